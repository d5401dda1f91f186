import PyProof.Rows.All
import Wide.All
import OpenK.AllK
import Wide.FinOn
import Lean
import PyProof.EqAt
import PyProof.EqKinds
import PyProof.NeKinds
import PyProof.TupleCall
import PySem.Challenge.RW_roofridges_k23_fronts_touched
set_option Elab.async false
set_option linter.all false
set_option exponentiation.threshold 500
set_option maxRecDepth 100000
set_option maxHeartbeats 4000000
open PySem renaming wpAny_bind→qa,boot_len→q5,starEach→jk,model→jl,bootBuiltins→kh,wpAny_newObj_type→va,mainGlobals→vn,wpAny_truthy_bool→vq,wpAny_holding→vv,mem_of_lookup→vw,compareOp→wh,wpAny_callSpecial?_slot→w6,wpAny_mono→w7,wpAny_call_entry→xa,wpAny_setState_of→xn,Params→xx,assignEach→xy,treeTable→x6,lookup_relabel_local→yu,wpAny_passesOwn→zj,OsState→zt,wpAny_setField→zv,binaryOp→zw,wpAny_askSetting→zx,wpAny_setEntries_of→z7,wpAny_pyIter_list→cq,relabel→cI,backTo→dh,wpAny_standAt→dk,behindInMarks→dm,swapsWith→d4,wpAny_field→d5,sliceBounds→fb,GenState→fi,pushCells→gj,wpAny_pyIter_enum→gm,ofAClassStatement→gp,holding→gy,wpAny_attempt→gK,comprehension→gR,assignInOrder→g0,Value→h7,codeAny_mono→lq,wpAny_loadPart'→lz,wpAny_execs_nil→l4,letOwnedTupleGo→l5,intItems→mf,wpAny_seqItems→my,wpAny_fieldsOf→mz,codeAny→nf,swapsWithSole→pb,swappedStores→pd,wpAny_Call_Name_kw→ph,numAt→rn,setNext→ro,sysModules→rz,wpAny_assign_Name→se,pyNext→tq,wpAny_typeOf→tw,Addr→Qa,wpAny_forIn_list→Qh,compPost→Qt,IsPart→QC,callerA→QF,wpAny_of_eq→QG,sizeLine_eq→QH,hashByValue→QI,wpAny_specialOf→QJ,firstArgMember→QZ,pyIter→Ji,wpAny_rule→Jj,wpAny_load→Jk,setsByText→Jl,builtinsNs→Jm,Model→Jt,standAt→Ju,newList→Jv,intKind→Jw,HeapKind→Jy,call→JB,wpAny_pyNext_enum_itemD→JC,wpAny_pyNext_list_item→JO,wpAny_pyNext_enum_endD→JP,pickOrder→Kb,lastMarks→Kc,PassesOwn→Kd,seqIndex_neg→Ke,Str→Kg,wpAny_pyNext_list_end→Kj,exec_Assign_Name_used→Kk,CmpOp→KF,getItem→KG,Keyword→KH,seqIndex_of→KI,intItems_at→KL,argsOk→KQ,bindName→KR,bindArgs→KS,Shared→KW,bindL→K4,bindC→K5,wpAny_Name→K6,wpAny_setEpoch_of→K9,wpAny_pyIter_slot→Va,searchCouldBeSeen→Vb,World→Vd,wpAny_isInstance→Vv,wpAny_execs_cons→Vw,wpAny_eqBool_int→Vx,Stmt→Vz,Heap→VA,Expr→VB,truthy→Wq,PlainL→Ws,wpAny_updateSeq→Wv,typeLookup_type→Ww,pushCells_keeps→Wx,importedModules→Wz,codeAny_of_tree→WA,wpAny_runValue→WL,wpAny_newTuple→WM,wpAny_bindName→WN,newFunctionEnv→WQ,isSubtype_type→WR,intBits_le_iff→WS,entryFor_alias→WT
open Rat renaming divInt→qb,intCast_mul→ju,divInt_eq_div→jv,div_mul_cancel→kd,intCast_pos→kf,num_divInt_den→vj,intCast_natCast→vm,intCast_le_intCast→vp,intCast_inj→xm,mul_pos→ym,intCast_zero→y1,mul_div_cancel→y6,not_lt→zi,divInt_mul_divInt→cg,le_trans→du,mul_nonneg→fc,le_refl→fo,intCast_lt_intCast→gq,le_of_lt→g9,div_def→lr,not_le→nh,zero_mul→nr,le_antisymm→si,intCast_sub→sj,mul_lt_mul_of_pos_right→sv,div_lt_iff→Qi,mul_assoc→QK,mul_comm→Q1,sub_eq_add_neg→JV,natCast_mul→KM,intCast_neg→KN,lt_div_iff→KU,neg_mul→WB
open PySem.Heap renaming get?_push_of_some→qc,get?_push_size→qu,lt_size→qv,size_push→vg,get?_update_self→vx,get?_update_other→bj,SameBut→dq,get?_push_ne→ff,ExtBut→fj,size_update→fu
open List renaming length_append→qe,size_toArray→qf,getElem?_map→qg,map_append→qi,range'→qj,mem_singleton→ql,mem_map→qo,mem_cons→qp,getElem?_append_right→qr,getElem?_eq_none→qw,getElem?_append_left→q6,range→q7,length_cons→ja,take_length→jb,append_assoc→jd,mem_append→jf,mem_cons_of_mem→jg,pairwise_iff_getElem→jj,mem_cons_self→jm,all_eq_true→jn,getElem_of_mem→jr,pairwise_cons→jt,replicate→jz,length_range→j3,length_range'→kc,getElem_mem→ke,map_cons→kj,getElem?_cons_succ→kl,mem_append_right→kq,getElem?_toArray→kr,pairwise_map→kv,map_congr_left→kz,mem_range→vb,length_dropLast→vc,lookup_cons→vd,map_map→ve,filter_cons_of_pos→vf,length_take→vh,pairwise_append→vo,not_mem_nil→vy,ext_getElem?→v3,pairwise_singleton→v7,length_eq_zero_iff→v8,filter_cons_of_neg→wa,append_nil→wg,mem_filter→wy,length_drop→w4,flatten_cons→xf,getElem?_range→xg,length_nil→xi,length_replicate→xk,getElem?_replicate→x3,mem_range'_1→x5,range_succ→x8,nodup_cons→x9,replicate_succ→ya,length_pos_iff→ye,filter_eq_nil_iff→yf,mem_flatMap→yi,length_filter_le→yk,mem_iff_getElem→yo,foldl_cons→yp,mem_reverse→yz,singleton_append→y9,length_singleton→za,cons_append→zl,filter_congr→bp,range'_succ→ck,mem_append_left→cu,length_reverse→cy,flatMap_append→cz,filter_append→dt,any_eq_true→ft,range_succ_eq_map→gb,pairwise_lt_range→gf,getElem_cons_succ→gh,getElem?_dropLast→gi,all_map→gu,pairwise_reverse→gv,map→gC,perm_cons_erase→hU,filterMap_cons→lg,sum_cons→mh,take_sublist→m4,nodup_append→m5,flatMap_cons→nc,getElem_map→nz,dropLast_concat_getLast→pz,length→ra,of_mem_zip→rb,length_set→rd,forIn_cons→rf,filter_nil→rh,length_eraseIdx_of_lt→tm,all_cons→Qw,take_of_length_le→QO,getElem?_set_self→QP,map_nil→QR,take_append_drop→QS,perm_append_comm→QT,pairwise_flatMap→QU,getElem_dropLast→QV,eq_replicate_iff→QW,eq_nil_or_concat→QX,reverse_reverse→Ja,replicate_succ'→Jb,mem_of_mem_take→Jc,mem_of_mem_drop→Jd,mem_of_getLast?→Je,getElem?_set_ne→Jf,getElem?_range'→Jg,reverse_append→Jn,getElem_range'→Jo,filter_eq_self→Jp,mem_filterMap→JH,getElem_range→JI,Nodup→JN,take_add_one→J0,getElem_take→J1,getElem_drop→J3,getElem?_set→J4,drop_sublist→J5,map_flatMap→Kq,length_zip→KC,filter_map→KD,forIn_nil→KO,drop_zero→KP,any_cons→KZ,toArray→Vf,lookup→VE
open PySem.W renaming Frag→qh,fnOf→yg,kitOne→yh,findIn→yt,cellsFrom_some→yy,kia_one→y4,keepIn→bb,methodObj→l9,OpenLaw→ni,codeIn→pk,mroIn→sk,mg_of→sr,nsIn→Qj,specialIn→Q7,kitx_list→Q8,kitMeta→JD,instObj→JE,kitAny→JW,exmOne→JY,excIn→Kl,WalkO→Km,isFn→Ky
open Nat renaming le_refl→qk,lt_of_le_of_lt→qn,le_trans→qq,lt_of_lt_of_le→qy,ne_of_lt→q4,mul_le_mul→ku,zero_le→k3,le_of_eq→wm,lt_succ_of_lt→wo,pow_le_pow_right→w3,lt_succ_self→xw,lt_irrefl→x4,lt_or_ge→yl,lt_trichotomy→yq,le_of_lt→yr,not_lt_zero→zz,eq_zero_or_pos→z8,add_sub_cancel→z9,le_succ→br,le_of_succ_le→b3,one_lt_pow→cc,sub_self→cf,ne_of_gt→dz,add_sub_cancel_left→fv,le_of_not_lt→f3,le_add_right→f5,pow_succ→hC,pow_add→lu,mul_le_mul_left→ma,add_comm→nt,one_mul→sd,mod_two_eq_zero_or_one→Qc,add_le_add→Qk,mod_lt→Qv,le_of_dvd→QL,succ_mul→Q2,min_self→Q3,eq_or_lt_of_le→JZ,not_lt→Kh,succ_ne_self→KA,mul_lt_mul''→KB,add_assoc→Ve,zero_add→VC,mul_comm→VD,mul_pos→WC,log2_lt→WD
open Int renaming toNat_natCast→qm,natAbs_mul→vi,gcd→wb,zero_add→we,natAbs_natCast→xp,mul_le_mul→y2,emod_lt_of_pos→y8,mul_ne_zero→ze,emod_nonneg→zf,mul_pos→bw,toNat_of_nonneg→md,mul_right_comm→mm,lt_of_le_of_lt→mq,le_of_lt→nu,ediv_nonneg→su,fmod_eq_emod_of_nonneg→Qe,eq_of_mul_eq_mul_right→Qf,natAbs_fdiv_le_natAbs→Qq,mul_neg_of_neg_of_pos→Qr,gcd_dvd_natAbs_right→Qz,fmod_nonneg_of_pos→QY,mul_comm→Q4,gcd_comm→Q5,gcd_eq_zero_iff→JJ,fdiv_mul_cancel→JK,gcd_zero_right→J6,fmod_lt_of_pos→J7,lt_trichotomy→Kr,gcd_dvd_right→Ks,gcd_dvd_left→KE,le_of_dvd→Vg,zero_mul→VF,add_zero→VG,neg_mul→WE,neg_dvd→WG,mul_one→WH,le_refl→WI
open Array renaming length_toList→qt,getElem?_eq_getElem→jc,getD_eq_getD_getElem?→jh,getElem?_toList→wj,mem_toList_iff→cn,getElem?_eq_none→fw,getElem_toList→hJ,getElem?_eq_some_iff→rm,mem_of_getElem?→QQ,forIn_toList→Jr,ext_getElem?→Js,toList_push→JL,size_append→JM,toList_inj→Ka,toList→K2,getD→VI
open Bool renaming and_eq_true→qx,and_true→vz,not_eq_true'→v5,eq_iff_iff→xj,false_eq_true→xo,and_false→h8,or_eq_true→ri,not_eq_false→J9,true_and→K0,or_false→K1
open Classical renaming byContradiction→qz,propDecidable→zp
open Option.some renaming inj→je
open PySem.Str renaming ofString→ji,empty→xl,length→hO
open PySem.SetTable renaming insertAt→jq,below→vr,Probe→xu,toList_insertAt→di,bits→dI,runEnd→fk,has→Qb,tooFull→Q6,slot→JS,fits→JT,fill→JU
open PySem.Value renaming ref→jw,none→j0,bool→wd,type→zc,int→gk,isInt→pf,str→Kf
open PySem.F renaming type_list_append→jx,slot_list_append→jy,plainAttrs_list→j1,slot_tuple_iterator_next→zk,plainAttrs_str→zy,type_str_join→bc,slot_str_join→bh,plain_list_iadd→td,args_tuple_iterator_next_1→Qg,slot_set_iter→Qo,plain_set_new→Qp,entry_tuple_iterator_next→Qs
open PySem.NameKind renaming free→ky,cell→wu
open PySem.Obj renaming data_mapFields→vk,mapSeq→x7,isFreed_of_fields→zg,cls_mapFields→fh,mapFields→fq,putSet→Qu
open PySem.W.Fast renaming te14364793385576792824→wc,tw14364793385576792824→xt,tw15667345088766844465→VP,tw14374325043358763698→VQ,tw14082659384304107361→VR,tw10110043849684766642→VS,te9446332074065402090→VT,te4187177175401517315→VU,te15667345088766844465→VV,te14374325043358763698→VW,te14082659384304107361→VX,te11892475500146522536→VY,te10110043849684766642→VZ
open Option renaming map_some→wx,isSome_iff_exists→zm,bind_eq_some_iff→fg,map_eq_some_iff→fm,getD_none→JF,bind_some→JG,map_map→Ko,none→KY
open PySem.Heap.SameBut renaming update→wz,refl→Wl,extBut→Wm
open ForInStep renaming yield→w8
open PyProof.Rows renaming SortSt→xh,callWith_type1→xq,boot_abs→yw,slot_tuple_getitem→zq,seqObj→ba,SortKind→dj,pendingOf→ll,AllBare→ng,assignInOrder_cons→pj,IntsAre→pw,envOfC→QB,failedOf→Jx,listUpdate_at→Jz,subscriptTail_builtinR→JQ,seqEpoch_at→KJ,size_push'→K7,assignInOrder_nil→Vc,lt_int→Wg,callWith_builtin1→Wh,boot_sorted→Wi,boot_isinstance→Wj,arrOf→Wp,minRun'→Wu,slicePart_none→WO
open PySem.PyData renaming hasDict→yj,showable→zu,shown→dd,depth→df,shownAll→fz,showableAll→h9,hasDictAll→mj,depthAll→nv
open PySem.Builtin.Str renaming occurrences→yn,subAt→cx
open PySem.Builtin.SmallTypes renaming nextOf→yx
open PyProof.Rows.F renaming plain_set_update_loop→y3,entry_set_update_loop→fe
open PySem.Builtin.Slice renaming slicePlaces→y5,sliceAdjust→cj,sliceApplied→lh,slicePartIndex→Vs,sliceFields→Vt
open PySem.Builtin.Tuple renaming tupleExact→zb,tupleHashOf→me,tupleItemsOf→Vr
open False renaming elim→zd
open PySem.Around renaming under_plainId→zh
open Ne renaming symm→cb
open PySem.SetTable.probe renaming go→cm
open List.Pairwise renaming nil→cv,imp_of_mem→cw,filter→Vq
open Std.Legacy.Range renaming forIn_eq_forIn_range'→dg,size→ml
open PySem.Builtin.Builtins renaming bindParams→gw
open List.cons renaming inj→hG
open PySem.Builtin.List renaming listExtendWith→lj,listTooLong→mr,listSameRef→mw,listTouch→Wn,listLengthHint→Wo
open PySem.SeqAt.EqAt renaming same→mi,str_int→Ql,of_refs→Qm,int_str→Qn,tuple_str→WX,tuple_none→WY,tuple_list→WZ,tuple_int→W1,tuple_bool→W2,str_tuple→W3,str_str→W4,str_none→W5,str_list→W6,str_bool→W7,none_tuple→W8,none_str→W9,none_list→Xa,none_int→Xb,none_bool→Xc,list_tuple→Xd,list_str→Xe,list_none→Xf,list_int→Xg,list_bool→Xh,int_tuple→Xi,int_none→Xj,int_list→Xk,int_int→Xl,int_bool→Xm,bool_tuple→Xn,bool_str→Xo,bool_none→Xp,bool_list→Xq,bool_int→Xr,bool_bool→Xs
open True renaming intro→mx
open PySem.Txt renaming join→nj,join→K8
open PySem.SeqAt.RcAt renaming lists_lengths→nk,tuples→Qx,lists→QN,tuple_list→WV,list_tuple→WW
open List.Nodup renaming mem_erase_iff→nq
open Prod renaming ext→n7
open PySem.SetTable.below renaming go→rj
open PySem.Calls renaming Name_function_global→rk
open Sum renaming inr→rp,inl→rq
open PyProof.Rows.SortSt renaming mk'→sb
open PySem.pickOrder renaming go→sf
open PySem.IsTupleKey renaming typeIs→Qy
open PySem.Heap.ExtBut renaming push→QA
open Or renaming inr→QD,inl→QE
open Std.Legacy renaming Range→QM
open PySem.Walks renaming tuple→Q0,list→JA
open PySem.PassesOwn renaming never→Q9
open List.Perm renaming of_eq→Jh,cons→Jq
open StateT renaming run_pure→JR
open Function renaming comp→J8
open PyProof.Rows.IsTup renaming new→Ki
open PySem.Builtin.Frozenset renaming updateFrom→Kt,slot0→Ku,sizeOf→Kv,newClass→Kw
open PySem.Shared renaming TypeIs→Kx
open PySem.Paired renaming length→Kz
open PySem.Heap.IsSliceOf renaming new→K3
open PySem.StrLaws renaming reprText_len→Vh
open PySem.EqMixed renaming ne_str_int→Vi,ne_str_bool→Vj,ne_int_str→Vk,ne_bool_str→Vl,eq_str_int→Vm,eq_str_bool→Vn,eq_int_str→Vo,eq_bool_str→Vp
open PySem.Builtin.Range renaming rangeSize→Vu
open PySem.SeqAt renaming EqAt→Vy
open PySem.Draws renaming list→VH
open PySem.SeqAt.RcNeAt renaming tuples→VJ,tuple_list→VL,lists_lengths→VM,lists→VN,list_tuple→VO
open PySem.EqNone renaming ne_str_none→V0,ne_none_str→V1,ne_none_none→V2,ne_none_int→V3,ne_none_bool→V4,ne_int_none→V5,ne_bool_none→V6,eq_str_none→V7,eq_none_str→V8,eq_none_none→V9,eq_none_int→Wa,eq_none_bool→Wc,eq_int_none→Wd,eq_bool_none→We
open Nat.Coprime renaming symm→WJ,dvd_of_dvd_mul_left→WK
open PySem.Flow renaming next→WU
theorem zLm{α β}{l:List α}(f:α->β):(l.map f).length=l.length:=List.length_map f
theorem zGe{α}{l:List α}{i:Nat}(h:i<l.length):l[i]?=some l[i]:=List.getElem?_eq_getElem h
theorem zGd{α}{l:List α}{i:Nat}{a:α}:l.getD i a=l[i]?.getD a:=List.getD_eq_getElem?_getD
theorem zGs{α}{l:List α}{i:Nat}{a:α}(h:l[i]?=some a):∃h:i<l.length,l[i]=a:=List.getElem?_eq_some_iff.mp h
theorem zMo{α}{l:List α}{i:Nat}{a:α}(h:l[i]?=some a):a∈l:=List.mem_of_getElem? h
theorem zBf:false≠true:=Bool.false_ne_true
variable {xs ys:List Int}{us ws ws' us':List Rat}{x qual name x1 x2:Kg}{u:h7}{a it f tu dx C:Qa}{o e c tg iter elt:VB}{b:Int}{P prog:PySem.Program}{w:Vd}{h base h':VA}{t' i j n m ep kk ny nx lo nrem:Nat}{ch fp:List Qa}{N ns loose zs:List Kg}{A:PySem.Around}{s' s:KW}{pins:List (Qa×PySem.Obj)}{t y:Rat}{st:Vz}{es ifs tgs elts:List VB}{pos' px py pos ip spos apos cpos p2 tp px1 px2:PySem.Pos}{its:List h7}{fd:PySem.FuncData}{mg:Kg->Option h7}{scope:PySem.Scope}{od:Option Qa}{items:Array h7}{YP:Vd->VA->Prop}{l js post pl:List Nat}{Q':h7->KW->Prop}{ks:List (List Int)}{segs:List (List Nat)}{ss:List Vz}
set_option hygiene false in
local macro_rules
|`($t.$i:fieldIdx)=>match i.raw.isFieldIdx?.getD 0 with|3=>`(aA $t)|4=>`(aC $t)|5=>`(z6 $t)|6=>`(aB 0 rfl $t)|7=>`(aG aE $t)|8=>`(aB 1 rfl $t)|9=>`(Q.top $t)|10=>`(aB 2 rfl $t)|11=>`(aH (.tup _) rfl $t)|12=>`(jl prog $t)|13=>`(aB 3 rfl $t)|14=>`(jl X.prog $t)|15=>`(aB 4 rfl $t)|16=>`(wpAny_pure $t)|17=>`(S "/claim/cut.py" $t)|18=>`(aP aZ T.len q5 $t)|19=>`(aY X scope cs C (x::ns) s₀ H₀ $t)|20=>`(cellsFrom (s3.heap.objs.size+1) scope.names $t)|21=>`(aY X scope cs C (x1::x2::ns) s₀ H₀ $t)|22=>`(aY X scope (cellsFrom (s3.heap.objs.size+1) scope.names cl) s3.heap.objs.size (xs++ns) s3 H3 $t)|_=>Lean.Macro.throwUnsupported

set_option hygiene false in
local macro_rules
|`($c:char)=>match c.getChar with|'!'=>`(by lia)|'#'=>`(by decide)|'$'=>`(by omega)|'%'=>`(by simp)|'&'=>`(by decide +kernel)|'*'=>`(.lst _)|'+'=>`(⟨by lia,by lia⟩)|','=>`(.ListComp elt [⟨.Name x px,iter,ifs,0⟩] scope pos)|'-'=>`(show 1<=sizeLine by decide)|'.'=>`(.ListComp elt [⟨.Tuple [.Name x1 px1, .Name x2 px2] kk tp,iter,ifs,0⟩] scope pos)|'/'=>`(show 2<=sizeLine by decide)|_=>Lean.Macro.throwUnsupported
noncomputable section
namespace L2
open PySem PySem.Spec PyProof.Rows
abbrev Key:=Sum Int Str
noncomputable def aMK:Key->Value->Bool
 |.inl k,v=>pf k v
 |.inr x,v=>Value.isStrOf x v
noncomputable def keyH(w:World):Key->Int
 |.inl k=>hashInt k
 |.inr x=>hashStr w x
theorem dM:∀{k:Key}{v:Value},aMK k v=true->(∃i t,k=rq i/\v=gk i t)\/(∃x t,k=rp x/\v=Kf x t)
 |.inl i,v,h=>by
  obtain⟨t,e⟩:=Value.isInt_shape (k:=i) (v:=v) h
  exact .inl ⟨i,t,rfl,e⟩
 |.inr x,v,h=>by
  obtain⟨t,e⟩:=Value.isStrOf_shape (x:=x) (v:=v) h
  exact .inr ⟨x,t,rfl,e⟩
theorem aSP(a b:Int):decide ((rq a:Key)=rq b)=(a==b):=by
 by_cases e:a=b
 ·subst e;simp
 ·have h:¬(rq a:Key)=rq b:=λq=>e (Sum.inl.inj q)
  rw[decide_eq_false h]
  exact (beq_eq_false_iff_ne.mpr e).symm
theorem aRX(a b:Str):decide ((rp a:Key)=rp b)=decide (a=b):=by
 by_cases e:a=b
 ·subst e;simp
 ·have h:¬(rp a:Key)=rp b:=λq=>e (Sum.inr.inj q)
  rw[decide_eq_false h,decide_eq_false e]
theorem aSV(a:Int)(b:Str):decide ((rq a:Key)=rp b)=false:=decide_eq_false (λq=>nomatch q)
theorem aRT(a:Str)(b:Int):decide ((rp a:Key)=rq b)=false:=decide_eq_false (λq=>nomatch q)
noncomputable def wU(prog:Program)(w:World):PySem.KeyKind prog w Key where
 is:=aMK
 hash:=keyH w
 inj:=λv a b ha hb=>by
  rcases dM ha with ⟨i,t,rfl,rfl⟩|⟨x,t,rfl,rfl⟩
  ·rcases dM hb with ⟨j,u,rfl,e⟩|⟨y,u,rfl,e⟩
   ·injection e with e1 _;rw[e1]
   ·exact nomatch e
  ·rcases dM hb with ⟨j,u,rfl,e⟩|⟨y,u,rfl,e⟩
   ·exact nomatch e
   ·injection e with e1 _;rw[e1]
 byValue:=λk v h=>by
  rcases dM h with ⟨i,t,rfl,rfl⟩|⟨x,t,rfl,rfl⟩ <;> rfl
 pyHash:=λhv h=>by
  rcases dM hv with ⟨i,t,rfl,rfl⟩|⟨x,t,rfl,rfl⟩
  ·exact wpAny_pyHash_int h
  ·exact wpAny_pyHash_str h
 eqBool:=λhu hv h=>by
  rcases dM hu with ⟨i,t,rfl,rfl⟩|⟨x,t,rfl,rfl⟩
  ·rcases dM hv with ⟨j,u,rfl,rfl⟩|⟨y,u,rfl,rfl⟩
   ·rw[aSP] at h;exact Vx h
   ·rw[aSV] at h;exact Qn i t y u _ _ _ _ h
  ·rcases dM hv with ⟨j,u,rfl,rfl⟩|⟨y,u,rfl,rfl⟩
   ·rw[aRT] at h;exact Ql x t j u _ _ _ _ h
   ·rw[aRX] at h;exact wpAny_eqBool_str h
 «strs» := λk x t v h=>by
  rcases dM h with ⟨i,u,rfl,e⟩|⟨y,u,rfl,e⟩
  ·exact nomatch e
  ·injection e with e1 _
   subst e1
   cases v <;> rfl
inductive V where
 |non|bl (b:Bool)|int (i:Int)|str (x:Str)|byt (b:Array UInt8)|flt (b:UInt64)|ref (a:Addr)|ty (n:String)
 deriving DecidableEq
noncomputable def RelV:V->Value->Prop
 |.non,u=>u=j0
 |.bl b,u=>u=wd b
 |.int i,u=>∃t,u=gk i t
 |.str x,u=>∃t,u=Kf x t
 |.byt b,u=>∃t,u=Value.bytes b t
 |.flt b,u=>∃t,u=Value.float b t
 |.ref a,u=>u=jw a
 |.ty n,u=>u=zc n
abbrev Vals:List V->List Value->Prop:=Paired RelV
theorem Vals.length{xs:List V}{us:List Value}(r:Vals xs us):xs.length=us.length:=Kz r
theorem Vals.get:∀{xs:List V}{us:List Value}{i:Nat}{x:V},Vals xs us->xs[i]?=some x->∃u,us[i]?=some u/\RelV x u
 |_,_,_,_, .nil,e=>by simp at e
 |_,_,0,_, .cons r _,e=>by simp at e;subst e;exact⟨_,rfl,r⟩
 |_,_,i+1,x, .cons _ t,e=>by
  obtain⟨u,b,a⟩:=Vals.get (i:=i) (x:=x) t (by simpa using e)
  exact⟨u,by simpa using b,a⟩
theorem Vals.set{x:V}(r:RelV x u):∀{xs:List V}{us:List Value} (i:Nat),Vals xs us->Vals (xs.set i x) (us.set i u)
 |_,_,_, .nil => .nil
 |_,_,0, .cons _ t => .cons r t
 |_,_,i+1, .cons q t => .cons q (Vals.set r i t)
theorem Vals.append:∀{xs ys:List V}{us ws:List Value},Vals xs us->Vals ys ws->Vals (xs++ys) (us++ws)
 |_,_,_,_, .nil,s=>s
 |_,_,_,_, .cons r t,s => .cons r (Vals.append t s)
theorem Vals.take:∀{xs:List V}{us:List Value} (n:Nat),Vals xs us->Vals (xs.take n) (us.take n)
 |_,_,0,_ => .nil
 |_,_,_+1, .nil => .nil
 |_,_,n+1, .cons r t => .cons r (Vals.take n t)
theorem Vals.drop:∀{xs:List V}{us:List Value} (n:Nat),Vals xs us->Vals (xs.drop n) (us.drop n)
 |_,_,0,r=>r
 |_,_,_+1, .nil => .nil
 |_,_,n+1, .cons _ t=>Vals.drop n t
noncomputable def RelO:Option V->Option Value->Prop
 |some v,some u=>RelV v u
 |none,none=>True
 |_,_=>False
noncomputable def KV{κ:Type}:List (κ×V)->List (κ×Value)->Prop:=Paired λ(p:κ×V) (q:κ×Value)=>p.1=q.1/\RelV p.2 q.2
noncomputable def kV:Key->V
 |.inl i => .int i
 |.inr x => .str x
inductive HO where
 /-- a list -/
 |lst (xs:List V)
 /-- a tuple (never changes) -/
 |tup (xs:List V)
 /-- a dict whose keys are ints and texts;one whose keys are tuples of ints and texts (the empty one is both) -/
 |dK (kvs:List (Key×V))|dT (kvs:List (List Key×V))
 /-- a set of ints: its members,its size -/
 |set (S:Int->Bool) (n:Nat)
 /-- an instance of the class at C,its dict at dx,its attributes -/
 |ins (C dx:Addr) (fs:List (Str×V))
 /-- the dict of the instance at x -/
 |own (x:Addr)
 /-- the dict of an exception -/
 |xd (fs:List (Str×V))
 /-- a bound method,f of x -/
 |met (f x:Addr)
 /-- a range object lo,lo+1, .. below hi -/
 |rng (lo hi:Int)
 /-- a thing that is known to the object (the script;a dict while a loop walks it): read,never written while it is so -/
 |frz (o:Obj) (u:HO)
 /-- a code object's table -/
 |tbl (ps:Array Value)
 /-- any other thing,by what is true of its one object (a def of one's own: SetO a S n:=HO.ext λh => ..) -/
 |ext (φ:Heap->Prop)
abbrev Hp:=Addr->Option HO
noncomputable def upd(H:Hp)(a:Addr)(o:HO):Hp:=λb=>if b=a then some o else H b
theorem bJ{H:Hp}{o:HO}:upd H a o a=some o:=by unfold upd;rw[if_pos rfl]
theorem bB{H:Hp}{b:Addr}{o:HO}(h:b≠a):upd H a o b=H b:=by unfold upd;rw[if_neg h]
theorem bM{H:Hp}{b:Addr}{o:HO}(h:H a=some o)(h':H b=none):a≠b:=by
 intro e;subst e;rw[h] at h';cases h'
section
variable (P:Program)(w:World)
noncomputable def eY(H:Hp)(h:Heap)(a:Addr):HO->Prop
 |.lst xs=>xs.length<=sizeLine/\∃(its:List Value) (n:Nat),Vals xs its/\h.get? a=some {cls := .type "list", data := .seq its.toArray n}
 |.tup xs=>xs.length<=sizeLine/\∃its:List Value,Vals xs its/\IsTup h a its.toArray
 |.dK kvs=>kvs.length<=sizeLine/\(a==rz)=false/\∃vs,KV kvs vs/\h.DictOf (wU P w) a vs
 |.dT kvs=>kvs.length<=sizeLine/\(a==rz)=false/\∃xs:List (List Key×Addr×Value),
   Paired (λ(p:List Key×V) (q:List Key×Addr×Value)=>p.1=q.1/\H q.2.1=some (.tup (p.1.map kV))/\RelV p.2 q.2.2) kvs xs /\
   ∃o es ep,h.get? a=some o/\o.ExactDict/\o.data = .dict es ep/\es.toList=xs.map (entryOfKey (tupleKind (wU P w)))/\(xs.map (·.1)).Nodup
 |.set S n=>h.SetOf (Jw P w) a S n
 |.ins C dx fs=>H dx=some (.own a)/\fs.length<=1000/\dx≠a/\h.get? a=some (JE C dx) /\
   ∃mA,h.Ns1 dx mA/\(∀f,RelO (fs.lookup f) (mA f))/\PySem.Within mA (fs.map (·.1))
 |.own _=>∃o,h.get? a=some o
 |.xd fs=>∃mA,h.Ns1 a mA/\∀f,RelO (fs.lookup f) (mA f)
 |.rng lo hi=>∃t u v,h.get? a=some {cls := .type "range", data := .fields #[.int lo t, .int hi u, .int 1 v]}
 |.frz o u=>h.get? a=some o/\eY H h a u
 |.tbl ps=>h.get? a=some {cls := .none,data := .fields ps}
 |.met f x=>h.get? a=some (l9 (.ref f) (.ref x))
 |.ext φ=>φ h/\(∃o,h.get? a=some o)/\∀h1 h2:Heap,φ h1->(∀o,h1.get? a=some o->h2.get? a=some o)->φ h2
noncomputable def HOk(H:Hp)(h:Heap):Prop:=∀a o,H a=some o->eY P w H h a o
end
section
variable {H H':Hp}{o:HO}
theorem eY.lt(x:eY P w H h a o):a<h.objs.size:=by
 cases o with
 |lst xs=>obtain⟨_,_,_,_,e⟩:=x;exact qv e
 |tup xs=>obtain⟨_,_,_,p⟩:=x;exact p.lt
 |dK kvs=>obtain⟨_,_,_,_,o,_,_,e,_⟩:=x;exact qv e
 |dT kvs=>obtain⟨_,_,_,_,o,_,_,e,_⟩:=x;exact qv e
 |set S n=>obtain⟨o,_,_,_,e,_⟩:=x;exact qv e
 |ins C dx fs=>obtain⟨_,_,_,e,_⟩:=x;exact qv e
 |own y=>obtain⟨_,e⟩:=x;exact qv e
 |xd fs=>obtain⟨_,⟨_,_,_,e,_⟩,_⟩:=x;exact qv e
 |rng lo hi=>obtain⟨_,_,_,e⟩:=x;exact qv e
 |frz ob u=>obtain⟨e,_⟩:=x;exact qv e
 |tbl ps=>exact qv (show h.get? a=some _ from x)
 |met f y=>exact qv (show h.get? a=some _ from x)
 |ext φ=>obtain⟨_,⟨_,e⟩,_⟩:=x;exact qv e
theorem Paired.mapP{α β:Type}{F G:α->β->Prop}:∀{l₁:List α}{l₂:List β},Paired F l₁ l₂->(∀a b,F a b->G a b)->Paired G l₁ l₂
 |_,_, .nil,_ => .nil
 |_,_, .cons r t,f => .cons (f _ _ r) (Paired.mapP t f)
theorem eY.stay(x:eY P w H h a o)(k:∀b u,(b=a\/H b=some (.own a))->h.get? b=some u->h'.get? b=some u)(ho:∀b,H b=some (.own a)->H' b=some (.own a))(ht:∀b xs,H b=some (.tup xs)->H' b=some (.tup xs)):eY P w H' h' a o:=by
 induction o with
 |lst xs=>obtain⟨z,j,n,r,e⟩:=x;exact⟨z,j,n,r,k _ _ (.inl rfl) e⟩
 |tup xs=>obtain⟨z,j,r,ob,e,c⟩:=x;exact⟨z,j,r,ob,k _ _ (.inl rfl) e,c⟩
 |dK kvs=>obtain⟨z,y,vs,r,ob,i,g,e,c⟩:=x;exact⟨z,y,vs,r,ob,i,g,k _ _ (.inl rfl) e,c⟩
 |dT kvs =>
  obtain⟨z,y,xs,r,ob,i,g,e,c⟩:=x
  exact⟨z,y,xs,Paired.mapP r λp q z=>⟨z.1,ht _ _ z.2.1,z.2.2⟩,ob,i,g,k _ _ (.inl rfl) e,c⟩
 |set S n=>obtain⟨ob,i,g,t,e,c⟩:=x;exact⟨ob,i,g,t,k _ _ (.inl rfl) e,c⟩
 |ins C dx fs =>
  obtain⟨d,z,ne,e,l,⟨m,i,g,s,c⟩,r⟩:=x
  exact⟨ho _ d,z,ne,k _ _ (.inl rfl) e,l,⟨m,i,g,k _ _ (.inr d) s,c⟩,r⟩
 |own y=>obtain⟨ob,e⟩:=x;exact⟨ob,k _ _ (.inl rfl) e⟩
 |xd fs=>obtain⟨l,⟨m,i,g,e,c⟩,r⟩:=x;exact⟨l,⟨m,i,g,k _ _ (.inl rfl) e,c⟩,r⟩
 |rng lo hi=>obtain⟨t,u,v,e⟩:=x;exact⟨t,u,v,k _ _ (.inl rfl) e⟩
 |frz ob u ih=>obtain⟨e,q⟩:=x;exact⟨k _ _ (.inl rfl) e,ih q⟩
 |tbl ps =>
  have e:h.get? a=some {cls := .none,data := .fields ps}:=x
  show h'.get? a=some {cls := .none,data := .fields ps}
  exact k a _ (.inl rfl) e
 |met f y =>
  have e:h.get? a=some (l9 (.ref f) (.ref y)):=x
  show h'.get? a=some (l9 (.ref f) (.ref y))
  exact k a _ (.inl rfl) e
 |ext φ=>obtain⟨p,⟨o,e⟩,st⟩:=x;exact⟨st _ _ p λo q=>k _ _ (.inl rfl) q,⟨o,k _ _ (.inl rfl) e⟩,st⟩
theorem HOk.lt(x:HOk P w H h)(e:H a=some o):a<h.objs.size:=(x a o e).lt
theorem HOk.fresh(x:HOk P w H h)(e:h.objs.size<=a):H a=none:=by
 cases q:H a with
 |none=>rfl
 |some u=>exact absurd (qy (x.lt q) e) (x4 _)
theorem HOk.kept(x:HOk P w H h)(k:∀b u,h.get? b=some u->h'.get? b=some u):HOk P w H h':=λa o e =>
 (x a o e).stay (λb u _ q=>k b u q) (λ_ q=>q) λ_ _ q=>q
theorem HOk.laid(x:HOk P w H h)(k:∀b u,h.get? b=some u->h'.get? b=some u)(hp:h.objs.size<=a)(new:eY P w (upd H a o) h' a o):HOk P w (upd H a o) h':=λb u e=>by
 have f:=x.fresh hp
 by_cases d:b=a
 ·subst d;rw[bJ] at e;cases e;exact new
 ·rw[bB d] at e
  exact (x b u e).stay (λc v _ q=>k c v q) (λc q=>by rw[bB (bM q f)];exact q) λc xs q=>by rw[bB (bM q f)];exact q
end
noncomputable def Rd(H:Hp)(a:Addr)(u:HO):Prop:=H a=some u\/∃o,H a=some (.frz o u)
theorem Rd.ok{H:Hp}{u:HO}(r:Rd H a u)(x:HOk P w H h):eY P w H h a u:=by
 rcases r with r|⟨o,r⟩
 ·exact x a u r
 ·obtain⟨_,q⟩:=x a _ r
  exact q
noncomputable def Mut:Option HO->Prop
 |some '*'=>True
 |some (.dK _)=>True
 |some (.dT _)=>True
 |some (.set _ _)=>True
 |some (.ins _ _ _)=>True
 |some (.ext _)=>True
 |_=>False
section
variable {H:Hp}{x e:Addr}{o':HO}
theorem HOk.write(ok:HOk P w H h)(mu:Mut (H x))(he:e=x\/H e=some (.own x))(k:∀b u,b≠e->h.get? b=some u->h'.get? b=some u)(heo:∃u,h'.get? e=some u)(new:eY P w (upd H x o') h' x o'):HOk P w (upd H x o') h':=λb u q=>by
 have d:∀c y,H c=some (.own y)->c≠x:=λc y r z=>by subst z;rw[r] at mu;exact mu
 have f:∀c xs,H c=some (.tup xs)->c≠x:=λc xs r z=>by subst z;rw[r] at mu;exact mu
 by_cases g:b=x
 ·subst g;rw[bJ] at q;cases q;exact new
 ·rw[bB g] at q
  by_cases a:b=e
  ·have j:H b=some (.own x):=by
    rcases he with z|z
    ·exact absurd (a.trans z) g
    ·rw[a];exact z
   rw[q] at j;cases j
   obtain⟨v,l⟩:=heo
   exact⟨v,by rw[a];exact l⟩
  ·refine (ok b u q).stay (λc v i r=>k c v ?_ r) (λc r=>by rw[bB (d c b r)];exact r) λc xs r=>by rw[bB (f c xs r)];exact r
   rcases i with rfl|i
   ·exact a
   ·rintro rfl
    rcases he with z|z
    ·exact d c b i z
    ·rw[i] at z;cases z;exact g rfl
end
structure Un(fs ex:List Addr)(H H':Hp)(h h':Heap):Prop where
 keep:∀b o,h.get? b=some o->H b=none->b∉fs->b∉ex->h'.get? b=some o
 slot:∀b o,h.get? b=some o->H b=none->b∈fs->b∉ex->∃sl,h'.get? b=some {o with slots:=sl}
 free:∀b o,h.get? b=some o->H b=none->b∉ex->H' b=none
 there:∀b o,h.get? b=some o->b∉ex->∃o',h'.get? b=some o'
 tups:∀b xs,H b=some (.tup xs)->H' b=some (.tup xs)
 frzs:∀b o u,H b=some (.frz o u)->H' b=some (.frz o u)
 tbls:∀b ps,H b=some (.tbl ps)->∃more,H' b=some (.tbl (ps++more))
section
variable {fs fs' ex ex':List Addr}{H H1 H2:Hp}{h1 h2:Heap}{x e:Addr}{o:HO}
theorem Un.any(u:Un fs ex H H1 h h1){b:Addr}{ob:Obj}(q:h.get? b=some ob)(n:H b=none)(hx:b∉ex):∃sl,h1.get? b=some {ob with slots:=sl}:=by
 by_cases a:b∈fs
 ·exact u.slot b ob q n a hx
 ·exact⟨ob.slots,u.keep b ob q n a hx⟩
theorem Un.kept(k:∀b u,h.get? b=some u->h'.get? b=some u):Un fs ex H H h h':=
 ⟨λb ob q _ _ _=>k b ob q,λb ob q _ _ _=>⟨ob.slots,k b ob q⟩,λ_ _ _ n _=>n,λb ob q _=>⟨ob,k b ob q⟩,λ_ _ q=>q,λ_ _ _ q=>q,λ_ ps q=>⟨#[],by rw[q];simp⟩⟩
theorem Un.refl:Un fs ex H H h h:=Un.kept λ_ _ q=>q
theorem Un.laid(k:∀b u,h.get? b=some u->h'.get? b=some u)(hp:h.objs.size<=a)(hn:H a=none):Un fs ex H (upd H a o) h h' where
 keep:=λb u q _ _ _=>k b u q
 slot:=λb u q _ _ _=>⟨u.slots,k b u q⟩
 free:=λb u q n _=>by rw[bB (q4 (qy (qv q) hp))];exact n
 there:=λb u q _=>⟨u,k b u q⟩
 tups:=λb xs q=>by rw[bB (bM q hn)];exact q
 frzs:=λb u xs q=>by rw[bB (bM q hn)];exact q
 tbls:=λb ps q=>⟨#[],by rw[bB (bM q hn),q];simp⟩
theorem Un.write(mu:Mut (H x))(he:e=x\/H e=some (.own x))(k:∀b u,b≠e->h.get? b=some u->h'.get? b=some u)(heo:∃u,h'.get? e=some u):Un fs ex H (upd H x o) h h':=by
 have d:∀b,H b=none->b≠x:=λb n z=>by subst z;rw[n] at mu;exact mu
 have c:∀b,H b=none->b≠e:=λb n z=>by
  subst z
  rcases he with r|r
  ·exact d b n r
  ·rw[n] at r;cases r
 have hm:∀b u,H b=some u->¬Mut (some u)->b≠x:=λb u q nm z=>by subst z;rw[q] at mu;exact nm mu
 refine⟨λb u q n _ _=>k b u (c b n) q,λb u q n _ _=>⟨u.slots,k b u (c b n) q⟩,λb u q n _=>by rw[bB (d b n)];exact n,λb u q _ => ?_,
  λb xs q=>by rw[bB (hm b _ q λz=>z)];exact q,λb u xs q=>by rw[bB (hm b _ q λz=>z)];exact q,λb ps q=>⟨#[],by rw[bB (hm b _ q λz=>z),q];simp⟩⟩
 by_cases a:b=e
 ·subst a;exact heo
 ·exact⟨u,k b u a q⟩
end
noncomputable def trk(h:Heap)(H:Hp):List Addr:=(q7 h.objs.size).filter λa=>(H a).isSome
noncomputable def pQ(h:Heap)(H:Hp):Heap:=PySem.W.hideAll h (trk h H)
theorem aHM(h:Heap)(H:Hp):(pQ h H).objs.size=h.objs.size:=PySem.W.hideAll_size _ _
theorem aJT{H:Hp}{b:Addr}{o:Obj}(e:h.get? b=some o)(n:H b=none):(pQ h H).get? b=some o:=
 PySem.W.hideAll_get _ e λhm=>by
  have q:(H b).isSome=true:=(wy.mp hm).2
  rw[n] at q;simp at q
theorem aOW{H:Hp}{b:Addr}{o:Obj}(e:(pQ h H).get? b=some o):h.get? b=some o/\H b=none:=by
 have a:h.get? b=some o:=PySem.W.of_hideAll (trk h H) e
 refine⟨a,?_⟩
 cases q:H b with
 |none=>rfl
 |some x =>
  have hm:b∈trk h H:=wy.mpr ⟨vb.mpr (qv a),by simp[q]⟩
  have z:(pQ h H).get? b=none:=PySem.W.hideAll_none (trk h H) hm
  rw[z] at e;cases e
noncomputable def aQK(g h:Heap)(L:Addr):List (Addr×Obj):=(q7 h.objs.size).filterMap λa=>if a=L\/(g.get? a).isSome=true then none else (h.get? a).map λo=>(a,o)
noncomputable def rest(g h:Heap)(L d:Addr):List (Addr×Obj):=(aQK g h L).filter λp=>decide (p.1≠d)
end L2
variable {H H' H1 G G' G0:L2.Hp}{v:L2.V}
namespace L2
open PySem PySem.Spec PyProof.Rows
structure Mod(K:qh)(mg:Str->Option Value)(base:Heap):Prop where
 kin:K.In base
 glob:base.Ns vn mg
 blt:∃mb,base.Ns Jm mb/\∀x:Str,x ≠ "__name__" -> mb x=kh x
 nolimit:base.NoLimit
/-- the context: a def's body (or a comprehension's block) running. base: fixed through the whole law;s₀,H₀: the entry;outer: the frames whose slots others may change (a def's callers);stack: all frames that run;
   ex: iterators that were made ahead of the entry and are walked here (a comprehension's);fn: the names whose cells were made at the entry (a def: all;a comprehension's block: its own);calm: not within an except suite;pn: pins that every state bears;xe: what is wanted of an exception that leaves the code -/
structure Cx where
 prog:Program
 w:World
 K:qh
 mg:Str->Option Value
 base:Heap
 A:Around
 N:List Str
 s₀:Shared
 H₀:Hp
 env:Env
 outer:List Env
 stack:List Env
 ex:List Addr
 fn:Str->Bool
 calm:Bool
 pn:List (Addr×Obj)
 xe:Value->Shared->Prop
noncomputable def frs(l:List Env):List Addr:=l.filterMap (·.frame)
abbrev Cx.fs(X:Cx):List Addr:=frs X.outer
noncomputable def Vis(sc:Scope)(x:Str):Prop:=sc.names.lookup x=some .local\/sc.names.lookup x=some .cell\/sc.names.lookup x=some .free
noncomputable def Loc(sc:Scope)(x:Str):Prop:=sc.names.lookup x=some .local\/sc.names.lookup x=some .cell
noncomputable def Look(env:Env)(h:Heap)(m:Str->Option Value)(x:Str)(u:Value):Prop:=
 (env.kindOf x=some .local/\m x=some u)\/((env.kindOf x=some .cell\/env.kindOf x=some .free)/\∃c,env.cells.lookup x=some c/\h.IsCell c (some u))
structure Cx.Ok(X:Cx):Prop where
 mod:Mod X.K X.mg X.base
 kind:X.env.scope.kind = .function
 glob:X.env.globals=vn
 blt:X.env.builtins=Jm
 above:X.s₀.heap.objs.size<=X.env.locals
 inj:∀x y c,X.env.cells.lookup x=some c->X.env.cells.lookup y=some c->x=y
 has:∀x,(X.env.kindOf x=some .cell\/X.env.kindOf x=some .free)->∃c,X.env.cells.lookup x=some c
 cab:∀x c,X.fn x=true->X.env.cells.lookup x=some c->X.s₀.heap.objs.size<=c
 hd:X.calm=true->X.A.handled=none
 frames:X.A.frames=some X.stack
 stk:X.stack=X.outer\/(X.stack=X.env::X.outer/\X.env.frame=some X.env.locals)
 exf:∀b∈X.ex,b≠X.env.locals/\∀x c,X.env.cells.lookup x=some c->c≠b
 bs:∀b o,X.base.get? b=some o->X.s₀.heap.get? b=some o/\X.H₀ b=none
 bsz:X.base.objs.size<=X.s₀.heap.objs.size
 noex:∀b o,X.base.get? b=some o->b∉X.ex
 exfs:∀b∈X.ex,b∉X.fs
 funs:X.s₀.heap.FunFrames X.base X.outer
 frf:∀b∈X.fs,X.H₀ b=none
structure Inv(X:Cx)(pins:List (Addr×Obj))(σ:List (Option V))(H:Hp)(s:Shared):Prop where
 ok:X.Ok
 os:s.os=X.s₀.os
 bare:ng s.gens
 base:Un X.fs X.ex X.H₀ H X.s₀.heap s.heap
 loc:∃m,s.heap.Ns X.env.locals m/\∀(i:Nat) (x:Str) (v:V),X.N[i]?=some x->σ[i]?=some (some v)->Vis X.env.scope x->∃u,RelV v u/\Look X.env s.heap m x u
 cell:∀x c,X.env.cells.lookup x=some c->∃v,s.heap.IsCell c v
 free:H X.env.locals=none
 freeC:∀x c,X.env.cells.lookup x=some c->H c=none
 pin:∀p∈X.pn++pins,s.heap.get? p.1=some p.2/\H p.1=none/\p.1≠X.env.locals/\p.1∉X.fs/\∀v,p.2.data ≠ .cell v
 hok:HOk X.prog X.w H s.heap
 len:σ.length=X.N.length
section
variable {X:Cx}{σ:List (Option V)}
theorem Cx.Ok.nofr(ok:X.Ok){b:Addr}{o:Obj}(e:X.base.get? b=some o):b∉X.fs:=λhb=>by
 have:=(ok.funs.mem hb).1
 rw[e] at this;cases this
theorem Inv.bs(I:Inv X pins σ H s):∀b o,X.base.get? b=some o->s.heap.get? b=some o/\H b=none:=λb o e =>
 ⟨I.base.keep b o (I.ok.bs b o e).1 (I.ok.bs b o e).2 (I.ok.nofr e) (I.ok.noex b o e),I.base.free b o (I.ok.bs b o e).1 (I.ok.bs b o e).2 (I.ok.noex b o e)⟩
theorem Inv.bk(I:Inv X pins σ H s):∀b o,X.base.get? b=some o->s.heap.get? b=some o:=λb o e=>(I.bs b o e).1
theorem Inv.mod(I:Inv X pins σ H s):Mod X.K X.mg X.base:=I.ok.mod
theorem Inv.kIn(I:Inv X pins σ H s):X.K.In s.heap:=I.ok.mod.kin.keeps I.bk
theorem Inv.lt(I:Inv X pins σ H s):X.env.locals<s.heap.objs.size:=let ⟨_,hn,_⟩:=I.loc;hn.lt
theorem Inv.sz(I:Inv X pins σ H s):X.s₀.heap.objs.size<=s.heap.objs.size:=qq I.ok.above (yr I.lt)
theorem Inv.nofs(I:Inv X pins σ H s)(h:s.heap.objs.size<=a):a∉X.fs:=λb=>by
 obtain⟨_,o,c,_⟩:=I.ok.funs.mem b
 exact absurd (qy (qv c) (qq I.sz h)) (x4 _)
theorem Inv.cne(I:Inv X pins σ H s):∀x c,X.env.cells.lookup x=some c->c≠X.env.locals:=λx c e z=>by
 obtain⟨v,o,d,hd⟩:=I.cell x c e
 obtain⟨m,⟨h,g,f,b,a,_⟩,_⟩:=I.loc
 rw[z,b] at d;cases d;rw[a] at hd;cases hd
theorem Inv.funs(I:Inv X pins σ H s):s.heap.FunFrames X.base X.outer:=by
 have all:∀(l:List Env),(∀b∈frs l,b∈X.fs)->X.s₀.heap.FunFrames X.base l->s.heap.FunFrames X.base l:=by
  intro l
  induction l with
  |nil=>intro _ _;trivial
  |cons env r ih =>
   intro c hl
   obtain⟨g,⟨L,o,hf,d,f,hd⟩,h⟩:=hl
   have hL:L∈X.fs:=c L (by unfold frs;rw[lg,hf];exact jm)
   obtain⟨i,e⟩:=I.base.slot L o f (I.ok.frf L hL) hL λz=>I.ok.exfs L z hL
   exact⟨g,⟨L,_,hf,d,e,hd⟩,ih (λb a=>c b (by unfold frs;rw[lg,hf];exact jg _ a)) h⟩
 exact all X.outer (λ_ a=>a) I.ok.funs
theorem Inv.stack(I:Inv X pins σ H s):s.heap.FunFrames X.base X.stack:=by
 rcases I.ok.stk with e|⟨e,hf⟩
 ·rw[e];exact I.funs
 ·rw[e]
  obtain⟨m,a,_⟩:=I.loc
  refine .cons (by rw[I.ok.kind];decide) hf a ?_ I.funs
  exact Heap.get?_none_of_le (qq I.ok.bsz I.ok.above)
theorem Inv.stkSub(I:Inv X pins σ H s):∀b∈frs X.stack,b∈X.env.locals::X.fs:=λb a=>by
 rcases I.ok.stk with e|⟨e,hf⟩
 ·rw[e] at a;exact jg _ a
 ·rw[e] at a
  unfold frs at a
  rw[lg,hf] at a
  exact a
theorem Inv.stkFree(I:Inv X pins σ H s):∀b∈frs X.stack,H b=none:=λb a=>by
 rcases qp.mp (I.stkSub b a) with e|a
 ·rw[e];exact I.free
 ·obtain⟨_,o,c,_⟩:=I.ok.funs.mem a
  exact I.base.free b o c (I.ok.frf b a) λz=>I.ok.exfs b z a
theorem Inv.step{g':Array fi}{d':Drawn}(I:Inv X pins σ H s)(hch:∀b∈ch,(b∈X.ex\/X.s₀.heap.objs.size<=b)/\b≠X.env.locals/\(∀x c,X.env.cells.lookup x=some c->c≠b)/\∀p∈X.pn++pins,p.1≠b)(keep:∀b o,b≠X.env.locals->b∉X.fs->b∉ch->s.heap.get? b=some o->H b=none->h'.get? b=some o)(slot:∀b o,b≠X.env.locals->b∈X.fs->b∉ch->s.heap.get? b=some o->H b=none->∃sl,h'.get? b=some {o with slots:=sl})(free:∀b o,b∉ch->s.heap.get? b=some o->H b=none->H' b=none)(there:∀b o,b∉ch->s.heap.get? b=some o->∃o',h'.get? b=some o')(tups:∀b xs,H b=some (.tup xs)->H' b=some (.tup xs))(frzs:∀b o u,H b=some (.frz o u)->H' b=some (.frz o u))(tbls:∀b ps,H b=some (.tbl ps)->∃more,H' b=some (.tbl (ps++more)))(ns:∀m,s.heap.Ns X.env.locals m->h'.Ns X.env.locals m)(hok:HOk X.prog X.w H' h')(hg:ng g'):
  Inv X pins σ H' {s with heap:=h',gens:=g',drawn:=d',toks:=t' }:=by
 have A:∀b o,X.s₀.heap.get? b=some o->b≠X.env.locals:=λb o e=>q4 (qy (qv e) I.ok.above)
 have g:∀b o,X.s₀.heap.get? b=some o->b∉X.ex->b∉ch:=λb o e a j=>by
  rcases (hch b j).1 with z|z
  ·exact a z
  ·exact absurd (qy (qv e) z) (x4 _)
 have cellK:∀x c,X.env.cells.lookup x=some c->∀v,s.heap.IsCell c v->h'.IsCell c v:=λx c e v ⟨o,t,hd⟩=>by
  have f:c∉ch:=λz=>(hch c z).2.2.1 x c e rfl
  by_cases E:c∈X.fs
  ·obtain⟨sl,q⟩:=slot c o (I.cne x c e) E f t (I.freeC x c e)
   exact⟨_,q,hd⟩
  ·exact⟨o,keep c o (I.cne x c e) E f t (I.freeC x c e),hd⟩
 refine⟨I.ok,I.os,hg,⟨λb o e n j a => ?_,λb o e n j a => ?_,λb o e n a => ?_,λb o e a => ?_,λb xs e=>tups b xs (I.base.tups b xs e),λb o xs e=>frzs b o xs (I.base.frzs b o xs e),λb ps e => ?_⟩,?_,λx c e => ?_,?_,λx c e => ?_,λp C => ?_,hok,I.len⟩
 ·exact keep b o (A b o e) j (g b o e a) (I.base.keep b o e n j a) (I.base.free b o e n a)
 ·obtain⟨sl,h⟩:=I.base.slot b o e n j a
  obtain⟨B,y⟩:=slot b _ (A b o e) j (g b o e a) h (I.base.free b o e n a)
  exact⟨B,y⟩
 ·obtain⟨o',h⟩:=I.base.there b o e a
  exact free b o' (g b o e a) h (I.base.free b o e n a)
 ·obtain⟨o',h⟩:=I.base.there b o e a
  exact there b o' (g b o e a) h
 ·obtain⟨K,h⟩:=I.base.tbls b ps e
  obtain⟨J,y⟩:=tbls b _ h
  exact⟨K++J,by rw[y,Array.append_assoc]⟩
 ·obtain⟨m,F,hl⟩:=I.loc
  refine⟨m,ns m F,λi x v h y G => ?_⟩
  obtain⟨u,r,l⟩:=hl i x v h y G
  refine⟨u,r,?_⟩
  rcases l with l|⟨k,c,e,z⟩
  ·exact .inl l
  ·exact .inr ⟨k,c,e,cellK x c e _ z⟩
 ·obtain⟨v,z⟩:=I.cell x c e
  exact⟨v,cellK x c e v z⟩
 ·obtain⟨m,⟨o,_,_,t,_⟩,_⟩:=I.loc
  exact free _ o (λz=>(hch _ z).2.1 rfl) t I.free
 ·obtain⟨v,o,t,hd⟩:=I.cell x c e
  exact free c o (λz=>(hch c z).2.2.1 x c e rfl) t (I.freeC x c e)
 ·obtain⟨e,n,ne,D,d⟩:=I.pin p C
  have f:p.1∉ch:=λz=>(hch p.1 z).2.2.2 p C rfl
  exact⟨keep p.1 p.2 ne D f e n,free p.1 p.2 f e n,ne,D,d⟩
theorem Inv.un(I:Inv X pins σ H s)(u:Un X.fs [] H H' s.heap h')(hok:HOk X.prog X.w H' h'):Inv X pins σ H' {s with heap:=h',toks:=t' }:=by
 obtain⟨m,⟨o,l,k,g,r⟩,_⟩:=id I.loc
 obtain⟨j,hL⟩:=u.any g I.free '%'
 exact I.step (g':=s.gens) (d':=s.drawn) (ch:=[]) (λ_ z=>nomatch z) (λb o _ d _ e n=>u.keep b o e n d '%') (λb o _ d _ e n=>u.slot b o e n d '%') (λb o _ e n=>u.free b o e n '%') (λb o _ e=>u.there b o e '%') u.tups u.frzs u.tbls (λi hm=>by
  obtain⟨p,f,c,a,h⟩:=hm
  rw[g] at a;cases a
  exact⟨_,f,c,hL,h⟩) hok I.bare
theorem Inv.call{g':Array fi}{d':Drawn}(I:Inv X pins σ H s)(u:Un (frs X.stack) ch H H' s.heap h')(hok:HOk X.prog X.w H' h')(hg:ng g')(hch:∀b∈ch,(b∈X.ex\/X.s₀.heap.objs.size<=b)/\b≠X.env.locals/\(∀x c,X.env.cells.lookup x=some c->c≠b)/\∀p∈X.pn++pins,p.1≠b):
  Inv X pins σ H' {s with heap:=h',gens:=g',drawn:=d',toks:=t' }:=by
 obtain⟨m,⟨o,t,q,h,r⟩,_⟩:=id I.loc
 obtain⟨l,hL⟩:=u.any h I.free λz=>(hch _ z).2.1 rfl
 exact I.step (ch:=ch) hch (λb o hL j a e n=>u.keep b o e n (λz=>(qp.mp (I.stkSub b z)).elim hL j) a) (λb o _ _ a e n=>u.any e n a) (λb o a e n=>u.free b o e n a) (λb o a e=>u.there b o e a) u.tups u.frzs u.tbls (λk hm=>by
  obtain⟨v,g,f,d,i⟩:=hm
  rw[h] at d;cases d
  exact⟨_,g,f,hL,i⟩) hok hg
theorem Inv.turned(I:Inv X pins σ H s)(k:∀b o,b≠it->s.heap.get? b=some o->h'.get? b=some o)(hn:H it=none)(hL:it≠X.env.locals)(h1:it∈X.ex\/X.s₀.heap.objs.size<=it)(h2:∀x c,X.env.cells.lookup x=some c->c≠it)(h3:∀p∈X.pn++pins,p.1≠it):Inv X pins σ H {s with heap:=h',toks:=t' }:=by
 have d:∀b u,H b=some u->b≠it:=λb u e z=>by rw[z,hn] at e;cases e
 refine I.step (g':=s.gens) (d':=s.drawn) (ch:=[it]) (λb g => ?_) (λb o _ _ a e _=>k b o (λz=>a (by simp[z])) e) (λb o _ _ a e _=>⟨o.slots,k b o (λz=>a (by simp[z])) e⟩) (λ_ _ _ _ n=>n)
  (λb o a e=>⟨o,k b o (λz=>a (by simp[z])) e⟩) (λ_ _ e=>e) (λ_ _ _ e=>e) (λb ps e=>⟨#[],by rw[e];simp⟩) (λm hm => ?_) (λb u e => ?_) I.bare
 ·have e:b=it:=by simpa using g
  subst e
  exact⟨h1,hL,h2,h3⟩
 ·obtain⟨o,i,h,f,r⟩:=hm
  exact⟨o,i,h,k _ o (cb hL) f,r⟩
 ·refine (I.hok b u e).stay (λc v a q=>k c v ?_ q) (λ_ q=>q) λ_ _ q=>q
  rcases a with z|z
  ·rw[z];exact d b u e
  ·exact d c _ z
theorem Inv.tok(I:Inv X pins σ H s)(t:Nat):Inv X pins σ H {s with toks:=t}:=I.un (h':=s.heap) (t':=t) Un.refl I.hok
theorem Inv.kept(I:Inv X pins σ H s)(k:∀b u,s.heap.get? b=some u->h'.get? b=some u):Inv X pins σ H {s with heap:=h',toks:=t' }:=I.un (Un.kept k) (I.hok.kept k)
theorem Inv.laid{o:HO}(I:Inv X pins σ H s)(k:∀b u,s.heap.get? b=some u->h'.get? b=some u)(hp:s.heap.objs.size<=a)(new:eY X.prog X.w (upd H a o) h' a o):
  Inv X pins σ (upd H a o) {s with heap:=h',toks:=t' }:=I.un (Un.laid k hp (I.hok.fresh hp)) (I.hok.laid k hp new)
theorem Inv.write{x e:Addr}{o:HO}(I:Inv X pins σ H s)(mu:Mut (H x))(he:e=x\/H e=some (.own x))(k:∀b u,b≠e->s.heap.get? b=some u->h'.get? b=some u)(heo:∃u,h'.get? e=some u)(new:eY X.prog X.w (upd H x o) h' x o):Inv X pins σ (upd H x o) {s with heap:=h',toks:=t' }:=I.un (Un.write mu he k heo) (I.hok.write mu he k heo new)
theorem Inv.pins_of{pins':List (Addr×Obj)}(I:Inv X pins σ H s)(h:∀p∈pins',s.heap.get? p.1=some p.2/\H p.1=none/\p.1≠X.env.locals/\p.1∉X.fs/\∀v,p.2.data ≠ .cell v):Inv X pins' σ H s:=
 ⟨I.ok,I.os,I.bare,I.base,I.loc,I.cell,I.free,I.freeC,λp a=>(jf.mp a).elim (λz=>I.pin p (cu _ z)) (h p),I.hok,I.len⟩
theorem aBY(hN:N.Nodup)(a:N[i]?=some x)(b:N[j]?=some x):i=j:=by
 obtain⟨f,d⟩:=zGs a
 obtain⟨e,c⟩:=zGs b
 exact (List.getElem_inj hN).mp (d.trans c.symm)
theorem qM{M:Jt}{E:Value->Shared->Prop}{Q:Unit->Shared->Prop}(I:Inv X pins σ H s)(hN:X.N.Nodup)(hi:X.N[i]?=some x)(hx:Loc X.env.scope x)(r:RelV v u)(h:∀s',Inv X pins (σ.set i (some v)) H s'->(∃a,dq a s.heap s'.heap/\(a=X.env.locals\/X.env.cells.lookup x=some a))->Q () s')(hf:X.fn x=true\/X.env.scope.names.lookup x=some .local:=by first|exact .inl rfl|exact .inr rfl|assumption):wpAny M A (storeName X.env x u) Q E s:=by
 obtain⟨m,hn,hl⟩:=id I.loc
 have R:(X.env.scope.kind == .class||(X.env.scope.kind == .module&&X.env.locals != X.env.globals))=false:=by rw[I.ok.kind];rfl
 have hiσ:i<σ.length:=by rw[I.len];exact (zGs hi).1
 have cne:=I.cne
 have tracked:∀{a:Addr}{J:Heap},(∃o,s.heap.get? a=some o/\H a=none)->dq a s.heap J->HOk X.prog X.w H J:=λ{a J} ha f b ob e=>by
  obtain⟨_,_,t⟩:=ha
  refine (I.hok b ob e).stay (λc S l q=>(f.2 c ?_).trans q) (λ_ q=>q) λ_ _ q=>q
  rintro rfl
  rcases l with rfl|l
  ·rw[t] at e;cases e
  ·rw[t] at l;cases l
 rcases hx with C|C
 ·refine wpAny_storeName_local C hn (λJ aa f => ?_) R
  obtain⟨oL,_,_,ab,_⟩:=id hn
  refine h _ ⟨I.ok,I.os,I.bare,⟨λb o e n G hx => ?_,λb o e n G hx => ?_,I.base.free,λb o e hx => ?_,I.base.tups,I.base.frzs,I.base.tbls⟩,⟨_,aa,λj y v' g B e3 => ?_⟩,λy c e => ?_,I.free,I.freeC,λp Z => ?_,tracked ⟨oL,ab,I.free⟩ f,by simpa using I.len⟩ ⟨_,f, .inl rfl⟩
  ·exact (f.2 b (q4 (qy (qv e) I.ok.above))).trans (I.base.keep b o e n G hx)
  ·obtain⟨U,g⟩:=I.base.slot b o e n G hx
   exact⟨U,(f.2 b (q4 (qy (qv e) I.ok.above))).trans g⟩
  ·obtain⟨o',g⟩:=I.base.there b o e hx
   exact⟨o',(f.2 b (q4 (qy (qv e) I.ok.above))).trans g⟩
  ·by_cases F:j=i
   ·subst F
    rw[hi] at g;cases g
    rw[QP hiσ] at B
    cases B
    exact⟨u,r, .inl ⟨C,by simp⟩⟩
   ·rw[Jf (cb F)] at B
    obtain⟨u',W,q⟩:=hl j y v' g B e3
    refine⟨u',W,?_⟩
    rcases q with ⟨k,e⟩|⟨k,c,e,z⟩
    ·refine .inl ⟨k,?_⟩
     have:y≠x:=λe=>F (aBY hN g (e▸hi))
     simp[this,e]
    ·exact .inr ⟨k,c,e,z.sameBut f (cne y c e)⟩
  ·obtain⟨S,z⟩:=I.cell y c e
   exact⟨S,z.sameBut f (cne y c e)⟩
  ·obtain⟨e,n,ne,Y,d⟩:=I.pin p Z
   exact⟨(f.2 p.1 ne).trans e,n,ne,Y,d⟩
 ·have D:X.fn x=true:=by
   rcases hf with z|z
   ·exact z
   ·rw[z] at C;cases C
  obtain⟨c,l⟩:=I.ok.has x (.inl C)
  obtain⟨S,z⟩:=I.cell x c l
  refine wpAny_storeName_cell I.ok.kind C l z (λJ L f => ?_)
  obtain⟨oc,O,K⟩:=id z
  refine h {s with heap:=J} ⟨I.ok,I.os,I.bare,⟨λb o e n G hx => ?_,λb o e n G hx => ?_,I.base.free,λb o e hx => ?_,I.base.tups,I.base.frzs,I.base.tbls⟩,⟨m,hn.sameBut f (cb (cne x c l)),λj y v' g B e3 => ?_⟩,λy T e => ?_,I.free,I.freeC,λp Z => ?_,tracked ⟨oc,O,I.freeC x c l⟩ f,by simpa using I.len⟩ ⟨c,f, .inr l⟩
  ·exact (f.2 b (q4 (qy (qv e) (I.ok.cab x c D l)))).trans (I.base.keep b o e n G hx)
  ·obtain⟨U,g⟩:=I.base.slot b o e n G hx
   exact⟨U,(f.2 b (q4 (qy (qv e) (I.ok.cab x c D l)))).trans g⟩
  ·obtain⟨o',g⟩:=I.base.there b o e hx
   exact⟨o',(f.2 b (q4 (qy (qv e) (I.ok.cab x c D l)))).trans g⟩
  ·by_cases F:j=i
   ·subst F
    rw[hi] at g;cases g
    rw[QP hiσ] at B
    cases B
    exact⟨u,r, .inr ⟨.inl C,c,l,L⟩⟩
   ·rw[Jf (cb F)] at B
    obtain⟨u',W,q⟩:=hl j y v' g B e3
    refine⟨u',W,?_⟩
    rcases q with q|⟨k,T,e,z'⟩
    ·exact .inl q
    ·refine .inr ⟨k,T,e,z'.sameBut f ?_⟩
     rintro rfl
     exact F (aBY hN g (I.ok.inj _ _ _ e l▸hi))
  ·by_cases P:T=c
   ·subst P;exact⟨_,L⟩
   ·obtain⟨w2,z2⟩:=I.cell y T e
    exact⟨w2,z2.sameBut f P⟩
  ·obtain⟨e,n,ne,Y,d⟩:=I.pin p Z
   refine⟨(f.2 p.1 ?_).trans e,n,ne,Y,d⟩
   intro q
   rw[q,O] at e
   have q':oc=p.2:=je e
   exact d S (by rw[<- q'];exact K)
theorem pR{M:Jt}{E:Value->Shared->Prop}{Q:Unit->Shared->Prop}(I:Inv X pins σ H s)(hN:X.N.Nodup)(hi:X.N[i]?=some x)(hx:Loc X.env.scope x)(r:RelV v u)(h:∀s',Inv X pins (σ.set i (some v)) H s'->Q () s')(hf:X.fn x=true\/X.env.scope.names.lookup x=some .local:=by first|exact .inl rfl|exact .inr rfl|assumption):wpAny M A (storeName X.env x u) Q E s:=
 qM I hN hi hx r (λs' I' _=>h s' I') hf
theorem Inv.call'(I:Inv X pins σ H s)(ho:s'.os=s.os)(u:Un (frs X.stack) ch H H' s.heap s'.heap)(hok:HOk X.prog X.w H' s'.heap)(hg:ng s'.gens)(hch:∀b∈ch,(b∈X.ex\/X.s₀.heap.objs.size<=b)/\b≠X.env.locals/\(∀x c,X.env.cells.lookup x=some c->c≠b)/\∀p∈X.pn++pins,p.1≠b):Inv X pins σ H' s':=by
 obtain⟨d,g',d',t',a⟩:=s'
 have e:a=s.os:=ho
 subst e
 exact I.call (g':=g') (t':=t') (d':=d') u hok hg hch
end
abbrev XK:=Value->Option Addr->Hp->Prop
abbrev St:=List (Option V)
abbrev VK:=V->Hp->Prop
abbrev TE:=St->Hp->VK->Prop
abbrev TT:=St->Hp->(Bool->Hp->Prop)->Prop
abbrev TA:=St->Hp->(List V->Hp->Prop)->Prop
structure Ends where
 nx:St->Hp->Prop
 rt:VK
 bk:St->Hp->Prop:=λ_ _=>False
 ct:St->Hp->Prop:=λ_ _=>False
abbrev TS:=Ends->St->Hp->Prop
noncomputable def EP(X:Cx)(pins:List (Addr×Obj))(σ:St)(Q:VK)(u:Value)(s':Shared):Prop:=∃v H',Inv X pins σ H' s'/\RelV v u/\Q v H'
noncomputable def TP(X:Cx)(pins:List (Addr×Obj))(σ:St)(Q:Bool->Hp->Prop)(b:Bool)(s':Shared):Prop:=∃H',Inv X pins σ H' s'/\Q b H'
noncomputable def AP(X:Cx)(pins:List (Addr×Obj))(σ:St)(Q:List V->Hp->Prop)(us:List Value)(s':Shared):Prop:=∃vs H',Inv X pins σ H' s'/\Vals vs us/\Q vs H'
noncomputable def SP(X:Cx)(pins:List (Addr×Obj))(D:Ends)(f:Flow)(s':Shared):Prop:=
 match f with
 |.next=>∃σ' H',Inv X pins σ' H' s'/\D.nx σ' H'
 |.brk=>∃σ' H',Inv X pins σ' H' s'/\D.bk σ' H'
 |.cont=>∃σ' H',Inv X pins σ' H' s'/\D.ct σ' H'
 |.ret u=>∃v σ' H',Inv X pins σ' H' s'/\RelV v u/\D.rt v H'
noncomputable def PE(X:Cx)(e:Expr)(t:TE):Prop:=
 ∀(pins:List (Addr×Obj)) (s:Shared) (σ:St) (H:Hp) (Q:VK),Inv X pins σ H s->t σ H Q->wpAny X.w.14 X.A (eval e X.env) (EP X pins σ Q) X.xe s
noncomputable def PT(X:Cx)(e:Expr)(t:TT):Prop:=
 ∀(pins:List (Addr×Obj)) (s:Shared) (σ:St) (H:Hp) (Q:Bool->Hp->Prop),Inv X pins σ H s->t σ H Q->wpAny X.w.14 X.A (isTrue e X.env (eval e X.env)) (TP X pins σ Q) X.xe s
noncomputable def PW(X:Cx)(e:Expr)(t:TT):Prop:=
 ∀(whole:Sem Value) (pins:List (Addr×Obj)) (s:Shared) (σ:St) (H:Hp) (Q:Bool->Hp->Prop),Inv X pins σ H s->t σ H Q->wpAny X.w.14 X.A (isTrue e X.env whole) (TP X pins σ Q) X.xe s
noncomputable def PA(X:Cx)(es:List Expr)(t:TA):Prop:=
 ∀(pos:Pos) (pins:List (Addr×Obj)) (s:Shared) (σ:St) (H:Hp) (Q:List V->Hp->Prop),Inv X pins σ H s->t σ H Q->wpAny X.w.14 X.A (spliced (dh pos (jk es X.env))) (AP X pins σ Q) X.xe s
noncomputable def PS(X:Cx)(st:Stmt)(t:TS):Prop:=
 ∀(pins:List (Addr×Obj)) (s:Shared) (σ:St) (H:Hp) (D:Ends),Inv X pins σ H s->t D σ H->wpAny X.w.14 X.A (exec st X.env) (SP X pins D) X.xe s
noncomputable def PSs(X:Cx)(st:List Stmt)(t:TS):Prop:=
 ∀(pins:List (Addr×Obj)) (s:Shared) (σ:St) (H:Hp) (D:Ends),Inv X pins σ H s->t D σ H->wpAny X.w.14 X.A (execs st X.env) (SP X pins D) X.xe s
theorem thn{α:Type}{t:Sem α}{Q Q':α->Shared->Prop}{M:Jt}{E:Value->Shared->Prop}(h:wpAny M A t Q E s)(hQ:∀a s,Q a s->Q' a s):wpAny M A t Q' E s:=w7 h hQ λ_ _ x=>x
end L2
variable {σ:L2.St}{X:L2.Cx}{te ta:L2.TE}{tt:L2.TT}
namespace L2
open PySem PySem.Spec PyProof.Rows
section
noncomputable def tVar(i:Nat):TE:=λσ H Q=>∃v,σ[i]?=some (some v)/\Q v H
noncomputable def tC(v:V):TE:=λ_ H Q=>Q v H
theorem aHH{pos:Pos}(hN:X.N[i]?=some x)(hv:Vis X.env.scope x)(hd:(x==("__debug__" : Str))=false:=by decide)(hcd:(x==("__classdict__" : Str))=false:=by decide):PE X (.Name x pos) (tVar i):=by
 intro pins s σ H Q I h
 obtain⟨v,e,h⟩:=h
 obtain⟨m,f,hl⟩:=I.loc
 obtain⟨u,r,l⟩:=hl i x v hN e hv
 have fin:EP X pins σ Q u s:=⟨v,H,I,r,h⟩
 rcases l with ⟨b,hm⟩|⟨b,c,d,a⟩
 ·exact K6 (wpAny_loadName_local I.ok.kind b f hm fin) hd
 ·rcases b with b|b
  ·exact K6 (wpAny_loadName_cell I.ok.kind b d a fin) hd
  ·exact K6 (wpAny_loadName_free I.ok.kind b d a fin hcd) hd
theorem aRS{i j pos}:PE X (.Constant (.int i) j pos) (tC (.int i)):=λ_ _ _ H _ I h=>wpAny_Constant_int ⟨.int i,H,I.tok _,⟨_,rfl⟩,h⟩
theorem aTZ{b j pos}:PE X (.Constant (.bool b) j pos) (tC (.bl b)):=λ_ _ _ H _ I h=>Constant_bool ⟨.bl b,H,I,rfl,h⟩
theorem aSC{j pos}:PE X (.Constant .none j pos) (tC .non):=λ_ _ _ H _ I h=>Constant_none ⟨.non,H,I,rfl,h⟩
theorem aQX{x j pos}:PE X (.Constant (.str x) j pos) (tC (.str x)):=λ_ _ _ H _ I h=>Calls.Constant_str ⟨.str x,H,I.tok _,⟨_,rfl⟩,h⟩
noncomputable def Gl(X:Cx)(x:Str):Prop:=X.env.kindOf x=some .globalImplicit
theorem aDF{E:Value->Shared->Prop}{pos:Pos}{Q:Value->Shared->Prop}(I:Inv X pins σ H s)(hg:Gl X x)(hm:X.mg x=some u)(h:Q u s)(hd:(x==("__debug__" : Str))=false:=by decide):wpAny X.w.14 X.A (eval (.Name x pos) X.env) Q E s:=
 rk I.ok.kind hg (Calls.loadGlobal_global (by rw[I.ok.glob];exact I.mod.glob.keeps I.bk) hm h) hd
theorem mZ{E:Value->Shared->Prop}{pos:Pos}{Q:Value->Shared->Prop}(I:Inv X pins σ H s)(hg:Gl X x)(hm:X.mg x=none)(hv:kh x=some u)(h:Q u s)(hn:x ≠ "__name__" := by decide)(hd:(x==("__debug__" : Str))=false:=by decide):wpAny X.w.14 X.A (eval (.Name x pos) X.env) Q E s:=by
 obtain⟨c,b,a⟩:=I.mod.blt
 exact rk I.ok.kind hg (Calls.loadGlobal_builtin (by rw[I.ok.glob];exact I.mod.glob.keeps I.bk) hm (by rw[I.ok.blt];exact b.keeps I.bk) ((a x hn).trans hv) h) hd
theorem aD6{pos:Pos}(hg:Gl X x)(hm:X.mg x=some u)(r:RelV v u)(hd:(x==("__debug__" : Str))=false:=by decide):PE X (.Name x pos) (tC v):=
 λ_ _ _ H _ I h=>aDF I hg hm ⟨v,H,I,r,h⟩ hd
theorem aQD{pos:Pos}(hg:Gl X x)(hm:X.mg x=none)(hv:kh x=some u)(r:RelV v u)(hn:x ≠ "__name__" := by decide)(hd:(x==("__debug__" : Str))=false:=by decide):PE X (.Name x pos) (tC v):=
 λ_ _ _ H _ I h=>mZ I hg hm hv ⟨v,H,I,r,h⟩ hn hd
variable {a b:Expr}{tb:TE}
noncomputable def tB(t:TE):TT:=λσ H Q=>t σ H λx H1=>∃c,x = .bl c/\Q c H1
theorem aSE{t:TE}(h:PE X e t)(he:∀whole,isTrue e X.env whole=(do let v <- whole;Ju e.pos;gy [v] (Wq v)):=by intro _;rfl):PT X e (tB t):=by
 intro pins s σ H Q I hw
 refine isTrue_plain (thn (h pins s σ H _ I hw) λv s1 ⟨x,H1,I1,r1,a⟩ => ?_) (he _)
 obtain⟨d,rfl,q⟩:=a
 cases r1
 exact vq ⟨H1,I1,q⟩
variable {tA tB':TT}{rest:List Expr}
noncomputable def tAnd(t u:TT):TT:=λσ H Q=>t σ H λc H1=>if c=true then u σ H1 Q else Q false H1
noncomputable def tOr(t u:TT):TT:=λσ H Q=>t σ H λc H1=>if c=true then Q true H1 else u σ H1 Q
noncomputable def tNot(t:TT):TT:=λσ H Q=>t σ H λc H1=>Q (!c) H1
theorem aOG(ha:PT X a tA):PW X (.BoolOp .And [a] pos) tA:=by
 intro b pins s σ H Q I h
 refine isTrue_and (thn (ha pins s σ H Q I h) λc s1 e => ?_)
 cases c with
 |true=>exact isTrue_and_nil e
 |false=>exact e
theorem aRV(ha:PT X a tA):PW X (.BoolOp .Or [a] pos) tA:=by
 intro b pins s σ H Q I h
 refine isTrue_or (thn (ha pins s σ H Q I h) λc s1 e => ?_)
 cases c with
 |false=>exact isTrue_or_nil e
 |true=>exact e
theorem aRR(ha:PT X a tA)(hb:PW X (.BoolOp .And (b::rest) pos) tB'):PW X (.BoolOp .And (a::b::rest) pos) (tAnd tA tB'):=by
 intro e pins s σ H Q I h
 refine isTrue_and (thn (ha pins s σ H _ I h) λc s1 ⟨H1,I1,d⟩ => ?_)
 cases c with
 |true=>exact hb e pins s1 σ H1 Q I1 d
 |false=>exact⟨H1,I1,d⟩
theorem aU1(ha:PT X a tA)(hb:PW X (.BoolOp .Or (b::rest) pos) tB'):PW X (.BoolOp .Or (a::b::rest) pos) (tOr tA tB'):=by
 intro e pins s σ H Q I h
 refine isTrue_or (thn (ha pins s σ H _ I h) λc s1 ⟨H1,I1,d⟩ => ?_)
 cases c with
 |true=>exact⟨H1,I1,d⟩
 |false=>exact hb e pins s1 σ H1 Q I1 d
theorem aSS(ha:PT X a tA):PT X (.UnaryOp .Not a pos) (tNot tA):=by
 intro pins s σ H Q I h
 exact isTrue_not (ha pins s σ H (λc H1=>Q (!c) H1) I h)
noncomputable def aT6(ta tb:TE):TE:=λσ H Q=>ta σ H λx H1=>∃c,x = .bl c/\if c=true then tb σ H1 Q else Q (.bl false) H1
noncomputable def aT7(ta:TE):TE:=λσ H Q=>ta σ H λx H1=>∃c,x = .bl c/\Q (.bl (!c)) H1
theorem aRC{op}{t:TE}(h:PE X a t):PE X (.BoolOp op [a] pos) t:=λpins s σ H Q I hw=>BoolOp_one (h pins s σ H Q I hw)
theorem aTC(ha:PE X a ta)(hb:PE X (.BoolOp .And (b::rest) pos) tb):PE X (.BoolOp .And (a::b::rest) pos) (aT6 ta tb):=by
 intro pins s σ H Q I h
 refine BoolOp_and (thn (ha pins s σ H _ I h) λv s1 ⟨x,H1,I1,r1,d⟩ => ?_)
 obtain⟨c,rfl,d⟩:=d
 cases r1
 refine vq ?_
 cases c with
 |true=>exact hb pins s1 σ H1 Q I1 d
 |false=>exact⟨.bl false,H1,I1,rfl,d⟩
theorem aTD(ha:PE X a ta):PE X (.UnaryOp .Not a pos) (aT7 ta):=by
 intro pins s σ H Q I h
 refine UnaryOp_ (thn (ha pins s σ H _ I h) λv s1 ⟨x,H1,I1,r1,b⟩ => ?_)
 obtain⟨c,rfl,b⟩:=b
 cases r1
 exact not_of (vq ⟨.bl (!c),H1,I1,rfl,b⟩)
noncomputable def tIf(t:TT)(ta tb:TE):TE:=λσ H Q=>t σ H λc H1=>if c=true then ta σ H1 Q else tb σ H1 Q
theorem aJ5(hc:PT X c tA)(ha:PE X a ta)(hb:PE X b tb):PE X (.IfExp c a b pos) (tIf tA ta tb):=by
 intro pins s σ H Q I h
 refine wpAny_IfExp (thn (hc pins s σ H _ I h) λd s1 ⟨H1,I1,e⟩ => ?_)
 cases d with
 |true=>exact ha pins s1 σ H1 Q I1 e
 |false=>exact hb pins s1 σ H1 Q I1 e
end
end L2
namespace L2
open PySem PySem.Spec PyProof.Rows
noncomputable def SqL(K:qh)(H:Hp)(a:Addr)(xs:List V):Prop:=
 Rd H a (.lst xs) \/
  ∃(o:Obj) (its:Array Value) (n:Nat),K.lookup a=some o/\o.cls = .type "list" /\ o.dict=none/\o.data = .seq its n/\its.size<=sizeLine/\Vals xs its.toList
noncomputable def SqT(K:qh)(H:Hp)(a:Addr)(xs:List V):Prop:=
 Rd H a (.tup xs) \/
  ∃(o:Obj) (its:Array Value) (n:Nat),K.lookup a=some o/\o.cls = .type "tuple" /\ o.data = .seq its n/\its.size<=sizeLine/\Vals xs its.toList
noncomputable def absV:Value->Option V
 |.none=>some .non
 |.bool b=>some (.bl b)
 |.int i _=>some (.int i)
 |.str x _=>some (.str x)
 |.bytes b _=>some (.byt b)
 |.float b _=>some (.flt b)
 |.ref a=>some (.ref a)
 |.type n=>some (.ty n)
 |_=>none
theorem RelV.abs{x:V}(r:RelV x u):absV u=some x:=by
 cases x with
 |non=>cases r;rfl
 |bl _=>cases r;rfl
 |int _=>obtain⟨t,rfl⟩:=r;rfl
 |str _=>obtain⟨t,rfl⟩:=r;rfl
 |byt _=>obtain⟨t,rfl⟩:=r;rfl
 |flt _=>obtain⟨t,rfl⟩:=r;rfl
 |ref _=>cases r;rfl
 |ty _=>cases r;rfl
theorem RelV.inj{x y:V}(r:RelV x u)(q:RelV y u):x=y:=je (r.abs.symm.trans q.abs)
theorem Vals.inj:∀{xs ys:List V}{us:List Value},Vals xs us->Vals ys us->xs=ys
 |_,_,_, .nil, .nil=>rfl
 |_,_,_, .cons r t, .cons r' t'=>by rw[r.inj r',Vals.inj t t']
section
variable {xs ys:List V}
theorem SqL.of{K:qh}(h:H a=some (.lst xs)):SqL K H a xs := .inl (.inl h)
theorem SqT.of{K:qh}(h:H a=some (.tup xs)):SqT K H a xs := .inl (.inl h)
theorem Inv.list(I:Inv X pins σ H s)(h:SqL X.K H a xs):∃its:List Value,Vals xs its/\Ws s.heap a its.toArray/\xs.length<=sizeLine:=by
 rcases h with h|⟨o,its,n,d,b,hd,c,f,r⟩
 ·obtain⟨z,its,n,r,e⟩:=h.ok I.hok
  exact⟨its,r,⟨_,n,e,rfl,rfl,rfl⟩,z⟩
 ·refine⟨its.toList,r,⟨o,n,I.kIn a o d,b,hd,by simpa using c⟩,?_⟩
  have e:=r.length
  simp only[qt] at e
  omega
theorem Inv.tuple(I:Inv X pins σ H s)(h:SqT X.K H a xs):∃its:List Value,Vals xs its/\IsTup s.heap a its.toArray/\xs.length<=sizeLine:=by
 rcases h with h|⟨o,its,n,d,b,c,f,r⟩
 ·obtain⟨z,its,r,p⟩:=h.ok I.hok
  exact⟨its,r,p,z⟩
 ·refine⟨its.toList,r,⟨o,I.kIn a o d,b,n,by simpa using c⟩,?_⟩
  have e:=r.length
  simp only[qt] at e
  omega
theorem Inv.list_inj(I:Inv X pins σ H s)(h:SqL X.K H a xs)(h':SqL X.K H a ys):xs=ys:=by
 obtain⟨c,r,⟨o,n,e,_,_,d⟩,_⟩:=I.list h
 obtain⟨b,i,⟨k,j,g,_,_,f⟩,_⟩:=I.list h'
 rw[e] at g;cases g
 rw[d] at f
 injection f with d1 _
 have:c=b:=by simpa using congrArg K2 d1
 subst this
 exact r.inj i
theorem Inv.tuple_inj(I:Inv X pins σ H s)(h:SqT X.K H a xs)(h':SqT X.K H a ys):xs=ys:=by
 obtain⟨c,r,⟨o,e,_,n,d⟩,_⟩:=I.tuple h
 obtain⟨b,i,⟨k,g,_,j,f⟩,_⟩:=I.tuple h'
 rw[e] at g;cases g
 rw[d] at f
 injection f with d1 _
 have:c=b:=by simpa using congrArg K2 d1
 subst this
 exact r.inj i
end
abbrev Cx.wish(X:Cx)(E:Value->Shared->Prop):Cx:={X with xe:=E}
abbrev Cx.nox(X:Cx):Cx:=X.wish λ_ _=>False
theorem Cx.Ok.wish(ok:X.Ok)(E:Value->Shared->Prop):(X.wish E).Ok:=
 ⟨ok.mod,ok.kind,ok.glob,ok.blt,ok.above,ok.inj,ok.has,ok.cab,ok.hd,ok.frames,ok.stk,ok.exf,ok.bs,ok.bsz,ok.noex,ok.exfs,ok.funs,ok.frf⟩
theorem Cx.Ok.unwish{E:Value->Shared->Prop}(ok:(X.wish E).Ok):X.Ok:=
 ⟨ok.mod,ok.kind,ok.glob,ok.blt,ok.above,ok.inj,ok.has,ok.cab,ok.hd,ok.frames,ok.stk,ok.exf,ok.bs,ok.bsz,ok.noex,ok.exfs,ok.funs,ok.frf⟩
section
variable {E:Value->Shared->Prop}
theorem Inv.wish(I:Inv X pins σ H s)(E:Value->Shared->Prop):Inv (X.wish E) pins σ H s:=⟨I.ok.wish E,I.os,I.bare,I.base,I.loc,I.cell,I.free,I.freeC,I.pin,I.hok,I.len⟩
theorem Inv.unwish(I:Inv (X.wish E) pins σ H s):Inv X pins σ H s:=⟨I.ok.unwish,I.os,I.bare,I.base,I.loc,I.cell,I.free,I.freeC,I.pin,I.hok,I.len⟩
theorem SP.unwish{D:Ends}{f:Flow}(h:SP (X.wish E) pins D f s'):SP X pins D f s':=by
 cases f with
 |next=>obtain⟨σ',H',I,q⟩:=h;exact⟨σ',H',I.unwish,q⟩
 |brk=>obtain⟨σ',H',I,q⟩:=h;exact⟨σ',H',I.unwish,q⟩
 |cont=>obtain⟨σ',H',I,q⟩:=h;exact⟨σ',H',I.unwish,q⟩
 |ret u=>obtain⟨v,σ',H',I,r,q⟩:=h;exact⟨v,σ',H',I.unwish,r,q⟩
theorem PSs.nox{st:List Stmt}{t:TS}(h:PSs X.nox st t):PSs X st t:=λpins s σ H D I hw =>
 w7 (h pins s σ H D (I.wish _) hw) (λ_ _ q=>q.unwish) λ_ _ z=>zd z
end
section
variable {rest:List Stmt}{t u:TS}
noncomputable def aT1:TS:=λD σ H=>D.nx σ H
noncomputable def tSeq(t u:TS):TS:=λD σ H=>t {D with nx:=u D} σ H
theorem aPW:PSs X [] aT1:=λ_ _ σ H _ I h=>l4 ⟨σ,H,I,h⟩
theorem aJJ(h1:PS X st t)(h2:PSs X rest u):PSs X (st::rest) (tSeq t u):=by
 intro pins s σ H D I h
 refine Vw (thn (h1 pins s σ H {D with nx:=u D} I h) λf s1 q => ?_)
 cases f with
 |next =>
  obtain⟨σ',H',I',q⟩:=q
  exact h2 pins s1 σ' H' D I' q
 |ret v=>exact q
 |brk=>exact q
 |cont=>exact q
theorem aPL(h1:PS X st t):PSs X [st] t:=by
 intro pins s σ H D I h
 refine Vw (thn (h1 pins s σ H D I h) λf s1 q => ?_)
 cases f with
 |next=>exact l4 q
 |ret v=>exact q
 |brk=>exact q
 |cont=>exact q
theorem Inv.quiet(I:Inv X pins σ H s):interactive X.env=false:=by simp[interactive,I.ok.kind]
noncomputable def aTS(te:TE):TS:=λD σ H=>te σ H λ_ H1=>D.nx σ H1
theorem aM3(he:PE X e te)(hs:d4 e none pos.line X.env=pure false:=by rfl):PS X (.Expr e pos) (aTS te):=by
 intro pins s σ H D I h
 exact wpAny_Expr_any (thn (he pins s σ H _ I h) λv s1 ⟨x,H1,I1,r1,a⟩=>⟨σ,H1,I1,a⟩) I.quiet hs
noncomputable def tRet(te:TE):TS:=λD σ H=>te σ H D.rt
theorem aQT(he:PE X e te):PS X (.Return (some e) pos) (tRet te):=by
 intro pins s σ H D I h
 exact wpAny_Return_some (thn (he pins s σ H _ I h) λv s1 ⟨x,H1,I1,r1,q1⟩=>⟨x,σ,H1,I1,r1,q1⟩)
noncomputable def tIfS(c:TT)(t u:TS):TS:=λD σ H=>c σ H λb H1=>if b=true then t D σ H1 else u D σ H1
theorem aUU{a b:List Stmt}{tc:TT}(hc:PT X c tc)(ha:PSs X a t)(hb:PSs X b u):PS X (.If c a b pos) (tIfS tc t u):=by
 intro pins s σ H D I h
 refine wpAny_If (thn (hc pins s σ H _ I h) λd s1 ⟨H1,I1,e⟩ => ?_)
 cases d with
 |true=>exact ha pins s1 σ H1 D I1 e
 |false=>exact hb pins s1 σ H1 D I1 e
end
abbrev TG:=V->St->Hp->(St->Hp->Prop)->Prop
abbrev TGs:=List V->St->Hp->(St->Hp->Prop)->Prop
noncomputable def PG(X:Cx)(target:Expr)(t:TG):Prop:=
 ∀(pins:List (Addr×Obj)) (s:Shared) (σ:St) (H:Hp) (v:V) (u:Value) (Q:St->Hp->Prop),Inv X pins σ H s->RelV v u->t v σ H Q ->
  wpAny X.w.14 X.A (assign target X.env u) (λ_ s'=>∃σ' H',Inv X pins σ' H' s'/\Q σ' H') X.xe s
noncomputable def PGs(X:Cx)(ts:List Expr)(t:TGs):Prop:=
 ∀(pins:List (Addr×Obj)) (s:Shared) (σ:St) (H:Hp) (vs:List V) (us:List Value) (Q:St->Hp->Prop),Inv X pins σ H s->Vals vs us->t vs σ H Q ->
  wpAny X.w.14 X.A (g0 ((xy ts X.env).map (·.2)) us) (λ_ s'=>∃σ' H',Inv X pins σ' H' s'/\Q σ' H') X.xe s
abbrev TSet:=V->V->V->Hp->(Hp->Prop)->Prop
noncomputable def PSet(X:Cx)(t:TSet):Prop:=
 ∀(pins:List (Addr×Obj)) (s:Shared) (σ:St) (H:Hp) (o i v:V) (ov iv u:Value) (Q:Hp->Prop),Inv X pins σ H s->RelV o ov->RelV i iv->RelV v u->t o i v H Q ->
  wpAny X.w.14 X.A (setItem ov iv u) (λ_ s'=>∃H',Inv X pins σ H' s'/\Q H') X.xe s
section
noncomputable def oB(i:Nat):TG:=λv σ H Q=>Q (σ.set i (some v)) H
theorem sF(hN:X.N.Nodup)(hi:X.N[i]?=some x)(hx:Loc X.env.scope x)(hf:X.fn x=true\/X.env.scope.names.lookup x=some .local:=by first|exact .inl rfl|exact .inr rfl|assumption):PG X (.Name x pos) (oB i):=by
 intro pins s σ H v u Q I r h
 exact se (pR I hN hi hx r (λa I'=>⟨_,H,I',h⟩) hf)
noncomputable def gNil:TGs:=λvs σ H Q=>vs=[]/\Q σ H
noncomputable def aF6(t:TG)(u:TGs):TGs:=λvs σ H Q=>∃v r,vs=v::r/\t v σ H λσ' H'=>u r σ' H' Q
theorem aDV:PGs X [] gNil:=by
 intro pins s σ H vs us Q I r h
 obtain⟨e,h⟩:=h
 subst e
 cases r
 exact Vc ⟨σ,H,I,h⟩
theorem uA{t:TG}{u:TGs}(h1:PG X e t)(h2:PGs X es u)(hs:(xy (e::es) X.env).map (·.2)=assign e X.env::(xy es X.env).map (·.2):=by rfl):PGs X (e::es) (aF6 t u):=by
 intro pins s σ H vs us Q I r h
 obtain⟨v,c,a,h⟩:=h
 subst a
 cases r with
 |cons r rr =>
  rw[hs]
  refine pj (thn (h1 pins s σ H _ _ _ I r h) λ_ s1 ⟨σ1,H1,I1,b⟩ => ?_)
  exact h2 pins s1 σ1 H1 _ _ Q I1 rr b
noncomputable def gTup(K:qh)(n:Nat)(t:TGs):TG:=λv σ H Q=>∃a xs,v = .ref a/\SqT K H a xs/\xs.length=n/\t xs σ H Q
theorem aI0{k:Nat}{t:TGs}(hc:X.calm=true)(h:PGs X es t)(hn:(xy es X.env).length=n:=by rfl)(hst:(xy es X.env).findIdx? (·.1)=none:=by rfl):PG X (.Tuple es k pos) (gTup X.K n t):=by
 intro pins s σ H v u Q I r hw
 obtain⟨a,xs,g,f,hl,hw⟩:=hw
 subst g
 cases r
 obtain⟨l,c,i,m⟩:=I.tuple f
 refine assign_Tuple_tuple (I.ok.hd hc) i (by simp[hn,<- hl,c.length]) hst λd j => ?_
 have I1:Inv X pins σ H {s with heap:=d}:=I.kept (t':=s.toks) λb o e=>j b o (q4 (qv e)) e
 exact h pins _ σ H xs _ Q I1 (by simpa using c) hw
noncomputable def gSub(to ti:TE)(t:TSet):TG:=λv σ H Q=>to σ H λo H1=>ti σ H1 λi H2=>t o i v H2 λH3=>Q σ H3
theorem aSI{i:Expr}{to ti:TE}{t:TSet}(ho:PE X o to)(hi:PE X i ti)(hs:PSet X t)(ha:∀v,assign (.Subscript o i pos) X.env v=(do
   let ov <- gy [v] (eval o X.env)
   let iv <- gy [v,ov] (eval i X.env)
   Ju pos
   gy [v,ov,iv] (setItem ov iv v)
   release [v,ov,iv] []):=by intro _;rfl):PG X (.Subscript o i pos) (gSub to ti t):=by
 intro pins s σ H v u Q I r h
 rw[ha]
 refine qa (vv (thn (ho pins s σ H _ I h) λov s1 ⟨x,H1,I1,r1,c⟩ => ?_))
 refine qa (vv (thn (hi pins s1 σ H1 _ I1 c) λiv s2 ⟨y,H2,I2,r2,a⟩ => ?_))
 refine qa (dk (qa (vv (thn (hs pins s2 σ H2 x y v ov iv u _ I2 r1 r2 r a) λ_ s3 ⟨H3,I3,b⟩ => ?_))))
 exact wpAny_release ⟨σ,H3,I3,b⟩
noncomputable def zI(te:TE)(g:TG):TS:=λD σ H=>te σ H λx H1=>g x σ H1 D.nx
theorem aR9{g:TG}(he:PE X e te)(hg:PG X tg g)(hs:pb [tg] e pos.line X.env=pure false:=by rfl)(hw:pd [tg] e X.env=pure none:=by rfl)(h1:(xy [tg] X.env).map (·.2)=[assign tg X.env]:=by rfl):PS X (.Assign [tg] e pos) (zI te g):=by
 intro pins s σ H D I h
 refine wpAny_Assign_stores (thn (he pins s σ H _ I h) λv s1 ⟨x,H1,I1,r1,a⟩ => ?_) hs hw
 rw[h1]
 exact thn (hg pins s1 σ H1 x v _ I1 r1 a) λ_ s2 q=>q
theorem aSW(hN:X.N.Nodup)(hi:X.N[i]?=some x)(hx:Loc X.env.scope x)(he:PE X e te)(hs:d4 e (some (.Name x pos')) pos.line X.env=pure false:=by rfl)(hf:X.fn x=true\/X.env.scope.names.lookup x=some .local:=by first|exact .inl rfl|exact .inr rfl|assumption):
  PS X (.Assign [.Name x pos'] e pos) (zI te (oB i)):=by
 intro pins s σ H D I h
 refine wpAny_Assign_Name (thn (he pins s σ H _ I h) λv s1 ⟨y,H1,I1,r1,a⟩ => ?_) hs
 exact pR I1 hN hi hx r1 (λs2 I2=>⟨_,H1,I2,a⟩) hf
noncomputable def tPar(i j:Nat)(ta:TA):TS:=λD σ H=>ta σ H λvs H1=>∃v w,vs=[v,w]/\D.nx ((σ.set i (some v)).set j (some w)) H1
theorem aTF{y:Str}{a b:Expr}{ta:TA}{pt:Pos}{kt k2 pt2}(hc:X.calm=true)(hN:X.N.Nodup)(hi:X.N[i]?=some x)(hj:X.N[j]?=some y)(hij:i≠j)(hx:X.env.scope.names.lookup x=some .local)(hy:X.env.scope.names.lookup y=some .local)(ha:PA X [a,b] ta)(hw:pd [.Tuple [.Name x px, .Name y py] kt pt] (.Tuple [a,b] k2 pt2) X.env=pure (some [x,y]))(hs:pb [.Tuple [.Name x px, .Name y py] kt pt] (.Tuple [a,b] k2 pt2) pos.line X.env=pure false:=by rfl):
  PS X (.Assign [.Tuple [.Name x px, .Name y py] kt pt] (.Tuple [a,b] k2 pt2) pos) (tPar i j ta):=by
 intro pins s σ H D I h
 rw[exec_Assign_arm]
 refine qa (dk ?_)
 rw[hs]
 refine qa ?_.16
 rw[if_neg '#']
 refine qa (Tuple_ (thn (ha _ pins s σ H _ I h) λus s1 ⟨vs,H1,I1,r1,g⟩ => ?_))
 obtain⟨v,w,l,g⟩:=g
 subst l
 obtain⟨d,c,rfl,m,f⟩:∃d c,us=[d,c]/\RelV v d/\RelV w c:=by
  cases r1 with
  |cons p q =>
   cases q with
   |cons p' q' =>
    cases q'
    exact⟨_,_,rfl,p,p'⟩
 refine va ?_ (by show 2<=sizeLine;decide)
 have I2:Inv X pins σ H1 {s1 with heap:=s1.heap.push {cls := .type "tuple", data := .seq [d,c].toArray} }:=I1.kept (t':=s1.toks) λb o e=>qc _ e
 rw[hw]
 refine qa ?_.16
 show wpAny X.w.14 X.A (do rule "assign.swapped-stores"; let items <- unpackItems (.ref s1.heap.objs.size) 2 none;g0 [λv=>KR X.env y v,λv=>KR X.env x v] items.reverse;pure WU) _ _ _
 refine qa (Jj (qa (unpackItems_tuple (items := #[d,c]) (I.ok.hd hc) (Ki s1.heap _) λh' k => ?_)))
 have I3:=I2.kept (h':=h') (t':=s1.toks) λb o e=>k b o (q4 (qv e)) e
 show wpAny _ _ (g0 [λv=>KR X.env y v,λv=>KR X.env x v] [c,d] >>= λ_=>pure WU) _ _ _
 refine qa (pj (WN (pR I3 hN hj (.inl hy) f (λs2 I4 => ?_) (.inr hy))))
 refine pj (WN (pR I4 hN hi (.inl hx) m (λs3 I5=>Vc ?_.16) (.inr hx)))
 rw[List.set_comm _ _ (cb hij)] at I5
 exact⟨_,H1,I5,g⟩
end
section
noncomputable def aRH(c:TT)(tb:TS):TS:=λD σ H=>∃W:Nat->St->Hp->Prop,(∃m,W m σ H)/\∀m σ H,W m σ H ->
 c σ H λb H1=>if b=true then ∃N:St->Hp->Prop,(∀σ' H',N σ' H'->∃m',m'<m/\W m' σ' H')/\tb {D with nx:=N,ct:=N,bk:=D.nx} σ H1 else D.nx σ H1
theorem aKA{body:List Stmt}{tc:TT}{tb:TS}(hp:Kd X.w.14 X.A X.env X.xe)(hc:PT X c tc)(hb:PSs X body tb):PS X (.While c body [] pos) (aRH tc tb):=by
 intro pins s σ H D I h
 obtain⟨W,⟨m0,m⟩,turn⟩:=h
 refine wpAny_While (codeAny_whileLoop (λn l=>∃σ' H',Inv X pins σ' H' l/\W n σ' H') ?_ m0 ⟨σ,H,I,m⟩)
 rintro n s1 ⟨σ1,H1,I1,k⟩
 refine zj hp (thn (hc pins s1 σ1 H1 _ I1 (turn n σ1 H1 k)) λb s2 ⟨H2,I2,d⟩ => ?_)
 cases b with
 |true =>
  obtain⟨N,j,d⟩:=d
  rw[if_pos rfl]
  refine zj hp (thn (hb pins s2 σ1 H2 _ I2 d) λf s3 a => ?_)
  cases f with
  |next =>
   obtain⟨σ3,H3,I3,g⟩:=a
   obtain⟨e,hm,i⟩:=j σ3 H3 g
   exact⟨e,hm,σ3,H3,I3,i⟩
  |cont =>
   obtain⟨σ3,H3,I3,g⟩:=a
   obtain⟨e,hm,i⟩:=j σ3 H3 g
   exact⟨e,hm,σ3,H3,I3,i⟩
  |brk=>exact a
  |ret v=>exact a
 |false =>
  rw[if_neg zBf]
  exact l4 ⟨σ1,H2,I2,d⟩
end
structure It where
 go:Nat->Hp->Prop
 yld:Nat->Hp->V->Hp->Prop
 stop:Nat->Hp->Prop
noncomputable def mX(X:Cx)(pins:List (Addr×Obj))(H:Hp)(b:Addr):Prop:=
 H b=none/\b≠X.env.locals/\b∉X.fs/\(b∈X.ex\/X.s₀.heap.objs.size<=b)/\(∀x c,X.env.cells.lookup x=some c->c≠b)/\∀p∈X.pn++pins,p.1≠b
theorem Inv.fpOk{b:Addr}(I:Inv X pins σ H s)(hb:s.heap.objs.size<=b)(hn:H' b=none):mX X pins H' b:=by
 refine⟨hn,dz (qy I.lt hb),I.nofs hb, .inr (qq I.sz hb),λx c e z => ?_,λp a z => ?_⟩
 ·obtain⟨v,q⟩:=I.cell x c e
  exact absurd (qy q.lt (by rw[z];exact hb)) (x4 _)
 ·exact absurd (qy (qv (I.pin p a).1) (by rw[z];exact hb)) (x4 _)
structure Turn(P:Program)(w:World)(K:qh)(tg:Expr)(J:It)(fp:List Addr)(it:Addr)(tn:Nat->Heap->Prop):Prop where
 mem:it∈fp
 obj:∀i h,tn i h->∀b∈fp,∃o,h.get? b=some o/\∀v,o.data ≠ .cell v
 keep:∀i h h',tn i h->(∀b∈fp,∀o,h.get? b=some o->h'.get? b=some o)->tn i h'
 item:∀(X:Cx),X.prog=P->X.w=w->X.K=K->X.calm=true->∀(i:Nat) (pins:List (Addr×Obj)) (s:Shared) (σ:St) (H:Hp) (E:Value->Shared->Prop),Inv X pins σ H s->(∀b∈fp,mX X pins H b)->tn i s.heap->J.go i H ->
  wpAny (jl P w) X.A (tq (.ref it)) (λr s1=>∃u,r=some u /\
   wpAny (jl P w) X.A (l5 tg (.ref it) u) (λ_ s2=>∃x H',Inv X pins σ H' s2/\RelV x u/\J.yld i H x H'/\tn (i+1) s2.heap/\∀b∈fp,H' b=none) E s1) E s
 done:∀(X:Cx),X.prog=P->X.w=w->X.K=K->X.calm=true->∀(i:Nat) (pins:List (Addr×Obj)) (s:Shared) (σ:St) (H:Hp) (E:Value->Shared->Prop),Inv X pins σ H s->(∀b∈fp,mX X pins H b)->tn i s.heap->J.stop i H ->
  wpAny (jl P w) X.A (tq (.ref it)) (λr s1=>r=none/\Inv X pins σ H s1) E s
 self:∀(A:Around) (i:Nat) (s:Shared) (Q:Value->Shared->Prop) (E:Value->Shared->Prop),tn i s.heap->Q (.ref it) s->wpAny (jl P w) A (Ji (.ref it)) Q E s
abbrev TI:=St->Hp->(It->Hp->Prop)->Prop
noncomputable def PIE(X:Cx)(pins:List (Addr×Obj))(σ:St)(tg:Expr)(R:It->Hp->Prop)(itv:Value)(s2:Shared):Prop:=
 ∃(it:Addr) (fp:List Addr) (tn:Nat->Heap->Prop) (J:It) (H':Hp),itv = .ref it/\Inv X pins σ H' s2/\Turn X.prog X.w X.K tg J fp it tn/\tn 0 s2.heap/\(∀b∈fp,mX X pins H' b)/\R J H'
noncomputable def PI(X:Cx)(tg iter:Expr)(wi:TI):Prop:=
 ∀(pins:List (Addr×Obj)) (s:Shared) (σ:St) (H:Hp) (R:It->Hp->Prop),Inv X pins σ H s->wi σ H R ->
  wpAny X.w.14 X.A (eval iter X.env) (λv s1=>wpAny X.w.14 X.A (Ji v) (PIE X pins σ tg R) X.xe s1) X.xe s
theorem wB{M:Jt}{E:Value->Shared->Prop}{o:Obj}{n:String}{vs:Array Value}{Q:Unit->Shared->Prop}(ho:s.heap.get? it=some o)(hc:o.cls = .type n)(hd:o.data = .fields vs)(hn:["enumerate", "zip", "dict_itemiterator", "dict_reverseitemiterator", "odict_iterator", "itertools.zip_longest", "itertools.pairwise"].contains n=false)(hQ:Q () s):wpAny M A (l5 tg (.ref it) u) Q E s:=by
  unfold l5
  cases tg <;> first
    |exact wpAny_pure hQ
    | (cases u <;> first
        |exact wpAny_pure hQ
        | (refine qa (Jk ho ?_)
           rw[hc,hd]
           show wpAny M A (if (["enumerate", "zip", "dict_itemiterator", "dict_reverseitemiterator", "odict_iterator", "itertools.zip_longest", "itertools.pairwise"].contains n&&vs[0]?==some (rawInt _))=true then _ else _) Q E s
           rw[if_neg (by intro h;rw[hn,Bool.false_and] at h;cases h)]
           exact wpAny_pure hQ))
noncomputable def Itl(K:qh)(a:Addr):It:=
 ⟨λi H=>∃xs x,SqL K H a xs/\xs[i]?=some x,λi H x H'=>H'=H/\∀xs,SqL K H a xs->xs[i]?=some x,λi H=>∃xs,SqL K H a xs/\xs.length<=i⟩
noncomputable def Itt(K:qh)(a:Addr):It:=
 ⟨λi H=>∃xs x,SqT K H a xs/\xs[i]?=some x,λi H x H'=>H'=H/\∀xs,SqT K H a xs->xs[i]?=some x,λi H=>∃xs,SqT K H a xs/\xs.length<=i⟩
noncomputable def Itr(lo:Int)(n:Nat):It:=⟨λi _=>i<n,λi H x H'=>H'=H/\x = .int (lo+i),λi _=>n<=i⟩
theorem aGH{K:qh}(a it:Addr):Turn P w K tg (Itl K a) [it] it (λi h=>h.IsListIter it a i) where
 mem:=by simp
 obj:=λi h st b f=>by
  have e:b=it:=by simpa using f
  subst e
  obtain⟨o,e,c,d⟩:=st
  exact⟨o,e,λv z=>by rw[d] at z;cases z⟩
 keep:=λi h l st k=>st.at λo e=>k it '%' o e
 item:=by
  intro X t hw q C i pins s σ H E I hf st y
  subst t hw q
  obtain⟨xs,x,j,A⟩:=y
  obtain⟨B,r,p,M⟩:=I.list j
  obtain⟨u,L,D⟩:=r.get A
  obtain⟨f0,f1,f2,m,f4,n⟩:=hf it '%'
  refine JO st p.isList (x:=u) (by simpa using L) λl g F => ?_
  have I1:Inv X pins σ H {s with heap:=l}:=I.turned (t':=s.toks) (λb o f e=>(F.2 b f).trans e) f0 f1 m f4 n
  obtain⟨o,e,c,d⟩:=id g
  exact⟨u,rfl,wB (s:={s with heap:=l}) e c d '#' ⟨x,H,I1,D,⟨rfl,λN G=>by rw[I.list_inj G j];exact A⟩,g,λb f=>(hf b f).1⟩⟩
 done:=by
  intro X t hw q C i pins s σ H E I hf st y
  subst t hw q
  obtain⟨xs,j,A⟩:=y
  obtain⟨B,r,p,M⟩:=I.list j
  obtain⟨f0,f1,f2,m,f4,n⟩:=hf it '%'
  have hl:=r.length
  exact Kj (I.ok.hd C) st p.isList (by simp;omega) λl J=>⟨rfl,I.turned (t':=s.toks) (λb o f e=>J b o f e) f0 f1 m f4 n⟩
 self:=λ_ _ _ _ _ st h=>wpAny_pyIter_listiter st h
theorem aFJ{K:qh}(a it:Addr):Turn P w K tg (Itt K a) [it] it (λi h=>h.IsTupleIter it a i) where
 mem:=by simp
 obj:=λi h st b g=>by
  have e:b=it:=by simpa using g
  subst e
  obtain⟨o,e,c,d⟩:=st
  exact⟨o,e,λv z=>by rw[d] at z;cases z⟩
 keep:=λi h m st k=>st.at λo e=>k it '%' o e
 item:=by
  intro X y hw r C i pins s σ H E I hf st A
  subst y hw r
  obtain⟨xs,x,l,B⟩:=A
  obtain⟨f,t,p,M⟩:=I.tuple l
  obtain⟨u,L,D⟩:=t.get B
  obtain⟨f0,f1,f2,n,f4,q⟩:=hf it '%'
  refine wpAny_pyNext_tuple_item st (show s.heap.IsTuple a f.toArray from p) (x:=u) (by simpa using L) λm j F => ?_
  have I1:Inv X pins σ H {s with heap:=m}:=I.turned (t':=s.toks) (λb o g e=>(F.2 b g).trans e) f0 f1 n f4 q
  obtain⟨o,e,c,d⟩:=id j
  exact⟨u,rfl,wB (s:={s with heap:=m}) e c d '#' ⟨x,H,I1,D,⟨rfl,λN G=>by rw[I.tuple_inj G l];exact B⟩,j,λb g=>(hf b g).1⟩⟩
 done:=by
  intro X y hw r C i pins s σ H E I hf st A
  subst y hw r
  obtain⟨xs,l,B⟩:=A
  obtain⟨f,t,p,M⟩:=I.tuple l
  obtain⟨f0,f1,f2,n,f4,q⟩:=hf it '%'
  have hl:=t.length
  exact wpAny_pyNext_tuple_end (I.ok.hd C) st (show s.heap.IsTuple a f.toArray from p) (by simp;omega) λm J=>⟨rfl,I.turned (t':=s.toks) (λb o g e=>J b o g e) f0 f1 n f4 q⟩
 self:=λ_ _ _ _ _ st h=>wpAny_pyIter_tupleiter st h
theorem aE7{K:qh}(it:Addr)(lo:Int)(n:Nat):Turn P w K tg (Itr lo n) [it] it (λi h=>IsRangeIter h it (lo+(i:Nat)*1) ((n:Int)-(i:Nat)) 1) where
 mem:=by simp
 obj:=λi h st b a=>by
  have e:b=it:=by simpa using a
  subst e
  exact⟨_,st,λv z=>by
   have r:Data.fields _=Data.cell v:=z
   cases r⟩
 keep:=λi h d st k=>k it '%' _ st
 item:=by
  intro X f hw l p i pins s σ H E I hf st g
  subst f hw l
  obtain⟨f0,f1,f2,j,f4,m⟩:=hf it '%'
  have W:=Walks.range (prog:=X.prog) (w:=X.w) (I.ok.hd p) it lo 1 n
  refine W.item i s _ _ g st λv d tk q c u => ?_
  obtain⟨t,rfl⟩:=q
  have I1:Inv X pins σ H {s with heap:=d,toks:=tk}:=I.turned (λb o a e=>u b o (by simpa using a) e) f0 f1 j f4 m
  refine⟨_,rfl,wB (s:={s with heap:=d,toks:=tk}) (n := "range_iterator") c rfl rfl '#' ⟨.int (lo+i),H,I1,⟨t,?_⟩,⟨rfl,rfl⟩,c,λb a=>(hf b a).1⟩⟩
  rw[WH]
 done:=by
  intro X f hw l p i pins s σ H E I hf st g
  subst f hw l
  obtain⟨f0,f1,f2,j,f4,m⟩:=hf it '%'
  exact wpAny_pyNext_range_end (I.ok.hd p) st (by have:n<=i:=g;omega) λd x=>⟨rfl,I.turned (t':=s.toks) (λb o a e=>x b o a e) f0 f1 j f4 m⟩
 self:=λ_ _ _ _ _ st h=>wpAny_pyIter_rangeiter st h
end L2
variable {wi:L2.TI}
namespace L2
open PySem PySem.Spec PyProof.Rows
section
theorem aAZ{R:It->Hp->Prop}{E:Value->Shared->Prop}{lo hi:Int}{t u v:Tok}{tk:Nat}(I:Inv X pins σ H s)(h1 : -(2^62)<=lo)(h2:lo<2^62)(h3 : -(2^62)<=hi)(h4:hi<2^62)(q:R (Itr lo (hi-lo).toNat) H):wpAny X.w.14 X.A (Ji (.ref s.heap.objs.size)) (PIE X pins σ tg R) E {s with heap:=s.heap.push {cls := .type "range", data := .fields #[.int lo t, .int hi u, .int 1 v]},toks:=tk}:=by
 refine wpAny_pyIter_range (IsRange.new ..) (small_one h1 h2 h3 h4) ?_
 have I1:Inv X pins σ H {s with heap:=s.heap.push {cls := .type "range", data := .fields #[.int lo t, .int hi u, .int 1 v]},toks:=tk}:=I.kept λb o e=>qc _ e
 refine⟨(s.heap.push {cls := .type "range", data := .fields #[.int lo t, .int hi u, .int 1 v]}).objs.size,[(s.heap.push {cls := .type "range", data := .fields #[.int lo t, .int hi u, .int 1 v]}).objs.size],_,_,H,rfl,
  I1.kept (t':=tk) λb o e=>qc _ e,aE7 _ lo (hi-lo).toNat,?_,λb c => ?_,q⟩
 ·have a:lo+((0:Nat):Int)*1=lo:=by simp
  have d:(((hi-lo).toNat:Nat):Int)-((0:Nat):Int)=Vu lo hi 1:=by rw[rangeSize_one];split <;> omega
  show IsRangeIter _ _ (lo+((0:Nat):Int)*1) ((((hi-lo).toNat:Nat):Int)-((0:Nat):Int)) 1
  rw[a,d]
  exact qu _ rfl
 ·have e:b=(s.heap.push {cls := .type "range", data := .fields #[.int lo t, .int hi u, .int 1 v]}).objs.size:=by simpa using c
  subst e
  exact I1.fpOk (qk _) (I1.hok.fresh (qk _))
noncomputable def aUE(ta:TA):TI:=λσ H R=>ta σ H λvs H1=>∃j:Int,vs=[.int j] /\ -(2^62)<=j/\j<2^62/\R (Itr 0 j.toNat) H1
noncomputable def aUX(ta:TA):TI:=λσ H R=>ta σ H λvs H1=>∃i j:Int,vs=[.int i, .int j]/\(-(2^62)<=i/\i<2^62 /\ -(2^62)<=j/\j<2^62)/\R (Itr i (j-i).toNat) H1
theorem aI4{a:Expr}{ta:TA}{p:Pos}(hg:Gl X "range")(hm:X.mg "range" = none)(ha:PA X [a] ta)(hs:jk [a] X.env=[(false,eval a X.env)]:=by rfl):PI X tg (.Call (.Name "range" p) [a] [] pos) (aUE ta):=by
 intro pins s σ H R I h
 refine Call_ (mZ I hg hm boot_range (xq (thn (ha pos pins s σ H _ I h) λus s1 ⟨vs,H1,I1,r1,b⟩ => ?_) hs rfl))
 obtain⟨j,e,b,c,q⟩:=b
 subst e
 cases r1 with
 |cons r rr =>
  cases rr
  obtain⟨t,rfl⟩:=r
  exact call_range_1 (aAZ I1 '$' '$' b c (by simpa using q))
theorem aIG{a b:Expr}{ta:TA}{p:Pos}(hg:Gl X "range")(hm:X.mg "range" = none)(ha:PA X [a,b] ta)(hs:jk [a,b] X.env=[(false,eval a X.env),(false,eval b X.env)]:=by rfl)(hs2:jk [b] X.env=[(false,eval b X.env)]:=by rfl):
  PI X tg (.Call (.Name "range" p) [a,b] [] pos) (aUX ta):=by
 intro pins s σ H R I h
 refine Call_ (mZ I hg hm boot_range (xq (thn (ha pos pins s σ H _ I h) λus s1 ⟨vs,H1,I1,r1,c⟩ => ?_) (by rw[hs,hs2]) (by rw[hs2];rfl)))
 obtain⟨i,j,e,⟨c,f,d,g⟩,q⟩:=c
 subst e
 cases r1 with
 |cons r rr =>
  cases rr with
  |cons r' rr =>
   cases rr
   obtain⟨t,rfl⟩:=r
   obtain⟨k,rfl⟩:=r'
   exact call_range_2 (aAZ I1 c f d g q)
noncomputable def tFor(wi:TI)(g:TG)(tb:TS):TS:=λD σ H=>wi σ H λJ H1=>∃W:Nat->Nat->St->Hp->Prop,(∃m,W 0 m σ H1)/\∀i m σ H,W i m σ H ->
 (J.stop i H/\D.nx σ H)\/(J.go i H/\∃N:St->Hp->Prop,(∀σ' H',N σ' H'->∃m',m'<m/\W (i+1) m' σ' H')/\∀x H',J.yld i H x H'->g x σ H' λσ2 H2=>tb {D with nx:=N,ct:=N,bk:=D.nx} σ2 H2)
noncomputable def rC(fp:List Addr)(h:Heap):List (Addr×Obj):=fp.filterMap λb=>(h.get? b).map λo=>(b,o)
theorem lO{b:Addr}{o:Obj}(hb:b∈fp)(e:h.get? b=some o):(b,o)∈rC fp h:=JH.mpr ⟨b,hb,by rw[e];rfl⟩
theorem aH5{p:Addr×Obj}(hp:p∈rC fp h):p.1∈fp/\h.get? p.1=some p.2:=by
 obtain⟨b,a,e⟩:=JH.mp hp
 cases q:h.get? b with
 |none=>rw[q] at e;cases e
 |some o =>
  rw[q] at e
  have c:(b,o)=p:=je e
  subst c
  exact⟨a,q⟩
theorem Inv.pinned(I:Inv X pins σ H s)(hf:∀b∈fp,mX X pins H b)(ho:∀b∈fp,∃o,s.heap.get? b=some o/\∀v,o.data ≠ .cell v):Inv X (pins++rC fp s.heap) σ H s:=
 I.pins_of λp f=>(jf.mp f).elim (λz=>I.pin p (kq _ z)) λz=>by
  obtain⟨a,e⟩:=aH5 z
  obtain⟨f0,f1,f2,_⟩:=hf p.1 a
  obtain⟨o,c,d⟩:=ho p.1 a
  rw[e] at c;cases c
  exact⟨e,f0,f1,f2,d⟩
theorem Inv.unpinned{pl:List (Addr×Obj)}(I:Inv X (pins++pl) σ H s):Inv X pins σ H s:=I.pins_of λp hp=>I.pin p (kq _ (cu _ hp))
theorem aST{body:List Stmt}{g:TG}{tb:TS}(hp:Kd X.w.14 X.A X.env X.xe)(hc:X.calm=true)(hi:PI X tg iter wi)(hg:PG X tg g)(hb:PSs X body tb)(hs:∀x,foldedSetIterable iter X.env x=pure x:=by intro _;rfl):PS X (.For tg iter body [] pos) (tFor wi g tb):=by
 intro pins s σ H D I h
 refine wpAny_For (thn (hi pins s σ H _ I h) λv s1 E=>thn E λM s2 R => ?_) hs
 obtain⟨it,p,B,J,H2,e,I2,T,y,f2,W,⟨m0,U⟩,turn⟩:=R
 subst e
 -- what stays true of the iterator's objects through the loop
 have stat:∀{H':Hp},(∀b∈p,H' b=none)->∀b∈p,mX X pins H' b:=λY b hb=>⟨Y b hb,(f2 b hb).2⟩
 refine codeAny_forLoop_any (λn C=>∃i σ' H',Inv X pins σ' H' C/\B i C.heap/\(∀b∈p,H' b=none)/\W i n σ' H') ?_ m0 ⟨0,σ,H2,I2,y,λb hb=>(f2 b hb).1,U⟩
 rintro n s3 ⟨i,σ3,H3,I3,j,k,V⟩
 rcases turn i n σ3 H3 V with ⟨stop,O⟩|⟨go,N,F,step⟩
 ·refine zj hp (thn (T.done X rfl rfl rfl hc i pins s3 σ3 H3 X.xe I3 (stat k) j stop) λr s4 ⟨t,I4⟩ => ?_)
  subst t
  exact l4 ⟨σ3,H3,I4,O⟩
 ·refine zj hp (thn (T.item X rfl rfl rfl hc i pins s3 σ3 H3 X.xe I3 (stat k) j go) λr s4 ⟨u,t,S⟩ => ?_)
  subst t
  refine zj hp (thn S λ_ s5 ⟨x,H5,I5,r5,Q,c,q⟩ => ?_)
  have I5':=I5.pinned (stat q) (T.obj _ _ c)
  refine zj hp (thn (hg _ s5 σ3 H5 x u _ I5' r5 (step x H5 Q)) λ_ Z ⟨σ6,H6,I6,L⟩ => ?_)
  refine zj hp (thn (hb _ Z σ6 H6 _ I6 L) λf z a => ?_)
  have again:∀{σ7:St}{H7:Hp},Inv X (pins++rC p s5.heap) σ7 H7 z->N σ7 H7->∃m,m<n/\∃i σ' H',Inv X pins σ' H' z/\B i z.heap/\(∀b∈p,H' b=none)/\W i m σ' H':=λ{σ7 H7} I7 l=>by
   obtain⟨K,hm,P⟩:=F σ7 H7 l
   refine⟨K,hm,i+1,σ7,H7,I7.unpinned,T.keep _ _ _ c λb hb o e=>(I7.pin (b,o) (kq _ (kq _ (lO hb e)))).1,λb hb => ?_,P⟩
   obtain⟨o,e,d⟩:=T.obj _ _ c b hb
   exact (I7.pin (b,o) (kq _ (kq _ (lO hb e)))).2.1
  cases f with
  |next=>obtain⟨σ7,H7,I7,l⟩:=a;exact again I7 l
  |cont=>obtain⟨σ7,H7,I7,l⟩:=a;exact again I7 l
  |brk=>obtain⟨σ7,H7,I7,a⟩:=a;exact⟨σ7,H7,I7.unpinned,a⟩
  |ret v=>obtain⟨G,σ7,H7,I7,r7,a⟩:=a;exact⟨G,σ7,H7,I7.unpinned,r7,a⟩
end
end L2
namespace L2
open PySem PySem.Spec PyProof.Rows
abbrev R2:=V->V->Hp->VK->Prop
noncomputable def OpR(X:Cx)(f:Value->Value->Sem Value)(r:R2):Prop:=
 ∀(pins:List (Addr×Obj)) (s:Shared) (σ:St) (H:Hp) (x y:V) (v u:Value) (Q:VK),Inv X pins σ H s->RelV x v->RelV y u->r x y H Q ->
  wpAny X.w.14 X.A (f v u) (EP X pins σ Q) X.xe s
noncomputable def UnR(X:Cx)(f:Value->Sem Value)(r:V->Hp->VK->Prop):Prop:=
 ∀(pins:List (Addr×Obj)) (s:Shared) (σ:St) (H:Hp) (x:V) (v:Value) (Q:VK),Inv X pins σ H s->RelV x v->r x H Q ->
  wpAny X.w.14 X.A (f v) (EP X pins σ Q) X.xe s
noncomputable def dY(X:Cx)(f:Value)(r:List V->Hp->VK->Prop):Prop:=
 ∀(pins:List (Addr×Obj)) (s:Shared) (σ:St) (H:Hp) (xs:List V) (us:List Value) (Q:VK),Inv X pins σ H s->Vals xs us->r xs H Q ->
  wpAny X.w.14 X.A (call f us) (EP X pins σ Q) X.xe s
noncomputable def TruR(X:Cx)(r:V->Hp->(Bool->Hp->Prop)->Prop):Prop:=
 ∀(pins:List (Addr×Obj)) (s:Shared) (σ:St) (H:Hp) (x:V) (v:Value) (Q:Bool->Hp->Prop),Inv X pins σ H s->RelV x v->r x H Q ->
  wpAny X.w.14 X.A (Wq v) (TP X pins σ Q) X.xe s
noncomputable def tOp(r:R2)(ta tb:TE):TE:=λσ H Q=>ta σ H λx H1=>tb σ H1 λy H2=>r x y H2 Q
noncomputable def tUn(r:V->Hp->VK->Prop)(ta:TE):TE:=λσ H Q=>ta σ H λx H1=>r x H1 Q
noncomputable def rI(C:Int->Int->Prop)(g:Int->Int->V):R2:=λx y H Q=>∃i j,x = .int i/\y = .int j/\C i j/\Q (g i j) H
noncomputable def rI0(g:Int->Int->V):R2:=λx y H Q=>∃i j,x = .int i/\y = .int j/\Q (g i j) H
noncomputable def rU(g:Int->V):V->Hp->VK->Prop:=λx H Q=>∃i,x = .int i/\Q (g i) H
section
variable {a b:Expr}{tb tc:TE}
theorem aJH(ha:PE X a ta)(hb:PE X b tb){R:V->V->Hp->Prop}(I:Inv X pins σ H s)(h:ta σ H λx H1=>tb σ H1 λy H2=>R x y H2){Q:Value->Shared->Prop}{f:Value->Value->Sem Value}(hf:∀v u s2 x y H2,Inv X pins σ H2 s2->RelV x v->RelV y u->R x y H2->wpAny X.w.14 X.A (f v u) Q X.xe s2):
  wpAny X.w.14 X.A (eval a X.env) (λv s₁=>wpAny X.w.14 X.A (eval b X.env) (λu s₂=>wpAny X.w.14 X.A (f v u) Q X.xe s₂) X.xe s₁) X.xe s:=by
 refine thn (ha pins s σ H _ I h) λv s1 ⟨x,H1,I1,r1,d⟩ => ?_
 refine thn (hb pins s1 σ H1 _ I1 d) λu s2 ⟨y,H2,I2,r2,c⟩ => ?_
 exact hf v u s2 x y H2 I2 r1 r2 c
theorem aUB{op:Operator}{r:R2}(ho:OpR X (zw op) r)(ha:PE X a ta)(hb:PE X b tb):PE X (.BinOp a op b pos) (tOp r ta tb):=by
 intro pins s σ H Q I h
 exact wpAny_BinOp (aJH ha hb I h λv u s2 x y H2 I2 d c q=>ho pins s2 σ H2 x y v u Q I2 d c q)
theorem aTV{op:UnaryOp}{r:V->Hp->VK->Prop}(ho:UnR X (unaryOp op) r)(ha:PE X a ta):PE X (.UnaryOp op a pos) (tUn r ta):=by
 intro pins s σ H Q I h
 exact UnaryOp_ (thn (ha pins s σ H _ I h) λv s1 ⟨x,H1,I1,r1,b⟩=>ho pins s1 σ H1 x v Q I1 r1 b)
theorem opI{f:Value->Value->Sem Value}{C:Int->Int->Prop}{g:Int->Int->Int}(rule:∀(i j:Int) (t u:Tok) (s:Shared) (Q:Value->Shared->Prop) (E:Value->Shared->Prop),C i j->Q (.int (g i j) s.toks) {s with toks:=s.toks+1}->wpAny X.w.14 X.A (f (.int i t) (.int j u)) Q E s):
  OpR X f (rI C λi j => .int (g i j)):=by
 intro pins s σ H x y v u Q I c d h
 obtain⟨i,j,rfl,rfl,b,q⟩:=h
 obtain⟨t,rfl⟩:=c
 obtain⟨a,rfl⟩:=d
 exact rule i j t a s _ _ b ⟨.int (g i j),H,I.tok _,⟨_,rfl⟩,q⟩
theorem opI0{f:Value->Value->Sem Value}{g:Int->Int->Int}(rule:∀(i j:Int) (t u:Tok) (s:Shared) (Q:Value->Shared->Prop) (E:Value->Shared->Prop),Q (.int (g i j) s.toks) {s with toks:=s.toks+1}->wpAny X.w.14 X.A (f (.int i t) (.int j u)) Q E s):
  OpR X f (rI0 λi j => .int (g i j)):=by
 intro pins s σ H x y v u Q I b a h
 obtain⟨i,j,rfl,rfl,q⟩:=h
 obtain⟨t,rfl⟩:=b
 obtain⟨c,rfl⟩:=a
 exact rule i j t c s _ _ ⟨.int (g i j),H,I.tok _,⟨_,rfl⟩,q⟩
theorem aFT{f:Value->Value->Sem Value}{g:Int->Int->Bool}(rule:∀(i j:Int) (t u:Tok) (s:Shared) (Q:Value->Shared->Prop) (E:Value->Shared->Prop),Q (.bool (g i j)) s->wpAny X.w.14 X.A (f (.int i t) (.int j u)) Q E s):
  OpR X f (rI0 λi j => .bl (g i j)):=by
 intro pins s σ H x y v u Q I b a h
 obtain⟨i,j,rfl,rfl,q⟩:=h
 obtain⟨t,rfl⟩:=b
 obtain⟨c,rfl⟩:=a
 exact rule i j t c s _ _ ⟨.bl (g i j),H,I,rfl,q⟩
noncomputable def CDiv(i j:Int):Prop:=0<j/\j<1073741824
noncomputable def CPow(i j:Int):Prop:=0<=j/\j<=1000000/\i.natAbs<2^64
noncomputable def CMul(i j:Int):Prop:=(-(2^64)<i/\i<2^64)\/(-(2^64)<j/\j<2^64)
theorem CMul.ok{i j:Int}(h:CMul i j):IntMulOk i j:=by
 rcases h with ⟨h1,h2⟩|⟨h1,h2⟩
 ·exact .of_left (intBits_le_64 h1 h2)
 ·exact .of_right (intBits_le_64 h1 h2)
theorem bS:OpR X (zw .Add) (rI0 λi j => .int (i+j)):=opI0 λ_ _ _ _ _ _ _ q=>add_int q
theorem bH:OpR X (zw .Sub) (rI0 λi j => .int (i-j)):=opI0 λ_ _ _ _ _ _ _ q=>sub_int q
theorem bT:OpR X (zw .Mult) (rI CMul λi j => .int (i*j)):=opI λ_ _ _ _ _ _ _ hc q=>mul_int q hc.ok
theorem oS:OpR X (zw .FloorDiv) (rI CDiv λi j => .int (i/j)):=opI λi j _ _ _ _ _ a q=>by
 have c:(0:Int)<j:=a.1
 have b:j<1073741824:=a.2
 exact floordiv_int '$' (by rw[Int.fdiv_eq_ediv_of_nonneg i '$'];exact q) (.inl (PyProof.noPylong_small '$'))
theorem eM:OpR X (zw .Mod) (rI (λ_ j=>0<j) λi j => .int (i%j)):=opI λi j _ _ _ _ _ a q=>by
 have b:(0:Int)<j:=a
 exact mod_int' '$' (by rw[Qe i '$'];exact q)
theorem aD4:OpR X (zw .Mod) (rI (λ_ j=>j≠0) λi j => .int (i.fmod j)):=opI λ_ _ _ _ _ _ _ hc q=>mod_int' hc q
theorem kZ:OpR X (zw .Pow) (rI CPow λi j => .int (i^j.toNat)):=opI λ_ _ _ _ _ _ _ hc q=>pow_int_small hc.1 hc.2.1 hc.2.2 q
theorem unI{f:Value->Sem Value}{g:Int->Int}(rule:∀(i:Int) (t:Tok) (s:Shared) (Q:Value->Shared->Prop) (E:Value->Shared->Prop),Q (.int (g i) s.toks) {s with toks:=s.toks+1}->wpAny X.w.14 X.A (f (.int i t)) Q E s):
  UnR X f (rU λi => .int (g i)):=by
 intro pins s σ H x v Q I a h
 obtain⟨i,rfl,q⟩:=h
 obtain⟨t,rfl⟩:=a
 exact rule i t s _ _ ⟨.int (g i),H,I.tok _,⟨_,rfl⟩,q⟩
theorem iP:UnR X (unaryOp .USub) (rU λi => .int (-i)):=unI λ_ _ _ _ _ q=>neg_int q
end
noncomputable def scal:V->V->Bool
 |.non, .non=>true|.non, .int _=>true|.int _, .non=>true|.non, .bl _=>true|.bl _, .non=>true|.non, .str _=>true|.str _, .non=>true
 |.int _, .int _=>true|.bl _, .bl _=>true|.str _, .str _=>true|.byt _, .byt _=>true
 |.int _, .str _=>true|.str _, .int _=>true|.bl _, .str _=>true|.str _, .bl _=>true
 |_,_=>false
noncomputable def rEq:R2:=λx y H Q=>scal x y=true/\Q (.bl (decide (x=y))) H
noncomputable def rNe:R2:=λx y H Q=>scal x y=true/\Q (.bl (!decide (x=y))) H
theorem aEJ{i j:Int}:decide (V.int i=V.int j)=(i==j):=by
 rw[xj]
 simp
theorem aI7{i j:Bool}:decide (V.bl i=V.bl j)=(i==j):=by
 rw[xj]
 simp
theorem aD2{i j:Str}:decide (V.str i=V.str j)=(i==j):=by
 rw[xj]
 simp
theorem aEW{i j:Array UInt8}:decide (V.byt i=V.byt j)=(i.toList==j.toList):=by
 rw[xj]
 cases i
 cases j
 simp
section
variable {a b:Expr}{tb tc:TE}
theorem bR{Q:VK}{k k':Bool}(I:Inv X pins σ H s)(q:Q (.bl k) H)(e:k=k'):EP X pins σ Q (.bool k') s:=by
 subst e
 exact⟨.bl k,H,I,rfl,q⟩
theorem f9:OpR X (wh .Eq) rEq:=by
 intro pins s σ H x y v u Q I d a h
 obtain⟨c,q⟩:=h
 cases x with
 |non =>
  cases d
  cases y with
  |non=>cases a;exact V9 (bR I q '%')
  |bl j=>cases a;exact Wc (bR I q '%')
  |int j=>obtain⟨b,rfl⟩:=a;exact Wa (bR I q '%')
  |str j=>obtain⟨b,rfl⟩:=a;exact V8 (bR I q '%')
  |_=>exact absurd (show false=true from c) zBf
 |bl i =>
  cases d
  cases y with
  |non=>cases a;exact We (bR I q '%')
  |bl j=>cases a;exact eq_bool (bR I q aI7)
  |str j=>obtain⟨b,rfl⟩:=a;exact Vp (bR I q '%')
  |_=>exact absurd (show false=true from c) zBf
 |int i =>
  obtain⟨t,rfl⟩:=d
  cases y with
  |non=>cases a;exact Wd (bR I q '%')
  |int j=>obtain⟨b,rfl⟩:=a;exact eq_int (bR I q aEJ)
  |str j=>obtain⟨b,rfl⟩:=a;exact Vo (bR I q '%')
  |_=>exact absurd (show false=true from c) zBf
 |str i =>
  obtain⟨t,rfl⟩:=d
  cases y with
  |non=>cases a;exact V7 (bR I q '%')
  |bl j=>cases a;exact Vn (bR I q '%')
  |int j=>obtain⟨b,rfl⟩:=a;exact Vm (bR I q '%')
  |str j=>obtain⟨b,rfl⟩:=a;exact eq_str (bR I q aD2)
  |_=>exact absurd (show false=true from c) zBf
 |byt i =>
  obtain⟨t,rfl⟩:=d
  cases y with
  |byt j=>obtain⟨b,rfl⟩:=a;exact PySem.W.eq_bytes (bR I q aEW)
  |_=>exact absurd (show false=true from c) zBf
 |_=>cases y <;> exact absurd (show false=true from c) zBf
theorem kJ:OpR X (wh .NotEq) rNe:=by
 intro pins s σ H x y v u Q I d a h
 obtain⟨c,q⟩:=h
 cases x with
 |non =>
  cases d
  cases y with
  |non=>cases a;exact V2 (bR I q '%')
  |bl j=>cases a;exact V4 (bR I q '%')
  |int j=>obtain⟨b,rfl⟩:=a;exact V3 (bR I q '%')
  |str j=>obtain⟨b,rfl⟩:=a;exact V1 (bR I q '%')
  |_=>exact absurd (show false=true from c) zBf
 |bl i =>
  cases d
  cases y with
  |non=>cases a;exact V6 (bR I q '%')
  |bl j=>cases a;exact ne_bool (bR I q (congrArg not aI7))
  |str j=>obtain⟨b,rfl⟩:=a;exact Vl (bR I q '%')
  |_=>exact absurd (show false=true from c) zBf
 |int i =>
  obtain⟨t,rfl⟩:=d
  cases y with
  |non=>cases a;exact V5 (bR I q '%')
  |int j=>obtain⟨b,rfl⟩:=a;exact ne_int (bR I q (congrArg not aEJ))
  |str j=>obtain⟨b,rfl⟩:=a;exact Vk (bR I q '%')
  |_=>exact absurd (show false=true from c) zBf
 |str i =>
  obtain⟨t,rfl⟩:=d
  cases y with
  |non=>cases a;exact V0 (bR I q '%')
  |bl j=>cases a;exact Vj (bR I q '%')
  |int j=>obtain⟨b,rfl⟩:=a;exact Vi (bR I q '%')
  |str j=>obtain⟨b,rfl⟩:=a;exact ne_str (bR I q (congrArg not aD2))
  |_=>exact absurd (show false=true from c) zBf
 |byt i =>
  obtain⟨t,rfl⟩:=d
  cases y with
  |byt j=>obtain⟨b,rfl⟩:=a;exact PySem.W.ne_bytes (bR I q (congrArg not aEW))
  |_=>exact absurd (show false=true from c) zBf
 |_=>cases y <;> exact absurd (show false=true from c) zBf
theorem nI:OpR X (wh .Lt) (rI0 λi j => .bl (decide (i<j))):=aFT λ_ _ _ _ _ _ _ q=>lt_int q
theorem nH:OpR X (wh .LtE) (rI0 λi j => .bl (decide (i<=j))):=aFT λ_ _ _ _ _ _ _ q=>le_int q
theorem vG:OpR X (wh .Gt) (rI0 λi j => .bl (decide (j<i))):=aFT λ_ _ _ _ _ _ _ q=>gt_int q
theorem aGC:OpR X (wh .GtE) (rI0 λi j => .bl (decide (j<=i))):=aFT λ_ _ _ _ _ _ _ q=>ge_int q
theorem aIU:OpR X (wh .In) (λx y H Q=>∃i j,x = .str i/\y = .str j/\Q (.bl (!(yn j i 0 j.length 1).isEmpty)) H):=by
 intro pins s σ H x y v u Q I b a h
 obtain⟨i,j,rfl,rfl,q⟩:=h
 obtain⟨t,rfl⟩:=b
 obtain⟨c,rfl⟩:=a
 exact in_str (bR I q rfl)
theorem aR2:OpR X (wh .Is) (λx y H Q=>y = .non/\Q (.bl (decide (x = .non))) H):=by
 intro pins s σ H x y v u Q I a b h
 obtain⟨rfl,q⟩:=h
 cases b
 refine is_none_gen (bR I q ?_)
 cases x <;> first
  | (cases a;rfl)
  | (obtain⟨t,rfl⟩:=a;rfl)
theorem aPC:OpR X (wh .IsNot) (λx y H Q=>y = .non/\Q (.bl (!decide (x = .non))) H):=by
 intro pins s σ H x y v u Q I a b h
 obtain⟨rfl,q⟩:=h
 cases b
 refine isnot_none_gen (bR I q ?_)
 cases x <;> first
  | (cases a;rfl)
  | (obtain⟨t,rfl⟩:=a;rfl)
theorem nomark(b:Expr){op:KF}(h:op ≠ .In:=by decide)(h2:op ≠ .NotIn:=by decide):dm op b=false:=by
 have c:(op==CmpOp.In)=false:=by cases op <;> first|rfl|exact absurd rfl h
 have a:(op==CmpOp.NotIn)=false:=by cases op <;> first|rfl|exact absurd rfl h2
 cases b <;> simp[dm,c,a]
theorem aN6{op:KF}{r:R2}(ho:OpR X (wh op) r)(ha:PE X a ta)(hb:PE X b tb)(hm:dm op b=false):PE X (.Compare a [op] [b] pos) (tOp r ta tb):=by
 intro pins s σ H Q I h
 exact wpAny_Compare1 (aJH ha hb I h λv u s2 x y H2 I2 d c q=>ho pins s2 σ H2 x y v u Q I2 d c q) hm
noncomputable def aMP(t:TE):TT:=λσ H Q=>t σ H λx H'=>∃k,x = .bl k/\Q k H'
theorem aOI{op:KF}{r:R2}(ho:OpR X (wh op) r)(ha:PE X a ta)(hb:PE X b tb)(hm:dm op b=false):PT X (.Compare a [op] [b] pos) (aMP (tOp r ta tb)):=by
 intro pins s σ H Q I h
 refine wpAny_isTrue_Compare1 (thn (ha pins s σ H _ I h) λv s1 ⟨x,H1,I1,r1,g⟩=>thn (hb pins s1 σ H1 _ I1 g) λu s2 ⟨y,H2,I2,r2,d⟩ =>
  thn (ho pins s2 σ H2 x y v u _ I2 r1 r2 d) λc s3 ⟨z,H3,I3,r3,k,e,f⟩ => ?_) hm
 subst e
 cases r3
 exact vq ⟨H3,I3,f⟩
noncomputable def aH3(r r':R2)(ta tb tc:TE):TE:=λσ H Q=>ta σ H λx H1=>tb σ H1 λy H2=>r x y H2 λz H3=>∃k,z = .bl k /\
 (if k=true then tc σ H3 λw' H4=>r' y w' H4 Q else Q (.bl false) H3)
theorem aK3{op op':KF}{r r':R2}(ho:OpR X (wh op) r)(ho':OpR X (wh op') r')(ha:PE X a ta)(hb:PE X b tb)(hc:PE X c tc)(hm:Kc [op,op'] [b,c]=false:=by with_unfolding_all rfl):PE X (.Compare a [op,op'] [b,c] pos) (aH3 r r' ta tb tc):=by
 intro pins s σ H Q I h
 refine Compare_chain (thn (ha pins s σ H _ I h) λv s1 ⟨x,H1,I1,r1,l⟩=>chain_link (thn (hb pins s1 σ H1 _ I1 l) λu s2 ⟨y,H2,I2,r2,j⟩ =>
  thn (ho pins s2 σ H2 x y v u _ I2 r1 r2 j) λd s3 ⟨z,H3,I3,r3,k,e,f⟩ => ?_)) hm
 subst e
 cases r3
 refine vq ?_
 cases k with
 |false=>exact ite_ff ⟨.bl false,H3,I3,rfl,f⟩
 |true=>exact ite_tt (chain_last (thn (hc pins s3 σ H3 _ I3 f) λi s4 ⟨g,H4,I4,r4,m⟩=>ho' pins s4 σ H4 y g u i Q I4 r2 r4 m))
theorem aLS{op op':KF}{r r':R2}(ho:OpR X (wh op) r)(ho':OpR X (wh op') r')(ha:PE X a ta)(hb:PE X b tb)(hc:PE X c tc)(hm:Kc [op,op'] [b,c]=false:=by with_unfolding_all rfl):PT X (.Compare a [op,op'] [b,c] pos) (aMP (aH3 r r' ta tb tc)):=by
 intro pins s σ H Q I h
 refine isTrue_chain (thn (ha pins s σ H _ I h) λv s1 ⟨x,H1,I1,r1,o⟩=>test_link (thn (hb pins s1 σ H1 _ I1 o) λu s2 ⟨y,H2,I2,r2,m⟩ =>
  thn (ho pins s2 σ H2 x y v u _ I2 r1 r2 m) λd s3 ⟨z,H3,I3,r3,k,e,f⟩ => ?_)) hm
 subst e
 cases r3
 refine vq ?_
 cases k with
 |false =>
  obtain⟨w,l,q⟩:=f
  cases l
  exact ite_ff ⟨H3,I3,q⟩
 |true =>
  refine ite_tt (test_last (thn (hc pins s3 σ H3 _ I3 f) λj s4 ⟨i,H4,I4,r4,p⟩=>thn (ho' pins s4 σ H4 y i u j _ I4 r2 r4 p) λt s5 ⟨A,H5,I5,r5,B,g,n⟩ => ?_))
  subst g
  cases r5
  exact vq ⟨H5,I5,n⟩
noncomputable def TruV(K:qh)(x:V)(H:Hp)(k:Bool):Prop:=
 match x with
 |.non=>k=false
 |.bl b=>k=b
 |.int i=>k=(i != 0)
 |.str y=>y.length<=sizeLine/\k=((y.length:Int) != 0)
 |.byt y=>y.size<=sizeLine/\k=((y.size:Int) != 0)
 |.ref p=>(∃xs,SqL K H p xs/\k = !xs.isEmpty)\/(∃xs,SqT K H p xs/\k = !xs.isEmpty)\/∃kvs,H p=some (.dK kvs)/\k = !kvs.isEmpty
 |_=>False
theorem aFP{κ:Type}{kvs:List (κ×V)}{vs:List (κ×Value)}(r:KV kvs vs):(!vs.isEmpty) = !kvs.isEmpty:=by
 cases r <;> rfl
theorem uP{xs:List V}(r:Vals xs its):(!its.toArray.isEmpty) = !xs.isEmpty:=by
 cases r <;> simp
theorem line63:(sizeLine:Nat)<2^63:=by rw[QH];decide
theorem aRB:TruR X (λx H Q=>∃k,TruV X.K x H k/\Q k H):=by
 intro pins s σ H x v Q I d h
 obtain⟨k,e,q⟩:=h
 have hl:=line63
 have u:sizeLine=16777216:=QH
 cases x with
 |non =>
  cases d
  have a:k=false:=e
  subst a
  exact truthy_none ⟨H,I,q⟩
 |bl b =>
  cases d
  have a:k=b:=e
  subst a
  exact vq ⟨H,I,q⟩
 |int i =>
  obtain⟨t,rfl⟩:=d
  have a:k=(i != 0):=e
  subst a
  exact PySem.P.truthy_int ⟨H,I,q⟩
 |str y =>
  obtain⟨t,rfl⟩:=d
  obtain⟨n,a⟩:y.length<=sizeLine/\k=((y.length:Int) != 0):=e
  subst a
  exact PySem.P.truthy_str '$' ⟨H,I.tok _,q⟩
 |byt y =>
  obtain⟨t,rfl⟩:=d
  obtain⟨n,a⟩:y.size<=sizeLine/\k=((y.size:Int) != 0):=e
  subst a
  exact PySem.W.truthy_bytes '$' ⟨H,I.tok _,q⟩
 |ref p =>
  cases d
  have a:(∃xs,SqL X.K H p xs/\k = !xs.isEmpty)\/(∃xs,SqT X.K H p xs/\k = !xs.isEmpty)\/∃c,H p=some (.dK c)/\k = !c.isEmpty:=e
  rcases a with ⟨xs,f,a⟩|⟨xs,f,a⟩|⟨c,f,a⟩
  ·subst a
   obtain⟨j,r,g,l⟩:=I.list f
   have hlen:=r.length
   exact wpAny_truthy_list g.isList (by simp only[qf];omega) ⟨H,I.tok _,by rw[uP r];exact q⟩
  ·subst a
   obtain⟨j,r,g,l⟩:=I.tuple f
   have hlen:=r.length
   exact truthy_tuple g (by simp only[qf];omega) ⟨H,I.tok _,by rw[uP r];exact q⟩
  ·subst a
   obtain⟨l,o,vs,r,m⟩:c.length<=sizeLine/\(p==rz)=false/\∃vs,KV c vs/\s.heap.DictOf (wU X.prog X.w) p vs:=I.hok p _ f
   have hlen:c.length=vs.length:=Kz r
   exact wpAny_truthy_dict o m '$' ⟨H,I.tok _,by rw[aFP r];exact q⟩
 |_=>exact (show False from e).elim
theorem aK2(ha:PE X a ta)(he:∀whole,isTrue a X.env whole=(do let v <- whole;Ju a.pos;gy [v] (Wq v))):
  PT X a (λσ H Q=>ta σ H λx H'=>∃k,TruV X.K x H' k/\Q k H'):=by
 intro pins s σ H Q I h
 exact isTrue_plain (thn (ha pins s σ H _ I h) λv s1 ⟨x,H1,I1,r1,b⟩=>aRB pins s1 σ H1 x v Q I1 r1 b) (he _)
theorem lS:OpR X (zw .Add) (λx y H Q=>∃i j,x = .str i/\y = .str j/\i.length+j.length<=sizeLine/\Q (.str (i++j)) H):=by
 intro pins s σ H x y v u Q I b a h
 obtain⟨i,j,rfl,rfl,c,q⟩:=h
 obtain⟨t,rfl⟩:=b
 obtain⟨d,rfl⟩:=a
 exact add_str (λd tk=>⟨.str (i++j),H,I.tok _,⟨_,rfl⟩,q⟩) c
theorem vals1{x:V}{us:List Value}(r:Vals [x] us):∃u,us=[u]/\RelV x u:=by
 cases r with
 |cons r1 r2=>cases r2;exact⟨_,rfl,r1⟩
theorem vals2{x y:V}{us:List Value}(r:Vals [x,y] us):∃u w',us=[u,w']/\RelV x u/\RelV y w':=by
 cases r with
 |cons r1 r2 =>
  cases r2 with
  |cons r3 r4=>cases r4;exact⟨_,_,rfl,r1,r3⟩
theorem mS:dY X (.builtin "abs") (λxs H Q=>∃i,xs=[.int i]/\Q (.int (if i<0 then -i else i)) H):=by
 intro pins s σ H xs us Q I r h
 obtain⟨i,rfl,q⟩:=h
 obtain⟨u,rfl,t,rfl⟩:=vals1 r
 exact call_abs_int λu tk=>⟨.int (if i<0 then -i else i),H,I.tok _,⟨_,rfl⟩,q⟩
theorem k5(hc:X.calm=true):dY X (.builtin "max") (λxs H Q=>∃i j,xs=[.int i, .int j]/\Q (.int (if j>i then j else i)) H):=by
 intro pins s σ H xs us Q I r h
 obtain⟨i,j,rfl,q⟩:=h
 obtain⟨u,b,rfl,⟨t,rfl⟩,⟨d,rfl⟩⟩:=vals2 r
 refine max_two_ints (I.ok.hd hc) λc tk k=>⟨_,H,I.kept k,?_,q⟩
 by_cases a:j>i
 ·rw[if_pos a,if_pos a];exact⟨_,rfl⟩
 ·rw[if_neg a,if_neg a];exact⟨_,rfl⟩
theorem aHK(hc:X.calm=true):dY X (.builtin "min") (λxs H Q=>∃i j,xs=[.int i, .int j]/\Q (.int (if j<i then j else i)) H):=by
 intro pins s σ H xs us Q I r h
 obtain⟨i,j,rfl,q⟩:=h
 obtain⟨u,b,rfl,⟨t,rfl⟩,⟨d,rfl⟩⟩:=vals2 r
 refine min_two_ints (I.ok.hd hc) λc tk k=>⟨_,H,I.kept k,?_,q⟩
 by_cases a:j<i
 ·rw[if_pos a,if_pos a];exact⟨_,rfl⟩
 ·rw[if_neg a,if_neg a];exact⟨_,rfl⟩
theorem yD:dY X (.type "int") (λxs H Q=>(∃i,xs=[.int i]/\Q (.int i) H)\/∃k,xs=[.bl k]/\Q (.int (if k then 1 else 0)) H):=by
 intro pins s σ H xs us Q I r h
 rcases h with ⟨i,rfl,q⟩|⟨k,rfl,q⟩
 ·obtain⟨u,rfl,t,rfl⟩:=vals1 r
  exact call_int_int ⟨.int i,H,I,⟨_,rfl⟩,q⟩
 ·obtain⟨u,rfl,r1⟩:=vals1 r
  cases r1
  exact call_int_bool ⟨.int (if k then 1 else 0),H,I.tok _,⟨_,rfl⟩,q⟩
noncomputable def aME(K:qh)(x:V)(H:Hp)(n:Nat):Prop:=
 match x with
 |.str y=>y.length<=sizeLine/\n=y.length
 |.byt y=>y.size<=sizeLine/\n=y.size
 |.ref p=>(∃xs,SqL K H p xs/\n=xs.length)\/∃xs,SqT K H p xs/\n=xs.length
 |_=>False
theorem aZ:dY X (.builtin "len") (λxs H Q=>∃x n,xs=[x]/\aME X.K x H n/\Q (.int n) H):=by
 intro pins s σ H xs us Q I r h
 obtain⟨x,n,rfl,e,q⟩:=h
 obtain⟨u,rfl,d⟩:=vals1 r
 have hl:=line63
 have k:sizeLine=16777216:=QH
 cases x with
 |str y =>
  obtain⟨t,rfl⟩:=d
  obtain⟨j,a⟩:y.length<=sizeLine/\n=y.length:=e
  subst a
  exact len_str '$' ⟨.int _,H,I.tok _,⟨_,rfl⟩,q⟩
 |byt y =>
  obtain⟨t,rfl⟩:=d
  obtain⟨j,a⟩:y.size<=sizeLine/\n=y.size:=e
  subst a
  exact PySem.W.len_bytes '$' ⟨.int _,H,I.tok _,⟨_,rfl⟩,q⟩
 |ref p =>
  cases d
  have a:(∃xs,SqL X.K H p xs/\n=xs.length)\/∃xs,SqT X.K H p xs/\n=xs.length:=e
  rcases a with ⟨xs,f,a⟩|⟨xs,f,a⟩
  ·subst a
   obtain⟨g,b,c,i⟩:=I.list f
   have hlen:=b.length
   exact Calls.call_len_list c.isList (by simp only[qf];omega) ⟨.int xs.length,H,I.tok _,⟨_,by simp only[qf];rw[hlen]⟩,q⟩
  ·subst a
   obtain⟨g,b,c,i⟩:=I.tuple f
   have hlen:=b.length
   exact len_tuple c (by simp only[qf];omega) ⟨.int xs.length,H,I.tok _,⟨_,by simp only[qf];rw[hlen]⟩,q⟩
 |_=>exact (show False from e).elim
end
end L2
namespace L2
open PySem PySem.Spec PyProof.Rows
structure ObjM(h:Heap)(x dx C:Addr)(mA:Str->Option Value):Prop where
 obj:h.get? x=some (JE C dx)
 ns:h.Ns1 dx mA
 ne:dx≠x
section
variable {E:Value->Shared->Prop}{K:qh}{x:Addr}{mA:Str->Option Value}{v:Value}
end
section
variable {fs fs':List (Str×V)}
end
structure Cls(K:qh)(C:Addr):Prop where
 pg:PySem.W.plainGet K C xl=true
 hd:PySem.W.hasDictIn K C=true
 po:PySem.W.plainOver K C=true
 sa:yt K (.ref C) "__setattr__" = some (some (.builtin "object.__setattr__"))
structure Con(K:qh)(C:Addr)(f:Str)(v:V)(u:Value):Prop where
 at_:yt K (.ref C) f=some (some u)
 rel:RelV v u
 get:Q7 K u "__get__" = some none
 cp:PySem.W.copiedNames.contains f=false
structure Meth(K:qh)(C:Addr)(m:Str)(f:Addr):Prop where
 at_:yt K (.ref C) m=some (some (.ref f))
 fn:Ky K (.ref f)=true
 kp:bb K (.ref f)=true
section
variable {fs:List (Str×V)}{f:Str}{E:Value->Shared->Prop}
end
section
variable {value:Expr}{f:Str}{tpos:Pos}{tv:TE}
end
section
variable {E:Value->Shared->Prop}{Q:Value->Shared->Prop}{c:Value}{b:Bool}
inductive TyOf(K:qh)(H:Hp):V->Value->Prop where
 |non:TyOf K H .non (.type "NoneType")
 |bl (x:Bool):TyOf K H (.bl x) (.type "bool")
 |int (i:Int):TyOf K H (.int i) (.type "int")
 |str (x:Str):TyOf K H (.str x) (.type "str")
 |flt (x:UInt64):TyOf K H (.flt x) (.type "float")
 |lst {a:Addr}{xs:List V} (e:H a=some (.lst xs)):TyOf K H (.ref a) (.type "list")
 |frz {a:Addr}{o:Obj}{xs:List V} (e:H a=some (.frz o (.lst xs))):TyOf K H (.ref a) (.type "list")
 |tup {a:Addr}{xs:List V} (e:H a=some (.tup xs)):TyOf K H (.ref a) (.type "tuple")
 |dK {a:Addr}{kvs:List (Key×V)} (e:H a=some (.dK kvs)):TyOf K H (.ref a) (.type "dict")
 |dT {a:Addr}{kvs:List (List Key×V)} (e:H a=some (.dT kvs)):TyOf K H (.ref a) (.type "dict")
 |ins {a C dx:Addr}{fs:List (Str×V)} (e:H a=some (.ins C dx fs)) (cl:Cls K C) (ha:yt K (.ref C) "__class__" = some (some (.builtin "object.__class__")))
   (hn:Q7 K (.builtin "object.__class__") "__get__" = some (some (.builtin "getset_descriptor.__get__"))) (htk:PySem.W.takesIn K (.builtin "object.__class__")=some true)
   (hm:sk K C (.type "object")=some true):TyOf K H (.ref a) (.ref C)
end
end L2
namespace L2
open PySem PySem.Spec PyProof.Rows
structure Room(k:Nat)(A:Around):Prop where
 hd:A.handled=none
 dp:A.depth+3*k+5<recursionLimit
 un:A.units+16*k+200<cLine
 gd:A.guards=some []
theorem Room.mono{k:Nat}(r:Room k A)(h:j<=k):Room j A:=⟨r.hd,by have:=r.dp;omega,by have:=r.un;omega,r.gd⟩
theorem Room.deeper{k:Nat}(r:Room (k+1) A)(env:Env):Room k (A.deeper env):=
 ⟨r.hd,by have:=r.dp;show A.depth+1+3*k+5<_;omega,by have:=r.un;show A.units+3+16*k+200<_;omega,r.gd⟩
theorem Room.depth{k:Nat}(r:Room k A):A.depth<recursionLimit:=by have:=r.dp;omega
theorem Room.units{k:Nat}(r:Room k A):A.units+64<cLine:=by have:=r.un;omega
noncomputable def tNil:TA:=λ_ H Q=>Q [] H
noncomputable def aUS(ta:TE)(tr:TA):TA:=λσ H Q=>ta σ H λx H1=>tr σ H1 λxs H2=>Q (x::xs) H2
section
variable {t:TA}
theorem vU:PA X [] tNil:=λ_ _ _ _ H Q I h=>Calls.spliced_nil ⟨[],H,I, .nil,h⟩
theorem oW(ha:PE X e te)(hr:PA X es t)(hs:jk (e::es) X.env=(false,eval e X.env)::jk es X.env:=by rfl):PA X (e::es) (aUS te t):=by
 intro pos pins s σ H Q I h
 rw[hs]
 show wpAny _ _ (spliced ((false,eval e X.env)::dh pos (jk es X.env))) _ _ s
 refine Calls.spliced_cons (thn (ha pins s σ H _ I h) λu s1 ⟨x,H1,I1,r1,b⟩ => ?_)
 exact thn (hr pos pins s1 σ H1 _ I1 b) λus s2 ⟨xs,H2,I2,r2,a⟩=>⟨x::xs,H2,I2, .cons r1 r2,a⟩
noncomputable def tTup(t:TA):TE:=λσ H Q=>t σ H λxs H1=>xs.length<=sizeLine/\∀p,H1 p=none->Q (.ref p) (upd H1 p (.tup xs))
noncomputable def tLst(t:TA):TE:=λσ H Q=>t σ H λxs H1=>xs.length<=sizeLine/\∀p,H1 p=none->Q (.ref p) (upd H1 p (.lst xs))
theorem aQ7{x1}(h:PA X es t):PE X (.Tuple es x1 pos) (tTup t):=by
 intro pins s σ H Q I a
 refine wpAny_Tuple_spliced (thn (h pos pins s σ H _ I a) λus s1 ⟨xs,H1,I1,r,z,q⟩=>⟨by rw[<- r.length];exact z,?_⟩)
 have hf:H1 s1.heap.objs.size=none:=I1.hok.fresh (qk _)
 refine⟨.ref s1.heap.objs.size,upd H1 s1.heap.objs.size (.tup xs),I1.laid (t':=s1.toks) (λb u e=>qc _ e) (qk _) ?_,rfl,q _ hf⟩
 exact⟨z,us,r,⟨_,qu _ rfl,rfl,_,rfl⟩⟩
theorem aID(h:PA X es t):PE X (.List es pos) (tLst t):=by
 intro pins s σ H Q I a
 refine wpAny_List_spliced (thn (h pos pins s σ H _ I a) λus s1 ⟨xs,H1,I1,r,z,q⟩=>⟨by rw[<- r.length];exact z,?_⟩)
 have hf:H1 s1.heap.objs.size=none:=I1.hok.fresh (qk _)
 refine⟨.ref s1.heap.objs.size,upd H1 s1.heap.objs.size (.lst xs),I1.laid (t':=s1.toks) (λb u e=>qc _ e) (qk _) ?_,rfl,q _ hf⟩
 exact⟨z,us,0,r,qu _ rfl⟩
end
abbrev Sp:=List V->Hp->VK->XK->Prop
abbrev CXT:=List Env->Hp->Shared->XK->Value->Shared->Prop
structure Env0(P:Program)(w:World)(K:qh)(mg:Str->Option Value)(base:Heap)(A:Around)(outer:List Env)(s:Shared)(H:Hp):Prop where
 frames:A.frames=some outer
 mod:Mod K mg base
 bs:∀b o,base.get? b=some o->s.heap.get? b=some o/\H b=none
 bsz:base.objs.size<=s.heap.objs.size
 funs:s.heap.FunFrames base outer
 frf:∀b∈frs outer,H b=none
 hok:HOk P w H s.heap
 bare:ng s.gens
noncomputable def CE(outer:List Env)(P:Program)(w:World)(H:Hp)(s:Shared)(Q:VK)(u:Value)(s':Shared):Prop:=
 ∃v H',s'.os=s.os/\ng s'.gens/\Un (frs outer) [] H H' s.heap s'.heap/\HOk P w H' s'.heap/\RelV v u/\Q v H'
noncomputable def CR(CX:CXT)(outer:List Env)(P:Program)(w:World)(H:Hp)(s:Shared)(Q:VK)(E:XK)(r:Result)(s':Shared):Prop:=
 match r with
 |.ok (.ret u)=>CE outer P w H s Q u s'
 |.ok _=>False
 |.error e=>CX outer H s E e s'
structure FnOk(P:Program)(w:World)(K:qh)(mg:Str->Option Value)(base:Heap)(CX:CXT)(k:Nat)(f:Addr)(fd:FuncData)(ps:List Str)(sp:Sp):Prop where
 len:∀vs H Q E,sp vs H Q E->vs.length=ps.length
 run:∀(A:Around) (outer:List Env) (s:Shared) (H:Hp) (args:Args) (us:List Value) (vs:List V) (Q:VK) (E:XK),Room k A->Env0 P w K mg base A outer s H->BindsTo s fd args (ps.zip us)->Vals vs us->sp vs H Q E ->
  nf (jl P w) A (.call (.ref f) args) (CR CX outer P w H s Q E) s
section
theorem Inv.env0(I:Inv X pins σ H s):Env0 X.prog X.w X.K X.mg X.base X.A X.stack s H:=
 ⟨I.ok.frames,I.ok.mod,I.bs,qq I.ok.bsz I.sz,I.stack,I.stkFree,I.hok,I.bare⟩
theorem Inv.after{Q:VK}(I:Inv X pins σ H s)(h:CE X.stack X.prog X.w H s Q u s'):EP X pins σ Q u s':=by
 obtain⟨v,H',os,bare,un,a,r,q⟩:=h
 obtain⟨e,g,d,t,c⟩:=s'
 obtain rfl:c=s.os:=os
 exact⟨v,H',I.call (h':=e) (g':=g) (d':=d) (t':=t) (ch:=[]) un a bare (λb z=>absurd z '%'),r,q⟩
end
noncomputable def aUJ(sp:Sp)(dvs:List V)(E:XK)(t:TA):TE:=λσ H Q=>t σ H λvs H1=>sp (vs++dvs) H1 Q E
noncomputable def Binds(K:qh)(fd:FuncData)(ps:List Str)(ds:List Value):Prop:=
 ∀(s:Shared) (us:List Value),K.In s.heap->(us++ds).length=ps.length->BindsTo s fd ⟨us,[]⟩ (ps.zip (us++ds))
theorem Binds.all{K:qh}{ps:List Str}(h:∀us:List Value,us.length=ps.length->KS fd ⟨us,[]⟩=pure (ps.zip us)):Binds K fd ps []:=λs us _ hl=>by
 rw[wg] at hl ⊢
 exact .of_eq (h us hl)
noncomputable def Passes(CX:CXT)(X:Cx)(E:XK):Prop:=∀(pins:List (Addr×Obj)) (σ:St) (H:Hp) (s:Shared) (e:Value) (s':Shared),Inv X pins σ H s->CX X.stack H s E e s'->X.xe e s'
section
variable {CX:CXT}{k:Nat}{ps:List Str}{sp:Sp}{dvs:List V}{ds:List Value}{E:XK}{m:Str}{p:Pos}{t:TA}
theorem aSL{Q:VK}{us:List Value}{vs:List V}(F:FnOk X.prog X.w X.K X.mg X.base CX k f fd ps sp)(hr:Room k X.A)(hb:Binds X.K fd ps ds)(hd:Vals dvs ds)(hx:Passes CX X E)(I:Inv X pins σ H s)(r:Vals vs us)(h:sp (vs++dvs) H Q E):wpAny X.w.14 X.A (call (.ref f) us) (EP X pins σ Q) X.xe s:=by
 have r2:Vals (vs++dvs) (us++ds):=r.append hd
 have hl:(us++ds).length=ps.length:=by rw[<- r2.length];exact F.len _ _ _ _ h
 refine wpAny_call (lq (F.run X.A X.stack s H ⟨us,[]⟩ (us++ds) (vs++dvs) Q E hr I.env0 (hb s us I.kIn hl) r2 h) λr b a => ?_)
 cases r with
 |error e=>exact hx pins σ H s e b I a
 |ok fl =>
  cases fl with
  |ret u=>exact I.after a
  |next=>exact zd a
  |brk=>exact zd a
  |cont=>exact zd a
theorem aNN(F:FnOk X.prog X.w X.K X.mg X.base CX k f fd ps sp)(hr:Room k X.A)(hg:Gl X x)(hm:X.mg x=some (.ref f))(hk:bb X.K (.ref f)=true)(hb:Binds X.K fd ps ds)(hd:Vals dvs ds)(hx:Passes CX X E)(ha:PA X (e::es) t)(hdb:(x==("__debug__" : Str))=false:=by decide)(he:jk (e::es) X.env=(false,eval e X.env)::jk es X.env:=by rfl)(hpl:(dh pos (jk es X.env)).any (·.1)=false:=by rfl):
  PE X (.Call (.Name x p) (e::es) [] pos) (aUJ sp dvs E t):=by
 intro pins s σ H Q I h
 refine ph (aDF I hg hm ?_ hdb)
 refine PySem.W.callWith_K (h₀:=X.base) I.ok.mod.kin hk (thn (ha pos pins s σ H _ I h) λus s1 ⟨vs,H1,I1,r,q⟩=>⟨I1.kIn,?_⟩) he hpl
 exact aSL F hr hb hd hx I1 r q
structure Mk(K:qh)(C f:Addr):Prop where
 makes:PySem.W.makesIn K C=true
 init:yt K (.ref C) "__init__" = some (some (.ref f))
 fn:Ky K (.ref f)=true
 kp:bb K (.ref C)=true
end
section
variable {CX:CXT}{k:Nat}{ps ks:List Str}{sp:Sp}{E:XK}{m:Str}{p kpos:Pos}{kws:List KH}{t tk:TA}{nm:Option Str}
structure KBinds(K:qh)(fd:FuncData)(ps ks:List Str)(g:List Value->List Value->List Value)(gV:List V->List V->List V):Prop where
 to:∀(s:Shared) (us ws:List Value),K.In s.heap->(g us ws).length=ps.length->BindsTo s fd ⟨us,ks.zip ws⟩ (ps.zip (g us ws))
 rel:∀{vs:List V}{us:List Value}{zs:List V}{ws:List Value},Vals vs us->Vals zs ws->Vals (gV vs zs) (g us ws)
variable {g:List Value->List Value->List Value}{gV:List V->List V->List V}
end
structure FnScope(N P:List Str)(sc:Scope):Prop where
 kind:sc.kind = .function
 co:sc.isCoroutine=false
 gen:sc.isGenerator=false
 nd:N.Nodup
 pre:N.take P.length=P
 par:∀x∈P,sc.names.lookup x=some .local\/sc.names.lookup x=some .cell
 nofree:∀y∈sc.names,y.2 ≠ .free
theorem yL{kindOf:Str->Option NameKind}:∀{binds:List (Str×Value)}{m:Str->Option Value},(∀v,(x,v)∉binds)->K4 kindOf binds m x=m x
 |[],_,_=>rfl
 | (n,v)::r,m,h=>by
  unfold K4
  rw[yL λw hw=>h w (jg _ hw)]
  split
  ·have:x≠n:=by rintro rfl;exact h v jm
   simp[this]
  ·rfl
theorem yG{kindOf:Str->Option NameKind}:∀{binds:List (Str×Value)}{m:Str->Option Value},(∀v,(x,v)∉binds)->K5 kindOf binds m x=m x
 |[],_,_=>rfl
 | (n,v)::r,m,h=>by
  unfold K5
  rw[yG λw hw=>h w (jg _ hw)]
  split
  ·rfl
  ·have:x≠n:=by rintro rfl;exact h v jm
   simp[this]
theorem xL{kindOf:Str->Option NameKind}{v:Value}:∀{P:List Str}{vs:List Value}{i:Nat}{m:Str->Option Value},P.Nodup->P[i]?=some x->vs[i]?=some v->kindOf x=some .local ->
  K4 kindOf (P.zip vs) m x=some v
 |[],_,_,_,_,h,_,_=>by simp at h
 |_::_,[],_,_,_,_,h,_=>by simp at h
 |p::P,w::vs,0,m,nd,h1,h2,hk=>by
  simp at h1 h2;subst h1;subst h2
  show K4 kindOf ((p,w)::P.zip vs) m p=_
  unfold K4
  rw[yL λv a=>(x9.mp nd).1 (rb a).1,if_pos hk]
  simp
 |p::P,w::vs,i+1,m,nd,h1,h2,hk=>by
  show K4 kindOf ((p,w)::P.zip vs) m x=_
  unfold K4
  exact xL (i:=i) (x9.mp nd).2 (by simpa using h1) (by simpa using h2) hk
theorem xZ{kindOf:Str->Option NameKind}{v:Value}:∀{P:List Str}{vs:List Value}{i:Nat}{m:Str->Option Value},P.Nodup->P[i]?=some x->vs[i]?=some v->kindOf x≠some .local ->
  K5 kindOf (P.zip vs) m x=some v
 |[],_,_,_,_,h,_,_=>by simp at h
 |_::_,[],_,_,_,_,h,_=>by simp at h
 |p::P,w::vs,0,m,nd,h1,h2,hk=>by
  simp at h1 h2;subst h1;subst h2
  show K5 kindOf ((p,w)::P.zip vs) m p=_
  unfold K5
  rw[yG λv a=>(x9.mp nd).1 (rb a).1,if_neg hk]
  simp
 |p::P,w::vs,i+1,m,nd,h1,h2,hk=>by
  show K5 kindOf ((p,w)::P.zip vs) m x=_
  unfold K5
  exact xZ (i:=i) (x9.mp nd).2 (by simpa using h1) (by simpa using h2) hk
noncomputable def start(N:List Str)(vs:List V):St:=vs.map some++jz (N.length-vs.length) none
noncomputable def uI(CX:CXT)(P:Program)(w:World)(K:qh)(mg:Str->Option Value)(base:Heap)(N:List Str)(qual:Str)(scope:Scope)(f:Addr)(cd:Value)(A:Around)(outer:List Env)(s:Shared)(H:Hp)(E:XK):Cx where
 prog:=P
 w:=w
 K:=K
 mg:=mg
 base:=base
 A:=A.deeper (QB qual scope s.heap.objs.size f cd)
 N:=N
 s₀:=s
 H₀:=H
 env:=QB qual scope s.heap.objs.size f cd
 outer:=outer
 stack:=QB qual scope s.heap.objs.size f cd::outer
 ex:=[]
 calm:=true
 fn:=λ_=>true
 pn:=[]
 xe:=λe s'=>wpAny (jl P w) (A.deeper (QB qual scope s.heap.objs.size f cd)) (leaving (QB qual scope s.heap.objs.size f cd) e) (λ_ s''=>CX outer H s E e s'') (λe' s''=>CX outer H s E e' s'') s'
theorem aAP{sc:Scope}(h:sc.names.lookup x=some .cell):∃c,(cellsFrom n sc.names []).lookup x=some c:=by
 have q:=yy sc.names n [] (.inl h)
 exact zm.mp q
theorem aGQ{CX:CXT}{K:qh}{ps:List Str}{cd:Value}{outer:List Env}{s1:Shared}{E:XK}{us:List Value}{vs:List V}(S:FnScope N ps scope)(hd:A.handled=none)(e0:Env0 P w K mg base A outer s H)(hl:vs.length=ps.length)(r:Vals vs us)(x:InCallC s s.heap.objs.size (K4 (QB qual scope s.heap.objs.size f cd).kindOf (ps.zip us) λ_=>none) (cellsFrom (s.heap.objs.size+1) scope.names []) (K5 (QB qual scope s.heap.objs.size f cd).kindOf (ps.zip us) λ_=>none) s1):
  Inv (uI CX P w K mg base N qual scope f cd A outer s H E) [] (start N vs) H s1:=by
 have F:ps.length<=N.length:=by have:=congrArg ra S.pre;rw[vh] at this;omega
 obtain⟨o,tk,rfl,C⟩:=x.done
 have j:∀b:Addr,b∉(uI CX P w K mg base N qual scope f cd A outer s H E).ex:=λb z=>absurd (show b∈([]:List Addr) from z) '%'
 refine⟨⟨e0.mod,S.kind,rfl,rfl,qk _,λy z c o d => ?_,λy g => ?_,λy c _ h => ?_,λ_=>hd,Around.frames_deeper e0.frames, .inr ⟨rfl,rfl⟩,λb z=>absurd z (j b),e0.bs,e0.bsz,λb _ _=>j b,λb z=>absurd z (j b),e0.funs,e0.frf⟩,
  rfl,e0.bare,Un.kept C,⟨_,x.toInCall.ns,λi y v o d I => ?_⟩,λy c h=>⟨_,x.cell y c h⟩,e0.hok.fresh (qk _),λy c h => ?_,λp l=>absurd (show p∈([]:List (Addr×Obj)) from l) '%',e0.hok.kept C,?_⟩
 ·exact name_of_addr x.apart (vw o) (vw d)
 ·have g:scope.names.lookup y=some .cell\/scope.names.lookup y=some .free:=g
  rcases g with g|g
  ·exact aAP g
  ·exact absurd rfl (S.nofree _ (vw g))
 ·exact yr (x.above y c (vw h))
 ·have t:i<vs.length:=by
   unfold start at d
   by_cases t:i<vs.length
   ·exact t
   ·rw[qr (by simpa using t)] at d
    rw[x3] at d
    split at d <;> cases d
  have D:vs[i]?=some v:=by
   unfold start at d
   rw[q6 (by simpa using t),qg] at d
   cases e:vs[i]? with
   |none=>rw[e] at d;cases d
   |some a=>rw[e] at d;cases d;rfl
  obtain⟨u,B,G⟩:=r.get D
  have l:ps[i]?=some y:=by
   rw[<- S.pre,List.getElem?_take_of_lt '$'];exact o
  have m:ps.Nodup:=by rw[<- S.pre];exact S.nd.sublist (m4 _ _)
  refine⟨u,G,?_⟩
  rcases S.par y (zMo l) with k|k
  ·exact .inl ⟨k,xL m l B k⟩
  ·obtain⟨c,e⟩:=aAP (n:=s.heap.objs.size+1) k
   refine .inr ⟨.inl k,c,e,?_⟩
   have q:=x.cell y c e
   rw[xZ m l B (by show scope.names.lookup y≠_;rw[k];decide)] at q
   exact q
 ·exact e0.hok.fresh (yr (x.above y c (vw h)))
 ·unfold start
  show _=N.length
  rw[qe,zLm,xk]
  omega
theorem aUY{CX:CXT}{K:qh}{k:Nat}{params:Arguments}{body:List Stmt}{dV kV doc pm cdv ct oc:Value}{an:Option Addr}{osl:Array (Option Value)}{ps:List Str}{sp:Sp}(lk:K.lookup f=some ⟨oc,od, .func (yg name qual params body scope dV kV doc pm an cdv ct),osl⟩)(hcd:pk K cdv qual=true)(S:FnScope N ps scope)(len:∀vs H Q E,sp vs H Q E->vs.length=ps.length)(hbody:∀(A:Around) (outer:List Env) (s:Shared) (H:Hp) (vs:List V) (Q:VK) (E:XK),Room k (A.deeper (QB qual scope s.heap.objs.size f cdv))->sp vs H Q E ->
   ∃t,PSs (uI CX P w K mg base N qual scope f cdv A outer s H E) body t/\t {nx:=λ_ H'=>Q .non H',rt:=Q} (start N vs) H):
  FnOk P w K mg base CX (k+1) f (yg name qual params body scope dV kV doc pm an cdv ct) ps sp:=by
 refine⟨len,λA outer s H args us vs Q E h d l r g => ?_⟩
 have hl:=len _ _ _ _ g
 have KX:K.In s.heap:=d.mod.kin.keeps λb o e=>(d.bs b o e).1
 have lim:s.heap.NoLimit:=d.mod.nolimit.keeps λb o e=>(d.bs b o e).1
 have a:∀y∈ps.zip us,scope.names.lookup y.1=some .local\/(scope.names.lookup y.1=some .cell/\((cellsFrom (s.heap.objs.size+1) scope.names []).lookup y.1).isSome=true):=λ⟨n,v⟩ p=>by
  rcases S.par n (rb p).1 with q|q
  ·exact .inl q
  ·exact .inr ⟨q,yy _ _ _ (.inl q)⟩
 refine codeAny_call_function h.depth (KX _ _ lk) rfl S.co S.gen rfl (PySem.W.codeRec_of KX hcd) (l _ _ _ _ ?_)
 refine wpAny_newFunctionEnv_cells S.kind a λenv he s1 x => ?_
 subst he
 refine⟨lim.keeps x.toInCall.keep,codeAny_func ?_⟩
 obtain⟨t,z,m⟩:=hbody A outer s H vs Q E (h.deeper _) g
 have I:Inv (uI CX P w K mg base N qual scope f cdv A outer s H E) [] (start N vs) H s1:=aGQ S h.hd d hl r x
 refine w7 (z [] s1 (start N vs) H _ I m) (λfl i c => ?_) λe i c=>c
 have fin:∀{σ':St}{H':Hp}{v:V}{u:Value},Inv (uI CX P w K mg base N qual scope f cdv A outer s H E) [] σ' H' i->RelV v u->Q v H'->CE outer P w H s Q u i:=
  λ{σ' H' v u} J j q=>⟨v,H',J.os,J.bare,J.base,J.hok,j,q⟩
 cases fl with
 |ret u =>
  obtain⟨v,σ',H',J,j,q⟩:=c
  exact fin J j q
 |next =>
  obtain⟨σ',H',J,q⟩:=c
  exact fin (v:=V.non) (u:=j0) J rfl q
 |brk =>
  obtain⟨_,_,_,q⟩:=c
  exact zd q
 |cont =>
  obtain⟨_,_,_,q⟩:=c
  exact zd q
end L2
namespace L2
open PySem PySem.Spec PyProof.Rows
section
variable {p:Pos}{t:TA}{id T:String}{r:List V->Hp->VK->Prop}
noncomputable def tCB(r:List V->Hp->VK->Prop)(t:TA):TE:=λσ H Q=>t σ H λvs H1=>r vs H1 Q
theorem uG(hc:dY X (.builtin id) r)(hg:Gl X x)(hm:X.mg x=none)(hv:kh x=some (.builtin id))(ha:PA X (e::es) t)(hn:x ≠ "__name__" := by decide)(hdb:(x==("__debug__" : Str))=false:=by decide)(he:jk (e::es) X.env=(false,eval e X.env)::jk es X.env:=by rfl)(hpl:(dh pos (jk es X.env)).any (·.1)=false:=by rfl):PE X (.Call (.Name x p) (e::es) [] pos) (tCB r t):=by
 intro pins s σ H Q I h
 refine ph (mZ I hg hm hv ?_ hn hdb)
 exact Wh (thn (ha pos pins s σ H _ I h) λus s1 ⟨vs,H1,I1,r1,a⟩=>hc pins s1 σ H1 vs us Q I1 r1 a) he hpl
theorem xY(hc:dY X (.type T) r)(hg:Gl X x)(hm:X.mg x=none)(hv:kh x=some (.type T))(ha:PA X (e::es) t)(hn:x ≠ "__name__" := by decide)(hdb:(x==("__debug__" : Str))=false:=by decide)(he:jk (e::es) X.env=(false,eval e X.env)::jk es X.env:=by rfl)(hpl:(dh pos (jk es X.env)).any (·.1)=false:=by rfl):PE X (.Call (.Name x p) (e::es) [] pos) (tCB r t):=by
 intro pins s σ H Q I h
 refine ph (mZ I hg hm hv ?_ hn hdb)
 exact xq (thn (ha pos pins s σ H _ I h) λus s1 ⟨vs,H1,I1,r1,a⟩=>hc pins s1 σ H1 vs us Q I1 r1 a) he hpl
end
end L2
namespace HT
open PySem PyProof.Rows
noncomputable def lexLt:List Int->List Int->Bool
 |[],[]=>false
 |[],_::_=>true
 |_::_,[]=>false
 |x::xs,y::ys=>if x=y then lexLt xs ys else decide (x<y)
theorem jF(x y:Int)(xs ys:List Int):lexLt (x::xs) (y::ys)=if x=y then lexLt xs ys else decide (x<y):=rfl
theorem oY(y:Int)(ys:List Int):lexLt [] (y::ys)=true:=rfl
theorem xI(x:Int)(xs:List Int):lexLt (x::xs) []=false:=rfl
section
open PySem.SeqAt
open PySem.AutoSeq1 (wpAny_loadPart')
open PySem.MeetsSeq PySem.MeetsSeq2 PySem.MeetsSeq3
end
section
variable {E:Value->Shared->Prop}
noncomputable def sIx(n d:Nat):Option Int->Nat
 |none=>d
 |some v=>if v<0 then (v+(n:Int)).toNat else min v.toNat n
theorem aO9(n d k:Nat):sIx n d (some (k:Int))=min k n:=by
 show (if (k:Int)<0 then ((k:Int)+(n:Int)).toNat else min (k:Int).toNat n)=min k n
 rw[if_neg '$',qm]
theorem aSB(n d:Nat)(hd:d<=n)(o:Option Int):sIx n d o<=n:=by
 cases o with
 |none=>exact hd
 |some v =>
  show (if v<0 then (v+(n:Int)).toNat else min v.toNat n)<=n
  by_cases a:v<0
  ·rw[if_pos a];omega
  ·rw[if_neg a];exact Nat.min_le_right _ _
theorem aD8(v:Int)(n d:Nat):(if v<0 then max (v+(n:Int)) 0 else min v (n:Int))=((sIx n d (some v):Nat):Int):=by
 show (if v<0 then max (v+(n:Int)) 0 else min v (n:Int))=(((if v<0 then (v+(n:Int)).toNat else min v.toNat n):Nat):Int)
 by_cases a:v<0
 ·simp only[if_pos a];omega
 ·simp only[if_neg a];omega
theorem aF1(lo hi:Option Int)(n:Nat):cj lo hi 1 (n:Int)=(((sIx n 0 lo:Nat):Int),((sIx n n hi:Nat):Int)):=by
 have a:¬((1:Int)<0):=by omega
 unfold cj
 simp only[a,if_false]
 refine n7 ?_ ?_
 ·cases lo with
  |none=>rfl
  |some v=>exact aD8 v n 0
 ·cases hi with
  |none=>rfl
  |some v=>exact aD8 v n n
theorem aFE(i j:Nat):y5 (i:Int) (j:Int) 1=j-i:=by
 unfold y5
 have h1:(1:Int)>0:=by omega
 simp only[h1,if_true,Int.ediv_one]
 split <;> omega
theorem vR{v:Value}{o:Option Int}{Q:Option Int->Shared->Prop}(p:QC v o)(h:Q o s):wpAny w.12 A (Vs v) Q E s:=by
 cases p with
 |none=>exact WO h
 |int i t=>exact slicePart_int h
theorem uB{sl:Addr}{vl vu:Value}{lo hi:Option Int}{Q:Int×Int×Nat->Shared->Prop}(hs:s.heap.IsSliceOf sl vl vu .none)(pl:QC vl lo)(pu:QC vu hi)(h:Q (((sIx n 0 lo:Nat):Int),1,sIx n n hi-sIx n 0 lo) s):wpAny w.12 A (lh (.ref sl) (pure (n:Int))) Q E s:=by
 obtain⟨os,b,c,a⟩:=id hs
 unfold lh Vt
 refine qa (qa (d5 b a (x:=vl) rfl (qa (d5 b a (x:=vu) rfl (qa (d5 b a (x := .none) rfl ?_.16))))))
 refine qa (WO ?_)
 show wpAny _ _ (if ((1:Int)==0)=true then _ else _) _ _ s
 rw[if_neg '#']
 refine qa (vR pl (qa (vR pu (qa ?_.16))))
 show wpAny _ _ (match cj lo hi 1 (n:Int) with|(lo,hi)=>pure (lo,(1:Int),y5 lo hi 1)) _ _ s
 rw[aF1 lo hi n]
 show wpAny _ _ (pure (((sIx n 0 lo:Nat):Int),(1:Int),y5 ((sIx n 0 lo:Nat):Int) ((sIx n n hi:Nat):Int) 1)) _ _ s
 rw[aFE]
 exact wpAny_pure h
theorem aKI(xs:Array Value)(i k:Nat):((q7 k).filterMap λ(m:Nat)=>xs[((i:Int)+(m:Int)*1).toNat]?).toArray=((xs.toList.drop i).take k).toArray:=by
 have e:(λ(m:Nat)=>xs[((i:Int)+(m:Int)*1).toNat]?)=λm=>xs[i+m]?:=by
  funext m
  have:((i:Int)+(m:Int)*1).toNat=i+m:=by omega
  rw[this]
 rw[e]
 have:=pick_run xs i k
 rw[List.filterMap_map] at this
 have a:((λx=>xs[x]?) ∘ λx=>i+x)=λm=>xs[i+m]?:=rfl
 rw[a] at this
 rw[this]
theorem sR{t sl:Addr}{vl vu:Value}{lo hi:Option Int}{Q:Value->Shared->Prop}(ht:IsTup s.heap t items)(hs:s.heap.IsSliceOf sl vl vu .none)(pl:QC vl lo)(pu:QC vu hi)(hw:¬(sIx items.size 0 lo=0/\sIx items.size items.size hi=items.size))(h:Q (.ref s.heap.objs.size) {s with heap:=s.heap.push {cls := .type "tuple", data := .seq ((items.toList.drop (sIx items.size 0 lo)).take (sIx items.size items.size hi-sIx items.size 0 lo)).toArray} })(hsz:items.size<=sizeLine):wpAny w.12 A (KG (.ref t) (.ref sl)) Q E s:=by
 have a:sizeOk (.seq ((items.toList.drop (sIx items.size 0 lo)).take (sIx items.size items.size hi-sIx items.size 0 lo)).toArray):=by
  show ((items.toList.drop (sIx items.size 0 lo)).take (sIx items.size items.size hi-sIx items.size 0 lo)).toArray.size<=sizeLine
  rw[qf,vh,w4,qt]
  omega
 have g:sIx items.size items.size hi<=items.size:=aSB _ _ (qk _) hi
 obtain⟨os,e,b,f⟩:=id hs
 have c:s.TypeIs (.ref sl) "slice" := ⟨os,e,b⟩
 unfold KG
 try with_reducible refine vv ?_
 first|refine qa ?_.16|skip
 refine qa (wpAny_sequenceKey ht.typeIs '#' ?_)
 refine qa (w6 (name:=ji "__getitem__") ht.typeIs zq
  (xa zq ht.typeIs entry_tuple_getitem ?_ (args_tuple_getitem _ _)))
 show wpAny _ _ (Vr (.ref t) >>= _) _ _ s
 refine qa (tupleItemsOf_ ht ?_)
 refine qa (tw c ?_)
 rw[if_pos '#']
 refine qa (uB hs pl pu ?_)
 have d:¬((((sIx items.size 0 lo:Nat):Int)==0&&(1:Int)==1&&(sIx items.size items.size hi-sIx items.size 0 lo)==items.size)=true):=by
  intro q
  rw[qx,qx] at q
  have j:((sIx items.size 0 lo:Nat):Int)=0:=eq_of_beq q.1.1
  have i:sIx items.size items.size hi-sIx items.size 0 lo=items.size:=eq_of_beq q.2
  exact hw ⟨by omega,by omega⟩
 show wpAny _ _ (if (((sIx items.size 0 lo:Nat):Int)==0&&(1:Int)==1&&(sIx items.size items.size hi-sIx items.size 0 lo)==items.size)=true then _ else _) _ _ s
 rw[if_neg d,aKI]
 first
  |exact qa (m:=zb _) (va ⟨_,rfl,wpAny_pure h⟩.16 a)
  |exact qa (m:=zb _) (va (qa ⟨_,rfl,wpAny_pure h⟩.16.16) a)
  |exact qa (qa (m:=zb _) (va ⟨_,rfl,wpAny_pure h⟩.16.16 a))
  |exact qa (qa (m:=zb _) (va ⟨_,rfl,wpAny_pure h⟩.16 a))
end
end HT
namespace L2
open PySem PySem.Spec PyProof.Rows
abbrev TO:=St->Hp->(Option Int->Hp->Prop)->Prop
noncomputable def PO(X:Cx)(e:Option Expr)(t:TO):Prop:=
 ∀(pins:List (Addr×Obj)) (s:Shared) (σ:St) (H:Hp) (Q:Option Int->Hp->Prop),Inv X pins σ H s->t σ H Q ->
  wpAny X.w.14 X.A (evalPart e X.env) (λu s'=>∃o H',Inv X pins σ H' s'/\QC u o/\Q o H') X.xe s
noncomputable def aOZ:TO:=λ_ H Q=>Q none H
noncomputable def aUK(t:TE):TO:=λσ H Q=>t σ H λx H1=>∃i,x = .int i/\Q (some i) H1
theorem intsAre_of{ns:List Int}:∀{us:List Value},Vals (ns.map V.int) us->IntsAre us ns:=by
 induction ns with
 |nil=>intro us r;rw[QR] at r;cases r;exact .nil
 |cons n ns ih =>
  intro us r
  rw[kj] at r
  cases r with
  |cons r1 r2 =>
   obtain⟨t,e⟩:=r1
   subst e
   exact .cons n t (ih r2)
section
variable {lo hi:Option Expr}{tl th:TO}
theorem aM4:PO X none aOZ:=by
 intro pins s σ H Q I h
 rw[evalPart_none]
 exact wpAny_pure ⟨none,H,I, .none,h⟩
theorem aOP(h:PE X e te):PO X (some e) (aUK te):=by
 intro pins s σ H Q I hw
 rw[evalPart_some]
 refine thn (h pins s σ H _ I hw) λu s1 ⟨x,H1,I1,r1,a⟩ => ?_
 obtain⟨i,rfl,q⟩:=a
 obtain⟨t,rfl⟩:=r1
 exact⟨some i,H1,I1, .int i t,q⟩
noncomputable def SlR(X:Cx)(r:V->Option Int->Option Int->Hp->VK->Prop):Prop:=
 ∀(pins:List (Addr×Obj)) (s:Shared) (σ:St) (H:Hp) (x:V) (v vl vu:Value) (lo hi:Option Int) (sl:Addr) (Q:VK),Inv X pins σ H s->RelV x v->s.heap.IsSliceOf sl vl vu .none->QC vl lo->QC vu hi->r x lo hi H Q ->
  ∃T id,typeLookup (.type T) "__getitem__" = pure (some (.builtin id))/\s.TypeIs v T/\wpAny X.w.14 X.A (KG v (.ref sl)) (EP X pins σ Q) X.xe s
noncomputable def tSl(r:V->Option Int->Option Int->Hp->VK->Prop)(te:TE)(tl th:TO):TE:=λσ H Q=>te σ H λx H1=>tl σ H1 λl H2=>th σ H2 λu H3=>r x l u H3 Q
theorem aJ4{r:V->Option Int->Option Int->Hp->VK->Prop}(hr:SlR X r)(he:PE X e te)(hl:PO X lo tl)(hu:PO X hi th):PE X (.Subscript e (.Slice lo hi none p2) pos) (tSl r te tl th):=by
 intro pins s σ H Q I h
 refine Subscript_ (thn (he pins s σ H _ I h) λv s1 ⟨x,H1,I1,r1,m⟩ => ?_)
 refine wpAny_Slice (thn (hl pins s1 σ H1 _ I1 m) λa s2 ⟨l,H2,I2,i,j⟩=>thn (hu pins s2 σ H2 _ I2 j) λc s3 ⟨u,H3,I3,pu,g⟩ => ?_)
 rw[evalPart_none]
 refine wpAny_pure ?_
 have I4:Inv X pins σ H3 {s3 with heap:=s3.heap.push {cls := .type "slice", data := .fields #[a,c, .none]} }:=I3.kept (t':=s3.toks) λb ob q=>qc _ q
 obtain⟨T,id,d,k,f⟩:=hr pins {s3 with heap:=s3.heap.push {cls := .type "slice", data := .fields #[a,c, .none]} } σ H3 x v a c l u s3.heap.objs.size Q I4 r1 (K3 ..) i pu g
 show wpAny X.w.14 X.A (subscriptTail e (.Slice lo hi none p2) v (.ref s3.heap.objs.size)) (EP X pins σ Q) X.xe {s3 with heap:=s3.heap.push {cls := .type "slice", data := .fields #[a,c, .none]} }
 exact tail_any (ops:=[.ref s3.heap.objs.size,v]) k d f (by with_unfolding_all rfl)
noncomputable def oC(xs:List V)(lo hi:Option Int):List V:=(xs.drop (HT.sIx xs.length 0 lo)).take (HT.sIx xs.length xs.length hi-HT.sIx xs.length 0 lo)
theorem tH(xs:List V)(lo hi:Option Int):(oC xs lo hi).length<=xs.length:=by
 unfold oC
 rw[vh,w4]
 omega
noncomputable def rSlT(K:qh):V->Option Int->Option Int->Hp->VK->Prop:=λx lo hi H Q=>∃a xs,x = .ref a/\SqT K H a xs /\
 ¬(HT.sIx xs.length 0 lo=0/\HT.sIx xs.length xs.length hi=xs.length)/\∀p,H p=none->Q (.ref p) (upd H p (.tup (oC xs lo hi)))
theorem aR4:SlR X (rSlT X.K):=by
 intro pins s σ H x v m n lo c l Q I j i g pu h
 obtain⟨a,xs,rfl,k,hw,q⟩:=h
 cases j
 obtain⟨d,r,f,e⟩:=I.tuple k
 have hlen:d.toArray.size=xs.length:=by rw[qf];exact r.length.symm
 refine⟨"tuple", _,zq.lookup,f.typeIs,?_⟩
 refine HT.sR f i g pu (by rw[hlen];exact hw) ?_ (by rw[hlen];exact e)
 rw[hlen]
 refine⟨.ref s.heap.objs.size,_,I.laid (t':=s.toks) (o := .tup (oC xs lo c)) (λb ob q=>qc _ q) (qk _) ?_,rfl,q _ (I.hok.fresh (qk _))⟩
 exact⟨qq (tH xs lo c) e,_,(r.drop (HT.sIx xs.length 0 lo)).take (HT.sIx xs.length xs.length c-HT.sIx xs.length 0 lo),Ki _ _⟩
end
end L2
namespace L2
open PySem PySem.Spec PyProof.Rows
noncomputable def ixN(n:Nat)(i:Int):Option Nat:=if 0<=i then (if i<n then some i.toNat else none) else if -(n:Int)<=i then some (i+n).toNat else none
noncomputable def atI{α:Type}(xs:List α)(i:Int):Option α:=(ixN xs.length i).bind λj=>xs[j]?
theorem aDD{i:Int}(h:ixN n i=some j):seqIndex? i n=some j/\j<n /\ -(n:Int)<=i/\i<n:=by
 unfold ixN at h
 by_cases h0:0<=i
 ·rw[if_pos h0] at h
  by_cases a:i<n
  ·rw[if_pos a] at h
   have e:i.toNat=j:=je h
   exact⟨by rw[KI h0 a,e],by omega,by omega,a⟩
  ·rw[if_neg a] at h;cases h
 ·rw[if_neg h0] at h
  by_cases a : -(n:Int)<=i
  ·rw[if_pos a] at h
   have e:(i+n).toNat=j:=je h
   exact⟨by rw[Ke '$' a,e],by omega,a,by omega⟩
  ·rw[if_neg a] at h;cases h
theorem wM{α:Type}{xs:List α}{i:Int}{v:α}(h:atI xs i=some v):∃j,seqIndex? i xs.length=some j/\xs[j]?=some v/\j<xs.length /\ -(xs.length:Int)<=i/\i<xs.length:=by
 unfold atI at h
 cases e:ixN xs.length i with
 |none=>rw[e] at h;cases h
 |some j =>
  rw[e] at h
  obtain⟨c,b,d,a⟩:=aDD e
  exact⟨j,c,h,b,d,a⟩
theorem dD{α:Type}{xs:List α}{v:α}(h:xs[j]?=some v):atI xs (j:Int)=some v:=by
 have a:j<xs.length:=(zGs h).1
 have e:ixN xs.length (j:Int)=some j:=by
  unfold ixN
  rw[if_pos '$',if_pos '$'];simp
 unfold atI;rw[e];exact h
theorem pA{α:Type}(xs:List α)(v:α):atI (xs++[v]) (-1)=some v:=by
 have hl:(xs++[v]).length=xs.length+1:=by simp
 have e:ixN (xs++[v]).length (-1)=some xs.length:=by
  unfold ixN
  rw[hl,if_neg '#',if_pos '$']
  congr 1
  omega
 unfold atI
 rw[e]
 show (xs++[v])[xs.length]?=some v
 simp
noncomputable def aEC(b:Expr):Prop:=∀o i,subscripted b false o i=operate [o,i] (KG o i)
noncomputable def IxR(X:Cx)(r:R2):Prop:=
 ∀(value slice:Expr) (pins:List (Addr×Obj)) (s:Shared) (σ:St) (H:Hp) (x y:V) (v u:Value) (Q:VK),Inv X pins σ H s->RelV x v->RelV y u->r x y H Q ->
  subscripted slice false v u=operate [v,u] (KG v u)->wpAny X.w.14 X.A (subscriptTail value slice v u) (EP X pins σ Q) X.xe s
noncomputable def MtR(X:Cx)(id:String)(r:V->List V->Hp->VK->Prop):Prop:=
 ∀(pins:List (Addr×Obj)) (s:Shared) (σ:St) (H:Hp) (x:V) (xs:List V) (v:Value) (us:List Value) (Q:VK),Inv X pins σ H s->RelV x v->Vals xs us->r x xs H Q ->
  wpAny X.w.14 X.A (call (.builtin id) (v::us)) (EP X pins σ Q) X.xe s
section
variable {a b:Expr}{tb:TE}
theorem IxR.or{r r':R2}(h:IxR X r)(h':IxR X r'):IxR X (λx y H Q=>r x y H Q\/r' x y H Q):=by
 intro value slice pins s σ H x y v u Q I c a q b
 rcases q with q|q
 ·exact h value slice pins s σ H x y v u Q I c a q b
 ·exact h' value slice pins s σ H x y v u Q I c a q b
theorem aUV{r:R2}(hr:IxR X r)(ha:PE X a ta)(hb:PE X b tb)(hs:aEC b):PE X (.Subscript a b pos) (tOp r ta tb):=by
 intro pins s σ H Q I h
 exact Subscript_ (aJH ha hb I h λv u s2 x y H2 I2 d c q=>hr a b pins s2 σ H2 x y v u Q I2 d c q (hs _ _))
noncomputable def rIxL(K:qh):R2:=λx y H Q=>∃p xs i v,x = .ref p/\y = .int i/\SqL K H p xs/\atI xs i=some v/\Q v H
noncomputable def rIxT(K:qh):R2:=λx y H Q=>∃p xs i v,x = .ref p/\y = .int i/\SqT K H p xs/\atI xs i=some v/\Q v H
noncomputable def rIxS:R2:=λx y H Q=>∃z i c,x = .str z/\y = .int i/\z.length<=sizeLine/\atI z.cps.toList i=some c/\Q (.str ⟨#[c]⟩) H
theorem aO3:IxR X (rIxL X.K):=by
 intro value slice pins s σ H x y v u Q I A m h f
 obtain⟨p,xs,i,z,rfl,rfl,n,he,q⟩:=h
 cases A
 obtain⟨t,rfl⟩:=m
 obtain⟨e,r,c,D⟩:=I.list n
 obtain⟨j,a,l,E,o,k⟩:=wM he
 obtain⟨w,g,d⟩:=r.get l
 have hl:=r.length
 have C:=line63
 have fin:EP X pins σ Q w s:=⟨z,H,I,d,q⟩
 by_cases h0:0<=i
 ·have b:i.toNat=j:=by
   rw[KI h0 k] at a
   exact je a
  exact item_listR c.isList h0 '$' (by rw[b];simpa using g) fin f
 ·have b:(i+(e.toArray.size:Int)).toNat=j:=by
   rw[Ke '$' o] at a
   rw[qf,<- hl]
   exact je a
  exact JQ (x:=w) c.isList.typeIs slot_list_getitem.lookup
   (wpAny_getItem_list_neg (Q:=λr B=>r=w/\EP X pins σ Q r B) c.isList '$' (by rw[qf] <;> omega) '$' (by rw[b];simpa using g) ⟨rfl,fin⟩) f
theorem aQ0:IxR X (rIxT X.K):=by
 intro value slice pins s σ H x y v u Q I k d h g
 obtain⟨p,xs,i,z,rfl,rfl,f,he,q⟩:=h
 cases k
 obtain⟨t,rfl⟩:=d
 obtain⟨n,r,b,B⟩:=I.tuple f
 obtain⟨j,e,c,D,C,o⟩:=wM he
 obtain⟨w,m,a⟩:=r.get c
 have hl:=r.length
 have A:=line63
 have fin:EP X pins σ Q w s:=⟨z,H,I,a,q⟩
 exact JQ (x:=w) b.typeIs slot_tuple_getitem.lookup
  (getItem_tuple (j:=j) (Q:=λr l=>r=w/\EP X pins σ Q r l) b '$' '$' (by rw[qf,<- hl];exact e) (by simpa using m) ⟨rfl,fin⟩) g
theorem aRG:IxR X rIxS:=by
 intro value slice pins s σ H x y v u Q I m e h l
 obtain⟨z,i,c,rfl,rfl,n,he,q⟩:=h
 obtain⟨t,rfl⟩:=m
 obtain⟨p,rfl⟩:=e
 obtain⟨j,a,f,r,k,b⟩:=wM he
 have hl:z.cps.toList.length=z.length:=by simp[hO]
 rw[hl] at a k b
 have o:=line63
 exact tail_any (typeIs_str s z t) slot_str_getitem.lookup (getItem_str (c:=c) (by
  have g:decide (i < -(2^63:Int))=false:=decide_eq_false '$'
  have d:decide (i≥2^63)=false:=decide_eq_false '$'
  rw[g,d,K1]) (by rw[a];simpa using f) ⟨.str ⟨#[c]⟩,H,I.tok _,⟨_,rfl⟩,q⟩) l
noncomputable def rIx(K:qh):R2:=λx y H Q=>rIxL K x y H Q\/rIxT K x y H Q\/rIxS x y H Q
theorem aE:IxR X (rIx X.K):=aO3.or (aQ0.or aRG)
theorem aF3(its:List Value)(n j:Nat)(u:Value):x7 (·.setIfInBounds j u) {cls := .type "list", data := .seq its.toArray n}={cls := .type "list", data := .seq (its.set j u).toArray n}:=by
 simp[x7]
theorem Inv.lst{p:Addr}{xs:List V}(I:Inv X pins σ H s)(h:H p=some (.lst xs)):
  ∃(its:List Value) (n:Nat),Vals xs its/\s.heap.get? p=some {cls := .type "list", data := .seq its.toArray n}/\xs.length<=sizeLine:=by
 obtain⟨z,its,n,r,e⟩:=I.hok p _ h
 exact⟨its,n,r,e,z⟩
theorem Inv.lstUpd{p:Addr}{xs ys:List V}{its':List Value}{n':Nat}{f:Obj->Obj}(I:Inv X pins σ H s)(h:H p=some (.lst xs))(ho:s.heap.get? p=some {cls := .type "list", data := .seq its.toArray n})(hf:f {cls := .type "list", data := .seq its.toArray n}={cls := .type "list", data := .seq its'.toArray n' })(r:Vals ys its')(hz:ys.length<=sizeLine)(t:Nat):
  Inv X pins σ (upd H p (.lst ys)) {s with heap:=s.heap.update p f,toks:=t}:=by
 have e:(s.heap.update p f).get? p=some {cls := .type "list", data := .seq its'.toArray n' }:=by
  rw[vx f ho (by rw[hf] <;> rfl),hf]
 refine I.write (x:=p) (e:=p) (by rw[h];trivial) (.inl rfl) (λb u a q=>(bj _ _ (cb a)).trans q) ⟨_,e⟩ ?_
 exact⟨hz,its',n',r,e⟩
noncomputable def aMT:V->V->V->Hp->(Hp->Prop)->Prop:=λo i v H Q=>∃p xs k j,o = .ref p/\i = .int k/\H p=some (.lst xs)/\ixN xs.length k=some j/\Q (upd H p (.lst (xs.set j v)))
theorem set_list:PSet X aMT:=by
 intro pins s σ H o i v ov B u Q I m l y h
 obtain⟨p,xs,k,j,rfl,rfl,e,x,q⟩:=h
 cases m
 obtain⟨t,rfl⟩:=l
 obtain⟨a,n,r,c,w⟩:=I.lst e
 obtain⟨b,z,g,f⟩:=aDD x
 have hl:=r.length
 have A:=line63
 have I':Inv X pins σ (upd H p (.lst (xs.set j v))) {s with heap:=s.heap.update p (x7 (·.setIfInBounds j u))}:=
  I.lstUpd e c (aF3 a n j u) (r.set y j) (by rw[rd];exact w) s.toks
 by_cases h0:0<=k
 ·have d:k.toNat=j:=by
   rw[KI h0 f] at b
   exact je b
  exact PySem.W.ki_setAt c h0 '$' (by rw[qf,<- hl];exact f) (by rw[d];exact⟨_,I',q⟩)
 ·have d:(k+(a.toArray.size:Int)).toNat=j:=by
   rw[Ke '$' g] at b
   rw[qf,<- hl]
   exact je b
  exact PySem.W.ki_setBack c '$' (by rw[qf,<- hl];exact g) '$' (by rw[d];exact⟨_,I',q⟩)
theorem aB2(lo hi:Option Int)(n:Nat):(fb lo hi none n).1=((HT.sIx n 0 lo:Nat):Int)/\(fb lo hi none n).2.1=((HT.sIx n n hi:Nat):Int)/\(fb lo hi none n).2.2=1:=by
 refine⟨?_,?_,rfl⟩
 ·cases lo with
  |none=>simp[fb,HT.sIx]
  |some i =>
   simp only[fb,HT.sIx,JF,show (1:Int)>0 by decide,if_true]
   by_cases h:i<0
   ·simp only[h,if_true] <;> omega
   ·simp only[h,if_false] <;> omega
 ·cases hi with
  |none=>simp[fb,HT.sIx]
  |some i =>
   simp only[fb,HT.sIx,JF,show (1:Int)>0 by decide,if_true]
   by_cases h:i<0
   ·simp only[h,if_true] <;> omega
   ·simp only[h,if_false] <;> omega
theorem yU(its:List Value)(lo hi:Option Int):slicePick its.toArray lo hi none=((its.drop (HT.sIx its.length 0 lo)).take (HT.sIx its.length its.length hi-HT.sIx its.length 0 lo)).toArray:=by
 obtain⟨b,a,c⟩:=aB2 lo hi its.toArray.size
 unfold slicePick
 rw[b,a,c]
 simp only[sliceRange_one,pick_run,qf] <;> rfl
noncomputable def rSlL(K:qh):V->Option Int->Option Int->Hp->VK->Prop:=λx lo hi H Q=>∃a xs,x = .ref a/\SqL K H a xs/\∀p,H p=none->Q (.ref p) (upd H p (.lst (oC xs lo hi)))
theorem l7:SlR X (rSlL X.K):=by
 intro pins s σ H x v m n lo c l Q I i g f pu h
 obtain⟨a,xs,rfl,j,q⟩:=h
 cases i
 obtain⟨k,r,d,e⟩:=I.list j
 have hlen:=r.length
 refine⟨"list", _,slot_list_getitem.lookup,d.isList.typeIs,?_⟩
 refine wpAny_getItem_list_slice d.isList g f pu .none '%' ?_ (by rw[qf] <;> omega)
 rw[yU,<- hlen]
 refine⟨.ref s.heap.objs.size,_,I.laid (t':=s.toks) (o := .lst (oC xs lo c)) (λb ob q=>qc _ q) (qk _) ?_,rfl,q _ (I.hok.fresh (qk _))⟩
 exact⟨qq (tH xs lo c) e,_,0,(r.drop (HT.sIx xs.length 0 lo)).take (HT.sIx xs.length xs.length c-HT.sIx xs.length 0 lo),qu _ rfl⟩
theorem gO:dY X (.type "list") (λxs H Q=>∃p ys,xs=[.ref p]/\(SqL X.K H p ys\/SqT X.K H p ys)/\∀l,H l=none->Q (.ref l) (upd H l (.lst ys))):=by
 intro pins s σ H xs us Q I r h
 obtain⟨p,ys,rfl,i,q⟩:=h
 obtain⟨u,rfl,v⟩:=vals1 r
 cases v
 have fin:∀(a:List Value),Vals ys a->ys.length<=sizeLine->∀(c:Heap) (f:Nat),(∀b o',s.heap.get? b=some o'->c.get? b=some o') ->
   c.get? s.heap.objs.size=some {cls := .type "list", dict:=none,data := .seq a.toArray f,slots := #[]}->EP X pins σ Q (.ref s.heap.objs.size) {s with heap:=c}:=λa d g c f j e =>
  ⟨.ref s.heap.objs.size,_,I.laid (t':=s.toks) j (qk _) (show eY X.prog X.w _ c _ (.lst ys) from ⟨g,a,f,d,e⟩),rfl,q _ (I.hok.fresh (qk _))⟩
 rcases i with i|i
 ·obtain⟨a,d,m,g⟩:=I.list i
  have hlen:=d.length
  obtain⟨o,k,t,n,hd⟩:=m.isList
  exact call_list_seq p (.inl rfl) k t hd (λc f j e=>fin a d g c f j e) (by simp only[qf] <;> omega)
 ·obtain⟨a,d,m,g⟩:=I.tuple i
  have hlen:=d.length
  obtain⟨o,k,t,n,hd⟩:=m
  exact call_list_seq p (.inr rfl) k t hd (λc f j e=>fin a d g c f j e) (by simp only[qf] <;> omega)
theorem dF:dY X (.type "tuple") (λxs H Q=>∃p ys,xs=[.ref p]/\((SqL X.K H p ys/\∀l,H l=none->Q (.ref l) (upd H l (.tup ys)))\/(SqT X.K H p ys/\Q (.ref p) H))):=by
 intro pins s σ H xs us Q I r h
 obtain⟨p,ys,rfl,h⟩:=h
 obtain⟨u,rfl,k⟩:=vals1 r
 cases k
 rcases h with ⟨g,q⟩|⟨g,q⟩
 ·obtain⟨a,d,f,i⟩:=I.list g
  have hlen:=d.length
  refine call_tuple_list f.isList (λc j => ?_) (by simp only[qf] <;> omega)
  have I1:Inv X pins σ H {s with heap:=c}:=I.kept (t':=s.toks) j
  have I2:Inv X pins σ (upd H c.objs.size (.tup ys)) {s with heap:=c.push {cls := .type "tuple", data := .seq a.toArray} }:=
   I1.laid (t':=s.toks) (λb o e=>qc _ e) (qk _) (show eY X.prog X.w _ _ _ (.tup ys) from ⟨i,a,d,Ki _ _⟩)
  exact⟨.ref c.objs.size,_,I2,rfl,q _ (I1.hok.fresh (qk _))⟩
 ·obtain⟨a,d,f,i⟩:=I.tuple g
  exact call_tuple_same f ⟨.ref p,H,I,rfl,q⟩
noncomputable def tyV(K:qh)(T:String)(x:V)(H:Hp):Prop:=match x with
 |.str _=>T = "str"
 |.int _=>T = "int"
 |.ref p=>(T = "list" /\ ∃xs,SqL K H p xs)\/(T = "tuple" /\ ∃o,K.lookup p=some o/\o.cls = .type "tuple" /\ o.dict=none) \/
   (T = "dict" /\ ((∃kvs,H p=some (.dK kvs))\/∃kvs,H p=some (.dT kvs)))\/(T = "set" /\ ∃S n,H p=some (.set S n))
 |_=>False
theorem aQP{T:String}{x:V}{v:Value}(I:Inv X pins σ H s)(r:RelV x v)(ty:tyV X.K T x H):
  s.TypeIs v T/\∀a,v = .ref a->∃ob,s.heap.get? a=some ob/\ob.dict=none:=by
 cases x with
 |str z =>
  obtain⟨t,rfl⟩:=r
  cases (show T = "str" from ty)
  exact⟨typeIs_str s z t,λ_ e=>nomatch e⟩
 |int i =>
  obtain⟨t,rfl⟩:=r
  cases (show T = "int" from ty)
  exact⟨typeIs_int s i t,λ_ e=>nomatch e⟩
 |ref p =>
  cases r
  rcases ty with ⟨rfl,xs,h⟩|⟨rfl,o,b,k,hd⟩|⟨rfl,b⟩|⟨rfl,S,n,b⟩
  ·obtain⟨j,_,g,_⟩:=I.list h
   refine⟨g.isList.typeIs,λa e => ?_⟩
   cases e
   obtain⟨o,n,e,c,hd,_⟩:=g
   exact⟨o,e,hd⟩
  ·refine⟨⟨o,I.kIn p o b,k⟩,λa e => ?_⟩
   cases e
   exact⟨o,I.kIn _ o b,hd⟩
  ·have z:∃o,s.heap.get? p=some o/\o.ExactDict:=by
    rcases b with ⟨f,b⟩|⟨f,b⟩
    ·obtain⟨_,_,_,_,o,_,_,e,ex,_⟩:=I.hok p _ b
     exact⟨o,e,ex⟩
    ·obtain⟨_,_,_,_,o,_,_,e,ex,_⟩:=I.hok p _ b
     exact⟨o,e,ex⟩
   obtain⟨o,e,ex⟩:=z
   refine⟨⟨o,e,ex.1⟩,λa d => ?_⟩
   cases d
   exact⟨o,e,ex.2.1⟩
  ·obtain⟨o,_,_,_,e,ex,_⟩:=I.hok p _ b
   refine⟨⟨o,e,ex.1⟩,λa d => ?_⟩
   cases d
   exact⟨o,e,ex.2.1⟩
 |_=>exact zd ty
noncomputable def tBM(K:qh)(T:String)(r:V->List V->Hp->VK->Prop)(to:TE)(t:TA):TE:=λσ H Q=>to σ H λx H1=>tyV K T x H1/\t σ H1 λxs H2=>r x xs H2 Q
variable {to:TE}{t:TA}{T id:String}{r:V->List V->Hp->VK->Prop}
theorem aUG(pa:PlainAttrs T)(slot:Slot T name id)(hty:typeOf (.builtin id)=pure (.type "method_descriptor"))(hm:MtR X id r)(ho:PE X o to)(ha:PA X (e::es) t)(hbase:attributeBase o name X.env (eval o X.env)=eval o X.env:=by rfl)(hfew:((dh cpos (jk (e::es) X.env)).all (λx => !x.1)&&(backToKw cpos (keywordEach [] X.env)).all (λx=>x.1.isSome)
   && decide ((e::es).length+([]:List KH).length+(if ([]:List KH).isEmpty then 0 else 1)<30))=true:=by rfl)(hline:(apos.endLine==cpos.line)=true:=by rfl)(hs:jk (e::es) X.env=(false,eval e X.env)::jk es X.env:=by rfl)(hplain:(dh cpos (jk es X.env)).any (·.1)=false:=by rfl):
  PE X (.Call (.Attribute o name apos) (e::es) [] cpos) (tBM X.K T r to t):=by
 intro pins s σ H Q I h
 refine wpAny_Call_method_late hbase hfew hline rfl (thn (ho pins s σ H _ I h) λv s1 ⟨x,H1,I1,r1,ty,f⟩ => ?_)
 obtain⟨d,c⟩:=aQP I1 r1 ty
 refine⟨T,id,pa,slot,hty,d,c,?_⟩
 have hA:=ha cpos pins s1 σ H1 _ I1 f
 rw[hs] at hA ⊢
 refine Calls.callWith_builtin (by show (false||(dh cpos (jk es X.env)).any (·.1))=false;rw[hplain] <;> rfl) (Calls.evalArgs_plain ?_)
 exact thn hA λus s2 ⟨vs,H2,I2,r2,b⟩=>hm pins s2 σ H2 x vs v us Q I2 r1 r2 b
/- xs.append(e),list.index on a module's tuple .. are MtR facts of 06m -/
end
end L2
namespace L2
open PySem PySem.Spec PyProof.Rows
noncomputable def MtM(X:Cx)(id:String)(r:V->List V->Hp->VK->Prop):Prop:=
 ∀(pins:List (Addr×Obj)) (s:Shared) (σ:St) (H:Hp) (x:V) (xs:List V) (v:Value) (us:List Value) (Q:VK),Inv X pins σ H s->RelV x v->Vals xs us->r x xs H Q ->
  wpAny X.w.14 X.A (call (.builtin id) (v::us)) (EP X pins σ Q) X.xe s
theorem Vals.one:∀{x:V}{us:List Value},Vals [x] us->∃u,us=[u]/\RelV x u
 |_,_, .cons r .nil=>⟨_,rfl,r⟩
section
variable {l b:Addr}{xs ys zs:List V}
theorem Inv.lset{its':List Value}{f:Array Value->Array Value}(I:Inv X pins σ H s)(hH:H l=some (.lst xs))(e:s.heap.get? l=some {cls := .type "list", data := .seq its.toArray n})(hf:f its.toArray=its'.toArray)(hv:Vals ys its')(hz:ys.length<=sizeLine):
  Inv X pins σ (upd H l (.lst ys)) {s with heap:=s.heap.update l (x7 f),toks:=t' }:=by
 have q:=PySem.IsL.update e f
 rw[hf] at q
 refine I.write (x:=l) (e:=l) (by rw[hH];exact trivial) (.inl rfl) (λc u b a=>(bj s.heap (x7 f) (cb b)).trans a) ⟨_,q⟩ ?_
 exact⟨hz,its',_,hv,q⟩
theorem Inv.lnew(I:Inv X pins σ H s)(hv:Vals ys its)(hz:ys.length<=sizeLine):
  Inv X pins σ (upd H s.heap.objs.size (.lst ys)) {s with heap:=s.heap.push {cls := .type "list", data := .seq its.toArray},toks:=t' }:=
 I.laid (λ_ _ q=>qc _ q) (qk _) ⟨hz,its,0,hv,qu _ rfl⟩
theorem Inv.fresh(I:Inv X pins σ H s):H s.heap.objs.size=none:=I.hok.fresh (qk _)
theorem Inv.lstM(I:Inv X pins σ H s)(hH:H l=some (.lst xs)):xs.length<=sizeLine/\∃(its:List Value) (n:Nat),Vals xs its/\xs.length=its.length/\s.heap.get? l=some {cls := .type "list", data := .seq its.toArray n}:=by
 obtain⟨z,its,n,r,e⟩:=I.hok l _ hH
 exact⟨z,its,n,r,r.length,e⟩
theorem aJ8(h:n<=sizeLine):mr n=false:=by
 unfold mr
 exact decide_eq_false '$'
end
section
noncomputable def aDH:V->List V->Hp->VK->Prop:=λx vs H Q=>∃l xs y,x = .ref l/\vs=[y]/\H l=some (.lst xs)/\xs.length<sizeLine/\Q .non (upd H l (.lst (xs++[y])))
theorem c8:MtM X "list.append" aDH:=by
 intro pins s σ H x vs v us Q I d f h
 obtain⟨l,xs,y,rfl,rfl,b,g,q⟩:=h
 cases d
 obtain⟨u,rfl,c⟩:=f.one
 obtain⟨z,a,n,r,hl,e⟩:=I.lstM b
 refine call_meets F.slot_list_append ⟨_,e,rfl⟩ F.entry_list_append (F.args_list_append_2 _ _) (PySem.list_append l a.toArray n u (by rw[qf];omega)) ⟨e,?_⟩
 refine⟨.non,_,I.lset (its':=a++[u]) b e '%' (r.append (.cons c .nil)) ?_,rfl,q⟩
 rw[qe,za]
 omega
noncomputable def rCat:R2:=λx y H Q=>∃l b xs zs,x = .ref l/\y = .ref b/\H l=some (.lst xs)/\H b=some (.lst zs)/\xs.length+zs.length<=sizeLine/\∀p,H p=none->Q (.ref p) (upd H p (.lst (xs++zs)))
theorem fC:OpR X (zw .Add) rCat:=by
 intro pins s σ H x y v u Q I i f h
 obtain⟨l,b,xs,zs,rfl,rfl,g,hB,k,q⟩:=h
 cases i
 cases f
 obtain⟨z,c,n,r,hl,e⟩:=I.lstM g
 obtain⟨m,a,o,r2,hl2,d⟩:=I.lstM hB
 refine PySem.P.add_list e d ?_ (by rw[qf,qf];omega)
 have j:c.toArray++a.toArray=(c++a).toArray:=by simp
 rw[j]
 exact⟨.ref _,_,I.lnew (t':=s.toks) (r.append r2) (by rw[qe];omega),rfl,q _ I.fresh⟩
end
section
variable {E:Value->Shared->Prop}
set_option maxRecDepth 100000 in
end
section
end
end L2
namespace Att
open PySem PySem.W PySem.Calls PyProof.Rows
theorem wA{P:xx}:∀(ns:List Int) (vs:List Value),WellAll P h vs (ns.map WData.int)->IntsAre vs ns:=by
 intro ns
 induction ns with
 |nil =>
  intro vs w
  rw[QR] at w
  cases w
  exact .nil
 |cons n ns ih =>
  intro vs w
  rw[kj] at w
  cases w with
  |cons a b =>
   cases a
   exact .cons _ _ (ih _ b)
theorem aI2{l:OpenLaw}(hn:l.most=some n){P:xx}{args:List WData}{vals:List Value}(hpre:l.row.toRowW.claim.pre args=true)(hwl:WellAll P h vals args):
  ∃a vs ns,vals=[jw a]/\args=[WData.list (ns.map WData.int)]/\h.get? a=some {cls := .type "list", data := .seq vs.toArray}/\IntsAre vs ns/\ns.length<=n:=by
 have e:WShape.hasAll [] args [.list .int]=true:=(pre_splitW hpre).1
 have f:l.pre.holds [] {args:=args}=true:=(pre_splitW hpre).2
 obtain⟨d,r,rfl,i,g⟩:=hasAllW_cons e
 obtain rfl:=hasAllW_nil g
 obtain⟨xs,rfl,j⟩:=hasW_list i
 obtain⟨ns,rfl⟩:=items_int j
 have hlen:ns.length<=n:=by
  unfold OpenLaw.pre at f
  have c:(WTm.not (.lt (.lit (.int (n:Int))) (.len (.arg 0)))).holds [] {args:=[.list (ns.map .int)]}=true:=by
   have c:=(holds_andW f).1
   rw[hn] at c
   exact c
  have b:=condW_of c (w_not (w_lt w_lit (w_len_list (w_arg rfl))))
  rw[zLm] at b
  refine f3 λq => ?_
  have k:(n:Int)<((ns.length:Nat):Int):=by omega
  first
   | (rw[decide_eq_true k] at b;exact absurd b '#')
   | (simp at b;omega)
 cases hwl with
 |cons w1 w2 =>
  cases w2
  cases w1 with
  |list ho hall=>exact⟨_,_,ns,rfl,rfl,ho,wA ns _ hall,hlen⟩
theorem aIZ(l:OpenLaw)(args:List WData):l.row.toRowW.claim.post args (.bool true) args=true:=
 postW_of (r:=l.row.toRowW) (X:=(true==true))
  (show WShape.has [] (.bool true) .bool=true by first|rfl|decide|simp[WShape.has,WShape.arms,WShape.armsAll])
  (show (WTm.eq .res (.lit (.bool true))).value [] {args:=args,res:=some (.bool true),after:=args}=some (.bool (true==true)) from w_eq_bool (w_res rfl) w_lit) rfl
theorem aCF{l:OpenLaw}{q:Program}{XP:(Str->Option Value)->Heap->Prop}{d:DefRec}(hn:l.most=some n)(hdf:d.params.defaults=[])(call:∀(w:World) (s₀ s₁:Shared) (mg mb:Str->Option Value) (fa:Addr) (o:Obj) (pm cd doc:Value) (a:Addr) (vs:List Value) (ns:List Int),
   Ground q loose [] XP w s₀ mg mb s₁.heap->YP w s₁.heap ->
   s₁.heap.get? fa=some o->o.data = .func (docDef d.name d.params d.body d.scope pm cd doc)->s₁.heap.CodeRec cd d.name->mg d.name=some (.ref fa) ->
   s₁.heap.get? a=some {cls := .type "list", data := .seq vs.toArray}->IntsAre vs ns->ns.length<=n->s₁.gens = #[] ->
   nf (jl l.prog w) QF (.call (.ref fa) ⟨[.ref a],[]⟩) (λr s'=>r = .ok (.ret (.bool true))/\OldK s₁.heap s'.heap/\s'.os=s₁.os/\ng s'.gens) s₁):
  WalkO q loose XP YP l.row.toRowW d [] (λf vs=>JB f vs):=by
 intro w s₀ s₁ mg mb G Y fa o pm cd doc p kV u hd h j e k args vals as b i y g t
 obtain rfl:p = .none:=Dflts.none j hdf
 obtain rfl:kV = .none:=Dflts.noKw j
 obtain⟨a,vs,ns,rfl,rfl,c,hints,hlen⟩:=aI2 hn b g
 refine enter_call (lq (call w s₀ s₁ mg mb fa o pm cd doc a vs ns G Y u (fd_plain hd) h e c hints hlen k) λr s' v => ?_)
 obtain⟨rfl,m,z,x⟩:=v
 exact⟨.inl ⟨.bool true, .bool true,[],rfl,λ_=>rfl, .bool true,aIZ l _,λ_=>⟨cv,λ_ hm=>(nomatch hm)⟩⟩,m,z,x⟩
section
variable {E:Value->Shared->Prop}{K:Frag}
end
end Att
namespace L2
open PySem PySem.Spec PyProof.Rows
theorem nY:∀{vs:List Value}{ns:List Int},IntsAre vs ns->Vals (ns.map V.int) vs
 |_,_, .nil => .nil
 |_,_, .cons n t h => .cons ⟨t,rfl⟩ (nY h)
noncomputable def Only(H:Hp):Prop:=∀b,H b=none\/∃o xs,H b=some (.frz o (.lst xs))
theorem aLM{K:qh}{mb:Str->Option Value}{CX:CXT}{k:Nat}{fa:Addr}{sp:Sp}{s₁:Shared}{vs:List Value}{ns:List Int}(KX:K.In s₁.heap)(hns:s₁.heap.Ns vn mg)(hb:s₁.heap.Ns Jm mb)(hbb:∀x:Str,x ≠ "__name__" -> mb x=kh x)(hlim:s₁.heap.NoLimit)(hg:s₁.gens = #[])(ha:s₁.heap.get? a=some {cls := .type "list", data := .seq vs.toArray})(hi:IntsAre vs ns)(hl:ns.length<=sizeLine)(hr:Room k QF)(F:∀base:Heap,K.In base->base.Ns vn mg->FnOk P w K mg base CX k fa fd [x] sp)(hbind:∀(s:Shared) (u:Value),BindsTo s fd ⟨[u],[]⟩ [(x,u)])(hsp:∀H:Hp,Only H->SqL K H a (ns.map V.int)->sp [.ref a] H (λv _=>v = .bl true) λ_ _ _=>False)(hCX:∀H e s',CX [] H s₁ (λ_ _ _=>False) e s'->False):
  nf (jl P w) QF (.call (.ref fa) ⟨[.ref a],[]⟩) (λr s'=>r = .ok (.ret (.bool true))/\OldK s₁.heap s'.heap/\s'.os=s₁.os/\ng s'.gens) s₁:=by
 have E:=nY hi
 have g:=hi.length
 -- from an abstract heap in which nothing but the script may be tracked
 have core:∀H:Hp,Only H->SqL K H a (ns.map V.int)->HOk P w H s₁.heap->(∀b,H b≠none->b=a)->(H a≠none->K.lookup a=none) ->
   nf (jl P w) QF (.call (.ref fa) ⟨[.ref a],[]⟩) (λr s'=>r = .ok (.ret (.bool true))/\OldK s₁.heap s'.heap/\s'.os=s₁.os/\ng s'.gens) s₁:=by
  intro H C L t hA M
  have c:∀{b:Addr}{o:Obj},s₁.heap.get? b=some o->H b=none->(pQ s₁.heap H).get? b=some o:=λe n=>aJT e n
  have B:∀{b:Addr}{o:Obj}{y:Array DictEntry}{p:Nat},s₁.heap.get? b=some o->o.data = .dict y p->H b=none:=λ{b o y p} e d=>by
   cases q:H b with
   |none=>rfl
   |some u =>
    have A:b=a:=hA b (by rw[q];simp)
    subst A
    rw[ha] at e;cases e
    have Q:Data.seq vs.toArray _=Data.dict y p:=d
    cases Q
  have f:∀{b:Addr}{m:Str->Option Value},s₁.heap.Ns b m->(pQ s₁.heap H).Ns b m:=λ{b m} ⟨o,y,p,e,d,r⟩=>⟨o,y,p,c e (B e d),d,r⟩
  have i:K.In (pQ s₁.heap H):=λb o e=>c (KX b o e) (by
   cases q:H b with
   |none=>rfl
   |some u =>
    have A:b=a:=hA b (by rw[q];simp)
    subst A
    rw[M (by rw[q];simp)] at e;cases e)
  have N:Mod K mg (pQ s₁.heap H):=⟨i,f hns,⟨mb,f hb,hbb⟩,let ⟨mc,h1,h2⟩:=hlim;⟨mc,f h1,h2⟩⟩
  have O:Env0 P w K mg (pQ s₁.heap H) QF [] s₁ H:=⟨rfl,N,λb o e=>aOW e,wm (aHM _ _),trivial,λb hb=>absurd (show b∈([]:List Addr) from hb) '%',t, .of_eq hg⟩
  refine lq ((F _ i (f hns)).run QF [] s₁ H ⟨[.ref a],[]⟩ [.ref a] [.ref a] _ _ hr O (hbind s₁ (.ref a)) (.cons rfl .nil) (hsp H C L)) λr s' h => ?_
  cases r with
  |error e=>exact (hCX H e s' h).elim
  |ok fl =>
   cases fl with
   |next=>exact zd h
   |brk=>exact zd h
   |cont=>exact zd h
   |ret u =>
    obtain⟨v,H',os,bare,un,j,I,q⟩:=h
    have R:v = .bl true:=q
    subst R
    obtain rfl:u=wd true:=I
    refine⟨rfl,OldK.of_keep λb o e => ?_,os,bare⟩
    cases q:H b with
    |none=>exact un.keep b o e q (by intro z;exact absurd (show b∈([]:List Addr) from z) '%') '%'
    |some u =>
     rcases C b with z|⟨ob,xs,z⟩
     ·rw[q] at z;cases z
     ·have J:=un.frzs b ob _ z
      obtain⟨D,_⟩:=t b _ z
      obtain⟨G,_⟩:=j b _ J
      rw[e] at D;cases D
      exact G
 cases hk:K.lookup a with
 |some o =>
  -- the script is one of the module's own objects
  have e:=KX a o hk
  rw[ha] at e
  cases e
  refine core (λ_=>none) (λ_ => .inl rfl) (.inr ⟨_,vs.toArray,_,hk,rfl,rfl,rfl,by rw[qf,g];exact hl,by simpa using E⟩) (λb u z=>by have l:(none:Option HO)=some u:=z;cases l) (λb z=>absurd rfl z) λz=>absurd rfl z
 |none =>
  refine core (λb=>if b=a then some (.frz {cls := .type "list", data := .seq vs.toArray} (.lst (ns.map V.int))) else none) (λb => ?_) (.inl (.inr ⟨{cls := .type "list", data := .seq vs.toArray},if_pos rfl⟩)) (λb u z => ?_) (λb z => ?_) λ_=>hk
  ·by_cases hb:b=a
   ·exact .inr ⟨_,_,if_pos hb⟩
   ·exact .inl (if_neg hb)
  ·by_cases hb:b=a
   ·have l:=(if_pos hb).symm.trans z
    cases l
    subst hb
    exact⟨ha,by rw[zLm];exact hl,vs,_,E,ha⟩
   ·have l:=(if_neg hb).symm.trans z
    cases l
  ·by_cases hb:b=a
   ·exact hb
   ·exact absurd (if_neg hb) z
theorem aN2{l:ni}{k:Nat}{q:Program}{XP:(Str->Option Value)->Heap->Prop}{d:DefRec}{K:xx->qh}{CX:World->CXT}{sp:World->Sp}(hn:l.most=some n)(hn2:n<=sizeLine)(hdf:d.params.defaults=[])(hr:Room k QF)(hY:∀(w:World) (h:Heap),YP w h->(K w.params).In h)(F:∀(w:World) (mg:Str->Option Value) (fa:Addr) (h:Heap),(K w.params).In h->h.Ns vn mg->mg d.name=some (.ref fa) ->
   ∃fd:FuncData,(∀(s:Shared) (u:Value),BindsTo s fd ⟨[u],[]⟩ [(x,u)]) /\
    ∀base:Heap,(K w.params).In base->base.Ns vn mg->FnOk l.prog w (K w.params) mg base (CX w) k fa fd [x] (sp w))(hsp:∀(w:World) (H:Hp) (a:Addr) (ns:List Int),ns.length<=n->Only H->SqL (K w.params) H a (ns.map V.int)->sp w [.ref a] H (λv _=>v = .bl true) λ_ _ _=>False)(hCX:∀(w:World) (H:Hp) (s:Shared) (e:Value) (s':Shared),CX w [] H s (λ_ _ _=>False) e s'->False):
  Km q loose XP YP l.row.toRowW d [] (λf vs=>JB f vs):=by
 refine Att.aCF hn hdf λw s₀ s₁ mg A fa o pm cd doc a vs ns G Y z hd t i c hints hlen j => ?_
 have KX:=hY w _ Y
 obtain⟨fd,p,m⟩:=F w mg fa _ KX G.T.g i
 exact aLM KX G.T.g G.T.b G.T.builtins G.T.nolimit j c hints (qq hlen hn2) hr m p (λH r y=>hsp w H a ns hlen r y) λH e s'=>hCX w H s₁ e s'
noncomputable def fQ(s:Stmt):Arguments:=match s with
 |.FunctionDef _ a _ _ _ _ _ _ _ _=>a
 |_=>{posonlyargs:=[],args:=[],vararg:=none,kwonlyargs:=[],kw_defaults:=[],kwarg:=none,defaults:=[]}
noncomputable def eF(s:Stmt):List Stmt:=match s with
 |.FunctionDef _ _ b _ _ _ _ _ _ _=>b
 |_=>[]
noncomputable def aM(s:Stmt):Scope:=match s with
 |.FunctionDef _ _ _ _ _ _ sc _ _ _=>sc
 |_=>{kind := .function,names:=[],isGenerator:=false,isCoroutine:=false}
abbrev CX0:CXT:=λ_ _ _ _ _ _=>False
abbrev E0:XK:=λ_ _ _=>False
theorem pass0:Passes CX0 X E0:=λ_ _ _ _ _ _ _ h=>h.elim
structure Fun(K:qh)(x qual:Str)(st:Stmt)(f:Addr)(fd:FuncData):Prop where
 ex:∃(oc:Value) (od:Option Addr) (kV doc pm:Value) (an:Option Addr) (cdv ct:Value) (osl:Array (Option Value)),
  fd=yg x qual (fQ st) (eF st) (aM st) .none kV doc pm an cdv ct/\K.lookup f=some ⟨oc,od, .func fd,osl⟩/\pk K cdv qual=true
 kp:bb K (.ref f)=true
section
variable {K:qh}
theorem Fun.ok{ps:List Str}{k:Nat}{sp:Sp}(F:Fun K x qual st f fd)(S:FnScope N ps (aM st))(len:∀vs H Q E,sp vs H Q E->vs.length=ps.length)(hbody:∀(cdv:Value) (A:Around) (outer:List Env) (s:Shared) (H:Hp) (vs:List V) (Q:VK) (E:XK),Room k (A.deeper (QB qual (aM st) s.heap.objs.size f cdv))->sp vs H Q E ->
   ∃t,PSs (uI CX0 P w K mg base N qual (aM st) f cdv A outer s H E).nox (eF st) t/\t {nx:=λ_ H'=>Q .non H',rt:=Q} (start N vs) H):FnOk P w K mg base CX0 (k+1) f fd ps sp:=by
 obtain⟨j,i,kV,doc,pm,an,cdv,g,d,rfl,e,b⟩:=F.ex
 refine aUY e b S len λA outer s H vs Q E c a => ?_
 obtain⟨t,h,q⟩:=hbody cdv A outer s H vs Q E c a
 exact⟨t,h.nox,q⟩
theorem Fun.binds{ps:List Str}(F:Fun K x qual st f fd)(h:∀(kV doc pm:Value) (an:Option Addr) (cdv ct:Value) (us:List Value),us.length=ps.length->KS (yg x qual (fQ st) (eF st) (aM st) .none kV doc pm an cdv ct) ⟨us,[]⟩=pure (ps.zip us)):Binds K fd ps []:=by
 obtain⟨e,d,kV,doc,pm,an,cdv,ct,b,rfl,c,a⟩:=F.ex
 exact .all (h kV doc pm an cdv ct)
theorem aRL{oc:Value}{an:Option Addr}{osl:Array (Option Value)}{kV doc pm cdv ct:Value}(l:K.lookup f=some ⟨oc,od, .func (yg x qual (fQ st) (eF st) (aM st) .none kV doc pm an cdv ct),osl⟩)(c:pk K cdv qual=true)(k:bb K (.ref f)=true):Fun K x qual st f (yg x qual (fQ st) (eF st) (aM st) .none kV doc pm an cdv ct):=⟨⟨oc,od,kV,doc,pm,an,cdv,ct,osl,rfl,l,c⟩,k⟩
end
section
theorem pv(i:Nat)(hN:X.N[i]?=some x:=by rfl)(hv:Vis X.env.scope x:=by first|exact QE rfl|exact QD (QE rfl)|exact QD (QD rfl))(hd:(x==("__debug__" : Str))=false:=by decide)(hcd:(x==("__classdict__" : Str))=false:=by decide):PE X (.Name x pos) (tVar i):=aHH hN hv hd hcd
end
theorem cL{A B:Prop}(h:B):if false=true then A else B:=by
 rw[if_neg zBf]
 exact h
theorem bF{A B:Prop}(h:A):if true=true then A else B:=by
 rw[if_pos rfl]
 exact h
theorem ite2{c A B:Prop}[Decidable c](h1:c->A)(h2:¬c->B):if c then A else B:=by
 by_cases h:c
 ·rw[if_pos h]
  exact h1 h
 ·rw[if_neg h]
  exact h2 h
noncomputable def Same(H H':Hp):Prop:=∀b o,H b=some o->H' b=some o
theorem Same.refl(H:Hp):Same H H:=λ_ _ h=>h
theorem Same.trans{H2:Hp}(a:Same H H1)(b:Same H1 H2):Same H H2:=λc o h=>b c o (a c o h)
theorem Same.free(e:Same H H'){l:Addr}(h:H' l=KY):H l=KY:=by
 cases q:H l with
 |none=>rfl
 |some o =>
  rw[e l o q] at h
  cases h
theorem Same.seq{K:qh}{xs:List V}(e:Same H H')(h:SqL K H a xs):SqL K H' a xs:=by
 rcases h with (h|⟨o,h⟩)|h
 ·exact .inl (.inl (e _ _ h))
 ·exact .inl (.inr ⟨o,e _ _ h⟩)
 ·exact .inr h
end L2
namespace HB
open PySem PySem.W
abbrev S(x:String)(k:Nat):Value := .str (ji x) k
abbrev R(a:Nat):Value := .ref a
abbrev I(a:Int):Value := .int a 0
abbrev J(a:Int)(k:Nat):Value := .int a k
abbrev E(P:xx)(x:String)(k:Nat)(v:Value):DictEntry:=⟨PyData.keyHash P (ji x), .str (ji x) k,v⟩
abbrev tO(l:List Value):Obj:=⟨.type "tuple", none, .seq l.toArray 0,#[]⟩
abbrev vO(l:List Value):Obj:=⟨.none,none, .fields l.toArray,#[]⟩
abbrev dO(l:List DictEntry)(n:Nat):Obj:=⟨.type "dict", none, .dict l.toArray n,#[]⟩
abbrev fO(n:String)(s:Stmt)(pm:Value)(cd:Nat):Obj:=⟨.type "function", none, .func {name:=ji n,qualname:=ji n,params:=L2.fQ s,body := .stmts (L2.eF s),scope:=L2.aM s,globals:=3,closure:=[],defaults := .none,kwdefaults := .none,doc := .none,pyModule:=pm,annotations:=none,code := .ref cd,closureTuple := .none,builtins:=0},#[]⟩
abbrev pO(n:String)(s:Stmt):Obj:=⟨.none,none, .func {name:=ji n,qualname:=ji n,params:=L2.fQ s,body := .stmts (L2.eF s),scope:=L2.aM s,globals:=0,closure:=[],defaults := .none,kwdefaults := .none,doc := .none,pyModule := .none,annotations:=none,code := .none,closureTuple := .none,builtins:=0},#[]⟩
abbrev cO(n f:String)(t1 t2 t3 l1 c1 c2 c3 c4 a1 a2 a3 a4 a5 t4 l2 t5:Nat)(b:Bool)(k:Nat):Obj:=⟨.type "code", none, .fields #[S n t1,S n t2,S f t3,I l1,I c1,I c2,I c3,I c4,R a1, .bool b,I k,R a2, .none,R a3,R a4,R a5,I t4,I l2,S f t5],#[]⟩
noncomputable def fl:String := "/claim/cut.py"
noncomputable def vs:Nat->List String->List Value
 |_,[]=>[]
 |k,x::xs => .str (ji x) k::vs (k+1) xs
noncomputable def D7(s:Stmt)(n:String)(b t l c:Nat)(ns:List String)(pm:Value):List Obj:=
 [tO [],vO [],tO (vs (t+3) ns),tO [],pO n s,cO n "/claim/cut.py" t (t+1) (t+2) l c 0 0 3 b (b+1) (b+2) (b+3) (b+4) (t+3+ns.length) l (t+4+ns.length) true 181,fO n s pm (b+5)]
noncomputable def ov{a:Type}:List (Nat×a)->List a->List a
 |[],l=>l
 | (i,x)::r,l=>ov r (l.set i x)
noncomputable def ev{a:Type}:Nat->List a->List a
 |0,_=>[]
 |_+1,[]=>[]
 |_+1,[x]=>[x]
 |n+1,x::_::r=>x::ev n r
noncomputable def bt:Nat->List Obj->BT
 |0,_ => .nil
 |_+1,[] => .nil
 |n+1,x::r => .node x (bt n (ev (2^n) r)) (bt n (ev (2^n) r.tail))
abbrev sh(h:Heap)(k:Nat)(os:zt):Shared:=⟨h,Array.mk [],{},k,os⟩
abbrev sT(t:BT)(n k:Nat)(os:zt):SharedT:=⟨t,n,{},Array.mk [],{},k,os⟩
abbrev ps(a b c d:Nat):Pos:=⟨a,b,c,d⟩
abbrev z:Pos:=⟨0,0,0,0⟩
abbrev B:List Frame:=[topFrame z]
theorem tZ:segRunT x6=VS xt:=by rw[VZ,wc]
theorem eGo:topGo x6=VP xt:=by rw[VV,wc]
theorem eSeg:segRun x6=VQ xt:=by rw[VW,wc]
theorem eTop:topRun x6=VR xt:=by rw[VX,wc]
end HB
namespace Q
open PySem
noncomputable def top(i:Nat):Stmt:=PySem.Challenge.pw_roofridges_k23_fronts_touched.main.body.getD i (.Pass ⟨0,0,0,0⟩)
abbrev lQ:Stmt:=top 6
abbrev fU:Stmt:=top 7
abbrev qA:Stmt:=top 8
abbrev lW:Stmt:=top 9
abbrev uV:Stmt:=top 10
abbrev rH:Stmt:=top 11
abbrev sA:Stmt:=top 12
abbrev u8:Stmt:=top 13
abbrev r9:Stmt:=top 14
abbrev p7:Stmt:=top 15
abbrev nL:Stmt:=top 16
abbrev o8:Stmt:=top 20
abbrev lX:Stmt:=top 21
abbrev pX:Stmt:=top 22
abbrev n6:Stmt:=top 23
abbrev nD:Stmt:=top 24
abbrev o9:Stmt:=top 25
abbrev pW:Stmt:=top 26
abbrev gE:Stmt:=top 27
abbrev fL:Stmt:=top 28
abbrev uM:Stmt:=top 29
abbrev lE:Stmt:=top 30
abbrev lD:Stmt:=top 31
abbrev wC:Stmt:=top 32
abbrev nX:Stmt:=top 34
abbrev vS:Stmt:=top 35
abbrev kL:Stmt:=top 36
abbrev rS:Stmt:=top 37
abbrev kF:Stmt:=top 38
abbrev vT:Stmt:=top 40
abbrev nK:Stmt:=top 41
abbrev lC:Stmt:=top 42
abbrev p9:Stmt:=top 43
abbrev kD:Stmt:=top 44
abbrev nE:Stmt:=top 45
abbrev lR:Stmt:=top 46
abbrev nS:Stmt:=top 47
abbrev kB:Stmt:=top 49
abbrev zB:Stmt:=top 51
abbrev wD:Stmt:=top 52
abbrev sD:Stmt:=top 53
abbrev rQ:Stmt:=top 54
abbrev sO:Stmt:=top 55
abbrev pM:Stmt:=top 56
abbrev sI:Stmt:=top 57
abbrev rR:Stmt:=top 58
abbrev nN:Stmt:=top 59
abbrev vB:Stmt:=top 60
abbrev rW:Stmt:=top 61
abbrev zC:Stmt:=top 62
abbrev lH:Stmt:=top 63
abbrev pL:Stmt:=top 64
abbrev yW:Stmt:=top 65
abbrev sN:Stmt:=top 66
abbrev sE:Stmt:=top 67
end Q
namespace HD
open PySem PySem.W HB Q
noncomputable section
abbrev zS0:Value:=S "law_roofridges_k23_fronts_touched" 577
abbrev zS1:Value:=S "roofridges.yards" 333
abbrev zS2:Value:=S "roofridges.fractions" 239
abbrev zS3:Value:=S "roofridges.heights" 483
abbrev zS4:Value:=S "roofridges.fronts" 428
abbrev zS5:Value:=S "roofridges.errors" 187
noncomputable def es3(P:xx):List DictEntry:=[E P "__name__" 165 HD.zS0,E P "__doc__" 166 .none,E P "__package__" 167 .none,E P "__loader__" 168 (.builtin "__main__.__loader__#opaque"),E P "__spec__" 169 .none,E P "__annotations__" 170 (R 6),E P "__builtins__" 171 (R 4),E P "__file__" 173 (172).17,E P "__cached__" 174 .none,E P "RoofError" 206 (R 24),E P "NoNumber" 222 (R 37),E P "NoYard" 238 (R 49),E P "NOUGHT" 243 (R 52),E P "is_whole" 250 (R 59),E P "common_divisor" 259 (R 66),E P "lowest" 268 (R 73),E P "fraction" 276 (R 80),E P "plus" 284 (R 87),E P "minus" 292 (R 94),E P "times" 300 (R 101),E P "over" 308 (R 108),E P "under" 316 (R 115),E P "lesser" 324 (R 122),E P "greater" 332 (R 129),E P "MOST_LINES" 336 (J 7 335),E P "FARTHEST" 338 (J 1000000000 337),E P "is_row" 344 (R 134),E P "rows_fit" 350 (R 139),E P "column" 356 (R 144),E P "columns" 362 (R 149),E P "changes" 368 (R 154),E P "picked" 374 (R 159),E P "tidied" 380 (R 164),E P "is_whole_line" 387 (R 171),E P "are_whole_lines" 393 (R 176),E P "made" 399 (R 181),E P "bands_at" 405 (R 186),E P "has_cell" 415 (R 193),E P "lies" 427 (R 200),E P "is_edge" 441 (R 207),E P "runs" 452 (R 214),E P "stretches" 458 (R 219),E P "sides" 472 (R 226),E P "fronts_of" 482 (R 233),E P "gone" 492 (R 240),E P "time_to" 500 (R 247),E P "times_to" 514 (R 254),E P "height" 531 (R 261),E P "box_edges" 541 (R 268),E P "touches" 551 (R 275),E P "touching" 557 (R 280),E P "touched" 568 (R 287),E P "stretched" 576 (R 292),E P "_law_pen" 585 (R 299),E P "_law_draw" 597 (R 306),E P "_law_lines" 607 (R 313),E P "_law_signs" 613 (R 318),E P "_law_paces" 621 (R 325),E P "_law_number" 631 (R 332),E P "_law_along" 643 (R 339),E P "_law_point" 653 (R 346),E P "_law_outside" 659 (R 351),E P "_law_high" 665 (R 356),E P "_law_units" 671 (R 361),E P "_law_box" 677 (R 366),E P "_law_touches" 692 (R 373),E P "_law_is_out" 707 (R 380),E P "_law_due" 713 (R 385),E P "_law_right" 719 (R 390),E P "law" 732 (R 397)]
noncomputable def es12:List Value:=[(I 2),(I 0),(R 20),(I 4),(I 0),(R 33),(I 6),(I 0),(R 45),(I 10),(I 0),(R 58),(I 12),(I 0),(R 65),(I 18),(I 0),(R 72),(I 23),(I 0),(R 79),(I 29),(I 0),(R 86),(I 31),(I 0),(R 93),(I 33),(I 0),(R 100),(I 35),(I 0),(R 107),(I 39),(I 0),(R 114),(I 41),(I 0),(R 121),(I 43),(I 0),(R 128),(I 48),(I 0),(R 133),(I 52),(I 0),(R 138),(I 56),(I 0),(R 143),(I 58),(I 0),(R 148),(I 61),(I 0),(R 153),(I 67),(I 0),(R 158),(I 69),(I 0),(R 163),(I 74),(I 0),(R 170),(I 76),(I 0),(R 175),(I 82),(I 0),(R 180),(I 88),(I 0),(R 185),(I 93),(I 0),(R 192),(I 98),(I 0),(R 199),(I 109),(I 0),(R 206),(I 119),(I 0),(R 213),(I 129),(I 0),(R 218),(I 132),(I 0),(R 225),(I 140),(I 0),(R 232),(I 148),(I 0),(R 239),(I 150),(I 0),(R 246),(I 152),(I 0),(R 253),(I 160),(I 0),(R 260),(I 171),(I 0),(R 267),(I 173),(I 0),(R 274),(I 177),(I 0),(R 279),(I 179),(I 0),(R 286),(I 183),(I 0),(R 291),(I 188),(I 0),(R 298),(I 190),(I 0),(R 305),(I 206),(I 0),(R 312),(I 213),(I 0),(R 317),(I 216),(I 0),(R 324),(I 221),(I 0),(R 331),(I 227),(I 0),(R 338),(I 236),(I 0),(R 345),(I 239),(I 0),(R 350),(I 251),(I 0),(R 355),(I 257),(I 0),(R 360),(I 270),(I 0),(R 365),(I 275),(I 0),(R 372),(I 282),(I 0),(R 379),(I 290),(I 0),(R 384),(I 297),(I 0),(R 389),(I 313),(I 0),(R 396)]
noncomputable def hl0(P:xx):List Obj:=[boot_o_0 P]++[boot_o_1 P]++[boot_o_2 P]++[dO (es3 P) 70]++[boot_o_4 P]++[boot_o_5 P]++[boot_o_6 P]++[boot_o_7 P]++[boot_o_8 P]++[boot_o_9 P]++[boot_o_10 P]++[tO []]
noncomputable def hl1(P:xx):List Obj:=[vO es12]++[⟨.type "code", none, .fields #[(S "<module>" 182),(S "<module>" 183),(184).17,(I 1),(I 0),(I 0),(I 0),(I 0),(R 11),(.bool false),(I 181),(R 12), .none, .none, .none, .none,(I 185),(I 1),(186).17],#[]⟩]++[⟨(.type "frame"),none, .plain,#[some (R 13),some (R 3),some (R 3),none,some (S "__main__" 164),none,some (R 0)]⟩]++[tO [(.type "ValueError")]]++[⟨(.type "builtin_function_or_method"),none, .fields #[(.builtin "type.__prepare__"),(.type "type")],#[]⟩]++[dO [E P "__module__" 196 HD.zS5,E P "__qualname__" 198 (S "RoofError" 197),E P "__firstlineno__" 200 (J 2 199),E P "__static_attributes__" 201 (R 22)] 4]++[tO []]++[vO []]++[⟨.type "code", none, .fields #[(S "RoofError" 191),(S "RoofError" 192),(193).17,(I 2),(I 0),(I 0),(I 0),(I 0),(R 18),(.bool false),(I 181),(R 19), .none, .none, .none, .none,(I 194),(I 2),(195).17],#[]⟩]++[⟨(.type "frame"),none, .plain,#[some (R 20),some (R 3),some (R 17),none,some HD.zS5,none,some (R 0)]⟩]++[tO []]++[dO [E P "__module__" 196 HD.zS5,E P "__firstlineno__" 200 (J 2 199),E P "__static_attributes__" 201 (R 22),E P "__weakref__" 203 (R 25),E P "__doc__" 204 .none] 3]
noncomputable def hl2(P:xx):List Obj:=[⟨(.type "type"),none, .cls {name := "RoofError", bases:=[(.type "ValueError")],mro:=[(R 24),(.type "ValueError"),(.type "Exception"),(.type "BaseException"),(.type "object")],ns:=23,qualname := "RoofError", hasDict:=true,slotNames:=[],subclasses:=[(R 37),(R 49)],abstract:=false,collection:=none,hasDel:=false},#[some (R 15),none,some (S "RoofError" 189),some (S "RoofError" 197),some (.builtin "ValueError.__new__"),some (.bool true)]⟩]++[⟨(.type "getset_descriptor"),none, .fields #[(S "__weakref__" 202),(R 24),(.builtin "ExceptionGroup.__weakref__"), .none],#[]⟩]++[⟨(.type "super"),none, .fields #[(R 24),(R 24),(R 24)],#[]⟩]++[⟨(.type "builtin_function_or_method"),none, .fields #[(.builtin "object.__init_subclass__"),(R 24)],#[]⟩]++[tO [(R 24)]]++[⟨(.type "builtin_function_or_method"),none, .fields #[(.builtin "type.__prepare__"),(.type "type")],#[]⟩]++[dO [E P "__module__" 214 HD.zS5,E P "__qualname__" 216 (S "NoNumber" 215),E P "__firstlineno__" 218 (J 4 217),E P "__static_attributes__" 219 (R 35)] 4]++[tO []]++[vO []]++[⟨.type "code", none, .fields #[(S "NoNumber" 209),(S "NoNumber" 210),(211).17,(I 4),(I 0),(I 0),(I 0),(I 0),(R 31),(.bool false),(I 181),(R 32), .none, .none, .none, .none,(I 212),(I 4),(213).17],#[]⟩]++[⟨(.type "frame"),none, .plain,#[some (R 33),some (R 3),some (R 30),none,some HD.zS5,none,some (R 0)]⟩]++[tO []]
noncomputable def hl3(P:xx):List Obj:=[dO [E P "__module__" 214 HD.zS5,E P "__firstlineno__" 218 (J 4 217),E P "__static_attributes__" 219 (R 35),E P "__doc__" 220 .none] 2]++[⟨(.type "type"),none, .cls {name := "NoNumber", bases:=[(R 24)],mro:=[(R 37),(R 24),(.type "ValueError"),(.type "Exception"),(.type "BaseException"),(.type "object")],ns:=36,qualname := "NoNumber", hasDict:=true,slotNames:=[],subclasses:=[],abstract:=false,collection:=none,hasDel:=false},#[some (R 28),none,some (S "NoNumber" 207),some (S "NoNumber" 215),some (.builtin "ValueError.__new__"),some (.bool true)]⟩]++[⟨(.type "super"),none, .fields #[(R 37),(R 37),(R 37)],#[]⟩]++[⟨(.type "builtin_function_or_method"),none, .fields #[(.builtin "object.__init_subclass__"),(R 37)],#[]⟩]++[tO [(R 24)]]++[⟨(.type "builtin_function_or_method"),none, .fields #[(.builtin "type.__prepare__"),(.type "type")],#[]⟩]++[dO [E P "__module__" 230 HD.zS5,E P "__qualname__" 232 (S "NoYard" 231),E P "__firstlineno__" 234 (J 6 233),E P "__static_attributes__" 235 (R 47)] 4]++[tO []]++[vO []]++[⟨.type "code", none, .fields #[(S "NoYard" 225),(S "NoYard" 226),(227).17,(I 6),(I 0),(I 0),(I 0),(I 0),(R 43),(.bool false),(I 181),(R 44), .none, .none, .none, .none,(I 228),(I 6),(229).17],#[]⟩]++[⟨(.type "frame"),none, .plain,#[some (R 45),some (R 3),some (R 42),none,some HD.zS5,none,some (R 0)]⟩]++[tO []]
noncomputable def hl4(P:xx):List Obj:=[dO [E P "__module__" 230 HD.zS5,E P "__firstlineno__" 234 (J 6 233),E P "__static_attributes__" 235 (R 47),E P "__doc__" 236 .none] 2]++[⟨(.type "type"),none, .cls {name := "NoYard", bases:=[(R 24)],mro:=[(R 49),(R 24),(.type "ValueError"),(.type "Exception"),(.type "BaseException"),(.type "object")],ns:=48,qualname := "NoYard", hasDict:=true,slotNames:=[],subclasses:=[],abstract:=false,collection:=none,hasDel:=false},#[some (R 40),none,some (S "NoYard" 223),some (S "NoYard" 231),some (.builtin "ValueError.__new__"),some (.bool true)]⟩]++[⟨(.type "super"),none, .fields #[(R 49),(R 49),(R 49)],#[]⟩]++[⟨(.type "builtin_function_or_method"),none, .fields #[(.builtin "object.__init_subclass__"),(R 49)],#[]⟩]++[tO [(J 0 241),(J 1 242)]]++D7 (6).9 "is_whole" 53 244 10 1 ["thing"] HD.zS2++D7 (7).9 "common_divisor" 60 251 12 2 ["one", "other", "rest"] HD.zS2++D7 (8).9 "lowest" 67 260 18 2 ["top", "bottom", "divisor"] HD.zS2++D7 (9).9 "fraction" 74 269 23 2 ["top", "bottom"] HD.zS2++D7 (10).9 "plus" 81 277 29 2 ["one", "other"] HD.zS2++D7 (11).9 "minus" 88 285 31 2 ["one", "other"] HD.zS2++D7 (12).9 "times" 95 293 33 2 ["one", "other"] HD.zS2
noncomputable def hl5(P:xx):List Obj:=D7 (13).9 "over" 102 301 35 2 ["one", "other"] HD.zS2++D7 (14).9 "under" 109 309 39 2 ["one", "other"] HD.zS2++D7 (15).9 "lesser" 116 317 41 2 ["one", "other"] HD.zS2++D7 (16).9 "greater" 123 325 43 2 ["one", "other"] HD.zS2++[tO []]++[vO []]++[pO "is_row" (20).9]++[⟨.type "code", none, .fields #[(S "is_row" 339),(S "is_row" 340),(341).17,(I 48),(I 2),(I 0),(I 0),(I 3),(R 130),(.bool true),(I 181),(R 131), .none, .none, .none,(R 132),(I 342),(I 48),(343).17],#[]⟩]++[fO "is_row" (20).9 HD.zS1 133]++[tO []]++[vO []]++[pO "rows_fit" (21).9]
noncomputable def hl6(P:xx):List Obj:=[⟨.type "code", none, .fields #[(S "rows_fit" 345),(S "rows_fit" 346),(347).17,(I 52),(I 3),(I 0),(I 0),(I 3),(R 135),(.bool true),(I 181),(R 136), .none, .none, .none,(R 137),(I 348),(I 52),(349).17],#[]⟩]++[fO "rows_fit" (21).9 HD.zS1 138]++[tO []]++[vO []]++[pO "column" (22).9]++[⟨.type "code", none, .fields #[(S "column" 351),(S "column" 352),(353).17,(I 56),(I 2),(I 0),(I 0),(I 3),(R 140),(.bool true),(I 181),(R 141), .none, .none, .none,(R 142),(I 354),(I 56),(355).17],#[]⟩]++[fO "column" (22).9 HD.zS1 143]++[tO []]++[vO []]++[pO "columns" (23).9]++[⟨.type "code", none, .fields #[(S "columns" 357),(S "columns" 358),(359).17,(I 58),(I 1),(I 0),(I 0),(I 3),(R 145),(.bool true),(I 181),(R 146), .none, .none, .none,(R 147),(I 360),(I 58),(361).17],#[]⟩]++[fO "columns" (23).9 HD.zS1 148]
noncomputable def hl7(P:xx):List Obj:=[tO []]++[vO []]++[pO "changes" (24).9]++[⟨.type "code", none, .fields #[(S "changes" 363),(S "changes" 364),(365).17,(I 61),(I 1),(I 0),(I 0),(I 3),(R 150),(.bool true),(I 181),(R 151), .none, .none, .none,(R 152),(I 366),(I 61),(367).17],#[]⟩]++[fO "changes" (24).9 HD.zS1 153]++[tO []]++[vO []]++[pO "picked" (25).9]++[⟨.type "code", none, .fields #[(S "picked" 369),(S "picked" 370),(371).17,(I 67),(I 2),(I 0),(I 0),(I 3),(R 155),(.bool true),(I 181),(R 156), .none, .none, .none,(R 157),(I 372),(I 67),(373).17],#[]⟩]++[fO "picked" (25).9 HD.zS1 158]++[tO []]++[vO []]
noncomputable def hl8(P:xx):List Obj:=[pO "tidied" (26).9]++[⟨.type "code", none, .fields #[(S "tidied" 375),(S "tidied" 376),(377).17,(I 69),(I 3),(I 0),(I 0),(I 3),(R 160),(.bool true),(I 181),(R 161), .none, .none, .none,(R 162),(I 378),(I 69),(379).17],#[]⟩]++[fO "tidied" (26).9 HD.zS1 163]++D7 (27).9 "is_whole_line" 165 381 74 1 ["thing"] HD.zS1++[tO []]++[vO []]++[pO "are_whole_lines" (28).9]++[⟨.type "code", none, .fields #[(S "are_whole_lines" 388),(S "are_whole_lines" 389),(390).17,(I 76),(I 1),(I 0),(I 0),(I 3),(R 172),(.bool true),(I 181),(R 173), .none, .none, .none,(R 174),(I 391),(I 76),(392).17],#[]⟩]++[fO "are_whole_lines" (28).9 HD.zS1 175]++[tO []]++[vO []]++[pO "made" (29).9]
noncomputable def hl9(P:xx):List Obj:=[⟨.type "code", none, .fields #[(S "made" 394),(S "made" 395),(396).17,(I 82),(I 3),(I 0),(I 0),(I 3),(R 177),(.bool true),(I 181),(R 178), .none, .none, .none,(R 179),(I 397),(I 82),(398).17],#[]⟩]++[fO "made" (29).9 HD.zS1 180]++[tO []]++[vO []]++[pO "bands_at" (30).9]++[⟨.type "code", none, .fields #[(S "bands_at" 400),(S "bands_at" 401),(402).17,(I 88),(I 2),(I 0),(I 0),(I 3),(R 182),(.bool true),(I 181),(R 183), .none, .none, .none,(R 184),(I 403),(I 88),(404).17],#[]⟩]++[fO "bands_at" (30).9 HD.zS1 185]++D7 (31).9 "has_cell" 187 406 93 3 ["yard", "across", "up", "rows"] HD.zS1++D7 (32).9 "lies" 194 416 98 3 ["yard", "x", "y", "cells", "up", "across"] HD.zS1++D7 (34).9 "is_edge" 201 430 109 4 ["yard", "facing", "place", "band", "beyond", "before"] HD.zS4++D7 (35).9 "runs" 208 442 119 1 ["truths", "told", "begin", "place", "truth"] HD.zS4++[tO []]
noncomputable def hl10(P:xx):List Obj:=[vO []]++[pO "stretches" (36).9]++[⟨.type "code", none, .fields #[(S "stretches" 453),(S "stretches" 454),(455).17,(I 129),(I 3),(I 0),(I 0),(I 3),(R 215),(.bool true),(I 181),(R 216), .none, .none, .none,(R 217),(I 456),(I 129),(457).17],#[]⟩]++[fO "stretches" (36).9 HD.zS4 218]++D7 (37).9 "sides" 220 459 132 1 ["yard", "told", "facing", "along", "place", "line", "begin", "end"] HD.zS4++D7 (38).9 "fronts_of" 227 473 140 1 ["sorted_sides", "told", "side", "front"] HD.zS4++D7 (40).9 "gone" 234 485 148 2 ["pace", "time"] HD.zS3++D7 (41).9 "time_to" 241 493 150 2 ["way", "pace"] HD.zS3++D7 (42).9 "times_to" 248 501 152 4 ["lines", "where", "down", "up", "told", "place", "from_above", "from_below"] HD.zS3++D7 (43).9 "height" 255 515 160 4 ["yard", "paces", "x", "y", "across_times", "up_times", "told", "up", "up_time", "across", "across_time"] HD.zS3++D7 (44).9 "box_edges" 262 532 171 4 ["paces", "x", "y", "time"] HD.zS3++D7 (45).9 "touches" 269 542 173 2 ["side", "edges", "low", "high"] HD.zS3
noncomputable def hl11(P:xx):List Obj:=[tO []]++[vO []]++[pO "touching" (46).9]++[⟨.type "code", none, .fields #[(S "touching" 552),(S "touching" 553),(554).17,(I 177),(I 2),(I 0),(I 0),(I 3),(R 276),(.bool true),(I 181),(R 277), .none, .none, .none,(R 278),(I 555),(I 177),(556).17],#[]⟩]++[fO "touching" (46).9 HD.zS3 279]++D7 (47).9 "touched" 281 558 179 4 ["yard", "paces", "x", "y", "edges"] HD.zS3++[tO []]++[vO []]++[pO "stretched" (49).9]++[⟨.type "code", none, .fields #[(S "stretched" 571),(S "stretched" 572),(573).17,(I 183),(I 3),(I 0),(I 0),(I 3),(R 288),(.bool true),(I 181),(R 289), .none, .none, .none,(R 290),(I 574),(I 183),(575).17],#[]⟩]++[fO "stretched" (49).9 (S "roofridges.moves" 569) 291]++D7 (51).9 "_law_pen" 293 579 188 1 ["_law_script"] HD.zS0
noncomputable def hl12(P:xx):List Obj:=D7 (52).9 "_law_draw" 300 586 190 2 ["_law_pen_here", "_law_many", "_law_digit", "_law_place", "_law_cell", "_law_mixed"] HD.zS0++D7 (53).9 "_law_lines" 307 598 206 2 ["_law_pen_here", "_law_gap", "_law_lines_here", "_law_k"] HD.zS0++[tO []]++[vO []]++[pO "_law_signs" (54).9]++[⟨.type "code", none, .fields #[(S "_law_signs" 608),(S "_law_signs" 609),(610).17,(I 213),(I 3),(I 0),(I 0),(I 3),(R 314),(.bool true),(I 181),(R 315), .none, .none, .none,(R 316),(I 611),(I 213),(612).17],#[]⟩]++[fO "_law_signs" (54).9 HD.zS0 317]++D7 (55).9 "_law_paces" 319 614 216 1 ["_law_pen_here", "_law_one"] HD.zS0++D7 (56).9 "_law_number" 326 622 221 2 ["_law_upper", "_law_bottom", "_law_one", "_law_other"] HD.zS0++D7 (57).9 "_law_along" 333 632 227 3 ["_law_pen_here", "_law_lines_here", "_law_bottom", "_law_k", "_law_way", "_law_other"] HD.zS0++D7 (58).9 "_law_point" 340 644 236 3 ["_law_pen_here", "_law_xs", "_law_ys", "_law_bottom"] HD.zS0++[tO []]
noncomputable def hl13(P:xx):List Obj:=[vO []]++[pO "_law_outside" (59).9]++[⟨.type "code", none, .fields #[(S "_law_outside" 654),(S "_law_outside" 655),(656).17,(I 239),(I 4),(I 0),(I 0),(I 3),(R 347),(.bool true),(I 181),(R 348), .none, .none, .none,(R 349),(I 657),(I 239),(658).17],#[]⟩]++[fO "_law_outside" (59).9 HD.zS0 350]++[tO []]++[vO []]++[pO "_law_high" (60).9]++[⟨.type "code", none, .fields #[(S "_law_high" 660),(S "_law_high" 661),(662).17,(I 251),(I 3),(I 0),(I 0),(I 3),(R 352),(.bool true),(I 181),(R 353), .none, .none, .none,(R 354),(I 663),(I 251),(664).17],#[]⟩]++[fO "_law_high" (60).9 HD.zS0 355]++[tO []]++[vO []]++[pO "_law_units" (61).9]
noncomputable def hl14(P:xx):List Obj:=[⟨.type "code", none, .fields #[(S "_law_units" 666),(S "_law_units" 667),(668).17,(I 257),(I 3),(I 0),(I 0),(I 3),(R 357),(.bool true),(I 181),(R 358), .none, .none, .none,(R 359),(I 669),(I 257),(670).17],#[]⟩]++[fO "_law_units" (61).9 HD.zS0 360]++[tO []]++[vO []]++[pO "_law_box" (62).9]++[⟨.type "code", none, .fields #[(S "_law_box" 672),(S "_law_box" 673),(674).17,(I 270),(I 3),(I 0),(I 0),(I 3),(R 362),(.bool true),(I 181),(R 363), .none, .none, .none,(R 364),(I 675),(I 270),(676).17],#[]⟩]++[fO "_law_box" (62).9 HD.zS0 365]++D7 (63).9 "_law_touches" 367 678 275 2 ["_law_box_here", "_law_unit", "_law_facing", "_law_line", "_law_begin", "_law_end", "_law_scale", "_law_first", "_law_last"] HD.zS0++D7 (64).9 "_law_is_out" 374 693 282 4 ["_law_xs", "_law_ys", "_law_signs_here", "_law_point_here", "_law_x", "_law_y", "_law_bottom", "_law_j", "_law_k"] HD.zS0++[tO []]++[vO []]++[pO "_law_due" (65).9]
noncomputable def hl15(P:xx):List Obj:=[⟨.type "code", none, .fields #[(S "_law_due" 708),(S "_law_due" 709),(710).17,(I 290),(I 5),(I 0),(I 0),(I 3),(R 381),(.bool true),(I 181),(R 382), .none, .none, .none,(R 383),(I 711),(I 290),(712).17],#[]⟩]++[fO "_law_due" (65).9 HD.zS0 384]++[tO []]++[vO []]++[pO "_law_right" (66).9]++[⟨.type "code", none, .fields #[(S "_law_right" 714),(S "_law_right" 715),(716).17,(I 297),(I 5),(I 0),(I 0),(I 3),(R 386),(.bool true),(I 181),(R 387), .none, .none, .none,(R 388),(I 717),(I 297),(718).17],#[]⟩]++[fO "_law_right" (66).9 HD.zS0 389]++D7 (67).9 "law" 391 720 313 1 ["_law_script", "_law_pen_here", "_law_turn", "_law_gap", "_law_xs", "_law_ys", "_law_signs_here"] HD.zS0
noncomputable def hl(P:xx):List Obj:=hl0 P++hl1 P++hl2 P++hl3 P++hl4 P++hl5 P++hl6 P++hl7 P++hl8 P++hl9 P++hl10 P++hl11 P++hl12 P++hl13 P++hl14 P++hl15 P
noncomputable def hA(P:xx):Heap:=⟨Array.mk (ov [(3,boot_o_3 P),(12,vO (es12.take 0))] ((hl P).take 15)),{}⟩
noncomputable def env:Env:={scope:=PySem.Challenge.pw_roofridges_k23_fronts_touched.main.scope,locals:=mainNs,globals:=mainNs,cells:=[],code:=(R 13),frame:=some 14}
abbrev p:Program:=PySem.Challenge.rw_roofridges_k23_fronts_touched.row.toRowW.1
abbrev bE:List Stmt:=behindTheImports p
abbrev cE:Code := .body bE env
theorem pre(w:World)(os:zt):topGo x6 p w 11 (some (R 6)) 12 ⟨boot_heap w.params,Array.mk [],boot_drawn,boot_toks,os⟩ (topStub p)=some (sh (hA w.params) 187 os,⟨denote x6 cE,cE,(ps 0 0 0 0),B⟩):=by rw[eGo,VY,wc];kernel_rfl!
noncomputable def t0(P:xx):BT:=bt 14 (ov [(3,boot_o_3 P),(12,vO (es12.take 0))] ((hl P).take 15))
theorem block(w:World)(os:zt):segRun x6 p w 11 (some (R 6)) 1 1 (sh (hA w.params) 187 os) (blockOf bE env cE (ps 0 0 0 0) B)=some (.next,(sT (t0 w.params) 15 187 os).abs,cE,(ps 0 0 0 0)):=by rw[eSeg];kernel_rfl!
noncomputable def t1(P:xx):BT:=bt 14 (ov [(3,dO (ov [(0,E P "__name__" 165 HD.zS5)] ((es3 P).take 10)) 10),(12,vO (es12.take 3)),(24,⟨(.type "type"),none, .cls {name := "RoofError", bases:=[(.type "ValueError")],mro:=[(R 24),(.type "ValueError"),(.type "Exception"),(.type "BaseException"),(.type "object")],ns:=23,qualname := "RoofError", hasDict:=true,slotNames:=[],subclasses:=[],abstract:=false,collection:=none,hasDel:=false},#[some (R 15),none,some (S "RoofError" 189),some (S "RoofError" 197),some (.builtin "ValueError.__new__"),some (.bool true)]⟩)] ((hl P).take 28))
noncomputable def g1:List Stmt:=[Q.top 0,Q.top 1]
theorem r1(w:World)(os:zt):segRunT x6 p w 11 (some (R 6)) 1 196 (sT (t0 w.params) 15 187 os) (piecesOf g1 env cE (ps 0 0 0 0) B)=some (.next,sT (t1 w.params) 28 207 os,cE,(ps 2 0 3 8)):=by rw[tZ];kernel_rfl!
noncomputable def t2(P:xx):BT:=bt 14 (ov [(3,dO (ov [(0,E P "__name__" 165 HD.zS5)] ((es3 P).take 11)) 11),(12,vO (es12.take 6)),(24,⟨(.type "type"),none, .cls {name := "RoofError", bases:=[(.type "ValueError")],mro:=[(R 24),(.type "ValueError"),(.type "Exception"),(.type "BaseException"),(.type "object")],ns:=23,qualname := "RoofError", hasDict:=true,slotNames:=[],subclasses:=[(R 37)],abstract:=false,collection:=none,hasDel:=false},#[some (R 15),none,some (S "RoofError" 189),some (S "RoofError" 197),some (.builtin "ValueError.__new__"),some (.bool true)]⟩)] ((hl P).take 40))
noncomputable def g2:List Stmt:=[Q.top 2]
theorem r2(w:World)(os:zt):segRunT x6 p w 11 (some (R 6)) 1 214 (sT (t1 w.params) 28 207 os) (piecesOf g2 env cE (ps 2 0 3 8) B)=some (.next,sT (t2 w.params) 40 223 os,cE,(ps 4 0 5 8)):=by rw[tZ];kernel_rfl!
noncomputable def t3(P:xx):BT:=bt 14 (ov [(3,dO (ov [(0,E P "__name__" 165 HD.zS2)] ((es3 P).take 18)) 18),(12,vO (es12.take 24))] ((hl P).take 88))
noncomputable def g3:List Stmt:=[Q.top 3,Q.top 4,Q.top 5,Q.top 6,Q.top 7,Q.top 8,Q.top 9,Q.top 10]
theorem r3(w:World)(os:zt):segRunT x6 p w 11 (some (R 6)) 1 386 (sT (t2 w.params) 40 223 os) (piecesOf g3 env cE (ps 4 0 5 8) B)=some (.next,sT (t3 w.params) 88 285 os,cE,(ps 29 0 30 75)):=by rw[tZ];kernel_rfl!
noncomputable def t4(P:xx):BT:=bt 14 (ov [(3,dO (ov [(0,E P "__name__" 165 HD.zS1)] ((es3 P).take 33)) 33),(12,vO (es12.take 63))] ((hl P).take 165))
noncomputable def g4:List Stmt:=[Q.top 11,Q.top 12,Q.top 13,Q.top 14,Q.top 15,Q.top 16,Q.top 17,Q.top 18,Q.top 19,Q.top 20,Q.top 21,Q.top 22,Q.top 23,Q.top 24,Q.top 25,Q.top 26]
theorem r4(w:World)(os:zt):segRunT x6 p w 11 (some (R 6)) 1 390 (sT (t3 w.params) 88 285 os) (piecesOf g4 env cE (ps 29 0 30 75) B)=some (.next,sT (t4 w.params) 165 381 os,cE,(ps 69 0 73 102)):=by rw[tZ];kernel_rfl!
noncomputable def t5(P:xx):BT:=bt 14 (ov [(3,dO (ov [(0,E P "__name__" 165 HD.zS3)] ((es3 P).take 45)) 45),(12,vO (es12.take 99))] ((hl P).take 241))
noncomputable def g5:List Stmt:=[Q.top 27,Q.top 28,Q.top 29,Q.top 30,Q.top 31,Q.top 32,Q.top 33,Q.top 34,Q.top 35,Q.top 36,Q.top 37,Q.top 38,Q.top 39,Q.top 40]
theorem r5(w:World)(os:zt):segRunT x6 p w 11 (some (R 6)) 1 383 (sT (t4 w.params) 165 381 os) (piecesOf g5 env cE (ps 69 0 73 102) B)=some (.next,sT (t5 w.params) 241 493 os,cE,(ps 148 0 149 41)):=by rw[tZ];kernel_rfl!
noncomputable def t6(P:xx):BT:=bt 14 (ov [(3,dO (ov [] ((es3 P).take 57)) 57),(12,vO (es12.take 135))] ((hl P).take 319))
noncomputable def g6:List Stmt:=[Q.top 41,Q.top 42,Q.top 43,Q.top 44,Q.top 45,Q.top 46,Q.top 47,Q.top 48,Q.top 49,Q.top 50,Q.top 51,Q.top 52,Q.top 53,Q.top 54]
theorem r6(w:World)(os:zt):segRunT x6 p w 11 (some (R 6)) 1 394 (sT (t5 w.params) 241 493 os) (piecesOf g6 env cE (ps 148 0 149 41) B)=some (.next,sT (t6 w.params) 319 614 os,cE,(ps 213 0 215 127)):=by rw[tZ];kernel_rfl!
noncomputable def t7(P:xx):BT:=bt 14 (ov [] ((hl P).take 398))
noncomputable def g7:List Stmt:=[Q.top 55,Q.top 56,Q.top 57,Q.top 58,Q.top 59,Q.top 60,Q.top 61,Q.top 62,Q.top 63,Q.top 64,Q.top 65,Q.top 66,Q.top 67]
theorem r7(w:World)(os:zt):segRunT x6 p w 11 (some (R 6)) 1 394 (sT (t6 w.params) 319 614 os) (piecesOf g7 env cE (ps 213 0 215 127) B)=some (.next,sT (t7 w.params) 398 733 os,cE,(ps 313 0 322 68)):=by rw[tZ];kernel_rfl!
noncomputable def hZ(P:xx):Heap:=⟨Array.mk (hl P),{}⟩
theorem fin(w:World)(os:zt):topRun x6 p w 11 (some (R 6)) 2 (sT (t7 w.params) 398 733 os).abs ⟨doneF .next,cE,(ps 313 0 322 68),B⟩=some (sh (hZ w.params) 733 os):=by rw[eTop];kernel_rfl!
theorem body:bE=g1++(g2++(g3++(g4++(g5++(g6++(g7++([]))))))):=by kernel_rfl!
theorem chain(w:World)(os:zt):topRun x6 p w 11 (some (R 6)) (196+(214+(386+(390+(383+(394+(394+(2)))))))) (sT (t0 w.params) 15 187 os).abs (restOf (g1++(g2++(g3++(g4++(g5++(g6++(g7++([])))))))) env cE (ps 0 0 0 0) B)=some (sh (hZ w.params) 733 os):=piece_app (segRun_of (r1 w os)) (piece_app (segRun_of (r2 w os)) (piece_app (segRun_of (r3 w os)) (piece_app (segRun_of (r4 w os)) (piece_app (segRun_of (r5 w os)) (piece_app (segRun_of (r6 w os)) (piece_app (segRun_of (r7 w os)) (fin w os)))))))
theorem run(w:World)(os:zt):topRun x6 p w 11 (some (R 6)) (12+(1+(196+(214+(386+(390+(383+(394+(394+(2)))))))))) ⟨boot_heap w.params,Array.mk [],boot_drawn,boot_toks,os⟩ (topStub p)=some (sh (hZ w.params) 733 os):=go_top (pre w os) (piece_block (block w os) (by have h:=chain w os;rw[<- body] at h;exact h))
noncomputable def view:Program:={p with main:={p.main with body:=[Q.top 1,Q.top 2,Q.top 3,Q.top 5,Q.top 6,Q.top 7,Q.top 8,Q.top 9,Q.top 10,Q.top 11,Q.top 12,Q.top 13,Q.top 14,Q.top 15,Q.top 16,Q.top 18,Q.top 19,Q.top 20,Q.top 21,Q.top 22,Q.top 23,Q.top 24,Q.top 25,Q.top 26,Q.top 27,Q.top 28,Q.top 29,Q.top 30,Q.top 31,Q.top 32,Q.top 34,Q.top 35,Q.top 36,Q.top 37,Q.top 38,Q.top 40,Q.top 41,Q.top 42,Q.top 43,Q.top 44,Q.top 45,Q.top 46,Q.top 47,Q.top 49,Q.top 51,Q.top 52,Q.top 53,Q.top 54,Q.top 55,Q.top 56,Q.top 57,Q.top 58,Q.top 59,Q.top 60,Q.top 61,Q.top 62,Q.top 63,Q.top 64,Q.top 65,Q.top 66,Q.top 67]} }
noncomputable def ob(P:xx)(i:Nat):Obj:=(hl P).getD i default
noncomputable def zo(P:xx)(a:Nat):Addr×Obj:=(a,ob P a)
noncomputable def K(P:xx):Frag:=[zo P 2,zo P 3,zo P 15,zo P 22,zo P 23,zo P 24,zo P 25,zo P 28,zo P 35,zo P 36,zo P 37,zo P 40,zo P 47,zo P 48,zo P 49,zo P 52,zo P 53,zo P 55,zo P 56,zo P 58,(nat_lit 59,fO "is_whole" (6).9 HD.zS2 58),zo P 60,zo P 62,zo P 63,zo P 65,(nat_lit 66,fO "common_divisor" (7).9 HD.zS2 65),zo P 67,zo P 69,zo P 70,zo P 72,(nat_lit 73,fO "lowest" (8).9 HD.zS2 72),zo P 74,zo P 76,zo P 77,zo P 79,(nat_lit 80,fO "fraction" (9).9 HD.zS2 79),zo P 81,zo P 83,zo P 84,zo P 86,(nat_lit 87,fO "plus" (10).9 HD.zS2 86),zo P 88,zo P 90,zo P 91,zo P 93,(nat_lit 94,fO "minus" (11).9 HD.zS2 93),zo P 95,zo P 97,zo P 98,zo P 100,(nat_lit 101,fO "times" (12).9 HD.zS2 100),zo P 102,zo P 104,zo P 105,zo P 107,(nat_lit 108,fO "over" (13).9 HD.zS2 107),zo P 109,zo P 111,zo P 112,zo P 114,(nat_lit 115,fO "under" (14).9 HD.zS2 114),zo P 116,zo P 118,zo P 119,zo P 121,(nat_lit 122,fO "lesser" (15).9 HD.zS2 121),zo P 123,zo P 125,zo P 126,zo P 128,(nat_lit 129,fO "greater" (16).9 HD.zS2 128),zo P 130,zo P 133,(nat_lit 134,fO "is_row" (20).9 HD.zS1 133),zo P 135,zo P 138,(nat_lit 139,fO "rows_fit" (21).9 HD.zS1 138),zo P 140,zo P 143,(nat_lit 144,fO "column" (22).9 HD.zS1 143),zo P 145,zo P 148,(nat_lit 149,fO "columns" (23).9 HD.zS1 148),zo P 150,zo P 153,(nat_lit 154,fO "changes" (24).9 HD.zS1 153),zo P 155,zo P 158,(nat_lit 159,fO "picked" (25).9 HD.zS1 158),zo P 160,zo P 163,(nat_lit 164,fO "tidied" (26).9 HD.zS1 163),zo P 165,zo P 167,zo P 168,zo P 170,(nat_lit 171,fO "is_whole_line" (27).9 HD.zS1 170),zo P 172,zo P 175,(nat_lit 176,fO "are_whole_lines" (28).9 HD.zS1 175),zo P 177,zo P 180,(nat_lit 181,fO "made" (29).9 HD.zS1 180),zo P 182,zo P 185,(nat_lit 186,fO "bands_at" (30).9 HD.zS1 185),zo P 187,zo P 189,zo P 190,zo P 192,(nat_lit 193,fO "has_cell" (31).9 HD.zS1 192),zo P 194,zo P 196,zo P 197,zo P 199,(nat_lit 200,fO "lies" (32).9 HD.zS1 199),zo P 201,zo P 203,zo P 204,zo P 206,(nat_lit 207,fO "is_edge" (34).9 HD.zS4 206),zo P 208,zo P 210,zo P 211,zo P 213,(nat_lit 214,fO "runs" (35).9 HD.zS4 213),zo P 215,zo P 218,(nat_lit 219,fO "stretches" (36).9 HD.zS4 218),zo P 220,zo P 222,zo P 223,zo P 225,(nat_lit 226,fO "sides" (37).9 HD.zS4 225),zo P 227,zo P 229,zo P 230,zo P 232,(nat_lit 233,fO "fronts_of" (38).9 HD.zS4 232),zo P 234,zo P 236,zo P 237,zo P 239,(nat_lit 240,fO "gone" (40).9 HD.zS3 239),zo P 241,zo P 243,zo P 244,zo P 246,(nat_lit 247,fO "time_to" (41).9 HD.zS3 246),zo P 248,zo P 250,zo P 251,zo P 253,(nat_lit 254,fO "times_to" (42).9 HD.zS3 253),zo P 255,zo P 257,zo P 258,zo P 260,(nat_lit 261,fO "height" (43).9 HD.zS3 260),zo P 262,zo P 264,zo P 265,zo P 267,(nat_lit 268,fO "box_edges" (44).9 HD.zS3 267),zo P 269,zo P 271,zo P 272,zo P 274,(nat_lit 275,fO "touches" (45).9 HD.zS3 274),zo P 276,zo P 279,(nat_lit 280,fO "touching" (46).9 HD.zS3 279),zo P 281,zo P 283,zo P 284,zo P 286,(nat_lit 287,fO "touched" (47).9 HD.zS3 286),zo P 288,zo P 291,(nat_lit 292,fO "stretched" (49).9 (S "roofridges.moves" 569) 291),zo P 293,zo P 295,zo P 296,zo P 298,(nat_lit 299,fO "_law_pen" (51).9 HD.zS0 298),zo P 300,zo P 302,zo P 303,zo P 305,(nat_lit 306,fO "_law_draw" (52).9 HD.zS0 305),zo P 307,zo P 309,zo P 310,zo P 312,(nat_lit 313,fO "_law_lines" (53).9 HD.zS0 312),zo P 314,zo P 317,(nat_lit 318,fO "_law_signs" (54).9 HD.zS0 317),zo P 319,zo P 321,zo P 322,zo P 324,(nat_lit 325,fO "_law_paces" (55).9 HD.zS0 324),zo P 326,zo P 328,zo P 329,zo P 331,(nat_lit 332,fO "_law_number" (56).9 HD.zS0 331),zo P 333,zo P 335,zo P 336,zo P 338,(nat_lit 339,fO "_law_along" (57).9 HD.zS0 338),zo P 340,zo P 342,zo P 343,zo P 345,(nat_lit 346,fO "_law_point" (58).9 HD.zS0 345),zo P 347,zo P 350,(nat_lit 351,fO "_law_outside" (59).9 HD.zS0 350),zo P 352,zo P 355,(nat_lit 356,fO "_law_high" (60).9 HD.zS0 355),zo P 357,zo P 360,(nat_lit 361,fO "_law_units" (61).9 HD.zS0 360),zo P 362,zo P 365,(nat_lit 366,fO "_law_box" (62).9 HD.zS0 365),zo P 367,zo P 369,zo P 370,zo P 372,(nat_lit 373,fO "_law_touches" (63).9 HD.zS0 372),zo P 374,zo P 376,zo P 377,zo P 379,(nat_lit 380,fO "_law_is_out" (64).9 HD.zS0 379),zo P 381,zo P 384,(nat_lit 385,fO "_law_due" (65).9 HD.zS0 384),zo P 386,zo P 389,(nat_lit 390,fO "_law_right" (66).9 HD.zS0 389),zo P 391,zo P 393,zo P 394,zo P 396,(nat_lit 397,fO "law" (67).9 HD.zS0 396)]
noncomputable def as:List Addr:=[nat_lit 2,nat_lit 3,nat_lit 15,nat_lit 22,nat_lit 23,nat_lit 24,nat_lit 25,nat_lit 28,nat_lit 35,nat_lit 36,nat_lit 37,nat_lit 40,nat_lit 47,nat_lit 48,nat_lit 49,nat_lit 52,nat_lit 53,nat_lit 55,nat_lit 56,nat_lit 58,nat_lit 59,nat_lit 60,nat_lit 62,nat_lit 63,nat_lit 65,nat_lit 66,nat_lit 67,nat_lit 69,nat_lit 70,nat_lit 72,nat_lit 73,nat_lit 74,nat_lit 76,nat_lit 77,nat_lit 79,nat_lit 80,nat_lit 81,nat_lit 83,nat_lit 84,nat_lit 86,nat_lit 87,nat_lit 88,nat_lit 90,nat_lit 91,nat_lit 93,nat_lit 94,nat_lit 95,nat_lit 97,nat_lit 98,nat_lit 100,nat_lit 101,nat_lit 102,nat_lit 104,nat_lit 105,nat_lit 107,nat_lit 108,nat_lit 109,nat_lit 111,nat_lit 112,nat_lit 114,nat_lit 115,nat_lit 116,nat_lit 118,nat_lit 119,nat_lit 121,nat_lit 122,nat_lit 123,nat_lit 125,nat_lit 126,nat_lit 128,nat_lit 129,nat_lit 130,nat_lit 133,nat_lit 134,nat_lit 135,nat_lit 138,nat_lit 139,nat_lit 140,nat_lit 143,nat_lit 144,nat_lit 145,nat_lit 148,nat_lit 149,nat_lit 150,nat_lit 153,nat_lit 154,nat_lit 155,nat_lit 158,nat_lit 159,nat_lit 160,nat_lit 163,nat_lit 164,nat_lit 165,nat_lit 167,nat_lit 168,nat_lit 170,nat_lit 171,nat_lit 172,nat_lit 175,nat_lit 176,nat_lit 177,nat_lit 180,nat_lit 181,nat_lit 182,nat_lit 185,nat_lit 186,nat_lit 187,nat_lit 189,nat_lit 190,nat_lit 192,nat_lit 193,nat_lit 194,nat_lit 196,nat_lit 197,nat_lit 199,nat_lit 200,nat_lit 201,nat_lit 203,nat_lit 204,nat_lit 206,nat_lit 207,nat_lit 208,nat_lit 210,nat_lit 211,nat_lit 213,nat_lit 214,nat_lit 215,nat_lit 218,nat_lit 219,nat_lit 220,nat_lit 222,nat_lit 223,nat_lit 225,nat_lit 226,nat_lit 227,nat_lit 229,nat_lit 230,nat_lit 232,nat_lit 233,nat_lit 234,nat_lit 236,nat_lit 237,nat_lit 239,nat_lit 240,nat_lit 241,nat_lit 243,nat_lit 244,nat_lit 246,nat_lit 247,nat_lit 248,nat_lit 250,nat_lit 251,nat_lit 253,nat_lit 254,nat_lit 255,nat_lit 257,nat_lit 258,nat_lit 260,nat_lit 261,nat_lit 262,nat_lit 264,nat_lit 265,nat_lit 267,nat_lit 268,nat_lit 269,nat_lit 271,nat_lit 272,nat_lit 274,nat_lit 275,nat_lit 276,nat_lit 279,nat_lit 280,nat_lit 281,nat_lit 283,nat_lit 284,nat_lit 286,nat_lit 287,nat_lit 288,nat_lit 291,nat_lit 292,nat_lit 293,nat_lit 295,nat_lit 296,nat_lit 298,nat_lit 299,nat_lit 300,nat_lit 302,nat_lit 303,nat_lit 305,nat_lit 306,nat_lit 307,nat_lit 309,nat_lit 310,nat_lit 312,nat_lit 313,nat_lit 314,nat_lit 317,nat_lit 318,nat_lit 319,nat_lit 321,nat_lit 322,nat_lit 324,nat_lit 325,nat_lit 326,nat_lit 328,nat_lit 329,nat_lit 331,nat_lit 332,nat_lit 333,nat_lit 335,nat_lit 336,nat_lit 338,nat_lit 339,nat_lit 340,nat_lit 342,nat_lit 343,nat_lit 345,nat_lit 346,nat_lit 347,nat_lit 350,nat_lit 351,nat_lit 352,nat_lit 355,nat_lit 356,nat_lit 357,nat_lit 360,nat_lit 361,nat_lit 362,nat_lit 365,nat_lit 366,nat_lit 367,nat_lit 369,nat_lit 370,nat_lit 372,nat_lit 373,nat_lit 374,nat_lit 376,nat_lit 377,nat_lit 379,nat_lit 380,nat_lit 381,nat_lit 384,nat_lit 385,nat_lit 386,nat_lit 389,nat_lit 390,nat_lit 391,nat_lit 393,nat_lit 394,nat_lit 396,nat_lit 397]
abbrev Hk:Hook:=kHook K as (λ_=>by kernel_rfl!)
theorem opens:∀w:World,(fencedOpening x6 p w 4826).map (λs=>(s.heap,s.gens,s.drawn,s.toks))=some (boot_heap w.params,Array.mk [],boot_drawn,boot_toks):=boot_open (by kernel_rfl!) (by kernel_rfl!) (λ_=>by kernel_rfl!)
abbrev Xt:Shared->Bool:=λs=>xlAt view [] s&&recOk (RowW.records PySem.Challenge.rw_roofridges_k23_fronts_touched.row.toRowW) s
theorem size(w:World):((boot_heap w.params).isNs vn&&(Array.mk ([]:List fi)).size==0,(boot_heap w.params).objs.size,(boot_heap w.params).nsMap vn "__annotations__")=(true,11,(some (R 6))):=by kernel_rfl!
theorem look1(w:World)(os:zt):(staticsOk (Wz p.main.body) (boot_heap w.params) (hZ w.params)&&namesBound p (hZ w.params)&&gensDone (sh (hZ w.params) 733 os)&&laidKept (boot_heap w.params) (hZ w.params))=true:=by kernel_rfl!
theorem look2(w:World)(os:zt):openSeen view [] (Wz p.main.body) Xt true (sh (hZ w.params) 733 os)=openGood view []:=by rw[VU];kernel_rfl!
theorem look3(w:World)(os:zt):Hk.obs (sh (hZ w.params) 733 os)=Hk.val w:=by kernel_rfl!
theorem left:LeftO p view [] Xt Hk.obs Hk.val 4826 true:=LeftO.of_pieces opens size run (by kernel_rfl!) (λw=>funext λos=>by rw[look1,look2,look3])
theorem said:PySem.Challenge.rw_roofridges_k23_fronts_touched.wellSaid=true:=by rw[VT];kernel_rfl!
end
end HD
namespace L2
open PySem PySem.Spec PyProof.Rows
noncomputable def big:Nat:=2^8000
noncomputable def aUO(_ j:Int):Prop:=j≠0/\j.natAbs<big
noncomputable def aT9(i j:Int):Prop:=i.natAbs<big/\j.natAbs<big
theorem aK5(h:n<big):n.log2<9000:=by
 by_cases h0:n=0
 ·subst h0;decide
 ·exact qy ((WD h0).mpr h) '#'
section
theorem pJ:OpR X (zw .FloorDiv) (rI aUO λi j => .int (i.fdiv j)):=
 opI λ_ _ _ _ _ _ _ hc q=>floordiv_int hc.1 q (.inl (PyProof.noPylong_of_log2 (aK5 hc.2)))
theorem cU:OpR X (zw .Mult) (rI aT9 λi j => .int (i*j)):=
 opI λ_ _ _ _ _ _ _ a q=>mul_int q (IntMulOk.of_le (m:=8000) (n:=8000) (WS.mpr a.1) (WS.mpr a.2) '#')
end
theorem aS7{K:qh}{S T:String}{b:Bool}(h1:(zc S==zc T)=false)(h2:JD T=true)(h3:(fastBuiltinMro S).map (·.contains (.type T))=some b):
  yh K (.type S) (.type T)=some b:=by
 unfold yh PySem.W.kitCls
 rw[if_neg (by rw[h1];exact zBf)]
 show (if JD T=true then _ else _)=_
 rw[if_pos h2]
 exact h3
theorem aJ2{K:qh}{t:Value}(h:(t==t)=true:=by first|rfl|simp):yh K t t=some true:=by
 unfold yh;rw[if_pos h]
section
end
end L2
namespace L2
open PySem PySem.Spec PyProof.Rows
structure ExcK(K:qh)(C:Addr):Prop where
 cd:(PySem.W.clsIn K C).isSome=true
 ga:yt K (.ref C) "__getattribute__" = some (some (.builtin "BaseException.__getattribute__"))
 gt:yt K (.ref C) "__getattr__" = some none
 cl:yt K (.ref C) "__class__" = some (some (.builtin "object.__class__"))
 be:sk K C (.type "BaseException")=some true
 ob:sk K C (.type "object")=some true
section
variable {E:Value->Shared->Prop}{g:Array fi}{d:Drawn}{t:Nat}{os:zt}{K:qh}
end
section
end
end L2
namespace L2
open PySem PySem.Spec PyProof.Rows
structure Thrown(h₀:Heap)(H':Hp)(e T:Addr)(cls:Value)(h:Heap):Prop where
 ne:h₀.get? e=none
 nT:h₀.get? T=none
 He:H' e=none
 HT:H' T=none
 ob:∃oe vs oT ts a0,h.get? e=some oe/\(oe.cls=cls/\vs[0]?=some a0)/\oe.data = .fields vs/\vs[1]?=some (.ref T)/\T≠e/\h.get? T=some oT/\oT.data = .fields ts/\ts[3]?=some .none
section
end
end L2
namespace L2
open PySem PySem.Spec PyProof.Rows
noncomputable def bmV:List Value:=[.type "ValueError", .type "Exception", .type "BaseException", .type "object"]
section
variable {E:XK}{np:Pos}{e₀:Expr}{rest:List Expr}{ta:TA}
end
structure ThrownX(X:Cx)(pins:List (Addr×Obj))(H':Hp)(e T:Addr)(cls:Value)(h:Heap):Prop where
 e0:X.s₀.heap.get? e=none
 T0:X.s₀.heap.get? T=none
 He:H' e=none
 HT:H' T=none
 eL:e≠X.env.locals
 TL:T≠X.env.locals
 ce:∀x c,X.env.cells.lookup x=some c->c≠e/\c≠T
 pe:∀p∈X.pn++pins,p.1≠e/\p.1≠T
 ob:∃oe vs oT ts a0,h.get? e=some oe/\(oe.cls=cls/\vs[0]?=some a0)/\oe.data = .fields vs/\vs[1]?=some (.ref T)/\T≠e/\h.get? T=some oT/\oT.data = .fields ts/\ts[3]?=some .none
noncomputable def XP(X:Cx)(pins:List (Addr×Obj))(σ:St)(E:XK)(v:Value)(s':Shared):Prop:=∃e T cls H',v = .ref e/\Inv X pins σ H' s'/\ThrownX X pins H' e T cls s'.heap/\E cls none H'
section
end
end L2
namespace L2
open PySem PySem.Spec PyProof.Rows
section
end
end L2
namespace Num
theorem aAW(a b:Int):wb b (a.fmod b)=wb a b:=by
 rw[Int.fmod_def,Q5 a b]
 exact Int.gcd_sub_mul_left_right _ _ _
theorem aDP(a b:Int)(hb:b≠0):(a.fmod b).natAbs<b.natAbs:=by
 rcases Int.lt_or_gt_of_ne hb with h|h
 ·have h0:0 < -b:=by omega
  have e:a.fmod b = -((-a).fmod (-b)):=by rw[Int.neg_fmod_neg];omega
  have d:=QY (-a) h0
  have c:=J7 (-a) h0
  omega
 ·have d:=QY a h
  have c:=J7 a h
  omega
noncomputable def div(t b:Int):Int:=if b<0 then -((wb t b:Nat):Int) else ((wb t b:Nat):Int)
noncomputable def top(t b:Int):Int:=t.fdiv (div t b)
noncomputable def bot(t b:Int):Int:=b.fdiv (div t b)
theorem wQ{t:Int}(h:b≠0):0<wb t b:=Int.gcd_pos_of_ne_zero_right t h
theorem aSH{t:Int}(h:b≠0):div t b≠0:=by
 have:=wQ (t:=t) h
 unfold div;split <;> omega
theorem aPR(t b:Int):(div t b).natAbs=wb t b:=by
 unfold div;split <;> omega
theorem aM6(t b:Int):div t b∣t:=by
 unfold div;split
 ·exact WG.mpr (KE ..)
 ·exact KE ..
theorem aOE(t b:Int):div t b∣b:=by
 unfold div;split
 ·exact WG.mpr (Ks ..)
 ·exact Ks ..
theorem aD5(t b:Int):top t b*div t b=t:=JK (aM6 t b)
theorem wS(t b:Int):bot t b*div t b=b:=JK (aOE t b)
theorem aNY{t:Int}(h:b≠0):0<bot t b:=by
 have e:=wS t b
 have g:=wQ (t:=t) h
 by_cases a:b<0
 ·have hd:div t b<0:=by unfold div;rw[if_pos a];omega
  rcases Kr (bot t b) 0 with c|c|c
  ·have:=Int.mul_pos_of_neg_of_neg c hd;omega
  ·rw[c,VF] at e;omega
  ·exact c
 ·have hd:0<div t b:=by unfold div;rw[if_neg a];omega
  rcases Kr (bot t b) 0 with c|c|c
  ·have:=Qr c hd;omega
  ·rw[c,VF] at e;omega
  ·exact c
theorem low(t b:Int)(h:b≠0):wb (top t b) (bot t b)=1:=by
 have g:=wQ (t:=t) h
 have e:wb (top t b*div t b) (bot t b*div t b)=wb (top t b) (bot t b)*(div t b).natAbs:=Int.gcd_mul_right ..
 rw[aD5,wS,aPR] at e
 have a:1*wb t b=wb (top t b) (bot t b)*wb t b:=by rw[sd];exact e
 exact (Nat.eq_of_mul_eq_mul_right g a).symm
theorem cross(t b:Int)(h:b≠0):top t b*b=t*bot t b:=by
 have c:=aD5 t b
 have a:=wS t b
 have d:=aSH (t:=t) h
 have:top t b*(bot t b*div t b)=top t b*div t b*bot t b:=by
  rw[Int.mul_assoc,Q4 (bot t b)]
 rw[c,a] at this
 exact this
theorem aR0(t b:Int):(top t b).natAbs<=t.natAbs:=Qq ..
theorem bot_le(t b:Int):(bot t b).natAbs<=b.natAbs:=Qq ..
theorem vF{k n m:Int}(h:k∣n*m)(g:wb k n=1):k∣m:=by
 have:=Int.dvd_gcd_mul_iff_dvd_mul.mpr h
 rw[g] at this
 simpa using this
theorem uniq{p q r s:Int}(hq:0<q)(hs:0<s)(g:wb p q=1)(g':wb r s=1)(e:p*s=r*q):p=r/\q=s:=by
 have c:q∣s:=by
  have:q∣p*s:=⟨r,by rw[e,Q4]⟩
  have h:=vF this (by rw[Q5];exact g)
  exact h
 have b:s∣q:=by
  have:s∣r*q:=⟨p,by rw[<- e,Q4]⟩
  exact vF this (by rw[Q5];exact g')
 have f:=Vg hs c
 have d:=Vg hq b
 have a:q=s:=by omega
 subst a
 exact⟨Qf '$' e,rfl⟩
end Num
namespace R
open PySem L2
theorem BI:kh "int" = some (.type "int"):=by decide +kernel
theorem BB:kh "bool" = some (.type "bool"):=by decide +kernel
theorem BT:kh "tuple" = some (.type "tuple"):=by decide +kernel
structure Df(K:qh)(mg:Str->Option Value)(x:Str)(st:Stmt)(ps:List Str)(f:Addr)(fd:FuncData):Prop where
 F:Fun K x x st f fd
 b:Binds K fd ps []
 m:mg x=some (.ref f)
structure Bn(mg:Str->Option Value):Prop where
 isi:mg "isinstance" = none
 int:mg "int" = none
 bool:mg "bool" = none
 tuple:mg "tuple" = none
 len:mg "len" = none
 abs:mg "abs" = none
 range:mg "range" = none
 min:mg "min" = none
inductive Kn(K:qh)(H:Hp):V->Prop
 |non:Kn K H .non
 |bl (b:Bool):Kn K H (.bl b)
 |int (i:Int):Kn K H (.int i)
 |str (x:Str):Kn K H (.str x)
 |lst {a:Addr}{xs:List V} (e:H a=some (.lst xs)):Kn K H (.ref a)
 |tup {a:Addr}{xs:List V} (e:H a=some (.tup xs)):Kn K H (.ref a)
section
variable {K:qh}
theorem aNC(a:Int):(if a<0 then -a else a)=((wb a 0:Nat):Int):=by
 rw[J6];split <;> lia
noncomputable def num(t b:Int):HO := .tup [.int (Num.top t b), .int (Num.bot t b)]
end
end R
namespace R
open PySem L2
section
variable {K:qh}
structure Kn2(K:qh)(H:Hp)(v:V):Prop where
 kn:Kn K H v
 two:∀a x y,v = .ref a->H a=some (.tup [x,y])->Kn K H x/\Kn K H y
theorem at1{x y:V}:atI [x,y] (1:Int)=some y:=rfl
end
end R
namespace L2
open PySem PySem.Spec PyProof.Rows
end L2
namespace R
open PySem L2
structure Fd(H:Hp)(p:Addr)(b:Int):Prop where
 ex:∃g m st:Int,H p=some (.lst [.int g, .int m, .int st])/\0<=g/\0<=m/\m<2147483399/\0<=st/\st<=b
section
variable {K:qh}
theorem aIY(x:Int){m:Int}(h0:0<m)(h1:m<2^64): -(2^64)<x%m/\x%m<2^64:=by
 have:=zf x (show m≠0 by lia)
 have:=y8 x h0
 lia
end
end R
namespace R
open PySem L2
section
variable {K:qh}
noncomputable def ten60:Nat:=10^60
end
end R
namespace R
open PySem L2
structure Ex(K:qh)(mg:Str->Option Value)(CR CN CY CP CT CW CM:Addr):Prop where
 mR:mg "RoofError" = some (.ref CR)
 mN:mg "NoNumber" = some (.ref CN)
 mY:mg "NoYard" = some (.ref CY)
 mP:mg "NoPoint" = some (.ref CP)
 mT:mg "NoText" = some (.ref CT)
 mW:mg "NoRow" = some (.ref CW)
 mM:mg "NoName" = some (.ref CM)
 vE:mg "ValueError" = none
 xN:Kl K CN bmV "ValueError.__new__" = true
 kN:ExcK K CN
 cN:JY K (.ref CN) (.ref CR)=some true
 iV:yh K (.ref CN) (.type "ValueError")=some true
 iO:JW K (.ref CN) [.ref CM, .ref CP, .ref CW, .ref CT, .ref CY]=some false
section
variable {K:qh}{CR CN CY CP CT CW CM:Addr}
end
end R
namespace R
open PySem L2
section
variable {K:qh}
end
end R
namespace R
open PySem L2
theorem oJ{z:Int}(hb:b.natAbs<=ten60)(z0:0<=z)(z1:z<7):(b*(z-3)/1000).natAbs<=4*ten60:=by
 have a:(b*(z-3)).natAbs<=ten60*3:=by
  rw[vi]
  exact ku hb '!'
 have:1<=ten60:=by decide
 lia
section
variable {K:qh}
end
end R
namespace R
open PySem L2
end R
namespace L2
open PySem PySem.Spec PyProof.Rows
section
variable {E:Value->Shared->Prop}
theorem p5{its:Array Value}(x:Ws h a its):h.IsList a its:=let ⟨o,n,e,c,_,d⟩:=x;⟨o,e,c,n,d⟩
theorem aBQ{l:Addr}(hne:l≠it):∀(n i:Nat) (s:Shared) (Q:List Value->Shared->Prop),s.heap.IsListIter it l i->Ws s.heap l items->i+n<=items.size ->
  (∀h',h'.IsListIter it l (i+n)->fj it s.heap h'->Q ((items.toList.drop i).take n) {s with heap:=h' })->wpAny w.12 A (draw (.ref it) n) Q E s
 |0,i,s,Q,hit,_,_,hQ=>by
  show wpAny _ _ (pure []) Q E s
  exact wpAny_pure (by simpa using hQ s.heap hit (λ_ _ _ e=>e))
 |n+1,i,s,Q,hit,ht,hle,hQ=>by
  have d:i<items.size:=by omega
  show wpAny _ _ (tq (.ref it) >>= _) Q E s
  refine qa (JO hit (p5 ht) (x:=items[i]) (by simp[d]) λk f a => ?_)
  refine qa (vv (aBQ hne n (i+1) _ _ f (ht.extBut a.extBut hne) '$' λj c g=>wpAny_pure ?_))
  have hd:items.toList.drop i=items[i]::items.toList.drop (i+1):=by simp[List.drop_eq_getElem_cons,d]
  have z:=hQ j (by rw[show i+(n+1)=i+1+n by omega];exact c) (λb o h e=>g b o h (a.extBut b o h e))
  rw[hd,List.take_succ_cons] at z
  exact z
theorem aGG{t:Addr}{targets:List (Bool×(Value->Sem Unit))}{Q:Unit->Shared->Prop}(hh:A.handled=none)(ht:Ws s.heap t items)(hn:targets.length=items.size)(hstar:targets.findIdx? (·.1)=none)(h:∀h',fj s.heap.objs.size s.heap h'->wpAny w.12 A (g0 (targets.map (·.2)) items.toList) Q E {s with heap:=h' }):
  wpAny w.12 A (unpack (.ref t) targets) Q E s:=by
 have c:t≠s.heap.objs.size:=by obtain⟨o,_,l,_⟩:=ht;exact q4 (qv l)
 unfold unpack
 rw[hn,hstar]
 refine qa (vv ?_)
 unfold unpackItems
 refine qa ?_
 unfold notIterableAtAll
 refine qa (QJ (p5 ht).typeIs slot_list_iter.lookup ?_)
 refine wpAny_pure ?_
 simp only[xo,if_false]
 refine qa (vv (cq (p5 ht) ?_))
 refine qa (vv (aBQ c items.size 0 _ _ ⟨_,qu _ rfl,rfl,rfl⟩ (ht.keeps λb o e=>qc _ e) '$' λm d a => ?_))
 have f:List.take items.size (List.drop 0 items.toList)=items.toList:=by
  rw[KP];exact QO '%'
 rw[f]
 rw[if_neg '%']
 have g:Ws m t items:=PlainL.extBut (ht.keeps λb o e=>qc _ e) a c
 refine qa (vv (Kj hh d (p5 g) '%' λk i => ?_))
 simp only[Option.isSome_none,xo,if_false]
 exact wpAny_pure (h k λb o j e=>i b o j (a b o j (qc _ e)))
end
section
noncomputable def gLst(K:qh)(n:Nat)(t:TGs):TG:=λv σ H Q=>∃a xs,v = .ref a/\SqL K H a xs/\xs.length=n/\t xs σ H Q
theorem aRI{k:Nat}{t:TGs}(hc:X.calm=true)(h:PGs X es t)(hn:(xy es X.env).length=n:=by rfl)(hst:(xy es X.env).findIdx? (·.1)=none:=by rfl):PG X (.Tuple es k pos) (gLst X.K n t):=by
 intro pins s σ H v u Q I r hw
 obtain⟨a,xs,g,f,hl,hw⟩:=hw
 subst g
 cases r
 obtain⟨l,c,i,m⟩:=I.list f
 rw[assign_Tuple]
 refine qa (dk (aGG (I.ok.hd hc) i (by simp[hn,<- hl,c.length]) hst λd j => ?_))
 have I1:Inv X pins σ H {s with heap:=d}:=I.kept (t':=s.toks) λb o e=>j b o (q4 (qv e)) e
 exact h pins _ σ H xs _ Q I1 (by simpa using c) hw
end
end L2
namespace Num
theorem xR(t b:Int)(hb:b≠0):top t b=(qb t b).num/\bot t b=((qb t b).den:Int):=by
 have hd:((qb t b).den:Int)≠0:=by have:=(qb t b).den_nz;omega
 have e:(qb t b).num*b=t*((qb t b).den:Int):=by
  have:=vj (qb t b)
  exact (Rat.divInt_eq_divInt_iff hd hb).mp this
 have g:wb (qb t b).num ((qb t b).den:Int)=1:=by
  have:=(qb t b).reduced
  rw[Int.gcd_eq_natAbs_gcd_natAbs]
  exact this
 refine uniq (aNY hb) (by have:=(qb t b).den_pos;omega) (low t b hb) g ?_
 have c:=cross t b hb
 have a:top t b*((qb t b).den:Int)*b=(qb t b).num*bot t b*b:=by
  rw[mm,c,mm,<- e,mm]
 exact Qf hb a
theorem aD7(x y:Rat):qb (x.num*(y.den:Int)+y.num*(x.den:Int)) ((x.den:Int)*(y.den:Int))=x+y:=by
 have b:(x.den:Int)≠0:=by have:=x.den_nz;omega
 have a:(y.den:Int)≠0:=by have:=y.den_nz;omega
 rw[<- Rat.divInt_add_divInt _ _ b a,vj,vj]
theorem aDY(x y:Rat):qb (x.num*(y.den:Int)-y.num*(x.den:Int)) ((x.den:Int)*(y.den:Int))=x-y:=by
 have b:(x.den:Int)≠0:=by have:=x.den_nz;omega
 have a:(y.den:Int)≠0:=by have:=y.den_nz;omega
 rw[<- Rat.divInt_sub_divInt _ _ b a,vj,vj]
theorem aNZ(x y:Rat):qb (x.num*y.num) ((x.den:Int)*(y.den:Int))=x*y:=by
 rw[<- cg,vj,vj]
theorem aPE(x y:Rat):qb (x.num*(y.den:Int)) ((x.den:Int)*y.num)=x/y:=by
 rw[<- cg,vj,lr,Rat.inv_def]
end Num
namespace R
open PySem L2
structure Sz(k:Nat)(x:Rat):Prop where
 n:x.num.natAbs<2^k
 d:x.den<2^k
theorem Sz.mono{k:Nat}{x:Rat}(h:Sz j x)(e:j<=k):Sz k x:=
 ⟨qy h.n (w3 '#' e),qy h.d (w3 '#' e)⟩
theorem fN(x:Rat):((x.den:Nat):Int)≠0:=by have:=x.den_nz;omega
theorem lt_mul{a b k:Nat}(h1:a<2^j)(h2:b<2^k):a*b<2^(j+k):=by
 rw[lu]
 exact KB h1 h2
theorem iB{a:Int}{k:Nat}(h1:a.natAbs<2^j)(h2:b.natAbs<2^k):(a*b).natAbs<2^(j+k):=by
 rw[vi];exact lt_mul h1 h2
theorem tR(k:Nat):2^(k+1)=2^k+2^k:=by rw[hC];omega
theorem aE5{a:Int}{k:Nat}(h1:a.natAbs<2^k)(h2:b.natAbs<2^k):(a+b).natAbs<2^(k+1):=by
 rw[tR];generalize 2^k=m at *;omega
theorem aF7{a:Int}{k:Nat}(h1:a.natAbs<2^k)(h2:b.natAbs<2^k):(a-b).natAbs<2^(k+1):=by
 rw[tR];generalize 2^k=m at *;omega
theorem Sz.dn{k:Nat}{x:Rat}(h:Sz k x):((x.den:Nat):Int).natAbs<2^k:=by have:=h.d;omega
theorem yE{t:Int}{k:Nat}(hb:b≠0)(h1:t.natAbs<2^k)(h2:b.natAbs<2^k):Sz k (qb t b):=by
 obtain⟨c,a⟩:=Num.xR t b hb
 refine⟨?_,?_⟩
 ·rw[<- c];exact qn (Num.aR0 t b) h1
 ·have:=Num.bot_le t b
  rw[a] at this
  have e:(((qb t b).den:Nat):Int).natAbs=(qb t b).den:=by omega
  rw[e] at this
  exact qn this h2
theorem aIX{a:Int}(h1:a≠0)(h2:b≠0):a*b≠0:=ze h1 h2
theorem Sz.add{k:Nat}{x:Rat}(h1:Sz j x)(h2:Sz k y):Sz (j+k+1) (x+y):=by
 rw[<- Num.aD7]
 refine yE (aIX (fN x) (fN y)) (aE5 (iB h1.n h2.dn) ?_) ?_
 ·rw[nt];exact iB h2.n h1.dn
 ·exact qy (iB h1.dn h2.dn) (w3 '#' '$')
theorem Sz.sub{k:Nat}{x:Rat}(h1:Sz j x)(h2:Sz k y):Sz (j+k+1) (x-y):=by
 rw[<- Num.aDY]
 refine yE (aIX (fN x) (fN y)) (aF7 (iB h1.n h2.dn) ?_) ?_
 ·rw[nt];exact iB h2.n h1.dn
 ·exact qy (iB h1.dn h2.dn) (w3 '#' '$')
end R
namespace L2
open PySem PySem.Spec PyProof.Rows
theorem i6:∀(names:List (Str×NameKind)) (n:Nat) (acc:List (Str×Addr)),cellsFrom n names acc=cellsFrom n names []++acc
 |[],_,_=>rfl
 | (name,kind)::r,n,acc=>by
  unfold cellsFrom
  split
  ·rw[i6 r (n+1) ((name,n)::acc),i6 r (n+1) [(name,n)],jd];rfl
  ·exact i6 r n acc
theorem vV:∀(names:List (Str×NameKind)) (n:Nat) (acc:List (Str×Addr)) {y:Str}{c:Addr},(y,c)∈cellsFrom n names acc->(y,wu)∈names\/(y,c)∈acc
 |[],_,_,_,_,h => .inr h
 | (name,kind)::r,n,acc,y,c,h=>by
  unfold cellsFrom at h
  split at h
  ·rename_i hk
   rcases vV r (n+1) _ h with q|q
   ·exact .inl (jg _ q)
   ·rcases qp.mp q with q|q
    ·cases q
     have:kind = .cell:=by simpa using hk
     exact .inl (by rw[this];exact jm)
    ·exact .inr q
  ·rcases vV r n _ h with q|q
   ·exact .inl (jg _ q)
   ·exact .inr q
theorem lZ{y:Str}:∀{l m:List (Str×Addr)},(l++m).lookup y=match l.lookup y with|some c=>some c|none=>m.lookup y
 |[],_=>rfl
 | (n,c)::l,m=>by
  rw[zl,vd,vd]
  cases y==n with
  |true=>rfl
  |false=>exact lZ (l:=l) (m:=m)
theorem pS{scope:Scope}{env:Env}:∀(names:List (Str×NameKind)) (acc:List (Str×Addr)),
  (∀n,(n,ky)∈names->∃c,env.cells.lookup n=some c)->(∀n c,acc.lookup n=some c->env.cells.lookup n=some c) ->
  ∃cl,(forIn names acc λx cs=>(if x.2==ky then (do let c <- cellOf env x.1;pure (w8 ((x.1,c)::cs))) else pure (w8 cs)):Sem (List (Str×Addr)))=pure cl /\
   (∀n c,cl.lookup n=some c->env.cells.lookup n=some c)/\(∀n,(n,ky)∈names->∃c,cl.lookup n=some c)/\∀n c,acc.lookup n=some c->∃c',cl.lookup n=some c'
 |[],acc,_,h2=>⟨acc,rfl,h2,(λ_ h=>nomatch h),λn c e=>⟨c,e⟩⟩
 | (name,kind)::r,acc,h1,h2=>by
  have f:∀n,(n,ky)∈r->∃c,env.cells.lookup n=some c:=λn a=>h1 n (jg _ a)
  by_cases g:kind = .free
  ·subst g
   obtain⟨c,k⟩:=h1 name jm
   obtain⟨cl,e,j,i,d⟩:=pS (scope:=scope) (env:=env) r ((name,c)::acc) f (λn c' a=>by
    rw[vd] at a
    cases b:n==name with
    |true =>
     rw[b] at a
     have:n=name:=by simpa using b
     subst this
     cases a;exact k
    |false=>rw[b] at a;exact h2 n c' a)
   refine⟨cl,?_,j,λn a => ?_,λn c' a => ?_⟩
   ·rw[rf]
    simp only[beq_self_eq_true,if_true]
    have l:cellOf env name=pure c:=by unfold cellOf;rw[k]
    rw[l]
    exact e
   ·rcases qp.mp a with z|z
    ·cases z
     exact d _ c (by rw[vd,beq_self_eq_true])
    ·exact i n z
   ·cases b:n==name with
    |true=>exact d n c (by rw[vd,b])
    |false=>exact d n c' (by rw[vd,b];exact a)
  ·obtain⟨cl,e,j,i,d⟩:=pS (scope:=scope) (env:=env) r acc f h2
   refine⟨cl,?_,j,λn a => ?_,d⟩
   ·rw[rf]
    have b:(kind==ky)=false:=by simpa using g
    simp only[b,xo,if_false]
    exact e
   ·rcases qp.mp a with z|z
    ·cases z;exact absurd rfl g
    ·exact i n z
theorem yS{env:Env}(h:∀n,(n,ky)∈scope.names->∃c,env.cells.lookup n=some c):
  ∃cl,closureFor scope env=pure cl/\(∀n c,cl.lookup n=some c->env.cells.lookup n=some c)/\(∀n,(n,ky)∈scope.names->∃c,cl.lookup n=some c):=by
 obtain⟨cl,e,b,a,_⟩:=pS (scope:=scope) (env:=env) scope.names [] h (λn c e=>by cases e)
 refine⟨cl,?_,b,a⟩
 show ((forIn scope.names [] λx cs=>(if x.2==ky then (do let c <- cellOf env x.1;pure (w8 ((x.1,c)::cs))) else pure (w8 cs)):Sem (List (Str×Addr))) >>= λcs=>pure cs)=pure cl
 rw[e]
 rfl
theorem aCP{M:Jt}{E:Value->Shared->Prop}{globals:Addr}{cl:List (Str×Addr)}{code:Value}{env:Env}{Q:Env->Shared->Prop}(h:Q (newEnv scope s.heap.objs.size globals (cellsFrom (s.heap.objs.size+1) scope.names cl) qual none code (some env) Jm) {s with heap:=gj (s.heap.push {cls := .type "dict", data := .dict #[]}) scope.names}):
  wpAny M A (WQ scope globals cl [] qual none code (some env)) Q E s:=by
 simp only[WQ,Option.isSome_some,if_true]
 refine qa (wpAny_alloc ?_)
 refine qa (wpAny_layCells _ (λname kind cells=>by cases hkc:kind==wu <;> simp[hkc]) _ _ _ _ ?_)
 rw[show ({s with heap:=s.heap.push {cls := .type "dict", data := .dict #[]} }:Shared).heap.objs.size=s.heap.objs.size+1 from vg ..]
 exact qa h.16.16
noncomputable def aY(X:Cx)(scope:Scope)(cs:List (Str×Addr))(C:Addr)(Nc:List Str)(s₀:Shared)(H₀:Hp)(fp:List Addr):Cx:=
 {X with N:=Nc,s₀:=s₀,H₀:=H₀,env:=compEnvC scope cs C X.env,outer:=X.stack,ex:=fp,fn:=λy=>scope.names.lookup y==some .cell,pn:=[],xe:=λ_ _=>False}
theorem gU{env:Env}{y:Str}{k:NameKind}:∀{names:List (Str×NameKind)},
  (names.map λ(n,k)=>if (k==ky&&env.scope.kind == .function&&env.kindOf n==some .cell) then (n,wu) else (n,k)).lookup y=some k ->
  names.lookup y=some k\/(names.lookup y=some .free/\k = .cell)
 |[],h=>by cases h
 | (n,k')::r,h=>by
  have b:=gU (env:=env) (y:=y) (k:=k) (names:=r)
  rw[kj] at h
  cases hy:y==n with
  |true =>
   rw[vd,hy]
   by_cases a:(k'==ky&&env.scope.kind == .function&&env.kindOf n==some .cell)=true
   ·dsimp only at h
    rw[if_pos a,vd,hy] at h
    cases h
    have:k' = .free:=by
     rw[qx,qx] at a
     simpa using a.1.1
    exact .inr ⟨by rw[this],rfl⟩
   ·dsimp only at h
    rw[if_neg a,vd,hy] at h
    exact .inl h
  |false =>
   rw[vd,hy]
   by_cases a:(k'==ky&&env.scope.kind == .function&&env.kindOf n==some .cell)=true
   ·dsimp only at h
    rw[if_pos a,vd,hy] at h
    exact b h
   ·dsimp only at h
    rw[if_neg a,vd,hy] at h
    exact b h
noncomputable def PIf(Y:Cx)(ifs:List Expr)(tt:TT):Prop:=
 ∀(pins:List (Addr×Obj)) (s:Shared) (σ:St) (H:Hp) (Q:Bool->Hp->Prop),Inv Y pins σ H s->tt σ H Q ->
  wpAny (jl Y.prog Y.w) Y.A (forIn ifs true λc r=>if r=true then do let ok <- isTrue c Y.env (eval c Y.env);pure (w8 ok) else pure (w8 r)) (TP Y pins σ Q) Y.xe s
noncomputable def aT0:TT:=λ_ H Q=>Q true H
theorem aPZ{Y:Cx}:PIf Y [] aT0:=λpins s σ H Q I h=>by
 rw[KO]
 exact wpAny_pure ⟨H,I,h⟩
theorem aNP{Y:Cx}(h:PT Y c tt):PIf Y [c] tt:=λpins s σ H Q I q=>wpAny_tests_one (h pins s σ H Q I q)
theorem zJ{R:Result->Shared->Prop}{target:Expr}{it acc:Value}{env:Env}(I:Nat->Shared->Prop)(turn:∀n s,I n s->wpAny w.12 A (tq it) (λr s₁=>match r with
   |none=>R (.ok .next) s₁
   |some v=>wpAny w.12 A (l5 target it v) (λ_ s₁'=>wpAny w.12 A (assign target env v) (λ_ s₂ =>
     wpAny w.12 A (forIn ifs true λc r=>if r=true then do let ok <- isTrue c env (eval c env);pure (w8 ok) else pure (w8 r)) (λok s₃ =>
      if ok=true then wpAny w.12 A (eval elt env) (λx s₄ =>
       wpAny w.12 A (call (.builtin "list.append") [acc,x]) (λ_ s₅=>∃m,m<n/\I m s₅) (λ_ _=>False) s₄) (λ_ _=>False) s₃
      else ∃m,m<n/\I m s₃) (λ_ _=>False) s₂) (λ_ _=>False) s₁') (λ_ _=>False) s₁) (λ_ _=>False) s)(n:Nat)(h:I n s):
  nf w.12 A (.compLoop (.ListComp elt [⟨target,iter,ifs,0⟩] scope pos) 0 it acc env) R s:=by
 refine codeAny_loop rfl I (λn s b => ?_) n h
 show wpAny _ A ((compTurn (.ListComp elt [⟨target,iter,ifs,0⟩] scope pos) 0 it acc env).onRaise (λx=>do noteFrame x env;theTreesLotGoes x)) _ _ s
 refine wpAny_noted ?_
 rw[compTurn_list]
 refine qa (dk (qa (w7 (turn n s b) (λr s₁ h₁ => ?_) λ_ _ a=>a.elim)))
 cases r with
 |none=>exact wpAny_pure h₁
 |some v =>
  refine qa (w7 h₁ (λ_ s₁' h₁' => ?_) λ_ _ a=>a.elim)
  refine qa (w7 h₁' (λ_ s₂ h₂=>qa (w7 h₂ (λok s₃ h₃ => ?_) λ_ _ a=>a.elim)) λ_ _ a=>a.elim)
  cases ok with
  |false=>exact wpAny_pure ⟨rfl,h₃⟩
  |true =>
   exact qa (qa (w7 h₃ (λx s₄ h₄=>qa (w7 h₄ (λ_ s₅ h₅=>wpAny_pure ⟨rfl,h₅⟩.16) λ_ _ a=>a.elim)) λ_ _ a=>a.elim))
noncomputable def aUF(J:It)(cap:List Nat)(tt:TT)(te:TE)(σ:St)(H1:Hp)(Q:VK)(D:Addr):Prop:=∃W:Nat->Nat->List V->Hp->Prop,(∃m,W 0 m [] (upd H1 D (.lst [])))/\∀i m ys H2,W i m ys H2 ->
 H2 D=some (.lst ys)/\((J.stop i H2/\Q (.ref D) H2)\/(J.go i H2/\ys.length<sizeLine/\∀x H3,J.yld i H2 x H3 ->
  tt (some x::cap.map λk=>(σ[k]?).join) H3 λb H4=>if b=true then te (some x::cap.map λk=>(σ[k]?).join) H4 λy H5=>H5 D=some (.lst ys)/\∃m',m'<m/\W (i+1) m' (ys++[y]) (upd H5 D (.lst (ys++[y])))
   else ∃m',m'<m/\W (i+1) m' ys H4))
noncomputable def rN(wi:TI)(cap:List Nat)(tt:TT)(te:TE):TE:=λσ H Q=>wi σ H λJ H1=>∀D,H1 D=none->aUF J cap tt te σ H1 Q D
structure CFree(X:Cx)(pins:List (Addr×Obj))(H':Hp)(C:Addr):Prop where
 hn:H' C=none
 hL:C≠X.env.locals
 h1:X.s₀.heap.objs.size<=C
 h2:∀x c,X.env.cells.lookup x=some c->c≠C
 h3:∀p∈X.pn++pins,p.1≠C
noncomputable def aSM(un:V->Hp->List V->Prop)(J:It)(cap:List Nat)(tt:TT)(te:TE)(σ:St)(H1:Hp)(Q:VK)(D:Addr):Prop:=∃W:Nat->Nat->List V->Hp->Prop,(∃m,W 0 m [] (upd H1 D (.lst [])))/\∀i m ys H2,W i m ys H2 ->
 H2 D=some (.lst ys)/\((J.stop i H2/\Q (.ref D) H2)\/(J.go i H2/\ys.length<sizeLine/\∀x H3,J.yld i H2 x H3->∃us,un x H3 us /\
  tt (us.map some++cap.map λk=>(σ[k]?).join) H3 λc H4=>if c=true then te (us.map some++cap.map λk=>(σ[k]?).join) H4 λy H5=>H5 D=some (.lst ys)/\∃m',m'<m/\W (i+1) m' (ys++[y]) (upd H5 D (.lst (ys++[y])))
   else ∃m',m'<m/\W (i+1) m' ys H4))
noncomputable def aS2(un:V->Hp->List V->Prop)(wi:TI)(cap:List Nat)(tt:TT)(te:TE):TE:=λσ H Q=>wi σ H λJ H1=>∀D,H1 D=none->aSM un J cap tt te σ H1 Q D
theorem vI{xs:List Str}{un:V->Hp->List V->Prop}{gT:TG}{cap:List Nat}(hc:X.calm=true)(hkind:scope.kind = .function)(hnames:∀y∈scope.names,y.2 = .local->scope.names.lookup y.1=some .local)(hst:∀cs C s₀ H₀ fp,PG (aY X scope cs C (xs++ns) s₀ H₀ fp) tg gT)(hun:∀v H us (os rest:St),un v H us->os.length=xs.length->us.length=xs.length/\gT v (os++rest) H (λσ' H'=>σ'=us.map some++rest/\H'=H))(hlen:cap.length=ns.length)(hcap:∀(j k:Nat) (nm:Str),cap[j]?=some k->ns[j]?=some nm->X.N[k]?=some nm/\(X.env.scope.names.lookup nm=some .cell\/X.env.scope.names.lookup nm=some .free))(hns:∀nm∈ns,(nm,ky)∈scope.names/\(nm,wu)∉scope.names)(hnsk:∀nm∈ns,scope.names.lookup nm=some .free)(hfree:∀y∈scope.names,y.2 = .free->X.env.scope.names.lookup y.1=some .cell\/X.env.scope.names.lookup y.1=some .free)(hi:PI X tg iter wi)(ht:∀cs C s₀ H₀ fp,PIf (aY X scope cs C (xs++ns) s₀ H₀ fp) ifs tt)(he:∀cs C s₀ H₀ fp,PE (aY X scope cs C (xs++ns) s₀ H₀ fp) elt te)(hs:∀v,foldedSetIterable iter X.env v=pure v:=by intro _;rfl){use:Option (Value->Sem Unit)}{Q:VK}(I:Inv X pins σ H s)(h:aS2 un wi cap tt te σ H Q)(hfin:∀(D C:Addr) (H':Hp) (s':Shared),Inv X pins σ H' s'->Q (.ref D) H'->(∃m,s'.heap.Ns C m)->CFree X pins H' C->Qt X.w.14 X.A X.xe use Q' (.ref D) C (.ok .next) s'):
  wpAny X.w.14 X.A (gR (.ListComp elt [⟨tg,iter,ifs,0⟩] scope pos) scope X.env ip (Jv []) false (eval iter X.env) use) Q' X.xe s:=by
 obtain⟨cl,aH,ai,ao⟩:=yS (scope:=scope) (env:=X.env) λn hn=>I.ok.has n (hfree (n, .free) hn rfl)
 refine wpAny_comprehension_free (use:=use) rfl hs aH hkind hnames (thn (hi pins s σ H _ I h) λxv s1 h1=>thn h1 λaI s2 h2 => ?_)
 obtain⟨it,fp,tn,J,H2,rfl,I2,T,am,f2,q⟩:=h2
 have hD:H2 s2.heap.objs.size=none:=I2.fresh
 obtain⟨W,⟨m0,w0⟩,step⟩:=q s2.heap.objs.size hD
 refine va ?_ (by show 0<=sizeLine;exact k3 _)
 have I3:Inv X pins σ (upd H2 s2.heap.objs.size (.lst [])) {s2 with heap:=s2.heap.push {cls := .type "list", data := .seq ([]:List Value).toArray} }:=
  I2.laid (t':=s2.toks) (λb u e=>qc _ e) (qk _) ⟨k3 _,[],0, .nil,qu _ rfl⟩
 have ae:(s2.heap.push {cls := .type "list", data := .seq ([]:List Value).toArray}).objs.size=s2.heap.objs.size+1:=vg ..
 have B:∀b∈fp,∀o,(upd H2 s2.heap.objs.size (.lst [])) b≠some o:=λb f o z=>by
  obtain⟨ob,e,_⟩:=T.obj 0 _ am b f
  rw[bB (q4 (qv e)),(f2 b f).1] at z
  cases z
 revert I3 ae w0 step B
 generalize upd H2 s2.heap.objs.size (.lst [])=H3
 generalize hs3:({s2 with heap:=s2.heap.push {cls := .type "list", data := .seq ([]:List Value).toArray} }:Shared)=s3
 intro step w0 I3 ae B
 have ah:tn 0 s3.heap:=T.keep 0 _ _ am λb _ o e=>by rw[<- hs3];exact qc _ e
 have G:∀b∈fp,b<s3.heap.objs.size:=λb f=>by
  obtain⟨o,e,_⟩:=T.obj 0 _ ah b f
  exact qv e
 refine aCP ?_
 have new:CellsOk (gj (s3.heap.push {cls := .type "dict", data := .dict #[]}) scope.names) (s3.heap.objs.size+1) (cellsFrom (s3.heap.objs.size+1) scope.names []):=by
  have ok:=cellsFrom_ok scope.names (s3.heap.push {cls := .type "dict", data := .dict #[]}) (s3.heap.objs.size+1) [] ⟨λ_ _ hm=>(nomatch hm),cv⟩ (by rw[vg];exact qk _)
  rw[vg] at ok
  exact ok
 have g:∀b o,s3.heap.get? b=some o->(gj (s3.heap.push {cls := .type "dict", data := .dict #[]}) scope.names).get? b=some o:=λb o e=>Wx _ _ b o (qc _ e)
 have az:(gj (s3.heap.push {cls := .type "dict", data := .dict #[]}) scope.names).Ns s3.heap.objs.size (λ_=>none):=(Heap.Ns.new s3.heap (.type "dict")).keeps (Wx _ _)
 have lk:∀y c,(cl.20).lookup y=some c->((y,c)∈cellsFrom (s3.heap.objs.size+1) scope.names []/\(y,wu)∈scope.names)\/(cl.lookup y=some c/\X.env.cells.lookup y=some c):=λy c e=>by
  rw[i6,lZ] at e
  cases z:(cellsFrom (s3.heap.objs.size+1) scope.names []).lookup y with
  |some c' =>
   rw[z] at e
   have e':c'=c:=je e
   subst e'
   have hm:=vw z
   rcases vV _ _ _ hm with q|q
   ·exact .inl ⟨hm,q⟩
   ·cases q
  |none=>rw[z] at e;exact .inr ⟨e,ai y c e⟩
 have oldLt:∀y c,X.env.cells.lookup y=some c->c<s3.heap.objs.size:=λy c e=>by
  obtain⟨v,z⟩:=I3.cell y c e
  exact z.lt
 have an:∀nm∈ns,∃c,(cl.20).lookup nm=some c/\X.env.cells.lookup nm=some c:=λnm ax=>by
  obtain⟨h1,h2⟩:=hns nm ax
  obtain⟨c,e⟩:=ao nm h1
  refine⟨c,?_,ai nm c e⟩
  rw[i6,lZ]
  cases z:(cellsFrom (s3.heap.objs.size+1) scope.names []).lookup nm with
  |some c' =>
   rcases vV _ _ _ (vw z) with q|q
   ·exact absurd q h2
   ·cases q
  |none=>exact e
 show nf X.w.14 X.A (.compStart (.ListComp elt [⟨tg,iter,ifs,0⟩] scope pos) 0 (.ref it) (.ref s2.heap.objs.size) (fp.22).env) (Qt X.w.14 X.A X.xe use Q' (.ref s2.heap.objs.size) s3.heap.objs.size) {s3 with heap:=gj (s3.heap.push {cls := .type "dict", data := .dict #[]}) scope.names}
 have ar:=ht cl.20 s3.heap.objs.size s3 H3 fp
 have ay:=he cl.20 s3.heap.objs.size s3 H3 fp
 have OK:(fp.22).Ok:=by
  refine⟨I3.ok.mod,hkind,I3.ok.glob,I3.ok.blt,qk _,λy z c S R => ?_,λy hy => ?_,λy c hf e => ?_,λ_=>I3.ok.hd hc,I3.ok.frames, .inl rfl,λb f=>⟨q4 (G b f),λy c e => ?_⟩,I3.bs,qq I3.ok.bsz I3.sz,λb o e f => ?_,λb f hm => ?_,I3.stack,I3.stkFree⟩
  ·rcases lk y c S with ⟨a1,_⟩|⟨a1,a2⟩ <;> rcases lk z c R with ⟨b1,_⟩|⟨b1,b2⟩
   ·exact name_of_addr new.apart a1 b1
   ·exact absurd (qy (oldLt z c b2) (b3 (new.empty y c a1).2)) (x4 _)
   ·exact absurd (qy (oldLt y c a2) (b3 (new.empty z c b1).2)) (x4 _)
   ·exact I3.ok.inj y z c a2 b2
  ·have key:scope.names.lookup y=some .cell\/scope.names.lookup y=some .free:=by
    rcases hy with hy|hy
    ·rcases gU (env:=X.env) (names:=scope.names) hy with q|⟨q,_⟩
     ·exact .inl q
     ·exact .inr q
    ·rcases gU (env:=X.env) (names:=scope.names) hy with q|⟨q,_⟩
     ·exact .inr q
     ·exact .inr q
   rcases key with q|q
   ·exact zm.mp (yy scope.names (s3.heap.objs.size+1) cl (.inl q))
   ·obtain⟨c,e⟩:=ao y (vw q)
    exact zm.mp (yy scope.names (s3.heap.objs.size+1) cl (.inr (by rw[e];rfl)))
  ·have av:scope.names.lookup y=some .cell:=by
    have as:(scope.names.lookup y==some .cell)=true:=hf
    simpa using as
   have e':(cl.20).lookup y=some c:=e
   have e0:=zm.mp (yy scope.names (s3.heap.objs.size+1) [] (.inl av))
   obtain⟨c',z⟩:=e0
   rw[i6,lZ,z] at e'
   cases e'
   exact b3 (new.empty y c (vw z)).2
  ·rcases lk y c e with ⟨a1,_⟩|⟨a1,a2⟩
   ·exact λz=>absurd (qy (G b f) (z▸b3 (new.empty y c a1).2)) (x4 _)
   ·exact (f2 b f).2.2.2.2.1 y c a2
  ·rcases (f2 b f).2.2.2.1 with z|z
   ·exact I3.ok.noex b o e z
   ·exact absurd (qy (qv (I3.ok.bs b o e).1) z) (x4 _)
  ·rcases qp.mp (I3.stkSub b hm) with z|z
   ·exact (f2 b f).2.1 z
   ·exact (f2 b f).2.2.1 z
 have IY:Inv fp.22 [] (jz xs.length none++cap.map λk=>(σ[k]?).join) H3 {s3 with heap:=gj (s3.heap.push {cls := .type "dict", data := .dict #[]}) scope.names}:=by
  refine⟨OK,rfl,I3.bare,Un.kept g,⟨_,az,λi nm v S R e3 => ?_⟩,λy c e => ?_,I3.fresh,λy c e => ?_,λp hp=>absurd (show p∈([]:List (Addr×Obj)) from hp) '%',I3.hok.kept g,by simp[aY,hlen]⟩
  ·by_cases Z:i<xs.length
   ·rw[q6 (by rw[xk];exact Z),x3,if_pos Z] at R
    cases R
   ·obtain⟨j,rfl⟩:∃j,i=xs.length+j:=⟨i-xs.length,by omega⟩
    have F:ns[j]?=some nm:=by
     have S:(xs++ns)[xs.length+j]?=some nm:=S
     rw[qr '$',fv] at S
     exact S
    have E:(cap.map λk=>(σ[k]?).join)[j]?=some (some v):=by
     rw[qr (by rw[xk];omega),xk,fv] at R
     exact R
    rw[qg] at E
    cases hk:cap[j]? with
    |none=>rw[hk] at E;cases E
    |some k =>
     rw[hk] at E
     have t:(σ[k]?).join=some v:=je E
     have e4:σ[k]?=some (some v):=by
      cases z:σ[k]? with
      |none=>rw[z] at t;cases t
      |some o=>rw[z] at t;exact congrArg some t
     obtain⟨hN,x⟩:=hcap j k nm hk F
     obtain⟨m,_,hl⟩:=I3.loc
     obtain⟨u,r,l⟩:=hl k nm v hN e4 (.inr x)
     refine⟨u,r,?_⟩
     rcases l with ⟨l1,_⟩|⟨_,c,ec,z⟩
     ·have ak:X.env.scope.names.lookup nm=some .local:=l1
      rcases x with q|q <;> rw[q] at ak <;> cases ak
     ·obtain⟨c',g1,g2⟩:=an nm (zMo F)
      rw[ec] at g2
      cases g2
      refine .inr ⟨?_,c,g1,?_⟩
      ·rcases e3 with q|q
       ·rcases gU (env:=X.env) (names:=scope.names) q with w1|⟨_,w1⟩
        ·exfalso
         have af:=(hns nm (zMo F)).1
         have:=hnames (nm, .local) (vw w1) rfl
         -- a name has one kind in a scope: its cell is known,so it is not local here
         exact absurd (I3.ok.has nm (hfree (nm, .free) af rfl)) (λ_=>by
          have ac:=(hnsk nm (zMo F))
          rw[w1] at ac;cases ac)
        ·cases w1
       ·exact q
      ·obtain⟨o,ho,hd⟩:=z
       exact⟨o,g c o ho,hd⟩
  ·rcases lk y c e with ⟨a1,_⟩|⟨a1,a2⟩
   ·exact⟨none,(new.empty y c a1).1⟩
   ·obtain⟨v,o,ho,hd⟩:=I3.cell y c a2
    exact⟨v,o,g c o ho,hd⟩
  ·rcases lk y c e with ⟨a1,_⟩|⟨a1,a2⟩
   ·exact I3.hok.fresh (b3 (new.empty y c a1).2)
   ·exact I3.freeC y c a2
 -- what is reached at the end
 have fin:∀{σ':St}{H':Hp}{s':Shared},Inv fp.22 [] σ' H' s'->Q (.ref s2.heap.objs.size) H' ->
   Qt X.w.14 X.A X.xe use Q' (.ref s2.heap.objs.size) s3.heap.objs.size (.ok .next) s':=λ{σ' H' s'} J qd=>by
  obtain⟨m',aB,_⟩:=J.loc
  have aF:H' s3.heap.objs.size=none:=J.free
  refine hfin _ _ H' s' (I3.call' (ch:=fp) J.os J.base J.hok J.bare λb f=>⟨(f2 b f).2.2.2.1,(f2 b f).2.1,(f2 b f).2.2.2.2.1,(f2 b f).2.2.2.2.2⟩) qd ⟨m',aB⟩ ⟨aF,dz I3.lt,I3.sz,λy c e=>q4 (oldLt y c e),λp hp=>q4 (qv (I3.pin p hp).1)⟩
 have M:∀{H':Hp},(∀b∈fp,H' b=none)->∀b∈fp,mX fp.22 [] H' b:=λ{H'} hn b f =>
  ⟨hn b f,(OK.exf b f).1,OK.exfs b f, .inl f,(OK.exf b f).2,λp hp=>absurd (show p∈([]:List (Addr×Obj)) from hp) '%'⟩
 have al:tn 0 (gj (s3.heap.push {cls := .type "dict", data := .dict #[]}) scope.names):=T.keep 0 _ _ ah λb _ o e=>g b o e
 have ap:∀b∈fp,H3 b=none:=λb f=>by
  cases z:H3 b with
  |none=>rfl
  |some o=>exact absurd rfl (λ_:(1:Nat)=1=>B b f o z)
 have loop:nf X.w.14 X.A (.compLoop (.ListComp elt [⟨tg,iter,ifs,0⟩] scope pos) 0 (.ref it) (.ref s2.heap.objs.size) (fp.22).env) (Qt X.w.14 X.A X.xe use Q' (.ref s2.heap.objs.size) s3.heap.objs.size) {s3 with heap:=gj (s3.heap.push {cls := .type "dict", data := .dict #[]}) scope.names}:=by
  refine zJ (λn s'=>∃i P os H',os.length=xs.length/\Inv fp.22 [] (os++cap.map λk=>(σ[k]?).join) H' s'/\tn i s'.heap/\(∀b∈fp,H' b=none)/\W i n P H') ?_ m0 ⟨0,[],jz xs.length none,H3,xk,IY,al,ap,w0⟩
  rintro n s5 ⟨i,P,os,H5,aw,I5,ab,ag,w5⟩
  obtain⟨eD,alt⟩:=step i n P H5 w5
  rcases alt with ⟨stop,qd⟩|⟨go,hz,turn⟩
  ·refine thn (T.done fp.22 rfl rfl rfl hc i [] s5 _ H5 (λ_ _=>False) I5 (M ag) ab stop) λr s6 ⟨hr,I6⟩ => ?_
   subst hr
   exact fin I6 qd
  ·refine thn (T.item fp.22 rfl rfl rfl hc i [] s5 _ H5 (λ_ _=>False) I5 (M ag) ab go) λr s6 ⟨u,hr,h6⟩ => ?_
   subst hr
   refine thn h6 λ_ s7 ⟨O,H7,I7,r7,y7,L,au⟩ => ?_
   have I7':=I7.pinned (M au) (T.obj _ _ L)
   obtain⟨us,ex,K⟩:=turn O _ y7
   obtain⟨U,gx⟩:=hun O H7 us os (cap.map λk=>(σ[k]?).join) ex aw
   refine thn (hst _ _ _ _ _ _ s7 _ H7 O u (λσ8 H8=>σ8=(us.map some++cap.map λk=>(σ[k]?).join)/\H8=H7) I7' r7 gx) λ_ s8 ⟨σ8,H8,I8,e8,aq⟩ => ?_
   subst e8 aq
   have back:∀{σ9:St}{H9:Hp}{Y:Shared},Inv fp.22 ([]++rC fp s7.heap) σ9 H9 Y->tn (i+1) Y.heap/\∀b∈fp,H9 b=none:=λ{σ9 H9 Y} I9=>by
    refine⟨T.keep _ _ _ L λb f o e=>(I9.pin (b,o) (kq _ (kq _ (lO f e)))).1,λb f => ?_⟩
    obtain⟨o,e,d⟩:=T.obj _ _ L b f
    exact (I9.pin (b,o) (kq _ (kq _ (lO f e)))).2.1
   refine thn (ar _ s8 _ _ _ I8 K) λb Y ⟨H9,I9,q9⟩ => ?_
   cases b with
   |false =>
    rw[if_neg zBf] at q9 ⊢
    obtain⟨m',hm,w9⟩:=q9
    obtain⟨st9,aA⟩:=back I9
    exact⟨m',hm,i+1,P,us.map some,H9,by rw[zLm];exact U,I9.unpinned,st9,aA,w9⟩
   |true =>
    rw[if_pos rfl] at q9 ⊢
    refine thn (ay _ Y _ _ _ I9 q9) λyv aC ⟨y,H10,I10,aG,ad,m',hm,aD⟩ => ?_
    refine thn (c8 (X:=aY X scope cl.20 s3.heap.objs.size (xs++ns) s3 H3 fp) _ aC _ H10 (.ref s2.heap.objs.size) [y] (.ref s2.heap.objs.size) [yv] (λ_ H11=>H11=upd H10 s2.heap.objs.size (.lst (P++[y]))) I10 rfl (.cons aG .nil) ⟨_,P,y,rfl,rfl,ad,hz,rfl⟩) λ_ aJ ⟨_,H11,I11,_,aE⟩ => ?_
    subst aE
    obtain⟨aj,aa⟩:=back I11
    exact⟨m',hm,i+1,_,us.map some,_,by rw[zLm];exact U,I11.unpinned,aj,aa,aD⟩
 exact codeAny_compStart_list loop (T.self X.A 0 _ _ _ al loop)
noncomputable def wiM(wi:TI):TI:=λσ H R'=>∃R:It->Hp->Prop,(∀J H1,R J H1->R' J H1)/\wi σ H R
theorem aDU(h:PI X tg iter wi):PI X tg iter (wiM wi):=λpins s σ H R' I ⟨R,a,hw⟩ =>
 thn (h pins s σ H R I hw) λv s1 d=>thn d λw s2 ⟨it,c,b,J,H2,e,I2,T,st,f,r⟩=>⟨it,c,b,J,H2,e,I2,T,st,f,a J H2 r⟩
theorem xO{cap:List Nat}(hc:X.calm=true)(hkind:scope.kind = .function)(hnames:∀y∈scope.names,y.2 = .local->scope.names.lookup y.1=some .local)(hx:Loc (cI scope X.env) x)(hxf:scope.names.lookup x=some .cell\/(cI scope X.env).names.lookup x=some .local)(hNc:(x::ns).Nodup)(hlen:cap.length=ns.length)(hcap:∀(j k:Nat) (nm:Str),cap[j]?=some k->ns[j]?=some nm->X.N[k]?=some nm/\(X.env.scope.names.lookup nm=some .cell\/X.env.scope.names.lookup nm=some .free))(hns:∀nm∈ns,(nm,ky)∈scope.names/\(nm,wu)∉scope.names)(hnsk:∀nm∈ns,scope.names.lookup nm=some .free)(hfree:∀y∈scope.names,y.2 = .free->X.env.scope.names.lookup y.1=some .cell\/X.env.scope.names.lookup y.1=some .free)(hi:PI X (.Name x px) iter wi)(ht:∀cs C s₀ H₀ fp,PIf fp.19 ifs tt)(he:∀cs C s₀ H₀ fp,PE fp.19 elt te)(hs:∀v,foldedSetIterable iter X.env v=pure v:=by intro _;rfl){use:Option (Value->Sem Unit)}{Q:VK}(I:Inv X pins σ H s)(h:rN wi cap tt te σ H Q)(hfin:∀(D C:Addr) (H':Hp) (s':Shared),Inv X pins σ H' s'->Q (.ref D) H'->(∃m,s'.heap.Ns C m)->CFree X pins H' C->Qt X.w.14 X.A X.xe use Q' (.ref D) C (.ok .next) s'):
  wpAny X.w.14 X.A (gR ',' scope X.env ip (Jv []) false (eval iter X.env) use) Q' X.xe s:=by
 refine vI (xs:=[x]) (un:=λv _ us=>us=[v]) (gT:=oB 0) hc hkind hnames (λr n f e p=>sF (X:=aY X scope r n ([x]++ns) f e p) (i:=0) hNc rfl hx (hxf.elim (λz => .inl (by show (scope.names.lookup _==some .cell)=true;rw[z];rfl)) .inr)) (λv H us os rest u l => ?_) hlen hcap hns hnsk hfree (aDU hi) ht he hs I ⟨_,λJ H1 g D q => ?_,h⟩ hfin
 ·subst u
  match os,l with
  |[o],_=>exact⟨rfl,rfl,rfl⟩
 ·obtain⟨W,t,st⟩:=g D q
  exact⟨W,t,λi m d H2 w=>⟨(st i m d H2 w).1,(st i m d H2 w).2.imp id λ⟨a,b,c⟩=>⟨a,b,λv H3 y=>⟨[v],rfl,c v H3 y⟩⟩⟩⟩
theorem aN1{cap:List Nat}(hc:X.calm=true)(hkind:scope.kind = .function)(hnames:∀y∈scope.names,y.2 = .local->scope.names.lookup y.1=some .local)(hx:Loc (cI scope X.env) x)(hxf:scope.names.lookup x=some .cell\/(cI scope X.env).names.lookup x=some .local)(hNc:(x::ns).Nodup)(hlen:cap.length=ns.length)(hcap:∀(j k:Nat) (nm:Str),cap[j]?=some k->ns[j]?=some nm->X.N[k]?=some nm/\(X.env.scope.names.lookup nm=some .cell\/X.env.scope.names.lookup nm=some .free))(hns:∀nm∈ns,(nm,ky)∈scope.names/\(nm,wu)∉scope.names)(hnsk:∀nm∈ns,scope.names.lookup nm=some .free)(hfree:∀y∈scope.names,y.2 = .free->X.env.scope.names.lookup y.1=some .cell\/X.env.scope.names.lookup y.1=some .free)(hi:PI X (.Name x px) iter wi)(ht:∀cs C s₀ H₀ fp,PIf fp.19 ifs tt)(he:∀cs C s₀ H₀ fp,PE fp.19 elt te)(hs:∀v,foldedSetIterable iter X.env v=pure v:=by intro _;rfl):
  PE X ',' (rN wi cap tt te):=by
 intro pins s σ H Q I h
 rw[eval_ListComp]
 refine xO hc hkind hnames hx hxf hNc hlen hcap hns hnsk hfree hi ht he hs (use:=none) I h λD C H' f J q ⟨m,hn⟩ a=>⟨m,hn,λg c => ?_⟩
 exact⟨.ref D,H',J.turned (t':=f.toks) (it:=C) (λb o d e=>(c.2 b d).trans e) a.hn a.hL (.inr a.h1) a.h2 a.h3,rfl,q⟩
theorem aF4{y:Str}{iy:Nat}{cap:List Nat}(hN:X.N.Nodup)(hiy:X.N[iy]?=some y)(hyl:X.env.scope.names.lookup y=some .local)(hc:X.calm=true)(hkind:scope.kind = .function)(hnames:∀y∈scope.names,y.2 = .local->scope.names.lookup y.1=some .local)(hx:Loc (cI scope X.env) x)(hxf:scope.names.lookup x=some .cell\/(cI scope X.env).names.lookup x=some .local)(hNc:(x::ns).Nodup)(hlen:cap.length=ns.length)(hcap:∀(j k:Nat) (nm:Str),cap[j]?=some k->ns[j]?=some nm->X.N[k]?=some nm/\(X.env.scope.names.lookup nm=some .cell\/X.env.scope.names.lookup nm=some .free))(hns:∀nm∈ns,(nm,ky)∈scope.names/\(nm,wu)∉scope.names)(hnsk:∀nm∈ns,scope.names.lookup nm=some .free)(hfree:∀y∈scope.names,y.2 = .free->X.env.scope.names.lookup y.1=some .cell\/X.env.scope.names.lookup y.1=some .free)(hi:PI X (.Name x px) iter wi)(ht:∀cs C s₀ H₀ fp,PIf fp.19 ifs tt)(he:∀cs C s₀ H₀ fp,PE fp.19 elt te)(hs:∀v,foldedSetIterable iter X.env v=pure v:=by intro _;rfl)(hsw:d4 ',' (some (.Name y py)) spos.line X.env=pure true:=by rfl):
  PS X (.Assign [.Name y py] ',' spos) (zI (rN wi cap tt te) (oB iy)):=by
 intro pins s σ H D I h
 rw[Kk _ _ _ _ hsw]
 refine qa (dk (qa ?_))
 show wpAny _ X.A (do let _ <- gR ',' scope X.env _ (Jv []) false (eval iter X.env) (some (assign (.Name y py) X.env))) _ _ s
 refine qa (w7 (xO hc hkind hnames hx hxf hNc hlen hcap hns hnsk hfree hi ht he hs (use:=some (assign (.Name y py) X.env)) (Q':=λ_ i=>SP X pins D .next i) I h λL C H' i J q ⟨m,hn⟩ c => ?_) (λ_ i p=>wpAny_pure p.16) λ_ _ e=>e)
 refine se (qM J hN hiy (.inl hyl) (v := .ref L) rfl (λs2 J2 ⟨a,l,f⟩ => ?_) (.inr hyl))
 have g:C≠a:=by
  rcases f with rfl|f
  ·exact c.hL
  ·exact cb (c.h2 y a f)
 refine⟨m,hn.sameBut l g,λr d => ?_⟩
 exact⟨_,H',J2.turned (t':=s2.toks) (it:=C) (λb o n e=>(d.2 b n).trans e) c.hn c.hL (.inr c.h1) c.h2 c.h3,q⟩
noncomputable def Its(x:Str):It:=⟨λi _=>i<x.cps.size,λi H v H'=>H'=H/\∃c,x.cps[i]?=some c/\v = .str ⟨#[c]⟩,λi _=>x.cps.size<=i⟩
theorem aAM{K:qh}(x:Str)(t:Tok)(it:Addr)(b:Bool):Turn P w K tg (Its x) [it] it (λi h=>h.IsStrIter it (if b then "str_ascii_iterator" else "str_iterator") x t i) where
 mem:=by simp
 obj:=λi h st b f=>by
  have e:b=it:=by simpa using f
  subst e
  obtain⟨o,e,c,d⟩:=st
  exact⟨o,e,λv z=>by rw[d] at z;cases z⟩
 keep:=λi h j st k=>by
  obtain⟨o,e,r⟩:=st
  exact⟨o,k it '%' o e,r⟩
 item:=by
  intro X n hw u y i pins s σ H E I hf st p
  subst n hw u
  obtain⟨f0,f1,f2,l,f4,m⟩:=hf it '%'
  have a:i<x.cps.size:=p
  cases b with
  |true =>
   refine wpAny_pyNext_ascii_item st (c:=x.cps[i]) (by simp[a]) λj g q => ?_
   have I1:Inv X pins σ H {s with heap:=j,toks:=s.toks+1}:=I.turned (t':=s.toks+1) (λb o f e=>(q.2 b f).trans e) f0 f1 l f4 m
   obtain⟨o,e,c,d⟩:=id g
   exact⟨_,rfl,wB (s:={s with heap:=j,toks:=s.toks+1}) e c d '#' ⟨.str ⟨#[x.cps[i]]⟩,H,I1,⟨s.toks,rfl⟩,⟨rfl,_,by simp[a],rfl⟩,g,λb f=>(hf b f).1⟩⟩
  |false =>
   refine wpAny_pyNext_wide_item st (c:=x.cps[i]) (by simp[a]) λj g q => ?_
   have I1:Inv X pins σ H {s with heap:=j,toks:=s.toks+1}:=I.turned (t':=s.toks+1) (λb o f e=>(q.2 b f).trans e) f0 f1 l f4 m
   obtain⟨o,e,c,d⟩:=id g
   exact⟨_,rfl,wB (s:={s with heap:=j,toks:=s.toks+1}) e c d '#' ⟨.str ⟨#[x.cps[i]]⟩,H,I1,⟨s.toks,rfl⟩,⟨rfl,_,by simp[a],rfl⟩,g,λb f=>(hf b f).1⟩⟩
 done:=by
  intro X n hw u y i pins s σ H E I hf st p
  subst n hw u
  obtain⟨f0,f1,f2,l,f4,m⟩:=hf it '%'
  have a:x.cps.size<=i:=p
  cases b with
  |true=>exact wpAny_pyNext_ascii_end (I.ok.hd y) st (by simp[a]) λj A=>⟨rfl,I.turned (t':=s.toks) (λb o f e=>A b o f e) f0 f1 l f4 m⟩
  |false=>exact wpAny_pyNext_wide_end (I.ok.hd y) st (by simp[a]) λj A=>⟨rfl,I.turned (t':=s.toks) (λb o f e=>A b o f e) f0 f1 l f4 m⟩
 self:=λ_ _ _ _ _ st h=>by
  cases b with
  |true=>exact wpAny_pyIter_striter_ascii st h
  |false=>exact wpAny_pyIter_striter_wide st h
noncomputable def iStr(tl:TE):TI:=λσ H R=>tl σ H λx H1=>∃z,x = .str z/\R (Its z) H1
theorem aRE{l:Expr}{tl:TE}(hl:PE X l tl):PI X tg l (iStr tl):=by
 intro pins s σ H R I h
 refine thn (hl pins s σ H _ I h) λv s1 ⟨x,H1,I1,r1,d⟩ => ?_
 obtain⟨z,e,q⟩:=d
 subst e
 obtain⟨t,rfl⟩:=r1
 have a:∀b∈[s1.heap.objs.size],mX X pins H1 b:=λb c=>by
  have e:b=s1.heap.objs.size:=by simpa using c
  subst e
  exact I1.fpOk (qk _) (I1.hok.fresh (qk _))
 cases ha:z.cps.all (· < 128)
 ·exact wpAny_pyIter_wide ha ⟨s1.heap.objs.size,[s1.heap.objs.size],_,_,H1,rfl,I1.kept (t':=s1.toks) λb o e=>qc _ e,aAM z t _ false,⟨_,qu _ rfl,rfl,rfl⟩,a,q⟩
 ·exact wpAny_pyIter_ascii ha ⟨s1.heap.objs.size,[s1.heap.objs.size],_,_,H1,rfl,I1.kept (t':=s1.toks) λb o e=>qc _ e,aAM z t _ true,⟨_,qu _ rfl,rfl,rfl⟩,a,q⟩
structure Yields(J:It)(xs:List V)(Kp:Hp->Prop):Prop where
 go:∀i H,Kp H->i<xs.length->J.go i H
 yld:∀i H x H',Kp H->J.yld i H x H'->i<xs.length->H'=H/\xs[i]?=some x
 stop:∀i H,Kp H->xs.length<=i->J.stop i H
theorem wT{K:qh}{xs:List V}:Yields (Itl K a) xs (λH=>SqL K H a xs) where
 go:=λi H k h=>⟨xs,xs[i],k,by simp[h]⟩
 yld:=λi H x H' k y _=>⟨y.1,y.2 xs k⟩
 stop:=λi H k h=>⟨xs,k,h⟩
theorem aBI{K:qh}{xs:List V}:Yields (Itt K a) xs (λH=>SqT K H a xs) where
 go:=λi H k h=>⟨xs,xs[i],k,by simp[h]⟩
 yld:=λi H x H' k y _=>⟨y.1,y.2 xs k⟩
 stop:=λi H k h=>⟨xs,k,h⟩
noncomputable def Butd(D:Addr)(H H':Hp):Prop:=∀b o,b≠D->H b=some o->H' b=some o
theorem Butd.upd{D:Addr}{o:HO}:Butd D H (upd H D o):=λb u n e=>by rw[bB n];exact e
theorem Same.but{D:Addr}(s:Same H1 H)(n:H1 D=none)(b:Butd D H H'):Same H1 H':=λc o e=>b c o (bM e n) (s c o e)
theorem yH{D:Addr}{o:HO}(n:H D=none):Same H (upd H D o):=(Same.refl H).but n Butd.upd
theorem take_snoc{α:Type}{xs:List α}{x:α}(h:xs[i]?=some x):xs.take (i+1)=xs.take i++[x]:=by
 rw[List.take_succ,h];rfl
end L2
namespace L2
open PySem PySem.Spec PyProof.Rows
section
theorem n0{bs:List Bool}(r:Vals (bs.map V.bl) its){v:Value}(e:its.toArray[i]?=some v):v = .bool (bs.getD i false):=by
 have b:its[i]?=some v:=by simpa using e
 have hl:=r.length
 rw[zLm] at hl
 have c:i<bs.length:=by
  have:=(zGs b).1
  omega
 have f:(bs.map V.bl)[i]?=some (.bl bs[i]):=by simp[c]
 obtain⟨u,a,d⟩:=r.get f
 rw[b] at a
 cases a
 have:v = .bool bs[i]:=d
 rw[this]
 simp[List.getD,c]
theorem all_range(bs:List Bool):((q7 bs.length).all λi=>bs.getD i false)=bs.all id:=by
 induction bs with
 |nil=>rfl
 |cons b r ih =>
  rw[ja,gb,Qw,gu,Qw]
  rw[<- ih]
  rfl
theorem any_range(bs:List Bool):((q7 bs.length).any λi=>bs.getD i false)=bs.any id:=by
 induction bs with
 |nil=>rfl
 |cons b r ih =>
  rw[ja,gb,KZ,List.any_map,KZ]
  rw[<- ih]
  rfl
noncomputable def aMC(K:qh)(g:List Bool->Bool):List V->Hp->VK->Prop:=λxs H Q=>∃p bs,xs=[.ref p]/\(SqL K H p (bs.map V.bl)\/SqT K H p (bs.map V.bl))/\Q (.bl (g bs)) H
theorem j5(hc:X.calm=true):dY X (.builtin "all") (aMC X.K λbs=>bs.all id):=by
 intro pins s σ H xs us Q I r h
 obtain⟨p,bs,rfl,l,q⟩:=h
 obtain⟨u,rfl,w⟩:=vals1 r
 cases w
 refine call_all_walk ?_
 rcases l with l|l
 ·obtain⟨a,g,j,t⟩:=I.list l
  have hlen:=g.length
  rw[zLm] at hlen
  refine cq j.isList ?_
  have c:p≠s.heap.objs.size:=q4 (qv j.isList.choose_spec.1)
  refine⟨_,_,_,_,_,_,λi=>bs.getD i false,rfl,JA (show X.A.in1.handled=none from I.ok.hd hc) s.heap.objs.size p c a.toArray,⟨⟨_,qu _ rfl,rfl,rfl⟩,?_⟩,?_,?_⟩
  ·obtain⟨o,e,z⟩:=j.isList
   exact⟨o,qc _ e,z⟩
  ·intro i v x Q' E' m d
   rw[n0 g m]
   exact vq d
  ·intro n tk k
   refine⟨.bl (bs.all id),H,?_,?_,q⟩
   ·exact I.kept (t':=tk) λb o e=>k b o (by simp;exact q4 (qv e)) (qc _ e)
   ·show wd _=wd _
    rw[<- all_range bs,qf,<- hlen]
 ·obtain⟨a,g,j,t⟩:=I.tuple l
  have hlen:=g.length
  rw[zLm] at hlen
  have f:s.heap.IsTuple p a.toArray:=j
  refine wpAny_pyIter_tuple f ?_
  have c:p≠s.heap.objs.size:=q4 (qv f.choose_spec.1)
  refine⟨_,_,_,_,_,_,λi=>bs.getD i false,rfl,Q0 (show X.A.in1.handled=none from I.ok.hd hc) s.heap.objs.size p c a.toArray,⟨⟨_,qu _ rfl,rfl,rfl⟩,?_⟩,?_,?_⟩
  ·obtain⟨o,e,z⟩:=f
   exact⟨o,qc _ e,z⟩
  ·intro i v x Q' E' m d
   rw[n0 g m]
   exact vq d
  ·intro n tk k
   refine⟨.bl (bs.all id),H,?_,?_,q⟩
   ·exact I.kept (t':=tk) λb o e=>k b o (by simp;exact q4 (qv e)) (qc _ e)
   ·show wd _=wd _
    rw[<- all_range bs,qf,<- hlen]
theorem aLR(hc:X.calm=true):dY X (.builtin "any") (aMC X.K λbs=>bs.any id):=by
 intro pins s σ H xs us Q I r h
 obtain⟨p,bs,rfl,l,q⟩:=h
 obtain⟨u,rfl,w⟩:=vals1 r
 cases w
 refine call_any_walk ?_
 rcases l with l|l
 ·obtain⟨a,g,j,t⟩:=I.list l
  have hlen:=g.length
  rw[zLm] at hlen
  refine cq j.isList ?_
  have c:p≠s.heap.objs.size:=q4 (qv j.isList.choose_spec.1)
  refine⟨_,_,_,_,_,_,λi=>bs.getD i false,rfl,JA (show X.A.in1.handled=none from I.ok.hd hc) s.heap.objs.size p c a.toArray,⟨⟨_,qu _ rfl,rfl,rfl⟩,?_⟩,?_,?_⟩
  ·obtain⟨o,e,z⟩:=j.isList
   exact⟨o,qc _ e,z⟩
  ·intro i v x Q' E' m d
   rw[n0 g m]
   exact vq d
  ·intro n tk k
   refine⟨.bl (bs.any id),H,?_,?_,q⟩
   ·exact I.kept (t':=tk) λb o e=>k b o (by simp;exact q4 (qv e)) (qc _ e)
   ·show wd _=wd _
    rw[<- any_range bs,qf,<- hlen]
 ·obtain⟨a,g,j,t⟩:=I.tuple l
  have hlen:=g.length
  rw[zLm] at hlen
  have f:s.heap.IsTuple p a.toArray:=j
  refine wpAny_pyIter_tuple f ?_
  have c:p≠s.heap.objs.size:=q4 (qv f.choose_spec.1)
  refine⟨_,_,_,_,_,_,λi=>bs.getD i false,rfl,Q0 (show X.A.in1.handled=none from I.ok.hd hc) s.heap.objs.size p c a.toArray,⟨⟨_,qu _ rfl,rfl,rfl⟩,?_⟩,?_,?_⟩
  ·obtain⟨o,e,z⟩:=f
   exact⟨o,qc _ e,z⟩
  ·intro i v x Q' E' m d
   rw[n0 g m]
   exact vq d
  ·intro n tk k
   refine⟨.bl (bs.any id),H,?_,?_,q⟩
   ·exact I.kept (t':=tk) λb o e=>k b o (by simp;exact q4 (qv e)) (qc _ e)
   ·show wd _=wd _
    rw[<- any_range bs,qf,<- hlen]
theorem wI:∀{ys:List Str}{its:List Value},Vals (ys.map V.str) its->StrsAre its ys
 |[],_,r=>by cases r;exact .nil
 |y::ys,_,r=>by
  cases r with
  |cons a b =>
   obtain⟨t,rfl⟩:=a
   exact .cons y t (wI b)
noncomputable def rJoin(K:qh):V->List V->Hp->VK->Prop:=λx vs H Q=>∃sep p ys,x = .str sep/\vs=[.ref p]/\(SqL K H p (ys.map V.str)\/SqT K H p (ys.map V.str))/\sep.length<=16/\(ys.map (·.length)).sum+ys.length<=1048576/\Q (.str (K8 sep ys)) H
theorem sP:MtR X "str.join" (rJoin X.K):=by
 intro pins s σ H x vs u us Q I l m h
 obtain⟨sep,p,n,rfl,rfl,a,g,f,q⟩:=h
 obtain⟨v,rfl,i⟩:=vals1 m
 cases i
 obtain⟨t,rfl⟩:=l
 rcases a with a|a
 ·obtain⟨e,b,d,j⟩:=I.list a
  exact join_listW d.isList (wI b) g f λc k=>⟨.str _,H,I.tok k,⟨c,rfl⟩,q⟩
 ·obtain⟨e,b,d,j⟩:=I.tuple a
  exact join_tupleW d (wI b) g f λc k=>⟨.str _,H,I.tok k,⟨c,rfl⟩,q⟩
noncomputable def iY(x:Str)(n:Nat):Str:=⟨(jz n x.cps).foldl (· ++ ·) #[]⟩
theorem zF(a:Array Nat):∀(n:Nat) (acc:Array Nat),((jz n a).foldl (· ++ ·) acc).toList=acc.toList++(jz n a.toList).flatten
 |0,acc=>by simp
 |n+1,acc=>by
  rw[ya,yp,zF a n,ya,xf]
  simp
theorem k4(x:Str)(n:Nat):(iY x n).cps.toList=(jz n x.cps.toList).flatten:=by
 unfold iY
 rw[zF];rfl
theorem aKL(x:Str)(n:Nat):(iY x n).length=x.length*n:=by
 show (iY x n).cps.size=x.cps.size*n
 rw[<- qt,k4,<- qt]
 generalize x.cps.toList=l
 induction n with
 |zero=>simp
 |succ n ih=>rw[ya,xf,qe,ih,Nat.mul_succ,nt]
theorem jA{y:Str}(h:x.cps.toList=y.cps.toList):x=y:=by
 cases x;cases y
 simp only[Str.mk.injEq]
 exact Ka.mp h
theorem aL0(x:Str):iY x 1=x:=jA (by rw[k4];simp)
theorem aJK(x:Str)(n:Nat)(h:x.length=0):iY x n=x:=by
 have a:x.cps.toList=[]:=List.eq_nil_of_length_eq_zero (by rw[qt];exact h)
 apply jA
 rw[k4,a]
 induction n with
 |zero=>rfl
 |succ n ih=>rw[ya,xf,ih];rfl
noncomputable def aMI:R2:=λx y H Q=>∃z n,x = .str z/\y = .int n /\ -(2^40)<=n/\n<2^40/\z.length*n.toNat<=sizeLine/\Q (.str (iY z n.toNat)) H
theorem r8:OpR X (zw .Mult) aMI:=by
 intro pins s σ H x y u v Q I k i h
 obtain⟨z,n,rfl,rfl,o,m,f,q⟩:=h
 obtain⟨t,rfl⟩:=k
 obtain⟨p,rfl⟩:=i
 refine P.mul_str (by rw[decide_eq_false '$',decide_eq_false '$'];rfl) (λa b => ?_) (λa b => ?_) ?_
 ·have:(n.toNat:Int)=n:=by omega
  have r:((z.length:Int))*n<=(sizeLine:Nat):=by rw[<- this];exact_mod_cast f
  intro c
  have j:0<n:=by omega
  have:=(Int.ediv_lt_iff_lt_mul j).mp c
  have l:((sizeLine:Nat):Int)<2^62:=by decide
  omega
 ·exact aJ8 f
 ·by_cases g:n<1
  ·rw[if_pos g]
   rw[show n.toNat=0 by omega] at q
   exact⟨by decide, .str _,H,I.tok _,⟨_,rfl⟩,q⟩
  ·rw[if_neg g]
   by_cases d:(n==1||z.length==0)=true
   ·rw[if_pos d]
    refine⟨.str z,H,I,⟨_,rfl⟩,?_⟩
    have e:iY z n.toNat=z:=by
     rw[ri,beq_iff_eq,beq_iff_eq] at d
     rcases d with c|c
     ·rw[c];exact aL0 z
     ·exact aJK z _ c
    rw[e] at q;exact q
   ·rw[if_neg d]
    refine⟨?_, .str _,H,I.tok _,⟨_,rfl⟩,q⟩
    show (iY z n.toNat).length<=sizeLine
    rw[aKL];exact f
end
end L2
namespace L2
open PySem PySem.Spec PyProof.Rows
noncomputable def jH(sc scope:Scope)(x:Str)(ns:List Str)(cap:List Nat)(N:List Str):Bool:=
 decide (scope.kind = .function)&&scope.names.all (λy=>decide (y.2 ≠ .local)||decide (scope.names.lookup y.1=some .local))&&(decide (scope.names.lookup x=some .local)||decide (scope.names.lookup x=some .cell)) &&
 decide ((x::ns).Nodup)&&decide (cap.length=ns.length) &&
 (q7 cap.length).all (λj=>match cap[j]?,ns[j]? with
  |some k,some nm=>decide (N[k]?=some nm)&&(decide (sc.names.lookup nm=some .cell)||decide (sc.names.lookup nm=some .free))
  |_,_=>true) &&
 ns.all (λnm=>decide ((nm,ky)∈scope.names)&&decide ((nm,wu)∉scope.names)&&decide (scope.names.lookup nm=some .free)) &&
 scope.names.all (λy=>decide (y.2 ≠ .free)||(decide (sc.names.lookup y.1=some .cell)||decide (sc.names.lookup y.1=some .free)))
theorem eO{env:Env}:∀{names:List (Str×NameKind)}{x:Str},names.lookup x=some .cell ->
  (names.map λ(n,k)=>if (k==ky&&env.scope.kind == .function&&env.kindOf n==some .cell) then (n,wu) else (n,k)).lookup x=some .cell
 |[],_,h=>by simp at h
 | (n,k)::r,x,h=>by
  have a:=eO (env:=env) (names:=r) (x:=x)
  show VE x ((if (k==ky&&env.scope.kind == .function&&env.kindOf n==some .cell)=true then (n,wu) else (n,k))::_)=_
  rw[vd] at h
  split
  ·rw[vd]
   cases hx:x==n with
   |true=>rfl
   |false=>rw[hx] at h;exact a h
  ·rw[vd]
   cases hx:x==n with
   |true=>rw[hx] at h;exact h
   |false=>rw[hx] at h;exact a h
structure CompOk(sc scope:Scope)(x:Str)(ns:List Str)(cap:List Nat)(N:List Str):Prop where
 hkind:scope.kind = .function
 hnames:∀y∈scope.names,y.2 = .local->scope.names.lookup y.1=some .local
 hx:scope.names.lookup x=some .local\/scope.names.lookup x=some .cell
 hNc:(x::ns).Nodup
 hlen:cap.length=ns.length
 hcap:∀(j k:Nat) (nm:Str),cap[j]?=some k->ns[j]?=some nm->N[k]?=some nm/\(sc.names.lookup nm=some .cell\/sc.names.lookup nm=some .free)
 hns:∀nm∈ns,(nm,ky)∈scope.names/\(nm,wu)∉scope.names
 hnsk:∀nm∈ns,scope.names.lookup nm=some .free
 hfree:∀y∈scope.names,y.2 = .free->sc.names.lookup y.1=some .cell\/sc.names.lookup y.1=some .free
theorem n8{sc:Scope}{cap:List Nat}(h:jH sc scope x ns cap N=true):CompOk sc scope x ns cap N:=by
 unfold jH at h
 simp only[qx,ri,decide_eq_true_eq,jn] at h
 obtain⟨⟨⟨⟨⟨⟨⟨l,g⟩,p⟩,o⟩,d⟩,n⟩,c⟩,i⟩:=h
 refine⟨l,λy a e=>(g y a).resolve_left (λz=>z e),p,o,d,λj k nm b f => ?_,λnm hm=>(c nm hm).1,λnm hm=>(c nm hm).2,λy a e=>(i y a).resolve_left (λz=>z e)⟩
 have m:j<cap.length:=(zGs b).1
 have:=n j (vb.mpr m)
 rw[b,f] at this
 simpa using this
theorem aJX{sc:Scope}(ns:List Str)(cap:List Nat)(hc:X.calm=true)(hsc:X.env.scope=sc)(hN:X.N=N)(ok:jH sc scope x ns cap N=true)(hi:PI X (.Name x px) iter wi)(ht:∀cs C s₀ H₀ fp,PIf fp.19 ifs tt)(he:∀cs C s₀ H₀ fp,PE fp.19 elt te)(hs:∀v,foldedSetIterable iter X.env v=pure v:=by intro _;rfl):
  PE X ',' (rN wi cap tt te):=by
 subst hsc hN
 have k:=n8 ok
 refine aN1 hc k.hkind k.hnames ?_ ?_ k.hNc k.hlen k.hcap k.hns k.hnsk k.hfree hi ht he hs
 ·rcases k.hx with z|z
  ·exact .inl (yu z)
  ·exact .inr (eO z)
 ·rcases k.hx with z|z
  ·exact .inr (yu z)
  ·exact .inl z
theorem aCK{y:Str}(iy:Nat){sc:Scope}(ns:List Str)(cap:List Nat)(hNd:N.Nodup)(hiy:N[iy]?=some y)(hyl:sc.names.lookup y=some .local)(hc:X.calm=true)(hsc:X.env.scope=sc)(hN:X.N=N)(ok:jH sc scope x ns cap N=true)(hi:PI X (.Name x px) iter wi)(ht:∀cs C s₀ H₀ fp,PIf fp.19 ifs tt)(he:∀cs C s₀ H₀ fp,PE fp.19 elt te)(hs:∀v,foldedSetIterable iter X.env v=pure v:=by intro _;rfl)(hsw:d4 ',' (some (.Name y py)) spos.line X.env=pure true:=by rfl):
  PS X (.Assign [.Name y py] ',' spos) (zI (rN wi cap tt te) (oB iy)):=by
 subst hsc hN
 have k:=n8 ok
 refine aF4 hNd hiy hyl hc k.hkind k.hnames ?_ ?_ k.hNc k.hlen k.hcap k.hns k.hnsk k.hfree hi ht he hs hsw
 ·rcases k.hx with z|z
  ·exact .inl (yu z)
  ·exact .inr (eO z)
 ·rcases k.hx with z|z
  ·exact .inr (yu z)
  ·exact .inl z
end L2
namespace R
open PySem L2
theorem BS:kh "str" = some (.type "str"):=by decide +kernel
theorem BL:kh "list" = some (.type "list"):=by decide +kernel
theorem BAll:kh "all" = some (.builtin "all"):=by decide +kernel
theorem BMax:kh "max" = some (.builtin "max"):=by decide +kernel
theorem BAny:kh "any" = some (.builtin "any"):=by decide +kernel
structure Bn2(mg:Str->Option Value):Prop where
 str:mg "str" = none
 list:mg "list" = none
 all:mg "all" = none
 any:mg "any" = none
 max:mg "max" = none
 enum:mg "enumerate" = none
theorem aJS(c:Nat):(!(yn ("#." : Str) ⟨#[c]⟩ 0 ("#." : Str).length 1).isEmpty)=(c==35||c==46):=by
 by_cases b:c=35
 ·subst b;decide +kernel
 by_cases a:c=46
 ·subst a;decide +kernel
 have e:("#." : Str)=⟨#[35,46]⟩:=by decide +kernel
 rw[e]
 have d:cx (⟨#[35,46]⟩:Str) ⟨#[c]⟩ 0=false:=by
  simp[cx,hO]
  lia
 have a1:cx (⟨#[35,46]⟩:Str) ⟨#[c]⟩ 1=false:=by
  simp[cx,hO]
  lia
 simp[yn,hO,dg,ml,qj,d,a1,b,a]
noncomputable def sgn(c:Nat):Bool:=c==35||c==46
noncomputable def j7(wide:Int):V->Bool
 |.str z=>decide ((z.length:Int)=wide)&&z.cps.toList.all sgn
 |_=>false
theorem aU(h:n<=1000000):n<=sizeLine:=qq h '#'
abbrev Sq(K:qh)(H:Hp)(a:Addr)(xs:List V):Prop:=SqL K H a xs\/SqT K H a xs
theorem aNT{u:HO}(s:Same H H')(h:Rd H a u):Rd H' a u:=by
 rcases h with h|⟨o,h⟩
 ·exact .inl (s _ _ h)
 ·exact .inr ⟨o,s _ _ h⟩
theorem eP{K:qh}{xs:List V}(s:Same H H')(h:SqT K H a xs):SqT K H' a xs:=h.imp (aNT s) id
noncomputable def k6(us:List V)(na nb:Nat):Bool:=decide (us.length=nb-1)&&us.all (j7 ((na-1:Nat):Int))
noncomputable def ofL(l:List Nat):Str:=⟨l.toArray⟩
noncomputable def atS(z:Str)(j:Nat):Nat:=z.cps.getD j 0
theorem xV:∀(ps:List Str) (acc:Array Nat),(ps.foldl (λacc p=>acc++(xl).cps++p.cps) acc).toList=acc.toList++(ps.map (·.cps.toList)).flatten
 |[],acc=>by simp
 |p::ps,acc=>by
  rw[yp,xV ps]
  simp[xl]
theorem join_list(ps:List Str):(K8 xl ps).cps.toList=(ps.map (·.cps.toList)).flatten:=by
 cases ps with
 |nil=>rfl
 |cons p ps =>
  show (((p::ps).drop 1).foldl (λacc p=>acc++(xl).cps++p.cps) ((p::ps).headD xl).cps).toList=_
  rw[xV]
  simp
theorem wP(l:List Nat):K8 xl (l.map λc=>(⟨#[c]⟩:Str))=ofL l:=by
 apply jA
 rw[join_list]
 simp only[ofL,ve]
 induction l with
 |nil=>rfl
 |cons a l ih=>rw[kj,xf,ih];rfl
theorem jT(l:List Nat):(ofL l).length=l.length:=by simp[ofL,hO]
theorem iM{z:Str}(h:j<z.length):atI z.cps.toList (j:Int)=some (atS z j):=by
 have h':j<z.cps.size:=h
 refine dD ?_
 simp[atS,h',VI]
noncomputable def aK(zs:List Str):List Str:=(q7 ((zs.head?.map (·.length)).getD 0)).map λj=>ofL (zs.map (atS · j))
theorem aUC{K:qh}{p:Addr}{xs:List V}{i:Int}{Q:VK}(h:Sq K H p xs)(e:atI xs i=some v)(q:Q v H):rIx K (.ref p) (.int i) H Q:=by
 rcases h with h|h
 ·exact .inl ⟨p,xs,i,v,rfl,rfl,h,e,q⟩
 ·exact .inr (.inl ⟨p,xs,i,v,rfl,rfl,h,e,q⟩)
theorem nC:("" : Str)=xl:=by decide +kernel
noncomputable def dots(n:Nat):Str:=ofL (jz n 46)
theorem yN(n:Nat):iY "." n=dots n:=by
 apply jA
 rw[k4]
 have e:("." : Str).cps.toList=[46]:=by decide +kernel
 rw[e]
 show _=(jz n 46)
 induction n with
 |zero=>rfl
 |succ n ih=>rw[ya,xf,ih,ya];rfl
noncomputable def framed(zs:List Str):List Str:=[dots ((zs.head?.map (·.length)).getD 0)]++zs++[dots ((zs.head?.map (·.length)).getD 0)]
noncomputable def chg(zs:List Str):List Nat:=if zs.isEmpty then [] else (q7 (zs.length+1)).filter λi => !decide ((framed zs)[i]?=(framed zs)[i+1]?)
theorem lY(zs:List Str):(framed zs).length=zs.length+2:=by simp[framed]
theorem eX(zs:List Str):∀i∈chg zs,i<=zs.length:=λi hi=>by
 unfold chg at hi
 split at hi
 ·cases hi
 ·have:=vb.mp (wy.mp hi).1
  lia
theorem cG(zs:List Str):(chg zs).Pairwise (· < ·):=by
 unfold chg
 split
 ·exact cv
 ·exact Vq _ gf
theorem aDM(zs:List Str):(chg zs).length<=zs.length+1:=by
 unfold chg
 split
 ·simp
 ·exact qq (yk _ _) '%'
theorem j6(h:l.Pairwise (· < ·))(b:∀i∈l,i<=n):∀i∈l.dropLast,i<n:=λi c=>by
 have a:l≠[]:=λe=>by rw[e] at c;cases c
 have e:=pz a
 rw[<- e] at h
 have f:=(vo.mp h).2.2 i c (l.getLast a) '%'
 have d:=b _ (List.getLast_mem a)
 lia
theorem rY(zs:List Str)(h:chg zs≠[]):zs≠[]:=λe=>h (by rw[e];rfl)
noncomputable def cH(zs:List Str):List Str:=(chg zs).dropLast.map λi=>ofL ((chg (aK zs)).dropLast.map (atS (zs.getD i xl)))
theorem tT(h:∀z∈zs,z.length=n):(aK zs).length<=n/\(zs≠[]->(aK zs).length=n):=by
 unfold aK
 rw[zLm,j3]
 cases zs with
 |nil=>exact⟨k3 _,λe=>absurd rfl e⟩
 |cons z zr =>
  have:=h z '%'
  exact⟨by show z.length<=n;lia,λ_=>this⟩
theorem gM:∀z∈aK zs,z.length=zs.length:=λz hz=>by
 obtain⟨j,_,rfl⟩:=qo.mp hz
 rw[jT,zLm]
structure KnL(K:qh)(H:Hp)(v:V):Prop where
 kn:Kn K H v
 each:∀a xs,v = .ref a->H a=some (.lst xs)->∀x∈xs,Kn K H x
end R
namespace L2
open PySem PySem.Spec PyProof.Rows
section
end
end L2
namespace L2
open PySem PySem.Spec PyProof.Rows
noncomputable def aMN:V->Bool
 |.ref _=>true
 |.non=>true
 |.bl _=>true
 |.int _=>true
 |.str _=>true
 |_=>false
theorem aN5{xs:List V}{us:List Value}(r:Vals xs us)(h:j<us.toArray.size):∃x,xs[j]?=some x/\RelV x us.toArray[j]:=by
 have l:=r.length
 rw[qf] at h
 have g:xs[j]?=some (xs[j]' '$'):=by simp
 obtain⟨u,a,b⟩:=r.get g
 refine⟨_,g,?_⟩
 have:us.toArray[j]=u:=by
  rw[zGe h] at a
  simpa using a
 rw[this]
 exact b
theorem all_true(n:Nat):((q7 n).all λ_=>true)=true:=jn.mpr λ_ _=>rfl
inductive Alike(K:qh)(H:Hp):V->V->Prop
 |one {v:V} (h:aMN v=true):Alike K H v v
 |lists {a b:Addr}{xs:List V} (ha:SqL K H a xs) (hb:SqL K H b xs) (h:xs.all aMN=true):Alike K H (.ref a) (.ref b)
section
end
end L2
namespace L2
open PySem PySem.Spec PyProof.Rows
section
variable {to:TE}{t:TA}{T id:String}{r:V->List V->Hp->VK->Prop}
end
end L2
namespace Z
open PySem L2
inductive D where
 |non|bl (b:Bool)|int (i:Int)|str (x:Str)|mt (a:Addr)|tup (ds:List D)|lst (ds:List D)|fl (ds:List D)|st (ks:List (List Int))
abbrev Fg:=qh
noncomputable def aU0(k:List Int):Int:=reduceHash (me (k.map hashInt))
noncomputable def entS(p:List Int×Addr):DictEntry:={hash:=aU0 p.1,key := .ref p.2,val := .bool true}
noncomputable def DSt(a:Addr)(xs:List (List Int×Addr))(ep:Nat)(h:Heap):Prop:=(a==rz)=false/\∃o,h.get? a=some o/\o.ExactDict/\o.data = .dict (xs.map entS).toArray ep
structure StO(K:Fg)(G:Hp)(o:Option HO)(a:Addr)(ks:List (List Int))(xs:List (List Int×Addr))(ep:Nat):Prop where
 nd:ks.Nodup
 len:ks.length<=sizeLine
 keys:xs.map (·.1)=ks
 at_:∀p∈xs,SqT K G p.2 (p.1.map V.int)
 ob:o=some (.ext (DSt a xs ep))
theorem StO.mv{K:Fg}{o o':Option HO}{xs:List (List Int×Addr)}(h:StO K G o a ks xs ep)(s:Same G G')(e:o'=o):StO K G' o' a ks xs ep:=
 ⟨h.nd,h.len,h.keys,λp b=>R.eP s (h.at_ p b),e.trans h.ob⟩
mutual
noncomputable def Den(K:Fg)(G:Hp):D->V->Prop
 |.non,v=>v = .non
 |.bl b,v=>v = .bl b
 |.int i,v=>v = .int i
 |.str x,v=>v = .str x
 |.mt a,v=>v = .ref a
 |.tup ds,v=>∃a vs,v = .ref a/\SqT K G a vs/\Dens K G ds vs
 |.lst ds,v=>∃a vs,v = .ref a/\G a=some (.lst vs)/\Dens K G ds vs
 |.fl ds,v=>∃a vs,v = .ref a/\SqL K G a vs/\Dens K G ds vs
 |.st ks,v=>∃a xs ep,v = .ref a/\StO K G (G a) a ks xs ep
noncomputable def Dens(K:Fg)(G:Hp):List D->List V->Prop
 |[],vs=>vs=[]
 |d::ds,vs=>∃v r,vs=v::r/\Den K G d v/\Dens K G ds r
end
mutual
theorem Den.mono{K:Fg}(s:Same G G'):∀(d:D) {v:V},Den K G d v->Den K G' d v
 |.non,_,h=>by simp only[Den] at h ⊢;exact h
 |.bl _,_,h=>by simp only[Den] at h ⊢;exact h
 |.int _,_,h=>by simp only[Den] at h ⊢;exact h
 |.str _,_,h=>by simp only[Den] at h ⊢;exact h
 |.mt _,_,h=>by simp only[Den] at h ⊢;exact h
 |.tup ds,_,h=>by
  simp only[Den] at h ⊢
  obtain⟨a,vs,e,q,r⟩:=h
  exact⟨a,vs,e,R.eP s q,Dens.mono s ds r⟩
 |.lst ds,_,h=>by
  simp only[Den] at h ⊢
  obtain⟨a,vs,e,q,r⟩:=h
  exact⟨a,vs,e,s _ _ q,Dens.mono s ds r⟩
 |.fl ds,_,h=>by
  simp only[Den] at h ⊢
  obtain⟨a,vs,e,q,r⟩:=h
  exact⟨a,vs,e,s.seq q,Dens.mono s ds r⟩
 |.st ks,_,h=>by
  simp only[Den] at h ⊢
  obtain⟨a,xs,b,e,q⟩:=h
  exact⟨a,xs,b,e,q.mv s ((s _ _ q.ob).trans q.ob.symm)⟩
theorem Dens.mono{K:Fg}(s:Same G G'):∀(ds:List D) {vs:List V},Dens K G ds vs->Dens K G' ds vs
 |[],_,h=>by simp only[Dens] at h ⊢;exact h
 |d::ds,_,h=>by
  simp only[Dens] at h ⊢
  obtain⟨v,r,e,b,a⟩:=h
  exact⟨v,r,e,Den.mono s d b,Dens.mono s ds a⟩
end
theorem Den.up{K:Fg}{d:D}(h:Den K G d v)(s:Same G G'):Den K G' d v:=Den.mono s d h
theorem Dens.up{K:Fg}{ds:List D}{vs:List V}(h:Dens K G ds vs)(s:Same G G'):Dens K G' ds vs:=Dens.mono s ds h
theorem cZ{K:Fg}:Dens K G [] []:=by simp only[Dens]
theorem cD{K:Fg}{d:D}{ds:List D}{vs:List V}(h:Den K G d v)(r:Dens K G ds vs):Dens K G (d::ds) (v::vs):=by
 simp only[Dens];exact⟨v,vs,rfl,h,r⟩
theorem bX{K:Fg}{d:D}{ds:List D}{vs:List V}(h:Dens K G (d::ds) vs):∃v r,vs=v::r/\Den K G d v/\Dens K G ds r:=by simp only[Dens] at h;exact h
theorem cK{K:Fg}{vs:List V}(h:Dens K G [] vs):vs=[]:=by simp only[Dens] at h;exact h
theorem Dens.len{K:Fg}:∀{ds:List D}{vs:List V},Dens K G ds vs->ds.length=vs.length
 |[],_,h=>by rw[cK h];rfl
 |d::ds,_,h=>by
  obtain⟨v,r,rfl,_,a⟩:=bX h
  rw[ja,ja,Dens.len a]
theorem Dens.get{K:Fg}:∀{ds:List D}{vs:List V}{i:Nat}{d:D},Dens K G ds vs->ds[i]?=some d->∃v,vs[i]?=some v/\Den K G d v
 |[],_,_,_,_,e=>by simp at e
 |d0::ds,_,0,d,h,e=>by
  obtain⟨v,r,rfl,f,_⟩:=bX h
  simp at e;subst e
  exact⟨v,rfl,f⟩
 |d0::ds,_,i+1,d,h,e=>by
  obtain⟨v,r,rfl,_,c⟩:=bX h
  obtain⟨u,a,b⟩:=Dens.get (i:=i) c (by simpa using e)
  exact⟨u,by simpa using a,b⟩
theorem Dens.get'{K:Fg}:∀{ds:List D}{vs:List V}{i:Nat}{v:V},Dens K G ds vs->vs[i]?=some v->∃d,ds[i]?=some d/\Den K G d v:=λ{ds vs i v} h e=>by
 have f:i<vs.length:=(zGs e).1
 rw[<- h.len] at f
 have c:ds[i]?=some ds[i]:=by simp[f]
 obtain⟨u,a,b⟩:=h.get c
 rw[e] at a;cases a
 exact⟨_,c,b⟩
theorem Dens.append{K:Fg}:∀{ds es:List D}{vs ws:List V},Dens K G ds vs->Dens K G es ws->Dens K G (ds++es) (vs++ws)
 |[],_,_,_,h,r=>by rw[cK h];exact r
 |d::ds,_,_,_,h,r=>by
  obtain⟨v,t,rfl,b,a⟩:=bX h
  exact cD b (Dens.append a r)
theorem Dens.take{K:Fg}:∀{ds:List D}{vs:List V} (n:Nat),Dens K G ds vs->Dens K G (ds.take n) (vs.take n)
 |_,_,0,_=>by simp only[List.take_zero];exact cZ
 |[],_,n+1,h=>by rw[cK h];exact cZ
 |d::ds,_,n+1,h=>by
  obtain⟨v,t,rfl,b,a⟩:=bX h
  exact cD b (Dens.take n a)
theorem Dens.drop{K:Fg}:∀{ds:List D}{vs:List V} (n:Nat),Dens K G ds vs->Dens K G (ds.drop n) (vs.drop n)
 |_,_,0,h=>h
 |[],_,n+1,h=>by rw[cK h];exact cZ
 |d::ds,_,n+1,h=>by
  obtain⟨v,t,rfl,b,a⟩:=bX h
  exact Dens.drop n a
theorem Dens.set{K:Fg}{d:D}(e:Den K G d v):∀{ds:List D}{vs:List V} (i:Nat),Dens K G ds vs->Dens K G (ds.set i d) (vs.set i v)
 |[],_,_,h=>by rw[cK h];exact cZ
 |d0::ds,_,0,h=>by
  obtain⟨u,t,rfl,b,a⟩:=bX h
  exact cD e a
 |d0::ds,_,i+1,h=>by
  obtain⟨u,t,rfl,b,a⟩:=bX h
  exact cD b (Dens.set e i a)
theorem Dens.atI{K:Fg}{ds:List D}{vs:List V}{i:Int}{d:D}(h:Dens K G ds vs)(e:atI ds i=some d):∃v,L2.atI vs i=some v/\Den K G d v:=by
 unfold L2.atI at e ⊢
 rw[<- h.len]
 cases hj:ixN ds.length i with
 |none=>rw[hj] at e;cases e
 |some j =>
  rw[hj] at e
  exact h.get e
theorem Dens.of_map{K:Fg}{α:Type}{f:α->D}{g:α->V}(h:∀x,Den K G (f x) (g x)):∀xs:List α,Dens K G (xs.map f) (xs.map g)
 |[]=>cZ
 |x::xs=>cD (h x) (Dens.of_map h xs)
mutual
noncomputable def hashK(hf:Str->Int):D->Int
 |.int i=>hashInt i
 |.str x=>hf x
 |.tup ds=>reduceHash (me (hashKs hf ds))
 |_=>0
noncomputable def hashKs(hf:Str->Int):List D->List Int
 |[]=>[]
 |d::ds=>hashK hf d::hashKs hf ds
end
mutual
noncomputable def okK:Nat->D->Bool
 |_, .int _=>true
 |n+1, .tup ds=>okKs n ds
 |_,_=>false
noncomputable def okKs:Nat->List D->Bool
 |_,[]=>true
 |n,d::ds=>okK n d&&okKs n ds
end
noncomputable def entD(hf:Str->Int):List D->List Addr->List Value->List DictEntry
 |k::ks,a::as,u::us=>{hash:=hashK hf k,key := .ref a,val:=u}::entD hf ks as us
 |_,_,_=>[]
noncomputable def DDt(hf:Str->Int)(a:Addr)(ks:List D)(as:List Addr)(vs:List V)(ep:Nat)(h:Heap):Prop:=(a==rz)=false/\∃o us,Vals vs us/\h.get? a=some o/\o.ExactDict/\o.data = .dict (entD hf ks as us).toArray ep
structure DiO(K:Fg)(G:Hp)(o:Option HO)(a:Addr)(hf:Str->Int)(ks ds:List D)(as:List Addr)(vs:List V)(ep:Nat):Prop where
 nd:ks.Nodup
 len:ks.length<=sizeLine
 ok:∀k∈ks,okK 6 k=true
 dl:ds.length=ks.length
 keys:Dens K G ks (as.map V.ref)
 vals:Dens K G ds vs
 ob:o=some (.ext (DDt hf a ks as vs ep))
theorem DiO.mv{K:Fg}{o o':Option HO}{hf:Str->Int}{ks ds:List D}{as:List Addr}{vs:List V}(h:DiO K G o a hf ks ds as vs ep)(s:Same G G')(e:o'=o):DiO K G' o' a hf ks ds as vs ep:=
 ⟨h.nd,h.len,h.ok,h.dl,h.keys.up s,h.vals.up s,e.trans h.ob⟩
inductive MO where
 |lst (ds:List D)
 |st (ks:List (List Int))
 |dic (hf:Str->Int) (ks ds:List D)
 |ob (o:HO)
abbrev Mem:=Addr->Option MO
noncomputable def bV(M:Mem)(a:Addr)(o:MO):Mem:=λb=>if b=a then some o else M b
noncomputable def k8(M:Mem)(a:Addr):Mem:=λb=>if b=a then none else M b
theorem aQ{M:Mem}{o:MO}:bV M a o a=some o:=by unfold bV;rw[if_pos rfl]
theorem cV{M:Mem}{b:Addr}{o:MO}(h:b≠a):bV M a o b=M b:=by unfold bV;rw[if_neg h]
theorem dP{M:Mem}{o u:MO}:bV (bV M a o) a u=bV M a u:=by
 funext b;unfold bV;split <;> rfl
theorem aGK{M:Mem}:k8 M a a=none:=by unfold k8;rw[if_pos rfl]
theorem rX{M:Mem}{b:Addr}(h:b≠a):k8 M a b=M b:=by unfold k8;rw[if_neg h]
noncomputable def Le(M M':Mem):Prop:=∀a o,M a=some o->M' a=some o
theorem Le.refl(M:Mem):Le M M:=λ_ _ h=>h
theorem Le.upd{M M':Mem}{o:MO}(h:Le M M')(n:M a=none):Le M (bV M' a o):=λb u e=>by
 rw[cV (λz=>by rw[z,n] at e;cases e)];exact h b u e
noncomputable def MOk(K:Fg)(G H:Hp)(a:Addr):MO->Prop
 |.lst ds=>∃vs,H a=some (.lst vs)/\Dens K G ds vs
 |.st ks=>∃xs ep,StO K G (H a) a ks xs ep
 |.dic hf ks ds=>∃as vs ep,DiO K G (H a) a hf ks ds as vs ep
 |.ob o=>H a=some o
theorem MOk.mv{K:Fg}{m:MO}(h:MOk K G H a m)(s:Same G G')(e:H' a=H a):MOk K G' H' a m:=by
 cases m with
 |lst ds=>obtain⟨vs,d,c⟩:=h;exact⟨vs,e.trans d,c.up s⟩
 |st ks=>obtain⟨xs,b,q⟩:=h;exact⟨xs,b,q.mv s e⟩
 |dic hf ks ds=>obtain⟨as,vs,b,q⟩:=h;exact⟨as,vs,b,q.mv s e⟩
 |ob o=>exact e.trans h
structure Rel(K:Fg)(G H:Hp)(M:Mem):Prop where
 same:Same G H
 mem:∀a o,M a=some o->G a=none/\MOk K G H a o
structure Stp(K:Fg)(G H:Hp)(M:Mem)(G' H':Hp)(M':Mem):Prop where
 gg:Same G G'
 rel:Rel K G' H' M'
 fr:∀a o,H a=some o->G a=none->M a=none->H' a=some o/\G' a=none/\M' a=none
theorem Stp.refl{K:Fg}{M:Mem}(r:Rel K G H M):Stp K G H M G H M:=⟨Same.refl G,r,λ_ _ h h1 h2=>⟨h,h1,h2⟩⟩
theorem Stp.trans{K:Fg}{G1 G2 H2:Hp}{M M1 M2:Mem}(a:Stp K G H M G1 H1 M1)(b:Stp K G1 H1 M1 G2 H2 M2):Stp K G H M G2 H2 M2:=
 ⟨a.gg.trans b.gg,b.rel,λc o h e d=>let ⟨x,y,z⟩:=a.fr c o h e d;b.fr c o x y z⟩
theorem Rel.le{K:Fg}{M M':Mem}(r:Rel K G H M)(l:Le M' M):Rel K G H M':=⟨r.same,λa o h=>r.mem a o (l a o h)⟩
theorem Rel.got{K:Fg}{M:Mem}{o:MO}(r:Rel K G H M)(h:M a=some o):∃u,H a=some u:=by
 cases o with
 |lst ds=>obtain⟨_,vs,e,_⟩:=r.mem a _ h;exact⟨_,e⟩
 |st ks=>obtain⟨_,xs,b,q⟩:=r.mem a _ h;exact⟨_,q.ob⟩
 |dic hf ks ds=>obtain⟨_,as,vs,b,q⟩:=r.mem a _ h;exact⟨_,q.ob⟩
 |ob o=>exact⟨o,(r.mem a _ h).2⟩
theorem Rel.free{K:Fg}{M:Mem}{p:Addr}(r:Rel K G H M)(h:H p=none):G p=none/\M p=none:=by
 refine⟨r.same.free h,?_⟩
 cases e:M p with
 |none=>rfl
 |some o=>obtain⟨u,q⟩:=r.got e;rw[h] at q;cases q
theorem Rel.new{K:Fg}{M:Mem}{p:Addr}{o:HO}(r:Rel K G H M)(h:H p=none):Stp K G H M (upd G p o) (upd H p o) M:=by
 have d:=(r.free h).1
 have s1:Same G (upd G p o):=yH d
 refine⟨s1,⟨λb u e => ?_,λa m e => ?_⟩,λa u c f g => ?_⟩
 ·by_cases z:b=p
  ·subst z;rw[bJ] at e ⊢;exact e
  ·rw[bB z] at e ⊢;exact r.same b u e
 ·obtain⟨u,q⟩:=r.got e
  have z:a≠p:=bM q h
  refine⟨by rw[bB z];exact (r.mem a m e).1,?_⟩
  exact (r.mem a m e).2.mv s1 (bB z)
 ·have z:a≠p:=bM c h
  exact⟨by rw[bB z];exact c,by rw[bB z];exact f,g⟩
theorem Rel.newM{K:Fg}{M:Mem}{p:Addr}{vs:List V}{ds:List D}(r:Rel K G H M)(h:H p=none)(e:Dens K G ds vs):Stp K G H M G (upd H p (.lst vs)) (bV M p (.lst ds)):=by
 have c:=(r.free h).1
 refine⟨Same.refl G,⟨λb u q => ?_,λa m q => ?_⟩,λa u d f g => ?_⟩
 ·rw[bB (bM q c)];exact r.same b u q
 ·by_cases z:a=p
  ·subst z
   rw[aQ] at q;cases q
   exact⟨c,vs,bJ,e⟩
  ·rw[cV z] at q
   refine⟨(r.mem a m q).1,?_⟩
   exact (r.mem a m q).2.mv (Same.refl G) (bB z)
 ·have z:a≠p:=bM d h
  exact⟨by rw[bB z];exact d,f,by rw[cV z];exact g⟩
theorem Rel.wr{K:Fg}{M:Mem}{p:Addr}{vs:List V}{ds:List D}{o:MO}(r:Rel K G H M)(h:M p=some o)(e:Dens K G ds vs):Stp K G H M G (upd H p (.lst vs)) (bV M p (.lst ds)):=by
 have d:=(r.mem p _ h).1
 refine⟨Same.refl G,⟨λb u q => ?_,λa m q => ?_⟩,λa u g f c => ?_⟩
 ·rw[bB (bM q d)];exact r.same b u q
 ·by_cases z:a=p
  ·subst z
   rw[aQ] at q;cases q
   exact⟨d,vs,bJ,e⟩
  ·rw[cV z] at q
   refine⟨(r.mem a m q).1,?_⟩
   exact (r.mem a m q).2.mv (Same.refl G) (bB z)
 ·have z:a≠p:=λz=>by rw[z,h] at c;cases c
  exact⟨by rw[bB z];exact g,f,by rw[cV z];exact c⟩
theorem Rel.frz{K:Fg}{M:Mem}{ds:List D}(r:Rel K G H M)(h:M a=some (.lst ds)):∃vs,H a=some (.lst vs)/\Dens K G ds vs/\Stp K G H M (upd G a (.lst vs)) H (k8 M a):=by
 obtain⟨d,vs,e,q⟩:=r.mem a _ h
 have s1:Same G (upd G a (.lst vs)):=yH d
 refine⟨vs,e,q,s1,⟨λb u z => ?_,λb m z => ?_⟩,λb u g f c => ?_⟩
 ·by_cases y:b=a
  ·subst y;rw[bJ] at z;cases z;exact e
  ·rw[bB y] at z;exact r.same b u z
 ·by_cases y:b=a
  ·subst y;rw[aGK] at z;cases z
  ·rw[rX y] at z
   refine⟨by rw[bB y];exact (r.mem b m z).1,?_⟩
   exact (r.mem b m z).2.mv s1 rfl
 ·have y:b≠a:=λy=>by rw[y,h] at c;cases c
  exact⟨g,by rw[bB y];exact f,by rw[rX y];exact c⟩
theorem Rel.drop{K:Fg}{M M':Mem}(r:Rel K G H M)(l:Le M' M):Stp K G H M G H M':=
 ⟨Same.refl G,r.le l,λa o d c b=>⟨d,c,by
  cases e:M' a with
  |none=>rfl
  |some u=>rw[l a u e] at b;cases b⟩⟩
abbrev Gm:=List (Option D)
structure EnvR(K:Fg)(G:Hp)(Γ:Gm)(σ:St):Prop where
 len:Γ.length=σ.length
 get:∀(i:Nat) (d:D),Γ[i]?=some (some d)->∃v,σ[i]?=some (some v)/\Den K G d v
theorem EnvR.up{K:Fg}{Γ:Gm}(h:EnvR K G Γ σ)(s:Same G G'):EnvR K G' Γ σ:=
 ⟨h.len,λi d e=>let ⟨v,a,b⟩:=h.get i d e;⟨v,a,b.up s⟩⟩
theorem EnvR.set{K:Fg}{Γ:Gm}(h:EnvR K G Γ σ){d:D}(e:Den K G d v)(i:Nat):EnvR K G (Γ.set i (some d)) (σ.set i (some v)):=by
 refine⟨by rw[rd,rd,h.len],λj c q => ?_⟩
 rw[J4] at q ⊢
 by_cases z:i=j
 ·rw[if_pos z] at q ⊢
  split at q
  ·rename_i hl
   rw[if_pos (by rw[<- h.len];exact hl)]
   cases q
   exact⟨v,rfl,e⟩
  ·cases q
 ·rw[if_neg z] at q ⊢
  exact h.get j c q
theorem EnvR.start{K:Fg}{ds:List D}{vs:List V}(h:Dens K G ds vs)(n:Nat):EnvR K G (ds.map some++jz (n-ds.length) none) (vs.map some++jz (n-vs.length) none):=by
 have hl:=h.len
 refine⟨by simp[hl],λi d e => ?_⟩
 by_cases f:i<ds.length
 ·rw[q6 (by simpa using f),qg] at e
  rw[q6 (by simp;omega),qg]
  cases q:ds[i]? with
  |none=>rw[q] at e;cases e
  |some c =>
   rw[q] at e;cases e
   obtain⟨v,a,b⟩:=h.get q
   exact⟨v,by rw[a];rfl,b⟩
 ·rw[qr (by simpa using f),x3] at e
  split at e <;> cases e
noncomputable def tU(X:Cx)(e:Expr):TE:=λσ H Q=>∀pins s,Inv X pins σ H s->wpAny X.w.14 X.A (eval e X.env) (EP X pins σ Q) X.xe s
theorem pU:PE X e (tU X e):=λpins s σ H Q I h=>h pins s I
theorem cM{t:TE}(p:PE X e t){Q:VK}(h:t σ H Q):tU X e σ H Q:=λpins s I=>p pins s σ H Q I h
noncomputable def tUT(X:Cx)(e:Expr):TT:=λσ H Q=>∀pins s,Inv X pins σ H s->wpAny X.w.14 X.A (isTrue e X.env (eval e X.env)) (TP X pins σ Q) X.xe s
theorem pUT:PT X e (tUT X e):=λpins s σ H Q I h=>h pins s I
theorem qP{t:TT}(p:PT X e t){Q:Bool->Hp->Prop}(h:t σ H Q):tUT X e σ H Q:=λpins s I=>p pins s σ H Q I h
noncomputable def tUW(X:Cx)(e:Expr):TT:=λσ H Q=>∀whole pins s,Inv X pins σ H s->wpAny X.w.14 X.A (isTrue e X.env whole) (TP X pins σ Q) X.xe s
theorem pUW:PW X e (tUW X e):=λwhole pins s σ H Q I h=>h whole pins s I
theorem uU{t:TT}(p:PW X e t){Q:Bool->Hp->Prop}(h:t σ H Q):tUW X e σ H Q:=λwhole pins s I=>p whole pins s σ H Q I h
noncomputable def tUA(X:Cx)(es:List Expr):TA:=λσ H Q=>∀pos pins s,Inv X pins σ H s->wpAny X.w.14 X.A (spliced (dh pos (jk es X.env))) (AP X pins σ Q) X.xe s
theorem pUA:PA X es (tUA X es):=λpos pins s σ H Q I h=>h pos pins s I
theorem aI1{t:TA}(p:PA X es t){Q:List V->Hp->Prop}(h:t σ H Q):tUA X es σ H Q:=λpos pins s I=>p pos pins s σ H Q I h
noncomputable def tUS(X:Cx)(st:Stmt):TS:=λE σ H=>∀pins s,Inv X pins σ H s->wpAny X.w.14 X.A (exec st X.env) (SP X pins E) X.xe s
theorem pUS:PS X st (tUS X st):=λpins s σ H E I h=>h pins s I
theorem iF{t:TS}(p:PS X st t){E:Ends}(h:t E σ H):tUS X st E σ H:=λpins s I=>p pins s σ H E I h
noncomputable def aJ9(X:Cx)(st:List Stmt):TS:=λE σ H=>∀pins s,Inv X pins σ H s->wpAny X.w.14 X.A (execs st X.env) (SP X pins E) X.xe s
theorem xB{st:List Stmt}:PSs X st (aJ9 X st):=λpins s σ H E I h=>h pins s I
theorem xJ{st:List Stmt}{t:TS}(p:PSs X st t){E:Ends}(h:t E σ H):aJ9 X st E σ H:=λpins s I=>p pins s σ H E I h
noncomputable def tUG(X:Cx)(tg:Expr):TG:=λv σ H Q=>∀pins s u,Inv X pins σ H s->RelV v u->wpAny X.w.14 X.A (assign tg X.env u) (λ_ s'=>∃σ' H',Inv X pins σ' H' s'/\Q σ' H') X.xe s
theorem pUG:PG X tg (tUG X tg):=λpins s σ H v u Q I r h=>h pins s u I r
theorem vX{t:TG}(p:PG X tg t){Q:St->Hp->Prop}(h:t v σ H Q):tUG X tg v σ H Q:=λpins s u I r=>p pins s σ H v u Q I r h
noncomputable def aK4(X:Cx)(tg:List Expr):TGs:=λvs σ H Q=>∀pins s us,Inv X pins σ H s->Vals vs us->wpAny X.w.14 X.A (g0 ((xy tg X.env).map (·.2)) us) (λ_ s'=>∃σ' H',Inv X pins σ' H' s'/\Q σ' H') X.xe s
theorem aL7{tg:List Expr}:PGs X tg (aK4 X tg):=λpins s σ H vs us Q I r h=>h pins s us I r
theorem aEF{tg:List Expr}{t:TGs}(p:PGs X tg t){vs:List V}{Q:St->Hp->Prop}(h:t vs σ H Q):aK4 X tg vs σ H Q:=λpins s us I r=>p pins s σ H vs us Q I r h
noncomputable def tUI(X:Cx)(tg iter:Expr):TI:=λσ H R=>∀pins s,Inv X pins σ H s->wpAny X.w.14 X.A (eval iter X.env) (λv s1=>wpAny X.w.14 X.A (Ji v) (PIE X pins σ tg R) X.xe s1) X.xe s
theorem pUI:PI X tg iter (tUI X tg iter):=λpins s σ H R I h=>h pins s I
theorem oN{t:TI}(p:PI X tg iter t){R:It->Hp->Prop}(h:t σ H R):tUI X tg iter σ H R:=λpins s I=>p pins s σ H R I h
noncomputable def Cont(K:Fg)(M:Mem)(k:D->Mem->Prop)(G H:Hp)(Q:VK):Prop:=∀v G' H' d M',Stp K G H M G' H' M'->Den K G' d v->k d M'->Q v H'
noncomputable def GE(X:Cx)(e:Expr)(Γ:Gm)(M:Mem)(k:D->Mem->Prop):Prop:=
 ∀σ G H Q,EnvR X.K G Γ σ->Rel X.K G H M->Cont X.K M k G H Q->tU X e σ H Q
noncomputable def sH(K:Fg)(M:Mem)(k:Bool->Mem->Prop)(G H:Hp)(Q:Bool->Hp->Prop):Prop:=∀b G' H' M',Stp K G H M G' H' M'->k b M'->Q b H'
noncomputable def GT(X:Cx)(e:Expr)(Γ:Gm)(M:Mem)(k:Bool->Mem->Prop):Prop:=
 ∀σ G H Q,EnvR X.K G Γ σ->Rel X.K G H M->sH X.K M k G H Q->tUT X e σ H Q
noncomputable def GW(X:Cx)(e:Expr)(Γ:Gm)(M:Mem)(k:Bool->Mem->Prop):Prop:=
 ∀σ G H Q,EnvR X.K G Γ σ->Rel X.K G H M->sH X.K M k G H Q->tUW X e σ H Q
noncomputable def GA(X:Cx)(es:List Expr)(Γ:Gm)(M:Mem)(k:List D->Mem->Prop):Prop:=
 ∀σ G H Q,EnvR X.K G Γ σ->Rel X.K G H M->(∀vs G' H' ds M',Stp X.K G H M G' H' M'->Dens X.K G' ds vs->k ds M'->Q vs H')->tUA X es σ H Q
noncomputable def nJ(K:Fg)(M:Mem)(k:Gm->Mem->Prop)(G H:Hp)(Q:St->Hp->Prop):Prop:=∀σ' G' H' Γ' M',Stp K G H M G' H' M'->EnvR K G' Γ' σ'->k Γ' M'->Q σ' H'
noncomputable def GG(X:Cx)(tg:Expr)(d:D)(Γ:Gm)(M:Mem)(k:Gm->Mem->Prop):Prop:=
 ∀σ G H v Q,EnvR X.K G Γ σ->Rel X.K G H M->Den X.K G d v->nJ X.K M k G H Q->tUG X tg v σ H Q
noncomputable def GGs(X:Cx)(tgs:List Expr)(ds:List D)(Γ:Gm)(M:Mem)(k:Gm->Mem->Prop):Prop:=
 ∀σ G H vs Q,EnvR X.K G Γ σ->Rel X.K G H M->Dens X.K G ds vs->nJ X.K M k G H Q->aK4 X tgs vs σ H Q
structure Fin where
 nx:Gm->Mem->Prop
 rt:D->Mem->Prop
 bk:Gm->Mem->Prop:=λ_ _=>False
 ct:Gm->Mem->Prop:=λ_ _=>False
structure EndsOk(K:Fg)(G H:Hp)(M:Mem)(F:Fin)(E:Ends):Prop where
 nx:nJ K M F.nx G H E.nx
 rt:Cont K M F.rt G H E.rt
 bk:nJ K M F.bk G H E.bk
 ct:nJ K M F.ct G H E.ct
theorem Cont.up{K:Fg}{M M1:Mem}{k:D->Mem->Prop}{G1:Hp}{Q:VK}(c:Cont K M k G H Q)(s:Stp K G H M G1 H1 M1):Cont K M1 k G1 H1 Q:=λv G' H' d M' s'=>c v G' H' d M' (s.trans s')
theorem nJ.up{K:Fg}{M M1:Mem}{k:Gm->Mem->Prop}{G1:Hp}{Q:St->Hp->Prop}(c:nJ K M k G H Q)(s:Stp K G H M G1 H1 M1):nJ K M1 k G1 H1 Q:=λv G' H' d M' s'=>c v G' H' d M' (s.trans s')
theorem sH.up{K:Fg}{M M1:Mem}{k:Bool->Mem->Prop}{G1:Hp}{Q:Bool->Hp->Prop}(c:sH K M k G H Q)(s:Stp K G H M G1 H1 M1):sH K M1 k G1 H1 Q:=λv G' H' M' s'=>c v G' H' M' (s.trans s')
theorem EndsOk.up{K:Fg}{M M1:Mem}{F:Fin}{E:Ends}{G1:Hp}(c:EndsOk K G H M F E)(s:Stp K G H M G1 H1 M1):EndsOk K G1 H1 M1 F E:=⟨c.nx.up s,c.rt.up s,c.bk.up s,c.ct.up s⟩
noncomputable def GS(X:Cx)(ss:List Stmt)(Γ:Gm)(M:Mem)(F:Fin):Prop:=
 ∀σ G H E,EnvR X.K G Γ σ->Rel X.K G H M->EndsOk X.K G H M F E->aJ9 X ss E σ H
noncomputable def G1(X:Cx)(st:Stmt)(Γ:Gm)(M:Mem)(F:Fin):Prop:=
 ∀σ G H E,EnvR X.K G Γ σ->Rel X.K G H M->EndsOk X.K G H M F E->tUS X st E σ H
end Z
variable {M M1:Z.Mem}{k:Z.D->Z.Mem->Prop}{d:Z.D}{ds al:List Z.D}{Γ:Z.Gm}{kb:Bool->Z.Mem->Prop}{ki:List Z.D->Z.Mem->Prop}{kg:Z.Gm->Z.Mem->Prop}
namespace Z
open PySem L2
section
variable {K:Fg}
theorem cP{i:Int}:Den K G (.int i) (.int i):=by simp only[Den]
theorem dU{i:Bool}:Den K G (.bl i) (.bl i):=by simp only[Den]
theorem jW{i:Str}:Den K G (.str i) (.str i):=by simp only[Den]
theorem xK:Den K G .non .non:=by simp only[Den]
theorem aAT:Den K G (.mt a) (.ref a):=by simp only[Den]
theorem iA{vs:List V}(h:SqT K G a vs)(r:Dens K G ds vs):Den K G (.tup ds) (.ref a):=by simp only[Den];exact⟨a,vs,rfl,h,r⟩
theorem gX{vs:List V}(h:G a=some (.lst vs))(r:Dens K G ds vs):Den K G (.lst ds) (.ref a):=by simp only[Den];exact⟨a,vs,rfl,h,r⟩
theorem aS0{vs:List V}(h:SqL K G a vs)(r:Dens K G ds vs):Den K G (.fl ds) (.ref a):=by simp only[Den];exact⟨a,vs,rfl,h,r⟩
theorem Den.int_{i:Int}(h:Den K G (.int i) v):v = .int i:=by simp only[Den] at h;exact h
theorem Den.bl_{i:Bool}(h:Den K G (.bl i) v):v = .bl i:=by simp only[Den] at h;exact h
theorem Den.str_{i:Str}(h:Den K G (.str i) v):v = .str i:=by simp only[Den] at h;exact h
theorem Den.non_(h:Den K G .non v):v = .non:=by simp only[Den] at h;exact h
theorem Den.mt_(h:Den K G (.mt a) v):v = .ref a:=by simp only[Den] at h;exact h
theorem Den.tup_(h:Den K G (.tup ds) v):∃a vs,v = .ref a/\SqT K G a vs/\Dens K G ds vs:=by simp only[Den] at h;exact h
theorem Den.lst_(h:Den K G (.lst ds) v):∃a vs,v = .ref a/\G a=some (.lst vs)/\Dens K G ds vs:=by simp only[Den] at h;exact h
theorem Den.fl_(h:Den K G (.fl ds) v):∃a vs,v = .ref a/\SqL K G a vs/\Dens K G ds vs:=by simp only[Den] at h;exact h
theorem Den.st_(h:Den K G (.st ks) v):∃a xs ep,v = .ref a/\StO K G (G a) a ks xs ep:=by simp only[Den] at h;exact h
inductive Seq(M:Mem):D->Bool->List D->Prop
 |tup (ds:List D):Seq M (.tup ds) false ds
 |lst (ds:List D):Seq M (.lst ds) true ds
 |fl (ds:List D):Seq M (.fl ds) true ds
 |mt {a:Addr}{ds:List D} (h:M a=some (.lst ds)):Seq M (.mt a) true ds
theorem Seq.sq{t:Bool}(q:Seq M d t ds)(r:Rel K G H M)(h:Den K G d v):∃a vs,v = .ref a/\(if t=true then SqL K H a vs else SqT K H a vs)/\Dens K G ds vs:=by
 cases q with
 |tup ds=>obtain⟨a,vs,e,s,d⟩:=h.tup_;exact⟨a,vs,e,R.eP r.same s,d⟩
 |lst ds=>obtain⟨a,vs,e,s,d⟩:=h.lst_;exact⟨a,vs,e,SqL.of (r.same _ _ s),d⟩
 |fl ds=>obtain⟨a,vs,e,s,d⟩:=h.fl_;exact⟨a,vs,e,r.same.seq s,d⟩
 |mt hm=>obtain⟨_,vs,e,d⟩:=r.mem _ _ hm;exact⟨_,vs,h.mt_,SqL.of e,d⟩
theorem Seq.sq2{t:Bool}(q:Seq M d t ds)(r:Rel K G H M)(h:Den K G d v):∃a vs,v = .ref a/\(SqL K H a vs\/SqT K H a vs)/\Dens K G ds vs:=by
 obtain⟨a,vs,e,s,d⟩:=q.sq r h
 refine⟨a,vs,e,?_,d⟩
 cases t with
 |true=>exact .inl s
 |false=>exact .inr s
inductive Lst(M:Mem):D->List D->Prop
 |lst (ds:List D):Lst M (.lst ds) ds
 |mt {a:Addr}{ds:List D} (h:M a=some (.lst ds)):Lst M (.mt a) ds
theorem Lst.sq(q:Lst M d ds)(r:Rel K G H M)(h:Den K G d v):∃a vs,v = .ref a/\H a=some (.lst vs)/\Dens K G ds vs:=by
 cases q with
 |lst ds=>obtain⟨a,vs,e,s,d⟩:=h.lst_;exact⟨a,vs,e,r.same _ _ s,d⟩
 |mt hm=>obtain⟨_,vs,e,d⟩:=r.mem _ _ hm;exact⟨_,vs,h.mt_,e,d⟩
end
section
variable {a b:Expr}{rest:List Expr}
theorem aB(i:Nat)(hΓ:Γ[i]?=some (some d))(h:k d M)(hN:X.N[i]?=some x:=by rfl)(hv:Vis X.env.scope x:=by first|exact QE rfl|exact QD (QE rfl)|exact QD (QD rfl))(hd:(x==("__debug__" : Str))=false:=by decide)(hcd:(x==("__classdict__" : Str))=false:=by decide):GE X (.Name x pos) Γ M k:=
 λσ G H Q a b q=>cM (aHH hN hv hd hcd) (let ⟨v,e,dv⟩:=a.get i d hΓ;⟨v,e,q v G H d M (Stp.refl b) dv h⟩)
theorem z6{i:Int}(h:k (.int i) M):GE X (.Constant (.int i) j pos) Γ M k:=λσ G H Q en rl q=>cM aRS (q _ G H _ M (Stp.refl rl) cP h)
theorem kG{i:Bool}(h:k (.bl i) M):GE X (.Constant (.bool i) j pos) Γ M k:=λσ G H Q en rl q=>cM aTZ (q _ G H _ M (Stp.refl rl) dU h)
theorem qC(h:k .non M):GE X (.Constant .none j pos) Γ M k:=λσ G H Q en rl q=>cM aSC (q _ G H _ M (Stp.refl rl) xK h)
theorem ge_str(h:k (.str x) M):GE X (.Constant (.str x) j pos) Γ M k:=λσ G H Q en rl q=>cM aQX (q _ G H _ M (Stp.refl rl) jW h)
theorem aA1(h:GE X e Γ M λd M1=>∃a ds M2,d = .mt a/\M1 a=some (.lst ds)/\M2 a=none/\Le M2 M1/\k (.lst ds) M2):GE X e Γ M k:=λσ G H Q i m q =>
 h σ G H Q i m λv G1 H1 d M1 s1 n ⟨a,ds,M2,g,j,f,r,p⟩=>by
  subst g
  obtain⟨vs,t,s,st⟩:=s1.rel.frz j
  have l:Le M2 (k8 M1 a):=λb o z=>by rw[rX (λy=>by rw[y,f] at z;cases z)];exact r b o z
  have c:=st.trans (st.rel.drop l)
  exact q v _ _ (.lst ds) M2 (s1.trans c) (by rw[n.mt_];exact gX bJ (s.up st.gg)) p
noncomputable def Op2(K:Fg)(r:R2)(d1 d2:D)(M:Mem)(k:D->Mem->Prop):Prop:=∀G H v1 v2 Q,Rel K G H M->Den K G d1 v1->Den K G d2 v2->Cont K M k G H Q->r v1 v2 H Q
theorem two{r:R2}(h:GE X a Γ M λd1 M1=>GE X b Γ M1 λd2 M2=>Op2 X.K r d1 d2 M2 k){Q:VK}(en:EnvR X.K G Γ σ)(rl:Rel X.K G H M)(q:Cont X.K M k G H Q):tOp r (tU X a) (tU X b) σ H Q:=by
 refine h σ G H _ en rl λv1 G1 H1 d1 M1 s1 f e => ?_
 refine e σ G1 H1 _ (en.up s1.gg) s1.rel λv2 G2 H2 d2 M2 s2 c d => ?_
 exact d G2 H2 v1 v2 Q s2.rel (f.up s2.gg) c (q.up (s1.trans s2))
theorem aF{op:Operator}{r:R2}(ho:OpR X (zw op) r)(h:GE X a Γ M λd1 M1=>GE X b Γ M1 λd2 M2=>Op2 X.K r d1 d2 M2 k):GE X (.BinOp a op b pos) Γ M k:=
 λσ G H Q c d q=>cM (aUB ho pU pU) (two h c d q)
theorem fR{op:KF}{r:R2}(ho:OpR X (wh op) r)(h:GE X a Γ M λd1 M1=>GE X b Γ M1 λd2 M2=>Op2 X.K r d1 d2 M2 k)(hm:dm op b=false:=by first|exact nomark _|rfl):GE X (.Compare a [op] [b] pos) Γ M k:=
 λσ G H Q c d q=>cM (aN6 ho pU pU hm) (two h c d q)
theorem bL{op:KF}{r:R2}(ho:OpR X (wh op) r)(h:GE X a Γ M λd1 M1=>GE X b Γ M1 λd2 M2=>Op2 X.K r d1 d2 M2 λd M3=>∃c,d = .bl c/\kb c M3)(hm:dm op b=false:=by first|exact nomark _|rfl):GT X (.Compare a [op] [b] pos) Γ M kb:=
 λσ G H Q f i q=>qP (aOI ho pU pU hm) (two (k:=λd M3=>∃c,d = .bl c/\kb c M3) h f i λv G' H' d M' s e ⟨c,g,j⟩=>by subst g;exact⟨c,e.bl_,q c G' H' M' s j⟩)
theorem aG{r:R2}(hr:IxR X r)(h:GE X a Γ M λd1 M1=>GE X b Γ M1 λd2 M2=>Op2 X.K r d1 d2 M2 k)(hs:aEC b:=by intro _ _;rfl):GE X (.Subscript a b pos) Γ M k:=
 λσ G H Q c d q=>cM (aUV hr pU pU hs) (two h c d q)
theorem kI{op:UnaryOp}{g:Int->Int}(ho:UnR X (unaryOp op) (rU λi => .int (g i)))(h:GE X a Γ M λd M1=>∃i,d = .int i/\k (.int (g i)) M1):GE X (.UnaryOp op a pos) Γ M k:=λσ G H Q c f q=>by
 refine cM (aTV ho pU) ?_
 refine h σ G H _ c f λv G1 H1 d M1 s1 j ⟨i,b,e⟩ => ?_
 subst b
 exact⟨i,j.int_,q _ _ _ _ _ s1 cP e⟩
end
section
variable {K:Fg}{i j:Int}{y:Str}
theorem bA{g:Int->Int->Int}(h:k (.int (g i j)) M):Op2 K (rI0 λi j => .int (g i j)) (.int i) (.int j) M k:=λG H v1 v2 Q rl e1 e2 q=>⟨i,j,e1.int_,e2.int_,q _ G H _ M (Stp.refl rl) cP h⟩
theorem aX{C:Int->Int->Prop}{g:Int->Int->Int}(hc:C i j)(h:k (.int (g i j)) M):Op2 K (rI C λi j => .int (g i j)) (.int i) (.int j) M k:=λG H v1 v2 Q b c a q=>⟨i,j,c.int_,a.int_,hc,q _ G H _ M (Stp.refl b) cP h⟩
theorem d6{g:Int->Int->Bool}(h:k (.bl (g i j)) M):Op2 K (rI0 λi j => .bl (g i j)) (.int i) (.int j) M k:=λG H v1 v2 Q rl e1 e2 q=>⟨i,j,e1.int_,e2.int_,q _ G H _ M (Stp.refl rl) dU h⟩
theorem kX(h:k (.bl (decide (i=j))) M):Op2 K rEq (.int i) (.int j) M k:=λG H v1 v2 Q b c a q=>by
 rw[c.int_,a.int_]
 exact⟨rfl,by rw[show decide (V.int i=V.int j)=decide (i=j) from by simp];exact q _ G H _ M (Stp.refl b) dU h⟩
theorem zX(h:k (.bl (!decide (i=j))) M):Op2 K rNe (.int i) (.int j) M k:=λG H v1 v2 Q b c a q=>by
 rw[c.int_,a.int_]
 exact⟨rfl,by rw[show decide (V.int i=V.int j)=decide (i=j) from by simp];exact q _ G H _ M (Stp.refl b) dU h⟩
theorem o4(h:k (.bl (decide (x=y))) M):Op2 K rEq (.str x) (.str y) M k:=λG H v1 v2 Q b c a q=>by
 rw[c.str_,a.str_]
 exact⟨rfl,by rw[show decide (V.str x=V.str y)=decide (x=y) from by simp];exact q _ G H _ M (Stp.refl b) dU h⟩
theorem mO(h:k (.bl (!decide (x=y))) M):Op2 K rNe (.str x) (.str y) M k:=λG H v1 v2 Q b c a q=>by
 rw[c.str_,a.str_]
 exact⟨rfl,by rw[show decide (V.str x=V.str y)=decide (x=y) from by simp];exact q _ G H _ M (Stp.refl b) dU h⟩
theorem aH{d1:D}{t:Bool}(q1:Seq M d1 t ds)(e:atI ds i=some d)(h:k d M):Op2 K (rIx K) d1 (.int i) M k:=λG H v1 v2 Q b g c q=>by
 obtain⟨a,vs,ev,s,dn⟩:=q1.sq2 b g
 obtain⟨v,f,dv⟩:=dn.atI e
 rw[ev,c.int_]
 exact R.aUC s f (q v G H d M (Stp.refl b) dv h)
theorem fP{z:Str}{c:Nat}(hz:z.length<=sizeLine)(e:atI z.cps.toList i=some c)(h:k (.str ⟨#[c]⟩) M):Op2 K (rIx K) (.str z) (.int i) M k:=λG H v1 v2 Q b d a q =>
 .inr (.inr ⟨z,i,c,d.str_,a.int_,hz,e,q _ G H _ M (Stp.refl b) jW h⟩)
theorem r0(hz:x.length+y.length<=sizeLine)(h:k (.str (x++y)) M):Op2 K (λx y H Q=>∃i j,x = .str i/\y = .str j/\i.length+j.length<=sizeLine/\Q (.str (i++j)) H) (.str x) (.str y) M k:=
 λG H v1 v2 Q b c a q=>⟨x,y,c.str_,a.str_,hz,q _ G H _ M (Stp.refl b) jW h⟩
theorem rK(h1 : -(2^40)<=i)(h2:i<2^40)(h3:x.length*i.toNat<=sizeLine)(h:k (.str (iY x i.toNat)) M):Op2 K aMI (.str x) (.int i) M k:=
 λG H v1 v2 Q b c a q=>⟨x,i,c.str_,a.int_,h1,h2,h3,q _ G H _ M (Stp.refl b) jW h⟩
theorem eZ{d1 d2:D}{xs ys:List D}(q1:Lst M d1 xs)(q2:Lst M d2 ys)(hl:xs.length+ys.length<=sizeLine)(h:k (.lst (xs++ys)) M):Op2 K rCat d1 d2 M k:=λG H v1 v2 Q d g f q=>by
 obtain⟨a,vs,ev,s,dn⟩:=q1.sq d g
 obtain⟨b,ws,i,s2,c⟩:=q2.sq d f
 refine⟨a,b,vs,ws,ev,i,s,s2,by rw[<- dn.len,<- c.len];exact hl,λp e => ?_⟩
 have st:=d.new (o := .lst (vs++ws)) e
 exact q _ _ _ _ _ st (gX bJ ((dn.append c).up st.gg)) h
end
end Z
namespace Z
open PySem L2
section
variable {a b:Expr}{rest:List Expr}
theorem cC(h:GE X e Γ M λd M1=>∃c,d = .bl c/\kb c M1)(he:∀whole,isTrue e X.env whole=(do let v <- whole;Ju e.pos;gy [v] (Wq v)):=by intro _;rfl):GT X e Γ M kb:=λσ G H Q b g q=>by
 refine qP (aSE pU he) ?_
 exact h σ G H _ b g λv G1 H1 d M1 s1 i ⟨c,a,f⟩=>by subst a;exact⟨c,i.bl_,q _ _ _ _ s1 f⟩
inductive Tru(M:Mem):D->Bool->Prop
 |seq {d:D}{t:Bool}{ds:List D} (q:Seq M d t ds):Tru M d (!ds.isEmpty)
 |str (x:Str) (h:x.length<=sizeLine):Tru M (.str x) ((x.length:Int) != 0)
 |bl (b:Bool):Tru M (.bl b) b
 |int (i:Int):Tru M (.int i) (i != 0)
 |non:Tru M .non false
theorem aA5{K:Fg}{vs:List V}(h:Dens K G ds vs):ds.isEmpty=vs.isEmpty:=by
 cases ds with
 |nil=>rw[cK h];rfl
 |cons d ds=>obtain⟨v,r,rfl,_⟩:=bX h;rfl
theorem mU(h:GE X e Γ M λd M1=>∃c,Tru M1 d c/\kb c M1)(he:∀whole,isTrue e X.env whole=(do let v <- whole;Ju e.pos;gy [v] (Wq v)):=by intro _;rfl):GT X e Γ M kb:=λσ G H Q g k q=>by
 refine qP (aK2 pU he) ?_
 refine h σ G H _ g k λv G1 H1 d M1 s1 f ⟨c,tr,j⟩=>⟨c,?_,q _ _ _ _ s1 j⟩
 cases tr with
 |seq sq =>
  obtain⟨a,vs,ev,s,dn⟩:=sq.sq2 s1.rel f
  subst ev
  rw[aA5 dn]
  rcases s with s|s
  ·exact .inl ⟨vs,s,rfl⟩
  ·exact .inr (.inl ⟨vs,s,rfl⟩)
 |str x hx=>rw[f.str_];exact⟨hx,rfl⟩
 |bl b=>rw[f.bl_];rfl
 |int i=>rw[f.int_];rfl
 |non=>rw[f.non_];rfl
theorem dG(h:GT X a Γ M λc M1=>kb (!c) M1):GT X (.UnaryOp .Not a pos) Γ M kb:=λσ G H Q en rl q=>by
 refine qP (aSS pUT) ?_
 exact h σ G H _ en rl λc G1 H1 M1 s1 h1=>q _ _ _ _ s1 h1
theorem iC(h:GW X e Γ M kb):GT X e Γ M kb:=λσ G H Q en rl q pins s I=>h σ G H Q en rl q (eval e X.env) pins s I
theorem oQ(h:GT X a Γ M kb):GW X (.BoolOp .And [a] pos) Γ M kb:=λσ G H Q en rl q=>uU (aOG pUT) (h σ G H _ en rl q)
theorem mE(h:GT X a Γ M kb):GW X (.BoolOp .Or [a] pos) Γ M kb:=λσ G H Q en rl q=>uU (aRV pUT) (h σ G H _ en rl q)
theorem kS(h:GT X a Γ M λc M1=>if c=true then GW X (.BoolOp .And (b::rest) pos) Γ M1 kb else kb false M1):GW X (.BoolOp .And (a::b::rest) pos) Γ M kb:=λσ G H Q e f q=>by
 refine uU (aRR pUT pUW) ?_
 refine h σ G H _ e f λc G1 H1 M1 s1 d => ?_
 cases c with
 |true=>rw[if_pos rfl] at d ⊢;exact d σ G1 H1 _ (e.up s1.gg) s1.rel (q.up s1)
 |false=>rw[if_neg zBf] at d ⊢;exact q _ _ _ _ s1 d
theorem kK(h:GT X a Γ M λc M1=>if c=true then kb true M1 else GW X (.BoolOp .Or (b::rest) pos) Γ M1 kb):GW X (.BoolOp .Or (a::b::rest) pos) Γ M kb:=λσ G H Q e f q=>by
 refine uU (aU1 pUT pUW) ?_
 refine h σ G H _ e f λc G1 H1 M1 s1 d => ?_
 cases c with
 |true=>rw[if_pos rfl] at d ⊢;exact q _ _ _ _ s1 d
 |false=>rw[if_neg zBf] at d ⊢;exact d σ G1 H1 _ (e.up s1.gg) s1.rel (q.up s1)
theorem jG{op:BoolOp}(h:GE X a Γ M k):GE X (.BoolOp op [a] pos) Γ M k:=λσ G H Q en rl q=>cM (aRC pU) (h σ G H _ en rl q)
theorem jI(h:GE X a Γ M λd M1=>∃c,d = .bl c/\if c=true then GE X (.BoolOp .And (b::rest) pos) Γ M1 k else k (.bl false) M1):GE X (.BoolOp .And (a::b::rest) pos) Γ M k:=λσ G H Q f i q=>by
 refine cM (aTC pU pU) ?_
 refine h σ G H _ f i λv G1 H1 d M1 s1 j ⟨c,g,e⟩ => ?_
 subst g
 refine⟨c,j.bl_,?_⟩
 cases c with
 |true=>rw[if_pos rfl] at e ⊢;exact e σ G1 H1 _ (f.up s1.gg) s1.rel (q.up s1)
 |false=>rw[if_neg zBf] at e ⊢;exact q _ _ _ _ _ s1 dU e
theorem oH(h:GE X a Γ M λd M1=>∃c,d = .bl c/\k (.bl (!c)) M1):GE X (.UnaryOp .Not a pos) Γ M k:=λσ G H Q e g q=>by
 refine cM (aTD pU) ?_
 exact h σ G H _ e g λv G1 H1 d M1 s1 i ⟨c,b,f⟩=>by subst b;exact⟨c,i.bl_,q _ _ _ _ _ s1 dU f⟩
theorem uQ(h:GT X c Γ M λt M1=>if t=true then GE X a Γ M1 k else GE X b Γ M1 k):GE X (.IfExp c a b pos) Γ M k:=λσ G H Q e f q=>by
 refine cM (aJ5 pUT pU pU) ?_
 refine h σ G H _ e f λt G1 H1 M1 s1 d => ?_
 cases t with
 |true=>rw[if_pos rfl] at d ⊢;exact d σ G1 H1 _ (e.up s1.gg) s1.rel (q.up s1)
 |false=>rw[if_neg zBf] at d ⊢;exact d σ G1 H1 _ (e.up s1.gg) s1.rel (q.up s1)
variable {ka:List D->Mem->Prop}
theorem aC(h:ka [] M):GA X [] Γ M ka:=λσ G H Q en rl q=>aI1 vU (q _ _ _ _ _ (Stp.refl rl) cZ h)
theorem aA(h:GE X e Γ M λd M1=>GA X es Γ M1 λds M2=>ka (d::ds) M2)(hs:jk (e::es) X.env=(false,eval e X.env)::jk es X.env:=by rfl):GA X (e::es) Γ M ka:=λσ G H Q a g q=>by
 refine aI1 (oW pU pUA hs) ?_
 refine h σ G H _ a g λv G1 H1 d M1 s1 i f => ?_
 exact f σ G1 H1 _ (a.up s1.gg) s1.rel λvs G2 H2 ds M2 s2 c b=>q _ _ _ _ _ (s1.trans s2) (cD (i.up s2.gg) c) b
theorem bY{x1}(h:GA X es Γ M λds M1=>ds.length<=sizeLine/\k (.tup ds) M1):GE X (.Tuple es x1 pos) Γ M k:=λσ G H Q c e q=>by
 refine cM (aQ7 pUA) ?_
 refine h σ G H _ c e λvs G1 H1 ds M1 s1 a ⟨hl,d⟩=>⟨by rw[<- a.len];exact hl,λp b => ?_⟩
 have st:=s1.rel.new (o := .tup vs) b
 exact q _ _ _ _ _ (s1.trans st) (iA (SqT.of bJ) (a.up st.gg)) d
theorem bW(h:GA X es Γ M λds M1=>ds.length<=sizeLine/\k (.lst ds) M1):GE X (.List es pos) Γ M k:=λσ G H Q c e q=>by
 refine cM (aID pUA) ?_
 refine h σ G H _ c e λvs G1 H1 ds M1 s1 a ⟨hl,d⟩=>⟨by rw[<- a.len];exact hl,λp b => ?_⟩
 have st:=s1.rel.new (o := .lst vs) b
 exact q _ _ _ _ _ (s1.trans st) (gX bJ (a.up st.gg)) d
theorem f6(h:GA X es Γ M λds M1=>ds.length<=sizeLine/\∀a,M1 a=none->k (.mt a) (bV M1 a (.lst ds))):GE X (.List es pos) Γ M k:=λσ G H Q d f q=>by
 refine cM (aID pUA) ?_
 refine h σ G H _ d f λvs G1 H1 ds M1 s1 c ⟨hl,e⟩=>⟨by rw[<- c.len];exact hl,λp b => ?_⟩
 exact q _ _ _ _ _ (s1.trans (s1.rel.newM b c)) aAT (e p (s1.rel.free b).2)
abbrev Ct:=List D->Mem->(D->Mem->Prop)->Prop
noncomputable def spZ(K:Fg)(F:Ct):Sp:=λvs H Q _=>∃G M ds k,Rel K G H M/\Dens K G ds vs/\F ds M k/\Cont K M k G H Q
theorem aQB{ps:List Str}{p:Pos}{F:Ct}(Fk:FnOk X.prog X.w X.K X.mg X.base CX0 n f fd ps (spZ X.K F))(hr:Room n X.A)(hm:X.mg x=some (.ref f))(hk:bb X.K (.ref f)=true)(hb:Binds X.K fd ps [])(h:GA X (e::es) Γ M λds M1=>F ds M1 k)(hg:Gl X x:=by rfl)(hdb:(x==("__debug__" : Str))=false:=by decide)(he:jk (e::es) X.env=(false,eval e X.env)::jk es X.env:=by rfl)(hpl:(dh pos (jk es X.env)).any (·.1)=false:=by rfl):
  GE X (.Call (.Name x p) (e::es) [] pos) Γ M k:=λσ G H Q a c q=>by
 refine cM (aNN Fk hr hg hm hk hb .nil pass0 pUA hdb he hpl) ?_
 refine h σ G H _ a c λvs G1 H1 ds M1 s1 d b => ?_
 show spZ X.K F (vs++[]) H1 Q E0
 rw[wg]
 exact⟨G1,M1,ds,k,s1.rel,d,b,q.up s1⟩
noncomputable def OpN(K:Fg)(r:List V->Hp->VK->Prop)(ds:List D)(M:Mem)(k:D->Mem->Prop):Prop:=∀G H vs Q,Rel K G H M->Dens K G ds vs->Cont K M k G H Q->r vs H Q
theorem aP{p:Pos}{id:String}{r:List V->Hp->VK->Prop}(hc:dY X (.builtin id) r)(hm:X.mg x=none)(hv:kh x=some (.builtin id))(h:GA X (e::es) Γ M λds M1=>OpN X.K r ds M1 k)(hg:Gl X x:=by rfl)(hn:x ≠ "__name__" := by decide)(hdb:(x==("__debug__" : Str))=false:=by decide)(he:jk (e::es) X.env=(false,eval e X.env)::jk es X.env:=by rfl)(hpl:(dh pos (jk es X.env)).any (·.1)=false:=by rfl):GE X (.Call (.Name x p) (e::es) [] pos) Γ M k:=λσ G H Q a c q=>by
 refine cM (uG hc hg hm hv pUA hn hdb he hpl) ?_
 exact h σ G H _ a c λvs G1 H1 ds M1 s1 d b=>b G1 H1 vs Q s1.rel d (q.up s1)
theorem cJ{p:Pos}{T:String}{r:List V->Hp->VK->Prop}(hc:dY X (.type T) r)(hm:X.mg x=none)(hv:kh x=some (.type T))(h:GA X (e::es) Γ M λds M1=>OpN X.K r ds M1 k)(hg:Gl X x:=by rfl)(hn:x ≠ "__name__" := by decide)(hdb:(x==("__debug__" : Str))=false:=by decide)(he:jk (e::es) X.env=(false,eval e X.env)::jk es X.env:=by rfl)(hpl:(dh pos (jk es X.env)).any (·.1)=false:=by rfl):GE X (.Call (.Name x p) (e::es) [] pos) Γ M k:=λσ G H Q a c q=>by
 refine cM (xY hc hg hm hv pUA hn hdb he hpl) ?_
 exact h σ G H _ a c λvs G1 H1 ds M1 s1 d b=>b G1 H1 vs Q s1.rel d (q.up s1)
theorem dens1{K:Fg}{vs:List V}(h:Dens K G [d] vs):∃v,vs=[v]/\Den K G d v:=by
 obtain⟨v,r,rfl,h1,h2⟩:=bX h
 rw[cK h2];exact⟨v,rfl,h1⟩
theorem dens2{K:Fg}{c:D}{vs:List V}(h:Dens K G [d,c] vs):∃v u,vs=[v,u]/\Den K G d v/\Den K G c u:=by
 obtain⟨v,r,rfl,h1,h2⟩:=bX h
 obtain⟨u,rfl,h3⟩:=dens1 h2
 exact⟨v,u,rfl,h1,h3⟩
theorem b5{K:Fg}{t:Bool}(q1:Seq M d t ds)(h:k (.int (ds.length:Int)) M):OpN K (λxs H Q=>∃x n,xs=[x]/\aME K x H n/\Q (.int n) H) [d] M k:=λG H vs Q b e q=>by
 obtain⟨v,rfl,dv⟩:=dens1 e
 obtain⟨a,ws,ev,s,dn⟩:=q1.sq2 b dv
 subst ev
 refine⟨_,ds.length,rfl,?_,q _ _ _ _ _ (Stp.refl b) cP h⟩
 rcases s with s|s
 ·exact .inl ⟨ws,s,dn.len⟩
 ·exact .inr ⟨ws,s,dn.len⟩
theorem gY{K:Fg}(hz:x.length<=sizeLine)(h:k (.int (x.length:Int)) M):OpN K (λxs H Q=>∃x n,xs=[x]/\aME K x H n/\Q (.int n) H) [.str x] M k:=λG H vs Q a e q=>by
 obtain⟨v,rfl,dv⟩:=dens1 e
 rw[dv.str_]
 exact⟨_,x.length,rfl,⟨hz,rfl⟩,q _ _ _ _ _ (Stp.refl a) cP h⟩
theorem qQ{K:Fg}{i:Int}(h:k (.int (if i<0 then -i else i)) M):OpN K (λxs H Q=>∃i,xs=[.int i]/\Q (.int (if i<0 then -i else i)) H) [.int i] M k:=λG H vs Q a e q=>by
 obtain⟨v,rfl,dv⟩:=dens1 e
 rw[dv.int_]
 exact⟨i,rfl,q _ _ _ _ _ (Stp.refl a) cP h⟩
theorem aC4{K:Fg}{c:Bool}(h:k (.int (if c then 1 else 0)) M):OpN K (λxs H Q=>(∃i,xs=[.int i]/\Q (.int i) H)\/∃k,xs=[.bl k]/\Q (.int (if k then 1 else 0)) H) [.bl c] M k:=λG H vs Q a e q=>by
 obtain⟨v,rfl,dv⟩:=dens1 e
 rw[dv.bl_]
 exact .inr ⟨c,rfl,q _ _ _ _ _ (Stp.refl a) cP h⟩
theorem qN{K:Fg}{i j:Int}(h:k (.int (if j>i then j else i)) M):OpN K (λxs H Q=>∃i j,xs=[.int i, .int j]/\Q (.int (if j>i then j else i)) H) [.int i, .int j] M k:=λG H vs Q b e q=>by
 obtain⟨v,u,rfl,dv,a⟩:=dens2 e
 rw[dv.int_,a.int_]
 exact⟨i,j,rfl,q _ _ _ _ _ (Stp.refl b) cP h⟩
theorem aQQ{K:Fg}{i j:Int}(h:k (.int (if j<i then j else i)) M):OpN K (λxs H Q=>∃i j,xs=[.int i, .int j]/\Q (.int (if j<i then j else i)) H) [.int i, .int j] M k:=λG H vs Q b e q=>by
 obtain⟨v,u,rfl,dv,a⟩:=dens2 e
 rw[dv.int_,a.int_]
 exact⟨i,j,rfl,q _ _ _ _ _ (Stp.refl b) cP h⟩
theorem oV{K:Fg}{t:Bool}(q1:Seq M d t ds)(h:k (.lst ds) M):OpN K (λxs H Q=>∃p ys,xs=[.ref p]/\(SqL K H p ys\/SqT K H p ys)/\∀l,H l=none->Q (.ref l) (upd H l (.lst ys))) [d] M k:=λG H vs Q b e q=>by
 obtain⟨v,rfl,dv⟩:=dens1 e
 obtain⟨a,ws,ev,s,dn⟩:=q1.sq2 b dv
 subst ev
 refine⟨a,ws,rfl,s,λl hl => ?_⟩
 have st:=b.new (o := .lst ws) hl
 exact q _ _ _ _ _ st (gX bJ (dn.up st.gg)) h
theorem gH{K:Fg}{t:Bool}(q1:Seq M d t ds)(h:k (.tup ds) M):OpN K (λxs H Q=>∃p ys,xs=[.ref p]/\((SqL K H p ys/\∀l,H l=none->Q (.ref l) (upd H l (.tup ys)))\/(SqT K H p ys/\Q (.ref p) H))) [d] M k:=λG H vs Q b e q=>by
 obtain⟨v,rfl,dv⟩:=dens1 e
 cases q1 with
 |tup ds =>
  obtain⟨a,ws,ev,s,dn⟩:=dv.tup_
  subst ev
  exact⟨a,ws,rfl, .inr ⟨R.eP b.same s,q _ _ _ _ _ (Stp.refl b) dv h⟩⟩
 |lst ds =>
  obtain⟨a,ws,ev,s,dn⟩:=(Seq.lst ds).sq b dv
  subst ev
  refine⟨a,ws,rfl, .inl ⟨s,λl hl => ?_⟩⟩
  have st:=b.new (o := .tup ws) hl
  exact q _ _ _ _ _ st (iA (SqT.of bJ) (dn.up st.gg)) h
 |fl ds =>
  obtain⟨a,ws,ev,s,dn⟩:=(Seq.fl ds).sq b dv
  subst ev
  refine⟨a,ws,rfl, .inl ⟨s,λl hl => ?_⟩⟩
  have st:=b.new (o := .tup ws) hl
  exact q _ _ _ _ _ st (iA (SqT.of bJ) (dn.up st.gg)) h
 |mt hm =>
  obtain⟨a,ws,ev,s,dn⟩:=(Seq.mt hm).sq b dv
  subst ev
  refine⟨a,ws,rfl, .inl ⟨s,λl hl => ?_⟩⟩
  have st:=b.new (o := .tup ws) hl
  exact q _ _ _ _ _ st (iA (SqT.of bJ) (dn.up st.gg)) h
theorem aET{K:Fg}:∀{bs:List Bool}{vs:List V},Dens K G (bs.map D.bl) vs->vs=bs.map V.bl
 |[],_,h=>cK h
 |b::bs,_,h=>by
  obtain⟨v,r,rfl,h1,h2⟩:=bX h
  rw[h1.bl_,aET h2];rfl
theorem aBW{K:Fg}:∀{bs:List Str}{vs:List V},Dens K G (bs.map D.str) vs->vs=bs.map V.str
 |[],_,h=>cK h
 |b::bs,_,h=>by
  obtain⟨v,r,rfl,h1,h2⟩:=bX h
  rw[h1.str_,aBW h2];rfl
theorem qS{K:Fg}:∀{bs:List Int}{vs:List V},Dens K G (bs.map D.int) vs->vs=bs.map V.int
 |[],_,h=>cK h
 |b::bs,_,h=>by
  obtain⟨v,r,rfl,h1,h2⟩:=bX h
  rw[h1.int_,qS h2];rfl
theorem mF{K:Fg}{t:Bool}{bs:List Bool}{g:List Bool->Bool}(q1:Seq M d t (bs.map D.bl))(h:k (.bl (g bs)) M):OpN K (aMC K g) [d] M k:=λG H vs Q b e q=>by
 obtain⟨v,rfl,dv⟩:=dens1 e
 obtain⟨a,ws,ev,s,dn⟩:=q1.sq2 b dv
 subst ev
 rw[aET dn] at s
 exact⟨a,bs,rfl,s,q _ _ _ _ _ (Stp.refl b) dU h⟩
noncomputable def TyD(T:String)(d:D)(M:Mem):Prop:=match d with
 |.str _=>T = "str"
 |.lst _=>T = "list"
 |.mt a=>T = "list" /\ ∃ds,M a=some (.lst ds)
 |_=>False
theorem TyD.ok{K:Fg}{T:String}(h:TyD T d M)(rl:Rel K G H M)(e:Den K G d v):tyV K T v H:=by
 cases d with
 |str x=>rw[e.str_];exact h
 |lst ds=>obtain⟨a,vs,ev,s,_⟩:=e.lst_;rw[ev];exact .inl ⟨h,vs,SqL.of (rl.same _ _ s)⟩
 |mt a =>
  obtain⟨c,ds,b⟩:=h
  obtain⟨_,vs,s,_⟩:=rl.mem _ _ b
  rw[e.mt_];exact .inl ⟨c,vs,SqL.of s⟩
 |_=>exact zd h
noncomputable def OpM(K:Fg)(r:V->List V->Hp->VK->Prop)(d:D)(ds:List D)(M:Mem)(k:D->Mem->Prop):Prop:=∀G H v vs Q,Rel K G H M->Den K G d v->Dens K G ds vs->Cont K M k G H Q->r v vs H Q
theorem fK{T id:String}{r:V->List V->Hp->VK->Prop}(pa:PlainAttrs T)(slot:Slot T name id)(hty:typeOf (.builtin id)=pure (.type "method_descriptor"))(hm:MtR X id r)(h:GE X o Γ M λd M1=>TyD T d M1/\GA X (e::es) Γ M1 λds M2=>OpM X.K r d ds M2 k)(hbase:attributeBase o name X.env (eval o X.env)=eval o X.env:=by rfl)(hfew:((dh cpos (jk (e::es) X.env)).all (λx => !x.1)&&(backToKw cpos (keywordEach [] X.env)).all (λx=>x.1.isSome)
   && decide ((e::es).length+([]:List KH).length+(if ([]:List KH).isEmpty then 0 else 1)<30))=true:=by rfl)(hline:(apos.endLine==cpos.line)=true:=by rfl)(hs:jk (e::es) X.env=(false,eval e X.env)::jk es X.env:=by rfl)(hplain:(dh cpos (jk es X.env)).any (·.1)=false:=by rfl):
  GE X (.Call (.Attribute o name apos) (e::es) [] cpos) Γ M k:=λσ G H Q a i q=>by
 refine cM (aUG pa slot hty hm pU pUA hbase hfew hline hs hplain) ?_
 refine h σ G H _ a i λv G1 H1 d M1 s1 b ⟨ty,g⟩=>⟨ty.ok s1.rel b,?_⟩
 exact g σ G1 H1 _ (a.up s1.gg) s1.rel λvs G2 H2 ds M2 s2 f c=>c G2 H2 v vs Q s2.rel (b.up s2.gg) f (q.up (s1.trans s2))
theorem dE{K:Fg}{a:Addr}(hm:M a=some (.lst ds))(hl:ds.length<sizeLine)(h:k .non (bV M a (.lst (ds++[d])))):OpM K aDH (.mt a) [d] M k:=λG H v vs Q b e c q=>by
 obtain⟨u,rfl,f⟩:=dens1 c
 obtain⟨_,ws,s,dn⟩:=b.mem _ _ hm
 exact⟨a,ws,u,e.mt_,rfl,s,by rw[<- dn.len];exact hl,q _ _ _ _ _ (b.wr hm (dn.append (cD f cZ))) xK h⟩
theorem rV{K:Fg}{sep:Str}{t:Bool}{ys:List Str}(q1:Seq M d t (ys.map D.str))(h1:sep.length<=16)(h2:(ys.map (·.length)).sum+ys.length<=1048576)(h:k (.str (nj sep ys)) M):OpM K (rJoin K) (.str sep) [d] M k:=λG H v vs Q b e c q=>by
 obtain⟨u,rfl,f⟩:=dens1 c
 obtain⟨a,ws,ev,s,dn⟩:=q1.sq2 b f
 subst ev
 rw[aBW dn] at s
 exact⟨sep,a,ys,e.str_,rfl,s,h1,h2,q _ _ _ _ _ (Stp.refl b) jW h⟩
end
end Z
namespace Z
open PySem L2
section
variable {a b:Expr}{rest:List Expr}{lo hi:Option Expr}{ko:Option Int->Mem->Prop}
noncomputable def tUO(X:Cx)(e:Option Expr):TO:=λσ H Q=>∀pins s,Inv X pins σ H s->wpAny X.w.14 X.A (evalPart e X.env) (λu s'=>∃o H',Inv X pins σ H' s'/\QC u o/\Q o H') X.xe s
theorem pUO{e:Option Expr}:PO X e (tUO X e):=λpins s σ H Q I h=>h pins s I
theorem aJG{e:Option Expr}{t:TO}(p:PO X e t){Q:Option Int->Hp->Prop}(h:t σ H Q):tUO X e σ H Q:=λpins s I=>p pins s σ H Q I h
noncomputable def GO(X:Cx)(e:Option Expr)(Γ:Gm)(M:Mem)(ko:Option Int->Mem->Prop):Prop:=
 ∀σ G H Q,EnvR X.K G Γ σ->Rel X.K G H M->(∀o G' H' M',Stp X.K G H M G' H' M'->ko o M'->Q o H')->tUO X e σ H Q
theorem j8(h:ko none M):GO X none Γ M ko:=λσ G H Q en rl q=>aJG aM4 (q _ _ _ _ (Stp.refl rl) h)
theorem jZ(h:GE X e Γ M λd M1=>∃i,d = .int i/\ko (some i) M1):GO X (some e) Γ M ko:=λσ G H Q b f q=>aJG (aOP pU) (h σ G H _ b f λv G1 H1 d M1 s1 g ⟨i,a,c⟩=>by subst a;exact⟨i,g.int_,q _ _ _ _ s1 c⟩)
abbrev R3:=V->Option Int->Option Int->Hp->VK->Prop
noncomputable def Op3(K:Fg)(r:R3)(d:D)(l u:Option Int)(M:Mem)(k:D->Mem->Prop):Prop:=∀G H v Q,Rel K G H M->Den K G d v->Cont K M k G H Q->r v l u H Q
theorem i0{r:R3}(hr:SlR X r)(h:GE X e Γ M λd M1=>GO X lo Γ M1 λl M2=>GO X hi Γ M2 λu M3=>Op3 X.K r d l u M3 k):GE X (.Subscript e (.Slice lo hi none p2) pos) Γ M k:=λσ G H Q a f q=>by
 refine cM (aJ4 hr pU pUO pUO) ?_
 refine h σ G H _ a f λv G1 H1 d M1 s1 g c => ?_
 refine c σ G1 H1 _ (a.up s1.gg) s1.rel λl G2 H2 M2 s2 b => ?_
 refine b σ G2 H2 _ (a.up (s1.trans s2).gg) s2.rel λu G3 H3 M3 s3 i => ?_
 exact i G3 H3 v Q s3.rel (g.up (s2.trans s3).gg) (q.up ((s1.trans s2).trans s3))
noncomputable def cutD{α:Type}(xs:List α)(lo hi:Option Int):List α:=(xs.drop (HT.sIx xs.length 0 lo)).take (HT.sIx xs.length xs.length hi-HT.sIx xs.length 0 lo)
theorem Dens.cut{K:Fg}{vs:List V}(h:Dens K G ds vs)(l u:Option Int):Dens K G (cutD ds l u) (oC vs l u):=by
 unfold cutD oC
 rw[<- h.len]
 exact (h.drop _).take _
theorem oU{K:Fg}{l u:Option Int}(q1:Seq M d true ds)(h:k (.lst (cutD ds l u)) M):Op3 K (rSlL K) d l u M k:=λG H v Q b e q=>by
 obtain⟨a,vs,ev,s,dn⟩:=q1.sq b e
 refine⟨a,vs,ev,s,λp c => ?_⟩
 have st:=b.new (o := .lst (oC vs l u)) c
 exact q _ _ _ _ _ st (gX bJ ((dn.cut l u).up st.gg)) h
theorem aQ5{K:Fg}{l u:Option Int}(hw:¬(HT.sIx ds.length 0 l=0/\HT.sIx ds.length ds.length u=ds.length))(h:k (.tup (cutD ds l u)) M):Op3 K (rSlT K) (.tup ds) l u M k:=λG H v Q b e q=>by
 obtain⟨a,vs,ev,s,dn⟩:=(Seq.tup ds).sq b e
 refine⟨a,vs,ev,s,by rw[<- dn.len];exact hw,λp c => ?_⟩
 have st:=b.new (o := .tup (oC vs l u)) c
 exact q _ _ _ _ _ st (iA (SqT.of bJ) ((dn.cut l u).up st.gg)) h
structure YD(K:Fg)(J:It)(ds:List D)(G0:Hp):Prop where
 go:∀i G H M,Same G0 G->Rel K G H M->i<ds.length->J.go i H
 yld:∀i G H M x H',Same G0 G->Rel K G H M->i<ds.length->J.yld i H x H'->∃G' d,Stp K G H M G' H' M/\ds[i]?=some d/\Den K G' d x
 stop:∀i G H M,Same G0 G->Rel K G H M->i=ds.length->J.stop i H
theorem aEQ{K:Fg}{a:Addr}{vs:List V}(s:SqL K G0 a vs)(dn:Dens K G0 ds vs):YD K (Itl K a) ds G0 where
 go:=λi G H M sg b h=>wT.go i H (b.same.seq (sg.seq s)) (by rw[<- dn.len];exact h)
 yld:=λi G H M x H' sg b h y=>by
  obtain⟨e,c⟩:=wT.yld i H x H' (b.same.seq (sg.seq s)) y (by rw[<- dn.len];exact h)
  subst e
  obtain⟨d,hd,e⟩:=dn.get' c
  exact⟨G,d,Stp.refl b,hd,e.up sg⟩
 stop:=λi G H M sg b h=>wT.stop i H (b.same.seq (sg.seq s)) (by rw[<- dn.len];exact wm h.symm)
theorem aS4{K:Fg}{a:Addr}{vs:List V}(s:SqT K G0 a vs)(dn:Dens K G0 ds vs):YD K (Itt K a) ds G0 where
 go:=λi G H M sg b h=>aBI.go i H (R.eP b.same (R.eP sg s)) (by rw[<- dn.len];exact h)
 yld:=λi G H M x H' sg b h y=>by
  obtain⟨e,c⟩:=aBI.yld i H x H' (R.eP b.same (R.eP sg s)) y (by rw[<- dn.len];exact h)
  subst e
  obtain⟨d,hd,e⟩:=dn.get' c
  exact⟨G,d,Stp.refl b,hd,e.up sg⟩
 stop:=λi G H M sg b h=>aBI.stop i H (R.eP b.same (R.eP sg s)) (by rw[<- dn.len];exact wm h.symm)
noncomputable def q8(lo:Int)(n:Nat):List D:=(q7 n).map λi=>D.int (lo+(i:Nat))
theorem bK(lo:Int)(n:Nat):(q8 lo n).length=n:=by simp[q8]
theorem cA{lo:Int}(h:(q8 lo n)[i]?=some d):i<n/\d = .int (lo+(i:Nat)):=by
 have a:i<n:=by rw[<- bK lo n];exact (zGs h).1
 simp[q8,a] at h
 exact⟨a,h.symm⟩
theorem aH4{K:Fg}{lo:Int}:YD K (Itr lo n) (q8 lo n) G0 where
 go:=λi G H M sg a h=>by rw[bK] at h;exact h
 yld:=λi G H M x H' sg a h y=>by
  obtain⟨e,b⟩:=y
  subst e b
  rw[bK] at h
  exact⟨G,_,Stp.refl a,by simp[q8,h],cP⟩
 stop:=λi G H M sg a h=>by rw[bK] at h;exact wm h.symm
noncomputable def wY(x:Str):List D:=x.cps.toList.map λc=>D.str ⟨#[c]⟩
theorem pG(x:Str):(wY x).length=x.length:=by simp[wY,hO]
theorem aQ8{K:Fg}:YD K (Its x) (wY x) G0 where
 go:=λi G H M sg a h=>by rw[pG] at h;exact h
 yld:=λi G H M v H' sg a h y=>by
  obtain⟨e,c,b,ev⟩:=y
  subst e ev
  exact⟨G, .str ⟨#[c]⟩,Stp.refl a,by simp only[wY,qg,wj,b,wx],jW⟩
 stop:=λi G H M sg a h=>by rw[pG] at h;exact wm h.symm
noncomputable def GI(X:Cx)(tg iter:Expr)(Γ:Gm)(M:Mem)(ki:List D->Mem->Prop):Prop:=
 ∀σ G H R,EnvR X.K G Γ σ->Rel X.K G H M->(∀J G' H' ds M',Stp X.K G H M G' H' M'->YD X.K J ds G'->ki ds M'->R J H')->tUI X tg iter σ H R
noncomputable def iAny(K:Fg)(tl:TE):TI:=λσ H R=>tl σ H λx H1=>∃a,x = .ref a/\(((∃xs,SqL K H1 a xs)/\R (Itl K a) H1)\/((∃xs,SqT K H1 a xs)/\R (Itt K a) H1))
theorem aRD{l:Expr}{tl:TE}(hl:PE X l tl):PI X tg l (iAny X.K tl):=by
 intro pins s σ H R I h
 refine thn (hl pins s σ H _ I h) λv s1 ⟨x,H1,I1,r1,m⟩ => ?_
 obtain⟨a,e,q⟩:=m
 subst e
 cases r1
 have g:∀b∈[s1.heap.objs.size],mX X pins H1 b:=λb k=>by
  have e:b=s1.heap.objs.size:=by simpa using k
  subst e
  exact I1.fpOk (qk _) (I1.hok.fresh (qk _))
 rcases q with ⟨⟨xs,d⟩,q⟩|⟨⟨xs,d⟩,q⟩
 ·obtain⟨f,i,c,j⟩:=I1.list d
  refine cq c.isList ?_
  exact⟨s1.heap.objs.size,[s1.heap.objs.size],_,Itl X.K a,H1,rfl,I1.kept (t':=s1.toks) λb o e=>qc _ e,aGH a _,⟨_,qu _ rfl,rfl,rfl⟩,g,q⟩
 ·obtain⟨f,i,c,j⟩:=I1.tuple d
  refine wpAny_pyIter_tuple c ?_
  exact⟨s1.heap.objs.size,[s1.heap.objs.size],_,Itt X.K a,H1,rfl,I1.kept (t':=s1.toks) λb o e=>qc _ e,aFJ a _,⟨_,qu _ rfl,rfl,rfl⟩,g,q⟩
theorem bP(h:GE X iter Γ M λd M1=>∃ds,(d = .tup ds\/d = .lst ds\/d = .fl ds)/\ki ds M1):GI X tg iter Γ M ki:=λσ G H Rr f g q=>by
 refine oN (aRD pU) ?_
 refine h σ G H _ f g λv G1 H1 d M1 s1 c ⟨ds,e,b⟩ => ?_
 rcases e with rfl|rfl|rfl
 ·obtain⟨a,vs,ev,s,dn⟩:=c.tup_
  exact⟨a,ev, .inr ⟨⟨vs,R.eP s1.rel.same s⟩,q _ _ _ _ _ s1 (aS4 s dn) b⟩⟩
 ·obtain⟨a,vs,ev,s,dn⟩:=c.lst_
  exact⟨a,ev, .inl ⟨⟨vs,SqL.of (s1.rel.same _ _ s)⟩,q _ _ _ _ _ s1 (aEQ (SqL.of s) dn) b⟩⟩
 ·obtain⟨a,vs,ev,s,dn⟩:=c.fl_
  exact⟨a,ev, .inl ⟨⟨vs,s1.rel.same.seq s⟩,q _ _ _ _ _ s1 (aEQ s dn) b⟩⟩
theorem eH{p:Pos}(hm:X.mg "range" = none)(h:GA X [a] Γ M λds M1=>∃j:Int,ds=[.int j] /\ -(2^62)<=j/\j<2^62/\ki (q8 0 j.toNat) M1)(hg:Gl X "range" := by rfl)(hs:jk [a] X.env=[(false,eval a X.env)]:=by rfl):GI X tg (.Call (.Name "range" p) [a] [] pos) Γ M ki:=λσ G H R d f q=>by
 refine oN (aI4 hg hm pUA hs) ?_
 refine h σ G H _ d f λvs G1 H1 ds M1 s1 g ⟨j,c,e,b,i⟩ => ?_
 subst c
 obtain⟨v,rfl,dv⟩:=dens1 g
 rw[dv.int_]
 exact⟨j,rfl,e,b,q _ _ _ _ _ s1 aH4 i⟩
theorem rJ{p:Pos}(hm:X.mg "range" = none)(h:GA X [a,b] Γ M λds M1=>∃i j:Int,ds=[.int i, .int j]/\(-(2^62)<=i/\i<2^62 /\ -(2^62)<=j/\j<2^62)/\ki (q8 i (j-i).toNat) M1)(hg:Gl X "range" := by rfl)(hs:jk [a,b] X.env=[(false,eval a X.env),(false,eval b X.env)]:=by rfl)(hs2:jk [b] X.env=[(false,eval b X.env)]:=by rfl):GI X tg (.Call (.Name "range" p) [a,b] [] pos) Γ M ki:=λσ G H R d f q=>by
 refine oN (aIG hg hm pUA hs hs2) ?_
 refine h σ G H _ d f λvs G1 H1 ds M1 s1 g ⟨i,j,c,e,k⟩ => ?_
 subst c
 obtain⟨v,u,rfl,dv,l⟩:=dens2 g
 rw[dv.int_,l.int_]
 exact⟨i,j,rfl,e,q _ _ _ _ _ s1 aH4 k⟩
theorem aTH(h:GE X iter Γ M λd M1=>∃x,d = .str x/\ki (wY x) M1):GI X tg iter Γ M ki:=λσ G H R b e q=>by
 refine oN (aRE pU) ?_
 exact h σ G H _ b e λv G1 H1 d M1 s1 f ⟨x,a,c⟩=>by subst a;exact⟨x,f.str_,q _ _ _ _ _ s1 aQ8 c⟩
end
section
variable {K:Fg}
theorem join_some{α:Type}{o:Option (Option α)}{x:α}(h:o.join=some x):o=some (some x):=by
 cases o with
 |none=>cases h
 |some y=>cases y with
  |none=>cases h
  |some z=>cases h;rfl
theorem EnvR.cap(h:EnvR K G Γ σ)(e:Den K G d v)(cap:List Nat):EnvR K G (some d::cap.map λk=>(Γ[k]?).join) (some v::cap.map λk=>(σ[k]?).join):=by
 refine⟨by simp,λi c q => ?_⟩
 cases i with
 |zero=>simp at q;subst q;exact⟨v,rfl,e⟩
 |succ i =>
  rw[kl,qg] at q ⊢
  cases hc:cap[i]? with
  |none=>rw[hc] at q;cases q
  |some j =>
   rw[hc,wx] at q
   have f:(Γ[j]?).join=some c:=by injection q
   obtain⟨u,a,b⟩:=h.get j c (join_some f)
   exact⟨u,by rw[wx,a];rfl,b⟩
theorem Stp.aside{H0:Hp}{M0:Mem}{p:Addr}{o:HO}(s:Stp K G0 H0 M0 G H M)(h0:H0 p=none)(hg:G p=none)(hm:M p=none):Stp K G0 H0 M0 G (upd H p o) M:=by
 refine⟨s.gg,⟨λb u e => ?_,λa m e => ?_⟩,λa u c d f => ?_⟩
 ·rw[bB (bM e hg)];exact s.rel.same b u e
 ·have z:a≠p:=λz=>by rw[z,hm] at e;cases e
  exact⟨(s.rel.mem a m e).1,(s.rel.mem a m e).2.mv (Same.refl G) (bB z)⟩
 ·obtain⟨x,y,z⟩:=s.fr a u c d f
  exact⟨by rw[bB (bM c h0)];exact x,y,z⟩
theorem Stp.track{H0:Hp}{M0:Mem}{p:Addr}{vs:List V}(s:Stp K G0 H0 M0 G H M)(h0:H0 p=none)(hg:G p=none)(hp:H p=some (.lst vs))(dn:Dens K G ds vs):Stp K G0 H0 M0 G H (bV M p (.lst ds)):=by
 refine⟨s.gg,⟨s.rel.same,λa m e => ?_⟩,λa u b c d => ?_⟩
 ·by_cases z:a=p
  ·subst z
   rw[aQ] at e;cases e
   exact⟨hg,vs,hp,dn⟩
  ·rw[cV z] at e;exact s.rel.mem a m e
 ·obtain⟨x,y,z⟩:=s.fr a u b c d
  exact⟨x,y,by rw[cV (bM b h0)];exact z⟩
end
noncomputable def aBU(Y:Cx)(ifs:List Expr):TT:=λσ H Q=>∀pins s,Inv Y pins σ H s ->
  wpAny (jl Y.prog Y.w) Y.A (forIn ifs true λc r=>if r=true then do let ok <- isTrue c Y.env (eval c Y.env);pure (w8 ok) else pure (w8 r)) (TP Y pins σ Q) Y.xe s
noncomputable def GIf(Y:Cx)(ifs:List Expr)(Γ:Gm)(M:Mem)(kb:Bool->Mem->Prop):Prop:=
 ∀σ G H Q,EnvR Y.K G Γ σ->Rel Y.K G H M->sH Y.K M kb G H Q->aBU Y ifs σ H Q
theorem bG{Y:Cx}(h:kb true M):GIf Y [] Γ M kb:=λσ G H Q en rl q pins s I=>aPZ pins s σ H Q I (q _ _ _ _ (Stp.refl rl) h)
theorem o7{Y:Cx}(h:GT Y c Γ M kb):GIf Y [c] Γ M kb:=λσ G H Q en rl q pins s I=>aNP pUT pins s σ H Q I (h σ G H Q en rl q)
noncomputable def Comp(X:Cx)(x:Str)(ns:List Str)(cap:List Nat)(elt:Expr)(ifs:List Expr)(scope:Scope)(Γ:Gm)(k:D->Mem->Prop)(ds:List D)(M1:Mem):Prop:=
 ds.length<=sizeLine/\∃I:Nat->List D->Mem->Prop,I 0 [] M1 /\
  (∀i d acc M2,ds[i]?=some d->I i acc M2->∀cs C s₀ H₀ fp,GIf fp.19 ifs (some d::cap.map λk=>(Γ[k]?).join) M2 λc M3 =>
   if c=true then (∀cs C s₀ H₀ fp,GE fp.19 elt (some d::cap.map λk=>(Γ[k]?).join) M3 (λy M4=>I (i+1) (acc++[y]) M4)) else I (i+1) acc M3) /\
  (∀acc M2,I ds.length acc M2->∀a,M2 a=none->k (.mt a) (bV M2 a (.lst acc)))
theorem aHB{cap:List Nat}(h:GI X (.Name x px) iter Γ M (Comp X x ns cap elt ifs scope Γ k)){Q:VK}(en:EnvR X.K G Γ σ)(rl:Rel X.K G H M)(q:Cont X.K M k G H Q):
  rN (tUI X (.Name x px) iter) cap (λσ H Q=>∀cs C s₀ H₀ fp,aBU fp.19 ifs σ H Q) (λσ H Q=>∀cs C s₀ H₀ fp,tU fp.19 elt σ H Q) σ H Q:=by
 refine h σ G H _ en rl λJ G1 H1 ds M1 s1 yd ⟨hlen,I,h0,f,g⟩ A hA => ?_
 have a:=s1.rel.free hA
 refine⟨λi m n H2=>m=ds.length-i/\i<=ds.length/\∃G2 M2 acc,Stp X.K G1 H1 M1 G2 H2 M2/\H2 A=some (.lst n)/\G2 A=none/\M2 A=none/\Dens X.K G2 acc n/\I i acc M2/\acc.length<=i,
  ⟨ds.length,by simp,k3 _,G1,M1,[],(Stp.refl s1.rel).aside hA a.1 a.2,bJ,a.1,a.2,cZ,h0,qk _⟩,?_⟩
 rintro i m n H2 ⟨rfl,N,G2,M2,acc,s2,hl,t,hm,dn,p,w⟩
 refine⟨hl,?_⟩
 by_cases b:i<ds.length
 ·refine .inr ⟨yd.go i G2 H2 M2 s2.gg s2.rel b,by rw[<- dn.len];omega,λx H3 y => ?_⟩
  obtain⟨G3,d,s3,hd,ex⟩:=yd.yld i G2 H2 M2 x H3 s2.gg s2.rel b y
  obtain⟨l3,g3,E⟩:=s3.fr A _ hl t hm
  intro cs C s₀ H₀ fp
  have j:=((en.up s1.gg).up (s2.trans s3).gg).cap ex cap
  refine f i d acc M2 hd p cs C s₀ H₀ fp _ G3 H3 _ j s3.rel λc G4 H4 M4 s4 l => ?_
  obtain⟨u,g4,v⟩:=s4.fr A _ l3 g3 E
  cases c with
  |true =>
   rw[if_pos rfl] at l ⊢
   intro cs C s₀ H₀ fp
   refine l cs C s₀ H₀ fp _ G4 H4 _ (j.up s4.gg) s4.rel λy G5 H5 z M5 s5 L F => ?_
   obtain⟨B,g5,r⟩:=s5.fr A _ u g4 v
   have o:=((s2.trans s3).trans s4).trans s5
   exact⟨B,ds.length-(i+1),by omega,rfl,b,G5,M5,acc++[z],o.aside hA g5 r,bJ,g5,r,(dn.up ((s3.trans s4).trans s5).gg).append (cD L cZ),F,by rw[qe,za];omega⟩
  |false =>
   rw[if_neg zBf] at l ⊢
   exact⟨ds.length-(i+1),by omega,rfl,b,G4,M4,acc,(s2.trans s3).trans s4,u,g4,v,dn.up (s3.trans s4).gg,l,by omega⟩
 ·have e:i=ds.length:=by omega
  subst e
  exact .inl ⟨yd.stop _ G2 H2 M2 s2.gg s2.rel rfl,q _ _ _ _ _ (s1.trans (s2.track hA t hl dn)) aAT (g acc M2 p A hm)⟩
end Z
namespace Z
open PySem L2
section
variable {F:Fin}{a b:Expr}{body:List Stmt}
theorem aPO{sc:Scope}(ns:List Str)(cap:List Nat)(h:GI X (.Name x px) iter Γ M (Comp X x ns cap elt ifs scope Γ k))(hsc:X.env.scope=sc:=by rfl)(hN:X.N=N:=by rfl)(ok:jH sc scope x ns cap N=true:=by first|decide +kernel|kernel_rfl!)(hc:X.calm=true:=by rfl)(hs:∀v,foldedSetIterable iter X.env v=pure v:=by intro _;rfl):
  GE X ',' Γ M k:=λσ G H Q b c q =>
 cM (aJX ns cap hc hsc hN ok pUI (λcs C s₀ H₀ a pins s σ H Q I h=>h cs C s₀ H₀ a pins s I) (λcs C s₀ H₀ a pins s σ H Q I h=>h cs C s₀ H₀ a pins s I) hs) (aHB h b c q)
noncomputable def aML(X:Cx)(x:Str)(ns:List Str)(cap:List Nat)(elt:Expr)(ifs:List Expr)(scope:Scope)(Γ:Gm)(k:D->Mem->Prop)(ds:List D)(M1:Mem):Prop:=
 ds.length<=sizeLine/\∃I:Nat->List D->Mem->Prop,I 0 [] M1 /\
  (∀i d acc M2,ds[i]?=some d->I i acc M2->∀cs C s₀ H₀ fp,GIf fp.19 ifs (some d::cap.map λk=>(Γ[k]?).join) M2 λc M3 =>
   if c=true then (∀cs C s₀ H₀ fp,GE fp.19 elt (some d::cap.map λk=>(Γ[k]?).join) M3 (λy M4=>I (i+1) (acc++[y]) M4)) else I (i+1) acc M3) /\
  (∀acc M2,I ds.length acc M2->k (.lst acc) M2)
theorem bC{sc:Scope}(ns:List Str)(cap:List Nat)(h:GI X (.Name x px) iter Γ M (aML X x ns cap elt ifs scope Γ k))(hsc:X.env.scope=sc:=by rfl)(hN:X.N=N:=by rfl)(ok:jH sc scope x ns cap N=true:=by first|decide +kernel|kernel_rfl!)(hc:X.calm=true:=by rfl)(hs:∀v,foldedSetIterable iter X.env v=pure v:=by intro _;rfl):
  GE X ',' Γ M k:=by
 refine aA1 (aPO ns cap ?_ hsc hN ok hc hs)
 intro σ G H Rr e f q
 refine h σ G H Rr e f λJ G1 H1 ds M1 s1 yd ⟨hl,I,h0,b,c⟩ => ?_
 exact q J G1 H1 ds M1 s1 yd ⟨hl,I,h0,b,λacc M2 g a d=>⟨a,acc,M2,rfl,aQ,d,(Le.refl M2).upd d,c acc M2 g⟩⟩
theorem b8{cap:List Nat}(hl:ds.length<=sizeLine)(I:Nat->List D->Mem->Prop)(h0:I 0 [] M1)(hs:∀i d acc M2,ds[i]?=some d->I i acc M2->∀cs C s₀ H₀ fp,GIf fp.19 ifs (some d::cap.map λk=>(Γ[k]?).join) M2 λc M3 =>
   if c=true then (∀cs C s₀ H₀ fp,GE fp.19 elt (some d::cap.map λk=>(Γ[k]?).join) M3 (λy M4=>I (i+1) (acc++[y]) M4)) else I (i+1) acc M3)(hd:∀acc M2,I ds.length acc M2->k (.lst acc) M2):aML X x ns cap elt ifs scope Γ k ds M1:=⟨hl,I,h0,hs,hd⟩
theorem bD(h:F.nx Γ M):GS X [] Γ M F:=λσ G H E en rl q=>xJ aPW (q.nx σ G H Γ M (Stp.refl rl) en h)
theorem aD(h:G1 X st Γ M {F with nx:=λΓ' M'=>GS X ss Γ' M' F}):GS X (st::ss) Γ M F:=λσ G H E c d q=>by
 refine xJ (aJJ pUS xB) ?_
 refine h σ G H _ c d ⟨λσ' G' H' Γ' M' b a e => ?_,q.rt,q.bk,q.ct⟩
 exact e σ' G' H' E a b.rel (q.up b)
theorem aI(h:G1 X st Γ M F):GS X [st] Γ M F:=λσ G H E en rl q=>xJ (aPL pUS) (h σ G H E en rl q)
theorem gF(i:Nat){a:Addr}(hΓ:Γ[i]?=some (some (.mt a)))(hM:M a=some (.lst ds))(h:GS X ss (Γ.set i (some (.lst ds))) (k8 M a) F):GS X ss Γ M F:=λσ G H E c e q=>by
 obtain⟨vs,g,f,s1⟩:=e.frz hM
 obtain⟨v,ev,dv⟩:=c.get i _ hΓ
 have dl:Den X.K (upd G a (.lst vs)) (.lst ds) v:=by rw[dv.mt_];exact gX bJ (f.up s1.gg)
 have b:=(c.up s1.gg).set dl i
 have d:σ.set i (some v)=σ:=by
  apply v3
  intro j
  rw[J4]
  by_cases z:i=j
  ·subst z
   rw[if_pos rfl,if_pos (zGs ev).1,ev]
  ·rw[if_neg z]
 rw[d] at b
 exact h σ _ H E b s1.rel (q.up s1)
theorem aO(i:Nat)(hN:X.N.Nodup)(h:GE X e Γ M λd M1=>F.nx (Γ.set i (some d)) M1)(hi:X.N[i]?=some x:=by rfl)(hx:Loc X.env.scope x:=by first|exact QE rfl|exact QD rfl)(hs:d4 e (some (.Name x pos')) pos.line X.env=pure false:=by rfl)(hf:X.fn x=true\/X.env.scope.names.lookup x=some .local:=by first|exact .inl rfl|exact .inr rfl):G1 X (.Assign [.Name x pos'] e pos) Γ M F:=λσ G H E a c q=>by
 refine iF (aSW hN hi hx pU hs hf) ?_
 exact h σ G H _ a c λv G1 H1 d M1 s1 f b=>q.nx _ _ _ _ _ s1 ((a.up s1.gg).set f i) b
theorem lN(iy:Nat){y:Str}{sc:Scope}(ns:List Str)(cap:List Nat)(hNd:N.Nodup)(h:GI X (.Name x px) iter Γ M (Comp X x ns cap elt ifs scope Γ λd M1=>F.nx (Γ.set iy (some d)) M1))(hsc:X.env.scope=sc:=by rfl)(hN:X.N=N:=by rfl)(ok:jH sc scope x ns cap N=true:=by first|decide +kernel|kernel_rfl!)(hiy:N[iy]?=some y:=by rfl)(hyl:sc.names.lookup y=some .local:=by rfl)(hc:X.calm=true:=by rfl)(hs:∀v,foldedSetIterable iter X.env v=pure v:=by intro _;rfl)(hsw:d4 ',' (some (.Name y py)) spos.line X.env=pure true:=by rfl):
  G1 X (.Assign [.Name y py] ',' spos) Γ M F:=λσ G H E b e q=>by
 refine iF (aCK (tt:=λσ H Q=>∀cs C s₀ H₀ a,aBU a.19 ifs σ H Q) (te:=λσ H Q=>∀cs C s₀ H₀ a,tU a.19 elt σ H Q) iy ns cap hNd hiy hyl hc hsc hN ok pUI (λcs C s₀ H₀ a pins s σ H Q I h=>h cs C s₀ H₀ a pins s I) (λcs C s₀ H₀ a pins s σ H Q I h=>h cs C s₀ H₀ a pins s I) hs hsw) ?_
 exact aHB h b e λv G1 H1 d M1 s1 f c=>q.nx _ _ _ _ _ s1 ((b.up s1.gg).set f iy) c
theorem yV{cap:List Nat}(hl:ds.length<=sizeLine)(I:Nat->List D->Mem->Prop)(h0:I 0 [] M1)(hs:∀i d acc M2,ds[i]?=some d->I i acc M2->∀cs C s₀ H₀ fp,GIf fp.19 ifs (some d::cap.map λk=>(Γ[k]?).join) M2 λc M3 =>
   if c=true then (∀cs C s₀ H₀ fp,GE fp.19 elt (some d::cap.map λk=>(Γ[k]?).join) M3 (λy M4=>I (i+1) (acc++[y]) M4)) else I (i+1) acc M3)(hd:∀acc M2,I ds.length acc M2->∀a,M2 a=none->k (.mt a) (bV M2 a (.lst acc))):Comp X x ns cap elt ifs scope Γ k ds M1:=
 ⟨hl,I,h0,hs,hd⟩
theorem gG(h:GE X e Γ M λd M1=>GG X tg d Γ M1 F.nx)(hs:pb [tg] e pos.line X.env=pure false:=by rfl)(hw:pd [tg] e X.env=pure none:=by rfl)(h1:(xy [tg] X.env).map (·.2)=[assign tg X.env]:=by rfl):G1 X (.Assign [tg] e pos) Γ M F:=λσ G H E a b q=>by
 refine iF (aR9 pU pUG hs hw h1) ?_
 exact h σ G H _ a b λv G1 H1 d M1 s1 c h1=>h1 σ G1 H1 v _ (a.up s1.gg) s1.rel c (q.nx.up s1)
theorem aSN(i j:Nat){y:Str}{pt:Pos}{kt k2 pt2}(hN:X.N.Nodup)(hij:i≠j)(h:GA X [a,b] Γ M λds M1=>∃d1 d2,ds=[d1,d2]/\F.nx ((Γ.set i (some d1)).set j (some d2)) M1)(hi:X.N[i]?=some x:=by rfl)(hj:X.N[j]?=some y:=by rfl)(hx:X.env.scope.names.lookup x=some .local:=by rfl)(hy:X.env.scope.names.lookup y=some .local:=by rfl)(hc:X.calm=true:=by rfl)(hw:pd [.Tuple [.Name x px, .Name y py] kt pt] (.Tuple [a,b] k2 pt2) X.env=pure (some [x,y]):=by rfl)(hs:pb [.Tuple [.Name x px, .Name y py] kt pt] (.Tuple [a,b] k2 pt2) pos.line X.env=pure false:=by rfl):
  G1 X (.Assign [.Tuple [.Name x px, .Name y py] kt pt] (.Tuple [a,b] k2 pt2) pos) Γ M F:=λσ G H E c f q=>by
 refine iF (aTF hc hN hi hj hij hx hy pUA hw hs) ?_
 refine h σ G H _ c f λvs G1 H1 ds M1 s1 g ⟨d1,d2,d,e⟩ => ?_
 subst d
 obtain⟨v,u,rfl,dv,k⟩:=dens2 g
 exact⟨v,u,rfl,q.nx _ _ _ _ _ s1 (((c.up s1.gg).set dv i).set k j) e⟩
theorem aV(i:Nat)(hN:X.N.Nodup)(h:kg (Γ.set i (some d)) M)(hi:X.N[i]?=some x:=by rfl)(hx:Loc X.env.scope x:=by first|exact QE rfl|exact QD rfl)(hf:X.fn x=true\/X.env.scope.names.lookup x=some .local:=by first|exact .inl rfl|exact .inr rfl):GG X (.Name x pos) d Γ M kg:=λσ G H v Q a b e q =>
 vX (sF hN hi hx hf) (q _ _ _ _ _ (Stp.refl b) (a.set e i) h)
theorem eE(h:kg Γ M):GGs X [] [] Γ M kg:=λσ G H vs Q en rl e q=>aEF aDV ⟨cK e,q _ _ _ _ _ (Stp.refl rl) en h⟩
theorem a8(h:GG X tg d Γ M λΓ1 M1=>GGs X tgs ds Γ1 M1 kg)(hs:(xy (tg::tgs) X.env).map (·.2)=assign tg X.env::(xy tgs X.env).map (·.2):=by rfl):GGs X (tg::tgs) (d::ds) Γ M kg:=λσ G H vs Q c g e q=>by
 refine aEF (uA pUG aL7 hs) ?_
 obtain⟨v,r,ev,i,b⟩:=bX e
 refine⟨v,r,ev,h σ G H v _ c g i λσ1 G1 H1 Γ1 M1 s1 a f => ?_⟩
 exact f σ1 G1 H1 r Q a s1.rel (b.up s1.gg) (q.up s1)
theorem gI(hl:ds.length=n)(h:GGs X tgs ds Γ M kg)(hc:X.calm=true:=by rfl)(hn:(xy tgs X.env).length=n:=by rfl)(hst:(xy tgs X.env).findIdx? (·.1)=none:=by rfl):
  GG X (.Tuple tgs kk pos) (.tup ds) Γ M kg:=λσ G H v Q c b e q=>by
 refine vX (aI0 hc aL7 hn hst) ?_
 obtain⟨a,vs,ev,s,dn⟩:=e.tup_
 exact⟨a,vs,ev,R.eP b.same s,by rw[<- dn.len];exact hl,h σ G H vs Q c b dn q⟩
theorem aGW(hl:ds.length=n)(h:GGs X tgs ds Γ M kg)(hc:X.calm=true:=by rfl)(hn:(xy tgs X.env).length=n:=by rfl)(hst:(xy tgs X.env).findIdx? (·.1)=none:=by rfl):
  GG X (.Tuple tgs kk pos) (.lst ds) Γ M kg:=λσ G H v Q c b e q=>by
 refine vX (aRI hc aL7 hn hst) ?_
 obtain⟨a,vs,ev,s,dn⟩:=e.lst_
 exact⟨a,vs,ev,SqL.of (b.same _ _ s),by rw[<- dn.len];exact hl,h σ G H vs Q c b dn q⟩
theorem aAO{i:Expr}(h:GE X o Γ M λd1 M1=>GE X i Γ M1 λd2 M2=>∃a n j ds,d1 = .mt a/\d2 = .int n/\M2 a=some (.lst ds)/\ixN ds.length n=some j/\kg Γ (bV M2 a (.lst (ds.set j d))))(ha:∀v,assign (.Subscript o i pos) X.env v=(do
   let ov <- gy [v] (eval o X.env)
   let iv <- gy [v,ov] (eval i X.env)
   Ju pos
   gy [v,ov,iv] (setItem ov iv v)
   release [v,ov,iv] []):=by intro _;rfl):GG X (.Subscript o i pos) d Γ M kg:=λσ G H v Q c p e q=>by
 refine vX (aSI pU pU set_list ha) ?_
 refine h σ G H _ c p λv1 G1 H1 d1 M1 s1 m k => ?_
 refine k σ G1 H1 _ (c.up s1.gg) s1.rel λv2 G2 H2 d2 M2 s2 f ⟨a,n,j,ds,t,s,hm,l,g⟩ => ?_
 subst t s
 obtain⟨_,vs,r,dn⟩:=s2.rel.mem _ _ hm
 have b:=s1.trans s2
 exact⟨a,vs,n,j,(m.up s2.gg).mt_,f.int_,r,by rw[<- dn.len];exact l,q _ _ _ _ _ (b.trans (s2.rel.wr hm (dn.set (e.up b.gg) j))) (c.up b.gg) g⟩
theorem eU(h:GE X e Γ M λ_ M1=>F.nx Γ M1)(hs:d4 e none pos.line X.env=pure false:=by rfl):G1 X (.Expr e pos) Γ M F:=λσ G H E a c q =>
 iF (aM3 pU hs) (h σ G H _ a c λv G1 H1 d M1 s1 f b=>q.nx _ _ _ _ _ s1 (a.up s1.gg) b)
theorem aR(h:GE X e Γ M F.rt):G1 X (.Return (some e) pos) Γ M F:=λσ G H E en rl q=>iF (aQT pU) (h σ G H _ en rl q.rt)
theorem bN{ss1 ss2:List Stmt}(h:GT X c Γ M λt M1=>if t=true then GS X ss1 Γ M1 F else GS X ss2 Γ M1 F):G1 X (.If c ss1 ss2 pos) Γ M F:=λσ G H E b d q=>by
 refine iF (aUU pUT xB xB) ?_
 refine h σ G H _ b d λt G1 H1 M1 s1 a => ?_
 cases t with
 |true=>rw[if_pos rfl] at a ⊢;exact a σ G1 H1 E (b.up s1.gg) s1.rel (q.up s1)
 |false=>rw[if_neg zBf] at a ⊢;exact a σ G1 H1 E (b.up s1.gg) s1.rel (q.up s1)
theorem oP(P:Gm->Mem->Prop)(h:G1 X st Γ M {F with nx:=P})(h2:∀Γ' M',P Γ' M'->F.nx Γ' M'):G1 X st Γ M F:=λσ G H E b c q=>h σ G H E b c ⟨λσ' G' H' Γ' M' d a e=>q.nx σ' G' H' Γ' M' d a (h2 _ _ e),q.rt,q.bk,q.ct⟩
noncomputable def Loop(X:Cx)(tg:Expr)(body:List Stmt)(Γ:Gm)(F:Fin)(ds:List D)(M:Mem):Prop:=∃I:Nat->Gm->Mem->Prop,I 0 Γ M /\
 (∀i d Γ' M',ds[i]?=some d->I i Γ' M'->GG X tg d Γ' M' λΓ2 M2=>GS X body Γ2 M2 {F with nx:=I (i+1),ct:=I (i+1),bk:=F.nx})/\∀Γ' M',I ds.length Γ' M'->F.nx Γ' M'
theorem cW(h:GI X tg iter Γ M (Loop X tg body Γ F))(hp:Kd X.w.14 X.A X.env X.xe:=by exact Q9)(hc:X.calm=true:=by rfl)(hs:∀x,foldedSetIterable iter X.env x=pure x:=by intro _;rfl):G1 X (.For tg iter body [] pos) Γ M F:=λσ G H E o r q=>by
 refine iF (aST hp hc pUI pUG xB hs) ?_
 refine h σ G H _ o r λJ G1 H1 ds M1 s1 yd ⟨I,h0,b,j⟩ => ?_
 refine⟨λi m σ' H'=>m=ds.length-i/\i<=ds.length/\∃G' Γ' M',Stp X.K G1 H1 M1 G' H' M'/\EnvR X.K G' Γ' σ'/\I i Γ' M',⟨ds.length,by simp,k3 _,G1,Γ,M1,Stp.refl s1.rel,o.up s1.gg,h0⟩,?_⟩
 rintro i m σ2 H2 ⟨rfl,t,G2,Γ2,M2,s2,g,p⟩
 by_cases f:i<ds.length
 ·refine .inr ⟨yd.go i G2 H2 M2 s2.gg s2.rel f,λσ' H'=>∃G' Γ' M',Stp X.K G1 H1 M1 G' H' M'/\EnvR X.K G' Γ' σ'/\I (i+1) Γ' M',λσ' H' z=>⟨ds.length-(i+1),by omega,rfl,f,z⟩,λx H3 y => ?_⟩
  obtain⟨G3,d,s3,hd,ex⟩:=yd.yld i G2 H2 M2 x H3 s2.gg s2.rel f y
  have n:=s2.trans s3
  refine b i d Γ2 M2 hd p σ2 G3 H3 x _ (g.up s3.gg) s3.rel ex λσ4 G4 H4 Γ4 M4 s4 l s => ?_
  have a:=n.trans s4
  refine s σ4 G4 H4 _ l s4.rel ⟨λσ5 G5 H5 Γ5 M5 s5 c k=>⟨G5,Γ5,M5,a.trans s5,c,k⟩,q.rt.up (s1.trans a),q.nx.up (s1.trans a),λσ5 G5 H5 Γ5 M5 s5 c k=>⟨G5,Γ5,M5,a.trans s5,c,k⟩⟩
 ·have e:i=ds.length:=by omega
  subst e
  exact .inl ⟨yd.stop _ G2 H2 M2 s2.gg s2.rel rfl,q.nx _ _ _ _ _ (s1.trans s2) g (j _ _ p)⟩
theorem aBN(I:Nat->Gm->Mem->Prop)(h0:I n Γ M)(hs:∀m Γ' M',I m Γ' M'->GT X c Γ' M' λt M1=>if t=true then GS X body Γ' M1 {F with nx:=λΓ2 M2=>∃m',m'<m/\I m' Γ2 M2,ct:=λΓ2 M2=>∃m',m'<m/\I m' Γ2 M2,bk:=F.nx} else F.nx Γ' M1)(hp:Kd X.w.14 X.A X.env X.xe:=by exact Q9):G1 X (.While c body [] pos) Γ M F:=λσ G H E g h q=>by
 refine iF (aKA hp pUT xB) ?_
 refine⟨λm σ' H'=>∃G' Γ' M',Stp X.K G H M G' H' M'/\EnvR X.K G' Γ' σ'/\I m Γ' M',⟨n,G,Γ,M,Stp.refl h,g,h0⟩,?_⟩
 rintro m σ2 H2 ⟨G2,Γ2,M2,s2,b,i⟩
 refine hs m Γ2 M2 i σ2 G2 H2 _ b s2.rel λt G3 H3 M3 s3 e => ?_
 have a:=s2.trans s3
 cases t with
 |true =>
  rw[if_pos rfl] at e ⊢
  refine⟨λσ' H'=>∃m',m'<m/\∃G' Γ' M',Stp X.K G H M G' H' M'/\EnvR X.K G' Γ' σ'/\I m' Γ' M',λσ' H' z=>z,?_⟩
  refine e σ2 G3 H3 _ (b.up s3.gg) s3.rel ⟨λσ5 G5 H5 Γ5 M5 s5 d ⟨m',hm,f⟩=>⟨m',hm,G5,Γ5,M5,a.trans s5,d,f⟩,q.rt.up a,q.nx.up a,λσ5 G5 H5 Γ5 M5 s5 d ⟨m',hm,f⟩=>⟨m',hm,G5,Γ5,M5,a.trans s5,d,f⟩⟩
 |false =>
  rw[if_neg zBf] at e ⊢
  exact q.nx _ _ _ _ _ a (b.up s3.gg) e
end
section
variable {K:Fg}
abbrev cxF(P:Program)(w:World)(K:Fg)(mg:Str->Option Value)(base:Heap)(N:List Str)(x:Str)(st:Stmt)(f:Addr)(cdv:Value)(A:Around)(outer:List Env)(s:Shared)(H:Hp)(E:XK):Cx:=
 (uI CX0 P w K mg base N x (aM st) f cdv A outer s H E).nox
theorem a9{ps:List Str}{F:Ct}(Df:R.Df K mg x st ps f fd)(S:FnScope N ps (aM st))(len:∀ds M k,F ds M k->ds.length=ps.length)(h:∀cdv A outer s H E,Room n (cxF P w K mg base N x st f cdv A outer s H E).A->∀ds M k,F ds M k ->
   GS (cxF P w K mg base N x st f cdv A outer s H E) (eF st) (ds.map some++jz (N.length-ds.length) none) M {nx:=λ_ M'=>k .non M',rt:=k}):FnOk P w K mg base CX0 (n+1) f fd ps (spZ K F):=by
 refine Df.F.ok S (λvs H Q E h => ?_) (λcdv A outer s H vs Q E g c => ?_)
 ·obtain⟨G,M,ds,k,d,dn,b,_⟩:=h
  rw[<- dn.len];exact len _ _ _ b
 ·obtain⟨G,M,ds,k,d,dn,b,q⟩:=c
  refine⟨_,xB,?_⟩
  refine h cdv A outer s H E g ds M k b (start N vs) G H _ (EnvR.start dn N.length) d ⟨λσ' G' H' Γ' M' i e a=>q _ _ _ _ _ i xK a,q,λ_ _ _ _ _ _ _ a=>a.elim,λ_ _ _ _ _ _ _ a=>a.elim⟩
end
end Z
namespace Z
open PySem L2
mutual
noncomputable def eqD:D->D->Bool
 |.non, .non=>true
 |.bl a, .bl b=>a==b
 |.int a, .int b=>a==b
 |.bl a, .int b=>(if a then 1 else 0)==b
 |.int a, .bl b=>a==(if b then 1 else 0)
 |.str a, .str b=>a==b
 |.tup xs, .tup ys=>eqDs xs ys
 |.lst xs, .lst ys=>eqDs xs ys
 |_,_=>false
noncomputable def eqDs:List D->List D->Bool
 |[],[]=>true
 |x::xs,y::ys=>eqD x y&&eqDs xs ys
 |_,_=>false
end
mutual
noncomputable def okD:Nat->D->Bool
 |_, .non|_, .bl _|_, .int _|_, .str _=>true
 |n+1, .tup ds=>okDs n ds
 |n+1, .lst ds=>okDs n ds
 |_,_=>false
noncomputable def okDs:Nat->List D->Bool
 |_,[]=>true
 |n,d::ds=>okD n d&&okDs n ds
end
mutual
theorem eqD_refl:∀(n:Nat) (d:D),okD n d=true->eqD d d=true
 |_, .non,_=>by simp only[eqD]
 |_, .bl _,_=>by simp only[eqD,beq_self_eq_true]
 |_, .int _,_=>by simp only[eqD,beq_self_eq_true]
 |_, .str _,_=>by simp only[eqD,beq_self_eq_true]
 |n+1, .tup ds,h=>by simp only[okD] at h;simp only[eqD];exact eqDs_refl n ds h
 |n+1, .lst ds,h=>by simp only[okD] at h;simp only[eqD];exact eqDs_refl n ds h
 |0, .tup _,h=>by simp[okD] at h
 |0, .lst _,h=>by simp[okD] at h
 |_, .mt _,h=>by simp[okD] at h
 |_, .fl _,h=>by simp[okD] at h
theorem eqDs_refl:∀(n:Nat) (ds:List D),okDs n ds=true->eqDs ds ds=true
 |_,[],_=>by simp only[eqDs]
 |n,d::ds,h=>by
  simp only[okDs,qx] at h
  simp only[eqDs,eqD_refl n d h.1,eqDs_refl n ds h.2,vz]
end
noncomputable def eqJ(xs ys:List D)(j:Nat):Bool:=match xs[j]?,ys[j]? with
 |some x,some y=>eqD x y
 |_,_=>true
theorem fZ:∀(xs ys:List D),((q7 (min xs.length ys.length)).all (eqJ xs ys)&&xs.length==ys.length)=eqDs xs ys
 |[],[]=>by simp[eqDs]
 |[],_::_=>by simp[eqDs]
 |_::_,[]=>by simp[eqDs]
 |x::xs,y::ys=>by
  have b:=fZ xs ys
  simp only[eqDs,<- b,ja]
  rw[show min (xs.length+1) (ys.length+1)=min xs.length ys.length+1 by omega,gb,Qw,gu]
  have c:eqJ (x::xs) (y::ys) 0=eqD x y:=rfl
  have a:(eqJ (x::xs) (y::ys)) ∘ Nat.succ=eqJ xs ys:=by funext j;rfl
  rw[c,a,Bool.and_assoc]
  congr 2
  by_cases h:xs.length=ys.length
  ·rw[h];simp
  ·rw[beq_eq_false_iff_ne.mpr h,beq_eq_false_iff_ne.mpr '$']
section
mutual
theorem den_inj(I:Inv X pins σ H s):∀(n:Nat) (d e:D) (v:V),okD n d=true->okD n e=true->Den X.K H d v->Den X.K H e v->d=e
 |n, .non,e,v,h1,h2,x,y=>by
  rw[x.non_] at y
  cases e with
  |non=>rfl
  |bl b=>have:=y.bl_;cases this
  |int b=>have:=y.int_;cases this
  |str b=>have:=y.str_;cases this
  |mt b=>have:=y.mt_;cases this
  |tup b=>obtain⟨_,_,q,_⟩:=y.tup_;cases q
  |lst b=>obtain⟨_,_,q,_⟩:=y.lst_;cases q
  |fl b=>obtain⟨_,_,q,_⟩:=y.fl_;cases q
  |st b=>obtain⟨_,_,_,q,_⟩:=y.st_;cases q
 |n, .bl b,e,v,h1,h2,x,y=>by
  rw[x.bl_] at y
  cases e with
  |non=>have:=y.non_;cases this
  |bl b=>have:=y.bl_;cases this;rfl
  |int b=>have:=y.int_;cases this
  |str b=>have:=y.str_;cases this
  |mt b=>have:=y.mt_;cases this
  |tup b=>obtain⟨_,_,q,_⟩:=y.tup_;cases q
  |lst b=>obtain⟨_,_,q,_⟩:=y.lst_;cases q
  |fl b=>obtain⟨_,_,q,_⟩:=y.fl_;cases q
  |st b=>obtain⟨_,_,_,q,_⟩:=y.st_;cases q
 |n, .int b,e,v,h1,h2,x,y=>by
  rw[x.int_] at y
  cases e with
  |non=>have:=y.non_;cases this
  |bl b=>have:=y.bl_;cases this
  |int b=>have:=y.int_;cases this;rfl
  |str b=>have:=y.str_;cases this
  |mt b=>have:=y.mt_;cases this
  |tup b=>obtain⟨_,_,q,_⟩:=y.tup_;cases q
  |lst b=>obtain⟨_,_,q,_⟩:=y.lst_;cases q
  |fl b=>obtain⟨_,_,q,_⟩:=y.fl_;cases q
  |st b=>obtain⟨_,_,_,q,_⟩:=y.st_;cases q
 |n, .str b,e,v,h1,h2,x,y=>by
  rw[x.str_] at y
  cases e with
  |non=>have:=y.non_;cases this
  |bl b=>have:=y.bl_;cases this
  |int b=>have:=y.int_;cases this
  |str b=>have:=y.str_;cases this;rfl
  |mt b=>have:=y.mt_;cases this
  |tup b=>obtain⟨_,_,q,_⟩:=y.tup_;cases q
  |lst b=>obtain⟨_,_,q,_⟩:=y.lst_;cases q
  |fl b=>obtain⟨_,_,q,_⟩:=y.fl_;cases q
  |st b=>obtain⟨_,_,_,q,_⟩:=y.st_;cases q
 |n, .mt _,_,_,h1,_,_,_=>by simp[okD] at h1
 |n, .fl _,_,_,h1,_,_,_=>by simp[okD] at h1
 |0, .tup _,_,_,h1,_,_,_=>by simp[okD] at h1
 |0, .lst _,_,_,h1,_,_,_=>by simp[okD] at h1
 |n+1, .tup ds,e,v,h1,h2,x,y=>by
  obtain⟨a,vs,rfl,sq,dn⟩:=x.tup_
  cases e with
  |non=>have:=y.non_;cases this
  |bl b=>have:=y.bl_;cases this
  |int b=>have:=y.int_;cases this
  |str b=>have:=y.str_;cases this
  |mt b=>simp[okD] at h2
  |fl b=>simp[okD] at h2
  |st b=>simp[okD] at h2
  |tup es =>
   obtain⟨b,ws,q,sq2,c⟩:=y.tup_
   cases q
   rw[<- I.tuple_inj sq sq2] at c
   simp only[okD] at h1 h2
   rw[dens_inj I n ds es vs h1 h2 dn c]
  |lst es =>
   obtain⟨b,ws,q,sq2,c⟩:=y.lst_
   cases q
   exfalso
   obtain⟨l,_,pt,_⟩:=I.tuple sq
   obtain⟨h,_,i,_⟩:=I.list (SqL.of sq2)
   obtain⟨o,j,k,_⟩:=pt
   obtain⟨m,p,f,g,_⟩:=i
   rw[j] at f;cases f
   rw[k] at g;exact absurd g '%'
 |n+1, .lst ds,e,v,h1,h2,x,y=>by
  obtain⟨a,vs,rfl,sq,dn⟩:=x.lst_
  cases e with
  |non=>have:=y.non_;cases this
  |bl b=>have:=y.bl_;cases this
  |int b=>have:=y.int_;cases this
  |str b=>have:=y.str_;cases this
  |mt b=>simp[okD] at h2
  |fl b=>simp[okD] at h2
  |st b=>simp[okD] at h2
  |lst es =>
   obtain⟨b,ws,q,sq2,c⟩:=y.lst_
   cases q
   rw[sq] at sq2;cases sq2
   simp only[okD] at h1 h2
   rw[dens_inj I n ds es vs h1 h2 dn c]
  |tup es =>
   obtain⟨b,ws,q,sq2,c⟩:=y.tup_
   cases q
   exfalso
   obtain⟨l,_,pt,_⟩:=I.tuple sq2
   obtain⟨h,_,i,_⟩:=I.list (SqL.of sq)
   obtain⟨o,j,k,_⟩:=pt
   obtain⟨m,p,f,g,_⟩:=i
   rw[j] at f;cases f
   rw[k] at g;exact absurd g '%'
theorem dens_inj(I:Inv X pins σ H s):∀(n:Nat) (ds es:List D) (vs:List V),okDs n ds=true->okDs n es=true->Dens X.K H ds vs->Dens X.K H es vs->ds=es
 |_,[],es,vs,_,_,x,y=>by
  rw[cK x] at y
  cases es with
  |nil=>rfl
  |cons e es=>obtain⟨_,_,q,_⟩:=bX y;cases q
 |n,d::ds,es,vs,h1,h2,x,y=>by
  obtain⟨v,r,rfl,a,b⟩:=bX x
  cases es with
  |nil=>have:=cK y;cases this
  |cons e es =>
   obtain⟨_,_,q,a2,c⟩:=bX y
   cases q
   simp only[okDs,qx] at h1 h2
   rw[den_inj I n d e v h1.1 h2.1 a a2,dens_inj I n ds es r h1.2 h2.2 b c]
end
end
end Z
namespace Z
open PySem L2
section
theorem dX(I:Inv X pins σ H s)(h:Den X.K H (.tup ds) v)(r:RelV v u):∃a its vs,u = .ref a/\s.heap.IsTuple a (Vf its)/\Vals vs its/\Dens X.K H ds vs:=by
 obtain⟨a,vs,rfl,sq,dn⟩:=h.tup_
 obtain⟨its,b,pt,_⟩:=I.tuple sq
 exact⟨a,its,vs,r,pt,b,dn⟩
theorem dW(I:Inv X pins σ H s)(h:Den X.K H (.lst ds) v)(r:RelV v u):∃a its vs,u = .ref a/\s.heap.IsList a (Vf its)/\Vals vs its/\Dens X.K H ds vs:=by
 obtain⟨a,vs,rfl,sq,dn⟩:=h.lst_
 obtain⟨its,b,pt,_⟩:=I.list (SqL.of sq)
 exact⟨a,its,vs,r,pt.isList,b,dn⟩
theorem dH:∀{n:Nat}{ds:List D}{j:Nat}{d:D},okDs n ds=true->ds[j]?=some d->okD n d=true
 |_,[],_,_,_,e=>by simp at e
 |n,d0::ds,0,d,h,e=>by simp at e;subst e;simp only[okDs,qx] at h;exact h.1
 |n,d0::ds,j+1,d,h,e=>by simp only[okDs,qx] at h;exact dH (j:=j) h.2 (by simpa using e)
theorem eV{vs:List V}(dn:Dens X.K H ds vs)(rv:Vals vs its)(h:j<its.toArray.size):∃d v,ds[j]?=some d/\Den X.K H d v/\RelV v its.toArray[j]:=by
 obtain⟨v,b,r1⟩:=aN5 rv h
 obtain⟨d,a,q⟩:=dn.get' b
 exact⟨d,v,a,q,r1⟩
mutual
theorem eqAt_D(I:Inv X pins σ H s):∀(d:D) (n:Nat) (e:D) (v u:V) (v' u':Value) (A:Around),okD n d=true->okD n e=true->Den X.K H d v->Den X.K H e u->RelV v v'->RelV u u'->A.units+n<cLine->Vy A s v' u' (eqD d e)
 |.non,n,e,v,u,v',u',A,h1,h2,x,y,rx,ry,hu=>by
  rw[x.non_] at rx;cases (show v'=j0 from rx)
  cases e with
  |non=>rw[y.non_] at ry;cases (show u'=j0 from ry);simp only[eqD];exact mi _
  |bl b=>rw[y.bl_] at ry;cases (show u'=wd b from ry);simp only[eqD];exact Xc b
  |int b=>rw[y.int_] at ry;obtain⟨t,rfl⟩:=ry;simp only[eqD];exact Xb b t
  |str b=>rw[y.str_] at ry;obtain⟨t,rfl⟩:=ry;simp only[eqD];exact W9 b t
  |mt b=>simp[okD] at h2
  |fl b=>simp[okD] at h2
  |st b=>simp[okD] at h2
  |tup es=>obtain⟨a,f,vs,rfl,it,_⟩:=dX I y ry;simp only[eqD];exact W8 it '!'
  |lst es=>obtain⟨a,f,vs,rfl,it,_⟩:=dW I y ry;simp only[eqD];exact Xa it '!'
 |.bl c,n,e,v,u,v',u',A,h1,h2,x,y,rx,ry,hu=>by
  rw[x.bl_] at rx;cases (show v'=wd c from rx)
  cases e with
  |non=>rw[y.non_] at ry;cases (show u'=j0 from ry);simp only[eqD];exact Xp c
  |bl b=>rw[y.bl_] at ry;cases (show u'=wd b from ry);simp only[eqD];exact Xs c b
  |int b=>rw[y.int_] at ry;obtain⟨t,rfl⟩:=ry;simp only[eqD];exact Xr c b t
  |str b=>rw[y.str_] at ry;obtain⟨t,rfl⟩:=ry;simp only[eqD];exact Xo c b t
  |mt b=>simp[okD] at h2
  |fl b=>simp[okD] at h2
  |st b=>simp[okD] at h2
  |tup es=>obtain⟨a,f,vs,rfl,it,_⟩:=dX I y ry;simp only[eqD];exact Xn c it '!'
  |lst es=>obtain⟨a,f,vs,rfl,it,_⟩:=dW I y ry;simp only[eqD];exact Xq c it '!'
 |.int c,n,e,v,u,v',u',A,h1,h2,x,y,rx,ry,hu=>by
  rw[x.int_] at rx;obtain⟨t0,rfl⟩:=rx
  cases e with
  |non=>rw[y.non_] at ry;cases (show u'=j0 from ry);simp only[eqD];exact Xj c t0
  |bl b=>rw[y.bl_] at ry;cases (show u'=wd b from ry);simp only[eqD];exact Xm c t0 b
  |int b=>rw[y.int_] at ry;obtain⟨t,rfl⟩:=ry;simp only[eqD];exact Xl c t0 b t
  |str b=>rw[y.str_] at ry;obtain⟨t,rfl⟩:=ry;simp only[eqD];exact Qn c t0 b t
  |mt b=>simp[okD] at h2
  |fl b=>simp[okD] at h2
  |st b=>simp[okD] at h2
  |tup es=>obtain⟨a,f,vs,rfl,it,_⟩:=dX I y ry;simp only[eqD];exact Xi c t0 it '!'
  |lst es=>obtain⟨a,f,vs,rfl,it,_⟩:=dW I y ry;simp only[eqD];exact Xk c t0 it '!'
 |.str c,n,e,v,u,v',u',A,h1,h2,x,y,rx,ry,hu=>by
  rw[x.str_] at rx;obtain⟨t0,rfl⟩:=rx
  cases e with
  |non=>rw[y.non_] at ry;cases (show u'=j0 from ry);simp only[eqD];exact W5 c t0
  |bl b=>rw[y.bl_] at ry;cases (show u'=wd b from ry);simp only[eqD];exact W7 c t0 b
  |int b=>rw[y.int_] at ry;obtain⟨t,rfl⟩:=ry;simp only[eqD];exact Ql c t0 b t
  |str b=>rw[y.str_] at ry;obtain⟨t,rfl⟩:=ry;simp only[eqD];exact W4 c t0 b t
  |mt b=>simp[okD] at h2
  |fl b=>simp[okD] at h2
  |st b=>simp[okD] at h2
  |tup es=>obtain⟨a,f,vs,rfl,it,_⟩:=dX I y ry;simp only[eqD];exact W3 c t0 it '!'
  |lst es=>obtain⟨a,f,vs,rfl,it,_⟩:=dW I y ry;simp only[eqD];exact W6 c t0 it '!'
 |.mt _,n,_,_,_,_,_,_,h1,_,_,_,_,_,_=>by simp[okD] at h1
 |.fl _,n,_,_,_,_,_,_,h1,_,_,_,_,_,_=>by simp[okD] at h1
 |.st _,n,_,_,_,_,_,_,h1,_,_,_,_,_,_=>by simp[okD] at h1
 |.tup ds,0,_,_,_,_,_,_,h1,_,_,_,_,_,_=>by simp[okD] at h1
 |.lst ds,0,_,_,_,_,_,_,h1,_,_,_,_,_,_=>by simp[okD] at h1
 |.tup ds,n+1,e,v,u,v',u',A,h1,h2,x,y,rx,ry,hu=>by
  obtain⟨a,f,vs,rfl,it,p,dn⟩:=dX I x rx
  cases e with
  |non=>rw[y.non_] at ry;cases (show u'=j0 from ry);simp only[eqD];exact WY it '!'
  |bl b=>rw[y.bl_] at ry;cases (show u'=wd b from ry);simp only[eqD];exact W2 b it '!'
  |int b=>rw[y.int_] at ry;obtain⟨t,rfl⟩:=ry;simp only[eqD];exact W1 b t it '!'
  |str b=>rw[y.str_] at ry;obtain⟨t,rfl⟩:=ry;simp only[eqD];exact WX b t it '!'
  |mt b=>simp[okD] at h2
  |fl b=>simp[okD] at h2
  |st b=>simp[okD] at h2
  |lst es=>obtain⟨b,g,r,rfl,h,_⟩:=dW I y ry;simp only[eqD];exact WZ it h '!'
  |tup es =>
   obtain⟨b,g,r,rfl,h,k,i⟩:=dX I y ry
   have C:okDs n ds=true:=by simpa only[okD] using h1
   have J:okDs n es=true:=by simpa only[okD] using h2
   by_cases l:a=b
   ·subst l
    have F:D.tup ds=D.tup es:=den_inj I (n+1) _ _ v h1 h2 x (by
     have:v=u:=by
      obtain⟨_,_,m,_⟩:=x.tup_
      obtain⟨_,_,z,_⟩:=y.tup_
      rw[m] at rx;rw[z] at ry
      cases rx;cases ry;rw[m,z]
     rw[this];exact y)
    rw[<- F,eqD_refl (n+1) _ h1]
    exact mi _
   ·have:=Qx (A:=A) (s:=s) (e:=eqJ ds es) it h '!' (λj g1 g2=>by
     obtain⟨c,v1,o,B,r1⟩:=eV dn p g1
     obtain⟨G,v2,w,E,r2⟩:=eV i k g2
     have:=eqAts_D I ds n j c o G v1 v2 _ _ A.in1 (dH C o) (dH J w) B E r1 r2 (by show A.units+1+n<cLine;lia)
     unfold eqJ;rw[o,w];exact this)
    rw[qf,qf,<- p.length,<- k.length,<- dn.len,<- i.len,fZ] at this
    simp only[eqD]
    exact Qm l this
 |.lst ds,n+1,e,v,u,v',u',A,h1,h2,x,y,rx,ry,hu=>by
  obtain⟨a,f,vs,rfl,it,p,dn⟩:=dW I x rx
  cases e with
  |non=>rw[y.non_] at ry;cases (show u'=j0 from ry);simp only[eqD];exact Xf it '!'
  |bl b=>rw[y.bl_] at ry;cases (show u'=wd b from ry);simp only[eqD];exact Xh b it '!'
  |int b=>rw[y.int_] at ry;obtain⟨t,rfl⟩:=ry;simp only[eqD];exact Xg b t it '!'
  |str b=>rw[y.str_] at ry;obtain⟨t,rfl⟩:=ry;simp only[eqD];exact Xe b t it '!'
  |mt b=>simp[okD] at h2
  |fl b=>simp[okD] at h2
  |st b=>simp[okD] at h2
  |tup es=>obtain⟨b,g,r,rfl,h,_⟩:=dX I y ry;simp only[eqD];exact Xd it h '!'
  |lst es =>
   obtain⟨b,g,r,rfl,h,k,i⟩:=dW I y ry
   have C:okDs n ds=true:=by simpa only[okD] using h1
   have J:okDs n es=true:=by simpa only[okD] using h2
   by_cases l:a=b
   ·subst l
    have F:D.lst ds=D.lst es:=den_inj I (n+1) _ _ v h1 h2 x (by
     have:v=u:=by
      obtain⟨_,_,m,_⟩:=x.lst_
      obtain⟨_,_,z,_⟩:=y.lst_
      rw[m] at rx;rw[z] at ry
      cases rx;cases ry;rw[m,z]
     rw[this];exact y)
    rw[<- F,eqD_refl (n+1) _ h1]
    exact mi _
   ·simp only[eqD]
    refine Qm l ?_
    by_cases hl:ds.length=es.length
    ·have q:f.toArray.size=g.toArray.size:=by rw[qf,qf,<- p.length,<- k.length,<- dn.len,<- i.len,hl]
     have:=QN (A:=A) (s:=s) (e:=eqJ ds es) it h q '!' (λj g1 g2=>by
      obtain⟨c,v1,o,B,r1⟩:=eV dn p g1
      obtain⟨G,v2,w,E,r2⟩:=eV i k g2
      have:=eqAts_D I ds n j c o G v1 v2 _ _ A.in1 (dH C o) (dH J w) B E r1 r2 (by show A.units+1+n<cLine;lia)
      unfold eqJ;rw[o,w];exact this)
     have m:=fZ ds es
     rw[<- hl,Q3,beq_self_eq_true,vz] at m
     rw[qf,<- p.length,<- dn.len,m] at this
     exact this
    ·have q:(f.toArray.size != g.toArray.size)=true:=by rw[bne_iff_ne,qf,qf,<- p.length,<- k.length,<- dn.len,<- i.len];exact hl
     have m:=fZ ds es
     rw[beq_eq_false_iff_ne.mpr hl,h8] at m
     rw[<- m]
     exact nk it h q '!'
theorem eqAts_D(I:Inv X pins σ H s):∀(ds:List D) (n j:Nat) (d:D),ds[j]?=some d->∀(e:D) (v u:V) (v' u':Value) (A:Around),okD n d=true->okD n e=true->Den X.K H d v->Den X.K H e u->RelV v v'->RelV u u'->A.units+n<cLine->Vy A s v' u' (eqD d e)
 |[],_,_,_,q=>by simp at q
 |d0::ds,n,0,d,q=>by
  simp at q;subst q
  exact λe v u v' u' A=>eqAt_D I d0 n e v u v' u' A
 |d0::ds,n,j+1,d,q=>eqAts_D I ds n j d (by simpa using q)
end
inductive Disp:D->Prop
 |tup (ds:List D):Disp (.tup ds)
 |lst (ds:List D):Disp (.lst ds)
inductive Rs(M:Mem):D->D->Prop
 |tup (ds:List D):Rs M (.tup ds) (.tup ds)
 |lst (ds:List D):Rs M (.lst ds) (.lst ds)
 |mt {a:Addr}{ds:List D} (h:M a=some (.lst ds)):Rs M (.mt a) (.lst ds)
theorem Rs.disp{e:D}(h:Rs M d e):Disp e:=by cases h <;> constructor
theorem Rs.den{K:Fg}{H:Hp}{e:D}(h:Rs M d e)(rl:Rel K G H M)(q:Den K G d v):Den K H e v:=by
 cases h with
 |tup ds=>exact q.up rl.same
 |lst ds=>exact q.up rl.same
 |mt hm =>
  obtain⟨_,vs,a,dn⟩:=rl.mem _ _ hm
  rw[q.mt_];exact gX a (dn.up rl.same)
noncomputable def aFF(K:Fg)(n:Nat)(neg:Bool):R2:=λx y H Q=>∃d e,Disp d/\Disp e/\okD n d=true/\okD n e=true/\Den K H d x/\Den K H e y/\Q (.bl (if neg then !eqD d e else eqD d e)) H
theorem rc_D(I:Inv X pins σ H s){e:D}{u:V}{v' u':Value}(A:Around)(g1:Disp d)(g2:Disp e)(h1:okD n d=true)(h2:okD n e=true)(x:Den X.K H d v)(y:Den X.K H e u)(rx:RelV v v')(ry:RelV u u')(hu:A.units+n<cLine):SeqAt.RcAt A s v' u' (eqD d e):=by
 cases g1 with
 |tup ds =>
  obtain⟨a,m,vs,rfl,it,o,dn⟩:=dX I x rx
  cases g2 with
  |lst es=>obtain⟨b,f,l,rfl,g,_⟩:=dW I y ry;simp only[eqD];exact WV it g '!'
  |tup es =>
   obtain⟨b,f,l,rfl,g,h,i⟩:=dX I y ry
   cases n with
   |zero=>simp[okD] at h1
   |succ n =>
    have z:okDs n ds=true:=by simpa only[okD] using h1
    have B:okDs n es=true:=by simpa only[okD] using h2
    have:=Qx (A:=A) (s:=s) (e:=eqJ ds es) it g '!' (λj g1 g2=>by
     obtain⟨c,v1,q,C,r1⟩:=eV dn o g1
     obtain⟨t,v2,p,w,r2⟩:=eV i h g2
     have:=eqAt_D I c n t v1 v2 _ _ A.in1 (dH z q) (dH B p) C w r1 r2 (by show A.units+1+n<cLine;lia)
     unfold eqJ;rw[q,p];exact this)
    rw[qf,qf,<- o.length,<- h.length,<- dn.len,<- i.len,fZ] at this
    simp only[eqD];exact this
 |lst ds =>
  obtain⟨a,m,vs,rfl,it,o,dn⟩:=dW I x rx
  cases g2 with
  |tup es=>obtain⟨b,f,l,rfl,g,_⟩:=dX I y ry;simp only[eqD];exact WW it g '!'
  |lst es =>
   obtain⟨b,f,l,rfl,g,h,i⟩:=dW I y ry
   cases n with
   |zero=>simp[okD] at h1
   |succ n =>
    have z:okDs n ds=true:=by simpa only[okD] using h1
    have B:okDs n es=true:=by simpa only[okD] using h2
    simp only[eqD]
    by_cases hl:ds.length=es.length
    ·have k:m.toArray.size=f.toArray.size:=by rw[qf,qf,<- o.length,<- h.length,<- dn.len,<- i.len,hl]
     have:=QN (A:=A) (s:=s) (e:=eqJ ds es) it g k '!' (λj g1 g2=>by
      obtain⟨c,v1,q,C,r1⟩:=eV dn o g1
      obtain⟨t,v2,p,w,r2⟩:=eV i h g2
      have:=eqAt_D I c n t v1 v2 _ _ A.in1 (dH z q) (dH B p) C w r1 r2 (by show A.units+1+n<cLine;lia)
      unfold eqJ;rw[q,p];exact this)
     have r:=fZ ds es
     rw[<- hl,Q3,beq_self_eq_true,vz] at r
     rw[qf,<- o.length,<- dn.len,r] at this
     exact this
    ·have k:(m.toArray.size != f.toArray.size)=true:=by rw[bne_iff_ne,qf,qf,<- o.length,<- h.length,<- dn.len,<- i.len];exact hl
     have r:=fZ ds es
     rw[beq_eq_false_iff_ne.mpr hl,h8] at r
     rw[<- r]
     exact nk it g k '!'
end
section
theorem zU(hu:X.A.units+n<cLine):OpR X (wh .Eq) (aFF X.K n false):=by
 intro pins s σ H x y v u Q I g b h
 obtain⟨d,e,g1,g2,f,a,i,c,q⟩:=h
 exact rc_D I X.A g1 g2 f a i c g b hu X.prog X.w X.xe _ ⟨.bl (eqD d e),H,I,rfl,q⟩
theorem aA4{K:Fg}{d1 d2 e1 e2:D}(r1:Rs M d1 e1)(r2:Rs M d2 e2)(h1:okD n e1=true)(h2:okD n e2=true)(h:k (.bl (eqD e1 e2)) M):Op2 K (aFF K n false) d1 d2 M k:=λG H v1 v2 Q a x y q =>
 ⟨e1,e2,r1.disp,r2.disp,h1,h2,r1.den a x,r2.den a y,q _ _ _ _ _ (Stp.refl a) dU h⟩
end
end Z
namespace Z
open PySem L2
mutual
noncomputable def toPy:D->PyData
 |.non => .none
 |.bl b => .bool b
 |.int i => .int i
 |.str x => .str x
 |.tup ds => .tuple (toPys ds)
 |.lst ds => .list (toPys ds)
 |.mt _ => .none
 |.fl _ => .none
 |.st _ => .none
noncomputable def toPys:List D->List PyData
 |[]=>[]
 |d::ds=>toPy d::toPys ds
end
mutual
theorem depth_le:∀(d:D) (n:Nat),okD n d=true->(toPy d).depth<=n
 |.non,_,_=>by simp[toPy,df]
 |.bl _,_,_=>by simp[toPy,df]
 |.int _,_,_=>by simp[toPy,df]
 |.str _,_,_=>by simp[toPy,df]
 |.mt _,n,h=>by simp[okD] at h
 |.fl _,n,h=>by simp[okD] at h
 |.st _,n,h=>by simp[okD] at h
 |.tup ds,0,h=>by simp[okD] at h
 |.lst ds,0,h=>by simp[okD] at h
 |.tup ds,n+1,h=>by
  simp only[toPy,df]
  have:=depths_le ds n (by simpa only[okD] using h)
  omega
 |.lst ds,n+1,h=>by
  simp only[toPy,df]
  have:=depths_le ds n (by simpa only[okD] using h)
  omega
theorem depths_le:∀(ds:List D) (n:Nat),okDs n ds=true->nv (toPys ds)<=n
 |[],_,_=>by simp[toPys,nv]
 |d::ds,n,h=>by
  simp only[okDs,qx] at h
  simp only[toPys,nv]
  have b:=depth_le d n h.1
  have a:=depths_le ds n h.2
  omega
end
mutual
theorem noDict:∀(d:D),(toPy d).hasDict=false
 |.non=>by simp only[toPy,yj]
 |.bl _=>by simp only[toPy,yj]
 |.int _=>by simp only[toPy,yj]
 |.str _=>by simp only[toPy,yj]
 |.mt _=>by simp only[toPy,yj]
 |.fl _=>by simp only[toPy,yj]
 |.st _=>by simp only[toPy,yj]
 |.tup ds=>by simp only[toPy,yj];exact noDicts ds
 |.lst ds=>by simp only[toPy,yj];exact noDicts ds
theorem noDicts:∀(ds:List D),mj (toPys ds)=false
 |[]=>by simp only[toPys,mj]
 |d::ds=>by simp only[toPys,mj,noDict d,noDicts ds,K1]
end
section
mutual
theorem reads_D(I:Inv X pins σ H s):∀(d:D) (n:Nat) (v:V) (u:Value),okD n d=true->Den X.K H d v->RelV v u->∃as,Reads s.heap u (toPy d) as
 |.non,_,v,u,_,x,r=>by rw[x.non_] at r;cases (show u=j0 from r);exact⟨_,by simp only[toPy];exact .none⟩
 |.bl b,_,v,u,_,x,r=>by rw[x.bl_] at r;cases (show u=wd b from r);exact⟨_,by simp only[toPy];exact .bool b⟩
 |.int b,_,v,u,_,x,r=>by rw[x.int_] at r;obtain⟨t,rfl⟩:=r;exact⟨_,by simp only[toPy];exact .int b t⟩
 |.str b,_,v,u,_,x,r=>by rw[x.str_] at r;obtain⟨t,rfl⟩:=r;exact⟨_,by simp only[toPy];exact .str b t⟩
 |.mt _,n,_,_,h,_,_=>by simp[okD] at h
 |.fl _,n,_,_,h,_,_=>by simp[okD] at h
 |.st _,n,_,_,h,_,_=>by simp[okD] at h
 |.tup ds,0,_,_,h,_,_=>by simp[okD] at h
 |.lst ds,0,_,_,h,_,_=>by simp[okD] at h
 |.tup ds,n+1,v,u,h,x,r=>by
  obtain⟨a,c,vs,rfl,⟨o,f,e,m,g⟩,i,dn⟩:=dX I x r
  obtain⟨as,q⟩:=readss_D I ds n vs c (by simpa only[okD] using h) dn i
  exact⟨as,by simp only[toPy];exact .tuple f e g (by simpa using q)⟩
 |.lst ds,n+1,v,u,h,x,r=>by
  obtain⟨a,c,vs,rfl,⟨o,f,e,m,g⟩,i,dn⟩:=dW I x r
  obtain⟨as,q⟩:=readss_D I ds n vs c (by simpa only[okD] using h) dn i
  exact⟨a::as,by simp only[toPy];exact .list f e g (by simpa using q)⟩
theorem readss_D(I:Inv X pins σ H s):∀(ds:List D) (n:Nat) (vs:List V) (us:List Value),okDs n ds=true->Dens X.K H ds vs->Vals vs us->∃as,ReadsAll s.heap us (toPys ds) as
 |[],_,vs,us,_,x,r=>by
  rw[cK x] at r
  cases r
  exact⟨[],by simp only[toPys];exact .nil⟩
 |d::ds,n,vs,us,h,x,r=>by
  obtain⟨v,t,rfl,a,b⟩:=bX x
  cases r with
  |cons r1 r2 =>
   simp only[okDs,qx] at h
   obtain⟨as,q⟩:=reads_D I d n v _ h.1 a r1
   obtain⟨bs,c⟩:=readss_D I ds n t _ h.2 b r2
   exact⟨as++bs,by simp only[toPys];exact .cons q c⟩
end
end
section
noncomputable def aFD(K:Fg)(n:Nat):List V->Hp->VK->Prop:=λxs H Q=>∃x d,xs=[x]/\Disp d/\okD n d=true/\Den K H d x/\(toPy d).showable=true/\(toPy d).shown.length<=sizeLine/\Q (.str (toPy d).shown) H
theorem i8(hu:X.A.units+(n+1)<cLine)(hg:X.A.guards=some []):dY X (.builtin "repr") (aFD X.K n):=by
 intro pins s σ H xs us Q I r h
 obtain⟨x,d,rfl,hd,ok,c,k,f,q⟩:=h
 obtain⟨u,rfl,b⟩:=vals1 r
 obtain⟨as,i⟩:=reads_D I d n x u ok c b
 have j:∃a,u = .ref a:=by
  cases hd with
  |tup ds=>obtain⟨a,_,_,e,_⟩:=dX I c b;exact⟨a,e⟩
  |lst ds=>obtain⟨a,_,_,e,_⟩:=dW I c b;exact⟨a,e⟩
 obtain⟨a,rfl⟩:=j
 have l:=depth_le d n ok
 refine repr_of_reads' i k (PyData.noDict_hsm (noDict d)) hg '$' (λ_ _ e=>e) (λm t tk g => ?_) f
 exact⟨.str _,H,I.kept (t':=tk) g,⟨t,rfl⟩,q⟩
theorem aPI{K:Fg}{e:D}(r:Rs M d e)(ok:okD n e=true)(hs:(toPy e).showable=true)(hz:(toPy e).shown.length<=sizeLine)(h:k (.str (toPy e).shown) M):OpN K (aFD K n) [d] M k:=λG H vs Q a x q=>by
 obtain⟨v,rfl,dv⟩:=dens1 x
 exact⟨v,e,rfl,r.disp,ok,r.den a dv,hs,hz,q _ _ _ _ _ (Stp.refl a) jW h⟩
end
end Z
namespace R
open PySem L2
theorem dB{z:Str}(h:j<z.length):z.cps.toList[j]?=some (atS z j):=by
 have h':j<z.cps.size:=h
 simp[atS,VI,h']
theorem l8:atS (ofL l) j=l.getD j 0:=by
 unfold atS ofL
 rw[jh,kr,zGd]
noncomputable def Good(n:Nat)(zs:List Str):Prop:=∀z∈zs,z.length=n/\z.cps.toList.all sgn=true
theorem oX(h:Good n zs){z:Str}(hz:z∈zs)(hj:j<n):atS z j=35\/atS z j=46:=by
 obtain⟨b,a⟩:=h z hz
 have e:=dB (z:=z) (j:=j) '!'
 have:=jn.mp a _ (zMo e)
 unfold sgn at this
 rw[ri,beq_iff_eq,beq_iff_eq] at this
 exact this
theorem tW(n:Nat):(dots n).length=n:=by unfold dots;rw[jT,xk]
theorem aOF{z:Str}(hl:z.length=n)(h:∀j,j<n->atS z j=46):z=dots n:=by
 apply jA
 show z.cps.toList=jz n 46
 apply v3
 intro j
 by_cases a:j<n
 ·rw[dB '!',h j a,x3,if_pos a]
 ·rw[qw (by rw[qt];have:z.cps.size=n:=hl;lia),qw (by simp;lia)]
theorem mB:atS (dots n) j=if j<n then 46 else 0:=by
 unfold dots
 rw[l8,zGd,x3]
 split <;> rfl
theorem k7{α:Type}(f:Nat->α):∀p,f p≠f 0->∃k,k<p/\f k≠f (k+1)
 |0,h=>absurd rfl h
 |p+1,h=>by
  by_cases e:f p=f 0
  ·exact⟨p,by lia,by rw[e];exact cb h⟩
  ·obtain⟨k,b,a⟩:=k7 f p e
   exact⟨k,by lia,a⟩
theorem jO{α:Type}(f:Nat->α):∀m p,f p≠f (p+m)->∃k,p<=k/\k<p+m/\f k≠f (k+1)
 |0,p,h=>absurd rfl h
 |m+1,p,h=>by
  by_cases e:f p=f (p+m)
  ·exact⟨p+m,by lia,by lia,by rw[<- e];exact h⟩
  ·obtain⟨k,a,c,b⟩:=jO f m p e
   exact⟨k,a,by lia,b⟩
theorem cT(h:i<zs.length):(framed zs)[i+1]?=zs[i]?:=by
 unfold framed
 rw[jd,y9,kl,q6 h]
theorem fT(zs:List Str):(framed zs)[0]?=some (dots ((zs.head?.map (·.length)).getD 0)):=by simp[framed]
theorem eB(zs:List Str):(framed zs)[zs.length+1]?=some (dots ((zs.head?.map (·.length)).getD 0)):=by
 unfold framed
 rw[jd,y9,kl,qr (qk _)]
 simp
theorem fM(hz:zs≠[]):i∈chg zs↔i<=zs.length/\(framed zs)[i]?≠(framed zs)[i+1]?:=by
 unfold chg
 have:zs.isEmpty=false:=by cases zs with
  |nil=>exact absurd rfl hz
  |cons _ _=>rfl
 rw[this]
 simp only[xo,if_false,wy,vb,v5,decide_eq_false_iff_not]
 exact⟨λ⟨a,b⟩=>⟨by lia,b⟩,λ⟨a,b⟩=>⟨by lia,b⟩⟩
theorem cS(h:∀z∈zs,z.length=n)(hz:zs≠[]):(zs.head?.map (·.length)).getD 0=n:=by
 cases zs with
 |nil=>exact absurd rfl hz
 |cons z zr=>exact h z '%'
theorem aPK(h:∀z∈zs,z.length=n){z:Str}(hi:zs[i]?=some z)(hz:z≠dots n):2<=(chg zs).length:=by
 have b:i<zs.length:=(zGs hi).1
 have a:zs≠[]:=λe=>by rw[e] at b;simp at b
 have hw:=cS h a
 have f0:(framed zs)[0]?=some (dots n):=by rw[fT,hw]
 have fl:(framed zs)[zs.length+1]?=some (dots n):=by rw[eB,hw]
 have f:(framed zs)[i+1]?=some z:=by rw[cT b,hi]
 obtain⟨m,a1,g⟩:=k7 (λk=>(framed zs)[k]?) (i+1) (by show (framed zs)[i+1]?≠(framed zs)[0]?;rw[f,f0];exact λe=>hz (je e))
 obtain⟨l,a2,o,j⟩:=jO (λk=>(framed zs)[k]?) (zs.length-i) (i+1) (by
  show (framed zs)[i+1]?≠(framed zs)[i+1+(zs.length-i)]?
  rw[show i+1+(zs.length-i)=zs.length+1 by lia,f,fl];exact λe=>hz (je e))
 have c:m∈chg zs:=(fM a).mpr ⟨by lia,g⟩
 have d:l∈chg zs:=(fM a).mpr ⟨by lia,j⟩
 match hc:chg zs,c,d with
 |[],c,_=>cases c
 |[x],c,d =>
  simp at c d
  lia
 |_::_::_,_,_=>simp
noncomputable def aS(zs:List Str):List Str:=(chg zs).dropLast.map λi=>zs.getD i xl
theorem kW:∀z∈aS zs,z∈zs:=λz b=>by
 obtain⟨i,a,rfl⟩:=qo.mp b
 have:=j6 (cG zs) (eX zs) i a
 rw[zGd,zGe this]
 exact ke _
theorem jK(h:Good n zs):Good n (aS zs):=λz hz=>h z (kW z hz)
theorem fE(zs:List Str):(aS zs).length=(chg zs).length-1:=by unfold aS;rw[zLm,vc]
theorem sV(h:∀z∈zs,z.length=n)(hr:aS zs≠[]):∃z∈aS zs,z≠dots n:=by
 have c:2<=(chg zs).length:=by
  have:=ye.mpr hr
  rw[fE] at this
  lia
 have a:zs≠[]:=λe=>by rw[e] at c;simp[chg] at c
 match hc:chg zs,c with
 |k0::k1::r,_ =>
  have m0:k0∈chg zs:=by rw[hc];simp
  have s:=cG zs
  rw[hc] at s
  have d:k1<=zs.length:=eX zs k1 (by rw[hc];simp)
  have i:k0<k1:=(jt.mp s).1 k1 '%'
  have b:k0<zs.length:=by lia
  obtain⟨_,b0⟩:=(fM a).mp m0
  have same:∀j,j<=k0->(framed zs)[j]?=(framed zs)[0]?:=λj g=>qz λq=>by
   obtain⟨k,a1,f⟩:=k7 (λk=>(framed zs)[k]?) j q
   have:k∈chg zs:=(fM a).mpr ⟨by lia,f⟩
   rw[hc] at this
   rcases qp.mp this with rfl|this
   ·lia
   ·have:=(jt.mp s).1 k this
    lia
  refine⟨zs.getD k0 xl,?_,λq=>b0 ?_⟩
  ·unfold aS
   rw[hc]
   simp
  ·rw[same k0 (qk _),fT,cS h a,cT b,<- q,zGd,zGe b]
   rfl
theorem jB(h:∀z∈zs,z.length=n)(hz:zs≠[])(hj:j<n):(aK zs)[j]?=some (ofL (zs.map (atS · j))):=by
 unfold aK
 rw[cS h hz,qg,xg hj]
 rfl
theorem oA(h:Good n zs):Good zs.length (aK zs):=λz a=>by
 refine⟨gM z a,?_⟩
 obtain⟨j,d,rfl⟩:=qo.mp a
 rw[vb] at d
 show (zs.map (atS · j)).all sgn=true
 rw[jn]
 intro c f
 obtain⟨z,a,rfl⟩:=qo.mp f
 have b:zs≠[]:=λe=>by rw[e] at a;cases a
 rw[cS (λz a=>(h z a).1) b] at d
 rcases oX h a d with e|e <;> rw[e] <;> rfl
structure Wf(nx ny:Nat)(zs:List Str):Prop where
 rows:zs.length+1=ny\/(nx=0/\ny=0/\zs=[])
 good:Good (nx-1) zs
 wide:0<nx\/(nx=0/\ny=0/\zs=[])
theorem aBR(h:Good n zs){z:Str}(hz:z∈zs)(hd:z≠dots n):∃j,j<n/\atS z j=35:=by
 refine qz λq=>hd (aOF (h z hz).1 λj a => ?_)
 rcases oX h hz a with e|e
 ·exact absurd ⟨j,a,e⟩ q
 ·exact e
theorem aNF(h:Good n zs)(hr:aS zs≠[]):
  2<=(chg (aK (aS zs))).length/\Wf (chg (aK (aS zs))).length (chg zs).length (aK (aS (aK (aS zs))))/\(aK (aS (aK (aS zs)))).length=(aS zs).length:=by
 have g1:=jK h
 obtain⟨z,a,hd⟩:=sV (λz a=>(h z a).1) hr
 obtain⟨j,k,b⟩:=aBR g1 a hd
 have gc:=oA g1
 have o:=jB (λz a=>(g1 z a).1) hr k
 have c:ofL ((aS zs).map (atS · j))≠dots (aS zs).length:=λq=>by
  obtain⟨i,f,m⟩:=jr a
  have e:atS (ofL ((aS zs).map (atS · j))) i=35:=by
   rw[l8,zGd,qg,zGe f,m]
   exact b
  rw[q,mB,if_pos f] at e
  cases e
 have g:=aPK (λz a=>(gc z a).1) o c
 have l:aS (aK (aS zs))≠[]:=λq=>by
  have:=fE (aK (aS zs))
  rw[q] at this
  simp at this
  lia
 have g2:=jK gc
 have d:=(tT (λz a=>(g2 z a).1)).2 l
 have p:=fE zs
 have pos:=ye.mpr hr
 refine⟨g,⟨.inl (by rw[d];lia),?_, .inl '!'⟩,d⟩
 have g3:=oA g2
 rw[fE] at g3
 exact g3
noncomputable def aJ(zs:List Str)(a u:Int):Bool:=decide (0<=u)&&decide (0<=a)&&((zs[u.toNat]?).bind λz=>z.cps.toList[a.toNat]?)==some 35
theorem dN{a u:Int}(h:u<0):aJ zs a u=false:=by
 unfold aJ;rw[decide_eq_false '!'];rfl
theorem cY{a u:Int}(h:a<0):aJ zs a u=false:=by
 unfold aJ;rw[decide_eq_false (show ¬(0:Int)<=a by lia),h8];rfl
theorem eA{a u:Int}(h:(zs.length:Int)<=u):aJ zs a u=false:=by
 unfold aJ
 rw[qw '!']
 simp
theorem kA{a u:Int}{z:Str}(e:zs[u.toNat]?=some z)(h:(z.length:Int)<=a):aJ zs a u=false:=by
 unfold aJ
 rw[e]
 have:z.cps.toList[a.toNat]?=none:=qw (by rw[qt];have:z.cps.size=z.length:=rfl;lia)
 rw[JG,this]
 cases decide (0<=u) <;> cases decide (0<=a) <;> rfl
theorem fI{a u:Int}{z:Str}{c:Nat}(hu:0<=u)(ha:0<=a)(e:zs[u.toNat]?=some z)(ec:z.cps.toList[a.toNat]?=some c):aJ zs a u=decide (c=35):=by
 unfold aJ
 rw[decide_eq_true hu,decide_eq_true ha,e]
 simp only[JG,ec,vz,K0]
 by_cases h:c=35
 ·subst h;rfl
 ·rw[decide_eq_false h];simp[h]
noncomputable def sg(b:Bool):Nat:=if b then 35 else 46
end R
namespace Q
open PySem L2 Z
theorem BMin:kh "min" = some (.builtin "min"):=by decide +kernel
theorem BRepr:kh "repr" = some (.builtin "repr"):=by decide +kernel
theorem BEnum:kh "enumerate" = some (.type "enumerate"):=by decide +kernel
structure Bt(mg:Str->Option Value):Prop where
 len:mg "len" = none
 abs:mg "abs" = none
 int:mg "int" = none
 min:mg "min" = none
 max:mg "max" = none
 range:mg "range" = none
 list:mg "list" = none
 tuple:mg "tuple" = none
 repr:mg "repr" = none
 all:mg "all" = none
 any:mg "any" = none
 enumerate:mg "enumerate" = none
 isi:mg "isinstance" = none
 bool:mg "bool" = none
 str:mg "str" = none
 zip:mg "zip" = none
 reversed:mg "reversed" = none
 sorted:mg "sorted" = none
 dict:mg "dict" = none
noncomputable def cQ(p:Addr)(M M':Mem):Prop:=∀a o,a≠p->M a=some o->M' a=some o
theorem cQ.refl(p:Addr)(M:Mem):cQ p M M:=λ_ _ _ h=>h
theorem cQ.trans{p:Addr}{M2:Mem}(a:cQ p M M1)(b:cQ p M1 M2):cQ p M M2:=λc o n h=>b c o n (a c o n h)
theorem cQ.upd{p:Addr}{M':Mem}{o:MO}(h:cQ p M M'):cQ p M (bV M' p o):=λa u n e=>by rw[cV n];exact h a u n e
theorem cQ.new{p:Addr}{M':Mem}{o:MO}(h:cQ p M M')(n:M a=none):cQ p M (bV M' a o):=λb u nb e=>by
 rw[cV (λz=>by rw[z,n] at e;cases e)];exact h b u nb e
noncomputable def aNS:Ct:=λds M k=>∃a b:Int,ds=[.int a, .int b]/\k (.int ((wb a b:Nat):Int)) M
theorem aJM{ns:List Int}{k:Int}(h0:0<=k)(h:k<ns.length):∃z:Int,atI (ns.map D.int) k=some (.int z):=by
 obtain⟨j,rfl⟩:∃j:Nat,k=(j:Int):=⟨k.toNat,by lia⟩
 have a:j<ns.length:=by lia
 exact⟨ns[j],dD (by simp[a])⟩
theorem fF{o:MO}(h:M a=none):k8 (bV M a o) a=M:=by
 funext b
 unfold k8 bV
 by_cases e:b=a
 ·rw[if_pos e,e,h]
 ·rw[if_neg e,if_neg e]
noncomputable def aMQ(bt at_:Int):D := .tup [.int (at_/((wb at_ bt:Nat):Int)), .int (bt/((wb at_ bt:Nat):Int))]
structure Ats(bt:Int)(ats:List Int):Prop where
 bt:bt=1\/bt=2\/bt=9
 up:ats.Pairwise (· < ·)
 bd:∀a∈ats, -20<=a/\a<=10^10
noncomputable def yY(xs:List D)(js:List Nat):List D:=js.map λj=>xs.getD j .non
noncomputable def kC(xs ys:List D)(zs:List Str):D := .tup [.tup xs, .tup ys, .tup (zs.map .str)]
structure YardOk(xs ys:List D)(zs:List Str):Prop where
 lx:∃bt ats,xs=ats.map (aMQ bt)/\Ats bt ats
 ly:∃bt ats,ys=ats.map (aMQ bt)/\Ats bt ats
 wf:R.Wf xs.length ys.length zs
 few:xs.length<=21/\ys.length<=21
 full:zs=[]->xs=[]/\ys=[]
theorem b4{α β:Type}{f:α->β}{l:List α}{y:β}(h:(l.map f)[i]?=some y):∃x,l[i]?=some x/\y=f x:=by
 rw[qg] at h
 cases e:l[i]? with
 |none=>rw[e] at h;cases h
 |some x=>rw[e] at h;exact⟨x,rfl,(je h).symm⟩
end Q
namespace PySem
open Sem (wp)
open AutoSeq1 (wpAny_loadPart')
section
variable {E:Value->Shared->Prop}
theorem zV{iq:Addr}{its}{x:Value}{Q:Value->Shared->Prop}(hI:s.heap.IsTupleIter iq tu i)(hT:s.heap.IsTuple tu its)(hq:its[i]?=some x)(kQ:∀h',h'.IsTupleIter iq tu (i+1)->dq iq s.heap h'->Q x {s with heap:=h' }):wpAny w.12 A (yx (.ref iq)) Q E s:=by
 obtain⟨e,b,c,a⟩:=id hI
 obtain⟨f,eT,_,g,d⟩:=hT
 unfold yx
 refine qa (w6 (name:=ji "__next__") hI.typeIs zk (xa zk hI.typeIs Qs ?_ (Qg _)))
 show wpAny _ _ (field (.ref iq) 0 >>= _) _ _ s
 refine qa (d5 b a (x := .ref tu) rfl ?_)
 show wpAny _ _ (if (jw tu==j0)=true then _ else _) _ _ s
 rw[if_neg (show ¬((jw tu==j0)=true) from zBf)]
 show wpAny _ _ (field (.ref iq) 1 >>= _) _ _ s
 refine qa (d5 b a (x := .int i 0) rfl ?_)
 show wpAny _ _ (seqItems? (.ref tu) >>= _) _ _ s
 refine qa (my eT d ?_)
 simp only[qm,hq]
 refine qa (zv b a '%' ⟨x,rfl,wpAny_pure (kQ _ ?_ (wz ..))⟩.16)
 exact⟨_,vx _ b (zg (vk a _)),(fh ..).trans c,by rw[vk a];simp[rawInt]⟩
theorem aB7{iq:Addr}{its}{Q:Value->Shared->Prop}(hh:A.handled=none)(hI:s.heap.IsTupleIter iq tu i)(hT:s.heap.IsTuple tu its)(hq:its[i]?=none)(kE:∀h' e,fj iq s.heap h'->(∃o,h'.get? e=some o/\o.cls = .type "StopIteration")->E (.ref e) {s with heap:=h' }):wpAny w.12 A (yx (.ref iq)) Q E s:=by
 obtain⟨f,b,g,c⟩:=id hI
 obtain⟨h,eT,_,j,d⟩:=hT
 unfold yx
 refine qa (w6 (name:=ji "__next__") hI.typeIs zk (xa zk hI.typeIs Qs ?_ (Qg _)))
 show wpAny _ _ (field (.ref iq) 0 >>= _) _ _ s
 refine qa (d5 b c (x := .ref tu) rfl ?_)
 show wpAny _ _ (if (jw tu==j0)=true then _ else _) _ _ s
 rw[if_neg (show ¬((jw tu==j0)=true) from zBf)]
 show wpAny _ _ (field (.ref iq) 1 >>= _) _ _ s
 refine qa (d5 b c (x := .int i 0) rfl ?_)
 show wpAny _ _ (seqItems? (.ref tu) >>= _) _ _ s
 refine qa (my eT d ?_)
 simp only[qm,hq]
 refine qa (Jj (qa (zv b c '%' ?_)))
 show wpAny _ _ ((newExc (.type "StopIteration") []) >>= _) _ _ _
 refine qa ?_
 simp only[newExc,newTuple]
 refine (qa (va ?_ (by size_fits)))
 refine qa (m:=QZ _ _) (QG (a:=j0) (by first|rfl|(simp only[QZ];rfl)|skip) ?_)
 refine (va ?_ (by size_fits))
 simp only[raiseNew]
 refine qa (wpAny_handled ?_)
 first|rw[show (A.in1).handled=none from hh]|rw[hh]
 refine (qa (wpAny_throw ?_).16)
 exact kE _ _ (((wz ..).extBut.push _).push _) ⟨_,qu _ rfl,rfl⟩
end
theorem Draws.tup(hh:A.handled=none)(iq tu:Addr)(hne:tu≠iq)(its:Array Value):
  Draws prog w A iq [iq,tu] its.size (λi v=>its[i]?=some v) (λi h=>h.IsTupleIter iq tu i/\h.IsTuple tu its) where
 live:=λ_ _ q=>let ⟨o,ho,_⟩:=q.1;⟨o,ho⟩
 frame:=λ_ _ _ q c=>⟨let ⟨o,ho,r⟩:=q.1;⟨o,c iq '%' o ho,r⟩,let ⟨o,ho,r⟩:=q.2;⟨o,c tu '%' o ho,r⟩⟩
 item:=λi s Q E d q e=>by
  refine zV q.1 q.2 (x:=its[i]) (by simp[d]) λg b a => ?_
  exact e _ g s.toks (by simp[d]) ⟨b,let ⟨o,ho,r⟩:=q.2;⟨o,(a.2 tu hne).trans ho,r⟩⟩ a
 done:=λs Q E q f=>aB7 hh q.1 q.2 '%' f
theorem aGY(tu:Addr)(its:Array Value)(n:Nat)(dct:Option Addr)(sl:Array (Option Value)):
  Meets (Builtin.«enumerate.__new__» ⟨[.type "enumerate", .ref tu],[]⟩) (λ_ R s=>s.heap.get? tu=some {cls := .type "tuple", dict:=dct,data := .seq its n,slots:=sl} /\
   R (.ok (.ret (.ref (s.heap.push {cls := .type "tuple_iterator", data := .fields #[.ref tu, .int 0 0]}).objs.size)))
    {s with heap:=(s.heap.push {cls := .type "tuple_iterator", data := .fields #[.ref tu, .int 0 0]}).push {cls := .type "enumerate", data := .fields #[.none, .bool false, .ref s.heap.objs.size,rawInt 0, .none, .none]} }):=
 .of_wp λprog w A R s b=>by
  obtain⟨f,g,d,tk,os⟩:=s;obtain⟨hl,b⟩:=b
  have e:=sub_enumerate
  have a:Heap.IsTuple (Shared.heap ⟨f,g,d,tk,os⟩) tu its:=⟨_,hl,rfl,n,rfl⟩
  wp_walk using lz hl
  refine wpAny_stack_any λst=>wpAny_pure ?_
  split
  ·rename_i c _ _ _ _ _
   cases (c==zc "enumerate")
   ·wp_walk using lz hl,wpAny_pyIter_tuple a
    exact⟨_,rfl,b⟩
   ·wp_walk using lz hl,wpAny_pyIter_tuple a
    exact⟨_,rfl,b⟩
  ·wp_walk using lz hl,wpAny_pyIter_tuple a
   exact⟨_,rfl,b⟩
section
variable {E:Value->Shared->Prop}
theorem aEX{its:Array Value}{Q:Value->Shared->Prop}(hT:s.heap.IsTuple tu its)(kQ:∀h',IsEnum h' (s.heap.objs.size+1) s.heap.objs.size 0 .none->h'.IsTupleIter s.heap.objs.size tu 0->h'.objs.size=s.heap.objs.size+2 ->
   (∀b o,s.heap.get? b=some o->h'.get? b=some o)->Q (.ref (s.heap.objs.size+1)) {s with heap:=h' }):wpAny w.12 A (call (.type "enumerate") [.ref tu]) Q E s:=by
 obtain⟨⟨c,a,h,g⟩,hl,i,n,hd⟩:=hT
 have d:c = .type "tuple" := i
 have f:h = .seq its n:=hd
 subst d f
 refine callType_new F.called_enumerate '#' (F.typeCall_enumerate_1 _) (F.newCall_enumerate_1 _) (λobj=>F.args_object_init_2 obj _) F.entry_enumerate_new (aGY tu its n a g) ⟨hl,?_⟩
 have e:(s.heap.push {cls := .type "tuple_iterator", data := .fields #[.ref tu, .int 0 0]}).objs.size=s.heap.objs.size+1:=vg ..
 show _/\_
 rw[e]
 have he:IsEnum ((s.heap.push {cls := .type "tuple_iterator", data := .fields #[.ref tu, .int 0 0]}).push {cls := .type "enumerate", data := .fields #[.none, .bool false, .ref s.heap.objs.size,rawInt 0, .none, .none]}) (s.heap.objs.size+1) s.heap.objs.size 0 .none:=by
  have q:=qu (s.heap.push {cls := .type "tuple_iterator", data := .fields #[.ref tu, .int 0 0]}) (o:={cls := .type "enumerate", data := .fields #[.none, .bool false, .ref s.heap.objs.size,rawInt 0, .none, .none]}) rfl
  rw[e] at q;exact q
 exact⟨⟨_,he,rfl⟩,kQ _ he ⟨_,qc _ (qu _ rfl),rfl,rfl⟩ (by rw[vg,e]) λb o x=>qc _ (qc _ x)⟩
end
end PySem
namespace L2
open PySem PySem.Spec PyProof.Rows
section
theorem Inv.turnedT{T:Addr}{o:HO}(I:Inv X pins σ H s)(k:∀b ob,b∉ch->s.heap.get? b=some ob->h'.get? b=some ob)(hf:∀b∈ch,mX X pins H b)(hT:s.heap.objs.size<=T)(new:eY X.prog X.w (upd H T o) h' T o):Inv X pins σ (upd H T o) {s with heap:=h',toks:=t' }:=by
 have d:H T=none:=I.hok.fresh hT
 have f:∀b u,H b=some u->b∉ch:=λb u e z=>by rw[(hf b z).1] at e;cases e
 have ne:∀b u,s.heap.get? b=some u->b≠T:=λb u e=>q4 (qy (qv e) hT)
 refine I.step (g':=s.gens) (d':=s.drawn) (ch:=ch) (λb i => ?_) (λb ob _ _ a e _=>k b ob a e) (λb ob _ _ a e _=>⟨ob.slots,k b ob a e⟩) (λb ob _ e n=>by rw[bB (ne b ob e)];exact n)
  (λb ob a e=>⟨ob,k b ob a e⟩) (λb xs e=>by rw[bB (bM e d)];exact e) (λb ob u e=>by rw[bB (bM e d)];exact e) (λb ps e=>⟨#[],by rw[bB (bM e d),e];simp⟩) (λm hm => ?_) (λb u e => ?_) I.bare
 ·obtain⟨f0,f1,f2,h,f4,p⟩:=hf b i
  exact⟨h,f1,f4,p⟩
 ·obtain⟨ob,l,j,g,r⟩:=hm
  exact⟨ob,l,j,k _ ob (λz=>(hf _ z).2.1 rfl) g,r⟩
 ·by_cases z:b=T
  ·subst z;rw[bJ] at e;cases e;exact new
  ·rw[bB z] at e
   refine (I.hok b u e).stay (λc v a q=>k c v ?_ q) (λc q=>by rw[bB (bM q d)];exact q) λc xs q=>by rw[bB (bM q d)];exact q
   rcases a with y|y
   ·rw[y];exact f b u e
   ·exact f c _ y
theorem Inv.turnedL(I:Inv X pins σ H s)(k:∀b ob,b∉ch->s.heap.get? b=some ob->h'.get? b=some ob)(hf:∀b∈ch,mX X pins H b):Inv X pins σ H {s with heap:=h',toks:=t' }:=by
 have d:∀b u,H b=some u->b∉ch:=λb u e z=>by rw[(hf b z).1] at e;cases e
 refine I.step (g':=s.gens) (d':=s.drawn) (ch:=ch) (λb h => ?_) (λb ob _ _ a e _=>k b ob a e) (λb ob _ _ a e _=>⟨ob.slots,k b ob a e⟩) (λ_ _ _ _ n=>n)
  (λb ob a e=>⟨ob,k b ob a e⟩) (λ_ _ e=>e) (λ_ _ _ e=>e) (λb ps e=>⟨#[],by rw[e];simp⟩) (λm hm => ?_) (λb u e => ?_) I.bare
 ·obtain⟨f0,f1,f2,g,f4,l⟩:=hf b h
  exact⟨g,f1,f4,l⟩
 ·obtain⟨ob,j,i,f,r⟩:=hm
  exact⟨ob,j,i,k _ ob (λz=>(hf _ z).2.1 rfl) f,r⟩
 ·refine (I.hok b u e).stay (λc v a q=>k c v ?_ q) (λ_ q=>q) λ_ _ q=>q
  rcases a with y|y
  ·rw[y];exact d b u e
  ·exact d c _ y
noncomputable def Iet(K:qh)(a:Addr):It:=⟨λi H=>∃xs x,SqT K H a xs/\xs[i]?=some x,
 λi H v H'=>∃T x,H T=none/\v = .ref T/\H'=upd H T (.tup [.int (i:Int),x])/\∀xs,SqT K H a xs->xs[i]?=some x,λi H=>∃xs,SqT K H a xs/\xs.length=i⟩
theorem aE4{K:qh}(a e it:Addr)(hei:e≠it):
  Turn P w K (.Tuple elts kk tp) (Iet K a) [e,it] e (λi h=>(∃old,IsEnum h e it (i:Nat) old)/\h.IsTupleIter it a i) where
 mem:=by simp
 obj:=λi h st b d=>by
  obtain⟨⟨old,he⟩,o,D,M,hd⟩:=st
  rcases qp.mp d with rfl|d
  ·exact⟨_,he,λv z=>by cases z⟩
  ·rw[ql] at d
   subst d
   exact⟨o,D,λv z=>by rw[hd] at z;cases z⟩
 keep:=λi h h' st k=>by
  obtain⟨⟨old,he⟩,o,D,r⟩:=st
  exact⟨⟨old,k e '%' _ he⟩,o,k it '%' o D,r⟩
 item:=by
  intro X V hw O M i pins s σ H E I hf st S
  subst V hw O
  obtain⟨⟨old,he⟩,hit⟩:=st
  obtain⟨xs,x,G,B⟩:=S
  obtain⟨c,J,pt,hz⟩:=I.tuple G
  have f:s.heap.IsTuple a c.toArray:=pt
  have n:a≠it:=λz=>by
   obtain⟨o,l,p,_⟩:=f
   obtain⟨o2,N,F,_⟩:=hit
   rw[z,N] at l;cases l
   rw[p] at F;exact absurd F '%'
  have U:e∉[it,a]:=λz=>by
   rcases qp.mp z with y|y
   ·exact hei y
   ·rw[ql] at y
    obtain⟨o,l,p,_⟩:=f
    have j:=he
    unfold IsEnum at j
    rw[y,l] at j;cases j
    exact absurd p '%'
  have Dr:=Draws.tup (prog:=X.prog) (w:=X.w) (A:=X.A.in1) (I.ok.hd M) it a n c.toArray
  have Y:i<c.toArray.size:=by rw[qf,<- J.length];exact (zGs B).1
  refine JC Dr he ⟨hit,f⟩ Y hei U λy h1 tk hy D T hT aa hk => ?_
  refine⟨_,rfl,wpAny_letOwnedTupleGo_enum D λL R m => ?_⟩
  obtain⟨u,hu,ru⟩:=J.get B
  have ey:y=u:=by
   have e3:c[i]?=some y:=by simpa using hy
   rw[hu] at e3;exact (je e3).symm
  subst ey
  have t:s.heap.objs.size≠e:=dz (qv he)
  have C:L.get? s.heap.objs.size=some {cls := .type "tuple", data := .seq #[.int (i:Int) tk,y]}:=(m.2 _ t).trans hT
  have k2:∀b ob,b∉[e,it]->s.heap.get? b=some ob->L.get? b=some ob:=λb ob d q=>by
   have b1:b≠e:=λz=>d (by simp[z])
   have b2:b≠it:=λz=>d (by simp[z])
   exact (m.2 b b1).trans (hk b ob b1 b2 q)
  have I2:Inv X pins σ (upd H s.heap.objs.size (.tup [.int (i:Int),x])) {s with heap:=L,toks:=tk+1}:=I.turnedT k2 hf (qk _) ⟨'/',[.int (i:Int) tk,y], .cons ⟨tk,rfl⟩ (.cons ru .nil),_,C,rfl,_,rfl⟩
  have Z:H s.heap.objs.size=none:=I.hok.fresh (qk _)
  refine⟨.ref s.heap.objs.size,_,I2,rfl,⟨s.heap.objs.size,x,Z,rfl,rfl,λab q' => ?_⟩,⟨⟨_,by simpa using R⟩,?_⟩,λb d => ?_⟩
  ·rw[<- I.tuple_inj G q'];exact B
  ·obtain⟨⟨o,g,r3⟩,_⟩:=T
   exact⟨o,(m.2 it (cb hei)).trans g,r3⟩
  ·rw[bB (λz => ?_)]
   ·exact (hf b d).1
   ·rcases qp.mp d with y|y
    ·exact t (by rw[<- z,y])
    ·rw[ql] at y
     obtain⟨o,g,_⟩:=hit
     exact absurd (qv g) (by rw[<- y,z];exact x4 _)
 done:=by
  intro X V hw O M i pins s σ H E I hf st S
  subst V hw O
  obtain⟨⟨old,he⟩,hit⟩:=st
  obtain⟨xs,G,hl⟩:=S
  obtain⟨c,J,pt,hz⟩:=I.tuple G
  have f:s.heap.IsTuple a c.toArray:=pt
  have n:a≠it:=λz=>by
   obtain⟨o,l,p,_⟩:=f
   obtain⟨o2,N,F,_⟩:=hit
   rw[z,N] at l;cases l
   rw[p] at F;exact absurd F '%'
  have Dr:=Draws.tup (prog:=X.prog) (w:=X.w) (A:=X.A.in1) (I.ok.hd M) it a n c.toArray
  have Z:c.toArray.size=i:=by rw[qf,<- J.length];exact hl
  subst Z
  refine JP Dr he ⟨hit,f⟩ λL B=>⟨rfl,I.turnedL (t':=s.toks) (ch:=[it]) (λb ob d q=>B b ob (λz=>d (by simp[z])) q) λb d=>hf b ?_⟩
  rw[ql] at d
  rw[d];simp
 self:=λA i s Q E st h=>by
  obtain⟨⟨old,he⟩,_⟩:=st
  exact gm he h
noncomputable def aS1(K:qh)(ta:TA):TI:=λσ H R=>ta σ H λvs H1=>∃a,vs=[.ref a]/\(∃xs,SqT K H1 a xs)/\R (Iet K a) H1
theorem aL5{a:Expr}{ta:TA}{p:Pos}(hg:Gl X "enumerate")(hm:X.mg "enumerate" = none)(hv:kh "enumerate" = some (.type "enumerate"))(ha:PA X [a] ta)(hs:jk [a] X.env=[(false,eval a X.env)]:=by rfl):
  PI X (.Tuple elts kk tp) (.Call (.Name "enumerate" p) [a] [] pos) (aS1 X.K ta):=by
 intro pins s σ H R I h
 refine Call_ (mZ I hg hm hv (xq (thn (ha pos pins s σ H _ I h) λus s1 ⟨vs,H1,I1,r1,m⟩ => ?_) hs rfl))
 obtain⟨b,e,⟨xs,j⟩,q⟩:=m
 subst e
 obtain⟨u,rfl,g⟩:=vals1 r1
 cases g
 obtain⟨f,r,pt,o⟩:=I1.tuple j
 refine aEX (show s1.heap.IsTuple b f.toArray from pt) λn he l i k => ?_
 have I2:Inv X pins σ H1 {s1 with heap:=n}:=I1.kept (t':=s1.toks) k
 refine gm he ?_
 refine⟨_,[s1.heap.objs.size+1,s1.heap.objs.size],_,Iet X.K b,H1,rfl,I2,aE4 b _ _ (KA _),⟨⟨_,he⟩,l⟩,λc d => ?_,q⟩
 rcases qp.mp d with rfl|d
 ·exact I1.fpOk (br _) (I1.hok.fresh (br _))
 ·rw[ql] at d
  subst d
  exact I1.fpOk (qk _) (I1.hok.fresh (qk _))
end
end L2
namespace Z
open PySem L2
section
variable {a b:Expr}{rest:List Expr}
noncomputable def gA(ds:List D):List D:=ds.mapIdx λi d => .tup [.int (i:Int),d]
theorem aKP{K:Fg}{a:Addr}{vs:List V}(s:SqT K G0 a vs)(dn:Dens K G0 ds vs):YD K (Iet K a) (gA ds) G0 where
 go:=λi G H M sg b h=>by
  have g:i<vs.length:=by rw[<- dn.len];simpa[gA] using h
  exact⟨vs,vs[i],R.eP b.same (R.eP sg s),by simp[g]⟩
 yld:=λi G H M x H' sg b h y=>by
  obtain⟨T,v,f,rfl,rfl,j⟩:=y
  have c:=j vs (R.eP b.same (R.eP sg s))
  obtain⟨d,hd,e⟩:=dn.get' c
  have st:=b.new (o := .tup [.int (i:Int),v]) f
  exact⟨_, .tup [.int (i:Int),d],st,by simp[gA,hd],iA (SqT.of bJ) (cD cP (cD ((e.up sg).up st.gg) cZ))⟩
 stop:=λi G H M sg b h=>⟨vs,R.eP b.same (R.eP sg s),by rw[<- dn.len];simpa[gA] using h.symm⟩
theorem aOC{p:Pos}(hm:X.mg "enumerate" = none)(hv:kh "enumerate" = some (.type "enumerate"))(h:GA X [a] Γ M λds M1=>∃es,ds=[.tup es]/\ki (gA es) M1)(hg:Gl X "enumerate" := by rfl)(hs:jk [a] X.env=[(false,eval a X.env)]:=by rfl):
  GI X (.Tuple elts kk tp) (.Call (.Name "enumerate" p) [a] [] pos) Γ M ki:=λσ G H Rr d f q=>by
 refine oN (aL5 hg hm hv pUA hs) ?_
 refine h σ G H _ d f λvs G1 H1 ds M1 s1 g ⟨es,c,e⟩ => ?_
 subst c
 obtain⟨v,rfl,dv⟩:=dens1 g
 obtain⟨b,ws,rfl,sq,dn⟩:=dv.tup_
 exact⟨b,rfl,⟨ws,R.eP s1.rel.same sq⟩,q _ _ _ _ _ s1 (aKP sq dn) e⟩
end
end Z
namespace Z
open PySem L2
noncomputable def Fo(P:Program)(w:World)(K:qh)(mg:Str->Option Value)(base:Heap)(x:Str)(st:Stmt)(ps:List Str)(n:Nat)(c:Ct):Prop:=∃f fd,R.Df K mg x st ps f fd/\FnOk P w K mg base CX0 n f fd ps (spZ K c)
theorem aL{p:Pos}{ps:List Str}{c:Ct}(g:Fo X.prog X.w X.K X.mg X.base x st ps n c)(hr:Room j X.A)(h:GA X (e::es) Γ M λds M1=>c ds M1 k)(hn:n<=j:=by decide)(hg:Gl X x:=by rfl)(hdb:(x==("__debug__" : Str))=false:=by decide)(he:jk (e::es) X.env=(false,eval e X.env)::jk es X.env:=by rfl)(hpl:(dh pos (jk es X.env)).any (·.1)=false:=by rfl):
  GE X (.Call (.Name x p) (e::es) [] pos) Γ M k:=by
 obtain⟨f,fd,D,G⟩:=g
 exact aQB G (hr.mono hn) D.m D.F.kp D.b h hg hdb he hpl
end Z
namespace R
open PySem L2
theorem tP{α:Type}(f:Nat->α):∀p,f p≠f 0->∃k,k<p/\f k≠f (k+1)/\f (k+1)=f p
 |0,h=>absurd rfl h
 |p+1,h=>by
  by_cases e:f p=f (p+1)
  ·obtain⟨k,c,a,b⟩:=tP f p (by rw[e];exact h)
   exact⟨k,by lia,a,b.trans e⟩
  ·exact⟨p,by lia,e,rfl⟩
theorem aAR(s:l.Pairwise (· < ·)){a b:Nat}(ha:a∈l)(hb:b∈l)(h:a<b):a∈l.dropLast:=by
 have c:l≠[]:=λe=>by rw[e] at ha;cases ha
 have e:=pz c
 rw[<- e] at ha hb s
 rw[vo] at s
 rcases jf.mp ha with ha|ha
 ·exact ha
 ·rw[ql] at ha
  rcases jf.mp hb with hb|hb
  ·have:=s.2.2 b hb _ (List.mem_singleton_self _)
   lia
  ·rw[ql] at hb
   lia
theorem row_kept(h:∀z∈zs,z.length=n){z:Str}(hz:z∈zs):z=dots n\/z∈aS zs:=by
 by_cases hd:z=dots n
 ·exact .inl hd
 refine .inr ?_
 obtain⟨p,b,m⟩:=jr hz
 have a:zs≠[]:=λe=>by rw[e] at hz;cases hz
 have hw:=cS h a
 have f0:(framed zs)[0]?=some (dots n):=by rw[fT,hw]
 have fl:(framed zs)[zs.length+1]?=some (dots n):=by rw[eB,hw]
 have c:(framed zs)[p+1]?=some z:=by rw[cT b,zGe b,m]
 have ne:∀{o:Option Str},o=some (dots n)->(framed zs)[p+1]?≠o:=λe q=>hd (by rw[c,e] at q;injection q)
 obtain⟨k,s,l,d⟩:=tP (λi=>(framed zs)[i]?) (p+1) (ne f0)
 obtain⟨j,r,t,f⟩:=jO (λi=>(framed zs)[i]?) (zs.length-p) (p+1) (by
  show (framed zs)[p+1]?≠(framed zs)[p+1+(zs.length-p)]?
  rw[show p+1+(zs.length-p)=zs.length+1 by lia];exact ne fl)
 have mk:k∈chg zs:=(fM a).mpr ⟨by lia,l⟩
 have g:j∈chg zs:=(fM a).mpr ⟨by lia,f⟩
 have:=aAR (cG zs) mk g '!'
 refine qo.mpr ⟨k,this,?_⟩
 have e:(framed zs)[k+1]?=some z:=d.trans c
 rw[cT '!'] at e
 rw[zGd,e];rfl
theorem aB4(h:∀z∈zs,z=dots n):chg zs=[]:=by
 by_cases c:zs=[]
 ·rw[c];simp[chg]
 have hl:∀z∈zs,z.length=n:=λz f=>by rw[h z f,tW]
 have hw:=cS hl c
 have all:∀i,i<=zs.length+1->(framed zs)[i]?=some (dots n):=λi e=>by
  rcases z8 i with rfl|g
  ·rw[fT,hw]
  ·obtain⟨j,rfl⟩:∃j,i=j+1:=⟨i-1,by lia⟩
   by_cases d:j<zs.length
   ·rw[cT d,zGe d,h _ (ke d)]
   ·rw[show j=zs.length by lia,eB,hw]
 refine List.eq_nil_iff_forall_not_mem.mpr λi e => ?_
 obtain⟨a,b⟩:=(fM c).mp e
 exact b (by rw[all i '!',all (i+1) '!'])
theorem yM(h:∀z∈zs,z.length=n)(hr:aS zs=[]):chg zs=[]/\chg (aK zs)=[]:=by
 have hd:∀z∈zs,z=dots n:=λz e=>(row_kept h e).elim id λq=>by rw[hr] at q;cases q
 refine⟨aB4 hd,aB4 (n:=zs.length) λc g => ?_⟩
 obtain⟨j,a,rfl⟩:=qo.mp g
 rw[vb] at a
 by_cases d:zs=[]
 ·rw[d] at a;simp at a
 rw[cS h d] at a
 unfold dots ofL
 congr 2
 refine QW.mpr ⟨by simp,λb f => ?_⟩
 obtain⟨z,e,rfl⟩:=qo.mp f
 rw[hd z e,mB,if_pos a]
noncomputable def vD(n i:Nat)(z:Str):Nat:=if i=0\/i=n+1 then 46 else atS z (i-1)
theorem c6(h:∀z∈zs,z.length=n)(hz:zs≠[]):(aK zs).length=n:=by
 unfold aK;rw[cS h hz];simp
theorem iH(h:∀z∈zs,z.length=n)(hz:zs≠[])(hn:0<n)(hi:i<=n+1):(framed (aK zs))[i]?=some (ofL (zs.map (vD n i))):=by
 have a:=c6 h hz
 have b:aK zs≠[]:=λe=>by rw[e] at a;simp at a;lia
 have hw:((aK zs).head?.map (·.length)).getD 0=zs.length:=cS (λc a=>gM c a) b
 have hd:dots zs.length=ofL (zs.map λ_=>46):=by
  unfold dots;rw[List.map_const']
 rcases z8 i with rfl|f
 ·rw[fT,hw,hd];rfl
 ·obtain⟨j,rfl⟩:∃j,i=j+1:=⟨i-1,by lia⟩
  by_cases d:j<n
  ·rw[cT '!',jB h hz d]
   congr 2
   apply kz
   intro z _
   unfold vD
   rw[if_neg '!'];rfl
  ·have e:j=(aK zs).length:=by lia
   rw[e,eB,hw,hd]
   congr 2
   apply kz
   intro z _
   unfold vD
   rw[if_pos '!']
theorem wK{f g:Str->Nat}:(some (ofL (zs.map f))=some (ofL (zs.map g)))↔∀z∈zs,f z=g z:=by
 constructor
 ·intro e
  injection e with e
  unfold ofL at e
  injection e with e
  have e:zs.map f=zs.map g:=by injection e
  exact λz a=>(List.map_inj_left.mp e) z a
 ·intro e
  rw[kz e]
theorem q0(h:∀z∈zs,z.length=n)(hr:aS zs≠[]):chg (aK (aS zs))=chg (aK zs):=by
 have a:zs≠[]:=λe=>by subst e;exact hr (by simp[aS,chg])
 have c:∀z∈aS zs,z.length=n:=λz q=>h z (kW z q)
 rcases z8 n with rfl|b
 ·have k:aK zs=[]:=v8.mp (c6 h a)
  have g:aK (aS zs)=[]:=v8.mp (c6 c hr)
  rw[k,g]
 ·have f:=c6 h a
  have d:=c6 c hr
  have m:(aK zs).isEmpty=false:=by cases hc:aK zs with
   |nil=>rw[hc] at f;simp at f;lia
   |cons _ _=>rfl
  have j:(aK (aS zs)).isEmpty=false:=by cases hc:aK (aS zs) with
   |nil=>rw[hc] at d;simp at d;lia
   |cons _ _=>rfl
  unfold chg
  rw[m,j,f,d,if_neg zBf,if_neg zBf]
  apply bp
  intro i l
  rw[vb] at l
  rw[iH h a b '!',iH h a b '!',iH c hr b '!',iH c hr b '!']
  congr 1
  apply decide_eq_decide.mpr
  rw[wK,wK]
  constructor
  ·intro q z a
   rcases row_kept h a with rfl|a
   ·unfold vD
    rw[mB,mB]
    split <;> split <;> (try split) <;> (try split) <;> first|rfl|lia
   ·exact q z a
  ·exact λq z a=>q z (kW z a)
theorem qT(h:Good n zs)(hr:aS zs≠[]):aK (aS (aK (aS zs)))=cH zs:=by
 have g1:=jK h
 have hl:∀z∈aS zs,z.length=n:=λz a=>(g1 z a).1
 obtain⟨k,wf,le⟩:=aNF h hr
 have d:=q0 (λz a=>(h z a).1) hr
 have lt:∀j∈(chg (aK (aS zs))).dropLast,j<n:=λj c=>by
  have:=j6 (cG _) (eX _) j c
  rw[c6 hl hr] at this
  exact this
 have g:aS (aK (aS zs))=(chg (aK (aS zs))).dropLast.map λj=>ofL ((aS zs).map (atS · j)):=by
  show gC _ _=_
  apply kz
  intro j c
  rw[zGd,jB hl hr (lt j c)];rfl
 have i:aS (aK (aS zs))≠[]:=λq=>by
  have:=fE (aK (aS zs))
  rw[q] at this
  simp at this
  lia
 have hw:((aS (aK (aS zs))).head?.map (·.length)).getD 0=(aS zs).length:=cS (λz a=>gM z (kW z a)) i
 have e:cH zs=(aS zs).map λz=>ofL ((chg (aK (aS zs))).dropLast.map (atS z)):=by
  rw[d];unfold aS cH;rw[ve];rfl
 rw[e]
 show (q7 (((aS (aK (aS zs))).head?.map (·.length)).getD 0)).map (λj=>ofL ((aS (aK (aS zs))).map (atS · j)))=_
 rw[hw,g]
 apply List.ext_getElem
 ·simp
 ·intro r b f
  rw[zLm,j3] at b
  rw[nz,nz,JI,ve]
  congr 1
  apply kz
  intro j _
  show atS (ofL ((aS zs).map (atS · j))) r=_
  rw[l8,zGd,qg,zGe b];rfl
abbrev Cell:=List Int
noncomputable def oK(zs:List Str)(inside:Bool)(nx ny:Nat):List Cell:=(q7 (ny+1)).flatMap λ(u:Nat)=>(q7 (nx+1)).filterMap λ(a:Nat)=>if aJ zs ((a:Int)-1) ((u:Int)-1)=inside then some [(a:Int)-1,(u:Int)-1] else none
noncomputable def b6(zs:List Str)(w:Nat):List Cell:=(q7 zs.length).flatMap λ(u:Nat)=>(q7 w).filterMap λ(a:Nat)=>if aJ zs (a:Int) (u:Int)=true then some [(a:Int),(u:Int)] else none
inductive Rch(cells:List Cell)(st:List (Int×Int))(s:Cell):Cell->Prop
 |refl:Rch cells st s s
 |step {x y:Int}{d:Int×Int}:Rch cells st s [x,y]->d∈st->[x+d.1,y+d.2]∈cells->Rch cells st s [x+d.1,y+d.2]
theorem Rch.mono{cells:List Cell}{st st':List (Int×Int)}(hst:∀d∈st,d=(0,0)\/d∈st'){s c:Cell}(h:Rch cells st s c):Rch cells st' s c:=by
 induction h with
 |refl=>exact .refl
 |@step x y d _ hd m ih =>
  rcases hst d hd with rfl|hd
  ·show Rch cells st' s [x+0,y+0]
   rw[VG,VG];exact ih
  ·exact .step ih hd m
open Classical in
noncomputable def starts(cells:List Cell)(st:List (Int×Int)):Nat->List Cell
 |0=>[]
 |i+1=>match cells[i]? with
  |some c=>if ∃s∈starts cells st i,Rch cells st s c then starts cells st i else starts cells st i++[c]
  |none=>starts cells st i
theorem lF(cells:List Cell)(st:List (Int×Int)):∀i,(starts cells st i).length<=i
 |0=>qk _
 |i+1=>by
  have a:=lF cells st i
  simp only[starts]
  split
  ·split
   ·lia
   ·rw[qe,za];lia
  ·lia
noncomputable def rowsOf(f:Int->Int->Bool)(w h:Nat):List Str:=(q7 h).map λ(u:Nat)=>ofL ((q7 w).map λ(a:Nat)=>sg (f (a:Int) (u:Int)))
theorem still(hz:zs≠[]){a b:Nat}(hab:a<=b)(hb:b<=zs.length+1)(hn:∀c∈chg zs,¬(a<=c/\c<b)):(framed zs)[a]?=(framed zs)[b]?:=by
 refine qz λq => ?_
 obtain⟨k,d,f,e⟩:=jO (λi=>(framed zs)[i]?) (b-a) a (by rw[show a+(b-a)=b by lia];exact q)
 exact hn k ((fM hz).mpr ⟨by lia,e⟩) ⟨d,by lia⟩
theorem qZ{c d:Nat}(hi:(chg zs)[i]?=some c)(hj:(chg zs)[j]?=some d)(h:i<j):c<d:=by
 obtain⟨e,f⟩:=zGs hi
 obtain⟨a,b⟩:=zGs hj
 have:=jj.mp (cG zs) i j e a h
 rw[f,b] at this;exact this
theorem aA6{c d e:Nat}(hi:(chg zs)[i]?=some c)(hj:(chg zs)[i+1]?=some d)(he:e∈chg zs)(h:c<e):d<=e:=by
 obtain⟨k,g,f⟩:=jr he
 have a:(chg zs)[k]?=some e:=by rw[zGe g,f]
 by_cases j:k<=i
 ·by_cases b:k=i
  ·subst b;rw[hi] at a;cases a;lia
  ·have:=qZ a hi '!';lia
 ·by_cases b:k=i+1
  ·subst b;rw[hj] at a;cases a;lia
  ·have:=qZ hj a '!';lia
theorem yI{c e:Nat}(hi:(chg zs)[0]?=some c)(he:e∈chg zs):c<=e:=by
 obtain⟨k,d,b⟩:=jr he
 have a:(chg zs)[k]?=some e:=by rw[zGe d,b]
 by_cases h:k=0
 ·subst h;rw[hi] at a;cases a;lia
 ·have:=qZ hi a '!';lia
theorem aH2{c e:Nat}(hi:(chg zs)[(chg zs).length-1]?=some c)(he:e∈chg zs):e<=c:=by
 obtain⟨k,d,b⟩:=jr he
 have a:(chg zs)[k]?=some e:=by rw[zGe d,b]
 by_cases h:k=(chg zs).length-1
 ·subst h;rw[hi] at a;cases a;lia
 ·have:=qZ a hi '!';lia
theorem aAG{c:Nat}(hi:(chg zs)[i]?=some c)(h:i+1<(chg zs).length):(aS zs)[i]?=zs[c]?/\c<zs.length:=by
 have hd:(chg zs).dropLast[i]?=some c:=by rw[gi,if_pos '!'];exact hi
 have hl:=j6 (cG zs) (eX zs) c (zMo hd)
 unfold aS
 rw[qg,hd,wx,zGd,zGe hl]
 exact⟨rfl,hl⟩
theorem aAN(h:∀z∈zs,z.length=n)(hr:aS zs≠[]):chg (aS zs)=q7 (chg zs).length:=by
 have w:chg zs≠[]:=λe=>hr (by unfold aS;rw[e];rfl)
 have d:zs≠[]:=rY zs w
 have v:=fE zs
 have s:1<=(aS zs).length:=ye.mpr hr
 have u:∀z∈aS zs,z.length=n:=λz d=>h z (kW z d)
 have t:=cS h d
 have r:=cS u hr
 have f0:=fT zs
 have fl:=eB zs
 have q:=fT (aS zs)
 have gl:=eB (aS zs)
 rw[t] at f0 fl
 rw[r] at q gl
 have A:∀i c,(chg zs)[i]?=some c->(framed (aS zs))[i]?=(framed zs)[c]?:=λi c a=>by
  have j:=(zGs a).1
  have l:=eX zs c (zMo a)
  cases i with
  |zero =>
   rw[q,<- f0]
   exact still d (k3 _) '!' λe he z=>by have:=yI a he;lia
  |succ i =>
   obtain⟨b,m⟩:∃b,(chg zs)[i]?=some b:=⟨(chg zs)[i],zGe '!'⟩
   obtain⟨p,o⟩:=aAG m '!'
   have lt:=qZ m a (xw i)
   rw[cT '!',p,<- cT o]
   exact still d '!' '!' λe he z=>by have:=aA6 m a he '!';lia
 have B:∀i c,(chg zs)[i]?=some c->(framed (aS zs))[i+1]?=(framed zs)[c+1]?:=λi c a=>by
  have j:=(zGs a).1
  have l:=eX zs c (zMo a)
  by_cases f:i+1<(chg zs).length
  ·obtain⟨p,o⟩:=aAG a f
   rw[cT '!',p,<- cT o]
  ·have x:i=(chg zs).length-1:=by lia
   rw[show i+1=(aS zs).length+1 by lia,gl,<- fl]
   exact (still d '!' (qk _) λe he z=>by have:=aH2 (x▸a) he;lia).symm
 have:chg (aS zs)=(q7 ((aS zs).length+1)).filter λi => !decide ((framed (aS zs))[i]?=(framed (aS zs))[i+1]?):=by
  unfold chg
  rw[if_neg (by rw[List.isEmpty_iff];exact hr)]
 rw[this,show (aS zs).length+1=(chg zs).length by lia]
 refine Jp.mpr λi a => ?_
 have j:=vb.mp a
 have g:(chg zs)[i]?=some (chg zs)[i]:=zGe j
 have k:=((fM d).mp (zMo g)).2
 rw[<- A i _ g,<- B i _ g] at k
 rw[decide_eq_false k];rfl
theorem qJ(h:∀z∈zs,z.length=n)(hz:zs≠[])(hn:0<n):aK (aK zs)=zs:=by
 have d:(aK zs).length=n:=c6 h hz
 have a:aK zs≠[]:=λe=>by rw[e] at d;simp at d;lia
 have b:∀z∈aK zs,z.length=zs.length:=λz hz=>gM z hz
 have k:0<zs.length:=ye.mpr hz
 have f:=c6 b a
 apply v3
 intro i
 by_cases c:i<zs.length
 ·rw[jB b a c,zGe c]
  congr 1
  apply jA
  show (aK zs).map (atS · i)=zs[i].cps.toList
  apply v3
  intro j
  have hl:=h zs[i] (ke c)
  by_cases g:j<n
  ·rw[qg,jB h hz g,wx,dB '!',l8,zGd,qg,zGe c]
   rfl
  ·rw[qw (by rw[zLm];lia),qw (by rw[qt];have:zs[i].cps.size=zs[i].length:=rfl;lia)]
 ·rw[qw '!',qw '!']
theorem aFW(h:Good n zs)(hr:aS zs≠[]):
  chg (cH zs)=q7 (chg zs).length/\chg (aK (cH zs))=q7 (chg (aK zs)).length/\cH zs≠[]/\Good ((chg (aK zs)).length-1) (cH zs)/\2<=(chg (aK zs)).length/\2<=(chg zs).length:=by
 have hl:∀z∈zs,z.length=n:=λz b=>(h z b).1
 have f:=jK h
 have g:∀z∈aS zs,z.length=n:=λz b=>(f z b).1
 obtain⟨B,j,i⟩:=sV hl hr
 obtain⟨A,w,_⟩:=aBR f j i
 have q:0<n:=by lia
 have m:=aAN hl hr
 have l:=q0 hl hr
 have r:=oA f
 have d:∀z∈aK (aS zs),z.length=(aS zs).length:=λz b=>(r z b).1
 have cne:aK (aS zs)≠[]:=λe=>by have:=c6 g hr;rw[e] at this;simp at this;lia
 have a:aS (aK (aS zs))≠[]:=λe=>by
  have k:=(yM d e).2
  rw[qJ g hr q,m] at k
  have p:(chg zs).length=0:=by simpa using congrArg ra k
  have:=fE zs
  exact hr (v8.mp '!')
 have v:=aAN d a
 have o:=jK r
 have u:∀z∈aS (aK (aS zs)),z.length=(aS zs).length:=λz b=>(o z b).1
 have x:0<(aS zs).length:=ye.mpr hr
 have c:=q0 d a
 rw[qJ g hr q,m,qT h hr] at c
 have t:aK (cH zs)=aS (aK (aS zs)):=by rw[<- qT h hr];exact qJ u a x
 have s:=fE (aK (aS zs))
 have C:0<(aS (aK (aS zs))).length:=ye.mpr a
 have y:=fE zs
 rw[l] at s
 refine⟨c,by rw[t,v,l],λe => ?_,?_,by lia,by lia⟩
 ·rw[e] at c
  have p:=congrArg ra c
  rw[j3,show (chg ([]:List Str)).length=0 from rfl] at p
  lia
 ·rw[<- qT h hr]
  have:=oA o
  rw[s] at this
  exact this
theorem aDW{r c d:Nat}(hj:j<zs.length)(h1:(chg zs)[r]?=some c)(h2:(chg zs)[r+1]?=some d)(hc:c<=j)(hd:j<d):zs[j]?=zs[c]?:=by
 have a:zs≠[]:=λe=>by rw[e] at hj;simp at hj
 rw[<- cT hj,<- cT (show c<zs.length by lia)]
 exact (still a '!' '!' λe he z=>by have:=aA6 h1 h2 he '!';lia).symm
theorem zY(h:∀z∈zs,z.length=n)(hj:j<zs.length)(hn:∀r c d,(chg zs)[r]?=some c->(chg zs)[r+1]?=some d->¬(c<=j/\j<d)):zs[j]?=some (dots n):=by
 have f:zs≠[]:=λe=>by rw[e] at hj;simp at hj
 have w:=cS h f
 have f0:=fT zs
 have fl:=eB zs
 rw[w] at f0 fl
 rw[<- cT hj]
 by_cases a:∀e∈chg zs,j<e
 ·rw[<- f0]
  exact (still f (k3 _) '!' λe he z=>by have:=a e he;lia).symm
 ·have h0:∀(r c:Nat),(chg zs)[r]?=some c->c<=j:=λr=>by
   induction r with
   |zero =>
    intro c b
    refine qz λq=>a λe he => ?_
    have:=yI b he;lia
   |succ r ih =>
    intro d hd
    have l:=(zGs hd).1
    have b:(chg zs)[r]?=some (chg zs)[r]:=zGe '!'
    have:=hn r _ d b hd
    have:=ih _ b
    lia
  rw[<- fl]
  refine still f '!' (qk _) λe he z => ?_
  obtain⟨k,i,g⟩:=jr he
  have:=h0 k e (by rw[zGe i,g])
  lia
theorem aNO{r c:Nat}(hr:(chg zs)[r]?=some i)(hr1:r+1<(chg zs).length)(hc:(chg (aK zs))[c]?=some j)(hc1:c+1<(chg (aK zs)).length){z:Str}(hz:zs[i]?=some z):∃y,(cH zs)[r]?=some y/\atS y c=atS z j:=by
 have b:(chg zs).dropLast[r]?=some i:=by rw[gi,if_pos '!'];exact hr
 have a:(chg (aK zs)).dropLast[c]?=some j:=by rw[gi,if_pos '!'];exact hc
 unfold cH
 rw[qg,b]
 refine⟨_,rfl,?_⟩
 rw[l8,zGd,qg,a,zGd,hz]
 rfl
theorem aTG(h:∀z∈zs,z.length=n){c k d:Nat}(hk:k<n)(h1:(chg (aK zs))[c]?=some i)(h2:(chg (aK zs))[c+1]?=some d)(hc:i<=k)(hd:k<d):∀z∈zs,atS z k=atS z i:=λz b=>by
 have a:zs≠[]:=λe=>by rw[e] at b;cases b
 have hl:=c6 h a
 have:=aDW (zs:=aK zs) '!' h1 h2 hc hd
 rw[jB h a hk,jB h a '!'] at this
 exact wK.mp this z b
theorem aN7(h:∀z∈zs,z.length=n){k:Nat}(hk:k<n)(hn:∀r c d,(chg (aK zs))[r]?=some c->(chg (aK zs))[r+1]?=some d->¬(c<=k/\k<d)):∀z∈zs,atS z k=46:=λz b=>by
 have a:zs≠[]:=λe=>by rw[e] at b;cases b
 have hl:=c6 h a
 have:=zY (zs:=aK zs) (λz b=>gM z b) (j:=k) '!' hn
 rw[jB h a hk] at this
 have e:ofL (zs.map (atS · k))=dots zs.length:=by injection this
 obtain⟨i,g,rfl⟩:=jr b
 have f:=congrArg (λs=>atS s i) e
 simp only[l8,mB,if_pos g] at f
 rw[zGd,qg,zGe g] at f
 exact f
noncomputable def dL(C:List Nat)(k:Int):Nat:=(C.filter λ(i:Nat)=>decide ((i:Int)<=k)).length
noncomputable def bd(C:List Nat)(k:Int):Int:=(dL C k:Int)-1
theorem wL{k:Int}:∀{C:List Nat},C.Pairwise (· < ·)->∀{i c:Nat},C[i]?=some c->((c:Int)<=k↔i<dL C k)
 |[],_,i,c,h=>by simp at h
 |a::l,hs,i,c,h=>by
  obtain⟨d,f⟩:=jt.mp hs
  unfold dL
  by_cases b:(a:Int)<=k
  ·rw[vf (by simpa using b),ja]
   cases i with
   |zero=>simp at h;subst h;exact⟨λ_=>by lia,λ_=>b⟩
   |succ i =>
    have:=wL (k:=k) f (i:=i) (c:=c) (by simpa using h)
    unfold dL at this
    rw[this];lia
  ·rw[wa (by simpa using b)]
   have e:l.filter (λ(i:Nat)=>decide ((i:Int)<=k))=[]:=yf.mpr λx g=>by have:=d x g;simp;lia
   rw[e]
   cases i with
   |zero=>simp at h;subst h;exact⟨λz=>absurd z b,λz=>by simp at z⟩
   |succ i =>
    have:=d c (zMo (i:=i) (by simpa using h))
    exact⟨λz=>by lia,λz=>by simp at z⟩
theorem aH6(C:List Nat)(k:Int):dL C k<=C.length:=yk _ _
theorem aNK(g:Good n zs)(k j:Int):aJ (cH zs) (bd (chg (aK zs)) k) (bd (chg zs) j)=aJ zs k j:=by
 have h:∀z∈zs,z.length=n:=λz l=>(g z l).1
 have W:(cH zs).length=(chg zs).length-1:=by unfold cH;rw[zLm,vc]
 have kw:∀z∈cH zs,z.length=(chg (aK zs)).length-1:=λz l=>by
  unfold cH at l
  obtain⟨i,_,rfl⟩:=qo.mp l
  rw[jT,zLm,vc]
 have Q:=aH6 (chg zs) j
 have V:=aH6 (chg (aK zs)) k
 have a:=λ{i c}=>wL (k:=j) (cG zs) (i:=i) (c:=c)
 have b:=λ{i c}=>wL (k:=k) (cG (aK zs)) (i:=i) (c:=c)
 unfold bd
 -- the row is none: both are out
 by_cases R:0<dL (chg zs) j/\dL (chg zs) j<(chg zs).length
 rotate_left
 ·have lhs:aJ (cH zs) ((dL (chg (aK zs)) k:Int)-1) ((dL (chg zs) j:Int)-1)=false:=by
   by_cases h0:dL (chg zs) j=0
   ·exact dN '!'
   ·exact eA '!'
  rw[lhs]
  symm
  by_cases A:j<0
  ·exact dN A
  by_cases x:(zs.length:Int)<=j
  ·exact eA x
  obtain⟨m,rfl⟩:∃m:Nat,j=(m:Int):=⟨j.toNat,by lia⟩
  have hd:=zY h (j:=m) '!' λr c d v s M=>by
   have a1:=a v
   have a2:=a s
   have hl2:=(zGs s).1
   lia
  by_cases o:k<0
  ·exact cY o
  obtain⟨q,rfl⟩:∃q:Nat,k=(q:Int):=⟨k.toNat,by lia⟩
  by_cases u:n<=q
  ·exact kA (z:=dots n) (by rw[qm];exact hd) (by rw[tW];lia)
  ·rw[fI (z:=dots n) (c:=46) '!' '!' (by rw[qm];exact hd) (by rw[qm,dB (by rw[tW];lia),mB,if_pos '!'])]
   rfl
 obtain⟨r,O⟩:∃r,dL (chg zs) j=r+1:=⟨dL (chg zs) j-1,by lia⟩
 have N:(((dL (chg zs) j:Nat):Int)-1)=(r:Int):=by lia
 have g1:(chg zs)[r]?=some (chg zs)[r]:=zGe '!'
 have g2:(chg zs)[r+1]?=some (chg zs)[r+1]:=zGe '!'
 have P:=(a g1).mpr '!'
 have U:=a g2
 have hd2:=eX _ _ (zMo g2)
 obtain⟨m,rfl⟩:∃m:Nat,j=(m:Int):=⟨j.toNat,by lia⟩
 have hm:m<zs.length:=by lia
 have F:=aDW hm g1 g2 '!' '!'
 obtain⟨z,l⟩:∃z,zs[m]?=some z:=⟨zs[m],zGe hm⟩
 rw[l] at F
 have f:=zMo l
 have t:r<(cH zs).length:=by lia
 have w:(cH zs)[r]?=some (cH zs)[r]:=zGe t
 have G:=kw _ (ke t)
 rw[N]
 by_cases X:0<dL (chg (aK zs)) k/\dL (chg (aK zs)) k<(chg (aK zs)).length
 rotate_left
 ·have lhs:aJ (cH zs) ((dL (chg (aK zs)) k:Int)-1) (r:Int)=false:=by
   by_cases h0:dL (chg (aK zs)) k=0
   ·exact cY '!'
   ·exact kA (z:=(cH zs)[r]) (by rw[qm];exact w) '!'
  rw[lhs]
  symm
  by_cases o:k<0
  ·exact cY o
  obtain⟨q,rfl⟩:∃q:Nat,k=(q:Int):=⟨k.toNat,by lia⟩
  by_cases u:n<=q
  ·exact kA (z:=z) (by rw[qm];exact l) (by rw[h z f];lia)
  ·have:=aN7 h (k:=q) '!' (λr c d v s M=>by
    have a1:=b v
    have a2:=b s
    have hl2:=(zGs s).1
    lia) z f
   rw[fI (z:=z) (c:=46) '!' '!' (by rw[qm];exact l) (by rw[qm,dB (by rw[h z f];lia),this])]
   rfl
 obtain⟨c,L⟩:∃c,dL (chg (aK zs)) k=c+1:=⟨dL (chg (aK zs)) k-1,by lia⟩
 have I:(((dL (chg (aK zs)) k:Nat):Int)-1)=(c:Int):=by lia
 have f1:(chg (aK zs))[c]?=some (chg (aK zs))[c]:=zGe '!'
 have f2:(chg (aK zs))[c+1]?=some (chg (aK zs))[c+1]:=zGe '!'
 have S:=(b f1).mpr '!'
 have T:=b f2
 have B:zs≠[]:=λe=>by rw[e] at hm;simp at hm
 have K:=c6 h B
 have H:=eX _ _ (zMo f2)
 obtain⟨q,rfl⟩:∃q:Nat,k=(q:Int):=⟨k.toNat,by lia⟩
 have D:q<n:=by lia
 obtain⟨y,E,J⟩:=aNO g1 '!' f1 '!' F.symm
 have p:=aTG h (k:=q) D f1 f2 '!' '!' z f
 have C:=kw y (zMo E)
 rw[I,fI (z:=y) (c:=atS y c) '!' '!' (by rw[qm];exact E) (by rw[qm];exact dB '!'),
  fI (z:=z) (c:=atS z q) '!' '!' (by rw[qm];exact l) (by rw[qm];exact dB (by rw[h z f];exact D)),J,p]
theorem jY{K:List Str}{a u:Int}:aJ K a u=true↔0<=u/\0<=a/\∃z,K[u.toNat]?=some z/\z.cps.toList[a.toNat]?=some 35:=by
 unfold aJ
 rw[qx,qx,decide_eq_true_eq,decide_eq_true_eq,beq_iff_eq]
 constructor
 ·rintro⟨⟨d,c⟩,f⟩
  obtain⟨z,b,e⟩:=fg.mp f
  exact⟨d,c,z,b,e⟩
 ·rintro⟨d,c,z,b,e⟩
  exact⟨⟨d,c⟩,fg.mpr ⟨z,b,e⟩⟩
end R
namespace U
open PySem
abbrev Up(ws:List Rat):Prop:=ws.Pairwise (· < ·)
noncomputable def ix(ws:List Rat)(x:Rat):Int:=((ws.filter λw=>decide (w<=x)).length:Int)-1
theorem iQ(ws:List Rat)(x:Rat): -1<=ix ws x:=by unfold ix;lia
theorem jN(ws:List Rat)(x:Rat):ix ws x<ws.length:=by
 unfold ix
 have:=yk (λw=>decide (w<=x)) ws
 lia
theorem bZ{x:Rat}:∀{ws:List Rat},Up ws->∀{i:Nat} (h:i<ws.length),ws[i]<=x↔(i:Int)<=ix ws x
 |[],_,i,h=>absurd h (zz _)
 |w::r,u,i,h=>by
  obtain⟨b,c⟩:=jt.mp u
  unfold ix
  by_cases hw:w<=x
  ·rw[vf (by simpa using hw),ja]
   cases i with
   |zero=>exact⟨λ_=>by lia,λ_=>hw⟩
   |succ i =>
    have:=bZ (x:=x) c (i:=i) (by simpa using h)
    unfold ix at this
    simp only[gh]
    rw[this]
    lia
  ·rw[wa (by simpa using hw)]
   have e:r.filter (λw=>decide (w<=x))=[]:=yf.mpr λa f=>by
    have:=b a f
    simp only[decide_eq_true_eq]
    grind
   rw[e]
   have d:¬(w::r)[i]<=x:=by
    cases i with
    |zero=>simpa using hw
    |succ i =>
     have:=b _ (ke (by simpa using h:i<r.length))
     simp only[gh]
     grind
   exact⟨λz=>absurd z d,λz=>by simp at z;lia⟩
theorem sB{x:Rat}{k:Int}(u:Up ws)(h0 : -1<=k)(h1:k<ws.length)(h:∀(i:Nat) (hi:i<ws.length),ws[i]<=x↔(i:Int)<=k):ix ws x=k:=by
 have a:=iQ ws x
 have b:=jN ws x
 apply Int.le_antisymm
 ·by_cases c:0<=ix ws x
  ·have q:=(h (ix ws x).toNat '!').mp ((bZ u '!').mpr '!')
   lia
  ·lia
 ·by_cases c:0<=k
  ·have q:=(bZ (x:=x) u (i:=k.toNat) '!').mp ((h k.toNat '!').mpr '!')
   lia
  ·lia
theorem iR(u:Up ws)(hi:i<ws.length)(hj:j<ws.length):ws[i]<ws[j]↔i<j:=by
 have p:=jj.mp u
 constructor
 ·intro h
  rcases yq i j with q|q|q
  ·exact q
  ·subst q;grind
  ·have:=p j i hj hi q;grind
 ·exact p i j hi hj
theorem d7(u:Up ws)(hi:i<ws.length)(hj:j<ws.length):ws[i]<=ws[j]↔i<=j:=by
 have:=iR u hj hi
 constructor
 ·intro h;refine f3 λq => ?_
  have:=this.mpr q;grind
 ·intro h
  have:¬ws[j]<ws[i]:=λq=>by have:=this.mp q;lia
  grind
theorem dJ(u:Up ws)(hi:i<ws.length):ix ws ws[i]=i:=
 sB u '!' '!' λj hj=>by rw[d7 u hj hi];lia
theorem aGZ{vs:List Rat}(u:Up ws)(v:Up vs)(h:∀x,x∈ws↔x∈vs):ws=vs:=by
 induction ws generalizing vs with
 |nil =>
  cases vs with
  |nil=>rfl
  |cons a r=>exact absurd ((h a).mpr (.head _)) '%'
 |cons w ws ih =>
  cases vs with
  |nil=>exact absurd ((h w).mp (.head _)) '%'
  |cons a r =>
   obtain⟨c,d⟩:=jt.mp u
   obtain⟨v1,v2⟩:=jt.mp v
   have e:w=a:=by
    rcases qp.mp ((h w).mp (.head _)) with q|q
    ·exact q
    ·rcases qp.mp ((h a).mpr (.head _)) with z|z
     ·exact z.symm
     ·have:=v1 w q;have:=c a z;grind
   subst e
   rw[ih d v2 λx => ?_]
   constructor
   ·intro b
    rcases qp.mp ((h x).mp (.tail _ b)) with q|q
    ·subst q;have:=c x b;grind
    ·exact q
   ·intro b
    rcases qp.mp ((h x).mpr (.tail _ b)) with q|q
    ·subst q;have:=v1 x b;grind
    ·exact q
theorem aDO{xs:List Rat}(u:Up ws)(v:Up xs)(hs:∀w∈ws,w∈xs){x:Rat}(hi:i<xs.length)(e:ix xs x=i):ix ws x=ix ws xs[i]:=by
 unfold ix
 refine congrArg (λl:List Rat=>(l.length:Int)-1) (bp λw hw => ?_)
 obtain⟨j,a,rfl⟩:=jr (hs w hw)
 have c:=bZ (x:=x) v a
 have b:=d7 v a hi
 rw[decide_eq_decide,c,b,e]
 lia
theorem aJA{xs:List Rat}(v:Up xs)(hs:∀w∈ws,w∈xs){x:Rat}(e:ix xs x = -1):ix ws x = -1:=by
 unfold ix
 rw[yf.mpr λw hw => ?_]
 ·rfl
 ·obtain⟨j,b,rfl⟩:=jr (hs w hw)
  have a:=bZ (x:=x) v b
  rw[decide_eq_true_eq,a,e]
  lia
theorem aED{xs:List Rat}(v:Up xs)(hs:∀w∈ws,w∈xs){x:Rat}(e:ix xs x=(xs.length:Int)-1):ix ws x=(ws.length:Int)-1:=by
 unfold ix
 rw[Jp.mpr λw hw => ?_]
 obtain⟨j,b,rfl⟩:=jr (hs w hw)
 have a:=bZ (x:=x) v b
 rw[decide_eq_true_eq,a,e]
 lia
noncomputable def iS(xs:List Rat)(js:List Nat):List Rat:=js.map λj=>xs.getD j 0
theorem aAI{xs:List Rat}(u:Up xs)(hs:js.Pairwise (· < ·))(h:∀j∈js,j<xs.length):Up (iS xs js):=by
 unfold iS Up
 rw[kv]
 refine cw ?_ hs
 intro a b g f c
 have e:=h a g
 have d:=h b f
 rw[zGd,zGd,zGe e,zGe d]
 exact (iR u e d).mpr c
theorem yO{xs:List Rat}(h:∀j∈js,j<xs.length):∀x∈iS xs js,x∈xs:=λx b=>by
 obtain⟨j,a,rfl⟩:=qo.mp b
 rw[zGd,zGe (h j a)]
 exact ke _
theorem aEK{xs:List Rat}(u:Up xs)(h:∀j∈js,j<xs.length)(x:Rat):ix (iS xs js) x=R.bd js (ix xs x):=by
 unfold ix iS R.bd R.dL
 rw[KD,zLm]
 congr 2
 congr 1
 refine bp λj b => ?_
 have a:=h j b
 have:=bZ (x:=x) u a
 show decide (xs.getD j 0<=x)=_
 rw[zGd,zGe a,decide_eq_decide]
 exact this
end U
namespace Z
open PySem L2
end Z
namespace Q
open PySem L2 Z
theorem zG(h:n<=1000):("." : Str).length*((n:Int)).toNat<=sizeLine:=by
 have e:("." : Str).length=1:=by decide +kernel
 rw[e,qm,sd]
 exact R.aU '$'
theorem lT(h:i<zs.length+2):∃u,(R.framed zs)[i]?=some u:=⟨(R.framed zs)[i]'(by rw[R.lY];exact h),by simp[R.lY,h]⟩
theorem rL{z:Str}(h:zs[i]?=some z):atI (zs.map D.str) (0+(i:Int))=some (.str z):=by
 rw[we];exact dD (by rw[qg,h];rfl)
theorem zP{z:Str}(h:zs[i+1]?=some z):atI (zs.map D.str) (0+(i:Int)+1)=some (.str z):=by
 rw[we];exact dD (j:=i+1) (by rw[qg,h];rfl)
noncomputable def eJ(l:List Nat):List D:=l.map λ(i:Nat)=>D.int (i:Int)
theorem iZ(h:(eJ l)[i]?=some d):∃j,l[i]?=some j/\d = .int (j:Int):=b4 h
theorem dA(l:List Nat):(eJ l).length=l.length:=by simp[eJ]
theorem aHZ:(q7 (zs.length+1)).filter (λi => !decide ((R.framed zs)[i]?=(R.framed zs)[i+1]?))=R.chg zs:=by
 unfold R.chg
 cases zs with
 |nil=>rfl
 |cons z zr=>rfl
theorem kM{p:Nat->Bool}:(q7 (n+1)).filter p=if p n=true then (q7 n).filter p++[n] else (q7 n).filter p:=by
 rw[x8,dt]
 by_cases h:p n=true
 ·rw[if_pos h,vf h];rfl
 ·rw[if_neg h,wa h,rh,wg]
theorem nV{α:Type}(l:List α):cutD l none (some (-1))=l.dropLast:=by
 unfold cutD
 have b:HT.sIx l.length 0 none=0:=rfl
 have a:HT.sIx l.length l.length (some (-1))=l.length-1:=by
  show (if (-1:Int)<0 then ((-1:Int)+(l.length:Int)).toNat else min (-1:Int).toNat l.length)=l.length-1
  rw[if_pos '#'];omega
 rw[b,a,KP,Nat.sub_zero,List.dropLast_eq_take]
theorem iT(l:List Nat):(eJ l).dropLast=eJ l.dropLast:=by simp[eJ,List.map_dropLast]
theorem bU{α β:Type}{f:α->β}{l:List α}{x:α}(h:l[i]?=some x):(l.take (i+1)).map f=(l.take i).map f++[f x]:=by
 rw[take_snoc h,qi];rfl
theorem aFM{xs:List D}(h:j<xs.length):atI xs (j:Int)=some (xs.getD j .non):=dD (by simp[h])
theorem rM(l:List Str)(h:∀z∈l,z.length=1):(l.map (·.length)).sum=l.length:=by
 induction l with
 |nil=>rfl
 |cons a l ih =>
  rw[kj,mh,ih λz b=>h z (by simp[b]),h a '%',ja,nt]
theorem aAC(zs:List Str)(j:Nat):nj xl (zs.map λz=>(⟨#[R.atS z j]⟩:Str))=R.ofL (zs.map (R.atS · j)):=by
 have:=R.wP (zs.map (R.atS · j))
 rw[ve] at this
 exact this
theorem map_nil{α β:Type}{f:α->β}{l:List α}(h:decide (l.map f=[])=true):l=[]:=by
 have:=of_decide_eq_true h
 cases l with
 |nil=>rfl
 |cons a l=>cases this
end Q
namespace R
open PySem L2
theorem units_le{k:Nat}(hr:Room k A)(h:n<=64:=by decide):A.units+n<cLine:=by have:=hr.units;omega
end R
namespace Q
open PySem L2 Z
theorem cQ.del{p:Addr}{M':Mem}(h:cQ p M M')(n:M a=none):cQ p M (k8 M' a):=λb u nb e=>by
 rw[rX (λz=>by rw[z,n] at e;cases e)];exact h b u nb e
theorem cQ.none_of{p:Addr}{M':Mem}(h:cQ p M M')(n:M' a=none)(np:a≠p):M a=none:=by
 cases e:M a with
 |none=>rfl
 |some o=>rw[h a o np e] at n;cases n
theorem aHP(h:R.Good n zs){cs:List Nat}(hl:cs.length=n)(hs:∀c∈cs,c=35\/c=46):R.Good n (zs++[R.ofL cs]):=λz a=>by
 rcases jf.mp a with a|a
 ·exact h z a
 ·rw[ql] at a
  subst a
  refine⟨by rw[R.jT];exact hl,?_⟩
  show cs.all R.sgn=true
  rw[jn]
  intro c b
  rcases hs c b with rfl|rfl <;> rfl
theorem aO4(l:List Nat):((l.map λc=>(⟨#[c]⟩:Str)).map (·.length)).sum=l.length:=by
 rw[rM _ λz hz=>by obtain⟨c,_,rfl⟩:=qo.mp hz;rfl,zLm]
end Q
namespace Z
open PySem L2
section
variable {K:Fg}
noncomputable def aFI:D->Bool
 |.non=>true
 |_=>false
theorem aDI(h:Den K G d v):decide (v = .non)=aFI d:=by
 cases d with
 |non=>rw[h.non_];rfl
 |bl b=>rw[h.bl_];rfl
 |int b=>rw[h.int_];rfl
 |str b=>rw[h.str_];rfl
 |mt b=>rw[h.mt_];rfl
 |tup b=>obtain⟨_,_,e,_⟩:=h.tup_;rw[e];rfl
 |lst b=>obtain⟨_,_,e,_⟩:=h.lst_;rw[e];rfl
 |fl b=>obtain⟨_,_,e,_⟩:=h.fl_;rw[e];rfl
 |st b=>obtain⟨_,_,_,e,_⟩:=h.st_;rw[e];rfl
theorem aSO(h:k (.bl (aFI d)) M):Op2 K (λx y H Q=>y = .non/\Q (.bl (decide (x = .non))) H) d .non M k:=λG H v1 v2 Q b c a q =>
 ⟨a.non_,by rw[aDI c];exact q _ _ _ _ _ (Stp.refl b) dU h⟩
theorem aPA(h:k (.bl (!aFI d)) M):Op2 K (λx y H Q=>y = .non/\Q (.bl (!decide (x = .non))) H) d .non M k:=λG H v1 v2 Q b c a q =>
 ⟨a.non_,by rw[aDI c];exact q _ _ _ _ _ (Stp.refl b) dU h⟩
end
theorem nZ{es:List D}(h:(gA es)[i]?=some d):∃x,es[i]?=some x/\d = .tup [.int (i:Int),x]:=by
 unfold gA at h
 rw[List.getElem?_mapIdx] at h
 cases e:es[i]? with
 |none=>rw[e] at h;cases h
 |some x=>rw[e] at h;exact⟨x,rfl,(je h).symm⟩
theorem nO(es:List D):(gA es).length=es.length:=by simp[gA]
end Z
namespace L2
open PySem PySem.Spec PyProof.Rows
section
end
end L2
namespace Z
open PySem L2
section
variable {K:Fg}
end
end Z
namespace Q
open PySem L2 Z
noncomputable def cHas:Ct:=λds M k=>∃(x y:D) (zs:List Str) (a u:Int),ds=[.tup [x,y, .tup (zs.map .str)], .int a, .int u]/\(∀z∈zs,z.length<=1000)/\k (.bl (R.aJ zs a u)) M
theorem qU{c:Nat}:decide ((⟨#[c]⟩:Str)=("#" : Str))=decide (c=35):=by
 have e:("#" : Str)=⟨#[35]⟩:=by decide +kernel
 rw[e]
 by_cases h:c=35
 ·rw[h];simp
 ·rw[decide_eq_false h]
  exact decide_eq_false λz=>h (by injection z with z;simpa using z)
theorem cell_in{a u:Int}(h1:¬decide (u<0)=true)(h2:¬decide (((zs.map D.str).length:Int)<=u)=true)(h3:¬decide (a<0)=true):0<=u/\0<=a/\∃z,zs[u.toNat]?=some z/\atI (zs.map D.str) u=some (.str z):=by
 have e:¬u<0:=λz=>h1 (decide_eq_true z)
 have c:¬((zs.length:Nat):Int)<=u:=λz=>h2 (decide_eq_true (by rw[zLm];exact z))
 have d:¬a<0:=λz=>h3 (decide_eq_true z)
 obtain⟨j,rfl⟩:∃j:Nat,u=(j:Int):=⟨u.toNat,by omega⟩
 have b:j<zs.length:=by omega
 refine⟨by omega,by omega,zs[j],by simp[b],dD (by simp[b])⟩
theorem aNR{z:Str}{a:Int}(ha:0<=a)(h:¬((z.length:Nat):Int)<=a):∃c,z.cps.toList[a.toNat]?=some c/\atI z.cps.toList a=some c:=by
 obtain⟨j,rfl⟩:∃j:Nat,a=(j:Int):=⟨a.toNat,by omega⟩
 have b:j<z.cps.toList.length:=by rw[qt];have:z.cps.size=z.length:=rfl;omega
 exact⟨z.cps.toList[j],by simp,dD (zGe b)⟩
end Q
namespace HT
open PySem PySem.Spec PyProof.Rows
section
variable {E:Value->Shared->Prop}
end
end HT
namespace L2
open PySem PySem.Spec PyProof.Rows
section
end
end L2
namespace Z
open PySem L2
section
end
end Z
namespace Q
open PySem L2 Z
theorem dotted(z:Str):("." : Str)++z++("." : Str)=R.ofL (46::z.cps.toList++[46]):=by
 apply jA
 have e:("." : Str).cps = #[46]:=by decide +kernel
 show (("." : Str).cps++z.cps++("." : Str).cps).toList=46::z.cps.toList++[46]
 rw[e];simp
theorem uN(z:Str)(h:z.length<=1000):("." : Str).length+z.length<=sizeLine/\(("." : Str)++z).length+("." : Str).length<=sizeLine:=by
 have e:("." : Str).length=1:=by decide +kernel
 have a:(("." : Str)++z).length=1+z.length:=by
  show (("." : Str).cps++z.cps).size=_
  rw[JM]
  have:("." : Str).cps.size=1:=e
  rw[this];rfl
 rw[a,e]
 exact⟨R.aU '!',R.aU '!'⟩
end Q
namespace Z
open PySem L2
theorem slen(a b:Str):(a++b).length=a.length+b.length:=by
 show (a.cps++b.cps).size=_
 rw[JM];rfl
theorem tD:∀(ts:List Str) (k:Nat) (acc:Str),(textFrom k acc ts).length<=acc.length+(ts.map (·.length)).sum+2*ts.length
 |[],k,acc=>by simp[textFrom]
 |t::ts,k,acc=>by
  have a:=tD ts (k+1) (acc++(if k>0 then ", " else "" : String)++t)
  have e:(acc++((if k>0 then ", " else "" : String):Str)++t).length<=acc.length+2+t.length:=by
   rw[slen,slen]
   split
   ·have:((", " : String):Str).length=2:=by decide +kernel
    lia
   ·have:(("" : String):Str).length=0:=by decide +kernel
    lia
  show (textFrom (k+1) (acc++(if k>0 then ", " else "" : String)++t) ts).length<=_
  rw[kj,mh,ja]
  lia
theorem aCB(ts:List Str):(listText ts).length<=(ts.map (·.length)).sum+2*ts.length+2:=by
 unfold listText
 rw[slen]
 have h:=tD ts 0 "["
 have b:("[" : Str).length=1:=by decide +kernel
 have a:("]" : Str).length=1:=by decide +kernel
 lia
theorem join_le:∀ts:List Str,(Str.join ", " ts).length<=(ts.map (·.length)).sum+2*ts.length
 |[]=>by show (xl).length<=_;exact k3 _
 |[x]=>by show x.length<=_;simp
 |x::y::r=>by
  have b:=join_le (y::r)
  show (x ++ ", " ++ Str.join ", " (y::r)).length<=_
  rw[slen,slen]
  have a:((", " : String):Str).length=2:=by decide +kernel
  rw[kj,mh,ja]
  lia
theorem aB1(ts:List Str):(tupleText ts).length<=(ts.map (·.length)).sum+2*ts.length+3:=by
 unfold tupleText
 rw[slen,slen]
 have h:=join_le ts
 have b:("(" : Str).length=1:=by decide +kernel
 have a:(((if ts.length==1 then ",)" else ")" : String)):Str).length<=2:=by split <;> decide +kernel
 lia
mutual
noncomputable def smD:D->Bool
 |.non|.bl _|.str _=>true
 |.int i=>decide (i.natAbs<10^65)
 |.tup ds=>smDs ds
 |.lst ds=>smDs ds
 |.mt _|.fl _|.st _=>false
noncomputable def smDs:List D->Bool
 |[]=>true
 |d::ds=>smD d&&smDs ds
end
mutual
noncomputable def wt:D->Nat
 |.non=>4
 |.bl _=>5
 |.int _=>66
 |.str x=>(reprText x).length
 |.tup ds=>wts ds+3
 |.lst ds=>wts ds+2
 |.mt _|.fl _|.st _=>0
noncomputable def wts:List D->Nat
 |[]=>0
 |d::ds=>wt d+2+wts ds
end
mutual
theorem shown_le:∀d:D,smD d=true->(toPy d).showable=true/\(toPy d).shown.length<=wt d
 |.non,_=>by simp only[toPy,zu,dd,wt];exact⟨trivial,by decide +kernel⟩
 |.bl b,_=>by simp only[toPy,zu,dd,wt];exact⟨trivial,by cases b <;> decide +kernel⟩
 |.str x,_=>by simp only[toPy,zu,dd,wt];exact⟨trivial,qk _⟩
 |.int i,h=>by
  simp only[smD,decide_eq_true_eq] at h
  simp only[toPy,zu,dd,wt,decide_eq_true_eq]
  refine⟨?_,?_⟩
  ·have c:i.natAbs<2^1920:=qy h '#'
   by_cases h0:i.natAbs=0
   ·rw[h0];decide
   ·exact (WD h0).mpr c
  ·have:=int_text_length_le10 (a:=i) (k:=65) '#' h
   show (ji (toString i)).length<=66
   rw[ofString_length];exact this
 |.mt _,h=>by simp[smD] at h
 |.fl _,h=>by simp[smD] at h
 |.st _,h=>by simp[smD] at h
 |.tup ds,h=>by
  simp only[smD] at h
  obtain⟨e,c⟩:=showns_le ds h
  simp only[toPy,zu,dd,wt]
  exact⟨e,qq (aB1 _) '!'⟩
 |.lst ds,h=>by
  simp only[smD] at h
  obtain⟨e,c⟩:=showns_le ds h
  simp only[toPy,zu,dd,wt]
  exact⟨e,qq (aCB _) '!'⟩
theorem showns_le:∀ds:List D,smDs ds=true->h9 (toPys ds)=true/\((fz (toPys ds)).map (·.length)).sum+2*(fz (toPys ds)).length<=wts ds
 |[],_=>by simp[toPys,h9,fz,wts]
 |d::ds,h=>by
  simp only[smDs,qx] at h
  obtain⟨a1,a2⟩:=shown_le d h.1
  obtain⟨a,b⟩:=showns_le ds h.2
  simp only[toPys,h9,fz,wts,kj,mh,ja]
  exact⟨by rw[a1,a];rfl,by lia⟩
end
theorem rG:∀{ds:List D},(∀d∈ds,smD d=true)->smDs ds=true
 |[],_=>by simp only[smDs]
 |d::ds,h=>by
  have a:=rG (ds:=ds) λe he=>h e (jg _ he)
  simp only[smDs,h d '%',a,vz]
theorem oM:∀{ds:List D},(∀d∈ds,okD n d=true)->okDs n ds=true
 |[],_=>by simp only[okDs]
 |d::ds,h=>by
  have a:=oM (ds:=ds) λe he=>h e (jg _ he)
  simp only[okDs,h d '%',a,vz]
theorem vQ{B:Nat}:∀{ds:List D},(∀d∈ds,wt d<=B)->wts ds<=ds.length*(B+2)
 |[],_=>by simp[wts]
 |d::ds,h=>by
  have b:=h d '%'
  have a:=vQ (B:=B) (ds:=ds) λe he=>h e (by simp[he])
  simp only[wts,ja,Q2]
  lia
theorem j9{K:Fg}{e:D}(r:Rs M d e)(ok:okD n e=true)(hs:smD e=true)(hz:wt e<=10000000)(h:k (.str (toPy e).shown) M):OpN K (aFD K n) [d] M k:=
 aPI r ok (shown_le e hs).1 (qq (shown_le e hs).2 (qq hz '#')) h
end Z
namespace Q
open PySem L2 Z
noncomputable def pairD(p:Int×Int):D := .tup [.int p.1, .int p.2]
noncomputable def aFG:Ct:=λds M k=>∃ns:List Int,ds=[.fl (ns.map .int)]/\ns.length<=63/\∀M',k (.bl true) M'
end Q
namespace L2
open PySem PySem.Spec PyProof.Rows
section
noncomputable def Iel(K:qh)(a:Addr):It:=⟨λi H=>∃xs x,SqL K H a xs/\xs[i]?=some x,
 λi H v H'=>∃T x,H T=none/\v = .ref T/\H'=upd H T (.tup [.int (i:Int),x])/\∀xs,SqL K H a xs->xs[i]?=some x,λi H=>∃xs,SqL K H a xs/\xs.length=i⟩
theorem aFK{K:qh}(a e it:Addr)(hei:e≠it):
  Turn P w K (.Tuple elts kk tp) (Iel K a) [e,it] e (λi h=>(∃old,IsEnum h e it (i:Nat) old)/\h.IsListIter it a i) where
 mem:=by simp
 obj:=λi h st b d=>by
  obtain⟨⟨old,he⟩,o,D,M,hd⟩:=st
  rcases qp.mp d with rfl|d
  ·exact⟨_,he,λv z=>by cases z⟩
  ·rw[ql] at d
   subst d
   exact⟨o,D,λv z=>by rw[hd] at z;cases z⟩
 keep:=λi h h' st k=>by
  obtain⟨⟨old,he⟩,o,D,r⟩:=st
  exact⟨⟨old,k e '%' _ he⟩,o,k it '%' o D,r⟩
 item:=by
  intro X V hw O M i pins s σ H E I hf st S
  subst V hw O
  obtain⟨⟨old,he⟩,hit⟩:=st
  obtain⟨xs,x,G,B⟩:=S
  obtain⟨c,J,pt,hz⟩:=I.list G
  have f:s.heap.IsList a c.toArray:=pt.isList
  have n:a≠it:=λz=>by
   obtain⟨o,l,p,_⟩:=f
   obtain⟨o2,N,F,_⟩:=hit
   rw[z,N] at l;cases l
   rw[p] at F;exact absurd F '%'
  have U:e∉[it,a]:=λz=>by
   rcases qp.mp z with y|y
   ·exact hei y
   ·rw[ql] at y
    obtain⟨o,l,p,_⟩:=f
    have j:=he
    unfold IsEnum at j
    rw[y,l] at j;cases j
    exact absurd p '%'
  have Dr:=VH (prog:=X.prog) (w:=X.w) (A:=X.A.in1) (I.ok.hd M) it a n c.toArray
  have Y:i<c.toArray.size:=by rw[qf,<- J.length];exact (zGs B).1
  refine JC Dr he ⟨hit,f⟩ Y hei U λy h1 tk hy D T hT aa hk => ?_
  refine⟨_,rfl,wpAny_letOwnedTupleGo_enum D λL R m => ?_⟩
  obtain⟨u,hu,ru⟩:=J.get B
  have ey:y=u:=by
   have e3:c[i]?=some y:=by simpa using hy
   rw[hu] at e3;exact (je e3).symm
  subst ey
  have t:s.heap.objs.size≠e:=dz (qv he)
  have C:L.get? s.heap.objs.size=some {cls := .type "tuple", data := .seq #[.int (i:Int) tk,y]}:=(m.2 _ t).trans hT
  have k2:∀b ob,b∉[e,it]->s.heap.get? b=some ob->L.get? b=some ob:=λb ob d q=>by
   have b1:b≠e:=λz=>d (by simp[z])
   have b2:b≠it:=λz=>d (by simp[z])
   exact (m.2 b b1).trans (hk b ob b1 b2 q)
  have I2:Inv X pins σ (upd H s.heap.objs.size (.tup [.int (i:Int),x])) {s with heap:=L,toks:=tk+1}:=I.turnedT k2 hf (qk _) ⟨'/',[.int (i:Int) tk,y], .cons ⟨tk,rfl⟩ (.cons ru .nil),_,C,rfl,_,rfl⟩
  have Z:H s.heap.objs.size=none:=I.hok.fresh (qk _)
  refine⟨.ref s.heap.objs.size,_,I2,rfl,⟨s.heap.objs.size,x,Z,rfl,rfl,λab q' => ?_⟩,⟨⟨_,by simpa using R⟩,?_⟩,λb d => ?_⟩
  ·rw[I.list_inj q' G];exact B
  ·obtain⟨⟨o,g,r3⟩,_⟩:=T
   exact⟨o,(m.2 it (cb hei)).trans g,r3⟩
  ·rw[bB (λz => ?_)]
   ·exact (hf b d).1
   ·rcases qp.mp d with y|y
    ·exact t (by rw[<- z,y])
    ·rw[ql] at y
     obtain⟨o,g,_⟩:=hit
     exact absurd (qv g) (by rw[<- y,z];exact x4 _)
 done:=by
  intro X V hw O M i pins s σ H E I hf st S
  subst V hw O
  obtain⟨⟨old,he⟩,hit⟩:=st
  obtain⟨xs,G,hl⟩:=S
  obtain⟨c,J,pt,hz⟩:=I.list G
  have f:s.heap.IsList a c.toArray:=pt.isList
  have n:a≠it:=λz=>by
   obtain⟨o,l,p,_⟩:=f
   obtain⟨o2,N,F,_⟩:=hit
   rw[z,N] at l;cases l
   rw[p] at F;exact absurd F '%'
  have Dr:=VH (prog:=X.prog) (w:=X.w) (A:=X.A.in1) (I.ok.hd M) it a n c.toArray
  have Z:c.toArray.size=i:=by rw[qf,<- J.length];exact hl
  subst Z
  refine JP Dr he ⟨hit,f⟩ λL B=>⟨rfl,I.turnedL (t':=s.toks) (ch:=[it]) (λb ob d q=>B b ob (λz=>d (by simp[z])) q) λb d=>hf b ?_⟩
  rw[ql] at d
  rw[d];simp
 self:=λA i s Q E st h=>by
  obtain⟨⟨old,he⟩,_⟩:=st
  exact gm he h
noncomputable def aTK(K:qh)(ta:TA):TI:=λσ H R=>ta σ H λvs H1=>∃a,vs=[.ref a]/\(∃xs,SqL K H1 a xs)/\R (Iel K a) H1
theorem aL4{a:Expr}{ta:TA}{p:Pos}(hg:Gl X "enumerate")(hm:X.mg "enumerate" = none)(hv:kh "enumerate" = some (.type "enumerate"))(ha:PA X [a] ta)(hs:jk [a] X.env=[(false,eval a X.env)]:=by rfl):
  PI X (.Tuple elts kk tp) (.Call (.Name "enumerate" p) [a] [] pos) (aTK X.K ta):=by
 intro pins s σ H R I h
 refine Call_ (mZ I hg hm hv (xq (thn (ha pos pins s σ H _ I h) λus s1 ⟨vs,H1,I1,r1,m⟩ => ?_) hs rfl))
 obtain⟨b,e,⟨xs,j⟩,q⟩:=m
 subst e
 obtain⟨u,rfl,g⟩:=vals1 r1
 cases g
 obtain⟨f,r,pt,o⟩:=I1.list j
 refine call_enumerate_list (show s1.heap.IsList b f.toArray from pt.isList) λn he l i k => ?_
 have I2:Inv X pins σ H1 {s1 with heap:=n}:=I1.kept (t':=s1.toks) k
 refine gm he ?_
 refine⟨_,[s1.heap.objs.size+1,s1.heap.objs.size],_,Iel X.K b,H1,rfl,I2,aFK b _ _ (KA _),⟨⟨_,he⟩,l⟩,λc d => ?_,q⟩
 rcases qp.mp d with rfl|d
 ·exact I1.fpOk (br _) (I1.hok.fresh (br _))
 ·rw[ql] at d
  subst d
  exact I1.fpOk (qk _) (I1.hok.fresh (qk _))
end
end L2
namespace Z
open PySem L2
section
variable {a b:Expr}{rest:List Expr}
theorem aKE{K:Fg}{a:Addr}{vs:List V}(s:G0 a=some (.lst vs))(dn:Dens K G0 ds vs):YD K (Iel K a) (gA ds) G0 where
 go:=λi G H M sg b h=>by
  have g:i<vs.length:=by rw[<- dn.len];simpa[gA] using h
  exact⟨vs,vs[i],SqL.of (b.same _ _ (sg _ _ s)),by simp[g]⟩
 yld:=λi G H M x H' sg b h y=>by
  obtain⟨T,v,f,rfl,rfl,j⟩:=y
  have c:=j vs (SqL.of (b.same _ _ (sg _ _ s)))
  obtain⟨d,hd,e⟩:=dn.get' c
  have st:=b.new (o := .tup [.int (i:Int),v]) f
  exact⟨_, .tup [.int (i:Int),d],st,by simp[gA,hd],iA (SqT.of bJ) (cD cP (cD ((e.up sg).up st.gg) cZ))⟩
 stop:=λi G H M sg b h=>⟨vs,SqL.of (b.same _ _ (sg _ _ s)),by rw[<- dn.len];simpa[gA] using h.symm⟩
theorem uH{p:Pos}(hm:X.mg "enumerate" = none)(hv:kh "enumerate" = some (.type "enumerate"))(h:GA X [a] Γ M λds M1=>∃es,ds=[.lst es]/\ki (gA es) M1)(hg:Gl X "enumerate" := by rfl)(hs:jk [a] X.env=[(false,eval a X.env)]:=by rfl):
  GI X (.Tuple elts kk tp) (.Call (.Name "enumerate" p) [a] [] pos) Γ M ki:=λσ G H Rr d f q=>by
 refine oN (aL4 hg hm hv pUA hs) ?_
 refine h σ G H _ d f λvs G1 H1 ds M1 s1 g ⟨es,c,e⟩ => ?_
 subst c
 obtain⟨v,rfl,dv⟩:=dens1 g
 obtain⟨b,ws,rfl,sq,dn⟩:=dv.lst_
 exact⟨b,rfl,⟨ws,SqL.of (s1.rel.same _ _ sq)⟩,q _ _ _ _ _ s1 (aKE sq dn) e⟩
end
section
theorem aS5(I:Inv X pins σ H s){e:D}{u:V}{v' u':Value}(A:Around)(g1:Disp d)(g2:Disp e)(h1:okD n d=true)(h2:okD n e=true)(x:Den X.K H d v)(y:Den X.K H e u)(rx:RelV v v')(ry:RelV u u')(hu:A.units+n<cLine):SeqAt.RcNeAt A s v' u' (!eqD d e):=by
 cases g1 with
 |tup ds =>
  obtain⟨a,m,vs,rfl,it,o,dn⟩:=dX I x rx
  cases g2 with
  |lst es=>obtain⟨b,f,l,rfl,g,_⟩:=dW I y ry;simp only[eqD];exact VL it g '$'
  |tup es =>
   obtain⟨b,f,l,rfl,g,h,i⟩:=dX I y ry
   cases n with
   |zero=>simp[okD] at h1
   |succ n =>
    have z:okDs n ds=true:=by simpa only[okD] using h1
    have B:okDs n es=true:=by simpa only[okD] using h2
    have:=VJ (A:=A) (s:=s) (e:=eqJ ds es) it g '$' (λj g1 g2=>by
     obtain⟨c,v1,q,C,r1⟩:=eV dn o g1
     obtain⟨t,v2,p,w,r2⟩:=eV i h g2
     have:=eqAt_D I c n t v1 v2 _ _ A.in1 (dH z q) (dH B p) C w r1 r2 (by show A.units+1+n<cLine;omega)
     unfold eqJ;rw[q,p];exact this)
    rw[qf,qf,<- o.length,<- h.length,<- dn.len,<- i.len,fZ] at this
    simp only[eqD];exact this
 |lst ds =>
  obtain⟨a,m,vs,rfl,it,o,dn⟩:=dW I x rx
  cases g2 with
  |tup es=>obtain⟨b,f,l,rfl,g,_⟩:=dX I y ry;simp only[eqD];exact VO it g '$'
  |lst es =>
   obtain⟨b,f,l,rfl,g,h,i⟩:=dW I y ry
   cases n with
   |zero=>simp[okD] at h1
   |succ n =>
    have z:okDs n ds=true:=by simpa only[okD] using h1
    have B:okDs n es=true:=by simpa only[okD] using h2
    simp only[eqD]
    by_cases hl:ds.length=es.length
    ·have k:m.toArray.size=f.toArray.size:=by rw[qf,qf,<- o.length,<- h.length,<- dn.len,<- i.len,hl]
     have:=VN (A:=A) (s:=s) (e:=eqJ ds es) it g k '$' (λj g1 g2=>by
      obtain⟨c,v1,q,C,r1⟩:=eV dn o g1
      obtain⟨t,v2,p,w,r2⟩:=eV i h g2
      have:=eqAt_D I c n t v1 v2 _ _ A.in1 (dH z q) (dH B p) C w r1 r2 (by show A.units+1+n<cLine;omega)
      unfold eqJ;rw[q,p];exact this)
     have r:=fZ ds es
     rw[<- hl,Q3,beq_self_eq_true,vz] at r
     rw[qf,<- o.length,<- dn.len,r] at this
     exact this
    ·have k:(m.toArray.size != f.toArray.size)=true:=by rw[bne_iff_ne,qf,qf,<- o.length,<- h.length,<- dn.len,<- i.len];exact hl
     have r:=fZ ds es
     rw[beq_eq_false_iff_ne.mpr hl,h8] at r
     rw[<- r]
     exact VM it g k '$'
end
section
theorem aR6(hu:X.A.units+n<cLine):OpR X (wh .NotEq) (aFF X.K n true):=by
 intro pins s σ H x y v u Q I g b h
 obtain⟨d,e,g1,g2,f,a,i,c,q⟩:=h
 exact aS5 I X.A g1 g2 f a i c g b hu X.prog X.w X.xe _ ⟨.bl (!eqD d e),H,I,rfl,q⟩
theorem aTO{K:Fg}{d1 d2 e1 e2:D}(r1:Rs M d1 e1)(r2:Rs M d2 e2)(h1:okD n e1=true)(h2:okD n e2=true)(h:k (.bl (!eqD e1 e2)) M):Op2 K (aFF K n true) d1 d2 M k:=λG H v1 v2 Q a x y q =>
 ⟨e1,e2,r1.disp,r2.disp,h1,h2,r1.den a x,r2.den a y,q _ _ _ _ _ (Stp.refl a) dU h⟩
end
section
variable {K:Fg}
end
end Z
namespace Z
open PySem L2 PySem.Spec PyProof.Rows
noncomputable def tyN:D->String
 |.non => "NoneType"
 |.bl _ => "bool"
 |.int _ => "int"
 |.str _ => "str"
 |.tup _ => "tuple"
 |.lst _|.fl _|.mt _|.st _ => "list"
noncomputable def isN(T S:String):Bool:=S==T||(S == "bool" && T == "int")
noncomputable def isD(T:String)(d:D):Bool:=isN T (tyN d)
noncomputable def Plain5(T:String):Prop:=T = "int" \/ T = "bool" \/ T = "str" \/ T = "tuple" \/ T = "list"
theorem aTX{K:Fg}{T S:String}(h:Plain5 T)(h2:S = "NoneType" \/ Plain5 S):yh K (.type S) (.type T)=some (isN T S):=by
 rcases h with rfl|rfl|rfl|rfl|rfl <;> rcases h2 with rfl|rfl|rfl|rfl|rfl|rfl <;> first
  |exact aS7 '&' '&' '&'
  | (rw[aJ2 '&'];decide +kernel)
theorem aTN(d:D):tyN d = "NoneType" \/ Plain5 (tyN d):=by
 cases d with
 |non=>exact .inl rfl
 |bl b=>exact .inr (.inr (.inl rfl))
 |int b=>exact .inr (.inl rfl)
 |str b=>exact .inr (.inr (.inr (.inl rfl)))
 |tup b=>exact .inr (.inr (.inr (.inr (.inl rfl))))
 |lst b=>exact .inr (.inr (.inr (.inr (.inr rfl))))
 |fl b=>exact .inr (.inr (.inr (.inr (.inr rfl))))
 |mt b=>exact .inr (.inr (.inr (.inr (.inr rfl))))
 |st b=>exact .inr (.inr (.inr (.inr (.inr rfl))))
theorem aUR{K:Fg}{T:String}(h:Plain5 T)(d:D):yh K (.type (tyN d)) (.type T)=some (isD T d):=aTX h (aTN d)
noncomputable def Slv:D->Prop
 |.mt _|.st _=>False
 |_=>True
theorem aJC{T:String}(hT:Plain5 T):dY X (.builtin "isinstance") (λxs H Q=>∃x d,xs=[x, .ty T]/\Slv d/\Den X.K H d x/\Q (.bl (isD T d)) H):=by
 intro pins s σ H xs us Q I r h
 obtain⟨x,d,rfl,nm,c,q⟩:=h
 obtain⟨u,l,rfl,b,r2⟩:=vals2 r
 cases (show l=zc T from r2)
 have e:=aUR (K:=X.K) hT d
 have fin:∀tk,∃v H',Inv X pins σ H' {s with toks:=tk}/\RelV v (wd (isD T d))/\Q v H':=λtk=>⟨.bl (isD T d),H,I.tok tk,rfl,q⟩
 cases d with
 |non=>rw[c.non_] at b;cases (show u=j0 from b);exact y4 PySem.W.kitx_none I.kIn mx e (λz=>nomatch z) fin
 |bl y=>rw[c.bl_] at b;cases (show u=wd y from b);exact y4 PySem.W.kitx_bool I.kIn mx e (λz=>nomatch z) fin
 |int i=>rw[c.int_] at b;obtain⟨t,k⟩:=(show ∃t,u=gk i t from b);cases k;exact y4 PySem.W.kitx_int I.kIn mx e (λz=>nomatch z) fin
 |str y=>rw[c.str_] at b;obtain⟨t,k⟩:=(show ∃t,u=Kf y t from b);cases k;exact y4 PySem.W.kitx_str I.kIn mx e (λz=>nomatch z) fin
 |mt a=>exact nm.elim
 |st a=>exact nm.elim
 |tup ds =>
  obtain⟨a,j,vs,rfl,⟨o,g,f,_⟩,_⟩:=dX I c b
  exact y4 PySem.W.kitx_tuple I.kIn ⟨o,g,f⟩ e (λz=>nomatch z) fin
 |lst ds =>
  obtain⟨a,j,vs,rfl,⟨o,g,f,_⟩,_⟩:=dW I c b
  exact y4 Q8 I.kIn ⟨o,g,f⟩ e (λz=>nomatch z) fin
 |fl ds =>
  obtain⟨a,vs,rfl,sq,dn⟩:=c.fl_
  cases (show u=jw a from b)
  obtain⟨j,m,pt,_⟩:=I.list sq
  obtain⟨o,g,f,_⟩:=pt.isList
  exact y4 Q8 I.kIn ⟨o,g,f⟩ e (λz=>nomatch z) fin
inductive Rz(M:Mem):D->D->Prop
 |self {d:D} (h:Slv d):Rz M d d
 |mt {a:Addr}{ds:List D} (h:M a=some (.lst ds)):Rz M (.mt a) (.lst ds)
section
variable {p1:Pos}
theorem mG{C:Str}{T:String}(hT:Plain5 T)(hm:X.mg "isinstance" = none)(hmT:X.mg C=none)(hvT:kh C=some (.type T))(h:GE X e Γ M λd M1=>∃d',Rz M1 d d'/\k (.bl (isD T d')) M1)(hg:Gl X "isinstance" := by rfl)(hgT:Gl X C:=by rfl)(hn:C ≠ "__name__" := by decide)(hdb:(C==("__debug__" : Str))=false:=by decide)(he:jk [e, .Name C p2] X.env=(false,eval e X.env)::jk [.Name C p2] X.env:=by rfl)(hpl:(dh pos (jk [.Name C p2] X.env)).any (·.1)=false:=by rfl):GE X (.Call (.Name "isinstance" p1) [e, .Name C p2] [] pos) Γ M k:=λσ G H Q f i q=>by
 refine cM (uG (aJC hT) hg hm Wj (oW (hs:=he) pU (oW (aQD (v := .ty T) hgT hmT hvT rfl hn hdb) vU)) '#' '#' he hpl) ?_
 refine h σ G H _ f i λv G1 H1 d M1 s1 b ⟨d',a,g⟩ => ?_
 refine⟨v,d',rfl,?_,?_,q _ _ _ _ _ s1 dU g⟩
 ·cases a with
  |self h=>exact h
  |mt h=>exact mx
 ·cases a with
  |self h=>exact b.up s1.rel.same
  |mt hm =>
   obtain⟨_,vs,c,dn⟩:=s1.rel.mem _ _ hm
   rw[b.mt_];exact gX c (dn.up s1.rel.same)
end
end Z
namespace HD
open PySem PySem.Spec PyProof.Rows
section
variable {E:Value->Shared->Prop}{d:Addr}{o:Obj}{es:Array DictEntry}
end
end HD
namespace HD
open PySem PySem.Spec PyProof.Rows
section
variable {K:Type}[DecidableEq K]{knd:Jy prog w K}{E:Value->Shared->Prop}{d:Addr}{xs:List (K×Addr×Value)}{k:K}{v:Value}
end
end HD
namespace HD
open PySem PySem.Spec PyProof.Rows
section
variable {K:Type}[DecidableEq K]{knd:Jy prog w K}{E:Value->Shared->Prop}{d o:Addr}{xs ys:List (K×Addr×Value)}
end
end HD
namespace Z
open PySem PySem.Spec PyProof.Rows L2
noncomputable def gJ(ks:List (List Int))(k:List Int):List (List Int):=if k∈ks then ks else ks++[k]
theorem aP2(h:ks.Nodup)(k:List Int):(gJ ks k).Nodup:=by
 unfold gJ;split
 ·exact h
 ·rename_i n
  rw[m5]
  exact⟨h,by simp,λx b y a e=>n (by simp at a;rw[<- a,<- e];exact b)⟩
theorem aMF{k j:List Int}:j∈gJ ks k↔j∈ks\/j=k:=by
 unfold gJ;split
 ·exact⟨.inl,λh=>h.elim id λe=>by rw[e];assumption⟩
 ·simp
end Z
namespace Z
open PySem PySem.Spec PyProof.Rows L2
section
variable {b:Addr}{k:List Int}{xs:List (List Int×Addr)}
theorem items_int:∀{ks:List Int}{us:List Value},Vals (ks.map V.int) us->ItemsAre (Jw P w) ks us
 |[],_,r=>by rw[QR] at r;cases r;exact .nil
 |k::ks,_,r=>by
  rw[kj] at r
  cases r with
  |@cons x y l m h t =>
   obtain⟨tk,rfl⟩:=(show ∃t,y=gk k t from h)
   exact .cons (by show pf k (gk k tk)=true;simp[pf]) (items_int t)
end
end Z
namespace Z
open PySem L2
inductive Stt(M:Mem):D->List (List Int)->Prop
 |st (ks:List (List Int)):Stt M (.st ks) ks
 |mt {a:Addr}{ks:List (List Int)} (h:M a=some (.st ks)):Stt M (.mt a) ks
section
variable {K:Fg}
end
section
variable {F:Fin}{a b:Expr}
end
end Z
namespace Z
open PySem L2
section
end
end Z
namespace R
structure Gth(cells:List Cell)(st:List (Int×Int))(s:Cell)(ks ws:List Cell)(busy:Option (Int×Int×List (Int×Int))):Prop where
 s0:s∈ks
 all:∀c∈ks,Rch cells st s c
 sub:∀c∈ks,c∈cells
 nd:ks.Nodup
 ww:∀c∈ws,c∈ks
 cl:∀x y,[x,y]∈ks->[x,y]∈ws\/(∃dn,busy=some (x,y,dn))\/∀d∈st,[x+d.1,y+d.2]∈cells->[x+d.1,y+d.2]∈ks
 bz:∀x y dn,busy=some (x,y,dn)->[x,y]∈ks/\∀d∈dn,[x+d.1,y+d.2]∈cells->[x+d.1,y+d.2]∈ks
section
variable {cells:List Cell}{st:List (Int×Int)}{s:Cell}{ks ws:List Cell}{x y:Int}{dn:List (Int×Int)}{d:Int×Int}
end
end R
namespace Q
open PySem L2 Z
end Q
namespace R
open PySem L2
noncomputable def edge(zs:List Str)(f p b:Nat):Bool:=
 let on:=if f%2=0 then aJ zs (p:Int) (b:Int) else aJ zs (b:Int) (p:Int)
 let off:=if f%2=0 then aJ zs ((p:Int)-1) (b:Int) else aJ zs (b:Int) ((p:Int)-1)
 if f<2 then on && !off else off && !on
abbrev RS:=List (Nat×Nat)×Option Nat
noncomputable def rstep(q:RS)(i:Nat)(t:Bool):RS:=match t,q.2 with
 |true,none=>(q.1,some i)
 |true,some b=>(q.1,some b)
 |false,none=>(q.1,none)
 |false,some b=>(q.1++[(b,i)],none)
noncomputable def rto(bs:List Bool):Nat->RS
 |0=>([],none)
 |n+1=>rstep (rto bs n) n (bs.getD n false)
noncomputable def runs(bs:List Bool):List (Nat×Nat):=(rto (bs++[false]) (bs.length+1)).1
structure RInv(bs:List Bool)(n:Nat)(q:RS):Prop where
 bd:∀p∈q.1,p.1<p.2/\p.2<n
 bg:∀b,q.2=some b->b<n
 len:q.1.length<=n
 any:(q.1≠[]\/q.2≠none)↔∃i,i<n/\bs.getD i false=true
theorem any_succ{bs:List Bool}:(∃i,i<n+1/\bs.getD i false=true)↔((∃i,i<n/\bs.getD i false=true)\/bs.getD n false=true):=by
 constructor
 ·rintro⟨i,a,e⟩
  by_cases h:i=n
  ·subst h;exact .inr e
  ·exact .inl ⟨i,by lia,e⟩
 ·rintro (⟨i,a,e⟩|e)
  ·exact⟨i,by lia,e⟩
  ·exact⟨n,by lia,e⟩
theorem rZ(bs:List Bool):∀n,RInv bs n (rto bs n)
 |0=>⟨λp h=>(nomatch h),λb h=>(nomatch h),qk _,by simp[rto]⟩
 |n+1=>by
  have I:=rZ bs n
  show RInv bs (n+1) (rstep (rto bs n) n (bs.getD n false))
  generalize hq:rto bs n=q at I
  obtain⟨e,bg⟩:=q
  have a:=I.any
  cases ht:bs.getD n false with
  |true =>
   cases bg with
   |none=>exact⟨λp h=>by have:=I.bd p h;lia,λb h=>by cases h;lia,by have:=I.len;simp only[rstep] at *;lia,by rw[any_succ,ht];simp[rstep]⟩
   |some b=>exact⟨λp h=>by have:=I.bd p h;lia,λc h=>by cases h;have:=I.bg b rfl;lia,by have:=I.len;simp only[rstep] at *;lia,by rw[any_succ,ht];simp[rstep]⟩
  |false =>
   cases bg with
   |none=>exact⟨λp h=>by have:=I.bd p h;lia,λb h=>(nomatch h),by have:=I.len;simp only[rstep] at *;lia,by rw[any_succ,ht,<- a];simp[rstep]⟩
   |some b =>
    have d:=I.bg b rfl
    refine⟨λp h => ?_,λc h=>(nomatch h),by have:=I.len;simp only[rstep,qe,ja,xi] at *;lia,by rw[any_succ,ht,<- a];simp[rstep]⟩
    rcases jf.mp h with h|h
    ·have:=I.bd p h;lia
    ·rw[ql] at h;subst h;exact⟨d,xw _⟩
theorem aK8(bs:List Bool)(n:Nat)(h:bs.getD n false=false):(rto bs (n+1)).2=none:=by
 show (rstep (rto bs n) n (bs.getD n false)).2=none
 rw[h]
 generalize rto bs n=q
 obtain⟨b,a⟩:=q
 cases a <;> rfl
theorem aNU{bs:List Bool}{p:Nat×Nat}(h:p∈runs bs):p.1<p.2/\p.2<=bs.length:=by
 have:=(rZ (bs++[false]) (bs.length+1)).bd p h
 lia
theorem zO(bs:List Bool):(runs bs).length<=bs.length+1:=(rZ (bs++[false]) (bs.length+1)).len
theorem getD_snoc(bs:List Bool)(i:Nat):(bs++[false]).getD i false=bs.getD i false:=by
 rw[zGd,zGd]
 by_cases h:i<bs.length
 ·rw[q6 h]
 ·rw[qr '!',qw (l:=bs) '!']
  by_cases a:i-bs.length=0
  ·rw[a];rfl
  ·rw[qw (by simp;lia)]
noncomputable def dR(zs:List Str)(f p n:Nat):List Bool:=(q7 n).map (edge zs f p)
end R
namespace Q
open PySem L2 Z
noncomputable def aT8:Ct:=λds M k=>∃(x y:D) (zs:List Str) (f p b:Nat),ds=[.tup [x,y, .tup (zs.map .str)], .int (f:Int), .int (p:Int), .int (b:Int)]/\(∀z∈zs,z.length<=1000)/\k (.bl (R.edge zs f p b)) M
noncomputable def prD(p:Nat×Nat):D := .tup [.int (p.1:Int), .int (p.2:Int)]
noncomputable def bgD:Option Nat->D
 |some b => .int (b:Int)
 |none => .non
noncomputable def aUL:Ct:=λds M k=>∃bs:List Bool,ds=[.lst (bs.map .bl)]/\bs.length<=1000/\k (.lst ((R.runs bs).map prD)) M
noncomputable def cB(f:Nat)(xs ys:List D):List D:=if f%2=0 then ys else xs
noncomputable def c9(f:Nat)(xs ys:List D):List D:=if f%2=0 then xs else ys
noncomputable def aLF:Ct:=λds M k=>∃(xs ys:List D) (zs:List Str) (f p:Nat),ds=[kC xs ys zs, .int (f:Int), .int (p:Int)]/\(∀z∈zs,z.length<=1000)/\xs.length<=100/\ys.length<=100/\k (.lst ((R.runs (R.dR zs f p ((cB f xs ys).length-1))).map prD)) M
noncomputable def mkS(f:Nat)(l:D)(al:List D)(r:Nat×Nat):D := .tup [.int (f:Int),l,al.getD r.1 .non,al.getD r.2 .non]
noncomputable def mC(zs:List Str)(f:Nat)(al:List D)(p:Nat)(l:D):List D:=(R.runs (R.dR zs f p (al.length-1))).map (mkS f l al)
noncomputable def fX(zs:List Str)(f:Nat)(ls al:List D)(n:Nat):List D:=(q7 n).flatMap λi=>(ls[i]?.map (mC zs f al i)).getD []
noncomputable def fV(zs:List Str)(xs ys:List D)(n:Nat):List D:=(q7 n).flatMap λf=>fX zs f (c9 f xs ys) (cB f xs ys) (c9 f xs ys).length
noncomputable def aTM:Ct:=λds M k=>∃(xs ys:List D) (zs:List Str),ds=[kC xs ys zs]/\(∀z∈zs,z.length<=1000)/\xs.length<=100/\ys.length<=100/\∀a,M a=none->k (.mt a) (bV M a (.lst (fV zs xs ys 4)))
theorem aCJ{f:Nat}{ls:List D}{l:D}(h:ls[i]?=some l):fX zs f ls al (i+1)=fX zs f ls al i++mC zs f al i l:=by
 unfold fX
 rw[x8,cz]
 congr 1
 simp[h]
theorem sU{xs ys:List D}(n:Nat):fV zs xs ys (n+1)=fV zs xs ys n++fX zs n (c9 n xs ys) (cB n xs ys) (c9 n xs ys).length:=by
 unfold fV
 rw[x8,cz]
 congr 1
 simp
theorem nW(zs:List Str)(f p n:Nat):(R.dR zs f p n).length=n:=by simp[R.dR]
theorem aCV{f:Nat}{p:Nat}{l:D}:(mC zs f al p l).length<=al.length-1+1:=by
 unfold mC
 rw[zLm]
 exact qq (R.zO _) (by rw[nW];exact qk _)
theorem pF{zs:List Str}{f:Nat}{ls:List D}(ha:al.length<=100):∀n,(fX zs f ls al n).length<=n*101
 |0=>by simp[fX]
 |n+1=>by
  have a:=pF (zs:=zs) (f:=f) (ls:=ls) ha n
  unfold fX at a ⊢
  rw[x8,cz,qe,Q2]
  refine Qk a ?_
  simp only[nc,List.flatMap_nil,wg]
  cases ls[n]? with
  |none=>simp
  |some x=>exact qq aCV '!'
theorem qL{f:Nat}{xs ys:List D}(hx:xs.length<=100)(hy:ys.length<=100):(cB f xs ys).length<=100:=by unfold cB;split <;> assumption
theorem yF{f:Nat}{xs ys:List D}(hx:xs.length<=100)(hy:ys.length<=100):(c9 f xs ys).length<=100:=by unfold c9;split <;> assumption
theorem pY{zs:List Str}{xs ys:List D}(hx:xs.length<=100)(hy:ys.length<=100):∀n,(fV zs xs ys n).length<=n*10100
 |0=>by simp[fV]
 |n+1=>by
  have a:=pY (zs:=zs) hx hy n
  rw[sU,qe,Q2]
  refine Qk a (qq (pF (qL hx hy) _) ?_)
  have:=yF (f:=n) hx hy
  lia
theorem aBL{xs ys:List D}(f:Nat):atI [D.tup xs, .tup ys, .tup (zs.map .str)] (1-(f:Int)%2)=some (.tup (cB f xs ys)):=by
 rcases Qc f with h|h
 ·have:(f:Int)%2=0:=by lia
  rw[this];unfold cB;rw[if_pos h];rfl
 ·have:(f:Int)%2=1:=by lia
  rw[this];unfold cB;rw[if_neg '!'];rfl
theorem aJZ{xs ys:List D}(f:Nat):atI [D.tup xs, .tup ys, .tup (zs.map .str)] ((f:Int)%2)=some (.tup (c9 f xs ys)):=by
 rcases Qc f with h|h
 ·have:(f:Int)%2=0:=by lia
  rw[this];unfold c9;rw[if_pos h];rfl
 ·have:(f:Int)%2=1:=by lia
  rw[this];unfold c9;rw[if_neg '!'];rfl
theorem aJW(bs:List Bool):bs.map D.bl++[D.bl false]=(bs++[false]).map D.bl:=by simp
theorem aNL{bs:List Bool}{t:Bool}(h:bs[i]?=some t):bs.getD i false=t:=by rw[zGd,h];rfl
theorem at_getD(h:i<al.length):atI al (i:Int)=some (al.getD i .non):=by
 rw[zGd,zGe h]
 exact dD (zGe h)
noncomputable def rB:D->D
 |.tup (f::l::_) => .tup [f,l]
 |d=>d
noncomputable def fB(acc:List D)(s:D):List D:=match acc.getLast? with
 |none=>acc++[rB s]
 |some e=>if eqD e (rB s)=true then acc else acc++[rB s]
noncomputable def oF(ss:List D):List D:=ss.foldl fB []
noncomputable def xA(d:D):Prop:=∃f l,d = .tup [f,l]/\okD 2 (.tup [f,l])=true
noncomputable def aBT(d:D):Prop:=∃f l b e,d = .tup [f,l,b,e]/\okD 2 (.tup [f,l])=true
noncomputable def aJD:Ct:=λds M k=>∃ss:List D,ds=[.lst ss]/\(∀s∈ss,aBT s)/\ss.length<=60000/\∀a,M a=none->k (.mt a) (bV M a (.lst (oF ss)))
theorem aEY(acc:List D)(s:D):(fB acc s).length<=acc.length+1:=by
 unfold fB
 split
 ·simp
 ·split <;> simp
theorem aA3:∀(ss:List D) (acc:List D),(ss.foldl fB acc).length<=acc.length+ss.length
 |[],acc=>qk _
 |s::ss,acc=>by
  have:=aA3 ss (fB acc s)
  have a:=aEY acc s
  rw[yp,ja]
  omega
theorem aHV{acc:List D}{s:D}(ha:∀d∈acc,xA d)(hs:aBT s):∀d∈fB acc s,xA d:=by
 obtain⟨f,l,b,e,rfl,ok⟩:=hs
 have a:∀d∈acc++[rB (.tup [f,l,b,e])],xA d:=λd hd=>by
  rcases jf.mp hd with h|h
  ·exact ha d h
  ·rw[ql] at h;subst h;exact⟨f,l,rfl,ok⟩
 unfold fB
 split
 ·exact a
 ·split
  ·exact ha
  ·exact a
theorem aEA:∀{ss:List D}{acc:List D},(∀d∈acc,xA d)->(∀s∈ss,aBT s)->∀d∈ss.foldl fB acc,xA d
 |[],acc,ha,_=>ha
 |s::ss,acc,ha,hs=>aEA (ss:=ss) (aHV ha (hs s '%')) λt a=>hs t (by simp[a])
theorem aJ0{ss:List D}{s:D}(h:ss[i]?=some s):oF (ss.take (i+1))=fB (oF (ss.take i)) s:=by
 unfold oF
 rw[J0,h,List.foldl_append];rfl
theorem yT(acc:List D)(e s:D):fB (acc++[e]) s=if eqD e (rB s)=true then acc++[e] else acc++[e]++[rB s]:=by
 unfold fB
 rw[List.getLast?_concat]
end Q
namespace R
open PySem L2
end R
namespace Q
open PySem L2 Z
theorem rT(z:Str)(zr:List Str):atI ((z::zr).map D.str) 0=some (.str z):=dD (j:=0) rfl
theorem aFA(z:Str)(js:List Nat):nj xl (js.map λj=>(⟨#[R.atS z j]⟩:Str))=R.ofL (js.map (R.atS z)):=by
 have:=R.wP (js.map (R.atS z))
 rw[ve] at this
 exact this
noncomputable def aOU:Ct:=λds M k=>∃(z:Str) (js:List Nat),ds=[.str z, .lst (eJ js)]/\z.length<=1000/\js.length<=1000/\(∀j∈js,j<z.length)/\k (.str (R.ofL (js.map (R.atS z)))) M
noncomputable def rF(xs ys:List D)(zs:List Str):D:=kC (yY xs (R.chg (R.aK zs))) (yY ys (R.chg zs)) (R.cH zs)
noncomputable def Two(cells:List R.Cell):Prop:=∀c∈cells,∃a b:Int,c=[a,b]
structure Grp(cells:List R.Cell)(st:List (Int×Int))(n:Nat)(gs:List (List R.Cell)):Prop where
 len:gs.length=(R.starts cells st n).length
 at_:∀(j:Nat) s,(R.starts cells st n)[j]?=some s->∃ks,gs[j]?=some ks/\∀c,c∈ks↔R.Rch cells st s c
noncomputable def aUN(cells:List R.Cell)(st:List (Int×Int))(s:R.Cell)(w h:Nat):List Str:=R.rowsOf (λa u => @decide (R.Rch cells st s [a,u]) (zp _)) w h
noncomputable def aD9(xs ys:List D)(cells:List R.Cell)(st:List (Int×Int))(ss:List R.Cell):List D:=ss.map λs=>rF xs ys (aUN cells st s (xs.length-1) (ys.length-1))
noncomputable def straight:List (Int×Int):=[(1,0),(0,1),(-1,0),(0, -1)]
noncomputable def aBA:List (Int×Int):=[(1,0),(1,1),(0,1),(-1,1),(-1,0),(-1, -1),(0, -1),(1, -1)]
noncomputable def pcs(xs ys:List D)(zs:List Str):List D:=aD9 xs ys (R.oK zs true xs.length ys.length) straight (R.starts (R.oK zs true xs.length ys.length) straight (R.oK zs true xs.length ys.length).length)
theorem aLQ:("#" : Str)=⟨#[35]⟩:=by decide +kernel
theorem aOB(hm:X.mg x=some (.ref a))(hd:∀G,Den X.K G d (.ref a))(h:k d M)(hg:Gl X x:=by rfl)(hb:(x==("__debug__" : Str))=false:=by decide):GE X (.Name x pos) Γ M k:=
 λσ G H Q c b q=>cM (aD6 (v := .ref a) hg hm rfl hb) (q _ G H d M (Stp.refl b) (hd G) h)
noncomputable def al9(all:Bool)(r u:Int):Bool:=all||r*u==0
noncomputable def st9(all:Bool):List (Int×Int):=[(-1, -1),(-1,0),(-1,1),(0, -1),(0,0),(0,1),(1, -1),(1,0),(1,1)].filter λd=>al9 all d.1 d.2
noncomputable def l3:List Int:=[-1,0,1]
theorem aQ6{K:Fg}{i j:Int}{ti tj:Nat}{sl:Array (Option Value)}(h:K.lookup a=some ⟨.type "tuple", od, .seq #[.int i ti, .int j tj] n,sl⟩):Den K G (pairD (i,j)) (.ref a):=
 iA (vs:=[.int i, .int j]) (.inr ⟨_,_,_,h,rfl,rfl,(by show (2:Nat)<=sizeLine;decide), .cons ⟨ti,rfl⟩ (.cons ⟨tj,rfl⟩ .nil)⟩) (cD cP (cD cP cZ))
theorem nR:∀as:List Addr,Vals (as.map V.ref) (as.map jw)
 |[] => .nil
 |a::as => .cons rfl (nR as)
noncomputable def hls(xs ys:List D)(zs:List Str):List D:=aD9 xs ys (R.oK zs false xs.length ys.length) aBA ((R.starts (R.oK zs false xs.length ys.length) aBA (R.oK zs false xs.length ys.length).length).drop 1)
end Q
namespace HT
open PySem PySem.Spec PyProof.Rows
section
variable {E:Value->Shared->Prop}
end
end HT
namespace L2
open PySem PySem.Spec PyProof.Rows
section
end
end L2
namespace Z
open PySem L2
theorem aEZ{α:Type}(l:List α):cutD l (some 1) none=l.drop 1:=by
 unfold cutD
 have b:HT.sIx l.length 0 (some 1)=min 1 l.length:=HT.aO9 l.length 0 1
 have a:HT.sIx l.length l.length none=l.length:=rfl
 rw[b,a]
 by_cases h:1<=l.length
 ·rw[Nat.min_eq_left h,QO (by rw[w4];exact qk _)]
 ·have:l=[]:=v8.mp '$'
  subst this;rfl
end Z
namespace Q
open PySem L2 Z
mutual
noncomputable def tameB:Nat->D->Bool
 |_, .non|_, .bl _=>true
 |_, .int i=>decide (i.natAbs<10^65)
 |_, .str z=>decide (z.length<=1000)
 |n+1, .tup ds=>decide (ds.length<=100)&&tamesB n ds
 |n+1, .lst ds=>decide (ds.length<=100)&&tamesB n ds
 |_,_=>false
noncomputable def tamesB:Nat->List D->Bool
 |_,[]=>true
 |n,d::ds=>tameB n d&&tamesB n ds
end
mutual
theorem tame_ok:∀(n:Nat) (d:D),tameB n d=true->okD n d=true
 |_, .non,_=>by simp only[okD]
 |_, .bl _,_=>by simp only[okD]
 |_, .int _,_=>by simp only[okD]
 |_, .str _,_=>by simp only[okD]
 |n+1, .tup ds,h=>by
  simp only[tameB,qx] at h
  simp only[okD];exact tames_ok n ds h.2
 |n+1, .lst ds,h=>by
  simp only[tameB,qx] at h
  simp only[okD];exact tames_ok n ds h.2
 |0, .tup _,h=>by simp[tameB] at h
 |0, .lst _,h=>by simp[tameB] at h
 |_, .mt _,h=>by simp[tameB] at h
 |_, .fl _,h=>by simp[tameB] at h
 |_, .st _,h=>by simp[tameB] at h
theorem tames_ok:∀(n:Nat) (ds:List D),tamesB n ds=true->okDs n ds=true
 |_,[],_=>by simp only[okDs]
 |n,d::ds,h=>by
  simp only[tamesB,qx] at h
  simp only[okDs,tame_ok n d h.1,tames_ok n ds h.2,vz]
end
theorem aKW(h:tameB n d=true):Slv d:=by
 cases d <;> first|exact trivial|(exfalso;simp[tameB] at h)
theorem zL{z:Str}(h:tameB n (.str z)=true):z.length<=1000:=by simpa[tameB] using h
mutual
theorem tame_up:∀(n:Nat) (d:D),tameB n d=true->tameB (n+1) d=true
 |_, .non,_=>by simp only[tameB]
 |_, .bl _,_=>by simp only[tameB]
 |_, .int _,h=>by simpa only[tameB] using h
 |_, .str _,h=>by simpa only[tameB] using h
 |n+1, .tup ds,h=>by
  simp only[tameB,qx] at h ⊢
  exact⟨h.1,tames_up n ds h.2⟩
 |n+1, .lst ds,h=>by
  simp only[tameB,qx] at h ⊢
  exact⟨h.1,tames_up n ds h.2⟩
 |0, .tup _,h=>by simp[tameB] at h
 |0, .lst _,h=>by simp[tameB] at h
 |_, .mt _,h=>by simp[tameB] at h
 |_, .fl _,h=>by simp[tameB] at h
 |_, .st _,h=>by simp[tameB] at h
theorem tames_up:∀(n:Nat) (ds:List D),tamesB n ds=true->tamesB (n+1) ds=true
 |_,[],_=>by simp only[tamesB]
 |n,d::ds,h=>by
  simp only[tamesB,qx] at h ⊢
  exact⟨tame_up n d h.1,tames_up n ds h.2⟩
end
theorem sS(z:Str):isD "str" (.str z)=true:=rfl
theorem iI(i:Int):isD "int" (.int i)=true:=rfl
theorem bI(i:Int):isD "bool" (.int i)=false:=rfl
theorem aQO(d:D):(∃z,d = .str z)\/(isD "str" d=false/\∀z,d ≠ .str z):=by
 cases d with
 |str ls=>exact .inl ⟨ls,rfl⟩
 |_=>exact .inr ⟨rfl,λ_ h=>nomatch h⟩
noncomputable def isW:D->Bool
 |.int _=>true
 |_=>false
theorem aTB(d:D):(∃i,d = .int i)\/(isW d=false/\(isD "int" d=false\/isD "int" d=true/\isD "bool" d=true)):=by
 cases d with
 |int i=>exact .inl ⟨i,rfl⟩
 |bl b=>exact .inr ⟨rfl, .inr ⟨rfl,rfl⟩⟩
 |_=>exact .inr ⟨rfl, .inl rfl⟩
noncomputable def ltP(p q:Int×Int):Bool:=decide (p.1*q.2<q.1*p.2)
noncomputable def j7(w:Nat):D->Bool
 |.str z=>decide (z.length=w)&&z.cps.toList.all λc=>c==35||c==46
 |_=>false
theorem aSU{w:Nat}(h:∀z,d ≠ .str z):j7 w d=false:=by
 cases d with
 |str z=>exact absurd rfl (h z)
 |_=>rfl
noncomputable def k6(rs:List D)(nx ny:Nat):Bool:=decide (rs.length=ny-1)&&rs.all (j7 (nx-1))
noncomputable def toS:D->Str
 |.str z=>z
 |_=>xl
noncomputable def Sq2(t:Bool)(d:D)(ds:List D):Prop:=d=if t=true then .lst ds else .tup ds
noncomputable def aLX:Ct:=λds M k=>∃d,ds=[d]/\Slv d/\k (.bl (isW d)) M
noncomputable def aR1:Ct:=λds M k=>∃d n w,ds=[d, .int ((w:Nat):Int)]/\tameB n d=true/\k (.bl (j7 w d)) M
noncomputable def aUP:Ct:=λds M k=>∃t dr dx dy rs xs ys n,ds=[dr,dx,dy]/\Sq2 t dr rs/\Sq2 t dx xs/\Sq2 t dy ys/\(∀r∈rs,tameB n r=true)/\rs.length<=100/\xs.length<=100/\ys.length<=100/\k (.bl (k6 rs xs.length ys.length)) M
noncomputable def aKD:Ct:=λds M k=>∃(t:Bool) (r:D) (zs:List Str) (n j:Nat),ds=[r, .int (j:Int)]/\Sq2 t r (zs.map .str)/\zs.length<=1000/\n<=1000/\(∀z∈zs,z.length=n)/\j<n/\k (.str (R.ofL (zs.map (R.atS · j)))) M
noncomputable def aHL:Ct:=λds M k=>∃(t:Bool) (r:D) (zs:List Str) (n:Nat),ds=[r]/\Sq2 t r (zs.map .str)/\zs.length<=1000/\n<=1000/\(∀z∈zs,z.length=n)/\k (.lst ((R.aK zs).map .str)) M
noncomputable def aH8:Ct:=λds M k=>∃(t:Bool) (r:D) (zs:List Str) (n:Nat),ds=[r]/\Sq2 t r (zs.map .str)/\zs.length<=1000/\n<=1000/\(∀z∈zs,z.length=n)/\k (.lst (eJ (R.chg zs))) M
noncomputable def aKJ:Ct:=λds M k=>∃(t:Bool) (dx dy dr:D) (xs ys:List D) (zs:List Str) (n:Nat),ds=[dx,dy,dr]/\Sq2 t dx xs/\Sq2 t dy ys/\Sq2 t dr (zs.map .str)/\zs.length<=900/\n<=900/\(∀z∈zs,z.length=n)/\(∀j∈R.chg (R.aK zs),j<xs.length)/\(∀j∈R.chg zs,j<ys.length)/\k (rF xs ys zs) M
theorem maxz0(n:Nat):(if 0>(n:Int)-1 then 0 else (n:Int)-1)=((n-1:Nat):Int):=by split <;> omega
theorem aAH{α:Type}(f:α->Bool)(l:List α):(l.map f).all id=l.all f:=by rw[gu];rfl
theorem aK9{K:Fg}{y:Str}(h:k (.bl (!(yn y x 0 y.length 1).isEmpty)) M):Op2 K (λx y H Q=>∃i j,x = .str i/\y = .str j/\Q (.bl (!(yn j i 0 j.length 1).isEmpty)) H) (.str x) (.str y) M k:=λG H v1 v2 Q b c a q =>
 ⟨x,y,c.str_,a.str_,q _ _ _ _ _ (Stp.refl b) dU h⟩
theorem tf(b:Bool):b=false\/b=true:=by cases b <;> simp
theorem uX{b:Bool}{P Q:Prop}(h:b=true)(p:P):if b=true then P else Q:=by rw[if_pos h];exact p
theorem rO{b:Bool}{P Q:Prop}(h:b=false)(p:Q):if b=true then P else Q:=by rw[if_neg (by rw[h];exact zBf)];exact p
theorem rY:R.chg []=[]:=by decide +kernel
theorem iN(h:zs.length=ny-1):∀j∈R.chg zs,j<ny:=λj a=>by
 have:=R.eX zs j a
 cases zs with
 |nil=>rw[rY] at a;cases a
 |cons z zr=>rw[ja] at h this;omega
theorem iE(h:∀z∈zs,z.length=nx-1):∀j∈R.chg (R.aK zs),j<nx:=λj a=>by
 have b:=(R.tT h).1
 have:=R.eX _ j a
 cases hc:R.aK zs with
 |nil=>rw[hc,rY] at a;cases a
 |cons z zr=>rw[hc] at b this;rw[ja] at b this;omega
theorem aKV{xs ys:List D}(zs:List Str)(hx:∀x∈xs,okD 1 x=true)(hy:∀y∈ys,okD 1 y=true):okD 3 (kC xs ys zs)=true:=by
 have b:=oM hx
 have a:=oM hy
 have c:okDs 1 (zs.map D.str)=true:=oM λd hd=>by obtain⟨z,_,rfl⟩:=qo.mp hd;rfl
 simp only[kC,okD,okDs,b,a,c,vz]
end Q
namespace Z
open PySem L2 PySem.Spec PyProof.Rows
section
variable {K:Fg}{es:List D}
end
end Z
namespace Q
open PySem L2 Z
theorem aI9{P:Bool->Mem->Prop}(h:GT X e Γ M P)(hk:∀c M1,P c M1->kb c M1):GT X e Γ M kb:=λσ G H Q d f q=>h σ G H Q d f λb G' H' M' s a=>q b G' H' M' s (hk _ _ a)
theorem wV{α:Type}{l:List α}(h:l≠[]):∃r x,l=r++[x]:=by
 rcases QX l with e|⟨r,x,e⟩
 ·exact absurd e h
 ·exact⟨r,x,by simpa using e⟩
structure TT(n:Nat)(xs:List D):Prop where
 len:xs.length<=n
 each:∀x∈xs,tameB 2 x=true
theorem aPJ(hz:∀z∈zs,z.length<=1000)(hl:zs.length<=n):TT n (zs.map .str):=⟨by rw[zLm];exact hl,λx b=>by
 obtain⟨z,a,rfl⟩:=qo.mp b
 simp only[tameB,decide_eq_true_eq]
 exact hz z a⟩
theorem aIJ{z:Str}(h:z.length<=1000):tameB n (.str z)=true:=by cases n <;> simpa only[tameB,decide_eq_true_eq] using h
theorem two{x y:D}(hx:tameB n x=true)(hy:tameB n y=true):∀d∈[x,y],tameB n d=true:=λd hd=>by
 simp only[qp,vy,or_false] at hd
 rcases hd with rfl|rfl <;> assumption
end Q
namespace Z
open PySem L2
end Z
namespace Q
open PySem L2 Z
theorem aTQ(h:zs.length=ny-1)(hz:∀z∈zs,z.length=nx-1):k6 (zs.map .str) nx ny=zs.all λz=>z.cps.toList.all R.sgn:=by
 unfold k6
 rw[zLm,decide_eq_true h,K0,gu]
 rw[xj,jn,jn]
 constructor
 ·intro a z b
  have:=a z b
  simp only[J8,j7,qx] at this
  exact this.2
 ·intro a z b
  simp only[J8,j7,qx]
  exact⟨decide_eq_true (hz z b),a z b⟩
noncomputable def sc(c:Nat)(l:List Nat):Int:=(l.map λn=>if decide (n=c)=true then (1:Int) else 0).sum
end Q
namespace HD
open PySem PySem.Spec PyProof.Rows
section
variable {K:Type}[DecidableEq K]{knd:Jy prog w K}{E:Value->Shared->Prop}{d:Addr}{xs:List (K×Addr×Value)}{k:K}
end
end HD
namespace HD
open PySem PySem.Spec PyProof.Rows
section
variable {K:Type}[DecidableEq K]{knd:Jy prog w K}{E:Value->Shared->Prop}{o:Addr}{ys:List (K×Addr×Value)}
end
end HD
namespace HD
open PySem PySem.Spec PyProof.Rows
section
variable {E:Value->Shared->Prop}{d o:Addr}{od oo:Obj}{es eo:Array DictEntry}{e2:Nat}
end
end HD
namespace Z
open PySem L2
section
end
end Z
namespace Z
open PySem L2
end Z
namespace HD
open PySem PySem.Spec PyProof.Rows
end HD
namespace Z
open PySem L2
end Z
namespace HT
open PySem PyProof.Rows
section
open PySem.SeqAt
open PySem.AutoSeq1 (wpAny_loadPart')
open PySem.MeetsSeq PySem.MeetsSeq2 PySem.MeetsSeq3
end
end HT
namespace Z
open PySem L2
section
variable {F:Fin}{body:List Stmt}
end
end Z
namespace Z
open PySem L2
noncomputable def tk(M:Mem)(b:Addr):Bool:=match M b with
 |some '*'=>true
 |_=>false
noncomputable def aUM(G H:Hp)(M:Mem):Hp:=λb=>if tk M b=true then H b else G b
noncomputable def qR(G1:Hp)(M:Mem):Hp:=λb=>if tk M b=true then none else G1 b
mutual
noncomputable def noL:D->Bool
 |.non|.bl _|.int _|.str _=>true
 |.tup ds=>noLs ds
 |_=>false
noncomputable def noLs:List D->Bool
 |[]=>true
 |d::ds=>noL d&&noLs ds
end
section
variable {K:Fg}{G1:Hp}
theorem aFL{vs:List V}(hl:∀b,tk M b=true->∃ws,G1 b=some (.lst ws))(h:SqT K G1 a vs):SqT K (qR G1 M) a vs:=by
 rcases h with h|h
 ·refine .inl ?_
  have ne:¬tk M a=true:=λt=>by
   obtain⟨ws,e⟩:=hl a t
   rcases h with h|⟨o,h⟩ <;> rw[e] at h <;> cases h
  have e:qR G1 M a=G1 a:=by unfold qR;rw[if_neg ne]
  rcases h with h|⟨o,h⟩
  ·exact .inl (e.trans h)
  ·exact .inr ⟨o,e.trans h⟩
 ·exact .inr h
mutual
theorem den_strip(hl:∀b,tk M b=true->∃ws,G1 b=some (.lst ws)):∀(d:D) {v:V},noL d=true->Den K G1 d v->Den K (qR G1 M) d v
 |.non,_,_,h=>by simp only[Den] at h ⊢;exact h
 |.bl _,_,_,h=>by simp only[Den] at h ⊢;exact h
 |.int _,_,_,h=>by simp only[Den] at h ⊢;exact h
 |.str _,_,_,h=>by simp only[Den] at h ⊢;exact h
 |.tup ds,_,n,h=>by
  simp only[noL] at n
  simp only[Den] at h ⊢
  obtain⟨a,vs,e,q,r⟩:=h
  exact⟨a,vs,e,aFL hl q,dens_strip hl ds n r⟩
 |.mt _,_,n,_=>by simp[noL] at n
 |.lst _,_,n,_=>by simp[noL] at n
 |.fl _,_,n,_=>by simp[noL] at n
 |.st _,_,n,_=>by simp[noL] at n
theorem dens_strip(hl:∀b,tk M b=true->∃ws,G1 b=some (.lst ws)):∀(ds:List D) {vs:List V},noLs ds=true->Dens K G1 ds vs->Dens K (qR G1 M) ds vs
 |[],_,_,h=>by simp only[Dens] at h ⊢;exact h
 |d::ds,_,n,h=>by
  simp only[noLs,qx] at n
  simp only[Dens] at h ⊢
  obtain⟨v,r,e,c,a⟩:=h
  exact⟨v,r,e,den_strip hl d n.1 c,dens_strip hl ds n.2 a⟩
end
end
noncomputable def Ln(M:Mem)(d d':D):Prop:=∀K G H v,Rel K G H M->Den K G d v->Den K (aUM G H M) d' v
inductive LnE(M:Mem):Gm->Gm->Prop
 |n:LnE M [] []
 |s {o:Option D}{Γ Γ':Gm} (r:LnE M Γ Γ'):LnE M (o::Γ) (none::Γ')
 |c {d d':D}{Γ Γ':Gm} (h:Ln M d d') (r:LnE M Γ Γ'):LnE M (some d::Γ) (some d'::Γ')
section
variable {Γ':Gm}{d0:D}{b0:Bool}
end
end Z
namespace Z
open PySem L2
section
variable {a b:Expr}
theorem uE{n:Int}{t:Tok}(hm:X.mg x=some (.int n t))(h:k (.int n) M)(hg:Gl X x:=by rfl)(hb:(x==("__debug__" : Str))=false:=by decide):GE X (.Name x pos) Γ M k:=
 λσ G H Q b a q=>cM (aD6 (v := .int n) hg hm ⟨t,rfl⟩ hb) (q _ G H _ M (Stp.refl a) cP h)
theorem aKF{op op':KF}{r r':R2}(ho:OpR X (wh op) r)(ho':OpR X (wh op') r')(h:GE X a Γ M λd1 M1=>GE X b Γ M1 λd2 M2=>Op2 X.K r d1 d2 M2 λe M3=>∃t,e = .bl t/\if t=true then GE X c Γ M3 λd3 M4=>Op2 X.K r' d2 d3 M4 k else k (.bl false) M3)(hm:Kc [op,op'] [b,c]=false:=by with_unfolding_all rfl):GE X (.Compare a [op,op'] [b,c] pos) Γ M k:=λσ G H Q g n q=>by
 refine cM (aK3 ho ho' pU pU pU hm) ?_
 refine h σ G H _ g n λv1 G1 H1 d1 M1 s1 o m => ?_
 refine m σ G1 H1 _ (g.up s1.gg) s1.rel λv2 G2 H2 d2 M2 s2 i j => ?_
 refine j G2 H2 v1 v2 _ s2.rel (o.up s2.gg) i λz G3 H3 d3 M3 s3 s ⟨t,l,f⟩ => ?_
 subst l
 have d:=(s1.trans s2).trans s3
 refine⟨t,s.bl_,?_⟩
 cases t with
 |true =>
  rw[if_pos rfl] at f ⊢
  refine f σ G3 H3 _ (g.up d.gg) s3.rel λw G4 H4 v M4 s4 u p => ?_
  exact p G4 H4 v2 w Q s4.rel (i.up (s3.trans s4).gg) u (q.up (d.trans s4))
 |false =>
  rw[if_neg zBf] at f ⊢
  exact q _ _ _ _ _ d dU f
theorem aBB{op op':KF}{r r':R2}(ho:OpR X (wh op) r)(ho':OpR X (wh op') r')(h:GE X a Γ M λd1 M1=>GE X b Γ M1 λd2 M2=>Op2 X.K r d1 d2 M2 λe M3=>∃t,e = .bl t/\if t=true then GE X c Γ M3 λd3 M4=>Op2 X.K r' d2 d3 M4 λd M5=>∃s,d = .bl s/\kb s M5 else kb false M3)(hm:Kc [op,op'] [b,c]=false:=by with_unfolding_all rfl):GT X (.Compare a [op,op'] [b,c] pos) Γ M kb:=λσ G H Q j o q=>by
 refine qP (aLS ho ho' pU pU pU hm) ?_
 refine h σ G H _ j o λv1 G1 H1 d1 M1 s1 p n => ?_
 refine n σ G1 H1 _ (j.up s1.gg) s1.rel λv2 G2 H2 d2 M2 s2 k m => ?_
 refine m G2 H2 v1 v2 _ s2.rel (p.up s2.gg) k λz G3 H3 d3 M3 s3 x ⟨t,i,g⟩ => ?_
 subst i
 have f:=(s1.trans s2).trans s3
 refine⟨t,x.bl_,?_⟩
 cases t with
 |true =>
  rw[if_pos rfl] at g ⊢
  refine g σ G3 H3 _ (j.up f.gg) s3.rel λw G4 H4 C M4 s4 y v => ?_
  refine v G4 H4 v2 w _ s4.rel (k.up (s3.trans s4).gg) y λu G5 H5 B M5 s5 A ⟨s,i,l⟩ => ?_
  subst i
  exact⟨s,A.bl_,q _ _ _ _ ((f.trans s4).trans s5) l⟩
 |false =>
  rw[if_neg zBf] at g ⊢
  exact⟨false,rfl,q _ _ _ _ f g⟩
end
end Z
namespace Q
open PySem L2 Z
noncomputable def p1(x:Int):Int×Int:=(x,1)
noncomputable def iK(xs:List Int):List D:=(xs.map p1).map pairD
structure Up7(xs:List Int):Prop where
 up:xs.Pairwise (· < ·)
 few:xs.length<=7
 bd:∀x∈xs, -1000000000<=x/\x<=1000000000
noncomputable def dv(a b:Int):Int:=if b<0 then -((wb a b:Nat):Int) else ((wb a b:Nat):Int)
noncomputable def lowP(a b:Int):Int×Int:=(a.fdiv (dv a b),b.fdiv (dv a b))
noncomputable def aOJ:Ct:=λds M k=>∃a b:Int,ds=[.int a, .int b]/\b≠0/\b.natAbs<10^1000/\k (pairD (lowP a b)) M
noncomputable def aHS:Ct:=λds M k=>∃a b:Int,ds=[.int a, .int b]/\b≠0/\b.natAbs<10^1000/\k (pairD (lowP a b)) M
noncomputable def aFY:Ct:=λds M k=>∃x:Int,ds=[.int x] /\ -1000000000<=x/\x<=1000000000/\k (.bl true) M
noncomputable def aCA:Ct:=λds M k=>∃xs:List Int,ds=[.lst (xs.map .int)]/\Up7 xs/\k (.bl true) M
noncomputable def aUA:Ct:=λds M k=>∃(xs ys:List Int) (zs:List Str),ds=[.lst (xs.map .int), .lst (ys.map .int), .lst (zs.map .str)]/\Up7 xs/\Up7 ys/\R.Good (xs.length-1) zs/\zs.length=ys.length-1/\k (rF (iK xs) (iK ys) zs) M
theorem low1(x:Int):lowP x 1=p1 x:=by
 have e:dv x 1=1:=by unfold dv;rw[if_neg '#',Int.gcd_one];rfl
 unfold lowP p1
 rw[e,Int.fdiv_one]
 rfl
theorem lL(ds:List D):isD "list" (.lst ds)=true:=rfl
theorem all_true(n:Nat):(jz n true).all id=true:=by
 rw[jn];intro b hb;rw[(List.mem_replicate.mp hb).2];rfl
theorem int_at(h:i<xs.length):atI (xs.map D.int) (i:Int)=some (.int xs[i]):=dD (by rw[qg,zGe h];rfl)
theorem u5(xs:List Int):(iK xs).length=xs.length:=by unfold iK;rw[zLm,zLm]
theorem aLJ(h:R.Good n zs):(zs.all λz=>z.cps.toList.all R.sgn)=true:=jn.mpr λz hz=>(h z hz).2
theorem TT.tame1(h:TT n (zs.map .str)):∀r∈zs.map D.str,tameB 1 r=true:=λr hr=>by
 obtain⟨z,hz,rfl⟩:=qo.mp hr
 exact aIJ (zL (h.each _ hr))
theorem d7(h:xs.Pairwise (· < ·))(hij:i<=j)(hj:j<xs.length):xs.getD i 0<=xs.getD j 0:=by
 rw[zGd,zGd,zGe (show i<xs.length by lia),zGe hj]
 by_cases e:i=j
 ·subst e;exact WI _
 ·exact nu (jj.mp h i j '!' hj '!')
theorem iR(h:xs.Pairwise (· < ·))(hij:i<j)(hj:j<xs.length):xs.getD i 0<xs.getD j 0:=by
 rw[zGd,zGd,zGe (show i<xs.length by lia),zGe hj]
 exact jj.mp h i j '!' hj '!'
end Q
namespace L2
open PySem PySem.Spec PyProof.Rows
section
end
end L2
namespace Z
open PySem L2
section
variable {a b:Expr}{rest:List Expr}
end
end Z
namespace Q
open PySem L2 Z
structure Bg(p:Int×Int):Prop where
 a:p.1.natAbs<10^400
 b:p.2.natAbs<10^400
 c:p.2≠0
theorem big400{i:Int}(h:i.natAbs<10^400):i.natAbs<big:=qy h (by unfold big;decide)
theorem aAD{p q:Int×Int}(hp:Bg p)(hq:Bg q):p.2*q.2≠0/\(p.2*q.2).natAbs<10^1000:=by
 refine⟨ze hp.c hq.c,?_⟩
 rw[vi]
 refine qy (KB hp.b hq.b) ?_
 rw[<- lu]
 exact w3 '#' '#'
noncomputable def In9(ws:List Int):Prop:=∀i,(ws.getD i 0).natAbs<=1000000000
noncomputable def b6(K:List Str)(bx bu:List Int):List Bool:=bu.flatMap λu=>bx.map λa=>R.aJ K a u
noncomputable def jR(l:List Bool):Str:=if l.all id then "in" else if l.any id then "rim" else "out"
theorem aE3(K:List Str)(bx bu:List Int)(h1:bx.length<=2)(h2:bu.length<=2):(b6 K bx bu).length<=4:=by
 unfold b6
 match bu,h2 with
 |[],_=>simp
 |[a],_=>simp;omega
 |[a,b],_=>simp;omega
noncomputable def lowG(t b:Int):Int×Int:=(t.fdiv ((wb t b:Nat):Int),b.fdiv ((wb t b:Nat):Int))
structure Spot(xs:List Int)(v:Int×Int)(cols:List Int):Prop where
 pos:0<v.2
 sm:v.1.natAbs<10^65/\v.2.natAbs<10^65
 at_:(∃k:Nat,k<xs.length/\v=p1 (xs.getD k 0)/\cols=[(k:Int)-1,(k:Int)])\/(∃k:Int,cols=[k]/\∀i,i<xs.length->(xs.getD i 0*v.2<v.1↔(i:Int)<=k)/\xs.getD i 0*v.2≠v.1)
end Q
namespace PySem
namespace F
end F
section
variable {E:Value->Shared->Prop}
end
end PySem
namespace PySem
open PyProof.Rows
section
variable {E:Value->Shared->Prop}{I:Addr}
end
end PySem
namespace PySem
open PyProof.Rows
open Builtin Builtin.Str Builtin.Int
section
variable {E:Value->Shared->Prop}{I:Addr}
end
end PySem
namespace L2
open PySem PySem.Spec PyProof.Rows
section
end
end L2
namespace Z
open PySem L2
section
variable {a b:Expr}{rest:List Expr}
end
end Z
namespace Q
open PySem L2 Z
theorem aQM{t:Int}(hb:0<b):lowP t b=lowG t b:=by
 unfold lowP lowG dv
 rw[if_neg '!']
structure Tidy2(K:List Str)(a b:Nat):Prop where
 v:(K=[]/\a=0/\b=0)\/(K≠[]/\R.chg K=q7 b/\R.chg (R.aK K)=q7 a/\R.Good (a-1) K/\K.length+1=b/\2<=a/\2<=b)
theorem Tidy2.good{K:List Str}{a b:Nat}(h:Tidy2 K a b):R.Good (a-1) K/\K.length=b-1:=by
 rcases h.v with ⟨rfl,rfl,rfl⟩|⟨_,_,_,g,l,_,_⟩
 ·exact⟨λz hz=>(nomatch hz),rfl⟩
 ·exact⟨g,by lia⟩
theorem aE6(g:R.Good n zs):Tidy2 (R.cH zs) (R.chg (R.aK zs)).length (R.chg zs).length:=by
 by_cases c:R.aS zs=[]
 ·obtain⟨b,a⟩:=R.yM (λz d=>(g z d).1) c
  refine⟨.inl ⟨?_,?_,?_⟩⟩
  ·unfold R.cH;rw[b] <;> first|rfl|(rw[a];rfl)
  ·first|(rw[a];rfl)|(rw[b];rfl)
  ·first|(rw[b];rfl)|(rw[a];rfl)
 ·obtain⟨t1,t2,t3,t4,t5,t6⟩:=R.aFW g c
  have e:(R.cH zs).length=(R.chg zs).length-1:=by unfold R.cH;rw[zLm,vc]
  exact⟨.inr ⟨t3,t1,t2,t4,by lia,t5,t6⟩⟩
structure By(w:Nat)(p:Int×Int):Prop where
 b0:0<p.2
 b9:p.2<=9
 a20:p.1.natAbs<=20
 a0:w=3->0<p.1
end Q
namespace U
open PySem
noncomputable def inY(ws us:List Rat)(K:List Str)(x y:Rat):Bool:=R.aJ K (ix ws x) (ix us y)
theorem nF{K:List Str}(h:∀z∈K,z.length=n){a u:Int}(ha:(n:Int)<=a):R.aJ K a u=false:=by
 cases e:R.aJ K a u with
 |false=>rfl
 |true =>
  obtain⟨g,f,z,b,d⟩:=R.jY.mp e
  have:=h z (zMo b)
  have c:a.toNat<z.cps.toList.length:=(zGs d).1
  rw[qt] at c
  have i:z.cps.size=z.length:=rfl
  lia
structure Steps(f:Rat->Rat->Bool)(xs ys:List Rat):Prop where
 out:∀x y,ix xs x = -1\/ix xs x=(xs.length:Int)-1\/ix ys y = -1\/ix ys y=(ys.length:Int)-1->f x y=false
 at_:∀x y (i j:Nat) (hi:i<xs.length) (hj:j<ys.length),ix xs x=i->ix ys y=j->f x y=f xs[i] ys[j]
theorem aGL{xs ys:List Rat}{K:List Str}(u:Up ws)(u':Up us)(hK:∀z∈K,z.length=ws.length-1)(lK:K.length=us.length-1)(v:Up xs)(v':Up ys)(hs:∀w∈ws,w∈xs)(hs':∀w∈us,w∈ys):Steps (inY ws us K) xs ys where
 out x y h:=by
  unfold inY
  rcases h with h|h|h|h
  ·rw[aJA v hs h];exact R.cY '!'
  ·rw[aED v hs h]
   cases ws with
   |nil=>exact R.cY '%'
   |cons w r=>exact nF hK '%'
  ·rw[aJA v' hs' h];exact R.dN '!'
  ·rw[aED v' hs' h]
   cases us with
   |nil=>exact R.dN '%'
   |cons w r=>exact R.eA (by rw[lK];simp)
 at_ x y i j hi hj e e':=by
  unfold inY
  rw[aDO u v hs hi e,aDO u' v' hs' hj e']
theorem Steps.pick{f g:Rat->Rat->Bool}{xs ys:List Rat}(hf:Steps f xs ys)(hg:Steps g xs ys)(p:Bool->Bool->Bool)(h0:p false false=false):Steps (λx y=>p (f x y) (g x y)) xs ys:=
 ⟨λx y h=>by rw[hf.out x y h,hg.out x y h];exact h0,λx y i j b c e a=>by rw[hf.at_ x y i j b c e a,hg.at_ x y i j b c e a]⟩
noncomputable def lU(f:Rat->Rat->Bool)(xs ys:List Rat):List Str:=ys.dropLast.map λy=>R.ofL (xs.dropLast.map λx=>R.sg (f x y))
theorem xM(f:Rat->Rat->Bool)(xs ys:List Rat):(lU f xs ys).length=ys.length-1:=by unfold lU;rw[zLm,vc]
theorem uL(f:Rat->Rat->Bool)(xs ys:List Rat):R.Good (xs.length-1) (lU f xs ys):=λz b=>by
 unfold lU at b
 obtain⟨y,_,rfl⟩:=qo.mp b
 refine⟨by rw[R.jT,zLm,vc],?_⟩
 rw[jn]
 intro c d
 have a:c∈xs.dropLast.map λx=>R.sg (f x y):=d
 obtain⟨q,_,rfl⟩:=qo.mp a
 unfold R.sg;split <;> rfl
theorem aJI{f:Rat->Rat->Bool}{xs ys:List Rat}(hi:i+1<xs.length)(hj:j+1<ys.length):R.aJ (lU f xs ys) (i:Int) (j:Int)=f xs[i] ys[j]:=by
 have a:j<ys.dropLast.length:=by rw[vc];lia
 have b:i<xs.dropLast.length:=by rw[vc];lia
 have d:(lU f xs ys)[((j:Int)).toNat]?=some (R.ofL (xs.dropLast.map λx=>R.sg (f x ys[j]))):=by
  rw[qm];unfold lU
  rw[qg,zGe a,QV];rfl
 have c:(R.ofL (xs.dropLast.map λx=>R.sg (f x ys[j]))).cps.toList[((i:Int)).toNat]?=some (R.sg (f xs[i] ys[j])):=by
  rw[qm]
  show (xs.dropLast.map λx=>R.sg (f x ys[j]))[i]?=_
  rw[qg,zGe b,QV];rfl
 rw[R.fI '!' '!' d c]
 unfold R.sg
 cases f xs[i] ys[j] <;> rfl
theorem aND{f:Rat->Rat->Bool}{xs ys:List Rat}(h:Steps f xs ys)(x y:Rat):R.aJ (lU f xs ys) (ix xs x) (ix ys y)=f x y:=by
 have a1:=iQ xs x
 have a2:=jN xs x
 have l:=iQ ys y
 have m:=jN ys y
 by_cases d:ix xs x = -1
 ·rw[h.out x y (.inl d),d];exact R.cY '!'
 by_cases b:ix xs x=(xs.length:Int)-1
 ·rw[h.out x y (.inr (.inl b)),b]
  exact nF (λz k=>(uL f xs ys z k).1) '!'
 by_cases c:ix ys y = -1
 ·rw[h.out x y (.inr (.inr (.inl c))),c];exact R.dN '!'
 by_cases a:ix ys y=(ys.length:Int)-1
 ·rw[h.out x y (.inr (.inr (.inr a))),a]
  exact R.eA (by rw[xM];lia)
 obtain⟨i,g⟩:∃i:Nat,ix xs x=i:=⟨(ix xs x).toNat,by lia⟩
 obtain⟨j,e⟩:∃j:Nat,ix ys y=j:=⟨(ix ys y).toNat,by lia⟩
 rw[h.at_ x y i j '!' '!' g e,g,e]
 exact aJI '!' '!'
theorem aN8{xs ys:List Rat}(u:Up xs)(v:Up ys)(g:R.Good (xs.length-1) zs)(hz:zs.length=ys.length-1)(x y:Rat):
  inY (iS xs (R.chg (R.aK zs))) (iS ys (R.chg zs)) (R.cH zs) x y=R.aJ zs (ix xs x) (ix ys y):=by
 unfold inY
 rw[aEK u (Q.iE λz hz=>(g z hz).1),aEK v (Q.iN hz),R.aNK g]
theorem zH{K:List Str}(g:R.Good n K){z:Str}(hz:K[j]?=some z):z=R.ofL ((q7 n).map λ(c:Nat)=>R.sg (R.aJ K (c:Int) (j:Int))):=by
 obtain⟨hl,d⟩:=g z (zMo hz)
 have e:z.cps.toList=(q7 n).map λ(c:Nat)=>R.sg (R.aJ K (c:Int) (j:Int)):=by
  refine v3 λc => ?_
  rw[qg]
  by_cases b:c<n
  ·rw[xg b,R.dB '!']
   have a:=R.oX g (zMo hz) b
   rw[wx,R.fI (z:=z) (c:=R.atS z c) '!' '!' (by rw[qm];exact hz) (by rw[qm];exact R.dB '!')]
   unfold R.sg
   rcases a with a|a <;> rw[a] <;> rfl
  ·rw[qw (by rw[qt];have:z.cps.size=z.length:=rfl;lia),qw (by simpa using b)];rfl
 unfold R.ofL
 rw[<- e]
theorem aM5{K K':List Str}(g:R.Good n K)(g':R.Good n K')(hl:K.length=K'.length)(h:∀a u:Nat,a<n->u<K.length->R.aJ K (a:Int) (u:Int)=R.aJ K' (a:Int) (u:Int)):K=K':=by
 refine v3 λj => ?_
 by_cases d:j<K.length
 ·have e:K[j]?=some K[j]:=zGe d
  have b:K'[j]?=some (K'[j]' '!'):=zGe '!'
  rw[e,b,zH g e,zH g' b]
  congr 2
  refine kz λc f => ?_
  rw[h c j (vb.mp f) d]
 ·rw[qw '!',qw '!']
theorem frow{K:List Str}(g:R.Good n K)(hK:K≠[])(hj:j<=K.length+1):(R.framed K)[j]?=some (R.ofL ((q7 n).map λ(c:Nat)=>R.sg (R.aJ K (c:Int) ((j:Int)-1)))):=by
 have hw:=R.cS (λz f=>(g z f).1) hK
 have hd:∀u:Int,(∀c:Nat,R.aJ K (c:Int) u=false)->R.dots n=R.ofL ((q7 n).map λ(c:Nat)=>R.sg (R.aJ K (c:Int) u)):=λu d=>by
  unfold R.dots
  congr 1
  refine (QW.mpr ⟨by simp,λb h => ?_⟩).symm
  obtain⟨c,_,rfl⟩:=qo.mp h
  rw[d c];rfl
 rcases z8 j with rfl|i
 ·rw[R.fT,hw,<- hd _ λc=>R.dN '!']
 ·obtain⟨k,rfl⟩:∃k,j=k+1:=⟨j-1,by lia⟩
  rw[show (((k+1:Nat):Int)-1)=(k:Int) by lia]
  by_cases a:k<K.length
  ·rw[R.cT a,zGe a,<- zH g (zGe a)]
  ·have e:k=K.length:=by lia
   rw[e,R.eB,hw,<- hd _ λc=>R.eA '!']
theorem fcol{K:List Str}(g:R.Good n K)(hK:K≠[])(hn:0<n)(hi:i<=n+1):(R.framed (R.aK K))[i]?=some (R.ofL ((q7 K.length).map λ(r:Nat)=>R.sg (R.aJ K ((i:Int)-1) (r:Int)))):=by
 rw[R.iH (λz d=>(g z d).1) hK hn hi]
 congr 2
 refine v3 λr => ?_
 rw[qg,qg]
 by_cases a:r<K.length
 ·rw[zGe a,xg a,wx,wx]
  congr 1
  have f:K[r]?=some K[r]:=zGe a
  have hl:=(g _ (ke a)).1
  unfold R.vD
  split
  ·rename_i h
   rcases h with rfl|rfl
   ·rw[R.cY '!'];rfl
   ·rw[nF (λz d=>(g z d).1) '!'];rfl
  ·rename_i h
   have e:i-1<n:=by lia
   have b:=R.oX g (ke a) e
   rw[show ((i:Int)-1)=((i-1:Nat):Int) by lia,R.fI (z:=K[r]) (c:=R.atS K[r] (i-1)) '!' '!' (by rw[qm];exact f) (by rw[qm];exact R.dB '!')]
   unfold R.sg
   rcases b with b|b <;> rw[b] <;> rfl
 ·rw[qw '!',qw (by simpa using a)];rfl
theorem aHJ{f g:Nat->Bool}(h:some (R.ofL ((q7 n).map λc=>R.sg (f c)))≠some (R.ofL ((q7 n).map λc=>R.sg (g c)))):∃c,c<n/\f c≠g c:=by
 refine qz λq=>h ?_
 congr 2
 refine kz λc a => ?_
 have:=vb.mp a
 have e:f c=g c:=qz λz=>q ⟨c,this,z⟩
 rw[e]
theorem aAX{K:List Str}{a b:Nat}(T:Q.Tidy2 K a b)(hi:i<a):∃j:Nat,j+1<b/\R.aJ K ((i:Int)-1) (j:Int)≠R.aJ K (i:Int) (j:Int):=by
 rcases T.v with ⟨_,rfl,_⟩|⟨f,t1,t2,g,l,o,n⟩
 ·lia
 ·have hm:i∈R.chg (R.aK K):=by rw[t2];exact vb.mpr hi
  have lc:=R.c6 (λz m=>(g z m).1) f
  have d:R.aK K≠[]:=λe=>by rw[e] at lc;simp at lc;lia
  obtain⟨p,k⟩:=(R.fM d).mp hm
  rw[fcol g f '!' '!',fcol g f '!' '!'] at k
  obtain⟨c,q,h⟩:=aHJ k
  refine⟨c,by lia,?_⟩
  rwa [show (((i+1:Nat):Int)-1)=(i:Int) by lia] at h
theorem aJ1{K:List Str}{a b:Nat}(T:Q.Tidy2 K a b)(hj:j<b):∃i:Nat,i+1<a/\R.aJ K (i:Int) ((j:Int)-1)≠R.aJ K (i:Int) (j:Int):=by
 rcases T.v with ⟨_,_,rfl⟩|⟨d,t1,t2,g,l,k,h⟩
 ·lia
 ·have hm:j∈R.chg K:=by rw[t1];exact vb.mpr hj
  obtain⟨m,f⟩:=(R.fM d).mp hm
  rw[frow g d '!',frow g d '!'] at f
  obtain⟨c,n,e⟩:=aHJ f
  refine⟨c,by lia,?_⟩
  rwa [show (((j+1:Nat):Int)-1)=(j:Int) by lia] at e
noncomputable def JX(f:Rat->Rat->Bool)(w:Rat):Prop:=∃y,∀x,x<w->∃x',x<=x'/\x'<w/\f x' y≠f w y
theorem qK(u:Up ws)(hi:i<ws.length){x:Rat}(hx:x<ws[i])(h:∀k (hk:k<ws.length),k<i->ws[k]<=x):ix ws x=(i:Int)-1:=
 sB u '!' '!' λk hk=>by
  constructor
  ·intro a
   have:=(iR u hk hi).mp (by grind)
   lia
  ·intro a
   exact h k hk '!'
theorem before(u:Up ws)(hi:i<ws.length){x:Rat}(hx:x<ws[i]):∃x',x<=x'/\x'<ws[i]/\ix ws x'=(i:Int)-1:=by
 by_cases h0:i=0
 ·subst h0
  exact⟨x,by grind,hx,qK u hi hx λk _ q=>absurd q (zz _)⟩
 ·have b:i-1<ws.length:=by lia
  have hl:=(iR u b hi).mpr '!'
  have le:∀k (a:k<ws.length),k<i->ws[k]<=ws[i-1]:=λk a q=>(d7 u a b).mpr '!'
  by_cases hm:x<=ws[i-1]
  ·exact⟨ws[i-1],hm,hl,qK u hi hl le⟩
  ·exact⟨x,by grind,hx,qK u hi hx λk a q=>by have:=le k a q;grind⟩
theorem still(u:Up ws){w:Rat}(hw:w∉ws):∃x,x<w/\∀x',x<=x'->x'<w->ix ws x'=ix ws w:=by
 have a:=iQ ws w
 have b:=jN ws w
 by_cases j:ix ws w = -1
 ·refine⟨w-1,by grind,λx' g f => ?_⟩
  rw[j]
  refine sB u '!' '!' λi d => ?_
  constructor
  ·intro h;have:=(bZ (x:=w) u d).mp (by grind);lia
  ·intro h;lia
 ·have d:(ix ws w).toNat<ws.length:=by lia
  have hle:=(bZ (x:=w) u d).mpr '!'
  have k:ws[(ix ws w).toNat]≠w:=λe=>hw (e▸ke d)
  refine⟨ws[(ix ws w).toNat],by grind,λx' g f => ?_⟩
  refine sB u a b λi c => ?_
  constructor
  ·intro h;exact (bZ (x:=w) u c).mp (by grind)
  ·intro h
   have:=(d7 u c d).mpr '!'
   grind
theorem aHO{K:List Str}(u:Up ws)(u':Up us)(T:Q.Tidy2 K ws.length us.length)(w:Rat):w∈ws↔JX (inY ws us K) w:=by
 constructor
 ·intro hw
  obtain⟨i,f,rfl⟩:=jr hw
  obtain⟨j,l,e⟩:=aAX T f
  refine⟨us[j],λx g => ?_⟩
  obtain⟨b,d,c,a⟩:=before u f g
  refine⟨b,d,c,?_⟩
  unfold inY
  rw[a,dJ u f,dJ u' '!']
  exact e
 ·rintro⟨y,h⟩
  refine qz λhw => ?_
  obtain⟨x,g,k⟩:=still u hw
  obtain⟨b,d,c,a⟩:=h x g
  unfold inY at a
  rw[k b d c] at a
  exact a rfl
theorem aG2{K:List Str}(u:Up ws)(u':Up us)(T:Q.Tidy2 K ws.length us.length)(w:Rat):w∈us↔JX (λy x=>inY ws us K x y) w:=by
 constructor
 ·intro hw
  obtain⟨j,d,rfl⟩:=jr hw
  obtain⟨i,n,e⟩:=aJ1 T d
  refine⟨ws[i],λx m => ?_⟩
  obtain⟨f,c,b,a⟩:=before u' d m
  refine⟨f,c,b,?_⟩
  unfold inY
  dsimp only
  rw[a,dJ u' d,dJ u '!']
  exact e
 ·rintro⟨x,h⟩
  refine qz λhw => ?_
  obtain⟨y,g,l⟩:=still u' hw
  obtain⟨k,c,b,a⟩:=h y g
  unfold inY at a
  dsimp only at a
  rw[l k c b] at a
  exact a rfl
theorem aJU{K K':List Str}(u:Up ws)(v:Up us)(T:Q.Tidy2 K ws.length us.length)(u':Up ws')(v':Up us')(T':Q.Tidy2 K' ws'.length us'.length)(h:∀x y,inY ws us K x y=inY ws' us' K' x y):ws=ws'/\us=us'/\K=K':=by
 have hf:inY ws us K=inY ws' us' K':=funext λx=>funext λy=>h x y
 have d:ws=ws':=aGZ u u' λx=>by rw[aHO u v T,aHO u' v' T',hf]
 have c:us=us':=aGZ v v' λx=>by rw[aG2 u v T,aG2 u' v' T',hf]
 subst d c
 refine⟨rfl,rfl,?_⟩
 obtain⟨g,l⟩:=T.good
 obtain⟨e,j⟩:=T'.good
 refine aM5 g e '!' λa b i f => ?_
 have:=h ws[a] us[b]
 unfold inY at this
 rwa [dJ u '!',dJ v '!'] at this
noncomputable def dQ:List Rat->List Rat->List Rat
 |[],ys=>ys
 |x::xs,[]=>x::xs
 |x::xs,y::ys=>if y<x then y::dQ (x::xs) ys else if x=y then x::dQ xs ys else x::dQ xs (y::ys)
termination_by xs ys=>xs.length+ys.length
theorem fD:∀(xs ys:List Rat) (a:Rat),a∈dQ xs ys↔a∈xs\/a∈ys
 |[],ys,a=>by rw[dQ];simp
 |x::xs,[],a=>by rw[dQ];simp
 |x::xs,y::ys,a=>by
  rw[dQ]
  split
  ·rw[qp,fD (x::xs) ys a,qp (a:=a) (b:=y)]
   constructor
   ·rintro (h|h|h)
    ·exact .inr (.inl h)
    ·exact .inl h
    ·exact .inr (.inr h)
   ·rintro (h|h|h)
    ·exact .inr (.inl h)
    ·exact .inl h
    ·exact .inr (.inr h)
  ·split
   ·rename_i h1 h2
    subst h2
    rw[qp,fD xs ys a,qp,qp]
    constructor
    ·rintro (h|h|h)
     ·exact .inl (.inl h)
     ·exact .inl (.inr h)
     ·exact .inr (.inr h)
    ·rintro ((h|h)|h|h)
     ·exact .inl h
     ·exact .inr (.inl h)
     ·exact .inl h
     ·exact .inr (.inr h)
   ·rw[qp,fD xs (y::ys) a,qp (a:=a) (b:=x)]
    constructor
    ·rintro (h|h|h)
     ·exact .inl (.inl h)
     ·exact .inl (.inr h)
     ·exact .inr h
    ·rintro ((h|h)|h)
     ·exact .inl h
     ·exact .inr (.inl h)
     ·exact .inr (.inr h)
termination_by xs ys=>xs.length+ys.length
theorem d8:∀{xs ys:List Rat},xs.Pairwise (· < ·)->ys.Pairwise (· < ·)->(dQ xs ys).Pairwise (· < ·)
 |[],ys,_,hy=>by rw[dQ];exact hy
 |x::xs,[],hx,_=>by rw[dQ];exact hx
 |x::xs,y::ys,hx,hy=>by
  obtain⟨f,i⟩:=jt.mp hx
  obtain⟨e,g⟩:=jt.mp hy
  rw[dQ]
  split
  ·rename_i h
   refine jt.mpr ⟨λa c => ?_,d8 hx g⟩
   rcases (fD _ _ _).mp c with b|b
   ·rcases qp.mp b with rfl|b
    ·exact h
    ·have:=f a b;grind
   ·exact e a b
  ·split
   ·rename_i b h2
    subst h2
    refine jt.mpr ⟨λa c => ?_,d8 i g⟩
    rcases (fD _ _ _).mp c with b|b
    ·exact f a b
    ·exact e a b
   ·rename_i b h2
    refine jt.mpr ⟨λa c => ?_,d8 i hy⟩
    rcases (fD _ _ _).mp c with d|d
    ·exact f a d
    ·rcases qp.mp d with rfl|d
     ·grind
     ·have:=e a d;grind
termination_by xs ys=>xs.length+ys.length
structure Yd where
 ws:List Rat
 us:List Rat
 K:List Str
 uw:Up ws
 uu:Up us
 T:Q.Tidy2 K ws.length us.length
noncomputable def Yd.has(A:Yd)(x y:Rat):Bool:=inY A.ws A.us A.K x y
theorem Yd.ext'{A B:Yd}(h:∀x y,A.has x y=B.has x y):A=B:=by
 obtain⟨ws,us,K,uw,uu,T⟩:=A
 obtain⟨ws',us',K',uw',uu',T'⟩:=B
 obtain⟨rfl,rfl,rfl⟩:=aJU uw uu T uw' uu' T' h
 rfl
theorem Yd.wide(A:Yd):(∀z∈A.K,z.length=A.ws.length-1)/\A.K.length=A.us.length-1:=⟨λz hz=>(A.T.good.1 z hz).1,A.T.good.2⟩
theorem Yd.steps(A:Yd){xs ys:List Rat}(v:Up xs)(v':Up ys)(hs:∀w∈A.ws,w∈xs)(hs':∀w∈A.us,w∈ys):Steps A.has xs ys:=aGL A.uw A.uu A.wide.1 A.wide.2 v v' hs hs'
noncomputable def Yd.ofG(xs ys:List Rat)(zs:List Str)(u:Up xs)(v:Up ys)(g:R.Good (xs.length-1) zs)(hz:zs.length=ys.length-1):Yd where
 ws:=iS xs (R.chg (R.aK zs))
 us:=iS ys (R.chg zs)
 K:=R.cH zs
 uw:=aAI u (R.cG _) (Q.iE λz hz=>(g z hz).1)
 uu:=aAI v (R.cG _) (Q.iN hz)
 T:=by
  have:=Q.aE6 g
  unfold iS
  rw[zLm,zLm]
  exact this
theorem Yd.ofG_has{xs ys:List Rat}(u:Up xs)(v:Up ys)(g:R.Good (xs.length-1) zs)(hz:zs.length=ys.length-1)(x y:Rat):(Yd.ofG xs ys zs u v g hz).has x y=R.aJ zs (ix xs x) (ix ys y):=aN8 u v g hz x y
theorem Yd.ofG_ws{xs ys:List Rat}(u:Up xs)(v:Up ys)(g:R.Good (xs.length-1) zs)(hz:zs.length=ys.length-1):(∀w∈(Yd.ofG xs ys zs u v g hz).ws,w∈xs)/\∀w∈(Yd.ofG xs ys zs u v g hz).us,w∈ys:=
 ⟨yO (Q.iE λz hz=>(g z hz).1),yO (Q.iN hz)⟩
noncomputable def Yd.ofF(f:Rat->Rat->Bool)(xs ys:List Rat)(u:Up xs)(v:Up ys):Yd:=Yd.ofG xs ys (lU f xs ys) u v (uL f xs ys) (xM f xs ys)
theorem Yd.ofF_has{f:Rat->Rat->Bool}{xs ys:List Rat}(u:Up xs)(v:Up ys)(h:Steps f xs ys)(x y:Rat):(Yd.ofF f xs ys u v).has x y=f x y:=by
 unfold Yd.ofF
 rw[Yd.ofG_has,aND h]
theorem mgl{vs:List Rat}:∀w∈ws,w∈dQ ws vs:=λw hw=>(fD _ _ _).mpr (.inl hw)
theorem mgr{vs:List Rat}:∀w∈vs,w∈dQ ws vs:=λw hw=>(fD _ _ _).mpr (.inr hw)
noncomputable def Yd.op(p:Bool->Bool->Bool)(A B:Yd):Yd:=Yd.ofF (λx y=>p (A.has x y) (B.has x y)) (dQ A.ws B.ws) (dQ A.us B.us) (d8 A.uw B.uw) (d8 A.uu B.uu)
theorem Yd.op_has{p:Bool->Bool->Bool}(h0:p false false=false)(A B:Yd)(x y:Rat):(Yd.op p A B).has x y=p (A.has x y) (B.has x y):=
 Yd.ofF_has _ _ ((A.steps (d8 A.uw B.uw) (d8 A.uu B.uu) mgl mgl).pick (B.steps (d8 A.uw B.uw) (d8 A.uu B.uu) mgr mgr) p h0) x y
structure On(Sx Sy:List Rat)(A:Yd):Prop where
 x:∀w∈A.ws,w∈Sx
 y:∀w∈A.us,w∈Sy
theorem aJN(u:Up ws):ws.Nodup:=u.imp λh=>by grind
theorem aG4{S:List Rat}(u:Up ws)(h:∀w∈ws,w∈S):ws.length<=S.length:=(aJN u).length_le_of_subset h
theorem Yd.void_iff(A:Yd):A.K=[]↔∀x y,A.has x y=false:=by
 constructor
 ·intro h x y
  unfold Yd.has inY
  rw[h]
  cases e:R.aJ [] (ix A.ws x) (ix A.us y) with
  |false=>rfl
  |true=>obtain⟨_,_,z,b,_⟩:=R.jY.mp e;cases b
 ·intro h
  rcases A.T.v with ⟨e,_,_⟩|⟨f,t1,t2,g,l,d,c⟩
  ·exact e
  ·exfalso
   obtain⟨j,k,a⟩:=aAX A.T (i:=0) '$'
   have:=h (A.ws[0]' '$') (A.us[j]' '$')
   unfold Yd.has inY at this
   rw[dJ A.uw,dJ A.uu] at this
   rw[R.cY '$'] at a
   exact a this.symm
noncomputable def Yd.void:Yd:=⟨[],[],[], .nil, .nil,⟨.inl ⟨rfl,rfl,rfl⟩⟩⟩
theorem Yd.void_has(x y:Rat):Yd.void.has x y=false:=(Yd.void_iff _).mp rfl x y
inductive Cmp(g:Rat->Rat):Rat->List Rat->List Rat->Prop
 |nil {v:Rat}{xs:List Rat} (hv:v=0) (h:∀x∈xs,g x=0):Cmp g v xs []
 |skip {v a:Rat}{r ws:List Rat} (e:g a=v) (h:Cmp g v r ws):Cmp g v (a::r) ws
 |keep {v a:Rat}{r ws:List Rat} (h:Cmp g (g a) r ws):Cmp g v (a::r) (a::ws)
theorem aIC{f:Rat->Rat}{x:Rat}(h:∀w,f w<=x↔w<=y)(ws:List Rat):ix (ws.map f) x=ix ws y:=by
 unfold ix
 rw[KD,zLm]
 refine congrArg (λl:List Rat=>(l.length:Int)-1) (bp λw _ => ?_)
 show decide (f w<=x)=decide (w<=y)
 rw[decide_eq_decide];exact h w
noncomputable def Yd.scale(A:Yd)(a b:Rat)(ha:0<a)(hb:0<b):Yd where
 ws:=A.ws.map (· * a)
 us:=A.us.map (· * b)
 K:=A.K
 uw:=by unfold Up;rw[kv];exact A.uw.imp λh=>sv h ha
 uu:=by unfold Up;rw[kv];exact A.uu.imp λh=>sv h hb
 T:=by rw[zLm,zLm];exact A.T
theorem oZ{a w x:Rat}(ha:0<a):w*a<=x↔w<=x/a:=by
 have:=Qi (a:=x) (c:=w) ha
 constructor
 ·intro h;refine zi.mp λq => ?_;have:=this.mp q;grind
 ·intro h;refine zi.mp λq => ?_;have:=this.mpr q;grind
theorem Yd.scale_has(A:Yd){a b:Rat}(ha:0<a)(hb:0<b)(x y:Rat):(A.scale a b ha hb).has x y=A.has (x/a) (y/b):=by
 unfold Yd.has inY Yd.scale
 dsimp only
 rw[aIC (y:=x/a) (λw=>oZ ha),aIC (y:=y/b) (λw=>oZ hb)]
theorem cnil(a u:Int):R.aJ [] a u=false:=by
 cases e:R.aJ [] a u with
 |false=>rfl
 |true=>obtain⟨_,_,z,hz,_⟩:=R.jY.mp e;cases hz
theorem Yd.big(A:Yd):A.K=[]\/(2<=A.ws.length/\2<=A.us.length):=by
 rcases A.T.v with ⟨h,_,_⟩|⟨_,_,_,_,_,h1,h2⟩
 ·exact .inl h
 ·exact .inr ⟨h1,h2⟩
theorem gap:∀(S:List Rat) (x:Rat),∃n,x<n/\∀s∈S,x<s->n<=s
 |[],x=>⟨x+1,by grind,λs b=>(nomatch b)⟩
 |a::S,x=>by
  obtain⟨n,e,d⟩:=gap S x
  by_cases f:x<a
  ·by_cases g:a<n
   ·exact⟨a,f,λs b c=>by
     rcases qp.mp b with q|q
     ·grind
     ·have:=d s q c;grind⟩
   ·exact⟨n,e,λs b c=>by
     rcases qp.mp b with q|q
     ·grind
     ·exact d s q c⟩
  ·exact⟨n,e,λs b c=>by
    rcases qp.mp b with q|q
    ·grind
    ·exact d s q c⟩
noncomputable def hit(s:Bool)(ws:List Rat)(dn up:Rat)(h:Int->Bool)(x:Rat):Prop:=∃u,x-up<=u/\u<=x+dn/\h (ix ws u)=s
open Classical in
noncomputable def gro(s:Bool)(ws:List Rat)(dn up:Rat)(h:Int->Bool)(x:Rat):Bool:=if hit s ws dn up h x then s else !s
noncomputable def aE2(ws:List Rat)(dn:Rat):List Rat:=ws.map (· - dn)
noncomputable def aFN(ws:List Rat)(up:Rat):List Rat:=ws.map (· + up)
noncomputable def aFB(ws:List Rat)(dn up:Rat):List Rat:=dQ (aE2 ws dn) (aFN ws up)
theorem aPT(u:Up ws)(dn:Rat):Up (aE2 ws dn):=by unfold aE2 Up;rw[kv];exact u.imp λh=>by grind
theorem aP4(u:Up ws)(up:Rat):Up (aFN ws up):=by unfold aFN Up;rw[kv];exact u.imp λh=>by grind
theorem aDX(u:Up ws)(dn up:Rat):Up (aFB ws dn up):=d8 (aPT u dn) (aP4 u up)
noncomputable def growS(s:Bool)(ws:List Rat)(dn up:Rat)(z:Str):Str:=R.ofL ((aFB ws dn up).dropLast.map λx=>R.sg (gro s ws dn up (λi=>R.aJ [z] i 0) x))
theorem aL6{K:List Str}{r:Nat}{z:Str}(h:K[r]?=some z)(i:Int):R.aJ K i (r:Int)=R.aJ [z] i 0:=by
 rw[xj,R.jY,R.jY]
 constructor
 ·rintro⟨e,b,d,a,c⟩
  rw[qm,h] at a
  cases a
  exact⟨by lia,b,z,rfl,c⟩
 ·rintro⟨e,b,d,a,c⟩
  cases a
  exact⟨by lia,b,z,by rw[qm];exact h,c⟩
noncomputable def groF(s:Bool)(A:Yd)(a b c d:Rat)(x y:Rat):Bool:=gro s A.us b d (λr=>gro s A.ws a c (λi=>R.aJ A.K i r) x) y
structure Nn(a b c d:Rat):Prop where
 a:0<=a
 b:0<=b
 c:0<=c
 d:0<=d
noncomputable def Yd.grow(A:Yd)(s:Bool)(a b c d:Rat):Yd:=Yd.ofF (groF s A a b c d) (aFB A.ws a c) (aFB A.us b d) (aDX A.uw a c) (aDX A.uu b d)
structure Bx where
 w:Rat
 s:Rat
 e:Rat
 n:Rat
structure Bx.Ok(b:Bx):Prop where
 w:0<=b.w
 s:0<=b.s
 e:0<=b.e
 n:0<=b.n
noncomputable def Yd.cut(A:Yd)(b:Bx):Yd:=A.grow false b.e b.n b.w b.s
noncomputable def Yd.back(A:Yd)(b:Bx):Yd:=A.grow true b.w b.s b.e b.n
end U
namespace Q
open PySem L2 Z
theorem aKX(p v:Int×Int):eqD (pairD p) (pairD v)=decide (p=v):=by
 obtain⟨a,b⟩:=v
 obtain⟨x,y⟩:=p
 unfold pairD
 simp only[eqD,eqDs,vz]
 by_cases d:x=a
 ·by_cases c:y=b
  ·rw[decide_eq_true (by rw[d,c])];simp[d,c]
  ·rw[decide_eq_false (by intro e;injection e with e1 e2;exact c e2)];simp[c]
 ·rw[decide_eq_false (by intro e;injection e with e1 e2;exact d e1)];simp[d]
theorem aBX{α:Type}(l:List α):(cutD l (some 1) none).length=l.length-1:=by rw[aEZ,w4]
end Q
namespace PySem
open Builtin
structure ZAp(z TI TO i1 i2:Addr)(fp1 fp2:List Addr):Prop where
 TIz:TI≠z
 TOz:TO≠z
 i1z:i1≠z
 i2z:i2≠z
 TOi1:TO≠i1
 TOi2:TO≠i2
 i12:i1≠i2
 f1:∀b∈fp1,b≠z/\b≠TO/\b≠i2
 f2:∀b∈fp2,b≠z/\b≠TO/\b≠i1
section
variable {E:Value->Shared->Prop}{z TI TO i1 i2:Addr}{fp1 fp2:List Addr}{n1 n2 k:Nat}{P1 P2:Nat->Value->Prop}{S1 S2:Nat->Heap->Prop}{a b:Value}
end
end PySem
namespace PySem
open PyProof.Rows
section
variable {E:Value->Shared->Prop}
end
end PySem
namespace L2
open PySem PySem.Spec PyProof.Rows
section
end
end L2
namespace Z
open PySem L2
section
variable {a b:Expr}{rest:List Expr}
end
end Z
namespace L2
open PySem PySem.Spec PyProof.Rows
section
end
end L2
namespace Z
open PySem L2
section
variable {a b:Expr}{rest:List Expr}
end
end Z
namespace Q
open PySem L2 Z
end Q
namespace Z
open PySem L2
end Z
namespace Q
open PySem L2 Z
theorem aB3(h:In9 xs){x:Int}(hx:xs.dropLast[i]?=some x):x.natAbs<=1000000000:=by
 have hm:x∈xs:=(List.dropLast_sublist xs).mem (zMo hx)
 obtain⟨j,a,rfl⟩:=jr hm
 have:=h j
 rw[zGd,zGe a] at this;exact this
end Q
namespace L2
open PySem PySem.Spec PyProof.Rows
noncomputable def aS8(K:qh)(J:It)(cap:List Nat)(tt:TT)(te:TE)(σ:St)(H1:Hp)(Q:VK)(D:Addr):Prop:=∃W:Nat->Nat->List V->Hp->Prop,(∃m,W 0 m [] (upd H1 D (.lst [])))/\∀i m ys H2,W i m ys H2 ->
 H2 D=some (.lst ys)/\((J.stop i H2/\Q (.ref D) H2)\/(J.go i H2/\ys.length<sizeLine/\∀x H3,J.yld i H2 x H3->∃p a b,x = .ref p/\SqT K H3 p [a,b] /\
  tt (some a::some b::cap.map λk=>(σ[k]?).join) H3 λc H4=>if c=true then te (some a::some b::cap.map λk=>(σ[k]?).join) H4 λy H5=>H5 D=some (.lst ys)/\∃m',m'<m/\W (i+1) m' (ys++[y]) (upd H5 D (.lst (ys++[y])))
   else ∃m',m'<m/\W (i+1) m' ys H4))
noncomputable def aB0(K:qh)(wi:TI)(cap:List Nat)(tt:TT)(te:TE):TE:=λσ H Q=>wi σ H λJ H1=>∀D,H1 D=none->aS8 K J cap tt te σ H1 Q D
theorem aGE{cap:List Nat}(hc:X.calm=true)(hkind:scope.kind = .function)(hnames:∀y∈scope.names,y.2 = .local->scope.names.lookup y.1=some .local)(hx1:Loc (cI scope X.env) x1)(hxf1:scope.names.lookup x1=some .cell\/(cI scope X.env).names.lookup x1=some .local)(hx2:Loc (cI scope X.env) x2)(hxf2:scope.names.lookup x2=some .cell\/(cI scope X.env).names.lookup x2=some .local)(hNc:(x1::x2::ns).Nodup)(hlen:cap.length=ns.length)(hcap:∀(j k:Nat) (nm:Str),cap[j]?=some k->ns[j]?=some nm->X.N[k]?=some nm/\(X.env.scope.names.lookup nm=some .cell\/X.env.scope.names.lookup nm=some .free))(hns:∀nm∈ns,(nm,ky)∈scope.names/\(nm,wu)∉scope.names)(hnsk:∀nm∈ns,scope.names.lookup nm=some .free)(hfree:∀y∈scope.names,y.2 = .free->X.env.scope.names.lookup y.1=some .cell\/X.env.scope.names.lookup y.1=some .free)(hi:PI X (.Tuple [.Name x1 px1, .Name x2 px2] kk tp) iter wi)(ht:∀cs C s₀ H₀ fp,PIf fp.21 ifs tt)(he:∀cs C s₀ H₀ fp,PE fp.21 elt te)(hs:∀v,foldedSetIterable iter X.env v=pure v:=by intro _;rfl){use:Option (Value->Sem Unit)}{Q:VK}(I:Inv X pins σ H s)(h:aB0 X.K wi cap tt te σ H Q)(hfin:∀(D C:Addr) (H':Hp) (s':Shared),Inv X pins σ H' s'->Q (.ref D) H'->(∃m,s'.heap.Ns C m)->CFree X pins H' C->Qt X.w.14 X.A X.xe use Q' (.ref D) C (.ok .next) s'):
  wpAny X.w.14 X.A (gR '.' scope X.env ip (Jv []) false (eval iter X.env) use) Q' X.xe s:=by
 have d:∀{f n l g o}{x:Str},(scope.names.lookup x=some .cell\/(cI scope X.env).names.lookup x=some .local)->(aY X scope f n ([x1,x2]++ns) l g o).fn x=true\/(cI scope X.env).names.lookup x=some .local:=λh=>h.elim (λz => .inl (by show (scope.names.lookup _==some .cell)=true;rw[z];rfl)) .inr
 refine vI (xs:=[x1,x2]) (un:=λv H us=>∃p a b,us=[a,b]/\v = .ref p/\SqT X.K H p [a,b]) (gT:=gTup X.K 2 (aF6 (oB 0) (aF6 (oB 1) gNil))) hc hkind hnames (λf n l g o=>aI0 (X:=aY X scope f n ([x1,x2]++ns) l g o) hc (uA (sF hNc rfl hx1 (d hxf1)) (uA (sF hNc rfl hx2 (d hxf2)) aDV rfl) rfl) rfl rfl) (λv H us os rest u B => ?_) hlen hcap hns hnsk hfree (aDU hi) ht he hs I ⟨_,λJ H1 r D E => ?_,h⟩ hfin
 ·obtain⟨p,a,b,rfl,rfl,sq⟩:=u
  match os,B with
  |[_,_],_=>exact⟨rfl,p,[a,b],rfl,sq,rfl,_,_,rfl,_,_,rfl,rfl,rfl,rfl⟩
 ·obtain⟨W,F,st⟩:=r D E
  exact⟨W,F,λi m q H2 w=>⟨(st i m q H2 w).1,(st i m q H2 w).2.imp id λ⟨a,b,c⟩=>⟨a,b,λv H3 y=>let ⟨p,u,z,e,sq,t⟩:=c v H3 y;⟨[u,z],⟨p,u,z,rfl,e,sq⟩,t⟩⟩⟩⟩
noncomputable def wX(sc scope:Scope)(x1 x2:Str)(ns:List Str)(cap:List Nat)(N:List Str):Bool:=jH sc scope x1 ns cap N&&jH sc scope x2 ns cap N&&decide (x1≠x2)
end L2
namespace Z
open PySem L2
theorem EnvR.cap2{K:Fg}(h:EnvR K G Γ σ){d1 d2:D}{v1 v2:V}(e1:Den K G d1 v1)(e2:Den K G d2 v2)(cap:List Nat):EnvR K G (some d1::some d2::cap.map λk=>(Γ[k]?).join) (some v1::some v2::cap.map λk=>(σ[k]?).join):=by
 have c:=h.cap e2 cap
 refine⟨by simp,λi a z => ?_⟩
 cases i with
 |zero=>simp at z;subst z;exact⟨v1,rfl,e1⟩
 |succ i=>exact c.get i a z
noncomputable def Comp2(X:Cx)(x1 x2:Str)(ns:List Str)(cap:List Nat)(elt:Expr)(ifs:List Expr)(scope:Scope)(Γ:Gm)(k:D->Mem->Prop)(ds:List D)(M1:Mem):Prop:=
 ds.length<=sizeLine/\(∀d∈ds,∃d1 d2,d = .tup [d1,d2])/\∃I:Nat->List D->Mem->Prop,I 0 [] M1 /\
  (∀i d1 d2 acc M2,ds[i]?=some (.tup [d1,d2])->I i acc M2->∀cs C s₀ H₀ fp,GIf fp.21 ifs (some d1::some d2::cap.map λk=>(Γ[k]?).join) M2 λc M3 =>
   if c=true then (∀cs C s₀ H₀ fp,GE fp.21 elt (some d1::some d2::cap.map λk=>(Γ[k]?).join) M3 (λy M4=>I (i+1) (acc++[y]) M4)) else I (i+1) acc M3) /\
  (∀acc M2,I ds.length acc M2->∀a,M2 a=none->k (.mt a) (bV M2 a (.lst acc)))
theorem aPV{cap:List Nat}(h:GI X (.Tuple [.Name x1 px1, .Name x2 px2] kk tp) iter Γ M (Comp2 X x1 x2 ns cap elt ifs scope Γ k)){Q:VK}(en:EnvR X.K G Γ σ)(rl:Rel X.K G H M)(q:Cont X.K M k G H Q):
  aB0 X.K (tUI X (.Tuple [.Name x1 px1, .Name x2 px2] kk tp) iter) cap (λσ H Q=>∀cs C s₀ H₀ fp,aBU fp.21 ifs σ H Q) (λσ H Q=>∀cs C s₀ H₀ fp,tU fp.21 elt σ H Q) σ H Q:=by
 refine h σ G H _ en rl λJ G1 H1 ds M1 s1 yd ⟨hlen,g,I,h0,f,j⟩ A hA => ?_
 have a:=s1.rel.free hA
 refine⟨λi m r H2=>m=ds.length-i/\i<=ds.length/\∃G2 M2 acc,Stp X.K G1 H1 M1 G2 H2 M2/\H2 A=some (.lst r)/\G2 A=none/\M2 A=none/\Dens X.K G2 acc r/\I i acc M2/\acc.length<=i,
  ⟨ds.length,by simp,k3 _,G1,M1,[],(Stp.refl s1.rel).aside hA a.1 a.2,bJ,a.1,a.2,cZ,h0,qk _⟩,?_⟩
 rintro i m r H2 ⟨rfl,hi,G2,M2,acc,s2,hl,z,hm,dn,v,F⟩
 refine⟨hl,?_⟩
 by_cases b:i<ds.length
 ·refine .inr ⟨yd.go i G2 H2 M2 s2.gg s2.rel b,by rw[<- dn.len];omega,λx H3 y => ?_⟩
  obtain⟨G3,d,s3,hd,ex⟩:=yd.yld i G2 H2 M2 x H3 s2.gg s2.rel b y
  obtain⟨l3,g3,T⟩:=s3.fr A _ hl z hm
  obtain⟨S,O,W⟩:=g d (zMo hd)
  subst W
  obtain⟨p,vs,ev,sq,o⟩:=ex.tup_
  obtain⟨N,V,u,Y,db⟩:=dens2 o
  subst u
  refine⟨p,N,V,ev,R.eP s3.rel.same sq,?_⟩
  intro cs C s₀ H₀ fp
  have l:=((en.up s1.gg).up (s2.trans s3).gg).cap2 Y db cap
  refine f i S O acc M2 hd v cs C s₀ H₀ fp _ G3 H3 _ l s3.rel λc G4 H4 M4 s4 n => ?_
  obtain⟨B,g4,E⟩:=s4.fr A _ l3 g3 T
  cases c with
  |true =>
   rw[if_pos rfl] at n ⊢
   intro cs C s₀ H₀ fp
   refine n cs C s₀ H₀ fp _ G4 H4 _ (l.up s4.gg) s4.rel λy G5 H5 L M5 s5 Z U => ?_
   obtain⟨P,g5,w⟩:=s5.fr A _ B g4 E
   have t:=((s2.trans s3).trans s4).trans s5
   exact⟨P,ds.length-(i+1),by omega,rfl,b,G5,M5,acc++[L],t.aside hA g5 w,bJ,g5,w,(dn.up ((s3.trans s4).trans s5).gg).append (cD Z cZ),U,by rw[qe,za];omega⟩
  |false =>
   rw[if_neg zBf] at n ⊢
   exact⟨ds.length-(i+1),by omega,rfl,b,G4,M4,acc,(s2.trans s3).trans s4,B,g4,E,dn.up (s3.trans s4).gg,n,by omega⟩
 ·have e:i=ds.length:=by omega
  subst e
  exact .inl ⟨yd.stop _ G2 H2 M2 s2.gg s2.rel rfl,q _ _ _ _ _ (s1.trans (s2.track hA z hl dn)) aAT (j acc M2 v A hm)⟩
section
end
end Z
namespace Q
open PySem L2 Z
end Q
namespace Q
open PySem L2 Z U
noncomputable def pq(q:Rat):Int×Int:=(q.num,(q.den:Int))
noncomputable def aT(q:Rat):D:=pairD (pq q)
noncomputable def a6(xs:List Rat):List D:=xs.map aT
theorem cF(xs:List Rat):(a6 xs).length=xs.length:=zLm ..
structure Bq(q:Rat):Prop where
 a:q.num.natAbs<10^400
 b:q.den<10^400
theorem Bq.g{q:Rat}(h:Bq q):Bg (pq q):=⟨h.a,by show ((q.den:Int)).natAbs<_;rw[xp];exact h.b,by show (q.den:Int)≠0;have:=q.den_nz;omega⟩
noncomputable def BqL(xs:List Rat):Prop:=∀x∈xs,Bq x
theorem vC(a b:Rat):ltP (pq a) (pq b)=decide (a<b):=by
 unfold ltP pq
 rw[decide_eq_decide]
 exact (Rat.lt_iff a b).symm
theorem aQS{a b:Rat}:pq a=pq b↔a=b:=by
 constructor
 ·intro e
  unfold pq at e
  injection e with e1 e2
  exact Rat.ext e1 '$'
 ·intro e;rw[e]
theorem aBZ(a b:Rat):eqD (aT a) (aT b)=decide (a=b):=by
 unfold aT
 rw[aKX,decide_eq_decide,aQS]
theorem m8(t b:Int)(hb:b≠0):lowP t b=pq (qb t b):=by
 obtain⟨h1,h2⟩:=Num.xR t b hb
 unfold pq
 rw[<- h1,<- h2]
 rfl
theorem fN(q:Rat):(q.den:Int)≠0:=by have:=q.den_nz;omega
theorem aOR(a b:Rat):lowP ((pq a).1*(pq b).2+(pq b).1*(pq a).2) ((pq a).2*(pq b).2)=pq (a+b):=by
 exact (m8 _ _ (ze (fN a) (fN b))).trans (congrArg pq (Num.aD7 a b))
theorem aMA(a b:Rat):lowP ((pq a).1*(pq b).2-(pq b).1*(pq a).2) ((pq a).2*(pq b).2)=pq (a-b):=by
 exact (m8 _ _ (ze (fN a) (fN b))).trans (congrArg pq (Num.aDY a b))
theorem aL3(a b:Rat):lowP ((pq a).1*(pq b).1) ((pq a).2*(pq b).2)=pq (a*b):=by
 exact (m8 _ _ (ze (fN a) (fN b))).trans (congrArg pq (Num.aNZ a b))
theorem zK(xs:List Int):iK xs=a6 (xs.map λ(x:Int)=>(x:Rat)):=by
 unfold iK a6
 rw[ve,ve];rfl
noncomputable def aO1:Ct:=λds M k=>∃p q:Int×Int,ds=[pairD p,pairD q]/\(p.1.natAbs<10^400/\p.2.natAbs<10^400)/\(q.1.natAbs<10^400/\q.2.natAbs<10^400)/\k (.bl (ltP p q)) M
theorem Bq.p{q:Rat}(h:Bq q):(pq q).1.natAbs<10^400/\(pq q).2.natAbs<10^400:=⟨h.g.a,h.g.b⟩
noncomputable def aRW:Ct:=λds M k=>∃a b:Rat,ds=[aT a,aT b]/\Bq a/\Bq b/\k (aT (a+b)) M
noncomputable def aO2:Ct:=λds M k=>∃a b:Rat,ds=[aT a,aT b]/\Bq a/\Bq b/\k (aT (a-b)) M
noncomputable def aQC:Ct:=λds M k=>∃a b:Rat,ds=[aT a,aT b]/\Bq a/\Bq b/\k (aT (a*b)) M
theorem pH(h:i<ws.length):atI (a6 ws) (i:Int)=some (aT (ws.getD i 0)):=dD (by
 unfold a6
 rw[qg,zGd,zGe h];rfl)
noncomputable def gL(ws:List Rat)(x:Rat):Nat:=(ws.filter λw=>decide (w<x)).length
noncomputable def aW(ws:List Rat)(x:Rat):List Int:=if gL ws x<ws.length/\ws.getD (gL ws x) 0=x then [(gL ws x:Int)-1,(gL ws x:Int)] else [(gL ws x:Int)-1]
theorem aNH{x:Rat}(h:x∉ws):(gL ws x:Int)-1=ix ws x:=by
 unfold gL ix
 congr 3
 refine bp λw hw => ?_
 have:w≠x:=λe=>h (e▸hw)
 rw[decide_eq_decide]
 grind
theorem aRF(u:Up ws)(h:i<ws.length):gL ws ws[i]=i:=by
 have e:ix ws ws[i]=i:=dJ u h
 have:(ws.filter λw=>decide (w<=ws[i])).length=gL ws ws[i]+1:=by
  unfold gL
  clear e
  revert i
  induction ws with
  |nil=>intro i h;exact absurd h (zz _)
  |cons a r ih =>
   intro i h
   obtain⟨d,j⟩:=jt.mp u
   cases i with
   |zero =>
    have k:r.filter (λw=>decide (w<=a))=[]:=yf.mpr λb c=>by have:=d b c;simp only[decide_eq_true_eq];grind
    have g:r.filter (λw=>decide (w<a))=[]:=yf.mpr λb c=>by have:=d b c;simp only[decide_eq_true_eq];grind
    show ((a::r).filter λw=>decide (w<=a)).length=((a::r).filter λw=>decide (w<a)).length+1
    rw[vf (by simp only[decide_eq_true_eq];grind),wa (by simp only[decide_eq_true_eq];grind),k,g];rfl
   |succ i =>
    have f:i<r.length:=by simpa using h
    have:=d _ (ke f)
    show ((a::r).filter λw=>decide (w<=r[i])).length=((a::r).filter λw=>decide (w<r[i])).length+1
    rw[vf (by simp only[decide_eq_true_eq];grind),vf (by simp only[decide_eq_true_eq];grind),ja,ja,ih j f]
 unfold ix at e
 omega
theorem yQ{x:Rat}(h:x∉ws):aW ws x=[ix ws x]:=by
 unfold aW
 rw[if_neg,aNH h]
 rintro⟨b,a⟩
 refine h ?_
 rw[zGd,zGe b] at a
 exact a▸ke b
theorem mQ(u:Up ws)(h:i<ws.length):aW ws ws[i]=[(i:Int)-1,(i:Int)]:=by
 unfold aW
 rw[aRF u h,if_pos ⟨h,by rw[zGd,zGe h];rfl⟩]
theorem vM(ws:List Rat)(x:Rat):(aW ws x).length<=2:=by unfold aW;split <;> simp
noncomputable def aPP:Ct:=λds M k=>∃(ws:List Rat) (x:Rat),ds=[.tup (a6 ws),aT x]/\BqL ws/\ws.length<=100/\Bq x/\k (.lst ((aW ws x).map .int)) M
theorem pE(xs ys:List Rat):a6 xs++a6 ys=a6 (xs++ys):=by unfold a6;rw[qi]
theorem tK{xs:List Rat}(h:∀j∈js,j<xs.length):yY (a6 xs) js=a6 (iS xs js):=by
 unfold yY a6 iS
 rw[ve]
 refine kz λj a => ?_
 have:=h j a
 rw[zGd,qg,zGe this]
 show aT xs[j]=aT (xs.getD j 0)
 rw[zGd,zGe this];rfl
noncomputable def yd(A:Yd):D:=kC (a6 A.ws) (a6 A.us) A.K
theorem aPF{xs ys:List Rat}(u:Up xs)(v:Up ys)(g:R.Good (xs.length-1) zs)(hz:zs.length=ys.length-1):rF (a6 xs) (a6 ys) zs=yd (Yd.ofG xs ys zs u v g hz):=by
 unfold rF yd
 rw[tK (iE λz hz=>(g z hz).1),tK (iN hz)];rfl
theorem xQ(xs:List Rat):∀x∈a6 xs,okD 1 x=true:=λx hx=>by
 obtain⟨q,_,rfl⟩:=qo.mp hx
 rfl
theorem aMR(A:Yd):okD 3 (yd A)=true:=aKV _ (xQ _) (xQ _)
noncomputable instance:DecidableEq Yd:=λ_ _=>zp _
structure Bnd(S:List Rat):Prop where
 len:S.length<=90
 b:BqL S
noncomputable def aMY(a b:Bool):Bool:=a&&b
noncomputable def aPD(a b:Bool):Bool:=a||b
noncomputable def aM0(a b:Bool):Bool:=a && !b
end Q
namespace U
open PySem
noncomputable def iW(a b:Rat):Rat:=if a<b then b else a
noncomputable def tY(a b:Rat):Rat:=if b<a then b else a
theorem le_max{a b:Rat}:t<=iW a b↔t<=a\/t<=b:=by
 unfold iW;split <;> grind
theorem max_le{a b:Rat}:iW a b<=t↔a<=t/\b<=t:=by
 unfold iW;split <;> grind
theorem le_min{a b:Rat}:t<=tY a b↔t<=a/\t<=b:=by
 unfold tY;split <;> grind
noncomputable def tB(ws:List Rat)(x p q:Rat)(b:Nat):Rat:=
 if b=0 then (x-ws.getD 0 0)/p else if b<ws.length then iW ((x-ws.getD b 0)/p) ((ws.getD (b-1) 0-x)/q) else (ws.getD (b-1) 0-x)/q
theorem gD(h:i<ws.length):ws.getD i 0=ws[i]:=by rw[zGd,zGe h];rfl
theorem oR{a w x:Rat}(ha:0<a):w<=x/a↔w*a<=x:=(oZ ha).symm
theorem aFC{x p q:Rat}(hp:0<p)(hq:0<q)(hl:1<=ws.length){b:Nat}(hb:b<=ws.length):t<=tB ws x p q b↔(∃h:b<ws.length,t*p<=x-ws[b])\/∃h:b-1<ws.length,0<b/\t*q<=ws[b-1]-x:=by
 unfold tB
 by_cases h0:b=0
 ·subst h0
  rw[if_pos rfl,oR hp,gD (show 0<ws.length by lia)]
  constructor
  ·intro h;exact .inl ⟨by lia,h⟩
  ·rintro (⟨_,h⟩|⟨_,h,_⟩)
   ·exact h
   ·lia
 ·rw[if_neg h0]
  by_cases a:b<ws.length
  ·rw[if_pos a,le_max,oR hp,oR hq,gD a,gD (show b-1<ws.length by lia)]
   constructor
   ·rintro (h|h)
    ·exact .inl ⟨a,h⟩
    ·exact .inr ⟨by lia,by lia,h⟩
   ·rintro (⟨_,h⟩|⟨_,_,h⟩)
    ·exact .inl h
    ·exact .inr h
  ·rw[if_neg a,oR hq,gD (show b-1<ws.length by lia)]
   constructor
   ·intro h;exact .inr ⟨by lia,by lia,h⟩
   ·rintro (⟨h,_⟩|⟨_,_,h⟩)
    ·exact absurd h a
    ·exact h
theorem lI(u:Up ws){x p q:Rat}(hp:0<p)(hq:0<q)(hl:1<=ws.length)(ht:0<t){b:Nat}(hb:b<=ws.length):¬t<=tB ws x p q b↔∃v,x-p*t<v/\v<x+q*t/\ix ws v=(b:Int)-1:=by
 rw[aFC hp hq hl hb]
 have pt:0<p*t:=ym hp ht
 have o:0<q*t:=ym hq ht
 have j:t*p=p*t:=Q1 _ _
 have k:t*q=q*t:=Q1 _ _
 constructor
 ·intro h
  have g1:∀a:b<ws.length,x-p*t<ws[b]:=λa=>by
   refine nh.mp λz=>h (.inl ⟨a,?_⟩);rw[j];grind
  have g2:∀a:b-1<ws.length,0<b->ws[b-1]<x+q*t:=λa d=>by
   refine nh.mp λz=>h (.inr ⟨a,d,?_⟩);rw[k];grind
  obtain⟨lo,r,l,l3⟩:∃lo,x-p*t<=lo/\(∀a:b-1<ws.length,0<b->ws[b-1]<=lo)/\(lo<x+q*t/\∀a:b<ws.length,lo<ws[b]):=by
   by_cases d:0<b
   ·have c:b-1<ws.length:=by lia
    have g3:∀a:b<ws.length,ws[b-1]<ws[b]:=λa=>(iR u c a).mpr '!'
    by_cases g:x-p*t<=ws[b-1]
    ·exact⟨ws[b-1],g,λ_ _=>by grind,g2 c d,g3⟩
    ·exact⟨x-p*t,by grind,λ_ _=>by grind,by grind,g1⟩
   ·exact⟨x-p*t,by grind,λ_ h=>absurd h d,by grind,g1⟩
  obtain⟨f,w,m,n⟩:∃f,f<=x+q*t/\(∀a:b<ws.length,f<=ws[b])/\lo<f:=by
   by_cases a:b<ws.length
   ·by_cases g:ws[b]<=x+q*t
    ·exact⟨ws[b],g,λ_=>by grind,l3.2 a⟩
    ·exact⟨x+q*t,by grind,λ_=>by grind,l3.1⟩
   ·exact⟨x+q*t,by grind,λz=>absurd z a,l3.1⟩
  refine⟨(lo+f)/2,by grind,by grind,?_⟩
  refine sB u '!' '!' λi e => ?_
  constructor
  ·intro z
   by_cases a:b<ws.length
   ·have a1:=m a
    have:=(iR u e a).mp (by grind)
    lia
   ·lia
  ·intro z
   have c:b-1<ws.length:=by lia
   have a1:=l c '!'
   have a2:=(d7 u e c).mpr '!'
   grind
 ·rintro⟨v,v1,v2,s⟩ (⟨a,z⟩|⟨a,d,z⟩)
  ·have:¬ws[b]<=v:=λy=>by have:=(bZ u a).mp y;lia
   rw[j] at z
   grind
  ·have:ws[b-1]<=v:=(bZ u a).mpr '!'
   rw[k] at z
   grind
theorem xE(u:Up ws){x p q:Rat}(hp:0<p)(hq:0<q)(hl:1<=ws.length){b:Nat}(hb:b<=ws.length):tB ws x p q b<=0↔(b:Int)-1∈Q.aW ws x:=by
 have key:tB ws x p q b<=0↔(∀h:b<ws.length,x<=ws[b])/\∀h:b-1<ws.length,0<b->ws[b-1]<=x:=by
  have e:∀a r:Rat,0<a->(r/a<=0↔r<=0):=λa r j=>by
   have:=Qi (a:=r) (c:=0) j
   have g:=oR (w:=0) (x:=r) j
   have k:=KU (a:=0) (b:=r) j
   constructor
   ·intro z;refine zi.mp λy => ?_;have:=k.mpr (by grind);grind
   ·intro z;refine zi.mp λy => ?_;have:=k.mp y;grind
  unfold tB
  by_cases h0:b=0
  ·subst h0
   rw[if_pos rfl,e _ _ hp,gD (show 0<ws.length by lia)]
   constructor
   ·intro z;exact⟨λ_=>by grind,λ_ y=>by lia⟩
   ·rintro⟨z,_⟩;have:=z '!';grind
  ·rw[if_neg h0]
   by_cases d:b<ws.length
   ·rw[if_pos d,max_le,e _ _ hp,e _ _ hq,gD d,gD (show b-1<ws.length by lia)]
    constructor
    ·rintro⟨y,z⟩;exact⟨λ_=>by grind,λ_ _=>by grind⟩
    ·rintro⟨y,z⟩;have:=y d;have:=z '!' '!';exact⟨by grind,by grind⟩
   ·rw[if_neg d,e _ _ hq,gD (show b-1<ws.length by lia)]
    constructor
    ·intro z;exact⟨λy=>absurd y d,λ_ _=>by grind⟩
    ·rintro⟨_,z⟩;have:=z '!' '!';grind
 rw[key]
 by_cases l:x∈ws
 ·obtain⟨i,f,rfl⟩:=jr l
  rw[Q.mQ u f]
  simp only[qp,vy,or_false]
  constructor
  ·rintro⟨y,z⟩
   have a:b<ws.length->i<=b:=λh=>(d7 u f h).mp (y h)
   have c:0<b->b-1<=i:=λh=>(d7 u '!' f).mp (z '!' h)
   by_cases d:b<ws.length
   ·have:=a d
    by_cases g:0<b
    ·have:=c g;lia
    ·lia
   ·have:=c '!';lia
  ·intro h
   refine⟨λd=>(d7 u f d).mpr '!',λd g=>(d7 u d f).mpr '!'⟩
 ·rw[Q.yQ l,ql]
  have a:=iQ ws x
  have c:=jN ws x
  constructor
  ·rintro⟨y,z⟩
   refine (sB u '!' '!' λi f => ?_).symm
   constructor
   ·intro w
    by_cases d:b<ws.length
    ·have g:=y d
     have k:ws[i]≠x:=λe=>l (e▸ke f)
     have:=(iR u f d).mp (by grind)
     lia
    ·lia
   ·intro w
    have g:=z '!' '!'
    have:=(d7 u f (show b-1<ws.length by lia)).mpr '!'
    grind
  ·intro h
   refine⟨λd => ?_,λd g=>(bZ u d).mpr '!'⟩
   have:¬ws[b]<=x:=λz=>by have:=(bZ u d).mp z;lia
   grind
noncomputable def mI(tx:Nat->Rat)(ty:Rat)(out:Nat->Bool):Nat->Rat->Rat
 |0,t=>t
 |n+1,t=>if out n then tY (mI tx ty out n t) (iW (tx n) ty) else mI tx ty out n t
noncomputable def oE(tx ty:Nat->Rat)(out:Nat->Nat->Bool)(na:Nat):Nat->Rat->Rat
 |0,t=>t
 |m+1,t=>mI tx (ty m) (λa=>out a m) na (oE tx ty out na m t)
theorem aEI{tx:Nat->Rat}{ty:Rat}{out:Nat->Bool}{t0 t:Rat}:∀n,t<=mI tx ty out n t0↔t<=t0/\∀a,a<n->out a=true->t<=iW (tx a) ty
 |0=>by unfold mI;exact⟨λh=>⟨h,λa f=>absurd f (zz _)⟩,λh=>h.1⟩
 |n+1=>by
  have i:=aEI (tx:=tx) (ty:=ty) (out:=out) (t0:=t0) (t:=t) n
  unfold mI
  by_cases g:out n=true
  ·rw[if_pos g,le_min,i]
   constructor
   ·rintro⟨⟨d,c⟩,j⟩
    refine⟨d,λa f b => ?_⟩
    by_cases e:a=n
    ·subst e;exact j
    ·exact c a '!' b
   ·rintro⟨d,c⟩
    exact⟨⟨d,λa f=>c a '!'⟩,c n '!' g⟩
  ·rw[if_neg g,i]
   constructor
   ·rintro⟨d,c⟩
    refine⟨d,λa f b => ?_⟩
    by_cases e:a=n
    ·subst e;exact absurd b g
    ·exact c a '!' b
   ·rintro⟨d,c⟩
    exact⟨d,λa f=>c a '!'⟩
theorem aEL{tx ty:Nat->Rat}{out:Nat->Nat->Bool}{na:Nat}{t0 t:Rat}:∀m,t<=oE tx ty out na m t0↔t<=t0/\∀b,b<m->∀a,a<na->out a b=true->t<=iW (tx a) (ty b)
 |0=>by unfold oE;exact⟨λh=>⟨h,λa d=>absurd d (zz _)⟩,λh=>h.1⟩
 |m+1=>by
  have j:=aEL (tx:=tx) (ty:=ty) (out:=out) (na:=na) (t0:=t0) (t:=t) m
  unfold oE
  rw[aEI,j]
  constructor
  ·rintro⟨⟨f,c⟩,k⟩
   refine⟨f,λb i a d g => ?_⟩
   by_cases e:b=m
   ·subst e;exact k a d g
   ·exact c b '!' a d g
  ·rintro⟨f,c⟩
   exact⟨⟨f,λb i=>c b '!'⟩,c m '!'⟩
noncomputable def f8(A:Yd)(x y:Rat):Bool:=(Q.aW A.us y).all λl=>(Q.aW A.ws x).all λk=>R.aJ A.K k l
structure Pz(p q r s:Rat):Prop where
 p:0<p
 q:0<q
 r:0<r
 s:0<s
noncomputable def hgt(A:Yd)(p q r s x y:Rat):Rat:=oE (tB A.ws x p r) (tB A.us y q s) (λa b => !R.aJ A.K ((a:Int)-1) ((b:Int)-1)) (A.ws.length+1) (A.us.length+1) (tB A.ws x p r 0)
noncomputable def c0(A:Yd)(p q r s x y:Rat):Rat:=if f8 A x y then hgt A p q r s x y else 0
structure IsH(A:Yd)(p q r s x y h:Rat):Prop where
 nn:0<=h
 i:∀t,0<t->(t<=h↔∀u v,x-p*t<u->u<x+r*t->y-q*t<v->v<y+s*t->A.has u v=true)
theorem IsH.uniq{A:Yd}{p q r s x h h':Rat}(a:IsH A p q r s x y h)(b:IsH A p q r s x y h'):h=h':=by
 have one:∀{h h':Rat},IsH A p q r s x y h->IsH A p q r s x y h'->h'<=h:=λ{h h'} a b=>by
  by_cases z:0<h'
  ·exact (a.i h' z).mpr ((b.i h' z).mp (by grind))
  ·have:=a.nn;grind
 have:=one a b
 have:=one b a
 grind
theorem mK(ws:List Rat)(x:Rat):∃k,k∈Q.aW ws x:=by
 unfold Q.aW
 split <;> exact⟨_, .head _⟩
theorem p6{x:Rat}{k:Int}(h:k∈Q.aW ws x):∃b:Nat,b<=ws.length/\k=(b:Int)-1:=by
 have hl:Q.gL ws x<=ws.length:=yk _ _
 unfold Q.aW at h
 split at h
 ·rename_i g
  simp only[qp,vy,or_false] at h
  rcases h with rfl|rfl
  ·exact⟨_,hl,rfl⟩
  ·exact⟨Q.gL ws x+1,by lia,by lia⟩
 ·rw[ql] at h
  exact⟨_,hl,h⟩
theorem aG0{A:Yd}{x:Rat}(h:f8 A x y=true):2<=A.ws.length/\2<=A.us.length:=by
 rcases A.big with e|e
 ·exfalso
  obtain⟨l,hl⟩:=mK A.us y
  obtain⟨k,a⟩:=mK A.ws x
  unfold f8 at h
  rw[jn] at h
  have:=h l hl
  rw[jn] at this
  have:=this k a
  rw[e,cnil] at this
  cases this
 ·exact e
theorem aDG{A:Yd}{x:Rat}(h:f8 A x y=true){k l:Int}(hk:k∈Q.aW A.ws x)(hl:l∈Q.aW A.us y):R.aJ A.K k l=true:=by
 unfold f8 at h
 rw[jn] at h
 have:=h l hl
 rw[jn] at this
 exact this k hk
theorem aTP{A:Yd}{x:Rat}(h:¬f8 A x y=true):∃k∈Q.aW A.ws x,∃l∈Q.aW A.us y,R.aJ A.K k l=false:=by
 refine qz λz=>h ?_
 unfold f8
 rw[jn]
 intro l hl
 rw[jn]
 intro k a
 refine (J9 _).mp λe=>z ⟨k,a,l,hl,e⟩
theorem aG6(A:Yd){p q r s:Rat}(z:Pz p q r s)(x y:Rat):IsH A p q r s x y (c0 A p q r s x y):=by
 unfold c0
 by_cases d:f8 A x y=true
 ·rw[if_pos d]
  obtain⟨G,I⟩:=aG0 d
  have ge:∀t,t<=hgt A p q r s x y↔t<=tB A.ws x p r 0/\∀b,b<A.us.length+1->∀a,a<A.ws.length+1->R.aJ A.K ((a:Int)-1) ((b:Int)-1)=false->t<=iW (tB A.ws x p r a) (tB A.us y q s b):=λt=>by
   unfold hgt
   rw[aEL]
   simp only[v5]
  constructor
  ·refine (ge 0).mpr ⟨?_,λb m a i o => ?_⟩
   ·refine zi.mp λw => ?_
    have h0:=(xE A.uw z.p z.r (x:=x) (b:=0) '!' '!').mp (by grind)
    obtain⟨l,hl⟩:=mK A.us y
    have:=aDG d h0 hl
    rw[R.cY '!'] at this
    cases this
   ·refine zi.mp λw => ?_
    have E:iW (tB A.ws x p r a) (tB A.us y q s b)<=0:=by grind
    obtain⟨C,B⟩:=max_le.mp E
    have:=aDG d ((xE A.uw z.p z.r '!' '!').mp C) ((xE A.uu z.q z.s '!' '!').mp B)
    rw[o] at this;cases this
  ·intro t c
   rw[ge t]
   constructor
   ·rintro⟨_,h⟩ u v f j n J
    refine (J9 _).mp λe => ?_
    have a1:=iQ A.ws u
    have a2:=jN A.ws u
    have M:=iQ A.us v
    have N:=jN A.us v
    obtain⟨a,i⟩:∃a:Nat,ix A.ws u=(a:Int)-1:=⟨(ix A.ws u+1).toNat,by lia⟩
    obtain⟨b,m⟩:∃b:Nat,ix A.us v=(b:Int)-1:=⟨(ix A.us v+1).toNat,by lia⟩
    have F:R.aJ A.K ((a:Int)-1) ((b:Int)-1)=false:=by rw[<- i,<- m];exact e
    rcases le_max.mp (h b '!' a '!' F) with g|g
    ·exact (lI A.uw z.p z.r '!' c '!').mpr ⟨u,f,j,i⟩ g
    ·exact (lI A.uu z.q z.s '!' c '!').mpr ⟨v,n,J,m⟩ g
   ·intro h
    have H:0<q*t:=ym z.q c
    have st:0<s*t:=ym z.s c
    constructor
    ·refine qz λw => ?_
     obtain⟨u,f,j,n⟩:=(lI A.uw z.p z.r (b:=0) '!' c '!').mp w
     have:=h u y f j (by grind) (by grind)
     unfold Yd.has inY at this
     rw[n,R.cY '!'] at this
     cases this
    ·intro b m a i o
     rw[le_max]
     refine qz λw => ?_
     obtain⟨u,f,j,n⟩:=(lI A.uw z.p z.r (b:=a) '!' c '!').mp λg=>w (.inl g)
     obtain⟨v,g1,g2,g3⟩:=(lI A.uu z.q z.s (b:=b) '!' c '!').mp λg=>w (.inr g)
     have:=h u v f j g1 g2
     unfold Yd.has inY at this
     rw[n,g3,o] at this
     cases this
 ·rw[if_neg d]
  refine⟨by grind,λt c=>⟨λh=>absurd h (by grind),λh => ?_⟩⟩
  exfalso
  have pt:0<p*t:=ym z.p c
  have O:0<r*t:=ym z.r c
  have H:0<q*t:=ym z.q c
  have st:0<s*t:=ym z.s c
  rcases A.big with e|⟨G,I⟩
  ·have:=h x y (by grind) (by grind) (by grind) (by grind)
   unfold Yd.has inY at this
   rw[e,cnil] at this
   cases this
  ·obtain⟨k,D,l,hl,L⟩:=aTP d
   obtain⟨a,i,rfl⟩:=p6 D
   obtain⟨b,m,rfl⟩:=p6 hl
   have C:=(xE A.uw z.p z.r '!' i).mpr D
   have B:=(xE A.uu z.q z.s '!' m).mpr hl
   obtain⟨u,f,j,n⟩:=(lI A.uw z.p z.r (x:=x) (b:=a) '!' c i).mp (by grind)
   obtain⟨v,g1,g2,g3⟩:=(lI A.uu z.q z.s (x:=y) (b:=b) '!' c m).mp (by grind)
   have:=h u v f j g1 g2
   unfold Yd.has inY at this
   rw[n,g3,L] at this
   cases this
end U
namespace R
open PySem L2
structure RFull(bs:List Bool)(n:Nat)(q:RS):Prop where
 run:∀r∈q.1,r.1<r.2/\r.2<n/\(∀a,r.1<=a->a<r.2->bs.getD a false=true)/\bs.getD r.2 false=false/\∀a,a+1=r.1->bs.getD a false=false
 opn:∀b,q.2=some b->b<n/\(∀a,b<=a->a<n->bs.getD a false=true)/\∀a,a+1=b->bs.getD a false=false
 non:q.2=none->∀a,a+1=n->bs.getD a false=false
 cov:∀a,a<n->bs.getD a false=true->(∃r∈q.1,r.1<=a/\a<r.2)\/∃b,q.2=some b/\b<=a
 ord:q.1.Pairwise λr s=>r.2<=s.1
 bef:∀r∈q.1,∀b,q.2=some b->r.2<=b
theorem pI(bs:List Bool):∀n,RFull bs n (rto bs n)
 |0=>⟨λr h=>(nomatch h),λb h=>(nomatch h),λ_ a h=>by lia,λa h=>by lia, .nil,λr h=>(nomatch h)⟩
 |n+1=>by
  have I:=pI bs n
  show RFull bs (n+1) (rstep (rto bs n) n (bs.getD n false))
  generalize hq:rto bs n=q at I
  obtain⟨o,m⟩:=q
  cases ht:bs.getD n false with
  |true =>
   cases m with
   |none =>
    refine⟨λr h => ?_,λb h => ?_,λh=>(nomatch h),λa h e => ?_,I.ord,λr h b j => ?_⟩
    ·obtain⟨c,f,g,k,i⟩:=I.run r h
     exact⟨c,by lia,g,k,i⟩
    ·cases h
     exact⟨by lia,λa c f=>by rw[show a=n by lia];exact ht,I.non rfl⟩
    ·by_cases d:a=n
     ·exact .inr ⟨n,rfl,by lia⟩
     ·rcases I.cov a '!' e with c|⟨b,c,f⟩
      ·exact .inl c
      ·cases c
    ·cases j
     have:=(I.run r h).2.1
     exact yr this
   |some b0 =>
    refine⟨λr h => ?_,λb h => ?_,λh=>(nomatch h),λa h e => ?_,I.ord,λr h b j=>I.bef r h b j⟩
    ·obtain⟨c,f,g,k,i⟩:=I.run r h
     exact⟨c,by lia,g,k,i⟩
    ·cases h
     obtain⟨c,f,g⟩:=I.opn b0 rfl
     exact⟨by lia,λa g1 g2=>by
      by_cases d:a=n
      ·rw[d];exact ht
      ·exact f a g1 '!',g⟩
    ·by_cases d:a=n
     ·exact .inr ⟨b0,rfl,by have:=(I.opn b0 rfl).1;lia⟩
     ·exact I.cov a '!' e
  |false =>
   cases m with
   |none =>
    refine⟨λr h => ?_,λb h=>(nomatch h),λ_ a d=>by rw[show a=n by lia];exact ht,λa h e => ?_,I.ord,λr h b j=>(nomatch j)⟩
    ·obtain⟨c,f,g,k,i⟩:=I.run r h
     exact⟨c,by lia,g,k,i⟩
    ·refine I.cov a ?_ e
     by_cases d:a=n
     ·rw[d,ht] at e;cases e
     ·lia
   |some b0 =>
    obtain⟨v,p,u⟩:=I.opn b0 rfl
    refine⟨λr h => ?_,λb h=>(nomatch h),λ_ a d=>by rw[show a=n by lia];exact ht,λa h e => ?_,?_,λr h b j=>(nomatch j)⟩
    ·rcases jf.mp h with h|h
     ·obtain⟨c,f,g,k,i⟩:=I.run r h
      exact⟨c,by lia,g,k,i⟩
     ·rw[ql] at h
      subst h
      exact⟨v,by show n<n+1;lia,p,ht,u⟩
    ·have d:a<n:=by
      by_cases d:a=n
      ·rw[d,ht] at e;cases e
      ·lia
     rcases I.cov a d e with ⟨r,c,f⟩|⟨b,c,f⟩
     ·exact .inl ⟨r,cu _ c,f⟩
     ·cases c
      exact .inl ⟨(b0,n),kq _ (ql.mpr rfl),f,d⟩
    ·show (o++[(b0,n)]).Pairwise _
     rw[vo]
     refine⟨I.ord,v7 _ _,λr t s l => ?_⟩
     rw[ql] at l
     subst l
     exact I.bef r t b0 rfl
theorem aLP{bs:List Bool}{r:Nat×Nat}(h:r∈runs bs):r.1<r.2/\r.2<=bs.length/\(∀a,r.1<=a->a<r.2->bs.getD a false=true)/\bs.getD r.2 false=false/\∀a,a+1=r.1->bs.getD a false=false:=by
 obtain⟨e,f,d,c,b⟩:=(pI (bs++[false]) (bs.length+1)).run r h
 simp only[getD_snoc] at d c b
 exact⟨e,by lia,d,c,b⟩
theorem aKK{bs:List Bool}{a:Nat}(h:bs.getD a false=true):∃r∈runs bs,r.1<=a/\a<r.2:=by
 have I:=pI (bs++[false]) (bs.length+1)
 have d:a<bs.length:=by
  by_cases d:a<bs.length
  ·exact d
  ·rw[zGd,qw '!'] at h;cases h
 rcases I.cov a '!' (by rw[getD_snoc];exact h) with c|⟨b,c,_⟩
 ·exact c
 ·rw[aK8 (bs++[false]) bs.length (by rw[getD_snoc,zGd,qw '!'];rfl)] at c
  cases c
theorem aLH(bs:List Bool):(runs bs).Pairwise λr s=>r.2<=s.1:=(pI (bs++[false]) (bs.length+1)).ord
structure Qd where
 f:Nat
 p:Nat
 b:Nat
 e:Nat
noncomputable def qsP(zs:List Str)(f n p:Nat):List Qd:=(runs (dR zs f p n)).map λr=>⟨f,p,r.1,r.2⟩
noncomputable def qsF(zs:List Str)(f n m:Nat):List Qd:=(q7 m).flatMap (qsP zs f n)
noncomputable def Lf(nx ny f:Nat):Nat:=if f%2=0 then nx else ny
noncomputable def Nf(nx ny f:Nat):Nat:=(if f%2=0 then ny else nx)-1
noncomputable def qsN(zs:List Str)(nx ny k:Nat):List Qd:=(q7 k).flatMap λf=>qsF zs f (Nf nx ny f) (Lf nx ny f)
noncomputable def Bef(q r:Qd):Prop:=q.f<r.f\/q.f=r.f/\(q.p<r.p\/q.p=r.p/\q.e<=r.b)
theorem oO{f p:Nat}{q:Qd}:q∈qsP zs f n p↔q.f=f/\q.p=p/\(q.b,q.e)∈runs (dR zs f p n):=by
 unfold qsP
 rw[qo]
 constructor
 ·rintro⟨r,a,rfl⟩;exact⟨rfl,rfl,a⟩
 ·rintro⟨rfl,rfl,h⟩;exact⟨_,h,rfl⟩
theorem aDB{k:Nat}{q:Qd}:q∈qsN zs nx ny k↔q.f<k/\q.p<Lf nx ny q.f/\(q.b,q.e)∈runs (dR zs q.f q.p (Nf nx ny q.f)):=by
 unfold qsN qsF
 simp only[yi,vb,oO]
 constructor
 ·rintro⟨f,hf,p,a,rfl,rfl,h⟩;exact⟨hf,a,h⟩
 ·rintro⟨hf,a,h⟩;exact⟨_,hf,_,a,rfl,rfl,h⟩
theorem aGM(zs:List Str)(nx ny k:Nat):(qsN zs nx ny k).Pairwise Bef:=by
 unfold qsN qsF
 rw[QU]
 refine⟨λf _ => ?_,gf.imp λ{f g} c x b y a => ?_⟩
 ·rw[QU]
  refine⟨λp _ => ?_,gf.imp λ{p q} d x b y a => ?_⟩
  ·unfold qsP
   rw[kv]
   exact (aLH _).imp λ{r s} h => .inr ⟨rfl, .inr ⟨rfl,h⟩⟩
  ·obtain⟨e,j,_⟩:=oO.mp b
   obtain⟨i,l,_⟩:=oO.mp a
   exact .inr ⟨by rw[e,i], .inl (by rw[j,l];exact d)⟩
 ·obtain⟨p,_,b⟩:=yi.mp b
  obtain⟨q,_,a⟩:=yi.mp a
  obtain⟨e,_⟩:=oO.mp b
  obtain⟨i,_⟩:=oO.mp a
  exact .inl (by rw[e,i];exact c)
noncomputable def gB(zs:List Str)(nx ny f p a:Nat):Prop:=f<4/\p<Lf nx ny f/\a<Nf nx ny f/\edge zs f p a=true
theorem uW(zs:List Str)(f p n a:Nat):(dR zs f p n).getD a false=(decide (a<n)&&edge zs f p a):=by
 unfold dR
 rw[zGd,qg]
 by_cases h:a<n
 ·rw[xg h,decide_eq_true h];simp
 ·rw[qw (by rw[j3];lia),decide_eq_false h];rfl
theorem fW{q:Qd}(h:q∈qsN zs nx ny 4):q.f<4/\q.p<Lf nx ny q.f/\q.b<q.e/\q.e<=Nf nx ny q.f/\(∀a,q.b<=a->a<q.e->gB zs nx ny q.f q.p a)/\¬gB zs nx ny q.f q.p q.e/\∀a,a+1=q.b->¬gB zs nx ny q.f q.p a:=by
 obtain⟨d,c,g⟩:=aDB.mp h
 obtain⟨r1,r2,r3,r4,r5⟩:=aLP g
 simp only[uW] at r3 r4 r5
 have len:(dR zs q.f q.p (Nf nx ny q.f)).length=Nf nx ny q.f:=by simp[dR]
 rw[len] at r2
 refine⟨d,c,r1,r2,λa g1 g2 => ?_,λe => ?_,λa g1 e => ?_⟩
 ·have:=r3 a g1 g2
  rw[qx,decide_eq_true_eq] at this
  exact⟨d,c,this.1,this.2⟩
 ·rw[e.2.2.2,decide_eq_true e.2.2.1] at r4;cases r4
 ·have:=r5 a g1
  rw[e.2.2.2,decide_eq_true e.2.2.1] at this;cases this
noncomputable def Cov(l:List Qd)(f p a:Nat):Prop:=∃q∈l,q.f=f/\q.p=p/\q.b<=a/\a<q.e
theorem aIN{f p a:Nat}(h:gB zs nx ny f p a):Cov (qsN zs nx ny 4) f p a:=by
 obtain⟨c,b,e,d⟩:=h
 obtain⟨r,g,g1,g2⟩:=aKK (bs:=dR zs f p (Nf nx ny f)) (a:=a) (by rw[uW,d,decide_eq_true e];rfl)
 exact⟨⟨f,p,r.1,r.2⟩,aDB.mpr ⟨c,b,g⟩,rfl,rfl,g1,g2⟩
structure Keys(P:Nat->Nat->Nat->Prop)(ks:List (List Int)):Prop where
 nd:ks.Nodup
 iff:∀x,x∈ks↔∃f p a:Nat,x=[(f:Int),(p:Int),(a:Int)]/\P f p a
theorem qH{f p a:Nat}(h4:f<4)(h:f%2=0):edge zs f p a=true↔aJ zs ((p:Int)-1) (a:Int)≠aJ zs (p:Int) (a:Int)/\f=if aJ zs ((p:Int)-1) (a:Int)=true then 2 else 0:=by
 have:f=0\/f=2:=by lia
 unfold edge
 generalize aJ zs (p:Int) (a:Int)=c
 generalize aJ zs ((p:Int)-1) (a:Int)=b
 rcases this with rfl|rfl <;> cases b <;> cases c <;> simp
theorem uC{f p a:Nat}(h4:f<4)(h:f%2=1):edge zs f p a=true↔aJ zs (a:Int) ((p:Int)-1)≠aJ zs (a:Int) (p:Int)/\f=if aJ zs (a:Int) ((p:Int)-1)=true then 3 else 1:=by
 have:f=1\/f=3:=by lia
 unfold edge
 generalize aJ zs (a:Int) (p:Int)=c
 generalize aJ zs (a:Int) ((p:Int)-1)=b
 rcases this with rfl|rfl <;> cases b <;> cases c <;> simp
end R
namespace U
open PySem
structure Ax where
 ls:List Rat
 al:List Rat
 c:Int->Int->Bool
 x:Rat
 y:Rat
 dn:Rat
 up:Rat
 da:Rat
 ua:Rat
structure Ax.Ok(X:Ax):Prop where
 ul:Up X.ls
 uy:Up X.al
 dn:0<X.dn
 up:0<X.up
 da:0<X.da
 ua:0<X.ua
structure Ax.Hi(X:Ax)(H:Rat):Prop where
 nn:0<=H
 i:∀t,0<t->(t<=H↔∀u v,X.x-X.dn*t<u->u<X.x+X.up*t->X.y-X.da*t<v->v<X.y+X.ua*t->X.c (ix X.ls u) (ix X.al v)=true)
noncomputable def Ax.edge(X:Ax)(d:Bool)(p a:Nat):Prop:=if d then X.c ((p:Int)-1) (a:Int)=true/\X.c (p:Int) (a:Int)=false else X.c (p:Int) (a:Int)=true/\X.c ((p:Int)-1) (a:Int)=false
noncomputable def Ax.at(X:Ax)(d:Bool)(h:Rat):Rat:=if d then X.x+X.up*h else X.x-X.dn*h
structure Ax.Tc(X:Ax)(d:Bool)(p b e:Nat)(h:Rat):Prop where
 line:X.ls.getD p 0=X.at d h
 lo:X.y-X.da*h<=X.al.getD e 0
 hi:X.al.getD b 0<=X.y+X.ua*h
theorem cX{a b c:Rat}(hc:0<c):a*c<=b*c↔a<=b:=by
 rw[U.oZ hc,y6 (by grind)]
theorem aGF(u:Up ws){b e:Nat}(he:e<ws.length){v:Rat}(hbe:b<e)(h1:ws.getD b 0<=v)(h2:v<ws.getD e 0):∃a:Nat,b<=a/\a<e/\ix ws v=(a:Int):=by
 rw[gD '!'] at h1 h2
 have g1:=(bZ (x:=v) u (i:=b) '!').mp h1
 have g2:¬((e:Nat):Int)<=ix ws v:=λz=>by have:=(bZ (x:=v) u (i:=e) '!').mpr z;grind
 exact⟨(ix ws v).toNat,by lia,by lia,by lia⟩
theorem aPS{p q T:Rat}(hp:0<p)(hq:0<q)(hl:1<=ws.length){b:Nat}(hb:b<=ws.length)(h:tB ws y p q b<=T):(b<ws.length->y-p*T<=ws.getD b 0)/\(0<b->ws.getD (b-1) 0<=y+q*T):=by
 have le:=λt=>aFC (t:=t) (x:=y) hp hq hl hb
 refine⟨λg => ?_,λg => ?_⟩
 ·rw[gD g]
  have a:=(le ((y-ws[b])/p)).mpr (.inl ⟨g,by rw[kd (by grind)];grind⟩)
  have:=(U.cX hp).mpr (du a h)
  rw[kd (by grind)] at this
  grind
 ·rw[gD '!']
  have a:=(le ((ws[b-1]-y)/q)).mpr (.inr ⟨by lia,g,by rw[kd (by grind)];grind⟩)
  have:=(U.cX hq).mpr (du a h)
  rw[kd (by grind)] at this
  grind
structure Ax.Fr(X:Ax):Prop where
 l0:∀j,X.c (-1) j=false
 l1:∀j,X.c ((X.ls.length:Int)-1) j=false
 a0:∀i,X.c i (-1)=false
 a1:∀i,X.c i ((X.al.length:Int)-1)=false
noncomputable def axX(A:Yd)(p q r s x y:Rat):Ax:=⟨A.ws,A.us,λi j=>R.aJ A.K i j,x,y,p,r,q,s⟩
noncomputable def axY(A:Yd)(p q r s x y:Rat):Ax:=⟨A.us,A.ws,λi j=>R.aJ A.K j i,y,x,q,s,p,r⟩
noncomputable def axF(A:Yd)(p q r s x y:Rat)(f:Nat):Ax:=if f%2=0 then axX A p q r s x y else axY A p q r s x y
theorem aR8{A:Yd}{p q r s:Rat}(z:Pz p q r s)(x y:Rat):(axX A p q r s x y).Ok:=⟨A.uw,A.uu,z.p,z.r,z.q,z.s⟩
theorem aRN{A:Yd}{p q r s:Rat}(z:Pz p q r s)(x y:Rat):(axY A p q r s x y).Ok:=⟨A.uu,A.uw,z.q,z.s,z.p,z.r⟩
theorem aSJ{A:Yd}{p q r s:Rat}(z:Pz p q r s)(x y:Rat)(f:Nat):(axF A p q r s x y f).Ok:=by unfold axF;split;exact aR8 z x y;exact aRN z x y
noncomputable def rA(f:Nat):Bool:=decide (2<=f)
theorem aOD{A:Yd}{p q r s x:Rat}{f l a:Nat}:R.edge A.K f l a=true↔(axF A p q r s x y f).edge (rA f) l a:=by
 unfold R.edge Ax.edge axF rA axX axY
 dsimp only
 by_cases h:f%2=0
 ·rw[if_pos h,if_pos h,if_pos h]
  by_cases g:f<2
  ·rw[if_pos g,decide_eq_false '!',if_neg zBf,qx,v5]
  ·rw[if_neg g,decide_eq_true '!',if_pos rfl,qx,v5]
 ·rw[if_neg h,if_neg h,if_neg h]
  by_cases g:f<2
  ·rw[if_pos g,decide_eq_false '!',if_neg zBf,qx,v5]
  ·rw[if_neg g,decide_eq_true '!',if_pos rfl,qx,v5]
noncomputable def gZ(A:Yd):List R.Qd:=R.qsN A.K A.ws.length A.us.length 4
noncomputable def Tch(A:Yd)(p q r s x y h:Rat)(d:R.Qd):Prop:=(axF A p q r s x y d.f).Tc (rA d.f) d.p d.b d.e h
theorem aUH(A:Yd)(p q r s x y:Rat)(f:Nat):(axF A p q r s x y f).ls.length=R.Lf A.ws.length A.us.length f:=by unfold axF R.Lf;split <;> rfl
theorem aUD(A:Yd)(p q r s x y:Rat)(f:Nat):(axF A p q r s x y f).al.length-1=R.Nf A.ws.length A.us.length f:=by unfold axF R.Nf;split <;> rfl
end U
namespace Q
open PySem L2 Z U
theorem sG(q:Rat):q*(q.den:Rat)=(q.num:Rat):=by
 have h:=vj q
 have hd:((q.den:Int):Rat)≠0:=by
  intro e
  have:=xm.mp (e.trans (y1).symm)
  have:=q.den_nz;omega
 conv=>lhs;lhs;rw[<- h,jv]
 rw[<- vm,kd hd]
structure Fr(m B:Nat)(q:Rat):Prop where
 ex:∃k:Int,q*(m:Rat)=(k:Rat)/\k.natAbs<=B
theorem Fr.cross{B:Nat}{q:Rat}(h:Fr m B q):∃k:Int,q.num*(m:Int)=k*(q.den:Int)/\k.natAbs<=B:=by
 obtain⟨k,e,c⟩:=h.ex
 refine⟨k,?_,c⟩
 have b:q*(q.den:Rat)=(q.num:Rat):=sG q
 have a:((q.num*(m:Int):Int):Rat)=((k*(q.den:Int):Int):Rat):=by
  rw[ju,ju,vm,vm,<- b,<- e]
  grind
 exact xm.mp a
theorem Fr.bd{B:Nat}{q:Rat}(h:Fr m B q)(hm:0<m):q.num.natAbs<=B/\q.den<=m:=by
 obtain⟨k,e,b⟩:=h.cross
 have a:q.num.natAbs*m=k.natAbs*q.den:=by
  have:=congrArg Int.natAbs e
  rwa [vi,vi,xp,xp] at this
 have hd:q.den∣m:=by
  refine WK (k:=q.den) (m:=q.num.natAbs) (WJ q.reduced) ?_
  rw[a];exact Nat.dvd_mul_left _ _
 have hl:=QL hm hd
 refine⟨?_,hl⟩
 have:q.num.natAbs*m<=B*m:=by
  rw[a];exact ku b hl
 exact Nat.le_of_mul_le_mul_right this hm
theorem Fr.bq{B:Nat}{q:Rat}(h:Fr m B q)(hm:0<m)(h1:m<10^400)(h2:B<10^400):Bq q:=⟨qn (h.bd hm).1 h2,qn (h.bd hm).2 h1⟩
theorem Fr.mono{B B':Nat}{q:Rat}(h:Fr m B q)(hB:B<=B'):Fr m B' q:=let ⟨k,e,hk⟩:=h.ex;⟨k,e,by omega⟩
theorem Fr.zero(m B:Nat):Fr m B 0:=⟨0,by rw[nr];rfl,by simp⟩
theorem Fr.sub{B C:Nat}{a b:Rat}(h:Fr m B a)(g:Fr m C b):Fr m (B+C) (a-b):=by
 obtain⟨k,e,hk⟩:=h.ex
 obtain⟨l,e',hl⟩:=g.ex
 exact⟨k-l,by rw[sj,<- e,<- e'];grind,by omega⟩
theorem Fr.mul{B C:Nat}{a b:Rat}(h:Fr m B a)(g:Fr n C b):Fr (m*n) (B*C) (a*b):=by
 obtain⟨k,e,d⟩:=h.ex
 obtain⟨l,c,hl⟩:=g.ex
 exact⟨k*l,by rw[ju,<- e,<- c,KM];grind,by rw[vi];exact ku d hl⟩
theorem Fr.int{B:Nat}{x:Int}(h:x.natAbs*m<=B):Fr m B (x:Rat):=⟨x*m,by rw[ju,vm],by rw[vi,xp];exact h⟩
noncomputable def FrL(m B:Nat)(ws:List Rat):Prop:=∀w∈ws,Fr m B w
theorem FrL.at{B:Nat}(h:FrL m B ws)(i:Nat):Fr m B (ws.getD i 0):=by
 rw[zGd]
 cases e:ws[i]? with
 |none=>exact Fr.zero m B
 |some w=>exact h w (zMo e)
noncomputable def sm:Nat:=10^60
noncomputable def Sml(q:Rat):Prop:=q.num.natAbs<10^65/\q.den<10^65
noncomputable def toQ(xs:List Int):List Rat:=xs.map λ(x:Int)=>(x:Rat)
theorem dC(xs:List Int):(toQ xs).length=xs.length:=zLm ..
theorem kP(h:xs.Pairwise (· < ·)):Up (toQ xs):=by
 unfold toQ Up
 rw[kv]
 exact h.imp λhxy=>gq.mpr hxy
noncomputable def dS(xs ys:List Int)(zs:List Str)(hx:xs.Pairwise (· < ·))(hy:ys.Pairwise (· < ·))(g:R.Good (xs.length-1) zs)(hz:zs.length=ys.length-1):Yd:=Yd.ofG (toQ xs) (toQ ys) zs (kP hx) (kP hy) (by rw[dC];exact g) (by rw[dC];exact hz)
theorem aKS(hx:xs.Pairwise (· < ·))(hy:ys.Pairwise (· < ·))(g:R.Good (xs.length-1) zs)(hz:zs.length=ys.length-1):rF (iK xs) (iK ys) zs=yd (dS xs ys zs hx hy g hz):=by
 rw[zK,zK]
 exact aPF _ _ _ _
noncomputable def aCC:Ct:=λds M k=>∃(A:Yd) (a b:Rat) (ha:0<a) (hb:0<b),ds=[yd A,aT a,aT b]/\BqL A.ws/\BqL A.us/\Bq a/\Bq b/\A.ws.length<=90/\A.us.length<=90/\k (yd (Yd.scale A a b ha hb)) M
end Q
namespace Z
open PySem L2
section
end
end Z
namespace Q
open PySem L2 Z U
noncomputable def sgn1(s:Bool):Str:=⟨#[R.sg s]⟩
theorem aQY(s:Bool)(n:Nat):iY (sgn1 s) n=R.ofL (jz n (R.sg s)):=jA (by
 rw[k4]
 show (jz n [R.sg s]).flatten=jz n (R.sg s)
 induction n with
 |zero=>rfl
 |succ n ih=>rw[ya,xf,ih];rfl)
noncomputable def f7(z:Str):Str:=R.ofL (46::z.cps.toList++[46])
theorem aB5(z:Str):(f7 z).length=z.length+2:=by
 unfold f7
 rw[R.jT]
 simp only[zl,ja,qe,qt,xi]
 have:z.cps.size=z.length:=rfl
 lia
theorem aIB{z:Str}(g:R.Good n [z]){p:Nat}(hp:p<=n+1)(s:Bool):R.atS (f7 z) p=R.sg s↔R.aJ [z] ((p:Int)-1) 0=s:=by
 have hl:z.length=n:=(g z '%').1
 have hd:(f7 z).cps.toList=46::z.cps.toList++[46]:=rfl
 have f:z.cps.toList.length=n:=by rw[qt];exact hl
 have ga:=R.dB (z:=f7 z) (j:=p) (by rw[aB5];lia)
 rw[hd] at ga
 have a:∀b:Bool,R.sg b=R.sg s↔b=s:=λb=>by cases b <;> cases s <;> decide
 by_cases h0:p=0
 ·subst h0
  rw[R.cY '!']
  have:R.atS (f7 z) 0=R.sg false:=(je ga).symm
  rw[this];exact a _
 ·obtain⟨q,rfl⟩:∃q,p=q+1:=⟨p-1,by lia⟩
  rw[show (((q+1:Nat):Int)-1)=(q:Int) by lia]
  by_cases h:q<n
  ·have e:R.atS (f7 z) (q+1)=R.atS z q:=by
    have a2:=R.dB (z:=z) (j:=q) '!'
    rw[zl,kl,q6 '!',a2] at ga
    exact (je ga).symm
   have d:=R.oX g (ql.mpr rfl) h
   rw[e,R.fI (z:=z) (c:=R.atS z q) '!' '!' rfl (by rw[qm];exact R.dB '!')]
   rcases d with d|d <;> rw[d] <;> cases s <;> decide
  ·have e:q=n:=by lia
   rw[nF (λz f=>(g z f).1) '!']
   have:R.atS (f7 z) (q+1)=R.sg false:=by
    rw[zl,kl,qr '!',f,e,cf] at ga
    rw[e];exact (je ga).symm
   rw[this];exact a _
theorem wR(p:Int):qb p 1=(p:Rat):=by
 rw[jv]
 show (p:Rat)/(1:Rat)=p
 grind
noncomputable def aTR:Ct:=λds M k=>∃(p:Int) (t:Rat),ds=[.int p,aT t]/\p.natAbs<1000/\Bq t/\k (aT ((p:Rat)*t)) M
structure Gr(ws:List Rat)(dn up:Rat):Prop where
 u:Up ws
 d0:0<=dn
 u0:0<=up
 b:BqL ws
 bd:Bq dn
 bu:Bq up
 lo:BqL (aE2 ws dn)
 hi:BqL (aFN ws up)
 len:ws.length<=90
noncomputable def bxP(p q r s:Int)(t:Rat):Bx:=⟨(p:Rat)*t,(q:Rat)*t,(r:Rat)*t,(s:Rat)*t⟩
structure CutOk(A:Yd)(p q r s:Int)(t:Rat):Prop where
 hp:p.natAbs<1000
 hq:q.natAbs<1000
 hr:r.natAbs<1000
 hs:s.natAbs<1000
 ht:Bq t
 xc:Gr A.ws (bxP p q r s t).e (bxP p q r s t).w
 yc:Gr A.us (bxP p q r s t).n (bxP p q r s t).s
 xb:Gr A.ws (bxP p q r s t).w (bxP p q r s t).e
 yb:Gr A.us (bxP p q r s t).s (bxP p q r s t).n
noncomputable def jM(p q r s:Int):D := .tup [.int p, .int q, .int r, .int s]
end Q
namespace Q
open PySem L2 Z U
theorem hB(A B:Yd)(x y:Rat):(Yd.op aMY A B).has x y=(A.has x y&&B.has x y):=Yd.op_has rfl A B x y
theorem hE(A B:Yd)(x y:Rat):(Yd.op aPD A B).has x y=(A.has x y||B.has x y):=Yd.op_has rfl A B x y
theorem hL(A B:Yd)(x y:Rat):(Yd.op aM0 A B).has x y=(A.has x y && !B.has x y):=Yd.op_has rfl A B x y
theorem in1(A B:Yd):Yd.op aM0 (Yd.op aMY A B) A=Yd.void:=Yd.ext' λx y=>by rw[hL,hB,Yd.void_has];cases A.has x y <;> cases B.has x y <;> rfl
structure Y8(A:Yd):Prop where
 x:FrL 6 100000000000 A.ws
 y:FrL 6 100000000000 A.us
 lx:A.ws.length<=7
 ly:A.us.length<=7
structure S8(S:List Rat):Prop where
 len:S.length<=30
 fr:FrL 6 100000000000 S
structure O8(Sx Sy:List Rat)(A:Yd):Prop where
 on:On Sx Sy A
 sx:S8 Sx
 sy:S8 Sy
theorem aLK(ux:Up7 xs)(uy:Up7 ys)(g:R.Good (xs.length-1) zs)(hz:zs.length=ys.length-1):(∀w∈(dS xs ys zs ux.up uy.up g hz).ws,∃x∈xs,w=(x:Rat))/\(∀w∈(dS xs ys zs ux.up uy.up g hz).us,∃x∈ys,w=(x:Rat))/\(dS xs ys zs ux.up uy.up g hz).ws.length<=7/\(dS xs ys zs ux.up uy.up g hz).us.length<=7:=by
 obtain⟨c,b⟩:=Yd.ofG_ws (kP ux.up) (kP uy.up) (by rw[dC];exact g:R.Good ((toQ xs).length-1) zs) (by rw[dC];exact hz)
 have e:=ux.few
 have d:=uy.few
 refine⟨λw hw => ?_,λw hw => ?_,?_,?_⟩
 ·obtain⟨x,a,rfl⟩:=qo.mp (c w hw);exact⟨x,a,rfl⟩
 ·obtain⟨x,a,rfl⟩:=qo.mp (b w hw);exact⟨x,a,rfl⟩
 ·exact qq (aG4 (dS xs ys zs ux.up uy.up g hz).uw c) (by rw[dC];exact e)
 ·exact qq (aG4 (dS xs ys zs ux.up uy.up g hz).uu b) (by rw[dC];exact d)
end Q
namespace Q
open PySem L2 Z U
noncomputable def aR7:Ct:=λds M k=>∃a b:Rat,ds=[aT a,aT b]/\Bq a/\Bq b/\b≠0/\k (aT (a/b)) M
theorem aHY{b:Rat}(h:b≠0):b.num≠0:=λe=>h (Rat.num_eq_zero.mp e)
theorem aNI{a b:Rat}(h:b≠0):lowP ((pq a).1*(pq b).2) ((pq a).2*(pq b).1)=pq (a/b):=
 (m8 _ _ (ze (fN a) (aHY h))).trans (congrArg pq (Num.aPE a b))
theorem aQH{p q:Int×Int}(hp:Bg p)(hq:Bg q):(p.2*q.1).natAbs<10^1000:=by
 rw[vi]
 have:p.2.natAbs*q.1.natAbs<=10^400*10^400:=ku (yr hp.b) (yr hq.a)
 rw[<- lu] at this
 exact qn this (Nat.pow_lt_pow_right '#' '#')
theorem nA{t:Int}(hb:0<b):pairD (lowG t b)=aT (qb t b):=by
 rw[<- aQM hb,m8 _ _ '$'];rfl
end Q
namespace Q
open PySem L2 Z U
noncomputable def PnM(M:Mem)(p:Addr)(b:Int):Prop:=∃(ns:List Int) (st g:Int),M p=some (.lst [.fl (ns.map .int), .int st, .int g])/\0<=st/\st<=b/\0<=g
theorem PnM.mono{p:Addr}{c:Int}(h:PnM M p b)(l:b<=c):PnM M p c:=by
 obtain⟨ns,st,g,h1,h2,h3,h4⟩:=h
 exact⟨ns,st,g,h1,h2,by lia,h4⟩
theorem PnM.ne{p:Addr}(h:PnM M p b)(n:M a=none):a≠p:=λz=>by
 obtain⟨ns,st,g,h1,_⟩:=h
 rw[z,h1] at n;cases n
theorem PnM.new{p:Addr}{o:MO}(h:PnM M p b)(n:a≠p):PnM (bV M a o) p b:=by
 obtain⟨ns,st,g,h1,h2⟩:=h
 exact⟨ns,st,g,by rw[cV (λe=>n e.symm)];exact h1,h2⟩
theorem PnM.del{p:Addr}(h:PnM M p b)(n:a≠p):PnM (k8 M a) p b:=by
 obtain⟨ns,st,g,h1,h2⟩:=h
 exact⟨ns,st,g,by unfold k8;rw[if_neg (λe=>n e.symm)];exact h1,h2⟩
noncomputable def cPen:Ct:=λds M k=>∃(ns:List Int),ds=[.fl (ns.map .int)]/\∀p M',M p=none->Le M M'->PnM M' p 0->k (.mt p) M'
noncomputable def aTT:Ct:=λds M k=>∃(p:Addr) (n b:Int),ds=[.mt p, .int n]/\0<n/\n<1073741824/\PnM M p b/\b<=1000000/\∀z M',0<=z->z<n->PnM M' p (b+1)->cQ p M M'->(∀a,a≠p->M' a=M a)->k (.int z) M'
noncomputable def aOA:Ct:=λds M k=>∃(p:Addr) (b gap:Int),ds=[.mt p, .int gap]/\1<=gap/\gap<=100000000/\PnM M p b/\b<=900000/\∀xs M',Up7 xs->2<=xs.length->PnM M' p (b+20)->cQ p M M'->k (.lst (xs.map .int)) M'
noncomputable def aP6:Ct:=λds M k=>∃(p:Addr) (b:Int) (xs ys:List Int),ds=[.mt p, .lst (xs.map .int), .lst (ys.map .int)]/\PnM M p b/\b<=900000/\2<=xs.length/\2<=ys.length/\xs.length<=20/\ys.length<=20/\∀zs M',R.Good (xs.length-1) zs->zs.length=ys.length-1->PnM M' p (b+500)->cQ p M M'->k (.lst (zs.map .str)) M'
structure Pc(p:Int):Prop where
 a:1<=p
 b:p<=9
noncomputable def aSA:Ct:=λds M k=>∃(p:Addr) (b:Int),ds=[.mt p]/\PnM M p b/\b<=900000/\∀e n w s M',Pc e->Pc n->Pc w->Pc s->PnM M' p (b+10)->cQ p M M'->k (jM e n w s) M'
structure Tm(t:Rat):Prop where
 p:0<=t
 n:t.num.natAbs<=1000000000000
 d:t.den<=1000000
theorem jD{a:Int}(hb:0<b):Fr b.toNat a.natAbs (qb a b):=by
 have nb:((b:Int):Rat)≠0:=λe=>by have:=xm.mp (e.trans y1.symm);lia
 refine⟨a,?_,qk _⟩
 have e:((b.toNat:Nat):Rat)=((b:Int):Rat):=by rw[<- vm,md '!']
 rw[jv,e]
 grind
theorem vZ{a:Int}(hb:0<b):(qb a b).num.natAbs<=a.natAbs/\((qb a b).den:Int)<=b:=by
 obtain⟨h1,h2⟩:=(jD (a:=a) hb).bd '!'
 exact⟨h1,by lia⟩
theorem aRO{a:Int}(ha:0<=a)(hb:0<b):0<=qb a b:=by
 rw[jv]
 have c:(0:Rat)<(b:Rat):=kf.mpr hb
 have d:(0:Rat)<=(a:Rat):=Rat.intCast_nonneg.mpr ha
 refine zi.mp λq => ?_
 have:=(Qi c).mp q
 grind
structure Yk(m B n:Nat)(A:Yd):Prop where
 x:FrL m B A.ws
 y:FrL m B A.us
 lx:A.ws.length<=n
 ly:A.us.length<=n
structure Mk(m:Nat)(t:Rat):Prop where
 m0:0<m
 m1:m<=100000000000000000000
 p:0<=t
 f:Fr m 100000000000000000000000000000000 t
theorem Mk.of(h:Tm t):Mk t.den t:=⟨t.den_pos,qq h.d '#',h.p,⟨t.num,sG t,qq h.n '#'⟩⟩
theorem Mk.bq{B:Nat}{q:Rat}(h:Mk m t)(f:Fr m B q)(hB:B<=10^60):Bq q:=f.bq h.m0 (qn h.m1 '&') (qn hB '&')
theorem Mk.sml{B:Nat}{q:Rat}(h:Mk m t)(f:Fr m B q)(hB:B<=10^60):Sml q:=by
 obtain⟨a,b⟩:=f.bd h.m0
 exact⟨qn a (qn hB '&'),qn b (qn h.m1 '&')⟩
noncomputable def far:Nat:=10^50
structure Pp(p q r s:Int):Prop where
 p:Pc p
 q:Pc q
 r:Pc r
 s:Pc s
theorem aAE(ux:Up7 xs)(uy:Up7 ys)(g:R.Good (xs.length-1) zs)(hz:zs.length=ys.length-1)(h:Mk m t):Yk m 1000000000000000000000000000000 7 (dS xs ys zs ux.up uy.up g hz):=by
 obtain⟨c,b,e,d⟩:=aLK ux uy g hz
 have hm:=h.m1
 have key:∀x:Int, -1000000000<=x/\x<=1000000000->Fr m 1000000000000000000000000000000 (x:Rat):=λx a=>Fr.int (qq (ku (show x.natAbs<=1000000000 by lia) hm) '#')
 exact⟨λw hw=>by obtain⟨x,a,rfl⟩:=c w hw;exact key x (ux.bd x a),λw hw=>by obtain⟨x,a,rfl⟩:=b w hw;exact key x (uy.bd x a),e,d⟩
theorem Yk.repr{B:Nat}{A:Yd}(k:Yk m B n A)(h:Mk m t)(hB:B<=far)(hn:n<=90):smD (yd A)=true/\wt (yd A)<=10000000:=by
 have lx:=k.lx
 have ly:=k.ly
 obtain⟨hw,r⟩:=A.wide
 have g:=A.T.good.1
 have t1:∀z∈A.K,wt (.str z)<=1000:=λz a=>by
  have b:∀c∈z.cps.toList,c<16^8:=λc o=>by
   have:=(g z a).2
   rw[jn] at this
   have:=this c o
   have e:c=35\/c=46:=by simpa[R.sgn] using this
   lia
  have:=Vh z b
  have:=hw z a
  show (reprText z).length<=_
  lia
 have ln:∀ws:List Rat,FrL m B ws->smDs (a6 ws)=true/\wts (a6 ws)<=ws.length*141:=λws f=>by
  have s1:∀d∈a6 ws,smD d=true/\wt d<=139:=λd hd=>by
   obtain⟨q,j,rfl⟩:=qo.mp hd
   obtain⟨a1,a2⟩:=h.sml (f q j) (qq hB (by unfold far;decide +kernel))
   refine⟨?_,wm (by simp only[aT,pairD,wt,wts])⟩
   show smD (.tup [.int q.num, .int (q.den:Int)])=true
   simp only[smD,smDs,vz,qx,decide_eq_true_eq]
   exact⟨a1,by rw[xp];exact a2⟩
  have w:=vQ (B:=139) λd hd=>(s1 d hd).2
  rw[cF] at w
  exact⟨rG λd hd=>(s1 d hd).1,w⟩
 obtain⟨a1,a2⟩:=ln A.ws k.x
 obtain⟨i,s⟩:=ln A.us k.y
 have l:smDs (A.K.map D.str)=true:=rG λd hd=>by obtain⟨z,_,rfl⟩:=qo.mp hd;rfl
 have p:wts (A.K.map D.str)<=A.K.length*1002:=by
  have:=vQ (B:=1000) (ds:=A.K.map D.str) λd hd=>by obtain⟨z,a,rfl⟩:=qo.mp hd;exact t1 z a
  rwa [zLm] at this
 unfold yd kC
 simp only[smD,smDs,wt,wts,a1,i,l,vz]
 exact⟨trivial,by lia⟩
theorem aMG{z:Int}(h0:0<=z)(h1:z<3):∃m:Int,atI [D.int 3, .int 40, .int (10^(8:Int).toNat)] z=some (.int m)/\1<=m/\m<=100000000:=by
 have:z=0\/z=1\/z=2:=by lia
 rcases this with rfl|rfl|rfl
 ·exact⟨3,rfl,by decide,by decide⟩
 ·exact⟨40,rfl,by decide,by decide⟩
 ·exact⟨10^(8:Int).toNat,rfl,by decide,by decide⟩
theorem aHF{z:Int}(h0:0<=z)(h1:z<5):∃t:Str,atI [D.str "#####.", .str "##.", .str "#.", .str "#....", .str "#"] z=some (.str t)/\1<=t.length/\t.length<=6/\t.cps.toList.all R.sgn=true:=by
 have:z=0\/z=1\/z=2\/z=3\/z=4:=by lia
 rcases this with rfl|rfl|rfl|rfl|rfl
 ·exact⟨"#####.", rfl,by decide +kernel,by decide +kernel,by decide +kernel⟩
 ·exact⟨"##.", rfl,by decide +kernel,by decide +kernel,by decide +kernel⟩
 ·exact⟨"#.", rfl,by decide +kernel,by decide +kernel,by decide +kernel⟩
 ·exact⟨"#....", rfl,by decide +kernel,by decide +kernel,by decide +kernel⟩
 ·exact⟨"#", rfl,by decide +kernel,by decide +kernel,by decide +kernel⟩
theorem aOY{t:Str}(h:t.cps.toList.all R.sgn=true)(hj:j<t.length):R.atS t j=35\/R.atS t j=46:=by
 have e:=R.dB (z:=t) (j:=j) hj
 rw[jn] at h
 have:=h _ (zMo e)
 simpa[R.sgn] using this
theorem wO{i:Int}(h0:0<=i)(h:i<xs.length):∃x,xs[i.toNat]?=some x/\atI (xs.map D.int) i=some (.int x):=by
 obtain⟨j,rfl⟩:∃j:Nat,i=j:=⟨i.toNat,by lia⟩
 have a:j<xs.length:=by lia
 exact⟨xs[j],by rw[qm];exact zGe a,dD (by rw[qg,zGe a];rfl)⟩
theorem tm0:Tm 0:=⟨by decide +kernel,by decide +kernel,by decide +kernel⟩
end Q
namespace Q
open PySem L2 Z U
noncomputable def aJO:Ct:=λds M k=>∃a b:Rat,ds=[aT a,aT b]/\Bq a/\Bq b/\k (aT (iW a b)) M
noncomputable def aOV:Ct:=λds M k=>∃a b:Rat,ds=[aT a,aT b]/\Bq a/\Bq b/\k (aT (tY a b)) M
noncomputable def aOQ:Ct:=λds M k=>∃(a:Rat) (p:Int),ds=[aT a, .int p]/\Bq a/\Pc p/\k (aT (a/(p:Rat))) M
noncomputable def aRA:Ct:=λds M k=>∃(A:Yd) (v u:Rat),ds=[yd A,aT v,aT u]/\BqL A.ws/\BqL A.us/\A.ws.length<=100/\A.us.length<=100/\Bq v/\Bq u/\k (.str (jR (b6 A.K (aW A.ws v) (aW A.us u)))) M
theorem aJE(A:Yd)(x y:Rat):decide (jR (b6 A.K (aW A.ws x) (aW A.us y))=("in" : Str))=f8 A x y:=by
 have e:(b6 A.K (aW A.ws x) (aW A.us y)).all id=f8 A x y:=by
  unfold b6 f8
  rw[List.all_flatMap]
  congr 1
  funext l
  rw[gu];rfl
 unfold jR
 rw[e]
 cases h:f8 A x y with
 |true=>exact decide_eq_true rfl
 |false =>
  rw[if_neg zBf]
  split
  ·decide +kernel
  ·decide +kernel
structure Nm(m B:Nat):Prop where
 m0:0<m
 m1:m<=sm
 b:B<=sm
structure Dn(m B:Nat)(q:Rat):Prop where
 n:q.num.natAbs<=2*B
 d:q.den<=9*m
theorem Dn.bq{B:Nat}{q:Rat}(h:Dn m B q)(n:Nm m B):Bq q:=by
 have e:=h.n
 have c:=h.d
 have a:=n.m1
 have b:=n.b
 exact⟨qn (qq e (ma 2 b)) (by unfold sm;decide +kernel),qn (qq c (ma 9 a)) (by unfold sm;decide +kernel)⟩
theorem Nm.bq{B:Nat}(n:Nm m B){q:Rat}(h:Fr m B q):Bq q:=h.bq n.m0 (qn n.m1 (by unfold sm;decide +kernel)) (qn n.b (by unfold sm;decide +kernel))
theorem Nm.bq2{B:Nat}(n:Nm m B){q:Rat}(h:Fr m (B+B) q):Bq q:=h.bq n.m0 (qn n.m1 (by unfold sm;decide +kernel)) (qn (Qk n.b n.b) (by unfold sm;decide +kernel))
theorem Nm.div{B:Nat}(n:Nm m B){q:Rat}(h:Fr m (B+B) q){p:Int}(hp:Pc p):Dn m B (q/(p:Rat)):=by
 obtain⟨i,g⟩:=hp
 obtain⟨k,e,d⟩:=h.ex
 have np:((p:Int):Rat)≠0:=λe=>by have:=xm.mp (e.trans y1.symm);omega
 have c:((p.toNat:Nat):Rat)=((p:Int):Rat):=by rw[<- vm,md '$']
 have f:Fr (m*p.toNat) (B+B) (q/(p:Rat)):=⟨k,by rw[KM,c,<- e];grind,d⟩
 obtain⟨a,b⟩:=f.bd (WC n.m0 '$')
 refine⟨by omega,qq b ?_⟩
 rw[VD]
 exact Nat.mul_le_mul_right m '$'
theorem aAA{B:Nat}{a b:Rat}(h:Dn m B a)(g:Dn m B b):Dn m B (iW a b):=by unfold iW;split <;> assumption
theorem aQV{B:Nat}{a b:Rat}(h:Dn m B a)(g:Dn m B b):Dn m B (tY a b):=by unfold tY;split <;> assumption
theorem vA{B:Nat}(n:Nm m B)(f:FrL m B ws){x:Rat}(fx:Fr m B x){p q:Int}(hp:Pc p)(hq:Pc q)(b:Nat):Dn m B (tB ws x p q b):=by
 unfold U.tB
 split
 ·exact n.div (fx.sub (f.at 0)) hp
 ·split
  ·exact aAA (n.div (fx.sub (f.at _)) hp) (n.div ((f.at _).sub fx) hq)
  ·exact n.div ((f.at _).sub fx) hq
theorem sK{B:Nat}{tx:Nat->Rat}{ty:Rat}{out:Nat->Bool}(h1:∀a,Dn m B (tx a))(h2:Dn m B ty)(h3:Dn m B t):∀n,Dn m B (mI tx ty out n t)
 |0=>h3
 |n+1=>by
  unfold mI
  split
  ·exact aQV (sK h1 h2 h3 n) (aAA (h1 n) h2)
  ·exact sK h1 h2 h3 n
theorem xG{B:Nat}{tx ty:Nat->Rat}{out:Nat->Nat->Bool}{na:Nat}(h1:∀a,Dn m B (tx a))(h2:∀b,Dn m B (ty b))(h3:Dn m B t):∀n,Dn m B (oE tx ty out na n t)
 |0=>h3
 |n+1=>sK h1 (h2 n) (xG h1 h2 h3 n) na
noncomputable def eG(ws:List Rat)(x p q:Rat)(n:Nat):List D:=(q7 n).map λb=>aT (tB ws x p q b)
theorem lV(ws:List Rat)(x p q:Rat)(n:Nat):(eG ws x p q n).length=n:=by unfold eG;rw[zLm,j3]
theorem sZ(ws:List Rat)(x p q:Rat)(n:Nat):eG ws x p q (n+1)=eG ws x p q n++[aT (tB ws x p q n)]:=by unfold eG;rw[x8,qi];rfl
theorem vW{x p q:Rat}(h:(eG ws x p q n)[i]?=some d):i<n/\d=aT (tB ws x p q i):=by
 unfold eG at h
 obtain⟨j,c,rfl⟩:=b4 h
 obtain⟨b,a⟩:=zGs c
 rw[JI] at a
 subst a
 rw[j3] at b
 exact⟨b,rfl⟩
theorem aKB(ws:List Rat)(x p q:Rat)(n:Nat):atI (eG ws x p q (n+1)) 0=some (aT (U.tB ws x p q 0)):=dD (j:=0) (by
 unfold eG
 rw[qg,xg '$'];rfl)
noncomputable def aLW:Ct:=λds M k=>∃(ws:List Rat) (x:Rat) (p q:Int) (m B:Nat),ds=[.tup (a6 ws),aT x, .int p, .int q]/\Nm m B/\FrL m B ws/\Fr m B x/\1<=ws.length/\ws.length<=90/\Pc p/\Pc q/\k (.lst (eG ws x p q (ws.length+1))) M
noncomputable def aKY:Ct:=λds M k=>∃(A:Yd) (e n w s:Int) (x y:Rat) (m B:Nat),ds=[yd A,jM e n w s,aT x,aT y]/\Nm m B/\FrL m B A.ws/\FrL m B A.us/\Fr m B x/\Fr m B y/\A.ws.length<=90/\A.us.length<=90/\Pp e n w s/\k (aT (c0 A e n w s x y)) M
theorem aE8(h:1<=ws.length):atI (a6 ws) (-1)=some (aT (ws.getD (ws.length-1) 0)):=by
 obtain⟨r,w,rfl⟩:=wV (l:=ws) (λe=>by rw[e] at h;simp at h)
 have:a6 (r++[w])=a6 r++[aT w]:=by unfold a6;rw[qi];rfl
 rw[this,pA,zGd,qe]
 simp
theorem aHE{B:Nat}(n:Nm m B){A:Yd}(f:FrL m B A.ws)(g:FrL m B A.us){x:Rat}(fx:Fr m B x)(fy:Fr m B y){p q r s:Int}(o:Pp p q r s):Dn m B (c0 A p q r s x y):=by
 unfold c0
 split
 ·exact xG (λa=>vA n f fx o.p o.r a) (λb=>vA n g fy o.q o.s b) (vA n f fx o.p o.r 0) _
 ·exact⟨k3 _,by show 1<=9*m;have:=n.m0;omega⟩
end Q
namespace Q
open PySem L2 Z U
theorem aQJ(a b:Rat)(g:Int):qb (a.num*(b.den:Int)+g*b.num*(a.den:Int)) ((a.den:Int)*(b.den:Int))=a+(g:Rat)*b:=by
 have d:(a.den:Rat)≠0:=λe=>by rw[<- vm] at e;have:=xm.mp (e.trans y1.symm);have:=a.den_nz;omega
 have c:(b.den:Rat)≠0:=λe=>by rw[<- vm] at e;have:=xm.mp (e.trans y1.symm);have:=b.den_nz;omega
 rw[jv,Rat.intCast_add,ju,ju,ju,ju,vm,vm,<- sG a,<- sG b]
 grind
structure Tm2(t:Rat):Prop where
 p:0<=t
 n:t.num.natAbs<=100000000000000000000
 d:t.den<=1000000000000
noncomputable def bot:Int:=200000000000000000000
structure Al(a b:Int):Prop where
 n:a.natAbs<=10^35
noncomputable def aQ1:Ct:=λds M k=>∃(p:Addr) (b:Int) (xs:List Int) (c:Int),ds=[.mt p, .lst (xs.map .int), .int c]/\PnM M p b/\b<=900000/\Up7 xs/\2<=xs.length/\1<=c/\c<=bot/\∀a M',Al a c->PnM M' p (b+10)->cQ p M M'->k (.int a) M'
noncomputable def aTA:Ct:=λds M k=>∃(p:Addr) (b:Int) (xs ys:List Int),ds=[.mt p, .lst (xs.map .int), .lst (ys.map .int)]/\PnM M p b/\b<=800000/\Up7 xs/\2<=xs.length/\Up7 ys/\2<=ys.length/\∀u v c M',Al u c->Al v c->1<=c->c<=bot->PnM M' p (b+40)->cQ p M M'->k (.tup [.int u, .int v, .int c]) M'
theorem aMB{z1 z2 z:Int}(h1:0<=z1)(h2:z1<12)(h3:0<=z2)(h4:z2<10^(6:Int).toNat)(h0:0<=z)(h:z<4):∃c:Int,atI [D.int 1, .int 2, .int (1+z1), .int (10^(20:Int).toNat+z2)] z=some (.int c)/\1<=c/\c<=bot:=by
 have a:z2<1000000:=h4
 have e:(10:Int)^(20:Int).toNat=100000000000000000000:=rfl
 have:z=0\/z=1\/z=2\/z=3:=by omega
 unfold bot
 rcases this with rfl|rfl|rfl|rfl
 ·exact⟨1,rfl,by omega,by omega⟩
 ·exact⟨2,rfl,by omega,by omega⟩
 ·exact⟨1+z1,rfl,by omega,by omega⟩
 ·exact⟨_,rfl,by rw[e];omega,by rw[e];omega⟩
theorem al0{x c:Int}{X:Nat}(hx:x.natAbs<=X)(hc:c.natAbs<=200000000000000000000):(x*c).natAbs<=X*200000000000000000000:=by
 rw[vi];exact ku hx hc
theorem al1{x c:Int}(hx:x.natAbs<=1000000000)(hc:c.natAbs<=200000000000000000000):(x*c).natAbs<=10^35:=qq (al0 hx hc) '#'
theorem al2{x c z:Int}(hx:x.natAbs<=1000000000)(hc:c.natAbs<=200000000000000000000)(hz:z.natAbs<=9):(x*c-z).natAbs<=10^35:=by
 have:=al0 hx hc
 generalize x*c=y at *
 exact qq (show _<=1000000000*200000000000000000000+9 by omega) '#'
theorem al2'{x c z:Int}(hx:x.natAbs<=1000000000)(hc:c.natAbs<=200000000000000000000)(hz:z.natAbs<=9):(x*c+z).natAbs<=10^35:=by
 have:=al0 hx hc
 generalize x*c=y at *
 exact qq (show _<=1000000000*200000000000000000000+9 by omega) '#'
theorem al3{x o c z:Int}(hx:x.natAbs<=1000000000)(ho:o.natAbs<=1000000000)(hc:c.natAbs<=200000000000000000000)(hz:z.natAbs<=12):(x*c+(o-x)*c*z/12).natAbs<=10^35:=by
 have b:=al0 hx hc
 have a:((o-x)*c*z).natAbs<=2000000000*200000000000000000000*12:=by
  rw[vi];exact ku (al0 (show (o-x).natAbs<=2000000000 by omega) hc) hz
 generalize x*c=y at *
 generalize (o-x)*c*z=v at *
 exact qq (show _<=1000000000*200000000000000000000+(2000000000*200000000000000000000*12+1) by omega) '#'
theorem aIS{z a:Int}(h0:0<=z)(h:z<2):∃q:Int,atI [D.int a, .int b] z=some (.int q)/\(q=a\/q=b):=by
 have:z=0\/z=1:=by omega
 rcases this with rfl|rfl
 ·exact⟨a,rfl, .inl rfl⟩
 ·exact⟨b,rfl, .inr rfl⟩
theorem aJR{e n w s:Int}(o:Pp e n w s):Pz (e:Rat) (n:Rat) (w:Rat) (s:Rat):=⟨kf.mpr (by have:=o.p.a;omega),kf.mpr (by have:=o.q.a;omega),kf.mpr (by have:=o.r.a;omega),kf.mpr (by have:=o.s.a;omega)⟩
end Q
namespace HD
open PySem PySem.Spec PyProof.Rows L2 PySem.W
section
variable {E:Value->Shared->Prop}
end
end HD
namespace Z
open PySem L2
section
variable {K:Fg}{p:Addr}
theorem Rel.newO(r:Rel K G H M)(h:H p=none)(o:HO):Stp K G H M G (upd H p o) (bV M p (.ob o)):=by
 have c:=(r.free h).1
 refine⟨Same.refl G,⟨λb u q => ?_,λa m q => ?_⟩,λa u d e f => ?_⟩
 ·rw[bB (bM q c)];exact r.same b u q
 ·by_cases z:a=p
  ·subst z
   rw[aQ] at q;cases q
   exact⟨c,bJ⟩
  ·rw[cV z] at q
   exact⟨(r.mem a m q).1,(r.mem a m q).2.mv (Same.refl G) (bB z)⟩
 ·have z:a≠p:=bM d h
  exact⟨by rw[bB z];exact d,e,by rw[cV z];exact f⟩
end
section
theorem nY:∀{vs:List Value}{ns:List Int},pw vs ns->Vals (ns.map V.int) vs
 |_,_, .nil => .nil
 |_,_, .cons n t h => .cons ⟨t,rfl⟩ (nY h)
end
end Z
namespace Q
open PySem L2 Z U
end Q
namespace PySem
open Builtin
section
variable {E:Value->Shared->Prop}{z TI TO i1 i2:Addr}{fp1 fp2:List Addr}{n1 n2 k:Nat}{P1 P2:Nat->Value->Prop}{S1 S2:Nat->Heap->Prop}{a b:Value}
end
end PySem
namespace L2
open PySem PySem.Spec PyProof.Rows
section
end
end L2
namespace Z
open PySem L2
section
variable {a b:Expr}{rest:List Expr}
end
end Z
namespace Q
open PySem L2 Z U
noncomputable def ends(ns:List Int)(a b:Int):List Int:=(a-2)::(ns++[b+2])
structure MidOf(xs vs:List Int)(t:Rat)(m:Int):Prop where
 off:∀x∈xs,∀v∈vs,2*(x*(t.den:Int)+v*t.num)≠m
 bd : -10000000000000000<=m/\m<=10000000000000000
theorem sC(h:i<(toQ xs).length):(toQ xs)[i]=((xs.getD i 0:Int):Rat):=by
 unfold toQ at h ⊢
 rw[zLm] at h
 rw[nz,zGd,zGe h];rfl
theorem nU(hx:xs.Pairwise (· < ·))(hy:ys.Pairwise (· < ·))(g:R.Good (xs.length-1) zs)(hz:zs.length=ys.length-1)(x y:Rat):(dS xs ys zs hx hy g hz).has x y=R.aJ zs (ix (toQ xs) x) (ix (toQ ys) y):=Yd.ofG_has _ _ _ _ x y
theorem iU(g:R.Good n zs){a u:Int}(h:R.aJ zs a u=true):0<=a/\a<n/\0<=u/\u<zs.length:=by
 obtain⟨d,c,z,b,f⟩:=R.jY.mp h
 have j:=(zGs b).1
 have e:=(zGs f).1
 have i:=(g z (zMo b)).1
 rw[qt] at e
 have k:z.cps.size=z.length:=rfl
 exact⟨c,by lia,d,by lia⟩
theorem i7{k:Nat}(h:k<xs.length):xs.getD k 0∈xs:=by
 rw[zGd,zGe h];exact ke h
theorem zM(hx:xs.Pairwise (· < ·))(hy:ys.Pairwise (· < ·))(g:R.Good (xs.length-1) zs)(hz:zs.length=ys.length-1):(∀w∈(dS xs ys zs hx hy g hz).ws,w∈toQ xs)/\∀w∈(dS xs ys zs hx hy g hz).us,w∈toQ ys:=Yd.ofG_ws _ _ _ _
theorem aI5{e n w s:Int}(o:Pp e n w s):∀q∈[e,n,w,s],1<=q/\q<=9:=λq c=>by
 simp only[qp,vy,or_false] at c
 rcases c with rfl|rfl|rfl|rfl
 ·exact⟨o.p.a,o.p.b⟩
 ·exact⟨o.q.a,o.q.b⟩
 ·exact⟨o.r.a,o.r.b⟩
 ·exact⟨o.s.a,o.s.b⟩
theorem eS{k:Nat}(h:k<xs.length):atI (xs.map D.int) (k:Int)=some (.int (xs.getD k 0)):=dD (by
 rw[qg,zGd,zGe h];rfl)
theorem iJ{z:Str}(h:zs[j]?=some z):atI (zs.map D.str) (j:Int)=some (.str z):=dD (by rw[qg,h];rfl)
theorem hash_eq(c:Nat):decide ((⟨#[c]⟩:Str)=("#" : Str))=decide (c=35):=by
 rw[aLQ,decide_eq_decide]
 constructor
 ·intro e;injection e with e;injection e with e;injection e
 ·intro e;rw[e]
end Q
namespace Q
open PySem L2 Z U
noncomputable def F60:Int:=10^(60:Int).toNat
noncomputable def wq(xs:List Int)(b:Int)(k:Nat):Int:=if k=0 then 0-F60 else if k<=xs.length then xs.getD (k-1) 0*b else F60
abbrev C4:=Int×Int×Int×Int
noncomputable def pV(c:C4):D := .tup [.int c.1, .int c.2.1, .int c.2.2.1, .int c.2.2.2]
noncomputable def cellAt(xs ys:List Int)(b:Int)(j k:Nat):C4:=(wq xs b k,wq xs b (k+1),wq ys b j,wq ys b (j+1))
noncomputable def aK1(xs ys:List Int)(zs:List Str)(b:Int)(c:C4):Prop:=∃j k:Nat,j<=ys.length/\k<=xs.length/\R.aJ zs ((k:Int)-1) ((j:Int)-1)=false/\c=cellAt xs ys b j k
noncomputable def aLN:Ct:=λds M k=>∃(xs ys:List Int) (zs:List Str) (b:Int),ds=[.lst (xs.map .int), .lst (ys.map .int), .lst (zs.map .str), .int b]/\Up7 xs/\Up7 ys/\2<=xs.length/\2<=ys.length/\R.Good (xs.length-1) zs/\zs.length=ys.length-1/\∀cs:List C4,(∀c,c∈cs↔aK1 xs ys zs b c)->cs.length<=64->k (.lst (cs.map pV)) M
theorem sJ{k:Nat}(hk:k<=xs.length+1):atI ([D.int (0-F60)]++(xs.map (· * b)).map D.int++[D.int F60]) (k:Int)=some (.int (wq xs b k)):=dD (by
 unfold wq
 rw[jd]
 cases k with
 |zero=>rfl
 |succ k =>
  rw[y9,kl,if_neg '!']
  by_cases h:k+1<=xs.length
  ·rw[if_pos h,q6 (by simp;lia),qg,qg,z9,zGd,zGe '!'];rfl
  ·rw[if_neg h,qr (by simp;lia)]
   have:k-((xs.map (· * b)).map D.int).length=0:=by simp;lia
   rw[this];rfl)
noncomputable def c7(n:Nat):Str:=R.ofL (jz n 46)
theorem aDS(n:Nat):iY "." n=c7 n:=by
 have:=aQY false n
 exact this
noncomputable def eN(n:Nat)(zs:List Str):List Str:=[c7 n]++zs.map f7++[c7 n]
theorem yA(n:Nat)(zs:List Str):(eN n zs).length=zs.length+2:=by unfold eN;simp
theorem aBM{z:Str}(h:zs[j]?=some z)(a:Int):R.aJ zs a (j:Int)=R.aJ [z] a 0:=U.aL6 h a
theorem aEG(g:R.Good n zs)(hj:j<=zs.length+1):∃z,(eN (n+2) zs)[j]?=some z/\z.length=n+2/\∀k,k<=n+1->(R.atS z k=46↔R.aJ zs ((k:Int)-1) ((j:Int)-1)=false):=by
 have c:(c7 (n+2)).length=n+2:=by unfold c7;rw[R.jT,xk]
 have i:∀k,k<=n+1->R.atS (c7 (n+2)) k=46:=λk a=>by
  have:=R.dB (z:=c7 (n+2)) (j:=k) '!'
  have e:(c7 (n+2)).cps.toList=jz (n+2) 46:=rfl
  rw[e,x3,if_pos '!'] at this
  exact (je this).symm
 unfold eN
 rw[jd]
 cases j with
 |zero=>exact⟨_,rfl,c,λk a=>⟨λ_=>R.dN '!',λ_=>i k a⟩⟩
 |succ j =>
  rw[y9,kl]
  by_cases h:j<zs.length
  ·have b:=zGe h
   rw[q6 (by simp;lia),qg,b]
   have d:=g _ (zMo b)
   refine⟨_,rfl,by rw[aB5,d.1],λk a => ?_⟩
   rw[show (((j+1:Nat):Int)-1)=(j:Int) by lia,aBM b]
   exact aIB (n:=n) (λy f=>by rw[ql] at f;rw[f];exact d) a false
  ·rw[qr (by simp;lia)]
   have:j-(zs.map f7).length=0:=by simp;lia
   rw[this]
   exact⟨_,rfl,c,λk a=>⟨λ_=>R.eA '!',λ_=>i k a⟩⟩
theorem aJL{P:C4->Prop}{cs:List C4}(h:∀c,c∈cs↔P c)(d:C4):∀c,c∈cs++[d]↔P c\/c=d:=λc=>by rw[jf,h c,ql]
noncomputable def lJ(xs ys:List Int)(zs:List Str)(b:Int)(j k:Nat)(c:C4):Prop:=∃j' k':Nat,(j'<j/\k'<=xs.length\/j'=j/\k'<k)/\R.aJ zs ((k':Int)-1) ((j':Int)-1)=false/\c=cellAt xs ys b j' k'
theorem aPM{c:C4}:lJ xs ys zs b j (xs.length+1) c↔lJ xs ys zs b (j+1) 0 c:=by
 constructor
 ·rintro⟨d,a,h,r⟩;exact⟨d,a, .inl '!',r⟩
 ·rintro⟨d,a,h,r⟩;exact⟨d,a,by lia,r⟩
theorem aPB{k:Nat}{c:C4}(h:R.aJ zs ((k:Int)-1) ((j:Int)-1)=false):lJ xs ys zs b j (k+1) c↔lJ xs ys zs b j k c\/c=cellAt xs ys b j k:=by
 constructor
 ·rintro⟨d,a,q,r⟩
  by_cases e:d=j/\a=k
  ·obtain⟨rfl,rfl⟩:=e;exact .inr r.2
  ·exact .inl ⟨d,a,by lia,r⟩
 ·rintro (⟨d,a,q,r⟩|rfl)
  ·exact⟨d,a,by lia,r⟩
  ·exact⟨j,k,by lia,h,rfl⟩
theorem aTL{k:Nat}{c:C4}(h:R.aJ zs ((k:Int)-1) ((j:Int)-1)≠false):lJ xs ys zs b j (k+1) c↔lJ xs ys zs b j k c:=by
 constructor
 ·rintro⟨d,a,q,r⟩
  by_cases e:d=j/\a=k
  ·obtain⟨rfl,rfl⟩:=e;exact absurd r.1 h
  ·exact⟨d,a,by lia,r⟩
 ·rintro⟨d,a,q,r⟩
  exact⟨d,a,by lia,r⟩
theorem aQA{c:C4}:lJ xs ys zs b (ys.length+1) 0 c↔aK1 xs ys zs b c:=by
 constructor
 ·rintro⟨d,a,q,r⟩;exact⟨d,a,by lia,by lia,r⟩
 ·rintro⟨d,a,f,e,r⟩;exact⟨d,a, .inl ⟨by lia,e⟩,r⟩
theorem aQZ(c:Nat):decide ((⟨#[c]⟩:Str)=("." : Str))=decide (c=46):=by
 rw[show ("." : Str)=⟨#[46]⟩ from by decide +kernel,decide_eq_decide]
 constructor
 ·intro e;injection e with e;injection e with e;injection e
 ·intro e;rw[e]
theorem aIT{cs:List C4}(h:(cs.map pV)[i]?=some d):∃c,cs[i]?=some c/\d=pV c:=by
 rw[qg] at h
 cases e:cs[i]? with
 |none=>rw[e] at h;cases h
 |some c=>rw[e] at h;exact⟨c,rfl,(je h).symm⟩
end Q
namespace PySem
section
variable {E:Value->Shared->Prop}
theorem F.args_max4(a b c d:Value):KQ "max" ⟨[a,b,c,d],[]⟩:=by unfold KQ;kernel_rfl
theorem aHQ{a c d:Int}{t u x y:Tok}{Q:Value->Shared->Prop}(hh:A.handled=none)(kQ:∀(m:Int) (q:Tok) h' tk,(m=a\/m=b\/m=c\/m=d)->a<=m->b<=m->c<=m->d<=m->(∀e o,s.heap.get? e=some o->h'.get? e=some o)->Q (.int m q) {s with heap:=h',toks:=tk}):
  wpAny w.12 A (call (.builtin "max") [.int a t, .int b u, .int c x, .int d y]) Q E s:=by
 have f:(toString "max" ++ toString ".loop" : String) = "max.loop" := by decide
 refine call_function_tree F.kind_max F.plain_max F.entry_max (F.args_max4 _ _ _ _) ?_
 show wpAny _ A.in1 (gw "max" ["key", "default"] 0 ⟨[],[]⟩ >>= _) _ _ _
 refine qa (QG (show gw "max" ["key", "default"] 0 ⟨[],[]⟩=pure ([none,none]:List _) from rfl) ?_)
 show wpAny _ A.in1 (newTuple [.int a t, .int b u, .int c x, .int d y] >>= _) _ _ s
 refine qa (va ?_)
 have H:(s.heap.push {cls := .type "tuple", data := .seq #[.int a t, .int b u, .int c x, .int d y]}).IsTuple s.heap.objs.size (mf #[(a,t),(b,u),(c,x),(d,y)]):=⟨_,qu _ rfl,rfl,0,by simp[mf]⟩
 have k:(s.heap.push {cls := .type "tuple", data := .seq #[.int a t, .int b u, .int c x, .int d y]}).objs.size=s.heap.objs.size+1:=vg ..
 have key:wpAny w.12 A.in1 (Ji (.ref s.heap.objs.size)) (λI s₂=>I = .ref (s.heap.objs.size+1)/\s₂.heap.IsTupleIter (s.heap.objs.size+1) s.heap.objs.size 0/\s₂.heap.IsTuple s.heap.objs.size (mf #[(a,t),(b,u),(c,x),(d,y)]) /\
   s₂.heap.objs.size=s.heap.objs.size+2/\(∀e o,s.heap.get? e=some o->s₂.heap.get? e=some o)/\∃l n,s₂={s with heap:=l,toks:=n}) E {s with heap:=s.heap.push {cls := .type "tuple", data := .seq #[.int a t, .int b u, .int c x, .int d y]} }:=by
  refine wpAny_pyIter_tuple H ?_
  refine⟨by rw[k],⟨_,by rw[<- k];exact qu _ rfl,rfl,rfl⟩,H.push _,by rw[vg,k],λe o q=>qc _ (qc _ q),_,_,rfl⟩
 refine qa (w7 key (λI s₂ h₂ => ?_) λ_ _ e=>e)
 obtain⟨rfl,L,C,p,hold,l,n,rfl⟩:=h₂
 refine qa (va ?_)
 rw[f]
 have W:=Q0 (prog:=prog) (w:=w) (A:=A.in1) hh (s.heap.objs.size+1) s.heap.objs.size (q4 (xw _)) (mf #[(a,t),(b,u),(c,x),(d,y)])
 have D:l.objs.size∉[s.heap.objs.size+1,s.heap.objs.size]:=λhm=>by
  have B:l.objs.size=s.heap.objs.size+2:=p
  rw[B] at hm
  simp at hm
 refine wpAny_pure ⟨plainId_quiet F.plain_max_loop _,codeAny_max_loop_first W _ (CmpOf.ints_gt (rn #[(a,t),(b,u),(c,x),(d,y)]) (λ_ _=>KL)) l.objs.size D (by simp[mf])
  (W.frame _ _ _ ⟨L,C⟩ λb _ o e=>qc _ e) (qu _ rfl) λv h' tk G R => ?_⟩
 obtain⟨g1,g2⟩:=argBest_gt (rn #[(a,t),(b,u),(c,x),(d,y)]) 3
 have r:(mf #[(a,t),(b,u),(c,x),(d,y)])[argBest (λi j=>decide (rn #[(a,t),(b,u),(c,x),(d,y)] i>rn #[(a,t),(b,u),(c,x),(d,y)] j)) 3]?=some v:=by
  have N:(mf #[(a,t),(b,u),(c,x),(d,y)]).size-1=3:=by simp[mf]
  rw[N] at G;exact G
 obtain⟨q,M⟩:=KL r
 generalize argBest (λi j=>decide (rn #[(a,t),(b,u),(c,x),(d,y)] i>rn #[(a,t),(b,u),(c,x),(d,y)] j)) 3=bi at *
 have O:a<=rn #[(a,t),(b,u),(c,x),(d,y)] bi:=g2 0 '$'
 have K:b<=rn #[(a,t),(b,u),(c,x),(d,y)] bi:=g2 1 '$'
 have J:c<=rn #[(a,t),(b,u),(c,x),(d,y)] bi:=g2 2 '$'
 have P:d<=rn #[(a,t),(b,u),(c,x),(d,y)] bi:=g2 3 '$'
 have one:rn #[(a,t),(b,u),(c,x),(d,y)] bi=a\/rn #[(a,t),(b,u),(c,x),(d,y)] bi=b\/rn #[(a,t),(b,u),(c,x),(d,y)] bi=c\/rn #[(a,t),(b,u),(c,x),(d,y)] bi=d:=by
  have:bi=0\/bi=1\/bi=2\/bi=3:=by omega
  rcases this with e|e|e|e <;> rw[e]
  ·exact .inl rfl
  ·exact .inr (.inl rfl)
  ·exact .inr (.inr (.inl rfl))
  ·exact .inr (.inr (.inr rfl))
 rw[M]
 refine kQ _ q h' tk one O K J P λe o g=>R e o (λhm => ?_) (q4 (qv (hold e o g))) (qc _ (hold e o g))
 have z:=qv g
 rw[ql] at hm
 exact absurd z (by rw[hm];exact Kh.mpr (br _))
theorem aJP{l:Addr}{vs:List Value}{ns:List Int}{Q:Value->Shared->Prop}(hh:A.handled=none)(hl:s.heap.IsList l vs.toArray)(hi:pw vs ns)(hne:0<ns.length)(h:∀h' M (t:Tok) tk,(∀b o,s.heap.get? b=some o->h'.get? b=some o)->M∈ns->(∀a,a∈ns->M<=a)->Q (.int M t) {s with heap:=h',toks:=tk}):
  wpAny w.12 A (call (.builtin "min") [.ref l]) Q E s:=by
 obtain⟨xs,e⟩:=hi.allInts.items
 have c:ns=xs.toList.map (·.1):=by rw[<- hi.numsOf,<- nums_intItems,<- e]
 have d:0<xs.size:=by
  have g:=hne;rw[c,zLm,qt] at g;exact g
 rw[e] at hl
 refine min_intList hh hl d λv h' tk n m => ?_
 obtain⟨t,rfl⟩:=KL n
 obtain⟨p,i⟩:=argBest_lt (rn xs) (xs.size-1)
 refine h _ _ t tk m ?_ λa f => ?_
 ·rw[c,numAt_eq];exact getD_mem (by rw[zLm,qt];omega)
 ·rw[c] at f
  obtain⟨j,k,rfl⟩:=mem_getD f
  rw[zLm,qt] at k
  rw[<- numAt_eq];exact i j '$'
end
end PySem
namespace L2
open PySem PySem.Spec
section
noncomputable def aMH:List V->Hp->VK->Prop:=λxs H Q=>∃a b c d:Int,xs=[.int a, .int b, .int c, .int d]/\∀m:Int,(m=a\/m=b\/m=c\/m=d)->a<=m->b<=m->c<=m->d<=m->Q (.int m) H
theorem aGO(hc:X.calm=true):dY X (.builtin "max") aMH:=by
 intro pins s σ H xs us Q I r h
 obtain⟨a,b,c,d,rfl,q⟩:=h
 cases r with
 |cons r1 r =>
  cases r with
  |cons r2 r =>
   cases r with
   |cons r3 r =>
    cases r with
    |cons r4 r =>
     cases r
     obtain⟨t1,rfl⟩:=r1
     obtain⟨t2,rfl⟩:=r2
     obtain⟨t3,rfl⟩:=r3
     obtain⟨t4,rfl⟩:=r4
     exact aHQ (I.ok.hd hc) λm f k tk j a1 a2 e g i=>⟨.int m,H,I.kept (t':=tk) i,⟨f,rfl⟩,q m j a1 a2 e g⟩
noncomputable def aMW(K:qh):List V->Hp->VK->Prop:=λxs H Q=>∃(l:Addr) (ns:List Int),xs=[.ref l]/\SqL K H l (ns.map V.int)/\0<ns.length/\∀m,m∈ns->(∀a,a∈ns->m<=a)->Q (.int m) H
theorem aHA(hc:X.calm=true):dY X (.builtin "min") (aMW X.K):=by
 intro pins s σ H xs us Q I r h
 obtain⟨l,ns,rfl,e,a,q⟩:=h
 obtain⟨u,rfl,i⟩:=vals1 r
 cases i
 obtain⟨j,c,f,k⟩:=I.list e
 exact aJP (I.ok.hd hc) f.isList (intsAre_of c) a λn m t tk g d b=>⟨.int m,H,I.kept (t':=tk) g,⟨t,rfl⟩,q m d b⟩
end
end L2
namespace Z
open PySem L2
section
theorem aPN{K:Fg}{i1 i2 i3 i4:Int}(h:∀m:Int,(m=i1\/m=i2\/m=i3\/m=i4)->i1<=m->i2<=m->i3<=m->i4<=m->k (.int m) M):OpN K aMH [.int i1, .int i2, .int i3, .int i4] M k:=λG H vs Q f e q=>by
 obtain⟨v1,r,rfl,i,e⟩:=bX e
 obtain⟨v2,r,rfl,g,e⟩:=bX e
 obtain⟨l,v4,rfl,d,b⟩:=dens2 e
 exact⟨i1,i2,i3,i4,by rw[i.int_,g.int_,d.int_,b.int_],λm j a1 a2 a c=>q _ _ _ _ _ (Stp.refl f) cP (h m j a1 a2 a c)⟩
theorem aQN{K:Fg}{ns:List Int}(hne:0<ns.length)(h:∀m,m∈ns->(∀a,a∈ns->m<=a)->k (.int m) M):OpN K (aMW K) [.lst (ns.map .int)] M k:=λG H vs Q b e q=>by
 obtain⟨v,rfl,dv⟩:=dens1 e
 obtain⟨a,ws,ev,s,dn⟩:=dv.lst_
 subst ev
 rw[qS dn] at s
 exact⟨a,ns,rfl,SqL.of (b.same _ _ s),hne,λm d c=>q _ _ _ _ _ (Stp.refl b) cP (h m d c)⟩
end
end Z
namespace Q
open PySem L2 Z U
theorem nP{a b c:Rat}(hc:0<c):a*c<=b*c↔a<=b:=by
 rw[U.oZ hc,y6 (by grind)]
theorem qI{a b c:Rat}(hc:0<c):a*c<b*c↔a<b:=by
 rw[<- nh,<- nh,nP hc]
structure Wy(W E p:Int):Prop where
 eW:W=E*p
 p0:0<p
 E0:0<E
theorem Wy.r{W E p:Int}(h:Wy W E p):(W:Rat)=(E:Rat)*(p:Rat):=by rw[h.eW,ju]
theorem aSK{W E p x q:Int}(h:Wy W E p)(hb:0<b):t*((W*b:Int):Rat)<=(((x-q*b)*E:Int):Rat)↔t*(p:Rat)<=qb x b-(q:Rat):=by
 have b0:(0:Rat)<(b:Rat):=kf.mpr hb
 have d:(0:Rat)<(E:Rat):=kf.mpr h.E0
 have e:(0:Rat)<(E:Rat)*(b:Rat):=ym d b0
 have a:t*((W*b:Int):Rat)=(t*(p:Rat))*((E:Rat)*(b:Rat)):=by rw[ju,h.r];grind
 have c:(((x-q*b)*E:Int):Rat)=(qb x b-(q:Rat))*((E:Rat)*(b:Rat)):=by
  have:qb x b*(b:Rat)=(x:Rat):=by rw[jv,kd (by grind)]
  rw[ju,sj,ju]
  grind
 rw[a,c,nP e]
theorem aTJ{W E p x q:Int}(h:Wy W E p)(hb:0<b):t*((W*b:Int):Rat)<=(((q*b-x)*E:Int):Rat)↔t*(p:Rat)<=(q:Rat)-qb x b:=by
 have b0:(0:Rat)<(b:Rat):=kf.mpr hb
 have d:(0:Rat)<(E:Rat):=kf.mpr h.E0
 have e:(0:Rat)<(E:Rat)*(b:Rat):=ym d b0
 have a:t*((W*b:Int):Rat)=(t*(p:Rat))*((E:Rat)*(b:Rat)):=by rw[ju,h.r];grind
 have c:(((q*b-x)*E:Int):Rat)=((q:Rat)-qb x b)*((E:Rat)*(b:Rat)):=by
  have:qb x b*(b:Rat)=(x:Rat):=by rw[jv,kd (by grind)]
  rw[ju,sj,ju]
  grind
 rw[a,c,nP e]
theorem aC5{W z E:Int}(ht:0<t)(hw:0<W)(hb:0<b)(hz:z<0)(hE:0<E):¬t*((W*b:Int):Rat)<=((z*E:Int):Rat):=λh=>by
 have d:0<t*((W*b:Int):Rat):=ym ht (kf.mpr (bw hw hb))
 have c:((z*E:Int):Rat)<((0:Int):Rat):=gq.mpr (Qr hz hE)
 have a:((0:Int):Rat)=0:=rfl
 grind
theorem oJ{W E V p q x:Int}(hE:Wy W E p)(hV:Wy W V q)(hb:0<b)(hx:x.natAbs<=10^50)(h1:1<=xs.length)(ht:0<t){k:Nat}(hk:k<=xs.length):
  t<=tB (toQ xs) (qb x b) p q k↔t*((W*b:Int):Rat)<=(((x-wq xs b (k+1))*E:Int):Rat)\/t*((W*b:Int):Rat)<=(((wq xs b k-x)*V:Int):Rat):=by
 have W0:0<W:=by rw[hE.eW];exact bw hE.E0 hE.p0
 have l:=dC xs
 have far:(10:Int)^50<F60:=by unfold F60;decide +kernel
 have a : -((10:Int)^50)<=x/\x<=(10:Int)^50:=by
  have:((10^50:Nat):Int)=(10:Int)^50:=by decide +kernel
  lia
 rw[aFC (kf.mpr hE.p0) (kf.mpr hV.p0) '!' '!']
 unfold wq
 rw[if_neg '!',z9]
 refine or_congr ?_ ?_
 ·by_cases c:k<xs.length
  ·rw[if_pos '!',aSK hE hb]
   constructor
   ·rintro⟨h,z⟩;rw[sC] at z;exact z
   ·intro z;exact⟨by lia,by rw[sC];exact z⟩
  ·rw[if_neg '!']
   exact⟨λ⟨h,_⟩=>absurd h '!',λz=>absurd z (aC5 ht W0 hb '!' hE.E0)⟩
 ·by_cases h0:k=0
  ·rw[if_pos h0]
   exact⟨λ⟨_,h,_⟩=>absurd h '!',λz=>absurd z (aC5 ht W0 hb '!' hV.E0)⟩
  ·rw[if_neg h0,if_pos hk,aTJ hV hb]
   constructor
   ·rintro⟨h,_,z⟩;rw[sC] at z;exact z
   ·intro z;exact⟨by lia,by lia,by rw[sC];exact z⟩
noncomputable def xC(x y E N Wt S:Int)(c:C4):Int:=max (max ((x-c.2.1)*E) ((c.1-x)*Wt)) (max ((y-c.2.2.2)*N) ((c.2.2.1-y)*S))
theorem aPH{a c d m:Int}(h:m=a\/m=b\/m=c\/m=d)(h1:a<=m)(h2:b<=m)(h3:c<=m)(h4:d<=m):m=max (max a b) (max c d):=by lia
theorem aHD{z:Rat}{a c d:Int}:z<=((max (max a b) (max c d):Int):Rat)↔(z<=(a:Rat)\/z<=(b:Rat))\/(z<=(c:Rat)\/z<=(d:Rat)):=by
 have up:∀{p q:Int},p<=q->(p:Rat)<=(q:Rat):=λh=>vp.mpr h
 constructor
 ·intro h
  have:max (max a b) (max c d)=a\/max (max a b) (max c d)=b\/max (max a b) (max c d)=c\/max (max a b) (max c d)=d:=by lia
  rcases this with e|e|e|e <;> rw[e] at h
  ·exact .inl (.inl h)
  ·exact .inl (.inr h)
  ·exact .inr (.inl h)
  ·exact .inr (.inr h)
 ·rintro ((h|h)|(h|h)) <;> refine du h (up ?_) <;> lia
structure Four(W E N Wt S e n w s:Int):Prop where
 e:Wy W E e
 n:Wy W N n
 w:Wy W Wt w
 s:Wy W S s
theorem aOO(hx:xs.Pairwise (· < ·))(hy:ys.Pairwise (· < ·))(g:R.Good (xs.length-1) zs)(hz:zs.length=ys.length-1)(lx:1<=xs.length)(ly:1<=ys.length){W E N Wt S e n w s:Int}(f:Four W E N Wt S e n w s){x y:Int}(hb:0<b)(bx:x.natAbs<=10^50)(by_:y.natAbs<=10^50){cs:List C4}(hc:∀c,c∈cs↔aK1 xs ys zs b c){m:Int}(m1:m∈cs.map (xC x y E N Wt S))(m2:∀a∈cs.map (xC x y E N Wt S),m<=a):
  IsH (dS xs ys zs hx hy g hz) e n w s (qb x b) (qb y b) (qb (if m>0 then m else 0) (W*b)):=by
 have W0:0<W:=by rw[f.e.eW];exact bw f.e.E0 f.e.p0
 have Wb:0<W*b:=bw W0 hb
 have Wr:(0:Rat)<((W*b:Int):Rat):=kf.mpr Wb
 have I:=dC xs
 have L:=dC ys
 refine⟨aRO (by split <;> lia) Wb,λt l => ?_⟩
 have J:t<=qb (if m>0 then m else 0) (W*b)↔t*((W*b:Int):Rat)<=(m:Rat):=by
  rw[jv,<- U.oZ Wr]
  have P:0<t*((W*b:Int):Rat):=ym l Wr
  by_cases hm:m>0
  ·rw[if_pos hm]
  ·rw[if_neg hm]
   have:(m:Rat)<=((0:Int):Rat):=vp.mpr '!'
   have z:((0:Int):Rat)=0:=rfl
   constructor <;> intro <;> grind
 have K:t*((W*b:Int):Rat)<=(m:Rat)↔∀j k:Nat,j<=ys.length->k<=xs.length->R.aJ zs ((k:Int)-1) ((j:Int)-1)=false->t<=tB (toQ xs) (qb x b) e w k\/t<=tB (toQ ys) (qb y b) n s j:=by
  constructor
  ·intro h j k o i d
   have r:=m2 _ (qo.mpr ⟨_,(hc _).mpr ⟨j,k,o,i,d,rfl⟩,rfl⟩)
   have A:t*((W*b:Int):Rat)<=((xC x y E N Wt S (cellAt xs ys b j k):Int):Rat):=du h (vp.mpr r)
   exact (aHD.mp A).imp (oJ f.e f.w hb bx lx l i).mpr (oJ f.n f.s hb by_ ly l o).mpr
  ·intro h
   obtain⟨c,F,rfl⟩:=qo.mp m1
   obtain⟨j,k,o,i,d,rfl⟩:=(hc c).mp F
   exact aHD.mpr ((h j k o i d).imp (oJ f.e f.w hb bx lx l i).mp (oJ f.n f.s hb by_ ly l o).mp)
 rw[J,K]
 have H:=λ{k:Nat} (i:k<=xs.length)=>lI (kP hx) (x:=qb x b) (p:=(e:Rat)) (q:=(w:Rat)) (kf.mpr f.e.p0) (kf.mpr f.w.p0) '!' l (b:=k) '!'
 have ty:=λ{k:Nat} (i:k<=ys.length)=>lI (kP hy) (x:=qb y b) (p:=(n:Rat)) (q:=(s:Rat)) (kf.mpr f.n.p0) (kf.mpr f.s.p0) '!' l (b:=k) '!'
 constructor
 ·intro h u v r A G D
  rw[nU]
  refine qz λq => ?_
  have q:=Bool.eq_false_iff.mpr q
  have a1:=iQ (toQ xs) u
  have a2:=jN (toQ xs) u
  have M:=iQ (toQ ys) v
  have O:=jN (toQ ys) v
  obtain⟨k,C⟩:∃k:Nat,ix (toQ xs) u=(k:Int)-1:=⟨(ix (toQ xs) u+1).toNat,by lia⟩
  obtain⟨j,B⟩:∃k:Nat,ix (toQ ys) v=(k:Int)-1:=⟨(ix (toQ ys) v+1).toNat,by lia⟩
  rw[C,B] at q
  rcases h j k '!' '!' q with z|z
  ·exact (H '!').mpr ⟨u,r,A,C⟩ z
  ·exact (ty '!').mpr ⟨v,G,D,B⟩ z
 ·intro h j k o i d
  refine qz λq => ?_
  rw[not_or] at q
  obtain⟨u,r,A,C⟩:=(H i).mp q.1
  obtain⟨v,G,D,B⟩:=(ty o).mp q.2
  have:=h u v r A G D
  rw[nU,C,B,d] at this
  cases this
theorem aIE{A:Yd}{p q r s x H c:Rat}(hc:0<c)(h:IsH A p q r s x y H):IsH (A.scale c c hc hc) p q r s (x*c) (y*c) (H*c):=by
 refine⟨fc h.nn (g9 hc),λt n => ?_⟩
 have e:c≠0:=by grind
 obtain⟨t1,rfl⟩:∃t1,t=t1*c:=⟨t/c,by rw[kd e]⟩
 have t0:0<t1:=(qI hc).mp (by rw[nr];exact n)
 rw[nP hc,h.i t1 t0]
 have key:∀a b z w:Rat,(a*c-b*(z*c)<w*c↔a-b*z<w):=λa b z w=>by rw[show a*c-b*(z*c)=(a-b*z)*c by grind,qI hc]
 have d:∀a b z w:Rat,(w*c<a*c+b*(z*c)↔w<a+b*z):=λa b z w=>by rw[show a*c+b*(z*c)=(a+b*z)*c by grind,qI hc]
 constructor
 ·intro g u v k j m l
  obtain⟨f,rfl⟩:∃f,u=f*c:=⟨u/c,by rw[kd e]⟩
  obtain⟨v1,rfl⟩:∃f,v=f*c:=⟨v/c,by rw[kd e]⟩
  rw[key] at k m
  rw[d] at j l
  rw[Yd.scale_has,y6 e,y6 e]
  exact g f v1 k j m l
 ·intro g u v k j m l
  have:=g (u*c) (v*c) ((key _ _ _ _).mpr k) ((d _ _ _ _).mpr j) ((key _ _ _ _).mpr m) ((d _ _ _ _).mpr l)
  rwa [Yd.scale_has,y6 e,y6 e] at this
end Q
namespace Q
open PySem L2 Z U
noncomputable def hol(e n w s:Int):Int:=e*n*w*s
theorem aBC{e n w s:Int}(o:Pp e n w s):(1<=e*n/\e*n<=81)/\(1<=e*n*w/\e*n*w<=729)/\1<=hol e n w s/\hol e n w s<=6561:=by
 have h:=o.p.a;have d:=o.p.b;have i:=o.q.a;have g:=o.q.b;have f:=o.r.a;have c:=o.r.b;have s1:=o.s.a;have s2:=o.s.b
 have a1:1*1<=e*n:=y2 h i '#' '!'
 have a2:e*n<=9*9:=y2 d g '!' '#'
 have j:1*1<=e*n*w:=y2 '!' f '#' '!'
 have l:e*n*w<=81*9:=y2 '!' c '!' '#'
 have m:1*1<=e*n*w*s:=y2 '!' s1 '#' '!'
 have k:e*n*w*s<=729*9:=y2 '!' s2 '!' '#'
 unfold hol
 exact⟨'+','+',by lia,by lia⟩
theorem aPY{e n w s:Int}:e∣hol e n w s/\n∣hol e n w s/\w∣hol e n w s/\s∣hol e n w s:=by
 unfold hol
 refine⟨⟨n*w*s,by grind⟩,⟨e*w*s,by grind⟩,⟨e*n*s,by grind⟩,⟨e*n*w,by grind⟩⟩
theorem yZ{W p:Int}(hp:Pc p)(hW:1<=W)(d:p∣W):Wy W (W/p) p:=by
 have h1:=hp.a
 refine⟨(Int.ediv_mul_cancel d).symm,by lia,?_⟩
 exact Int.ediv_pos_of_pos_of_dvd '!' '!' d
theorem four22{e n w s:Int}(o:Pp e n w s):Four (hol e n w s) (hol e n w s/e) (hol e n w s/n) (hol e n w s/w) (hol e n w s/s) e n w s:=by
 obtain⟨_,_,h,_⟩:=aBC o
 obtain⟨a,b,c,d⟩:=aPY (e:=e) (n:=n) (w:=w) (s:=s)
 exact⟨yZ o.p h a,yZ o.q h b,yZ o.r h c,yZ o.s h d⟩
theorem rP{W p:Int}(hp:Pc p)(h1:1<=W)(h2:W<=6561):0<=W/p/\W/p<=6561:=by
 have:=hp.a
 exact⟨su '!' '!',Int.le_trans (Int.ediv_le_self _ '!') h2⟩
noncomputable def aUQ:Ct:=λds M k=>∃(cs:List C4) (e n w s x y b:Int),ds=[.lst (cs.map pV),jM e n w s, .tup [.int x, .int y, .int b]]/\cs≠[]/\cs.length<=64/\Pp e n w s/\1<=b/\b<=bot/\∀m,m∈cs.map (xC x y (hol e n w s/e) (hol e n w s/n) (hol e n w s/w) (hol e n w s/s))->(∀a∈cs.map (xC x y (hol e n w s/e) (hol e n w s/n) (hol e n w s/w) (hol e n w s/s)),m<=a)->k (aT (qb (if m>0 then m else 0) (hol e n w s*b))) M
theorem aM1{e n w s:Int}(o:Pp e n w s)(h1:1<=b)(h2:b<=bot):0<hol e n w s*b/\hol e n w s*b<=2000000000000000000000000:=by
 obtain⟨_,_,a,c⟩:=aBC o
 refine⟨bw '!' '!',?_⟩
 have:hol e n w s*b<=6561*200000000000000000000:=y2 c (by unfold bot at h2;exact h2) '!' '#'
 lia
structure Pt(q:Int×Int×Int):Prop where
 u:Al q.1 q.2.2
 v:Al q.2.1 q.2.2
 c1:1<=q.2.2
 c2:q.2.2<=bot
noncomputable def ptD(q:Int×Int×Int):D := .tup [.int q.1, .int q.2.1, .int q.2.2]
theorem aRP{cs:List (Int×Int×Int)}(h:(cs.map ptD)[i]?=some d):∃c,cs[i]?=some c/\d=ptD c:=by
 rw[qg] at h
 cases e:cs[i]? with
 |none=>rw[e] at h;cases h
 |some c=>rw[e] at h;exact⟨c,rfl,(je h).symm⟩
theorem aT4{m:Int}(h:1<=m):aT (qb 1 m) = .tup [.int 1, .int m]:=by
 rw[<- nA (show 0<m by lia)]
 unfold lowG
 simp[pairD]
theorem one_pos{m:Int}(h:1<=m):(0:Rat)<qb 1 m:=by
 rw[jv]
 have a:(0:Rat)<(m:Rat):=kf.mpr '!'
 refine (KU a).mpr ?_
 rw[nr];decide
theorem aGR{m:Int}(h:1<=m)(h2:m<=1000000007):Bq (qb 1 m):=by
 obtain⟨a,b⟩:=vZ (a:=1) (b:=m) '!'
 exact⟨qn (show _<=1 by simpa using a) '&',qn (show _<=1000000007 by lia) '&'⟩
theorem aGB{z:Int}(h0:0<=z)(h1:z<5):∃m:Int,atI [D.int 1, .int 1, .int 6, .int 12, .int (10^(9:Int).toNat+7)] z=some (.int m)/\1<=m/\m<=1000000007:=by
 have:z=0\/z=1\/z=2\/z=3\/z=4:=by lia
 rcases this with rfl|rfl|rfl|rfl|rfl
 ·exact⟨1,rfl,by decide,by decide⟩
 ·exact⟨1,rfl,by decide,by decide⟩
 ·exact⟨6,rfl,by decide,by decide⟩
 ·exact⟨12,rfl,by decide,by decide⟩
 ·exact⟨10^(9:Int).toNat+7,rfl,by decide,by decide⟩
theorem nm22{c m:Int}(c1:1<=c)(c2:c<=bot)(m1:1<=m)(m2:m<=1000000007):Nm (c.toNat*m.toNat) (10^60):=by
 refine⟨WC '!' '!',?_,by unfold sm;exact qk _⟩
 have:c.toNat*m.toNat<=200000000000000000000*1000000007:=ku (by unfold bot at c2;lia) '!'
 exact qq this (by unfold sm;decide +kernel)
theorem fr22{a c m:Int}(c1:1<=c)(m1:1<=m)(h:a.natAbs<=10^35):Fr (c.toNat*m.toNat) (10^60) (qb a c*qb 1 m):=by
 have:=(jD (a:=a) (show 0<c by lia)).mul (jD (a:=1) (show 0<m by lia))
 exact this.mono (qq (ku h (qk 1)) '&')
theorem frl22(hw:∀w∈ws,w∈toQ xs)(ux:Up7 xs){c m:Int}(c1:1<=c)(c2:c<=bot)(m1:1<=m):FrL (c.toNat*m.toNat) (10^60) (ws.map (· * qb 1 m)):=λw e=>by
 obtain⟨v,b,rfl⟩:=qo.mp e
 obtain⟨x,d,rfl⟩:=qo.mp (hw v b)
 have g:=ux.bd x d
 have f:Fr c.toNat (10^35) (x:Rat):=Fr.int (qq (ku (show x.natAbs<=1000000000 by lia) (show c.toNat<=200000000000000000000 by unfold bot at c2;lia)) '&')
 exact (f.mul (jD (a:=1) (show 0<m by lia))).mono (qq (ku (qk _) (qk 1)) '&')
theorem aMM{u c m:Int}:qb u c*qb 1 m=qb u (c*m):=by rw[cg,WH]
theorem aLL{q:Rat}(h:Sml q):smD (aT q)=true/\wt (aT q)<=10000000:=by
 obtain⟨a1,a2⟩:=h
 refine⟨?_,qq (wm (by simp only[aT,pairD,wt,wts])) (show 139<=10000000 by decide)⟩
 show smD (.tup [.int q.num, .int (q.den:Int)])=true
 simp only[smD,smDs,vz,qx,decide_eq_true_eq]
 exact⟨a1,by rw[xp];exact a2⟩
theorem shown22{A:Yd}(hx:∀w∈A.ws,w∈toQ xs)(hy:∀w∈A.us,w∈toQ ys)(ux:Up7 xs)(uy:Up7 ys)(lx:A.ws.length<=7)(ly:A.us.length<=7){m:Int}(m1:1<=m)(m2:m<=1000000007):Yk m.toNat (10^40) 7 (A.scale (qb 1 m) (qb 1 m) (one_pos m1) (one_pos m1))/\Mk m.toNat 0:=by
 have key:∀{ws:List Rat}{zs:List Int},(∀w∈ws,w∈toQ zs)->Up7 zs->FrL m.toNat (10^40) (ws.map (· * qb 1 m)):=λhw a w b=>by
  obtain⟨v,c,rfl⟩:=qo.mp b
  obtain⟨x,hx,rfl⟩:=qo.mp (hw v c)
  have d:=a.bd x hx
  refine⟨x,?_,qq (show x.natAbs<=1000000000 by lia) '&'⟩
  have e:((m.toNat:Nat):Rat)=((m:Int):Rat):=by rw[<- vm,md '!']
  have f:((m:Int):Rat)≠0:=λe=>by have:=xm.mp (e.trans y1.symm);lia
  rw[e,jv]
  grind
 refine⟨⟨key hx ux,key hy uy,by show (A.ws.map _).length<=7;rw[zLm];exact lx,by show (A.us.map _).length<=7;rw[zLm];exact ly⟩,⟨by lia,by lia,fo,Fr.zero _ _⟩⟩
noncomputable def aLD:Ct:=λds M k=>∃(p:Addr) (b:Int) (xs ys:List Int) (zs:List Str) (e n w s:Int),ds=[.mt p, .lst (xs.map .int), .lst (ys.map .int), .lst (zs.map .str),jM e n w s]/\PnM M p b/\b<=700000/\Up7 xs/\Up7 ys/\2<=xs.length/\2<=ys.length/\R.Good (xs.length-1) zs/\zs.length=ys.length-1/\Pp e n w s/\∀M',PnM M' p (b+600)->cQ p M M'->k (.bl true) M'
end Q
namespace R
open PySem
inductive Tr where
 |lf:Tr
 |nd:Tr->Int->Tr->Tr
end R
namespace R
open PySem L2
end R
namespace Q
open PySem L2 Z
noncomputable def sdQ(xs ys:List D)(q:R.Qd):D:=mkS q.f ((c9 q.f xs ys).getD q.p .non) (cB q.f xs ys) (q.b,q.e)
theorem j4{α β:Type}{f g:α->List β}:∀{l:List α},(∀x∈l,f x=g x)->l.flatMap f=l.flatMap g
 |[],_=>rfl
 |x::l,h=>by rw[nc,nc,h x jm,j4 λy a=>h y (jg _ a)]
theorem zT(xs ys:List D)(f:Nat):(c9 f xs ys).length=R.Lf xs.length ys.length f:=by unfold c9 R.Lf;split <;> rfl
theorem aKT(xs ys:List D)(f:Nat):(cB f xs ys).length-1=R.Nf xs.length ys.length f:=by unfold cB R.Nf;split <;> rfl
theorem aK0(zs:List Str)(xs ys:List D)(n:Nat):fV zs xs ys n=(R.qsN zs xs.length ys.length n).map (sdQ xs ys):=by
 unfold fV R.qsN
 rw[Kq]
 refine j4 λf _ => ?_
 unfold fX R.qsF
 rw[Kq,zT]
 refine j4 λp b => ?_
 have a:p<(c9 f xs ys).length:=by rw[zT];exact vb.mp b
 rw[zGe a]
 show mC zs f (cB f xs ys) p (c9 f xs ys)[p]=_
 unfold mC R.qsP
 rw[ve,aKT]
 refine kz λr _ => ?_
 show mkS f _ _ r=mkS f _ _ (r.1,r.2)
 rw[zGd,zGe a]
 rfl
theorem aMJ(a b:Bool):(!decide ((⟨#[R.sg a]⟩:Str)=⟨#[R.sg b]⟩))=(a != b):=by cases a <;> cases b <;> decide +kernel
theorem aQ9(c:Bool):atI [D.int 0,D.int 2] (if decide ((⟨#[R.sg c]⟩:Str)=("#" : Str))=true then 1 else 0)=some (.int (((if c=true then 2 else 0:Nat)):Int)):=by
 rw[qU];cases c <;> rfl
theorem aRZ(c:Bool):atI [D.int 1,D.int 3] (if decide ((⟨#[R.sg c]⟩:Str)=("#" : Str))=true then 1 else 0)=some (.int (((if c=true then 3 else 1:Nat)):Int)):=by
 rw[qU];cases c <;> rfl
end Q
namespace Q
open PySem L2 Z U
theorem aF5{K:List Str}{bx bu:List Int}:(jR (b6 K bx bu)=("out" : Str)->∀k∈bx,∀l∈bu,R.aJ K k l=false)/\(jR (b6 K bx bu)≠("out" : Str)->jR (b6 K bx bu)≠("in" : Str)->(∃k∈bx,∃l∈bu,R.aJ K k l=true)/\∃k∈bx,∃l∈bu,R.aJ K k l=false):=by
 have mem:∀{c},c∈b6 K bx bu↔∃l∈bu,∃k∈bx,R.aJ K k l=c:=λ{c}=>by
  unfold b6
  simp only[yi,qo]
 unfold jR
 by_cases f:(b6 K bx bu).all id=true
 ·rw[if_pos f]
  exact⟨λz=>absurd z '&',λ_ z=>absurd rfl z⟩
 ·rw[if_neg f]
  by_cases b:(b6 K bx bu).any id=true
  ·rw[if_pos b]
   refine⟨λz=>absurd z '&',λ_ _=>⟨?_,?_⟩⟩
   ·obtain⟨c,d,e⟩:=ft.mp b
    obtain⟨l,hl,k,a,q⟩:=mem.mp d
    exact⟨k,a,l,hl,q.trans e⟩
   ·refine qz λz=>f (jn.mpr λc d => ?_)
    obtain⟨l,hl,k,a,q⟩:=mem.mp d
    cases c with
    |true=>rfl
    |false=>exact absurd ⟨k,a,l,hl,q⟩ z
  ·rw[if_neg b]
   refine⟨λ_ k a l hl => ?_,λz=>absurd rfl z⟩
   cases e:R.aJ K k l with
   |false=>rfl
   |true=>exact absurd (ft.mpr ⟨true,mem.mpr ⟨l,hl,k,a,e⟩,rfl⟩) b
theorem aES(u:Up ws)(x:Rat):ix ws x∈aW ws x:=by
 by_cases h:x∈ws
 ·obtain⟨i,hi,rfl⟩:=jr h
  rw[mQ u hi,dJ u hi];simp
 ·rw[yQ h];simp
theorem aN4(u:Up ws)(hl:1<=ws.length){x:Rat}{a:Nat}(h:(a:Int)∈aW ws x):(a<ws.length->ws.getD a 0<=x)/\(a+1<ws.length->x<=ws.getD (a+1) 0):=by
 obtain⟨b,d,e⟩:=p6 h
 have c:b=a+1:=by lia
 subst c
 have t:=(xE u (x:=x) (p:=1) (q:=1) '#' '#' hl d).mpr (by rw[show (((a+1:Nat):Int)-1)=(a:Int) by lia];exact h)
 obtain⟨g1,g2⟩:=aPS (p:=1) (q:=1) '#' '#' hl d t
 refine⟨λ_ => ?_,λg => ?_⟩
 ·have:=g2 '!'
  rw[z9] at this
  grind
 ·have:=g1 g;grind
theorem aB6{al:List Rat}(u:Up al){b e:Nat}(hbe:b<e)(he:e<al.length)(h1:y<=al.getD e 0)(h2:al.getD b 0<=y):∃a:Nat,b<=a/\a<e/\(a:Int)∈aW al y:=by
 by_cases h:y<al.getD e 0
 ·obtain⟨a,a1,a2,d⟩:=aGF u he hbe h2 h
  exact⟨a,a1,a2,by rw[<- d];exact aES u y⟩
 ·have c:y=al[e]:=by rw[gD he] at h h1;grind
  refine⟨e-1,by lia,by lia,?_⟩
  rw[c,mQ u he]
  simp;lia
theorem aAQ{A:Yd}{p q r s x:Rat}(z:Pz p q r s)(h:jR (b6 A.K (aW A.ws x) (aW A.us y))=("out" : Str)){d:R.Qd}(hd:d∈gZ A):¬Tch A p q r s x y 0 d:=λj=>by
 have out:=aF5.1 h
 obtain⟨r1,r2,r3,r4,r5,_⟩:=R.fW hd
 have v:=aUH A p q r s x y d.f
 have u:=aUD A p q r s x y d.f
 have o:=aSJ (A:=A) z x y d.f
 have ln:=j.line
 have lo:=j.lo
 have hi:=j.hi
 have key:∀{X:Ax},X.Ok->X.ls.getD d.p 0=X.at (rA d.f) 0->X.y-X.da*0<=X.al.getD d.e 0->X.al.getD d.b 0<=X.y+X.ua*0->d.p<X.ls.length->d.e<X.al.length->(∀a,d.b<=a->a<d.e->X.edge (rA d.f) d.p a)->∃k∈aW X.ls X.x,∃l∈aW X.al X.y,X.c k l=true:=λ{X} o ln lo hi m he t=>by
  have ex:X.x=X.ls[d.p]:=by
   rw[gD m] at ln
   unfold Ax.at at ln
   split at ln <;> grind
  obtain⟨a,a1,a2,n⟩:=aB6 o.uy r3 he (y:=X.y) (by grind) (by grind)
  have g:=t a a1 a2
  unfold Ax.edge at g
  rw[ex,mQ o.ul m]
  split at g
  ·exact⟨_, .head _,a,n,g.1⟩
  ·exact⟨_, .tail _ (.head _),a,n,g.1⟩
 obtain⟨k,i,l,hl,c⟩:=key o ln lo hi '!' '!' (λa g1 g2=>aOD.mp (r5 a g1 g2).2.2.2)
 unfold axF at i hl c
 split at i
 ·rename_i ev
  rw[if_pos ev] at hl c
  have:=out k i l hl
  rw[show (axX A p q r s x y).c k l=R.aJ A.K k l from rfl,this] at c
  cases c
 ·rename_i ev
  rw[if_neg ev] at hl c
  have:=out l hl k i
  rw[show (axY A p q r s x y).c k l=R.aJ A.K l k from rfl,this] at c
  cases c
noncomputable def lsF(A:Yd)(f:Nat):List Rat:=if f%2=0 then A.ws else A.us
noncomputable def alF(A:Yd)(f:Nat):List Rat:=if f%2=0 then A.us else A.ws
noncomputable def kH(A:Yd)(d:R.Qd):Rat:=(lsF A d.f).getD d.p 0
noncomputable def wW(A:Yd)(d:R.Qd):Rat:=(alF A d.f).getD d.b 0
noncomputable def t9(A:Yd)(d:R.Qd):Rat:=(alF A d.f).getD d.e 0
end Q
namespace Q
open PySem L2 Z U
abbrev FrT:=Nat×Rat
noncomputable def frK(A:Yd)(d:R.Qd):FrT:=(d.f,kH A d)
noncomputable def eQ(t:FrT):D := .tup [.int (t.1:Int),aT t.2]
noncomputable def sdR(A:Yd)(d:R.Qd):D := .tup [.int (d.f:Int),aT (kH A d),aT (wW A d),aT (t9 A d)]
theorem pB{l:List Rat}(h:i<l.length):(a6 l).getD i .non=aT (l.getD i 0):=by
 unfold a6
 rw[zGd,qg,zGd,zGe h];rfl
theorem aLU(A:Yd)(f:Nat):c9 f (a6 A.ws) (a6 A.us)=a6 (lsF A f):=by unfold c9 lsF;split <;> rfl
theorem aJQ(A:Yd)(f:Nat):cB f (a6 A.ws) (a6 A.us)=a6 (alF A f):=by unfold cB alF;split <;> rfl
theorem wJ(A:Yd)(f:Nat):(lsF A f).length=R.Lf A.ws.length A.us.length f:=by unfold lsF R.Lf;split <;> rfl
theorem aN9(A:Yd)(f:Nat):(alF A f).length-1=R.Nf A.ws.length A.us.length f:=by unfold alF R.Nf;split <;> rfl
theorem aDZ(A:Yd):fV A.K (a6 A.ws) (a6 A.us) 4=(gZ A).map (sdR A):=by
 rw[aK0,cF,cF]
 refine kz λd hd => ?_
 obtain⟨_,r2,r3,r4,_⟩:=R.fW hd
 have c:=wJ A d.f
 have a:=aN9 A d.f
 unfold sdQ mkS sdR kH wW t9
 rw[aLU,aJQ,pB '!']
 show D.tup [_,_,(a6 (alF A d.f)).getD d.b .non,(a6 (alF A d.f)).getD d.e .non]=_
 rw[pB '!',pB '!']
noncomputable def m9(acc:List FrT)(x:FrT):List FrT:=if x∈acc then acc else acc++[x]
noncomputable def nubK(l:List FrT):List FrT:=l.foldl m9 []
noncomputable def nB(acc:List FrT)(x:FrT):List FrT:=if acc.getLast?=some x then acc else acc++[x]
noncomputable def pZ(l:List FrT):List FrT:=l.foldl nB []
theorem aTU(a b:FrT):eqD (eQ a) (eQ b)=decide (a=b):=by
 show (eqD (.int (a.1:Int)) (.int (b.1:Int))&&(eqD (aT a.2) (aT b.2)&&true))=_
 rw[vz,aBZ]
 show ((a.1:Int)==(b.1:Int)&&_)=_
 rw[xj,qx,beq_iff_eq,decide_eq_true_eq,decide_eq_true_eq,Prod.ext_iff]
 exact and_congr_left λ_=>by lia
theorem aNM(acc:List FrT):(acc.map eQ).getLast?=acc.getLast?.map eQ:=by rw[List.getLast?_map]
theorem aMU(A:Yd):∀(ts:List R.Qd) (acc:List FrT),(ts.map (sdR A)).foldl fB (acc.map eQ)=((ts.map (frK A)).foldl nB acc).map eQ
 |[],acc=>rfl
 |d::ts,acc=>by
  have e:fB (acc.map eQ) (sdR A d)=(nB acc (frK A d)).map eQ:=by
   unfold fB nB
   rw[aNM]
   cases h:acc.getLast? with
   |none=>simp only[Option.map_none];rw[if_neg '%',qi];rfl
   |some x =>
    simp only[wx]
    rw[show rB (sdR A d)=eQ (frK A d) from rfl,aTU]
    by_cases q:x=frK A d
    ·rw[decide_eq_true q,if_pos rfl,if_pos (by rw[q])]
    ·rw[decide_eq_false q,if_neg zBf,if_neg (λz=>q (je z)),qi];rfl
  rw[kj,yp,e,aMU A ts,kj,yp]
theorem aSX(A:Yd)(ts:List R.Qd):oF (ts.map (sdR A))=(pZ (ts.map (frK A))).map eQ:=aMU A ts []
noncomputable def gS(a b:FrT):Prop:=a.1<b.1\/a.1=b.1/\a.2<=b.2
theorem gS.anti{a b:FrT}(h:gS a b)(g:gS b a):a=b:=by
 unfold gS at *
 refine n7 '!' ?_
 rcases h with h|⟨_,h⟩ <;> rcases g with g|⟨_,g⟩
 ·lia
 ·lia
 ·lia
 ·exact si h g
theorem qE:∀(l acc:List FrT),l.Pairwise gS->(∀a∈acc,∀x∈l,gS a x)->(∀z,acc.getLast?=some z->∀a∈acc,gS a z)->l.foldl m9 acc=l.foldl nB acc
 |[],acc,_,_,_=>rfl
 |x::l,acc,hp,ha,hz=>by
  obtain⟨p1,i⟩:=jt.mp hp
  have e:m9 acc x=nB acc x:=by
   unfold m9 nB
   by_cases m:x∈acc
   ·rw[if_pos m]
    cases h:acc.getLast? with
    |none=>rw[List.getLast?_eq_none_iff] at h;rw[h] at m;cases m
    |some z =>
     have f:=hz z h x m
     have d:=ha z (Je h) x '%'
     rw[if_pos (by rw[d.anti f])]
   ·rw[if_neg m,if_neg λq=>m (Je q)]
  rw[yp,yp,e]
  have mem:∀a∈nB acc x,a∈acc\/a=x:=λa h=>by
   unfold nB at h
   split at h
   ·exact .inl h
   ·exact (jf.mp h).imp id (λq=>by rwa [ql] at q)
  refine qE l (nB acc x) i (λa h y c => ?_) (λz h a hm => ?_)
  ·rcases mem a h with q|q
   ·exact ha a q y (jg _ c)
   ·rw[q];exact p1 y c
  ·have b:z=x:=by
    unfold nB at h
    split at h
    ·rename_i g;rw[g] at h;exact (je h).symm
    ·rw[List.getLast?_append] at h;simpa using h.symm
   rw[b]
   rcases mem a hm with q|q
   ·exact ha a q x '%'
   ·rw[q];exact .inr ⟨rfl,fo⟩
theorem aER{l:List FrT}(h:l.Pairwise gS):nubK l=pZ l:=qE l [] h (λa z=>(nomatch z)) (λz h=>by simp at h)
theorem aDJ:∀(l acc:List FrT) (x:FrT),x∈l.foldl m9 acc↔x∈acc\/x∈l
 |[],acc,x=>by simp
 |y::l,acc,x=>by
  rw[yp,aDJ l (m9 acc y) x,qp]
  unfold m9
  split
  ·rename_i h
   constructor
   ·rintro (q|q)
    ·exact .inl q
    ·exact .inr (.inr q)
   ·rintro (q|q|q)
    ·exact .inl q
    ·exact .inl (q▸h)
    ·exact .inr q
  ·rw[jf,ql,or_assoc]
open Classical in
noncomputable def uJ(A:Yd)(p q r s x y h:Rat)(d:R.Qd):Bool:=decide (Tch A p q r s x y h d)
theorem uF{A:Yd}{p q r s x h:Rat}{d:R.Qd}:uJ A p q r s x y h d=true↔Tch A p q r s x y h d:=by unfold uJ;exact @decide_eq_true_iff _ (zp _)
noncomputable def iX(A:Yd)(p q r s x y h:Rat):List R.Qd:=(gZ A).filter (uJ A p q r s x y h)
theorem aGD{A:Yd}{l:List R.Qd}(hs:∀d∈l,d∈gZ A)(h:l.Pairwise R.Bef):(l.map (frK A)).Pairwise gS:=by
 rw[kv]
 refine h.imp_of_mem λ{a b} g e q => ?_
 obtain⟨_,a2,_⟩:=R.fW (hs a g)
 obtain⟨_,j,_⟩:=R.fW (hs b e)
 have m:=wJ A a.f
 have i:=wJ A b.f
 rcases q with q|⟨c,k⟩
 ·exact .inl q
 ·refine .inr ⟨c,?_⟩
  show kH A a<=kH A b
  unfold kH
  rw[<- c] at i j ⊢
  rw[gD '!',gD '!']
  have u:Up (lsF A a.f):=by unfold lsF;split;exact A.uw;exact A.uu
  exact (U.d7 u '!' '!').mpr (by rcases k with q|⟨q,_⟩ <;> lia)
theorem aM7(A:Yd)(p q r s x y h:Rat):((iX A p q r s x y h).map (frK A)).Pairwise gS:=aGD (λd hd=>(wy.mp hd).1) ((R.aGM A.K A.ws.length A.us.length 4).filter _)
noncomputable def letBy(A:Yd)(p q r s x y H:Rat)(n:Nat)(l:List R.Qd):List FrT:=l.flatMap λd=>if uJ A p q r s x y H d=true then jz (n+1) (frK A d) else []
structure Sz(k:Nat)(q:Rat):Prop where
 n:q.num.natAbs<=10^k
 d:q.den<=10^k
theorem Sz.bq{k:Nat}{q:Rat}(h:Sz k q)(hk:k<=390):Bq q:=by
 have:10^k<=10^390:=w3 '#' hk
 exact⟨qn (qq h.n this) '&',qn (qq h.d this) '&'⟩
theorem Sz.tog{k:Nat}{a b:Rat}(h:Sz j a)(g:Sz k b){c:Int}(hc:c.natAbs<=1):Sz (j+k+1) (a+(c:Rat)*b):=by
 rw[<- aQJ]
 have i:0<(a.den:Int)*(b.den:Int):=bw (by have:=a.den_pos;lia) (by have:=b.den_pos;lia)
 obtain⟨m,f⟩:=vZ (a:=a.num*(b.den:Int)+c*b.num*(a.den:Int)) i
 have q:a.num.natAbs*b.den<=10^j*10^k:=ku h.n g.d
 have l:c.natAbs*b.num.natAbs*a.den<=1*10^k*10^j:=ku (ku hc g.n) h.d
 have p:a.den*b.den<=10^j*10^k:=ku h.d g.d
 have e:10^(j+k+1)=10^j*10^k*10:=by rw[hC,lu]
 rw[sd,VD (10^k)] at l
 have t:(a.num*(b.den:Int)+c*b.num*(a.den:Int)).natAbs<=a.num.natAbs*b.den+c.natAbs*b.num.natAbs*a.den:=by
  refine qq (Int.natAbs_add_le _ _) ?_
  rw[vi,vi,vi,xp,xp]
  exact qk _
 refine⟨by rw[e];lia,?_⟩
 have o:(qb (a.num*(b.den:Int)+c*b.num*(a.den:Int)) ((a.den:Int)*(b.den:Int))).den<=a.den*b.den:=by
  have:=f
  rw[<- Int.natCast_mul] at this
  exact Int.ofNat_le.mp this
 rw[e];lia
theorem Sz.add{k:Nat}{a b:Rat}(h:Sz j a)(g:Sz k b):Sz (j+k+1) (a+b):=by
 have:=h.tog g (c:=1) '#'
 rwa [show a+((1:Int):Rat)*b=a+b by rw[show ((1:Int):Rat)=1 from rfl,Rat.one_mul]] at this
theorem Sz.sub{k:Nat}{a b:Rat}(h:Sz j a)(g:Sz k b):Sz (j+k+1) (a-b):=by
 have:=h.tog g (c := -1) '#'
 rwa [show a+((-1:Int):Rat)*b=a-b by rw[show ((-1:Int):Rat) = -1 from rfl];grind] at this
theorem Sz.mulI{k:Nat}{q:Rat}(h:Sz k q){p:Int}(hp:Pc p):Sz (k+1) ((p:Rat)*q):=by
 have p1:=hp.a
 have f:=hp.b
 have e:(p:Rat)*q=qb (p*q.num) (q.den:Int):=by
  conv=>lhs;rw[<- vj q]
  have:=cg p q.num (d₁:=1) (d₂:=(q.den:Int))
  rw[Int.one_mul] at this
  rw[<- this,wR]
 rw[e]
 obtain⟨c,g⟩:=vZ (a:=p*q.num) (b:=(q.den:Int)) (by have:=q.den_pos;lia)
 rw[vi] at c
 have m:p.natAbs*q.num.natAbs<=10*10^k:=ku '!' h.n
 have hd:=h.d
 exact⟨by rw[hC];lia,by rw[hC];lia⟩
theorem Sz.mono{k:Nat}{q:Rat}(h:Sz j q)(hk:j<=k):Sz k q:=by
 have:10^j<=10^k:=w3 '#' hk
 exact⟨qq h.n this,qq h.d this⟩
theorem Sz.ofFr{M:Nat}(n:Nm M (10^60)){q:Rat}(h:Fr M (10^60) q):Sz 60 q:=by
 obtain⟨a,b⟩:=h.bd n.m0
 exact⟨a,qq b n.m1⟩
theorem Sz.ofDn{M:Nat}(n:Nm M (10^60)){q:Rat}(h:Dn M (10^60) q):Sz 61 q:=by
 refine⟨qq h.n '&',qq h.d (qq (ma 9 n.m1) (by unfold sm;decide +kernel))⟩
structure Env(A:Yd)(e n w s:Int)(x y:Rat)(M:Nat):Prop where
 o:Pp e n w s
 nm:Nm M (10^60)
 ax:FrL M (10^60) A.ws
 ay:FrL M (10^60) A.us
 fx:Fr M (10^60) x
 fy:Fr M (10^60) y
 lx:A.ws.length<=7
 ly:A.us.length<=7
theorem Env.ls{A:Yd}{e n w s:Int}{x:Rat}{M:Nat}(h:Env A e n w s x y M)(d:R.Qd):Fr M (10^60) (kH A d)/\Fr M (10^60) (wW A d)/\Fr M (10^60) (t9 A d):=by
 have f1:FrL M (10^60) (lsF A d.f):=by unfold lsF;split;exact h.ax;exact h.ay
 have f2:FrL M (10^60) (alF A d.f):=by unfold alF;split;exact h.ay;exact h.ax
 exact⟨f1.at _,f2.at _,f2.at _⟩
noncomputable def aJY(e n w s:Int)(x y t:Rat):D := .tup [aT (x-(e:Rat)*t),aT (y-(n:Rat)*t),aT (x+(w:Rat)*t),aT (y+(s:Rat)*t)]
noncomputable def aSF:Ct:=λds M k=>∃(e n w s:Int) (x y t:Rat),ds=[jM e n w s,aT x,aT y,aT t]/\Pp e n w s/\Sz 60 x/\Sz 60 y/\Sz 62 t/\k (aJY e n w s x y t) M
noncomputable def aLV:Ct:=λds M k=>∃(A:Yd) (d:R.Qd) (e n w s:Int) (x y t:Rat) (N:Nat),ds=[sdR A d,aJY e n w s x y t]/\d.f<4/\Env A e n w s x y N/\Sz 62 t/\∀b:Bool,(b=true↔Tch A e n w s x y t d)->k (.bl b) M
noncomputable def aIM:Ct:=λds M k=>∃(A:Yd) (e n w s:Int) (x y t:Rat) (N:Nat),ds=[yd A,aJY e n w s x y t]/\Env A e n w s x y N/\Sz 62 t/\k (.lst ((iX A e n w s x y t).map (sdR A))) M
noncomputable def aK6:Ct:=λds M k=>∃(A:Yd) (e n w s:Int) (x y:Rat) (N:Nat),ds=[yd A,jM e n w s,aT x,aT y]/\Env A e n w s x y N/\∀a,M a=none->k (.mt a) (bV M a (.lst ((pZ ((iX A e n w s x y (c0 A e n w s x y)).map (frK A))).map eQ)))
theorem aQL(A:Yd)(e n w s:Int)(x y t:Rat){f:Nat}(hf:f<4):atI [aT (x-(e:Rat)*t),aT (y-(n:Rat)*t),aT (x+(w:Rat)*t),aT (y+(s:Rat)*t)] (f:Int)=some (aT ((axF A e n w s x y f).at (rA f) t))/\atI [aT (x-(e:Rat)*t),aT (y-(n:Rat)*t),aT (x+(w:Rat)*t),aT (y+(s:Rat)*t)] (1-(f:Int)%2)=some (aT ((axF A e n w s x y f).y-(axF A e n w s x y f).da*t))/\atI [aT (x-(e:Rat)*t),aT (y-(n:Rat)*t),aT (x+(w:Rat)*t),aT (y+(s:Rat)*t)] (3-(f:Int)%2)=some (aT ((axF A e n w s x y f).y+(axF A e n w s x y f).ua*t)):=by
 have:f=0\/f=1\/f=2\/f=3:=by lia
 rcases this with rfl|rfl|rfl|rfl <;> exact⟨rfl,rfl,rfl⟩
theorem aRY(A:Yd)(p q r s x y:Rat)(f:Nat):(axF A p q r s x y f).ls=lsF A f/\(axF A p q r s x y f).al=alF A f:=by unfold axF lsF alF;split <;> exact⟨rfl,rfl⟩
end Q
namespace U
open PySem
noncomputable def edP(v:Rat->Bool)(d:Bool)(L:Rat):Prop:=v L = !d/\∃u0,u0<L/\∀u,u0<=u->u<L->v u=d
theorem pP{ls:List Rat}{x:Rat}(u:Up ls)(h:x<=y):ix ls x<=ix ls y:=by
 have a:=iQ ls y
 by_cases e:0<=ix ls x
 ·have b:=jN ls x
  have d:=(bZ (x:=x) u (i:=(ix ls x).toNat) '!').mpr '!'
  have c:=(bZ (x:=y) u (i:=(ix ls x).toNat) '!').mp (by grind)
  lia
 ·lia
theorem oG{ls:List Rat}(u:Up ls){p:Nat}(hp:p<ls.length):∃u0,u0<ls[p]/\∀x,u0<=x->x<ls[p]->ix ls x=(p:Int)-1:=by
 obtain⟨b,f,c,h⟩:=before u hp (x:=ls[p]-1) (by grind)
 refine⟨b,c,λx a d => ?_⟩
 have g:=pP u a
 have e:¬(p:Int)<=ix ls x:=λz=>by have:=(bZ (x:=x) u hp).mpr z;grind
 lia
theorem aMZ{ls:List Rat}(u:Up ls){c:Int->Bool}{d:Bool}{L:Rat}:edP (λx=>c (ix ls x)) d L↔∃p:Nat,p<ls.length/\ls.getD p 0=L/\c (p:Int) = !d/\c ((p:Int)-1)=d:=by
 constructor
 ·rintro⟨b,a,g,f⟩
  replace b:c (ix ls L) = !d:=b
  replace f:∀x,a<=x->x<L->c (ix ls x)=d:=f
  have lo:=iQ ls L
  have q:=jN ls L
  have ne:c (ix ls L)≠d:=by rw[b];cases d <;> decide
  have key:0<=ix ls L/\ls.getD (ix ls L).toNat 0=L:=by
   refine qz λk=>ne ?_
   by_cases i:0<=ix ls L
   ·have hl:(ix ls L).toNat<ls.length:=by lia
    have le:=(bZ (x:=L) u hl).mpr '!'
    have m:ls[(ix ls L).toNat]≠L:=λe=>k ⟨i,by rw[gD hl];exact e⟩
    by_cases hm:a<=ls[(ix ls L).toNat]
    ·have:=f ls[(ix ls L).toNat] hm (by grind)
     rw[dJ u hl] at this
     rwa [show (((ix ls L).toNat:Nat):Int)=ix ls L by lia] at this
    ·have:=f a (by grind) g
     have e:ix ls a=ix ls L:=by
      have g1:=pP u (show a<=L by grind)
      have g2:=(bZ (x:=a) u hl).mp (by grind)
      lia
     rwa [e] at this
   ·have:=f a (by grind) g
    have e:ix ls a=ix ls L:=by
     have g1:=pP u (show a<=L by grind)
     have g2:=iQ ls a
     lia
    rwa [e] at this
  obtain⟨i,e⟩:=key
  have hl:(ix ls L).toNat<ls.length:=by lia
  have l:(((ix ls L).toNat:Nat):Int)=ix ls L:=by lia
  refine⟨(ix ls L).toNat,hl,e,by rw[l];exact b,?_⟩
  rw[gD hl] at e
  obtain⟨j,g1,g2,g3⟩:=before u hl (x:=a) (by rw[e];exact g)
  have:=f j g1 (by rw[e] at g2;exact g2)
  rwa [g3] at this
 ·rintro⟨p,h,rfl,b,g⟩
  rw[gD h]
  obtain⟨a,g1,g2⟩:=oG u h
  refine⟨by show c (ix ls ls[p])=_;rw[dJ u h];exact b,a,g1,λx o n => ?_⟩
  show c (ix ls x)=d
  rw[g2 x o n];exact g
noncomputable def EdQ(Y:Rat->Rat->Bool)(f:Nat)(L t:Rat):Prop:=edP (λu=>if f%2=0 then Y u t else Y t u) (decide (2<=f)) L
structure IsSd(Y:Rat->Rat->Bool)(f:Nat)(L b e:Rat):Prop where
 f4:f<4
 lt:b<e
 on:∀t,b<=t->t<e->EdQ Y f L t
 off:¬EdQ Y f L e
 bef:∃t0,t0<b/\∀t,t0<=t->t<b->¬EdQ Y f L t
structure Gr(ws us:List Rat)(zs:List Str):Prop where
 uw:Up ws
 uu:Up us
 row:∀z∈zs,z.length=ws.length-1
 len:zs.length=us.length-1
noncomputable def lsG(ws us:List Rat)(f:Nat):List Rat:=if f%2=0 then ws else us
noncomputable def alG(ws us:List Rat)(f:Nat):List Rat:=if f%2=0 then us else ws
section
variable (g:Gr ws us zs)
include g
theorem iU{a:Int}(h:R.aJ zs a b=true):0<=a/\a<((ws.length-1:Nat):Int)/\0<=b/\b<((us.length-1:Nat):Int):=by
 unfold R.aJ at h
 simp only[qx,decide_eq_true_eq,beq_iff_eq] at h
 obtain⟨⟨i,f⟩,c⟩:=h
 cases hz:zs[b.toNat]? with
 |none=>rw[hz] at c;cases c
 |some z =>
  rw[hz] at c
  obtain⟨hl,hm⟩:=zGs hz
  have j:=g.row z (hm▸ke hl)
  have d:z.cps.toList[a.toNat]?=some 35:=c
  obtain⟨hl2,_⟩:=zGs d
  rw[qt] at hl2
  have e:z.cps.size=z.length:=rfl
  have:=g.len
  lia
theorem i9{f:Nat}(hf:f<4){L:Rat}:EdQ (inY ws us zs) f L t↔∃p a:Nat,R.gB zs ws.length us.length f p a/\(lsG ws us f).getD p 0=L/\ix (alG ws us f) t=(a:Int):=by
 unfold EdQ lsG alG R.gB R.Lf R.Nf R.edge inY
 by_cases h:f%2=0
 ·simp only[h,if_true]
  rw[aMZ (c:=λk=>R.aJ zs k (ix us t)) g.uw]
  constructor
  ·rintro⟨p,i,hL,e,d⟩
   have l:0<=ix us t/\ix us t<((us.length-1:Nat):Int):=by
    by_cases b:2<=f
    ·rw[decide_eq_true b] at d;have:=iU g d;exact⟨this.2.2.1,this.2.2.2⟩
    ·rw[decide_eq_false b] at e;have:=iU g (show R.aJ zs (p:Int) (ix us t)=true from e);exact⟨this.2.2.1,this.2.2.2⟩
   have j:(((ix us t).toNat:Nat):Int)=ix us t:=by lia
   refine⟨p,(ix us t).toNat,⟨hf,i,by lia,?_⟩,hL,j.symm⟩
   rw[j]
   by_cases b:2<=f
   ·rw[decide_eq_true b] at e d;rw[if_neg '!',e,d];rfl
   ·rw[decide_eq_false b] at e d;rw[if_pos '!',e,d];rfl
  ·rintro⟨p,a,⟨_,i,n,he⟩,hL,m⟩
   refine⟨p,i,hL,?_⟩
   rw[m]
   by_cases b:2<=f
   ·rw[if_neg '!',qx,v5] at he
    rw[decide_eq_true b];exact⟨he.2,he.1⟩
   ·rw[if_pos '!',qx,v5] at he
    rw[decide_eq_false b];exact he
 ·simp only[h,if_false]
  rw[aMZ (c:=λk=>R.aJ zs (ix ws t) k) g.uu]
  constructor
  ·rintro⟨p,i,hL,e,d⟩
   have l:0<=ix ws t/\ix ws t<((ws.length-1:Nat):Int):=by
    by_cases b:2<=f
    ·rw[decide_eq_true b] at d;have:=iU g d;exact⟨this.1,this.2.1⟩
    ·rw[decide_eq_false b] at e;have:=iU g (show R.aJ zs (ix ws t) (p:Int)=true from e);exact⟨this.1,this.2.1⟩
   have j:(((ix ws t).toNat:Nat):Int)=ix ws t:=by lia
   refine⟨p,(ix ws t).toNat,⟨hf,i,by lia,?_⟩,hL,j.symm⟩
   rw[j]
   by_cases b:2<=f
   ·rw[decide_eq_true b] at e d;rw[if_neg '!',e,d];rfl
   ·rw[decide_eq_false b] at e d;rw[if_pos '!',e,d];rfl
  ·rintro⟨p,a,⟨_,i,n,he⟩,hL,m⟩
   refine⟨p,i,hL,?_⟩
   rw[m]
   by_cases b:2<=f
   ·rw[if_neg '!',qx,v5] at he
    rw[decide_eq_true b];exact⟨he.2,he.1⟩
   ·rw[if_pos '!',qx,v5] at he
    rw[decide_eq_false b];exact he
end
structure Sd where
 f:Nat
 l:Rat
 b:Rat
 e:Rat
noncomputable def sdG(ws us:List Rat)(d:R.Qd):Sd:=⟨d.f,(lsG ws us d.f).getD d.p 0,(alG ws us d.f).getD d.b 0,(alG ws us d.f).getD d.e 0⟩
noncomputable def mJ(ws us:List Rat)(zs:List Str):List Sd:=(R.qsN zs ws.length us.length 4).map (sdG ws us)
theorem xF(ws us:List Rat)(f:Nat):(lsG ws us f).length=R.Lf ws.length us.length f:=by unfold lsG R.Lf;split <;> rfl
theorem xD(ws us:List Rat)(f:Nat):(alG ws us f).length-1=R.Nf ws.length us.length f:=by unfold alG R.Nf;split <;> rfl
section
variable (g:Gr ws us zs)
include g
theorem aBK(f:Nat):Up (alG ws us f):=by unfold alG;split;exact g.uu;exact g.uw
theorem vY(f:Nat):Up (lsG ws us f):=by unfold lsG;split;exact g.uw;exact g.uu
theorem aC9(s:Sd):s∈mJ ws us zs↔IsSd (inY ws us zs) s.f s.l s.b s.e:=by
 unfold mJ
 rw[qo]
 constructor
 ·rintro⟨d,hd,rfl⟩
  obtain⟨r1,r2,r3,r4,r5,r6,r7⟩:=R.fW hd
  have W:=xF ws us d.f
  have Z:=xD ws us d.f
  have k:=aBK g d.f
  have he:d.e<(alG ws us d.f).length:=by lia
  have z:d.b<(alG ws us d.f).length:=by lia
  refine⟨r1,?_,λt E F => ?_,λq => ?_,?_⟩
  ·show (alG ws us d.f).getD d.b 0<(alG ws us d.f).getD d.e 0
   rw[gD z,gD he];exact (iR k z he).mpr r3
  ·obtain⟨a,a1,a2,Y⟩:=aGF k he r3 E F
   exact (i9 g r1).mpr ⟨d.p,a,r5 a a1 a2,rfl,Y⟩
  ·obtain⟨p,a,r,n,y⟩:=(i9 g r1).mp q
   have J:=r.2.1
   have o:p=d.p:=by
    have m:(lsG ws us d.f).getD p 0=(lsG ws us d.f).getD d.p 0:=n
    rw[gD '!',gD '!'] at m
    have ul:=vY g d.f
    have g1:=d7 ul (i:=p) (j:=d.p) '!' '!'
    have g2:=d7 ul (i:=d.p) (j:=p) '!' '!'
    rw[m] at g1 g2
    have:=g1.mp (by grind)
    have:=g2.mp (by grind)
    lia
   have u:ix (alG ws us d.f) ((alG ws us d.f).getD d.e 0)=(a:Int):=y
   rw[gD he,dJ k he] at u
   have:a=d.e:=by lia
   subst this o
   exact r6 r
  ·obtain⟨w,g1,g2⟩:=oG k z
   refine⟨w,by show w<(alG ws us d.f).getD d.b 0;rw[gD z];exact g1,λt E F q => ?_⟩
   have A:t<(alG ws us d.f).getD d.b 0:=F
   rw[gD z] at A
   obtain⟨p,a,r,n,y⟩:=(i9 g r1).mp q
   have J:=r.2.1
   have o:p=d.p:=by
    have m:(lsG ws us d.f).getD p 0=(lsG ws us d.f).getD d.p 0:=n
    rw[gD '!',gD '!'] at m
    have ul:=vY g d.f
    have g1:=d7 ul (i:=p) (j:=d.p) '!' '!'
    have g2:=d7 ul (i:=d.p) (j:=p) '!' '!'
    rw[m] at g1 g2
    have:=g1.mp (by grind)
    have:=g2.mp (by grind)
    lia
   have u:ix (alG ws us d.f) t=(a:Int):=y
   rw[g2 t E A] at u
   subst o
   exact r7 a '!' r
 ·intro h
  obtain⟨f,L,b,e⟩:=s
  have f4:f<4:=h.f4
  have k:=aBK g f
  have W:=xF ws us f
  have Z:=xD ws us f
  obtain⟨p,a,r,n,y⟩:=(i9 g f4).mp (h.on b (by grind) h.lt)
  have J:=r.2.1
  have ha:=r.2.2.1
  -- the begin is a line
  have c:a<(alG ws us f).length:=by lia
  have N:=(bZ (x:=b) k c).mpr (by rw[y];lia)
  obtain⟨t0,t1,t2⟩:=h.bef
  have same:∀t,ix (alG ws us f) t=(a:Int)->EdQ (inY ws us zs) f L t:=λt O=>(i9 g f4).mpr ⟨p,a,r,n,O⟩
  have C:(alG ws us f)[a]=b:=by
   refine qz λne => ?_
   have lt:(alG ws us f)[a]<b:=by grind
   by_cases hm:t0<=(alG ws us f)[a]
   ·exact t2 _ hm lt (same _ (dJ k c))
   ·refine t2 t0 (by grind) t1 (same _ ?_)
    have g1:=(bZ (x:=t0) k c).mp (by grind)
    have g2:=pP k (show t0<=b by grind)
    lia
  obtain⟨d,hd,rfl,rfl,d1,d2⟩:=R.aIN r
  obtain⟨r1,r2,r3,r4,r5,r6,r7⟩:=R.fW hd
  -- it begins there
  have db:d.b=a:=by
   refine qz λne => ?_
   have X:a-1<(alG ws us d.f).length:=by lia
   obtain⟨w,g1,g2⟩:=oG k c
   have T:=r5 (a-1) '!' '!'
   have pick:∃t,t0<=t/\w<=t/\t<b:=by
    by_cases q:t0<=w
    ·exact⟨w,q,by grind,by grind⟩
    ·exact⟨t0,by grind,by grind,t1⟩
   obtain⟨t,Q,U,K⟩:=pick
   refine t2 t Q K ((i9 g f4).mpr ⟨d.p,a-1,T,n,?_⟩)
   rw[g2 t U (by rw[C];exact K)];lia
  have hE:d.e<(alG ws us d.f).length:=by lia
  -- it ends there
  have V:(alG ws us d.f)[d.e]=e:=by
   rcases (show (alG ws us d.f)[d.e]<e\/e<=(alG ws us d.f)[d.e] by grind) with q|q
   ·exfalso
    have M:b<=(alG ws us d.f)[d.e]:=by
     rw[<- C];exact (d7 k c hE).mpr '!'
    obtain⟨G,D,B,I,H⟩:=(i9 g f4).mp (h.on _ M q)
    rw[dJ k hE] at H
    have P:=B.2.1
    have o:G=d.p:=by
     rw[<- I] at n
     rw[gD '!',gD '!'] at n
     have ul:=vY g d.f
     have g1:=d7 ul (i:=G) (j:=d.p) '!' '!'
     have g2:=d7 ul (i:=d.p) (j:=G) '!' '!'
     rw[n] at g1 g2
     have:=g1.mp (by grind)
     have:=g2.mp (by grind)
     lia
    have:D=d.e:=by lia
    subst this o
    exact r6 B
   ·refine qz λne => ?_
    have lt:e<(alG ws us d.f)[d.e]:=by grind
    have S:=h.lt
    have aa:b<e:=S
    obtain⟨D,B,I,H⟩:=aGF k hE r3 (v:=e) (by rw[db,gD c,C];grind) (by rw[gD hE];exact lt)
    exact h.off ((i9 g f4).mpr ⟨d.p,D,r5 D B I,n,H⟩)
  refine⟨d,hd,?_⟩
  unfold sdG
  rw[gD hE,V,db,gD c,C,n]
noncomputable def LtS(x y:Sd):Prop:=x.f<y.f\/x.f=y.f/\(x.l<y.l\/x.l=y.l/\x.b<y.b)
theorem aEP:(mJ ws us zs).Pairwise LtS:=by
 unfold mJ
 rw[kv]
 refine (R.aGM zs ws.length us.length 4).imp_of_mem λ{c d} n hd h => ?_
 obtain⟨w,s,q,o,_⟩:=R.fW n
 obtain⟨u,j,r,i,_⟩:=R.fW hd
 have v:=xF ws us c.f
 have t:=xD ws us c.f
 rcases h with h|⟨a,h⟩
 ·exact .inl h
 ·refine .inr ⟨a,?_⟩
  have m:(sdG ws us d).l=(lsG ws us c.f).getD d.p 0:=by unfold sdG;rw[a]
  have k:(sdG ws us d).b=(alG ws us c.f).getD d.b 0:=by unfold sdG;rw[a]
  rw[m,k]
  rw[<- a] at j i
  rcases h with h|⟨e,h⟩
  ·left
   show (lsG ws us c.f).getD c.p 0<_
   rw[gD '!',gD '!']
   exact (iR (vY g c.f) '!' '!').mpr h
  ·right
   refine⟨by show (lsG ws us c.f).getD c.p 0=_;rw[e],?_⟩
   show (alG ws us c.f).getD c.b 0<_
   rw[gD '!',gD '!']
   exact (iR (aBK g c.f) '!' '!').mpr '!'
end
theorem LtS.irr{x y:Sd}(h:LtS x y)(h2:LtS y x):False:=by
 unfold LtS at h h2
 rcases h with h|⟨d,h⟩ <;> rcases h2 with h2|⟨a,h2⟩
 ·lia
 ·lia
 ·lia
 ·rcases h with h|⟨c,h⟩ <;> rcases h2 with h2|⟨b,h2⟩ <;> grind
theorem wH{α:Type}{lt:α->α->Prop}(as:∀x y,lt x y->lt y x->False):∀{xs ys:List α},xs.Pairwise lt->ys.Pairwise lt->(∀x,x∈xs↔x∈ys)->xs=ys
 |[],[],_,_,_=>rfl
 |[],y::ys,_,_,h=>absurd ((h y).mpr (.head _)) '%'
 |x::xs,[],_,_,h=>absurd ((h x).mp (.head _)) '%'
 |x::xs,y::ys,px,py,h=>by
  obtain⟨p1,d⟩:=jt.mp px
  obtain⟨b,c⟩:=jt.mp py
  have e:x=y:=by
   rcases qp.mp ((h x).mp (.head _)) with q|q
   ·exact q
   ·rcases qp.mp ((h y).mpr (.head _)) with z|z
    ·exact z.symm
    ·exact (as _ _ (p1 y z) (b x q)).elim
  subst e
  rw[wH as d c λz => ?_]
  constructor
  ·intro a
   rcases qp.mp ((h z).mp (.tail _ a)) with q|q
   ·subst q;exact (as _ _ (p1 _ a) (p1 _ a)).elim
   ·exact q
  ·intro a
   rcases qp.mp ((h z).mpr (.tail _ a)) with q|q
   ·subst q;exact (as _ _ (b _ a) (b _ a)).elim
   ·exact q
theorem aL1{zs':List Str}(g:Gr ws us zs)(g':Gr ws' us' zs')(h:∀x y,inY ws us zs x y=inY ws' us' zs' x y):mJ ws us zs=mJ ws' us' zs':=by
 have e:inY ws us zs=inY ws' us' zs':=funext λx=>funext λy=>h x y
 refine wH (λx y=>LtS.irr) (aEP g) (aEP g') λs => ?_
 rw[aC9 g,aC9 g',e]
end U
namespace SO
open PySem PyProof.Rows
section
variable {M:Jt}{E:Value->Shared->Prop}{P:Shared->Prop}{σ:Type}
noncomputable def wpP(M:Jt)(A:Around)(E:Value->Shared->Prop)(P:Shared->Prop){α:Type}(m:StateT σ Sem α)(Q:α->σ->Prop)(st:σ):Prop:=
 ∀s,P s->wpAny M A (m.run st) (λr s'=>P s'/\Q r.1 r.2) E s
theorem b7{α:Type}{a:α}{Q:α->σ->Prop}{st:σ}(h:Q a st):wpP M A E P (pure a:StateT σ Sem α) Q st:=λs hs=>by
 rw[JR];exact wpAny_pure ⟨hs,h⟩
theorem bO{α β:Type}{m:StateT σ Sem α}{f:α->StateT σ Sem β}{Q:β->σ->Prop}{st:σ}(h:wpP M A E P m (λa st'=>wpP M A E P (f a) Q st') st):wpP M A E P (m >>= f) Q st:=λs c=>by
 rw[StateT.run_bind]
 exact qa (w7 (h s c) (λr d b=>b.2 d b.1) λ_ _ e=>e)
theorem p_mono{α:Type}{m:StateT σ Sem α}{Q Q':α->σ->Prop}{st:σ}(h:wpP M A E P m Q st)(hq:∀a st',Q a st'->Q' a st'):wpP M A E P m Q' st:=
 λs c=>w7 (h s c) (λr _ b=>⟨b.1,hq _ _ b.2⟩) λ_ _ e=>e
theorem vN{Q:σ->σ->Prop}{st:σ}(h:Q st st):wpP M A E P (get:StateT σ Sem σ) Q st:=λs hs=>by
 rw[StateT.run_get];exact wpAny_pure ⟨hs,h⟩
theorem tX{f:σ->σ}{Q:PUnit->σ->Prop}{st:σ}(h:Q ⟨⟩ (f st)):wpP M A E P (modify f:StateT σ Sem PUnit) Q st:=λs hs=>by
 rw[StateT.run_modify];exact wpAny_pure ⟨hs,h⟩
theorem aGI{α:Type}{m:Sem α}{Q:α->σ->Prop}{st:σ}(h:∀s,P s->wpAny M A m (λa s'=>P s'/\Q a st) E s):wpP M A E P (liftM m:StateT σ Sem α) Q st:=λs b=>by
 show wpAny M A ((StateT.lift m:StateT σ Sem α).run st) _ E s
 rw[StateT.run_lift]
 exact qa (w7 (h s b) (λa s' c=>wpAny_pure c) λ_ _ e=>e)
theorem aIR{x:String}{Q:Unit->σ->Prop}{st:σ}(h:Q () st):wpP M A E P (liftM (rule x):StateT σ Sem Unit) Q st:=aGI λs hs=>Jj ⟨hs,h⟩
theorem aI6{β:Type}(f:Nat->β->StateT σ Sem (ForInStep β))(I:List Nat->β->σ->Prop)(Q:β->σ->Prop)(hstep:∀x rest b st,I (x::rest) b st->wpP M A E P (f x b) (λr st'=>match r with|.done b'=>Q b' st'|.yield b'=>I rest b' st') st)(hend:∀b st,I [] b st->Q b st):∀(l:List Nat) (b:β) (st:σ),I l b st->wpP M A E P (forIn l b f) Q st
 |[],b,st,h=>by rw[KO];exact b7 (hend _ _ h)
 |x::rest,b,st,h=>by
  rw[rf]
  refine bO (p_mono (hstep x rest b st h) λr st' a => ?_)
  cases r with
  |done b'=>exact b7 a
  |yield b'=>exact aI6 f I Q hstep hend rest b' st' a
theorem l6{β:Type}{a b:Nat}{f:Nat->β->StateT σ Sem (ForInStep β)}(I:Nat->β->σ->Prop){Q:β->σ->Prop}(hstep:∀i c st,a<=i->i<b->I i c st->wpP M A E P (f i c) (λr st'=>match r with|.done c'=>Q c' st'|.yield c'=>I (i+1) c' st') st)(hend:∀c st,I (max a b) c st->Q c st){c:β}{st:σ}(h:I a c st):wpP M A E P (forIn [a:b] c f) Q st:=by
 rw[dg]
 have j:([a:b]:QM).size=b-a:=by simp[ml]
 show wpP M A E P (forIn (qj a ([a:b]:QM).size 1) c f) Q st
 rw[j]
 refine aI6 f (λl c st=>∃i,a<=i/\i<=max a b/\l=qj i (max a b-i) 1/\I i c st) Q ?_ ?_ _ c st ⟨a,qk _,by lia,by congr 1;lia,h⟩
 ·rintro x rest c st ⟨i,e,g,hl,m⟩
  have o:i<max a b:=by
   rcases yl i (max a b) with d|d
   ·exact d
   ·rw[show max a b-i=0 by lia] at hl;simp at hl
  obtain⟨n,k⟩:∃n,max a b-i=n+1:=⟨max a b-i-1,by lia⟩
  rw[k,ck] at hl
  obtain⟨rfl,rfl⟩:=hG hl
  refine p_mono (hstep x c st e '!' m) λr st' d => ?_
  cases r with
  |done c'=>exact d
  |yield c'=>exact⟨x+1,by lia,by lia,by congr 1;lia,d⟩
 ·rintro c st ⟨i,e,g,hl,m⟩
  have:i=max a b:=by
   rcases yl i (max a b) with d|d
   ·obtain⟨n,k⟩:∃n,max a b-i=n+1:=⟨max a b-i-1,by lia⟩
    rw[k,ck] at hl;simp at hl
   ·lia
  subst this;exact hend _ _ m
end
structure Wk(R:Nat->Nat->Bool):Prop where
 asym:∀i j,R i j=true->R j i=false
 ntr:∀i j k,R i j=false->R j k=false->R i k=false
noncomputable def T(R:Nat->Nat->Bool)(i j:Nat):Prop:=(i<j/\R j i=false)\/(j<i/\R i j=true)
section
variable {R:Nat->Nat->Bool}{k:Nat}
theorem T.ne(h:T R i j):i≠j:=by rcases h with h|h <;> lia
theorem T.irr(h:T R i i):False:=h.ne rfl
theorem T.tr(W:Wk R)(h:T R i j)(g:T R j k):T R i k:=by
 have tr:∀{a b c},R a b=true->R b c=true->R a c=true:=λ{a b c} f d=>by
  cases e:R a c with
  |true=>rfl
  |false=>exact absurd (W.ntr a c b e (W.asym _ _ d)) (by rw[f];decide)
 rcases h with ⟨f,d⟩|⟨f,d⟩ <;> rcases g with ⟨g1,g2⟩|⟨g1,g2⟩
 ·exact .inl ⟨by lia,W.ntr _ _ _ g2 d⟩
 ·rcases yq i k with z|z|z
  ·exact .inl ⟨z,W.ntr _ _ _ (W.asym _ _ g2) d⟩
  ·subst z;rw[d] at g2;cases g2
  ·refine .inr ⟨z,?_⟩
   cases e:R i k with
   |true=>rfl
   |false=>rw[W.ntr _ _ _ d e] at g2;cases g2
 ·rcases yq i k with z|z|z
  ·exact .inl ⟨z,W.ntr _ _ _ g2 (W.asym _ _ d)⟩
  ·subst z;rw[d] at g2;cases g2
  ·refine .inr ⟨z,?_⟩
   cases e:R i k with
   |true=>rfl
   |false=>rw[W.ntr _ _ _ e g2] at d;cases d
 ·exact .inr ⟨by lia,tr d g2⟩
theorem T.asy(W:Wk R)(h:T R i j)(g:T R j i):False:=(h.tr W g).irr
theorem T.tot(h:i≠j):T R i j\/T R j i:=by
 rcases Nat.lt_or_gt_of_ne h with z|z
 ·cases e:R j i with
  |false=>exact .inl (.inl ⟨z,e⟩)
  |true=>exact .inr (.inr ⟨z,e⟩)
 ·cases e:R i j with
  |true=>exact .inl (.inr ⟨z,e⟩)
  |false=>exact .inr (.inl ⟨z,e⟩)
theorem T.yes(h:i<j)(e:R j i=true):T R j i := .inr ⟨h,e⟩
theorem T.no(h:i<j)(e:R j i=false):T R i j := .inl ⟨h,e⟩
theorem T.fwd(h:i<j)(t:T R i j):R j i=false:=by rcases t with t|t;exact t.2;lia
end
end SO
namespace SO
open PySem PyProof.Rows
section
variable {M:Jt}{E:Value->Shared->Prop}{P:Shared->Prop}
end
end SO
namespace SO
open PySem PyProof.Rows
section
variable {E:Value->Shared->Prop}{P:Shared->Prop}{κ:dj}{it:Nat->Keyed}{N:Nat}{R:Nat->Nat->Bool}
structure Cmp(prog:Program)(w:World)(A:Around)(P:Shared->Prop)(κ:dj)(it:Nat->Keyed)(N:Nat)(R:Nat->Nat->Bool):Prop where
 wk:Wk R
 cmp:∀i j,i<N->j<N->∀s,P s->wpAny w.12 A (keyLt' κ (it i).1 (it j).1) (λb s'=>P s'/\b=R i j) (λ_ _=>False) s
theorem p_lt(C:Cmp prog w A P κ it N R){st:xh}{Q:Option Bool->xh->Prop}(hk:kindOf st=κ)(hi:i<N)(hj:j<N)(h:Q (some (R i j)) st):wpP w.12 A E P (lt' (it i) (it j)) Q st:=by
 rw[lt'_eq]
 refine bO (vN ?_)
 rw[hk]
 refine bO (aGI λs a=>gK (w7 (C.cmp i j hi hj s a) (λb d e => ?_) λ_ _ x=>x.elim))
 obtain⟨c,rfl⟩:=e
 exact⟨c,b7 h⟩
theorem aSD{arr:Array Keyed}{x:Keyed}{st:xh}{Q:Keyed->xh->Prop}(e:arr[i]?=some x)(h:Q x st):wpP w.12 A E P (elem' arr i) Q st:=by
 rw[elem'_eq,e];exact b7 h
theorem gmem{xs:List Nat}(h:i<xs.length):xs.getD i 0∈xs:=by simp[h]
noncomputable def ar(it:Nat->Keyed)(xs:List Nat):Array Keyed:=(xs.map it).toArray
theorem aNB(xs:List Nat):(ar it xs).size=xs.length:=by simp[ar]
theorem aQ2{xs:List Nat}(h:i<xs.length):(ar it xs)[i]?=some (it (xs.getD i 0)):=by
 simp[ar,h]
theorem aD1{xs:List Nat}{st:xh}{Q:Keyed->xh->Prop}(e:i<xs.length)(h:Q (it (xs.getD i 0)) st):wpP w.12 A E P (elem' (ar it xs) i) Q st:=aSD (aQ2 e) h
theorem aSQ{q:Nat->Prop}(anti:∀i j,i<=j->j<n->q j->q i):∃c,c<=n/\∀i,i<n->(q i↔i<c):=by
 classical
 induction n with
 |zero=>exact⟨0,qk _,λi h=>by lia⟩
 |succ n ih =>
  obtain⟨c,g,h⟩:=ih λi j d f=>anti i j d '!'
  by_cases a:q n
  ·exact⟨n+1,qk _,λi b=>⟨λ_=>b,λ_=>anti i n '!' '!' a⟩⟩
  ·refine⟨c,by lia,λi b => ?_⟩
   rcases yl i n with z|z
   ·exact h i z
   ·have:i=n:=by lia
    subst this
    exact⟨λe=>absurd e a,λe=>by lia⟩
end
end SO
namespace SO
open PySem PyProof.Rows
structure ML(R:Nat->Nat->Bool)(xs ys os:List Nat)(ia ib:Nat):Prop where
 la:ia<=xs.length
 lb:ib<=ys.length
 len:os.length=ia+ib
 mem:∀o∈os,o∈xs\/o∈ys
 srt:os.Pairwise (T R)
 ox:∀o∈os,∀x∈xs.drop ia,T R o x
 oy:∀o∈os,∀y∈ys.drop ib,T R o y
section
variable {R:Nat->Nat->Bool}{xs ys os:List Nat}{ia ib:Nat}
theorem aB3{x:Nat}(h:x∈l.drop i):∃j,i<=j/\j<l.length/\l.getD j 0=x:=by
 obtain⟨j,a,rfl⟩:=jr h
 rw[w4] at a
 refine⟨i+j,by lia,by lia,?_⟩
 rw[J3]
 simp[show i+j<l.length by lia]
theorem aBS(h:l.Pairwise (T R))(hij:i<j)(hj:j<l.length):T R (l.getD i 0) (l.getD j 0):=by
 have:=jj.mp h i j '!' hj hij
 simpa[hj,show i<l.length by lia] using this
end
section
variable {E:Value->Shared->Prop}{P:Shared->Prop}{κ:dj}{it:Nat->Keyed}{N:Nat}{R:Nat->Nat->Bool}
structure Two(N:Nat)(R:Nat->Nat->Bool)(xs ys:List Nat):Prop where
 nx:∀x∈xs,x<N
 ny:∀y∈ys,y<N
 sx:xs.Pairwise (T R)
 sy:ys.Pairwise (T R)
 lt:∀x∈xs,∀y∈ys,x<y
 px:0<xs.length
 py:0<ys.length
end
end SO
namespace SO
open PySem PyProof.Rows
structure MH(R:Nat->Nat->Bool)(xs ys os:List Nat)(na nb:Nat):Prop where
 la:na<=xs.length
 lb:nb<=ys.length
 len:os.length+na+nb=xs.length+ys.length
 mem:∀o∈os,o∈xs\/o∈ys
 srt:os.Pairwise (λa b=>T R b a)
 ox:∀o∈os,∀x∈xs.take na,T R x o
 oy:∀o∈os,∀y∈ys.take nb,T R y o
section
variable {R:Nat->Nat->Bool}{xs ys os:List Nat}{na nb:Nat}
theorem aIA{x:Nat}(h:x∈l.take n):∃j,j<n/\j<l.length/\l.getD j 0=x:=by
 obtain⟨j,a,rfl⟩:=jr h
 rw[vh] at a
 refine⟨j,by lia,by lia,?_⟩
 rw[J1]
 simp[show j<l.length by lia]
theorem aFQ(W:Wk R)(hs:l.Pairwise (T R)){y:Nat}(hn:n<=l.length)(h:T R (l.getD (n-1) 0) y):∀x∈l.take n,T R x y:=λx a=>by
 obtain⟨j,c,b,rfl⟩:=aIA a
 rcases yl j (n-1) with z|z
 ·exact (aBS hs z '!').tr W h
 ·rwa [show j=n-1 by lia]
end
section
variable {E:Value->Shared->Prop}{P:Shared->Prop}{κ:dj}{it:Nat->Keyed}{N:Nat}{R:Nat->Nat->Bool}
end
end SO
namespace SO
open PySem PyProof.Rows
section
variable {E:Value->Shared->Prop}{P:Shared->Prop}{κ:dj}{it:Nat->Keyed}{N:Nat}{R:Nat->Nat->Bool}
theorem kY{u v:List Nat}(h:j<v.length)(e:i=u.length+j){w:List Nat}:(u++(v++w)).getD i 0=v.getD j 0:=by
 subst e
 rw[zGd,zGd,qr '!',fv,q6 h]
end
end SO
namespace SO
open PySem PyProof.Rows
theorem aCO{α:Type}{u v w:List α}(hi:i=u.length)(hj:j=u.length+v.length):mirror (u++(v++w)).toArray i j ((j-i)/2)=(u++(v.reverse++w)).toArray:=by
 subst hi hj
 apply Js
 intro k
 rw[getElem?_mirror_all '%']
 rw[kr,kr,kr]
 by_cases h:u.length<=k/\k<u.length+v.length
 ·rw[if_pos h,qr '!',q6 '!',qr '!',q6 (by rw[cy];lia),List.getElem?_reverse '!']
  congr 1;lia
 ·rw[if_neg h]
  rcases yl k u.length with z|z
  ·rw[q6 z,q6 z]
  ·rw[qr z,qr z,qr '!',qr (by rw[cy];lia),cy]
theorem aCY{α:Type}{u v w:List α}{z:α}{src d:Nat}(hs:src=u.length+v.length)(hd:d=v.length):bubble (u++(v++(z::w))).toArray src d=(u++(z::(v++w))).toArray:=by
 subst hs hd
 apply Js
 intro k
 rw[getElem?_bubble '%' _ '!',kr,kr,kr,kr]
 have c:(u++(v++(z::w)))[u.length+v.length]?=some z:=by simp
 by_cases b:k=u.length+v.length-v.length
 ·rw[if_pos b,c]
  have:k=u.length:=by lia
  subst this
  simp
 ·rw[if_neg b]
  by_cases a:u.length+v.length-v.length<k/\k<=u.length+v.length
  ·rw[if_pos a,qr '!',q6 '!',qr '!',show k-u.length=(k-1-u.length)+1 by lia,kl,q6 '!']
  ·rw[if_neg a]
   rcases yl k u.length with q|q
   ·rw[q6 q,q6 q]
   ·rw[qr q,qr '!',qr q,show k-u.length=(k-u.length-1)+1 by lia,kl,qr '!',show k-u.length-1+1-v.length=(k-u.length-1-v.length)+1 by lia,kl]
section
variable {E:Value->Shared->Prop}{P:Shared->Prop}{κ:dj}{it:Nat->Keyed}{N:Nat}{R:Nat->Nat->Bool}
noncomputable def Arr(it:Nat->Keyed)(st st':xh)(ps:List Nat):Prop:=st'=sb (kindOf st) (ar it ps) (ll st) (gallopOf st) (Jx st)
theorem Arr.kind{st st':xh}{ps:List Nat}(h:Arr it st st' ps):kindOf st'=kindOf st:=by rw[h]
theorem Arr.arr{st st':xh}{ps:List Nat}(h:Arr it st st' ps):Wp st'=ar it ps:=by rw[h]
theorem Arr.set{st st':xh}{ps qs:List Nat}(h:Arr it st st' ps){a:Array Keyed}(e:a=ar it qs):Arr it st (setArr st' a) qs:=by rw[h,e];rfl
theorem rE(C:Cmp prog w A P κ it N R){st st':xh}{ps:List Nat}{x y:Nat}{Q:Option Bool->xh->Prop}(hk:kindOf st=κ)(ha:Arr it st st' ps)(hi:i<ps.length)(hj:j<ps.length)(ex:ps.getD i 0=x)(ey:ps.getD j 0=y)(hx:x<N)(hy:y<N)(h:Q (some (R x y)) st'):
  wpP w.12 A E P (ltAt' i j) Q st':=by
 rw[ltAt'_eq]
 refine bO (vN ?_)
 dsimp only
 rw[ha.arr]
 refine bO (aD1 hi (bO (aD1 hj ?_)))
 rw[ex,ey]
 exact p_lt C (ha.kind.trans hk) hx hy h
theorem aQU{st st':xh}{u v w':List Nat}{z src dst:Nat}{Q:Unit->xh->Prop}(ha:Arr it st st' (u++(v++(z::w'))))(hs:src=u.length+v.length)(hd:dst=u.length)(h:∀st2,Arr it st st2 (u++(z::(v++w')))->Q () st2):
  wpP w.12 A E P (moveDown' src dst) Q st':=by
 rw[moveDown'_eq]
 refine tX (h _ (ha.set ?_))
 rw[ha.arr]
 unfold ar
 rw[qi,qi,kj,qi,kj,qi]
 exact aCY (by simp[hs]) (by simp;lia)
theorem vP{st st':xh}{u v w':List Nat}{Q:Unit->xh->Prop}(ha:Arr it st st' (u++(v++w')))(hs:i=u.length)(hd:j=u.length+v.length)(h:∀st2,Arr it st st2 (u++(v.reverse++w'))->Q () st2):
  wpP w.12 A E P (reverseSlice' i j) Q st':=by
 rw[reverseSlice'_eq]
 refine tX (h _ (ha.set ?_))
 rw[ha.arr]
 unfold ar
 rw[qi,qi,qi,qi,List.map_reverse]
 exact aCO (by simp[hs]) (by simp[hd])
structure Rn(R:Nat->Nat->Bool)(lo:Nat)(g:List Nat):Prop where
 srt:g.Pairwise (T R)
 mem:∀x∈g,lo<=x/\x<lo+g.length
theorem Rn.ins(W:Wk R){g:List Nat}(h:Rn R lo g){c:Nat}(hc:c<=g.length)(hq:∀i,i<g.length->(T R (g.getD i 0) (lo+g.length)↔i<c)):Rn R lo (g.take c++((lo+g.length)::g.drop c)):=by
 have a1:∀x∈g.take c,T R x (lo+g.length):=λx a=>by
  obtain⟨j,e,b,rfl⟩:=aIA a
  exact (hq j b).mpr e
 have a2:∀x∈g.drop c,T R (lo+g.length) x:=λx a=>by
  obtain⟨j,e,b,rfl⟩:=aB3 a
  rcases T.tot (R:=R) (i:=lo+g.length) (j:=g.getD j 0) (by have:=(h.mem _ (gmem b)).2;lia) with q|q
  ·exact q
  ·exact absurd ((hq j b).mp q) '!'
 refine⟨vo.mpr ⟨h.srt.sublist (m4 _ _),jt.mpr ⟨a2,h.srt.sublist (J5 _ _)⟩,λx a y d => ?_⟩,λx a => ?_⟩
 ·rcases qp.mp d with rfl|d
  ·exact a1 x a
  ·exact (a1 x a).tr W (a2 y d)
 ·have hl:(g.take c++((lo+g.length)::g.drop c)).length=g.length+1:=by rw[qe,ja,vh,w4];lia
  rw[hl]
  have:x∈g\/x=lo+g.length:=by
   rcases jf.mp a with a|a
   ·exact .inl (Jc a)
   ·rcases qp.mp a with a|a
    ·exact .inr a
    ·exact .inl (Jd a)
  rcases this with q|q
  ·have:=h.mem x q;lia
  ·lia
theorem aKU(C:Cmp prog w A P κ it N R){st st':xh}{pre g:List Nat}(hk:kindOf st=κ)(hg:Rn R pre.length g)(h1:1<=g.length)(hn:g.length<=n)(hN:pre.length+n<=N)(ha:Arr it st st' (pre++(g++(qj (pre.length+g.length) (n-g.length)++post)))){Q:Bool->xh->Prop}(h:∀g' st2,Rn R pre.length g'->g'.length=n->Arr it st st2 (pre++(g'++post))->Q true st2):wpP w.12 A E P (binarySort' pre.length n g.length) Q st':=by
 have W:=C.wk
 rw[binarySort'_eq]
 refine bO (p_mono (l6 (I:=λk c st2=>c=(none,())/\∃g',Rn R pre.length g'/\g'.length=k/\k<=n/\Arr it st st2 (pre++(g'++(qj (pre.length+k) (n-k)++post))))
  (Q:=λc st2=>c=(none,())/\∃g',Rn R pre.length g'/\g'.length=n/\Arr it st st2 (pre++(g'++post))) ?_ ?_ ⟨rfl,g,hg,by lia,by lia,by rw[show max g.length 1=g.length by lia];exact ha⟩) ?_)
 rotate_left
 ·rintro c st2 ⟨rfl,g',b,hl,hle,a⟩
  refine⟨rfl,g',b,by lia,?_⟩
  rw[show n-max (max g.length 1) n=0 by lia] at a
  exact a
 ·rintro c st2 ⟨rfl,g',b,hl,a⟩
  exact b7 (h g' st2 b hl a)
 rintro k c st2 t J ⟨rfl,g',b,hl,hle,a⟩
 dsimp only
 subst hl
 obtain⟨c,s,f⟩:=aSQ (n:=g'.length) (q:=λi=>T R (g'.getD i 0) (pre.length+g'.length)) λi j a1 a2 D=>by
  rcases yl i j with z|z
  ·exact (aBS b.srt z a2).tr W D
  ·rwa [show i=j by lia]
 have F:qj (pre.length+g'.length) (n-g'.length)=(pre.length+g'.length)::qj (pre.length+(g'.length+1)) (n-(g'.length+1)):=by
  rw[show n-g'.length=(n-(g'.length+1))+1 by lia,ck];rfl
 rw[F] at a
 have hlen:(pre++(g'++((pre.length+g'.length)::qj (pre.length+(g'.length+1)) (n-(g'.length+1))++post))).length=pre.length+(n+post.length):=by
  simp;lia
 refine bO (p_mono (l6 (I:=λx r d=>∃l u,r=(none,l,u)/\d=st2/\l<=c/\c<=u/\u<=g'.length/\u<=l+(g'.length-x)) (Q:=λr d=>∃u,r=(none,c,u)/\d=st2) ?_ ?_ ⟨0,g'.length,rfl,rfl,by lia,s,by lia,by lia⟩) ?_)
 ·rintro x r d _ K ⟨l,u,rfl,rfl,a1,a2,B,v⟩
  dsimp only
  by_cases o:l≥u
  ·rw[if_pos o]
   have:l=c:=by lia
   subst this
   exact b7 ⟨u,rfl,rfl⟩
  ·rw[if_neg o]
   have hm:(l+u)/2<g'.length:=by lia
   have p:=b.mem _ (gmem hm)
   refine bO (rE C hk a (x:=pre.length+g'.length) (y:=g'.getD ((l+u)/2) 0) '!' '!' ?_ (kY hm rfl) '!' '!' ?_)
   ·rw[<- jd,zGd,qr (by rw[qe];lia),qe,cf]
    rfl
   dsimp only
   cases e:R (pre.length+g'.length) (g'.getD ((l+u)/2) 0) with
   |true =>
    rw[if_pos rfl]
    refine b7 ⟨_,_,rfl,rfl,a1,?_,by lia,by lia⟩
    rcases yl ((l+u)/2) c with z|z
    ·exact (((f _ hm).mpr z).asy W (T.yes p.2 e)).elim
    ·exact z
   |false =>
    rw[if_neg zBf]
    have:=(f _ hm).mp (T.no p.2 e)
    exact b7 ⟨_,_,rfl,rfl,by lia,a2,by lia,by lia⟩
 ·rintro r d ⟨l,u,rfl,rfl,a1,a2,B,v⟩
  have:l=c:=by lia
  subst this
  exact⟨u,rfl,rfl⟩
 rintro r d ⟨u,rfl,rfl⟩
 dsimp only
 have G:pre++(g'++((pre.length+g'.length)::qj (pre.length+(g'.length+1)) (n-(g'.length+1))++post))=(pre++g'.take c)++(g'.drop c++((pre.length+g'.length)::(qj (pre.length+(g'.length+1)) (n-(g'.length+1))++post))):=by
  rw[jd,<- jd (g'.take c),QS];rfl
 rw[G] at a
 refine bO (aQU a (by rw[qe,vh,w4];lia) (by rw[qe,vh];lia) λH m => ?_)
 refine b7 ⟨rfl,_,b.ins W s f,?_,by lia,?_⟩
 ·rw[qe,ja,vh,w4];lia
 ·simpa[jd] using m
end
end SO
namespace SO
open PySem PyProof.Rows
section
variable {E:Value->Shared->Prop}{P:Shared->Prop}{κ:dj}{it:Nat->Keyed}{N:Nat}{R:Nat->Nat->Bool}
theorem jC(h:i<n):(qj lo n).getD i 0=lo+i:=by
 rw[zGd,Jg '!'];simp
theorem aGP(lo n m:Nat):qj lo n++qj (lo+n) m=qj lo (n+m):=by
 rw[List.range'_append_1]
theorem fS(h:n<=nrem):qj lo nrem=qj lo n++qj (lo+n) (nrem-n):=by
 rw[aGP];congr 1;lia
theorem Rn.snoc(W:Wk R){g:List Nat}(h:Rn R lo g)(h1:0<g.length)(e:R (lo+g.length) (g.getD (g.length-1) 0)=false):Rn R lo (g++[lo+g.length]):=by
 have c:=h.mem _ (gmem (xs:=g) (i:=g.length-1) '!')
 have d:=T.no c.2 e
 refine⟨vo.mpr ⟨h.srt,v7 _ _,λx a y b => ?_⟩,λx a => ?_⟩
 ·rw[ql.mp b]
  exact aFQ W h.srt (qk _) d x (by rw[jb];exact a)
 ·rw[qe,za]
  rcases jf.mp a with a|a
  ·have:=h.mem x a;lia
  ·rw[ql.mp a];lia
theorem aF0(C:Cmp prog w A P κ it N R){st st':xh}{pre g:List Nat}(hk:kindOf st=κ)(hg:Rn R pre.length g)(h1:1<=g.length)(hn:g.length<=nrem)(hN:pre.length+nrem<=N)(ha:Arr it st st' (pre++(g++qj (pre.length+g.length) (nrem-g.length)))){f:Nat->AscSt->StateT xh Sem (ForInStep AscSt)}{Q:AscSt->xh->Prop}(hf:∀x n (Q':ForInStep AscSt->xh->Prop),wpP w.12 A E P (ltAt' (pre.length+n) (pre.length+n-1)) (λr st2=>∃b,r=some b/\(if b=true then Q' (.done (none,n)) st2 else Q' (.yield (none,n+1)) st2)) st'->wpP w.12 A E P (f x (none,n)) Q' st')(h:∀n,g.length<=n->n<=nrem->Rn R pre.length (g++qj (pre.length+g.length) (n-g.length))->(n=nrem\/R (pre.length+n) ((g++qj (pre.length+g.length) (n-g.length)).getD (n-1) 0)=true)->Q (none,n) st'):
  wpP w.12 A E P (forIn [g.length:nrem] (none,g.length) f) Q st':=by
 have W:=C.wk
 refine l6 (I:=λx c st2=>st2=st'/\c=(none,x)/\Rn R pre.length (g++qj (pre.length+g.length) (x-g.length))) ?_ ?_ ⟨rfl,rfl,by rw[cf];simpa using hg⟩
 ·rintro x c st2 l m ⟨rfl,rfl,a⟩
  have hlen:(g++qj (pre.length+g.length) (x-g.length)).length=x:=by simp;lia
  have j:pre++(g++qj (pre.length+g.length) (nrem-g.length))=pre++((g++qj (pre.length+g.length) (x-g.length))++qj (pre.length+x) (nrem-x)):=by
   rw[jd,fS (lo:=pre.length+g.length) (n:=x-g.length) (nrem:=nrem-g.length) '!']
   congr 3
   ·congr 1 <;> lia
  have d:=ha
  rw[j] at d
  have k:=a.mem _ (gmem (xs:=g++qj (pre.length+g.length) (x-g.length)) (i:=x-1) '!')
  rw[hlen] at k
  refine hf x x _ (rE C hk d (x:=pre.length+x) (y:=(g++qj (pre.length+g.length) (x-g.length)).getD (x-1) 0) ?_ ?_ ?_ (kY '!' '!') '!' '!' ⟨_,rfl,?_⟩)
  ·rw[qe,qe,hlen,kc];lia
  ·rw[qe,qe,hlen,kc];lia
  ·rw[<- jd,zGd,qr (by rw[qe,hlen];lia),qe,hlen,cf,Jg '!'];simp
  ·cases e:R (pre.length+x) ((g++qj (pre.length+g.length) (x-g.length)).getD (x-1) 0) with
   |true=>rw[if_pos rfl];exact h x '!' '!' a (.inr e)
   |false =>
    rw[if_neg zBf]
    refine⟨rfl,rfl,?_⟩
    have:=a.snoc W '!' (by rw[hlen];exact e)
    rw[hlen,jd] at this
    rw[show x+1-g.length=(x-g.length)+1 by lia,List.range'_concat]
    rw[show pre.length+g.length+1*(x-g.length)=pre.length+x by lia]
    exact this
 ·rintro c st2 ⟨rfl,rfl,a⟩
  rw[show max g.length nrem=nrem by lia] at a ⊢
  exact h nrem hn (qk _) a (.inl rfl)
structure Dn(R:Nat->Nat->Bool)(lo:Nat)(e:List Nat)(q:Nat):Prop where
 srt:e.Pairwise (λa b=>T R b a)
 mem:∀x∈e,lo<=x/\x<lo+e.length
 lt:∀j,j<=q->∀y∈e,R (lo+e.length+j) y=true
 eq:∀i j,i<=q->j<=q->R (lo+e.length+i) (lo+e.length+j)=false
theorem Dn.rev{q:Nat}{e:List Nat}(h:Dn R lo e q):Rn R lo (qj (lo+e.length) (q+1)++e.reverse):=by
 refine⟨vo.mpr ⟨?_,gv.mpr h.srt,λx a y b => ?_⟩,λx a => ?_⟩
 ·refine jj.mpr λi j g f c => ?_
  rw[kc] at g f
  rw[Jo,Jo]
  simp only[sd]
  exact T.no '!' (h.eq j i '!' '!')
 ·rw[x5] at a
  have d:=h.mem y (yz.mp b)
  obtain⟨j,rfl⟩:∃j,x=lo+e.length+j:=⟨x-(lo+e.length),by lia⟩
  exact T.yes '!' (h.lt j '!' y (yz.mp b))
 ·rw[qe,kc,cy]
  rcases jf.mp a with a|a
  ·rw[x5] at a;lia
  ·have:=h.mem x (yz.mp a);lia
theorem Dn.less(W:Wk R){q:Nat}{e:List Nat}(h:Dn R lo e q)(hz:R (lo+e.length+(q+1)) (lo+e.length+q)=true):Dn R lo (e++(qj (lo+e.length) (q+1)).reverse) 0:=by
 have hl:(e++(qj (lo+e.length) (q+1)).reverse).length=e.length+(q+1):=by simp
 have c:∀i,i<=q->R (lo+e.length+(q+1)) (lo+e.length+i)=true:=λi d=>by
  cases z:R (lo+e.length+(q+1)) (lo+e.length+i) with
  |true=>rfl
  |false=>rw[W.ntr _ _ _ z (h.eq i q d (qk _))] at hz;cases hz
 refine⟨?_,λx b => ?_,λj f y a => ?_,λi j d f => ?_⟩
 ·have:=gv.mpr h.rev.srt
  rwa [Jn,Ja] at this
 ·rw[hl]
  rcases jf.mp b with b|b
  ·have:=h.mem x b;lia
  ·rw[yz,x5] at b;lia
 ·rw[hl,show lo+(e.length+(q+1))+j=lo+e.length+(q+1) by lia]
  rcases jf.mp a with a|a
  ·cases z:R (lo+e.length+(q+1)) y with
   |true=>rfl
   |false =>
    have:=h.lt q (qk _) y a
    rw[W.ntr _ _ _ (W.asym _ _ hz) z] at this;cases this
  ·rw[yz,x5] at a
   have:=c (y-(lo+e.length)) '!'
   rwa [show lo+e.length+(y-(lo+e.length))=y by lia] at this
 ·rw[hl]
  have:i=j:=by lia
  subst this
  cases z:R (lo+(e.length+(q+1))+i) (lo+(e.length+(q+1))+i) with
  |false=>rfl
  |true=>exact absurd (W.asym _ _ z) (by rw[z];decide)
theorem Dn.like(W:Wk R){q:Nat}{e:List Nat}(h:Dn R lo e q)(h1:R (lo+e.length+(q+1)) (lo+e.length+q)=false)(h2:R (lo+e.length+q) (lo+e.length+(q+1))=false):Dn R lo e (q+1):=by
 refine⟨h.srt,h.mem,λj f y d => ?_,λi j g f => ?_⟩
 ·rcases yl q j with z|z
  ·rw[show j=q+1 by lia]
   cases e':R (lo+e.length+(q+1)) y with
   |true=>rfl
   |false =>
    have:=h.lt q (qk _) y d
    rw[W.ntr _ _ _ h2 e'] at this;cases this
  ·exact h.lt j z y d
 ·have irr:∀a,R a a=false:=λa=>by
   cases e':R a a with
   |false=>rfl
   |true=>exact absurd (W.asym _ _ e') (by rw[e'];decide)
  rcases yl q i with b|b <;> rcases yl q j with c|c
  ·rw[show i=j by lia];exact irr _
  ·rw[show i=q+1 by lia]
   exact W.ntr _ _ _ h1 (h.eq q j (qk _) c)
  ·rw[show j=q+1 by lia]
   exact W.ntr _ _ _ (h.eq i q b (qk _)) h2
  ·exact h.eq i j b c
theorem aRU{α:Type}{c:Prop}{dc:Decidable c}{X Z:StateT xh Sem α}{Q:α->xh->Prop}{st:xh}(H:xh->Prop)(k:∀st,H st->wpP w.12 A E P Z Q st)(h1:c->(∀st,H st->wpP w.12 A E P Z Q st)->wpP w.12 A E P X Q st)(h2:¬c->H st):wpP w.12 A E P (if c then X else Z) Q st:=by
 split
 ·rename_i z;exact h1 z k
 ·rename_i z;exact k st (h2 z)
theorem aP7(C:Cmp prog w A P κ it N R){st st':xh}{pre:List Nat}(hk:kindOf st=κ)(h1:1<=nrem)(hN:pre.length+nrem<=N)(ha:Arr it st st' (pre++qj pre.length nrem)){Q:Option Nat->xh->Prop}(h:∀g st2,Rn R pre.length g->1<=g.length->g.length<=nrem->Arr it st st2 (pre++(g++qj (pre.length+g.length) (nrem-g.length)))->Q (some g.length) st2):
  wpP w.12 A E P (countRun' pre.length nrem) Q st':=by
 have W:=C.wk
 rw[countRun'_eq]
 dsimp only
 have irr:∀a,R a a=false:=λa=>by
  cases e':R a a with
  |false=>rfl
  |true=>exact absurd (W.asym _ _ e') (by rw[e'];decide)
 have r1:Rn R pre.length [pre.length]:=⟨v7 _ _,λx F=>by rw[ql.mp F];simp⟩
 have aa:Arr it st st' (pre++([pre.length]++qj (pre.length+1) (nrem-1))):=by
  have:qj pre.length nrem=[pre.length]++qj (pre.length+1) (nrem-1):=by
   rw[show nrem=(nrem-1)+1 by lia,ck];rfl
  rw[<- this];exact ha
 have rg:∀n,1<=n->[pre.length]++qj (pre.length+1) (n-1)=qj pre.length n:=λn hn=>by
  rw[show n=(n-1)+1 by lia,ck];rfl
 refine bO (aF0 (g:=[pre.length]) C hk r1 (qk 1) h1 hN aa (λx n Q' Y => ?_) λn ae O H hl => ?_)
 ·dsimp only
  refine bO (p_mono Y λr st2 ⟨b,hb,d⟩ => ?_)
  subst hb
  dsimp only
  cases b with
  |true=>rw[if_pos rfl] at d ⊢;exact b7 d
  |false=>rw[if_neg zBf] at d ⊢;exact b7 d
 have J:1<=n:=ae
 change Rn R pre.length ([pre.length]++qj (pre.length+1) (n-1)) at H
 change n=nrem\/R (pre.length+n) (([pre.length]++qj (pre.length+1) (n-1)).getD (n-1) 0)=true at hl
 rw[rg n J] at H hl
 dsimp only
 have fin:Rn R pre.length (qj pre.length n)->Q (some n) st':=λH=>by
  have:=h _ st' H (by simpa using J) (by simpa using O) (by rw[kc,<- fS O];exact ha)
  rwa [kc] at this
 by_cases hz:n=nrem
 ·rw[if_pos (by rw[beq_iff_eq];exact hz)]
  exact b7 (fin H)
 rw[if_neg (by rw[beq_iff_eq];exact hz)]
 rw[jC '!'] at hl
 have M:R (pre.length+n) (pre.length+(n-1))=true:=hl.resolve_left hz
 apply aRU (λp=>∃S:List Nat,S.length=n/\Dn R pre.length S 0/\Arr it st p (pre++(S++qj (pre.length+S.length) (nrem-S.length))))
 rotate_left
 ·intro V KK
  refine bO (rE C hk ha (x:=pre.length) (y:=pre.length+(n-1)) (by simp;lia) (by simp;lia) ?_ ?_ '!' '!' ?_)
  ·have o:=kY (u:=pre) (v:=qj pre.length nrem) (w:=[]) (i:=pre.length) (j:=0) (by rw[kc];lia) rfl
   rw[wg] at o
   rw[o,jC '!'];rfl
  ·have o:=kY (u:=pre) (v:=qj pre.length nrem) (w:=[]) (i:=pre.length+n-1) (j:=n-1) (by rw[kc];lia) '!'
   rw[wg] at o
   rw[o,jC '!']
  dsimp only
  cases z0:R pre.length (pre.length+(n-1)) with
  |true =>
   rw[if_pos rfl]
   exact b7 (fin H)
  |false =>
   rw[if_neg zBf]
   have ad:Arr it st st' (pre++(qj pre.length n++qj (pre.length+n) (nrem-n))):=by rw[<- fS O];exact ha
   refine bO (vP ad rfl (by rw[kc]) λp a1 => ?_)
   have fwd:∀i j,i<j->j<n->R (pre.length+j) (pre.length+i)=false:=λi j ab L=>by
    have:=aBS H.srt ab (by rw[kc];exact L)
    rw[jC '!',jC L] at this
    exact T.fwd '!' this
   have up:∀i,i<n->R (pre.length+i) (pre.length+(n-1))=false:=λi hi=>by
    rcases z8 i with z|z
    ·subst z;exact z0
    ·exact W.ntr _ _ _ (fwd 0 i z hi) z0
   have hle:(qj pre.length n).reverse.length=n:=by simp
   have d0:Dn R pre.length (qj pre.length n).reverse 0:=by
    refine⟨gv.mpr H.srt,λx F => ?_,λj L y hy => ?_,λi j hi L => ?_⟩
    ·rw[hle];rw[yz,x5] at F;lia
    ·rw[hle,show pre.length+n+j=pre.length+n by lia]
     rw[yz,x5] at hy
     cases z:R (pre.length+n) y with
     |true=>rfl
     |false =>
      have:=up (y-pre.length) '!'
      rw[show pre.length+(y-pre.length)=y by lia] at this
      rw[W.ntr _ _ _ z this] at M;cases M
    ·rw[show i=j by lia];exact irr _
   have Z:Arr it st p (pre++((qj pre.length n).reverse++qj (pre.length+(qj pre.length n).reverse.length) (nrem-(qj pre.length n).reverse.length))):=by rw[hle];exact a1
   exact KK p ⟨_,hle,d0,Z⟩
 ·intro V
  have K:n=1:=by lia
  subst K
  have d0:Dn R pre.length [pre.length] 0:=by
   refine⟨v7 _ _,λx F=>by rw[ql.mp F];simp,λj L y hy => ?_,λi j hi L => ?_⟩
   ·rw[ql.mp hy,show j=0 by lia];exact M
   ·rw[show i=j by lia];exact irr _
  have Z:Arr it st st' (pre++([pre.length]++qj (pre.length+[pre.length].length) (nrem-[pre.length].length))):=aa
  have hle:[pre.length].length=1:=rfl
  exact⟨_,hle,d0,Z⟩
 rintro p ⟨S,hle,d0,Z⟩
 refine bO (aIR ?_)
 refine bO (p_mono (l6 (I:=λx c st2=>∃e q,c=(none,x,q)/\x=e.length+q+1/\Dn R pre.length e q/\Arr it st st2 (pre++(e++qj (pre.length+e.length) (nrem-e.length))))
  (Q:=λc st2=>∃e q m,c=(none,m,q)/\m=e.length+q+1/\m<=nrem/\Dn R pre.length e q/\Arr it st st2 (pre++(e++qj (pre.length+e.length) (nrem-e.length)))) ?_ ?_ ⟨S,0,rfl,by lia,d0,Z⟩) ?_)
 ·rintro x c st2 ah af ⟨e,q,rfl,F,hd,hA⟩
  dsimp only
  have ai:(pre++(e++qj (pre.length+e.length) (nrem-e.length))).length=pre.length+nrem:=by simp;lia
  have gt:∀j,e.length+j<nrem->(pre++(e++qj (pre.length+e.length) (nrem-e.length))).getD (pre.length+e.length+j) 0=pre.length+e.length+j:=λj L=>by
   have o:=kY (u:=pre++e) (v:=qj (pre.length+e.length) (nrem-e.length)) (w:=[]) (i:=pre.length+e.length+j) (j:=j) (by rw[kc];lia) (by rw[qe])
   rw[wg,jd] at o
   rw[o,jC '!']
  have p1:pre.length+x=pre.length+e.length+(q+1):=by lia
  have p2:pre.length+x-1=pre.length+e.length+q:=by lia
  rw[p2,p1]
  refine bO (rE C hk hA (x:=pre.length+e.length+(q+1)) (y:=pre.length+e.length+q) '!' '!' (gt _ '!') (gt _ '!') '!' '!' ?_)
  dsimp only
  have B:Arr it st st2 ((pre++e)++(qj (pre.length+e.length) (q+1)++qj (pre.length+x) (nrem-x))):=by
   have o:=fS (lo:=pre.length+e.length) (n:=q+1) (nrem:=nrem-e.length) '!'
   rw[show pre.length+e.length+(q+1)=pre.length+x by lia,show nrem-e.length-(q+1)=nrem-x by lia] at o
   rw[<- o,jd];exact hA
  have hl3:(e++(qj (pre.length+e.length) (q+1)).reverse).length=x:=by simp;lia
  have nx:∀k,Arr it st k ((pre++e)++((qj (pre.length+e.length) (q+1)).reverse++qj (pre.length+x) (nrem-x)))->Arr it st k (pre++((e++(qj (pre.length+e.length) (q+1)).reverse)++qj (pre.length+(e++(qj (pre.length+e.length) (q+1)).reverse).length) (nrem-(e++(qj (pre.length+e.length) (q+1)).reverse).length))):=λk z=>by
   rw[hl3];simpa only[jd] using z
  cases z1:R (pre.length+e.length+(q+1)) (pre.length+e.length+q) with
  |true =>
   rw[if_pos rfl]
   have hd2:=hd.less W z1
   by_cases s:q>0
   ·rw[if_pos s]
    refine bO (vP B (by rw[qe];lia) (by rw[qe,kc]) λk X => ?_)
    exact b7 ⟨_,0,rfl,by rw[hl3],hd2,nx k X⟩
   ·rw[if_neg s]
    have:q=0:=by lia
    subst this
    exact b7 ⟨_,0,rfl,by rw[hl3],hd2,nx st2 (by simpa using B)⟩
  |false =>
   rw[if_neg zBf]
   refine bO (rE C hk hA (x:=pre.length+e.length+q) (y:=pre.length+e.length+(q+1)) '!' '!' (gt _ '!') (gt _ '!') '!' '!' ?_)
   dsimp only
   cases z2:R (pre.length+e.length+q) (pre.length+e.length+(q+1)) with
   |true =>
    rw[if_pos rfl]
    exact b7 ⟨e,q,x,rfl,F,by lia,hd,hA⟩
   |false =>
    rw[if_neg zBf]
    exact b7 ⟨e,q+1,rfl,by lia,hd.like W z1 z2,hA⟩
 ·rintro c st2 ⟨e,q,rfl,F,hd,hA⟩
  exact⟨e,q,_,rfl,F,by lia,hd,hA⟩
 rintro c st2 ⟨e,q,m,rfl,hm,ag,hd,hA⟩
 dsimp only
 have B:Arr it st st2 ((pre++e)++(qj (pre.length+e.length) (q+1)++qj (pre.length+m) (nrem-m))):=by
  have o:=fS (lo:=pre.length+e.length) (n:=q+1) (nrem:=nrem-e.length) '!'
  rw[show pre.length+e.length+(q+1)=pre.length+m by lia,show nrem-e.length-(q+1)=nrem-m by lia] at o
  rw[<- o,jd];exact hA
 have RR:=hd.rev
 have t:(qj (pre.length+e.length) (q+1)++e.reverse).length=m:=by simp;lia
 have nx:∀k,Arr it st k (pre++((e++(qj (pre.length+e.length) (q+1)).reverse).reverse++qj (pre.length+m) (nrem-m)))->Arr it st k (pre++((qj (pre.length+e.length) (q+1)++e.reverse)++qj (pre.length+(qj (pre.length+e.length) (q+1)++e.reverse).length) (nrem-(qj (pre.length+e.length) (q+1)++e.reverse).length))):=λk z=>by
  rw[t];rwa [Jn,Ja] at z
 by_cases s:q>0
 ·rw[if_pos s]
  refine bO (vP B (by rw[qe];lia) (by rw[qe,kc];lia) λk X => ?_)
  rw[jd,<- jd e] at X
  refine bO (vP X rfl (by simp;lia) λD h4 => ?_)
  have AA:=nx D h4
  generalize qj (pre.length+e.length) (q+1)++e.reverse=G at RR AA t
  rw[<- t]
  refine bO (aF0 C hk RR '!' '!' hN AA (λx n Q' Y => ?_) λl V K U _ => ?_)
  ·dsimp only
   refine bO (p_mono Y λr st2 ⟨b,hb,d⟩ => ?_)
   subst hb
   dsimp only
   cases b with
   |true=>rw[if_pos rfl] at d ⊢;exact b7 d
   |false=>rw[if_neg zBf] at d ⊢;exact b7 d
  dsimp only
  refine b7 ?_
  have f:(G++qj (pre.length+G.length) (l-G.length)).length=l:=by rw[qe,kc];lia
  have:=h _ D U '!' '!' (by
   rw[f,jd]
   have e:=fS (lo:=pre.length+G.length) (n:=l-G.length) (nrem:=nrem-G.length) '!'
   rw[show pre.length+G.length+(l-G.length)=pre.length+l by lia,show nrem-G.length-(l-G.length)=nrem-l by lia] at e
   rw[<- e];exact AA)
  rwa [f] at this
 ·rw[if_neg s]
  have ac:q=0:=by lia
  subst ac
  have X:Arr it st st2 (pre++((e++(qj (pre.length+e.length) (0+1)).reverse)++qj (pre.length+m) (nrem-m))):=by simpa using B
  refine bO (vP X rfl (by simp;lia) λD h4 => ?_)
  have AA:=nx D h4
  generalize qj (pre.length+e.length) (0+1)++e.reverse=G at RR AA t
  rw[<- t]
  refine bO (aF0 C hk RR '!' '!' hN AA (λx n Q' Y => ?_) λl V K U _ => ?_)
  ·dsimp only
   refine bO (p_mono Y λr st2 ⟨b,hb,d⟩ => ?_)
   subst hb
   dsimp only
   cases b with
   |true=>rw[if_pos rfl] at d ⊢;exact b7 d
   |false=>rw[if_neg zBf] at d ⊢;exact b7 d
  dsimp only
  refine b7 ?_
  have f:(G++qj (pre.length+G.length) (l-G.length)).length=l:=by rw[qe,kc];lia
  have:=h _ D U '!' '!' (by
   rw[f,jd]
   have e:=fS (lo:=pre.length+G.length) (n:=l-G.length) (nrem:=nrem-G.length) '!'
   rw[show pre.length+G.length+(l-G.length)=pre.length+l by lia,show nrem-G.length-(l-G.length)=nrem-l by lia] at e
   rw[<- e];exact AA)
  rwa [f] at this
end
end SO
namespace SO
open PySem PyProof.Rows
noncomputable def starts:Nat->List (List Nat)->List (Nat×Nat)
 |_,[]=>[]
 |o,g::gs=>(o,g.length)::starts (o+g.length) gs
noncomputable def Rns(R:Nat->Nat->Bool):Nat->List (List Nat)->Prop
 |_,[]=>True
 |o,g::gs=>Rn R o g/\0<g.length/\Rns R (o+g.length) gs
theorem starts_app:∀(o:Nat) (l r:List (List Nat)),starts o (l++r)=starts o l++starts (o+l.flatten.length) r
 |o,[],r=>by simp[starts]
 |o,g::l,r=>by
  rw[zl]
  show (o,g.length)::starts (o+g.length) (l++r)=(o,g.length)::starts (o+g.length) l++_
  rw[starts_app (o+g.length) l r,xf,qe,Ve];rfl
theorem aDA{R:Nat->Nat->Bool}:∀(o:Nat) (l r:List (List Nat)),Rns R o (l++r)↔Rns R o l/\Rns R (o+l.flatten.length) r
 |o,[],r=>by simp[Rns]
 |o,g::l,r=>by
  rw[zl]
  show (_/\_/\Rns R (o+g.length) (l++r))↔(_/\_/\_)/\_
  rw[aDA (o+g.length) l r,xf,qe,Ve,and_assoc,and_assoc]
theorem lF:∀(o:Nat) (l:List (List Nat)),(starts o l).length=l.length
 |_,[]=>rfl
 |o,g::l=>by show (starts (o+g.length) l).length+1=_;rw[lF];rfl
theorem Rns.mem{R:Nat->Nat->Bool}:∀{o:Nat}{l:List (List Nat)},Rns R o l->∀x∈l.flatten,o<=x/\x<o+l.flatten.length
 |_,[],_,x,a=>by simp at a
 |o,g::l,h,x,a=>by
  rw[xf] at a ⊢
  rw[qe]
  rcases jf.mp a with a|a
  ·have:=h.1.mem x a;lia
  ·have:=h.2.2.mem x a;lia
section
variable {E:Value->Shared->Prop}{P:Shared->Prop}{κ:dj}{it:Nat->Keyed}{N:Nat}{R:Nat->Nat->Bool}
structure So(κ:dj)(it:Nat->Keyed)(N:Nat)(R:Nat->Nat->Bool)(st:xh)(segs:List (List Nat))(post:List Nat):Prop where
 arr:Wp st=ar it (segs.flatten++post)
 kind:kindOf st=κ
 fail:Jx st=none
 pend:(ll st).toList.map (λp=>(p.1,p.2.1))=starts 0 segs
 rns:Rns R 0 segs
 ps:∀x∈post,x<N
 le:segs.flatten.length<=N
theorem So.psz{st:xh}(h:So κ it N R st segs post):(ll st).size=segs.length:=by
 have:=congrArg ra h.pend
 rwa [zLm,lF,qt] at this
theorem aC3(segs:List (List Nat))(g:List Nat):starts 0 (segs++[g])=starts 0 segs++[(segs.flatten.length,g.length)]:=by
 rw[starts_app,VC];rfl
theorem So.push{st:xh}{G:List Nat}(S:So κ it N R st segs (G++post))(hg:Rn R segs.flatten.length G)(h1:0<G.length)(hl:segs.flatten.length+G.length<=N):So κ it N R (setPending st ((ll st).push (segs.flatten.length,G.length,0))) (segs++[G]) post:=by
 refine⟨?_,S.kind,S.fail,?_,?_,λx a=>S.ps x (kq _ a),by rw[List.flatten_append,qe];simpa using hl⟩
 ·show Wp st=_
  rw[S.arr];simp
 ·show ((ll st).push _).toList.map _=_
  rw[JL,qi,S.pend,aC3];rfl
 ·refine (aDA 0 segs _).mpr ⟨S.rns,?_⟩
  rw[VC]
  exact⟨hg,h1,trivial⟩
theorem So.arrs{st st':xh}{qs:List Nat}(S:So κ it N R st segs post)(h:Arr it st st' (segs.flatten++qs))(hq:∀x∈qs,x<N):So κ it N R st' segs qs:=
 ⟨h.arr,h.kind.trans S.kind,by rw[h];exact S.fail,by rw[h];exact S.pend,S.rns,hq,S.le⟩
theorem aS6{α:Type}{c:Prop}{dc:Decidable c}(n:Nat){Y:Nat->StateT xh Sem α}{X:StateT xh Sem α}{Q:α->xh->Prop}{st:xh}(H:xh->Nat->Prop)(k:∀st n,H st n->wpP w.12 A E P (Y n) Q st)(h1:c->(∀st n,H st n->wpP w.12 A E P (Y n) Q st)->wpP w.12 A E P X Q st)(h2:¬c->H st n):wpP w.12 A E P (if c then X else Y n) Q st:=by
 split
 ·rename_i z;exact h1 z k
 ·rename_i z;exact k st n (h2 z)
end
end SO
namespace SO
open PySem PyProof.Rows PySem.W
section
variable {E:Value->Shared->Prop}
noncomputable def itK(ks vs:List Value)(i:Nat):Keyed:=(ks.getD i j0,vs.getD i j0)
theorem aGS{ks vs:List Value}(h:ks.length=vs.length):ks.toArray.zip vs.toArray=ar (itK ks vs) (q7 vs.length):=by
 apply Ka.mp
 unfold ar itK
 rw[Array.toList_zip]
 show ks.zip vs=(q7 vs.length).map _
 apply v3
 intro i
 rw[qg]
 by_cases a:i<vs.length
 ·have b:i<ks.length:=by omega
  rw[xg a,zGe (by rw[KC];omega),List.getElem_zip]
  simp[a,b]
 ·rw[qw (by rw[KC];omega),qw (by rw[j3];omega)];rfl
theorem aHU{ks vs:List Value}(ps:List Nat):(ar (itK ks vs) ps).map (·.2)=(ps.map λi=>vs.getD i j0).toArray:=by
 unfold ar itK
 simp
end
end SO
namespace SO
open PySem PyProof.Rows PySem.W L2
theorem p3:∀(n:Nat) (ps:List Nat),ps.Nodup->(∀x∈ps,x<n)->ps.length<=n
 |0,ps,_,h=>by
  cases ps with
  |nil=>exact qk _
  |cons a r=>exact absurd (h a (.head _)) '!'
 |n+1,ps,nd,h=>by
  by_cases c:n∈ps
  ·have e:=(hU c).length_eq
   have:=p3 n (ps.erase n) (nd.erase n) λx b=>by
    have d:=(nq nd).mp b
    have:=h x d.2
    lia
   rw[ja] at e
   lia
  ·exact Nat.le_succ_of_le (p3 n ps nd λx b=>by
    have:=h x b
    have:x≠n:=λe=>c (e▸b)
    lia)
theorem u9:∀(n:Nat) (ps:List Nat),ps.Nodup->(∀x∈ps,x<n)->ps.length=n->ps.Perm (q7 n)
 |0,ps,_,_,h=>by rw[v8.mp h];exact .nil
 |n+1,ps,nd,h,hl=>by
  have b:n∈ps:=by
   apply qz
   intro b
   have:=p3 n ps nd λx a=>by
    have:=h x a
    have:x≠n:=λe=>b (e▸a)
    lia
   lia
  have e:=hU b
  refine e.trans ?_
  rw[x8]
  refine List.Perm.trans ?_ (QT (l₁:=[n]))
  refine .cons n (u9 n (ps.erase n) (nd.erase n) (λx a => ?_) ?_)
  ·have c:=(nq nd).mp a
   have:=h x c.2
   lia
  ·have:=e.length_eq
   rw[ja] at this
   lia
theorem aOL{R:Nat->Nat->Bool}{ps:List Nat}(h:ps.Pairwise (T R)):ps.Nodup:=h.imp λt=>t.ne
theorem map_range{α:Type}(d:α):∀(l:List α),(q7 l.length).map (λi=>l.getD i d)=l:=λl=>by
 apply v3
 intro i
 rw[qg]
 by_cases h:i<l.length
 ·rw[xg h];simp[h]
 ·rw[qw (by rw[j3];lia),qw '!'];rfl
theorem tS:∀x y:List Int,HT.lexLt x y=true->HT.lexLt y x=false
 |[],[],h=>rfl
 |[],_::_,_=>rfl
 |_::_,[],h=>by rw[HT.xI] at h;cases h
 |a::x,b::y,h=>by
  rw[HT.jF] at h ⊢
  by_cases e:a=b
  ·rw[if_pos e] at h;rw[if_pos e.symm];exact tS x y h
  ·rw[if_neg e] at h;rw[if_neg (cb e)]
   have:=of_decide_eq_true h
   exact decide_eq_false '!'
theorem aD0:∀x y z:List Int,HT.lexLt x y=false->HT.lexLt y z=false->HT.lexLt x z=false
 |[],[],z,_,h=>h
 |[],_::_,_,h,_=>by rw[HT.oY] at h;cases h
 |_::_,y,[],_,_=>rfl
 |_::_,[],_::_,_,h=>by rw[HT.oY] at h;cases h
 |a::x,b::y,c::z,h,g=>by
  rw[HT.jF] at h g ⊢
  by_cases e:a=b
  ·subst e
   rw[if_pos rfl] at h
   by_cases d:a=c
   ·rw[if_pos d] at g ⊢;exact aD0 x y z h g
   ·rw[if_neg d] at g ⊢;exact g
  ·rw[if_neg e] at h
   have i:=of_decide_eq_false h
   by_cases d:b=c
   ·subst d
    rw[if_neg e];exact h
   ·rw[if_neg d] at g
    have f:=of_decide_eq_false g
    rw[if_neg '!']
    exact decide_eq_false '!'
theorem aS3(f:Nat->List Int):Wk λi j=>HT.lexLt (f i) (f j):=⟨λi j=>tS _ _,λi j k=>aD0 _ _ _⟩
section
variable {E:Value->Shared->Prop}
theorem aAK{Q:Bool->Shared->Prop}(n m:Nat):∀{xs ys:List Value}{ns ms:List Int} (i:Nat),IntsAre xs ns->IntsAre ys ms->xs.length+m=ys.length+n->Q (HT.lexLt ns ms) s->KatLex prog w A true (decide (n<m)) Q (xs.zip ys) i s
 |[],[],ns,ms,i,h1,h2,hl,hq=>by
  cases h1;cases h2
  have e:decide (n<m)=false:=decide_eq_false (by simp at hl;lia)
  rw[e];exact hq
 |[],y::ys,ns,ms,i,h1,h2,hl,hq=>by
  cases h1;cases h2
  have e:decide (n<m)=true:=decide_eq_true (by simp at hl;lia)
  rw[e];exact hq
 |x::xs,[],ns,ms,i,h1,h2,hl,hq=>by
  cases h1;cases h2
  have e:decide (n<m)=false:=decide_eq_false (by simp at hl;lia)
  rw[e];exact hq
 |x::xs,y::ys,ns,ms,i,h1,h2,hl,hq=>by
  cases h1 with
  |cons a t h1 =>
   cases h2 with
   |cons b u h2 =>
    rw[HT.jF] at hq
    show KatLex prog w A true _ Q ((gk a t,gk b u)::xs.zip ys) i s
    refine kat_cons (Vx ?_)
    by_cases e:a=b
    ·rw[if_pos e] at hq
     have:(a==b)=true:=by rw[beq_iff_eq];exact e
     rw[this]
     exact kat_yes (aAK n m (i+1) h1 h2 (by simp at hl;lia) hq)
    ·rw[if_neg e] at hq
     have:(a==b)=false:=by rw[beq_eq_false_iff_ne];exact e
     rw[this]
     refine kat_no ?_
     cases hi:(true&&i==0) with
     |true=>exact oneLt_int hq
     |false =>
      refine kat_one _ _ ?_
      exact Wg hq
noncomputable def aKG(h:Heap)(v:Value)(ns:List Int):Prop:=∃a its,v = .ref a/\IsTup h a its/\IntsAre its.toList ns
theorem xT:∀(vs:List Value) (ts:List (List Int)),vs.length=ts.length->(∀i,i<vs.length->aKG h (vs.getD i j0) (ts.getD i []))->(∀t∈ts,t≠[])->∃fs:List Value,KatTups h vs fs/\fs.length=vs.length/\∀f∈fs,∃n t,f = .int n t
 |[],_,_,_,_=>⟨[],KatTups.nil,rfl,λf hf=>by simp at hf⟩
 |v::vs,[],hl,_,_=>by simp at hl
 |v::vs,t::ts,hl,d,hne=>by
  obtain⟨fs,p,s,k⟩:=xT vs ts (by simpa using hl) (λi u=>by simpa using d (i+1) (by simpa using u)) λt d=>hne t (jg _ d)
  obtain⟨a,c,e,⟨o,l,g,n,r⟩,q⟩:=d 0 '%'
  have j:v = .ref a:=by simpa using e
  subst j
  have b:IntsAre c.toList t:=by simpa using q
  cases t with
  |nil=>exact absurd rfl (hne [] (jm ..))
  |cons m t =>
   cases hx:c.toList with
   |nil=>rw[hx] at b;cases b
   |cons x xs =>
    rw[hx] at b
    cases b with
    |cons _ tk _ =>
     refine⟨.int m tk::fs,KatTups.cons l g r ?_ p,by simp[s],λf hf => ?_⟩
     ·rw[<- wj,hx];rfl
     ·rcases qp.mp hf with rfl|hf
      ·exact⟨_,_,rfl⟩
      ·exact k f hf
end
end SO
namespace Z
open PySem L2 SO
noncomputable def tI(t:List Int):D := .tup (t.map .int)
noncomputable def qO(a:Addr):V := .ref a
section
theorem nR:∀{as:List Addr}{us:List Value},Vals (as.map qO) us->us=as.map jw
 |[],_,h=>by cases h;rfl
 |a::as,_,h=>by
  cases h with
  |cons r t=>rw[nR t];cases r;rfl
theorem yB{K:Fg}:∀{ts:List (List Int)}{vs:List V},Dens K G (ts.map tI) vs->∃as:List Addr,vs=as.map qO/\as.length=ts.length/\∀i,i<as.length->SqT K G (as.getD i 0) ((ts.getD i []).map V.int)
 |[],_,h=>by rw[cK h];exact⟨[],rfl,rfl,λi b=>by simp at b⟩
 |t::ts,_,h=>by
  obtain⟨v,r,rfl,e,c⟩:=bX h
  obtain⟨as,rfl,hl,d⟩:=yB c
  obtain⟨a,ws,rfl,q,dn⟩:=Den.tup_ (ds:=t.map .int) e
  rw[qS dn] at q
  refine⟨a::as,rfl,by simp[hl],λi b => ?_⟩
  cases i with
  |zero=>simpa using q
  |succ i=>simpa using d i (by simpa using b)
end
end Z
namespace U
open PySem
abbrev UpI(xs:List Int):Prop:=xs.Pairwise (· < ·)
structure Si where
 f:Nat
 l:Int
 b:Int
 e:Int
noncomputable def lsI(xs ys:List Int)(f:Nat):List Int:=if f%2=0 then xs else ys
noncomputable def alI(xs ys:List Int)(f:Nat):List Int:=if f%2=0 then ys else xs
noncomputable def mkI(xs ys:List Int)(f p a c:Nat):Si:=⟨f,(lsI xs ys f).getD p 0,(alI xs ys f).getD a 0,(alI xs ys f).getD c 0⟩
noncomputable def cuP(xs ys:List Int)(zs:List Str)(f n p:Nat):List Si:=((q7 n).filter (R.edge zs f p)).map λa=>mkI xs ys f p a (a+1)
noncomputable def cuF(xs ys:List Int)(zs:List Str)(f n m:Nat):List Si:=(q7 m).flatMap (cuP xs ys zs f n)
noncomputable def cuN(xs ys:List Int)(zs:List Str)(k:Nat):List Si:=(q7 k).flatMap λf=>cuF xs ys zs f (R.Nf xs.length ys.length f) (R.Lf xs.length ys.length f)
theorem aAJ{ws:List Int}(u:UpI ws)(hj:j<ws.length)(h:i<j):ws.getD i 0<ws.getD j 0:=by
 have:=jj.mp u i j '!' hj h
 simpa[hj,show i<ws.length by lia] using this
theorem aC6{ws:List Int}(u:UpI ws)(hi:i<ws.length)(hj:j<ws.length)(h:ws.getD i 0=ws.getD j 0):i=j:=by
 rcases yq i j with q|q|q
 ·have:=aAJ u hj q;lia
 ·exact q
 ·have:=aAJ u hi q;lia
section
theorem aSY(ux:UpI xs)(uy:UpI ys)(f:Nat):UpI (lsI xs ys f):=by unfold lsI;split;exact ux;exact uy
theorem aG8(ux:UpI xs)(uy:UpI ys)(f:Nat):UpI (alI xs ys f):=by unfold alI;split;exact uy;exact ux
theorem aNW(f:Nat):(lsI xs ys f).length=R.Lf xs.length ys.length f:=by unfold lsI R.Lf;split <;> rfl
theorem aDE(f:Nat):(alI xs ys f).length-1=R.Nf xs.length ys.length f:=by unfold alI R.Nf;split <;> rfl
noncomputable def opn(xs ys:List Int)(f p n:Nat):Option Nat->List Si
 |some b=>[mkI xs ys f p b n]
 |none=>[]
theorem wE{u:Si}:u∈cuN xs ys zs 4↔∃f p a,R.gB zs xs.length ys.length f p a/\u=mkI xs ys f p a (a+1):=by
 unfold cuN cuF cuP R.gB
 simp only[yi,vb,qo,wy]
 constructor
 ·rintro⟨f,hf,p,b,a,⟨c,he⟩,rfl⟩;exact⟨f,p,a,⟨hf,b,c,he⟩,rfl⟩
 ·rintro⟨f,p,a,⟨hf,b,c,he⟩,rfl⟩;exact⟨f,hf,p,b,a,⟨c,he⟩,rfl⟩
end
end U
namespace Q
open PySem L2 Z U
noncomputable def aUW:Ct:=λds M k=>∃t b:Int,ds=[.int t, .int b]/\0<b/\b<10^300/\k (pairD (lowG t b)) M
open Classical in
noncomputable def reps(H:Rat):Nat:=if H=0 then 2 else 0
theorem Env.sx{A:Yd}{e n w s:Int}{x:Rat}{M:Nat}(h:Env A e n w s x y M):Sz 60 x/\Sz 60 y:=⟨.ofFr h.nm h.fx, .ofFr h.nm h.fy⟩
theorem Env.high{A:Yd}{e n w s:Int}{x:Rat}{M:Nat}(h:Env A e n w s x y M):Sz 61 (c0 A e n w s x y) := .ofDn h.nm (aHE h.nm h.ax h.ay h.fx h.fy h.o)
theorem tE{A:Yd}(lx:A.ws.length<=7)(ly:A.us.length<=7):(gZ A).length<=60000:=by
 have:=pY (zs:=A.K) (xs:=a6 A.ws) (ys:=a6 A.us) (by rw[cF];lia) (by rw[cF];lia) 4
 rw[aDZ,zLm] at this
 lia
theorem aGJ(A:Yd)(x y:Rat):f8 A x y=true↔jR (b6 A.K (aW A.ws x) (aW A.us y))=("in" : Str):=by
 rw[<- aJE];exact decide_eq_true_iff
theorem o6{A:Yd}{p q r s x:Rat}{d:R.Qd}:Tch A p q r s x y t d↔kH A d=(axF A p q r s x y d.f).at (rA d.f) t/\¬t9 A d<(axF A p q r s x y d.f).y-(axF A p q r s x y d.f).da*t/\¬(axF A p q r s x y d.f).y+(axF A p q r s x y d.f).ua*t<wW A d:=by
 have e:=aRY A p q r s x y d.f
 unfold kH wW t9
 rw[<- e.1,<- e.2,zi,zi]
 exact⟨λh=>⟨h.line,h.lo,h.hi⟩,λh=>⟨h.1,h.2.1,h.2.2⟩⟩
theorem Env.edges{A:Yd}{e n w s:Int}{x:Rat}{N:Nat}(h:Env A e n w s x y N)(ht:Sz 62 t)(f:Nat):Bq ((axF A e n w s x y f).y-(axF A e n w s x y f).da*t)/\Bq ((axF A e n w s x y f).y+(axF A e n w s x y f).ua*t):=by
 obtain⟨sx,a⟩:=h.sx
 unfold axF
 split
 ·exact⟨(a.sub (ht.mulI h.o.q)).bq '#',(a.add (ht.mulI h.o.s)).bq '#'⟩
 ·exact⟨(sx.sub (ht.mulI h.o.p)).bq '#',(sx.add (ht.mulI h.o.r)).bq '#'⟩
theorem nG{α:Type}{l:List α}{x:α}(p:α->Bool)(h:l[i]?=some x):(l.take (i+1)).filter p=(l.take i).filter p++if p x=true then [x] else []:=by
 rw[J0,h,dt]
 congr 1
 show List.filter p [x]=_
 by_cases q:p x=true
 ·rw[if_pos q,vf q];rfl
 ·rw[if_neg q,wa q];rfl
theorem b0:Bq 0:=⟨by decide +kernel,by decide +kernel⟩
theorem mV(l:List FrT):okD 3 (.lst (l.map eQ))=true:=oM λd hd=>by obtain⟨q,_,rfl⟩:=qo.mp hd;rfl
end Q
namespace L2
open PySem PySem.Spec PyProof.Rows
section
end
end L2
namespace Z
open PySem L2
section
variable {E:XK}{kx:Addr->Mem->Prop}{F:Fin}
end
section
variable {K:Fg}
end
section
variable {F:Fin}
end
section
variable {p1:Pos}
inductive Cls(X:Cx):List Expr->List Addr->Prop
 |nil:Cls X [] []
 |cons {C:Str}{c:Addr}{p:Pos}{es:List Expr}{cs:List Addr} (hmC:X.mg C=some (.ref c)) (r:Cls X es cs) (hgC:Gl X C:=by rfl) (hdb:(C==("__debug__" : Str))=false:=by decide) (hs:jk (.Name C p::es) X.env=(false,eval (.Name C p) X.env)::jk es X.env:=by rfl):Cls X (.Name C p::es) (c::cs)
end
end Z
namespace U
open PySem
noncomputable def clo(ws us:List Rat)(zs:List Str)(x y:Rat):Prop:=∃i j:Nat,i+1<ws.length/\j+1<us.length/\R.aJ zs (i:Int) (j:Int)=true/\ws.getD i 0<=x/\x<=ws.getD (i+1) 0/\us.getD j 0<=y/\y<=us.getD (j+1) 0
theorem zW(x:Rat):∀ws:List Rat,∃δ,0<δ/\∀w∈ws,w≠x->w<=x-δ\/x+δ<=w
 |[]=>⟨1,by grind,λw h=>(nomatch h)⟩
 |v::ws=>by
  obtain⟨δ,h0,h⟩:=zW x ws
  have pick:∃γ,0<γ/\γ<=δ/\(v≠x->v<=x-γ\/x+γ<=v):=by
   by_cases e:v<x
   ·by_cases b:x-v<=δ
    ·exact⟨x-v,by grind,b,λ_ => .inl (by grind)⟩
    ·exact⟨δ,h0,by grind,λ_ => .inl (by grind)⟩
   ·by_cases b:v-x<=δ
    ·by_cases c:v=x
     ·exact⟨δ,h0,by grind,λq=>absurd c q⟩
     ·exact⟨v-x,by grind,b,λ_ => .inr (by grind)⟩
    ·exact⟨δ,h0,by grind,λ_ => .inr (by grind)⟩
  obtain⟨γ,d,g1,g2⟩:=pick
  refine⟨γ,d,λw hw a => ?_⟩
  rcases qp.mp hw with rfl|hw
  ·exact g2 a
  ·rcases h w hw a with q|q
   ·exact .inl (by grind)
   ·exact .inr (by grind)
theorem aDN(u:Up ws)(hi:i+1<ws.length){x ε:Rat}(h1:ws.getD i 0<=x)(h2:x<=ws.getD (i+1) 0)(he:0<ε):∃x',x-ε<x'/\x'<x+ε/\ix ws x'=(i:Int):=by
 rw[gD '!'] at h1
 rw[gD hi] at h2
 have lt:ws[i]<ws[i+1]:=(iR u '!' hi).mpr '!'
 have key:∀x',ws[i]<=x'->x'<ws[i+1]->ix ws x'=(i:Int):=λx' a b=>by
  have g1:=(bZ (x:=x') u (i:=i) '!').mp a
  have g2:¬((i+1:Nat):Int)<=ix ws x':=λz=>by have:=(bZ (x:=x') u (i:=i+1) hi).mpr z;grind
  lia
 by_cases d:x<ws[i+1]
 ·exact⟨x,by grind,by grind,key x h1 d⟩
 ·by_cases c:ws[i]<=x-ε/2
  ·exact⟨x-ε/2,by grind,by grind,key _ c (by grind)⟩
  ·exact⟨ws[i],by grind,by grind,key _ (by grind) lt⟩
theorem aDT(u:Up ws){x x' δ:Rat}(hg:∀w∈ws,w≠x->w<=x-δ\/x+δ<=w)(h1:x-δ<x')(h2:x'<x+δ)(hi:i+1<ws.length)(e:ix ws x'=(i:Int)):ws.getD i 0<=x/\x<=ws.getD (i+1) 0:=by
 rw[gD '!',gD hi]
 have a:=(bZ (x:=x') u (i:=i) '!').mpr '!'
 have b:¬ws[i+1]<=x':=λz=>by have:=(bZ (x:=x') u (i:=i+1) hi).mp z;lia
 have d:=hg ws[i] (ke _)
 have f:=hg ws[i+1] (ke _)
 constructor
 ·by_cases c:ws[i]=x
  ·grind
  ·rcases d c with q|q <;> grind
 ·by_cases c:ws[i+1]=x
  ·grind
  ·rcases f c with q|q <;> grind
theorem aDR(g:Gr ws us zs){x:Rat}:clo ws us zs x y↔∀ε,0<ε->∃x' y',x-ε<x'/\x'<x+ε/\y-ε<y'/\y'<y+ε/\inY ws us zs x' y'=true:=by
 constructor
 ·rintro⟨i,j,w,p,a,m,s,z,v⟩ ε he
  obtain⟨x',a1,a2,l⟩:=aDN g.uw w m s he
  obtain⟨y',c,f,o⟩:=aDN g.uu p z v he
  exact⟨x',y',a1,a2,c,f,by unfold inY;rw[l,o];exact a⟩
 ·intro h
  obtain⟨δ,u,r⟩:=zW x ws
  obtain⟨γ,n,g1⟩:=zW y us
  have pick:∃ε,0<ε/\ε<=δ/\ε<=γ:=by
   by_cases q:δ<=γ
   ·exact⟨δ,u,by grind,q⟩
   ·exact⟨γ,n,by grind,by grind⟩
  obtain⟨ε,t,B,A⟩:=pick
  obtain⟨x',y',a1,a2,c,f,a⟩:=h ε t
  unfold inY at a
  have C:=iU g a
  have k:ix ws x'=(((ix ws x').toNat:Nat):Int):=by lia
  have b:ix us y'=(((ix us y').toNat:Nat):Int):=by lia
  have d:=aDT g.uw r (x':=x') (by grind) (by grind) (i:=(ix ws x').toNat) '!' k
  have e:=aDT g.uu g1 (x':=y') (by grind) (by grind) (i:=(ix us y').toNat) '!' b
  exact⟨(ix ws x').toNat,(ix us y').toNat,by lia,by lia,by rw[<- k,<- b];exact a,d.1,d.2,e.1,e.2⟩
theorem aMD{zs':List Str}(g:Gr ws us zs)(g':Gr ws' us' zs')(h:∀x y,inY ws us zs x y=inY ws' us' zs' x y)(x y:Rat):clo ws us zs x y↔clo ws' us' zs' x y:=by
 rw[aDR g,aDR g']
 exact forall_congr' λε=>forall_congr' λhe=>exists_congr λb=>exists_congr λa=>by rw[h]
theorem t8(ws:List Rat)(c:Rat)(i:Nat):(ws.map (· * c)).getD i 0=ws.getD i 0*c:=by
 rw[zGd,zGd,qg]
 cases ws[i]? with
 |none=>show (0:Rat)=0*c;rw[nr]
 |some w=>rfl
theorem aHI{c x:Rat}(hc:0<c):clo (ws.map (· * c)) (us.map (· * c)) zs (x*c) (y*c)↔clo ws us zs x y:=by
 unfold clo
 simp only[zLm,t8,cX hc]
noncomputable def Yd.gr(A:Yd):Gr A.ws A.us A.K:=⟨A.uw,A.uu,A.wide.1,A.wide.2⟩
theorem sL(u:Up ws){x:Rat}(hi:i+1<ws.length):((i:Int)∈Q.aW ws x)↔ws.getD i 0<=x/\x<=ws.getD (i+1) 0:=by
 constructor
 ·intro h
  have:=Q.aN4 u '!' h
  exact⟨this.1 '!',this.2 hi⟩
 ·rintro⟨a,b⟩
  rw[gD '!'] at a
  rw[gD hi] at b
  by_cases e:x=ws[i+1]
  ·subst e
   rw[Q.mQ u hi]
   exact qp.mpr (.inl '!')
  ·have g1:=(bZ (x:=x) u (i:=i) '!').mp a
   have g2:¬((i+1:Nat):Int)<=ix ws x:=λz=>by have:=(bZ (x:=x) u (i:=i+1) hi).mpr z;grind
   have:=Q.aES u x
   rwa [show ix ws x=(i:Int) by lia] at this
theorem aLZ(A:Yd)(x y:Rat):Q.jR (Q.b6 A.K (Q.aW A.ws x) (Q.aW A.us y))=("out" : Str)↔¬clo A.ws A.us A.K x y:=by
 have key:((Q.b6 A.K (Q.aW A.ws x) (Q.aW A.us y)).any id=true)↔clo A.ws A.us A.K x y:=by
  unfold Q.b6
  rw[ft]
  constructor
  ·rintro⟨b,h,e⟩
   obtain⟨u,r,h⟩:=yi.mp h
   obtain⟨a,n,rfl⟩:=qo.mp h
   have k:R.aJ A.K a u=true:=e
   have D:=iU A.gr k
   have t:a=((a.toNat:Nat):Int):=by lia
   have p:u=((u.toNat:Nat):Int):=by lia
   rw[t] at n
   rw[p] at r
   have m:=(sL A.uw '!').mp n
   have o:=(sL A.uu '!').mp r
   exact⟨a.toNat,u.toNat,by lia,by lia,by rw[<- t,<- p];exact k,m.1,m.2,o.1,o.2⟩
  ·rintro⟨i,j,z,v,C,d,c,B,w⟩
   exact⟨_,yi.mpr ⟨(j:Int),(sL A.uu v).mpr ⟨B,w⟩,qo.mpr ⟨(i:Int),(sL A.uw z).mpr ⟨d,c⟩,rfl⟩⟩,C⟩
 rw[<- key]
 unfold Q.jR
 obtain⟨l,f⟩:=mK A.ws x
 obtain⟨s,g⟩:=mK A.us y
 have ne:R.aJ A.K l s∈Q.b6 A.K (Q.aW A.ws x) (Q.aW A.us y):=yi.mpr ⟨s,g,qo.mpr ⟨l,f,rfl⟩⟩
 by_cases d:(Q.b6 A.K (Q.aW A.ws x) (Q.aW A.us y)).all id=true
 ·rw[if_pos d]
  refine⟨λq=>absurd q '#',λq=>absurd (ft.mpr ⟨_,ne,jn.mp d _ ne⟩) q⟩
 ·rw[if_neg d]
  by_cases c:(Q.b6 A.K (Q.aW A.ws x) (Q.aW A.us y)).any id=true
  ·rw[if_pos c]
   exact⟨λq=>absurd q '#',λq=>absurd c q⟩
  ·rw[if_neg c]
   exact⟨λ_=>c,λ_=>rfl⟩
noncomputable def tcS(p q r s x y h:Rat)(d:Sd):Prop:=
 d.l=(if d.f=0 then x-p*h else if d.f=1 then y-q*h else if d.f=2 then x+r*h else y+s*h) /\
 (if d.f%2=0 then y-q*h<=d.e/\d.b<=y+s*h else x-p*h<=d.e/\d.b<=x+r*h)
theorem aP0{A:Yd}{p q r s x h:Rat}{d:R.Qd}(hf:d.f<4):Tch A p q r s x y h d↔tcS p q r s x y h (sdG A.ws A.us d):=by
 rw[Q.o6,zi,zi]
 obtain⟨f,l,b,e⟩:=d
 have:f=0\/f=1\/f=2\/f=3:=by have:f<4:=hf;lia
 rcases this with rfl|rfl|rfl|rfl <;> simp[tcS,sdG,lsG,alG,Q.kH,Q.wW,Q.t9,Q.lsF,Q.alF,axF,axX,axY,rA,Ax.at]
noncomputable def scS(c:Rat)(d:Sd):Sd:=⟨d.f,d.l*c,d.b*c,d.e*c⟩
theorem aHX{p q r s x h c:Rat}(hc:0<c)(d:Sd):tcS p q r s (x*c) (y*c) (h*c) (scS c d)↔tcS p q r s x y h d:=by
 unfold tcS scS
 have j:∀a u:Rat,u*c-a*(h*c)=(u-a*h)*c:=λa u=>by grind
 have e:∀a u:Rat,u*c+a*(h*c)=(u+a*h)*c:=λa u=>by grind
 have eq:∀a b:Rat,a*c=b*c↔a=b:=λa b=>⟨λz=>by
  have i:=(cX hc).mp (show a*c<=b*c by rw[z];exact fo)
  have g:=(cX hc).mp (show b*c<=a*c by rw[z];exact fo)
  exact si i g,λz=>by rw[z]⟩
 simp only[j,e,cX hc]
 by_cases f0:d.f=0
 ·simp only[f0,if_true,eq]
 ·by_cases f1:d.f=1
  ·simp[f1,eq]
  ·by_cases f2:d.f=2
   ·simp[f2,eq]
   ·simp only[f0,f1,f2,if_false,eq]
noncomputable def Si.q(s:Si):Sd:=⟨s.f,(s.l:Rat),(s.b:Rat),(s.e:Rat)⟩
theorem aIW(ws us:List Rat)(c:Rat)(d:R.Qd):sdG (ws.map (· * c)) (us.map (· * c)) d=scS c (sdG ws us d):=by
 unfold sdG scS lsG alG
 by_cases h:d.f%2=0
 ·simp only[h,if_true,t8]
 ·simp only[h,if_false,t8]
end U
namespace Q
open PySem L2 Z U
noncomputable def siD(s:Si):D := .tup [.int (s.f:Int), .int s.l, .int s.b, .int s.e]
noncomputable def jo(xs ys:List Int)(zs:List Str):List Si:=(R.qsN zs xs.length ys.length 4).map λd=>mkI xs ys d.f d.p d.b d.e
theorem i5(xs:List Int)(i:Nat):(toQ xs).getD i 0=((xs.getD i 0:Int):Rat):=by
 unfold toQ
 rw[zGd,zGd,qg]
 cases xs[i]? <;> rfl
theorem aM8(xs ys:List Int)(d:R.Qd):sdG (toQ xs) (toQ ys) d=(mkI xs ys d.f d.p d.b d.e).q:=by
 unfold sdG mkI Si.q lsG alG lsI alI
 by_cases h:d.f%2=0
 ·simp only[h,if_true,i5]
 ·simp only[h,if_false,i5]
section
variable (ux:xs.Pairwise (· < ·))(uy:ys.Pairwise (· < ·))(gz:R.Good (xs.length-1) zs)(hz:zs.length=ys.length-1){c:Rat}(hc:0<c)
noncomputable def aEU:U.Gr (toQ xs) (toQ ys) zs:=⟨kP ux,kP uy,λz h=>by rw[dC];exact (gz z h).1,by rw[dC];exact hz⟩
abbrev bQ:Yd:=(dS xs ys zs ux uy gz hz).scale c c hc hc
include gz hz hc in
theorem aHN:(gZ (bQ ux uy gz hz hc)).map (sdG (bQ ux uy gz hz hc).ws (bQ ux uy gz hz hc).us)=(jo xs ys zs).map λs=>scS c s.q:=by
 generalize hA:dS xs ys zs ux uy gz hz=A
 have b:mJ A.ws A.us A.K=mJ (toQ xs) (toQ ys) zs:=aL1 A.gr (aEU ux uy gz hz) λx y=>by
  have:=nU ux uy gz hz x y
  rw[hA] at this
  exact this
 unfold bQ
 rw[hA]
 show (R.qsN A.K (A.ws.map (· * c)).length (A.us.map (· * c)).length 4).map (sdG (A.ws.map (· * c)) (A.us.map (· * c)))=_
 rw[zLm,zLm]
 have a:(R.qsN A.K A.ws.length A.us.length 4).map (sdG (A.ws.map (· * c)) (A.us.map (· * c)))=(mJ A.ws A.us A.K).map (scS c):=by
  unfold mJ
  rw[ve]
  exact kz λd _=>aIW A.ws A.us c d
 rw[a,b]
 unfold mJ jo
 rw[dC,dC,ve,ve]
 exact kz λd _=>by show scS c (sdG (toQ xs) (toQ ys) d)=_;rw[aM8];rfl
open Classical in
noncomputable def tcB(p q r s x y h:Rat)(u:Si):Bool:=decide (tcS p q r s x y h u.q)
theorem jU{p q r s x h:Rat}{u:Si}:tcB p q r s x y h u=true↔tcS p q r s x y h u.q:=by unfold tcB;exact @decide_eq_true_iff _ (zp _)
theorem tJ{α β γ:Type}{p:α->Bool}{q:β->Bool}{f:α->γ}{g:β->γ}:∀{l:List α}{m:List β},l.map f=m.map g->(∀a∈l,∀b∈m,f a=g b->p a=q b)->(l.filter p).map f=(m.filter q).map g
 |[],[],_,_=>rfl
 |[],_::_,h,_=>by cases h
 |_::_,[],h,_=>by cases h
 |a::l,b::m,h,hp=>by
  rw[kj,kj] at h
  injection h with h1 h2
  have d:=tJ h2 λa j b i=>hp a (jg _ j) b (jg _ i)
  have e:=hp a (jm ..) b (jm ..) h1
  by_cases c:p a=true
  ·rw[vf c,vf (e▸c),kj,kj,h1,d]
  ·rw[wa c,wa (e▸c),d]
include gz hz hc in
theorem aI3{x:Rat}:jR (b6 (bQ ux uy gz hz hc).K (aW (bQ ux uy gz hz hc).ws (x*c)) (aW (bQ ux uy gz hz hc).us (y*c)))=("out" : Str)↔¬clo (toQ xs) (toQ ys) zs x y:=by
 rw[aLZ]
 generalize hA:dS xs ys zs ux uy gz hz=A
 have a:=aMD A.gr (aEU ux uy gz hz) (λx y=>by
  have:=nU ux uy gz hz x y
  rw[hA] at this
  exact this) x y
 unfold bQ
 rw[hA,<- a]
 exact not_congr (aHI hc)
end
structure UnI(xs ys:List Int)(zs:List Str)(S:Nat->Nat->Nat->Prop)(us:List Si):Prop where
 nd:us.Nodup
 iff:∀u,u∈us↔∃f p a,S f p a/\R.gB zs xs.length ys.length f p a/\u=mkI xs ys f p a (a+1)
theorem aO6(ux:UpI xs)(uy:UpI ys){f p a f' p' a':Nat}(h:R.gB zs xs.length ys.length f p a)(h':R.gB zs xs.length ys.length f' p' a')(e:mkI xs ys f p a (a+1)=mkI xs ys f' p' a' (a'+1)):f=f'/\p=p'/\a=a':=by
 have c:f=f':=congrArg Si.f e
 subst c
 have hl:=aNW (xs:=xs) (ys:=ys) f
 have d:=aDE (xs:=xs) (ys:=ys) f
 have:=h.2.1;have:=h.2.2.1;have:=h'.2.1;have:=h'.2.2.1
 exact⟨rfl,aC6 (aSY ux uy f) '!' '!' (congrArg Si.l e),aC6 (aG8 ux uy f) '!' '!' (congrArg Si.b e)⟩
theorem UnI.same{S S':Nat->Nat->Nat->Prop}{us:List Si}(h:UnI xs ys zs S us)(e:∀f p a,R.gB zs xs.length ys.length f p a->(S' f p a↔S f p a)):UnI xs ys zs S' us:=
 ⟨h.nd,λu=>(h.iff u).trans (exists_congr λf=>exists_congr λp=>exists_congr λa=>⟨λ⟨d,b,c⟩=>⟨(e f p a b).mpr d,b,c⟩,λ⟨d,b,c⟩=>⟨(e f p a b).mp d,b,c⟩⟩)⟩
theorem UnI.add(ux:UpI xs)(uy:UpI ys){S S':Nat->Nat->Nat->Prop}{us:List Si}(h:UnI xs ys zs S us){f p a:Nat}(hE:R.gB zs xs.length ys.length f p a)(hn:¬S f p a)(e:∀f' p' a',R.gB zs xs.length ys.length f' p' a'->(S' f' p' a'↔S f' p' a'\/(f'=f/\p'=p/\a'=a))):UnI xs ys zs S' (us++[mkI xs ys f p a (a+1)]):=by
 refine⟨m5.mpr ⟨h.nd,by simp,λu i v g => ?_⟩,λu => ?_⟩
 ·rw[ql] at g
  rintro rfl
  obtain⟨f',p',a',d,c,b⟩:=(h.iff u).mp i
  rw[g] at b
  obtain⟨rfl,rfl,rfl⟩:=aO6 ux uy hE c b
  exact hn d
 ·rw[jf,ql,h.iff]
  constructor
  ·rintro (⟨f',p',a',d,c,b⟩|rfl)
   ·exact⟨f',p',a',(e _ _ _ c).mpr (.inl d),c,b⟩
   ·exact⟨f,p,a,(e _ _ _ hE).mpr (.inr ⟨rfl,rfl,rfl⟩),hE,rfl⟩
  ·rintro⟨f',p',a',d,c,b⟩
   rcases (e _ _ _ c).mp d with q|⟨rfl,rfl,rfl⟩
   ·exact .inl ⟨f',p',a',q,c,b⟩
   ·exact .inr b
noncomputable def S1(j k:Nat)(f p a:Nat):Prop:=f%2=0/\(a<j\/a=j/\p<k)
noncomputable def S2(j k:Nat)(f p a:Nat):Prop:=f%2=0\/f%2=1/\(p<j\/p=j/\a<k)
section
variable {k:Nat}{us:List Si}
theorem un_0:UnI xs ys zs (S1 0 0) []:=⟨.nil,λu=>⟨λh=>(nomatch h),λ⟨f,p,a,h,_⟩=>by unfold S1 at h;lia⟩⟩
theorem aNQ(h:UnI xs ys zs (S1 j xs.length) us):UnI xs ys zs (S1 (j+1) 0) us:=h.same λf p a e=>by
 have:=e.2.1
 unfold S1 R.Lf at *
 constructor
 ·rintro⟨b,c⟩;rw[if_pos b] at this;exact⟨b,by lia⟩
 ·rintro⟨b,c⟩;exact⟨b,by lia⟩
theorem aKO(h:UnI xs ys zs (S1 j k) us)(hc:R.aJ zs ((k:Int)-1) (j:Int)=R.aJ zs (k:Int) (j:Int)):UnI xs ys zs (S1 j (k+1)) us:=h.same λf p a e=>by
 unfold S1
 constructor
 ·rintro⟨b,c⟩
  refine⟨b,?_⟩
  by_cases q:a=j/\p=k
  ·obtain⟨rfl,rfl⟩:=q
   exact absurd hc ((R.qH e.1 b).mp e.2.2.2).1
  ·lia
 ·rintro⟨b,c⟩;exact⟨b,by lia⟩
theorem aP5(ux:UpI xs)(uy:UpI ys)(h:UnI xs ys zs (S1 j k) us)(hk:k<xs.length)(hj:j<ys.length-1)(hc:R.aJ zs ((k:Int)-1) (j:Int)≠R.aJ zs (k:Int) (j:Int)){g:Nat}(hg:g=if R.aJ zs ((k:Int)-1) (j:Int)=true then 2 else 0):UnI xs ys zs (S1 j (k+1)) (us++[mkI xs ys g k j (j+1)]):=by
 have g4:g<4:=by rw[hg];split <;> decide
 have b:g%2=0:=by rw[hg];split <;> rfl
 refine h.add ux uy ⟨g4,by unfold R.Lf;rw[if_pos b];exact hk,by unfold R.Nf;rw[if_pos b];exact hj,(R.qH g4 b).mpr ⟨hc,hg⟩⟩ (λq=>by unfold S1 at q;lia) λf p a e => ?_
 unfold S1
 constructor
 ·rintro⟨c,d⟩
  by_cases q:a=j/\p=k
  ·obtain⟨rfl,rfl⟩:=q
   exact .inr ⟨by rw[hg];exact ((R.qH e.1 c).mp e.2.2.2).2,rfl,rfl⟩
  ·exact .inl ⟨c,by lia⟩
 ·rintro (⟨c,d⟩|⟨rfl,rfl,rfl⟩)
  ·exact⟨c,by lia⟩
  ·exact⟨b,by lia⟩
theorem aQW(h:UnI xs ys zs (S1 (ys.length-1) 0) us):UnI xs ys zs (S2 0 0) us:=h.same λf p a e=>by
 have:=e.2.2.1
 have:=e.1
 unfold S1 S2 R.Nf at *
 constructor
 ·rintro (b|b)
  ·rw[if_pos b] at *;exact⟨b,by lia⟩
  ·lia
 ·rintro⟨b,c⟩;exact .inl b
theorem aO8(h:UnI xs ys zs (S2 j (xs.length-1)) us):UnI xs ys zs (S2 (j+1) 0) us:=h.same λf p a e=>by
 have:=e.2.2.1
 unfold S2 R.Nf at *
 constructor
 ·rintro (b|⟨b,c⟩)
  ·exact .inl b
  ·rw[if_neg '!'] at *;exact .inr ⟨b,by lia⟩
 ·rintro (b|⟨b,c⟩)
  ·exact .inl b
  ·exact .inr ⟨b,by lia⟩
theorem aLT(h:UnI xs ys zs (S2 j k) us)(hc:R.aJ zs (k:Int) ((j:Int)-1)=R.aJ zs (k:Int) (j:Int)):UnI xs ys zs (S2 j (k+1)) us:=h.same λf p a e=>by
 unfold S2
 constructor
 ·rintro (b|⟨b,c⟩)
  ·exact .inl b
  ·refine .inr ⟨b,?_⟩
   by_cases q:p=j/\a=k
   ·obtain⟨rfl,rfl⟩:=q
    exact absurd hc ((R.uC e.1 b).mp e.2.2.2).1
   ·lia
 ·rintro (b|⟨b,c⟩)
  ·exact .inl b
  ·exact .inr ⟨b,by lia⟩
theorem aOK(ux:UpI xs)(uy:UpI ys)(h:UnI xs ys zs (S2 j k) us)(hk:k<xs.length-1)(hj:j<ys.length)(hc:R.aJ zs (k:Int) ((j:Int)-1)≠R.aJ zs (k:Int) (j:Int)){g:Nat}(hg:g=if R.aJ zs (k:Int) ((j:Int)-1)=true then 3 else 1):UnI xs ys zs (S2 j (k+1)) (us++[mkI xs ys g j k (k+1)]):=by
 have g4:g<4:=by rw[hg];split <;> decide
 have c:g%2=1:=by rw[hg];split <;> rfl
 refine h.add ux uy ⟨g4,by unfold R.Lf;rw[if_neg '!'];exact hj,by unfold R.Nf;rw[if_neg '!'];exact hk,(R.uC g4 c).mpr ⟨hc,hg⟩⟩ (λq=>by unfold S2 at q;lia) λf p a e => ?_
 unfold S2
 constructor
 ·rintro (b|⟨b,d⟩)
  ·exact .inl (.inl b)
  ·by_cases q:p=j/\a=k
   ·obtain⟨rfl,rfl⟩:=q
    exact .inr ⟨by rw[hg];exact ((R.uC e.1 b).mp e.2.2.2).2,rfl,rfl⟩
   ·exact .inl (.inr ⟨b,by lia⟩)
 ·rintro ((b|⟨b,d⟩)|⟨rfl,rfl,rfl⟩)
  ·exact .inl b
  ·exact .inr ⟨b,by lia⟩
  ·exact .inr ⟨c,by lia⟩
theorem aTI(h:UnI xs ys zs (S2 ys.length 0) us)(u:Si):u∈us↔u∈cuN xs ys zs 4:=by
 rw[h.iff,wE]
 refine exists_congr λf=>exists_congr λp=>exists_congr λa=>⟨λq=>q.2,λq=>⟨?_,q⟩⟩
 have:=q.1.2.1
 unfold S2 R.Lf at *
 by_cases b:f%2=0
 ·exact .inl b
 ·rw[if_neg b] at this;exact .inr '+'
end
noncomputable def cUnits:Ct:=λds M k=>∃(xs ys:List Int) (zs:List Str),ds=[.lst (xs.map .int), .lst (ys.map .int), .lst (zs.map .str)]/\Up7 xs/\Up7 ys/\2<=xs.length/\2<=ys.length/\R.Good (xs.length-1) zs/\zs.length=ys.length-1 /\
 ∀us:List Si,(∀u,u∈us↔u∈cuN xs ys zs 4)->us.Nodup->us.length<=200->k (.lst (us.map siD)) M
noncomputable def bxI(x b a:Int)(H:Rat):Int:=x*(H.den:Int)+a*H.num*b
noncomputable def boxD(e n w s x y b:Int)(H:Rat):D := .tup [.int (bxI x b (-e) H), .int (bxI x b w H), .int (bxI y b (-n) H), .int (bxI y b s H), .int (b*(H.den:Int))]
theorem aBJ{x a:Int}{H:Rat}(hb:0<b):((bxI x b a H:Int):Rat)=(qb x b+(a:Rat)*H)*(((b*(H.den:Int):Int)):Rat):=by
 have g:qb x b*(b:Rat)=(x:Rat):=by
  rw[jv,kd]
  have:(0:Rat)<(b:Rat):=by exact_mod_cast hb
  grind
 have f:H*(H.den:Rat)=(H.num:Rat):=by
  have e:(H.den:Rat)≠0:=by have:=H.den_pos;exact_mod_cast (show (H.den:Int)≠0 by lia)
  have d:(H.num:Rat)/(H.den:Rat)=H:=by have:=vj H;rwa [jv] at this
  have c:(H.num:Rat)/(H.den:Rat)*(H.den:Rat)=(H.num:Rat):=kd e
  rwa [d] at c
 unfold bxI
 push_cast
 grind
structure BxO(x y b:Int)(H:Rat):Prop where
 b1:1<=b
 b2:b<=bot
 x:x.natAbs<=10^50
 y:y.natAbs<=10^50
 h:Sz 100 H
noncomputable def aT2:Ct:=λds M k=>∃(e n w s x y b:Int) (H:Rat),ds=[jM e n w s, .tup [.int x, .int y, .int b],aT H]/\Pp e n w s/\BxO x y b H/\k (boxD e n w s x y b H) M
noncomputable def aGN:Ct:=λds M k=>∃(e n w s x y b:Int) (H:Rat) (u:Si),ds=[boxD e n w s x y b H,siD u]/\BxO x y b H/\u.f<4/\u.l.natAbs<=1000000000/\u.b.natAbs<=1000000000/\u.e.natAbs<=1000000000/\∀c:Bool,(c=true↔tcS e n w s (qb x b) (qb y b) H u.q)->k (.bl c) M
section
variable {x a v:Int}{H:Rat}
theorem aA8(hb:0<b):(0:Rat)<(((b*(H.den:Int):Int)):Rat):=by
 have:0<b*(H.den:Int):=bw hb (by have:=H.den_pos;lia)
 exact_mod_cast this
theorem uZ(hb:0<b):v*(b*(H.den:Int))=bxI x b a H↔(v:Rat)=qb x b+(a:Rat)*H:=by
 have p:=aA8 (H:=H) hb
 have h:=aBJ (x:=x) (a:=a) (H:=H) hb
 constructor
 ·intro e
  have c:((v*(b*(H.den:Int)):Int):Rat)=((bxI x b a H:Int):Rat):=by rw[e]
  rw[h,ju] at c
  generalize ((b*(H.den:Int):Int):Rat)=D at *
  exact si ((cX p).mp (by rw[c];exact fo)) ((cX p).mp (by rw[c];exact fo))
 ·intro e
  have:((v*(b*(H.den:Int)):Int):Rat)=((bxI x b a H:Int):Rat):=by rw[h,ju,e]
  exact xm.mp this
theorem aTW(hb:0<b):v*(b*(H.den:Int))<=bxI x b a H↔(v:Rat)<=qb x b+(a:Rat)*H:=by
 rw[<- vp,aBJ hb,ju v]
 exact cX (aA8 hb)
theorem aT5(hb:0<b):bxI x b a H<=v*(b*(H.den:Int))↔qb x b+(a:Rat)*H<=(v:Rat):=by
 rw[<- vp,aBJ hb,ju v]
 exact cX (aA8 hb)
end
end Q
namespace Z
open PySem L2
end Z
namespace Q
open PySem L2 Z U
theorem zA{v x:Int}(hb:0<b):(v:Rat)<=qb x b↔v*b<=x:=by
 have p:(0:Rat)<(b:Rat):=by exact_mod_cast hb
 have e:qb x b*(b:Rat)=(x:Rat):=by rw[jv,kd];grind
 rw[<- cX p,e,<- ju,vp]
theorem zD{v x:Int}(hb:0<b):qb x b<=(v:Rat)↔x<=v*b:=by
 have p:(0:Rat)<(b:Rat):=by exact_mod_cast hb
 have e:qb x b*(b:Rat)=(x:Rat):=by rw[jv,kd];grind
 rw[<- cX p,e,<- ju,vp]
noncomputable def lG(xs ys:List Int)(zs:List Str)(x y b:Int)(j k:Nat):Prop:=∃j' k':Nat,(j'<j\/j'=j/\k'<k)/\k'+1<xs.length/\j'+1<ys.length/\R.aJ zs (k':Int) (j':Int)=true/\(xs.getD k' 0*b<=x/\x<=xs.getD (k'+1) 0*b)/\ys.getD j' 0*b<=y/\y<=ys.getD (j'+1) 0*b
section
variable {x y:Int}{k:Nat}
theorem aU3:¬lG xs ys zs x y b 0 0:=λ⟨_,_,h,_⟩=>by lia
theorem aPG:lG xs ys zs x y b j (xs.length-1)↔lG xs ys zs x y b (j+1) 0:=by
 constructor
 ·rintro⟨j',k',h,r⟩;exact⟨j',k',by lia,r⟩
 ·rintro⟨j',k',h,h2,r⟩;exact⟨j',k',by lia,h2,r⟩
theorem aAU(h:¬lG xs ys zs x y b j k)(hc:¬(R.aJ zs (k:Int) (j:Int)=true/\(xs.getD k 0*b<=x/\x<=xs.getD (k+1) 0*b)/\ys.getD j 0*b<=y/\y<=ys.getD (j+1) 0*b)):¬lG xs ys zs x y b j (k+1):=by
 rintro⟨d,c,q,l,i,g,f,a⟩
 by_cases e:d=j/\c=k
 ·obtain⟨rfl,rfl⟩:=e;exact hc ⟨g,f,a⟩
 ·exact h ⟨d,c,by lia,l,i,g,f,a⟩
theorem aEV(hb:0<b):lG xs ys zs x y b (ys.length-1) 0↔clo (toQ xs) (toQ ys) zs (qb x b) (qb y b):=by
 unfold lG clo
 constructor
 ·rintro⟨j,i,h,d,c,k,⟨e,a⟩,f,g⟩
  exact⟨i,j,by rw[dC];exact d,by rw[dC];exact c,k,by rw[i5];exact (zA hb).mpr e,by rw[i5];exact (zD hb).mpr a,by rw[i5];exact (zA hb).mpr f,by rw[i5];exact (zD hb).mpr g⟩
 ·rintro⟨i,j,d,c,k,e,a,f,g⟩
  rw[dC] at d c
  rw[i5] at e a f g
  exact⟨j,i,by lia,d,c,k,⟨(zA hb).mp e,(zD hb).mp a⟩,(zA hb).mp f,(zD hb).mp g⟩
theorem aN0(hb:0<b)(h1:k+1<xs.length)(h2:j+1<ys.length)(hc:R.aJ zs (k:Int) (j:Int)=true)(h3:xs.getD k 0*b<=x/\x<=xs.getD (k+1) 0*b)(h4:ys.getD j 0*b<=y/\y<=ys.getD (j+1) 0*b):clo (toQ xs) (toQ ys) zs (qb x b) (qb y b):=(aEV hb).mp ⟨j,k,by lia,h1,h2,hc,h3,h4⟩
end
noncomputable def aS9:Ct:=λds M k=>∃(xs ys:List Int) (zs:List Str) (x y b:Int),ds=[.lst (xs.map .int), .lst (ys.map .int), .lst (zs.map .str), .tup [.int x, .int y, .int b]]/\Up7 xs/\Up7 ys/\2<=xs.length/\2<=ys.length/\R.Good (xs.length-1) zs/\zs.length=ys.length-1/\1<=b/\∀c:Bool,(c=true↔¬clo (toQ xs) (toQ ys) zs (qb x b) (qb y b))->k (.bl c) M
theorem xH(g:R.Good n zs)(hj:j<=zs.length+1):∃z,(eN (n+2) zs)[j]?=some z/\z.length=n+2/\∀k,k<=n+1->R.atS z k=R.sg (R.aJ zs ((k:Int)-1) ((j:Int)-1)):=by
 obtain⟨z,b,f,p⟩:=aEG g hj
 refine⟨z,b,f,λk c => ?_⟩
 cases hc:R.aJ zs ((k:Int)-1) ((j:Int)-1) with
 |false=>exact (p k c).mpr hc
 |true =>
  have l:0<j:=Nat.pos_of_ne_zero λe=>by
   subst e
   rw[R.dN '!'] at hc;cases hc
  have o:0<j/\j-1<zs.length:=⟨l,Nat.lt_of_not_le λe=>by rw[R.eA '!'] at hc;cases hc⟩
  have a:=zGe o.2
  have q:(eN (n+2) zs)[j]?=some (f7 zs[j-1]):=by
   unfold eN
   rw[jd,y9]
   obtain⟨i,rfl⟩:∃i,j=i+1:=⟨j-1,by lia⟩
   rw[kl,q6 (by rw[zLm];lia),qg]
   simp only[z9] at a
   rw[a];rfl
  have h:z=f7 zs[j-1]:=je (b.symm.trans q)
  rw[h]
  have m:=g _ (zMo a)
  refine (aIB (n:=n) (λy d=>by rw[ql] at d;rw[d];exact m) c true).mpr ?_
  rw[<- aBM a,<- hc]
  congr 1
  lia
noncomputable def ltE(e n w s x y b:Int)(H:Rat)(f:Nat):Int:=if f=0 then bxI x b (-e) H else if f=1 then bxI y b (-n) H else if f=2 then bxI x b w H else bxI y b s H
noncomputable def ltF(e n w s x y b:Int)(H:Rat)(f:Nat):Int:=if f%2=0 then bxI y b (-n) H else bxI x b (-e) H
noncomputable def ltL(e n w s x y b:Int)(H:Rat)(f:Nat):Int:=if f%2=0 then bxI y b s H else bxI x b w H
theorem aQG{e n w s x y:Int}{H:Rat}{f:Nat}(hf:f<4):atI [D.int (bxI x b (-e) H), .int (bxI y b (-n) H), .int (bxI x b w H), .int (bxI y b s H)] (f:Int)=some (.int (ltE e n w s x y b H f))/\atI [D.tup [.int (bxI y b (-n) H), .int (bxI y b s H)], .tup [.int (bxI x b (-e) H), .int (bxI x b w H)]] ((f:Int)%2)=some (.tup [.int (ltF e n w s x y b H f), .int (ltL e n w s x y b H f)]):=by
 have:f=0\/f=1\/f=2\/f=3:=by lia
 rcases this with rfl|rfl|rfl|rfl <;> exact⟨rfl,rfl⟩
section
variable {e n w s x y:Int}{H:Rat}{u:Si}
theorem aAL(hb:0<b)(hf:u.f<4):tcS e n w s (qb x b) (qb y b) H u.q↔u.l*(b*(H.den:Int))=ltE e n w s x y b H u.f/\u.b*(b*(H.den:Int))<=ltL e n w s x y b H u.f/\ltF e n w s x y b H u.f<=u.e*(b*(H.den:Int)):=by
 have m:∀(a:Int) (q:Rat),q-(a:Rat)*H=q+((-a:Int):Rat)*H:=λa q=>by rw[KN,WB,JV]
 obtain⟨f,l,i,h⟩:=u
 have:f=0\/f=1\/f=2\/f=3:=by have:f<4:=hf;lia
 unfold tcS ltE ltF ltL Si.q
 rcases this with rfl|rfl|rfl|rfl <;> simp only[Nat.zero_mod,Nat.one_mod,Nat.mod_self,show (3:Nat)%2=1 from rfl,if_true,if_false,Nat.one_ne_zero,show ¬(2:Nat)=0 by decide,show ¬(2:Nat)=1 by decide,show ¬(3:Nat)=0 by decide,show ¬(3:Nat)=1 by decide,show ¬(3:Nat)=2 by decide,m,uZ hb,aTW hb,aT5 hb] <;> exact⟨λ⟨d,c,g⟩=>⟨d,g,c⟩,λ⟨d,c,g⟩=>⟨d,g,c⟩⟩
theorem aNE(hb:0<b)(hf:u.f<4)(h:(u.q).l=(if (u.q).f=0 then qb x b-(e:Rat)*H else if (u.q).f=1 then qb y b-(n:Rat)*H else if (u.q).f=2 then qb x b+(w:Rat)*H else qb y b+(s:Rat)*H)):u.l*(b*(H.den:Int))=ltE e n w s x y b H u.f:=by
 have m:∀(a:Int) (q:Rat),q-(a:Rat)*H=q+((-a:Int):Rat)*H:=λa q=>by rw[KN,WB,JV]
 obtain⟨f,l,d,c⟩:=u
 have:f=0\/f=1\/f=2\/f=3:=by have:f<4:=hf;lia
 rcases this with rfl|rfl|rfl|rfl
 ·exact (uZ hb).mpr (by rw[<- m];exact h)
 ·exact (uZ hb).mpr (by rw[<- m];exact h)
 ·exact (uZ hb).mpr h
 ·exact (uZ hb).mpr h
end
theorem aP3{k:Nat}{z:Str}(h:zs[j]?=some z)(hk:k<z.length):R.atS z k=35↔R.aJ zs (k:Int) (j:Int)=true:=by
 have e:=R.fI (zs:=zs) (a:=(k:Int)) (u:=(j:Int)) (z:=z) (c:=R.atS z k) '!' '!' (by rw[qm];exact h) (by rw[qm];exact R.dB hk)
 rw[e,decide_eq_true_eq]
end Q
namespace Q
open PySem L2 Z U
theorem aOM{k:Nat}{q:Rat}{m:Int}(m1:1<=m)(m2:m<=1000000007)(h:Sz k (q*qb 1 m)):Sz (k+10) q:=by
 have e:q=qb ((q*qb 1 m).num*m) ((q*qb 1 m).den:Int):=by
  have o:(0:Rat)<(m:Rat):=by exact_mod_cast (show (0:Int)<m by omega)
  have g:=vj (q*qb 1 m)
  have j:qb 1 m*(m:Rat)=1:=by rw[jv,kd (by grind)];rfl
  generalize hr:q*qb 1 m=r at *
  have i:r*(m:Rat)=q:=by rw[<- hr,QK,j,Rat.mul_one]
  rw[<- i,jv,ju]
  conv=>lhs;rw[<- g,jv]
  rw[lr,lr,QK,Q1 _ (m:Rat),<- QK]
 generalize q*qb 1 m=r at *
 have l:=r.den_pos
 have f:=vZ (a:=r.num*m) (b:=(r.den:Int)) '$'
 rw[<- e] at f
 have c:10^(k+10)=10^k*10^10:=lu ..
 refine⟨?_,?_⟩
 ·refine qq f.1 ?_
  rw[vi,c]
  exact ku h.n (qq (show m.natAbs<=1000000007 by omega) '#')
 ·have:=h.d
  have:q.den<=10^k:=by have:=f.2;omega
  exact qq this (w3 '#' '$')
structure PtX(K:qh)(mg:Str->Option Value)(cN cR c1 c2 c3 c4 c5:Addr):Prop where
 n:mg "NoPoint" = some (.ref cN)
 r:mg "RoofError" = some (.ref cR)
 v:mg "ValueError" = none
 q:Kl K cN bmV "ValueError.__new__" = true
 x:JY K (.ref cN) (.ref cN)=some true
 k:ExcK K cN
 kR:yh K (.ref cN) (.ref cR)=some true
 kV:yh K (.ref cN) (.type "ValueError")=some true
 kO:JW K (.ref cN) ([c1,c2,c3,c4,c5].map jw)=some false
 n1:mg "NoName" = some (.ref c1)
 n2:mg "NoNumber" = some (.ref c2)
 n3:mg "NoRow" = some (.ref c3)
 n4:mg "NoText" = some (.ref c4)
 n5:mg "NoYard" = some (.ref c5)
end Q
namespace HS
open PySem PySem.Spec PyProof.Rows
noncomputable def Ris(xs:Array Nat):Prop:=xs.toList.Pairwise (· < ·)
theorem Ris.at{xs:Array Nat}(h:Ris xs){k:Nat}(hik:i<=k)(hk:k<xs.size):xs.getD i j<=xs.getD k j:=by
 have a:i<xs.size:=by omega
 rw[jh,jh,jc a,jc hk]
 show xs[i]<=xs[k]
 rcases JZ hik with e|e
 ·subst e;exact qk _
 ·have:=jj.mp h i k (by simpa using a) (by simpa using hk) e
  simpa using yr this
noncomputable def Bel(xs:Array Nat)(j r:Nat):Prop:=r<=xs.size/\(∀i,i<r->xs.getD i j<j)/\∀i,r<=i->i<xs.size->j<=xs.getD i j
theorem aBE{xs:Array Nat}(h:Ris xs):∀fuel lo hi,hi<=xs.size->lo<=hi->hi-lo<=fuel->(∀i,i<lo->xs.getD i j<j)->(∀i,hi<=i->i<xs.size->j<=xs.getD i j)->Bel xs j (rj xs j fuel lo hi)
 |0,lo,hi,h1,h2,h3,h4,h5=>by
  have:lo=hi:=by omega
  subst this
  exact⟨h1,h4,h5⟩
 |fuel+1,lo,hi,h1,h2,h3,h4,h5=>by
  unfold rj
  by_cases hl:lo<hi
  ·rw[if_pos hl]
   dsimp only
   have hm:(lo+hi)/2<hi:=by omega
   have c:lo<=(lo+hi)/2:=by omega
   by_cases b:xs.getD ((lo+hi)/2) j<j
   ·rw[if_pos b]
    refine aBE h fuel _ _ h1 '$' '$' (λi a => ?_) h5
    exact qn (h.at '$' '$') b
   ·rw[if_neg b]
    refine aBE h fuel _ _ '$' c '$' h4 λi a d => ?_
    exact qq (f3 b) (h.at a d)
  ·rw[if_neg hl]
   have:lo=hi:=by omega
   subst this
   exact⟨h1,h4,h5⟩
theorem qD{xs:Array Nat}(h:Ris xs):Bel xs j (vr xs j):=
 aBE h _ _ _ (qk _) (k3 _) '$' (λi a=>absurd a (zz _)) λi b c=>absurd b '$'
theorem below_at{xs:Array Nat}(h:Ris xs)(hm:j∈xs.toList):xs[vr xs j]?=some j:=by
 obtain⟨n,k,m⟩:=qD (j:=j) h
 obtain⟨i,l,e⟩:=yo.mp hm
 have a:i<xs.size:=by simpa using l
 have g:xs.getD i j=j:=by rw[jh,jc a];simpa using e
 have c:vr xs j<=i:=f3 λz=>by have:=k i z;omega
 have f:=m _ (qk _) (qn c a)
 have d:=h.at (j:=j) c a
 have b:=qn c a
 rw[jc b]
 rw[jh,jc b] at f d
 rw[g] at d
 exact congrArg some (Nat.le_antisymm d f)
theorem aOT{xs:Array Nat}(h:Ris xs)(hm:j∉xs.toList):Ris (jq xs (vr xs j) j):=by
 obtain⟨o,l,n⟩:=qD (j:=j) h
 unfold Ris
 rw[di]
 have k:∀i (c:i<xs.toList.length),xs.getD i j=xs.toList[i]:=λi c=>by
  have g:i<xs.size:=by simpa using c
  rw[jh,jc g];simp
 have lo:∀a∈xs.toList.take (vr xs j),a<j:=λa d=>by
  obtain⟨i,c,e⟩:=yo.mp d
  rw[vh] at c
  have:=l i '$'
  rw[k i '$'] at this
  rw[J1] at e
  omega
 have c:∀a∈xs.toList.drop (vr xs j),j<a:=λa d=>by
  obtain⟨i,c,e⟩:=yo.mp d
  rw[w4] at c
  have:=n (vr xs j+i) (f5 _ _) (by rw[<- qt];omega)
  rw[k _ '$'] at this
  rw[J3] at e
  have m:a≠j:=λz=>hm (z▸Jd d)
  omega
 rw[vo]
 refine⟨h.sublist (m4 _ _),jt.mpr ⟨c,h.sublist (J5 _ _)⟩,λa d b f => ?_⟩
 rcases qp.mp f with rfl|f
 ·exact lo a d
 ·exact Nat.lt_trans (lo a d) (c b f)
noncomputable def qB(b:Bool)(t:SetTable):Prop:=t.led=b/\Ris t.place
end HS
namespace HS
open PySem PySem.Spec PyProof.Rows
section
variable {E:Value->Shared->Prop}
end
section
variable {R:Result->Shared->Prop}{I:Addr}{wr:List Addr}{G:Array fi->Array fi->Prop}{P:Nat->Value->Prop}{St:Nat->Shared->Prop}
end
end HS
namespace HS
open PySem PySem.Spec PyProof.Rows
abbrev g8(w:World):Bool := !w.params.followText "set-order"
abbrev newO(w:World):Obj:={cls := .type "set", dict:=none,data := .set #[] 0 (.fresh 0 0 (g8 w))}
section
variable {E:Value->Shared->Prop}
theorem aK7(a:Value){Q₁:Value->Shared->Prop}(h:Q₁ (.ref s.heap.objs.size) {s with heap:=s.heap.push (newO w)}):
  nf w.12 A (.call (.builtin "set.__new__") ⟨[.type "set", a],[]⟩) (wants Q₁ E) s:=by
 refine WA ?_
 show wpAny _ A.in1 (do checkBuiltinCall "set.__new__" ⟨[.type "set", a],[]⟩;again (.builtin "set.__new__" ⟨[.type "set", a],[]⟩)) _ _ s
 refine qa (QG (PySem.F.newCall_set_1 a) ⟨plainId_quiet Qp _,codeAny_builtin PySem.F.entry_set_new ?_⟩.16)
 rw[zh Qp _]
 unfold Builtin.«set.__new__» Kw
 have b:=sub_set_self
 obtain⟨c,g,d,tk,os⟩:=s
 dsimp only
 wp_walk
 refine zx ?_.16
 dsimp only
 simp only[newObj]
 refine qa (wpAny_alloc ?_.16)
 exact wpAny_pure h
end
end HS
namespace HS
open PySem PySem.Spec PyProof.Rows
theorem slot_next:Slot "set_iterator" "__next__" "set_iterator.__next__":=
 .of (owner := "set_iterator") (n := "__next__") (by rw[Ww,builtinLookup_eq_fast];kernel_rfl) '&' '&' '&'
  (by first|exact .inl '&'|exact .inr '&') (by rw[WR];kernel_rfl)
theorem entry_next:entryFor table "set_iterator.__next__" = some Builtin.«set_iterator.__next__» := entryFor_of_tree (by kernel_rfl)
theorem args_next(a:Value):KQ "set_iterator.__next__" ⟨[a],[]⟩:=by unfold KQ;kernel_rfl
theorem aF8:entryFor table "set.__iter__" = some Builtin.«frozenset.__iter__»:=
 WT (id' := "frozenset.__iter__") (by kernel_rfl) rfl '&' (by kernel_rfl)
noncomputable def mH(h:Heap)(it a:Addr)(f:Value)(i n ep:Nat):Prop:=∃o,h.get? it=some o/\o.cls = .type "set_iterator" /\ o.data = .fields #[f, .int i 0, .ref a, .int n 0, .int ep 0]
section
variable {E:Value->Shared->Prop}{o:Obj}{es:Array (Int×Value)}{t:SetTable}
theorem yR{M:Jt}{src:Source}{Q:Nat->Shared->Prop}(hn:n≠0)(h:Q (M.w.draws src (s.drawn.get src)%n) {s with drawn:=s.drawn.bump src}):wpAny M A (choose src n) Q E s:=λ_ _ _=>⟨hn,h⟩
theorem aCL{Q:Option Value->Shared->Prop}{sl sl':Nat}{x:Value}(hit:mH s.heap it a (.int sl 0) i es.size ep)(ho:s.heap.get? a=some o)(hd:o.data = .set es ep t)(hf:t.fits es.size=true)(hx:∀(A':Around) (E':Value->Shared->Prop) (Q':Option (Value×Nat)->Shared->Prop),Q' (some (x,sl')) s->wpAny w.12 A' (ro a sl i ep) Q' E' s)(h:∀h',mH h' it a (.int sl' 0) (i+1) es.size ep->dq it s.heap h'->Q (some x) {s with heap:=h' }):wpAny w.12 A (tq (.ref it)) Q E s:=by
 obtain⟨j,d,g,b⟩:=id hit
 have f:s.TypeIs (.ref it) "set_iterator" := ⟨j,d,g⟩
 refine qa (gK (w6 f slot_next (xa slot_next f entry_next ?_ (args_next _))))
 refine qa (qa (mz d b ?_)).16
 dsimp only
 refine qa (z7 ho hd hf ?_)
 rw[if_neg (by rw[bne_self_eq_false];exact zBf)]
 rw[qm,qm,qm]
 refine qa (hx _ _ _ ?_)
 dsimp only
 refine qa (zv d b '%' ?_)
 have c:=vx (fq λx=>x.setIfInBounds 0 (rawInt ↑sl')) d (zg (vk b _))
 refine qa (zv c (vk b _) '%' ?_)
 have e:=vx (fq λx=>x.setIfInBounds 1 (rawInt (↑i+1))) c (zg (vk (vk b _) _))
 refine wpAny_pure ⟨x,rfl,wpAny_pure (h _ ⟨_,e,(fh _ _).trans ((fh _ _).trans g),?_⟩ ((wz s.heap it _).trans (wz _ it _)))⟩
 rw[vk (vk b _)]
 rfl
theorem stopped{M:Jt}{Q:Option Value->Shared->Prop}{oi:Obj}{f:Value}(hh:A.handled=none)(hi:s.heap.get? it=some oi)(hdd:oi.data = .fields #[f, .int i 0, .ref a, .int n 0, .int ep 0])(h:∀h',fj it s.heap h'->Q none {s with heap:=h' }):
  wpAny M A.in1 (do
     setField (jw it) 2 j0
     let e <- newExc (zc "StopIteration") []
     raiseNew e) (λfin s'=>∃v,fin=Fin.done (Flow.ret v)/\wpAny M A (pure (some v)) Q E s') (λe s'=>wpAny M A (do
       let y <- isInstance e (zc "StopIteration")
       if y=true then pure none else throw e) Q E s') s:=by
 refine qa (zv hi hdd '%' ?_)
 refine qa (qa (va (qa (QG (Eq.refl (QZ (zc "StopIteration") [])) (va (qa (wpAny_handled ?_)) (sizeOk_excFields ..)))) ?_))
 ·have b:A.in1.handled=none:=hh
  rw[b]
  refine wpAny_throw ?_
  refine qa (Vv (T := "StopIteration") ⟨_,qu _ rfl,rfl⟩ isSubtype_stop ?_)
  rw[if_pos rfl]
  exact wpAny_pure (h _ (QA (QA (Wm (wz s.heap it _)) _) _))
 ·simp[sizeOk]
theorem aB8{Q:Option Value->Shared->Prop}{sl:Nat}(hh:A.handled=none)(hit:mH s.heap it a (.int sl 0) i es.size ep)(ho:s.heap.get? a=some o)(hd:o.data = .set es ep t)(hf:t.fits es.size=true)(hx:∀(A':Around) (E':Value->Shared->Prop) (Q':Option (Value×Nat)->Shared->Prop),Q' none s->wpAny w.12 A' (ro a sl i ep) Q' E' s)(h:∀h',fj it s.heap h'->Q none {s with heap:=h' }):wpAny w.12 A (tq (.ref it)) Q E s:=by
 obtain⟨f,c,e,b⟩:=id hit
 have d:s.TypeIs (.ref it) "set_iterator" := ⟨f,c,e⟩
 refine qa (gK (w6 d slot_next (xa slot_next d entry_next ?_ (args_next _))))
 refine qa (qa (mz c b ?_)).16
 dsimp only
 refine qa (z7 ho hd hf ?_)
 rw[if_neg (by rw[bne_self_eq_false];exact zBf)]
 rw[qm,qm,qm]
 refine qa (hx _ _ _ ?_)
 dsimp only
 exact stopped hh c b h
theorem zE{Q:Option Value->Shared->Prop}{p:Addr}{op:Obj}{np:Nat}{x:Int×Value}(hit:mH s.heap it a (.ref p) i es.size ep)(hp:s.heap.get? p=some op)(hpd:op.data = .seq (js.map λj=>rawInt (j:Nat)).toArray np)(ho:s.heap.get? a=some o)(hd:o.data = .set es ep t)(hf:t.fits es.size=true)(hx:(js[i]?).bind (λj=>es[j]?)=some x)(h:∀h',mH h' it a (.ref p) (i+1) es.size ep->dq it s.heap h'->Q (some x.2) {s with heap:=h' }):wpAny w.12 A (tq (.ref it)) Q E s:=by
 obtain⟨m,c,g,b⟩:=id hit
 have f:s.TypeIs (.ref it) "set_iterator" := ⟨m,c,g⟩
 refine qa (gK (w6 f slot_next (xa slot_next f entry_next ?_ (args_next _))))
 refine qa (qa (mz c b ?_)).16
 dsimp only
 refine qa (z7 ho hd hf ?_)
 rw[if_neg (by rw[bne_self_eq_false];exact zBf)]
 obtain⟨j,k,d⟩:=fg.mp hx
 refine qa (qa (Jk hp ?_))
 rw[hpd]
 refine wpAny_pure ?_
 dsimp only
 have l:(js.map λj=>rawInt (j:Nat)).toArray[(i:Int).toNat]?=some (rawInt j):=by
  rw[qm,kr,qg,k];rfl
 rw[l]
 dsimp only[rawInt]
 unfold setNextDrawn
 refine qa (qa (xn ho hd hf ?_))
 dsimp only
 rw[qm,qm,if_neg (by rw[bne_self_eq_false];exact zBf),d]
 refine qa ?_.16.16
 refine qa (zv c b '%' ?_)
 have e:=vx (fq λx=>x.setIfInBounds 1 (.int (↑i+1) 0)) c (zg (vk b _))
 refine wpAny_pure ⟨x.2,rfl,wpAny_pure (h _ ⟨_,e,(fh _ _).trans g,?_⟩ (wz s.heap it _))⟩
 rw[vk b]
 rfl
theorem vL{Q:Option Value->Shared->Prop}{p:Addr}{op:Obj}{np:Nat}(hh:A.handled=none)(hit:mH s.heap it a (.ref p) i es.size ep)(hp:s.heap.get? p=some op)(hpd:op.data = .seq (js.map λj=>rawInt (j:Nat)).toArray np)(ho:s.heap.get? a=some o)(hd:o.data = .set es ep t)(hf:t.fits es.size=true)(hx:js.length<=i)(h:∀h',fj it s.heap h'->Q none {s with heap:=h' }):wpAny w.12 A (tq (.ref it)) Q E s:=by
 obtain⟨m,c,l,b⟩:=id hit
 have e:s.TypeIs (.ref it) "set_iterator" := ⟨m,c,l⟩
 refine qa (gK (w6 e slot_next (xa slot_next e entry_next ?_ (args_next _))))
 refine qa (qa (mz c b ?_)).16
 dsimp only
 refine qa (z7 ho hd hf ?_)
 rw[if_neg (by rw[bne_self_eq_false];exact zBf)]
 refine qa (qa (Jk hp ?_))
 rw[hpd]
 refine wpAny_pure ?_
 dsimp only
 have k:(js.map λj=>rawInt (j:Nat)).toArray[(i:Int).toNat]?=none:=by
  rw[qm,kr,qg,qw hx];rfl
 rw[k]
 dsimp only
 refine qa (zv c b '%' ?_)
 have d:=vx (fq λx=>x.setIfInBounds 0 (rawInt 0)) c (zg (vk b _))
 exact stopped (s:={s with heap:=s.heap.update it (fq λx=>x.setIfInBounds 0 (rawInt 0))}) (n:=es.size) (f:=rawInt 0) hh d (by rw[vk b];rfl) λh' g=>h h' (((wz s.heap it _).extBut).trans g)
end
end HS
namespace HS
open PySem PySem.Spec PyProof.Rows
theorem p8{α:Type}:∀(l:List α) (i:Nat) (h:i<l.length),(l[i]::l.eraseIdx i).Perm l
 |x::l,0,h => .refl _
 |x::l,i+1,h=>by
  rw[List.eraseIdx_cons_succ,gh]
  exact (List.Perm.swap ..).trans (.cons _ (p8 l i (by simpa using h)))
theorem aEO{α:Type}(nx:Nat->Nat):∀(fuel k:Nat) (left:List α) (out:Array α),left.length=fuel->(sf nx fuel k left out).toList.Perm (out.toList++left)
 |0,k,left,out,h=>by
  rw[v8.mp h]
  unfold sf
  rw[wg]
 |fuel+1,k,left,out,h=>by
  unfold sf
  have a:nx k%left.length<left.length:=Qv _ '$'
  rw[zGe a]
  dsimp only
  refine (aEO nx fuel _ _ _ (by rw[tm a];omega)).trans ?_
  rw[JL,jd]
  refine List.Perm.append_left _ ?_
  exact p8 _ _ a
theorem aIH{α:Type}(nx:Nat->Nat)(xs:Array α):(Kb nx xs).toList.Perm xs.toList:=by
 have:=aEO nx xs.size 0 xs.toList #[] '%'
 simpa[Kb] using this
noncomputable def oD(p:Array Nat)(i:Nat):Nat:=if i=0 then 0 else p.getD (i-1) 0+1
theorem gdd(p:Array Nat){k:Nat}(h:i<p.size):p.getD i j=p.getD i k:=by
 rw[jh,jh,jc h];rfl
theorem aLI{p:Array Nat}(h:Ris p)(hi:i<=p.size):vr p (oD p i)=i:=by
 obtain⟨f,d,e⟩:=qD (j:=oD p i) h
 generalize vr p (oD p i)=r at f d e
 rcases yq r i with z|z|z
 ·have a:=e r (qk _) '$'
  have b:=h.at (j:=0) (show r<=i-1 by omega) '$'
  rw[gdd p (k:=0) '$'] at a
  unfold oD at a
  rw[if_neg '$'] at a
  omega
 ·exact z
 ·have a:=d i z
  rw[gdd p (k:=0) '$'] at a
  unfold oD at a
  by_cases c:i=0
  ·rw[if_pos c] at a;omega
  ·rw[if_neg c] at a
   have b:=jj.mp h (i-1) i (by rw[qt];omega) (by rw[qt];omega) '$'
   rw[jh,jh,jc (by omega:i<p.size),jc (by omega:i-1<p.size)] at a
   simp only[Option.getD_some] at a
   simp only[hJ] at b
   omega
section
variable {E:Value->Shared->Prop}{o:Obj}{es:Array (Int×Value)}{t:SetTable}
theorem aHW{sl:Nat}{Q:Option (Value×Nat)->Shared->Prop}(hw:w.params.followText "set-order" = true)(ho:s.heap.get? a=some o)(hd:o.data = .set es ep t)(hf:t.fits es.size=true)(h:Q ((Kb (w.params.setOrder a ep) es)[i]?.map λe=>(e.2,sl)) s):wpAny w.12 A (ro a sl i ep) Q E s:=by
 unfold ro
 refine qa (xn ho hd hf ?_)
 dsimp only
 unfold Jl
 refine qa (qa (zx ?_.16))
 show wpAny _ _ (if w.params.followText "set-order" = true then _ else _) _ _ _
 rw[if_pos hw,if_neg (by rw[bne_self_eq_false];exact zBf)]
 unfold setWalk Jl
 refine qa (qa (xn ho hd hf ?_))
 dsimp only
 refine qa (qa (zx ?_.16))
 show wpAny _ _ (if w.params.followText "set-order" = true then _ else _) _ _ _
 rw[if_pos hw]
 exact qa (zx h.16.16)
theorem aFR{Q:Option (Value×Nat)->Shared->Prop}(hw:w.params.followText "set-order" = false)(ho:s.heap.get? a=some o)(hd:o.data = .set es ep t)(hf:t.fits es.size=true)(tb:qB true t)(hp:(!t.plain&&decide (es.size>1))=false)(hi:i<=es.size)(h:Q (es[i]?.map λe=>(e.2,oD t.place (i+1))) s):wpAny w.12 A (ro a (oD t.place i) i ep) Q E s:=by
 have c:t.place.size=es.size:=by
  unfold JT at hf
  simp only[qx,beq_iff_eq] at hf
  exact hf.1
 unfold ro
 refine qa (xn ho hd hf ?_)
 dsimp only
 unfold Jl
 refine qa (qa (zx ?_.16))
 show wpAny _ _ (if w.params.followText "set-order" = true then _ else if (!t.plain&&decide (es.size>1))=true then _ else _) _ _ _
 rw[if_neg (by rw[hw];exact zBf),if_neg (by rw[hp];exact zBf)]
 show wpAny _ _ ((if (!t.led && !es.isEmpty)=true then unsupported _ else pure ()) >>= _) _ _ _
 rw[if_neg (by rw[tb.1];exact zBf)]
 refine qa ?_.16
 rw[aLI tb.2 '$']
 refine wpAny_pure ?_
 by_cases b:i<es.size
 ·rw[jc b] at h ⊢
  rw[jc (show i<t.place.size by omega)]
  have d:oD t.place (i+1)=t.place[i]+1:=by
   unfold oD
   rw[if_neg '$',z9,jh,jc (show i<t.place.size by omega)];rfl
  rw[d] at h
  exact h
 ·rw[fw '$'] at h ⊢
  exact h
theorem qY{M:Jt}{α:Type}:∀(n:Nat) (xs:List α) (s:Shared) {Q:List α->Shared->Prop},xs.length=n->(∀ys dr,ys.Perm xs->Q ys {s with drawn:=dr})->wpAny M A (drawOrder n xs) Q E s
 |0,xs,s,Q,hl,h=>by
  rw[v8.mp hl] at h ⊢
  exact wpAny_pure (h [] s.drawn .nil)
 |n+1,[],s,Q,hl,h=>by cases hl
 |n+1,x::xs,s,Q,hl,h=>by
  unfold drawOrder
  refine qa (yR '%' ?_)
  have a:M.w.draws .order (s.drawn.get .order)%(x::xs).length<(x::xs).length:=Qv _ '%'
  rw[zGe a]
  dsimp only
  refine qa (qY n _ _ (by rw[tm a];omega) λys dr p=>wpAny_pure (h _ dr ?_))
  exact (Jq _ p).trans (p8 _ _ a)
end
end HS
namespace HS
open PySem PySem.Spec PyProof.Rows
theorem sY:Slot "set_iterator" "__iter__" "set_iterator.__iter__":=
 .of (owner := "set_iterator") (n := "__iter__") (by rw[Ww,builtinLookup_eq_fast];kernel_rfl) '&' '&' '&'
  (by first|exact .inl '&'|exact .inr '&') (by rw[WR];kernel_rfl)
theorem aBD:entryFor table "set_iterator.__iter__" = some Builtin.«dict_keyiterator.__iter__»:=
 WT (id' := "dict_keyiterator.__iter__") (by kernel_rfl) rfl '&' (by kernel_rfl)
theorem aCG(a:Value):KQ "set_iterator.__iter__" ⟨[a],[]⟩:=by unfold KQ;kernel_rfl
abbrev GEq:Array fi->Array fi->Prop:=λg g'=>g'=g
section
variable {E:Value->Shared->Prop}{o:Obj}{es:Array (Int×Value)}{t:SetTable}
theorem mH.ty{f:Value}(h:mH s.heap it a f i n ep):s.TypeIs (.ref it) "set_iterator" := let ⟨o,h1,h2,_⟩:=h;⟨o,h1,h2⟩
theorem yC{Q:Value->Shared->Prop}(hT:s.TypeIs (.ref it) "set_iterator")(h:Q (.ref it) s):wpAny w.12 A (Ji (.ref it)) Q E s:=by
 refine Va hT sY (xa sY hT aBD ?_ (aCG _))
 refine qa ?_.16.16
 exact⟨_,rfl, "set_iterator", .builtin "set_iterator.__next__", hT,slot_next.lookup,h⟩
theorem aGU{vs:List Value}{sl:Nat->Nat}(hh:A.handled=none)(hd:o.data = .set es ep t)(hf:t.fits es.size=true)(hv:vs.length=es.size)(hne:a≠it)(hx:∀i,i<=es.size->∀(s':Shared),s'.heap.get? a=some o->∀(A':Around) (E':Value->Shared->Prop) (Q':Option (Value×Nat)->Shared->Prop),Q' (vs[i]?.map λv=>(v,sl (i+1))) s'->wpAny w.12 A' (ro a (sl i) i ep) Q' E' s'):
  WalksS prog w A it [it,a] [it] GEq es.size (λi v=>vs[i]?=some v) (λi s'=>s'.heap.get? a=some o/\mH s'.heap it a (.int (sl i) 0) i es.size ep) where
 sub:=λb c=>by simp only[qp,vy,or_false] at c ⊢;exact .inl c
 grefl:=λ_=>rfl
 gtrans:=λ_ _ _ h f=>by rw[f,h]
 frame:=λi s' l tk st _ k=>⟨k a '%' _ st.1,let ⟨oi,h,f⟩:=st.2;⟨oi,k it '%' _ h,f⟩⟩
 item:=λi s' Q E' n st d=>by
  have hl:i<vs.length:=by omega
  refine aCL st.2 st.1 hd hf (x:=vs[i]) (sl':=sl (i+1)) (λA' E'' Q' q=>hx i '$' s' st.1 A' E'' Q' (by rw[zGe hl];exact q)) λl hit j => ?_
  refine d _ _ (zGe hl) ⟨(j.2 a hne).trans st.1,hit⟩ ⟨λb m c e=>(j.2 b λz=>c (by rw[z];exact jm)).trans e,rfl,rfl,rfl,qk _⟩
 done:=λs' Q E' st d=>by
  refine aB8 hh st.2 st.1 hd hf (λA' E'' Q' q=>hx _ (qk _) s' st.1 A' E'' Q' (by rw[qw '$'];exact q)) λl c => ?_
  exact d _ ⟨λb m g e=>c b m (λz=>g (by rw[z];exact jm)) e,rfl,rfl,rfl,qk _⟩
 self:=λi s' Q E' st d=>yC st.2.ty d
theorem aCQ{vs:List Value}{p:Addr}{op:Obj}{np:Nat}(hh:A.handled=none)(hd:o.data = .set es ep t)(hf:t.fits es.size=true)(hpd:op.data = .seq (js.map λj=>rawInt (j:Nat)).toArray np)(hj:js.length=es.size)(hne:a≠it)(hnp:p≠it)(hx:∀i,i<es.size->∃x,(js[i]?).bind (λj=>es[j]?)=some x/\vs[i]?=some x.2):
  WalksS prog w A it [it,a,p] [it] GEq es.size (λi v=>vs[i]?=some v) (λi s'=>s'.heap.get? a=some o/\s'.heap.get? p=some op/\mH s'.heap it a (.ref p) i es.size ep) where
 sub:=λb c=>by simp only[qp,vy,or_false] at c ⊢;exact .inl c
 grefl:=λ_=>rfl
 gtrans:=λ_ _ _ f d=>by rw[d,f]
 frame:=λi s' m tk st _ k=>⟨k a '%' _ st.1,k p '%' _ st.2.1,let ⟨oi,f,d⟩:=st.2.2;⟨oi,k it '%' _ f,d⟩⟩
 item:=λi s' Q E' q st g=>by
  obtain⟨x,f,d⟩:=hx i q
  refine zE st.2.2 st.2.1 hpd st.1 hd hf f λm hit h => ?_
  refine g _ _ d ⟨(h.2 a hne).trans st.1,(h.2 p hnp).trans st.2.1,hit⟩ ⟨λb n c e=>(h.2 b λz=>c (by rw[z];exact jm)).trans e,rfl,rfl,rfl,qk _⟩
 done:=λs' Q E' st g=>by
  refine vL hh st.2.2 st.2.1 hpd st.1 hd hf '$' λm c => ?_
  exact g _ ⟨λb n l e=>c b n (λz=>l (by rw[z];exact jm)) e,rfl,rfl,rfl,qk _⟩
 self:=λi s' Q E' st g=>yC st.2.2.ty g
theorem aFO{Q:Value->Shared->Prop}(ho:s.heap.get? a=some o)(hc:o.cls = .type "set")(hd:o.data = .set es ep t)(hf:t.fits es.size=true)(tb:qB (g8 w) t)(hs:es.size<=sizeLine)(h:∀(it:Addr) (s':Shared) (vs:List Value) (fp:List Addr) (St:Nat->Shared->Prop),vs.Perm (es.toList.map (·.2))->(∀A':Around,A'.handled=none->WalksS prog w A' it fp [it] GEq es.size (λi v=>vs[i]?=some v) St)->St 0 s' ->
   (∀b∈fp,b<s'.heap.objs.size)->it∈fp->(∀b∈fp,b=a\/s.heap.objs.size<=b)->s.heap.objs.size<=it->(∀b o',s.heap.get? b=some o'->s'.heap.get? b=some o')->s'.gens=s.gens->s'.os=s.os->s.toks<=s'.toks->Q (.ref it) s'):wpAny w.12 A (Ji (.ref a)) Q E s:=by
 have J:s.TypeIs (.ref a) "set" := ⟨o,ho,hc⟩
 have k:a<s.heap.objs.size:=qv ho
 refine Va J Qo (xa Qo J aF8 ?_ (PySem.F.args_set_iter_1 _))
 unfold Builtin.«frozenset.__iter__» Ku
 refine qa (qa ?_.16.16)
 unfold Kv
 refine qa (qa (z7 ho hd hf ?_.16))
 unfold setDrawn Jl
 refine qa (qa (xn ho hd hf ?_))
 dsimp only
 refine qa (qa (zx ?_.16.16))
 show wpAny _ _ (if (!w.params.followText "set-order" && (!t.plain&&decide (es.size>1)))=true then _ else _) _ _ _
 have B:(5:Nat)<=sizeLine+2:=by rw[QH];omega
 have int:∀(vs:List Value) (C:Nat->Nat),C 0=0->vs.Perm (es.toList.map (·.2)) ->
   (∀i,i<=es.size->∀(s':Shared),s'.heap.get? a=some o->∀(A':Around) (E':Value->Shared->Prop) (Q':Option (Value×Nat)->Shared->Prop),Q' (vs[i]?.map λv=>(v,C (i+1))) s'->wpAny w.12 A' (ro a (C i) i ep) Q' E' s') ->
   wpAny w.12 A.in1 (do
    let first <- pure (rawInt 0)
    let e <- setEpoch a
    let v <- newFields "set_iterator" [first,rawInt 0,jw a,rawInt ↑es.size,rawInt ↑e]
    ret v) (λfin s'=>∃v,fin=Fin.done (Flow.ret v)/\∃T' r,s'.TypeIs v T'/\typeLookup (zc T') (ji "__next__")=pure (some r)/\Q v s') E s:=λvs C h0 p I=>by
  have hl:vs.length=es.size:=by rw[p.length_eq,zLm,qt]
  refine qa (qa (K9 ho hd hf (qa (va ?_.16 B)))).16
  refine⟨_,rfl, "set_iterator", .builtin "set_iterator.__next__", ⟨_,qu _ rfl,rfl⟩,slot_next.lookup,?_⟩
  refine h s.heap.objs.size _ vs [s.heap.objs.size,a] _ p (λA' hA=>aGU hA hd hf hl (q4 k) I) ⟨qc _ ho,_,qu _ rfl,rfl,by rw[h0];rfl⟩ (λb c => ?_) jm (λb c=>by simp only[qp,vy,or_false] at c;exact c.elim (λz => .inr (wm z.symm)) .inl) (qk _) (λb o' e=>qc _ e) rfl rfl (qk _)
  rw[vg]
  rcases qp.mp c with rfl|c
  ·exact xw _
  ·rw[ql] at c;subst c;exact wo k
 cases hw:w.params.followText "set-order" with
 |true =>
  rw[if_neg '%']
  refine int ((Kb (w.params.setOrder a ep) es).toList.map (·.2)) (λ_=>0) rfl ((aIH _ es).map _) λi m s' g A' E' Q' q=>aHW hw g hd hf ?_
  rw[qg,wj,Ko] at q
  exact q
 |false =>
  have D:qB true t:=by
   have e:g8 w=true:=by show (!w.params.followText "set-order")=true;rw[hw];rfl
   rw[e] at tb;exact tb
  cases hp:(!t.plain&&decide (es.size>1)) with
  |false =>
   rw[if_neg '%']
   refine int (es.toList.map (·.2)) (oD t.place) rfl (.refl _) λi m s' g A' E' Q' q=>aFR hw g hd hf D hp m ?_
   rw[qg,wj,Ko] at q
   exact q
  |true =>
   rw[if_pos '%']
   refine qa (qY es.size _ s (j3 ..) λf K G => ?_)
   have u:f.length=es.size:=by rw[G.length_eq,j3]
   refine qa (WM ?_ (by rw[zLm,u];exact hs))
   refine qa (K9 (o:=o) (qc _ ho) hd hf (qa (va ?_.16 B)))
   refine⟨_,rfl, "set_iterator", .builtin "set_iterator.__next__", ⟨_,qu _ rfl,rfl⟩,slot_next.lookup,?_⟩
   have d:(s.heap.push (ba "tuple" (f.map λj=>rawInt (j:Nat)).toArray 0)).objs.size=s.heap.objs.size+1:=vg ..
   have y:a≠(s.heap.push (ba "tuple" (f.map λj=>rawInt (j:Nat)).toArray 0)).objs.size:=by rw[d];exact q4 (wo k)
   have n:s.heap.objs.size≠(s.heap.push (ba "tuple" (f.map λj=>rawInt (j:Nat)).toArray 0)).objs.size:=by rw[d];exact q4 (xw _)
   have I:∀i,i<es.size->∃x,(f[i]?).bind (λj=>es[j]?)=some x/\(f.map λj=>(es.getD j (0,j0)).2)[i]?=some x.2:=λi m=>by
    have l:i<f.length:=by omega
    have hm:f[i]<es.size:=vb.mp (G.mem_iff.mp (ke l))
    refine⟨es[f[i]],?_,?_⟩
    ·rw[zGe l];exact jc hm
    ·rw[qg,zGe l,wx,jh,jc hm];rfl
   have H:(f.map λj=>(es.getD j (0,j0)).2).Perm (es.toList.map (·.2)):=by
    refine (G.map _).trans (Jh ?_)
    apply v3
    intro i
    rw[qg,qg]
    by_cases m:i<es.size
    ·rw[xg m,wj,wx,jh,jc m];rfl
    ·rw[qw (by rw[j3];omega),qw (by rw[qt];omega)];rfl
   refine h _ _ _ [_,a,s.heap.objs.size] (λi s'=>s'.heap.get? a=some o/\s'.heap.get? s.heap.objs.size=some (ba "tuple" (f.map λj=>rawInt (j:Nat)).toArray 0)/\mH s'.heap _ a (.ref s.heap.objs.size) i es.size ep) H (λA' hA=>aCQ hA hd hf rfl u y n I) ⟨qc _ (qc _ ho),qc _ (qu _ rfl),_,qu _ rfl,rfl,rfl⟩ (λb c => ?_) jm (λb c=>by simp only[qp,vy,or_false] at c;exact c.elim (λz => .inr (by rw[z,d];exact br _)) λc=>c.elim .inl λz => .inr (wm z.symm)) (by rw[d];exact br _) (λb o' e=>qc _ (qc _ e)) rfl rfl (qk _)
   rw[vg]
   simp only[qp,vy,or_false] at c
   rcases c with rfl|rfl|rfl
   ·exact xw _
   ·rw[d];exact wo (wo k)
   ·rw[d];exact wo (xw _)
end
end HS
namespace HS
open PySem PySem.Spec PyProof.Rows
section
variable {E:Value->Shared->Prop}{o:Obj}{es:Array (Int×Value)}{t:SetTable}
theorem aP1:typeLookup (.type "set") "__len__" = pure (some (.builtin "set.__len__")):=PySem.F.slot_set_len.lookup
theorem aCE{Q:List Value->Shared->Prop}(hh:A.handled=none)(ho:s.heap.get? a=some o)(hc:o.cls = .type "set")(hd:o.data = .set es ep t)(hf:t.fits es.size=true)(tb:qB (g8 w) t)(hs:es.size<=sizeLine)(h:∀(s':Shared) (vs:List Value),vs.Perm (es.toList.map (·.2))->(∀b o',s.heap.get? b=some o'->s'.heap.get? b=some o')->s'.gens=s.gens->s'.os=s.os->Q vs s'):wpAny w.12 A (collect (.ref a)) Q E s:=by
 have x:a<s.heap.objs.size:=qv ho
 have n:s.heap.objs.size≠a:=dz x
 unfold collect
 refine qa (WL (codeAny_builtin PySem.F.entry_proto_collect ?_))
 rw[zh PySem.F.plain_proto_collect _]
 show wpAny _ A.in1 (Jv [] >>= λl=>again (.builtin "list.__iadd__" ⟨[l, .ref a],[]⟩)) _ _ s
 refine qa (va ?_)
 refine wpAny_pure ⟨plainId_quiet td _,codeAny_builtin PySem.F.entry_list_iadd ?_⟩
 rw[zh td _]
 have f:(s.heap.push {cls := .type "list", data := .seq ([]:List Value).toArray}).get? a=some o:=qc _ ho
 have y:Kx {s with heap:=s.heap.push {cls := .type "list", data := .seq ([]:List Value).toArray} } (.ref a) "set" := ⟨o,f,hc⟩
 have G:mw (.ref s.heap.objs.size) (.ref a)=false:=by simp[mw,n]
 show wpAny _ A.in1 (lj (.ref s.heap.objs.size) (.ref a) (.ref s.heap.objs.size)) _ _ _
 unfold lj
 refine qa (tw y ?_)
 rw[if_neg (by rw[G];decide)]
 refine qa (aFO (s:={s with heap:=s.heap.push {cls := .type "list", data := .seq ([]:List Value).toArray} }) f hc hd hf tb hs λit s2 vs J St pv W st0 L M p hit B I C H => ?_)
 refine qa (vv ?_)
 have g:s2.TypeIs (.ref a) "set" := ⟨o,B _ _ f,hc⟩
 unfold Wo
 refine qa (QJ g aP1 ?_)
 (generalize hid:("set.__len__" : String)=id0;(fail_if_success (clear hid id0));wp_delta;rw[show splitId id0=some ("set", "__len__") from by subst hid;decide +kernel];subst hid)
 refine qa (Vv (b:=true) g sub_set_self ?_)
 rw[if_neg '#']
 dsimp only
 show wpAny _ _ (if (_:Bool)=true then (typeOf (jw a) >>= _) else _) _ _ _
 rw[if_pos '&']
 refine qa (tw g ?_)
 refine wpAny_pure ?_
 show wpAny _ _ (if (_:Bool)=true then (rule "list.extend.makes-room" >>= λ_=>Wn (.ref s.heap.objs.size) >>= λ_=>again (.builtin "list.extend.loop" ⟨[.ref s.heap.objs.size, .ref it, .ref s.heap.objs.size],[]⟩)) else _) _ _ _
 rw[if_pos '&']
 refine qa (Jj ?_)
 have q:s2.heap.get? s.heap.objs.size=some {cls := .type "list", data := .seq ([]:List Value).toArray}:=B _ _ (qu _ rfl)
 have m:s.heap.objs.size∉J:=λhm=>(p _ hm).elim n λz=>by
  have z:(s.heap.push _).objs.size<=s.heap.objs.size:=z
  rw[vg] at z
  exact absurd z (Nat.not_succ_le_self _)
 refine qa ?_
 show wpAny _ A.in1 (updateSeq s.heap.objs.size (·.push .none) >>= λ_=>updateSeq s.heap.objs.size (·.pop)) _ _ _
 refine qa (Wv q rfl ?_)
 have j:=vx (x7 (·.push j0)) q rfl
 refine Wv j rfl ?_
 have u:=vx (x7 (·.pop)) j rfl
 have r:∀b o',b≠s.heap.objs.size->s2.heap.get? b=some o'->((s2.heap.update s.heap.objs.size (x7 (·.push j0))).update s.heap.objs.size (x7 (·.pop))).get? b=some o':=
  λb o' c e=>(bj _ _ (cb c)).trans ((bj _ _ (cb c)).trans e)
 have hA:A.in1.handled=none:=hh
 refine wpAny_pure ⟨plainId_quiet PySem.F.plain_extend_loop _,codeAny_extend_loopS (W A.in1 hA) hs _ m _ es.size 0 _ _ _ rfl (k3 _)
  ((W A.in1 hA).frame 0 s2 _ s2.toks st0 (qk _) λb c o' e=>r b o' (λz=>m (z▸c)) e) u (ItemsOf.nil _) λs' acc N hm v d => ?_⟩
 show wpAny _ A (load s.heap.objs.size >>= _) _ _ s'
 refine qa (Jk v ?_)
 have k:acc.toList=vs:=by
  apply v3
  intro i
  have K:vs.length=es.size:=by rw[pv.length_eq,zLm,qt]
  rw[wj]
  by_cases D:i<acc.size
  ·rw[jc D]
   exact (d.2 i _ (jc D)).symm
  ·rw[fw '$',qw (by have:=d.1;omega)]
 refine wpAny_pure (h s' acc.toList (by rw[k];exact pv) (λb o' e => ?_) ((show s'.gens=s2.gens from hm.gens).trans I) ((show s'.os=s2.os from hm.os).trans C))
 have c:=qv e
 refine hm.heap b o' ?_ (r b o' (q4 c) (B _ _ (qc _ e)))
 simp only[qp,vy,or_false,not_or]
 refine⟨q4 c,q4 (qy c (qq ?_ hit))⟩
 show s.heap.objs.size<=(s.heap.push _).objs.size
 rw[vg];exact br _
end
end HS
namespace HS
open PySem PySem.Spec PyProof.Rows
theorem aAS{α:Type}[BEq α][LawfulBEq α]:∀(l l':List α),l.Nodup->(∀x∈l,x∈l')->l'.length<=l.length->l.Perm l'
 |[],l',_,_,h=>by rw[v8.mp (Nat.le_zero.mp h)]
 |x::r,l',nd,h,hl=>by
  have c:=h x (.head _)
  have p:=hU c
  have e:=p.length_eq
  rw[ja] at e hl
  refine (Jq x (aAS r (l'.erase x) (x9.mp nd).2 (λy b => ?_) '$')).trans p.symm
  have a:y≠x:=λz=>(x9.mp nd).1 (z▸b)
  exact (List.mem_erase_of_ne a).mpr (h y (.tail _ b))
noncomputable def once(ns:List Int):List Int:=firstMet (λi=>ns.getD i 0) ns.length
noncomputable def aU2(b:Bool)(a:Addr)(ks:List Int)(h:Heap):Prop:=
 ∃o es ep t ns,h.get? a=some o/\o.cls = .type "set" /\ o.data = .set es ep t/\t.fits es.size=true/\qB b t/\es.size<64/\IntsAre (es.toList.map (·.2)) ns/\ns.Perm ks
section
variable {E:Value->Shared->Prop}
end
end HS
namespace Z
open PySem L2 HS
section
theorem aIL(I:L2.Inv X pins σ H s)(k:∀b u,s.heap.get? b=some u->s'.heap.get? b=some u)(hg:s'.gens=s.gens)(ho:s'.os=s.os):Inv X pins σ H s':=by
 have J:Inv X pins σ H {s with heap:=s'.heap,toks:=s'.toks}:=I.kept k
 exact⟨J.ok,ho.trans I.os,by rw[hg];exact I.bare,J.base,J.loc,J.cell,J.free,J.freeC,J.pin,J.hok,J.len⟩
noncomputable def aMT(X:Cx):List V->Hp->VK->Prop:=λxs H Q=>∃(a:Addr) (ns:List Int),xs=[.ref a]/\SqL X.K H a (ns.map V.int)/\ns.length<63/\∀p,H p=none->Q (.ref p) (upd H p (.ext (aU2 (g8 X.w) p (once ns))))
theorem aL8{K:Fg}{o:MO}(ha:M a=none)(rl:Rel K G H (bV M a o)):Stp K G H (bV M a o) G H M:=
 ⟨Same.refl G,rl.le λb m c=>by rw[cV (λz=>by rw[z,ha] at c;cases c)];exact c,λb u e f d=>⟨e,f,by
  by_cases z:b=a
  ·rw[z];exact ha
  ·rw[cV z] at d;exact d⟩⟩
end
end Z
namespace HS
open PySem PySem.Spec PyProof.Rows
structure Few(t:SetTable):Prop where
 m:t.mask=7
 d:t.dummies = #[]
 r:Ris t.place
 n:t.place.size<=4
structure Gd(p:xu):Prop where
 more:p.more=0
 j:p.j=p.i
 d:p.dummy=none
 i:p.i<8
abbrev nx8(i u:Nat):Nat:=(i*5+1+u/32)%8
noncomputable def adv(p:xu):xu:={p with j:=nx8 p.i p.perturb,more:=0,i:=nx8 p.i p.perturb,perturb:=p.perturb/32}
theorem run7(i:Nat):fk 7 i-i=0:=by
 unfold fk
 rw[if_neg '$',cf]
theorem aQR{t:SetTable}(F:t.mask=7){p:xu}(g:Gd p):t.advance p=adv p:=by
 unfold SetTable.advance
 rw[if_neg (by rw[g.more];omega),F]
 show SetTable.Probe.mk _ (fk 7 _-_) _ _ _=_
 rw[run7]
 rfl
theorem Gd.adv{p:xu}(g:Gd p):Gd (adv p):=⟨rfl,rfl,g.d,Qv _ '#'⟩
noncomputable def st0(h:Int):xu:={j:=dI h%8,more:=0,i:=dI h%8,perturb:=dI h,dummy:=none}
theorem aRJ{t:SetTable}(F:t.mask=7)(h:Int):t.probeStart h=st0 h:=by
 unfold SetTable.probeStart
 rw[F]
 show SetTable.Probe.mk _ (fk 7 _-_) _ _ _=_
 rw[run7]
 rfl
theorem aIO(h:Int):Gd (st0 h):=⟨rfl,rfl,rfl,Qv _ '#'⟩
inductive Rch(pl:List Nat):xu->Nat->Prop
 |here (p):Rch pl p p.j
 |step {p j}:p.j∈pl->Rch pl (adv p) j->Rch pl p j
theorem Rch.mono{pl':List Nat}(h:∀x∈pl,x∈pl'){p j}(r:Rch pl p j):Rch pl' p j:=by
 induction r with
 |here p=>exact .here p
 |step m _ ih=>exact .step (h _ m) ih
noncomputable def Free(pl:List Nat):Nat->xu->Prop
 |0,p=>p.j∉pl
 |n+1,p=>p.j∉pl\/Free pl n (adv p)
noncomputable def it8:Nat->Nat->Nat
 |0,i=>i
 |n+1,i=>it8 n ((i*5+1)%8)
theorem gW(hj:j∉pl):∀n p,Gd p->p.perturb=0->it8 n p.i=j->Free pl n p
 |0,p,g,_,e=>by
  show p.j∉pl
  rw[g.j];have e:p.i=j:=e
  rw[e];exact hj
 |n+1,p,g,h0,e => .inr (gW hj n (adv p) g.adv (show p.perturb/32=0 by rw[h0]) (by
  show it8 n (nx8 p.i p.perturb)=j
  unfold nx8
  rw[h0];exact e))
theorem aNV:∀i<8,∀j<8,it8 0 i=j\/it8 1 i=j\/it8 2 i=j\/it8 3 i=j\/it8 4 i=j\/it8 5 i=j\/it8 6 i=j\/it8 7 i=j:=by decide
theorem Free.more:∀n p,Free pl n p->Free pl (n+1) p
 |0,p,h => .inl h
 |n+1,p,h=>h.elim .inl λh => .inr (Free.more n _ h)
theorem Free.le(h:n<=m){p}(f:Free pl n p):Free pl m p:=by
 induction h with
 |refl=>exact f
 |step _ ih=>exact Free.more _ _ ih
theorem ex_free(h:pl.length<=4):∃j,j<8/\j∉pl:=by
 apply qz
 intro b
 have:=(aAS (q7 8) pl List.nodup_range (λx a=>qz λz=>b ⟨x,vb.mp a,z⟩) (by rw[j3];omega)).length_eq
 rw[j3] at this
 omega
theorem free0(h:pl.length<=4){p}(g:Gd p)(h0:p.perturb=0):Free pl 7 p:=by
 obtain⟨j,b,a⟩:=ex_free h
 rcases aNV p.i g.i j b with e|e|e|e|e|e|e|e
 ·exact (gW a 0 p g h0 e).le '#'
 ·exact (gW a 1 p g h0 e).le '#'
 ·exact (gW a 2 p g h0 e).le '#'
 ·exact (gW a 3 p g h0 e).le '#'
 ·exact (gW a 4 p g h0 e).le '#'
 ·exact (gW a 5 p g h0 e).le '#'
 ·exact (gW a 6 p g h0 e).le '#'
 ·exact (gW a 7 p g h0 e).le '#'
theorem aMO(h:pl.length<=4):∀k p,Gd p->p.perturb<32^k->Free pl (k+7) p
 |0,p,g,hk=>(free0 h g '$').le '$'
 |k+1,p,g,hk=>by
  have:=aMO h k (adv p) g.adv (show p.perturb/32<32^k by rw[hC] at hk;omega)
  rw[show k+1+7=(k+7)+1 by omega]
  exact .inr this
theorem aQE(h:Int):dI h<32^13:=by
 unfold dI
 have c:0<=h%(2^64:Int):=zf _ '#'
 have b:h%(2^64:Int)<2^64:=y8 _ '#'
 have d:(32:Nat)^13=36893488147419103232:=by decide
 have a:(2:Int)^64=18446744073709551616:=by decide
 rw[a] at c b ⊢
 omega
theorem aPX(h:pl.length<=4)(hh:Int):Free pl 20 (st0 hh):=aMO h 13 _ (aIO hh) (aQE hh)
theorem aPU{t:SetTable}(F:Few t)(h:j∈t.place.toList):∃i,t.slot j = .live i/\t.place[i]?=some j:=by
 refine⟨vr t.place j,?_,below_at F.r h⟩
 unfold JS
 rw[if_pos (by rw[below_at F.r h];simp)]
theorem aL2{t:SetTable}(F:Few t)(h:j∉t.place.toList):t.slot j = .empty:=by
 unfold JS
 dsimp only
 rw[if_neg (λz=>h (by
  have z:t.place[vr t.place j]?=some j:=by simpa using z
  exact cn.mpr (QQ z)))]
 rw[if_neg (by rw[F.d];unfold Qb;simp)]
theorem aI8{t:SetTable}(F:Few t){ha:Nat->Int}{hh:Int}:∀n p f,Gd p->Free t.place.toList n p->n<f ->
  (∃j,cm t ha hh f p=some (.empty j none)/\j∉t.place.toList/\Rch t.place.toList p j/\∀i j',t.place[i]?=some j'->ha i=hh->¬Rch t.place.toList p j') \/
  (∃j i q m,cm t ha hh f p=some (.candidate j i q)/\t.slot j = .live i/\t.place[i]?=some j/\ha i=hh/\m<n/\Gd q/\Free t.place.toList m q /\
   (∀i' j',t.place[i']?=some j'->ha i'=hh->Rch t.place.toList p j'->j'=j\/Rch t.place.toList q j')/\∀j',Rch t.place.toList q j'->Rch t.place.toList p j')
 |n,p,0,_,_,h=>absurd h '$'
 |n,p,f+1,g,fr,hn=>by
  unfold cm
  by_cases hm:p.j∈t.place.toList
  ·obtain⟨i,w,x⟩:=aPU F hm
   rw[w]
   dsimp only
   cases n with
   |zero=>exact absurd hm fr
   |succ n =>
    have e:Free t.place.toList n (adv p):=fr.elim (λz=>absurd hm z) id
    rw[aQR F.m g]
    by_cases he:ha i=hh
    ·rw[if_pos (by simpa using he)]
     refine .inr ⟨_,_,_,n,rfl,w,x,he,by omega,g.adv,e,λi' j' a c b => ?_,λj' a => .step hm a⟩
     cases b with
     |here=>exact .inl rfl
     |step _ b=>exact .inr b
    ·rw[if_neg (by simpa using he)]
     have ne:∀i' j',t.place[i']?=some j'->ha i'=hh->j'≠p.j:=λi' j' a c z=>by
      subst z
      have o:=(rm.mp x)
      have v:=(rm.mp a)
      obtain⟨a1,l⟩:=o
      obtain⟨a2,k⟩:=v
      have:i=i':=by
       rcases yq i i' with z|z|z
       ·have:=jj.mp F.r i i' (by simpa using a1) (by simpa using a2) z
        simp only[hJ] at this
        omega
       ·exact z
       ·have:=jj.mp F.r i' i (by simpa using a2) (by simpa using a1) z
        simp only[hJ] at this
        omega
      subst this
      exact he c
     have bk:∀i' j',t.place[i']?=some j'->ha i'=hh->Rch t.place.toList p j'->Rch t.place.toList (adv p) j':=λi' j' a c b=>by
      cases b with
      |here=>exact absurd rfl (ne i' _ a c)
      |step _ b=>exact b
     rcases aI8 F (ha:=ha) (hh:=hh) n (adv p) f g.adv e '$' with ⟨j,l,k,u,s⟩|⟨j,B,q,m,l,k,u,s,G,C,y,E,D⟩
     ·exact .inl ⟨j,l,k, .step hm u,λi' j' a c b=>s i' j' a c (bk i' j' a c b)⟩
     ·exact .inr ⟨j,B,q,m,l,k,u,s,by omega,C,y,λi' j' a c b=>E i' j' a c (bk i' j' a c b),λj' a => .step hm (D j' a)⟩
  ·rw[aL2 F hm,g.d]
   refine .inl ⟨p.j,rfl,hm, .here p,λi' j' a c b => ?_⟩
   have A:j'∈t.place.toList:=cn.mpr (QQ a)
   cases b with
   |here=>exact hm A
   |step h _=>exact hm h
theorem aNA(n:Nat){v:Value}(h:carriedByValue v=true):gp n v=pure false:=by
 cases v with
 |ref a=>simp[carriedByValue] at h
 |_=>unfold gp;rfl
section
variable {E:Value->Shared->Prop}
abbrev kT(prog:Program)(w:World):Jy prog w (List Int):=tupleKind (Jw prog w)
theorem aDC{k:List Int}{Q:Bool->Shared->Prop}(hk:(kT prog w).is s.heap k a)(h:Q false s):wpAny w.12 A (gp 8 (.ref a)) Q E s:=by
 have f:s.TypeIs (.ref a) "tuple" := Qy hk
 obtain⟨o,items,n,g,_,hd,i⟩:=hk
 unfold gp
 refine qa (tw f ?_)
 dsimp only
 refine qa ?_
 refine wpAny_pure ?_
 rw[if_neg '#']
 refine qa (my g hd ?_)
 dsimp only
 refine qa ?_
 rw[<- Jr]
 refine Qh _ (λrest r e=>r.1=none/\e=s/\∀v∈rest,carriedByValue v=true) _ ?_ ?_ _ _ ⟨rfl,rfl,i.byValue⟩
 ·rintro v rest r e ⟨d,rfl,b⟩
  rw[aNA _ (b v jm)]
  refine qa ?_.16
  simp only[xo,if_false]
  exact wpAny_pure ⟨rfl,rfl,λu c=>b u (jg _ c)⟩
 ·rintro⟨r1,r2⟩ e ⟨d,rfl,_⟩
  simp only at d
  subst d
  exact wpAny_pure h
theorem yJ:∀{k:List Int}{vs:List Value},ItemsAre (Jw prog w) k vs->∀v∈vs,∃n t,v = .int n t
 |_,_, .nil,v,h=>by simp at h
 |_,_, .cons (v:=x) h t,v,a=>by
  rcases qp.mp a with rfl|a
  ·cases v <;> simp[Jw,pf] at h
   exact⟨_,_,rfl⟩
  ·exact yJ t v a
theorem aO7{k:List Int}{Q:Bool->Shared->Prop}(hk:(kT prog w).is s.heap k a)(h:Q true s):wpAny w.12 A (QI 8 (.ref a)) Q E s:=by
 have f:s.TypeIs (.ref a) "tuple" := Qy hk
 obtain⟨o,items,n,g,_,hd,i⟩:=hk
 unfold QI
 refine qa (QJ f F.slot_tuple_hash.lookup ?_)
 dsimp only
 refine qa (my g hd ?_)
 refine qa ?_
 show wpAny _ _ (forIn items _ _) _ _ s
 rw[<- Jr]
 refine Qh _ (λrest r e=>r.1=none/\e=s/\∀v∈rest,∃n t,v = .int n t) _ ?_ ?_ _ _ ⟨rfl,rfl,yJ i⟩
 ·rintro v rest r e ⟨d,rfl,b⟩
  obtain⟨n,t,rfl⟩:=b v jm
  rw[show QI 7 (.int n t)=pure true by unfold QI;rfl]
  refine qa ?_.16
  simp only[Bool.not_true,xo,if_false]
  exact wpAny_pure ⟨rfl,rfl,λu c=>b u (jg _ c)⟩
 ·rintro⟨r1,r2⟩ e ⟨d,rfl,_⟩
  simp only at d
  subst d
  exact wpAny_pure h
theorem unseen{k:List Int}{vs:List Value}{Q:Bool->Shared->Prop}(hk:(kT prog w).is s.heap k a)(hv:∀v∈vs,∃k' b,v = .ref b/\(kT prog w).is s.heap k' b)(h:Q false s):wpAny w.12 A (Vb (.ref a) vs) Q E s:=by
 unfold Vb
 refine qa ?_
 refine Qh _ (λrest r d=>r.1=none/\d=s/\∀v∈rest,∃k' b,v = .ref b/\(kT prog w).is s.heap k' b) _ ?_ ?_ _ _ ⟨rfl,rfl,hv⟩
 ·rintro v rest r d ⟨e,rfl,c⟩
  obtain⟨k',b,rfl,f⟩:=c v jm
  have fin:∀u∈rest,∃k' b,u = .ref b/\(kT prog w).is d.heap k' b:=λu g=>c u (jg _ g)
  dsimp only
  split
  ·exact wpAny_pure ⟨rfl,rfl,fin⟩
  ·refine qa ((kT prog w).quiet hk ?_)
   rw[if_neg '#']
   refine qa ((kT prog w).quiet f ?_)
   rw[if_neg '#']
   refine qa (aDC hk ?_)
   rw[if_neg '#']
   refine qa (aDC f ?_)
   rw[if_neg '#']
   exact wpAny_pure ⟨rfl,rfl,fin⟩
 ·rintro⟨r1,r2⟩ d ⟨e,rfl,_⟩
  simp only at e
  subst e
  exact wpAny_pure h
theorem aSZ{c:Prop}{dc:Decidable c}{α:Type}{X:Sem Bool}{bad T:Sem α}{Q:α->Shared->Prop}(hX:∀(Q':Bool->Shared->Prop),Q' false s->wpAny w.12 A X Q' E s)(hT:wpAny w.12 A T Q E s):
  wpAny w.12 A (if c then (X >>= λb=>if b=true then bad else T) else T) Q E s:=by
 split
 ·refine qa (hX _ ?_)
  rw[if_neg '#']
  exact hT
 ·exact hT
abbrev Ent:=List Int×Addr×Nat
noncomputable def eT(prog:Program)(w:World)(z:Ent):Int×Value:=((kT prog w).hash z.1, .ref z.2.1)
theorem aMX{es:Array (Int×Value)}{zs:List Ent}(he:es.toList=zs.map (eT prog w))(i:Nat):es[i]?=(zs[i]?).map (eT prog w):=by
 rw[<- wj,he,qg]
theorem aFV{p:Array Nat}{zs:List Ent}(he:p.toList=zs.map (·.2.2))(i:Nat):p[i]?=(zs[i]?).map (·.2.2):=by
 rw[<- wj,he,qg]
theorem aBH{x:Addr}{k:List Int}{o:Obj}{es:Array (Int×Value)}{t:SetTable}{zs:List Ent}(F:Few t)(ho:s.heap.get? a=some o)(hd:o.data = .set es ep t)(hf:t.fits es.size=true)(he:es.toList=zs.map (eT prog w))(hp:t.place.toList=zs.map (·.2.2))(hu:A.units<cLine)(hx:(kT prog w).is s.heap k x)(hz:∀z∈zs,(kT prog w).is s.heap z.1 z.2.1){Q:SetFound->Shared->Prop}(h1:k∈zs.map (·.1)->Q (.there none) s):∀(n f:Nat) (st:Option xu) (p:xu),st.getD (t.probeStart ((kT prog w).hash k))=p->Gd p->Free t.place.toList n p->n<f->n<=20 ->
   (∀z∈zs,z.1=k->Rch t.place.toList p z.2.2)->(∀j,j∉t.place.toList->Rch t.place.toList p j->k∉zs.map (·.1)->Q (.free j false) s)->wpAny w.12 A (setSearchFrom a (.ref x) ((kT prog w).hash k) true f st) Q E s
 |n,0,st,p,_,_,_,hn,_,_,_=>absurd hn '$'
 |n,f+1,st,p,est,g,fr,hn,hn2,hr,h2=>by
  unfold setSearchFrom
  refine qa (xn ho hd hf ?_)
  dsimp only
  rw[if_neg (by unfold SetTable.gaveWay;rw[F.m];decide),est]
  unfold SetTable.probe
  have T:n<10*SetTable.turns t.mask:=by rw[F.m];show n<220;omega
  have J:∀(i:Nat) (z:Ent),zs[i]?=some z->((es[i]?).map (λe:Int×Value=>e.1)).getD 0=(kT prog w).hash z.1:=λi (z:Ent) e=>by rw[aMX he,e];rfl
  generalize hpr:cm t _ _ _ _=r
  rcases aI8 F (ha:=λi=>(es[i]?.map (·.1)).getD 0) (hh:=(kT prog w).hash k) n p _ g fr T with ⟨j,P,O,N,X⟩|⟨j,i,q,m,P,O,N,X,e5,e6,Z,e8,e9⟩
  ·obtain rfl:r=some (.empty j none):=hpr.symm.trans P
   dsimp only
   refine wpAny_pure (h2 j O N λD => ?_)
   obtain⟨z,K,rfl⟩:=qo.mp D
   obtain⟨i,hi,e⟩:=yo.mp K
   have u:zs[i]?=some z:=by rw[zGe hi,e]
   exact X i z.2.2 (by rw[aFV hp,u];rfl) (J i z u) (hr z K rfl)
  ·obtain rfl:r=some (.candidate j i q):=hpr.symm.trans P
   dsimp only
   obtain⟨z,d,R⟩:∃z,zs[i]?=some z/\z.2.2=j:=by
    rw[aFV hp] at N
    exact fm.mp N
   have L:=zMo d
   have I:es[i]?=some (eT prog w z):=by rw[aMX he,d];rfl
   rw[I]
   refine aSZ (λQ' q=>unseen hx (λv hv => ?_) q) ?_
   ·obtain⟨e,M,rfl⟩:=qo.mp hv
    rw[cn,Array.mem_filter,<- cn,he] at M
    obtain⟨y,c,rfl⟩:=qo.mp M.1
    exact⟨y.1,y.2.1,rfl,hz y c⟩
   refine qa (vv ((kT prog w).eqBool hu (hz z L) hx ?_))
   refine qa (xn ho hd hf ?_)
   dsimp only
   by_cases D:z.1=k
   ·rw[decide_eq_true D,if_pos (show (true&&true)=true from rfl)]
    exact wpAny_pure (h1 (qo.mpr ⟨z,L,D⟩))
   ·rw[decide_eq_false D,if_neg '#']
    have sm:t.sameMemory t.moves t.mask=some true:=by unfold SetTable.sameMemory;rw[if_pos '%']
    rw[sm]
    dsimp only
    rw[if_pos rfl,O]
    dsimp only
    rw[I]
    dsimp only[eT]
    refine qa ?_
    unfold isSame
    dsimp only
    rw[if_pos '%']
    refine wpAny_pure (qa ?_.16)
    rw[if_pos rfl]
    dsimp only
    rw[if_neg '#']
    refine aBH F ho hd hf he hp hu hx hz h1 m f (some q) q rfl e6 Z '$' '$' (λy c C => ?_) λV n1 n2 n3=>h2 V n1 (e9 V n2) n3
    obtain⟨B,u,U⟩:=yo.mp c
    have b:zs[B]?=some y:=by rw[zGe u,U]
    rcases e8 B y.2.2 (by rw[aFV hp,b];rfl) (by rw[<- C];exact J B y b) (hr y c C) with e|e
    ·exfalso
     have S:i=B:=by
      have W:(zs.map (·.2.2)).Nodup:=by rw[<- hp];exact F.r.imp λh=>q4 h
      rw[<- R] at e
      have h5:(zs.map (·.2.2))[i]?=some z.2.2:=by rw[qg,d];rfl
      have Y:(zs.map (·.2.2))[B]?=some z.2.2:=by rw[qg,b,<- e];rfl
      obtain⟨g5,H⟩:=zGs h5
      obtain⟨g6,G⟩:=zGs Y
      rcases yq i B with l|l|l
      ·exact absurd (H.trans G.symm) (jj.mp W i B g5 g6 l)
      ·exact l
      ·exact absurd (G.trans H.symm) (jj.mp W B i g6 g5 l)
     subst S
     rw[d] at b
     cases b
     exact D C
    ·exact e
noncomputable def pN(prog:Program)(w:World)(h:Heap)(a:Addr)(zs:List Ent)(b:Bool):Prop:=
 ∃o es ep t,h.get? a=some o/\o.ExactSet/\o.data = .set es ep t/\es.toList=zs.map (eT prog w)/\t.place.toList=zs.map (·.2.2)/\t.mask=7/\t.dummies = #[]/\t.plain=true/\qB b t /\
  (∀z∈zs,(kT prog w).is h z.1 z.2.1/\z.2.1<a/\Rch (zs.map (·.2.2)) (st0 ((kT prog w).hash z.1)) z.2.2)/\(zs.map (·.1)).Nodup/\zs.length<=4
theorem m6{k:List Int}{c:Addr}(x:(kT prog w).is h k c)(hk:∀o,h.get? c=some o->h'.get? c=some o):(kT prog w).is h' k c:=by
 obtain⟨o,items,n,ho,r⟩:=x
 exact⟨o,items,n,hk o ho,r⟩
theorem pN.keep{zs:List Ent}{b:Bool}(x:pN prog w h a zs b)(k:∀c o,c<=a->h.get? c=some o->h'.get? c=some o):pN prog w h' a zs b:=by
 obtain⟨o,n,m,t,j,p,i,s,q,g,u,v,l,f,r⟩:=x
 exact⟨o,n,m,t,k _ _ (qk _) j,p,i,s,q,g,u,v,l,λz d=>⟨m6 (f z d).1 λo e=>k _ o (yr (f z d).2.1) e,(f z d).2⟩,r⟩
theorem aA7{t:SetTable}{es:Array (Int×Value)}{zs:List Ent}(he:es.toList=zs.map (eT prog w))(hp:t.place.toList=zs.map (·.2.2))(hm:t.mask=7)(hd:t.dummies = #[])(hl:zs.length<=7):t.fits es.size=true/\t.place.size=zs.length/\es.size=zs.length:=by
 have b:t.place.size=zs.length:=by rw[<- qt,hp,zLm]
 have a:es.size=zs.length:=by rw[<- qt,he,zLm]
 refine⟨?_,b,a⟩
 unfold JT JU
 rw[hm,hd,b,a]
 simp
 exact hl
theorem aIK{zs:List Ent}{p:Nat}{z:Ent}{α:Type}{f:Ent->α}:(zs.take p++z::zs.drop p).map f=(zs.map f).take p++f z::(zs.map f).drop p:=by
 rw[qi,kj,List.map_take,List.map_drop]
theorem aT3{x:Addr}{zs:List Ent}{b:Bool}{k:List Int}{Q:Bool->Shared->Prop}(hu:A.units<cLine)(hx:(kT prog w).is s.heap k x)(hxa:x<a)(hS:pN prog w s.heap a zs b)(hl:(Z.gJ (zs.map (·.1)) k).length<=4)(h:∀h' zs',dq a s.heap h'->pN prog w h' a zs' b->(zs'.map (·.1)).Perm (Z.gJ (zs.map (·.1)) k)->(∀z∈zs',z∈zs\/z.1=k/\z.2.1=x)->∀c,Q c {s with heap:=h' }):
  wpAny w.12 A (setAddHashed a (.ref x) ((kT prog w).hash k)) Q E s:=by
 obtain⟨o,p,X,t,G,hex,hd,he,u,hm,i,C,J,m,K,Y⟩:=id hS
 obtain⟨hf,aa,W⟩:=aA7 (t:=t) he u hm i '$'
 have F:Few t:=⟨hm,i,J.2,by omega⟩
 unfold setAddHashed setAddHashedIn
 refine vv (qa (xn G hd hf ?_))
 dsimp only
 rw[if_neg (by unfold byScan;simp[Value.scannable])]
 refine qa ?_
 unfold setSearch
 refine aBH F G hd hf he u hu hx (λz d=>(m z d).1) (λhk => ?_) 20 100000 none (st0 ((kT prog w).hash k)) (aRJ hm _) (aIO _) (aPX (by rw[qt];omega) _) '#' '#' (λz d e => ?_) λj T R N => ?_
 ·dsimp only
  exact wpAny_pure (h s.heap zs (Wl a s.heap) hS (by unfold Z.gJ;rw[if_pos hk]) (λz m => .inl m) _)
 ·rw[u,<- e];exact (m z d).2.2
 ·dsimp only
  refine qa (xn G hd hf ?_)
  have n:Z.gJ (zs.map (·.1)) k=zs.map (·.1)++[k]:=by unfold Z.gJ;rw[if_neg N]
  rw[n,qe,zLm] at hl
  have hl:zs.length+1<=4:=hl
  have v:t.put j=({t with place:=jq t.place (vr t.place j) j},vr t.place j):=by
   unfold SetTable.put
   have:Qb t.dummies j=false:=by rw[i];unfold Qb;simp
   simp only[this]
   rfl
  rw[v]
  dsimp only
  rw[if_pos C]
  refine qa (aO7 hx ?_)
  rw[if_pos rfl]
  generalize hP:vr t.place j=P
  have L:qB b {t with place:=jq t.place P j}:=by rw[<- hP];exact⟨J.1,aOT J.2 T⟩
  have B:(jq p P ((kT prog w).hash k,jw x)).toList=(zs.take P++(k,x,j)::zs.drop P).map (eT prog w):=by
   rw[di,he,aIK];rfl
  have r:(jq t.place P j).toList=(zs.take P++(k,x,j)::zs.drop P).map (·.2.2):=by
   rw[di,u,aIK]
  have hlen:(zs.take P++(k,x,j)::zs.drop P).length=zs.length+1:=by
   rw[qe,ja,vh,w4];omega
  have f:(zs.take P++(k,x,j)::zs.drop P).Perm (zs++[(k,x,j)]):=by
   have:=List.perm_middle (a:=(k,x,j)) (l₁:=zs.take P) (l₂:=zs.drop P)
   rw[QS] at this
   exact this.trans (QT (l₁:=[(k,x,j)]))
  obtain⟨V,M,I⟩:=aA7 (prog:=prog) (w:=w) (t:={t with place:=jq t.place P j}) B r hm i '$'
  refine qa (wpAny_storeSet_of G hd ?_ (by rw[I];exact qq (show _<=7 by omega) '#'))
  have g:(s.heap.update a (Qu (jq p P ((kT prog w).hash k,jw x)) {t with place:=jq t.place P j})).get? a=some {o with data := .set (jq p P ((kT prog w).hash k,jw x)) (X+1) {t with place:=jq t.place P j} }:=by
   have:=vx (Qu (jq p P ((kT prog w).hash k,jw x)) {t with place:=jq t.place P j}) G (by rw[putSet_of _ _ hd];rfl)
   rw[putSet_of _ _ hd] at this;exact this
  have O:=wz s.heap a (Qu (jq p P ((kT prog w).hash k,jw x)) {t with place:=jq t.place P j})
  have tf:Q6 {t with place:=jq t.place P j}=false:=by
   unfold Q6 JU
   show decide (((jq t.place P j).size+t.dummies.size)*5≥t.mask*3)=false
   have U:(jq t.place P j).size=zs.length+1:=by rw[<- hlen];exact M
   rw[i,hm,U]
   apply decide_eq_false
   show ¬((zs.length+1+0)*5≥7*3)
   omega
  rw[tf]
  refine wpAny_pure (h _ (zs.take P++(k,x,j)::zs.drop P) O ⟨_,_,_,_,g,hex,rfl,B,r,hm,i,C,L,λz d => ?_,?_,by omega⟩ ?_ (λz d => ?_) _)
  ·have sub:∀y∈zs.map (·.2.2),y∈(zs.take P++(k,x,j)::zs.drop P).map (·.2.2):=λy H=>(f.map _).mem_iff.mpr (by rw[qi];exact cu _ H)
   have S:∀{k' c},c<a->(kT prog w).is s.heap k' c->(kT prog w).is (s.heap.update a (Qu (jq p P ((kT prog w).hash k,jw x)) {t with place:=jq t.place P j})) k' c:=λhc q=>m6 q λo e=>(O.2 _ (q4 hc)).trans e
   rcases jf.mp (f.mem_iff.mp d) with d|d
   ·exact⟨S (m z d).2.1 (m z d).1,(m z d).2.1,(m z d).2.2.mono sub⟩
   ·rw[ql] at d
    subst d
    refine⟨S hxa hx,hxa,?_⟩
    rw[u] at R
    exact R.mono sub
  ·refine ((f.map (·.1)).nodup_iff).mpr ?_
   rw[qi]
   refine m5.mpr ⟨K,by simp,λy H y' D => ?_⟩
   simp at D
   subst D
   rintro rfl
   exact N H
  ·rw[n]
   exact (f.map (·.1)).trans (Jh qi)
  ·rcases jf.mp (f.mem_iff.mp d) with d|d
   ·exact .inl d
   ·rw[ql] at d
    subst d
    exact .inr ⟨rfl,rfl⟩
end
end HS
namespace SO
open PySem PyProof.Rows PySem.W
section
variable {E:Value->Shared->Prop}{P:Shared->Prop}{κ:dj}{it:Nat->Keyed}{N:Nat}{R:Nat->Nat->Bool}
theorem aCH(h64:N<64)(C:Cmp prog w A P κ it N R){st:xh}(ha:Wp st=ar it (q7 N))(hk:kindOf st=κ)(hf:Jx st=none)(hp:ll st = #[]){Q:Unit->xh->Prop}(h:∀ps st',ps.length=N->(∀x∈ps,x<N)->ps.Pairwise (T R)->Wp st'=ar it ps->Jx st'=none->Q () st'):wpP w.12 A E P sortRuns' Q st:=by
 have W:=C.wk
 rw[sortRuns'_eq]
 refine bO (vN ?_)
 dsimp only
 rw[ha,aNB,j3]
 have s0:So κ it N R st [] (qj 0 N):=⟨by rw[ha,List.range_eq_range'];rfl,hk,hf,by rw[hp];rfl,trivial,λx i=>by rw[x5] at i;lia,k3 _⟩
 refine bO (p_mono (l6 (I:=λx c st'=>∃a,c=(none,a.flatten.length)/\So κ it N R st' a (qj a.flatten.length (N-a.flatten.length))/\min x N<=a.flatten.length/\(a=[]\/a.flatten.length=N/\a.length=1))
  (Q:=λc st'=>∃a,c=(none,a.flatten.length)/\So κ it N R st' a []/\a.flatten.length=N/\a.length<=1) ?_ ?_ ⟨[],rfl,s0,by lia, .inl rfl⟩) ?_)
 rotate_left
 ·rintro c st' ⟨a,rfl,S,i,k⟩
  have:=S.le
  have e:a.flatten.length=N:=by lia
  refine⟨a,rfl,?_,e,?_⟩
  rotate_left
  ·rcases k with rfl|k
   ·exact k3 _
   ·exact wm k.2
  rw[e,cf] at S
  exact S
 ·rintro c st' ⟨a,rfl,S,K,hl⟩
  dsimp only
  refine bO (p_mono (l6 (I:=λx c st'=>∃a,c=(none,())/\So κ it N R st' a []/\a.flatten.length=N/\a.length<=1)
   (Q:=λc st'=>∃a,c=(none,())/\So κ it N R st' a []/\a.flatten.length=N/\a.length<=1) ?_ (λc b z=>z) ⟨a,rfl,S,K,hl⟩) ?_)
  ·rintro x c b _ i ⟨l,rfl,S1,m,hl⟩
   refine bO (vN ?_)
   rw[S1.psz,if_pos hl]
   exact b7 ⟨l,rfl,S1,m,hl⟩
  ·rintro c b ⟨l,rfl,S1,m,hl⟩
   refine b7 (h l.flatten b m (λx i => ?_) ?_ ?_ S1.fail)
   ·have:=S1.rns.mem x i;lia
   ·match l,hl,S1 with
    |[],_,_=>exact .nil
    |[g],_,S1 =>
     have:=S1.rns.1.srt
     simpa using this
   ·rw[S1.arr,wg]
 rintro x c b _ i ⟨a,rfl,S,L,k⟩
 dsimp only
 have hle:=S.le
 by_cases D:a.flatten.length≥N
 ·rw[if_pos D]
  have e:a.flatten.length=N:=by lia
  refine b7 ⟨a,rfl,?_,e,?_⟩
  rotate_left
  ·rcases k with rfl|k
   ·exact k3 _
   ·exact wm k.2
  rw[e,cf] at S
  exact S
 rw[if_neg D]
 have o:a=[]:=k.elim id λq=>absurd (wm q.1.symm) D
 have r:Wu N N 0=N:=by
  cases N with
  |zero=>rfl
  |succ f=>rw[minRun'_succ,if_pos h64]
 have t:Arr it b b (a.flatten++qj a.flatten.length (N-a.flatten.length)):=by
  show b=sb _ _ _ _ _
  rw[<- S.arr]
 refine bO (aP7 C S.kind '!' '!' t λg s H g1 g2 hA => ?_)
 dsimp only
 have p:Arr it b s (a.flatten++(g++qj (a.flatten.length+g.length) (N-(a.flatten.length+g.length)))):=by
  rw[show N-(a.flatten.length+g.length)=N-a.flatten.length-g.length by lia];exact hA
 generalize hgn:g.length=gn
 apply aS6 gn (λd n=>∃G:List Nat,G.length=n/\Arr it b d (a.flatten++(G++qj (a.flatten.length+G.length) (N-(a.flatten.length+G.length))))/\Rn R a.flatten.length G/\1<=n/\a.flatten.length+n=N)
 rotate_left
 ·intro J KK
  subst hgn
  refine bO (aIR ?_)
  have v:g.length<=min (N-a.flatten.length) (Wu N N 0):=by lia
  have u:a.flatten.length+min (N-a.flatten.length) (Wu N N 0)=N:=by rw[r];lia
  generalize min (N-a.flatten.length) (Wu N N 0)=n3 at v u
  have F:Arr it b s (a.flatten++(g++(qj (a.flatten.length+g.length) (n3-g.length)++qj (a.flatten.length+n3) (N-(a.flatten.length+n3))))):=by
   have e:=fS (lo:=a.flatten.length+g.length) (n:=n3-g.length) (nrem:=N-(a.flatten.length+g.length)) '!'
   rw[show a.flatten.length+g.length+(n3-g.length)=a.flatten.length+n3 by lia,show N-(a.flatten.length+g.length)-(n3-g.length)=N-(a.flatten.length+n3) by lia] at e
   rw[<- e];exact p
  refine bO (aKU C S.kind H '!' v '!' F λG d RG M AG => ?_)
  subst M
  rw[if_neg '#']
  exact KK d _ ⟨G,rfl,AG,RG,by lia,by lia⟩
 ·intro B
  rw[r] at B
  exact⟨g,hgn,p,H,by lia,by rw[o] at g2 ⊢;simp only[List.flatten_nil,xi] at g2 ⊢;lia⟩
 rintro d n ⟨G,y,AG,RG,U,V⟩
 subst y
 have SG:So κ it N R d a (G++qj (a.flatten.length+G.length) (N-(a.flatten.length+G.length))):=S.arrs AG λx i=>by
  rcases jf.mp i with i|i
  ·have:=RG.mem x i;lia
  ·rw[x5] at i;lia
 have j:∀l:List (List Nat),l.flatten.length=a.flatten.length->(l++[G]).flatten.length=a.flatten.length+G.length:=λl e=>by simp;simpa using e
 refine bO (vN ?_)
 have O:(ll d).back?=none:=by
  have e:=SG.psz
  rw[o,xi] at e
  rw[Array.back?_eq_getElem?,fw '!']
 rw[O]
 dsimp only
 refine bO (tX (b7 ⟨a++[G],?_,?_,?_, .inr ⟨?_,by rw[o];rfl⟩⟩))
 ·rw[j a rfl]
 ·rw[j a rfl]
  have:=SG.push RG '!' '!'
  exact this
 ·rw[j a rfl];lia
 ·rw[j a rfl];lia
end
section
variable {E:Value->Shared->Prop}
theorem uS{vs:List Value}{P:Fin->Shared->Prop}{κ:dj}{R:Nat->Nat->Bool}(ho:s.heap.get? a=some (ba "list" vs.toArray n))(hz:vs.length<=sizeLine)(h64:vs.length<64)(hW:Wk R)(hk:2<=vs.length->∀s':Shared,(∀b o,b≠a->s.heap.get? b=some o->s'.heap.get? b=some o)->wpAny w.12 A (keyKind' vs.toArray) (λk s2=>s2=s'/\k=κ) (λ_ _=>False) s')(hc:∀i j,i<vs.length->j<vs.length->∀s':Shared,(∀b o,b≠a->s.heap.get? b=some o->s'.heap.get? b=some o)->wpAny w.12 A (keyLt' κ (vs.getD i j0) (vs.getD j j0)) (λb s2=>s2=s'/\b=R i j) (λ_ _=>False) s')(h:∀ps:List Nat,ps.length=vs.length->(∀x∈ps,x<vs.length)->ps.Pairwise (T R)->P (.done (.ret .none)) {s with heap:=sortedHeap s.heap a vs (ps.map λi=>vs.getD i j0).toArray}):
  wpAny w.12 A (Builtin.«list.sort» ⟨[.ref a],[]⟩) P E s:=by
 rw[list_sort_plain]
 have z:a<s.heap.objs.size:=qv ho
 refine qa (listItems_at ho rfl ?_)
 refine qa (Jz ho rfl ?_ (by rw[qf];exact hz) (k3 _))
 obtain⟨r,m⟩:∃r,(s.heap.update a (x7 λ_ => #[])).get? a=some (ba "list" #[] r):=⟨_,get?_update_seq ho (λ_ => #[])⟩
 refine qa (KJ m rfl ?_)
 refine qa (WM ?_ (by show vs.length<=_;exact hz))
 refine qa (wpAny_newList ?_ (k3 _))
 refine vv ?_
 have t:(((s.heap.update a (x7 λ_ => #[])).push (ba "tuple" vs.toArray 0)).push (ba "list" #[] 0)).get? a=some (ba "list" #[] r):=by
  rw[ff _ _ _ (by rw[K7,fu];exact q4 (wo z)),ff _ _ _ (by rw[fu];exact q4 z)]
  exact m
 have keep:∀b o,b≠a->s.heap.get? b=some o->(((s.heap.update a (x7 λ_ => #[])).push (ba "tuple" vs.toArray 0)).push (ba "list" #[] 0)).get? b=some o:=λb o D q=>by
  have l:b<s.heap.objs.size:=qv q
  rw[ff _ _ _ (by rw[K7,fu];exact q4 (wo l)),ff _ _ _ (by rw[fu];exact q4 l),Heap.get?_update_ne _ _ _ _ D]
  exact q
 show wpAny w.12 A _ P E {s with heap:=((s.heap.update a (x7 λ_ => #[])).push (ba "tuple" vs.toArray 0)).push (ba "list" #[] 0)}
 generalize hs':({s with heap:=((s.heap.update a (x7 λ_ => #[])).push (ba "tuple" vs.toArray 0)).push (ba "list" #[] 0)}:Shared)=s'
 have f:s'.heap.get? a=some (ba "list" #[] r):=by rw[<- hs'];exact t
 have c:∀b o,b≠a->s.heap.get? b=some o->s'.heap.get? b=some o:=by rw[<- hs'];exact keep
 have fin:∀ps:List Nat,ps.length=vs.length->(∀x∈ps,x<vs.length)->ps.Pairwise (T R)->P (.done (.ret .none)) {s' with heap:=s'.heap.update a (x7 λ_=>(ps.map λi=>vs.getD i j0).toArray)}:=by
  rw[<- hs'];exact h
 dsimp only
 by_cases g:vs.toArray.size<2
 ·rw[if_pos g,if_pos g]
  refine qa ?_.16
  rw[JR]
  refine qa ?_.16
  dsimp only
  refine qa (KJ f rfl ?_)
  rw[qf] at g
  have B:(Wp (sb general' (vs.toArray.zip vs.toArray) #[] 7 none)).map (·.2)=((q7 vs.length).map λi=>vs.getD i j0).toArray:=by
   show (vs.toArray.zip vs.toArray).map (·.2)=_
   rw[aGS rfl,aHU]
  rw[B]
  refine qa (Jz f rfl ?_ (k3 _) (by rw[qf,zLm,j3];omega))
  simp only[bne_self_eq_false,xo,if_false]
  refine wpAny_pure (fin (q7 vs.length) (j3 ..) (λx y=>vb.mp y) ?_)
  match hv:vs.length,g with
  |0,_=>exact .nil
  |1,_=>exact v7 _ _
 ·rw[if_neg g,if_neg g]
  rw[qf] at g
  refine qa (w7 (hk '$' s' c) (λk s2 e => ?_) λ_ _ x=>x.elim)
  obtain⟨rfl,rfl⟩:=e
  have C:Cmp prog w A (λx=>x=s2) k (itK vs vs) vs.length R:=⟨hW,λi j G F x y=>by subst y;exact hc i j G F x c⟩
  refine qa (w7 (aCH (E:=E) h64 C (st:=sb k (vs.toArray.zip vs.toArray) #[] 7 none) (aGS rfl) rfl rfl rfl
   (Q:=λ_ d=>∃ps:List Nat,ps.length=vs.length/\(∀x∈ps,x<vs.length)/\ps.Pairwise (T R)/\Wp d=ar (itK vs vs) ps/\Jx d=none) (λps d a1 a2 u v p=>⟨ps,a1,a2,u,v,p⟩) s2 rfl) ?_ λ_ _ e=>e)
  rintro⟨⟨⟩,d⟩ s3 ⟨rfl,ps,a1,a2,u,v,p⟩
  dsimp only
  refine qa (KJ f rfl ?_)
  rw[v,aHU]
  refine qa (Jz f rfl ?_ (k3 _) (by rw[qf,zLm,a1];omega))
  dsimp only at p
  rw[p]
  simp only[bne_self_eq_false,xo,if_false]
  exact wpAny_pure (fin ps a1 a2 u)
end
end SO
namespace HS
open PySem PySem.Spec PyProof.Rows
section
variable {R:Result->Shared->Prop}{I:Addr}{wr:List Addr}{G:Array fi->Array fi->Prop}{P:Nat->Value->Prop}{St:Nat->Shared->Prop}
noncomputable def met(val:Nat->List Int):Nat->List (List Int)
 |0=>[]
 |i+1=>Z.gJ (met val i) (val i)
theorem aEN(val:Nat->List Int):∀i k,k∈met val i↔∃j,j<i/\val j=k
 |0,k=>by simp[met]
 |i+1,k=>by
  show k∈Z.gJ (met val i) (val i)↔_
  rw[Z.aMF,aEN val i k]
  constructor
  ·rintro (⟨j,b,a⟩|rfl)
   ·exact⟨j,by omega,a⟩
   ·exact⟨i,by omega,rfl⟩
  ·rintro⟨j,b,a⟩
   by_cases e:j=i
   ·subst e;exact .inr a.symm
   ·exact .inl ⟨j,by omega,a⟩
theorem uT(val:Nat->List Int):∀i,(met val i).Nodup
 |0 => .nil
 |i+1=>Z.aP2 (uT val i) _
theorem aM9(val:Nat->List Int){n:Nat}(h:i<=n):(met val i).length<=(met val n).length:=by
 induction h with
 |refl=>exact qk _
 |@step m h ih =>
  refine qq ih ?_
  show _<=(Z.gJ (met val m) (val m)).length
  unfold Z.gJ
  split
  ·exact qk _
  ·rw[qe];exact f5 _ _
theorem xW{ks':List (List Int)}(p:ks.Perm ks')(k:List Int):(Z.gJ ks k).Perm (Z.gJ ks' k):=by
 unfold Z.gJ
 by_cases h:k∈ks
 ·rw[if_pos h,if_pos (p.mem_iff.mp h)];exact p
 ·rw[if_neg h,if_neg λz=>h (p.mem_iff.mpr z)];exact p.append_right _
theorem aSR(W:WalksS prog w A.in1 I fp wr G n P St)(T:Addr)(hT:T∉fp)(hwr:∀c∈wr,T<c)(hu:A.units+1<cLine)(val:Nat->List Int)(h4:(met val n).length<=4){b:Bool}:
  ∀(k i:Nat) (s:Shared),n-i=k->i<=n->St i s->(∀j v,P j v->∃c,v = .ref c/\c<T/\(kT prog w).is s.heap (val j) c)->(∃zs,pN prog w s.heap T zs b/\(zs.map (·.1)).Perm (met val i)/\∀z∈zs,∃j,P j (.ref z.2.1)/\val j=z.1) ->
   (∀s',Moved (T::wr) G s s'->(∃zs,pN prog w s'.heap T zs b/\(zs.map (·.1)).Perm (met val n)/\∀z∈zs,∃j,P j (.ref z.2.1)/\val j=z.1)->R (.ok (.ret .none)) s') ->
   nf w.12 A (.builtin "set.update.loop" ⟨[.ref T, .ref I],[]⟩) R s:=by
 have hw:T∉wr:=λh=>hT (W.sub _ h)
 have sub:∀c∈wr,c∈T::wr:=λc a=>jg _ a
 intro k
 induction k with
 |zero =>
  intro i s U S st Q y L
  have:i=n:=by omega
  subst this
  refine codeAny_builtin fe ?_
  rw[zh y3 _]
  show wpAny _ A.in1 (tq (.ref I) >>= _) _ _ s
  refine qa (W.done s _ _ st λs' hm => ?_)
  obtain⟨zs,p,t,f⟩:=y
  exact wpAny_pure (L s' (hm.mono sub) ⟨zs,p.keep λc o a e=>hm.heap c _ (λz=>absurd (hwr c z) (Kh.mpr a)) e,t,f⟩)
 |succ k ih =>
  intro i s U S st Q y L
  have l:i<n:=by omega
  refine codeAny_builtin fe ?_
  rw[zh y3 _]
  show wpAny _ A.in1 (tq (.ref I) >>= _) _ _ s
  refine qa (W.item i s _ _ l st λv s' O H hm => ?_)
  obtain⟨zs,p,t,f⟩:=y
  have old:∀c o,c<=T->s.heap.get? c=some o->s'.heap.get? c=some o:=λc o a e=>hm.heap c _ (λz=>absurd (hwr c z) (Kh.mpr a)) e
  have u:=p.keep old
  have r:∀j v,P j v->∃c,v = .ref c/\c<T/\(kT prog w).is s'.heap (val j) c:=λj v f=>by
   obtain⟨c,e,a,q⟩:=Q j v f
   exact⟨c,e,a,m6 q λo e=>old c o (yr a) e⟩
  obtain⟨c,rfl,a,N⟩:=r i v O
  show wpAny _ A.in1 (gy [jw c] (setAdd T (.ref c)) >>= _) _ _ s'
  refine qa (vv ?_)
  unfold setAdd
  refine vv (qa ((kT prog w).pyHash (k:=val i) (show A.in1.units<cLine from hu) N ?_))
  have x:(Z.gJ (zs.map (·.1)) (val i)).length<=4:=by
   rw[(xW t (val i)).length_eq]
   exact qq (aM9 val (show i+1<=n by omega)) h4
  refine aT3 (s:={s' with toks:=s'.toks+(kT prog w).draws (val i)}) (show A.in1.units<cLine from hu) N a u x λV E D C K M X => ?_
  refine wpAny_pure ⟨plainId_quiet y3 _,ih (i+1) _ '$' l (W.frame _ s' _ _ H (f5 _ _) λg d o e => ?_) (λj v f => ?_) ⟨E,C,K.trans (xW t (val i)),λz p=>(M z p).elim (f z) λq=>⟨i,by rw[q.2];exact O,q.1.symm⟩⟩ λJ B m => ?_⟩
  ·rw[D.2 g (λz:g=T=>hT (z▸d))];exact e
  ·obtain⟨g,e,d,q⟩:=r j v f
   exact⟨g,e,d,m6 q λo e=>(D.2 g (q4 d)).trans e⟩
  ·refine L J (Moved.trans W.gtrans ((hm.mono sub).then_heap (f5 _ _) λc o a e => ?_) B) m
   rw[D.2 c (λz:c=T=>a (z▸jm))];exact e
end
section
variable {E:Value->Shared->Prop}
theorem aUI:pN prog w (h.push (newO w)) h.objs.size [] (g8 w):=
 ⟨_,#[],0,_,qu _ rfl,⟨rfl,rfl,rfl⟩,rfl,rfl,rfl,rfl,rfl,rfl,⟨rfl,cv⟩,λz a=>absurd a '%', .nil,by decide⟩
theorem aJB{l:Addr}{val:Nat->List Int}{Q:Value->Shared->Prop}(hh:A.handled=none)(hl:s.heap.IsList l items)(hu:A.units+10<cLine)(hi:∀i v,items[i]?=some v->∃c,v = .ref c/\(kT prog w).is s.heap (val i) c)(h4:(met val items.size).length<=4)(h:∀(h':Heap) (tk:Nat),(∃zs,pN prog w h' s.heap.objs.size zs (g8 w)/\(zs.map (·.1)).Perm (met val items.size)/\∀z∈zs,∃j,items[j]?=some (.ref z.2.1)/\val j=z.1) ->
   (∀b o,b<s.heap.objs.size->s.heap.get? b=some o->h'.get? b=some o)->Q (.ref s.heap.objs.size) {s with heap:=h',toks:=tk}):
  wpAny w.12 A (call (.type "set") [.ref l]) Q E s:=by
 have d:=PySem.F.called_set
 obtain⟨c,tl,C⟩:=d.mro
 have B:=d.made
 have D:=d.sub
 refine wpAny_call (WA ?_)
 show wpAny _ _ (callAny (.type "set") _) _ _ _
 refine wpAny_pure ⟨Code.quiet_builtin _ '&',codeAny_builtin PySem.F.entry_type_call ?_⟩
 rw[Around.under_plain (weight_type_call_type "set" [.ref l] []) rfl]
 have h1:=d.notType
 have h2:=d.canCreate
 have W:=PySem.F.typeCall_set_1 (.ref l)
 repeat (any_goals (first|assumption|wp_step))
 refine lq (aK7 (.ref l) (E:=E) (Q₁:=λobj s1=>obj=jw s.heap.objs.size/\s1={s with heap:=s.heap.push (newO w)}) ⟨rfl,rfl⟩) λr s1 m => ?_
 cases r with
 |error e=>exact m
 |ok fl =>
 cases fl with
 |next=>exact m.elim
 |brk=>exact m.elim
 |cont=>exact m.elim
 |ret obj =>
 obtain⟨rfl,rfl⟩:=m
 have M:Kx {s with heap:=s.heap.push (newO w)} (.ref s.heap.objs.size) "set" := ⟨_,qu _ rfl,rfl⟩
 have S:=d.init.lookup
 have H:=d.init.bind (.ref s.heap.objs.size)
 repeat (any_goals (first|assumption|wp_step))
 refine lq (codeAny_call_builtin (R:=wants (λr s2=>r = .none/\Q (.ref s.heap.objs.size) s2) E) d.init.plain PySem.F.entry_set_init (check_set_init_1 M ?_)) λr2 s2 a => ?_
 ·obtain⟨ol,hol,n,nl,g⟩:=hl
  obtain⟨oc,J,oo,os⟩:=ol
  simp only at n g
  subst n g
  have k:(s.heap.push (newO w)).get? l=some ⟨.type "list", J, .seq items nl,os⟩:=qc _ hol
  have hl1:(s.heap.push (newO w)).IsList l items:=⟨_,k,rfl,nl,rfl⟩
  have f:l<s.heap.objs.size:=qv hol
  have hS:(s.heap.push (newO w)).get? s.heap.objs.size=some (newO w):=qu _ rfl
  have e1:=PySem.F.sub_list_set
  have Z:=PySem.F.sub_list_frozenset
  have e3:(zc "list" == zc "dict")=false:=by decide
  unfold Builtin.«set.__init__» noKeywords Kt
  generalize hPI:Ji=PI
  wp_walk
  subst hPI
  refine cq hl1 ?_
  refine qa (WL ?_)
  have t:A.in1.in1.in1.handled=none:=by simp[hh]
  have L:l≠(s.heap.push (newO w)).objs.size:=by rw[vg];exact q4 (wo f)
  have X:s.heap.objs.size∉[(s.heap.push (newO w)).objs.size,l]:=by
   rw[vg]
   simp only[qp,vy,or_false,not_or]
   exact⟨q4 (xw _),dz f⟩
  refine aSR ((JA t _ l L items).toS) s.heap.objs.size X (λc G=>by rw[ql] at G;subst G;rw[vg];exact xw _) ?_ val h4 (items.size-0) 0 _ '$' (k3 _)
   ⟨⟨_,qu _ rfl,rfl,rfl⟩,hl1.push _⟩ (λi v I => ?_) ⟨[],(aUI (h:=s.heap)).keep (λc o _ e=>qc _ e), .refl _,λz U=>absurd U '%'⟩ ?_
  ·simp;omega
  ·obtain⟨c,e,q⟩:=hi i v I
   refine⟨c,e,?_,m6 q λo e=>qc _ (qc _ e)⟩
   obtain⟨o,_,_,V,_⟩:=q
   exact qv V
  intro P hm x
  obtain⟨h',T,N,u,y⟩:=P
  have K:T=s.gens:=hm.gens
  have O:N=s.drawn:=hm.drawn
  have Y:y=s.os:=hm.os
  subst K O Y
  refine wpAny_pure ⟨rfl,h h' u x λb o p e => ?_⟩.16
  refine hm.heap b o ?_ (qc _ (qc _ e))
  rw[vg]
  simp only[qp,vy,or_false,not_or]
  exact⟨q4 p,q4 (wo p)⟩
 ·cases r2 with
  |error e=>exact a
  |ok fl2 =>
   cases fl2 with
   |ret r =>
    obtain⟨rfl,hq⟩:=a
    repeat (any_goals (first|assumption|wp_step))
   |next=>exact a.elim
   |brk=>exact a.elim
   |cont=>exact a.elim
end
end HS
namespace HS
open PySem PySem.Spec PyProof.Rows
abbrev AT:=Addr×List Int
noncomputable def jQ(b:Bool)(a:Addr)(bs:List Addr)(h:Heap):Prop:=
 ∃o es ep t,h.get? a=some o/\o.cls = .type "set" /\ o.data = .set es ep t/\t.fits es.size=true/\qB b t/\es.size<64/\es.toList.map (·.2)=bs.map jw
theorem jQ.ok{b:Bool}{bs:List Addr}(x:jQ b a bs h):L2.eY P w H h a (.ext (jQ b a bs)):=by
 obtain⟨o,p,n,t,e,r⟩:=id x
 refine⟨x,⟨o,e⟩,λq m l k => ?_⟩
 obtain⟨f,d,c,j,i,g⟩:=l
 exact⟨f,d,c,j,k f i,g⟩
theorem aLE{α β:Type}{f:α->β}{vs vs':List β}(p:vs.Perm vs'):∀{zs:List α},vs=zs.map f->∃zs':List α,vs'=zs'.map f/\zs'.Perm zs:=by
 induction p with
 |nil=>intro zs h;exact⟨zs,h, .refl _⟩
 |cons x p ih =>
  intro zs h
  cases zs with
  |nil=>cases h
  |cons z zs =>
   have h0:=hG (h.trans (kj ..))
   obtain⟨zs',e,q⟩:=ih h0.2
   rw[h0.1]
   exact⟨z::zs',by rw[e];rfl,q.cons z⟩
 |swap x y l =>
  intro zs h
  match zs,h with
  |z::z'::zs,h =>
   have h0:=hG (h.trans (kj ..))
   have b:=hG (h0.2.trans (kj ..))
   exact⟨z'::z::zs,by rw[h0.1,b.1,b.2];rfl, .swap ..⟩
 |trans p q ih1 ih2 =>
  intro zs h
  obtain⟨j,d,i⟩:=ih1 h
  obtain⟨a,c,g⟩:=ih2 d
  exact⟨a,c,g.trans i⟩
theorem wF:∀{vs:List Value}{ns:List Int},IntsAre vs ns->PySem.ItemsAre (Jw P w) ns vs
 |_,_, .nil => .nil
 |_,_, .cons n t h => .cons (intKind_is _ _ _ _) (wF h)
section
variable {E:Value->Shared->Prop}
open SO PySem.W in
theorem aC1{zs:List AT}{Q:Value->Shared->Prop}(hh:A.handled=none)(hS:jQ (g8 w) a (zs.map (·.1)) s.heap)(ht:∀z∈zs,aKG s.heap (.ref z.1) z.2)(hne:∀z∈zs,z.2≠[])(h:∀(s1:Shared) (h2:Heap) (ys:List AT) (e:Nat),ys.Perm zs->ys.Pairwise (λx y=>HT.lexLt y.2 x.2=false)->(∀b o',s.heap.get? b=some o'->s1.heap.get? b=some o')->s1.gens=s.gens->s1.os=s.os ->
   (∀b o',s1.heap.get? b=some o'->h2.get? b=some o')->h2.get? s1.heap.objs.size=some (ba "list" (ys.map λy=>jw y.1).toArray e)->Q (.ref s1.heap.objs.size) {s1 with heap:=h2}):wpAny w.12 A (call (.builtin "sorted") [.ref a]) Q E s:=by
 obtain⟨o,J,ep,t,ho,hc,hd,hf,tb,u,W⟩:=hS
 have I:J.size<=sizeLine:=qq (yr u) '#'
 refine Calls.call_function_entry kind_sorted plain_sorted entry_sorted (args_sorted1 _) ?_
 unfold Builtin.«sorted»
 refine qa (m:=checkCount "sorted" 1 1 _) ?_.16
 refine qa (aCE hh ho hc hd hf tb I λs1 vs pv N g1 K => ?_)
 obtain⟨xs,rfl,q⟩:=aLE (f:=λz:AT=>jw z.1) pv.symm (zs:=zs) (by rw[W,ve];rfl)
 have l:(xs.map λz:AT=>jw z.1).length=J.size:=by rw[pv.length_eq,zLm,qt]
 have aa:xs.length=J.size:=by rw[<- l,zLm]
 refine qa (wpAny_newList ?_ (by rw[l];exact I))
 have p:(s1.heap.push (ba "list" (xs.map λz:AT=>jw z.1).toArray 0)).get? s1.heap.objs.size=some (ba "list" (xs.map λz:AT=>jw z.1).toArray 0):=qu _ rfl
 show wpAny _ _ _ _ _ {s1 with heap:=s1.heap.push (ba "list" (xs.map λz:AT=>jw z.1).toArray 0)}
 have F:∀i,i<xs.length->(xs.map λz:AT=>jw z.1).getD i j0=jw (xs.getD i (0,[])).1:=λi d=>by simp[d]
 have gt:∀i,i<xs.length->(xs.map (·.2)).getD i []=(xs.getD i (0,[])).2:=λi d=>by simp[d]
 have P:∀i,i<xs.length->xs.getD i (0,[])∈zs:=λi d=>q.mem_iff.mp (by simp[d])
 have kt:∀g:Shared,(∀b o,b≠s1.heap.objs.size->(s1.heap.push (ba "list" (xs.map λz:AT=>jw z.1).toArray 0)).get? b=some o->g.heap.get? b=some o)->∀i,i<xs.length->aKG g.heap (.ref (xs.getD i (0,[])).1) (xs.getD i (0,[])).2:=λg k i d=>by
  obtain⟨c,C,e,⟨o',X,q2⟩,q3⟩:=ht _ (P i d)
  have D:=N _ _ X
  exact⟨c,C,e,⟨o',k _ _ (q4 (qv D)) (qc _ D),q2⟩,q3⟩
 refine qa (vv (xa slot_list_sort ⟨_,p,rfl⟩ entry_list_sort (uS (κ:=tuples' true) (R:=λi j=>HT.lexLt ((xs.map (·.2)).getD i []) ((xs.map (·.2)).getD j [])) (s:={s1 with heap:=s1.heap.push (ba "list" (xs.map λz:AT=>jw z.1).toArray 0)}) p (by rw[l];exact I) (by rw[l];exact u) (aS3 _) (λh2 g k => ?_) (λi j d r g k => ?_) λps a1 a2 L=>⟨_,rfl,?_⟩) (args_list_sort _)))
 ·rw[zLm] at h2
  obtain⟨fs,f1,f2,U⟩:=xT (h:=g.heap) (xs.map λz:AT=>jw z.1) (xs.map (·.2)) (by rw[zLm,zLm]) (λi d=>by
   rw[zLm] at d
   rw[F i d,gt i d];exact kt g k i d) λt' H=>by
   obtain⟨z,G,rfl⟩:=qo.mp H
   exact hne z (q.mem_iff.mp G)
  refine kat_kind (T := .type "int") f1 (by rw[f2,zLm];omega) (λv Y => ?_) rfl ⟨rfl,rfl⟩
  obtain⟨n,t,rfl⟩:=U v Y
  exact Looks.of_pure rfl
 ·rw[zLm] at d r
  rw[F i d,F j r,gt i d,gt j r]
  obtain⟨c,C,D,⟨o,V,h2,n,h3⟩,h4⟩:=kt g k i d
  obtain⟨b,M,S,⟨o',g1,g2,n',g3⟩,g4⟩:=kt g k j r
  rw[D,S]
  exact kat_lt V h3 g1 g3 (aAK _ _ 0 h4 g4 (by rw[qt,qt];omega) ⟨rfl,rfl⟩)
 ·obtain⟨e,he⟩:=sortedHeap_at (vs:=xs.map λz:AT=>jw z.1) (out:=(ps.map λi=>(xs.map λz:AT=>jw z.1).getD i j0).toArray) p
  rw[zLm] at a1 a2
  have Z:(ps.map λi=>(xs.map λz:AT=>jw z.1).getD i j0)=(ps.map λi=>xs.getD i (0,[])).map λy=>jw y.1:=by
   rw[ve]
   exact kz λi d=>F i (a2 i d)
  rw[Z] at he ⊢
  refine wpAny_pure ⟨_,rfl,h s1 _ (ps.map λi=>xs.getD i (0,[])) e ?_ ?_ N g1 K (λb o' O => ?_) he⟩
  ·have:=(u9 xs.length ps (aOL L) a2 a1).map λi=>xs.getD i (0,[])
   rw[SO.map_range] at this
   exact this.trans q
  ·rw[kv]
   refine cw ?_ L
   intro i j d r t
   rw[<- gt i (a2 i d),<- gt j (a2 j r)]
   rcases t with ⟨_,t⟩|⟨_,t⟩
   ·exact t
   ·exact tS _ _ t
  ·have B:=qv O
   rw[sortedHeap_old (q4 B) (by rw[K7];exact wo B)]
   exact qc _ O
end
end HS
namespace Z
open PySem L2 HS SO
section
noncomputable def aTY(X:Cx):List V->Hp->VK->Prop:=λxs H Q=>∃(a:Addr) (as:List Addr) (ts:List (List Int)),xs=[.ref a]/\SqL X.K H a (as.map qO)/\as.length=ts.length/\(∀i,i<as.length->SqT X.K H (as.getD i 0) ((ts.getD i []).map V.int))/\(met (λi=>ts.getD i []) ts.length).length<=4 /\
 ∀(p:Addr) (zs:List AT),H p=none->(zs.map (·.2)).Perm (met (λi=>ts.getD i []) ts.length)->(∀z∈zs,∃i,i<as.length/\as.getD i 0=z.1/\ts.getD i []=z.2)->Q (.ref p) (upd H p (.ext (jQ (g8 X.w) p (zs.map (·.1)))))
theorem aFZ(hh:X.A.handled=none)(hu:X.A.units+10<cLine):dY X (.type "set") (aTY X):=by
 intro pins s σ H xs us Q I r h
 obtain⟨a,as,L,rfl,T,hl,P,h4,q⟩:=h
 obtain⟨u,rfl,O⟩:=vals1 r
 cases O
 obtain⟨aa,Z,⟨o,n,V,M,_,e3⟩,J⟩:=I.list T
 have k:=nR Z
 subst k
 have f:(as.map jw).toArray.size=L.length:=by rw[qf,zLm];exact hl
 refine HS.aJB (items:=(as.map jw).toArray) (val:=λi=>L.getD i []) hh ⟨o,V,M,n,e3⟩ hu (λi v k => ?_) (by rw[f];exact h4) λS tk ⟨zs,hR,G,U⟩ hk => ?_
 ·rw[kr,qg] at k
  obtain⟨c,D,rfl⟩:=fm.mp k
  obtain⟨g,d⟩:=zGs D
  refine⟨c,rfl,?_⟩
  obtain⟨N,r2,⟨o2,F,W,m,q3⟩,_⟩:=I.tuple (P i g)
  rw[show as.getD i 0=c by simp[g,d]] at F
  exact⟨o2,_,m,F,W,q3,wF (intsAre_of r2)⟩
 ·rw[f] at G
  have hf:=I.hok.fresh (qk s.heap.objs.size)
  obtain⟨o',es,ep,t,y,hex,hd,he,B,hm,x,l,tb,Y,ab,ac⟩:=hR
  obtain⟨e,_,ee⟩:=aA7 (t:=t) he B hm x '$'
  have R:jQ (g8 X.w) s.heap.objs.size ((zs.map λz=>((z.2.1,z.1):AT)).map (·.1)) S:=⟨o',es,ep,t,y,hex.1,hd,e,tb,by omega,by rw[he,ve,ve,ve];rfl⟩
  refine⟨.ref s.heap.objs.size,_,I.laid (t':=tk) (λb u z=>hk b u (qv z) z) (qk _) R.ok,rfl,q _ _ hf (by rw[ve];exact G) λz J => ?_⟩
  obtain⟨K,C,rfl⟩:=qo.mp J
  obtain⟨j,E,j2⟩:=U K C
  rw[kr,qg] at E
  obtain⟨c,D,d⟩:=fm.mp E
  obtain⟨g,p⟩:=zGs D
  have d:c=K.2.1:=by injection d
  exact⟨j,g,by rw[<- d];simp[g,p],j2⟩
noncomputable def aO0(X:Cx):List V->Hp->VK->Prop:=λxs H Q=>∃(a:Addr) (zs:List AT),xs=[.ref a]/\H a=some (.ext (jQ (g8 X.w) a (zs.map (·.1))))/\(∀z∈zs,SqT X.K H z.1 (z.2.map V.int)/\z.2≠[])/\zs.length<64 /\
 ∀(l:Addr) (ys:List AT),H l=none->ys.Perm zs->ys.Pairwise (λx y=>HT.lexLt y.2 x.2=false)->Q (.ref l) (upd H l (.lst (ys.map λy=>qO y.1)))
theorem aCS(hh:X.A.handled=none):dY X (.builtin "sorted") (aO0 X):=by
 intro pins s σ H xs us Q I r h
 obtain⟨a,zs,rfl,i,f,B,q⟩:=h
 obtain⟨u,rfl,n⟩:=vals1 r
 cases n
 obtain⟨p,_⟩:jQ (g8 X.w) a (zs.map λz:AT=>z.1) s.heap/\_:=I.hok a _ i
 refine aC1 hh p (λz c => ?_) (λz c=>(f z c).2) λs1 g b e d m t g1 x k he => ?_
 ·obtain⟨j,r2,o,_⟩:=I.tuple (f z c).1
  exact⟨_,_,rfl,o,intsAre_of r2⟩
 have I1:Inv X pins σ H s1:=aIL I t g1 x
 have hf:=I1.hok.fresh (qk s1.heap.objs.size)
 have v:∀l:List AT,Vals (l.map λy=>qO y.1) (l.map λy=>jw y.1):=λl=>by
  induction l with
  |nil=>exact .nil
  |cons y l ih=>exact .cons rfl ih
 refine⟨.ref s1.heap.objs.size,_,I1.laid (t':=s1.toks) k (qk _) (show eY X.prog X.w _ g _ (.lst (b.map λy=>qO y.1)) from ⟨?_,b.map λy=>jw y.1,e,v b,he⟩),rfl,q _ b hf d m⟩
 rw[zLm,d.length_eq];exact qq '$' (show 64<=sizeLine by decide)
theorem uY(ts:List (List Int))(t:List Int):t∈met (λi=>ts.getD i []) ts.length↔t∈ts:=by
 rw[aEN]
 constructor
 ·rintro⟨j,a,rfl⟩
  simp[a]
 ·intro h
  obtain⟨j,a,e⟩:=yo.mp h
  exact⟨j,a,by simp[a,e]⟩
theorem aCI{p1:Pos}(hh:X.A.handled=none)(hu:X.A.units+10<cLine)(hmS:X.mg "set" = none)(hmO:X.mg "sorted" = none)(h:GE X e Γ M λd M1=>∃ts:List (List Int),d = .lst (ts.map tI)/\(∀t∈ts,t≠[])/\(∀u:List (List Int),u.Nodup->(∀t∈u,t∈ts)->u.length<=4)/\∀us:List (List Int),us.Nodup->(∀t,t∈us↔t∈ts)->us.Pairwise (λx y=>HT.lexLt y x=false)->k (.lst (us.map tI)) M1)(hgS:Gl X "set" := by rfl)(hgO:Gl X "sorted" := by rfl)(he1:jk [e] X.env=(false,eval e X.env)::jk [] X.env:=by rfl)(hp1:(dh pos' (jk [] X.env)).any (·.1)=false:=by rfl)(he2:jk [.Call (.Name "set" p2) [e] [] pos'] X.env=(false,eval (.Call (.Name "set" p2) [e] [] pos') X.env)::jk [] X.env:=by rfl)(hp2:(dh pos (jk [] X.env)).any (·.1)=false:=by rfl):
  GE X (.Call (.Name "sorted" p1) [.Call (.Name "set" p2) [e] [] pos'] [] pos) Γ M k:=λσ G H Q L T q=>by
 refine cM (uG (aCS hh) hgO hmO Wi (oW (xY (aFZ hh hu) hgS hmS (by kernel_rfl) (oW pU vU he1) '#' '#' he1 hp1) vU he2) '#' '#' he2 hp2) ?_
 refine h σ G H _ L T λv G1 H1 d M1 s1 N ⟨ts,S,s,F,Z⟩ => ?_
 subst S
 obtain⟨a,ws,rfl,sq,dn⟩:=N.lst_
 obtain⟨as,rfl,hl,E⟩:=yB dn
 refine⟨a,as,ts,rfl,QE (QE (s1.rel.same _ _ sq)),hl,λi B=>R.eP s1.rel.same (E i B),F _ (uT _ _) λt n=>(uY ts t).mp n,λp zs D b Y => ?_⟩
 have j:∀z∈zs,SqT X.K G1 z.1 (z.2.map V.int):=λz c=>by
  obtain⟨i,B,J,U⟩:=Y z c
  have:=E i B
  rw[J,U] at this
  exact this
 have C:∀z∈zs,z.2∈ts:=λz c=>(uY ts _).mp (b.mem_iff.mp (qo.mpr ⟨z,c,rfl⟩))
 have P:zs.length<=4:=by
  rw[<- zLm (f:=λz:AT=>z.2),b.length_eq]
  exact F _ (uT _ _) λt n=>(uY ts t).mp n
 have g:=s1.rel.newO D (.ext (jQ (g8 X.w) p (zs.map (·.1))))
 refine⟨p,zs,rfl,bJ,λz c=>⟨R.eP g.rel.same (j z c),s _ (C z c)⟩,by omega,λl r hl2 hp2 O => ?_⟩
 have I:=aL8 (s1.rel.free D).2 g.rel
 have st:=(g.trans I).trans (I.rel.new (o := .lst (r.map λy=>qO y.1)) hl2)
 have hd:∀l:List AT,(∀y∈l,y∈zs)->Dens X.K G1 ((l.map (·.2)).map tI) (l.map λy=>qO y.1):=λl=>by
  induction l with
  |nil=>exact λ_=>cZ
  |cons y l ih=>exact λm=>cD (iA (j y (m y (.head _))) (Dens.of_map (λ_=>cP) _)) (ih λx W=>m x (.tail _ W))
 refine q _ _ _ _ _ (s1.trans st) (gX bJ ((hd r λy m=>hp2.mem_iff.mp m).up st.gg)) (Z (r.map (·.2)) ?_ (λt => ?_) ?_)
 ·exact ((hp2.map _).trans b).nodup_iff.mpr (uT _ _)
 ·exact ((hp2.map _).trans b).mem_iff.trans (uY ts t)
 ·rw[kv];exact O
end
end Z
namespace Q
open PySem L2 Z U
theorem aEE{g:Nat->Rat}{low high:Rat}(hl:low<=high):∀(n b:Nat),g b<=high->low<=g (b+n+1)->∃a,b<=a/\a<b+n+1/\low<=g (a+1)/\g a<=high
 |0,b,h1,h2=>⟨b,by lia,by lia,h2,h1⟩
 |n+1,b,h1,h2=>by
  by_cases h:low<=g (b+n+1)
  ·obtain⟨a,a1,a2,d,c⟩:=aEE hl n b h1 h
   exact⟨a,a1,by lia,d,c⟩
  ·refine⟨b+n+1,by lia,by lia,h2,?_⟩
   have:=nh.mp h
   grind
noncomputable def edT(p q r s x y h:Rat)(f:Nat):Rat:=if f=0 then x-p*h else if f=1 then y-q*h else if f=2 then x+r*h else y+s*h
noncomputable def loT(p q x y h:Rat)(f:Nat):Rat:=if f%2=0 then y-q*h else x-p*h
noncomputable def hiT(r s x y h:Rat)(f:Nat):Rat:=if f%2=0 then y+s*h else x+r*h
theorem o5{p q r s x h:Rat}{d:Sd}:tcS p q r s x y h d↔d.l=edT p q r s x y h d.f/\loT p q x y h d.f<=d.e/\d.b<=hiT r s x y h d.f:=by
 unfold tcS edT loT hiT
 by_cases h0:d.f%2=0
 ·simp only[h0,if_true]
 ·simp only[h0,if_false]
theorem aUZ{p q r s x h:Rat}(hp:0<=p)(hq:0<=q)(hr:0<=r)(hs:0<=s)(hh:0<=h)(f:Nat):loT p q x y h f<=hiT r s x y h f:=by
 have a1:=fc hp hh
 have a2:=fc hq hh
 have b:=fc hr hh
 have a:=fc hs hh
 unfold loT hiT
 split <;> grind
theorem aIF{ws:List Int}(u:UpI ws)(hj:j<ws.length)(h:i<=j):ws.getD i 0<=ws.getD j 0:=by
 rcases JZ h with e|e
 ·rw[e];exact WI _
 ·exact nu (aAJ u hj e)
section
variable {p q r s x h:Rat}
theorem aJV(ux:UpI xs)(uy:UpI ys)(hp:0<=p)(hq:0<=q)(hr:0<=r)(hs:0<=s)(hh:0<=h){f:Nat}{l:Int}:
  (∃u∈jo xs ys zs,tcS p q r s x y h u.q/\u.f=f/\u.l=l)↔∃u∈cuN xs ys zs 4,tcS p q r s x y h u.q/\u.f=f/\u.l=l:=by
 constructor
 ·rintro⟨u,c,j,rfl,rfl⟩
  obtain⟨d,hd,rfl⟩:=qo.mp c
  obtain⟨r1,r2,r3,r4,r5,_⟩:=R.fW hd
  obtain⟨t1,t2,t3⟩:=o5.mp j
  obtain⟨a,a1,a2,k,m⟩:=aEE (g:=λi=>(((alI xs ys d.f).getD i 0:Int):Rat)) (aUZ (x:=x) (y:=y) hp hq hr hs hh d.f) (d.e-d.b-1) d.b t3 (by rw[show d.b+(d.e-d.b-1)+1=d.e by lia];exact t2)
  exact⟨mkI xs ys d.f d.p a (a+1),wE.mpr ⟨_,_,_,r5 a a1 '!',rfl⟩,o5.mpr ⟨t1,k,m⟩,rfl,rfl⟩
 ·rintro⟨u,c,j,rfl,rfl⟩
  obtain⟨f,o,a,he,rfl⟩:=wE.mp c
  obtain⟨d,hd,rfl,rfl,t,n⟩:=R.aIN he
  obtain⟨r1,r2,r3,r4,r5,_⟩:=R.fW hd
  obtain⟨t1,t2,t3⟩:=o5.mp j
  have hl:=aDE (xs:=xs) (ys:=ys) d.f
  have up:=aG8 ux uy d.f
  refine⟨mkI xs ys d.f d.p d.b d.e,qo.mpr ⟨d,hd,rfl⟩,o5.mpr ⟨t1,du t2 ?_,du ?_ t3⟩,rfl,rfl⟩
  ·exact vp.mpr (aIF up '!' '!')
  ·exact vp.mpr (aIF up '!' '!')
end
abbrev FrI:=Nat×Int
noncomputable def frL(t:FrI):List Int:=[(t.1:Int),t.2]
noncomputable def frC(c:Rat)(t:FrI):FrT:=(t.1,(t.2:Rat)*c)
noncomputable def LtF(a b:FrT):Prop:=a.1<b.1\/a.1=b.1/\a.2<b.2
theorem LtF.irr{a b:FrT}(h:LtF a b)(g:LtF b a):False:=by
 unfold LtF at *
 rcases h with h|⟨_,h⟩ <;> rcases g with g|⟨_,g⟩
 ·lia
 ·lia
 ·lia
 ·grind
theorem aJF{l:List FrT}(h:l.Pairwise gS):(pZ l).Pairwise LtF/\∀x,x∈pZ l↔x∈l:=by
 refine⟨?_,λx=>by rw[<- aER h];exact (aDJ l [] x).trans '%'⟩
 have:∀(l acc:List FrT),l.Pairwise gS->(∀a∈acc,∀x∈l,gS a x)->acc.Pairwise LtF->(l.foldl m9 acc).Pairwise LtF:=λl=>by
  induction l with
  |nil=>exact λacc _ _ h=>h
  |cons x l ih =>
   intro acc j d c
   obtain⟨p1,m⟩:=jt.mp j
   refine ih (m9 acc x) m (λa h y e => ?_) ?_
   ·unfold m9 at h
    split at h
    ·exact d a h y (.tail _ e)
    ·rcases jf.mp h with h|h
     ·exact d a h y (.tail _ e)
     ·rw[ql] at h;rw[h];exact p1 y e
   ·unfold m9
    split
    ·exact c
    ·rename_i hn
     refine vo.mpr ⟨c,v7 _ _,λa h b g => ?_⟩
     rw[ql] at g
     subst g
     have hle:=d a h b (.head _)
     have f:a≠b:=λz=>hn (z▸h)
     rcases hle with q|⟨i,k⟩
     ·exact .inl q
     ·exact .inr ⟨i,Rat.lt_of_le_of_ne k λz=>f (n7 i z)⟩
 rw[<- aER h]
 exact this l [] h (λa z=>nomatch z) .nil
theorem aTE{a b:FrI}(h:HT.lexLt (frL b) (frL a)=false)(hne:a≠b):a.1<b.1\/a.1=b.1/\a.2<b.2:=by
 unfold frL at h
 rw[HT.jF] at h
 by_cases d:(b.1:Int)=(a.1:Int)
 ·rw[if_pos d,HT.jF] at h
  by_cases c:b.2=a.2
  ·exact absurd (n7 '!' c.symm) hne
  ·rw[if_neg c] at h;have:=of_decide_eq_false h;exact .inr '+'
 ·rw[if_neg d] at h;have:=of_decide_eq_false h;exact .inl '!'
theorem aP8{c:Rat}(hc:0<c){F:List FrT}(hF:F.Pairwise LtF){vs:List FrI}(hs:(vs.map frL).Pairwise λx y=>HT.lexLt y x=false)(nd:vs.Nodup)(hm:∀t,t∈F↔∃v∈vs,t=frC c v):F=vs.map (frC c):=by
 refine wH (λx y=>LtF.irr) hF ?_ λt=>by rw[hm,qo];exact exists_congr λv=>and_congr_right λ_=>eq_comm
 rw[kv] at hs ⊢
 refine (hs.and nd).imp λ{a b} ⟨f,e⟩ => ?_
 rcases aTE f e with q|⟨g,d⟩
 ·exact .inl q
 ·refine .inr ⟨g,?_⟩
  have:(a.2:Rat)<(b.2:Rat):=gq.mpr d
  exact (Rat.mul_lt_mul_right hc).mpr this
theorem aA0:∀(us:List (List Int)),(∀t∈us,∃v:FrI,t=frL v)->∃vs:List FrI,us=vs.map frL
 |[],_=>⟨[],rfl⟩
 |t::us,h=>by
  obtain⟨v,rfl⟩:=h t (.head _)
  obtain⟨vs,rfl⟩:=aA0 us λt a=>h t (.tail _ a)
  exact⟨v::vs,rfl⟩
theorem wG{a b:FrI}(h:frL a=frL b):a=b:=by
 unfold frL at h
 simp only[List.cons.injEq,and_true] at h
 exact n7 '!' h.2
end Q
namespace Q
open PySem L2 Z U
section
variable (ux:xs.Pairwise (· < ·))(uy:ys.Pairwise (· < ·))(gz:R.Good (xs.length-1) zs)(hz:zs.length=ys.length-1){c:Rat}(hc:0<c)
include gz hz hc in
theorem aKR{p q r s x h:Rat}:(iX (bQ ux uy gz hz hc) p q r s (x*c) (y*c) (h*c)).map (frK (bQ ux uy gz hz hc))=((jo xs ys zs).filter (tcB p q r s x y h)).map λu=>frC c (u.f,u.l):=by
 have b:=aHN ux uy gz hz hc
 unfold iX
 have g:((gZ (bQ ux uy gz hz hc)).filter (uJ (bQ ux uy gz hz hc) p q r s (x*c) (y*c) (h*c))).map (sdG (bQ ux uy gz hz hc).ws (bQ ux uy gz hz hc).us)=((jo xs ys zs).filter (tcB p q r s x y h)).map λu=>scS c u.q:=by
  refine tJ b λd hd u i e => ?_
  rw[xj,uF,jU,aP0 (R.fW hd).1,e,aHX hc]
 have a:=congrArg (gC λd:Sd=>((d.f,d.l):FrT)) g
 rw[ve,ve] at a
 exact a
noncomputable abbrev yX(e n w s:Int)(q:Int×Int×Int):List FrT:=
 pZ ((iX (bQ ux uy gz hz hc) e n w s (qb q.1 q.2.2*c) (qb q.2.1 q.2.2*c) (c0 (bQ ux uy gz hz hc) e n w s (qb q.1 q.2.2*c) (qb q.2.1 q.2.2*c))).map (frK (bQ ux uy gz hz hc)))
include gz hz hc in
theorem aR3{e n w s:Int}{q:Int×Int×Int}(o:Pp e n w s){HH:Rat}(h0:0<=HH)(hH:c0 (bQ ux uy gz hz hc) e n w s (qb q.1 q.2.2*c) (qb q.2.1 q.2.2*c)=HH*c){us:List Si}(hus:∀u,u∈us↔u∈cuN xs ys zs 4){vs:List FrI}(hs:(vs.map frL).Pairwise λx y=>HT.lexLt y x=false)(nd:vs.Nodup)(hm:∀v,v∈vs↔∃u∈us,tcB e n w s (qb q.1 q.2.2) (qb q.2.1 q.2.2) HH u=true/\(u.f,u.l)=v):yX ux uy gz hz hc e n w s q=vs.map (frC c):=by
 have a:=aJR o
 have i:=aM7 (bQ ux uy gz hz hc) e n w s (qb q.1 q.2.2*c) (qb q.2.1 q.2.2*c) (c0 (bQ ux uy gz hz hc) e n w s (qb q.1 q.2.2*c) (qb q.2.1 q.2.2*c))
 refine aP8 hc (aJF i).1 hs nd λt => ?_
 rw[(aJF i).2,hH,aKR ux uy gz hz hc,qo]
 have h:=λ{f:Nat}{l:Int}=>aJV (zs:=zs) (x:=qb q.1 q.2.2) (y:=qb q.2.1 q.2.2) (f:=f) (l:=l) ux uy (g9 a.p) (g9 a.q) (g9 a.r) (g9 a.s) h0
 constructor
 ·rintro⟨u,d,rfl⟩
  obtain⟨k,j⟩:=wy.mp d
  obtain⟨b,v1,v2,g,v4⟩:=(h (f:=u.f) (l:=u.l)).mp ⟨u,k,jU.mp j,rfl,rfl⟩
  exact⟨(u.f,u.l),(hm _).mpr ⟨b,(hus b).mpr v1,jU.mpr v2,by rw[g,v4]⟩,rfl⟩
 ·rintro⟨v,z,rfl⟩
  obtain⟨u,d,m,rfl⟩:=(hm v).mp z
  obtain⟨b,v1,v2,g,v4⟩:=(h (f:=u.f) (l:=u.l)).mpr ⟨u,(hus u).mp d,jU.mp m,rfl,rfl⟩
  exact⟨b,wy.mpr ⟨v1,jU.mpr v2⟩,by rw[g,v4]⟩
include gz hz hc in
theorem aNJ{e n w s:Int}{q:Int×Int×Int}(o:Pp e n w s)(ho:¬clo (toQ xs) (toQ ys) zs (qb q.1 q.2.2) (qb q.2.1 q.2.2)):yX ux uy gz hz hc e n w s q=[]:=by
 have b:=aJR o
 have a:=(aI3 ux uy gz hz hc (x:=qb q.1 q.2.2) (y:=qb q.2.1 q.2.2)).mpr ho
 have f:c0 (bQ ux uy gz hz hc) e n w s (qb q.1 q.2.2*c) (qb q.2.1 q.2.2*c)=0:=by
  unfold c0
  rw[if_neg λz=>by
   have:=(aGJ _ _ _).mp z
   rw[a] at this
   exact absurd this '#']
 unfold yX
 have:iX (bQ ux uy gz hz hc) e n w s (qb q.1 q.2.2*c) (qb q.2.1 q.2.2*c) (c0 (bQ ux uy gz hz hc) e n w s (qb q.1 q.2.2*c) (qb q.2.1 q.2.2*c))=[]:=by
  unfold iX
  rw[yf]
  intro d hd z
  rw[uF,f] at z
  exact aAQ b a hd z
 rw[this]
 rfl
end
structure DueIs{xs ys:List Int}{zs:List Str}(ux:Up7 xs)(uy:Up7 ys)(gz:R.Good (xs.length-1) zs)(hz:zs.length=ys.length-1)(e n w s:Int)(q:Int×Int×Int)(vs:List FrI):Prop where
 few:vs.length<=4
 bd:∀v∈vs,v.1<4/\v.2.natAbs<=1000000000
 eq:∀{c:Rat} (hc:0<c),yX ux.up uy.up gz hz hc e n w s q=vs.map (frC c)
noncomputable def aSG:Ct:=λds M k=>∃(xs ys:List Int) (zs:List Str) (ux:Up7 xs) (uy:Up7 ys) (gz:R.Good (xs.length-1) zs) (hz:zs.length=ys.length-1) (e n w s:Int) (q:Int×Int×Int),ds=[.lst (xs.map .int), .lst (ys.map .int), .lst (zs.map .str),jM e n w s,ptD q]/\2<=xs.length/\2<=ys.length/\Pp e n w s/\Pt q/\∀vs,DueIs ux uy gz hz e n w s q vs->k (.lst ((vs.map frL).map tI)) M
theorem aUT(ux:Up7 xs)(uy:Up7 ys){u:Si}(h:u∈cuN xs ys zs 4):u.f<4/\u.l.natAbs<=1000000000/\u.b.natAbs<=1000000000/\u.e.natAbs<=1000000000:=by
 obtain⟨f,p,a,he,rfl⟩:=wE.mp h
 have bd:∀{l:List Int},(∀x∈l, -1000000000<=x/\x<=1000000000)->∀i,(l.getD i 0).natAbs<=1000000000:=λ{l} hl i=>by
  by_cases h:i<l.length
  ·have:=hl (l.getD i 0) (by simp[h])
   lia
  ·rw[zGd,qw '!'];decide
 have d:∀x∈lsI xs ys f, -1000000000<=x/\x<=1000000000:=by unfold lsI;split;exact ux.bd;exact uy.bd
 have c:∀x∈alI xs ys f, -1000000000<=x/\x<=1000000000:=by unfold alI;split;exact uy.bd;exact ux.bd
 exact⟨he.1,bd d _,bd c _,bd c _⟩
theorem aLB{l:List FrT}(hl:l.length<=4)(h:∀t∈l,t.1<4/\Sml t.2):smD (.lst (l.map eQ))=true/\wt (.lst (l.map eQ))<=10000000:=by
 have e:∀q:Rat,wt (aT q)<=200:=λq=>by simp only[aT,pairD,wt,wts];decide
 constructor
 ·simp only[smD]
  refine rG λd hd => ?_
  obtain⟨t,b,rfl⟩:=qo.mp hd
  have a:=h t b
  have c:=aLL a.2
  simp only[eQ,smD,smDs,c.1,vz]
  exact decide_eq_true '!'
 ·simp only[wt]
  have a:=vQ (B:=400) (ds:=l.map eQ) λd hd=>by
   obtain⟨t,b,rfl⟩:=qo.mp hd
   simp only[eQ,wt,wts]
   have:=e t.2
   lia
  rw[zLm] at a
  have:l.length*(400+2)<=4*402:=ku hl (qk _)
  lia
theorem aKQ{v m:Int}(hv:v.natAbs<=1000000000)(m1:1<=m)(m2:m<=1000000007):Sml ((v:Rat)*qb 1 m):=by
 have f1:=(Fr.int (m:=1) (B:=1000000000) (x:=v) '!').mul (jD (a:=1) (show 0<m by lia))
 have:=f1.bd '!'
 exact⟨qn this.1 '&',qn (qq this.2 (show 1*m.toNat<=1000000007 by lia)) '&'⟩
theorem few4{p q r s x h:Rat}{us:List Si}(hf:∀u∈us,u.f<4){ts:List (List Int)}(nd:ts.Nodup)(ht:∀t∈ts,t∈(us.filter (tcB p q r s x y h)).map λu=>frL (u.f,u.l)):ts.length<=4:=by
 obtain⟨vs,rfl⟩:=aA0 ts λt h=>by
  obtain⟨u,_,rfl⟩:=qo.mp (ht t h)
  exact⟨_,rfl⟩
 rw[zLm]
 have c:∀v∈vs,v.1<4/\(v.2:Rat)=edT p q r s x y h v.1:=λv c=>by
  obtain⟨u,j,e⟩:=qo.mp (ht _ (qo.mpr ⟨v,c,rfl⟩))
  obtain⟨w,n⟩:=wy.mp j
  have e:=wG e
  subst e
  exact⟨hf u w,(o5.mp (jU.mp n)).1⟩
 have i:vs.Nodup:=by
  unfold JN at nd ⊢
  rw[kv] at nd
  exact nd.imp λh e=>h (by rw[e])
 rw[<- zLm (f:=λv:FrI=>v.1)]
 refine SO.p3 4 _ ?_ λx z => ?_
 ·unfold JN
  rw[kv]
  refine cw ?_ i
  intro a b o m g e
  refine g (n7 e ?_)
  have d:=(c a o).2
  have k:=(c b m).2
  rw[e] at d
  exact xm.mp (d.trans k.symm)
 ·obtain⟨v,d,rfl⟩:=qo.mp z
  exact (c v d).1
end Q
namespace L2
open PySem PySem.Spec PyProof.Rows
theorem aAF{y:Str}(iy:Nat){sc:Scope}(ns:List Str)(cap:List Nat)(hNd:N.Nodup)(hiy:N[iy]?=some y)(hyl:sc.names.lookup y=some .local)(hc:X.calm=true)(hsc:X.env.scope=sc)(hN:X.N=N)(ok:wX sc scope x1 x2 ns cap N=true)(hi:PI X (.Tuple [.Name x1 px1, .Name x2 px2] kk tp) iter wi)(ht:∀cs C s₀ H₀ fp,PIf fp.21 ifs tt)(he:∀cs C s₀ H₀ fp,PE fp.21 elt te)(hs:∀v,foldedSetIterable iter X.env v=pure v:=by intro _;rfl)(hsw:d4 '.' (some (.Name y py)) spos.line X.env=pure true:=by rfl):
  PS X (.Assign [.Name y py] '.' spos) (zI (aB0 X.K wi cap tt te) (oB iy)):=by
 subst hsc hN
 unfold wX at ok
 simp only[qx,decide_eq_true_eq] at ok
 obtain⟨⟨i,g⟩,l⟩:=ok
 have k:=n8 i
 have d:=n8 g
 have w:(x1::x2::ns).Nodup:=by
  obtain⟨a1,a2⟩:=x9.mp k.hNc
  obtain⟨B,E⟩:=x9.mp d.hNc
  refine x9.mpr ⟨λh => ?_,d.hNc⟩
  rcases qp.mp h with h|h
  ·exact l h
  ·exact a1 h
 have one:∀{x:Str},(scope.names.lookup x=some .local\/scope.names.lookup x=some .cell)->Loc (cI scope X.env) x:=λh=>by
  rcases h with z|z
  ·exact .inl (yu z)
  ·exact .inr (eO z)
 have two:∀{x:Str},(scope.names.lookup x=some .local\/scope.names.lookup x=some .cell)->scope.names.lookup x=some .cell\/(cI scope X.env).names.lookup x=some .local:=λh=>by
  rcases h with z|z
  ·exact .inr (yu z)
  ·exact .inl z
 intro pins s σ H D I h
 rw[Kk _ _ _ _ hsw]
 refine qa (dk (qa ?_))
 show wpAny _ X.A (do let _ <- gR '.' scope X.env _ (Jv []) false (eval iter X.env) (some (assign (.Name y py) X.env))) _ _ s
 refine qa (w7 (aGE hc k.hkind k.hnames (one k.hx) (two k.hx) (one d.hx) (two d.hx) w k.hlen k.hcap k.hns k.hnsk k.hfree hi ht he hs (use:=some (assign (.Name y py) X.env)) (Q':=λ_ p=>SP X pins D .next p) I h λL C H' p J q ⟨m,hn⟩ c => ?_) (λ_ p u=>wpAny_pure u.16) λ_ _ e=>e)
 refine se (qM J hNd hiy (.inl hyl) (v := .ref L) rfl (λs2 J2 ⟨a,r,j⟩ => ?_) (.inr hyl))
 have n:C≠a:=by
  rcases j with rfl|j
  ·exact c.hL
  ·exact cb (c.h2 y a j)
 refine⟨m,hn.sameBut r n,λF f => ?_⟩
 exact⟨_,H',J2.turned (t':=s2.toks) (it:=C) (λb o t e=>(f.2 b t).trans e) c.hn c.hL (.inr c.h1) c.h2 c.h3,q⟩
end L2
namespace Z
open PySem L2
section
variable {F:Fin}
theorem aC2(iy:Nat){y:Str}{sc:Scope}(ns:List Str)(cap:List Nat)(hNd:N.Nodup)(h:GI X (.Tuple [.Name x1 px1, .Name x2 px2] kk tp) iter Γ M (Comp2 X x1 x2 ns cap elt ifs scope Γ λd M1=>F.nx (Γ.set iy (some d)) M1))(hsc:X.env.scope=sc:=by rfl)(hN:X.N=N:=by rfl)(ok:wX sc scope x1 x2 ns cap N=true:=by first|decide +kernel|kernel_rfl!)(hiy:N[iy]?=some y:=by rfl)(hyl:sc.names.lookup y=some .local:=by rfl)(hc:X.calm=true:=by rfl)(hs:∀v,foldedSetIterable iter X.env v=pure v:=by intro _;rfl)(hsw:d4 '.' (some (.Name y py)) spos.line X.env=pure true:=by rfl):
  G1 X (.Assign [.Name y py] '.' spos) Γ M F:=λσ G H E b e q=>by
 refine iF (aAF (tt:=λσ H Q=>∀cs C s₀ H₀ a,aBU a.21 ifs σ H Q) (te:=λσ H Q=>∀cs C s₀ H₀ a,tU a.21 elt σ H Q) iy ns cap hNd hiy hyl hc hsc hN ok pUI (λcs C s₀ H₀ a pins s σ H Q I h=>h cs C s₀ H₀ a pins s I) (λcs C s₀ H₀ a pins s σ H Q I h=>h cs C s₀ H₀ a pins s I) hs hsw) ?_
 exact aPV h b e λv G1 H1 d M1 s1 f c=>q.nx _ _ _ _ _ s1 ((b.up s1.gg).set f iy) c
theorem aQ3{cap:List Nat}(hl:ds.length<=sizeLine)(hpair:∀d∈ds,∃d1 d2,d = .tup [d1,d2])(I:Nat->List D->Mem->Prop)(h0:I 0 [] M1)(hs:∀i d1 d2 acc M2,ds[i]?=some (.tup [d1,d2])->I i acc M2->∀cs C s₀ H₀ fp,GIf fp.21 ifs (some d1::some d2::cap.map λk=>(Γ[k]?).join) M2 λc M3 =>
   if c=true then (∀cs C s₀ H₀ fp,GE fp.21 elt (some d1::some d2::cap.map λk=>(Γ[k]?).join) M3 (λy M4=>I (i+1) (acc++[y]) M4)) else I (i+1) acc M3)(hd:∀acc M2,I ds.length acc M2->∀a,M2 a=none->k (.mt a) (bV M2 a (.lst acc))):Comp2 X x1 x2 ns cap elt ifs scope Γ k ds M1:=⟨hl,hpair,I,h0,hs,hd⟩
end
end Z
namespace Q
open PySem L2 Z
open U
section
variable {K:qh}
abbrev zl0:List Str:=["_law_xs", "_law_ys", "_law_signs_here", "_law_paces_here", "_law_point_here"]
abbrev zl1:List Str:=["_law_pen_here", "_law_xs", "_law_ys", "_law_signs_here", "_law_paces_here"]
abbrev zl2:List Str:=["_law_xs", "_law_ys", "_law_signs_here", "_law_point_here"]
abbrev zl3:List Str:=["_law_outside_here", "_law_paces_here", "_law_point_here"]
abbrev zl4:List Str:=["_law_paces_here", "_law_point_here", "_law_high_here"]
abbrev zl5:List Str:=["_law_xs", "_law_ys", "_law_signs_here", "_law_bottom"]
abbrev zl6:List Str:=["_law_pen_here", "_law_lines_here", "_law_bottom"]
abbrev zl7:List Str:=["_law_xs", "_law_ys", "_law_signs_here"]
abbrev zl8:List Str:=["_law_pen_here", "_law_xs", "_law_ys"]
abbrev zl9:List Str:=["yard", "facing", "place", "band"]
abbrev zl10:List Str:=["lines", "where", "down", "up"]
abbrev zl11:List Str:=["_law_box_here", "_law_unit"]
abbrev zl12:List Str:=["_law_pen_here", "_law_many"]
abbrev zl13:List Str:=["_law_upper", "_law_bottom"]
abbrev zl14:List Str:=["_law_pen_here", "_law_gap"]
abbrev zl15:List Str:=["paces", "x", "y", "time"]
abbrev zl16:List Str:=["yard", "facing", "place"]
abbrev zl17:List Str:=["yard", "paces", "x", "y"]
abbrev zl18:List Str:=["yard", "by_x", "by_y"]
abbrev zl19:List Str:=["yard", "across", "up"]
abbrev zl20:List Str:=["xs", "ys", "rows"]
abbrev zl21:List Str:=["rows", "xs", "ys"]
abbrev zl22:List Str:=["top", "bottom"]
abbrev zl23:List Str:=["rows", "place"]
abbrev zl24:List Str:=["row", "places"]
abbrev zl25:List Str:=["thing", "wide"]
abbrev zl26:List Str:=["yard", "edges"]
abbrev zl27:List Str:=["one", "other"]
abbrev zl28:List Str:=["pace", "time"]
abbrev zl29:List Str:=["_law_script"]
abbrev zl30:List Str:=["way", "pace"]
abbrev zl31:List Str:=["thing"]
theorem zSc{ps:List Str}{sc:Scope}(h:FnScope N ps sc:=by exact⟨rfl,rfl,rfl,by decide +kernel,rfl,by decide +kernel,by decide +kernel⟩):FnScope N ps sc:=h
theorem aCU:FnScope zl31 zl31 (aM lQ):=zSc
abbrev p4(P w K mg base):=Fo P w K mg base "is_whole" lQ zl31 1 aLX
theorem aCW(Df:R.Df K mg "is_whole" lQ zl31 f fd)(T:Bt mg):p4 P w K mg z:=by
 refine⟨f,fd,Df,a9 Df aCU (λds M k h => ?_) (λj A outer s H E l ds M k h => ?_)⟩
 ·obtain⟨d,rfl,_⟩:=h;rfl
 obtain⟨d,rfl,e,a⟩:=h
 refine aI (aR (jI (mG (.inl rfl) T.isi T.int R.BI ⟨_, .self e,⟨_,rfl,?_⟩⟩.6)))
 rcases aTB d with ⟨i,rfl⟩|⟨c,b|⟨b,g⟩⟩
 ·rw[iI]
  refine bF (jG (oH (mG (.inr (.inl rfl)) T.isi T.bool R.BB ⟨_, .self trivial,?_⟩.6)))
  rw[bI]
  exact⟨_,rfl,a⟩
 ·rw[b]
  rw[c] at a
  exact cL a
 ·rw[b]
  refine bF (jG (oH (mG (.inr (.inl rfl)) T.isi T.bool R.BB ⟨_, .self e,?_⟩.6)))
  rw[g]
  rw[c] at a
  exact⟨_,rfl,a⟩
theorem fJ:FnScope ["one", "other", "rest"] zl27 (aM fU):=zSc
abbrev m7(P w K mg z):=Fo P w K mg z "common_divisor" fU zl27 1 aNS
theorem sQ(Df:R.Df K mg "common_divisor" fU zl27 f fd)(T:Bt mg):m7 P w K mg z:=by
 refine⟨f,fd,Df,a9 Df fJ (λds M k h => ?_) (λi A outer s H E j ds M k h => ?_)⟩
 ·obtain⟨a,b,rfl,_⟩:=h;rfl
 obtain⟨a,b,rfl,g⟩:=h
 refine aD (aBN (λm Γ' M'=>M'=M/\∃(x y:Int) (v:Option D),Γ'=[some (.int x),some (.int y),v]/\wb x y=wb a b/\m=y.natAbs) (n:=b.natAbs) ⟨rfl,a,b,_,rfl,rfl,rfl⟩ ?_)
 rintro m Γ' M' ⟨rfl,x,y,v,rfl,e,rfl⟩
 refine bL kJ (zX ⟨_,rfl,(ite2 (λd => ?_) (λd => ?_))⟩).5.8
 ·have c:y≠0:=λz=>by subst z;simp at d
  refine aD (aO 2 fJ.nd (aF aD4 (aX c (aD (aO 0 fJ.nd (aI (aO 1 fJ.nd ⟨_,Num.aDP x y c,rfl,_,_,_,rfl,?_,rfl⟩.10)).8))).8.6))
  rw[Num.aAW];exact e
 ·have c:y=0:=by simpa using d
  subst c
  refine aI (aR (aP mS T.abs yw (qQ ?_).4.6.3))
  rw[R.aNC,e]
  exact g
theorem gQ:FnScope ["_law_xs", "_law_ys", "_law_signs_here", "_law_blank", "_law_rows", "_law_found", "_law_j", "_law_k"] zl7 (aM rW):=zSc
abbrev aEM(P w K mg z):=Fo P w K mg z "_law_units" rW zl7 2 cUnits
theorem aLO(Df:R.Df K mg "_law_units" rW zl7 f fd)(T:Bt mg):aEM P w K mg z:=by
 refine⟨f,fd,Df,a9 Df gQ (λds M k h => ?_) (λU A outer s H E hr ds M k h => ?_)⟩
 ·obtain⟨xs,l,zs,rfl,_⟩:=h;rfl
 obtain⟨xs,l,zs,rfl,q,p,lx,Z,I,hz,Y⟩:=h
 have fx:=q.few
 have fy:=p.few
 refine aD (aO 3 gQ.nd (aF r8 (ge_str (aF bS (b5 '*' (bA (rK (by rw[zLm];lia) (by rw[zLm];lia) (by rw[zLm];show 1*_<=_;exact R.aU '!') ?_)).5).4.6.3.18))))
 rw[zLm,show ((xs.length:Int)+1).toNat=xs.length+1 by lia,show iY "." (xs.length+1)=c7 (xs.length+1) from aDS _]
 refine aD (aO 4 gQ.nd (aF fC (aF fC (bW ⟨'-',(bC [] [] (bP ⟨_, .inr (.inl rfl),(b8 (by rw[zLm];exact R.aU '!') (λi acc M'=>M'=M/\acc=((zs.take i).map f7).map D.str) ⟨rfl,rfl⟩ ?_ ?_)⟩.10))⟩.4.13.3))))
 ·rintro i d acc M' hd ⟨rfl,rfl⟩ cs C s₀ H₀ W
  obtain⟨z,v,rfl⟩:=b4 hd
  have B:=(I z (zMo v)).1
  have t:=uN z '!'
  refine bG (bF λcs C s₀ H₀ W=>(aF lS (aF lS (ge_str (r0 t.1 (ge_str (r0 t.2 ?_))).6))))
  rw[show ji "." ++ z++ji "." = f7 z from dotted z]
  refine⟨rfl,?_⟩
  rw[bU v,qi]
  rfl
 rintro acc M ⟨rfl,rfl⟩
 rw[zLm,jb]
 refine eZ '*' '*' (by rw[zLm,zLm];exact R.aU (show 1+zs.length<=_ by lia)) (bW ⟨'-',(eZ '*' '*' (by rw[qe,zLm,zLm];exact R.aU (show 1+zs.length+1<=_ by lia)) ?_)⟩.4.13.3)
 rw[show [D.str (c7 (xs.length+1))]++(zs.map f7).map D.str++[D.str (c7 (xs.length+1))]=(eN (xs.length+1) zs).map D.str by unfold eN;simp]
 have S:xs.length+1=xs.length-1+2:=by lia
 have X:=yA (xs.length+1) zs
 refine aD (aO 5 gQ.nd (f6 ⟨(show 0<=sizeLine by decide),λa V=>(aD (cW (rJ T.range (aF bH (b5 '*' (bA ?_.4).5).4.15.3.18).3.5.3)))⟩.4))
 rw[zLm,X]
 refine⟨_,_,rfl,⟨by decide,by decide,by lia,by lia⟩,?_⟩
 rw[show ((((zs.length+2:Nat):Int)-1)-1).toNat=l.length-1 by lia]
 refine⟨λi Γ' M'=>∃us:List Si,(∃v6 g,Γ'=[some (.lst (xs.map .int)),some (.lst (l.map .int)),some (.lst (zs.map .str)),some (.str (c7 (xs.length+1))),some (.lst ((eN (xs.length+1) zs).map .str)),some (.mt a),v6,g])/\M'=bV M a (.lst (us.map siD))/\UnI xs l zs (S1 i 0) us/\us.length<=8*i,⟨[],⟨_,_,rfl⟩,rfl,un_0,by simp⟩,?_,?_⟩
 ·rintro j d Γ' M' hd ⟨us,⟨v6,g,rfl⟩,rfl,b,c⟩
  obtain⟨L,rfl⟩:=cA hd
  rw[show (1:Int)+(j:Int)=((j+1:Nat):Int) by lia]
  obtain⟨z,e,B,G⟩:=xH I (j:=j+1) '!'
  rw[<- S] at e B
  refine aV 6 gQ.nd (aI (cW (eH T.range (b5 '*' ?_.4).4.6.3.18.3)))
  rw[zLm]
  refine⟨_,rfl,by lia,by lia,?_⟩
  rw[qm]
  refine⟨λi Γ' M'=>∃us:List Si,(∃g,Γ'=[some (.lst (xs.map .int)),some (.lst (l.map .int)),some (.lst (zs.map .str)),some (.str (c7 (xs.length+1))),some (.lst ((eN (xs.length+1) zs).map .str)),some (.mt a),some (.int ((j+1:Nat):Int)),g])/\M'=bV M a (.lst (us.map siD))/\UnI xs l zs (S1 j i) us/\us.length<=8*j+i,⟨us,⟨_,rfl⟩,rfl,b,by lia⟩,?_,?_⟩
  ·rintro k d Γ' M' hd ⟨us,⟨g,rfl⟩,rfl,b,c⟩
   obtain⟨o,rfl⟩:=cA hd
   rw[we]
   have r:=G k '!'
   have x:=G (k+1) '!'
   rw[show (((k+1:Nat):Int)-1)=(k:Int) by lia,show (((j+1:Nat):Int)-1)=(j:Int) by lia] at x
   rw[show (((j+1:Nat):Int)-1)=(j:Int) by lia] at r
   have at1:=R.iM (z:=z) (j:=k) '!'
   have at2:atI z.cps.toList ((k:Int)+1)=some (R.atS z (k+1)):=R.iM (j:=k+1) '!'
   rw[r] at at1
   rw[x] at at2
   refine aV 7 gQ.nd (aI (bN (bL kJ (aB 6 rfl (aH '*' (iJ e) (aB 7 rfl (fP (R.aU '!') at1 (aB 6 rfl (aH '*' (iJ e) (aF bS (aB 7 rfl (bA (fP (R.aU '!') at2 (mO ⟨_,rfl,?_⟩))).5)))).15.7.7)))).15.7.7)))
   rw[aMJ]
   cases hc:(R.aJ zs ((k:Int)-1) (j:Int) != R.aJ zs (k:Int) (j:Int)) with
   |true =>
    refine bF (aI (eU (fK j1 jy jx c8 (aB 5 rfl (⟨⟨rfl,_,aQ⟩,(bY (bW ⟨'/',(cJ yD T.int R.BI (fR f9 (aB 6 rfl (aH '*' (iJ e) (aB 7 rfl (fP (R.aU '!') at1 (ge_str (o4 (aC4 (aH '*' (aQ9 _) ?_.3)).4)))))).15.7.7).3)⟩.4.5.3.5.3).7.3).3⟩)))))
    refine aG aE (aB 7 rfl (aH '*' (eS '!') (aF bH (aB 6 rfl (bA (aH '*' (by rw[show ((j+1:Nat):Int)-1=(j:Int) by lia];exact eS '!') (aB 6 rfl (aH '*' (eS '!') ⟨(show 4<=sizeLine by decide),(dE aQ (by rw[zLm];exact qn (show _<=1000 by lia) '#') (⟨us++[mkI xs l (if R.aJ zs ((k:Int)-1) (j:Int)=true then 2 else 0) k j (j+1)],⟨_,rfl⟩,?_,aP5 q.up p.up b o L (by simpa using hc) rfl,by rw[qe];show us.length+1<=_;lia⟩)).4⟩.4)).8.7.3)).5)).8.7.3)).6
    rw[dP,qi]
    congr 2
    cases R.aJ zs ((k:Int)-1) (j:Int) <;> rfl
   |false=>exact cL (bD ⟨us,⟨_,rfl⟩,rfl,aKO b (by simpa using hc),by lia⟩)
  ·rintro Γ' M' ⟨us,⟨g,rfl⟩,rfl,b,c⟩
   rw[bK] at b c
   exact⟨us,⟨_,_,rfl⟩,rfl,aNQ b,by lia⟩
 rintro Γ' M' ⟨N,⟨v6,g,rfl⟩,rfl,n,u⟩
 rw[bK] at n u
 refine aD (cW (eH T.range (b5 '*' ?_.4).4.8.3.18.3))
 rw[zLm]
 refine⟨_,rfl,by lia,by lia,?_⟩
 rw[qm]
 refine⟨λi Γ' M'=>∃us:List Si,(∃v6 g,Γ'=[some (.lst (xs.map .int)),some (.lst (l.map .int)),some (.lst (zs.map .str)),some (.str (c7 (xs.length+1))),some (.lst ((eN (xs.length+1) zs).map .str)),some (.mt a),v6,g])/\M'=bV M a (.lst (us.map siD))/\UnI xs l zs (S2 i 0) us/\us.length<=60+8*i,⟨N,⟨_,_,rfl⟩,rfl,aQW n,by lia⟩,?_,?_⟩
 ·rintro j d Γ' M' hd ⟨us,⟨v6,g,rfl⟩,rfl,b,c⟩
  obtain⟨L,rfl⟩:=cA hd
  rw[we]
  obtain⟨z,e,B,G⟩:=xH I (j:=j) '!'
  obtain⟨Q,m,J,O⟩:=xH I (j:=j+1) '!'
  rw[<- S] at e B m J
  have y:atI ((eN (xs.length+1) zs).map D.str) ((j:Int)+1)=some (.str Q):=iJ (j:=j+1) m
  refine aV 6 gQ.nd (aI (cW (rJ T.range (b5 '*' ?_.4).4.6.3.18.3.5.3)))
  rw[zLm]
  refine⟨_,_,rfl,⟨by decide,by decide,by lia,by lia⟩,?_⟩
  rw[show ((xs.length:Int)-1).toNat=xs.length-1 by lia]
  refine⟨λi Γ' M'=>∃us:List Si,(∃g,Γ'=[some (.lst (xs.map .int)),some (.lst (l.map .int)),some (.lst (zs.map .str)),some (.str (c7 (xs.length+1))),some (.lst ((eN (xs.length+1) zs).map .str)),some (.mt a),some (.int (j:Int)),g])/\M'=bV M a (.lst (us.map siD))/\UnI xs l zs (S2 j i) us/\us.length<=60+8*j+i,⟨us,⟨_,rfl⟩,rfl,b,by lia⟩,?_,?_⟩
  ·rintro k d Γ' M' hd ⟨us,⟨g,rfl⟩,rfl,b,c⟩
   obtain⟨o,rfl⟩:=cA hd
   rw[show (1:Int)+(k:Int)=((k+1:Nat):Int) by lia]
   have r:=G (k+1) '!'
   have x:=O (k+1) '!'
   rw[show (((k+1:Nat):Int)-1)=(k:Int) by lia] at r
   rw[show (((k+1:Nat):Int)-1)=(k:Int) by lia,show (((j+1:Nat):Int)-1)=(j:Int) by lia] at x
   have at1:=R.iM (z:=z) (j:=k+1) '!'
   have at2:=R.iM (z:=Q) (j:=k+1) '!'
   rw[r] at at1
   rw[x] at at2
   refine aV 7 gQ.nd (aI (bN (bL kJ (aB 6 rfl (aH '*' (iJ e) (aB 7 rfl (fP (R.aU '!') at1 (aF bS (aB 6 rfl (bA (aH '*' y (aB 7 rfl (fP (R.aU '!') at2 (mO ⟨_,rfl,?_⟩))))).5)).15.7.7)))).15.7.7)))
   rw[aMJ]
   cases hc:(R.aJ zs (k:Int) ((j:Int)-1) != R.aJ zs (k:Int) (j:Int)) with
   |true =>
    refine bF (aI (eU (fK j1 jy jx c8 (aB 5 rfl (⟨⟨rfl,_,aQ⟩,(bY (bW ⟨'/',(cJ yD T.int R.BI (fR f9 (aB 6 rfl (aH '*' (iJ e) (aB 7 rfl (fP (R.aU '!') at1 (ge_str (o4 (aC4 (aH '*' (aRZ _) ?_.3)).4)))))).15.7.7).3)⟩.4.5.3.5.3).7.3).3⟩)))))
    refine aG aE (aB 6 rfl (aH '*' (eS '!') (aF bH (aB 7 rfl (bA (aH '*' (by rw[show ((k+1:Nat):Int)-1=(k:Int) by lia];exact eS '!') (aB 7 rfl (aH '*' (eS '!') ⟨(show 4<=sizeLine by decide),(dE aQ (by rw[zLm];exact qn (show _<=1000 by lia) '#') (⟨us++[mkI xs l (if R.aJ zs (k:Int) ((j:Int)-1)=true then 3 else 1) j k (k+1)],⟨_,rfl⟩,?_,aOK q.up p.up b o L (by simpa using hc) rfl,by rw[qe];show us.length+1<=_;lia⟩)).4⟩.4)).6.7.3)).5)).6.7.3)).8
    rw[dP,qi]
    congr 2
    cases R.aJ zs (k:Int) ((j:Int)-1) <;> rfl
   |false=>exact cL (bD ⟨us,⟨_,rfl⟩,rfl,aLT b (by simpa using hc),by lia⟩)
  ·rintro Γ' M' ⟨us,⟨g,rfl⟩,rfl,b,c⟩
   rw[bK] at b c
   exact⟨us,⟨_,_,rfl⟩,rfl,aO8 b,by lia⟩
 rintro Γ' M' ⟨us,⟨v6,g,rfl⟩,rfl,b,c⟩
 rw[bK] at b c
 refine gF 5 rfl aQ ?_
 rw[fF V]
 exact aI (aR (aB 5 rfl (Y us (aTI b) b.nd '!')))
theorem iD:FnScope ["_law_paces_here", "_law_point_here", "_law_high_here", "_law_x", "_law_y", "_law_bottom", "_law_upper", "_law_below", "_law_east", "_law_north", "_law_west", "_law_south"] zl4 (aM zC):=zSc
abbrev aMV(P w K mg z):=Fo P w K mg z "_law_box" zC zl4 2 aT2
theorem aRQ(Df:R.Df K mg "_law_box" zC zl4 f fd):aMV P w K mg z:=by
 refine⟨f,fd,Df,a9 Df iD (λds M k h => ?_) (λF A outer s H E G ds M k h => ?_)⟩
 ·obtain⟨e,n,w,s,x,y,b,H,rfl,_⟩:=h;rfl
 obtain⟨e,n,w,s,x,y,b,H,rfl,o,B,z⟩:=h
 have c:∀q∈[e,n,w,s],1<=q/\q<=9:=aI5 o
 have b1:=B.b1
 have b2:=B.b2
 have hB:b.natAbs<big:=qn (show b.natAbs<=200000000000000000000 by unfold bot at b2;omega) '&'
 have m:x.natAbs<big:=qn B.x '&'
 have r:y.natAbs<big:=qn B.y '&'
 have I:H.num.natAbs<big:=qn B.h.n '&'
 have g:(H.den:Int).natAbs<big:=qn (show (H.den:Int).natAbs<=10^100 from B.h.d) '&'
 have l:∀q∈[e,n,w,s],(q*H.num).natAbs<big:=λq j=>by
  have u:=c q j
  rw[vi]
  refine qn (ku (show q.natAbs<=9 by omega) B.h.n) '&'
 refine aD (gG (gI rfl (a8 (aV 3 iD.nd (a8 (aV 4 iD.nd (a8 (aV 5 iD.nd (eE (aD (gG (gI rfl (a8 (aV 6 iD.nd (a8 (aV 7 iD.nd (eE (aD (gG (bC zl13 [6,5] (bP ⟨[e,n,w,s].map D.int, .inl rfl,(b8 (ds:=[e,n,w,s].map D.int) (by rw[zLm];exact R.aU (show 4<=1000000 by decide)) (λi acc M'=>M'=M/\acc=([e,n,w,s].take i).map λ(q:Int)=>D.int (q*H.num*b)) ⟨rfl,rfl⟩ ?_ ?_)⟩.6)))))))))).10)))))))))).8)
 ·rintro i d acc M' hd ⟨rfl,rfl⟩ cs C s₀ H₀ t
  obtain⟨q,j,rfl⟩:=b4 hd
  have hm:=zMo j
  have u:=c q hm
  refine bG (bF λcs C s₀ H₀ t=>(aF cU (aF bT (aX (.inl ⟨by omega,by omega⟩) (aX ⟨l q hm,hB⟩ ⟨rfl,?_⟩).10).8.6)))
  rw[bU j]
  rfl
 rintro acc M ⟨rfl,rfl⟩
 refine aGW rfl (a8 (aV 8 iD.nd (a8 (aV 9 iD.nd (a8 (aV 10 iD.nd (a8 (aV 11 iD.nd (eE (aI (aR (bY (aF bH (aF cU (aB 7 rfl (aX ⟨m,g⟩ (aB 8 rfl (bA (aF bS (aF cU (aB 7 rfl (aX ⟨m,g⟩ (aB 10 rfl (bA (aF bH (aF cU (aB 7 rfl (aX ⟨r,g⟩ (aB 9 rfl (bA (aF bS (aF cU (aB 7 rfl (aX ⟨r,g⟩ (aB 11 rfl (bA (aF cU (aB 5 rfl (aB 7 rfl (aX ⟨hB,g⟩ ⟨(show 5<=sizeLine by decide),?_⟩.4)))).3)))).15)).3)))).15)).3)))).13)).3)))).13)).3))))))))))))
 have p:∀v a:Int,v*(H.den:Int)-a*H.num*b=bxI v b (-a) H:=λv a=>by unfold bxI;rw[WE,WE];omega
 show k (.tup [.int (x*(H.den:Int)-e*H.num*b), .int (x*(H.den:Int)+w*H.num*b), .int (y*(H.den:Int)-n*H.num*b), .int (y*(H.den:Int)+s*H.num*b), .int (b*(H.den:Int))]) M
 rw[p,p]
 exact z
theorem d9:FnScope ["_law_box_here", "_law_unit", "_law_facing", "_law_line", "_law_begin", "_law_end", "_law_scale", "_law_first", "_law_last"] zl11 (aM lH):=zSc
abbrev uO(P w K mg z):=Fo P w K mg z "_law_touches" lH zl11 2 aGN
theorem aCD(Df:R.Df K mg "_law_touches" lH zl11 f fd):uO P w K mg z:=by
 refine⟨f,fd,Df,a9 Df d9 (λds M k h => ?_) (λi A outer s H E o ds M k h => ?_)⟩
 ·obtain⟨e,n,w,s,x,y,b,H,u,rfl,_⟩:=h;rfl
 obtain⟨e,n,w,s,x,y,b,H,u,rfl,B,f4,j,m,l3,g⟩:=h
 have c:0<b:=by have:=B.b1;omega
 refine aD (gG (gI rfl (a8 (aV 2 d9.nd (a8 (aV 3 d9.nd (a8 (aV 4 d9.nd (a8 (aV 5 d9.nd (eE (aD (aO 6 d9.nd ?_.11.5.6.7)))))))))))).8)
 have at1:=aQG (e:=e) (n:=n) (w:=w) (s:=s) (x:=x) (y:=y) (b:=b) (H:=H) f4
 refine aD (bN (bL kJ (aF bT (aB 6 rfl (aX (.inl ⟨by omega,by omega⟩) (bW ⟨(show 4<=sizeLine by decide),?_.10⟩.4.11.5.6.7.3.11.5.6.7.3.11.5.6.7.3.11.5.6.7.3).7)).13)))
 refine aH '*' at1.1 (zX ⟨_,rfl,(ite2 (λa => ?_) (λa=>bD ?_))⟩)
 ·refine aI (aR (kG (g _ ⟨λz=>(nomatch z),λz => ?_⟩)))
  rw[v5,decide_eq_false_iff_not] at a
  exact absurd (aNE c f4 z.1) a
 have a:u.l*(b*(H.den:Int))=ltE e n w s x y b H u.f:=by simpa using a
 refine aD (gG (bW (bY ⟨'/',(bY ⟨'/',?_⟩.4.11.5.6.7.3.11.5.6.7.3).3⟩.4.11.5.6.7.3.11.5.6.7.3).3).7)
 refine aC ⟨'/',(aF eM (aX '#' (aH '*' at1.2 (gI rfl (a8 (aV 7 d9.nd (a8 (aV 8 d9.nd (eE (aI (aR (jI (fR nH (aF bT (aB 6 rfl (aX (.inl ⟨by omega,by omega⟩) (aB 8 rfl (d6 ⟨_,rfl,(ite2 (λd=>jG ?_) (λd => ?_))⟩)))).15))))))))))))).5.10)⟩
 ·exact fR nH (aB 7 rfl (aF bT (aB 5 rfl (aB 6 rfl (aX (.inl ⟨by omega,by omega⟩) (d6 (g _ ⟨λz=>(aAL c f4).mpr ⟨a,of_decide_eq_true d,of_decide_eq_true z⟩,λz=>decide_eq_true ((aAL c f4).mp z).2.2⟩)))))))
 ·exact g _ ⟨λz=>(nomatch z),λz=>absurd (decide_eq_true ((aAL c f4).mp z).2.1) d⟩
theorem jE:FnScope ["_law_xs", "_law_ys", "_law_signs_here", "_law_point_here", "_law_x", "_law_y", "_law_bottom", "_law_j", "_law_k"] zl2 (aM pL):=zSc
abbrev aBO(P w K mg z):=Fo P w K mg z "_law_is_out" pL zl2 2 aS9
theorem aH1(Df:R.Df K mg "_law_is_out" pL zl2 f fd)(T:Bt mg):aBO P w K mg z:=by
 refine⟨f,fd,Df,a9 Df jE (λds M k h => ?_) (λI A outer s H E Z ds M k h => ?_)⟩
 ·obtain⟨xs,l,zs,x,y,b,rfl,_⟩:=h;rfl
 obtain⟨xs,l,zs,x,y,b,rfl,r,p,Y,W,U,S,V,v⟩:=h
 have fx:=r.few
 have X:=p.few
 refine aD (gG (gI rfl (a8 (aV 4 jE.nd (a8 (aV 5 jE.nd (a8 (aV 6 jE.nd (eE (aD (cW (eH T.range (b5 '*' ?_.4).4.10.3.18.3))))))))))).13)
 rw[zLm]
 refine⟨_,rfl,by lia,by lia,?_⟩
 rw[qm]
 refine⟨λi Γ' M'=>(∃q n,Γ'=[some (.lst (xs.map .int)),some (.lst (l.map .int)),some (.lst (zs.map .str)),some (.tup [.int x, .int y, .int b]),some (.int x),some (.int y),some (.int b),q,n])/\M=M'/\¬lG xs l zs x y b i 0,⟨⟨_,_,rfl⟩,rfl,aU3⟩,?_,?_⟩
 rotate_left
 ·rintro Γ' M' ⟨⟨q,n,rfl⟩,rfl,e⟩
  rw[bK,S] at e
  exact aI (aR (kG (v _ ⟨λ_ z=>e ((aEV '!').mpr z),λ_=>rfl⟩)))
 rintro j d Γ' M' hd ⟨⟨q,n,rfl⟩,rfl,e⟩
 obtain⟨L,rfl⟩:=cA hd
 rw[we]
 have m:=zGe L
 have J:=(U _ (zMo m)).1
 refine aV 7 jE.nd (aI (cW (eH T.range (aB 7 rfl (aH '*' (iJ m) (gY (R.aU '!') ?_.4).4)).10.7.3.18.3)))
 rw[J]
 refine⟨_,rfl,by lia,by lia,?_⟩
 rw[qm]
 refine⟨λi Γ' M'=>(∃n,Γ'=[some (.lst (xs.map .int)),some (.lst (l.map .int)),some (.lst (zs.map .str)),some (.tup [.int x, .int y, .int b]),some (.int x),some (.int y),some (.int b),some (.int (j:Int)),n])/\M=M'/\¬lG xs l zs x y b j i,⟨⟨_,rfl⟩,rfl,e⟩,?_,?_⟩
 rotate_left
 ·rintro Γ' M' ⟨⟨n,rfl⟩,rfl,e⟩
  rw[bK] at e
  exact⟨⟨_,_,rfl⟩,rfl,λz=>e (aPG.mpr z)⟩
 rintro g d Γ' M' hd ⟨⟨n,rfl⟩,rfl,e⟩
 obtain⟨C,rfl⟩:=cA hd
 rw[we]
 have bx:=r.bd _ (i7 (xs:=xs) (k:=g) '!')
 have O:=r.bd _ (i7 (xs:=xs) (k:=g+1) '!')
 have F:=p.bd _ (i7 (xs:=l) (k:=j) '!')
 have G:=p.bd _ (i7 (xs:=l) (k:=j+1) '!')
 have N:atI (xs.map D.int) ((g:Int)+1)=some (.int (xs.getD (g+1) 0)):=eS (k:=g+1) '!'
 have Q:atI (l.map D.int) ((j:Int)+1)=some (.int (l.getD (j+1) 0)):=eS (k:=j+1) '!'
 have u:(R.atS zs[j] g=35)↔R.aJ zs (g:Int) (j:Int)=true:=aP3 m '!'
 refine aV 8 jE.nd (aI (bN (aI9 (P:=λc M1=>(c=true↔R.aJ zs (g:Int) (j:Int)=true/\(xs.getD g 0*b<=x/\x<=xs.getD (g+1) 0*b))/\M=M1) (iC (kS ?_)) ?_)))
 ·refine bL f9 (aB 7 rfl (aH '*' (iJ m) (aB 8 rfl (fP (R.aU '!') (R.iM '!') (ge_str (o4 ⟨_,rfl,?_⟩)))))).10.7.7
  rw[hash_eq]
  refine ite2 (λa=>oQ (aBB nH nH ?_)) (λa=>⟨⟨(λz=>nomatch z),λz=>absurd (decide_eq_true (u.mpr z.1)) a⟩,rfl⟩)
  have a:=u.mp (of_decide_eq_true a)
  refine aF bT (aB 8 rfl (aH '*' (eS '!') (aB 6 rfl (aX (.inl '+') (d6 ⟨_,rfl,(ite2 (λo=>(aF bT (aF bS (aB 8 rfl (bA (aH '*' N (aB 6 rfl (aX (.inl '+') (d6 ⟨_,rfl,?_,rfl⟩))))).5)).6.7)) (λo=>⟨⟨(λz=>nomatch z),λz=>absurd (decide_eq_true z.2.1) o⟩,rfl⟩))⟩).15)))).6.7
  rw[decide_eq_true_eq]
  exact⟨λz=>⟨a,of_decide_eq_true o,z⟩,λz=>z.2.2⟩
 rintro c M1 ⟨B,rfl⟩
 refine ite2 (λa => ?_) (λa=>bD ⟨⟨_,rfl⟩,rfl,aAU e λz=>a (B.mpr ⟨z.1,z.2.1⟩)⟩)
 have a:=B.mp a
 exact aI (bN (aBB nH nH (aF bT (aB 7 rfl (aH '*' (eS '!') (aB 6 rfl (aX (.inl '+') (aB 5 rfl (d6 ⟨_,rfl,(ite2 (λo=>(aF bT (aF bS (aB 7 rfl (bA (aH '*' Q (aB 6 rfl (aX (.inl '+') (d6 ⟨_,rfl,(ite2 (λt=>(aI (aR (kG (v _ ⟨λz=>(nomatch z),λz=>absurd (aN0 '!' '!' '!' a.1 a.2 ⟨of_decide_eq_true o,of_decide_eq_true t⟩) z⟩))))) (λt=>bD ⟨⟨_,rfl⟩,rfl,aAU e λz=>t (decide_eq_true z.2.2.2)⟩))⟩))))).5)).8.7)) (λo=>cL (bD ⟨⟨_,rfl⟩,rfl,aAU e λz=>o (decide_eq_true z.2.2.1)⟩)))⟩)))))).8.7)))
theorem dZ:FnScope ["_law_xs", "_law_ys", "_law_signs_here", "_law_bottom", "_law_far", "_law_wide", "_law_tall", "_law_blank", "_law_rows", "_law_found", "_law_j", "_law_k"] zl5 (aM nN):=zSc
abbrev yP(P w K mg z):=Fo P w K mg z "_law_outside" nN zl5 2 aLN
theorem aE9(Df:R.Df K mg "_law_outside" nN zl5 f fd)(T:Bt mg):yP P w K mg z:=by
 refine⟨f,fd,Df,a9 Df dZ (λds M k h => ?_) (λI A outer s H E hr ds M k h => ?_)⟩
 ·obtain⟨xs,g,zs,b,rfl,_⟩:=h;rfl
 obtain⟨xs,g,zs,b,rfl,t,n,X,U,B,hz,S⟩:=h
 have fx:=t.few
 have W:=n.few
 refine aD (aO 4 dZ.nd (aF kZ (aX ⟨by decide,by decide,by decide⟩ (aD (aO 5 dZ.nd (aF fC (aF fC (bW (aF bH (bA ⟨'-',(bC ["_law_bottom"] [3] (bP ⟨_, .inr (.inl rfl),(b8 (by rw[zLm];exact R.aU '!') (λi acc M'=>M'=M/\acc=((xs.take i).map (· * b)).map D.int) ⟨rfl,rfl⟩ ?_ ?_)⟩.6))⟩.4).15.5).3)))))).5.5))
 ·rintro i d acc M' hd ⟨rfl,rfl⟩ cs C s₀ H₀ o
  obtain⟨x,r,rfl⟩:=b4 hd
  have L:=t.bd x (zMo r)
  refine bG (bF λcs C s₀ H₀ o=>(aF bT (aX (.inl '+') ⟨rfl,?_⟩).8.6))
  rw[bU r,qi]
  rfl
 rintro acc M ⟨rfl,rfl⟩
 rw[zLm,jb]
 refine eZ '*' '*' (by rw[zLm,zLm];exact R.aU (show 1+xs.length<=_ by lia)) (bW ⟨'-',(eZ '*' '*' (by rw[qe,zLm,zLm];exact R.aU (show 1+xs.length+1<=_ by lia)) (aD (aO 6 dZ.nd (aF fC (aF fC (bW (aF bH (bA ⟨'-',(bC ["_law_bottom"] [3] (bP ⟨_, .inr (.inl rfl),(b8 (by rw[zLm];exact R.aU '!') (λi acc M'=>M'=M/\acc=((g.take i).map (· * b)).map D.int) ⟨rfl,rfl⟩ ?_ ?_)⟩.8))⟩.4).15.5).3))))))⟩.4.15.3)
 ·rintro i d acc M' hd ⟨rfl,rfl⟩ cs C s₀ H₀ o
  obtain⟨x,r,rfl⟩:=b4 hd
  have L:=n.bd x (zMo r)
  refine bG (bF λcs C s₀ H₀ o=>(aF bT (aX (.inl '+') ⟨rfl,?_⟩).8.6))
  rw[bU r,qi]
  rfl
 rintro acc M ⟨rfl,rfl⟩
 rw[zLm,jb]
 refine eZ '*' '*' (by rw[zLm,zLm];exact R.aU (show 1+g.length<=_ by lia)) (bW ⟨'-',(eZ '*' '*' (by rw[qe,zLm,zLm];exact R.aU (show 1+g.length+1<=_ by lia)) (aD (aO 7 dZ.nd (aF r8 (ge_str (aF bS (b5 '*' (bA (rK (by rw[zLm];lia) (by rw[zLm];lia) (by rw[zLm];show 1*_<=_;exact R.aU '!') ?_)).5).4.6.3.18))))))⟩.4.15.3)
 rw[zLm,show ((xs.length:Int)+1).toNat=xs.length+1 by lia,show iY "." (xs.length+1)=c7 (xs.length+1) from aDS _]
 refine aD (aO 8 dZ.nd (aF fC (aF fC (bW (aB 7 rfl ⟨'-',(bC [] [] (bP ⟨_, .inr (.inl rfl),(b8 (by rw[zLm];exact R.aU '!') (λi acc M'=>M'=M/\acc=((zs.take i).map f7).map D.str) ⟨rfl,rfl⟩ ?_ ?_)⟩.10))⟩.4).3))))
 ·rintro i d acc M' hd ⟨rfl,rfl⟩ cs C s₀ H₀ o
  obtain⟨z,p,rfl⟩:=b4 hd
  have v:=(B z (zMo p)).1
  have m:=uN z '!'
  refine bG (bF λcs C s₀ H₀ o=>(aF lS (aF lS (ge_str (r0 m.1 (ge_str (r0 m.2 ?_))).6))))
  rw[show ji "." ++ z++ji "." = f7 z from dotted z]
  refine⟨rfl,?_⟩
  rw[bU p,qi]
  rfl
 rintro acc M ⟨rfl,rfl⟩
 rw[zLm,jb]
 refine eZ '*' '*' (by rw[zLm,zLm];exact R.aU (show 1+zs.length<=_ by lia)) (bW (aB 7 rfl ⟨'-',(eZ '*' '*' (by rw[qe,zLm,zLm];exact R.aU (show 1+zs.length+1<=_ by lia)) ?_)⟩.4).3)
 rw[show [D.str (c7 (xs.length+1))]++(zs.map f7).map D.str++[D.str (c7 (xs.length+1))]=(eN (xs.length+1) zs).map D.str by unfold eN;simp]
 have O:xs.length+1=xs.length-1+2:=by lia
 have N:=yA (xs.length+1) zs
 refine aD (aO 9 dZ.nd (f6 ⟨(show 0<=sizeLine by decide),λa J=>(aD (cW (eH T.range (aB 8 rfl (b5 '*' ?_.4).4).3.18.3)))⟩.4))
 rw[zLm,N]
 refine⟨_,rfl,by lia,by lia,?_⟩
 rw[qm]
 refine⟨λi Γ' M'=>∃cs:List C4,(∃v10 v11,Γ'=[some (.lst (xs.map .int)),some (.lst (g.map .int)),some (.lst (zs.map .str)),some (.int b),some (.int F60),some (.lst ([D.int (0-F60)]++(xs.map (· * b)).map D.int++[D.int F60])),some (.lst ([D.int (0-F60)]++(g.map (· * b)).map D.int++[D.int F60])),some (.str (c7 (xs.length+1))),some (.lst ((eN (xs.length+1) zs).map .str)),some (.mt a),v10,v11])/\M'=bV M a (.lst (cs.map pV))/\(∀c,c∈cs↔lJ xs g zs b i 0 c)/\cs.length<=8*i,⟨[],⟨_,_,rfl⟩,rfl,λc=>⟨λq=>(nomatch q),λ⟨V,Y,q,_⟩=>by lia⟩,by simp⟩,?_,?_⟩
 rotate_left
 ·rintro Γ' M' ⟨cs,⟨v10,v11,rfl⟩,rfl,e,lcs⟩
  rw[bK,show zs.length+2=g.length+1 by lia] at e lcs
  refine gF 9 rfl aQ ?_
  rw[fF J]
  exact aI (aR (aB 9 rfl (S cs (λc=>(e c).trans aQA) '!')))
 rintro j d Γ' M' hd ⟨cs,⟨v10,v11,rfl⟩,rfl,e,lcs⟩
 obtain⟨Z,rfl⟩:=cA hd
 rw[we]
 obtain⟨z,l,v,y⟩:=aEG B (j:=j) '!'
 rw[<- O] at l v
 refine aV 10 dZ.nd (aI (cW (eH T.range (aB 8 rfl (aB 10 rfl (aH '*' (iJ l) (gY (R.aU '!') ?_.4).4))).7.3.18.3)))
 rw[v]
 refine⟨_,rfl,by lia,by lia,?_⟩
 rw[qm]
 refine⟨λi Γ' M'=>∃cs:List C4,(∃v11,Γ'=[some (.lst (xs.map .int)),some (.lst (g.map .int)),some (.lst (zs.map .str)),some (.int b),some (.int F60),some (.lst ([D.int (0-F60)]++(xs.map (· * b)).map D.int++[D.int F60])),some (.lst ([D.int (0-F60)]++(g.map (· * b)).map D.int++[D.int F60])),some (.str (c7 (xs.length+1))),some (.lst ((eN (xs.length+1) zs).map .str)),some (.mt a),some (.int (j:Int)),v11])/\M'=bV M a (.lst (cs.map pV))/\(∀c,c∈cs↔lJ xs g zs b j i c)/\cs.length<=8*j+i,⟨cs,⟨_,rfl⟩,rfl,e,by lia⟩,?_,?_⟩
 rotate_left
 ·rintro Γ' M' ⟨cs,⟨v11,rfl⟩,rfl,e,lcs⟩
  rw[bK] at e lcs
  exact⟨cs,⟨_,_,rfl⟩,rfl,λc=>(e c).trans aPM,by lia⟩
 rintro k d Γ' M' hd ⟨cs,⟨v11,rfl⟩,rfl,e,lcs⟩
 obtain⟨G,rfl⟩:=cA hd
 rw[we]
 refine aV 11 dZ.nd (aI (bN (bL f9 (aB 8 rfl (aB 10 rfl (aH '*' (iJ l) (aB 11 rfl (fP (R.aU '!') (R.iM '!') (ge_str (o4 ⟨_,rfl,?_⟩))))))).7.7)))
 rw[aQZ]
 refine ite2 (λu => ?_) (λu=>bD ⟨cs,⟨_,rfl⟩,rfl,λc=>(e c).trans (aTL λq=>u (decide_eq_true ((y k '!').mpr q))).symm,by lia⟩)
 have Q:=(y k '!').mp (of_decide_eq_true u)
 refine aI (eU (fK j1 jy jx c8 (aB 9 rfl (⟨⟨rfl,_,aQ⟩,(bY (aB 5 rfl (aB 11 rfl (aH '*' (sJ '!') (aB 5 rfl (aF bS (aB 11 rfl (bA (aH '*' (sJ (k:=k+1) '!') (aB 6 rfl (aB 10 rfl (aH '*' (sJ '!') (aB 6 rfl (aF bS (aB 10 rfl (bA ?_).5))).7.3))).7.3)).5))).7.3))).7.3).3⟩))))
 refine aH '*' (sJ (k:=j+1) '!') ⟨(show 4<=sizeLine by decide),(dE aQ (by rw[zLm];exact qn (show _<=1000 by lia) '#') (⟨cs++[cellAt xs g b j k],⟨_,rfl⟩,by rw[dP,qi];rfl,λc=>(aJL e _ c).trans (aPB Q).symm,by rw[qe];show cs.length+1<=_;lia⟩)).4⟩.4
theorem nQ:FnScope ["_law_upper", "_law_bottom", "_law_one", "_law_other"] zl13 (aM pM):=zSc
abbrev uK(P w K mg z):=Fo P w K mg z "_law_number" pM zl13 1 aUW
theorem aG3(Df:R.Df K mg "_law_number" pM zl13 f fd)(T:Bt mg):uK P w K mg z:=by
 refine⟨f,fd,Df,a9 Df nQ (λds M k h => ?_) (λl A outer s H E r ds M k h => ?_)⟩
 ·obtain⟨t,b,rfl,_⟩:=h;rfl
 obtain⟨t,b,rfl,p,j,i⟩:=h
 have o:wb t b≠0:=λe=>by have:=(JJ.mp e).2;lia
 have g:wb t b<=b.natAbs:=QL '!' (Qz t b)
 have hd:((wb t b:Nat):Int)≠0/\((wb t b:Nat):Int).natAbs<big:=⟨by lia,qy (show _<10^300 by lia) (by unfold big;decide)⟩
 refine aD (aO 2 nQ.nd (aP mS T.abs yw (qQ (aD (aO 3 nQ.nd (aD (aBN (λm Γ' M'=>M'=M/\∃x y:Int,Γ'=[some (.int t),some (.int b),some (.int x),some (.int y)]/\0<=x/\0<=y/\wb x y=wb t b/\m=y.natAbs) (n:=b.natAbs) ⟨rfl,_,b,rfl,by split <;> lia,by lia,by split <;> simp[Int.gcd_neg,Int.neg_gcd],rfl⟩ ?_)).8))).4.6.3))
 rintro m Γ' M' ⟨rfl,x,y,rfl,u,q,c,rfl⟩
 refine bL vG (d6 ⟨_,rfl,(ite2 (λa => ?_) (λa => ?_))⟩).5.13
 ·have d:=of_decide_eq_true a
  refine aI (aSN 2 3 nQ.nd '#' (aF aD4 (aX (show y≠0 by lia) ⟨_,_,rfl,_,Num.aDP x y '!',rfl,_,_,rfl,by lia,?_,?_,rfl⟩.4).13.10).3.13.3)
  ·rw[Qe _ '!'];exact zf _ '!'
  ·rw[Num.aAW];exact c
 ·have d:y=0:=by
   have:¬0<y:=λz=>a (decide_eq_true z)
   lia
  subst d
  rw[J6] at c
  have ex:x=((wb t b:Nat):Int):=by lia
  rw[ex]
  exact aI (aR (bY (aF pJ (aX hd (aF pJ (aX hd ⟨'/',i⟩.4).10.8).3).10.6).3))
theorem fY:FnScope ["_law_outside_here", "_law_paces_here", "_law_point_here", "_law_x", "_law_y", "_law_bottom", "_law_whole", "_law_east", "_law_north", "_law_west", "_law_south", "_law_ways"] zl3 (aM vB):=zSc
abbrev aIP(P w K mg z):=Fo P w K mg z "_law_high" vB zl3 3 aUQ
theorem aNX(Df:R.Df K mg "_law_high" vB zl3 f fd)(aU4:uK P w K mg z)(T:Bt mg):aIP P w K mg z:=by
 refine⟨f,fd,Df,a9 Df fY (λds M k h => ?_) (λI A outer s H E S ds M k h => ?_)⟩
 ·obtain⟨cs,e,n,w,s,x,y,b,rfl,_⟩:=h;rfl
 obtain⟨cs,e,n,w,s,x,y,b,rfl,cne,lcs,o,G,W,Z⟩:=h
 have a:∀q∈[e,n,w,s],1<=q/\q<=9:=aI5 o
 obtain⟨⟨X,L⟩,⟨J,O⟩,g,j⟩:=aBC o
 have e9:=a e '%'
 have n9:=a n '%'
 have w9:=a w '%'
 have s9:=a s '%'
 have de:=rP o.p g j
 have dn:=rP o.q g j
 have dw:=rP o.r g j
 have ds:=rP o.s g j
 obtain⟨l,u⟩:=aM1 o G W
 refine aD (gG (gI rfl (a8 (aV 3 fY.nd (a8 (aV 4 fY.nd (a8 (aV 5 fY.nd (eE (aD (aO 6 fY.nd (aF bT (aF bT (aF bT (aX (.inl '+') (aX (.inl '+') (aX (.inl '+') ?_).11.5.8.7).11.5.8.7).11.5.8.7.11.5.8.7))))))))))))).10)
 rw[show e*n*w*s=hol e n w s from rfl]
 refine aD (gG (bC ["_law_whole"] [6] (bP ⟨[e,n,w,s].map D.int, .inl rfl,(b8 (ds:=[e,n,w,s].map D.int) (by rw[zLm];exact R.aU (show 4<=1000000 by decide)) (λi acc M'=>M'=M/\acc=([e,n,w,s].take i).map λ(x:Int)=>D.int (hol e n w s/x)) ⟨rfl,rfl⟩ ?_ ?_)⟩.8)))
 ·rintro i d acc M' hd ⟨rfl,rfl⟩ cs C s₀ H₀ v
  obtain⟨q,B,rfl⟩:=b4 hd
  have bx:=a q (zMo B)
  refine bG (bF λcs C s₀ H₀ v=>(aF oS (aX '+' ⟨rfl,?_⟩).6.8))
  rw[bU B]
 rintro acc M ⟨rfl,rfl⟩
 refine aGW rfl (a8 (aV 7 fY.nd (a8 (aV 8 fY.nd (a8 (aV 9 fY.nd (a8 (aV 10 fY.nd (eE (aD (lN 11 ["_law_x", "_law_y", "_law_east", "_law_north", "_law_west", "_law_south"] [3,4,7,8,9,10] fY.nd (bP ⟨_, .inr (.inl rfl),(yV (ds:=cs.map pV) (by rw[zLm];exact R.aU '!') (λi acc M'=>M'=M/\acc=((cs.take i).map (xC x y (hol e n w s/e) (hol e n w s/n) (hol e n w s/w) (hol e n w s/s))).map D.int) ⟨rfl,rfl⟩ ?_ ?_)⟩.6))))))))))))
 ·rintro i d acc M' hd ⟨rfl,rfl⟩ z C s₀ H₀ v
  obtain⟨c,hc,rfl⟩:=aIT hd
  refine bG (bF λz C s₀ H₀ v=>(aP (aGO rfl) T.max R.BMax (aF bT (aF bH (bA (aX (.inr '+') (aF bT (aF bH (bA (aB 5 rfl (aX (.inr '+') (aF bT (aF bH ?_.5.6.7.10)).3))).8.11.5.6.7)).3).13).11.5.6.7.8)).3))
  refine aH (.tup _) rfl (bA (aX (.inr '+') (aF bT (aF bH (bA (aB 6 rfl (aX (.inr '+') (aPN λm N a1 a2 F Y=>⟨rfl,?_⟩).4))).10.11.5.6.7)).3).15)
  rw[bU hc,qi,aPH N a1 a2 F Y]
  rfl
 rintro acc M ⟨rfl,rfl⟩ Q t
 rw[zLm,jb]
 refine gF 11 rfl aQ ?_
 rw[fF t]
 refine aI (aR (aL aU4 S (aP (k5 rfl) T.max R.BMax (aP (aHA rfl) T.min BMin (aB 11 rfl (aQN (by rw[zLm];exact ye.mpr cne) λm V U=>(qN (aF bT (aB 6 rfl (aB 5 rfl (aX (.inl '+') ⟨_,_,rfl,l,mq u '&',?_⟩.4)))).3).4).4).3).3.5.3).3))
 rw[nA l]
 exact Z m V U
theorem vK:FnScope ["_law_xs", "_law_ys", "_law_signs_here", "_law_paces_here", "_law_point_here", "_law_high_here", "_law_box_here", "_law_found"] zl0 (aM yW):=zSc
abbrev aM2(P w K mg z):=Fo P w K mg z "_law_due" yW zl0 10 aSG
theorem aRK(Df:R.Df K mg "_law_due" yW zl0 f fd)(aU5:aBO P w K mg z)(aU6:aIP P w K mg z)(aU7:yP P w K mg z)(aU8:aMV P w K mg z)(aU9:aEM P w K mg z)(aVA:uO P w K mg z)(T:Bt mg)(TS:mg "set" = none):aM2 P w K mg z:=by
 refine⟨f,fd,Df,a9 Df vK (λds M k h => ?_) (λah A outer s H E z ds M k h => ?_)⟩
 ·obtain⟨xs,V,zs,g,a,p,m,e,n,w,s,q,rfl,_⟩:=h;rfl
 obtain⟨xs,V,zs,g,a,p,m,e,n,w,s,q,rfl,lx,ly,o,Z,hk⟩:=h
 obtain⟨⟨j⟩,⟨r⟩,x,I⟩:=Z
 have z4:=aJR o
 have B:(1:Int)<=1:=by decide
 have m2:(1:Int)<=1000000007:=by decide
 have dw:=zM g.up a.up p m
 have k0:=aAE g a p m (Mk.of tm0)
 have D:q.1.natAbs<=10^50:=qq j '&'
 have bv:q.2.1.natAbs<=10^50:=qq r '&'
 refine aD (bN (cC (aL aU5 z ⟨xs,V,zs,q.1,q.2.1,q.2.2,rfl,g,a,lx,ly,p,m,x,λc X=>⟨_,rfl,(ite2 (λh1 => ?_) (λh1=>bD ?_))⟩⟩.4.15.3.10.3.8.3.6.3)))
 ·exact aI (aR (bW ⟨(show 0<=sizeLine by decide),(hk [] ⟨k3 _,λv r=>(nomatch r),λy=>aNJ g.up a.up p m y o (X.mp h1)⟩)⟩.4))
 refine aD (aO 5 vK.nd (aL aU6 z (aL aU7 z ⟨xs,V,zs,q.2.2,rfl,g,a,lx,ly,p,m,λcs L lcs=>(⟨cs,e,n,w,s,q.1,q.2.1,q.2.2,rfl,List.ne_nil_of_mem ((L _).mpr ⟨0,0,k3 _,k3 _,R.dN '#',rfl⟩),lcs,o,x,I,λW ab af => ?_⟩).4.15.3.13.3⟩.4.11.5.15.7.3.10.3.8.3.6.3).3))
 have hq:=λ{c:Rat} (X:0<c)=>(aG6 (bQ g.up a.up p m X) z4 (qb q.1 q.2.2*c) (qb q.2.1 q.2.2*c)).uniq (aIE X (aOO g.up a.up p m '$' '$' (four22 o) '$' D bv L ab af))
 have env:Env (bQ g.up a.up p m (one_pos B)) e n w s (qb q.1 q.2.2*qb 1 1) (qb q.2.1 q.2.2*qb 1 1) _:=⟨o,nm22 x I B m2,frl22 dw.1 g x I B,frl22 dw.2 a x I B,fr22 x B j,fr22 x B r,by show (gC _ _).length<=7;rw[zLm];exact k0.lx,by show (gC _ _).length<=7;rw[zLm];exact k0.ly⟩
 have N:=env.high
 have aa:0<=qb (if W>0 then W else 0) (hol e n w s*q.2.2):=Rat.divInt_nonneg (by split <;> omega) (nu (aM1 o x I).1)
 generalize hHH:qb (if W>0 then W else 0) (hol e n w s*q.2.2)=HH at *
 rw[hq (one_pos B)] at N
 have hS:=(aOM B m2 N).mono (show 61+10<=100 by decide)
 have BX:BxO q.1 q.2.1 q.2.2 HH:=⟨x,I,D,bv,hS⟩
 refine aD (aO 6 vK.nd (aL aU8 z (aB 5 rfl ⟨e,n,w,s,q.1,q.2.1,q.2.2,HH,rfl,o,BX,(aD (lN 7 ["_law_box_here"] [6] vK.nd (bP (aL aU9 z ⟨xs,V,zs,rfl,g,a,lx,ly,p,m,λus O ai ag=>⟨_, .inr (.inl rfl),?_⟩⟩.4.10.3.8.3.6.3))))⟩.4).3.15.3.13.3))
 have Q:=λ{u:Si} (j:u∈us)=>aUT (zs:=zs) g a ((O u).mp j)
 refine yV (ds:=us.map siD) (by rw[zLm];exact R.aU '$') (λi acc M'=>M'=M/\acc=(((us.take i).filter (tcB e n w s (qb q.1 q.2.2) (qb q.2.1 q.2.2) HH)).map λu=>frL (u.f,u.l)).map tI) ⟨rfl,rfl⟩ ?_ ?_
 ·rintro i d acc M' hd ⟨rfl,rfl⟩ _ _ _ _ _
  obtain⟨u,F,rfl⟩:=b4 hd
  have D:=Q (zMo F)
  refine o7 (cC (aL aVA z ⟨e,n,w,s,q.1,q.2.1,q.2.2,HH,u,rfl,BX,D.1,D.2.1,D.2.2.1,D.2.2.2,λb hb=>⟨_,rfl,?_⟩⟩.4.6.3.8.3))
  have eb:b=(tcB e n w s (qb q.1 q.2.2) (qb q.2.1 q.2.2) HH) u:=xj.mpr (hb.trans jU.symm)
  cases b with
  |true =>
   refine bF λ_ _ _ _ _=>(i0 aR4 (j8 (jZ ⟨_,rfl,(aQ5 (show ¬(HT.sIx 4 0 none=0/\HT.sIx 4 4 (some 2)=4) by decide) ⟨rfl,?_⟩)⟩.5)).6)
   rw[nG _ F,<- eb,if_pos rfl,qi,qi]
   rfl
  |false =>
   refine cL ⟨rfl,?_⟩
   rw[nG _ F,<- eb,if_neg zBf,wg]
 rintro acc M ⟨rfl,rfl⟩ a7 ad
 refine gF 7 rfl aQ ?_
 rw[fF ad,zLm,jb]
 refine aI (aR (aCI z.hd (by have:=z.un;omega) TS T.sorted (aB 7 rfl ⟨_,rfl,λt J => ?_,λu nd j=>few4 (λu j=>(Q j).1) nd j,λae nd hm hs => ?_⟩)))
 ·obtain⟨u,_,rfl⟩:=qo.mp J
  exact List.cons_ne_nil _ _
 have U:=few4 (λu j=>(Q j).1) nd λt J=>(hm t).mp J
 obtain⟨vs,rfl⟩:=aA0 ae λt J=>by
  obtain⟨u,_,rfl⟩:=qo.mp ((hm t).mp J)
  exact⟨_,rfl⟩
 have S:∀v,v∈vs↔∃u∈us,(tcB e n w s (qb q.1 q.2.2) (qb q.2.1 q.2.2) HH) u=true/\(u.f,u.l)=v:=λv=>by
  constructor
  ·intro r
   obtain⟨u,j,e1⟩:=qo.mp ((hm _).mp (qo.mpr ⟨v,r,rfl⟩))
   obtain⟨G,Y⟩:=wy.mp j
   exact⟨u,G,Y,wG e1⟩
  ·rintro⟨u,G,Y,rfl⟩
   obtain⟨v,r,e1⟩:=qo.mp ((hm _).mpr (qo.mpr ⟨u,wy.mpr ⟨G,Y⟩,rfl⟩))
   rw[<- wG e1];exact r
 have ac:vs.Nodup:=by
  unfold JN at nd ⊢
  rw[kv] at nd
  exact nd.imp λh e=>h (by rw[e])
 rw[zLm] at U
 refine hk vs ⟨U,λv r => ?_,λy=>aR3 g.up a.up p m y o aa (hq y) O hs ac S⟩
 obtain⟨u,G,_,rfl⟩:=(S v).mp r
 exact⟨(Q G).1,(Q G).2.1⟩
theorem aQ4:FnScope zl29 zl29 (aM zB):=zSc
abbrev aMS(P w K mg z):=Fo P w K mg z "_law_pen" zB zl29 1 cPen
theorem aRM(Df:R.Df K mg "_law_pen" zB zl29 f fd):aMS P w K mg z:=by
 refine⟨f,fd,Df,a9 Df aQ4 (λds M k h => ?_) (λb A outer s H E d ds M k h => ?_)⟩
 ·obtain⟨ns,rfl,_⟩:=h;rfl
 obtain⟨ns,rfl,c⟩:=h
 exact aI (aR (f6 ⟨(show 3<=sizeLine by decide),λp a=>(c p _ a ((Le.refl _).upd a) ⟨ns,0,0,aQ,by lia,by lia,by lia⟩)⟩.4.5.3.5.3.6.3))
theorem jS:FnScope ["_law_pen_here", "_law_many", "_law_digit", "_law_place", "_law_cell", "_law_mixed"] zl12 (aM wD):=zSc
abbrev kU(P w K mg z):=Fo P w K mg z "_law_draw" wD zl12 1 aTT
theorem aNG(Df:R.Df K mg "_law_draw" wD zl12 f fd)(T:Bt mg):kU P w K mg z:=by
 refine⟨f,fd,Df,a9 Df jS (λds M k h => ?_) (λx A outer s H E D ds M k h => ?_)⟩
 ·obtain⟨p,n,b,rfl,_⟩:=h;rfl
 obtain⟨p,n,b,rfl,d,m,⟨ns,st,g,j,y,t,r⟩,B,q⟩:=h
 refine aD (bN (bL vG (aH (.mt j) rfl (d6 ⟨_,rfl,(ite2 (λhgt => ?_) (λhgt=>bD ?_))⟩).5).5.6.7))
 ·exact aD (aO 2 jS.nd (aF eM (aH (.mt j) rfl (aX (show (0:Int)<_ by first|decide|lia) (aD (gG (aF oS (aH (.mt j) rfl (aX ⟨d,m⟩ (aAO ⟨p,2,2,_,rfl,rfl,j,rfl,(aI (aR (q _ _ (zf _ '!') (y8 _ d) ⟨ns,st,_,aQ,y,by lia,su r '!'⟩ (cQ.refl p M).upd (λa i=>cV i)).10))⟩.5.6)).8).5.6.7)))).8).5.6.7))
 refine aD (aO 3 jS.nd (aH (.mt j) rfl (aD (gG (aF bS (bA (aAO ⟨p,1,1,_,rfl,rfl,j,rfl,(aD (aO 4 jS.nd (aD (oP (λΓ' M'=>M'=bV M p (.lst [.fl (ns.map .int), .int (st+1), .int g])/\∃c:Int,Γ'=[some (.mt p),some (.int n),none,some (.int st),some (.int c),none]) ?_ ?_)).5))⟩.5.6)).5.13)))).5.6.7)
 ·refine bN (bL vG (aH (.mt aQ) rfl (b5 (.fl _) (d6 ⟨_,rfl,(ite2 (λl => ?_) (λl=>bD ⟨rfl,_,rfl⟩))⟩).5).4).5.6.7.3.18)
  have e:=of_decide_eq_true l
  have o:(0:Int)<(ns.length:Int):=by rw[zLm] at e;exact e
  obtain⟨z,u⟩:=aJM (ns:=ns) (k:=st%(ns.length:Int)) (zf _ '!') (y8 _ o)
  exact aI (aO 4 jS.nd (aH (.mt aQ) rfl (aF eM (aH (.mt aQ) rfl (b5 (.fl _) (aX e (aH (.fl _) (by rw[zLm];exact u) ⟨rfl,_,rfl⟩))).4).5.6.7.3.18.13)).5.6.7.7)
 rintro Γ' M' ⟨rfl,c,rfl⟩
 refine aD (bN (aI9 (P:=λ_ M1=>M1=bV M p (.lst [.fl (ns.map .int), .int (st+1), .int g])) (iC (kS ?_)) ?_))
 ·refine bL nI (aH (.mt aQ) rfl (b5 (.fl _) (d6 ⟨_,rfl,(ite2 (λv=>oQ (bL aGC (aP mS T.abs yw (qQ (aF kZ (aX ⟨by decide,by decide,by decide⟩ (d6 ⟨_,rfl,?_⟩)).5.5)).4.15.3))) (λv=>rfl))⟩)).4).5.6.7.3.18.13
  rfl
 rintro C M1 rfl
 refine ite2 (λhgt => ?_) (λhgt=>bD ?_)
 ·exact aD (gG (aF oS (aP mS T.abs yw (qQ (aX ⟨d,m⟩ (aAO ⟨p,2,2,_,rfl,rfl,aQ,rfl,(aI (aR (aF eM (aP mS T.abs yw (qQ (aX d (q _ _ (zf _ '!') (y8 _ d) ⟨ns,st+1,_,aQ,by lia,by lia,su (by split <;> lia) '!'⟩ (cQ.refl p M).upd.upd (λa i=>(cV i).trans (cV i)))).8).4.15.3))))⟩.5.6)).8).4.15.3)))
 refine aD (aO 5 jS.nd (aF eM (aF bT (aF bS (aF bS (aF eM (aX (show (0:Int)<_ by first|decide|lia) (aF bT (aX (.inl ⟨by decide,by decide⟩) (bA (bA (aX (.inr ⟨by decide,by decide⟩) (aX (show (0:Int)<_ by first|decide|lia) (aD (aO 5 jS.nd (aF eM (aF bT (aB 5 rfl (aF bS (aF bS (aF eM (aB 5 rfl (aX (show (0:Int)<_ by first|decide|lia) (aF bT ?_)).5)))))))))).5).5).5)).13.5)).5.15))))))
 exact z6 (aX (.inl ⟨by decide,by decide⟩) (bA (bA (aX (.inl (R.aIY _ '#' '#')) (aX (show (0:Int)<_ by first|decide|lia) (aI (aR (aF eM (aF oS (aB 5 rfl (aX ⟨by decide,by decide⟩ (aX d (q _ _ (zf _ '!') (y8 _ d) ⟨ns,st+1,g,aQ,by lia,by lia,r⟩ (cQ.refl p M).upd (λa i=>cV i))).8).5)))))).5)).5)).13
theorem pC:FnScope ["_law_pen_here", "_law_lines_here", "_law_bottom", "_law_k", "_law_way", "_law_other"] zl6 (aM sI):=zSc
abbrev aDQ(P w K mg z):=Fo P w K mg z "_law_along" sI zl6 2 aQ1
theorem aL9(Df:R.Df K mg "_law_along" sI zl6 f fd)(aVB:kU P w K mg z)(T:Bt mg):aDQ P w K mg z:=by
 refine⟨f,fd,Df,a9 Df pC (λds M k h => ?_) (λad A outer s H E r ds M k h => ?_)⟩
 ·obtain⟨p,b,xs,c,rfl,_⟩:=h;rfl
 obtain⟨p,b,xs,c,rfl,Q,hb,u,lx,c1,c2,Z⟩:=h
 have fx:=u.few
 have v:c.natAbs<=200000000000000000000:=by unfold bot at c2;lia
 have y:(xs.map D.int).length=xs.length:=zLm ..
 refine aD (aO 3 pC.nd (aL aVB r (b5 '*' ⟨p,_,_,rfl,by rw[y];lia,by rw[y];lia,Q,by lia,λF M1 N t L O ah => ?_⟩.4).4.8.3.18.3.6.3))
 rw[y] at t
 obtain⟨x,hx,n⟩:=wO (xs:=xs) (i:=F) N t
 have bx:=u.bd x (zMo hx)
 refine aD (aO 4 pC.nd (aL aVB r ⟨p,_,_,rfl,by decide,by decide,L,by lia,λz2 M2 af ai m ab ac => ?_⟩.4.5.3.6.3))
 have d:=O.trans ab
 refine aD (bN (bL f9 (kX ⟨_,rfl,(ite2 (λh1 => ?_) (λh1=>bD ?_))⟩).5.15))
 ·exact aI (aR (aF bT (aH '*' n (aX (.inl '+') (Z _ _ ⟨al1 '!' v⟩ (m.mono '!') d)).10).13.8.7))
 refine aD (bN (bL f9 (kX ⟨_,rfl,(ite2 (λh2 => ?_) (λh2=>bD ?_))⟩).5.15))
 ·obtain⟨f,hf,C⟩:=wO (xs:=xs) (i:=0) '!' '!'
  obtain⟨xr,l,hl⟩:=wV (l:=xs) (λe=>by rw[e] at lx;simp at lx)
  have bf:=u.bd f (zMo hf)
  have bl:=u.bd l (by rw[hl];simp)
  have S:atI (xs.map D.int) (-1)=some (.int l):=by rw[hl,qi];exact pA _ _
  refine aI (aR (bW (aF bH (aF bT (aH '*' C (aX (.inl '+') (aL aVB r ⟨p,_,_,rfl,by decide,by decide,m,by lia,λz3 M3 V G j g X => ?_⟩.4.5.3.6.3)).10).5.8.7)).3).7)
  refine bA (aF bS (aF bT (kI iP ⟨_,rfl,(aH '*' S (aX (.inl '+') (aL aVB r ⟨p,_,_,rfl,by decide,by decide,j,by lia,λz4 M4 aj ae Y I ag => ?_⟩.4.5.3.6.3)).10)⟩.5).8.7)).3
  refine bA ⟨'/',(aL aVB r ⟨p,_,_,rfl,by decide,by decide,Y,by lia,λz5 M5 aa B z W ak => ?_⟩.4.5.3.6.3)⟩.4
  obtain⟨q,hq,J⟩:=aIS aa B (a:=f*c-z3) (b:=l*c+z4)
  refine aH '*' hq (Z _ _ ⟨?_⟩ (z.mono '!') (((d.trans g).trans I).trans W))
  rcases J with rfl|rfl
  ·exact al2 '!' v '!'
  ·exact al2' '!' v '!'
 obtain⟨o,ho,U⟩:=wO (xs:=xs) (i:=if (xs.length:Int)-1<F+1 then (xs.length:Int)-1 else F+1) (by split <;> lia) (by split <;> lia)
 have bo:=u.bd o (zMo ho)
 refine aD (aO 5 pC.nd (aP (aHK rfl) T.min BMin (aF bS (bA (aF bH (b5 '*' (bA (aQQ (aH '*' (by rw[y];exact U) (aI (aR (aF bS (aF bT (aH '*' n (aX (.inl '+') (aF oS (aF bT (aF bT (aF bH (aB 5 rfl ?_)))))).10).13.8.7)))))).4).5).4.8.3.18).3).5.13).3).8.7)
 refine aG aE (aH '*' n (bA (aX (.inl '+') (aL aVB r ⟨p,_,_,rfl,by decide,by decide,m,by lia,λz3 M3 V G j g X => ?_⟩.4.5.3.6.3)).10)).13.8
 exact aX (.inr '+') (aX ⟨by decide,by decide⟩ (bA (Z _ _ ⟨al3 '!' '!' v '!'⟩ (j.mono '!') (d.trans g)))).5
theorem aBG:FnScope ["_law_pen_here", "_law_xs", "_law_ys", "_law_bottom"] zl8 (aM rR):=zSc
abbrev aDK(P w K mg z):=Fo P w K mg z "_law_point" rR zl8 3 aTA
theorem aKZ(Df:R.Df K mg "_law_point" rR zl8 f fd)(aVB:kU P w K mg z)(aVC:aDQ P w K mg z)(T:Bt mg):aDK P w K mg z:=by
 refine⟨f,fd,Df,a9 Df aBG (λds M k h => ?_) (λN A outer s H E a ds M k h => ?_)⟩
 ·obtain⟨p,b,xs,G,rfl,_⟩:=h;rfl
 obtain⟨p,b,xs,G,rfl,r,hb,V,Q,J,I,X⟩:=h
 refine aD (aO 3 aBG.nd (bW (aF bS (aL aVB a ⟨p,_,_,rfl,by decide,by decide,r,by lia,λz1 M1 o d n q U => ?_⟩.4.5.3.6.3).5).3.5.3.5.3).7)
 refine bA (aF bS (aF kZ (aX ⟨by decide,by decide,by decide⟩ (aL aVB a (aF kZ (aX ⟨by decide,by decide,by decide⟩ ⟨p,_,_,rfl,by decide,by decide,n,by lia,λZ M2 m t y F L => ?_⟩.4).5.5).3.6.3)).5.5)).3
 refine bA ⟨(show 4<=sizeLine by decide),(aL aVB a ⟨p,_,_,rfl,by decide,by decide,y,by lia,λz3 M3 z i x j W => ?_⟩.4.5.3.6.3)⟩.4
 obtain⟨c,Y,g,C⟩:=aMB o d m t z i
 refine aH '*' Y (aI (aR (bY (aL aVC a ⟨p,_,xs,c,rfl,x,by lia,V,Q,g,C,λu M4 S D l => ?_⟩.4.13.3.8.3.6.3).3)))
 refine aA (aL aVC a ⟨p,_,G,c,rfl,D,by lia,J,I,g,C,λv M5 O e B => ?_⟩.4.13.3.10.3.6.3)
 exact aA ⟨(show 3<=sizeLine by decide),(X u v c _ S O g C (e.mono '!') ((((q.trans F).trans j).trans l).trans B))⟩.4.13
theorem qF:FnScope ["top", "bottom", "divisor"] zl22 (aM qA):=zSc
abbrev jX(P w K mg z):=Fo P w K mg z "lowest" qA zl22 2 aOJ
theorem aGT(Df:R.Df K mg "lowest" qA zl22 f fd)(aVD:m7 P w K mg z):jX P w K mg z:=by
 refine⟨f,fd,Df,a9 Df qF (λds M k h => ?_) (λj A outer s H E l ds M k h => ?_)⟩
 ·obtain⟨a,b,rfl,_⟩:=h;rfl
 obtain⟨a,b,rfl,d,m,i⟩:=h
 have n:wb a b≠0:=λe=>d (JJ.mp e).2
 have g:wb a b<=b.natAbs:=QL '$' (Qz a b)
 have hd:dv a b≠0/\(dv a b).natAbs<big:=by
  refine⟨by unfold dv;split <;> omega,qy (show (dv a b).natAbs<10^1000 from ?_) (by unfold big;decide)⟩
  have:(dv a b).natAbs=wb a b:=by unfold dv;split <;> omega
  omega
 refine aD (aO 2 qF.nd (aL aVD l ⟨a,b,rfl,(aD (oP (λΓ' M'=>M'=M/\Γ'=[some (.int a),some (.int b),some (.int (dv a b))]) (bN ?_) ?_))⟩.4.8.3.6.3))
 ·refine bL nI (d6 ⟨_,rfl,(ite2 (λc => ?_) (λc => ?_))⟩).5.8
  ·have:=of_decide_eq_true c
   exact aI (aO 2 qF.nd (kI iP ⟨_,rfl,⟨rfl,by unfold dv;rw[if_pos this];rfl⟩⟩.10))
  ·have:¬b<0:=λz=>c (decide_eq_true z)
   exact bD ⟨rfl,by unfold dv;rw[if_neg this];rfl⟩
 rintro Γ' M' ⟨rfl,rfl⟩
 exact aI (aR (bY (aF pJ (aX hd (aF pJ (aX hd ⟨'/',i⟩.4).10.8).3).10.6).3))
theorem aCT:FnScope zl22 zl22 (aM lW):=zSc
abbrev lP(P w K mg z):=Fo P w K mg z "fraction" lW zl22 3 aHS
theorem aCM(Df:R.Df K mg "fraction" lW zl22 f fd)(aVE:p4 P w K mg z)(aVF:jX P w K mg z):lP P w K mg z:=by
 refine⟨f,fd,Df,a9 Df aCT (λds M k h => ?_) (λj A outer s H E c ds M k h => ?_)⟩
 ·obtain⟨a,b,rfl,_⟩:=h;rfl
 obtain⟨a,b,rfl,e,d,i⟩:=h
 refine aD (bN (iC (kK (dG (cC (aL aVE c ⟨_,rfl,trivial,⟨_,rfl,(cL (mE (dG (cC (aL aVE c ⟨_,rfl,trivial,⟨_,rfl,(cL (bD (aD (bN (bL f9 (kX ⟨_,rfl,(ite2 (λg=>absurd (of_decide_eq_true g) '$') (λ_=>bD (aI (aR (aL aVF c ?_.3.6.3)))))⟩).5.8)))))⟩⟩.4.8.3)))))⟩⟩.4.6.3))))))
 exact aB 1 rfl ⟨a,b,rfl,e,d,i⟩.4
theorem aPQ:FnScope zl27 zl27 (aM uV):=zSc
abbrev aG1(P w K mg z):=Fo P w K mg z "plus" uV zl27 3 aRW
theorem aQI(Df:R.Df K mg "plus" uV zl27 f fd)(aVF:jX P w K mg z):aG1 P w K mg z:=by
 refine⟨f,fd,Df,a9 Df aPQ (λds M k h => ?_) (λl A outer s H E m ds M k h => ?_)⟩
 ·obtain⟨p,q,rfl,_⟩:=h;rfl
 obtain⟨p,q,rfl,c,d,e⟩:=h
 obtain⟨j,i⟩:=aAD c.g d.g
 unfold aT at e
 rw[<- aOR] at e
 exact aI (aR (aL aVF m (aF bS (aF cU (aX ⟨big400 c.g.a,big400 d.g.b⟩ (aF cU (aX ⟨big400 d.g.a,big400 c.g.b⟩ (bA (aF cU (aX ⟨big400 c.g.b,big400 d.g.b⟩ ⟨_,_,rfl,j,i,e⟩.4).11.5.8.7.11.5.6.7).3)).11.5.6.7.11.5.8.7)).11.5.8.7.11.5.6.7)).3))
theorem aLG:FnScope zl27 zl27 (aM rH):=zSc
abbrev wZ(P w K mg z):=Fo P w K mg z "minus" rH zl27 3 aO2
theorem aJ7(Df:R.Df K mg "minus" rH zl27 f fd)(aVF:jX P w K mg z):wZ P w K mg z:=by
 refine⟨f,fd,Df,a9 Df aLG (λds M k h => ?_) (λl A outer s H E m ds M k h => ?_)⟩
 ·obtain⟨p,q,rfl,_⟩:=h;rfl
 obtain⟨p,q,rfl,c,d,e⟩:=h
 obtain⟨j,i⟩:=aAD c.g d.g
 unfold aT at e
 rw[<- aMA] at e
 exact aI (aR (aL aVF m (aF bH (aF cU (aX ⟨big400 c.g.a,big400 d.g.b⟩ (aF cU (aX ⟨big400 d.g.a,big400 c.g.b⟩ (bA (aF cU (aX ⟨big400 c.g.b,big400 d.g.b⟩ ⟨_,_,rfl,j,i,e⟩.4).11.5.8.7.11.5.6.7).3)).11.5.6.7.11.5.8.7)).11.5.8.7.11.5.6.7)).3))
theorem aKH:FnScope zl27 zl27 (aM sA):=zSc
abbrev wN(P w K mg z):=Fo P w K mg z "times" sA zl27 3 aQC
theorem aKM(Df:R.Df K mg "times" sA zl27 f fd)(aVF:jX P w K mg z):wN P w K mg z:=by
 refine⟨f,fd,Df,a9 Df aKH (λds M k h => ?_) (λl A outer s H E m ds M k h => ?_)⟩
 ·obtain⟨p,q,rfl,_⟩:=h;rfl
 obtain⟨p,q,rfl,c,d,e⟩:=h
 obtain⟨j,i⟩:=aAD c.g d.g
 unfold aT at e
 rw[<- aL3] at e
 exact aI (aR (aL aVF m (aF cU (aX ⟨big400 c.g.a,big400 d.g.a⟩ (aF cU (aX ⟨big400 c.g.b,big400 d.g.b⟩ ⟨_,_,rfl,j,i,e⟩.4).11.5.8.7.11.5.6.7).3).11.5.8.7.11.5.6.7).3))
theorem mL:FnScope ["yard", "by_x", "by_y", "xs", "ys"] zl18 (aM kB):=zSc
abbrev sX(P w K mg z):=Fo P w K mg z "stretched" kB zl18 5 aCC
theorem zZ(Df:R.Df K mg "stretched" kB zl18 f fd)(aVG:wN P w K mg z)(T:Bt mg):sX P w K mg z:=by
 refine⟨f,fd,Df,a9 Df mL (λds M k h => ?_) (λo A outer s H E g ds M k h => ?_)⟩
 ·obtain⟨A,a,b,m,l,rfl,_⟩:=h;rfl
 obtain⟨A,a,b,m,l,rfl,j,q,r,p,hl,gl,n⟩:=h
 refine aD (aO 3 mL.nd (cJ dF T.tuple R.BT (bC ["by_x"] [1] (bP ⟨_, .inl rfl,(b8 (ds:=a6 A.ws) (by rw[cF];exact R.aU '$') (λi acc M'=>M'=M/\acc=a6 ((A.ws.take i).map (· * a))) ⟨rfl,rfl⟩ ?_ ?_)⟩.11.5.6.7)).3))
 ·rintro i d acc M' hd ⟨rfl,rfl⟩ cs C s₀ H₀ e
  obtain⟨x,c,rfl⟩:=b4 hd
  refine bG (bF λcs C s₀ H₀ e=>(aL aVG g ⟨_,_,rfl,j x (zMo c),r,⟨rfl,?_⟩⟩.4.8.3.6.3))
  rw[bU c,<- pE]
  rfl
 rintro acc M ⟨rfl,rfl⟩
 rw[cF,jb]
 refine aC (gH '*' (aD (aO 4 mL.nd (cJ dF T.tuple R.BT (bC ["by_y"] [2] (bP ⟨_, .inl rfl,(b8 (ds:=a6 A.us) (by rw[cF];exact R.aU '$') (λi acc M'=>M'=M/\acc=a6 ((A.us.take i).map (· * b))) ⟨rfl,rfl⟩ ?_ ?_)⟩.11.5.6.7)).3))))
 ·rintro i d acc M' hd ⟨rfl,rfl⟩ cs C s₀ H₀ e
  obtain⟨x,c,rfl⟩:=b4 hd
  refine bG (bF λcs C s₀ H₀ e=>(aL aVG g ⟨_,_,rfl,q x (zMo c),p,⟨rfl,?_⟩⟩.4.8.3.6.3))
  rw[bU c,<- pE]
  rfl
 rintro acc M ⟨rfl,rfl⟩
 rw[cF,jb]
 exact aC (gH '*' (aI (aR (bY ⟨(show 3<=sizeLine by decide),n⟩.4.11.5.6.7.3.15.3.13.3))))
theorem tV:FnScope zl31 zl31 (aM gE):=zSc
abbrev nM(P w K mg z):=Fo P w K mg z "is_whole_line" gE zl31 2 aFY
theorem uD(Df:R.Df K mg "is_whole_line" gE zl31 f fd)(aVE:p4 P w K mg z){tF:Tok}(CF:mg "FARTHEST" = some (.int 1000000000 tF)):nM P w K mg z:=by
 refine⟨f,fd,Df,a9 Df tV (λds M k h => ?_) (λc A outer s H E d ds M k h => ?_)⟩
 ·obtain⟨x,rfl,_⟩:=h;rfl
 obtain⟨x,rfl,e,a,b⟩:=h
 refine aI (aR (jI (aL aVE d ⟨_,rfl,trivial,(⟨_,rfl,bF (jG (aKF nH nH (kI iP (uE CF ⟨_,rfl,(d6 ⟨_,rfl,uX (decide_eq_true '!') (uE CF (d6 ?_))⟩).6⟩))))⟩)⟩.4.6.3)))
 rw[decide_eq_true a]
 exact b
theorem qG:FnScope zl31 zl31 (aM fL):=zSc
abbrev k9(P w K mg z):=Fo P w K mg z "are_whole_lines" fL zl31 3 aCA
theorem qW(Df:R.Df K mg "are_whole_lines" fL zl31 f fd)(aVH:nM P w K mg z)(T:Bt mg){tM:Tok}(CM:mg "MOST_LINES" = some (.int 7 tM)):k9 P w K mg z:=by
 refine⟨f,fd,Df,a9 Df qG (λds M k h => ?_) (λj A outer s H E l ds M k h => ?_)⟩
 ·obtain⟨xs,rfl,_⟩:=h;rfl
 obtain⟨xs,rfl,a,g⟩:=h
 have few:=a.few
 have e:(xs.map D.int).length=xs.length:=zLm ..
 refine aD (bN (iC (kK (dG (cC (mG (.inr (.inr (.inr (.inr rfl)))) T.isi T.list R.BL ⟨_, .self trivial,⟨_,rfl,?_⟩⟩.6))))))
 rw[lL]
 refine cL (mE (bL vG (b5 '*' (uE CM (d6 ⟨_,rfl,(rO (decide_eq_false '!') (bD (aD (bN (dG (cC (aP (j5 rfl) T.all R.BAll (bC [] [] (bP ⟨_, .inr (.inl rfl),(b8 (ds:=xs.map D.int) (by rw[e];exact R.aU '!') (λi acc M'=>M'=M/\acc=(jz i true).map D.bl) ⟨rfl,rfl⟩ ?_ ?_)⟩.6)).3)))))))⟩))).4.6.3.18))
 ·rintro i d acc M' hd ⟨rfl,rfl⟩ cs C s₀ H₀ b
  obtain⟨x,m,rfl⟩:=b4 hd
  have c:=a.bd x (zMo m)
  refine bG (bF λcs C s₀ H₀ b=>(aL aVH l ⟨x,rfl,c.1,c.2,⟨rfl,?_⟩⟩.4.6.3))
  rw[Jb,qi]
  rfl
 rintro acc M' ⟨rfl,rfl⟩
 refine aC (mF '*' ⟨_,rfl,?_⟩)
 rw[all_true]
 refine cL (bD (aI (aR (aP (j5 rfl) T.all R.BAll (bC zl31 [0] (rJ T.range (b5 '*' ?_.4).4.6.3.18.3.5.3)).3))))
 rw[e]
 refine⟨_,_,rfl,⟨by lia,by lia,by lia,by lia⟩,?_⟩
 rw[show (((xs.length:Nat):Int)-1).toNat=xs.length-1 by lia]
 refine b8 (by rw[bK];exact R.aU '!') (λi acc M1=>M1=M'/\acc=(jz i true).map D.bl) ⟨rfl,rfl⟩ ?_ ?_
 ·rintro i d acc M1 hd ⟨rfl,rfl⟩ cs C s₀ H₀ b
  obtain⟨n,rfl⟩:=cA hd
  have lt:=jj.mp a.up i (i+1) '!' '!' '!'
  refine bG (bF λcs C s₀ H₀ b=>(fR nI (aF bH (bA (aH '*' (by rw[show (1:Int)+(i:Int)-1=((i:Nat):Int) by lia];exact int_at '!') (aH '*' (by rw[show (1:Int)+(i:Int)=((i+1:Nat):Int) by lia];exact int_at '!') (d6 ?_)).6.8.7)).5.6).8.7))
  rw[decide_eq_true lt]
  refine⟨rfl,?_⟩
  rw[Jb,qi]
  rfl
 rintro acc M1 ⟨rfl,rfl⟩
 refine aC (mF '*' ?_)
 rw[all_true]
 exact g
theorem aHR:FnScope zl23 zl23 (aM pX):=zSc
abbrev aBV(P w K mg z):=Fo P w K mg z "column" pX zl23 1 aKD
theorem aIQ(Df:R.Df K mg "column" pX zl23 f fd):aBV P w K mg z:=by
 refine⟨f,fd,Df,a9 Df aHR (λds M k h => ?_) (λl A outer s H E q ds M k h => ?_)⟩
 ·obtain⟨t,r,zs,n,j,rfl,_⟩:=h;rfl
 obtain⟨t,r,zs,n,j,rfl,s1,hl,o,c,p,i⟩:=h
 cases t with
 |true =>
  cases s1
  refine aI (aR (fK zy bh bc sP (ge_str ⟨rfl,((bC ["place"] [1] (bP ⟨_, .inr (.inl rfl),(b8 (ds:=zs.map D.str) (by rw[zLm];exact R.aU '!') (λd a M2=>M2=M/\a=((zs.take d).map λz=>(⟨#[R.atS z j]⟩:Str)).map D.str) ⟨rfl,rfl⟩ ?_ ?_)⟩.6))).3⟩)))
  ·rintro d m a M2 hd2 ⟨rfl,rfl⟩ cs C s₀ H₀ e
   obtain⟨z,b,rfl⟩:=b4 hd2
   have g:=c z (zMo b)
   refine bG (bF λcs C s₀ H₀ e=>(fP (R.aU '!') (R.iM '!') ⟨rfl,?_⟩).8.6.7)
   rw[take_snoc b,qi,qi]
   rfl
  ·rintro a M2 ⟨rfl,rfl⟩
   rw[zLm,jb]
   refine aC (rV (ys:=zs.map λz=>(⟨#[R.atS z j]⟩:Str)) '*' '&' ?_ ?_)
   ·rw[rM _ (λz c => ?_),zLm]
    ·lia
    ·obtain⟨y,_,rfl⟩:=qo.mp c
     rfl
   ·rw[R.nC,aAC]
    exact i
 |false =>
  cases s1
  refine aI (aR (fK zy bh bc sP (ge_str ⟨rfl,((bC ["place"] [1] (bP ⟨_, .inl rfl,(b8 (ds:=zs.map D.str) (by rw[zLm];exact R.aU '!') (λd a M2=>M2=M/\a=((zs.take d).map λz=>(⟨#[R.atS z j]⟩:Str)).map D.str) ⟨rfl,rfl⟩ ?_ ?_)⟩.6))).3⟩)))
  ·rintro d m a M2 hd2 ⟨rfl,rfl⟩ cs C s₀ H₀ e
   obtain⟨z,b,rfl⟩:=b4 hd2
   have g:=c z (zMo b)
   refine bG (bF λcs C s₀ H₀ e=>(fP (R.aU '!') (R.iM '!') ⟨rfl,?_⟩).8.6.7)
   rw[take_snoc b,qi,qi]
   rfl
  ·rintro a M2 ⟨rfl,rfl⟩
   rw[zLm,jb]
   refine aC (rV (ys:=zs.map λz=>(⟨#[R.atS z j]⟩:Str)) '*' '&' ?_ ?_)
   ·rw[rM _ (λz c => ?_),zLm]
    ·lia
    ·obtain⟨y,_,rfl⟩:=qo.mp c
     rfl
   ·rw[R.nC,aAC]
    exact i
theorem pT:FnScope ["rows", "wide"] ["rows"] (aM n6):=zSc
abbrev xX(P w K mg z):=Fo P w K mg z "columns" n6 ["rows"] 2 aHL
theorem aF2(Df:R.Df K mg "columns" n6 ["rows"] f fd)(aVI:aBV P w K mg z)(T:Bt mg):xX P w K mg z:=by
 refine⟨f,fd,Df,a9 Df pT (λds M k h => ?_) (λo A outer s H E m ds M k h => ?_)⟩
 ·obtain⟨t,r,zs,n,rfl,_⟩:=h;rfl
 obtain⟨t,r,zs,n,rfl,s1,hl,g,b,l⟩:=h
 cases t with
 |true =>
  cases s1
  refine aD (oP (λΓ' M'=>M'=M/\Γ'=[some (.lst (zs.map D.str)),some (.int (((zs.head?.map (·.length)).getD 0:Nat):Int))]) (aO 1 pT.nd (uQ ?_)) ?_)
  ·refine mU ⟨_, .seq '*',(ite2 (λa => ?_) (λa => ?_))⟩.6
   ·cases zs with
    |nil=>cases a
    |cons z zr =>
     have e:=b z '%'
     exact aP aZ T.len q5 (aH '*' (rT z zr) (gY (R.aU '!') ⟨rfl,rfl⟩).4).5.6.7.3
   ·cases zs with
    |nil =>
     exact z6 ⟨rfl,rfl⟩
    |cons z zr=>exact absurd rfl a
  rintro Γ' M' ⟨rfl,rfl⟩
  have hw:(zs.head?.map (·.length)).getD 0<=n:=by
   cases zs with
   |nil=>exact k3 _
   |cons z zr=>exact wm (b z '%')
  refine aI (aR ((bC ["rows"] [0] (eH T.range ⟨_,rfl,by lia,by lia,?_⟩.4.8.3))))
  rw[qm]
  refine b8 (by rw[bK];exact R.aU '!') (λi acc M1=>M1=M'/\acc=((q7 i).map λj=>R.ofL (zs.map (R.atS · j))).map D.str) ⟨rfl,rfl⟩ ?_ ?_
  ·rintro i d acc M1 hd ⟨rfl,rfl⟩ cs C s₀ H₀ c
   obtain⟨p,rfl⟩:=cA hd
   rw[we]
   refine bG (bF λcs C s₀ H₀ c=>(aL aVI m ⟨true,_,zs,n,i,rfl,rfl,hl,g,b,by lia,?_⟩.4.6.3.8.3))
   refine⟨rfl,?_⟩
   rw[x8,qi,qi]
   rfl
  ·rintro acc M1 ⟨rfl,rfl⟩
   rw[bK]
   exact l
 |false =>
  cases s1
  refine aD (oP (λΓ' M'=>M'=M/\Γ'=[some (.tup (zs.map D.str)),some (.int (((zs.head?.map (·.length)).getD 0:Nat):Int))]) (aO 1 pT.nd (uQ ?_)) ?_)
  ·refine mU ⟨_, .seq (.tup _),(ite2 (λa => ?_) (λa => ?_))⟩.6
   ·cases zs with
    |nil=>cases a
    |cons z zr =>
     have e:=b z '%'
     exact aP aZ T.len q5 (aH (.tup _) (rT z zr) (gY (R.aU '!') ⟨rfl,rfl⟩).4).5.6.7.3
   ·cases zs with
    |nil =>
     exact z6 ⟨rfl,rfl⟩
    |cons z zr=>exact absurd rfl a
  rintro Γ' M' ⟨rfl,rfl⟩
  have hw:(zs.head?.map (·.length)).getD 0<=n:=by
   cases zs with
   |nil=>exact k3 _
   |cons z zr=>exact wm (b z '%')
  refine aI (aR ((bC ["rows"] [0] (eH T.range ⟨_,rfl,by lia,by lia,?_⟩.4.8.3))))
  rw[qm]
  refine b8 (by rw[bK];exact R.aU '!') (λi acc M1=>M1=M'/\acc=((q7 i).map λj=>R.ofL (zs.map (R.atS · j))).map D.str) ⟨rfl,rfl⟩ ?_ ?_
  ·rintro i d acc M1 hd ⟨rfl,rfl⟩ cs C s₀ H₀ c
   obtain⟨p,rfl⟩:=cA hd
   rw[we]
   refine bG (bF λcs C s₀ H₀ c=>(aL aVI m ⟨false,_,zs,n,i,rfl,rfl,hl,g,b,by lia,?_⟩.4.6.3.8.3))
   refine⟨rfl,?_⟩
   rw[x8,qi,qi]
   rfl
  ·rintro acc M1 ⟨rfl,rfl⟩
   rw[bK]
   exact l
theorem jP:FnScope ["bands", "outside", "framed"] ["bands"] (aM nD):=zSc
abbrev xP(P w K mg z):=Fo P w K mg z "changes" nD ["bands"] 1 aH8
theorem aGA(Df:R.Df K mg "changes" nD ["bands"] f fd)(T:Bt mg):xP P w K mg z:=by
 refine⟨f,fd,Df,a9 Df jP (λds M k h => ?_) (λB A outer s H E I ds M k h => ?_)⟩
 ·obtain⟨t,r,zs,n,rfl,_⟩:=h;rfl
 obtain⟨t,r,zs,n,rfl,s1,hl,G,x,p⟩:=h
 cases t with
 |true =>
  cases s1
  refine aD (bN (dG (mU ⟨_, .seq '*',(ite2 (λc => ?_) (λc => ?_))⟩.6)))
  ·have e:zs=[]:=by
    cases zs with
    |nil=>rfl
    |cons z b=>exact absurd c '%'
   subst e
   exact aI (aR (bW ⟨(show 0<=sizeLine by decide),p⟩.4))
  have g:zs≠[]:=λe=>by subst e;exact c rfl
  obtain⟨a,b,rfl⟩:∃a b,zs=a::b:=by
   cases zs with
   |nil=>exact absurd rfl g
   |cons z b=>exact⟨z,b,rfl⟩
  have y:=x a '%'
  refine bD (aD (aO 1 jP.nd (aF r8 (ge_str (aH '*' (rT a b) (gY (R.aU '!') (rK '!' '!' (zG '!') ?_)).4).5.6.7.3.18))))
  rw[qm,R.yN]
  refine aD (aO 2 jP.nd (aF fC (aF fC (bW ⟨'-',(cJ gO T.list R.BL (oV '*' (eZ '*' '*' (by rw[zLm];exact R.aU (by simp only[ja,xi] at hl ⊢;lia)) (bW ⟨'-',(eZ '*' '*' (by simp only[qe,zLm,ja,xi] at hl ⊢;exact R.aU '!') ?_)⟩.4.8.3))).4.6.3)⟩.4.8.3))))
  rw[show [D.str (R.dots a.length)]++(a::b).map D.str++[D.str (R.dots a.length)]=(R.framed (a::b)).map D.str from by simp[R.framed]]
  generalize hzz:a::b=zs at *
  refine aI (aR ((bC ["framed"] [2] (eH T.range (aF bH (b5 '*' (bA ?_.4).5).4.10.3.18).3))))
  rw[zLm,R.lY]
  refine⟨_,rfl,by lia,by lia,?_⟩
  rw[show (((zs.length+2:Nat):Int)-1).toNat=zs.length+1 by lia]
  refine b8 (by rw[bK];exact R.aU '!') (λi acc M'=>M'=M/\acc=((q7 i).filter λi => !decide ((R.framed zs)[i]?=(R.framed zs)[i+1]?)).map λ(j:Nat)=>D.int (j:Int)) ⟨rfl,rfl⟩ ?_ ?_
  ·rintro i d acc M' hd ⟨rfl,rfl⟩ cs C s₀ H₀ q
   obtain⟨F,rfl⟩:=cA hd
   obtain⟨u,l⟩:=lT (zs:=zs) (i:=i) '!'
   obtain⟨v,o⟩:=lT (zs:=zs) (i:=i+1) '!'
   refine o7 (bL kJ (aH '*' (rL l) (aF bS (bA (aH '*' (zP o) (mO ⟨_,rfl,?_⟩))).5.6).8.7).6.8.7)
   have m:(!decide ((R.framed zs)[i]?=(R.framed zs)[i+1]?))=(!decide (u=v)):=by rw[l,o];congr 1;simp
   refine ite2 (λc=>λcs C s₀ H₀ q => ?_) (λc => ?_)
   ·refine aB 0 rfl ⟨rfl,?_⟩
    rw[kM,if_pos (by rw[m];exact c),qi,we]
    rfl
   ·refine⟨rfl,?_⟩
    rw[kM,if_neg (by rw[m];exact c)]
  rintro acc M' ⟨rfl,rfl⟩
  rw[bK,aHZ]
  exact p
 |false =>
  cases s1
  refine aD (bN (dG (mU ⟨_, .seq (.tup _),(ite2 (λc => ?_) (λc => ?_))⟩.6)))
  ·have e:zs=[]:=by
    cases zs with
    |nil=>rfl
    |cons z b=>exact absurd c '%'
   subst e
   exact aI (aR (bW ⟨(show 0<=sizeLine by decide),p⟩.4))
  have g:zs≠[]:=λe=>by subst e;exact c rfl
  obtain⟨a,b,rfl⟩:∃a b,zs=a::b:=by
   cases zs with
   |nil=>exact absurd rfl g
   |cons z b=>exact⟨z,b,rfl⟩
  have y:=x a '%'
  refine bD (aD (aO 1 jP.nd (aF r8 (ge_str (aH (.tup _) (rT a b) (gY (R.aU '!') (rK '!' '!' (zG '!') ?_)).4).5.6.7.3.18))))
  rw[qm,R.yN]
  refine aD (aO 2 jP.nd (aF fC (aF fC (bW ⟨'-',(cJ gO T.list R.BL (oV (.tup _) (eZ '*' '*' (by rw[zLm];exact R.aU (by simp only[ja,xi] at hl ⊢;lia)) (bW ⟨'-',(eZ '*' '*' (by simp only[qe,zLm,ja,xi] at hl ⊢;exact R.aU '!') ?_)⟩.4.8.3))).4.6.3)⟩.4.8.3))))
  rw[show [D.str (R.dots a.length)]++(a::b).map D.str++[D.str (R.dots a.length)]=(R.framed (a::b)).map D.str from by simp[R.framed]]
  generalize hzz:a::b=zs at *
  refine aI (aR ((bC ["framed"] [2] (eH T.range (aF bH (b5 '*' (bA ?_.4).5).4.10.3.18).3))))
  rw[zLm,R.lY]
  refine⟨_,rfl,by lia,by lia,?_⟩
  rw[show (((zs.length+2:Nat):Int)-1).toNat=zs.length+1 by lia]
  refine b8 (by rw[bK];exact R.aU '!') (λi acc M'=>M'=M/\acc=((q7 i).filter λi => !decide ((R.framed zs)[i]?=(R.framed zs)[i+1]?)).map λ(j:Nat)=>D.int (j:Int)) ⟨rfl,rfl⟩ ?_ ?_
  ·rintro i d acc M' hd ⟨rfl,rfl⟩ cs C s₀ H₀ q
   obtain⟨F,rfl⟩:=cA hd
   obtain⟨u,l⟩:=lT (zs:=zs) (i:=i) '!'
   obtain⟨v,o⟩:=lT (zs:=zs) (i:=i+1) '!'
   refine o7 (bL kJ (aH '*' (rL l) (aF bS (bA (aH '*' (zP o) (mO ⟨_,rfl,?_⟩))).5.6).8.7).6.8.7)
   have m:(!decide ((R.framed zs)[i]?=(R.framed zs)[i+1]?))=(!decide (u=v)):=by rw[l,o];congr 1;simp
   refine ite2 (λc=>λcs C s₀ H₀ q => ?_) (λc => ?_)
   ·refine aB 0 rfl ⟨rfl,?_⟩
    rw[kM,if_pos (by rw[m];exact c),qi,we]
    rfl
   ·refine⟨rfl,?_⟩
    rw[kM,if_neg (by rw[m];exact c)]
  rintro acc M' ⟨rfl,rfl⟩
  rw[bK,aHZ]
  exact p
theorem aH0:FnScope zl24 zl24 (aM o9):=zSc
abbrev aAB(P w K mg z):=Fo P w K mg z "picked" o9 zl24 1 aOU
theorem aGX(Df:R.Df K mg "picked" o9 zl24 f fd):aAB P w K mg z:=by
 refine⟨f,fd,Df,a9 Df aH0 (λds M k h => ?_) (λn A outer s H E p ds M k h => ?_)⟩
 ·obtain⟨z,c,rfl,_⟩:=h;rfl
 obtain⟨z,c,rfl,e,hl,l,m⟩:=h
 refine aI (aR (fK zy bh bc sP (ge_str ⟨rfl,((bC ["row"] [0] (bP ⟨_, .inr (.inl rfl),(b8 (ds:=eJ c) (by rw[dA];exact R.aU '!') (λg a M2=>M2=M/\a=((c.take g).map λj=>(⟨#[R.atS z j]⟩:Str)).map D.str) ⟨rfl,rfl⟩ ?_ ?_)⟩.8))).3⟩)))
 ·rintro g o a M2 hd2 ⟨rfl,rfl⟩ cs C s₀ H₀ i
  obtain⟨j,b,rfl⟩:=iZ hd2
  have d:=l j (zMo b)
  refine bG (bF λcs C s₀ H₀ i=>(fP (R.aU '!') (R.iM d) ⟨rfl,?_⟩).6.8.7)
  rw[take_snoc b,qi,qi]
  rfl
 ·rintro a M2 ⟨rfl,rfl⟩
  rw[dA,jb]
  refine aC (rV (ys:=c.map λj=>(⟨#[R.atS z j]⟩:Str)) '*' '&' ?_ ?_)
  ·rw[rM _ (λz e => ?_),zLm]
   ·lia
   ·obtain⟨y,_,rfl⟩:=qo.mp e
    rfl
  ·rw[R.nC,aFA]
   exact m
theorem gN:FnScope ["xs", "ys", "rows", "at_xs", "at_ys", "kept"] zl20 (aM pW):=zSc
abbrev aA2(P w K mg z):=Fo P w K mg z "tidied" pW zl20 3 aKJ
theorem aG7(Df:R.Df K mg "tidied" pW zl20 f fd)(aVJ:xP P w K mg z)(aVK:xX P w K mg z)(aVL:aAB P w K mg z)(T:Bt mg):aA2 P w K mg z:=by
 refine⟨f,fd,Df,a9 Df gN (λds M k h => ?_) (λy A outer s H E m ds M k h => ?_)⟩
 ·obtain⟨t,G,B,F,xs,q,zs,n,rfl,_⟩:=h;rfl
 obtain⟨t,G,B,F,xs,q,zs,n,rfl,s1,s2,s3,hl,L,c,v,u,x⟩:=h
 have cl:=R.tT c
 have I:=R.aDM (R.aK zs)
 have J:=R.aDM zs
 cases t with
 |true =>
  cases s1
  cases s2
  cases s3
  refine aD (aO 3 gN.nd (aL aVJ m (aL aVK m ⟨true,_,zs,n,rfl,rfl,by lia,by lia,c,?_⟩.4.10.3).3))
  refine aC ⟨true,_,R.aK zs,zs.length,rfl,rfl,by lia,by lia,λz c=>R.gM z c,?_⟩
  refine aD (aO 4 gN.nd (aL aVJ m ⟨true,_,zs,n,rfl,rfl,by lia,by lia,c,?_⟩.4.10.3))
  have p:∀j∈(R.chg (R.aK zs)).dropLast,j<n:=λj b=>by
   have:=R.j6 (R.cG _) (R.eX _) j b
   lia
  refine aD (lN 5 ["rows", "at_xs"] [2,3] gN.nd (bP (i0 l7 (j8 (jZ (kI iP ⟨_,rfl,⟨_,rfl,(oU '*' ?_)⟩⟩.5))).15)))
  rw[show cutD (eJ (R.chg zs)) none (some (-1))=eJ (R.chg zs).dropLast from (nV _).trans (iT _)]
  refine⟨_, .inr (.inl rfl),(yV (ds:=eJ (R.chg zs).dropLast) (by rw[dA,vc];exact R.aU '!') (λi acc M2=>M2=M/\acc=(((R.chg zs).dropLast.take i).map λi=>R.ofL ((R.chg (R.aK zs)).dropLast.map (R.atS (zs.getD i xl)))).map D.str) ⟨rfl,rfl⟩ ?_ ?_)⟩
  ·rintro i d acc M2 hd ⟨rfl,rfl⟩ cs C s₀ H₀ g
   obtain⟨j,b,rfl⟩:=iZ hd
   have o:=R.j6 (R.cG zs) (R.eX zs) j (zMo b)
   have e:zs[j]?=some (zs.getD j xl):=by rw[zGd,zGe o];rfl
   have l:=zMo e
   refine bG (bF λcs C s₀ H₀ g=>(aL aVL m (aH '*' (by have:=rL e;rw[we] at this;exact this) (i0 l7 (j8 (jZ (kI iP ⟨_,rfl,⟨_,rfl,(oU '*' ?_.4)⟩⟩.5))).10).3).6.8.7.3))
   rw[show cutD (eJ (R.chg (R.aK zs))) none (some (-1))=eJ (R.chg (R.aK zs)).dropLast from (nV _).trans (iT _)]
   refine⟨_,(R.chg (R.aK zs)).dropLast,rfl,by rw[c _ l];lia,by rw[vc];lia,λj b=>by rw[c _ l];exact p j b,?_⟩
   refine⟨rfl,?_⟩
   rw[bU b,qi]
   rfl
  rintro acc M2 ⟨rfl,rfl⟩ a r
  rw[dA,jb]
  refine gF 5 rfl aQ ?_
  rw[fF r]
  refine aI (aR (bY (cJ dF T.tuple R.BT (bC ["xs"] [0] (bP ⟨_, .inr (.inl rfl),(b8 (ds:=eJ (R.chg (R.aK zs))) (by rw[dA];exact R.aU '!') (λi acc M1=>M1=M2/\acc=((R.chg (R.aK zs)).take i).map λj=>xs.getD j .non) ⟨rfl,rfl⟩ ?_ ?_)⟩.13)).3).3))
  ·rintro i d acc M1 hd ⟨rfl,rfl⟩ cs C s₀ H₀ g
   obtain⟨j,b,rfl⟩:=iZ hd
   exact bG (bF λcs C s₀ H₀ g=>(aH '*' (aFM (v j (zMo b))) ⟨rfl,(bU b).symm⟩).6.8.7)
  rintro acc M1 ⟨rfl,rfl⟩
  rw[dA,jb]
  refine aC (gH '*' (cJ dF T.tuple R.BT (bC ["ys"] [1] (bP ⟨_, .inr (.inl rfl),(b8 (ds:=eJ (R.chg zs)) (by rw[dA];exact R.aU '!') (λi acc M2=>M2=M1/\acc=((R.chg zs).take i).map λj=>q.getD j .non) ⟨rfl,rfl⟩ ?_ ?_)⟩.15)).3).3)
  ·rintro i d acc M2 hd ⟨rfl,rfl⟩ cs C s₀ H₀ g
   obtain⟨j,b,rfl⟩:=iZ hd
   exact bG (bF λcs C s₀ H₀ g=>(aH '*' (aFM (u j (zMo b))) ⟨rfl,(bU b).symm⟩).6.8.7)
  rintro acc M2 ⟨rfl,rfl⟩
  rw[dA,jb]
  exact aC (gH '*' (cJ dF T.tuple R.BT (aB 5 rfl (gH '*' ⟨(show 3<=sizeLine by decide),x⟩.4).4).3).3)
 |false =>
  cases s1
  cases s2
  cases s3
  refine aD (aO 3 gN.nd (aL aVJ m (aL aVK m ⟨false,_,zs,n,rfl,rfl,by lia,by lia,c,?_⟩.4.10.3).3))
  refine aC ⟨true,_,R.aK zs,zs.length,rfl,rfl,by lia,by lia,λz c=>R.gM z c,?_⟩
  refine aD (aO 4 gN.nd (aL aVJ m ⟨false,_,zs,n,rfl,rfl,by lia,by lia,c,?_⟩.4.10.3))
  have p:∀j∈(R.chg (R.aK zs)).dropLast,j<n:=λj b=>by
   have:=R.j6 (R.cG _) (R.eX _) j b
   lia
  refine aD (lN 5 ["rows", "at_xs"] [2,3] gN.nd (bP (i0 l7 (j8 (jZ (kI iP ⟨_,rfl,⟨_,rfl,(oU '*' ?_)⟩⟩.5))).15)))
  rw[show cutD (eJ (R.chg zs)) none (some (-1))=eJ (R.chg zs).dropLast from (nV _).trans (iT _)]
  refine⟨_, .inr (.inl rfl),(yV (ds:=eJ (R.chg zs).dropLast) (by rw[dA,vc];exact R.aU '!') (λi acc M2=>M2=M/\acc=(((R.chg zs).dropLast.take i).map λi=>R.ofL ((R.chg (R.aK zs)).dropLast.map (R.atS (zs.getD i xl)))).map D.str) ⟨rfl,rfl⟩ ?_ ?_)⟩
  ·rintro i d acc M2 hd ⟨rfl,rfl⟩ cs C s₀ H₀ g
   obtain⟨j,b,rfl⟩:=iZ hd
   have o:=R.j6 (R.cG zs) (R.eX zs) j (zMo b)
   have e:zs[j]?=some (zs.getD j xl):=by rw[zGd,zGe o];rfl
   have l:=zMo e
   refine bG (bF λcs C s₀ H₀ g=>(aL aVL m (aH (.tup _) (by have:=rL e;rw[we] at this;exact this) (i0 l7 (j8 (jZ (kI iP ⟨_,rfl,⟨_,rfl,(oU '*' ?_.4)⟩⟩.5))).10).3).6.8.7.3))
   rw[show cutD (eJ (R.chg (R.aK zs))) none (some (-1))=eJ (R.chg (R.aK zs)).dropLast from (nV _).trans (iT _)]
   refine⟨_,(R.chg (R.aK zs)).dropLast,rfl,by rw[c _ l];lia,by rw[vc];lia,λj b=>by rw[c _ l];exact p j b,?_⟩
   refine⟨rfl,?_⟩
   rw[bU b,qi]
   rfl
  rintro acc M2 ⟨rfl,rfl⟩ a r
  rw[dA,jb]
  refine gF 5 rfl aQ ?_
  rw[fF r]
  refine aI (aR (bY (cJ dF T.tuple R.BT (bC ["xs"] [0] (bP ⟨_, .inr (.inl rfl),(b8 (ds:=eJ (R.chg (R.aK zs))) (by rw[dA];exact R.aU '!') (λi acc M1=>M1=M2/\acc=((R.chg (R.aK zs)).take i).map λj=>xs.getD j .non) ⟨rfl,rfl⟩ ?_ ?_)⟩.13)).3).3))
  ·rintro i d acc M1 hd ⟨rfl,rfl⟩ cs C s₀ H₀ g
   obtain⟨j,b,rfl⟩:=iZ hd
   exact bG (bF λcs C s₀ H₀ g=>(aH (.tup _) (aFM (v j (zMo b))) ⟨rfl,(bU b).symm⟩).6.8.7)
  rintro acc M1 ⟨rfl,rfl⟩
  rw[dA,jb]
  refine aC (gH '*' (cJ dF T.tuple R.BT (bC ["ys"] [1] (bP ⟨_, .inr (.inl rfl),(b8 (ds:=eJ (R.chg zs)) (by rw[dA];exact R.aU '!') (λi acc M2=>M2=M1/\acc=((R.chg zs).take i).map λj=>q.getD j .non) ⟨rfl,rfl⟩ ?_ ?_)⟩.15)).3).3)
  ·rintro i d acc M2 hd ⟨rfl,rfl⟩ cs C s₀ H₀ g
   obtain⟨j,b,rfl⟩:=iZ hd
   exact bG (bF λcs C s₀ H₀ g=>(aH (.tup _) (aFM (u j (zMo b))) ⟨rfl,(bU b).symm⟩).6.8.7)
  rintro acc M2 ⟨rfl,rfl⟩
  rw[dA,jb]
  exact aC (gH '*' (cJ dF T.tuple R.BT (aB 5 rfl (gH '*' ⟨(show 3<=sizeLine by decide),x⟩.4).4).3).3)
theorem aGV:FnScope zl25 zl25 (aM o8):=zSc
abbrev zR(P w K mg z):=Fo P w K mg z "is_row" o8 zl25 1 aR1
theorem aHT(Df:R.Df K mg "is_row" o8 zl25 f fd)(T:Bt mg):zR P w K mg z:=by
 refine⟨f,fd,Df,a9 Df aGV (λds M k h => ?_) (λm A outer s H E q ds M k h => ?_)⟩
 ·obtain⟨d,n,w,rfl,_⟩:=h;rfl
 obtain⟨d,n,w,rfl,e,a⟩:=h
 rcases aQO d with ⟨z,rfl⟩|⟨j,l⟩
 ·have p:=zL e
  refine aD (bN (iC (kK (dG (cC (mG (.inr (.inr (.inl rfl))) T.isi T.str R.BS ⟨_, .self trivial,⟨_,rfl,?_⟩⟩.6))))))
  rw[sS]
  refine cL (mE (bL kJ (gY (R.aU '!') (zX ⟨_,rfl,?_⟩).8).4.6.3.18))
  by_cases b:z.length=w
  ·rw[decide_eq_true '!']
   refine cL (bD (aI (aR (aP (j5 rfl) T.all R.BAll (bC [] [] (aTH ⟨_,rfl,(b8 (ds:=wY z) (by rw[pG];exact R.aU '!') (λi acc M'=>M'=M/\acc=((z.cps.toList.take i).map λc=>c==35||c==46).map D.bl) ⟨rfl,rfl⟩ ?_ ?_)⟩.6)).3))))
   ·rintro i d acc M' hd ⟨rfl,rfl⟩ cs C s₀ H₀ g
    obtain⟨c,o,rfl⟩:=b4 hd
    refine bG (bF λcs C s₀ H₀ g=>(fR aIU (ge_str (aK9 ?_)).6))
    rw[R.aJS]
    refine⟨rfl,?_⟩
    rw[bU o,qi]
    rfl
   rintro acc M' ⟨rfl,rfl⟩
   rw[pG,show z.length=z.cps.toList.length from (qt ..).symm,jb]
   refine aC (mF '*' ?_)
   rw[aAH]
   rw[show j7 w (.str z)=z.cps.toList.all (λc=>c==35||c==46) from by show (decide (z.length=w)&&_)=_;rw[decide_eq_true b];rfl] at a
   exact a
  ·rw[decide_eq_false '!']
   rw[show j7 w (.str z)=false from by show (decide (z.length=w)&&_)=_;rw[decide_eq_false b];rfl] at a
   exact bF (aI (aR (kG a)))
 ·rw[aSU l] at a
  refine aD (bN (iC (kK (dG (cC (mG (.inr (.inr (.inl rfl))) T.isi T.str R.BS ⟨_, .self (aKW e),⟨_,rfl,?_⟩⟩.6))))))
  rw[j]
  exact bF (bF (aI (aR (kG a))))
theorem iG:FnScope ["rows", "xs", "ys", "wide", "high"] zl21 (aM lX):=zSc
abbrev u4(P w K mg z):=Fo P w K mg z "rows_fit" lX zl21 2 aUP
theorem aCR(Df:R.Df K mg "rows_fit" lX zl21 f fd)(aVM:zR P w K mg z)(T:Bt mg):u4 P w K mg z:=by
 refine⟨f,fd,Df,a9 Df iG (λds M k h => ?_) (λo A outer s H E g ds M k h => ?_)⟩
 ·obtain⟨t,l,p,m,rs,xs,b,n,rfl,_⟩:=h;rfl
 obtain⟨t,l,p,m,rs,xs,b,n,rfl,s1,s2,s3,j,q,r,l3,a⟩:=h
 cases t with
 |true =>
  cases s1
  cases s2
  cases s3
  refine aD (aO 3 iG.nd (aP (k5 rfl) T.max R.BMax (aF bH (b5 '*' (bA (qN ?_).4.5.3).5).4.8.3.18).3))
  rw[maxz0]
  refine aD (aO 4 iG.nd (aP (k5 rfl) T.max R.BMax (aF bH (b5 '*' (bA (qN ?_).4.5.3).5).4.10.3.18).3))
  rw[maxz0]
  refine aI (aR (jI (fR f9 (b5 '*' (kX ⟨_,rfl,?_⟩).15).4.6.3.18)))
  by_cases c:rs.length=b.length-1
  ·refine uX (decide_eq_true '!') (jG (aP (j5 rfl) T.all R.BAll (bC ["wide"] [3] (bP ⟨_, .inr (.inl rfl),(b8 (ds:=rs) (R.aU '!') (λi acc M'=>M'=M/\acc=((rs.take i).map (j7 (xs.length-1))).map D.bl) ⟨rfl,rfl⟩ ?_ ?_)⟩.6)).3))
   ·rintro i d acc M' hd ⟨rfl,rfl⟩ cs C s₀ H₀ e
    refine bG (bF λcs C s₀ H₀ e=>(aL aVM g ⟨d,n,_,rfl,j d (zMo hd),⟨rfl,?_⟩⟩.4.8.3.6.3))
    rw[bU hd,qi]
    rfl
   rintro acc M' ⟨rfl,rfl⟩
   rw[jb]
   refine aC (mF '*' ?_)
   rw[aAH]
   rw[show k6 rs xs.length b.length=rs.all (j7 (xs.length-1)) from by unfold k6;rw[decide_eq_true c];rfl] at a
   exact a
  ·rw[show k6 rs xs.length b.length=false from by unfold k6;rw[decide_eq_false c];rfl] at a
   exact rO (decide_eq_false '!') a
 |false =>
  cases s1
  cases s2
  cases s3
  refine aD (aO 3 iG.nd (aP (k5 rfl) T.max R.BMax (aF bH (b5 (.tup _) (bA (qN ?_).4.5.3).5).4.8.3.18).3))
  rw[maxz0]
  refine aD (aO 4 iG.nd (aP (k5 rfl) T.max R.BMax (aF bH (b5 (.tup _) (bA (qN ?_).4.5.3).5).4.10.3.18).3))
  rw[maxz0]
  refine aI (aR (jI (fR f9 (b5 (.tup _) (kX ⟨_,rfl,?_⟩).15).4.6.3.18)))
  by_cases c:rs.length=b.length-1
  ·refine uX (decide_eq_true '!') (jG (aP (j5 rfl) T.all R.BAll (bC ["wide"] [3] (bP ⟨_, .inl rfl,(b8 (ds:=rs) (R.aU '!') (λi acc M'=>M'=M/\acc=((rs.take i).map (j7 (xs.length-1))).map D.bl) ⟨rfl,rfl⟩ ?_ ?_)⟩.6)).3))
   ·rintro i d acc M' hd ⟨rfl,rfl⟩ cs C s₀ H₀ e
    refine bG (bF λcs C s₀ H₀ e=>(aL aVM g ⟨d,n,_,rfl,j d (zMo hd),⟨rfl,?_⟩⟩.4.8.3.6.3))
    rw[bU hd,qi]
    rfl
   rintro acc M' ⟨rfl,rfl⟩
   rw[jb]
   refine aC (mF '*' ?_)
   rw[aAH]
   rw[show k6 rs xs.length b.length=rs.all (j7 (xs.length-1)) from by unfold k6;rw[decide_eq_true c];rfl] at a
   exact a
  ·rw[show k6 rs xs.length b.length=false from by unfold k6;rw[decide_eq_false c];rfl] at a
   exact rO (decide_eq_false '!') a
theorem aON:FnScope zl20 zl20 (aM uM):=zSc
abbrev aIV(P w K mg z):=Fo P w K mg z "made" uM zl20 5 aUA
theorem aOH(Df:R.Df K mg "made" uM zl20 f fd)(aVN:k9 P w K mg z)(aVO:u4 P w K mg z)(aVP:aA2 P w K mg z)(aVQ:lP P w K mg z)(T:Bt mg):aIV P w K mg z:=by
 refine⟨f,fd,Df,a9 Df aON (λds M k h => ?_) (λq A outer s H E b ds M k h => ?_)⟩
 ·obtain⟨xs,c,zs,rfl,_⟩:=h;rfl
 obtain⟨xs,c,zs,rfl,m,l,e,a,p⟩:=h
 have v:=m.few
 have u:=l.few
 have t:(xs.map D.int).length=xs.length:=zLm ..
 have o:(c.map D.int).length=c.length:=zLm ..
 refine aD (bN (iC (kK (dG (cC (aL aVN b ⟨xs,rfl,m,⟨_,rfl,(cL (mE (dG (cC (aL aVN b ⟨c,rfl,l,⟨_,rfl,(cL (bD (aD (bN (iC (kK (dG (cC (mG (.inr (.inr (.inr (.inr rfl)))) T.isi T.list R.BL ⟨_, .self trivial,⟨_,rfl,?_⟩⟩.10)))))))))⟩⟩.4.8.3)))))⟩⟩.4.6.3))))))
 rw[lL]
 refine cL (mE (dG (cC (aL aVO b ⟨true,_,_,_,zs.map .str,xs.map .int,c.map .int,1,rfl,rfl,rfl,rfl,λr b=>(aPJ (n:=50) (λz a=>qq (wm (e z a).1) (show _<=1000 by omega)) '$').tame1 r b,by rw[zLm];omega,by omega,by omega,?_⟩.4.8.3.6.3.10.3))))
 refine⟨_,rfl,?_⟩
 rw[t,o,aTQ a (λz a=>(e z a).1),aLJ e]
 refine cL (bD (aI (aR (aL aVP b (bC [] [] (bP ⟨_, .inr (.inl rfl),(b8 (ds:=xs.map D.int) (by rw[zLm];exact R.aU '$') (λi acc M1=>M1=M/\acc=((xs.take i).map p1).map pairD) ⟨rfl,rfl⟩ ?_ ?_)⟩.6)).3))))
 ·rintro i d acc M1 hd ⟨rfl,rfl⟩ cs C s₀ H₀ g
  obtain⟨x,j,rfl⟩:=b4 hd
  refine bG (bF λcs C s₀ H₀ g=>(aL aVQ b ⟨x,1,rfl,by decide,cc '#' '#',?_⟩.4.5.3.6.3))
  rw[low1]
  refine⟨rfl,?_⟩
  rw[bU j,qi]
  rfl
 rintro acc M ⟨rfl,rfl⟩
 rw[zLm,jb]
 refine aA (bC [] [] (bP ⟨_, .inr (.inl rfl),(b8 (ds:=c.map D.int) (by rw[zLm];exact R.aU '$') (λi acc M1=>M1=M/\acc=((c.take i).map p1).map pairD) ⟨rfl,rfl⟩ ?_ ?_)⟩.8))
 ·rintro i d acc M1 hd ⟨rfl,rfl⟩ cs C s₀ H₀ g
  obtain⟨x,j,rfl⟩:=b4 hd
  refine bG (bF λcs C s₀ H₀ g=>(aL aVQ b ⟨x,1,rfl,by decide,cc '#' '#',?_⟩.4.5.3.6.3))
  rw[low1]
  refine⟨rfl,?_⟩
  rw[bU j,qi]
  rfl
 rintro acc M ⟨rfl,rfl⟩
 rw[zLm,jb]
 exact aA ⟨true,_,_,_,iK xs,iK c,zs,xs.length-1,rfl,rfl,rfl,rfl,by omega,by omega,λz a=>(e z a).1,by rw[u5];exact iE λz a=>(e z a).1,by rw[u5];exact iN a,p⟩.4.10
theorem aP9:FnScope zl28 zl28 (aM vT):=zSc
abbrev aH9(P w K mg z):=Fo P w K mg z "gone" vT zl28 5 aTR
theorem aQF(Df:R.Df K mg "gone" vT zl28 f fd)(aVG:wN P w K mg z)(aVQ:lP P w K mg z):aH9 P w K mg z:=by
 refine⟨f,fd,Df,a9 Df aP9 (λds M k h => ?_) (λe A outer s H E b ds M k h => ?_)⟩
 ·obtain⟨p,t,rfl,_⟩:=h;rfl
 obtain⟨p,t,rfl,c,g,d⟩:=h
 have a:Bq (p:Rat):=⟨qy c '&',by show 1<_;exact cc '#' '#'⟩
 refine aI (aR (aL aVG b (aL aVQ b ⟨p,1,rfl,by decide,cc '#' '#',?_⟩.4.5.3.6.3).3))
 rw[m8 p 1 '#',wR]
 exact aA ⟨_,_,rfl,a,g,d⟩.4.8
theorem aBF:FnScope zl15 zl15 (aM kD):=zSc
abbrev sW(P w K mg z):=Fo P w K mg z "box_edges" kD zl15 6 aSF
theorem zQ(Df:R.Df K mg "box_edges" kD zl15 f fd)(aVR:aH9 P w K mg z)(aVS:wZ P w K mg z)(aVT:aG1 P w K mg z):sW P w K mg z:=by
 refine⟨f,fd,Df,a9 Df aBF (λds M k h => ?_) (λj A outer s H E c ds M k h => ?_)⟩
 ·obtain⟨e,n,w,s,x,y,t,rfl,_⟩:=h;rfl
 obtain⟨e,n,w,s,x,y,t,rfl,o,sx,g,d,i⟩:=h
 refine aI (aR (bY (aL aVS c (aL aVR c ⟨_,_,rfl,by have:=o.p.a;have:=o.p.b;omega,d.bq '#',⟨_,_,rfl,sx.bq '#',(d.mulI o.p).bq '#',(aL aVS c (aL aVR c ?_.3.11.5.6.7.3).3.10.3).3⟩.4⟩.4.13.3.11.5.6.7.3).3.8.3).3))
 refine aB 3 rfl ⟨_,_,rfl,by have:=o.q.a;have:=o.q.b;omega,d.bq '#',⟨_,_,rfl,g.bq '#',(d.mulI o.q).bq '#',(aL aVT c (aL aVR c ⟨_,_,rfl,by have:=o.r.a;have:=o.r.b;omega,d.bq '#',⟨_,_,rfl,sx.bq '#',(d.mulI o.r).bq '#',(aL aVT c (aL aVR c ?_.6.7.3).3.10.3).3⟩.4⟩.4.13.3.11.5.6.7.3).3.8.3).3⟩.4⟩.4
 exact z6 ⟨_,_,rfl,by have:=o.s.a;have:=o.s.b;omega,d.bq '#',⟨_,_,rfl,g.bq '#',(d.mulI o.s).bq '#',⟨(show 4<=sizeLine by decide),i⟩.4⟩.4⟩.4.13.3.11
theorem aKC:FnScope zl27 zl27 (aM r9):=zSc
abbrev o0(P w K mg z):=Fo P w K mg z "under" r9 zl27 1 aO1
theorem aLA(Df:R.Df K mg "under" r9 zl27 f fd):o0 P w K mg z:=by
 refine⟨f,fd,Df,a9 Df aKC (λds M k h => ?_) (λc A outer s H E g ds M k h => ?_)⟩
 ·obtain⟨p,q,rfl,_⟩:=h;rfl
 obtain⟨p,q,rfl,⟨p1,e⟩,⟨d,b⟩,a⟩:=h
 exact aI (aR (fR nI (aF cU (aX ⟨big400 p1,big400 b⟩ (aF cU (aX ⟨big400 d,big400 e⟩ (d6 a)).11.5.6.7.11.5.8.7)).11.5.8.7.11.5.6.7)))
theorem pD:FnScope ["side", "edges", "low", "high"] ["side", "edges"] (aM nE):=zSc
abbrev xS(P w K mg z):=Fo P w K mg z "touches" nE ["side", "edges"] 2 aLV
theorem aE0(Df:R.Df K mg "touches" nE ["side", "edges"] f fd)(aVU:o0 P w K mg z):xS P w K mg z:=by
 refine⟨f,fd,Df,a9 Df pD (λds M k h => ?_) (λj A outer s H E g ds M k h => ?_)⟩
 ·obtain⟨A,d,e,n,w,s,x,y,t,N,rfl,_⟩:=h;rfl
 obtain⟨A,d,e,n,w,s,x,y,t,N,rfl,hf,env,l,c⟩:=h
 have he:=aQL A e n w s x y t hf
 have i:=env.edges l d.f
 have hl:=env.ls d
 have m:=env.nm.bq hl.2.1
 have be:=env.nm.bq hl.2.2
 refine aD (aO 2 pD.nd (aF bH (aF eM (aX '#' (bA (aH (.tup _) he.2.1 (aD (aO 3 pD.nd (aF bH (aF eM (aX '#' (bA (aH (.tup _) he.2.2 (aI (aR (jI (fR (zU (n:=1) (R.units_le g)) ?_.6.7))))))).5.11.5.6.7).5).8.7))))).5.11.5.6.7).5).8.7)
 refine z6 (aH (.tup _) he.1 (aA4 (e1:=aT _) (e2:=aT _) (.tup _) (.tup _) rfl rfl ?_)).11.5.6.7.8.7.11
 rw[aBZ]
 refine⟨_,rfl,(ite2 (λb => ?_) (λb=>c _ ⟨(λz=>nomatch z),λz=>absurd (decide_eq_true (o6.mp z).1) b⟩))⟩
 have b:=of_decide_eq_true b
 refine jI (oH (aL aVU g ⟨pq _,pq _,rfl,be.p,i.1.p,?_⟩.4.10.3.11.5.6.7.3))
 rw[vC]
 refine⟨_,rfl,⟨_,rfl,(ite2 (λa => ?_) (λa=>c _ ⟨(λz=>nomatch z),λz=>absurd (by rw[decide_eq_false (o6.mp z).2.1];rfl) a⟩))⟩⟩
 have a:¬t9 A d<(axF A e n w s x y d.f).y-(axF A e n w s x y d.f).da*t:=of_decide_eq_false (by simpa using a)
 refine jG (oH (aL aVU g ⟨pq _,pq _,rfl,i.2.p,m.p,?_⟩.4.11.5.6.7.3.13.3))
 rw[vC]
 exact⟨_,rfl,(c _ ⟨λz=>o6.mpr ⟨b,a,of_decide_eq_false (by simpa using z)⟩,λz=>by rw[decide_eq_false (o6.mp z).2.2];rfl⟩)⟩
theorem tG:FnScope ["lines", "where", "below"] ["lines", "where"] (aM lE):=zSc
abbrev vH(P w K mg z):=Fo P w K mg z "bands_at" lE ["lines", "where"] 2 aPP
theorem aCN(Df:R.Df K mg "bands_at" lE ["lines", "where"] f fd)(aVU:o0 P w K mg z)(T:Bt mg):vH P w K mg z:=by
 refine⟨f,fd,Df,a9 Df tG (λds M k h => ?_) (λr A outer s H E l ds M k h => ?_)⟩
 ·obtain⟨ws,v,rfl,_⟩:=h;rfl
 obtain⟨ws,v,rfl,q,hl,t,a⟩:=h
 have g:=cF ws
 refine aD (aO 2 tG.nd (bC ["where"] [1] (bP ⟨_, .inl rfl,(b8 (ds:=a6 ws) (by rw[g];exact R.aU '$') (λi acc M'=>M'=M/\acc=a6 ((ws.take i).filter λx=>decide (x<v))) ⟨rfl,rfl⟩ ?_ ?_)⟩.6)).3.18)
 ·rintro i d acc M' hd ⟨rfl,rfl⟩ cs C s₀ H₀ m
  obtain⟨x,j,rfl⟩:=b4 hd
  refine o7 (cC (aL aVU l ⟨pq x,pq v,rfl,(q x (zMo j)).p,t.p,?_⟩.4.8.3.6.3))
  rw[vC]
  refine⟨_,rfl,(ite2 (λc=>λcs C s₀ H₀ m => ?_) (λc => ?_))⟩
  ·refine aB 0 rfl ⟨rfl,?_⟩
   rw[take_snoc j,dt,vf (p:=λx=>decide (x<v)) c,rh,<- pE]
   rfl
  ·refine⟨rfl,?_⟩
   rw[take_snoc j,dt,wa (p:=λx=>decide (x<v)) c,rh,wg]
 rintro acc M' ⟨rfl,rfl⟩
 rw[g,jb]
 refine aC (b5 '*' ?_)
 rw[cF,show (ws.filter λx=>decide (x<v)).length=gL ws v from rfl]
 have o:gL ws v<=ws.length:=yk _ _
 refine aD (bN (iC (kS (bL nI (b5 (.tup _) (d6 ⟨_,rfl,?_⟩)).4.6.3.18.10))))
 rw[g]
 unfold aW at a
 by_cases e:gL ws v<ws.length
 rotate_left
 ·rw[if_neg (λz=>e z.1)] at a
  exact rO (decide_eq_false '$') (cL (bD (aI (aR (bW (aF bH (bA ⟨'-',a⟩.4).5.10).3)))))
 refine uX (decide_eq_true '$') (oQ (bL (zU (n:=1) (R.units_le l)) (aH (.tup _) (pH e) (aA4 (e1:=aT (ws.getD (gL ws v) 0)) (e2:=aT v) (.tup _) (.tup _) rfl rfl ⟨_,rfl,?_⟩).8).10.6.7))
 rw[aBZ]
 by_cases b:ws.getD (gL ws v) 0=v
 ·rw[if_pos ⟨e,b⟩] at a
  exact uX (decide_eq_true b) (aI (aR (bW (aF bH (bA ⟨'/',a⟩.4.10.3).5.10).3)))
 ·rw[if_neg (λz=>b z.2)] at a
  exact rO (decide_eq_false b) (bD (aI (aR (bW (aF bH (bA ⟨'-',a⟩.4).5.10).3))))
theorem tQ:FnScope ["yard", "across", "up", "rows"] zl19 (aM lD):=zSc
abbrev lM(P w K mg z):=Fo P w K mg z "has_cell" lD zl19 1 cHas
theorem aCZ(Df:R.Df K mg "has_cell" lD zl19 f fd)(T:Bt mg):lM P w K mg z:=by
 refine⟨f,fd,Df,a9 Df tQ (λds M k h => ?_) (λB A outer s H E D ds M k h => ?_)⟩
 ·obtain⟨x,y,zs,a,u,rfl,_⟩:=h;rfl
 obtain⟨x,y,zs,a,u,rfl,o,l⟩:=h
 have d:R.aJ zs a u=false->k (.bl false) M:=λe=>by rw[e] at l;exact l
 refine aD (aO 3 tQ.nd (aD (bN (iC (kK (bL nI (d6 ⟨_,rfl,(ite2 (λj=>bF (aI (aR (kG (d (R.dN (of_decide_eq_true j))))))) (λj=>(kK (bL aGC (b5 (.tup _) (d6 ⟨_,rfl,(ite2 (λg=>bF (aI (aR (kG (d (R.eA (by have:=of_decide_eq_true g;rw[zLm] at this;exact this))))))) (λg=>(kK (bL nI (d6 ⟨_,rfl,?_⟩).5.8))))⟩)).4.13.3.18.10))))⟩).5.10))))).11.5.6.7)
 refine ite2 (λn=>bF (aI (aR (kG (d (R.cY (of_decide_eq_true n))))))) (λn => ?_)
 obtain⟨t,p,z,b,r⟩:=cell_in j g n
 refine mE (bL aGC (aH (.tup _) r (gY (R.aU (by have:=o z (zMo b);omega)) (d6 ⟨_,rfl,?_⟩)).4).10.13.7.3.18.8)
 have C:=o z (zMo b)
 refine ite2 (λm=>aI (aR (kG (d (R.kA b (of_decide_eq_true m)))))) (λm=>bD ?_)
 obtain⟨c,v,i⟩:=aNR p (λq=>m (decide_eq_true q))
 refine aI (aR (fR f9 (aH (.tup _) r (fP (R.aU '$') i (ge_str (o4 ?_))).8).10.13.7.7))
 rw[qU,<- R.fI t p b v]
 exact l
theorem jJ:FnScope ["yard", "facing", "place", "band", "beyond", "before"] zl9 (aM nX):=zSc
abbrev xU(P w K mg z):=Fo P w K mg z "is_edge" nX zl9 2 aT8
theorem aFS(Df:R.Df K mg "is_edge" nX zl9 f fd)(aVV:lM P w K mg z):xU P w K mg z:=by
 refine⟨f,fd,Df,a9 Df jJ (λds M k h => ?_) (λi A outer s H E g ds M k h => ?_)⟩
 ·obtain⟨x,y,zs,f,p,b,rfl,_⟩:=h;rfl
 obtain⟨x,y,zs,f,p,b,rfl,d,a⟩:=h
 refine aD (oP (λΓ' M'=>M'=M/\Γ'=[some (.tup [x,y, .tup (zs.map .str)]),some (.int (f:Int)),some (.int (p:Int)),some (.int (b:Int)),some (.bl (if f%2=0 then R.aJ zs (p:Int) (b:Int) else R.aJ zs (b:Int) (p:Int))),some (.bl (if f%2=0 then R.aJ zs ((p:Int)-1) (b:Int) else R.aJ zs (b:Int) ((p:Int)-1)))]) ?_ ?_)
 ·refine bN (bL f9 (aF eM (aX (show (0:Int)<_ by first|decide|lia) (kX ⟨_,rfl,(ite2 (λc => ?_) (λc => ?_))⟩).5).5.8))
  ·have e:f%2=0:=by have:=of_decide_eq_true c;lia
   refine aD (aO 4 jJ.nd (aL aVV g ⟨x,y,zs,_,_,rfl,d,(aI (aO 5 jJ.nd (aL aVV g (aF bH (bA ⟨x,y,zs,_,_,rfl,d,?_⟩.4.13.3).5.10).3.6.3)))⟩.4.13.3.10.3.6.3))
   rw[if_pos e,if_pos e]
   exact⟨rfl,rfl⟩
  ·have e:¬f%2=0:=λz=>c (decide_eq_true '!')
   refine aD (aO 4 jJ.nd (aL aVV g ⟨x,y,zs,_,_,rfl,d,(aI (aO 5 jJ.nd (aL aVV g (aF bH (bA ⟨x,y,zs,_,_,rfl,d,?_⟩.4).5.10).3.13.3.6.3)))⟩.4.10.3.13.3.6.3))
   rw[if_neg e,if_neg e]
   exact⟨rfl,rfl⟩
 rintro Γ' M' ⟨rfl,rfl⟩
 unfold R.edge at a
 dsimp only at a
 generalize (if f%2=0 then R.aJ zs (p:Int) (b:Int) else R.aJ zs (b:Int) (p:Int))=c1 at a ⊢
 generalize (if f%2=0 then R.aJ zs ((p:Int)-1) (b:Int) else R.aJ zs (b:Int) ((p:Int)-1))=c2 at a ⊢
 refine aD (bN (bL nI (d6 ⟨_,rfl,(ite2 (λc => ?_) (λc => ?_))⟩).5.8))
 ·rw[if_pos (by have:=of_decide_eq_true c;lia)] at a
  refine aI (aR (jI ⟨_,rfl,?_⟩.15))
  cases c1 with
  |false=>exact cL a
  |true =>
   exact bF (jG (oH (aB 5 rfl ⟨_,rfl,a⟩)))
 ·rw[if_neg (λz=>c (decide_eq_true '!'))] at a
  refine bD (aI (aR (jI (aB 5 rfl ⟨_,rfl,?_⟩))))
  cases c2 with
  |false=>exact cL a
  |true =>
   exact bF (jG (oH ⟨_,rfl,a⟩.15))
theorem jV:FnScope ["truths", "told", "begin", "place", "truth"] ["truths"] (aM vS):=zSc
abbrev aII(P w K mg z):=Fo P w K mg z "runs" vS ["truths"] 1 aUL
theorem aOX(Df:R.Df K mg "runs" vS ["truths"] f fd)(T:Bt mg):aII P w K mg z:=by
 refine⟨f,fd,Df,a9 Df jV (λds M k h => ?_) (λr A outer s H E v ds M k h => ?_)⟩
 ·obtain⟨bs,rfl,_⟩:=h;rfl
 obtain⟨bs,rfl,hl,p⟩:=h
 refine aD (aO 1 jV.nd (f6 ⟨(show 0<=sizeLine by decide),λa o=>(aD (aO 2 jV.nd (qC (aD (cW (uH T.enumerate BEnum (aF fC (bW (kG ⟨'-',(eZ '*' '*' (by rw[zLm];exact R.aU (by simp only[ja,xi];lia)) ⟨_,rfl,?_⟩.4)⟩.4).3).6).3))))))⟩.4))
 rw[aJW]
 refine⟨λi Γ' M'=>M'=bV M a (.lst ((R.rto (bs++[false]) i).1.map prD))/\∃j v4,Γ'=[some (.lst (bs.map .bl)),some (.mt a),some (bgD (R.rto (bs++[false]) i).2),j,v4],⟨rfl,_,_,rfl⟩,?_,?_⟩
 ·rintro i d Γ' M' hd ⟨rfl,j,v4,rfl⟩
  obtain⟨x,u,rfl⟩:=nZ hd
  obtain⟨t,m,rfl⟩:=b4 u
  have y:i<bs.length+1:=by have:=(zGs m).1;simpa using this
  have c:R.rto (bs++[false]) (i+1)=R.rstep (R.rto (bs++[false]) i) i t:=by
   show R.rstep _ _ ((bs++[false]).getD i false)=_
   rw[aNL m]
  have ln:=(R.rZ (bs++[false]) i).len
  generalize R.rto (bs++[false]) i=q at ln c ⊢
  obtain⟨e,l⟩:=q
  refine gI rfl (a8 (aV 3 jV.nd (a8 (aV 4 jV.nd (eE ?_)))))
  have g:(e.map prD).length<sizeLine:=by rw[zLm];exact R.aU (n:=e.length+1) (by simp only at ln;lia)
  cases t with
  |true =>
   refine aD (bN (iC (kS (cC ⟨_,rfl,(bF (oQ (bL aR2 (qC (aSO ⟨_,rfl,?_⟩)).10)))⟩.15))))
   cases l with
   |none =>
    refine bF (aI (aO 2 jV.nd (aI (bN (iC (kS (dG (cC ⟨_,rfl,(cL (cL (bD ?_)))⟩.15)))))).13))
    dsimp only
    rw[c]
    exact⟨rfl,_,_,rfl⟩
   |some b =>
    refine cL (bD (aI (bN (iC (kS (dG (cC ⟨_,rfl,(cL (cL (bD ?_)))⟩.15)))))))
    dsimp only
    rw[c]
    exact⟨rfl,_,_,rfl⟩
  |false =>
   refine aD (bN (iC (kS (cC ⟨_,rfl,(cL (cL (bD (aI (bN (iC (kS (dG (cC ⟨_,rfl,(bF (oQ (bL aPC (qC (aPA ⟨_,rfl,?_⟩)).10)))⟩.15)))))))))⟩.15))))
   cases l with
   |none =>
    refine cL (bD ?_)
    dsimp only
    rw[c]
    exact⟨rfl,_,_,rfl⟩
   |some b =>
    refine bF (aD (eU (fK j1 jy jx c8 (⟨⟨rfl,_,aQ⟩,(bY ⟨'/',(dE aQ g ?_).4⟩.4.13.3.10.3).3⟩).8)))
    rw[dP]
    refine aI (aO 2 jV.nd (qC ?_))
    dsimp only
    rw[c]
    refine⟨?_,_,_,rfl⟩
    rw[show (R.rstep (e,some b) i false).1=e++[(b,i)] from rfl,qi]
    rfl
 ·rintro Γ' M' ⟨rfl,j,v4,rfl⟩
  rw[nO,zLm,qe]
  refine gF 1 rfl aQ ?_
  rw[fF o]
  exact aI (aR p.8)
theorem qX:FnScope ["yard", "facing", "place", "bands"] zl16 (aM kL):=zSc
abbrev tN(P w K mg z):=Fo P w K mg z "stretches" kL zl16 3 aLF
theorem aAY(Df:R.Df K mg "stretches" kL zl16 f fd)(aVW:aII P w K mg z)(aVX:xU P w K mg z)(T:Bt mg):tN P w K mg z:=by
 refine⟨f,fd,Df,a9 Df qX (λds M k h => ?_) (λm A outer s H E b ds M k h => ?_)⟩
 ·obtain⟨xs,a,zs,f,p,rfl,_⟩:=h;rfl
 obtain⟨xs,a,zs,f,p,rfl,e,g,j,l⟩:=h
 have o:=qL (f:=f) g j
 refine aD (aO 3 qX.nd (aF bH (aF bH (aF eM (aX '#' (bA (aH (.tup _) (aBL f) (b5 (.tup _) (bA (aI (aR (aL aVW b (bC zl16 [0,1,2] (eH T.range ⟨_,rfl,by omega,by omega,?_⟩.4.13.3)).3)))).5).4))).5.8).5).6.7.3.18))
 rw[show (((cB f xs a).length:Int)-1).toNat=(cB f xs a).length-1 by omega]
 refine b8 (by rw[bK];exact R.aU '$') (λi acc M'=>M'=M/\acc=((q7 i).map (R.edge zs f p)).map D.bl) ⟨rfl,rfl⟩ ?_ ?_
 ·rintro i d acc M' hd ⟨rfl,rfl⟩ cs C s₀ H₀ c
  obtain⟨n,rfl⟩:=cA hd
  rw[we]
  refine bG (bF λcs C s₀ H₀ c=>(aL aVX b ⟨_,_,zs,f,p,i,rfl,e,⟨rfl,?_⟩⟩.4.6.3.13.3.10.3.8.3))
  rw[x8,qi,qi]
  rfl
 rintro acc M' ⟨rfl,rfl⟩
 rw[bK]
 exact aC ⟨R.dR zs f p ((cB f xs a).length-1),rfl,by rw[nW];omega,l⟩
theorem gP:FnScope ["yard", "told", "facing", "along", "place", "line", "begin", "end"] ["yard"] (aM rS):=zSc
abbrev aEH(P w K mg z):=Fo P w K mg z "sides" rS ["yard"] 4 aTM
theorem aLY(Df:R.Df K mg "sides" rS ["yard"] f fd)(aVY:tN P w K mg z)(T:Bt mg):aEH P w K mg z:=by
 refine⟨f,fd,Df,a9 Df gP (λds M k h => ?_) (λt A outer s H E v ds M k h => ?_)⟩
 ·obtain⟨xs,b,zs,rfl,_⟩:=h;rfl
 obtain⟨xs,b,zs,rfl,G,o,n,J⟩:=h
 refine aD (aO 1 gP.nd (f6 ⟨(show 0<=sizeLine by decide),λa u=>(aD (cW (eH T.range ⟨_,rfl,by decide,by decide,?_⟩.4.5.3)))⟩.4))
 refine⟨λf Γ' M'=>M'=bV M a (.lst (fV zs xs b f))/\∃v2 q v4 g v6 c,Γ'=[some (kC xs b zs),some (.mt a),v2,q,v4,g,v6,c],⟨rfl,_,_,_,_,_,_,rfl⟩,?_,?_⟩
 ·rintro f d Γ' M' hd ⟨rfl,v2,q,v4,g,v6,c,rfl⟩
  obtain⟨hf,rfl⟩:=cA hd
  have O:f<4:=hf
  rw[we]
  have L:=qL (f:=f) o n
  have V:=yF (f:=f) o n
  have Q:=pY (zs:=zs) o n f
  refine aV 2 gP.nd (aD (aO 3 gP.nd (aF bH (aF eM (aX '#' (bA (aH (.tup _) (aBL f) (aI (cW (aOC T.enumerate BEnum (aF eM (aX '#' (aH (.tup _) (aJZ f) ⟨_,rfl,(⟨λi Γ' M'=>M'=bV M a (.lst (fV zs xs b f++fX zs f (c9 f xs b) (cB f xs b) i))/\∃v4 g v6 c,Γ'=[some (kC xs b zs),some (.mt a),some (.int (f:Int)),some (.tup (cB f xs b)),v4,g,v6,c],⟨by simp[fX],_,_,_,_,rfl⟩,?_,?_⟩)⟩.4)).5.10).6.7.3)))))).5.10).5).6.7))
  ·rintro i d Γ' M' hd ⟨rfl,B,D,y,x,rfl⟩
   obtain⟨l,m,rfl⟩:=nZ hd
   have N:=(zGs m).1
   have S:=pF (zs:=zs) (f:=f) (ls:=c9 f xs b) L i
   refine gI rfl (a8 (aV 4 gP.nd (a8 (aV 5 gP.nd (eE (aI (cW (bP (aL aVY v ⟨xs,b,zs,f,i,rfl,G,o,n,⟨_, .inr (.inl rfl),(⟨λj Γ' M'=>M'=bV M a (.lst (fV zs xs b f++fX zs f (c9 f xs b) (cB f xs b) i++((R.runs (R.dR zs f i ((cB f xs b).length-1))).take j).map (mkS f l (cB f xs b))))/\∃v6 c,Γ'=[some (kC xs b zs),some (.mt a),some (.int (f:Int)),some (.tup (cB f xs b)),some (.int (i:Int)),some l,v6,c],⟨by simp,_,_,rfl⟩,?_,?_⟩)⟩⟩.4.15.3.10.3.6.3)))))))))
   ·rintro j d Γ' M' hd ⟨rfl,C,z,rfl⟩
    obtain⟨r,e,rfl⟩:=b4 hd
    have I:=R.aNU (zMo e)
    rw[nW] at I
    have U:j<(R.runs (R.dR zs f i ((cB f xs b).length-1))).length:=(zGs e).1
    have p:=R.zO (R.dR zs f i ((cB f xs b).length-1))
    rw[nW] at p
    refine gI rfl (a8 (aV 6 gP.nd (a8 (aV 7 gP.nd (eE (aI (eU (fK j1 jy jx c8 (⟨⟨rfl,_,aQ⟩,(bY (aB 5 rfl (aB 6 rfl (aH (.tup _) (at_getD '$') (aB 7 rfl (aH (.tup _) (at_getD '$') ⟨(show 4<=sizeLine by decide),(dE aQ (by simp only[qe,zLm,vh];exact qn (show _<=60000 by omega) '#') ⟨?_,_,_,rfl⟩).4⟩.4)).13.7.3)).13.7.3).3.10.3).3⟩).8))))))))
    rw[dP,bU e,<- jd]
    rfl
   ·rintro Γ' M' ⟨rfl,C,z,rfl⟩
    rw[zLm,jb]
    exact⟨by rw[aCJ m,<- jd];rfl,_,_,_,_,rfl⟩
  ·rintro Γ' M' ⟨rfl,B,D,y,x,rfl⟩
   rw[nO]
   exact⟨by rw[sU],_,_,_,_,_,_,rfl⟩
 ·rintro Γ' M' ⟨rfl,v2,q,v4,g,v6,c,rfl⟩
  exact aI (aR (J a u).8)
theorem aB9:FnScope zl26 zl26 (aM lR):=zSc
abbrev uR(P w K mg z):=Fo P w K mg z "touching" lR zl26 5 aIM
theorem aC0(Df:R.Df K mg "touching" lR zl26 f fd)(aVZ:aEH P w K mg z)(aV0:xS P w K mg z):uR P w K mg z:=by
 refine⟨f,fd,Df,a9 Df aB9 (λds M k h => ?_) (λr A outer s H E j ds M k h => ?_)⟩
 ·obtain⟨A,e,n,w,s,x,y,t,N,rfl,_⟩:=h;rfl
 obtain⟨A,e,n,w,s,x,y,t,N,rfl,env,u,q⟩:=h
 have lx:=env.lx
 have ly:=env.ly
 have v:=tE lx ly
 refine aI (aR (bC ["edges"] [1] (bP (aA1 (aL aVZ j (⟨a6 A.ws,a6 A.us,A.K,rfl,λz o=>by have:=A.wide.1 z o;omega,by rw[cF];omega,by rw[cF];omega,λa g=>⟨a,_,M,rfl,aQ,g,(Le.refl M).upd g,⟨_, .inr (.inl rfl),?_⟩⟩⟩).4.6.3)))))
 rw[aDZ]
 refine b8 (ds:=(gZ A).map (sdR A)) (by rw[zLm];exact R.aU '$') (λi acc M'=>M'=M/\acc=(((gZ A).take i).filter (uJ A e n w s x y t)).map (sdR A)) ⟨rfl,rfl⟩ ?_ ?_
 ·rintro i B acc M' hd ⟨rfl,rfl⟩ cs C s₀ H₀ m
  obtain⟨d,c,rfl⟩:=b4 hd
  have hm:=zMo c
  have hf:=(R.fW hm).1
  refine o7 (cC (aL aV0 j ⟨A,d,e,n,w,s,x,y,t,N,rfl,hf,env,u,λb p=>⟨_,rfl,?_⟩⟩.4.8.3.6.3))
  have l:b=uJ A e n w s x y t d:=xj.mpr (p.trans uF.symm)
  cases b with
  |true =>
   refine bF λcs C s₀ H₀ m=>⟨rfl,?_⟩.6
   rw[nG _ c,<- l,if_pos rfl,qi]
   rfl
  |false =>
   refine cL ⟨rfl,?_⟩
   rw[nG _ c,<- l,if_neg zBf,wg]
 rintro acc M ⟨rfl,rfl⟩
 rw[zLm,jb]
 exact q
theorem jL:FnScope ["sorted_sides", "told", "side", "front"] ["sorted_sides"] (aM kF):=zSc
abbrev tL(P w K mg z):=Fo P w K mg z "fronts_of" kF ["sorted_sides"] 1 aJD
theorem aBP(Df:R.Df K mg "fronts_of" kF ["sorted_sides"] f fd)(T:Bt mg):tL P w K mg z:=by
 refine⟨f,fd,Df,a9 Df jL (λds M k h => ?_) (λB A outer s H E C ds M k h => ?_)⟩
 ·obtain⟨ss,rfl,_⟩:=h;rfl
 obtain⟨ss,rfl,t,hl,y⟩:=h
 refine aD (aO 1 jL.nd (f6 ⟨(show 0<=sizeLine by decide),λa v=>(aD (cW (bP ⟨_, .inr (.inl rfl),(⟨λi Γ' M'=>M'=bV M a (.lst (oF (ss.take i)))/\∃v2 m,Γ'=[some (.lst ss),some (.mt a),v2,m],⟨rfl,_,_,rfl⟩,?_,?_⟩)⟩.6)))⟩.4))
 ·rintro i d Γ' M' hd ⟨rfl,v2,m,rfl⟩
  have g:=aJ0 hd
  have G:=(zGs hd).1
  have o:=aEA (ss:=ss.take i) (acc:=[]) (λd h=>(nomatch h)) (λs h=>t s (Jc h))
  have p:=aA3 (ss.take i) []
  rw[vh,xi] at p
  obtain⟨f,l,b,e,rfl,ok⟩:=t d (zMo hd)
  refine aV 2 jL.nd (aD (aO 3 jL.nd (bY ⟨'/',(aI (bN (iC (kK (dG (mU ⟨_, .seq (.mt aQ),?_⟩.8))))))⟩.4.11.5.10.7.3.11.5.10.7.3)))
  have key:∀acc,acc=oF (ss.take i)->acc=[]\/∃r q,acc=r++[q]:=λacc _=>by
   rcases QX acc with h|⟨r,q,h⟩
   ·exact .inl h
   ·exact .inr ⟨r,q,by simpa using h⟩
  have c:(oF (ss.take i)).length<sizeLine:=qn (show _<=60000 by unfold oF;omega) '#'
  rcases key _ rfl with h0|⟨r,q,h0⟩
  ·rw[h0] at g c ⊢
   refine bF (bF (aI (eU (fK j1 jy jx c8 (⟨⟨rfl,_,aQ⟩,(dE aQ c ?_).4.13.3⟩).8))))
   rw[dP]
   dsimp only
   rw[g]
   exact⟨rfl,_,_,rfl⟩
  ·rw[h0] at g c ⊢
   have x:xA q:=o q (by show q∈oF (ss.take i);rw[h0];simp)
   obtain⟨f2,u,rfl,j⟩:=x
   refine ite2 (λz=>absurd z '%') (λ_=>(mE (bL (aR6 (n:=2) (R.units_le C)) (kI iP ⟨_,rfl,(aH (.mt aQ) (pA _ _) (aTO (.tup _) (.tup _) j ok ⟨_,rfl,?_⟩).13)⟩.5).8.7)))
   rw[yT,show rB (D.tup [f,l,b,e]) = .tup [f,l] from rfl] at g
   cases he:eqD (.tup [f2,u]) (.tup [f,l]) with
   |true =>
    rw[he,if_pos rfl] at g
    refine cL (bD ?_)
    dsimp only
    rw[g]
    exact⟨rfl,_,_,rfl⟩
   |false =>
    rw[he,if_neg zBf] at g
    refine bF (aI (eU (fK j1 jy jx c8 (⟨⟨rfl,_,aQ⟩,(dE aQ c ?_).4.13.3⟩).8)))
    rw[dP]
    dsimp only
    rw[g]
    exact⟨rfl,_,_,rfl⟩
 ·rintro Γ' M' ⟨rfl,v2,m,rfl⟩
  rw[jb]
  exact aI (aR (y a v).8)
theorem aN3:FnScope zl27 zl27 (aM u8):=zSc
abbrev aG9(P w K mg z):=Fo P w K mg z "over" u8 zl27 3 aR7
theorem aO5(Df:R.Df K mg "over" u8 zl27 f fd)(aVF:jX P w K mg z):aG9 P w K mg z:=by
 refine⟨f,fd,Df,a9 Df aN3 (λds M k h => ?_) (λj A outer s H E l ds M k h => ?_)⟩
 ·obtain⟨p,q,rfl,_⟩:=h;rfl
 obtain⟨p,q,rfl,c,d,h0,e⟩:=h
 have i:=aHY h0
 unfold aT at e
 rw[<- aNI h0] at e
 refine aD (bN (bL f9 (kX ⟨_,rfl,(rO (decide_eq_false i) (bD (aI (aR (aL aVF l (aF cU (aX ⟨big400 c.g.a,big400 d.g.b⟩ (aF cU (aX ⟨big400 c.g.b,big400 d.g.a⟩ ?_.4).11.5.8.7.11.5.6.7).3).11.5.8.7.11.5.6.7).3)))))⟩).5.11.5.8.7))
 exact⟨_,_,rfl,ze (fN p) i,aQH c.g d.g,e⟩
theorem aE1:FnScope zl30 zl30 (aM nK):=zSc
abbrev yK(P w K mg z):=Fo P w K mg z "time_to" nK zl30 5 aOQ
theorem aFU(Df:R.Df K mg "time_to" nK zl30 f fd)(aV1:aG9 P w K mg z)(aVQ:lP P w K mg z):yK P w K mg z:=by
 refine⟨f,fd,Df,a9 Df aE1 (λds M k h => ?_) (λj A outer s H E c ds M k h => ?_)⟩
 ·obtain⟨a,p,rfl,_⟩:=h;rfl
 obtain⟨a,p,rfl,g,d,i⟩:=h
 obtain⟨m,l⟩:=d
 have b:Bq (p:Rat):=⟨qn (show p.natAbs<=9 by omega) '&',by show 1<_;exact cc '#' '#'⟩
 have np:(p:Rat)≠0:=λe=>by have:=xm.mp (e.trans y1.symm);omega
 refine aI (aR (aL aV1 c (aL aVQ c ⟨p,1,rfl,by decide,cc '#' '#',?_⟩.4.5.3.8.3).3.6.3))
 rw[m8 p 1 '#',wR]
 exact aC ⟨_,_,rfl,g,b,np,i⟩
theorem aFX:FnScope zl27 zl27 (aM nL):=zSc
abbrev qV(P w K mg z):=Fo P w K mg z "greater" nL zl27 2 aJO
theorem aF9(Df:R.Df K mg "greater" nL zl27 f fd)(aVU:o0 P w K mg z):qV P w K mg z:=by
 refine⟨f,fd,Df,a9 Df aFX (λds M k h => ?_) (λi A outer s H E j ds M k h => ?_)⟩
 ·obtain⟨a,b,rfl,_⟩:=h;rfl
 obtain⟨a,b,rfl,g,e,c⟩:=h
 refine aI (aR (uQ (cC (aL aVU j ⟨pq a,pq b,rfl,g.p,e.p,?_⟩.4.8.3.6.3))))
 rw[vC]
 refine⟨_,rfl,?_⟩
 unfold iW at c
 refine ite2 (λd => ?_) (λd => ?_)
 ·rw[if_pos (of_decide_eq_true d)] at c
  exact aB 1 rfl c
 ·rw[if_neg (λz=>d (decide_eq_true z))] at c
  exact aB 0 rfl c
theorem aHC:FnScope zl27 zl27 (aM p7):=zSc
abbrev aA9(P w K mg z):=Fo P w K mg z "lesser" p7 zl27 2 aOV
theorem aH7(Df:R.Df K mg "lesser" p7 zl27 f fd)(aVU:o0 P w K mg z):aA9 P w K mg z:=by
 refine⟨f,fd,Df,a9 Df aHC (λds M k h => ?_) (λi A outer s H E j ds M k h => ?_)⟩
 ·obtain⟨a,b,rfl,_⟩:=h;rfl
 obtain⟨a,b,rfl,g,e,c⟩:=h
 refine aI (aR (uQ (cC (aL aVU j ⟨pq b,pq a,rfl,e.p,g.p,?_⟩.4.6.3.8.3))))
 rw[vC]
 refine⟨_,rfl,?_⟩
 unfold tY at c
 refine ite2 (λd => ?_) (λd => ?_)
 ·rw[if_pos (of_decide_eq_true d)] at c
  exact aB 1 rfl c
 ·rw[if_neg (λz=>d (decide_eq_true z))] at c
  exact aB 0 rfl c
theorem iL:FnScope ["lines", "where", "down", "up", "told", "place", "from_above", "from_below"] zl10 (aM lC):=zSc
abbrev vJ(P w K mg z):=Fo P w K mg z "times_to" lC zl10 6 aLW
theorem aCX(Df:R.Df K mg "times_to" lC zl10 f fd)(aVS:wZ P w K mg z)(aV2:yK P w K mg z)(aV3:qV P w K mg z)(T:Bt mg):vJ P w K mg z:=by
 refine⟨f,fd,Df,a9 Df iL (λds M k h => ?_) (λz A outer s H E b ds M k h => ?_)⟩
 ·obtain⟨ws,x,p,q,m,B,rfl,_⟩:=h;rfl
 obtain⟨ws,x,p,q,m,B,rfl,nm,f,c,v,C,j,l,u⟩:=h
 have e:=nm.bq c
 have g:∀i,Bq (ws.getD i 0):=λi=>nm.bq (f.at i)
 have r:∀i,Bq (x-ws.getD i 0):=λi=>nm.bq2 (c.sub (f.at i))
 have t:∀i,Bq (ws.getD i 0-x):=λi=>nm.bq2 ((f.at i).sub c)
 refine aD (aO 4 iL.nd (f6 (aL aV2 b (aL aVS b (aH (.tup _) (pH (i:=0) '!') ⟨_,_,rfl,e,g 0,⟨_,_,rfl,r 0,j,⟨'-',λa y=>(aD (cW (rJ T.range (b5 (.tup _) ?_.4).4.6.3.18.3.5.3)))⟩.4⟩.4.10.3⟩.4).5.6.7.3.8.3).3).3))
 rw[cF]
 refine⟨_,_,rfl,⟨by lia,by lia,by lia,by lia⟩,?_⟩
 rw[show (((ws.length:Nat):Int)-1).toNat=ws.length-1 by lia]
 refine⟨λi Γ' M'=>M'=bV M a (.lst (eG ws x p q (i+1)))/\∃o v6 n,Γ'=[some (.tup (a6 ws)),some (aT x),some (.int p),some (.int q),some (.mt a),o,v6,n],⟨rfl,_,_,_,rfl⟩,?_,?_⟩
 ·rintro i d Γ' M' hd ⟨rfl,o,v6,n,rfl⟩
  obtain⟨D,rfl⟩:=cA hd
  refine aV 5 iL.nd (aD (aO 6 iL.nd (aL aV2 b (aL aVS b (aB 5 rfl (aH (.tup _) (by rw[show (1:Int)+(i:Int)=((i+1:Nat):Int) by lia];exact pH '!') ⟨_,_,rfl,e,g _,⟨_,_,rfl,r _,j,(aD (aO 7 iL.nd (aL aV2 b (aL aVS b (aF bH (aB 5 rfl (bA (aH (.tup _) (by rw[show (1:Int)+(i:Int)-1=((i:Nat):Int) by lia];exact pH '!') ?_.3)).5)).6.7.3).3)))⟩.4.10.3⟩.4)).6.7.3.8.3).3)))
  refine aB 1 rfl ⟨_,_,rfl,g _,e,⟨_,_,rfl,t _,l,(aI (eU (fK j1 jy jx c8 (⟨⟨rfl,_,aQ⟩,(aL aV3 b (aB 6 rfl (aB 7 rfl ⟨_,_,rfl,(nm.div (c.sub (f.at _)) j).bq nm,(nm.div ((f.at _).sub c) l).bq nm,(dE aQ (by rw[lV];exact qn (show _<=1000 by lia) '#') ⟨?_,_,_,_,rfl⟩).4⟩.4).3).3).3⟩).15)))⟩.4.13.3⟩.4
  rw[dP,sZ ws x p q (i+1),show U.tB ws x p q (i+1)=iW ((x-ws.getD (i+1) 0)/(p:Rat)) ((ws.getD i 0-x)/(q:Rat)) by unfold U.tB;rw[if_neg '!',if_pos '!'];rfl]
 ·rintro Γ' M' ⟨rfl,o,v6,n,rfl⟩
  rw[bK,show ws.length-1+1=ws.length by lia]
  refine aD (eU (fK j1 jy jx c8 (⟨⟨rfl,_,aQ⟩,(aL aV2 b (aL aVS b (kI iP ⟨_,rfl,(aH (.tup _) (aE8 v) ⟨_,_,rfl,g _,e,⟨_,_,rfl,t _,l,(dE aQ (by rw[lV];exact qn (show _<=1000 by lia) '#') ?_).4⟩.4.13.3⟩.4.8.3)⟩.5).6.7.3).3).3⟩).15))
  rw[dP]
  refine gF 4 rfl aQ ?_
  rw[fF y]
  refine aI (aR ?_.15)
  rw[sZ,show U.tB ws x p q ws.length=(ws.getD (ws.length-1) 0-x)/(q:Rat) by unfold U.tB;rw[if_neg '!',if_neg '!']] at u
  exact u
theorem sM:FnScope ["yard", "x", "y", "cells", "up", "across"] ["yard", "x", "y"] (aM wC):=zSc
abbrev aG5(P w K mg z):=Fo P w K mg z "lies" wC ["yard", "x", "y"] 3 aRA
theorem aOS(Df:R.Df K mg "lies" wC ["yard", "x", "y"] f fd)(aV4:vH P w K mg z)(aVV:lM P w K mg z)(T:Bt mg):aG5 P w K mg z:=by
 refine⟨f,fd,Df,a9 Df sM (λds M k h => ?_) (λD A outer s H E o ds M k h => ?_)⟩
 ·obtain⟨A,v,u,rfl,_⟩:=h;rfl
 obtain⟨A,v,u,rfl,y,G,hl,gl,q,r,b⟩:=h
 have hw:∀z∈A.K,z.length<=1000:=λz x=>by have:=A.wide.1 z x;omega
 have B:=vM A.ws v
 have I:=vM A.us u
 refine aD (aO 3 sM.nd (f6 ⟨(show 0<=sizeLine by decide),λa C=>(aD (cW (bP (aL aV4 o ⟨A.us,u,rfl,G,gl,r,⟨_, .inr (.inl rfl),(⟨λi Γ' M'=>M'=bV M a (.lst ((b6 A.K (aW A.ws v) ((aW A.us u).take i)).map .bl))/\∃v4 e,Γ'=[some (yd A),some (aT v),some (aT u),some (.mt a),v4,e],⟨rfl,_,_,rfl⟩,?_,?_⟩)⟩⟩.4.10.3.11.5.6.7.3))))⟩.4))
 ·rintro i d Γ' M' hd ⟨rfl,v4,e,rfl⟩
  obtain⟨up,p,rfl⟩:=b4 hd
  have cl:=aE3 A.K (aW A.ws v) ((aW A.us u).take i) B (by rw[vh];omega)
  refine aV 4 sM.nd (aI (cW (bP (aL aV4 o ⟨A.ws,v,rfl,y,hl,q,⟨_, .inr (.inl rfl),(⟨λj Γ' M'=>M'=bV M a (.lst ((b6 A.K (aW A.ws v) ((aW A.us u).take i)++((aW A.ws v).take j).map λc=>R.aJ A.K c up).map .bl))/\∃e,Γ'=[some (yd A),some (aT v),some (aT u),some (.mt a),some (.int up),e],⟨by simp,_,rfl⟩,?_,?_⟩)⟩⟩.4.8.3.11.5.6.7.3))))
  ·rintro j d Γ' M' hd ⟨rfl,t,rfl⟩
   obtain⟨ac,m,rfl⟩:=b4 hd
   refine aV 5 sM.nd (aI (eU (fK j1 jy jx c8 (⟨⟨rfl,_,aQ⟩,(aL aVV o (aB 5 rfl ⟨_,_,A.K,_,_,rfl,hw,(dE aQ (by rw[zLm,qe,zLm,vh];exact qn (show _<=60000 by omega) '#') ⟨?_,_,rfl⟩).4⟩.4.15.3).3.6.3).3⟩).13)))
   rw[dP,bU m,<- jd,qi (l₁:=_++_)]
   rfl
  ·rintro Γ' M' ⟨rfl,t,rfl⟩
   rw[zLm,jb]
   refine⟨?_,_,_,rfl⟩
   rw[take_snoc p]
   unfold b6
   rw[cz,List.flatMap_singleton]
 ·rintro Γ' M' ⟨rfl,v4,e,rfl⟩
  rw[zLm,jb]
  refine gF 3 rfl aQ ?_
  rw[fF C]
  unfold jR at b
  refine aD (bN (cC (aP (j5 rfl) T.all R.BAll (mF '*' ⟨_,rfl,?_⟩).4.13.3)))
  rcases tf ((b6 A.K (aW A.ws v) (aW A.us u)).all id) with n|n
  ·rw[n] at b ⊢
   rw[if_neg zBf] at b
   refine cL (bD (aD (bN (cC (aP (aLR rfl) T.any R.BAny (mF '*' ⟨_,rfl,?_⟩).4.13.3)))))
   rcases tf ((b6 A.K (aW A.ws v) (aW A.us u)).any id) with g|g
   ·rw[g] at b ⊢
    rw[if_neg zBf] at b
    exact cL (bD (aI (aR (ge_str b))))
   ·rw[g] at b ⊢
    rw[if_pos rfl] at b
    exact bF (aI (aR (ge_str b)))
  ·rw[n] at b ⊢
   rw[if_pos rfl] at b
   exact bF (aI (aR (ge_str b)))
theorem fA:FnScope ["yard", "paces", "x", "y", "across_times", "up_times", "told", "up", "up_time", "across", "across_time"] zl17 (aM p9):=zSc
abbrev aAV(P w K mg z):=Fo P w K mg z "height" p9 zl17 7 aKY
theorem aHG(Df:R.Df K mg "height" p9 zl17 f fd)(aV5:aG5 P w K mg z)(aV6:vJ P w K mg z)(aVV:lM P w K mg z)(aV7:aA9 P w K mg z)(aV3:qV P w K mg z)(T:Bt mg){aN:Addr}(CN:mg "NOUGHT" = some (.ref aN))(EN:∀G,Den K G (pairD (p1 0)) (.ref aN)):aAV P w K mg z:=by
 refine⟨f,fd,Df,a9 Df fA (λds M k h => ?_) (λO A outer s H E l ds M k h => ?_)⟩
 ·obtain⟨A,e,n,w,s,x,y,m,B,rfl,_⟩:=h;rfl
 obtain⟨A,e,n,w,s,x,y,m,B,rfl,nm,f,g,L,D,W,V,o,t⟩:=h
 refine aD (bN (bL kJ (aL aV5 l ⟨A,x,y,rfl,λw hw=>nm.bq (f w hw),λw hw=>nm.bq (g w hw),by omega,by omega,nm.bq L,nm.bq D,?_⟩.4.13.3.10.3.6.3)))
 refine ge_str (mO ⟨_,rfl,?_⟩)
 rw[aJE]
 unfold c0 at t
 cases hin:f8 A x y with
 |false =>
  rw[hin,if_neg zBf] at t
  exact bF (aI (aR (aOB CN EN t)))
 |true =>
  rw[hin,if_pos rfl] at t
  refine cL (bD ?_)
  obtain⟨S,Y⟩:=aG0 hin
  have I:∀z∈A.K,z.length<=1000:=λz Q=>by have:=A.wide.1 z Q;omega
  have u:=λa=>vA nm f L o.p o.r a
  have v:=λb=>vA nm g D o.q o.s b
  refine aD (aO 4 fA.nd (aL aV6 l ⟨A.ws,x,e,w,m,B,rfl,nm,f,L,by omega,by omega,o.p,o.r,?_⟩.4.11.5.8.7.3.11.5.8.7.3.10.3.11.5.6.7.3))
  refine aD (aO 5 fA.nd (aL aV6 l ⟨A.us,y,n,s,m,B,rfl,nm,g,D,by omega,by omega,o.q,o.s,?_⟩.4.11.5.8.7.3.11.5.8.7.3.13.3.11.5.6.7.3))
  refine aD (aO 6 fA.nd (aH '*' (aKB _ _ _ _ _) (aD (cW (uH T.enumerate BEnum (aB 5 rfl ⟨_,rfl,(⟨λj Γ' M'=>M'=M/\∃F C c v10,Γ'=[some (yd A),some (jM e n w s),some (aT x),some (aT y),some (.lst (eG A.ws x e w (A.ws.length+1))),some (.lst (eG A.us y n s (A.us.length+1))),some (aT (oE (U.tB A.ws x e w) (U.tB A.us y n s) (λa b => !R.aJ A.K ((a:Int)-1) ((b:Int)-1)) (A.ws.length+1) j (U.tB A.ws x e w 0))),F,C,c,v10],⟨rfl,_,_,_,_,rfl⟩,?_,?_⟩)⟩.4).3)))).5.15.7)
  ·rintro j d Γ' M' hd ⟨rfl,F,C,c,v10,rfl⟩
   obtain⟨ty,N,rfl⟩:=nZ hd
   obtain⟨X,rfl⟩:=vW N
   refine gI rfl (a8 (aV 7 fA.nd (a8 (aV 8 fA.nd (eE (aI (cW (uH T.enumerate BEnum ⟨_,rfl,(⟨λi Γ' M1=>M1=M'/\∃c v10,Γ'=[some (yd A),some (jM e n w s),some (aT x),some (aT y),some (.lst (eG A.ws x e w (A.ws.length+1))),some (.lst (eG A.us y n s (A.us.length+1))),some (aT (mI (U.tB A.ws x e w) (U.tB A.us y n s j) (λa => !R.aJ A.K ((a:Int)-1) ((j:Int)-1)) i (oE (U.tB A.ws x e w) (U.tB A.us y n s) (λa b => !R.aJ A.K ((a:Int)-1) ((b:Int)-1)) (A.ws.length+1) j (U.tB A.ws x e w 0)))),some (.int (j:Int)),some (aT (U.tB A.us y n s j)),c,v10],⟨rfl,_,_,rfl⟩,?_,?_⟩)⟩.4.15.3))))))))
   ·rintro i d Γ' M1 hd ⟨rfl,c,v10,rfl⟩
    obtain⟨tx,J,rfl⟩:=nZ hd
    obtain⟨Z,rfl⟩:=vW J
    refine gI rfl (a8 (aV 9 fA.nd (a8 (aV 10 fA.nd (eE (aI (bN (dG (cC (aL aVV l (aF bH (aB 9 rfl (bA (aF bH (aB 7 rfl (bA ⟨_,_,A.K,_,_,rfl,I,⟨_,rfl,?_⟩⟩.4).5)).3).5)).3.6.3))))))))))
    cases hc:R.aJ A.K ((i:Int)-1) ((j:Int)-1) with
    |true =>
     refine cL (bD ?_)
     dsimp only
     rw[show mI (U.tB A.ws x e w) (U.tB A.us y n s j) (λa => !R.aJ A.K ((a:Int)-1) ((j:Int)-1)) (i+1) (oE (U.tB A.ws x e w) (U.tB A.us y n s) (λa b => !R.aJ A.K ((a:Int)-1) ((b:Int)-1)) (A.ws.length+1) j (U.tB A.ws x e w 0))=_ from if_neg (by simp[hc])]
     exact⟨rfl,_,_,rfl⟩
    |false =>
     refine bF (aI (aO 6 fA.nd (aL aV7 l (aB 6 rfl (aL aV3 l (aB 10 rfl (aB 8 rfl ⟨_,_,rfl,(u i).bq nm,(v j).bq nm,⟨_,_,rfl,(sK u (v j) (xG u v (u 0) j) i).bq nm,(aAA (u i) (v j)).bq nm,?_⟩.4⟩.4).3).3).3).3)))
     dsimp only
     rw[show mI (U.tB A.ws x e w) (U.tB A.us y n s j) (λa => !R.aJ A.K ((a:Int)-1) ((j:Int)-1)) (i+1) (oE (U.tB A.ws x e w) (U.tB A.us y n s) (λa b => !R.aJ A.K ((a:Int)-1) ((b:Int)-1)) (A.ws.length+1) j (U.tB A.ws x e w 0))=_ from if_pos (by simp[hc])]
     exact⟨rfl,_,_,rfl⟩
   ·rintro Γ' M1 ⟨rfl,c,v10,rfl⟩
    rw[nO,lV]
    exact⟨rfl,_,_,_,_,rfl⟩
  ·rintro Γ' M' ⟨rfl,F,C,c,v10,rfl⟩
   rw[nO,lV]
   exact aI (aR (aB 6 rfl t))
theorem u3:FnScope ["yard", "paces", "x", "y", "edges"] zl17 (aM nS):=zSc
abbrev rD(P w K mg z):=Fo P w K mg z "touched" nS zl17 8 aK6
theorem aFH(Df:R.Df K mg "touched" nS zl17 f fd)(aV8:sW P w K mg z)(aV9:aAV P w K mg z)(aWA:tL P w K mg z)(aWB:uR P w K mg z):rD P w K mg z:=by
 refine⟨f,fd,Df,a9 Df u3 (λds M k h => ?_) (λj A outer s H E a ds M k h => ?_)⟩
 ·obtain⟨A,e,n,w,s,x,y,N,rfl,_⟩:=h;rfl
 obtain⟨A,e,n,w,s,x,y,N,rfl,env,i⟩:=h
 have b:=env.high.mono (show 61<=62 by decide)
 have c:=tE env.lx env.ly
 refine aD (aO 4 u3.nd (aL aV8 a (aL aV9 a ⟨_,e,n,w,s,_,_,N,_,rfl,env.nm,env.ax,env.ay,env.fx,env.fy,by have:=env.lx;omega,by have:=env.ly;omega,env.o,?_⟩.4.13.3.10.3.8.3.6.3).3.13.3.10.3.8.3))
 refine aC ⟨e,n,w,s,x,y,_,rfl,env.o,env.sx.1,env.sx.2,b,(aI (aR (aL aWA a (aL aWB a ⟨A,e,n,w,s,x,y,_,N,rfl,env,b,(⟨_,rfl,λq g=>by obtain⟨d,_,rfl⟩:=qo.mp g;exact⟨_,_,_,_,rfl,rfl⟩,by rw[zLm];exact qq (yk _ _) c,?_⟩).4⟩.4.15.3.6.3).3)))⟩
 rw[aSX]
 exact i
theorem fH:FnScope ["_law_pen_here", "_law_xs", "_law_ys", "_law_signs_here", "_law_paces_here", "_law_parts", "_law_yard", "_law_kept", "_law_points", "_law_point_here", "_law_x", "_law_y", "_law_due_here", "_law_told"] zl1 (aM sN):=zSc
abbrev aC8(P w K mg z):=Fo P w K mg z "_law_right" sN zl1 11 aLD
theorem aLC(Df:R.Df K mg "_law_right" sN zl1 f fd)(aVB:kU P w K mg z)(aWC:sX P w K mg z)(aWD:aIV P w K mg z)(aWE:aDK P w K mg z)(aU4:uK P w K mg z)(aWF:aM2 P w K mg z)(aWG:rD P w K mg z)(T:Bt mg):aC8 P w K mg z:=by
 refine⟨f,fd,Df,a9 Df fH (λds M k h => ?_) (λav A outer s H E j ds M k h => ?_)⟩
 ·obtain⟨p,b,xs,N,zs,e,n,w,s,rfl,_⟩:=h;rfl
 obtain⟨p,b,xs,N,zs,e,n,w,s,rfl,ap,hb,B,z,lx,ly,J,I,o,hk⟩:=h
 have dw:=zM B.up z.up J I
 have X:=aAE B z J I (Mk.of tm0)
 refine aD (aO 5 fH.nd (bW (aF bS (aF kZ (aX ⟨by decide,by decide,by decide⟩ (bA ⟨(show 5<=sizeLine by decide),(aL aVB j ⟨p,_,_,rfl,by decide,by decide,ap,by lia,λz1 M1 ao am aa ab aw => ?_⟩.4.5.3.6.3)⟩.4).5).5.5)).3.5.3.5.3.5.3.5.3).7)
 obtain⟨m,hm,r,m2⟩:=aGB ao am
 refine aH '*' hm (aD (aO 6 fH.nd (aL aWC j (aL aWD j (cJ gO T.list R.BL (oV '*' (cJ gO T.list R.BL (oV '*' (cJ gO T.list R.BL (oV '*' ⟨xs,N,zs,rfl,B,z,J,I,?_⟩.4).4.13.3).3).4.10.3).3).4.8.3).3).3)))
 rw[aKS B.up z.up J I]
 refine aA (bY (aB 5 rfl ⟨'/',(bY (aB 5 rfl ⟨'/',⟨(dS xs N zs B.up z.up J I),qb 1 m,qb 1 m,one_pos r,one_pos r,by rw[aT4 r],λw hw=>(Mk.of tm0).bq (X.x w hw) '&',λw hw=>(Mk.of tm0).bq (X.y w hw) '&',aGR r m2,aGR r m2,by have:=X.lx;lia,by have:=X.ly;lia,?_⟩.4⟩.4).3.5.3).3⟩.4).3.5.3)
 have lA:=X.lx
 have lB:=X.ly
 obtain⟨ks,km⟩:=shown22 dw.1 dw.2 B z lA lB r m2
 have rs:=ks.repr km (by unfold far;decide +kernel) '#'
 have al:∀q:Int×Int×Int,Pt q->Env (bQ B.up z.up J I (one_pos r)) e n w s (qb q.1 q.2.2*qb 1 m) (qb q.2.1 q.2.2*qb 1 m) (q.2.2.toNat*m.toNat):=λq g=>⟨o,nm22 g.c1 g.c2 r m2,frl22 dw.1 B g.c1 g.c2 r,frl22 dw.2 z g.c1 g.c2 r,fr22 g.c1 r g.u.n,fr22 g.c1 r g.v.n,by show (gC _ _).length<=7;rw[zLm];exact X.lx,by show (gC _ _).length<=7;rw[zLm];exact X.ly⟩
 have ah:∀(q:Int×Int×Int) (vs:List FrI),DueIs B z J I e n w s q vs->pZ ((iX (bQ B.up z.up J I (one_pos r)) e n w s (qb q.1 q.2.2*qb 1 m) (qb q.2.1 q.2.2*qb 1 m) (c0 (bQ B.up z.up J I (one_pos r)) e n w s (qb q.1 q.2.2*qb 1 m) (qb q.2.1 q.2.2*qb 1 m))).map (frK (bQ B.up z.up J I (one_pos r))))=vs.map (frC (qb 1 m)):=λq vs h=>h.eq (one_pos r)
 change Yk _ _ _ (bQ B.up z.up J I (one_pos r)) at ks
 change smD (yd (bQ B.up z.up J I (one_pos r)))=true/\wt (yd (bQ B.up z.up J I (one_pos r)))<=10000000 at rs
 show GS _ _ (List.set _ 6 (some (yd (bQ B.up z.up J I (one_pos r))))) _ _
 generalize (bQ B.up z.up J I (one_pos r))=S at *
 refine aD (aO 7 fH.nd (aP (i8 (n:=3) (R.units_le j) j.gd) T.repr BRepr (aB 6 rfl (j9 (e:=yd S) (.tup _) (aMR _) rs.1 rs.2 (aD (aO 8 fH.nd (aF fC (bW (bY (aH '*' (eS (k:=0) '!') (aH '*' (eS (k:=0) '!') ⟨(show 3<=sizeLine by decide),⟨'-',(bC zl8 [0,1,2] (eH T.range ⟨_,rfl,by decide,by decide,?_⟩.4.5.3))⟩.4⟩.4.5.3).5.10.7.3).5.8.7.3).3))))).4).3))
 refine b8 (by rw[bK];exact R.aU '#') (λi acc M'=>∃a:List (Int×Int×Int),acc=a.map ptD/\a.length=i/\(∀q∈a,Pt q)/\PnM M' p (b+1+40*i)/\cQ p M M') ⟨[],rfl,rfl,λq g=>(nomatch g),aa.mono '!',ab⟩ ?_ ?_
 ·rintro i d acc M' hd ⟨a,rfl,lp,U,hF,hB⟩ _ _ _ _ _
  obtain⟨ai,rfl⟩:=cA hd
  have as:i<11:=ai
  refine bG (bF λ_ _ _ _ _=>(aL aWE j ⟨p,_,xs,N,rfl,hF,by lia,B,lx,z,ly,λu v c M1 hu hv c1 c2 aa ab => ?_⟩.4.13.3.10.3.8.3))
  refine⟨a++[(u,v,c)],by rw[qi];rfl,by rw[qe,lp];rfl,λq g => ?_,aa.mono '!',hB.trans ab⟩
  rcases jf.mp g with g|g
  ·exact U q g
  ·rw[ql] at g;rw[g];exact⟨hu,hv,c1,c2⟩
 rintro acc M2 ⟨V,rfl,ac,af,aj,ar⟩
 rw[bK] at ac aj
 refine eZ '*' '*' (by rw[zLm,ac];exact R.aU (show 1+11<=1000000 by decide)) ?_
 have x0:=B.bd _ (i7 (k:=0) (show 0<xs.length by lia))
 have y0:=z.bd _ (i7 (k:=0) (show 0<N.length by lia))
 obtain⟨a,an,U,au⟩:∃a:List (Int×Int×Int),[D.tup [.int (xs.getD 0 0), .int (N.getD 0 0), .int 1]]++V.map ptD=a.map ptD/\(∀q∈a,Pt q)/\a.length<=20:=by
  refine⟨(xs.getD 0 0,N.getD 0 0,1)::V,rfl,λq g => ?_,by rw[ja,ac];decide⟩
  rcases qp.mp g with rfl|g
  ·exact⟨⟨qq (show (xs.getD 0 0).natAbs<=1000000000 by lia) '&'⟩,⟨qq (show (N.getD 0 0).natAbs<=1000000000 by lia) '&'⟩,(show (1:Int)<=1 by decide),(show (1:Int)<=bot by decide)⟩
  ·exact af q g
 rw[show [D.tup [.int (xs.getD 0 0), .int (N.getD 0 0), .int 1]]++V.map ptD=a.map ptD from an]
 refine aD (cW (bP (aB 8 rfl ⟨_, .inr (.inl rfl),(⟨λi Γ' M'=>(PnM M' p (b+500)/\cQ p M M')/\∃v9 v10 v11 Y ae,Γ'=[some (.mt p),some (.lst (xs.map .int)),some (.lst (N.map .int)),some (.lst (zs.map .str)),some (jM e n w s),some (.int m),some (yd S),some (.str (toPy (yd S)).shown),some (.lst (a.map ptD)),v9,v10,v11,Y,ae],⟨⟨aj.mono '!',ar⟩,_,_,_,_,_,rfl⟩,?_,?_⟩)⟩)))
 rotate_left
 ·rintro Γ' M' ⟨⟨G,O⟩,v9,v10,v11,Y,ae,rfl⟩
  refine aI (aR (fR f9 (aP (i8 (n:=3) (R.units_le j) j.gd) T.repr BRepr (aB 6 rfl (j9 (e:=yd S) (.tup _) (aMR _) rs.1 rs.2 (aB 7 rfl (o4 ?_))).4).3)))
  rw[decide_eq_true rfl]
  exact hk _ (G.mono '!') O
 rintro i d Γ' M' hd ⟨⟨G,O⟩,v9,v10,v11,Y,ae,rfl⟩
 obtain⟨q,aq,rfl⟩:=aRP hd
 have Z:=U q (zMo aq)
 obtain⟨⟨hu⟩,⟨hv⟩,c1,c2⟩:=id Z
 have env:=al q Z
 have W:0<q.2.2*m:=bw '!' '!'
 have ag:q.2.2*m<10^300:=by
  have:q.2.2*m<=200000000000000000000*1000000007:=y2 (by unfold bot at c2;exact c2) m2 '!' '#'
  exact mq this '&'
 have m3:m<10^300:=mq m2 '&'
 have em:∀v:Int,qb v m=(v:Rat)*qb 1 m:=λv=>by rw[jv,jv,lr,lr];simp
 refine aV 9 fH.nd (aD (aO 10 fH.nd (aL aU4 j (aB 9 rfl (aF bT (aB 9 rfl (aB 5 rfl (aX (.inr '+') ⟨q.1,q.2.2*m,rfl,W,ag,?_⟩.4)).11.5).7).3.11.5).7.3)))
 rw[nA W,<- aMM]
 refine aD (aO 11 fH.nd (aL aU4 j (aB 9 rfl (aF bT (aB 9 rfl (aB 5 rfl (aX (.inr '+') ⟨q.2.1,q.2.2*m,rfl,W,ag,?_⟩.4)).11.5).7).3.11.5).7.3))
 rw[nA W,<- aMM]
 refine aD (aC2 12 ["_law_parts"] [5] fH.nd (bP (aL aWF j (aB 9 rfl ⟨xs,N,zs,B,z,J,I,e,n,w,s,q,rfl,lx,ly,o,Z,λvs L=>⟨_, .inr (.inl rfl),?_⟩⟩.4).3.15.3.13.3.10.3.8.3)))
 have fr:=aLB (l:=vs.map (frC (qb 1 m))) (by rw[zLm];exact L.few) λt ht=>by
  obtain⟨v,hv,rfl⟩:=qo.mp ht
  exact⟨(L.bd v hv).1,aKQ (L.bd v hv).2 r m2⟩
 have fl:=L.few
 refine aQ3 (ds:=(vs.map frL).map tI) (by rw[zLm,zLm];exact R.aU '!') (λd hd=>by obtain⟨t,ht,rfl⟩:=qo.mp hd;obtain⟨v,_,rfl⟩:=qo.mp ht;exact⟨_,_,rfl⟩) (λi acc M1=>M1=M'/\acc=((vs.take i).map (frC (qb 1 m))).map eQ) ⟨rfl,rfl⟩ ?_ ?_
 ·rintro i d1 d2 acc M1 hd ⟨rfl,rfl⟩ _ _ _ _ _
  rw[ve] at hd
  obtain⟨v,hv,e1⟩:=b4 hd
  obtain⟨rfl,rfl⟩:d1 = .int (v.1:Int)/\d2 = .int v.2:=by
   have:D.tup [d1,d2] = .tup [.int (v.1:Int), .int v.2]:=e1
   injection this with this
   injection this with h1 h2
   injection h2 with h2 h3
   exact⟨h1,h2⟩
  refine bG (bF λ_ _ _ _ _=>(bY (aL aU4 j ⟨_,_,rfl,by lia,m3,?_⟩.4.10.3.8.3).3.6.3))
  rw[nA '!',em v.2]
  refine aC ⟨'/',⟨rfl,?_⟩⟩
  rw[bU hv,qi]
  rfl
 rintro acc M1 ⟨rfl,rfl⟩ ax ak
 refine gF 12 rfl aQ ?_
 rw[fF ak,zLm,zLm,jb]
 refine aD (aO 13 fH.nd (aL aWG j (aB 6 rfl (aB 10 rfl (aB 11 rfl ⟨S,e,n,w,s,_,_,_,rfl,env,λa1 Q => ?_⟩.4).3).3.15.3).3))
 rw[show pZ ((iX S e n w s (qb q.1 q.2.2*qb 1 m) (qb q.2.1 q.2.2*qb 1 m) (c0 S e n w s (qb q.1 q.2.2*qb 1 m) (qb q.2.1 q.2.2*qb 1 m))).map (frK S))=vs.map (frC (qb 1 m)) from ah q vs L]
 refine aD (bN (bL kJ (aP (i8 (n:=3) (R.units_le j) j.gd) T.repr BRepr (aB 13 rfl (j9 (e := .lst ((vs.map (frC (qb 1 m))).map eQ)) (.mt aQ) (mV _) fr.1 fr.2 (aP (i8 (n:=3) (R.units_le j) j.gd) T.repr BRepr (aB 12 rfl (j9 (e := .lst ((vs.map (frC (qb 1 m))).map eQ)) '*' (mV _) fr.1 fr.2 (mO ⟨_,rfl,?_⟩)).4).3)).4).3)))
 rw[decide_eq_true rfl]
 refine cL (bD (aD (eU (fK j1 jy jx c8 (aB 13 rfl (⟨⟨rfl,_,aQ⟩,(qC (dE aQ (by rw[zLm,zLm];exact qn (show _<=4 by lia) '#') ?_).4).3⟩))))))
 rw[dP]
 refine aI (bN (bL kJ (aP (i8 (n:=3) (R.units_le j) j.gd) T.repr BRepr (aL aWG j (aB 6 rfl (aB 10 rfl (aB 11 rfl ⟨S,e,n,w,s,_,_,_,rfl,env,λa2 ad => ?_⟩.4).3).3.15.3).3).3)))
 rw[show pZ ((iX S e n w s (qb q.1 q.2.2*qb 1 m) (qb q.2.1 q.2.2*qb 1 m) (c0 S e n w s (qb q.1 q.2.2*qb 1 m) (qb q.2.1 q.2.2*qb 1 m))).map (frK S))=vs.map (frC (qb 1 m)) from ah q vs L]
 refine aC (j9 (e := .lst ((vs.map (frC (qb 1 m))).map eQ)) (.mt aQ) (mV _) fr.1 fr.2 (aP (i8 (n:=3) (R.units_le j) j.gd) T.repr BRepr (aB 12 rfl (j9 (e := .lst ((vs.map (frC (qb 1 m))).map eQ)) '*' (mV _) fr.1 fr.2 (mO ⟨_,rfl,?_⟩)).4).3))
 rw[decide_eq_true rfl]
 refine cL (bD ⟨⟨?_,?_⟩,_,_,_,_,_,rfl⟩)
 ·exact (G.new (G.ne Q)).new ((G.new (G.ne Q)).ne ad)
 ·have hn:=O.none_of Q (G.ne Q)
  exact (O.new hn).new ((O.new hn).none_of ad ((G.new (G.ne Q)).ne ad))
theorem pK:FnScope ["_law_pen_here", "_law_gap", "_law_lines_here", "_law_k"] zl14 (aM sD):=zSc
abbrev aEB(P w K mg z):=Fo P w K mg z "_law_lines" sD zl14 2 aOA
theorem aJ6(Df:R.Df K mg "_law_lines" sD zl14 f fd)(aVB:kU P w K mg z)(T:Bt mg):aEB P w K mg z:=by
 refine⟨f,fd,Df,a9 Df pK (λds M k h => ?_) (λah A outer s H E I ds M k h => ?_)⟩
 ·obtain⟨p,b,gap,rfl,_⟩:=h;rfl
 obtain⟨p,b,gap,rfl,as,ar,Q,hb,hk⟩:=h
 refine aD (aO 2 pK.nd (f6 (aF bH (aL aVB I ⟨p,_,_,rfl,by decide,by decide,Q,by lia,λz1 M1 al ad u v an => ?_⟩.4.5.3.6.3)).3))
 refine z6 (bA ⟨'-',λL C => ?_⟩.4)
 have m:L≠p:=u.ne C
 have n:M L=none:=v.none_of C m
 refine aD (oP (λΓ' M'=>∃(a:Addr) (x0:Int),Γ'=[some (.mt p),some (.int gap),some (.mt a),none]/\M' a=some (.lst [.int x0])/\a≠p/\M a=none /\ -100000000<=x0/\x0<=100000000/\PnM M' p (b+2)/\cQ p M M') ?_ ?_)
 ·refine bN (bL vG (d6 ⟨_,rfl,(ite2 (λh1=>(aI (aO 2 pK.nd (f6 (aF bH (aL aVB I (aF bT (aF kZ (aX ⟨by decide,by decide,by decide⟩ (aX (.inl ⟨by decide,by decide⟩) ⟨p,_,_,rfl,by decide,by decide,(u.new m),by lia,λz2 M2 aj V t aa ae => ?_⟩.4)).5.5).5).3.6.3)).3)))) (λh1=>bD ⟨L,_,rfl,aQ,m,n,by lia,by lia,(u.new m).mono '!',v.new n⟩))⟩).5.8)
  refine aF kZ (aX ⟨by decide,by decide,by decide⟩ (bA ⟨'-',λa ha => ?_⟩.4)).5.5
  have c:a≠p:=t.ne ha
  have j:=(v.new (o := .lst [.int (z1-20)]) n).trans aa
  have q:M a=none:=j.none_of ha c
  have ac:z2<200000000:=V
  exact⟨a,z2-100000000,rfl,aQ,c,q,by lia,by lia,(t.new c).mono '!',j.new q⟩
 rintro Γ' M2 ⟨a,x0,rfl,Z,c,q,ak,aq,t,j⟩
 refine aD (cW (eH T.range (aF bS (aL aVB I ⟨p,_,_,rfl,by decide,by decide,t,by lia,λz3 M3 ap ai W N X => ?_⟩.4.5.3.6.3).5).3))
 refine bA ⟨_,rfl,by lia,by lia,?_⟩.4
 obtain⟨n3,ab⟩:∃n3:Nat,1+z3=(n3:Int):=⟨(1+z3).toNat,by lia⟩
 rw[ab,qm]
 refine⟨λi Γ' M'=>∃(xs:List Int) (U:Option D),Γ'=[some (.mt p),some (.int gap),some (.mt a),U]/\M' a=some (.lst (xs.map .int))/\PnM M' p (b+3+i)/\cQ p M M'/\xs.length=i+1/\xs.Pairwise (· < ·)/\∀x∈xs, -100000000<=x/\x<=100000000+100000001*i,
  ⟨[x0],_,rfl,(X a c).trans Z,W.mono '!',j.trans N,rfl,v7 _ _,λx g=>by rw[ql] at g;lia⟩,?_,?_⟩
 ·rintro i d Γ' M' hd ⟨xs,U,rfl,B,J,hB,hl,G,r⟩
  obtain⟨hi,rfl⟩:=cA hd
  obtain⟨xr,z,rfl⟩:=wV (l:=xs) (λe=>by rw[e] at hl;simp at hl)
  have am:=r z '%'
  refine aV 3 pK.nd (aI (eU (fK j1 jy jx c8 (⟨⟨rfl,_,B⟩,(aF bS (aF bS (kI iP ⟨_,rfl,(aH (.mt B) (by rw[qi];exact pA _ _) (bA (aL aVB I ⟨p,gap,_,rfl,by lia,by lia,J,by lia,λz4 M4 ao ag Y O S => ?_⟩.4.8.3.6.3)).5)⟩.5).10.7)).3⟩).10)))
  refine bA (dE ((S a c).trans B) (by rw[zLm,hl];exact qn (show i+1<=20 by lia) '#') ⟨xr++[z]++[z+1+z4],_,rfl,by rw[aQ];simp,(Y.new c).mono '!',(hB.trans O).new q,by rw[qe,hl];rfl,?_,λx g => ?_⟩).4
  ·rw[vo]
   refine⟨G,v7 _ _,λx g y hy => ?_⟩
   rw[ql] at hy
   have af:x<=z:=by
    rcases jf.mp g with g|g
    ·exact nu ((vo.mp G).2.2 x g z '%')
    ·rw[ql] at g;lia
   lia
  ·rcases jf.mp g with g|g
   ·have:=r x g;lia
   ·rw[ql] at g;lia
 ·rintro Γ' M' ⟨xs,U,rfl,B,J,hB,hl,G,r⟩
  rw[bK] at hl J r
  exact gF 2 rfl B (aI (aR (hk xs _ ⟨G,by lia,λx g=>by have:=r x g;lia⟩ '!' ((J.del c).mono '!') (hB.del q)).10))
theorem zN:FnScope ["_law_pen_here", "_law_xs", "_law_ys", "_law_menu"] zl8 (aM rQ):=zSc
abbrev aC7(P w K mg z):=Fo P w K mg z "_law_signs" rQ zl8 2 aP6
theorem aJ3(Df:R.Df K mg "_law_signs" rQ zl8 f fd)(aVB:kU P w K mg z)(T:Bt mg):aC7 P w K mg z:=by
 refine⟨f,fd,Df,a9 Df zN (λds M k h => ?_) (λV A outer s H E S ds M k h => ?_)⟩
 ·obtain⟨p,b,xs,m,rfl,_⟩:=h;rfl
 obtain⟨p,b,xs,m,rfl,G,hb,ac,ae,fx,fy,hk⟩:=h
 refine aD (aO 3 zN.nd ?_)
 refine aG aE ?_
 refine bW ?_
 refine aA ?_
 refine ge_str ?_
 refine aA ?_
 refine ge_str ?_
 refine aA ?_
 refine ge_str ?_
 refine aA ?_
 refine ge_str ?_
 refine aA ?_
 refine ge_str ?_
 refine aC ?_
 refine⟨(show 5<=sizeLine by decide),?_⟩
 refine aL aVB S ?_
 refine aA ?_
 refine aB 0 rfl ?_
 refine aA ?_
 refine z6 ?_
 refine aC ?_
 refine⟨p,_,_,rfl,by decide,by decide,G,by lia,λz1 M1 y r v B Y => ?_⟩
 obtain⟨mn,J,X,Z,O⟩:=aHF y r
 refine aH '*' J ?_
 have x:(cutD (xs.map D.int) (some 1) none).length=xs.length-1:=by rw[aBX,zLm]
 have t:(cutD (m.map D.int) (some 1) none).length=m.length-1:=by rw[aBX,zLm]
 refine aI (aR (bC ["_law_pen_here", "_law_xs", "_law_menu"] [0,1,3] (bP ?_)))
 refine i0 l7 ?_
 refine aB 2 rfl ?_
 refine jZ ?_
 refine z6 ?_
 refine⟨_,rfl,?_⟩
 refine j8 ?_
 refine oU '*' ?_
 refine⟨_, .inr (.inl rfl),?_⟩
 refine b8 (by rw[t];exact R.aU '!') (λi acc M'=>∃zs:List Str,acc=zs.map D.str/\PnM M' p (b+1+20*i)/\cQ p M M'/\zs.length=i/\R.Good (xs.length-1) zs) ⟨[],rfl,v.mono '!',B,rfl,λz hz=>(nomatch hz)⟩ ?_ ?_
 ·rintro i d acc M' hd ⟨zs,rfl,o,hB,hl,e⟩ cs C s₀ H₀ I
  have hi:i<m.length-1:=by rw[<- t];exact (zGs hd).1
  refine bG (bF λcs C s₀ H₀ I => ?_)
  refine fK zy bh bc sP (ge_str ⟨rfl,aA (bC ["_law_pen_here", "_law_menu"] [1,3] (bP ?_))⟩)
  refine i0 l7 ?_
  refine aB 2 rfl ?_
  refine jZ ?_
  refine z6 ?_
  refine⟨_,rfl,?_⟩
  refine j8 ?_
  refine oU '*' ?_
  refine⟨_, .inr (.inl rfl),?_⟩
  refine b8 (by rw[x];exact R.aU '!') (λn acc M2=>∃cs:List Nat,acc=(cs.map λc=>(⟨#[c]⟩:Str)).map D.str/\(∀c∈cs,c=35\/c=46)/\cs.length=n/\PnM M2 p (b+1+20*i+n)/\cQ p M M2)
   ⟨[],rfl,λc hc=>(nomatch hc),rfl,o.mono '!',hB⟩ ?_ ?_
  ·rintro n d2 acc M2 hd2 ⟨cs,rfl,g,hl2,a,j⟩ L C s₀ H₀ I
   have ab:n<xs.length-1:=by rw[<- x];exact (zGs hd2).1
   refine bG (bF λL C s₀ H₀ I => ?_)
   refine aG aE ?_
   refine aB 2 rfl ?_
   refine aL aVB S ?_
   refine aA ?_
   refine aB 1 rfl ?_
   refine aA ?_
   refine aP aZ T.len q5 ?_
   refine aA ?_
   refine aB 2 rfl ?_
   refine aC ?_
   refine gY (R.aU '!') ?_
   refine aC ?_
   refine⟨p,_,_,rfl,by lia,by lia,a,by lia,λU M3 aa W N u ad => ?_⟩
   obtain⟨Q,rfl⟩:∃Q:Nat,U=Q:=⟨U.toNat,by lia⟩
   refine fP (R.aU '!') (R.iM '!') ?_
   refine⟨cs++[_],by rw[qi,qi];rfl,λq l => ?_,by rw[qe,hl2];rfl,N.mono '!',j.trans u⟩
   rcases jf.mp l with l|l
   ·exact g q l
   ·rw[ql] at l
    rw[l]
    exact aOY O '!'
  ·rintro acc M2 ⟨cs,rfl,g,hl2,a,j⟩
   rw[x] at hl2 a
   refine aC (rV '*' '&' (by rw[aO4,zLm];lia) ?_)
   rw[R.nC,R.wP]
   exact⟨zs++[R.ofL cs],by rw[qi];rfl,a.mono '!',j,by rw[qe,hl];rfl,aHP e hl2 g⟩
 rintro acc M2 ⟨zs,rfl,o,hB,hl,e⟩
 rw[t] at hl o
 exact hk zs _ e hl (o.mono '!') hB
theorem zS:FnScope ["_law_pen_here", "_law_one"] ["_law_pen_here"] (aM sO):=zSc
abbrev aD3(P w K mg z):=Fo P w K mg z "_law_paces" sO ["_law_pen_here"] 2 aSA
theorem aKN(Df:R.Df K mg "_law_paces" sO ["_law_pen_here"] f fd)(aVB:kU P w K mg z):aD3 P w K mg z:=by
 refine⟨f,fd,Df,a9 Df zS (λds M k h => ?_) (λy A outer s H E a ds M k h => ?_)⟩
 ·obtain⟨p,b,rfl,_⟩:=h;rfl
 obtain⟨p,b,rfl,m,W,r⟩:=h
 refine aD (aO 1 zS.nd (aF bS (aL aVB a ⟨p,_,_,rfl,by decide,by decide,m,by lia,λU M1 D t l c G => ?_⟩.4.5.3.6.3).5))
 refine bA (aD (bN (bL f9 (aL aVB a ⟨p,_,_,rfl,by decide,by decide,l,by lia,λT M2 C I d e v => ?_⟩.4.5.3.6.3))))
 refine z6 (kX ⟨_,rfl,(ite2 (λx => ?_) (λx=>bD ?_))⟩)
 ·exact aI (aR (bY ⟨(show 4<=sizeLine by decide),(r _ _ _ _ _ '+' '+' '+' '+' (d.mono '!') (c.trans e))⟩.4.8.3.8.3.8.3.8.3))
 refine aI (aR (bY (aF bS (aL aVB a ⟨p,_,_,rfl,by decide,by decide,d,by lia,λX M3 L B n i N => ?_⟩.4.5.3.6.3).5).3.8.3))
 refine bA (aF bS (aL aVB a ⟨p,_,_,rfl,by decide,by decide,n,by lia,λS M4 J z q j F => ?_⟩.4.5.3.6.3).5).3
 refine bA (aF bS (aL aVB a ⟨p,_,_,rfl,by decide,by decide,q,by lia,λV M5 O u g o Q => ?_⟩.4.5.3.6.3).5).3
 exact bA ⟨(show 4<=sizeLine by decide),(r _ _ _ _ _ '+' '+' '+' '+' (g.mono '!') ((((c.trans e).trans i).trans j).trans o))⟩.4
theorem mD:FnScope ["_law_script", "_law_pen_here", "_law_turn", "_law_gap", "_law_xs", "_law_ys", "_law_signs_here"] zl29 (aM sE):=zSc
theorem aR5(Df:R.Df K mg "law" sE zl29 f fd)(aWH:aMS P w K mg z)(aVB:kU P w K mg z)(aWI:aEB P w K mg z)(aWJ:aC7 P w K mg z)(aWK:aC8 P w K mg z)(aWL:aD3 P w K mg z)(aWG:rD P w K mg z)(T:Bt mg):FnOk P w K mg z CX0 12 f fd zl29 (spZ K aFG):=by
 refine a9 Df mD (λds M k h => ?_) (λQ A outer s H E c ds M k h => ?_)
 ·obtain⟨ns,rfl,_⟩:=h;rfl
 obtain⟨ns,rfl,ab,hk⟩:=h
 refine aD (aO 1 mD.nd (aL aWH c ⟨ns,rfl,λp M0 hp hL u=>(aD (cW (eH T.range ⟨_,rfl,by decide,by decide,?_⟩.4.5.3)))⟩.4.6.3))
 refine⟨λi Γ' M'=>(∃v2 v v4 D v6,Γ'=[some (.fl (ns.map .int)),some (.mt p),v2,v,v4,D,v6])/\PnM M' p (3000*i),⟨⟨_,_,_,_,_,rfl⟩,u.mono '!'⟩,?_,?_⟩
 rotate_left
 ·rintro Γ' M1 ⟨⟨v2,v,v4,D,v6,rfl⟩,_⟩
  have O:Env Yd.void 1 2 3 4 0 (qb 5 7) 7:=⟨⟨⟨by decide,by decide⟩,⟨by decide,by decide⟩,⟨by decide,by decide⟩,⟨by decide,by decide⟩⟩,⟨by decide,by unfold sm;decide +kernel,by unfold sm;exact qk _⟩,λw hw=>(nomatch hw),λw hw=>(nomatch hw),Fr.zero _ _,(jD (a:=5) (b:=7) '#').mono '&',by decide,by decide⟩
  have vt:∀x y h:Rat,iX Yd.void 1 2 3 4 x y h=[]:=λx y h=>by unfold iX;rfl
  refine aI (aR (fR (zU (n:=3) (R.units_le c)) (aA1 (aL aWG c (bY (bY ⟨(show 0<=sizeLine by decide),(bY ⟨(show 0<=sizeLine by decide),(bY ⟨(show 0<=sizeLine by decide),⟨(show 3<=sizeLine by decide),(bY ⟨(show 4<=sizeLine by decide),?_.3⟩.4.5.3.5.3.5.3.5.3).3⟩.4⟩.4).3⟩.4).3⟩.4).3).3))))
  refine bY ⟨'/',(bY ⟨'/',(⟨Yd.void,1,2,3,4,0,qb 5 7,7,rfl,O,λa L=>⟨a,_,M1,rfl,aQ,L,(Le.refl M1).upd L,(bW ⟨(show 0<=sizeLine by decide),(aA4 '*' '*' (mV _) rfl ?_)⟩.4)⟩⟩).4⟩.4.5.3.5.3).3⟩.4.5.3.5.3
  rw[show ∀x y h:Rat,iX Yd.void ((1:Int):Rat) ((2:Int):Rat) ((3:Int):Rat) ((4:Int):Rat) x y h=[] from λx y h=>by unfold iX;rfl]
  exact hk _
 rintro i d Γ' M' hd ⟨⟨v2,v,v4,D,v6,rfl⟩,Y⟩
 obtain⟨hi,rfl⟩:=cA hd
 have aa:i<2:=hi
 refine aV 2 mD.nd (aD (aO 3 mD.nd (bW (aF kZ (aX ⟨by decide,by decide,by decide⟩ ⟨(show 3<=sizeLine by decide),(aL aVB c ⟨p,_,_,rfl,by decide,by decide,Y,by lia,λz1 M1 t q r W Z => ?_⟩.4.5.3.8.3)⟩.4).5.5).3.5.3.5.3).7))
 obtain⟨gap,C,g,j⟩:=aMG t q
 refine aH '*' C (aD (aO 4 mD.nd (aL aWI c ⟨p,_,gap,rfl,g,j,r,by lia,λxs M2 N m B ad => ?_⟩.4.13.3.8.3)))
 refine aD (aO 5 mD.nd (aL aWI c ⟨p,_,gap,rfl,g,j,B,by lia,λJ M3 I l z S => ?_⟩.4.13.3.8.3))
 have fx:=N.few
 have fy:=I.few
 refine aD (aO 6 mD.nd (aL aWJ c (aB 5 rfl ⟨p,_,xs,J,rfl,z,by lia,m,l,by lia,by lia,λzs M4 gz hz F U => ?_⟩.4).3.15.3.8.3))
 refine aI (bN (dG (cC (aL aWK c (aB 5 rfl (aB 6 rfl (aL aWL c ⟨p,_,rfl,F,by lia,λe n w s M5 he hn hw V o ac => ?_⟩.4.8.3).3).3).3.15.3.8.3))))
 exact aC (⟨p,_,xs,J,zs,e,n,w,s,rfl,o,by lia,N,I,m,l,gz,hz,⟨he,hn,hw,V⟩,λM6 G X=>⟨_,rfl,(cL (bD ⟨⟨_,_,_,_,_,rfl⟩,G.mono '!'⟩))⟩⟩)
end
end Q
namespace HB
open PySem PySem.W L2
theorem mkD{K:qh}(X:K.In h)(G:h.Ns vn mg)(n:String)(st:Stmt)(ps:List Str)(f cd:Addr)(pm:Value)(a:nsIn K vn (ji n)=some (some (.ref f)))(l:K.lookup f=some (fO n st pm cd))(c:codeIn K (.ref cd) (ji n)=true)(k:keepIn K (.ref f)=true)(b:∀(kV doc pm:Value) (an:Option Addr) (cdv ct:Value) (us:List Value),us.length=ps.length->KS (yg (ji n) (ji n) (fQ st) (eF st) (aM st) .none kV doc pm an cdv ct) ⟨us,[]⟩=pure (ps.zip us)):
  R.Df K mg (ji n) st ps f (yg (ji n) (ji n) (fQ st) (eF st) (aM st) .none .none .none pm none (.ref cd) .none):=
 have F:Fun K (ji n) (ji n) st f _:=aRL l c k
 ⟨F,F.binds b,mg_of X G a⟩
theorem mkE{K:qh}(X:K.In h)(G:h.Ns vn mg)(n:String)(st:Stmt)(ps:List Str)(f cd:Addr)(pm:Value)(b:∀(kV doc pm:Value) (an:Option Addr) (cdv ct:Value) (us:List Value),us.length=ps.length->KS (yg (ji n) (ji n) (fQ st) (eF st) (aM st) .none kV doc pm an cdv ct) ⟨us,[]⟩=pure (ps.zip us))(a:nsIn K vn (ji n)=some (some (.ref f)):=by kernel_rfl!)(l:K.lookup f=some (fO n st pm cd):=by kernel_rfl!)(c:codeIn K (.ref cd) (ji n)=true:=by kernel_rfl!)(k:keepIn K (.ref f)=true:=by kernel_rfl!):
  R.Df K mg (ji n) st ps f (yg (ji n) (ji n) (fQ st) (eF st) (aM st) .none .none .none pm none (.ref cd) .none):=mkD X G n st ps f cd pm a l c k b
noncomputable def fG:List Str:=["len", "abs", "int", "min", "max", "range", "list", "tuple", "repr", "all", "any", "enumerate", "isinstance", "bool", "str", "zip", "reversed", "sorted", "dict"]
theorem mkB{K:qh}(X:K.In h)(G:h.Ns vn mg)(e:(fG.all λn=>nsIn K vn n==some none)=true):Q.Bt mg:=
 have z:∀n∈fG,mg n=none:=λn a=>mg_none_of X G (eq_of_beq (jn.mp e n a))
 ⟨z _ (by simp[fG]),z _ (by simp[fG]),z _ (by simp[fG]),z _ (by simp[fG]),z _ (by simp[fG]),z _ (by simp[fG]),z _ (by simp[fG]),z _ (by simp[fG]),z _ (by simp[fG]),z _ (by simp[fG]),z _ (by simp[fG]),z _ (by simp[fG]),z _ (by simp[fG]),z _ (by simp[fG]),z _ (by simp[fG]),z _ (by simp[fG]),z _ (by simp[fG]),z _ (by simp[fG]),z _ (by simp[fG])⟩
theorem ln1{α:Type}{l:List α}(z:l.length=1):∃a,l=[a]:=List.length_eq_one_iff.mp z
theorem ln2{α:Type}{l:List α}(z:l.length=2):∃a b,l=[a,b]:=by
 cases l with
 |nil=>cases z
 |cons a l=>obtain⟨b,rfl⟩:=ln1 (l:=l) (by simpa using z);exact⟨a,b,rfl⟩
theorem ln3{α:Type}{l:List α}(z:l.length=3):∃a b c,l=[a,b,c]:=by
 cases l with
 |nil=>cases z
 |cons a l=>obtain⟨b,c,rfl⟩:=ln2 (l:=l) (by simpa using z);exact⟨a,b,c,rfl⟩
theorem ln4{α:Type}{l:List α}(z:l.length=4):∃a b c d,l=[a,b,c,d]:=by
 cases l with
 |nil=>cases z
 |cons a l=>obtain⟨b,c,d,rfl⟩:=ln3 (l:=l) (by simpa using z);exact⟨a,b,c,d,rfl⟩
theorem ln5{α:Type}{l:List α}(z:l.length=5):∃a b c d e,l=[a,b,c,d,e]:=by
 cases l with
 |nil=>cases z
 |cons a l=>obtain⟨b,c,d,e,rfl⟩:=ln4 (l:=l) (by simpa using z);exact⟨a,b,c,d,e,rfl⟩
end HB
namespace Q
open PySem L2 Z
theorem aDL{K:Fg}:∀ns:List Int,Dens K G (ns.map D.int) (ns.map V.int)
 |[]=>by simp only[gC,Dens]
 |n::ns=>by simp only[gC,Dens];exact⟨_,_,rfl,by simp only[Den],aDL ns⟩
open HB in
theorem all_mk{l:ni}{fa:Addr}(X:(HD.K w.params).In h)(G:h.Ns vn mg)(hfa:mg "law" = some (.ref fa)):
  ∃fd:FuncData,(∀(s:Shared) (v:Value),BindsTo s fd ⟨[v],[]⟩ [("_law_script", v)])/\∀z:Heap,(HD.K w.params).In z->z.Ns vn mg->FnOk l.prog w (HD.K w.params) mg z CX0 12 fa fd ["_law_script"] (spZ (HD.K w.params) aFG):=by
 have T:Bt mg:=mkB X G (by kernel_rfl!)
 have C_FARTHEST:=sr X G (by kernel_rfl!:Qj (HD.K w.params) vn "FARTHEST" = some (some (J 1000000000 337)))
 have C_MOST_LINES:=sr X G (by kernel_rfl!:Qj (HD.K w.params) vn "MOST_LINES" = some (some (J 7 335)))
 have C_NOUGHT:=sr X G (by kernel_rfl!:Qj (HD.K w.params) vn "NOUGHT" = some (some (R 52)))
 have E_NOUGHT:∀G,Den (HD.K w.params) G (pairD (p1 0)) (.ref 52):=λG=>aQ6 (by kernel_rfl!:VE 52 (HD.K w.params)=some (tO [(J 0 241),(J 1 242)]))
 have D1:=mkE X G "is_whole" lQ ["thing"] 59 58 HD.zS2 (λ_ _ _ _ _ _ us hl=>by obtain⟨_,rfl⟩:=HB.ln1 hl;rfl)
 have D2:=mkE X G "common_divisor" fU ["one", "other"] 66 65 HD.zS2 (λ_ _ _ _ _ _ us hl=>by obtain⟨_,_,rfl⟩:=HB.ln2 hl;rfl)
 have D3:=mkE X G "under" r9 ["one", "other"] 115 114 HD.zS2 (λ_ _ _ _ _ _ us hl=>by obtain⟨_,_,rfl⟩:=HB.ln2 hl;rfl)
 have D4:=mkE X G "bands_at" lE ["lines", "where"] 186 185 HD.zS1 (λ_ _ _ _ _ _ us hl=>by obtain⟨_,_,rfl⟩:=HB.ln2 hl;rfl)
 have D5:=mkE X G "has_cell" lD ["yard", "across", "up"] 193 192 HD.zS1 (λ_ _ _ _ _ _ us hl=>by obtain⟨_,_,_,rfl⟩:=HB.ln3 hl;rfl)
 have D6:=mkE X G "column" pX ["rows", "place"] 144 143 HD.zS1 (λ_ _ _ _ _ _ us hl=>by obtain⟨_,_,rfl⟩:=HB.ln2 hl;rfl)
 have D7:=mkE X G "columns" n6 ["rows"] 149 148 HD.zS1 (λ_ _ _ _ _ _ us hl=>by obtain⟨_,rfl⟩:=HB.ln1 hl;rfl)
 have D8:=mkE X G "changes" nD ["bands"] 154 153 HD.zS1 (λ_ _ _ _ _ _ us hl=>by obtain⟨_,rfl⟩:=HB.ln1 hl;rfl)
 have D9:=mkE X G "picked" o9 ["row", "places"] 159 158 HD.zS1 (λ_ _ _ _ _ _ us hl=>by obtain⟨_,_,rfl⟩:=HB.ln2 hl;rfl)
 have D10:=mkE X G "tidied" pW ["xs", "ys", "rows"] 164 163 HD.zS1 (λ_ _ _ _ _ _ us hl=>by obtain⟨_,_,_,rfl⟩:=HB.ln3 hl;rfl)
 have D11:=mkE X G "lowest" qA ["top", "bottom"] 73 72 HD.zS2 (λ_ _ _ _ _ _ us hl=>by obtain⟨_,_,rfl⟩:=HB.ln2 hl;rfl)
 have D12:=mkE X G "fraction" lW ["top", "bottom"] 80 79 HD.zS2 (λ_ _ _ _ _ _ us hl=>by obtain⟨_,_,rfl⟩:=HB.ln2 hl;rfl)
 have D13:=mkE X G "plus" uV ["one", "other"] 87 86 HD.zS2 (λ_ _ _ _ _ _ us hl=>by obtain⟨_,_,rfl⟩:=HB.ln2 hl;rfl)
 have D14:=mkE X G "minus" rH ["one", "other"] 94 93 HD.zS2 (λ_ _ _ _ _ _ us hl=>by obtain⟨_,_,rfl⟩:=HB.ln2 hl;rfl)
 have D15:=mkE X G "times" sA ["one", "other"] 101 100 HD.zS2 (λ_ _ _ _ _ _ us hl=>by obtain⟨_,_,rfl⟩:=HB.ln2 hl;rfl)
 have D16:=mkE X G "stretched" kB ["yard", "by_x", "by_y"] 292 291 (S "roofridges.moves" 569) (λ_ _ _ _ _ _ us hl=>by obtain⟨_,_,_,rfl⟩:=HB.ln3 hl;rfl)
 have D17:=mkE X G "is_row" o8 ["thing", "wide"] 134 133 HD.zS1 (λ_ _ _ _ _ _ us hl=>by obtain⟨_,_,rfl⟩:=HB.ln2 hl;rfl)
 have D18:=mkE X G "rows_fit" lX ["rows", "xs", "ys"] 139 138 HD.zS1 (λ_ _ _ _ _ _ us hl=>by obtain⟨_,_,_,rfl⟩:=HB.ln3 hl;rfl)
 have D19:=mkE X G "is_whole_line" gE ["thing"] 171 170 HD.zS1 (λ_ _ _ _ _ _ us hl=>by obtain⟨_,rfl⟩:=HB.ln1 hl;rfl)
 have D20:=mkE X G "are_whole_lines" fL ["thing"] 176 175 HD.zS1 (λ_ _ _ _ _ _ us hl=>by obtain⟨_,rfl⟩:=HB.ln1 hl;rfl)
 have D21:=mkE X G "made" uM ["xs", "ys", "rows"] 181 180 HD.zS1 (λ_ _ _ _ _ _ us hl=>by obtain⟨_,_,_,rfl⟩:=HB.ln3 hl;rfl)
 have D22:=mkE X G "_law_pen" zB ["_law_script"] 299 298 HD.zS0 (λ_ _ _ _ _ _ us hl=>by obtain⟨_,rfl⟩:=HB.ln1 hl;rfl)
 have D23:=mkE X G "_law_draw" wD ["_law_pen_here", "_law_many"] 306 305 HD.zS0 (λ_ _ _ _ _ _ us hl=>by obtain⟨_,_,rfl⟩:=HB.ln2 hl;rfl)
 have D24:=mkE X G "_law_lines" sD ["_law_pen_here", "_law_gap"] 313 312 HD.zS0 (λ_ _ _ _ _ _ us hl=>by obtain⟨_,_,rfl⟩:=HB.ln2 hl;rfl)
 have D25:=mkE X G "_law_signs" rQ ["_law_pen_here", "_law_xs", "_law_ys"] 318 317 HD.zS0 (λ_ _ _ _ _ _ us hl=>by obtain⟨_,_,_,rfl⟩:=HB.ln3 hl;rfl)
 have D26:=mkE X G "_law_paces" sO ["_law_pen_here"] 325 324 HD.zS0 (λ_ _ _ _ _ _ us hl=>by obtain⟨_,rfl⟩:=HB.ln1 hl;rfl)
 have D27:=mkE X G "_law_number" pM ["_law_upper", "_law_bottom"] 332 331 HD.zS0 (λ_ _ _ _ _ _ us hl=>by obtain⟨_,_,rfl⟩:=HB.ln2 hl;rfl)
 have D28:=mkE X G "over" u8 ["one", "other"] 108 107 HD.zS2 (λ_ _ _ _ _ _ us hl=>by obtain⟨_,_,rfl⟩:=HB.ln2 hl;rfl)
 have D29:=mkE X G "greater" nL ["one", "other"] 129 128 HD.zS2 (λ_ _ _ _ _ _ us hl=>by obtain⟨_,_,rfl⟩:=HB.ln2 hl;rfl)
 have D30:=mkE X G "lesser" p7 ["one", "other"] 122 121 HD.zS2 (λ_ _ _ _ _ _ us hl=>by obtain⟨_,_,rfl⟩:=HB.ln2 hl;rfl)
 have D31:=mkE X G "time_to" nK ["way", "pace"] 247 246 HD.zS3 (λ_ _ _ _ _ _ us hl=>by obtain⟨_,_,rfl⟩:=HB.ln2 hl;rfl)
 have D32:=mkE X G "times_to" lC ["lines", "where", "down", "up"] 254 253 HD.zS3 (λ_ _ _ _ _ _ us hl=>by obtain⟨_,_,_,_,rfl⟩:=HB.ln4 hl;rfl)
 have D33:=mkE X G "lies" wC ["yard", "x", "y"] 200 199 HD.zS1 (λ_ _ _ _ _ _ us hl=>by obtain⟨_,_,_,rfl⟩:=HB.ln3 hl;rfl)
 have D34:=mkE X G "height" p9 ["yard", "paces", "x", "y"] 261 260 HD.zS3 (λ_ _ _ _ _ _ us hl=>by obtain⟨_,_,_,_,rfl⟩:=HB.ln4 hl;rfl)
 have D35:=mkE X G "_law_along" sI ["_law_pen_here", "_law_lines_here", "_law_bottom"] 339 338 HD.zS0 (λ_ _ _ _ _ _ us hl=>by obtain⟨_,_,_,rfl⟩:=HB.ln3 hl;rfl)
 have D36:=mkE X G "_law_point" rR ["_law_pen_here", "_law_xs", "_law_ys"] 346 345 HD.zS0 (λ_ _ _ _ _ _ us hl=>by obtain⟨_,_,_,rfl⟩:=HB.ln3 hl;rfl)
 have D37:=mkE X G "_law_outside" nN ["_law_xs", "_law_ys", "_law_signs_here", "_law_bottom"] 351 350 HD.zS0 (λ_ _ _ _ _ _ us hl=>by obtain⟨_,_,_,_,rfl⟩:=HB.ln4 hl;rfl)
 have D38:=mkE X G "_law_high" vB ["_law_outside_here", "_law_paces_here", "_law_point_here"] 356 355 HD.zS0 (λ_ _ _ _ _ _ us hl=>by obtain⟨_,_,_,rfl⟩:=HB.ln3 hl;rfl)
 have D39:=mkE X G "gone" vT ["pace", "time"] 240 239 HD.zS3 (λ_ _ _ _ _ _ us hl=>by obtain⟨_,_,rfl⟩:=HB.ln2 hl;rfl)
 have D40:=mkE X G "is_edge" nX ["yard", "facing", "place", "band"] 207 206 HD.zS4 (λ_ _ _ _ _ _ us hl=>by obtain⟨_,_,_,_,rfl⟩:=HB.ln4 hl;rfl)
 have D41:=mkE X G "runs" vS ["truths"] 214 213 HD.zS4 (λ_ _ _ _ _ _ us hl=>by obtain⟨_,rfl⟩:=HB.ln1 hl;rfl)
 have D42:=mkE X G "stretches" kL ["yard", "facing", "place"] 219 218 HD.zS4 (λ_ _ _ _ _ _ us hl=>by obtain⟨_,_,_,rfl⟩:=HB.ln3 hl;rfl)
 have D43:=mkE X G "sides" rS ["yard"] 226 225 HD.zS4 (λ_ _ _ _ _ _ us hl=>by obtain⟨_,rfl⟩:=HB.ln1 hl;rfl)
 have D44:=mkE X G "fronts_of" kF ["sorted_sides"] 233 232 HD.zS4 (λ_ _ _ _ _ _ us hl=>by obtain⟨_,rfl⟩:=HB.ln1 hl;rfl)
 have D45:=mkE X G "box_edges" kD ["paces", "x", "y", "time"] 268 267 HD.zS3 (λ_ _ _ _ _ _ us hl=>by obtain⟨_,_,_,_,rfl⟩:=HB.ln4 hl;rfl)
 have D46:=mkE X G "touches" nE ["side", "edges"] 275 274 HD.zS3 (λ_ _ _ _ _ _ us hl=>by obtain⟨_,_,rfl⟩:=HB.ln2 hl;rfl)
 have D47:=mkE X G "touching" lR ["yard", "edges"] 280 279 HD.zS3 (λ_ _ _ _ _ _ us hl=>by obtain⟨_,_,rfl⟩:=HB.ln2 hl;rfl)
 have D48:=mkE X G "touched" nS ["yard", "paces", "x", "y"] 287 286 HD.zS3 (λ_ _ _ _ _ _ us hl=>by obtain⟨_,_,_,_,rfl⟩:=HB.ln4 hl;rfl)
 have D49:=mkE X G "_law_units" rW ["_law_xs", "_law_ys", "_law_signs_here"] 361 360 HD.zS0 (λ_ _ _ _ _ _ us hl=>by obtain⟨_,_,_,rfl⟩:=HB.ln3 hl;rfl)
 have D50:=mkE X G "_law_box" zC ["_law_paces_here", "_law_point_here", "_law_high_here"] 366 365 HD.zS0 (λ_ _ _ _ _ _ us hl=>by obtain⟨_,_,_,rfl⟩:=HB.ln3 hl;rfl)
 have D51:=mkE X G "_law_touches" lH ["_law_box_here", "_law_unit"] 373 372 HD.zS0 (λ_ _ _ _ _ _ us hl=>by obtain⟨_,_,rfl⟩:=HB.ln2 hl;rfl)
 have D52:=mkE X G "_law_is_out" pL ["_law_xs", "_law_ys", "_law_signs_here", "_law_point_here"] 380 379 HD.zS0 (λ_ _ _ _ _ _ us hl=>by obtain⟨_,_,_,_,rfl⟩:=HB.ln4 hl;rfl)
 have D53:=mkE X G "_law_due" yW ["_law_xs", "_law_ys", "_law_signs_here", "_law_paces_here", "_law_point_here"] 385 384 HD.zS0 (λ_ _ _ _ _ _ us hl=>by obtain⟨_,_,_,_,_,rfl⟩:=HB.ln5 hl;rfl)
 have D54:=mkE X G "_law_right" sN ["_law_pen_here", "_law_xs", "_law_ys", "_law_signs_here", "_law_paces_here"] 390 389 HD.zS0 (λ_ _ _ _ _ _ us hl=>by obtain⟨_,_,_,_,_,rfl⟩:=HB.ln5 hl;rfl)
 have D55:=mkE X G "law" sE ["_law_script"] 397 396 HD.zS0 (λ_ _ _ _ _ _ us hl=>by obtain⟨_,rfl⟩:=HB.ln1 hl;rfl)
 cases hfa.symm.trans D55.m
 refine⟨yg "law" "law" (fQ sE) (eF sE) (aM sE) .none .none .none HD.zS0 none (.ref 396) .none,λs v => .of_eq rfl,λz _ _ => ?_⟩
 have G1:=aCW (P:=l.prog) (w:=w) (z:=z) D1 T
 have G2:=sQ (P:=l.prog) (w:=w) (z:=z) D2 T
 have G3:=aLA (P:=l.prog) (w:=w) (z:=z) D3
 have G4:=aCN D4 G3 T
 have G5:=aCZ (P:=l.prog) (w:=w) (z:=z) D5 T
 have G6:=aIQ (P:=l.prog) (w:=w) (z:=z) D6
 have G7:=aF2 D7 G6 T
 have G8:=aGA (P:=l.prog) (w:=w) (z:=z) D8 T
 have G9:=aGX (P:=l.prog) (w:=w) (z:=z) D9
 have G10:=aG7 D10 G8 G7 G9 T
 have G11:=aGT D11 G2
 have G12:=aCM D12 G1 G11
 have G13:=aQI D13 G11
 have G14:=aJ7 D14 G11
 have G15:=aKM D15 G11
 have G16:=zZ D16 G15 T
 have G17:=aHT (P:=l.prog) (w:=w) (z:=z) D17 T
 have G18:=aCR D18 G17 T
 have G19:=uD D19 G1 C_FARTHEST
 have G20:=qW D20 G19 T C_MOST_LINES
 have G21:=aOH D21 G20 G18 G10 G12 T
 have G22:=aRM (P:=l.prog) (w:=w) (z:=z) D22
 have G23:=aNG (P:=l.prog) (w:=w) (z:=z) D23 T
 have G24:=aJ6 D24 G23 T
 have G25:=aJ3 D25 G23 T
 have G26:=aKN D26 G23
 have G27:=aG3 (P:=l.prog) (w:=w) (z:=z) D27 T
 have G28:=aO5 D28 G11
 have G29:=aF9 D29 G3
 have G30:=aH7 D30 G3
 have G31:=aFU D31 G28 G12
 have G32:=aCX D32 G14 G31 G29 T
 have G33:=aOS D33 G4 G5 T
 have G34:=aHG D34 G33 G32 G5 G30 G29 T C_NOUGHT E_NOUGHT
 have G35:=aL9 D35 G23 T
 have G36:=aKZ D36 G23 G35 T
 have G37:=aE9 (P:=l.prog) (w:=w) (z:=z) D37 T
 have G38:=aNX D38 G27 T
 have G39:=aQF D39 G15 G12
 have G40:=aFS D40 G5
 have G41:=aOX (P:=l.prog) (w:=w) (z:=z) D41 T
 have G42:=aAY D42 G41 G40 T
 have G43:=aLY D43 G42 T
 have G44:=aBP (P:=l.prog) (w:=w) (z:=z) D44 T
 have G45:=zQ D45 G39 G14 G13
 have G46:=aE0 D46 G3
 have G47:=aC0 D47 G43 G46
 have G48:=aFH D48 G45 G34 G44 G47
 have G49:=aLO (P:=l.prog) (w:=w) (z:=z) D49 T
 have G50:=aRQ (P:=l.prog) (w:=w) (z:=z) D50
 have G51:=aCD (P:=l.prog) (w:=w) (z:=z) D51
 have G52:=aH1 (P:=l.prog) (w:=w) (z:=z) D52 T
 have G53:=aRK D53 G52 G38 G37 G50 G49 G51 T (PySem.W.mg_none_of X G (by kernel_rfl!))
 have G54:=aLC D54 G23 G16 G21 G36 G27 G53 G48 T
 have G55:=aR5 D55 G22 G23 G24 G25 G54 G26 G48 T
 exact G55
theorem walk{l:ni}{q:Program}{XP:(Str->Option Value)->Heap->Prop}{d:DefRec}{K:xx->qh}(hn:l.most=some 63)(hdf:d.params.defaults=[])(hY:∀(w:World) (h:Heap),YP w h->(K w.params).In h)(F:∀(w:World) (mg:Str->Option Value) (fa:Addr) (h:Heap),(K w.params).In h->h.Ns vn mg->mg d.name=some (.ref fa) ->
   ∃fd:FuncData,(∀(s:Shared) (u:Value),BindsTo s fd ⟨[u],[]⟩ [("_law_script", u)])/\∀z:Heap,(K w.params).In z->z.Ns vn mg->FnOk l.prog w (K w.params) mg z CX0 12 fa fd ["_law_script"] (spZ (K w.params) aFG)):
  Km q loose XP YP l.row.toRowW d [] (λf vs=>JB f vs):=
 L2.aN2 (n:=63) (k:=12) (x := "_law_script") (CX:=λ_=>CX0) (sp:=λw=>spZ (K w.params) aFG) hn '#' hdf ⟨rfl,by decide,by decide,rfl⟩ hY F
  (λw H a ns hl _ b=>⟨H,λ_=>none,[.fl (ns.map .int)],λd _=>d = .bl true,⟨Same.refl H,nofun⟩,⟨_,_,rfl,aS0 b (aDL ns),by simp only[Dens]⟩,⟨ns,rfl,hl,λ_=>rfl⟩,λv G' H' d M' _ hd e=>by subst e;simpa only[Den] using hd⟩) λ_ _ _ _ _ z=>z
end Q
open PySem PySem.W PyProof.Rows
set_option maxRecDepth 100000 in
set_option maxHeartbeats 0 in
theorem PySem.Challenge.cw_roofridges_k23_fronts_touched_holds : PySem.Challenge.rw_roofridges_k23_fronts_touched.Holds := by
 w_on
 refine holds_law HD.said fun said => ?_
 refine holds_open (q:=HD.view) (loose:=[]) (Xt:=HD.Xt) (XP:=XL HD.view []) (Yf:=HD.Hk.obs) (Ya:=HD.Hk.val) (YP:=HD.Hk.says) HD.left (Hook.of HD.Hk) (Hook.keeps HD.Hk) (fun s e=>xl_of s (Bool.and_eq_true_iff.mp e).1) XL.keeps (by rfl) (by rfl) (by rfl) (fun s e=>recFacts_of (Bool.and_eq_true_iff.mp e).2) (by rfl) (by first | assumption | decide +kernel) (by decide +kernel) ⟨rfl,rfl,rfl,rfl,rfl,by decide +kernel⟩ ?hw ?hc
 case hw=>w_witness2
 exact Q.walk (l:=PySem.Challenge.rw_roofridges_k23_fronts_touched) (K:=HD.K) rfl rfl (fun w h Y=>PySem.W.kIn_of Y) fun w b c h KX G a=>Q.all_mk KX G a
