import PyProof.Rows.All
import Wide.All
import OpenK.AllK
import Wide.FinOn
import Lean
import PyProof.EqAt
import PyProof.EqKinds
import PyProof.NeKinds
import PyProof.TupleCall
import KE.IntTextText
import KE.KIntText
import PySem.Challenge.RW_roofridges_k19_whole_corners_pieces_hole
set_option Elab.async false
set_option linter.all false
set_option exponentiation.threshold 500
set_option maxRecDepth 100000
set_option maxHeartbeats 4000000
open PySem renaming wpAny_bind→qa,model→jt,wpAny_newObj_type→j0,mainGlobals→j2,bootBuiltins→kf,mem_of_lookup→kl,wpAny_callSpecial?_slot→k4,boot_len→va,lookup_relabel_local→vx,wpAny_call_entry→v3,compareOp→wa,wpAny_field→wc,wpAny_dictEntries→wd,binaryOp→we,wpAny_holding→xj,Params→x4,treeTable→x5,wpAny_mono→x6,sysModules→x7,wpAny_typeNameOfWhole_keyiter→yg,wpAny_passesOwn→yk,wpAny_truthy_bool→yo,relabel→yw,wpAny_seqItems→y0,wpAny_setField_rec→za,OsState→zf,strIterType→zg,wpAny_standAt→zv,behindInMarks→zw,backTo→bb,holding→bc,swapsWith→bf,Str→bh,sliceBounds→bj,wpAny_dictEpoch→bo,tupleKind_room_in1→cm,pushCells→dc,wpAny_rule→de,atKey_none_of_get→df,comprehension→dm,attributeBase→dq,wpAny_pyIter_zip→dr,wpAny_loadPart'→d6,wpAny_execs_nil→fb,letOwnedTupleGo→fc,Addr→fj,wpAny_setField→fq,storedH→fu,Keyword→fv,sizeLine_eq→fx,IsPart→gn,intItems→gp,Operator→gq,wpAny_attempt→gv,swapsWithSole→gw,swappedStores→gy,assignInOrder→gz,Value→gC,wpAny_Call_Name_kw→gK,standAt→lg,wpAny_assign_Name→lq,wpAny_typeOf→mh,wpAny_isInstance→mw,noFill_tuple_add→mz,compPost→nh,pyNext→nt,getItem→nv,codeAny→nz,callerA→n3,storedH_new→n7,firstArgMember→rq,entryOfKey→tq,call_meets→tw,builtinsNs→tx,PlainAttrs→t6,HeapKind→Qc,wpAny_onRaise→Qd,seq_tuple_add→Qe,call→Qh,Expr→Qi,PassesOwn→QA,seqIndex_neg→QB,concat_meets→QC,codeAny_mono→QD,wpAny_notOrdered_dict→QF,wpAny_isOneOf_keyiter→QG,exec_Assign_Name_used→QH,wpAny_updateSeq_pair→QV,newList→Ja,wpAny_of_eq→Jb,storedH_old→Jc,seqIndex_of→Jd,keywordEach→Je,pyIter→Jm,bindName→Jp,bindArgs→Jq,GenState→Jr,Shared→Ju,field→JE,bindL→JF,bindC→JG,Draws→JH,CmpOp→JI,wpAny_Name→JJ,wpAny_sequenceKey→JL,wpAny_pyIter_enum→JM,World→JO,wpAny_forIn_list→J9,wpAny_execs_cons→Ka,Heap→Kb,truthy→KZ,setItem→K0,wpAny_specialOf→K3,pushCells_keeps→K4,importedModules→K5,wpAny_fieldsOf→Vc,wpAny_bindName→Vd,newFunctionEnv→Vf,isSubtype_stop→Vg,intBits_le_iff→Vh
open List renaming size_toArray→qb,mem_cons→qf,map_append→qg,length_append→qh,getElem_of_mem→qj,mem_singleton→qk,getElem?_map→qm,mem_filter→qo,length_cons→qp,mem_map→qq,range→qr,take_length→qw,mem_append_right→qx,mem_range→q4,mem_append→q5,mem_append_left→q6,length_dropLast→q7,pairwise_iff_getElem→jb,map_congr_left→jc,map_cons→jd,getElem_mem→je,mem_cons_of_mem→jf,not_mem_nil→jg,getElem?_eq_none→jh,pairwise_cons→ji,nodup_cons→jl,length_singleton→jm,range_succ→jq,length_eq_zero_iff→jr,length_drop→ju,lookup_cons→jv,map_map→jw,filterMap_cons→jy,filter_cons_of_pos→j1,getElem?_append_left→j3,getElem?_append_right→ku,mem_filterMap→kz,mem_cons_self→k3,replicate→vc,getElem?_zip_eq_some→vd,append_assoc→vm,getElem?_of_mem→vr,length_take→vw,lookup→vz,pairwise_map→v7,append_nil→wb,all_eq_true→wg,pairwise_append→wm,filter_cons_of_neg→wq,length_pos_iff→wy,filter_eq_nil_iff→wz,map_singleton→xa,length_replicate→xf,length_zip→xk,length_nil→xl,length_range→xm,ext_getElem?→xo,replicate_succ→xw,flatMap_append→xx,getElem?_replicate→xy,filter_append→ye,drop_eq_getElem_cons→yl,mem_flatMap→yq,getElem?_range→yu,length_filterMap_le→yy,pairwise_singleton→y2,length_pos_of_mem→y5,flatMap_singleton→y6,nodup_append→y8,flatten_cons→y9,length_filter_le→zd,dropLast_concat_getLast→zj,count_cons→zk,drop_zero→z8,getElem_take→br,filter_congr→bw,map→cc,length→cf,sum_cons→cj,map_drop→ck,getElem?_cons_succ→cq,getElem_map→cv,range_succ_eq_map→cS,pairwise_lt_range→c5,getElem?_dropLast→da,forIn_cons→dh,filter_map→di,filterMap_append→dj,map_eq_nil_iff→dw,filter_sublist→dz,filter_eq_self→dI,eq_nil_iff_forall_not_mem→f5,filter_cons→gj,sum_append→g9,of_mem_zip→hC,length_set→hG,filter_nil→hJ,take_succ→mi,forIn_nil→mj,length_erase_of_mem→nc,mem_singleton_self→nk,take_of_length_le→pj,getElem_cons_succ→pk,getElem?_set_self→pv,singleton_append→pz,pairwise_flatMap→ra,getElem_dropLast→rb,eq_replicate_iff→rf,dropLast_sublist→rh,dropLast_eq_take→ri,getElem?_set_ne→tm,map_filterMap→Qn,getElem?_drop→Qo,map_dropLast→Qu,getElem?_set→Qv,flatMap_cons→Qw,zipIdx_cons→QL,nodup_range→QM,map_flatMap→QN,flatMap_def→QO,drop_length→QP,countP_cons→QQ,any_eq_true→QR,zipIdx_nil→Q3,nil_append→Q4,foldl_cons→Q5,zip_map'→Jw,map_take→Jx,toArray→JR,map_nil→JS,find?→K8,take→Vi
open PySem.Heap renaming get?_push_of_some→qc,lt_size→qt,get?_push_size→qu,size_push→kr,DictOfH→vv,get?_update_self→xg,SameBut→xr,get?_update_other→pw,ExtBut→Ke
open PySem.W renaming Frag→qe,fnOf→w4,findIn→xu,cellsFrom_some→x9,keepIn→y4,methodObj→fe,OpenLaw→fz,codeIn→g0,mroIn→lu,specialIn→sv,instObj→Ql,mg_of→QI,WalkO→QJ,nsIn→QX,isFn→QY
open Int renaming toNat_natCast→qi,zero_add→kq,gcd→vo,emod_lt_of_pos→y3,emod_nonneg→zq,fdiv_eq_ediv_of_nonneg→zy,mul_zero→z7,le_refl→cu,natAbs_natCast→fk,mul_right_comm→fm,zero_mul→gf,add_zero→gh,gcd_pos_of_ne_zero_right→hR,eq_of_mul_eq_mul_right→mn,fmod_nonneg_of_pos→rj,sub_self→si,mul_comm→sj,le_of_lt→sk,gcd_comm→su,fdiv_mul_cancel→Qp,fmod_lt_of_pos→Qx,lt_trichotomy→QS,gcd_dvd_right→QT,gcd_dvd_left→Q6,natCast_add→Jj,natAbs_mul→Jy,le_of_dvd→JT,neg_dvd→K9
open Nat renaming le_refl→ql,ne_of_lt→qy,lt_of_lt_of_le→q3,le_trans→jn,lt_of_le_of_lt→kc,zero_le→vq,lt_add_of_pos_right→vt,lt_irrefl→xh,lt_trichotomy→xq,ne_of_gt→xt,add_lt_add_left→x8,le_of_succ_le→zb,lt_succ_self→zh,succ_mul→zz,le_of_eq→z6,eq_zero_or_pos→ba,mul_le_mul→bp,not_lt_zero→l0,add_sub_cancel_left→ph,sub_zero→rF,mul_succ→sd,min_self→se,le_of_lt→sf,le_succ→Qj,le_of_not_lt→Q1,le_add_right→Q2,min_eq_left→Ji,le_of_dvd→JQ,add_comm→Kd,one_mul→K7
open Bool renaming and_eq_true→qn,and_true→wo,and_false→xi,or_eq_true→yh,noConfusion→yr,false_eq_true→y1,eq_iff_iff→zl,false_and→ml,true_and→ni,and_eq_false_iff→ro,not_eq_true'→Qy,eq_false_iff→Qz,not_eq_true→QU,or_false→JA
open Classical renaming byContradiction→qv,propDecidable→vn
open Option.some renaming inj→qz
open PySem.Str renaming ofString→ja,empty→vp,length→QE
open Array renaming length_toList→jj,toList→JB,getD→Kf
open PySem.F renaming plainAttrs_list→jk,plainAttrs_str→kx,type_str_join→vf,slot_str_join→vg,type_list_append→vh,slot_list_append→vi,slot_list_count→wk,slot_dict_keyiterator_next→wx,slot_tuple_iterator_next→ym,type_list_count→yx,args_tuple_add_2→zx,entry_tuple_add→bq,slot_tuple_add→cb,slot_zip_next→dt,args_list_count_2→g5,entry_list_count→hO,args_dict_keyiterator_next_1→h8,slot_dict_iter→l4,entry_dict_keyiterator_next→mf,args_tuple_iterator_next_1→mr,entry_tuple_iterator_next→ng,args_zip_next_1→Jk,entry_zip_next→Jz
open PySem.NameKind renaming free→jo,cell→km
open List.Pairwise renaming imp_of_mem→jx,nil→dg,imp→me,filter→J4
open PySem.Heap.SameBut renaming update→jz,refl→mq,extBut→KR
open PyProof.Rows renaming slot_tuple_getitem→kh,callWith_type1→vk,AllBare→fw,boot_zip→gk,boot_abs→gm,assignInOrder_cons→gR,envOfC→nu,subscriptTail_builtinR→Qr,entry_tuple_getitem→Jf,args_tuple_getitem→Jt,assignInOrder_nil→JN,slot_tuple_eq→KO,callWith_builtin1→KP,slicePart_none→Ve
open PySem.Builtin.SmallTypes renaming nextOf→kj,ownedTupleIsFree→v9,ownedTupleHandOut→zu
open PySem.W.Fast renaming te14364793385576792824→ky,tw14364793385576792824→wh,tw15667345088766844465→Kl,tw14374325043358763698→Km,tw14082659384304107361→Ko,tw10110043849684766642→Kq,te9446332074065402090→Kr,te4187177175401517315→Ks,te15667345088766844465→Kt,te14374325043358763698→Ku,te14082659384304107361→Kv,te11892475500146522536→Kw,te10110043849684766642→Kx
open PySem.Value renaming bool→k5,ref→wj,none→wu,int→gu,isInt→rz,type→Qf,str→K6
open Rat renaming divInt→vb,intCast_natCast→zt,divInt_eq_div→b3,div_def→ll,intCast_inj→lr,sub_eq_add_neg→Qs,num_divInt_den→Qt,intCast_zero→QW,intCast_pos→Jg,intCast_mul→Jh
open ForInStep renaming yield→vy
open Option renaming map_some→v8,isSome_iff_exists→yt,bind_some→zc,map_eq_some_iff→cn,getD_some→ft,bind_eq_some_iff→mm,getD_none→Qm,none→Jv,map→JP
open PySem.PyData renaming hasDict→w8,showable→yz,shown→zm,depth→zp,shownAll→cI,showableAll→du,hasDictAll→fi,depthAll→gi
open Ne renaming symm→ya
open PySem.Builtin.Slice renaming slicePlaces→yf,sliceAdjust→ze,sliceApplied→d5,slicePartIndex→J6,sliceFields→J7
open PySem.Builtin.Tuple renaming tupleExact→yi,tupleItemsOf→d4,tupleHashOf→fg,tupleIsExact→J5
open False renaming elim→yj
open PySem.Obj renaming data_mapDictKeys→zi,data_mapFields→z9,isFreed_of_dict→ff,mapSeq→fy,isFreed_of_fields→tf,cls_mapFields→QK,data_mapDict→Q0
open PySem.Calls renaming callWith_builtin→cw,Name_function_global→h9,evalArgs_plain→rm,spliced_cons→Qb,spliced_nil→Qq
open PySem.Builtin.Dict_items renaming ownsTuple→cz
open PySem.Txt renaming join→cF,join→JK
open PySem.Builtin.Builtins renaming bindParams→dk
open PySem.SeqAt.EqAt renaming same→fh,bool_bool→md,str_str→mB,str_int→m3,of_refs→m4,int_str→m5,tuple_str→Vm,tuple_none→Vn,tuple_list→Vo,tuple_int→Vp,tuple_bool→Vq,str_tuple→Vr,str_none→Vs,str_list→Vt,str_bool→Vu,none_tuple→Vv,none_str→Vw,none_list→Vx,none_int→Vy,none_bool→Vz,list_tuple→VA,list_str→VB,list_none→VC,list_int→VD,list_bool→VE,int_tuple→VF,int_none→VG,int_list→VH,int_int→VI,int_bool→VJ,bool_tuple→VL,bool_str→VM,bool_none→VN,bool_list→VO,bool_int→VP
open PySem.Builtin.List renaming listTooLong→fo
open PySem.SeqAt.RcAt renaming lists_lengths→f3,tuples→nj,lists→pf,tuple_list→Vk,list_tuple→Vl
open PySem.Builtin.Dict renaming mergeDict→gb,showsAll→KS,readDirectly→KU,merge→KW,entriesForEmpty→KY
open Sum renaming inr→lh,inl→lj
open PySem.Heap.ExtBut renaming push→nq
open PyProof.Rows.IsTup renaming new→pd
open PySem.PassesOwn renaming never→td
open PySem.SeqAt renaming list_countAt→Qa,EqAt→Qg
open PySem.Draws renaming list→Qk,strAscii→Q7,strWide→Jl
open PySem.Paired renaming length→QZ
open Std.Legacy.Range renaming size→Q8,forIn_eq_forIn_range'→Q9
open Or renaming inr→Jo,inl→K1
open Prod renaming ext→Js
open PySem.Heap.IsSliceOf renaming new→JC
open PySem.Heap.IsKeyIter renaming typeIs→JD
open PySem.EqMixed renaming ne_str_int→JU,ne_str_bool→JV,ne_int_str→JW,ne_bool_str→JY,eq_str_int→JZ,eq_str_bool→J0,eq_int_str→J1,eq_bool_str→J3
open PySem.Builtin.Range renaming rangeSize→J8
open PUnit renaming unit→Kc
open PySem.SeqAt.RcNeAt renaming tuples→Kg,tuple_list→Kh,lists_lengths→Ki,lists→Kj,list_tuple→Kk
open PySem.EqNone renaming ne_str_none→Ky,ne_none_str→Kz,ne_none_none→KA,ne_none_int→KB,ne_none_bool→KC,ne_int_none→KD,ne_bool_none→KF,eq_str_none→KG,eq_none_str→KH,eq_none_none→KI,eq_none_int→KJ,eq_none_bool→KL,eq_int_none→KM,eq_bool_none→KN
open List.Sublist renaming refl→KQ
open Iff renaming rfl→K2
open Nat.Coprime renaming symm→Va,dvd_of_dvd_mul_left→Vb
open PySem.Flow renaming next→Vj
theorem zLm{α β}{as:List α}(f:α->β):(as.map f).length=as.length:=List.length_map f
theorem zGe{α}{l:List α}{i:Nat}(h:i<l.length):l[i]?=some l[i]:=List.getElem?_eq_getElem h
theorem zGd{α}{l:List α}{i:Nat}{a:α}:l.getD i a=l[i]?.getD a:=List.getD_eq_getElem?_getD
theorem zGs{α}{l:List α}{i:Nat}{a:α}(h:l[i]?=some a):∃h:i<l.length,l[i]=a:=List.getElem?_eq_some_iff.mp h
theorem zMo{α}{l:List α}{i:Nat}{a:α}(h:l[i]?=some a):a∈l:=List.mem_of_getElem? h
theorem zBf:false≠true:=Bool.false_ne_true
variable {xs:List (List Int×fj)}{us its:List gC}{x y qual name x1 x2:bh}{u vl vu:gC}{a it C f sl tu dx:fj}{o b e c tg iter elt:Qi}{P q prog:PySem.Program}{w:JO}{h base h':Kb}{t' i j n ep kk m nx ny:Nat}{ch fp:List fj}{N loose ns zs:List bh}{A:PySem.Around}{s' s:Ju}{pins:List (fj×PySem.Obj)}{t:Bool}{st:List (Int×Int)}{es ifs elts:List Qi}{pos' px py pos ip spos apos cpos p2 tp px1 px2:PySem.Pos}{fd:PySem.FuncData}{mg:bh->Option gC}{scope:PySem.Scope}{od:Option fj}{lo hi:Option Qi}{ys ws:List Rat}{YP:JO->Kb->Prop}{Q':gC->Ju->Prop}{l r0 r' js:List Nat}{ks:List (List Int)}{is ats:List Int}{c':List Prop}
set_option hygiene false in
local macro_rules
|`($t.$i:fieldIdx)=>match i.raw.isFieldIdx?.getD 0 with|3=>`(Q.top $t)|4=>`(jt X.prog $t)|5=>`(wpAny_pure $t)|6=>`(S "/claim/cut.py" $t)|7=>`(aN X scope cs C (x::ns) s₀ H₀ $t)|8=>`(cellsFrom (s3.heap.objs.size+1) scope.names $t)|9=>`(aN X scope (cellsFrom (s3.heap.objs.size+1) scope.names cl) s3.heap.objs.size (xs++ns) s3 H3 $t)|_=>Lean.Macro.throwUnsupported

set_option hygiene false in
local macro_rules
|`($c:char)=>match c.getChar with|'!'=>`(by omega)|'#'=>`(by lia)|'$'=>`(by simp)|'%'=>`(.ListComp elt [⟨.Name x px,iter,ifs,0⟩] scope pos)|'&'=>`(aN X scope cs C (x1::x2::ns) s₀ H₀ fp)|_=>Lean.Macro.throwUnsupported
noncomputable section
namespace L2
open PySem PySem.Spec PyProof.Rows
abbrev Key:=Sum Int Str
noncomputable def aI0:Key->Value->Bool
 |.inl k,v=>rz k v
 |.inr x,v=>Value.isStrOf x v
noncomputable def keyH(w:World):Key->Int
 |.inl k=>hashInt k
 |.inr x=>hashStr w x
theorem dN:∀{k:Key}{v:Value},aI0 k v=true->(∃i t,k=lj i/\v=gu i t)\/(∃x t,k=lh x/\v=K6 x t)
 |.inl i,v,h=>by
  obtain⟨t,e⟩:=Value.isInt_shape (k:=i) (v:=v) h
  exact .inl ⟨i,t,rfl,e⟩
 |.inr x,v,h=>by
  obtain⟨t,e⟩:=Value.isStrOf_shape (x:=x) (v:=v) h
  exact .inr ⟨x,t,rfl,e⟩
theorem aOD(a b:Int):decide ((lj a:Key)=lj b)=(a==b):=by
 by_cases e:a=b
 ·subst e;simp
 ·have h:¬(lj a:Key)=lj b:=λq=>e (Sum.inl.inj q)
  rw[decide_eq_false h]
  exact (beq_eq_false_iff_ne.mpr e).symm
theorem aNO(a b:Str):decide ((lh a:Key)=lh b)=decide (a=b):=by
 by_cases e:a=b
 ·subst e;simp
 ·have h:¬(lh a:Key)=lh b:=λq=>e (Sum.inr.inj q)
  rw[decide_eq_false h,decide_eq_false e]
theorem aN9(a:Int)(b:Str):decide ((lj a:Key)=lh b)=false:=decide_eq_false (λq=>nomatch q)
theorem aM2(a:Str)(b:Int):decide ((lh a:Key)=lj b)=false:=decide_eq_false (λq=>nomatch q)
noncomputable def vS(prog:Program)(w:World):PySem.KeyKind prog w Key where
 is:=aI0
 hash:=keyH w
 inj:=λv a b ha hb=>by
  rcases dN ha with ⟨i,t,rfl,rfl⟩|⟨x,t,rfl,rfl⟩
  ·rcases dN hb with ⟨j,u,rfl,e⟩|⟨y,u,rfl,e⟩
   ·injection e with e1 _;rw[e1]
   ·exact nomatch e
  ·rcases dN hb with ⟨j,u,rfl,e⟩|⟨y,u,rfl,e⟩
   ·exact nomatch e
   ·injection e with e1 _;rw[e1]
 byValue:=λk v h=>by
  rcases dN h with ⟨i,t,rfl,rfl⟩|⟨x,t,rfl,rfl⟩ <;> rfl
 pyHash:=λhv h=>by
  rcases dN hv with ⟨i,t,rfl,rfl⟩|⟨x,t,rfl,rfl⟩
  ·exact wpAny_pyHash_int h
  ·exact wpAny_pyHash_str h
 eqBool:=λhu hv h=>by
  rcases dN hu with ⟨i,t,rfl,rfl⟩|⟨x,t,rfl,rfl⟩
  ·rcases dN hv with ⟨j,u,rfl,rfl⟩|⟨y,u,rfl,rfl⟩
   ·rw[aOD] at h;exact wpAny_eqBool_int h
   ·rw[aN9] at h;exact m5 i t y u _ _ _ _ h
  ·rcases dN hv with ⟨j,u,rfl,rfl⟩|⟨y,u,rfl,rfl⟩
   ·rw[aM2] at h;exact m3 x t j u _ _ _ _ h
   ·rw[aNO] at h;exact wpAny_eqBool_str h
 «strs» := λk x t v h=>by
  rcases dN h with ⟨i,u,rfl,e⟩|⟨y,u,rfl,e⟩
  ·exact nomatch e
  ·injection e with e1 _
   subst e1
   cases v <;> rfl
inductive V where
 |non|bl (b:Bool)|int (i:Int)|str (x:Str)|byt (b:Array UInt8)|flt (b:UInt64)|ref (a:Addr)|ty (n:String)
 deriving DecidableEq
noncomputable def RelV:V->Value->Prop
 |.non,u=>u=wu
 |.bl b,u=>u=k5 b
 |.int i,u=>∃t,u=gu i t
 |.str x,u=>∃t,u=K6 x t
 |.byt b,u=>∃t,u=Value.bytes b t
 |.flt b,u=>∃t,u=Value.float b t
 |.ref a,u=>u=wj a
 |.ty n,u=>u=Qf n
abbrev Vals:List V->List Value->Prop:=Paired RelV
theorem Vals.length{xs:List V}(r:Vals xs us):xs.length=us.length:=QZ r
theorem Vals.get:∀{xs:List V}{us:List Value}{i:Nat}{x:V},Vals xs us->xs[i]?=some x->∃u,us[i]?=some u/\RelV x u
 |_,_,_,_, .nil,e=>by simp at e
 |_,_,0,_, .cons r _,e=>by simp at e;subst e;exact⟨_,rfl,r⟩
 |_,_,i+1,x, .cons _ t,e=>by
  obtain⟨u,a,b⟩:=Vals.get (i:=i) (x:=x) t (by simpa using e)
  exact⟨u,by simpa using a,b⟩
theorem Vals.set{x:V}(r:RelV x u):∀{xs:List V}{us:List Value} (i:Nat),Vals xs us->Vals (xs.set i x) (us.set i u)
 |_,_,_, .nil => .nil
 |_,_,0, .cons _ t => .cons r t
 |_,_,i+1, .cons q t => .cons q (Vals.set r i t)
theorem Vals.append:∀{xs ys:List V}{us ws:List Value},Vals xs us->Vals ys ws->Vals (xs++ys) (us++ws)
 |_,_,_,_, .nil,s=>s
 |_,_,_,_, .cons r t,s => .cons r (Vals.append t s)
theorem Vals.take:∀{xs:List V}{us:List Value} (n:Nat),Vals xs us->Vals (xs.take n) (us.take n)
 |_,_,0,_ => .nil
 |_,_,_+1, .nil => .nil
 |_,_,n+1, .cons r t => .cons r (Vals.take n t)
theorem Vals.drop:∀{xs:List V}{us:List Value} (n:Nat),Vals xs us->Vals (xs.drop n) (us.drop n)
 |_,_,0,r=>r
 |_,_,_+1, .nil => .nil
 |_,_,n+1, .cons _ t=>Vals.drop n t
noncomputable def RelO:Option V->Option Value->Prop
 |some v,some u=>RelV v u
 |none,none=>True
 |_,_=>False
noncomputable def KV{κ:Type}:List (κ×V)->List (κ×Value)->Prop:=Paired λ(p:κ×V) (q:κ×Value)=>p.1=q.1/\RelV p.2 q.2
noncomputable def kV:Key->V
 |.inl i => .int i
 |.inr x => .str x
inductive HO where
 /-- a list -/
 |lst (xs:List V)
 /-- a tuple (never changes) -/
 |tup (xs:List V)
 /-- a dict whose keys are ints and texts;one whose keys are tuples of ints and texts (the empty one is both) -/
 |dK (kvs:List (Key×V))|dT (kvs:List (List Key×V))
 /-- a set of ints: its members,its size -/
 |set (S:Int->Bool) (n:Nat)
 /-- an instance of the class at C,its dict at dx,its attributes -/
 |ins (C dx:Addr) (fs:List (Str×V))
 /-- the dict of the instance at x -/
 |own (x:Addr)
 /-- the dict of an exception -/
 |xd (fs:List (Str×V))
 /-- a bound method,f of x -/
 |met (f x:Addr)
 /-- a range object lo,lo+1, .. below hi -/
 |rng (lo hi:Int)
 /-- a thing that is known to the object (the script;a dict while a loop walks it): read,never written while it is so -/
 |frz (o:Obj) (u:HO)
 /-- a code object's table -/
 |tbl (ps:Array Value)
 /-- any other thing,by what is true of its one object (a def of one's own: SetO a S n:=HO.ext λh => ..) -/
 |ext (φ:Heap->Prop)
abbrev Hp:=Addr->Option HO
noncomputable def upd(H:Hp)(a:Addr)(o:HO):Hp:=λb=>if b=a then some o else H b
theorem aY{H:Hp}{o:HO}:upd H a o a=some o:=by unfold upd;rw[if_pos rfl]
theorem aV{H:Hp}{b:Addr}{o:HO}(h:b≠a):upd H a o b=H b:=by unfold upd;rw[if_neg h]
theorem bA{H:Hp}{b:Addr}{o:HO}(h:H a=some o)(h':H b=none):a≠b:=by
 intro e;subst e;rw[h] at h';cases h'
section
variable (P:Program)(w:World)
noncomputable def dY(H:Hp)(h:Heap)(a:Addr):HO->Prop
 |.lst xs=>xs.length<=sizeLine/\∃(its:List Value) (n:Nat),Vals xs its/\h.get? a=some {cls := .type "list", data := .seq its.toArray n}
 |.tup xs=>xs.length<=sizeLine/\∃its:List Value,Vals xs its/\IsTup h a its.toArray
 |.dK kvs=>kvs.length<=sizeLine/\(a==x7)=false/\∃vs,KV kvs vs/\h.DictOf (vS P w) a vs
 |.dT kvs=>kvs.length<=sizeLine/\(a==x7)=false/\∃xs:List (List Key×Addr×Value),
   Paired (λ(p:List Key×V) (q:List Key×Addr×Value)=>p.1=q.1/\H q.2.1=some (.tup (p.1.map kV))/\RelV p.2 q.2.2) kvs xs /\
   ∃o es ep,h.get? a=some o/\o.ExactDict/\o.data = .dict es ep/\es.toList=xs.map (tq (tupleKind (vS P w)))/\(xs.map (·.1)).Nodup
 |.set S n=>h.SetOf (intKind P w) a S n
 |.ins C dx fs=>H dx=some (.own a)/\fs.length<=1000/\dx≠a/\h.get? a=some (Ql C dx) /\
   ∃mA,h.Ns1 dx mA/\(∀f,RelO (fs.lookup f) (mA f))/\PySem.Within mA (fs.map (·.1))
 |.own _=>∃o,h.get? a=some o
 |.xd fs=>∃mA,h.Ns1 a mA/\∀f,RelO (fs.lookup f) (mA f)
 |.rng lo hi=>∃t u v,h.get? a=some {cls := .type "range", data := .fields #[.int lo t, .int hi u, .int 1 v]}
 |.frz o u=>h.get? a=some o/\dY H h a u
 |.tbl ps=>h.get? a=some {cls := .none,data := .fields ps}
 |.met f x=>h.get? a=some (fe (.ref f) (.ref x))
 |.ext φ=>φ h/\(∃o,h.get? a=some o)/\∀h1 h2:Heap,φ h1->(∀o,h1.get? a=some o->h2.get? a=some o)->φ h2
noncomputable def HOk(H:Hp)(h:Heap):Prop:=∀a o,H a=some o->dY P w H h a o
end
section
variable {H H':Hp}{o:HO}
theorem dY.lt(x:dY P w H h a o):a<h.objs.size:=by
 cases o with
 |lst xs=>obtain⟨_,_,_,_,e⟩:=x;exact qt e
 |tup xs=>obtain⟨_,_,_,p⟩:=x;exact p.lt
 |dK kvs=>obtain⟨_,_,_,_,o,_,_,e,_⟩:=x;exact qt e
 |dT kvs=>obtain⟨_,_,_,_,o,_,_,e,_⟩:=x;exact qt e
 |set S n=>obtain⟨o,_,_,_,e,_⟩:=x;exact qt e
 |ins C dx fs=>obtain⟨_,_,_,e,_⟩:=x;exact qt e
 |own y=>obtain⟨_,e⟩:=x;exact qt e
 |xd fs=>obtain⟨_,⟨_,_,_,e,_⟩,_⟩:=x;exact qt e
 |rng lo hi=>obtain⟨_,_,_,e⟩:=x;exact qt e
 |frz ob u=>obtain⟨e,_⟩:=x;exact qt e
 |tbl ps=>exact qt (show h.get? a=some _ from x)
 |met f y=>exact qt (show h.get? a=some _ from x)
 |ext φ=>obtain⟨_,⟨_,e⟩,_⟩:=x;exact qt e
theorem Paired.mapP{α β:Type}{F G:α->β->Prop}:∀{l₁:List α}{l₂:List β},Paired F l₁ l₂->(∀a b,F a b->G a b)->Paired G l₁ l₂
 |_,_, .nil,_ => .nil
 |_,_, .cons r t,f => .cons (f _ _ r) (Paired.mapP t f)
theorem dY.stay(x:dY P w H h a o)(k:∀b u,(b=a\/H b=some (.own a))->h.get? b=some u->h'.get? b=some u)(ho:∀b,H b=some (.own a)->H' b=some (.own a))(ht:∀b xs,H b=some (.tup xs)->H' b=some (.tup xs)):dY P w H' h' a o:=by
 induction o with
 |lst xs=>obtain⟨z,j,n,r,e⟩:=x;exact⟨z,j,n,r,k _ _ (.inl rfl) e⟩
 |tup xs=>obtain⟨z,j,r,ob,e,c⟩:=x;exact⟨z,j,r,ob,k _ _ (.inl rfl) e,c⟩
 |dK kvs=>obtain⟨z,y,vs,r,ob,g,i,e,c⟩:=x;exact⟨z,y,vs,r,ob,g,i,k _ _ (.inl rfl) e,c⟩
 |dT kvs =>
  obtain⟨z,y,xs,r,ob,g,i,e,c⟩:=x
  exact⟨z,y,xs,Paired.mapP r λp q z=>⟨z.1,ht _ _ z.2.1,z.2.2⟩,ob,g,i,k _ _ (.inl rfl) e,c⟩
 |set S n=>obtain⟨ob,g,i,t,e,c⟩:=x;exact⟨ob,g,i,t,k _ _ (.inl rfl) e,c⟩
 |ins C dx fs =>
  obtain⟨d,z,ne,e,m,⟨l,g,i,s,c⟩,r⟩:=x
  exact⟨ho _ d,z,ne,k _ _ (.inl rfl) e,m,⟨l,g,i,k _ _ (.inr d) s,c⟩,r⟩
 |own y=>obtain⟨ob,e⟩:=x;exact⟨ob,k _ _ (.inl rfl) e⟩
 |xd fs=>obtain⟨m,⟨l,g,i,e,c⟩,r⟩:=x;exact⟨m,⟨l,g,i,k _ _ (.inl rfl) e,c⟩,r⟩
 |rng lo hi=>obtain⟨t,u,v,e⟩:=x;exact⟨t,u,v,k _ _ (.inl rfl) e⟩
 |frz ob u ih=>obtain⟨e,q⟩:=x;exact⟨k _ _ (.inl rfl) e,ih q⟩
 |tbl ps =>
  have e:h.get? a=some {cls := .none,data := .fields ps}:=x
  show h'.get? a=some {cls := .none,data := .fields ps}
  exact k a _ (.inl rfl) e
 |met f y =>
  have e:h.get? a=some (fe (.ref f) (.ref y)):=x
  show h'.get? a=some (fe (.ref f) (.ref y))
  exact k a _ (.inl rfl) e
 |ext φ=>obtain⟨p,⟨o,e⟩,st⟩:=x;exact⟨st _ _ p λo q=>k _ _ (.inl rfl) q,⟨o,k _ _ (.inl rfl) e⟩,st⟩
theorem HOk.lt(x:HOk P w H h)(e:H a=some o):a<h.objs.size:=(x a o e).lt
theorem HOk.fresh(x:HOk P w H h)(e:h.objs.size<=a):H a=none:=by
 cases q:H a with
 |none=>rfl
 |some u=>exact absurd (q3 (x.lt q) e) (xh _)
theorem HOk.kept(x:HOk P w H h)(k:∀b u,h.get? b=some u->h'.get? b=some u):HOk P w H h':=λa o e =>
 (x a o e).stay (λb u _ q=>k b u q) (λ_ q=>q) λ_ _ q=>q
theorem HOk.laid(x:HOk P w H h)(k:∀b u,h.get? b=some u->h'.get? b=some u)(hp:h.objs.size<=a)(new:dY P w (upd H a o) h' a o):HOk P w (upd H a o) h':=λb u e=>by
 have d:=x.fresh hp
 by_cases f:b=a
 ·subst f;rw[aY] at e;cases e;exact new
 ·rw[aV f] at e
  exact (x b u e).stay (λc v _ q=>k c v q) (λc q=>by rw[aV (bA q d)];exact q) λc xs q=>by rw[aV (bA q d)];exact q
end
noncomputable def Rd(H:Hp)(a:Addr)(u:HO):Prop:=H a=some u\/∃o,H a=some (.frz o u)
theorem Rd.ok{H:Hp}{u:HO}(r:Rd H a u)(x:HOk P w H h):dY P w H h a u:=by
 rcases r with r|⟨o,r⟩
 ·exact x a u r
 ·obtain⟨_,q⟩:=x a _ r
  exact q
noncomputable def Mut:Option HO->Prop
 |some (.lst _)=>True
 |some (.dK _)=>True
 |some (.dT _)=>True
 |some (.set _ _)=>True
 |some (.ins _ _ _)=>True
 |some (.ext _)=>True
 |_=>False
section
variable {H:Hp}{x e:Addr}{o':HO}
theorem HOk.write(ok:HOk P w H h)(mu:Mut (H x))(he:e=x\/H e=some (.own x))(k:∀b u,b≠e->h.get? b=some u->h'.get? b=some u)(heo:∃u,h'.get? e=some u)(new:dY P w (upd H x o') h' x o'):HOk P w (upd H x o') h':=λb u q=>by
 have d:∀c y,H c=some (.own y)->c≠x:=λc y r z=>by subst z;rw[r] at mu;exact mu
 have f:∀c xs,H c=some (.tup xs)->c≠x:=λc xs r z=>by subst z;rw[r] at mu;exact mu
 by_cases i:b=x
 ·subst i;rw[aY] at q;cases q;exact new
 ·rw[aV i] at q
  by_cases a:b=e
  ·have j:H b=some (.own x):=by
    rcases he with z|z
    ·exact absurd (a.trans z) i
    ·rw[a];exact z
   rw[q] at j;cases j
   obtain⟨v,l⟩:=heo
   exact⟨v,by rw[a];exact l⟩
  ·refine (ok b u q).stay (λc v g r=>k c v ?_ r) (λc r=>by rw[aV (d c b r)];exact r) λc xs r=>by rw[aV (f c xs r)];exact r
   rcases g with rfl|g
   ·exact a
   ·rintro rfl
    rcases he with z|z
    ·exact d c b g z
    ·rw[g] at z;cases z;exact i rfl
end
structure Un(fs ex:List Addr)(H H':Hp)(h h':Heap):Prop where
 keep:∀b o,h.get? b=some o->H b=none->b∉fs->b∉ex->h'.get? b=some o
 slot:∀b o,h.get? b=some o->H b=none->b∈fs->b∉ex->∃sl,h'.get? b=some {o with slots:=sl}
 free:∀b o,h.get? b=some o->H b=none->b∉ex->H' b=none
 there:∀b o,h.get? b=some o->b∉ex->∃o',h'.get? b=some o'
 tups:∀b xs,H b=some (.tup xs)->H' b=some (.tup xs)
 frzs:∀b o u,H b=some (.frz o u)->H' b=some (.frz o u)
 tbls:∀b ps,H b=some (.tbl ps)->∃more,H' b=some (.tbl (ps++more))
section
variable {fs fs' ex ex':List Addr}{H H1 H2:Hp}{h1 h2:Heap}{x e:Addr}{o:HO}
theorem Un.any(u:Un fs ex H H1 h h1){b:Addr}{ob:Obj}(q:h.get? b=some ob)(n:H b=none)(hx:b∉ex):∃sl,h1.get? b=some {ob with slots:=sl}:=by
 by_cases a:b∈fs
 ·exact u.slot b ob q n a hx
 ·exact⟨ob.slots,u.keep b ob q n a hx⟩
theorem Un.kept(k:∀b u,h.get? b=some u->h'.get? b=some u):Un fs ex H H h h':=
 ⟨λb ob q _ _ _=>k b ob q,λb ob q _ _ _=>⟨ob.slots,k b ob q⟩,λ_ _ _ n _=>n,λb ob q _=>⟨ob,k b ob q⟩,λ_ _ q=>q,λ_ _ _ q=>q,λ_ ps q=>⟨#[],by rw[q];simp⟩⟩
theorem Un.refl:Un fs ex H H h h:=Un.kept λ_ _ q=>q
theorem Un.laid(k:∀b u,h.get? b=some u->h'.get? b=some u)(hp:h.objs.size<=a)(hn:H a=none):Un fs ex H (upd H a o) h h' where
 keep:=λb u q _ _ _=>k b u q
 slot:=λb u q _ _ _=>⟨u.slots,k b u q⟩
 free:=λb u q n _=>by rw[aV (qy (q3 (qt q) hp))];exact n
 there:=λb u q _=>⟨u,k b u q⟩
 tups:=λb xs q=>by rw[aV (bA q hn)];exact q
 frzs:=λb u xs q=>by rw[aV (bA q hn)];exact q
 tbls:=λb ps q=>⟨#[],by rw[aV (bA q hn),q];simp⟩
theorem Un.write(mu:Mut (H x))(he:e=x\/H e=some (.own x))(k:∀b u,b≠e->h.get? b=some u->h'.get? b=some u)(heo:∃u,h'.get? e=some u):Un fs ex H (upd H x o) h h':=by
 have c:∀b,H b=none->b≠x:=λb n z=>by subst z;rw[n] at mu;exact mu
 have d:∀b,H b=none->b≠e:=λb n z=>by
  subst z
  rcases he with r|r
  ·exact c b n r
  ·rw[n] at r;cases r
 have hm:∀b u,H b=some u->¬Mut (some u)->b≠x:=λb u q nm z=>by subst z;rw[q] at mu;exact nm mu
 refine⟨λb u q n _ _=>k b u (d b n) q,λb u q n _ _=>⟨u.slots,k b u (d b n) q⟩,λb u q n _=>by rw[aV (c b n)];exact n,λb u q _ => ?_,
  λb xs q=>by rw[aV (hm b _ q λz=>z)];exact q,λb u xs q=>by rw[aV (hm b _ q λz=>z)];exact q,λb ps q=>⟨#[],by rw[aV (hm b _ q λz=>z),q];simp⟩⟩
 by_cases a:b=e
 ·subst a;exact heo
 ·exact⟨u,k b u a q⟩
end
noncomputable def trk(h:Heap)(H:Hp):List Addr:=(qr h.objs.size).filter λa=>(H a).isSome
noncomputable def nO(h:Heap)(H:Hp):Heap:=PySem.W.hideAll h (trk h H)
theorem aFU(h:Heap)(H:Hp):(nO h H).objs.size=h.objs.size:=PySem.W.hideAll_size _ _
theorem aIW{H:Hp}{b:Addr}{o:Obj}(e:h.get? b=some o)(n:H b=none):(nO h H).get? b=some o:=
 PySem.W.hideAll_get _ e λhm=>by
  have q:(H b).isSome=true:=(qo.mp hm).2
  rw[n] at q;simp at q
theorem aJU{H:Hp}{b:Addr}{o:Obj}(e:(nO h H).get? b=some o):h.get? b=some o/\H b=none:=by
 have a:h.get? b=some o:=PySem.W.of_hideAll (trk h H) e
 refine⟨a,?_⟩
 cases q:H b with
 |none=>rfl
 |some x =>
  have hm:b∈trk h H:=qo.mpr ⟨q4.mpr (qt a),by simp[q]⟩
  have z:(nO h H).get? b=none:=PySem.W.hideAll_none (trk h H) hm
  rw[z] at e;cases e
noncomputable def aKO(g h:Heap)(L:Addr):List (Addr×Obj):=(qr h.objs.size).filterMap λa=>if a=L\/(g.get? a).isSome=true then none else (h.get? a).map λo=>(a,o)
noncomputable def rest(g h:Heap)(L d:Addr):List (Addr×Obj):=(aKO g h L).filter λp=>decide (p.1≠d)
end L2
variable {H H' H1 G G' G0:L2.Hp}{v:L2.V}
namespace L2
open PySem PySem.Spec PyProof.Rows
structure Mod(K:qe)(mg:Str->Option Value)(base:Heap):Prop where
 kin:K.In base
 glob:base.Ns j2 mg
 blt:∃mb,base.Ns tx mb/\∀x:Str,x ≠ "__name__" -> mb x=kf x
 nolimit:base.NoLimit
/-- the context: a def's body (or a comprehension's block) running. base: fixed through the whole law;s₀,H₀: the entry;outer: the frames whose slots others may change (a def's callers);stack: all frames that run;
   ex: iterators that were made ahead of the entry and are walked here (a comprehension's);fn: the names whose cells were made at the entry (a def: all;a comprehension's block: its own);calm: not within an except suite;pn: pins that every state bears;xe: what is wanted of an exception that leaves the code -/
structure Cx where
 prog:Program
 w:World
 K:qe
 mg:Str->Option Value
 base:Heap
 A:Around
 N:List Str
 s₀:Shared
 H₀:Hp
 env:Env
 outer:List Env
 stack:List Env
 ex:List Addr
 fn:Str->Bool
 calm:Bool
 pn:List (Addr×Obj)
 xe:Value->Shared->Prop
noncomputable def frs(l:List Env):List Addr:=l.filterMap (·.frame)
abbrev Cx.fs(X:Cx):List Addr:=frs X.outer
noncomputable def Vis(sc:Scope)(x:Str):Prop:=sc.names.lookup x=some .local\/sc.names.lookup x=some .cell\/sc.names.lookup x=some .free
noncomputable def Loc(sc:Scope)(x:Str):Prop:=sc.names.lookup x=some .local\/sc.names.lookup x=some .cell
noncomputable def Look(env:Env)(h:Heap)(m:Str->Option Value)(x:Str)(u:Value):Prop:=
 (env.kindOf x=some .local/\m x=some u)\/((env.kindOf x=some .cell\/env.kindOf x=some .free)/\∃c,env.cells.lookup x=some c/\h.IsCell c (some u))
structure Cx.Ok(X:Cx):Prop where
 mod:Mod X.K X.mg X.base
 kind:X.env.scope.kind = .function
 glob:X.env.globals=j2
 blt:X.env.builtins=tx
 above:X.s₀.heap.objs.size<=X.env.locals
 inj:∀x y c,X.env.cells.lookup x=some c->X.env.cells.lookup y=some c->x=y
 has:∀x,(X.env.kindOf x=some .cell\/X.env.kindOf x=some .free)->∃c,X.env.cells.lookup x=some c
 cab:∀x c,X.fn x=true->X.env.cells.lookup x=some c->X.s₀.heap.objs.size<=c
 hd:X.calm=true->X.A.handled=none
 frames:X.A.frames=some X.stack
 stk:X.stack=X.outer\/(X.stack=X.env::X.outer/\X.env.frame=some X.env.locals)
 exf:∀b∈X.ex,b≠X.env.locals/\∀x c,X.env.cells.lookup x=some c->c≠b
 bs:∀b o,X.base.get? b=some o->X.s₀.heap.get? b=some o/\X.H₀ b=none
 bsz:X.base.objs.size<=X.s₀.heap.objs.size
 noex:∀b o,X.base.get? b=some o->b∉X.ex
 exfs:∀b∈X.ex,b∉X.fs
 funs:X.s₀.heap.FunFrames X.base X.outer
 frf:∀b∈X.fs,X.H₀ b=none
structure Inv(X:Cx)(pins:List (Addr×Obj))(σ:List (Option V))(H:Hp)(s:Shared):Prop where
 ok:X.Ok
 os:s.os=X.s₀.os
 bare:fw s.gens
 base:Un X.fs X.ex X.H₀ H X.s₀.heap s.heap
 loc:∃m,s.heap.Ns X.env.locals m/\∀(i:Nat) (x:Str) (v:V),X.N[i]?=some x->σ[i]?=some (some v)->Vis X.env.scope x->∃u,RelV v u/\Look X.env s.heap m x u
 cell:∀x c,X.env.cells.lookup x=some c->∃v,s.heap.IsCell c v
 free:H X.env.locals=none
 freeC:∀x c,X.env.cells.lookup x=some c->H c=none
 pin:∀p∈X.pn++pins,s.heap.get? p.1=some p.2/\H p.1=none/\p.1≠X.env.locals/\p.1∉X.fs/\∀v,p.2.data ≠ .cell v
 hok:HOk X.prog X.w H s.heap
 len:σ.length=X.N.length
section
variable {X:Cx}{σ:List (Option V)}
theorem Cx.Ok.nofr(ok:X.Ok){b:Addr}{o:Obj}(e:X.base.get? b=some o):b∉X.fs:=λhb=>by
 have:=(ok.funs.mem hb).1
 rw[e] at this;cases this
theorem Inv.bs(I:Inv X pins σ H s):∀b o,X.base.get? b=some o->s.heap.get? b=some o/\H b=none:=λb o e =>
 ⟨I.base.keep b o (I.ok.bs b o e).1 (I.ok.bs b o e).2 (I.ok.nofr e) (I.ok.noex b o e),I.base.free b o (I.ok.bs b o e).1 (I.ok.bs b o e).2 (I.ok.noex b o e)⟩
theorem Inv.bk(I:Inv X pins σ H s):∀b o,X.base.get? b=some o->s.heap.get? b=some o:=λb o e=>(I.bs b o e).1
theorem Inv.mod(I:Inv X pins σ H s):Mod X.K X.mg X.base:=I.ok.mod
theorem Inv.kIn(I:Inv X pins σ H s):X.K.In s.heap:=I.ok.mod.kin.keeps I.bk
theorem Inv.lt(I:Inv X pins σ H s):X.env.locals<s.heap.objs.size:=let ⟨_,hn,_⟩:=I.loc;hn.lt
theorem Inv.sz(I:Inv X pins σ H s):X.s₀.heap.objs.size<=s.heap.objs.size:=jn I.ok.above (sf I.lt)
theorem Inv.nofs(I:Inv X pins σ H s)(h:s.heap.objs.size<=a):a∉X.fs:=λc=>by
 obtain⟨_,o,b,_⟩:=I.ok.funs.mem c
 exact absurd (q3 (qt b) (jn I.sz h)) (xh _)
theorem Inv.cne(I:Inv X pins σ H s):∀x c,X.env.cells.lookup x=some c->c≠X.env.locals:=λx c e z=>by
 obtain⟨v,o,d,hd⟩:=I.cell x c e
 obtain⟨m,⟨f,g,h,b,a,_⟩,_⟩:=I.loc
 rw[z,b] at d;cases d;rw[a] at hd;cases hd
theorem Inv.funs(I:Inv X pins σ H s):s.heap.FunFrames X.base X.outer:=by
 have all:∀(l:List Env),(∀b∈frs l,b∈X.fs)->X.s₀.heap.FunFrames X.base l->s.heap.FunFrames X.base l:=by
  intro l
  induction l with
  |nil=>intro _ _;trivial
  |cons env r ih =>
   intro c hl
   obtain⟨d,⟨L,o,hf,f,h,hd⟩,g⟩:=hl
   have hL:L∈X.fs:=c L (by unfold frs;rw[jy,hf];exact k3)
   obtain⟨i,e⟩:=I.base.slot L o h (I.ok.frf L hL) hL λz=>I.ok.exfs L z hL
   exact⟨d,⟨L,_,hf,f,e,hd⟩,ih (λb a=>c b (by unfold frs;rw[jy,hf];exact jf _ a)) g⟩
 exact all X.outer (λ_ a=>a) I.ok.funs
theorem Inv.stack(I:Inv X pins σ H s):s.heap.FunFrames X.base X.stack:=by
 rcases I.ok.stk with e|⟨e,hf⟩
 ·rw[e];exact I.funs
 ·rw[e]
  obtain⟨m,a,_⟩:=I.loc
  refine .cons (by rw[I.ok.kind];decide) hf a ?_ I.funs
  exact Heap.get?_none_of_le (jn I.ok.bsz I.ok.above)
theorem Inv.stkSub(I:Inv X pins σ H s):∀b∈frs X.stack,b∈X.env.locals::X.fs:=λb a=>by
 rcases I.ok.stk with e|⟨e,hf⟩
 ·rw[e] at a;exact jf _ a
 ·rw[e] at a
  unfold frs at a
  rw[jy,hf] at a
  exact a
theorem Inv.stkFree(I:Inv X pins σ H s):∀b∈frs X.stack,H b=none:=λb a=>by
 rcases qf.mp (I.stkSub b a) with e|a
 ·rw[e];exact I.free
 ·obtain⟨_,o,c,_⟩:=I.ok.funs.mem a
  exact I.base.free b o c (I.ok.frf b a) λz=>I.ok.exfs b z a
theorem Inv.step{g':Array Jr}{d':Drawn}(I:Inv X pins σ H s)(hch:∀b∈ch,(b∈X.ex\/X.s₀.heap.objs.size<=b)/\b≠X.env.locals/\(∀x c,X.env.cells.lookup x=some c->c≠b)/\∀p∈X.pn++pins,p.1≠b)(keep:∀b o,b≠X.env.locals->b∉X.fs->b∉ch->s.heap.get? b=some o->H b=none->h'.get? b=some o)(slot:∀b o,b≠X.env.locals->b∈X.fs->b∉ch->s.heap.get? b=some o->H b=none->∃sl,h'.get? b=some {o with slots:=sl})(free:∀b o,b∉ch->s.heap.get? b=some o->H b=none->H' b=none)(there:∀b o,b∉ch->s.heap.get? b=some o->∃o',h'.get? b=some o')(tups:∀b xs,H b=some (.tup xs)->H' b=some (.tup xs))(frzs:∀b o u,H b=some (.frz o u)->H' b=some (.frz o u))(tbls:∀b ps,H b=some (.tbl ps)->∃more,H' b=some (.tbl (ps++more)))(ns:∀m,s.heap.Ns X.env.locals m->h'.Ns X.env.locals m)(hok:HOk X.prog X.w H' h')(hg:fw g'):
  Inv X pins σ H' {s with heap:=h',gens:=g',drawn:=d',toks:=t' }:=by
 have A:∀b o,X.s₀.heap.get? b=some o->b≠X.env.locals:=λb o e=>qy (q3 (qt e) I.ok.above)
 have h:∀b o,X.s₀.heap.get? b=some o->b∉X.ex->b∉ch:=λb o e a j=>by
  rcases (hch b j).1 with z|z
  ·exact a z
  ·exact absurd (q3 (qt e) z) (xh _)
 have cellK:∀x c,X.env.cells.lookup x=some c->∀v,s.heap.IsCell c v->h'.IsCell c v:=λx c e v ⟨o,t,hd⟩=>by
  have f:c∉ch:=λz=>(hch c z).2.2.1 x c e rfl
  by_cases C:c∈X.fs
  ·obtain⟨sl,q⟩:=slot c o (I.cne x c e) C f t (I.freeC x c e)
   exact⟨_,q,hd⟩
  ·exact⟨o,keep c o (I.cne x c e) C f t (I.freeC x c e),hd⟩
 refine⟨I.ok,I.os,hg,⟨λb o e n j a => ?_,λb o e n j a => ?_,λb o e n a => ?_,λb o e a => ?_,λb xs e=>tups b xs (I.base.tups b xs e),λb o xs e=>frzs b o xs (I.base.frzs b o xs e),λb ps e => ?_⟩,?_,λx c e => ?_,?_,λx c e => ?_,λp D => ?_,hok,I.len⟩
 ·exact keep b o (A b o e) j (h b o e a) (I.base.keep b o e n j a) (I.base.free b o e n a)
 ·obtain⟨sl,g⟩:=I.base.slot b o e n j a
  obtain⟨B,y⟩:=slot b _ (A b o e) j (h b o e a) g (I.base.free b o e n a)
  exact⟨B,y⟩
 ·obtain⟨o',g⟩:=I.base.there b o e a
  exact free b o' (h b o e a) g (I.base.free b o e n a)
 ·obtain⟨o',g⟩:=I.base.there b o e a
  exact there b o' (h b o e a) g
 ·obtain⟨G,g⟩:=I.base.tbls b ps e
  obtain⟨F,y⟩:=tbls b _ g
  exact⟨G++F,by rw[y,Array.append_assoc]⟩
 ·obtain⟨m,E,hl⟩:=I.loc
  refine⟨m,ns m E,λi x v g y J => ?_⟩
  obtain⟨u,r,l⟩:=hl i x v g y J
  refine⟨u,r,?_⟩
  rcases l with l|⟨k,c,e,z⟩
  ·exact .inl l
  ·exact .inr ⟨k,c,e,cellK x c e _ z⟩
 ·obtain⟨v,z⟩:=I.cell x c e
  exact⟨v,cellK x c e v z⟩
 ·obtain⟨m,⟨o,_,_,t,_⟩,_⟩:=I.loc
  exact free _ o (λz=>(hch _ z).2.1 rfl) t I.free
 ·obtain⟨v,o,t,hd⟩:=I.cell x c e
  exact free c o (λz=>(hch c z).2.2.1 x c e rfl) t (I.freeC x c e)
 ·obtain⟨e,n,ne,nf,d⟩:=I.pin p D
  have f:p.1∉ch:=λz=>(hch p.1 z).2.2.2 p D rfl
  exact⟨keep p.1 p.2 ne nf f e n,free p.1 p.2 f e n,ne,nf,d⟩
theorem Inv.un(I:Inv X pins σ H s)(u:Un X.fs [] H H' s.heap h')(hok:HOk X.prog X.w H' h'):Inv X pins σ H' {s with heap:=h',toks:=t' }:=by
 obtain⟨m,⟨o,j,k,g,r⟩,_⟩:=id I.loc
 obtain⟨l,hL⟩:=u.any g I.free '$'
 exact I.step (g':=s.gens) (d':=s.drawn) (ch:=[]) (λ_ z=>nomatch z) (λb o _ f _ e n=>u.keep b o e n f '$') (λb o _ f _ e n=>u.slot b o e n f '$') (λb o _ e n=>u.free b o e n '$') (λb o _ e=>u.there b o e '$') u.tups u.frzs u.tbls (λp hm=>by
  obtain⟨i,c,d,a,h⟩:=hm
  rw[g] at a;cases a
  exact⟨_,c,d,hL,h⟩) hok I.bare
theorem Inv.call{g':Array Jr}{d':Drawn}(I:Inv X pins σ H s)(u:Un (frs X.stack) ch H H' s.heap h')(hok:HOk X.prog X.w H' h')(hg:fw g')(hch:∀b∈ch,(b∈X.ex\/X.s₀.heap.objs.size<=b)/\b≠X.env.locals/\(∀x c,X.env.cells.lookup x=some c->c≠b)/\∀p∈X.pn++pins,p.1≠b):
  Inv X pins σ H' {s with heap:=h',gens:=g',drawn:=d',toks:=t' }:=by
 obtain⟨m,⟨o,l,q,h,r⟩,_⟩:=id I.loc
 obtain⟨t,hL⟩:=u.any h I.free λz=>(hch _ z).2.1 rfl
 exact I.step (ch:=ch) hch (λb o hL j a e n=>u.keep b o e n (λz=>(qf.mp (I.stkSub b z)).elim hL j) a) (λb o _ _ a e n=>u.any e n a) (λb o a e n=>u.free b o e n a) (λb o a e=>u.there b o e a) u.tups u.frzs u.tbls (λv hm=>by
  obtain⟨k,f,g,d,i⟩:=hm
  rw[h] at d;cases d
  exact⟨_,f,g,hL,i⟩) hok hg
theorem Inv.turned(I:Inv X pins σ H s)(k:∀b o,b≠it->s.heap.get? b=some o->h'.get? b=some o)(hn:H it=none)(hL:it≠X.env.locals)(h1:it∈X.ex\/X.s₀.heap.objs.size<=it)(h2:∀x c,X.env.cells.lookup x=some c->c≠it)(h3:∀p∈X.pn++pins,p.1≠it):Inv X pins σ H {s with heap:=h',toks:=t' }:=by
 have d:∀b u,H b=some u->b≠it:=λb u e z=>by rw[z,hn] at e;cases e
 refine I.step (g':=s.gens) (d':=s.drawn) (ch:=[it]) (λb i => ?_) (λb o _ _ a e _=>k b o (λz=>a (by simp[z])) e) (λb o _ _ a e _=>⟨o.slots,k b o (λz=>a (by simp[z])) e⟩) (λ_ _ _ _ n=>n)
  (λb o a e=>⟨o,k b o (λz=>a (by simp[z])) e⟩) (λ_ _ e=>e) (λ_ _ _ e=>e) (λb ps e=>⟨#[],by rw[e];simp⟩) (λm hm => ?_) (λb u e => ?_) I.bare
 ·have e:b=it:=by simpa using i
  subst e
  exact⟨h1,hL,h2,h3⟩
 ·obtain⟨o,f,h,g,r⟩:=hm
  exact⟨o,f,h,k _ o (ya hL) g,r⟩
 ·refine (I.hok b u e).stay (λc v a q=>k c v ?_ q) (λ_ q=>q) λ_ _ q=>q
  rcases a with z|z
  ·rw[z];exact d b u e
  ·exact d c _ z
theorem Inv.tok(I:Inv X pins σ H s)(t:Nat):Inv X pins σ H {s with toks:=t}:=I.un (h':=s.heap) (t':=t) Un.refl I.hok
theorem Inv.kept(I:Inv X pins σ H s)(k:∀b u,s.heap.get? b=some u->h'.get? b=some u):Inv X pins σ H {s with heap:=h',toks:=t' }:=I.un (Un.kept k) (I.hok.kept k)
theorem Inv.laid{o:HO}(I:Inv X pins σ H s)(k:∀b u,s.heap.get? b=some u->h'.get? b=some u)(hp:s.heap.objs.size<=a)(new:dY X.prog X.w (upd H a o) h' a o):
  Inv X pins σ (upd H a o) {s with heap:=h',toks:=t' }:=I.un (Un.laid k hp (I.hok.fresh hp)) (I.hok.laid k hp new)
theorem Inv.write{x e:Addr}{o:HO}(I:Inv X pins σ H s)(mu:Mut (H x))(he:e=x\/H e=some (.own x))(k:∀b u,b≠e->s.heap.get? b=some u->h'.get? b=some u)(heo:∃u,h'.get? e=some u)(new:dY X.prog X.w (upd H x o) h' x o):Inv X pins σ (upd H x o) {s with heap:=h',toks:=t' }:=I.un (Un.write mu he k heo) (I.hok.write mu he k heo new)
theorem Inv.pins_of{pins':List (Addr×Obj)}(I:Inv X pins σ H s)(h:∀p∈pins',s.heap.get? p.1=some p.2/\H p.1=none/\p.1≠X.env.locals/\p.1∉X.fs/\∀v,p.2.data ≠ .cell v):Inv X pins' σ H s:=
 ⟨I.ok,I.os,I.bare,I.base,I.loc,I.cell,I.free,I.freeC,λp a=>(q5.mp a).elim (λz=>I.pin p (q6 _ z)) (h p),I.hok,I.len⟩
theorem yM(hN:N.Nodup)(a:N[i]?=some x)(b:N[j]?=some x):i=j:=by
 obtain⟨e,c⟩:=zGs a
 obtain⟨f,d⟩:=zGs b
 exact (List.getElem_inj hN).mp (c.trans d.symm)
theorem p7{M:Model}{E:Value->Shared->Prop}{Q:Unit->Shared->Prop}(I:Inv X pins σ H s)(hN:X.N.Nodup)(hi:X.N[i]?=some x)(hx:Loc X.env.scope x)(r:RelV v u)(h:∀s',Inv X pins (σ.set i (some v)) H s'->(∃a,xr a s.heap s'.heap/\(a=X.env.locals\/X.env.cells.lookup x=some a))->Q () s')(hf:X.fn x=true\/X.env.scope.names.lookup x=some .local:=by first|exact .inl rfl|exact .inr rfl|assumption):wpAny M A (storeName X.env x u) Q E s:=by
 obtain⟨m,Y,hl⟩:=id I.loc
 have R:(X.env.scope.kind == .class||(X.env.scope.kind == .module&&X.env.locals != X.env.globals))=false:=by rw[I.ok.kind];rfl
 have hiσ:i<σ.length:=by rw[I.len];exact (zGs hi).1
 have cne:=I.cne
 have tracked:∀{a:Addr}{J:Heap},(∃o,s.heap.get? a=some o/\H a=none)->xr a s.heap J->HOk X.prog X.w H J:=λ{a J} ha f b ob e=>by
  obtain⟨_,_,t⟩:=ha
  refine (I.hok b ob e).stay (λc T l q=>(f.2 c ?_).trans q) (λ_ q=>q) λ_ _ q=>q
  rintro rfl
  rcases l with rfl|l
  ·rw[t] at e;cases e
  ·rw[t] at l;cases l
 rcases hx with C|C
 ·refine wpAny_storeName_local C Y (λJ aa f => ?_) R
  obtain⟨oL,_,_,ab,_⟩:=id Y
  refine h _ ⟨I.ok,I.os,I.bare,⟨λb o e n G hx => ?_,λb o e n G hx => ?_,I.base.free,λb o e hx => ?_,I.base.tups,I.base.frzs,I.base.tbls⟩,⟨_,aa,λj y U g B e3 => ?_⟩,λy c e => ?_,I.free,I.freeC,λp W => ?_,tracked ⟨oL,ab,I.free⟩ f,by simpa using I.len⟩ ⟨_,f, .inl rfl⟩
  ·exact (f.2 b (qy (q3 (qt e) I.ok.above))).trans (I.base.keep b o e n G hx)
  ·obtain⟨sl,g⟩:=I.base.slot b o e n G hx
   exact⟨sl,(f.2 b (qy (q3 (qt e) I.ok.above))).trans g⟩
  ·obtain⟨o',g⟩:=I.base.there b o e hx
   exact⟨o',(f.2 b (qy (q3 (qt e) I.ok.above))).trans g⟩
  ·by_cases D:j=i
   ·subst D
    rw[hi] at g;cases g
    rw[pv hiσ] at B
    cases B
    exact⟨u,r, .inl ⟨C,by simp⟩⟩
   ·rw[tm (ya D)] at B
    obtain⟨u',Z,q⟩:=hl j y U g B e3
    refine⟨u',Z,?_⟩
    rcases q with ⟨k,e⟩|⟨k,c,e,z⟩
    ·refine .inl ⟨k,?_⟩
     have:y≠x:=λe=>D (yM hN g (e▸hi))
     simp[this,e]
    ·exact .inr ⟨k,c,e,z.sameBut f (cne y c e)⟩
  ·obtain⟨T,z⟩:=I.cell y c e
   exact⟨T,z.sameBut f (cne y c e)⟩
  ·obtain⟨e,n,ne,nf,d⟩:=I.pin p W
   exact⟨(f.2 p.1 ne).trans e,n,ne,nf,d⟩
 ·have F:X.fn x=true:=by
   rcases hf with z|z
   ·exact z
   ·rw[z] at C;cases C
  obtain⟨c,l⟩:=I.ok.has x (.inl C)
  obtain⟨T,z⟩:=I.cell x c l
  refine wpAny_storeName_cell I.ok.kind C l z (λJ O f => ?_)
  obtain⟨oc,L,K⟩:=id z
  refine h {s with heap:=J} ⟨I.ok,I.os,I.bare,⟨λb o e n G hx => ?_,λb o e n G hx => ?_,I.base.free,λb o e hx => ?_,I.base.tups,I.base.frzs,I.base.tbls⟩,⟨m,Y.sameBut f (ya (cne x c l)),λj y U g B e3 => ?_⟩,λy S e => ?_,I.free,I.freeC,λp W => ?_,tracked ⟨oc,L,I.freeC x c l⟩ f,by simpa using I.len⟩ ⟨c,f, .inr l⟩
  ·exact (f.2 b (qy (q3 (qt e) (I.ok.cab x c F l)))).trans (I.base.keep b o e n G hx)
  ·obtain⟨sl,g⟩:=I.base.slot b o e n G hx
   exact⟨sl,(f.2 b (qy (q3 (qt e) (I.ok.cab x c F l)))).trans g⟩
  ·obtain⟨o',g⟩:=I.base.there b o e hx
   exact⟨o',(f.2 b (qy (q3 (qt e) (I.ok.cab x c F l)))).trans g⟩
  ·by_cases D:j=i
   ·subst D
    rw[hi] at g;cases g
    rw[pv hiσ] at B
    cases B
    exact⟨u,r, .inr ⟨.inl C,c,l,O⟩⟩
   ·rw[tm (ya D)] at B
    obtain⟨u',Z,q⟩:=hl j y U g B e3
    refine⟨u',Z,?_⟩
    rcases q with q|⟨k,S,e,z'⟩
    ·exact .inl q
    ·refine .inr ⟨k,S,e,z'.sameBut f ?_⟩
     rintro rfl
     exact D (yM hN g (I.ok.inj _ _ _ e l▸hi))
  ·by_cases P:S=c
   ·subst P;exact⟨_,O⟩
   ·obtain⟨w2,z2⟩:=I.cell y S e
    exact⟨w2,z2.sameBut f P⟩
  ·obtain⟨e,n,ne,nf,d⟩:=I.pin p W
   refine⟨(f.2 p.1 ?_).trans e,n,ne,nf,d⟩
   intro q
   rw[q,L] at e
   have q':oc=p.2:=qz e
   exact d T (by rw[<- q'];exact K)
theorem nX{M:Model}{E:Value->Shared->Prop}{Q:Unit->Shared->Prop}(I:Inv X pins σ H s)(hN:X.N.Nodup)(hi:X.N[i]?=some x)(hx:Loc X.env.scope x)(r:RelV v u)(h:∀s',Inv X pins (σ.set i (some v)) H s'->Q () s')(hf:X.fn x=true\/X.env.scope.names.lookup x=some .local:=by first|exact .inl rfl|exact .inr rfl|assumption):wpAny M A (storeName X.env x u) Q E s:=
 p7 I hN hi hx r (λs' I' _=>h s' I') hf
theorem Inv.call'(I:Inv X pins σ H s)(ho:s'.os=s.os)(u:Un (frs X.stack) ch H H' s.heap s'.heap)(hok:HOk X.prog X.w H' s'.heap)(hg:fw s'.gens)(hch:∀b∈ch,(b∈X.ex\/X.s₀.heap.objs.size<=b)/\b≠X.env.locals/\(∀x c,X.env.cells.lookup x=some c->c≠b)/\∀p∈X.pn++pins,p.1≠b):Inv X pins σ H' s':=by
 obtain⟨d,g',d',t',a⟩:=s'
 have e:a=s.os:=ho
 subst e
 exact I.call (g':=g') (t':=t') (d':=d') u hok hg hch
end
abbrev XK:=Value->Option Addr->Hp->Prop
abbrev St:=List (Option V)
abbrev VK:=V->Hp->Prop
abbrev TE:=St->Hp->VK->Prop
abbrev TT:=St->Hp->(Bool->Hp->Prop)->Prop
abbrev TA:=St->Hp->(List V->Hp->Prop)->Prop
structure Ends where
 nx:St->Hp->Prop
 rt:VK
 bk:St->Hp->Prop:=λ_ _=>False
 ct:St->Hp->Prop:=λ_ _=>False
abbrev TS:=Ends->St->Hp->Prop
noncomputable def EP(X:Cx)(pins:List (Addr×Obj))(σ:St)(Q:VK)(u:Value)(s':Shared):Prop:=∃v H',Inv X pins σ H' s'/\RelV v u/\Q v H'
noncomputable def TP(X:Cx)(pins:List (Addr×Obj))(σ:St)(Q:Bool->Hp->Prop)(b:Bool)(s':Shared):Prop:=∃H',Inv X pins σ H' s'/\Q b H'
noncomputable def AP(X:Cx)(pins:List (Addr×Obj))(σ:St)(Q:List V->Hp->Prop)(us:List Value)(s':Shared):Prop:=∃vs H',Inv X pins σ H' s'/\Vals vs us/\Q vs H'
noncomputable def SP(X:Cx)(pins:List (Addr×Obj))(D:Ends)(f:Flow)(s':Shared):Prop:=
 match f with
 |.next=>∃σ' H',Inv X pins σ' H' s'/\D.nx σ' H'
 |.brk=>∃σ' H',Inv X pins σ' H' s'/\D.bk σ' H'
 |.cont=>∃σ' H',Inv X pins σ' H' s'/\D.ct σ' H'
 |.ret u=>∃v σ' H',Inv X pins σ' H' s'/\RelV v u/\D.rt v H'
noncomputable def PE(X:Cx)(e:Expr)(t:TE):Prop:=
 ∀(pins:List (Addr×Obj)) (s:Shared) (σ:St) (H:Hp) (Q:VK),Inv X pins σ H s->t σ H Q->wpAny X.w.4 X.A (eval e X.env) (EP X pins σ Q) X.xe s
noncomputable def PT(X:Cx)(e:Expr)(t:TT):Prop:=
 ∀(pins:List (Addr×Obj)) (s:Shared) (σ:St) (H:Hp) (Q:Bool->Hp->Prop),Inv X pins σ H s->t σ H Q->wpAny X.w.4 X.A (isTrue e X.env (eval e X.env)) (TP X pins σ Q) X.xe s
noncomputable def PW(X:Cx)(e:Expr)(t:TT):Prop:=
 ∀(whole:Sem Value) (pins:List (Addr×Obj)) (s:Shared) (σ:St) (H:Hp) (Q:Bool->Hp->Prop),Inv X pins σ H s->t σ H Q->wpAny X.w.4 X.A (isTrue e X.env whole) (TP X pins σ Q) X.xe s
noncomputable def PA(X:Cx)(es:List Expr)(t:TA):Prop:=
 ∀(pos:Pos) (pins:List (Addr×Obj)) (s:Shared) (σ:St) (H:Hp) (Q:List V->Hp->Prop),Inv X pins σ H s->t σ H Q->wpAny X.w.4 X.A (spliced (bb pos (starEach es X.env))) (AP X pins σ Q) X.xe s
noncomputable def PS(X:Cx)(st:Stmt)(t:TS):Prop:=
 ∀(pins:List (Addr×Obj)) (s:Shared) (σ:St) (H:Hp) (D:Ends),Inv X pins σ H s->t D σ H->wpAny X.w.4 X.A (exec st X.env) (SP X pins D) X.xe s
noncomputable def PSs(X:Cx)(st:List Stmt)(t:TS):Prop:=
 ∀(pins:List (Addr×Obj)) (s:Shared) (σ:St) (H:Hp) (D:Ends),Inv X pins σ H s->t D σ H->wpAny X.w.4 X.A (execs st X.env) (SP X pins D) X.xe s
theorem thn{α:Type}{t:Sem α}{Q Q':α->Shared->Prop}{M:Model}{E:Value->Shared->Prop}(h:wpAny M A t Q E s)(hQ:∀a s,Q a s->Q' a s):wpAny M A t Q' E s:=x6 h hQ λ_ _ x=>x
end L2
variable {σ:L2.St}{X:L2.Cx}{te:L2.TE}{ta:L2.TA}{r:L2.V->List L2.V->L2.Hp->L2.VK->Prop}{tt:L2.TT}
namespace L2
open PySem PySem.Spec PyProof.Rows
section
noncomputable def tVar(i:Nat):TE:=λσ H Q=>∃v,σ[i]?=some (some v)/\Q v H
noncomputable def tC(v:V):TE:=λ_ H Q=>Q v H
theorem aNG{pos:Pos}(hN:X.N[i]?=some x)(hv:Vis X.env.scope x)(hd:(x==("__debug__" : Str))=false:=by decide)(hcd:(x==("__classdict__" : Str))=false:=by decide):PE X (.Name x pos) (tVar i):=by
 intro pins s σ H Q I h
 obtain⟨v,e,h⟩:=h
 obtain⟨m,f,hl⟩:=I.loc
 obtain⟨u,r,l⟩:=hl i x v hN e hv
 have fin:EP X pins σ Q u s:=⟨v,H,I,r,h⟩
 rcases l with ⟨b,hm⟩|⟨b,c,d,a⟩
 ·exact JJ (wpAny_loadName_local I.ok.kind b f hm fin) hd
 ·rcases b with b|b
  ·exact JJ (wpAny_loadName_cell I.ok.kind b d a fin) hd
  ·exact JJ (wpAny_loadName_free I.ok.kind b d a fin hcd) hd
theorem aMP{i j pos}:PE X (.Constant (.int i) j pos) (tC (.int i)):=λ_ _ _ H _ I h=>wpAny_Constant_int ⟨.int i,H,I.tok _,⟨_,rfl⟩,h⟩
theorem aPH{b j pos}:PE X (.Constant (.bool b) j pos) (tC (.bl b)):=λ_ _ _ H _ I h=>Constant_bool ⟨.bl b,H,I,rfl,h⟩
theorem aNH{j pos}:PE X (.Constant .none j pos) (tC .non):=λ_ _ _ H _ I h=>Constant_none ⟨.non,H,I,rfl,h⟩
theorem aMQ{x j pos}:PE X (.Constant (.str x) j pos) (tC (.str x)):=λ_ _ _ H _ I h=>Calls.Constant_str ⟨.str x,H,I.tok _,⟨_,rfl⟩,h⟩
noncomputable def Gl(X:Cx)(x:Str):Prop:=X.env.kindOf x=some .globalImplicit
theorem aBG{E:Value->Shared->Prop}{pos:Pos}{Q:Value->Shared->Prop}(I:Inv X pins σ H s)(hg:Gl X x)(hm:X.mg x=some u)(h:Q u s)(hd:(x==("__debug__" : Str))=false:=by decide):wpAny X.w.4 X.A (eval (.Name x pos) X.env) Q E s:=
 h9 I.ok.kind hg (Calls.loadGlobal_global (by rw[I.ok.glob];exact I.mod.glob.keeps I.bk) hm h) hd
theorem l7{E:Value->Shared->Prop}{pos:Pos}{Q:Value->Shared->Prop}(I:Inv X pins σ H s)(hg:Gl X x)(hm:X.mg x=none)(hv:kf x=some u)(h:Q u s)(hn:x ≠ "__name__" := by decide)(hd:(x==("__debug__" : Str))=false:=by decide):wpAny X.w.4 X.A (eval (.Name x pos) X.env) Q E s:=by
 obtain⟨c,a,b⟩:=I.mod.blt
 exact h9 I.ok.kind hg (Calls.loadGlobal_builtin (by rw[I.ok.glob];exact I.mod.glob.keeps I.bk) hm (by rw[I.ok.blt];exact a.keeps I.bk) ((b x hn).trans hv) h) hd
theorem aL4{pos:Pos}(hg:Gl X x)(hm:X.mg x=some u)(r:RelV v u)(hd:(x==("__debug__" : Str))=false:=by decide):PE X (.Name x pos) (tC v):=
 λ_ _ _ H _ I h=>aBG I hg hm ⟨v,H,I,r,h⟩ hd
variable {a:Expr}{ta tb:TE}
noncomputable def tB(t:TE):TT:=λσ H Q=>t σ H λx H1=>∃c,x = .bl c/\Q c H1
theorem aM3{t:TE}(h:PE X e t)(he:∀whole,isTrue e X.env whole=(do let v <- whole;lg e.pos;bc [v] (KZ v)):=by intro _;rfl):PT X e (tB t):=by
 intro pins s σ H Q I hw
 refine isTrue_plain (thn (h pins s σ H _ I hw) λv s1 ⟨x,H1,I1,r1,a⟩ => ?_) (he _)
 obtain⟨d,rfl,q⟩:=a
 cases r1
 exact yo ⟨H1,I1,q⟩
variable {tA tB':TT}{rest:List Expr}
noncomputable def tAnd(t u:TT):TT:=λσ H Q=>t σ H λc H1=>if c=true then u σ H1 Q else Q false H1
noncomputable def tOr(t u:TT):TT:=λσ H Q=>t σ H λc H1=>if c=true then Q true H1 else u σ H1 Q
noncomputable def tNot(t:TT):TT:=λσ H Q=>t σ H λc H1=>Q (!c) H1
theorem aKN(ha:PT X a tA):PW X (.BoolOp .And [a] pos) tA:=by
 intro b pins s σ H Q I h
 refine isTrue_and (thn (ha pins s σ H Q I h) λc s1 e => ?_)
 cases c with
 |true=>exact isTrue_and_nil e
 |false=>exact e
theorem aNK(ha:PT X a tA):PW X (.BoolOp .Or [a] pos) tA:=by
 intro b pins s σ H Q I h
 refine isTrue_or (thn (ha pins s σ H Q I h) λc s1 e => ?_)
 cases c with
 |false=>exact isTrue_or_nil e
 |true=>exact e
theorem aNB(ha:PT X a tA)(hb:PW X (.BoolOp .And (b::rest) pos) tB'):PW X (.BoolOp .And (a::b::rest) pos) (tAnd tA tB'):=by
 intro e pins s σ H Q I h
 refine isTrue_and (thn (ha pins s σ H _ I h) λc s1 ⟨H1,I1,d⟩ => ?_)
 cases c with
 |true=>exact hb e pins s1 σ H1 Q I1 d
 |false=>exact⟨H1,I1,d⟩
theorem aPL(ha:PT X a tA)(hb:PW X (.BoolOp .Or (b::rest) pos) tB'):PW X (.BoolOp .Or (a::b::rest) pos) (tOr tA tB'):=by
 intro e pins s σ H Q I h
 refine isTrue_or (thn (ha pins s σ H _ I h) λc s1 ⟨H1,I1,d⟩ => ?_)
 cases c with
 |true=>exact⟨H1,I1,d⟩
 |false=>exact hb e pins s1 σ H1 Q I1 d
theorem aMJ(ha:PT X a tA):PT X (.UnaryOp .Not a pos) (tNot tA):=by
 intro pins s σ H Q I h
 exact isTrue_not (ha pins s σ H (λc H1=>Q (!c) H1) I h)
noncomputable def aOW(ta tb:TE):TE:=λσ H Q=>ta σ H λx H1=>∃c,x = .bl c/\if c=true then tb σ H1 Q else Q (.bl false) H1
noncomputable def tOrV(ta tb:TE):TE:=λσ H Q=>ta σ H λx H1=>∃c,x = .bl c/\if c=true then Q (.bl true) H1 else tb σ H1 Q
noncomputable def aPG(ta:TE):TE:=λσ H Q=>ta σ H λx H1=>∃c,x = .bl c/\Q (.bl (!c)) H1
theorem aOB{op}{t:TE}(h:PE X a t):PE X (.BoolOp op [a] pos) t:=λpins s σ H Q I hw=>BoolOp_one (h pins s σ H Q I hw)
theorem aMY(ha:PE X a ta)(hb:PE X (.BoolOp .And (b::rest) pos) tb):PE X (.BoolOp .And (a::b::rest) pos) (aOW ta tb):=by
 intro pins s σ H Q I h
 refine BoolOp_and (thn (ha pins s σ H _ I h) λv s1 ⟨x,H1,I1,r1,d⟩ => ?_)
 obtain⟨c,rfl,d⟩:=d
 cases r1
 refine yo ?_
 cases c with
 |true=>exact hb pins s1 σ H1 Q I1 d
 |false=>exact⟨.bl false,H1,I1,rfl,d⟩
theorem aO4(ha:PE X a ta)(hb:PE X (.BoolOp .Or (b::rest) pos) tb):PE X (.BoolOp .Or (a::b::rest) pos) (tOrV ta tb):=by
 intro pins s σ H Q I h
 refine BoolOp_or (thn (ha pins s σ H _ I h) λv s1 ⟨x,H1,I1,r1,d⟩ => ?_)
 obtain⟨c,rfl,d⟩:=d
 cases r1
 refine yo ?_
 cases c with
 |false=>exact hb pins s1 σ H1 Q I1 d
 |true=>exact⟨.bl true,H1,I1,rfl,d⟩
theorem aNX(ha:PE X a ta):PE X (.UnaryOp .Not a pos) (aPG ta):=by
 intro pins s σ H Q I h
 refine UnaryOp_ (thn (ha pins s σ H _ I h) λv s1 ⟨x,H1,I1,r1,b⟩ => ?_)
 obtain⟨c,rfl,b⟩:=b
 cases r1
 exact not_of (yo ⟨.bl (!c),H1,I1,rfl,b⟩)
noncomputable def tIf(t:TT)(ta tb:TE):TE:=λσ H Q=>t σ H λc H1=>if c=true then ta σ H1 Q else tb σ H1 Q
theorem aHQ(hc:PT X c tA)(ha:PE X a ta)(hb:PE X b tb):PE X (.IfExp c a b pos) (tIf tA ta tb):=by
 intro pins s σ H Q I h
 refine wpAny_IfExp (thn (hc pins s σ H _ I h) λd s1 ⟨H1,I1,e⟩ => ?_)
 cases d with
 |true=>exact ha pins s1 σ H1 Q I1 e
 |false=>exact hb pins s1 σ H1 Q I1 e
end
end L2
namespace L2
open PySem PySem.Spec PyProof.Rows
noncomputable def SqL(K:qe)(H:Hp)(a:Addr)(xs:List V):Prop:=
 Rd H a (.lst xs) \/
  ∃(o:Obj) (its:Array Value) (n:Nat),K.lookup a=some o/\o.cls = .type "list" /\ o.dict=none/\o.data = .seq its n/\its.size<=sizeLine/\Vals xs its.toList
noncomputable def SqT(K:qe)(H:Hp)(a:Addr)(xs:List V):Prop:=
 Rd H a (.tup xs) \/
  ∃(o:Obj) (its:Array Value) (n:Nat),K.lookup a=some o/\o.cls = .type "tuple" /\ o.data = .seq its n/\its.size<=sizeLine/\Vals xs its.toList
noncomputable def absV:Value->Option V
 |.none=>some .non
 |.bool b=>some (.bl b)
 |.int i _=>some (.int i)
 |.str x _=>some (.str x)
 |.bytes b _=>some (.byt b)
 |.float b _=>some (.flt b)
 |.ref a=>some (.ref a)
 |.type n=>some (.ty n)
 |_=>none
theorem RelV.abs{x:V}(r:RelV x u):absV u=some x:=by
 cases x with
 |non=>cases r;rfl
 |bl _=>cases r;rfl
 |int _=>obtain⟨t,rfl⟩:=r;rfl
 |str _=>obtain⟨t,rfl⟩:=r;rfl
 |byt _=>obtain⟨t,rfl⟩:=r;rfl
 |flt _=>obtain⟨t,rfl⟩:=r;rfl
 |ref _=>cases r;rfl
 |ty _=>cases r;rfl
theorem RelV.inj{x y:V}(r:RelV x u)(q:RelV y u):x=y:=qz (r.abs.symm.trans q.abs)
theorem Vals.inj:∀{xs ys:List V}{us:List Value},Vals xs us->Vals ys us->xs=ys
 |_,_,_, .nil, .nil=>rfl
 |_,_,_, .cons r t, .cons r' t'=>by rw[r.inj r',Vals.inj t t']
section
variable {xs ys:List V}
theorem SqL.of{K:qe}(h:H a=some (.lst xs)):SqL K H a xs := .inl (.inl h)
theorem SqT.of{K:qe}(h:H a=some (.tup xs)):SqT K H a xs := .inl (.inl h)
theorem Inv.list(I:Inv X pins σ H s)(h:SqL X.K H a xs):∃its:List Value,Vals xs its/\PlainL s.heap a its.toArray/\xs.length<=sizeLine:=by
 rcases h with h|⟨o,its,n,d,b,hd,c,f,r⟩
 ·obtain⟨z,its,n,r,e⟩:=h.ok I.hok
  exact⟨its,r,⟨_,n,e,rfl,rfl,rfl⟩,z⟩
 ·refine⟨its.toList,r,⟨o,n,I.kIn a o d,b,hd,by simpa using c⟩,?_⟩
  have e:=r.length
  simp only[jj] at e
  omega
theorem Inv.tuple(I:Inv X pins σ H s)(h:SqT X.K H a xs):∃its:List Value,Vals xs its/\IsTup s.heap a its.toArray/\xs.length<=sizeLine:=by
 rcases h with h|⟨o,its,n,d,b,c,f,r⟩
 ·obtain⟨z,its,r,p⟩:=h.ok I.hok
  exact⟨its,r,p,z⟩
 ·refine⟨its.toList,r,⟨o,I.kIn a o d,b,n,by simpa using c⟩,?_⟩
  have e:=r.length
  simp only[jj] at e
  omega
theorem Inv.list_inj(I:Inv X pins σ H s)(h:SqL X.K H a xs)(h':SqL X.K H a ys):xs=ys:=by
 obtain⟨c,r,⟨o,n,e,_,_,d⟩,_⟩:=I.list h
 obtain⟨b,i,⟨j,k,f,_,_,g⟩,_⟩:=I.list h'
 rw[e] at f;cases f
 rw[d] at g
 injection g with d1 _
 have:c=b:=by simpa using congrArg JB d1
 subst this
 exact r.inj i
theorem Inv.tuple_inj(I:Inv X pins σ H s)(h:SqT X.K H a xs)(h':SqT X.K H a ys):xs=ys:=by
 obtain⟨c,r,⟨o,e,_,n,d⟩,_⟩:=I.tuple h
 obtain⟨b,i,⟨j,f,_,k,g⟩,_⟩:=I.tuple h'
 rw[e] at f;cases f
 rw[d] at g
 injection g with d1 _
 have:c=b:=by simpa using congrArg JB d1
 subst this
 exact r.inj i
end
abbrev Cx.wish(X:Cx)(E:Value->Shared->Prop):Cx:={X with xe:=E}
abbrev Cx.nox(X:Cx):Cx:=X.wish λ_ _=>False
theorem Cx.Ok.wish(ok:X.Ok)(E:Value->Shared->Prop):(X.wish E).Ok:=
 ⟨ok.mod,ok.kind,ok.glob,ok.blt,ok.above,ok.inj,ok.has,ok.cab,ok.hd,ok.frames,ok.stk,ok.exf,ok.bs,ok.bsz,ok.noex,ok.exfs,ok.funs,ok.frf⟩
theorem Cx.Ok.unwish{E:Value->Shared->Prop}(ok:(X.wish E).Ok):X.Ok:=
 ⟨ok.mod,ok.kind,ok.glob,ok.blt,ok.above,ok.inj,ok.has,ok.cab,ok.hd,ok.frames,ok.stk,ok.exf,ok.bs,ok.bsz,ok.noex,ok.exfs,ok.funs,ok.frf⟩
section
variable {E:Value->Shared->Prop}
theorem Inv.wish(I:Inv X pins σ H s)(E:Value->Shared->Prop):Inv (X.wish E) pins σ H s:=⟨I.ok.wish E,I.os,I.bare,I.base,I.loc,I.cell,I.free,I.freeC,I.pin,I.hok,I.len⟩
theorem Inv.unwish(I:Inv (X.wish E) pins σ H s):Inv X pins σ H s:=⟨I.ok.unwish,I.os,I.bare,I.base,I.loc,I.cell,I.free,I.freeC,I.pin,I.hok,I.len⟩
theorem SP.unwish{D:Ends}{f:Flow}(h:SP (X.wish E) pins D f s'):SP X pins D f s':=by
 cases f with
 |next=>obtain⟨σ',H',I,q⟩:=h;exact⟨σ',H',I.unwish,q⟩
 |brk=>obtain⟨σ',H',I,q⟩:=h;exact⟨σ',H',I.unwish,q⟩
 |cont=>obtain⟨σ',H',I,q⟩:=h;exact⟨σ',H',I.unwish,q⟩
 |ret u=>obtain⟨v,σ',H',I,r,q⟩:=h;exact⟨v,σ',H',I.unwish,r,q⟩
theorem PSs.nox{st:List Stmt}{t:TS}(h:PSs X.nox st t):PSs X st t:=λpins s σ H D I hw =>
 x6 (h pins s σ H D (I.wish _) hw) (λ_ _ q=>q.unwish) λ_ _ z=>yj z
end
section
variable {st:Stmt}{rest:List Stmt}{t u:TS}
noncomputable def aP2:TS:=λD σ H=>D.nx σ H
noncomputable def tSeq(t u:TS):TS:=λD σ H=>t {D with nx:=u D} σ H
theorem aLD:PSs X [] aP2:=λ_ _ σ H _ I h=>fb ⟨σ,H,I,h⟩
theorem aHO(h1:PS X st t)(h2:PSs X rest u):PSs X (st::rest) (tSeq t u):=by
 intro pins s σ H D I h
 refine Ka (thn (h1 pins s σ H {D with nx:=u D} I h) λf s1 q => ?_)
 cases f with
 |next =>
  obtain⟨σ',H',I',q⟩:=q
  exact h2 pins s1 σ' H' D I' q
 |ret v=>exact q
 |brk=>exact q
 |cont=>exact q
theorem aLI(h1:PS X st t):PSs X [st] t:=by
 intro pins s σ H D I h
 refine Ka (thn (h1 pins s σ H D I h) λf s1 q => ?_)
 cases f with
 |next=>exact fb q
 |ret v=>exact q
 |brk=>exact q
 |cont=>exact q
theorem Inv.quiet(I:Inv X pins σ H s):interactive X.env=false:=by simp[interactive,I.ok.kind]
noncomputable def aO7(te:TE):TS:=λD σ H=>te σ H λ_ H1=>D.nx σ H1
theorem aJS(he:PE X e te)(hs:bf e none pos.line X.env=pure false:=by rfl):PS X (.Expr e pos) (aO7 te):=by
 intro pins s σ H D I h
 exact wpAny_Expr_any (thn (he pins s σ H _ I h) λv s1 ⟨x,H1,I1,r1,a⟩=>⟨σ,H1,I1,a⟩) I.quiet hs
noncomputable def tRet(te:TE):TS:=λD σ H=>te σ H D.rt
theorem aNT(he:PE X e te):PS X (.Return (some e) pos) (tRet te):=by
 intro pins s σ H D I h
 exact wpAny_Return_some (thn (he pins s σ H _ I h) λv s1 ⟨x,H1,I1,r1,q1⟩=>⟨x,σ,H1,I1,r1,q1⟩)
noncomputable def tIfS(c:TT)(t u:TS):TS:=λD σ H=>c σ H λb H1=>if b=true then t D σ H1 else u D σ H1
theorem aPE{a b:List Stmt}{tc:TT}(hc:PT X c tc)(ha:PSs X a t)(hb:PSs X b u):PS X (.If c a b pos) (tIfS tc t u):=by
 intro pins s σ H D I h
 refine wpAny_If (thn (hc pins s σ H _ I h) λd s1 ⟨H1,I1,e⟩ => ?_)
 cases d with
 |true=>exact ha pins s1 σ H1 D I1 e
 |false=>exact hb pins s1 σ H1 D I1 e
end
abbrev TG:=V->St->Hp->(St->Hp->Prop)->Prop
abbrev TGs:=List V->St->Hp->(St->Hp->Prop)->Prop
noncomputable def PG(X:Cx)(target:Expr)(t:TG):Prop:=
 ∀(pins:List (Addr×Obj)) (s:Shared) (σ:St) (H:Hp) (v:V) (u:Value) (Q:St->Hp->Prop),Inv X pins σ H s->RelV v u->t v σ H Q ->
  wpAny X.w.4 X.A (assign target X.env u) (λ_ s'=>∃σ' H',Inv X pins σ' H' s'/\Q σ' H') X.xe s
noncomputable def PGs(X:Cx)(ts:List Expr)(t:TGs):Prop:=
 ∀(pins:List (Addr×Obj)) (s:Shared) (σ:St) (H:Hp) (vs:List V) (us:List Value) (Q:St->Hp->Prop),Inv X pins σ H s->Vals vs us->t vs σ H Q ->
  wpAny X.w.4 X.A (gz ((assignEach ts X.env).map (·.2)) us) (λ_ s'=>∃σ' H',Inv X pins σ' H' s'/\Q σ' H') X.xe s
abbrev TSet:=V->V->V->Hp->(Hp->Prop)->Prop
noncomputable def PSet(X:Cx)(t:TSet):Prop:=
 ∀(pins:List (Addr×Obj)) (s:Shared) (σ:St) (H:Hp) (o i v:V) (ov iv u:Value) (Q:Hp->Prop),Inv X pins σ H s->RelV o ov->RelV i iv->RelV v u->t o i v H Q ->
  wpAny X.w.4 X.A (K0 ov iv u) (λ_ s'=>∃H',Inv X pins σ H' s'/\Q H') X.xe s
section
noncomputable def kX(i:Nat):TG:=λv σ H Q=>Q (σ.set i (some v)) H
theorem mX(hN:X.N.Nodup)(hi:X.N[i]?=some x)(hx:Loc X.env.scope x)(hf:X.fn x=true\/X.env.scope.names.lookup x=some .local:=by first|exact .inl rfl|exact .inr rfl|assumption):PG X (.Name x pos) (kX i):=by
 intro pins s σ H v u Q I r h
 exact lq (nX I hN hi hx r (λa I'=>⟨_,H,I',h⟩) hf)
noncomputable def aGY:TGs:=λvs σ H Q=>vs=[]/\Q σ H
noncomputable def xK(t:TG)(u:TGs):TGs:=λvs σ H Q=>∃v r,vs=v::r/\t v σ H λσ' H'=>u r σ' H' Q
theorem vC:PGs X [] aGY:=by
 intro pins s σ H vs us Q I r h
 obtain⟨e,h⟩:=h
 subst e
 cases r
 exact JN ⟨σ,H,I,h⟩
theorem oR{t:TG}{u:TGs}(h1:PG X e t)(h2:PGs X es u)(hs:(assignEach (e::es) X.env).map (·.2)=assign e X.env::(assignEach es X.env).map (·.2):=by rfl):PGs X (e::es) (xK t u):=by
 intro pins s σ H vs us Q I r h
 obtain⟨v,c,a,h⟩:=h
 subst a
 cases r with
 |cons r rr =>
  rw[hs]
  refine gR (thn (h1 pins s σ H _ _ _ I r h) λ_ s1 ⟨σ1,H1,I1,b⟩ => ?_)
  exact h2 pins s1 σ1 H1 _ _ Q I1 rr b
noncomputable def aAB(K:qe)(n:Nat)(t:TGs):TG:=λv σ H Q=>∃a xs,v = .ref a/\SqT K H a xs/\xs.length=n/\t xs σ H Q
theorem zO{k:Nat}{t:TGs}(hc:X.calm=true)(h:PGs X es t)(hn:(assignEach es X.env).length=n:=by rfl)(hst:(assignEach es X.env).findIdx? (·.1)=none:=by rfl):PG X (.Tuple es k pos) (aAB X.K n t):=by
 intro pins s σ H v u Q I r hw
 obtain⟨a,xs,d,f,hl,hw⟩:=hw
 subst d
 cases r
 obtain⟨g,c,l,m⟩:=I.tuple f
 refine assign_Tuple_tuple (I.ok.hd hc) l (by simp[hn,<- hl,c.length]) hst λi j => ?_
 have I1:Inv X pins σ H {s with heap:=i}:=I.kept (t':=s.toks) λb o e=>j b o (qy (qt e)) e
 exact h pins _ σ H xs _ Q I1 (by simpa using c) hw
noncomputable def gSub(to ti:TE)(t:TSet):TG:=λv σ H Q=>to σ H λo H1=>ti σ H1 λi H2=>t o i v H2 λH3=>Q σ H3
theorem aFC{i:Expr}{to ti:TE}{t:TSet}(ho:PE X o to)(hi:PE X i ti)(hs:PSet X t)(ha:∀v,assign (.Subscript o i pos) X.env v=(do
   let ov <- bc [v] (eval o X.env)
   let iv <- bc [v,ov] (eval i X.env)
   lg pos
   bc [v,ov,iv] (K0 ov iv v)
   release [v,ov,iv] []):=by intro _;rfl):PG X (.Subscript o i pos) (gSub to ti t):=by
 intro pins s σ H v u Q I r h
 rw[ha]
 refine qa (xj (thn (ho pins s σ H _ I h) λov s1 ⟨x,H1,I1,r1,c⟩ => ?_))
 refine qa (xj (thn (hi pins s1 σ H1 _ I1 c) λiv s2 ⟨y,H2,I2,r2,a⟩ => ?_))
 refine qa (zv (qa (xj (thn (hs pins s2 σ H2 x y v ov iv u _ I2 r1 r2 r a) λ_ s3 ⟨H3,I3,b⟩ => ?_))))
 exact wpAny_release ⟨σ,H3,I3,b⟩
noncomputable def zY(te:TE)(g:TG):TS:=λD σ H=>te σ H λx H1=>g x σ H1 D.nx
theorem aNJ{g:TG}(he:PE X e te)(hg:PG X tg g)(hs:gw [tg] e pos.line X.env=pure false:=by rfl)(hw:gy [tg] e X.env=pure none:=by rfl)(h1:(assignEach [tg] X.env).map (·.2)=[assign tg X.env]:=by rfl):PS X (.Assign [tg] e pos) (zY te g):=by
 intro pins s σ H D I h
 refine wpAny_Assign_stores (thn (he pins s σ H _ I h) λv s1 ⟨x,H1,I1,r1,a⟩ => ?_) hs hw
 rw[h1]
 exact thn (hg pins s1 σ H1 x v _ I1 r1 a) λ_ s2 q=>q
theorem aOG(hN:X.N.Nodup)(hi:X.N[i]?=some x)(hx:Loc X.env.scope x)(he:PE X e te)(hs:bf e (some (.Name x pos')) pos.line X.env=pure false:=by rfl)(hf:X.fn x=true\/X.env.scope.names.lookup x=some .local:=by first|exact .inl rfl|exact .inr rfl|assumption):
  PS X (.Assign [.Name x pos'] e pos) (zY te (kX i)):=by
 intro pins s σ H D I h
 refine wpAny_Assign_Name (thn (he pins s σ H _ I h) λv s1 ⟨y,H1,I1,r1,a⟩ => ?_) hs
 exact nX I1 hN hi hx r1 (λs2 I2=>⟨_,H1,I2,a⟩) hf
noncomputable def tPar(i j:Nat)(ta:TA):TS:=λD σ H=>ta σ H λvs H1=>∃v w,vs=[v,w]/\D.nx ((σ.set i (some v)).set j (some w)) H1
theorem aMF{a:Expr}{pt:Pos}{kt k2 pt2}(hc:X.calm=true)(hN:X.N.Nodup)(hi:X.N[i]?=some x)(hj:X.N[j]?=some y)(hij:i≠j)(hx:X.env.scope.names.lookup x=some .local)(hy:X.env.scope.names.lookup y=some .local)(ha:PA X [a,b] ta)(hw:gy [.Tuple [.Name x px, .Name y py] kt pt] (.Tuple [a,b] k2 pt2) X.env=pure (some [x,y]))(hs:gw [.Tuple [.Name x px, .Name y py] kt pt] (.Tuple [a,b] k2 pt2) pos.line X.env=pure false:=by rfl):
  PS X (.Assign [.Tuple [.Name x px, .Name y py] kt pt] (.Tuple [a,b] k2 pt2) pos) (tPar i j ta):=by
 intro pins s σ H D I h
 rw[exec_Assign_arm]
 refine qa (zv ?_)
 rw[hs]
 refine qa ?_.5
 rw[if_neg (by decide)]
 refine qa (Tuple_ (thn (ha _ pins s σ H _ I h) λus s1 ⟨vs,H1,I1,r1,g⟩ => ?_))
 obtain⟨v,w,l,g⟩:=g
 subst l
 obtain⟨c,d,rfl,m,f⟩:∃c d,us=[c,d]/\RelV v c/\RelV w d:=by
  cases r1 with
  |cons p q =>
   cases q with
   |cons p' q' =>
    cases q'
    exact⟨_,_,rfl,p,p'⟩
 refine j0 ?_ (by show 2<=sizeLine;decide)
 have I2:Inv X pins σ H1 {s1 with heap:=s1.heap.push {cls := .type "tuple", data := .seq [c,d].toArray} }:=I1.kept (t':=s1.toks) λb o e=>qc _ e
 rw[hw]
 refine qa ?_.5
 show wpAny X.w.4 X.A (do rule "assign.swapped-stores"; let items <- unpackItems (.ref s1.heap.objs.size) 2 none;gz [λv=>Jp X.env y v,λv=>Jp X.env x v] items.reverse;pure Vj) _ _ _
 refine qa (de (qa (unpackItems_tuple (items := #[c,d]) (I.ok.hd hc) (pd s1.heap _) λh' k => ?_)))
 have I3:=I2.kept (h':=h') (t':=s1.toks) λb o e=>k b o (qy (qt e)) e
 show wpAny _ _ (gz [λv=>Jp X.env y v,λv=>Jp X.env x v] [d,c] >>= λ_=>pure Vj) _ _ _
 refine qa (gR (Vd (nX I3 hN hj (.inl hy) f (λs2 I4 => ?_) (.inr hy))))
 refine gR (Vd (nX I4 hN hi (.inl hx) m (λs3 I5=>JN ?_.5) (.inr hx)))
 rw[List.set_comm _ _ (ya hij)] at I5
 exact⟨_,H1,I5,g⟩
end
section
noncomputable def aNE(c:TT)(tb:TS):TS:=λD σ H=>∃W:Nat->St->Hp->Prop,(∃m,W m σ H)/\∀m σ H,W m σ H ->
 c σ H λb H1=>if b=true then ∃N:St->Hp->Prop,(∀σ' H',N σ' H'->∃m',m'<m/\W m' σ' H')/\tb {D with nx:=N,ct:=N,bk:=D.nx} σ H1 else D.nx σ H1
theorem aIT{body:List Stmt}{tc:TT}{tb:TS}(hp:QA X.w.4 X.A X.env X.xe)(hc:PT X c tc)(hb:PSs X body tb):PS X (.While c body [] pos) (aNE tc tb):=by
 intro pins s σ H D I h
 obtain⟨W,⟨m0,m⟩,turn⟩:=h
 refine wpAny_While (codeAny_whileLoop (λn k=>∃σ' H',Inv X pins σ' H' k/\W n σ' H') ?_ m0 ⟨σ,H,I,m⟩)
 rintro n s1 ⟨σ1,H1,I1,l⟩
 refine yk hp (thn (hc pins s1 σ1 H1 _ I1 (turn n σ1 H1 l)) λb s2 ⟨H2,I2,a⟩ => ?_)
 cases b with
 |true =>
  obtain⟨N,j,a⟩:=a
  rw[if_pos rfl]
  refine yk hp (thn (hb pins s2 σ1 H2 _ I2 a) λf s3 d => ?_)
  cases f with
  |next =>
   obtain⟨σ3,H3,I3,i⟩:=d
   obtain⟨g,hm,e⟩:=j σ3 H3 i
   exact⟨g,hm,σ3,H3,I3,e⟩
  |cont =>
   obtain⟨σ3,H3,I3,i⟩:=d
   obtain⟨g,hm,e⟩:=j σ3 H3 i
   exact⟨g,hm,σ3,H3,I3,e⟩
  |brk=>exact d
  |ret v=>exact d
 |false =>
  rw[if_neg zBf]
  exact fb ⟨σ1,H2,I2,a⟩
end
structure It where
 go:Nat->Hp->Prop
 yld:Nat->Hp->V->Hp->Prop
 stop:Nat->Hp->Prop
noncomputable def mV(X:Cx)(pins:List (Addr×Obj))(H:Hp)(b:Addr):Prop:=
 H b=none/\b≠X.env.locals/\b∉X.fs/\(b∈X.ex\/X.s₀.heap.objs.size<=b)/\(∀x c,X.env.cells.lookup x=some c->c≠b)/\∀p∈X.pn++pins,p.1≠b
theorem Inv.fpOk{b:Addr}(I:Inv X pins σ H s)(hb:s.heap.objs.size<=b)(hn:H' b=none):mV X pins H' b:=by
 refine⟨hn,xt (q3 I.lt hb),I.nofs hb, .inr (jn I.sz hb),λx c e z => ?_,λp a z => ?_⟩
 ·obtain⟨v,q⟩:=I.cell x c e
  exact absurd (q3 q.lt (by rw[z];exact hb)) (xh _)
 ·exact absurd (q3 (qt (I.pin p a).1) (by rw[z];exact hb)) (xh _)
structure Turn(P:Program)(w:World)(K:qe)(tg:Expr)(J:It)(fp:List Addr)(it:Addr)(tn:Nat->Heap->Prop):Prop where
 mem:it∈fp
 obj:∀i h,tn i h->∀b∈fp,∃o,h.get? b=some o/\∀v,o.data ≠ .cell v
 keep:∀i h h',tn i h->(∀b∈fp,∀o,h.get? b=some o->h'.get? b=some o)->tn i h'
 item:∀(X:Cx),X.prog=P->X.w=w->X.K=K->X.calm=true->∀(i:Nat) (pins:List (Addr×Obj)) (s:Shared) (σ:St) (H:Hp) (E:Value->Shared->Prop),Inv X pins σ H s->(∀b∈fp,mV X pins H b)->tn i s.heap->J.go i H ->
  wpAny (jt P w) X.A (nt (.ref it)) (λr s1=>∃u,r=some u /\
   wpAny (jt P w) X.A (fc tg (.ref it) u) (λ_ s2=>∃x H',Inv X pins σ H' s2/\RelV x u/\J.yld i H x H'/\tn (i+1) s2.heap/\∀b∈fp,H' b=none) E s1) E s
 done:∀(X:Cx),X.prog=P->X.w=w->X.K=K->X.calm=true->∀(i:Nat) (pins:List (Addr×Obj)) (s:Shared) (σ:St) (H:Hp) (E:Value->Shared->Prop),Inv X pins σ H s->(∀b∈fp,mV X pins H b)->tn i s.heap->J.stop i H ->
  wpAny (jt P w) X.A (nt (.ref it)) (λr s1=>r=none/\Inv X pins σ H s1) E s
 self:∀(A:Around) (i:Nat) (s:Shared) (Q:Value->Shared->Prop) (E:Value->Shared->Prop),tn i s.heap->Q (.ref it) s->wpAny (jt P w) A (Jm (.ref it)) Q E s
abbrev TI:=St->Hp->(It->Hp->Prop)->Prop
noncomputable def PIE(X:Cx)(pins:List (Addr×Obj))(σ:St)(tg:Expr)(R:It->Hp->Prop)(itv:Value)(s2:Shared):Prop:=
 ∃(it:Addr) (fp:List Addr) (tn:Nat->Heap->Prop) (J:It) (H':Hp),itv = .ref it/\Inv X pins σ H' s2/\Turn X.prog X.w X.K tg J fp it tn/\tn 0 s2.heap/\(∀b∈fp,mV X pins H' b)/\R J H'
noncomputable def PI(X:Cx)(tg iter:Expr)(wi:TI):Prop:=
 ∀(pins:List (Addr×Obj)) (s:Shared) (σ:St) (H:Hp) (R:It->Hp->Prop),Inv X pins σ H s->wi σ H R ->
  wpAny X.w.4 X.A (eval iter X.env) (λv s1=>wpAny X.w.4 X.A (Jm v) (PIE X pins σ tg R) X.xe s1) X.xe s
theorem xS{M:Model}{E:Value->Shared->Prop}{o:Obj}{n:String}{vs:Array Value}{Q:Unit->Shared->Prop}(ho:s.heap.get? it=some o)(hc:o.cls = .type n)(hd:o.data = .fields vs)(hn:["enumerate", "zip", "dict_itemiterator", "dict_reverseitemiterator", "odict_iterator", "itertools.zip_longest", "itertools.pairwise"].contains n=false)(hQ:Q () s):wpAny M A (fc tg (.ref it) u) Q E s:=by
  unfold fc
  cases tg <;> first
    |exact wpAny_pure hQ
    | (cases u <;> first
        |exact wpAny_pure hQ
        | (refine qa (wpAny_load ho ?_)
           rw[hc,hd]
           show wpAny M A (if (["enumerate", "zip", "dict_itemiterator", "dict_reverseitemiterator", "odict_iterator", "itertools.zip_longest", "itertools.pairwise"].contains n&&vs[0]?==some (rawInt _))=true then _ else _) Q E s
           rw[if_neg (by intro h;rw[hn,ml] at h;cases h)]
           exact wpAny_pure hQ))
noncomputable def Itl(K:qe)(a:Addr):It:=
 ⟨λi H=>∃xs x,SqL K H a xs/\xs[i]?=some x,λi H x H'=>H'=H/\∀xs,SqL K H a xs->xs[i]?=some x,λi H=>∃xs,SqL K H a xs/\xs.length<=i⟩
noncomputable def Itt(K:qe)(a:Addr):It:=
 ⟨λi H=>∃xs x,SqT K H a xs/\xs[i]?=some x,λi H x H'=>H'=H/\∀xs,SqT K H a xs->xs[i]?=some x,λi H=>∃xs,SqT K H a xs/\xs.length<=i⟩
noncomputable def Itr(lo:Int)(n:Nat):It:=⟨λi _=>i<n,λi H x H'=>H'=H/\x = .int (lo+i),λi _=>n<=i⟩
theorem aGA{K:qe}(a it:Addr):Turn P w K tg (Itl K a) [it] it (λi h=>h.IsListIter it a i) where
 mem:=by simp
 obj:=λi h st b f=>by
  have e:b=it:=by simpa using f
  subst e
  obtain⟨o,e,c,d⟩:=st
  exact⟨o,e,λv z=>by rw[d] at z;cases z⟩
 keep:=λi h j st k=>st.at λo e=>k it '$' o e
 item:=by
  intro X A hw q C i pins s σ H E I hf st r
  subst A hw q
  obtain⟨xs,x,l,B⟩:=r
  obtain⟨n,y,p,L⟩:=I.list l
  obtain⟨u,M,J⟩:=y.get B
  obtain⟨f0,f1,f2,m,f4,t⟩:=hf it '$'
  refine wpAny_pyNext_list_item st p.isList (x:=u) (by simpa using M) λj g G => ?_
  have I1:Inv X pins σ H {s with heap:=j}:=I.turned (t':=s.toks) (λb o f e=>(G.2 b f).trans e) f0 f1 m f4 t
  obtain⟨o,e,c,d⟩:=id g
  exact⟨u,rfl,xS (s:={s with heap:=j}) e c d (by decide) ⟨x,H,I1,J,⟨rfl,λN D=>by rw[I.list_inj D l];exact B⟩,g,λb f=>(hf b f).1⟩⟩
 done:=by
  intro X A hw q C i pins s σ H E I hf st r
  subst A hw q
  obtain⟨xs,l,B⟩:=r
  obtain⟨n,y,p,L⟩:=I.list l
  obtain⟨f0,f1,f2,m,f4,t⟩:=hf it '$'
  have hl:=y.length
  exact wpAny_pyNext_list_end (I.ok.hd C) st p.isList (by simp;omega) λj F=>⟨rfl,I.turned (t':=s.toks) (λb o f e=>F b o f e) f0 f1 m f4 t⟩
 self:=λ_ _ _ _ _ st h=>wpAny_pyIter_listiter st h
theorem aCU{K:qe}(a it:Addr):Turn P w K tg (Itt K a) [it] it (λi h=>h.IsTupleIter it a i) where
 mem:=by simp
 obj:=λi h st b g=>by
  have e:b=it:=by simpa using g
  subst e
  obtain⟨o,e,c,d⟩:=st
  exact⟨o,e,λv z=>by rw[d] at z;cases z⟩
 keep:=λi h l st k=>st.at λo e=>k it '$' o e
 item:=by
  intro X A hw q C i pins s σ H E I hf st r
  subst A hw q
  obtain⟨xs,x,m,B⟩:=r
  obtain⟨f,y,p,L⟩:=I.tuple m
  obtain⟨u,M,J⟩:=y.get B
  obtain⟨f0,f1,f2,n,f4,t⟩:=hf it '$'
  refine wpAny_pyNext_tuple_item st (show s.heap.IsTuple a f.toArray from p) (x:=u) (by simpa using M) λl j G => ?_
  have I1:Inv X pins σ H {s with heap:=l}:=I.turned (t':=s.toks) (λb o g e=>(G.2 b g).trans e) f0 f1 n f4 t
  obtain⟨o,e,c,d⟩:=id j
  exact⟨u,rfl,xS (s:={s with heap:=l}) e c d (by decide) ⟨x,H,I1,J,⟨rfl,λN D=>by rw[I.tuple_inj D m];exact B⟩,j,λb g=>(hf b g).1⟩⟩
 done:=by
  intro X A hw q C i pins s σ H E I hf st r
  subst A hw q
  obtain⟨xs,m,B⟩:=r
  obtain⟨f,y,p,L⟩:=I.tuple m
  obtain⟨f0,f1,f2,n,f4,t⟩:=hf it '$'
  have hl:=y.length
  exact wpAny_pyNext_tuple_end (I.ok.hd C) st (show s.heap.IsTuple a f.toArray from p) (by simp;omega) λl F=>⟨rfl,I.turned (t':=s.toks) (λb o g e=>F b o g e) f0 f1 n f4 t⟩
 self:=λ_ _ _ _ _ st h=>wpAny_pyIter_tupleiter st h
theorem aCO{K:qe}(it:Addr)(lo:Int)(n:Nat):Turn P w K tg (Itr lo n) [it] it (λi h=>IsRangeIter h it (lo+(i:Nat)*1) ((n:Int)-(i:Nat)) 1) where
 mem:=by simp
 obj:=λi h st b a=>by
  have e:b=it:=by simpa using a
  subst e
  exact⟨_,st,λv z=>by
   have x:Data.fields _=Data.cell v:=z
   cases x⟩
 keep:=λi h d st k=>k it '$' _ st
 item:=by
  intro X l hw m g i pins s σ H E I hf st p
  subst l hw m
  obtain⟨f0,f1,f2,f,f4,j⟩:=hf it '$'
  have W:=Walks.range (prog:=X.prog) (w:=X.w) (I.ok.hd g) it lo 1 n
  refine W.item i s _ _ p st λv d tk q c r => ?_
  obtain⟨t,rfl⟩:=q
  have I1:Inv X pins σ H {s with heap:=d,toks:=tk}:=I.turned (λb o a e=>r b o (by simpa using a) e) f0 f1 f f4 j
  refine⟨_,rfl,xS (s:={s with heap:=d,toks:=tk}) (n := "range_iterator") c rfl rfl (by decide) ⟨.int (lo+i),H,I1,⟨t,?_⟩,⟨rfl,rfl⟩,c,λb a=>(hf b a).1⟩⟩
  rw[Int.mul_one]
 done:=by
  intro X l hw m g i pins s σ H E I hf st p
  subst l hw m
  obtain⟨f0,f1,f2,f,f4,j⟩:=hf it '$'
  exact wpAny_pyNext_range_end (I.ok.hd g) st (by have:n<=i:=p;omega) λd u=>⟨rfl,I.turned (t':=s.toks) (λb o a e=>u b o a e) f0 f1 f f4 j⟩
 self:=λ_ _ _ _ _ st h=>wpAny_pyIter_rangeiter st h
end L2
variable {wi:L2.TI}
namespace L2
open PySem PySem.Spec PyProof.Rows
section
theorem zV{R:It->Hp->Prop}{E:Value->Shared->Prop}{lo hi:Int}{t u v:Tok}{tk:Nat}(I:Inv X pins σ H s)(h1 : -(2^62)<=lo)(h2:lo<2^62)(h3 : -(2^62)<=hi)(h4:hi<2^62)(q:R (Itr lo (hi-lo).toNat) H):wpAny X.w.4 X.A (Jm (.ref s.heap.objs.size)) (PIE X pins σ tg R) E {s with heap:=s.heap.push {cls := .type "range", data := .fields #[.int lo t, .int hi u, .int 1 v]},toks:=tk}:=by
 refine wpAny_pyIter_range (IsRange.new ..) (small_one h1 h2 h3 h4) ?_
 have I1:Inv X pins σ H {s with heap:=s.heap.push {cls := .type "range", data := .fields #[.int lo t, .int hi u, .int 1 v]},toks:=tk}:=I.kept λb o e=>qc _ e
 refine⟨(s.heap.push {cls := .type "range", data := .fields #[.int lo t, .int hi u, .int 1 v]}).objs.size,[(s.heap.push {cls := .type "range", data := .fields #[.int lo t, .int hi u, .int 1 v]}).objs.size],_,_,H,rfl,
  I1.kept (t':=tk) λb o e=>qc _ e,aCO _ lo (hi-lo).toNat,?_,λb d => ?_,q⟩
 ·have a:lo+((0:Nat):Int)*1=lo:=by simp
  have c:(((hi-lo).toNat:Nat):Int)-((0:Nat):Int)=J8 lo hi 1:=by rw[rangeSize_one];split <;> omega
  show IsRangeIter _ _ (lo+((0:Nat):Int)*1) ((((hi-lo).toNat:Nat):Int)-((0:Nat):Int)) 1
  rw[a,c]
  exact qu _ rfl
 ·have e:b=(s.heap.push {cls := .type "range", data := .fields #[.int lo t, .int hi u, .int 1 v]}).objs.size:=by simpa using d
  subst e
  exact I1.fpOk (ql _) (I1.hok.fresh (ql _))
noncomputable def aPI(ta:TA):TI:=λσ H R=>ta σ H λvs H1=>∃j:Int,vs=[.int j] /\ -(2^62)<=j/\j<2^62/\R (Itr 0 j.toNat) H1
noncomputable def aOX(ta:TA):TI:=λσ H R=>ta σ H λvs H1=>∃i j:Int,vs=[.int i, .int j]/\(-(2^62)<=i/\i<2^62 /\ -(2^62)<=j/\j<2^62)/\R (Itr i (j-i).toNat) H1
theorem aE6{a:Expr}{p:Pos}(hg:Gl X "range")(hm:X.mg "range" = none)(ha:PA X [a] ta)(hs:starEach [a] X.env=[(false,eval a X.env)]:=by rfl):PI X tg (.Call (.Name "range" p) [a] [] pos) (aPI ta):=by
 intro pins s σ H R I h
 refine Call_ (l7 I hg hm boot_range (vk (thn (ha pos pins s σ H _ I h) λus s1 ⟨vs,H1,I1,r1,b⟩ => ?_) hs rfl))
 obtain⟨j,e,b,c,q⟩:=b
 subst e
 cases r1 with
 |cons r rr =>
  cases rr
  obtain⟨t,rfl⟩:=r
  exact call_range_1 (zV I1 '!' '!' b c (by simpa using q))
theorem aEU{a:Expr}{p:Pos}(hg:Gl X "range")(hm:X.mg "range" = none)(ha:PA X [a,b] ta)(hs:starEach [a,b] X.env=[(false,eval a X.env),(false,eval b X.env)]:=by rfl)(hs2:starEach [b] X.env=[(false,eval b X.env)]:=by rfl):
  PI X tg (.Call (.Name "range" p) [a,b] [] pos) (aOX ta):=by
 intro pins s σ H R I h
 refine Call_ (l7 I hg hm boot_range (vk (thn (ha pos pins s σ H _ I h) λus s1 ⟨vs,H1,I1,r1,c⟩ => ?_) (by rw[hs,hs2]) (by rw[hs2];rfl)))
 obtain⟨i,j,e,⟨c,f,g,d⟩,q⟩:=c
 subst e
 cases r1 with
 |cons r rr =>
  cases rr with
  |cons r' rr =>
   cases rr
   obtain⟨t,rfl⟩:=r
   obtain⟨k,rfl⟩:=r'
   exact call_range_2 (zV I1 c f g d q)
noncomputable def tFor(wi:TI)(g:TG)(tb:TS):TS:=λD σ H=>wi σ H λJ H1=>∃W:Nat->Nat->St->Hp->Prop,(∃m,W 0 m σ H1)/\∀i m σ H,W i m σ H ->
 (J.stop i H/\D.nx σ H)\/(J.go i H/\∃N:St->Hp->Prop,(∀σ' H',N σ' H'->∃m',m'<m/\W (i+1) m' σ' H')/\∀x H',J.yld i H x H'->g x σ H' λσ2 H2=>tb {D with nx:=N,ct:=N,bk:=D.nx} σ2 H2)
noncomputable def pB(fp:List Addr)(h:Heap):List (Addr×Obj):=fp.filterMap λb=>(h.get? b).map λo=>(b,o)
theorem k7{b:Addr}{o:Obj}(hb:b∈fp)(e:h.get? b=some o):(b,o)∈pB fp h:=kz.mpr ⟨b,hb,by rw[e];rfl⟩
theorem aD5{p:Addr×Obj}(hp:p∈pB fp h):p.1∈fp/\h.get? p.1=some p.2:=by
 obtain⟨b,c,e⟩:=kz.mp hp
 cases q:h.get? b with
 |none=>rw[q] at e;cases e
 |some o =>
  rw[q] at e
  have a:(b,o)=p:=qz e
  subst a
  exact⟨c,q⟩
theorem Inv.pinned(I:Inv X pins σ H s)(hf:∀b∈fp,mV X pins H b)(ho:∀b∈fp,∃o,s.heap.get? b=some o/\∀v,o.data ≠ .cell v):Inv X (pins++pB fp s.heap) σ H s:=
 I.pins_of λp f=>(q5.mp f).elim (λz=>I.pin p (qx _ z)) λz=>by
  obtain⟨c,e⟩:=aD5 z
  obtain⟨f0,f1,f2,_⟩:=hf p.1 c
  obtain⟨o,a,d⟩:=ho p.1 c
  rw[e] at a;cases a
  exact⟨e,f0,f1,f2,d⟩
theorem Inv.unpinned{pl:List (Addr×Obj)}(I:Inv X (pins++pl) σ H s):Inv X pins σ H s:=I.pins_of λp hp=>I.pin p (qx _ (q6 _ hp))
theorem aMO{body:List Stmt}{g:TG}{tb:TS}(hp:QA X.w.4 X.A X.env X.xe)(hc:X.calm=true)(hi:PI X tg iter wi)(hg:PG X tg g)(hb:PSs X body tb)(hs:∀x,foldedSetIterable iter X.env x=pure x:=by intro _;rfl):PS X (.For tg iter body [] pos) (tFor wi g tb):=by
 intro pins s σ H D I h
 refine wpAny_For (thn (hi pins s σ H _ I h) λv s1 Y=>thn Y λM s2 S => ?_) hs
 obtain⟨it,l,B,J,H2,e,I2,T,q,f2,W,⟨m0,R⟩,turn⟩:=S
 subst e
 -- what stays true of the iterator's objects through the loop
 have stat:∀{H':Hp},(∀b∈l,H' b=none)->∀b∈l,mV X pins H' b:=λV b hb=>⟨V b hb,(f2 b hb).2⟩
 refine codeAny_forLoop_any (λn C=>∃i σ' H',Inv X pins σ' H' C/\B i C.heap/\(∀b∈l,H' b=none)/\W i n σ' H') ?_ m0 ⟨0,σ,H2,I2,q,λb hb=>(f2 b hb).1,R⟩
 rintro n s3 ⟨i,σ3,H3,I3,k,p,w3⟩
 rcases turn i n σ3 H3 w3 with ⟨stop,U⟩|⟨go,N,E,step⟩
 ·refine yk hp (thn (T.done X rfl rfl rfl hc i pins s3 σ3 H3 X.xe I3 (stat p) k stop) λr s4 ⟨z,I4⟩ => ?_)
  subst z
  exact fb ⟨σ3,H3,I4,U⟩
 ·refine yk hp (thn (T.item X rfl rfl rfl hc i pins s3 σ3 H3 X.xe I3 (stat p) k go) λr s4 ⟨u,z,O⟩ => ?_)
  subst z
  refine yk hp (thn O λ_ s5 ⟨x,H5,I5,r5,Z,c,y⟩ => ?_)
  have I5':=I5.pinned (stat y) (T.obj _ _ c)
  refine yk hp (thn (hg _ s5 σ3 H5 x u _ I5' r5 (step x H5 Z)) λ_ G ⟨σ6,H6,I6,L⟩ => ?_)
  refine yk hp (thn (hb _ G σ6 H6 _ I6 L) λf t a => ?_)
  have again:∀{σ7:St}{H7:Hp},Inv X (pins++pB l s5.heap) σ7 H7 t->N σ7 H7->∃m,m<n/\∃i σ' H',Inv X pins σ' H' t/\B i t.heap/\(∀b∈l,H' b=none)/\W i m σ' H':=λ{σ7 H7} I7 j=>by
   obtain⟨K,hm,Q⟩:=E σ7 H7 j
   refine⟨K,hm,i+1,σ7,H7,I7.unpinned,T.keep _ _ _ c λb hb o e=>(I7.pin (b,o) (qx _ (qx _ (k7 hb e)))).1,λb hb => ?_,Q⟩
   obtain⟨o,e,d⟩:=T.obj _ _ c b hb
   exact (I7.pin (b,o) (qx _ (qx _ (k7 hb e)))).2.1
  cases f with
  |next=>obtain⟨σ7,H7,I7,j⟩:=a;exact again I7 j
  |cont=>obtain⟨σ7,H7,I7,j⟩:=a;exact again I7 j
  |brk=>obtain⟨σ7,H7,I7,a⟩:=a;exact⟨σ7,H7,I7.unpinned,a⟩
  |ret v=>obtain⟨P,σ7,H7,I7,F,a⟩:=a;exact⟨P,σ7,H7,I7.unpinned,F,a⟩
end
end L2
namespace L2
open PySem PySem.Spec PyProof.Rows
abbrev R2:=V->V->Hp->VK->Prop
noncomputable def OpR(X:Cx)(f:Value->Value->Sem Value)(r:R2):Prop:=
 ∀(pins:List (Addr×Obj)) (s:Shared) (σ:St) (H:Hp) (x y:V) (v u:Value) (Q:VK),Inv X pins σ H s->RelV x v->RelV y u->r x y H Q ->
  wpAny X.w.4 X.A (f v u) (EP X pins σ Q) X.xe s
noncomputable def UnR(X:Cx)(f:Value->Sem Value)(r:V->Hp->VK->Prop):Prop:=
 ∀(pins:List (Addr×Obj)) (s:Shared) (σ:St) (H:Hp) (x:V) (v:Value) (Q:VK),Inv X pins σ H s->RelV x v->r x H Q ->
  wpAny X.w.4 X.A (f v) (EP X pins σ Q) X.xe s
noncomputable def i7(X:Cx)(f:Value)(r:List V->Hp->VK->Prop):Prop:=
 ∀(pins:List (Addr×Obj)) (s:Shared) (σ:St) (H:Hp) (xs:List V) (us:List Value) (Q:VK),Inv X pins σ H s->Vals xs us->r xs H Q ->
  wpAny X.w.4 X.A (call f us) (EP X pins σ Q) X.xe s
noncomputable def TruR(X:Cx)(r:V->Hp->(Bool->Hp->Prop)->Prop):Prop:=
 ∀(pins:List (Addr×Obj)) (s:Shared) (σ:St) (H:Hp) (x:V) (v:Value) (Q:Bool->Hp->Prop),Inv X pins σ H s->RelV x v->r x H Q ->
  wpAny X.w.4 X.A (KZ v) (TP X pins σ Q) X.xe s
noncomputable def tOp(r:R2)(ta tb:TE):TE:=λσ H Q=>ta σ H λx H1=>tb σ H1 λy H2=>r x y H2 Q
noncomputable def tUn(r:V->Hp->VK->Prop)(ta:TE):TE:=λσ H Q=>ta σ H λx H1=>r x H1 Q
noncomputable def rI(C:Int->Int->Prop)(g:Int->Int->V):R2:=λx y H Q=>∃i j,x = .int i/\y = .int j/\C i j/\Q (g i j) H
noncomputable def rI0(g:Int->Int->V):R2:=λx y H Q=>∃i j,x = .int i/\y = .int j/\Q (g i j) H
noncomputable def rU(g:Int->V):V->Hp->VK->Prop:=λx H Q=>∃i,x = .int i/\Q (g i) H
section
variable {a:Expr}{ta tb tc:TE}
theorem aHL(ha:PE X a ta)(hb:PE X b tb){R:V->V->Hp->Prop}(I:Inv X pins σ H s)(h:ta σ H λx H1=>tb σ H1 λy H2=>R x y H2){Q:Value->Shared->Prop}{f:Value->Value->Sem Value}(hf:∀v u s2 x y H2,Inv X pins σ H2 s2->RelV x v->RelV y u->R x y H2->wpAny X.w.4 X.A (f v u) Q X.xe s2):
  wpAny X.w.4 X.A (eval a X.env) (λv s₁=>wpAny X.w.4 X.A (eval b X.env) (λu s₂=>wpAny X.w.4 X.A (f v u) Q X.xe s₂) X.xe s₁) X.xe s:=by
 refine thn (ha pins s σ H _ I h) λv s1 ⟨x,H1,I1,r1,d⟩ => ?_
 refine thn (hb pins s1 σ H1 _ I1 d) λu s2 ⟨y,H2,I2,r2,c⟩ => ?_
 exact hf v u s2 x y H2 I2 r1 r2 c
theorem aOO{op:gq}{r:R2}(ho:OpR X (we op) r)(ha:PE X a ta)(hb:PE X b tb):PE X (.BinOp a op b pos) (tOp r ta tb):=by
 intro pins s σ H Q I h
 exact wpAny_BinOp (aHL ha hb I h λv u s2 x y H2 I2 c d q=>ho pins s2 σ H2 x y v u Q I2 c d q)
theorem aP1{op:UnaryOp}{r:V->Hp->VK->Prop}(ho:UnR X (unaryOp op) r)(ha:PE X a ta):PE X (.UnaryOp op a pos) (tUn r ta):=by
 intro pins s σ H Q I h
 exact UnaryOp_ (thn (ha pins s σ H _ I h) λv s1 ⟨x,H1,I1,r1,b⟩=>ho pins s1 σ H1 x v Q I1 r1 b)
theorem opI{f:Value->Value->Sem Value}{C:Int->Int->Prop}{g:Int->Int->Int}(rule:∀(i j:Int) (t u:Tok) (s:Shared) (Q:Value->Shared->Prop) (E:Value->Shared->Prop),C i j->Q (.int (g i j) s.toks) {s with toks:=s.toks+1}->wpAny X.w.4 X.A (f (.int i t) (.int j u)) Q E s):
  OpR X f (rI C λi j => .int (g i j)):=by
 intro pins s σ H x y v u Q I d b h
 obtain⟨i,j,rfl,rfl,a,q⟩:=h
 obtain⟨t,rfl⟩:=d
 obtain⟨c,rfl⟩:=b
 exact rule i j t c s _ _ a ⟨.int (g i j),H,I.tok _,⟨_,rfl⟩,q⟩
theorem opI0{f:Value->Value->Sem Value}{g:Int->Int->Int}(rule:∀(i j:Int) (t u:Tok) (s:Shared) (Q:Value->Shared->Prop) (E:Value->Shared->Prop),Q (.int (g i j) s.toks) {s with toks:=s.toks+1}->wpAny X.w.4 X.A (f (.int i t) (.int j u)) Q E s):
  OpR X f (rI0 λi j => .int (g i j)):=by
 intro pins s σ H x y v u Q I a b h
 obtain⟨i,j,rfl,rfl,q⟩:=h
 obtain⟨t,rfl⟩:=a
 obtain⟨c,rfl⟩:=b
 exact rule i j t c s _ _ ⟨.int (g i j),H,I.tok _,⟨_,rfl⟩,q⟩
theorem aC6{f:Value->Value->Sem Value}{g:Int->Int->Bool}(rule:∀(i j:Int) (t u:Tok) (s:Shared) (Q:Value->Shared->Prop) (E:Value->Shared->Prop),Q (.bool (g i j)) s->wpAny X.w.4 X.A (f (.int i t) (.int j u)) Q E s):
  OpR X f (rI0 λi j => .bl (g i j)):=by
 intro pins s σ H x y v u Q I a b h
 obtain⟨i,j,rfl,rfl,q⟩:=h
 obtain⟨t,rfl⟩:=a
 obtain⟨c,rfl⟩:=b
 exact rule i j t c s _ _ ⟨.bl (g i j),H,I,rfl,q⟩
noncomputable def CDiv(i j:Int):Prop:=0<j/\j<1073741824
noncomputable def CPow(i j:Int):Prop:=0<=j/\j<=1000000/\i.natAbs<2^64
noncomputable def CMul(i j:Int):Prop:=(-(2^64)<i/\i<2^64)\/(-(2^64)<j/\j<2^64)
theorem CMul.ok{i j:Int}(h:CMul i j):IntMulOk i j:=by
 rcases h with ⟨h1,h2⟩|⟨h1,h2⟩
 ·exact .of_left (intBits_le_64 h1 h2)
 ·exact .of_right (intBits_le_64 h1 h2)
theorem gE:OpR X (we .Add) (rI0 λi j => .int (i+j)):=opI0 λ_ _ _ _ _ _ _ q=>add_int q
theorem tQ:OpR X (we .Sub) (rI0 λi j => .int (i-j)):=opI0 λ_ _ _ _ _ _ _ q=>sub_int q
theorem sZ:OpR X (we .Mult) (rI CMul λi j => .int (i*j)):=opI λ_ _ _ _ _ _ _ hc q=>mul_int q hc.ok
theorem aB2:OpR X (we .FloorDiv) (rI CDiv λi j => .int (i/j)):=opI λi j _ _ _ _ _ a q=>by
 have b:(0:Int)<j:=a.1
 have c:j<1073741824:=a.2
 exact floordiv_int '!' (by rw[zy i '!'];exact q) (.inl (PyProof.noPylong_small '!'))
theorem yW:OpR X (we .Mod) (rI (λ_ j=>0<j) λi j => .int (i%j)):=opI λi j _ _ _ _ _ a q=>by
 have b:(0:Int)<j:=a
 exact mod_int' '!' (by rw[Int.fmod_eq_emod_of_nonneg i '!'];exact q)
theorem aKQ:OpR X (we .Mod) (rI (λ_ j=>j≠0) λi j => .int (i.fmod j)):=opI λ_ _ _ _ _ _ _ hc q=>mod_int' hc q
theorem aNP:OpR X (we .Pow) (rI CPow λi j => .int (i^j.toNat)):=opI λ_ _ _ _ _ _ _ hc q=>pow_int_small hc.1 hc.2.1 hc.2.2 q
theorem unI{f:Value->Sem Value}{g:Int->Int}(rule:∀(i:Int) (t:Tok) (s:Shared) (Q:Value->Shared->Prop) (E:Value->Shared->Prop),Q (.int (g i) s.toks) {s with toks:=s.toks+1}->wpAny X.w.4 X.A (f (.int i t)) Q E s):
  UnR X f (rU λi => .int (g i)):=by
 intro pins s σ H x v Q I a h
 obtain⟨i,rfl,q⟩:=h
 obtain⟨t,rfl⟩:=a
 exact rule i t s _ _ ⟨.int (g i),H,I.tok _,⟨_,rfl⟩,q⟩
theorem aNI:UnR X (unaryOp .USub) (rU λi => .int (-i)):=unI λ_ _ _ _ _ q=>neg_int q
end
noncomputable def scal:V->V->Bool
 |.non, .non=>true|.non, .int _=>true|.int _, .non=>true|.non, .bl _=>true|.bl _, .non=>true|.non, .str _=>true|.str _, .non=>true
 |.int _, .int _=>true|.bl _, .bl _=>true|.str _, .str _=>true|.byt _, .byt _=>true
 |.int _, .str _=>true|.str _, .int _=>true|.bl _, .str _=>true|.str _, .bl _=>true
 |_,_=>false
noncomputable def rEq:R2:=λx y H Q=>scal x y=true/\Q (.bl (decide (x=y))) H
noncomputable def rNe:R2:=λx y H Q=>scal x y=true/\Q (.bl (!decide (x=y))) H
theorem aBS{i j:Int}:decide (V.int i=V.int j)=(i==j):=by
 rw[zl]
 simp
theorem aE7{i j:Bool}:decide (V.bl i=V.bl j)=(i==j):=by
 rw[zl]
 simp
theorem aCD{i j:Str}:decide (V.str i=V.str j)=(i==j):=by
 rw[zl]
 simp
theorem aBM{i j:Array UInt8}:decide (V.byt i=V.byt j)=(i.toList==j.toList):=by
 rw[zl]
 cases i
 cases j
 simp
section
variable {a:Expr}{ta tb tc:TE}
theorem bH{Q:VK}{k k':Bool}(I:Inv X pins σ H s)(q:Q (.bl k) H)(e:k=k'):EP X pins σ Q (.bool k') s:=by
 subst e
 exact⟨.bl k,H,I,rfl,q⟩
theorem oW:OpR X (wa .Eq) rEq:=by
 intro pins s σ H x y v u Q I d a h
 obtain⟨c,q⟩:=h
 cases x with
 |non =>
  cases d
  cases y with
  |non=>cases a;exact KI (bH I q '$')
  |bl j=>cases a;exact KL (bH I q '$')
  |int j=>obtain⟨b,rfl⟩:=a;exact KJ (bH I q '$')
  |str j=>obtain⟨b,rfl⟩:=a;exact KH (bH I q '$')
  |_=>exact absurd (show false=true from c) zBf
 |bl i =>
  cases d
  cases y with
  |non=>cases a;exact KN (bH I q '$')
  |bl j=>cases a;exact eq_bool (bH I q aE7)
  |str j=>obtain⟨b,rfl⟩:=a;exact J3 (bH I q '$')
  |_=>exact absurd (show false=true from c) zBf
 |int i =>
  obtain⟨t,rfl⟩:=d
  cases y with
  |non=>cases a;exact KM (bH I q '$')
  |int j=>obtain⟨b,rfl⟩:=a;exact eq_int (bH I q aBS)
  |str j=>obtain⟨b,rfl⟩:=a;exact J1 (bH I q '$')
  |_=>exact absurd (show false=true from c) zBf
 |str i =>
  obtain⟨t,rfl⟩:=d
  cases y with
  |non=>cases a;exact KG (bH I q '$')
  |bl j=>cases a;exact J0 (bH I q '$')
  |int j=>obtain⟨b,rfl⟩:=a;exact JZ (bH I q '$')
  |str j=>obtain⟨b,rfl⟩:=a;exact eq_str (bH I q aCD)
  |_=>exact absurd (show false=true from c) zBf
 |byt i =>
  obtain⟨t,rfl⟩:=d
  cases y with
  |byt j=>obtain⟨b,rfl⟩:=a;exact PySem.W.eq_bytes (bH I q aBM)
  |_=>exact absurd (show false=true from c) zBf
 |_=>cases y <;> exact absurd (show false=true from c) zBf
theorem oH:OpR X (wa .NotEq) rNe:=by
 intro pins s σ H x y v u Q I d a h
 obtain⟨c,q⟩:=h
 cases x with
 |non =>
  cases d
  cases y with
  |non=>cases a;exact KA (bH I q '$')
  |bl j=>cases a;exact KC (bH I q '$')
  |int j=>obtain⟨b,rfl⟩:=a;exact KB (bH I q '$')
  |str j=>obtain⟨b,rfl⟩:=a;exact Kz (bH I q '$')
  |_=>exact absurd (show false=true from c) zBf
 |bl i =>
  cases d
  cases y with
  |non=>cases a;exact KF (bH I q '$')
  |bl j=>cases a;exact ne_bool (bH I q (congrArg not aE7))
  |str j=>obtain⟨b,rfl⟩:=a;exact JY (bH I q '$')
  |_=>exact absurd (show false=true from c) zBf
 |int i =>
  obtain⟨t,rfl⟩:=d
  cases y with
  |non=>cases a;exact KD (bH I q '$')
  |int j=>obtain⟨b,rfl⟩:=a;exact ne_int (bH I q (congrArg not aBS))
  |str j=>obtain⟨b,rfl⟩:=a;exact JW (bH I q '$')
  |_=>exact absurd (show false=true from c) zBf
 |str i =>
  obtain⟨t,rfl⟩:=d
  cases y with
  |non=>cases a;exact Ky (bH I q '$')
  |bl j=>cases a;exact JV (bH I q '$')
  |int j=>obtain⟨b,rfl⟩:=a;exact JU (bH I q '$')
  |str j=>obtain⟨b,rfl⟩:=a;exact ne_str (bH I q (congrArg not aCD))
  |_=>exact absurd (show false=true from c) zBf
 |byt i =>
  obtain⟨t,rfl⟩:=d
  cases y with
  |byt j=>obtain⟨b,rfl⟩:=a;exact PySem.W.ne_bytes (bH I q (congrArg not aBM))
  |_=>exact absurd (show false=true from c) zBf
 |_=>cases y <;> exact absurd (show false=true from c) zBf
theorem aI8:OpR X (wa .Lt) (rI0 λi j => .bl (decide (i<j))):=aC6 λ_ _ _ _ _ _ _ q=>lt_int q
theorem aJA:OpR X (wa .LtE) (rI0 λi j => .bl (decide (i<=j))):=aC6 λ_ _ _ _ _ _ _ q=>le_int q
theorem aI4:OpR X (wa .Gt) (rI0 λi j => .bl (decide (j<i))):=aC6 λ_ _ _ _ _ _ _ q=>gt_int q
theorem aJD:OpR X (wa .GtE) (rI0 λi j => .bl (decide (j<=i))):=aC6 λ_ _ _ _ _ _ _ q=>ge_int q
theorem aKK:OpR X (wa .IsNot) (λx y H Q=>y = .non/\Q (.bl (!decide (x = .non))) H):=by
 intro pins s σ H x y v u Q I a b h
 obtain⟨rfl,q⟩:=h
 cases b
 refine isnot_none_gen (bH I q ?_)
 cases x <;> first
  | (cases a;rfl)
  | (obtain⟨t,rfl⟩:=a;rfl)
theorem nomark(b:Expr){op:JI}(h:op ≠ .In:=by decide)(h2:op ≠ .NotIn:=by decide):zw op b=false:=by
 have a:(op==CmpOp.In)=false:=by cases op <;> first|rfl|exact absurd rfl h
 have c:(op==CmpOp.NotIn)=false:=by cases op <;> first|rfl|exact absurd rfl h2
 cases b <;> simp[zw,a,c]
theorem aJR{op:JI}{r:R2}(ho:OpR X (wa op) r)(ha:PE X a ta)(hb:PE X b tb)(hm:zw op b=false):PE X (.Compare a [op] [b] pos) (tOp r ta tb):=by
 intro pins s σ H Q I h
 exact wpAny_Compare1 (aHL ha hb I h λv u s2 x y H2 I2 c d q=>ho pins s2 σ H2 x y v u Q I2 c d q) hm
noncomputable def aO2(t:TE):TT:=λσ H Q=>t σ H λx H'=>∃k,x = .bl k/\Q k H'
theorem aK1{op:JI}{r:R2}(ho:OpR X (wa op) r)(ha:PE X a ta)(hb:PE X b tb)(hm:zw op b=false):PT X (.Compare a [op] [b] pos) (aO2 (tOp r ta tb)):=by
 intro pins s σ H Q I h
 refine wpAny_isTrue_Compare1 (thn (ha pins s σ H _ I h) λv s1 ⟨x,H1,I1,r1,g⟩=>thn (hb pins s1 σ H1 _ I1 g) λu s2 ⟨y,H2,I2,r2,d⟩ =>
  thn (ho pins s2 σ H2 x y v u _ I2 r1 r2 d) λc s3 ⟨z,H3,I3,r3,k,e,f⟩ => ?_) hm
 subst e
 cases r3
 exact yo ⟨H3,I3,f⟩
noncomputable def TruV(K:qe)(x:V)(H:Hp)(k:Bool):Prop:=
 match x with
 |.non=>k=false
 |.bl b=>k=b
 |.int i=>k=(i != 0)
 |.str y=>y.length<=sizeLine/\k=((y.length:Int) != 0)
 |.byt y=>y.size<=sizeLine/\k=((y.size:Int) != 0)
 |.ref p=>(∃xs,SqL K H p xs/\k = !xs.isEmpty)\/(∃xs,SqT K H p xs/\k = !xs.isEmpty)\/∃kvs,H p=some (.dK kvs)/\k = !kvs.isEmpty
 |_=>False
theorem aCT{κ:Type}{kvs:List (κ×V)}{vs:List (κ×Value)}(r:KV kvs vs):(!vs.isEmpty) = !kvs.isEmpty:=by
 cases r <;> rfl
theorem tF{xs:List V}(r:Vals xs its):(!its.toArray.isEmpty) = !xs.isEmpty:=by
 cases r <;> simp
theorem line63:(sizeLine:Nat)<2^63:=by rw[fx];decide
theorem aOE:TruR X (λx H Q=>∃k,TruV X.K x H k/\Q k H):=by
 intro pins s σ H x v Q I d h
 obtain⟨k,e,q⟩:=h
 have hl:=line63
 have u:sizeLine=16777216:=fx
 cases x with
 |non =>
  cases d
  have a:k=false:=e
  subst a
  exact truthy_none ⟨H,I,q⟩
 |bl b =>
  cases d
  have a:k=b:=e
  subst a
  exact yo ⟨H,I,q⟩
 |int i =>
  obtain⟨t,rfl⟩:=d
  have a:k=(i != 0):=e
  subst a
  exact PySem.P.truthy_int ⟨H,I,q⟩
 |str y =>
  obtain⟨t,rfl⟩:=d
  obtain⟨n,a⟩:y.length<=sizeLine/\k=((y.length:Int) != 0):=e
  subst a
  exact PySem.P.truthy_str '!' ⟨H,I.tok _,q⟩
 |byt y =>
  obtain⟨t,rfl⟩:=d
  obtain⟨n,a⟩:y.size<=sizeLine/\k=((y.size:Int) != 0):=e
  subst a
  exact PySem.W.truthy_bytes '!' ⟨H,I.tok _,q⟩
 |ref p =>
  cases d
  have a:(∃xs,SqL X.K H p xs/\k = !xs.isEmpty)\/(∃xs,SqT X.K H p xs/\k = !xs.isEmpty)\/∃c,H p=some (.dK c)/\k = !c.isEmpty:=e
  rcases a with ⟨xs,f,a⟩|⟨xs,f,a⟩|⟨c,f,a⟩
  ·subst a
   obtain⟨g,r,j,l⟩:=I.list f
   have hlen:=r.length
   exact wpAny_truthy_list j.isList (by simp only[qb];omega) ⟨H,I.tok _,by rw[tF r];exact q⟩
  ·subst a
   obtain⟨g,r,j,l⟩:=I.tuple f
   have hlen:=r.length
   exact truthy_tuple j (by simp only[qb];omega) ⟨H,I.tok _,by rw[tF r];exact q⟩
  ·subst a
   obtain⟨l,o,vs,r,m⟩:c.length<=sizeLine/\(p==x7)=false/\∃vs,KV c vs/\s.heap.DictOf (vS X.prog X.w) p vs:=I.hok p _ f
   have hlen:c.length=vs.length:=QZ r
   exact wpAny_truthy_dict o m '!' ⟨H,I.tok _,by rw[aCT r];exact q⟩
 |_=>exact (show False from e).elim
theorem aIB(ha:PE X a ta)(he:∀whole,isTrue a X.env whole=(do let v <- whole;lg a.pos;bc [v] (KZ v))):
  PT X a (λσ H Q=>ta σ H λx H'=>∃k,TruV X.K x H' k/\Q k H'):=by
 intro pins s σ H Q I h
 exact isTrue_plain (thn (ha pins s σ H _ I h) λv s1 ⟨x,H1,I1,r1,b⟩=>aOE pins s1 σ H1 x v Q I1 r1 b) (he _)
theorem aDI:OpR X (we .Add) (λx y H Q=>∃i j,x = .str i/\y = .str j/\i.length+j.length<=sizeLine/\Q (.str (i++j)) H):=by
 intro pins s σ H x y v u Q I a d h
 obtain⟨i,j,rfl,rfl,b,q⟩:=h
 obtain⟨t,rfl⟩:=a
 obtain⟨c,rfl⟩:=d
 exact add_str (λc tk=>⟨.str (i++j),H,I.tok _,⟨_,rfl⟩,q⟩) b
theorem vals1{x:V}(r:Vals [x] us):∃u,us=[u]/\RelV x u:=by
 cases r with
 |cons r1 r2=>cases r2;exact⟨_,rfl,r1⟩
theorem vals2{x y:V}(r:Vals [x,y] us):∃u w',us=[u,w']/\RelV x u/\RelV y w':=by
 cases r with
 |cons r1 r2 =>
  cases r2 with
  |cons r3 r4=>cases r4;exact⟨_,_,rfl,r1,r3⟩
theorem zP:i7 X (.builtin "abs") (λxs H Q=>∃i,xs=[.int i]/\Q (.int (if i<0 then -i else i)) H):=by
 intro pins s σ H xs us Q I r h
 obtain⟨i,rfl,q⟩:=h
 obtain⟨u,rfl,t,rfl⟩:=vals1 r
 exact call_abs_int λu tk=>⟨.int (if i<0 then -i else i),H,I.tok _,⟨_,rfl⟩,q⟩
theorem aFS(hc:X.calm=true):i7 X (.builtin "min") (λxs H Q=>∃i j,xs=[.int i, .int j]/\Q (.int (if j<i then j else i)) H):=by
 intro pins s σ H xs us Q I r h
 obtain⟨i,j,rfl,q⟩:=h
 obtain⟨u,c,rfl,⟨t,rfl⟩,⟨b,rfl⟩⟩:=vals2 r
 refine min_two_ints (I.ok.hd hc) λd tk k=>⟨_,H,I.kept k,?_,q⟩
 by_cases a:j<i
 ·rw[if_pos a,if_pos a];exact⟨_,rfl⟩
 ·rw[if_neg a,if_neg a];exact⟨_,rfl⟩
theorem aDQ:i7 X (.type "int") (λxs H Q=>(∃i,xs=[.int i]/\Q (.int i) H)\/∃k,xs=[.bl k]/\Q (.int (if k then 1 else 0)) H):=by
 intro pins s σ H xs us Q I r h
 rcases h with ⟨i,rfl,q⟩|⟨k,rfl,q⟩
 ·obtain⟨u,rfl,t,rfl⟩:=vals1 r
  exact call_int_int ⟨.int i,H,I,⟨_,rfl⟩,q⟩
 ·obtain⟨u,rfl,r1⟩:=vals1 r
  cases r1
  exact call_int_bool ⟨.int (if k then 1 else 0),H,I.tok _,⟨_,rfl⟩,q⟩
noncomputable def aH2(K:qe)(x:V)(H:Hp)(n:Nat):Prop:=
 match x with
 |.str y=>y.length<=sizeLine/\n=y.length
 |.byt y=>y.size<=sizeLine/\n=y.size
 |.ref p=>(∃xs,SqL K H p xs/\n=xs.length)\/∃xs,SqT K H p xs/\n=xs.length
 |_=>False
theorem dL:i7 X (.builtin "len") (λxs H Q=>∃x n,xs=[x]/\aH2 X.K x H n/\Q (.int n) H):=by
 intro pins s σ H xs us Q I r h
 obtain⟨x,n,rfl,e,q⟩:=h
 obtain⟨u,rfl,c⟩:=vals1 r
 have hl:=line63
 have k:sizeLine=16777216:=fx
 cases x with
 |str y =>
  obtain⟨t,rfl⟩:=c
  obtain⟨i,a⟩:y.length<=sizeLine/\n=y.length:=e
  subst a
  exact len_str '!' ⟨.int _,H,I.tok _,⟨_,rfl⟩,q⟩
 |byt y =>
  obtain⟨t,rfl⟩:=c
  obtain⟨i,a⟩:y.size<=sizeLine/\n=y.size:=e
  subst a
  exact PySem.W.len_bytes '!' ⟨.int _,H,I.tok _,⟨_,rfl⟩,q⟩
 |ref p =>
  cases c
  have a:(∃xs,SqL X.K H p xs/\n=xs.length)\/∃xs,SqT X.K H p xs/\n=xs.length:=e
  rcases a with ⟨xs,g,a⟩|⟨xs,g,a⟩
  ·subst a
   obtain⟨d,b,f,j⟩:=I.list g
   have hlen:=b.length
   exact Calls.call_len_list f.isList (by simp only[qb];omega) ⟨.int xs.length,H,I.tok _,⟨_,by simp only[qb];rw[hlen]⟩,q⟩
  ·subst a
   obtain⟨d,b,f,j⟩:=I.tuple g
   have hlen:=b.length
   exact len_tuple f (by simp only[qb];omega) ⟨.int xs.length,H,I.tok _,⟨_,by simp only[qb];rw[hlen]⟩,q⟩
 |_=>exact (show False from e).elim
end
end L2
namespace L2
open PySem PySem.Spec PyProof.Rows
structure ObjM(h:Heap)(x dx C:Addr)(mA:Str->Option Value):Prop where
 obj:h.get? x=some (Ql C dx)
 ns:h.Ns1 dx mA
 ne:dx≠x
section
variable {E:Value->Shared->Prop}{K:qe}{x:Addr}{mA:Str->Option Value}{v:Value}
end
section
variable {fs fs':List (Str×V)}
end
structure Cls(K:qe)(C:Addr):Prop where
 pg:PySem.W.plainGet K C vp=true
 hd:PySem.W.hasDictIn K C=true
 po:PySem.W.plainOver K C=true
 sa:xu K (.ref C) "__setattr__" = some (some (.builtin "object.__setattr__"))
structure Con(K:qe)(C:Addr)(f:Str)(v:V)(u:Value):Prop where
 at_:xu K (.ref C) f=some (some u)
 rel:RelV v u
 get:sv K u "__get__" = some none
 cp:PySem.W.copiedNames.contains f=false
structure Meth(K:qe)(C:Addr)(m:Str)(f:Addr):Prop where
 at_:xu K (.ref C) m=some (some (.ref f))
 fn:QY K (.ref f)=true
 kp:y4 K (.ref f)=true
section
variable {fs:List (Str×V)}{f:Str}{E:Value->Shared->Prop}
end
section
variable {value:Expr}{f:Str}{tpos:Pos}{ta tv:TE}
end
section
variable {E:Value->Shared->Prop}{Q:Value->Shared->Prop}{c:Value}{b:Bool}
inductive TyOf(K:qe)(H:Hp):V->Value->Prop where
 |non:TyOf K H .non (.type "NoneType")
 |bl (x:Bool):TyOf K H (.bl x) (.type "bool")
 |int (i:Int):TyOf K H (.int i) (.type "int")
 |str (x:Str):TyOf K H (.str x) (.type "str")
 |flt (x:UInt64):TyOf K H (.flt x) (.type "float")
 |lst {a:Addr}{xs:List V} (e:H a=some (.lst xs)):TyOf K H (.ref a) (.type "list")
 |frz {a:Addr}{o:Obj}{xs:List V} (e:H a=some (.frz o (.lst xs))):TyOf K H (.ref a) (.type "list")
 |tup {a:Addr}{xs:List V} (e:H a=some (.tup xs)):TyOf K H (.ref a) (.type "tuple")
 |dK {a:Addr}{kvs:List (Key×V)} (e:H a=some (.dK kvs)):TyOf K H (.ref a) (.type "dict")
 |dT {a:Addr}{kvs:List (List Key×V)} (e:H a=some (.dT kvs)):TyOf K H (.ref a) (.type "dict")
 |ins {a C dx:Addr}{fs:List (Str×V)} (e:H a=some (.ins C dx fs)) (cl:Cls K C) (ha:xu K (.ref C) "__class__" = some (some (.builtin "object.__class__")))
   (hn:sv K (.builtin "object.__class__") "__get__" = some (some (.builtin "getset_descriptor.__get__"))) (htk:PySem.W.takesIn K (.builtin "object.__class__")=some true)
   (hm:lu K C (.type "object")=some true):TyOf K H (.ref a) (.ref C)
end
end L2
namespace L2
open PySem PySem.Spec PyProof.Rows
structure Room(k:Nat)(A:Around):Prop where
 hd:A.handled=none
 dp:A.depth+3*k+5<recursionLimit
 un:A.units+16*k+200<cLine
 gd:A.guards=some []
theorem Room.mono{k:Nat}(r:Room k A)(h:j<=k):Room j A:=⟨r.hd,by have:=r.dp;omega,by have:=r.un;omega,r.gd⟩
theorem Room.deeper{k:Nat}(r:Room (k+1) A)(env:Env):Room k (A.deeper env):=
 ⟨r.hd,by have:=r.dp;show A.depth+1+3*k+5<_;omega,by have:=r.un;show A.units+3+16*k+200<_;omega,r.gd⟩
theorem Room.depth{k:Nat}(r:Room k A):A.depth<recursionLimit:=by have:=r.dp;omega
theorem Room.units{k:Nat}(r:Room k A):A.units+64<cLine:=by have:=r.un;omega
noncomputable def tNil:TA:=λ_ H Q=>Q [] H
noncomputable def aO1(ta:TE)(tr:TA):TA:=λσ H Q=>ta σ H λx H1=>tr σ H1 λxs H2=>Q (x::xs) H2
section
variable {t:TA}
theorem aL8:PA X [] tNil:=λ_ _ _ _ H Q I h=>Qq ⟨[],H,I, .nil,h⟩
theorem aK9(ha:PE X e te)(hr:PA X es t)(hs:starEach (e::es) X.env=(false,eval e X.env)::starEach es X.env:=by rfl):PA X (e::es) (aO1 te t):=by
 intro pos pins s σ H Q I h
 rw[hs]
 show wpAny _ _ (spliced ((false,eval e X.env)::bb pos (starEach es X.env))) _ _ s
 refine Qb (thn (ha pins s σ H _ I h) λu s1 ⟨x,H1,I1,r1,b⟩ => ?_)
 exact thn (hr pos pins s1 σ H1 _ I1 b) λus s2 ⟨xs,H2,I2,r2,a⟩=>⟨x::xs,H2,I2, .cons r1 r2,a⟩
noncomputable def tTup(t:TA):TE:=λσ H Q=>t σ H λxs H1=>xs.length<=sizeLine/\∀p,H1 p=none->Q (.ref p) (upd H1 p (.tup xs))
noncomputable def tLst(t:TA):TE:=λσ H Q=>t σ H λxs H1=>xs.length<=sizeLine/\∀p,H1 p=none->Q (.ref p) (upd H1 p (.lst xs))
theorem aNQ{x1}(h:PA X es t):PE X (.Tuple es x1 pos) (tTup t):=by
 intro pins s σ H Q I a
 refine wpAny_Tuple_spliced (thn (h pos pins s σ H _ I a) λus s1 ⟨xs,H1,I1,r,z,q⟩=>⟨by rw[<- r.length];exact z,?_⟩)
 have hf:H1 s1.heap.objs.size=none:=I1.hok.fresh (ql _)
 refine⟨.ref s1.heap.objs.size,upd H1 s1.heap.objs.size (.tup xs),I1.laid (t':=s1.toks) (λb u e=>qc _ e) (ql _) ?_,rfl,q _ hf⟩
 exact⟨z,us,r,⟨_,qu _ rfl,rfl,_,rfl⟩⟩
theorem aDU(h:PA X es t):PE X (.List es pos) (tLst t):=by
 intro pins s σ H Q I a
 refine wpAny_List_spliced (thn (h pos pins s σ H _ I a) λus s1 ⟨xs,H1,I1,r,z,q⟩=>⟨by rw[<- r.length];exact z,?_⟩)
 have hf:H1 s1.heap.objs.size=none:=I1.hok.fresh (ql _)
 refine⟨.ref s1.heap.objs.size,upd H1 s1.heap.objs.size (.lst xs),I1.laid (t':=s1.toks) (λb u e=>qc _ e) (ql _) ?_,rfl,q _ hf⟩
 exact⟨z,us,0,r,qu _ rfl⟩
end
abbrev Sp:=List V->Hp->VK->XK->Prop
abbrev CXT:=List Env->Hp->Shared->XK->Value->Shared->Prop
structure Env0(P:Program)(w:World)(K:qe)(mg:Str->Option Value)(base:Heap)(A:Around)(outer:List Env)(s:Shared)(H:Hp):Prop where
 frames:A.frames=some outer
 mod:Mod K mg base
 bs:∀b o,base.get? b=some o->s.heap.get? b=some o/\H b=none
 bsz:base.objs.size<=s.heap.objs.size
 funs:s.heap.FunFrames base outer
 frf:∀b∈frs outer,H b=none
 hok:HOk P w H s.heap
 bare:fw s.gens
noncomputable def CE(outer:List Env)(P:Program)(w:World)(H:Hp)(s:Shared)(Q:VK)(u:Value)(s':Shared):Prop:=
 ∃v H',s'.os=s.os/\fw s'.gens/\Un (frs outer) [] H H' s.heap s'.heap/\HOk P w H' s'.heap/\RelV v u/\Q v H'
noncomputable def CR(CX:CXT)(outer:List Env)(P:Program)(w:World)(H:Hp)(s:Shared)(Q:VK)(E:XK)(r:Result)(s':Shared):Prop:=
 match r with
 |.ok (.ret u)=>CE outer P w H s Q u s'
 |.ok _=>False
 |.error e=>CX outer H s E e s'
structure FnOk(P:Program)(w:World)(K:qe)(mg:Str->Option Value)(base:Heap)(CX:CXT)(k:Nat)(f:Addr)(fd:FuncData)(ps:List Str)(sp:Sp):Prop where
 len:∀vs H Q E,sp vs H Q E->vs.length=ps.length
 run:∀(A:Around) (outer:List Env) (s:Shared) (H:Hp) (args:Args) (us:List Value) (vs:List V) (Q:VK) (E:XK),Room k A->Env0 P w K mg base A outer s H->BindsTo s fd args (ps.zip us)->Vals vs us->sp vs H Q E ->
  nz (jt P w) A (.call (.ref f) args) (CR CX outer P w H s Q E) s
section
theorem Inv.env0(I:Inv X pins σ H s):Env0 X.prog X.w X.K X.mg X.base X.A X.stack s H:=
 ⟨I.ok.frames,I.ok.mod,I.bs,jn I.ok.bsz I.sz,I.stack,I.stkFree,I.hok,I.bare⟩
theorem Inv.after{Q:VK}(I:Inv X pins σ H s)(h:CE X.stack X.prog X.w H s Q u s'):EP X pins σ Q u s':=by
 obtain⟨v,H',os,bare,un,a,r,q⟩:=h
 obtain⟨e,g,d,t,c⟩:=s'
 obtain rfl:c=s.os:=os
 exact⟨v,H',I.call (h':=e) (g':=g) (d':=d) (t':=t) (ch:=[]) un a bare (λb z=>absurd z '$'),r,q⟩
end
noncomputable def aOV(sp:Sp)(dvs:List V)(E:XK)(t:TA):TE:=λσ H Q=>t σ H λvs H1=>sp (vs++dvs) H1 Q E
noncomputable def Binds(K:qe)(fd:FuncData)(ps:List Str)(ds:List Value):Prop:=
 ∀(s:Shared) (us:List Value),K.In s.heap->(us++ds).length=ps.length->BindsTo s fd ⟨us,[]⟩ (ps.zip (us++ds))
theorem Binds.all{K:qe}{ps:List Str}(h:∀us:List Value,us.length=ps.length->Jq fd ⟨us,[]⟩=pure (ps.zip us)):Binds K fd ps []:=λs us _ hl=>by
 rw[wb] at hl ⊢
 exact .of_eq (h us hl)
noncomputable def Passes(CX:CXT)(X:Cx)(E:XK):Prop:=∀(pins:List (Addr×Obj)) (σ:St) (H:Hp) (s:Shared) (e:Value) (s':Shared),Inv X pins σ H s->CX X.stack H s E e s'->X.xe e s'
section
variable {CX:CXT}{k:Nat}{ps:List Str}{sp:Sp}{dvs:List V}{ds:List Value}{E:XK}{m:Str}{p:Pos}{ta:TE}{t:TA}
theorem aMI{Q:VK}{vs:List V}(F:FnOk X.prog X.w X.K X.mg X.base CX k f fd ps sp)(hr:Room k X.A)(hb:Binds X.K fd ps ds)(hd:Vals dvs ds)(hx:Passes CX X E)(I:Inv X pins σ H s)(r:Vals vs us)(h:sp (vs++dvs) H Q E):wpAny X.w.4 X.A (call (.ref f) us) (EP X pins σ Q) X.xe s:=by
 have r2:Vals (vs++dvs) (us++ds):=r.append hd
 have hl:(us++ds).length=ps.length:=by rw[<- r2.length];exact F.len _ _ _ _ h
 refine wpAny_call (QD (F.run X.A X.stack s H ⟨us,[]⟩ (us++ds) (vs++dvs) Q E hr I.env0 (hb s us I.kIn hl) r2 h) λr b a => ?_)
 cases r with
 |error e=>exact hx pins σ H s e b I a
 |ok fl =>
  cases fl with
  |ret u=>exact I.after a
  |next=>exact yj a
  |brk=>exact yj a
  |cont=>exact yj a
theorem aLY(F:FnOk X.prog X.w X.K X.mg X.base CX k f fd ps sp)(hr:Room k X.A)(hg:Gl X x)(hm:X.mg x=some (.ref f))(hk:y4 X.K (.ref f)=true)(hb:Binds X.K fd ps ds)(hd:Vals dvs ds)(hx:Passes CX X E)(ha:PA X (e::es) t)(hdb:(x==("__debug__" : Str))=false:=by decide)(he:starEach (e::es) X.env=(false,eval e X.env)::starEach es X.env:=by rfl)(hpl:(bb pos (starEach es X.env)).any (·.1)=false:=by rfl):
  PE X (.Call (.Name x p) (e::es) [] pos) (aOV sp dvs E t):=by
 intro pins s σ H Q I h
 refine gK (aBG I hg hm ?_ hdb)
 refine PySem.W.callWith_K (h₀:=X.base) I.ok.mod.kin hk (thn (ha pos pins s σ H _ I h) λus s1 ⟨vs,H1,I1,r,q⟩=>⟨I1.kIn,?_⟩) he hpl
 exact aMI F hr hb hd hx I1 r q
structure Mk(K:qe)(C f:Addr):Prop where
 makes:PySem.W.makesIn K C=true
 init:xu K (.ref C) "__init__" = some (some (.ref f))
 fn:QY K (.ref f)=true
 kp:y4 K (.ref C)=true
end
section
variable {CX:CXT}{k:Nat}{ps ks:List Str}{sp:Sp}{E:XK}{m:Str}{p kpos:Pos}{kws:List fv}{ta:TE}{t tk:TA}{nm:Option Str}
structure KBinds(K:qe)(fd:FuncData)(ps ks:List Str)(g:List Value->List Value->List Value)(gV:List V->List V->List V):Prop where
 to:∀(s:Shared) (us ws:List Value),K.In s.heap->(g us ws).length=ps.length->BindsTo s fd ⟨us,ks.zip ws⟩ (ps.zip (g us ws))
 rel:∀{vs:List V}{us:List Value}{zs:List V}{ws:List Value},Vals vs us->Vals zs ws->Vals (gV vs zs) (g us ws)
variable {g:List Value->List Value->List Value}{gV:List V->List V->List V}
end
structure FnScope(N P:List Str)(sc:Scope):Prop where
 kind:sc.kind = .function
 co:sc.isCoroutine=false
 gen:sc.isGenerator=false
 nd:N.Nodup
 pre:N.take P.length=P
 par:∀x∈P,sc.names.lookup x=some .local\/sc.names.lookup x=some .cell
 nofree:∀y∈sc.names,y.2 ≠ .free
theorem wG{kindOf:Str->Option NameKind}:∀{binds:List (Str×Value)}{m:Str->Option Value},(∀v,(x,v)∉binds)->JF kindOf binds m x=m x
 |[],_,_=>rfl
 | (n,v)::r,m,h=>by
  unfold JF
  rw[wG λw hw=>h w (jf _ hw)]
  split
  ·have:x≠n:=by rintro rfl;exact h v k3
   simp[this]
  ·rfl
theorem wH{kindOf:Str->Option NameKind}:∀{binds:List (Str×Value)}{m:Str->Option Value},(∀v,(x,v)∉binds)->JG kindOf binds m x=m x
 |[],_,_=>rfl
 | (n,v)::r,m,h=>by
  unfold JG
  rw[wH λw hw=>h w (jf _ hw)]
  split
  ·rfl
  ·have:x≠n:=by rintro rfl;exact h v k3
   simp[this]
theorem vV{kindOf:Str->Option NameKind}{v:Value}:∀{P:List Str}{vs:List Value}{i:Nat}{m:Str->Option Value},P.Nodup->P[i]?=some x->vs[i]?=some v->kindOf x=some .local ->
  JF kindOf (P.zip vs) m x=some v
 |[],_,_,_,_,h,_,_=>by simp at h
 |_::_,[],_,_,_,_,h,_=>by simp at h
 |p::P,w::vs,0,m,nd,h1,h2,hk=>by
  simp at h1 h2;subst h1;subst h2
  show JF kindOf ((p,w)::P.zip vs) m p=_
  unfold JF
  rw[wG λv a=>(jl.mp nd).1 (hC a).1,if_pos hk]
  simp
 |p::P,w::vs,i+1,m,nd,h1,h2,hk=>by
  show JF kindOf ((p,w)::P.zip vs) m x=_
  unfold JF
  exact vV (i:=i) (jl.mp nd).2 (by simpa using h1) (by simpa using h2) hk
theorem wT{kindOf:Str->Option NameKind}{v:Value}:∀{P:List Str}{vs:List Value}{i:Nat}{m:Str->Option Value},P.Nodup->P[i]?=some x->vs[i]?=some v->kindOf x≠some .local ->
  JG kindOf (P.zip vs) m x=some v
 |[],_,_,_,_,h,_,_=>by simp at h
 |_::_,[],_,_,_,_,h,_=>by simp at h
 |p::P,w::vs,0,m,nd,h1,h2,hk=>by
  simp at h1 h2;subst h1;subst h2
  show JG kindOf ((p,w)::P.zip vs) m p=_
  unfold JG
  rw[wH λv a=>(jl.mp nd).1 (hC a).1,if_neg hk]
  simp
 |p::P,w::vs,i+1,m,nd,h1,h2,hk=>by
  show JG kindOf ((p,w)::P.zip vs) m x=_
  unfold JG
  exact wT (i:=i) (jl.mp nd).2 (by simpa using h1) (by simpa using h2) hk
noncomputable def start(N:List Str)(vs:List V):St:=vs.map some++vc (N.length-vs.length) none
noncomputable def rR(CX:CXT)(P:Program)(w:World)(K:qe)(mg:Str->Option Value)(base:Heap)(N:List Str)(qual:Str)(scope:Scope)(f:Addr)(cd:Value)(A:Around)(outer:List Env)(s:Shared)(H:Hp)(E:XK):Cx where
 prog:=P
 w:=w
 K:=K
 mg:=mg
 base:=base
 A:=A.deeper (nu qual scope s.heap.objs.size f cd)
 N:=N
 s₀:=s
 H₀:=H
 env:=nu qual scope s.heap.objs.size f cd
 outer:=outer
 stack:=nu qual scope s.heap.objs.size f cd::outer
 ex:=[]
 calm:=true
 fn:=λ_=>true
 pn:=[]
 xe:=λe s'=>wpAny (jt P w) (A.deeper (nu qual scope s.heap.objs.size f cd)) (leaving (nu qual scope s.heap.objs.size f cd) e) (λ_ s''=>CX outer H s E e s'') (λe' s''=>CX outer H s E e' s'') s'
theorem xY{sc:Scope}(h:sc.names.lookup x=some .cell):∃c,(cellsFrom n sc.names []).lookup x=some c:=by
 have q:=x9 sc.names n [] (.inl h)
 exact yt.mp q
theorem aEQ{CX:CXT}{K:qe}{ps:List Str}{cd:Value}{outer:List Env}{s1:Shared}{E:XK}{vs:List V}(S:FnScope N ps scope)(hd:A.handled=none)(e0:Env0 P w K mg base A outer s H)(hl:vs.length=ps.length)(r:Vals vs us)(x:InCallC s s.heap.objs.size (JF (nu qual scope s.heap.objs.size f cd).kindOf (ps.zip us) λ_=>none) (cellsFrom (s.heap.objs.size+1) scope.names []) (JG (nu qual scope s.heap.objs.size f cd).kindOf (ps.zip us) λ_=>none) s1):
  Inv (rR CX P w K mg base N qual scope f cd A outer s H E) [] (start N vs) H s1:=by
 have G:ps.length<=N.length:=by have:=congrArg cf S.pre;rw[vw] at this;omega
 obtain⟨o,tk,rfl,B⟩:=x.done
 have g:∀b:Addr,b∉(rR CX P w K mg base N qual scope f cd A outer s H E).ex:=λb z=>absurd (show b∈([]:List Addr) from z) '$'
 refine⟨⟨e0.mod,S.kind,rfl,rfl,ql _,λy z c o d => ?_,λy j => ?_,λy c _ h => ?_,λ_=>hd,Around.frames_deeper e0.frames, .inr ⟨rfl,rfl⟩,λb z=>absurd z (g b),e0.bs,e0.bsz,λb _ _=>g b,λb z=>absurd z (g b),e0.funs,e0.frf⟩,
  rfl,e0.bare,Un.kept B,⟨_,x.toInCall.ns,λi y v o d I => ?_⟩,λy c h=>⟨_,x.cell y c h⟩,e0.hok.fresh (ql _),λy c h => ?_,λp m=>absurd (show p∈([]:List (Addr×Obj)) from m) '$',e0.hok.kept B,?_⟩
 ·exact name_of_addr x.apart (kl o) (kl d)
 ·have j:scope.names.lookup y=some .cell\/scope.names.lookup y=some .free:=j
  rcases j with j|j
  ·exact xY j
  ·exact absurd rfl (S.nofree _ (kl j))
 ·exact sf (x.above y c (kl h))
 ·have t:i<vs.length:=by
   unfold start at d
   by_cases t:i<vs.length
   ·exact t
   ·rw[ku (by simpa using t)] at d
    rw[xy] at d
    split at d <;> cases d
  have D:vs[i]?=some v:=by
   unfold start at d
   rw[j3 (by simpa using t),qm] at d
   cases e:vs[i]? with
   |none=>rw[e] at d;cases d
   |some a=>rw[e] at d;cases d;rfl
  obtain⟨u,C,F⟩:=r.get D
  have m:ps[i]?=some y:=by
   rw[<- S.pre,List.getElem?_take_of_lt '!'];exact o
  have l:ps.Nodup:=by rw[<- S.pre];exact S.nd.sublist (List.take_sublist _ _)
  refine⟨u,F,?_⟩
  rcases S.par y (zMo m) with k|k
  ·exact .inl ⟨k,vV l m C k⟩
  ·obtain⟨c,e⟩:=xY (n:=s.heap.objs.size+1) k
   refine .inr ⟨.inl k,c,e,?_⟩
   have q:=x.cell y c e
   rw[wT l m C (by show scope.names.lookup y≠_;rw[k];decide)] at q
   exact q
 ·exact e0.hok.fresh (sf (x.above y c (kl h)))
 ·unfold start
  show _=N.length
  rw[qh,zLm,xf]
  omega
theorem aO0{CX:CXT}{K:qe}{k:Nat}{params:Arguments}{body:List Stmt}{dV kV doc pm cdv ct oc:Value}{an:Option Addr}{osl:Array (Option Value)}{ps:List Str}{sp:Sp}(lk:K.lookup f=some ⟨oc,od, .func (w4 name qual params body scope dV kV doc pm an cdv ct),osl⟩)(hcd:g0 K cdv qual=true)(S:FnScope N ps scope)(len:∀vs H Q E,sp vs H Q E->vs.length=ps.length)(hbody:∀(A:Around) (outer:List Env) (s:Shared) (H:Hp) (vs:List V) (Q:VK) (E:XK),Room k (A.deeper (nu qual scope s.heap.objs.size f cdv))->sp vs H Q E ->
   ∃t,PSs (rR CX P w K mg base N qual scope f cdv A outer s H E) body t/\t {nx:=λ_ H'=>Q .non H',rt:=Q} (start N vs) H):
  FnOk P w K mg base CX (k+1) f (w4 name qual params body scope dV kV doc pm an cdv ct) ps sp:=by
 refine⟨len,λA outer s H args us vs Q E i g z r d => ?_⟩
 have hl:=len _ _ _ _ d
 have KX:K.In s.heap:=g.mod.kin.keeps λb o e=>(g.bs b o e).1
 have lim:s.heap.NoLimit:=g.mod.nolimit.keeps λb o e=>(g.bs b o e).1
 have a:∀y∈ps.zip us,scope.names.lookup y.1=some .local\/(scope.names.lookup y.1=some .cell/\((cellsFrom (s.heap.objs.size+1) scope.names []).lookup y.1).isSome=true):=λ⟨n,v⟩ m=>by
  rcases S.par n (hC m).1 with q|q
  ·exact .inl q
  ·exact .inr ⟨q,x9 _ _ _ (.inl q)⟩
 refine codeAny_call_function i.depth (KX _ _ lk) rfl S.co S.gen rfl (PySem.W.codeRec_of KX hcd) (z _ _ _ _ ?_)
 refine wpAny_newFunctionEnv_cells S.kind a λenv he s1 x => ?_
 subst he
 refine⟨lim.keeps x.toInCall.keep,codeAny_func ?_⟩
 obtain⟨t,l,p⟩:=hbody A outer s H vs Q E (i.deeper _) d
 have I:Inv (rR CX P w K mg base N qual scope f cdv A outer s H E) [] (start N vs) H s1:=aEQ S i.hd g hl r x
 refine x6 (l [] s1 (start N vs) H _ I p) (λfl h c => ?_) λe h c=>c
 have fin:∀{σ':St}{H':Hp}{v:V}{u:Value},Inv (rR CX P w K mg base N qual scope f cdv A outer s H E) [] σ' H' h->RelV v u->Q v H'->CE outer P w H s Q u h:=
  λ{σ' H' v u} J j q=>⟨v,H',J.os,J.bare,J.base,J.hok,j,q⟩
 cases fl with
 |ret u =>
  obtain⟨v,σ',H',J,j,q⟩:=c
  exact fin J j q
 |next =>
  obtain⟨σ',H',J,q⟩:=c
  exact fin (v:=V.non) (u:=wu) J rfl q
 |brk =>
  obtain⟨_,_,_,q⟩:=c
  exact yj q
 |cont =>
  obtain⟨_,_,_,q⟩:=c
  exact yj q
end L2
namespace L2
open PySem PySem.Spec PyProof.Rows
section
variable {p:Pos}{t:TA}{id T:String}{r:List V->Hp->VK->Prop}
noncomputable def tCB(r:List V->Hp->VK->Prop)(t:TA):TE:=λσ H Q=>t σ H λvs H1=>r vs H1 Q
theorem aGS(hc:i7 X (.builtin id) r)(hg:Gl X x)(hm:X.mg x=none)(hv:kf x=some (.builtin id))(ha:PA X (e::es) t)(hn:x ≠ "__name__" := by decide)(hdb:(x==("__debug__" : Str))=false:=by decide)(he:starEach (e::es) X.env=(false,eval e X.env)::starEach es X.env:=by rfl)(hpl:(bb pos (starEach es X.env)).any (·.1)=false:=by rfl):PE X (.Call (.Name x p) (e::es) [] pos) (tCB r t):=by
 intro pins s σ H Q I h
 refine gK (l7 I hg hm hv ?_ hn hdb)
 exact KP (thn (ha pos pins s σ H _ I h) λus s1 ⟨vs,H1,I1,r1,a⟩=>hc pins s1 σ H1 vs us Q I1 r1 a) he hpl
theorem aF3(hc:i7 X (.type T) r)(hg:Gl X x)(hm:X.mg x=none)(hv:kf x=some (.type T))(ha:PA X (e::es) t)(hn:x ≠ "__name__" := by decide)(hdb:(x==("__debug__" : Str))=false:=by decide)(he:starEach (e::es) X.env=(false,eval e X.env)::starEach es X.env:=by rfl)(hpl:(bb pos (starEach es X.env)).any (·.1)=false:=by rfl):PE X (.Call (.Name x p) (e::es) [] pos) (tCB r t):=by
 intro pins s σ H Q I h
 refine gK (l7 I hg hm hv ?_ hn hdb)
 exact vk (thn (ha pos pins s σ H _ I h) λus s1 ⟨vs,H1,I1,r1,a⟩=>hc pins s1 σ H1 vs us Q I1 r1 a) he hpl
end
end L2
namespace HT
open PySem PyProof.Rows
section
open PySem.SeqAt
open PySem.AutoSeq1 (wpAny_loadPart')
open PySem.MeetsSeq PySem.MeetsSeq2 PySem.MeetsSeq3
end
section
variable {E:Value->Shared->Prop}
theorem aLH{t b:Addr}{vs ws:List Value}{Q:Value->Shared->Prop}(ht:IsTup s.heap t vs.toArray)(hb:IsTup s.heap b ws.toArray)(hv:vs≠[])(h1:ws=[]->Q (.ref t) s)(h2:ws≠[]->Q (.ref s.heap.objs.size) {s with heap:=s.heap.push {cls := .type "tuple", data := .seq (vs++ws).toArray} })(hsz:vs.length+ws.length<=sizeLine):wpAny (jt prog w) A (we .Add (.ref t) (.ref b)) Q E s:=by
 obtain⟨⟨cls,l,data,j⟩,g,h,n,hd⟩:=id ht
 obtain⟨⟨i,d,data2,f⟩,a,c,k,hd2⟩:=id hb
 simp only at h hd c hd2
 subst h hd c hd2
 have e:vs.toArray++ws.toArray=(vs++ws).toArray:=by simp
 by_cases hw:ws=[]
 ·exact QC ⟨_,g,rfl⟩ ⟨_,a,rfl⟩ mz Qe cb bq (zx _ _)
   (tuple_addW1 t b vs.toArray ws.toArray n k l d j f (by simpa using hv) (by simp[hw])) ⟨g,a,h1 hw⟩
 ·refine QC ⟨_,g,rfl⟩ ⟨_,a,rfl⟩ mz Qe cb bq (zx _ _)
   (tuple_addW2 t b vs.toArray ws.toArray n k l d j f (by simpa using hv) (by simpa using hw) (by rw[qb,qb];exact hsz)) ⟨g,a,?_⟩
  rw[e]
  exact h2 hw
noncomputable def sIx(n d:Nat):Option Int->Nat
 |none=>d
 |some v=>if v<0 then (v+(n:Int)).toNat else min v.toNat n
theorem aHG(n d:Nat):sIx n d none=d:=rfl
theorem uS(n d k:Nat):sIx n d (some (k:Int))=min k n:=by
 show (if (k:Int)<0 then ((k:Int)+(n:Int)).toNat else min (k:Int).toNat n)=min k n
 rw[if_neg '!',qi]
theorem aM8(n d:Nat)(hd:d<=n)(o:Option Int):sIx n d o<=n:=by
 cases o with
 |none=>exact hd
 |some v =>
  show (if v<0 then (v+(n:Int)).toNat else min v.toNat n)<=n
  by_cases a:v<0
  ·rw[if_pos a];omega
  ·rw[if_neg a];exact Nat.min_le_right _ _
theorem aBH(v:Int)(n d:Nat):(if v<0 then max (v+(n:Int)) 0 else min v (n:Int))=((sIx n d (some v):Nat):Int):=by
 show (if v<0 then max (v+(n:Int)) 0 else min v (n:Int))=(((if v<0 then (v+(n:Int)).toNat else min v.toNat n):Nat):Int)
 by_cases a:v<0
 ·simp only[if_pos a];omega
 ·simp only[if_neg a];omega
theorem aCX(lo hi:Option Int)(n:Nat):ze lo hi 1 (n:Int)=(((sIx n 0 lo:Nat):Int),((sIx n n hi:Nat):Int)):=by
 have a:¬((1:Int)<0):=by omega
 unfold ze
 simp only[a,if_false]
 refine Js ?_ ?_
 ·cases lo with
  |none=>rfl
  |some v=>exact aBH v n 0
 ·cases hi with
  |none=>rfl
  |some v=>exact aBH v n n
theorem aCV(i j:Nat):yf (i:Int) (j:Int) 1=j-i:=by
 unfold yf
 have h1:(1:Int)>0:=by omega
 simp only[h1,if_true,Int.ediv_one]
 split <;> omega
theorem tX{v:Value}{o:Option Int}{Q:Option Int->Shared->Prop}(p:gn v o)(h:Q o s):wpAny (jt prog w) A (J6 v) Q E s:=by
 cases p with
 |none=>exact Ve h
 |int i t=>exact slicePart_int h
theorem l6{lo hi:Option Int}{Q:Int×Int×Nat->Shared->Prop}(hs:s.heap.IsSliceOf sl vl vu .none)(pl:gn vl lo)(pu:gn vu hi)(h:Q (((sIx n 0 lo:Nat):Int),1,sIx n n hi-sIx n 0 lo) s):wpAny (jt prog w) A (d5 (.ref sl) (pure (n:Int))) Q E s:=by
 obtain⟨os,b,c,a⟩:=id hs
 unfold d5 J7
 refine qa (qa (wc b a (x:=vl) rfl (qa (wc b a (x:=vu) rfl (qa (wc b a (x := .none) rfl ?_.5))))))
 refine qa (Ve ?_)
 show wpAny _ _ (if ((1:Int)==0)=true then _ else _) _ _ s
 rw[if_neg (by decide)]
 refine qa (tX pl (qa (tX pu (qa ?_.5))))
 show wpAny _ _ (match ze lo hi 1 (n:Int) with|(lo,hi)=>pure (lo,(1:Int),yf lo hi 1)) _ _ s
 rw[aCX lo hi n]
 show wpAny _ _ (pure (((sIx n 0 lo:Nat):Int),(1:Int),yf ((sIx n 0 lo:Nat):Int) ((sIx n n hi:Nat):Int) 1)) _ _ s
 rw[aCV]
 exact wpAny_pure h
theorem aH5(xs:Array Value)(i k:Nat):((qr k).filterMap λ(m:Nat)=>xs[((i:Int)+(m:Int)*1).toNat]?).toArray=((xs.toList.drop i).take k).toArray:=by
 have e:(λ(m:Nat)=>xs[((i:Int)+(m:Int)*1).toNat]?)=λm=>xs[i+m]?:=by
  funext m
  have:((i:Int)+(m:Int)*1).toNat=i+m:=by omega
  rw[this]
 rw[e]
 have:=pick_run xs i k
 rw[List.filterMap_map] at this
 have a:((λx=>xs[x]?) ∘ λx=>i+x)=λm=>xs[i+m]?:=rfl
 rw[a] at this
 rw[this]
theorem qX{t:Addr}{items:Array Value}{lo hi:Option Int}{Q:Value->Shared->Prop}(ht:IsTup s.heap t items)(hs:s.heap.IsSliceOf sl vl vu .none)(pl:gn vl lo)(pu:gn vu hi)(hw:¬(sIx items.size 0 lo=0/\sIx items.size items.size hi=items.size))(h:Q (.ref s.heap.objs.size) {s with heap:=s.heap.push {cls := .type "tuple", data := .seq ((items.toList.drop (sIx items.size 0 lo)).take (sIx items.size items.size hi-sIx items.size 0 lo)).toArray} })(hsz:items.size<=sizeLine):wpAny (jt prog w) A (nv (.ref t) (.ref sl)) Q E s:=by
 have a:sizeOk (.seq ((items.toList.drop (sIx items.size 0 lo)).take (sIx items.size items.size hi-sIx items.size 0 lo)).toArray):=by
  show ((items.toList.drop (sIx items.size 0 lo)).take (sIx items.size items.size hi-sIx items.size 0 lo)).toArray.size<=sizeLine
  rw[qb,vw,ju,jj]
  omega
 have i:sIx items.size items.size hi<=items.size:=aM8 _ _ (ql _) hi
 obtain⟨os,e,d,f⟩:=id hs
 have b:s.TypeIs (.ref sl) "slice" := ⟨os,e,d⟩
 unfold nv
 try with_reducible refine xj ?_
 first|refine qa ?_.5|skip
 refine qa (JL ht.typeIs (by decide) ?_)
 refine qa (k4 (name:=ja "__getitem__") ht.typeIs kh
  (v3 kh ht.typeIs Jf ?_ (Jt _ _)))
 show wpAny _ _ (d4 (.ref t) >>= _) _ _ s
 refine qa (tupleItemsOf_ ht ?_)
 refine qa (mh b ?_)
 rw[if_pos (by decide)]
 refine qa (l6 hs pl pu ?_)
 have c:¬((((sIx items.size 0 lo:Nat):Int)==0&&(1:Int)==1&&(sIx items.size items.size hi-sIx items.size 0 lo)==items.size)=true):=by
  intro q
  rw[qn,qn] at q
  have j:((sIx items.size 0 lo:Nat):Int)=0:=eq_of_beq q.1.1
  have g:sIx items.size items.size hi-sIx items.size 0 lo=items.size:=eq_of_beq q.2
  exact hw ⟨by omega,by omega⟩
 show wpAny _ _ (if (((sIx items.size 0 lo:Nat):Int)==0&&(1:Int)==1&&(sIx items.size items.size hi-sIx items.size 0 lo)==items.size)=true then _ else _) _ _ s
 rw[if_neg c,aH5]
 first
  |exact qa (m:=yi _) (j0 ⟨_,rfl,wpAny_pure h⟩.5 a)
  |exact qa (m:=yi _) (j0 (qa ⟨_,rfl,wpAny_pure h⟩.5.5) a)
  |exact qa (qa (m:=yi _) (j0 ⟨_,rfl,wpAny_pure h⟩.5.5 a))
  |exact qa (qa (m:=yi _) (j0 ⟨_,rfl,wpAny_pure h⟩.5 a))
end
end HT
namespace L2
open PySem PySem.Spec PyProof.Rows
abbrev TO:=St->Hp->(Option Int->Hp->Prop)->Prop
noncomputable def PO(X:Cx)(e:Option Expr)(t:TO):Prop:=
 ∀(pins:List (Addr×Obj)) (s:Shared) (σ:St) (H:Hp) (Q:Option Int->Hp->Prop),Inv X pins σ H s->t σ H Q ->
  wpAny X.w.4 X.A (evalPart e X.env) (λu s'=>∃o H',Inv X pins σ H' s'/\gn u o/\Q o H') X.xe s
noncomputable def aLJ:TO:=λ_ H Q=>Q none H
noncomputable def aO5(t:TE):TO:=λσ H Q=>t σ H λx H1=>∃i,x = .int i/\Q (some i) H1
section
variable {tl th:TO}
theorem aL5:PO X none aLJ:=by
 intro pins s σ H Q I h
 rw[evalPart_none]
 exact wpAny_pure ⟨none,H,I, .none,h⟩
theorem aKS(h:PE X e te):PO X (some e) (aO5 te):=by
 intro pins s σ H Q I hw
 rw[evalPart_some]
 refine thn (h pins s σ H _ I hw) λu s1 ⟨x,H1,I1,r1,a⟩ => ?_
 obtain⟨i,rfl,q⟩:=a
 obtain⟨t,rfl⟩:=r1
 exact⟨some i,H1,I1, .int i t,q⟩
noncomputable def SlR(X:Cx)(r:V->Option Int->Option Int->Hp->VK->Prop):Prop:=
 ∀(pins:List (Addr×Obj)) (s:Shared) (σ:St) (H:Hp) (x:V) (v vl vu:Value) (lo hi:Option Int) (sl:Addr) (Q:VK),Inv X pins σ H s->RelV x v->s.heap.IsSliceOf sl vl vu .none->gn vl lo->gn vu hi->r x lo hi H Q ->
  ∃T id,typeLookup (.type T) "__getitem__" = pure (some (.builtin id))/\s.TypeIs v T/\wpAny X.w.4 X.A (nv v (.ref sl)) (EP X pins σ Q) X.xe s
noncomputable def tSl(r:V->Option Int->Option Int->Hp->VK->Prop)(te:TE)(tl th:TO):TE:=λσ H Q=>te σ H λx H1=>tl σ H1 λl H2=>th σ H2 λu H3=>r x l u H3 Q
theorem aG9{r:V->Option Int->Option Int->Hp->VK->Prop}(hr:SlR X r)(he:PE X e te)(hl:PO X lo tl)(hu:PO X hi th):PE X (.Subscript e (.Slice lo hi none p2) pos) (tSl r te tl th):=by
 intro pins s σ H Q I h
 refine Subscript_ (thn (he pins s σ H _ I h) λv s1 ⟨x,H1,I1,r1,j⟩ => ?_)
 refine wpAny_Slice (thn (hl pins s1 σ H1 _ I1 j) λa s2 ⟨l,H2,I2,i,f⟩=>thn (hu pins s2 σ H2 _ I2 f) λc s3 ⟨u,H3,I3,pu,k⟩ => ?_)
 rw[evalPart_none]
 refine wpAny_pure ?_
 have I4:Inv X pins σ H3 {s3 with heap:=s3.heap.push {cls := .type "slice", data := .fields #[a,c, .none]} }:=I3.kept (t':=s3.toks) λb ob q=>qc _ q
 obtain⟨T,id,g,d,m⟩:=hr pins {s3 with heap:=s3.heap.push {cls := .type "slice", data := .fields #[a,c, .none]} } σ H3 x v a c l u s3.heap.objs.size Q I4 r1 (JC ..) i pu k
 show wpAny X.w.4 X.A (subscriptTail e (.Slice lo hi none p2) v (.ref s3.heap.objs.size)) (EP X pins σ Q) X.xe {s3 with heap:=s3.heap.push {cls := .type "slice", data := .fields #[a,c, .none]} }
 exact tail_any (ops:=[.ref s3.heap.objs.size,v]) d g m (by with_unfolding_all rfl)
noncomputable def lY(xs:List V)(lo hi:Option Int):List V:=(xs.drop (HT.sIx xs.length 0 lo)).take (HT.sIx xs.length xs.length hi-HT.sIx xs.length 0 lo)
theorem rE(xs:List V)(lo hi:Option Int):(lY xs lo hi).length<=xs.length:=by
 unfold lY
 rw[vw,ju]
 omega
noncomputable def rSlT(K:qe):V->Option Int->Option Int->Hp->VK->Prop:=λx lo hi H Q=>∃a xs,x = .ref a/\SqT K H a xs /\
 ¬(HT.sIx xs.length 0 lo=0/\HT.sIx xs.length xs.length hi=xs.length)/\∀p,H p=none->Q (.ref p) (upd H p (.tup (lY xs lo hi)))
theorem aN8:SlR X (rSlT X.K):=by
 intro pins s σ H x v l n lo c m Q I i g j pu h
 obtain⟨a,xs,rfl,k,hw,q⟩:=h
 cases i
 obtain⟨d,r,e,f⟩:=I.tuple k
 have hlen:d.toArray.size=xs.length:=by rw[qb];exact r.length.symm
 refine⟨"tuple", _,kh.lookup,e.typeIs,?_⟩
 refine HT.qX e g j pu (by rw[hlen];exact hw) ?_ (by rw[hlen];exact f)
 rw[hlen]
 refine⟨.ref s.heap.objs.size,_,I.laid (t':=s.toks) (o := .tup (lY xs lo c)) (λb ob q=>qc _ q) (ql _) ?_,rfl,q _ (I.hok.fresh (ql _))⟩
 exact⟨jn (rE xs lo c) f,_,(r.drop (HT.sIx xs.length 0 lo)).take (HT.sIx xs.length xs.length c-HT.sIx xs.length 0 lo),pd _ _⟩
noncomputable def aPT(K:qe):R2:=λx y H Q=>∃a b xs ys,x = .ref a/\y = .ref b/\SqT K H a xs/\SqT K H b ys/\xs≠[]/\xs.length+ys.length<=sizeLine /\
 (ys=[]->Q (.ref a) H)/\(ys≠[]->∀p,H p=none->Q (.ref p) (upd H p (.tup (xs++ys))))
theorem Vals.nil_iff{xs:List V}(r:Vals xs us):us=[]↔xs=[]:=by
 cases r with
 |nil=>simp
 |cons _ _=>simp
theorem aL2:OpR X (we .Add) (aPT X.K):=by
 intro pins s σ H x y v u Q I g m h
 obtain⟨a,b,xs,f,rfl,rfl,e,p,n,c,j,k⟩:=h
 cases g
 cases m
 obtain⟨i,r1,p1,_⟩:=I.tuple e
 obtain⟨d,r2,l,_⟩:=I.tuple p
 refine HT.aLH p1 l (λz=>n (r1.nil_iff.mp z)) (λz=>⟨.ref a,H,I,rfl,j (r2.nil_iff.mp z)⟩) (λz => ?_) (by rw[<- r1.length,<- r2.length];exact c)
 refine⟨.ref s.heap.objs.size,_,I.laid (t':=s.toks) (o := .tup (xs++f)) (λb ob q=>qc _ q) (ql _) ?_,rfl,k (λw=>z (r2.nil_iff.mpr w)) _ (I.hok.fresh (ql _))⟩
 exact⟨by rw[qh];exact c,_,r1.append r2,pd _ _⟩
end
end L2
namespace L2
open PySem PySem.Spec PyProof.Rows
noncomputable def ixN(n:Nat)(i:Int):Option Nat:=if 0<=i then (if i<n then some i.toNat else none) else if -(n:Int)<=i then some (i+n).toNat else none
noncomputable def atI{α:Type}(xs:List α)(i:Int):Option α:=(ixN xs.length i).bind λj=>xs[j]?
theorem aBT{i:Int}(h:ixN n i=some j):seqIndex? i n=some j/\j<n /\ -(n:Int)<=i/\i<n:=by
 unfold ixN at h
 by_cases h0:0<=i
 ·rw[if_pos h0] at h
  by_cases a:i<n
  ·rw[if_pos a] at h
   have e:i.toNat=j:=qz h
   exact⟨by rw[Jd h0 a,e],by omega,by omega,a⟩
  ·rw[if_neg a] at h;cases h
 ·rw[if_neg h0] at h
  by_cases a : -(n:Int)<=i
  ·rw[if_pos a] at h
   have e:(i+n).toNat=j:=qz h
   exact⟨by rw[QB '!' a,e],by omega,a,by omega⟩
  ·rw[if_neg a] at h;cases h
theorem uT{α:Type}{xs:List α}{i:Int}{v:α}(h:atI xs i=some v):∃j,seqIndex? i xs.length=some j/\xs[j]?=some v/\j<xs.length /\ -(xs.length:Int)<=i/\i<xs.length:=by
 unfold atI at h
 cases e:ixN xs.length i with
 |none=>rw[e] at h;cases h
 |some j =>
  rw[e] at h
  obtain⟨b,c,d,a⟩:=aBT e
  exact⟨j,b,h,c,d,a⟩
theorem eG{α:Type}{xs:List α}{v:α}(h:xs[j]?=some v):atI xs (j:Int)=some v:=by
 have a:j<xs.length:=(zGs h).1
 have e:ixN xs.length (j:Int)=some j:=by
  unfold ixN
  rw[if_pos '!',if_pos '!'];simp
 unfold atI;rw[e];exact h
theorem aAC{α:Type}(xs:List α)(v:α):atI (xs++[v]) (-1)=some v:=by
 have hl:(xs++[v]).length=xs.length+1:=by simp
 have e:ixN (xs++[v]).length (-1)=some xs.length:=by
  unfold ixN
  rw[hl,if_neg (by decide),if_pos '!']
  congr 1
  omega
 unfold atI
 rw[e]
 show (xs++[v])[xs.length]?=some v
 simp
noncomputable def uW(b:Expr):Prop:=∀o i,subscripted b false o i=operate [o,i] (nv o i)
noncomputable def IxR(X:Cx)(r:R2):Prop:=
 ∀(value slice:Expr) (pins:List (Addr×Obj)) (s:Shared) (σ:St) (H:Hp) (x y:V) (v u:Value) (Q:VK),Inv X pins σ H s->RelV x v->RelV y u->r x y H Q ->
  subscripted slice false v u=operate [v,u] (nv v u)->wpAny X.w.4 X.A (subscriptTail value slice v u) (EP X pins σ Q) X.xe s
noncomputable def MtR(X:Cx)(id:String)(r:V->List V->Hp->VK->Prop):Prop:=
 ∀(pins:List (Addr×Obj)) (s:Shared) (σ:St) (H:Hp) (x:V) (xs:List V) (v:Value) (us:List Value) (Q:VK),Inv X pins σ H s->RelV x v->Vals xs us->r x xs H Q ->
  wpAny X.w.4 X.A (call (.builtin id) (v::us)) (EP X pins σ Q) X.xe s
section
variable {a:Expr}{ta tb:TE}
theorem IxR.or{r r':R2}(h:IxR X r)(h':IxR X r'):IxR X (λx y H Q=>r x y H Q\/r' x y H Q):=by
 intro value slice pins s σ H x y v u Q I a b q c
 rcases q with q|q
 ·exact h value slice pins s σ H x y v u Q I a b q c
 ·exact h' value slice pins s σ H x y v u Q I a b q c
theorem aPM{r:R2}(hr:IxR X r)(ha:PE X a ta)(hb:PE X b tb)(hs:uW b):PE X (.Subscript a b pos) (tOp r ta tb):=by
 intro pins s σ H Q I h
 exact Subscript_ (aHL ha hb I h λv u s2 x y H2 I2 c d q=>hr a b pins s2 σ H2 x y v u Q I2 c d q (hs _ _))
noncomputable def rIxL(K:qe):R2:=λx y H Q=>∃p xs i v,x = .ref p/\y = .int i/\SqL K H p xs/\atI xs i=some v/\Q v H
noncomputable def rIxT(K:qe):R2:=λx y H Q=>∃p xs i v,x = .ref p/\y = .int i/\SqT K H p xs/\atI xs i=some v/\Q v H
noncomputable def rIxS:R2:=λx y H Q=>∃z i c,x = .str z/\y = .int i/\z.length<=sizeLine/\atI z.cps.toList i=some c/\Q (.str ⟨#[c]⟩) H
theorem aKM:IxR X (rIxL X.K):=by
 intro value slice pins s σ H x y v u Q I n B h f
 obtain⟨p,xs,i,z,rfl,rfl,m,he,q⟩:=h
 cases n
 obtain⟨t,rfl⟩:=B
 obtain⟨c,r,d,D⟩:=I.list m
 obtain⟨j,a,A,E,l,o⟩:=uT he
 obtain⟨w,g,b⟩:=r.get A
 have hl:=r.length
 have C:=line63
 have fin:EP X pins σ Q w s:=⟨z,H,I,b,q⟩
 by_cases h0:0<=i
 ·have e:i.toNat=j:=by
   rw[Jd h0 o] at a
   exact qz a
  exact item_listR d.isList h0 '!' (by rw[e];simpa using g) fin f
 ·have e:(i+(c.toArray.size:Int)).toNat=j:=by
   rw[QB '!' l] at a
   rw[qb,<- hl]
   exact qz a
  exact Qr (x:=w) d.isList.typeIs slot_list_getitem.lookup
   (wpAny_getItem_list_neg (Q:=λr k=>r=w/\EP X pins σ Q r k) d.isList '!' (by rw[qb] <;> omega) '!' (by rw[e];simpa using g) ⟨rfl,fin⟩) f
theorem aMX:IxR X (rIxT X.K):=by
 intro value slice pins s σ H x y v u Q I g n h e
 obtain⟨p,xs,i,z,rfl,rfl,f,he,q⟩:=h
 cases g
 obtain⟨t,rfl⟩:=n
 obtain⟨k,r,b,C⟩:=I.tuple f
 obtain⟨j,d,m,D,o,B⟩:=uT he
 obtain⟨w,l,a⟩:=r.get m
 have hl:=r.length
 have A:=line63
 have fin:EP X pins σ Q w s:=⟨z,H,I,a,q⟩
 exact Qr (x:=w) b.typeIs slot_tuple_getitem.lookup
  (getItem_tuple (j:=j) (Q:=λr c=>r=w/\EP X pins σ Q r c) b '!' '!' (by rw[qb,<- hl];exact d) (by simpa using l) ⟨rfl,fin⟩) e
theorem aNM:IxR X rIxS:=by
 intro value slice pins s σ H x y v u Q I g m h f
 obtain⟨z,i,c,rfl,rfl,p,he,q⟩:=h
 obtain⟨t,rfl⟩:=g
 obtain⟨o,rfl⟩:=m
 obtain⟨j,a,l,r,d,k⟩:=uT he
 have hl:z.cps.toList.length=z.length:=by simp[QE]
 rw[hl] at a d k
 have n:=line63
 exact tail_any (typeIs_str s z t) slot_str_getitem.lookup (getItem_str (c:=c) (by
  have e:decide (i < -(2^63:Int))=false:=decide_eq_false '!'
  have b:decide (i≥2^63)=false:=decide_eq_false '!'
  rw[e,b,JA]) (by rw[a];simpa using l) ⟨.str ⟨#[c]⟩,H,I.tok _,⟨_,rfl⟩,q⟩) f
noncomputable def rIx(K:qe):R2:=λx y H Q=>rIxL K x y H Q\/rIxT K x y H Q\/rIxS x y H Q
theorem aW:IxR X (rIx X.K):=aKM.or (aMX.or aNM)
theorem aDG(its:List Value)(n j:Nat)(u:Value):fy (·.setIfInBounds j u) {cls := .type "list", data := .seq its.toArray n}={cls := .type "list", data := .seq (its.set j u).toArray n}:=by
 simp[fy]
theorem Inv.lst{p:Addr}{xs:List V}(I:Inv X pins σ H s)(h:H p=some (.lst xs)):
  ∃(its:List Value) (n:Nat),Vals xs its/\s.heap.get? p=some {cls := .type "list", data := .seq its.toArray n}/\xs.length<=sizeLine:=by
 obtain⟨z,its,n,r,e⟩:=I.hok p _ h
 exact⟨its,n,r,e,z⟩
theorem Inv.lstUpd{p:Addr}{xs ys:List V}{its':List Value}{n':Nat}{f:Obj->Obj}(I:Inv X pins σ H s)(h:H p=some (.lst xs))(ho:s.heap.get? p=some {cls := .type "list", data := .seq its.toArray n})(hf:f {cls := .type "list", data := .seq its.toArray n}={cls := .type "list", data := .seq its'.toArray n' })(r:Vals ys its')(hz:ys.length<=sizeLine)(t:Nat):
  Inv X pins σ (upd H p (.lst ys)) {s with heap:=s.heap.update p f,toks:=t}:=by
 have e:(s.heap.update p f).get? p=some {cls := .type "list", data := .seq its'.toArray n' }:=by
  rw[xg f ho (by rw[hf] <;> rfl),hf]
 refine I.write (x:=p) (e:=p) (by rw[h];trivial) (.inl rfl) (λb u a q=>(pw _ _ (ya a)).trans q) ⟨_,e⟩ ?_
 exact⟨hz,its',n',r,e⟩
noncomputable def aOY:V->V->V->Hp->(Hp->Prop)->Prop:=λo i v H Q=>∃p xs k j,o = .ref p/\i = .int k/\H p=some (.lst xs)/\ixN xs.length k=some j/\Q (upd H p (.lst (xs.set j v)))
theorem set_list:PSet X aOY:=by
 intro pins s σ H o i v ov B u Q I l x m h
 obtain⟨p,xs,k,j,rfl,rfl,g,y,q⟩:=h
 cases l
 obtain⟨t,rfl⟩:=x
 obtain⟨a,n,r,d,w⟩:=I.lst g
 obtain⟨b,A,f,e⟩:=aBT y
 have hl:=r.length
 have z:=line63
 have I':Inv X pins σ (upd H p (.lst (xs.set j v))) {s with heap:=s.heap.update p (fy (·.setIfInBounds j u))}:=
  I.lstUpd g d (aDG a n j u) (r.set m j) (by rw[hG];exact w) s.toks
 by_cases h0:0<=k
 ·have c:k.toNat=j:=by
   rw[Jd h0 e] at b
   exact qz b
  exact PySem.W.ki_setAt d h0 '!' (by rw[qb,<- hl];exact e) (by rw[c];exact⟨_,I',q⟩)
 ·have c:(k+(a.toArray.size:Int)).toNat=j:=by
   rw[QB '!' f] at b
   rw[qb,<- hl]
   exact qz b
  exact PySem.W.ki_setBack d '!' (by rw[qb,<- hl];exact f) '!' (by rw[c];exact⟨_,I',q⟩)
theorem aAI(lo hi:Option Int)(n:Nat):(bj lo hi none n).1=((HT.sIx n 0 lo:Nat):Int)/\(bj lo hi none n).2.1=((HT.sIx n n hi:Nat):Int)/\(bj lo hi none n).2.2=1:=by
 refine⟨?_,?_,rfl⟩
 ·cases lo with
  |none=>simp[bj,HT.sIx]
  |some i =>
   simp only[bj,HT.sIx,Qm,show (1:Int)>0 by decide,if_true]
   by_cases h:i<0
   ·simp only[h,if_true] <;> omega
   ·simp only[h,if_false] <;> omega
 ·cases hi with
  |none=>simp[bj,HT.sIx]
  |some i =>
   simp only[bj,HT.sIx,Qm,show (1:Int)>0 by decide,if_true]
   by_cases h:i<0
   ·simp only[h,if_true] <;> omega
   ·simp only[h,if_false] <;> omega
theorem xI(its:List Value)(lo hi:Option Int):slicePick its.toArray lo hi none=((its.drop (HT.sIx its.length 0 lo)).take (HT.sIx its.length its.length hi-HT.sIx its.length 0 lo)).toArray:=by
 obtain⟨a,b,c⟩:=aAI lo hi its.toArray.size
 unfold slicePick
 rw[a,b,c]
 simp only[sliceRange_one,pick_run,qb] <;> rfl
noncomputable def rSlL(K:qe):V->Option Int->Option Int->Hp->VK->Prop:=λx lo hi H Q=>∃a xs,x = .ref a/\SqL K H a xs/\∀p,H p=none->Q (.ref p) (upd H p (.lst (lY xs lo hi)))
theorem vU:SlR X (rSlL X.K):=by
 intro pins s σ H x v l n lo c m Q I f e j pu h
 obtain⟨a,xs,rfl,k,q⟩:=h
 cases f
 obtain⟨i,r,d,g⟩:=I.list k
 have hlen:=r.length
 refine⟨"list", _,slot_list_getitem.lookup,d.isList.typeIs,?_⟩
 refine wpAny_getItem_list_slice d.isList e j pu .none '$' ?_ (by rw[qb] <;> omega)
 rw[xI,<- hlen]
 refine⟨.ref s.heap.objs.size,_,I.laid (t':=s.toks) (o := .lst (lY xs lo c)) (λb ob q=>qc _ q) (ql _) ?_,rfl,q _ (I.hok.fresh (ql _))⟩
 exact⟨jn (rE xs lo c) g,_,0,(r.drop (HT.sIx xs.length 0 lo)).take (HT.sIx xs.length xs.length c-HT.sIx xs.length 0 lo),qu _ rfl⟩
theorem jC:i7 X (.type "list") (λxs H Q=>∃p ys,xs=[.ref p]/\(SqL X.K H p ys\/SqT X.K H p ys)/\∀l,H l=none->Q (.ref l) (upd H l (.lst ys))):=by
 intro pins s σ H xs us Q I r h
 obtain⟨p,ys,rfl,i,q⟩:=h
 obtain⟨u,rfl,v⟩:=vals1 r
 cases v
 have fin:∀(a:List Value),Vals ys a->ys.length<=sizeLine->∀(c:Heap) (d:Nat),(∀b o',s.heap.get? b=some o'->c.get? b=some o') ->
   c.get? s.heap.objs.size=some {cls := .type "list", dict:=none,data := .seq a.toArray d,slots := #[]}->EP X pins σ Q (.ref s.heap.objs.size) {s with heap:=c}:=λa f j c d g e =>
  ⟨.ref s.heap.objs.size,_,I.laid (t':=s.toks) g (ql _) (show dY X.prog X.w _ c _ (.lst ys) from ⟨j,a,d,f,e⟩),rfl,q _ (I.hok.fresh (ql _))⟩
 rcases i with i|i
 ·obtain⟨a,f,m,j⟩:=I.list i
  have hlen:=f.length
  obtain⟨o,t,k,n,hd⟩:=m.isList
  exact call_list_seq p (.inl rfl) t k hd (λc d g e=>fin a f j c d g e) (by simp only[qb] <;> omega)
 ·obtain⟨a,f,m,j⟩:=I.tuple i
  have hlen:=f.length
  obtain⟨o,t,k,n,hd⟩:=m
  exact call_list_seq p (.inr rfl) t k hd (λc d g e=>fin a f j c d g e) (by simp only[qb] <;> omega)
theorem cX:i7 X (.type "tuple") (λxs H Q=>∃p ys,xs=[.ref p]/\((SqL X.K H p ys/\∀l,H l=none->Q (.ref l) (upd H l (.tup ys)))\/(SqT X.K H p ys/\Q (.ref p) H))):=by
 intro pins s σ H xs us Q I r h
 obtain⟨p,ys,rfl,h⟩:=h
 obtain⟨u,rfl,k⟩:=vals1 r
 cases k
 rcases h with ⟨f,q⟩|⟨f,q⟩
 ·obtain⟨a,d,g,i⟩:=I.list f
  have hlen:=d.length
  refine call_tuple_list g.isList (λc j => ?_) (by simp only[qb] <;> omega)
  have I1:Inv X pins σ H {s with heap:=c}:=I.kept (t':=s.toks) j
  have I2:Inv X pins σ (upd H c.objs.size (.tup ys)) {s with heap:=c.push {cls := .type "tuple", data := .seq a.toArray} }:=
   I1.laid (t':=s.toks) (λb o e=>qc _ e) (ql _) (show dY X.prog X.w _ _ _ (.tup ys) from ⟨i,a,d,pd _ _⟩)
  exact⟨.ref c.objs.size,_,I2,rfl,q _ (I1.hok.fresh (ql _))⟩
 ·obtain⟨a,d,g,i⟩:=I.tuple f
  exact call_tuple_same g ⟨.ref p,H,I,rfl,q⟩
noncomputable def tyV(K:qe)(T:String)(x:V)(H:Hp):Prop:=match x with
 |.str _=>T = "str"
 |.int _=>T = "int"
 |.ref p=>(T = "list" /\ ∃xs,SqL K H p xs)\/(T = "tuple" /\ ∃o,K.lookup p=some o/\o.cls = .type "tuple" /\ o.dict=none) \/
   (T = "dict" /\ ((∃kvs,H p=some (.dK kvs))\/∃kvs,H p=some (.dT kvs)))\/(T = "set" /\ ∃S n,H p=some (.set S n))
 |_=>False
theorem aGM{T:String}{x:V}{v:Value}(I:Inv X pins σ H s)(r:RelV x v)(ty:tyV X.K T x H):
  s.TypeIs v T/\∀a,v = .ref a->∃ob,s.heap.get? a=some ob/\ob.dict=none:=by
 cases x with
 |str z =>
  obtain⟨t,rfl⟩:=r
  cases (show T = "str" from ty)
  exact⟨typeIs_str s z t,λ_ e=>nomatch e⟩
 |int i =>
  obtain⟨t,rfl⟩:=r
  cases (show T = "int" from ty)
  exact⟨typeIs_int s i t,λ_ e=>nomatch e⟩
 |ref p =>
  cases r
  rcases ty with ⟨rfl,xs,j⟩|⟨rfl,o,b,h,hd⟩|⟨rfl,b⟩|⟨rfl,S,n,b⟩
  ·obtain⟨k,_,g,_⟩:=I.list j
   refine⟨g.isList.typeIs,λa e => ?_⟩
   cases e
   obtain⟨o,n,e,c,hd,_⟩:=g
   exact⟨o,e,hd⟩
  ·refine⟨⟨o,I.kIn p o b,h⟩,λa e => ?_⟩
   cases e
   exact⟨o,I.kIn _ o b,hd⟩
  ·have z:∃o,s.heap.get? p=some o/\o.ExactDict:=by
    rcases b with ⟨f,b⟩|⟨f,b⟩
    ·obtain⟨_,_,_,_,o,_,_,e,ex,_⟩:=I.hok p _ b
     exact⟨o,e,ex⟩
    ·obtain⟨_,_,_,_,o,_,_,e,ex,_⟩:=I.hok p _ b
     exact⟨o,e,ex⟩
   obtain⟨o,e,ex⟩:=z
   refine⟨⟨o,e,ex.1⟩,λa d => ?_⟩
   cases d
   exact⟨o,e,ex.2.1⟩
  ·obtain⟨o,_,_,_,e,ex,_⟩:=I.hok p _ b
   refine⟨⟨o,e,ex.1⟩,λa d => ?_⟩
   cases d
   exact⟨o,e,ex.2.1⟩
 |_=>exact yj ty
noncomputable def tBM0(K:qe)(T:String)(r:V->List V->Hp->VK->Prop)(to:TE):TE:=λσ H Q=>to σ H λx H1=>tyV K T x H1/\r x [] H1 Q
noncomputable def tBM(K:qe)(T:String)(r:V->List V->Hp->VK->Prop)(to:TE)(t:TA):TE:=λσ H Q=>to σ H λx H1=>tyV K T x H1/\t σ H1 λxs H2=>r x xs H2 Q
variable {to:TE}{t:TA}{T id:String}
theorem aMR(pa:t6 T)(slot:Slot T name id)(hty:typeOf (.builtin id)=pure (.type "method_descriptor"))(hm:MtR X id r)(ho:PE X o to)(hbase:dq o name X.env (eval o X.env)=eval o X.env:=by rfl)(hline:(apos.endLine==cpos.line)=true:=by rfl):PE X (.Call (.Attribute o name apos) [] [] cpos) (tBM0 X.K T r to):=by
 intro pins s σ H Q I h
 refine wpAny_Call_method0_late hbase hline (thn (ho pins s σ H _ I h) λv s1 ⟨x,H1,I1,r1,ty,c⟩ => ?_)
 obtain⟨a,b⟩:=aGM I1 r1 ty
 exact⟨T,id,pa,slot,hty,a,b,cw rfl (PySem.evalArgs_none (hm pins s1 σ H1 x [] v [] Q I1 r1 .nil c))⟩
theorem aPK(pa:t6 T)(slot:Slot T name id)(hty:typeOf (.builtin id)=pure (.type "method_descriptor"))(hm:MtR X id r)(ho:PE X o to)(ha:PA X (e::es) t)(hbase:dq o name X.env (eval o X.env)=eval o X.env:=by rfl)(hfew:((bb cpos (starEach (e::es) X.env)).all (λx => !x.1)&&(backToKw cpos (Je [] X.env)).all (λx=>x.1.isSome)
   && decide ((e::es).length+([]:List fv).length+(if ([]:List fv).isEmpty then 0 else 1)<30))=true:=by rfl)(hline:(apos.endLine==cpos.line)=true:=by rfl)(hs:starEach (e::es) X.env=(false,eval e X.env)::starEach es X.env:=by rfl)(hplain:(bb cpos (starEach es X.env)).any (·.1)=false:=by rfl):
  PE X (.Call (.Attribute o name apos) (e::es) [] cpos) (tBM X.K T r to t):=by
 intro pins s σ H Q I h
 refine wpAny_Call_method_late hbase hfew hline rfl (thn (ho pins s σ H _ I h) λv s1 ⟨x,H1,I1,r1,ty,f⟩ => ?_)
 obtain⟨b,c⟩:=aGM I1 r1 ty
 refine⟨T,id,pa,slot,hty,b,c,?_⟩
 have hA:=ha cpos pins s1 σ H1 _ I1 f
 rw[hs] at hA ⊢
 refine cw (by show (false||(bb cpos (starEach es X.env)).any (·.1))=false;rw[hplain] <;> rfl) (rm ?_)
 exact thn hA λus s2 ⟨vs,H2,I2,r2,d⟩=>hm pins s2 σ H2 x vs v us Q I2 r1 r2 d
/- xs.append(e),list.index on a module's tuple .. are MtR facts of 06m -/
end
end L2
namespace L2
open PySem PySem.Spec PyProof.Rows
noncomputable def MtM(X:Cx)(id:String)(r:V->List V->Hp->VK->Prop):Prop:=
 ∀(pins:List (Addr×Obj)) (s:Shared) (σ:St) (H:Hp) (x:V) (xs:List V) (v:Value) (us:List Value) (Q:VK),Inv X pins σ H s->RelV x v->Vals xs us->r x xs H Q ->
  wpAny X.w.4 X.A (call (.builtin id) (v::us)) (EP X pins σ Q) X.xe s
theorem Vals.one:∀{x:V}{us:List Value},Vals [x] us->∃u,us=[u]/\RelV x u
 |_,_, .cons r .nil=>⟨_,rfl,r⟩
theorem Vals.zero:∀{us:List Value},Vals [] us->us=[]
 |_, .nil=>rfl
theorem Vals.dropLast{xs:List V}(h:Vals xs us):Vals xs.dropLast us.dropLast:=by
 induction h with
 |nil=>exact .nil
 |cons r t ih =>
  cases t with
  |nil=>exact .nil
  |cons q t'=>exact .cons r ih
theorem aCI{α:Type}(l:List α):l.eraseIdx (l.length-1)=l.dropLast:=by
 induction l with
 |nil=>rfl
 |cons a r ih =>
  cases r with
  |nil=>rfl
  |cons b r =>
   have e:(a::b::r).length-1=((b::r).length-1)+1:=by
    have c:(a::b::r).length=r.length+2:=rfl
    have d:(b::r).length=r.length+1:=rfl
    omega
   rw[e,List.eraseIdx_cons_succ,ih]
   all_goals rfl
section
variable {l b:Addr}{xs ys zs:List V}
theorem Inv.lset{its':List Value}{f:Array Value->Array Value}(I:Inv X pins σ H s)(hH:H l=some (.lst xs))(e:s.heap.get? l=some {cls := .type "list", data := .seq its.toArray n})(hf:f its.toArray=its'.toArray)(hv:Vals ys its')(hz:ys.length<=sizeLine):
  Inv X pins σ (upd H l (.lst ys)) {s with heap:=s.heap.update l (fy f),toks:=t' }:=by
 have q:=PySem.IsL.update e f
 rw[hf] at q
 refine I.write (x:=l) (e:=l) (by rw[hH];exact trivial) (.inl rfl) (λc u b a=>(pw s.heap (fy f) (ya b)).trans a) ⟨_,q⟩ ?_
 exact⟨hz,its',_,hv,q⟩
theorem Inv.lnew(I:Inv X pins σ H s)(hv:Vals ys its)(hz:ys.length<=sizeLine):
  Inv X pins σ (upd H s.heap.objs.size (.lst ys)) {s with heap:=s.heap.push {cls := .type "list", data := .seq its.toArray},toks:=t' }:=
 I.laid (λ_ _ q=>qc _ q) (ql _) ⟨hz,its,0,hv,qu _ rfl⟩
theorem Inv.fresh(I:Inv X pins σ H s):H s.heap.objs.size=none:=I.hok.fresh (ql _)
theorem Inv.lstM(I:Inv X pins σ H s)(hH:H l=some (.lst xs)):xs.length<=sizeLine/\∃(its:List Value) (n:Nat),Vals xs its/\xs.length=its.length/\s.heap.get? l=some {cls := .type "list", data := .seq its.toArray n}:=by
 obtain⟨z,its,n,r,e⟩:=I.hok l _ hH
 exact⟨z,its,n,r,r.length,e⟩
theorem aH1(h:n<=sizeLine):fo n=false:=by
 unfold fo
 exact decide_eq_false '!'
end
section
noncomputable def aB8:V->List V->Hp->VK->Prop:=λx vs H Q=>∃l xs y,x = .ref l/\vs=[y]/\H l=some (.lst xs)/\xs.length<sizeLine/\Q .non (upd H l (.lst (xs++[y])))
theorem fH:MtM X "list.append" aB8:=by
 intro pins s σ H x vs v us Q I f c h
 obtain⟨l,xs,y,rfl,rfl,b,g,q⟩:=h
 cases f
 obtain⟨u,rfl,d⟩:=c.one
 obtain⟨z,a,n,r,hl,e⟩:=I.lstM b
 refine tw F.slot_list_append ⟨_,e,rfl⟩ F.entry_list_append (F.args_list_append_2 _ _) (PySem.list_append l a.toArray n u (by rw[qb];omega)) ⟨e,?_⟩
 refine⟨.non,_,I.lset (its':=a++[u]) b e '$' (r.append (.cons d .nil)) ?_,rfl,q⟩
 rw[qh,jm]
 omega
noncomputable def rPop:V->List V->Hp->VK->Prop:=λx vs H Q=>∃l xs y,x = .ref l/\vs=[]/\H l=some (.lst xs)/\xs[xs.length-1]?=some y/\Q y (upd H l (.lst xs.dropLast))
theorem aNW:MtM X "list.pop" rPop:=by
 intro pins s σ H x vs v us Q I j g h
 obtain⟨l,xs,y,rfl,rfl,d,f,q⟩:=h
 cases j
 have c:=g.zero
 subst c
 obtain⟨z,a,n,r,hl,e⟩:=I.lstM d
 obtain⟨u,k,i⟩:=r.get f
 have b:a.toArray[a.toArray.size-1]?=some u:=by
  show a.toArray[a.length-1]?=some u
  rw[<- Array.getElem?_toList,<- hl]
  exact k
 refine tw F.slot_list_pop ⟨_,e,rfl⟩ F.entry_list_pop (F.args_list_pop_1 _) (MeetsSeq.list_pop_last l a.toArray n u b (by rw[qb];omega)) ⟨e,?_⟩
 refine⟨y,_,I.lset (its':=a.dropLast) d e ?_ r.dropLast ?_,i,q⟩
 ·show a.toArray.eraseIdxIfInBounds (a.toArray.size-1)=a.dropLast.toArray
  rw[qb,List.eraseIdxIfInBounds_toArray,aCI]
 ·rw[q7]
  omega
noncomputable def rCat:R2:=λx y H Q=>∃l b xs zs,x = .ref l/\y = .ref b/\H l=some (.lst xs)/\H b=some (.lst zs)/\xs.length+zs.length<=sizeLine/\∀p,H p=none->Q (.ref p) (upd H p (.lst (xs++zs)))
theorem kA:OpR X (we .Add) rCat:=by
 intro pins s σ H x y v u Q I f j h
 obtain⟨l,b,xs,zs,rfl,rfl,g,hB,m,q⟩:=h
 cases f
 cases j
 obtain⟨z,c,n,r,hl,e⟩:=I.lstM g
 obtain⟨k,a,o,r2,hl2,d⟩:=I.lstM hB
 refine PySem.P.add_list e d ?_ (by rw[qb,qb];omega)
 have i:c.toArray++a.toArray=(c++a).toArray:=by simp
 rw[i]
 exact⟨.ref _,_,I.lnew (t':=s.toks) (r.append r2) (by rw[qh];omega),rfl,q _ I.fresh⟩
end
section
variable {E:Value->Shared->Prop}
set_option maxRecDepth 100000 in
end
section
end
end L2
namespace Att
open PySem PySem.W PySem.Calls PyProof.Rows
theorem sQ{P:x4}:∀(ns:List Int) (vs:List Value),WellAll P h vs (ns.map WData.int)->IntsAre vs ns:=by
 intro ns
 induction ns with
 |nil =>
  intro vs w
  rw[JS] at w
  cases w
  exact .nil
 |cons n ns ih =>
  intro vs w
  rw[jd] at w
  cases w with
  |cons a b =>
   cases a
   exact .cons _ _ (ih _ b)
theorem aF1{l:OpenLaw}(hn:l.most=some n){P:x4}{args:List WData}{vals:List Value}(hpre:l.row.toRowW.claim.pre args=true)(hwl:WellAll P h vals args):
  ∃a vs ns,vals=[wj a]/\args=[WData.list (ns.map WData.int)]/\h.get? a=some {cls := .type "list", data := .seq vs.toArray}/\IntsAre vs ns/\ns.length<=n:=by
 have e:WShape.hasAll [] args [.list .int]=true:=(pre_splitW hpre).1
 have f:l.pre.holds [] {args:=args}=true:=(pre_splitW hpre).2
 obtain⟨d,r,rfl,g,k⟩:=hasAllW_cons e
 obtain rfl:=hasAllW_nil k
 obtain⟨xs,rfl,i⟩:=hasW_list g
 obtain⟨ns,rfl⟩:=items_int i
 have hlen:ns.length<=n:=by
  unfold OpenLaw.pre at f
  have b:(WTm.not (.lt (.lit (.int (n:Int))) (.len (.arg 0)))).holds [] {args:=[.list (ns.map .int)]}=true:=by
   have b:=(holds_andW f).1
   rw[hn] at b
   exact b
  have c:=condW_of b (w_not (w_lt w_lit (w_len_list (w_arg rfl))))
  rw[zLm] at c
  refine Q1 λq => ?_
  have j:(n:Int)<((ns.length:Nat):Int):=by omega
  first
   | (rw[decide_eq_true j] at c;exact absurd c (by decide))
   | (simp at c;omega)
 cases hwl with
 |cons w1 w2 =>
  cases w2
  cases w1 with
  |list ho hall=>exact⟨_,_,ns,rfl,rfl,ho,sQ ns _ hall,hlen⟩
theorem aET(l:OpenLaw)(args:List WData):l.row.toRowW.claim.post args (.bool true) args=true:=
 postW_of (r:=l.row.toRowW) (X:=(true==true))
  (show WShape.has [] (.bool true) .bool=true by first|rfl|decide|simp[WShape.has,WShape.arms,WShape.armsAll])
  (show (WTm.eq .res (.lit (.bool true))).value [] {args:=args,res:=some (.bool true),after:=args}=some (.bool (true==true)) from w_eq_bool (w_res rfl) w_lit) rfl
theorem aAW{l:OpenLaw}{XP:(Str->Option Value)->Heap->Prop}{d:DefRec}(hn:l.most=some n)(hdf:d.params.defaults=[])(call:∀(w:World) (s₀ s₁:Shared) (mg mb:Str->Option Value) (fa:Addr) (o:Obj) (pm cd doc:Value) (a:Addr) (vs:List Value) (ns:List Int),
   Ground q loose [] XP w s₀ mg mb s₁.heap->YP w s₁.heap ->
   s₁.heap.get? fa=some o->o.data = .func (docDef d.name d.params d.body d.scope pm cd doc)->s₁.heap.CodeRec cd d.name->mg d.name=some (.ref fa) ->
   s₁.heap.get? a=some {cls := .type "list", data := .seq vs.toArray}->IntsAre vs ns->ns.length<=n->s₁.gens = #[] ->
   nz (jt l.prog w) n3 (.call (.ref fa) ⟨[.ref a],[]⟩) (λr s'=>r = .ok (.ret (.bool true))/\OldK s₁.heap s'.heap/\s'.os=s₁.os/\fw s'.gens) s₁):
  WalkO q loose XP YP l.row.toRowW d [] (λf vs=>Qh f vs):=by
 intro w s₀ s₁ mg mb G Y fa o pm cd doc p kV z hd g i e y args vals as b j v h k
 obtain rfl:p = .none:=Dflts.none i hdf
 obtain rfl:kV = .none:=Dflts.noKw i
 obtain⟨a,vs,ns,rfl,rfl,c,hints,hlen⟩:=aF1 hn b h
 refine enter_call (QD (call w s₀ s₁ mg mb fa o pm cd doc a vs ns G Y z (fd_plain hd) g e c hints hlen y) λr s' t => ?_)
 obtain⟨rfl,x,u,m⟩:=t
 exact⟨.inl ⟨.bool true, .bool true,[],rfl,λ_=>rfl, .bool true,aET l _,λ_=>⟨dg,λ_ hm=>(nomatch hm)⟩⟩,x,u,m⟩
section
variable {E:Value->Shared->Prop}{K:Frag}
end
end Att
namespace L2
open PySem PySem.Spec PyProof.Rows
theorem wI:∀{vs:List Value}{ns:List Int},IntsAre vs ns->Vals (ns.map V.int) vs
 |_,_, .nil => .nil
 |_,_, .cons n t h => .cons ⟨t,rfl⟩ (wI h)
noncomputable def Only(H:Hp):Prop:=∀b,H b=none\/∃o xs,H b=some (.frz o (.lst xs))
theorem aH7{K:qe}{mb:Str->Option Value}{CX:CXT}{k:Nat}{fa:Addr}{sp:Sp}{s₁:Shared}{vs:List Value}{ns:List Int}(KX:K.In s₁.heap)(hns:s₁.heap.Ns j2 mg)(hb:s₁.heap.Ns tx mb)(hbb:∀x:Str,x ≠ "__name__" -> mb x=kf x)(hlim:s₁.heap.NoLimit)(hg:s₁.gens = #[])(ha:s₁.heap.get? a=some {cls := .type "list", data := .seq vs.toArray})(hi:IntsAre vs ns)(hl:ns.length<=sizeLine)(hr:Room k n3)(F:∀base:Heap,K.In base->base.Ns j2 mg->FnOk P w K mg base CX k fa fd [x] sp)(hbind:∀(s:Shared) (u:Value),BindsTo s fd ⟨[u],[]⟩ [(x,u)])(hsp:∀H:Hp,Only H->SqL K H a (ns.map V.int)->sp [.ref a] H (λv _=>v = .bl true) λ_ _ _=>False)(hCX:∀H e s',CX [] H s₁ (λ_ _ _=>False) e s'->False):
  nz (jt P w) n3 (.call (.ref fa) ⟨[.ref a],[]⟩) (λr s'=>r = .ok (.ret (.bool true))/\OldK s₁.heap s'.heap/\s'.os=s₁.os/\fw s'.gens) s₁:=by
 have D:=wI hi
 have y:=hi.length
 -- from an abstract heap in which nothing but the script may be tracked
 have core:∀H:Hp,Only H->SqL K H a (ns.map V.int)->HOk P w H s₁.heap->(∀b,H b≠none->b=a)->(H a≠none->K.lookup a=none) ->
   nz (jt P w) n3 (.call (.ref fa) ⟨[.ref a],[]⟩) (λr s'=>r = .ok (.ret (.bool true))/\OldK s₁.heap s'.heap/\s'.os=s₁.os/\fw s'.gens) s₁:=by
  intro H E L l hA N
  have c:∀{b:Addr}{o:Obj},s₁.heap.get? b=some o->H b=none->(nO s₁.heap H).get? b=some o:=λe n=>aIW e n
  have B:∀{b:Addr}{o:Obj}{p:Array DictEntry}{t:Nat},s₁.heap.get? b=some o->o.data = .dict p t->H b=none:=λ{b o p t} e d=>by
   cases q:H b with
   |none=>rfl
   |some u =>
    have A:b=a:=hA b (by rw[q];simp)
    subst A
    rw[ha] at e;cases e
    have R:Data.seq vs.toArray _=Data.dict p t:=d
    cases R
  have f:∀{b:Addr}{m:Str->Option Value},s₁.heap.Ns b m->(nO s₁.heap H).Ns b m:=λ{b m} ⟨o,p,t,e,d,r⟩=>⟨o,p,t,c e (B e d),d,r⟩
  have g:K.In (nO s₁.heap H):=λb o e=>c (KX b o e) (by
   cases q:H b with
   |none=>rfl
   |some u =>
    have A:b=a:=hA b (by rw[q];simp)
    subst A
    rw[N (by rw[q];simp)] at e;cases e)
  have J:Mod K mg (nO s₁.heap H):=⟨g,f hns,⟨mb,f hb,hbb⟩,let ⟨mc,h1,h2⟩:=hlim;⟨mc,f h1,h2⟩⟩
  have I:Env0 P w K mg (nO s₁.heap H) n3 [] s₁ H:=⟨rfl,J,λb o e=>aJU e,z6 (aFU _ _),trivial,λb hb=>absurd (show b∈([]:List Addr) from hb) '$',l, .of_eq hg⟩
  refine QD ((F _ g (f hns)).run n3 [] s₁ H ⟨[.ref a],[]⟩ [.ref a] [.ref a] _ _ hr I (hbind s₁ (.ref a)) (.cons rfl .nil) (hsp H E L)) λr s' h => ?_
  cases r with
  |error e=>exact (hCX H e s' h).elim
  |ok fl =>
   cases fl with
   |next=>exact yj h
   |brk=>exact yj h
   |cont=>exact yj h
   |ret u =>
    obtain⟨v,H',os,bare,un,j,Q,q⟩:=h
    have M:v = .bl true:=q
    subst M
    obtain rfl:u=k5 true:=Q
    refine⟨rfl,OldK.of_keep λb o e => ?_,os,bare⟩
    cases q:H b with
    |none=>exact un.keep b o e q (by intro z;exact absurd (show b∈([]:List Addr) from z) '$') '$'
    |some u =>
     rcases E b with z|⟨ob,xs,z⟩
     ·rw[q] at z;cases z
     ·have O:=un.frzs b ob _ z
      obtain⟨C,_⟩:=l b _ z
      obtain⟨G,_⟩:=j b _ O
      rw[e] at C;cases C
      exact G
 cases hk:K.lookup a with
 |some o =>
  -- the script is one of the module's own objects
  have e:=KX a o hk
  rw[ha] at e
  cases e
  refine core (λ_=>none) (λ_ => .inl rfl) (.inr ⟨_,vs.toArray,_,hk,rfl,rfl,rfl,by rw[qb,y];exact hl,by simpa using D⟩) (λb u z=>by have i:(none:Option HO)=some u:=z;cases i) (λb z=>absurd rfl z) λz=>absurd rfl z
 |none =>
  refine core (λb=>if b=a then some (.frz {cls := .type "list", data := .seq vs.toArray} (.lst (ns.map V.int))) else none) (λb => ?_) (.inl (.inr ⟨{cls := .type "list", data := .seq vs.toArray},if_pos rfl⟩)) (λb u z => ?_) (λb z => ?_) λ_=>hk
  ·by_cases hb:b=a
   ·exact .inr ⟨_,_,if_pos hb⟩
   ·exact .inl (if_neg hb)
  ·by_cases hb:b=a
   ·have i:=(if_pos hb).symm.trans z
    cases i
    subst hb
    exact⟨ha,by rw[zLm];exact hl,vs,_,D,ha⟩
   ·have i:=(if_neg hb).symm.trans z
    cases i
  ·by_cases hb:b=a
   ·exact hb
   ·exact absurd (if_neg hb) z
theorem aJ1{l:fz}{k:Nat}{XP:(Str->Option Value)->Heap->Prop}{d:DefRec}{K:x4->qe}{CX:World->CXT}{sp:World->Sp}(hn:l.most=some n)(hn2:n<=sizeLine)(hdf:d.params.defaults=[])(hr:Room k n3)(hY:∀(w:World) (h:Heap),YP w h->(K w.params).In h)(F:∀(w:World) (mg:Str->Option Value) (fa:Addr) (h:Heap),(K w.params).In h->h.Ns j2 mg->mg d.name=some (.ref fa) ->
   ∃fd:FuncData,(∀(s:Shared) (u:Value),BindsTo s fd ⟨[u],[]⟩ [(x,u)]) /\
    ∀base:Heap,(K w.params).In base->base.Ns j2 mg->FnOk l.prog w (K w.params) mg base (CX w) k fa fd [x] (sp w))(hsp:∀(w:World) (H:Hp) (a:Addr) (ns:List Int),ns.length<=n->Only H->SqL (K w.params) H a (ns.map V.int)->sp w [.ref a] H (λv _=>v = .bl true) λ_ _ _=>False)(hCX:∀(w:World) (H:Hp) (s:Shared) (e:Value) (s':Shared),CX w [] H s (λ_ _ _=>False) e s'->False):
  QJ q loose XP YP l.row.toRowW d [] (λf vs=>Qh f vs):=by
 refine Att.aAW hn hdf λw s₀ s₁ mg z fa o pm cd doc a vs ns G Y A hd r i c hints hlen t => ?_
 have KX:=hY w _ Y
 obtain⟨fd,y,j⟩:=F w mg fa _ KX G.T.g i
 exact aH7 KX G.T.g G.T.b G.T.builtins G.T.nolimit t c hints (jn hlen hn2) hr j y (λH m p=>hsp w H a ns hlen m p) λH e s'=>hCX w H s₁ e s'
noncomputable def fF(s:Stmt):Arguments:=match s with
 |.FunctionDef _ a _ _ _ _ _ _ _ _=>a
 |_=>{posonlyargs:=[],args:=[],vararg:=none,kwonlyargs:=[],kw_defaults:=[],kwarg:=none,defaults:=[]}
noncomputable def eE(s:Stmt):List Stmt:=match s with
 |.FunctionDef _ _ b _ _ _ _ _ _ _=>b
 |_=>[]
noncomputable def aM(s:Stmt):Scope:=match s with
 |.FunctionDef _ _ _ _ _ _ sc _ _ _=>sc
 |_=>{kind := .function,names:=[],isGenerator:=false,isCoroutine:=false}
abbrev CX0:CXT:=λ_ _ _ _ _ _=>False
abbrev E0:XK:=λ_ _ _=>False
theorem pass0:Passes CX0 X E0:=λ_ _ _ _ _ _ _ h=>h.elim
structure Fun(K:qe)(x qual:Str)(st:Stmt)(f:Addr)(fd:FuncData):Prop where
 ex:∃(oc:Value) (od:Option Addr) (kV doc pm:Value) (an:Option Addr) (cdv ct:Value) (osl:Array (Option Value)),
  fd=w4 x qual (fF st) (eE st) (aM st) .none kV doc pm an cdv ct/\K.lookup f=some ⟨oc,od, .func fd,osl⟩/\g0 K cdv qual=true
 kp:y4 K (.ref f)=true
section
variable {K:qe}
theorem Fun.ok{st:Stmt}{ps:List Str}{k:Nat}{sp:Sp}(F:Fun K x qual st f fd)(S:FnScope N ps (aM st))(len:∀vs H Q E,sp vs H Q E->vs.length=ps.length)(hbody:∀(cdv:Value) (A:Around) (outer:List Env) (s:Shared) (H:Hp) (vs:List V) (Q:VK) (E:XK),Room k (A.deeper (nu qual (aM st) s.heap.objs.size f cdv))->sp vs H Q E ->
   ∃t,PSs (rR CX0 P w K mg base N qual (aM st) f cdv A outer s H E).nox (eE st) t/\t {nx:=λ_ H'=>Q .non H',rt:=Q} (start N vs) H):FnOk P w K mg base CX0 (k+1) f fd ps sp:=by
 obtain⟨i,j,kV,doc,pm,an,cdv,g,e,rfl,c,b⟩:=F.ex
 refine aO0 c b S len λA outer s H vs Q E d a => ?_
 obtain⟨t,h,q⟩:=hbody cdv A outer s H vs Q E d a
 exact⟨t,h.nox,q⟩
theorem Fun.binds{st:Stmt}{ps:List Str}(F:Fun K x qual st f fd)(h:∀(kV doc pm:Value) (an:Option Addr) (cdv ct:Value) (us:List Value),us.length=ps.length->Jq (w4 x qual (fF st) (eE st) (aM st) .none kV doc pm an cdv ct) ⟨us,[]⟩=pure (ps.zip us)):Binds K fd ps []:=by
 obtain⟨d,e,kV,doc,pm,an,cdv,ct,a,rfl,c,b⟩:=F.ex
 exact .all (h kV doc pm an cdv ct)
theorem aN5{st:Stmt}{oc:Value}{an:Option Addr}{osl:Array (Option Value)}{kV doc pm cdv ct:Value}(l:K.lookup f=some ⟨oc,od, .func (w4 x qual (fF st) (eE st) (aM st) .none kV doc pm an cdv ct),osl⟩)(c:g0 K cdv qual=true)(k:y4 K (.ref f)=true):Fun K x qual st f (w4 x qual (fF st) (eE st) (aM st) .none kV doc pm an cdv ct):=⟨⟨oc,od,kV,doc,pm,an,cdv,ct,osl,rfl,l,c⟩,k⟩
end
section
end
theorem jA{A B:Prop}(h:B):if false=true then A else B:=by
 rw[if_neg zBf]
 exact h
theorem cT{A B:Prop}(h:A):if true=true then A else B:=by
 rw[if_pos rfl]
 exact h
theorem ite2{c A B:Prop}[Decidable c](h1:c->A)(h2:¬c->B):if c then A else B:=by
 by_cases h:c
 ·rw[if_pos h]
  exact h1 h
 ·rw[if_neg h]
  exact h2 h
noncomputable def Same(H H':Hp):Prop:=∀b o,H b=some o->H' b=some o
theorem Same.refl(H:Hp):Same H H:=λ_ _ h=>h
theorem Same.trans{H2:Hp}(a:Same H H1)(b:Same H1 H2):Same H H2:=λc o h=>b c o (a c o h)
theorem Same.free(e:Same H H'){l:Addr}(h:H' l=Jv):H l=Jv:=by
 cases q:H l with
 |none=>rfl
 |some o =>
  rw[e l o q] at h
  cases h
theorem Same.seq{K:qe}{xs:List V}(e:Same H H')(h:SqL K H a xs):SqL K H' a xs:=by
 rcases h with (h|⟨o,h⟩)|h
 ·exact .inl (.inl (e _ _ h))
 ·exact .inl (.inr ⟨o,e _ _ h⟩)
 ·exact .inr h
end L2
namespace HB
open PySem PySem.W
abbrev S(x:String)(k:Nat):Value := .str (ja x) k
abbrev R(a:Nat):Value := .ref a
abbrev I(a:Int):Value := .int a 0
abbrev J(a:Int)(k:Nat):Value := .int a k
abbrev E(P:x4)(x:String)(k:Nat)(v:Value):DictEntry:=⟨PyData.keyHash P (ja x), .str (ja x) k,v⟩
abbrev tO(l:List Value):Obj:=⟨.type "tuple", none, .seq l.toArray 0,#[]⟩
abbrev vO(l:List Value):Obj:=⟨.none,none, .fields l.toArray,#[]⟩
abbrev dO(l:List DictEntry)(n:Nat):Obj:=⟨.type "dict", none, .dict l.toArray n,#[]⟩
abbrev fO(n:String)(s:Stmt)(pm:Value)(cd:Nat):Obj:=⟨.type "function", none, .func {name:=ja n,qualname:=ja n,params:=L2.fF s,body := .stmts (L2.eE s),scope:=L2.aM s,globals:=3,closure:=[],defaults := .none,kwdefaults := .none,doc := .none,pyModule:=pm,annotations:=none,code := .ref cd,closureTuple := .none,builtins:=0},#[]⟩
abbrev pO(n:String)(s:Stmt):Obj:=⟨.none,none, .func {name:=ja n,qualname:=ja n,params:=L2.fF s,body := .stmts (L2.eE s),scope:=L2.aM s,globals:=0,closure:=[],defaults := .none,kwdefaults := .none,doc := .none,pyModule := .none,annotations:=none,code := .none,closureTuple := .none,builtins:=0},#[]⟩
abbrev cO(n f:String)(t1 t2 t3 l1 c1 c2 c3 c4 a1 a2 a3 a4 a5 t4 l2 t5:Nat)(b:Bool)(k:Nat):Obj:=⟨.type "code", none, .fields #[S n t1,S n t2,S f t3,I l1,I c1,I c2,I c3,I c4,R a1, .bool b,I k,R a2, .none,R a3,R a4,R a5,I t4,I l2,S f t5],#[]⟩
noncomputable def fl:String := "/claim/cut.py"
noncomputable def vs:Nat->List String->List Value
 |_,[]=>[]
 |k,x::xs => .str (ja x) k::vs (k+1) xs
noncomputable def D7(s:Stmt)(n:String)(b t l c:Nat)(ns:List String)(pm:Value):List Obj:=
 [tO [],vO [],tO (vs (t+3) ns),tO [],pO n s,cO n "/claim/cut.py" t (t+1) (t+2) l c 0 0 3 b (b+1) (b+2) (b+3) (b+4) (t+3+ns.length) l (t+4+ns.length) true 181,fO n s pm (b+5)]
noncomputable def ov{a:Type}:List (Nat×a)->List a->List a
 |[],l=>l
 | (i,x)::r,l=>ov r (l.set i x)
noncomputable def ev{a:Type}:Nat->List a->List a
 |0,_=>[]
 |_+1,[]=>[]
 |_+1,[x]=>[x]
 |n+1,x::_::r=>x::ev n r
noncomputable def bt:Nat->List Obj->BT
 |0,_ => .nil
 |_+1,[] => .nil
 |n+1,x::r => .node x (bt n (ev (2^n) r)) (bt n (ev (2^n) r.tail))
abbrev sh(h:Heap)(k:Nat)(os:zf):Shared:=⟨h,Array.mk [],{},k,os⟩
abbrev sT(t:BT)(n k:Nat)(os:zf):SharedT:=⟨t,n,{},Array.mk [],{},k,os⟩
abbrev ps(a b c d:Nat):Pos:=⟨a,b,c,d⟩
abbrev z:Pos:=⟨0,0,0,0⟩
abbrev B:List Frame:=[topFrame z]
theorem aDM:segRunT x5=Kq wh:=by rw[Kx,ky]
theorem eGo:topGo x5=Kl wh:=by rw[Kt,ky]
theorem eSeg:segRun x5=Km wh:=by rw[Ku,ky]
theorem eTop:topRun x5=Ko wh:=by rw[Kv,ky]
end HB
namespace Q
open PySem
noncomputable def top(i:Nat):Stmt:=PySem.Challenge.pw_roofridges_k19_whole_corners_pieces_hole.main.body.getD i (.Pass ⟨0,0,0,0⟩)
abbrev qG:Stmt:=top 1
abbrev nU:Stmt:=top 2
abbrev oU:Stmt:=top 4
abbrev mC:Stmt:=top 5
abbrev mI:Stmt:=top 6
abbrev oJ:Stmt:=top 7
abbrev oX:Stmt:=top 8
abbrev kO:Stmt:=top 9
abbrev lB:Stmt:=top 10
abbrev fU:Stmt:=top 12
abbrev mH:Stmt:=top 13
abbrev iD:Stmt:=top 17
abbrev lA:Stmt:=top 18
abbrev oP:Stmt:=top 19
abbrev jZ:Stmt:=top 20
abbrev mL:Stmt:=top 21
abbrev nP:Stmt:=top 22
abbrev qA:Stmt:=top 23
abbrev jX:Stmt:=top 25
abbrev jG:Stmt:=top 26
abbrev jH:Stmt:=top 27
abbrev nW:Stmt:=top 28
abbrev tL:Stmt:=top 29
abbrev oE:Stmt:=top 30
abbrev uB:Stmt:=top 32
abbrev uC:Stmt:=top 33
abbrev nN:Stmt:=top 34
abbrev qQ:Stmt:=top 35
abbrev qV:Stmt:=top 36
abbrev mF:Stmt:=top 37
abbrev oO:Stmt:=top 38
abbrev sG:Stmt:=top 39
abbrev aMD:Stmt:=top 40
abbrev l9:Stmt:=top 41
abbrev iE:Stmt:=top 42
abbrev qU:Stmt:=top 43
abbrev qO:Stmt:=aMD
end Q
namespace HD
open PySem PySem.W HB Q
noncomputable section
abbrev zS0:Value:=S "law_roofridges_k19_whole_corners_pieces_hole" 422
abbrev zS1:Value:=S "roofridges.pieces" 283
abbrev zS2:Value:=S "roofridges.yards" 209
abbrev zS3:Value:=S "roofridges.sets" 380
abbrev zS4:Value:=S "roofridges.fractions" 187
abbrev zS5:Value:=S "roofridges.fronts" 257
noncomputable def es3(P:x4):List DictEntry:=[E P "__name__" 165 HD.zS0,E P "__doc__" 166 .none,E P "__package__" 167 .none,E P "__loader__" 168 (.builtin "__main__.__loader__#opaque"),E P "__spec__" 169 .none,E P "__annotations__" 170 (R 6),E P "__builtins__" 171 (R 4),E P "__file__" 173 (172).6,E P "__cached__" 174 .none,E P "under" 196 (R 21),E P "merged" 208 (R 28),E P "column" 216 (R 33),E P "columns" 222 (R 38),E P "changes" 228 (R 43),E P "picked" 234 (R 48),E P "tidied" 240 (R 53),E P "bands_at" 246 (R 58),E P "has_cell" 256 (R 65),E P "corner_kind" 269 (R 72),E P "corners" 282 (R 79),E P "STRAIGHT" 295 (R 84),E P "ALL_ROUND" 318 (R 93),E P "cells_where" 329 (R 100),E P "gathered" 343 (R 107),E P "groups" 355 (R 114),E P "group_row" 361 (R 119),E P "yard_of" 367 (R 124),E P "pieces" 373 (R 129),E P "holes" 379 (R 134),E P "finer_row" 387 (R 139),E P "finer_rows" 393 (R 144),E P "chosen_row" 399 (R 149),E P "chosen" 405 (R 154),E P "both" 413 (R 161),E P "either" 421 (R 168),E P "_law_feed" 433 (R 175),E P "_law_next" 444 (R 182),E P "_law_shared" 452 (R 189),E P "_law_lines" 466 (R 196),E P "_law_is_in" 480 (R 203),E P "_law_tidied" 486 (R 208),E P "_law_across" 492 (R 213),E P "_law_tidy" 502 (R 220),E P "_law_yard" 508 (R 225),E P "_law_counted" 514 (R 230),E P "_law_parts_right" 525 (R 237),E P "law" 538 (R 244)]
noncomputable def es12:List Value:=[(I 2),(I 0),(R 20),(I 4),(I 0),(R 27),(I 17),(I 0),(R 32),(I 19),(I 0),(R 37),(I 22),(I 0),(R 42),(I 28),(I 0),(R 47),(I 30),(I 0),(R 52),(I 35),(I 0),(R 57),(I 40),(I 0),(R 64),(I 46),(I 0),(R 71),(I 56),(I 0),(R 78),(I 67),(I 0),(R 99),(I 74),(I 0),(R 106),(I 85),(I 0),(R 113),(I 94),(I 0),(R 118),(I 96),(I 0),(R 123),(I 100),(I 0),(R 128),(I 102),(I 0),(R 133),(I 106),(I 0),(R 138),(I 108),(I 0),(R 143),(I 112),(I 0),(R 148),(I 114),(I 0),(R 153),(I 120),(I 0),(R 160),(I 122),(I 0),(R 167),(I 125),(I 0),(R 174),(I 133),(I 0),(R 181),(I 144),(I 0),(R 188),(I 148),(I 0),(R 195),(I 158),(I 0),(R 202),(I 165),(I 0),(R 207),(I 170),(I 0),(R 212),(I 172),(I 0),(R 219),(I 178),(I 0),(R 224),(I 187),(I 0),(R 229),(I 193),(I 0),(R 236),(I 201),(I 0),(R 243)]
noncomputable def hl0(P:x4):List Obj:=[boot_o_0 P]++[boot_o_1 P]++[boot_o_2 P]++[dO (es3 P) 47]++[boot_o_4 P]++[boot_o_5 P]++[boot_o_6 P]++[boot_o_7 P]++[boot_o_8 P]++[boot_o_9 P]++[boot_o_10 P]++[tO []]
noncomputable def hl1(P:x4):List Obj:=[vO es12]++[⟨.type "code", none, .fields #[(S "<module>" 182),(S "<module>" 183),(184).6,(I 1),(I 0),(I 0),(I 0),(I 0),(R 11),(.bool false),(I 181),(R 12), .none, .none, .none, .none,(I 185),(I 1),(186).6],#[]⟩]++[⟨(.type "frame"),none, .plain,#[some (R 13),some (R 3),some (R 3),none,some (S "__main__" 164),none,some (R 0)]⟩]++D7 (1).3 "under" 15 189 2 2 ["one", "other"] HD.zS4++D7 (2).3 "merged" 22 197 4 2 ["one", "other", "told", "first", "second", "ahead"] HD.zS4++[tO []]++[vO []]++[pO "column" (4).3]++[⟨.type "code", none, .fields #[(S "column" 211),(S "column" 212),(213).6,(I 17),(I 2),(I 0),(I 0),(I 3),(R 29),(.bool true),(I 181),(R 30), .none, .none, .none,(R 31),(I 214),(I 17),(215).6],#[]⟩]++[fO "column" (4).3 HD.zS2 32]++[tO []]++[vO []]
noncomputable def hl2(P:x4):List Obj:=[pO "columns" (5).3]++[⟨.type "code", none, .fields #[(S "columns" 217),(S "columns" 218),(219).6,(I 19),(I 1),(I 0),(I 0),(I 3),(R 34),(.bool true),(I 181),(R 35), .none, .none, .none,(R 36),(I 220),(I 19),(221).6],#[]⟩]++[fO "columns" (5).3 HD.zS2 37]++[tO []]++[vO []]++[pO "changes" (6).3]++[⟨.type "code", none, .fields #[(S "changes" 223),(S "changes" 224),(225).6,(I 22),(I 1),(I 0),(I 0),(I 3),(R 39),(.bool true),(I 181),(R 40), .none, .none, .none,(R 41),(I 226),(I 22),(227).6],#[]⟩]++[fO "changes" (6).3 HD.zS2 42]++[tO []]++[vO []]++[pO "picked" (7).3]++[⟨.type "code", none, .fields #[(S "picked" 229),(S "picked" 230),(231).6,(I 28),(I 2),(I 0),(I 0),(I 3),(R 44),(.bool true),(I 181),(R 45), .none, .none, .none,(R 46),(I 232),(I 28),(233).6],#[]⟩]
noncomputable def hl3(P:x4):List Obj:=[fO "picked" (7).3 HD.zS2 47]++[tO []]++[vO []]++[pO "tidied" (8).3]++[⟨.type "code", none, .fields #[(S "tidied" 235),(S "tidied" 236),(237).6,(I 30),(I 3),(I 0),(I 0),(I 3),(R 49),(.bool true),(I 181),(R 50), .none, .none, .none,(R 51),(I 238),(I 30),(239).6],#[]⟩]++[fO "tidied" (8).3 HD.zS2 52]++[tO []]++[vO []]++[pO "bands_at" (9).3]++[⟨.type "code", none, .fields #[(S "bands_at" 241),(S "bands_at" 242),(243).6,(I 35),(I 2),(I 0),(I 0),(I 3),(R 54),(.bool true),(I 181),(R 55), .none, .none, .none,(R 56),(I 244),(I 35),(245).6],#[]⟩]++[fO "bands_at" (9).3 HD.zS2 57]++D7 (10).3 "has_cell" 59 247 40 3 ["yard", "across", "up", "rows"] HD.zS2
noncomputable def hl4(P:x4):List Obj:=D7 (12).3 "corner_kind" 66 259 46 3 ["yard", "across", "up", "cells", "inside"] HD.zS5++D7 (13).3 "corners" 73 270 56 1 ["yard", "told", "across", "x", "up", "y", "kind"] HD.zS5++[tO [(J 1 285),(J 0 286)]]++[tO [(J 0 287),(J 1 288)]]++[tO [(J (-1) 290),(J 0 291)]]++[tO [(J 0 292),(J (-1) 294)]]++[tO [(R 80),(R 81),(R 82),(R 83)]]++[tO [(J 1 296),(J 0 297)]]++[tO [(J 1 298),(J 1 299)]]++[tO [(J 0 300),(J 1 301)]]++[tO [(J (-1) 303),(J 1 304)]]++[tO [(J (-1) 306),(J 0 307)]]
noncomputable def hl5(P:x4):List Obj:=[tO [(J (-1) 309),(J (-1) 311)]]++[tO [(J 0 312),(J (-1) 314)]]++[tO [(J 1 315),(J (-1) 317)]]++[tO [(R 85),(R 86),(R 87),(R 88),(R 89),(R 90),(R 91),(R 92)]]++D7 (17).3 "cells_where" 94 319 67 2 ["yard", "inside", "told", "up", "across"] HD.zS1++D7 (18).3 "gathered" 101 330 74 3 ["start", "cells", "steps", "found", "waiting", "cell", "step", "near"] HD.zS1++D7 (19).3 "groups" 108 344 85 2 ["cells", "steps", "told", "seen", "cell", "group"] HD.zS1++[tO []]++[vO []]++[pO "group_row" (20).3]++[⟨.type "code", none, .fields #[(S "group_row" 356),(S "group_row" 357),(358).6,(I 94),(I 3),(I 0),(I 0),(I 3),(R 115),(.bool true),(I 181),(R 116), .none, .none, .none,(R 117),(I 359),(I 94),(360).6],#[]⟩]++[fO "group_row" (20).3 HD.zS1 118]
noncomputable def hl6(P:x4):List Obj:=[tO []]++[vO []]++[pO "yard_of" (21).3]++[⟨.type "code", none, .fields #[(S "yard_of" 362),(S "yard_of" 363),(364).6,(I 96),(I 2),(I 0),(I 0),(I 3),(R 120),(.bool true),(I 181),(R 121), .none, .none, .none,(R 122),(I 365),(I 96),(366).6],#[]⟩]++[fO "yard_of" (21).3 HD.zS1 123]++[tO []]++[vO []]++[pO "pieces" (22).3]++[⟨.type "code", none, .fields #[(S "pieces" 368),(S "pieces" 369),(370).6,(I 100),(I 1),(I 0),(I 0),(I 3),(R 125),(.bool true),(I 181),(R 126), .none, .none, .none,(R 127),(I 371),(I 100),(372).6],#[]⟩]++[fO "pieces" (22).3 HD.zS1 128]++[tO []]++[vO []]
noncomputable def hl7(P:x4):List Obj:=[pO "holes" (23).3]++[⟨.type "code", none, .fields #[(S "holes" 374),(S "holes" 375),(376).6,(I 102),(I 1),(I 0),(I 0),(I 3),(R 130),(.bool true),(I 181),(R 131), .none, .none, .none,(R 132),(I 377),(I 102),(378).6],#[]⟩]++[fO "holes" (23).3 HD.zS1 133]++[tO []]++[vO []]++[pO "finer_row" (25).3]++[⟨.type "code", none, .fields #[(S "finer_row" 382),(S "finer_row" 383),(384).6,(I 106),(I 3),(I 0),(I 0),(I 3),(R 135),(.bool true),(I 181),(R 136), .none, .none, .none,(R 137),(I 385),(I 106),(386).6],#[]⟩]++[fO "finer_row" (25).3 HD.zS3 138]++[tO []]++[vO []]++[pO "finer_rows" (26).3]++[⟨.type "code", none, .fields #[(S "finer_rows" 388),(S "finer_rows" 389),(390).6,(I 108),(I 3),(I 0),(I 0),(I 3),(R 140),(.bool true),(I 181),(R 141), .none, .none, .none,(R 142),(I 391),(I 108),(392).6],#[]⟩]
noncomputable def hl8(P:x4):List Obj:=[fO "finer_rows" (26).3 HD.zS3 143]++[tO []]++[vO []]++[pO "chosen_row" (27).3]++[⟨.type "code", none, .fields #[(S "chosen_row" 394),(S "chosen_row" 395),(396).6,(I 112),(I 3),(I 0),(I 0),(I 3),(R 145),(.bool true),(I 181),(R 146), .none, .none, .none,(R 147),(I 397),(I 112),(398).6],#[]⟩]++[fO "chosen_row" (27).3 HD.zS3 148]++[tO []]++[vO []]++[pO "chosen" (28).3]++[⟨.type "code", none, .fields #[(S "chosen" 400),(S "chosen" 401),(402).6,(I 114),(I 3),(I 0),(I 0),(I 3),(R 150),(.bool true),(I 181),(R 151), .none, .none, .none,(R 152),(I 403),(I 114),(404).6],#[]⟩]++[fO "chosen" (28).3 HD.zS3 153]++D7 (29).3 "both" 155 406 120 2 ["one", "other"] HD.zS3
noncomputable def hl9(P:x4):List Obj:=D7 (30).3 "either" 162 414 122 2 ["one", "other"] HD.zS3++D7 (32).3 "_law_feed" 169 424 125 2 ["_law_script", "_law_k", "_law_cell", "_law_great"] HD.zS0++D7 (33).3 "_law_next" 176 434 133 2 ["_law_feed_here", "_law_many", "_law_digit", "_law_count", "_law_mixed"] HD.zS0++D7 (34).3 "_law_shared" 183 445 144 2 ["_law_one", "_law_other"] HD.zS0++D7 (35).3 "_law_lines" 190 453 148 2 ["_law_feed_here", "_law_many", "_law_bottom", "_law_most", "_law_at", "_law_found", "_law_k", "_law_by"] HD.zS0++D7 (36).3 "_law_is_in" 197 467 158 6 ["_law_feed_here", "_law_way", "_law_k", "_law_j", "_law_wide", "_law_high", "_law_edge", "_law_known"] HD.zS0++[tO []]++[vO []]++[pO "_law_tidied" (37).3]++[⟨.type "code", none, .fields #[(S "_law_tidied" 481),(S "_law_tidied" 482),(483).6,(I 165),(I 2),(I 0),(I 0),(I 3),(R 204),(.bool true),(I 181),(R 205), .none, .none, .none,(R 206),(I 484),(I 165),(485).6],#[]⟩]++[fO "_law_tidied" (37).3 HD.zS0 207]++[tO []]
noncomputable def hl10(P:x4):List Obj:=[vO []]++[pO "_law_across" (38).3]++[⟨.type "code", none, .fields #[(S "_law_across" 487),(S "_law_across" 488),(489).6,(I 170),(I 1),(I 0),(I 0),(I 3),(R 209),(.bool true),(I 181),(R 210), .none, .none, .none,(R 211),(I 490),(I 170),(491).6],#[]⟩]++[fO "_law_across" (38).3 HD.zS0 212]++D7 (39).3 "_law_tidy" 214 493 172 3 ["_law_xs", "_law_ys", "_law_rows", "_law_columns"] HD.zS0++[tO []]++[vO []]++[pO "_law_yard" (40).3]++[⟨.type "code", none, .fields #[(S "_law_yard" 503),(S "_law_yard" 504),(505).6,(I 178),(I 2),(I 0),(I 0),(I 3),(R 221),(.bool true),(I 181),(R 222), .none, .none, .none,(R 223),(I 506),(I 178),(507).6],#[]⟩]++[fO "_law_yard" (40).3 HD.zS0 224]++[tO []]++[vO []]
noncomputable def hl11(P:x4):List Obj:=[pO "_law_counted" (41).3]++[⟨.type "code", none, .fields #[(S "_law_counted" 509),(S "_law_counted" 510),(511).6,(I 187),(I 1),(I 0),(I 0),(I 3),(R 226),(.bool true),(I 181),(R 227), .none, .none, .none,(R 228),(I 512),(I 187),(513).6],#[]⟩]++[fO "_law_counted" (41).3 HD.zS0 229]++D7 (42).3 "_law_parts_right" 231 515 193 2 ["_law_yard_here", "_law_void", "_law_some", "_law_joined", "_law_piece"] HD.zS0++D7 (43).3 "law" 238 526 201 1 ["_law_script", "_law_void", "_law_k", "_law_feed_here", "_law_yard_here", "_law_left", "_law_at"] HD.zS0
noncomputable def hl(P:x4):List Obj:=hl0 P++hl1 P++hl2 P++hl3 P++hl4 P++hl5 P++hl6 P++hl7 P++hl8 P++hl9 P++hl10 P++hl11 P
noncomputable def hA(P:x4):Heap:=⟨Array.mk (ov [(3,boot_o_3 P),(12,vO (es12.take 0))] ((hl P).take 15)),{}⟩
noncomputable def env:Env:={scope:=PySem.Challenge.pw_roofridges_k19_whole_corners_pieces_hole.main.scope,locals:=mainNs,globals:=mainNs,cells:=[],code:=(R 13),frame:=some 14}
abbrev p:Program:=PySem.Challenge.rw_roofridges_k19_whole_corners_pieces_hole.row.toRowW.1
abbrev bE:List Stmt:=behindTheImports p
abbrev cE:Code := .body bE env
theorem pre(w:World)(os:zf):topGo x5 p w 11 (some (R 6)) 12 ⟨boot_heap w.params,Array.mk [],boot_drawn,boot_toks,os⟩ (topStub p)=some (sh (hA w.params) 187 os,⟨denote x5 cE,cE,(ps 0 0 0 0),B⟩):=by rw[eGo,Kw,ky];kernel_rfl!
noncomputable def t0(P:x4):BT:=bt 14 (ov [(3,boot_o_3 P),(12,vO (es12.take 0))] ((hl P).take 15))
theorem block(w:World)(os:zf):segRun x5 p w 11 (some (R 6)) 1 1 (sh (hA w.params) 187 os) (blockOf bE env cE (ps 0 0 0 0) B)=some (.next,(sT (t0 w.params) 15 187 os).abs,cE,(ps 0 0 0 0)):=by rw[eSeg];kernel_rfl!
noncomputable def t1(P:x4):BT:=bt 14 (ov [(3,dO (ov [(0,E P "__name__" 165 HD.zS1)] ((es3 P).take 21)) 21),(12,vO (es12.take 33))] ((hl P).take 85))
noncomputable def g1:List Stmt:=[Q.top 0,Q.top 1,Q.top 2,Q.top 3,Q.top 4,Q.top 5,Q.top 6,Q.top 7,Q.top 8,Q.top 9,Q.top 10,Q.top 11,Q.top 12,Q.top 13,Q.top 14,Q.top 15]
theorem r1(w:World)(os:zf):segRunT x5 p w 11 (some (R 6)) 1 393 (sT (t0 w.params) 15 187 os) (piecesOf g1 env cE (ps 0 0 0 0) B)=some (.next,sT (t1 w.params) 85 296 os,cE,(ps 65 0 65 8)):=by rw[aDM];kernel_rfl!
noncomputable def t2(P:x4):BT:=bt 14 (ov [(3,dO (ov [(0,E P "__name__" 165 HD.zS3)] ((es3 P).take 33)) 33),(12,vO (es12.take 66))] ((hl P).take 155))
noncomputable def g2:List Stmt:=[Q.top 16,Q.top 17,Q.top 18,Q.top 19,Q.top 20,Q.top 21,Q.top 22,Q.top 23,Q.top 24,Q.top 25,Q.top 26,Q.top 27,Q.top 28]
theorem r2(w:World)(os:zf):segRunT x5 p w 11 (some (R 6)) 1 393 (sT (t1 w.params) 85 296 os) (piecesOf g2 env cE (ps 65 0 65 8) B)=some (.next,sT (t2 w.params) 155 406 os,cE,(ps 114 0 119 96)):=by rw[aDM];kernel_rfl!
noncomputable def t3(P:x4):BT:=bt 14 (ov [(3,dO (ov [] ((es3 P).take 45)) 45),(12,vO (es12.take 102))] ((hl P).take 231))
noncomputable def g3:List Stmt:=[Q.top 29,Q.top 30,Q.top 31,Q.top 32,Q.top 33,Q.top 34,Q.top 35,Q.top 36,Q.top 37,Q.top 38,Q.top 39,Q.top 40,Q.top 41]
theorem r3(w:World)(os:zf):segRunT x5 p w 11 (some (R 6)) 1 373 (sT (t2 w.params) 155 406 os) (piecesOf g3 env cE (ps 114 0 119 96) B)=some (.next,sT (t3 w.params) 231 515 os,cE,(ps 187 0 192 88)):=by rw[aDM];kernel_rfl!
noncomputable def t4(P:x4):BT:=bt 14 (ov [] ((hl P).take 245))
noncomputable def g4:List Stmt:=[Q.top 42,Q.top 43]
theorem r4(w:World)(os:zf):segRunT x5 p w 11 (some (R 6)) 1 69 (sT (t3 w.params) 231 515 os) (piecesOf g4 env cE (ps 187 0 192 88) B)=some (.next,sT (t4 w.params) 245 539 os,cE,(ps 201 0 217 62)):=by rw[aDM];kernel_rfl!
noncomputable def hZ(P:x4):Heap:=⟨Array.mk (hl P),{}⟩
theorem fin(w:World)(os:zf):topRun x5 p w 11 (some (R 6)) 2 (sT (t4 w.params) 245 539 os).abs ⟨doneF .next,cE,(ps 201 0 217 62),B⟩=some (sh (hZ w.params) 539 os):=by rw[eTop];kernel_rfl!
theorem body:bE=g1++(g2++(g3++(g4++([])))):=by kernel_rfl!
theorem chain(w:World)(os:zf):topRun x5 p w 11 (some (R 6)) (393+(393+(373+(69+(2))))) (sT (t0 w.params) 15 187 os).abs (restOf (g1++(g2++(g3++(g4++([]))))) env cE (ps 0 0 0 0) B)=some (sh (hZ w.params) 539 os):=piece_app (segRun_of (r1 w os)) (piece_app (segRun_of (r2 w os)) (piece_app (segRun_of (r3 w os)) (piece_app (segRun_of (r4 w os)) (fin w os))))
theorem run(w:World)(os:zf):topRun x5 p w 11 (some (R 6)) (12+(1+(393+(393+(373+(69+(2))))))) ⟨boot_heap w.params,Array.mk [],boot_drawn,boot_toks,os⟩ (topStub p)=some (sh (hZ w.params) 539 os):=go_top (pre w os) (piece_block (block w os) (by have h:=chain w os;rw[<- body] at h;exact h))
noncomputable def view:Program:={p with main:={p.main with body:=[Q.top 1,Q.top 2,Q.top 4,Q.top 5,Q.top 6,Q.top 7,Q.top 8,Q.top 9,Q.top 10,Q.top 12,Q.top 13,Q.top 15,Q.top 16,Q.top 17,Q.top 18,Q.top 19,Q.top 20,Q.top 21,Q.top 22,Q.top 23,Q.top 25,Q.top 26,Q.top 27,Q.top 28,Q.top 29,Q.top 30,Q.top 32,Q.top 33,Q.top 34,Q.top 35,Q.top 36,Q.top 37,Q.top 38,Q.top 39,Q.top 40,Q.top 41,Q.top 42,Q.top 43]} }
noncomputable def ob(P:x4)(i:Nat):Obj:=(hl P).getD i default
noncomputable def zo(P:x4)(a:Nat):Addr×Obj:=(a,ob P a)
noncomputable def K(P:x4):Frag:=[zo P 2,zo P 3,zo P 15,zo P 17,zo P 18,zo P 20,(nat_lit 21,fO "under" (1).3 HD.zS4 20),zo P 22,zo P 24,zo P 25,zo P 27,(nat_lit 28,fO "merged" (2).3 HD.zS4 27),zo P 29,zo P 32,(nat_lit 33,fO "column" (4).3 HD.zS2 32),zo P 34,zo P 37,(nat_lit 38,fO "columns" (5).3 HD.zS2 37),zo P 39,zo P 42,(nat_lit 43,fO "changes" (6).3 HD.zS2 42),zo P 44,zo P 47,(nat_lit 48,fO "picked" (7).3 HD.zS2 47),zo P 49,zo P 52,(nat_lit 53,fO "tidied" (8).3 HD.zS2 52),zo P 54,zo P 57,(nat_lit 58,fO "bands_at" (9).3 HD.zS2 57),zo P 59,zo P 61,zo P 62,zo P 64,(nat_lit 65,fO "has_cell" (10).3 HD.zS2 64),zo P 66,zo P 68,zo P 69,zo P 71,(nat_lit 72,fO "corner_kind" (12).3 HD.zS5 71),zo P 73,zo P 75,zo P 76,zo P 78,(nat_lit 79,fO "corners" (13).3 HD.zS5 78),zo P 80,zo P 81,zo P 82,zo P 83,zo P 84,zo P 85,zo P 86,zo P 87,zo P 88,zo P 89,zo P 90,zo P 91,zo P 92,zo P 93,zo P 94,zo P 96,zo P 97,zo P 99,(nat_lit 100,fO "cells_where" (17).3 HD.zS1 99),zo P 101,zo P 103,zo P 104,zo P 106,(nat_lit 107,fO "gathered" (18).3 HD.zS1 106),zo P 108,zo P 110,zo P 111,zo P 113,(nat_lit 114,fO "groups" (19).3 HD.zS1 113),zo P 115,zo P 118,(nat_lit 119,fO "group_row" (20).3 HD.zS1 118),zo P 120,zo P 123,(nat_lit 124,fO "yard_of" (21).3 HD.zS1 123),zo P 125,zo P 128,(nat_lit 129,fO "pieces" (22).3 HD.zS1 128),zo P 130,zo P 133,(nat_lit 134,fO "holes" (23).3 HD.zS1 133),zo P 135,zo P 138,(nat_lit 139,fO "finer_row" (25).3 HD.zS3 138),zo P 140,zo P 143,(nat_lit 144,fO "finer_rows" (26).3 HD.zS3 143),zo P 145,zo P 148,(nat_lit 149,fO "chosen_row" (27).3 HD.zS3 148),zo P 150,zo P 153,(nat_lit 154,fO "chosen" (28).3 HD.zS3 153),zo P 155,zo P 157,zo P 158,zo P 160,(nat_lit 161,fO "both" (29).3 HD.zS3 160),zo P 162,zo P 164,zo P 165,zo P 167,(nat_lit 168,fO "either" (30).3 HD.zS3 167),zo P 169,zo P 171,zo P 172,zo P 174,(nat_lit 175,fO "_law_feed" (32).3 HD.zS0 174),zo P 176,zo P 178,zo P 179,zo P 181,(nat_lit 182,fO "_law_next" (33).3 HD.zS0 181),zo P 183,zo P 185,zo P 186,zo P 188,(nat_lit 189,fO "_law_shared" (34).3 HD.zS0 188),zo P 190,zo P 192,zo P 193,zo P 195,(nat_lit 196,fO "_law_lines" (35).3 HD.zS0 195),zo P 197,zo P 199,zo P 200,zo P 202,(nat_lit 203,fO "_law_is_in" (36).3 HD.zS0 202),zo P 204,zo P 207,(nat_lit 208,fO "_law_tidied" (37).3 HD.zS0 207),zo P 209,zo P 212,(nat_lit 213,fO "_law_across" (38).3 HD.zS0 212),zo P 214,zo P 216,zo P 217,zo P 219,(nat_lit 220,fO "_law_tidy" (39).3 HD.zS0 219),zo P 221,zo P 224,(nat_lit 225,fO "_law_yard" (40).3 HD.zS0 224),zo P 226,zo P 229,(nat_lit 230,fO "_law_counted" (41).3 HD.zS0 229),zo P 231,zo P 233,zo P 234,zo P 236,(nat_lit 237,fO "_law_parts_right" (42).3 HD.zS0 236),zo P 238,zo P 240,zo P 241,zo P 243,(nat_lit 244,fO "law" (43).3 HD.zS0 243)]
noncomputable def as:List Addr:=[nat_lit 2,nat_lit 3,nat_lit 15,nat_lit 17,nat_lit 18,nat_lit 20,nat_lit 21,nat_lit 22,nat_lit 24,nat_lit 25,nat_lit 27,nat_lit 28,nat_lit 29,nat_lit 32,nat_lit 33,nat_lit 34,nat_lit 37,nat_lit 38,nat_lit 39,nat_lit 42,nat_lit 43,nat_lit 44,nat_lit 47,nat_lit 48,nat_lit 49,nat_lit 52,nat_lit 53,nat_lit 54,nat_lit 57,nat_lit 58,nat_lit 59,nat_lit 61,nat_lit 62,nat_lit 64,nat_lit 65,nat_lit 66,nat_lit 68,nat_lit 69,nat_lit 71,nat_lit 72,nat_lit 73,nat_lit 75,nat_lit 76,nat_lit 78,nat_lit 79,nat_lit 80,nat_lit 81,nat_lit 82,nat_lit 83,nat_lit 84,nat_lit 85,nat_lit 86,nat_lit 87,nat_lit 88,nat_lit 89,nat_lit 90,nat_lit 91,nat_lit 92,nat_lit 93,nat_lit 94,nat_lit 96,nat_lit 97,nat_lit 99,nat_lit 100,nat_lit 101,nat_lit 103,nat_lit 104,nat_lit 106,nat_lit 107,nat_lit 108,nat_lit 110,nat_lit 111,nat_lit 113,nat_lit 114,nat_lit 115,nat_lit 118,nat_lit 119,nat_lit 120,nat_lit 123,nat_lit 124,nat_lit 125,nat_lit 128,nat_lit 129,nat_lit 130,nat_lit 133,nat_lit 134,nat_lit 135,nat_lit 138,nat_lit 139,nat_lit 140,nat_lit 143,nat_lit 144,nat_lit 145,nat_lit 148,nat_lit 149,nat_lit 150,nat_lit 153,nat_lit 154,nat_lit 155,nat_lit 157,nat_lit 158,nat_lit 160,nat_lit 161,nat_lit 162,nat_lit 164,nat_lit 165,nat_lit 167,nat_lit 168,nat_lit 169,nat_lit 171,nat_lit 172,nat_lit 174,nat_lit 175,nat_lit 176,nat_lit 178,nat_lit 179,nat_lit 181,nat_lit 182,nat_lit 183,nat_lit 185,nat_lit 186,nat_lit 188,nat_lit 189,nat_lit 190,nat_lit 192,nat_lit 193,nat_lit 195,nat_lit 196,nat_lit 197,nat_lit 199,nat_lit 200,nat_lit 202,nat_lit 203,nat_lit 204,nat_lit 207,nat_lit 208,nat_lit 209,nat_lit 212,nat_lit 213,nat_lit 214,nat_lit 216,nat_lit 217,nat_lit 219,nat_lit 220,nat_lit 221,nat_lit 224,nat_lit 225,nat_lit 226,nat_lit 229,nat_lit 230,nat_lit 231,nat_lit 233,nat_lit 234,nat_lit 236,nat_lit 237,nat_lit 238,nat_lit 240,nat_lit 241,nat_lit 243,nat_lit 244]
abbrev Hk:Hook:=kHook K as (λ_=>by kernel_rfl!)
theorem opens:∀w:World,(fencedOpening x5 p w 2574).map (λs=>(s.heap,s.gens,s.drawn,s.toks))=some (boot_heap w.params,Array.mk [],boot_drawn,boot_toks):=boot_open (by kernel_rfl!) (by kernel_rfl!) (λ_=>by kernel_rfl!)
abbrev Xt:Shared->Bool:=λs=>xlAt view [] s&&recOk (RowW.records PySem.Challenge.rw_roofridges_k19_whole_corners_pieces_hole.row.toRowW) s
theorem size(w:World):((boot_heap w.params).isNs j2&&(Array.mk ([]:List Jr)).size==0,(boot_heap w.params).objs.size,(boot_heap w.params).nsMap j2 "__annotations__")=(true,11,(some (R 6))):=by kernel_rfl!
theorem look1(w:World)(os:zf):(staticsOk (K5 p.main.body) (boot_heap w.params) (hZ w.params)&&namesBound p (hZ w.params)&&gensDone (sh (hZ w.params) 539 os)&&laidKept (boot_heap w.params) (hZ w.params))=true:=by kernel_rfl!
theorem look2(w:World)(os:zf):openSeen view [] (K5 p.main.body) Xt true (sh (hZ w.params) 539 os)=openGood view []:=by rw[Ks];kernel_rfl!
theorem look3(w:World)(os:zf):Hk.obs (sh (hZ w.params) 539 os)=Hk.val w:=by kernel_rfl!
theorem left:LeftO p view [] Xt Hk.obs Hk.val 2574 true:=LeftO.of_pieces opens size run (by kernel_rfl!) (λw=>funext λos=>by rw[look1,look2,look3])
theorem said:PySem.Challenge.rw_roofridges_k19_whole_corners_pieces_hole.wellSaid=true:=by rw[Kr];kernel_rfl!
end
end HD
namespace L2
open PySem PySem.Spec PyProof.Rows
noncomputable def big:Nat:=2^8000
noncomputable def aI6(i j:Int):Prop:=i.natAbs<big/\j.natAbs<big
section
theorem vL:OpR X (we .Mult) (rI aI6 λi j => .int (i*j)):=
 opI λ_ _ _ _ _ _ _ a q=>mul_int q (IntMulOk.of_le (m:=8000) (n:=8000) (Vh.mpr a.1) (Vh.mpr a.2) (by decide))
end
section
end
end L2
namespace L2
open PySem PySem.Spec PyProof.Rows
structure ExcK(K:qe)(C:Addr):Prop where
 cd:(PySem.W.clsIn K C).isSome=true
 ga:xu K (.ref C) "__getattribute__" = some (some (.builtin "BaseException.__getattribute__"))
 gt:xu K (.ref C) "__getattr__" = some none
 cl:xu K (.ref C) "__class__" = some (some (.builtin "object.__class__"))
 be:lu K C (.type "BaseException")=some true
 ob:lu K C (.type "object")=some true
section
variable {E:Value->Shared->Prop}{g:Array Jr}{d:Drawn}{t:Nat}{os:zf}{K:qe}
end
section
end
end L2
namespace L2
open PySem PySem.Spec PyProof.Rows
structure Thrown(h₀:Heap)(H':Hp)(e T:Addr)(cls:Value)(h:Heap):Prop where
 ne:h₀.get? e=none
 nT:h₀.get? T=none
 He:H' e=none
 HT:H' T=none
 ob:∃oe vs oT ts a0,h.get? e=some oe/\(oe.cls=cls/\vs[0]?=some a0)/\oe.data = .fields vs/\vs[1]?=some (.ref T)/\T≠e/\h.get? T=some oT/\oT.data = .fields ts/\ts[3]?=some .none
section
end
end L2
namespace L2
open PySem PySem.Spec PyProof.Rows
noncomputable def bmV:List Value:=[.type "ValueError", .type "Exception", .type "BaseException", .type "object"]
section
variable {E:XK}{np:Pos}{e₀:Expr}{rest:List Expr}
end
structure ThrownX(X:Cx)(pins:List (Addr×Obj))(H':Hp)(e T:Addr)(cls:Value)(h:Heap):Prop where
 e0:X.s₀.heap.get? e=none
 T0:X.s₀.heap.get? T=none
 He:H' e=none
 HT:H' T=none
 eL:e≠X.env.locals
 TL:T≠X.env.locals
 ce:∀x c,X.env.cells.lookup x=some c->c≠e/\c≠T
 pe:∀p∈X.pn++pins,p.1≠e/\p.1≠T
 ob:∃oe vs oT ts a0,h.get? e=some oe/\(oe.cls=cls/\vs[0]?=some a0)/\oe.data = .fields vs/\vs[1]?=some (.ref T)/\T≠e/\h.get? T=some oT/\oT.data = .fields ts/\ts[3]?=some .none
noncomputable def XP(X:Cx)(pins:List (Addr×Obj))(σ:St)(E:XK)(v:Value)(s':Shared):Prop:=∃e T cls H',v = .ref e/\Inv X pins σ H' s'/\ThrownX X pins H' e T cls s'.heap/\E cls none H'
section
end
end L2
namespace L2
open PySem PySem.Spec PyProof.Rows
section
end
end L2
namespace Num
theorem aHB(a b:Int):vo b (a.fmod b)=vo a b:=by
 rw[Int.fmod_def,su a b]
 exact Int.gcd_sub_mul_left_right _ _ _
theorem aJT(a b:Int)(hb:b≠0):(a.fmod b).natAbs<b.natAbs:=by
 rcases Int.lt_or_gt_of_ne hb with h|h
 ·have h0:0 < -b:=by omega
  have e:a.fmod b = -((-a).fmod (-b)):=by rw[Int.neg_fmod_neg];omega
  have c:=rj (-a) h0
  have d:=Qx (-a) h0
  omega
 ·have c:=rj a h
  have d:=Qx a h
  omega
noncomputable def div(t b:Int):Int:=if b<0 then -((vo t b:Nat):Int) else ((vo t b:Nat):Int)
noncomputable def top(t b:Int):Int:=t.fdiv (div t b)
noncomputable def bot(t b:Int):Int:=b.fdiv (div t b)
theorem uF{t b:Int}(h:b≠0):0<vo t b:=hR t h
theorem aNL{t b:Int}(h:b≠0):div t b≠0:=by
 have:=uF (t:=t) h
 unfold div;split <;> omega
theorem aJM(t b:Int):(div t b).natAbs=vo t b:=by
 unfold div;split <;> omega
theorem aLV(t b:Int):div t b∣t:=by
 unfold div;split
 ·exact K9.mpr (Q6 ..)
 ·exact Q6 ..
theorem aJH(t b:Int):div t b∣b:=by
 unfold div;split
 ·exact K9.mpr (QT ..)
 ·exact QT ..
theorem aB9(t b:Int):top t b*div t b=t:=Qp (aLV t b)
theorem uV(t b:Int):bot t b*div t b=b:=Qp (aJH t b)
theorem aKY{t b:Int}(h:b≠0):0<bot t b:=by
 have e:=uV t b
 have g:=uF (t:=t) h
 by_cases a:b<0
 ·have hd:div t b<0:=by unfold div;rw[if_pos a];omega
  rcases QS (bot t b) 0 with c|c|c
  ·have:=Int.mul_pos_of_neg_of_neg c hd;omega
  ·rw[c,gf] at e;omega
  ·exact c
 ·have hd:0<div t b:=by unfold div;rw[if_neg a];omega
  rcases QS (bot t b) 0 with c|c|c
  ·have:=Int.mul_neg_of_neg_of_pos c hd;omega
  ·rw[c,gf] at e;omega
  ·exact c
theorem low(t b:Int)(h:b≠0):vo (top t b) (bot t b)=1:=by
 have g:=uF (t:=t) h
 have e:vo (top t b*div t b) (bot t b*div t b)=vo (top t b) (bot t b)*(div t b).natAbs:=Int.gcd_mul_right ..
 rw[aB9,uV,aJM] at e
 have a:1*vo t b=vo (top t b) (bot t b)*vo t b:=by rw[K7];exact e
 exact (Nat.eq_of_mul_eq_mul_right g a).symm
theorem cross(t b:Int)(h:b≠0):top t b*b=t*bot t b:=by
 have a:=aB9 t b
 have c:=uV t b
 have d:=aNL (t:=t) h
 have:top t b*(bot t b*div t b)=top t b*div t b*bot t b:=by
  rw[Int.mul_assoc,sj (bot t b)]
 rw[a,c] at this
 exact this
theorem tR{k n m:Int}(h:k∣n*m)(g:vo k n=1):k∣m:=by
 have:=Int.dvd_gcd_mul_iff_dvd_mul.mpr h
 rw[g] at this
 simpa using this
theorem uniq{p q r s:Int}(hq:0<q)(hs:0<s)(g:vo p q=1)(g':vo r s=1)(e:p*s=r*q):p=r/\q=s:=by
 have c:q∣s:=by
  have:q∣p*s:=⟨r,by rw[e,sj]⟩
  have h:=tR this (by rw[su];exact g)
  exact h
 have b:s∣q:=by
  have:s∣r*q:=⟨p,by rw[<- e,sj]⟩
  exact tR this (by rw[su];exact g')
 have d:=JT hs c
 have f:=JT hq b
 have a:q=s:=by omega
 subst a
 exact⟨mn '!' e,rfl⟩
end Num
namespace R
open PySem L2
theorem BI:kf "int" = some (.type "int"):=by decide +kernel
theorem BT:kf "tuple" = some (.type "tuple"):=by decide +kernel
structure Df(K:qe)(mg:Str->Option Value)(x:Str)(st:Stmt)(ps:List Str)(f:Addr)(fd:FuncData):Prop where
 F:Fun K x x st f fd
 b:Binds K fd ps []
 m:mg x=some (.ref f)
structure Bn(mg:Str->Option Value):Prop where
 isi:mg "isinstance" = none
 int:mg "int" = none
 bool:mg "bool" = none
 tuple:mg "tuple" = none
 len:mg "len" = none
 abs:mg "abs" = none
 range:mg "range" = none
 min:mg "min" = none
inductive Kn(K:qe)(H:Hp):V->Prop
 |non:Kn K H .non
 |bl (b:Bool):Kn K H (.bl b)
 |int (i:Int):Kn K H (.int i)
 |str (x:Str):Kn K H (.str x)
 |lst {a:Addr}{xs:List V} (e:H a=some (.lst xs)):Kn K H (.ref a)
 |tup {a:Addr}{xs:List V} (e:H a=some (.tup xs)):Kn K H (.ref a)
section
variable {K:qe}
theorem aLR(a:Int):(if a<0 then -a else a)=((vo a 0:Nat):Int):=by
 rw[Int.gcd_zero_right];split <;> lia
noncomputable def second:St->Nat
 |[_,some (.int b)]=>b.natAbs
 |[_,some (.int b),_]=>b.natAbs
 |_=>0
noncomputable def num(t b:Int):HO := .tup [.int (Num.top t b), .int (Num.bot t b)]
end
end R
namespace R
open PySem L2
section
variable {K:qe}
structure Kn2(K:qe)(H:Hp)(v:V):Prop where
 kn:Kn K H v
 two:∀a x y,v = .ref a->H a=some (.tup [x,y])->Kn K H x/\Kn K H y
theorem at1{x y:V}:atI [x,y] (1:Int)=some y:=rfl
end
end R
namespace L2
open PySem PySem.Spec PyProof.Rows
end L2
namespace R
open PySem L2
structure Fd(H:Hp)(p:Addr)(b:Int):Prop where
 ex:∃g m st:Int,H p=some (.lst [.int g, .int m, .int st])/\0<=g/\0<=m/\m<2147483399/\0<=st/\st<=b
section
variable {K:qe}
theorem wB(x:Int){m:Int}(h0:0<m)(h1:m<2^64): -(2^64)<x%m/\x%m<2^64:=by
 have:=zq x (show m≠0 by lia)
 have:=y3 x h0
 lia
end
end R
namespace R
open PySem L2
section
variable {K:qe}
end
end R
namespace R
open PySem L2
structure Ex(K:qe)(mg:Str->Option Value)(CR CN CY CP CT CW CM:Addr):Prop where
 mR:mg "RoofError" = some (.ref CR)
 mN:mg "NoNumber" = some (.ref CN)
 mY:mg "NoYard" = some (.ref CY)
 mP:mg "NoPoint" = some (.ref CP)
 mT:mg "NoText" = some (.ref CT)
 mW:mg "NoRow" = some (.ref CW)
 mM:mg "NoName" = some (.ref CM)
 vE:mg "ValueError" = none
 xN:PySem.W.excIn K CN bmV "ValueError.__new__" = true
 kN:ExcK K CN
 cN:PySem.W.exmOne K (.ref CN) (.ref CR)=some true
 iV:PySem.W.kitOne K (.ref CN) (.type "ValueError")=some true
 iO:PySem.W.kitAny K (.ref CN) [.ref CM, .ref CP, .ref CW, .ref CT, .ref CY]=some false
section
variable {K:qe}{CR CN CY CP CT CW CM:Addr}
end
end R
namespace R
open PySem L2
section
variable {K:qe}
end
end R
namespace R
open PySem L2
end R
namespace L2
open PySem PySem.Spec PyProof.Rows
section
variable {E:Value->Shared->Prop}
end
section
end
end L2
namespace Num
theorem aFZ(t b:Int)(hb:b≠0):top t b=(vb t b).num/\bot t b=((vb t b).den:Int):=by
 have hd:((vb t b).den:Int)≠0:=by have:=(vb t b).den_nz;omega
 have e:(vb t b).num*b=t*((vb t b).den:Int):=by
  have:=Qt (vb t b)
  exact (Rat.divInt_eq_divInt_iff hd hb).mp this
 have g:vo (vb t b).num ((vb t b).den:Int)=1:=by
  have:=(vb t b).reduced
  rw[Int.gcd_eq_natAbs_gcd_natAbs]
  exact this
 refine uniq (aKY hb) (by have:=(vb t b).den_pos;omega) (low t b hb) g ?_
 have c:=cross t b hb
 have a:top t b*((vb t b).den:Int)*b=(vb t b).num*bot t b*b:=by
  rw[fm,c,fm,<- e,fm]
 exact mn hb a
end Num
namespace R
open PySem L2
structure Sz(k:Nat)(x:Rat):Prop where
 n:x.num.natAbs<2^k
 d:x.den<2^k
end R
namespace L2
open PySem PySem.Spec PyProof.Rows
theorem iQ:∀(names:List (Str×NameKind)) (n:Nat) (acc:List (Str×Addr)),cellsFrom n names acc=cellsFrom n names []++acc
 |[],_,_=>rfl
 | (name,kind)::r,n,acc=>by
  unfold cellsFrom
  split
  ·rw[iQ r (n+1) ((name,n)::acc),iQ r (n+1) [(name,n)],vm];rfl
  ·exact iQ r n acc
theorem sM:∀(names:List (Str×NameKind)) (n:Nat) (acc:List (Str×Addr)) {y:Str}{c:Addr},(y,c)∈cellsFrom n names acc->(y,km)∈names\/(y,c)∈acc
 |[],_,_,_,_,h => .inr h
 | (name,kind)::r,n,acc,y,c,h=>by
  unfold cellsFrom at h
  split at h
  ·rename_i hk
   rcases sM r (n+1) _ h with q|q
   ·exact .inl (jf _ q)
   ·rcases qf.mp q with q|q
    ·cases q
     have:kind = .cell:=by simpa using hk
     exact .inl (by rw[this];exact k3)
    ·exact .inr q
  ·rcases sM r n _ h with q|q
   ·exact .inl (jf _ q)
   ·exact .inr q
theorem k8:∀{l m:List (Str×Addr)},(l++m).lookup y=match l.lookup y with|some c=>some c|none=>m.lookup y
 |[],_=>rfl
 | (n,c)::l,m=>by
  rw[List.cons_append,jv,jv]
  cases y==n with
  |true=>rfl
  |false=>exact k8 (l:=l) (m:=m)
theorem n9{scope:Scope}{env:Env}:∀(names:List (Str×NameKind)) (acc:List (Str×Addr)),
  (∀n,(n,jo)∈names->∃c,env.cells.lookup n=some c)->(∀n c,acc.lookup n=some c->env.cells.lookup n=some c) ->
  ∃cl,(forIn names acc λx cs=>(if x.2==jo then (do let c <- cellOf env x.1;pure (vy ((x.1,c)::cs))) else pure (vy cs)):Sem (List (Str×Addr)))=pure cl /\
   (∀n c,cl.lookup n=some c->env.cells.lookup n=some c)/\(∀n,(n,jo)∈names->∃c,cl.lookup n=some c)/\∀n c,acc.lookup n=some c->∃c',cl.lookup n=some c'
 |[],acc,_,h2=>⟨acc,rfl,h2,(λ_ h=>nomatch h),λn c e=>⟨c,e⟩⟩
 | (name,kind)::r,acc,h1,h2=>by
  have d:∀n,(n,jo)∈r->∃c,env.cells.lookup n=some c:=λn a=>h1 n (jf _ a)
  by_cases g:kind = .free
  ·subst g
   obtain⟨c,k⟩:=h1 name k3
   obtain⟨cl,e,j,i,f⟩:=n9 (scope:=scope) (env:=env) r ((name,c)::acc) d (λn c' a=>by
    rw[jv] at a
    cases b:n==name with
    |true =>
     rw[b] at a
     have:n=name:=by simpa using b
     subst this
     cases a;exact k
    |false=>rw[b] at a;exact h2 n c' a)
   refine⟨cl,?_,j,λn a => ?_,λn c' a => ?_⟩
   ·rw[dh]
    simp only[beq_self_eq_true,if_true]
    have l:cellOf env name=pure c:=by unfold cellOf;rw[k]
    rw[l]
    exact e
   ·rcases qf.mp a with z|z
    ·cases z
     exact f _ c (by rw[jv,beq_self_eq_true])
    ·exact i n z
   ·cases b:n==name with
    |true=>exact f n c (by rw[jv,b])
    |false=>exact f n c' (by rw[jv,b];exact a)
  ·obtain⟨cl,e,j,i,f⟩:=n9 (scope:=scope) (env:=env) r acc d h2
   refine⟨cl,?_,j,λn a => ?_,f⟩
   ·rw[dh]
    have b:(kind==jo)=false:=by simpa using g
    simp only[b,y1,if_false]
    exact e
   ·rcases qf.mp a with z|z
    ·cases z;exact absurd rfl g
    ·exact i n z
theorem xE{env:Env}(h:∀n,(n,jo)∈scope.names->∃c,env.cells.lookup n=some c):
  ∃cl,closureFor scope env=pure cl/\(∀n c,cl.lookup n=some c->env.cells.lookup n=some c)/\(∀n,(n,jo)∈scope.names->∃c,cl.lookup n=some c):=by
 obtain⟨cl,e,b,a,_⟩:=n9 (scope:=scope) (env:=env) scope.names [] h (λn c e=>by cases e)
 refine⟨cl,?_,b,a⟩
 show ((forIn scope.names [] λx cs=>(if x.2==jo then (do let c <- cellOf env x.1;pure (vy ((x.1,c)::cs))) else pure (vy cs)):Sem (List (Str×Addr))) >>= λcs=>pure cs)=pure cl
 rw[e]
 rfl
theorem aA9{M:Model}{E:Value->Shared->Prop}{globals:Addr}{cl:List (Str×Addr)}{code:Value}{env:Env}{Q:Env->Shared->Prop}(h:Q (newEnv scope s.heap.objs.size globals (cellsFrom (s.heap.objs.size+1) scope.names cl) qual none code (some env) tx) {s with heap:=dc (s.heap.push {cls := .type "dict", data := .dict #[]}) scope.names}):
  wpAny M A (Vf scope globals cl [] qual none code (some env)) Q E s:=by
 simp only[Vf,Option.isSome_some,if_true]
 refine qa (wpAny_alloc ?_)
 refine qa (wpAny_layCells _ (λname kind cells=>by cases hkc:kind==km <;> simp[hkc]) _ _ _ _ ?_)
 rw[show ({s with heap:=s.heap.push {cls := .type "dict", data := .dict #[]} }:Shared).heap.objs.size=s.heap.objs.size+1 from kr ..]
 exact qa h.5.5
noncomputable def aN(X:Cx)(scope:Scope)(cs:List (Str×Addr))(C:Addr)(Nc:List Str)(s₀:Shared)(H₀:Hp)(fp:List Addr):Cx:=
 {X with N:=Nc,s₀:=s₀,H₀:=H₀,env:=compEnvC scope cs C X.env,outer:=X.stack,ex:=fp,fn:=λy=>scope.names.lookup y==some .cell,pn:=[],xe:=λ_ _=>False}
theorem gU{env:Env}{y:Str}{k:NameKind}:∀{names:List (Str×NameKind)},
  (names.map λ(n,k)=>if (k==jo&&env.scope.kind == .function&&env.kindOf n==some .cell) then (n,km) else (n,k)).lookup y=some k ->
  names.lookup y=some k\/(names.lookup y=some .free/\k = .cell)
 |[],h=>by cases h
 | (n,k')::r,h=>by
  have b:=gU (env:=env) (y:=y) (k:=k) (names:=r)
  rw[jd] at h
  cases hy:y==n with
  |true =>
   rw[jv,hy]
   by_cases a:(k'==jo&&env.scope.kind == .function&&env.kindOf n==some .cell)=true
   ·dsimp only at h
    rw[if_pos a,jv,hy] at h
    cases h
    have:k' = .free:=by
     rw[qn,qn] at a
     simpa using a.1.1
    exact .inr ⟨by rw[this],rfl⟩
   ·dsimp only at h
    rw[if_neg a,jv,hy] at h
    exact .inl h
  |false =>
   rw[jv,hy]
   by_cases a:(k'==jo&&env.scope.kind == .function&&env.kindOf n==some .cell)=true
   ·dsimp only at h
    rw[if_pos a,jv,hy] at h
    exact b h
   ·dsimp only at h
    rw[if_neg a,jv,hy] at h
    exact b h
noncomputable def PIf(Y:Cx)(ifs:List Expr)(tt:TT):Prop:=
 ∀(pins:List (Addr×Obj)) (s:Shared) (σ:St) (H:Hp) (Q:Bool->Hp->Prop),Inv Y pins σ H s->tt σ H Q ->
  wpAny (jt Y.prog Y.w) Y.A (forIn ifs true λc r=>if r=true then do let ok <- isTrue c Y.env (eval c Y.env);pure (vy ok) else pure (vy r)) (TP Y pins σ Q) Y.xe s
noncomputable def aPF:TT:=λ_ H Q=>Q true H
theorem aKD{Y:Cx}:PIf Y [] aPF:=λpins s σ H Q I h=>by
 rw[mj]
 exact wpAny_pure ⟨H,I,h⟩
theorem aJP{Y:Cx}(h:PT Y c tt):PIf Y [c] tt:=λpins s σ H Q I q=>wpAny_tests_one (h pins s σ H Q I q)
theorem yK{R:Result->Shared->Prop}{target:Expr}{it acc:Value}{env:Env}(I:Nat->Shared->Prop)(turn:∀n s,I n s->wpAny (jt prog w) A (nt it) (λr s₁=>match r with
   |none=>R (.ok .next) s₁
   |some v=>wpAny (jt prog w) A (fc target it v) (λ_ s₁'=>wpAny (jt prog w) A (assign target env v) (λ_ s₂ =>
     wpAny (jt prog w) A (forIn ifs true λc r=>if r=true then do let ok <- isTrue c env (eval c env);pure (vy ok) else pure (vy r)) (λok s₃ =>
      if ok=true then wpAny (jt prog w) A (eval elt env) (λx s₄ =>
       wpAny (jt prog w) A (call (.builtin "list.append") [acc,x]) (λ_ s₅=>∃m,m<n/\I m s₅) (λ_ _=>False) s₄) (λ_ _=>False) s₃
      else ∃m,m<n/\I m s₃) (λ_ _=>False) s₂) (λ_ _=>False) s₁') (λ_ _=>False) s₁) (λ_ _=>False) s)(n:Nat)(h:I n s):
  nz (jt prog w) A (.compLoop (.ListComp elt [⟨target,iter,ifs,0⟩] scope pos) 0 it acc env) R s:=by
 refine codeAny_loop rfl I (λn s b => ?_) n h
 show wpAny _ A ((compTurn (.ListComp elt [⟨target,iter,ifs,0⟩] scope pos) 0 it acc env).onRaise (λx=>do noteFrame x env;theTreesLotGoes x)) _ _ s
 refine wpAny_noted ?_
 rw[compTurn_list]
 refine qa (zv (qa (x6 (turn n s b) (λr s₁ h₁ => ?_) λ_ _ a=>a.elim)))
 cases r with
 |none=>exact wpAny_pure h₁
 |some v =>
  refine qa (x6 h₁ (λ_ s₁' h₁' => ?_) λ_ _ a=>a.elim)
  refine qa (x6 h₁' (λ_ s₂ h₂=>qa (x6 h₂ (λok s₃ h₃ => ?_) λ_ _ a=>a.elim)) λ_ _ a=>a.elim)
  cases ok with
  |false=>exact wpAny_pure ⟨rfl,h₃⟩
  |true =>
   exact qa (qa (x6 h₃ (λx s₄ h₄=>qa (x6 h₄ (λ_ s₅ h₅=>wpAny_pure ⟨rfl,h₅⟩.5) λ_ _ a=>a.elim)) λ_ _ a=>a.elim))
noncomputable def aOM(J:It)(cap:List Nat)(tt:TT)(te:TE)(σ:St)(H1:Hp)(Q:VK)(D:Addr):Prop:=∃W:Nat->Nat->List V->Hp->Prop,(∃m,W 0 m [] (upd H1 D (.lst [])))/\∀i m ys H2,W i m ys H2 ->
 H2 D=some (.lst ys)/\((J.stop i H2/\Q (.ref D) H2)\/(J.go i H2/\ys.length<sizeLine/\∀x H3,J.yld i H2 x H3 ->
  tt (some x::cap.map λk=>(σ[k]?).join) H3 λb H4=>if b=true then te (some x::cap.map λk=>(σ[k]?).join) H4 λy H5=>H5 D=some (.lst ys)/\∃m',m'<m/\W (i+1) m' (ys++[y]) (upd H5 D (.lst (ys++[y])))
   else ∃m',m'<m/\W (i+1) m' ys H4))
noncomputable def qC(wi:TI)(cap:List Nat)(tt:TT)(te:TE):TE:=λσ H Q=>wi σ H λJ H1=>∀D,H1 D=none->aOM J cap tt te σ H1 Q D
structure CFree(X:Cx)(pins:List (Addr×Obj))(H':Hp)(C:Addr):Prop where
 hn:H' C=none
 hL:C≠X.env.locals
 h1:X.s₀.heap.objs.size<=C
 h2:∀x c,X.env.cells.lookup x=some c->c≠C
 h3:∀p∈X.pn++pins,p.1≠C
noncomputable def aN6(un:V->Hp->List V->Prop)(J:It)(cap:List Nat)(tt:TT)(te:TE)(σ:St)(H1:Hp)(Q:VK)(D:Addr):Prop:=∃W:Nat->Nat->List V->Hp->Prop,(∃m,W 0 m [] (upd H1 D (.lst [])))/\∀i m ys H2,W i m ys H2 ->
 H2 D=some (.lst ys)/\((J.stop i H2/\Q (.ref D) H2)\/(J.go i H2/\ys.length<sizeLine/\∀x H3,J.yld i H2 x H3->∃us,un x H3 us /\
  tt (us.map some++cap.map λk=>(σ[k]?).join) H3 λc H4=>if c=true then te (us.map some++cap.map λk=>(σ[k]?).join) H4 λy H5=>H5 D=some (.lst ys)/\∃m',m'<m/\W (i+1) m' (ys++[y]) (upd H5 D (.lst (ys++[y])))
   else ∃m',m'<m/\W (i+1) m' ys H4))
noncomputable def zC(un:V->Hp->List V->Prop)(wi:TI)(cap:List Nat)(tt:TT)(te:TE):TE:=λσ H Q=>wi σ H λJ H1=>∀D,H1 D=none->aN6 un J cap tt te σ H1 Q D
theorem n0{xs:List Str}{un:V->Hp->List V->Prop}{gT:TG}{cap:List Nat}(hc:X.calm=true)(hkind:scope.kind = .function)(hnames:∀y∈scope.names,y.2 = .local->scope.names.lookup y.1=some .local)(hst:∀cs C s₀ H₀ fp,PG (aN X scope cs C (xs++ns) s₀ H₀ fp) tg gT)(hun:∀v H us (os rest:St),un v H us->os.length=xs.length->us.length=xs.length/\gT v (os++rest) H (λσ' H'=>σ'=us.map some++rest/\H'=H))(hlen:cap.length=ns.length)(hcap:∀(j k:Nat) (nm:Str),cap[j]?=some k->ns[j]?=some nm->X.N[k]?=some nm/\(X.env.scope.names.lookup nm=some .cell\/X.env.scope.names.lookup nm=some .free))(hns:∀nm∈ns,(nm,jo)∈scope.names/\(nm,km)∉scope.names)(hnsk:∀nm∈ns,scope.names.lookup nm=some .free)(hfree:∀y∈scope.names,y.2 = .free->X.env.scope.names.lookup y.1=some .cell\/X.env.scope.names.lookup y.1=some .free)(hi:PI X tg iter wi)(ht:∀cs C s₀ H₀ fp,PIf (aN X scope cs C (xs++ns) s₀ H₀ fp) ifs tt)(he:∀cs C s₀ H₀ fp,PE (aN X scope cs C (xs++ns) s₀ H₀ fp) elt te)(hs:∀v,foldedSetIterable iter X.env v=pure v:=by intro _;rfl){use:Option (Value->Sem Unit)}{Q:VK}(I:Inv X pins σ H s)(h:zC un wi cap tt te σ H Q)(hfin:∀(D C:Addr) (H':Hp) (s':Shared),Inv X pins σ H' s'->Q (.ref D) H'->(∃m,s'.heap.Ns C m)->CFree X pins H' C->nh X.w.4 X.A X.xe use Q' (.ref D) C (.ok .next) s'):
  wpAny X.w.4 X.A (dm (.ListComp elt [⟨tg,iter,ifs,0⟩] scope pos) scope X.env ip (Ja []) false (eval iter X.env) use) Q' X.xe s:=by
 obtain⟨cl,aF,ai,ad⟩:=xE (scope:=scope) (env:=X.env) λn hn=>I.ok.has n (hfree (n, .free) hn rfl)
 refine wpAny_comprehension_free (use:=use) rfl hs aF hkind hnames (thn (hi pins s σ H _ I h) λxv s1 h1=>thn h1 λaJ s2 h2 => ?_)
 obtain⟨it,fp,tn,J,H2,rfl,I2,T,an,f2,q⟩:=h2
 have hD:H2 s2.heap.objs.size=none:=I2.fresh
 obtain⟨W,⟨m0,w0⟩,step⟩:=q s2.heap.objs.size hD
 refine j0 ?_ (by show 0<=sizeLine;exact vq _)
 have I3:Inv X pins σ (upd H2 s2.heap.objs.size (.lst [])) {s2 with heap:=s2.heap.push {cls := .type "list", data := .seq ([]:List Value).toArray} }:=
  I2.laid (t':=s2.toks) (λb u e=>qc _ e) (ql _) ⟨vq _,[],0, .nil,qu _ rfl⟩
 have ab:(s2.heap.push {cls := .type "list", data := .seq ([]:List Value).toArray}).objs.size=s2.heap.objs.size+1:=kr ..
 have x:∀b∈fp,∀o,(upd H2 s2.heap.objs.size (.lst [])) b≠some o:=λb f o z=>by
  obtain⟨ob,e,_⟩:=T.obj 0 _ an b f
  rw[aV (qy (qt e)),(f2 b f).1] at z
  cases z
 revert I3 ab w0 step x
 generalize upd H2 s2.heap.objs.size (.lst [])=H3
 generalize hs3:({s2 with heap:=s2.heap.push {cls := .type "list", data := .seq ([]:List Value).toArray} }:Shared)=s3
 intro step w0 I3 ab x
 have al:tn 0 s3.heap:=T.keep 0 _ _ an λb _ o e=>by rw[<- hs3];exact qc _ e
 have G:∀b∈fp,b<s3.heap.objs.size:=λb f=>by
  obtain⟨o,e,_⟩:=T.obj 0 _ al b f
  exact qt e
 refine aA9 ?_
 have new:CellsOk (dc (s3.heap.push {cls := .type "dict", data := .dict #[]}) scope.names) (s3.heap.objs.size+1) (cellsFrom (s3.heap.objs.size+1) scope.names []):=by
  have ok:=cellsFrom_ok scope.names (s3.heap.push {cls := .type "dict", data := .dict #[]}) (s3.heap.objs.size+1) [] ⟨λ_ _ hm=>(nomatch hm),dg⟩ (by rw[kr];exact ql _)
  rw[kr] at ok
  exact ok
 have g:∀b o,s3.heap.get? b=some o->(dc (s3.heap.push {cls := .type "dict", data := .dict #[]}) scope.names).get? b=some o:=λb o e=>K4 _ _ b o (qc _ e)
 have ax:(dc (s3.heap.push {cls := .type "dict", data := .dict #[]}) scope.names).Ns s3.heap.objs.size (λ_=>none):=(Heap.Ns.new s3.heap (.type "dict")).keeps (K4 _ _)
 have Z:∀y c,(cl.8).lookup y=some c->((y,c)∈cellsFrom (s3.heap.objs.size+1) scope.names []/\(y,km)∈scope.names)\/(cl.lookup y=some c/\X.env.cells.lookup y=some c):=λy c e=>by
  rw[iQ,k8] at e
  cases z:(cellsFrom (s3.heap.objs.size+1) scope.names []).lookup y with
  |some c' =>
   rw[z] at e
   have e':c'=c:=qz e
   subst e'
   have hm:=kl z
   rcases sM _ _ _ hm with q|q
   ·exact .inl ⟨hm,q⟩
   ·cases q
  |none=>rw[z] at e;exact .inr ⟨e,ai y c e⟩
 have oldLt:∀y c,X.env.cells.lookup y=some c->c<s3.heap.objs.size:=λy c e=>by
  obtain⟨v,z⟩:=I3.cell y c e
  exact z.lt
 have ac:∀nm∈ns,∃c,(cl.8).lookup nm=some c/\X.env.cells.lookup nm=some c:=λnm aq=>by
  obtain⟨h1,h2⟩:=hns nm aq
  obtain⟨c,e⟩:=ad nm h1
  refine⟨c,?_,ai nm c e⟩
  rw[iQ,k8]
  cases z:(cellsFrom (s3.heap.objs.size+1) scope.names []).lookup nm with
  |some c' =>
   rcases sM _ _ _ (kl z) with q|q
   ·exact absurd q h2
   ·cases q
  |none=>exact e
 show nz X.w.4 X.A (.compStart (.ListComp elt [⟨tg,iter,ifs,0⟩] scope pos) 0 (.ref it) (.ref s2.heap.objs.size) (fp.9).env) (nh X.w.4 X.A X.xe use Q' (.ref s2.heap.objs.size) s3.heap.objs.size) {s3 with heap:=dc (s3.heap.push {cls := .type "dict", data := .dict #[]}) scope.names}
 have aI:=ht cl.8 s3.heap.objs.size s3 H3 fp
 have au:=he cl.8 s3.heap.objs.size s3 H3 fp
 have OK:(fp.9).Ok:=by
  refine⟨I3.ok.mod,hkind,I3.ok.glob,I3.ok.blt,ql _,λy z c R P => ?_,λy hy => ?_,λy c hf e => ?_,λ_=>I3.ok.hd hc,I3.ok.frames, .inl rfl,λb f=>⟨qy (G b f),λy c e => ?_⟩,I3.bs,jn I3.ok.bsz I3.sz,λb o e f => ?_,λb f hm => ?_,I3.stack,I3.stkFree⟩
  ·rcases Z y c R with ⟨a1,_⟩|⟨a1,a2⟩ <;> rcases Z z c P with ⟨b1,_⟩|⟨b1,b2⟩
   ·exact name_of_addr new.apart a1 b1
   ·exact absurd (q3 (oldLt z c b2) (zb (new.empty y c a1).2)) (xh _)
   ·exact absurd (q3 (oldLt y c a2) (zb (new.empty z c b1).2)) (xh _)
   ·exact I3.ok.inj y z c a2 b2
  ·have key:scope.names.lookup y=some .cell\/scope.names.lookup y=some .free:=by
    rcases hy with hy|hy
    ·rcases gU (env:=X.env) (names:=scope.names) hy with q|⟨q,_⟩
     ·exact .inl q
     ·exact .inr q
    ·rcases gU (env:=X.env) (names:=scope.names) hy with q|⟨q,_⟩
     ·exact .inr q
     ·exact .inr q
   rcases key with q|q
   ·exact yt.mp (x9 scope.names (s3.heap.objs.size+1) cl (.inl q))
   ·obtain⟨c,e⟩:=ad y (kl q)
    exact yt.mp (x9 scope.names (s3.heap.objs.size+1) cl (.inr (by rw[e];rfl)))
  ·have ar:scope.names.lookup y=some .cell:=by
    have aB:(scope.names.lookup y==some .cell)=true:=hf
    simpa using aB
   have e':(cl.8).lookup y=some c:=e
   have e0:=yt.mp (x9 scope.names (s3.heap.objs.size+1) [] (.inl ar))
   obtain⟨c',z⟩:=e0
   rw[iQ,k8,z] at e'
   cases e'
   exact zb (new.empty y c (kl z)).2
  ·rcases Z y c e with ⟨a1,_⟩|⟨a1,a2⟩
   ·exact λz=>absurd (q3 (G b f) (z▸zb (new.empty y c a1).2)) (xh _)
   ·exact (f2 b f).2.2.2.2.1 y c a2
  ·rcases (f2 b f).2.2.2.1 with z|z
   ·exact I3.ok.noex b o e z
   ·exact absurd (q3 (qt (I3.ok.bs b o e).1) z) (xh _)
  ·rcases qf.mp (I3.stkSub b hm) with z|z
   ·exact (f2 b f).2.1 z
   ·exact (f2 b f).2.2.1 z
 have IY:Inv fp.9 [] (vc xs.length none++cap.map λk=>(σ[k]?).join) H3 {s3 with heap:=dc (s3.heap.push {cls := .type "dict", data := .dict #[]}) scope.names}:=by
  refine⟨OK,rfl,I3.bare,Un.kept g,⟨_,ax,λi nm v R P e3 => ?_⟩,λy c e => ?_,I3.fresh,λy c e => ?_,λp hp=>absurd (show p∈([]:List (Addr×Obj)) from hp) '$',I3.hok.kept g,by simp[aN,hlen]⟩
  ·by_cases am:i<xs.length
   ·rw[j3 (by rw[xf];exact am),xy,if_pos am] at P
    cases P
   ·obtain⟨j,rfl⟩:∃j,i=xs.length+j:=⟨i-xs.length,by omega⟩
    have F:ns[j]?=some nm:=by
     have R:(xs++ns)[xs.length+j]?=some nm:=R
     rw[ku '!',ph] at R
     exact R
    have E:(cap.map λk=>(σ[k]?).join)[j]?=some (some v):=by
     rw[ku (by rw[xf];omega),xf,ph] at P
     exact P
    rw[qm] at E
    cases hk:cap[j]? with
    |none=>rw[hk] at E;cases E
    |some k =>
     rw[hk] at E
     have t:(σ[k]?).join=some v:=qz E
     have e4:σ[k]?=some (some v):=by
      cases z:σ[k]? with
      |none=>rw[z] at t;cases t
      |some o=>rw[z] at t;exact congrArg some t
     obtain⟨hN,B⟩:=hcap j k nm hk F
     obtain⟨m,_,hl⟩:=I3.loc
     obtain⟨u,r,l⟩:=hl k nm v hN e4 (.inr B)
     refine⟨u,r,?_⟩
     rcases l with ⟨l1,_⟩|⟨_,c,ec,z⟩
     ·have ao:X.env.scope.names.lookup nm=some .local:=l1
      rcases B with q|q <;> rw[q] at ao <;> cases ao
     ·obtain⟨c',g1,g2⟩:=ac nm (zMo F)
      rw[ec] at g2
      cases g2
      refine .inr ⟨?_,c,g1,?_⟩
      ·rcases e3 with q|q
       ·rcases gU (env:=X.env) (names:=scope.names) q with w1|⟨_,w1⟩
        ·exfalso
         have ak:=(hns nm (zMo F)).1
         have:=hnames (nm, .local) (kl w1) rfl
         -- a name has one kind in a scope: its cell is known,so it is not local here
         exact absurd (I3.ok.has nm (hfree (nm, .free) ak rfl)) (λ_=>by
          have af:=(hnsk nm (zMo F))
          rw[w1] at af;cases af)
        ·cases w1
       ·exact q
      ·obtain⟨o,ho,hd⟩:=z
       exact⟨o,g c o ho,hd⟩
  ·rcases Z y c e with ⟨a1,_⟩|⟨a1,a2⟩
   ·exact⟨none,(new.empty y c a1).1⟩
   ·obtain⟨v,o,ho,hd⟩:=I3.cell y c a2
    exact⟨v,o,g c o ho,hd⟩
  ·rcases Z y c e with ⟨a1,_⟩|⟨a1,a2⟩
   ·exact I3.hok.fresh (zb (new.empty y c a1).2)
   ·exact I3.freeC y c a2
 -- what is reached at the end
 have fin:∀{σ':St}{H':Hp}{s':Shared},Inv fp.9 [] σ' H' s'->Q (.ref s2.heap.objs.size) H' ->
   nh X.w.4 X.A X.xe use Q' (.ref s2.heap.objs.size) s3.heap.objs.size (.ok .next) s':=λ{σ' H' s'} J qd=>by
  obtain⟨Y,aH,_⟩:=J.loc
  have aA:H' s3.heap.objs.size=none:=J.free
  refine hfin _ _ H' s' (I3.call' (ch:=fp) J.os J.base J.hok J.bare λb f=>⟨(f2 b f).2.2.2.1,(f2 b f).2.1,(f2 b f).2.2.2.2.1,(f2 b f).2.2.2.2.2⟩) qd ⟨Y,aH⟩ ⟨aA,xt I3.lt,I3.sz,λy c e=>qy (oldLt y c e),λp hp=>qy (qt (I3.pin p hp).1)⟩
 have L:∀{H':Hp},(∀b∈fp,H' b=none)->∀b∈fp,mV fp.9 [] H' b:=λ{H'} hn b f =>
  ⟨hn b f,(OK.exf b f).1,OK.exfs b f, .inl f,(OK.exf b f).2,λp hp=>absurd (show p∈([]:List (Addr×Obj)) from hp) '$'⟩
 have ae:tn 0 (dc (s3.heap.push {cls := .type "dict", data := .dict #[]}) scope.names):=T.keep 0 _ _ al λb _ o e=>g b o e
 have aG:∀b∈fp,H3 b=none:=λb f=>by
  cases z:H3 b with
  |none=>rfl
  |some o=>exact absurd rfl (λ_:(1:Nat)=1=>x b f o z)
 have loop:nz X.w.4 X.A (.compLoop (.ListComp elt [⟨tg,iter,ifs,0⟩] scope pos) 0 (.ref it) (.ref s2.heap.objs.size) (fp.9).env) (nh X.w.4 X.A X.xe use Q' (.ref s2.heap.objs.size) s3.heap.objs.size) {s3 with heap:=dc (s3.heap.push {cls := .type "dict", data := .dict #[]}) scope.names}:=by
  refine yK (λn s'=>∃i S os H',os.length=xs.length/\Inv fp.9 [] (os++cap.map λk=>(σ[k]?).join) H' s'/\tn i s'.heap/\(∀b∈fp,H' b=none)/\W i n S H') ?_ m0 ⟨0,[],vc xs.length none,H3,xf,IY,ae,aG,w0⟩
  rintro n s5 ⟨i,S,os,H5,aD,I5,ap,aa,w5⟩
  obtain⟨eD,alt⟩:=step i n S H5 w5
  rcases alt with ⟨stop,qd⟩|⟨go,hz,turn⟩
  ·refine thn (T.done fp.9 rfl rfl rfl hc i [] s5 _ H5 (λ_ _=>False) I5 (L aa) ap stop) λr s6 ⟨hr,I6⟩ => ?_
   subst hr
   exact fin I6 qd
  ·refine thn (T.item fp.9 rfl rfl rfl hc i [] s5 _ H5 (λ_ _=>False) I5 (L aa) ap go) λr s6 ⟨u,hr,h6⟩ => ?_
   subst hr
   refine thn h6 λ_ s7 ⟨O,H7,I7,r7,y7,M,aE⟩ => ?_
   have I7':=I7.pinned (L aE) (T.obj _ _ M)
   obtain⟨us,ex,K⟩:=turn O _ y7
   obtain⟨U,gx⟩:=hun O H7 us os (cap.map λk=>(σ[k]?).join) ex aD
   refine thn (hst _ _ _ _ _ _ s7 _ H7 O u (λσ8 H8=>σ8=(us.map some++cap.map λk=>(σ[k]?).join)/\H8=H7) I7' r7 gx) λ_ s8 ⟨σ8,H8,I8,e8,aw⟩ => ?_
   subst e8 aw
   have back:∀{σ9:St}{H9:Hp}{s9:Shared},Inv fp.9 ([]++pB fp s7.heap) σ9 H9 s9->tn (i+1) s9.heap/\∀b∈fp,H9 b=none:=λ{σ9 H9 s9} I9=>by
    refine⟨T.keep _ _ _ M λb f o e=>(I9.pin (b,o) (qx _ (qx _ (k7 f e)))).1,λb f => ?_⟩
    obtain⟨o,e,d⟩:=T.obj _ _ M b f
    exact (I9.pin (b,o) (qx _ (qx _ (k7 f e)))).2.1
   refine thn (aI _ s8 _ _ _ I8 K) λb s9 ⟨H9,I9,q9⟩ => ?_
   cases b with
   |false =>
    rw[if_neg zBf] at q9 ⊢
    obtain⟨Y,hm,w9⟩:=q9
    obtain⟨st9,az⟩:=back I9
    exact⟨Y,hm,i+1,S,us.map some,H9,by rw[zLm];exact U,I9.unpinned,st9,az,w9⟩
   |true =>
    rw[if_pos rfl] at q9 ⊢
    refine thn (au _ s9 _ _ _ I9 q9) λyv aC ⟨y,H10,I10,as,ah,Y,hm,av⟩ => ?_
    refine thn (fH (X:=aN X scope cl.8 s3.heap.objs.size (xs++ns) s3 H3 fp) _ aC _ H10 (.ref s2.heap.objs.size) [y] (.ref s2.heap.objs.size) [yv] (λ_ H11=>H11=upd H10 s2.heap.objs.size (.lst (S++[y]))) I10 rfl (.cons as .nil) ⟨_,S,y,rfl,rfl,ah,hz,rfl⟩) λ_ aK ⟨_,H11,I11,_,ay⟩ => ?_
    subst ay
    obtain⟨aj,ag⟩:=back I11
    exact⟨Y,hm,i+1,_,us.map some,_,by rw[zLm];exact U,I11.unpinned,aj,ag,av⟩
 exact codeAny_compStart_list loop (T.self X.A 0 _ _ _ ae loop)
noncomputable def wiM(wi:TI):TI:=λσ H R'=>∃R:It->Hp->Prop,(∀J H1,R J H1->R' J H1)/\wi σ H R
theorem aB6(h:PI X tg iter wi):PI X tg iter (wiM wi):=λpins s σ H R' I ⟨R,c,hw⟩ =>
 thn (h pins s σ H R I hw) λv s1 a=>thn a λw s2 ⟨it,b,d,J,H2,e,I2,T,st,f,r⟩=>⟨it,b,d,J,H2,e,I2,T,st,f,c J H2 r⟩
theorem wQ{cap:List Nat}(hc:X.calm=true)(hkind:scope.kind = .function)(hnames:∀y∈scope.names,y.2 = .local->scope.names.lookup y.1=some .local)(hx:Loc (yw scope X.env) x)(hxf:scope.names.lookup x=some .cell\/(yw scope X.env).names.lookup x=some .local)(hNc:(x::ns).Nodup)(hlen:cap.length=ns.length)(hcap:∀(j k:Nat) (nm:Str),cap[j]?=some k->ns[j]?=some nm->X.N[k]?=some nm/\(X.env.scope.names.lookup nm=some .cell\/X.env.scope.names.lookup nm=some .free))(hns:∀nm∈ns,(nm,jo)∈scope.names/\(nm,km)∉scope.names)(hnsk:∀nm∈ns,scope.names.lookup nm=some .free)(hfree:∀y∈scope.names,y.2 = .free->X.env.scope.names.lookup y.1=some .cell\/X.env.scope.names.lookup y.1=some .free)(hi:PI X (.Name x px) iter wi)(ht:∀cs C s₀ H₀ fp,PIf fp.7 ifs tt)(he:∀cs C s₀ H₀ fp,PE fp.7 elt te)(hs:∀v,foldedSetIterable iter X.env v=pure v:=by intro _;rfl){use:Option (Value->Sem Unit)}{Q:VK}(I:Inv X pins σ H s)(h:qC wi cap tt te σ H Q)(hfin:∀(D C:Addr) (H':Hp) (s':Shared),Inv X pins σ H' s'->Q (.ref D) H'->(∃m,s'.heap.Ns C m)->CFree X pins H' C->nh X.w.4 X.A X.xe use Q' (.ref D) C (.ok .next) s'):
  wpAny X.w.4 X.A (dm '%' scope X.env ip (Ja []) false (eval iter X.env) use) Q' X.xe s:=by
 refine n0 (xs:=[x]) (un:=λv _ us=>us=[v]) (gT:=kX 0) hc hkind hnames (λq l t f e=>mX (X:=aN X scope q l ([x]++ns) t f e) (i:=0) hNc rfl hx (hxf.elim (λz => .inl (by show (scope.names.lookup _==some .cell)=true;rw[z];rfl)) .inr)) (λv H us os rest u p => ?_) hlen hcap hns hnsk hfree (aB6 hi) ht he hs I ⟨_,λJ H1 g D n => ?_,h⟩ hfin
 ·subst u
  match os,p with
  |[o],_=>exact⟨rfl,rfl,rfl⟩
 ·obtain⟨W,r,st⟩:=g D n
  exact⟨W,r,λi m d H2 w=>⟨(st i m d H2 w).1,(st i m d H2 w).2.imp id λ⟨a,b,c⟩=>⟨a,b,λv H3 y=>⟨[v],rfl,c v H3 y⟩⟩⟩⟩
theorem aJY{cap:List Nat}(hc:X.calm=true)(hkind:scope.kind = .function)(hnames:∀y∈scope.names,y.2 = .local->scope.names.lookup y.1=some .local)(hx:Loc (yw scope X.env) x)(hxf:scope.names.lookup x=some .cell\/(yw scope X.env).names.lookup x=some .local)(hNc:(x::ns).Nodup)(hlen:cap.length=ns.length)(hcap:∀(j k:Nat) (nm:Str),cap[j]?=some k->ns[j]?=some nm->X.N[k]?=some nm/\(X.env.scope.names.lookup nm=some .cell\/X.env.scope.names.lookup nm=some .free))(hns:∀nm∈ns,(nm,jo)∈scope.names/\(nm,km)∉scope.names)(hnsk:∀nm∈ns,scope.names.lookup nm=some .free)(hfree:∀y∈scope.names,y.2 = .free->X.env.scope.names.lookup y.1=some .cell\/X.env.scope.names.lookup y.1=some .free)(hi:PI X (.Name x px) iter wi)(ht:∀cs C s₀ H₀ fp,PIf fp.7 ifs tt)(he:∀cs C s₀ H₀ fp,PE fp.7 elt te)(hs:∀v,foldedSetIterable iter X.env v=pure v:=by intro _;rfl):
  PE X '%' (qC wi cap tt te):=by
 intro pins s σ H Q I h
 rw[eval_ListComp]
 refine wQ hc hkind hnames hx hxf hNc hlen hcap hns hnsk hfree hi ht he hs (use:=none) I h λD C H' d J q ⟨m,hn⟩ a=>⟨m,hn,λg c => ?_⟩
 exact⟨.ref D,H',J.turned (t':=d.toks) (it:=C) (λb o f e=>(c.2 b f).trans e) a.hn a.hL (.inr a.h1) a.h2 a.h3,rfl,q⟩
theorem aDE{iy:Nat}{cap:List Nat}(hN:X.N.Nodup)(hiy:X.N[iy]?=some y)(hyl:X.env.scope.names.lookup y=some .local)(hc:X.calm=true)(hkind:scope.kind = .function)(hnames:∀y∈scope.names,y.2 = .local->scope.names.lookup y.1=some .local)(hx:Loc (yw scope X.env) x)(hxf:scope.names.lookup x=some .cell\/(yw scope X.env).names.lookup x=some .local)(hNc:(x::ns).Nodup)(hlen:cap.length=ns.length)(hcap:∀(j k:Nat) (nm:Str),cap[j]?=some k->ns[j]?=some nm->X.N[k]?=some nm/\(X.env.scope.names.lookup nm=some .cell\/X.env.scope.names.lookup nm=some .free))(hns:∀nm∈ns,(nm,jo)∈scope.names/\(nm,km)∉scope.names)(hnsk:∀nm∈ns,scope.names.lookup nm=some .free)(hfree:∀y∈scope.names,y.2 = .free->X.env.scope.names.lookup y.1=some .cell\/X.env.scope.names.lookup y.1=some .free)(hi:PI X (.Name x px) iter wi)(ht:∀cs C s₀ H₀ fp,PIf fp.7 ifs tt)(he:∀cs C s₀ H₀ fp,PE fp.7 elt te)(hs:∀v,foldedSetIterable iter X.env v=pure v:=by intro _;rfl)(hsw:bf '%' (some (.Name y py)) spos.line X.env=pure true:=by rfl):
  PS X (.Assign [.Name y py] '%' spos) (zY (qC wi cap tt te) (kX iy)):=by
 intro pins s σ H D I h
 rw[QH _ _ _ _ hsw]
 refine qa (zv (qa ?_))
 show wpAny _ X.A (do let _ <- dm '%' scope X.env _ (Ja []) false (eval iter X.env) (some (assign (.Name y py) X.env))) _ _ s
 refine qa (x6 (wQ hc hkind hnames hx hxf hNc hlen hcap hns hnsk hfree hi ht he hs (use:=some (assign (.Name y py) X.env)) (Q':=λ_ f=>SP X pins D .next f) I h λL C H' f J q ⟨m,hn⟩ c => ?_) (λ_ f n=>wpAny_pure n.5) λ_ _ e=>e)
 refine lq (p7 J hN hiy (.inl hyl) (v := .ref L) rfl (λs2 J2 ⟨a,l,d⟩ => ?_) (.inr hyl))
 have i:C≠a:=by
  rcases d with rfl|d
  ·exact c.hL
  ·exact ya (c.h2 y a d)
 refine⟨m,hn.sameBut l i,λr g => ?_⟩
 exact⟨_,H',J2.turned (t':=s2.toks) (it:=C) (λb o p e=>(g.2 b p).trans e) c.hn c.hL (.inr c.h1) c.h2 c.h3,q⟩
structure Yields(J:It)(xs:List V)(Kp:Hp->Prop):Prop where
 go:∀i H,Kp H->i<xs.length->J.go i H
 yld:∀i H x H',Kp H->J.yld i H x H'->i<xs.length->H'=H/\xs[i]?=some x
 stop:∀i H,Kp H->xs.length<=i->J.stop i H
theorem vH{K:qe}{xs:List V}:Yields (Itl K a) xs (λH=>SqL K H a xs) where
 go:=λi H k h=>⟨xs,xs[i],k,by simp[h]⟩
 yld:=λi H x H' k y _=>⟨y.1,y.2 xs k⟩
 stop:=λi H k h=>⟨xs,k,h⟩
theorem zE{K:qe}{xs:List V}:Yields (Itt K a) xs (λH=>SqT K H a xs) where
 go:=λi H k h=>⟨xs,xs[i],k,by simp[h]⟩
 yld:=λi H x H' k y _=>⟨y.1,y.2 xs k⟩
 stop:=λi H k h=>⟨xs,k,h⟩
noncomputable def Butd(D:Addr)(H H':Hp):Prop:=∀b o,b≠D->H b=some o->H' b=some o
theorem Butd.upd{D:Addr}{o:HO}:Butd D H (upd H D o):=λb u n e=>by rw[aV n];exact e
theorem Same.but{D:Addr}(s:Same H1 H)(n:H1 D=none)(b:Butd D H H'):Same H1 H':=λc o e=>b c o (bA e n) (s c o e)
theorem pQ{D:Addr}{o:HO}(n:H D=none):Same H (upd H D o):=(Same.refl H).but n Butd.upd
theorem take_snoc{α:Type}{xs:List α}{x:α}(h:xs[i]?=some x):xs.take (i+1)=xs.take i++[x]:=by
 rw[mi,h];rfl
end L2
namespace L2
open PySem PySem.Spec PyProof.Rows
section
theorem vD:∀{ys:List Str}{its:List Value},Vals (ys.map V.str) its->StrsAre its ys
 |[],_,r=>by cases r;exact .nil
 |y::ys,_,r=>by
  cases r with
  |cons a b =>
   obtain⟨t,rfl⟩:=a
   exact .cons y t (vD b)
noncomputable def rJoin(K:qe):V->List V->Hp->VK->Prop:=λx vs H Q=>∃sep p ys,x = .str sep/\vs=[.ref p]/\(SqL K H p (ys.map V.str)\/SqT K H p (ys.map V.str))/\sep.length<=16/\(ys.map (·.length)).sum+ys.length<=1048576/\Q (.str (JK sep ys)) H
theorem iZ:MtR X "str.join" (rJoin X.K):=by
 intro pins s σ H x vs u us Q I j i h
 obtain⟨sep,p,n,rfl,rfl,a,f,g,q⟩:=h
 obtain⟨v,rfl,m⟩:=vals1 i
 cases m
 obtain⟨t,rfl⟩:=j
 rcases a with a|a
 ·obtain⟨d,b,e,l⟩:=I.list a
  exact join_listW e.isList (vD b) f g λc k=>⟨.str _,H,I.tok k,⟨c,rfl⟩,q⟩
 ·obtain⟨d,b,e,l⟩:=I.tuple a
  exact join_tupleW e (vD b) f g λc k=>⟨.str _,H,I.tok k,⟨c,rfl⟩,q⟩
noncomputable def lQ(x:Str)(n:Nat):Str:=⟨(vc n x.cps).foldl (· ++ ·) #[]⟩
theorem yA(a:Array Nat):∀(n:Nat) (acc:Array Nat),((vc n a).foldl (· ++ ·) acc).toList=acc.toList++(vc n a.toList).flatten
 |0,acc=>by simp
 |n+1,acc=>by
  rw[xw,Q5,yA a n,xw,y9]
  simp
theorem mK(x:Str)(n:Nat):(lQ x n).cps.toList=(vc n x.cps.toList).flatten:=by
 unfold lQ
 rw[yA];rfl
theorem aG7(x:Str)(n:Nat):(lQ x n).length=x.length*n:=by
 show (lQ x n).cps.size=x.cps.size*n
 rw[<- jj,mK,<- jj]
 generalize x.cps.toList=l
 induction n with
 |zero=>simp
 |succ n ih=>rw[xw,y9,qh,ih,sd,Kd]
theorem lC(h:x.cps.toList=y.cps.toList):x=y:=by
 cases x;cases y
 simp only[Str.mk.injEq]
 exact Array.toList_inj.mp h
theorem aHU(x:Str):lQ x 1=x:=lC (by rw[mK];simp)
theorem aGV(x:Str)(n:Nat)(h:x.length=0):lQ x n=x:=by
 have a:x.cps.toList=[]:=List.eq_nil_of_length_eq_zero (by rw[jj];exact h)
 apply lC
 rw[mK,a]
 induction n with
 |zero=>rfl
 |succ n ih=>rw[xw,y9,ih];rfl
noncomputable def aI3:R2:=λx y H Q=>∃z n,x = .str z/\y = .int n /\ -(2^40)<=n/\n<2^40/\z.length*n.toNat<=sizeLine/\Q (.str (lQ z n.toNat)) H
theorem vJ:OpR X (we .Mult) aI3:=by
 intro pins s σ H x y u v Q I j k h
 obtain⟨z,n,rfl,rfl,m,r,f,q⟩:=h
 obtain⟨t,rfl⟩:=j
 obtain⟨o,rfl⟩:=k
 refine P.mul_str (by rw[decide_eq_false '!',decide_eq_false '!'];rfl) (λa b => ?_) (λa b => ?_) ?_
 ·have:(n.toNat:Int)=n:=by omega
  have l:((z.length:Int))*n<=(sizeLine:Nat):=by rw[<- this];exact_mod_cast f
  intro c
  have i:0<n:=by omega
  have:=(Int.ediv_lt_iff_lt_mul i).mp c
  have p:((sizeLine:Nat):Int)<2^62:=by decide
  omega
 ·exact aH1 f
 ·by_cases g:n<1
  ·rw[if_pos g]
   rw[show n.toNat=0 by omega] at q
   exact⟨by decide, .str _,H,I.tok _,⟨_,rfl⟩,q⟩
  ·rw[if_neg g]
   by_cases d:(n==1||z.length==0)=true
   ·rw[if_pos d]
    refine⟨.str z,H,I,⟨_,rfl⟩,?_⟩
    have e:lQ z n.toNat=z:=by
     rw[yh,beq_iff_eq,beq_iff_eq] at d
     rcases d with c|c
     ·rw[c];exact aHU z
     ·exact aGV z _ c
    rw[e] at q;exact q
   ·rw[if_neg d]
    refine⟨?_, .str _,H,I.tok _,⟨_,rfl⟩,q⟩
    show (lQ z n.toNat).length<=sizeLine
    rw[aG7];exact f
end
end L2
namespace L2
open PySem PySem.Spec PyProof.Rows
noncomputable def gF(sc scope:Scope)(x:Str)(ns:List Str)(cap:List Nat)(N:List Str):Bool:=
 decide (scope.kind = .function)&&scope.names.all (λy=>decide (y.2 ≠ .local)||decide (scope.names.lookup y.1=some .local))&&(decide (scope.names.lookup x=some .local)||decide (scope.names.lookup x=some .cell)) &&
 decide ((x::ns).Nodup)&&decide (cap.length=ns.length) &&
 (qr cap.length).all (λj=>match cap[j]?,ns[j]? with
  |some k,some nm=>decide (N[k]?=some nm)&&(decide (sc.names.lookup nm=some .cell)||decide (sc.names.lookup nm=some .free))
  |_,_=>true) &&
 ns.all (λnm=>decide ((nm,jo)∈scope.names)&&decide ((nm,km)∉scope.names)&&decide (scope.names.lookup nm=some .free)) &&
 scope.names.all (λy=>decide (y.2 ≠ .free)||(decide (sc.names.lookup y.1=some .cell)||decide (sc.names.lookup y.1=some .free)))
theorem dF{env:Env}:∀{names:List (Str×NameKind)}{x:Str},names.lookup x=some .cell ->
  (names.map λ(n,k)=>if (k==jo&&env.scope.kind == .function&&env.kindOf n==some .cell) then (n,km) else (n,k)).lookup x=some .cell
 |[],_,h=>by simp at h
 | (n,k)::r,x,h=>by
  have a:=dF (env:=env) (names:=r) (x:=x)
  show vz x ((if (k==jo&&env.scope.kind == .function&&env.kindOf n==some .cell)=true then (n,km) else (n,k))::_)=_
  rw[jv] at h
  split
  ·rw[jv]
   cases hx:x==n with
   |true=>rfl
   |false=>rw[hx] at h;exact a h
  ·rw[jv]
   cases hx:x==n with
   |true=>rw[hx] at h;exact h
   |false=>rw[hx] at h;exact a h
structure CompOk(sc scope:Scope)(x:Str)(ns:List Str)(cap:List Nat)(N:List Str):Prop where
 hkind:scope.kind = .function
 hnames:∀y∈scope.names,y.2 = .local->scope.names.lookup y.1=some .local
 hx:scope.names.lookup x=some .local\/scope.names.lookup x=some .cell
 hNc:(x::ns).Nodup
 hlen:cap.length=ns.length
 hcap:∀(j k:Nat) (nm:Str),cap[j]?=some k->ns[j]?=some nm->N[k]?=some nm/\(sc.names.lookup nm=some .cell\/sc.names.lookup nm=some .free)
 hns:∀nm∈ns,(nm,jo)∈scope.names/\(nm,km)∉scope.names
 hnsk:∀nm∈ns,scope.names.lookup nm=some .free
 hfree:∀y∈scope.names,y.2 = .free->sc.names.lookup y.1=some .cell\/sc.names.lookup y.1=some .free
theorem gI{sc:Scope}{cap:List Nat}(h:gF sc scope x ns cap N=true):CompOk sc scope x ns cap N:=by
 unfold gF at h
 simp only[qn,yh,decide_eq_true_eq,wg] at h
 obtain⟨⟨⟨⟨⟨⟨⟨l,o⟩,n⟩,i⟩,m⟩,d⟩,b⟩,f⟩:=h
 refine⟨l,λy a e=>(o y a).resolve_left (λz=>z e),n,i,m,λj k nm c g => ?_,λnm hm=>(b nm hm).1,λnm hm=>(b nm hm).2,λy a e=>(f y a).resolve_left (λz=>z e)⟩
 have p:j<cap.length:=(zGs c).1
 have:=d j (q4.mpr p)
 rw[c,g] at this
 simpa using this
theorem aIU{sc:Scope}(ns:List Str)(cap:List Nat)(hc:X.calm=true)(hsc:X.env.scope=sc)(hN:X.N=N)(ok:gF sc scope x ns cap N=true)(hi:PI X (.Name x px) iter wi)(ht:∀cs C s₀ H₀ fp,PIf fp.7 ifs tt)(he:∀cs C s₀ H₀ fp,PE fp.7 elt te)(hs:∀v,foldedSetIterable iter X.env v=pure v:=by intro _;rfl):
  PE X '%' (qC wi cap tt te):=by
 subst hsc hN
 have k:=gI ok
 refine aJY hc k.hkind k.hnames ?_ ?_ k.hNc k.hlen k.hcap k.hns k.hnsk k.hfree hi ht he hs
 ·rcases k.hx with z|z
  ·exact .inl (vx z)
  ·exact .inr (dF z)
 ·rcases k.hx with z|z
  ·exact .inr (vx z)
  ·exact .inl z
theorem aA6(iy:Nat){sc:Scope}(ns:List Str)(cap:List Nat)(hNd:N.Nodup)(hiy:N[iy]?=some y)(hyl:sc.names.lookup y=some .local)(hc:X.calm=true)(hsc:X.env.scope=sc)(hN:X.N=N)(ok:gF sc scope x ns cap N=true)(hi:PI X (.Name x px) iter wi)(ht:∀cs C s₀ H₀ fp,PIf fp.7 ifs tt)(he:∀cs C s₀ H₀ fp,PE fp.7 elt te)(hs:∀v,foldedSetIterable iter X.env v=pure v:=by intro _;rfl)(hsw:bf '%' (some (.Name y py)) spos.line X.env=pure true:=by rfl):
  PS X (.Assign [.Name y py] '%' spos) (zY (qC wi cap tt te) (kX iy)):=by
 subst hsc hN
 have k:=gI ok
 refine aDE hNd hiy hyl hc k.hkind k.hnames ?_ ?_ k.hNc k.hlen k.hcap k.hns k.hnsk k.hfree hi ht he hs hsw
 ·rcases k.hx with z|z
  ·exact .inl (vx z)
  ·exact .inr (dF z)
 ·rcases k.hx with z|z
  ·exact .inr (vx z)
  ·exact .inl z
end L2
namespace R
open PySem L2
theorem BL:kf "list" = some (.type "list"):=by decide +kernel
structure Bn2(mg:Str->Option Value):Prop where
 str:mg "str" = none
 list:mg "list" = none
 all:mg "all" = none
 any:mg "any" = none
 max:mg "max" = none
 enum:mg "enumerate" = none
noncomputable def sgn(c:Nat):Bool:=c==35||c==46
theorem aX(h:n<=1000000):n<=sizeLine:=jn h (by decide)
abbrev Sq(K:qe)(H:Hp)(a:Addr)(xs:List V):Prop:=SqL K H a xs\/SqT K H a xs
theorem aJ2{u:HO}(s:Same H H')(h:Rd H a u):Rd H' a u:=by
 rcases h with h|⟨o,h⟩
 ·exact .inl (s _ _ h)
 ·exact .inr ⟨o,s _ _ h⟩
theorem dC{K:qe}{xs:List V}(s:Same H H')(h:SqT K H a xs):SqT K H' a xs:=h.imp (aJ2 s) id
noncomputable def ofL(l:List Nat):Str:=⟨l.toArray⟩
noncomputable def atS(z:Str)(j:Nat):Nat:=z.cps.getD j 0
theorem vW:∀(ps:List Str) (acc:Array Nat),(ps.foldl (λacc p=>acc++(vp).cps++p.cps) acc).toList=acc.toList++(ps.map (·.cps.toList)).flatten
 |[],acc=>by simp
 |p::ps,acc=>by
  rw[Q5,vW ps]
  simp[vp]
theorem join_list(ps:List Str):(JK vp ps).cps.toList=(ps.map (·.cps.toList)).flatten:=by
 cases ps with
 |nil=>rfl
 |cons p ps =>
  show (((p::ps).drop 1).foldl (λacc p=>acc++(vp).cps++p.cps) ((p::ps).headD vp).cps).toList=_
  rw[vW]
  simp
theorem lL(l:List Nat):JK vp (l.map λc=>(⟨#[c]⟩:Str))=ofL l:=by
 apply lC
 rw[join_list]
 simp only[ofL,jw]
 induction l with
 |nil=>rfl
 |cons a l ih=>rw[jd,y9,ih];rfl
theorem lJ(l:List Nat):(ofL l).length=l.length:=by simp[ofL,QE]
theorem tH{z:Str}(h:j<z.length):atI z.cps.toList (j:Int)=some (atS z j):=by
 have h':j<z.cps.size:=h
 refine eG ?_
 simp[atS,h',Kf]
noncomputable def aC(zs:List Str):List Str:=(qr ((zs.head?.map (·.length)).getD 0)).map λj=>ofL (zs.map (atS · j))
theorem aPY{K:qe}{p:Addr}{xs:List V}{i:Int}{Q:VK}(h:Sq K H p xs)(e:atI xs i=some v)(q:Q v H):rIx K (.ref p) (.int i) H Q:=by
 rcases h with h|h
 ·exact .inl ⟨p,xs,i,v,rfl,rfl,h,e,q⟩
 ·exact .inr (.inl ⟨p,xs,i,v,rfl,rfl,h,e,q⟩)
theorem fK:("" : Str)=vp:=by decide +kernel
noncomputable def dots(n:Nat):Str:=ofL (vc n 46)
theorem pR(n:Nat):lQ "." n=dots n:=by
 apply lC
 rw[mK]
 have e:("." : Str).cps.toList=[46]:=by decide +kernel
 rw[e]
 show _=(vc n 46)
 induction n with
 |zero=>rfl
 |succ n ih=>rw[xw,y9,ih,xw];rfl
noncomputable def framed(zs:List Str):List Str:=[dots ((zs.head?.map (·.length)).getD 0)]++zs++[dots ((zs.head?.map (·.length)).getD 0)]
noncomputable def chg(zs:List Str):List Nat:=if zs.isEmpty then [] else (qr (zs.length+1)).filter λi => !decide ((framed zs)[i]?=(framed zs)[i+1]?)
theorem kW(zs:List Str):(framed zs).length=zs.length+2:=by simp[framed]
theorem dU(zs:List Str):∀i∈chg zs,i<=zs.length:=λi hi=>by
 unfold chg at hi
 split at hi
 ·cases hi
 ·have:=q4.mp (qo.mp hi).1
  lia
theorem bV(zs:List Str):(chg zs).Pairwise (· < ·):=by
 unfold chg
 split
 ·exact dg
 ·exact J4 _ c5
theorem lE(zs:List Str):(chg zs).length<=zs.length+1:=by
 unfold chg
 split
 ·simp
 ·exact jn (zd _ _) '$'
theorem iP(h:l.Pairwise (· < ·))(b:∀i∈l,i<=n):∀i∈l.dropLast,i<n:=λi c=>by
 have a:l≠[]:=λe=>by rw[e] at c;cases c
 have e:=zj a
 rw[<- e] at h
 have d:=(wm.mp h).2.2 i c (l.getLast a) '$'
 have f:=b _ (List.getLast_mem a)
 lia
theorem qR(zs:List Str)(h:chg zs≠[]):zs≠[]:=λe=>h (by rw[e];rfl)
noncomputable def b4(zs:List Str):List Str:=(chg zs).dropLast.map λi=>ofL ((chg (aC zs)).dropLast.map (atS (zs.getD i vp)))
theorem n8(h:∀z∈zs,z.length=n):(aC zs).length<=n/\(zs≠[]->(aC zs).length=n):=by
 unfold aC
 rw[zLm,xm]
 cases zs with
 |nil=>exact⟨vq _,λe=>absurd rfl e⟩
 |cons z zr =>
  have:=h z '$'
  exact⟨by show z.length<=n;lia,λ_=>this⟩
theorem fJ:∀z∈aC zs,z.length=zs.length:=λz hz=>by
 obtain⟨j,_,rfl⟩:=qq.mp hz
 rw[lJ,zLm]
structure KnL(K:qe)(H:Hp)(v:V):Prop where
 kn:Kn K H v
 each:∀a xs,v = .ref a->H a=some (.lst xs)->∀x∈xs,Kn K H x
end R
namespace L2
open PySem PySem.Spec PyProof.Rows
section
theorem nR{α β:Type}{f g:α->Option β}:∀(l:List α),(∀x∈l,f x=g x)->l.filterMap f=l.filterMap g
 |[],_=>rfl
 |a::l,h=>by
  rw[jy,jy,h a '$',nR l λx b=>h x (by simp[b])]
end
end L2
namespace L2
open PySem PySem.Spec PyProof.Rows
noncomputable def aJB:V->Bool
 |.ref _=>true
 |.non=>true
 |.bl _=>true
 |.int _=>true
 |.str _=>true
 |_=>false
theorem vA{xs:List V}(r:Vals xs us)(h:j<us.toArray.size):∃x,xs[j]?=some x/\RelV x us.toArray[j]:=by
 have l:=r.length
 rw[qb] at h
 have g:xs[j]?=some (xs[j]' '!'):=by simp
 obtain⟨u,a,b⟩:=r.get g
 refine⟨_,g,?_⟩
 have:us.toArray[j]=u:=by
  rw[zGe h] at a
  simpa using a
 rw[this]
 exact b
inductive Alike(K:qe)(H:Hp):V->V->Prop
 |one {v:V} (h:aJB v=true):Alike K H v v
 |lists {a b:Addr}{xs:List V} (ha:SqL K H a xs) (hb:SqL K H b xs) (h:xs.all aJB=true):Alike K H (.ref a) (.ref b)
section
end
end L2
namespace L2
open PySem PySem.Spec PyProof.Rows
section
variable {to:TE}{t:TA}{T id:String}
end
end L2
namespace Z
open PySem L2
inductive D where
 |non|bl (b:Bool)|int (i:Int)|str (x:Str)|mt (a:Addr)|tup (ds:List D)|lst (ds:List D)|fl (ds:List D)|st (ks:List (List Int))
abbrev Fg:=qe
noncomputable def qS(k:List Int):Int:=reduceHash (fg (k.map hashInt))
noncomputable def lZ(p:List Int×Addr):DictEntry:={hash:=qS p.1,key := .ref p.2,val := .bool true}
noncomputable def DSt(a:Addr)(xs:List (List Int×Addr))(ep:Nat)(h:Heap):Prop:=(a==x7)=false/\∃o,h.get? a=some o/\o.ExactDict/\o.data = .dict (xs.map lZ).toArray ep
structure StO(K:Fg)(G:Hp)(o:Option HO)(a:Addr)(ks:List (List Int))(xs:List (List Int×Addr))(ep:Nat):Prop where
 nd:ks.Nodup
 len:ks.length<=sizeLine
 keys:xs.map (·.1)=ks
 at_:∀p∈xs,SqT K G p.2 (p.1.map V.int)
 ob:o=some (.ext (DSt a xs ep))
theorem StO.mv{K:Fg}{o o':Option HO}(h:StO K G o a ks xs ep)(s:Same G G')(e:o'=o):StO K G' o' a ks xs ep:=
 ⟨h.nd,h.len,h.keys,λp b=>R.dC s (h.at_ p b),e.trans h.ob⟩
mutual
noncomputable def Den(K:Fg)(G:Hp):D->V->Prop
 |.non,v=>v = .non
 |.bl b,v=>v = .bl b
 |.int i,v=>v = .int i
 |.str x,v=>v = .str x
 |.mt a,v=>v = .ref a
 |.tup ds,v=>∃a vs,v = .ref a/\SqT K G a vs/\Dens K G ds vs
 |.lst ds,v=>∃a vs,v = .ref a/\G a=some (.lst vs)/\Dens K G ds vs
 |.fl ds,v=>∃a vs,v = .ref a/\SqL K G a vs/\Dens K G ds vs
 |.st ks,v=>∃a xs ep,v = .ref a/\StO K G (G a) a ks xs ep
noncomputable def Dens(K:Fg)(G:Hp):List D->List V->Prop
 |[],vs=>vs=[]
 |d::ds,vs=>∃v r,vs=v::r/\Den K G d v/\Dens K G ds r
end
mutual
theorem Den.mono{K:Fg}(s:Same G G'):∀(d:D) {v:V},Den K G d v->Den K G' d v
 |.non,_,h=>by simp only[Den] at h ⊢;exact h
 |.bl _,_,h=>by simp only[Den] at h ⊢;exact h
 |.int _,_,h=>by simp only[Den] at h ⊢;exact h
 |.str _,_,h=>by simp only[Den] at h ⊢;exact h
 |.mt _,_,h=>by simp only[Den] at h ⊢;exact h
 |.tup ds,_,h=>by
  simp only[Den] at h ⊢
  obtain⟨a,vs,e,q,r⟩:=h
  exact⟨a,vs,e,R.dC s q,Dens.mono s ds r⟩
 |.lst ds,_,h=>by
  simp only[Den] at h ⊢
  obtain⟨a,vs,e,q,r⟩:=h
  exact⟨a,vs,e,s _ _ q,Dens.mono s ds r⟩
 |.fl ds,_,h=>by
  simp only[Den] at h ⊢
  obtain⟨a,vs,e,q,r⟩:=h
  exact⟨a,vs,e,s.seq q,Dens.mono s ds r⟩
 |.st ks,_,h=>by
  simp only[Den] at h ⊢
  obtain⟨a,xs,b,e,q⟩:=h
  exact⟨a,xs,b,e,q.mv s ((s _ _ q.ob).trans q.ob.symm)⟩
theorem Dens.mono{K:Fg}(s:Same G G'):∀(ds:List D) {vs:List V},Dens K G ds vs->Dens K G' ds vs
 |[],_,h=>by simp only[Dens] at h ⊢;exact h
 |d::ds,_,h=>by
  simp only[Dens] at h ⊢
  obtain⟨v,r,e,a,b⟩:=h
  exact⟨v,r,e,Den.mono s d a,Dens.mono s ds b⟩
end
theorem Den.up{K:Fg}{d:D}(h:Den K G d v)(s:Same G G'):Den K G' d v:=Den.mono s d h
theorem Dens.up{K:Fg}{ds:List D}{vs:List V}(h:Dens K G ds vs)(s:Same G G'):Dens K G' ds vs:=Dens.mono s ds h
theorem bT{K:Fg}:Dens K G [] []:=by simp only[Dens]
theorem aZ{K:Fg}{d:D}{ds:List D}{vs:List V}(h:Den K G d v)(r:Dens K G ds vs):Dens K G (d::ds) (v::vs):=by
 simp only[Dens];exact⟨v,vs,rfl,h,r⟩
theorem bN{K:Fg}{d:D}{ds:List D}{vs:List V}(h:Dens K G (d::ds) vs):∃v r,vs=v::r/\Den K G d v/\Dens K G ds r:=by simp only[Dens] at h;exact h
theorem bW{K:Fg}{vs:List V}(h:Dens K G [] vs):vs=[]:=by simp only[Dens] at h;exact h
theorem Dens.len{K:Fg}:∀{ds:List D}{vs:List V},Dens K G ds vs->ds.length=vs.length
 |[],_,h=>by rw[bW h];rfl
 |d::ds,_,h=>by
  obtain⟨v,r,rfl,_,a⟩:=bN h
  rw[qp,qp,Dens.len a]
theorem Dens.get{K:Fg}:∀{ds:List D}{vs:List V}{i:Nat}{d:D},Dens K G ds vs->ds[i]?=some d->∃v,vs[i]?=some v/\Den K G d v
 |[],_,_,_,_,e=>by simp at e
 |d0::ds,_,0,d,h,e=>by
  obtain⟨v,r,rfl,c,_⟩:=bN h
  simp at e;subst e
  exact⟨v,rfl,c⟩
 |d0::ds,_,i+1,d,h,e=>by
  obtain⟨v,r,rfl,_,f⟩:=bN h
  obtain⟨u,a,b⟩:=Dens.get (i:=i) f (by simpa using e)
  exact⟨u,by simpa using a,b⟩
theorem Dens.get'{K:Fg}:∀{ds:List D}{vs:List V}{i:Nat}{v:V},Dens K G ds vs->vs[i]?=some v->∃d,ds[i]?=some d/\Den K G d v:=λ{ds vs i v} h e=>by
 have c:i<vs.length:=(zGs e).1
 rw[<- h.len] at c
 have f:ds[i]?=some ds[i]:=by simp[c]
 obtain⟨u,a,b⟩:=h.get f
 rw[e] at a;cases a
 exact⟨_,f,b⟩
theorem Dens.append{K:Fg}:∀{ds es:List D}{vs ws:List V},Dens K G ds vs->Dens K G es ws->Dens K G (ds++es) (vs++ws)
 |[],_,_,_,h,r=>by rw[bW h];exact r
 |d::ds,_,_,_,h,r=>by
  obtain⟨v,t,rfl,a,b⟩:=bN h
  exact aZ a (Dens.append b r)
theorem Dens.take{K:Fg}:∀{ds:List D}{vs:List V} (n:Nat),Dens K G ds vs->Dens K G (ds.take n) (vs.take n)
 |_,_,0,_=>by simp only[List.take_zero];exact bT
 |[],_,n+1,h=>by rw[bW h];exact bT
 |d::ds,_,n+1,h=>by
  obtain⟨v,t,rfl,a,b⟩:=bN h
  exact aZ a (Dens.take n b)
theorem Dens.drop{K:Fg}:∀{ds:List D}{vs:List V} (n:Nat),Dens K G ds vs->Dens K G (ds.drop n) (vs.drop n)
 |_,_,0,h=>h
 |[],_,n+1,h=>by rw[bW h];exact bT
 |d::ds,_,n+1,h=>by
  obtain⟨v,t,rfl,b,a⟩:=bN h
  exact Dens.drop n a
theorem Dens.set{K:Fg}{d:D}(e:Den K G d v):∀{ds:List D}{vs:List V} (i:Nat),Dens K G ds vs->Dens K G (ds.set i d) (vs.set i v)
 |[],_,_,h=>by rw[bW h];exact bT
 |d0::ds,_,0,h=>by
  obtain⟨u,t,rfl,b,a⟩:=bN h
  exact aZ e a
 |d0::ds,_,i+1,h=>by
  obtain⟨u,t,rfl,b,a⟩:=bN h
  exact aZ b (Dens.set e i a)
theorem Dens.atI{K:Fg}{ds:List D}{vs:List V}{i:Int}{d:D}(h:Dens K G ds vs)(e:atI ds i=some d):∃v,L2.atI vs i=some v/\Den K G d v:=by
 unfold L2.atI at e ⊢
 rw[<- h.len]
 cases hj:ixN ds.length i with
 |none=>rw[hj] at e;cases e
 |some j =>
  rw[hj] at e
  exact h.get e
theorem Dens.of_map{K:Fg}{α:Type}{f:α->D}{g:α->V}(h:∀x,Den K G (f x) (g x)):∀xs:List α,Dens K G (xs.map f) (xs.map g)
 |[]=>bT
 |x::xs=>aZ (h x) (Dens.of_map h xs)
mutual
noncomputable def hashK(hf:Str->Int):D->Int
 |.int i=>hashInt i
 |.str x=>hf x
 |.tup ds=>reduceHash (fg (hashKs hf ds))
 |_=>0
noncomputable def hashKs(hf:Str->Int):List D->List Int
 |[]=>[]
 |d::ds=>hashK hf d::hashKs hf ds
end
mutual
noncomputable def okK:Nat->D->Bool
 |_, .int _=>true
 |n+1, .tup ds=>okKs n ds
 |_,_=>false
noncomputable def okKs:Nat->List D->Bool
 |_,[]=>true
 |n,d::ds=>okK n d&&okKs n ds
end
noncomputable def entD(hf:Str->Int):List D->List Addr->List Value->List DictEntry
 |k::ks,a::as,u::us=>{hash:=hashK hf k,key := .ref a,val:=u}::entD hf ks as us
 |_,_,_=>[]
noncomputable def DDt(hf:Str->Int)(a:Addr)(ks:List D)(as:List Addr)(vs:List V)(ep:Nat)(h:Heap):Prop:=(a==x7)=false/\∃o us,Vals vs us/\h.get? a=some o/\o.ExactDict/\o.data = .dict (entD hf ks as us).toArray ep
structure DiO(K:Fg)(G:Hp)(o:Option HO)(a:Addr)(hf:Str->Int)(ks ds:List D)(as:List Addr)(vs:List V)(ep:Nat):Prop where
 nd:ks.Nodup
 len:ks.length<=sizeLine
 ok:∀k∈ks,okK 6 k=true
 dl:ds.length=ks.length
 keys:Dens K G ks (as.map V.ref)
 vals:Dens K G ds vs
 ob:o=some (.ext (DDt hf a ks as vs ep))
theorem DiO.mv{K:Fg}{o o':Option HO}{hf:Str->Int}{ks ds:List D}{as:List Addr}{vs:List V}(h:DiO K G o a hf ks ds as vs ep)(s:Same G G')(e:o'=o):DiO K G' o' a hf ks ds as vs ep:=
 ⟨h.nd,h.len,h.ok,h.dl,h.keys.up s,h.vals.up s,e.trans h.ob⟩
inductive MO where
 |lst (ds:List D)
 |st (ks:List (List Int))
 |dic (hf:Str->Int) (ks ds:List D)
 |ob (o:HO)
abbrev Mem:=Addr->Option MO
noncomputable def bG(M:Mem)(a:Addr)(o:MO):Mem:=λb=>if b=a then some o else M b
noncomputable def g7(M:Mem)(a:Addr):Mem:=λb=>if b=a then none else M b
theorem aG{M:Mem}{o:MO}:bG M a o a=some o:=by unfold bG;rw[if_pos rfl]
theorem bD{M:Mem}{b:Addr}{o:MO}(h:b≠a):bG M a o b=M b:=by unfold bG;rw[if_neg h]
theorem p4{M:Mem}{o u:MO}:bG (bG M a o) a u=bG M a u:=by
 funext b;unfold bG;split <;> rfl
theorem kI{M:Mem}:g7 M a a=none:=by unfold g7;rw[if_pos rfl]
theorem gO{M:Mem}{b:Addr}(h:b≠a):g7 M a b=M b:=by unfold g7;rw[if_neg h]
noncomputable def Le(M M':Mem):Prop:=∀a o,M a=some o->M' a=some o
theorem Le.refl(M:Mem):Le M M:=λ_ _ h=>h
theorem Le.upd{M M':Mem}{o:MO}(h:Le M M')(n:M a=none):Le M (bG M' a o):=λb u e=>by
 rw[bD (λz=>by rw[z,n] at e;cases e)];exact h b u e
noncomputable def MOk(K:Fg)(G H:Hp)(a:Addr):MO->Prop
 |.lst ds=>∃vs,H a=some (.lst vs)/\Dens K G ds vs
 |.st ks=>∃xs ep,StO K G (H a) a ks xs ep
 |.dic hf ks ds=>∃as vs ep,DiO K G (H a) a hf ks ds as vs ep
 |.ob o=>H a=some o
theorem MOk.mv{K:Fg}{m:MO}(h:MOk K G H a m)(s:Same G G')(e:H' a=H a):MOk K G' H' a m:=by
 cases m with
 |lst ds=>obtain⟨vs,c,d⟩:=h;exact⟨vs,e.trans c,d.up s⟩
 |st ks=>obtain⟨xs,b,q⟩:=h;exact⟨xs,b,q.mv s e⟩
 |dic hf ks ds=>obtain⟨as,vs,b,q⟩:=h;exact⟨as,vs,b,q.mv s e⟩
 |ob o=>exact e.trans h
structure Rel(K:Fg)(G H:Hp)(M:Mem):Prop where
 same:Same G H
 mem:∀a o,M a=some o->G a=none/\MOk K G H a o
structure Stp(K:Fg)(G H:Hp)(M:Mem)(G' H':Hp)(M':Mem):Prop where
 gg:Same G G'
 rel:Rel K G' H' M'
 fr:∀a o,H a=some o->G a=none->M a=none->H' a=some o/\G' a=none/\M' a=none
theorem Stp.refl{K:Fg}{M:Mem}(r:Rel K G H M):Stp K G H M G H M:=⟨Same.refl G,r,λ_ _ h h1 h2=>⟨h,h1,h2⟩⟩
theorem Stp.trans{K:Fg}{G1 G2 H2:Hp}{M M1 M2:Mem}(a:Stp K G H M G1 H1 M1)(b:Stp K G1 H1 M1 G2 H2 M2):Stp K G H M G2 H2 M2:=
 ⟨a.gg.trans b.gg,b.rel,λc o h d e=>let ⟨x,y,z⟩:=a.fr c o h d e;b.fr c o x y z⟩
theorem Rel.le{K:Fg}{M M':Mem}(r:Rel K G H M)(l:Le M' M):Rel K G H M':=⟨r.same,λa o h=>r.mem a o (l a o h)⟩
theorem Rel.got{K:Fg}{M:Mem}{o:MO}(r:Rel K G H M)(h:M a=some o):∃u,H a=some u:=by
 cases o with
 |lst ds=>obtain⟨_,vs,e,_⟩:=r.mem a _ h;exact⟨_,e⟩
 |st ks=>obtain⟨_,xs,b,q⟩:=r.mem a _ h;exact⟨_,q.ob⟩
 |dic hf ks ds=>obtain⟨_,as,vs,b,q⟩:=r.mem a _ h;exact⟨_,q.ob⟩
 |ob o=>exact⟨o,(r.mem a _ h).2⟩
theorem Rel.free{K:Fg}{M:Mem}{p:Addr}(r:Rel K G H M)(h:H p=none):G p=none/\M p=none:=by
 refine⟨r.same.free h,?_⟩
 cases e:M p with
 |none=>rfl
 |some o=>obtain⟨u,q⟩:=r.got e;rw[h] at q;cases q
theorem Rel.new{K:Fg}{M:Mem}{p:Addr}{o:HO}(r:Rel K G H M)(h:H p=none):Stp K G H M (upd G p o) (upd H p o) M:=by
 have d:=(r.free h).1
 have s1:Same G (upd G p o):=pQ d
 refine⟨s1,⟨λb u e => ?_,λa m e => ?_⟩,λa u c g f => ?_⟩
 ·by_cases z:b=p
  ·subst z;rw[aY] at e ⊢;exact e
  ·rw[aV z] at e ⊢;exact r.same b u e
 ·obtain⟨u,q⟩:=r.got e
  have z:a≠p:=bA q h
  refine⟨by rw[aV z];exact (r.mem a m e).1,?_⟩
  exact (r.mem a m e).2.mv s1 (aV z)
 ·have z:a≠p:=bA c h
  exact⟨by rw[aV z];exact c,by rw[aV z];exact g,f⟩
theorem Rel.newM{K:Fg}{M:Mem}{p:Addr}{vs:List V}{ds:List D}(r:Rel K G H M)(h:H p=none)(e:Dens K G ds vs):Stp K G H M G (upd H p (.lst vs)) (bG M p (.lst ds)):=by
 have c:=(r.free h).1
 refine⟨Same.refl G,⟨λb u q => ?_,λa m q => ?_⟩,λa u d g f => ?_⟩
 ·rw[aV (bA q c)];exact r.same b u q
 ·by_cases z:a=p
  ·subst z
   rw[aG] at q;cases q
   exact⟨c,vs,aY,e⟩
  ·rw[bD z] at q
   refine⟨(r.mem a m q).1,?_⟩
   exact (r.mem a m q).2.mv (Same.refl G) (aV z)
 ·have z:a≠p:=bA d h
  exact⟨by rw[aV z];exact d,g,by rw[bD z];exact f⟩
theorem Rel.wr{K:Fg}{M:Mem}{p:Addr}{vs:List V}{ds:List D}{o:MO}(r:Rel K G H M)(h:M p=some o)(e:Dens K G ds vs):Stp K G H M G (upd H p (.lst vs)) (bG M p (.lst ds)):=by
 have d:=(r.mem p _ h).1
 refine⟨Same.refl G,⟨λb u q => ?_,λa m q => ?_⟩,λa u g f c => ?_⟩
 ·rw[aV (bA q d)];exact r.same b u q
 ·by_cases z:a=p
  ·subst z
   rw[aG] at q;cases q
   exact⟨d,vs,aY,e⟩
  ·rw[bD z] at q
   refine⟨(r.mem a m q).1,?_⟩
   exact (r.mem a m q).2.mv (Same.refl G) (aV z)
 ·have z:a≠p:=λz=>by rw[z,h] at c;cases c
  exact⟨by rw[aV z];exact g,f,by rw[bD z];exact c⟩
theorem Rel.frz{K:Fg}{M:Mem}{ds:List D}(r:Rel K G H M)(h:M a=some (.lst ds)):∃vs,H a=some (.lst vs)/\Dens K G ds vs/\Stp K G H M (upd G a (.lst vs)) H (g7 M a):=by
 obtain⟨d,vs,e,q⟩:=r.mem a _ h
 have s1:Same G (upd G a (.lst vs)):=pQ d
 refine⟨vs,e,q,s1,⟨λb u z => ?_,λb m z => ?_⟩,λb u g f c => ?_⟩
 ·by_cases y:b=a
  ·subst y;rw[aY] at z;cases z;exact e
  ·rw[aV y] at z;exact r.same b u z
 ·by_cases y:b=a
  ·subst y;rw[kI] at z;cases z
  ·rw[gO y] at z
   refine⟨by rw[aV y];exact (r.mem b m z).1,?_⟩
   exact (r.mem b m z).2.mv s1 rfl
 ·have y:b≠a:=λy=>by rw[y,h] at c;cases c
  exact⟨g,by rw[aV y];exact f,by rw[gO y];exact c⟩
theorem Rel.frzS{K:Fg}{M:Mem}(r:Rel K G H M)(h:M a=some (.st ks)):∃xs ep,StO K G (H a) a ks xs ep/\Stp K G H M (upd G a (.ext (DSt a xs ep))) H (g7 M a):=by
 obtain⟨d,xs,ep,q⟩:=r.mem a _ h
 have s1:Same G (upd G a (.ext (DSt a xs ep))):=pQ d
 refine⟨xs,ep,q,s1,⟨λb u z => ?_,λb m z => ?_⟩,λb u f e c => ?_⟩
 ·by_cases y:b=a
  ·subst y;rw[aY] at z;cases z;exact q.ob
  ·rw[aV y] at z;exact r.same b u z
 ·by_cases y:b=a
  ·subst y;rw[kI] at z;cases z
  ·rw[gO y] at z
   refine⟨by rw[aV y];exact (r.mem b m z).1,?_⟩
   exact (r.mem b m z).2.mv s1 rfl
 ·have y:b≠a:=λy=>by rw[y,h] at c;cases c
  exact⟨f,by rw[aV y];exact e,by rw[gO y];exact c⟩
theorem Rel.newS{K:Fg}{M:Mem}{p:Addr}(r:Rel K G H M)(h:H p=none)(e:StO K G (some (.ext (DSt p xs ep))) p ks xs ep):Stp K G H M G (upd H p (.ext (DSt p xs ep))) (bG M p (.st ks)):=by
 have c:=(r.free h).1
 refine⟨Same.refl G,⟨λb u q => ?_,λa m q => ?_⟩,λa u d g f => ?_⟩
 ·rw[aV (bA q c)];exact r.same b u q
 ·by_cases z:a=p
  ·subst z
   rw[aG] at q;cases q
   exact⟨c,xs,ep,e.mv (Same.refl G) aY⟩
  ·rw[bD z] at q
   exact⟨(r.mem a m q).1,(r.mem a m q).2.mv (Same.refl G) (aV z)⟩
 ·have z:a≠p:=bA d h
  exact⟨by rw[aV z];exact d,g,by rw[bD z];exact f⟩
theorem Rel.wrS{K:Fg}{M:Mem}{p:Addr}{o:MO}(r:Rel K G H M)(h:M p=some o)(e:StO K G (some (.ext (DSt p xs ep))) p ks xs ep):Stp K G H M G (upd H p (.ext (DSt p xs ep))) (bG M p (.st ks)):=by
 have d:=(r.mem p _ h).1
 refine⟨Same.refl G,⟨λb u q => ?_,λa m q => ?_⟩,λa u g f c => ?_⟩
 ·rw[aV (bA q d)];exact r.same b u q
 ·by_cases z:a=p
  ·subst z
   rw[aG] at q;cases q
   exact⟨d,xs,ep,e.mv (Same.refl G) aY⟩
  ·rw[bD z] at q
   exact⟨(r.mem a m q).1,(r.mem a m q).2.mv (Same.refl G) (aV z)⟩
 ·have z:a≠p:=λz=>by rw[z,h] at c;cases c
  exact⟨by rw[aV z];exact g,f,by rw[bD z];exact c⟩
theorem Rel.drop{K:Fg}{M M':Mem}(r:Rel K G H M)(l:Le M' M):Stp K G H M G H M':=
 ⟨Same.refl G,r.le l,λa o c d b=>⟨c,d,by
  cases e:M' a with
  |none=>rfl
  |some u=>rw[l a u e] at b;cases b⟩⟩
abbrev Gm:=List (Option D)
structure EnvR(K:Fg)(G:Hp)(Γ:Gm)(σ:St):Prop where
 len:Γ.length=σ.length
 get:∀(i:Nat) (d:D),Γ[i]?=some (some d)->∃v,σ[i]?=some (some v)/\Den K G d v
theorem EnvR.up{K:Fg}{Γ:Gm}(h:EnvR K G Γ σ)(s:Same G G'):EnvR K G' Γ σ:=
 ⟨h.len,λi d e=>let ⟨v,a,b⟩:=h.get i d e;⟨v,a,b.up s⟩⟩
theorem EnvR.set{K:Fg}{Γ:Gm}(h:EnvR K G Γ σ){d:D}(e:Den K G d v)(i:Nat):EnvR K G (Γ.set i (some d)) (σ.set i (some v)):=by
 refine⟨by rw[hG,hG,h.len],λj c q => ?_⟩
 rw[Qv] at q ⊢
 by_cases z:i=j
 ·rw[if_pos z] at q ⊢
  split at q
  ·rename_i hl
   rw[if_pos (by rw[<- h.len];exact hl)]
   cases q
   exact⟨v,rfl,e⟩
  ·cases q
 ·rw[if_neg z] at q ⊢
  exact h.get j c q
theorem EnvR.start{K:Fg}{ds:List D}{vs:List V}(h:Dens K G ds vs)(n:Nat):EnvR K G (ds.map some++vc (n-ds.length) none) (vs.map some++vc (n-vs.length) none):=by
 have hl:=h.len
 refine⟨by simp[hl],λi d e => ?_⟩
 by_cases f:i<ds.length
 ·rw[j3 (by simpa using f),qm] at e
  rw[j3 (by simp;omega),qm]
  cases q:ds[i]? with
  |none=>rw[q] at e;cases e
  |some c =>
   rw[q] at e;cases e
   obtain⟨v,a,b⟩:=h.get q
   exact⟨v,by rw[a];rfl,b⟩
 ·rw[ku (by simpa using f),xy] at e
  split at e <;> cases e
noncomputable def tU(X:Cx)(e:Expr):TE:=λσ H Q=>∀pins s,Inv X pins σ H s->wpAny X.w.4 X.A (eval e X.env) (EP X pins σ Q) X.xe s
theorem pU:PE X e (tU X e):=λpins s σ H Q I h=>h pins s I
theorem cM{t:TE}(p:PE X e t){Q:VK}(h:t σ H Q):tU X e σ H Q:=λpins s I=>p pins s σ H Q I h
noncomputable def tUT(X:Cx)(e:Expr):TT:=λσ H Q=>∀pins s,Inv X pins σ H s->wpAny X.w.4 X.A (isTrue e X.env (eval e X.env)) (TP X pins σ Q) X.xe s
theorem pUT:PT X e (tUT X e):=λpins s σ H Q I h=>h pins s I
theorem tG{t:TT}(p:PT X e t){Q:Bool->Hp->Prop}(h:t σ H Q):tUT X e σ H Q:=λpins s I=>p pins s σ H Q I h
noncomputable def tUW(X:Cx)(e:Expr):TT:=λσ H Q=>∀whole pins s,Inv X pins σ H s->wpAny X.w.4 X.A (isTrue e X.env whole) (TP X pins σ Q) X.xe s
theorem pUW:PW X e (tUW X e):=λwhole pins s σ H Q I h=>h whole pins s I
theorem sN{t:TT}(p:PW X e t){Q:Bool->Hp->Prop}(h:t σ H Q):tUW X e σ H Q:=λwhole pins s I=>p whole pins s σ H Q I h
noncomputable def tUA(X:Cx)(es:List Expr):TA:=λσ H Q=>∀pos pins s,Inv X pins σ H s->wpAny X.w.4 X.A (spliced (bb pos (starEach es X.env))) (AP X pins σ Q) X.xe s
theorem pUA:PA X es (tUA X es):=λpos pins s σ H Q I h=>h pos pins s I
theorem aEK{t:TA}(p:PA X es t){Q:List V->Hp->Prop}(h:t σ H Q):tUA X es σ H Q:=λpos pins s I=>p pos pins s σ H Q I h
noncomputable def tUS(X:Cx)(st:Stmt):TS:=λE σ H=>∀pins s,Inv X pins σ H s->wpAny X.w.4 X.A (exec st X.env) (SP X pins E) X.xe s
theorem pUS{st:Stmt}:PS X st (tUS X st):=λpins s σ H E I h=>h pins s I
theorem hW{st:Stmt}{t:TS}(p:PS X st t){E:Ends}(h:t E σ H):tUS X st E σ H:=λpins s I=>p pins s σ H E I h
noncomputable def aG6(X:Cx)(st:List Stmt):TS:=λE σ H=>∀pins s,Inv X pins σ H s->wpAny X.w.4 X.A (execs st X.env) (SP X pins E) X.xe s
theorem vB{st:List Stmt}:PSs X st (aG6 X st):=λpins s σ H E I h=>h pins s I
theorem uN{st:List Stmt}{t:TS}(p:PSs X st t){E:Ends}(h:t E σ H):aG6 X st E σ H:=λpins s I=>p pins s σ H E I h
noncomputable def tUG(X:Cx)(tg:Expr):TG:=λv σ H Q=>∀pins s u,Inv X pins σ H s->RelV v u->wpAny X.w.4 X.A (assign tg X.env u) (λ_ s'=>∃σ' H',Inv X pins σ' H' s'/\Q σ' H') X.xe s
theorem pUG:PG X tg (tUG X tg):=λpins s σ H v u Q I r h=>h pins s u I r
theorem sJ{t:TG}(p:PG X tg t){Q:St->Hp->Prop}(h:t v σ H Q):tUG X tg v σ H Q:=λpins s u I r=>p pins s σ H v u Q I r h
noncomputable def aIV(X:Cx)(tg:List Expr):TGs:=λvs σ H Q=>∀pins s us,Inv X pins σ H s->Vals vs us->wpAny X.w.4 X.A (gz ((assignEach tg X.env).map (·.2)) us) (λ_ s'=>∃σ' H',Inv X pins σ' H' s'/\Q σ' H') X.xe s
theorem pUGs{tg:List Expr}:PGs X tg (aIV X tg):=λpins s σ H vs us Q I r h=>h pins s us I r
theorem aBN{tg:List Expr}{t:TGs}(p:PGs X tg t){vs:List V}{Q:St->Hp->Prop}(h:t vs σ H Q):aIV X tg vs σ H Q:=λpins s us I r=>p pins s σ H vs us Q I r h
noncomputable def tUI(X:Cx)(tg iter:Expr):TI:=λσ H R=>∀pins s,Inv X pins σ H s->wpAny X.w.4 X.A (eval iter X.env) (λv s1=>wpAny X.w.4 X.A (Jm v) (PIE X pins σ tg R) X.xe s1) X.xe s
theorem pUI:PI X tg iter (tUI X tg iter):=λpins s σ H R I h=>h pins s I
theorem lT{t:TI}(p:PI X tg iter t){R:It->Hp->Prop}(h:t σ H R):tUI X tg iter σ H R:=λpins s I=>p pins s σ H R I h
noncomputable def Cont(K:Fg)(M:Mem)(k:D->Mem->Prop)(G H:Hp)(Q:VK):Prop:=∀v G' H' d M',Stp K G H M G' H' M'->Den K G' d v->k d M'->Q v H'
noncomputable def GE(X:Cx)(e:Expr)(Γ:Gm)(M:Mem)(k:D->Mem->Prop):Prop:=
 ∀σ G H Q,EnvR X.K G Γ σ->Rel X.K G H M->Cont X.K M k G H Q->tU X e σ H Q
noncomputable def qE(K:Fg)(M:Mem)(k:Bool->Mem->Prop)(G H:Hp)(Q:Bool->Hp->Prop):Prop:=∀b G' H' M',Stp K G H M G' H' M'->k b M'->Q b H'
noncomputable def GT(X:Cx)(e:Expr)(Γ:Gm)(M:Mem)(k:Bool->Mem->Prop):Prop:=
 ∀σ G H Q,EnvR X.K G Γ σ->Rel X.K G H M->qE X.K M k G H Q->tUT X e σ H Q
noncomputable def GW(X:Cx)(e:Expr)(Γ:Gm)(M:Mem)(k:Bool->Mem->Prop):Prop:=
 ∀σ G H Q,EnvR X.K G Γ σ->Rel X.K G H M->qE X.K M k G H Q->tUW X e σ H Q
noncomputable def GA(X:Cx)(es:List Expr)(Γ:Gm)(M:Mem)(k:List D->Mem->Prop):Prop:=
 ∀σ G H Q,EnvR X.K G Γ σ->Rel X.K G H M->(∀vs G' H' ds M',Stp X.K G H M G' H' M'->Dens X.K G' ds vs->k ds M'->Q vs H')->tUA X es σ H Q
noncomputable def mG(K:Fg)(M:Mem)(k:Gm->Mem->Prop)(G H:Hp)(Q:St->Hp->Prop):Prop:=∀σ' G' H' Γ' M',Stp K G H M G' H' M'->EnvR K G' Γ' σ'->k Γ' M'->Q σ' H'
noncomputable def GG(X:Cx)(tg:Expr)(d:D)(Γ:Gm)(M:Mem)(k:Gm->Mem->Prop):Prop:=
 ∀σ G H v Q,EnvR X.K G Γ σ->Rel X.K G H M->Den X.K G d v->mG X.K M k G H Q->tUG X tg v σ H Q
noncomputable def GGs(X:Cx)(tgs:List Expr)(ds:List D)(Γ:Gm)(M:Mem)(k:Gm->Mem->Prop):Prop:=
 ∀σ G H vs Q,EnvR X.K G Γ σ->Rel X.K G H M->Dens X.K G ds vs->mG X.K M k G H Q->aIV X tgs vs σ H Q
structure Fin where
 nx:Gm->Mem->Prop
 rt:D->Mem->Prop
 bk:Gm->Mem->Prop:=λ_ _=>False
 ct:Gm->Mem->Prop:=λ_ _=>False
structure EndsOk(K:Fg)(G H:Hp)(M:Mem)(F:Fin)(E:Ends):Prop where
 nx:mG K M F.nx G H E.nx
 rt:Cont K M F.rt G H E.rt
 bk:mG K M F.bk G H E.bk
 ct:mG K M F.ct G H E.ct
theorem Cont.up{K:Fg}{M M1:Mem}{k:D->Mem->Prop}{G1:Hp}{Q:VK}(c:Cont K M k G H Q)(s:Stp K G H M G1 H1 M1):Cont K M1 k G1 H1 Q:=λv G' H' d M' s'=>c v G' H' d M' (s.trans s')
theorem mG.up{K:Fg}{M M1:Mem}{k:Gm->Mem->Prop}{G1:Hp}{Q:St->Hp->Prop}(c:mG K M k G H Q)(s:Stp K G H M G1 H1 M1):mG K M1 k G1 H1 Q:=λv G' H' d M' s'=>c v G' H' d M' (s.trans s')
theorem qE.up{K:Fg}{M M1:Mem}{k:Bool->Mem->Prop}{G1:Hp}{Q:Bool->Hp->Prop}(c:qE K M k G H Q)(s:Stp K G H M G1 H1 M1):qE K M1 k G1 H1 Q:=λv G' H' M' s'=>c v G' H' M' (s.trans s')
theorem EndsOk.up{K:Fg}{M M1:Mem}{F:Fin}{E:Ends}{G1:Hp}(c:EndsOk K G H M F E)(s:Stp K G H M G1 H1 M1):EndsOk K G1 H1 M1 F E:=⟨c.nx.up s,c.rt.up s,c.bk.up s,c.ct.up s⟩
noncomputable def GS(X:Cx)(ss:List Stmt)(Γ:Gm)(M:Mem)(F:Fin):Prop:=
 ∀σ G H E,EnvR X.K G Γ σ->Rel X.K G H M->EndsOk X.K G H M F E->aG6 X ss E σ H
noncomputable def G1(X:Cx)(st:Stmt)(Γ:Gm)(M:Mem)(F:Fin):Prop:=
 ∀σ G H E,EnvR X.K G Γ σ->Rel X.K G H M->EndsOk X.K G H M F E->tUS X st E σ H
end Z
variable {M M1:Z.Mem}{k:Z.D->Z.Mem->Prop}{d d1 d2:Z.D}{ds:List Z.D}{Γ:Z.Gm}{kb:Bool->Z.Mem->Prop}{ki:List Z.D->Z.Mem->Prop}{kg:Z.Gm->Z.Mem->Prop}
namespace Z
open PySem L2
section
variable {K:Fg}
theorem cZ{i:Int}:Den K G (.int i) (.int i):=by simp only[Den]
theorem dG{i:Bool}:Den K G (.bl i) (.bl i):=by simp only[Den]
theorem jR{i:Str}:Den K G (.str i) (.str i):=by simp only[Den]
theorem nA:Den K G .non .non:=by simp only[Den]
theorem nE:Den K G (.mt a) (.ref a):=by simp only[Den]
theorem eU{vs:List V}(h:SqT K G a vs)(r:Dens K G ds vs):Den K G (.tup ds) (.ref a):=by simp only[Den];exact⟨a,vs,rfl,h,r⟩
theorem jQ{vs:List V}(h:G a=some (.lst vs))(r:Dens K G ds vs):Den K G (.lst ds) (.ref a):=by simp only[Den];exact⟨a,vs,rfl,h,r⟩
theorem aMT{vs:List V}(h:SqL K G a vs)(r:Dens K G ds vs):Den K G (.fl ds) (.ref a):=by simp only[Den];exact⟨a,vs,rfl,h,r⟩
theorem Den.int_{i:Int}(h:Den K G (.int i) v):v = .int i:=by simp only[Den] at h;exact h
theorem Den.bl_{i:Bool}(h:Den K G (.bl i) v):v = .bl i:=by simp only[Den] at h;exact h
theorem Den.str_{i:Str}(h:Den K G (.str i) v):v = .str i:=by simp only[Den] at h;exact h
theorem Den.non_(h:Den K G .non v):v = .non:=by simp only[Den] at h;exact h
theorem Den.mt_(h:Den K G (.mt a) v):v = .ref a:=by simp only[Den] at h;exact h
theorem Den.tup_(h:Den K G (.tup ds) v):∃a vs,v = .ref a/\SqT K G a vs/\Dens K G ds vs:=by simp only[Den] at h;exact h
theorem Den.lst_(h:Den K G (.lst ds) v):∃a vs,v = .ref a/\G a=some (.lst vs)/\Dens K G ds vs:=by simp only[Den] at h;exact h
theorem Den.fl_(h:Den K G (.fl ds) v):∃a vs,v = .ref a/\SqL K G a vs/\Dens K G ds vs:=by simp only[Den] at h;exact h
theorem Den.st_(h:Den K G (.st ks) v):∃a xs ep,v = .ref a/\StO K G (G a) a ks xs ep:=by simp only[Den] at h;exact h
theorem aNY(h:StO K G (G a) a ks xs ep):Den K G (.st ks) (.ref a):=by simp only[Den];exact⟨a,xs,ep,rfl,h⟩
inductive Seq(M:Mem):D->Bool->List D->Prop
 |tup (ds:List D):Seq M (.tup ds) false ds
 |lst (ds:List D):Seq M (.lst ds) true ds
 |fl (ds:List D):Seq M (.fl ds) true ds
 |mt {a:Addr}{ds:List D} (h:M a=some (.lst ds)):Seq M (.mt a) true ds
theorem Seq.sq(q:Seq M d t ds)(r:Rel K G H M)(h:Den K G d v):∃a vs,v = .ref a/\(if t=true then SqL K H a vs else SqT K H a vs)/\Dens K G ds vs:=by
 cases q with
 |tup ds=>obtain⟨a,vs,e,s,d⟩:=h.tup_;exact⟨a,vs,e,R.dC r.same s,d⟩
 |lst ds=>obtain⟨a,vs,e,s,d⟩:=h.lst_;exact⟨a,vs,e,SqL.of (r.same _ _ s),d⟩
 |fl ds=>obtain⟨a,vs,e,s,d⟩:=h.fl_;exact⟨a,vs,e,r.same.seq s,d⟩
 |mt hm=>obtain⟨_,vs,e,d⟩:=r.mem _ _ hm;exact⟨_,vs,h.mt_,SqL.of e,d⟩
theorem Seq.sq2(q:Seq M d t ds)(r:Rel K G H M)(h:Den K G d v):∃a vs,v = .ref a/\(SqL K H a vs\/SqT K H a vs)/\Dens K G ds vs:=by
 obtain⟨a,vs,e,s,d⟩:=q.sq r h
 refine⟨a,vs,e,?_,d⟩
 cases t with
 |true=>exact .inl s
 |false=>exact .inr s
inductive Lst(M:Mem):D->List D->Prop
 |lst (ds:List D):Lst M (.lst ds) ds
 |mt {a:Addr}{ds:List D} (h:M a=some (.lst ds)):Lst M (.mt a) ds
theorem Lst.sq(q:Lst M d ds)(r:Rel K G H M)(h:Den K G d v):∃a vs,v = .ref a/\H a=some (.lst vs)/\Dens K G ds vs:=by
 cases q with
 |lst ds=>obtain⟨a,vs,e,s,d⟩:=h.lst_;exact⟨a,vs,e,r.same _ _ s,d⟩
 |mt hm=>obtain⟨_,vs,e,d⟩:=r.mem _ _ hm;exact⟨_,vs,h.mt_,e,d⟩
end
section
variable {a:Expr}{rest:List Expr}
theorem aD(i:Nat)(hΓ:Γ[i]?=some (some d))(h:k d M)(hN:X.N[i]?=some x:=by rfl)(hv:Vis X.env.scope x:=by first|exact K1 rfl|exact Jo (K1 rfl)|exact Jo (Jo rfl))(hd:(x==("__debug__" : Str))=false:=by decide)(hcd:(x==("__classdict__" : Str))=false:=by decide):GE X (.Name x pos) Γ M k:=
 λσ G H Q a b q=>cM (aNG hN hv hd hcd) (let ⟨v,e,dv⟩:=a.get i d hΓ;⟨v,e,q v G H d M (Stp.refl b) dv h⟩)
theorem z4{i:Int}(h:k (.int i) M):GE X (.Constant (.int i) j pos) Γ M k:=λσ G H Q en rl q=>cM aMP (q _ G H _ M (Stp.refl rl) cZ h)
theorem kZ{i:Bool}(h:k (.bl i) M):GE X (.Constant (.bool i) j pos) Γ M k:=λσ G H Q en rl q=>cM aPH (q _ G H _ M (Stp.refl rl) dG h)
theorem tY(h:k .non M):GE X (.Constant .none j pos) Γ M k:=λσ G H Q en rl q=>cM aNH (q _ G H _ M (Stp.refl rl) nA h)
theorem ge_str(h:k (.str x) M):GE X (.Constant (.str x) j pos) Γ M k:=λσ G H Q en rl q=>cM aMQ (q _ G H _ M (Stp.refl rl) jR h)
theorem fD(h:GE X e Γ M λd M1=>∃a ds M2,d = .mt a/\M1 a=some (.lst ds)/\M2 a=none/\Le M2 M1/\k (.lst ds) M2):GE X e Γ M k:=λσ G H Q g i q =>
 h σ G H Q g i λv G1 H1 d M1 s1 j ⟨a,ds,M2,s,n,r,p,m⟩=>by
  subst s
  obtain⟨vs,t,f,st⟩:=s1.rel.frz n
  have l:Le M2 (g7 M1 a):=λb o z=>by rw[gO (λy=>by rw[y,r] at z;cases z)];exact p b o z
  have c:=st.trans (st.rel.drop l)
  exact q v _ _ (.lst ds) M2 (s1.trans c) (by rw[j.mt_];exact jQ aY (f.up st.gg)) m
noncomputable def Op2(K:Fg)(r:R2)(d1 d2:D)(M:Mem)(k:D->Mem->Prop):Prop:=∀G H v1 v2 Q,Rel K G H M->Den K G d1 v1->Den K G d2 v2->Cont K M k G H Q->r v1 v2 H Q
theorem two{r:R2}(h:GE X a Γ M λd1 M1=>GE X b Γ M1 λd2 M2=>Op2 X.K r d1 d2 M2 k){Q:VK}(en:EnvR X.K G Γ σ)(rl:Rel X.K G H M)(q:Cont X.K M k G H Q):tOp r (tU X a) (tU X b) σ H Q:=by
 refine h σ G H _ en rl λv1 G1 H1 d1 M1 s1 c d => ?_
 refine d σ G1 H1 _ (en.up s1.gg) s1.rel λv2 G2 H2 d2 M2 s2 f e => ?_
 exact e G2 H2 v1 v2 Q s2.rel (c.up s2.gg) f (q.up (s1.trans s2))
theorem bR{op:gq}{r:R2}(ho:OpR X (we op) r)(h:GE X a Γ M λd1 M1=>GE X b Γ M1 λd2 M2=>Op2 X.K r d1 d2 M2 k):GE X (.BinOp a op b pos) Γ M k:=
 λσ G H Q c d q=>cM (aOO ho pU pU) (two h c d q)
theorem jD{op:JI}{r:R2}(ho:OpR X (wa op) r)(h:GE X a Γ M λd1 M1=>GE X b Γ M1 λd2 M2=>Op2 X.K r d1 d2 M2 k)(hm:zw op b=false:=by first|exact nomark _|rfl):GE X (.Compare a [op] [b] pos) Γ M k:=
 λσ G H Q c d q=>cM (aJR ho pU pU hm) (two h c d q)
theorem b5{op:JI}{r:R2}(ho:OpR X (wa op) r)(h:GE X a Γ M λd1 M1=>GE X b Γ M1 λd2 M2=>Op2 X.K r d1 d2 M2 λd M3=>∃c,d = .bl c/\kb c M3)(hm:zw op b=false:=by first|exact nomark _|rfl):GT X (.Compare a [op] [b] pos) Γ M kb:=
 λσ G H Q g j q=>tG (aK1 ho pU pU hm) (two (k:=λd M3=>∃c,d = .bl c/\kb c M3) h g j λv G' H' d M' s e ⟨c,f,i⟩=>by subst f;exact⟨c,e.bl_,q c G' H' M' s i⟩)
theorem a9{r:R2}(hr:IxR X r)(h:GE X a Γ M λd1 M1=>GE X b Γ M1 λd2 M2=>Op2 X.K r d1 d2 M2 k)(hs:uW b:=by intro _ _;rfl):GE X (.Subscript a b pos) Γ M k:=
 λσ G H Q c d q=>cM (aPM hr pU pU hs) (two h c d q)
theorem aPD{op:UnaryOp}{g:Int->Int}(ho:UnR X (unaryOp op) (rU λi => .int (g i)))(h:GE X a Γ M λd M1=>∃i,d = .int i/\k (.int (g i)) M1):GE X (.UnaryOp op a pos) Γ M k:=λσ G H Q b c q=>by
 refine cM (aP1 ho pU) ?_
 refine h σ G H _ b c λv G1 H1 d M1 s1 e ⟨i,j,f⟩ => ?_
 subst j
 exact⟨i,e.int_,q _ _ _ _ _ s1 cZ f⟩
end
section
variable {K:Fg}{i j:Int}
theorem iH{g:Int->Int->Int}(h:k (.int (g i j)) M):Op2 K (rI0 λi j => .int (g i j)) (.int i) (.int j) M k:=λG H v1 v2 Q rl e1 e2 q=>⟨i,j,e1.int_,e2.int_,q _ G H _ M (Stp.refl rl) cZ h⟩
theorem jF{C:Int->Int->Prop}{g:Int->Int->Int}(hc:C i j)(h:k (.int (g i j)) M):Op2 K (rI C λi j => .int (g i j)) (.int i) (.int j) M k:=λG H v1 v2 Q c a b q=>⟨i,j,a.int_,b.int_,hc,q _ G H _ M (Stp.refl c) cZ h⟩
theorem pW{g:Int->Int->Bool}(h:k (.bl (g i j)) M):Op2 K (rI0 λi j => .bl (g i j)) (.int i) (.int j) M k:=λG H v1 v2 Q rl e1 e2 q=>⟨i,j,e1.int_,e2.int_,q _ G H _ M (Stp.refl rl) dG h⟩
theorem aAJ(h:k (.bl (decide (i=j))) M):Op2 K rEq (.int i) (.int j) M k:=λG H v1 v2 Q c a b q=>by
 rw[a.int_,b.int_]
 exact⟨rfl,by rw[show decide (V.int i=V.int j)=decide (i=j) from by simp];exact q _ G H _ M (Stp.refl c) dG h⟩
theorem aMC(h:k (.bl (!decide (i=j))) M):Op2 K rNe (.int i) (.int j) M k:=λG H v1 v2 Q c a b q=>by
 rw[a.int_,b.int_]
 exact⟨rfl,by rw[show decide (V.int i=V.int j)=decide (i=j) from by simp];exact q _ G H _ M (Stp.refl c) dG h⟩
theorem aFM(h:k (.bl (decide (x=y))) M):Op2 K rEq (.str x) (.str y) M k:=λG H v1 v2 Q c a b q=>by
 rw[a.str_,b.str_]
 exact⟨rfl,by rw[show decide (V.str x=V.str y)=decide (x=y) from by simp];exact q _ G H _ M (Stp.refl c) dG h⟩
theorem tK(h:k (.bl (!decide (x=y))) M):Op2 K rNe (.str x) (.str y) M k:=λG H v1 v2 Q c a b q=>by
 rw[a.str_,b.str_]
 exact⟨rfl,by rw[show decide (V.str x=V.str y)=decide (x=y) from by simp];exact q _ G H _ M (Stp.refl c) dG h⟩
theorem aEO{x y:Bool}(h:k (.bl (decide (x=y))) M):Op2 K rEq (.bl x) (.bl y) M k:=λG H v1 v2 Q c a b q=>by
 rw[a.bl_,b.bl_]
 exact⟨rfl,by rw[show decide (V.bl x=V.bl y)=decide (x=y) from by simp];exact q _ G H _ M (Stp.refl c) dG h⟩
theorem aE8{x y:Bool}(h:k (.bl (!decide (x=y))) M):Op2 K rNe (.bl x) (.bl y) M k:=λG H v1 v2 Q c a b q=>by
 rw[a.bl_,b.bl_]
 exact⟨rfl,by rw[show decide (V.bl x=V.bl y)=decide (x=y) from by simp];exact q _ G H _ M (Stp.refl c) dG h⟩
theorem bB(q1:Seq M d1 t ds)(e:atI ds i=some d)(h:k d M):Op2 K (rIx K) d1 (.int i) M k:=λG H v1 v2 Q b g c q=>by
 obtain⟨a,vs,ev,s,f⟩:=q1.sq2 b g
 obtain⟨v,j,dv⟩:=f.atI e
 rw[ev,c.int_]
 exact R.aPY s j (q v G H d M (Stp.refl b) dv h)
theorem nD{z:Str}{c:Nat}(hz:z.length<=sizeLine)(e:atI z.cps.toList i=some c)(h:k (.str ⟨#[c]⟩) M):Op2 K (rIx K) (.str z) (.int i) M k:=λG H v1 v2 Q d a b q =>
 .inr (.inr ⟨z,i,c,a.str_,b.int_,hz,e,q _ G H _ M (Stp.refl d) jR h⟩)
theorem aJ3(hz:x.length+y.length<=sizeLine)(h:k (.str (x++y)) M):Op2 K (λx y H Q=>∃i j,x = .str i/\y = .str j/\i.length+j.length<=sizeLine/\Q (.str (i++j)) H) (.str x) (.str y) M k:=
 λG H v1 v2 Q c a b q=>⟨x,y,a.str_,b.str_,hz,q _ G H _ M (Stp.refl c) jR h⟩
theorem uK(h1 : -(2^40)<=i)(h2:i<2^40)(h3:x.length*i.toNat<=sizeLine)(h:k (.str (lQ x i.toNat)) M):Op2 K aI3 (.str x) (.int i) M k:=
 λG H v1 v2 Q c a b q=>⟨x,i,a.str_,b.int_,h1,h2,h3,q _ G H _ M (Stp.refl c) jR h⟩
theorem j8{xs ys:List D}(q1:Lst M d1 xs)(q2:Lst M d2 ys)(hl:xs.length+ys.length<=sizeLine)(h:k (.lst (xs++ys)) M):Op2 K rCat d1 d2 M k:=λG H v1 v2 Q d g f q=>by
 obtain⟨a,vs,ev,s,e⟩:=q1.sq d g
 obtain⟨b,ws,i,s2,c⟩:=q2.sq d f
 refine⟨a,b,vs,ws,ev,i,s,s2,by rw[<- e.len,<- c.len];exact hl,λp j => ?_⟩
 have st:=d.new (o := .lst (vs++ws)) j
 exact q _ _ _ _ _ st (jQ aY ((e.append c).up st.gg)) h
end
end Z
namespace Z
open PySem L2
section
variable {a:Expr}{rest:List Expr}
theorem jK(h:GE X e Γ M λd M1=>∃c,d = .bl c/\kb c M1)(he:∀whole,isTrue e X.env whole=(do let v <- whole;lg e.pos;bc [v] (KZ v)):=by intro _;rfl):GT X e Γ M kb:=λσ G H Q a b q=>by
 refine tG (aM3 pU he) ?_
 exact h σ G H _ a b λv G1 H1 d M1 s1 f ⟨c,i,g⟩=>by subst i;exact⟨c,f.bl_,q _ _ _ _ s1 g⟩
inductive Tru(M:Mem):D->Bool->Prop
 |seq {d:D}{t:Bool}{ds:List D} (q:Seq M d t ds):Tru M d (!ds.isEmpty)
 |str (x:Str) (h:x.length<=sizeLine):Tru M (.str x) ((x.length:Int) != 0)
 |bl (b:Bool):Tru M (.bl b) b
 |int (i:Int):Tru M (.int i) (i != 0)
 |non:Tru M .non false
theorem yI{K:Fg}{vs:List V}(h:Dens K G ds vs):ds.isEmpty=vs.isEmpty:=by
 cases ds with
 |nil=>rw[bW h];rfl
 |cons d ds=>obtain⟨v,r,rfl,_⟩:=bN h;rfl
theorem l8(h:GE X e Γ M λd M1=>∃c,Tru M1 d c/\kb c M1)(he:∀whole,isTrue e X.env whole=(do let v <- whole;lg e.pos;bc [v] (KZ v)):=by intro _;rfl):GT X e Γ M kb:=λσ G H Q g j q=>by
 refine tG (aIB pU he) ?_
 refine h σ G H _ g j λv G1 H1 d M1 s1 f ⟨c,m,k⟩=>⟨c,?_,q _ _ _ _ s1 k⟩
 cases m with
 |seq sq =>
  obtain⟨a,vs,ev,s,l⟩:=sq.sq2 s1.rel f
  subst ev
  rw[yI l]
  rcases s with s|s
  ·exact .inl ⟨vs,s,rfl⟩
  ·exact .inr (.inl ⟨vs,s,rfl⟩)
 |str x hx=>rw[f.str_];exact⟨hx,rfl⟩
 |bl b=>rw[f.bl_];rfl
 |int i=>rw[f.int_];rfl
 |non=>rw[f.non_];rfl
theorem lO(h:GT X a Γ M λc M1=>kb (!c) M1):GT X (.UnaryOp .Not a pos) Γ M kb:=λσ G H Q en rl q=>by
 refine tG (aMJ pUT) ?_
 exact h σ G H _ en rl λc G1 H1 M1 s1 h1=>q _ _ _ _ s1 h1
theorem n4(h:GW X e Γ M kb):GT X e Γ M kb:=λσ G H Q en rl q pins s I=>h σ G H Q en rl q (eval e X.env) pins s I
theorem mZ(h:GT X a Γ M kb):GW X (.BoolOp .And [a] pos) Γ M kb:=λσ G H Q en rl q=>sN (aKN pUT) (h σ G H _ en rl q)
theorem t7(h:GT X a Γ M kb):GW X (.BoolOp .Or [a] pos) Γ M kb:=λσ G H Q en rl q=>sN (aNK pUT) (h σ G H _ en rl q)
theorem pK(h:GT X a Γ M λc M1=>if c=true then GW X (.BoolOp .And (b::rest) pos) Γ M1 kb else kb false M1):GW X (.BoolOp .And (a::b::rest) pos) Γ M kb:=λσ G H Q e f q=>by
 refine sN (aNB pUT pUW) ?_
 refine h σ G H _ e f λc G1 H1 M1 s1 d => ?_
 cases c with
 |true=>rw[if_pos rfl] at d ⊢;exact d σ G1 H1 _ (e.up s1.gg) s1.rel (q.up s1)
 |false=>rw[if_neg zBf] at d ⊢;exact q _ _ _ _ s1 d
theorem oN(h:GT X a Γ M λc M1=>if c=true then kb true M1 else GW X (.BoolOp .Or (b::rest) pos) Γ M1 kb):GW X (.BoolOp .Or (a::b::rest) pos) Γ M kb:=λσ G H Q e f q=>by
 refine sN (aPL pUT pUW) ?_
 refine h σ G H _ e f λc G1 H1 M1 s1 d => ?_
 cases c with
 |true=>rw[if_pos rfl] at d ⊢;exact q _ _ _ _ s1 d
 |false=>rw[if_neg zBf] at d ⊢;exact d σ G1 H1 _ (e.up s1.gg) s1.rel (q.up s1)
theorem zB{op:BoolOp}(h:GE X a Γ M k):GE X (.BoolOp op [a] pos) Γ M k:=λσ G H Q en rl q=>cM (aOB pU) (h σ G H _ en rl q)
theorem aOI(h:GE X a Γ M λd M1=>∃c,d = .bl c/\if c=true then GE X (.BoolOp .And (b::rest) pos) Γ M1 k else k (.bl false) M1):GE X (.BoolOp .And (a::b::rest) pos) Γ M k:=λσ G H Q f g q=>by
 refine cM (aMY pU pU) ?_
 refine h σ G H _ f g λv G1 H1 d M1 s1 i ⟨c,j,e⟩ => ?_
 subst j
 refine⟨c,i.bl_,?_⟩
 cases c with
 |true=>rw[if_pos rfl] at e ⊢;exact e σ G1 H1 _ (f.up s1.gg) s1.rel (q.up s1)
 |false=>rw[if_neg zBf] at e ⊢;exact q _ _ _ _ _ s1 dG e
theorem aO3(h:GE X a Γ M λd M1=>∃c,d = .bl c/\if c=true then k (.bl true) M1 else GE X (.BoolOp .Or (b::rest) pos) Γ M1 k):GE X (.BoolOp .Or (a::b::rest) pos) Γ M k:=λσ G H Q f g q=>by
 refine cM (aO4 pU pU) ?_
 refine h σ G H _ f g λv G1 H1 d M1 s1 i ⟨c,j,e⟩ => ?_
 subst j
 refine⟨c,i.bl_,?_⟩
 cases c with
 |true=>rw[if_pos rfl] at e ⊢;exact q _ _ _ _ _ s1 dG e
 |false=>rw[if_neg zBf] at e ⊢;exact e σ G1 H1 _ (f.up s1.gg) s1.rel (q.up s1)
theorem aMK(h:GE X a Γ M λd M1=>∃c,d = .bl c/\k (.bl (!c)) M1):GE X (.UnaryOp .Not a pos) Γ M k:=λσ G H Q b e q=>by
 refine cM (aNX pU) ?_
 exact h σ G H _ b e λv G1 H1 d M1 s1 f ⟨c,i,g⟩=>by subst i;exact⟨c,f.bl_,q _ _ _ _ _ s1 dG g⟩
theorem lU(h:GT X c Γ M λt M1=>if t=true then GE X a Γ M1 k else GE X b Γ M1 k):GE X (.IfExp c a b pos) Γ M k:=λσ G H Q e f q=>by
 refine cM (aHQ pUT pU pU) ?_
 refine h σ G H _ e f λt G1 H1 M1 s1 d => ?_
 cases t with
 |true=>rw[if_pos rfl] at d ⊢;exact d σ G1 H1 _ (e.up s1.gg) s1.rel (q.up s1)
 |false=>rw[if_neg zBf] at d ⊢;exact d σ G1 H1 _ (e.up s1.gg) s1.rel (q.up s1)
variable {ka:List D->Mem->Prop}
theorem aS(h:ka [] M):GA X [] Γ M ka:=λσ G H Q en rl q=>aEK aL8 (q _ _ _ _ _ (Stp.refl rl) bT h)
theorem aE(h:GE X e Γ M λd M1=>GA X es Γ M1 λds M2=>ka (d::ds) M2)(hs:starEach (e::es) X.env=(false,eval e X.env)::starEach es X.env:=by rfl):GA X (e::es) Γ M ka:=λσ G H Q a c q=>by
 refine aEK (aK9 pU pUA hs) ?_
 refine h σ G H _ a c λv G1 H1 d M1 s1 f g => ?_
 exact g σ G1 H1 _ (a.up s1.gg) s1.rel λvs G2 H2 ds M2 s2 b i=>q _ _ _ _ _ (s1.trans s2) (aZ (f.up s2.gg) b) i
theorem pL{x1}(h:GA X es Γ M λds M1=>ds.length<=sizeLine/\k (.tup ds) M1):GE X (.Tuple es x1 pos) Γ M k:=λσ G H Q b c q=>by
 refine cM (aNQ pUA) ?_
 refine h σ G H _ b c λvs G1 H1 ds M1 s1 a ⟨hl,d⟩=>⟨by rw[<- a.len];exact hl,λp e => ?_⟩
 have st:=s1.rel.new (o := .tup vs) e
 exact q _ _ _ _ _ (s1.trans st) (eU (SqT.of aY) (a.up st.gg)) d
theorem aFO(h:GA X es Γ M λds M1=>ds.length<=sizeLine/\k (.lst ds) M1):GE X (.List es pos) Γ M k:=λσ G H Q b c q=>by
 refine cM (aDU pUA) ?_
 refine h σ G H _ b c λvs G1 H1 ds M1 s1 a ⟨hl,d⟩=>⟨by rw[<- a.len];exact hl,λp e => ?_⟩
 have st:=s1.rel.new (o := .lst vs) e
 exact q _ _ _ _ _ (s1.trans st) (jQ aY (a.up st.gg)) d
theorem i5(h:GA X es Γ M λds M1=>ds.length<=sizeLine/\∀a,M1 a=none->k (.mt a) (bG M1 a (.lst ds))):GE X (.List es pos) Γ M k:=λσ G H Q d e q=>by
 refine cM (aDU pUA) ?_
 refine h σ G H _ d e λvs G1 H1 ds M1 s1 b ⟨hl,f⟩=>⟨by rw[<- b.len];exact hl,λp c => ?_⟩
 exact q _ _ _ _ _ (s1.trans (s1.rel.newM c b)) nE (f p (s1.rel.free c).2)
abbrev Ct:=List D->Mem->(D->Mem->Prop)->Prop
noncomputable def spZ(K:Fg)(F:Ct):Sp:=λvs H Q _=>∃G M ds k,Rel K G H M/\Dens K G ds vs/\F ds M k/\Cont K M k G H Q
theorem aLK{ps:List Str}{p:Pos}{F:Ct}(Fk:FnOk X.prog X.w X.K X.mg X.base CX0 n f fd ps (spZ X.K F))(hr:Room n X.A)(hm:X.mg x=some (.ref f))(hk:y4 X.K (.ref f)=true)(hb:Binds X.K fd ps [])(h:GA X (e::es) Γ M λds M1=>F ds M1 k)(hg:Gl X x:=by rfl)(hdb:(x==("__debug__" : Str))=false:=by decide)(he:starEach (e::es) X.env=(false,eval e X.env)::starEach es X.env:=by rfl)(hpl:(bb pos (starEach es X.env)).any (·.1)=false:=by rfl):
  GE X (.Call (.Name x p) (e::es) [] pos) Γ M k:=λσ G H Q c d q=>by
 refine cM (aLY Fk hr hg hm hk hb .nil pass0 pUA hdb he hpl) ?_
 refine h σ G H _ c d λvs G1 H1 ds M1 s1 a b => ?_
 show spZ X.K F (vs++[]) H1 Q E0
 rw[wb]
 exact⟨G1,M1,ds,k,s1.rel,a,b,q.up s1⟩
noncomputable def OpN(K:Fg)(r:List V->Hp->VK->Prop)(ds:List D)(M:Mem)(k:D->Mem->Prop):Prop:=∀G H vs Q,Rel K G H M->Dens K G ds vs->Cont K M k G H Q->r vs H Q
theorem b8{p:Pos}{id:String}{r:List V->Hp->VK->Prop}(hc:i7 X (.builtin id) r)(hm:X.mg x=none)(hv:kf x=some (.builtin id))(h:GA X (e::es) Γ M λds M1=>OpN X.K r ds M1 k)(hg:Gl X x:=by rfl)(hn:x ≠ "__name__" := by decide)(hdb:(x==("__debug__" : Str))=false:=by decide)(he:starEach (e::es) X.env=(false,eval e X.env)::starEach es X.env:=by rfl)(hpl:(bb pos (starEach es X.env)).any (·.1)=false:=by rfl):GE X (.Call (.Name x p) (e::es) [] pos) Γ M k:=λσ G H Q c d q=>by
 refine cM (aGS hc hg hm hv pUA hn hdb he hpl) ?_
 exact h σ G H _ c d λvs G1 H1 ds M1 s1 a b=>b G1 H1 vs Q s1.rel a (q.up s1)
theorem cP{p:Pos}{T:String}{r:List V->Hp->VK->Prop}(hc:i7 X (.type T) r)(hm:X.mg x=none)(hv:kf x=some (.type T))(h:GA X (e::es) Γ M λds M1=>OpN X.K r ds M1 k)(hg:Gl X x:=by rfl)(hn:x ≠ "__name__" := by decide)(hdb:(x==("__debug__" : Str))=false:=by decide)(he:starEach (e::es) X.env=(false,eval e X.env)::starEach es X.env:=by rfl)(hpl:(bb pos (starEach es X.env)).any (·.1)=false:=by rfl):GE X (.Call (.Name x p) (e::es) [] pos) Γ M k:=λσ G H Q c d q=>by
 refine cM (aF3 hc hg hm hv pUA hn hdb he hpl) ?_
 exact h σ G H _ c d λvs G1 H1 ds M1 s1 a b=>b G1 H1 vs Q s1.rel a (q.up s1)
theorem dens1{K:Fg}{vs:List V}(h:Dens K G [d] vs):∃v,vs=[v]/\Den K G d v:=by
 obtain⟨v,r,rfl,h1,h2⟩:=bN h
 rw[bW h2];exact⟨v,rfl,h1⟩
theorem dens2{K:Fg}{c:D}{vs:List V}(h:Dens K G [d,c] vs):∃v u,vs=[v,u]/\Den K G d v/\Den K G c u:=by
 obtain⟨v,r,rfl,h1,h2⟩:=bN h
 obtain⟨u,rfl,h3⟩:=dens1 h2
 exact⟨v,u,rfl,h1,h3⟩
theorem o8{K:Fg}(q1:Seq M d t ds)(h:k (.int (ds.length:Int)) M):OpN K (λxs H Q=>∃x n,xs=[x]/\aH2 K x H n/\Q (.int n) H) [d] M k:=λG H vs Q c e q=>by
 obtain⟨v,rfl,dv⟩:=dens1 e
 obtain⟨a,ws,ev,s,b⟩:=q1.sq2 c dv
 subst ev
 refine⟨_,ds.length,rfl,?_,q _ _ _ _ _ (Stp.refl c) cZ h⟩
 rcases s with s|s
 ·exact .inl ⟨ws,s,b.len⟩
 ·exact .inr ⟨ws,s,b.len⟩
theorem iX{K:Fg}(hz:x.length<=sizeLine)(h:k (.int (x.length:Int)) M):OpN K (λxs H Q=>∃x n,xs=[x]/\aH2 K x H n/\Q (.int n) H) [.str x] M k:=λG H vs Q a e q=>by
 obtain⟨v,rfl,dv⟩:=dens1 e
 rw[dv.str_]
 exact⟨_,x.length,rfl,⟨hz,rfl⟩,q _ _ _ _ _ (Stp.refl a) cZ h⟩
theorem aEL{K:Fg}{i:Int}(h:k (.int (if i<0 then -i else i)) M):OpN K (λxs H Q=>∃i,xs=[.int i]/\Q (.int (if i<0 then -i else i)) H) [.int i] M k:=λG H vs Q a e q=>by
 obtain⟨v,rfl,dv⟩:=dens1 e
 rw[dv.int_]
 exact⟨i,rfl,q _ _ _ _ _ (Stp.refl a) cZ h⟩
theorem aKW{K:Fg}{c:Bool}(h:k (.int (if c then 1 else 0)) M):OpN K (λxs H Q=>(∃i,xs=[.int i]/\Q (.int i) H)\/∃k,xs=[.bl k]/\Q (.int (if k then 1 else 0)) H) [.bl c] M k:=λG H vs Q a e q=>by
 obtain⟨v,rfl,dv⟩:=dens1 e
 rw[dv.bl_]
 exact .inr ⟨c,rfl,q _ _ _ _ _ (Stp.refl a) cZ h⟩
theorem aN4{K:Fg}{i j:Int}(h:k (.int (if j<i then j else i)) M):OpN K (λxs H Q=>∃i j,xs=[.int i, .int j]/\Q (.int (if j<i then j else i)) H) [.int i, .int j] M k:=λG H vs Q b e q=>by
 obtain⟨v,u,rfl,dv,a⟩:=dens2 e
 rw[dv.int_,a.int_]
 exact⟨i,j,rfl,q _ _ _ _ _ (Stp.refl b) cZ h⟩
theorem qW{K:Fg}(q1:Seq M d t ds)(h:k (.lst ds) M):OpN K (λxs H Q=>∃p ys,xs=[.ref p]/\(SqL K H p ys\/SqT K H p ys)/\∀l,H l=none->Q (.ref l) (upd H l (.lst ys))) [d] M k:=λG H vs Q b e q=>by
 obtain⟨v,rfl,dv⟩:=dens1 e
 obtain⟨a,ws,ev,s,c⟩:=q1.sq2 b dv
 subst ev
 refine⟨a,ws,rfl,s,λl hl => ?_⟩
 have st:=b.new (o := .lst ws) hl
 exact q _ _ _ _ _ st (jQ aY (c.up st.gg)) h
theorem fN{K:Fg}(q1:Seq M d t ds)(h:k (.tup ds) M):OpN K (λxs H Q=>∃p ys,xs=[.ref p]/\((SqL K H p ys/\∀l,H l=none->Q (.ref l) (upd H l (.tup ys)))\/(SqT K H p ys/\Q (.ref p) H))) [d] M k:=λG H vs Q b e q=>by
 obtain⟨v,rfl,dv⟩:=dens1 e
 cases q1 with
 |tup ds =>
  obtain⟨a,ws,ev,s,c⟩:=dv.tup_
  subst ev
  exact⟨a,ws,rfl, .inr ⟨R.dC b.same s,q _ _ _ _ _ (Stp.refl b) dv h⟩⟩
 |lst ds =>
  obtain⟨a,ws,ev,s,c⟩:=(Seq.lst ds).sq b dv
  subst ev
  refine⟨a,ws,rfl, .inl ⟨s,λl hl => ?_⟩⟩
  have st:=b.new (o := .tup ws) hl
  exact q _ _ _ _ _ st (eU (SqT.of aY) (c.up st.gg)) h
 |fl ds =>
  obtain⟨a,ws,ev,s,c⟩:=(Seq.fl ds).sq b dv
  subst ev
  refine⟨a,ws,rfl, .inl ⟨s,λl hl => ?_⟩⟩
  have st:=b.new (o := .tup ws) hl
  exact q _ _ _ _ _ st (eU (SqT.of aY) (c.up st.gg)) h
 |mt hm =>
  obtain⟨a,ws,ev,s,c⟩:=(Seq.mt hm).sq b dv
  subst ev
  refine⟨a,ws,rfl, .inl ⟨s,λl hl => ?_⟩⟩
  have st:=b.new (o := .tup ws) hl
  exact q _ _ _ _ _ st (eU (SqT.of aY) (c.up st.gg)) h
theorem aBR{K:Fg}:∀{bs:List Bool}{vs:List V},Dens K G (bs.map D.bl) vs->vs=bs.map V.bl
 |[],_,h=>bW h
 |b::bs,_,h=>by
  obtain⟨v,r,rfl,h1,h2⟩:=bN h
  rw[h1.bl_,aBR h2];rfl
theorem rS{K:Fg}:∀{bs:List Str}{vs:List V},Dens K G (bs.map D.str) vs->vs=bs.map V.str
 |[],_,h=>bW h
 |b::bs,_,h=>by
  obtain⟨v,r,rfl,h1,h2⟩:=bN h
  rw[h1.str_,rS h2];rfl
theorem wZ{K:Fg}:∀{bs:List Int}{vs:List V},Dens K G (bs.map D.int) vs->vs=bs.map V.int
 |[],_,h=>bW h
 |b::bs,_,h=>by
  obtain⟨v,r,rfl,h1,h2⟩:=bN h
  rw[h1.int_,wZ h2];rfl
noncomputable def TyD(T:String)(d:D)(M:Mem):Prop:=match d with
 |.str _=>T = "str"
 |.lst _=>T = "list"
 |.mt a=>T = "list" /\ ∃ds,M a=some (.lst ds)
 |_=>False
theorem TyD.ok{K:Fg}{T:String}(h:TyD T d M)(rl:Rel K G H M)(e:Den K G d v):tyV K T v H:=by
 cases d with
 |str x=>rw[e.str_];exact h
 |lst ds=>obtain⟨a,vs,ev,s,_⟩:=e.lst_;rw[ev];exact .inl ⟨h,vs,SqL.of (rl.same _ _ s)⟩
 |mt a =>
  obtain⟨b,ds,c⟩:=h
  obtain⟨_,vs,s,_⟩:=rl.mem _ _ c
  rw[e.mt_];exact .inl ⟨b,vs,SqL.of s⟩
 |_=>exact yj h
noncomputable def OpM(K:Fg)(r:V->List V->Hp->VK->Prop)(d:D)(ds:List D)(M:Mem)(k:D->Mem->Prop):Prop:=∀G H v vs Q,Rel K G H M->Den K G d v->Dens K G ds vs->Cont K M k G H Q->r v vs H Q
theorem dX{T id:String}(pa:t6 T)(slot:Slot T name id)(hty:typeOf (.builtin id)=pure (.type "method_descriptor"))(hm:MtR X id r)(h:GE X o Γ M λd M1=>TyD T d M1/\GA X (e::es) Γ M1 λds M2=>OpM X.K r d ds M2 k)(hbase:dq o name X.env (eval o X.env)=eval o X.env:=by rfl)(hfew:((bb cpos (starEach (e::es) X.env)).all (λx => !x.1)&&(backToKw cpos (Je [] X.env)).all (λx=>x.1.isSome)
   && decide ((e::es).length+([]:List fv).length+(if ([]:List fv).isEmpty then 0 else 1)<30))=true:=by rfl)(hline:(apos.endLine==cpos.line)=true:=by rfl)(hs:starEach (e::es) X.env=(false,eval e X.env)::starEach es X.env:=by rfl)(hplain:(bb cpos (starEach es X.env)).any (·.1)=false:=by rfl):
  GE X (.Call (.Attribute o name apos) (e::es) [] cpos) Γ M k:=λσ G H Q a f q=>by
 refine cM (aPK pa slot hty hm pU pUA hbase hfew hline hs hplain) ?_
 refine h σ G H _ a f λv G1 H1 d M1 s1 b ⟨ty,g⟩=>⟨ty.ok s1.rel b,?_⟩
 exact g σ G1 H1 _ (a.up s1.gg) s1.rel λvs G2 H2 ds M2 s2 c i=>i G2 H2 v vs Q s2.rel (b.up s2.gg) c (q.up (s1.trans s2))
theorem aNR{T id:String}(pa:t6 T)(slot:Slot T name id)(hty:typeOf (.builtin id)=pure (.type "method_descriptor"))(hm:MtR X id r)(h:GE X o Γ M λd M1=>TyD T d M1/\OpM X.K r d [] M1 k)(hbase:dq o name X.env (eval o X.env)=eval o X.env:=by rfl)(hline:(apos.endLine==cpos.line)=true:=by rfl):
  GE X (.Call (.Attribute o name apos) [] [] cpos) Γ M k:=λσ G H Q c e q=>by
 refine cM (aMR pa slot hty hm pU hbase hline) ?_
 exact h σ G H _ c e λv G1 H1 d M1 s1 a ⟨ty,b⟩=>⟨ty.ok s1.rel a,b G1 H1 v [] Q s1.rel a bT (q.up s1)⟩
theorem gM{K:Fg}{a:Addr}(hm:M a=some (.lst ds))(hl:ds.length<sizeLine)(h:k .non (bG M a (.lst (ds++[d])))):OpM K aB8 (.mt a) [d] M k:=λG H v vs Q c e g q=>by
 obtain⟨u,rfl,f⟩:=dens1 g
 obtain⟨_,ws,s,b⟩:=c.mem _ _ hm
 exact⟨a,ws,u,e.mt_,rfl,s,by rw[<- b.len];exact hl,q _ _ _ _ _ (c.wr hm (b.append (aZ f bT))) nA h⟩
theorem iY{K:Fg}{sep:Str}{ys:List Str}(q1:Seq M d t (ys.map D.str))(h1:sep.length<=16)(h2:(ys.map (·.length)).sum+ys.length<=1048576)(h:k (.str (cF sep ys)) M):OpM K (rJoin K) (.str sep) [d] M k:=λG H v vs Q b e g q=>by
 obtain⟨u,rfl,c⟩:=dens1 g
 obtain⟨a,ws,ev,s,f⟩:=q1.sq2 b c
 subst ev
 rw[rS f] at s
 exact⟨sep,a,ys,e.str_,rfl,s,h1,h2,q _ _ _ _ _ (Stp.refl b) jR h⟩
end
end Z
namespace Z
open PySem L2
section
variable {a:Expr}{rest:List Expr}{ko:Option Int->Mem->Prop}
noncomputable def tUO(X:Cx)(e:Option Expr):TO:=λσ H Q=>∀pins s,Inv X pins σ H s->wpAny X.w.4 X.A (evalPart e X.env) (λu s'=>∃o H',Inv X pins σ H' s'/\gn u o/\Q o H') X.xe s
theorem pUO{e:Option Expr}:PO X e (tUO X e):=λpins s σ H Q I h=>h pins s I
theorem aE9{e:Option Expr}{t:TO}(p:PO X e t){Q:Option Int->Hp->Prop}(h:t σ H Q):tUO X e σ H Q:=λpins s I=>p pins s σ H Q I h
noncomputable def GO(X:Cx)(e:Option Expr)(Γ:Gm)(M:Mem)(ko:Option Int->Mem->Prop):Prop:=
 ∀σ G H Q,EnvR X.K G Γ σ->Rel X.K G H M->(∀o G' H' M',Stp X.K G H M G' H' M'->ko o M'->Q o H')->tUO X e σ H Q
theorem uX(h:ko none M):GO X none Γ M ko:=λσ G H Q en rl q=>aE9 aL5 (q _ _ _ _ (Stp.refl rl) h)
theorem uG(h:GE X e Γ M λd M1=>∃i,d = .int i/\ko (some i) M1):GO X (some e) Γ M ko:=λσ G H Q a b q=>aE9 (aKS pU) (h σ G H _ a b λv G1 H1 d M1 s1 c ⟨i,g,f⟩=>by subst g;exact⟨i,c.int_,q _ _ _ _ s1 f⟩)
abbrev R3:=V->Option Int->Option Int->Hp->VK->Prop
noncomputable def Op3(K:Fg)(r:R3)(d:D)(l u:Option Int)(M:Mem)(k:D->Mem->Prop):Prop:=∀G H v Q,Rel K G H M->Den K G d v->Cont K M k G H Q->r v l u H Q
theorem rO{r:R3}(hr:SlR X r)(h:GE X e Γ M λd M1=>GO X lo Γ M1 λl M2=>GO X hi Γ M2 λu M3=>Op3 X.K r d l u M3 k):GE X (.Subscript e (.Slice lo hi none p2) pos) Γ M k:=λσ G H Q a b q=>by
 refine cM (aG9 hr pU pUO pUO) ?_
 refine h σ G H _ a b λv G1 H1 d M1 s1 c f => ?_
 refine f σ G1 H1 _ (a.up s1.gg) s1.rel λl G2 H2 M2 s2 i => ?_
 refine i σ G2 H2 _ (a.up (s1.trans s2).gg) s2.rel λu G3 H3 M3 s3 g => ?_
 exact g G3 H3 v Q s3.rel (c.up (s2.trans s3).gg) (q.up ((s1.trans s2).trans s3))
noncomputable def cutD{α:Type}(xs:List α)(lo hi:Option Int):List α:=(xs.drop (HT.sIx xs.length 0 lo)).take (HT.sIx xs.length xs.length hi-HT.sIx xs.length 0 lo)
theorem Dens.cut{K:Fg}{vs:List V}(h:Dens K G ds vs)(l u:Option Int):Dens K G (cutD ds l u) (lY vs l u):=by
 unfold cutD lY
 rw[<- h.len]
 exact (h.drop _).take _
theorem xV{K:Fg}{l u:Option Int}(q1:Seq M d true ds)(h:k (.lst (cutD ds l u)) M):Op3 K (rSlL K) d l u M k:=λG H v Q b e q=>by
 obtain⟨a,vs,ev,s,f⟩:=q1.sq b e
 refine⟨a,vs,ev,s,λp c => ?_⟩
 have st:=b.new (o := .lst (lY vs l u)) c
 exact q _ _ _ _ _ st (jQ aY ((f.cut l u).up st.gg)) h
structure YD(K:Fg)(J:It)(ds:List D)(G0:Hp):Prop where
 go:∀i G H M,Same G0 G->Rel K G H M->i<ds.length->J.go i H
 yld:∀i G H M x H',Same G0 G->Rel K G H M->i<ds.length->J.yld i H x H'->∃G' d,Stp K G H M G' H' M/\ds[i]?=some d/\Den K G' d x
 stop:∀i G H M,Same G0 G->Rel K G H M->i=ds.length->J.stop i H
theorem aCA{K:Fg}{a:Addr}{vs:List V}(s:SqL K G0 a vs)(dn:Dens K G0 ds vs):YD K (Itl K a) ds G0 where
 go:=λi G H M sg b h=>vH.go i H (b.same.seq (sg.seq s)) (by rw[<- dn.len];exact h)
 yld:=λi G H M x H' sg b h y=>by
  obtain⟨e,c⟩:=vH.yld i H x H' (b.same.seq (sg.seq s)) y (by rw[<- dn.len];exact h)
  subst e
  obtain⟨d,hd,e⟩:=dn.get' c
  exact⟨G,d,Stp.refl b,hd,e.up sg⟩
 stop:=λi G H M sg b h=>vH.stop i H (b.same.seq (sg.seq s)) (by rw[<- dn.len];exact z6 h.symm)
theorem aMN{K:Fg}{a:Addr}{vs:List V}(s:SqT K G0 a vs)(dn:Dens K G0 ds vs):YD K (Itt K a) ds G0 where
 go:=λi G H M sg b h=>zE.go i H (R.dC b.same (R.dC sg s)) (by rw[<- dn.len];exact h)
 yld:=λi G H M x H' sg b h y=>by
  obtain⟨e,c⟩:=zE.yld i H x H' (R.dC b.same (R.dC sg s)) y (by rw[<- dn.len];exact h)
  subst e
  obtain⟨d,hd,e⟩:=dn.get' c
  exact⟨G,d,Stp.refl b,hd,e.up sg⟩
 stop:=λi G H M sg b h=>zE.stop i H (R.dC b.same (R.dC sg s)) (by rw[<- dn.len];exact z6 h.symm)
noncomputable def oS(lo:Int)(n:Nat):List D:=(qr n).map λi=>D.int (lo+(i:Nat))
theorem bC(lo:Int)(n:Nat):(oS lo n).length=n:=by simp[oS]
theorem c8{lo:Int}(h:(oS lo n)[i]?=some d):i<n/\d = .int (lo+(i:Nat)):=by
 have a:i<n:=by rw[<- bC lo n];exact (zGs h).1
 simp[oS,a] at h
 exact⟨a,h.symm⟩
theorem aF0{K:Fg}{lo:Int}:YD K (Itr lo n) (oS lo n) G0 where
 go:=λi G H M sg a h=>by rw[bC] at h;exact h
 yld:=λi G H M x H' sg a h y=>by
  obtain⟨e,b⟩:=y
  subst e b
  rw[bC] at h
  exact⟨G,_,Stp.refl a,by simp[oS,h],cZ⟩
 stop:=λi G H M sg a h=>by rw[bC] at h;exact z6 h.symm
noncomputable def iK(x:Str):List D:=x.cps.toList.map λc=>D.str ⟨#[c]⟩
theorem jO(x:Str):(iK x).length=x.length:=by simp[iK,QE]
noncomputable def GI(X:Cx)(tg iter:Expr)(Γ:Gm)(M:Mem)(ki:List D->Mem->Prop):Prop:=
 ∀σ G H R,EnvR X.K G Γ σ->Rel X.K G H M->(∀J G' H' ds M',Stp X.K G H M G' H' M'->YD X.K J ds G'->ki ds M'->R J H')->tUI X tg iter σ H R
noncomputable def iAny(K:Fg)(tl:TE):TI:=λσ H R=>tl σ H λx H1=>∃a,x = .ref a/\(((∃xs,SqL K H1 a xs)/\R (Itl K a) H1)\/((∃xs,SqT K H1 a xs)/\R (Itt K a) H1))
theorem aMH{l:Expr}{tl:TE}(hl:PE X l tl):PI X tg l (iAny X.K tl):=by
 intro pins s σ H R I h
 refine thn (hl pins s σ H _ I h) λv s1 ⟨x,H1,I1,r1,k⟩ => ?_
 obtain⟨a,e,q⟩:=k
 subst e
 cases r1
 have g:∀b∈[s1.heap.objs.size],mV X pins H1 b:=λb m=>by
  have e:b=s1.heap.objs.size:=by simpa using m
  subst e
  exact I1.fpOk (ql _) (I1.hok.fresh (ql _))
 rcases q with ⟨⟨xs,c⟩,q⟩|⟨⟨xs,c⟩,q⟩
 ·obtain⟨d,i,f,j⟩:=I1.list c
  refine wpAny_pyIter_list f.isList ?_
  exact⟨s1.heap.objs.size,[s1.heap.objs.size],_,Itl X.K a,H1,rfl,I1.kept (t':=s1.toks) λb o e=>qc _ e,aGA a _,⟨_,qu _ rfl,rfl,rfl⟩,g,q⟩
 ·obtain⟨d,i,f,j⟩:=I1.tuple c
  refine wpAny_pyIter_tuple f ?_
  exact⟨s1.heap.objs.size,[s1.heap.objs.size],_,Itt X.K a,H1,rfl,I1.kept (t':=s1.toks) λb o e=>qc _ e,aCU a _,⟨_,qu _ rfl,rfl,rfl⟩,g,q⟩
theorem cD(h:GE X iter Γ M λd M1=>∃ds,(d = .tup ds\/d = .lst ds\/d = .fl ds)/\ki ds M1):GI X tg iter Γ M ki:=λσ G H Rr f g q=>by
 refine lT (aMH pU) ?_
 refine h σ G H _ f g λv G1 H1 d M1 s1 c ⟨ds,i,e⟩ => ?_
 rcases i with rfl|rfl|rfl
 ·obtain⟨a,vs,ev,s,b⟩:=c.tup_
  exact⟨a,ev, .inr ⟨⟨vs,R.dC s1.rel.same s⟩,q _ _ _ _ _ s1 (aMN s b) e⟩⟩
 ·obtain⟨a,vs,ev,s,b⟩:=c.lst_
  exact⟨a,ev, .inl ⟨⟨vs,SqL.of (s1.rel.same _ _ s)⟩,q _ _ _ _ _ s1 (aCA (SqL.of s) b) e⟩⟩
 ·obtain⟨a,vs,ev,s,b⟩:=c.fl_
  exact⟨a,ev, .inl ⟨⟨vs,s1.rel.same.seq s⟩,q _ _ _ _ _ s1 (aCA s b) e⟩⟩
theorem fW{p:Pos}(hm:X.mg "range" = none)(h:GA X [a] Γ M λds M1=>∃j:Int,ds=[.int j] /\ -(2^62)<=j/\j<2^62/\ki (oS 0 j.toNat) M1)(hg:Gl X "range" := by rfl)(hs:starEach [a] X.env=[(false,eval a X.env)]:=by rfl):GI X tg (.Call (.Name "range" p) [a] [] pos) Γ M ki:=λσ G H R b c q=>by
 refine lT (aE6 hg hm pUA hs) ?_
 refine h σ G H _ b c λvs G1 H1 ds M1 s1 d ⟨j,i,e,g,f⟩ => ?_
 subst i
 obtain⟨v,rfl,dv⟩:=dens1 d
 rw[dv.int_]
 exact⟨j,rfl,e,g,q _ _ _ _ _ s1 aF0 f⟩
theorem aBU{p:Pos}(hm:X.mg "range" = none)(h:GA X [a,b] Γ M λds M1=>∃i j:Int,ds=[.int i, .int j]/\(-(2^62)<=i/\i<2^62 /\ -(2^62)<=j/\j<2^62)/\ki (oS i (j-i).toNat) M1)(hg:Gl X "range" := by rfl)(hs:starEach [a,b] X.env=[(false,eval a X.env),(false,eval b X.env)]:=by rfl)(hs2:starEach [b] X.env=[(false,eval b X.env)]:=by rfl):GI X tg (.Call (.Name "range" p) [a,b] [] pos) Γ M ki:=λσ G H R c d q=>by
 refine lT (aEU hg hm pUA hs hs2) ?_
 refine h σ G H _ c d λvs G1 H1 ds M1 s1 e ⟨i,j,l,g,k⟩ => ?_
 subst l
 obtain⟨v,u,rfl,dv,f⟩:=dens2 e
 rw[dv.int_,f.int_]
 exact⟨i,j,rfl,g,q _ _ _ _ _ s1 aF0 k⟩
end
section
variable {K:Fg}
theorem join_some{α:Type}{o:Option (Option α)}{x:α}(h:o.join=some x):o=some (some x):=by
 cases o with
 |none=>cases h
 |some y=>cases y with
  |none=>cases h
  |some z=>cases h;rfl
theorem EnvR.cap(h:EnvR K G Γ σ)(e:Den K G d v)(cap:List Nat):EnvR K G (some d::cap.map λk=>(Γ[k]?).join) (some v::cap.map λk=>(σ[k]?).join):=by
 refine⟨by simp,λi c q => ?_⟩
 cases i with
 |zero=>simp at q;subst q;exact⟨v,rfl,e⟩
 |succ i =>
  rw[cq,qm] at q ⊢
  cases hc:cap[i]? with
  |none=>rw[hc] at q;cases q
  |some j =>
   rw[hc,v8] at q
   have f:(Γ[j]?).join=some c:=by injection q
   obtain⟨u,a,b⟩:=h.get j c (join_some f)
   exact⟨u,by rw[v8,a];rfl,b⟩
theorem Stp.aside{H0:Hp}{M0:Mem}{p:Addr}{o:HO}(s:Stp K G0 H0 M0 G H M)(h0:H0 p=none)(hg:G p=none)(hm:M p=none):Stp K G0 H0 M0 G (upd H p o) M:=by
 refine⟨s.gg,⟨λb u e => ?_,λa m e => ?_⟩,λa u c f d => ?_⟩
 ·rw[aV (bA e hg)];exact s.rel.same b u e
 ·have z:a≠p:=λz=>by rw[z,hm] at e;cases e
  exact⟨(s.rel.mem a m e).1,(s.rel.mem a m e).2.mv (Same.refl G) (aV z)⟩
 ·obtain⟨x,y,z⟩:=s.fr a u c f d
  exact⟨by rw[aV (bA c h0)];exact x,y,z⟩
theorem Stp.track{H0:Hp}{M0:Mem}{p:Addr}{vs:List V}(s:Stp K G0 H0 M0 G H M)(h0:H0 p=none)(hg:G p=none)(hp:H p=some (.lst vs))(dn:Dens K G ds vs):Stp K G0 H0 M0 G H (bG M p (.lst ds)):=by
 refine⟨s.gg,⟨s.rel.same,λa m e => ?_⟩,λa u b d c => ?_⟩
 ·by_cases z:a=p
  ·subst z
   rw[aG] at e;cases e
   exact⟨hg,vs,hp,dn⟩
  ·rw[bD z] at e;exact s.rel.mem a m e
 ·obtain⟨x,y,z⟩:=s.fr a u b d c
  exact⟨x,y,by rw[bD (bA b h0)];exact z⟩
end
noncomputable def vF(Y:Cx)(ifs:List Expr):TT:=λσ H Q=>∀pins s,Inv Y pins σ H s ->
  wpAny (jt Y.prog Y.w) Y.A (forIn ifs true λc r=>if r=true then do let ok <- isTrue c Y.env (eval c Y.env);pure (vy ok) else pure (vy r)) (TP Y pins σ Q) Y.xe s
noncomputable def GIf(Y:Cx)(ifs:List Expr)(Γ:Gm)(M:Mem)(kb:Bool->Mem->Prop):Prop:=
 ∀σ G H Q,EnvR Y.K G Γ σ->Rel Y.K G H M->qE Y.K M kb G H Q->vF Y ifs σ H Q
theorem bF{Y:Cx}(h:kb true M):GIf Y [] Γ M kb:=λσ G H Q en rl q pins s I=>aKD pins s σ H Q I (q _ _ _ _ (Stp.refl rl) h)
theorem nK{Y:Cx}(h:GT Y c Γ M kb):GIf Y [c] Γ M kb:=λσ G H Q en rl q pins s I=>aJP pUT pins s σ H Q I (h σ G H Q en rl q)
noncomputable def Comp(X:Cx)(x:Str)(ns:List Str)(cap:List Nat)(elt:Expr)(ifs:List Expr)(scope:Scope)(Γ:Gm)(k:D->Mem->Prop)(ds:List D)(M1:Mem):Prop:=
 ds.length<=sizeLine/\∃I:Nat->List D->Mem->Prop,I 0 [] M1 /\
  (∀i d acc M2,ds[i]?=some d->I i acc M2->∀cs C s₀ H₀ fp,GIf fp.7 ifs (some d::cap.map λk=>(Γ[k]?).join) M2 λc M3 =>
   if c=true then (∀cs C s₀ H₀ fp,GE fp.7 elt (some d::cap.map λk=>(Γ[k]?).join) M3 (λy M4=>I (i+1) (acc++[y]) M4)) else I (i+1) acc M3) /\
  (∀acc M2,I ds.length acc M2->∀a,M2 a=none->k (.mt a) (bG M2 a (.lst acc)))
theorem aF8{cap:List Nat}(h:GI X (.Name x px) iter Γ M (Comp X x ns cap elt ifs scope Γ k)){Q:VK}(en:EnvR X.K G Γ σ)(rl:Rel X.K G H M)(q:Cont X.K M k G H Q):
  qC (tUI X (.Name x px) iter) cap (λσ H Q=>∀cs C s₀ H₀ fp,vF fp.7 ifs σ H Q) (λσ H Q=>∀cs C s₀ H₀ fp,tU fp.7 elt σ H Q) σ H Q:=by
 refine h σ G H _ en rl λJ G1 H1 ds M1 s1 yd ⟨hlen,I,h0,f,j⟩ A hA => ?_
 have a:=s1.rel.free hA
 refine⟨λi m p H2=>m=ds.length-i/\i<=ds.length/\∃G2 M2 acc,Stp X.K G1 H1 M1 G2 H2 M2/\H2 A=some (.lst p)/\G2 A=none/\M2 A=none/\Dens X.K G2 acc p/\I i acc M2/\acc.length<=i,
  ⟨ds.length,by simp,vq _,G1,M1,[],(Stp.refl s1.rel).aside hA a.1 a.2,aY,a.1,a.2,bT,h0,ql _⟩,?_⟩
 rintro i m p H2 ⟨rfl,P,G2,M2,acc,s2,hl,v,hm,l,B,t⟩
 refine⟨hl,?_⟩
 by_cases b:i<ds.length
 ·refine .inr ⟨yd.go i G2 H2 M2 s2.gg s2.rel b,by rw[<- l.len];omega,λx H3 y => ?_⟩
  obtain⟨G3,d,s3,hd,ex⟩:=yd.yld i G2 H2 M2 x H3 s2.gg s2.rel b y
  obtain⟨l3,g3,F⟩:=s3.fr A _ hl v hm
  intro cs C s₀ H₀ fp
  have g:=((en.up s1.gg).up (s2.trans s3).gg).cap ex cap
  refine f i d acc M2 hd B cs C s₀ H₀ fp _ G3 H3 _ g s3.rel λc G4 H4 M4 s4 n => ?_
  obtain⟨u,g4,r⟩:=s4.fr A _ l3 g3 F
  cases c with
  |true =>
   rw[if_pos rfl] at n ⊢
   intro cs C s₀ H₀ fp
   refine n cs C s₀ H₀ fp _ G4 H4 _ (g.up s4.gg) s4.rel λy G5 H5 N M5 s5 O E => ?_
   obtain⟨L,z,w⟩:=s5.fr A _ u g4 r
   have o:=((s2.trans s3).trans s4).trans s5
   exact⟨L,ds.length-(i+1),by omega,rfl,b,G5,M5,acc++[N],o.aside hA z w,aY,z,w,(l.up ((s3.trans s4).trans s5).gg).append (aZ O bT),E,by rw[qh,jm];omega⟩
  |false =>
   rw[if_neg zBf] at n ⊢
   exact⟨ds.length-(i+1),by omega,rfl,b,G4,M4,acc,(s2.trans s3).trans s4,u,g4,r,l.up (s3.trans s4).gg,n,by omega⟩
 ·have e:i=ds.length:=by omega
  subst e
  exact .inl ⟨yd.stop _ G2 H2 M2 s2.gg s2.rel rfl,q _ _ _ _ _ (s1.trans (s2.track hA v hl l)) nE (j acc M2 B A hm)⟩
end Z
namespace Z
open PySem L2
section
variable {F:Fin}{a:Expr}{st:Stmt}{ss body:List Stmt}
theorem uO{sc:Scope}(ns:List Str)(cap:List Nat)(h:GI X (.Name x px) iter Γ M (Comp X x ns cap elt ifs scope Γ k))(hsc:X.env.scope=sc:=by rfl)(hN:X.N=N:=by rfl)(ok:gF sc scope x ns cap N=true:=by first|decide +kernel|kernel_rfl!)(hc:X.calm=true:=by rfl)(hs:∀v,foldedSetIterable iter X.env v=pure v:=by intro _;rfl):
  GE X '%' Γ M k:=λσ G H Q b c q =>
 cM (aIU ns cap hc hsc hN ok pUI (λcs C s₀ H₀ a pins s σ H Q I h=>h cs C s₀ H₀ a pins s I) (λcs C s₀ H₀ a pins s σ H Q I h=>h cs C s₀ H₀ a pins s I) hs) (aF8 h b c q)
noncomputable def aIZ(X:Cx)(x:Str)(ns:List Str)(cap:List Nat)(elt:Expr)(ifs:List Expr)(scope:Scope)(Γ:Gm)(k:D->Mem->Prop)(ds:List D)(M1:Mem):Prop:=
 ds.length<=sizeLine/\∃I:Nat->List D->Mem->Prop,I 0 [] M1 /\
  (∀i d acc M2,ds[i]?=some d->I i acc M2->∀cs C s₀ H₀ fp,GIf fp.7 ifs (some d::cap.map λk=>(Γ[k]?).join) M2 λc M3 =>
   if c=true then (∀cs C s₀ H₀ fp,GE fp.7 elt (some d::cap.map λk=>(Γ[k]?).join) M3 (λy M4=>I (i+1) (acc++[y]) M4)) else I (i+1) acc M3) /\
  (∀acc M2,I ds.length acc M2->k (.lst acc) M2)
theorem bO{sc:Scope}(ns:List Str)(cap:List Nat)(h:GI X (.Name x px) iter Γ M (aIZ X x ns cap elt ifs scope Γ k))(hsc:X.env.scope=sc:=by rfl)(hN:X.N=N:=by rfl)(ok:gF sc scope x ns cap N=true:=by first|decide +kernel|kernel_rfl!)(hc:X.calm=true:=by rfl)(hs:∀v,foldedSetIterable iter X.env v=pure v:=by intro _;rfl):
  GE X '%' Γ M k:=by
 refine fD (uO ns cap ?_ hsc hN ok hc hs)
 intro σ G H Rr e f q
 refine h σ G H Rr e f λJ G1 H1 ds M1 s1 yd ⟨hl,I,h0,b,c⟩ => ?_
 exact q J G1 H1 ds M1 s1 yd ⟨hl,I,h0,b,λacc M2 g a d=>⟨a,acc,M2,rfl,aG,d,(Le.refl M2).upd d,c acc M2 g⟩⟩
theorem dM{cap:List Nat}(hl:ds.length<=sizeLine)(I:Nat->List D->Mem->Prop)(h0:I 0 [] M1)(hs:∀i d acc M2,ds[i]?=some d->I i acc M2->∀cs C s₀ H₀ fp,GIf fp.7 ifs (some d::cap.map λk=>(Γ[k]?).join) M2 λc M3 =>
   if c=true then (∀cs C s₀ H₀ fp,GE fp.7 elt (some d::cap.map λk=>(Γ[k]?).join) M3 (λy M4=>I (i+1) (acc++[y]) M4)) else I (i+1) acc M3)(hd:∀acc M2,I ds.length acc M2->k (.lst acc) M2):aIZ X x ns cap elt ifs scope Γ k ds M1:=⟨hl,I,h0,hs,hd⟩
theorem bU(h:F.nx Γ M):GS X [] Γ M F:=λσ G H E en rl q=>uN aLD (q.nx σ G H Γ M (Stp.refl rl) en h)
theorem aB(h:G1 X st Γ M {F with nx:=λΓ' M'=>GS X ss Γ' M' F}):GS X (st::ss) Γ M F:=λσ G H E c d q=>by
 refine uN (aHO pUS vB) ?_
 refine h σ G H _ c d ⟨λσ' G' H' Γ' M' b a e => ?_,q.rt,q.bk,q.ct⟩
 exact e σ' G' H' E a b.rel (q.up b)
theorem aH(h:G1 X st Γ M F):GS X [st] Γ M F:=λσ G H E en rl q=>uN (aLI pUS) (h σ G H E en rl q)
theorem kB(i:Nat){a:Addr}(hΓ:Γ[i]?=some (some (.mt a)))(hM:M a=some (.lst ds))(h:GS X ss (Γ.set i (some (.lst ds))) (g7 M a) F):GS X ss Γ M F:=λσ G H E c e q=>by
 obtain⟨vs,g,d,s1⟩:=e.frz hM
 obtain⟨v,ev,dv⟩:=c.get i _ hΓ
 have dl:Den X.K (upd G a (.lst vs)) (.lst ds) v:=by rw[dv.mt_];exact jQ aY (d.up s1.gg)
 have b:=(c.up s1.gg).set dl i
 have f:σ.set i (some v)=σ:=by
  apply xo
  intro j
  rw[Qv]
  by_cases z:i=j
  ·subst z
   rw[if_pos rfl,if_pos (zGs ev).1,ev]
  ·rw[if_neg z]
 rw[f] at b
 exact h σ _ H E b s1.rel (q.up s1)
theorem aK(i:Nat)(hN:X.N.Nodup)(h:GE X e Γ M λd M1=>F.nx (Γ.set i (some d)) M1)(hi:X.N[i]?=some x:=by rfl)(hx:Loc X.env.scope x:=by first|exact K1 rfl|exact Jo rfl)(hs:bf e (some (.Name x pos')) pos.line X.env=pure false:=by rfl)(hf:X.fn x=true\/X.env.scope.names.lookup x=some .local:=by first|exact .inl rfl|exact .inr rfl):G1 X (.Assign [.Name x pos'] e pos) Γ M F:=λσ G H E a f q=>by
 refine hW (aOG hN hi hx pU hs hf) ?_
 exact h σ G H _ a f λv G1 H1 d M1 s1 b c=>q.nx _ _ _ _ _ s1 ((a.up s1.gg).set b i) c
theorem gS(iy:Nat){sc:Scope}(ns:List Str)(cap:List Nat)(hNd:N.Nodup)(h:GI X (.Name x px) iter Γ M (Comp X x ns cap elt ifs scope Γ λd M1=>F.nx (Γ.set iy (some d)) M1))(hsc:X.env.scope=sc:=by rfl)(hN:X.N=N:=by rfl)(ok:gF sc scope x ns cap N=true:=by first|decide +kernel|kernel_rfl!)(hiy:N[iy]?=some y:=by rfl)(hyl:sc.names.lookup y=some .local:=by rfl)(hc:X.calm=true:=by rfl)(hs:∀v,foldedSetIterable iter X.env v=pure v:=by intro _;rfl)(hsw:bf '%' (some (.Name y py)) spos.line X.env=pure true:=by rfl):
  G1 X (.Assign [.Name y py] '%' spos) Γ M F:=λσ G H E b c q=>by
 refine hW (aA6 (tt:=λσ H Q=>∀cs C s₀ H₀ a,vF a.7 ifs σ H Q) (te:=λσ H Q=>∀cs C s₀ H₀ a,tU a.7 elt σ H Q) iy ns cap hNd hiy hyl hc hsc hN ok pUI (λcs C s₀ H₀ a pins s σ H Q I h=>h cs C s₀ H₀ a pins s I) (λcs C s₀ H₀ a pins s σ H Q I h=>h cs C s₀ H₀ a pins s I) hs hsw) ?_
 exact aF8 h b c λv G1 H1 d M1 s1 e f=>q.nx _ _ _ _ _ s1 ((b.up s1.gg).set e iy) f
theorem qH{cap:List Nat}(hl:ds.length<=sizeLine)(I:Nat->List D->Mem->Prop)(h0:I 0 [] M1)(hs:∀i d acc M2,ds[i]?=some d->I i acc M2->∀cs C s₀ H₀ fp,GIf fp.7 ifs (some d::cap.map λk=>(Γ[k]?).join) M2 λc M3 =>
   if c=true then (∀cs C s₀ H₀ fp,GE fp.7 elt (some d::cap.map λk=>(Γ[k]?).join) M3 (λy M4=>I (i+1) (acc++[y]) M4)) else I (i+1) acc M3)(hd:∀acc M2,I ds.length acc M2->∀a,M2 a=none->k (.mt a) (bG M2 a (.lst acc))):Comp X x ns cap elt ifs scope Γ k ds M1:=
 ⟨hl,I,h0,hs,hd⟩
theorem m9(h:GE X e Γ M λd M1=>GG X tg d Γ M1 F.nx)(hs:gw [tg] e pos.line X.env=pure false:=by rfl)(hw:gy [tg] e X.env=pure none:=by rfl)(h1:(assignEach [tg] X.env).map (·.2)=[assign tg X.env]:=by rfl):G1 X (.Assign [tg] e pos) Γ M F:=λσ G H E a c q=>by
 refine hW (aNJ pU pUG hs hw h1) ?_
 exact h σ G H _ a c λv G1 H1 d M1 s1 b h1=>h1 σ G1 H1 v _ (a.up s1.gg) s1.rel b (q.nx.up s1)
theorem aMB(i j:Nat){pt:Pos}{kt k2 pt2}(hN:X.N.Nodup)(hij:i≠j)(h:GA X [a,b] Γ M λds M1=>∃d1 d2,ds=[d1,d2]/\F.nx ((Γ.set i (some d1)).set j (some d2)) M1)(hi:X.N[i]?=some x:=by rfl)(hj:X.N[j]?=some y:=by rfl)(hx:X.env.scope.names.lookup x=some .local:=by rfl)(hy:X.env.scope.names.lookup y=some .local:=by rfl)(hc:X.calm=true:=by rfl)(hw:gy [.Tuple [.Name x px, .Name y py] kt pt] (.Tuple [a,b] k2 pt2) X.env=pure (some [x,y]):=by rfl)(hs:gw [.Tuple [.Name x px, .Name y py] kt pt] (.Tuple [a,b] k2 pt2) pos.line X.env=pure false:=by rfl):
  G1 X (.Assign [.Tuple [.Name x px, .Name y py] kt pt] (.Tuple [a,b] k2 pt2) pos) Γ M F:=λσ G H E c d q=>by
 refine hW (aMF hc hN hi hj hij hx hy pUA hw hs) ?_
 refine h σ G H _ c d λvs G1 H1 ds M1 s1 e ⟨d1,d2,k,g⟩ => ?_
 subst k
 obtain⟨v,u,rfl,dv,f⟩:=dens2 e
 exact⟨v,u,rfl,q.nx _ _ _ _ _ s1 (((c.up s1.gg).set dv i).set f j) g⟩
theorem g6(i:Nat)(hN:X.N.Nodup)(h:kg (Γ.set i (some d)) M)(hi:X.N[i]?=some x:=by rfl)(hx:Loc X.env.scope x:=by first|exact K1 rfl|exact Jo rfl)(hf:X.fn x=true\/X.env.scope.names.lookup x=some .local:=by first|exact .inl rfl|exact .inr rfl):GG X (.Name x pos) d Γ M kg:=λσ G H v Q a b e q =>
 sJ (mX hN hi hx hf) (q _ _ _ _ _ (Stp.refl b) (a.set e i) h)
theorem aLB(h:kg Γ M):GGs X [] [] Γ M kg:=λσ G H vs Q en rl e q=>aBN vC ⟨bW e,q _ _ _ _ _ (Stp.refl rl) en h⟩
theorem aG5{tgs:List Expr}(h:GG X tg d Γ M λΓ1 M1=>GGs X tgs ds Γ1 M1 kg)(hs:(assignEach (tg::tgs) X.env).map (·.2)=assign tg X.env::(assignEach tgs X.env).map (·.2):=by rfl):GGs X (tg::tgs) (d::ds) Γ M kg:=λσ G H vs Q b f e q=>by
 refine aBN (oR pUG pUGs hs) ?_
 obtain⟨v,r,ev,g,c⟩:=bN e
 refine⟨v,r,ev,h σ G H v _ b f g λσ1 G1 H1 Γ1 M1 s1 a i => ?_⟩
 exact i σ1 G1 H1 r Q a s1.rel (c.up s1.gg) (q.up s1)
theorem aMA{tgs:List Expr}(hl:ds.length=n)(h:GGs X tgs ds Γ M kg)(hc:X.calm=true:=by rfl)(hn:(assignEach tgs X.env).length=n:=by rfl)(hst:(assignEach tgs X.env).findIdx? (·.1)=none:=by rfl):
  GG X (.Tuple tgs kk pos) (.tup ds) Γ M kg:=λσ G H v Q d c e q=>by
 refine sJ (zO hc pUGs hn hst) ?_
 obtain⟨a,vs,ev,s,b⟩:=e.tup_
 exact⟨a,vs,ev,R.dC c.same s,by rw[<- b.len];exact hl,h σ G H vs Q d c b q⟩
theorem aEW{i:Expr}(h:GE X o Γ M λd1 M1=>GE X i Γ M1 λd2 M2=>∃a n j ds,d1 = .mt a/\d2 = .int n/\M2 a=some (.lst ds)/\ixN ds.length n=some j/\kg Γ (bG M2 a (.lst (ds.set j d))))(ha:∀v,assign (.Subscript o i pos) X.env v=(do
   let ov <- bc [v] (eval o X.env)
   let iv <- bc [v,ov] (eval i X.env)
   lg pos
   bc [v,ov,iv] (K0 ov iv v)
   release [v,ov,iv] []):=by intro _;rfl):GG X (.Subscript o i pos) d Γ M kg:=λσ G H v Q c r e q=>by
 refine sJ (aFC pU pU set_list ha) ?_
 refine h σ G H _ c r λv1 G1 H1 d1 M1 s1 m p => ?_
 refine p σ G1 H1 _ (c.up s1.gg) s1.rel λv2 G2 H2 d2 M2 s2 l ⟨a,n,j,ds,k,g,hm,u,t⟩ => ?_
 subst k g
 obtain⟨_,vs,s,f⟩:=s2.rel.mem _ _ hm
 have b:=s1.trans s2
 exact⟨a,vs,n,j,(m.up s2.gg).mt_,l.int_,s,by rw[<- f.len];exact u,q _ _ _ _ _ (b.trans (s2.rel.wr hm (f.set (e.up b.gg) j))) (c.up b.gg) t⟩
theorem iM(h:GE X e Γ M λ_ M1=>F.nx Γ M1)(hs:bf e none pos.line X.env=pure false:=by rfl):G1 X (.Expr e pos) Γ M F:=λσ G H E a c q =>
 hW (aJS pU hs) (h σ G H _ a c λv G1 H1 d M1 s1 f b=>q.nx _ _ _ _ _ s1 (a.up s1.gg) b)
theorem aT(h:GE X e Γ M F.rt):G1 X (.Return (some e) pos) Γ M F:=λσ G H E en rl q=>hW (aNT pU) (h σ G H _ en rl q.rt)
theorem dE{ss1 ss2:List Stmt}(h:GT X c Γ M λt M1=>if t=true then GS X ss1 Γ M1 F else GS X ss2 Γ M1 F):G1 X (.If c ss1 ss2 pos) Γ M F:=λσ G H E b d q=>by
 refine hW (aPE pUT vB vB) ?_
 refine h σ G H _ b d λt G1 H1 M1 s1 a => ?_
 cases t with
 |true=>rw[if_pos rfl] at a ⊢;exact a σ G1 H1 E (b.up s1.gg) s1.rel (q.up s1)
 |false=>rw[if_neg zBf] at a ⊢;exact a σ G1 H1 E (b.up s1.gg) s1.rel (q.up s1)
theorem pT(P:Gm->Mem->Prop)(h:G1 X st Γ M {F with nx:=P})(h2:∀Γ' M',P Γ' M'->F.nx Γ' M'):G1 X st Γ M F:=λσ G H E b d q=>h σ G H E b d ⟨λσ' G' H' Γ' M' c a e=>q.nx σ' G' H' Γ' M' c a (h2 _ _ e),q.rt,q.bk,q.ct⟩
noncomputable def Loop(X:Cx)(tg:Expr)(body:List Stmt)(Γ:Gm)(F:Fin)(ds:List D)(M:Mem):Prop:=∃I:Nat->Gm->Mem->Prop,I 0 Γ M /\
 (∀i d Γ' M',ds[i]?=some d->I i Γ' M'->GG X tg d Γ' M' λΓ2 M2=>GS X body Γ2 M2 {F with nx:=I (i+1),ct:=I (i+1),bk:=F.nx})/\∀Γ' M',I ds.length Γ' M'->F.nx Γ' M'
theorem iB(h:GI X tg iter Γ M (Loop X tg body Γ F))(hp:QA X.w.4 X.A X.env X.xe:=by exact td)(hc:X.calm=true:=by rfl)(hs:∀x,foldedSetIterable iter X.env x=pure x:=by intro _;rfl):G1 X (.For tg iter body [] pos) Γ M F:=λσ G H E o r q=>by
 refine hW (aMO hp hc pUI pUG vB hs) ?_
 refine h σ G H _ o r λJ G1 H1 ds M1 s1 yd ⟨I,h0,b,g⟩ => ?_
 refine⟨λi m σ' H'=>m=ds.length-i/\i<=ds.length/\∃G' Γ' M',Stp X.K G1 H1 M1 G' H' M'/\EnvR X.K G' Γ' σ'/\I i Γ' M',⟨ds.length,by simp,vq _,G1,Γ,M1,Stp.refl s1.rel,o.up s1.gg,h0⟩,?_⟩
 rintro i m σ2 H2 ⟨rfl,t,G2,Γ2,M2,s2,j,p⟩
 by_cases f:i<ds.length
 ·refine .inr ⟨yd.go i G2 H2 M2 s2.gg s2.rel f,λσ' H'=>∃G' Γ' M',Stp X.K G1 H1 M1 G' H' M'/\EnvR X.K G' Γ' σ'/\I (i+1) Γ' M',λσ' H' z=>⟨ds.length-(i+1),by omega,rfl,f,z⟩,λx H3 y => ?_⟩
  obtain⟨G3,d,s3,hd,ex⟩:=yd.yld i G2 H2 M2 x H3 s2.gg s2.rel f y
  have n:=s2.trans s3
  refine b i d Γ2 M2 hd p σ2 G3 H3 x _ (j.up s3.gg) s3.rel ex λσ4 G4 H4 Γ4 M4 s4 k s => ?_
  have a:=n.trans s4
  refine s σ4 G4 H4 _ k s4.rel ⟨λσ5 G5 H5 Γ5 M5 s5 c l=>⟨G5,Γ5,M5,a.trans s5,c,l⟩,q.rt.up (s1.trans a),q.nx.up (s1.trans a),λσ5 G5 H5 Γ5 M5 s5 c l=>⟨G5,Γ5,M5,a.trans s5,c,l⟩⟩
 ·have e:i=ds.length:=by omega
  subst e
  exact .inl ⟨yd.stop _ G2 H2 M2 s2.gg s2.rel rfl,q.nx _ _ _ _ _ (s1.trans s2) j (g _ _ p)⟩
theorem oF(I:Nat->Gm->Mem->Prop)(h0:I n Γ M)(hs:∀m Γ' M',I m Γ' M'->GT X c Γ' M' λt M1=>if t=true then GS X body Γ' M1 {F with nx:=λΓ2 M2=>∃m',m'<m/\I m' Γ2 M2,ct:=λΓ2 M2=>∃m',m'<m/\I m' Γ2 M2,bk:=F.nx} else F.nx Γ' M1)(hp:QA X.w.4 X.A X.env X.xe:=by exact td):G1 X (.While c body [] pos) Γ M F:=λσ G H E g h q=>by
 refine hW (aIT hp pUT vB) ?_
 refine⟨λm σ' H'=>∃G' Γ' M',Stp X.K G H M G' H' M'/\EnvR X.K G' Γ' σ'/\I m Γ' M',⟨n,G,Γ,M,Stp.refl h,g,h0⟩,?_⟩
 rintro m σ2 H2 ⟨G2,Γ2,M2,s2,d,i⟩
 refine hs m Γ2 M2 i σ2 G2 H2 _ d s2.rel λt G3 H3 M3 s3 e => ?_
 have a:=s2.trans s3
 cases t with
 |true =>
  rw[if_pos rfl] at e ⊢
  refine⟨λσ' H'=>∃m',m'<m/\∃G' Γ' M',Stp X.K G H M G' H' M'/\EnvR X.K G' Γ' σ'/\I m' Γ' M',λσ' H' z=>z,?_⟩
  refine e σ2 G3 H3 _ (d.up s3.gg) s3.rel ⟨λσ5 G5 H5 Γ5 M5 s5 b ⟨m',hm,f⟩=>⟨m',hm,G5,Γ5,M5,a.trans s5,b,f⟩,q.rt.up a,q.nx.up a,λσ5 G5 H5 Γ5 M5 s5 b ⟨m',hm,f⟩=>⟨m',hm,G5,Γ5,M5,a.trans s5,b,f⟩⟩
 |false =>
  rw[if_neg zBf] at e ⊢
  exact q.nx _ _ _ _ _ a (d.up s3.gg) e
end
section
variable {K:Fg}
abbrev cxF(P:Program)(w:World)(K:Fg)(mg:Str->Option Value)(base:Heap)(N:List Str)(x:Str)(st:Stmt)(f:Addr)(cdv:Value)(A:Around)(outer:List Env)(s:Shared)(H:Hp)(E:XK):Cx:=
 (rR CX0 P w K mg base N x (aM st) f cdv A outer s H E).nox
theorem bM{st:Stmt}{ps:List Str}{F:Ct}(Df:R.Df K mg x st ps f fd)(S:FnScope N ps (aM st))(len:∀ds M k,F ds M k->ds.length=ps.length)(h:∀cdv A outer s H E,Room n (cxF P w K mg base N x st f cdv A outer s H E).A->∀ds M k,F ds M k ->
   GS (cxF P w K mg base N x st f cdv A outer s H E) (eE st) (ds.map some++vc (N.length-ds.length) none) M {nx:=λ_ M'=>k .non M',rt:=k}):FnOk P w K mg base CX0 (n+1) f fd ps (spZ K F):=by
 refine Df.F.ok S (λvs H Q E h => ?_) (λcdv A outer s H vs Q E i d => ?_)
 ·obtain⟨G,M,ds,k,e,c,b,_⟩:=h
  rw[<- c.len];exact len _ _ _ b
 ·obtain⟨G,M,ds,k,e,c,b,q⟩:=d
  refine⟨_,vB,?_⟩
  refine h cdv A outer s H E i ds M k b (start N vs) G H _ (EnvR.start c N.length) e ⟨λσ' G' H' Γ' M' g j a=>q _ _ _ _ _ g nA a,q,λ_ _ _ _ _ _ _ a=>a.elim,λ_ _ _ _ _ _ _ a=>a.elim⟩
end
end Z
namespace Z
open PySem L2
mutual
noncomputable def eqD:D->D->Bool
 |.non, .non=>true
 |.bl a, .bl b=>a==b
 |.int a, .int b=>a==b
 |.bl a, .int b=>(if a then 1 else 0)==b
 |.int a, .bl b=>a==(if b then 1 else 0)
 |.str a, .str b=>a==b
 |.tup xs, .tup ys=>eqDs xs ys
 |.lst xs, .lst ys=>eqDs xs ys
 |_,_=>false
noncomputable def eqDs:List D->List D->Bool
 |[],[]=>true
 |x::xs,y::ys=>eqD x y&&eqDs xs ys
 |_,_=>false
end
mutual
noncomputable def okD:Nat->D->Bool
 |_, .non|_, .bl _|_, .int _|_, .str _=>true
 |n+1, .tup ds=>okDs n ds
 |n+1, .lst ds=>okDs n ds
 |_,_=>false
noncomputable def okDs:Nat->List D->Bool
 |_,[]=>true
 |n,d::ds=>okD n d&&okDs n ds
end
mutual
theorem eqD_refl:∀(n:Nat) (d:D),okD n d=true->eqD d d=true
 |_, .non,_=>by simp only[eqD]
 |_, .bl _,_=>by simp only[eqD,beq_self_eq_true]
 |_, .int _,_=>by simp only[eqD,beq_self_eq_true]
 |_, .str _,_=>by simp only[eqD,beq_self_eq_true]
 |n+1, .tup ds,h=>by simp only[okD] at h;simp only[eqD];exact eqDs_refl n ds h
 |n+1, .lst ds,h=>by simp only[okD] at h;simp only[eqD];exact eqDs_refl n ds h
 |0, .tup _,h=>by simp[okD] at h
 |0, .lst _,h=>by simp[okD] at h
 |_, .mt _,h=>by simp[okD] at h
 |_, .fl _,h=>by simp[okD] at h
theorem eqDs_refl:∀(n:Nat) (ds:List D),okDs n ds=true->eqDs ds ds=true
 |_,[],_=>by simp only[eqDs]
 |n,d::ds,h=>by
  simp only[okDs,qn] at h
  simp only[eqDs,eqD_refl n d h.1,eqDs_refl n ds h.2,wo]
end
noncomputable def eqJ(xs ys:List D)(j:Nat):Bool:=match xs[j]?,ys[j]? with
 |some x,some y=>eqD x y
 |_,_=>true
theorem f8:∀(xs ys:List D),((qr (min xs.length ys.length)).all (eqJ xs ys)&&xs.length==ys.length)=eqDs xs ys
 |[],[]=>by simp[eqDs]
 |[],_::_=>by simp[eqDs]
 |_::_,[]=>by simp[eqDs]
 |x::xs,y::ys=>by
  have a:=f8 xs ys
  simp only[eqDs,<- a,qp]
  rw[show min (xs.length+1) (ys.length+1)=min xs.length ys.length+1 by omega,cS,List.all_cons,List.all_map]
  have c:eqJ (x::xs) (y::ys) 0=eqD x y:=rfl
  have b:(eqJ (x::xs) (y::ys)) ∘ Nat.succ=eqJ xs ys:=by funext j;rfl
  rw[c,b,Bool.and_assoc]
  congr 2
  by_cases h:xs.length=ys.length
  ·rw[h];simp
  ·rw[beq_eq_false_iff_ne.mpr h,beq_eq_false_iff_ne.mpr '!']
section
mutual
theorem den_inj(I:Inv X pins σ H s):∀(n:Nat) (d e:D) (v:V),okD n d=true->okD n e=true->Den X.K H d v->Den X.K H e v->d=e
 |n, .non,e,v,h1,h2,x,y=>by
  rw[x.non_] at y
  cases e with
  |non=>rfl
  |bl b=>have:=y.bl_;cases this
  |int b=>have:=y.int_;cases this
  |str b=>have:=y.str_;cases this
  |mt b=>have:=y.mt_;cases this
  |tup b=>obtain⟨_,_,q,_⟩:=y.tup_;cases q
  |lst b=>obtain⟨_,_,q,_⟩:=y.lst_;cases q
  |fl b=>obtain⟨_,_,q,_⟩:=y.fl_;cases q
  |st b=>obtain⟨_,_,_,q,_⟩:=y.st_;cases q
 |n, .bl b,e,v,h1,h2,x,y=>by
  rw[x.bl_] at y
  cases e with
  |non=>have:=y.non_;cases this
  |bl b=>have:=y.bl_;cases this;rfl
  |int b=>have:=y.int_;cases this
  |str b=>have:=y.str_;cases this
  |mt b=>have:=y.mt_;cases this
  |tup b=>obtain⟨_,_,q,_⟩:=y.tup_;cases q
  |lst b=>obtain⟨_,_,q,_⟩:=y.lst_;cases q
  |fl b=>obtain⟨_,_,q,_⟩:=y.fl_;cases q
  |st b=>obtain⟨_,_,_,q,_⟩:=y.st_;cases q
 |n, .int b,e,v,h1,h2,x,y=>by
  rw[x.int_] at y
  cases e with
  |non=>have:=y.non_;cases this
  |bl b=>have:=y.bl_;cases this
  |int b=>have:=y.int_;cases this;rfl
  |str b=>have:=y.str_;cases this
  |mt b=>have:=y.mt_;cases this
  |tup b=>obtain⟨_,_,q,_⟩:=y.tup_;cases q
  |lst b=>obtain⟨_,_,q,_⟩:=y.lst_;cases q
  |fl b=>obtain⟨_,_,q,_⟩:=y.fl_;cases q
  |st b=>obtain⟨_,_,_,q,_⟩:=y.st_;cases q
 |n, .str b,e,v,h1,h2,x,y=>by
  rw[x.str_] at y
  cases e with
  |non=>have:=y.non_;cases this
  |bl b=>have:=y.bl_;cases this
  |int b=>have:=y.int_;cases this
  |str b=>have:=y.str_;cases this;rfl
  |mt b=>have:=y.mt_;cases this
  |tup b=>obtain⟨_,_,q,_⟩:=y.tup_;cases q
  |lst b=>obtain⟨_,_,q,_⟩:=y.lst_;cases q
  |fl b=>obtain⟨_,_,q,_⟩:=y.fl_;cases q
  |st b=>obtain⟨_,_,_,q,_⟩:=y.st_;cases q
 |n, .mt _,_,_,h1,_,_,_=>by simp[okD] at h1
 |n, .fl _,_,_,h1,_,_,_=>by simp[okD] at h1
 |0, .tup _,_,_,h1,_,_,_=>by simp[okD] at h1
 |0, .lst _,_,_,h1,_,_,_=>by simp[okD] at h1
 |n+1, .tup ds,e,v,h1,h2,x,y=>by
  obtain⟨a,vs,rfl,sq,i⟩:=x.tup_
  cases e with
  |non=>have:=y.non_;cases this
  |bl b=>have:=y.bl_;cases this
  |int b=>have:=y.int_;cases this
  |str b=>have:=y.str_;cases this
  |mt b=>simp[okD] at h2
  |fl b=>simp[okD] at h2
  |st b=>simp[okD] at h2
  |tup es =>
   obtain⟨b,ws,q,sq2,c⟩:=y.tup_
   cases q
   rw[<- I.tuple_inj sq sq2] at c
   simp only[okD] at h1 h2
   rw[dens_inj I n ds es vs h1 h2 i c]
  |lst es =>
   obtain⟨b,ws,q,sq2,c⟩:=y.lst_
   cases q
   exfalso
   obtain⟨k,_,pt,_⟩:=I.tuple sq
   obtain⟨h,_,l,_⟩:=I.list (SqL.of sq2)
   obtain⟨o,j,m,_⟩:=pt
   obtain⟨p,r,f,g,_⟩:=l
   rw[j] at f;cases f
   rw[m] at g;exact absurd g '$'
 |n+1, .lst ds,e,v,h1,h2,x,y=>by
  obtain⟨a,vs,rfl,sq,i⟩:=x.lst_
  cases e with
  |non=>have:=y.non_;cases this
  |bl b=>have:=y.bl_;cases this
  |int b=>have:=y.int_;cases this
  |str b=>have:=y.str_;cases this
  |mt b=>simp[okD] at h2
  |fl b=>simp[okD] at h2
  |st b=>simp[okD] at h2
  |lst es =>
   obtain⟨b,ws,q,sq2,c⟩:=y.lst_
   cases q
   rw[sq] at sq2;cases sq2
   simp only[okD] at h1 h2
   rw[dens_inj I n ds es vs h1 h2 i c]
  |tup es =>
   obtain⟨b,ws,q,sq2,c⟩:=y.tup_
   cases q
   exfalso
   obtain⟨k,_,pt,_⟩:=I.tuple sq2
   obtain⟨h,_,l,_⟩:=I.list (SqL.of sq)
   obtain⟨o,j,m,_⟩:=pt
   obtain⟨p,r,f,g,_⟩:=l
   rw[j] at f;cases f
   rw[m] at g;exact absurd g '$'
theorem dens_inj(I:Inv X pins σ H s):∀(n:Nat) (ds es:List D) (vs:List V),okDs n ds=true->okDs n es=true->Dens X.K H ds vs->Dens X.K H es vs->ds=es
 |_,[],es,vs,_,_,x,y=>by
  rw[bW x] at y
  cases es with
  |nil=>rfl
  |cons e es=>obtain⟨_,_,q,_⟩:=bN y;cases q
 |n,d::ds,es,vs,h1,h2,x,y=>by
  obtain⟨v,r,rfl,a,b⟩:=bN x
  cases es with
  |nil=>have:=bW y;cases this
  |cons e es =>
   obtain⟨_,_,q,a2,b2⟩:=bN y
   cases q
   simp only[okDs,qn] at h1 h2
   rw[den_inj I n d e v h1.1 h2.1 a a2,dens_inj I n ds es r h1.2 h2.2 b b2]
end
end
end Z
namespace Z
open PySem L2
section
theorem dS(I:Inv X pins σ H s)(h:Den X.K H (.tup ds) v)(r:RelV v u):∃a its vs,u = .ref a/\s.heap.IsTuple a (JR its)/\Vals vs its/\Dens X.K H ds vs:=by
 obtain⟨a,vs,rfl,sq,c⟩:=h.tup_
 obtain⟨its,b,pt,_⟩:=I.tuple sq
 exact⟨a,its,vs,r,pt,b,c⟩
theorem dW(I:Inv X pins σ H s)(h:Den X.K H (.lst ds) v)(r:RelV v u):∃a its vs,u = .ref a/\s.heap.IsList a (JR its)/\Vals vs its/\Dens X.K H ds vs:=by
 obtain⟨a,vs,rfl,sq,c⟩:=h.lst_
 obtain⟨its,b,pt,_⟩:=I.list (SqL.of sq)
 exact⟨a,its,vs,r,pt.isList,b,c⟩
theorem bZ:∀{n:Nat}{ds:List D}{j:Nat}{d:D},okDs n ds=true->ds[j]?=some d->okD n d=true
 |_,[],_,_,_,e=>by simp at e
 |n,d0::ds,0,d,h,e=>by simp at e;subst e;simp only[okDs,qn] at h;exact h.1
 |n,d0::ds,j+1,d,h,e=>by simp only[okDs,qn] at h;exact bZ (j:=j) h.2 (by simpa using e)
theorem eS{vs:List V}(dn:Dens X.K H ds vs)(rv:Vals vs its)(h:j<its.toArray.size):∃d v,ds[j]?=some d/\Den X.K H d v/\RelV v its.toArray[j]:=by
 obtain⟨v,a,r1⟩:=vA rv h
 obtain⟨d,b,q⟩:=dn.get' a
 exact⟨d,v,b,q,r1⟩
mutual
theorem eqAt_D(I:Inv X pins σ H s):∀(d:D) (n:Nat) (e:D) (v u:V) (v' u':Value) (A:Around),okD n d=true->okD n e=true->Den X.K H d v->Den X.K H e u->RelV v v'->RelV u u'->A.units+n<cLine->Qg A s v' u' (eqD d e)
 |.non,n,e,v,u,v',u',A,h1,h2,x,y,rx,ry,hu=>by
  rw[x.non_] at rx;cases (show v'=wu from rx)
  cases e with
  |non=>rw[y.non_] at ry;cases (show u'=wu from ry);simp only[eqD];exact fh _
  |bl b=>rw[y.bl_] at ry;cases (show u'=k5 b from ry);simp only[eqD];exact Vz b
  |int b=>rw[y.int_] at ry;obtain⟨t,rfl⟩:=ry;simp only[eqD];exact Vy b t
  |str b=>rw[y.str_] at ry;obtain⟨t,rfl⟩:=ry;simp only[eqD];exact Vw b t
  |mt b=>simp[okD] at h2
  |fl b=>simp[okD] at h2
  |st b=>simp[okD] at h2
  |tup es=>obtain⟨a,f,vs,rfl,it,_⟩:=dS I y ry;simp only[eqD];exact Vv it '#'
  |lst es=>obtain⟨a,f,vs,rfl,it,_⟩:=dW I y ry;simp only[eqD];exact Vx it '#'
 |.bl c,n,e,v,u,v',u',A,h1,h2,x,y,rx,ry,hu=>by
  rw[x.bl_] at rx;cases (show v'=k5 c from rx)
  cases e with
  |non=>rw[y.non_] at ry;cases (show u'=wu from ry);simp only[eqD];exact VN c
  |bl b=>rw[y.bl_] at ry;cases (show u'=k5 b from ry);simp only[eqD];exact md c b
  |int b=>rw[y.int_] at ry;obtain⟨t,rfl⟩:=ry;simp only[eqD];exact VP c b t
  |str b=>rw[y.str_] at ry;obtain⟨t,rfl⟩:=ry;simp only[eqD];exact VM c b t
  |mt b=>simp[okD] at h2
  |fl b=>simp[okD] at h2
  |st b=>simp[okD] at h2
  |tup es=>obtain⟨a,f,vs,rfl,it,_⟩:=dS I y ry;simp only[eqD];exact VL c it '#'
  |lst es=>obtain⟨a,f,vs,rfl,it,_⟩:=dW I y ry;simp only[eqD];exact VO c it '#'
 |.int c,n,e,v,u,v',u',A,h1,h2,x,y,rx,ry,hu=>by
  rw[x.int_] at rx;obtain⟨t0,rfl⟩:=rx
  cases e with
  |non=>rw[y.non_] at ry;cases (show u'=wu from ry);simp only[eqD];exact VG c t0
  |bl b=>rw[y.bl_] at ry;cases (show u'=k5 b from ry);simp only[eqD];exact VJ c t0 b
  |int b=>rw[y.int_] at ry;obtain⟨t,rfl⟩:=ry;simp only[eqD];exact VI c t0 b t
  |str b=>rw[y.str_] at ry;obtain⟨t,rfl⟩:=ry;simp only[eqD];exact m5 c t0 b t
  |mt b=>simp[okD] at h2
  |fl b=>simp[okD] at h2
  |st b=>simp[okD] at h2
  |tup es=>obtain⟨a,f,vs,rfl,it,_⟩:=dS I y ry;simp only[eqD];exact VF c t0 it '#'
  |lst es=>obtain⟨a,f,vs,rfl,it,_⟩:=dW I y ry;simp only[eqD];exact VH c t0 it '#'
 |.str c,n,e,v,u,v',u',A,h1,h2,x,y,rx,ry,hu=>by
  rw[x.str_] at rx;obtain⟨t0,rfl⟩:=rx
  cases e with
  |non=>rw[y.non_] at ry;cases (show u'=wu from ry);simp only[eqD];exact Vs c t0
  |bl b=>rw[y.bl_] at ry;cases (show u'=k5 b from ry);simp only[eqD];exact Vu c t0 b
  |int b=>rw[y.int_] at ry;obtain⟨t,rfl⟩:=ry;simp only[eqD];exact m3 c t0 b t
  |str b=>rw[y.str_] at ry;obtain⟨t,rfl⟩:=ry;simp only[eqD];exact mB c t0 b t
  |mt b=>simp[okD] at h2
  |fl b=>simp[okD] at h2
  |st b=>simp[okD] at h2
  |tup es=>obtain⟨a,f,vs,rfl,it,_⟩:=dS I y ry;simp only[eqD];exact Vr c t0 it '#'
  |lst es=>obtain⟨a,f,vs,rfl,it,_⟩:=dW I y ry;simp only[eqD];exact Vt c t0 it '#'
 |.mt _,n,_,_,_,_,_,_,h1,_,_,_,_,_,_=>by simp[okD] at h1
 |.fl _,n,_,_,_,_,_,_,h1,_,_,_,_,_,_=>by simp[okD] at h1
 |.st _,n,_,_,_,_,_,_,h1,_,_,_,_,_,_=>by simp[okD] at h1
 |.tup ds,0,_,_,_,_,_,_,h1,_,_,_,_,_,_=>by simp[okD] at h1
 |.lst ds,0,_,_,_,_,_,_,h1,_,_,_,_,_,_=>by simp[okD] at h1
 |.tup ds,n+1,e,v,u,v',u',A,h1,h2,x,y,rx,ry,hu=>by
  obtain⟨a,f,vs,rfl,it,w,o⟩:=dS I x rx
  cases e with
  |non=>rw[y.non_] at ry;cases (show u'=wu from ry);simp only[eqD];exact Vn it '#'
  |bl b=>rw[y.bl_] at ry;cases (show u'=k5 b from ry);simp only[eqD];exact Vq b it '#'
  |int b=>rw[y.int_] at ry;obtain⟨t,rfl⟩:=ry;simp only[eqD];exact Vp b t it '#'
  |str b=>rw[y.str_] at ry;obtain⟨t,rfl⟩:=ry;simp only[eqD];exact Vm b t it '#'
  |mt b=>simp[okD] at h2
  |fl b=>simp[okD] at h2
  |st b=>simp[okD] at h2
  |lst es=>obtain⟨b,g,q,rfl,h,_⟩:=dW I y ry;simp only[eqD];exact Vo it h '#'
  |tup es =>
   obtain⟨b,g,q,rfl,h,k,i⟩:=dS I y ry
   have C:okDs n ds=true:=by simpa only[okD] using h1
   have L:okDs n es=true:=by simpa only[okD] using h2
   by_cases l:a=b
   ·subst l
    have E:D.tup ds=D.tup es:=den_inj I (n+1) _ _ v h1 h2 x (by
     have:v=u:=by
      obtain⟨_,_,m,_⟩:=x.tup_
      obtain⟨_,_,B,_⟩:=y.tup_
      rw[m] at rx;rw[B] at ry
      cases rx;cases ry;rw[m,B]
     rw[this];exact y)
    rw[<- E,eqD_refl (n+1) _ h1]
    exact fh _
   ·have:=nj (A:=A) (s:=s) (e:=eqJ ds es) it h '#' (λj g1 g2=>by
     obtain⟨c,v1,p,F,r1⟩:=eS o w g1
     obtain⟨G,v2,z,J,r2⟩:=eS i k g2
     have:=eqAts_D I ds n j c p G v1 v2 _ _ A.in1 (bZ C p) (bZ L z) F J r1 r2 (by show A.units+1+n<cLine;lia)
     unfold eqJ;rw[p,z];exact this)
    rw[qb,qb,<- w.length,<- k.length,<- o.len,<- i.len,f8] at this
    simp only[eqD]
    exact m4 l this
 |.lst ds,n+1,e,v,u,v',u',A,h1,h2,x,y,rx,ry,hu=>by
  obtain⟨a,f,vs,rfl,it,w,o⟩:=dW I x rx
  cases e with
  |non=>rw[y.non_] at ry;cases (show u'=wu from ry);simp only[eqD];exact VC it '#'
  |bl b=>rw[y.bl_] at ry;cases (show u'=k5 b from ry);simp only[eqD];exact VE b it '#'
  |int b=>rw[y.int_] at ry;obtain⟨t,rfl⟩:=ry;simp only[eqD];exact VD b t it '#'
  |str b=>rw[y.str_] at ry;obtain⟨t,rfl⟩:=ry;simp only[eqD];exact VB b t it '#'
  |mt b=>simp[okD] at h2
  |fl b=>simp[okD] at h2
  |st b=>simp[okD] at h2
  |tup es=>obtain⟨b,g,q,rfl,h,_⟩:=dS I y ry;simp only[eqD];exact VA it h '#'
  |lst es =>
   obtain⟨b,g,q,rfl,h,k,i⟩:=dW I y ry
   have C:okDs n ds=true:=by simpa only[okD] using h1
   have L:okDs n es=true:=by simpa only[okD] using h2
   by_cases l:a=b
   ·subst l
    have E:D.lst ds=D.lst es:=den_inj I (n+1) _ _ v h1 h2 x (by
     have:v=u:=by
      obtain⟨_,_,m,_⟩:=x.lst_
      obtain⟨_,_,B,_⟩:=y.lst_
      rw[m] at rx;rw[B] at ry
      cases rx;cases ry;rw[m,B]
     rw[this];exact y)
    rw[<- E,eqD_refl (n+1) _ h1]
    exact fh _
   ·simp only[eqD]
    refine m4 l ?_
    by_cases hl:ds.length=es.length
    ·have r:f.toArray.size=g.toArray.size:=by rw[qb,qb,<- w.length,<- k.length,<- o.len,<- i.len,hl]
     have:=pf (A:=A) (s:=s) (e:=eqJ ds es) it h r '#' (λj g1 g2=>by
      obtain⟨c,v1,p,F,r1⟩:=eS o w g1
      obtain⟨G,v2,z,J,r2⟩:=eS i k g2
      have:=eqAts_D I ds n j c p G v1 v2 _ _ A.in1 (bZ C p) (bZ L z) F J r1 r2 (by show A.units+1+n<cLine;lia)
      unfold eqJ;rw[p,z];exact this)
     have m:=f8 ds es
     rw[<- hl,se,beq_self_eq_true,wo] at m
     rw[qb,<- w.length,<- o.len,m] at this
     exact this
    ·have r:(f.toArray.size != g.toArray.size)=true:=by rw[bne_iff_ne,qb,qb,<- w.length,<- k.length,<- o.len,<- i.len];exact hl
     have m:=f8 ds es
     rw[beq_eq_false_iff_ne.mpr hl,xi] at m
     rw[<- m]
     exact f3 it h r '#'
theorem eqAts_D(I:Inv X pins σ H s):∀(ds:List D) (n j:Nat) (d:D),ds[j]?=some d->∀(e:D) (v u:V) (v' u':Value) (A:Around),okD n d=true->okD n e=true->Den X.K H d v->Den X.K H e u->RelV v v'->RelV u u'->A.units+n<cLine->Qg A s v' u' (eqD d e)
 |[],_,_,_,q=>by simp at q
 |d0::ds,n,0,d,q=>by
  simp at q;subst q
  exact λe v u v' u' A=>eqAt_D I d0 n e v u v' u' A
 |d0::ds,n,j+1,d,q=>eqAts_D I ds n j d (by simpa using q)
end
inductive Disp:D->Prop
 |tup (ds:List D):Disp (.tup ds)
 |lst (ds:List D):Disp (.lst ds)
inductive Rs(M:Mem):D->D->Prop
 |tup (ds:List D):Rs M (.tup ds) (.tup ds)
 |lst (ds:List D):Rs M (.lst ds) (.lst ds)
 |mt {a:Addr}{ds:List D} (h:M a=some (.lst ds)):Rs M (.mt a) (.lst ds)
theorem Rs.disp{e:D}(h:Rs M d e):Disp e:=by cases h <;> constructor
theorem Rs.den{K:Fg}{H:Hp}{e:D}(h:Rs M d e)(rl:Rel K G H M)(q:Den K G d v):Den K H e v:=by
 cases h with
 |tup ds=>exact q.up rl.same
 |lst ds=>exact q.up rl.same
 |mt hm =>
  obtain⟨_,vs,a,b⟩:=rl.mem _ _ hm
  rw[q.mt_];exact jQ a (b.up rl.same)
noncomputable def aCZ(K:Fg)(n:Nat)(neg:Bool):R2:=λx y H Q=>∃d e,Disp d/\Disp e/\okD n d=true/\okD n e=true/\Den K H d x/\Den K H e y/\Q (.bl (if neg then !eqD d e else eqD d e)) H
theorem rc_D(I:Inv X pins σ H s){e:D}{u:V}{v' u':Value}(A:Around)(g1:Disp d)(g2:Disp e)(h1:okD n d=true)(h2:okD n e=true)(x:Den X.K H d v)(y:Den X.K H e u)(rx:RelV v v')(ry:RelV u u')(hu:A.units+n<cLine):SeqAt.RcAt A s v' u' (eqD d e):=by
 cases g1 with
 |tup ds =>
  obtain⟨a,p,vs,rfl,it,m,l⟩:=dS I x rx
  cases g2 with
  |lst es=>obtain⟨b,g,o,rfl,f,_⟩:=dW I y ry;simp only[eqD];exact Vk it f '#'
  |tup es =>
   obtain⟨b,g,o,rfl,f,i,h⟩:=dS I y ry
   cases n with
   |zero=>simp[okD] at h1
   |succ n =>
    have w:okDs n ds=true:=by simpa only[okD] using h1
    have z:okDs n es=true:=by simpa only[okD] using h2
    have:=nj (A:=A) (s:=s) (e:=eqJ ds es) it f '#' (λj g1 g2=>by
     obtain⟨c,v1,r,C,r1⟩:=eS l m g1
     obtain⟨B,v2,q,E,r2⟩:=eS h i g2
     have:=eqAt_D I c n B v1 v2 _ _ A.in1 (bZ w r) (bZ z q) C E r1 r2 (by show A.units+1+n<cLine;lia)
     unfold eqJ;rw[r,q];exact this)
    rw[qb,qb,<- m.length,<- i.length,<- l.len,<- h.len,f8] at this
    simp only[eqD];exact this
 |lst ds =>
  obtain⟨a,p,vs,rfl,it,m,l⟩:=dW I x rx
  cases g2 with
  |tup es=>obtain⟨b,g,o,rfl,f,_⟩:=dS I y ry;simp only[eqD];exact Vl it f '#'
  |lst es =>
   obtain⟨b,g,o,rfl,f,i,h⟩:=dW I y ry
   cases n with
   |zero=>simp[okD] at h1
   |succ n =>
    have w:okDs n ds=true:=by simpa only[okD] using h1
    have z:okDs n es=true:=by simpa only[okD] using h2
    simp only[eqD]
    by_cases hl:ds.length=es.length
    ·have k:p.toArray.size=g.toArray.size:=by rw[qb,qb,<- m.length,<- i.length,<- l.len,<- h.len,hl]
     have:=pf (A:=A) (s:=s) (e:=eqJ ds es) it f k '#' (λj g1 g2=>by
      obtain⟨c,v1,r,C,r1⟩:=eS l m g1
      obtain⟨B,v2,q,E,r2⟩:=eS h i g2
      have:=eqAt_D I c n B v1 v2 _ _ A.in1 (bZ w r) (bZ z q) C E r1 r2 (by show A.units+1+n<cLine;lia)
      unfold eqJ;rw[r,q];exact this)
     have t:=f8 ds es
     rw[<- hl,se,beq_self_eq_true,wo] at t
     rw[qb,<- m.length,<- l.len,t] at this
     exact this
    ·have k:(p.toArray.size != g.toArray.size)=true:=by rw[bne_iff_ne,qb,qb,<- m.length,<- i.length,<- l.len,<- h.len];exact hl
     have t:=f8 ds es
     rw[beq_eq_false_iff_ne.mpr hl,xi] at t
     rw[<- t]
     exact f3 it f k '#'
end
section
theorem nJ(hu:X.A.units+n<cLine):OpR X (wa .Eq) (aCZ X.K n false):=by
 intro pins s σ H x y v u Q I c i h
 obtain⟨d,e,g1,g2,a,g,f,b,q⟩:=h
 exact rc_D I X.A g1 g2 a g f b c i hu X.prog X.w X.xe _ ⟨.bl (eqD d e),H,I,rfl,q⟩
theorem nG{K:Fg}{e1 e2:D}(r1:Rs M d1 e1)(r2:Rs M d2 e2)(h1:okD n e1=true)(h2:okD n e2=true)(h:k (.bl (eqD e1 e2)) M):Op2 K (aCZ K n false) d1 d2 M k:=λG H v1 v2 Q a x y q =>
 ⟨e1,e2,r1.disp,r2.disp,h1,h2,r1.den a x,r2.den a y,q _ _ _ _ _ (Stp.refl a) dG h⟩
end
end Z
namespace Z
open PySem L2
mutual
noncomputable def toPy:D->PyData
 |.non => .none
 |.bl b => .bool b
 |.int i => .int i
 |.str x => .str x
 |.tup ds => .tuple (toPys ds)
 |.lst ds => .list (toPys ds)
 |.mt _ => .none
 |.fl _ => .none
 |.st _ => .none
noncomputable def toPys:List D->List PyData
 |[]=>[]
 |d::ds=>toPy d::toPys ds
end
mutual
theorem depth_le:∀(d:D) (n:Nat),okD n d=true->(toPy d).depth<=n
 |.non,_,_=>by simp[toPy,zp]
 |.bl _,_,_=>by simp[toPy,zp]
 |.int _,_,_=>by simp[toPy,zp]
 |.str _,_,_=>by simp[toPy,zp]
 |.mt _,n,h=>by simp[okD] at h
 |.fl _,n,h=>by simp[okD] at h
 |.st _,n,h=>by simp[okD] at h
 |.tup ds,0,h=>by simp[okD] at h
 |.lst ds,0,h=>by simp[okD] at h
 |.tup ds,n+1,h=>by
  simp only[toPy,zp]
  have:=depths_le ds n (by simpa only[okD] using h)
  omega
 |.lst ds,n+1,h=>by
  simp only[toPy,zp]
  have:=depths_le ds n (by simpa only[okD] using h)
  omega
theorem depths_le:∀(ds:List D) (n:Nat),okDs n ds=true->gi (toPys ds)<=n
 |[],_,_=>by simp[toPys,gi]
 |d::ds,n,h=>by
  simp only[okDs,qn] at h
  simp only[toPys,gi]
  have a:=depth_le d n h.1
  have b:=depths_le ds n h.2
  omega
end
mutual
theorem noDict:∀(d:D),(toPy d).hasDict=false
 |.non=>by simp only[toPy,w8]
 |.bl _=>by simp only[toPy,w8]
 |.int _=>by simp only[toPy,w8]
 |.str _=>by simp only[toPy,w8]
 |.mt _=>by simp only[toPy,w8]
 |.fl _=>by simp only[toPy,w8]
 |.st _=>by simp only[toPy,w8]
 |.tup ds=>by simp only[toPy,w8];exact noDicts ds
 |.lst ds=>by simp only[toPy,w8];exact noDicts ds
theorem noDicts:∀(ds:List D),fi (toPys ds)=false
 |[]=>by simp only[toPys,fi]
 |d::ds=>by simp only[toPys,fi,noDict d,noDicts ds,JA]
end
section
mutual
theorem reads_D(I:Inv X pins σ H s):∀(d:D) (n:Nat) (v:V) (u:Value),okD n d=true->Den X.K H d v->RelV v u->∃as,Reads s.heap u (toPy d) as
 |.non,_,v,u,_,x,r=>by rw[x.non_] at r;cases (show u=wu from r);exact⟨_,by simp only[toPy];exact .none⟩
 |.bl b,_,v,u,_,x,r=>by rw[x.bl_] at r;cases (show u=k5 b from r);exact⟨_,by simp only[toPy];exact .bool b⟩
 |.int b,_,v,u,_,x,r=>by rw[x.int_] at r;obtain⟨t,rfl⟩:=r;exact⟨_,by simp only[toPy];exact .int b t⟩
 |.str b,_,v,u,_,x,r=>by rw[x.str_] at r;obtain⟨t,rfl⟩:=r;exact⟨_,by simp only[toPy];exact .str b t⟩
 |.mt _,n,_,_,h,_,_=>by simp[okD] at h
 |.fl _,n,_,_,h,_,_=>by simp[okD] at h
 |.st _,n,_,_,h,_,_=>by simp[okD] at h
 |.tup ds,0,_,_,h,_,_=>by simp[okD] at h
 |.lst ds,0,_,_,h,_,_=>by simp[okD] at h
 |.tup ds,n+1,v,u,h,x,r=>by
  obtain⟨a,c,vs,rfl,⟨o,g,e,m,j⟩,i,f⟩:=dS I x r
  obtain⟨as,q⟩:=readss_D I ds n vs c (by simpa only[okD] using h) f i
  exact⟨as,by simp only[toPy];exact .tuple g e j (by simpa using q)⟩
 |.lst ds,n+1,v,u,h,x,r=>by
  obtain⟨a,c,vs,rfl,⟨o,g,e,m,j⟩,i,f⟩:=dW I x r
  obtain⟨as,q⟩:=readss_D I ds n vs c (by simpa only[okD] using h) f i
  exact⟨a::as,by simp only[toPy];exact .list g e j (by simpa using q)⟩
theorem readss_D(I:Inv X pins σ H s):∀(ds:List D) (n:Nat) (vs:List V) (us:List Value),okDs n ds=true->Dens X.K H ds vs->Vals vs us->∃as,ReadsAll s.heap us (toPys ds) as
 |[],_,vs,us,_,x,r=>by
  rw[bW x] at r
  cases r
  exact⟨[],by simp only[toPys];exact .nil⟩
 |d::ds,n,vs,us,h,x,r=>by
  obtain⟨v,t,rfl,a,b⟩:=bN x
  cases r with
  |cons r1 r2 =>
   simp only[okDs,qn] at h
   obtain⟨as,q⟩:=reads_D I d n v _ h.1 a r1
   obtain⟨bs,c⟩:=readss_D I ds n t _ h.2 b r2
   exact⟨as++bs,by simp only[toPys];exact .cons q c⟩
end
end
section
theorem aLX{x y:Value}(h:(x==y)=true):x=y:=eq_of_beq h
noncomputable def eOf(ds:List D)(its:List Value)(c:D)(y:Value):Bool:=match (its.zip ds).find? (λp=>p.1==y) with
 |some p=>eqD p.2 c
 |none=>false
theorem pS(I:Inv X pins σ H s){vs:List V}(ok:okDs n ds=true)(dn:Dens X.K H ds vs)(rv:Vals vs its){c:D}{y:Value}(hy:its[j]?=some y)(hd:ds[j]?=some d):eOf ds its c y=eqD d c:=by
 unfold eOf
 have hl:its.length=ds.length:=by rw[dn.len,rv.length]
 have k:(its.zip ds)[j]?=some (y,d):=by rw[vd];exact⟨hy,hd⟩
 cases hf:(its.zip ds).find? (λp=>p.1==y) with
 |none =>
  have:=List.find?_eq_none.mp hf (y,d) (zMo k)
  exact absurd '$' this
 |some p =>
  have e:=List.find?_some hf
  have q:=List.mem_of_find?_eq_some hf
  obtain⟨i,h⟩:=vr q
  obtain⟨a1,a2⟩:=vd.mp (show (its.zip ds)[i]?=some (p.1,p.2) from h)
  have o:p.1=y:=aLX e
  rw[o] at a1
  obtain⟨v1,g,m⟩:=dn.get a2
  obtain⟨v2,f,l⟩:=dn.get hd
  obtain⟨r,b,r1⟩:=rv.get g
  obtain⟨t,a,r2⟩:=rv.get f
  rw[a1] at b;cases b
  rw[hy] at a;cases a
  have:v1=v2:=r1.inj r2
  subst this
  show eqD p.2 c=eqD d c
  rw[den_inj I n p.2 d v1 (bZ ok a2) (bZ ok hd) m l]
theorem qL(I:Inv X pins σ H s){vs:List V}(ok:okDs n ds=true)(dn:Dens X.K H ds vs)(rv:Vals vs its)(c:D):its.toArray.any (eOf ds its c)=ds.any λd=>eqD d c:=by
 have hl:its.length=ds.length:=by rw[dn.len,rv.length]
 rw[List.any_toArray]
 rw[zl,QR,QR]
 constructor
 ·rintro⟨y,f,e⟩
  obtain⟨j,b⟩:=vr f
  have a:j<ds.length:=by rw[<- hl];exact (zGs b).1
  rw[pS I ok dn rv b (zGe a)] at e
  exact⟨_,je a,e⟩
 ·rintro⟨d,hd,e⟩
  obtain⟨j,b⟩:=vr hd
  have a:j<its.length:=by rw[hl];exact (zGs b).1
  refine⟨its[j],je a,?_⟩
  rw[pS I ok dn rv (zGe a) b]
  exact e
noncomputable def aDO(K:Fg)(n:Nat)(neg:Bool):R2:=λx y H Q=>∃c d ds,(d = .tup ds\/d = .lst ds)/\okD n c=true/\okDs n ds=true/\Den K H c x/\Den K H d y/\Q (.bl (if neg then !(ds.any λe=>eqD e c) else ds.any λe=>eqD e c)) H
theorem aNU(hu:X.A.units+(n+1)<cLine):OpR X (wa .In) (aDO X.K n false):=by
 intro pins s σ H x y v u Q I B D h
 obtain⟨c,d,ds,hd,o,f,C,z,q⟩:=h
 rcases hd with rfl|rfl
 ·obtain⟨a,b,vs,rfl,it,l,i⟩:=dS I z D
  refine SeqAt.in_tupleAt (eOf ds b c) it (λy p => ?_) ?_
  ·obtain⟨j,g⟩:=vr (show y∈b by simpa using p)
   obtain⟨r,k,r1⟩:∃w,vs[j]?=some w/\RelV w y:=by
    obtain⟨w,k,r1⟩:=vA l (j:=j) (by rw[qb];exact (zGs g).1)
    refine⟨w,k,?_⟩
    have:b.toArray[j]'(by rw[qb];exact (zGs g).1)=y:=by
     have:=(zGs g).2
     simpa using this
    rw[<- this];exact r1
   obtain⟨e,m,t⟩:=i.get' k
   rw[pS I f i l g m]
   exact eqAt_D I e n c r x y v X.A.in1 (bZ f m) o t C r1 B (by show X.A.units+1+n<cLine;omega)
  ·rw[qL I f i l]
   exact⟨.bl _,H,I,rfl,q⟩
 ·obtain⟨a,b,vs,rfl,it,l,i⟩:=dW I z D
  refine SeqAt.in_listAt (eOf ds b c) it (λy p => ?_) ?_
  ·obtain⟨j,g⟩:=vr (show y∈b by simpa using p)
   obtain⟨r,k,r1⟩:∃w,vs[j]?=some w/\RelV w y:=by
    obtain⟨w,k,r1⟩:=vA l (j:=j) (by rw[qb];exact (zGs g).1)
    refine⟨w,k,?_⟩
    have:b.toArray[j]'(by rw[qb];exact (zGs g).1)=y:=by
     have:=(zGs g).2
     simpa using this
    rw[<- this];exact r1
   obtain⟨e,m,t⟩:=i.get' k
   rw[pS I f i l g m]
   exact eqAt_D I e n c r x y v X.A.in1 (bZ f m) o t C r1 B (by show X.A.units+1+n<cLine;omega)
  ·rw[qL I f i l]
   exact⟨.bl _,H,I,rfl,q⟩
end
end Z
namespace PySem
open Sem (wp)
open AutoSeq1 (wpAny_loadPart')
section
variable {E:Value->Shared->Prop}
theorem zR{iq:Addr}{its}{x:Value}{Q:Value->Shared->Prop}(hI:s.heap.IsTupleIter iq tu i)(hT:s.heap.IsTuple tu its)(hq:its[i]?=some x)(kQ:∀h',h'.IsTupleIter iq tu (i+1)->xr iq s.heap h'->Q x {s with heap:=h' }):wpAny (jt prog w) A (kj (.ref iq)) Q E s:=by
 obtain⟨f,b,e,a⟩:=id hI
 obtain⟨h,d,_,g,c⟩:=hT
 unfold kj
 refine qa (k4 (name:=ja "__next__") hI.typeIs ym (v3 ym hI.typeIs ng ?_ (mr _)))
 show wpAny _ _ (JE (.ref iq) 0 >>= _) _ _ s
 refine qa (wc b a (x := .ref tu) rfl ?_)
 show wpAny _ _ (if (wj tu==wu)=true then _ else _) _ _ s
 rw[if_neg (show ¬((wj tu==wu)=true) from zBf)]
 show wpAny _ _ (JE (.ref iq) 1 >>= _) _ _ s
 refine qa (wc b a (x := .int i 0) rfl ?_)
 show wpAny _ _ (seqItems? (.ref tu) >>= _) _ _ s
 refine qa (y0 d c ?_)
 simp only[qi,hq]
 refine qa (fq b a '$' ⟨x,rfl,wpAny_pure (kQ _ ?_ (jz ..))⟩.5)
 exact⟨_,xg _ b (tf (z9 a _)),(QK ..).trans e,by rw[z9 a];simp[rawInt]⟩
theorem aA7{iq:Addr}{its}{Q:Value->Shared->Prop}(hh:A.handled=none)(hI:s.heap.IsTupleIter iq tu i)(hT:s.heap.IsTuple tu its)(hq:its[i]?=none)(kE:∀h' e,Ke iq s.heap h'->(∃o,h'.get? e=some o/\o.cls = .type "StopIteration")->E (.ref e) {s with heap:=h' }):wpAny (jt prog w) A (kj (.ref iq)) Q E s:=by
 obtain⟨g,b,k,c⟩:=id hI
 obtain⟨j,f,_,h,d⟩:=hT
 unfold kj
 refine qa (k4 (name:=ja "__next__") hI.typeIs ym (v3 ym hI.typeIs ng ?_ (mr _)))
 show wpAny _ _ (JE (.ref iq) 0 >>= _) _ _ s
 refine qa (wc b c (x := .ref tu) rfl ?_)
 show wpAny _ _ (if (wj tu==wu)=true then _ else _) _ _ s
 rw[if_neg (show ¬((wj tu==wu)=true) from zBf)]
 show wpAny _ _ (JE (.ref iq) 1 >>= _) _ _ s
 refine qa (wc b c (x := .int i 0) rfl ?_)
 show wpAny _ _ (seqItems? (.ref tu) >>= _) _ _ s
 refine qa (y0 f d ?_)
 simp only[qi,hq]
 refine qa (de (qa (fq b c '$' ?_)))
 show wpAny _ _ ((newExc (.type "StopIteration") []) >>= _) _ _ _
 refine qa ?_
 simp only[newExc,newTuple]
 refine (qa (j0 ?_ (by size_fits)))
 refine qa (m:=rq _ _) (Jb (a:=wu) (by first|rfl|(simp only[rq];rfl)|skip) ?_)
 refine (j0 ?_ (by size_fits))
 simp only[raiseNew]
 refine qa (wpAny_handled ?_)
 first|rw[show (A.in1).handled=none from hh]|rw[hh]
 refine (qa (wpAny_throw ?_).5)
 exact kE _ _ (((jz ..).extBut.push _).push _) ⟨_,qu _ rfl,rfl⟩
end
theorem Draws.tup(hh:A.handled=none)(iq tu:Addr)(hne:tu≠iq)(its:Array Value):
  JH prog w A iq [iq,tu] its.size (λi v=>its[i]?=some v) (λi h=>h.IsTupleIter iq tu i/\h.IsTuple tu its) where
 live:=λ_ _ q=>let ⟨o,ho,_⟩:=q.1;⟨o,ho⟩
 frame:=λ_ _ _ q c=>⟨let ⟨o,ho,r⟩:=q.1;⟨o,c iq '$' o ho,r⟩,let ⟨o,ho,r⟩:=q.2;⟨o,c tu '$' o ho,r⟩⟩
 item:=λi s Q E d q f=>by
  refine zR q.1 q.2 (x:=its[i]) (by simp[d]) λg b a => ?_
  exact f _ g s.toks (by simp[d]) ⟨b,let ⟨o,ho,r⟩:=q.2;⟨o,(a.2 tu hne).trans ho,r⟩⟩ a
 done:=λs Q E q e=>aA7 hh q.1 q.2 '$' e
theorem aER(tu:Addr)(its:Array Value)(n:Nat)(dct:Option Addr)(sl:Array (Option Value)):
  Meets (Builtin.«enumerate.__new__» ⟨[.type "enumerate", .ref tu],[]⟩) (λ_ R s=>s.heap.get? tu=some {cls := .type "tuple", dict:=dct,data := .seq its n,slots:=sl} /\
   R (.ok (.ret (.ref (s.heap.push {cls := .type "tuple_iterator", data := .fields #[.ref tu, .int 0 0]}).objs.size)))
    {s with heap:=(s.heap.push {cls := .type "tuple_iterator", data := .fields #[.ref tu, .int 0 0]}).push {cls := .type "enumerate", data := .fields #[.none, .bool false, .ref s.heap.objs.size,rawInt 0, .none, .none]} }):=
 .of_wp λprog w A R s b=>by
  obtain⟨f,g,d,tk,os⟩:=s;obtain⟨hl,b⟩:=b
  have e:=sub_enumerate
  have a:Heap.IsTuple (Shared.heap ⟨f,g,d,tk,os⟩) tu its:=⟨_,hl,rfl,n,rfl⟩
  wp_walk using d6 hl
  refine wpAny_stack_any λst=>wpAny_pure ?_
  split
  ·rename_i c _ _ _ _ _
   cases (c==Qf "enumerate")
   ·wp_walk using d6 hl,wpAny_pyIter_tuple a
    exact⟨_,rfl,b⟩
   ·wp_walk using d6 hl,wpAny_pyIter_tuple a
    exact⟨_,rfl,b⟩
  ·wp_walk using d6 hl,wpAny_pyIter_tuple a
   exact⟨_,rfl,b⟩
section
variable {E:Value->Shared->Prop}
theorem aDN{its:Array Value}{Q:Value->Shared->Prop}(hT:s.heap.IsTuple tu its)(kQ:∀h',IsEnum h' (s.heap.objs.size+1) s.heap.objs.size 0 .none->h'.IsTupleIter s.heap.objs.size tu 0->h'.objs.size=s.heap.objs.size+2 ->
   (∀b o,s.heap.get? b=some o->h'.get? b=some o)->Q (.ref (s.heap.objs.size+1)) {s with heap:=h' }):wpAny (jt prog w) A (call (.type "enumerate") [.ref tu]) Q E s:=by
 obtain⟨⟨c,f,h,i⟩,hl,g,n,hd⟩:=hT
 have e:c = .type "tuple" := g
 have a:h = .seq its n:=hd
 subst e a
 refine callType_new F.called_enumerate (by decide) (F.typeCall_enumerate_1 _) (F.newCall_enumerate_1 _) (λobj=>F.args_object_init_2 obj _) F.entry_enumerate_new (aER tu its n f i) ⟨hl,?_⟩
 have d:(s.heap.push {cls := .type "tuple_iterator", data := .fields #[.ref tu, .int 0 0]}).objs.size=s.heap.objs.size+1:=kr ..
 show _/\_
 rw[d]
 have he:IsEnum ((s.heap.push {cls := .type "tuple_iterator", data := .fields #[.ref tu, .int 0 0]}).push {cls := .type "enumerate", data := .fields #[.none, .bool false, .ref s.heap.objs.size,rawInt 0, .none, .none]}) (s.heap.objs.size+1) s.heap.objs.size 0 .none:=by
  have q:=qu (s.heap.push {cls := .type "tuple_iterator", data := .fields #[.ref tu, .int 0 0]}) (o:={cls := .type "enumerate", data := .fields #[.none, .bool false, .ref s.heap.objs.size,rawInt 0, .none, .none]}) rfl
  rw[d] at q;exact q
 exact⟨⟨_,he,rfl⟩,kQ _ he ⟨_,qc _ (qu _ rfl),rfl,rfl⟩ (by rw[kr,d]) λb o x=>qc _ (qc _ x)⟩
theorem F.args_min4(a b c d:Value):argsOk "min" ⟨[a,b,c,d],[]⟩:=by unfold argsOk;kernel_rfl
theorem aE2{a b c d:Int}{t u x y:Tok}{Q:Value->Shared->Prop}(hh:A.handled=none)(kQ:∀(m:Int) (q:Tok) h' tk,(∀e o,s.heap.get? e=some o->h'.get? e=some o)->Q (.int m q) {s with heap:=h',toks:=tk}):
  wpAny (jt prog w) A (call (.builtin "min") [.int a t, .int b u, .int c x, .int d y]) Q E s:=by
 have i:(toString "min" ++ toString ".loop" : String) = "min.loop" := by decide
 refine call_function_tree F.kind_min F.plain_min F.entry_min (F.args_min4 _ _ _ _) ?_
 show wpAny _ A.in1 (dk "min" ["key", "default"] 0 ⟨[],[]⟩ >>= _) _ _ _
 refine qa (Jb (show dk "min" ["key", "default"] 0 ⟨[],[]⟩=pure ([none,none]:List _) from rfl) ?_)
 show wpAny _ A.in1 (newTuple [.int a t, .int b u, .int c x, .int d y] >>= _) _ _ s
 refine qa (j0 ?_)
 have C:(s.heap.push {cls := .type "tuple", data := .seq #[.int a t, .int b u, .int c x, .int d y]}).IsTuple s.heap.objs.size (gp #[(a,t),(b,u),(c,x),(d,y)]):=⟨_,qu _ rfl,rfl,0,by simp[gp]⟩
 have f:(s.heap.push {cls := .type "tuple", data := .seq #[.int a t, .int b u, .int c x, .int d y]}).objs.size=s.heap.objs.size+1:=kr ..
 have key:wpAny (jt prog w) A.in1 (Jm (.ref s.heap.objs.size)) (λD s₂=>D = .ref (s.heap.objs.size+1)/\s₂.heap.IsTupleIter (s.heap.objs.size+1) s.heap.objs.size 0/\s₂.heap.IsTuple s.heap.objs.size (gp #[(a,t),(b,u),(c,x),(d,y)]) /\
   s₂.heap.objs.size=s.heap.objs.size+2/\(∀e o,s.heap.get? e=some o->s₂.heap.get? e=some o)/\∃l k,s₂={s with heap:=l,toks:=k}) E {s with heap:=s.heap.push {cls := .type "tuple", data := .seq #[.int a t, .int b u, .int c x, .int d y]} }:=by
  refine wpAny_pyIter_tuple C ?_
  refine⟨by rw[f],⟨_,by rw[<- f];exact qu _ rfl,rfl,rfl⟩,C.push _,by rw[kr,f],λe o q=>qc _ (qc _ q),_,_,rfl⟩
 refine qa (x6 key (λD s₂ h₂ => ?_) λ_ _ e=>e)
 obtain⟨rfl,J,B,n,hold,l,k,rfl⟩:=h₂
 refine qa (j0 ?_)
 rw[i]
 have W:=Walks.tuple (prog:=prog) (w:=w) (A:=A.in1) hh (s.heap.objs.size+1) s.heap.objs.size (qy (zh _)) (gp #[(a,t),(b,u),(c,x),(d,y)])
 have z:l.objs.size∉[s.heap.objs.size+1,s.heap.objs.size]:=λhm=>by
  have p:l.objs.size=s.heap.objs.size+2:=n
  rw[p] at hm
  simp at hm
 refine wpAny_pure ⟨plainId_quiet F.plain_min_loop _,codeAny_min_loop_first W _ (CmpOf.ints_lt (numAt #[(a,t),(b,u),(c,x),(d,y)]) (λ_ _=>intItems_at)) l.objs.size z (by simp[gp])
  (W.frame _ _ _ ⟨J,B⟩ λb _ o e=>qc _ e) (qu _ rfl) λv h' tk I H => ?_⟩
 obtain⟨m,q,G⟩:∃m q,v=gu m q:=by
  have j:v∈gp #[(a,t),(b,u),(c,x),(d,y)]:=Array.mem_of_getElem? I
  simp[gp] at j
  rcases j with h|h|h|h <;> exact⟨_,_,h⟩
 rw[G]
 refine kQ m q h' tk λe o g=>H e o (λhm => ?_) (qy (qt (hold e o g))) (qc _ (hold e o g))
 have r:=qt g
 rw[qk] at hm
 exact absurd r (by rw[hm];exact Nat.not_lt.mpr (Qj _))
end
end PySem
namespace L2
open PySem PySem.Spec PyProof.Rows
section
theorem Inv.turnedT{T:Addr}{o:HO}(I:Inv X pins σ H s)(k:∀b ob,b∉ch->s.heap.get? b=some ob->h'.get? b=some ob)(hf:∀b∈ch,mV X pins H b)(hT:s.heap.objs.size<=T)(new:dY X.prog X.w (upd H T o) h' T o):Inv X pins σ (upd H T o) {s with heap:=h',toks:=t' }:=by
 have d:H T=none:=I.hok.fresh hT
 have f:∀b u,H b=some u->b∉ch:=λb u e z=>by rw[(hf b z).1] at e;cases e
 have ne:∀b u,s.heap.get? b=some u->b≠T:=λb u e=>qy (q3 (qt e) hT)
 refine I.step (g':=s.gens) (d':=s.drawn) (ch:=ch) (λb p => ?_) (λb ob _ _ a e _=>k b ob a e) (λb ob _ _ a e _=>⟨ob.slots,k b ob a e⟩) (λb ob _ e n=>by rw[aV (ne b ob e)];exact n)
  (λb ob a e=>⟨ob,k b ob a e⟩) (λb xs e=>by rw[aV (bA e d)];exact e) (λb ob u e=>by rw[aV (bA e d)];exact e) (λb ps e=>⟨#[],by rw[aV (bA e d),e];simp⟩) (λm hm => ?_) (λb u e => ?_) I.bare
 ·obtain⟨f0,f1,f2,g,f4,l⟩:=hf b p
  exact⟨g,f1,f4,l⟩
 ·obtain⟨ob,h,j,i,r⟩:=hm
  exact⟨ob,h,j,k _ ob (λz=>(hf _ z).2.1 rfl) i,r⟩
 ·by_cases z:b=T
  ·subst z;rw[aY] at e;cases e;exact new
  ·rw[aV z] at e
   refine (I.hok b u e).stay (λc v a q=>k c v ?_ q) (λc q=>by rw[aV (bA q d)];exact q) λc xs q=>by rw[aV (bA q d)];exact q
   rcases a with y|y
   ·rw[y];exact f b u e
   ·exact f c _ y
theorem Inv.turnedL(I:Inv X pins σ H s)(k:∀b ob,b∉ch->s.heap.get? b=some ob->h'.get? b=some ob)(hf:∀b∈ch,mV X pins H b):Inv X pins σ H {s with heap:=h',toks:=t' }:=by
 have d:∀b u,H b=some u->b∉ch:=λb u e z=>by rw[(hf b z).1] at e;cases e
 refine I.step (g':=s.gens) (d':=s.drawn) (ch:=ch) (λb l => ?_) (λb ob _ _ a e _=>k b ob a e) (λb ob _ _ a e _=>⟨ob.slots,k b ob a e⟩) (λ_ _ _ _ n=>n)
  (λb ob a e=>⟨ob,k b ob a e⟩) (λ_ _ e=>e) (λ_ _ _ e=>e) (λb ps e=>⟨#[],by rw[e];simp⟩) (λm hm => ?_) (λb u e => ?_) I.bare
 ·obtain⟨f0,f1,f2,f,f4,j⟩:=hf b l
  exact⟨f,f1,f4,j⟩
 ·obtain⟨ob,g,i,h,r⟩:=hm
  exact⟨ob,g,i,k _ ob (λz=>(hf _ z).2.1 rfl) h,r⟩
 ·refine (I.hok b u e).stay (λc v a q=>k c v ?_ q) (λ_ q=>q) λ_ _ q=>q
  rcases a with y|y
  ·rw[y];exact d b u e
  ·exact d c _ y
noncomputable def Iet(K:qe)(a:Addr):It:=⟨λi H=>∃xs x,SqT K H a xs/\xs[i]?=some x,
 λi H v H'=>∃T x,H T=none/\v = .ref T/\H'=upd H T (.tup [.int (i:Int),x])/\∀xs,SqT K H a xs->xs[i]?=some x,λi H=>∃xs,SqT K H a xs/\xs.length=i⟩
theorem aDA{K:qe}(a e it:Addr)(hei:e≠it):
  Turn P w K (.Tuple elts kk tp) (Iet K a) [e,it] e (λi h=>(∃old,IsEnum h e it (i:Nat) old)/\h.IsTupleIter it a i) where
 mem:=by simp
 obj:=λi h st b d=>by
  obtain⟨⟨old,he⟩,o,p,G,hd⟩:=st
  rcases qf.mp d with rfl|d
  ·exact⟨_,he,λv z=>by cases z⟩
  ·rw[qk] at d
   subst d
   exact⟨o,p,λv z=>by rw[hd] at z;cases z⟩
 keep:=λi h h' st k=>by
  obtain⟨⟨old,he⟩,o,p,r⟩:=st
  exact⟨⟨old,k e '$' _ he⟩,o,k it '$' o p,r⟩
 item:=by
  intro X R hw S G i pins s σ H E I hf st T
  subst R hw S
  obtain⟨⟨old,he⟩,hit⟩:=st
  obtain⟨xs,x,L,F⟩:=T
  obtain⟨c,M,pt,hz⟩:=I.tuple L
  have f:s.heap.IsTuple a c.toArray:=pt
  have j:a≠it:=λz=>by
   obtain⟨o,g,D,_⟩:=f
   obtain⟨o2,N,t,_⟩:=hit
   rw[z,N] at g;cases g
   rw[D] at t;exact absurd t '$'
  have Z:e∉[it,a]:=λz=>by
   rcases qf.mp z with y|y
   ·exact hei y
   ·rw[qk] at y
    obtain⟨o,g,D,_⟩:=f
    have m:=he
    unfold IsEnum at m
    rw[y,g] at m;cases m
    exact absurd D '$'
  have Dr:=Draws.tup (prog:=X.prog) (w:=X.w) (A:=X.A.in1) (I.ok.hd G) it a j c.toArray
  have V:i<c.toArray.size:=by rw[qb,<- M.length];exact (zGs F).1
  refine wpAny_pyNext_enum_itemD Dr he ⟨hit,f⟩ V hei Z λy h1 tk hy p O hT ab hk => ?_
  refine⟨_,rfl,wpAny_letOwnedTupleGo_enum p λJ Y n => ?_⟩
  obtain⟨u,hu,ru⟩:=M.get F
  have ey:y=u:=by
   have e3:c[i]?=some y:=by simpa using hy
   rw[hu] at e3;exact (qz e3).symm
  subst ey
  have B:s.heap.objs.size≠e:=xt (qt he)
  have C:J.get? s.heap.objs.size=some {cls := .type "tuple", data := .seq #[.int (i:Int) tk,y]}:=(n.2 _ B).trans hT
  have k2:∀b ob,b∉[e,it]->s.heap.get? b=some ob->J.get? b=some ob:=λb ob d q=>by
   have b1:b≠e:=λz=>d (by simp[z])
   have b2:b≠it:=λz=>d (by simp[z])
   exact (n.2 b b1).trans (hk b ob b1 b2 q)
  have I2:Inv X pins σ (upd H s.heap.objs.size (.tup [.int (i:Int),x])) {s with heap:=J,toks:=tk+1}:=I.turnedT k2 hf (ql _) ⟨(show 2<=sizeLine by decide),[.int (i:Int) tk,y], .cons ⟨tk,rfl⟩ (.cons ru .nil),_,C,rfl,_,rfl⟩
  have U:H s.heap.objs.size=none:=I.hok.fresh (ql _)
  refine⟨.ref s.heap.objs.size,_,I2,rfl,⟨s.heap.objs.size,x,U,rfl,rfl,λaa q' => ?_⟩,⟨⟨_,by simpa using Y⟩,?_⟩,λb d => ?_⟩
  ·rw[<- I.tuple_inj L q'];exact F
  ·obtain⟨⟨o,l,r3⟩,_⟩:=O
   exact⟨o,(n.2 it (ya hei)).trans l,r3⟩
  ·rw[aV (λz => ?_)]
   ·exact (hf b d).1
   ·rcases qf.mp d with y|y
    ·exact B (by rw[<- z,y])
    ·rw[qk] at y
     obtain⟨o,l,_⟩:=hit
     exact absurd (qt l) (by rw[<- y,z];exact xh _)
 done:=by
  intro X R hw S G i pins s σ H E I hf st T
  subst R hw S
  obtain⟨⟨old,he⟩,hit⟩:=st
  obtain⟨xs,L,hl⟩:=T
  obtain⟨c,M,pt,hz⟩:=I.tuple L
  have f:s.heap.IsTuple a c.toArray:=pt
  have j:a≠it:=λz=>by
   obtain⟨o,g,D,_⟩:=f
   obtain⟨o2,N,t,_⟩:=hit
   rw[z,N] at g;cases g
   rw[D] at t;exact absurd t '$'
  have Dr:=Draws.tup (prog:=X.prog) (w:=X.w) (A:=X.A.in1) (I.ok.hd G) it a j c.toArray
  have U:c.toArray.size=i:=by rw[qb,<- M.length];exact hl
  subst U
  refine wpAny_pyNext_enum_endD Dr he ⟨hit,f⟩ λJ F=>⟨rfl,I.turnedL (t':=s.toks) (ch:=[it]) (λb ob d q=>F b ob (λz=>d (by simp[z])) q) λb d=>hf b ?_⟩
  rw[qk] at d
  rw[d];simp
 self:=λA i s Q E st h=>by
  obtain⟨⟨old,he⟩,_⟩:=st
  exact JM he h
noncomputable def aNS(K:qe)(ta:TA):TI:=λσ H R=>ta σ H λvs H1=>∃a,vs=[.ref a]/\(∃xs,SqT K H1 a xs)/\R (Iet K a) H1
theorem aGR{a:Expr}{p:Pos}(hg:Gl X "enumerate")(hm:X.mg "enumerate" = none)(hv:kf "enumerate" = some (.type "enumerate"))(ha:PA X [a] ta)(hs:starEach [a] X.env=[(false,eval a X.env)]:=by rfl):
  PI X (.Tuple elts kk tp) (.Call (.Name "enumerate" p) [a] [] pos) (aNS X.K ta):=by
 intro pins s σ H R I h
 refine Call_ (l7 I hg hm hv (vk (thn (ha pos pins s σ H _ I h) λus s1 ⟨vs,H1,I1,r1,m⟩ => ?_) hs rfl))
 obtain⟨b,e,⟨xs,l⟩,q⟩:=m
 subst e
 obtain⟨u,rfl,k⟩:=vals1 r1
 cases k
 obtain⟨f,o,pt,r⟩:=I1.tuple l
 refine aDN (show s1.heap.IsTuple b f.toArray from pt) λn he j g i => ?_
 have I2:Inv X pins σ H1 {s1 with heap:=n}:=I1.kept (t':=s1.toks) i
 refine JM he ?_
 refine⟨_,[s1.heap.objs.size+1,s1.heap.objs.size],_,Iet X.K b,H1,rfl,I2,aDA b _ _ (Nat.succ_ne_self _),⟨⟨_,he⟩,j⟩,λc d => ?_,q⟩
 rcases qf.mp d with rfl|d
 ·exact I1.fpOk (Qj _) (I1.hok.fresh (Qj _))
 ·rw[qk] at d
  subst d
  exact I1.fpOk (ql _) (I1.hok.fresh (ql _))
theorem aF6(hc:X.calm=true):i7 X (.builtin "min") (λxs H Q=>∃a b c d:Int,xs=[.int a, .int b, .int c, .int d]/\∀m:Int,Q (.int m) H):=by
 intro pins s σ H xs us Q I r h
 obtain⟨a,b,c,d,rfl,q⟩:=h
 cases r with
 |cons r1 r =>
  cases r with
  |cons r2 r =>
   cases r with
   |cons r3 r =>
    cases r with
    |cons r4 r =>
     cases r
     obtain⟨t1,rfl⟩:=r1
     obtain⟨t2,rfl⟩:=r2
     obtain⟨t3,rfl⟩:=r3
     obtain⟨t4,rfl⟩:=r4
     exact aE2 (I.ok.hd hc) λm e g tk f=>⟨.int m,H,I.kept (t':=tk) f,⟨e,rfl⟩,q m⟩
end
end L2
namespace Z
open PySem L2
section
variable {a:Expr}{rest:List Expr}
theorem GE.mono{k':D->Mem->Prop}(h:GE X e Γ M k)(f:∀d M1,k d M1->k' d M1):GE X e Γ M k':=λσ G H Q en rl q=>h σ G H Q en rl λv G' H' d M' s e hk=>q v G' H' d M' s e (f d M' hk)
theorem aFJ(h:GE X a Γ M λd M1=>∃c,d = .bl c/\(c=false->GE X (.BoolOp .Or (b::rest) pos) Γ M1 λd2 M2=>(∃c2,d2 = .bl c2)/\M2=M1)/\∀c',k (.bl c') M1):GE X (.BoolOp .Or (a::b::rest) pos) Γ M k:=by
 refine aO3 (h.mono λd M1 ⟨c,i,g,f⟩=>⟨c,i,?_⟩)
 cases c with
 |true=>rw[if_pos rfl];exact f true
 |false=>rw[if_neg zBf];exact (g rfl).mono λd2 M2 ⟨⟨c2,e⟩,em⟩=>by subst e em;exact f c2
theorem aLZ{K:Fg}{i1 i2 i3 i4:Int}(h:∀m:Int,k (.int m) M):OpN K (λxs H Q=>∃a b c d:Int,xs=[.int a, .int b, .int c, .int d]/\∀m:Int,Q (.int m) H) [.int i1, .int i2, .int i3, .int i4] M k:=λG H vs Q i e q=>by
 obtain⟨v1,r,rfl,l,e⟩:=bN e
 obtain⟨v2,r,rfl,j,e⟩:=bN e
 obtain⟨n,v4,rfl,f,g⟩:=dens2 e
 exact⟨i1,i2,i3,i4,by rw[l.int_,j.int_,f.int_,g.int_],λm=>q _ _ _ _ _ (Stp.refl i) cZ (h m)⟩
noncomputable def kY(ds:List D):List D:=ds.mapIdx λi d => .tup [.int (i:Int),d]
theorem aHV{K:Fg}{a:Addr}{vs:List V}(s:SqT K G0 a vs)(dn:Dens K G0 ds vs):YD K (Iet K a) (kY ds) G0 where
 go:=λi G H M sg b h=>by
  have f:i<vs.length:=by rw[<- dn.len];simpa[kY] using h
  exact⟨vs,vs[i],R.dC b.same (R.dC sg s),by simp[f]⟩
 yld:=λi G H M x H' sg b h y=>by
  obtain⟨T,v,g,rfl,rfl,j⟩:=y
  have c:=j vs (R.dC b.same (R.dC sg s))
  obtain⟨d,hd,e⟩:=dn.get' c
  have st:=b.new (o := .tup [.int (i:Int),v]) g
  exact⟨_, .tup [.int (i:Int),d],st,by simp[kY,hd],eU (SqT.of aY) (aZ cZ (aZ ((e.up sg).up st.gg) bT))⟩
 stop:=λi G H M sg b h=>⟨vs,R.dC b.same (R.dC sg s),by rw[<- dn.len];simpa[kY] using h.symm⟩
theorem aBX{p:Pos}(hm:X.mg "enumerate" = none)(hv:kf "enumerate" = some (.type "enumerate"))(h:GA X [a] Γ M λds M1=>∃es,ds=[.tup es]/\ki (kY es) M1)(hg:Gl X "enumerate" := by rfl)(hs:starEach [a] X.env=[(false,eval a X.env)]:=by rfl):
  GI X (.Tuple elts kk tp) (.Call (.Name "enumerate" p) [a] [] pos) Γ M ki:=λσ G H Rr c d q=>by
 refine lT (aGR hg hm hv pUA hs) ?_
 refine h σ G H _ c d λvs G1 H1 ds M1 s1 e ⟨es,i,f⟩ => ?_
 subst i
 obtain⟨v,rfl,dv⟩:=dens1 e
 obtain⟨b,ws,rfl,sq,g⟩:=dv.tup_
 exact⟨b,rfl,⟨ws,R.dC s1.rel.same sq⟩,q _ _ _ _ _ s1 (aHV sq g) f⟩
end
end Z
namespace R
open PySem L2
theorem f6{z:Str}(h:j<z.length):z.cps.toList[j]?=some (atS z j):=by
 have h':j<z.cps.size:=h
 simp[atS,Kf,h']
theorem lN:atS (ofL l) j=l.getD j 0:=by
 unfold atS ofL
 rw[Array.getD_eq_getD_getElem?,List.getElem?_toArray,zGd]
noncomputable def Good(n:Nat)(zs:List Str):Prop:=∀z∈zs,z.length=n/\z.cps.toList.all sgn=true
theorem qI(h:Good n zs){z:Str}(hz:z∈zs)(hj:j<n):atS z j=35\/atS z j=46:=by
 obtain⟨b,a⟩:=h z hz
 have e:=f6 (z:=z) (j:=j) '#'
 have:=wg.mp a _ (zMo e)
 unfold sgn at this
 rw[yh,beq_iff_eq,beq_iff_eq] at this
 exact this
theorem r8(n:Nat):(dots n).length=n:=by unfold dots;rw[lJ,xf]
theorem aJN{z:Str}(hl:z.length=n)(h:∀j,j<n->atS z j=46):z=dots n:=by
 apply lC
 show z.cps.toList=vc n 46
 apply xo
 intro j
 by_cases a:j<n
 ·rw[f6 '#',h j a,xy,if_pos a]
 ·rw[jh (by rw[jj];have:z.cps.size=n:=hl;lia),jh (by simp;lia)]
theorem lH:atS (dots n) j=if j<n then 46 else 0:=by
 unfold dots
 rw[lN,zGd,xy]
 split <;> rfl
theorem kJ{α:Type}(f:Nat->α):∀p,f p≠f 0->∃k,k<p/\f k≠f (k+1)
 |0,h=>absurd rfl h
 |p+1,h=>by
  by_cases e:f p=f 0
  ·exact⟨p,by lia,by rw[e];exact ya h⟩
  ·obtain⟨k,b,a⟩:=kJ f p e
   exact⟨k,by lia,a⟩
theorem jI{α:Type}(f:Nat->α):∀m p,f p≠f (p+m)->∃k,p<=k/\k<p+m/\f k≠f (k+1)
 |0,p,h=>absurd rfl h
 |m+1,p,h=>by
  by_cases e:f p=f (p+m)
  ·exact⟨p+m,by lia,by lia,by rw[<- e];exact h⟩
  ·obtain⟨k,a,c,b⟩:=jI f m p e
   exact⟨k,a,by lia,b⟩
theorem cG(h:i<zs.length):(framed zs)[i+1]?=zs[i]?:=by
 unfold framed
 rw[vm,pz,cq,j3 h]
theorem fQ(zs:List Str):(framed zs)[0]?=some (dots ((zs.head?.map (·.length)).getD 0)):=by simp[framed]
theorem d7(zs:List Str):(framed zs)[zs.length+1]?=some (dots ((zs.head?.map (·.length)).getD 0)):=by
 unfold framed
 rw[vm,pz,cq,ku (ql _)]
 simp
theorem fE(hz:zs≠[]):i∈chg zs↔i<=zs.length/\(framed zs)[i]?≠(framed zs)[i+1]?:=by
 unfold chg
 have:zs.isEmpty=false:=by cases zs with
  |nil=>exact absurd rfl hz
  |cons _ _=>rfl
 rw[this]
 simp only[y1,if_false,qo,q4,Qy,decide_eq_false_iff_not]
 exact⟨λ⟨a,b⟩=>⟨by lia,b⟩,λ⟨a,b⟩=>⟨by lia,b⟩⟩
theorem cQ(h:∀z∈zs,z.length=n)(hz:zs≠[]):(zs.head?.map (·.length)).getD 0=n:=by
 cases zs with
 |nil=>exact absurd rfl hz
 |cons z zr=>exact h z '$'
theorem aKI(h:∀z∈zs,z.length=n){z:Str}(hi:zs[i]?=some z)(hz:z≠dots n):2<=(chg zs).length:=by
 have b:i<zs.length:=(zGs hi).1
 have a:zs≠[]:=λe=>by rw[e] at b;simp at b
 have hw:=cQ h a
 have f0:(framed zs)[0]?=some (dots n):=by rw[fQ,hw]
 have fl:(framed zs)[zs.length+1]?=some (dots n):=by rw[d7,hw]
 have f:(framed zs)[i+1]?=some z:=by rw[cG b,hi]
 obtain⟨g,a1,l⟩:=kJ (λk=>(framed zs)[k]?) (i+1) (by show (framed zs)[i+1]?≠(framed zs)[0]?;rw[f,f0];exact λe=>hz (qz e))
 obtain⟨j,a2,m,b2⟩:=jI (λk=>(framed zs)[k]?) (zs.length-i) (i+1) (by
  show (framed zs)[i+1]?≠(framed zs)[i+1+(zs.length-i)]?
  rw[show i+1+(zs.length-i)=zs.length+1 by lia,f,fl];exact λe=>hz (qz e))
 have c:g∈chg zs:=(fE a).mpr ⟨by lia,l⟩
 have d:j∈chg zs:=(fE a).mpr ⟨by lia,b2⟩
 match hc:chg zs,c,d with
 |[],c,_=>cases c
 |[x],c,d =>
  simp at c d
  lia
 |_::_::_,_,_=>simp
noncomputable def aF(zs:List Str):List Str:=(chg zs).dropLast.map λi=>zs.getD i vp
theorem j4:∀z∈aF zs,z∈zs:=λz b=>by
 obtain⟨i,a,rfl⟩:=qq.mp b
 have:=iP (bV zs) (dU zs) i a
 rw[zGd,zGe this]
 exact je _
theorem fR(h:Good n zs):Good n (aF zs):=λz hz=>h z (j4 z hz)
theorem dQ(zs:List Str):(aF zs).length=(chg zs).length-1:=by unfold aF;rw[zLm,q7]
theorem qZ(h:∀z∈zs,z.length=n)(hr:aF zs≠[]):∃z∈aF zs,z≠dots n:=by
 have c:2<=(chg zs).length:=by
  have:=wy.mpr hr
  rw[dQ] at this
  lia
 have a:zs≠[]:=λe=>by rw[e] at c;simp[chg] at c
 match hc:chg zs,c with
 |k0::k1::r,_ =>
  have m0:k0∈chg zs:=by rw[hc];simp
  have s:=bV zs
  rw[hc] at s
  have f:k1<=zs.length:=dU zs k1 (by rw[hc];simp)
  have i:k0<k1:=(ji.mp s).1 k1 '$'
  have b:k0<zs.length:=by lia
  obtain⟨_,d⟩:=(fE a).mp m0
  have same:∀j,j<=k0->(framed zs)[j]?=(framed zs)[0]?:=λj l=>qv λq=>by
   obtain⟨k,a1,g⟩:=kJ (λk=>(framed zs)[k]?) j q
   have:k∈chg zs:=(fE a).mpr ⟨by lia,g⟩
   rw[hc] at this
   rcases qf.mp this with rfl|this
   ·lia
   ·have:=(ji.mp s).1 k this
    lia
  refine⟨zs.getD k0 vp,?_,λq=>d ?_⟩
  ·unfold aF
   rw[hc]
   simp
  ·rw[same k0 (ql _),fQ,cQ h a,cG b,<- q,zGd,zGe b]
   rfl
theorem iR(h:∀z∈zs,z.length=n)(hz:zs≠[])(hj:j<n):(aC zs)[j]?=some (ofL (zs.map (atS · j))):=by
 unfold aC
 rw[cQ h hz,qm,yu hj]
 rfl
theorem j7(h:Good n zs):Good zs.length (aC zs):=λz a=>by
 refine⟨fJ z a,?_⟩
 obtain⟨j,b,rfl⟩:=qq.mp a
 rw[q4] at b
 show (zs.map (atS · j)).all sgn=true
 rw[wg]
 intro c f
 obtain⟨z,a,rfl⟩:=qq.mp f
 have d:zs≠[]:=λe=>by rw[e] at a;cases a
 rw[cQ (λz a=>(h z a).1) d] at b
 rcases qI h a b with e|e <;> rw[e] <;> rfl
structure Wf(nx ny:Nat)(zs:List Str):Prop where
 rows:zs.length+1=ny\/(nx=0/\ny=0/\zs=[])
 good:Good (nx-1) zs
 wide:0<nx\/(nx=0/\ny=0/\zs=[])
theorem aAN(h:Good n zs){z:Str}(hz:z∈zs)(hd:z≠dots n):∃j,j<n/\atS z j=35:=by
 refine qv λq=>hd (aJN (h z hz).1 λj a => ?_)
 rcases qI h hz a with e|e
 ·exact absurd ⟨j,a,e⟩ q
 ·exact e
theorem aJ9(h:Good n zs)(hr:aF zs≠[]):
  2<=(chg (aC (aF zs))).length/\Wf (chg (aC (aF zs))).length (chg zs).length (aC (aF (aC (aF zs))))/\(aC (aF (aC (aF zs)))).length=(aF zs).length:=by
 have g1:=fR h
 obtain⟨z,a,hd⟩:=qZ (λz a=>(h z a).1) hr
 obtain⟨j,o,c⟩:=aAN g1 a hd
 have gc:=j7 g1
 have k:=iR (λz a=>(g1 z a).1) hr o
 have b:ofL ((aF zs).map (atS · j))≠dots (aF zs).length:=λq=>by
  obtain⟨i,e,g⟩:=qj a
  have d:atS (ofL ((aF zs).map (atS · j))) i=35:=by
   rw[lN,zGd,qm,zGe e,g]
   exact c
  rw[q,lH,if_pos e] at d
  cases d
 have m:=aKI (λz a=>(gc z a).1) k b
 have l:aF (aC (aF zs))≠[]:=λq=>by
  have:=dQ (aC (aF zs))
  rw[q] at this
  simp at this
  lia
 have g2:=fR gc
 have f:=(n8 (λz a=>(g2 z a).1)).2 l
 have p:=dQ zs
 have pos:=wy.mpr hr
 refine⟨m,⟨.inl (by rw[f];lia),?_, .inl '#'⟩,f⟩
 have g3:=j7 g2
 rw[dQ] at g3
 exact g3
noncomputable def aP(zs:List Str)(a u:Int):Bool:=decide (0<=u)&&decide (0<=a)&&((zs[u.toNat]?).bind λz=>z.cps.toList[a.toNat]?)==some 35
theorem bK{a u:Int}(h:u<0):aP zs a u=false:=by
 unfold aP;rw[decide_eq_false '#'];rfl
theorem bL{a u:Int}(h:a<0):aP zs a u=false:=by
 unfold aP;rw[decide_eq_false (show ¬(0:Int)<=a by lia),xi];rfl
theorem cV{a u:Int}(h:(zs.length:Int)<=u):aP zs a u=false:=by
 unfold aP
 rw[jh '#']
 simp
theorem iC{a u:Int}{z:Str}(e:zs[u.toNat]?=some z)(h:(z.length:Int)<=a):aP zs a u=false:=by
 unfold aP
 rw[e]
 have:z.cps.toList[a.toNat]?=none:=jh (by rw[jj];have:z.cps.size=z.length:=rfl;lia)
 rw[zc,this]
 cases decide (0<=u) <;> cases decide (0<=a) <;> rfl
theorem fM{a u:Int}{z:Str}{c:Nat}(hu:0<=u)(ha:0<=a)(e:zs[u.toNat]?=some z)(ec:z.cps.toList[a.toNat]?=some c):aP zs a u=decide (c=35):=by
 unfold aP
 rw[decide_eq_true hu,decide_eq_true ha,e]
 simp only[zc,ec,wo,ni]
 by_cases h:c=35
 ·subst h;rfl
 ·rw[decide_eq_false h];simp[h]
noncomputable def kind4(a b c d:Bool):Option Str:=
 let n:=a.toNat+b.toNat+c.toNat+d.toNat
 if n=1 then some "out" else if n=3 then some "in" else if n=2/\a=d then some "touch" else none
noncomputable def cL(zs:List Str)(i j:Nat):Option Str:=kind4 (aP zs ((i:Int)-1) ((j:Int)-1)) (aP zs i ((j:Int)-1)) (aP zs ((i:Int)-1) j) (aP zs i j)
noncomputable def sg(b:Bool):Nat:=if b then 35 else 46
noncomputable def dR{α:Type}(mk:α->α->Str->α)(x:α)(ys:List α)(K:Nat->Option Str)(m:Nat):List α:=(qr m).filterMap λj=>(ys[j]?).bind λy=>(K j).map (mk x y)
noncomputable def corn{α:Type}(mk:α->α->Str->α)(xs ys:List α)(K:Nat->Nat->Option Str)(n:Nat):List α:=(qr n).flatMap λi=>(xs[i]?.map λx=>dR mk x ys (K i) ys.length).getD []
theorem zS{α:Type}{mk:α->α->Str->α}{x y:α}{ys:List α}{K:Nat->Option Str}(h:ys[m]?=some y):dR mk x ys K (m+1)=dR mk x ys K m++((K m).map (mk x y)).toList:=by
 unfold dR
 rw[jq,dj]
 congr 1
 simp only[jy,h,zc,List.filterMap_nil]
 cases K m <;> rfl
theorem aDW{α:Type}{mk:α->α->Str->α}{x:α}{xs ys:List α}{K:Nat->Nat->Option Str}(h:xs[n]?=some x):corn mk xs ys K (n+1)=corn mk xs ys K n++dR mk x ys (K n) ys.length:=by
 unfold corn
 rw[jq,xx]
 congr 1
 simp[h]
theorem aII{α:Type}(mk:α->α->Str->α)(xs ys:List α)(K:Nat->Nat->Option Str)(n:Nat):(corn mk xs ys K n).length<=n*ys.length:=by
 induction n with
 |zero=>simp[corn]
 |succ n ih =>
  unfold corn at ih ⊢
  rw[jq,xx,qh,zz]
  refine Nat.add_le_add ih ?_
  simp only[Qw,List.flatMap_nil,wb]
  cases xs[n]? with
  |none=>simp
  |some x=>simp only[v8,ft,dR];exact jn (yy _ _) '$'
theorem zH{α:Type}{mk:α->α->Str->α}{xs ys:List α}{K:Nat->Nat->Option Str}{z:α}:z∈corn mk xs ys K n↔∃i j x y t,i<n/\xs[i]?=some x/\ys[j]?=some y/\K i j=some t/\z=mk x y t:=by
 unfold corn dR
 rw[yq]
 constructor
 ·rintro⟨i,d,h⟩
  cases c:xs[i]? with
  |none=>rw[c] at h;cases h
  |some x =>
   rw[c] at h
   simp only[v8,ft,kz] at h
   obtain⟨j,e,h⟩:=h
   cases a:ys[j]? with
   |none=>rw[a] at h;cases h
   |some y =>
    rw[a,zc] at h
    cases b:K i j with
    |none=>rw[b] at h;cases h
    |some t=>rw[b] at h;exact⟨i,j,x,y,t,q4.mp d,c,a,b,(qz h).symm⟩
 ·rintro⟨i,j,x,y,t,d,c,a,b,rfl⟩
  refine⟨i,q4.mpr d,?_⟩
  rw[c]
  simp only[v8,ft,kz]
  exact⟨j,q4.mpr (zGs a).1,by rw[a,zc,b];rfl⟩
end R
namespace Q
open PySem L2 Z
theorem BMin:kf "min" = some (.builtin "min"):=by decide +kernel
theorem BEnum:kf "enumerate" = some (.type "enumerate"):=by decide +kernel
structure Bt(mg:Str->Option Value):Prop where
 len:mg "len" = none
 abs:mg "abs" = none
 int:mg "int" = none
 min:mg "min" = none
 max:mg "max" = none
 range:mg "range" = none
 list:mg "list" = none
 tuple:mg "tuple" = none
 repr:mg "repr" = none
 all:mg "all" = none
 any:mg "any" = none
 enumerate:mg "enumerate" = none
 isi:mg "isinstance" = none
 bool:mg "bool" = none
 str:mg "str" = none
 zip:mg "zip" = none
 reversed:mg "reversed" = none
 sorted:mg "sorted" = none
 dict:mg "dict" = none
noncomputable def FdM(M:Mem)(p:Addr)(b:Int):Prop:=∃g m st:Int,M p=some (.lst [.int g, .int m, .int st])/\0<=g/\0<=m/\m<2147483399/\0<=st/\st<=b
noncomputable def dH(p:Addr)(M M':Mem):Prop:=∀a o,a≠p->M a=some o->M' a=some o
theorem dH.refl(p:Addr)(M:Mem):dH p M M:=λ_ _ _ h=>h
theorem dH.trans{p:Addr}{M2:Mem}(a:dH p M M1)(b:dH p M1 M2):dH p M M2:=λc o n h=>b c o n (a c o n h)
theorem dH.upd{p:Addr}{M':Mem}{o:MO}(h:dH p M M'):dH p M (bG M' p o):=λa u n e=>by rw[bD n];exact h a u n e
theorem dH.new{p:Addr}{M':Mem}{o:MO}(h:dH p M M')(n:M a=none):dH p M (bG M' a o):=λb u nb e=>by
 rw[bD (λz=>by rw[z,n] at e;cases e)];exact h b u nb e
theorem FdM.mono{p:Addr}{b c:Int}(h:FdM M p b)(l:b<=c):FdM M p c:=by
 obtain⟨g,m,st,e,h1,h2,h3,h4,h5⟩:=h
 exact⟨g,m,st,e,h1,h2,h3,h4,by lia⟩
theorem FdM.ne{p:Addr}{b:Int}(h:FdM M p b)(n:M a=none):a≠p:=λz=>by
 obtain⟨g,m,st,e,_⟩:=h
 rw[<- z,n] at e;cases e
theorem FdM.new{p:Addr}{b:Int}{o:MO}(h:FdM M p b)(n:a≠p):FdM (bG M a o) p b:=by
 obtain⟨g,m,st,e,r⟩:=h
 exact⟨g,m,st,by rw[bD (ya n)];exact e,r⟩
noncomputable def aPP:Ct:=λds M k=>∃(ns:List Int) (i:Int),ds=[.fl (ns.map .int), .int i]/\0<=i/\i<2^40/\∀p M',M p=none->Le M M'->FdM M' p 0->k (.mt p) M'
noncomputable def aOZ:Ct:=λds M k=>∃(p:Addr) (n b:Int),ds=[.mt p, .int n]/\0<n/\n<1073741824/\FdM M p b/\b<=1000000/\∀z M',0<=z->z<n->FdM M' p (b+1)->dH p M M'->(∀a,a≠p->M' a=M a)->k (.int z) M'
noncomputable def aK3:Ct:=λds M k=>∃a b:Int,ds=[.int a, .int b]/\k (.int ((vo a b:Nat):Int)) M
theorem aIM{ns:List Int}{k:Int}(h0:0<=k)(h:k<ns.length):∃z:Int,atI (ns.map D.int) k=some (.int z):=by
 obtain⟨j,rfl⟩:∃j:Nat,k=(j:Int):=⟨k.toNat,by lia⟩
 have a:j<ns.length:=by lia
 exact⟨ns[j],eG (by simp[a])⟩
theorem iJ{o:MO}(h:M a=none):g7 (bG M a o) a=M:=by
 funext b
 unfold g7 bG
 by_cases e:b=a
 ·rw[if_pos e,e,h]
 ·rw[if_neg e,if_neg e]
noncomputable def gX(bt at_:Int):D := .tup [.int (at_/((vo at_ bt:Nat):Int)), .int (bt/((vo at_ bt:Nat):Int))]
structure Ats(bt:Int)(ats:List Int):Prop where
 bt:bt=1\/bt=2\/bt=9
 up:ats.Pairwise (· < ·)
 bd:∀a∈ats, -20<=a/\a<=10^10
noncomputable def aM6:Ct:=λds M k=>∃(p:Addr) (many b:Int),ds=[.mt p, .int many]/\0<=many/\many<=20/\FdM M p b/\b<=900000 /\
 ∀(a:Addr) (M':Mem) (bt:Int) (ats:List Int),M a=none->M' a=some (.lst (ats.map (gX bt)))->FdM M' p (b+50)->dH p M M'->ats.length=(many+1).toNat->Ats bt ats->k (.mt a) M'
theorem aL6{z:Int}(h0:0<=z)(h1:z<4):∃bt:Int,atI [D.int 1, .int 1, .int 2, .int 9] z=some (.int bt)/\(bt=1\/bt=2\/bt=9):=by
 have:z=0\/z=1\/z=2\/z=3:=by lia
 rcases this with rfl|rfl|rfl|rfl
 ·exact⟨1,rfl, .inl rfl⟩
 ·exact⟨1,rfl, .inl rfl⟩
 ·exact⟨2,rfl, .inr (.inl rfl)⟩
 ·exact⟨9,rfl, .inr (.inr rfl)⟩
theorem aEM{z:Int}(h0:0<=z)(h1:z<3):∃m:Int,atI [D.int 1, .int 4, .int (10^(8:Int).toNat)] z=some (.int m)/\1<=m/\m<=100000000:=by
 have:z=0\/z=1\/z=2:=by lia
 rcases this with rfl|rfl|rfl
 ·exact⟨1,rfl,by decide,by decide⟩
 ·exact⟨4,rfl,by decide,by decide⟩
 ·exact⟨_,rfl,by decide,by decide⟩
theorem aGE{a bt:Int}(h:bt=1\/bt=2\/bt=9):0<((vo a bt:Nat):Int)/\((vo a bt:Nat):Int)<1073741824:=by
 have b:bt≠0:=by rcases h with rfl|rfl|rfl <;> decide
 have c:0<vo a bt:=hR a b
 have d:vo a bt<=bt.natAbs:=JQ '#' (Int.gcd_dvd_natAbs_right a bt)
 have:bt.natAbs<=9:=by rcases h with rfl|rfl|rfl <;> decide
 lia
noncomputable def aOU:Ct:=λds M k=>∃(p:Addr) (b way i j wide high:Int),ds=[.mt p, .int way, .int i, .int j, .int wide, .int high]/\0<=way/\way<9/\FdM M p b/\b<=900000/\0<=i/\i<=1000/\0<=j/\j<=1000/\0<=wide/\wide<=1000 /\
 ∀c M',FdM M' p (b+1)->dH p M M'->k (.bl c) M'
noncomputable def kP(xs:List D)(js:List Nat):List D:=js.map λj=>xs.getD j .non
noncomputable def aKF:Ct:=λds M k=>∃(xs:List D) (zs:List Str) (n:Nat),ds=[.lst xs, .lst (zs.map .str)]/\zs.length<=1000/\n<=1000/\(∀z∈zs,z.length=n)/\xs.length=zs.length+1 /\
 k (.tup [.lst (kP xs (R.chg zs)), .lst ((R.aF zs).map .str)]) M
noncomputable def aLO:Ct:=λds M k=>∃(zs:List Str) (n:Nat),ds=[.lst (zs.map .str)]/\zs.length<=1000/\n<=1000/\(∀z∈zs,z.length=n)/\k (.lst ((R.aC zs).map .str)) M
noncomputable def dZ(xs ys:List D)(zs:List Str):D := .tup [.tup xs, .tup ys, .tup (zs.map .str)]
noncomputable def aOK:Ct:=λds M k=>∃(xs ys:List D) (zs:List Str) (n:Nat),ds=[.lst xs, .lst ys, .lst (zs.map .str)]/\zs.length<=1000/\n<=1000/\R.Good n zs/\xs.length=n+1/\ys.length=zs.length+1 /\
 (R.aF zs=[]->k (dZ [] [] []) M)/\(R.aF zs≠[]->k (dZ (kP xs (R.chg (R.aC (R.aF zs)))) (kP ys (R.chg zs)) (R.aC (R.aF (R.aC (R.aF zs))))) M)
structure YardOk(xs ys:List D)(zs:List Str):Prop where
 lx:∃bt ats,xs=ats.map (gX bt)/\Ats bt ats
 ly:∃bt ats,ys=ats.map (gX bt)/\Ats bt ats
 wf:R.Wf xs.length ys.length zs
 few:xs.length<=21/\ys.length<=21
 full:zs=[]->xs=[]/\ys=[]
theorem zN(hz:∀z∈zs,z.length=n)(hn:n<=1000):∃z0:Str,atI (zs.map D.str++[.str ""]) 0=some (.str z0)/\(∀z∈zs,z0.length=z.length)/\z0.length<=1000:=by
 cases zs with
 |nil=>exact⟨"", rfl,λz h=>(nomatch h),by decide +kernel⟩
 |cons z zr=>exact⟨z,eG (j:=0) rfl,λy a=>by rw[hz z '$',hz y a],by rw[hz z '$'];exact hn⟩
theorem zI{z0:Str}(h:atI (zs.map D.str++[.str ""]) 0=some (.str z0)):z0.length=(zs.head?.map (·.length)).getD 0:=by
 cases zs with
 |nil =>
  have:D.str "" = D.str z0:=qz h
  injection this with e
  rw[<- e];decide +kernel
 |cons z zr =>
  have:D.str z=D.str z0:=qz ((show some (D.str z)=atI _ 0 from (eG (j:=0) rfl).symm).trans h)
  injection this with e
  rw[<- e];rfl
theorem cR{α β:Type}{f:α->β}{l:List α}{y:β}(h:(l.map f)[i]?=some y):∃x,l[i]?=some x/\y=f x:=by
 rw[qm] at h
 cases e:l[i]? with
 |none=>rw[e] at h;cases h
 |some x=>rw[e] at h;exact⟨x,rfl,(qz h).symm⟩
end Q
namespace Z
open PySem L2
theorem aND{K:Fg}{i:Int}(q1:Seq M d1 t ds)(h:∃d,atI ds i=some d/\k d M):Op2 K (rIx K) d1 (.int i) M k:=by
 obtain⟨d,e,hk⟩:=h
 exact bB q1 e hk
end Z
namespace Q
open PySem L2 Z
theorem pick5b{a b c d e:Bool}{z:Int}{P:D->Prop}(h0:0<=z)(h1:z<5)(h:∀t,P (.bl t)):∃x,atI ([D.bl a, .bl b, .bl c, .bl d]++[.bl e]) z=some x/\P x:=by
 have:z=0\/z=1\/z=2\/z=3\/z=4:=by omega
 rcases this with rfl|rfl|rfl|rfl|rfl
 ·exact⟨_,rfl,h _⟩
 ·exact⟨_,rfl,h _⟩
 ·exact⟨_,rfl,h _⟩
 ·exact⟨_,rfl,h _⟩
 ·exact⟨_,rfl,h _⟩
theorem aOH{z:Int}(h0:0<=z)(h1:z<5):∃q:Int,atI [D.int 14, .int 14, .int 14, .int 4, .int 14] z=some (.int q)/\0<q/\q<=14:=by
 have:z=0\/z=1\/z=2\/z=3\/z=4:=by omega
 rcases this with rfl|rfl|rfl|rfl|rfl
 ·exact⟨_,rfl,by decide,by decide⟩
 ·exact⟨_,rfl,by decide,by decide⟩
 ·exact⟨_,rfl,by decide,by decide⟩
 ·exact⟨_,rfl,by decide,by decide⟩
 ·exact⟨_,rfl,by decide,by decide⟩
theorem rQ(h:n<=1000):("." : Str).length*((n:Int)).toNat<=sizeLine:=by
 have e:("." : Str).length=1:=by decide +kernel
 rw[e,qi,K7]
 exact R.aX '!'
theorem gW(h:i<zs.length+2):∃u,(R.framed zs)[i]?=some u:=⟨(R.framed zs)[i]'(by rw[R.kW];exact h),by simp[R.kW,h]⟩
theorem nH{z:Str}(h:zs[i]?=some z):atI (zs.map D.str) (0+(i:Int))=some (.str z):=by
 rw[kq];exact eG (by rw[qm,h];rfl)
theorem sE{z:Str}(h:zs[i+1]?=some z):atI (zs.map D.str) (0+(i:Int)+1)=some (.str z):=by
 rw[kq];exact eG (j:=i+1) (by rw[qm,h];rfl)
noncomputable def dB(l:List Nat):List D:=l.map λ(i:Nat)=>D.int (i:Int)
theorem fS(h:(dB l)[i]?=some d):∃j,l[i]?=some j/\d = .int (j:Int):=cR h
theorem cJ(l:List Nat):(dB l).length=l.length:=by simp[dB]
theorem aAF:(qr (zs.length+1)).filter (λi => !decide ((R.framed zs)[i]?=(R.framed zs)[i+1]?))=R.chg zs:=by
 unfold R.chg
 cases zs with
 |nil=>rfl
 |cons z zr=>rfl
theorem fY{p:Nat->Bool}:(qr (n+1)).filter p=if p n=true then (qr n).filter p++[n] else (qr n).filter p:=by
 rw[jq,ye]
 by_cases h:p n=true
 ·rw[if_pos h,j1 h];rfl
 ·rw[if_neg h,wq h,hJ,wb]
theorem gJ{α:Type}(l:List α):cutD l none (some (-1))=l.dropLast:=by
 unfold cutD
 have a:HT.sIx l.length 0 none=0:=rfl
 have b:HT.sIx l.length l.length (some (-1))=l.length-1:=by
  show (if (-1:Int)<0 then ((-1:Int)+(l.length:Int)).toNat else min (-1:Int).toNat l.length)=l.length-1
  rw[if_pos (by decide)];omega
 rw[a,b,z8,rF,ri]
theorem fV(l:List Nat):(dB l).dropLast=dB l.dropLast:=by simp[dB,Qu]
theorem cC{α β:Type}{f:α->β}{l:List α}{x:α}(h:l[i]?=some x):(l.take (i+1)).map f=(l.take i).map f++[f x]:=by
 rw[take_snoc h,qg];rfl
theorem yX{xs:List D}(h:j<xs.length):atI xs (j:Int)=some (xs.getD j .non):=eG (by simp[h])
theorem lM(l:List Str)(h:∀z∈l,z.length=1):(l.map (·.length)).sum=l.length:=by
 induction l with
 |nil=>rfl
 |cons a l ih =>
  rw[jd,cj,ih λz b=>h z (by simp[b]),h a '$',qp,Kd]
theorem rX(zs:List Str)(j:Nat):cF vp (zs.map λz=>(⟨#[R.atS z j]⟩:Str))=R.ofL (zs.map (R.atS · j)):=by
 have:=R.lL (zs.map (R.atS · j))
 rw[jw] at this
 exact this
theorem aLF(h:j<zs.length):atI ((R.framed zs).map D.str) ((j:Int)+1)=some (.str (zs.getD j vp)):=by
 refine eG (j:=j+1) ?_
 rw[qm,R.cG h,zGe h,zGd,zGe h]
 rfl
theorem wM:∀(zs:List Str) (n:Nat),okDs n (zs.map D.str)=true
 |[],_=>rfl
 |z::zs,n=>by rw[jd];simp only[okDs,okD,ni];exact wM zs n
theorem aKZ(zs:List Str):okD 2 (.lst (zs.map D.str))=true:=by simp only[okD];exact wM zs 1
theorem eq_nil:eqD (.lst ds) (.lst [])=decide (ds=[]):=by
 simp only[eqD]
 cases ds with
 |nil=>simp[eqDs]
 |cons d ds=>simp[eqDs]
theorem map_nil{α β:Type}{f:α->β}{l:List α}(h:decide (l.map f=[])=true):l=[]:=by
 have:=of_decide_eq_true h
 cases l with
 |nil=>rfl
 |cons a l=>cases this
end Q
namespace R
open PySem L2
theorem units_le{k:Nat}(hr:Room k A)(h:n<=64:=by decide):A.units+n<cLine:=by have:=hr.units;omega
end R
namespace Q
open PySem L2 Z
theorem FdM.del{p:Addr}{b:Int}(h:FdM M p b)(n:a≠p):FdM (g7 M a) p b:=by
 obtain⟨g,m,st,e,r⟩:=h
 exact⟨g,m,st,by rw[gO (ya n)];exact e,r⟩
theorem dH.del{p:Addr}{M':Mem}(h:dH p M M')(n:M a=none):dH p M (g7 M' a):=λb u nb e=>by
 rw[gO (λz=>by rw[z,n] at e;cases e)];exact h b u nb e
theorem aEC(M:Mem)(a:Addr):Le (g7 M a) M:=λb o h=>by
 by_cases z:b=a
 ·rw[z,kI] at h;cases h
 ·rw[gO z] at h;exact h
theorem dH.none_of{p:Addr}{M':Mem}(h:dH p M M')(n:M' a=none)(np:a≠p):M a=none:=by
 cases e:M a with
 |none=>rfl
 |some o=>rw[h a o np e] at n;cases n
theorem aIG(c:Bool):atI ((".#" : Str).cps.toList) (if c=true then (1:Int) else 0)=some (if c=true then 35 else 46):=by
 cases c <;> decide +kernel
theorem aEY(h:R.Good n zs){cs:List Nat}(hl:cs.length=n)(hs:∀c∈cs,c=35\/c=46):R.Good n (zs++[R.ofL cs]):=λz a=>by
 rcases q5.mp a with a|a
 ·exact h z a
 ·rw[qk] at a
  subst a
  refine⟨by rw[R.lJ];exact hl,?_⟩
  show cs.all R.sgn=true
  rw[wg]
  intro c b
  rcases hs c b with rfl|rfl <;> rfl
theorem uH(l:List Nat):((l.map λc=>(⟨#[c]⟩:Str)).map (·.length)).sum=l.length:=by
 rw[lM _ λz hz=>by obtain⟨c,_,rfl⟩:=qq.mp hz;rfl,zLm]
end Q
namespace Z
open PySem L2
section
variable {K:Fg}
noncomputable def aJF:D->Bool
 |.non=>true
 |_=>false
theorem aKV(h:Den K G d v):decide (v = .non)=aJF d:=by
 cases d with
 |non=>rw[h.non_];rfl
 |bl b=>rw[h.bl_];rfl
 |int b=>rw[h.int_];rfl
 |str b=>rw[h.str_];rfl
 |mt b=>rw[h.mt_];rfl
 |tup b=>obtain⟨_,_,e,_⟩:=h.tup_;rw[e];rfl
 |lst b=>obtain⟨_,_,e,_⟩:=h.lst_;rw[e];rfl
 |fl b=>obtain⟨_,_,e,_⟩:=h.fl_;rw[e];rfl
 |st b=>obtain⟨_,_,_,e,_⟩:=h.st_;rw[e];rfl
theorem aKJ(h:k (.bl (!aJF d)) M):Op2 K (λx y H Q=>y = .non/\Q (.bl (!decide (x = .non))) H) d .non M k:=λG H v1 v2 Q c a b q =>
 ⟨b.non_,by rw[aKV a];exact q _ _ _ _ _ (Stp.refl c) dG h⟩
end
theorem wU{es:List D}(h:(kY es)[i]?=some d):∃x,es[i]?=some x/\d = .tup [.int (i:Int),x]:=by
 unfold kY at h
 rw[List.getElem?_mapIdx] at h
 cases e:es[i]? with
 |none=>rw[e] at h;cases h
 |some x=>rw[e] at h;exact⟨x,rfl,(qz h).symm⟩
theorem wJ(es:List D):(kY es).length=es.length:=by simp[kY]
end Z
namespace L2
open PySem PySem.Spec PyProof.Rows
section
noncomputable def aB4(K:qe):V->List V->Hp->VK->Prop:=λx vs H Q=>∃(a:Addr) (bs:List Bool) (c:Bool),x = .ref a/\vs=[.bl c]/\SqL K H a (bs.map V.bl)/\Q (.int ((bs.count c:Nat):Int)) H
theorem aE4{bs:List Bool}(c:Bool):∀{its:List Value},Vals (bs.map V.bl) its->its.countP (isBoolOf c)=bs.count c:=by
 induction bs with
 |nil=>intro its r;cases r;rfl
 |cons b bs ih =>
  intro its r
  cases r with
  |cons r1 r2 =>
   cases (show _=k5 b from r1)
   rw[QQ,ih r2,zk]
   rfl
theorem aFH:MtR X "list.count" (aB4 X.K):=by
 intro pins s σ H x vs v us Q I w o h
 obtain⟨a,bs,c,rfl,rfl,t,q⟩:=h
 cases w
 obtain⟨u,rfl,p⟩:=vals1 o
 cases (show u=k5 c from p)
 obtain⟨b,r,z,C⟩:=I.list t
 obtain⟨⟨cls,B,data,A⟩,k,l,n,hd⟩:=id z.isList
 have f:cls = .type "list" := l
 have d:data = .seq b.toArray n:=hd
 subst f d
 refine tw wk ⟨_,k,rfl⟩ hO (g5 _ _) (Qa a b.toArray n B A (.bool c) (isBoolOf c)) ⟨k,λy m => ?_,?_⟩
 ·have hm:y∈b:=by simpa using m
  obtain⟨j,i⟩:=vr hm
  have e:j<(bs.map V.bl).length:=by rw[r.length];exact (zGs i).1
  obtain⟨D,g,r2⟩:=r.get (zGe e)
  rw[i] at g;cases g
  rw[cv] at r2
  cases (show y=k5 _ from r2)
  exact md _ c
 ·rw[show b.toArray.toList=b from rfl,aE4 c r]
  exact⟨.int _,H,I.tok _,⟨_,rfl⟩,q⟩
end
end L2
namespace Z
open PySem L2
section
variable {K:Fg}
theorem aGC{bs:List Bool}{c:Bool}(q1:Seq M d true (bs.map D.bl))(h:k (.int ((bs.count c:Nat):Int)) M):OpM K (aB4 K) d [.bl c] M k:=λG H v vs Q b e i q=>by
 obtain⟨u,rfl,f⟩:=dens1 i
 obtain⟨a,ws,ev,s,g⟩:=q1.sq b e
 rw[if_pos rfl,aBR g] at s
 rw[f.bl_]
 exact⟨a,bs,c,ev,rfl,s,q _ _ _ _ _ (Stp.refl b) cZ h⟩
end
end Z
namespace Q
open PySem L2 Z
noncomputable def cHas:Ct:=λds M k=>∃(x y:D) (zs:List Str) (a u:Int),ds=[.tup [x,y, .tup (zs.map .str)], .int a, .int u]/\(∀z∈zs,z.length<=1000)/\k (.bl (R.aP zs a u)) M
noncomputable def aO8:Option Str->D
 |some t => .str t
 |none => .non
noncomputable def aPQ:Ct:=λds M k=>∃(x y:D) (zs:List Str) (i j:Nat),ds=[.tup [x,y, .tup (zs.map .str)], .int (i:Int), .int (j:Int)]/\(∀z∈zs,z.length<=1000)/\k (aO8 (R.cL zs i j)) M
noncomputable def mkC(x y:D)(t:Str):D := .tup [x,y, .str t]
noncomputable def aIX:Ct:=λds M k=>∃(xs ys:List D) (zs:List Str),ds=[dZ xs ys zs]/\(∀z∈zs,z.length<=1000)/\xs.length<=100/\ys.length<=100/\∀a,M a=none->k (.mt a) (bG M a (.lst (R.corn mkC xs ys (R.cL zs) xs.length)))
theorem aDF(a b c d:Bool):(([a,b,c,d].count true:Nat):Int)=((a.toNat+b.toNat+c.toNat+d.toNat:Nat):Int):=by cases a <;> cases b <;> cases c <;> cases d <;> rfl
theorem aFA{c:Nat}:decide ((⟨#[c]⟩:Str)=("#" : Str))=decide (c=35):=by
 have e:("#" : Str)=⟨#[35]⟩:=by decide +kernel
 rw[e]
 by_cases h:c=35
 ·rw[h];simp
 ·rw[decide_eq_false h]
  exact decide_eq_false λz=>h (by injection z with z;simpa using z)
theorem cell_in{a u:Int}(h1:¬decide (u<0)=true)(h2:¬decide (((zs.map D.str).length:Int)<=u)=true)(h3:¬decide (a<0)=true):0<=u/\0<=a/\∃z,zs[u.toNat]?=some z/\atI (zs.map D.str) u=some (.str z):=by
 have d:¬u<0:=λz=>h1 (decide_eq_true z)
 have e:¬((zs.length:Nat):Int)<=u:=λz=>h2 (decide_eq_true (by rw[zLm];exact z))
 have c:¬a<0:=λz=>h3 (decide_eq_true z)
 obtain⟨j,rfl⟩:∃j:Nat,u=(j:Int):=⟨u.toNat,by omega⟩
 have b:j<zs.length:=by omega
 refine⟨by omega,by omega,zs[j],by simp[b],eG (by simp[b])⟩
theorem aJ4{z:Str}{a:Int}(ha:0<=a)(h:¬((z.length:Nat):Int)<=a):∃c,z.cps.toList[a.toNat]?=some c/\atI z.cps.toList a=some c:=by
 obtain⟨j,rfl⟩:∃j:Nat,a=(j:Int):=⟨a.toNat,by omega⟩
 have b:j<z.cps.toList.length:=by rw[jj];have:z.cps.size=z.length:=rfl;omega
 exact⟨z.cps.toList[j],by simp,eG (zGe b)⟩
end Q
namespace HT
open PySem PySem.Spec PyProof.Rows
section
variable {E:Value->Shared->Prop}
end
end HT
namespace L2
open PySem PySem.Spec PyProof.Rows
section
end
end L2
namespace Z
open PySem L2
section
theorem aN3{K:Fg}{c e:D}(r:Rs M d e)(he:e = .tup ds\/e = .lst ds)(hc:okD n c=true)(hd:okDs n ds=true)(h:k (.bl (ds.any λx=>eqD x c)) M):Op2 K (aDO K n false) c d M k:=λG H v1 v2 Q a b f q =>
 ⟨c,e,ds,he,hc,hd,b.up a.same,r.den a f,q _ _ _ _ _ (Stp.refl a) dG h⟩
theorem aFX(hu:X.A.units+(n+1)<cLine):OpR X (wa .NotIn) (aDO X.K n true):=by
 intro pins s σ H x y v u Q I w r h
 obtain⟨c,d,ds,hd,m,f,B,p,q⟩:=h
 have one:∀{b:List Value}{vs:List V},Vals vs b->Dens X.K H ds vs->∀y∈b.toArray,Qg X.A.in1 s y v (eOf ds b c y):=λ{b vs} g i y t=>by
  obtain⟨j,o⟩:=vr (show y∈b by simpa using t)
  have l:j<vs.length:=by rw[g.length];exact (zGs o).1
  obtain⟨C,k,r1⟩:=g.get (zGe l)
  rw[o] at k;cases k
  obtain⟨e,k,z⟩:=i.get' (zGe l)
  rw[pS I f i g o k]
  exact eqAt_D I e n c _ x y v X.A.in1 (bZ f k) m z B r1 w (by show X.A.units+1+n<cLine;lia)
 rcases hd with rfl|rfl
 ·obtain⟨a,b,vs,rfl,it,g,i⟩:=dS I p r
  refine SeqAt.notIn_tupleAt (eOf ds b c) it (one g i) ?_
  rw[qL I f i g]
  exact⟨.bl _,H,I,rfl,q⟩
 ·obtain⟨a,b,vs,rfl,it,g,i⟩:=dW I p r
  refine SeqAt.notIn_listAt (eOf ds b c) it (one g i) ?_
  rw[qL I f i g]
  exact⟨.bl _,H,I,rfl,q⟩
theorem aGD{K:Fg}{c e:D}(r:Rs M d e)(he:e = .tup ds\/e = .lst ds)(hc:okD n c=true)(hd:okDs n ds=true)(h:k (.bl (!ds.any λx=>eqD x c)) M):Op2 K (aDO K n true) c d M k:=λG H v1 v2 Q a b f q =>
 ⟨c,e,ds,he,hc,hd,b.up a.same,r.den a f,q _ _ _ _ _ (Stp.refl a) dG h⟩
end
end Z
namespace Q
open PySem L2 Z
end Q
namespace Z
open PySem L2
theorem slen(a b:Str):(a++b).length=a.length+b.length:=by
 show (a.cps++b.cps).size=_
 rw[Array.size_append];rfl
theorem rD:∀(ts:List Str) (k:Nat) (acc:Str),(textFrom k acc ts).length<=acc.length+(ts.map (·.length)).sum+2*ts.length
 |[],k,acc=>by simp[textFrom]
 |t::ts,k,acc=>by
  have a:=rD ts (k+1) (acc++(if k>0 then ", " else "" : String)++t)
  have e:(acc++((if k>0 then ", " else "" : String):Str)++t).length<=acc.length+2+t.length:=by
   rw[slen,slen]
   split
   ·have:((", " : String):Str).length=2:=by decide +kernel
    lia
   ·have:(("" : String):Str).length=0:=by decide +kernel
    lia
  show (textFrom (k+1) (acc++(if k>0 then ", " else "" : String)++t) ts).length<=_
  rw[jd,cj,qp]
  lia
theorem aA4(ts:List Str):(listText ts).length<=(ts.map (·.length)).sum+2*ts.length+2:=by
 unfold listText
 rw[slen]
 have h:=rD ts 0 "["
 have a:("[" : Str).length=1:=by decide +kernel
 have b:("]" : Str).length=1:=by decide +kernel
 lia
theorem join_le:∀ts:List Str,(Str.join ", " ts).length<=(ts.map (·.length)).sum+2*ts.length
 |[]=>by show (vp).length<=_;exact vq _
 |[x]=>by show x.length<=_;simp
 |x::y::r=>by
  have a:=join_le (y::r)
  show (x ++ ", " ++ Str.join ", " (y::r)).length<=_
  rw[slen,slen]
  have b:((", " : String):Str).length=2:=by decide +kernel
  rw[jd,cj,qp]
  lia
theorem zZ(ts:List Str):(tupleText ts).length<=(ts.map (·.length)).sum+2*ts.length+3:=by
 unfold tupleText
 rw[slen,slen]
 have h:=join_le ts
 have a:("(" : Str).length=1:=by decide +kernel
 have b:(((if ts.length==1 then ",)" else ")" : String)):Str).length<=2:=by split <;> decide +kernel
 lia
mutual
noncomputable def smD:D->Bool
 |.non|.bl _|.str _=>true
 |.int i=>decide (i.natAbs<10^65)
 |.tup ds=>smDs ds
 |.lst ds=>smDs ds
 |.mt _|.fl _|.st _=>false
noncomputable def smDs:List D->Bool
 |[]=>true
 |d::ds=>smD d&&smDs ds
end
mutual
noncomputable def wt:D->Nat
 |.non=>4
 |.bl _=>5
 |.int _=>66
 |.str x=>(reprText x).length
 |.tup ds=>wts ds+3
 |.lst ds=>wts ds+2
 |.mt _|.fl _|.st _=>0
noncomputable def wts:List D->Nat
 |[]=>0
 |d::ds=>wt d+2+wts ds
end
mutual
theorem shown_le:∀d:D,smD d=true->(toPy d).showable=true/\(toPy d).shown.length<=wt d
 |.non,_=>by simp only[toPy,yz,zm,wt];exact⟨trivial,by decide +kernel⟩
 |.bl b,_=>by simp only[toPy,yz,zm,wt];exact⟨trivial,by cases b <;> decide +kernel⟩
 |.str x,_=>by simp only[toPy,yz,zm,wt];exact⟨trivial,ql _⟩
 |.int i,h=>by
  simp only[smD,decide_eq_true_eq] at h
  simp only[toPy,yz,zm,wt,decide_eq_true_eq]
  refine⟨?_,?_⟩
  ·have e:i.natAbs<2^1920:=q3 h (by decide)
   by_cases h0:i.natAbs=0
   ·rw[h0];decide
   ·exact (Nat.log2_lt h0).mpr e
  ·have:=int_text_length_le10 (a:=i) (k:=65) (by decide) h
   show (ja (toString i)).length<=66
   rw[ofString_length];exact this
 |.mt _,h=>by simp[smD] at h
 |.fl _,h=>by simp[smD] at h
 |.st _,h=>by simp[smD] at h
 |.tup ds,h=>by
  simp only[smD] at h
  obtain⟨c,e⟩:=showns_le ds h
  simp only[toPy,yz,zm,wt]
  exact⟨c,jn (zZ _) '#'⟩
 |.lst ds,h=>by
  simp only[smD] at h
  obtain⟨c,e⟩:=showns_le ds h
  simp only[toPy,yz,zm,wt]
  exact⟨c,jn (aA4 _) '#'⟩
theorem showns_le:∀ds:List D,smDs ds=true->du (toPys ds)=true/\((cI (toPys ds)).map (·.length)).sum+2*(cI (toPys ds)).length<=wts ds
 |[],_=>by simp[toPys,du,cI,wts]
 |d::ds,h=>by
  simp only[smDs,qn] at h
  obtain⟨a1,a2⟩:=shown_le d h.1
  obtain⟨a,b2⟩:=showns_le ds h.2
  simp only[toPys,du,cI,wts,jd,cj,qp]
  exact⟨by rw[a1,a];rfl,by lia⟩
end
theorem m7:∀{ds:List D},(∀d∈ds,okD n d=true)->okDs n ds=true
 |[],_=>by simp only[okDs]
 |d::ds,h=>by
  have a:=m7 (ds:=ds) λe he=>h e (jf _ he)
  simp only[okDs,h d '$',a,wo]
end Z
namespace Q
open PySem L2 Z
noncomputable def pairD(p:Int×Int):D := .tup [.int p.1, .int p.2]
noncomputable def aDB:Ct:=λds M k=>∃ns:List Int,ds=[.fl (ns.map .int)]/\ns.length<=63/\∀M',k (.bl true) M'
end Q
namespace L2
open PySem PySem.Spec PyProof.Rows
section
end
end L2
namespace Z
open PySem L2
section
variable {a:Expr}{rest:List Expr}
end
section
theorem aN0(I:Inv X pins σ H s){e:D}{u:V}{v' u':Value}(A:Around)(g1:Disp d)(g2:Disp e)(h1:okD n d=true)(h2:okD n e=true)(x:Den X.K H d v)(y:Den X.K H e u)(rx:RelV v v')(ry:RelV u u')(hu:A.units+n<cLine):SeqAt.RcNeAt A s v' u' (!eqD d e):=by
 cases g1 with
 |tup ds =>
  obtain⟨a,p,vs,rfl,it,m,l⟩:=dS I x rx
  cases g2 with
  |lst es=>obtain⟨b,g,o,rfl,f,_⟩:=dW I y ry;simp only[eqD];exact Kh it f '!'
  |tup es =>
   obtain⟨b,g,o,rfl,f,i,h⟩:=dS I y ry
   cases n with
   |zero=>simp[okD] at h1
   |succ n =>
    have w:okDs n ds=true:=by simpa only[okD] using h1
    have z:okDs n es=true:=by simpa only[okD] using h2
    have:=Kg (A:=A) (s:=s) (e:=eqJ ds es) it f '!' (λj g1 g2=>by
     obtain⟨c,v1,r,C,r1⟩:=eS l m g1
     obtain⟨B,v2,q,E,r2⟩:=eS h i g2
     have:=eqAt_D I c n B v1 v2 _ _ A.in1 (bZ w r) (bZ z q) C E r1 r2 (by show A.units+1+n<cLine;omega)
     unfold eqJ;rw[r,q];exact this)
    rw[qb,qb,<- m.length,<- i.length,<- l.len,<- h.len,f8] at this
    simp only[eqD];exact this
 |lst ds =>
  obtain⟨a,p,vs,rfl,it,m,l⟩:=dW I x rx
  cases g2 with
  |tup es=>obtain⟨b,g,o,rfl,f,_⟩:=dS I y ry;simp only[eqD];exact Kk it f '!'
  |lst es =>
   obtain⟨b,g,o,rfl,f,i,h⟩:=dW I y ry
   cases n with
   |zero=>simp[okD] at h1
   |succ n =>
    have w:okDs n ds=true:=by simpa only[okD] using h1
    have z:okDs n es=true:=by simpa only[okD] using h2
    simp only[eqD]
    by_cases hl:ds.length=es.length
    ·have k:p.toArray.size=g.toArray.size:=by rw[qb,qb,<- m.length,<- i.length,<- l.len,<- h.len,hl]
     have:=Kj (A:=A) (s:=s) (e:=eqJ ds es) it f k '!' (λj g1 g2=>by
      obtain⟨c,v1,r,C,r1⟩:=eS l m g1
      obtain⟨B,v2,q,E,r2⟩:=eS h i g2
      have:=eqAt_D I c n B v1 v2 _ _ A.in1 (bZ w r) (bZ z q) C E r1 r2 (by show A.units+1+n<cLine;omega)
      unfold eqJ;rw[r,q];exact this)
     have t:=f8 ds es
     rw[<- hl,se,beq_self_eq_true,wo] at t
     rw[qb,<- m.length,<- l.len,t] at this
     exact this
    ·have k:(p.toArray.size != g.toArray.size)=true:=by rw[bne_iff_ne,qb,qb,<- m.length,<- i.length,<- l.len,<- h.len];exact hl
     have t:=f8 ds es
     rw[beq_eq_false_iff_ne.mpr hl,xi] at t
     rw[<- t]
     exact Ki it f k '!'
end
section
theorem m8(hu:X.A.units+n<cLine):OpR X (wa .NotEq) (aCZ X.K n true):=by
 intro pins s σ H x y v u Q I c i h
 obtain⟨d,e,g1,g2,a,g,f,b,q⟩:=h
 exact aN0 I X.A g1 g2 a g f b c i hu X.prog X.w X.xe _ ⟨.bl (!eqD d e),H,I,rfl,q⟩
theorem nL{K:Fg}{e1 e2:D}(r1:Rs M d1 e1)(r2:Rs M d2 e2)(h1:okD n e1=true)(h2:okD n e2=true)(h:k (.bl (!eqD e1 e2)) M):Op2 K (aCZ K n true) d1 d2 M k:=λG H v1 v2 Q a x y q =>
 ⟨e1,e2,r1.disp,r2.disp,h1,h2,r1.den a x,r2.den a y,q _ _ _ _ _ (Stp.refl a) dG h⟩
end
section
variable {K:Fg}
end
end Z
namespace Z
open PySem L2 PySem.Spec PyProof.Rows
noncomputable def tyN:D->String
 |.non => "NoneType"
 |.bl _ => "bool"
 |.int _ => "int"
 |.str _ => "str"
 |.tup _ => "tuple"
 |.lst _|.fl _|.mt _|.st _ => "list"
noncomputable def isN(T S:String):Bool:=S==T||(S == "bool" && T == "int")
noncomputable def isD(T:String)(d:D):Bool:=isN T (tyN d)
noncomputable def Slv:D->Prop
 |.mt _|.st _=>False
 |_=>True
inductive Rz(M:Mem):D->D->Prop
 |self {d:D} (h:Slv d):Rz M d d
 |mt {a:Addr}{ds:List D} (h:M a=some (.lst ds)):Rz M (.mt a) (.lst ds)
section
variable {p1:Pos}
end
end Z
namespace HD
open PySem PySem.Spec PyProof.Rows
section
variable {E:Value->Shared->Prop}{d:Addr}{o:Obj}{es:Array DictEntry}
theorem aGG(h1:s.heap.get? d=some o)(h2:o.ExactDict):s.TypeIs (.ref d) "dict" := ⟨o,h1,h2.1⟩
theorem aAU{Q:Value->Shared->Prop}(hd:(d==x7)=false)(h1:s.heap.get? d=some o)(h2:o.ExactDict)(h3:o.data = .dict es ep)(hs:es.size<=sizeLine)(h:Q (.ref s.heap.objs.size) {s with heap:=s.heap.push {cls := .type "dict_keyiterator", data := .fields #[.ref d, .int 0 0, .int es.size 0, .int ep 0]} }):wpAny (jt prog w) A (Jm (.ref d)) Q E s:=by
 have a:=aGG h1 h2
 refine wpAny_pyIter_slot a l4 (v3 l4 a F.entry_dict_iter ?_ (F.args_dict_iter_1 (.ref d)))
 refine qa (qa (QF a ?_.5))
 show wpAny (jt prog w) A.in1 (do
  (if (d==x7)=true then unsupported "sys.modules:all-start-up-values-wanted" else pure ())
  let b <- dictEntries d
  let c <- dictEpoch d
  let v <- newFields "dict_keyiterator" [wj d,rawInt 0,rawInt ↑b.size,rawInt ↑c]
  ret v) _ E s
 rw[if_neg (by rw[hd];exact zBf)]
 refine qa (qa (wd h1 h3 (qa (bo h1 h3 (qa (j0 ?_.5 ?_)))))).5
 ·exact⟨_,rfl, "dict_keyiterator", .builtin "dict_keyiterator.__next__", ⟨_,qu _ rfl,rfl⟩,wx.lookup,h⟩
 ·show (4:Nat)<=sizeLine+2
  rw[fx];omega
theorem aA8{Q:Option Value->Shared->Prop}{e:DictEntry}(hit:s.heap.IsKeyIter it d i es.size ep)(h1:s.heap.get? d=some o)(h3:o.data = .dict es ep)(he:es[i]?=some e)(h:∀h',h'.IsKeyIter it d (i+1) es.size ep->xr it s.heap h'->Q (some e.key) {s with heap:=h' }):wpAny (jt prog w) A (nt (.ref it)) Q E s:=by
 obtain⟨l,g,j,a⟩:=id hit
 have f:=hit.typeIs
 refine qa (gv (k4 f wx (v3 wx f mf ?_ (h8 _))))
 refine qa (qa (qa (qa (yg f (qa (Vc g a ?_)).5)))).5
 have b:cz "dict_keyiterator" = false:=by decide +kernel
 simp only[b,y1,if_false,z8,Vi]
 rw[if_neg (by exact zBf)]
 refine qa (qa (wd h1 h3 ?_)).5
 rw[if_neg (by rw[bne_self_eq_false];exact zBf)]
 refine qa (qa (bo h1 h3 ?_)).5
 rw[if_neg (by rw[bne_self_eq_false];exact zBf)]
 refine wpAny_pure ?_
 have k:(if (i:Int)<0 then none else es[(i:Int).toNat]?)=some e:=by
  rw[if_neg '!',qi];exact he
 simp only[k]
 refine qa (qa (yg f (qa (QG f ?_)).5))
 refine qa (fq g a ?_ ?_)
 ·simp[b]
 ·have c:(s.heap.update it (Obj.mapFields λx=>x.setIfInBounds 1 (rawInt (↑i+1)))).IsKeyIter it d (i+1) es.size ep:=by
   refine⟨_,xg _ g (tf (z9 a _)),(QK l _).trans j,?_⟩
   rw[z9 a]
   rfl
  refine qa (xj (qa (QG (JD (s:={s with heap:=_}) c) ?_)))
  exact wpAny_pure ⟨e.key,rfl,wpAny_pure (h _ c (jz s.heap it _))⟩.5
theorem aDL{Q:Option Value->Shared->Prop}(hh:A.handled=none)(hit:s.heap.IsKeyIter it d i es.size ep)(h1:s.heap.get? d=some o)(h3:o.data = .dict es ep)(he:es.size<=i)(h:∀h',Ke it s.heap h'->Q none {s with heap:=h' }):wpAny (jt prog w) A (nt (.ref it)) Q E s:=by
 obtain⟨k,f,j,b⟩:=id hit
 have c:=hit.typeIs
 refine qa (gv (k4 c wx (v3 wx c mf ?_ (h8 _))))
 refine qa (qa (qa (qa (yg c (qa (Vc f b ?_)).5)))).5
 have a:cz "dict_keyiterator" = false:=by decide +kernel
 simp only[a,y1,if_false,z8,Vi]
 rw[if_neg (by exact zBf)]
 refine qa (qa (wd h1 h3 ?_)).5
 rw[if_neg (by rw[bne_self_eq_false];exact zBf)]
 refine qa (qa (bo h1 h3 ?_)).5
 rw[if_neg (by rw[bne_self_eq_false];exact zBf)]
 refine wpAny_pure ?_
 have g:(if (i:Int)<0 then none else es[(i:Int).toNat]?)=none:=by
  rw[if_neg '!',qi];exact Array.getElem?_eq_none he
 simp only[g]
 refine qa (qa (yg c ?_.5))
 refine qa (fq f b ?_ ?_)
 ·simp[a]
 simp only[a,y1,if_false]
 refine qa (qa (j0 (qa (Jb (Eq.refl (rq (Qf "StopIteration") [])) (j0 (qa (wpAny_handled ?_)) (sizeOk_excFields ..)))) ?_))
 ·have e:A.in1.handled=none:=hh
  rw[e]
  refine wpAny_throw ?_
  refine qa (mw (T := "StopIteration") ⟨_,qu _ rfl,rfl⟩ Vg ?_)
  rw[if_pos rfl]
  exact wpAny_pure (h _ (nq (nq (KR (jz s.heap it _)) _) _))
 ·simp[sizeOk]
end
end HD
namespace HD
open PySem PySem.Spec PyProof.Rows
section
variable {K:Type}[DecidableEq K]{knd:Qc prog w K}{E:Value->Shared->Prop}{d:Addr}{xs:List (K×Addr×Value)}{k:K}{v:Value}
theorem aAL{Q:Unit->Shared->Prop}(hr:knd.room A)(hk:knd.is s.heap k a)(hd:vv knd s.heap d xs)(hsz:xs.length<=sizeLine)(h:∀h',vv knd h' d (fu xs k a v)->xr d s.heap h'->Q () {s with heap:=h' }):wpAny (jt prog w) A (dictSetHashed d (.ref a) (knd.hash k) v) Q E s:=by
 obtain⟨o,z,B,g,u,f,l,r,i⟩:=hd
 unfold dictSetHashed
 refine xj (qa (wpAny_dictFind_heap hr hk g f l r i (λm => ?_) (λj p t => ?_)))
 ·refine qa (de (wpAny_updateDictKeys g f (h _ ?_ (jz _ _ _)) (by rw[size_of_entries l];exact hsz) (by rw[Array.size_push];exact ql _)))
  have q:¬k∈xs.map (·.1):=not_mem_keys_of_get m
  refine⟨_,_,_,xg _ g (ff (zi f _)),u.mapDictKeys _,zi f _,?_,?_,?_⟩
  ·rw[n7 (df m),Array.toList_push,qg,l];rfl
  ·intro x c
   rw[n7 (df m)] at c
   rcases q5.mp c with c|c
   ·exact knd.keeps (r x c) g f (jz _ _ _)
   ·rw[qk] at c
    subst c
    exact knd.keeps hk g f (jz _ _ _)
  ·rw[n7 (df m),qg,y8]
   refine⟨i,by simp,λx c y n e => ?_⟩
   simp at n
   subst n;subst e
   exact q c
 ·have b:=atKey_of_get i t
  refine qa (de (qa (wpAny_updateDict g f (wpAny_point (h _ ?_ (jz _ _ _))) (by rw[Array.size_modify];exact ql _))))
  refine⟨_,_,_,xg _ g (ff (Q0 f _)),u.mapDict _,Q0 f _,?_,?_,?_⟩
  ·rw[Jc b,<- modify_map_putAt (tq knd) (λe=>{e with val:=v}) k v (λ_ _=>rfl) i t,<- l,Array.toList_modify]
  ·intro x c
   rw[Jc b] at c
   obtain⟨y,n,e⟩:=qq.mp c
   have:=knd.keeps (r y n) g f (jz s.heap d (Obj.mapDict λx=>x.modify j λe=>{e with val:=v}))
   rw[putAt.eq_1] at e
   split at e
   ·subst e;exact this
   ·subst e;exact this
  ·rw[Jc b,keys_map_putAt];exact i
noncomputable def d9(xs ys:List (K×Addr×Value)):List (K×Addr×Value):=ys.foldl (λacc y=>fu acc y.1 y.2.1 y.2.2) xs
theorem vG(xs:List (K×Addr×Value))(k:K)(a:Addr)(v:Value):(fu xs k a v).length<=xs.length+1:=by
 rw[storedH.eq_1]
 split
 ·rw[zLm];omega
 ·rw[qh];exact ql _
theorem nM:∀(ys xs:List (K×Addr×Value)),(d9 xs ys).length<=xs.length+ys.length
 |[],xs=>by show xs.length<=xs.length+0;omega
 |y::ys,xs=>by
  have a:=nM ys (fu xs y.1 y.2.1 y.2.2)
  have b:=vG xs y.1 y.2.1 y.2.2
  show (d9 (fu xs y.1 y.2.1 y.2.2) ys).length<=_
  rw[qp];omega
theorem oZ{α:Type}{f:α->Int}{c:Int}:∀{l:List α},(l.map f).Nodup->(l.filter λx=>f x==c).length<=1
 |[],_=>by simp
 |x::l,h=>by
  rw[jd,jl] at h
  rw[gj]
  split
  ·rename_i e
   have b:f x=c:=by simpa using e
   have:l.filter (λx=>f x==c)=[]:=by
    rw[wz]
    intro y a z
    have d:f y=c:=by simpa using z
    exact h.1 (by rw[b,<- d];exact List.mem_map_of_mem a)
   rw[this];simp
  ·exact oZ h.2
theorem aA3{id:String}{o:Addr}{ob:Obj}{es:Array DictEntry}{Q:Array DictEntry->Shared->Prop}(h1:s.heap.get? o=some ob)(h3:ob.data = .dict es ep)(hty:∀e∈es.toList,s.TypeIs e.key "tuple" /\ ∃a,e.key = .ref a)(hn:(es.toList.map (·.hash)).Nodup)(h:Q es s):wpAny (jt prog w) A (KY id o) Q E s:=by
 refine qa (wd h1 h3 ?_)
 rw[<- Array.forIn_toList]
 refine qa (J9 _ (λrest _ d=>d=s/\∀e∈rest,e∈es.toList) _ (λe rest b d ⟨c,hm⟩ => ?_) (λb d ⟨c,_⟩ => ?_) es.toList Kc ⟨rfl,λe he=>he⟩)
 ·subst c
  obtain⟨g,a,i⟩:=hty e (hm e (k3 ..))
  refine qa ?_
  rw[i] at g ⊢
  refine qa (K3 g KO.lookup ?_.5)
  rw[if_pos (by rfl)]
  have hf:(Array.filter (λx=>x.hash==e.hash) es).size<=1:=by
   rw[<- jj,Array.toList_filter]
   exact oZ (f:=λe:DictEntry=>e.hash) hn
  rw[if_neg '!']
  exact wpAny_pure ⟨rfl,λe he=>hm e (jf _ he)⟩
 ·subst c
  exact wpAny_pure h
end
end HD
namespace HD
open PySem PySem.Spec PyProof.Rows
section
variable {K:Type}[DecidableEq K]{knd:Qc prog w K}{E:Value->Shared->Prop}{d o:Addr}{xs ys:List (K×Addr×Value)}
theorem o5:∀(ys acc:List (K×Addr×Value)),((acc++ys).map (·.1)).Nodup->d9 acc ys=acc++ys
 |[],acc,_=>by rw[wb];rfl
 |y::ys,acc,h=>by
  have a:atKey acc y.1=none:=df λj p b=>by
   rw[qg,y8] at h
   exact h.2.2 y.1 (qq.mpr ⟨_,zMo b,rfl⟩) y.1 '$' rfl
  show d9 (fu acc y.1 y.2.1 y.2.2) ys=_
  rw[n7 a,o5 ys (acc++[(y.1,y.2.1,y.2.2)]) (by rw[vm];exact h),vm];rfl
theorem aIK{nm:String}{Q:Unit->Shared->Prop}(hr:knd.room A)(hne:d≠o)(ho:(o==x7)=false)(hd:vv knd s.heap d xs)(hy:vv knd s.heap o ys)(hsz:xs.length+ys.length<=sizeLine)(hty:∀y∈ys,s.TypeIs (.ref y.2.1) "tuple")(hn:xs=[]->(ys.map λy=>knd.hash y.1).Nodup)(h:∀h',vv knd h' d (d9 xs ys)->xr d s.heap h'->Q () {s with heap:=h' }):wpAny (jt prog w) A (gb nm d o) Q E s:=by
 obtain⟨L,a,U,v,Z,r,m,K,M⟩:=id hy
 obtain⟨X,u,R,t,V,q,P,Y,W⟩:=id hd
 unfold gb
 rw[if_neg (by simpa using hne)]
 refine qa ?_
 unfold KS
 rw[if_neg (by rw[ho];exact zBf)]
 refine wpAny_pure (qa (wd v r ?_))
 by_cases g:((!(decide (a.size<=8)&&a.all λe=>(keyPart e.key).isSome))=true)/\u.isEmpty=true
 ·obtain⟨f,g⟩:=g
  rw[if_pos f]
  refine qa (wd t q ?_)
  rw[if_pos g]
  have C:xs=[]:=by
   have:u.size=0:=by simpa using g
   rw[size_of_entries P] at this
   exact jr.mp this
  refine qa (aA3 v r ?_ ?_ ?_)
  ·intro e he
   rw[m] at he
   obtain⟨y,F,rfl⟩:=qq.mp he
   exact⟨hty y F,_,rfl⟩
  ·rw[m,jw]
   exact hn C
  ·have hm:d9 xs ys=ys:=by
    subst C
    exact o5 ys [] (by rw[Q4];exact M)
   by_cases p:(!a.isEmpty)=true
   ·rw[if_pos p]
    refine qa (wpAny_updateDictKeysTo t q ?_ ?_)
    ·refine wpAny_pure (h _ ?_ (jz _ _ _))
     rw[hm]
     exact⟨_,_,_,xg _ t (ff (zi q _)),V.mapDictKeys _,zi q _,m,λx C=>knd.keeps (K x C) t q (jz _ _ _),M⟩
    ·rw[size_of_entries m];omega
   ·rw[if_neg p]
    refine wpAny_pure (h s.heap ?_ (mq d s.heap))
    have:a.size=0:=by simpa using p
    rw[size_of_entries m] at this
    have:ys=[]:=jr.mp this
    subst this
    exact hd
 ·by_cases f:((!(decide (a.size<=8)&&a.all λe=>(keyPart e.key).isSome))=true)
  case' pos =>
   rw[if_pos f]
   refine qa (wd t q ?_)
   rw[if_neg (λz=>g ⟨f,z⟩)]
  case' neg=>rw[if_neg f]
  all_goals
   refine qa (bo v r (qa (wd v r (qa ?_))))
   rw[Q9]
   refine J9 _ (λrest _ I=>∃i h',I={s with heap:=h' }/\rest=List.range' i (a.size-i)/\i<=a.size/\vv knd h' d (d9 xs (ys.take i))/\xr d s.heap h') _ (λj rest b I ⟨i,h',G,c,S,l,k⟩ => ?_) (λb I ⟨i,h',G,c,S,l,k⟩ => ?_) _ Kc ⟨0,s.heap,rfl,by simp[Q8],vq _,hd,mq d s.heap⟩
   ·subst G
    have T:i<a.size:=by
     rcases Nat.lt_or_ge i a.size with z|z
     ·exact z
     ·rw[Nat.sub_eq_zero_of_le z] at c;simp at c
    rw[show a.size-i=(a.size-(i+1))+1 by omega,List.range'_succ] at c
    injection c with e1 e2
    subst e1
    have O:ys.length=a.size:=(size_of_entries m).symm
    obtain⟨y,n⟩:∃y,ys[j]?=some y:=⟨ys[j]' '!',by simp⟩
    have he:a[j]?=some (tq knd y):=by rw[entry_at m,n];rfl
    have H:y∈ys:=zMo n
    have N:h'.get? o=some L:=(k.2 o (ya hne)).trans v
    refine qa (wd (s:={s with heap:=h' }) N r ?_)
    rw[he]
    refine qa (xj (aAL (s:={s with heap:=h' }) hr (knd.keeps (K y H) t q k) l ?_ λD hd2 B => ?_))
    ·have:=nM (ys.take j) xs
     rw[vw] at this
     omega
    ·have J:D.get? o=some L:=(B.2 o (ya hne)).trans N
     refine qa (bo (s:={s with heap:=D}) J r ?_)
     rw[if_neg (by rw[bne_self_eq_false];exact zBf)]
     refine wpAny_pure ⟨j+1,D,rfl,e2,by omega,?_,k.trans B⟩
     have:d9 xs (ys.take (j+1))=fu (d9 xs (ys.take j)) y.1 y.2.1 y.2.2:=by
      rw[List.take_add_one,n]
      unfold d9
      rw[List.foldl_append];rfl
     rw[this];exact hd2
   ·subst G
    refine wpAny_pure ?_
    have:i=a.size:=by
     have:a.size-i=0:=by
      have:=congrArg cf c
      simpa using this.symm
     omega
    rw[this,size_of_entries m,qw] at l
    exact h h' l k
theorem aAV{Q:Value->Shared->Prop}(hr:knd.room A.in1)(hne:d≠o)(ho:(o==x7)=false)(hd:vv knd s.heap d xs)(hy:vv knd s.heap o ys)(hsz:xs.length+ys.length<=sizeLine)(hty:∀y∈ys,s.TypeIs (.ref y.2.1) "tuple")(hn:xs=[]->(ys.map λy=>knd.hash y.1).Nodup)(h:∀h',vv knd h' d (d9 xs ys)->xr d s.heap h'->Q .none {s with heap:=h' }):wpAny (jt prog w) A (call (.builtin "dict.update") [.ref d, .ref o]) Q E s:=by
 have e:s.TypeIs (.ref d) "dict" := hd.typeIs
 have a:s.TypeIs (.ref o) "dict" := hy.typeIs
 refine v3 F.slot_dict_update e F.entry_dict_update ?_ (F.args_dict_update_2 _ _)
 refine qa (qa (QF e ?_.5))
 refine qa (mh a ?_)
 rw[if_neg '$']
 refine qa ?_
 unfold KW
 refine qa ?_
 unfold KU
 refine qa (mw a isSubtype_dict_dict ?_)
 rw[if_neg (by decide)]
 refine qa (K3 a l4.lookup ?_.5)
 rw[if_pos (by rfl)]
 refine qa (aIK hr hne ho hd hy hsz hty hn λh' b c => ?_).5
 exact qa ⟨_,rfl,h h' b c⟩.5.5
theorem aIH{env:Env}{ke ve:Expr}{Q:Value->Shared->Prop}(hr:knd.room A)(h:wpAny (jt prog w) A (evalPairs (pairTrees [some ke] [ve] env pos)) (λvs s1=>∃a k v,vs=[(.ref a,v)]/\knd.is s1.heap k a/\vv knd s1.heap s.heap.objs.size [] /\
   ∀h',vv knd h' s.heap.objs.size [(k,a,v)]->xr s.heap.objs.size s1.heap h'->Q (.ref s.heap.objs.size) {s1 with heap:=h',toks:=s1.toks+knd.draws k}) E
   {s with heap:=s.heap.push {cls := .type "dict", data := .dict #[]} }):wpAny (jt prog w) A (eval (.Dict [some ke] [ve] pos) env) Q E s:=by
 rw[arm_eval_Dict]
 refine qa (zv ?_)
 have g:(evalEachOpt [some ke] env).zip ((evalEach [ve] env).map λv=>do let x <- v;lg pos;pure x)=(pairTrees [some ke] [ve] env pos).map λp=>(some p.1,p.2):=by rfl
 rw[g,dictDisplay_pairs _ (by intro z;cases z) (by show (1:Nat)<17;omega)]
 refine qa ?_
 unfold subDict
 refine qa (wpAny_alloc (qa (xj ?_)))
 rw[if_pos (by show (1:Nat)<=15;omega)]
 refine qa (x6 h (λvs s1 ⟨a,k,v,e,d,hd,f⟩ => ?_) (λ_ _ z=>z))
 subst e
 refine xj (qa ?_)
 refine qa (qa (wpAny_dictSet_heap hr d hd (λh' b c => ?_) (vq _)))
 exact wpAny_pure (f h' b c).5.5.5.5
end
end HD
namespace Z
open PySem PySem.Spec PyProof.Rows L2
abbrev kS(P:Program)(w:World):Qc P w (List Int):=tupleKind (intKind P w)
noncomputable def xsV(xs:List (List Int×Addr)):List (List Int×Addr×Value):=xs.map λp=>(p.1,p.2,k5 true)
theorem aD1(xs:List (List Int×Addr)):(xsV xs).map (tq (kS P w))=xs.map lZ:=by
 unfold xsV;rw[jw];rfl
theorem aHW(xs:List (List Int×Addr)):(xsV xs).map (·.1)=xs.map (·.1):=by
 unfold xsV;rw[jw];rfl
noncomputable def g8(ks:List (List Int))(k:List Int):List (List Int):=if k∈ks then ks else ks++[k]
noncomputable def jP(xs:List (List Int×Addr))(k:List Int)(b:Addr):List (List Int×Addr):=if k∈xs.map (·.1) then xs else xs++[(k,b)]
noncomputable def lS(ks ms:List (List Int)):List (List Int):=ms.foldl g8 ks
noncomputable def pI(xs ys:List (List Int×Addr)):List (List Int×Addr):=ys.foldl (λacc y=>jP acc y.1 y.2) xs
theorem wW(xs:List (List Int×Addr))(k:List Int)(b:Addr):(jP xs k b).map (·.1)=g8 (xs.map (·.1)) k:=by
 unfold jP g8;split <;> simp
theorem aBV(h:ks.Nodup)(k:List Int):(g8 ks k).Nodup:=by
 unfold g8;split
 ·exact h
 ·rename_i n
  rw[y8]
  exact⟨h,by simp,λx b y a e=>n (by simp at a;rw[<- a,<- e];exact b)⟩
theorem yQ(ks:List (List Int))(k:List Int):(g8 ks k).length<=ks.length+1:=by
 unfold g8;split
 ·omega
 ·simp
theorem aIR{k j:List Int}:j∈g8 ks k↔j∈ks\/j=k:=by
 unfold g8;split
 ·exact⟨.inl,λh=>h.elim id λe=>by rw[e];assumption⟩
 ·simp
theorem wK:∀(ys xs:List (List Int×Addr)),(pI xs ys).map (·.1)=lS (xs.map (·.1)) (ys.map (·.1))
 |[],xs=>rfl
 |y::ys,xs=>by
  show (pI (jP xs y.1 y.2) ys).map (·.1)=lS (g8 (xs.map (·.1)) y.1) (ys.map (·.1))
  rw[wK ys,wW]
theorem uQ:∀(ms ks:List (List Int)),ks.Nodup->(lS ks ms).Nodup
 |[],ks,h=>h
 |m::ms,ks,h=>uQ ms _ (aBV h m)
theorem yO:∀(ms ks:List (List Int)),(lS ks ms).length<=ks.length+ms.length
 |[],ks=>by show ks.length<=ks.length+0;omega
 |m::ms,ks=>by
  have a:=yO ms (g8 ks m)
  have b:=yQ ks m
  show (lS (g8 ks m) ms).length<=_
  rw[qp];omega
theorem sA{j:List Int}:∀{ms ks:List (List Int)},j∈lS ks ms↔j∈ks\/j∈ms
 |[],ks=>by show j∈ks↔_;simp
 |m::ms,ks=>by
  show j∈lS (g8 ks m) ms↔_
  rw[sA,aIR,qf,or_assoc]
theorem aAE{k:List Int}{b:Addr}{p:List Int×Addr}(h:p∈jP xs k b):p∈xs\/p=(k,b):=by
 unfold jP at h;split at h
 ·exact .inl h
 ·simpa using h
theorem yJ{p:List Int×Addr}:∀{ys xs:List (List Int×Addr)},p∈pI xs ys->p∈xs\/p∈ys
 |[],xs,h => .inl h
 |y::ys,xs,h=>by
  rcases yJ (ys:=ys) (xs:=jP xs y.1 y.2) h with h|h
  ·rcases aAE h with h|h
   ·exact .inl h
   ·exact .inr (by rw[h];exact k3 ..)
  ·exact .inr (jf _ h)
theorem mJ{k:List Int}:∀(xs:List (List Int×Addr)),(atKey (xsV xs) k).isSome=decide (k∈xs.map (·.1))
 |[]=>by simp[xsV,atKey]
 |x::xs=>by
  have a:=mJ (k:=k) xs
  rw[atKey.eq_1] at a ⊢
  show (JP _ (K8 _ ((x.1,x.2,k5 true)::xsV xs))).isSome=_
  rw[List.find?_cons]
  by_cases h:x.1=k
  ·simp[h]
  ·rw[decide_eq_false (show ¬((x.1,x.2,k5 true).1=k) from h)]
   rw[Option.isSome_map] at a ⊢
   show (K8 _ (xsV xs)).isSome=_
   rw[a]
   apply decide_eq_decide.mpr
   rw[jd,qf]
   exact⟨.inr,λz=>z.elim (λe=>absurd e.symm h) id⟩
theorem rK(xs:List (List Int×Addr))(k:List Int)(b:Addr):fu (xsV xs) k b (.bool true)=xsV (jP xs k b):=by
 rw[storedH.eq_1,mJ]
 unfold jP
 by_cases h:k∈xs.map (·.1)
 ·rw[if_pos h,if_pos (decide_eq_true h)]
  unfold xsV
  rw[jw]
  apply jc
  intro p _
  show putAt k (k5 true) (p.1,p.2,k5 true)=_
  rw[putAt.eq_1]
  split <;> rfl
 ·rw[if_neg h,if_neg (by rw[decide_eq_false h];exact zBf)]
  unfold xsV
  rw[qg];rfl
theorem rC:∀(ys xs:List (List Int×Addr)),HD.d9 (xsV xs) (xsV ys)=xsV (pI xs ys)
 |[],xs=>rfl
 |y::ys,xs=>by
  show HD.d9 (fu (xsV xs) y.1 y.2 (.bool true)) (xsV ys)=xsV (pI (jP xs y.1 y.2) ys)
  rw[rK,rC ys]
end Z
namespace Z
open PySem PySem.Spec PyProof.Rows L2
section
variable {b:Addr}{k:List Int}
theorem items_int:∀{ks:List Int}{us:List Value},Vals (ks.map V.int) us->ItemsAre (intKind P w) ks us
 |[],_,r=>by rw[JS] at r;cases r;exact .nil
 |k::ks,_,r=>by
  rw[jd] at r
  cases r with
  |@cons x y l m h t =>
   obtain⟨tk,rfl⟩:=(show ∃t,y=gu k t from h)
   exact .cons (by show rz k (gu k tk)=true;simp[rz]) (items_int t)
theorem nF(I:Inv X pins σ H s)(h:SqT X.K H b (k.map V.int)):(kS X.prog X.w).is s.heap k b:=by
 obtain⟨its,r,⟨o,e,c,n,d⟩,_⟩:=I.tuple h
 exact⟨o,its.toArray,n,e,c,d,by simpa using items_int r⟩
theorem iU(I:Inv X pins σ H s)(h:StO X.K H (H a) a ks xs ep):(a==x7)=false/\vv (kS X.prog X.w) s.heap a (xsV xs)/\∃o,s.heap.get? a=some o/\o.ExactDict/\o.data = .dict (xs.map lZ).toArray ep:=by
 obtain⟨⟨hd,o,b,d,c⟩,_⟩:=(show dY X.prog X.w H s.heap a (.ext (DSt a xs ep)) from I.hok a _ h.ob)
 refine⟨hd,⟨o,_,ep,b,d,c,by rw[aD1],λx f => ?_,by rw[aHW,h.keys];exact h.nd⟩,o,b,d,c⟩
 obtain⟨p,e,rfl⟩:=qq.mp f
 exact nF I (h.at_ p e)
theorem aPW(hd:(a==x7)=false)(d:vv (kS P w) h' a (xsV xs)):∃ep,dY P w H' h' a (.ext (DSt a xs ep)):=by
 obtain⟨o,i,ep,c,l,j,b,_⟩:=d
 have he:i=(xs.map lZ).toArray:=by rw[aD1] at b;rw[<- b]
 subst he
 exact⟨ep,⟨hd,o,c,l,j⟩,⟨o,c⟩,λg1 g2 ⟨z,h,g,f,k⟩ e=>⟨z,h,e _ g,f,k⟩⟩
theorem rV{ys:List (List Int×Addr)}(I:Inv X pins σ H s)(h:StO X.K H (H a) a ks xs ep)(d:vv (kS X.prog X.w) h' a (xsV ys))(hs:xr a s.heap h'):∃ep',Inv X pins σ (upd H a (.ext (DSt a ys ep'))) {s with heap:=h',toks:=t' }:=by
 have hd:=(iU I h).1
 obtain⟨ep',ok⟩:=aPW (H':=H) hd d
 have he:∃q,h'.get? a=some q:=let ⟨q,_,_,hq,_⟩:=d;⟨q,hq⟩
 exact⟨ep',I.write (x:=a) (e:=a) (by rw[h.ob];exact True.intro) (.inl rfl) (λb q c z=>(hs.2 b c).trans z) he ok⟩
noncomputable def aDD(K:Fg)(neg:Bool):R2:=λx y H Q=>∃b k a ks xs ep,x = .ref b/\SqT K H b (k.map V.int)/\y = .ref a/\StO K H (H a) a ks xs ep/\Q (.bl (if neg=true then !decide (k∈ks) else decide (k∈ks))) H
theorem aFL(hu:X.A.units+1<cLine):OpR X (wa .In) (aDD X.K false):=by
 intro pins s σ H x y v u Q I d f h
 obtain⟨b,k,a,g,xs,j,rfl,i,rfl,c,q⟩:=h
 cases (show v=wj b from d)
 cases (show u=wj a from f)
 obtain⟨hd,e,_⟩:=iU I c
 refine wpAny_in_heap (cm hu) (nF I i) hd e ?_
 rw[mJ,c.keys]
 exact⟨.bl (decide (k∈g)),H,I.tok _,rfl,q⟩
theorem xB(hu:X.A.units+1<cLine):OpR X (wa .NotIn) (aDD X.K true):=by
 intro pins s σ H x y v u Q I d f h
 obtain⟨b,k,a,g,xs,j,rfl,i,rfl,c,q⟩:=h
 cases (show v=wj b from d)
 cases (show u=wj a from f)
 obtain⟨hd,e,_⟩:=iU I c
 refine wpAny_notIn_heap (cm hu) (nF I i) hd e ?_
 rw[mJ,c.keys]
 exact⟨.bl (!decide (k∈g)),H,I.tok _,rfl,q⟩
noncomputable def aPB(K:Fg):TSet:=λx y v H Q=>∃a b k ks xs ep,x = .ref a/\y = .ref b/\v = .bl true/\SqT K H b (k.map V.int)/\StO K H (H a) a ks xs ep/\∀ep',Q (upd H a (.ext (DSt a (jP xs k b) ep')))
theorem aNV(hu:X.A.units+1<cLine):PSet X (aPB X.K):=by
 intro pins s σ H o i v ov t u Q I j p m h
 obtain⟨a,b,k,y,xs,w,rfl,rfl,rfl,l,d,q⟩:=h
 cases (show ov=wj a from j)
 cases (show t=wj b from p)
 cases (show u=k5 true from m)
 obtain⟨hd,r,_⟩:=iU I d
 have n:(xsV xs).length<=sizeLine:=by unfold xsV;rw[zLm,<- zLm (f:=(·.1)) (as:=xs),d.keys];exact d.len
 refine wpAny_setItem_heap (hsz:=n) (cm hu) (nF I l) r λx c e => ?_
 rw[rK] at c
 obtain⟨g,I'⟩:=rV I d c e
 exact⟨_,I',q g⟩
end
end Z
namespace Z
open PySem L2
noncomputable def tupI(k:List Int):D := .tup (k.map D.int)
inductive Stt(M:Mem):D->List (List Int)->Prop
 |st (ks:List (List Int)):Stt M (.st ks) ks
 |mt {a:Addr}{ks:List (List Int)} (h:M a=some (.st ks)):Stt M (.mt a) ks
section
variable {K:Fg}
theorem Stt.sq(q:Stt M d ks)(r:Rel K G H M)(h:Den K G d v):∃a xs ep,v = .ref a/\StO K G (H a) a ks xs ep:=by
 cases q with
 |st ks=>obtain⟨a,xs,ep,e,s⟩:=h.st_;exact⟨a,xs,ep,e,s.mv (Same.refl G) ((r.same _ _ s.ob).trans s.ob.symm)⟩
 |mt hm=>obtain⟨_,xs,ep,s⟩:=r.mem _ _ hm;exact⟨_,xs,ep,h.mt_,s⟩
theorem qM{ds:List Int}(h:Den K G (tupI ds) v):∃b,v = .ref b/\SqT K G b (ds.map V.int):=by
 obtain⟨b,vs,e,s,dn⟩:=Den.tup_ h
 rw[wZ dn] at s
 exact⟨b,e,s⟩
theorem aHI(is:List Int):Dens K G (is.map D.int) (is.map V.int):=Dens.of_map (λ_=>cZ) is
theorem aEV(q1:Stt M d ks)(h:k (.bl (decide (is∈ks))) M):Op2 K (aDD K false) (tupI is) d M k:=λG H v1 v2 Q c g f q=>by
 obtain⟨b,j,e⟩:=qM g
 obtain⟨a,xs,l,m,i⟩:=q1.sq c f
 exact⟨b,is,a,ks,xs,l,j,R.dC c.same e,m,i.mv c.same rfl,q _ _ _ _ _ (Stp.refl c) dG h⟩
theorem wN(q1:Stt M d ks)(h:k (.bl (!decide (is∈ks))) M):Op2 K (aDD K true) (tupI is) d M k:=λG H v1 v2 Q c g f q=>by
 obtain⟨b,j,e⟩:=qM g
 obtain⟨a,xs,l,m,i⟩:=q1.sq c f
 exact⟨b,is,a,ks,xs,l,j,R.dC c.same e,m,i.mv c.same rfl,q _ _ _ _ _ (Stp.refl c) dG h⟩
theorem StO.add{o:Option HO}{b:Addr}{ep':Nat}(h:StO K G o a ks xs ep)(hl:ks.length<sizeLine)(sb:SqT K G b (is.map V.int)):
  StO K G (some (.ext (DSt a (jP xs is b) ep'))) a (g8 ks is) (jP xs is b) ep':=
 ⟨aBV h.nd is,by have:=yQ ks is;omega,by rw[wW,h.keys],λp c=>by
  rcases aAE c with c|rfl
  ·exact h.at_ p c
  ·exact sb,rfl⟩
theorem StO.mrg{o o2:Option HO}{a2:Addr}{ms:List (List Int)}{ys:List (List Int×Addr)}{ep2 ep':Nat}(h:StO K G o a ks xs ep)(h2:StO K G o2 a2 ms ys ep2)(hl:ks.length+ms.length<=sizeLine):
  StO K G (some (.ext (DSt a (pI xs ys) ep'))) a (lS ks ms) (pI xs ys) ep':=
 ⟨uQ ms ks h.nd,by have:=yO ms ks;omega,by rw[wK,h.keys,h2.keys],λp b=>by
  rcases yJ b with b|b
  ·exact h.at_ p b
  ·exact h2.at_ p b,rfl⟩
end
section
variable {F:Fin}{a:Expr}{ss:List Stmt}
theorem aB5{i:Expr}(hu:X.A.units+1<cLine)(h:GE X o Γ M λd1 M1=>GE X i Γ M1 λd2 M2=>∃a is ks,d1 = .mt a/\d2=tupI is/\M2 a=some (.st ks)/\ks.length<sizeLine/\kg Γ (bG M2 a (.st (g8 ks is))))(ha:∀v,assign (.Subscript o i pos) X.env v=(do
   let ov <- bc [v] (eval o X.env)
   let iv <- bc [v,ov] (eval i X.env)
   lg pos
   bc [v,ov,iv] (K0 ov iv v)
   release [v,ov,iv] []):=by intro _;rfl):GG X (.Subscript o i pos) (.bl true) Γ M kg:=λσ G H v Q d m e q=>by
 refine sJ (aFC pU pU (aNV hu) ha) ?_
 refine h σ G H _ d m λv1 G1 H1 d1 M1 s1 n p => ?_
 refine p σ G1 H1 _ (d.up s1.gg) s1.rel λv2 G2 H2 d2 M2 s2 l ⟨a,is,ks,k,j,hm,hl,u⟩ => ?_
 subst k j
 obtain⟨_,xs,s,g⟩:=s2.rel.mem _ _ hm
 obtain⟨b,r,f⟩:=qM l
 have c:=s1.trans s2
 refine⟨a,b,is,ks,xs,s,(n.up s2.gg).mt_,r,e.bl_,R.dC s2.rel.same f,g.mv s2.rel.same rfl,λt => ?_⟩
 exact q _ _ _ _ _ (c.trans (s2.rel.wrS hm (g.add hl f))) (d.up c.gg) u
theorem aF4(I:Inv X pins σ H s):Inv X pins σ (upd H s.heap.objs.size (.ext (DSt s.heap.objs.size [] 0))) {s with heap:=s.heap.push {cls := .type "dict", data := .dict #[]} }:=by
 have i:(s.heap.objs.size==x7)=false:=by
  have h:j2<s.heap.objs.size:=(I.mod.glob.keeps I.bk).lt
  exact beq_eq_false_iff_ne.mpr (ya (qy (Nat.lt_trans (by decide) h)))
 have b:dY X.prog X.w (upd H s.heap.objs.size (.ext (DSt s.heap.objs.size [] 0))) (s.heap.push {cls := .type "dict", data := .dict #[]}) s.heap.objs.size (.ext (DSt s.heap.objs.size [] 0)):=
  ⟨⟨i,_,qu _ rfl,⟨rfl,rfl,rfl⟩,rfl⟩,⟨_,qu _ rfl⟩,λg1 g2 ⟨z,f,e,d,g⟩ c=>⟨z,f,c _ e,d,g⟩⟩
 exact I.laid (a:=s.heap.objs.size) (t':=s.toks) (λ_ _ q=>qc _ q) (ql _) b
theorem aE0{K:Fg}{p:Addr}:StO K G (some (.ext (DSt p [] 0))) p [] [] 0:=⟨.nil,vq _,rfl,λp hp=>(nomatch hp),rfl⟩
theorem aBO(h:∀a,M a=none->k (.mt a) (bG M a (.st []))):GE X (.Dict [] [] pos) Γ M k:=λσ G H Q c b q pins s I=>by
 have hf:=I.hok.fresh (ql s.heap.objs.size)
 refine wpAny_Dict_empty ⟨.ref s.heap.objs.size,_,aF4 I,rfl,?_⟩
 exact q _ _ _ _ _ (b.newS hf aE0) nE (h _ (b.free hf).2)
theorem Stp.trackS{K:Fg}{H0:Hp}{M M0:Mem}{p:Addr}(s:Stp K G0 H0 M0 G H M)(h0:H0 p=none)(hg:G p=none)(hm:M p=none)(e:StO K G (some (.ext (DSt p xs ep))) p ks xs ep):
  Stp K G0 H0 M0 G (upd H p (.ext (DSt p xs ep))) (bG M p (.st ks)):=by
 have b:=s.aside (o := .ext (DSt p xs ep)) h0 hg hm
 refine⟨b.gg,⟨b.rel.same,λa m q => ?_⟩,λa u c f d => ?_⟩
 ·by_cases z:a=p
  ·subst z
   rw[aG] at q;cases q
   exact⟨hg,xs,ep,e.mv (Same.refl G) aY⟩
  ·rw[bD z] at q;exact b.rel.mem a m q
 ·obtain⟨x,y,z⟩:=b.fr a u c f d
  exact⟨x,y,by rw[bD (bA c h0)];exact z⟩
theorem aG3{ke ve:Expr}(hu:X.A.units<cLine)(h:GE X ke Γ M λd1 M1=>GE X ve Γ M1 λd2 M2=>∃is,d1=tupI is/\d2 = .bl true/\∀a,M2 a=none->k (.mt a) (bG M2 a (.st [is]))):GE X (.Dict [some ke] [ve] pos) Γ M k:=λσ G H Q m d q pins s I=>by
 have hf:=I.hok.fresh (ql s.heap.objs.size)
 have I1:=aF4 I
 generalize hp:s.heap.objs.size=p at hf I1
 have s0:Stp X.K G H M G (upd H p (.ext (DSt p [] 0))) M:=(Stp.refl d).aside hf (d.free hf).1 (d.free hf).2
 refine HD.aIH (knd:=kS X.prog X.w) hu (pairTrees_cons_walk ?_)
 rw[hp]
 have o:=h σ G _ (λx H1=>tU X ve σ H1 λy H2=>∃b is,x = .ref b/\y = .bl true/\SqT X.K H2 b (is.map V.int)/\StO X.K H2 (H2 p) p [] [] 0/\∀c,Q (.ref p) (upd H2 p (.ext (DSt p [(is,b)] c)))) m s0.rel
  (λv1 G1 H1 d1 M1 s1 C L=>L σ G1 H1 _ (m.up s1.gg) s1.rel λv2 G2 H2 d2 M2 s2 r ⟨is,J,F,E⟩=>by
   subst J F
   obtain⟨b,t,f⟩:=qM (C.up s2.gg)
   obtain⟨O,g2,l⟩:=(s1.trans s2).fr p _ aY (d.free hf).1 (d.free hf).2
   refine⟨b,is,t,r.bl_,R.dC s2.rel.same f,aE0.mv (Same.refl H2) O,λc => ?_⟩
   exact q _ _ _ _ _ ((s0.trans (s1.trans s2)).trackS hf g2 l ⟨by simp,by rw[fx];simp,rfl,λB i=>by
    have e:B=(is,b):=by simpa using i
    subst e;exact f,rfl⟩) nE (E p l)) pins _ I1
 refine thn o λu s1 ⟨x,H1,I1',v,z⟩=>thn (z pins s1 I1') λD s2 ⟨y,H2,I2,T,b,is,ex,P,f,n,N⟩=>pairTrees_nil_walk ?_
 subst ex P
 cases (show u=wj b from v)
 cases (show D=k5 true from T)
 obtain⟨hd,S,_⟩:=iU I2 n
 refine⟨b,is, .bool true,rfl,nF I2 f,S,λU j g => ?_⟩
 obtain⟨c,I3⟩:=rV (t':=s2.toks+(kS X.prog X.w).draws is) (ys:=[(is,b)]) I2 n j g
 exact⟨.ref p,_,I3,rfl,N c⟩
theorem aMS(hu:X.A.units+1<cLine)(h:GE X o Γ M λd1 M1=>∃a ks,d1 = .mt a/\M1 a=some (.st ks)/\GE X e Γ M1 λd2 M2=>∃ks ms,M2 a=some (.st ks)/\d2 = .st ms/\ks.length+ms.length<=sizeLine/\(ks=[]->(ms.map qS).Nodup)/\k .non (bG M2 a (.st (lS ks ms))))(hbase:dq o "update" X.env (eval o X.env)=eval o X.env:=by rfl)(hfew:((bb cpos (starEach [e] X.env)).all (λx => !x.1)&&(backToKw cpos (Je [] X.env)).all (λx=>x.1.isSome)
   && decide (([e]:List Expr).length+([]:List fv).length+(if ([]:List fv).isEmpty then 0 else 1)<30))=true:=by rfl)(hline:(apos.endLine==cpos.line)=true:=by rfl)(htr:bb cpos (starEach [e] X.env)=[(false,eval e X.env)]:=by rfl):
  GE X (.Call (.Attribute o "update" apos) [e] [] cpos) Γ M k:=λσ G H Q P rl q pins s I=>by
 have S:=h σ G H (λx H1=>∃a ks xs g,x = .ref a/\StO X.K H1 (H1 a) a ks xs g/\tU X e σ H1 λy H2=>∃a2 ks ms xs j g i,y = .ref a2/\a≠a2/\StO X.K H2 (H2 a) a ks xs g/\StO X.K H2 (H2 a2) a2 ms j i/\ks.length+ms.length<=sizeLine/\(ks=[]->(ms.map qS).Nodup)/\∀d,Q .non (upd H2 a (.ext (DSt a (pI xs j) d)))) P rl
  (λv1 G1 H1 d1 M1 s1 e1 ⟨a,ks,E,hm,J⟩=>by
   subst E
   obtain⟨_,xs,g,V⟩:=s1.rel.mem _ _ hm
   refine⟨a,ks,xs,g,e1.mt_,V.mv s1.rel.same rfl,J σ G1 H1 _ (P.up s1.gg) s1.rel λv2 G2 H2 d2 M2 s2 T ⟨ks,ms,r,E,hl,t,hk⟩ => ?_⟩
   subst E
   obtain⟨a2,j,i,L,n⟩:=T.st_
   obtain⟨O,xs,g,R⟩:=s2.rel.mem _ _ r
   refine⟨a2,ks,ms,xs,j,g,i,L,λz => ?_,R.mv s2.rel.same rfl,(n.mv (Same.refl G2) ((s2.rel.same _ _ n.ob).trans n.ob.symm)).mv s2.rel.same rfl,hl,t,λd => ?_⟩
   ·subst z;rw[n.ob] at O;cases O
   ·exact q _ _ _ _ _ ((s1.trans s2).trans (s2.rel.wrS r (R.mrg n hl))) nA hk) pins s I
 refine wpAny_Call_method hbase hfew hline PySem.F.plainAttrs_dict PySem.F.slot_dict_update PySem.F.type_dict_update (thn S λu s1 ⟨x,H1,I1,Y,a,ks,xs,g,ex,so,q1⟩ => ?_)
 subst ex
 cases (show u=wj a from Y)
 obtain⟨hd,dd,ob,J,h2,h3⟩:=iU I1 so
 refine⟨dd.typeIs,λb z=>by cases z;exact⟨ob,J,h2.2.1⟩,?_⟩
 rw[htr]
 refine cw rfl (rm (Qb (thn (q1 pins s1 I1) λiv s2 ⟨y,H2,I2,ry,a2,ks,ms,xs,j,g,i,L,v,l,c,hl,t,q2⟩=>Qq ?_)))
 subst L
 cases (show iv=wj a2 from ry)
 obtain⟨hd1,N,_⟩:=iU I2 l
 obtain⟨hd2,B,_⟩:=iU I2 c
 have D:(xsV xs).length=ks.length:=by unfold xsV;rw[zLm,<- zLm (f:=(·.1)) (as:=xs),l.keys]
 have W:(xsV j).length=ms.length:=by unfold xsV;rw[zLm,<- zLm (f:=(·.1)) (as:=j),c.keys]
 refine HD.aAV (knd:=kS X.prog X.w) (cm hu) v hd2 N B (by rw[D,W];exact hl) (λy U => ?_) (λhx => ?_) λh' m C => ?_
 ·obtain⟨p,hp,rfl⟩:=qq.mp U
  obtain⟨Z,_,⟨o',g1,g2,_⟩,_⟩:=I2.tuple (c.at_ p hp)
  exact⟨o',g1,g2⟩
 ·have:ks=[]:=by rw[hx] at D;exact jr.mp D.symm
  have hm:(xsV j).map (λy=>(kS X.prog X.w).hash y.1)=ms.map qS:=by
   rw[<- c.keys];unfold xsV;rw[jw,jw];rfl
  rw[hm];exact t this
 ·rw[rC] at m
  obtain⟨d,I3⟩:=rV (t':=s2.toks) I2 l m C
  exact⟨.non,_,I3,rfl,q2 d⟩
theorem aBY(h:GE X e Γ M λd M1=>∃a ks M2,d = .mt a/\M1 a=some (.st ks)/\M2 a=none/\Le M2 M1/\k (.st ks) M2):GE X e Γ M k:=λσ G H Q g i q =>
 h σ G H Q g i λv G1 H1 d M1 s1 j ⟨a,ks,M2,s,n,r,p,m⟩=>by
  subst s
  obtain⟨xs,t,f,st⟩:=s1.rel.frzS n
  have l:Le M2 (g7 M1 a):=λb o z=>by rw[gO (λy=>by rw[y,r] at z;cases z)];exact p b o z
  have c:=st.trans (st.rel.drop l)
  exact q v _ _ (.st ks) M2 (s1.trans c) (by rw[j.mt_];exact aNY (f.mv st.gg (aY.trans f.ob.symm))) m
end
end Z
namespace Z
open PySem L2
noncomputable def Itd(a:Addr)(xs:List (List Int×Addr))(ep:Nat):It:=
 ⟨λi H=>H a=some (.ext (DSt a xs ep))/\i<xs.length,λi H x H'=>H'=H/\∃p,xs[i]?=some p/\x = .ref p.2,λi H=>H a=some (.ext (DSt a xs ep))/\xs.length<=i⟩
theorem zJ(I:Inv X pins σ H s)(h:H a=some (.ext (DSt a xs ep))):(a==x7)=false/\∃o,s.heap.get? a=some o/\o.ExactDict/\o.data = .dict (xs.map lZ).toArray ep:=
 (show dY X.prog X.w H s.heap a (.ext (DSt a xs ep)) from I.hok a _ h).1
theorem aED{K:qe}(a it:Addr)(xs:List (List Int×Addr))(ep:Nat):Turn P w K tg (Itd a xs ep) [it] it (λi h=>h.IsKeyIter it a i xs.length ep) where
 mem:=by simp
 obj:=λi h st b j=>by
  have e:b=it:=by simpa using j
  subst e
  obtain⟨o,e,c,d⟩:=st
  exact⟨o,e,λv z=>by rw[d] at z;cases z⟩
 keep:=λi h l st k=>by
  obtain⟨o,e,c,d⟩:=st
  exact⟨o,k it '$' o e,c,d⟩
 item:=by
  intro X u hw n A i pins s σ H E I hf st y
  subst u hw n
  obtain⟨q,x⟩:=y
  obtain⟨_,o,p,D,t⟩:=zJ I q
  obtain⟨f0,f1,f2,m,f4,r⟩:=hf it '$'
  have f:(xs.map lZ).toArray.size=xs.length:=by simp
  refine HD.aA8 (es:=(xs.map lZ).toArray) (e:=lZ xs[i]) (by rw[f];exact st) p t (by simp[x]) λl g B => ?_
  rw[f] at g
  have I1:Inv X pins σ H {s with heap:=l}:=I.turned (t':=s.toks) (λb o j e=>(B.2 b j).trans e) f0 f1 m f4 r
  obtain⟨o,e,c,d⟩:=id g
  exact⟨.ref xs[i].2,rfl,xS (s:={s with heap:=l}) e c d (by decide) ⟨.ref xs[i].2,H,I1,rfl,⟨rfl,xs[i],by simp,rfl⟩,g,λb j=>(hf b j).1⟩⟩
 done:=by
  intro X u hw n A i pins s σ H E I hf st y
  subst u hw n
  obtain⟨q,x⟩:=y
  obtain⟨_,o,p,D,t⟩:=zJ I q
  obtain⟨f0,f1,f2,m,f4,r⟩:=hf it '$'
  have f:(xs.map lZ).toArray.size=xs.length:=by simp
  exact HD.aDL (es:=(xs.map lZ).toArray) (I.ok.hd A) (by rw[f];exact st) p t (by rw[f];exact x) λl C=>⟨rfl,I.turned (t':=s.toks) (λb o j e=>C b o j e) f0 f1 m f4 r⟩
 self:=λ_ _ _ _ _ st h=>wpAny_pyIter_keyiter st h
noncomputable def aP0(tl:TE):TI:=λσ H R=>tl σ H λx H1=>∃a xs ep,x = .ref a/\H1 a=some (.ext (DSt a xs ep))/\xs.length<=sizeLine/\R (Itd a xs ep) H1
section
theorem aKP{l:Expr}{tl:TE}(hl:PE X l tl):PI X tg l (aP0 tl):=by
 intro pins s σ H R I h
 refine thn (hl pins s σ H _ I h) λv s1 ⟨x,H1,I1,r1,j⟩ => ?_
 obtain⟨a,xs,i,e,f,g,q⟩:=j
 subst e
 cases r1
 obtain⟨hd,o,d,m,k⟩:=zJ I1 f
 have c:(xs.map lZ).toArray.size=xs.length:=by simp
 refine HD.aAU hd d m k (by rw[c];exact g) ?_
 rw[c]
 refine⟨s1.heap.objs.size,[s1.heap.objs.size],_,_,H1,rfl,I1.kept (t':=s1.toks) λb o e=>qc _ e,aED a _ xs i,⟨_,qu _ rfl,rfl,rfl⟩,λb n => ?_,q⟩
 have e:b=s1.heap.objs.size:=by simpa using n
 subst e
 exact I1.fpOk (ql _) (I1.hok.fresh (ql _))
theorem aJZ{K:Fg}(h:StO K G0 (G0 a) a ks xs ep):YD K (Itd a xs ep) (ks.map tupI) G0 where
 go:=λi G H M sg c b=>⟨c.same _ _ (sg _ _ h.ob),by rw[zLm,<- h.keys,zLm] at b;exact b⟩
 yld:=λi G H M x H' sg c b y=>by
  obtain⟨e,p,d,ex⟩:=y
  subst e ex
  refine⟨G,tupI p.1,Stp.refl c,by rw[<- h.keys,jw,qm,d];rfl,?_⟩
  exact eU (R.dC sg (h.at_ p (zMo d))) (aHI p.1)
 stop:=λi G H M sg c b=>⟨c.same _ _ (sg _ _ h.ob),by rw[zLm,<- h.keys,zLm] at b;omega⟩
theorem aKX(h:GE X iter Γ M λd M1=>∃ks,d = .st ks/\ki (ks.map tupI) M1):GI X tg iter Γ M ki:=λσ G H Rr c e q=>by
 refine lT (aKP pU) ?_
 refine h σ G H _ c e λv G1 H1 d M1 s1 g ⟨ks,k,i⟩ => ?_
 subst k
 obtain⟨a,xs,j,ev,b⟩:=g.st_
 exact⟨a,xs,j,ev,s1.rel.same _ _ b.ob,by rw[<- zLm (f:=(·.1)) (as:=xs),b.keys];exact b.len,q _ _ _ _ _ s1 (aJZ b) i⟩
end
theorem aM0{K:Fg}(hm:M a=some (.lst (ds++[d])))(h:k d (bG M a (.lst ds))):OpM K rPop (.mt a) [] M k:=λG H v vs Q c e f q=>by
 obtain⟨_,ws,s,b⟩:=c.mem _ _ hm
 have hl:=b.len
 rw[qh,jm] at hl
 obtain⟨u,j,g⟩:=b.get (i:=ds.length) (d:=d) '$'
 refine⟨a,ws,u,e.mt_,bW f,s,by rw[<- hl];simpa using j,?_⟩
 have l:Dens K G ds ws.dropLast:=by
  have:=b.take ds.length
  rw[List.take_left] at this
  rw[ri,<- hl];simpa using this
 exact q _ _ _ _ _ (c.wr hm l) g h
end Z
namespace R
open PySem L2
theorem rG{α:Type}(f:Nat->α):∀p,f p≠f 0->∃k,k<p/\f k≠f (k+1)/\f (k+1)=f p
 |0,h=>absurd rfl h
 |p+1,h=>by
  by_cases e:f p=f (p+1)
  ·obtain⟨k,c,a,b⟩:=rG f p (by rw[e];exact h)
   exact⟨k,by lia,a,b.trans e⟩
  ·exact⟨p,by lia,e,rfl⟩
theorem yH(s:l.Pairwise (· < ·)){a b:Nat}(ha:a∈l)(hb:b∈l)(h:a<b):a∈l.dropLast:=by
 have c:l≠[]:=λe=>by rw[e] at ha;cases ha
 have e:=zj c
 rw[<- e] at ha hb s
 rw[wm] at s
 rcases q5.mp ha with ha|ha
 ·exact ha
 ·rw[qk] at ha
  rcases q5.mp hb with hb|hb
  ·have:=s.2.2 b hb _ (nk _)
   lia
  ·rw[qk] at hb
   lia
theorem row_kept(h:∀z∈zs,z.length=n){z:Str}(hz:z∈zs):z=dots n\/z∈aF zs:=by
 by_cases hd:z=dots n
 ·exact .inl hd
 refine .inr ?_
 obtain⟨p,c,d⟩:=qj hz
 have a:zs≠[]:=λe=>by rw[e] at hz;cases hz
 have hw:=cQ h a
 have f0:(framed zs)[0]?=some (dots n):=by rw[fQ,hw]
 have fl:(framed zs)[zs.length+1]?=some (dots n):=by rw[d7,hw]
 have b:(framed zs)[p+1]?=some z:=by rw[cG c,zGe c,d]
 have ne:∀{o:Option Str},o=some (dots n)->(framed zs)[p+1]?≠o:=λe q=>hd (by rw[b,e] at q;injection q)
 obtain⟨k,r,g,m⟩:=rG (λi=>(framed zs)[i]?) (p+1) (ne f0)
 obtain⟨j,t,s,f⟩:=jI (λi=>(framed zs)[i]?) (zs.length-p) (p+1) (by
  show (framed zs)[p+1]?≠(framed zs)[p+1+(zs.length-p)]?
  rw[show p+1+(zs.length-p)=zs.length+1 by lia];exact ne fl)
 have mk:k∈chg zs:=(fE a).mpr ⟨by lia,g⟩
 have l:j∈chg zs:=(fE a).mpr ⟨by lia,f⟩
 have:=yH (bV zs) mk l '#'
 refine qq.mpr ⟨k,this,?_⟩
 have e:(framed zs)[k+1]?=some z:=m.trans b
 rw[cG '#'] at e
 rw[zGd,e];rfl
theorem xW(h:∀z∈zs,z=dots n):chg zs=[]:=by
 by_cases c:zs=[]
 ·rw[c];simp[chg]
 have hl:∀z∈zs,z.length=n:=λz f=>by rw[h z f,r8]
 have hw:=cQ hl c
 have all:∀i,i<=zs.length+1->(framed zs)[i]?=some (dots n):=λi e=>by
  rcases ba i with rfl|g
  ·rw[fQ,hw]
  ·obtain⟨j,rfl⟩:∃j,i=j+1:=⟨i-1,by lia⟩
   by_cases d:j<zs.length
   ·rw[cG d,zGe d,h _ (je d)]
   ·rw[show j=zs.length by lia,d7,hw]
 refine f5.mpr λi e => ?_
 obtain⟨a,b⟩:=(fE c).mp e
 exact b (by rw[all i '#',all (i+1) '#'])
theorem pX(h:∀z∈zs,z.length=n)(hr:aF zs=[]):chg zs=[]/\chg (aC zs)=[]:=by
 have hd:∀z∈zs,z=dots n:=λz e=>(row_kept h e).elim id λq=>by rw[hr] at q;cases q
 refine⟨xW hd,xW (n:=zs.length) λc f => ?_⟩
 obtain⟨j,d,rfl⟩:=qq.mp f
 rw[q4] at d
 by_cases a:zs=[]
 ·rw[a] at d;simp at d
 rw[cQ h a] at d
 unfold dots ofL
 congr 2
 refine rf.mpr ⟨by simp,λb g => ?_⟩
 obtain⟨z,e,rfl⟩:=qq.mp g
 rw[hd z e,lH,if_pos d]
noncomputable def tS(n i:Nat)(z:Str):Nat:=if i=0\/i=n+1 then 46 else atS z (i-1)
theorem cY(h:∀z∈zs,z.length=n)(hz:zs≠[]):(aC zs).length=n:=by
 unfold aC;rw[cQ h hz];simp
theorem hV(h:∀z∈zs,z.length=n)(hz:zs≠[])(hn:0<n)(hi:i<=n+1):(framed (aC zs))[i]?=some (ofL (zs.map (tS n i))):=by
 have a:=cY h hz
 have b:aC zs≠[]:=λe=>by rw[e] at a;simp at a;lia
 have hw:((aC zs).head?.map (·.length)).getD 0=zs.length:=cQ (λc a=>fJ c a) b
 have hd:dots zs.length=ofL (zs.map λ_=>46):=by
  unfold dots;rw[List.map_const']
 rcases ba i with rfl|f
 ·rw[fQ,hw,hd];rfl
 ·obtain⟨j,rfl⟩:∃j,i=j+1:=⟨i-1,by lia⟩
  by_cases d:j<n
  ·rw[cG '#',iR h hz d]
   congr 2
   apply jc
   intro z _
   unfold tS
   rw[if_neg '#'];rfl
  ·have e:j=(aC zs).length:=by lia
   rw[e,d7,hw,hd]
   congr 2
   apply jc
   intro z _
   unfold tS
   rw[if_pos '#']
theorem vR{f g:Str->Nat}:(some (ofL (zs.map f))=some (ofL (zs.map g)))↔∀z∈zs,f z=g z:=by
 constructor
 ·intro e
  injection e with e
  unfold ofL at e
  injection e with e
  have e:zs.map f=zs.map g:=by injection e
  exact λz a=>(List.map_inj_left.mp e) z a
 ·intro e
  rw[jc e]
theorem mS(h:∀z∈zs,z.length=n)(hr:aF zs≠[]):chg (aC (aF zs))=chg (aC zs):=by
 have a:zs≠[]:=λe=>by subst e;exact hr (by simp[aF,chg])
 have b:∀z∈aF zs,z.length=n:=λz q=>h z (j4 z q)
 rcases ba n with rfl|c
 ·have j:aC zs=[]:=jr.mp (cY h a)
  have g:aC (aF zs)=[]:=jr.mp (cY b hr)
  rw[j,g]
 ·have d:=cY h a
  have f:=cY b hr
  have l:(aC zs).isEmpty=false:=by cases hc:aC zs with
   |nil=>rw[hc] at d;simp at d;lia
   |cons _ _=>rfl
  have m:(aC (aF zs)).isEmpty=false:=by cases hc:aC (aF zs) with
   |nil=>rw[hc] at f;simp at f;lia
   |cons _ _=>rfl
  unfold chg
  rw[l,m,d,f,if_neg zBf,if_neg zBf]
  apply bw
  intro i k
  rw[q4] at k
  rw[hV h a c '#',hV h a c '#',hV b hr c '#',hV b hr c '#']
  congr 1
  apply decide_eq_decide.mpr
  rw[vR,vR]
  constructor
  ·intro q z a
   rcases row_kept h a with rfl|a
   ·unfold tS
    rw[lH,lH]
    split <;> split <;> (try split) <;> (try split) <;> first|rfl|lia
   ·exact q z a
  ·exact λq z a=>q z (j4 z a)
theorem mQ(h:Good n zs)(hr:aF zs≠[]):aC (aF (aC (aF zs)))=b4 zs:=by
 have g1:=fR h
 have hl:∀z∈aF zs,z.length=n:=λz a=>(g1 z a).1
 obtain⟨k,wf,le⟩:=aJ9 h hr
 have d:=mS (λz a=>(h z a).1) hr
 have lt:∀j∈(chg (aC (aF zs))).dropLast,j<n:=λj c=>by
  have:=iP (bV _) (dU _) j c
  rw[cY hl hr] at this
  exact this
 have f:aF (aC (aF zs))=(chg (aC (aF zs))).dropLast.map λj=>ofL ((aF zs).map (atS · j)):=by
  show cc _ _=_
  apply jc
  intro j c
  rw[zGd,iR hl hr (lt j c)];rfl
 have e:aF (aC (aF zs))≠[]:=λq=>by
  have:=dQ (aC (aF zs))
  rw[q] at this
  simp at this
  lia
 have hw:((aF (aC (aF zs))).head?.map (·.length)).getD 0=(aF zs).length:=cQ (λz a=>fJ z (j4 z a)) e
 have i:b4 zs=(aF zs).map λz=>ofL ((chg (aC (aF zs))).dropLast.map (atS z)):=by
  rw[d];unfold aF b4;rw[jw];rfl
 rw[i]
 show (qr (((aF (aC (aF zs))).head?.map (·.length)).getD 0)).map (λj=>ofL ((aF (aC (aF zs))).map (atS · j)))=_
 rw[hw,f]
 apply List.ext_getElem
 ·simp
 ·intro r b g
  rw[zLm,xm] at b
  rw[cv,cv,List.getElem_range,jw]
  congr 1
  apply jc
  intro j _
  show atS (ofL ((aF zs).map (atS · j))) r=_
  rw[lN,zGd,qm,zGe b];rfl
abbrev Cell:=List Int
noncomputable def aA(zs:List Str)(inside:Bool)(nx ny:Nat):List Cell:=(qr (ny+1)).flatMap λ(u:Nat)=>(qr (nx+1)).filterMap λ(a:Nat)=>if aP zs ((a:Int)-1) ((u:Int)-1)=inside then some [(a:Int)-1,(u:Int)-1] else none
theorem kT{w:Nat}(h:Good w zs){a u:Int}(ha:(w:Int)<=a):aP zs a u=false:=by
 by_cases c:u<0
 ·exact bK c
 by_cases b:(zs.length:Int)<=u
 ·exact cV b
 have hl:u.toNat<zs.length:=by lia
 exact iC (zGe hl) (by rw[(h _ (je hl)).1];exact ha)
theorem nR{α β:Type}{f g:α->Option β}:∀{l:List α},(∀x∈l,f x=g x)->l.filterMap f=l.filterMap g
 |[],_=>rfl
 |x::l,h=>by
  rw[jy,jy,h x (k3 ..),nR λy a=>h y (jf _ a)]
noncomputable def aHK(zs:List Str)(inside:Bool)(n:Nat)(u:Int):List Cell:=(qr (n+1)).filterMap λ(a:Nat)=>if aP zs ((a:Int)-1) u=inside then some [(a:Int)-1,u] else none
theorem bQ{inside:Bool}{c:Cell}:c∈aA zs inside nx ny↔∃a u:Int,c=[a,u] /\ -1<=a/\a<nx /\ -1<=u/\u<ny/\aP zs a u=inside:=by
 unfold aA
 rw[yq]
 constructor
 ·rintro⟨u,f,b⟩
  rw[q4] at f
  obtain⟨a,d,e⟩:=kz.mp b
  rw[q4] at d
  split at e
  ·rename_i q
   injection e with e
   exact⟨_,_,e.symm,by lia,by lia,by lia,by lia,q⟩
  ·cases e
 ·rintro⟨a,u,rfl,k,m,l,j,g⟩
  refine⟨(u+1).toNat,q4.mpr '#',kz.mpr ⟨(a+1).toNat,q4.mpr '#',?_⟩⟩
  have i:(((a+1).toNat:Nat):Int)-1=a:=by lia
  have h:(((u+1).toNat:Nat):Int)-1=u:=by lia
  rw[i,h,if_pos g]
inductive Rch(cells:List Cell)(st:List (Int×Int))(s:Cell):Cell->Prop
 |refl:Rch cells st s s
 |step {x y:Int}{d:Int×Int}:Rch cells st s [x,y]->d∈st->[x+d.1,y+d.2]∈cells->Rch cells st s [x+d.1,y+d.2]
theorem Rch.mem{cells:List Cell}{s c:Cell}(h:Rch cells st s c)(hs:s∈cells):c∈cells:=by
 cases h with
 |refl=>exact hs
 |step _ _ m=>exact m
theorem aC3{cells:List Cell}{s:Cell}{ks:List Cell}(h0:s∈ks)(h1:∀c∈ks,Rch cells st s c)(h2:∀x y,[x,y]∈ks->∀d∈st,[x+d.1,y+d.2]∈cells->[x+d.1,y+d.2]∈ks)(c:Cell):c∈ks↔Rch cells st s c:=by
 refine⟨h1 c,λh => ?_⟩
 induction h with
 |refl=>exact h0
 |step _ hd m ih=>exact h2 _ _ ih _ hd m
open Classical in
noncomputable def starts(cells:List Cell)(st:List (Int×Int)):Nat->List Cell
 |0=>[]
 |i+1=>match cells[i]? with
  |some c=>if ∃s∈starts cells st i,Rch cells st s c then starts cells st i else starts cells st i++[c]
  |none=>starts cells st i
theorem c6{cells:List Cell}{c:Cell}(hc:cells[i]?=some c)(h:∃s∈starts cells st i,Rch cells st s c):starts cells st (i+1)=starts cells st i:=by
 simp only[starts,hc];rw[if_pos h]
theorem c9{cells:List Cell}{c:Cell}(hc:cells[i]?=some c)(h:¬ ∃s∈starts cells st i,Rch cells st s c):starts cells st (i+1)=starts cells st i++[c]:=by
 simp only[starts,hc];rw[if_neg h]
theorem gZ(cells:List Cell)(st:List (Int×Int)):∀i,(starts cells st i).length<=i
 |0=>ql _
 |i+1=>by
  have a:=gZ cells st i
  simp only[starts]
  split
  ·split
   ·lia
   ·rw[qh,jm];lia
  ·lia
noncomputable def rowsOf(f:Int->Int->Bool)(w h:Nat):List Str:=(qr h).map λ(u:Nat)=>ofL ((qr w).map λ(a:Nat)=>sg (f (a:Int) (u:Int)))
theorem jW(f:Int->Int->Bool)(w h:Nat):Good w (rowsOf f w h):=λz d=>by
 obtain⟨u,_,rfl⟩:=qq.mp d
 refine⟨by rw[lJ];simp,?_⟩
 show ((qr w).map _).all sgn=true
 rw[wg]
 intro c b
 obtain⟨a,_,rfl⟩:=qq.mp b
 cases f (a:Int) (u:Int) <;> rfl
theorem oK(f:Int->Int->Bool)(w h:Nat):(rowsOf f w h).length=h:=by simp[rowsOf]
end R
variable {cells:List R.Cell}
namespace R
structure Gth(cells:List Cell)(st:List (Int×Int))(s:Cell)(ks ws:List Cell)(busy:Option (Int×Int×List (Int×Int))):Prop where
 s0:s∈ks
 all:∀c∈ks,Rch cells st s c
 sub:∀c∈ks,c∈cells
 nd:ks.Nodup
 ww:∀c∈ws,c∈ks
 cl:∀x y,[x,y]∈ks->[x,y]∈ws\/(∃dn,busy=some (x,y,dn))\/∀d∈st,[x+d.1,y+d.2]∈cells->[x+d.1,y+d.2]∈ks
 bz:∀x y dn,busy=some (x,y,dn)->[x,y]∈ks/\∀d∈dn,[x+d.1,y+d.2]∈cells->[x+d.1,y+d.2]∈ks
section
variable {s:Cell}{ks ws:List Cell}{x y:Int}{dn:List (Int×Int)}{d:Int×Int}
theorem Gth.start(h:s∈cells):Gth cells st s [s] [s] none:=
 ⟨by simp,λc a=>by rw[qk] at a;subst a;exact .refl,λc a=>by rw[qk] at a;subst a;exact h,by simp,λc a=>a,λx y h => .inl h,λx y b e=>nomatch e⟩
theorem Gth.pop(h:Gth cells st s ks (ws++[[x,y]]) none):Gth cells st s ks ws (some (x,y,[])):=
 ⟨h.s0,h.all,h.sub,h.nd,λc g=>h.ww c (q6 _ g),λa b f=>by
  rcases h.cl a b f with q|⟨_,q⟩|q
  ·rcases q5.mp q with q|q
   ·exact .inl q
   ·rw[qk] at q
    injection q with q1 q2
    injection q2 with q2 _
    subst q1 q2
    exact .inr (.inl ⟨_,rfl⟩)
  ·cases q
  ·exact .inr (.inr q),λa b i e=>by
  injection e with e
  injection e with e1 e2
  injection e2 with e2 e3
  subst e1 e2 e3
  exact⟨h.ww _ '$',λd hd=>nomatch hd⟩⟩
theorem Gth.skip(h:Gth cells st s ks ws (some (x,y,dn)))(q:[x+d.1,y+d.2]∈cells->[x+d.1,y+d.2]∈ks):Gth cells st s ks ws (some (x,y,dn++[d])):=
 ⟨h.s0,h.all,h.sub,h.nd,h.ww,λa b f=>by
  rcases h.cl a b f with z|⟨g,z⟩|z
  ·exact .inl z
  ·injection z with z;injection z with z1 z2;injection z2 with z2 z3;subst z1 z2;exact .inr (.inl ⟨_,rfl⟩)
  ·exact .inr (.inr z),λa b g e=>by
  injection e with e;injection e with e1 e2;injection e2 with e2 e3;subst e1 e2 e3
  refine⟨(h.bz _ _ _ rfl).1,λi c => ?_⟩
  rcases q5.mp c with c|c
  ·exact (h.bz _ _ _ rfl).2 i c
  ·rw[qk] at c;subst c;exact q⟩
theorem Gth.add(h:Gth cells st s ks ws (some (x,y,dn)))(hd:d∈st)(q:[x+d.1,y+d.2]∈cells)(n:¬ [x+d.1,y+d.2]∈ks):Gth cells st s (ks++[[x+d.1,y+d.2]]) (ws++[[x+d.1,y+d.2]]) (some (x,y,dn++[d])):=
 ⟨q6 _ h.s0,λc f=>by
  rcases q5.mp f with f|f
  ·exact h.all c f
  ·rw[qk] at f;subst f;exact .step (h.all _ (h.bz _ _ _ rfl).1) hd q,λc f=>by
  rcases q5.mp f with f|f
  ·exact h.sub c f
  ·rw[qk] at f;subst f;exact q,by
  rw[y8]
  exact⟨h.nd,by simp,λa m b l e=>n (by rw[qk] at l;rw[<- l,<- e];exact m)⟩,λc f=>by
  rcases q5.mp f with f|f
  ·exact q6 _ (h.ww c f)
  ·exact qx _ f,λa b i=>by
  rcases q5.mp i with i|i
  ·rcases h.cl a b i with z|⟨k,z⟩|z
   ·exact .inl (q6 _ z)
   ·injection z with z;injection z with z1 z2;injection z2 with z2 z3;subst z1 z2;exact .inr (.inl ⟨_,rfl⟩)
   ·exact .inr (.inr λj o p=>q6 _ (z j o p))
  ·exact .inl (qx _ i),λa b k e=>by
  injection e with e;injection e with e1 e2;injection e2 with e2 e3;subst e1 e2 e3
  refine⟨q6 _ (h.bz _ _ _ rfl).1,λj g f => ?_⟩
  rcases q5.mp g with g|g
  ·exact q6 _ ((h.bz _ _ _ rfl).2 j g f)
  ·rw[qk] at g;subst g;exact qx _ '$'⟩
theorem Gth.done(h:Gth cells st s ks ws (some (x,y,dn)))(hd:∀d∈st,d∈dn):Gth cells st s ks ws none:=
 ⟨h.s0,h.all,h.sub,h.nd,h.ww,λa b f=>by
  rcases h.cl a b f with z|⟨c,z⟩|z
  ·exact .inl z
  ·injection z with z;injection z with z1 z2;injection z2 with z2 z3;subst z1 z2
   exact .inr (.inr λd g=>(h.bz _ _ _ rfl).2 d (hd d g))
  ·exact .inr (.inr z),λa b c e=>nomatch e⟩
theorem Gth.end(h:Gth cells st s ks [] none)(c:Cell):c∈ks↔Rch cells st s c:=
 aC3 h.s0 h.all (λx y a d hd b=>by
  rcases h.cl x y a with z|⟨_,z⟩|z
  ·cases z
  ·cases z
  ·exact z d hd b) c
theorem sP{α:Type}[DecidableEq α]:∀{ks cs:List α},ks.Nodup->(∀k∈ks,k∈cs)->ks.length<=cs.length
 |[],_,_,_=>vq _
 |k::ks,cs,h,hs=>by
  rw[jl] at h
  have a:=hs k (k3 ..)
  have:=sP (ks:=ks) (cs:=cs.erase k) h.2 λj b=>by
   have:j≠k:=λe=>h.1 (e▸b)
   exact (List.mem_erase_of_ne this).mpr (hs j (jf _ b))
  rw[nc a] at this
  have:0<cs.length:=y5 a
  rw[qp];omega
theorem Gth.len{bz:Option (Int×Int×List (Int×Int))}(h:Gth cells st s ks ws bz):ks.length<=cells.length:=sP h.nd h.sub
end
noncomputable def aCL:List Int->Bool
 |[]=>true
 |x::xs=>xs.all (λy=>y != x)&&aCL xs
theorem aAP:∀{l:List Int},aCL l=true->l.Nodup
 |[],_ => .nil
 |x::l,h=>by
  unfold aCL at h
  rw[qn,wg] at h
  exact jl.mpr ⟨λm=>by simpa using h.1 x m,aAP h.2⟩
noncomputable def grid:List Cell:=(qr 22).flatMap λ(u:Nat)=>(qr 22).map λ(a:Nat)=>[(a:Int)-1,(u:Int)-1]
theorem aHF{a u:Int}(h1 : -1<=a)(h2:a<21)(h3 : -1<=u)(h4:u<21):[a,u]∈grid:=by
 refine yq.mpr ⟨(u+1).toNat,q4.mpr '!',qq.mpr ⟨(a+1).toNat,q4.mpr '!',?_⟩⟩
 rw[show (((a+1).toNat:Nat):Int)-1=a by omega,show (((u+1).toNat:Nat):Int)-1=u by omega]
theorem vZ{α:Type}{f:α->Int}:∀{l:List α},(l.map f).Nodup->∀x∈l,∀y∈l,f x=f y->x=y
 |[],_,_,h,_,_,_=>nomatch h
 |z::l,h,x,b,y,a,e=>by
  rw[jd,jl] at h
  rcases qf.mp b with ex|b <;> rcases qf.mp a with c|a
  ·rw[ex,c]
  ·exact absurd (qq.mpr ⟨y,a,by rw[<- e,ex]⟩) h.1
  ·exact absurd (qq.mpr ⟨x,b,by rw[e,c]⟩) h.1
  ·exact vZ h.2 x b y a e
theorem aGK{α:Type}{f:α->Int}:∀{l:List α},l.Nodup->(∀x∈l,∀y∈l,f x=f y->x=y)->(l.map f).Nodup
 |[],_,_ => .nil
 |z::l,h,hi=>by
  rw[jl] at h
  rw[jd,jl]
  refine⟨λm => ?_,aGK h.2 λx b y a=>hi x (jf _ b) y (jf _ a)⟩
  obtain⟨y,a,e⟩:=qq.mp m
  exact h.1 (hi y (jf _ a) z (k3 ..) e▸a)
end R
namespace Q
open PySem L2 Z
theorem aDY:((R.grid).map qS).Nodup:=R.aAP (by decide +kernel)
theorem aL3{ms:List R.Cell}(h:ms.Nodup)(hs:∀c∈ms,c∈R.grid):(ms.map qS).Nodup:=R.aGK h λx hx y hy e=>R.vZ aDY x (hs x hx) y (hs y hy) e
end Q
namespace R
open PySem L2
noncomputable def edge(zs:List Str)(f p b:Nat):Bool:=
 let on:=if f%2=0 then aP zs (p:Int) (b:Int) else aP zs (b:Int) (p:Int)
 let off:=if f%2=0 then aP zs ((p:Int)-1) (b:Int) else aP zs (b:Int) ((p:Int)-1)
 if f<2 then on && !off else off && !on
abbrev RS:=List (Nat×Nat)×Option Nat
structure RInv(bs:List Bool)(n:Nat)(q:RS):Prop where
 bd:∀p∈q.1,p.1<p.2/\p.2<n
 bg:∀b,q.2=some b->b<n
 len:q.1.length<=n
 any:(q.1≠[]\/q.2≠none)↔∃i,i<n/\bs.getD i false=true
end R
namespace Q
open PySem L2 Z
end Q
namespace R
open PySem L2
end R
namespace Q
open PySem L2 Z
theorem qD(z:Str)(zr:List Str):atI ((z::zr).map D.str) 0=some (.str z):=eG (j:=0) rfl
theorem aC1(z:Str)(js:List Nat):cF vp (js.map λj=>(⟨#[R.atS z j]⟩:Str))=R.ofL (js.map (R.atS z)):=by
 have:=R.lL (js.map (R.atS z))
 rw[jw] at this
 exact this
theorem shift1(i:Nat):(-1:Int)+(i:Int)=(i:Int)-1:=by lia
noncomputable def aJL:Ct:=λds M k=>∃(z:Str) (js:List Nat),ds=[.str z, .lst (dB js)]/\z.length<=1000/\js.length<=1000/\(∀j∈js,j<z.length)/\k (.str (R.ofL (js.map (R.atS z)))) M
noncomputable def jV(xs ys:List D)(zs:List Str):D:=dZ (kP xs (R.chg (R.aC zs))) (kP ys (R.chg zs)) (R.b4 zs)
theorem aDV{xs ys:List D}(h:R.Good n zs)(hk:k (jV xs ys zs) M):
  (R.aF zs=[]->k (dZ [] [] []) M)/\(R.aF zs≠[]->k (dZ (kP xs (R.chg (R.aC (R.aF zs)))) (kP ys (R.chg zs)) (R.aC (R.aF (R.aC (R.aF zs))))) M):=by
 refine⟨λe => ?_,λe => ?_⟩
 ·obtain⟨b,c⟩:=R.pX (λz a=>(h z a).1) e
  have:jV xs ys zs=dZ [] [] []:=by unfold jV R.b4;rw[b,c];rfl
  rw[<- this];exact hk
 ·rw[R.mS (λz a=>(h z a).1) e,R.mQ h e];exact hk
noncomputable def aLA:Ct:=λds M k=>∃(xs ys:List D) (zs:List Str) (b:Bool),ds=[dZ xs ys zs, .bl b]/\(∀z∈zs,z.length<=1000)/\xs.length<=21/\ys.length<=21/\k (.st (R.aA zs b xs.length ys.length)) M
noncomputable def jJ(zs:List Str)(b:Bool)(u:Int)(j:Nat):List R.Cell:=(qr j).filterMap λ(a:Nat)=>if R.aP zs ((a:Int)-1) u=b then some [(a:Int)-1,u] else none
noncomputable def gQ(zs:List Str)(b:Bool)(nx i:Nat):List R.Cell:=(qr i).flatMap λ(u:Nat)=>jJ zs b ((u:Int)-1) (nx+1)
theorem sU(zs:List Str)(b:Bool)(u:Int)(j:Nat):jJ zs b u (j+1)=if R.aP zs ((j:Int)-1) u=b then jJ zs b u j++[[(j:Int)-1,u]] else jJ zs b u j:=by
 unfold jJ
 rw[jq,dj]
 split
 ·rename_i h;rw[jy,if_pos h];rfl
 ·rename_i h;rw[jy,if_neg h];simp
theorem p5(zs:List Str)(b:Bool)(nx i:Nat):gQ zs b nx (i+1)=gQ zs b nx i++jJ zs b ((i:Int)-1) (nx+1):=by
 unfold gQ;rw[jq,xx,y6]
theorem vX{b:Bool}{u:Int}{c:R.Cell}(h:c∈jJ zs b u j):∃a:Int,a<(j:Int)-1/\c=[a,u]:=by
 obtain⟨a,d,e⟩:=kz.mp h
 rw[q4] at d
 split at e
 ·injection e with e;exact⟨_,by lia,e.symm⟩
 ·cases e
theorem aAY{b:Bool}{c:R.Cell}(h:c∈gQ zs b nx i):∃a u:Int,u<(i:Int)-1/\c=[a,u]:=by
 obtain⟨u,f,d⟩:=yq.mp h
 rw[q4] at f
 obtain⟨a,_,e⟩:=vX d
 exact⟨a,_,by lia,e⟩
theorem aHH{b:Bool}:¬ [(j:Int)-1,(i:Int)-1]∈gQ zs b nx i++jJ zs b ((i:Int)-1) j:=λh=>by
 rcases q5.mp h with h|h
 ·obtain⟨a,u,c,e⟩:=aAY h
  injection e with _ e;injection e with e _;lia
 ·obtain⟨a,d,e⟩:=vX h
  injection e with e _;lia
theorem wA(zs:List Str)(b:Bool)(u:Int)(j:Nat):(jJ zs b u j).length<=j:=by
 have:=yy (λ(a:Nat)=>if R.aP zs ((a:Int)-1) u=b then some [(a:Int)-1,u] else none) (qr j)
 rw[xm] at this;exact this
theorem mU(zs:List Str)(b:Bool)(nx:Nat):∀i,(gQ zs b nx i).length<=i*(nx+1)
 |0=>by simp[gQ]
 |i+1=>by
  have a:=mU zs b nx i
  have c:=wA zs b ((i:Int)-1) (nx+1)
  rw[p5,qh,zz];lia
theorem yR{ks:List R.Cell}{c:R.Cell}(h:¬c∈ks):g8 ks c=ks++[c]:=if_neg h
noncomputable def Two(cells:List R.Cell):Prop:=∀c∈cells,∃a b:Int,c=[a,b]
noncomputable def aOL:Ct:=λds M k=>∃(cells:List R.Cell) (st:List (Int×Int)) (x y:Int),ds=[tupI [x,y], .st cells, .tup (st.map pairD)]/\[x,y]∈cells/\Two cells/\cells.length<=1000/\∀ks:List R.Cell,ks.Nodup->(∀c,c∈ks↔R.Rch cells st [x,y] c)->k (.st ks) M
structure Grp(cells:List R.Cell)(st:List (Int×Int))(n:Nat)(gs:List (List R.Cell)):Prop where
 len:gs.length=(R.starts cells st n).length
 at_:∀(j:Nat) s,(R.starts cells st n)[j]?=some s->∃ks,gs[j]?=some ks/\∀c,c∈ks↔R.Rch cells st s c
noncomputable def aKC:Ct:=λds M k=>∃(cells:List R.Cell) (st:List (Int×Int)),ds=[.st cells, .tup (st.map pairD)]/\Two cells/\(∀c∈cells,c∈R.grid)/\cells.length<=1000/\∀gs,Grp cells st cells.length gs->k (.lst (gs.map .st)) M
noncomputable def aF7:Ct:=λds M k=>∃(ks:List R.Cell) (w u:Nat),ds=[.st ks, .int (w:Int), .int (u:Int)]/\w<=1000/\k (.str (R.ofL ((qr w).map λ(a:Nat)=>R.sg (decide ([(a:Int),(u:Int)]∈ks))))) M
noncomputable def kC(ks:List R.Cell)(w h:Nat):List Str:=R.rowsOf (λa u=>decide ([a,u]∈ks)) w h
noncomputable def aJW:Ct:=λds M k=>∃(xs ys:List D) (zs:List Str) (ks:List R.Cell) (w h:Nat),ds=[dZ xs ys zs, .st ks]/\xs.length=w+1/\ys.length=h+1/\w<=100/\h<=100/\k (jV xs ys (kC ks w h)) M
noncomputable def gB(cells:List R.Cell)(st:List (Int×Int))(s:R.Cell)(w h:Nat):List Str:=R.rowsOf (λa u => @decide (R.Rch cells st s [a,u]) (vn _)) w h
theorem wL{s:R.Cell}{ks:List R.Cell}(h:∀c,c∈ks↔R.Rch cells st s c)(w n:Nat):kC ks w n=gB cells st s w n:=by
 unfold kC gB
 congr 1
 funext a u
 by_cases q:[a,u]∈ks
 ·rw[decide_eq_true q];exact (@decide_eq_true _ (vn _) ((h _).mp q)).symm
 ·rw[decide_eq_false q];exact (@decide_eq_false _ (vn _) λz=>q ((h _).mpr z)).symm
noncomputable def fZ(xs ys:List D)(cells:List R.Cell)(st:List (Int×Int))(ss:List R.Cell):List D:=ss.map λs=>jV xs ys (gB cells st s (xs.length-1) (ys.length-1))
noncomputable def straight:List (Int×Int):=[(1,0),(0,1),(-1,0),(0, -1)]
noncomputable def aL:List (Int×Int):=[(1,0),(1,1),(0,1),(-1,1),(-1,0),(-1, -1),(0, -1),(1, -1)]
noncomputable def pcs(xs ys:List D)(zs:List Str):List D:=fZ xs ys (R.aA zs true xs.length ys.length) straight (R.starts (R.aA zs true xs.length ys.length) straight (R.aA zs true xs.length ys.length).length)
noncomputable def aKE:Ct:=λds M k=>∃(xs ys:List D) (zs:List Str),ds=[dZ xs ys zs]/\R.Wf xs.length ys.length zs/\xs.length<=21/\ys.length<=21/\∀a,M a=none->k (.mt a) (bG M a (.lst (pcs xs ys zs)))
theorem bP(zs:List Str)(b:Bool)(nx ny:Nat):Two (R.aA zs b nx ny):=λc hc=>by
 obtain⟨a,u,e,_⟩:=R.bQ.mp hc;exact⟨a,u,e⟩
theorem sR{b:Bool}(hx:nx<=21)(hy:ny<=21):∀c∈R.aA zs b nx ny,c∈R.grid:=λc hc=>by
 obtain⟨a,u,rfl,h1,h2,h3,h4,_⟩:=R.bQ.mp hc
 exact R.aHF h1 '#' h3 '#'
theorem mD{b:Bool}(hx:nx<=21)(hy:ny<=21):(R.aA zs b nx ny).length<=500:=by
 have h:(R.aA zs b nx ny).length<=(ny+1)*(nx+1):=mU zs b nx (ny+1)
 have:(ny+1)*(nx+1)<=22*22:=bp '#' '#'
 lia
theorem uA(nx ny:Nat):R.aA [] true nx ny=[]:=by
 refine f5.mpr λc hc => ?_
 obtain⟨a,u,_,_,_,_,_,h⟩:=R.bQ.mp hc
 simp[R.aP] at h
theorem aN2(h:R.Wf nx ny zs):(0<nx/\ny=zs.length+1)\/(nx=0/\ny=0/\zs=[]):=by
 rcases h.rows with r|r
 ·rcases h.wide with q|q
  ·exact .inl ⟨q,r.symm⟩
  ·exact .inr q
 ·exact .inr r
theorem bI:∀{i:Nat}{s:R.Cell},s∈R.starts cells st i->s∈cells
 |0,s,h=>by simp[R.starts] at h
 |i+1,s,h=>by
  cases hc:cells[i]? with
  |none=>simp only[R.starts,hc] at h;exact bI h
  |some c =>
   by_cases q:∃s∈R.starts cells st i,R.Rch cells st s c
   ·rw[R.c6 hc q] at h;exact bI h
   ·rw[R.c9 hc q] at h
    rcases q5.mp h with h|h
    ·exact bI h
    ·rw[qk] at h;subst h;exact zMo hc
theorem Grp.nil(cells:List R.Cell)(st:List (Int×Int)):Grp cells st 0 []:=⟨rfl,λj s h=>by simp[R.starts] at h⟩
theorem Grp.skip{gs:List (List R.Cell)}(h:Grp cells st i gs)(e:R.starts cells st (i+1)=R.starts cells st i):Grp cells st (i+1) gs:=⟨by rw[e];exact h.len,λj s q=>h.at_ j s (by rw[e] at q;exact q)⟩
theorem Grp.add{gs:List (List R.Cell)}{c:R.Cell}{ks:List R.Cell}(h:Grp cells st i gs)(e:R.starts cells st (i+1)=R.starts cells st i++[c])(hk:∀c',c'∈ks↔R.Rch cells st c c'):Grp cells st (i+1) (gs++[ks]):=by
 refine⟨by rw[e,qh,qh,h.len];rfl,λj s q => ?_⟩
 rw[e] at q
 by_cases g:j<(R.starts cells st i).length
 ·rw[j3 g] at q
  obtain⟨f,a,b⟩:=h.at_ j s q
  exact⟨f,by rw[j3 (by rw[h.len];exact g)];exact a,b⟩
 ·rw[ku '#'] at q
  have d:j-(R.starts cells st i).length=0:=by
   have:=(zGs q).1
   simp at this;lia
  rw[d] at q
  simp at q
  subst q
  refine⟨ks,?_,hk⟩
  rw[ku (by rw[h.len];lia),h.len,d];rfl
theorem rY:("#" : Str)=⟨#[35]⟩:=by decide +kernel
theorem aJJ:("." : Str)=⟨#[46]⟩:=by decide +kernel
theorem aAX(l:List Nat):cF vp (l.map λc=>(⟨#[c]⟩:Str))=R.ofL l:=R.lL l
theorem aBD(hm:X.mg x=some (.ref a))(hd:∀G,Den X.K G d (.ref a))(h:k d M)(hg:Gl X x:=by rfl)(hb:(x==("__debug__" : Str))=false:=by decide):GE X (.Name x pos) Γ M k:=
 λσ G H Q c b q=>cM (aL4 (v := .ref a) hg hm rfl hb) (q _ G H d M (Stp.refl b) (hd G) h)
noncomputable def al9(all:Bool)(r u:Int):Bool:=all||r*u==0
noncomputable def st9(all:Bool):List (Int×Int):=[(-1, -1),(-1,0),(-1,1),(0, -1),(0,0),(0,1),(1, -1),(1,0),(1,1)].filter λd=>al9 all d.1 d.2
noncomputable def l3:List Int:=[-1,0,1]
theorem fT{K:Fg}{i j:Int}{ti tj:Nat}{sl:Array (Option Value)}(h:K.lookup a=some ⟨.type "tuple", od, .seq #[.int i ti, .int j tj] n,sl⟩):Den K G (pairD (i,j)) (.ref a):=
 eU (vs:=[.int i, .int j]) (.inr ⟨_,_,_,h,rfl,rfl,(by show (2:Nat)<=sizeLine;decide), .cons ⟨ti,rfl⟩ (.cons ⟨tj,rfl⟩ .nil)⟩) (aZ cZ (aZ cZ bT))
theorem wD:∀as:List Addr,Vals (as.map V.ref) (as.map wj)
 |[] => .nil
 |a::as => .cons rfl (wD as)
theorem aBL{K:Fg}{as:List Addr}{sl:Array (Option Value)}(h:K.lookup a=some ⟨.type "tuple", od, .seq (as.map wj).toArray n,sl⟩)(hl:as.length<=100)(hd:Dens K G ds (as.map V.ref)):Den K G (.tup ds) (.ref a):=
 eU (vs:=as.map V.ref) (.inr ⟨_,_,_,h,rfl,rfl,(by rw[qb,zLm];exact R.aX '#'),wD as⟩) hd
noncomputable def hls(xs ys:List D)(zs:List Str):List D:=fZ xs ys (R.aA zs false xs.length ys.length) aL ((R.starts (R.aA zs false xs.length ys.length) aL (R.aA zs false xs.length ys.length).length).drop 1)
noncomputable def aMM:Ct:=λds M k=>∃(xs ys:List D) (zs:List Str),ds=[dZ xs ys zs]/\(∀z∈zs,z.length<=1000)/\xs.length<=21/\ys.length<=21/\((0<xs.length/\0<ys.length)\/(xs=[]/\ys=[]))/\∀a,M a=none->k (.mt a) (bG M a (.lst (hls xs ys zs)))
theorem sL{s:R.Cell}(h:cells[0]?=some s):∀i,∃r,R.starts cells st (i+1)=s::r
 |0=>⟨[],by rw[R.c9 h (λ⟨s,z,_⟩=>by simp[R.starts] at z)];rfl⟩
 |i+1=>by
  obtain⟨r,a⟩:=sL h i
  cases hc:cells[i+1]? with
  |none=>exact⟨r,by simp only[R.starts,hc];simp only[R.starts] at a;exact a⟩
  |some c =>
   by_cases q:∃s∈R.starts cells st (i+1),R.Rch cells st s c
   ·exact⟨r,by rw[R.c6 hc q,a]⟩
   ·exact⟨r++[c],by rw[R.c9 hc q,a];rfl⟩
theorem t9{s:R.Cell}(h:cells[0]?=some s)(ha:∀c∈cells,R.Rch cells st s c):∀i,R.starts cells st (i+1)=[s]
 |0=>by rw[R.c9 h (λ⟨s,z,_⟩=>by simp[R.starts] at z)];rfl
 |i+1=>by
  have a:=t9 h ha i
  cases hc:cells[i+1]? with
  |none=>simp only[R.starts,hc];simp only[R.starts] at a;exact a
  |some c=>rw[R.c6 hc ⟨s,by rw[a];simp,ha c (zMo hc)⟩,a]
theorem kR(zs:List Str)(nx ny:Nat):(R.aA zs false nx ny)[0]?=some [-1, -1]:=by
 show ((qr (ny+1)).flatMap λ(u:Nat)=>R.aHK zs false nx ((u:Int)-1))[0]?=_
 have e:∃r,R.aHK zs false nx (((0:Nat):Int)-1)=[-1, -1]::r:=by
  unfold R.aHK
  rw[cS,jy,R.bK '#',if_pos rfl]
  exact⟨_,rfl⟩
 obtain⟨r,e⟩:=e
 rw[cS,Qw,e];rfl
theorem aLE{xs ys:List D}(h:∀c∈R.aA zs false xs.length ys.length,R.Rch (R.aA zs false xs.length ys.length) aL [-1, -1] c):hls xs ys zs=[]:=by
 have hl:0<(R.aA zs false xs.length ys.length).length:=(zGs (kR zs xs.length ys.length)).1
 obtain⟨n,a⟩:∃n,(R.aA zs false xs.length ys.length).length=n+1:=⟨_,(Nat.sub_add_cancel hl).symm⟩
 unfold hls
 rw[a,t9 (kR _ _ _) h n];rfl
theorem aAM(zs:List Str):hls [] [] zs=[]:=aLE λc b=>by
 obtain⟨a,u,rfl,h,e,i,d,_⟩:=R.bQ.mp b
 have g:a<((0:Nat):Int):=e
 have f:u<((0:Nat):Int):=d
 obtain rfl:a = -1:=by lia
 obtain rfl:u = -1:=by lia
 exact .refl
theorem aEF{s:R.Cell}{x y:Int}{d:Int×Int}{c:R.Cell}(h:R.Rch cells aL s [x,y])(hd:d∈aL)(e:c=[x+d.1,y+d.2])(hc:c∈cells):R.Rch cells aL s c:=by
 subst e;exact .step h hd hc
end Q
namespace HT
open PySem PySem.Spec PyProof.Rows
section
variable {E:Value->Shared->Prop}
theorem o6{t:Addr}{items:Array Value}{lo hi:Option Int}{Q:Value->Shared->Prop}(ht:IsTup s.heap t items)(hs:s.heap.IsSliceOf sl vl vu .none)(pl:gn vl lo)(pu:gn vu hi)(hw:sIx items.size 0 lo=0/\sIx items.size items.size hi=items.size)(h:Q (.ref t) s):wpAny (jt prog w) A (nv (.ref t) (.ref sl)) Q E s:=by
 obtain⟨os,d,c,e⟩:=id hs
 have b:s.TypeIs (.ref sl) "slice" := ⟨os,d,c⟩
 unfold nv
 try with_reducible refine xj ?_
 first|refine qa ?_.5|skip
 refine qa (JL ht.typeIs (by decide) ?_)
 refine qa (k4 (name:=ja "__getitem__") ht.typeIs kh
  (v3 kh ht.typeIs Jf ?_ (Jt _ _)))
 show wpAny _ _ (d4 (.ref t) >>= _) _ _ s
 refine qa (tupleItemsOf_ ht ?_)
 refine qa (mh b ?_)
 rw[if_pos (by decide)]
 refine qa (l6 hs pl pu ?_)
 have a:(((sIx items.size 0 lo:Nat):Int)==0&&(1:Int)==1&&(sIx items.size items.size hi-sIx items.size 0 lo)==items.size)=true:=by
  rw[hw.1,hw.2];simp
 show wpAny _ _ (if (((sIx items.size 0 lo:Nat):Int)==0&&(1:Int)==1&&(sIx items.size items.size hi-sIx items.size 0 lo)==items.size)=true then _ else _) _ _ s
 rw[if_pos a]
 refine qa ?_
 unfold J5
 refine qa (mh ht.typeIs ?_.5)
 rw[if_pos (by rfl)]
 refine qa (de ?_)
 exact wpAny_pure ⟨_,rfl,wpAny_pure h⟩
end
end HT
namespace L2
open PySem PySem.Spec PyProof.Rows
section
noncomputable def rSlA(K:qe):V->Option Int->Option Int->Hp->VK->Prop:=λx lo hi H Q=>∃a xs,x = .ref a/\SqT K H a xs /\
 ((HT.sIx xs.length 0 lo=0/\HT.sIx xs.length xs.length hi=xs.length)->Q (.ref a) H)/\(¬(HT.sIx xs.length 0 lo=0/\HT.sIx xs.length xs.length hi=xs.length)->∀p,H p=none->Q (.ref p) (upd H p (.tup (lY xs lo hi))))
theorem aKH:SlR X (rSlA X.K):=by
 intro pins s σ H x v k o lo d n Q I g f i pu h
 obtain⟨a,xs,e,j,l,m⟩:=h
 by_cases hw:HT.sIx xs.length 0 lo=0/\HT.sIx xs.length xs.length d=xs.length
 ·subst e
  cases g
  obtain⟨b,r,c,p⟩:=I.tuple j
  have hlen:b.toArray.size=xs.length:=by rw[qb];exact r.length.symm
  refine⟨"tuple", _,kh.lookup,c.typeIs,?_⟩
  exact HT.o6 c f i pu (by rw[hlen];exact hw) ⟨.ref a,H,I,rfl,l hw⟩
 ·exact aN8 pins s σ H x v k o lo d n Q I g f i pu ⟨a,xs,e,j,hw,m hw⟩
end
end L2
namespace Z
open PySem L2
theorem aL7{K:Fg}{l u:Option Int}(h:k (.tup (cutD ds l u)) M):Op3 K (rSlA K) (.tup ds) l u M k:=λG H v Q b e q=>by
 obtain⟨a,vs,ev,s,c⟩:=(Seq.tup ds).sq b e
 refine⟨a,vs,ev,s,λhw => ?_,λhw p f => ?_⟩
 ·have d:cutD ds l u=ds:=by
   rw[<- c.len] at hw
   unfold cutD
   rw[hw.1,hw.2,z8,rF,qw]
  rw[d] at h
  exact q _ _ _ _ _ (Stp.refl b) (by rw[<- ev];exact e) h
 ·have st:=b.new (o := .tup (lY vs l u)) f
  exact q _ _ _ _ _ st (eU (SqT.of aY) ((c.cut l u).up st.gg)) h
theorem aC9{α:Type}(l:List α):cutD l (some 1) none=l.drop 1:=by
 unfold cutD
 have a:HT.sIx l.length 0 (some 1)=min 1 l.length:=HT.uS l.length 0 1
 have b:HT.sIx l.length l.length none=l.length:=rfl
 rw[a,b]
 by_cases h:1<=l.length
 ·rw[Ji h,pj (by rw[ju];exact ql _)]
 ·have:l=[]:=jr.mp '!'
  subst this;rfl
theorem aB0{α:Type}(l:List α)(n:Nat):cutD l none (some (n:Int))=l.take n:=by
 unfold cutD
 have a:HT.sIx l.length 0 none=0:=rfl
 have b:HT.sIx l.length l.length (some (n:Int))=min n l.length:=HT.uS l.length l.length n
 rw[a,b,z8,rF,List.take_eq_take_iff]
 omega
end Z
namespace Q
open PySem L2 Z
end Q
namespace Z
open PySem L2 PySem.Spec PyProof.Rows
noncomputable def aJE(K:Fg):R2:=λx y H Q=>∃a b xs ys,x = .ref a/\y = .ref b/\SqT K H a xs/\SqT K H b ys/\xs.length+ys.length<=sizeLine/\(xs=[]->Q (.ref b) H)/\(xs≠[]->ys=[]->Q (.ref a) H)/\(xs≠[]->ys≠[]->∀p,H p=none->Q (.ref p) (upd H p (.tup (xs++ys))))
theorem aKT:OpR X (we .Add) (aJE X.K):=by
 intro pins s σ H x y v u Q I o w h
 obtain⟨a,b,xs,B,q,l,m,r,A,G,z,D⟩:=h
 by_cases g:xs=[]
 ·subst q l
  cases o
  cases w
  obtain⟨d,r1,p1,_⟩:=I.tuple m
  obtain⟨e,r2,L,_⟩:=I.tuple r
  have C:d=[]:=r1.nil_iff.mpr g
  obtain⟨⟨cls,M,data,J⟩,p,k,n,hd⟩:=id p1
  obtain⟨⟨t,j,data2,i⟩,c,f,E,hd2⟩:=id L
  simp only at k hd f hd2
  subst k hd f hd2
  exact QC ⟨_,p,rfl⟩ ⟨_,c,rfl⟩ mz Qe cb bq (zx _ _)
   (tuple_addW0 a b d.toArray e.toArray n E M j J i (by simp[C])) ⟨p,c, .ref b,H,I,rfl,G g⟩
 ·exact aL2 pins s σ H x y v u Q I o w ⟨a,b,xs,B,q,l,m,r,g,A,z g,D g⟩
section
variable {K:Fg}{es:List D}
theorem aKB(hz:ds.length+es.length<=sizeLine)(h:k (.tup (ds++es)) M):Op2 K (aJE K) (.tup ds) (.tup es) M k:=λG H v1 v2 Q c j i q=>by
 obtain⟨a,vs,ev,s,l⟩:=j.tup_
 obtain⟨b,ws,m,s2,d⟩:=i.tup_
 have f:=l.len
 have g:=d.len
 refine⟨a,b,vs,ws,ev,m,R.dC c.same s,R.dC c.same s2,by rw[<- f,<- g];exact hz,λz => ?_,λ_ z => ?_,λ_ _ p n => ?_⟩
 ·have e:ds=[]:=by rw[z] at f;exact jr.mp f
  rw[e,Q4] at h
  rw[<- m]
  exact q _ _ _ _ _ (Stp.refl c) i h
 ·have e:es=[]:=by rw[z] at g;exact jr.mp g
  rw[e,wb] at h
  rw[<- ev]
  exact q _ _ _ _ _ (Stp.refl c) j h
 ·have st:=c.new (o := .tup (vs++ws)) n
  exact q _ _ _ _ _ st (eU (SqT.of aY) ((l.append d).up st.gg)) h
end
end Z
namespace Z
open PySem L2
abbrev EvT(α:Type):=Option (α×List Nat×List Prop)
noncomputable def bnd{α β:Type}(o:EvT α)(f:α->List Nat->List Prop->EvT β):EvT β:=match o with
 |some (d,r,c)=>f d r c
 |none=>none
theorem bS{α β:Type}{o:EvT α}{f:α->List Nat->List Prop->EvT β}{z:β×List Nat×List Prop}(h:bnd o f=some z):∃d r c,o=some (d,r,c)/\f d r c=some z:=by
 cases o with
 |none=>cases h
 |some x=>exact⟨x.1,x.2.1,x.2.2,rfl,h⟩
noncomputable def orE{α:Type}(a b:Option α):Option α:=match a with
 |some z=>some z
 |none=>b
theorem eN{α:Type}{a b:Option α}{z:α}(h:orE a b=some z):a=some z\/b=some z:=by
 cases a with
 |none=>exact .inr h
 |some x=>exact .inl h
noncomputable def ob{α β:Type}(o:Option α)(f:α->Option β):Option β:=match o with
 |some x=>f x
 |none=>none
theorem aU{α β:Type}{o:Option α}{f:α->Option β}{z:β}(h:ob o f=some z):∃x,o=some x/\f x=some z:=by
 cases o with
 |none=>cases h
 |some x=>exact⟨x,rfl,h⟩
noncomputable def asI:D->Option Int
 |.int i=>some i
 |_=>none
noncomputable def asB:D->Option Bool
 |.bl i=>some i
 |_=>none
noncomputable def asS:D->Option Str
 |.str i=>some i
 |_=>none
noncomputable def asT:D->Option (List D)
 |.tup i=>some i
 |_=>none
noncomputable def asL:D->Option (List D)
 |.lst i=>some i
 |.fl i=>some i
 |_=>none
noncomputable def asF:D->Option (List D)
 |.lst i=>some i
 |_=>none
theorem cU{i:Int}(h:asI d=some i):d = .int i:=by cases d <;> cases h <;> rfl
theorem lR{i:Bool}(h:asB d=some i):d = .bl i:=by cases d <;> cases h <;> rfl
theorem lW{i:Str}(h:asS d=some i):d = .str i:=by cases d <;> cases h <;> rfl
theorem p6{i:List D}(h:asT d=some i):d = .tup i:=by cases d <;> cases h <;> rfl
theorem aFI{i:List D}(h:asF d=some i):d = .lst i:=by cases d <;> cases h <;> rfl
theorem yE{i:List D}(h:asL d=some i)(M:Mem):Seq M d true i:=by
 cases d <;> cases h
 ·exact .lst _
 ·exact .fl _
noncomputable abbrev on2{α β:Type}(p:D->Option α)(d1 d2:D)(f:α->α->Option β):Option β:=ob (p d1) λi=>ob (p d2) λj=>f i j
noncomputable def opD(op:gq)(d1 d2:D)(r:List Nat)(c:List Prop):EvT D:=match op with
 |.Add=>orE (on2 asI d1 d2 λi j=>some (.int (i+j),r,c)) (orE (on2 asS d1 d2 λx y=>some (.str (x++y),r,(x.length+y.length<=sizeLine)::c))
  (orE (on2 asT d1 d2 λx y=>some (.tup (x++y),r,(x.length+y.length<=sizeLine)::c)) (on2 asF d1 d2 λx y=>some (.lst (x++y),r,(x.length+y.length<=sizeLine)::c))))
 |.Sub=>on2 asI d1 d2 λi j=>some (.int (i-j),r,c)
 |.Mult=>on2 asI d1 d2 λi j=>some (.int (i*j),r,(CMul i j\/aI6 i j)::c)
 |.Mod=>on2 asI d1 d2 λi j=>some (.int (i%j),r,(0<j)::c)
 |.FloorDiv=>on2 asI d1 d2 λi j=>some (.int (i/j),r,CDiv i j::c)
 |.Pow=>on2 asI d1 d2 λi j=>some (.int (i^j.toNat),r,CPow i j::c)
 |_=>none
noncomputable def cmD(op:JI)(d1 d2:D):Option Bool:=match op with
 |.Lt=>on2 asI d1 d2 λi j=>some (decide (i<j))
 |.LtE=>on2 asI d1 d2 λi j=>some (decide (i<=j))
 |.Gt=>on2 asI d1 d2 λi j=>some (decide (j<i))
 |.GtE=>on2 asI d1 d2 λi j=>some (decide (j<=i))
 |.Eq=>orE (on2 asI d1 d2 λi j=>some (decide (i=j))) (orE (on2 asS d1 d2 λi j=>some (decide (i=j))) (on2 asB d1 d2 λi j=>some (decide (i=j))))
 |.NotEq=>orE (on2 asI d1 d2 λi j=>some (!decide (i=j))) (orE (on2 asS d1 d2 λi j=>some (!decide (i=j))) (on2 asB d1 d2 λi j=>some (!decide (i=j))))
 |_=>none
noncomputable def ixD(d1 d2:D):Option D:=ob (asI d2) λi=>orE (ob (asT d1) λds=>atI ds i) (ob (asL d1) λds=>atI ds i)
noncomputable def slD(d1:D)(l u:Option Int):Option D:=orE (ob (asT d1) λds=>some (.tup (cutD ds l u))) (ob (asL d1) λds=>some (.lst (cutD ds l u)))
noncomputable def lnD(d:D)(r:List Nat)(c:List Prop):EvT D:=orE (ob (asT d) λds=>some (.int (ds.length:Int),r,c)) (orE (ob (asL d) λds=>some (.int (ds.length:Int),r,c)) (ob (asS d) λx=>some (.int (x.length:Int),r,(x.length<=sizeLine)::c)))
abbrev EvF:=Expr->List Nat->List Prop->EvT D
noncomputable def evs(f:EvF):List Expr->List Nat->List Prop->EvT (List D)
 |[],r,c=>some ([],r,c)
 |e::es,r,c=>bnd (f e r c) λd r c=>bnd (evs f es r c) λds r c=>some (d::ds,r,c)
noncomputable def slc:Expr->Option (Option Expr×Option Expr)
 |.Slice lo hi none _=>some (lo,hi)
 |_=>none
theorem aIE(h:slc b=some (lo,hi)):∃p,b = .Slice lo hi none p:=by
 cases b <;> first|exact nomatch (show none=some _ from h)|skip
 rename_i l1 u1 s1 p1
 cases s1 with
 |some=>exact nomatch (show none=some _ from h)
 |none=>cases h;exact⟨_,rfl⟩
noncomputable def evO(f:EvF)(o:Option Expr)(r:List Nat)(c:List Prop):EvT (Option Int):=match o with
 |none=>some (none,r,c)
 |some e=>bnd (f e r c) λd r c=>ob (asI d) λi=>some (some i,r,c)
noncomputable def evN(Γ:Gm)(r:List Nat)(c:List Prop):EvT D:=match r with
 |[]=>none
 |i::r=>ob (Γ[i]?) λo=>ob o λd=>some (d,r,c)
noncomputable def evC(x:Const)(r:List Nat)(c:List Prop):EvT D:=match x with
 |.int i=>some (.int i,r,c)
 |.bool i=>some (.bl i,r,c)
 |.str i=>some (.str i,r,c)
 |.none=>some (.non,r,c)
 |_=>none
noncomputable def ev1(op:UnaryOp)(d:D)(r:List Nat)(c:List Prop):EvT D:=match op with
 |.USub=>ob (asI d) λi=>some (.int (-i),r,c)
 |.Not=>ob (asB d) λi=>some (.bl (!i),r,c)
 |_=>none
noncomputable def hd1{α:Type}:List α->Option α
 |[x]=>some x
 |_=>none
theorem pZ{α:Type}{l:List α}{x:α}(h:hd1 l=some x):l=[x]:=by
 cases l with
 |nil=>cases h
 |cons y t=>cases t with
  |nil=>cases h;rfl
  |cons=>cases h
noncomputable def evX(f:EvF)(a b:Expr)(r:List Nat)(c:List Prop):EvT D:=bnd (f a r c) λd1 r c=>match slc b with
 |some (lo,hi)=>bnd (evO f lo r c) λl r c=>bnd (evO f hi r c) λu r c=>ob (slD d1 l u) λd=>some (d,r,c)
 |none=>bnd (f b r c) λd2 r c=>ob (ixD d1 d2) λd=>some (d,r,c)
noncomputable def ev(Γ:Gm):Nat->EvF
 |0,_,_,_=>none
 |n+1,e,r,c=>match e with
  |.Name _ _=>evN Γ r c
  |.Constant x _ _=>evC x r c
  |.BinOp a op b _=>bnd (ev Γ n a r c) λd1 r c=>bnd (ev Γ n b r c) λd2 r c=>opD op d1 d2 r c
  |.UnaryOp op a _=>bnd (ev Γ n a r c) λd r c=>ev1 op d r c
  |.Compare a ops bs _=>ob (hd1 ops) λop=>ob (hd1 bs) λb=>bnd (ev Γ n a r c) λd1 r c=>bnd (ev Γ n b r c) λd2 r c=>ob (cmD op d1 d2) λt=>some (.bl t,r,c)
  |.Subscript a b _=>evX (ev Γ n) a b r c
  |.Tuple es _ _=>bnd (evs (ev Γ n) es r c) λds r c=>some (.tup ds,r,c)
  |.List es _=>bnd (evs (ev Γ n) es r c) λds r c=>some (.lst ds,r,c)
  |.Call _ as _ _=>ob (hd1 as) λa=>bnd (ev Γ n a r c) λd r c=>lnD d r c
  |_=>none
noncomputable def aIC(sc:Scope)(x:Str):Bool:=sc.names.lookup x==some .local||(sc.names.lookup x==some .cell||sc.names.lookup x==some .free)
noncomputable def aGU(N:List Str)(sc:Scope)(x:Str)(i:Nat):Bool:=(N[i]?==some x)&&aIC sc x && !(x==("__debug__" : Str)) && !(x==("__classdict__" : Str))
abbrev ChF:=Expr->List Nat->Option (List Nat)
noncomputable def chks(f:ChF):List Expr->List Nat->Option (List Nat)
 |[],r=>some r
 |e::es,r=>ob (f e r) λr=>chks f es r
noncomputable def aG1(f:ChF)(o:Option Expr)(r:List Nat):Option (List Nat):=match o with
 |none=>some r
 |some e=>f e r
noncomputable def aHP(N:List Str)(sc:Scope)(x:Str)(r:List Nat):Option (List Nat):=match r with
 |[]=>none
 |i::r=>if aGU N sc x i then some r else none
noncomputable def chkL(l:Option (Str->Option NameKind))(g:Expr)(ks:List fv):Option Unit:=match g with
 |.Name x _=>match ks with
  |[]=>ob l λkd=>if (x==("len" : Str))&&(kd x==some .globalImplicit) then some () else none
  |_=>none
 |_=>none
noncomputable def chk(l:Option (Str->Option NameKind))(N:List Str)(sc:Scope):Nat->ChF
 |0,_,_=>none
 |n+1,e,r=>match e with
  |.Name x _=>aHP N sc x r
  |.Constant _ _ _=>some r
  |.BinOp a _ b _=>ob (chk l N sc n a r) λr=>chk l N sc n b r
  |.UnaryOp _ a _=>chk l N sc n a r
  |.Compare a _ bs _=>ob (hd1 bs) λb=>ob (chk l N sc n a r) λr=>chk l N sc n b r
  |.Subscript a b _=>ob (chk l N sc n a r) λr=>match slc b with
   |some (lo,hi)=>ob (aG1 (chk l N sc n) lo r) λr=>aG1 (chk l N sc n) hi r
   |none=>chk l N sc n b r
  |.Tuple es _ _=>if es.length<=1000 then chks (chk l N sc n) es r else none
  |.List es _=>if es.length<=1000 then chks (chk l N sc n) es r else none
  |.Call g as ks _=>ob (chkL l g ks) λ_=>ob (hd1 as) λa=>chk l N sc n a r
  |_=>none
@[reducible] def allP:List Prop->Prop
 |[]=>True
 |p::ps=>p/\allP ps
noncomputable def EvX(c c':List Prop):Prop:=∃l,c'=l++c
theorem EvX.refl(c:List Prop):EvX c c:=⟨[],rfl⟩
theorem EvX.cons(p:Prop)(c:List Prop):EvX c (p::c):=⟨[p],rfl⟩
theorem EvX.trans{a b c:List Prop}(h:EvX a b)(g:EvX b c):EvX a c:=by
 obtain⟨l,rfl⟩:=h
 obtain⟨m,rfl⟩:=g
 exact⟨m++l,(vm ..).symm⟩
theorem aAA:∀{l c:List Prop},allP (l++c)->allP c
 |[],_,h=>h
 |_::l,_,h=>aAA (l:=l) h.2
theorem EvX.all{c:List Prop}(h:EvX c c')(g:allP c'):allP c:=by
 obtain⟨l,rfl⟩:=h
 exact aAA g
theorem aJX{sc:Scope}(h:aIC sc x=true):Vis sc x:=by
 unfold aIC at h
 rw[yh,yh] at h
 exact h.imp eq_of_beq λh=>h.imp eq_of_beq eq_of_beq
theorem aI1{α:Type}{b:Bool}{x z:α}(h:(if b=true then some x else none)=some z):b=true/\x=z:=by
 cases b
 ·cases h
 ·exact⟨rfl,qz h⟩
theorem nope{α:Type}{z:α}{p:Prop}(h:(none:Option α)=some z):p:=nomatch h
section
theorem aAS{op:gq}{r:R2}{g:Int->Int->D}{C:Int->Int->Prop}{c:List Prop}(ho:OpR X (we op) r)(hr:∀{i j:Int}{M:Mem}{k:D->Mem->Prop},C i j->k (g i j) M->Op2 X.K r (.int i) (.int j) M k)(h:(on2 asI d1 d2 λi j=>some (g i j,r0,C i j::c))=some (d,r',c')):r'=r0/\EvX c c'/\(allP c'->∀{M:Mem}{k:D->Mem->Prop},k d M->∃r,OpR X (we op) r/\Op2 X.K r d1 d2 M k):=by
 obtain⟨i,a,h⟩:=aU h
 obtain⟨j,b,h⟩:=aU h
 cases cU a;cases cU b;cases h
 exact⟨rfl, .cons _ _,λq _ _ h=>⟨_,ho,hr q.1 h⟩⟩
theorem uJ{op:gq}{r:R2}{α:Type}{p:D->Option α}{g:α->α->D}{C:α->α->Prop}{c:List Prop}(ho:OpR X (we op) r)(hr:∀{i j:α}{M:Mem}{k:D->Mem->Prop},p d1=some i->p d2=some j->C i j->k (g i j) M->Op2 X.K r d1 d2 M k)(h:(on2 p d1 d2 λi j=>some (g i j,r0,C i j::c))=some (d,r',c')):r'=r0/\EvX c c'/\(allP c'->∀{M:Mem}{k:D->Mem->Prop},k d M->∃r,OpR X (we op) r/\Op2 X.K r d1 d2 M k):=by
 obtain⟨i,a,h⟩:=aU h
 obtain⟨j,b,h⟩:=aU h
 cases h
 exact⟨rfl, .cons _ _,λq _ _ h=>⟨_,ho,hr a b q.1 h⟩⟩
theorem aBF{op:gq}{r:R2}{g:Int->Int->D}{c:List Prop}(ho:OpR X (we op) r)(hr:∀{i j:Int}{M:Mem}{k:D->Mem->Prop},k (g i j) M->Op2 X.K r (.int i) (.int j) M k)(h:(on2 asI d1 d2 λi j=>some (g i j,r0,c))=some (d,r',c')):r'=r0/\EvX c c'/\(allP c'->∀{M:Mem}{k:D->Mem->Prop},k d M->∃r,OpR X (we op) r/\Op2 X.K r d1 d2 M k):=by
 obtain⟨i,a,h⟩:=aU h
 obtain⟨j,b,h⟩:=aU h
 cases cU a;cases cU b;cases h
 exact⟨rfl, .refl _,λq _ _ h=>⟨_,ho,hr h⟩⟩
theorem aN1{op:gq}{r:List Nat}{c:List Prop}(h:opD op d1 d2 r c=some (d,r',c')):r'=r/\EvX c c'/\(allP c'->∀{M:Mem}{k:D->Mem->Prop},k d M->∃r,OpR X (we op) r/\Op2 X.K r d1 d2 M k):=by
 cases op <;> first|exact nope h|skip
 ·rcases eN h with h|h
  ·exact aBF gE iH h
  ·rcases eN h with h|h
   ·exact uJ aDI (λa b q z=>by cases lW a;cases lW b;exact aJ3 q z) h
   ·rcases eN h with h|h
    ·exact uJ aKT (λa b q z=>by cases p6 a;cases p6 b;exact aKB q z) h
    ·exact uJ kA (λa b q z=>by cases aFI a;cases aFI b;exact j8 (.lst _) (.lst _) q z) h
 ·exact aBF tQ iH h
 ·obtain⟨i,a,h⟩:=aU h
  obtain⟨j,b,h⟩:=aU h
  cases cU a;cases cU b;cases h
  exact⟨rfl, .cons _ _,λq _ _ h=>q.1.elim (λq=>⟨_,sZ,jF q h⟩) (λq=>⟨_,vL,jF q h⟩)⟩
 ·exact aAS yW jF h
 ·exact aAS aNP jF h
 ·exact aAS aB2 jF h
theorem jY{op:JI}{r:R2}{α:Type}{p:D->Option α}{g:α->α->Bool}(ho:OpR X (wa op) r)(hr:∀{i j:α}{M:Mem}{k:D->Mem->Prop},p d1=some i->p d2=some j->k (.bl (g i j)) M->Op2 X.K r d1 d2 M k)(h:(on2 p d1 d2 λi j=>some (g i j))=some t)(hk:k (.bl t) M):∃r,OpR X (wa op) r/\Op2 X.K r d1 d2 M k:=by
 obtain⟨i,a,h⟩:=aU h
 obtain⟨j,b,h⟩:=aU h
 cases h
 exact⟨_,ho,hr a b hk⟩
theorem aD7{op:JI}(h:cmD op d1 d2=some t):(op ≠ .In/\op ≠ .NotIn)/\∀{M:Mem}{k:D->Mem->Prop},k (.bl t) M->∃r,OpR X (wa op) r/\Op2 X.K r d1 d2 M k:=by
 cases op <;> first|exact nope h|refine⟨⟨by decide,by decide⟩,λc => ?_⟩
 ·rcases eN h with h|h
  ·exact jY oW (λa b z=>by cases cU a;cases cU b;exact aAJ z) h c
  ·rcases eN h with h|h
   ·exact jY oW (λa b z=>by cases lW a;cases lW b;exact aFM z) h c
   ·exact jY oW (λa b z=>by cases lR a;cases lR b;exact aEO z) h c
 ·rcases eN h with h|h
  ·exact jY oH (λa b z=>by cases cU a;cases cU b;exact aMC z) h c
  ·rcases eN h with h|h
   ·exact jY oH (λa b z=>by cases lW a;cases lW b;exact tK z) h c
   ·exact jY oH (λa b z=>by cases lR a;cases lR b;exact aE8 z) h c
 ·exact jY aI8 (λa b z=>by cases cU a;cases cU b;exact pW z) h c
 ·exact jY aJA (λa b z=>by cases cU a;cases cU b;exact pW z) h c
 ·exact jY aI4 (λa b z=>by cases cU a;cases cU b;exact pW z) h c
 ·exact jY aJD (λa b z=>by cases cU a;cases cU b;exact pW z) h c
theorem aML(h:ixD d1 d2=some d)(hk:k d M):Op2 X.K (rIx X.K) d1 d2 M k:=by
 obtain⟨i,a,h⟩:=aU h
 cases cU a
 rcases eN h with h|h
 ·obtain⟨ds,e,h⟩:=aU h
  cases p6 e
  exact bB (.tup _) h hk
 ·obtain⟨ds,e,h⟩:=aU h
  exact bB (yE e M) h hk
theorem aNA{l u:Option Int}(h:slD d1 l u=some d)(hk:k d M):∃r,SlR X r/\Op3 X.K r d1 l u M k:=by
 rcases eN h with h|h
 ·obtain⟨ds,e,h⟩:=aU h
  cases p6 e;cases h
  exact⟨_,aKH,aL7 hk⟩
 ·obtain⟨ds,e,h⟩:=aU h
  cases h
  exact⟨_,vU,xV (yE e M) hk⟩
structure EvPln(X:Cx)(e:Expr):Prop where
 st:∀es,starEach (e::es) X.env=(false,eval e X.env)::starEach es X.env
 ix:uW e
noncomputable def aME(X:Cx)(Γ:Gm)(e:Expr)(d:D)(c c':List Prop):Prop:=EvPln X e/\EvX c c'/\(allP c'->∀{M:Mem}{k:D->Mem->Prop},k d M->GE X e Γ M k)
noncomputable def aIN(X:Cx)(Γ:Gm)(f:EvF)(g:ChF):Prop:=∀{e r c d r1 c1 r2},f e r c=some (d,r1,c1)->g e r=some r2->r1=r2/\aME X Γ e d c c1
theorem m6{f:EvF}{g:ChF}(hf:aIN X Γ f g):
  ∀{es:List Expr}{r:List Nat}{c:List Prop}{ds:List D}{r1:List Nat}{c1:List Prop}{r2:List Nat},evs f es r c=some (ds,r1,c1)->chks g es r=some r2->r1=r2/\ds.length=es.length/\EvX c c1/\(allP c1->∀{M:Mem}{ka:List D->Mem->Prop},ka ds M->GA X es Γ M ka)
 |[],r,c,ds,r1,c1,r2,h,g=>by
  cases (show some ([],r,c)=some (ds,r1,c1) from h)
  cases (show some r=some r2 from g)
  exact⟨rfl,rfl, .refl _,λ_ _ _ h=>aS h⟩
 |e::es,r,c,ds,r1,c1,r2,h,q=>by
  obtain⟨d,r3,u,m,h⟩:=bS (show bnd _ _=_ from h)
  obtain⟨r4,k,q⟩:=aU (show ob _ _=_ from q)
  obtain⟨rfl,p,x,j⟩:=hf m k
  obtain⟨o,t,s,n,h⟩:=bS h
  cases h
  obtain⟨rfl,l,i,b⟩:=m6 hf n q
  exact⟨rfl,by rw[qp,qp,l],x.trans i,λa _ _ h=>aE (j (i.all a) (b a h)) (p.st es)⟩
theorem aF5{f:EvF}{g:ChF}(hf:aIN X Γ f g){o:Option Expr}{r:List Nat}{c:List Prop}{i:Option Int}{r1:List Nat}{c1:List Prop}{r2:List Nat}(h:evO f o r c=some (i,r1,c1))(q:aG1 g o r=some r2):r1=r2/\EvX c c1/\(allP c1->∀{M:Mem}{ko:Option Int->Mem->Prop},ko i M->GO X o Γ M ko):=by
 cases o with
 |none=>cases h;cases q;exact⟨rfl, .refl _,λ_ _ _ h=>uX h⟩
 |some e =>
  obtain⟨d,r3,l,b,h⟩:=bS (show bnd _ _=_ from h)
  obtain⟨i,k,h⟩:=aU h
  cases cU k;cases h
  obtain⟨rfl,p,x,j⟩:=hf b q
  exact⟨rfl,x,λa _ _ h=>uG (j a ⟨_,rfl,h⟩)⟩
theorem aLL{sc:Scope}{r r2:List Nat}(h:aHP N sc x r=some r2):∃i,r=i::r2/\N[i]?=some x/\Vis sc x/\(x==("__debug__" : Str))=false/\(x==("__classdict__" : Str))=false:=by
 cases r with
 |nil=>cases h
 |cons i r =>
  obtain⟨q,a⟩:=aI1 (b:=aGU N sc x i) h
  clear h
  subst a
  simp only[aGU,qn,Qy,beq_iff_eq] at q
  exact⟨i,rfl,q.1.1.1,aJX q.1.1.2,q.1.2,q.2⟩
theorem aK4{l:Option (Str->Option NameKind)}{g:Expr}{ks:List fv}{u:Unit}(h:chkL l g ks=some u):∃x p kd,g = .Name x p/\ks=[]/\l=some kd/\x = "len" /\ kd x=some .globalImplicit:=by
 cases g <;> first|exact nope h|skip
 cases ks with
 |cons=>exact nope h
 |nil =>
  obtain⟨kd,e,h⟩:=aU (show ob _ _=_ from h)
  obtain⟨h,_⟩:=aI1 h
  rw[qn,beq_iff_eq,beq_iff_eq] at h
  exact⟨_,_,kd,rfl,rfl,e,h.1,h.2⟩
theorem dD{l:Option (Str->Option NameKind)}(hL:∀kd,l=some kd->kd=X.env.kindOf/\X.mg ("len" : Str)=none):∀(n:Nat),aIN X Γ (ev Γ n) (chk l X.N X.env.scope n)
 |0,e,r,c,d,r1,c1,r2,h,g=>nope h
 |n+1,e,r,c,d,r1,c1,r2,h,g=>by
  cases e <;> first|exact nope h|skip
  ·rename_i a op b p
   obtain⟨H,r3,E,v,h⟩:=bS (show bnd _ _=_ from h)
   obtain⟨r4,s,g⟩:=aU (show ob _ _=_ from g)
   obtain⟨rfl,p1,q,m⟩:=dD hL n v s
   obtain⟨U,O,J,D,h⟩:=bS h
   obtain⟨rfl,P,y,C⟩:=dD hL n D g
   obtain⟨rfl,B,G⟩:=aN1 (X:=X) h
   refine⟨rfl,⟨λ_=>rfl,λ_ _=>rfl⟩,(q.trans y).trans B,λa M k h => ?_⟩
   obtain⟨r,A,z⟩:=G a h
   exact bR A (m ((y.trans B).all a) (C (B.all a) z))
  ·rename_i op a p
   obtain⟨H,r3,E,v,h⟩:=bS (show bnd _ _=_ from h)
   obtain⟨rfl,p1,q,m⟩:=dD hL n v (show chk l X.N X.env.scope n a r=_ from g)
   cases op <;> first|exact nope h|skip
   ·obtain⟨i,s,h⟩:=aU (show ob _ _=_ from h)
    cases lR s;cases h
    exact⟨rfl,⟨λ_=>rfl,λ_ _=>rfl⟩,q,λa M k h=>aMK (m a ⟨_,rfl,h⟩)⟩
   ·obtain⟨i,s,h⟩:=aU (show ob _ _=_ from h)
    cases cU s;cases h
    exact⟨rfl,⟨λ_=>rfl,λ_ _=>rfl⟩,q,λa M k h=>aPD aNI (m a ⟨_,rfl,h⟩)⟩
  ·rename_i a ops bs p
   obtain⟨op,Y,h⟩:=aU (show ob _ _=_ from h)
   obtain⟨b,S,h⟩:=aU h
   obtain⟨b',K,g⟩:=aU (show ob _ _=_ from g)
   cases S.symm.trans K
   cases pZ Y;cases pZ S
   obtain⟨H,r3,E,v,h⟩:=bS h
   obtain⟨r4,s,g⟩:=aU g
   obtain⟨rfl,p1,q,m⟩:=dD hL n v s
   obtain⟨U,O,J,D,h⟩:=bS h
   obtain⟨rfl,P,y,C⟩:=dD hL n D g
   obtain⟨t,F,h⟩:=aU h
   cases h
   obtain⟨hm,G⟩:=aD7 (X:=X) F
   refine⟨rfl,⟨λ_=>rfl,λ_ _=>rfl⟩,q.trans y,λa M k h => ?_⟩
   obtain⟨r,A,z⟩:=G h
   exact jD A (m (y.all a) (C a z)) (nomark _ hm.1 hm.2)
  ·rename_i f as ks p
   obtain⟨u,el,g2⟩:=aU (show ob _ _=_ from g)
   clear g
   obtain⟨x,px,kd,rfl,rfl,rfl,rfl,I⟩:=aK4 el
   obtain⟨rfl,Q⟩:=hL _ rfl
   obtain⟨a,T,h⟩:=aU (show ob _ _=_ from h)
   obtain⟨a',L,g⟩:=aU g2
   cases T.symm.trans L
   cases pZ T
   obtain⟨H,r3,E,v,h⟩:=bS h
   obtain⟨rfl,p1,q,m⟩:=dD hL n v g
   rcases eN h with h|h
   ·obtain⟨ds,s,h⟩:=aU h
    cases p6 s;cases h
    exact⟨rfl,⟨λ_=>rfl,λ_ _=>rfl⟩,q,λa M k h=>b8 dL Q va (aE (m a (aS (o8 (.tup _) h))) (p1.st [])) I (by decide) (by decide) (p1.st []) rfl⟩
   ·rcases eN h with h|h
    ·obtain⟨ds,s,h⟩:=aU h
     cases h
     exact⟨rfl,⟨λ_=>rfl,λ_ _=>rfl⟩,q,λa M k h=>b8 dL Q va (aE (m a (aS (o8 (yE s M) h))) (p1.st [])) I (by decide) (by decide) (p1.st []) rfl⟩
    ·obtain⟨ds,s,h⟩:=aU h
     cases lW s;cases h
     exact⟨rfl,⟨λ_=>rfl,λ_ _=>rfl⟩,q.trans (.cons _ _),λa M k h=>b8 dL Q va (aE (m a.2 (aS (iX a.1 h))) (p1.st [])) I (by decide) (by decide) (p1.st []) rfl⟩
  ·rename_i x j p
   cases (show some r=some r2 from g)
   cases x <;> first|exact nope h|skip
   ·cases h;exact⟨rfl,⟨λ_=>rfl,λ_ _=>rfl⟩, .refl _,λ_ _ _ h=>tY h⟩
   ·cases h;exact⟨rfl,⟨λ_=>rfl,λ_ _=>rfl⟩, .refl _,λ_ _ _ h=>kZ h⟩
   ·cases h;exact⟨rfl,⟨λ_=>rfl,λ_ _=>rfl⟩, .refl _,λ_ _ _ h=>z4 h⟩
   ·cases h;exact⟨rfl,⟨λ_=>rfl,λ_ _=>rfl⟩, .refl _,λ_ _ _ h=>ge_str h⟩
  ·rename_i a b p
   obtain⟨H,r3,E,v,h⟩:=bS (show bnd _ _=_ from h)
   obtain⟨r4,s,g⟩:=aU (show ob _ _=_ from g)
   obtain⟨rfl,p1,q,m⟩:=dD hL n v s
   cases hs:slc b with
   |some w =>
    obtain⟨lo,hi⟩:=w
    obtain⟨pb,rfl⟩:=aIE hs
    obtain⟨l5,O,J,D,h⟩:=bS (show bnd _ _=_ from h)
    obtain⟨r6,F,g⟩:=aU (show ob _ _=_ from g)
    obtain⟨rfl,y,C⟩:=aF5 (dD hL n) D F
    obtain⟨u7,r7,c7,Z,h⟩:=bS h
    obtain⟨rfl,B,G⟩:=aF5 (dD hL n) Z g
    obtain⟨d8,W,h⟩:=aU h
    cases h
    refine⟨rfl,⟨λ_=>rfl,λ_ _=>rfl⟩,(q.trans y).trans B,λa M k h => ?_⟩
    obtain⟨r,A,z⟩:=aNA (X:=X) W h
    exact rO A (m ((y.trans B).all a) (C (B.all a) (G a z)))
   |none =>
    rw[hs] at h g
    obtain⟨U,O,J,D,h⟩:=bS (show bnd _ _=_ from h)
    obtain⟨rfl,P,y,C⟩:=dD hL n D g
    obtain⟨d3,F,h⟩:=aU h
    cases h
    exact⟨rfl,⟨λ_=>rfl,λ_ _=>rfl⟩,q.trans y,λa M k h=>a9 aW (m (y.all a) (C a (aML F h))) P.ix⟩
  ·rename_i x p
   obtain⟨i,rfl,A,z,h3,V⟩:=aLL (show aHP X.N X.env.scope x r=_ from g)
   obtain⟨o,v,h⟩:=aU (show ob _ _=_ from h)
   obtain⟨d',rfl,h⟩:=aU h
   cases h
   exact⟨rfl,⟨λ_=>rfl,λ_ _=>rfl⟩, .refl _,λ_ _ _ h=>aD i v h A z h3 V⟩
  ·rename_i es p
   obtain⟨ds,r3,E,v,h⟩:=bS (show bnd _ _=_ from h)
   by_cases hl:es.length<=1000
   ·cases h
    obtain⟨rfl,l,q,m⟩:=m6 (dD hL n) v ((if_pos hl).symm.trans g)
    exact⟨rfl,⟨λ_=>rfl,λ_ _=>rfl⟩,q,λa M k h=>aFO (m a ⟨by rw[l];exact R.aX (jn hl (by decide)),h⟩)⟩
   ·exact nope ((if_neg hl).symm.trans g)
  ·rename_i es j p
   obtain⟨ds,r3,E,v,h⟩:=bS (show bnd _ _=_ from h)
   by_cases hl:es.length<=1000
   ·cases h
    obtain⟨rfl,l,q,m⟩:=m6 (dD hL n) v ((if_pos hl).symm.trans g)
    exact⟨rfl,⟨λ_=>rfl,λ_ _=>rfl⟩,q,λa M k h=>pL (m a ⟨by rw[l];exact R.aX (jn hl (by decide)),h⟩)⟩
   ·exact nope ((if_neg hl).symm.trans g)
end
noncomputable def evT(Γ:Gm):Nat->Expr->List Nat->List Prop->EvT Bool
 |0,_,_,_=>none
 |n+1,e,r,c=>match e with
  |.Compare a ops bs _=>ob (hd1 ops) λop=>ob (hd1 bs) λb=>bnd (ev Γ n a r c) λd1 r c=>bnd (ev Γ n b r c) λd2 r c=>ob (cmD op d1 d2) λt=>some (t,r,c)
  |.UnaryOp op a _=>match op with
   |.Not=>bnd (evT Γ n a r c) λt r c=>some (!t,r,c)
   |_=>none
  |.Name x p=>bnd (ev Γ (n+1) (.Name x p) r c) λd r c=>ob (asB d) λt=>some (t,r,c)
  |.Subscript a b p=>bnd (ev Γ (n+1) (.Subscript a b p) r c) λd r c=>ob (asB d) λt=>some (t,r,c)
  |_=>none
section
theorem tP{l:Option (Str->Option NameKind)}(hL:∀kd,l=some kd->kd=X.env.kindOf/\X.mg ("len" : Str)=none):∀(n:Nat) {e:Expr}{r:List Nat}{c:List Prop}{t:Bool}{r1:List Nat}{c1:List Prop}{r2:List Nat},evT Γ n e r c=some (t,r1,c1)->chk l X.N X.env.scope n e r=some r2->r1=r2/\(allP c1->∀{M:Mem}{kb:Bool->Mem->Prop},kb t M->GT X e Γ M kb)
 |0,e,r,c,d,r1,c1,r2,h,g=>nope h
 |n+1,e,r,c,d,r1,c1,r2,h,g=>by
  cases e <;> first|exact nope h|skip
  ·rename_i op a p
   cases op <;> first|exact nope h|skip
   obtain⟨t,r3,o,j,h⟩:=bS (show bnd _ _=_ from h)
   obtain⟨rfl,f⟩:=tP hL n j (show chk l X.N X.env.scope n a r=_ from g)
   cases h
   exact⟨rfl,λa M k h=>lO (f a h)⟩
  ·rename_i a ops bs p
   obtain⟨op,B,h⟩:=aU (show ob _ _=_ from h)
   obtain⟨b,s,h⟩:=aU h
   obtain⟨F,q,g⟩:=aU (show ob _ _=_ from g)
   cases s.symm.trans q
   cases pZ B;cases pZ s
   obtain⟨v,r3,o,j,h⟩:=bS h
   obtain⟨r4,m,g⟩:=aU g
   obtain⟨rfl,p1,u,f⟩:=dD hL n j m
   obtain⟨G,H,E,D,h⟩:=bS h
   obtain⟨rfl,I,y,A⟩:=dD hL n D g
   obtain⟨t,x,h⟩:=aU h
   cases h
   obtain⟨hm,C⟩:=aD7 (X:=X) x
   refine⟨rfl,λa M k h => ?_⟩
   obtain⟨r,z,w⟩:=C (k:=λd M3=>∃c,d = .bl c/\k c M3) ⟨_,rfl,h⟩
   exact b5 z (f (y.all a) (A a w)) (nomark _ hm.1 hm.2)
  ·obtain⟨v,r3,o,j,h⟩:=bS (show bnd _ _=_ from h)
   obtain⟨i,m,h⟩:=aU h
   cases lR m;cases h
   obtain⟨rfl,p1,u,f⟩:=dD hL (n+1) j g
   exact⟨rfl,λa M k h=>jK (f a ⟨_,rfl,h⟩)⟩
  ·obtain⟨v,r3,o,j,h⟩:=bS (show bnd _ _=_ from h)
   obtain⟨i,m,h⟩:=aU h
   cases lR m;cases h
   obtain⟨rfl,p1,u,f⟩:=dD hL (n+1) j g
   exact⟨rfl,λa M k h=>jK (f a ⟨_,rfl,h⟩)⟩
variable {ka:List D->Mem->Prop}{c:List Prop}
theorem vM:∀kd,(none:Option (Str->Option NameKind))=some kd->kd=X.env.kindOf/\X.mg ("len" : Str)=none:=λ_ h=>nomatch h
theorem aC0(h:X.mg ("len" : Str)=none):∀kd,some X.env.kindOf=some kd->kd=X.env.kindOf/\X.mg ("len" : Str)=none:=λ_ e=>⟨(qz e).symm,h⟩
theorem bJ(r:List Nat)(h:ev Γ 40 e r []=some (d,[],[]))(hk:k d M)(g:chk none X.N X.env.scope 40 e r=some []:=by kernel_rfl!):GE X e Γ M k:=(dD vM 40 h g).2.2.2 trivial hk
theorem fL(r:List Nat)(h:ev Γ 40 e r []=some (d,[],c))(hc:allP c)(hk:k d M)(g:chk none X.N X.env.scope 40 e r=some []:=by kernel_rfl!):GE X e Γ M k:=(dD vM 40 h g).2.2.2 hc hk
theorem aPR(hl:X.mg ("len" : Str)=none)(r:List Nat)(h:ev Γ 40 e r []=some (d,[],c))(hc:allP c)(hk:k d M)(g:chk (some X.env.kindOf) X.N X.env.scope 40 e r=some []:=by kernel_rfl!):GE X e Γ M k:=(dD (aC0 hl) 40 h g).2.2.2 hc hk
theorem pG(r:List Nat)(h:evT Γ 40 e r []=some (t,[],[]))(hk:kb t M)(g:chk none X.N X.env.scope 40 e r=some []:=by kernel_rfl!):GT X e Γ M kb:=(tP vM 40 h g).2 trivial hk
theorem qF(hl:X.mg ("len" : Str)=none)(r:List Nat)(h:evT Γ 40 e r []=some (t,[],c))(hc:allP c)(hk:kb t M)(g:chk (some X.env.kindOf) X.N X.env.scope 40 e r=some []:=by kernel_rfl!):GT X e Γ M kb:=(tP (aC0 hl) 40 h g).2 hc hk
theorem aPV(r:List Nat)(h:evT Γ 40 e r []=some (t,[],c))(hc:allP c)(hk:kb t M)(g:chk none X.N X.env.scope 40 e r=some []:=by kernel_rfl!):GT X e Γ M kb:=(tP vM 40 h g).2 hc hk
theorem aR(r:List Nat)(h:evs (ev Γ 40) es r []=some (ds,[],[]))(hk:ka ds M)(g:chks (chk none X.N X.env.scope 40) es r=some []:=by kernel_rfl!):GA X es Γ M ka:=(m6 (dD vM 40) h g).2.2.2 trivial hk
theorem aI2(r:List Nat)(h:evs (ev Γ 40) es r []=some (ds,[],c))(hc:allP c)(hk:ka ds M)(g:chks (chk none X.N X.env.scope 40) es r=some []:=by kernel_rfl!):GA X es Γ M ka:=(m6 (dD vM 40) h g).2.2.2 hc hk
theorem i6(hl:X.mg ("len" : Str)=none)(r:List Nat)(h:evs (ev Γ 40) es r []=some (ds,[],c))(hc:allP c)(hk:ka ds M)(g:chks (chk (some X.env.kindOf) X.N X.env.scope 40) es r=some []:=by kernel_rfl!):GA X es Γ M ka:=(m6 (dD (aC0 hl) 40) h g).2.2.2 hc hk
end
noncomputable def evU:Gm->List Expr->List D->List Nat->Option Gm
 |Γ,[],ds,r=>match ds with
  |[]=>match r with
   |[]=>some Γ
   |_=>none
  |_=>none
 |Γ,_::ts,ds,r=>match ds with
  |[]=>none
  |d::ds=>match r with
   |[]=>none
   |i::r=>evU (Γ.set i (some d)) ts ds r
noncomputable def sC(N:List Str)(sc:Scope)(fn:Str->Bool):List Expr->List Nat->Bool
 |[],_=>true
 |t::ts,r=>match t with
  |.Name x _=>match r with
   |[]=>false
   |i::r=>(N[i]?==some x)&&(sc.names.lookup x==some .local||(sc.names.lookup x==some .cell&&fn x))&&sC N sc fn ts r
  |_=>false
section
theorem aCB{t:Expr}{ts:List Expr}{r:List Nat}(h:sC X.N X.env.scope X.fn (t::ts) r=true):∃x p i q,t = .Name x p/\r=i::q/\X.N[i]?=some x/\(X.env.scope.names.lookup x=some .local\/X.env.scope.names.lookup x=some .cell/\X.fn x=true)/\sC X.N X.env.scope X.fn ts q=true:=by
 cases t <;> first|exact yr (show false=true from h)|skip
 cases r with
 |nil=>exact yr (show false=true from h)
 |cons i q =>
  have h:((X.N[i]?==some _)&&(X.env.scope.names.lookup _==some .local||(X.env.scope.names.lookup _==some .cell&&X.fn _))&&sC X.N X.env.scope X.fn ts q)=true:=h
  rw[qn,qn,yh,qn] at h
  exact⟨_,_,i,q,rfl,rfl,eq_of_beq h.1.1,h.1.2.imp eq_of_beq λz=>⟨eq_of_beq z.1,z.2⟩,h.2⟩
theorem rZ:∀{ts:List Expr}{r:List Nat},sC X.N X.env.scope X.fn ts r=true->(assignEach ts X.env).length=ts.length/\(assignEach ts X.env).findIdx? (·.1)=none
 |[],_,_=>⟨rfl,rfl⟩
 |t::ts,r,h=>by
  obtain⟨x,p,i,q,rfl,rfl,_,_,h⟩:=aCB h
  obtain⟨a,b⟩:=rZ h
  refine⟨?_,?_⟩
  ·show (assignEach ts X.env).length+1=_
   rw[a];rfl
  ·show List.findIdx? (·.1) ((false,_)::assignEach ts X.env)=none
   rw[List.findIdx?_cons,b];rfl
theorem zA(hN:X.N.Nodup):∀{ts:List Expr}{ds:List D}{r:List Nat}{Γ Γ':Gm},evU Γ ts ds r=some Γ'->sC X.N X.env.scope X.fn ts r=true->kg Γ' M->ds.length=ts.length/\GGs X ts ds Γ M kg
 |[],ds,r,Γ,Γ',h,g,hk=>by
  cases ds with
  |cons=>exact nope h
  |nil =>
   cases r with
   |cons=>exact nope h
   |nil=>cases h;exact⟨rfl,aLB hk⟩
 |t::ts,ds,r,Γ,Γ',h,g,hk=>by
  obtain⟨x,p,i,q,rfl,rfl,g1,g2,g3⟩:=aCB g
  cases ds with
  |nil=>exact nope h
  |cons d ds =>
   obtain⟨a,b⟩:=zA hN (show evU _ ts ds q=_ from h) g3 hk
   exact⟨by rw[qp,qp,a],aG5 (g6 i hN b g1 (g2.imp id λz=>z.1) (g2.symm.imp (λz=>z.2) id))⟩
theorem aCG(r:List Nat){ts:List Expr}{Γ':Gm}(hN:X.N.Nodup)(h:evU Γ ts ds r=some Γ')(hk:kg Γ' M)(g:sC X.N X.env.scope X.fn ts r=true:=by kernel_rfl!)(hc:X.calm=true:=by rfl):GG X (.Tuple ts kk pos) (.tup ds) Γ M kg:=
 aMA (zA hN h g hk).1 (zA hN h g hk).2 hc (rZ g).1 (rZ g).2
end
end Z
namespace Z
open PySem L2
noncomputable def Fo(P:Program)(w:World)(K:qe)(mg:Str->Option Value)(base:Heap)(x:Str)(st:Stmt)(ps:List Str)(n:Nat)(c:Ct):Prop:=∃f fd,R.Df K mg x st ps f fd/\FnOk P w K mg base CX0 n f fd ps (spZ K c)
theorem aO{p:Pos}{st:Stmt}{ps:List Str}{c:Ct}(g:Fo X.prog X.w X.K X.mg X.base x st ps n c)(hr:Room j X.A)(h:GA X (e::es) Γ M λds M1=>c ds M1 k)(hn:n<=j:=by decide)(hg:Gl X x:=by rfl)(hdb:(x==("__debug__" : Str))=false:=by decide)(he:starEach (e::es) X.env=(false,eval e X.env)::starEach es X.env:=by rfl)(hpl:(bb pos (starEach es X.env)).any (·.1)=false:=by rfl):
  GE X (.Call (.Name x p) (e::es) [] pos) Γ M k:=by
 obtain⟨f,fd,D,G⟩:=g
 exact aLK G (hr.mono hn) D.m D.F.kp D.b h hg hdb he hpl
end Z
namespace EU
inductive Cn{α:Type}(E:α->α->Prop)(x:α):α->Prop
 |refl:Cn E x x
 |fwd {y z:α}:Cn E x y->E y z->Cn E x z
 |bwd {y z:α}:Cn E x y->E z y->Cn E x z
section
variable {α:Type}{E E':α->α->Prop}{x y z:α}
theorem Cn.trans(h:Cn E x y)(g:Cn E y z):Cn E x z:=by
 induction g with
 |refl=>exact h
 |fwd _ e ih=>exact ih.fwd e
 |bwd _ e ih=>exact ih.bwd e
theorem Cn.one(h:E x y):Cn E x y := .fwd .refl h
theorem Cn.symm(h:Cn E x y):Cn E y x:=by
 induction h with
 |refl=>exact .refl
 |fwd _ e ih=>exact (Cn.bwd .refl e).trans ih
 |bwd _ e ih=>exact (Cn.one e).trans ih
theorem Cn.mono(h:Cn E x y)(f:∀a b,E a b->Cn E' a b):Cn E' x y:=by
 induction h with
 |refl=>exact .refl
 |fwd _ e ih=>exact ih.trans (f _ _ e)
 |bwd _ e ih=>exact ih.trans (f _ _ e).symm
structure Reps(r:α->α->Prop)(vs l:List α):Prop where
 sub:∀x∈l,x∈vs
 cov:∀v∈vs,∃x∈l,r v x
 sep:l.Pairwise λx y=>¬r x y
theorem Reps.uni{vs l:List α}(h:Reps (Cn E) vs l)(hx:x∈l)(hy:y∈l)(e:Cn E x y):x=y:=by
 obtain⟨i,a,rfl⟩:=qj hx
 obtain⟨j,b,rfl⟩:=qj hy
 have s:=jb.mp h.sep
 rcases xq i j with q|q|q
 ·exact absurd e (s i j a b q)
 ·subst q;rfl
 ·exact absurd e.symm (s j i b a q)
theorem Reps.nd{vs l:List α}(h:Reps (Cn E) vs l):l.Nodup:=me (S:=(· ≠ ·)) (λ{a b} (q:¬Cn E a b) (z:a=b)=>q (by rw[z];exact .refl)) h.sep
theorem Reps.le{vs l l':List α}(h:Reps (Cn E) vs l)(h':Reps (Cn E) vs l'):l.length<=l'.length:=by
 have f:∀x,∃y,x∈l->y∈l'/\Cn E x y:=λx=>by
  by_cases q:x∈l
  ·obtain⟨y,a,b⟩:=h'.cov x (h.sub x q);exact⟨y,λ_=>⟨a,b⟩⟩
  ·exact⟨x,λz=>absurd z q⟩
 have g:∃g:α->α,∀x,x∈l->g x∈l'/\Cn E x (g x):=⟨λx=>Classical.choose (f x),λx=>Classical.choose_spec (f x)⟩
 obtain⟨g,c⟩:=g
 have nd:(l.map g).Nodup:=by
  refine v7.mpr (jx (λ{a b} d j q z => ?_) h.sep)
  exact q ((c a d).2.trans (z▸(c b j).2.symm))
 have:=nd.length_le_of_subset (l₂:=l') λy e=>by
  obtain⟨x,i,rfl⟩:=qq.mp e;exact (c x i).1
 rwa [zLm] at this
theorem Reps.len{vs l l':List α}(h:Reps (Cn E) vs l)(h':Reps (Cn E) vs l'):l.length=l'.length:=Nat.le_antisymm (h.le h') (h'.le h)
theorem Reps.ex(E:α->α->Prop):∀vs:List α,∃l,Reps (Cn E) vs l
 |[]=>⟨[],λ_ h=>h,λ_ h=>(nomatch h), .nil⟩
 |v::vs=>by
  obtain⟨l,h⟩:=Reps.ex E vs
  by_cases q:∃x∈l,Cn E v x
  ·refine⟨l,λx d => .tail _ (h.sub x d),λy c => ?_,h.sep⟩
   rcases qf.mp c with rfl|c
   ·exact q
   ·exact h.cov y c
  ·refine⟨v::l,λx d => ?_,λy c => ?_,ji.mpr ⟨λx d z=>q ⟨x,d,z⟩,h.sep⟩⟩
   ·rcases qf.mp d with rfl|d
    ·exact .head _
    ·exact .tail _ (h.sub x d)
   ·rcases qf.mp c with rfl|c
    ·exact⟨_, .head _, .refl⟩
    ·obtain⟨x,a,b⟩:=h.cov y c;exact⟨x, .tail _ a,b⟩
theorem Reps.congr{vs l:List α}(h:Reps (Cn E) vs l)(a:∀x y,E x y->Cn E' x y)(b:∀x y,E' x y->Cn E x y):Reps (Cn E') vs l:=
 ⟨h.sub,λv c=>let ⟨x,p,q⟩:=h.cov v c;⟨x,p,q.mono a⟩,h.sep.imp λq z=>q (z.mono b)⟩
noncomputable def Add(E:α->α->Prop)(x y:α)(a b:α):Prop:=E a b\/(a=x/\b=y)
theorem aMW{a b:α}(h:Cn (Add E x y) a b):Cn E a b\/(Cn E a x/\Cn E y b)\/(Cn E a y/\Cn E x b):=by
 induction h with
 |refl=>exact .inl .refl
 |fwd _ e ih =>
  rcases e with e|⟨rfl,rfl⟩
  ·exact ih.imp (·.fwd e) λq=>q.imp (λq=>⟨q.1,q.2.fwd e⟩) λq=>⟨q.1,q.2.fwd e⟩
  ·rcases ih with q|q|q
   ·exact .inr (.inl ⟨q, .refl⟩)
   ·exact .inr (.inl ⟨q.1, .refl⟩)
   ·exact .inl q.1
 |bwd _ e ih =>
  rcases e with e|⟨rfl,rfl⟩
  ·exact ih.imp (·.bwd e) λq=>q.imp (λq=>⟨q.1,q.2.bwd e⟩) λq=>⟨q.1,q.2.bwd e⟩
  ·rcases ih with q|q|q
   ·exact .inr (.inr ⟨q, .refl⟩)
   ·exact .inl q.1
   ·exact .inr (.inr ⟨q.1, .refl⟩)
theorem Reps.add_same{vs l:List α}(h:Reps (Cn E) vs l)(e:Cn E x y):Reps (Cn (Add E x y)) vs l:=
 h.congr (λ_ _ q => .one (.inl q)) λa b q=>by
  rcases q with q|⟨rfl,rfl⟩
  ·exact .one q
  ·exact e
theorem Reps.add_less[DecidableEq α]{vs l:List α}(h:Reps (Cn E) vs l)(hx:x∈vs)(hy:y∈vs)(e:¬Cn E x y):∃l',Reps (Cn (Add E x y)) vs l'/\l'.length+1=l.length:=by
 obtain⟨u,f,g⟩:=h.cov x hx
 obtain⟨v,n,ev⟩:=h.cov y hy
 have j:v≠u:=λz=>e (g.trans (z▸ev.symm))
 have c:∀{a},a∈l.erase u↔a≠u/\a∈l:=h.nd.mem_erase_iff
 refine⟨l.erase u,⟨λa d=>h.sub a (c.mp d).2,λa d => ?_,?_⟩,?_⟩
 ·obtain⟨b,i,k⟩:=h.cov a d
  by_cases z:b=u
  ·subst z
   refine⟨v,c.mpr ⟨j,n⟩,?_⟩
   have m:∀{a b},Cn E a b->Cn (Add E x y) a b:=λq=>q.mono λ_ _ q => .one (.inl q)
   exact (m (k.trans g.symm)).trans ((Cn.one (.inr ⟨rfl,rfl⟩)).trans (m ev))
  ·exact⟨b,c.mpr ⟨z,i⟩,k.mono λ_ _ q => .one (.inl q)⟩
 ·refine jx (λ{a b} d i q z => ?_) (h.sep.sublist List.erase_sublist)
  rcases aMW z with z|z|z
  ·exact q z
  ·exact (c.mp d).1 (h.uni (c.mp d).2 f (z.1.trans g))
  ·exact (c.mp i).1 (h.uni (c.mp i).2 f (z.2.symm.trans g))
 ·rw[nc f]
  have:=y5 f
  omega
end
section
variable {σ α β:Type}[DecidableEq α][DecidableEq β](A B:σ->α)(p q:σ->β)
noncomputable def Jn(A B:σ->α)(ss:List σ)(a b:α):Prop:=∃s∈ss,A s=a/\B s=b
theorem uL(A B:σ->α){e:σ}{ss:List σ}{vs l:List α}:Reps (Cn (Add (Jn A B ss) (A e) (B e))) vs l↔Reps (Cn (Jn A B (e::ss))) vs l:=by
 have c:∀x y,Add (Jn A B ss) (A e) (B e) x y->Cn (Jn A B (e::ss)) x y:=λx y h=>by
  rcases h with ⟨s,a,b⟩|⟨rfl,rfl⟩
  ·exact .one ⟨s, .tail _ a,b⟩
  ·exact .one ⟨e, .head _,rfl,rfl⟩
 have d:∀x y,Jn A B (e::ss) x y->Cn (Add (Jn A B ss) (A e) (B e)) x y:=λx y ⟨s,a,b⟩=>by
  rcases qf.mp a with rfl|a
  ·exact .one (.inr ⟨b.1.symm,b.2.symm⟩)
  ·exact .one (.inl ⟨s,a,b⟩)
 exact⟨λh=>h.congr c d,λh=>h.congr d c⟩
variable {A B p q}{all:List σ}{V:List α}{U:List β}
theorem chain(hA:∀s∈all,A s∈V/\B s∈V)(hU:∀s∈all,p s∈U/\q s∈U)(dis:∀(ss tt:List σ),∀e∈all,(∀s∈all,s∈ss\/s∈tt\/s=e)->¬Cn (Jn A B ss) (A e) (B e)->Cn (Jn p q tt) (p e) (q e))(t2:List σ):
  ∀(t1 ss:List σ) {l1 l2:List α}{m1 m2:List β},(∀s∈t1,s∈all)->(∀s∈all,s∈ss\/s∈t1\/s∈t2)->Reps (Cn (Jn A B ss)) V l1->Reps (Cn (Jn A B (t1.reverse++ss))) V l2->Reps (Cn (Jn p q (t1++t2))) U m1->Reps (Cn (Jn p q t2)) U m2->l1.length+m2.length<=l2.length+m1.length+t1.length
 |[],ss,l1,l2,m1,m2,_,_,h1,h2,g1,g2=>by
  have a:=h1.len (show Reps (Cn (Jn A B ss)) V l2 from h2)
  have b:=g2.len (show Reps (Cn (Jn p q t2)) U m1 from g1)
  show _<=_+_+0
  omega
 |e::t,ss,l1,l2,m1,m2,ht,ha,h1,h2,g1,g2=>by
  have he:=ht e (.head _)
  obtain⟨k,g3⟩:=Reps.ex (Jn p q (t++t2)) U
  have i:∀s∈all,s∈e::ss\/s∈t\/s∈t2:=λs g=>by
   rcases ha s g with z|z|z
   ·exact .inl (.tail _ z)
   ·rcases qf.mp z with rfl|z
    ·exact .inl (.head _)
    ·exact .inr (.inl z)
   ·exact .inr (.inr z)
  have h:∀s∈t,s∈all:=λs g=>ht s (.tail _ g)
  rw[List.reverse_cons,vm] at h2
  have f:=(uL p q).mpr (show Reps (Cn (Jn p q (e::(t++t2)))) U m1 from g1)
  by_cases c:Cn (Jn A B ss) (A e) (B e)
  ·have j:=(uL A B).mp (h1.add_same c)
   have l:=chain hA hU dis t2 t (e::ss) h i j h2 g3 g2
   have b:k.length<=m1.length+1:=by
    by_cases d:Cn (Jn p q (t++t2)) (p e) (q e)
    ·have:=(g3.add_same d).len f;omega
    ·obtain⟨m,g4,n⟩:=g3.add_less (hU e he).1 (hU e he).2 d
     have:=g4.len f;omega
   show _<=_+_+(t.length+1)
   omega
  ·obtain⟨l3,j,o⟩:=h1.add_less (hA e he).1 (hA e he).2 c
   have l:=chain hA hU dis t2 t (e::ss) h i ((uL A B).mp j) h2 g3 g2
   have d:Cn (Jn p q (t++t2)) (p e) (q e):=dis ss (t++t2) e he (λs g=>by
    rcases ha s g with z|z|z
    ·exact .inl z
    ·rcases qf.mp z with rfl|z
     ·exact .inr (.inr rfl)
     ·exact .inr (.inl (q6 _ z))
    ·exact .inr (.inl (qx _ z))) c
   have:=(g3.add_same d).len f
   show _<=_+_+(t.length+1)
   omega
end
end EU
namespace EU
noncomputable def sm:Nat->(Int->Int)->Int
 |0,_=>0
 |n+1,f=>sm n f+f (n:Int)
theorem bY{f g:Int->Int}:∀{n:Nat},(∀i:Nat,i<n->f i=g i)->sm n f=sm n g
 |0,_=>rfl
 |n+1,h=>by
  show sm n f+f n=sm n g+g n
  rw[bY λi hi=>h i (Nat.lt_succ_of_lt hi),h n (zh n)]
theorem eA{f:Int->Int}(h:∀i:Nat,i<n->f i=0):sm n f=0:=by
 rw[bY (g:=λ_=>0) h]
 clear h
 induction n with
 |zero=>rfl
 |succ n ih=>show sm n _+0=0;rw[ih];rfl
theorem sH(f g:Int->Int):∀n,sm n (λi=>f i+g i)=sm n f+sm n g
 |0=>rfl
 |n+1=>by
  show sm n _+(f n+g n)=(sm n f+f n)+(sm n g+g n)
  rw[sH f g n];omega
theorem aAK(c:Int)(f:Int->Int):∀n,sm n (λi=>c*f i)=c*sm n f
 |0=>(z7 c).symm
 |n+1=>by
  show sm n _+c*f n=c*(sm n f+f n)
  rw[aAK c f n,Int.mul_add]
theorem aD4{f:Int->Int}{k:Nat}(hk:k<n)(h:∀i:Nat,i<n->i≠k->f i=0):sm n f=f k:=by
 induction n with
 |zero=>omega
 |succ n ih =>
  show sm n f+f n=f k
  by_cases e:k=n
  ·subst e
   rw[eA λi a=>h i '!' '!',kq]
  ·rw[ih '!' λi a=>h i '!',h n '!' '!',gh]
theorem uU(f:Int->Int->Int)(n:Nat):∀m,sm m (λi=>sm n (f i))=sm n λj=>sm m λi=>f i j
 |0=>(eA λ_ _=>rfl).symm
 |m+1=>by
  show sm m _+sm n (f m)=sm n λj=>sm m (λi=>f i j)+f m j
  rw[uU f n m,sH]
theorem n6(f:Int->Int):∀n,sm (n+1) f=f 0+sm n λi=>f (i+1)
 |0=>by show (0:Int)+f ((0:Nat):Int)=f 0+0;rw[kq,gh];rfl
 |n+1=>by
  show sm (n+1) f+f ((n+1:Nat):Int)=f 0+(sm n _+f ((n:Int)+1))
  rw[n6 f n]
  have:((n+1:Nat):Int)=(n:Int)+1:=by omega
  rw[this];omega
theorem aAG(f g:Int->Int)(m:Nat)(h0:f (-1)=0)(h1:f m=0):sm (m+1) (λi=>(f i-f (i-1))*g i)=sm m λi=>f i*(g i-g (i+1)):=by
 have key:∀k:Nat,sm (k+1) (λi=>(f i-f (i-1))*g i)=sm k (λi=>f i*(g i-g (i+1)))+f k*g k:=by
  intro k
  induction k with
  |zero =>
   show (0:Int)+(f ((0:Nat):Int)-f (((0:Nat):Int)-1))*g ((0:Nat):Int)=0+_
   rw[show (((0:Nat):Int)-1) = -1 from rfl,h0,Int.sub_zero]
  |succ k ih =>
   show sm (k+1) _+(f ((k+1:Nat):Int)-f (((k+1:Nat):Int)-1))*g ((k+1:Nat):Int)=(sm k _+f k*(g k-g ((k:Int)+1)))+_
   rw[ih,show (((k+1:Nat):Int)-1)=(k:Int) by omega,show ((k+1:Nat):Int)=(k:Int)+1 by omega,Int.sub_mul,Int.mul_sub]
   omega
 rw[key m,h1,gf,gh]
noncomputable def s2(m n:Nat)(f:Int->Int->Int):Int:=sm m λi=>sm n (f i)
theorem lX{f g:Int->Int->Int}(h:∀i j:Nat,i<m->j<n->f i j=g i j):s2 m n f=s2 m n g:=bY λi hi=>bY λj hj=>h i j hi hj
theorem aBI{f:Int->Int->Int}(h:∀i j:Nat,i<m->j<n->f i j=0):s2 m n f=0:=eA λi hi=>eA λj hj=>h i j hi hj
theorem aN7(f g:Int->Int->Int)(m n:Nat):s2 m n (λi j=>f i j+g i j)=s2 m n f+s2 m n g:=by
 unfold s2
 rw[<- sH]
 exact bY λi _=>sH _ _ _
theorem aM5(c:Int)(f:Int->Int->Int)(m n:Nat):s2 m n (λi j=>c*f i j)=c*s2 m n f:=by
 unfold s2
 rw[<- aAK]
 exact bY λi _=>aAK _ _ _
theorem aEG{f:Int->Int->Int}{k l:Nat}(hk:k<m)(hl:l<n)(h:∀i j:Nat,i<m->j<n->(i≠k\/j≠l)->f i j=0):s2 m n f=f k l:=by
 unfold s2
 rw[aD4 hk λi b e=>eA λj a=>h i j b a (.inl e)]
 exact aD4 hl λj a e=>h k j hk a (.inr e)
theorem parity(m n:Nat)(X K:Int->Int->Int)(hX:∀a u:Int,¬(0<=a/\a<m/\0<=u/\u<n)->X a u=0):
  s2 (m+1) n (λi j=>(X i j-X (i-1) j)*(K i (j+1)-K i j))=s2 m (n+1) λi j=>(X i j-X i (j-1))*(K (i+1) j-K i j):=by
 have b:s2 (m+1) n (λi j=>(X i j-X (i-1) j)*(K i (j+1)-K i j))=s2 m n λi j=>X i j*(K i (j+1)-K i j-(K (i+1) (j+1)-K (i+1) j)):=by
  unfold s2
  refine (uU _ _ _).trans (Eq.trans (bY λj e => ?_) (uU _ _ _).symm)
  exact aAG (λi=>X i j) (λi=>K i ((j:Int)+1)-K i j) m (hX _ _ '!') (hX _ _ '!')
 have c:s2 m (n+1) (λi j=>(X i j-X i (j-1))*(K (i+1) j-K i j))=s2 m n λi j=>X i j*(K (i+1) j-K i j-(K (i+1) (j+1)-K i (j+1))):=by
  unfold s2
  refine bY λi d => ?_
  exact aAG (λj=>X i j) (λj=>K ((i:Int)+1) j-K i j) n (hX _ _ '!') (hX _ _ '!')
 rw[b,c]
 refine lX λi j _ _ => ?_
 congr 1
 omega
abbrev Pt:=Int×Int
section
variable (m n:Nat)
noncomputable def inF(a u:Int):Prop:=0<=a/\a<m/\0<=u/\u<n
instance (a u:Int):Decidable (inF m n a u):=by unfold inF;infer_instance
noncomputable def nf(a u:Int):Pt:=if inF m n a u then (a,u) else (-1, -1)
abbrev Sg:=Bool×Pt
noncomputable def cA(s:Sg):Pt:=match s.1 with
 |true=>nf m n (s.2.1-1) s.2.2
 |false=>nf m n s.2.1 (s.2.2-1)
noncomputable def cB(s:Sg):Pt:=nf m n s.2.1 s.2.2
noncomputable def eP(s:Sg):Pt:=s.2
noncomputable def eQ(s:Sg):Pt:=match s.1 with
 |true=>(s.2.1,s.2.2+1)
 |false=>(s.2.1+1,s.2.2)
noncomputable def grd(m n:Nat):List Pt:=(qr m).flatMap λ(i:Nat)=>(qr n).map λ(j:Nat)=>((i:Int),(j:Int))
theorem b7{m n:Nat}{c:Pt}:c∈grd m n↔inF m n c.1 c.2:=by
 unfold grd inF
 rw[yq]
 refine⟨λ⟨i,a,h⟩ => ?_,λh=>⟨c.1.toNat,q4.mpr '!',qq.mpr ⟨c.2.toNat,q4.mpr '!',?_⟩⟩⟩
 ·obtain⟨j,b,rfl⟩:=qq.mp h
  have:=q4.mp a;have:=q4.mp b
  dsimp only;omega
 ·apply Js <;> dsimp only <;> omega
theorem nB(m n:Nat):(grd m n).length=m*n:=by
 unfold grd
 rw[List.length_flatMap]
 simp only[zLm,xm]
 induction m with
 |zero=>simp
 |succ m ih=>rw[jq,qg,g9,ih,zz];simp
theorem sO(m n:Nat):(grd m n).Nodup:=by
 unfold grd
 refine ra.mpr ⟨λi _ => ?_,?_⟩
 ·exact v7.mpr (QM.imp λ{a b} h z=>h (by have:=congrArg Prod.snd z;dsimp only at this;omega))
 ·refine QM.imp λ{a b} h x d y c z => ?_
  obtain⟨i,_,rfl⟩:=qq.mp d
  obtain⟨j,_,rfl⟩:=qq.mp c
  exact h (by have:=congrArg Prod.fst z;dsimp only at this;omega)
noncomputable def segs:List Sg:=(grd (m+1) n).map (λc=>(true,c))++(grd m (n+1)).map λc=>(false,c)
theorem dA{s:Sg}:s∈segs m n↔(s.1=true/\inF (m+1) n s.2.1 s.2.2)\/(s.1=false/\inF m (n+1) s.2.1 s.2.2):=by
 obtain⟨b,c⟩:=s
 unfold segs
 rw[q5,qq,qq]
 refine⟨λh => ?_,λh => ?_⟩
 ·rcases h with ⟨a,h,e⟩|⟨a,h,e⟩
  ·cases e;exact .inl ⟨rfl,b7.mp h⟩
  ·cases e;exact .inr ⟨rfl,b7.mp h⟩
 ·rcases h with ⟨e,h⟩|⟨e,h⟩
  ·dsimp only at e;subst e;exact .inl ⟨c,b7.mpr h,rfl⟩
  ·dsimp only at e;subst e;exact .inr ⟨c,b7.mpr h,rfl⟩
theorem aHE:(segs m n).length=(m+1)*n+m*(n+1):=by
 unfold segs
 rw[qh,zLm,zLm,nB,nB]
theorem dual(ss tt:List Sg)(e:Sg)(he:e∈segs m n)(ha:∀s∈segs m n,s∈ss\/s∈tt\/s=e)(h:¬Cn (Jn (cA m n) (cB m n) ss) (cA m n e) (cB m n e)):Cn (Jn eP eQ tt) (eP e) (eQ e):=by
 apply qv
 intro g
 have p:∃x:Pt->Int,∀c,(Cn (Jn (cA m n) (cB m n) ss) (cA m n e) c->x c=1)/\(¬Cn (Jn (cA m n) (cB m n) ss) (cA m n e) c->x c=0):=by
  classical
  exact⟨λc=>if Cn (Jn (cA m n) (cB m n) ss) (cA m n e) c then 1 else 0,λc=>⟨λh=>if_pos h,λh=>if_neg h⟩⟩
 have o:∃x:Pt->Int,∀c,(Cn (Jn eP eQ tt) (eP e) c->x c=1)/\(¬Cn (Jn eP eQ tt) (eP e) c->x c=0):=by
  classical
  exact⟨λc=>if Cn (Jn eP eQ tt) (eP e) c then 1 else 0,λc=>⟨λh=>if_pos h,λh=>if_neg h⟩⟩
 obtain⟨x,p⟩:=p
 obtain⟨k,o⟩:=o
 have E:∀s∈ss,x (cA m n s)=x (cB m n s):=λs v=>by
  by_cases q:Cn (Jn (cA m n) (cB m n) ss) (cA m n e) (cA m n s)
  ·rw[(p _).1 q,(p _).1 (q.fwd ⟨s,v,rfl,rfl⟩)]
  ·rw[(p _).2 q,(p _).2 λz=>q (z.bwd ⟨s,v,rfl,rfl⟩)]
 have D:∀s∈tt,k (eP s)=k (eQ s):=λs v=>by
  by_cases q:Cn (Jn eP eQ tt) (eP e) (eP s)
  ·rw[(o _).1 q,(o _).1 (q.fwd ⟨s,v,rfl,rfl⟩)]
  ·rw[(o _).2 q,(o _).2 λz=>q (z.bwd ⟨s,v,rfl,rfl⟩)]
 have z:∀s∈segs m n,s≠e->(x (cB m n s)-x (cA m n s))*(k (eQ s)-k (eP s))=0:=λs v ne=>by
  rcases ha s v with q|q|q
  ·rw[E s q,si,gf]
  ·rw[D s q,si,z7]
  ·exact absurd q ne
 have t:(x (cB m n e)-x (cA m n e))*(k (eQ e)-k (eP e))=1:=by
  rw[(p _).1 .refl,(p _).2 h,(o _).1 .refl,(o _).2 g];rfl
 have par:=parity m n (λa u=>x (nf m n a u)-x (-1, -1)) (λi j=>k (i,j)) λa u h=>by
  have:nf m n a u=(-1, -1):=if_neg h
  rw[this,si]
 have d:s2 (m+1) n (λi j=>(x (nf m n i j)-x (nf m n (i-1) j))*(k (i,j+1)-k (i,j)))=s2 m (n+1) λi j=>(x (nf m n i j)-x (nf m n i (j-1)))*(k (i+1,j)-k (i,j)):=by
  have s:∀a b c:Int,(a-c)-(b-c)=a-b:=λa b c=>by omega
  simpa only[s] using par
 obtain⟨b,i,j⟩:=e
 rcases (dA m n).mp he with ⟨w,f⟩|⟨w,f⟩
 ·dsimp only at w f
  subst w
  have l:s2 (m+1) n (λi j=>(x (nf m n i j)-x (nf m n (i-1) j))*(k (i,j+1)-k (i,j)))=1:=by
   rw[aEG (k:=i.toNat) (l:=j.toNat) (by unfold inF at f;omega) (by unfold inF at f;omega) λa c B C F => ?_]
   ·have A:((i.toNat:Nat):Int)=i:=by unfold inF at f;omega
    have y:((j.toNat:Nat):Int)=j:=by unfold inF at f;omega
    rw[A,y];exact t
   ·refine z (true,(a:Int),(c:Int)) ((dA m n).mpr (.inl ⟨rfl,?_⟩)) λq => ?_
    ·unfold inF;dsimp only;omega
    ·cases q;omega
  have r:s2 m (n+1) (λi j=>(x (nf m n i j)-x (nf m n i (j-1)))*(k (i+1,j)-k (i,j)))=0:=
   aBI λa c B C=>z (false,(a:Int),(c:Int)) ((dA m n).mpr (.inr ⟨rfl,by unfold inF;dsimp only;omega⟩)) λq=>by cases q
  rw[l,r] at d
  exact absurd d (by decide)
 ·dsimp only at w f
  subst w
  have l:s2 m (n+1) (λi j=>(x (nf m n i j)-x (nf m n i (j-1)))*(k (i+1,j)-k (i,j)))=1:=by
   rw[aEG (k:=i.toNat) (l:=j.toNat) (by unfold inF at f;omega) (by unfold inF at f;omega) λa c B C F => ?_]
   ·have A:((i.toNat:Nat):Int)=i:=by unfold inF at f;omega
    have y:((j.toNat:Nat):Int)=j:=by unfold inF at f;omega
    rw[A,y];exact t
   ·refine z (false,(a:Int),(c:Int)) ((dA m n).mpr (.inr ⟨rfl,?_⟩)) λq => ?_
    ·unfold inF;dsimp only;omega
    ·cases q;omega
  have r:s2 (m+1) n (λi j=>(x (nf m n i j)-x (nf m n (i-1) j))*(k (i,j+1)-k (i,j)))=0:=
   aBI λa c B C=>z (true,(a:Int),(c:Int)) ((dA m n).mpr (.inl ⟨rfl,by unfold inF;dsimp only;omega⟩)) λq=>by cases q
  rw[l,r] at d
  exact absurd d (by decide)
end
end EU
namespace EU
section
variable {σ α:Type}{A B:σ->α}
theorem aFF{ss tt:List σ}{vs l:List α}(h:Reps (Cn (Jn A B ss)) vs l)(a:∀s,s∈ss↔s∈tt):Reps (Cn (Jn A B tt)) vs l:=
 h.congr (λ_ _ ⟨s,x,y⟩ => .one ⟨s,(a s).mp x,y⟩) λ_ _ ⟨s,x,y⟩ => .one ⟨s,(a s).mpr x,y⟩
theorem yS{vs:List α}(nd:vs.Nodup):Reps (Cn (Jn A B [])) vs vs:=by
 have e:∀{x y},Cn (Jn A B []) x y->x=y:=λh=>by
  induction h with
  |refl=>rfl
  |fwd _ q _=>obtain⟨s,h,_⟩:=q;exact nomatch h
  |bwd _ q _=>obtain⟨s,h,_⟩:=q;exact nomatch h
 exact⟨λ_ h=>h,λv a=>⟨v,a, .refl⟩,nd.imp λq z=>q (e z)⟩
theorem aAO{vs:List α}{E:α->α->Prop}{z:α}(hz:z∈vs)(h:∀v∈vs,Cn E v z):Reps (Cn E) vs [z]:=
 ⟨λx b=>by rw[qk.mp b];exact hz,λv a=>⟨z, .head _,h v a⟩,y2 _ _⟩
end
section
variable (m n:Nat)
noncomputable def vsF:List Pt:=(-1, -1)::grd m n
theorem aFY(a u:Int):nf m n a u∈vsF m n:=by
 unfold nf
 split
 ·exact .tail _ (b7.mpr ‹_›)
 ·exact .head _
theorem aPS:(vsF m n).Nodup:=jl.mpr ⟨λh=>by have:=b7.mp h;unfold inF at this;dsimp only at this;omega,sO m n⟩
theorem aD2{ss:List Sg}(h:∀s∈segs m n,s∈ss):∀v∈vsF m n,Cn (Jn (cA m n) (cB m n) ss) v (-1, -1):=by
 have key:∀(k:Nat) (u:Int),k<=m->0<=u->u<n->Cn (Jn (cA m n) (cB m n) ss) (nf m n ((k:Int)-1) u) (-1, -1):=by
  intro k u
  induction k with
  |zero=>intro _ _ _;rw[show nf m n (((0:Nat):Int)-1) u=(-1, -1) from if_neg (by unfold inF;omega)];exact .refl
  |succ k ih =>
   intro d b c
   refine Cn.trans ?_ (ih '!' b c)
   refine Cn.bwd .refl ⟨(true,(k:Int),u),h _ ((dA m n).mpr (.inl ⟨rfl,by unfold inF;dsimp only;omega⟩)),rfl,?_⟩
   show nf m n (k:Int) u=_
   rw[show ((k+1:Nat):Int)-1=(k:Int) by omega]
 intro v a
 rcases qf.mp a with rfl|a
 ·exact .refl
 ·have q:=b7.mp a
  have:=key (v.1.toNat+1) v.2 (by unfold inF at q;omega) (by unfold inF at q;omega) (by unfold inF at q;omega)
  rw[show ((v.1.toNat+1:Nat):Int)-1=v.1 by unfold inF at q;omega,show nf m n v.1 v.2=v from if_pos q] at this
  exact this
theorem aH8{ss:List Sg}(h:∀s∈segs m n,s∈ss):∀v∈grd (m+1) (n+1),Cn (Jn eP eQ ss) v (0,0):=by
 have up:∀k:Nat,k<=n->Cn (Jn eP eQ ss) (0,(k:Int)) (0,0):=by
  intro k
  induction k with
  |zero=>intro _;exact .refl
  |succ k ih =>
   intro b
   refine Cn.trans (Cn.bwd .refl ⟨(true,0,(k:Int)),h _ ((dA m n).mpr (.inl ⟨rfl,by unfold inF;dsimp only;omega⟩)),rfl,?_⟩) (ih '!')
   show ((0:Int),(k:Int)+1)=_
   rw[show ((k+1:Nat):Int)=(k:Int)+1 by omega]
 have key:∀(k:Nat) (u:Nat),k<=m->u<=n->Cn (Jn eP eQ ss) ((k:Int),(u:Int)) (0,0):=by
  intro k u
  induction k with
  |zero=>intro _ a;exact up u a
  |succ k ih =>
   intro b a
   refine Cn.trans (Cn.bwd .refl ⟨(false,(k:Int),(u:Int)),h _ ((dA m n).mpr (.inr ⟨rfl,by unfold inF;dsimp only;omega⟩)),rfl,?_⟩) (ih '!' a)
   show ((k:Int)+1,(u:Int))=_
   rw[show ((k+1:Nat):Int)=(k:Int)+1 by omega]
 intro v c
 have q:=b7.mp c
 unfold inF at q
 have:=key v.1.toNat v.2.toNat '!' '!'
 rwa [show ((v.1.toNat:Nat):Int)=v.1 by omega,show ((v.2.toNat:Nat):Int)=v.2 by omega] at this
theorem aBW{s:Sg}(h:s∈segs m n):eP s∈grd (m+1) (n+1)/\eQ s∈grd (m+1) (n+1):=by
 obtain⟨b,i,j⟩:=s
 rcases (dA m n).mp h with ⟨e,q⟩|⟨e,q⟩ <;> dsimp only at e q <;> subst e <;> unfold inF at q <;>
 exact⟨b7.mpr (by unfold inF eP;dsimp only;omega),b7.mpr (by unfold inF eQ;dsimp only;omega)⟩
theorem xU{s:Sg}:cA m n s∈vsF m n/\cB m n s∈vsF m n:=by
 obtain⟨b,i,j⟩:=s
 cases b <;> exact⟨aFY m n _ _,aFY m n _ _⟩
theorem rel{P rest:List Sg}(h1:∀s,s∈P\/s∈rest↔s∈segs m n)(hl:P.length+rest.length=(segs m n).length){lp ld:List Pt}(rp:Reps (Cn (Jn (cA m n) (cB m n) P)) (vsF m n) lp)(rd:Reps (Cn (Jn eP eQ rest)) (grd (m+1) (n+1)) ld):lp.length+P.length=ld.length+m*n:=by
 have a1:=chain (λs _=>xU m n) (λs a=>aBW m n a) (λss tt e he b=>dual m n ss tt e he b) rest P [] (λs a=>(h1 s).mp (.inl a)) (λs a => .inr ((h1 s).mpr a)) (yS (aPS m n))
  (aFF (tt:=P.reverse++[]) rp λs=>by simp) (aAO (b7.mpr (by unfold inF;dsimp only;omega)) (aH8 m n λs a=>q5.mpr ((h1 s).mpr a))) rd
 have a2:=chain (λs _=>xU m n) (λs a=>aBW m n a) (λss tt e he b=>dual m n ss tt e he b) [] rest P (λs a=>(h1 s).mp (.inr a)) (λs a=>by rcases (h1 s).mpr a with q|q;exact .inl q;exact .inr (.inl q)) rp
  (aAO (.head _) (aD2 m n λs a=>by rw[q5,List.mem_reverse];exact ((h1 s).mpr a).symm)) (aFF (tt:=rest++[]) rd λs=>by simp) (yS (sO _ _))
 have c:(vsF m n).length=m*n+1:=by unfold vsF;rw[qp,nB]
 rw[c,jm] at a1
 rw[nB,jm] at a2
 rw[aHE] at hl
 have d:(m+1)*(n+1)=m*n+m+n+1:=by rw[zz,sd];omega
 have f:(m+1)*n=m*n+n:=zz _ _
 have g:m*(n+1)=m*n+m:=sd _ _
 omega
end
section
variable {p:Int->Int->Bool}
noncomputable def Mgn(m n:Nat)(p:Int->Int->Bool):Prop:=∀a u,p a u=true->1<=a/\a+1<m/\1<=u/\u+1<n
noncomputable def inS(p:Int->Int->Bool)(s:Sg):Bool:=match s.1 with
 |true=>p (s.2.1-1) s.2.2&&p s.2.1 s.2.2
 |false=>p s.2.1 (s.2.2-1)&&p s.2.1 s.2.2
noncomputable def E4(p:Int->Int->Bool)(a b:Pt):Prop:=p a.1 a.2=true/\p b.1 b.2=true/\((b.1=a.1+1/\b.2=a.2)\/(b.1=a.1/\b.2=a.2+1))
noncomputable def E8(m n:Nat)(p:Int->Int->Bool)(a b:Pt):Prop:=(inF m n a.1 a.2/\p a.1 a.2=false)/\(inF m n b.1 b.2/\p b.1 b.2=false) /\ -1<=b.1-a.1/\b.1-a.1<=1 /\ -1<=b.2-a.2/\b.2-a.2<=1
noncomputable def all4(p:Int->Int->Bool)(c:Pt):Bool:=p (c.1-1) (c.2-1)&&p c.1 (c.2-1)&&(p (c.1-1) c.2&&p c.1 c.2)
noncomputable def inC(p:Int->Int->Bool)(c:Pt):Bool:=p c.1 c.2
theorem mE(M:Mgn m n p){a u:Int}(h:p a u=true):nf m n a u=(a,u):=if_pos (by have:=M a u h;unfold inF;omega)
theorem vN{α:Type}(f:α->Bool):∀l:List α,(l.filter f).length+(l.filter λx => !f x).length=l.length
 |[]=>rfl
 |x::l=>by
  have a:=vN f l
  rw[gj,gj,qp]
  cases f x <;> simp <;> omega
theorem primal(M:Mgn m n p){lin:List Pt}(h:Reps (Cn (E4 p)) ((grd m n).filter (inC p)) lin):Reps (Cn (Jn (cA m n) (cB m n) ((segs m n).filter (inS p)))) (vsF m n) (lin++((grd m n).filter (λc => !inC p c)++[(-1, -1)])):=by
 have step:∀{x y:Pt},Jn (cA m n) (cB m n) ((segs m n).filter (inS p)) x y->E4 p x y:=λ{x y} ⟨s,E,ex,D⟩=>by
  obtain⟨_,d⟩:=qo.mp E
  obtain⟨b,i,j⟩:=s
  cases b with
  |true =>
   have d:=qn _ _▸d
   have A:x=(i-1,j):=ex.symm.trans (mE M d.1)
   have w:y=(i,j):=D.symm.trans (mE M d.2)
   subst A w
   exact⟨d.1,d.2, .inl ⟨by dsimp only;omega,rfl⟩⟩
  |false =>
   have d:=qn _ _▸d
   have A:x=(i,j-1):=ex.symm.trans (mE M d.1)
   have w:y=(i,j):=D.symm.trans (mE M d.2)
   subst A w
   exact⟨d.1,d.2, .inr ⟨rfl,by dsimp only;omega⟩⟩
 have back:∀{x y:Pt},E4 p x y->Cn (Jn (cA m n) (cB m n) ((segs m n).filter (inS p))) x y:=λ{x y} ⟨k,d,C⟩=>by
  have G:=M _ _ k
  have F:=M _ _ d
  obtain⟨a,u⟩:=x
  obtain⟨b,v⟩:=y
  dsimp only at k d C G F
  rcases C with ⟨rfl,rfl⟩|⟨rfl,rfl⟩
  ·have e:a+1-1=a:=by omega
   refine .one ⟨(true,a+1,v),qo.mpr ⟨(dA m n).mpr (.inl ⟨rfl,by unfold inF;dsimp only;omega⟩),?_⟩,?_,mE M d⟩
   ·show (p (a+1-1) v&&p (a+1) v)=true
    rw[e,k,d];rfl
   ·show nf m n (a+1-1) v=_
    rw[e];exact mE M k
  ·have e:u+1-1=u:=by omega
   refine .one ⟨(false,b,u+1),qo.mpr ⟨(dA m n).mpr (.inr ⟨rfl,by unfold inF;dsimp only;omega⟩),?_⟩,?_,mE M d⟩
   ·show (p b (u+1-1)&&p b (u+1))=true
    rw[e,k,d];rfl
   ·show nf m n b (u+1-1)=_
    rw[e];exact mE M k
 have t:∀{x y:Pt},Cn (Jn (cA m n) (cB m n) ((segs m n).filter (inS p))) x y->Cn (E4 p) x y:=λq=>q.mono λ_ _ z => .one (step z)
 have alone:∀{x y:Pt},Cn (E4 p) x y->p x.1 x.2=false->x=y:=λ{x y} q f=>by
  induction q with
  |refl=>rfl
  |fwd _ e ih=>subst ih;exact absurd e.1 (by rw[f];decide)
  |bwd _ e ih=>subst ih;exact absurd e.2.1 (by rw[f];decide)
 have beyond:p (-1) (-1)=false:=by
  cases e:p (-1) (-1)
  ·rfl
  ·have:=M _ _ e;omega
 refine⟨λx f => ?_,λv r => ?_,?_⟩
 ·rcases q5.mp f with f|f
  ·exact .tail _ (qo.mp (h.sub x f)).1
  ·rcases q5.mp f with f|f
   ·exact .tail _ (qo.mp f).1
   ·rw[qk.mp f];exact .head _
 ·rcases qf.mp r with rfl|r
  ·exact⟨_,qx _ (qx _ (.head _)), .refl⟩
  ·cases e:inC p v with
   |true =>
    obtain⟨x,f,q⟩:=h.cov v (qo.mpr ⟨r,e⟩)
    exact⟨x,q6 _ f,q.mono λ_ _ z=>back z⟩
   |false=>exact⟨v,qx _ (q6 _ (qo.mpr ⟨r,by rw[e];rfl⟩)), .refl⟩
 ·refine wm.mpr ⟨h.sep.imp λq z=>q (t z),wm.mpr ⟨?_,y2 _ _,?_⟩,?_⟩
  ·refine jx (λ{a b} o g q z => ?_) ((sO m n).sublist dz)
   have:=(qo.mp o).2
   exact q (alone (t z) (by unfold inC at this;simpa using this))
  ·intro a o b g z
   rw[qk.mp g] at z
   have:=alone (t z.symm) beyond
   subst this
   have:=b7.mp (qo.mp o).1
   unfold inF at this;dsimp only at this;omega
  ·intro a o b g z
   have B:=(qo.mp (h.sub a o)).2
   have l:p b.1 b.2=false:=by
    rcases q5.mp g with g|g
    ·have:=(qo.mp g).2;unfold inC at this;simpa using this
    ·rw[qk.mp g];exact beyond
   have:=alone (t z.symm) l
   subst this
   unfold inC at B
   rw[l] at B
   exact yr B
noncomputable def Ar(v c:Pt):Prop:=(c.1=v.1-1\/c.1=v.1)/\(c.2=v.2-1\/c.2=v.2)
noncomputable def Ot(m n:Nat)(p:Int->Int->Bool)(c:Pt):Prop:=inF m n c.1 c.2/\p c.1 c.2=false
abbrev Rs(m n:Nat)(p:Int->Int->Bool):=Cn (Jn eP eQ ((segs m n).filter λs => !inS p s))
theorem ot8{v x y:Pt}(hx:Ot m n p x)(hy:Ot m n p y)(ax:Ar v x)(ay:Ar v y):E8 m n p x y:=by
 unfold Ar at ax ay
 exact⟨hx,hy,by omega,by omega,by omega,by omega⟩
theorem aJG{i j:Int}(h:inF (m+1) n i j)(q:(p (i-1) j&&p i j)=false):Rs m n p (i,j) (i,j+1):=
 .one ⟨(true,i,j),qo.mpr ⟨(dA m n).mpr (.inl ⟨rfl,h⟩),by show (!(p (i-1) j&&p i j))=true;rw[q];rfl⟩,rfl,rfl⟩
theorem aOR{i j:Int}(h:inF m (n+1) i j)(q:(p i (j-1)&&p i j)=false):Rs m n p (i,j) (i+1,j):=
 .one ⟨(false,i,j),qo.mpr ⟨(dA m n).mpr (.inr ⟨rfl,h⟩),by show (!(p i (j-1)&&p i j))=true;rw[q];rfl⟩,rfl,rfl⟩
theorem vK{v c:Pt}(hc:Ot m n p c)(a:Ar v c):Rs m n p v c:=by
 obtain⟨i,j⟩:=v
 obtain⟨x,y⟩:=c
 obtain⟨e,b⟩:=hc
 unfold Ar at a
 dsimp only at e b a
 unfold inF at e
 have f:Rs m n p (x,y) (x,y+1):=aJG (by unfold inF;omega) (by rw[b,xi])
 have d:Rs m n p (x,y) (x+1,y):=aOR (by unfold inF;omega) (by rw[b,xi])
 have g:Rs m n p (x+1,y) (x+1,y+1):=aJG (by unfold inF;omega) (by rw[show x+1-1=x by omega,b,ml])
 rcases a with ⟨rfl|rfl,rfl|rfl⟩
 ·have:=(d.trans g).symm
  rwa [show i-1+1=i by omega,show j-1+1=j by omega] at this
 ·have:=d.symm
  rwa [show i-1+1=i by omega] at this
 ·have:=f.symm
  rwa [show j-1+1=j by omega] at this
 ·exact .refl
theorem nV(M:Mgn m n p){a u:Int}(h:¬(1<=a/\a+1<m/\1<=u/\u+1<n)):p a u=false:=by
 cases e:p a u
 ·rfl
 ·exact absurd (M a u e) h
theorem aOA(M:Mgn m n p)(hm:2<=m)(hn:2<=n){v:Pt}(hv:inF (m+1) (n+1) v.1 v.2)(h:all4 p v=false):∃c,Ot m n p c/\Ar v c:=by
 obtain⟨i,j⟩:=v
 unfold inF at hv
 dsimp only at hv
 by_cases b:1<=i/\i<m/\1<=j/\j<n
 ·have q:p (i-1) (j-1)=false\/p i (j-1)=false\/p (i-1) j=false\/p i j=false:=by
   unfold all4 at h
   dsimp only at h
   revert h
   cases p (i-1) (j-1) <;> cases p i (j-1) <;> cases p (i-1) j <;> cases p i j <;> simp
  rcases q with q|q|q|q
  ·exact⟨(i-1,j-1),⟨by unfold inF;dsimp only;omega,q⟩, .inl rfl, .inl rfl⟩
  ·exact⟨(i,j-1),⟨by unfold inF;dsimp only;omega,q⟩, .inr rfl, .inl rfl⟩
  ·exact⟨(i-1,j),⟨by unfold inF;dsimp only;omega,q⟩, .inl rfl, .inr rfl⟩
  ·exact⟨(i,j),⟨by unfold inF;dsimp only;omega,q⟩, .inr rfl, .inr rfl⟩
 ·have f:∃a,(a=i-1\/a=i)/\0<=a/\a<m:=by
   by_cases z:i=m
   ·exact⟨i-1, .inl rfl,by omega,by omega⟩
   ·exact⟨i, .inr rfl,by omega,by omega⟩
  have k:∃a,(a=j-1\/a=j)/\0<=a/\a<n:=by
   by_cases z:j=n
   ·exact⟨j-1, .inl rfl,by omega,by omega⟩
   ·exact⟨j, .inr rfl,by omega,by omega⟩
  obtain⟨a,a1,a2,g⟩:=f
  obtain⟨u,e,l,d⟩:=k
  exact⟨(a,u),⟨⟨a2,g,l,d⟩,nV M '!'⟩,a1,e⟩
theorem aJ8(M:Mgn m n p)(hm:2<=m)(hn:2<=n){s:Sg}(hs:s∈segs m n)(h:inS p s=false):∃c,Ot m n p c/\Ar (eP s) c/\Ar (eQ s) c:=by
 obtain⟨b,i,j⟩:=s
 rcases (dA m n).mp hs with ⟨e,q⟩|⟨e,q⟩ <;> dsimp only at e q <;> subst e <;> unfold inF at q
 ·have f:(inF m n (i-1) j/\p (i-1) j=false)\/(inF m n i j/\p i j=false):=by
   have h:(p (i-1) j&&p i j)=false:=h
   by_cases a:i=0
   ·exact .inr ⟨by unfold inF;omega,nV M '!'⟩
   ·by_cases d:i=m
    ·exact .inl ⟨by unfold inF;omega,nV M '!'⟩
    ·rcases ro.mp h with z|z
     ·exact .inl ⟨by unfold inF;omega,z⟩
     ·exact .inr ⟨by unfold inF;omega,z⟩
  rcases f with f|f
  ·exact⟨(i-1,j),f,⟨.inl rfl, .inr rfl⟩,⟨.inl rfl, .inl (by show j=j+1-1;omega)⟩⟩
  ·exact⟨(i,j),f,⟨.inr rfl, .inr rfl⟩,⟨.inr rfl, .inl (by show j=j+1-1;omega)⟩⟩
 ·have f:(inF m n i (j-1)/\p i (j-1)=false)\/(inF m n i j/\p i j=false):=by
   have h:(p i (j-1)&&p i j)=false:=h
   by_cases a:j=0
   ·exact .inr ⟨by unfold inF;omega,nV M '!'⟩
   ·by_cases d:j=n
    ·exact .inl ⟨by unfold inF;omega,nV M '!'⟩
    ·rcases ro.mp h with z|z
     ·exact .inl ⟨by unfold inF;omega,z⟩
     ·exact .inr ⟨by unfold inF;omega,z⟩
  rcases f with f|f
  ·exact⟨(i,j-1),f,⟨.inr rfl, .inl rfl⟩,⟨.inl (by show i=i+1-1;omega), .inl rfl⟩⟩
  ·exact⟨(i,j),f,⟨.inr rfl, .inr rfl⟩,⟨.inl (by show i=i+1-1;omega), .inr rfl⟩⟩
theorem aK6(M:Mgn m n p)(hm:2<=m)(hn:2<=n){v w x:Pt}(h:Rs m n p v w)(hx:Ot m n p x)(ax:Ar v x):∀y,Ot m n p y->Ar w y->Cn (E8 m n p) x y:=by
 have go:∀{a b:Pt}{s:Sg},s∈(segs m n).filter (λs => !inS p s)->((eP s=a/\eQ s=b)\/(eP s=b/\eQ s=a))->(∀y,Ot m n p y->Ar a y->Cn (E8 m n p) x y)->∀y,Ot m n p y->Ar b y->Cn (E8 m n p) x y:=λ{a b s} f e d y i j=>by
  obtain⟨r,t⟩:=qo.mp f
  obtain⟨c,g,q,o⟩:=aJ8 M hm hn r (by simpa using t)
  rcases e with ⟨rfl,rfl⟩|⟨rfl,rfl⟩
  ·exact (d c g q).fwd (ot8 g i o j)
  ·exact (d c g o).fwd (ot8 g i q j)
 induction h with
 |refl=>exact λy i j => .one (ot8 hx i ax j)
 |fwd _ e d=>obtain⟨s,f,l,k⟩:=e;exact go f (.inl ⟨l,k⟩) d
 |bwd _ e d=>obtain⟨s,f,l,k⟩:=e;exact go f (.inr ⟨l,k⟩) d
theorem aB3{v:Pt}{s:Sg}(h:all4 p v=true)(e:eP s=v\/eQ s=v):inS p s=true:=by
 obtain⟨b,i,j⟩:=s
 unfold all4 at h
 simp only[qn] at h
 cases b
 ·show (p i (j-1)&&p i j)=true
  rcases e with rfl|rfl
  ·have h:(_/\p i (j-1)=true)/\_/\p i j=true:=h
   rw[h.1.2,h.2.2];rfl
  ·have h:(p (i+1-1) (j-1)=true/\_)/\p (i+1-1) j=true/\_:=h
   rw[show i+1-1=i by omega] at h
   rw[h.1.1,h.2.1];rfl
 ·show (p (i-1) j&&p i j)=true
  rcases e with rfl|rfl
  ·have h:_/\p (i-1) j=true/\p i j=true:=h
   rw[h.2.1,h.2.2];rfl
  ·have h:(p (i-1) (j+1-1)=true/\p i (j+1-1)=true)/\_:=h
   rw[show j+1-1=j by omega] at h
   rw[h.1.1,h.1.2];rfl
theorem sV{v w:Pt}(h:all4 p v=true)(q:Rs m n p v w):v=w:=by
 induction q with
 |refl=>rfl
 |fwd _ e ih =>
  subst ih
  obtain⟨s,a,b,c⟩:=e
  have:=(qo.mp a).2
  rw[aB3 h (.inl b)] at this
  exact yr this
 |bwd _ e ih =>
  subst ih
  obtain⟨s,a,b,c⟩:=e
  have:=(qo.mp a).2
  rw[aB3 h (.inr c)] at this
  exact yr this
theorem aPZ{x y:Pt}(h:E8 m n p x y):Rs m n p x y:=by
 obtain⟨d,b,f,i,g,e⟩:=h
 have a:Ar (max x.1 y.1,max x.2 y.2) x:=by unfold Ar;dsimp only;omega
 have c:Ar (max x.1 y.1,max x.2 y.2) y:=by unfold Ar;dsimp only;omega
 exact (vK d a).symm.trans (vK b c)
theorem aPN(M:Mgn m n p)(hm:2<=m)(hn:2<=n){lo:List Pt}(h:Reps (Cn (E8 m n p)) ((grd m n).filter (λc => !inC p c)) lo):Reps (Rs m n p) (grd (m+1) (n+1)) ((grd (m+1) (n+1)).filter (all4 p)++lo):=by
 have out:∀{c},c∈(grd m n).filter (λc => !inC p c)↔Ot m n p c:=λ{c}=>by
  rw[qo,b7]
  unfold Ot inC
  simp
 have self:∀c,Ar c c:=λc=>⟨.inr rfl, .inr rfl⟩
 refine⟨λx d => ?_,λv k => ?_,?_⟩
 ·rcases q5.mp d with d|d
  ·exact (qo.mp d).1
  ·have:=(out.mp (h.sub x d)).1
   exact b7.mpr (by unfold inF at *;omega)
 ·cases e:all4 p v with
  |true=>exact⟨v,q6 _ (qo.mpr ⟨k,e⟩), .refl⟩
  |false =>
   obtain⟨c,j,ac⟩:=aOA M hm hn (b7.mp k) e
   obtain⟨x,d,q⟩:=h.cov c (out.mpr j)
   exact⟨x,qx _ d,(vK j ac).trans (q.mono λ_ _ z=>aPZ z)⟩
 ·refine wm.mpr ⟨?_,?_,?_⟩
  ·refine jx (λ{a b} f g q z => ?_) ((sO (m+1) (n+1)).sublist dz)
   exact q (sV (qo.mp f).2 z)
  ·refine jx (λ{a b} f g q z => ?_) h.sep
   exact q (aK6 M hm hn z (out.mp (h.sub a f)) (self a) b (out.mp (h.sub b g)) (self b))
  ·intro a f b g z
   have:=sV (qo.mp f).2 z
   subst this
   have i:=(qo.mp f).2
   have l:=(out.mp (h.sub a g)).2
   unfold all4 at i
   rw[l,xi,xi] at i
   exact yr i
theorem euler(M:Mgn m n p)(hm:2<=m)(hn:2<=n){lin lo:List Pt}(h:Reps (Cn (E4 p)) ((grd m n).filter (inC p)) lin)(g:Reps (Cn (E8 m n p)) ((grd m n).filter (λc => !inC p c)) lo):
  lin.length+((segs m n).filter (inS p)).length+1=((grd m n).filter (inC p)).length+((grd (m+1) (n+1)).filter (all4 p)).length+lo.length:=by
 have r:=rel m n (P:=(segs m n).filter (inS p)) (rest:=(segs m n).filter λs => !inS p s) (λs=>by
  rw[qo,qo]
  cases inS p s <;> simp) (vN _ _) (primal M h) (aPN M hm hn g)
 rw[qh,qh,qh,jm] at r
 have t:=vN (inC p) (grd m n)
 rw[nB] at t
 omega
end
end EU
namespace EU
open PySem R
noncomputable def b2(b:Bool):Int:=if b then 1 else 0
theorem p9(a b:Bool):b2 (a&&b)=b2 a*b2 b:=by cases a <;> cases b <;> rfl
theorem aFB(f:Nat->Bool):∀n,(((qr n).filter f).length:Int)=sm n λi=>b2 (f i.toNat)
 |0=>rfl
 |n+1=>by
  rw[jq,ye,qh]
  show _=sm n _+b2 (f ((n:Int)).toNat)
  rw[<- aFB f n,qi]
  cases h:f n <;> simp[List.filter,h,b2]
theorem qB(f:Pt->Bool)(m n:Nat):(((grd m n).filter f).length:Int)=s2 m n λi j=>b2 (f (i,j)):=by
 unfold grd s2
 induction m with
 |zero=>rfl
 |succ m ih =>
  rw[jq,xx,ye,qh]
  show _=sm m _+_
  rw[<- ih]
  rw[Jj]
  congr 1
  rw[y6,di,zLm]
  rw[aFB]
  exact bY λj _=>by
   show b2 (f ((m:Int),(((j:Int).toNat:Nat):Int)))=_
   rw[qi]
theorem aIA(p:Int->Int->Bool)(m n:Nat):(((segs m n).filter (inS p)).length:Int)=s2 (m+1) n (λi j=>b2 (p (i-1) j)*b2 (p i j))+s2 m (n+1) λi j=>b2 (p i (j-1))*b2 (p i j):=by
 unfold segs
 rw[ye,qh,di,di,zLm,zLm,Jj,qB,qB]
 congr 1
 ·exact lX λi j _ _=>p9 _ _
 ·exact lX λi j _ _=>p9 _ _
theorem lD(f:Int->Int)(n:Nat)(h:f (-1)=0):sm (n+1) (λi=>f (i-1))=sm n f:=by
 rw[n6,show (0:Int)-1 = -1 from rfl,h,kq]
 exact bY λi _=>by rw[show (i:Int)+1-1=i by omega]
theorem iT(f:Int->Int)(n:Nat)(h:f n=0):sm (n+1) f=sm n f:=by
 show sm n f+f n=_
 rw[h,gh]
variable {p:Int->Int->Bool}
theorem aO9(M:Mgn m n p){a u:Int}(h:¬(1<=a/\a+1<m/\1<=u/\u+1<n)):b2 (p a u)=0:=by rw[nV M h];rfl
noncomputable def val4(a b c d:Bool):Int:=(b2 a+b2 b+(b2 c+b2 d))+(-2)*(b2 a*b2 b+b2 c*b2 d+(b2 a*b2 c+b2 b*b2 d))+4*(b2 a*b2 b*(b2 c*b2 d))
noncomputable def vAt(p:Int->Int->Bool)(i j:Int):Int:=val4 (p (i-1) (j-1)) (p i (j-1)) (p (i-1) j) (p i j)
theorem aPC(f:Int->Int->Int)(m n:Nat)(h1:∀j,f (-1) j=0)(h2:∀i,f i (-1)=0):s2 (m+1) (n+1) (λi j=>f (i-1) (j-1))=s2 m n f:=by
 unfold s2
 rw[bY (g:=λi=>sm n (f (i-1))) λi _=>lD (f ((i:Int)-1)) n (h2 _)]
 exact lD (λi=>sm n (f i)) m (eA λj _=>h1 _)
theorem aPX(f:Int->Int->Int)(m n:Nat)(h1:∀j,f m j=0)(h2:∀i,f i (-1)=0):s2 (m+1) (n+1) (λi j=>f i (j-1))=s2 m n f:=by
 unfold s2
 rw[bY (g:=λi=>sm n (f i)) λi _=>lD (f i) n (h2 _)]
 exact iT (λi=>sm n (f i)) m (eA λj _=>h1 _)
theorem aPO(f:Int->Int->Int)(m n:Nat)(h1:∀j,f (-1) j=0)(h2:∀i,f i n=0):s2 (m+1) (n+1) (λi j=>f (i-1) j)=s2 m n f:=by
 unfold s2
 rw[bY (g:=λi=>sm n (f (i-1))) λi _=>iT (f ((i:Int)-1)) n (h2 _)]
 exact lD (λi=>sm n (f i)) m (eA λj _=>h1 _)
theorem aOT(f:Int->Int->Int)(m n:Nat)(h1:∀j,f m j=0)(h2:∀i,f i n=0):s2 (m+1) (n+1) f=s2 m n f:=by
 unfold s2
 rw[bY (g:=λi=>sm n (f i)) λi _=>iT (f i) n (h2 _)]
 exact iT (λi=>sm n (f i)) m (eA λj _=>h1 _)
theorem s2_f(f:Int->Int->Int)(m n:Nat)(h2:∀i,f i (-1)=0):s2 m (n+1) (λi j=>f i (j-1))=s2 m n f:=bY λi _=>lD (f i) n (h2 _)
theorem s2_u(f:Int->Int->Int)(m n:Nat)(h2:∀i,f i n=0):s2 m (n+1) f=s2 m n f:=bY λi _=>iT (f i) n (h2 _)
theorem aPA(f:Int->Int->Int)(m n:Nat)(h1:∀j,f (-1) j=0):s2 (m+1) n (λi j=>f (i-1) j)=s2 m n f:=lD (λi=>sm n (f i)) m (eA λj _=>h1 _)
theorem aOJ(f:Int->Int->Int)(m n:Nat)(h1:∀j,f m j=0):s2 (m+1) n f=s2 m n f:=iT (λi=>sm n (f i)) m (eA λj _=>h1 _)
theorem aBA(M:Mgn m n p):s2 (m+1) (n+1) (vAt p)=4*(((grd m n).filter (inC p)).length:Int)-4*(((segs m n).filter (inS p)).length:Int)+4*(((grd (m+1) (n+1)).filter (all4 p)).length:Int):=by
 have no:∀{a u:Int},¬(1<=a/\a+1<m/\1<=u/\u+1<n)->b2 (p a u)=0:=aO9 M
 have g:(((grd m n).filter (inC p)).length:Int)=s2 m n λi j=>b2 (p i j):=qB _ _ _
 have k:(((grd (m+1) (n+1)).filter (all4 p)).length:Int)=s2 (m+1) (n+1) λi j=>b2 (p (i-1) (j-1))*b2 (p i (j-1))*(b2 (p (i-1) j)*b2 (p i j)):=by
  rw[qB]
  exact lX λi j _ _=>by unfold all4;rw[p9,p9,p9]
 have v1:=aPC (λi j=>b2 (p i j)) m n (λj=>no '!') (λi=>no '!')
 have v2:=aPX (λi j=>b2 (p i j)) m n (λj=>no '!') (λi=>no '!')
 have d:=aPO (λi j=>b2 (p i j)) m n (λj=>no '!') (λi=>no '!')
 have v4:=aOT (λi j=>b2 (p i j)) m n (λj=>no '!') (λi=>no '!')
 have c:=s2_f (λi j=>b2 (p (i-1) j)*b2 (p i j)) (m+1) n (λi=>by rw[no (a:=i) (u := -1) '!',z7])
 have h:=s2_u (λi j=>b2 (p (i-1) j)*b2 (p i j)) (m+1) n (λi=>by rw[no (a:=i) (u:=n) '!',z7])
 have f:=aPA (λi j=>b2 (p i (j-1))*b2 (p i j)) m (n+1) (λi=>by rw[no (a := -1) (u:=i) '!',z7])
 have b:=aOJ (λi j=>b2 (p i (j-1))*b2 (p i j)) m (n+1) (λi=>by rw[no (a:=m) (u:=i) '!',z7])
 rw[aIA,g,k]
 have e:s2 (m+1) (n+1) (vAt p)=(s2 (m+1) (n+1) (λi j=>b2 (p (i-1) (j-1)))+s2 (m+1) (n+1) (λi j=>b2 (p i (j-1)))+(s2 (m+1) (n+1) (λi j=>b2 (p (i-1) j))+s2 (m+1) (n+1) (λi j=>b2 (p i j))))
   + (-2)*(s2 (m+1) (n+1) (λi j=>b2 (p (i-1) (j-1))*b2 (p i (j-1)))+s2 (m+1) (n+1) (λi j=>b2 (p (i-1) j)*b2 (p i j))+(s2 (m+1) (n+1) (λi j=>b2 (p (i-1) (j-1))*b2 (p (i-1) j))+s2 (m+1) (n+1) (λi j=>b2 (p i (j-1))*b2 (p i j))))
   + 4*s2 (m+1) (n+1) (λi j=>b2 (p (i-1) (j-1))*b2 (p i (j-1))*(b2 (p (i-1) j)*b2 (p i j))):=by
  simp only[<- aN7,<- aM5]
  rfl
 rw[e,v1,v2,d,v4,c,h,f,b]
 omega
end EU
namespace EU
open PySem R Q
section
theorem k6:∀{i:Nat}{j:Nat}{c:Cell},j<i->cells[j]?=some c->∃s∈starts cells st i,Rch cells st s c
 |0,_,_,h,_=>by omega
 |i+1,j,c,h,e=>by
  by_cases f:j=i
  ·subst f
   by_cases q:∃s∈starts cells st j,Rch cells st s c
   ·rw[c6 e q];exact q
   ·rw[c9 e q];exact⟨c,by simp, .refl⟩
  ·obtain⟨s,a,b⟩:=k6 (i:=i) '!' e
   cases hc:cells[i]? with
   |none=>simp only[starts,hc];exact⟨s,a,b⟩
   |some d =>
    by_cases q:∃s∈starts cells st i,Rch cells st s d
    ·rw[c6 hc q];exact⟨s,a,b⟩
    ·rw[c9 hc q];exact⟨s,q6 _ a,b⟩
theorem fA:∀i,(starts cells st i).Pairwise λs c=>¬Rch cells st s c
 |0=>by simp[starts]
 |i+1=>by
  have e:=fA i
  cases hc:cells[i]? with
  |none=>simp only[starts,hc];exact e
  |some d =>
   by_cases q:∃s∈starts cells st i,Rch cells st s d
   ·rw[c6 hc q];exact e
   ·rw[c9 hc q]
    refine wm.mpr ⟨e,y2 _ _,λa f b g z => ?_⟩
    rw[qk.mp g] at z
    exact q ⟨a,f,z⟩
theorem i8{c:Cell}(h:c∈cells):∃s∈starts cells st cells.length,Rch cells st s c:=by
 obtain⟨j,hj,rfl⟩:=qj h
 exact k6 hj (by simp[hj])
end
noncomputable def pt:Cell->Pt
 |[a,u]=>(a+1,u+1)
 |_=>(0,0)
theorem rA{E:Pt->Pt->Prop}{vs:List Pt}(two:Two cells)(hv:∀a u:Int,[a,u]∈cells↔(a+1,u+1)∈vs)(h1:∀x y:Int,∀d∈st,[x,y]∈cells->[x+d.1,y+d.2]∈cells->Cn E (x+1,y+1) (x+d.1+1,y+d.2+1))(h2:∀v w:Pt,E v w->v∈vs/\w∈vs/\(v=w\/((w.1-v.1,w.2-v.2)∈st/\(v.1-w.1,v.2-w.2)∈st))):Reps (Cn E) vs ((starts cells st cells.length).map pt):=by
 have l:∀{s c},s∈cells->Rch cells st s c->Cn E (pt s) (pt c):=λ{s c} f h=>by
  induction h with
  |refl=>exact .refl
  |step q hd m ih=>exact ih.trans (h1 _ _ _ hd (q.mem f) m)
 have cell:∀{v:Pt},v∈vs->[v.1-1,v.2-1]∈cells:=λ{v} h=>(hv _ _).mpr (by rw[show v.1-1+1=v.1 by omega,show v.2-1+1=v.2 by omega];exact h)
 have go:∀{s:Cell}{v w:Pt},Rch cells st s [v.1-1,v.2-1]->w∈vs->(v=w\/(w.1-v.1,w.2-v.2)∈st)->Rch cells st s [w.1-1,w.2-1]:=λ{s v w} h hw e=>by
  rcases e with rfl|e
  ·exact h
  ·have:=Rch.step h e (by
    show [v.1-1+(w.1-v.1),v.2-1+(w.2-v.2)]∈cells
    rw[show v.1-1+(w.1-v.1)=w.1-1 by omega,show v.2-1+(w.2-v.2)=w.2-1 by omega]
    exact cell hw)
   have k:[v.1-1+(w.1-v.1,w.2-v.2).1,v.2-1+(w.1-v.1,w.2-v.2).2]=[w.1-1,w.2-1]:=by
    show [v.1-1+(w.1-v.1),v.2-1+(w.2-v.2)]=_
    rw[show v.1-1+(w.1-v.1)=w.1-1 by omega,show v.2-1+(w.2-v.2)=w.2-1 by omega]
   rwa [k] at this
 have i:∀{s:Cell}{v:Pt},s∈cells->Cn E (pt s) v->Rch cells st s [v.1-1,v.2-1]:=λ{s v} f h=>by
  induction h with
  |refl =>
   obtain⟨a,u,rfl⟩:=two s f
   show Rch cells st [a,u] [a+1-1,u+1-1]
   rw[show a+1-1=a by omega,show u+1-1=u by omega]
   exact .refl
  |fwd _ e ih=>obtain⟨_,b,c⟩:=h2 _ _ e;exact go ih b (c.imp id λc=>c.1)
  |bwd _ e ih=>obtain⟨a,_,c⟩:=h2 _ _ e;exact go ih a (c.imp Eq.symm λc=>c.2)
 refine⟨λx n => ?_,λv g => ?_,?_⟩
 ·obtain⟨s,f,rfl⟩:=qq.mp n
  have f:=bI f
  obtain⟨a,u,rfl⟩:=two s f
  exact (hv a u).mp f
 ·obtain⟨s,f,q⟩:=i8 (st:=st) (cell g)
  refine⟨pt s,qq.mpr ⟨s,f,rfl⟩,?_⟩
  have:=(l (bI f) q).symm
  rwa [show pt [v.1-1,v.2-1]=v from by show (v.1-1+1,v.2-1+1)=v;rw[show v.1-1+1=v.1 by omega,show v.2-1+1=v.2 by omega]] at this
 ·refine v7.mpr (jx (λ{a b} j o q z=>q ?_) (fA _))
  have:=i (bI j) z
  obtain⟨x,y,rfl⟩:=two b (bI o)
  have e:[(pt [x,y]).1-1,(pt [x,y]).2-1]=[x,y]:=by show [x+1-1,y+1-1]=_;rw[show x+1-1=x by omega,show y+1-1=y by omega]
  rwa [e] at this
noncomputable def fr(zs:List Str)(a u:Int):Bool:=aP zs (a-1) (u-1)
theorem sW{w:Nat}(g:Good w zs):Mgn (w+2) (zs.length+2) (fr zs):=λa u h=>by
 unfold fr at h
 have c:¬a-1<0:=λz=>by rw[bL z] at h;cases h
 have d:¬u-1<0:=λz=>by rw[bK z] at h;cases h
 have e:¬(w:Int)<=a-1:=λz=>by rw[kT g z] at h;cases h
 have b:¬(zs.length:Int)<=u-1:=λz=>by rw[cV z] at h;cases h
 omega
theorem aHA{w:Nat}(g:Good w zs):Reps (Cn (E4 (fr zs))) ((grd (w+2) (zs.length+2)).filter (inC (fr zs))) ((starts (aA zs true (w+1) (zs.length+1)) straight (aA zs true (w+1) (zs.length+1)).length).map pt):=by
 have i:∀a u:Int,[a,u]∈aA zs true (w+1) (zs.length+1)↔(a+1,u+1)∈(grd (w+2) (zs.length+2)).filter (inC (fr zs)):=λa u=>by
  rw[bQ,qo,b7]
  unfold inC fr inF
  dsimp only
  rw[show a+1-1=a by omega,show u+1-1=u by omega]
  constructor
  ·rintro⟨t,r,e,f,c,j,p,n⟩;cases e;exact⟨by omega,n⟩
  ·rintro⟨f,c⟩;exact⟨a,u,rfl,by omega,by omega,by omega,by omega,c⟩
 refine rA (bP _ _ _ _) i (λx y d hd o m => ?_) λv b e => ?_
 ·have h:=(qo.mp ((i _ _).mp o)).2
  have py:=(qo.mp ((i _ _).mp m)).2
  simp only[straight,qf,jg,or_false] at hd
  rcases hd with rfl|rfl|rfl|rfl
  ·refine .one ⟨h,py, .inl ⟨?_,?_⟩⟩ <;> dsimp only <;> omega
  ·refine .one ⟨h,py, .inr ⟨?_,?_⟩⟩ <;> dsimp only <;> omega
  ·refine (Cn.one ⟨py,h, .inl ⟨?_,?_⟩⟩).symm <;> dsimp only <;> omega
  ·refine (Cn.one ⟨py,h, .inr ⟨?_,?_⟩⟩).symm <;> dsimp only <;> omega
 ·obtain⟨f,c,j⟩:=e
  have s:=sW g _ _ f
  have q:=sW g _ _ c
  refine⟨qo.mpr ⟨b7.mpr (by unfold inF;omega),f⟩,qo.mpr ⟨b7.mpr (by unfold inF;omega),c⟩, .inr ?_⟩
  rcases j with ⟨l,k⟩|⟨l,k⟩
  ·rw[show b.1-v.1=1 by omega,show b.2-v.2=0 by omega,show v.1-b.1 = -1 by omega,show v.2-b.2=0 by omega]
   exact⟨by decide,by decide⟩
  ·rw[show b.1-v.1=0 by omega,show b.2-v.2=1 by omega,show v.1-b.1=0 by omega,show v.2-b.2 = -1 by omega]
   exact⟨by decide,by decide⟩
theorem wC{a b:Int}(h1 : -1<=a)(h2:a<=1)(h3 : -1<=b)(h4:b<=1)(h:¬(a=0/\b=0)):(a,b)∈aL:=by
 have c:a = -1\/a=0\/a=1:=by omega
 have d:b = -1\/b=0\/b=1:=by omega
 rcases c with rfl|rfl|rfl <;> rcases d with rfl|rfl|rfl <;> first|decide|exact absurd ⟨rfl,rfl⟩ h
theorem aGO(w:Nat)(zs:List Str):Reps (Cn (E8 (w+2) (zs.length+2) (fr zs))) ((grd (w+2) (zs.length+2)).filter (λc => !inC (fr zs) c)) ((starts (aA zs false (w+1) (zs.length+1)) aL (aA zs false (w+1) (zs.length+1)).length).map pt):=by
 have g:∀a u:Int,[a,u]∈aA zs false (w+1) (zs.length+1)↔(a+1,u+1)∈(grd (w+2) (zs.length+2)).filter (λc => !inC (fr zs) c):=λa u=>by
  rw[bQ,qo,b7]
  unfold inC fr inF
  dsimp only
  rw[show a+1-1=a by omega,show u+1-1=u by omega]
  constructor
  ·rintro⟨r,p,e,h,f,l,o,k⟩;cases e;exact⟨by omega,by rw[k];rfl⟩
  ·rintro⟨h,f⟩;exact⟨a,u,rfl,by omega,by omega,by omega,by omega,by simpa using f⟩
 have b:∀{c:Pt},c∈(grd (w+2) (zs.length+2)).filter (λc => !inC (fr zs) c)↔Ot (w+2) (zs.length+2) (fr zs) c:=λ{c}=>by
  rw[qo,b7];unfold Ot inC;simp
 refine rA (bP _ _ _ _) g (λx y d hd n j => ?_) λv i e => ?_
 ·have m:=b.mp ((g _ _).mp n)
  have py:=b.mp ((g _ _).mp j)
  have : -1<=d.1/\d.1<=1 /\ -1<=d.2/\d.2<=1:=by
   simp only[aL,qf,jg,or_false] at hd
   rcases hd with rfl|rfl|rfl|rfl|rfl|rfl|rfl|rfl <;> decide
  exact .one ⟨m,py,by dsimp only;omega,by dsimp only;omega,by dsimp only;omega,by dsimp only;omega⟩
 ·obtain⟨h,f,l⟩:=e
  refine⟨b.mpr h,b.mpr f,?_⟩
  by_cases q:v=i
  ·exact .inl q
  ·have q:¬(v.1=i.1/\v.2=i.2):=λz=>q (Js z.1 z.2)
   exact .inr ⟨wC '!' '!' '!' '!' '!',wC '!' '!' '!' '!' '!'⟩
noncomputable def kv(t:Str):Int:=if t = "out" then 1 else if t = "in" then -1 else if t = "touch" then 2 else 0
noncomputable def kvo:Option Str->Int
 |none=>0
 |some t=>kv t
theorem aIS(a b c d:Bool):kvo (kind4 a b c d)=val4 a b c d:=by
 cases a <;> cases b <;> cases c <;> cases d <;> decide +kernel
theorem rM:∀ks:List Str,((ks.count ("out" : Str):Nat):Int)-(ks.count ("in" : Str):Nat)+2*(ks.count ("touch" : Str):Nat)=(ks.map kv).sum
 |[]=>rfl
 |t::ks=>by
  rw[jd,cj,<- rM ks,zk,zk,zk]
  unfold kv
  by_cases a:t = "out"
  ·subst a
   rw[if_pos rfl,if_pos (by decide +kernel),if_neg (by decide +kernel),if_neg (by decide +kernel)];omega
  ·rw[if_neg a,if_neg (by simpa using a)]
   by_cases b:t = "in"
   ·subst b
    rw[if_pos rfl,if_pos (by decide +kernel),if_neg (by decide +kernel)];omega
   ·rw[if_neg b,if_neg (by simpa using b)]
    by_cases c:t = "touch"
    ·subst c
     rw[if_pos rfl,if_pos (by decide +kernel)];omega
    ·rw[if_neg c,if_neg (by simpa using c)];omega
noncomputable def kn(zs:List Str)(nx ny:Nat):List Str:=(qr nx).flatMap λi=>(qr ny).filterMap λj=>cL zs i j
theorem aF9(f:Nat->Option Str):∀n,(((qr n).filterMap f).map kv).sum=sm n λj=>kvo (f j.toNat)
 |0=>rfl
 |n+1=>by
  rw[jq,dj,qg,g9,aF9 f n]
  show _=sm n _+kvo (f ((n:Int)).toNat)
  rw[qi]
  cases h:f n <;> simp[jy,h,kvo]
theorem aMV(zs:List Str)(nx ny:Nat):((kn zs nx ny).map kv).sum=s2 nx ny λi j=>kvo (cL zs i.toNat j.toNat):=by
 unfold kn s2
 induction nx with
 |zero=>rfl
 |succ n ih =>
  rw[jq,xx,qg,g9,ih]
  show _=sm n _+_
  congr 1
  rw[y6,aF9]
  exact bY λj _=>by show kvo (cL zs n (j:Int).toNat)=kvo (cL zs (n:Int).toNat (j:Int).toNat);rw[qi,qi]
theorem aGT{w:Nat}(g:Good w zs):((kn zs (w+1) (zs.length+1)).map kv).sum=s2 (w+2+1) (zs.length+2+1) (vAt (fr zs)):=by
 have M:=sW g
 have b:val4 false false false false=0:=by decide
 have no:∀{a u:Int},¬(1<=a/\a+1<(w+2:Nat)/\1<=u/\u+1<(zs.length+2:Nat))->fr zs a u=false:=λh=>nV M h
 rw[aMV]
 have c:s2 (w+2+1) (zs.length+2+1) (vAt (fr zs))=s2 (w+1) (zs.length+1) λi j=>vAt (fr zs) (i+1) (j+1):=by
  unfold s2
  rw[n6,show sm (zs.length+2+1) (vAt (fr zs) 0)=0 from eA λj _=>by
   unfold vAt;rw[no '!',no '!',no '!',no '!'];exact b]
  rw[kq,show w+2=(w+1)+1 from rfl,iT _ _ (eA λj _=>by
   unfold vAt;rw[no '!',no '!',no '!',no '!'];exact b)]
  refine bY λi _ => ?_
  rw[n6,show vAt (fr zs) ((i:Int)+1) 0=0 from by unfold vAt;rw[no '!',no '!',no '!',no '!'];exact b]
  rw[kq,show zs.length+2=(zs.length+1)+1 from rfl,iT _ _ (by
   unfold vAt;rw[no '!',no '!',no '!',no '!'];exact b)]
 rw[c]
 refine lX λi j _ _ => ?_
 rw[qi,qi]
 unfold cL
 rw[aIS]
 unfold vAt fr
 rw[show (i:Int)+1-1-1=(i:Int)-1 by omega,show (j:Int)+1-1-1=(j:Int)-1 by omega,show (i:Int)+1-1=(i:Int) by omega,show (j:Int)+1-1=(j:Int) by omega]
theorem counted{w:Nat}(g:Good w zs):(((kn zs (w+1) (zs.length+1)).count ("out" : Str):Nat):Int)-((kn zs (w+1) (zs.length+1)).count ("in" : Str):Nat)+2*((kn zs (w+1) (zs.length+1)).count ("touch" : Str):Nat)
  = 4*((starts (aA zs true (w+1) (zs.length+1)) straight (aA zs true (w+1) (zs.length+1)).length).length:Nat)-4*(((starts (aA zs false (w+1) (zs.length+1)) aL (aA zs false (w+1) (zs.length+1)).length).drop 1).length:Nat):=by
 rw[rM,aGT g,aBA (sW g)]
 have e:=euler (sW g) '!' '!' (aHA g) (aGO w zs)
 rw[zLm,zLm] at e
 rw[ju]
 have pos:1<=(starts (aA zs false (w+1) (zs.length+1)) aL (aA zs false (w+1) (zs.length+1)).length).length:=by
  obtain⟨s,a,_⟩:=i8 (st:=aL) (zMo (kR zs (w+1) (zs.length+1)))
  exact y5 a
 omega
end EU
namespace EU
open PySem R Q
noncomputable def Lx(c d:Cell):Prop:=∃a u b v:Int,c=[a,u]/\d=[b,v]/\(u<v\/(u=v/\a<b))
theorem nI{c:Cell}(h:Lx c c):False:=by
 obtain⟨a,u,b,v,rfl,e,h⟩:=h;cases e;omega
theorem aOS{c d e:Cell}(h:Lx c d)(g:Lx d e):Lx c e:=by
 obtain⟨a,u,b,v,rfl,rfl,h⟩:=h
 obtain⟨b',v',x,y,e,rfl,g⟩:=g
 cases e
 exact⟨a,u,x,y,rfl,rfl,by omega⟩
theorem zT{c d:Cell}(h:Lx c d)(g:Lx d c):False:=nI (aOS h g)
theorem yN{a u b v:Int}(h:([a,u]:Cell)≠[b,v]):Lx [a,u] [b,v]\/Lx [b,v] [a,u]:=by
 by_cases d:u<v
 ·exact .inl ⟨a,u,b,v,rfl,rfl, .inl d⟩
 ·by_cases e:v<u
  ·exact .inr ⟨b,v,a,u,rfl,rfl, .inl e⟩
  ·by_cases f:a<b
   ·exact .inl ⟨a,u,b,v,rfl,rfl, .inr ⟨by omega,f⟩⟩
   ·by_cases c:b<a
    ·exact .inr ⟨b,v,a,u,rfl,rfl, .inr ⟨by omega,c⟩⟩
    ·exact absurd (by rw[show a=b by omega,show u=v by omega]) h
theorem dJ(zs:List Str)(b:Bool)(nx ny:Nat):(aA zs b nx ny).Pairwise Lx:=by
 unfold aA
 refine ra.mpr ⟨λu _ => ?_,?_⟩
 ·refine List.pairwise_filterMap.mpr (c5.imp λ{x y} h c a d hd => ?_)
  split at a <;> cases a
  split at hd <;> cases hd
  exact⟨_,_,_,_,rfl,rfl, .inr ⟨rfl,by omega⟩⟩
 ·refine c5.imp λ{x y} h c a d hd => ?_
  obtain⟨i,_,e⟩:=kz.mp a
  obtain⟨j,_,f⟩:=kz.mp hd
  split at e <;> cases e
  split at f <;> cases f
  exact⟨_,_,_,_,rfl,rfl, .inl '!'⟩
theorem xP:∀{l l':List Cell},l.Pairwise Lx->l'.Pairwise Lx->(∀c,c∈l↔c∈l')->l=l'
 |[],[],_,_,_=>rfl
 |[],d::l',_,_,h=>(nomatch (h d).mpr (.head _))
 |c::l,[],_,_,h=>(nomatch (h c).mp (.head _))
 |c::l,d::l',p,q,h=>by
  obtain⟨p1,g⟩:=ji.mp p
  obtain⟨b,i⟩:=ji.mp q
  have e:c=d:=by
   rcases qf.mp ((h c).mp (.head _)) with e|e
   ·exact e
   ·rcases qf.mp ((h d).mpr (.head _)) with f|f
    ·exact f.symm
    ·exact (zT (p1 d f) (b c e)).elim
  subst e
  rw[xP g i λx => ?_]
  constructor
  ·intro a
   rcases qf.mp ((h x).mp (.tail _ a)) with e|e
   ·exact (nI (e▸p1 x a)).elim
   ·exact e
  ·intro a
   rcases qf.mp ((h x).mpr (.tail _ a)) with e|e
   ·exact (nI (e▸b x a)).elim
   ·exact e
section
noncomputable def Sym(st:List (Int×Int)):Prop:=∀d∈st,(-d.1, -d.2)∈st
theorem eO{a b c:Cell}(h:Rch cells st a b)(g:Rch cells st b c):Rch cells st a c:=by
 induction g with
 |refl=>exact h
 |step _ hd m ih=>exact ih.step hd m
theorem eW(hs:Sym st){a b:Cell}(ha:a∈cells)(h:Rch cells st a b):Rch cells st b a:=by
 induction h with
 |refl=>exact .refl
 |@step x y d q hd m ih =>
  refine eO ?_ ih
  have:=Rch.step (cells:=cells) (st:=st) (s:=[x+d.1,y+d.2]) (x:=x+d.1) (y:=y+d.2) .refl (hs d hd) (by
   show [x+d.1 + -d.1,y+d.2 + -d.2]∈cells
   rw[show x+d.1 + -d.1=x by omega,show y+d.2 + -d.2=y by omega];exact q.mem ha)
  have e:[x+d.1+(-d.1, -d.2).1,y+d.2+(-d.1, -d.2).2]=[x,y]:=by
   show [x+d.1 + -d.1,y+d.2 + -d.2]=_
   rw[show x+d.1 + -d.1=x by omega,show y+d.2 + -d.2=y by omega]
  rwa [e] at this
theorem kM:∀i,i<=cells.length->(starts cells st i).Sublist (cells.take i)
 |0,_=>by simp[starts]
 |i+1,h=>by
  have b:=kM i '!'
  have a:cells[i]?=some cells[i]:=by simp
  have e:cells.take (i+1)=cells.take i++[cells[i]]:=by rw[mi,a];rfl
  by_cases q:∃s∈starts cells st i,Rch cells st s cells[i]
  ·rw[c6 a q,e];exact b.trans (List.sublist_append_left _ _)
  ·rw[c9 a q,e];exact b.append (KQ _)
theorem iS(hl:cells.Pairwise Lx):(starts cells st cells.length).Pairwise Lx:=by
 have:=kM (cells:=cells) (st:=st) cells.length (ql _)
 rw[qw] at this
 exact hl.sublist this
theorem eY(hs:Sym st)(two:Two cells)(hl:cells.Pairwise Lx){c:Cell}:c∈starts cells st cells.length↔c∈cells/\∀d∈cells,Rch cells st d c->¬Lx d c:=by
 constructor
 ·intro h
  refine⟨bI h,λd hd q l => ?_⟩
  obtain⟨s,B,e⟩:=i8 (st:=st) hd
  have sc:Rch cells st s c:=eO e q
  have eq:s=c:=by
   obtain⟨i,w,rfl⟩:=qj B
   obtain⟨j,p,rfl⟩:=qj h
   have sp:=jb.mp (fA (cells:=cells) (st:=st) cells.length)
   rcases xq i j with z|z|z
   ·exact absurd sc (sp i j w p z)
   ·subst z;rfl
   ·exact absurd (eW hs (bI B) sc) (sp j i p w z)
  subst eq
  -- the first of the group stands ahead of all
  have key:∀i,i<=cells.length->∀d∈cells.take i,∀s∈starts cells st cells.length,Rch cells st s d->s=d\/Lx s d:=by
   intro i w d hd s F L
   obtain⟨j,p,rfl⟩:=qj hd
   rw[br] at L ⊢
   have E:j<cells.length:=by rw[vw] at p;omega
   obtain⟨g,t,G⟩:=k6 (cells:=cells) (st:=st) (i:=j+1) (zh j) (zGe E)
   have x:g∈cells.take (j+1):=(kM (j+1) '!').subset t
   have K:g∈starts cells st cells.length:=by
    have:∀k,j+1<=k->k<=cells.length->g∈starts cells st k:=by
     intro k C
     induction k with
     |zero=>omega
     |succ k ih =>
      intro y
      by_cases z:j+1=k+1
      ·rw[<- z];exact t
      ·have:=ih '!' '!'
       have A:cells[k]?=some cells[k]:=by simp
       by_cases q:∃s∈starts cells st k,Rch cells st s cells[k]
       ·rw[c6 A q];exact this
       ·rw[c9 A q];exact q6 _ this
    exact this _ '!' (ql _)
   have D:s=g:=by
    have r:Rch cells st s g:=eO L (eW hs (bI K) G)
    obtain⟨J,m,rfl⟩:=qj F
    obtain⟨I,o,rfl⟩:=qj K
    have sp:=jb.mp (fA (cells:=cells) (st:=st) cells.length)
    rcases xq J I with z|z|z
    ·exact absurd r (sp _ _ m o z)
    ·subst z;rfl
    ·exact absurd (eW hs (bI F) r) (sp _ _ o m z)
   subst D
   obtain⟨k,C,rfl⟩:=qj x
   rw[br]
   have N:k<=j:=by rw[vw] at C;omega
   by_cases z:k=j
   ·subst z;exact .inl rfl
   ·exact .inr (jb.mp hl k j '!' E '!')
  rcases key cells.length (ql _) d (by rw[qw];exact hd) s h e with z|z
  ·exact nI (z▸l)
  ·exact zT z l
 ·rintro⟨h,f⟩
  obtain⟨s,t,G⟩:=i8 (st:=st) h
  have:s=c:=by
   apply qv
   intro n
   have x:=bI t
   obtain⟨a,u,rfl⟩:=two s x
   obtain⟨b,v,rfl⟩:=two c h
   rcases yN n with q|q
   ·exact f _ x G q
   ·-- c ahead of s: then s is no first one
    obtain⟨i,w,D⟩:=qj x
    obtain⟨j,p,H⟩:=qj h
    have O:j<i:=by
     rcases xq i j with z|z|z
     ·exact (zT q (D▸H▸jb.mp hl i j w p z)).elim
     ·subst z;exact absurd (D.symm.trans H) n
     ·exact z
    obtain⟨g,g1,g2⟩:=k6 (cells:=cells) (st:=st) (i:=j+1) (zh j) (by rw[zGe p,H])
    have g3:g∈cells:=bI g1
    -- g stands at or ahead of c,and so ahead of s;both begin one group
    have g4:g∈cells.take (j+1):=(kM (j+1) '!').subset g1
    have M:g∈starts cells st cells.length:=by
     have:∀k,j+1<=k->k<=cells.length->g∈starts cells st k:=by
      intro k C
      induction k with
      |zero=>omega
      |succ k ih =>
       intro y
       by_cases z:j+1=k+1
       ·rw[<- z];exact g1
       ·have:=ih '!' '!'
        have A:cells[k]?=some cells[k]:=by simp
        by_cases q:∃s∈starts cells st k,Rch cells st s cells[k]
        ·rw[c6 A q];exact this
        ·rw[c9 A q];exact q6 _ this
     exact this _ '!' (ql _)
    have r:Rch cells st g [a,u]:=eO g2 (eW hs x G)
    have ne:g=[a,u]:=by
     obtain⟨J,m,f1⟩:=qj M
     obtain⟨I,o,f2⟩:=qj t
     have sp:=jb.mp (fA (cells:=cells) (st:=st) cells.length)
     rcases xq J I with z|z|z
     ·exact absurd (f1.symm▸f2.symm▸r) (sp _ _ m o z)
     ·subst z;exact f1.symm.trans f2
     ·exact absurd (f1.symm▸f2.symm▸eW hs g3 r) (sp _ _ o m z)
    rw[ne] at g4
    obtain⟨k,C,f1⟩:=qj g4
    rw[br] at f1
    have y:k<=j:=by rw[vw] at C;omega
    have:=jb.mp hl k i '!' w '!'
    rw[f1,D] at this
    exact nI this
  subst this
  exact t
end
end EU
namespace EU
open PySem R Q
structure Crs(N n:Nat)(k r:Int->Int):Prop where
 k0:k (-1) = -1
 st:∀a:Int, -1<=a->a+1<N->k (a+1)=k a\/k (a+1)=k a+1
 rg:∀a:Int, -1<=a->a<N -> -1<=k a/\k a<n
 rr:∀A:Int, -1<=A->A<n -> -1<=r A/\r A<N/\k (r A)=A
 rl:∀A:Int, -1<=A->A<n->∀a:Int, -1<=a->a<N->k a=A->r A<=a
section
variable {N:Nat}{k r:Int->Int}
theorem Crs.mono(C:Crs N n k r){a b:Int}(ha : -1<=a)(hb:b<N)(h:a<=b):k a<=k b:=by
 obtain⟨d,rfl⟩:∃d:Nat,b=a+d:=⟨(b-a).toNat,by omega⟩
 induction d with
 |zero=>rw[show a+((0:Nat):Int)=a by omega];exact cu _
 |succ d ih =>
  have:=ih '!' '!'
  have e:a+((d+1:Nat):Int)=a+(d:Int)+1:=by omega
  rw[e]
  rcases C.st (a+d) '!' '!' with q|q <;> omega
theorem Crs.rmono(C:Crs N n k r){A B:Int}(hA : -1<=A)(hB:B<n)(h:A<B):r A<r B:=by
 obtain⟨a1,a2,b⟩:=C.rr A hA '!'
 obtain⟨a,b2,c⟩:=C.rr B '!' hB
 apply qv
 intro z
 have:=C.mono a a2 (show r B<=r A by omega)
 omega
theorem Crs.rk(C:Crs N n k r){a:Int}(h1 : -1<=a)(h2:a<N):r (k a)<=a:=C.rl _ (C.rg a h1 h2).1 (C.rg a h1 h2).2 a h1 h2 rfl
theorem Crs.band(C:Crs N n k r){a b:Int}(h1 : -1<=a)(h2:a<N)(h3:r (k a)<=b)(h4:b<=a):k b=k a:=by
 have g:=C.rg a h1 h2
 obtain⟨p1,d,c⟩:=C.rr (k a) g.1 g.2
 have:=C.mono (a:=b) (b:=a) '!' h2 h4
 have:=C.mono (a:=r (k a)) (b:=b) p1 '!' h3
 omega
theorem Crs.next(C:Crs N n k r){A d:Int}(h1 : -1<=A)(h2:A<n)(h3 : -1<=A+d)(h4:A+d<n)(hd:d = -1\/d=0\/d=1):∃a:Int,(-1<=a/\a<N/\k a=A) /\ -1<=a+d/\a+d<N/\k (a+d)=A+d:=by
 obtain⟨p1,c,b⟩:=C.rr A h1 h2
 obtain⟨h,g,f⟩:=C.rr (A+d) h3 h4
 rcases hd with rfl|rfl|rfl
 ·refine⟨r A,⟨p1,c,b⟩,?_⟩
  have lt:=C.rmono h3 h2 (show A + -1<A by omega)
  have e:r A + -1+1=r A:=by omega
  have s:=C.st (r A + -1) '!' '!'
  rw[e] at s
  have m:=λz=>C.rl A h1 h2 (r A + -1) '!' '!' z
  exact⟨by omega,by omega,by omega⟩
 ·exact⟨r A,⟨p1,c,b⟩,by omega,by omega,by rw[show r A+0=r A by omega,show A+0=A by omega];exact b⟩
 ·have lt:=C.rmono h1 h4 (show A<A+1 by omega)
  refine⟨r (A+1)-1,⟨by omega,by omega,?_⟩,by omega,by omega,?_⟩
  ·have s:=C.st (r (A+1)-1) '!' '!'
   rw[show r (A+1)-1+1=r (A+1) by omega] at s
   have m:=λz=>C.rl (A+1) h3 h4 (r (A+1)-1) '!' '!' z
   omega
  ·rw[show r (A+1)-1+1=r (A+1) by omega];exact f
end
structure Stp(st:List (Int×Int)):Prop where
 sy:Sym st
 sg:(1,0)∈st/\(0,1)∈st
 nr:∀d∈st,(d.1 = -1\/d.1=0\/d.1=1)/\(d.2 = -1\/d.2=0\/d.2=1)
 sh:∀d∈st,∀e:Int×Int,(e.1=0\/e.1=d.1)->(e.2=0\/e.2=d.2)->e=(0,0)\/e∈st
theorem eM:Stp straight where
 sy:=λd hd=>by simp only[straight,qf,jg,or_false] at hd;rcases hd with rfl|rfl|rfl|rfl <;> decide
 sg:=⟨by decide,by decide⟩
 nr:=λd hd=>by simp only[straight,qf,jg,or_false] at hd;rcases hd with rfl|rfl|rfl|rfl <;> decide
 sh:=λd hd e a b=>by
  obtain⟨x,y⟩:=e
  simp only[straight,qf,jg,or_false] at hd
  rcases hd with rfl|rfl|rfl|rfl <;> rcases a with a|a <;> rcases b with b|b <;> dsimp only at a b <;> subst a b <;> decide
theorem eZ:Stp aL where
 sy:=λd hd=>by simp only[aL,qf,jg,or_false] at hd;rcases hd with rfl|rfl|rfl|rfl|rfl|rfl|rfl|rfl <;> decide
 sg:=⟨by decide,by decide⟩
 nr:=λd hd=>by simp only[aL,qf,jg,or_false] at hd;rcases hd with rfl|rfl|rfl|rfl|rfl|rfl|rfl|rfl <;> decide
 sh:=λd hd e a b=>by
  obtain⟨x,y⟩:=e
  simp only[aL,qf,jg,or_false] at hd
  rcases hd with rfl|rfl|rfl|rfl|rfl|rfl|rfl|rfl <;> rcases a with a|a <;> rcases b with b|b <;> dsimp only at a b <;> subst a b <;> decide
section
variable {N N' n':Nat}{k r k' r':Int->Int}{F G:List Cell}
structure Two2(N n N' n':Nat)(k r k' r':Int->Int)(F G:List Cell):Prop where
 cx:Crs N n k r
 cy:Crs N' n' k' r'
 f2:Two F
 g2:Two G
 fr:∀a u:Int,[a,u]∈F -> -1<=a/\a<N /\ -1<=u/\u<N'
 gr:∀a u:Int,[a,u]∈G -> -1<=a/\a<n /\ -1<=u/\u<n'
 eq:∀a u:Int, -1<=a->a<N -> -1<=u->u<N'->([a,u]∈F↔[k a,k' u]∈G)
theorem Two2.down(T:Two2 N n N' n' k r k' r' F G)(S:Stp st){a u b v:Int}(ha:[a,u]∈F)(h:Rch F st [a,u] [b,v]):Rch G st [k a,k' u] [k b,k' v]:=by
 generalize e:([b,v]:Cell)=c at h
 induction h generalizing b v with
 |refl=>cases e;exact .refl
 |@step x y d q hd m g =>
  cases e
  have t:=T.fr _ _ (q.mem ha)
  have f:=T.fr _ _ m
  have g:=g rfl
  have p:k (x+d.1)-k x=0\/k (x+d.1)-k x=d.1:=by
   rcases (S.nr d hd).1 with z|z|z <;> rw[z] at f ⊢
   ·have:=T.cx.st (x + -1) '!' '!'
    rw[show x + -1+1=x by omega] at this;omega
   ·rw[show x+0=x by omega];omega
   ·have:=T.cx.st x '!' '!';omega
  have s:k' (y+d.2)-k' y=0\/k' (y+d.2)-k' y=d.2:=by
   rcases (S.nr d hd).2 with z|z|z <;> rw[z] at f ⊢
   ·have:=T.cy.st (y + -1) '!' '!'
    rw[show y + -1+1=y by omega] at this;omega
   ·rw[show y+0=y by omega];omega
   ·have:=T.cy.st y '!' '!';omega
  have j:=(T.eq _ _ f.1 f.2.1 f.2.2.1 f.2.2.2).mp m
  rcases S.sh d hd (k (x+d.1)-k x,k' (y+d.2)-k' y) p s with z|z
  ·have o:=congrArg Prod.fst z
   have l:=congrArg Prod.snd z
   dsimp only at o l
   rw[show k (x+d.1)=k x by omega,show k' (y+d.2)=k' y by omega]
   exact g
  ·have i:[k x+(k (x+d.1)-k x,k' (y+d.2)-k' y).1,k' y+(k (x+d.1)-k x,k' (y+d.2)-k' y).2]=[k (x+d.1),k' (y+d.2)]:=by
    show [k x+(k (x+d.1)-k x),k' y+(k' (y+d.2)-k' y)]=_
    rw[show k x+(k (x+d.1)-k x)=k (x+d.1) by omega,show k' y+(k' (y+d.2)-k' y)=k' (y+d.2) by omega]
   have:=Rch.step g z (i▸j)
   rwa [i] at this
theorem Two2.block(T:Two2 N n N' n' k r k' r' F G)(S:Stp st){a u:Int}(h:[a,u]∈F):[r (k a),r' (k' u)]∈F/\Rch F st [r (k a),r' (k' u)] [a,u]:=by
 have fr:=T.fr a u h
 have ga:=T.cx.rg a fr.1 fr.2.1
 have f:=T.cy.rg u fr.2.2.1 fr.2.2.2
 have s:=T.cx.rr _ ga.1 ga.2
 have q:=T.cy.rr _ f.1 f.2
 have g:=T.cx.rk fr.1 fr.2.1
 have e:=T.cy.rk fr.2.2.1 fr.2.2.2
 have p:=(T.eq a u fr.1 fr.2.1 fr.2.2.1 fr.2.2.2).mp h
 have c:∀b v:Int,r (k a)<=b->b<=a->r' (k' u)<=v->v<=u->[b,v]∈F:=λb v j o l i =>
  (T.eq b v '!' '!' '!' '!').mpr (by rw[T.cx.band fr.1 fr.2.1 j o,T.cy.band fr.2.2.1 fr.2.2.2 l i];exact p)
 refine⟨c _ _ (cu _) g (cu _) e,?_⟩
 have s1:∀d:Nat,r (k a)+d<=a->Rch F st [r (k a),r' (k' u)] [r (k a)+d,r' (k' u)]:=by
  intro d
  induction d with
  |zero=>intro _;rw[show r (k a)+((0:Nat):Int)=r (k a) by omega];exact .refl
  |succ d ih =>
   intro hd
   have m:[r (k a)+d+(1,(0:Int)).1,r' (k' u)+(1,(0:Int)).2]=[r (k a)+((d+1:Nat):Int),r' (k' u)]:=by
    show [r (k a)+d+1,r' (k' u)+0]=_
    rw[show r (k a)+d+1=r (k a)+((d+1:Nat):Int) by omega,show r' (k' u)+0=r' (k' u) by omega]
   have:=(ih '!').step S.sg.1 (m▸c _ _ '!' hd (cu _) e)
   rwa [m] at this
 have s2:∀d:Nat,r' (k' u)+d<=u->Rch F st [a,r' (k' u)] [a,r' (k' u)+d]:=by
  intro d
  induction d with
  |zero=>intro _;rw[show r' (k' u)+((0:Nat):Int)=r' (k' u) by omega];exact .refl
  |succ d ih =>
   intro hd
   have m:[a+((0:Int),(1:Int)).1,r' (k' u)+d+((0:Int),(1:Int)).2]=[a,r' (k' u)+((d+1:Nat):Int)]:=by
    show [a+0,r' (k' u)+d+1]=_
    rw[show r' (k' u)+d+1=r' (k' u)+((d+1:Nat):Int) by omega,show a+0=a by omega]
   have:=(ih '!').step S.sg.2 (m▸c _ _ g (cu _) '!' hd)
   rwa [m] at this
 have t1:=s1 (a-r (k a)).toNat '!'
 rw[show r (k a)+(((a-r (k a)).toNat:Nat):Int)=a by omega] at t1
 have t2:=s2 (u-r' (k' u)).toNat '!'
 rw[show r' (k' u)+(((u-r' (k' u)).toNat:Nat):Int)=u by omega] at t2
 exact eO t1 t2
theorem Two2.rin(T:Two2 N n N' n' k r k' r' F G){A U:Int}(h:[A,U]∈G):[r A,r' U]∈F:=by
 have g:=T.gr A U h
 obtain⟨a1,a2,a⟩:=T.cx.rr A g.1 g.2.1
 obtain⟨b,d,c⟩:=T.cy.rr U g.2.2.1 g.2.2.2
 exact (T.eq _ _ a1 a2 b d).mpr (by rw[a,c];exact h)
theorem Two2.up(T:Two2 N n N' n' k r k' r' F G)(S:Stp st){A U B V:Int}(hA:[A,U]∈G)(h:Rch G st [A,U] [B,V]):Rch F st [r A,r' U] [r B,r' V]:=by
 generalize e:([B,V]:Cell)=c at h
 induction h generalizing B V with
 |refl=>cases e;exact .refl
 |@step x y d q hd m ih =>
  cases e
  have i:=q.mem hA
  have g1:=T.gr _ _ i
  have g2:=T.gr _ _ m
  obtain⟨a,⟨a1,a2,j⟩,v,t,b⟩:=T.cx.next g1.1 g1.2.1 g2.1 g2.2.1 (S.nr d hd).1
  obtain⟨u,⟨s,w,f⟩,p,o,g⟩:=T.cy.next g1.2.2.1 g1.2.2.2 g2.2.2.1 g2.2.2.2 (S.nr d hd).2
  have f1:[a,u]∈F:=(T.eq _ _ a1 a2 s w).mpr (by rw[j,f];exact i)
  have f2:[a+d.1,u+d.2]∈F:=(T.eq _ _ v t p o).mpr (by rw[b,g];exact m)
  have l:=(T.block S f1).2
  have b2:=T.block S f2
  rw[j,f] at l
  rw[b,g] at b2
  exact eO (ih rfl) (eO l (eO (Rch.step .refl hd f2) (eW S.sy b2.1 b2.2)))
theorem Two2.same(T:Two2 N n N' n' k r k' r' F G)(S:Stp st){A U a u:Int}(hA:[A,U]∈G)(ha:[a,u]∈F):Rch F st [r A,r' U] [a,u]↔Rch G st [A,U] [k a,k' u]:=by
 have g:=T.gr A U hA
 constructor
 ·intro h
  have:=T.down S (T.rin hA) h
  rwa [(T.cx.rr A g.1 g.2.1).2.2,(T.cy.rr U g.2.2.1 g.2.2.2).2.2] at this
 ·intro h
  exact eO (T.up S hA h) (T.block S ha).2
noncomputable def rp(r r':Int->Int):Cell->Cell
 |[a,u]=>[r a,r' u]
 |c=>c
theorem Two2.starts(T:Two2 N n N' n' k r k' r' F G)(S:Stp st)(lF:F.Pairwise Lx)(lG:G.Pairwise Lx):R.starts F st F.length=(R.starts G st G.length).map (rp r r'):=by
 refine xP (iS lF) (v7.mpr (jx (λ{c d} b hd q => ?_) (iS lG))) λc => ?_
 ·obtain⟨A,U,B,V,rfl,rfl,q⟩:=q
  have g1:=T.gr _ _ (bI b)
  have g2:=T.gr _ _ (bI hd)
  refine⟨_,_,_,_,rfl,rfl,?_⟩
  rcases q with q|⟨rfl,q⟩
  ·exact .inl (T.cy.rmono g1.2.2.1 g2.2.2.2 q)
  ·exact .inr ⟨rfl,T.cx.rmono g1.1 g2.2.1 q⟩
 ·rw[eY S.sy T.f2 lF,qq]
  constructor
  ·rintro⟨b,f⟩
   obtain⟨a,u,rfl⟩:=T.f2 c b
   have fr:=T.fr a u b
   have t:=T.block S b
   have D:=T.cx.rk fr.1 fr.2.1
   have C:=T.cy.rk fr.2.2.1 fr.2.2.2
   have e:[r (k a),r' (k' u)]=[a,u]:=by
    apply qv
    intro z
    rcases yN z with q|q
    ·exact f _ t.1 t.2 q
    ·obtain⟨_,_,_,_,i,h,q⟩:=q
     cases i;cases h
     omega
   have s:=(T.eq a u fr.1 fr.2.1 fr.2.2.1 fr.2.2.2).mp b
   refine⟨[k a,k' u],(eY S.sy T.g2 lG).mpr ⟨s,λd hd q l => ?_⟩,e⟩
   obtain⟨B,V,rfl⟩:=T.g2 d hd
   have g1:=T.gr _ _ hd
   have g2:=T.gr _ _ s
   have up:=T.up S hd q
   rw[e] at up
   refine f _ (T.rin hd) up ?_
   clear q
   obtain⟨_,_,_,_,i,h,q⟩:=l
   cases i;cases h
   rw[<- e]
   refine⟨_,_,_,_,rfl,rfl,?_⟩
   clear up
   rcases q with q|⟨rfl,q⟩
   ·exact .inl (T.cy.rmono g1.2.2.1 g2.2.2.2 q)
   ·exact .inr ⟨rfl,T.cx.rmono g1.1 g2.2.1 q⟩
  ·rintro⟨d,hd,rfl⟩
   obtain⟨m,w⟩:=(eY S.sy T.g2 lG).mp hd
   obtain⟨A,U,rfl⟩:=T.g2 d m
   have g:=T.gr _ _ m
   obtain⟨a1,a2,p⟩:=T.cx.rr A g.1 g.2.1
   obtain⟨y,x,j⟩:=T.cy.rr U g.2.2.1 g.2.2.2
   refine⟨T.rin m,λc b q l => ?_⟩
   obtain⟨a,u,rfl⟩:=T.f2 c b
   have fr:=T.fr a u b
   have o:=T.down S b q
   rw[p,j] at o
   refine w _ ((T.eq a u fr.1 fr.2.1 fr.2.2.1 fr.2.2.2).mp b) o ?_
   obtain⟨_,_,_,_,i,h,q⟩:=l
   cases i;cases h
   refine⟨_,_,_,_,rfl,rfl,?_⟩
   rcases q with q|⟨v,q⟩
   ·have:=T.cy.mono fr.2.2.1 x (sk q)
    rw[j] at this
    by_cases z:k' u=U
    ·have:=T.cy.rl U g.2.2.1 g.2.2.2 u fr.2.2.1 fr.2.2.2 z;omega
    ·exact .inl '!'
   ·have:=T.cx.mono fr.1 a2 (sk q)
    rw[p] at this
    by_cases z:k a=A
    ·have:=T.cx.rl A g.1 g.2.1 a fr.1 fr.2.1 z;omega
    ·exact .inr ⟨by rw[v];exact j,by omega⟩
end
end EU
namespace R
open PySem L2
theorem still(hz:zs≠[]){a b:Nat}(hab:a<=b)(hb:b<=zs.length+1)(hn:∀c∈chg zs,¬(a<=c/\c<b)):(framed zs)[a]?=(framed zs)[b]?:=by
 refine qv λq => ?_
 obtain⟨k,d,f,e⟩:=jI (λi=>(framed zs)[i]?) (b-a) a (by rw[show a+(b-a)=b by lia];exact q)
 exact hn k ((fE hz).mpr ⟨by lia,e⟩) ⟨d,by lia⟩
theorem pH{c d:Nat}(hi:(chg zs)[i]?=some c)(hj:(chg zs)[j]?=some d)(h:i<j):c<d:=by
 obtain⟨b,a⟩:=zGs hi
 obtain⟨e,f⟩:=zGs hj
 have:=jb.mp (bV zs) i j b e h
 rw[a,f] at this;exact this
theorem aAQ{c d e:Nat}(hi:(chg zs)[i]?=some c)(hj:(chg zs)[i+1]?=some d)(he:e∈chg zs)(h:c<e):d<=e:=by
 obtain⟨k,g,f⟩:=qj he
 have a:(chg zs)[k]?=some e:=by rw[zGe g,f]
 by_cases j:k<=i
 ·by_cases b:k=i
  ·subst b;rw[hi] at a;cases a;lia
  ·have:=pH a hi '#';lia
 ·by_cases b:k=i+1
  ·subst b;rw[hj] at a;cases a;lia
  ·have:=pH hj a '#';lia
theorem wE{c e:Nat}(hi:(chg zs)[0]?=some c)(he:e∈chg zs):c<=e:=by
 obtain⟨k,d,b⟩:=qj he
 have a:(chg zs)[k]?=some e:=by rw[zGe d,b]
 by_cases h:k=0
 ·subst h;rw[hi] at a;cases a;lia
 ·have:=pH hi a '#';lia
theorem aGL{c e:Nat}(hi:(chg zs)[(chg zs).length-1]?=some c)(he:e∈chg zs):e<=c:=by
 obtain⟨k,d,b⟩:=qj he
 have a:(chg zs)[k]?=some e:=by rw[zGe d,b]
 by_cases h:k=(chg zs).length-1
 ·subst h;rw[hi] at a;cases a;lia
 ·have:=pH a hi '#';lia
theorem aAT{c:Nat}(hi:(chg zs)[i]?=some c)(h:i+1<(chg zs).length):(aF zs)[i]?=zs[c]?/\c<zs.length:=by
 have hd:(chg zs).dropLast[i]?=some c:=by rw[da,if_pos '#'];exact hi
 have hl:=iP (bV zs) (dU zs) c (zMo hd)
 unfold aF
 rw[qm,hd,v8,zGd,zGe hl]
 exact⟨rfl,hl⟩
theorem yF(h:∀z∈zs,z.length=n)(hr:aF zs≠[]):chg (aF zs)=qr (chg zs).length:=by
 have r:chg zs≠[]:=λe=>hr (by unfold aF;rw[e];rfl)
 have j:zs≠[]:=qR zs r
 have w:=dQ zs
 have u:1<=(aF zs).length:=wy.mpr hr
 have x:∀z∈aF zs,z.length=n:=λz j=>h z (j4 z j)
 have v:=cQ h j
 have t:=cQ x hr
 have f0:=fQ zs
 have fl:=d7 zs
 have q:=fQ (aF zs)
 have gl:=d7 (aF zs)
 rw[v] at f0 fl
 rw[t] at q gl
 have A:∀i c,(chg zs)[i]?=some c->(framed (aF zs))[i]?=(framed zs)[c]?:=λi c a=>by
  have d:=(zGs a).1
  have o:=dU zs c (zMo a)
  cases i with
  |zero =>
   rw[q,<- f0]
   exact still j (vq _) '#' λe he z=>by have:=wE a he;lia
  |succ i =>
   obtain⟨b,p⟩:∃b,(chg zs)[i]?=some b:=⟨(chg zs)[i],zGe '#'⟩
   obtain⟨l,m⟩:=aAT p '#'
   have lt:=pH p a (zh i)
   rw[cG '#',l,<- cG m]
   exact still j '#' '#' λe he z=>by have:=aAQ p a he '#';lia
 have B:∀i c,(chg zs)[i]?=some c->(framed (aF zs))[i+1]?=(framed zs)[c+1]?:=λi c a=>by
  have d:=(zGs a).1
  have o:=dU zs c (zMo a)
  by_cases f:i+1<(chg zs).length
  ·obtain⟨l,m⟩:=aAT a f
   rw[cG '#',l,<- cG m]
  ·have s:i=(chg zs).length-1:=by lia
   rw[show i+1=(aF zs).length+1 by lia,gl,<- fl]
   exact (still j '#' (ql _) λe he z=>by have:=aGL (s▸a) he;lia).symm
 have:chg (aF zs)=(qr ((aF zs).length+1)).filter λi => !decide ((framed (aF zs))[i]?=(framed (aF zs))[i+1]?):=by
  unfold chg
  rw[if_neg (by rw[List.isEmpty_iff];exact hr)]
 rw[this,show (aF zs).length+1=(chg zs).length by lia]
 refine dI.mpr λi a => ?_
 have d:=q4.mp a
 have g:(chg zs)[i]?=some (chg zs)[i]:=zGe d
 have k:=((fE j).mp (zMo g)).2
 rw[<- A i _ g,<- B i _ g] at k
 rw[decide_eq_false k];rfl
theorem o9(h:∀z∈zs,z.length=n)(hz:zs≠[])(hn:0<n):aC (aC zs)=zs:=by
 have d:(aC zs).length=n:=cY h hz
 have a:aC zs≠[]:=λe=>by rw[e] at d;simp at d;lia
 have b:∀z∈aC zs,z.length=zs.length:=λz hz=>fJ z hz
 have g:0<zs.length:=wy.mpr hz
 have f:=cY b a
 apply xo
 intro i
 by_cases c:i<zs.length
 ·rw[iR b a c,zGe c]
  congr 1
  apply lC
  show (aC zs).map (atS · i)=zs[i].cps.toList
  apply xo
  intro j
  have hl:=h zs[i] (je c)
  by_cases k:j<n
  ·rw[qm,iR h hz k,v8,f6 '#',lN,zGd,qm,zGe c]
   rfl
  ·rw[jh (by rw[zLm];lia),jh (by rw[jj];have:zs[i].cps.size=zs[i].length:=rfl;lia)]
 ·rw[jh '#',jh '#']
theorem aCK(h:Good n zs)(hr:aF zs≠[]):
  chg (b4 zs)=qr (chg zs).length/\chg (aC (b4 zs))=qr (chg (aC zs)).length/\b4 zs≠[]/\Good ((chg (aC zs)).length-1) (b4 zs)/\2<=(chg (aC zs)).length/\2<=(chg zs).length:=by
 have hl:∀z∈zs,z.length=n:=λz b=>(h z b).1
 have g:=fR h
 have d:∀z∈aF zs,z.length=n:=λz b=>(g z b).1
 obtain⟨B,j,f⟩:=qZ hl hr
 obtain⟨y,w,_⟩:=aAN g j f
 have p:0<n:=by lia
 have l:=yF hl hr
 have s:=mS hl hr
 have k:=j7 g
 have i:∀z∈aC (aF zs),z.length=(aF zs).length:=λz b=>(k z b).1
 have cne:aC (aF zs)≠[]:=λe=>by have:=cY d hr;rw[e] at this;simp at this;lia
 have a:aF (aC (aF zs))≠[]:=λe=>by
  have q:=(pX i e).2
  rw[o9 d hr p,l] at q
  have o:(chg zs).length=0:=by simpa using congrArg cf q
  have:=dQ zs
  exact hr (jr.mp '#')
 have v:=yF i a
 have r:=fR k
 have u:∀z∈aF (aC (aF zs)),z.length=(aF zs).length:=λz b=>(r z b).1
 have x:0<(aF zs).length:=wy.mpr hr
 have c:=mS i a
 rw[o9 d hr p,l,mQ h hr] at c
 have t:aC (b4 zs)=aF (aC (aF zs)):=by rw[<- mQ h hr];exact o9 u a x
 have m:=dQ (aC (aF zs))
 have A:0<(aF (aC (aF zs))).length:=wy.mpr a
 have C:=dQ zs
 rw[s] at m
 refine⟨c,by rw[t,v,s],λe => ?_,?_,by lia,by lia⟩
 ·rw[e] at c
  have o:=congrArg cf c
  rw[xm,show (chg ([]:List Str)).length=0 from rfl] at o
  lia
 ·rw[<- mQ h hr]
  have:=j7 r
  rw[m] at this
  exact this
theorem aBK{r c d:Nat}(hj:j<zs.length)(h1:(chg zs)[r]?=some c)(h2:(chg zs)[r+1]?=some d)(hc:c<=j)(hd:j<d):zs[j]?=zs[c]?:=by
 have a:zs≠[]:=λe=>by rw[e] at hj;simp at hj
 rw[<- cG hj,<- cG (show c<zs.length by lia)]
 exact (still a '#' '#' λe he z=>by have:=aAQ h1 h2 he '#';lia).symm
theorem yZ(h:∀z∈zs,z.length=n)(hj:j<zs.length)(hn:∀r c d,(chg zs)[r]?=some c->(chg zs)[r+1]?=some d->¬(c<=j/\j<d)):zs[j]?=some (dots n):=by
 have f:zs≠[]:=λe=>by rw[e] at hj;simp at hj
 have w:=cQ h f
 have f0:=fQ zs
 have fl:=d7 zs
 rw[w] at f0 fl
 rw[<- cG hj]
 by_cases a:∀e∈chg zs,j<e
 ·rw[<- f0]
  exact (still f (vq _) '#' λe he z=>by have:=a e he;lia).symm
 ·have h0:∀(r c:Nat),(chg zs)[r]?=some c->c<=j:=λr=>by
   induction r with
   |zero =>
    intro c b
    refine qv λq=>a λe he => ?_
    have:=wE b he;lia
   |succ r ih =>
    intro d hd
    have l:=(zGs hd).1
    have b:(chg zs)[r]?=some (chg zs)[r]:=zGe '#'
    have:=hn r _ d b hd
    have:=ih _ b
    lia
  rw[<- fl]
  refine still f '#' (ql _) λe he z => ?_
  obtain⟨k,g,i⟩:=qj he
  have:=h0 k e (by rw[zGe g,i])
  lia
theorem aK8{r c:Nat}(hr:(chg zs)[r]?=some i)(hr1:r+1<(chg zs).length)(hc:(chg (aC zs))[c]?=some j)(hc1:c+1<(chg (aC zs)).length){z:Str}(hz:zs[i]?=some z):∃y,(b4 zs)[r]?=some y/\atS y c=atS z j:=by
 have a:(chg zs).dropLast[r]?=some i:=by rw[da,if_pos '#'];exact hr
 have b:(chg (aC zs)).dropLast[c]?=some j:=by rw[da,if_pos '#'];exact hc
 unfold b4
 rw[qm,a]
 refine⟨_,rfl,?_⟩
 rw[lN,zGd,qm,b,zGd,hz]
 rfl
theorem aNZ(h:∀z∈zs,z.length=n){c k d:Nat}(hk:k<n)(h1:(chg (aC zs))[c]?=some i)(h2:(chg (aC zs))[c+1]?=some d)(hc:i<=k)(hd:k<d):∀z∈zs,atS z k=atS z i:=λz b=>by
 have a:zs≠[]:=λe=>by rw[e] at b;cases b
 have hl:=cY h a
 have:=aBK (zs:=aC zs) '#' h1 h2 hc hd
 rw[iR h a hk,iR h a '#'] at this
 exact vR.mp this z b
theorem aJK(h:∀z∈zs,z.length=n){k:Nat}(hk:k<n)(hn:∀r c d,(chg (aC zs))[r]?=some c->(chg (aC zs))[r+1]?=some d->¬(c<=k/\k<d)):∀z∈zs,atS z k=46:=λz a=>by
 have b:zs≠[]:=λe=>by rw[e] at a;cases a
 have hl:=cY h b
 have:=yZ (zs:=aC zs) (λz a=>fJ z a) (j:=k) '#' hn
 rw[iR h b hk] at this
 have e:ofL (zs.map (atS · k))=dots zs.length:=by injection this
 obtain⟨i,g,rfl⟩:=qj a
 have f:=congrArg (λs=>atS s i) e
 simp only[lN,lH,if_pos g] at f
 rw[zGd,qm,zGe g] at f
 exact f
noncomputable def dP(C:List Nat)(k:Int):Nat:=(C.filter λ(i:Nat)=>decide ((i:Int)<=k)).length
noncomputable def bd(C:List Nat)(k:Int):Int:=(dP C k:Int)-1
theorem u8{k:Int}:∀{C:List Nat},C.Pairwise (· < ·)->∀{i c:Nat},C[i]?=some c->((c:Int)<=k↔i<dP C k)
 |[],_,i,c,h=>by simp at h
 |a::l,hs,i,c,h=>by
  obtain⟨d,f⟩:=ji.mp hs
  unfold dP
  by_cases b:(a:Int)<=k
  ·rw[j1 (by simpa using b),qp]
   cases i with
   |zero=>simp at h;subst h;exact⟨λ_=>by lia,λ_=>b⟩
   |succ i =>
    have:=u8 (k:=k) f (i:=i) (c:=c) (by simpa using h)
    unfold dP at this
    rw[this];lia
  ·rw[wq (by simpa using b)]
   have e:l.filter (λ(i:Nat)=>decide ((i:Int)<=k))=[]:=wz.mpr λx g=>by have:=d x g;simp;lia
   rw[e]
   cases i with
   |zero=>simp at h;subst h;exact⟨λz=>absurd z b,λz=>by simp at z⟩
   |succ i =>
    have:=d c (zMo (i:=i) (by simpa using h))
    exact⟨λz=>by lia,λz=>by simp at z⟩
theorem aFG(C:List Nat)(k:Int):dP C k<=C.length:=zd _ _
theorem aJ7(g:Good n zs)(k j:Int):aP (b4 zs) (bd (chg (aC zs)) k) (bd (chg zs) j)=aP zs k j:=by
 have h:∀z∈zs,z.length=n:=λz l=>(g z l).1
 have Q:(b4 zs).length=(chg zs).length-1:=by unfold b4;rw[zLm,q7]
 have kw:∀z∈b4 zs,z.length=(chg (aC zs)).length-1:=λz l=>by
  unfold b4 at l
  obtain⟨i,_,rfl⟩:=qq.mp l
  rw[lJ,zLm,q7]
 have V:=aFG (chg zs) j
 have R:=aFG (chg (aC zs)) k
 have b:=λ{i c}=>u8 (k:=j) (bV zs) (i:=i) (c:=c)
 have a:=λ{i c}=>u8 (k:=k) (bV (aC zs)) (i:=i) (c:=c)
 unfold bd
 -- the row is none: both are out
 by_cases T:0<dP (chg zs) j/\dP (chg zs) j<(chg zs).length
 rotate_left
 ·have lhs:aP (b4 zs) ((dP (chg (aC zs)) k:Int)-1) ((dP (chg zs) j:Int)-1)=false:=by
   by_cases h0:dP (chg zs) j=0
   ·exact bK '#'
   ·exact cV '#'
  rw[lhs]
  symm
  by_cases x:j<0
  ·exact bK x
  by_cases A:(zs.length:Int)<=j
  ·exact cV A
  obtain⟨m,rfl⟩:∃m:Nat,j=(m:Int):=⟨j.toNat,by lia⟩
  have hd:=yZ h (j:=m) '#' λr c d w s M=>by
   have a1:=b w
   have a2:=b s
   have hl2:=(zGs s).1
   lia
  by_cases o:k<0
  ·exact bL o
  obtain⟨q,rfl⟩:∃q:Nat,k=(q:Int):=⟨k.toNat,by lia⟩
  by_cases B:n<=q
  ·exact iC (z:=dots n) (by rw[qi];exact hd) (by rw[r8];lia)
  ·rw[fM (z:=dots n) (c:=46) '#' '#' (by rw[qi];exact hd) (by rw[qi,f6 (by rw[r8];lia),lH,if_pos '#'])]
   rfl
 obtain⟨r,K⟩:∃r,dP (chg zs) j=r+1:=⟨dP (chg zs) j-1,by lia⟩
 have L:(((dP (chg zs) j:Nat):Int)-1)=(r:Int):=by lia
 have g1:(chg zs)[r]?=some (chg zs)[r]:=zGe '#'
 have g2:(chg zs)[r+1]?=some (chg zs)[r+1]:=zGe '#'
 have W:=(b g1).mpr '#'
 have b2:=b g2
 have hd2:=dU _ _ (zMo g2)
 obtain⟨m,rfl⟩:∃m:Nat,j=(m:Int):=⟨j.toNat,by lia⟩
 have hm:m<zs.length:=by lia
 have D:=aBK hm g1 g2 '#' '#'
 obtain⟨z,l⟩:∃z,zs[m]?=some z:=⟨zs[m],zGe hm⟩
 rw[l] at D
 have f:=zMo l
 have t:r<(b4 zs).length:=by lia
 have v:(b4 zs)[r]?=some (b4 zs)[r]:=zGe t
 have G:=kw _ (je t)
 rw[L]
 by_cases P:0<dP (chg (aC zs)) k/\dP (chg (aC zs)) k<(chg (aC zs)).length
 rotate_left
 ·have lhs:aP (b4 zs) ((dP (chg (aC zs)) k:Int)-1) (r:Int)=false:=by
   by_cases h0:dP (chg (aC zs)) k=0
   ·exact bL '#'
   ·exact iC (z:=(b4 zs)[r]) (by rw[qi];exact v) '#'
  rw[lhs]
  symm
  by_cases o:k<0
  ·exact bL o
  obtain⟨q,rfl⟩:∃q:Nat,k=(q:Int):=⟨k.toNat,by lia⟩
  by_cases B:n<=q
  ·exact iC (z:=z) (by rw[qi];exact l) (by rw[h z f];lia)
  ·have:=aJK h (k:=q) '#' (λr c d w s M=>by
    have a1:=a w
    have a2:=a s
    have hl2:=(zGs s).1
    lia) z f
   rw[fM (z:=z) (c:=46) '#' '#' (by rw[qi];exact l) (by rw[qi,f6 (by rw[h z f];lia),this])]
   rfl
 obtain⟨c,J⟩:∃c,dP (chg (aC zs)) k=c+1:=⟨dP (chg (aC zs)) k-1,by lia⟩
 have H:(((dP (chg (aC zs)) k:Nat):Int)-1)=(c:Int):=by lia
 have f1:(chg (aC zs))[c]?=some (chg (aC zs))[c]:=zGe '#'
 have f2:(chg (aC zs))[c+1]?=some (chg (aC zs))[c+1]:=zGe '#'
 have S:=(a f1).mpr '#'
 have U:=a f2
 have u:zs≠[]:=λe=>by rw[e] at hm;simp at hm
 have O:=cY h u
 have I:=dU _ _ (zMo f2)
 obtain⟨q,rfl⟩:∃q:Nat,k=(q:Int):=⟨k.toNat,by lia⟩
 have E:q<n:=by lia
 obtain⟨y,C,N⟩:=aK8 g1 '#' f1 '#' D.symm
 have p:=aNZ h (k:=q) E f1 f2 '#' '#' z f
 have F:=kw y (zMo C)
 rw[H,fM (z:=y) (c:=atS y c) '#' '#' (by rw[qi];exact C) (by rw[qi];exact f6 '#'),
  fM (z:=z) (c:=atS z q) '#' '#' (by rw[qi];exact l) (by rw[qi];exact f6 (by rw[h z f];exact E)),N,p]
theorem aAD{K:List Str}{a u:Int}:aP K a u=true↔0<=u/\0<=a/\∃z,K[u.toNat]?=some z/\z.cps.toList[a.toNat]?=some 35:=by
 unfold aP
 rw[qn,qn,decide_eq_true_eq,decide_eq_true_eq,beq_iff_eq]
 constructor
 ·rintro⟨⟨b,c⟩,f⟩
  obtain⟨z,d,e⟩:=mm.mp f
  exact⟨b,c,z,d,e⟩
 ·rintro⟨b,c,z,d,e⟩
  exact⟨⟨b,c⟩,mm.mpr ⟨z,d,e⟩⟩
noncomputable def j6:List Int->List Int->List Int
 |[],ys=>ys
 |x::xs,[]=>x::xs
 |x::xs,y::ys=>if y<x then y::j6 (x::xs) ys else if x=y then x::j6 xs ys else x::j6 xs (y::ys)
termination_by xs ys=>xs.length+ys.length
theorem sY{xs ys:List Int}{f s:Nat}(hf:f<xs.length)(hs:s<ys.length):
  j6 (xs.drop f) (ys.drop s)=(if ys.getD s 0<xs.getD f 0 then ys.getD s 0 else xs.getD f 0)::j6 (xs.drop (f+if xs.getD f 0=(if ys.getD s 0<xs.getD f 0 then ys.getD s 0 else xs.getD f 0) then 1 else 0)) (ys.drop (s+if ys.getD s 0=(if ys.getD s 0<xs.getD f 0 then ys.getD s 0 else xs.getD f 0) then 1 else 0)):=by
 have ex:xs.drop f=xs.getD f 0::xs.drop (f+1):=by rw[yl hf,zGd,zGe hf];rfl
 have b:ys.drop s=ys.getD s 0::ys.drop (s+1):=by rw[yl hs,zGd,zGe hs];rfl
 generalize xs.getD f 0=x at *
 generalize ys.getD s 0=y at *
 conv=>lhs;rw[ex,b,j6]
 by_cases h:y<x
 ·rw[if_pos h,if_pos h,if_neg '!',if_pos rfl]
  show _=y::j6 (xs.drop f) (ys.drop (s+1))
  rw[ex]
 ·rw[if_neg h,if_neg h,if_pos rfl]
  by_cases a:x=y
  ·rw[if_pos a,if_pos a.symm]
  ·rw[if_neg a,if_neg (λe=>a e.symm)]
   show _=x::j6 (xs.drop (f+1)) (ys.drop s)
   rw[b]
end R
namespace U
open PySem
abbrev Up(ws:List Rat):Prop:=ws.Pairwise (· < ·)
noncomputable def ix(ws:List Rat)(x:Rat):Int:=((ws.filter λw=>decide (w<=x)).length:Int)-1
theorem gD(ws:List Rat)(x:Rat): -1<=ix ws x:=by unfold ix;lia
theorem iG(ws:List Rat)(x:Rat):ix ws x<ws.length:=by
 unfold ix
 have:=zd (λw=>decide (w<=x)) ws
 lia
theorem eH{x:Rat}:∀{ws:List Rat},Up ws->∀{i:Nat} (h:i<ws.length),ws[i]<=x↔(i:Int)<=ix ws x
 |[],_,i,h=>absurd h (l0 _)
 |w::r,u,i,h=>by
  obtain⟨b,f⟩:=ji.mp u
  unfold ix
  by_cases hw:w<=x
  ·rw[j1 (by simpa using hw),qp]
   cases i with
   |zero=>exact⟨λ_=>by lia,λ_=>hw⟩
   |succ i =>
    have:=eH (x:=x) f (i:=i) (by simpa using h)
    unfold ix at this
    simp only[pk]
    rw[this]
    lia
  ·rw[wq (by simpa using hw)]
   have e:r.filter (λw=>decide (w<=x))=[]:=wz.mpr λa d=>by
    have:=b a d
    simp only[decide_eq_true_eq]
    grind
   rw[e]
   have c:¬(w::r)[i]<=x:=by
    cases i with
    |zero=>simpa using hw
    |succ i =>
     have:=b _ (je (by simpa using h:i<r.length))
     simp only[pk]
     grind
   exact⟨λz=>absurd z c,λz=>by simp at z;lia⟩
theorem xM{x:Rat}{k:Int}(u:Up ws)(h0 : -1<=k)(h1:k<ws.length)(h:∀(i:Nat) (hi:i<ws.length),ws[i]<=x↔(i:Int)<=k):ix ws x=k:=by
 have a:=gD ws x
 have b:=iG ws x
 apply Int.le_antisymm
 ·by_cases c:0<=ix ws x
  ·have q:=(h (ix ws x).toNat '#').mp ((eH u '#').mpr '#')
   lia
  ·lia
 ·by_cases c:0<=k
  ·have q:=(eH (x:=x) u (i:=k.toNat) '#').mp ((h k.toNat '#').mpr '#')
   lia
  ·lia
theorem oQ(u:Up ws)(hi:i<ws.length)(hj:j<ws.length):ws[i]<ws[j]↔i<j:=by
 have p:=jb.mp u
 constructor
 ·intro h
  rcases xq i j with q|q|q
  ·exact q
  ·subst q;grind
  ·have:=p j i hj hi q;grind
 ·exact p i j hi hj
theorem mO(u:Up ws)(hi:i<ws.length)(hj:j<ws.length):ws[i]<=ws[j]↔i<=j:=by
 have:=oQ u hj hi
 constructor
 ·intro h;refine Q1 λq => ?_
  have:=this.mpr q;grind
 ·intro h
  have:¬ws[j]<ws[i]:=λq=>by have:=this.mp q;lia
  grind
theorem cH(u:Up ws)(hi:i<ws.length):ix ws ws[i]=i:=
 xM u '#' '#' λj hj=>by rw[mO u hj hi];lia
theorem aF2{vs:List Rat}(u:Up ws)(v:Up vs)(h:∀x,x∈ws↔x∈vs):ws=vs:=by
 induction ws generalizing vs with
 |nil =>
  cases vs with
  |nil=>rfl
  |cons a r=>exact absurd ((h a).mpr (.head _)) '$'
 |cons w ws ih =>
  cases vs with
  |nil=>exact absurd ((h w).mp (.head _)) '$'
  |cons a r =>
   obtain⟨c,d⟩:=ji.mp u
   obtain⟨v1,v2⟩:=ji.mp v
   have e:w=a:=by
    rcases qf.mp ((h w).mp (.head _)) with q|q
    ·exact q
    ·rcases qf.mp ((h a).mpr (.head _)) with z|z
     ·exact z.symm
     ·have:=v1 w q;have:=c a z;grind
   subst e
   rw[ih d v2 λx => ?_]
   constructor
   ·intro b
    rcases qf.mp ((h x).mp (.tail _ b)) with q|q
    ·subst q;have:=c x b;grind
    ·exact q
   ·intro b
    rcases qf.mp ((h x).mpr (.tail _ b)) with q|q
    ·subst q;have:=v1 x b;grind
    ·exact q
theorem vT{xs:List Rat}(u:Up ws)(v:Up xs)(hs:∀w∈ws,w∈xs){x:Rat}(hi:i<xs.length)(e:ix xs x=i):ix ws x=ix ws xs[i]:=by
 unfold ix
 refine congrArg (λl:List Rat=>(l.length:Int)-1) (bw λw hw => ?_)
 obtain⟨j,a,rfl⟩:=qj (hs w hw)
 have b:=eH (x:=x) v a
 have c:=mO v a hi
 rw[decide_eq_decide,b,c,e]
 lia
theorem pM{xs:List Rat}(v:Up xs)(hs:∀w∈ws,w∈xs){x:Rat}(e:ix xs x = -1):ix ws x = -1:=by
 unfold ix
 rw[wz.mpr λw hw => ?_]
 ·rfl
 ·obtain⟨j,b,rfl⟩:=qj (hs w hw)
  have a:=eH (x:=x) v b
  rw[decide_eq_true_eq,a,e]
  lia
theorem qN{xs:List Rat}(v:Up xs)(hs:∀w∈ws,w∈xs){x:Rat}(e:ix xs x=(xs.length:Int)-1):ix ws x=(ws.length:Int)-1:=by
 unfold ix
 rw[dI.mpr λw hw => ?_]
 obtain⟨j,b,rfl⟩:=qj (hs w hw)
 have a:=eH (x:=x) v b
 rw[decide_eq_true_eq,a,e]
 lia
noncomputable def iF(xs:List Rat)(js:List Nat):List Rat:=js.map λj=>xs.getD j 0
theorem xZ{xs:List Rat}(u:Up xs)(hs:js.Pairwise (· < ·))(h:∀j∈js,j<xs.length):Up (iF xs js):=by
 unfold iF Up
 rw[v7]
 refine jx ?_ hs
 intro a b f g c
 have d:=h a f
 have e:=h b g
 rw[zGd,zGd,zGe d,zGe e]
 exact (oQ u d e).mpr c
theorem xD{xs:List Rat}(h:∀j∈js,j<xs.length):∀x∈iF xs js,x∈xs:=λx b=>by
 obtain⟨j,a,rfl⟩:=qq.mp b
 rw[zGd,zGe (h j a)]
 exact je _
theorem aBE{xs:List Rat}(u:Up xs)(h:∀j∈js,j<xs.length)(x:Rat):ix (iF xs js) x=R.bd js (ix xs x):=by
 unfold ix iF R.bd R.dP
 rw[di,zLm]
 congr 2
 congr 1
 refine bw λj b => ?_
 have a:=h j b
 have:=eH (x:=x) u a
 show decide (xs.getD j 0<=x)=_
 rw[zGd,zGe a,decide_eq_decide]
 exact this
end U
namespace Q
open PySem L2 Z
mutual
noncomputable def tameB:Nat->D->Bool
 |_, .non|_, .bl _=>true
 |_, .int i=>decide (i.natAbs<10^65)
 |_, .str z=>decide (z.length<=1000)
 |n+1, .tup ds=>decide (ds.length<=100)&&tamesB n ds
 |n+1, .lst ds=>decide (ds.length<=100)&&tamesB n ds
 |_,_=>false
noncomputable def tamesB:Nat->List D->Bool
 |_,[]=>true
 |n,d::ds=>tameB n d&&tamesB n ds
end
mutual
theorem tame_ok:∀(n:Nat) (d:D),tameB n d=true->okD n d=true
 |_, .non,_=>by simp only[okD]
 |_, .bl _,_=>by simp only[okD]
 |_, .int _,_=>by simp only[okD]
 |_, .str _,_=>by simp only[okD]
 |n+1, .tup ds,h=>by
  simp only[tameB,qn] at h
  simp only[okD];exact tames_ok n ds h.2
 |n+1, .lst ds,h=>by
  simp only[tameB,qn] at h
  simp only[okD];exact tames_ok n ds h.2
 |0, .tup _,h=>by simp[tameB] at h
 |0, .lst _,h=>by simp[tameB] at h
 |_, .mt _,h=>by simp[tameB] at h
 |_, .fl _,h=>by simp[tameB] at h
 |_, .st _,h=>by simp[tameB] at h
theorem tames_ok:∀(n:Nat) (ds:List D),tamesB n ds=true->okDs n ds=true
 |_,[],_=>by simp only[okDs]
 |n,d::ds,h=>by
  simp only[tamesB,qn] at h
  simp only[okDs,tame_ok n d h.1,tames_ok n ds h.2,wo]
end
mutual
theorem tame_up:∀(n:Nat) (d:D),tameB n d=true->tameB (n+1) d=true
 |_, .non,_=>by simp only[tameB]
 |_, .bl _,_=>by simp only[tameB]
 |_, .int _,h=>by simpa only[tameB] using h
 |_, .str _,h=>by simpa only[tameB] using h
 |n+1, .tup ds,h=>by
  simp only[tameB,qn] at h ⊢
  exact⟨h.1,tames_up n ds h.2⟩
 |n+1, .lst ds,h=>by
  simp only[tameB,qn] at h ⊢
  exact⟨h.1,tames_up n ds h.2⟩
 |0, .tup _,h=>by simp[tameB] at h
 |0, .lst _,h=>by simp[tameB] at h
 |_, .mt _,h=>by simp[tameB] at h
 |_, .fl _,h=>by simp[tameB] at h
 |_, .st _,h=>by simp[tameB] at h
theorem tames_up:∀(n:Nat) (ds:List D),tamesB n ds=true->tamesB (n+1) ds=true
 |_,[],_=>by simp only[tamesB]
 |n,d::ds,h=>by
  simp only[tamesB,qn] at h ⊢
  exact⟨tame_up n d h.1,tames_up n ds h.2⟩
end
theorem sS(z:Str):isD "str" (.str z)=true:=rfl
noncomputable def ltP(p q:Int×Int):Bool:=decide (p.1*q.2<q.1*p.2)
noncomputable def Sq2(t:Bool)(d:D)(ds:List D):Prop:=d=if t=true then .lst ds else .tup ds
noncomputable def aG2:Ct:=λds M k=>∃(t:Bool) (r:D) (zs:List Str) (n j:Nat),ds=[r, .int (j:Int)]/\Sq2 t r (zs.map .str)/\zs.length<=1000/\n<=1000/\(∀z∈zs,z.length=n)/\j<n/\k (.str (R.ofL (zs.map (R.atS · j)))) M
noncomputable def aGH:Ct:=λds M k=>∃(t:Bool) (r:D) (zs:List Str) (n:Nat),ds=[r]/\Sq2 t r (zs.map .str)/\zs.length<=1000/\n<=1000/\(∀z∈zs,z.length=n)/\k (.lst ((R.aC zs).map .str)) M
noncomputable def aGI:Ct:=λds M k=>∃(t:Bool) (r:D) (zs:List Str) (n:Nat),ds=[r]/\Sq2 t r (zs.map .str)/\zs.length<=1000/\n<=1000/\(∀z∈zs,z.length=n)/\k (.lst (dB (R.chg zs))) M
theorem tJ{b:Bool}{P Q:Prop}(h:b=true)(p:P):if b=true then P else Q:=by rw[if_pos h];exact p
theorem tV{b:Bool}{P Q:Prop}(h:b=false)(p:Q):if b=true then P else Q:=by rw[if_neg (by rw[h];exact zBf)];exact p
theorem qR:R.chg []=[]:=by decide +kernel
theorem f7(h:zs.length=ny-1):∀j∈R.chg zs,j<ny:=λj a=>by
 have:=R.dU zs j a
 cases zs with
 |nil=>rw[qR] at a;cases a
 |cons z zr=>rw[qp] at h this;omega
theorem gA(h:∀z∈zs,z.length=nx-1):∀j∈R.chg (R.aC zs),j<nx:=λj a=>by
 have b:=(R.n8 h).1
 have:=R.dU _ j a
 cases hc:R.aC zs with
 |nil=>rw[hc,qR] at a;cases a
 |cons z zr=>rw[hc] at b this;rw[qp] at b this;omega
theorem aHS{xs ys:List D}(zs:List Str)(hx:∀x∈xs,okD 1 x=true)(hy:∀y∈ys,okD 1 y=true):okD 3 (dZ xs ys zs)=true:=by
 have b:=m7 hx
 have a:=m7 hy
 have c:okDs 1 (zs.map D.str)=true:=m7 λd hd=>by obtain⟨z,_,rfl⟩:=qq.mp hd;rfl
 simp only[dZ,okD,okDs,b,a,c,wo]
theorem aMG{P:Bool->Mem->Prop}(h:GT X e Γ M P)(hk:∀c M1,P c M1->kb c M1):GT X e Γ M kb:=λσ G H Q d f q=>h σ G H Q d f λb G' H' M' s a=>q b G' H' M' s (hk _ _ a)
structure TT(n:Nat)(xs:List D):Prop where
 len:xs.length<=n
 each:∀x∈xs,tameB 2 x=true
theorem two{x y:D}(hx:tameB n x=true)(hy:tameB n y=true):∀d∈[x,y],tameB n d=true:=λd hd=>by
 simp only[qf,jg,or_false] at hd
 rcases hd with rfl|rfl <;> assumption
end Q
namespace Z
open PySem L2
end Z
namespace Q
open PySem L2 Z
noncomputable def sc(c:Nat)(l:List Nat):Int:=(l.map λn=>if decide (n=c)=true then (1:Int) else 0).sum
end Q
namespace HD
open PySem PySem.Spec PyProof.Rows
section
variable {K:Type}[DecidableEq K]{knd:Qc prog w K}{E:Value->Shared->Prop}{d:Addr}{xs:List (K×Addr×Value)}{k:K}
end
end HD
namespace HD
open PySem PySem.Spec PyProof.Rows
section
variable {K:Type}[DecidableEq K]{knd:Qc prog w K}{E:Value->Shared->Prop}{o:Addr}{ys:List (K×Addr×Value)}
end
end HD
namespace HD
open PySem PySem.Spec PyProof.Rows
section
variable {E:Value->Shared->Prop}{d o:Addr}{od oo:Obj}{es eo:Array DictEntry}{e2:Nat}
end
end HD
namespace Z
open PySem L2
section
end
end Z
namespace Z
open PySem L2
end Z
namespace HD
open PySem PySem.Spec PyProof.Rows
end HD
namespace Z
open PySem L2
end Z
namespace HT
open PySem PyProof.Rows
section
open PySem.SeqAt
open PySem.AutoSeq1 (wpAny_loadPart')
open PySem.MeetsSeq PySem.MeetsSeq2 PySem.MeetsSeq3
end
end HT
namespace Z
open PySem L2
section
variable {F:Fin}{body:List Stmt}
end
end Z
namespace Z
open PySem L2
noncomputable def tk(M:Mem)(b:Addr):Bool:=match M b with
 |some (.lst _)=>true
 |_=>false
noncomputable def aOP(G H:Hp)(M:Mem):Hp:=λb=>if tk M b=true then H b else G b
noncomputable def o7(G1:Hp)(M:Mem):Hp:=λb=>if tk M b=true then none else G1 b
mutual
noncomputable def noL:D->Bool
 |.non|.bl _|.int _|.str _=>true
 |.tup ds=>noLs ds
 |_=>false
noncomputable def noLs:List D->Bool
 |[]=>true
 |d::ds=>noL d&&noLs ds
end
section
variable {K:Fg}{G1:Hp}
theorem aCP{vs:List V}(hl:∀b,tk M b=true->∃ws,G1 b=some (.lst ws))(h:SqT K G1 a vs):SqT K (o7 G1 M) a vs:=by
 rcases h with h|h
 ·refine .inl ?_
  have ne:¬tk M a=true:=λt=>by
   obtain⟨ws,e⟩:=hl a t
   rcases h with h|⟨o,h⟩ <;> rw[e] at h <;> cases h
  have e:o7 G1 M a=G1 a:=by unfold o7;rw[if_neg ne]
  rcases h with h|⟨o,h⟩
  ·exact .inl (e.trans h)
  ·exact .inr ⟨o,e.trans h⟩
 ·exact .inr h
mutual
theorem den_strip(hl:∀b,tk M b=true->∃ws,G1 b=some (.lst ws)):∀(d:D) {v:V},noL d=true->Den K G1 d v->Den K (o7 G1 M) d v
 |.non,_,_,h=>by simp only[Den] at h ⊢;exact h
 |.bl _,_,_,h=>by simp only[Den] at h ⊢;exact h
 |.int _,_,_,h=>by simp only[Den] at h ⊢;exact h
 |.str _,_,_,h=>by simp only[Den] at h ⊢;exact h
 |.tup ds,_,n,h=>by
  simp only[noL] at n
  simp only[Den] at h ⊢
  obtain⟨a,vs,e,q,r⟩:=h
  exact⟨a,vs,e,aCP hl q,dens_strip hl ds n r⟩
 |.mt _,_,n,_=>by simp[noL] at n
 |.lst _,_,n,_=>by simp[noL] at n
 |.fl _,_,n,_=>by simp[noL] at n
 |.st _,_,n,_=>by simp[noL] at n
theorem dens_strip(hl:∀b,tk M b=true->∃ws,G1 b=some (.lst ws)):∀(ds:List D) {vs:List V},noLs ds=true->Dens K G1 ds vs->Dens K (o7 G1 M) ds vs
 |[],_,_,h=>by simp only[Dens] at h ⊢;exact h
 |d::ds,_,n,h=>by
  simp only[noLs,qn] at n
  simp only[Dens] at h ⊢
  obtain⟨v,r,e,a,c⟩:=h
  exact⟨v,r,e,den_strip hl d n.1 a,dens_strip hl ds n.2 c⟩
end
end
noncomputable def Ln(M:Mem)(d d':D):Prop:=∀K G H v,Rel K G H M->Den K G d v->Den K (aOP G H M) d' v
inductive LnE(M:Mem):Gm->Gm->Prop
 |n:LnE M [] []
 |s {o:Option D}{Γ Γ':Gm} (r:LnE M Γ Γ'):LnE M (o::Γ) (none::Γ')
 |c {d d':D}{Γ Γ':Gm} (h:Ln M d d') (r:LnE M Γ Γ'):LnE M (some d::Γ) (some d'::Γ')
section
variable {Γ':Gm}{d0:D}{b0:Bool}
end
end Z
namespace Z
open PySem L2
section
variable {a:Expr}
end
end Z
namespace Q
open PySem L2 Z
noncomputable def p1(x:Int):Int×Int:=(x,1)
structure Up7(xs:List Int):Prop where
 up:xs.Pairwise (· < ·)
 few:xs.length<=7
 bd:∀x∈xs, -1000000000<=x/\x<=1000000000
noncomputable def dv(a b:Int):Int:=if b<0 then -((vo a b:Nat):Int) else ((vo a b:Nat):Int)
noncomputable def lowP(a b:Int):Int×Int:=(a.fdiv (dv a b),b.fdiv (dv a b))
theorem mO{xs:List Int}(h:xs.Pairwise (· < ·))(hij:i<=j)(hj:j<xs.length):xs.getD i 0<=xs.getD j 0:=by
 rw[zGd,zGd,zGe (show i<xs.length by lia),zGe hj]
 by_cases e:i=j
 ·subst e;exact cu _
 ·exact sk (jb.mp h i j '#' hj '#')
theorem oQ{xs:List Int}(h:xs.Pairwise (· < ·))(hij:i<j)(hj:j<xs.length):xs.getD i 0<xs.getD j 0:=by
 rw[zGd,zGd,zGe (show i<xs.length by lia),zGe hj]
 exact jb.mp h i j '#' hj '#'
end Q
namespace L2
open PySem PySem.Spec PyProof.Rows
section
theorem pP(hh:A.handled=none)(it:Addr)(x:Str)(t:Tok):
  JH prog w A it [it] x.cps.size (λi v=>∃c u,x.cps[i]?=some c/\v = .str ⟨#[c]⟩ u) (λi h=>h.IsStrIter it (zg x) x t i):=by
 unfold zg
 split
 ·first|exact Q7 hh it x t|exact Jl hh it x t
 ·first|exact Jl hh it x t|exact Q7 hh it x t
end
end L2
namespace Z
open PySem L2
section
variable {a:Expr}{rest:List Expr}
end
end Z
namespace Q
open PySem L2 Z
structure Bg(p:Int×Int):Prop where
 a:p.1.natAbs<10^400
 b:p.2.natAbs<10^400
 c:p.2≠0
theorem big400{i:Int}(h:i.natAbs<10^400):i.natAbs<big:=q3 h (by unfold big;decide)
noncomputable def lowG(t b:Int):Int×Int:=(t.fdiv ((vo t b:Nat):Int),b.fdiv ((vo t b:Nat):Int))
structure Spot(xs:List Int)(v:Int×Int)(cols:List Int):Prop where
 pos:0<v.2
 sm:v.1.natAbs<10^65/\v.2.natAbs<10^65
 at_:(∃k:Nat,k<xs.length/\v=p1 (xs.getD k 0)/\cols=[(k:Int)-1,(k:Int)])\/(∃k:Int,cols=[k]/\∀i,i<xs.length->(xs.getD i 0*v.2<v.1↔(i:Int)<=k)/\xs.getD i 0*v.2≠v.1)
end Q
namespace PySem
namespace F
end F
section
variable {E:Value->Shared->Prop}
end
end PySem
namespace PySem
open PyProof.Rows
section
variable {E:Value->Shared->Prop}{I:Addr}
end
end PySem
namespace PySem
open PyProof.Rows
open Builtin Builtin.Str Builtin.Int
section
variable {E:Value->Shared->Prop}{I:Addr}
end
end PySem
namespace L2
open PySem PySem.Spec PyProof.Rows
section
end
end L2
namespace Z
open PySem L2
section
variable {a:Expr}{rest:List Expr}
end
end Z
namespace Q
open PySem L2 Z
theorem aLC{t b:Int}(hb:0<b):lowP t b=lowG t b:=by
 unfold lowP lowG dv
 rw[if_neg '#']
structure Tidy2(K:List Str)(a b:Nat):Prop where
 v:(K=[]/\a=0/\b=0)\/(K≠[]/\R.chg K=qr b/\R.chg (R.aC K)=qr a/\R.Good (a-1) K/\K.length+1=b/\2<=a/\2<=b)
theorem Tidy2.good{K:List Str}{a b:Nat}(h:Tidy2 K a b):R.Good (a-1) K/\K.length=b-1:=by
 rcases h.v with ⟨rfl,rfl,rfl⟩|⟨_,_,_,g,l,_,_⟩
 ·exact⟨λz hz=>(nomatch hz),rfl⟩
 ·exact⟨g,by lia⟩
theorem aC5(g:R.Good n zs):Tidy2 (R.b4 zs) (R.chg (R.aC zs)).length (R.chg zs).length:=by
 by_cases c:R.aF zs=[]
 ·obtain⟨b,a⟩:=R.pX (λz f=>(g z f).1) c
  refine⟨.inl ⟨?_,?_,?_⟩⟩
  ·unfold R.b4;rw[b] <;> first|rfl|(rw[a];rfl)
  ·first|(rw[a];rfl)|(rw[b];rfl)
  ·first|(rw[b];rfl)|(rw[a];rfl)
 ·obtain⟨t1,t2,t3,t4,d,e⟩:=R.aCK g c
  have h:(R.b4 zs).length=(R.chg zs).length-1:=by unfold R.b4;rw[zLm,q7]
  exact⟨.inr ⟨t3,t1,t2,t4,by lia,d,e⟩⟩
structure By(w:Nat)(p:Int×Int):Prop where
 b0:0<p.2
 b9:p.2<=9
 a20:p.1.natAbs<=20
 a0:w=3->0<p.1
end Q
namespace U
open PySem
noncomputable def inY(ws us:List Rat)(K:List Str)(x y:Rat):Bool:=R.aP K (ix ws x) (ix us y)
theorem pV{K:List Str}(h:∀z∈K,z.length=n){a u:Int}(ha:(n:Int)<=a):R.aP K a u=false:=by
 cases e:R.aP K a u with
 |false=>rfl
 |true =>
  obtain⟨g,i,z,c,b⟩:=R.aAD.mp e
  have:=h z (zMo c)
  have d:a.toNat<z.cps.toList.length:=(zGs b).1
  rw[jj] at d
  have f:z.cps.size=z.length:=rfl
  lia
structure Steps(f:Rat->Rat->Bool)(xs ys:List Rat):Prop where
 out:∀x y,ix xs x = -1\/ix xs x=(xs.length:Int)-1\/ix ys y = -1\/ix ys y=(ys.length:Int)-1->f x y=false
 at_:∀x y (i j:Nat) (hi:i<xs.length) (hj:j<ys.length),ix xs x=i->ix ys y=j->f x y=f xs[i] ys[j]
theorem aD9{us xs:List Rat}{K:List Str}(u:Up ws)(u':Up us)(hK:∀z∈K,z.length=ws.length-1)(lK:K.length=us.length-1)(v:Up xs)(v':Up ys)(hs:∀w∈ws,w∈xs)(hs':∀w∈us,w∈ys):Steps (inY ws us K) xs ys where
 out x y h:=by
  unfold inY
  rcases h with h|h|h|h
  ·rw[pM v hs h];exact R.bL '#'
  ·rw[qN v hs h]
   cases ws with
   |nil=>exact R.bL '$'
   |cons w r=>exact pV hK '$'
  ·rw[pM v' hs' h];exact R.bK '#'
  ·rw[qN v' hs' h]
   cases us with
   |nil=>exact R.bK '$'
   |cons w r=>exact R.cV (by rw[lK];simp)
 at_ x y i j hi hj e e':=by
  unfold inY
  rw[vT u v hs hi e,vT u' v' hs' hj e']
theorem Steps.pick{f g:Rat->Rat->Bool}{xs:List Rat}(hf:Steps f xs ys)(hg:Steps g xs ys)(p:Bool->Bool->Bool)(h0:p false false=false):Steps (λx y=>p (f x y) (g x y)) xs ys:=
 ⟨λx y h=>by rw[hf.out x y h,hg.out x y h];exact h0,λx y i j a b e c=>by rw[hf.at_ x y i j a b e c,hg.at_ x y i j a b e c]⟩
noncomputable def cK(f:Rat->Rat->Bool)(xs ys:List Rat):List Str:=ys.dropLast.map λy=>R.ofL (xs.dropLast.map λx=>R.sg (f x y))
theorem fI(f:Rat->Rat->Bool)(xs ys:List Rat):(cK f xs ys).length=ys.length-1:=by unfold cK;rw[zLm,q7]
theorem eX(f:Rat->Rat->Bool)(xs ys:List Rat):R.Good (xs.length-1) (cK f xs ys):=λz b=>by
 unfold cK at b
 obtain⟨y,_,rfl⟩:=qq.mp b
 refine⟨by rw[R.lJ,zLm,q7],?_⟩
 rw[wg]
 intro c d
 have a:c∈xs.dropLast.map λx=>R.sg (f x y):=d
 obtain⟨q,_,rfl⟩:=qq.mp a
 unfold R.sg;split <;> rfl
theorem aHX{f:Rat->Rat->Bool}{xs:List Rat}(hi:i+1<xs.length)(hj:j+1<ys.length):R.aP (cK f xs ys) (i:Int) (j:Int)=f xs[i] ys[j]:=by
 have a:j<ys.dropLast.length:=by rw[q7];lia
 have b:i<xs.dropLast.length:=by rw[q7];lia
 have c:(cK f xs ys)[((j:Int)).toNat]?=some (R.ofL (xs.dropLast.map λx=>R.sg (f x ys[j]))):=by
  rw[qi];unfold cK
  rw[qm,zGe a,rb];rfl
 have d:(R.ofL (xs.dropLast.map λx=>R.sg (f x ys[j]))).cps.toList[((i:Int)).toNat]?=some (R.sg (f xs[i] ys[j])):=by
  rw[qi]
  show (xs.dropLast.map λx=>R.sg (f x ys[j]))[i]?=_
  rw[qm,zGe b,rb];rfl
 rw[R.fM '#' '#' c d]
 unfold R.sg
 cases f xs[i] ys[j] <;> rfl
theorem aBP{f:Rat->Rat->Bool}{xs:List Rat}(h:Steps f xs ys)(x y:Rat):R.aP (cK f xs ys) (ix xs x) (ix ys y)=f x y:=by
 have a1:=gD xs x
 have a2:=iG xs x
 have l:=gD ys y
 have b2:=iG ys y
 by_cases c:ix xs x = -1
 ·rw[h.out x y (.inl c),c];exact R.bL '#'
 by_cases b:ix xs x=(xs.length:Int)-1
 ·rw[h.out x y (.inr (.inl b)),b]
  exact pV (λz k=>(eX f xs ys z k).1) '#'
 by_cases g:ix ys y = -1
 ·rw[h.out x y (.inr (.inr (.inl g))),g];exact R.bK '#'
 by_cases a:ix ys y=(ys.length:Int)-1
 ·rw[h.out x y (.inr (.inr (.inr a))),a]
  exact R.cV (by rw[fI];lia)
 obtain⟨i,d⟩:∃i:Nat,ix xs x=i:=⟨(ix xs x).toNat,by lia⟩
 obtain⟨j,e⟩:∃j:Nat,ix ys y=j:=⟨(ix ys y).toNat,by lia⟩
 rw[h.at_ x y i j '#' '#' d e,d,e]
 exact aHX '#' '#'
theorem aLS{xs:List Rat}(u:Up xs)(v:Up ys)(g:R.Good (xs.length-1) zs)(hz:zs.length=ys.length-1)(x y:Rat):
  inY (iF xs (R.chg (R.aC zs))) (iF ys (R.chg zs)) (R.b4 zs) x y=R.aP zs (ix xs x) (ix ys y):=by
 unfold inY
 rw[aBE u (Q.gA λz hz=>(g z hz).1),aBE v (Q.f7 hz),R.aJ7 g]
theorem yP{K:List Str}(g:R.Good n K){z:Str}(hz:K[j]?=some z):z=R.ofL ((qr n).map λ(c:Nat)=>R.sg (R.aP K (c:Int) (j:Int))):=by
 obtain⟨hl,d⟩:=g z (zMo hz)
 have e:z.cps.toList=(qr n).map λ(c:Nat)=>R.sg (R.aP K (c:Int) (j:Int)):=by
  refine xo λc => ?_
  rw[qm]
  by_cases b:c<n
  ·rw[yu b,R.f6 '#']
   have a:=R.qI g (zMo hz) b
   rw[v8,R.fM (z:=z) (c:=R.atS z c) '#' '#' (by rw[qi];exact hz) (by rw[qi];exact R.f6 '#')]
   unfold R.sg
   rcases a with a|a <;> rw[a] <;> rfl
  ·rw[jh (by rw[jj];have:z.cps.size=z.length:=rfl;lia),jh (by simpa using b)];rfl
 unfold R.ofL
 rw[<- e]
theorem aKA{K K':List Str}(g:R.Good n K)(g':R.Good n K')(hl:K.length=K'.length)(h:∀a u:Nat,a<n->u<K.length->R.aP K (a:Int) (u:Int)=R.aP K' (a:Int) (u:Int)):K=K':=by
 refine xo λj => ?_
 by_cases d:j<K.length
 ·have b:K[j]?=some K[j]:=zGe d
  have e:K'[j]?=some (K'[j]' '#'):=zGe '#'
  rw[b,e,yP g b,yP g' e]
  congr 2
  refine jc λc f => ?_
  rw[h c j (q4.mp f) d]
 ·rw[jh '#',jh '#']
theorem frow{K:List Str}(g:R.Good n K)(hK:K≠[])(hj:j<=K.length+1):(R.framed K)[j]?=some (R.ofL ((qr n).map λ(c:Nat)=>R.sg (R.aP K (c:Int) ((j:Int)-1)))):=by
 have hw:=R.cQ (λz f=>(g z f).1) hK
 have hd:∀u:Int,(∀c:Nat,R.aP K (c:Int) u=false)->R.dots n=R.ofL ((qr n).map λ(c:Nat)=>R.sg (R.aP K (c:Int) u)):=λu d=>by
  unfold R.dots
  congr 1
  refine (rf.mpr ⟨by simp,λb h => ?_⟩).symm
  obtain⟨c,_,rfl⟩:=qq.mp h
  rw[d c];rfl
 rcases ba j with rfl|i
 ·rw[R.fQ,hw,<- hd _ λc=>R.bK '#']
 ·obtain⟨k,rfl⟩:∃k,j=k+1:=⟨j-1,by lia⟩
  rw[show (((k+1:Nat):Int)-1)=(k:Int) by lia]
  by_cases a:k<K.length
  ·rw[R.cG a,zGe a,<- yP g (zGe a)]
  ·have e:k=K.length:=by lia
   rw[e,R.d7,hw,<- hd _ λc=>R.cV '#']
theorem fcol{K:List Str}(g:R.Good n K)(hK:K≠[])(hn:0<n)(hi:i<=n+1):(R.framed (R.aC K))[i]?=some (R.ofL ((qr K.length).map λ(r:Nat)=>R.sg (R.aP K ((i:Int)-1) (r:Int)))):=by
 rw[R.hV (λz e=>(g z e).1) hK hn hi]
 congr 2
 refine xo λr => ?_
 rw[qm,qm]
 by_cases a:r<K.length
 ·rw[zGe a,yu a,v8,v8]
  congr 1
  have f:K[r]?=some K[r]:=zGe a
  have hl:=(g _ (je a)).1
  unfold R.tS
  split
  ·rename_i h
   rcases h with rfl|rfl
   ·rw[R.bL '#'];rfl
   ·rw[pV (λz e=>(g z e).1) '#'];rfl
  ·rename_i h
   have d:i-1<n:=by lia
   have b:=R.qI g (je a) d
   rw[show ((i:Int)-1)=((i-1:Nat):Int) by lia,R.fM (z:=K[r]) (c:=R.atS K[r] (i-1)) '#' '#' (by rw[qi];exact f) (by rw[qi];exact R.f6 '#')]
   unfold R.sg
   rcases b with b|b <;> rw[b] <;> rfl
 ·rw[jh '#',jh (by simpa using a)];rfl
theorem aFV{f g:Nat->Bool}(h:some (R.ofL ((qr n).map λc=>R.sg (f c)))≠some (R.ofL ((qr n).map λc=>R.sg (g c)))):∃c,c<n/\f c≠g c:=by
 refine qv λq=>h ?_
 congr 2
 refine jc λc a => ?_
 have:=q4.mp a
 have e:f c=g c:=qv λz=>q ⟨c,this,z⟩
 rw[e]
theorem yB{K:List Str}{a b:Nat}(T:Q.Tidy2 K a b)(hi:i<a):∃j:Nat,j+1<b/\R.aP K ((i:Int)-1) (j:Int)≠R.aP K (i:Int) (j:Int):=by
 rcases T.v with ⟨_,rfl,_⟩|⟨h,t1,t2,g,l,o,q⟩
 ·lia
 ·have hm:i∈R.chg (R.aC K):=by rw[t2];exact q4.mpr hi
  have lc:=R.cY (λz m=>(g z m).1) h
  have f:R.aC K≠[]:=λe=>by rw[e] at lc;simp at lc;lia
  obtain⟨p,k⟩:=(R.fE f).mp hm
  rw[fcol g h '#' '#',fcol g h '#' '#'] at k
  obtain⟨c,n,d⟩:=aFV k
  refine⟨c,by lia,?_⟩
  rwa [show (((i+1:Nat):Int)-1)=(i:Int) by lia] at d
theorem aG0{K:List Str}{a b:Nat}(T:Q.Tidy2 K a b)(hj:j<b):∃i:Nat,i+1<a/\R.aP K (i:Int) ((j:Int)-1)≠R.aP K (i:Int) (j:Int):=by
 rcases T.v with ⟨_,_,rfl⟩|⟨e,t1,t2,g,l,k,n⟩
 ·lia
 ·have hm:j∈R.chg K:=by rw[t1];exact q4.mpr hj
  obtain⟨m,f⟩:=(R.fE e).mp hm
  rw[frow g e '#',frow g e '#'] at f
  obtain⟨c,h,d⟩:=aFV f
  refine⟨c,by lia,?_⟩
  rwa [show (((j+1:Nat):Int)-1)=(j:Int) by lia] at d
noncomputable def JX(f:Rat->Rat->Bool)(w:Rat):Prop:=∃y,∀x,x<w->∃x',x<=x'/\x'<w/\f x' y≠f w y
theorem p0(u:Up ws)(hi:i<ws.length){x:Rat}(hx:x<ws[i])(h:∀k (hk:k<ws.length),k<i->ws[k]<=x):ix ws x=(i:Int)-1:=
 xM u '#' '#' λk hk=>by
  constructor
  ·intro a
   have:=(oQ u hk hi).mp (by grind)
   lia
  ·intro a
   exact h k hk '#'
theorem before(u:Up ws)(hi:i<ws.length){x:Rat}(hx:x<ws[i]):∃x',x<=x'/\x'<ws[i]/\ix ws x'=(i:Int)-1:=by
 by_cases h0:i=0
 ·subst h0
  exact⟨x,by grind,hx,p0 u hi hx λk _ q=>absurd q (l0 _)⟩
 ·have b:i-1<ws.length:=by lia
  have hl:=(oQ u b hi).mpr '#'
  have le:∀k (a:k<ws.length),k<i->ws[k]<=ws[i-1]:=λk a q=>(mO u a b).mpr '#'
  by_cases hm:x<=ws[i-1]
  ·exact⟨ws[i-1],hm,hl,p0 u hi hl le⟩
  ·exact⟨x,by grind,hx,p0 u hi hx λk a q=>by have:=le k a q;grind⟩
theorem still(u:Up ws){w:Rat}(hw:w∉ws):∃x,x<w/\∀x',x<=x'->x'<w->ix ws x'=ix ws w:=by
 have a:=gD ws w
 have b:=iG ws w
 by_cases f:ix ws w = -1
 ·refine⟨w-1,by grind,λx' j k => ?_⟩
  rw[f]
  refine xM u '#' '#' λi d => ?_
  constructor
  ·intro h;have:=(eH (x:=w) u d).mp (by grind);lia
  ·intro h;lia
 ·have d:(ix ws w).toNat<ws.length:=by lia
  have hle:=(eH (x:=w) u d).mpr '#'
  have g:ws[(ix ws w).toNat]≠w:=λe=>hw (e▸je d)
  refine⟨ws[(ix ws w).toNat],by grind,λx' j k => ?_⟩
  refine xM u a b λi c => ?_
  constructor
  ·intro h;exact (eH (x:=w) u c).mp (by grind)
  ·intro h
   have:=(mO u c d).mpr '#'
   grind
theorem aGJ{us:List Rat}{K:List Str}(u:Up ws)(u':Up us)(T:Q.Tidy2 K ws.length us.length)(w:Rat):w∈ws↔JX (inY ws us K) w:=by
 constructor
 ·intro hw
  obtain⟨i,d,rfl⟩:=qj hw
  obtain⟨j,l,b⟩:=yB T d
  refine⟨us[j],λx e => ?_⟩
  obtain⟨f,c,g,a⟩:=before u d e
  refine⟨f,c,g,?_⟩
  unfold inY
  rw[a,cH u d,cH u' '#']
  exact b
 ·rintro⟨y,h⟩
  refine qv λhw => ?_
  obtain⟨x,e,k⟩:=still u hw
  obtain⟨f,c,g,a⟩:=h x e
  unfold inY at a
  rw[k f c g] at a
  exact a rfl
theorem aFQ{us:List Rat}{K:List Str}(u:Up ws)(u':Up us)(T:Q.Tidy2 K ws.length us.length)(w:Rat):w∈us↔JX (λy x=>inY ws us K x y) w:=by
 constructor
 ·intro hw
  obtain⟨j,e,rfl⟩:=qj hw
  obtain⟨i,n,b⟩:=aG0 T e
  refine⟨ws[i],λx l => ?_⟩
  obtain⟨m,c,d,a⟩:=before u' e l
  refine⟨m,c,d,?_⟩
  unfold inY
  dsimp only
  rw[a,cH u' e,cH u '#']
  exact b
 ·rintro⟨x,h⟩
  refine qv λhw => ?_
  obtain⟨y,g,k⟩:=still u' hw
  obtain⟨f,c,d,a⟩:=h y g
  unfold inY at a
  dsimp only at a
  rw[k f c d] at a
  exact a rfl
theorem aIF{us ws' us':List Rat}{K K':List Str}(u:Up ws)(v:Up us)(T:Q.Tidy2 K ws.length us.length)(u':Up ws')(v':Up us')(T':Q.Tidy2 K' ws'.length us'.length)(h:∀x y,inY ws us K x y=inY ws' us' K' x y):ws=ws'/\us=us'/\K=K':=by
 have hf:inY ws us K=inY ws' us' K':=funext λx=>funext λy=>h x y
 have d:ws=ws':=aF2 u u' λx=>by rw[aGJ u v T,aGJ u' v' T',hf]
 have c:us=us':=aF2 v v' λx=>by rw[aFQ u v T,aFQ u' v' T',hf]
 subst d c
 refine⟨rfl,rfl,?_⟩
 obtain⟨g,l⟩:=T.good
 obtain⟨e,f⟩:=T'.good
 refine aKA g e '#' λa b i j => ?_
 have:=h ws[a] us[b]
 unfold inY at this
 rwa [cH u '#',cH v '#'] at this
noncomputable def aQ:List Rat->List Rat->List Rat
 |[],ys=>ys
 |x::xs,[]=>x::xs
 |x::xs,y::ys=>if y<x then y::aQ (x::xs) ys else if x=y then x::aQ xs ys else x::aQ xs (y::ys)
termination_by xs ys=>xs.length+ys.length
theorem zW:∀xs,aQ xs []=xs
 |[]=>by rw[aQ]
 |x::xs=>by rw[aQ]
theorem zK(ys:List Rat):aQ [] ys=ys:=by rw[aQ]
theorem cW:∀(xs ys:List Rat) (a:Rat),a∈aQ xs ys↔a∈xs\/a∈ys
 |[],ys,a=>by rw[aQ];simp
 |x::xs,[],a=>by rw[aQ];simp
 |x::xs,y::ys,a=>by
  rw[aQ]
  split
  ·rw[qf,cW (x::xs) ys a,qf (a:=a) (b:=y)]
   constructor
   ·rintro (h|h|h)
    ·exact .inr (.inl h)
    ·exact .inl h
    ·exact .inr (.inr h)
   ·rintro (h|h|h)
    ·exact .inr (.inl h)
    ·exact .inl h
    ·exact .inr (.inr h)
  ·split
   ·rename_i h1 h2
    subst h2
    rw[qf,cW xs ys a,qf,qf]
    constructor
    ·rintro (h|h|h)
     ·exact .inl (.inl h)
     ·exact .inl (.inr h)
     ·exact .inr (.inr h)
    ·rintro ((h|h)|h|h)
     ·exact .inl h
     ·exact .inr (.inl h)
     ·exact .inl h
     ·exact .inr (.inr h)
   ·rw[qf,cW xs (y::ys) a,qf (a:=a) (b:=x)]
    constructor
    ·rintro (h|h|h)
     ·exact .inl (.inl h)
     ·exact .inl (.inr h)
     ·exact .inr h
    ·rintro ((h|h)|h)
     ·exact .inl h
     ·exact .inr (.inl h)
     ·exact .inr (.inr h)
termination_by xs ys=>xs.length+ys.length
theorem bX:∀{xs ys:List Rat},xs.Pairwise (· < ·)->ys.Pairwise (· < ·)->(aQ xs ys).Pairwise (· < ·)
 |[],ys,_,hy=>by rw[aQ];exact hy
 |x::xs,[],hx,_=>by rw[aQ];exact hx
 |x::xs,y::ys,hx,hy=>by
  obtain⟨e,g⟩:=ji.mp hx
  obtain⟨f,i⟩:=ji.mp hy
  rw[aQ]
  split
  ·rename_i h
   refine ji.mpr ⟨λa c => ?_,bX hx i⟩
   rcases (cW _ _ _).mp c with b|b
   ·rcases qf.mp b with rfl|b
    ·exact h
    ·have:=e a b;grind
   ·exact f a b
  ·split
   ·rename_i b h2
    subst h2
    refine ji.mpr ⟨λa c => ?_,bX g i⟩
    rcases (cW _ _ _).mp c with b|b
    ·exact e a b
    ·exact f a b
   ·rename_i b h2
    refine ji.mpr ⟨λa c => ?_,bX g hy⟩
    rcases (cW _ _ _).mp c with d|d
    ·exact e a d
    ·rcases qf.mp d with rfl|d
     ·grind
     ·have:=f a d;grind
termination_by xs ys=>xs.length+ys.length
theorem gN:∀(xs ys:List Rat),(aQ xs ys).length<=xs.length+ys.length
 |[],ys=>by rw[aQ];simp
 |x::xs,[]=>by rw[aQ];simp
 |x::xs,y::ys=>by
  rw[aQ]
  split
  ·have:=gN (x::xs) ys;simp only[qp] at *;omega
  ·split
   ·have:=gN xs ys;simp only[qp] at *;omega
   ·have:=gN xs (y::ys);simp only[qp] at *;omega
termination_by xs ys=>xs.length+ys.length
theorem sY{xs:List Rat}{f s:Nat}(hf:f<xs.length)(hs:s<ys.length):
  aQ (xs.drop f) (ys.drop s)=(if ys.getD s 0<xs.getD f 0 then ys.getD s 0 else xs.getD f 0)::aQ (xs.drop (f+if xs.getD f 0=(if ys.getD s 0<xs.getD f 0 then ys.getD s 0 else xs.getD f 0) then 1 else 0)) (ys.drop (s+if ys.getD s 0=(if ys.getD s 0<xs.getD f 0 then ys.getD s 0 else xs.getD f 0) then 1 else 0)):=by
 have ex:xs.drop f=xs.getD f 0::xs.drop (f+1):=by rw[yl hf,zGd,zGe hf];rfl
 have b:ys.drop s=ys.getD s 0::ys.drop (s+1):=by rw[yl hs,zGd,zGe hs];rfl
 generalize xs.getD f 0=x at *
 generalize ys.getD s 0=y at *
 conv=>lhs;rw[ex,b,aQ]
 by_cases h:y<x
 ·rw[if_pos h,if_pos h,if_neg (show ¬x=y by grind),if_pos rfl]
  show _=y::aQ (xs.drop f) (ys.drop (s+1))
  rw[ex]
 ·rw[if_neg h,if_neg h,if_pos rfl]
  by_cases a:x=y
  ·rw[if_pos a,if_pos a.symm]
  ·rw[if_neg a,if_neg (λe=>a e.symm)]
   show _=x::aQ (xs.drop (f+1)) (ys.drop s)
   rw[b]
structure Yd where
 ws:List Rat
 us:List Rat
 K:List Str
 uw:Up ws
 uu:Up us
 T:Q.Tidy2 K ws.length us.length
noncomputable def Yd.has(A:Yd)(x y:Rat):Bool:=inY A.ws A.us A.K x y
theorem Yd.ext'{A B:Yd}(h:∀x y,A.has x y=B.has x y):A=B:=by
 obtain⟨ws,us,K,uw,uu,T⟩:=A
 obtain⟨ws',us',K',uw',uu',T'⟩:=B
 obtain⟨rfl,rfl,rfl⟩:=aIF uw uu T uw' uu' T' h
 rfl
theorem Yd.wide(A:Yd):(∀z∈A.K,z.length=A.ws.length-1)/\A.K.length=A.us.length-1:=⟨λz hz=>(A.T.good.1 z hz).1,A.T.good.2⟩
theorem Yd.steps(A:Yd){xs:List Rat}(v:Up xs)(v':Up ys)(hs:∀w∈A.ws,w∈xs)(hs':∀w∈A.us,w∈ys):Steps A.has xs ys:=aD9 A.uw A.uu A.wide.1 A.wide.2 v v' hs hs'
noncomputable def Yd.ofG(xs ys:List Rat)(zs:List Str)(u:Up xs)(v:Up ys)(g:R.Good (xs.length-1) zs)(hz:zs.length=ys.length-1):Yd where
 ws:=iF xs (R.chg (R.aC zs))
 us:=iF ys (R.chg zs)
 K:=R.b4 zs
 uw:=xZ u (R.bV _) (Q.gA λz hz=>(g z hz).1)
 uu:=xZ v (R.bV _) (Q.f7 hz)
 T:=by
  have:=Q.aC5 g
  unfold iF
  rw[zLm,zLm]
  exact this
theorem Yd.ofG_has{xs:List Rat}(u:Up xs)(v:Up ys)(g:R.Good (xs.length-1) zs)(hz:zs.length=ys.length-1)(x y:Rat):(Yd.ofG xs ys zs u v g hz).has x y=R.aP zs (ix xs x) (ix ys y):=aLS u v g hz x y
theorem Yd.ofG_ws{xs:List Rat}(u:Up xs)(v:Up ys)(g:R.Good (xs.length-1) zs)(hz:zs.length=ys.length-1):(∀w∈(Yd.ofG xs ys zs u v g hz).ws,w∈xs)/\∀w∈(Yd.ofG xs ys zs u v g hz).us,w∈ys:=
 ⟨xD (Q.gA λz hz=>(g z hz).1),xD (Q.f7 hz)⟩
noncomputable def Yd.ofF(f:Rat->Rat->Bool)(xs ys:List Rat)(u:Up xs)(v:Up ys):Yd:=Yd.ofG xs ys (cK f xs ys) u v (eX f xs ys) (fI f xs ys)
theorem Yd.ofF_has{f:Rat->Rat->Bool}{xs:List Rat}(u:Up xs)(v:Up ys)(h:Steps f xs ys)(x y:Rat):(Yd.ofF f xs ys u v).has x y=f x y:=by
 unfold Yd.ofF
 rw[Yd.ofG_has,aBP h]
theorem mgl{vs:List Rat}:∀w∈ws,w∈aQ ws vs:=λw hw=>(cW _ _ _).mpr (.inl hw)
theorem mgr{vs:List Rat}:∀w∈vs,w∈aQ ws vs:=λw hw=>(cW _ _ _).mpr (.inr hw)
noncomputable def Yd.op(p:Bool->Bool->Bool)(A B:Yd):Yd:=Yd.ofF (λx y=>p (A.has x y) (B.has x y)) (aQ A.ws B.ws) (aQ A.us B.us) (bX A.uw B.uw) (bX A.uu B.uu)
theorem Yd.op_has{p:Bool->Bool->Bool}(h0:p false false=false)(A B:Yd)(x y:Rat):(Yd.op p A B).has x y=p (A.has x y) (B.has x y):=
 Yd.ofF_has _ _ ((A.steps (bX A.uw B.uw) (bX A.uu B.uu) mgl mgl).pick (B.steps (bX A.uw B.uw) (bX A.uu B.uu) mgr mgr) p h0) x y
structure On(Sx Sy:List Rat)(A:Yd):Prop where
 x:∀w∈A.ws,w∈Sx
 y:∀w∈A.us,w∈Sy
theorem On.op{Sx Sy:List Rat}{A B:Yd}(a:On Sx Sy A)(b:On Sx Sy B)(p:Bool->Bool->Bool):On Sx Sy (Yd.op p A B) where
 x w hw:=by
  rcases (cW _ _ _).mp ((Yd.ofG_ws (bX A.uw B.uw) (bX A.uu B.uu) (eX _ _ _) (fI _ _ _)).1 w hw) with h|h
  ·exact a.x w h
  ·exact b.x w h
 y w hw:=by
  rcases (cW _ _ _).mp ((Yd.ofG_ws (bX A.uw B.uw) (bX A.uu B.uu) (eX _ _ _) (fI _ _ _)).2 w hw) with h|h
  ·exact a.y w h
  ·exact b.y w h
theorem aIY(u:Up ws):ws.Nodup:=u.imp λh=>by grind
theorem j9{S:List Rat}(u:Up ws)(h:∀w∈ws,w∈S):ws.length<=S.length:=(aIY u).length_le_of_subset h
theorem Yd.void_iff(A:Yd):A.K=[]↔∀x y,A.has x y=false:=by
 constructor
 ·intro h x y
  unfold Yd.has inY
  rw[h]
  cases e:R.aP [] (ix A.ws x) (ix A.us y) with
  |false=>rfl
  |true=>obtain⟨_,_,z,b,_⟩:=R.aAD.mp e;cases b
 ·intro h
  rcases A.T.v with ⟨e,_,_⟩|⟨f,t1,t2,g,l,c,k⟩
  ·exact e
  ·exfalso
   obtain⟨j,d,a⟩:=yB A.T (i:=0) '!'
   have:=h (A.ws[0]' '!') (A.us[j]' '!')
   unfold Yd.has inY at this
   rw[cH A.uw,cH A.uu] at this
   rw[R.bL '!'] at a
   exact a this.symm
noncomputable def Yd.void:Yd:=⟨[],[],[], .nil, .nil,⟨.inl ⟨rfl,rfl,rfl⟩⟩⟩
theorem Yd.void_has(x y:Rat):Yd.void.has x y=false:=(Yd.void_iff _).mp rfl x y
end U
namespace Q
open PySem L2 Z
theorem aIJ(p v:Int×Int):eqD (pairD p) (pairD v)=decide (p=v):=by
 obtain⟨a,b⟩:=v
 obtain⟨x,y⟩:=p
 unfold pairD
 simp only[eqD,eqDs,wo]
 by_cases c:x=a
 ·by_cases d:y=b
  ·rw[decide_eq_true (by rw[c,d])];simp[c,d]
  ·rw[decide_eq_false (by intro e;injection e with e1 e2;exact d e2)];simp[d]
 ·rw[decide_eq_false (by intro e;injection e with e1 e2;exact c e1)];simp[c]
end Q
namespace PySem
open Builtin
structure ZAp(z TI TO i1 i2:Addr)(fp1 fp2:List Addr):Prop where
 TIz:TI≠z
 TOz:TO≠z
 i1z:i1≠z
 i2z:i2≠z
 TOi1:TO≠i1
 TOi2:TO≠i2
 i12:i1≠i2
 f1:∀b∈fp1,b≠z/\b≠TO/\b≠i2
 f2:∀b∈fp2,b≠z/\b≠TO/\b≠i1
section
variable {E:Value->Shared->Prop}{z TI TO i1 i2:Addr}{fp1 fp2:List Addr}{n1 n2 k:Nat}{P1 P2:Nat->Value->Prop}{S1 S2:Nat->Heap->Prop}{a b:Value}
theorem aEP{Q:Value->Shared->Prop}(D1:JH prog w A i1 fp1 n1 P1 S1)(D2:JH prog w A i2 fp2 n2 P2 S2)(ap:ZAp z TI TO i1 i2 fp1 fp2)(hz:IsZip s.heap z TI TO .none)(hTI:IsPair s.heap TI (.ref i1) (.ref i2))(hTO:IsPair s.heap TO a b)(s1:S1 k s.heap)(s2:S2 k s.heap)(l1:k<n1)(l2:k<n2)(hQ:∀x y h' tk,P1 k x->P2 k y->IsZip h' z TI TO (rawInt s.heap.objs.size)->IsPair h' TO x y->S1 (k+1) h'->S2 (k+1) h'->IsPair h' s.heap.objs.size x y->h'.objs.size=s.heap.objs.size+1 ->
   (∀c o,c≠z->c≠TO->c≠i1->c≠i2->s.heap.get? c=some o->h'.get? c=some o)->Q (.ref s.heap.objs.size) {s with heap:=h',toks:=tk}):
  wpAny (jt prog w) A (Builtin.«zip.__next__» ⟨[.ref z],[]⟩) (λfin s'=>∃v,fin = .done (.ret v)/\Q v s') E s:=by
 show wpAny _ _ (JE (.ref z) 2 >>= _) _ _ _
 refine qa (wc hz rfl (x := .bool false) rfl ?_)
 show wpAny _ _ (JE (.ref z) 3 >>= _) _ _ _
 refine qa (wc hz rfl (x := .ref TI) rfl ?_)
 refine qa (y0 hTI rfl ?_)
 show wpAny _ _ (v9 (.ref z) >>= _) _ _ _
 refine qa ?_
 unfold v9
 refine qa (wc hz rfl (x := .none) rfl ?_.5)
 simp only[if_true]
 refine qa (de ?_)
 refine qa (wc hz rfl (x := .ref TO) rfl ?_)
 refine qa (za hz '$' λW t C => ?_)
 replace t:IsZip W z TI TO .ellipsis:=t
 refine qa ?_
 simp only[QL,Q3,dh,mj]
 have M:∀c o,c≠z->s.heap.get? c=some o->W.get? c=some o:=λc o h e=>C.extBut _ _ h e
 refine qa (qa (Qd ?_))
 show wpAny _ _ (kj (.ref i1) >>= _) _ _ _
 refine qa (D1.item k _ _ _ l1 (D1.frame _ _ _ s1 λc f o e=>M c o (ap.f1 c f).1 e) λx V t2 px S K=>wpAny_pure ?_)
 have P:∀c o,c≠i1->W.get? c=some o->V.get? c=some o:=λc o h e=>K.extBut _ _ h e
 have n:IsPair V TO a b:=P _ _ ap.TOi1 (M _ _ ap.TOz hTO)
 refine qa (y0 n rfl ?_)
 refine qa (QV n λY i F => ?_)
 replace i:IsPair Y TO x b:=i
 have R:∀c o,c≠TO->V.get? c=some o->Y.get? c=some o:=λc o h e=>F.extBut _ _ h e
 refine qa (wpAny_letGo ?_.5)
 refine qa (qa (Qd ?_))
 show wpAny _ _ (kj (.ref i2) >>= _) _ _ _
 refine qa (D2.item k _ _ _ l2 (D2.frame _ _ _ s2 λc f o e=>R c o (ap.f2 c f).2.1 (P c o (ap.f2 c f).2.2 (M c o (ap.f2 c f).1 e))) λy T t4 py X B=>wpAny_pure ?_)
 have O:∀c o,c≠i2->Y.get? c=some o->T.get? c=some o:=λc o h e=>B.extBut _ _ h e
 have m:IsPair T TO x b:=O _ _ ap.TOi2 i
 refine qa (y0 m rfl ?_)
 refine qa (QV m λg d H => ?_)
 replace d:IsPair g TO x y:=d
 have N:∀c o,c≠TO->T.get? c=some o->g.get? c=some o:=λc o h e=>H.extBut _ _ h e
 refine qa (wpAny_letGo ?_.5.5)
 refine qa (y0 d rfl ?_)
 refine qa (wpAny_newTuple ?_)
 have I:g.objs.size=s.heap.objs.size:=by rw[H.1,B.1,F.1,K.1,C.1]
 have J:IsZip g z TI TO .ellipsis:=N _ _ ap.TOz.symm (O _ _ ap.i2z.symm (R _ _ ap.TOz.symm (P _ _ ap.i1z.symm t)))
 have l:z<g.objs.size:=qt J
 show wpAny _ _ (zu (.ref z) (.ref g.objs.size) >>= _) _ _ _
 refine qa ?_
 unfold zu
 have U:IsZip (g.push {cls := .type "tuple", data := .seq #[x,y]}) z TI TO .ellipsis:=qc _ J
 refine qa (za U '$' λh7 q r => ?_)
 replace q:IsZip h7 z TI TO (rawInt g.objs.size):=q
 refine za q '$' λu j p => ?_
 replace j:IsZip u z TI TO (rawInt g.objs.size):=j
 have up:∀c o,c≠z->g.get? c=some o->u.get? c=some o:=λc o L e=>p.extBut _ _ L (r.extBut _ _ L (qc _ e))
 have D:IsPair u g.objs.size x y:=p.extBut _ _ (xt l) (r.extBut _ _ (xt l) (qu _ rfl))
 have G:u.objs.size=g.objs.size+1:=by rw[p.1,r.1,kr]
 rw[I] at j D G
 refine wpAny_pure ⟨_,rfl,?_⟩
 show Q (.ref g.objs.size) _
 rw[I]
 refine hQ x y u _ px py j (up _ _ ap.TOz d) (D1.frame _ _ _ S λc f o e=>up c o (ap.f1 c f).1 (N c o (ap.f1 c f).2.1 (O c o (ap.f1 c f).2.2 (R c o (ap.f1 c f).2.1 e))))
  (D2.frame _ _ _ X λc f o e=>up c o (ap.f2 c f).1 (N c o (ap.f2 c f).2.1 e)) D G λc o L Z c3 c4 e=>up c o L (N c o Z (O c o c4 (R c o Z (P c o c3 (M c o L e)))))
theorem aHZ{Q:Fin->Shared->Prop}(D1:JH prog w A i1 fp1 n1 P1 S1)(ap:ZAp z TI TO i1 i2 fp1 fp2)(hz:IsZip s.heap z TI TO .none)(hTI:IsPair s.heap TI (.ref i1) (.ref i2))(s1:S1 n1 s.heap)(hE:∀h' e,(∀c o,c≠z->c≠i1->s.heap.get? c=some o->h'.get? c=some o)->(∃o,h'.get? e=some o/\o.cls = .type "StopIteration")->E (.ref e) {s with heap:=h' }):
  wpAny (jt prog w) A (Builtin.«zip.__next__» ⟨[.ref z],[]⟩) Q E s:=by
 show wpAny _ _ (JE (.ref z) 2 >>= _) _ _ _
 refine qa (wc hz rfl (x := .bool false) rfl ?_)
 show wpAny _ _ (JE (.ref z) 3 >>= _) _ _ _
 refine qa (wc hz rfl (x := .ref TI) rfl ?_)
 refine qa (y0 hTI rfl ?_)
 show wpAny _ _ (v9 (.ref z) >>= _) _ _ _
 refine qa ?_
 unfold v9
 refine qa (wc hz rfl (x := .none) rfl ?_.5)
 simp only[if_true]
 refine qa (de ?_)
 refine qa (wc hz rfl (x := .ref TO) rfl ?_)
 refine qa (za hz '$' λm b f => ?_)
 replace b:IsZip m z TI TO .ellipsis:=b
 refine qa ?_
 simp only[QL,Q3,dh,mj]
 refine qa (qa (Qd ?_))
 show wpAny _ _ (kj (.ref i1) >>= _) _ _ _
 refine qa (D1.done _ _ _ (D1.frame _ _ _ s1 λc l o e=>f.extBut _ _ (ap.f1 c l).1 e) λq e h he => ?_)
 obtain⟨n,a,i⟩:=he
 have g:IsZip q z TI TO .ellipsis:=h _ _ ap.i1z.symm b
 have j:e≠z:=λx=>by subst x;rw[g] at a;cases a;simp at i
 refine za g '$' λp _ d=>hE p e (λc o k r x=>d.extBut _ _ k (h _ _ r (f.extBut _ _ k x))) ⟨n,d.extBut _ _ j a,i⟩
theorem rL{Q:Option Value->Shared->Prop}(D1:JH prog w A.in1 i1 fp1 n1 P1 S1)(D2:JH prog w A.in1 i2 fp2 n2 P2 S2)(ap:ZAp z TI TO i1 i2 fp1 fp2)(hz:IsZip s.heap z TI TO .none)(hTI:IsPair s.heap TI (.ref i1) (.ref i2))(hTO:IsPair s.heap TO a b)(s1:S1 k s.heap)(s2:S2 k s.heap)(l1:k<n1)(l2:k<n2)(hQ:∀x y h' tk,P1 k x->P2 k y->IsZip h' z TI TO (rawInt s.heap.objs.size)->IsPair h' TO x y->S1 (k+1) h'->S2 (k+1) h'->IsPair h' s.heap.objs.size x y->h'.objs.size=s.heap.objs.size+1 ->
   (∀c o,c≠z->c≠TO->c≠i1->c≠i2->s.heap.get? c=some o->h'.get? c=some o)->Q (some (.ref s.heap.objs.size)) {s with heap:=h',toks:=tk}):
  wpAny (jt prog w) A (nt (.ref z)) Q E s:=by
 have d:s.TypeIs (.ref z) "zip" := ⟨_,hz,rfl⟩
 unfold nt
 exact qa (gv (k4 (name:=ja "__next__") d dt
  (v3 dt d Jz
   (aEP D1 D2 ap hz hTI hTO s1 s2 l1 l2 λx y h' tk l a1 a2 g h f e i j=>wpAny_pure (hQ x y h' tk l a1 a2 g h f e i j)) (Jk _))))
theorem sK{Q:Option Value->Shared->Prop}(D1:JH prog w A.in1 i1 fp1 n1 P1 S1)(ap:ZAp z TI TO i1 i2 fp1 fp2)(hz:IsZip s.heap z TI TO .none)(hTI:IsPair s.heap TI (.ref i1) (.ref i2))(s1:S1 n1 s.heap)(hQ:∀h',(∀c o,c≠z->c≠i1->s.heap.get? c=some o->h'.get? c=some o)->Q none {s with heap:=h' }):wpAny (jt prog w) A (nt (.ref z)) Q E s:=by
 have a:s.TypeIs (.ref z) "zip" := ⟨_,hz,rfl⟩
 unfold nt
 refine qa (gv (k4 (name:=ja "__next__") a dt
  (v3 dt a Jz (aHZ D1 ap hz hTI s1 λh' e f he => ?_) (Jk _))))
 obtain⟨o,g,d⟩:=he
 refine qa (mw (T := "StopIteration") (b:=true) ⟨o,g,d⟩ Vg ?_)
 exact wpAny_pure (hQ _ f)
end
end PySem
namespace PySem
open PyProof.Rows
abbrev aCM(h:Heap)(x:Str)(t:Tok):Heap:=h.push {cls := .type (zg x),data := .fields #[.str x t, .int 0 0]}
abbrev aDK(h:Heap)(x y:Str)(t u:Tok):Heap:=(aCM h x t).push {cls := .type (zg y),data := .fields #[.str y u, .int 0 0]}
abbrev aCS(h:Heap)(x y:Str)(t u:Tok):Heap:=(aDK h x y t u).push {cls := .type "tuple", data := .seq #[.ref h.objs.size, .ref (aCM h x t).objs.size]}
abbrev aCY(h:Heap)(x y:Str)(t u:Tok):Heap:=(aCS h x y t u).push {cls := .type "tuple", data := .seq #[.none, .none]}
abbrev rW(h:Heap)(x y:Str)(t u:Tok):Heap:=(aCY h x y t u).push {cls := .type "zip", data := .fields #[.none, .bool false, .bool false, .ref (aDK h x y t u).objs.size, .ref (aCS h x y t u).objs.size]}
theorem vP(x y:Str)(t u:Tok):
  Meets (Builtin.«zip.__new__» ⟨[.type "zip", .str x t, .str y u],[]⟩) (λ_ R s=>R (.ok (.ret (.ref (aCY s.heap x y t u).objs.size))) {s with heap:=rW s.heap x y t u}):=
 .of_wp λprog w A R s h=>by
  obtain⟨b,g,d,tk,os⟩:=s
  have a:=sub_zip
  wp_walk using wpAny_pyIter_strU,wpAny_pyIter_strU
  exact⟨_,rfl,h⟩
section
variable {E:Value->Shared->Prop}
theorem zU{t u:Tok}{Q:Value->Shared->Prop}(h:∀h',IsZip h' (s.heap.objs.size+4) (s.heap.objs.size+2) (s.heap.objs.size+3) .none->IsPair h' (s.heap.objs.size+2) (.ref s.heap.objs.size) (.ref (s.heap.objs.size+1)) ->
   IsPair h' (s.heap.objs.size+3) .none .none->h'.IsStrIter s.heap.objs.size (zg x) x t 0->h'.IsStrIter (s.heap.objs.size+1) (zg y) y u 0->h'.objs.size=s.heap.objs.size+5 ->
   (∀c o,s.heap.get? c=some o->h'.get? c=some o)->Q (.ref (s.heap.objs.size+4)) {s with heap:=h' }):
  wpAny (jt prog w) A (call (.type "zip") [.str x t, .str y u]) Q E s:=by
 refine callType_new F.called_zip (by decide) (F.typeCall_zip_2 _ _) (F.newCall_zip_2 _ _) (λobj=>F.args_object_init_3 obj _ _) F.entry_zip_new (vP x y t u) ?_
 have g:(aCM s.heap x t).objs.size=s.heap.objs.size+1:=kr ..
 have a:(aDK s.heap x y t u).objs.size=s.heap.objs.size+2:=by rw[kr,g]
 have b:(aCS s.heap x y t u).objs.size=s.heap.objs.size+3:=by rw[kr,a]
 have d:(aCY s.heap x y t u).objs.size=s.heap.objs.size+4:=by rw[kr,b]
 have i:(rW s.heap x y t u).objs.size=s.heap.objs.size+5:=by rw[kr,d]
 have f:(rW s.heap x y t u).get? (aCY s.heap x y t u).objs.size=some _:=qu _ rfl
 have g4:(rW s.heap x y t u).get? (aCS s.heap x y t u).objs.size=some _:=qc _ (qu _ rfl)
 have g3:(rW s.heap x y t u).get? (aDK s.heap x y t u).objs.size=some _:=qc _ (qc _ (qu _ rfl))
 have g2:(rW s.heap x y t u).get? (aCM s.heap x t).objs.size=some _:=qc _ (qc _ (qc _ (qu _ rfl)))
 have g1:(rW s.heap x y t u).get? s.heap.objs.size=some _:=qc _ (qc _ (qc _ (qc _ (qu _ rfl))))
 show _/\_
 rw[a,b,d] at f
 rw[g,a] at g3
 rw[b] at g4
 rw[g] at g2
 rw[d]
 exact⟨⟨_,f,rfl⟩,h _ f g3 g4 ⟨_,g1,rfl,rfl⟩ ⟨_,g2,rfl,rfl⟩ i λc o e=>qc _ (qc _ (qc _ (qc _ (qc _ e))))⟩
end
end PySem
namespace L2
open PySem PySem.Spec PyProof.Rows
section
noncomputable def Izs(x y:Str):It:=⟨λi H=>i<x.cps.size/\i<y.cps.size,λi H v H'=>∃T c d,H T=none/\v = .ref T/\H'=upd H T (.tup [.str ⟨#[c]⟩, .str ⟨#[d]⟩])/\x.cps[i]?=some c/\y.cps[i]?=some d,λi H=>x.cps.size=i⟩
theorem aFT{K:qe}(x y:Str)(t u:Tok)(z TI TO i1 i2:Addr)(ap:ZAp z TI TO i1 i2 [i1] [i2])(hTT:TI≠TO/\TI≠i1/\TI≠i2):
  Turn P w K (.Tuple elts kk tp) (Izs x y) [z,TI,TO,i1,i2] z (λi h=>IsZip h z TI TO .none/\IsPair h TI (.ref i1) (.ref i2)/\(∃a b,IsPair h TO a b)/\h.IsStrIter i1 (zg x) x t i/\h.IsStrIter i2 (zg y) y u i) where
 mem:=by simp
 obj:=λi h st b g=>by
  obtain⟨m,f,⟨a1,R,j⟩,⟨M,B,ah,hd1⟩,N,C,af,hd2⟩:=st
  simp only[qf,jg,or_false] at g
  rcases g with rfl|rfl|rfl|rfl|rfl
  ·exact⟨_,m,λv q=>by cases q⟩
  ·exact⟨_,f,λv q=>by cases q⟩
  ·exact⟨_,j,λv q=>by cases q⟩
  ·exact⟨M,B,λv q=>by rw[hd1] at q;cases q⟩
  ·exact⟨N,C,λv q=>by rw[hd2] at q;cases q⟩
 keep:=λi h h' st k=>by
  obtain⟨m,f,⟨a1,R,j⟩,⟨M,B,r1⟩,N,C,r2⟩:=st
  exact⟨k z '$' _ m,k TI '$' _ f,⟨a1,R,k TO '$' _ j⟩,⟨M,k i1 '$' M B,r1⟩,N,k i2 '$' N C,r2⟩
 item:=by
  intro X hP hw Z L i pins s σ H E I hf st O
  subst hP hw Z
  obtain⟨m,f,⟨a1,R,j⟩,l,D⟩:=st
  have D1:=pP (prog:=X.prog) (w:=X.w) (A:=X.A.in1) (I.ok.hd L) i1 x t
  have D2:=pP (prog:=X.prog) (w:=X.w) (A:=X.A.in1) (I.ok.hd L) i2 y u
  refine rL D1 D2 ap m f j l D O.1 O.2 λp q h1 tk hp hq ac F T ae hT ag hk => ?_
  obtain⟨c,V,Y,rfl⟩:=hp
  obtain⟨d,S,aa,rfl⟩:=hq
  refine⟨_,rfl,wpAny_letOwnedTupleGo_zip ac λG U hs => ?_⟩
  have lz:=qt m
  have ad:=qt j
  have ab:=qt f
  have l1:i1<s.heap.objs.size:=by obtain⟨o,e,_⟩:=l;exact qt e
  have l2:i2<s.heap.objs.size:=by obtain⟨o,e,_⟩:=D;exact qt e
  have up:∀b o,b≠z->h1.get? b=some o->G.get? b=some o:=λb o n e=>hs.extBut _ _ n e
  have J:G.get? s.heap.objs.size=some {cls := .type "tuple", data := .seq #[.str ⟨#[c]⟩ V, .str ⟨#[d]⟩ S]}:=up _ _ (xt lz) hT
  have k2:∀b ob,b∉[z,TI,TO,i1,i2]->s.heap.get? b=some ob->G.get? b=some ob:=λb ob g q=>by
   simp only[qf,jg,or_false,not_or] at g
   exact up b ob g.1 (hk b ob g.1 g.2.2.1 g.2.2.2.1 g.2.2.2.2 q)
  have I2:Inv X pins σ (upd H s.heap.objs.size (.tup [.str ⟨#[c]⟩, .str ⟨#[d]⟩])) {s with heap:=G,toks:=tk}:=I.turnedT k2 hf (ql _) ⟨(show 2<=sizeLine by decide),[.str ⟨#[c]⟩ V, .str ⟨#[d]⟩ S], .cons ⟨V,rfl⟩ (.cons ⟨S,rfl⟩ .nil),_,J,rfl,0,rfl⟩
  have hn:H s.heap.objs.size=none:=I.hok.fresh (ql _)
  refine⟨.ref s.heap.objs.size,_,I2,rfl,⟨s.heap.objs.size,c,d,hn,rfl,rfl,Y,aa⟩,⟨U,up _ _ ap.TIz (hk _ _ ap.TIz hTT.1 hTT.2.1 hTT.2.2 f),⟨_,_,up _ _ ap.TOz F⟩,?_,?_⟩,λb g => ?_⟩
  ·obtain⟨o,e,r⟩:=T
   exact⟨o,up _ _ ap.i1z e,r⟩
  ·obtain⟨o,e,r⟩:=ae
   exact⟨o,up _ _ ap.i2z e,r⟩
  ·rw[aV (λe => ?_)]
   ·exact (hf b g).1
   ·simp only[qf,jg,or_false] at g
    rcases g with y|y|y|y|y <;> rw[y] at e
    ·exact absurd e (qy lz)
    ·exact absurd e (qy ab)
    ·exact absurd e (qy ad)
    ·exact absurd e (qy l1)
    ·exact absurd e (qy l2)
 done:=by
  intro X hP hw Z L i pins s σ H E I hf st O
  subst hP hw Z
  obtain⟨m,f,⟨a1,R,j⟩,l,D⟩:=st
  have D1:=pP (prog:=X.prog) (w:=X.w) (A:=X.A.in1) (I.ok.hd L) i1 x t
  have hn:x.cps.size=i:=O
  subst hn
  refine sK D1 ap m f l λG hx=>⟨rfl,I.turnedL (t':=s.toks) (ch:=[z,i1]) (λb ob g q=>hx b ob (λe=>g (by simp[e])) (λe=>g (by simp[e])) q) λb g=>hf b ?_⟩
  simp only[qf,jg,or_false] at g
  rcases g with y|y <;> rw[y] <;> simp
 self:=λA i s Q E st h=>dr st.1 h
theorem aCC(n:Nat):ZAp (n+4) (n+2) (n+3) n (n+1) [n] [n+1]:=
  ⟨qy (x8 (by decide) n),qy (x8 (by decide) n),qy (vt (by decide)),qy (x8 (by decide) n),xt (vt (by decide)),xt (x8 (by decide) n),qy (vt (by decide)),
   λb a=>by rw[qk] at a;subst a;exact⟨qy (vt (by decide)),qy (vt (by decide)),qy (vt (by decide))⟩,
   λb a=>by rw[qk] at a;subst a;exact⟨qy (x8 (by decide) n),qy (x8 (by decide) n),xt (vt (by decide))⟩⟩
theorem yT(n:Nat):n+2≠n+3/\n+2≠n/\n+2≠n+1:=⟨by omega,by omega,by omega⟩
noncomputable def aO6(ta:TA):TI:=λσ H R=>ta σ H λvs H1=>∃x y,vs=[.str x, .str y]/\R (Izs x y) H1
theorem aLM{a:Expr}{p:Pos}(hg:Gl X "zip")(hm:X.mg "zip" = none)(hv:kf "zip" = some (.type "zip"))(ha:PA X [a,b] ta)(hs:starEach [a,b] X.env=[(false,eval a X.env),(false,eval b X.env)]:=by rfl)(hs2:starEach [b] X.env=[(false,eval b X.env)]:=by rfl):
  PI X (.Tuple elts kk tp) (.Call (.Name "zip" p) [a,b] [] pos) (aO6 ta):=by
 intro pins s σ H R I h
 refine Call_ (l7 I hg hm hv (vk (thn (ha pos pins s σ H _ I h) λus s1 ⟨vs,H1,I1,r1,o⟩ => ?_) (by rw[hs,hs2]) (by rw[hs2];rfl)))
 obtain⟨x,y,e,q⟩:=o
 subst e
 obtain⟨v1,v2,rfl,d,g⟩:=vals2 r1
 obtain⟨t,rfl⟩:=d
 obtain⟨u,rfl⟩:=g
 refine zU λv k i f n r l m => ?_
 have I2:Inv X pins σ H1 {s1 with heap:=v}:=I1.kept (t':=s1.toks) m
 refine dr k ?_
 refine⟨_,[s1.heap.objs.size+4,s1.heap.objs.size+2,s1.heap.objs.size+3,s1.heap.objs.size,s1.heap.objs.size+1],_,Izs x y,H1,rfl,I2,aFT x y t u (s1.heap.objs.size+4) (s1.heap.objs.size+2) (s1.heap.objs.size+3) s1.heap.objs.size (s1.heap.objs.size+1) (aCC _) (yT _),⟨k,i,⟨_,_,f⟩,n,r⟩,λc j => ?_,q⟩
 have hle:s1.heap.objs.size<=c:=by
  simp only[qf,jg,or_false] at j
  rcases j with h|h|h|h|h <;> rw[h] <;> first|exact ql _|exact Q2 _ _
 exact I1.fpOk hle (I1.hok.fresh hle)
end
end L2
namespace Z
open PySem L2
section
variable {a:Expr}{rest:List Expr}
noncomputable def fP(xs ys:List D):List D:=(xs.zip ys).map λp => .tup [p.1,p.2]
theorem aKL{K:Fg}(hl:x.cps.size=y.cps.size):YD K (Izs x y) (fP (iK x) (iK y)) G0 where
 go:=λi G H M sg a h=>by
  unfold fP at h
  rw[zLm,xk,jO,jO] at h
  exact⟨by show i<x.length;omega,by show i<y.length;omega⟩
 yld:=λi G H M v H' sg a h z=>by
  obtain⟨T,c,d,f,rfl,rfl,b,hd⟩:=z
  have st:=a.new (o := .tup [.str ⟨#[c]⟩, .str ⟨#[d]⟩]) f
  refine⟨_, .tup [.str ⟨#[c]⟩, .str ⟨#[d]⟩],st,?_,eU (SqT.of aY) (aZ jR (aZ jR bT))⟩
  unfold fP
  have e:((iK x).zip (iK y))[i]?=some (.str ⟨#[c]⟩, .str ⟨#[d]⟩):=vd.mpr ⟨by simp[iK,b],by simp[iK,hd]⟩
  rw[qm,e]
  rfl
 stop:=λi G H M sg a h=>by
  unfold fP at h
  rw[zLm,xk,jO,jO] at h
  show x.cps.size=i
  have:x.length=x.cps.size:=rfl
  have:y.length=y.cps.size:=rfl
  omega
theorem aK5{p:Pos}(hm:X.mg "zip" = none)(hv:kf "zip" = some (.type "zip"))(h:GA X [a,b] Γ M λds M1=>∃x y:Str,ds=[.str x, .str y]/\x.cps.size=y.cps.size/\ki (fP (iK x) (iK y)) M1)(hg:Gl X "zip" := by rfl)(hs:starEach [a,b] X.env=[(false,eval a X.env),(false,eval b X.env)]:=by rfl)(hs2:starEach [b] X.env=[(false,eval b X.env)]:=by rfl):
  GI X (.Tuple elts kk tp) (.Call (.Name "zip" p) [a,b] [] pos) Γ M ki:=λσ G H Rr c d q=>by
 refine lT (aLM hg hm hv pUA hs hs2) ?_
 refine h σ G H _ c d λvs G1 H1 ds M1 s1 e ⟨x,y,i,hl,g⟩ => ?_
 subst i
 obtain⟨v,u,rfl,dv,f⟩:=dens2 e
 exact⟨x,y,by rw[dv.str_,f.str_],q _ _ _ _ _ s1 (aKL hl) g⟩
end
end Z
namespace L2
open PySem PySem.Spec PyProof.Rows
section
theorem iW{b:Addr}{its:Array Value}{o:Obj}(hl:h.IsList a its)(ho:h.get? b=some o)(hc:o.cls ≠ .type "list"):a≠b:=λz=>by
 obtain⟨e,c,d,_⟩:=hl
 rw[z,ho] at c;cases c
 exact hc d
noncomputable def Izl(K:qe)(a b:Addr):It:=⟨λi H=>∃xs ys x y,SqL K H a xs/\SqL K H b ys/\xs[i]?=some x/\ys[i]?=some y,λi H v H'=>∃T x y,H T=none/\v = .ref T/\H'=upd H T (.tup [x,y])/\(∀xs,SqL K H a xs->xs[i]?=some x)/\(∀ys,SqL K H b ys->ys[i]?=some y),λi H=>∃xs,SqL K H a xs/\xs.length=i⟩
theorem aEB{K:qe}(a b z TI TO i1 i2:Addr)(ap0:ZAp z TI TO i1 i2 [i1] [i2])(hTT:TI≠TO/\TI≠i1/\TI≠i2):
  Turn P w K (.Tuple elts kk tp) (Izl K a b) [z,TI,TO,i1,i2] z (λi h=>IsZip h z TI TO .none/\IsPair h TI (.ref i1) (.ref i2)/\(∃a b,IsPair h TO a b)/\h.IsListIter i1 a i/\h.IsListIter i2 b i) where
 mem:=by simp
 obj:=λi h st b g=>by
  obtain⟨D,f,⟨a1,b1,j⟩,⟨O,l,M,hd1⟩,R,m,J,hd2⟩:=st
  simp only[qf,jg,or_false] at g
  rcases g with rfl|rfl|rfl|rfl|rfl
  ·exact⟨_,D,λv q=>by cases q⟩
  ·exact⟨_,f,λv q=>by cases q⟩
  ·exact⟨_,j,λv q=>by cases q⟩
  ·exact⟨O,l,λv q=>by rw[hd1] at q;cases q⟩
  ·exact⟨R,m,λv q=>by rw[hd2] at q;cases q⟩
 keep:=λi h h' st k=>by
  obtain⟨D,f,⟨a1,b1,j⟩,⟨O,l,r1⟩,R,m,r2⟩:=st
  exact⟨k z '$' _ D,k TI '$' _ f,⟨a1,b1,k TO '$' _ j⟩,⟨O,k i1 '$' O l,r1⟩,R,k i2 '$' R m,r2⟩
 item:=by
  intro X hP hw hK d i pins s σ H E I hf st hg
  subst hP hw hK
  obtain⟨D,f,⟨a1,b1,j⟩,C,L⟩:=st
  obtain⟨xs,ys,x,y,G,T,hx,hy⟩:=hg
  obtain⟨B,F,t,ae⟩:=I.list G
  obtain⟨N,aa,Y,ao⟩:=I.list T
  obtain⟨O,l,M,hd1⟩:=id C
  obtain⟨R,m,J,hd2⟩:=id L
  have n1:∀{a its},s.heap.IsList a its->a≠z/\a≠TO/\a≠i1/\a≠i2:=λhl=>⟨iW hl D '$',iW hl j '$',iW hl l (by rw[M];simp),iW hl m (by rw[J];simp)⟩
  have na:=n1 t.isList
  have nb:=n1 Y.isList
  have ap:ZAp z TI TO i1 i2 [i1,a] [i2,b]:=⟨ap0.TIz,ap0.TOz,ap0.i1z,ap0.i2z,ap0.TOi1,ap0.TOi2,ap0.i12,
   λc d=>by
    rcases qf.mp d with rfl|d
    ·exact ap0.f1 _ '$'
    ·rw[qk] at d;subst d;exact⟨na.1,na.2.1,na.2.2.2⟩,
   λc d=>by
    rcases qf.mp d with rfl|d
    ·exact ap0.f2 _ '$'
    ·rw[qk] at d;subst d;exact⟨nb.1,nb.2.1,nb.2.2.1⟩⟩
  have D1:=Qk (prog:=X.prog) (w:=X.w) (A:=X.A.in1) (I.ok.hd d) i1 a na.2.2.1 B.toArray
  have D2:=Qk (prog:=X.prog) (w:=X.w) (A:=X.A.in1) (I.ok.hd d) i2 b nb.2.2.2 N.toArray
  have l1:i<B.toArray.size:=by rw[qb,<- F.length];exact (zGs hx).1
  have l2:i<N.toArray.size:=by rw[qb,<- aa.length];exact (zGs hy).1
  refine rL D1 D2 ap D f j ⟨C,t.isList⟩ ⟨L,Y.isList⟩ l1 l2 λp q h1 tk hp hq ah S ab al hT ar hk => ?_
  obtain⟨u,hu,ru⟩:=F.get hx
  obtain⟨v,hv,rv⟩:=aa.get hy
  have ep:p=u:=by
   have Z:B[i]?=some p:=by simpa using hp
   rw[hu] at Z;exact (qz Z).symm
  have eq:q=v:=by
   have Z:N[i]?=some q:=by simpa using hq
   rw[hv] at Z;exact (qz Z).symm
  subst ep eq
  refine⟨_,rfl,wpAny_letOwnedTupleGo_zip ah λU ac hs => ?_⟩
  have lz:=qt D
  have aj:=qt j
  have ag:=qt f
  have af:=qt l
  have ak:=qt m
  have up:∀b o,b≠z->h1.get? b=some o->U.get? b=some o:=λb o n e=>hs.extBut _ _ n e
  have V:U.get? s.heap.objs.size=some {cls := .type "tuple", data := .seq #[p,q]}:=up _ _ (xt lz) hT
  have k2:∀b ob,b∉[z,TI,TO,i1,i2]->s.heap.get? b=some ob->U.get? b=some ob:=λb ob g q=>by
   simp only[qf,jg,or_false,not_or] at g
   exact up b ob g.1 (hk b ob g.1 g.2.2.1 g.2.2.2.1 g.2.2.2.2 q)
  have I2:Inv X pins σ (upd H s.heap.objs.size (.tup [x,y])) {s with heap:=U,toks:=tk}:=I.turnedT k2 hf (ql _) ⟨(show 2<=sizeLine by decide),[p,q], .cons ru (.cons rv .nil),_,V,rfl,0,rfl⟩
  have hn:H s.heap.objs.size=none:=I.hok.fresh (ql _)
  refine⟨.ref s.heap.objs.size,_,I2,rfl,⟨s.heap.objs.size,x,y,hn,rfl,rfl,λaq q'=>by rw[I.list_inj q' G];exact hx,λan q'=>by rw[I.list_inj q' T];exact hy⟩,⟨ac,up _ _ ap.TIz (hk _ _ ap.TIz hTT.1 hTT.2.1 hTT.2.2 f),⟨_,_,up _ _ ap.TOz S⟩,?_,?_⟩,λb g => ?_⟩
  ·obtain⟨o,e,r⟩:=ab.1
   exact⟨o,up _ _ ap.i1z e,r⟩
  ·obtain⟨o,e,r⟩:=al.1
   exact⟨o,up _ _ ap.i2z e,r⟩
  ·rw[aV (λe => ?_)]
   ·exact (hf b g).1
   ·simp only[qf,jg,or_false] at g
    rcases g with y|y|y|y|y <;> rw[y] at e
    ·exact absurd e (qy lz)
    ·exact absurd e (qy ag)
    ·exact absurd e (qy aj)
    ·exact absurd e (qy af)
    ·exact absurd e (qy ak)
 done:=by
  intro X hP hw hK d i pins s σ H E I hf st hg
  subst hP hw hK
  obtain⟨D,f,⟨a1,b1,j⟩,C,L⟩:=st
  obtain⟨xs,G,hlen⟩:=hg
  obtain⟨B,F,t,ae⟩:=I.list G
  obtain⟨O,l,M,hd1⟩:=id C
  have na:a≠i1:=iW t.isList l (by rw[M];simp)
  have ad:a≠z:=iW t.isList D '$'
  have ai:a≠TO:=iW t.isList j '$'
  obtain⟨R,m,J,hd2⟩:=id L
  have am:a≠i2:=iW t.isList m (by rw[J];simp)
  have ap:ZAp z TI TO i1 i2 [i1,a] [i2]:=⟨ap0.TIz,ap0.TOz,ap0.i1z,ap0.i2z,ap0.TOi1,ap0.TOi2,ap0.i12,
   λc d=>by
    rcases qf.mp d with rfl|d
    ·exact ap0.f1 _ '$'
    ·rw[qk] at d;subst d;exact⟨ad,ai,am⟩,ap0.f2⟩
  have D1:=Qk (prog:=X.prog) (w:=X.w) (A:=X.A.in1) (I.ok.hd d) i1 a na B.toArray
  have hn:B.toArray.size=i:=by rw[qb,<- F.length];exact hlen
  subst hn
  refine sK D1 ap D f ⟨C,t.isList⟩ λU hx=>⟨rfl,I.turnedL (t':=s.toks) (ch:=[z,i1]) (λb ob g q=>hx b ob (λe=>g (by simp[e])) (λe=>g (by simp[e])) q) λb g=>hf b ?_⟩
  simp only[qf,jg,or_false] at g
  rcases g with y|y <;> rw[y] <;> simp
 self:=λA i s Q E st h=>dr st.1 h
noncomputable def aOQ(K:qe)(ta:TA):TI:=λσ H R=>ta σ H λvs H1=>∃a b xs ys,vs=[.ref a, .ref b]/\SqL K H1 a xs/\SqL K H1 b ys/\R (Izl K a b) H1
theorem aLQ{a:Expr}{p:Pos}(hg:Gl X "zip")(hm:X.mg "zip" = none)(hv:kf "zip" = some (.type "zip"))(ha:PA X [a,b] ta)(hs:starEach [a,b] X.env=[(false,eval a X.env),(false,eval b X.env)]:=by rfl)(hs2:starEach [b] X.env=[(false,eval b X.env)]:=by rfl):
  PI X (.Tuple elts kk tp) (.Call (.Name "zip" p) [a,b] [] pos) (aOQ X.K ta):=by
 intro pins s σ H R I h
 refine Call_ (l7 I hg hm hv (vk (thn (ha pos pins s σ H _ I h) λus s1 ⟨vs,H1,I1,r1,v⟩ => ?_) (by rw[hs,hs2]) (by rw[hs2];rfl)))
 obtain⟨c,d,xs,F,e,l,i,q⟩:=v
 subst e
 obtain⟨v1,v2,rfl,f,k⟩:=vals2 r1
 cases f
 cases k
 obtain⟨B,t,j,E⟩:=I1.list l
 obtain⟨A,D,n,u⟩:=I1.list i
 refine call_zip_2 j.isList n.isList λy r g m z x C w => ?_
 have I2:Inv X pins σ H1 {s1 with heap:=y}:=I1.kept (t':=s1.toks) w
 refine dr r ?_
 refine⟨_,[s1.heap.objs.size+4,s1.heap.objs.size+2,s1.heap.objs.size+3,s1.heap.objs.size,s1.heap.objs.size+1],_,Izl X.K c d,H1,rfl,I2,aEB c d (s1.heap.objs.size+4) (s1.heap.objs.size+2) (s1.heap.objs.size+3) s1.heap.objs.size (s1.heap.objs.size+1) (aCC _) (yT _),⟨r,g,⟨_,_,m⟩,z,x⟩,λc o => ?_,q⟩
 have hle:s1.heap.objs.size<=c:=by
  simp only[qf,jg,or_false] at o
  rcases o with h|h|h|h|h <;> rw[h] <;> first|exact ql _|exact Q2 _ _
 exact I1.fpOk hle (I1.hok.fresh hle)
end
end L2
namespace Z
open PySem L2
section
variable {a:Expr}{rest:List Expr}
theorem aK7{K:Fg}{a b:Addr}{vs us:List V}{es:List D}(s1:SqL K G0 a vs)(d1:Dens K G0 ds vs)(s2:SqL K G0 b us)(d2:Dens K G0 es us)(hl:ds.length=es.length):YD K (Izl K a b) (fP ds es) G0 where
 go:=λi G H M sg f h=>by
  unfold fP at h
  rw[zLm,xk] at h
  have j:=d1.len
  have q:=d2.len
  exact⟨vs,us,vs[i]' '!',us[i]' '!',f.same.seq (sg.seq s1),f.same.seq (sg.seq s2),zGe _,zGe _⟩
 yld:=λi G H M v H' sg f h z=>by
  obtain⟨T,x,y,m,rfl,rfl,p,l⟩:=z
  obtain⟨c,g,k⟩:=d1.get' (p vs (f.same.seq (sg.seq s1)))
  obtain⟨d,hd,n⟩:=d2.get' (l us (f.same.seq (sg.seq s2)))
  have st:=f.new (o := .tup [x,y]) m
  refine⟨_, .tup [c,d],st,?_,eU (SqT.of aY) (aZ ((k.up sg).up st.gg) (aZ ((n.up sg).up st.gg) bT))⟩
  unfold fP
  have e:(ds.zip es)[i]?=some (c,d):=vd.mpr ⟨g,hd⟩
  rw[qm,e]
  rfl
 stop:=λi G H M sg f h=>by
  unfold fP at h
  rw[zLm,xk] at h
  have j:=d1.len
  exact⟨vs,f.same.seq (sg.seq s1),by omega⟩
theorem aLN{p:Pos}(hm:X.mg "zip" = none)(hv:kf "zip" = some (.type "zip"))(h:GA X [a,b] Γ M λds M1=>∃xs ys,ds=[.lst xs, .lst ys]/\xs.length=ys.length/\ki (fP xs ys) M1)(hg:Gl X "zip" := by rfl)(hs:starEach [a,b] X.env=[(false,eval a X.env),(false,eval b X.env)]:=by rfl)(hs2:starEach [b] X.env=[(false,eval b X.env)]:=by rfl):
  GI X (.Tuple elts kk tp) (.Call (.Name "zip" p) [a,b] [] pos) Γ M ki:=λσ G H Rr g m q=>by
 refine lT (aLQ hg hm hv pUA hs hs2) ?_
 refine h σ G H _ g m λvs G1 H1 ds M1 s1 j ⟨xs,ys,r,hl,l⟩ => ?_
 subst r
 obtain⟨v,u,rfl,dv,k⟩:=dens2 j
 obtain⟨c,vs,ev,f,i⟩:=dv.lst_
 obtain⟨d,us,o,e,n⟩:=k.lst_
 exact⟨c,d,vs,us,by rw[ev,o],SqL.of (s1.rel.same _ _ f),SqL.of (s1.rel.same _ _ e),q _ _ _ _ _ s1 (aK7 (SqL.of f) i (SqL.of e) n hl) l⟩
end
end Z
namespace Q
open PySem L2 Z
theorem iN{α:Type}(l:List α)(n:Nat)(h:n<=l.length):cutD l (some (n:Int)) none=l.drop n:=by
 unfold cutD
 rw[HT.aHG,show HT.sIx l.length 0 (some (n:Int))=min n l.length from HT.uS _ _ n,Ji h]
 exact pj (by rw[ju];exact ql _)
end Q
namespace Z
open PySem L2
theorem aEH{P:D->Mem->Prop}(h:GE X e Γ M P)(hk:∀d M1,P d M1->k d M1):GE X e Γ M k:=λσ G H Q b f q=>h σ G H Q b f λv G' H' d M' s a c=>q v G' H' d M' s a (hk d M' c)
end Z
namespace Q
open PySem L2 Z
noncomputable def xJ(K:List Str)(cs:List Int)(u:Int):Str:=R.ofL (cs.map λc=>R.sg (R.aP K c u))
noncomputable def aFD:Ct:=λds M k=>∃(x y:D) (K:List Str) (cs:List Int) (u:Int),ds=[.tup [x,y, .tup (K.map .str)], .lst (cs.map .int), .int u]/\(∀z∈K,z.length<=1000)/\cs.length<=300/\k (.str (xJ K cs u)) M
noncomputable def oD(ps:List Str)(p:Nat×Nat):Bool:=ps.any λq=>decide (q=(⟨#[p.1,p.2]⟩:Str))
noncomputable def uD(ps:List Str)(a b:Str):Str:=R.ofL ((a.cps.toList.zip b.cps.toList).map λp=>R.sg (oD ps p))
noncomputable def aC4:Ct:=λds M k=>∃(a b:Str) (ps:List Str),ds=[.str a, .str b, .tup (ps.map .str)]/\a.length=b.length/\a.length<=900/\ps.length<=10/\k (.str (uD ps a b)) M
theorem aH9(ps:List Str)(q:Str):((ps.map D.str).any λx=>eqD x (.str q))=ps.any λp=>decide (p=q):=by
 rw[List.any_map]
 congr 1
end Q
namespace L2
open PySem PySem.Spec PyProof.Rows
noncomputable def aL9(K:qe)(J:It)(cap:List Nat)(tt:TT)(te:TE)(σ:St)(H1:Hp)(Q:VK)(D:Addr):Prop:=∃W:Nat->Nat->List V->Hp->Prop,(∃m,W 0 m [] (upd H1 D (.lst [])))/\∀i m ys H2,W i m ys H2 ->
 H2 D=some (.lst ys)/\((J.stop i H2/\Q (.ref D) H2)\/(J.go i H2/\ys.length<sizeLine/\∀x H3,J.yld i H2 x H3->∃p a b,x = .ref p/\SqT K H3 p [a,b] /\
  tt (some a::some b::cap.map λk=>(σ[k]?).join) H3 λc H4=>if c=true then te (some a::some b::cap.map λk=>(σ[k]?).join) H4 λy H5=>H5 D=some (.lst ys)/\∃m',m'<m/\W (i+1) m' (ys++[y]) (upd H5 D (.lst (ys++[y])))
   else ∃m',m'<m/\W (i+1) m' ys H4))
noncomputable def tN(K:qe)(wi:TI)(cap:List Nat)(tt:TT)(te:TE):TE:=λσ H Q=>wi σ H λJ H1=>∀D,H1 D=none->aL9 K J cap tt te σ H1 Q D
theorem aCR{cap:List Nat}(hc:X.calm=true)(hkind:scope.kind = .function)(hnames:∀y∈scope.names,y.2 = .local->scope.names.lookup y.1=some .local)(hx1:Loc (yw scope X.env) x1)(hxf1:scope.names.lookup x1=some .cell\/(yw scope X.env).names.lookup x1=some .local)(hx2:Loc (yw scope X.env) x2)(hxf2:scope.names.lookup x2=some .cell\/(yw scope X.env).names.lookup x2=some .local)(hNc:(x1::x2::ns).Nodup)(hlen:cap.length=ns.length)(hcap:∀(j k:Nat) (nm:Str),cap[j]?=some k->ns[j]?=some nm->X.N[k]?=some nm/\(X.env.scope.names.lookup nm=some .cell\/X.env.scope.names.lookup nm=some .free))(hns:∀nm∈ns,(nm,jo)∈scope.names/\(nm,km)∉scope.names)(hnsk:∀nm∈ns,scope.names.lookup nm=some .free)(hfree:∀y∈scope.names,y.2 = .free->X.env.scope.names.lookup y.1=some .cell\/X.env.scope.names.lookup y.1=some .free)(hi:PI X (.Tuple [.Name x1 px1, .Name x2 px2] kk tp) iter wi)(ht:∀cs C s₀ H₀ fp,PIf '&' ifs tt)(he:∀cs C s₀ H₀ fp,PE '&' elt te)(hs:∀v,foldedSetIterable iter X.env v=pure v:=by intro _;rfl){use:Option (Value->Sem Unit)}{Q:VK}(I:Inv X pins σ H s)(h:tN X.K wi cap tt te σ H Q)(hfin:∀(D C:Addr) (H':Hp) (s':Shared),Inv X pins σ H' s'->Q (.ref D) H'->(∃m,s'.heap.Ns C m)->CFree X pins H' C->nh X.w.4 X.A X.xe use Q' (.ref D) C (.ok .next) s'):
  wpAny X.w.4 X.A (dm (.ListComp elt [⟨.Tuple [.Name x1 px1, .Name x2 px2] kk tp,iter,ifs,0⟩] scope pos) scope X.env ip (Ja []) false (eval iter X.env) use) Q' X.xe s:=by
 have d:∀{n l o g f}{x:Str},(scope.names.lookup x=some .cell\/(yw scope X.env).names.lookup x=some .local)->(aN X scope n l ([x1,x2]++ns) o g f).fn x=true\/(yw scope X.env).names.lookup x=some .local:=λh=>h.elim (λz => .inl (by show (scope.names.lookup _==some .cell)=true;rw[z];rfl)) .inr
 refine n0 (xs:=[x1,x2]) (un:=λv H us=>∃p a b,us=[a,b]/\v = .ref p/\SqT X.K H p [a,b]) (gT:=aAB X.K 2 (xK (kX 0) (xK (kX 1) aGY))) hc hkind hnames (λn l o g f=>zO (X:=aN X scope n l ([x1,x2]++ns) o g f) hc (oR (mX hNc rfl hx1 (d hxf1)) (oR (mX hNc rfl hx2 (d hxf2)) vC rfl) rfl) rfl rfl) (λv H us os rest u E => ?_) hlen hcap hns hnsk hfree (aB6 hi) ht he hs I ⟨_,λJ H1 r D B => ?_,h⟩ hfin
 ·obtain⟨p,a,b,rfl,rfl,sq⟩:=u
  match os,E with
  |[_,_],_=>exact⟨rfl,p,[a,b],rfl,sq,rfl,_,_,rfl,_,_,rfl,rfl,rfl,rfl⟩
 ·obtain⟨W,F,st⟩:=r D B
  exact⟨W,F,λi m q H2 w=>⟨(st i m q H2 w).1,(st i m q H2 w).2.imp id λ⟨a,b,c⟩=>⟨a,b,λv H3 y=>let ⟨p,u,z,e,sq,t⟩:=c v H3 y;⟨[u,z],⟨p,u,z,rfl,e,sq⟩,t⟩⟩⟩⟩
theorem aHR{cap:List Nat}(hc:X.calm=true)(hkind:scope.kind = .function)(hnames:∀y∈scope.names,y.2 = .local->scope.names.lookup y.1=some .local)(hx1:Loc (yw scope X.env) x1)(hxf1:scope.names.lookup x1=some .cell\/(yw scope X.env).names.lookup x1=some .local)(hx2:Loc (yw scope X.env) x2)(hxf2:scope.names.lookup x2=some .cell\/(yw scope X.env).names.lookup x2=some .local)(hNc:(x1::x2::ns).Nodup)(hlen:cap.length=ns.length)(hcap:∀(j k:Nat) (nm:Str),cap[j]?=some k->ns[j]?=some nm->X.N[k]?=some nm/\(X.env.scope.names.lookup nm=some .cell\/X.env.scope.names.lookup nm=some .free))(hns:∀nm∈ns,(nm,jo)∈scope.names/\(nm,km)∉scope.names)(hnsk:∀nm∈ns,scope.names.lookup nm=some .free)(hfree:∀y∈scope.names,y.2 = .free->X.env.scope.names.lookup y.1=some .cell\/X.env.scope.names.lookup y.1=some .free)(hi:PI X (.Tuple [.Name x1 px1, .Name x2 px2] kk tp) iter wi)(ht:∀cs C s₀ H₀ fp,PIf '&' ifs tt)(he:∀cs C s₀ H₀ fp,PE '&' elt te)(hs:∀v,foldedSetIterable iter X.env v=pure v:=by intro _;rfl):
  PE X (.ListComp elt [⟨.Tuple [.Name x1 px1, .Name x2 px2] kk tp,iter,ifs,0⟩] scope pos) (tN X.K wi cap tt te):=by
 intro pins s σ H Q I h
 rw[eval_ListComp]
 refine aCR hc hkind hnames hx1 hxf1 hx2 hxf2 hNc hlen hcap hns hnsk hfree hi ht he hs (use:=none) I h λD C H' d J q ⟨m,hn⟩ a=>⟨m,hn,λg c => ?_⟩
 exact⟨.ref D,H',J.turned (t':=d.toks) (it:=C) (λb o f e=>(c.2 b f).trans e) a.hn a.hL (.inr a.h1) a.h2 a.h3,rfl,q⟩
noncomputable def qT(sc scope:Scope)(x1 x2:Str)(ns:List Str)(cap:List Nat)(N:List Str):Bool:=gF sc scope x1 ns cap N&&gF sc scope x2 ns cap N&&decide (x1≠x2)
theorem aDT{sc:Scope}(ns:List Str)(cap:List Nat)(hc:X.calm=true)(hsc:X.env.scope=sc)(hN:X.N=N)(ok:qT sc scope x1 x2 ns cap N=true)(hi:PI X (.Tuple [.Name x1 px1, .Name x2 px2] kk tp) iter wi)(ht:∀cs C s₀ H₀ fp,PIf '&' ifs tt)(he:∀cs C s₀ H₀ fp,PE '&' elt te)(hs:∀v,foldedSetIterable iter X.env v=pure v:=by intro _;rfl):
  PE X (.ListComp elt [⟨.Tuple [.Name x1 px1, .Name x2 px2] kk tp,iter,ifs,0⟩] scope pos) (tN X.K wi cap tt te):=by
 subst hsc hN
 unfold qT at ok
 simp only[qn,decide_eq_true_eq] at ok
 obtain⟨⟨d,c⟩,b⟩:=ok
 have k:=gI d
 have a:=gI c
 have nd:(x1::x2::ns).Nodup:=by
  obtain⟨a1,a2⟩:=jl.mp k.hNc
  obtain⟨e,b2⟩:=jl.mp a.hNc
  refine jl.mpr ⟨λh => ?_,a.hNc⟩
  rcases qf.mp h with h|h
  ·exact b h
  ·exact a1 h
 have one:∀{x:Str},(scope.names.lookup x=some .local\/scope.names.lookup x=some .cell)->Loc (yw scope X.env) x:=λh=>by
  rcases h with z|z
  ·exact .inl (vx z)
  ·exact .inr (dF z)
 have two:∀{x:Str},(scope.names.lookup x=some .local\/scope.names.lookup x=some .cell)->scope.names.lookup x=some .cell\/(yw scope X.env).names.lookup x=some .local:=λh=>by
  rcases h with z|z
  ·exact .inr (vx z)
  ·exact .inl z
 exact aHR hc k.hkind k.hnames (one k.hx) (two k.hx) (one a.hx) (two a.hx) nd k.hlen k.hcap k.hns k.hnsk k.hfree hi ht he hs
end L2
namespace Z
open PySem L2
theorem EnvR.cap2{K:Fg}(h:EnvR K G Γ σ){v1 v2:V}(e1:Den K G d1 v1)(e2:Den K G d2 v2)(cap:List Nat):EnvR K G (some d1::some d2::cap.map λk=>(Γ[k]?).join) (some v1::some v2::cap.map λk=>(σ[k]?).join):=by
 have c:=h.cap e2 cap
 refine⟨by simp,λi a z => ?_⟩
 cases i with
 |zero=>simp at z;subst z;exact⟨v1,rfl,e1⟩
 |succ i=>exact c.get i a z
noncomputable def Comp2(X:Cx)(x1 x2:Str)(ns:List Str)(cap:List Nat)(elt:Expr)(ifs:List Expr)(scope:Scope)(Γ:Gm)(k:D->Mem->Prop)(ds:List D)(M1:Mem):Prop:=
 ds.length<=sizeLine/\(∀d∈ds,∃d1 d2,d = .tup [d1,d2])/\∃I:Nat->List D->Mem->Prop,I 0 [] M1 /\
  (∀i d1 d2 acc M2,ds[i]?=some (.tup [d1,d2])->I i acc M2->∀cs C s₀ H₀ fp,GIf '&' ifs (some d1::some d2::cap.map λk=>(Γ[k]?).join) M2 λc M3 =>
   if c=true then (∀cs C s₀ H₀ fp,GE '&' elt (some d1::some d2::cap.map λk=>(Γ[k]?).join) M3 (λy M4=>I (i+1) (acc++[y]) M4)) else I (i+1) acc M3) /\
  (∀acc M2,I ds.length acc M2->∀a,M2 a=none->k (.mt a) (bG M2 a (.lst acc)))
theorem aK0{cap:List Nat}(h:GI X (.Tuple [.Name x1 px1, .Name x2 px2] kk tp) iter Γ M (Comp2 X x1 x2 ns cap elt ifs scope Γ k)){Q:VK}(en:EnvR X.K G Γ σ)(rl:Rel X.K G H M)(q:Cont X.K M k G H Q):
  tN X.K (tUI X (.Tuple [.Name x1 px1, .Name x2 px2] kk tp) iter) cap (λσ H Q=>∀cs C s₀ H₀ fp,vF '&' ifs σ H Q) (λσ H Q=>∀cs C s₀ H₀ fp,tU '&' elt σ H Q) σ H Q:=by
 refine h σ G H _ en rl λJ G1 H1 ds M1 s1 yd ⟨hlen,f,I,h0,g,l⟩ A hA => ?_
 have a:=s1.rel.free hA
 refine⟨λi m u H2=>m=ds.length-i/\i<=ds.length/\∃G2 M2 acc,Stp X.K G1 H1 M1 G2 H2 M2/\H2 A=some (.lst u)/\G2 A=none/\M2 A=none/\Dens X.K G2 acc u/\I i acc M2/\acc.length<=i,
  ⟨ds.length,by simp,vq _,G1,M1,[],(Stp.refl s1.rel).aside hA a.1 a.2,aY,a.1,a.2,bT,h0,ql _⟩,?_⟩
 rintro i m u H2 ⟨rfl,hi,G2,M2,acc,s2,hl,B,hm,n,L,w⟩
 refine⟨hl,?_⟩
 by_cases b:i<ds.length
 ·refine .inr ⟨yd.go i G2 H2 M2 s2.gg s2.rel b,by rw[<- n.len];omega,λx H3 y => ?_⟩
  obtain⟨G3,d,s3,hd,ex⟩:=yd.yld i G2 H2 M2 x H3 s2.gg s2.rel b y
  obtain⟨l3,g3,O⟩:=s3.fr A _ hl B hm
  obtain⟨W,Z,T⟩:=f d (zMo hd)
  subst T
  obtain⟨p,vs,ev,sq,t⟩:=ex.tup_
  obtain⟨S,V,evs,Y,db⟩:=dens2 t
  subst evs
  refine⟨p,S,V,ev,R.dC s3.rel.same sq,?_⟩
  intro cs C s₀ H₀ fp
  have j:=((en.up s1.gg).up (s2.trans s3).gg).cap2 Y db cap
  refine g i W Z acc M2 hd L cs C s₀ H₀ fp _ G3 H3 _ j s3.rel λc G4 H4 M4 s4 o => ?_
  obtain⟨z,g4,v⟩:=s4.fr A _ l3 g3 O
  cases c with
  |true =>
   rw[if_pos rfl] at o ⊢
   intro cs C s₀ H₀ fp
   refine o cs C s₀ H₀ fp _ G4 H4 _ (j.up s4.gg) s4.rel λy G5 H5 U M5 s5 e5 N => ?_
   obtain⟨P,F,E⟩:=s5.fr A _ z g4 v
   have r:=((s2.trans s3).trans s4).trans s5
   exact⟨P,ds.length-(i+1),by omega,rfl,b,G5,M5,acc++[U],r.aside hA F E,aY,F,E,(n.up ((s3.trans s4).trans s5).gg).append (aZ e5 bT),N,by rw[qh,jm];omega⟩
  |false =>
   rw[if_neg zBf] at o ⊢
   exact⟨ds.length-(i+1),by omega,rfl,b,G4,M4,acc,(s2.trans s3).trans s4,z,g4,v,n.up (s3.trans s4).gg,o,by omega⟩
 ·have e:i=ds.length:=by omega
  subst e
  exact .inl ⟨yd.stop _ G2 H2 M2 s2.gg s2.rel rfl,q _ _ _ _ _ (s1.trans (s2.track hA B hl n)) nE (l acc M2 L A hm)⟩
section
theorem aH3{sc:Scope}(ns:List Str)(cap:List Nat)(h:GI X (.Tuple [.Name x1 px1, .Name x2 px2] kk tp) iter Γ M (Comp2 X x1 x2 ns cap elt ifs scope Γ k))(hsc:X.env.scope=sc:=by rfl)(hN:X.N=N:=by rfl)(ok:qT sc scope x1 x2 ns cap N=true:=by first|decide +kernel|kernel_rfl!)(hc:X.calm=true:=by rfl)(hs:∀v,foldedSetIterable iter X.env v=pure v:=by intro _;rfl):
  GE X (.ListComp elt [⟨.Tuple [.Name x1 px1, .Name x2 px2] kk tp,iter,ifs,0⟩] scope pos) Γ M k:=λσ G H Q b c q =>
 cM (aDT ns cap hc hsc hN ok pUI (λcs C s₀ H₀ a pins s σ H Q I h=>h cs C s₀ H₀ a pins s I) (λcs C s₀ H₀ a pins s σ H Q I h=>h cs C s₀ H₀ a pins s I) hs) (aK0 h b c q)
noncomputable def aD6(X:Cx)(x1 x2:Str)(ns:List Str)(cap:List Nat)(elt:Expr)(ifs:List Expr)(scope:Scope)(Γ:Gm)(k:D->Mem->Prop)(ds:List D)(M1:Mem):Prop:=
 ds.length<=sizeLine/\(∀d∈ds,∃d1 d2,d = .tup [d1,d2])/\∃I:Nat->List D->Mem->Prop,I 0 [] M1 /\
  (∀i d1 d2 acc M2,ds[i]?=some (.tup [d1,d2])->I i acc M2->∀cs C s₀ H₀ fp,GIf '&' ifs (some d1::some d2::cap.map λk=>(Γ[k]?).join) M2 λc M3 =>
   if c=true then (∀cs C s₀ H₀ fp,GE '&' elt (some d1::some d2::cap.map λk=>(Γ[k]?).join) M3 (λy M4=>I (i+1) (acc++[y]) M4)) else I (i+1) acc M3) /\
  (∀acc M2,I ds.length acc M2->k (.lst acc) M2)
theorem vY{sc:Scope}(ns:List Str)(cap:List Nat)(h:GI X (.Tuple [.Name x1 px1, .Name x2 px2] kk tp) iter Γ M (aD6 X x1 x2 ns cap elt ifs scope Γ k))(hsc:X.env.scope=sc:=by rfl)(hN:X.N=N:=by rfl)(ok:qT sc scope x1 x2 ns cap N=true:=by first|decide +kernel|kernel_rfl!)(hc:X.calm=true:=by rfl)(hs:∀v,foldedSetIterable iter X.env v=pure v:=by intro _;rfl):
  GE X (.ListComp elt [⟨.Tuple [.Name x1 px1, .Name x2 px2] kk tp,iter,ifs,0⟩] scope pos) Γ M k:=by
 refine fD (aH3 ns cap ?_ hsc hN ok hc hs)
 intro σ G H Rr f g q
 refine h σ G H Rr f g λJ G1 H1 ds M1 s1 yd ⟨hl,b,I,h0,c,d⟩ => ?_
 exact q J G1 H1 ds M1 s1 yd ⟨hl,b,I,h0,c,λacc M2 i a e=>⟨a,acc,M2,rfl,aG,e,(Le.refl M2).upd e,d acc M2 i⟩⟩
theorem aEA{cap:List Nat}(hl:ds.length<=sizeLine)(hpair:∀d∈ds,∃d1 d2,d = .tup [d1,d2])(I:Nat->List D->Mem->Prop)(h0:I 0 [] M1)(hs:∀i d1 d2 acc M2,ds[i]?=some (.tup [d1,d2])->I i acc M2->∀cs C s₀ H₀ fp,GIf '&' ifs (some d1::some d2::cap.map λk=>(Γ[k]?).join) M2 λc M3 =>
   if c=true then (∀cs C s₀ H₀ fp,GE '&' elt (some d1::some d2::cap.map λk=>(Γ[k]?).join) M3 (λy M4=>I (i+1) (acc++[y]) M4)) else I (i+1) acc M3)(hd:∀acc M2,I ds.length acc M2->k (.lst acc) M2):aD6 X x1 x2 ns cap elt ifs scope Γ k ds M1:=⟨hl,hpair,I,h0,hs,hd⟩
end
end Z
namespace Q
open PySem L2 Z
theorem xT{xs ys:List D}(h:d∈fP xs ys):∃d1 d2,d = .tup [d1,d2]:=by
 unfold fP at h
 obtain⟨p,_,rfl⟩:=qq.mp h
 exact⟨_,_,rfl⟩
theorem aDR{xs ys:List D}(h:(fP xs ys)[i]?=some (.tup [d1,d2])):xs[i]?=some d1/\ys[i]?=some d2:=by
 unfold fP at h
 rw[qm] at h
 obtain⟨p,a,e⟩:=cn.mp h
 injection e with e
 injection e with e1 e
 injection e with e2 _
 have:=vd.mp (show (xs.zip ys)[i]?=some (p.1,p.2) from a)
 rw[e1,e2] at this
 exact this
theorem aID{a b:Str}(h:(fP (iK a) (iK b))[i]?=some (.tup [d1,d2])):∃c e,(a.cps.toList.zip b.cps.toList)[i]?=some (c,e)/\d1 = .str ⟨#[c]⟩/\d2 = .str ⟨#[e]⟩:=by
 obtain⟨d,f⟩:=aDR h
 unfold iK at d f
 rw[qm] at d f
 obtain⟨c,g,k⟩:=cn.mp d
 obtain⟨e,he,j⟩:=cn.mp f
 exact⟨c,e,vd.mpr ⟨g,he⟩,k.symm,j.symm⟩
theorem aH4(l:List Str):okDs 0 (l.map D.str)=true:=m7 λd hd=>by obtain⟨z,_,rfl⟩:=qq.mp hd;rfl
end Q
namespace Q
open PySem L2 Z U
noncomputable def pq(q:Rat):Int×Int:=(q.num,(q.den:Int))
noncomputable def gL(q:Rat):D:=pairD (pq q)
noncomputable def aJ(xs:List Rat):List D:=xs.map gL
theorem aI(xs:List Rat):(aJ xs).length=xs.length:=zLm ..
structure Bq(q:Rat):Prop where
 a:q.num.natAbs<10^400
 b:q.den<10^400
theorem Bq.g{q:Rat}(h:Bq q):Bg (pq q):=⟨h.a,by show ((q.den:Int)).natAbs<_;rw[fk];exact h.b,by show (q.den:Int)≠0;have:=q.den_nz;omega⟩
noncomputable def BqL(xs:List Rat):Prop:=∀x∈xs,Bq x
theorem aJC(a b:Rat):ltP (pq a) (pq b)=decide (a<b):=by
 unfold ltP pq
 rw[decide_eq_decide]
 exact (Rat.lt_iff a b).symm
theorem aNN{a b:Rat}:pq a=pq b↔a=b:=by
 constructor
 ·intro e
  unfold pq at e
  injection e with e1 e2
  exact Rat.ext e1 '!'
 ·intro e;rw[e]
theorem tE(a b:Rat):eqD (gL a) (gL b)=decide (a=b):=by
 unfold gL
 rw[aIJ,decide_eq_decide,aNN]
theorem aM7(t b:Int)(hb:b≠0):lowP t b=pq (vb t b):=by
 obtain⟨h1,h2⟩:=Num.aFZ t b hb
 unfold pq
 rw[<- h1,<- h2]
 rfl
noncomputable def aJQ:Ct:=λds M k=>∃p q:Int×Int,ds=[pairD p,pairD q]/\(p.1.natAbs<10^400/\p.2.natAbs<10^400)/\(q.1.natAbs<10^400/\q.2.natAbs<10^400)/\k (.bl (ltP p q)) M
theorem Bq.p{q:Rat}(h:Bq q):(pq q).1.natAbs<10^400/\(pq q).2.natAbs<10^400:=⟨h.g.a,h.g.b⟩
theorem jT(h:i<ws.length):atI (aJ ws) (i:Int)=some (gL (ws.getD i 0)):=eG (by
 unfold aJ
 rw[qm,zGd,zGe h];rfl)
noncomputable def iI(ws:List Rat)(x:Rat):Nat:=(ws.filter λw=>decide (w<x)).length
noncomputable def lV(ws:List Rat)(x:Rat):List Int:=if iI ws x<ws.length/\ws.getD (iI ws x) 0=x then [(iI ws x:Int)-1,(iI ws x:Int)] else [(iI ws x:Int)-1]
theorem aLG{x:Rat}(h:x∉ws):(iI ws x:Int)-1=ix ws x:=by
 unfold iI ix
 congr 3
 refine bw λw hw => ?_
 have:w≠x:=λe=>h (e▸hw)
 rw[decide_eq_decide]
 grind
theorem aM1(u:Up ws)(h:i<ws.length):iI ws ws[i]=i:=by
 have e:ix ws ws[i]=i:=cH u h
 have:(ws.filter λw=>decide (w<=ws[i])).length=iI ws ws[i]+1:=by
  unfold iI
  clear e
  revert i
  induction ws with
  |nil=>intro i h;exact absurd h (l0 _)
  |cons a r ih =>
   intro i h
   obtain⟨c,k⟩:=ji.mp u
   cases i with
   |zero =>
    have j:r.filter (λw=>decide (w<=a))=[]:=wz.mpr λb d=>by have:=c b d;simp only[decide_eq_true_eq];grind
    have g:r.filter (λw=>decide (w<a))=[]:=wz.mpr λb d=>by have:=c b d;simp only[decide_eq_true_eq];grind
    show ((a::r).filter λw=>decide (w<=a)).length=((a::r).filter λw=>decide (w<a)).length+1
    rw[j1 (by simp only[decide_eq_true_eq];grind),wq (by simp only[decide_eq_true_eq];grind),j,g];rfl
   |succ i =>
    have f:i<r.length:=by simpa using h
    have:=c _ (je f)
    show ((a::r).filter λw=>decide (w<=r[i])).length=((a::r).filter λw=>decide (w<r[i])).length+1
    rw[j1 (by simp only[decide_eq_true_eq];grind),j1 (by simp only[decide_eq_true_eq];grind),qp,qp,ih k f]
 unfold ix at e
 omega
theorem aFN{x:Rat}(h:x∉ws):lV ws x=[ix ws x]:=by
 unfold lV
 rw[if_neg,aLG h]
 rintro⟨a,b⟩
 refine h ?_
 rw[zGd,zGe a] at b
 exact b▸je a
theorem aIO(u:Up ws)(h:i<ws.length):lV ws ws[i]=[(i:Int)-1,(i:Int)]:=by
 unfold lV
 rw[aM1 u h,if_pos ⟨h,by rw[zGd,zGe h];rfl⟩]
theorem tI(u:Up ws)(x:Rat):atI ((lV ws x).map D.int) (-1)=some (.int (ix ws x)):=by
 by_cases h:x∈ws
 ·obtain⟨i,a,rfl⟩:=qj h
  rw[aIO u a,cH u a]
  exact aAC [D.int _] (D.int _)
 ·rw[aFN h];exact aAC [] (D.int _)
noncomputable def aKU:Ct:=λds M k=>∃(ws:List Rat) (x:Rat),ds=[.tup (aJ ws),gL x]/\BqL ws/\ws.length<=100/\Bq x/\k (.lst ((lV ws x).map .int)) M
noncomputable def aHM:Ct:=λds M k=>∃xs ys:List Rat,ds=[.tup (aJ xs), .tup (aJ ys)]/\BqL xs/\BqL ys/\xs.length<=100/\ys.length<=100/\k (.lst (aJ (aQ xs ys))) M
theorem iA(xs:List Rat)(n:Nat):(aJ xs).drop n=aJ (xs.drop n):=by unfold aJ;rw[ck]
theorem jE(xs ys:List Rat):aJ xs++aJ ys=aJ (xs++ys):=by unfold aJ;rw[qg]
theorem wP(xs:List Rat):(aJ xs).dropLast=aJ xs.dropLast:=by unfold aJ;rw[Qu]
theorem qY{xs:List Rat}(h:∀j∈js,j<xs.length):kP (aJ xs) js=aJ (iF xs js):=by
 unfold kP aJ iF
 rw[jw]
 refine jc λj a => ?_
 have:=h j a
 rw[zGd,qm,zGe this]
 show gL xs[j]=gL (xs.getD j 0)
 rw[zGd,zGe this];rfl
noncomputable def yd(A:Yd):D:=dZ (aJ A.ws) (aJ A.us) A.K
theorem qJ{xs:List Rat}(u:Up xs)(v:Up ys)(g:R.Good (xs.length-1) zs)(hz:zs.length=ys.length-1):jV (aJ xs) (aJ ys) zs=yd (Yd.ofG xs ys zs u v g hz):=by
 unfold jV yd
 rw[qY (gA λz hz=>(g z hz).1),qY (f7 hz)];rfl
theorem wX(xs:List Rat):∀x∈aJ xs,okD 1 x=true:=λx hx=>by
 obtain⟨q,_,rfl⟩:=qq.mp hx
 rfl
theorem oY(A:Yd):okD 3 (yd A)=true:=aHS _ (wX _) (wX _)
theorem zL:∀(a b:List Rat),eqDs (aJ a) (aJ b)=decide (a=b)
 |[],[]=>rfl
 |[],b::bs=>by unfold aJ;simp[eqDs]
 |a::as,[]=>by unfold aJ;simp[eqDs]
 |a::as,b::bs=>by
  have c:=zL as bs
  unfold aJ at c ⊢
  simp only[jd,eqDs]
  rw[tE,c]
  by_cases d:a=b <;> by_cases e:as=bs <;> simp[d,e]
theorem zX:∀(a b:List Str),eqDs (a.map D.str) (b.map D.str)=decide (a=b)
 |[],[]=>rfl
 |[],b::bs=>by simp[eqDs]
 |a::as,[]=>by simp[eqDs]
 |a::as,b::bs=>by
  have c:=zX as bs
  simp only[jd,eqDs]
  rw[c]
  by_cases d:a=b <;> by_cases e:as=bs <;> simp[d,e,eqD]
theorem aM9{A B:Yd}:A=B↔A.ws=B.ws/\A.us=B.us/\A.K=B.K:=by
 constructor
 ·intro e;subst e;exact⟨rfl,rfl,rfl⟩
 ·obtain⟨ws,us,K,_,_,_⟩:=A
  obtain⟨ws',us',K',_,_,_⟩:=B
  rintro⟨rfl,rfl,rfl⟩
  rfl
noncomputable instance:DecidableEq Yd:=λ_ _=>vn _
theorem xR(A B:Yd):eqD (yd A) (yd B)=decide (A=B):=by
 unfold yd dZ
 simp only[eqD,eqDs,zL,zX,wo]
 by_cases h:A=B
 ·subst h;simp
 ·rw[decide_eq_false h]
  by_cases a:A.ws=B.ws
  ·by_cases b:A.us=B.us
   ·have c:A.K≠B.K:=λe=>h (aM9.mpr ⟨a,b,e⟩)
    simp[c]
   ·simp[b]
  ·simp[a]
structure Bnd(S:List Rat):Prop where
 len:S.length<=90
 b:BqL S
theorem onB{Sx Sy:List Rat}{A:Yd}(o:On Sx Sy A)(hx:Bnd Sx)(hy:Bnd Sy):BqL A.ws/\BqL A.us/\A.ws.length<=90/\A.us.length<=90:=
 ⟨λw hw=>hx.b w (o.x w hw),λw hw=>hy.b w (o.y w hw),jn (j9 A.uw o.x) hx.len,jn (j9 A.uu o.y) hy.len⟩
noncomputable def aA5:Ct:=λds M k=>∃(A:Yd) (xs ys:List Rat),ds=[yd A, .lst (aJ xs), .lst (aJ ys)]/\BqL A.ws/\BqL A.us/\BqL xs/\BqL ys/\A.ws.length<=90/\A.us.length<=90/\xs.length<=300/\ys.length<=300/\k (.lst ((cK A.has xs ys).map .str)) M
noncomputable def oV(ps:List Str)(a b:Bool):Bool:=oD ps (R.sg a,R.sg b)
noncomputable def aG4:Ct:=λds M k=>∃(A B:Yd) (Sx Sy:List Rat) (ps:List Str),ds=[yd A,yd B, .tup (ps.map .str)]/\Bnd Sx/\Bnd Sy/\On Sx Sy A/\On Sx Sy B/\ps.length<=10/\k (yd (Yd.op (oV ps) A B)) M
noncomputable def aI7(p:Bool->Bool->Bool):Ct:=λds M k=>∃(A B:Yd) (Sx Sy:List Rat),ds=[yd A,yd B]/\Bnd Sx/\Bnd Sy/\On Sx Sy A/\On Sx Sy B/\k (yd (Yd.op p A B)) M
noncomputable def jN(a b:Bool):Bool:=a&&b
noncomputable def b6(a b:Bool):Bool:=a||b
noncomputable def aI9(a b:Bool):Bool:=a && !b
theorem aDX:oV ["##"]=jN:=by funext a b;cases a <;> cases b <;> decide +kernel
theorem aAZ:oV ["##", "#.", ".#"]=b6:=by funext a b;cases a <;> cases b <;> decide +kernel
theorem aD0(ps:List Str)(f g:Rat->Rat->Bool)(xs ys:List Rat):(((cK f xs ys).zip (cK g xs ys)).map λp=>uD ps p.1 p.2)=cK (λx y=>oV ps (f x y) (g x y)) xs ys:=by
 unfold cK
 rw[Jw,jw]
 refine jc λy _ => ?_
 show uD ps (R.ofL _) (R.ofL _)=_
 unfold uD
 show R.ofL (((xs.dropLast.map λx=>R.sg (f x y)).zip (xs.dropLast.map λx=>R.sg (g x y))).map λp=>R.sg (oD ps p))=_
 rw[Jw,jw]
 rfl
theorem aG8(A:Yd)(xs:List Rat)(y:Rat):xJ A.K (xs.dropLast.map (ix A.ws)) (ix A.us y)=R.ofL (xs.dropLast.map λx=>R.sg (A.has x y)):=by
 unfold xJ
 rw[jw];rfl
end Q
namespace EU
open PySem R Q U
noncomputable def kap(ws xs:List Rat)(a:Int):Int:=if 0<=a then ix ws (xs.getD a.toNat 0) else -1
noncomputable def rho(ws xs:List Rat)(A:Int):Int:=if 0<=A then ix xs (ws.getD A.toNat 0) else -1
theorem getD_at{xs:List Rat}{a:Int}(h0:0<=a)(h1:a<xs.length):∃(i:Nat) (hi:i<xs.length),a=i/\xs.getD a.toNat 0=xs[i]:=
 ⟨a.toNat,by omega,by omega,by rw[zGd,zGe '!'];rfl⟩
theorem aJI(ws:List Rat)(u:Up ws){x y:Rat}(h:x<=y):ix ws x<=ix ws y:=by
 have g:=gD ws x
 have g2:=gD ws y
 have l:=iG ws x
 by_cases q:ix ws x = -1
 ·omega
 ·obtain⟨i,b⟩:∃i:Nat,ix ws x=i:=⟨(ix ws x).toNat,by omega⟩
  have hl:i<ws.length:=by omega
  have a:=(eH u hl (x:=x)).mpr '!'
  have c:=(eH u hl (x:=y)).mp (by grind)
  omega
theorem crs{xs:List Rat}(u:Up ws)(v:Up xs)(hs:∀w∈ws,w∈xs):Crs xs.length ws.length (kap ws xs) (rho ws xs) where
 k0:=by unfold kap;rw[if_neg '!']
 st:=λa s k=>by
  obtain⟨j,r,H,m⟩:=getD_at (xs:=xs) (a:=a+1) '!' k
  have C:kap ws xs (a+1)=ix ws xs[j]:=by unfold kap;rw[if_pos '!',m]
  have le:kap ws xs a<=ix ws xs[j]:=by
   unfold kap
   split
   ·obtain⟨i,b,o,f⟩:=getD_at (xs:=xs) (a:=a) '!' '!'
    rw[f]
    exact aJI ws u ((mO v b r).mpr '!')
   ·exact gD _ _
  have up:ix ws xs[j]<=kap ws xs a+1:=by
   apply qv
   intro z
   have g : -1<=kap ws xs a:=by unfold kap;split;exact gD _ _;omega
   have l:=iG ws xs[j]
   obtain⟨p,I⟩:∃p:Nat,kap ws xs a+1=p:=⟨(kap ws xs a+1).toNat,by omega⟩
   have h:p<ws.length:=by omega
   have n:p+1<ws.length:=by omega
   have a1:=(eH u n (x:=xs[j])).mpr '!'
   have a2:=(oQ u h n).mpr '!'
   obtain⟨t,c,d⟩:=qj (hs _ (je h))
   have D:xs[t]<xs[j]:=by rw[d];grind
   have K:=(oQ v c r).mp D
   by_cases q:0<=a
   ·obtain⟨i,b,o,f⟩:=getD_at (xs:=xs) (a:=a) q '!'
    have J:kap ws xs a=ix ws xs[i]:=by unfold kap;rw[if_pos q,f]
    have G:¬ws[p]<=xs[i]:=λE=>by have:=(eH u h (x:=xs[i])).mp E;omega
    have y:xs[t]<=xs[i]:=(mO v c b).mpr '!'
    rw[d] at y
    exact G y
   ·omega
  rw[C];omega
 rg:=λa s k=>by
  unfold kap
  split
  ·exact⟨gD _ _,iG _ _⟩
  ·omega
 rr:=λA s k=>by
  unfold rho
  split
  ·rename_i h0
   obtain⟨i,b,o,f⟩:=getD_at (xs:=ws) (a:=A) h0 k
   rw[f]
   obtain⟨t,c,d⟩:=qj (hs _ (je b))
   have m:ix xs ws[i]=t:=by rw[<- d];exact cH v c
   rw[m]
   refine⟨by omega,by omega,?_⟩
   unfold kap
   rw[if_pos '!',qi,zGd,zGe c]
   show ix ws xs[t]=A
   rw[d,cH u b,o]
  ·refine⟨by omega,by omega,?_⟩
   unfold kap;rw[if_neg '!'];omega
 rl:=λA s k a L F e=>by
  unfold rho
  split
  ·rename_i h0
   have B:0<=a:=by
    apply qv
    intro z
    unfold kap at e
    rw[if_neg z] at e
    omega
   obtain⟨i,b,o,f⟩:=getD_at (xs:=ws) (a:=A) h0 k
   obtain⟨j,r,H,m⟩:=getD_at (xs:=xs) (a:=a) B F
   rw[f]
   obtain⟨t,c,d⟩:=qj (hs _ (je b))
   rw[<- d,cH v c]
   unfold kap at e
   rw[if_pos B,m] at e
   have:=(eH u b (x:=xs[j])).mpr '!'
   rw[<- d] at this
   have:=(mO v c r).mp this
   omega
  ·omega
theorem aEE{xs:List Rat}(u:Up ws)(v:Up xs)(hs:∀w∈ws,w∈xs)(x:Rat):kap ws xs (ix xs x)=ix ws x:=by
 have g:=gD xs x
 have l:=iG xs x
 unfold kap
 split
 ·obtain⟨i,c,d,b⟩:=getD_at (xs:=xs) (a:=ix xs x) '!' l
  rw[b]
  exact (vT u v hs c d).symm
 ·exact (pM v hs '!').symm
structure Fin2(B:Yd)(xs ys:List Rat)(zs:List Str):Prop where
 v:Up xs
 v':Up ys
 hx:∀w∈B.ws,w∈xs
 hy:∀w∈B.us,w∈ys
 g:Good (xs.length-1) zs
 l:zs.length=ys.length-1
 h:∀x y,aP zs (ix xs x) (ix ys y)=B.has x y
theorem Fin2.cell{B:Yd}{xs:List Rat}(H:Fin2 B xs ys zs){a u:Int}(a1 : -1<=a)(a2:a<xs.length)(u1 : -1<=u)(u2:u<ys.length):aP zs a u=aP B.K (kap B.ws xs a) (kap B.us ys u):=by
 by_cases b:0<=a
 ·by_cases c:0<=u
  ·obtain⟨i,g,e,f⟩:=getD_at b a2
   obtain⟨j,l,k,d⟩:=getD_at c u2
   have:=H.h xs[i] ys[j]
   rw[cH H.v g,cH H.v' l,<- e,<- k] at this
   rw[this]
   unfold kap
   rw[if_pos b,if_pos c,f,d];rfl
  ·rw[bK '!']
   unfold kap
   rw[if_neg c,bK '!']
 ·rw[bL '!']
  unfold kap
  rw[if_neg b,bL '!']
theorem Fin2.two{B:Yd}{xs:List Rat}(H:Fin2 B xs ys zs)(b:Bool):Two2 xs.length B.ws.length ys.length B.us.length (kap B.ws xs) (rho B.ws xs) (kap B.us ys) (rho B.us ys) (aA zs b xs.length ys.length) (aA B.K b B.ws.length B.us.length) where
 cx:=crs B.uw H.v H.hx
 cy:=crs B.uu H.v' H.hy
 f2:=bP _ _ _ _
 g2:=bP _ _ _ _
 fr:=λa u h=>by obtain⟨_,_,e,d,g,f,c,_⟩:=bQ.mp h;cases e;exact⟨d,g,f,c⟩
 gr:=λa u h=>by obtain⟨_,_,e,d,g,f,c,_⟩:=bQ.mp h;cases e;exact⟨d,g,f,c⟩
 eq:=λa u d g f c=>by
  rw[bQ,bQ]
  have ga:=(crs B.uw H.v H.hx).rg a d g
  have i:=(crs B.uu H.v' H.hy).rg u f c
  have e:=H.cell d g f c
  constructor
  ·rintro⟨_,_,q,_,_,_,_,h⟩;cases q;exact⟨_,_,rfl,ga.1,ga.2,i.1,i.2,e▸h⟩
  ·rintro⟨_,_,q,_,_,_,_,h⟩;cases q;exact⟨_,_,rfl,d,g,f,c,e▸h⟩
theorem pC{f:Int->Int->Bool}{w h:Nat}(a u:Int):aP (rowsOf f w h) a u=(decide (0<=a/\a<w/\0<=u/\u<h)&&f a u):=by
 by_cases q:0<=a/\a<w/\0<=u/\u<h
 ·rw[decide_eq_true q,ni]
  have c:(rowsOf f w h)[u.toNat]?=some (ofL ((qr w).map λ(a:Nat)=>sg (f (a:Int) u))):=by
   unfold rowsOf
   rw[qm,yu '!']
   show some (ofL ((qr w).map λ(a:Nat)=>sg (f (a:Int) ((u.toNat:Nat):Int))))=_
   rw[show ((u.toNat:Nat):Int)=u by omega]
  have b:(ofL ((qr w).map λ(a:Nat)=>sg (f (a:Int) u))).cps.toList[a.toNat]?=some (sg (f a u)):=by
   show ((qr w).map λ(a:Nat)=>sg (f (a:Int) u))[a.toNat]?=_
   rw[qm,yu '!']
   show some (sg (f ((a.toNat:Nat):Int) u))=_
   rw[show ((a.toNat:Nat):Int)=a by omega]
  rw[fM q.2.2.1 q.1 c b]
  unfold sg
  cases f a u <;> rfl
 ·rw[decide_eq_false q,ml]
  by_cases g:a<0
  ·exact bL g
  ·by_cases d:u<0
   ·exact bK d
   ·by_cases e:(h:Int)<=u
    ·exact cV (by rw[oK];exact e)
    ·exact kT (jW f w h) '!'
theorem sX(cells:List Cell)(st:List (Int×Int))(s:Cell)(w h:Nat):Good w (gB cells st s w h):=jW _ _ _
theorem wF(cells:List Cell)(st:List (Int×Int))(s:Cell)(w h:Nat):(gB cells st s w h).length=h:=oK _ _ _
section
variable (xs ys:List Rat)(v:Up xs)(v':Up ys)(zs:List Str)(b:Bool)(st:List (Int×Int))
noncomputable def gY(s:Cell):Yd:=Yd.ofG xs ys (gB (aA zs b xs.length ys.length) st s (xs.length-1) (ys.length-1)) v v' (sX _ _ _ _ _) (wF _ _ _ _ _)
theorem fX(s:Cell)(x y:Rat):(gY xs ys v v' zs b st s).has x y=true↔(0<=ix xs x/\ix xs x+1<xs.length/\0<=ix ys y/\ix ys y+1<ys.length)/\Rch (aA zs b xs.length ys.length) st s [ix xs x,ix ys y]:=by
 unfold gY
 rw[Yd.ofG_has]
 unfold gB
 rw[pC,qn,decide_eq_true_iff]
 refine and_congr ⟨λh=>by omega,λh=>by omega⟩ ?_
 exact @decide_eq_true_iff _ (vn _)
theorem xQ(s:Cell):On xs ys (gY xs ys v v' zs b st s):=⟨(Yd.ofG_ws v v' _ _).1,(Yd.ofG_ws v v' _ _).2⟩
noncomputable def gps:List Yd:=(starts (aA zs b xs.length ys.length) st (aA zs b xs.length ys.length).length).map (gY xs ys v v' zs b st)
end
noncomputable def Inn(G:List Cell)(st:List (Int×Int))(n n':Nat)(S:Cell):Prop:=∀A U:Int,Rch G st S [A,U]->0<=A/\A+1<n/\0<=U/\U+1<n'
theorem nZ{a b:Bool}(h:a=true↔b=true):a=b:=by cases a <;> cases b <;> simp_all
theorem Fin2.grp{B:Yd}{xs:List Rat}(H:Fin2 B xs ys zs){b:Bool}(S:Stp st){A U:Int}(hA:[A,U]∈aA B.K b B.ws.length B.us.length)(hI:Inn (aA B.K b B.ws.length B.us.length) st B.ws.length B.us.length [A,U]):
  gY xs ys H.v H.v' zs b st (rp (rho B.ws xs) (rho B.us ys) [A,U])=gY B.ws B.us B.uw B.uu B.K b st [A,U]:=by
 have T:=H.two b
 refine Yd.ext' λx y=>nZ ?_
 rw[fX,fX]
 have e:=aEE B.uw H.v H.hx x
 have d:=aEE B.uu H.v' H.hy y
 have i:=iG xs x;have g:=iG ys y
 have f:=gD xs x;have j:=gD ys y
 have sm:=λh=>T.same S (a:=ix xs x) (u:=ix ys y) hA h
 rw[e,d] at sm
 constructor
 ·rintro⟨r,q⟩
  have c:=(sm (q.mem (T.rin hA))).mp q
  exact⟨hI _ _ c,c⟩
 ·rintro⟨r,q⟩
  have m:[ix xs x,ix ys y]∈aA zs b xs.length ys.length:=(T.eq _ _ f i j g).mpr (by rw[e,d];exact q.mem hA)
  refine⟨⟨?_,?_,?_,?_⟩,(sm m).mpr q⟩
  ·have:=λz=>pM (x:=x) H.v H.hx z;omega
  ·have:=λz=>qN (x:=x) H.v H.hx z;omega
  ·have:=λz=>pM (x:=y) H.v' H.hy z;omega
  ·have:=λz=>qN (x:=y) H.v' H.hy z;omega
theorem jS{b:Bool}{A U:Int}(h:[A,U]∈aA zs b nx ny): -1<=A/\A<nx /\ -1<=U/\U<ny/\aP zs A U=b:=by
 obtain⟨_,_,e,h1,h2,h3,h4,h5⟩:=bQ.mp h;cases e;exact⟨h1,h2,h3,h4,h5⟩
theorem yU(B:Yd){S:Cell}(hS:S∈aA B.K true B.ws.length B.us.length):Inn (aA B.K true B.ws.length B.us.length) st B.ws.length B.us.length S:=λA U h=>by
 obtain⟨c,i,f,b,a⟩:=jS (h.mem hS)
 have g:=B.T.good
 have a1:¬A<0:=λz=>by rw[bL z] at a;cases a
 have a2:¬U<0:=λz=>by rw[bK z] at a;cases a
 have d:¬((B.ws.length-1:Nat):Int)<=A:=λz=>by rw[kT g.1 z] at a;cases a
 have e:¬(B.K.length:Int)<=U:=λz=>by rw[cV z] at a;cases a
 have:=g.2
 omega
theorem Fin2.pieces{B:Yd}{xs:List Rat}(H:Fin2 B xs ys zs):gps xs ys H.v H.v' zs true straight=gps B.ws B.us B.uw B.uu B.K true straight:=by
 unfold gps
 rw[(H.two true).starts eM (dJ _ _ _ _) (dJ _ _ _ _),jw]
 refine jc λc a => ?_
 have a:=bI a
 obtain⟨A,U,rfl⟩:=bP _ _ _ _ c a
 exact H.grp eM a (yU B a)
end EU
namespace EU
open PySem R Q U
section
theorem ring(g:Good (nx-1) zs)(l:zs.length=ny-1){A U:Int}(h1 : -1<=A)(h2:A<nx)(h3 : -1<=U)(h4:U<ny)(h:A = -1\/A+1=nx\/U = -1\/U+1=ny):Rch (aA zs false nx ny) aL [-1, -1] [A,U]:=by
 have out:∀{a u:Int}, -1<=a->a<nx -> -1<=u->u<ny->(a = -1\/a+1=nx\/u = -1\/u+1=ny)->[a,u]∈aA zs false nx ny:=λ{a u} a1 a2 m n e=>by
  refine bQ.mpr ⟨a,u,rfl,a1,a2,m,n,?_⟩
  rcases e with e|e|e|e
  ·exact bL '!'
  ·by_cases z:nx=0
   ·exact bL '!'
   ·exact kT g '!'
  ·exact bK '!'
  ·by_cases z:ny=0
   ·exact bK '!'
   ·exact cV '!'
 have i:∀(u:Int) (d:Nat), -1<=u->u<ny->(u = -1\/u+1=ny)->(d:Int)<nx+1->Rch (aA zs false nx ny) aL [-1,u] [-1+d,u]:=by
  intro u d h1 h2 h3
  induction d with
  |zero=>intro _;rw[show (-1:Int)+((0:Nat):Int) = -1 by omega];exact .refl
  |succ d ih =>
   intro hd
   exact aEF (ih '!') (d:=(1,0)) (by decide) (by rw[show (-1:Int)+((d+1:Nat):Int) = -1+d+1 by omega,show u=u+0 by omega];rw[show u+0+0=u+0 by omega]) (out '!' '!' h1 h2 '!')
 have f:∀(a:Int) (d:Nat), -1<=a->a<nx->(a = -1\/a+1=nx)->(d:Int)<ny+1->Rch (aA zs false nx ny) aL [a, -1] [a, -1+d]:=by
  intro a d h1 h2 h3
  induction d with
  |zero=>intro _;rw[show (-1:Int)+((0:Nat):Int) = -1 by omega];exact .refl
  |succ d ih =>
   intro hd
   exact aEF (ih '!') (d:=(0,1)) (by decide) (by rw[show (-1:Int)+((d+1:Nat):Int) = -1+d+1 by omega,show a=a+0 by omega];rw[show a+0+0=a+0 by omega]) (out h1 h2 '!' '!' '!')
 have j:∀{u:Int}, -1<=u->u<ny->(u = -1\/u+1=ny)->Rch (aA zs false nx ny) aL [-1,u] [A,u]:=λ{u} a b c=>by
  have:=i u (A+1).toNat a b c '!'
  rwa [show (-1:Int)+((A+1).toNat:Nat)=A by omega] at this
 have k:∀{a:Int}, -1<=a->a<nx->(a = -1\/a+1=nx)->Rch (aA zs false nx ny) aL [a, -1] [a,U]:=λ{a} p q c=>by
  have:=f a (U+1).toNat p q c '!'
  rwa [show (-1:Int)+((U+1).toNat:Nat)=U by omega] at this
 rcases h with h|h|h|h
 ·rw[h];exact k '!' '!' (.inl rfl)
 ·exact eO (j '!' '!' (.inl rfl)) (k h1 h2 (.inr h))
 ·rw[h];exact j '!' '!' (.inl rfl)
 ·exact eO (k '!' '!' (.inl rfl)) (j h3 h4 (.inr h))
theorem t8(g:Good (nx-1) zs)(l:zs.length=ny-1):∃r,starts (aA zs false nx ny) aL (aA zs false nx ny).length=[-1, -1]::r/\∀s∈r,s∈aA zs false nx ny/\Inn (aA zs false nx ny) aL nx ny s:=by
 have h0:=kR zs nx ny
 have hl:0<(aA zs false nx ny).length:=(zGs h0).1
 obtain⟨k,e⟩:∃k,(aA zs false nx ny).length=k+1:=⟨(aA zs false nx ny).length-1,by omega⟩
 obtain⟨r,a⟩:=sL (st:=aL) h0 k
 rw[<- e] at a
 refine⟨r,a,λs d => ?_⟩
 have c:s∈starts (aA zs false nx ny) aL (aA zs false nx ny).length:=by rw[a];exact .tail _ d
 have b:=bI c
 refine⟨b,λA U q => ?_⟩
 apply qv
 intro z
 have m:=jS (q.mem b)
 have f:=ring g l m.1 m.2.1 m.2.2.1 m.2.2.2.1 '!'
 have sp:=fA (cells:=aA zs false nx ny) (st:=aL) (aA zs false nx ny).length
 rw[a] at sp
 exact (ji.mp sp).1 s d (eO f (eW eZ.sy b q))
end
noncomputable def hps(xs ys:List Rat)(v:Up xs)(v':Up ys)(zs:List Str):List Yd:=(gps xs ys v v' zs false aL).drop 1
theorem Fin2.holes{B:Yd}{xs:List Rat}(H:Fin2 B xs ys zs):hps xs ys H.v H.v' zs=hps B.ws B.us B.uw B.uu B.K:=by
 unfold hps gps
 rw[(H.two false).starts eZ (dJ _ _ _ _) (dJ _ _ _ _),jw]
 obtain⟨r,d,e⟩:=t8 B.T.good.1 B.T.good.2
 rw[d,jd,jd]
 show cc _ r=cc _ r
 refine jc λc b => ?_
 obtain⟨a,f⟩:=e c b
 obtain⟨A,U,rfl⟩:=bP _ _ _ _ c a
 exact H.grp eZ a f
noncomputable def pcY(A:Yd):List Yd:=gps A.ws A.us A.uw A.uu A.K true straight
noncomputable def hlY(A:Yd):List Yd:=hps A.ws A.us A.uw A.uu A.K
theorem sI(A:Yd):pcs (aJ A.ws) (aJ A.us) A.K=(pcY A).map yd:=by
 unfold pcs fZ pcY gps
 rw[aI,aI,jw]
 exact jc λs _=>qJ A.uw A.uu _ _
theorem xL(A:Yd):hls (aJ A.ws) (aJ A.us) A.K=(hlY A).map yd:=by
 unfold hls fZ hlY hps gps
 rw[aI,aI,<- ck,jw]
 exact jc λs _=>qJ A.uw A.uu _ _
theorem qP{A B:Yd}:B∈pcY A↔∃s∈starts (aA A.K true A.ws.length A.us.length) straight (aA A.K true A.ws.length A.us.length).length,B=gY A.ws A.us A.uw A.uu A.K true straight s:=by
 unfold pcY gps
 rw[qq]
 exact⟨λ⟨s,h,e⟩=>⟨s,h,e.symm⟩,λ⟨s,h,e⟩=>⟨s,h,e.symm⟩⟩
theorem aI5{A B:Yd}(h:B∈pcY A):On A.ws A.us B:=by
 obtain⟨s,_,rfl⟩:=qP.mp h
 exact xQ _ _ _ _ _ _ _ _
theorem aON{xs:List Rat}(v:Up xs)(v':Up ys)(zs:List Str)(b:Bool)(st:List (Int×Int))(s:Cell):Fin2 (gY xs ys v v' zs b st s) xs ys (gB (aA zs b xs.length ys.length) st s (xs.length-1) (ys.length-1)):=
 ⟨v,v',(xQ xs ys v v' zs b st s).x,(xQ xs ys v v' zs b st s).y,sX _ _ _ _ _,wF _ _ _ _ _,λx y=>(Yd.ofG_has v v' _ _ x y).symm⟩
theorem aOC{A B:Yd}(h:B∈pcY A):pcY B=[B]:=by
 obtain⟨s,l,rfl⟩:=qP.mp h
 have H:=aON A.uw A.uu A.K true straight s
 have b:=bI l
 obtain⟨_,f⟩:=(eY eM.sy (bP _ _ _ _) (dJ _ _ _ _)).mp l
 show gps _ _ _ _ _ _ _=_
 rw[<- H.pieces]
 have j:=yU A (st:=straight) b
 -- the piece's cells
 have mem:∀a u:Int,[a,u]∈aA (gB (aA A.K true A.ws.length A.us.length) straight s (A.ws.length-1) (A.us.length-1)) true A.ws.length A.us.length↔Rch (aA A.K true A.ws.length A.us.length) straight s [a,u]:=λa u=>by
  rw[bQ]
  unfold gB
  constructor
  ·rintro⟨_,_,e,_,_,_,_,h⟩
   cases e
   rw[pC,qn] at h
   exact (@decide_eq_true_iff _ (vn _)).mp h.2
  ·intro h
   have i:=j a u h
   refine⟨a,u,rfl,by omega,by omega,by omega,by omega,?_⟩
   rw[pC,qn]
   exact⟨decide_eq_true '!',(@decide_eq_true_iff _ (vn _)).mpr h⟩
 have g:∀a u:Int,Rch (aA A.K true A.ws.length A.us.length) straight s [a,u]->Rch (aA (gB (aA A.K true A.ws.length A.us.length) straight s (A.ws.length-1) (A.us.length-1)) true A.ws.length A.us.length) straight s [a,u]:=λa u h=>by
  generalize e:([a,u]:Cell)=c at h
  induction h generalizing a u with
  |refl=>exact .refl
  |@step x y d q hd m ih=>exact .step (ih x y rfl) hd ((mem _ _).mpr (.step q hd m))
 have back:∀c,Rch (aA (gB (aA A.K true A.ws.length A.us.length) straight s (A.ws.length-1) (A.us.length-1)) true A.ws.length A.us.length) straight s c->Rch (aA A.K true A.ws.length A.us.length) straight s c:=λc h=>by
  induction h with
  |refl=>exact .refl
  |step q hd m ih=>exact .step ih hd (((mem _ _).mp m).mem b)
 have st:starts (aA (gB (aA A.K true A.ws.length A.us.length) straight s (A.ws.length-1) (A.us.length-1)) true A.ws.length A.us.length) straight (aA (gB (aA A.K true A.ws.length A.us.length) straight s (A.ws.length-1) (A.us.length-1)) true A.ws.length A.us.length).length=[s]:=by
  obtain⟨p,q,rfl⟩:=bP _ _ _ _ s b
  refine xP (iS (dJ _ _ _ _)) (y2 _ _) λc => ?_
  rw[eY eM.sy (bP _ _ _ _) (dJ _ _ _ _),qk]
  constructor
  ·rintro⟨k,n⟩
   obtain⟨a,u,rfl⟩:=bP _ _ _ _ c k
   have r:=(mem a u).mp k
   apply qv
   intro z
   rcases yN z with w|w
   ·exact f _ (r.mem b) (eW eM.sy b r) w
   ·exact n _ ((mem p q).mpr .refl) (g a u r) w
  ·rintro rfl
   refine⟨(mem p q).mpr .refl,λd hd r => ?_⟩
   obtain⟨a,u,rfl⟩:=bP _ _ _ _ d hd
   have r2:=(mem a u).mp hd
   exact f _ (r2.mem b) (eW eM.sy b r2)
 unfold gps
 rw[st,xa]
 congr 1
 refine Yd.ext' λx y=>nZ ?_
 rw[fX,fX]
 exact and_congr K2 ⟨back _,g _ _⟩
theorem aNF{A:Yd}{x y:Rat}:A.has x y=true↔∃B∈pcY A,B.has x y=true:=by
 constructor
 ·intro h
  have b:[ix A.ws x,ix A.us y]∈aA A.K true A.ws.length A.us.length:=bQ.mpr ⟨_,_,rfl,gD _ _,iG _ _,gD _ _,iG _ _,h⟩
  obtain⟨s,a,r⟩:=i8 (st:=straight) b
  exact⟨_,qP.mpr ⟨s,a,rfl⟩,(fX _ _ _ _ _ _ _ _ _ _).mpr ⟨yU A (bI a) _ _ r,r⟩⟩
 ·rintro⟨B,hB,h⟩
  obtain⟨s,a,rfl⟩:=qP.mp hB
  have:=((fX _ _ _ _ _ _ _ _ _ _).mp h).2
  exact (jS (this.mem (bI a))).2.2.2.2
theorem aGQ{A:Yd}:(pcY A).Pairwise λB C=>∀x y,¬(B.has x y=true/\C.has x y=true):=by
 unfold pcY gps
 refine v7.mpr (jx (λ{s t} d c q x y h=>q ?_) (fA _))
 have a:=((fX _ _ _ _ _ _ _ _ _ _).mp h.1).2
 have b:=((fX _ _ _ _ _ _ _ _ _ _).mp h.2).2
 exact eO a (eW eM.sy (bI c) b)
end EU
namespace EU
open PySem R Q U
theorem uE(hs:Sym st){s c:Cell}(h1:s∈starts cells st cells.length)(h2:c∈starts cells st cells.length)(r:Rch cells st s c):s=c:=by
 obtain⟨i,d,a⟩:=qj h1
 obtain⟨j,e,b⟩:=qj h2
 have sp:=jb.mp (fA (cells:=cells) (st:=st) cells.length)
 rcases xq i j with z|z|z
 ·exact absurd (a.symm▸b.symm▸r) (sp _ _ d e z)
 ·subst z;exact a.symm.trans b
 ·exact absurd (a.symm▸b.symm▸eW hs (bI h1) r) (sp _ _ e d z)
theorem pD{α:Type}[DecidableEq α]:∀{l:List α}{i:Nat}{s:α},l.Nodup->l[i]?=some s->l.filter (λc => !decide (c=s))=l.take i++l.drop (i+1)
 |[],_,_,_,h=>by simp at h
 |x::l,0,s,nd,h=>by
  cases h
  obtain⟨a,d⟩:=jl.mp nd
  rw[wq '$']
  show _=l
  exact dI.mpr λc f=>by
   have:¬c=x:=λe=>a (e▸f)
   simp[this]
 |x::l,i+1,s,nd,h=>by
  obtain⟨a,d⟩:=jl.mp nd
  have b:l[i]?=some s:=h
  have:¬x=s:=λe=>a (e▸zMo b)
  rw[j1 (by simp[this]),pD d b];rfl
structure HoleOf(A:Yd)(i:Nat)(h:Yd)(r:List Cell)(s:Cell):Prop where
 st:starts (aA A.K false A.ws.length A.us.length) aL (aA A.K false A.ws.length A.us.length).length=[-1, -1]::r
 at_:r[i]?=some s
 eq:h=gY A.ws A.us A.uw A.uu A.K false aL s
 all:∀s∈r,s∈aA A.K false A.ws.length A.us.length/\Inn (aA A.K false A.ws.length A.us.length) aL A.ws.length A.us.length s
theorem vI{A h:Yd}(e:(hlY A)[i]?=some h):∃r s,HoleOf A i h r s/\hlY A=r.map (gY A.ws A.us A.uw A.uu A.K false aL):=by
 obtain⟨r,a,c⟩:=t8 A.T.good.1 A.T.good.2
 have b:hlY A=r.map (gY A.ws A.us A.uw A.uu A.K false aL):=by
  unfold hlY hps gps
  rw[a,jd];rfl
 rw[b,qm] at e
 cases es:r[i]? with
 |none=>rw[es] at e;cases e
 |some s=>rw[es] at e;exact⟨r,s,⟨a,es,(qz e).symm,c⟩,b⟩
theorem uP{A h:Yd}(e:(hlY A)[i]?=some h):On A.ws A.us h:=by
 obtain⟨r,s,H,_⟩:=vI e
 rw[H.eq]
 exact xQ _ _ _ _ _ _ _ _
theorem aDP{A h:Yd}(e:(hlY A)[i]?=some h):Yd.op jN A h=Yd.void:=by
 obtain⟨r,s,H,_⟩:=vI e
 refine Yd.ext' λx y => ?_
 rw[Yd.op_has rfl,Yd.void_has]
 cases h2:h.has x y with
 |false=>unfold jN;rw[xi]
 |true =>
  rw[H.eq] at h2
  have q:=((fX _ _ _ _ _ _ _ _ _ _).mp h2).2
  have m:=jS (q.mem (H.all s (zMo H.at_)).1)
  unfold jN
  rw[wo]
  exact m.2.2.2.2
theorem aE1{A h:Yd}(e:(hlY A)[i]?=some h):hlY (Yd.op b6 A h)=(hlY A).take i++(hlY A).drop (i+1):=by
 obtain⟨r,s,H,eh⟩:=vI e
 have j:=zMo H.at_
 obtain⟨U,k⟩:=H.all s j
 have on:On A.ws A.us (Yd.op b6 A h):=On.op ⟨λ_ w=>w,λ_ w=>w⟩ (uP e) _
 have stp:=(Yd.op b6 A h).steps A.uw A.uu on.x on.y
 have F:Fin2 (Yd.op b6 A h) A.ws A.us (cK (Yd.op b6 A h).has A.ws A.us):=⟨A.uw,A.uu,on.x,on.y,eX _ _ _,fI _ _ _,λx y=>aBP stp x y⟩
 have inR:∀{a u:Int}, -1<=a->a<A.ws.length -> -1<=u->u<A.us.length->(aP (cK (Yd.op b6 A h).has A.ws A.us) a u=false↔aP A.K a u=false/\¬Rch (aA A.K false A.ws.length A.us.length) aL s [a,u]):=λ{a u} a1 a2 u1 X=>by
  by_cases R:0<=a
  ·by_cases Z:0<=u
   ·obtain⟨p,N,P,_⟩:=getD_at R a2
    obtain⟨q,O,eq,_⟩:=getD_at Z X
    have t:=F.h A.ws[p] A.us[q]
    rw[Yd.op_has rfl] at t
    have D:=fX A.ws A.us A.uw A.uu A.K false aL s A.ws[p] A.us[q]
    rw[<- H.eq] at D
    have V:A.has A.ws[p] A.us[q]=aP A.K a u:=by
     show aP A.K (ix A.ws A.ws[p]) (ix A.us A.us[q])=_
     rw[cH A.uw N,cH A.uu O,P,eq]
    rw[cH A.uw N,cH A.uu O,<- P,<- eq] at t D
    rw[t,V]
    unfold b6
    rw[Bool.or_eq_false_iff]
    refine and_congr K2 ?_
    rw[<- QU,D]
    exact⟨λz w=>z ⟨k _ _ w,w⟩,λz w=>z w.2⟩
   ·rw[bK '!',bK '!']
    exact⟨λ_=>⟨rfl,λw=>by have:=k _ _ w;omega⟩,λ_=>rfl⟩
  ·rw[bL '!',bL '!']
   exact⟨λ_=>⟨rfl,λw=>by have:=k _ _ w;omega⟩,λ_=>rfl⟩
 have mem:∀a u:Int,[a,u]∈aA (cK (Yd.op b6 A h).has A.ws A.us) false A.ws.length A.us.length↔[a,u]∈aA A.K false A.ws.length A.us.length/\¬Rch (aA A.K false A.ws.length A.us.length) aL s [a,u]:=λa u=>by
  constructor
  ·intro q
   obtain⟨o,v,B,n,L⟩:=jS q
   have:=(inR o v B n).mp L
   exact⟨bQ.mpr ⟨a,u,rfl,o,v,B,n,this.1⟩,this.2⟩
  ·rintro⟨q,z⟩
   obtain⟨o,v,B,n,L⟩:=jS q
   exact bQ.mpr ⟨a,u,rfl,o,v,B,n,(inR o v B n).mpr ⟨L,z⟩⟩
 have f:∀c,c∈aA (cK (Yd.op b6 A h).has A.ws A.us) false A.ws.length A.us.length↔c∈aA A.K false A.ws.length A.us.length/\¬Rch (aA A.K false A.ws.length A.us.length) aL s c:=λc=>by
  constructor
  ·intro q
   obtain⟨a,u,rfl⟩:=bP _ _ _ _ c q
   exact (mem a u).mp q
  ·intro q
   obtain⟨a,u,rfl⟩:=bP _ _ _ _ c q.1
   exact (mem a u).mpr q
 have E:∀{d c},d∈aA (cK (Yd.op b6 A h).has A.ws A.us) false A.ws.length A.us.length->(Rch (aA (cK (Yd.op b6 A h).has A.ws A.us) false A.ws.length A.us.length) aL d c↔Rch (aA A.K false A.ws.length A.us.length) aL d c):=λ{d c} hd=>by
  constructor
  ·intro q
   induction q with
   |refl=>exact .refl
   |step _ g m ih=>exact .step ih g ((f _).mp m).1
  ·intro q
   induction q with
   |refl=>exact .refl
   |@step x y d' q g m ih =>
    refine .step ih g ((f _).mpr ⟨m,λz=>((f _).mp hd).2 ?_⟩)
    exact eO z (eW eZ.sy ((f _).mp hd).1 (.step q g m))
 have sw:starts (aA (cK (Yd.op b6 A h).has A.ws A.us) false A.ws.length A.us.length) aL (aA (cK (Yd.op b6 A h).has A.ws A.us) false A.ws.length A.us.length).length=(starts (aA A.K false A.ws.length A.us.length) aL (aA A.K false A.ws.length A.us.length).length).filter λc => !decide (c=s):=by
  have G:s∈starts (aA A.K false A.ws.length A.us.length) aL (aA A.K false A.ws.length A.us.length).length:=by rw[H.st];exact .tail _ j
  refine xP (iS (dJ _ _ _ _)) ((iS (dJ _ _ _ _)).sublist dz) λc => ?_
  rw[qo,eY eZ.sy (bP _ _ _ _) (dJ _ _ _ _)]
  constructor
  ·rintro⟨C,I⟩
   obtain⟨g1,g2⟩:=(f c).mp C
   refine⟨(eY eZ.sy (bP _ _ _ _) (dJ _ _ _ _)).mpr ⟨g1,λd hd q => ?_⟩,?_⟩
   ·have g:=(f d).mpr ⟨hd,λz=>g2 (eO z q)⟩
    exact I d g ((E g).mpr q)
   ·have:¬c=s:=λz=>g2 (z ▸ .refl)
    simp[this]
  ·rintro⟨C,I⟩
   have ne:¬c=s:=by simpa using I
   obtain⟨g1,g2⟩:=(eY eZ.sy (bP _ _ _ _) (dJ _ _ _ _)).mp C
   exact⟨(f c).mpr ⟨g1,λz=>ne (uE eZ.sy G C z).symm⟩,λd hd q=>g2 d ((f d).mp hd).1 ((E hd).mp q)⟩
 have nd:([-1, -1]::r:List Cell).Nodup:=by
  rw[<- H.st]
  exact me (S:=(· ≠ ·)) (λ{a b} (q:Lx a b) (z:a=b)=>nI (z▸q)) (iS (dJ _ _ _ _))
 obtain⟨Y,Q⟩:=jl.mp nd
 have J:¬([-1, -1]:Cell)=s:=λz=>Y (z▸j)
 show hps _ _ _ _ _=_
 rw[<- F.holes,eh]
 unfold hps gps
 rw[sw,H.st,j1 (by simp[J]),jd,pD Q H.at_]
 show cc _ (r.take i++r.drop (i+1))=_
 rw[<- Jx,<- ck,<- qg]
 refine jc λc M => ?_
 have l:c∈r/\¬c=s:=by
  rw[<- pD Q H.at_] at M
  have:=qo.mp M
  exact⟨this.1,by simpa using this.2⟩
 have T:c∈starts (aA A.K false A.ws.length A.us.length) aL (aA A.K false A.ws.length A.us.length).length:=by rw[H.st];exact .tail _ l.1
 have sS:s∈starts (aA A.K false A.ws.length A.us.length) aL (aA A.K false A.ws.length A.us.length).length:=by rw[H.st];exact .tail _ j
 have W:=(f c).mpr ⟨(H.all c l.1).1,λz=>l.2 (uE eZ.sy sS T z).symm⟩
 refine Yd.ext' λx y=>nZ ?_
 rw[fX,fX]
 exact and_congr K2 (E W)
theorem uZ{A:Yd}(h:A.K=[]):pcY A=[]/\hlY A=[]:=by
 have e:A=Yd.void:=by
  refine Yd.ext' λx y => ?_
  rw[(Yd.void_iff A).mp h,Yd.void_has]
 subst e
 constructor
 ·have:=sI Yd.void
  have a:pcs (aJ Yd.void.ws) (aJ Yd.void.us) Yd.void.K=[]:=by
   unfold pcs fZ
   show cc _ (starts (aA [] true 0 0) straight _)=[]
   rw[uA];rfl
  rw[a] at this
  exact dw.mp this.symm
 ·have:=xL Yd.void
  rw[show hls (aJ Yd.void.ws) (aJ Yd.void.us) Yd.void.K=[] from aAM _] at this
  exact dw.mp this.symm
theorem aE5(A:Yd):(((kn A.K A.ws.length A.us.length).count ("out" : Str):Nat):Int)-((kn A.K A.ws.length A.us.length).count ("in" : Str):Nat)+2*((kn A.K A.ws.length A.us.length).count ("touch" : Str):Nat)=4*((pcY A).length:Nat)-4*((hlY A).length:Nat):=by
 rcases A.T.v with ⟨h,a,b⟩|⟨h,_,_,g,l,a2,b2⟩
 ·rw[(uZ h).1,(uZ h).2,a,b];rfl
 ·have c:=counted g
  rw[show A.ws.length-1+1=A.ws.length by omega,l] at c
  rw[c]
  unfold pcY hlY hps gps
  rw[ju,ju,zLm,zLm]
end EU
namespace L2
open PySem PySem.Spec PyProof.Rows
noncomputable def nmE(q:Str×Pos):Expr := .Name q.1 q.2
noncomputable def lP:Nat->Nat->TGs
 |_,0=>aGY
 |i,n+1=>xK (kX i) (lP (i+1) n)
noncomputable def unT(K:qe)(n:Nat):V->Hp->List V->Prop:=λv H us=>∃p,v = .ref p/\SqT K H p us/\us.length=n
theorem aB1{α:Type}:∀(pre os rest:List α) (o u:α),(pre++(o::os)++rest).set pre.length u=pre++[u]++os++rest
 |[],_,_,_,_=>rfl
 |p::pre,os,rest,o,u=>congrArg (p :: ·) (aB1 pre os rest o u)
theorem tT:∀(us:List V) (pre os rest:St) (H:Hp),os.length=us.length->lP pre.length us.length us (pre++os++rest) H (λσ' H'=>σ'=pre++us.map some++rest/\H'=H)
 |[],pre,os,rest,H,h=>by
  cases os with
  |nil=>exact⟨rfl,rfl,rfl⟩
  |cons o os=>simp at h
 |u::us,pre,os,rest,H,h=>by
  cases os with
  |nil=>simp at h
  |cons o os =>
   refine⟨u,us,rfl,?_⟩
   show lP (pre.length+1) us.length us ((pre++(o::os)++rest).set pre.length (some u)) H _
   have e:(pre++(o::os)++rest).set pre.length (some u)=(pre++[some u])++os++rest:=aB1 pre os rest o (some u)
   have a:pre++cc some (u::us)++rest=(pre++[some u])++us.map some++rest:=by simp
   have l:pre.length+1=(pre++[some u]).length:=by simp
   rw[e,a,l]
   exact tT us (pre++[some u]) os rest H (by simpa using h)
theorem jB(env:Env):∀qs:List (Str×Pos),assignEach (qs.map nmE) env=qs.map λq=>(false,assign (nmE q) env)
 |[]=>rfl
 |q::qs=>by
  rw[jd,jd,<- jB env qs]
  rfl
theorem xC(hN:X.N.Nodup):∀(qs:List (Str×Pos)) (i:Nat),(∀(j:Nat) q,qs[j]?=some q->X.N[i+j]?=some q.1/\Loc X.env.scope q.1/\(X.fn q.1=true\/X.env.scope.names.lookup q.1=some .local))->PGs X (qs.map nmE) (lP i qs.length)
 |[],i,_=>vC
 |q::qs,i,h=>by
  obtain⟨a,b,c⟩:=h 0 q rfl
  exact oR (mX hN a b c) (xC hN qs (i+1) λj d e=>by
   have:=h (j+1) d (by simpa using e)
   rwa [show i+(j+1)=i+1+j by omega] at this) (by rw[<- jd,jB,jB];rfl)
theorem aIQ(hc:X.calm=true)(hN:X.N.Nodup)(qs:List (Str×Pos))(h:∀(j:Nat) q,qs[j]?=some q->X.N[j]?=some q.1/\Loc X.env.scope q.1/\(X.fn q.1=true\/X.env.scope.names.lookup q.1=some .local)):
  PG X (.Tuple (qs.map nmE) kk tp) (aAB X.K qs.length (lP 0 qs.length)):=
 zO hc (xC hN qs 0 λj q e=>by rw[Nat.zero_add];exact h j q e) (by rw[jB,zLm]) (by rw[jB];simp)
theorem aGW{K:qe}(v:V)(H:Hp)(us:List V)(os rest:St)(u:unT K n v H us)(ho:os.length=n):us.length=n/\aAB K n (lP 0 n) v (os++rest) H (λσ' H'=>σ'=us.map some++rest/\H'=H):=by
 obtain⟨p,rfl,sq,a⟩:=u
 subst a
 exact⟨rfl,p,us,rfl,sq,rfl,tT us [] os rest H ho⟩
noncomputable def qK(sc scope:Scope)(xs ns:List Str)(cap:List Nat)(N:List Str):Bool := !xs.isEmpty&&xs.all (λx=>gF sc scope x ns cap N)&&decide xs.Nodup
structure CompN'(X:Cx)(scope:Scope)(qs:List (Str×Pos))(ns:List Str)(cap:List Nat)(kk:Nat)(tp:Pos):Prop where
 hkind:scope.kind = .function
 hnames:∀y∈scope.names,y.2 = .local->scope.names.lookup y.1=some .local
 hst:∀cs C s₀ H₀ fp,PG (aN X scope cs C (qs.map (·.1)++ns) s₀ H₀ fp) (.Tuple (qs.map nmE) kk tp) (aAB X.K qs.length (lP 0 qs.length))
 hlen:cap.length=ns.length
 hcap:∀(j k:Nat) (nm:Str),cap[j]?=some k->ns[j]?=some nm->X.N[k]?=some nm/\(X.env.scope.names.lookup nm=some .cell\/X.env.scope.names.lookup nm=some .free)
 hns:∀nm∈ns,(nm,jo)∈scope.names/\(nm,km)∉scope.names
 hnsk:∀nm∈ns,scope.names.lookup nm=some .free
 hfree:∀y∈scope.names,y.2 = .free->X.env.scope.names.lookup y.1=some .cell\/X.env.scope.names.lookup y.1=some .free
theorem aHT{qs:List (Str×Pos)}{cap:List Nat}(hc:X.calm=true)(ok:qK X.env.scope scope (qs.map (·.1)) ns cap X.N=true):CompN' X scope qs ns cap kk tp:=by
 unfold qK at ok
 simp only[qn,decide_eq_true_eq] at ok
 obtain⟨⟨ne,al⟩,nd⟩:=ok
 have each:∀q∈qs,gF X.env.scope scope q.1 ns cap X.N=true:=λq a=>(wg.mp al) q.1 (qq.mpr ⟨q,a,rfl⟩)
 cases qs with
 |nil=>cases ne
 |cons q0 qs0 =>
  have k:=gI (each q0 (.head _))
  have b:((q0::qs0).map (·.1)++ns).Nodup:=by
   refine y8.mpr ⟨nd,(jl.mp k.hNc).2,λx hx y h e => ?_⟩
   obtain⟨q,a,rfl⟩:=qq.mp hx
   exact (jl.mp (gI (each q a)).hNc).1 (e▸h)
  refine⟨k.hkind,k.hnames,λl i m g d=>aIQ (X:=aN X scope l i ((q0::qs0).map (·.1)++ns) m g d) hc b _ λj q e => ?_,k.hlen,k.hcap,k.hns,k.hnsk,k.hfree⟩
  have a:=zMo e
  have c:=gI (each q a)
  have f:=(zGs e).1
  refine⟨?_,?_,?_⟩
  ·show ((q0::qs0).map (·.1)++ns)[j]?=some q.1
   rw[j3 (by rw[zLm];exact f),qm,e];rfl
  ·rcases c.hx with z|z
   ·exact .inl (vx z)
   ·exact .inr (dF z)
  ·rcases c.hx with z|z
   ·exact .inr (vx z)
   ·exact .inl (by show (scope.names.lookup _==some .cell)=true;rw[z];rfl)
section
variable {sc:Scope}
theorem xX(iy:Nat)(qs:List (Str×Pos))(ns:List Str)(cap:List Nat)(hNd:N.Nodup)(hiy:N[iy]?=some y)(hyl:sc.names.lookup y=some .local)(hc:X.calm=true)(hsc:X.env.scope=sc)(hN:X.N=N)(ok:qK sc scope (qs.map (·.1)) ns cap N=true)(hi:PI X (.Tuple (qs.map nmE) kk tp) iter wi)(ht:∀cs C s₀ H₀ fp,PIf (aN X scope cs C (qs.map (·.1)++ns) s₀ H₀ fp) ifs tt)(he:∀cs C s₀ H₀ fp,PE (aN X scope cs C (qs.map (·.1)++ns) s₀ H₀ fp) elt te)(hs:∀v,foldedSetIterable iter X.env v=pure v)(hsw:bf (.ListComp elt [⟨.Tuple (qs.map nmE) kk tp,iter,ifs,0⟩] scope pos) (some (.Name y py)) spos.line X.env=pure true):
  PS X (.Assign [.Name y py] (.ListComp elt [⟨.Tuple (qs.map nmE) kk tp,iter,ifs,0⟩] scope pos) spos) (zY (zC (unT X.K qs.length) wi cap tt te) (kX iy)):=by
 subst hsc hN
 have k:=aHT (kk:=kk) (tp:=tp) hc ok
 intro pins s σ H D I h
 rw[QH _ _ _ _ hsw]
 refine qa (zv (qa ?_))
 show wpAny _ X.A (do let _ <- dm (.ListComp elt [⟨.Tuple (qs.map nmE) kk tp,iter,ifs,0⟩] scope pos) scope X.env _ (Ja []) false (eval iter X.env) (some (assign (.Name y py) X.env))) _ _ s
 refine qa (x6 (n0 hc k.hkind k.hnames k.hst (λv H us os rest u j=>by rw[zLm] at j ⊢;exact aGW v H us os rest u j) k.hlen k.hcap k.hns k.hnsk k.hfree hi ht he hs (use:=some (assign (.Name y py) X.env)) (Q':=λ_ f=>SP X pins D .next f) I h λL C H' f J q ⟨m,hn⟩ c => ?_) (λ_ f n=>wpAny_pure n.5) λ_ _ e=>e)
 refine lq (p7 J hNd hiy (.inl hyl) (v := .ref L) rfl (λs2 J2 ⟨a,l,d⟩ => ?_) (.inr hyl))
 have i:C≠a:=by
  rcases d with rfl|d
  ·exact c.hL
  ·exact ya (c.h2 y a d)
 refine⟨m,hn.sameBut l i,λr g => ?_⟩
 exact⟨_,H',J2.turned (t':=s2.toks) (it:=C) (λb o p e=>(g.2 b p).trans e) c.hn c.hL (.inr c.h1) c.h2 c.h3,q⟩
end
end L2
namespace Z
open PySem L2
theorem EnvR.capN{K:Fg}(h:EnvR K G Γ σ)(cap:List Nat):∀{es:List D}{vs:List V},Dens K G es vs->EnvR K G (es.map some++cap.map λk=>(Γ[k]?).join) (vs.map some++cap.map λk=>(σ[k]?).join)
 |[],vs,d=>by
  rw[bW d]
  refine⟨by simp,λi c q => ?_⟩
  have:=(h.cap (d := .non) (v := .non) nA cap).get (i+1) c (by simpa using q)
  simpa using this
 |e::es,vs,d=>by
  obtain⟨v,r,rfl,f,b⟩:=bN d
  have a:=EnvR.capN h cap b
  refine⟨by have:=a.len;simpa using this,λi c q => ?_⟩
  cases i with
  |zero=>simp at q;subst q;exact⟨v,rfl,f⟩
  |succ i=>exact a.get i c (by simpa using q)
noncomputable def aC2(X:Cx)(xs ns:List Str)(cap:List Nat)(elt:Expr)(ifs:List Expr)(scope:Scope)(Γ:Gm)(k:D->Mem->Prop)(ds:List D)(M1:Mem):Prop:=
 ds.length<=sizeLine/\(∀d∈ds,∃es:List D,d = .tup es/\es.length=xs.length)/\∃I:Nat->List D->Mem->Prop,I 0 [] M1 /\
  (∀i es acc M2,ds[i]?=some (.tup es)->I i acc M2->∀cs C s₀ H₀ fp,GIf (aN X scope cs C (xs++ns) s₀ H₀ fp) ifs (es.map some++cap.map λk=>(Γ[k]?).join) M2 λc M3 =>
   if c=true then (∀cs C s₀ H₀ fp,GE (aN X scope cs C (xs++ns) s₀ H₀ fp) elt (es.map some++cap.map λk=>(Γ[k]?).join) M3 (λy M4=>I (i+1) (acc++[y]) M4)) else I (i+1) acc M3) /\
  (∀acc M2,I ds.length acc M2->∀a,M2 a=none->k (.mt a) (bG M2 a (.lst acc)))
theorem aLW{xs:List Str}{cap:List Nat}(hn:n=xs.length)(h:GI X tg iter Γ M (aC2 X xs ns cap elt ifs scope Γ k)){Q:VK}(en:EnvR X.K G Γ σ)(rl:Rel X.K G H M)(q:Cont X.K M k G H Q):
  zC (unT X.K n) (tUI X tg iter) cap (λσ H Q=>∀cs C s₀ H₀ fp,vF (aN X scope cs C (xs++ns) s₀ H₀ fp) ifs σ H Q) (λσ H Q=>∀cs C s₀ H₀ fp,tU (aN X scope cs C (xs++ns) s₀ H₀ fp) elt σ H Q) σ H Q:=by
 subst hn
 refine h σ G H _ en rl λJ G1 H1 ds M1 s1 yd ⟨hlen,f,I,h0,g,o⟩ A hA => ?_
 have a:=s1.rel.free hA
 refine⟨λi m v H2=>m=ds.length-i/\i<=ds.length/\∃G2 M2 acc,Stp X.K G1 H1 M1 G2 H2 M2/\H2 A=some (.lst v)/\G2 A=none/\M2 A=none/\Dens X.K G2 acc v/\I i acc M2/\acc.length<=i,
  ⟨ds.length,by simp,vq _,G1,M1,[],(Stp.refl s1.rel).aside hA a.1 a.2,aY,a.1,a.2,bT,h0,ql _⟩,?_⟩
 rintro i m v H2 ⟨rfl,Y,G2,M2,acc,s2,hl,E,hm,r,N,z⟩
 refine⟨hl,?_⟩
 by_cases b:i<ds.length
 ·refine .inr ⟨yd.go i G2 H2 M2 s2.gg s2.rel b,by rw[<- r.len];omega,λx H3 y => ?_⟩
  obtain⟨G3,d,s3,hd,ex⟩:=yd.yld i G2 H2 M2 x H3 s2.gg s2.rel b y
  obtain⟨l3,g3,P⟩:=s3.fr A _ hl E hm
  obtain⟨U,T,le⟩:=f d (zMo hd)
  subst T
  obtain⟨p,vs,ev,sq,l⟩:=ex.tup_
  refine⟨vs,⟨p,ev,R.dC s3.rel.same sq,by rw[<- l.len,le]⟩,?_⟩
  intro cs C s₀ H₀ fp
  have j:=((en.up s1.gg).up (s2.trans s3).gg).capN cap l
  refine g i U acc M2 hd N cs C s₀ H₀ fp _ G3 H3 _ j s3.rel λc G4 H4 M4 s4 t => ?_
  obtain⟨B,g4,w⟩:=s4.fr A _ l3 g3 P
  cases c with
  |true =>
   rw[if_pos rfl] at t ⊢
   intro cs C s₀ H₀ fp
   refine t cs C s₀ H₀ fp _ G4 H4 _ (j.up s4.gg) s4.rel λy G5 H5 V M5 s5 W O => ?_
   obtain⟨S,L,F⟩:=s5.fr A _ B g4 w
   have u:=((s2.trans s3).trans s4).trans s5
   exact⟨S,ds.length-(i+1),by omega,rfl,b,G5,M5,acc++[V],u.aside hA L F,aY,L,F,(r.up ((s3.trans s4).trans s5).gg).append (aZ W bT),O,by rw[qh,jm];omega⟩
  |false =>
   rw[if_neg zBf] at t ⊢
   exact⟨ds.length-(i+1),by omega,rfl,b,G4,M4,acc,(s2.trans s3).trans s4,B,g4,w,r.up (s3.trans s4).gg,t,by omega⟩
 ·have e:i=ds.length:=by omega
  subst e
  exact .inl ⟨yd.stop _ G2 H2 M2 s2.gg s2.rel rfl,q _ _ _ _ _ (s1.trans (s2.track hA E hl r)) nE (o acc M2 N A hm)⟩
section
variable {F:Fin}{sc:Scope}
theorem aPU{xs:List Str}{cap:List Nat}(hl:ds.length<=sizeLine)(hpair:∀d∈ds,∃es:List D,d = .tup es/\es.length=xs.length)(I:Nat->List D->Mem->Prop)(h0:I 0 [] M1)(hs:∀i es acc M2,ds[i]?=some (.tup es)->I i acc M2->∀cs C s₀ H₀ fp,GIf (aN X scope cs C (xs++ns) s₀ H₀ fp) ifs (es.map some++cap.map λk=>(Γ[k]?).join) M2 λc M3 =>
   if c=true then (∀cs C s₀ H₀ fp,GE (aN X scope cs C (xs++ns) s₀ H₀ fp) elt (es.map some++cap.map λk=>(Γ[k]?).join) M3 (λy M4=>I (i+1) (acc++[y]) M4)) else I (i+1) acc M3)(hd:∀acc M2,I ds.length acc M2->∀a,M2 a=none->k (.mt a) (bG M2 a (.lst acc))):aC2 X xs ns cap elt ifs scope Γ k ds M1:=⟨hl,hpair,I,h0,hs,hd⟩
end
end Z
namespace Z
open PySem L2
section
end
end Z
namespace L2
open PySem PySem.Spec PyProof.Rows Builtin Builtin.Str
section
noncomputable def aCF(K:qe):V->List V->Hp->VK->Prop:=λx vs H Q=>∃(a:Addr) (ys:List bh) (y:bh),x = .ref a/\vs=[.str y]/\SqL K H a (ys.map V.str)/\Q (.int ((ys.count y:Nat):Int)) H
noncomputable def yD(y:bh):Value->Bool
 |.str z _=>z==y
 |_=>false
theorem aDJ{ys:List bh}(y:bh):∀{its:List Value},Vals (ys.map V.str) its->its.countP (yD y)=ys.count y:=by
 induction ys with
 |nil=>intro its r;cases r;rfl
 |cons b bs ih =>
  intro its r
  cases r with
  |cons r1 r2 =>
   obtain⟨t,rfl⟩:=r1
   rw[QQ,ih r2,zk]
   rfl
theorem pJ:MtR X "list.count" (aCF X.K):=by
 intro pins s σ H x vs v us Q I p m h
 obtain⟨a,A,y,rfl,rfl,o,q⟩:=h
 cases p
 obtain⟨u,rfl,t2,rfl⟩:=vals1 m
 obtain⟨b,r,t,B⟩:=I.list o
 obtain⟨⟨cls,z,data,w⟩,g,k,n,hd⟩:=id t.isList
 have e:cls = .type "list" := k
 have c:data = .seq b.toArray n:=hd
 subst e c
 refine tw wk ⟨_,g,rfl⟩ hO (g5 _ _) (Qa a b.toArray n z w (.str y t2) (yD y)) ⟨g,λv l => ?_,?_⟩
 ·have hm:v∈b:=by simpa using l
  obtain⟨j,i⟩:=vr hm
  have d:j<(A.map V.str).length:=by rw[r.length];exact (zGs i).1
  obtain⟨C,f,r2⟩:=r.get (zGe d)
  rw[i] at f;cases f
  rw[cv] at r2
  obtain⟨t3,rfl⟩:=r2
  exact mB _ _ _ _
 ·rw[show b.toArray.toList=b from rfl,aDJ y r]
  exact⟨.int _,H,I.tok _,⟨_,rfl⟩,q⟩
end
end L2
namespace L2
open PySem PySem.Spec PyProof.Rows F
section
end
end L2
namespace Z
open PySem L2
section
variable {K:Fg}{z:Str}
theorem pY{ys:List Str}(h:k (.int ((ys.count y:Nat):Int)) M):OpM K (aCF K) (.lst (ys.map .str)) [.str y] M k:=λG H v vs Q b e f q=>by
 obtain⟨u,rfl,c⟩:=dens1 f
 obtain⟨a,ws,ev,s,d⟩:=e.lst_
 rw[rS d] at s
 rw[c.str_,ev]
 exact⟨a,ys,y,rfl,rfl,SqL.of (b.same _ _ s),q _ _ _ _ _ (Stp.refl b) cZ h⟩
end
end Z
namespace U
open PySem
inductive Cmp(g:Rat->Rat):Rat->List Rat->List Rat->Prop
 |nil {v:Rat}{xs:List Rat} (hv:v=0) (h:∀x∈xs,g x=0):Cmp g v xs []
 |skip {v a:Rat}{r ws:List Rat} (e:g a=v) (h:Cmp g v r ws):Cmp g v (a::r) ws
 |keep {v a:Rat}{r ws:List Rat} (h:Cmp g (g a) r ws):Cmp g v (a::r) (a::ws)
end U
namespace Q
open PySem L2 Z U
theorem aL1(q:Rat):q*(q.den:Rat)=(q.num:Rat):=by
 have h:=Qt q
 have hd:((q.den:Int):Rat)≠0:=by
  intro e
  have:=lr.mp (e.trans (QW).symm)
  have:=q.den_nz;omega
 conv=>lhs;lhs;rw[<- h,b3]
 rw[<- zt,Rat.div_mul_cancel hd]
structure Fr(m B:Nat)(q:Rat):Prop where
 ex:∃k:Int,q*(m:Rat)=(k:Rat)/\k.natAbs<=B
theorem Fr.cross{B:Nat}{q:Rat}(h:Fr m B q):∃k:Int,q.num*(m:Int)=k*(q.den:Int)/\k.natAbs<=B:=by
 obtain⟨k,e,c⟩:=h.ex
 refine⟨k,?_,c⟩
 have a:q*(q.den:Rat)=(q.num:Rat):=aL1 q
 have b:((q.num*(m:Int):Int):Rat)=((k*(q.den:Int):Int):Rat):=by
  rw[Jh,Jh,zt,zt,<- a,<- e]
  grind
 exact lr.mp b
theorem Fr.bd{B:Nat}{q:Rat}(h:Fr m B q)(hm:0<m):q.num.natAbs<=B/\q.den<=m:=by
 obtain⟨k,e,b⟩:=h.cross
 have a:q.num.natAbs*m=k.natAbs*q.den:=by
  have:=congrArg Int.natAbs e
  rwa [Jy,Jy,fk,fk] at this
 have hd:q.den∣m:=by
  refine Vb (k:=q.den) (m:=q.num.natAbs) (Va q.reduced) ?_
  rw[a];exact Nat.dvd_mul_left _ _
 have hl:=JQ hm hd
 refine⟨?_,hl⟩
 have:q.num.natAbs*m<=B*m:=by
  rw[a];exact bp b hl
 exact Nat.le_of_mul_le_mul_right this hm
noncomputable def FrL(m B:Nat)(ws:List Rat):Prop:=∀w∈ws,Fr m B w
noncomputable def sm:Nat:=10^60
end Q
namespace U
open PySem
noncomputable def hit(s:Bool)(ws:List Rat)(dn up:Rat)(h:Int->Bool)(x:Rat):Prop:=∃u,x-up<=u/\u<=x+dn/\h (ix ws u)=s
open Classical in
noncomputable def gro(s:Bool)(ws:List Rat)(dn up:Rat)(h:Int->Bool)(x:Rat):Bool:=if hit s ws dn up h x then s else !s
noncomputable def aCN(ws:List Rat)(dn:Rat):List Rat:=ws.map (· - dn)
noncomputable def aCJ(ws:List Rat)(up:Rat):List Rat:=ws.map (· + up)
noncomputable def aDH(ws:List Rat)(dn up:Rat):List Rat:=aQ (aCN ws dn) (aCJ ws up)
theorem aKG(u:Up ws)(dn:Rat):Up (aCN ws dn):=by unfold aCN Up;rw[v7];exact u.imp λh=>by grind
theorem aJ6(u:Up ws)(up:Rat):Up (aCJ ws up):=by unfold aCJ Up;rw[v7];exact u.imp λh=>by grind
theorem aCE(u:Up ws)(dn up:Rat):Up (aDH ws dn up):=bX (aKG u dn) (aJ6 u up)
noncomputable def growS(s:Bool)(ws:List Rat)(dn up:Rat)(z:Str):Str:=R.ofL ((aDH ws dn up).dropLast.map λx=>R.sg (gro s ws dn up (λi=>R.aP [z] i 0) x))
noncomputable def groF(s:Bool)(A:Yd)(a b c d:Rat)(x y:Rat):Bool:=gro s A.us b d (λr=>gro s A.ws a c (λi=>R.aP A.K i r) x) y
structure Nn(a b c d:Rat):Prop where
 a:0<=a
 b:0<=b
 c:0<=c
 d:0<=d
noncomputable def Yd.grow(A:Yd)(s:Bool)(a b c d:Rat):Yd:=Yd.ofF (groF s A a b c d) (aDH A.ws a c) (aDH A.us b d) (aCE A.uw a c) (aCE A.uu b d)
structure Bx where
 w:Rat
 s:Rat
 e:Rat
 n:Rat
structure Bx.Ok(b:Bx):Prop where
 w:0<=b.w
 s:0<=b.s
 e:0<=b.e
 n:0<=b.n
noncomputable def Yd.cut(A:Yd)(b:Bx):Yd:=A.grow false b.e b.n b.w b.s
noncomputable def Yd.back(A:Yd)(b:Bx):Yd:=A.grow true b.w b.s b.e b.n
end U
namespace Q
open PySem L2 Z U
structure Gr(ws:List Rat)(dn up:Rat):Prop where
 u:Up ws
 d0:0<=dn
 u0:0<=up
 b:BqL ws
 bd:Bq dn
 bu:Bq up
 lo:BqL (aCN ws dn)
 hi:BqL (aCJ ws up)
 len:ws.length<=90
noncomputable def bxP(p q r s:Int)(t:Rat):Bx:=⟨(p:Rat)*t,(q:Rat)*t,(r:Rat)*t,(s:Rat)*t⟩
structure CutOk(A:Yd)(p q r s:Int)(t:Rat):Prop where
 hp:p.natAbs<1000
 hq:q.natAbs<1000
 hr:r.natAbs<1000
 hs:s.natAbs<1000
 ht:Bq t
 xc:Gr A.ws (bxP p q r s t).e (bxP p q r s t).w
 yc:Gr A.us (bxP p q r s t).n (bxP p q r s t).s
 xb:Gr A.ws (bxP p q r s t).w (bxP p q r s t).e
 yb:Gr A.us (bxP p q r s t).s (bxP p q r s t).n
end Q
namespace Q
open PySem L2 Z U
theorem hB(A B:Yd)(x y:Rat):(Yd.op jN A B).has x y=(A.has x y&&B.has x y):=Yd.op_has rfl A B x y
theorem hE(A B:Yd)(x y:Rat):(Yd.op b6 A B).has x y=(A.has x y||B.has x y):=Yd.op_has rfl A B x y
theorem hL(A B:Yd)(x y:Rat):(Yd.op aI9 A B).has x y=(A.has x y && !B.has x y):=Yd.op_has rfl A B x y
theorem in1(A B:Yd):Yd.op aI9 (Yd.op jN A B) A=Yd.void:=Yd.ext' λx y=>by rw[hL,hB,Yd.void_has];cases A.has x y <;> cases B.has x y <;> rfl
structure Y8(A:Yd):Prop where
 x:FrL 6 100000000000 A.ws
 y:FrL 6 100000000000 A.us
 lx:A.ws.length<=7
 ly:A.us.length<=7
structure S8(S:List Rat):Prop where
 len:S.length<=30
 fr:FrL 6 100000000000 S
structure O8(Sx Sy:List Rat)(A:Yd):Prop where
 on:On Sx Sy A
 sx:S8 Sx
 sy:S8 Sy
end Q
namespace Q
open PySem L2 Z U
theorem aH6{t b:Int}(hb:0<b):pairD (lowG t b)=gL (vb t b):=by
 rw[<- aLC hb,aM7 _ _ '!'];rfl
end Q
namespace Q
open PySem L2 Z U
structure Pc(p:Int):Prop where
 a:1<=p
 b:p<=9
structure Tm(t:Rat):Prop where
 p:0<=t
 n:t.num.natAbs<=1000000000000
 d:t.den<=1000000
theorem aDS{a b:Int}(hb:0<b):Fr b.toNat a.natAbs (vb a b):=by
 have nb:((b:Int):Rat)≠0:=λe=>by have:=lr.mp (e.trans QW.symm);lia
 refine⟨a,?_,ql _⟩
 have e:((b.toNat:Nat):Rat)=((b:Int):Rat):=by rw[<- zt,Int.toNat_of_nonneg '#']
 rw[b3,e]
 grind
theorem aNC{a b:Int}(hb:0<b):(vb a b).num.natAbs<=a.natAbs/\((vb a b).den:Int)<=b:=by
 obtain⟨h1,h2⟩:=(aDS (a:=a) hb).bd '#'
 exact⟨h1,by lia⟩
structure Yk(m B n:Nat)(A:Yd):Prop where
 x:FrL m B A.ws
 y:FrL m B A.us
 lx:A.ws.length<=n
 ly:A.us.length<=n
structure Mk(m:Nat)(t:Rat):Prop where
 m0:0<m
 m1:m<=100000000000000000000
 p:0<=t
 f:Fr m 100000000000000000000000000000000 t
noncomputable def stp:Nat:=1000000000000000000000000000000000
structure Pp(p q r s:Int):Prop where
 p:Pc p
 q:Pc q
 r:Pc r
 s:Pc s
end Q
namespace Z
open PySem L2
section
variable {F:Fin}{sc:Scope}
theorem zM(iy:Nat){x3:Str}{p1 p3:Pos}(ns:List Str)(cap:List Nat)(hNd:N.Nodup)(h:GI X (.Tuple [.Name x1 p1, .Name x2 p2, .Name x3 p3] kk tp) iter Γ M (aC2 X [x1,x2,x3] ns cap elt ifs scope Γ λd M1=>F.nx (Γ.set iy (some d)) M1))(hsc:X.env.scope=sc:=by rfl)(hN:X.N=N:=by rfl)(ok:qK sc scope [x1,x2,x3] ns cap N=true:=by first|decide +kernel|kernel_rfl!)(hiy:N[iy]?=some y:=by rfl)(hyl:sc.names.lookup y=some .local:=by rfl)(hc:X.calm=true:=by rfl)(hs:∀v,foldedSetIterable iter X.env v=pure v:=by intro _;rfl)(hsw:bf (.ListComp elt [⟨.Tuple [.Name x1 p1, .Name x2 p2, .Name x3 p3] kk tp,iter,ifs,0⟩] scope pos) (some (.Name y py)) spos.line X.env=pure true:=by rfl):
  G1 X (.Assign [.Name y py] (.ListComp elt [⟨.Tuple [.Name x1 p1, .Name x2 p2, .Name x3 p3] kk tp,iter,ifs,0⟩] scope pos) spos) Γ M F:=λσ G H E b c q=>by
 refine hW (xX (tt:=λσ H Q=>∀cs C s₀ H₀ a,vF (aN X scope cs C ([x1,x2,x3]++ns) s₀ H₀ a) ifs σ H Q) (te:=λσ H Q=>∀cs C s₀ H₀ a,tU (aN X scope cs C ([x1,x2,x3]++ns) s₀ H₀ a) elt σ H Q) iy [(x1,p1),(x2,p2),(x3,p3)] ns cap hNd hiy hyl hc hsc hN ok pUI (λcs C s₀ H₀ a pins s σ H Q I h=>h cs C s₀ H₀ a pins s I) (λcs C s₀ H₀ a pins s σ H Q I h=>h cs C s₀ H₀ a pins s I) hs hsw) ?_
 exact aLW rfl h b c λv G1 H1 d M1 s1 e f=>q.nx _ _ _ _ _ s1 ((b.up s1.gg).set e iy) f
end
end Z
namespace Q
open PySem L2 Z U EU
structure Y19(A:Yd):Prop where
 lx:A.ws.length<=21
 ly:A.us.length<=21
 bx:Bnd A.ws
 by_:Bnd A.us
theorem Y19.of_on{A B:Yd}(h:Y19 A)(o:On A.ws A.us B):Y19 B:=
 ⟨jn (j9 B.uw o.x) h.lx,jn (j9 B.uu o.y) h.ly,⟨jn (j9 B.uw o.x) (jn h.lx (by decide)),λw hw=>h.bx.b w (o.x w hw)⟩,⟨jn (j9 B.uu o.y) (jn h.ly (by decide)),λw hw=>h.by_.b w (o.y w hw)⟩⟩
theorem sD:Y19 Yd.void:=⟨by decide,by decide,⟨by decide,λw hw=>(nomatch hw)⟩,⟨by decide,λw hw=>(nomatch hw)⟩⟩
theorem xO(A:Yd):R.Wf (aJ A.ws).length (aJ A.us).length A.K:=by
 rw[aI,aI]
 rcases A.T.v with ⟨h,a,b⟩|⟨h,_,_,g,l,a2,b2⟩
 ·exact⟨.inr ⟨a,b,h⟩,A.T.good.1, .inr ⟨a,b,h⟩⟩
 ·exact⟨.inl l,g, .inl '!'⟩
noncomputable def aLT:Ct:=λds M k=>∃(p:Addr) (b most:Int),ds=[.mt p, .int most]/\1<=most/\most<=11/\FdM M p b/\b<=1000/\∀A M',Y19 A->FdM M' p (b+1000)->dH p M M'->k (yd A) M'
theorem aIL{bt a:Int}(hb:0<bt):gX bt a=gL (vb a bt):=by
 rw[<- aH6 hb]
 unfold gX lowG pairD
 have g:0<=((vo a bt:Nat):Int):=by omega
 dsimp only
 rw[zy _ g,zy _ g]
noncomputable def nS(bt:Int)(ats:List Int):List Rat:=ats.map λa=>vb a bt
theorem wS{bt:Int}(h:Ats bt ats):ats.map (gX bt)=aJ (nS bt ats):=by
 unfold aJ nS
 rw[jw]
 refine jc λa _=>aIL ?_
 rcases h.bt with e|e|e <;> omega
theorem kH{bt:Int}(h:Ats bt ats):Up (nS bt ats):=by
 have c:0<bt:=by rcases h.bt with e|e|e <;> omega
 refine v7.mpr (h.up.imp λ{a b} q => ?_)
 rw[Rat.lt_iff_sub_pos,b3,b3]
 have e:(b:Rat)/(bt:Rat)-(a:Rat)/(bt:Rat)=((b-a:Int):Rat)/(bt:Rat):=by
  rw[ll,ll,ll,Rat.intCast_sub,Qs,Qs,Rat.add_mul,Rat.neg_mul]
 rw[e,ll]
 exact Rat.mul_pos (Jg.mpr '!') (Rat.inv_pos.mpr (Jg.mpr c))
theorem aBC{bt:Int}(h:Ats bt ats)(hl:ats.length<=21):Bnd (nS bt ats):=by
 have f:0<bt/\bt<=9:=by rcases h.bt with e|e|e <;> omega
 refine⟨by unfold nS;rw[zLm];omega,λw hw => ?_⟩
 obtain⟨a,c,rfl⟩:=qq.mp hw
 have b:=h.bd a c
 have d:=aNC (a:=a) f.1
 exact⟨kc d.1 (kc (show a.natAbs<=10^10 by omega) (by decide +kernel)),kc (show _<=9 by omega) (by decide +kernel)⟩
theorem yard19{bx by_:Int}{ax ay:List Int}(hx:Ats bx ax)(hy:Ats by_ ay)(hg:R.Good (ax.length-1) zs)(ly:zs.length=ay.length-1)(hn:ax.length<=21)(hz:ay.length<=21):∃A,jV (ax.map (gX bx)) (ay.map (gX by_)) zs=yd A/\Y19 A:=by
 have e:(nS bx ax).length=ax.length:=zLm ..
 have a:(nS by_ ay).length=ay.length:=zLm ..
 rw[wS hx,wS hy]
 have g:R.Good ((nS bx ax).length-1) zs:=by rw[e];exact hg
 have l:zs.length=(nS by_ ay).length-1:=by rw[a];exact ly
 refine⟨_,qJ (kH hx) (kH hy) g l,?_⟩
 obtain⟨c,d⟩:=Yd.ofG_ws (kH hx) (kH hy) g l
 have f:=aBC hx hn
 have b2:=aBC hy hz
 have h:=j9 (Yd.ofG _ _ zs (kH hx) (kH hy) g l).uw c
 have i:=j9 (Yd.ofG _ _ zs (kH hx) (kH hy) g l).uu d
 exact⟨by omega,by omega,⟨by omega,λw hw=>f.b w (c w hw)⟩,⟨by omega,λw hw=>b2.b w (d w hw)⟩⟩
noncomputable def aFE:Ct:=λds M k=>∃(t:Bool) (dx dy:D) (xs ys:List D) (zs:List Str) (n:Nat),ds=[dx,dy, .lst (zs.map .str)]/\Sq2 t dx xs/\Sq2 t dy ys/\zs.length<=900/\n<=900/\(∀z∈zs,z.length=n)/\(∀j∈R.chg (R.aC zs),j<xs.length)/\(∀j∈R.chg zs,j<ys.length)/\k (jV xs ys zs) M
noncomputable def kD:D->D
 |.tup [_,_,t]=>t
 |_ => .non
theorem aJO(xs ys:List D)(zs:List Str):(R.corn mkC xs ys (R.cL zs) xs.length).map kD=(kn zs xs.length ys.length).map D.str:=by
 unfold R.corn kn
 rw[QN,QN,QO,QO]
 congr 1
 refine jc λi a => ?_
 have a:=q4.mp a
 rw[zGe a]
 show cc kD (R.dR mkC xs[i] ys (R.cL zs i) ys.length)=_
 unfold R.dR
 rw[Qn,Qn]
 refine R.nR λj b => ?_
 have b:=q4.mp b
 rw[zGe b]
 show JP kD ((R.cL zs i j).map (mkC xs[i] ys[j]))=_
 cases R.cL zs i j <;> rfl
theorem aHN{xs ys:List D}(h:d∈R.corn mkC xs ys (R.cL zs) xs.length):∃es:List D,d = .tup es/\es.length=3:=by
 obtain⟨i,j,x,y,t,_,_,_,_,rfl⟩:=R.zH.mp h
 exact⟨_,rfl,rfl⟩
theorem aH0{t:Str}(h:t∈kn zs nx ny):t = "out" \/ t = "in" \/ t = "touch" := by
 unfold kn at h
 obtain⟨i,_,h⟩:=yq.mp h
 obtain⟨j,_,h⟩:=kz.mp h
 unfold R.cL R.kind4 at h
 dsimp only at h
 split at h
 ·exact .inl (qz h).symm
 ·split at h
  ·exact .inr (.inl (qz h).symm)
  ·split at h
   ·exact .inr (.inr (qz h).symm)
   ·cases h
theorem aMZ(zs:List Str)(nx ny:Nat):(kn zs nx ny).length<=nx*ny:=by
 unfold kn
 induction nx with
 |zero=>simp
 |succ n ih =>
  rw[jq,xx,qh,y6,zz]
  have:=yy (λj=>R.cL zs n j) (qr ny)
  rw[xm] at this
  omega
noncomputable def aHY:Ct:=λds M k=>∃A:Yd,ds=[yd A]/\Y19 A/\k (.bl true) M
noncomputable def aOF:Ct:=λds M k=>∃A:Yd,ds=[yd A,yd Yd.void]/\Y19 A/\k (.bl true) M
noncomputable def Som(A:Yd)(i:Nat)(J:Yd):Prop:=On A.ws A.us J/\∀x y,J.has x y=true↔∃B∈(pcY A).take i,B.has x y=true
theorem aPJ(A:Yd):Som A 0 Yd.void:=⟨⟨λw hw=>(nomatch hw),λw hw=>(nomatch hw)⟩,λx y=>by rw[Yd.void_has];simp⟩
theorem aJV{A J B:Yd}(h:Som A i J)(e:(pcY A)[i]?=some B):Yd.op jN J B=Yd.void/\Som A (i+1) (Yd.op b6 J B):=by
 have hB:=zMo e
 obtain⟨d,f⟩:=zGs e
 refine⟨Yd.ext' λx y => ?_,h.1.op (aI5 hB) _,λx y => ?_⟩
 ·rw[Yd.op_has rfl,Yd.void_has]
  unfold jN
  rw[<- QU,qn]
  rintro⟨c,g⟩
  obtain⟨C,a,b⟩:=(h.2 x y).mp c
  obtain⟨j,k,rfl⟩:=qj a
  rw[br] at b
  rw[vw] at k
  exact jb.mp (aGQ (A:=A)) j i '!' d '!' x y ⟨b,f▸g⟩
 ·rw[Yd.op_has rfl]
  unfold b6
  rw[yh,h.2 x y,mi,e]
  constructor
  ·rintro (⟨C,a,b⟩|b)
   ·exact⟨C,q6 _ a,b⟩
   ·exact⟨B,qx _ '$',b⟩
  ·rintro⟨C,a,b⟩
   rcases q5.mp a with a|a
   ·exact .inl ⟨C,a,b⟩
   ·have:C=B:=by simpa using a
    subst this
    exact .inr b
theorem aJ5{A J:Yd}(h:Som A (pcY A).length J):J=A:=by
 refine Yd.ext' λx y=>nZ ?_
 rw[h.2 x y,qw,aNF (A:=A)]
theorem aBQ(A:Yd)(h:Y19 A):(pcY A).length<=500/\(hlY A).length<=500:=by
 have c:=mD (zs:=A.K) (b:=true) h.lx h.ly
 have a:=mD (zs:=A.K) (b:=false) h.lx h.ly
 have s1:=R.gZ (R.aA A.K true A.ws.length A.us.length) straight (R.aA A.K true A.ws.length A.us.length).length
 have s2:=R.gZ (R.aA A.K false A.ws.length A.us.length) aL (R.aA A.K false A.ws.length A.us.length).length
 unfold pcY hlY hps gps
 rw[ju,zLm,zLm]
 omega
theorem aM4(l:List Yd):okDs 3 (l.map yd)=true:=by
 induction l with
 |nil=>rfl
 |cons A l ih=>rw[jd];simp only[okDs,qn];exact⟨oY A,ih⟩
theorem j5(l:List Yd):okD 4 (.lst (l.map yd))=true:=by simp only[okD];exact aM4 l
theorem tW(l l':List Yd):eqD (.lst (l.map yd)) (.lst (l'.map yd))=decide (l=l'):=by
 have h:∀l l':List Yd,eqDs (l.map yd) (l'.map yd)=decide (l=l'):=by
  intro l
  induction l with
  |nil=>intro l';cases l' <;> simp[eqDs]
  |cons A l ih =>
   intro l'
   cases l' with
   |nil=>simp[eqDs]
   |cons B l' =>
    rw[jd,jd]
    simp only[eqDs]
    rw[xR,ih]
    by_cases a:A=B <;> by_cases b:l=l' <;> simp[a,b]
 simp only[eqD]
 exact h l l'
theorem oM{A:Yd}(h:Y19 A):∀z∈A.K,z.length<=1000:=λz hz=>by
 have:=A.wide.1 z hz
 have:=h.lx
 omega
theorem r9(A:Yd):(0<(aJ A.ws).length/\0<(aJ A.us).length)\/(aJ A.ws=[]/\aJ A.us=[]):=by
 rcases A.T.v with ⟨h,a,b⟩|⟨h,_,_,g,l,a2,b2⟩
 ·rw[jr.mp a,jr.mp b];exact .inr ⟨rfl,rfl⟩
 ·rw[aI,aI];exact .inl ⟨by omega,by omega⟩
theorem aIP{t:Str}(h:t = "out" \/ t = "in" \/ t = "touch"):([D.str "out", .str "in", .str "touch"].any λx=>eqD x (.str t))=true:=by
 rcases h with rfl|rfl|rfl <;> decide +kernel
theorem aLU{z:Int}(h0:0<=z)(h1:z<3):∃m:Int,atI [D.int 3, .int 5, .int 7] z=some (.int m)/\1<=m/\m<=11:=by
 have:z=0\/z=1\/z=2:=by omega
 rcases this with rfl|rfl|rfl
 ·exact⟨3,rfl,by decide,by decide⟩
 ·exact⟨5,rfl,by decide,by decide⟩
 ·exact⟨7,rfl,by decide,by decide⟩
theorem tM{α:Type}(l:List α)(t:Nat)(h:t<l.length):cutD l (some ((t:Int)+1)) none=l.drop (t+1):=by
 rw[show (t:Int)+1=((t+1:Nat):Int) by omega]
 exact iN l (t+1) h
end Q
namespace Q
open PySem L2 Z
open U EU
section
variable {K:qe}
abbrev zl0:List Str:=["_law_feed_here", "_law_way", "_law_k", "_law_j", "_law_wide", "_law_high"]
abbrev zl1:List Str:=["yard", "across", "up", "cells", "inside"]
abbrev zl2:List Str:=["_law_xs", "_law_ys", "_law_rows"]
abbrev zl3:List Str:=["_law_lines_here", "_law_some"]
abbrev zl4:List Str:=["_law_feed_here", "_law_many"]
abbrev zl5:List Str:=["_law_yard_here", "_law_void"]
abbrev zl6:List Str:=["_law_feed_here", "_law_most"]
abbrev zl7:List Str:=["start", "cells", "steps"]
abbrev zl8:List Str:=["_law_one", "_law_other"]
abbrev zl9:List Str:=["yard", "acrosses", "up"]
abbrev zl10:List Str:=["_law_script", "_law_k"]
abbrev zl11:List Str:=["one", "other", "pairs"]
abbrev zl12:List Str:=["yard", "across", "up"]
abbrev zl13:List Str:=["group", "wide", "up"]
abbrev zl14:List Str:=["xs", "ys", "rows"]
abbrev zl15:List Str:=["yard", "xs", "ys"]
abbrev zl16:List Str:=["rows", "place"]
abbrev zl17:List Str:=["row", "places"]
abbrev zl18:List Str:=["one", "other"]
abbrev zl19:List Str:=["_law_rows"]
abbrev zl20:List Str:=["yard"]
theorem zSc{ps:List Str}{sc:Scope}(h:FnScope N ps sc:=by exact⟨rfl,rfl,rfl,by decide +kernel,rfl,by decide +kernel,by decide +kernel⟩):FnScope N ps sc:=h
theorem nC:FnScope ["_law_script", "_law_k", "_law_cell", "_law_great"] zl10 (aM uB):=zSc
abbrev aGF(P w K mg z):=Fo P w K mg z "_law_feed" uB zl10 1 aPP
theorem aKR(Df:R.Df K mg "_law_feed" uB zl10 f fd)(T:Bt mg):aGF P w K mg z:=by
 refine⟨f,fd,Df,bM Df nC (λds M k h => ?_) (λe A outer s H E r ds M k h => ?_)⟩
 ·obtain⟨ns,i,rfl,_⟩:=h;rfl
 obtain⟨ns,i,rfl,m,l,j⟩:=h
 refine aB (aK 2 nC.nd (z4 (aB (pT (λΓ' M'=>M'=M/\∃c:Int,Γ'=[some (.fl (ns.map .int)),some (.int i),some (.int c),none]) ?_ ?_))))
 ·refine dE (qF T.len [1,0] rfl trivial (ite2 (λb => ?_) (λb => ?_)))
  ·have a:=of_decide_eq_true b
   rw[zLm] at a
   obtain⟨z,o⟩:=aIM (ns:=ns) m a
   exact aH (aK 2 nC.nd (a9 aW (aD 0 rfl (aD 1 rfl (bB (.fl _) o ⟨rfl,_,rfl⟩)))))
  ·exact bU ⟨rfl,_,rfl⟩
 rintro Γ' M' ⟨rfl,c,rfl⟩
 refine aB (aK 3 nC.nd (b8 zP T.abs gm (aR [2] rfl (aEL (aB (pT (λΓ' M1=>M1=M'/\∃g:Int,0<=g/\Γ'=[some (.fl (ns.map .int)),some (.int i),some (.int c),some (.int g)]) ?_ ?_))))))
 ·refine dE (aPV [3] rfl ⟨⟨by decide,by decide,by decide⟩,trivial⟩ (ite2 (λb => ?_) (λb => ?_)))
  ·exact aH (aK 3 nC.nd (z4 ⟨rfl,0,by omega,rfl⟩))
  ·exact bU ⟨rfl,_,by split <;> omega,rfl⟩
 rintro Γ' M' ⟨rfl,g,q,rfl⟩
 refine aH (aT (i5 ?_))
 have hm:=zq c (show (2147483399:Int)≠0 by decide)
 have n:=y3 c (show (0:Int)<2147483399 by decide)
 refine aI2 [3,2,1] rfl ⟨(show (0:Int)<_ by first|decide|omega),(.inl (by first|exact .inl ⟨by omega,by omega⟩|exact .inr ⟨by omega,by omega⟩)),(.inl (by first|exact .inl ⟨by omega,by omega⟩|exact .inr ⟨by omega,by omega⟩)),(show (0:Int)<_ by first|decide|omega),trivial⟩ ⟨(show 3<=sizeLine by decide),λp d=>(j p _ d ((Le.refl _).upd d) ⟨g,_,0,aG,q,?_,?_,by omega,by omega⟩)⟩
 ·exact zq _ (by decide)
 ·exact y3 _ (by decide)
theorem lI:FnScope ["_law_feed_here", "_law_many", "_law_digit", "_law_count", "_law_mixed"] zl4 (aM uC):=zSc
abbrev p8(P w K mg z):=Fo P w K mg z "_law_next" uC zl4 1 aOZ
theorem aL0(Df:R.Df K mg "_law_next" uC zl4 f fd):p8 P w K mg z:=by
 refine⟨f,fd,Df,bM Df lI (λds M k h => ?_) (λr A outer s H E x ds M k h => ?_)⟩
 ·obtain⟨p,n,b,rfl,_⟩:=h;rfl
 obtain⟨p,n,b,rfl,e,j,⟨g,m,st,c,q,hm,d,t,u⟩,y,o⟩:=h
 refine aB (dE (b5 aI4 (a9 aW (aD 0 rfl (z4 (bB (.mt c) rfl (z4 (pW ⟨_,rfl,(ite2 (λl => ?_) (λl => ?_))⟩))))))))
 ·exact aB (aK 2 lI.nd (bR yW (a9 aW (aD 0 rfl (z4 (bB (.mt c) rfl (aD 1 rfl (jF (show (0:Int)<_ by first|decide|omega) (aB (m9 (bR aB2 (a9 aW (aD 0 rfl (z4 (bB (.mt c) rfl (aD 1 rfl (jF ⟨e,j⟩ (aEW (aD 0 rfl (z4 ⟨p,0,0,_,rfl,rfl,c,rfl,(aH (aT (aD 2 rfl (o _ _ (zq _ '!') (y3 _ e) ⟨_,m,st,aG,Int.ediv_nonneg q '!',hm,d,t,by omega⟩ (dH.refl p M).upd (λa i=>bD i)))))⟩))))))))))))))))))))
 ·refine bU (aB (m9 (bR gE (a9 aW (aD 0 rfl (z4 (bB (.mt c) rfl (z4 (iH (aEW (aD 0 rfl (z4 ⟨p,2,2,_,rfl,rfl,c,rfl,(aB (aK 3 lI.nd (a9 aW (aD 0 rfl (z4 (bB (.mt aG) rfl (aB (aK 4 lI.nd ?_))))))))⟩))))))))))))
  have v : -(2^64)<st+1/\st+1<2^64:=by omega
  exact bR yW (bR gE (bR gE (a9 aW (aD 0 rfl (z4 (bB (.mt aG) rfl (fL [3,3] rfl ⟨(.inl (.inr v)),(.inl (.inl ⟨by decide,by decide⟩)),trivial⟩ (iH (fL [3] rfl ⟨(.inl (.inl ⟨by decide,by decide⟩)),trivial⟩ (iH (z4 (jF (show (0:Int)<_ by first|decide|omega) (aB (aK 4 lI.nd (fL [4,4,4,3] rfl ⟨(show (0:Int)<_ by first|decide|omega),(.inl (.inl ⟨by decide,by decide⟩)),(.inl (.inl (R.wB _ (by decide) (by decide)))),trivial⟩ (aB (aK 4 lI.nd (fL [4,4,4] rfl ⟨(show (0:Int)<_ by first|decide|omega),(.inl (.inl ⟨by decide,by decide⟩)),(.inl (.inl (R.wB _ (by decide) (by decide)))),trivial⟩ (aH (aT (fL [4,1] rfl ⟨e,⟨by decide,by decide⟩,trivial⟩ (o _ _ (zq _ '!') (y3 _ e) ⟨g,m,st+1,aG,q,hm,d,by omega,by omega⟩ (dH.refl p M).upd (λa i=>bD i)))))))))))))))))))))))
theorem xA:FnScope zl8 zl8 (aM nN):=zSc
abbrev aAR(P w K mg z):=Fo P w K mg z "_law_shared" nN zl8 1 aK3
theorem aEZ(Df:R.Df K mg "_law_shared" nN zl8 f fd)(T:Bt mg):aAR P w K mg z:=by
 refine⟨f,fd,Df,bM Df xA (λds M k h => ?_) (λg A outer s H E j ds M k h => ?_)⟩
 ·obtain⟨a,b,rfl,_⟩:=h;rfl
 obtain⟨a,b,rfl,i⟩:=h
 refine aB (oF (λm Γ' M'=>M'=M/\∃x y:Int,Γ'=[some (.int x),some (.int y)]/\vo x y=vo a b/\m=y.natAbs) (n:=b.natAbs) ⟨rfl,a,b,rfl,rfl,rfl⟩ ?_)
 rintro m Γ' M' ⟨rfl,x,y,rfl,e,rfl⟩
 refine pG [1] rfl (ite2 (λd => ?_) (λd => ?_))
 ·have c:y≠0:=λz=>by subst z;simp at d
  refine aH (aMB 0 1 xA.nd (by decide) (aE (aD 1 rfl (aE (bR aKQ (aD 0 rfl (aD 1 rfl (jF c (aS ⟨_,_,rfl,_,Num.aJT x y c,rfl,_,_,rfl,?_,rfl⟩)))))))))
  rw[Num.aHB];exact e
 ·have c:y=0:=by simpa using d
  subst c
  refine aH (aT (b8 zP T.abs gm (aR [0] rfl (aEL ?_))))
  rw[R.aLR,e]
  exact i
theorem aFR:FnScope zl16 zl16 (aM oU):=zSc
abbrev yG(P w K mg z):=Fo P w K mg z "column" oU zl16 1 aG2
theorem aEI(Df:R.Df K mg "column" oU zl16 f fd):yG P w K mg z:=by
 refine⟨f,fd,Df,bM Df aFR (λds M k h => ?_) (λl A outer s H E p ds M k h => ?_)⟩
 ·obtain⟨t,r,zs,n,j,rfl,_⟩:=h;rfl
 obtain⟨t,r,zs,n,j,rfl,s1,hl,o,c,q,i⟩:=h
 cases t with
 |true =>
  cases s1
  refine aH (aT (dX kx vg vf iZ (ge_str ⟨rfl,(aE ((bO ["place"] [1] (cD (aD 0 rfl ⟨_, .inr (.inl rfl),(dM (ds:=zs.map D.str) (by rw[zLm];exact R.aX '!') (λd a M2=>M2=M/\a=((zs.take d).map λz=>(⟨#[R.atS z j]⟩:Str)).map D.str) ⟨rfl,rfl⟩ ?_ ?_)⟩)))))⟩)))
  ·rintro d m a M2 hd2 ⟨rfl,rfl⟩ cs C s₀ H₀ g
   obtain⟨z,b,rfl⟩:=cR hd2
   have e:=c z (zMo b)
   refine bF (cT λcs C s₀ H₀ g=>(a9 aW (aD 0 rfl (aD 1 rfl (nD (R.aX '!') (R.tH '!') ⟨rfl,?_⟩)))))
   rw[take_snoc b,qg,qg]
   rfl
  ·rintro a M2 ⟨rfl,rfl⟩
   rw[zLm,qw]
   refine aS (iY (ys:=zs.map λz=>(⟨#[R.atS z j]⟩:Str)) (.lst _) (by decide +kernel) ?_ ?_)
   ·rw[lM _ (λz c => ?_),zLm]
    ·omega
    ·obtain⟨y,_,rfl⟩:=qq.mp c
     rfl
   ·rw[R.fK,rX]
    exact i
 |false =>
  cases s1
  refine aH (aT (dX kx vg vf iZ (ge_str ⟨rfl,(aE ((bO ["place"] [1] (cD (aD 0 rfl ⟨_, .inl rfl,(dM (ds:=zs.map D.str) (by rw[zLm];exact R.aX '!') (λd a M2=>M2=M/\a=((zs.take d).map λz=>(⟨#[R.atS z j]⟩:Str)).map D.str) ⟨rfl,rfl⟩ ?_ ?_)⟩)))))⟩)))
  ·rintro d m a M2 hd2 ⟨rfl,rfl⟩ cs C s₀ H₀ g
   obtain⟨z,b,rfl⟩:=cR hd2
   have e:=c z (zMo b)
   refine bF (cT λcs C s₀ H₀ g=>(a9 aW (aD 0 rfl (aD 1 rfl (nD (R.aX '!') (R.tH '!') ⟨rfl,?_⟩)))))
   rw[take_snoc b,qg,qg]
   rfl
  ·rintro a M2 ⟨rfl,rfl⟩
   rw[zLm,qw]
   refine aS (iY (ys:=zs.map λz=>(⟨#[R.atS z j]⟩:Str)) (.lst _) (by decide +kernel) ?_ ?_)
   ·rw[lM _ (λz c => ?_),zLm]
    ·omega
    ·obtain⟨y,_,rfl⟩:=qq.mp c
     rfl
   ·rw[R.fK,rX]
    exact i
theorem nY:FnScope ["rows", "wide"] ["rows"] (aM mC):=zSc
abbrev wV(P w K mg z):=Fo P w K mg z "columns" mC ["rows"] 2 aGH
theorem aCH(Df:R.Df K mg "columns" mC ["rows"] f fd)(aP3:yG P w K mg z)(T:Bt mg):wV P w K mg z:=by
 refine⟨f,fd,Df,bM Df nY (λds M k h => ?_) (λo A outer s H E m ds M k h => ?_)⟩
 ·obtain⟨t,r,zs,n,rfl,_⟩:=h;rfl
 obtain⟨t,r,zs,n,rfl,s1,hl,l,b,g⟩:=h
 cases t with
 |true =>
  cases s1
  refine aB (pT (λΓ' M'=>M'=M/\Γ'=[some (.lst (zs.map D.str)),some (.int (((zs.head?.map (·.length)).getD 0:Nat):Int))]) (aK 1 nY.nd (lU ?_)) ?_)
  ·refine l8 (aD 0 rfl ⟨_, .seq (.lst _),(ite2 (λa => ?_) (λa => ?_))⟩)
   ·cases zs with
    |nil=>cases a
    |cons z zr =>
     have e:=b z '$'
     exact b8 dL T.len va (aE (a9 aW (aD 0 rfl (z4 (bB (.lst _) (qD z zr) (aS (iX (R.aX '!') ⟨rfl,rfl⟩)))))))
   ·cases zs with
    |nil =>
     exact z4 ⟨rfl,rfl⟩
    |cons z zr=>exact absurd rfl a
  rintro Γ' M' ⟨rfl,rfl⟩
  have hw:(zs.head?.map (·.length)).getD 0<=n:=by
   cases zs with
   |nil=>exact vq _
   |cons z zr=>exact z6 (b z '$')
  refine aH (aT ((bO ["rows"] [0] (fW T.range (aR [1] rfl ⟨_,rfl,by omega,by omega,?_⟩)))))
  rw[qi]
  refine dM (by rw[bC];exact R.aX '!') (λi acc M1=>M1=M'/\acc=((qr i).map λj=>R.ofL (zs.map (R.atS · j))).map D.str) ⟨rfl,rfl⟩ ?_ ?_
  ·rintro i d acc M1 hd ⟨rfl,rfl⟩ cs C s₀ H₀ c
   obtain⟨p,rfl⟩:=c8 hd
   rw[kq]
   refine bF (cT λcs C s₀ H₀ c=>(aO aP3 m (aR [1,0] rfl ⟨true,_,zs,n,i,rfl,rfl,hl,l,b,by omega,?_⟩)))
   refine⟨rfl,?_⟩
   rw[jq,qg,qg]
   rfl
  ·rintro acc M1 ⟨rfl,rfl⟩
   rw[bC]
   exact g
 |false =>
  cases s1
  refine aB (pT (λΓ' M'=>M'=M/\Γ'=[some (.tup (zs.map D.str)),some (.int (((zs.head?.map (·.length)).getD 0:Nat):Int))]) (aK 1 nY.nd (lU ?_)) ?_)
  ·refine l8 (aD 0 rfl ⟨_, .seq (.tup _),(ite2 (λa => ?_) (λa => ?_))⟩)
   ·cases zs with
    |nil=>cases a
    |cons z zr =>
     have e:=b z '$'
     exact b8 dL T.len va (aE (a9 aW (aD 0 rfl (z4 (bB (.tup _) (qD z zr) (aS (iX (R.aX '!') ⟨rfl,rfl⟩)))))))
   ·cases zs with
    |nil =>
     exact z4 ⟨rfl,rfl⟩
    |cons z zr=>exact absurd rfl a
  rintro Γ' M' ⟨rfl,rfl⟩
  have hw:(zs.head?.map (·.length)).getD 0<=n:=by
   cases zs with
   |nil=>exact vq _
   |cons z zr=>exact z6 (b z '$')
  refine aH (aT ((bO ["rows"] [0] (fW T.range (aR [1] rfl ⟨_,rfl,by omega,by omega,?_⟩)))))
  rw[qi]
  refine dM (by rw[bC];exact R.aX '!') (λi acc M1=>M1=M'/\acc=((qr i).map λj=>R.ofL (zs.map (R.atS · j))).map D.str) ⟨rfl,rfl⟩ ?_ ?_
  ·rintro i d acc M1 hd ⟨rfl,rfl⟩ cs C s₀ H₀ c
   obtain⟨p,rfl⟩:=c8 hd
   rw[kq]
   refine bF (cT λcs C s₀ H₀ c=>(aO aP3 m (aR [1,0] rfl ⟨false,_,zs,n,i,rfl,rfl,hl,l,b,by omega,?_⟩)))
   refine⟨rfl,?_⟩
   rw[jq,qg,qg]
   rfl
  ·rintro acc M1 ⟨rfl,rfl⟩
   rw[bC]
   exact g
theorem i9:FnScope ["bands", "outside", "framed"] ["bands"] (aM mI):=zSc
abbrev wO(P w K mg z):=Fo P w K mg z "changes" mI ["bands"] 1 aGI
theorem aCQ(Df:R.Df K mg "changes" mI ["bands"] f fd)(T:Bt mg):wO P w K mg z:=by
 refine⟨f,fd,Df,bM Df i9 (λds M k h => ?_) (λy A outer s H E I ds M k h => ?_)⟩
 ·obtain⟨t,r,zs,n,rfl,_⟩:=h;rfl
 obtain⟨t,r,zs,n,rfl,s1,hl,G,x,p⟩:=h
 cases t with
 |true =>
  cases s1
  refine aB (dE (lO (l8 (aD 0 rfl ⟨_, .seq (.lst _),(ite2 (λc => ?_) (λc => ?_))⟩))))
  ·have e:zs=[]:=by
    cases zs with
    |nil=>rfl
    |cons z a=>exact absurd c '$'
   subst e
   exact aH (aT (bJ [] rfl p))
  have g:zs≠[]:=λe=>by subst e;exact c rfl
  obtain⟨b,a,rfl⟩:∃b a,zs=b::a:=by
   cases zs with
   |nil=>exact absurd rfl g
   |cons z a=>exact⟨z,a,rfl⟩
  have F:=x b '$'
  refine bU (aB (aK 1 i9.nd (bR vJ (ge_str (b8 dL T.len va (aE (a9 aW (aD 0 rfl (z4 (bB (.lst _) (qD b a) (aS (iX (R.aX '!') (uK '!' '!' (rQ '!') ?_)))))))))))))
  rw[qi,R.pR]
  refine aB (aK 2 i9.nd (bR kA (bR kA (bJ [1] rfl (cP jC T.list R.BL (aR [0] rfl (qW (.lst _) (j8 (.lst _) (.lst _) (by rw[zLm];exact R.aX (by simp only[qp,xl] at hl ⊢;omega)) (bJ [1] rfl (j8 (.lst _) (.lst _) (by simp only[qh,zLm,qp,xl] at hl ⊢;exact R.aX '!') ?_))))))))))
  rw[show [D.str (R.dots b.length)]++(b::a).map D.str++[D.str (R.dots b.length)]=(R.framed (b::a)).map D.str from by simp[R.framed]]
  generalize hzz:b::a=zs at *
  refine aH (aT ((bO ["framed"] [2] (fW T.range (i6 T.len [2] rfl trivial ?_)))))
  rw[zLm,R.kW]
  refine⟨_,rfl,by omega,by omega,?_⟩
  rw[show (((zs.length+2:Nat):Int)-1).toNat=zs.length+1 by omega]
  refine dM (by rw[bC];exact R.aX '!') (λi acc M'=>M'=M/\acc=((qr i).filter λi => !decide ((R.framed zs)[i]?=(R.framed zs)[i+1]?)).map λ(j:Nat)=>D.int (j:Int)) ⟨rfl,rfl⟩ ?_ ?_
  ·rintro i d acc M' hd ⟨rfl,rfl⟩ cs C s₀ H₀ q
   obtain⟨B,rfl⟩:=c8 hd
   obtain⟨u,m⟩:=gW (zs:=zs) (i:=i) '!'
   obtain⟨v,l⟩:=gW (zs:=zs) (i:=i+1) '!'
   refine nK (b5 oH (a9 aW (aD 1 rfl (aD 0 rfl (bB (.lst _) (nH m) (a9 aW (aD 1 rfl (bJ [0] rfl (bB (.lst _) (sE l) (tK ⟨_,rfl,?_⟩))))))))))
   have o:(!decide ((R.framed zs)[i]?=(R.framed zs)[i+1]?))=(!decide (u=v)):=by rw[m,l];congr 1;simp
   refine ite2 (λc=>λcs C s₀ H₀ q => ?_) (λc => ?_)
   ·refine aD 0 rfl ⟨rfl,?_⟩
    rw[fY,if_pos (by rw[o];exact c),qg,kq]
    rfl
   ·refine⟨rfl,?_⟩
    rw[fY,if_neg (by rw[o];exact c)]
  rintro acc M' ⟨rfl,rfl⟩
  rw[bC,aAF]
  exact p
 |false =>
  cases s1
  refine aB (dE (lO (l8 (aD 0 rfl ⟨_, .seq (.tup _),(ite2 (λc => ?_) (λc => ?_))⟩))))
  ·have e:zs=[]:=by
    cases zs with
    |nil=>rfl
    |cons z a=>exact absurd c '$'
   subst e
   exact aH (aT (bJ [] rfl p))
  have g:zs≠[]:=λe=>by subst e;exact c rfl
  obtain⟨b,a,rfl⟩:∃b a,zs=b::a:=by
   cases zs with
   |nil=>exact absurd rfl g
   |cons z a=>exact⟨z,a,rfl⟩
  have F:=x b '$'
  refine bU (aB (aK 1 i9.nd (bR vJ (ge_str (b8 dL T.len va (aE (a9 aW (aD 0 rfl (z4 (bB (.tup _) (qD b a) (aS (iX (R.aX '!') (uK '!' '!' (rQ '!') ?_)))))))))))))
  rw[qi,R.pR]
  refine aB (aK 2 i9.nd (bR kA (bR kA (bJ [1] rfl (cP jC T.list R.BL (aR [0] rfl (qW (.tup _) (j8 (.lst _) (.lst _) (by rw[zLm];exact R.aX (by simp only[qp,xl] at hl ⊢;omega)) (bJ [1] rfl (j8 (.lst _) (.lst _) (by simp only[qh,zLm,qp,xl] at hl ⊢;exact R.aX '!') ?_))))))))))
  rw[show [D.str (R.dots b.length)]++(b::a).map D.str++[D.str (R.dots b.length)]=(R.framed (b::a)).map D.str from by simp[R.framed]]
  generalize hzz:b::a=zs at *
  refine aH (aT ((bO ["framed"] [2] (fW T.range (i6 T.len [2] rfl trivial ?_)))))
  rw[zLm,R.kW]
  refine⟨_,rfl,by omega,by omega,?_⟩
  rw[show (((zs.length+2:Nat):Int)-1).toNat=zs.length+1 by omega]
  refine dM (by rw[bC];exact R.aX '!') (λi acc M'=>M'=M/\acc=((qr i).filter λi => !decide ((R.framed zs)[i]?=(R.framed zs)[i+1]?)).map λ(j:Nat)=>D.int (j:Int)) ⟨rfl,rfl⟩ ?_ ?_
  ·rintro i d acc M' hd ⟨rfl,rfl⟩ cs C s₀ H₀ q
   obtain⟨B,rfl⟩:=c8 hd
   obtain⟨u,m⟩:=gW (zs:=zs) (i:=i) '!'
   obtain⟨v,l⟩:=gW (zs:=zs) (i:=i+1) '!'
   refine nK (b5 oH (a9 aW (aD 1 rfl (aD 0 rfl (bB (.lst _) (nH m) (a9 aW (aD 1 rfl (bJ [0] rfl (bB (.lst _) (sE l) (tK ⟨_,rfl,?_⟩))))))))))
   have o:(!decide ((R.framed zs)[i]?=(R.framed zs)[i+1]?))=(!decide (u=v)):=by rw[m,l];congr 1;simp
   refine ite2 (λc=>λcs C s₀ H₀ q => ?_) (λc => ?_)
   ·refine aD 0 rfl ⟨rfl,?_⟩
    rw[fY,if_pos (by rw[o];exact c),qg,kq]
    rfl
   ·refine⟨rfl,?_⟩
    rw[fY,if_neg (by rw[o];exact c)]
  rintro acc M' ⟨rfl,rfl⟩
  rw[bC,aAF]
  exact p
theorem aEX:FnScope zl17 zl17 (aM oJ):=zSc
abbrev yC(P w K mg z):=Fo P w K mg z "picked" oJ zl17 1 aJL
theorem aFK(Df:R.Df K mg "picked" oJ zl17 f fd):yC P w K mg z:=by
 refine⟨f,fd,Df,bM Df aEX (λds M k h => ?_) (λi A outer s H E o ds M k h => ?_)⟩
 ·obtain⟨z,c,rfl,_⟩:=h;rfl
 obtain⟨z,c,rfl,e,hl,n,l⟩:=h
 refine aH (aT (dX kx vg vf iZ (ge_str ⟨rfl,(aE ((bO ["row"] [0] (cD (aD 1 rfl ⟨_, .inr (.inl rfl),(dM (ds:=dB c) (by rw[cJ];exact R.aX '!') (λg a M2=>M2=M/\a=((c.take g).map λj=>(⟨#[R.atS z j]⟩:Str)).map D.str) ⟨rfl,rfl⟩ ?_ ?_)⟩)))))⟩)))
 ·rintro g p a M2 hd2 ⟨rfl,rfl⟩ cs C s₀ H₀ m
  obtain⟨j,b,rfl⟩:=fS hd2
  have d:=n j (zMo b)
  refine bF (cT λcs C s₀ H₀ m=>(a9 aW (aD 1 rfl (aD 0 rfl (nD (R.aX '!') (R.tH d) ⟨rfl,?_⟩)))))
  rw[take_snoc b,qg,qg]
  rfl
 ·rintro a M2 ⟨rfl,rfl⟩
  rw[cJ,qw]
  refine aS (iY (ys:=c.map λj=>(⟨#[R.atS z j]⟩:Str)) (.lst _) (by decide +kernel) ?_ ?_)
  ·rw[lM _ (λz e => ?_),zLm]
   ·omega
   ·obtain⟨y,_,rfl⟩:=qq.mp e
    rfl
  ·rw[R.fK,aC1]
   exact l
theorem gH:FnScope ["xs", "ys", "rows", "at_xs", "at_ys", "kept"] zl14 (aM oX):=zSc
abbrev rT(P w K mg z):=Fo P w K mg z "tidied" oX zl14 3 aFE
theorem aGB(Df:R.Df K mg "tidied" oX zl14 f fd)(aP4:wO P w K mg z)(aP5:wV P w K mg z)(aP6:yC P w K mg z)(T:Bt mg):rT P w K mg z:=by
 refine⟨f,fd,Df,bM Df gH (λds M k h => ?_) (λy A outer s H E m ds M k h => ?_)⟩
 ·obtain⟨t,F,B,xs,r,zs,n,rfl,_⟩:=h;rfl
 obtain⟨t,F,B,xs,r,zs,n,rfl,s1,s2,hl,I,c,x,u,v⟩:=h
 have cl:=R.n8 c
 have G:=R.lE (R.aC zs)
 have J:=R.lE zs
 cases t with
 |true =>
  cases s1
  cases s2
  refine aB (aK 3 gH.nd (aO aP4 m (aE (aO aP5 m (aR [2] rfl ⟨true,_,zs,n,rfl,rfl,by omega,by omega,c,?_⟩)))))
  refine aS ⟨true,_,R.aC zs,zs.length,rfl,rfl,by omega,by omega,λz c=>R.fJ z c,?_⟩
  refine aB (aK 4 gH.nd (aO aP4 m (aR [2] rfl ⟨true,_,zs,n,rfl,rfl,by omega,by omega,c,?_⟩)))
  have p:∀j∈(R.chg (R.aC zs)).dropLast,j<n:=λj b=>by
   have:=R.iP (R.bV _) (R.dU _) j b
   omega
  refine aB (gS 5 ["rows", "at_xs"] [2,3] gH.nd (cD (bJ [4] rfl ?_)))
  rw[show cutD (dB (R.chg zs)) none (some (-1))=dB (R.chg zs).dropLast from (gJ _).trans (fV _)]
  refine⟨_, .inr (.inl rfl),(qH (ds:=dB (R.chg zs).dropLast) (by rw[cJ,q7];exact R.aX '!') (λi acc M2=>M2=M/\acc=(((R.chg zs).dropLast.take i).map λi=>R.ofL ((R.chg (R.aC zs)).dropLast.map (R.atS (zs.getD i vp)))).map D.str) ⟨rfl,rfl⟩ ?_ ?_)⟩
  ·rintro i d acc M2 hd ⟨rfl,rfl⟩ cs C s₀ H₀ g
   obtain⟨j,b,rfl⟩:=fS hd
   have o:=R.iP (R.bV zs) (R.dU zs) j (zMo b)
   have l:zs[j]?=some (zs.getD j vp):=by rw[zGd,zGe o];rfl
   have e:=zMo l
   refine bF (cT λcs C s₀ H₀ g=>(aO aP6 m (aE (a9 aW (aD 1 rfl (aD 0 rfl (bB (.lst _) (by have:=nH l;rw[kq] at this;exact this) (aE (bJ [2] rfl (aS ?_))))))))))
   rw[show cutD (dB (R.chg (R.aC zs))) none (some (-1))=dB (R.chg (R.aC zs)).dropLast from (gJ _).trans (fV _)]
   refine⟨_,(R.chg (R.aC zs)).dropLast,rfl,by rw[c _ e];omega,by rw[q7];omega,λj b=>by rw[c _ e];exact p j b,?_⟩
   refine⟨rfl,?_⟩
   rw[cC b,qg]
   rfl
  rintro acc M2 ⟨rfl,rfl⟩ a q
  rw[cJ,qw]
  refine kB 5 rfl aG ?_
  rw[iJ q]
  refine aH (aT (pL (aE (cP cX T.tuple R.BT (aE (bO ["xs"] [0] (cD (aD 3 rfl ⟨_, .inr (.inl rfl),(dM (ds:=dB (R.chg (R.aC zs))) (by rw[cJ];exact R.aX '!') (λi acc M1=>M1=M2/\acc=((R.chg (R.aC zs)).take i).map λj=>xs.getD j .non) ⟨rfl,rfl⟩ ?_ ?_)⟩))))))))
  ·rintro i d acc M1 hd ⟨rfl,rfl⟩ cs C s₀ H₀ g
   obtain⟨j,b,rfl⟩:=fS hd
   exact bF (cT λcs C s₀ H₀ g=>(a9 aW (aD 1 rfl (aD 0 rfl (bB (.lst _) (yX (x j (zMo b))) ⟨rfl,(cC b).symm⟩)))))
  rintro acc M1 ⟨rfl,rfl⟩
  rw[cJ,qw]
  refine aS (fN (.lst _) (aE (cP cX T.tuple R.BT (aE (bO ["ys"] [1] (cD (aD 4 rfl ⟨_, .inr (.inl rfl),(dM (ds:=dB (R.chg zs)) (by rw[cJ];exact R.aX '!') (λi acc M2=>M2=M1/\acc=((R.chg zs).take i).map λj=>r.getD j .non) ⟨rfl,rfl⟩ ?_ ?_)⟩)))))))
  ·rintro i d acc M2 hd ⟨rfl,rfl⟩ cs C s₀ H₀ g
   obtain⟨j,b,rfl⟩:=fS hd
   exact bF (cT λcs C s₀ H₀ g=>(a9 aW (aD 1 rfl (aD 0 rfl (bB (.lst _) (yX (u j (zMo b))) ⟨rfl,(cC b).symm⟩)))))
  rintro acc M2 ⟨rfl,rfl⟩
  rw[cJ,qw]
  exact aS (fN (.lst _) (aE (cP cX T.tuple R.BT (aR [5] rfl (fN (.lst _) (aS ⟨(show 3<=sizeLine by decide),v⟩))))))
 |false =>
  cases s1
  cases s2
  refine aB (aK 3 gH.nd (aO aP4 m (aE (aO aP5 m (aR [2] rfl ⟨true,_,zs,n,rfl,rfl,by omega,by omega,c,?_⟩)))))
  refine aS ⟨true,_,R.aC zs,zs.length,rfl,rfl,by omega,by omega,λz c=>R.fJ z c,?_⟩
  refine aB (aK 4 gH.nd (aO aP4 m (aR [2] rfl ⟨true,_,zs,n,rfl,rfl,by omega,by omega,c,?_⟩)))
  have p:∀j∈(R.chg (R.aC zs)).dropLast,j<n:=λj b=>by
   have:=R.iP (R.bV _) (R.dU _) j b
   omega
  refine aB (gS 5 ["rows", "at_xs"] [2,3] gH.nd (cD (bJ [4] rfl ?_)))
  rw[show cutD (dB (R.chg zs)) none (some (-1))=dB (R.chg zs).dropLast from (gJ _).trans (fV _)]
  refine⟨_, .inr (.inl rfl),(qH (ds:=dB (R.chg zs).dropLast) (by rw[cJ,q7];exact R.aX '!') (λi acc M2=>M2=M/\acc=(((R.chg zs).dropLast.take i).map λi=>R.ofL ((R.chg (R.aC zs)).dropLast.map (R.atS (zs.getD i vp)))).map D.str) ⟨rfl,rfl⟩ ?_ ?_)⟩
  ·rintro i d acc M2 hd ⟨rfl,rfl⟩ cs C s₀ H₀ g
   obtain⟨j,b,rfl⟩:=fS hd
   have o:=R.iP (R.bV zs) (R.dU zs) j (zMo b)
   have l:zs[j]?=some (zs.getD j vp):=by rw[zGd,zGe o];rfl
   have e:=zMo l
   refine bF (cT λcs C s₀ H₀ g=>(aO aP6 m (aE (a9 aW (aD 1 rfl (aD 0 rfl (bB (.lst _) (by have:=nH l;rw[kq] at this;exact this) (aE (bJ [2] rfl (aS ?_))))))))))
   rw[show cutD (dB (R.chg (R.aC zs))) none (some (-1))=dB (R.chg (R.aC zs)).dropLast from (gJ _).trans (fV _)]
   refine⟨_,(R.chg (R.aC zs)).dropLast,rfl,by rw[c _ e];omega,by rw[q7];omega,λj b=>by rw[c _ e];exact p j b,?_⟩
   refine⟨rfl,?_⟩
   rw[cC b,qg]
   rfl
  rintro acc M2 ⟨rfl,rfl⟩ a q
  rw[cJ,qw]
  refine kB 5 rfl aG ?_
  rw[iJ q]
  refine aH (aT (pL (aE (cP cX T.tuple R.BT (aE (bO ["xs"] [0] (cD (aD 3 rfl ⟨_, .inr (.inl rfl),(dM (ds:=dB (R.chg (R.aC zs))) (by rw[cJ];exact R.aX '!') (λi acc M1=>M1=M2/\acc=((R.chg (R.aC zs)).take i).map λj=>xs.getD j .non) ⟨rfl,rfl⟩ ?_ ?_)⟩))))))))
  ·rintro i d acc M1 hd ⟨rfl,rfl⟩ cs C s₀ H₀ g
   obtain⟨j,b,rfl⟩:=fS hd
   exact bF (cT λcs C s₀ H₀ g=>(a9 aW (aD 1 rfl (aD 0 rfl (bB (.tup _) (yX (x j (zMo b))) ⟨rfl,(cC b).symm⟩)))))
  rintro acc M1 ⟨rfl,rfl⟩
  rw[cJ,qw]
  refine aS (fN (.lst _) (aE (cP cX T.tuple R.BT (aE (bO ["ys"] [1] (cD (aD 4 rfl ⟨_, .inr (.inl rfl),(dM (ds:=dB (R.chg zs)) (by rw[cJ];exact R.aX '!') (λi acc M2=>M2=M1/\acc=((R.chg zs).take i).map λj=>r.getD j .non) ⟨rfl,rfl⟩ ?_ ?_)⟩)))))))
  ·rintro i d acc M2 hd ⟨rfl,rfl⟩ cs C s₀ H₀ g
   obtain⟨j,b,rfl⟩:=fS hd
   exact bF (cT λcs C s₀ H₀ g=>(a9 aW (aD 1 rfl (aD 0 rfl (bB (.tup _) (yX (u j (zMo b))) ⟨rfl,(cC b).symm⟩)))))
  rintro acc M2 ⟨rfl,rfl⟩
  rw[cJ,qw]
  exact aS (fN (.lst _) (aE (cP cX T.tuple R.BT (aR [5] rfl (fN (.lst _) (aS ⟨(show 3<=sizeLine by decide),v⟩))))))
theorem zG:FnScope zl13 zl13 (aM jZ):=zSc
abbrev q8(P w K mg z):=Fo P w K mg z "group_row" jZ zl13 1 aF7
theorem zF(Df:R.Df K mg "group_row" jZ zl13 f fd)(T:Bt mg):q8 P w K mg z:=by
 refine⟨f,fd,Df,bM Df zG (λds M k h => ?_) (λj A outer s H E m ds M k h => ?_)⟩
 ·obtain⟨e,i,u,rfl,_⟩:=h;rfl
 obtain⟨e,i,u,rfl,hl,l⟩:=h
 refine aH (aT (dX kx vg vf iZ (ge_str ⟨rfl,(aE ((bO ["up", "group"] [2,0] (fW T.range (aR [1] rfl ⟨_,rfl,by omega,by omega,?_⟩)))))⟩)))
 rw[qi]
 refine dM (by rw[bC];exact R.aX '!') (λd b M2=>M2=M/\b=(((qr d).map λ(a:Nat)=>R.sg (decide ([(a:Int),(u:Int)]∈e))).map λc=>(⟨#[c]⟩:Str)).map D.str) ⟨rfl,rfl⟩ ?_ ?_
 ·rintro d q b M2 hd2 ⟨rfl,rfl⟩ cs C s₀ H₀ n
  obtain⟨p,rfl⟩:=c8 hd2
  rw[kq]
  refine bF (cT λcs C s₀ H₀ n=>(lU (b5 (aFL (R.units_le m)) (bJ [0,1] rfl (aD 2 rfl (aEV (is:=[(d:Int),(u:Int)]) (.st _) ⟨_,rfl,(ite2 (λg => ?_) (λg => ?_))⟩))))))
  ·refine ge_str ⟨rfl,?_⟩
   rw[jq,qg,qg,qg,xa,xa,xa,g,rY]
   rfl
  ·refine ge_str ⟨rfl,?_⟩
   rw[jq,qg,qg,qg,xa,xa,xa,Qz.mpr g,aJJ]
   rfl
 ·rintro b M2 ⟨rfl,rfl⟩
  rw[bC]
  refine aS (iY (ys:=((qr i).map λ(a:Nat)=>R.sg (decide ([(a:Int),(u:Int)]∈e))).map λc=>(⟨#[c]⟩:Str)) (.lst _) (by decide +kernel) ?_ ?_)
  ·rw[lM _ (λz o => ?_),zLm,zLm,xm]
   ·omega
   ·obtain⟨y,_,rfl⟩:=qq.mp o
    rfl
  ·rw[R.fK,aAX]
   exact l
theorem n5:FnScope ["yard", "group", "wide", "rows"] ["yard", "group"] (aM mL):=zSc
abbrev pA(P w K mg z):=Fo P w K mg z "yard_of" mL ["yard", "group"] 4 aJW
theorem aDC(Df:R.Df K mg "yard_of" mL ["yard", "group"] f fd)(aP7:q8 P w K mg z)(aP8:rT P w K mg z)(T:Bt mg):pA P w K mg z:=by
 refine⟨f,fd,Df,bM Df n5 (λds M k h => ?_) (λm A outer s H E l ds M k h => ?_)⟩
 ·obtain⟨xs,j,zs,c,b,e,rfl,_⟩:=h;rfl
 obtain⟨xs,j,zs,c,b,e,rfl,x,v,hw,r,o⟩:=h
 refine aB (aK 2 n5.nd (aPR T.len [0] rfl trivial ?_))
 rw[show ((xs.length:Nat):Int)-1=(b:Int) by omega]
 refine aB (gS 3 ["group", "wide"] [1,2] n5.nd (fW T.range (i6 T.len [0] rfl trivial ?_)))
 rw[show ((j.length:Nat):Int)-1=(e:Int) by omega]
 refine⟨_,rfl,by omega,by omega,?_⟩
 rw[qi]
 refine qH (by rw[bC];exact R.aX '!') (λi acc M2=>M2=M/\acc=(kC c b i).map D.str) ⟨rfl,rfl⟩ ?_ ?_
 ·rintro i d acc M2 hd ⟨rfl,rfl⟩ cs C s₀ H₀ q
  obtain⟨p,rfl⟩:=c8 hd
  rw[kq]
  refine bF (cT λcs C s₀ H₀ q=>(aO aP7 l (aR [1,2,0] rfl ⟨c,b,i,rfl,by omega,?_⟩)))
  refine⟨rfl,?_⟩
  unfold kC R.rowsOf
  rw[jq,qg,qg]
  rfl
 rintro acc M2 ⟨rfl,rfl⟩ a n
 rw[bC]
 refine kB 3 rfl aG ?_
 rw[iJ n]
 have t:=R.oK (λa u=>decide ([a,u]∈c)) b e
 exact aH (aT (aO aP8 l (aR [0,0,3] rfl ⟨false,_,_,xs,j,kC c b e,b,rfl,rfl,rfl,(by unfold kC;omega),by omega,λz g=>(R.jW _ _ _ z g).1,gA λz g=>by have:=(R.jW _ _ _ z g).1;omega,f7 (by unfold kC;omega),o⟩)))
theorem f9:FnScope ["start", "cells", "steps", "found", "waiting", "cell", "step", "near"] zl7 (aM lA):=zSc
abbrev tZ(P w K mg z):=Fo P w K mg z "gathered" lA zl7 1 aOL
theorem aA1(Df:R.Df K mg "gathered" lA zl7 f fd):tZ P w K mg z:=by
 refine⟨f,fd,Df,bM Df f9 (λds M k h => ?_) (λac A outer s H E S ds M k h => ?_)⟩
 ·obtain⟨cells,st,x,y,rfl,_⟩:=h;rfl
 obtain⟨cells,st,x,y,rfl,hs,h2,hl,hk⟩:=h
 refine aB (aK 3 f9.nd (aG3 (by have:=S.units;omega) (aD 0 rfl (kZ ⟨[x,y],rfl,rfl,λa V=>(aB (aK 4 f9.nd (i5 (aR [0] rfl ⟨(show 1<=sizeLine by decide),λb Q => ?_⟩))))⟩))))
 have B:b≠a:=λe=>by rw[e,aG] at Q;cases Q
 have G:M b=none:=by rw[bD B] at Q;exact Q
 refine aB (oF (λm Γ' M'=>∃D ws:List R.Cell,m=2*(cells.length-D.length)+ws.length/\m<=2*cells.length/\R.Gth cells st [x,y] D ws none/\M' a=some (.st D)/\M' b=some (.lst (ws.map tupI))/\Le M M'/\∃v5 v6 O,Γ'=[some (tupI [x,y]),some (.st cells),some (.tup (st.map pairD)),some (.mt a),some (.mt b),v5,v6,O])
  (n:=2*(cells.length-1)+1) ⟨[[x,y]],[[x,y]],rfl,(by have:=y5 hs;omega), .start hs,by rw[bD (ya B),aG],aG,((Le.refl M).upd V).upd G,_,_,_,rfl⟩ ?_)
 rintro m Γ' M1 ⟨D,ws,rfl,aa,I,ma,mb,hle,v5,v6,O,rfl⟩
 refine l8 (aD 4 rfl ⟨_, .seq (.mt mb),(ite2 (λhw => ?_) (λhw => ?_))⟩)
 ·obtain⟨ws,c,rfl⟩:∃ws' c,ws=ws'++[c]:=by
   have W:ws≠[]:=λe=>by subst e;cases hw
   exact⟨_,_,(zj W).symm⟩
  obtain⟨t,v,rfl⟩:=h2 c (I.sub c (I.ww c '$'))
  refine aB (aK 5 f9.nd (aNR jk PySem.F.slot_list_pop PySem.F.type_list_pop aNW (aD 4 rfl (⟨⟨rfl,_,mb⟩,aM0 (ds:=ws.map tupI) (d:=tupI [t,v]) (by rw[mb,qg];rfl) ?_⟩))))
  have L:=I.pop
  rw[qh,jm] at aa
  have lk:=L.len
  refine aH (iB (cD (aD 2 rfl ⟨_, .inl rfl,(⟨λi Γ' M'=>∃g j:List R.Cell,2*(cells.length-g.length)+j.length<=2*(cells.length-D.length)+ws.length/\R.Gth cells st [x,y] g j (some (t,v,st.take i))/\M' a=some (.st g)/\M' b=some (.lst (j.map tupI))/\Le M M'/\∃v6 O,Γ'=[some (tupI [x,y]),some (.st cells),some (.tup (st.map pairD)),some (.mt a),some (.mt b),some (tupI [t,v]),v6,O],⟨D,ws,ql _,L,by rw[bD (ya B)];exact ma,aG,hle.upd G,_,_,rfl⟩,?_,?_⟩)⟩)))
  ·rintro i d Γ' M2 hd ⟨g,j,hm,o,p,u,l,w6,w7,rfl⟩
   obtain⟨q,hq,rfl⟩:=cR hd
   have Y:=zMo hq
   have et:st.take (i+1)=st.take i++[q]:=take_snoc hq
   have ab:=o.len
   have lw:j.length<=3000:=by omega
   refine g6 6 f9.nd (aB (aK 7 f9.nd (bJ [5,6,5,6] rfl (aH (dE (n4 (pK (b5 (aFL (by have:=S.units;omega)) (aD 7 rfl (aD 1 rfl (aEV (is:=[t+q.1,v+q.2]) (.st _) ⟨_,rfl,(ite2 (λU => ?_) (λU => ?_))⟩)))))))))))
   ·refine mZ (b5 (xB (by have:=S.units;omega)) (aD 7 rfl (aD 3 rfl (wN (is:=[t+q.1,v+q.2]) (.mt p) ⟨_,rfl,?_⟩))))
    have X:=of_decide_eq_true U
    refine ite2 (λZ => ?_) (λZ => ?_)
    ·have C:¬ [t+q.1,v+q.2]∈g:=by simpa using Z
     have J:=o.add Y X C
     have T:=J.len
     rw[qh,jm] at T
     refine aB (m9 (kZ (aB5 (by have:=S.units;omega) (aD 3 rfl (aD 7 rfl ⟨a,[t+q.1,v+q.2],g,rfl,rfl,p,kc (show _<=60000 by omega) (by decide),?_⟩)))))
     rw[yR C]
     have N:(bG M2 a (.st (g++[[t+q.1,v+q.2]]))) b=some (.lst (j.map tupI)):=by rw[bD B];exact u
     refine aH (iM (dX jk vi vh fH (aD 4 rfl (⟨⟨rfl,_,N⟩,(aR [7] rfl (gM N (by rw[zLm];exact kc (show _<=60000 by omega) (by decide)) ⟨g++[[t+q.1,v+q.2]],j++[[t+q.1,v+q.2]],by rw[qh,qh,jm];omega,by rw[et];exact J,by rw[bD (ya B),aG],by rw[aG,qg];rfl,(l.upd V).upd G,_,_,rfl⟩))⟩))))
    ·have C:[t+q.1,v+q.2]∈g:=by
      refine qv λz=>Z ?_
      rw[decide_eq_false z];rfl
     exact bU ⟨g,j,hm,by rw[et];exact o.skip λ_=>C,p,u,l,_,_,rfl⟩
   ·exact bU ⟨g,j,hm,by rw[et];exact o.skip λz=>absurd (decide_eq_true z) U,p,u,l,_,_,rfl⟩
  ·rintro Γ' M2 ⟨g,j,hm,o,p,u,l,w6,w7,rfl⟩
   rw[zLm,qw] at o
   exact⟨_,by rw[qh,jm];omega,g,j,rfl,by omega,o.done λd hd=>hd,p,u,l,_,_,_,rfl⟩
 ·have e:ws=[]:=by
   cases ws with
   |nil=>rfl
   |cons c r=>exact absurd rfl hw
  subst e
  exact aH (aT (aBY (aD 3 rfl ⟨a,D,M,rfl,ma,V,hle,hk D I.nd I.end⟩)))
theorem kG:FnScope ["cells", "steps", "told", "seen", "cell", "group"] ["cells", "steps"] (aM oP):=zSc
abbrev sB(P w K mg z):=Fo P w K mg z "groups" oP ["cells", "steps"] 2 aKC
theorem aD8(Df:R.Df K mg "groups" oP ["cells", "steps"] f fd)(aP9:tZ P w K mg z):sB P w K mg z:=by
 refine⟨f,fd,Df,bM Df kG (λds M k h => ?_) (λab A outer s H E W ds M k h => ?_)⟩
 ·obtain⟨cells,st,rfl,_⟩:=h;rfl
 obtain⟨cells,st,rfl,X,S,hl,hk⟩:=h
 refine aB (aK 2 kG.nd (i5 ?_))
 refine aS ⟨(show 0<=sizeLine by decide),λa Q => ?_⟩
 refine aB (aK 3 kG.nd (aBO λb O => ?_))
 have o:b≠a:=λe=>by rw[e,aG] at O;cases O
 have D:M b=none:=by rw[bD o] at O;exact O
 refine aB (iB (aKX ?_))
 refine aD 0 rfl ?_
 refine⟨_,rfl,?_⟩
 refine⟨λi Γ' M'=>∃(r:List (List R.Cell)) (sn:List R.Cell),Grp cells st i r/\sn.Nodup/\(∀c∈sn,c∈cells)/\(∀c,c∈sn↔∃s∈R.starts cells st i,R.Rch cells st s c)/\M' a=some (.lst (r.map .st))/\M' b=some (.st sn)/\Le M M'/\∃v4 U,Γ'=[some (.st cells),some (.tup (st.map pairD)),some (.mt a),some (.mt b),v4,U],
  ⟨[],[], .nil _ _, .nil,λc j=>(nomatch j),λc=>⟨λz=>(nomatch z),λ⟨s,z,_⟩=>by simp[R.starts] at z⟩,by rw[bD (ya o),aG];rfl,aG,((Le.refl M).upd Q).upd D,_,_,rfl⟩,?_,?_⟩
 ·rintro i d Γ' M1 hd ⟨r,sn,C,n,l,g,N,J,hle,v4,U,rfl⟩
  obtain⟨c,j,rfl⟩:=cR hd
  have u:=zMo j
  obtain⟨x,y,rfl⟩:=X c u
  have Z:i<cells.length:=(zGs j).1
  have gl:=C.len
  have sl:=R.gZ cells st i
  have aa:=R.sP n l
  refine g6 4 kG.nd ?_
  refine aH (dE ?_)
  refine b5 (xB (R.units_le W)) ?_
  refine aD 4 rfl ?_
  refine aD 3 rfl ?_
  refine wN (is:=[x,y]) (.mt J) ⟨_,rfl,?_⟩
  refine ite2 (λT => ?_) (λT => ?_)
  ·have t:¬ [x,y]∈sn:=by simpa using T
   have V:¬ ∃s∈R.starts cells st i,R.Rch cells st s [x,y]:=λz=>t ((g _).mpr z)
   have G:=R.c9 j V
   refine aB (aK 5 kG.nd ?_)
   refine aO aP9 W ?_
   refine aR [4,0,1] rfl ?_
   refine⟨cells,st,x,y,rfl,u,X,hl,λB I v => ?_⟩
   have m:∀c∈B,c∈cells:=λc j=>((v c).mp j).mem u
   have Y:=R.sP I m
   refine aB (iM (aMS (R.units_le W) ?_))
   refine aD 3 rfl ?_
   refine⟨b,sn,rfl,J,?_⟩
   refine aD 5 rfl ?_
   refine⟨sn,B,J,rfl,R.aX '!',λ_=>aL3 I λc j=>S c (m c j),?_⟩
   have L:(bG M1 b (.st (lS sn B))) a=some (.lst (r.map .st)):=by rw[bD (ya o)];exact N
   refine aH (iM ?_)
   refine dX jk vi vh fH ?_
   refine aD 2 rfl ?_
   refine⟨⟨rfl,_,L⟩,?_⟩
   refine aR [5] rfl ?_
   refine gM L (by rw[zLm];exact kc (show _<=60000 by omega) (by decide)) ?_
   refine⟨r++[B],lS sn B,C.add G v,uQ B sn n,λc j => ?_,λc => ?_,by rw[aG,qg];rfl,by rw[bD o,aG],(hle.upd D).upd Q,_,_,rfl⟩
   ·rcases sA.mp j with j|j
    ·exact l c j
    ·exact m c j
   ·rw[sA,g,v,G]
    constructor
    ·rintro (⟨s,p,q⟩|q)
     ·exact⟨s,q6 _ p,q⟩
     ·exact⟨_,qx _ (nk _),q⟩
    ·rintro⟨s,p,q⟩
     rcases q5.mp p with p|p
     ·exact .inl ⟨s,p,q⟩
     ·rw[qk] at p;subst p;exact .inr q
  ·have t:[x,y]∈sn:=by
    refine qv λz=>T ?_
    rw[decide_eq_false z];rfl
   have G:=R.c6 j ((g _).mp t)
   exact bU ⟨r,sn,C.skip G,n,l,by rw[G];exact g,N,J,hle,_,_,rfl⟩
 ·rintro Γ' M1 ⟨r,sn,C,n,l,g,N,J,hle,v4,U,rfl⟩
  rw[zLm] at C
  refine aH (aT (fD ?_))
  refine aD 2 rfl ?_
  exact⟨a,_,M,rfl,N,Q,hle,hk r C⟩
theorem aHJ:FnScope zl18 zl18 (aM qG):=zSc
abbrev u9(P w K mg z):=Fo P w K mg z "under" qG zl18 1 aJQ
theorem aGP(Df:R.Df K mg "under" qG zl18 f fd):u9 P w K mg z:=by
 refine⟨f,fd,Df,bM Df aHJ (λds M k h => ?_) (λa A outer s H E g ds M k h => ?_)⟩
 ·obtain⟨p,q,rfl,_⟩:=h;rfl
 obtain⟨p,q,rfl,⟨p1,e⟩,⟨d,c⟩,b⟩:=h
 exact aH (aT (jD aI8 (bR vL (bJ [0] rfl (bJ [1] rfl (jF ⟨big400 p1,big400 c⟩ (bR vL (bJ [1] rfl (bJ [0] rfl (jF ⟨big400 d,big400 e⟩ (pW b)))))))))))
theorem rJ:FnScope ["lines", "where", "below"] ["lines", "where"] (aM kO):=zSc
abbrev tD(P w K mg z):=Fo P w K mg z "bands_at" kO ["lines", "where"] 2 aKU
theorem aA2(Df:R.Df K mg "bands_at" kO ["lines", "where"] f fd)(aQA:u9 P w K mg z)(T:Bt mg):tD P w K mg z:=by
 refine⟨f,fd,Df,bM Df rJ (λds M k h => ?_) (λm A outer s H E l ds M k h => ?_)⟩
 ·obtain⟨ws,v,rfl,_⟩:=h;rfl
 obtain⟨ws,v,rfl,r,hl,o,a⟩:=h
 have e:=aI ws
 refine aB (aK 2 rJ.nd (b8 dL T.len va (aE (bO ["where"] [1] (cD (aD 0 rfl ⟨_, .inl rfl,(dM (ds:=aJ ws) (by rw[e];exact R.aX '!') (λi acc M'=>M'=M/\acc=aJ ((ws.take i).filter λx=>decide (x<v))) ⟨rfl,rfl⟩ ?_ ?_)⟩))))))
 ·rintro i d acc M' hd ⟨rfl,rfl⟩ cs C s₀ H₀ q
  obtain⟨x,g,rfl⟩:=cR hd
  refine nK (jK (aO aQA l (aR [0,1] rfl ⟨pq x,pq v,rfl,(r x (zMo g)).p,o.p,?_⟩)))
  rw[aJC]
  refine⟨_,rfl,(ite2 (λj=>λcs C s₀ H₀ q => ?_) (λj => ?_))⟩
  ·refine aD 0 rfl ⟨rfl,?_⟩
   rw[take_snoc g,ye,j1 (p:=λx=>decide (x<v)) j,hJ,<- jE]
   rfl
  ·refine⟨rfl,?_⟩
   rw[take_snoc g,ye,wq (p:=λx=>decide (x<v)) j,hJ,wb]
 rintro acc M' ⟨rfl,rfl⟩
 rw[e,qw]
 refine aS (o8 (.lst _) ?_)
 rw[aI,show (ws.filter λx=>decide (x<v)).length=iI ws v from rfl]
 have t:iI ws v<=ws.length:=zd _ _
 refine aB (dE (n4 (pK (qF T.len [2,0] rfl trivial ?_))))
 rw[e]
 unfold lV at a
 by_cases c:iI ws v<ws.length
 rotate_left
 ·rw[if_neg (λz=>c z.1)] at a
  exact tV (decide_eq_false '!') (jA (bU (aH (aT (bJ [2] rfl a)))))
 refine tJ (decide_eq_true '!') (mZ (b5 (nJ (n:=1) (R.units_le l)) (a9 aW (aD 0 rfl (aD 2 rfl (bB (.tup _) (jT c) (aD 1 rfl (nG (e1:=gL (ws.getD (iI ws v) 0)) (e2:=gL v) (.tup _) (.tup _) rfl rfl ⟨_,rfl,?_⟩))))))))
 rw[tE]
 by_cases b:ws.getD (iI ws v) 0=v
 ·rw[if_pos ⟨c,b⟩] at a
  exact tJ (decide_eq_true b) (aH (aT (bJ [2,2] rfl a)))
 ·rw[if_neg (λz=>b z.2)] at a
  exact tV (decide_eq_false b) (bU (aH (aT (bJ [2] rfl a))))
theorem rH:FnScope ["yard", "across", "up", "rows"] zl12 (aM lB):=zSc
abbrev kU(P w K mg z):=Fo P w K mg z "has_cell" lB zl12 1 cHas
theorem aA0(Df:R.Df K mg "has_cell" lB zl12 f fd)(T:Bt mg):kU P w K mg z:=by
 refine⟨f,fd,Df,bM Df rH (λds M k h => ?_) (λt A outer s H E D ds M k h => ?_)⟩
 ·obtain⟨x,y,zs,a,u,rfl,_⟩:=h;rfl
 obtain⟨x,y,zs,a,u,rfl,r,i⟩:=h
 have d:R.aP zs a u=false->k (.bl false) M:=λe=>by rw[e] at i;exact i
 refine aB (aK 3 rH.nd (bJ [0] rfl (aB (dE (n4 (oN (pG [2] rfl (ite2 (λl=>cT (aH (aT (kZ (d (R.bK (of_decide_eq_true l))))))) (λl=>(oN (qF T.len [2,3] rfl trivial (ite2 (λn=>cT (aH (aT (kZ (d (R.cV (by have:=of_decide_eq_true n;rw[zLm] at this;exact this))))))) (λn=>(oN (pG [1] rfl (ite2 (λm=>cT (aH (aT (kZ (d (R.bL (of_decide_eq_true m))))))) (λm => ?_)))))))))))))))))
 obtain⟨B,o,z,b,p⟩:=cell_in l n m
 refine t7 (b5 aJD (aD 1 rfl (b8 dL T.len va (aE (a9 aW (aD 3 rfl (aD 2 rfl (bB (.tup _) p (aS (iX (R.aX (by have:=r z (zMo b);omega)) (pW ⟨_,rfl,?_⟩)))))))))))
 have C:=r z (zMo b)
 refine ite2 (λj=>aH (aT (kZ (d (R.iC b (of_decide_eq_true j)))))) (λj=>bU ?_)
 obtain⟨c,v,g⟩:=aJ4 o (λq=>j (decide_eq_true q))
 refine aH (aT (jD oW (a9 aW (a9 aW (aD 3 rfl (aD 2 rfl (bB (.tup _) p (aD 1 rfl (nD (R.aX '!') g (ge_str (aFM ?_)))))))))))
 rw[aFA,<- R.fM B o b v]
 exact i
theorem gP:FnScope ["yard", "inside", "told", "up", "across"] ["yard", "inside"] (aM iD):=zSc
abbrev kK(P w K mg z):=Fo P w K mg z "cells_where" iD ["yard", "inside"] 2 aLA
theorem uR(Df:R.Df K mg "cells_where" iD ["yard", "inside"] f fd)(aQB:kU P w K mg z)(T:Bt mg):kK P w K mg z:=by
 refine⟨f,fd,Df,bM Df gP (λds M k h => ?_) (λn A outer s H E m ds M k h => ?_)⟩
 ·obtain⟨xs,c,zs,b,rfl,_⟩:=h;rfl
 obtain⟨xs,c,zs,b,rfl,p,u,t,o⟩:=h
 refine aB (aK 2 gP.nd (aBO λa l=>(aB (iB (aBU T.range (i6 T.len [0] rfl trivial (⟨_,_,rfl,⟨by omega,by omega,by omega,by omega⟩,?_⟩)))))))
 rw[show (((c.length:Nat):Int)-(-1)).toNat=c.length+1 by omega]
 refine⟨λi Γ' M'=>M'=bG M a (.st (gQ zs b xs.length i))/\∃e v4,Γ'=[some (dZ xs c zs),some (.bl b),some (.mt a),e,v4],⟨rfl,_,_,rfl⟩,?_,?_⟩
 ·rintro i d Γ' M' hd ⟨rfl,e,v4,rfl⟩
  obtain⟨r,rfl⟩:=c8 hd
  rw[shift1]
  have v:=mU zs b xs.length i
  have x:i*(xs.length+1)<=22*22:=bp '!' '!'
  refine g6 3 gP.nd (aH (iB (aBU T.range (i6 T.len [0] rfl trivial (⟨_,_,rfl,⟨by omega,by omega,by omega,by omega⟩,?_⟩)))))
  rw[show (((xs.length:Nat):Int)-(-1)).toNat=xs.length+1 by omega]
  refine⟨λj Γ' M'=>M'=bG M a (.st (gQ zs b xs.length i++jJ zs b ((i:Int)-1) j))/\∃v4,Γ'=[some (dZ xs c zs),some (.bl b),some (.mt a),some (.int ((i:Int)-1)),v4],⟨by rw[show jJ zs b ((i:Int)-1) 0=[] from rfl,wb],_,rfl⟩,?_,?_⟩
  ·rintro j d Γ' M' hd ⟨rfl,q,rfl⟩
   obtain⟨B,rfl⟩:=c8 hd
   rw[shift1]
   have y:=wA zs b ((i:Int)-1) j
   refine g6 4 gP.nd (aH (dE (b5 oW (aO aQB m (aR [0,4,3] rfl ⟨_,_,zs,_,_,rfl,p,(aD 1 rfl (aEO ⟨_,rfl,(ite2 (λg => ?_) (λg => ?_))⟩))⟩)))))
   ·refine aH (m9 (kZ (aB5 (by have:=m.units;omega) (aD 2 rfl (bJ [4,3] rfl ⟨a,[(j:Int)-1,(i:Int)-1],_,rfl,rfl,aG,by rw[qh];exact kc (show _<=60000 by omega) (by decide),⟨?_,_,rfl⟩⟩)))))
    rw[p4,yR aHH,sU,if_pos (of_decide_eq_true g),vm]
   ·refine bU ⟨?_,_,rfl⟩
    rw[sU,if_neg (λz=>g (decide_eq_true z))]
  ·rintro Γ' M' ⟨rfl,q,rfl⟩
   rw[bC]
   exact⟨by rw[p5],_,_,rfl⟩
 ·rintro Γ' M' ⟨rfl,e,v4,rfl⟩
  rw[bC]
  exact aH (aT (aBY (aD 2 rfl ⟨a,_,M,rfl,aG,l,(Le.refl M).upd l,o⟩)))
theorem aD3:FnScope zl20 zl20 (aM nP):=zSc
abbrev oG(P w K mg z):=Fo P w K mg z "pieces" nP zl20 5 aKE
theorem aFP(Df:R.Df K mg "pieces" nP zl20 f fd)(aQC:pA P w K mg z)(aQD:sB P w K mg z)(aQE:kK P w K mg z)(T:Bt mg){cA:Addr}(CS:mg "STRAIGHT" = some (.ref cA))(DS:∀G,Den K G (.tup (straight.map pairD)) (.ref cA)):oG P w K mg z:=by
 refine⟨f,fd,Df,bM Df aD3 (λds M k h => ?_) (λB A outer s H E q ds M k h => ?_)⟩
 ·obtain⟨xs,c,zs,rfl,_⟩:=h;rfl
 obtain⟨xs,c,zs,rfl,wf,o,n,x⟩:=h
 have v:∀z∈zs,z.length<=1000:=λz y=>by have:=(wf.good z y).1;omega
 have cl:=mD (zs:=zs) (b:=true) o n
 refine aH (aT (uO zl20 [0] (cD (aO aQD q (aE (aO aQE q (aR [0] rfl ⟨xs,c,zs,true,rfl,v,o,n,(aE (aBD CS DS (aS ⟨R.aA zs true xs.length c.length,straight,rfl,bP _ _ _ _,sR o n,by omega,λN t => ?_⟩)))⟩)))))))
 refine⟨_, .inr (.inl rfl),?_⟩
 have gl:=t.len
 have J:=R.gZ (R.aA zs true xs.length c.length) straight (R.aA zs true xs.length c.length).length
 refine⟨by rw[zLm];exact R.aX '!',λi acc M1=>M1=M/\acc=fZ xs c (R.aA zs true xs.length c.length) straight ((R.starts (R.aA zs true xs.length c.length) straight (R.aA zs true xs.length c.length).length).take i),⟨rfl,rfl⟩,?_,?_⟩
 ·rintro i d acc M1 hd ⟨rfl,rfl⟩ cs C s₀ H₀ D
  obtain⟨g,r,rfl⟩:=cR hd
  have p:i<(R.starts (R.aA zs true xs.length c.length) straight (R.aA zs true xs.length c.length).length).length:=by rw[<- gl];exact (zGs r).1
  obtain⟨F,l,j⟩:=t.at_ i _ (zGe p)
  rw[r] at l;cases l
  have m:R.aA zs true xs.length c.length≠[]:=List.ne_nil_of_mem (bI (je p))
  obtain⟨L,I⟩:0<xs.length/\c.length=zs.length+1:=(aN2 wf).elim id λ⟨_,_,e⟩=>absurd (by rw[e];exact uA _ _) m
  refine bF (cT λcs C s₀ H₀ D=>(aO aQC q (aR [1,0] rfl ⟨xs,c,zs,g,xs.length-1,c.length-1,rfl,by omega,by omega,by omega,by omega,?_⟩)))
  refine⟨rfl,?_⟩
  rw[wL j]
  unfold fZ
  rw[cC (zGe p)]
 ·rintro acc M1 ⟨rfl,rfl⟩ a u
  rw[zLm,gl,qw]
  exact x a u
theorem zD:FnScope ["yard", "outside"] zl20 (aM qA):=zSc
abbrev uM(P w K mg z):=Fo P w K mg z "holes" qA zl20 5 aMM
theorem aGX(Df:R.Df K mg "holes" qA zl20 f fd)(aQC:pA P w K mg z)(aQD:sB P w K mg z)(aQE:kK P w K mg z)(T:Bt mg){cA:Addr}(CS:mg "ALL_ROUND" = some (.ref cA))(DS:∀G,Den K G (.tup (aL.map pairD)) (.ref cA)):uM P w K mg z:=by
 refine⟨f,fd,Df,bM Df zD (λds M k h => ?_) (λB A outer s H E q ds M k h => ?_)⟩
 ·obtain⟨xs,c,zs,rfl,_⟩:=h;rfl
 obtain⟨xs,c,zs,rfl,x,p,n,m,y⟩:=h
 have cl:=mD (zs:=zs) (b:=false) p n
 refine aB (aK 1 zD.nd (aO aQD q (aE (aO aQE q (aR [0] rfl ⟨xs,c,zs,false,rfl,x,p,n,(aE (aBD CS DS (aS ⟨(R.aA zs false xs.length c.length),aL,rfl,bP _ _ _ _,sR p n,by omega,λO r => ?_⟩)))⟩)))))
 have gl:=r.len
 have L:=R.gZ (R.aA zs false xs.length c.length) aL (R.aA zs false xs.length c.length).length
 refine aH (aT (uO zl20 [0] (cD (bJ [1] rfl ?_))))
 rw[aC9,<- ck]
 refine⟨_, .inr (.inl rfl),(⟨by rw[zLm,ju];exact R.aX '!',λi acc M1=>M1=M/\acc=fZ xs c (R.aA zs false xs.length c.length) aL (((R.starts (R.aA zs false xs.length c.length) aL (R.aA zs false xs.length c.length).length).drop 1).take i),⟨rfl,rfl⟩,?_,?_⟩)⟩
 ·rintro i d acc M1 hd ⟨rfl,rfl⟩ cs C s₀ H₀ D
  obtain⟨g,o,rfl⟩:=cR hd
  rw[Qo] at o
  have t:1+i<(R.starts (R.aA zs false xs.length c.length) aL (R.aA zs false xs.length c.length).length).length:=by rw[<- gl];exact (zGs o).1
  obtain⟨F,l,j⟩:=r.at_ (1+i) _ (zGe t)
  rw[o] at l;cases l
  obtain⟨N,J⟩:0<xs.length/\0<c.length:=m.elim id λ⟨z,v⟩=>by
   subst z v
   have e:=aAM zs
   unfold hls fZ at e
   have I:=List.drop_eq_nil_iff.mp (dw.mp e)
   omega
  have hd1:((R.starts (R.aA zs false xs.length c.length) aL (R.aA zs false xs.length c.length).length).drop 1)[i]?=some ((R.starts (R.aA zs false xs.length c.length) aL (R.aA zs false xs.length c.length).length)[1+i]):=by rw[Qo];exact zGe t
  refine bF (cT λcs C s₀ H₀ D=>(aO aQC q (aR [1,0] rfl ⟨xs,c,zs,g,xs.length-1,c.length-1,rfl,by omega,by omega,by omega,by omega,?_⟩)))
  refine⟨rfl,?_⟩
  rw[wL j]
  unfold fZ
  rw[cC hd1]
 ·rintro acc M1 ⟨rfl,rfl⟩ a u
  rw[zLm,ju,gl,<- ju,qw]
  exact y a u
theorem jU:FnScope zl1 zl12 (aM fU):=zSc
abbrev o4(P w K mg z):=Fo P w K mg z "corner_kind" fU zl12 2 aPQ
theorem uI(Df:R.Df K mg "corner_kind" fU zl12 f fd)(aQB:kU P w K mg z):o4 P w K mg z:=by
 refine⟨f,fd,Df,bM Df jU (λds M k h => ?_) (λd A outer s H E b ds M k h => ?_)⟩
 ·obtain⟨x,y,zs,i,j,rfl,_⟩:=h;rfl
 obtain⟨x,y,zs,i,j,rfl,c,a⟩:=h
 refine aB (aK 3 jU.nd (aFO (aE (aO aQB b (aR [0,1,2] rfl ⟨x,y,zs,_,_,rfl,c,(aE (aO aQB b (aR [0,1,2] rfl ⟨x,y,zs,_,_,rfl,c,(aE (aO aQB b (aR [0,1,2] rfl ⟨x,y,zs,_,_,rfl,c,(aE (aO aQB b (aR [0,1,2] rfl ⟨x,y,zs,_,_,rfl,c,(aS ⟨(show 4<=sizeLine by decide),?_⟩)⟩)))⟩)))⟩)))⟩)))))
 unfold R.cL at a
 generalize R.aP zs ((i:Int)-1) ((j:Int)-1)=c0 at a ⊢
 generalize R.aP zs (i:Int) ((j:Int)-1)=c1 at a ⊢
 generalize R.aP zs ((i:Int)-1) (j:Int)=c2 at a ⊢
 generalize R.aP zs (i:Int) (j:Int)=c3 at a ⊢
 refine aB (aK 4 jU.nd (dX jk wk yx aFH (aD 3 rfl ⟨rfl,(aR [] rfl (aGC (bs:=[c0,c1,c2,c3]) (.lst _) ?_))⟩)))
 rw[aDF]
 unfold R.kind4 at a
 generalize hn:c0.toNat+c1.toNat+c2.toNat+c3.toNat=n at a ⊢
 refine aB (dE (pG [4] rfl (ite2 (λo => ?_) (λo => ?_))))
 ·have m:n=1:=by have:=of_decide_eq_true o;omega
  rw[if_pos m] at a
  exact aH (aT (ge_str a))
 have m:¬n=1:=λe=>o (decide_eq_true '!')
 rw[if_neg m] at a
 refine bU (aB (dE (pG [4] rfl (ite2 (λr => ?_) (λr => ?_)))))
 ·have g:n=3:=by have:=of_decide_eq_true r;omega
  rw[if_pos g] at a
  exact aH (aT (ge_str a))
 have g:¬n=3:=λe=>r (decide_eq_true '!')
 rw[if_neg g] at a
 have kn:¬(n=2/\c0=c3)->k .non M:=λq=>by rw[if_neg q] at a;exact a
 have fin:¬(n=2/\c0=c3)->GS (cxF P w K mg z zl1 "corner_kind" fU f d A outer s H E) [] [] M ⟨λ_ _=>True,λ_ _=>True,λ_ _=>True,λ_ _=>True⟩:=λ_=>bU trivial
 refine bU (aB (dE (n4 (pK (pG [4] rfl (ite2 (λp=>(mZ (pG [3,3] rfl (ite2 (λl => ?_) (λl=>bU (aH (aT (tY (kn λq=>l (decide_eq_true q.2)))))))))) (λp=>jA (bU (aH (aT (tY (kn λq=>p (decide_eq_true '!')))))))))))))
 rw[if_pos ⟨by have:=of_decide_eq_true p;omega,of_decide_eq_true l⟩] at a
 exact aH (aT (ge_str a))
theorem jL:FnScope ["yard", "told", "across", "x", "up", "y", "kind"] zl20 (aM mH):=zSc
abbrev wY(P w K mg z):=Fo P w K mg z "corners" mH zl20 3 aIX
theorem aC8(Df:R.Df K mg "corners" mH zl20 f fd)(aQF:o4 P w K mg z)(T:Bt mg):wY P w K mg z:=by
 refine⟨f,fd,Df,bM Df jL (λds M k h => ?_) (λv A outer s H E B ds M k h => ?_)⟩
 ·obtain⟨xs,b,zs,rfl,_⟩:=h;rfl
 obtain⟨xs,b,zs,rfl,r,G,p,q⟩:=h
 refine aB (aK 1 jL.nd (i5 (aS ⟨(show 0<=sizeLine by decide),λa o=>(aB (iB (aBX T.enumerate BEnum (aR [0] rfl ⟨_,rfl,(⟨λi Γ' M'=>M'=bG M a (.lst (R.corn mkC xs b (R.cL zs) i))/\∃v1 v2 c v4 e,Γ'=[some (dZ xs b zs),some (.mt a),v1,v2,c,v4,e],⟨rfl,_,_,_,_,_,rfl⟩,?_,?_⟩)⟩))))⟩)))
 ·rintro i d Γ' M' hd ⟨rfl,v1,v2,c,v4,e,rfl⟩
  obtain⟨x,m,rfl⟩:=wU hd
  have D:i<xs.length:=(zGs m).1
  refine aCG [2,3] jL.nd rfl (aH (iB (aBX T.enumerate BEnum (aR [0] rfl ⟨_,rfl,(⟨λj Γ' M'=>M'=bG M a (.lst (R.corn mkC xs b (R.cL zs) i++R.dR mkC x b (R.cL zs i) j))/\∃c v4 e,Γ'=[some (dZ xs b zs),some (.mt a),some (.int (i:Int)),some x,c,v4,e],⟨by simp[R.dR],_,_,_,rfl⟩,?_,?_⟩)⟩))))
  ·rintro j d Γ' M' hd ⟨rfl,z,u,C,rfl⟩
   obtain⟨y,l,rfl⟩:=wU hd
   have n:j<b.length:=(zGs l).1
   refine aCG [4,5] jL.nd rfl (aB (aK 6 jL.nd (aO aQF B (aR [0,2,4] rfl ⟨.tup xs, .tup b,zs,i,j,rfl,r,(aH (dE (b5 aKK (aD 6 rfl (tY (aKJ ⟨_,rfl,?_⟩))))))⟩))))
   have g:=R.zS (mk:=mkC) (x:=x) (K:=R.cL zs i) l
   cases hK:R.cL zs i j with
   |none =>
    rw[hK] at g
    refine jA (bU ⟨by rw[g];simp,_,_,_,rfl⟩)
   |some t =>
    rw[hK] at g
    refine cT (aH (iM ?_))
    have bnd:(R.corn mkC xs b (R.cL zs) i++R.dR mkC x b (R.cL zs i) j).length<sizeLine:=by
     rw[qh]
     have J:=R.aII mkC xs b (R.cL zs) i
     have I:(R.dR mkC x b (R.cL zs i) j).length<=j:=by unfold R.dR;exact jn (yy _ _) '$'
     have L:i*b.length<=100*100:=bp '!' p
     exact kc (show _<=10100 by omega) (by decide)
    refine dX jk vi vh fH (aD 1 rfl (⟨⟨rfl,_,aG⟩,(aR [3,5,6] rfl (gM aG bnd ⟨?_,_,_,_,rfl⟩))⟩))
    rw[p4,g,<- vm]
    rfl
  ·rintro Γ' M' ⟨rfl,z,u,C,rfl⟩
   rw[wJ]
   exact⟨by rw[R.aDW m],_,_,_,_,_,rfl⟩
 ·rintro Γ' M' ⟨rfl,v1,v2,c,v4,e,rfl⟩
  rw[wJ]
  exact aH (aT (aD 1 rfl (q a o)))
theorem nQ:FnScope ["_law_yard_here", "_law_kinds", "_law_many"] ["_law_yard_here"] (aM l9):=zSc
abbrev pE(P w K mg z):=Fo P w K mg z "_law_counted" l9 ["_law_yard_here"] 6 aHY
theorem aC7(Df:R.Df K mg "_law_counted" l9 ["_law_yard_here"] f fd)(aQG:wY P w K mg z)(aQH:oG P w K mg z)(aQI:uM P w K mg z)(T:Bt mg):pE P w K mg z:=by
 refine⟨f,fd,Df,bM Df nQ (λds M k h => ?_) (λo A outer s H E g ds M k h => ?_)⟩
 ·obtain⟨A,rfl,_⟩:=h;rfl
 obtain⟨A,rfl,c,p⟩:=h
 have v:=aMZ A.K A.ws.length A.us.length
 have u:A.ws.length*A.us.length<=21*21:=bp c.lx c.ly
 have m:=aJO (aJ A.ws) (aJ A.us) A.K
 have cl:(R.corn mkC (aJ A.ws) (aJ A.us) (R.cL A.K) (aJ A.ws).length).length=(kn A.K A.ws.length A.us.length).length:=by
  have:=congrArg cf m
  rw[zLm,zLm,aI,aI] at this
  rw[aI]
  exact this
 refine aB (zM 1 [] [] nQ.nd (cD (fD (aO aQG g (aR [0] rfl (⟨_,_,A.K,rfl,oM c,by rw[aI];have:=c.lx;omega,by rw[aI];have:=c.ly;omega,λa b=>⟨a,_,M,rfl,aG,b,(Le.refl _).upd b,⟨_, .inr (.inl rfl),(aPU (by rw[cl];exact R.aX '!') (λd hd=>aHN hd) (λi acc M'=>M'=M/\acc=((R.corn mkC (aJ A.ws) (aJ A.us) (R.cL A.K) (aJ A.ws).length).take i).map kD) ⟨rfl,rfl⟩ ?_ ?_)⟩⟩⟩))))))
 ·rintro i r acc M' hd ⟨rfl,rfl⟩ cs C s₀ H₀ l
  obtain⟨_,_,x,y,t,_,_,_,_,e⟩:=R.zH.mp (zMo hd)
  cases e
  refine bF (cT λcs C s₀ H₀ l=>(aD 2 rfl ⟨rfl,?_⟩))
  rw[cC hd]
  rfl
 rintro acc M' ⟨rfl,rfl⟩ a b
 rw[qw,m,aI,aI]
 refine kB 1 rfl aG ?_
 rw[iJ b]
 generalize hks:kn A.K A.ws.length A.us.length=ks at *
 refine aB (dE (b5 (m8 (n:=2) (R.units_le g)) (bO [] [] (cD (aD 1 rfl ⟨_, .inr (.inl rfl),(dM (by rw[zLm];exact R.aX '!') (λi acc M2=>M2=M'/\acc=[]) ⟨rfl,rfl⟩ ?_ ?_)⟩)))))
 ·rintro i d acc M2 hd ⟨rfl,rfl⟩ cs C s₀ H₀ l
  obtain⟨t,q,rfl⟩:=cR hd
  refine nK (b5 (aFX (n:=1) (R.units_le g)) (aD 0 rfl (bJ [] rfl (aGD (.tup _) (.inl rfl) rfl rfl ⟨_,rfl,?_⟩))))
  rw[aIP (aH0 (hks▸zMo q))]
  exact jA ⟨rfl,rfl⟩
 rintro acc M2 ⟨rfl,rfl⟩
 refine bJ [] rfl (nL (.lst _) (.lst _) rfl rfl ⟨_,rfl,jA (bU (aB (aK 2 nQ.nd (bR gE (bR tQ (dX jk wk yx pJ (aD 1 rfl ⟨rfl,(aR [] rfl (pY (dX jk wk yx pJ (aD 1 rfl ⟨rfl,(aR [] rfl (pY (iH (bR sZ (z4 (dX jk wk yx pJ (aD 1 rfl ⟨rfl,(aR [] rfl (pY (jF (.inl ⟨by decide,by decide⟩) (iH (aH (aT (jD oW (aD 2 rfl (bR tQ (bR sZ (z4 (b8 dL T.len va (aE (fD (aO aQH g (aR [0] rfl (⟨_,_,A.K,rfl,xO A,by rw[aI];exact c.lx,by rw[aI];exact c.ly,λa b=>⟨a,_,M2,rfl,aG,b,(Le.refl _).upd b,(aS (o8 (.lst _) (jF (.inl ⟨by decide,by decide⟩) (bR sZ (z4 ?_)))))⟩⟩)))))))))))))))))⟩)))))))⟩))))⟩)))))))⟩)
 refine b8 dL T.len va (aE (fD (aO aQI g (aR [0] rfl (⟨_,_,A.K,rfl,oM c,by rw[aI];exact c.lx,by rw[aI];exact c.ly,r9 A,λa b=>⟨a,_,M2,rfl,aG,b,(Le.refl _).upd b,(aS (o8 (.lst _) (jF (.inl ⟨by decide,by decide⟩) (iH (aAJ ?_)))))⟩⟩)))))
 have j:=aE5 A
 rw[hks] at j
 rw[sI,xL,zLm,zLm,j,decide_eq_true rfl]
 exact p
theorem fG:FnScope ["one", "other", "told", "first", "second", "ahead"] zl18 (aM nU):=zSc
abbrev zQ(P w K mg z):=Fo P w K mg z "merged" nU zl18 2 aHM
theorem aES(Df:R.Df K mg "merged" nU zl18 f fd)(aQA:u9 P w K mg z)(T:Bt mg):zQ P w K mg z:=by
 refine⟨f,fd,Df,bM Df fG (λds M k h => ?_) (λQ A outer s H E x ds M k h => ?_)⟩
 ·obtain⟨xs,b,rfl,_⟩:=h;rfl
 obtain⟨xs,b,rfl,I,X,Z,Y,L⟩:=h
 have q:=aI xs
 have r:=aI b
 refine aB (aK 2 fG.nd (i5 (aS ⟨(show 0<=sizeLine by decide),λa C=>(aB (aK 3 fG.nd (z4 (aB (aK 4 fG.nd (z4 (aB (oF (λm Γ' M'=>∃(f s:Nat) (acc:List Rat) (B:Option D),Γ'=[some (.tup (aJ xs)),some (.tup (aJ b)),some (.mt a),some (.int (f:Int)),some (.int (s:Int)),B]/\M'=bG M a (.lst (aJ acc))/\f<=xs.length/\s<=b.length/\acc++aQ (xs.drop f) (b.drop s)=aQ xs b/\m=(xs.length-f)+(b.length-s)) (n:=xs.length+b.length) ⟨0,0,[],_,rfl,rfl,by omega,by omega,rfl,by omega⟩ ?_))))))))⟩)))
 rintro m Γ' M' ⟨f,s,acc,B,rfl,rfl,hf,y,i,rfl⟩
 have J:acc.length<=200:=by
  have j:=congrArg cf i
  have o:=gN xs b
  rw[qh] at j
  omega
 refine aMG (P:=λc M1=>M1=bG M a (.lst (aJ acc))/\(c=true->f<xs.length/\s<b.length)/\(c=false->f=xs.length\/s=b.length)) (n4 (pK ?_)) ?_
 ·refine qF T.len [3,0] rfl trivial ?_
  rw[q]
  refine ite2 (λj => ?_) (λj=>⟨rfl,(λz=>nomatch z),λ_ => .inl (by have:¬(f:Int)<(xs.length:Int):=λz=>j (decide_eq_true z);omega)⟩)
  have G:(f:Int)<(xs.length:Int):=of_decide_eq_true j
  refine mZ (qF T.len [4,1] rfl trivial ?_)
  rw[r]
  refine⟨rfl,λo=>⟨by omega,by have:=of_decide_eq_true o;omega⟩,λo => .inr (by have:=of_decide_eq_false o;omega)⟩
 rintro c M1 ⟨rfl,O,u⟩
 refine ite2 (λg => ?_) (λg => ?_)
 ·obtain⟨j,o⟩:=O g
  have W:xs.getD f 0∈xs:=by rw[zGd,zGe j];exact je j
  have U:b.getD s 0∈b:=by rw[zGd,zGe o];exact je o
  have S:=I _ W
  have V:=X _ U
  refine aB (aK 5 fG.nd (a9 aW (aD 0 rfl (aD 3 rfl (bB (.tup _) (jT '!') (aB (pT (λΓ' M'=>M'=bG M a (.lst (aJ acc))/\Γ'=[some (.tup (aJ xs)),some (.tup (aJ b)),some (.mt a),some (.int (f:Int)),some (.int (s:Int)),some (gL ((if b.getD s 0<xs.getD f 0 then b.getD s 0 else xs.getD f 0)))]) ?_ ?_)))))))
  ·refine dE (jK (aO aQA x (aE (a9 aW (aD 1 rfl (aD 4 rfl (bB (.tup _) (jT '!') (aE (aD 5 rfl (aS ⟨pq (b.getD s 0),pq (xs.getD f 0),rfl,V.p,S.p,⟨_,rfl,?_⟩⟩))))))))))
   rw[aJC]
   by_cases l:b.getD s 0<xs.getD f 0
   ·exact tJ (decide_eq_true l) (aH (aK 5 fG.nd (a9 aW (aD 1 rfl (aD 4 rfl (bB (.tup _) (jT '!') ⟨rfl,by rw[if_pos l];rfl⟩))))))
   ·exact tV (decide_eq_false l) (bU ⟨rfl,by rw[if_neg l];rfl⟩)
  rintro Γ' M1 ⟨rfl,rfl⟩
  have t:=sY j o
  have v:(if b.getD s 0<xs.getD f 0 then b.getD s 0 else xs.getD f 0)=b.getD s 0\/(if b.getD s 0<xs.getD f 0 then b.getD s 0 else xs.getD f 0)=xs.getD f 0:=by split <;> simp
  generalize (if b.getD s 0<xs.getD f 0 then b.getD s 0 else xs.getD f 0)=ah at *
  refine aB (aK 3 fG.nd (bR gE (aD 3 rfl (aEH (P:=λd M1=>M1=bG M a (.lst (aJ acc))/\d = .int (if xs.getD f 0=ah then 1 else 0)) (lU (b5 (nJ (n:=1) (R.units_le x)) ?_)) ?_))))
  ·refine a9 aW (aD 0 rfl (aD 3 rfl (bB (.tup _) (jT '!') (aD 5 rfl (nG (e1:=gL ((xs.getD f 0))) (e2:=gL (ah)) (.tup _) (.tup _) rfl rfl ⟨_,rfl,?_⟩)))))
   rw[tE]
   by_cases g:xs.getD f 0=ah
   ·exact tJ (decide_eq_true g) (z4 ⟨rfl,by rw[if_pos g]⟩)
   ·exact tV (decide_eq_false g) (z4 ⟨rfl,by rw[if_neg g]⟩)
  rintro d M1 ⟨rfl,rfl⟩
  refine iH ?_
  rw[show ((f:Int)+if xs.getD f 0=ah then 1 else 0)=((f+if xs.getD f 0=ah then 1 else 0:Nat):Int) from by split <;> rfl]
  refine aB (aK 4 fG.nd (bR gE (aD 4 rfl (aEH (P:=λd M1=>M1=bG M a (.lst (aJ acc))/\d = .int (if b.getD s 0=ah then 1 else 0)) (lU (b5 (nJ (n:=1) (R.units_le x)) ?_)) ?_))))
  ·refine a9 aW (aD 1 rfl (aD 4 rfl (bB (.tup _) (jT '!') (aD 5 rfl (nG (e1:=gL ((b.getD s 0))) (e2:=gL (ah)) (.tup _) (.tup _) rfl rfl ⟨_,rfl,?_⟩)))))
   rw[tE]
   by_cases g:b.getD s 0=ah
   ·exact tJ (decide_eq_true g) (z4 ⟨rfl,by rw[if_pos g]⟩)
   ·exact tV (decide_eq_false g) (z4 ⟨rfl,by rw[if_neg g]⟩)
  rintro d M1 ⟨rfl,rfl⟩
  refine iH ?_
  rw[show ((s:Int)+if b.getD s 0=ah then 1 else 0)=((s+if b.getD s 0=ah then 1 else 0:Nat):Int) from by split <;> rfl]
  refine aH (iM (dX jk vi vh fH (aD 2 rfl (⟨⟨rfl,_,aG⟩,(aR [5] rfl (gM aG (by rw[aI];exact kc (show _<=60000 by omega) (by decide)) ⟨_,?_,_,_,acc++[ah],_,rfl,by rw[p4,<- jE];rfl,by split <;> omega,by split <;> omega,by rw[<- i,t,vm];rfl,rfl⟩))⟩))))
  rcases v with e|e
  ·rw[if_pos e.symm];split <;> omega
  ·rw[if_pos e.symm];split <;> omega
 ·have N:=u (by simpa using g)
  have fin:acc++xs.drop f++b.drop s=aQ xs b:=by
   rw[<- i]
   rcases N with h|h
   ·rw[h,QP,wb,zK]
   ·rw[h,QP,wb,zW]
  refine kB 2 rfl aG ?_
  rw[iJ C]
  refine aH (aT (bR kA (bR kA (aD 2 rfl (cP jC T.list R.BL (aR [0,3] rfl (qW (.tup _) (j8 (.lst _) (.lst _) (by rw[iN _ _ (by rw[q];exact hf),iA,aI,aI,ju];exact R.aX '!') (cP jC T.list R.BL (aR [1,4] rfl (qW (.tup _) (j8 (.lst _) (.lst _) (by rw[iN _ _ (by rw[q];exact hf),iN _ _ (by rw[r];exact y),iA,iA,jE,aI,aI,qh,ju,ju];exact R.aX '!') ?_))))))))))))
  rw[iN _ _ (by rw[q];exact hf),iN _ _ (by rw[r];exact y),iA,iA,jE,jE,fin]
  exact L
theorem aAH:FnScope zl9 zl9 (aM jX):=zSc
abbrev rB(P w K mg z):=Fo P w K mg z "finer_row" jX zl9 2 aFD
theorem yY(Df:R.Df K mg "finer_row" jX zl9 f fd)(aQB:kU P w K mg z)(T:Bt mg):rB P w K mg z:=by
 refine⟨f,fd,Df,bM Df aAH (λds M k h => ?_) (λg A outer s H E m ds M k h => ?_)⟩
 ·obtain⟨x,y,K',cs,u,rfl,_⟩:=h;rfl
 obtain⟨x,y,K',cs,u,rfl,hw,hl,l⟩:=h
 refine aH (aT (dX kx vg vf iZ (ge_str ⟨rfl,aE (bO ["yard", "up"] [0,2] (cD (aD 1 rfl ⟨_, .inr (.inl rfl),(dM (ds:=cs.map D.int) (by rw[zLm];exact R.aX '!') (λi acc M'=>M'=M/\acc=(((cs.take i).map λc=>R.sg (R.aP K' c u)).map λc=>(⟨#[c]⟩:Str)).map D.str) ⟨rfl,rfl⟩ ?_ ?_)⟩)))⟩)))
 ·rintro i d acc M' hd ⟨rfl,rfl⟩ e C s₀ H₀ n
  obtain⟨c,j,rfl⟩:=cR hd
  refine bF (cT λe C s₀ H₀ n=>(lU (jK (aO aQB m (aR [1,0,2] rfl ⟨_,_,K',_,_,rfl,hw,⟨_,rfl,?_⟩⟩)))))
  have step:∀b,R.aP K' c u=b->(((cs.take (i+1)).map λc=>R.sg (R.aP K' c u)).map λc=>(⟨#[c]⟩:Str)).map D.str=(((cs.take i).map λc=>R.sg (R.aP K' c u)).map λc=>(⟨#[c]⟩:Str)).map D.str++[.str ⟨#[R.sg b]⟩]:=λb a=>by
   rw[cC j,qg,qg,a];rfl
  refine ite2 (λa => ?_) (λa => ?_)
  ·refine ge_str ⟨rfl,?_⟩
   rw[step true a,rY];rfl
  ·refine ge_str ⟨rfl,?_⟩
   rw[step false (by simpa using a),show ("." : Str)=⟨#[R.sg false]⟩ from by decide +kernel]
 rintro acc M' ⟨rfl,rfl⟩
 rw[zLm,qw]
 refine aS (iY (.lst _) (by decide +kernel) (by simp only[uH,zLm];omega) ?_)
 rw[R.fK,R.lL]
 exact l
theorem kL:FnScope ["yard", "xs", "ys", "acrosses", "ups"] zl15 (aM jG):=zSc
abbrev pF(P w K mg z):=Fo P w K mg z "finer_rows" jG zl15 3 aA5
theorem xF(Df:R.Df K mg "finer_rows" jG zl15 f fd)(aQJ:tD P w K mg z)(aQK:rB P w K mg z)(T:Bt mg):pF P w K mg z:=by
 refine⟨f,fd,Df,bM Df kL (λds M k h => ?_) (λt A outer s H E p ds M k h => ?_)⟩
 ·obtain⟨A,xs,b,rfl,_⟩:=h;rfl
 obtain⟨A,xs,b,rfl,j,m,n,g,lw,B,G,F,q⟩:=h
 have l:∀z∈A.K,z.length<=1000:=λz l=>by have:=A.wide.1 z l;omega
 refine aB (aK 3 kL.nd (bO zl20 [0] (cD (bJ [1] rfl ?_))))
 rw[gJ,wP]
 refine⟨_, .inr (.inl rfl),(dM (ds:=aJ xs.dropLast) (by rw[aI,q7];exact R.aX '!') (λi acc M'=>M'=M/\acc=((xs.dropLast.take i).map (ix A.ws)).map D.int) ⟨rfl,rfl⟩ ?_ ?_)⟩
 ·rintro i d acc M' hd ⟨rfl,rfl⟩ a C s₀ H₀ c
  obtain⟨x,e,rfl⟩:=cR hd
  refine bF (cT λa C s₀ H₀ c=>(a9 aW (aO aQJ p (aR [1,0] rfl ⟨A.ws,x,rfl,j,by omega,n x ((rh xs).mem (zMo e)),(bJ [] rfl (bB (.lst _) (tI A.uw _) ⟨rfl,?_⟩))⟩))))
  rw[cC e,qg]
  rfl
 rintro acc M' ⟨rfl,rfl⟩
 rw[aI,qw]
 refine aB (gS 4 zl20 [0] kL.nd (cD (bJ [2] rfl ?_)))
 rw[gJ,wP]
 refine⟨_, .inr (.inl rfl),(qH (ds:=aJ b.dropLast) (by rw[aI,q7];exact R.aX '!') (λi acc M1=>M1=M'/\acc=((b.dropLast.take i).map (ix A.us)).map D.int) ⟨rfl,rfl⟩ ?_ ?_)⟩
 ·rintro i d acc M1 hd ⟨rfl,rfl⟩ a C s₀ H₀ c
  obtain⟨x,e,rfl⟩:=cR hd
  refine bF (cT λa C s₀ H₀ c=>(a9 aW (aO aQJ p (aR [1,0] rfl ⟨A.us,x,rfl,m,by omega,g x ((rh b).mem (zMo e)),(bJ [] rfl (bB (.lst _) (tI A.uu _) ⟨rfl,?_⟩))⟩))))
  rw[cC e,qg]
  rfl
 rintro acc M1 ⟨rfl,rfl⟩ I o
 rw[aI,qw]
 refine kB 4 rfl aG ?_
 rw[iJ o]
 refine aH (aT (bO ["yard", "acrosses"] [0,3] (cD (aD 4 rfl ⟨_, .inr (.inl rfl),(dM (ds:=(b.dropLast.map (ix A.us)).map D.int) (by rw[zLm,zLm,q7];exact R.aX '!') (λi acc M2=>M2=M1/\acc=((b.dropLast.take i).map λy=>xJ A.K (xs.dropLast.map (ix A.ws)) (ix A.us y)).map D.str) ⟨rfl,rfl⟩ ?_ ?_)⟩))))
 ·rintro i d acc M2 hd ⟨rfl,rfl⟩ a C s₀ H₀ c
  obtain⟨u,v,rfl⟩:=cR hd
  obtain⟨y,r,rfl⟩:=cR v
  refine bF (cT λa C s₀ H₀ c=>(aO aQK p (aR [1,2,0] rfl ⟨_,_,A.K,_,_,rfl,l,by rw[zLm,q7];omega,?_⟩)))
  refine⟨rfl,?_⟩
  rw[cC r,qg]
  rfl
 rintro acc M2 ⟨rfl,rfl⟩
 rw[zLm,zLm,qw]
 unfold cK at q
 simp only[aG8]
 exact q
theorem xG:FnScope zl11 zl11 (aM jH):=zSc
abbrev pN(P w K mg z):=Fo P w K mg z "chosen_row" jH zl11 1 aC4
theorem xH(Df:R.Df K mg "chosen_row" jH zl11 f fd)(T:Bt mg):pN P w K mg z:=by
 refine⟨f,fd,Df,bM Df xG (λds M k h => ?_) (λo A outer s H E u ds M k h => ?_)⟩
 ·obtain⟨a,b,ps,rfl,_⟩:=h;rfl
 obtain⟨a,b,ps,rfl,g,y,J,r⟩:=h
 refine aH (aT (dX kx vg vf iZ (ge_str ⟨rfl,aE (vY ["pairs"] [2] (aK5 T.zip gk (aR [0,1] rfl ⟨a,b,rfl,g,?_⟩)))⟩)))
 have hl:(fP (iK a) (iK b)).length=a.length:=by unfold fP;rw[zLm,xk,jO,jO];omega
 have l:(a.cps.toList.zip b.cps.toList).length=a.length:=by
  rw[xk,jj,jj]
  have z:a.cps.size=a.length:=rfl
  have I:b.cps.size=b.length:=rfl
  omega
 refine aEA (by rw[hl];exact R.aX '!') (λd hd=>xT hd) (λi acc M'=>M'=M/\acc=((((a.cps.toList.zip b.cps.toList).take i).map λp=>R.sg (oD ps p)).map λc=>(⟨#[c]⟩:Str)).map D.str) ⟨rfl,rfl⟩ ?_ ?_
 ·rintro i G B acc M' hd ⟨rfl,rfl⟩ j C s₀ H₀ t
  obtain⟨c,e,x,rfl,rfl⟩:=aID hd
  refine bF (cT λj C s₀ H₀ t=>(lU (b5 (aNU (n:=0) (R.units_le u)) (fL [0,1] rfl ⟨(R.aX (show 1+1<=1000000 by decide)),trivial⟩ (aD 2 rfl (aN3 (.tup _) (.inl rfl) rfl (aH4 ps) ⟨_,rfl,?_⟩))))))
  rw[aH9]
  have step:∀v,oD ps (c,e)=v->((((a.cps.toList.zip b.cps.toList).take (i+1)).map λp=>R.sg (oD ps p)).map λc=>(⟨#[c]⟩:Str)).map D.str=((((a.cps.toList.zip b.cps.toList).take i).map λp=>R.sg (oD ps p)).map λc=>(⟨#[c]⟩:Str)).map D.str++[.str ⟨#[R.sg v]⟩]:=λv q=>by
   rw[cC x,qg,qg,q];rfl
  refine ite2 (λm => ?_) (λm => ?_)
  ·refine ge_str ⟨rfl,?_⟩
   rw[step true m,rY];rfl
  ·refine ge_str ⟨rfl,?_⟩
   rw[step false (Qz.mpr m),show ("." : Str)=⟨#[R.sg false]⟩ from by decide +kernel]
 rintro acc M' ⟨rfl,rfl⟩
 rw[hl,<- l,qw]
 refine aS (iY (.lst _) (by decide +kernel) (by simp only[uH,zLm];omega) ?_)
 rw[R.fK,R.lL]
 exact r
theorem kF:FnScope ["one", "other", "pairs", "xs", "ys", "ones", "others"] zl11 (aM nW):=zSc
abbrev rP(P w K mg z):=Fo P w K mg z "chosen" nW zl11 4 aG4
theorem aFW(Df:R.Df K mg "chosen" nW zl11 f fd)(aQL:zQ P w K mg z)(aQM:pF P w K mg z)(aQN:pN P w K mg z)(aP8:rT P w K mg z)(T:Bt mg):rP P w K mg z:=by
 refine⟨f,fd,Df,bM Df kF (λds M k h => ?_) (λX A outer s H E c ds M k h => ?_)⟩
 ·obtain⟨A,B,Sx,Sy,ps,rfl,_⟩:=h;rfl
 obtain⟨A,B,Sx,Sy,ps,rfl,v,e,S,oB,lp,l⟩:=h
 obtain⟨q,o,V,l2⟩:=onB S v e
 obtain⟨t,m,l3,O⟩:=onB oB v e
 have Q:=bX A.uw B.uw
 have W:=bX A.uu B.uu
 have mx:=gN A.ws B.ws
 have my:=gN A.us B.us
 have ix:BqL (aQ A.ws B.ws):=λx u=>((cW _ _ _).mp u).elim (q x) (t x)
 have J:BqL (aQ A.us B.us):=λx u=>((cW _ _ _).mp u).elim (o x) (m x)
 have g:=eX (λx y=>oV ps (A.has x y) (B.has x y)) (aQ A.ws B.ws) (aQ A.us B.us)
 have G:=fI (λx y=>oV ps (A.has x y) (B.has x y)) (aQ A.ws B.ws) (aQ A.us B.us)
 have l:k (jV (aJ (aQ A.ws B.ws)) (aJ (aQ A.us B.us)) (cK (λx y=>oV ps (A.has x y) (B.has x y)) (aQ A.ws B.ws) (aQ A.us B.us))) M:=by rw[qJ Q W g G];exact l
 refine aB (aK 3 kF.nd (aO aQL c (aR [0,1] rfl ⟨A.ws,B.ws,rfl,q,t,by omega,by omega,?_⟩)))
 refine aB (aK 4 kF.nd (aO aQL c (aR [0,1] rfl ⟨A.us,B.us,rfl,o,m,by omega,by omega,?_⟩)))
 refine aB (aK 5 kF.nd (aO aQM c (aR [0,3,4] rfl ⟨A,_,_,rfl,q,o,ix,J,V,l2,by omega,by omega,?_⟩)))
 refine aB (aK 6 kF.nd (aO aQM c (aR [1,3,4] rfl ⟨B,_,_,rfl,t,m,ix,J,l3,O,by omega,by omega,?_⟩)))
 refine aH (aT (aO aP8 c (aE (aD 3 rfl (aE (aD 4 rfl (aE (vY ["pairs"] [2] (aLN T.zip gk (aR [5,6] rfl ?_))))))))))
 have la:=fI A.has (aQ A.ws B.ws) (aQ A.us B.us)
 have lb:=fI B.has (aQ A.ws B.ws) (aQ A.us B.us)
 have Z:=eX A.has (aQ A.ws B.ws) (aQ A.us B.us)
 have N:=eX B.has (aQ A.ws B.ws) (aQ A.us B.us)
 have cg:=aD0 ps A.has B.has (aQ A.ws B.ws) (aQ A.us B.us)
 generalize cK A.has (aQ A.ws B.ws) (aQ A.us B.us)=A1 at *
 generalize cK B.has (aQ A.ws B.ws) (aQ A.us B.us)=A2 at *
 refine⟨_,_,rfl,by rw[zLm,zLm];omega,?_⟩
 have hl:(fP (A1.map D.str) (A2.map D.str)).length=A1.length:=by unfold fP;rw[zLm,xk,zLm,zLm];omega
 have r:(A1.zip A2).length=A1.length:=by rw[xk];omega
 refine aEA (by rw[hl];exact R.aX '!') (λd hd=>xT hd) (λi acc M'=>M'=M/\acc=(((A1.zip A2).take i).map λp=>uD ps p.1 p.2).map D.str) ⟨rfl,rfl⟩ ?_ ?_
 ·rintro i d1 d2 acc M' hd ⟨rfl,rfl⟩ j C s₀ H₀ Y
  obtain⟨U,L⟩:=aDR hd
  obtain⟨a,F,rfl⟩:=cR U
  obtain⟨b,I,rfl⟩:=cR L
  have w1:=(Z a (zMo F)).1
  have w2:=(N b (zMo I)).1
  refine bF (cT λj C s₀ H₀ Y=>(aO aQN c (aR [0,1,2] rfl ⟨a,b,ps,rfl,by omega,by omega,lp,?_⟩)))
  refine⟨rfl,?_⟩
  rw[cC (vd.mpr ⟨F,I⟩:(A1.zip A2)[i]?=some (a,b)),qg]
  rfl
 rintro acc M' ⟨rfl,rfl⟩
 rw[hl,<- r,qw,cg]
 exact aS ⟨true,_,_,aJ (aQ A.ws B.ws),aJ (aQ A.us B.us),_,(aQ A.ws B.ws).length-1,rfl,rfl,rfl,by omega,by omega,λz n=>(g z n).1,by rw[aI];exact gA λz n=>(g z n).1,by rw[aI];exact f7 G,l⟩
theorem aJ0:FnScope zl18 zl18 (aM tL):=zSc
abbrev yV(P w K mg z):=Fo P w K mg z "both" tL zl18 5 (aI7 jN)
theorem aK2(Df:R.Df K mg "both" tL zl18 f fd)(aQO:rP P w K mg z):yV P w K mg z:=by
 refine⟨f,fd,Df,bM Df aJ0 (λds M k h => ?_) (λc A outer s H E g ds M k h => ?_)⟩
 ·obtain⟨A,B,Sx,Sy,rfl,_⟩:=h;rfl
 obtain⟨A,B,Sx,Sy,rfl,d,a,e,i,b⟩:=h
 rw[<- aDX] at b
 refine aH (aT (aO aQO g (aR [0,1] rfl ⟨A,B,Sx,Sy,[("##" : Str)],rfl,d,a,e,i,by decide,?_⟩)))
 exact b
theorem aGN:FnScope zl18 zl18 (aM oE):=zSc
abbrev sF(P w K mg z):=Fo P w K mg z "either" oE zl18 5 (aI7 b6)
theorem aDZ(Df:R.Df K mg "either" oE zl18 f fd)(aQO:rP P w K mg z):sF P w K mg z:=by
 refine⟨f,fd,Df,bM Df aGN (λds M k h => ?_) (λc A outer s H E g ds M k h => ?_)⟩
 ·obtain⟨A,B,Sx,Sy,rfl,_⟩:=h;rfl
 obtain⟨A,B,Sx,Sy,rfl,d,a,e,i,b⟩:=h
 rw[<- aAZ] at b
 refine aH (aT (aO aQO g (aR [0,1] rfl ⟨A,B,Sx,Sy,[("##" : Str),("#." : Str),(".#" : Str)],rfl,d,a,e,i,by decide,?_⟩)))
 exact b
theorem fC:FnScope ["_law_yard_here", "_law_void", "_law_some", "_law_joined", "_law_piece"] zl5 (aM iE):=zSc
abbrev o0(P w K mg z):=Fo P w K mg z "_law_parts_right" iE zl5 7 aOF
theorem vQ(Df:R.Df K mg "_law_parts_right" iE zl5 f fd)(aQH:oG P w K mg z)(aQP:pE P w K mg z)(aQQ:yV P w K mg z)(aQR:sF P w K mg z):o0 P w K mg z:=by
 refine⟨f,fd,Df,bM Df fC (λds M k h => ?_) (λo A outer s H E b ds M k h => ?_)⟩
 ·obtain⟨A,rfl,_⟩:=h;rfl
 obtain⟨A,rfl,hA,p⟩:=h
 refine aB (aK 2 fC.nd (fD (aO aQH b (aR [0] rfl (⟨_,_,A.K,rfl,xO A,by rw[aI];exact hA.lx,by rw[aI];exact hA.ly,λa g=>⟨a,_,M,rfl,aG,g,(Le.refl _).upd g,?_⟩⟩)))))
 rw[sI]
 refine aB (aK 3 fC.nd (aD 1 rfl (aB (iB (cD (aD 2 rfl ⟨_, .inr (.inl rfl),(⟨λi Γ' M'=>M'=M/\∃J v,Som A i J/\Γ'=[some (yd A),some (yd Yd.void),some (.lst ((pcY A).map yd)),some (yd J),v],⟨rfl,_,_,aPJ A,rfl⟩,?_,?_⟩)⟩))))))
 ·rintro i d Γ' M' hd ⟨rfl,J,v,e,rfl⟩
  obtain⟨B,hB,rfl⟩:=cR hd
  have m:=zMo hB
  have l:=aI5 m
  have c:=hA.of_on l
  obtain⟨e1,j⟩:=aJV e hB
  refine g6 4 fC.nd (aB (dE (n4 (oN (b5 (m8 (n:=4) (R.units_le b)) (fD (aO aQH b (aR [4] rfl (⟨_,_,B.K,rfl,xO B,by rw[aI];exact c.lx,by rw[aI];exact c.ly,λa g=>⟨a,_,M',rfl,aG,g,(Le.refl _).upd g,?_⟩⟩)))))))))
  rw[sI,aOC m]
  refine bJ [4] rfl (nL (.lst _) (.lst _) (j5 [B]) (j5 [B]) ⟨_,rfl,?_⟩)
  rw[show eqD (.lst ([B].map yd)) (.lst [yd B])=true from (tW [B] [B]).trans (decide_eq_true rfl)]
  refine jA (oN (lO (jK (aO aQP b (aR [4] rfl ⟨B,rfl,c,⟨_,rfl,(jA (t7 (b5 (m8 (n:=3) (R.units_le b)) (aO aQQ b (aR [3,4] rfl ⟨J,B,A.ws,A.us,rfl,hA.bx,hA.by_,e.1,l,(aD 1 rfl (nL (e1:=yd (Yd.op jN J B)) (e2:=yd Yd.void) (.tup _) (.tup _) (oY _) (oY _) ⟨_,rfl,?_⟩))⟩)))))⟩⟩)))))
  rw[xR,decide_eq_true e1]
  exact jA (bU (aH (aK 3 fC.nd (aO aQR b (aR [3,4] rfl ⟨J,B,A.ws,A.us,rfl,hA.bx,hA.by_,e.1,l,⟨rfl,_,_,j,rfl⟩⟩)))))
 rintro Γ' M' ⟨rfl,J,v,e,rfl⟩
 rw[zLm] at e
 have q:=aJ5 e
 refine aH (aT (jD (nJ (n:=3) (R.units_le b)) (aD 3 rfl (aD 0 rfl (nG (e1:=yd J) (e2:=yd A) (.tup _) (.tup _) (oY _) (oY _) ?_)))))
 rw[xR,decide_eq_true q]
 exact p
theorem gG:FnScope ["_law_feed_here", "_law_many", "_law_bottom", "_law_most", "_law_at", "_law_found", "_law_k", "_law_by"] zl4 (aM qQ):=zSc
abbrev aBJ(P w K mg z):=Fo P w K mg z "_law_lines" qQ zl4 2 aM6
theorem aGZ(Df:R.Df K mg "_law_lines" qQ zl4 f fd)(aQS:p8 P w K mg z)(aQT:aAR P w K mg z)(T:Bt mg):aBJ P w K mg z:=by
 refine⟨f,fd,Df,bM Df gG (λds M k h => ?_) (λai A outer s H E C ds M k h => ?_)⟩
 ·obtain⟨p,many,b,rfl,_⟩:=h;rfl
 obtain⟨p,many,b,rfl,ae,ak,N,hb,hk⟩:=h
 refine aB (aK 2 gG.nd (a9 aW (bJ [] rfl (aO aQS C (aR [0] rfl ⟨p,_,_,rfl,by decide,by decide,N,by omega,λz1 M1 X ab V G ag => ?_⟩)))))
 obtain⟨bt,Y,n⟩:=aL6 X ab
 refine bB (.lst _) Y (aB (aK 3 gG.nd (a9 aW (fL [] rfl ⟨⟨by decide,by decide,by decide⟩,trivial⟩ (aO aQS C (aR [0] rfl ⟨p,_,_,rfl,by decide,by decide,V,by omega,λz2 M2 aa Q r l v => ?_⟩))))))
 obtain⟨most,U,ad,ac⟩:=aEM aa Q
 refine bB (.lst _) U (aB (aK 4 gG.nd (bR tQ (aO aQS C (aR [0] rfl ⟨p,_,_,rfl,by decide,by decide,r,by omega,λz3 M3 ah af u B aj => ?_⟩)))))
 refine z4 (iH (aB (aK 5 gG.nd (i5 (aS ⟨(show 0<=sizeLine by decide),λa L => ?_⟩)))))
 have g:a≠p:=u.ne L
 have q:M a=none:=by
  cases e:M a with
  |none=>rfl
  |some o=>rw[B a o g (l a o g (G a o g e))] at L;cases L
 refine aB (iB (fW T.range (aR [1] rfl ⟨_,rfl,by omega,by omega,?_⟩)))
 refine⟨λi Γ' M'=>∃(t:Int) (c:List Int) (O W:Option D),Γ'=[some (.mt p),some (.int many),some (.int bt),some (.int most),some (.int t),some (.mt a),O,W]/\M' a=some (.lst (c.map (gX bt)))/\FdM M' p (b+3+i)/\dH p M M' /\
  c.length=i/\c.Pairwise (· < ·)/\(∀x∈c, -20<=x/\x<t) /\ -20<=t/\t<=20+100000000*i,?_,?_,?_⟩
 ·refine⟨z3-20,[],none,none,rfl,aG,(u.new g).mono '!',((G.trans l).trans B).new q,rfl, .nil,λx j=>(nomatch j),by omega,by omega⟩
 ·rintro i d Γ' M' hd ⟨t,c,O,W,rfl,I,J,hB,hl,S,m,t0,t1⟩
  obtain⟨hi,rfl⟩:=c8 hd
  have Z:i<=20:=by omega
  refine g6 6 gG.nd (aB (aK 7 gG.nd (aO aQT C (aR [4,2] rfl ⟨_,_,rfl,?_⟩))))
  have hg:=aGE (a:=t) n
  refine aB (iM (dX jk vi vh fH (aD 5 rfl (⟨⟨rfl,_,I⟩,(aI2 [4,7,2,7] rfl ⟨hg,hg,trivial⟩ (gM I (by rw[zLm,hl];exact kc Z (by decide)) (aH (aK 4 gG.nd (bR gE (bJ [4] rfl (aO aQS C (aR [0,3] rfl ⟨p,most,_,rfl,by omega,by omega,J.new g,by omega,λz M2 z0 z1 r l v => ?_⟩))))))))⟩))))
  refine iH ⟨_,c++[t],_,_,rfl,?_,r.mono '!',(hB.new q).trans l,by rw[qh,hl];rfl,?_,?_,by omega,by omega⟩
  ·rw[v a g,aG,qg];rfl
  ·rw[wm]
   exact⟨S,by simp,λx j y hy=>by rw[qk] at hy;rw[hy];exact (m x j).2⟩
  ·intro x j
   rcases q5.mp j with j|j
   ·have:=m x j;omega
   ·rw[qk] at j;omega
 ·rintro Γ' M' ⟨t,c,O,W,rfl,I,J,hB,hl,S,m,t0,t1⟩
  rw[bC] at J hl t1
  refine aH (aT (aD 5 rfl (hk a M' bt c q I (J.mono '!') hB hl ⟨n,S,λx j => ?_⟩)))
  have:=m x j
  omega
theorem rN:FnScope ["_law_feed_here", "_law_way", "_law_k", "_law_j", "_law_wide", "_law_high", "_law_edge", "_law_known"] zl0 (aM qV):=zSc
abbrev aBB(P w K mg z):=Fo P w K mg z "_law_is_in" qV zl0 2 aOU
theorem aHC(Df:R.Df K mg "_law_is_in" qV zl0 f fd)(aQS:p8 P w K mg z)(T:Bt mg):aBB P w K mg z:=by
 refine⟨f,fd,Df,bM Df rN (λds M k h => ?_) (λy A outer s H E u ds M k h => ?_)⟩
 ·obtain⟨p,b,way,i,j,wide,high,rfl,_⟩:=h;rfl
 obtain⟨p,b,way,i,j,wide,high,rfl,Q,I,d,V,O,W,G,N,v,D,t⟩:=h
 refine aB (dE (pG [1] rfl (ite2 (λhw => ?_) (λhw => ?_))))
 ·refine aH (aT (jD aJA (aO aQS u (aR [0] rfl ⟨p,_,_,rfl,by decide,by decide,d,by omega,λx M1 r o e g n => ?_⟩))))
  exact aD 1 rfl (pW (t _ _ e g))
 refine bU ?_
 have C:4<=way:=by
  have:¬way<4:=λz=>hw (decide_eq_true z)
  omega
 refine aB (aK 6 rN.nd (b8 (aF6 rfl) T.min BMin (aR [2,3,4,2,5,3] rfl (aLZ λedge=>(aB (aK 7 rN.nd (i5 (aE (fL [6] rfl ⟨(show (0:Int)<_ by first|decide|omega),trivial⟩ (aE (fL [2,3] rfl ⟨(show (0:Int)<_ by first|decide|omega),trivial⟩ (aE (aFJ (fL [3] rfl ⟨(show (0:Int)<_ by first|decide|omega),trivial⟩ ⟨_,rfl,λ_ => ?_,λS => ?_⟩))))))))))))))
 ·exact zB (fL [2,4,3] rfl ⟨(.inl (.inl ⟨by omega,by omega⟩)),(show (0:Int)<2 by decide),⟨by decide,by decide⟩,trivial⟩ (⟨⟨_,rfl⟩,rfl⟩))
 refine aE (kZ (aS ⟨(show 4<=sizeLine by decide),λa m => ?_⟩))
 have l:a≠p:=d.ne m
 refine aB (iM (dX jk vi vh fH (aD 7 rfl (⟨⟨rfl,_,aG⟩,(aE (aFJ (bJ [6] rfl ⟨_,rfl,λ_ => ?_,λL => ?_⟩)))⟩))))
 ·exact zB (fL [2,3] rfl ⟨(show (0:Int)<_ by first|decide|omega),trivial⟩ (⟨⟨_,rfl⟩,rfl⟩))
 refine aS (gM aG (show 4<sizeLine by decide) ?_)
 obtain⟨q,B,U,J⟩:=aOH (z:=way-4) '!' '!'
 refine aH (aT (jD oH (a9 aW (aD 7 rfl (bJ [1] rfl (aND (.mt aG) (pick5b '!' '!' λc=>(jD oW (aO aQS u (aE (aD 0 rfl (aE (a9 aW (bJ [] rfl (bJ [1] rfl (bB (.lst _) B (aS ⟨p,q,_,rfl,by omega,by omega,(d.new l).new l,by omega,λx M1 r o e g n => ?_⟩)))))))))))))))))
 exact z4 (aAJ (aE8 (t _ _ e ((((dH.refl p M).new m).new m).trans g))))
theorem aEJ:FnScope zl19 zl19 (aM oO):=zSc
abbrev yL(P w K mg z):=Fo P w K mg z "_law_across" oO zl19 1 aLO
theorem aE3(Df:R.Df K mg "_law_across" oO zl19 f fd)(T:Bt mg):yL P w K mg z:=by
 refine⟨f,fd,Df,bM Df aEJ (λds M k h => ?_) (λo A outer s H E x ds M k h => ?_)⟩
 ·obtain⟨zs,n,rfl,_⟩:=h;rfl
 obtain⟨zs,n,rfl,hl,q,c,p⟩:=h
 obtain⟨G,m,t,v⟩:=zN c q
 refine aH (aT ((bO zl19 [0] (fW T.range (aE (b8 dL T.len va (aE (a9 aW (fL [0] rfl ⟨(by rw[zLm];exact R.aX (by simp only[qp,xl];omega)),trivial⟩ (z4 (bB (.lst _) m (aS (iX (R.aX '!') (aS ⟨_,rfl,by omega,by omega,?_⟩))))))))))))))
 rw[qi]
 refine dM (by rw[bC];exact R.aX '!') (λi acc M'=>M'=M/\acc=((qr i).map λj=>R.ofL (zs.map (R.atS · j))).map D.str) ⟨rfl,rfl⟩ ?_ ?_
 ·rintro i d acc M' hd ⟨rfl,rfl⟩ cs C s₀ H₀ e
  obtain⟨r,rfl⟩:=c8 hd
  refine bF (cT λcs C s₀ H₀ e=>(dX kx vg vf iZ (ge_str ⟨rfl,(aE ((bO ["_law_k"] [0] (cD (aD 1 rfl ⟨_, .inr (.inl rfl),(dM (ds:=zs.map D.str) (by rw[zLm];exact R.aX '!') (λl a M2=>M2=M'/\a=((zs.take l).map λz=>(⟨#[R.atS z i]⟩:Str)).map D.str) ⟨rfl,rfl⟩ ?_ ?_)⟩)))))⟩)))
  ·rintro l B a M2 hd2 ⟨rfl,rfl⟩ cs C s₀ H₀ e
   obtain⟨z,b,rfl⟩:=cR hd2
   have u:=c z (zMo b)
   have g:i<z.length:=by rw[<- t z (zMo b)];exact r
   refine bF (cT λcs C s₀ H₀ e=>(a9 aW (aD 0 rfl (aD 1 rfl (nD (R.aX '!') (by rw[kq];exact R.tH g) ⟨rfl,?_⟩)))))
   rw[take_snoc b,qg,qg]
   rfl
  ·rintro a M2 ⟨rfl,rfl⟩
   rw[zLm,qw]
   refine aS (iY (ys:=zs.map λz=>(⟨#[R.atS z i]⟩:Str)) (.lst _) (by decide +kernel) ?_ ?_)
   ·rw[lM _ (λz c => ?_),zLm]
    ·omega
    ·obtain⟨y,_,rfl⟩:=qq.mp c
     rfl
   ·refine⟨rfl,?_⟩
    rw[R.fK,rX,jq,qg,qg]
    rfl
 ·rintro acc M' ⟨rfl,rfl⟩
  rw[bC,zI m]
  exact p
theorem k9:FnScope ["_law_lines_here", "_law_some", "_law_blank", "_law_held", "_law_kept"] zl3 (aM mF):=zSc
abbrev wR(P w K mg z):=Fo P w K mg z "_law_tidied" mF zl3 1 aKF
theorem aCW(Df:R.Df K mg "_law_tidied" mF zl3 f fd)(T:Bt mg):wR P w K mg z:=by
 refine⟨f,fd,Df,bM Df k9 (λds M k h => ?_) (λy A outer s H E I ds M k h => ?_)⟩
 ·obtain⟨xs,zs,n,rfl,_⟩:=h;rfl
 obtain⟨xs,zs,n,rfl,hl,z,x,B,t⟩:=h
 obtain⟨G,m,J,g⟩:=zN x z
 refine aB (aK 2 k9.nd (bR vJ (ge_str (b8 dL T.len va (aE (a9 aW (fL [1] rfl ⟨(by rw[zLm];exact R.aX (by simp only[qp,xl];omega)),trivial⟩ (z4 (bB (.lst _) m (aS (iX (R.aX '!') (uK '!' '!' (rQ g) ?_))))))))))))
 rw[qi,R.pR,zI m]
 refine aB (aK 3 k9.nd (fL [2,1,2] rfl ⟨(by simp only[qh,zLm,qp,xl];exact R.aX '!'),(by rw[zLm];exact R.aX (by simp only[qp,xl];omega)),trivial⟩ ?_))
 rw[show [D.str (R.dots ((zs.head?.map (·.length)).getD 0))]++zs.map D.str++[D.str (R.dots ((zs.head?.map (·.length)).getD 0))]=(R.framed zs).map D.str from by simp[R.framed]]
 refine aB (gS 4 ["_law_held"] [3] k9.nd (fW T.range (i6 T.len [0] rfl trivial ⟨_,rfl,by omega,by omega,?_⟩)))
 rw[qi,B]
 refine qH (by rw[bC];exact R.aX '!') (λi acc M'=>M'=M/\acc=((qr i).filter λi => !decide ((R.framed zs)[i]?=(R.framed zs)[i+1]?)).map λ(j:Nat)=>D.int (j:Int)) ⟨rfl,rfl⟩ ?_ ?_
 ·rintro i d acc M' hd ⟨rfl,rfl⟩ cs C s₀ H₀ e
  obtain⟨F,rfl⟩:=c8 hd
  obtain⟨u,q⟩:=gW (zs:=zs) (i:=i) '!'
  obtain⟨v,p⟩:=gW (zs:=zs) (i:=i+1) '!'
  refine nK (b5 oH (a9 aW (aD 1 rfl (aD 0 rfl (bB (.lst _) (nH q) (a9 aW (aD 1 rfl (bJ [0] rfl (bB (.lst _) (sE p) (tK ⟨_,rfl,?_⟩))))))))))
  have o:(!decide ((R.framed zs)[i]?=(R.framed zs)[i+1]?))=(!decide (u=v)):=by rw[q,p];congr 1;simp
  refine ite2 (λl=>λcs C s₀ H₀ e => ?_) (λl => ?_)
  ·refine aD 0 rfl ⟨rfl,?_⟩
   rw[fY,if_pos (by rw[o];exact l),qg,kq]
   rfl
  ·refine⟨rfl,?_⟩
   rw[fY,if_neg (by rw[o];exact l)]
 rintro acc M' ⟨rfl,rfl⟩ a r
 rw[bC,aAF]
 refine kB 4 rfl aG ?_
 rw[iJ r]
 refine aH (aT (pL (aE ((bO ["_law_lines_here"] [0] (cD (aD 4 rfl ⟨_, .inr (.inl rfl),(dM (ds:=dB (R.chg zs)) (by unfold dB;rw[zLm];exact R.aX (by have:=R.lE zs;omega)) (λi acc M1=>M1=M'/\acc=((R.chg zs).take i).map λj=>xs.getD j .non) ⟨rfl,rfl⟩ ?_ ?_)⟩)))))))
 ·rintro i d acc M1 hd ⟨rfl,rfl⟩ cs C s₀ H₀ e
  obtain⟨j,c,rfl⟩:=fS hd
  have b:=R.dU zs j (zMo c)
  exact bF (cT λcs C s₀ H₀ e=>(a9 aW (aD 1 rfl (aD 0 rfl (bB (.lst _) (yX '!') ⟨rfl,(cC c).symm⟩)))))
 rintro acc M1 ⟨rfl,rfl⟩
 rw[cJ,qw]
 refine aE ((bO ["_law_held"] [3] (cD (bJ [4] rfl ?_))))
 rw[show cutD ((R.chg zs).map λ(j:Nat)=>D.int (j:Int)) none (some (-1))=dB (R.chg zs).dropLast from (gJ _).trans (fV _)]
 refine⟨_, .inr (.inl rfl),(dM (ds:=dB (R.chg zs).dropLast) (by unfold dB;rw[zLm,q7];exact R.aX (by have:=R.lE zs;omega)) (λi acc M2=>M2=M1/\acc=(((R.chg zs).dropLast.take i).map λj=>zs.getD j vp).map D.str) ⟨rfl,rfl⟩ ?_ ?_)⟩
 ·rintro i d acc M2 hd ⟨rfl,rfl⟩ cs C s₀ H₀ e
  obtain⟨j,c,rfl⟩:=fS hd
  have b:=R.iP (R.bV zs) (R.dU zs) j (zMo c)
  refine bF (cT λcs C s₀ H₀ e=>(a9 aW (aD 1 rfl (bJ [0] rfl (bB (.lst _) (aLF b) ⟨rfl,?_⟩)))))
  rw[cC c,qg]
  rfl
 rintro acc M1 ⟨rfl,rfl⟩
 rw[cJ,qw]
 exact aS ⟨(show 2<=sizeLine by decide),t⟩
theorem uY:FnScope ["_law_xs", "_law_ys", "_law_rows", "_law_columns"] zl2 (aM sG):=zSc
abbrev aEN(P w K mg z):=Fo P w K mg z "_law_tidy" sG zl2 2 aOK
theorem aLP(Df:R.Df K mg "_law_tidy" sG zl2 f fd)(aQU:wR P w K mg z)(aQV:yL P w K mg z)(T:Bt mg):aEN P w K mg z:=by
 refine⟨f,fd,Df,bM Df uY (λds M k h => ?_) (λo A outer s H E c ds M k h => ?_)⟩
 ·obtain⟨xs,j,zs,n,rfl,_⟩:=h;rfl
 obtain⟨xs,j,zs,n,rfl,hl,i,l,r,q,p,m⟩:=h
 refine aB (m9 (aO aQU c (aR [1,2] rfl ⟨j,zs,n,rfl,hl,i,λz a=>(l z a).1,q,(aCG [1,2] uY.nd rfl (aB (dE (b5 (nJ (n:=2) (R.units_le c)) (aD 2 rfl (bJ [] rfl (nG (.lst _) (.lst _) (aKZ _) rfl ⟨_,rfl,?_⟩)))))))⟩)))
 rw[eq_nil]
 refine ite2 (λg => ?_) (λg => ?_)
 ·exact aH (aT (bJ [] rfl (p (map_nil g))))
 have b:R.aF zs≠[]:=λe=>g (by rw[e];rfl)
 refine bU ?_
 have g1:=R.fR l
 have gl:(R.aF zs).length<=1000:=by have:=R.dQ zs;have:=R.lE zs;omega
 have cl:=(R.n8 λz a=>(g1 z a).1).2 b
 refine aB (m9 (aO aQU c (aE (aD 0 rfl (aE (aO aQV c (aR [2] rfl ⟨R.aF zs,n,rfl,gl,i,λz a=>(g1 z a).1,(aS ⟨xs,R.aC (R.aF zs),(R.aF zs).length,rfl,by omega,gl,λz a=>R.fJ z a,by omega,?_⟩)⟩)))))))
 refine aCG [0,3] uY.nd rfl ?_
 have g2:=R.fR (R.j7 g1)
 have d:(R.aF (R.aC (R.aF zs))).length<=1000:=by have:=R.dQ (R.aC (R.aF zs));have:=R.lE (R.aC (R.aF zs));omega
 exact aH (aT (pL (aE (cP cX T.tuple R.BT (aR [0] rfl (fN (.lst _) (aE (cP cX T.tuple R.BT (aR [1] rfl (fN (.lst _) (aE (cP cX T.tuple R.BT (aE (aO aQV c (aR [3] rfl ⟨_,_,rfl,d,gl,λz a=>(g2 z a).1,(aS (fN (.lst _) (aS ⟨(show 3<=sizeLine by decide),(m b)⟩)))⟩)))))))))))))))
theorem iL:FnScope ["_law_feed_here", "_law_most", "_law_xs", "_law_ys", "_law_way", "_law_rows", "_law_j", "_law_signs"] zl6 (aM qO):=zSc
abbrev aB7(P w K mg z):=Fo P w K mg z "_law_yard" qO zl6 3 aLT
theorem aHD(Df:R.Df K mg "_law_yard" qO zl6 f fd)(aQW:aBJ P w K mg z)(aQS:p8 P w K mg z)(aQX:aBB P w K mg z)(aQY:aEN P w K mg z)(T:Bt mg):aB7 P w K mg z:=by
 refine⟨f,fd,Df,bM Df iL (λds M k h => ?_) (λaF A outer s H E n ds M k h => ?_)⟩
 ·obtain⟨p,b,most,rfl,_⟩:=h;rfl
 obtain⟨p,b,most,rfl,aQ,aM,Z,hb,hk⟩:=h
 refine aB (aK 2 iL.nd (fD (aO aQW n (aE (aD 0 rfl (aE (bR gE (z4 (aO aQS n (aR [0,1] rfl ⟨p,most,_,rfl,by omega,by omega,Z,by omega,λz1 M1 aL aV J L aU => ?_⟩))))))))))
 refine iH (aS ⟨p,_,_,rfl,by omega,by omega,J,by omega,λW Nx v a I ai ap ak az ad => ?_⟩)
 refine⟨W,_,g7 Nx W,rfl,ai,kI,aEC _ _,?_⟩
 have xp:W≠p:=J.ne I
 have xn:M W=none:=L.none_of I xp
 have au:=ap.del xp
 have Q:=(L.trans ak).del xn
 refine aB (aK 3 iL.nd (fD (aO aQW n (aE (aD 0 rfl (aE (bR gE (z4 (aO aQS n (aR [0,1] rfl ⟨p,most,_,rfl,by omega,by omega,au,by omega,λz3 M3 aC aA y G aP => ?_⟩))))))))))
 refine iH (aS ⟨p,_,_,rfl,by omega,by omega,y,by omega,λV Ny S l x aa aw ae aN ab => ?_⟩)
 refine⟨V,_,g7 Ny V,rfl,aa,kI,aEC _ _,?_⟩
 have yp:V≠p:=y.ne x
 have yn:M V=none:=(Q.trans G).none_of x yp
 have al:=aw.del yp
 have ac:=((Q.trans G).trans ae).del yn
 refine aB (aK 4 iL.nd (aO aQS n (aR [0] rfl ⟨p,_,_,rfl,by decide,by decide,al,by omega,λz5 M5 aq Y U am aI => ?_⟩)))
 have N:=ac.trans am
 refine aB (aK 5 iL.nd (i5 (aS ⟨(show 0<=sizeLine by decide),λr B => ?_⟩)))
 have rp:r≠p:=U.ne B
 have rn:M r=none:=N.none_of B rp
 have an:(a.map (gX v)).length=a.length:=zLm ..
 have ag:(l.map (gX S)).length=l.length:=zLm ..
 refine aB (iB (fW T.range (i6 T.len [3] rfl trivial ⟨_,rfl,by omega,by omega,?_⟩)))
 rw[ag,show ((l.length:Int)-1).toNat=l.length-1 by omega]
 refine⟨λi Γ' M'=>∃(zs:List Str) (vj vs:Option D),Γ'=[some (.mt p),some (.int most),some (.lst (a.map (gX v))),some (.lst (l.map (gX S))),some (.int z5),some (.mt r),vj,vs]/\M' r=some (.lst (zs.map .str)) /\
  FdM M' p (b+150+20*i)/\dH p M M'/\zs.length=i/\R.Good (a.length-1) zs,?_,?_,?_⟩
 ·exact⟨[],none,none,rfl,aG,(U.new rp).mono '!',N.new rn,rfl,λz hz=>(nomatch hz)⟩
 ·rintro i d Γ' M' hd ⟨zs,vj,vs,rfl,hM,X,hB,hl,u⟩
  obtain⟨hi,rfl⟩:=c8 hd
  refine g6 6 iL.nd (aB (gS 7 ["_law_feed_here", "_law_way", "_law_j", "_law_xs", "_law_ys"] [0,4,6,2,3] iL.nd (fW T.range (i6 T.len [2] rfl trivial ⟨_,rfl,by omega,by omega,?_⟩))))
  rw[an,show ((a.length:Int)-1).toNat=a.length-1 by omega]
  refine qH (ds:=oS 0 (a.length-1)) (by rw[bC];exact R.aX '!') (λi2 acc M2=>∃cs:List Nat,acc=(cs.map λc=>(⟨#[c]⟩:Str)).map D.str/\(∀c∈cs,c=35\/c=46)/\cs.length=i2/\FdM M2 p (b+150+20*i+i2)/\dH p M M2/\M2 r=some (.lst (zs.map .str)))
   ⟨[],rfl,λc hc=>(nomatch hc),rfl,X.mono '!',hB,hM⟩ ?_ ?_
  ·rintro i2 d2 acc M2 hd2 ⟨cs,rfl,o,hl2,e,g,j⟩ ao C s₀ H₀ fp
   obtain⟨aJ,rfl⟩:=c8 hd2
   refine bF (cT λao C s₀ H₀ fp=>(a9 aW (ge_str (cP aDQ T.int R.BI (aE (aO aQX n (i6 T.len [1,2,0,3,4,5] rfl trivial ⟨p,_,z5,_,_,_,_,rfl,aq,Y,e,by omega,by omega,by omega,by omega,by omega,by omega,by omega,λc M3 O m => ?_⟩)))))))
   refine aS (aKW (nD (by decide +kernel) (aIG c) ⟨cs++[if c=true then 35 else 46],by simp,λq t => ?_,by simp[hl2],O.mono '!',g.trans m,?_⟩))
   ·rcases q5.mp t with t|t
    ·exact o q t
    ·rw[qk] at t
     rw[t];cases c
     ·exact .inr rfl
     ·exact .inl rfl
   ·exact m r _ rp j
  ·rintro acc M2 ⟨cs,rfl,o,hl2,e,g,j⟩ as has
   rw[bC] at hl2 e
   have sp:as≠p:=e.ne has
   have sr:r≠as:=λz=>by rw[<- z,j] at has;cases has
   refine aH (iM (dX jk vi vh fH (aD 5 rfl (⟨⟨rfl,_,((bD sr).trans j)⟩,(aE (dX kx vg vf iZ (ge_str ⟨rfl,(aR [7] rfl (iY (.mt aG) (by decide +kernel) (by rw[uH,zLm];omega) (aS (gM ((bD sr).trans j) (by rw[zLm,hl];exact kc (show i<=20 by omega) (by decide)) ?_))))⟩)))⟩))))
   rw[R.fK,R.lL]
   refine⟨zs++[R.ofL cs],_,_,rfl,by rw[aG,qg];rfl,((e.new sp).new rp).mono '!',(g.new (g.none_of has sp)).new rn,by rw[qh,hl];rfl,aEY u hl2 o⟩
 ·rintro Γ' M' ⟨zs,vj,vs,rfl,hM,X,hB,hl,u⟩
  rw[bC] at hl X
  refine kB 5 rfl hM ?_
  have av:=X.del rp
  have af:=hB.del rn
  refine aH (aT (aO aQY n (aR [2,3,5] rfl ⟨_,_,zs,a.length-1,rfl,by omega,by omega,u,by omega,by omega,?_⟩)))
  obtain⟨A19,aj,ah⟩:=yard19 ad ab u '!' '!' '!'
  exact aDV u (by rw[aj];exact hk _ _ ah (av.mono '!') af)
theorem jM:FnScope ["_law_script", "_law_void", "_law_k", "_law_feed_here", "_law_yard_here", "_law_left", "_law_at"] ["_law_script"] (aM qU):=zSc
theorem aMU(Df:R.Df K mg "law" qU ["_law_script"] f fd)(aQZ:aGF P w K mg z)(aQS:p8 P w K mg z)(aQ0:aB7 P w K mg z)(aQP:pE P w K mg z)(aQ1:o0 P w K mg z)(aQI:uM P w K mg z)(aQH:oG P w K mg z)(aQQ:yV P w K mg z)(aQR:sF P w K mg z)(T:Bt mg):FnOk P w K mg z CX0 8 f fd ["_law_script"] (spZ K aDB):=by
 refine bM Df jM (λds M k h => ?_) (λac A outer s H E c ds M k h => ?_)
 ·obtain⟨ns,rfl,_⟩:=h;rfl
 obtain⟨ns,rfl,ad,Z⟩:=h
 refine aB (aK 1 jM.nd (bJ [] rfl (aB (iB (fW T.range (aE (bR gE (z4 (b8 (aFS rfl) T.min BMin (i6 T.len [0] rfl trivial (aN4 (iH (aS ⟨_,rfl,by split <;> omega,by split <;> omega,?_⟩)))))))))))))
 refine⟨λi Γ' M'=>∃v1 v2 F v4 g,Γ'=[some (.fl (ns.map .int)),some (yd Yd.void),v1,v2,F,v4,g],⟨_,_,_,_,_,rfl⟩,?_,?_⟩
 ·rintro i d Γ' M1 hd ⟨v1,v2,F,v4,g,rfl⟩
  obtain⟨hi,rfl⟩:=c8 hd
  have ae:i<3:=by
   refine q3 hi ?_
   split <;> omega
  refine g6 2 jM.nd (aB (aK 3 jM.nd (aO aQZ c (aR [0,2] rfl ⟨ns,_,rfl,by omega,by omega,λp M2 hp Y D => ?_⟩))))
  refine aB (aK 4 jM.nd (aO aQ0 c (aE (aD 3 rfl (aE (a9 aW (bJ [] rfl (aO aQS c (aR [3] rfl ⟨p,_,_,rfl,by decide,by decide,D,by omega,λV M3 L S J ah aa => ?_⟩)))))))))
  obtain⟨most,I,q,o⟩:=aLU L S
  refine bB (.lst _) I (aS ⟨p,_,most,rfl,q,o,J,by omega,λA M4 hA O ab => ?_⟩)
  refine aB (dE (n4 (oN (lO (jK (aO aQP c (aR [4] rfl ⟨A,rfl,hA,⟨_,rfl,(jA (t7 (lO (jK (aO aQ1 c (aR [4,1] rfl ⟨A,rfl,hA,⟨_,rfl,(jA (bU (aB (aK 5 jM.nd (fD (aO aQI c (aR [4] rfl (⟨_,_,A.K,rfl,oM hA,by rw[aI];exact hA.lx,by rw[aI];exact hA.ly,r9 A,λa e=>⟨a,_,M4,rfl,aG,e,(Le.refl _).upd e,?_⟩⟩))))))))⟩⟩))))))⟩⟩)))))))
  rw[xL]
  have hlen:=(aBQ A hA).2
  refine aH (oF (λm Γ' M'=>∃B g b,On A.ws A.us B/\FdM M' p b/\b+(m:Int)<=3000/\m=(hlY B).length/\Γ'=[some (.fl (ns.map .int)),some (yd Yd.void),some (.int (0+(i:Int))),some (.mt p),some (yd B),some (.lst ((hlY B).map yd)),g]) (n:=(hlY A).length) ⟨A,g,_,⟨λ_ w=>w,λ_ w=>w⟩,O,by omega,rfl,rfl⟩ ?_)
  rintro m Γ' M' ⟨B,w5,b,l,hF,hb,rfl,rfl⟩
  have hB:=hA.of_on l
  refine b5 (m8 (n:=4) (R.units_le c)) (aD 5 rfl (bJ [] rfl (nL (.lst _) (.lst _) (j5 _) (j5 []) ⟨_,rfl,?_⟩)))
  rw[show eqD (.lst ((hlY B).map yd)) (.lst [])=decide (hlY B=[]) from tW (hlY B) []]
  refine ite2 (λj => ?_) (λj => ?_)
  rotate_left
  ·exact⟨_,_,_,_,_,rfl⟩
  have v:hlY B≠[]:=λz=>by rw[z] at j;simp at j
  have U:=wy.mpr v
  have hl5:=(aBQ B hB).2
  refine aB (aK 6 jM.nd (aO aQS c (i6 T.len [3,5] rfl trivial ⟨p,_,b,rfl,(by rw[zLm];omega),(by rw[zLm];omega),hF,by omega,λz M5 z0 V Q ag af => ?_⟩)))
  rw[zLm] at V
  obtain⟨t,rfl⟩:∃t:Nat,z=t:=⟨z.toNat,by omega⟩
  have G:t<(hlY B).length:=by omega
  obtain⟨h,r⟩:∃h,(hlY B)[t]?=some h:=⟨_,zGe G⟩
  have at1:atI ((hlY B).map yd) (t:Int)=some (yd h):=eG (by rw[qm,r];rfl)
  have N:On A.ws A.us h:=⟨λw hw=>l.x w ((uP r).x w hw),λw hw=>l.y w ((uP r).y w hw)⟩
  refine aB (dE (b5 (m8 (n:=3) (R.units_le c)) (aO aQQ c (aE (aD 4 rfl (aE (a9 aW (aD 5 rfl (aD 6 rfl (bB (.lst _) at1 (aS ⟨B,h,A.ws,A.us,rfl,hA.bx,hA.by_,l,N,(aD 1 rfl (nL (e1:=yd (Yd.op jN B h)) (e2:=yd Yd.void) (.tup _) (.tup _) (oY _) (oY _) ⟨_,rfl,?_⟩))⟩)))))))))))
  rw[xR,decide_eq_true (aDP r)]
  refine jA (bU (aB (aK 4 jM.nd (aO aQR c (aE (aD 4 rfl (aE (a9 aW (aD 5 rfl (aD 6 rfl (bB (.lst _) at1 (aS ⟨B,h,A.ws,A.us,rfl,hA.bx,hA.by_,l,N,?_⟩))))))))))))
  have X:=l.op N b6
  have u:=hA.of_on X
  have fill:=aE1 r
  generalize Yd.op b6 B h=C at *
  refine aB (aK 5 jM.nd (bR kA (rO vU (aD 5 rfl (uX (uG (aD 6 rfl ⟨_,rfl,xV (.lst _) (rO vU (aD 5 rfl (uG (bJ [6] rfl ⟨_,rfl,uX (xV (.lst _) (j8 (.lst _) (.lst _) ?_ ?_))⟩))))⟩)))))))
  ·rw[aB0,tM _ _ (by rw[zLm];exact G),vw,ju,zLm];exact R.aX '!'
  rw[aB0,tM _ _ (by rw[zLm];exact G),<- Jx,<- ck,<- qg,<- fill]
  have fl:(hlY C).length+1=(hlY B).length:=by rw[fill,qh,vw,ju];omega
  refine aH (dE (n4 (oN (b5 (m8 (n:=4) (R.units_le c)) (fD (aO aQI c (aR [4] rfl (⟨_,_,C.K,rfl,oM u,by rw[aI];exact u.lx,by rw[aI];exact u.ly,r9 C,λa e=>⟨a,_,M5,rfl,aG,e,(Le.refl _).upd e,?_⟩⟩))))))))
  rw[xL]
  refine aD 5 rfl (nL (.lst _) (.lst _) (j5 _) (j5 _) ⟨_,rfl,?_⟩)
  rw[tW,decide_eq_true rfl]
  refine jA (t7 (n4 (pK (qF T.len [5] rfl ⟨(show (0:Int)<_ by first|decide|omega),trivial⟩ ?_))))
  have W:(∃m',m'<(hlY B).length/\∃B' g b,On A.ws A.us B'/\FdM M5 p b/\b+(m':Int)<=3000/\m'=(hlY B').length/\[some (.fl (ns.map .int)),some (yd Yd.void),some (.int (0+(i:Int))),some (.mt p),some (yd C),some (.lst ((hlY C).map yd)),some (.int (t:Int))]=[some (.fl (ns.map .int)),some (yd Yd.void),some (.int (0+(i:Int))),some (.mt p),some (yd B'),some (.lst ((hlY B').map yd)),g]):=⟨_,by omega,C,_,_,X,Q,by omega,rfl,rfl⟩
  refine ite2 (λh4=>mZ ?_) (λh4 => ?_)
  ·exact lO (jK (aO aQP c (aR [4] rfl ⟨C,rfl,u,⟨_,rfl,(jA (bU W))⟩⟩)))
  ·exact jA (bU W)
 ·rintro Γ' M1 ⟨v1,v2,F,v4,g,rfl⟩
  refine aH (aT (aOI (aO aQP c (aR [1] rfl ⟨Yd.void,rfl,sD,⟨_,rfl,cT (zB (jD (nJ (n:=4) (R.units_le c)) (fD (aO aQH c (aR [1] rfl (⟨_,_,Yd.void.K,rfl,xO Yd.void,by rw[aI];exact sD.lx,by rw[aI];exact sD.ly,λa e=>⟨a,_,M1,rfl,aG,e,(Le.refl _).upd e,?_⟩⟩))))))⟩⟩))))
  rw[sI,(uZ (A:=Yd.void) rfl).1]
  refine bJ [] rfl (nG (.lst _) (.lst _) (j5 []) (j5 []) ?_)
  rw[show eqD (.lst ([].map yd)) (.lst [])=true from (tW [] []).trans (decide_eq_true rfl)]
  exact Z _
end
end Q
namespace HB
open PySem PySem.W L2
theorem mkD{K:qe}(X:K.In h)(G:h.Ns j2 mg)(n:String)(st:Stmt)(ps:List Str)(f cd:Addr)(pm:Value)(a:nsIn K j2 (ja n)=some (some (.ref f)))(l:K.lookup f=some (fO n st pm cd))(c:codeIn K (.ref cd) (ja n)=true)(k:keepIn K (.ref f)=true)(b:∀(kV doc pm:Value) (an:Option Addr) (cdv ct:Value) (us:List Value),us.length=ps.length->Jq (w4 (ja n) (ja n) (fF st) (eE st) (aM st) .none kV doc pm an cdv ct) ⟨us,[]⟩=pure (ps.zip us)):
  R.Df K mg (ja n) st ps f (w4 (ja n) (ja n) (fF st) (eE st) (aM st) .none .none .none pm none (.ref cd) .none):=
 have F:Fun K (ja n) (ja n) st f _:=aN5 l c k
 ⟨F,F.binds b,mg_of X G a⟩
theorem mkE{K:qe}(X:K.In h)(G:h.Ns j2 mg)(n:String)(st:Stmt)(ps:List Str)(f cd:Addr)(pm:Value)(b:∀(kV doc pm:Value) (an:Option Addr) (cdv ct:Value) (us:List Value),us.length=ps.length->Jq (w4 (ja n) (ja n) (fF st) (eE st) (aM st) .none kV doc pm an cdv ct) ⟨us,[]⟩=pure (ps.zip us))(a:nsIn K j2 (ja n)=some (some (.ref f)):=by kernel_rfl!)(l:K.lookup f=some (fO n st pm cd):=by kernel_rfl!)(c:codeIn K (.ref cd) (ja n)=true:=by kernel_rfl!)(k:keepIn K (.ref f)=true:=by kernel_rfl!):
  R.Df K mg (ja n) st ps f (w4 (ja n) (ja n) (fF st) (eE st) (aM st) .none .none .none pm none (.ref cd) .none):=mkD X G n st ps f cd pm a l c k b
noncomputable def fB:List Str:=["len", "abs", "int", "min", "max", "range", "list", "tuple", "repr", "all", "any", "enumerate", "isinstance", "bool", "str", "zip", "reversed", "sorted", "dict"]
theorem mkB{K:qe}(X:K.In h)(G:h.Ns j2 mg)(e:(fB.all λn=>nsIn K j2 n==some none)=true):Q.Bt mg:=
 have z:∀n∈fB,mg n=none:=λn a=>mg_none_of X G (eq_of_beq (wg.mp e n a))
 ⟨z _ (by simp[fB]),z _ (by simp[fB]),z _ (by simp[fB]),z _ (by simp[fB]),z _ (by simp[fB]),z _ (by simp[fB]),z _ (by simp[fB]),z _ (by simp[fB]),z _ (by simp[fB]),z _ (by simp[fB]),z _ (by simp[fB]),z _ (by simp[fB]),z _ (by simp[fB]),z _ (by simp[fB]),z _ (by simp[fB]),z _ (by simp[fB]),z _ (by simp[fB]),z _ (by simp[fB]),z _ (by simp[fB])⟩
theorem ln1{α:Type}{l:List α}(z:l.length=1):∃a,l=[a]:=List.length_eq_one_iff.mp z
theorem ln2{α:Type}{l:List α}(z:l.length=2):∃a b,l=[a,b]:=by
 cases l with
 |nil=>cases z
 |cons a l=>obtain⟨b,rfl⟩:=ln1 (l:=l) (by simpa using z);exact⟨a,b,rfl⟩
theorem ln3{α:Type}{l:List α}(z:l.length=3):∃a b c,l=[a,b,c]:=by
 cases l with
 |nil=>cases z
 |cons a l=>obtain⟨b,c,rfl⟩:=ln2 (l:=l) (by simpa using z);exact⟨a,b,c,rfl⟩
theorem ln4{α:Type}{l:List α}(z:l.length=4):∃a b c d,l=[a,b,c,d]:=by
 cases l with
 |nil=>cases z
 |cons a l=>obtain⟨b,c,d,rfl⟩:=ln3 (l:=l) (by simpa using z);exact⟨a,b,c,d,rfl⟩
theorem ln5{α:Type}{l:List α}(z:l.length=5):∃a b c d e,l=[a,b,c,d,e]:=by
 cases l with
 |nil=>cases z
 |cons a l=>obtain⟨b,c,d,e,rfl⟩:=ln4 (l:=l) (by simpa using z);exact⟨a,b,c,d,e,rfl⟩
theorem ln6{α:Type}{l:List α}(z:l.length=6):∃a b c d e f,l=[a,b,c,d,e,f]:=by
 cases l with
 |nil=>cases z
 |cons a l=>obtain⟨b,c,d,e,f,rfl⟩:=ln5 (l:=l) (by simpa using z);exact⟨a,b,c,d,e,f,rfl⟩
end HB
namespace Q
open PySem L2 Z
theorem aBZ{K:Fg}:∀ns:List Int,Dens K G (ns.map D.int) (ns.map V.int)
 |[]=>by simp only[cc,Dens]
 |n::ns=>by simp only[cc,Dens];exact⟨_,_,rfl,by simp only[Den],aBZ ns⟩
open HB in
theorem all_mk{l:fz}{fa:Addr}(X:(HD.K w.params).In h)(G:h.Ns j2 mg)(hfa:mg "law" = some (.ref fa)):
  ∃fd:FuncData,(∀(s:Shared) (v:Value),BindsTo s fd ⟨[v],[]⟩ [("_law_script", v)])/\∀z:Heap,(HD.K w.params).In z->z.Ns j2 mg->FnOk l.prog w (HD.K w.params) mg z CX0 8 fa fd ["_law_script"] (spZ (HD.K w.params) aDB):=by
 have T:Bt mg:=mkB X G (by kernel_rfl!)
 have C_STRAIGHT:=QI X G (by kernel_rfl!:QX (HD.K w.params) j2 "STRAIGHT" = some (some (R 84)))
 have E_STRAIGHT:∀G,Den (HD.K w.params) G (.tup (straight.map pairD)) (.ref 84):=λG=>aBL (as:=[80,81,82,83]) (by kernel_rfl!:vz 84 (HD.K w.params)=some (tO [(R 80),(R 81),(R 82),(R 83)])) (show (4:Nat)<=100 by decide) (aZ (fT (by kernel_rfl!:vz 80 (HD.K w.params)=some (tO [(J 1 285),(J 0 286)]))) (aZ (fT (by kernel_rfl!:vz 81 (HD.K w.params)=some (tO [(J 0 287),(J 1 288)]))) (aZ (fT (by kernel_rfl!:vz 82 (HD.K w.params)=some (tO [(J (-1) 290),(J 0 291)]))) (aZ (fT (by kernel_rfl!:vz 83 (HD.K w.params)=some (tO [(J 0 292),(J (-1) 294)]))) (bT)))))
 have C_ALL_ROUND:=QI X G (by kernel_rfl!:QX (HD.K w.params) j2 "ALL_ROUND" = some (some (R 93)))
 have E_ALL_ROUND:∀G,Den (HD.K w.params) G (.tup (aL.map pairD)) (.ref 93):=λG=>aBL (as:=[85,86,87,88,89,90,91,92]) (by kernel_rfl!:vz 93 (HD.K w.params)=some (tO [(R 85),(R 86),(R 87),(R 88),(R 89),(R 90),(R 91),(R 92)])) (show (8:Nat)<=100 by decide) (aZ (fT (by kernel_rfl!:vz 85 (HD.K w.params)=some (tO [(J 1 296),(J 0 297)]))) (aZ (fT (by kernel_rfl!:vz 86 (HD.K w.params)=some (tO [(J 1 298),(J 1 299)]))) (aZ (fT (by kernel_rfl!:vz 87 (HD.K w.params)=some (tO [(J 0 300),(J 1 301)]))) (aZ (fT (by kernel_rfl!:vz 88 (HD.K w.params)=some (tO [(J (-1) 303),(J 1 304)]))) (aZ (fT (by kernel_rfl!:vz 89 (HD.K w.params)=some (tO [(J (-1) 306),(J 0 307)]))) (aZ (fT (by kernel_rfl!:vz 90 (HD.K w.params)=some (tO [(J (-1) 309),(J (-1) 311)]))) (aZ (fT (by kernel_rfl!:vz 91 (HD.K w.params)=some (tO [(J 0 312),(J (-1) 314)]))) (aZ (fT (by kernel_rfl!:vz 92 (HD.K w.params)=some (tO [(J 1 315),(J (-1) 317)]))) (bT)))))))))
 have D1:=mkE X G "_law_feed" uB ["_law_script", "_law_k"] 175 174 HD.zS0 (λ_ _ _ _ _ _ us hl=>by obtain⟨_,_,rfl⟩:=HB.ln2 hl;rfl)
 have D2:=mkE X G "_law_next" uC ["_law_feed_here", "_law_many"] 182 181 HD.zS0 (λ_ _ _ _ _ _ us hl=>by obtain⟨_,_,rfl⟩:=HB.ln2 hl;rfl)
 have D3:=mkE X G "_law_shared" nN ["_law_one", "_law_other"] 189 188 HD.zS0 (λ_ _ _ _ _ _ us hl=>by obtain⟨_,_,rfl⟩:=HB.ln2 hl;rfl)
 have D4:=mkE X G "_law_lines" qQ ["_law_feed_here", "_law_many"] 196 195 HD.zS0 (λ_ _ _ _ _ _ us hl=>by obtain⟨_,_,rfl⟩:=HB.ln2 hl;rfl)
 have D5:=mkE X G "_law_is_in" qV ["_law_feed_here", "_law_way", "_law_k", "_law_j", "_law_wide", "_law_high"] 203 202 HD.zS0 (λ_ _ _ _ _ _ us hl=>by obtain⟨_,_,_,_,_,_,rfl⟩:=HB.ln6 hl;rfl)
 have D6:=mkE X G "_law_across" oO ["_law_rows"] 213 212 HD.zS0 (λ_ _ _ _ _ _ us hl=>by obtain⟨_,rfl⟩:=HB.ln1 hl;rfl)
 have D7:=mkE X G "_law_tidied" mF ["_law_lines_here", "_law_some"] 208 207 HD.zS0 (λ_ _ _ _ _ _ us hl=>by obtain⟨_,_,rfl⟩:=HB.ln2 hl;rfl)
 have D8:=mkE X G "_law_tidy" sG ["_law_xs", "_law_ys", "_law_rows"] 220 219 HD.zS0 (λ_ _ _ _ _ _ us hl=>by obtain⟨_,_,_,rfl⟩:=HB.ln3 hl;rfl)
 have D9:=mkE X G "_law_yard" qO ["_law_feed_here", "_law_most"] 225 224 HD.zS0 (λ_ _ _ _ _ _ us hl=>by obtain⟨_,_,rfl⟩:=HB.ln2 hl;rfl)
 have D10:=mkE X G "under" qG ["one", "other"] 21 20 HD.zS4 (λ_ _ _ _ _ _ us hl=>by obtain⟨_,_,rfl⟩:=HB.ln2 hl;rfl)
 have D11:=mkE X G "merged" nU ["one", "other"] 28 27 HD.zS4 (λ_ _ _ _ _ _ us hl=>by obtain⟨_,_,rfl⟩:=HB.ln2 hl;rfl)
 have D12:=mkE X G "bands_at" kO ["lines", "where"] 58 57 HD.zS2 (λ_ _ _ _ _ _ us hl=>by obtain⟨_,_,rfl⟩:=HB.ln2 hl;rfl)
 have D13:=mkE X G "has_cell" lB ["yard", "across", "up"] 65 64 HD.zS2 (λ_ _ _ _ _ _ us hl=>by obtain⟨_,_,_,rfl⟩:=HB.ln3 hl;rfl)
 have D14:=mkE X G "corner_kind" fU ["yard", "across", "up"] 72 71 HD.zS5 (λ_ _ _ _ _ _ us hl=>by obtain⟨_,_,_,rfl⟩:=HB.ln3 hl;rfl)
 have D15:=mkE X G "corners" mH ["yard"] 79 78 HD.zS5 (λ_ _ _ _ _ _ us hl=>by obtain⟨_,rfl⟩:=HB.ln1 hl;rfl)
 have D16:=mkE X G "finer_row" jX ["yard", "acrosses", "up"] 139 138 HD.zS3 (λ_ _ _ _ _ _ us hl=>by obtain⟨_,_,_,rfl⟩:=HB.ln3 hl;rfl)
 have D17:=mkE X G "finer_rows" jG ["yard", "xs", "ys"] 144 143 HD.zS3 (λ_ _ _ _ _ _ us hl=>by obtain⟨_,_,_,rfl⟩:=HB.ln3 hl;rfl)
 have D18:=mkE X G "chosen_row" jH ["one", "other", "pairs"] 149 148 HD.zS3 (λ_ _ _ _ _ _ us hl=>by obtain⟨_,_,_,rfl⟩:=HB.ln3 hl;rfl)
 have D19:=mkE X G "column" oU ["rows", "place"] 33 32 HD.zS2 (λ_ _ _ _ _ _ us hl=>by obtain⟨_,_,rfl⟩:=HB.ln2 hl;rfl)
 have D20:=mkE X G "columns" mC ["rows"] 38 37 HD.zS2 (λ_ _ _ _ _ _ us hl=>by obtain⟨_,rfl⟩:=HB.ln1 hl;rfl)
 have D21:=mkE X G "changes" mI ["bands"] 43 42 HD.zS2 (λ_ _ _ _ _ _ us hl=>by obtain⟨_,rfl⟩:=HB.ln1 hl;rfl)
 have D22:=mkE X G "picked" oJ ["row", "places"] 48 47 HD.zS2 (λ_ _ _ _ _ _ us hl=>by obtain⟨_,_,rfl⟩:=HB.ln2 hl;rfl)
 have D23:=mkE X G "tidied" oX ["xs", "ys", "rows"] 53 52 HD.zS2 (λ_ _ _ _ _ _ us hl=>by obtain⟨_,_,_,rfl⟩:=HB.ln3 hl;rfl)
 have D24:=mkE X G "chosen" nW ["one", "other", "pairs"] 154 153 HD.zS3 (λ_ _ _ _ _ _ us hl=>by obtain⟨_,_,_,rfl⟩:=HB.ln3 hl;rfl)
 have D25:=mkE X G "both" tL ["one", "other"] 161 160 HD.zS3 (λ_ _ _ _ _ _ us hl=>by obtain⟨_,_,rfl⟩:=HB.ln2 hl;rfl)
 have D26:=mkE X G "either" oE ["one", "other"] 168 167 HD.zS3 (λ_ _ _ _ _ _ us hl=>by obtain⟨_,_,rfl⟩:=HB.ln2 hl;rfl)
 have D27:=mkE X G "cells_where" iD ["yard", "inside"] 100 99 HD.zS1 (λ_ _ _ _ _ _ us hl=>by obtain⟨_,_,rfl⟩:=HB.ln2 hl;rfl)
 have D28:=mkE X G "gathered" lA ["start", "cells", "steps"] 107 106 HD.zS1 (λ_ _ _ _ _ _ us hl=>by obtain⟨_,_,_,rfl⟩:=HB.ln3 hl;rfl)
 have D29:=mkE X G "groups" oP ["cells", "steps"] 114 113 HD.zS1 (λ_ _ _ _ _ _ us hl=>by obtain⟨_,_,rfl⟩:=HB.ln2 hl;rfl)
 have D30:=mkE X G "group_row" jZ ["group", "wide", "up"] 119 118 HD.zS1 (λ_ _ _ _ _ _ us hl=>by obtain⟨_,_,_,rfl⟩:=HB.ln3 hl;rfl)
 have D31:=mkE X G "yard_of" mL ["yard", "group"] 124 123 HD.zS1 (λ_ _ _ _ _ _ us hl=>by obtain⟨_,_,rfl⟩:=HB.ln2 hl;rfl)
 have D32:=mkE X G "pieces" nP ["yard"] 129 128 HD.zS1 (λ_ _ _ _ _ _ us hl=>by obtain⟨_,rfl⟩:=HB.ln1 hl;rfl)
 have D33:=mkE X G "holes" qA ["yard"] 134 133 HD.zS1 (λ_ _ _ _ _ _ us hl=>by obtain⟨_,rfl⟩:=HB.ln1 hl;rfl)
 have D34:=mkE X G "_law_counted" l9 ["_law_yard_here"] 230 229 HD.zS0 (λ_ _ _ _ _ _ us hl=>by obtain⟨_,rfl⟩:=HB.ln1 hl;rfl)
 have D35:=mkE X G "_law_parts_right" iE ["_law_yard_here", "_law_void"] 237 236 HD.zS0 (λ_ _ _ _ _ _ us hl=>by obtain⟨_,_,rfl⟩:=HB.ln2 hl;rfl)
 have D36:=mkE X G "law" qU ["_law_script"] 244 243 HD.zS0 (λ_ _ _ _ _ _ us hl=>by obtain⟨_,rfl⟩:=HB.ln1 hl;rfl)
 cases hfa.symm.trans D36.m
 refine⟨w4 "law" "law" (fF qU) (eE qU) (aM qU) .none .none .none HD.zS0 none (.ref 243) .none,λs v => .of_eq rfl,λz _ _ => ?_⟩
 have G1:=aKR (P:=l.prog) (w:=w) (z:=z) D1 T
 have G2:=aL0 (P:=l.prog) (w:=w) (z:=z) D2
 have G3:=aEZ (P:=l.prog) (w:=w) (z:=z) D3 T
 have G4:=aGZ D4 G2 G3 T
 have G5:=aHC D5 G2 T
 have G6:=aE3 (P:=l.prog) (w:=w) (z:=z) D6 T
 have G7:=aCW (P:=l.prog) (w:=w) (z:=z) D7 T
 have G8:=aLP D8 G7 G6 T
 have G9:=aHD D9 G4 G2 G5 G8 T
 have G10:=aGP (P:=l.prog) (w:=w) (z:=z) D10
 have G11:=aES D11 G10 T
 have G12:=aA2 D12 G10 T
 have G13:=aA0 (P:=l.prog) (w:=w) (z:=z) D13 T
 have G14:=uI D14 G13
 have G15:=aC8 D15 G14 T
 have G16:=yY D16 G13 T
 have G17:=xF D17 G12 G16 T
 have G18:=xH (P:=l.prog) (w:=w) (z:=z) D18 T
 have G19:=aEI (P:=l.prog) (w:=w) (z:=z) D19
 have G20:=aCH D20 G19 T
 have G21:=aCQ (P:=l.prog) (w:=w) (z:=z) D21 T
 have G22:=aFK (P:=l.prog) (w:=w) (z:=z) D22
 have G23:=aGB D23 G21 G20 G22 T
 have G24:=aFW D24 G11 G17 G18 G23 T
 have G25:=aK2 D25 G24
 have G26:=aDZ D26 G24
 have G27:=uR D27 G13 T
 have G28:=aA1 (P:=l.prog) (w:=w) (z:=z) D28
 have G29:=aD8 D29 G28
 have G30:=zF (P:=l.prog) (w:=w) (z:=z) D30 T
 have G31:=aDC D31 G30 G23 T
 have G32:=aFP D32 G31 G29 G27 T C_STRAIGHT E_STRAIGHT
 have G33:=aGX D33 G31 G29 G27 T C_ALL_ROUND E_ALL_ROUND
 have G34:=aC7 D34 G15 G32 G33 T
 have G35:=vQ D35 G32 G34 G25 G26
 have G36:=aMU D36 G1 G2 G9 G34 G35 G33 G32 G25 G26 T
 exact G36
theorem walk{l:fz}{XP:(Str->Option Value)->Heap->Prop}{d:DefRec}{K:x4->qe}(hn:l.most=some 63)(hdf:d.params.defaults=[])(hY:∀(w:World) (h:Heap),YP w h->(K w.params).In h)(F:∀(w:World) (mg:Str->Option Value) (fa:Addr) (h:Heap),(K w.params).In h->h.Ns j2 mg->mg d.name=some (.ref fa) ->
   ∃fd:FuncData,(∀(s:Shared) (u:Value),BindsTo s fd ⟨[u],[]⟩ [("_law_script", u)])/\∀z:Heap,(K w.params).In z->z.Ns j2 mg->FnOk l.prog w (K w.params) mg z CX0 8 fa fd ["_law_script"] (spZ (K w.params) aDB)):
  QJ q loose XP YP l.row.toRowW d [] (λf vs=>Qh f vs):=
 L2.aJ1 (n:=63) (k:=8) (x := "_law_script") (CX:=λ_=>CX0) (sp:=λw=>spZ (K w.params) aDB) hn (by decide) hdf ⟨rfl,by decide,by decide,rfl⟩ hY F
  (λw H a ns hl _ b=>⟨H,λ_=>none,[.fl (ns.map .int)],λd _=>d = .bl true,⟨Same.refl H,nofun⟩,⟨_,_,rfl,aMT b (aBZ ns),by simp only[Dens]⟩,⟨ns,rfl,hl,λ_=>rfl⟩,λv G' H' d M' _ hd e=>by subst e;simpa only[Den] using hd⟩) λ_ _ _ _ _ z=>z
end Q
open PySem PySem.W PyProof.Rows
set_option maxRecDepth 100000 in
set_option maxHeartbeats 0 in
theorem PySem.Challenge.cw_roofridges_k19_whole_corners_pieces_hole_holds : PySem.Challenge.rw_roofridges_k19_whole_corners_pieces_hole.Holds := by
 w_on
 refine holds_law HD.said fun said => ?_
 refine holds_open (q:=HD.view) (loose:=[]) (Xt:=HD.Xt) (XP:=XL HD.view []) (Yf:=HD.Hk.obs) (Ya:=HD.Hk.val) (YP:=HD.Hk.says) HD.left (Hook.of HD.Hk) (Hook.keeps HD.Hk) (fun s e=>xl_of s (Bool.and_eq_true_iff.mp e).1) XL.keeps (by rfl) (by rfl) (by rfl) (fun s e=>recFacts_of (Bool.and_eq_true_iff.mp e).2) (by rfl) (by first | assumption | decide +kernel) (by decide +kernel) ⟨rfl,rfl,rfl,rfl,rfl,by decide +kernel⟩ ?hw ?hc
 case hw=>w_witness2
 exact Q.walk (l:=PySem.Challenge.rw_roofridges_k19_whole_corners_pieces_hole) (K:=HD.K) rfl rfl (fun w h Y=>PySem.W.kIn_of Y) fun w c b h KX G a=>Q.all_mk KX G a
