import PyProof.Rows.All
import Wide.All
import OpenK.AllK
import Wide.FinOn
import Lean
import PyProof.EqAt
import PyProof.EqKinds
import PyProof.NeKinds
import PyProof.TupleCall
import KE.IntTextText
import KE.KIntText
import KE.KRevSl
import KE.KRevIter
import PySem.Challenge.RW_roofridges_k50_no_texts
set_option Elab.async false
set_option linter.all false
set_option exponentiation.threshold 500
set_option maxRecDepth 100000
set_option maxHeartbeats 4000000
open Array renaming length_toList→qa,toList_append→zi,getElem?_eq_some_iff→da,size_append→ff,toList_inj→fv,toList→QD,getD→K8
open PySem.W renaming Frag→qb,cellsFrom_some→vk,kitOne→v8,mg_of→wk,keepIn→wm,nsIn→wu,fnOf→xl,kia_one→xw,excIn→xy,findIn→ya,exmOne→y6,looks_findIn→gq,hideAll_none→gr,kitAny→gu,callWith_K→md,methodObj→mz,OpenLaw→pv,codeIn→sk,mroIn→Qe,clsIn→Qf,looks_mroIn→QF,hideAll_get→QG,of_hideAll→QN,specialIn→Q5,kitx_list→Q6,kitMeta→Jx,instObj→Jy,hideAll→Jz,WalkO→JS,Looks→JT,isFn→J1
open List renaming size_toArray→qc,length_cons→qf,map_append→qg,getElem?_map→qk,length_append→ql,mem_cons_of_mem→qm,mem_cons→qr,range→qt,mem_map→qu,getElem?_eq_none→qv,all_eq_true→jf,take_length→jg,mem_cons_self→jh,length_nil→jk,length_eq_zero_iff→jm,mem_append_right→jq,length_pos_iff→ju,length_dropLast→jv,map_cons→jw,replicate→jy,lookup_cons→kd,pairwise_cons→ke,mem_range→kh,getElem_of_mem→kj,take_of_length_le→km,length_drop→ku,mem_append→kv,mem_singleton→vb,map_congr_left→vc,count_append→vf,getElem_mem→vh,ext_getElem?→vj,count_eq_zero→vn,getElem?_append_left→vt,getElem?_append_right→wg,sum_cons→wz,append_nil→w8,dropLast_concat_getLast→xi,map_map→xj,replicate_succ→xk,length_take→xn,length→xu,length_reverse→yf,getElem?_range→yg,mem_filterMap→yo,flatten_cons→yz,append_assoc→y4,getElem?_of_mem→y9,pairwise_iff_getElem→zh,range_succ→zt,length_set→zu,getElem?_replicate→zw,getElem?_cons_succ→zx,length_range→bj,length_replicate→br,getElem?_reverse→bx,count_cons_self→cj,all_cons→cm,map_nil→df,drop_zero→dk,reverse_cons→fj,pairwise_map→fk,getElem?_set→fm,eq_of_mem_replicate→fo,filter_cons_of_pos→fw,filter_cons_of_neg→fx,getElem_map→fz,any_eq_true→gf,range_succ_eq_map→gj,getElem?_dropLast→gk,filter_eq_nil_iff→gm,nodup_cons→gv,mem_filter→gw,length_singleton→gz,length_filter_le→h9,getElem?_set_ne→lq,lookup→mh,filter_eq_self→mn,filterMap_cons→mq,map_drop→ng,filter_congr→nv,all_map→pj,not_mem_nil→rh,isEmpty_iff→rj,getLast_mem→rk,eq_nil_of_length_eq_zero→rp,of_mem_zip→sv,drop_left'→td,getLast?_eq_getElem?→Qn,getElem?_zip_eq_some→Qo,map_take→Qz,head?_eq_getElem?→QH,getElem_cons_succ→QI,getElem?_set_self→QJ,drop_eq_nil_of_le→QK,toArray→QL,singleton_append→QO,getElem_dropLast→QP,eq_replicate_iff→QQ,dropLast_sublist→QR,pairwise_append→Ja,mem_of_mem_drop→Jb,mem_append_left→Jc,map_id→Ji,reverse_append→Jl,map→Jp,set_cons_zero→JC,count_pos_iff→JD,mem_reverse→JV,mem_flatten→JW,take_left'→J5,sum_append→J6,forIn_cons→J7,foldl_cons→J8,count_cons→J9,take_zero→Kg,any_cons→Kq,map_set→KD
open PySem.Heap renaming get?_push_of_some→qh,lt_size→qq,get?_push_size→jd,size_push→zg,get?_update_other→bh,get?_update_self→lg,get?_none_of_le→Jd,MadeExcOf→Ki,SameBut→KH,FlyingW→KI
open Bool renaming and_eq_true→qi,and_true→xh,eq_iff_iff→xx,or_eq_true→zv,and_false→dm,true_and→nh,eq_false_iff→nz,not_not→pk,or_eq_false_iff→Je,false_eq_true→JG,not_eq_true'→JM,false_and→Kj,or_false→Kr,false_or→Ks
open Nat renaming le_refl→qj,lt_of_lt_of_le→qo,ne_of_lt→je,le_trans→ji,lt_irrefl→vv,zero_le→vy,le_of_succ_le→vz,le_of_eq→xq,lt_of_le_of_lt→zz,min_eq_left→cz,toDigits→di,lt_trans→dj,eq_zero_or_pos→dt,add_le_add→fe,toDigits_of_lt_base→gh,not_lt_zero→ll,pow_le_pow_right→me,succ_mul→rb,sub_zero→rd,ne_of_gt→rf,min_eq_right→sr,isDigit_of_mem_toDigits→Qi,pow_succ→QX,min_self→QY,lt_or_ge→QZ,le_of_lt→Q0,log2_lt→Jw,lt_trichotomy→JU,le_of_not_lt→J4,sub_self→K5,add_comm→K6,one_mul→VQ
open PySem renaming starEach→qp,wpAny_bind→qy,boot_len→qz,mainGlobals→jo,mem_of_lookup→jr,model→jx,wpAny→kf,wpAny_pure→kq,bootBuiltins→va,wpAny_mono→vd,Str→v9,wpAny_truthy_bool→wa,treeTable→wd,Params→wq,compareOp→xf,backTo→x9,lookup_relabel_local→ye,pushCells→yh,intText?→yk,OsState→ym,assignEach→yt,wpAny_passesOwn→ze,wpAny_execs_nil→zf,binaryOp→bp,wpAny_Call_Name_kw→bq,swapsWith→cn,behindInMarks→de,sliceBounds→dw,letOwnedTupleGo→dz,compPost→fu,codeAny→fy,noteFrame→gn,call_meets→gp,wpAny_standAt→lj,wpAny_execs_cons→lp,holding→mx,pushCells_keeps→my,Addr→nk,wpAny_field→pd,swapsWithSole→sd,swappedStores→se,assignInOrder→sf,wpAny_pyIter_tuple→si,relabel→tw,wpAny_pyIter_list→Qc,wpAny_newObj_type→Qd,codeAny_mono→Qj,callerA→QB,wpAny_setField→QU,Value→QW,sysModules→Jg,builtinsNs→Jh,wpAny_getItem_list_slice→Jj,wpAny_comprehension_free→Jk,standAt→Jn,bindName→Jo,wpAny_holding→Jq,evalPart_none→Js,comprehension→Jt,call→Jv,codeAny_compStart_list→JI,PassesOwn→JO,seqIndex_neg→JP,name_of_addr→JQ,codeAny_call_builtin→J0,Keyword→Kd,sizeLine_eq→Ke,seqIndex_of→Kf,bindArgs→Kk,HeapKind→Kl,GenState→Km,bindL→Kt,bindC→Ku,wpAny_Name→Kv,wpAny_assign_Name→Ky,wpAny_Assign_Name→Kz,World→KC,checkBuiltinCall→K0,Stmt→K2,Heap→K3,Expr→K4,CmpOp→VG,truthy→VH,Result→VI,spliced→VJ,leaving→VL,getItem→VM,wpAny_looks_onW→VN,theTreesLotGoes→VO,importedModules→VP,wpAny_bindName→VX,newFunctionEnv→VY,intBits_le_iff→VZ
open Option.some renaming inj→qw,injEq→VV
open PySem.Str renaming empty→ja,ofString→jb,join→wb,length→cw,empty→Q7,ext'→Kx
open Int renaming toNat_natCast→jc,gcd→ve,natAbs_natCast→vq,gcd_eq_natAbs_gcd_natAbs→yq,zero_add→yy,emod_nonneg→zy,emod_lt_of_pos→ba,mul_right_comm→nq,fmod_eq_emod_of_nonneg→Qp,eq_of_mul_eq_mul_right→Qq,fmod_nonneg_of_pos→QS,mul_comm→Q1,gcd_comm→Q2,fdiv_mul_cancel→JE,gcd_zero_right→JJ,fmod_lt_of_pos→JK,lt_trichotomy→JY,gcd_dvd_right→JZ,gcd_dvd_left→Ka,le_of_dvd→KG,zero_mul→K7,neg_dvd→VS
open PySem.F renaming plainAttrs_str→jj,plainAttrs_list→vi,type_str_join→vw,slot_str_join→vx,slot_list_index→xg,slot_str_split→yi,slot_str_partition→yu,excBase_ValueError→yw,type_list_index→zp,type_str_partition→cv,args_str_split_2→dh,slot_list_count→fg,entry_str_split→fh,typeOf_object_class→ra,type_list_append→tj,slot_list_append→tm,entry_list_index→tq,type_list_count→Qg,attr_ValueError→Qh,type_str_split→Ql
open Classical renaming byContradiction→jt,propDecidable→zk
open PySem.Builtin.Str renaming occurrences→jz,strSliceIndices→vg,strKind→wc,strSub→cc,subAt→cq,glued→VW
open PySem.NameKind renaming free→kc,cell→v7
open Option renaming isSome_iff_exists→kr,map_some→vp,bind_eq_some_iff→Qm,getD_none→JA,bind_some→JB,none→Ko
open PySem.W.Fast renaming te14364793385576792824→vm,tw14364793385576792824→xa,tw15667345088766844465→Ve,tw14374325043358763698→Vf,tw14082659384304107361→Vg,tw10110043849684766642→Vh,te9446332074065402090→Vi,te4187177175401517315→Vj,te15667345088766844465→Vk,te14374325043358763698→Vl,te14082659384304107361→Vm,te11892475500146522536→Vn,te10110043849684766642→Vo
open PySem.Value renaming bool→vo,none→wj,ref→yr,builtin→fq,int→rq,type→Qk,isInt→QV,str→JR
open PySem.W.KIN renaming signs_num→we,val_back→ft,call_text→VU
open ForInStep renaming yield→wo
open False renaming elim→xm
open Rat renaming divInt→xo
open PySem.PyData renaming hasDict→xp,showable→zq,shown→cx,depth→cy,shownAll→gi,showableAll→mi,hasDictAll→nj,depthAll→rg
open PySem.NumText renaming digitsVal→xr
open PyProof.Rows renaming envOfC→xt,boot_isinstance→x8,empty_one→zj,callWith_type1→bo,AllBare→lh,digit_range→nr,boot_abs→rm,assignInOrder_cons→sj,subscriptTail→Jr,subscriptTail_builtinR→JH,Subscript_→Kw,assignInOrder_nil→KA,signs_ofString→VD,callWith_builtin1→VE,IntsAre→VF
open Ne renaming symm→yj
open PySem.Txt renaming startswith→yl,split→yx,join→zm,join→pw
open List.cons renaming inj→yn
open PySem.StrLaws renaming subAt_one→y8,glued_eq_join→bc,join_split→lu,strSub_toList→mf,occ_head→pb,split_free→QM,subAt_one→Q3,occ_tight→Q4
open List.Pairwise renaming nil→ck,imp_of_mem→KU,filter→KW
open PySem.Obj renaming data_mapFields→dq,mapSeq→pf,mapFields→QC,isFreed_of_fields→Q9
open PySem.SeqAt.EqAt renaming str_str→gy,same→ni,str_int→Qr,of_refs→Qs,int_str→Qt,tuple_str→V3,tuple_none→V4,tuple_list→V5,tuple_int→V6,tuple_bool→V7,str_tuple→V8,str_none→V9,str_list→Wa,str_bool→Wc,none_tuple→Wd,none_str→We,none_list→Wg,none_int→Wh,none_bool→Wi,list_tuple→Wj,list_str→Wk,list_none→Wl,list_int→Wm,list_bool→Wn,int_tuple→Wo,int_none→Wp,int_list→Wq,int_int→Wr,int_bool→Wt,bool_tuple→Wu,bool_str→Wv,bool_none→Ww,bool_list→Wx,bool_int→Wy,bool_bool→Wz
open PySem.Builtin.List renaming listTooLong→nt
open True renaming intro→nu
open PySem.SeqAt.RcAt renaming lists_lengths→pz,tuples→QA,lists→QE,tuple_list→V1,list_tuple→V2
open PySem.MeetsSeq renaming plain_index_loop→rn
open PySem.Heap.IsSliceOf renaming new→su
open PySem.Calls renaming Name_function_global→tu,evalArgs_plain→QT,spliced_cons→Jm,spliced_nil→JF
open Sum renaming inr→Qa,inl→Qb
open PySem.W.KF renaming slot_gs→Qu,type_class→WA,owner_class→WB,entry_gs→WC,entry_class→WD,args_gs→WE
open PySem.Builtin.Getset_descriptor renaming descrNameAndClass→Qv,descrGetter→Qw,descrGet→Qx,descrCheckInstance→Qy
open PySem.PassesOwn renaming never→Q8
open Or renaming inr→Jf,inl→JN
open PySem.SeqAt renaming EqAt→Ju
open Function renaming comp→JL
open PySem.Paired renaming length→J3
open Std.Legacy.Range renaming size→Kb,forIn_eq_forIn_range'→Kc
open PySem.Heap.Ns renaming new→Kh
open PySem.Walks renaming tuple→KB,list→K1
open PySem.W.Looks renaming ld→KJ
open PySem.EqMixed renaming ne_str_int→KL,ne_str_bool→KM,ne_int_str→KN,ne_bool_str→KO,eq_str_int→KP,eq_str_bool→KQ,eq_int_str→KR,eq_bool_str→KS
open PySem.Builtin.Tuple renaming tupleHashOf→KY
open PySem.Builtin.Range renaming rangeSize→KZ
open PySem.SeqAt.RcNeAt renaming tuples→K9,tuple_list→Va,lists_lengths→Vb,lists→Vc,list_tuple→Vd
open PySem.EqNone renaming ne_str_none→Vp,ne_none_str→Vq,ne_none_none→Vr,ne_none_int→Vs,ne_none_bool→Vt,ne_int_none→Vu,ne_bool_none→Vv,eq_str_none→Vw,eq_none_str→Vx,eq_none_none→Vy,eq_none_int→Vz,eq_none_bool→VA,eq_int_none→VB,eq_bool_none→VC
open PyProof.Rows.IsTup renaming new→VR
open Char renaming toNat→VT
open PySem.Flow renaming next→V0
theorem zLm{α β}{l:List α}(f:α->β):(l.map f).length=l.length:=List.length_map f
theorem zGe{α}{l:List α}{i:Nat}(h:i<l.length):l[i]?=some l[i]:=List.getElem?_eq_getElem h
theorem zGd{α}{l:List α}{i:Nat}{a:α}:l.getD i a=l[i]?.getD a:=List.getD_eq_getElem?_getD
theorem zGs{α}{l:List α}{i:Nat}{a:α}(h:l[i]?=some a):∃h:i<l.length,l[i]=a:=List.getElem?_eq_some_iff.mp h
theorem zMo{α}{l:List α}{i:Nat}{a:α}(h:l[i]?=some a):a∈l:=List.mem_of_getElem? h
theorem zBf:false≠true:=Bool.false_ne_true
variable {xs ys ws qs:List Rat}{us its:List QW}{x y qual name:v9}{u cd cls acc:QW}{a it f T C cT dx:nk}{o b e c tg iter elt:K4}{P prog:PySem.Program}{w:KC}{h base h':K3}{t' i j n ep m L L' B':Nat}{ch fp:List nk}{N loose ns zs:List v9}{A:PySem.Around}{s' s s₀:PySem.Shared}{pins:List (nk×PySem.Obj)}{t:Bool}{st:K2}{es ifs:List K4}{pos' px py pos spos apos cpos p2:PySem.Pos}{g:Int->Int->Int}{fd:PySem.FuncData}{mg:v9->Option QW}{scope:PySem.Scope}{outer l:List PySem.Env}{od:Option nk}{q:Rat}{YP:KC->K3->Prop}{ks:List (List Int)}{ss:List K2}
set_option hygiene false in
local macro_rules
|`($t.$i:fieldIdx)=>match i.raw.isFieldIdx?.getD 0 with|3=>`(aA $t)|4=>`(some $t)|5=>`(aB 0 rfl $t)|6=>`(aB 1 rfl $t)|7=>`(jx X.prog $t)|8=>`(S "/claim/cut.py" $t)|9=>`(cellsFrom (s3.heap.objs.size+1) scope.names $t)|10=>`(a8 X scope cs C (x::ns) s₀ H₀ $t)|11=>`(bN X scope (cellsFrom (s3.heap.objs.size+1) scope.names cl) s3.heap.objs.size (x::ns) s3 H3 fp $t)|12=>`(fC (CXR P w) P w K mg base N qual scope f cd A outer s₀ H₀ $t)|13=>`(a8 X scope (cellsFrom (s3.heap.objs.size+1) scope.names cl) s3.heap.objs.size (x::ns) s3 H3 $t)|14=>`(c8 (.lst _) (.lst _) (R.aJ (by simp only[ql,qf,jk,l1,l2,l3];omega)) $t)|_=>Lean.Macro.throwUnsupported
set_option hygiene false in
local macro_rules
|`(tactic|show $c:char)=>match c.getChar with|'!'=>`(tactic|exact aF (aK 3 iS.nd (aB 4 rfl (aD (aX (aR rQ (aB 3 rfl (m9 (qZ ⟨_,rfl,(eF (aT (aD (aK 5 iS.nd (xL T.isi (.cons PX.n1 (.cons PX.n2 (.cons PX.n3 (.cons PX.n4 (.cons PX.n5 .nil))))) (show 5<=sizeLine by decide) (aB 3 rfl ⟨a,cT,false,rfl,aW,PX.k,PX.kO,(aF (aH (cP (aA (ge_str (aA (fV (aAD T.isi PX.n (aB 3 rfl ⟨a,cT,true,rfl,aW,PX.k,PX.kT,⟨_,rfl,aZ (fV (xW T.isi PX.v (by rfl) (aB 3 rfl ⟨a,cT,true,rfl,aW,PX.k,PX.kV,⟨_,rfl,aZ (gD (rE (aB 5 rfl ⟨_,rfl,(aC ⟨(show 2<=sizeLine by decide),hk2 hn _ ((Le.refl _).upd ha)⟩)⟩)))⟩⟩)))⟩⟩)))))))))⟩))))))⟩)))))))))|_=>Lean.Macro.throwUnsupported
set_option hygiene false in
local macro_rules
|`($c:char)=>match c.getChar with|'!'=>`(by omega)|'#'=>`(by lia)|'$'=>`(by simp)|'%'=>`(s3.heap.push {cls := .type "dict", data := .dict #[]})|'&'=>`(.lst _)|'*'=>`(by decide)|'+'=>`(.ListComp elt [⟨.Name x px,iter,ifs,0⟩] scope pos)|','=>`(⟨(.type "builtin_function_or_method"),none, .fields #[(.builtin "type.__prepare__"),(.type "type")],#[]⟩)|'-'=>`(by decide +kernel)|'.'=>`(show 2<=sizeLine by decide)|_=>Lean.Macro.throwUnsupported
noncomputable section
namespace L2
open PySem PySem.Spec PyProof.Rows
abbrev Key:=Sum Int Str
noncomputable def aGK:Key->Value->Bool
 |.inl k,v=>QV k v
 |.inr x,v=>Value.isStrOf x v
noncomputable def keyH(w:World):Key->Int
 |.inl k=>hashInt k
 |.inr x=>hashStr w x
theorem dH:∀{k:Key}{v:Value},aGK k v=true->(∃i t,k=Qb i/\v=rq i t)\/(∃x t,k=Qa x/\v=JR x t)
 |.inl i,v,h=>by
  obtain⟨t,e⟩:=Value.isInt_shape (k:=i) (v:=v) h
  exact .inl ⟨i,t,rfl,e⟩
 |.inr x,v,h=>by
  obtain⟨t,e⟩:=Value.isStrOf_shape (x:=x) (v:=v) h
  exact .inr ⟨x,t,rfl,e⟩
theorem aJZ(a b:Int):decide ((Qb a:Key)=Qb b)=(a==b):=by
 by_cases e:a=b
 ·subst e;simp
 ·have h:¬(Qb a:Key)=Qb b:=λq=>e (Sum.inl.inj q)
  rw[decide_eq_false h]
  exact (beq_eq_false_iff_ne.mpr e).symm
theorem aJ7(a b:Str):decide ((Qa a:Key)=Qa b)=decide (a=b):=by
 by_cases e:a=b
 ·subst e;simp
 ·have h:¬(Qa a:Key)=Qa b:=λq=>e (Sum.inr.inj q)
  rw[decide_eq_false h,decide_eq_false e]
theorem aJ3(a:Int)(b:Str):decide ((Qb a:Key)=Qa b)=false:=decide_eq_false (λq=>nomatch q)
theorem aKF(a:Str)(b:Int):decide ((Qa a:Key)=Qb b)=false:=decide_eq_false (λq=>nomatch q)
noncomputable def sW(prog:Program)(w:World):PySem.KeyKind prog w Key where
 is:=aGK
 hash:=keyH w
 inj:=λv a b ha hb=>by
  rcases dH ha with ⟨i,t,rfl,rfl⟩|⟨x,t,rfl,rfl⟩
  ·rcases dH hb with ⟨j,u,rfl,e⟩|⟨y,u,rfl,e⟩
   ·injection e with e1 _;rw[e1]
   ·exact nomatch e
  ·rcases dH hb with ⟨j,u,rfl,e⟩|⟨y,u,rfl,e⟩
   ·exact nomatch e
   ·injection e with e1 _;rw[e1]
 byValue:=λk v h=>by
  rcases dH h with ⟨i,t,rfl,rfl⟩|⟨x,t,rfl,rfl⟩ <;> rfl
 pyHash:=λhv h=>by
  rcases dH hv with ⟨i,t,rfl,rfl⟩|⟨x,t,rfl,rfl⟩
  ·exact wpAny_pyHash_int h
  ·exact wpAny_pyHash_str h
 eqBool:=λhu hv h=>by
  rcases dH hu with ⟨i,t,rfl,rfl⟩|⟨x,t,rfl,rfl⟩
  ·rcases dH hv with ⟨j,u,rfl,rfl⟩|⟨y,u,rfl,rfl⟩
   ·rw[aJZ] at h;exact wpAny_eqBool_int h
   ·rw[aJ3] at h;exact Qt i t y u _ _ _ _ h
  ·rcases dH hv with ⟨j,u,rfl,rfl⟩|⟨y,u,rfl,rfl⟩
   ·rw[aKF] at h;exact Qr x t j u _ _ _ _ h
   ·rw[aJ7] at h;exact wpAny_eqBool_str h
 «strs» := λk x t v h=>by
  rcases dH h with ⟨i,u,rfl,e⟩|⟨y,u,rfl,e⟩
  ·exact nomatch e
  ·injection e with e1 _
   subst e1
   cases v <;> rfl
inductive V where
 |non|bl (b:Bool)|int (i:Int)|str (x:Str)|byt (b:Array UInt8)|flt (b:UInt64)|ref (a:Addr)|ty (n:String)
 deriving DecidableEq
noncomputable def RelV:V->Value->Prop
 |.non,u=>u=wj
 |.bl b,u=>u=vo b
 |.int i,u=>∃t,u=rq i t
 |.str x,u=>∃t,u=JR x t
 |.byt b,u=>∃t,u=Value.bytes b t
 |.flt b,u=>∃t,u=Value.float b t
 |.ref a,u=>u=yr a
 |.ty n,u=>u=Qk n
abbrev Vals:List V->List Value->Prop:=Paired RelV
theorem Vals.length{xs:List V}(r:Vals xs us):xs.length=us.length:=J3 r
theorem Vals.get:∀{xs:List V}{us:List Value}{i:Nat}{x:V},Vals xs us->xs[i]?=some x->∃u,us[i]?=some u/\RelV x u
 |_,_,_,_, .nil,e=>by simp at e
 |_,_,0,_, .cons r _,e=>by simp at e;subst e;exact⟨_,rfl,r⟩
 |_,_,i+1,x, .cons _ t,e=>by
  obtain⟨u,h1,h2⟩:=Vals.get (i:=i) (x:=x) t (by simpa using e)
  exact⟨u,by simpa using h1,h2⟩
theorem Vals.set{x:V}(r:RelV x u):∀{xs:List V}{us:List Value} (i:Nat),Vals xs us->Vals (xs.set i x) (us.set i u)
 |_,_,_, .nil => .nil
 |_,_,0, .cons _ t => .cons r t
 |_,_,i+1, .cons q t => .cons q (Vals.set r i t)
theorem Vals.append:∀{xs ys:List V}{us ws:List Value},Vals xs us->Vals ys ws->Vals (xs++ys) (us++ws)
 |_,_,_,_, .nil,s=>s
 |_,_,_,_, .cons r t,s => .cons r (Vals.append t s)
theorem Vals.take:∀{xs:List V}{us:List Value} (n:Nat),Vals xs us->Vals (xs.take n) (us.take n)
 |_,_,0,_ => .nil
 |_,_,_+1, .nil => .nil
 |_,_,n+1, .cons r t => .cons r (Vals.take n t)
theorem Vals.drop:∀{xs:List V}{us:List Value} (n:Nat),Vals xs us->Vals (xs.drop n) (us.drop n)
 |_,_,0,r=>r
 |_,_,_+1, .nil => .nil
 |_,_,n+1, .cons _ t=>Vals.drop n t
noncomputable def RelO:Option V->Option Value->Prop
 |some v,some u=>RelV v u
 |none,none=>True
 |_,_=>False
noncomputable def KV{κ:Type}:List (κ×V)->List (κ×Value)->Prop:=Paired λ(p:κ×V) (q:κ×Value)=>p.1=q.1/\RelV p.2 q.2
noncomputable def kV:Key->V
 |.inl i => .int i
 |.inr x => .str x
inductive HO where
 /-- a list -/
 |lst (xs:List V)
 /-- a tuple (never changes) -/
 |tup (xs:List V)
 /-- a dict whose keys are ints and texts;one whose keys are tuples of ints and texts (the empty one is both) -/
 |dK (kvs:List (Key×V))|dT (kvs:List (List Key×V))
 /-- a set of ints: its members,its size -/
 |set (S:Int->Bool) (n:Nat)
 /-- an instance of the class at C,its dict at dx,its attributes -/
 |ins (C dx:Addr) (fs:List (Str×V))
 /-- the dict of the instance at x -/
 |own (x:Addr)
 /-- the dict of an exception -/
 |xd (fs:List (Str×V))
 /-- a bound method,f of x -/
 |met (f x:Addr)
 /-- a range object lo,lo+1, .. below hi -/
 |rng (lo hi:Int)
 /-- a thing that is known to the object (the script;a dict while a loop walks it): read,never written while it is so -/
 |frz (o:Obj) (u:HO)
 /-- a code object's table -/
 |tbl (ps:Array Value)
 /-- any other thing,by what is true of its one object (a def of one's own: SetO a S n:=HO.ext λh => ..) -/
 |ext (φ:Heap->Prop)
abbrev Hp:=Addr->Option HO
noncomputable def upd(H:Hp)(a:Addr)(o:HO):Hp:=λb=>if b=a then some o else H b
theorem a7{H:Hp}{o:HO}:upd H a o a=some o:=by unfold upd;rw[if_pos rfl]
theorem aU{H:Hp}{b:Addr}{o:HO}(h:b≠a):upd H a o b=H b:=by unfold upd;rw[if_neg h]
theorem bQ{H:Hp}{b:Addr}{o:HO}(h:H a=some o)(h':H b=none):a≠b:=by
 intro e;subst e;rw[h] at h';cases h'
section
variable (P:Program)(w:World)
noncomputable def eV(H:Hp)(h:Heap)(a:Addr):HO->Prop
 |.lst xs=>xs.length<=sizeLine/\∃(its:List Value) (n:Nat),Vals xs its/\h.get? a=some {cls := .type "list", data := .seq its.toArray n}
 |.tup xs=>xs.length<=sizeLine/\∃its:List Value,Vals xs its/\IsTup h a its.toArray
 |.dK kvs=>kvs.length<=sizeLine/\(a==Jg)=false/\∃vs,KV kvs vs/\h.DictOf (sW P w) a vs
 |.dT kvs=>kvs.length<=sizeLine/\(a==Jg)=false/\∃xs:List (List Key×Addr×Value),
   Paired (λ(p:List Key×V) (q:List Key×Addr×Value)=>p.1=q.1/\H q.2.1=some (.tup (p.1.map kV))/\RelV p.2 q.2.2) kvs xs /\
   ∃o es ep,h.get? a=some o/\o.ExactDict/\o.data = .dict es ep/\es.toList=xs.map (entryOfKey (tupleKind (sW P w)))/\(xs.map (·.1)).Nodup
 |.set S n=>h.SetOf (intKind P w) a S n
 |.ins C dx fs=>H dx=some (.own a)/\fs.length<=1000/\dx≠a/\h.get? a=some (Jy C dx) /\
   ∃mA,h.Ns1 dx mA/\(∀f,RelO (fs.lookup f) (mA f))/\PySem.Within mA (fs.map (·.1))
 |.own _=>∃o,h.get? a=some o
 |.xd fs=>∃mA,h.Ns1 a mA/\∀f,RelO (fs.lookup f) (mA f)
 |.rng lo hi=>∃t u v,h.get? a=some {cls := .type "range", data := .fields #[.int lo t, .int hi u, .int 1 v]}
 |.frz o u=>h.get? a=some o/\eV H h a u
 |.tbl ps=>h.get? a=some {cls := .none,data := .fields ps}
 |.met f x=>h.get? a=some (mz (.ref f) (.ref x))
 |.ext φ=>φ h/\(∃o,h.get? a=some o)/\∀h1 h2:Heap,φ h1->(∀o,h1.get? a=some o->h2.get? a=some o)->φ h2
noncomputable def HOk(H:Hp)(h:Heap):Prop:=∀a o,H a=some o->eV P w H h a o
end
section
variable {H H':Hp}{o:HO}
theorem eV.lt(x:eV P w H h a o):a<h.objs.size:=by
 cases o with
 |lst xs=>obtain⟨_,_,_,_,e⟩:=x;exact qq e
 |tup xs=>obtain⟨_,_,_,p⟩:=x;exact p.lt
 |dK kvs=>obtain⟨_,_,_,_,o,_,_,e,_⟩:=x;exact qq e
 |dT kvs=>obtain⟨_,_,_,_,o,_,_,e,_⟩:=x;exact qq e
 |set S n=>obtain⟨o,_,_,_,e,_⟩:=x;exact qq e
 |ins C dx fs=>obtain⟨_,_,_,e,_⟩:=x;exact qq e
 |own y=>obtain⟨_,e⟩:=x;exact qq e
 |xd fs=>obtain⟨_,⟨_,_,_,e,_⟩,_⟩:=x;exact qq e
 |rng lo hi=>obtain⟨_,_,_,e⟩:=x;exact qq e
 |frz ob u=>obtain⟨e,_⟩:=x;exact qq e
 |tbl ps=>exact qq (show h.get? a=some _ from x)
 |met f y=>exact qq (show h.get? a=some _ from x)
 |ext φ=>obtain⟨_,⟨_,e⟩,_⟩:=x;exact qq e
theorem Paired.mapP{α β:Type}{F G:α->β->Prop}:∀{l₁:List α}{l₂:List β},Paired F l₁ l₂->(∀a b,F a b->G a b)->Paired G l₁ l₂
 |_,_, .nil,_ => .nil
 |_,_, .cons r t,f => .cons (f _ _ r) (Paired.mapP t f)
theorem eV.stay(x:eV P w H h a o)(k:∀b u,(b=a\/H b=some (.own a))->h.get? b=some u->h'.get? b=some u)(ho:∀b,H b=some (.own a)->H' b=some (.own a))(ht:∀b xs,H b=some (.tup xs)->H' b=some (.tup xs)):eV P w H' h' a o:=by
 induction o with
 |lst xs=>obtain⟨z,its,n,r,e⟩:=x;exact⟨z,its,n,r,k _ _ (.inl rfl) e⟩
 |tup xs=>obtain⟨z,its,r,ob,e,c⟩:=x;exact⟨z,its,r,ob,k _ _ (.inl rfl) e,c⟩
 |dK kvs=>obtain⟨z,y,vs,r,ob,es,ep,e,c⟩:=x;exact⟨z,y,vs,r,ob,es,ep,k _ _ (.inl rfl) e,c⟩
 |dT kvs =>
  obtain⟨z,y,xs,r,ob,es,ep,e,c⟩:=x
  exact⟨z,y,xs,Paired.mapP r λp q z=>⟨z.1,ht _ _ z.2.1,z.2.2⟩,ob,es,ep,k _ _ (.inl rfl) e,c⟩
 |set S n=>obtain⟨ob,es,ep,t,e,c⟩:=x;exact⟨ob,es,ep,t,k _ _ (.inl rfl) e,c⟩
 |ins C dx fs =>
  obtain⟨d,z,ne,e,mA,⟨od,es,ep,e2,c⟩,r⟩:=x
  exact⟨ho _ d,z,ne,k _ _ (.inl rfl) e,mA,⟨od,es,ep,k _ _ (.inr d) e2,c⟩,r⟩
 |own y=>obtain⟨ob,e⟩:=x;exact⟨ob,k _ _ (.inl rfl) e⟩
 |xd fs=>obtain⟨mA,⟨od,es,ep,e,c⟩,r⟩:=x;exact⟨mA,⟨od,es,ep,k _ _ (.inl rfl) e,c⟩,r⟩
 |rng lo hi=>obtain⟨t,u,v,e⟩:=x;exact⟨t,u,v,k _ _ (.inl rfl) e⟩
 |frz ob u ih=>obtain⟨e,q⟩:=x;exact⟨k _ _ (.inl rfl) e,ih q⟩
 |tbl ps =>
  have e:h.get? a=some {cls := .none,data := .fields ps}:=x
  show h'.get? a=some {cls := .none,data := .fields ps}
  exact k a _ (.inl rfl) e
 |met f y =>
  have e:h.get? a=some (mz (.ref f) (.ref y)):=x
  show h'.get? a=some (mz (.ref f) (.ref y))
  exact k a _ (.inl rfl) e
 |ext φ=>obtain⟨p,⟨o,e⟩,st⟩:=x;exact⟨st _ _ p λo q=>k _ _ (.inl rfl) q,⟨o,k _ _ (.inl rfl) e⟩,st⟩
theorem HOk.lt(x:HOk P w H h)(e:H a=some o):a<h.objs.size:=(x a o e).lt
theorem HOk.fresh(x:HOk P w H h)(e:h.objs.size<=a):H a=none:=by
 cases q:H a with
 |none=>rfl
 |some u=>exact absurd (qo (x.lt q) e) (vv _)
theorem HOk.kept(x:HOk P w H h)(k:∀b u,h.get? b=some u->h'.get? b=some u):HOk P w H h':=λa o e =>
 (x a o e).stay (λb u _ q=>k b u q) (λ_ q=>q) λ_ _ q=>q
theorem HOk.laid(x:HOk P w H h)(k:∀b u,h.get? b=some u->h'.get? b=some u)(hp:h.objs.size<=a)(new:eV P w (upd H a o) h' a o):HOk P w (upd H a o) h':=λb u e=>by
 have hn:=x.fresh hp
 by_cases hb:b=a
 ·subst hb;rw[a7] at e;cases e;exact new
 ·rw[aU hb] at e
  exact (x b u e).stay (λc v _ q=>k c v q) (λc q=>by rw[aU (bQ q hn)];exact q) λc xs q=>by rw[aU (bQ q hn)];exact q
end
noncomputable def Rd(H:Hp)(a:Addr)(u:HO):Prop:=H a=some u\/∃o,H a=some (.frz o u)
theorem Rd.ok{H:Hp}{u:HO}(r:Rd H a u)(x:HOk P w H h):eV P w H h a u:=by
 rcases r with r|⟨o,r⟩
 ·exact x a u r
 ·obtain⟨_,q⟩:=x a _ r
  exact q
noncomputable def Mut:Option HO->Prop
 |some '&'=>True
 |some (.dK _)=>True
 |some (.dT _)=>True
 |some (.set _ _)=>True
 |some (.ins _ _ _)=>True
 |some (.ext _)=>True
 |_=>False
section
variable {H:Hp}{x e:Addr}{o':HO}
theorem HOk.write(ok:HOk P w H h)(mu:Mut (H x))(he:e=x\/H e=some (.own x))(k:∀b u,b≠e->h.get? b=some u->h'.get? b=some u)(heo:∃u,h'.get? e=some u)(new:eV P w (upd H x o') h' x o'):HOk P w (upd H x o') h':=λb u q=>by
 have nown:∀c y,H c=some (.own y)->c≠x:=λc y r z=>by subst z;rw[r] at mu;exact mu
 have ntup:∀c xs,H c=some (.tup xs)->c≠x:=λc xs r z=>by subst z;rw[r] at mu;exact mu
 by_cases hb:b=x
 ·subst hb;rw[a7] at q;cases q;exact new
 ·rw[aU hb] at q
  by_cases hbe:b=e
  ·have q':H b=some (.own x):=by
    rcases he with z|z
    ·exact absurd (hbe.trans z) hb
    ·rw[hbe];exact z
   rw[q] at q';cases q'
   obtain⟨v,hv⟩:=heo
   exact⟨v,by rw[hbe];exact hv⟩
  ·refine (ok b u q).stay (λc v hc r=>k c v ?_ r) (λc r=>by rw[aU (nown c b r)];exact r) λc xs r=>by rw[aU (ntup c xs r)];exact r
   rcases hc with rfl|hc
   ·exact hbe
   ·rintro rfl
    rcases he with z|z
    ·exact nown c b hc z
    ·rw[hc] at z;cases z;exact hb rfl
end
structure Un(fs ex:List Addr)(H H':Hp)(h h':Heap):Prop where
 keep:∀b o,h.get? b=some o->H b=none->b∉fs->b∉ex->h'.get? b=some o
 slot:∀b o,h.get? b=some o->H b=none->b∈fs->b∉ex->∃sl,h'.get? b=some {o with slots:=sl}
 free:∀b o,h.get? b=some o->H b=none->b∉ex->H' b=none
 there:∀b o,h.get? b=some o->b∉ex->∃o',h'.get? b=some o'
 tups:∀b xs,H b=some (.tup xs)->H' b=some (.tup xs)
 frzs:∀b o u,H b=some (.frz o u)->H' b=some (.frz o u)
 tbls:∀b ps,H b=some (.tbl ps)->∃more,H' b=some (.tbl (ps++more))
section
variable {fs fs' ex ex':List Addr}{H H1 H2:Hp}{h1 h2:Heap}{x e:Addr}{o:HO}
theorem Un.any(u:Un fs ex H H1 h h1){b:Addr}{ob:Obj}(q:h.get? b=some ob)(n:H b=none)(hx:b∉ex):∃sl,h1.get? b=some {ob with slots:=sl}:=by
 by_cases hb:b∈fs
 ·exact u.slot b ob q n hb hx
 ·exact⟨ob.slots,u.keep b ob q n hb hx⟩
theorem Un.kept(k:∀b u,h.get? b=some u->h'.get? b=some u):Un fs ex H H h h':=
 ⟨λb ob q _ _ _=>k b ob q,λb ob q _ _ _=>⟨ob.slots,k b ob q⟩,λ_ _ _ n _=>n,λb ob q _=>⟨ob,k b ob q⟩,λ_ _ q=>q,λ_ _ _ q=>q,λ_ ps q=>⟨#[],by rw[q];simp⟩⟩
theorem Un.refl:Un fs ex H H h h:=Un.kept λ_ _ q=>q
theorem Un.laid(k:∀b u,h.get? b=some u->h'.get? b=some u)(hp:h.objs.size<=a)(hn:H a=none):Un fs ex H (upd H a o) h h' where
 keep:=λb u q _ _ _=>k b u q
 slot:=λb u q _ _ _=>⟨u.slots,k b u q⟩
 free:=λb u q n _=>by rw[aU (je (qo (qq q) hp))];exact n
 there:=λb u q _=>⟨u,k b u q⟩
 tups:=λb xs q=>by rw[aU (bQ q hn)];exact q
 frzs:=λb u xs q=>by rw[aU (bQ q hn)];exact q
 tbls:=λb ps q=>⟨#[],by rw[aU (bQ q hn),q];simp⟩
theorem Un.write(mu:Mut (H x))(he:e=x\/H e=some (.own x))(k:∀b u,b≠e->h.get? b=some u->h'.get? b=some u)(heo:∃u,h'.get? e=some u):Un fs ex H (upd H x o) h h':=by
 have hx:∀b,H b=none->b≠x:=λb n z=>by subst z;rw[n] at mu;exact mu
 have hb:∀b,H b=none->b≠e:=λb n z=>by
  subst z
  rcases he with r|r
  ·exact hx b n r
  ·rw[n] at r;cases r
 have hm:∀b u,H b=some u->¬Mut u.4->b≠x:=λb u q nm z=>by subst z;rw[q] at mu;exact nm mu
 refine⟨λb u q n _ _=>k b u (hb b n) q,λb u q n _ _=>⟨u.slots,k b u (hb b n) q⟩,λb u q n _=>by rw[aU (hx b n)];exact n,λb u q _ => ?_,
  λb xs q=>by rw[aU (hm b _ q λz=>z)];exact q,λb u xs q=>by rw[aU (hm b _ q λz=>z)];exact q,λb ps q=>⟨#[],by rw[aU (hm b _ q λz=>z),q];simp⟩⟩
 by_cases hbe:b=e
 ·subst hbe;exact heo
 ·exact⟨u,k b u hbe q⟩
end
noncomputable def trk(h:Heap)(H:Hp):List Addr:=(qt h.objs.size).filter λa=>(H a).isSome
noncomputable def nW(h:Heap)(H:Hp):Heap:=Jz h (trk h H)
theorem aCY(h:Heap)(H:Hp):(nW h H).objs.size=h.objs.size:=PySem.W.hideAll_size _ _
theorem aEK{H:Hp}{b:Addr}{o:Obj}(e:h.get? b=some o)(n:H b=none):(nW h H).get? b=some o:=
 QG _ e λhm=>by
  have q:(H b).isSome=true:=(gw.mp hm).2
  rw[n] at q;simp at q
theorem aH0{H:Hp}{b:Addr}{o:Obj}(e:(nW h H).get? b=some o):h.get? b=some o/\H b=none:=by
 have e':h.get? b=some o:=QN (trk h H) e
 refine⟨e',?_⟩
 cases q:H b with
 |none=>rfl
 |some x =>
  have hm:b∈trk h H:=gw.mpr ⟨kh.mpr (qq e'),by simp[q]⟩
  have z:(nW h H).get? b=none:=gr (trk h H) hm
  rw[z] at e;cases e
noncomputable def aH1(g h:Heap)(L:Addr):List (Addr×Obj):=(qt h.objs.size).filterMap λa=>if a=L\/(g.get? a).isSome=true then none else (h.get? a).map λo=>(a,o)
noncomputable def rest(g h:Heap)(L d:Addr):List (Addr×Obj):=(aH1 g h L).filter λp=>decide (p.1≠d)
end L2
variable {H H' H1 H₀ G G' G0:L2.Hp}{v:L2.V}
namespace L2
open PySem PySem.Spec PyProof.Rows
structure Mod(K:qb)(mg:Str->Option Value)(base:Heap):Prop where
 kin:K.In base
 glob:base.Ns jo mg
 blt:∃mb,base.Ns Jh mb/\∀x:Str,x ≠ "__name__" -> mb x=va x
 nolimit:base.NoLimit
/-- the context: a def's body (or a comprehension's block) running. base: fixed through the whole law;s₀,H₀: the entry;outer: the frames whose slots others may change (a def's callers);stack: all frames that run;
   ex: iterators that were made ahead of the entry and are walked here (a comprehension's);fn: the names whose cells were made at the entry (a def: all;a comprehension's block: its own);calm: not within an except suite;pn: pins that every state bears;xe: what is wanted of an exception that leaves the code -/
structure Cx where
 prog:Program
 w:World
 K:qb
 mg:Str->Option Value
 base:Heap
 A:Around
 N:List Str
 s₀:Shared
 H₀:Hp
 env:Env
 outer:List Env
 stack:List Env
 ex:List Addr
 fn:Str->Bool
 calm:Bool
 pn:List (Addr×Obj)
 xe:Value->Shared->Prop
noncomputable def frs(l:List Env):List Addr:=l.filterMap (·.frame)
abbrev Cx.fs(X:Cx):List Addr:=frs X.outer
noncomputable def Vis(sc:Scope)(x:Str):Prop:=sc.names.lookup x=some .local\/sc.names.lookup x=some .cell\/sc.names.lookup x=some .free
noncomputable def Loc(sc:Scope)(x:Str):Prop:=sc.names.lookup x=some .local\/sc.names.lookup x=some .cell
noncomputable def Look(env:Env)(h:Heap)(m:Str->Option Value)(x:Str)(u:Value):Prop:=
 (env.kindOf x=some .local/\m x=some u)\/((env.kindOf x=some .cell\/env.kindOf x=some .free)/\∃c,env.cells.lookup x=some c/\h.IsCell c u.4)
structure Cx.Ok(X:Cx):Prop where
 mod:Mod X.K X.mg X.base
 kind:X.env.scope.kind = .function
 glob:X.env.globals=jo
 blt:X.env.builtins=Jh
 above:X.s₀.heap.objs.size<=X.env.locals
 inj:∀x y c,X.env.cells.lookup x=some c->X.env.cells.lookup y=some c->x=y
 has:∀x,(X.env.kindOf x=some .cell\/X.env.kindOf x=some .free)->∃c,X.env.cells.lookup x=some c
 cab:∀x c,X.fn x=true->X.env.cells.lookup x=some c->X.s₀.heap.objs.size<=c
 hd:X.calm=true->X.A.handled=none
 frames:X.A.frames=some X.stack
 stk:X.stack=X.outer\/(X.stack=X.env::X.outer/\X.env.frame=some X.env.locals)
 exf:∀b∈X.ex,b≠X.env.locals/\∀x c,X.env.cells.lookup x=some c->c≠b
 bs:∀b o,X.base.get? b=some o->X.s₀.heap.get? b=some o/\X.H₀ b=none
 bsz:X.base.objs.size<=X.s₀.heap.objs.size
 noex:∀b o,X.base.get? b=some o->b∉X.ex
 exfs:∀b∈X.ex,b∉X.fs
 funs:X.s₀.heap.FunFrames X.base X.outer
 frf:∀b∈X.fs,X.H₀ b=none
structure Inv(X:Cx)(pins:List (Addr×Obj))(σ:List (Option V))(H:Hp)(s:Shared):Prop where
 ok:X.Ok
 os:s.os=X.s₀.os
 bare:lh s.gens
 base:Un X.fs X.ex X.H₀ H X.s₀.heap s.heap
 loc:∃m,s.heap.Ns X.env.locals m/\∀(i:Nat) (x:Str) (v:V),X.N[i]?=some x->σ[i]?=some v.4->Vis X.env.scope x->∃u,RelV v u/\Look X.env s.heap m x u
 cell:∀x c,X.env.cells.lookup x=some c->∃v,s.heap.IsCell c v
 free:H X.env.locals=none
 freeC:∀x c,X.env.cells.lookup x=some c->H c=none
 pin:∀p∈X.pn++pins,s.heap.get? p.1=some p.2/\H p.1=none/\p.1≠X.env.locals/\p.1∉X.fs/\∀v,p.2.data ≠ .cell v
 hok:HOk X.prog X.w H s.heap
 len:σ.length=X.N.length
section
variable {X:Cx}{σ:List (Option V)}
theorem Cx.Ok.nofr(ok:X.Ok){b:Addr}{o:Obj}(e:X.base.get? b=some o):b∉X.fs:=λhb=>by
 have:=(ok.funs.mem hb).1
 rw[e] at this;cases this
theorem Inv.bs(I:Inv X pins σ H s):∀b o,X.base.get? b=some o->s.heap.get? b=some o/\H b=none:=λb o e =>
 ⟨I.base.keep b o (I.ok.bs b o e).1 (I.ok.bs b o e).2 (I.ok.nofr e) (I.ok.noex b o e),I.base.free b o (I.ok.bs b o e).1 (I.ok.bs b o e).2 (I.ok.noex b o e)⟩
theorem Inv.bk(I:Inv X pins σ H s):∀b o,X.base.get? b=some o->s.heap.get? b=some o:=λb o e=>(I.bs b o e).1
theorem Inv.mod(I:Inv X pins σ H s):Mod X.K X.mg X.base:=I.ok.mod
theorem Inv.kIn(I:Inv X pins σ H s):X.K.In s.heap:=I.ok.mod.kin.keeps I.bk
theorem Inv.lt(I:Inv X pins σ H s):X.env.locals<s.heap.objs.size:=let ⟨_,hn,_⟩:=I.loc;hn.lt
theorem Inv.sz(I:Inv X pins σ H s):X.s₀.heap.objs.size<=s.heap.objs.size:=ji I.ok.above (Q0 I.lt)
theorem Inv.nofs(I:Inv X pins σ H s)(h:s.heap.objs.size<=a):a∉X.fs:=λhb=>by
 obtain⟨_,o,ho,_⟩:=I.ok.funs.mem hb
 exact absurd (qo (qq ho) (ji I.sz h)) (vv _)
theorem Inv.cne(I:Inv X pins σ H s):∀x c,X.env.cells.lookup x=some c->c≠X.env.locals:=λx c e z=>by
 obtain⟨v,o,ho,hd⟩:=I.cell x c e
 obtain⟨m,⟨o',es,ep,ho',hd',_⟩,_⟩:=I.loc
 rw[z,ho'] at ho;cases ho;rw[hd'] at hd;cases hd
theorem Inv.funs(I:Inv X pins σ H s):s.heap.FunFrames X.base X.outer:=by
 have all:∀(l:List Env),(∀b∈frs l,b∈X.fs)->X.s₀.heap.FunFrames X.base l->s.heap.FunFrames X.base l:=by
  intro l
  induction l with
  |nil=>intro _ _;trivial
  |cons env r ih =>
   intro hs hl
   obtain⟨hk,⟨L,o,hf,hn,ho,hd⟩,hr⟩:=hl
   have hL:L∈X.fs:=hs L (by unfold frs;rw[mq,hf];exact jh)
   obtain⟨sl,e⟩:=I.base.slot L o ho (I.ok.frf L hL) hL λz=>I.ok.exfs L z hL
   exact⟨hk,⟨L,_,hf,hn,e,hd⟩,ih (λb hb=>hs b (by unfold frs;rw[mq,hf];exact qm _ hb)) hr⟩
 exact all X.outer (λ_ hb=>hb) I.ok.funs
theorem Inv.stack(I:Inv X pins σ H s):s.heap.FunFrames X.base X.stack:=by
 rcases I.ok.stk with e|⟨e,hf⟩
 ·rw[e];exact I.funs
 ·rw[e]
  obtain⟨m,hn,_⟩:=I.loc
  refine .cons (by rw[I.ok.kind];decide) hf hn ?_ I.funs
  exact Jd (ji I.ok.bsz I.ok.above)
theorem Inv.stkSub(I:Inv X pins σ H s):∀b∈frs X.stack,b∈X.env.locals::X.fs:=λb hb=>by
 rcases I.ok.stk with e|⟨e,hf⟩
 ·rw[e] at hb;exact qm _ hb
 ·rw[e] at hb
  unfold frs at hb
  rw[mq,hf] at hb
  exact hb
theorem Inv.stkFree(I:Inv X pins σ H s):∀b∈frs X.stack,H b=none:=λb hb=>by
 rcases qr.mp (I.stkSub b hb) with e|hb
 ·rw[e];exact I.free
 ·obtain⟨_,o,ho,_⟩:=I.ok.funs.mem hb
  exact I.base.free b o ho (I.ok.frf b hb) λz=>I.ok.exfs b z hb
theorem Inv.step{g':Array Km}{d':Drawn}(I:Inv X pins σ H s)(hch:∀b∈ch,(b∈X.ex\/X.s₀.heap.objs.size<=b)/\b≠X.env.locals/\(∀x c,X.env.cells.lookup x=some c->c≠b)/\∀p∈X.pn++pins,p.1≠b)(keep:∀b o,b≠X.env.locals->b∉X.fs->b∉ch->s.heap.get? b=some o->H b=none->h'.get? b=some o)(slot:∀b o,b≠X.env.locals->b∈X.fs->b∉ch->s.heap.get? b=some o->H b=none->∃sl,h'.get? b=some {o with slots:=sl})(free:∀b o,b∉ch->s.heap.get? b=some o->H b=none->H' b=none)(there:∀b o,b∉ch->s.heap.get? b=some o->∃o',h'.get? b=some o')(tups:∀b xs,H b=some (.tup xs)->H' b=some (.tup xs))(frzs:∀b o u,H b=some (.frz o u)->H' b=some (.frz o u))(tbls:∀b ps,H b=some (.tbl ps)->∃more,H' b=some (.tbl (ps++more)))(ns:∀m,s.heap.Ns X.env.locals m->h'.Ns X.env.locals m)(hok:HOk X.prog X.w H' h')(hg:lh g'):
  Inv X pins σ H' {s with heap:=h',gens:=g',drawn:=d',toks:=t' }:=by
 have neL:∀b o,X.s₀.heap.get? b=some o->b≠X.env.locals:=λb o e=>je (qo (qq e) I.ok.above)
 have neC:∀b o,X.s₀.heap.get? b=some o->b∉X.ex->b∉ch:=λb o e hx hb=>by
  rcases (hch b hb).1 with z|z
  ·exact hx z
  ·exact absurd (qo (qq e) z) (vv _)
 have cellK:∀x c,X.env.cells.lookup x=some c->∀v,s.heap.IsCell c v->h'.IsCell c v:=λx c e v ⟨o,ho,hd⟩=>by
  have nch:c∉ch:=λz=>(hch c z).2.2.1 x c e rfl
  by_cases hc:c∈X.fs
  ·obtain⟨sl,q⟩:=slot c o (I.cne x c e) hc nch ho (I.freeC x c e)
   exact⟨_,q,hd⟩
  ·exact⟨o,keep c o (I.cne x c e) hc nch ho (I.freeC x c e),hd⟩
 refine⟨I.ok,I.os,hg,⟨λb o e n hb hx => ?_,λb o e n hb hx => ?_,λb o e n hx => ?_,λb o e hx => ?_,λb xs e=>tups b xs (I.base.tups b xs e),λb o xs e=>frzs b o xs (I.base.frzs b o xs e),λb ps e => ?_⟩,?_,λx c e => ?_,?_,λx c e => ?_,λp hp => ?_,hok,I.len⟩
 ·exact keep b o (neL b o e) hb (neC b o e hx) (I.base.keep b o e n hb hx) (I.base.free b o e n hx)
 ·obtain⟨sl,e1⟩:=I.base.slot b o e n hb hx
  obtain⟨sl',e2⟩:=slot b _ (neL b o e) hb (neC b o e hx) e1 (I.base.free b o e n hx)
  exact⟨sl',e2⟩
 ·obtain⟨o',e1⟩:=I.base.there b o e hx
  exact free b o' (neC b o e hx) e1 (I.base.free b o e n hx)
 ·obtain⟨o',e1⟩:=I.base.there b o e hx
  exact there b o' (neC b o e hx) e1
 ·obtain⟨m1,e1⟩:=I.base.tbls b ps e
  obtain⟨m2,e2⟩:=tbls b _ e1
  exact⟨m1++m2,by rw[e2,Array.append_assoc]⟩
 ·obtain⟨m,hn,hl⟩:=I.loc
  refine⟨m,ns m hn,λi x v e1 e2 e3 => ?_⟩
  obtain⟨u,r,l⟩:=hl i x v e1 e2 e3
  refine⟨u,r,?_⟩
  rcases l with l|⟨k,c,e,z⟩
  ·exact .inl l
  ·exact .inr ⟨k,c,e,cellK x c e _ z⟩
 ·obtain⟨v,z⟩:=I.cell x c e
  exact⟨v,cellK x c e v z⟩
 ·obtain⟨m,⟨o,_,_,ho,_⟩,_⟩:=I.loc
  exact free _ o (λz=>(hch _ z).2.1 rfl) ho I.free
 ·obtain⟨v,o,ho,hd⟩:=I.cell x c e
  exact free c o (λz=>(hch c z).2.2.1 x c e rfl) ho (I.freeC x c e)
 ·obtain⟨e,n,ne,nf,d⟩:=I.pin p hp
  have nch:p.1∉ch:=λz=>(hch p.1 z).2.2.2 p hp rfl
  exact⟨keep p.1 p.2 ne nf nch e n,free p.1 p.2 nch e n,ne,nf,d⟩
theorem Inv.un(I:Inv X pins σ H s)(u:Un X.fs [] H H' s.heap h')(hok:HOk X.prog X.w H' h'):Inv X pins σ H' {s with heap:=h',toks:=t' }:=by
 obtain⟨m,⟨o,es,ep,ho,r⟩,_⟩:=id I.loc
 obtain⟨sl,hL⟩:=u.any ho I.free '$'
 exact I.step (g':=s.gens) (d':=s.drawn) (ch:=[]) (λ_ z=>nomatch z) (λb o _ hb _ e n=>u.keep b o e n hb '$') (λb o _ hb _ e n=>u.slot b o e n hb '$') (λb o _ e n=>u.free b o e n '$') (λb o _ e=>u.there b o e '$') u.tups u.frzs u.tbls (λm' hm=>by
  obtain⟨o',es',ep',ho',r'⟩:=hm
  rw[ho] at ho';cases ho'
  exact⟨_,es',ep',hL,r'⟩) hok I.bare
theorem Inv.call{g':Array Km}{d':Drawn}(I:Inv X pins σ H s)(u:Un (frs X.stack) ch H H' s.heap h')(hok:HOk X.prog X.w H' h')(hg:lh g')(hch:∀b∈ch,(b∈X.ex\/X.s₀.heap.objs.size<=b)/\b≠X.env.locals/\(∀x c,X.env.cells.lookup x=some c->c≠b)/\∀p∈X.pn++pins,p.1≠b):
  Inv X pins σ H' {s with heap:=h',gens:=g',drawn:=d',toks:=t' }:=by
 obtain⟨m,⟨o,es,ep,ho,r⟩,_⟩:=id I.loc
 obtain⟨sl,hL⟩:=u.any ho I.free λz=>(hch _ z).2.1 rfl
 exact I.step (ch:=ch) hch (λb o hL hb hc e n=>u.keep b o e n (λz=>(qr.mp (I.stkSub b z)).elim hL hb) hc) (λb o _ _ hc e n=>u.any e n hc) (λb o hc e n=>u.free b o e n hc) (λb o hc e=>u.there b o e hc) u.tups u.frzs u.tbls (λm' hm=>by
  obtain⟨o',es',ep',ho',r'⟩:=hm
  rw[ho] at ho';cases ho'
  exact⟨_,es',ep',hL,r'⟩) hok hg
theorem Inv.turned(I:Inv X pins σ H s)(k:∀b o,b≠it->s.heap.get? b=some o->h'.get? b=some o)(hn:H it=none)(hL:it≠X.env.locals)(h1:it∈X.ex\/X.s₀.heap.objs.size<=it)(h2:∀x c,X.env.cells.lookup x=some c->c≠it)(h3:∀p∈X.pn++pins,p.1≠it):Inv X pins σ H {s with heap:=h',toks:=t' }:=by
 have nit:∀b u,H b=some u->b≠it:=λb u e z=>by rw[z,hn] at e;cases e
 refine I.step (g':=s.gens) (d':=s.drawn) (ch:=[it]) (λb hb => ?_) (λb o _ _ hc e _=>k b o (λz=>hc (by simp[z])) e) (λb o _ _ hc e _=>⟨o.slots,k b o (λz=>hc (by simp[z])) e⟩) (λ_ _ _ _ n=>n)
  (λb o hc e=>⟨o,k b o (λz=>hc (by simp[z])) e⟩) (λ_ _ e=>e) (λ_ _ _ e=>e) (λb ps e=>⟨#[],by rw[e];simp⟩) (λm hm => ?_) (λb u e => ?_) I.bare
 ·have e:b=it:=by simpa using hb
  subst e
  exact⟨h1,hL,h2,h3⟩
 ·obtain⟨o,es,ep,ho,r⟩:=hm
  exact⟨o,es,ep,k _ o (yj hL) ho,r⟩
 ·refine (I.hok b u e).stay (λc v hc q=>k c v ?_ q) (λ_ q=>q) λ_ _ q=>q
  rcases hc with z|z
  ·rw[z];exact nit b u e
  ·exact nit c _ z
theorem Inv.tok(I:Inv X pins σ H s)(t:Nat):Inv X pins σ H {s with toks:=t}:=I.un (h':=s.heap) (t':=t) Un.refl I.hok
theorem Inv.kept(I:Inv X pins σ H s)(k:∀b u,s.heap.get? b=some u->h'.get? b=some u):Inv X pins σ H {s with heap:=h',toks:=t' }:=I.un (Un.kept k) (I.hok.kept k)
theorem Inv.laid{o:HO}(I:Inv X pins σ H s)(k:∀b u,s.heap.get? b=some u->h'.get? b=some u)(hp:s.heap.objs.size<=a)(new:eV X.prog X.w (upd H a o) h' a o):
  Inv X pins σ (upd H a o) {s with heap:=h',toks:=t' }:=I.un (Un.laid k hp (I.hok.fresh hp)) (I.hok.laid k hp new)
theorem Inv.write{x e:Addr}{o:HO}(I:Inv X pins σ H s)(mu:Mut (H x))(he:e=x\/H e=some (.own x))(k:∀b u,b≠e->s.heap.get? b=some u->h'.get? b=some u)(heo:∃u,h'.get? e=some u)(new:eV X.prog X.w (upd H x o) h' x o):Inv X pins σ (upd H x o) {s with heap:=h',toks:=t' }:=I.un (Un.write mu he k heo) (I.hok.write mu he k heo new)
theorem Inv.pins_of{pins':List (Addr×Obj)}(I:Inv X pins σ H s)(h:∀p∈pins',s.heap.get? p.1=some p.2/\H p.1=none/\p.1≠X.env.locals/\p.1∉X.fs/\∀v,p.2.data ≠ .cell v):Inv X pins' σ H s:=
 ⟨I.ok,I.os,I.bare,I.base,I.loc,I.cell,I.free,I.freeC,λp hp=>(kv.mp hp).elim (λz=>I.pin p (Jc _ z)) (h p),I.hok,I.len⟩
theorem qO(hN:N.Nodup)(a:N[i]?=some x)(b:N[j]?=some x):i=j:=by
 obtain⟨h1,e1⟩:=zGs a
 obtain⟨h2,e2⟩:=zGs b
 exact (List.getElem_inj hN).mp (e1.trans e2.symm)
theorem tN{M:Model}{E:Value->Shared->Prop}{Q:Unit->Shared->Prop}(I:Inv X pins σ H s)(hN:X.N.Nodup)(hi:X.N[i]?=some x)(hx:Loc X.env.scope x)(r:RelV v u)(h:∀s',Inv X pins (σ.set i v.4) H s'->(∃a,KH a s.heap s'.heap/\(a=X.env.locals\/X.env.cells.lookup x=some a))->Q () s')(hf:X.fn x=true\/X.env.scope.names.lookup x=some .local:=by first|exact .inl rfl|exact .inr rfl|assumption):kf M A (storeName X.env x u) Q E s:=by
 obtain⟨m,hn,hl⟩:=id I.loc
 have hcls:(X.env.scope.kind == .class||(X.env.scope.kind == .module&&X.env.locals != X.env.globals))=false:=by rw[I.ok.kind];rfl
 have hiσ:i<σ.length:=by rw[I.len];exact (zGs hi).1
 have cne:=I.cne
 have tracked:∀{a:Addr}{h':Heap},(∃o,s.heap.get? a=some o/\H a=none)->KH a s.heap h'->HOk X.prog X.w H h':=λ{a h'} ha hs b ob e=>by
  obtain⟨_,_,hfree⟩:=ha
  refine (I.hok b ob e).stay (λc w' hc q=>(hs.2 c ?_).trans q) (λ_ q=>q) λ_ _ q=>q
  rintro rfl
  rcases hc with rfl|hc
  ·rw[hfree] at e;cases e
  ·rw[hfree] at hc;cases hc
 rcases hx with hk|hk
 ·refine wpAny_storeName_local hk hn (λh' hn' hs => ?_) hcls
  obtain⟨oL,_,_,hoL,_⟩:=id hn
  refine h _ ⟨I.ok,I.os,I.bare,⟨λb o e n hb hx => ?_,λb o e n hb hx => ?_,I.base.free,λb o e hx => ?_,I.base.tups,I.base.frzs,I.base.tbls⟩,⟨_,hn',λj y v' e1 e2 e3 => ?_⟩,λy c e => ?_,I.free,I.freeC,λp hp => ?_,tracked ⟨oL,hoL,I.free⟩ hs,by simpa using I.len⟩ ⟨_,hs, .inl rfl⟩
  ·exact (hs.2 b (je (qo (qq e) I.ok.above))).trans (I.base.keep b o e n hb hx)
  ·obtain⟨sl,e1⟩:=I.base.slot b o e n hb hx
   exact⟨sl,(hs.2 b (je (qo (qq e) I.ok.above))).trans e1⟩
  ·obtain⟨o',e1⟩:=I.base.there b o e hx
   exact⟨o',(hs.2 b (je (qo (qq e) I.ok.above))).trans e1⟩
  ·by_cases hj:j=i
   ·subst hj
    rw[hi] at e1;cases e1
    rw[QJ hiσ] at e2
    cases e2
    exact⟨u,r, .inl ⟨hk,by simp⟩⟩
   ·rw[lq (yj hj)] at e2
    obtain⟨u',r',q⟩:=hl j y v' e1 e2 e3
    refine⟨u',r',?_⟩
    rcases q with ⟨k,e⟩|⟨k,c,e,z⟩
    ·refine .inl ⟨k,?_⟩
     have:y≠x:=λe=>hj (qO hN e1 (e▸hi))
     simp[this,e]
    ·exact .inr ⟨k,c,e,z.sameBut hs (cne y c e)⟩
  ·obtain⟨w',z⟩:=I.cell y c e
   exact⟨w',z.sameBut hs (cne y c e)⟩
  ·obtain⟨e,n,ne,nf,d⟩:=I.pin p hp
   exact⟨(hs.2 p.1 ne).trans e,n,ne,nf,d⟩
 ·have hfn:X.fn x=true:=by
   rcases hf with z|z
   ·exact z
   ·rw[z] at hk;cases hk
  obtain⟨c,hc⟩:=I.ok.has x (.inl hk)
  obtain⟨w',z⟩:=I.cell x c hc
  refine wpAny_storeName_cell I.ok.kind hk hc z (λh' hc' hs => ?_)
  obtain⟨oc,hoc,hocd⟩:=id z
  refine h {s with heap:=h' } ⟨I.ok,I.os,I.bare,⟨λb o e n hb hx => ?_,λb o e n hb hx => ?_,I.base.free,λb o e hx => ?_,I.base.tups,I.base.frzs,I.base.tbls⟩,⟨m,hn.sameBut hs (yj (cne x c hc)),λj y v' e1 e2 e3 => ?_⟩,λy c' e => ?_,I.free,I.freeC,λp hp => ?_,tracked ⟨oc,hoc,I.freeC x c hc⟩ hs,by simpa using I.len⟩ ⟨c,hs, .inr hc⟩
  ·exact (hs.2 b (je (qo (qq e) (I.ok.cab x c hfn hc)))).trans (I.base.keep b o e n hb hx)
  ·obtain⟨sl,e1⟩:=I.base.slot b o e n hb hx
   exact⟨sl,(hs.2 b (je (qo (qq e) (I.ok.cab x c hfn hc)))).trans e1⟩
  ·obtain⟨o',e1⟩:=I.base.there b o e hx
   exact⟨o',(hs.2 b (je (qo (qq e) (I.ok.cab x c hfn hc)))).trans e1⟩
  ·by_cases hj:j=i
   ·subst hj
    rw[hi] at e1;cases e1
    rw[QJ hiσ] at e2
    cases e2
    exact⟨u,r, .inr ⟨.inl hk,c,hc,hc'⟩⟩
   ·rw[lq (yj hj)] at e2
    obtain⟨u',r',q⟩:=hl j y v' e1 e2 e3
    refine⟨u',r',?_⟩
    rcases q with q|⟨k,c',e,z'⟩
    ·exact .inl q
    ·refine .inr ⟨k,c',e,z'.sameBut hs ?_⟩
     rintro rfl
     exact hj (qO hN e1 (I.ok.inj _ _ _ e hc▸hi))
  ·by_cases hcc:c'=c
   ·subst hcc;exact⟨_,hc'⟩
   ·obtain⟨w2,z2⟩:=I.cell y c' e
    exact⟨w2,z2.sameBut hs hcc⟩
  ·obtain⟨e,n,ne,nf,d⟩:=I.pin p hp
   refine⟨(hs.2 p.1 ?_).trans e,n,ne,nf,d⟩
   intro q
   rw[q,hoc] at e
   have q':oc=p.2:=qw e
   exact d w' (by rw[<- q'];exact hocd)
theorem jJ{M:Model}{E:Value->Shared->Prop}{Q:Unit->Shared->Prop}(I:Inv X pins σ H s)(hN:X.N.Nodup)(hi:X.N[i]?=some x)(hx:Loc X.env.scope x)(r:RelV v u)(h:∀s',Inv X pins (σ.set i v.4) H s'->Q () s')(hf:X.fn x=true\/X.env.scope.names.lookup x=some .local:=by first|exact .inl rfl|exact .inr rfl|assumption):kf M A (storeName X.env x u) Q E s:=
 tN I hN hi hx r (λs' I' _=>h s' I') hf
theorem Inv.call'(I:Inv X pins σ H s)(ho:s'.os=s.os)(u:Un (frs X.stack) ch H H' s.heap s'.heap)(hok:HOk X.prog X.w H' s'.heap)(hg:lh s'.gens)(hch:∀b∈ch,(b∈X.ex\/X.s₀.heap.objs.size<=b)/\b≠X.env.locals/\(∀x c,X.env.cells.lookup x=some c->c≠b)/\∀p∈X.pn++pins,p.1≠b):Inv X pins σ H' s':=by
 obtain⟨h',g',d',t',o'⟩:=s'
 have e:o'=s.os:=ho
 subst e
 exact I.call (g':=g') (t':=t') (d':=d') u hok hg hch
end
abbrev XK:=Value->Option Addr->Hp->Prop
abbrev St:=List (Option V)
abbrev VK:=V->Hp->Prop
abbrev TE:=St->Hp->VK->Prop
abbrev TT:=St->Hp->(Bool->Hp->Prop)->Prop
abbrev TA:=St->Hp->(List V->Hp->Prop)->Prop
structure Ends where
 nx:St->Hp->Prop
 rt:VK
 bk:St->Hp->Prop:=λ_ _=>False
 ct:St->Hp->Prop:=λ_ _=>False
abbrev TS:=Ends->St->Hp->Prop
noncomputable def EP(X:Cx)(pins:List (Addr×Obj))(σ:St)(Q:VK)(u:Value)(s':Shared):Prop:=∃v H',Inv X pins σ H' s'/\RelV v u/\Q v H'
noncomputable def TP(X:Cx)(pins:List (Addr×Obj))(σ:St)(Q:Bool->Hp->Prop)(b:Bool)(s':Shared):Prop:=∃H',Inv X pins σ H' s'/\Q b H'
noncomputable def AP(X:Cx)(pins:List (Addr×Obj))(σ:St)(Q:List V->Hp->Prop)(us:List Value)(s':Shared):Prop:=∃vs H',Inv X pins σ H' s'/\Vals vs us/\Q vs H'
noncomputable def SP(X:Cx)(pins:List (Addr×Obj))(D:Ends)(f:Flow)(s':Shared):Prop:=
 match f with
 |.next=>∃σ' H',Inv X pins σ' H' s'/\D.nx σ' H'
 |.brk=>∃σ' H',Inv X pins σ' H' s'/\D.bk σ' H'
 |.cont=>∃σ' H',Inv X pins σ' H' s'/\D.ct σ' H'
 |.ret u=>∃v σ' H',Inv X pins σ' H' s'/\RelV v u/\D.rt v H'
noncomputable def PE(X:Cx)(e:Expr)(t:TE):Prop:=
 ∀(pins:List (Addr×Obj)) (s:Shared) (σ:St) (H:Hp) (Q:VK),Inv X pins σ H s->t σ H Q->kf X.w.7 X.A (eval e X.env) (EP X pins σ Q) X.xe s
noncomputable def PT(X:Cx)(e:Expr)(t:TT):Prop:=
 ∀(pins:List (Addr×Obj)) (s:Shared) (σ:St) (H:Hp) (Q:Bool->Hp->Prop),Inv X pins σ H s->t σ H Q->kf X.w.7 X.A (isTrue e X.env (eval e X.env)) (TP X pins σ Q) X.xe s
noncomputable def PW(X:Cx)(e:Expr)(t:TT):Prop:=
 ∀(whole:Sem Value) (pins:List (Addr×Obj)) (s:Shared) (σ:St) (H:Hp) (Q:Bool->Hp->Prop),Inv X pins σ H s->t σ H Q->kf X.w.7 X.A (isTrue e X.env whole) (TP X pins σ Q) X.xe s
noncomputable def PA(X:Cx)(es:List Expr)(t:TA):Prop:=
 ∀(pos:Pos) (pins:List (Addr×Obj)) (s:Shared) (σ:St) (H:Hp) (Q:List V->Hp->Prop),Inv X pins σ H s->t σ H Q->kf X.w.7 X.A (VJ (x9 pos (qp es X.env))) (AP X pins σ Q) X.xe s
noncomputable def PS(X:Cx)(st:Stmt)(t:TS):Prop:=
 ∀(pins:List (Addr×Obj)) (s:Shared) (σ:St) (H:Hp) (D:Ends),Inv X pins σ H s->t D σ H->kf X.w.7 X.A (exec st X.env) (SP X pins D) X.xe s
noncomputable def PSs(X:Cx)(st:List Stmt)(t:TS):Prop:=
 ∀(pins:List (Addr×Obj)) (s:Shared) (σ:St) (H:Hp) (D:Ends),Inv X pins σ H s->t D σ H->kf X.w.7 X.A (execs st X.env) (SP X pins D) X.xe s
theorem thn{α:Type}{t:Sem α}{Q Q':α->Shared->Prop}{M:Model}{E:Value->Shared->Prop}(h:kf M A t Q E s)(hQ:∀a s,Q a s->Q' a s):kf M A t Q' E s:=vd h hQ λ_ _ x=>x
end L2
variable {σ:L2.St}{X:L2.Cx}{te ta:L2.TE}{r:List L2.V->L2.Hp->L2.VK->Prop}{tt:L2.TT}
namespace L2
open PySem PySem.Spec PyProof.Rows
section
noncomputable def tVar(i:Nat):TE:=λσ H Q=>∃v,σ[i]?=some v.4/\Q v H
noncomputable def tC(v:V):TE:=λ_ H Q=>Q v H
theorem aJ2{pos:Pos}(hN:X.N[i]?=some x)(hv:Vis X.env.scope x)(hd:(x==("__debug__" : Str))=false:=by decide)(hcd:(x==("__classdict__" : Str))=false:=by decide):PE X (.Name x pos) (tVar i):=by
 intro pins s σ H Q I h
 obtain⟨v,e,h⟩:=h
 obtain⟨m,hn,hl⟩:=I.loc
 obtain⟨u,r,l⟩:=hl i x v hN e hv
 have fin:EP X pins σ Q u s:=⟨v,H,I,r,h⟩
 rcases l with ⟨hk,hm⟩|⟨hk,c,hc,hcell⟩
 ·exact Kv (wpAny_loadName_local I.ok.kind hk hn hm fin) hd
 ·rcases hk with hk|hk
  ·exact Kv (wpAny_loadName_cell I.ok.kind hk hc hcell fin) hd
  ·exact Kv (wpAny_loadName_free I.ok.kind hk hc hcell fin hcd) hd
theorem aDF{i j pos}:PE X (.Constant (.int i) j pos) (tC (.int i)):=λ_ _ _ H _ I h=>wpAny_Constant_int ⟨.int i,H,I.tok _,⟨_,rfl⟩,h⟩
theorem aLF{b j pos}:PE X (.Constant (.bool b) j pos) (tC (.bl b)):=λ_ _ _ H _ I h=>Constant_bool ⟨.bl b,H,I,rfl,h⟩
theorem aLA{j pos}:PE X (.Constant .none j pos) (tC .non):=λ_ _ _ H _ I h=>Constant_none ⟨.non,H,I,rfl,h⟩
theorem aKH{x j pos}:PE X (.Constant (.str x) j pos) (tC (.str x)):=λ_ _ _ H _ I h=>Calls.Constant_str ⟨.str x,H,I.tok _,⟨_,rfl⟩,h⟩
noncomputable def Gl(X:Cx)(x:Str):Prop:=X.env.kindOf x=some .globalImplicit
theorem kL{E:Value->Shared->Prop}{pos:Pos}{Q:Value->Shared->Prop}(I:Inv X pins σ H s)(hg:Gl X x)(hm:X.mg x=some u)(h:Q u s)(hd:(x==("__debug__" : Str))=false:=by decide):kf X.w.7 X.A (eval (.Name x pos) X.env) Q E s:=
 tu I.ok.kind hg (Calls.loadGlobal_global (by rw[I.ok.glob];exact I.mod.glob.keeps I.bk) hm h) hd
theorem o7{E:Value->Shared->Prop}{pos:Pos}{Q:Value->Shared->Prop}(I:Inv X pins σ H s)(hg:Gl X x)(hm:X.mg x=none)(hv:va x=some u)(h:Q u s)(hn:x ≠ "__name__" := by decide)(hd:(x==("__debug__" : Str))=false:=by decide):kf X.w.7 X.A (eval (.Name x pos) X.env) Q E s:=by
 obtain⟨mb,h1,h2⟩:=I.mod.blt
 exact tu I.ok.kind hg (Calls.loadGlobal_builtin (by rw[I.ok.glob];exact I.mod.glob.keeps I.bk) hm (by rw[I.ok.blt];exact h1.keeps I.bk) ((h2 x hn).trans hv) h) hd
theorem mK{pos:Pos}(hg:Gl X x)(hm:X.mg x=some u)(r:RelV v u)(hd:(x==("__debug__" : Str))=false:=by decide):PE X (.Name x pos) (tC v):=
 λ_ _ _ H _ I h=>kL I hg hm ⟨v,H,I,r,h⟩ hd
theorem zE{pos:Pos}(hg:Gl X x)(hm:X.mg x=none)(hv:va x=some u)(r:RelV v u)(hn:x ≠ "__name__" := by decide)(hd:(x==("__debug__" : Str))=false:=by decide):PE X (.Name x pos) (tC v):=
 λ_ _ _ H _ I h=>o7 I hg hm hv ⟨v,H,I,r,h⟩ hn hd
variable {a:Expr}{tb:TE}
noncomputable def tB(t:TE):TT:=λσ H Q=>t σ H λx H1=>∃c,x = .bl c/\Q c H1
theorem aKQ{t:TE}(h:PE X e t)(he:∀whole,isTrue e X.env whole=(do let v <- whole;Jn e.pos;mx [v] (VH v)):=by intro _;rfl):PT X e (tB t):=by
 intro pins s σ H Q I hw
 refine isTrue_plain (thn (h pins s σ H _ I hw) λv s1 ⟨x,H1,I1,r1,q1⟩ => ?_) (he _)
 obtain⟨d,rfl,q⟩:=q1
 cases r1
 exact wa ⟨H1,I1,q⟩
variable {tA tB':TT}{rest:List Expr}
noncomputable def tAnd(t u:TT):TT:=λσ H Q=>t σ H λc H1=>if c=true then u σ H1 Q else Q false H1
noncomputable def tOr(t u:TT):TT:=λσ H Q=>t σ H λc H1=>if c=true then Q true H1 else u σ H1 Q
noncomputable def tNot(t:TT):TT:=λσ H Q=>t σ H λc H1=>Q (!c) H1
theorem aIQ(ha:PT X a tA):PW X (.BoolOp .And [a] pos) tA:=by
 intro wh pins s σ H Q I h
 refine isTrue_and (thn (ha pins s σ H Q I h) λc s1 e => ?_)
 cases c with
 |true=>exact isTrue_and_nil e
 |false=>exact e
theorem aJX(ha:PT X a tA):PW X (.BoolOp .Or [a] pos) tA:=by
 intro wh pins s σ H Q I h
 refine isTrue_or (thn (ha pins s σ H Q I h) λc s1 e => ?_)
 cases c with
 |false=>exact isTrue_or_nil e
 |true=>exact e
theorem aKV(ha:PT X a tA)(hb:PW X (.BoolOp .And (b::rest) pos) tB'):PW X (.BoolOp .And (a::b::rest) pos) (tAnd tA tB'):=by
 intro wh pins s σ H Q I h
 refine isTrue_and (thn (ha pins s σ H _ I h) λc s1 ⟨H1,I1,q1⟩ => ?_)
 cases c with
 |true=>exact hb wh pins s1 σ H1 Q I1 q1
 |false=>exact⟨H1,I1,q1⟩
theorem aLV(ha:PT X a tA)(hb:PW X (.BoolOp .Or (b::rest) pos) tB'):PW X (.BoolOp .Or (a::b::rest) pos) (tOr tA tB'):=by
 intro wh pins s σ H Q I h
 refine isTrue_or (thn (ha pins s σ H _ I h) λc s1 ⟨H1,I1,q1⟩ => ?_)
 cases c with
 |true=>exact⟨H1,I1,q1⟩
 |false=>exact hb wh pins s1 σ H1 Q I1 q1
theorem aK4(ha:PT X a tA):PT X (.UnaryOp .Not a pos) (tNot tA):=by
 intro pins s σ H Q I h
 exact isTrue_not (ha pins s σ H (λc H1=>Q (!c) H1) I h)
noncomputable def aLQ(ta tb:TE):TE:=λσ H Q=>ta σ H λx H1=>∃c,x = .bl c/\if c=true then tb σ H1 Q else Q (.bl false) H1
noncomputable def aLG(ta:TE):TE:=λσ H Q=>ta σ H λx H1=>∃c,x = .bl c/\Q (.bl (!c)) H1
theorem aJS{op}{t:TE}(h:PE X a t):PE X (.BoolOp op [a] pos) t:=λpins s σ H Q I hw=>BoolOp_one (h pins s σ H Q I hw)
theorem aJR(ha:PE X a ta)(hb:PE X (.BoolOp .And (b::rest) pos) tb):PE X (.BoolOp .And (a::b::rest) pos) (aLQ ta tb):=by
 intro pins s σ H Q I h
 refine BoolOp_and (thn (ha pins s σ H _ I h) λv s1 ⟨x,H1,I1,r1,q1⟩ => ?_)
 obtain⟨c,rfl,q1⟩:=q1
 cases r1
 refine wa ?_
 cases c with
 |true=>exact hb pins s1 σ H1 Q I1 q1
 |false=>exact⟨.bl false,H1,I1,rfl,q1⟩
theorem aKL(ha:PE X a ta):PE X (.UnaryOp .Not a pos) (aLG ta):=by
 intro pins s σ H Q I h
 refine UnaryOp_ (thn (ha pins s σ H _ I h) λv s1 ⟨x,H1,I1,r1,q1⟩ => ?_)
 obtain⟨c,rfl,q1⟩:=q1
 cases r1
 exact not_of (wa ⟨.bl (!c),H1,I1,rfl,q1⟩)
noncomputable def tIf(t:TT)(ta tb:TE):TE:=λσ H Q=>t σ H λc H1=>if c=true then ta σ H1 Q else tb σ H1 Q
theorem aFH(hc:PT X c tA)(ha:PE X a ta)(hb:PE X b tb):PE X (.IfExp c a b pos) (tIf tA ta tb):=by
 intro pins s σ H Q I h
 refine wpAny_IfExp (thn (hc pins s σ H _ I h) λd s1 ⟨H1,I1,q1⟩ => ?_)
 cases d with
 |true=>exact ha pins s1 σ H1 Q I1 q1
 |false=>exact hb pins s1 σ H1 Q I1 q1
end
end L2
namespace L2
open PySem PySem.Spec PyProof.Rows
noncomputable def SqL(K:qb)(H:Hp)(a:Addr)(xs:List V):Prop:=
 Rd H a (.lst xs) \/
  ∃(o:Obj) (its:Array Value) (n:Nat),K.lookup a=some o/\o.cls = .type "list" /\ o.dict=none/\o.data = .seq its n/\its.size<=sizeLine/\Vals xs its.toList
noncomputable def SqT(K:qb)(H:Hp)(a:Addr)(xs:List V):Prop:=
 Rd H a (.tup xs) \/
  ∃(o:Obj) (its:Array Value) (n:Nat),K.lookup a=some o/\o.cls = .type "tuple" /\ o.data = .seq its n/\its.size<=sizeLine/\Vals xs its.toList
noncomputable def absV:Value->Option V
 |.none=>some .non
 |.bool b=>some (.bl b)
 |.int i _=>some (.int i)
 |.str x _=>some (.str x)
 |.bytes b _=>some (.byt b)
 |.float b _=>some (.flt b)
 |.ref a=>some (.ref a)
 |.type n=>some (.ty n)
 |_=>none
theorem RelV.abs{x:V}(r:RelV x u):absV u=some x:=by
 cases x with
 |non=>cases r;rfl
 |bl _=>cases r;rfl
 |int _=>obtain⟨t,rfl⟩:=r;rfl
 |str _=>obtain⟨t,rfl⟩:=r;rfl
 |byt _=>obtain⟨t,rfl⟩:=r;rfl
 |flt _=>obtain⟨t,rfl⟩:=r;rfl
 |ref _=>cases r;rfl
 |ty _=>cases r;rfl
theorem RelV.inj{x y:V}(r:RelV x u)(q:RelV y u):x=y:=qw (r.abs.symm.trans q.abs)
theorem Vals.inj:∀{xs ys:List V}{us:List Value},Vals xs us->Vals ys us->xs=ys
 |_,_,_, .nil, .nil=>rfl
 |_,_,_, .cons r t, .cons r' t'=>by rw[r.inj r',Vals.inj t t']
section
variable {xs ys:List V}
theorem SqL.of{K:qb}(h:H a=some (.lst xs)):SqL K H a xs := .inl (.inl h)
theorem SqT.of{K:qb}(h:H a=some (.tup xs)):SqT K H a xs := .inl (.inl h)
theorem Inv.list(I:Inv X pins σ H s)(h:SqL X.K H a xs):∃its:List Value,Vals xs its/\PlainL s.heap a its.toArray/\xs.length<=sizeLine:=by
 rcases h with h|⟨o,its,n,hk,hc,hd,hs,hz,r⟩
 ·obtain⟨z,its,n,r,e⟩:=h.ok I.hok
  exact⟨its,r,⟨_,n,e,rfl,rfl,rfl⟩,z⟩
 ·refine⟨its.toList,r,⟨o,n,I.kIn a o hk,hc,hd,by simpa using hs⟩,?_⟩
  have e:=r.length
  simp only[qa] at e
  omega
theorem Inv.tuple(I:Inv X pins σ H s)(h:SqT X.K H a xs):∃its:List Value,Vals xs its/\IsTup s.heap a its.toArray/\xs.length<=sizeLine:=by
 rcases h with h|⟨o,its,n,hk,hc,hs,hz,r⟩
 ·obtain⟨z,its,r,p⟩:=h.ok I.hok
  exact⟨its,r,p,z⟩
 ·refine⟨its.toList,r,⟨o,I.kIn a o hk,hc,n,by simpa using hs⟩,?_⟩
  have e:=r.length
  simp only[qa] at e
  omega
theorem Inv.list_inj(I:Inv X pins σ H s)(h:SqL X.K H a xs)(h':SqL X.K H a ys):xs=ys:=by
 obtain⟨its,r,⟨o,n,e,_,_,d⟩,_⟩:=I.list h
 obtain⟨its',r',⟨o',n',e',_,_,d'⟩,_⟩:=I.list h'
 rw[e] at e';cases e'
 rw[d] at d'
 injection d' with d1 _
 have:its=its':=by simpa using congrArg QD d1
 subst this
 exact r.inj r'
theorem Inv.tuple_inj(I:Inv X pins σ H s)(h:SqT X.K H a xs)(h':SqT X.K H a ys):xs=ys:=by
 obtain⟨its,r,⟨o,e,_,n,d⟩,_⟩:=I.tuple h
 obtain⟨its',r',⟨o',e',_,n',d'⟩,_⟩:=I.tuple h'
 rw[e] at e';cases e'
 rw[d] at d'
 injection d' with d1 _
 have:its=its':=by simpa using congrArg QD d1
 subst this
 exact r.inj r'
end
abbrev Cx.wish(X:Cx)(E:Value->Shared->Prop):Cx:={X with xe:=E}
abbrev Cx.nox(X:Cx):Cx:=X.wish λ_ _=>False
theorem Cx.Ok.wish(ok:X.Ok)(E:Value->Shared->Prop):(X.wish E).Ok:=
 ⟨ok.mod,ok.kind,ok.glob,ok.blt,ok.above,ok.inj,ok.has,ok.cab,ok.hd,ok.frames,ok.stk,ok.exf,ok.bs,ok.bsz,ok.noex,ok.exfs,ok.funs,ok.frf⟩
theorem Cx.Ok.unwish{E:Value->Shared->Prop}(ok:(X.wish E).Ok):X.Ok:=
 ⟨ok.mod,ok.kind,ok.glob,ok.blt,ok.above,ok.inj,ok.has,ok.cab,ok.hd,ok.frames,ok.stk,ok.exf,ok.bs,ok.bsz,ok.noex,ok.exfs,ok.funs,ok.frf⟩
section
variable {E:Value->Shared->Prop}
theorem Inv.wish(I:Inv X pins σ H s)(E:Value->Shared->Prop):Inv (X.wish E) pins σ H s:=⟨I.ok.wish E,I.os,I.bare,I.base,I.loc,I.cell,I.free,I.freeC,I.pin,I.hok,I.len⟩
theorem Inv.unwish(I:Inv (X.wish E) pins σ H s):Inv X pins σ H s:=⟨I.ok.unwish,I.os,I.bare,I.base,I.loc,I.cell,I.free,I.freeC,I.pin,I.hok,I.len⟩
theorem SP.unwish{D:Ends}{f:Flow}(h:SP (X.wish E) pins D f s'):SP X pins D f s':=by
 cases f with
 |next=>obtain⟨σ',H',I,q⟩:=h;exact⟨σ',H',I.unwish,q⟩
 |brk=>obtain⟨σ',H',I,q⟩:=h;exact⟨σ',H',I.unwish,q⟩
 |cont=>obtain⟨σ',H',I,q⟩:=h;exact⟨σ',H',I.unwish,q⟩
 |ret u=>obtain⟨v,σ',H',I,r,q⟩:=h;exact⟨v,σ',H',I.unwish,r,q⟩
theorem PSs.nox{st:List Stmt}{t:TS}(h:PSs X.nox st t):PSs X st t:=λpins s σ H D I hw =>
 vd (h pins s σ H D (I.wish _) hw) (λ_ _ q=>q.unwish) λ_ _ z=>xm z
end
section
variable {rest:List Stmt}{t u:TS}
noncomputable def aLN:TS:=λD σ H=>D.nx σ H
noncomputable def tSeq(t u:TS):TS:=λD σ H=>t {D with nx:=u D} σ H
theorem zZ:PSs X [] aLN:=λ_ _ σ H _ I h=>zf ⟨σ,H,I,h⟩
theorem nN(h1:PS X st t)(h2:PSs X rest u):PSs X (st::rest) (tSeq t u):=by
 intro pins s σ H D I h
 refine lp (thn (h1 pins s σ H {D with nx:=u D} I h) λf s1 q => ?_)
 cases f with
 |next =>
  obtain⟨σ',H',I',q⟩:=q
  exact h2 pins s1 σ' H' D I' q
 |ret v=>exact q
 |brk=>exact q
 |cont=>exact q
theorem sN(h1:PS X st t):PSs X [st] t:=by
 intro pins s σ H D I h
 refine lp (thn (h1 pins s σ H D I h) λf s1 q => ?_)
 cases f with
 |next=>exact zf q
 |ret v=>exact q
 |brk=>exact q
 |cont=>exact q
theorem Inv.quiet(I:Inv X pins σ H s):interactive X.env=false:=by simp[interactive,I.ok.kind]
noncomputable def aLK(te:TE):TS:=λD σ H=>te σ H λ_ H1=>D.nx σ H1
theorem aH5(he:PE X e te)(hs:cn e none pos.line X.env=pure false:=by rfl):PS X (.Expr e pos) (aLK te):=by
 intro pins s σ H D I h
 exact wpAny_Expr_any (thn (he pins s σ H _ I h) λv s1 ⟨x,H1,I1,r1,q1⟩=>⟨σ,H1,I1,q1⟩) I.quiet hs
noncomputable def tRet(te:TE):TS:=λD σ H=>te σ H D.rt
theorem aB1(he:PE X e te):PS X (.Return e.4 pos) (tRet te):=by
 intro pins s σ H D I h
 exact wpAny_Return_some (thn (he pins s σ H _ I h) λv s1 ⟨x,H1,I1,r1,q1⟩=>⟨x,σ,H1,I1,r1,q1⟩)
noncomputable def tIfS(c:TT)(t u:TS):TS:=λD σ H=>c σ H λb H1=>if b=true then t D σ H1 else u D σ H1
theorem aGX{a b:List Stmt}{tc:TT}(hc:PT X c tc)(ha:PSs X a t)(hb:PSs X b u):PS X (.If c a b pos) (tIfS tc t u):=by
 intro pins s σ H D I h
 refine wpAny_If (thn (hc pins s σ H _ I h) λd s1 ⟨H1,I1,q1⟩ => ?_)
 cases d with
 |true=>exact ha pins s1 σ H1 D I1 q1
 |false=>exact hb pins s1 σ H1 D I1 q1
end
abbrev TG:=V->St->Hp->(St->Hp->Prop)->Prop
abbrev TGs:=List V->St->Hp->(St->Hp->Prop)->Prop
noncomputable def PG(X:Cx)(target:Expr)(t:TG):Prop:=
 ∀(pins:List (Addr×Obj)) (s:Shared) (σ:St) (H:Hp) (v:V) (u:Value) (Q:St->Hp->Prop),Inv X pins σ H s->RelV v u->t v σ H Q ->
  kf X.w.7 X.A (assign target X.env u) (λ_ s'=>∃σ' H',Inv X pins σ' H' s'/\Q σ' H') X.xe s
noncomputable def PGs(X:Cx)(ts:List Expr)(t:TGs):Prop:=
 ∀(pins:List (Addr×Obj)) (s:Shared) (σ:St) (H:Hp) (vs:List V) (us:List Value) (Q:St->Hp->Prop),Inv X pins σ H s->Vals vs us->t vs σ H Q ->
  kf X.w.7 X.A (sf ((yt ts X.env).map (·.2)) us) (λ_ s'=>∃σ' H',Inv X pins σ' H' s'/\Q σ' H') X.xe s
abbrev TSet:=V->V->V->Hp->(Hp->Prop)->Prop
noncomputable def PSet(X:Cx)(t:TSet):Prop:=
 ∀(pins:List (Addr×Obj)) (s:Shared) (σ:St) (H:Hp) (o i v:V) (ov iv u:Value) (Q:Hp->Prop),Inv X pins σ H s->RelV o ov->RelV i iv->RelV v u->t o i v H Q ->
  kf X.w.7 X.A (setItem ov iv u) (λ_ s'=>∃H',Inv X pins σ H' s'/\Q H') X.xe s
section
noncomputable def pF(i:Nat):TG:=λv σ H Q=>Q (σ.set i v.4) H
theorem tM(hN:X.N.Nodup)(hi:X.N[i]?=some x)(hx:Loc X.env.scope x)(hf:X.fn x=true\/X.env.scope.names.lookup x=some .local:=by first|exact .inl rfl|exact .inr rfl|assumption):PG X (.Name x pos) (pF i):=by
 intro pins s σ H v u Q I r h
 exact Ky (jJ I hN hi hx r (λs' I'=>⟨_,H,I',h⟩) hf)
noncomputable def gNil:TGs:=λvs σ H Q=>vs=[]/\Q σ H
noncomputable def aLH(t:TG)(u:TGs):TGs:=λvs σ H Q=>∃v r,vs=v::r/\t v σ H λσ' H'=>u r σ' H' Q
theorem aI8:PGs X [] gNil:=by
 intro pins s σ H vs us Q I r h
 obtain⟨e,h⟩:=h
 subst e
 cases r
 exact KA ⟨σ,H,I,h⟩
theorem aEI{t:TG}{u:TGs}(h1:PG X e t)(h2:PGs X es u)(hs:(yt (e::es) X.env).map (·.2)=assign e X.env::(yt es X.env).map (·.2):=by rfl):PGs X (e::es) (aLH t u):=by
 intro pins s σ H vs us Q I r h
 obtain⟨v,vr,e1,h⟩:=h
 subst e1
 cases r with
 |cons r rr =>
  rw[hs]
  refine sj (thn (h1 pins s σ H _ _ _ I r h) λ_ s1 ⟨σ1,H1,I1,q1⟩ => ?_)
  exact h2 pins s1 σ1 H1 _ _ Q I1 rr q1
noncomputable def gTup(K:qb)(n:Nat)(t:TGs):TG:=λv σ H Q=>∃a xs,v = .ref a/\SqT K H a xs/\xs.length=n/\t xs σ H Q
theorem aKS{k:Nat}{t:TGs}(hc:X.calm=true)(h:PGs X es t)(hn:(yt es X.env).length=n:=by rfl)(hst:(yt es X.env).findIdx? (·.1)=none:=by rfl):PG X (.Tuple es k pos) (gTup X.K n t):=by
 intro pins s σ H v u Q I r hw
 obtain⟨a,xs,e1,hq,hl,hw⟩:=hw
 subst e1
 cases r
 obtain⟨its,rv,ht,hz⟩:=I.tuple hq
 refine assign_Tuple_tuple (I.ok.hd hc) ht (by simp[hn,<- hl,rv.length]) hst λh' hx => ?_
 have I1:Inv X pins σ H {s with heap:=h' }:=I.kept (t':=s.toks) λb o e=>hx b o (je (qq e)) e
 exact h pins _ σ H xs _ Q I1 (by simpa using rv) hw
noncomputable def gSub(to ti:TE)(t:TSet):TG:=λv σ H Q=>to σ H λo H1=>ti σ H1 λi H2=>t o i v H2 λH3=>Q σ H3
theorem aJP{i:Expr}{to ti:TE}{t:TSet}(ho:PE X o to)(hi:PE X i ti)(hs:PSet X t)(ha:∀v,assign (.Subscript o i pos) X.env v=(do
   let ov <- mx [v] (eval o X.env)
   let iv <- mx [v,ov] (eval i X.env)
   Jn pos
   mx [v,ov,iv] (setItem ov iv v)
   release [v,ov,iv] []):=by intro _;rfl):PG X (.Subscript o i pos) (gSub to ti t):=by
 intro pins s σ H v u Q I r h
 rw[ha]
 refine qy (Jq (thn (ho pins s σ H _ I h) λov s1 ⟨x,H1,I1,r1,q1⟩ => ?_))
 refine qy (Jq (thn (hi pins s1 σ H1 _ I1 q1) λiv s2 ⟨y,H2,I2,r2,q2⟩ => ?_))
 refine qy (lj (qy (Jq (thn (hs pins s2 σ H2 x y v ov iv u _ I2 r1 r2 r q2) λ_ s3 ⟨H3,I3,q3⟩ => ?_))))
 exact wpAny_release ⟨σ,H3,I3,q3⟩
noncomputable def aA5(te:TE)(g:TG):TS:=λD σ H=>te σ H λx H1=>g x σ H1 D.nx
theorem aKT{g:TG}(he:PE X e te)(hg:PG X tg g)(hs:sd [tg] e pos.line X.env=pure false:=by rfl)(hw:se [tg] e X.env=pure none:=by rfl)(h1:(yt [tg] X.env).map (·.2)=[assign tg X.env]:=by rfl):PS X (.Assign [tg] e pos) (aA5 te g):=by
 intro pins s σ H D I h
 refine wpAny_Assign_stores (thn (he pins s σ H _ I h) λv s1 ⟨x,H1,I1,r1,q1⟩ => ?_) hs hw
 rw[h1]
 exact thn (hg pins s1 σ H1 x v _ I1 r1 q1) λ_ s2 q=>q
theorem aC0(hN:X.N.Nodup)(hi:X.N[i]?=some x)(hx:Loc X.env.scope x)(he:PE X e te)(hs:cn e (.Name x pos').4 pos.line X.env=pure false:=by rfl)(hf:X.fn x=true\/X.env.scope.names.lookup x=some .local:=by first|exact .inl rfl|exact .inr rfl|assumption):
  PS X (.Assign [.Name x pos'] e pos) (aA5 te (pF i)):=by
 intro pins s σ H D I h
 refine Kz (thn (he pins s σ H _ I h) λv s1 ⟨y,H1,I1,r1,q1⟩ => ?_) hs
 exact jJ I1 hN hi hx r1 (λs2 I2=>⟨_,H1,I2,q1⟩) hf
noncomputable def tPar(i j:Nat)(ta:TA):TS:=λD σ H=>ta σ H λvs H1=>∃v w,vs=[v,w]/\D.nx ((σ.set i v.4).set j w.4) H1
theorem aJ9{a:Expr}{ta:TA}{pt:Pos}{kt k2 pt2}(hc:X.calm=true)(hN:X.N.Nodup)(hi:X.N[i]?=some x)(hj:X.N[j]?=some y)(hij:i≠j)(hx:X.env.scope.names.lookup x=some .local)(hy:X.env.scope.names.lookup y=some .local)(ha:PA X [a,b] ta)(hw:se [.Tuple [.Name x px, .Name y py] kt pt] (.Tuple [a,b] k2 pt2) X.env=pure (some [x,y]))(hs:sd [.Tuple [.Name x px, .Name y py] kt pt] (.Tuple [a,b] k2 pt2) pos.line X.env=pure false:=by rfl):
  PS X (.Assign [.Tuple [.Name x px, .Name y py] kt pt] (.Tuple [a,b] k2 pt2) pos) (tPar i j ta):=by
 intro pins s σ H D I h
 rw[exec_Assign_arm]
 refine qy (lj ?_)
 rw[hs]
 refine qy (kq ?_)
 rw[if_neg '*']
 refine qy (Tuple_ (thn (ha _ pins s σ H _ I h) λus s1 ⟨vs,H1,I1,r1,q1⟩ => ?_))
 obtain⟨v,w,e1,q1⟩:=q1
 subst e1
 obtain⟨u1,u2,rfl,rv,rw'⟩:∃u1 u2,us=[u1,u2]/\RelV v u1/\RelV w u2:=by
  cases r1 with
  |cons p q =>
   cases q with
   |cons p' q' =>
    cases q'
    exact⟨_,_,rfl,p,p'⟩
 refine Qd ?_ (by show 2<=sizeLine;decide)
 have I2:Inv X pins σ H1 {s1 with heap:=s1.heap.push {cls := .type "tuple", data := .seq [u1,u2].toArray} }:=I1.kept (t':=s1.toks) λb o e=>qh _ e
 rw[hw]
 refine qy (kq ?_)
 show kf X.w.7 X.A (do rule "assign.swapped-stores"; let items <- unpackItems (.ref s1.heap.objs.size) 2 none;sf [λv=>Jo X.env y v,λv=>Jo X.env x v] items.reverse;pure V0) _ _ _
 refine qy (wpAny_rule (qy (unpackItems_tuple (items := #[u1,u2]) (I.ok.hd hc) (VR s1.heap _) λh' hx' => ?_)))
 have I3:=I2.kept (h':=h') (t':=s1.toks) λb o e=>hx' b o (je (qq e)) e
 show kf _ _ (sf [λv=>Jo X.env y v,λv=>Jo X.env x v] [u2,u1] >>= λ_=>pure V0) _ _ _
 refine qy (sj (VX (jJ I3 hN hj (.inl hy) rw' (λs2 I4 => ?_) (.inr hy))))
 refine sj (VX (jJ I4 hN hi (.inl hx) rv (λs3 I5=>KA (kq ?_)) (.inr hx)))
 rw[List.set_comm _ _ (yj hij)] at I5
 exact⟨_,H1,I5,q1⟩
end
section
noncomputable def aJU(c:TT)(tb:TS):TS:=λD σ H=>∃W:Nat->St->Hp->Prop,(∃m,W m σ H)/\∀m σ H,W m σ H ->
 c σ H λb H1=>if b=true then ∃N:St->Hp->Prop,(∀σ' H',N σ' H'->∃m',m'<m/\W m' σ' H')/\tb {D with nx:=N,ct:=N,bk:=D.nx} σ H1 else D.nx σ H1
theorem aEG{body:List Stmt}{tc:TT}{tb:TS}(hp:JO X.w.7 X.A X.env X.xe)(hc:PT X c tc)(hb:PSs X body tb):PS X (.While c body [] pos) (aJU tc tb):=by
 intro pins s σ H D I h
 obtain⟨W,⟨m0,w0⟩,turn⟩:=h
 refine wpAny_While (codeAny_whileLoop (λn s'=>∃σ' H',Inv X pins σ' H' s'/\W n σ' H') ?_ m0 ⟨σ,H,I,w0⟩)
 rintro n s1 ⟨σ1,H1,I1,w1⟩
 refine ze hp (thn (hc pins s1 σ1 H1 _ I1 (turn n σ1 H1 w1)) λb s2 ⟨H2,I2,q2⟩ => ?_)
 cases b with
 |true =>
  obtain⟨N,hN,q2⟩:=q2
  rw[if_pos rfl]
  refine ze hp (thn (hb pins s2 σ1 H2 _ I2 q2) λf s3 q3 => ?_)
  cases f with
  |next =>
   obtain⟨σ3,H3,I3,n3⟩:=q3
   obtain⟨m',hm,w3⟩:=hN σ3 H3 n3
   exact⟨m',hm,σ3,H3,I3,w3⟩
  |cont =>
   obtain⟨σ3,H3,I3,n3⟩:=q3
   obtain⟨m',hm,w3⟩:=hN σ3 H3 n3
   exact⟨m',hm,σ3,H3,I3,w3⟩
  |brk=>exact q3
  |ret v=>exact q3
 |false =>
  rw[if_neg zBf]
  exact zf ⟨σ1,H2,I2,q2⟩
end
structure It where
 go:Nat->Hp->Prop
 yld:Nat->Hp->V->Hp->Prop
 stop:Nat->Hp->Prop
noncomputable def mI(X:Cx)(pins:List (Addr×Obj))(H:Hp)(b:Addr):Prop:=
 H b=none/\b≠X.env.locals/\b∉X.fs/\(b∈X.ex\/X.s₀.heap.objs.size<=b)/\(∀x c,X.env.cells.lookup x=some c->c≠b)/\∀p∈X.pn++pins,p.1≠b
theorem Inv.fpOk{b:Addr}(I:Inv X pins σ H s)(hb:s.heap.objs.size<=b)(hn:H' b=none):mI X pins H' b:=by
 refine⟨hn,rf (qo I.lt hb),I.nofs hb, .inr (ji I.sz hb),λx c e z => ?_,λp hp z => ?_⟩
 ·obtain⟨v,q⟩:=I.cell x c e
  exact absurd (qo q.lt (by rw[z];exact hb)) (vv _)
 ·exact absurd (qo (qq (I.pin p hp).1) (by rw[z];exact hb)) (vv _)
structure Turn(P:Program)(w:World)(K:qb)(tg:Expr)(J:It)(fp:List Addr)(it:Addr)(tn:Nat->Heap->Prop):Prop where
 mem:it∈fp
 obj:∀i h,tn i h->∀b∈fp,∃o,h.get? b=some o/\∀v,o.data ≠ .cell v
 keep:∀i h h',tn i h->(∀b∈fp,∀o,h.get? b=some o->h'.get? b=some o)->tn i h'
 item:∀(X:Cx),X.prog=P->X.w=w->X.K=K->X.calm=true->∀(i:Nat) (pins:List (Addr×Obj)) (s:Shared) (σ:St) (H:Hp) (E:Value->Shared->Prop),Inv X pins σ H s->(∀b∈fp,mI X pins H b)->tn i s.heap->J.go i H ->
  kf (jx P w) X.A (pyNext (.ref it)) (λr s1=>∃u,r=some u /\
   kf (jx P w) X.A (dz tg (.ref it) u) (λ_ s2=>∃x H',Inv X pins σ H' s2/\RelV x u/\J.yld i H x H'/\tn (i+1) s2.heap/\∀b∈fp,H' b=none) E s1) E s
 done:∀(X:Cx),X.prog=P->X.w=w->X.K=K->X.calm=true->∀(i:Nat) (pins:List (Addr×Obj)) (s:Shared) (σ:St) (H:Hp) (E:Value->Shared->Prop),Inv X pins σ H s->(∀b∈fp,mI X pins H b)->tn i s.heap->J.stop i H ->
  kf (jx P w) X.A (pyNext (.ref it)) (λr s1=>r=none/\Inv X pins σ H s1) E s
 self:∀(A:Around) (i:Nat) (s:Shared) (Q:Value->Shared->Prop) (E:Value->Shared->Prop),tn i s.heap->Q (.ref it) s->kf (jx P w) A (pyIter (.ref it)) Q E s
abbrev TI:=St->Hp->(It->Hp->Prop)->Prop
noncomputable def PIE(X:Cx)(pins:List (Addr×Obj))(σ:St)(tg:Expr)(R:It->Hp->Prop)(itv:Value)(s2:Shared):Prop:=
 ∃(it:Addr) (fp:List Addr) (tn:Nat->Heap->Prop) (J:It) (H':Hp),itv = .ref it/\Inv X pins σ H' s2/\Turn X.prog X.w X.K tg J fp it tn/\tn 0 s2.heap/\(∀b∈fp,mI X pins H' b)/\R J H'
noncomputable def PI(X:Cx)(tg iter:Expr)(wi:TI):Prop:=
 ∀(pins:List (Addr×Obj)) (s:Shared) (σ:St) (H:Hp) (R:It->Hp->Prop),Inv X pins σ H s->wi σ H R ->
  kf X.w.7 X.A (eval iter X.env) (λv s1=>kf X.w.7 X.A (pyIter v) (PIE X pins σ tg R) X.xe s1) X.xe s
theorem rS{M:Model}{E:Value->Shared->Prop}{o:Obj}{n:String}{vs:Array Value}{Q:Unit->Shared->Prop}(ho:s.heap.get? it=some o)(hc:o.cls = .type n)(hd:o.data = .fields vs)(hn:["enumerate", "zip", "dict_itemiterator", "dict_reverseitemiterator", "odict_iterator", "itertools.zip_longest", "itertools.pairwise"].contains n=false)(hQ:Q () s):kf M A (dz tg (.ref it) u) Q E s:=by
  unfold dz
  cases tg <;> first
    |exact kq hQ
    | (cases u <;> first
        |exact kq hQ
        | (refine qy (wpAny_load ho ?_)
           rw[hc,hd]
           show kf M A (if (["enumerate", "zip", "dict_itemiterator", "dict_reverseitemiterator", "odict_iterator", "itertools.zip_longest", "itertools.pairwise"].contains n&&vs[0]?==some (rawInt _))=true then _ else _) Q E s
           rw[if_neg (by intro h;rw[hn,Kj] at h;cases h)]
           exact kq hQ))
noncomputable def Itl(K:qb)(a:Addr):It:=
 ⟨λi H=>∃xs x,SqL K H a xs/\xs[i]?=some x,λi H x H'=>H'=H/\∀xs,SqL K H a xs->xs[i]?=some x,λi H=>∃xs,SqL K H a xs/\xs.length<=i⟩
noncomputable def Itt(K:qb)(a:Addr):It:=
 ⟨λi H=>∃xs x,SqT K H a xs/\xs[i]?=some x,λi H x H'=>H'=H/\∀xs,SqT K H a xs->xs[i]?=some x,λi H=>∃xs,SqT K H a xs/\xs.length<=i⟩
noncomputable def Itr(lo:Int)(n:Nat):It:=⟨λi _=>i<n,λi H x H'=>H'=H/\x = .int (lo+i),λi _=>n<=i⟩
theorem aDN{K:qb}(a it:Addr):Turn P w K tg (Itl K a) [it] it (λi h=>h.IsListIter it a i) where
 mem:=by simp
 obj:=λi h st b hb=>by
  have e:b=it:=by simpa using hb
  subst e
  obtain⟨o,e,c,d⟩:=st
  exact⟨o,e,λv z=>by rw[d] at z;cases z⟩
 keep:=λi h h' st k=>st.at λo e=>k it '$' o e
 item:=by
  intro X hP hw hK hc i pins s σ H E I hf st hg
  subst hP hw hK
  obtain⟨xs,x,hq,hx⟩:=hg
  obtain⟨its,rv,p,hz⟩:=I.list hq
  obtain⟨u,hu,ru⟩:=rv.get hx
  obtain⟨f0,f1,f2,f3,f4,f5⟩:=hf it '$'
  refine wpAny_pyNext_list_item st p.isList (x:=u) (by simpa using hu) λh' st' sb => ?_
  have I1:Inv X pins σ H {s with heap:=h' }:=I.turned (t':=s.toks) (λb o hb e=>(sb.2 b hb).trans e) f0 f1 f3 f4 f5
  obtain⟨o,e,c,d⟩:=id st'
  exact⟨u,rfl,rS (s:={s with heap:=h' }) e c d '*' ⟨x,H,I1,ru,⟨rfl,λys hy=>by rw[I.list_inj hy hq];exact hx⟩,st',λb hb=>(hf b hb).1⟩⟩
 done:=by
  intro X hP hw hK hc i pins s σ H E I hf st hg
  subst hP hw hK
  obtain⟨xs,hq,hx⟩:=hg
  obtain⟨its,rv,p,hz⟩:=I.list hq
  obtain⟨f0,f1,f2,f3,f4,f5⟩:=hf it '$'
  have hl:=rv.length
  exact wpAny_pyNext_list_end (I.ok.hd hc) st p.isList (by simp;omega) λh' eb=>⟨rfl,I.turned (t':=s.toks) (λb o hb e=>eb b o hb e) f0 f1 f3 f4 f5⟩
 self:=λ_ _ _ _ _ st h=>wpAny_pyIter_listiter st h
theorem aBN{K:qb}(a it:Addr):Turn P w K tg (Itt K a) [it] it (λi h=>h.IsTupleIter it a i) where
 mem:=by simp
 obj:=λi h st b hb=>by
  have e:b=it:=by simpa using hb
  subst e
  obtain⟨o,e,c,d⟩:=st
  exact⟨o,e,λv z=>by rw[d] at z;cases z⟩
 keep:=λi h h' st k=>st.at λo e=>k it '$' o e
 item:=by
  intro X hP hw hK hc i pins s σ H E I hf st hg
  subst hP hw hK
  obtain⟨xs,x,hq,hx⟩:=hg
  obtain⟨its,rv,p,hz⟩:=I.tuple hq
  obtain⟨u,hu,ru⟩:=rv.get hx
  obtain⟨f0,f1,f2,f3,f4,f5⟩:=hf it '$'
  refine wpAny_pyNext_tuple_item st (show s.heap.IsTuple a its.toArray from p) (x:=u) (by simpa using hu) λh' st' sb => ?_
  have I1:Inv X pins σ H {s with heap:=h' }:=I.turned (t':=s.toks) (λb o hb e=>(sb.2 b hb).trans e) f0 f1 f3 f4 f5
  obtain⟨o,e,c,d⟩:=id st'
  exact⟨u,rfl,rS (s:={s with heap:=h' }) e c d '*' ⟨x,H,I1,ru,⟨rfl,λys hy=>by rw[I.tuple_inj hy hq];exact hx⟩,st',λb hb=>(hf b hb).1⟩⟩
 done:=by
  intro X hP hw hK hc i pins s σ H E I hf st hg
  subst hP hw hK
  obtain⟨xs,hq,hx⟩:=hg
  obtain⟨its,rv,p,hz⟩:=I.tuple hq
  obtain⟨f0,f1,f2,f3,f4,f5⟩:=hf it '$'
  have hl:=rv.length
  exact wpAny_pyNext_tuple_end (I.ok.hd hc) st (show s.heap.IsTuple a its.toArray from p) (by simp;omega) λh' eb=>⟨rfl,I.turned (t':=s.toks) (λb o hb e=>eb b o hb e) f0 f1 f3 f4 f5⟩
 self:=λ_ _ _ _ _ st h=>wpAny_pyIter_tupleiter st h
theorem aBK{K:qb}(it:Addr)(lo:Int)(n:Nat):Turn P w K tg (Itr lo n) [it] it (λi h=>IsRangeIter h it (lo+(i:Nat)*1) ((n:Int)-(i:Nat)) 1) where
 mem:=by simp
 obj:=λi h st b hb=>by
  have e:b=it:=by simpa using hb
  subst e
  exact⟨_,st,λv z=>by
   have z':Data.fields _=Data.cell v:=z
   cases z'⟩
 keep:=λi h h' st k=>k it '$' _ st
 item:=by
  intro X hP hw hK hc i pins s σ H E I hf st hg
  subst hP hw hK
  obtain⟨f0,f1,f2,f3,f4,f5⟩:=hf it '$'
  have W:=Walks.range (prog:=X.prog) (w:=X.w) (I.ok.hd hc) it lo 1 n
  refine W.item i s _ _ hg st λv h' tk hv st' kk => ?_
  obtain⟨t,rfl⟩:=hv
  have I1:Inv X pins σ H {s with heap:=h',toks:=tk}:=I.turned (λb o hb e=>kk b o (by simpa using hb) e) f0 f1 f3 f4 f5
  refine⟨_,rfl,rS (s:={s with heap:=h',toks:=tk}) (n := "range_iterator") st' rfl rfl '*' ⟨.int (lo+i),H,I1,⟨t,?_⟩,⟨rfl,rfl⟩,st',λb hb=>(hf b hb).1⟩⟩
  rw[Int.mul_one]
 done:=by
  intro X hP hw hK hc i pins s σ H E I hf st hg
  subst hP hw hK
  obtain⟨f0,f1,f2,f3,f4,f5⟩:=hf it '$'
  exact wpAny_pyNext_range_end (I.ok.hd hc) st (by have:n<=i:=hg;omega) λh' eb=>⟨rfl,I.turned (t':=s.toks) (λb o hb e=>eb b o hb e) f0 f1 f3 f4 f5⟩
 self:=λ_ _ _ _ _ st h=>wpAny_pyIter_rangeiter st h
end L2
variable {wi:L2.TI}
namespace L2
open PySem PySem.Spec PyProof.Rows
section
theorem wQ{R:It->Hp->Prop}{E:Value->Shared->Prop}{lo hi:Int}{t u v:Tok}{tk:Nat}(I:Inv X pins σ H s)(h1 : -(2^62)<=lo)(h2:lo<2^62)(h3 : -(2^62)<=hi)(h4:hi<2^62)(q:R (Itr lo (hi-lo).toNat) H):kf X.w.7 X.A (pyIter (.ref s.heap.objs.size)) (PIE X pins σ tg R) E {s with heap:=s.heap.push {cls := .type "range", data := .fields #[.int lo t, .int hi u, .int 1 v]},toks:=tk}:=by
 refine wpAny_pyIter_range (IsRange.new ..) (small_one h1 h2 h3 h4) ?_
 have I1:Inv X pins σ H {s with heap:=s.heap.push {cls := .type "range", data := .fields #[.int lo t, .int hi u, .int 1 v]},toks:=tk}:=I.kept λb o e=>qh _ e
 refine⟨(s.heap.push {cls := .type "range", data := .fields #[.int lo t, .int hi u, .int 1 v]}).objs.size,[(s.heap.push {cls := .type "range", data := .fields #[.int lo t, .int hi u, .int 1 v]}).objs.size],_,_,H,rfl,
  I1.kept (t':=tk) λb o e=>qh _ e,aBK _ lo (hi-lo).toNat,?_,λb hb => ?_,q⟩
 ·have e1:lo+((0:Nat):Int)*1=lo:=by simp
  have e2:(((hi-lo).toNat:Nat):Int)-((0:Nat):Int)=KZ lo hi 1:=by rw[rangeSize_one];split <;> omega
  show IsRangeIter _ _ (lo+((0:Nat):Int)*1) ((((hi-lo).toNat:Nat):Int)-((0:Nat):Int)) 1
  rw[e1,e2]
  exact jd _ rfl
 ·have e:b=(s.heap.push {cls := .type "range", data := .fields #[.int lo t, .int hi u, .int 1 v]}).objs.size:=by simpa using hb
  subst e
  exact I1.fpOk (qj _) (I1.hok.fresh (qj _))
noncomputable def aLW(ta:TA):TI:=λσ H R=>ta σ H λvs H1=>∃j:Int,vs=[.int j] /\ -(2^62)<=j/\j<2^62/\R (Itr 0 j.toNat) H1
noncomputable def aLM(ta:TA):TI:=λσ H R=>ta σ H λvs H1=>∃i j:Int,vs=[.int i, .int j]/\(-(2^62)<=i/\i<2^62 /\ -(2^62)<=j/\j<2^62)/\R (Itr i (j-i).toNat) H1
theorem aDK{a:Expr}{ta:TA}{p:Pos}(hg:Gl X "range")(hm:X.mg "range" = none)(ha:PA X [a] ta)(hs:qp [a] X.env=[(false,eval a X.env)]:=by rfl):PI X tg (.Call (.Name "range" p) [a] [] pos) (aLW ta):=by
 intro pins s σ H R I h
 refine Call_ (o7 I hg hm boot_range (bo (thn (ha pos pins s σ H _ I h) λus s1 ⟨vs,H1,I1,r1,q1⟩ => ?_) hs rfl))
 obtain⟨j,e,q1,q2,q⟩:=q1
 subst e
 cases r1 with
 |cons r rr =>
  cases rr
  obtain⟨t,rfl⟩:=r
  exact call_range_1 (wQ I1 '!' '!' q1 q2 (by simpa using q))
theorem aCX{a:Expr}{ta:TA}{p:Pos}(hg:Gl X "range")(hm:X.mg "range" = none)(ha:PA X [a,b] ta)(hs:qp [a,b] X.env=[(false,eval a X.env),(false,eval b X.env)]:=by rfl)(hs2:qp [b] X.env=[(false,eval b X.env)]:=by rfl):
  PI X tg (.Call (.Name "range" p) [a,b] [] pos) (aLM ta):=by
 intro pins s σ H R I h
 refine Call_ (o7 I hg hm boot_range (bo (thn (ha pos pins s σ H _ I h) λus s1 ⟨vs,H1,I1,r1,q1⟩ => ?_) (by rw[hs,hs2]) (by rw[hs2];rfl)))
 obtain⟨i,j,e,⟨q1,q2,q3,q4⟩,q⟩:=q1
 subst e
 cases r1 with
 |cons r rr =>
  cases rr with
  |cons r' rr =>
   cases rr
   obtain⟨t,rfl⟩:=r
   obtain⟨t',rfl⟩:=r'
   exact call_range_2 (wQ I1 q1 q2 q3 q4 q)
noncomputable def tFor(wi:TI)(g:TG)(tb:TS):TS:=λD σ H=>wi σ H λJ H1=>∃W:Nat->Nat->St->Hp->Prop,(∃m,W 0 m σ H1)/\∀i m σ H,W i m σ H ->
 (J.stop i H/\D.nx σ H)\/(J.go i H/\∃N:St->Hp->Prop,(∀σ' H',N σ' H'->∃m',m'<m/\W (i+1) m' σ' H')/\∀x H',J.yld i H x H'->g x σ H' λσ2 H2=>tb {D with nx:=N,ct:=N,bk:=D.nx} σ2 H2)
noncomputable def m7(fp:List Addr)(h:Heap):List (Addr×Obj):=fp.filterMap λb=>(h.get? b).map λo=>(b,o)
theorem gQ{b:Addr}{o:Obj}(hb:b∈fp)(e:h.get? b=some o):(b,o)∈m7 fp h:=yo.mpr ⟨b,hb,by rw[e];rfl⟩
theorem aCJ{p:Addr×Obj}(hp:p∈m7 fp h):p.1∈fp/\h.get? p.1=some p.2:=by
 obtain⟨b,hb,e⟩:=yo.mp hp
 cases q:h.get? b with
 |none=>rw[q] at e;cases e
 |some o =>
  rw[q] at e
  have e':(b,o)=p:=qw e
  subst e'
  exact⟨hb,q⟩
theorem Inv.pinned(I:Inv X pins σ H s)(hf:∀b∈fp,mI X pins H b)(ho:∀b∈fp,∃o,s.heap.get? b=some o/\∀v,o.data ≠ .cell v):Inv X (pins++m7 fp s.heap) σ H s:=
 I.pins_of λp hp=>(kv.mp hp).elim (λz=>I.pin p (jq _ z)) λz=>by
  obtain⟨hb,e⟩:=aCJ z
  obtain⟨f0,f1,f2,_⟩:=hf p.1 hb
  obtain⟨o,e',d⟩:=ho p.1 hb
  rw[e] at e';cases e'
  exact⟨e,f0,f1,f2,d⟩
theorem Inv.unpinned{pl:List (Addr×Obj)}(I:Inv X (pins++pl) σ H s):Inv X pins σ H s:=I.pins_of λp hp=>I.pin p (jq _ (Jc _ hp))
theorem aLC{body:List Stmt}{g:TG}{tb:TS}(hp:JO X.w.7 X.A X.env X.xe)(hc:X.calm=true)(hi:PI X tg iter wi)(hg:PG X tg g)(hb:PSs X body tb)(hs:∀x,foldedSetIterable iter X.env x=pure x:=by intro _;rfl):PS X (.For tg iter body [] pos) (tFor wi g tb):=by
 intro pins s σ H D I h
 refine wpAny_For (thn (hi pins s σ H _ I h) λv s1 h1=>thn h1 λitv s2 h2 => ?_) hs
 obtain⟨it,fp,tn,J,H2,e,I2,T,st2,f2,W,⟨m0,w0⟩,turn⟩:=h2
 subst e
 -- what stays true of the iterator's objects through the loop
 have stat:∀{H':Hp},(∀b∈fp,H' b=none)->∀b∈fp,mI X pins H' b:=λhn b hb=>⟨hn b hb,(f2 b hb).2⟩
 refine codeAny_forLoop_any (λn s'=>∃i σ' H',Inv X pins σ' H' s'/\tn i s'.heap/\(∀b∈fp,H' b=none)/\W i n σ' H') ?_ m0 ⟨0,σ,H2,I2,st2,λb hb=>(f2 b hb).1,w0⟩
 rintro n s3 ⟨i,σ3,H3,I3,st3,fr3,w3⟩
 rcases turn i n σ3 H3 w3 with ⟨stop,qn⟩|⟨go,N,hN,step⟩
 ·refine ze hp (thn (T.done X rfl rfl rfl hc i pins s3 σ3 H3 X.xe I3 (stat fr3) st3 stop) λr s4 ⟨hr,I4⟩ => ?_)
  subst hr
  exact zf ⟨σ3,H3,I4,qn⟩
 ·refine ze hp (thn (T.item X rfl rfl rfl hc i pins s3 σ3 H3 X.xe I3 (stat fr3) st3 go) λr s4 ⟨u,hr,h4⟩ => ?_)
  subst hr
  refine ze hp (thn h4 λ_ s5 ⟨x,H5,I5,r5,y5,st5,fr5⟩ => ?_)
  have I5':=I5.pinned (stat fr5) (T.obj _ _ st5)
  refine ze hp (thn (hg _ s5 σ3 H5 x u _ I5' r5 (step x H5 y5)) λ_ s6 ⟨σ6,H6,I6,q6⟩ => ?_)
  refine ze hp (thn (hb _ s6 σ6 H6 _ I6 q6) λf s7 q7 => ?_)
  have again:∀{σ7:St}{H7:Hp},Inv X (pins++m7 fp s5.heap) σ7 H7 s7->N σ7 H7->∃m,m<n/\∃i σ' H',Inv X pins σ' H' s7/\tn i s7.heap/\(∀b∈fp,H' b=none)/\W i m σ' H':=λ{σ7 H7} I7 n7=>by
   obtain⟨m',hm,w7⟩:=hN σ7 H7 n7
   refine⟨m',hm,i+1,σ7,H7,I7.unpinned,T.keep _ _ _ st5 λb hb o e=>(I7.pin (b,o) (jq _ (jq _ (gQ hb e)))).1,λb hb => ?_,w7⟩
   obtain⟨o,e,d⟩:=T.obj _ _ st5 b hb
   exact (I7.pin (b,o) (jq _ (jq _ (gQ hb e)))).2.1
  cases f with
  |next=>obtain⟨σ7,H7,I7,n7⟩:=q7;exact again I7 n7
  |cont=>obtain⟨σ7,H7,I7,n7⟩:=q7;exact again I7 n7
  |brk=>obtain⟨σ7,H7,I7,q7⟩:=q7;exact⟨σ7,H7,I7.unpinned,q7⟩
  |ret v=>obtain⟨x7,σ7,H7,I7,r7,q7⟩:=q7;exact⟨x7,σ7,H7,I7.unpinned,r7,q7⟩
end
end L2
namespace L2
open PySem PySem.Spec PyProof.Rows
abbrev R2:=V->V->Hp->VK->Prop
noncomputable def OpR(X:Cx)(f:Value->Value->Sem Value)(r:R2):Prop:=
 ∀(pins:List (Addr×Obj)) (s:Shared) (σ:St) (H:Hp) (x y:V) (v u:Value) (Q:VK),Inv X pins σ H s->RelV x v->RelV y u->r x y H Q ->
  kf X.w.7 X.A (f v u) (EP X pins σ Q) X.xe s
noncomputable def UnR(X:Cx)(f:Value->Sem Value)(r:V->Hp->VK->Prop):Prop:=
 ∀(pins:List (Addr×Obj)) (s:Shared) (σ:St) (H:Hp) (x:V) (v:Value) (Q:VK),Inv X pins σ H s->RelV x v->r x H Q ->
  kf X.w.7 X.A (f v) (EP X pins σ Q) X.xe s
noncomputable def dS(X:Cx)(f:Value)(r:List V->Hp->VK->Prop):Prop:=
 ∀(pins:List (Addr×Obj)) (s:Shared) (σ:St) (H:Hp) (xs:List V) (us:List Value) (Q:VK),Inv X pins σ H s->Vals xs us->r xs H Q ->
  kf X.w.7 X.A (call f us) (EP X pins σ Q) X.xe s
noncomputable def TruR(X:Cx)(r:V->Hp->(Bool->Hp->Prop)->Prop):Prop:=
 ∀(pins:List (Addr×Obj)) (s:Shared) (σ:St) (H:Hp) (x:V) (v:Value) (Q:Bool->Hp->Prop),Inv X pins σ H s->RelV x v->r x H Q ->
  kf X.w.7 X.A (VH v) (TP X pins σ Q) X.xe s
noncomputable def tOp(r:R2)(ta tb:TE):TE:=λσ H Q=>ta σ H λx H1=>tb σ H1 λy H2=>r x y H2 Q
noncomputable def tUn(r:V->Hp->VK->Prop)(ta:TE):TE:=λσ H Q=>ta σ H λx H1=>r x H1 Q
noncomputable def rI(C:Int->Int->Prop)(g:Int->Int->V):R2:=λx y H Q=>∃i j,x = .int i/\y = .int j/\C i j/\Q (g i j) H
noncomputable def rI0(g:Int->Int->V):R2:=λx y H Q=>∃i j,x = .int i/\y = .int j/\Q (g i j) H
noncomputable def rU(g:Int->V):V->Hp->VK->Prop:=λx H Q=>∃i,x = .int i/\Q (g i) H
section
variable {a:Expr}{tb tc:TE}
theorem aFV(ha:PE X a ta)(hb:PE X b tb){R:V->V->Hp->Prop}(I:Inv X pins σ H s)(h:ta σ H λx H1=>tb σ H1 λy H2=>R x y H2){Q:Value->Shared->Prop}{f:Value->Value->Sem Value}(hf:∀v u s2 x y H2,Inv X pins σ H2 s2->RelV x v->RelV y u->R x y H2->kf X.w.7 X.A (f v u) Q X.xe s2):
  kf X.w.7 X.A (eval a X.env) (λv s₁=>kf X.w.7 X.A (eval b X.env) (λu s₂=>kf X.w.7 X.A (f v u) Q X.xe s₂) X.xe s₁) X.xe s:=by
 refine thn (ha pins s σ H _ I h) λv s1 ⟨x,H1,I1,r1,q1⟩ => ?_
 refine thn (hb pins s1 σ H1 _ I1 q1) λu s2 ⟨y,H2,I2,r2,q2⟩ => ?_
 exact hf v u s2 x y H2 I2 r1 r2 q2
theorem aLY{op:Operator}{r:R2}(ho:OpR X (bp op) r)(ha:PE X a ta)(hb:PE X b tb):PE X (.BinOp a op b pos) (tOp r ta tb):=by
 intro pins s σ H Q I h
 exact wpAny_BinOp (aFV ha hb I h λv u s2 x y H2 I2 rx ry q=>ho pins s2 σ H2 x y v u Q I2 rx ry q)
theorem aGW{op:UnaryOp}{r:V->Hp->VK->Prop}(ho:UnR X (unaryOp op) r)(ha:PE X a ta):PE X (.UnaryOp op a pos) (tUn r ta):=by
 intro pins s σ H Q I h
 exact UnaryOp_ (thn (ha pins s σ H _ I h) λv s1 ⟨x,H1,I1,r1,q1⟩=>ho pins s1 σ H1 x v Q I1 r1 q1)
theorem opI{f:Value->Value->Sem Value}{C:Int->Int->Prop}(rule:∀(i j:Int) (t u:Tok) (s:Shared) (Q:Value->Shared->Prop) (E:Value->Shared->Prop),C i j->Q (.int (g i j) s.toks) {s with toks:=s.toks+1}->kf X.w.7 X.A (f (.int i t) (.int j u)) Q E s):
  OpR X f (rI C λi j => .int (g i j)):=by
 intro pins s σ H x y v u Q I rx ry h
 obtain⟨i,j,rfl,rfl,hc,q⟩:=h
 obtain⟨t,rfl⟩:=rx
 obtain⟨t',rfl⟩:=ry
 exact rule i j t t' s _ _ hc ⟨.int (g i j),H,I.tok _,⟨_,rfl⟩,q⟩
theorem opI0{f:Value->Value->Sem Value}(rule:∀(i j:Int) (t u:Tok) (s:Shared) (Q:Value->Shared->Prop) (E:Value->Shared->Prop),Q (.int (g i j) s.toks) {s with toks:=s.toks+1}->kf X.w.7 X.A (f (.int i t) (.int j u)) Q E s):
  OpR X f (rI0 λi j => .int (g i j)):=by
 intro pins s σ H x y v u Q I rx ry h
 obtain⟨i,j,rfl,rfl,q⟩:=h
 obtain⟨t,rfl⟩:=rx
 obtain⟨t',rfl⟩:=ry
 exact rule i j t t' s _ _ ⟨.int (g i j),H,I.tok _,⟨_,rfl⟩,q⟩
theorem aBT{f:Value->Value->Sem Value}{g:Int->Int->Bool}(rule:∀(i j:Int) (t u:Tok) (s:Shared) (Q:Value->Shared->Prop) (E:Value->Shared->Prop),Q (.bool (g i j)) s->kf X.w.7 X.A (f (.int i t) (.int j u)) Q E s):
  OpR X f (rI0 λi j => .bl (g i j)):=by
 intro pins s σ H x y v u Q I rx ry h
 obtain⟨i,j,rfl,rfl,q⟩:=h
 obtain⟨t,rfl⟩:=rx
 obtain⟨t',rfl⟩:=ry
 exact rule i j t t' s _ _ ⟨.bl (g i j),H,I,rfl,q⟩
noncomputable def CDiv(i j:Int):Prop:=0<j/\j<1073741824
noncomputable def CPow(i j:Int):Prop:=0<=j/\j<=1000000/\i.natAbs<2^64
noncomputable def CMul(i j:Int):Prop:=(-(2^64)<i/\i<2^64)\/(-(2^64)<j/\j<2^64)
theorem CMul.ok{i j:Int}(h:CMul i j):IntMulOk i j:=by
 rcases h with ⟨h1,h2⟩|⟨h1,h2⟩
 ·exact .of_left (intBits_le_64 h1 h2)
 ·exact .of_right (intBits_le_64 h1 h2)
theorem bV:OpR X (bp .Add) (rI0 λi j => .int (i+j)):=opI0 λ_ _ _ _ _ _ _ q=>add_int q
theorem eW:OpR X (bp .Sub) (rI0 λi j => .int (i-j)):=opI0 λ_ _ _ _ _ _ _ q=>sub_int q
theorem hU:OpR X (bp .Mult) (rI CMul λi j => .int (i*j)):=opI λ_ _ _ _ _ _ _ hc q=>mul_int q hc.ok
theorem tD:OpR X (bp .FloorDiv) (rI CDiv λi j => .int (i/j)):=opI λi j _ _ _ _ _ hc q=>by
 have h1:(0:Int)<j:=hc.1
 have h2:j<1073741824:=hc.2
 exact floordiv_int '!' (by rw[Int.fdiv_eq_ediv_of_nonneg i '!'];exact q) (.inl (PyProof.noPylong_small '!'))
theorem kZ:OpR X (bp .Mod) (rI (λ_ j=>0<j) λi j => .int (i%j)):=opI λi j _ _ _ _ _ hc q=>by
 have h1:(0:Int)<j:=hc
 exact mod_int' '!' (by rw[Qp i '!'];exact q)
theorem zH:OpR X (bp .Mod) (rI (λ_ j=>j≠0) λi j => .int (i.fmod j)):=opI λ_ _ _ _ _ _ _ hc q=>mod_int' hc q
theorem oW:OpR X (bp .Pow) (rI CPow λi j => .int (i^j.toNat)):=opI λ_ _ _ _ _ _ _ hc q=>pow_int_small hc.1 hc.2.1 hc.2.2 q
theorem unI{f:Value->Sem Value}{g:Int->Int}(rule:∀(i:Int) (t:Tok) (s:Shared) (Q:Value->Shared->Prop) (E:Value->Shared->Prop),Q (.int (g i) s.toks) {s with toks:=s.toks+1}->kf X.w.7 X.A (f (.int i t)) Q E s):
  UnR X f (rU λi => .int (g i)):=by
 intro pins s σ H x v Q I rx h
 obtain⟨i,rfl,q⟩:=h
 obtain⟨t,rfl⟩:=rx
 exact rule i t s _ _ ⟨.int (g i),H,I.tok _,⟨_,rfl⟩,q⟩
theorem mX:UnR X (unaryOp .USub) (rU λi => .int (-i)):=unI λ_ _ _ _ _ q=>neg_int q
end
noncomputable def scal:V->V->Bool
 |.non, .non=>true|.non, .int _=>true|.int _, .non=>true|.non, .bl _=>true|.bl _, .non=>true|.non, .str _=>true|.str _, .non=>true
 |.int _, .int _=>true|.bl _, .bl _=>true|.str _, .str _=>true|.byt _, .byt _=>true
 |.int _, .str _=>true|.str _, .int _=>true|.bl _, .str _=>true|.str _, .bl _=>true
 |_,_=>false
noncomputable def rEq:R2:=λx y H Q=>scal x y=true/\Q (.bl (decide (x=y))) H
noncomputable def rNe:R2:=λx y H Q=>scal x y=true/\Q (.bl (!decide (x=y))) H
theorem zO{i j:Int}:decide (V.int i=V.int j)=(i==j):=by
 rw[xx]
 simp
theorem aCE{i j:Bool}:decide (V.bl i=V.bl j)=(i==j):=by
 rw[xx]
 simp
theorem aAV{i j:Str}:decide (V.str i=V.str j)=(i==j):=by
 rw[xx]
 simp
theorem zF{i j:Array UInt8}:decide (V.byt i=V.byt j)=(i.toList==j.toList):=by
 rw[xx]
 cases i
 cases j
 simp
section
variable {a:Expr}{tb tc:TE}
theorem bC{Q:VK}{k k':Bool}(I:Inv X pins σ H s)(q:Q (.bl k) H)(e:k=k'):EP X pins σ Q (.bool k') s:=by
 subst e
 exact⟨.bl k,H,I,rfl,q⟩
theorem bS:OpR X (xf .Eq) rEq:=by
 intro pins s σ H x y v u Q I rx ry h
 obtain⟨hs,q⟩:=h
 cases x with
 |non =>
  cases rx
  cases y with
  |non=>cases ry;exact Vy (bC I q '$')
  |bl j=>cases ry;exact VA (bC I q '$')
  |int j=>obtain⟨t',rfl⟩:=ry;exact Vz (bC I q '$')
  |str j=>obtain⟨t',rfl⟩:=ry;exact Vx (bC I q '$')
  |_=>exact absurd (show false=true from hs) zBf
 |bl i =>
  cases rx
  cases y with
  |non=>cases ry;exact VC (bC I q '$')
  |bl j=>cases ry;exact eq_bool (bC I q aCE)
  |str j=>obtain⟨t',rfl⟩:=ry;exact KS (bC I q '$')
  |_=>exact absurd (show false=true from hs) zBf
 |int i =>
  obtain⟨t,rfl⟩:=rx
  cases y with
  |non=>cases ry;exact VB (bC I q '$')
  |int j=>obtain⟨t',rfl⟩:=ry;exact eq_int (bC I q zO)
  |str j=>obtain⟨t',rfl⟩:=ry;exact KR (bC I q '$')
  |_=>exact absurd (show false=true from hs) zBf
 |str i =>
  obtain⟨t,rfl⟩:=rx
  cases y with
  |non=>cases ry;exact Vw (bC I q '$')
  |bl j=>cases ry;exact KQ (bC I q '$')
  |int j=>obtain⟨t',rfl⟩:=ry;exact KP (bC I q '$')
  |str j=>obtain⟨t',rfl⟩:=ry;exact eq_str (bC I q aAV)
  |_=>exact absurd (show false=true from hs) zBf
 |byt i =>
  obtain⟨t,rfl⟩:=rx
  cases y with
  |byt j=>obtain⟨t',rfl⟩:=ry;exact PySem.W.eq_bytes (bC I q zF)
  |_=>exact absurd (show false=true from hs) zBf
 |_=>cases y <;> exact absurd (show false=true from hs) zBf
theorem i8:OpR X (xf .NotEq) rNe:=by
 intro pins s σ H x y v u Q I rx ry h
 obtain⟨hs,q⟩:=h
 cases x with
 |non =>
  cases rx
  cases y with
  |non=>cases ry;exact Vr (bC I q '$')
  |bl j=>cases ry;exact Vt (bC I q '$')
  |int j=>obtain⟨t',rfl⟩:=ry;exact Vs (bC I q '$')
  |str j=>obtain⟨t',rfl⟩:=ry;exact Vq (bC I q '$')
  |_=>exact absurd (show false=true from hs) zBf
 |bl i =>
  cases rx
  cases y with
  |non=>cases ry;exact Vv (bC I q '$')
  |bl j=>cases ry;exact ne_bool (bC I q (congrArg not aCE))
  |str j=>obtain⟨t',rfl⟩:=ry;exact KO (bC I q '$')
  |_=>exact absurd (show false=true from hs) zBf
 |int i =>
  obtain⟨t,rfl⟩:=rx
  cases y with
  |non=>cases ry;exact Vu (bC I q '$')
  |int j=>obtain⟨t',rfl⟩:=ry;exact ne_int (bC I q (congrArg not zO))
  |str j=>obtain⟨t',rfl⟩:=ry;exact KN (bC I q '$')
  |_=>exact absurd (show false=true from hs) zBf
 |str i =>
  obtain⟨t,rfl⟩:=rx
  cases y with
  |non=>cases ry;exact Vp (bC I q '$')
  |bl j=>cases ry;exact KM (bC I q '$')
  |int j=>obtain⟨t',rfl⟩:=ry;exact KL (bC I q '$')
  |str j=>obtain⟨t',rfl⟩:=ry;exact ne_str (bC I q (congrArg not aAV))
  |_=>exact absurd (show false=true from hs) zBf
 |byt i =>
  obtain⟨t,rfl⟩:=rx
  cases y with
  |byt j=>obtain⟨t',rfl⟩:=ry;exact PySem.W.ne_bytes (bC I q (congrArg not zF))
  |_=>exact absurd (show false=true from hs) zBf
 |_=>cases y <;> exact absurd (show false=true from hs) zBf
theorem pS:OpR X (xf .Lt) (rI0 λi j => .bl (decide (i<j))):=aBT λ_ _ _ _ _ _ _ q=>lt_int q
theorem aG3:OpR X (xf .LtE) (rI0 λi j => .bl (decide (i<=j))):=aBT λ_ _ _ _ _ _ _ q=>le_int q
theorem n8:OpR X (xf .Gt) (rI0 λi j => .bl (decide (j<i))):=aBT λ_ _ _ _ _ _ _ q=>gt_int q
theorem aGH:OpR X (xf .GtE) (rI0 λi j => .bl (decide (j<=i))):=aBT λ_ _ _ _ _ _ _ q=>ge_int q
theorem jP:OpR X (xf .In) (λx y H Q=>∃i j,x = .str i/\y = .str j/\Q (.bl (!(jz j i 0 j.length 1).isEmpty)) H):=by
 intro pins s σ H x y v u Q I rx ry h
 obtain⟨i,j,rfl,rfl,q⟩:=h
 obtain⟨t,rfl⟩:=rx
 obtain⟨t',rfl⟩:=ry
 exact in_str (bC I q rfl)
theorem rQ:OpR X (xf .Is) (λx y H Q=>y = .non/\Q (.bl (decide (x = .non))) H):=by
 intro pins s σ H x y v u Q I rx ry h
 obtain⟨rfl,q⟩:=h
 cases ry
 refine is_none_gen (bC I q ?_)
 cases x <;> first
  | (cases rx;rfl)
  | (obtain⟨t,rfl⟩:=rx;rfl)
theorem wG:OpR X (xf .NotIn) (λx y H Q=>∃i j,x = .str i/\y = .str j/\Q (.bl (!(!(jz j i 0 j.length 1).isEmpty))) H):=by
 intro pins s σ H x y v u Q I rx ry h
 obtain⟨i,j,rfl,rfl,q⟩:=h
 obtain⟨t,rfl⟩:=rx
 obtain⟨t',rfl⟩:=ry
 exact notIn_str (bC I q rfl)
theorem nomark(b:Expr){op:VG}(h:op ≠ .In:=by decide)(h2:op ≠ .NotIn:=by decide):de op b=false:=by
 have e1:(op==CmpOp.In)=false:=by cases op <;> first|rfl|exact absurd rfl h
 have e2:(op==CmpOp.NotIn)=false:=by cases op <;> first|rfl|exact absurd rfl h2
 cases b <;> simp[de,e1,e2]
theorem aHY{op:VG}{r:R2}(ho:OpR X (xf op) r)(ha:PE X a ta)(hb:PE X b tb)(hm:de op b=false):PE X (.Compare a [op] [b] pos) (tOp r ta tb):=by
 intro pins s σ H Q I h
 exact wpAny_Compare1 (aFV ha hb I h λv u s2 x y H2 I2 rx ry q=>ho pins s2 σ H2 x y v u Q I2 rx ry q) hm
noncomputable def aL2(t:TE):TT:=λσ H Q=>t σ H λx H'=>∃k,x = .bl k/\Q k H'
theorem aH6{op:VG}{r:R2}(ho:OpR X (xf op) r)(ha:PE X a ta)(hb:PE X b tb)(hm:de op b=false):PT X (.Compare a [op] [b] pos) (aL2 (tOp r ta tb)):=by
 intro pins s σ H Q I h
 refine wpAny_isTrue_Compare1 (thn (ha pins s σ H _ I h) λv s1 ⟨x,H1,I1,r1,q1⟩=>thn (hb pins s1 σ H1 _ I1 q1) λu s2 ⟨y,H2,I2,r2,q2⟩ =>
  thn (ho pins s2 σ H2 x y v u _ I2 r1 r2 q2) λc s3 ⟨z,H3,I3,r3,k,e,q3⟩ => ?_) hm
 subst e
 cases r3
 exact wa ⟨H3,I3,q3⟩
noncomputable def aJV(r r':R2)(ta tb tc:TE):TE:=λσ H Q=>ta σ H λx H1=>tb σ H1 λy H2=>r x y H2 λz H3=>∃k,z = .bl k /\
 (if k=true then tc σ H3 λw' H4=>r' y w' H4 Q else Q (.bl false) H3)
theorem aFA{op op':VG}{r r':R2}(ho:OpR X (xf op) r)(ho':OpR X (xf op') r')(ha:PE X a ta)(hb:PE X b tb)(hc:PE X c tc)(hm:lastMarks [op,op'] [b,c]=false:=by with_unfolding_all rfl):PE X (.Compare a [op,op'] [b,c] pos) (aJV r r' ta tb tc):=by
 intro pins s σ H Q I h
 refine Compare_chain (thn (ha pins s σ H _ I h) λv s1 ⟨x,H1,I1,r1,q1⟩=>chain_link (thn (hb pins s1 σ H1 _ I1 q1) λu s2 ⟨y,H2,I2,r2,q2⟩ =>
  thn (ho pins s2 σ H2 x y v u _ I2 r1 r2 q2) λd s3 ⟨z,H3,I3,r3,k,e,q3⟩ => ?_)) hm
 subst e
 cases r3
 refine wa ?_
 cases k with
 |false=>exact ite_ff ⟨.bl false,H3,I3,rfl,q3⟩
 |true=>exact ite_tt (chain_last (thn (hc pins s3 σ H3 _ I3 q3) λw' s4 ⟨z',H4,I4,r4,q4⟩=>ho' pins s4 σ H4 y z' u w' Q I4 r2 r4 q4))
noncomputable def TruV(K:qb)(x:V)(H:Hp)(k:Bool):Prop:=
 match x with
 |.non=>k=false
 |.bl b=>k=b
 |.int i=>k=(i != 0)
 |.str y=>y.length<=sizeLine/\k=((y.length:Int) != 0)
 |.byt y=>y.size<=sizeLine/\k=((y.size:Int) != 0)
 |.ref p=>(∃xs,SqL K H p xs/\k = !xs.isEmpty)\/(∃xs,SqT K H p xs/\k = !xs.isEmpty)\/∃kvs,H p=some (.dK kvs)/\k = !kvs.isEmpty
 |_=>False
theorem aBB{κ:Type}{kvs:List (κ×V)}{vs:List (κ×Value)}(r:KV kvs vs):(!vs.isEmpty) = !kvs.isEmpty:=by
 cases r <;> rfl
theorem rF{xs:List V}(r:Vals xs its):(!its.toArray.isEmpty) = !xs.isEmpty:=by
 cases r <;> simp
theorem line63:(sizeLine:Nat)<2^63:=by rw[Ke];decide
theorem aKO:TruR X (λx H Q=>∃k,TruV X.K x H k/\Q k H):=by
 intro pins s σ H x v Q I rx h
 obtain⟨k,e,q⟩:=h
 have hl:=line63
 have hs:sizeLine=16777216:=Ke
 cases x with
 |non =>
  cases rx
  have e':k=false:=e
  subst e'
  exact truthy_none ⟨H,I,q⟩
 |bl b =>
  cases rx
  have e':k=b:=e
  subst e'
  exact wa ⟨H,I,q⟩
 |int i =>
  obtain⟨t,rfl⟩:=rx
  have e':k=(i != 0):=e
  subst e'
  exact PySem.P.truthy_int ⟨H,I,q⟩
 |str y =>
  obtain⟨t,rfl⟩:=rx
  obtain⟨hy,e'⟩:y.length<=sizeLine/\k=((y.length:Int) != 0):=e
  subst e'
  exact PySem.P.truthy_str '!' ⟨H,I.tok _,q⟩
 |byt y =>
  obtain⟨t,rfl⟩:=rx
  obtain⟨hy,e'⟩:y.size<=sizeLine/\k=((y.size:Int) != 0):=e
  subst e'
  exact PySem.W.truthy_bytes '!' ⟨H,I.tok _,q⟩
 |ref p =>
  cases rx
  have e':(∃xs,SqL X.K H p xs/\k = !xs.isEmpty)\/(∃xs,SqT X.K H p xs/\k = !xs.isEmpty)\/∃kvs,H p=some (.dK kvs)/\k = !kvs.isEmpty:=e
  rcases e' with ⟨xs,hx,e'⟩|⟨xs,hx,e'⟩|⟨kvs,hx,e'⟩
  ·subst e'
   obtain⟨its,r,pl,hz⟩:=I.list hx
   have hlen:=r.length
   exact wpAny_truthy_list pl.isList (by simp only[qc];omega) ⟨H,I.tok _,by rw[rF r];exact q⟩
  ·subst e'
   obtain⟨its,r,pl,hz⟩:=I.tuple hx
   have hlen:=r.length
   exact truthy_tuple pl (by simp only[qc];omega) ⟨H,I.tok _,by rw[rF r];exact q⟩
  ·subst e'
   obtain⟨hz,hS,vs,r,m⟩:kvs.length<=sizeLine/\(p==Jg)=false/\∃vs,KV kvs vs/\s.heap.DictOf (sW X.prog X.w) p vs:=I.hok p _ hx
   have hlen:kvs.length=vs.length:=J3 r
   exact wpAny_truthy_dict hS m '!' ⟨H,I.tok _,by rw[aBB r];exact q⟩
 |_=>exact (show False from e).elim
theorem aE6(ha:PE X a ta)(he:∀whole,isTrue a X.env whole=(do let v <- whole;Jn a.pos;mx [v] (VH v))):
  PT X a (λσ H Q=>ta σ H λx H'=>∃k,TruV X.K x H' k/\Q k H'):=by
 intro pins s σ H Q I h
 exact isTrue_plain (thn (ha pins s σ H _ I h) λv s1 ⟨x,H1,I1,r1,q1⟩=>aKO pins s1 σ H1 x v Q I1 r1 q1) (he _)
theorem bF:OpR X (bp .Add) (λx y H Q=>∃i j,x = .str i/\y = .str j/\i.length+j.length<=sizeLine/\Q (.str (i++j)) H):=by
 intro pins s σ H x y v u Q I rx ry h
 obtain⟨i,j,rfl,rfl,hz,q⟩:=h
 obtain⟨t,rfl⟩:=rx
 obtain⟨t',rfl⟩:=ry
 exact add_str (λt' tk=>⟨.str (i++j),H,I.tok _,⟨_,rfl⟩,q⟩) hz
theorem vals1{x:V}(r:Vals [x] us):∃u,us=[u]/\RelV x u:=by
 cases r with
 |cons r1 r2=>cases r2;exact⟨_,rfl,r1⟩
theorem vals2{x y:V}(r:Vals [x,y] us):∃u w',us=[u,w']/\RelV x u/\RelV y w':=by
 cases r with
 |cons r1 r2 =>
  cases r2 with
  |cons r3 r4=>cases r4;exact⟨_,_,rfl,r1,r3⟩
theorem wS:dS X (.builtin "abs") (λxs H Q=>∃i,xs=[.int i]/\Q (.int (if i<0 then -i else i)) H):=by
 intro pins s σ H xs us Q I r h
 obtain⟨i,rfl,q⟩:=h
 obtain⟨u,rfl,t,rfl⟩:=vals1 r
 exact call_abs_int λu tk=>⟨.int (if i<0 then -i else i),H,I.tok _,⟨_,rfl⟩,q⟩
theorem lN(hc:X.calm=true):dS X (.builtin "max") (λxs H Q=>∃i j,xs=[.int i, .int j]/\Q (.int (if j>i then j else i)) H):=by
 intro pins s σ H xs us Q I r h
 obtain⟨i,j,rfl,q⟩:=h
 obtain⟨u,w',rfl,⟨t,rfl⟩,⟨t',rfl⟩⟩:=vals2 r
 refine max_two_ints (I.ok.hd hc) λh' tk k=>⟨_,H,I.kept k,?_,q⟩
 by_cases hj:j>i
 ·rw[if_pos hj,if_pos hj];exact⟨_,rfl⟩
 ·rw[if_neg hj,if_neg hj];exact⟨_,rfl⟩
theorem aCZ(hc:X.calm=true):dS X (.builtin "min") (λxs H Q=>∃i j,xs=[.int i, .int j]/\Q (.int (if j<i then j else i)) H):=by
 intro pins s σ H xs us Q I r h
 obtain⟨i,j,rfl,q⟩:=h
 obtain⟨u,w',rfl,⟨t,rfl⟩,⟨t',rfl⟩⟩:=vals2 r
 refine min_two_ints (I.ok.hd hc) λh' tk k=>⟨_,H,I.kept k,?_,q⟩
 by_cases hj:j<i
 ·rw[if_pos hj,if_pos hj];exact⟨_,rfl⟩
 ·rw[if_neg hj,if_neg hj];exact⟨_,rfl⟩
theorem lP:dS X (.type "int") (λxs H Q=>(∃i,xs=[.int i]/\Q (.int i) H)\/∃k,xs=[.bl k]/\Q (.int (if k then 1 else 0)) H):=by
 intro pins s σ H xs us Q I r h
 rcases h with ⟨i,rfl,q⟩|⟨k,rfl,q⟩
 ·obtain⟨u,rfl,t,rfl⟩:=vals1 r
  exact call_int_int ⟨.int i,H,I,⟨_,rfl⟩,q⟩
 ·obtain⟨u,rfl,r1⟩:=vals1 r
  cases r1
  exact call_int_bool ⟨.int (if k then 1 else 0),H,I.tok _,⟨_,rfl⟩,q⟩
noncomputable def aE2(K:qb)(x:V)(H:Hp)(n:Nat):Prop:=
 match x with
 |.str y=>y.length<=sizeLine/\n=y.length
 |.byt y=>y.size<=sizeLine/\n=y.size
 |.ref p=>(∃xs,SqL K H p xs/\n=xs.length)\/∃xs,SqT K H p xs/\n=xs.length
 |_=>False
theorem a6:dS X (.builtin "len") (λxs H Q=>∃x n,xs=[x]/\aE2 X.K x H n/\Q (.int n) H):=by
 intro pins s σ H xs us Q I r h
 obtain⟨x,n,rfl,e,q⟩:=h
 obtain⟨u,rfl,rx⟩:=vals1 r
 have hl:=line63
 have hs:sizeLine=16777216:=Ke
 cases x with
 |str y =>
  obtain⟨t,rfl⟩:=rx
  obtain⟨hy,e'⟩:y.length<=sizeLine/\n=y.length:=e
  subst e'
  exact len_str '!' ⟨.int _,H,I.tok _,⟨_,rfl⟩,q⟩
 |byt y =>
  obtain⟨t,rfl⟩:=rx
  obtain⟨hy,e'⟩:y.size<=sizeLine/\n=y.size:=e
  subst e'
  exact PySem.W.len_bytes '!' ⟨.int _,H,I.tok _,⟨_,rfl⟩,q⟩
 |ref p =>
  cases rx
  have e':(∃xs,SqL X.K H p xs/\n=xs.length)\/∃xs,SqT X.K H p xs/\n=xs.length:=e
  rcases e' with ⟨xs,hx,e'⟩|⟨xs,hx,e'⟩
  ·subst e'
   obtain⟨its,r',pl,hz⟩:=I.list hx
   have hlen:=r'.length
   exact Calls.call_len_list pl.isList (by simp only[qc];omega) ⟨.int xs.length,H,I.tok _,⟨_,by simp only[qc];rw[hlen]⟩,q⟩
  ·subst e'
   obtain⟨its,r',pl,hz⟩:=I.tuple hx
   have hlen:=r'.length
   exact len_tuple pl (by simp only[qc];omega) ⟨.int xs.length,H,I.tok _,⟨_,by simp only[qc];rw[hlen]⟩,q⟩
 |_=>exact (show False from e).elim
end
end L2
namespace L2
open PySem PySem.Spec PyProof.Rows
structure ObjM(h:Heap)(x dx C:Addr)(mA:Str->Option Value):Prop where
 obj:h.get? x=some (Jy C dx)
 ns:h.Ns1 dx mA
 ne:dx≠x
section
variable {E:Value->Shared->Prop}{K:qb}{x:Addr}{mA:Str->Option Value}{v:Value}
end
section
variable {fs fs':List (Str×V)}
end
structure Cls(K:qb)(C:Addr):Prop where
 pg:PySem.W.plainGet K C ja=true
 hd:PySem.W.hasDictIn K C=true
 po:PySem.W.plainOver K C=true
 sa:ya K (.ref C) "__setattr__" = some (.builtin "object.__setattr__").4
structure Con(K:qb)(C:Addr)(f:Str)(v:V)(u:Value):Prop where
 at_:ya K (.ref C) f=some u.4
 rel:RelV v u
 get:Q5 K u "__get__" = some none
 cp:PySem.W.copiedNames.contains f=false
structure Meth(K:qb)(C:Addr)(m:Str)(f:Addr):Prop where
 at_:ya K (.ref C) m=some (.ref f).4
 fn:J1 K (.ref f)=true
 kp:wm K (.ref f)=true
section
variable {fs:List (Str×V)}{f:Str}{E:Value->Shared->Prop}
end
section
variable {value:Expr}{f:Str}{tpos:Pos}{tv:TE}
end
section
variable {E:Value->Shared->Prop}{Q:Value->Shared->Prop}{c:Value}{b:Bool}
inductive TyOf(K:qb)(H:Hp):V->Value->Prop where
 |non:TyOf K H .non (.type "NoneType")
 |bl (x:Bool):TyOf K H (.bl x) (.type "bool")
 |int (i:Int):TyOf K H (.int i) (.type "int")
 |str (x:Str):TyOf K H (.str x) (.type "str")
 |flt (x:UInt64):TyOf K H (.flt x) (.type "float")
 |lst {a:Addr}{xs:List V} (e:H a=some (.lst xs)):TyOf K H (.ref a) (.type "list")
 |frz {a:Addr}{o:Obj}{xs:List V} (e:H a=some (.frz o (.lst xs))):TyOf K H (.ref a) (.type "list")
 |tup {a:Addr}{xs:List V} (e:H a=some (.tup xs)):TyOf K H (.ref a) (.type "tuple")
 |dK {a:Addr}{kvs:List (Key×V)} (e:H a=some (.dK kvs)):TyOf K H (.ref a) (.type "dict")
 |dT {a:Addr}{kvs:List (List Key×V)} (e:H a=some (.dT kvs)):TyOf K H (.ref a) (.type "dict")
 |ins {a C dx:Addr}{fs:List (Str×V)} (e:H a=some (.ins C dx fs)) (cl:Cls K C) (ha:ya K (.ref C) "__class__" = some (.builtin "object.__class__").4)
   (hn:Q5 K (.builtin "object.__class__") "__get__" = some (.builtin "getset_descriptor.__get__").4) (htk:PySem.W.takesIn K (.builtin "object.__class__")=some true)
   (hm:Qe K C (.type "object")=some true):TyOf K H (.ref a) (.ref C)
end
end L2
namespace L2
open PySem PySem.Spec PyProof.Rows
structure Room(k:Nat)(A:Around):Prop where
 hd:A.handled=none
 dp:A.depth+3*k+5<recursionLimit
 un:A.units+16*k+200<cLine
 gd:A.guards=some []
theorem Room.mono{k:Nat}(r:Room k A)(h:j<=k):Room j A:=⟨r.hd,by have:=r.dp;omega,by have:=r.un;omega,r.gd⟩
theorem Room.deeper{k:Nat}(r:Room (k+1) A)(env:Env):Room k (A.deeper env):=
 ⟨r.hd,by have:=r.dp;show A.depth+1+3*k+5<_;omega,by have:=r.un;show A.units+3+16*k+200<_;omega,r.gd⟩
theorem Room.depth{k:Nat}(r:Room k A):A.depth<recursionLimit:=by have:=r.dp;omega
theorem Room.units{k:Nat}(r:Room k A):A.units+64<cLine:=by have:=r.un;omega
noncomputable def tNil:TA:=λ_ H Q=>Q [] H
noncomputable def aL6(ta:TE)(tr:TA):TA:=λσ H Q=>ta σ H λx H1=>tr σ H1 λxs H2=>Q (x::xs) H2
section
variable {t:TA}
theorem lJ:PA X [] tNil:=λ_ _ _ _ H Q I h=>JF ⟨[],H,I, .nil,h⟩
theorem fM(ha:PE X e te)(hr:PA X es t)(hs:qp (e::es) X.env=(false,eval e X.env)::qp es X.env:=by rfl):PA X (e::es) (aL6 te t):=by
 intro pos pins s σ H Q I h
 rw[hs]
 show kf _ _ (VJ ((false,eval e X.env)::x9 pos (qp es X.env))) _ _ s
 refine Jm (thn (ha pins s σ H _ I h) λu s1 ⟨x,H1,I1,r1,q1⟩ => ?_)
 exact thn (hr pos pins s1 σ H1 _ I1 q1) λus s2 ⟨xs,H2,I2,r2,q2⟩=>⟨x::xs,H2,I2, .cons r1 r2,q2⟩
noncomputable def tTup(t:TA):TE:=λσ H Q=>t σ H λxs H1=>xs.length<=sizeLine/\∀p,H1 p=none->Q (.ref p) (upd H1 p (.tup xs))
noncomputable def tLst(t:TA):TE:=λσ H Q=>t σ H λxs H1=>xs.length<=sizeLine/\∀p,H1 p=none->Q (.ref p) (upd H1 p (.lst xs))
theorem vL{x1}(h:PA X es t):PE X (.Tuple es x1 pos) (tTup t):=by
 intro pins s σ H Q I hq
 refine wpAny_Tuple_spliced (thn (h pos pins s σ H _ I hq) λus s1 ⟨xs,H1,I1,r,z,q⟩=>⟨by rw[<- r.length];exact z,?_⟩)
 have hf:H1 s1.heap.objs.size=none:=I1.hok.fresh (qj _)
 refine⟨.ref s1.heap.objs.size,upd H1 s1.heap.objs.size (.tup xs),I1.laid (t':=s1.toks) (λb u e=>qh _ e) (qj _) ?_,rfl,q _ hf⟩
 exact⟨z,us,r,⟨_,jd _ rfl,rfl,_,rfl⟩⟩
theorem aC1(h:PA X es t):PE X (.List es pos) (tLst t):=by
 intro pins s σ H Q I hq
 refine wpAny_List_spliced (thn (h pos pins s σ H _ I hq) λus s1 ⟨xs,H1,I1,r,z,q⟩=>⟨by rw[<- r.length];exact z,?_⟩)
 have hf:H1 s1.heap.objs.size=none:=I1.hok.fresh (qj _)
 refine⟨.ref s1.heap.objs.size,upd H1 s1.heap.objs.size (.lst xs),I1.laid (t':=s1.toks) (λb u e=>qh _ e) (qj _) ?_,rfl,q _ hf⟩
 exact⟨z,us,0,r,jd _ rfl⟩
end
abbrev Sp:=List V->Hp->VK->XK->Prop
abbrev CXT:=List Env->Hp->Shared->XK->Value->Shared->Prop
structure Env0(P:Program)(w:World)(K:qb)(mg:Str->Option Value)(base:Heap)(A:Around)(outer:List Env)(s:Shared)(H:Hp):Prop where
 frames:A.frames=some outer
 mod:Mod K mg base
 bs:∀b o,base.get? b=some o->s.heap.get? b=some o/\H b=none
 bsz:base.objs.size<=s.heap.objs.size
 funs:s.heap.FunFrames base outer
 frf:∀b∈frs outer,H b=none
 hok:HOk P w H s.heap
 bare:lh s.gens
noncomputable def CE(outer:List Env)(P:Program)(w:World)(H:Hp)(s:Shared)(Q:VK)(u:Value)(s':Shared):Prop:=
 ∃v H',s'.os=s.os/\lh s'.gens/\Un (frs outer) [] H H' s.heap s'.heap/\HOk P w H' s'.heap/\RelV v u/\Q v H'
noncomputable def CR(CX:CXT)(outer:List Env)(P:Program)(w:World)(H:Hp)(s:Shared)(Q:VK)(E:XK)(r:VI)(s':Shared):Prop:=
 match r with
 |.ok (.ret u)=>CE outer P w H s Q u s'
 |.ok _=>False
 |.error e=>CX outer H s E e s'
structure FnOk(P:Program)(w:World)(K:qb)(mg:Str->Option Value)(base:Heap)(CX:CXT)(k:Nat)(f:Addr)(fd:FuncData)(ps:List Str)(sp:Sp):Prop where
 len:∀vs H Q E,sp vs H Q E->vs.length=ps.length
 run:∀(A:Around) (outer:List Env) (s:Shared) (H:Hp) (args:Args) (us:List Value) (vs:List V) (Q:VK) (E:XK),Room k A->Env0 P w K mg base A outer s H->BindsTo s fd args (ps.zip us)->Vals vs us->sp vs H Q E ->
  fy (jx P w) A (.call (.ref f) args) (CR CX outer P w H s Q E) s
section
theorem Inv.env0(I:Inv X pins σ H s):Env0 X.prog X.w X.K X.mg X.base X.A X.stack s H:=
 ⟨I.ok.frames,I.ok.mod,I.bs,ji I.ok.bsz I.sz,I.stack,I.stkFree,I.hok,I.bare⟩
theorem Inv.after{Q:VK}(I:Inv X pins σ H s)(h:CE X.stack X.prog X.w H s Q u s'):EP X pins σ Q u s':=by
 obtain⟨v,H',os,bare,un,hok,r,q⟩:=h
 obtain⟨hh,g,d,t,os'⟩:=s'
 obtain rfl:os'=s.os:=os
 exact⟨v,H',I.call (h':=hh) (g':=g) (d':=d) (t':=t) (ch:=[]) un hok bare (λb z=>absurd z '$'),r,q⟩
end
noncomputable def aGY(sp:Sp)(dvs:List V)(E:XK)(t:TA):TE:=λσ H Q=>t σ H λvs H1=>sp (vs++dvs) H1 Q E
noncomputable def Binds(K:qb)(fd:FuncData)(ps:List Str)(ds:List Value):Prop:=
 ∀(s:Shared) (us:List Value),K.In s.heap->(us++ds).length=ps.length->BindsTo s fd ⟨us,[]⟩ (ps.zip (us++ds))
theorem Binds.all{K:qb}{ps:List Str}(h:∀us:List Value,us.length=ps.length->Kk fd ⟨us,[]⟩=pure (ps.zip us)):Binds K fd ps []:=λs us _ hl=>by
 rw[w8] at hl ⊢
 exact .of_eq (h us hl)
noncomputable def Passes(CX:CXT)(X:Cx)(E:XK):Prop:=∀(pins:List (Addr×Obj)) (σ:St) (H:Hp) (s:Shared) (e:Value) (s':Shared),Inv X pins σ H s->CX X.stack H s E e s'->X.xe e s'
section
variable {CX:CXT}{k:Nat}{ps:List Str}{sp:Sp}{dvs:List V}{ds:List Value}{E:XK}{m:Str}{p:Pos}{t:TA}
theorem aDT{Q:VK}{vs:List V}(F:FnOk X.prog X.w X.K X.mg X.base CX k f fd ps sp)(hr:Room k X.A)(hb:Binds X.K fd ps ds)(hd:Vals dvs ds)(hx:Passes CX X E)(I:Inv X pins σ H s)(r:Vals vs us)(h:sp (vs++dvs) H Q E):kf X.w.7 X.A (call (.ref f) us) (EP X pins σ Q) X.xe s:=by
 have r2:Vals (vs++dvs) (us++ds):=r.append hd
 have hl:(us++ds).length=ps.length:=by rw[<- r2.length];exact F.len _ _ _ _ h
 refine wpAny_call (Qj (F.run X.A X.stack s H ⟨us,[]⟩ (us++ds) (vs++dvs) Q E hr I.env0 (hb s us I.kIn hl) r2 h) λr s' hq => ?_)
 cases r with
 |error e=>exact hx pins σ H s e s' I hq
 |ok fl =>
  cases fl with
  |ret u=>exact I.after hq
  |next=>exact xm hq
  |brk=>exact xm hq
  |cont=>exact xm hq
theorem zA(F:FnOk X.prog X.w X.K X.mg X.base CX k f fd ps sp)(hr:Room k X.A)(hg:Gl X x)(hm:X.mg x=some (.ref f))(hk:wm X.K (.ref f)=true)(hb:Binds X.K fd ps ds)(hd:Vals dvs ds)(hx:Passes CX X E)(ha:PA X (e::es) t)(hdb:(x==("__debug__" : Str))=false:=by decide)(he:qp (e::es) X.env=(false,eval e X.env)::qp es X.env:=by rfl)(hpl:(x9 pos (qp es X.env)).any (·.1)=false:=by rfl):
  PE X (.Call (.Name x p) (e::es) [] pos) (aGY sp dvs E t):=by
 intro pins s σ H Q I h
 refine bq (kL I hg hm ?_ hdb)
 refine md (h₀:=X.base) I.ok.mod.kin hk (thn (ha pos pins s σ H _ I h) λus s1 ⟨vs,H1,I1,r,q⟩=>⟨I1.kIn,?_⟩) he hpl
 exact aDT F hr hb hd hx I1 r q
structure Mk(K:qb)(C f:Addr):Prop where
 makes:PySem.W.makesIn K C=true
 init:ya K (.ref C) "__init__" = some (.ref f).4
 fn:J1 K (.ref f)=true
 kp:wm K (.ref C)=true
end
section
variable {CX:CXT}{k:Nat}{ps ks:List Str}{sp:Sp}{E:XK}{m:Str}{p kpos:Pos}{kws:List Kd}{t tk:TA}{nm:Option Str}
structure KBinds(K:qb)(fd:FuncData)(ps ks:List Str)(g:List Value->List Value->List Value)(gV:List V->List V->List V):Prop where
 to:∀(s:Shared) (us ws:List Value),K.In s.heap->(g us ws).length=ps.length->BindsTo s fd ⟨us,ks.zip ws⟩ (ps.zip (g us ws))
 rel:∀{vs:List V}{us:List Value}{zs:List V}{ws:List Value},Vals vs us->Vals zs ws->Vals (gV vs zs) (g us ws)
variable {g:List Value->List Value->List Value}{gV:List V->List V->List V}
end
structure FnScope(N P:List Str)(sc:Scope):Prop where
 kind:sc.kind = .function
 co:sc.isCoroutine=false
 gen:sc.isGenerator=false
 nd:N.Nodup
 pre:N.take P.length=P
 par:∀x∈P,sc.names.lookup x=some .local\/sc.names.lookup x=some .cell
 nofree:∀y∈sc.names,y.2 ≠ .free
theorem uD{kindOf:Str->Option NameKind}:∀{binds:List (Str×Value)}{m:Str->Option Value},(∀v,(x,v)∉binds)->Kt kindOf binds m x=m x
 |[],_,_=>rfl
 | (n,v)::r,m,h=>by
  unfold Kt
  rw[uD λw hw=>h w (qm _ hw)]
  split
  ·have:x≠n:=by rintro rfl;exact h v jh
   simp[this]
  ·rfl
theorem uE{kindOf:Str->Option NameKind}:∀{binds:List (Str×Value)}{m:Str->Option Value},(∀v,(x,v)∉binds)->Ku kindOf binds m x=m x
 |[],_,_=>rfl
 | (n,v)::r,m,h=>by
  unfold Ku
  rw[uE λw hw=>h w (qm _ hw)]
  split
  ·rfl
  ·have:x≠n:=by rintro rfl;exact h v jh
   simp[this]
theorem uV{kindOf:Str->Option NameKind}{v:Value}:∀{P:List Str}{vs:List Value}{i:Nat}{m:Str->Option Value},P.Nodup->P[i]?=some x->vs[i]?=some v->kindOf x=some .local ->
  Kt kindOf (P.zip vs) m x=some v
 |[],_,_,_,_,h,_,_=>by simp at h
 |_::_,[],_,_,_,_,h,_=>by simp at h
 |p::P,w::vs,0,m,nd,h1,h2,hk=>by
  simp at h1 h2;subst h1;subst h2
  show Kt kindOf ((p,w)::P.zip vs) m p=_
  unfold Kt
  rw[uD λv hv=>(gv.mp nd).1 (sv hv).1,if_pos hk]
  simp
 |p::P,w::vs,i+1,m,nd,h1,h2,hk=>by
  show Kt kindOf ((p,w)::P.zip vs) m x=_
  unfold Kt
  exact uV (i:=i) (gv.mp nd).2 (by simpa using h1) (by simpa using h2) hk
theorem tW{kindOf:Str->Option NameKind}{v:Value}:∀{P:List Str}{vs:List Value}{i:Nat}{m:Str->Option Value},P.Nodup->P[i]?=some x->vs[i]?=some v->kindOf x≠some .local ->
  Ku kindOf (P.zip vs) m x=some v
 |[],_,_,_,_,h,_,_=>by simp at h
 |_::_,[],_,_,_,_,h,_=>by simp at h
 |p::P,w::vs,0,m,nd,h1,h2,hk=>by
  simp at h1 h2;subst h1;subst h2
  show Ku kindOf ((p,w)::P.zip vs) m p=_
  unfold Ku
  rw[uE λv hv=>(gv.mp nd).1 (sv hv).1,if_neg hk]
  simp
 |p::P,w::vs,i+1,m,nd,h1,h2,hk=>by
  show Ku kindOf ((p,w)::P.zip vs) m x=_
  unfold Ku
  exact tW (i:=i) (gv.mp nd).2 (by simpa using h1) (by simpa using h2) hk
noncomputable def start(N:List Str)(vs:List V):St:=vs.map some++jy (N.length-vs.length) none
noncomputable def fC(CX:CXT)(P:Program)(w:World)(K:qb)(mg:Str->Option Value)(base:Heap)(N:List Str)(qual:Str)(scope:Scope)(f:Addr)(cd:Value)(A:Around)(outer:List Env)(s:Shared)(H:Hp)(E:XK):Cx where
 prog:=P
 w:=w
 K:=K
 mg:=mg
 base:=base
 A:=A.deeper (xt qual scope s.heap.objs.size f cd)
 N:=N
 s₀:=s
 H₀:=H
 env:=xt qual scope s.heap.objs.size f cd
 outer:=outer
 stack:=xt qual scope s.heap.objs.size f cd::outer
 ex:=[]
 calm:=true
 fn:=λ_=>true
 pn:=[]
 xe:=λe s'=>kf (jx P w) (A.deeper (xt qual scope s.heap.objs.size f cd)) (VL (xt qual scope s.heap.objs.size f cd) e) (λ_ s''=>CX outer H s E e s'') (λe' s''=>CX outer H s E e' s'') s'
theorem vS{sc:Scope}(h:sc.names.lookup x=some .cell):∃c,(cellsFrom n sc.names []).lookup x=some c:=by
 have q:=vk sc.names n [] (.inl h)
 exact kr.mp q
theorem aD4{CX:CXT}{K:qb}{ps:List Str}{s1:Shared}{E:XK}{vs:List V}(S:FnScope N ps scope)(hd:A.handled=none)(e0:Env0 P w K mg base A outer s H)(hl:vs.length=ps.length)(r:Vals vs us)(x:InCallC s s.heap.objs.size (Kt (xt qual scope s.heap.objs.size f cd).kindOf (ps.zip us) λ_=>none) (cellsFrom (s.heap.objs.size+1) scope.names []) (Ku (xt qual scope s.heap.objs.size f cd).kindOf (ps.zip us) λ_=>none) s1):
  Inv (fC CX P w K mg base N qual scope f cd A outer s H E) [] (start N vs) H s1:=by
 have hpl:ps.length<=N.length:=by have:=congrArg xu S.pre;rw[xn] at this;omega
 obtain⟨h1,tk,rfl,hk⟩:=x.done
 have noA:∀b:Addr,b∉(fC CX P w K mg base N qual scope f cd A outer s H E).ex:=λb z=>absurd (show b∈([]:List Addr) from z) '$'
 refine⟨⟨e0.mod,S.kind,rfl,rfl,qj _,λy z c h1 h2 => ?_,λy hy => ?_,λy c _ h => ?_,λ_=>hd,Around.frames_deeper e0.frames, .inr ⟨rfl,rfl⟩,λb z=>absurd z (noA b),e0.bs,e0.bsz,λb _ _=>noA b,λb z=>absurd z (noA b),e0.funs,e0.frf⟩,
  rfl,e0.bare,Un.kept hk,⟨_,x.toInCall.ns,λi y v h1 h2 h3 => ?_⟩,λy c h=>⟨_,x.cell y c h⟩,e0.hok.fresh (qj _),λy c h => ?_,λp hp=>absurd (show p∈([]:List (Addr×Obj)) from hp) '$',e0.hok.kept hk,?_⟩
 ·exact JQ x.apart (jr h1) (jr h2)
 ·have hy:scope.names.lookup y=some .cell\/scope.names.lookup y=some .free:=hy
  rcases hy with hy|hy
  ·exact vS hy
  ·exact absurd rfl (S.nofree _ (jr hy))
 ·exact Q0 (x.above y c (jr h))
 ·have hi:i<vs.length:=by
   unfold start at h2
   by_cases hi:i<vs.length
   ·exact hi
   ·rw[wg (by simpa using hi)] at h2
    rw[zw] at h2
    split at h2 <;> cases h2
  have ha:vs[i]?=some v:=by
   unfold start at h2
   rw[vt (by simpa using hi),qk] at h2
   cases e:vs[i]? with
   |none=>rw[e] at h2;cases h2
   |some a=>rw[e] at h2;cases h2;rfl
  obtain⟨u,hu,rv⟩:=r.get ha
  have hp:ps[i]?=some y:=by
   rw[<- S.pre,List.getElem?_take_of_lt '!'];exact h1
  have ndP:ps.Nodup:=by rw[<- S.pre];exact S.nd.sublist (List.take_sublist _ _)
  refine⟨u,rv,?_⟩
  rcases S.par y (zMo hp) with k|k
  ·exact .inl ⟨k,uV ndP hp hu k⟩
  ·obtain⟨c,e⟩:=vS (n:=s.heap.objs.size+1) k
   refine .inr ⟨.inl k,c,e,?_⟩
   have q:=x.cell y c e
   rw[tW ndP hp hu (by show scope.names.lookup y≠_;rw[k];decide)] at q
   exact q
 ·exact e0.hok.fresh (Q0 (x.above y c (jr h)))
 ·unfold start
  show _=N.length
  rw[ql,zLm,br]
  omega
theorem aG1{CX:CXT}{K:qb}{k:Nat}{params:Arguments}{body:List Stmt}{dV kV doc pm cdv ct oc:Value}{an:Option Addr}{osl:Array (Option Value)}{ps:List Str}{sp:Sp}(lk:K.lookup f=some ⟨oc,od, .func (xl name qual params body scope dV kV doc pm an cdv ct),osl⟩)(hcd:sk K cdv qual=true)(S:FnScope N ps scope)(len:∀vs H Q E,sp vs H Q E->vs.length=ps.length)(hbody:∀(A:Around) (outer:List Env) (s:Shared) (H:Hp) (vs:List V) (Q:VK) (E:XK),Room k (A.deeper (xt qual scope s.heap.objs.size f cdv))->sp vs H Q E ->
   ∃t,PSs (fC CX P w K mg base N qual scope f cdv A outer s H E) body t/\t {nx:=λ_ H'=>Q .non H',rt:=Q} (start N vs) H):
  FnOk P w K mg base CX (k+1) f (xl name qual params body scope dV kV doc pm an cdv ct) ps sp:=by
 refine⟨len,λA outer s H args us vs Q E hr e0 hb r hsp => ?_⟩
 have hl:=len _ _ _ _ hsp
 have KX:K.In s.heap:=e0.mod.kin.keeps λb o e=>(e0.bs b o e).1
 have lim:s.heap.NoLimit:=e0.mod.nolimit.keeps λb o e=>(e0.bs b o e).1
 have hkind:∀y∈ps.zip us,scope.names.lookup y.1=some .local\/(scope.names.lookup y.1=some .cell/\((cellsFrom (s.heap.objs.size+1) scope.names []).lookup y.1).isSome=true):=λ⟨n,v⟩ hy=>by
  rcases S.par n (sv hy).1 with q|q
  ·exact .inl q
  ·exact .inr ⟨q,vk _ _ _ (.inl q)⟩
 refine codeAny_call_function hr.depth (KX _ _ lk) rfl S.co S.gen rfl (PySem.W.codeRec_of KX hcd) (hb _ _ _ _ ?_)
 refine wpAny_newFunctionEnv_cells S.kind hkind λenv he s1 x => ?_
 subst he
 refine⟨lim.keeps x.toInCall.keep,codeAny_func ?_⟩
 obtain⟨t,ht,hq⟩:=hbody A outer s H vs Q E (hr.deeper _) hsp
 have I:Inv (fC CX P w K mg base N qual scope f cdv A outer s H E) [] (start N vs) H s1:=aD4 S hr.hd e0 hl r x
 refine vd (ht [] s1 (start N vs) H _ I hq) (λfl s' hs => ?_) λe s' hs=>hs
 have fin:∀{σ':St}{H':Hp}{v:V}{u:Value},Inv (fC CX P w K mg base N qual scope f cdv A outer s H E) [] σ' H' s'->RelV v u->Q v H'->CE outer P w H s Q u s':=
  λ{σ' H' v u} J rv q=>⟨v,H',J.os,J.bare,J.base,J.hok,rv,q⟩
 cases fl with
 |ret u =>
  obtain⟨v,σ',H',J,rv,q⟩:=hs
  exact fin J rv q
 |next =>
  obtain⟨σ',H',J,q⟩:=hs
  exact fin (v:=V.non) (u:=wj) J rfl q
 |brk =>
  obtain⟨_,_,_,q⟩:=hs
  exact xm q
 |cont =>
  obtain⟨_,_,_,q⟩:=hs
  exact xm q
end L2
variable {sp:L2.Sp}
namespace L2
open PySem PySem.Spec PyProof.Rows
section
variable {p:Pos}{t:TA}{id T:String}
noncomputable def tCB(r:List V->Hp->VK->Prop)(t:TA):TE:=λσ H Q=>t σ H λvs H1=>r vs H1 Q
theorem lM(hc:dS X (.builtin id) r)(hg:Gl X x)(hm:X.mg x=none)(hv:va x=some (.builtin id))(ha:PA X (e::es) t)(hn:x ≠ "__name__" := by decide)(hdb:(x==("__debug__" : Str))=false:=by decide)(he:qp (e::es) X.env=(false,eval e X.env)::qp es X.env:=by rfl)(hpl:(x9 pos (qp es X.env)).any (·.1)=false:=by rfl):PE X (.Call (.Name x p) (e::es) [] pos) (tCB r t):=by
 intro pins s σ H Q I h
 refine bq (o7 I hg hm hv ?_ hn hdb)
 exact VE (thn (ha pos pins s σ H _ I h) λus s1 ⟨vs,H1,I1,r1,q1⟩=>hc pins s1 σ H1 vs us Q I1 r1 q1) he hpl
theorem uN(hc:dS X (.type T) r)(hg:Gl X x)(hm:X.mg x=none)(hv:va x=some (.type T))(ha:PA X (e::es) t)(hn:x ≠ "__name__" := by decide)(hdb:(x==("__debug__" : Str))=false:=by decide)(he:qp (e::es) X.env=(false,eval e X.env)::qp es X.env:=by rfl)(hpl:(x9 pos (qp es X.env)).any (·.1)=false:=by rfl):PE X (.Call (.Name x p) (e::es) [] pos) (tCB r t):=by
 intro pins s σ H Q I h
 refine bq (o7 I hg hm hv ?_ hn hdb)
 exact bo (thn (ha pos pins s σ H _ I h) λus s1 ⟨vs,H1,I1,r1,q1⟩=>hc pins s1 σ H1 vs us Q I1 r1 q1) he hpl
end
end L2
namespace HT
open PySem PyProof.Rows
section
open PySem.SeqAt
open PySem.AutoSeq1 (wpAny_loadPart')
open PySem.MeetsSeq PySem.MeetsSeq2 PySem.MeetsSeq3
end
section
variable {E:Value->Shared->Prop}
noncomputable def sIx(n d:Nat):Option Int->Nat
 |none=>d
 |some v=>if v<0 then (v+(n:Int)).toNat else min v.toNat n
theorem qK(n d:Nat):sIx n d none=d:=rfl
theorem fZ(n d k:Nat):sIx n d (k:Int).4=min k n:=by
 show (if (k:Int)<0 then ((k:Int)+(n:Int)).toNat else min (k:Int).toNat n)=min k n
 rw[if_neg '!',jc]
theorem aJ5(n d:Nat)(hd:d<=n)(o:Option Int):sIx n d o<=n:=by
 cases o with
 |none=>exact hd
 |some v =>
  show (if v<0 then (v+(n:Int)).toNat else min v.toNat n)<=n
  by_cases hv:v<0
  ·rw[if_pos hv];omega
  ·rw[if_neg hv];exact Nat.min_le_right _ _
end
end HT
namespace L2
open PySem PySem.Spec PyProof.Rows
abbrev TO:=St->Hp->(Option Int->Hp->Prop)->Prop
noncomputable def PO(X:Cx)(e:Option Expr)(t:TO):Prop:=
 ∀(pins:List (Addr×Obj)) (s:Shared) (σ:St) (H:Hp) (Q:Option Int->Hp->Prop),Inv X pins σ H s->t σ H Q ->
  kf X.w.7 X.A (evalPart e X.env) (λu s'=>∃o H',Inv X pins σ H' s'/\IsPart u o/\Q o H') X.xe s
noncomputable def aHL:TO:=λ_ H Q=>Q none H
noncomputable def aL7(t:TE):TO:=λσ H Q=>t σ H λx H1=>∃i,x = .int i/\Q i.4 H1
section
variable {lo hi:Option Expr}{tl th:TO}
theorem aI3:PO X none aHL:=by
 intro pins s σ H Q I h
 rw[Js]
 exact kq ⟨none,H,I, .none,h⟩
theorem aHE(h:PE X e te):PO X e.4 (aL7 te):=by
 intro pins s σ H Q I hw
 rw[evalPart_some]
 refine thn (h pins s σ H _ I hw) λu s1 ⟨x,H1,I1,r1,q1⟩ => ?_
 obtain⟨i,rfl,q⟩:=q1
 obtain⟨t,rfl⟩:=r1
 exact⟨some i,H1,I1, .int i t,q⟩
noncomputable def SlR(X:Cx)(r:V->Option Int->Option Int->Hp->VK->Prop):Prop:=
 ∀(pins:List (Addr×Obj)) (s:Shared) (σ:St) (H:Hp) (x:V) (v vl vu:Value) (lo hi:Option Int) (sl:Addr) (Q:VK),Inv X pins σ H s->RelV x v->s.heap.IsSliceOf sl vl vu .none->IsPart vl lo->IsPart vu hi->r x lo hi H Q ->
  ∃T id,typeLookup (.type T) "__getitem__" = pure (.builtin id).4/\s.TypeIs v T/\kf X.w.7 X.A (VM v (.ref sl)) (EP X pins σ Q) X.xe s
noncomputable def tSl(r:V->Option Int->Option Int->Hp->VK->Prop)(te:TE)(tl th:TO):TE:=λσ H Q=>te σ H λx H1=>tl σ H1 λl H2=>th σ H2 λu H3=>r x l u H3 Q
theorem aFG{r:V->Option Int->Option Int->Hp->VK->Prop}(hr:SlR X r)(he:PE X e te)(hl:PO X lo tl)(hu:PO X hi th):PE X (.Subscript e (.Slice lo hi none p2) pos) (tSl r te tl th):=by
 intro pins s σ H Q I h
 refine Kw (thn (he pins s σ H _ I h) λv s1 ⟨x,H1,I1,r1,q1⟩ => ?_)
 refine wpAny_Slice (thn (hl pins s1 σ H1 _ I1 q1) λvl s2 ⟨l,H2,I2,pl,q2⟩=>thn (hu pins s2 σ H2 _ I2 q2) λvu s3 ⟨u,H3,I3,pu,q3⟩ => ?_)
 rw[Js]
 refine kq ?_
 have I4:Inv X pins σ H3 {s3 with heap:=s3.heap.push {cls := .type "slice", data := .fields #[vl,vu, .none]} }:=I3.kept (t':=s3.toks) λb ob q=>qh _ q
 obtain⟨T,id,hT,ht,hg⟩:=hr pins {s3 with heap:=s3.heap.push {cls := .type "slice", data := .fields #[vl,vu, .none]} } σ H3 x v vl vu l u s3.heap.objs.size Q I4 r1 (su ..) pl pu q3
 show kf X.w.7 X.A (Jr e (.Slice lo hi none p2) v (.ref s3.heap.objs.size)) (EP X pins σ Q) X.xe {s3 with heap:=s3.heap.push {cls := .type "slice", data := .fields #[vl,vu, .none]} }
 exact tail_any (ops:=[.ref s3.heap.objs.size,v]) ht hT hg (by with_unfolding_all rfl)
noncomputable def qG(xs:List V)(lo hi:Option Int):List V:=(xs.drop (HT.sIx xs.length 0 lo)).take (HT.sIx xs.length xs.length hi-HT.sIx xs.length 0 lo)
theorem yM(xs:List V)(lo hi:Option Int):(qG xs lo hi).length<=xs.length:=by
 unfold qG
 rw[xn,ku]
 omega
end
end L2
namespace L2
open PySem PySem.Spec PyProof.Rows
noncomputable def ixN(n:Nat)(i:Int):Option Nat:=if 0<=i then (if i<n then some i.toNat else none) else if -(n:Int)<=i then some (i+n).toNat else none
noncomputable def atI{α:Type}(xs:List α)(i:Int):Option α:=(ixN xs.length i).bind λj=>xs[j]?
theorem aAG{i:Int}(h:ixN n i=some j):seqIndex? i n=some j/\j<n /\ -(n:Int)<=i/\i<n:=by
 unfold ixN at h
 by_cases h0:0<=i
 ·rw[if_pos h0] at h
  by_cases h1:i<n
  ·rw[if_pos h1] at h
   have e:i.toNat=j:=qw h
   exact⟨by rw[Kf h0 h1,e],by omega,by omega,h1⟩
  ·rw[if_neg h1] at h;cases h
 ·rw[if_neg h0] at h
  by_cases h1 : -(n:Int)<=i
  ·rw[if_pos h1] at h
   have e:(i+n).toNat=j:=qw h
   exact⟨by rw[JP '!' h1,e],by omega,h1,by omega⟩
  ·rw[if_neg h1] at h;cases h
theorem sO{α:Type}{xs:List α}{i:Int}{v:α}(h:atI xs i=some v):∃j,seqIndex? i xs.length=some j/\xs[j]?=some v/\j<xs.length /\ -(xs.length:Int)<=i/\i<xs.length:=by
 unfold atI at h
 cases e:ixN xs.length i with
 |none=>rw[e] at h;cases h
 |some j =>
  rw[e] at h
  obtain⟨h1,h2,h3,h4⟩:=aAG e
  exact⟨j,h1,h,h2,h3,h4⟩
theorem dB{α:Type}{xs:List α}{v:α}(h:xs[j]?=some v):atI xs (j:Int)=some v:=by
 have hj:j<xs.length:=(zGs h).1
 have e:ixN xs.length (j:Int)=some j:=by
  unfold ixN
  rw[if_pos '!',if_pos '!'];simp
 unfold atI;rw[e];exact h
theorem aF1{α:Type}(xs:List α)(v:α):atI (xs++[v]) (-1)=some v:=by
 have hl:(xs++[v]).length=xs.length+1:=by simp
 have e:ixN (xs++[v]).length (-1)=some xs.length:=by
  unfold ixN
  rw[hl,if_neg '*',if_pos '!']
  congr 1
  omega
 unfold atI
 rw[e]
 show (xs++[v])[xs.length]?=some v
 simp
noncomputable def aAW(b:Expr):Prop:=∀o i,subscripted b false o i=operate [o,i] (VM o i)
noncomputable def IxR(X:Cx)(r:R2):Prop:=
 ∀(value slice:Expr) (pins:List (Addr×Obj)) (s:Shared) (σ:St) (H:Hp) (x y:V) (v u:Value) (Q:VK),Inv X pins σ H s->RelV x v->RelV y u->r x y H Q ->
  subscripted slice false v u=operate [v,u] (VM v u)->kf X.w.7 X.A (Jr value slice v u) (EP X pins σ Q) X.xe s
noncomputable def MtR(X:Cx)(id:String)(r:V->List V->Hp->VK->Prop):Prop:=
 ∀(pins:List (Addr×Obj)) (s:Shared) (σ:St) (H:Hp) (x:V) (xs:List V) (v:Value) (us:List Value) (Q:VK),Inv X pins σ H s->RelV x v->Vals xs us->r x xs H Q ->
  kf X.w.7 X.A (call (.builtin id) (v::us)) (EP X pins σ Q) X.xe s
section
variable {a:Expr}{tb:TE}
theorem IxR.or{r r':R2}(h:IxR X r)(h':IxR X r'):IxR X (λx y H Q=>r x y H Q\/r' x y H Q):=by
 intro value slice pins s σ H x y v u Q I rx ry q hs
 rcases q with q|q
 ·exact h value slice pins s σ H x y v u Q I rx ry q hs
 ·exact h' value slice pins s σ H x y v u Q I rx ry q hs
theorem aL0{r:R2}(hr:IxR X r)(ha:PE X a ta)(hb:PE X b tb)(hs:aAW b):PE X (.Subscript a b pos) (tOp r ta tb):=by
 intro pins s σ H Q I h
 exact Kw (aFV ha hb I h λv u s2 x y H2 I2 rx ry q=>hr a b pins s2 σ H2 x y v u Q I2 rx ry q (hs _ _))
noncomputable def rIxL(K:qb):R2:=λx y H Q=>∃p xs i v,x = .ref p/\y = .int i/\SqL K H p xs/\atI xs i=some v/\Q v H
noncomputable def rIxT(K:qb):R2:=λx y H Q=>∃p xs i v,x = .ref p/\y = .int i/\SqT K H p xs/\atI xs i=some v/\Q v H
noncomputable def rIxS:R2:=λx y H Q=>∃z i c,x = .str z/\y = .int i/\z.length<=sizeLine/\atI z.cps.toList i=some c/\Q (.str ⟨#[c]⟩) H
theorem aHU:IxR X (rIxL X.K):=by
 intro value slice pins s σ H x y v u Q I rx ry h hs
 obtain⟨p,xs,i,z,rfl,rfl,hq,he,q⟩:=h
 cases rx
 obtain⟨t,rfl⟩:=ry
 obtain⟨its,r,pl,hz⟩:=I.list hq
 obtain⟨j,h1,h2,h3,h4,h5⟩:=sO he
 obtain⟨w,ew,rw'⟩:=r.get h2
 have hl:=r.length
 have hn:=line63
 have fin:EP X pins σ Q w s:=⟨z,H,I,rw',q⟩
 by_cases h0:0<=i
 ·have hj:i.toNat=j:=by
   rw[Kf h0 h5] at h1
   exact qw h1
  exact item_listR pl.isList h0 '!' (by rw[hj];simpa using ew) fin hs
 ·have hj:(i+(its.toArray.size:Int)).toNat=j:=by
   rw[JP '!' h4] at h1
   rw[qc,<- hl]
   exact qw h1
  exact JH (x:=w) pl.isList.typeIs slot_list_getitem.lookup
   (wpAny_getItem_list_neg (Q:=λr s'=>r=w/\EP X pins σ Q r s') pl.isList '!' (by rw[qc] <;> omega) '!' (by rw[hj];simpa using ew) ⟨rfl,fin⟩) hs
theorem aJ8:IxR X (rIxT X.K):=by
 intro value slice pins s σ H x y v u Q I rx ry h hs
 obtain⟨p,xs,i,z,rfl,rfl,hq,he,q⟩:=h
 cases rx
 obtain⟨t,rfl⟩:=ry
 obtain⟨its,r,pl,hz⟩:=I.tuple hq
 obtain⟨j,h1,h2,h3,h4,h5⟩:=sO he
 obtain⟨w,ew,rw'⟩:=r.get h2
 have hl:=r.length
 have hn:=line63
 have fin:EP X pins σ Q w s:=⟨z,H,I,rw',q⟩
 exact JH (x:=w) pl.typeIs slot_tuple_getitem.lookup
  (getItem_tuple (j:=j) (Q:=λr s'=>r=w/\EP X pins σ Q r s') pl '!' '!' (by rw[qc,<- hl];exact h1) (by simpa using ew) ⟨rfl,fin⟩) hs
theorem aK2:IxR X rIxS:=by
 intro value slice pins s σ H x y v u Q I rx ry h hs
 obtain⟨z,i,c,rfl,rfl,hz,he,q⟩:=h
 obtain⟨t,rfl⟩:=rx
 obtain⟨t',rfl⟩:=ry
 obtain⟨j,h1,h2,h3,h4,h5⟩:=sO he
 have hl:z.cps.toList.length=z.length:=by simp[cw]
 rw[hl] at h1 h4 h5
 have hn:=line63
 exact tail_any (typeIs_str s z t) slot_str_getitem.lookup (getItem_str (c:=c) (by
  have e1:decide (i < -(2^63:Int))=false:=decide_eq_false '!'
  have e2:decide (i≥2^63)=false:=decide_eq_false '!'
  rw[e1,e2,Kr]) (by rw[h1];simpa using h2) ⟨.str ⟨#[c]⟩,H,I.tok _,⟨_,rfl⟩,q⟩) hs
noncomputable def rIx(K:qb):R2:=λx y H Q=>rIxL K x y H Q\/rIxT K x y H Q\/rIxS x y H Q
theorem aI:IxR X (rIx X.K):=aHU.or (aJ8.or aK2)
theorem aAY(its:List Value)(n j:Nat)(u:Value):pf (·.setIfInBounds j u) {cls := .type "list", data := .seq its.toArray n}={cls := .type "list", data := .seq (its.set j u).toArray n}:=by
 simp[pf]
theorem Inv.lst{p:Addr}{xs:List V}(I:Inv X pins σ H s)(h:H p=some (.lst xs)):
  ∃(its:List Value) (n:Nat),Vals xs its/\s.heap.get? p=some {cls := .type "list", data := .seq its.toArray n}/\xs.length<=sizeLine:=by
 obtain⟨z,its,n,r,e⟩:=I.hok p _ h
 exact⟨its,n,r,e,z⟩
theorem Inv.lstUpd{p:Addr}{xs ys:List V}{its':List Value}{n':Nat}{f:Obj->Obj}(I:Inv X pins σ H s)(h:H p=some (.lst xs))(ho:s.heap.get? p=some {cls := .type "list", data := .seq its.toArray n})(hf:f {cls := .type "list", data := .seq its.toArray n}={cls := .type "list", data := .seq its'.toArray n' })(r:Vals ys its')(hz:ys.length<=sizeLine)(t:Nat):
  Inv X pins σ (upd H p (.lst ys)) {s with heap:=s.heap.update p f,toks:=t}:=by
 have e:(s.heap.update p f).get? p=some {cls := .type "list", data := .seq its'.toArray n' }:=by
  rw[lg f ho (by rw[hf] <;> rfl),hf]
 refine I.write (x:=p) (e:=p) (by rw[h];trivial) (.inl rfl) (λb u hb q=>(bh _ _ (yj hb)).trans q) ⟨_,e⟩ ?_
 exact⟨hz,its',n',r,e⟩
noncomputable def aL4:V->V->V->Hp->(Hp->Prop)->Prop:=λo i v H Q=>∃p xs k j,o = .ref p/\i = .int k/\H p=some (.lst xs)/\ixN xs.length k=some j/\Q (upd H p (.lst (xs.set j v)))
theorem set_list:PSet X aL4:=by
 intro pins s σ H o i v ov iv u Q I ro ri rv h
 obtain⟨p,xs,k,j,rfl,rfl,hp,hj,q⟩:=h
 cases ro
 obtain⟨t,rfl⟩:=ri
 obtain⟨its,n,r,ho,hz⟩:=I.lst hp
 obtain⟨h1,h2,h3,h4⟩:=aAG hj
 have hl:=r.length
 have hn:=line63
 have I':Inv X pins σ (upd H p (.lst (xs.set j v))) {s with heap:=s.heap.update p (pf (·.setIfInBounds j u))}:=
  I.lstUpd hp ho (aAY its n j u) (r.set rv j) (by rw[zu];exact hz) s.toks
 by_cases h0:0<=k
 ·have hk:k.toNat=j:=by
   rw[Kf h0 h4] at h1
   exact qw h1
  exact PySem.W.ki_setAt ho h0 '!' (by rw[qc,<- hl];exact h4) (by rw[hk];exact⟨_,I',q⟩)
 ·have hk:(k+(its.toArray.size:Int)).toNat=j:=by
   rw[JP '!' h3] at h1
   rw[qc,<- hl]
   exact qw h1
  exact PySem.W.ki_setBack ho '!' (by rw[qc,<- hl];exact h3) '!' (by rw[hk];exact⟨_,I',q⟩)
theorem oP(lo hi:Option Int)(n:Nat):(dw lo hi none n).1=((HT.sIx n 0 lo:Nat):Int)/\(dw lo hi none n).2.1=((HT.sIx n n hi:Nat):Int)/\(dw lo hi none n).2.2=1:=by
 refine⟨?_,?_,rfl⟩
 ·cases lo with
  |none=>simp[dw,HT.sIx]
  |some i =>
   simp only[dw,HT.sIx,JA,show (1:Int)>0 by decide,if_true]
   by_cases h:i<0
   ·simp only[h,if_true] <;> omega
   ·simp only[h,if_false] <;> omega
 ·cases hi with
  |none=>simp[dw,HT.sIx]
  |some i =>
   simp only[dw,HT.sIx,JA,show (1:Int)>0 by decide,if_true]
   by_cases h:i<0
   ·simp only[h,if_true] <;> omega
   ·simp only[h,if_false] <;> omega
theorem vA(its:List Value)(lo hi:Option Int):slicePick its.toArray lo hi none=((its.drop (HT.sIx its.length 0 lo)).take (HT.sIx its.length its.length hi-HT.sIx its.length 0 lo)).toArray:=by
 obtain⟨h1,h2,h3⟩:=oP lo hi its.toArray.size
 unfold slicePick
 rw[h1,h2,h3]
 simp only[sliceRange_one,pick_run,qc] <;> rfl
noncomputable def rSlL(K:qb):V->Option Int->Option Int->Hp->VK->Prop:=λx lo hi H Q=>∃a xs,x = .ref a/\SqL K H a xs/\∀p,H p=none->Q (.ref p) (upd H p (.lst (qG xs lo hi)))
theorem dC:SlR X (rSlL X.K):=by
 intro pins s σ H x v vl vu lo hi sl Q I rx hs pl pu h
 obtain⟨a,xs,rfl,hx,q⟩:=h
 cases rx
 obtain⟨its,r,ht,hz⟩:=I.list hx
 have hlen:=r.length
 refine⟨"list", _,slot_list_getitem.lookup,ht.isList.typeIs,?_⟩
 refine Jj ht.isList hs pl pu .none '$' ?_ (by rw[qc] <;> omega)
 rw[vA,<- hlen]
 refine⟨.ref s.heap.objs.size,_,I.laid (t':=s.toks) (o := .lst (qG xs lo hi)) (λb ob q=>qh _ q) (qj _) ?_,rfl,q _ (I.hok.fresh (qj _))⟩
 exact⟨ji (yM xs lo hi) hz,_,0,(r.drop (HT.sIx xs.length 0 lo)).take (HT.sIx xs.length xs.length hi-HT.sIx xs.length 0 lo),jd _ rfl⟩
theorem lG:dS X (.type "list") (λxs H Q=>∃p ys,xs=[.ref p]/\(SqL X.K H p ys\/SqT X.K H p ys)/\∀l,H l=none->Q (.ref l) (upd H l (.lst ys))):=by
 intro pins s σ H xs us Q I r h
 obtain⟨p,ys,rfl,hq,q⟩:=h
 obtain⟨u,rfl,rx⟩:=vals1 r
 cases rx
 have fin:∀(its:List Value),Vals ys its->ys.length<=sizeLine->∀(h':Heap) (c':Nat),(∀b o',s.heap.get? b=some o'->h'.get? b=some o') ->
   h'.get? s.heap.objs.size=some {cls := .type "list", dict:=none,data := .seq its.toArray c',slots := #[]}->EP X pins σ Q (.ref s.heap.objs.size) {s with heap:=h' }:=λits r' hz h' c' kp e =>
  ⟨.ref s.heap.objs.size,_,I.laid (t':=s.toks) kp (qj _) (show eV X.prog X.w _ h' _ (.lst ys) from ⟨hz,its,c',r',e⟩),rfl,q _ (I.hok.fresh (qj _))⟩
 rcases hq with hq|hq
 ·obtain⟨its,r',pl,hz⟩:=I.list hq
  have hlen:=r'.length
  obtain⟨o,ho,hc,n,hd⟩:=pl.isList
  exact call_list_seq p (.inl rfl) ho hc hd (λh' c' kp e=>fin its r' hz h' c' kp e) (by simp only[qc] <;> omega)
 ·obtain⟨its,r',pl,hz⟩:=I.tuple hq
  have hlen:=r'.length
  obtain⟨o,ho,hc,n,hd⟩:=pl
  exact call_list_seq p (.inr rfl) ho hc hd (λh' c' kp e=>fin its r' hz h' c' kp e) (by simp only[qc] <;> omega)
theorem cZ:dS X (.type "tuple") (λxs H Q=>∃p ys,xs=[.ref p]/\((SqL X.K H p ys/\∀l,H l=none->Q (.ref l) (upd H l (.tup ys)))\/(SqT X.K H p ys/\Q (.ref p) H))):=by
 intro pins s σ H xs us Q I r h
 obtain⟨p,ys,rfl,h⟩:=h
 obtain⟨u,rfl,rx⟩:=vals1 r
 cases rx
 rcases h with ⟨hq,q⟩|⟨hq,q⟩
 ·obtain⟨its,r',pl,hz⟩:=I.list hq
  have hlen:=r'.length
  refine call_tuple_list pl.isList (λh' kp => ?_) (by simp only[qc] <;> omega)
  have I1:Inv X pins σ H {s with heap:=h' }:=I.kept (t':=s.toks) kp
  have I2:Inv X pins σ (upd H h'.objs.size (.tup ys)) {s with heap:=h'.push {cls := .type "tuple", data := .seq its.toArray} }:=
   I1.laid (t':=s.toks) (λb o e=>qh _ e) (qj _) (show eV X.prog X.w _ _ _ (.tup ys) from ⟨hz,its,r',VR _ _⟩)
  exact⟨.ref h'.objs.size,_,I2,rfl,q _ (I1.hok.fresh (qj _))⟩
 ·obtain⟨its,r',pl,hz⟩:=I.tuple hq
  exact call_tuple_same pl ⟨.ref p,H,I,rfl,q⟩
noncomputable def tyV(K:qb)(T:String)(x:V)(H:Hp):Prop:=match x with
 |.str _=>T = "str"
 |.int _=>T = "int"
 |.ref p=>(T = "list" /\ ∃xs,SqL K H p xs)\/(T = "tuple" /\ ∃o,K.lookup p=some o/\o.cls = .type "tuple" /\ o.dict=none) \/
   (T = "dict" /\ ((∃kvs,H p=some (.dK kvs))\/∃kvs,H p=some (.dT kvs)))\/(T = "set" /\ ∃S n,H p=some (.set S n))
 |_=>False
theorem aKR{T:String}{x:V}{v:Value}(I:Inv X pins σ H s)(r:RelV x v)(ty:tyV X.K T x H):
  s.TypeIs v T/\∀a,v = .ref a->∃ob,s.heap.get? a=some ob/\ob.dict=none:=by
 cases x with
 |str z =>
  obtain⟨t,rfl⟩:=r
  cases (show T = "str" from ty)
  exact⟨typeIs_str s z t,λ_ e=>nomatch e⟩
 |int i =>
  obtain⟨t,rfl⟩:=r
  cases (show T = "int" from ty)
  exact⟨typeIs_int s i t,λ_ e=>nomatch e⟩
 |ref p =>
  cases r
  rcases ty with ⟨rfl,xs,hq⟩|⟨rfl,o,hk,hc,hd⟩|⟨rfl,hk⟩|⟨rfl,S,n,hk⟩
  ·obtain⟨its,_,pl,_⟩:=I.list hq
   refine⟨pl.isList.typeIs,λa e => ?_⟩
   cases e
   obtain⟨o,n,e,c,hd,_⟩:=pl
   exact⟨o,e,hd⟩
  ·refine⟨⟨o,I.kIn p o hk,hc⟩,λa e => ?_⟩
   cases e
   exact⟨o,I.kIn _ o hk,hd⟩
  ·have z:∃o,s.heap.get? p=some o/\o.ExactDict:=by
    rcases hk with ⟨kvs,hk⟩|⟨kvs,hk⟩
    ·obtain⟨_,_,_,_,o,_,_,e,ex,_⟩:=I.hok p _ hk
     exact⟨o,e,ex⟩
    ·obtain⟨_,_,_,_,o,_,_,e,ex,_⟩:=I.hok p _ hk
     exact⟨o,e,ex⟩
   obtain⟨o,e,ex⟩:=z
   refine⟨⟨o,e,ex.1⟩,λa e2 => ?_⟩
   cases e2
   exact⟨o,e,ex.2.1⟩
  ·obtain⟨o,_,_,_,e,ex,_⟩:=I.hok p _ hk
   refine⟨⟨o,e,ex.1⟩,λa e2 => ?_⟩
   cases e2
   exact⟨o,e,ex.2.1⟩
 |_=>exact xm ty
noncomputable def tBM(K:qb)(T:String)(r:V->List V->Hp->VK->Prop)(to:TE)(t:TA):TE:=λσ H Q=>to σ H λx H1=>tyV K T x H1/\t σ H1 λxs H2=>r x xs H2 Q
variable {to:TE}{t:TA}{T id:String}{r:V->List V->Hp->VK->Prop}
theorem aLD(pa:PlainAttrs T)(slot:Slot T name id)(hty:typeOf (.builtin id)=pure (.type "method_descriptor"))(hm:MtR X id r)(ho:PE X o to)(ha:PA X (e::es) t)(hbase:attributeBase o name X.env (eval o X.env)=eval o X.env:=by rfl)(hfew:((x9 cpos (qp (e::es) X.env)).all (λx => !x.1)&&(backToKw cpos (keywordEach [] X.env)).all (λx=>x.1.isSome)
   && decide ((e::es).length+([]:List Kd).length+(if ([]:List Kd).isEmpty then 0 else 1)<30))=true:=by rfl)(hline:(apos.endLine==cpos.line)=true:=by rfl)(hs:qp (e::es) X.env=(false,eval e X.env)::qp es X.env:=by rfl)(hplain:(x9 cpos (qp es X.env)).any (·.1)=false:=by rfl):
  PE X (.Call (.Attribute o name apos) (e::es) [] cpos) (tBM X.K T r to t):=by
 intro pins s σ H Q I h
 refine wpAny_Call_method_late hbase hfew hline rfl (thn (ho pins s σ H _ I h) λv s1 ⟨x,H1,I1,r1,ty,q1⟩ => ?_)
 obtain⟨h1,h2⟩:=aKR I1 r1 ty
 refine⟨T,id,pa,slot,hty,h1,h2,?_⟩
 have hA:=ha cpos pins s1 σ H1 _ I1 q1
 rw[hs] at hA ⊢
 refine Calls.callWith_builtin (by show (false||(x9 cpos (qp es X.env)).any (·.1))=false;rw[hplain] <;> rfl) (QT ?_)
 exact thn hA λus s2 ⟨vs,H2,I2,r2,q2⟩=>hm pins s2 σ H2 x vs v us Q I2 r1 r2 q2
/- xs.append(e),list.index on a module's tuple .. are MtR facts of 06m -/
end
end L2
namespace L2
open PySem PySem.Spec PyProof.Rows
noncomputable def MtM(X:Cx)(id:String)(r:V->List V->Hp->VK->Prop):Prop:=
 ∀(pins:List (Addr×Obj)) (s:Shared) (σ:St) (H:Hp) (x:V) (xs:List V) (v:Value) (us:List Value) (Q:VK),Inv X pins σ H s->RelV x v->Vals xs us->r x xs H Q ->
  kf X.w.7 X.A (call (.builtin id) (v::us)) (EP X pins σ Q) X.xe s
theorem Vals.one:∀{x:V}{us:List Value},Vals [x] us->∃u,us=[u]/\RelV x u
 |_,_, .cons r .nil=>⟨_,rfl,r⟩
theorem Vals.reverse{xs:List V}(h:Vals xs us):Vals xs.reverse us.reverse:=by
 induction h with
 |nil=>exact .nil
 |cons r t ih=>rw[fj,fj];exact Vals.append ih (.cons r .nil)
section
variable {l b:Addr}{xs ys zs:List V}
theorem Inv.lset{its':List Value}{f:Array Value->Array Value}(I:Inv X pins σ H s)(hH:H l=some (.lst xs))(e:s.heap.get? l=some {cls := .type "list", data := .seq its.toArray n})(hf:f its.toArray=its'.toArray)(hv:Vals ys its')(hz:ys.length<=sizeLine):
  Inv X pins σ (upd H l (.lst ys)) {s with heap:=s.heap.update l (pf f),toks:=t' }:=by
 have q:=PySem.IsL.update e f
 rw[hf] at q
 refine I.write (x:=l) (e:=l) (by rw[hH];exact trivial) (.inl rfl) (λb' u hb hu=>(bh s.heap (pf f) (yj hb)).trans hu) ⟨_,q⟩ ?_
 exact⟨hz,its',_,hv,q⟩
theorem Inv.lnew(I:Inv X pins σ H s)(hv:Vals ys its)(hz:ys.length<=sizeLine):
  Inv X pins σ (upd H s.heap.objs.size (.lst ys)) {s with heap:=s.heap.push {cls := .type "list", data := .seq its.toArray},toks:=t' }:=
 I.laid (λ_ _ q=>qh _ q) (qj _) ⟨hz,its,0,hv,jd _ rfl⟩
theorem Inv.fresh(I:Inv X pins σ H s):H s.heap.objs.size=none:=I.hok.fresh (qj _)
theorem Inv.lstM(I:Inv X pins σ H s)(hH:H l=some (.lst xs)):xs.length<=sizeLine/\∃(its:List Value) (n:Nat),Vals xs its/\xs.length=its.length/\s.heap.get? l=some {cls := .type "list", data := .seq its.toArray n}:=by
 obtain⟨z,its,n,r,e⟩:=I.hok l _ hH
 exact⟨z,its,n,r,r.length,e⟩
theorem aEU(h:n<=sizeLine):nt n=false:=by
 unfold nt
 exact decide_eq_false '!'
end
section
noncomputable def aAM:V->List V->Hp->VK->Prop:=λx vs H Q=>∃l xs y,x = .ref l/\vs=[y]/\H l=some (.lst xs)/\xs.length<sizeLine/\Q .non (upd H l (.lst (xs++[y])))
theorem lZ:MtM X "list.append" aAM:=by
 intro pins s σ H x vs v us Q I rx rv h
 obtain⟨l,xs,y,rfl,rfl,hH,hz,q⟩:=h
 cases rx
 obtain⟨u,rfl,ru⟩:=rv.one
 obtain⟨z,its,n,r,hl,e⟩:=I.lstM hH
 refine gp F.slot_list_append ⟨_,e,rfl⟩ F.entry_list_append (F.args_list_append_2 _ _) (PySem.list_append l its.toArray n u (by rw[qc];omega)) ⟨e,?_⟩
 refine⟨.non,_,I.lset (its':=its++[u]) hH e '$' (r.append (.cons ru .nil)) ?_,rfl,q⟩
 rw[ql,gz]
 omega
noncomputable def rCat:R2:=λx y H Q=>∃l b xs zs,x = .ref l/\y = .ref b/\H l=some (.lst xs)/\H b=some (.lst zs)/\xs.length+zs.length<=sizeLine/\∀p,H p=none->Q (.ref p) (upd H p (.lst (xs++zs)))
theorem c9:OpR X (bp .Add) rCat:=by
 intro pins s σ H x y v u Q I rx ry h
 obtain⟨l,b,xs,zs,rfl,rfl,hH,hB,hz,q⟩:=h
 cases rx
 cases ry
 obtain⟨z,its,n,r,hl,e⟩:=I.lstM hH
 obtain⟨z2,its2,n2,r2,hl2,e2⟩:=I.lstM hB
 refine PySem.P.add_list e e2 ?_ (by rw[qc,qc];omega)
 have ea:its.toArray++its2.toArray=(its++its2).toArray:=by simp
 rw[ea]
 exact⟨.ref _,_,I.lnew (t':=s.toks) (r.append r2) (by rw[ql];omega),rfl,q _ I.fresh⟩
end
section
variable {E:Value->Shared->Prop}
set_option maxRecDepth 100000 in
end
section
end
end L2
namespace Att
open PySem PySem.W PySem.Calls PyProof.Rows
theorem rP{P:wq}:∀(ns:List Int) (vs:List Value),WellAll P h vs (ns.map WData.int)->IntsAre vs ns:=by
 intro ns
 induction ns with
 |nil =>
  intro vs w
  rw[df] at w
  cases w
  exact .nil
 |cons n ns ih =>
  intro vs w
  rw[jw] at w
  cases w with
  |cons a b =>
   cases a
   exact .cons _ _ (ih _ b)
theorem aCO{l:OpenLaw}(hn:l.most=some n){P:wq}{args:List WData}{vals:List Value}(hpre:l.row.toRowW.claim.pre args=true)(hwl:WellAll P h vals args):
  ∃a vs ns,vals=[yr a]/\args=[WData.list (ns.map WData.int)]/\h.get? a=some {cls := .type "list", data := .seq vs.toArray}/\IntsAre vs ns/\ns.length<=n:=by
 have hsh:WShape.hasAll [] args [.list .int]=true:=(pre_splitW hpre).1
 have hc:l.pre.holds [] {args:=args}=true:=(pre_splitW hpre).2
 obtain⟨d,r,rfl,h1,h2⟩:=hasAllW_cons hsh
 obtain rfl:=hasAllW_nil h2
 obtain⟨xs,rfl,h3⟩:=hasW_list h1
 obtain⟨ns,rfl⟩:=items_int h3
 have hlen:ns.length<=n:=by
  unfold OpenLaw.pre at hc
  have h4:(WTm.not (.lt (.lit (.int (n:Int))) (.len (.arg 0)))).holds [] {args:=[.list (ns.map .int)]}=true:=by
   have h4:=(holds_andW hc).1
   rw[hn] at h4
   exact h4
  have h5:=condW_of h4 (w_not (w_lt w_lit (w_len_list (w_arg rfl))))
  rw[zLm] at h5
  refine J4 λq => ?_
  have q':(n:Int)<((ns.length:Nat):Int):=by omega
  first
   | (rw[decide_eq_true q'] at h5;exact absurd h5 '*')
   | (simp at h5;omega)
 cases hwl with
 |cons w1 w2 =>
  cases w2
  cases w1 with
  |list ho hall=>exact⟨_,_,ns,rfl,rfl,ho,rP ns _ hall,hlen⟩
theorem aCK(l:OpenLaw)(args:List WData):l.row.toRowW.claim.post args (.bool true) args=true:=
 postW_of (r:=l.row.toRowW) (X:=(true==true))
  (show WShape.has [] (.bool true) .bool=true by first|rfl|decide|simp[WShape.has,WShape.arms,WShape.armsAll])
  (show (WTm.eq .res (.lit (.bool true))).value [] {args:=args,res:=some (.bool true),after:=args}=some (.bool (true==true)) from w_eq_bool (w_res rfl) w_lit) rfl
theorem yK{l:OpenLaw}{q:Program}{XP:(Str->Option Value)->Heap->Prop}{d:DefRec}(hn:l.most=some n)(hdf:d.params.defaults=[])(call:∀(w:World) (s₀ s₁:Shared) (mg mb:Str->Option Value) (fa:Addr) (o:Obj) (pm cd doc:Value) (a:Addr) (vs:List Value) (ns:List Int),
   Ground q loose [] XP w s₀ mg mb s₁.heap->YP w s₁.heap ->
   s₁.heap.get? fa=some o->o.data = .func (docDef d.name d.params d.body d.scope pm cd doc)->s₁.heap.CodeRec cd d.name->mg d.name=some (.ref fa) ->
   s₁.heap.get? a=some {cls := .type "list", data := .seq vs.toArray}->IntsAre vs ns->ns.length<=n->s₁.gens = #[] ->
   fy (jx l.prog w) QB (.call (.ref fa) ⟨[.ref a],[]⟩) (λr s'=>r = .ok (.ret (.bool true))/\OldK s₁.heap s'.heap/\s'.os=s₁.os/\lh s'.gens) s₁):
  WalkO q loose XP YP l.row.toRowW d [] (λf vs=>Jv f vs):=by
 intro w s₀ s₁ mg mb G Y fa o pm cd doc dV kV ho hd hcd hD hmg hg args vals as hpre hlay hrd hwl hlo
 obtain rfl:dV = .none:=Dflts.none hD hdf
 obtain rfl:kV = .none:=Dflts.noKw hD
 obtain⟨a,vs,ns,rfl,rfl,hobj,hints,hlen⟩:=aCO hn hpre hwl
 refine enter_call (Qj (call w s₀ s₁ mg mb fa o pm cd doc a vs ns G Y ho (fd_plain hd) hcd hmg hobj hints hlen hg) λr s' hq => ?_)
 obtain⟨rfl,h2,h3,h4⟩:=hq
 exact⟨.inl ⟨.bool true, .bool true,[],rfl,λ_=>rfl, .bool true,aCK l _,λ_=>⟨ck,λ_ hm=>(nomatch hm)⟩⟩,h2,h3,h4⟩
section
variable {E:Value->Shared->Prop}{K:Frag}
end
end Att
namespace L2
open PySem PySem.Spec PyProof.Rows
theorem lS:∀{vs:List Value}{ns:List Int},IntsAre vs ns->Vals (ns.map V.int) vs
 |_,_, .nil => .nil
 |_,_, .cons n t h => .cons ⟨t,rfl⟩ (lS h)
noncomputable def Only(H:Hp):Prop:=∀b,H b=none\/∃o xs,H b=some (.frz o (.lst xs))
theorem aGC{K:qb}{mb:Str->Option Value}{CX:CXT}{k:Nat}{fa:Addr}{s₁:Shared}{vs:List Value}{ns:List Int}(KX:K.In s₁.heap)(hns:s₁.heap.Ns jo mg)(hb:s₁.heap.Ns Jh mb)(hbb:∀x:Str,x ≠ "__name__" -> mb x=va x)(hlim:s₁.heap.NoLimit)(hg:s₁.gens = #[])(ha:s₁.heap.get? a=some {cls := .type "list", data := .seq vs.toArray})(hi:IntsAre vs ns)(hl:ns.length<=sizeLine)(hr:Room k QB)(F:∀base:Heap,K.In base->base.Ns jo mg->FnOk P w K mg base CX k fa fd [x] sp)(hbind:∀(s:Shared) (u:Value),BindsTo s fd ⟨[u],[]⟩ [(x,u)])(hsp:∀H:Hp,Only H->SqL K H a (ns.map V.int)->sp [.ref a] H (λv _=>v = .bl true) λ_ _ _=>False)(hCX:∀H e s',CX [] H s₁ (λ_ _ _=>False) e s'->False):
  fy (jx P w) QB (.call (.ref fa) ⟨[.ref a],[]⟩) (λr s'=>r = .ok (.ret (.bool true))/\OldK s₁.heap s'.heap/\s'.os=s₁.os/\lh s'.gens) s₁:=by
 have rv:=lS hi
 have lenV:=hi.length
 -- from an abstract heap in which nothing but the script may be tracked
 have core:∀H:Hp,Only H->SqL K H a (ns.map V.int)->HOk P w H s₁.heap->(∀b,H b≠none->b=a)->(H a≠none->K.lookup a=none) ->
   fy (jx P w) QB (.call (.ref fa) ⟨[.ref a],[]⟩) (λr s'=>r = .ok (.ret (.bool true))/\OldK s₁.heap s'.heap/\s'.os=s₁.os/\lh s'.gens) s₁:=by
  intro H hO hS hok hA hK
  have base_of:∀{b:Addr}{o:Obj},s₁.heap.get? b=some o->H b=none->(nW s₁.heap H).get? b=some o:=λe n=>aEK e n
  have noA:∀{b:Addr}{o:Obj}{es:Array DictEntry}{ep:Nat},s₁.heap.get? b=some o->o.data = .dict es ep->H b=none:=λ{b o es ep} e d=>by
   cases q:H b with
   |none=>rfl
   |some u =>
    have e':b=a:=hA b (by rw[q];simp)
    subst e'
    rw[ha] at e;cases e
    have d':Data.seq vs.toArray _=Data.dict es ep:=d
    cases d'
  have nsK:∀{b:Addr}{m:Str->Option Value},s₁.heap.Ns b m->(nW s₁.heap H).Ns b m:=λ{b m} ⟨o,es,ep,e,d,r⟩=>⟨o,es,ep,base_of e (noA e d),d,r⟩
  have hKb:K.In (nW s₁.heap H):=λb o e=>base_of (KX b o e) (by
   cases q:H b with
   |none=>rfl
   |some u =>
    have e':b=a:=hA b (by rw[q];simp)
    subst e'
    rw[hK (by rw[q];simp)] at e;cases e)
  have hM:Mod K mg (nW s₁.heap H):=⟨hKb,nsK hns,⟨mb,nsK hb,hbb⟩,let ⟨mc,h1,h2⟩:=hlim;⟨mc,nsK h1,h2⟩⟩
  have e0:Env0 P w K mg (nW s₁.heap H) QB [] s₁ H:=⟨rfl,hM,λb o e=>aH0 e,xq (aCY _ _),trivial,λb hb=>absurd (show b∈([]:List Addr) from hb) '$',hok, .of_eq hg⟩
  refine Qj ((F _ hKb (nsK hns)).run QB [] s₁ H ⟨[.ref a],[]⟩ [.ref a] [.ref a] _ _ hr e0 (hbind s₁ (.ref a)) (.cons rfl .nil) (hsp H hO hS)) λr s' h => ?_
  cases r with
  |error e=>exact (hCX H e s' h).elim
  |ok fl =>
   cases fl with
   |next=>exact xm h
   |brk=>exact xm h
   |cont=>exact xm h
   |ret u =>
    obtain⟨v,H',os,bare,un,hok',r',q⟩:=h
    have q':v = .bl true:=q
    subst q'
    obtain rfl:u=vo true:=r'
    refine⟨rfl,OldK.of_keep λb o e => ?_,os,bare⟩
    cases q:H b with
    |none=>exact un.keep b o e q (by intro z;exact absurd (show b∈([]:List Addr) from z) '$') '$'
    |some u =>
     rcases hO b with z|⟨ob,xs,z⟩
     ·rw[q] at z;cases z
     ·have z2:=un.frzs b ob _ z
      obtain⟨e1,_⟩:=hok b _ z
      obtain⟨e2,_⟩:=hok' b _ z2
      rw[e] at e1;cases e1
      exact e2
 cases hk:K.lookup a with
 |some o =>
  -- the script is one of the module's own objects
  have e:=KX a o hk
  rw[ha] at e
  cases e
  refine core (λ_=>none) (λ_ => .inl rfl) (.inr ⟨_,vs.toArray,_,hk,rfl,rfl,rfl,by rw[qc,lenV];exact hl,by simpa using rv⟩) (λb u z=>by have z':(none:Option HO)=some u:=z;cases z') (λb z=>absurd rfl z) λz=>absurd rfl z
 |none =>
  refine core (λb=>if b=a then some (.frz {cls := .type "list", data := .seq vs.toArray} (.lst (ns.map V.int))) else none) (λb => ?_) (.inl (.inr ⟨{cls := .type "list", data := .seq vs.toArray},if_pos rfl⟩)) (λb u z => ?_) (λb z => ?_) λ_=>hk
  ·by_cases hb:b=a
   ·exact .inr ⟨_,_,if_pos hb⟩
   ·exact .inl (if_neg hb)
  ·by_cases hb:b=a
   ·have z':=(if_pos hb).symm.trans z
    cases z'
    subst hb
    exact⟨ha,by rw[zLm];exact hl,vs,_,rv,ha⟩
   ·have z':=(if_neg hb).symm.trans z
    cases z'
  ·by_cases hb:b=a
   ·exact hb
   ·exact absurd (if_neg hb) z
theorem aI2{l:pv}{k:Nat}{q:Program}{XP:(Str->Option Value)->Heap->Prop}{d:DefRec}{K:wq->qb}{CX:World->CXT}{sp:World->Sp}(hn:l.most=some n)(hn2:n<=sizeLine)(hdf:d.params.defaults=[])(hr:Room k QB)(hY:∀(w:World) (h:Heap),YP w h->(K w.params).In h)(F:∀(w:World) (mg:Str->Option Value) (fa:Addr) (h:Heap),(K w.params).In h->h.Ns jo mg->mg d.name=some (.ref fa) ->
   ∃fd:FuncData,(∀(s:Shared) (u:Value),BindsTo s fd ⟨[u],[]⟩ [(x,u)]) /\
    ∀base:Heap,(K w.params).In base->base.Ns jo mg->FnOk l.prog w (K w.params) mg base (CX w) k fa fd [x] (sp w))(hsp:∀(w:World) (H:Hp) (a:Addr) (ns:List Int),ns.length<=n->Only H->SqL (K w.params) H a (ns.map V.int)->sp w [.ref a] H (λv _=>v = .bl true) λ_ _ _=>False)(hCX:∀(w:World) (H:Hp) (s:Shared) (e:Value) (s':Shared),CX w [] H s (λ_ _ _=>False) e s'->False):
  JS q loose XP YP l.row.toRowW d [] (λf vs=>Jv f vs):=by
 refine Att.yK hn hdf λw s₀ s₁ mg mb fa o pm cd doc a vs ns G Y ho hd hcd hmg hobj hints hlen hg => ?_
 have KX:=hY w _ Y
 obtain⟨fd,hb,hF⟩:=F w mg fa _ KX G.T.g hmg
 exact aGC KX G.T.g G.T.b G.T.builtins G.T.nolimit hg hobj hints (ji hlen hn2) hr hF hb (λH hO hS=>hsp w H a ns hlen hO hS) λH e s'=>hCX w H s₁ e s'
noncomputable def fI(s:Stmt):Arguments:=match s with
 |.FunctionDef _ a _ _ _ _ _ _ _ _=>a
 |_=>{posonlyargs:=[],args:=[],vararg:=none,kwonlyargs:=[],kw_defaults:=[],kwarg:=none,defaults:=[]}
noncomputable def dE(s:Stmt):List Stmt:=match s with
 |.FunctionDef _ _ b _ _ _ _ _ _ _=>b
 |_=>[]
noncomputable def aL(s:Stmt):Scope:=match s with
 |.FunctionDef _ _ _ _ _ _ sc _ _ _=>sc
 |_=>{kind := .function,names:=[],isGenerator:=false,isCoroutine:=false}
abbrev CX0:CXT:=λ_ _ _ _ _ _=>False
abbrev E0:XK:=λ_ _ _=>False
theorem pass0:Passes CX0 X E0:=λ_ _ _ _ _ _ _ h=>h.elim
structure Fun(K:qb)(x qual:Str)(st:Stmt)(f:Addr)(fd:FuncData):Prop where
 ex:∃(oc:Value) (od:Option Addr) (kV doc pm:Value) (an:Option Addr) (cdv ct:Value) (osl:Array (Option Value)),
  fd=xl x qual (fI st) (dE st) (aL st) .none kV doc pm an cdv ct/\K.lookup f=some ⟨oc,od, .func fd,osl⟩/\sk K cdv qual=true
 kp:wm K (.ref f)=true
section
variable {K:qb}
theorem Fun.ok{ps:List Str}{k:Nat}(F:Fun K x qual st f fd)(S:FnScope N ps (aL st))(len:∀vs H Q E,sp vs H Q E->vs.length=ps.length)(hbody:∀(cdv:Value) (A:Around) (outer:List Env) (s:Shared) (H:Hp) (vs:List V) (Q:VK) (E:XK),Room k (A.deeper (xt qual (aL st) s.heap.objs.size f cdv))->sp vs H Q E ->
   ∃t,PSs (fC CX0 P w K mg base N qual (aL st) f cdv A outer s H E).nox (dE st) t/\t {nx:=λ_ H'=>Q .non H',rt:=Q} (start N vs) H):FnOk P w K mg base CX0 (k+1) f fd ps sp:=by
 obtain⟨oc,od,kV,doc,pm,an,cdv,ct,osl,rfl,lk,hcd⟩:=F.ex
 refine aG1 lk hcd S len λA outer s H vs Q E hr hsp => ?_
 obtain⟨t,h,q⟩:=hbody cdv A outer s H vs Q E hr hsp
 exact⟨t,h.nox,q⟩
theorem Fun.binds{ps:List Str}(F:Fun K x qual st f fd)(h:∀(kV doc pm:Value) (an:Option Addr) (cdv ct:Value) (us:List Value),us.length=ps.length->Kk (xl x qual (fI st) (dE st) (aL st) .none kV doc pm an cdv ct) ⟨us,[]⟩=pure (ps.zip us)):Binds K fd ps []:=by
 obtain⟨oc,od,kV,doc,pm,an,cdv,ct,osl,rfl,lk,hcd⟩:=F.ex
 exact .all (h kV doc pm an cdv ct)
theorem aJT{oc:Value}{an:Option Addr}{osl:Array (Option Value)}{kV doc pm cdv ct:Value}(l:K.lookup f=some ⟨oc,od, .func (xl x qual (fI st) (dE st) (aL st) .none kV doc pm an cdv ct),osl⟩)(c:sk K cdv qual=true)(k:wm K (.ref f)=true):Fun K x qual st f (xl x qual (fI st) (dE st) (aL st) .none kV doc pm an cdv ct):=⟨⟨oc,od,kV,doc,pm,an,cdv,ct,osl,rfl,l,c⟩,k⟩
end
section
end
theorem eF{A B:Prop}(h:B):if false=true then A else B:=by
 rw[if_neg zBf]
 exact h
theorem aZ{A B:Prop}(h:A):if true=true then A else B:=by
 rw[if_pos rfl]
 exact h
theorem ite2{c A B:Prop}[Decidable c](h1:c->A)(h2:¬c->B):if c then A else B:=by
 by_cases h:c
 ·rw[if_pos h]
  exact h1 h
 ·rw[if_neg h]
  exact h2 h
noncomputable def Same(H H':Hp):Prop:=∀b o,H b=some o->H' b=some o
theorem Same.refl(H:Hp):Same H H:=λ_ _ h=>h
theorem Same.trans{H2:Hp}(a:Same H H1)(b:Same H1 H2):Same H H2:=λc o h=>b c o (a c o h)
theorem Same.free(e:Same H H'){l:Addr}(h:H' l=Ko):H l=Ko:=by
 cases q:H l with
 |none=>rfl
 |some o =>
  rw[e l o q] at h
  cases h
theorem Same.seq{K:qb}{xs:List V}(e:Same H H')(h:SqL K H a xs):SqL K H' a xs:=by
 rcases h with (h|⟨o,h⟩)|h
 ·exact .inl (.inl (e _ _ h))
 ·exact .inl (.inr ⟨o,e _ _ h⟩)
 ·exact .inr h
end L2
namespace HB
open PySem PySem.W
abbrev S(x:String)(k:Nat):Value := .str (jb x) k
abbrev R(a:Nat):Value := .ref a
abbrev I(a:Int):Value := .int a 0
abbrev J(a:Int)(k:Nat):Value := .int a k
abbrev E(P:wq)(x:String)(k:Nat)(v:Value):DictEntry:=⟨PyData.keyHash P (jb x), .str (jb x) k,v⟩
abbrev tO(l:List Value):Obj:=⟨.type "tuple", none, .seq l.toArray 0,#[]⟩
abbrev vO(l:List Value):Obj:=⟨.none,none, .fields l.toArray,#[]⟩
abbrev dO(l:List DictEntry)(n:Nat):Obj:=⟨.type "dict", none, .dict l.toArray n,#[]⟩
abbrev fO(n:String)(s:Stmt)(pm:Value)(cd:Nat):Obj:=⟨.type "function", none, .func {name:=jb n,qualname:=jb n,params:=L2.fI s,body := .stmts (L2.dE s),scope:=L2.aL s,globals:=3,closure:=[],defaults := .none,kwdefaults := .none,doc := .none,pyModule:=pm,annotations:=none,code := .ref cd,closureTuple := .none,builtins:=0},#[]⟩
abbrev pO(n:String)(s:Stmt):Obj:=⟨.none,none, .func {name:=jb n,qualname:=jb n,params:=L2.fI s,body := .stmts (L2.dE s),scope:=L2.aL s,globals:=0,closure:=[],defaults := .none,kwdefaults := .none,doc := .none,pyModule := .none,annotations:=none,code := .none,closureTuple := .none,builtins:=0},#[]⟩
abbrev cO(n f:String)(t1 t2 t3 l1 c1 c2 c3 c4 a1 a2 a3 a4 a5 t4 l2 t5:Nat)(b:Bool)(k:Nat):Obj:=⟨.type "code", none, .fields #[S n t1,S n t2,S f t3,I l1,I c1,I c2,I c3,I c4,R a1, .bool b,I k,R a2, .none,R a3,R a4,R a5,I t4,I l2,S f t5],#[]⟩
noncomputable def fl:String := "/claim/cut.py"
noncomputable def vs:Nat->List String->List Value
 |_,[]=>[]
 |k,x::xs => .str (jb x) k::vs (k+1) xs
noncomputable def D7(s:Stmt)(n:String)(b t l c:Nat)(ns:List String)(pm:Value):List Obj:=
 [tO [],vO [],tO (vs (t+3) ns),tO [],pO n s,cO n "/claim/cut.py" t (t+1) (t+2) l c 0 0 3 b (b+1) (b+2) (b+3) (b+4) (t+3+ns.length) l (t+4+ns.length) true 181,fO n s pm (b+5)]
noncomputable def ov{a:Type}:List (Nat×a)->List a->List a
 |[],l=>l
 | (i,x)::r,l=>ov r (l.set i x)
noncomputable def ev{a:Type}:Nat->List a->List a
 |0,_=>[]
 |_+1,[]=>[]
 |_+1,[x]=>[x]
 |n+1,x::_::r=>x::ev n r
noncomputable def bt:Nat->List Obj->BT
 |0,_ => .nil
 |_+1,[] => .nil
 |n+1,x::r => .node x (bt n (ev (2^n) r)) (bt n (ev (2^n) r.tail))
abbrev sh(h:Heap)(k:Nat)(os:ym):Shared:=⟨h,Array.mk [],{},k,os⟩
abbrev sT(t:BT)(n k:Nat)(os:ym):SharedT:=⟨t,n,{},Array.mk [],{},k,os⟩
abbrev ps(a b c d:Nat):Pos:=⟨a,b,c,d⟩
abbrev z:Pos:=⟨0,0,0,0⟩
abbrev B:List Frame:=[topFrame z]
theorem mJ:segRunT wd=Vh xa:=by rw[Vo,vm]
theorem eGo:topGo wd=Ve xa:=by rw[Vk,vm]
theorem eSeg:segRun wd=Vf xa:=by rw[Vl,vm]
theorem eTop:topRun wd=Vg xa:=by rw[Vm,vm]
end HB
namespace Q
open PySem
noncomputable def top(i:Nat):Stmt:=PySem.Challenge.pw_roofridges_k50_no_texts.main.body.getD i (.Pass ⟨0,0,0,0⟩)
abbrev kE:Stmt:=top 9
abbrev fQ:Stmt:=top 10
abbrev jL:Stmt:=top 11
abbrev pZ:Stmt:=top 12
abbrev nK:Stmt:=top 15
abbrev kH:Stmt:=top 16
abbrev n9:Stmt:=top 17
abbrev l7:Stmt:=top 18
abbrev lQ:Stmt:=top 19
abbrev nU:Stmt:=top 20
abbrev nR:Stmt:=top 21
abbrev eQ:Stmt:=top 22
abbrev l8:Stmt:=top 23
abbrev gT:Stmt:=top 29
abbrev jB:Stmt:=top 30
abbrev iC:Stmt:=top 31
abbrev iD:Stmt:=top 32
abbrev i6:Stmt:=top 33
abbrev jK:Stmt:=top 34
abbrev qW:Stmt:=top 36
abbrev qY:Stmt:=top 37
abbrev iB:Stmt:=top 38
abbrev i7:Stmt:=top 39
abbrev jN:Stmt:=top 40
abbrev rY:Stmt:=top 41
abbrev kF:Stmt:=top 42
abbrev iX:Stmt:=top 43
abbrev pP:Stmt:=top 44
abbrev nO:Stmt:=top 45
abbrev sD:Stmt:=top 46
abbrev j9:Stmt:=top 47
abbrev rT:Stmt:=top 48
abbrev pV:Stmt:=top 49
end Q
namespace HD
open PySem PySem.W HB Q
noncomputable section
abbrev zS0:Value:=S "law_roofridges_k50_no_texts" 452
abbrev zS1:Value:=S "roofridges.yards" 336
abbrev zS2:Value:=S "roofridges.errors" 187
abbrev zS3:Value:=S "roofridges.texts" 394
abbrev zS4:Value:=S "roofridges.fractions" 303
abbrev zS5:Value:=S "RoofError" 197
abbrev zS6:Value:=S "RoofError" 189
noncomputable def es3(P:wq):List DictEntry:=[E P "__name__" 165 HD.zS0,E P "__doc__" 166 .none,E P "__package__" 167 .none,E P "__loader__" 168 (.builtin "__main__.__loader__#opaque"),E P "__spec__" 169 .none,E P "__annotations__" 170 (R 6),E P "__builtins__" 171 (R 4),E P "__file__" 173 (172).8,E P "__cached__" 174 .none,E P "RoofError" 206 (R 24),E P "NoNumber" 222 (R 37),E P "NoYard" 238 (R 49),E P "NoPoint" 254 (R 61),E P "NoText" 270 (R 73),E P "NoRow" 286 (R 85),E P "NoName" 302 (R 97),E P "is_whole" 311 (R 106),E P "common_divisor" 320 (R 113),E P "is_number" 327 (R 120),E P "under" 335 (R 127),E P "VOID" 338 (R 131),E P "is_row" 344 (R 136),E P "rows_fit" 350 (R 141),E P "column" 356 (R 146),E P "columns" 362 (R 151),E P "changes" 368 (R 156),E P "picked" 374 (R 161),E P "tidied" 380 (R 166),E P "are_number_lines" 386 (R 171),E P "is_yard" 393 (R 178),E P "MOST_FIGURES" 397 (J 60 396),E P "MOST_LINES" 399 (J 12 398),E P "VOID_TEXT" 401 (S "void" 400),E P "BREAK" 403 (S ";" 402),E P "shown_number" 411 (R 185),E P "shown_yard" 417 (R 190),E P "are_figures" 423 (R 195),E P "read_number" 434 (R 202),E P "read_lines" 440 (R 207),E P "read_yard" 451 (R 214),E P "_law_feed" 463 (R 221),E P "_law_next" 474 (R 228),E P "_law_number_text" 485 (R 235),E P "_law_line_texts" 497 (R 242),E P "_law_yard_text" 503 (R 247),E P "_law_bent" 514 (R 254),E P "_law_is_count" 520 (R 259),E P "_law_is_number" 533 (R 266),E P "_law_value" 543 (R 273),E P "_law_rising" 549 (R 278),E P "_law_tidy" 557 (R 285),E P "_law_is_yard" 563 (R 290),E P "_law_read" 575 (R 297),E P "law" 585 (R 304)]
noncomputable def es12:List Value:=[(I 2),(I 0),(R 20),(I 4),(I 0),(R 33),(I 6),(I 0),(R 45),(I 8),(I 0),(R 57),(I 10),(I 0),(R 69),(I 12),(I 0),(R 81),(I 14),(I 0),(R 93),(I 17),(I 0),(R 105),(I 19),(I 0),(R 112),(I 25),(I 0),(R 119),(I 31),(I 0),(R 126),(I 35),(I 0),(R 135),(I 39),(I 0),(R 140),(I 43),(I 0),(R 145),(I 45),(I 0),(R 150),(I 48),(I 0),(R 155),(I 54),(I 0),(R 160),(I 56),(I 0),(R 165),(I 61),(I 0),(R 170),(I 65),(I 0),(R 177),(I 78),(I 0),(R 184),(I 81),(I 0),(R 189),(I 87),(I 0),(R 194),(I 89),(I 0),(R 201),(I 99),(I 0),(R 206),(I 103),(I 0),(R 213),(I 116),(I 0),(R 220),(I 124),(I 0),(R 227),(I 135),(I 0),(R 234),(I 148),(I 0),(R 241),(I 162),(I 0),(R 246),(I 180),(I 0),(R 253),(I 193),(I 0),(R 258),(I 197),(I 0),(R 265),(I 213),(I 0),(R 272),(I 218),(I 0),(R 277),(I 225),(I 0),(R 284),(I 230),(I 0),(R 289),(I 250),(I 0),(R 296),(I 264),(I 0),(R 303)]
noncomputable def hl0(P:wq):List Obj:=[boot_o_0 P]++[boot_o_1 P]++[boot_o_2 P]++[dO (es3 P) 54]++[boot_o_4 P]++[boot_o_5 P]++[boot_o_6 P]++[boot_o_7 P]++[boot_o_8 P]++[boot_o_9 P]++[boot_o_10 P]++[tO []]
noncomputable def hl1(P:wq):List Obj:=[vO es12]++[⟨.type "code", none, .fields #[(S "<module>" 182),(S "<module>" 183),(184).8,(I 1),(I 0),(I 0),(I 0),(I 0),(R 11),(.bool false),(I 181),(R 12), .none, .none, .none, .none,(I 185),(I 1),(186).8],#[]⟩]++[⟨(.type "frame"),none, .plain,#[some (R 13),some (R 3),some (R 3),none,some (S "__main__" 164),none,some (R 0)]⟩]++[tO [(.type "ValueError")]]++[',']++[dO [E P "__module__" 196 HD.zS2,E P "__qualname__" 198 HD.zS5,E P "__firstlineno__" 200 (J 2 199),E P "__static_attributes__" 201 (R 22)] 4]++[tO []]++[vO []]++[⟨.type "code", none, .fields #[(S "RoofError" 191),(S "RoofError" 192),(193).8,(I 2),(I 0),(I 0),(I 0),(I 0),(R 18),(.bool false),(I 181),(R 19), .none, .none, .none, .none,(I 194),(I 2),(195).8],#[]⟩]++[⟨(.type "frame"),none, .plain,#[some (R 20),some (R 3),some (R 17),none,some HD.zS2,none,some (R 0)]⟩]++[tO []]++[dO [E P "__module__" 196 HD.zS2,E P "__firstlineno__" 200 (J 2 199),E P "__static_attributes__" 201 (R 22),E P "__weakref__" 203 (R 25),E P "__doc__" 204 .none] 3]
noncomputable def hl2(P:wq):List Obj:=[⟨(.type "type"),none, .cls {name := "RoofError", bases:=[(.type "ValueError")],mro:=[(R 24),(.type "ValueError"),(.type "Exception"),(.type "BaseException"),(.type "object")],ns:=23,qualname := "RoofError", hasDict:=true,slotNames:=[],subclasses:=[(R 37),(R 49),(R 61),(R 73),(R 85),(R 97)],abstract:=false,collection:=none,hasDel:=false},#[some (R 15),none,some HD.zS6,some HD.zS5,some (.builtin "ValueError.__new__"),some (.bool true)]⟩]++[⟨(.type "getset_descriptor"),none, .fields #[(S "__weakref__" 202),(R 24),(.builtin "ExceptionGroup.__weakref__"), .none],#[]⟩]++[⟨(.type "super"),none, .fields #[(R 24),(R 24),(R 24)],#[]⟩]++[⟨(.type "builtin_function_or_method"),none, .fields #[(.builtin "object.__init_subclass__"),(R 24)],#[]⟩]++[tO [(R 24)]]++[',']++[dO [E P "__module__" 214 HD.zS2,E P "__qualname__" 216 (S "NoNumber" 215),E P "__firstlineno__" 218 (J 4 217),E P "__static_attributes__" 219 (R 35)] 4]++[tO []]++[vO []]++[⟨.type "code", none, .fields #[(S "NoNumber" 209),(S "NoNumber" 210),(211).8,(I 4),(I 0),(I 0),(I 0),(I 0),(R 31),(.bool false),(I 181),(R 32), .none, .none, .none, .none,(I 212),(I 4),(213).8],#[]⟩]++[⟨(.type "frame"),none, .plain,#[some (R 33),some (R 3),some (R 30),none,some HD.zS2,none,some (R 0)]⟩]++[tO []]
noncomputable def hl3(P:wq):List Obj:=[dO [E P "__module__" 214 HD.zS2,E P "__firstlineno__" 218 (J 4 217),E P "__static_attributes__" 219 (R 35),E P "__doc__" 220 .none] 2]++[⟨(.type "type"),none, .cls {name := "NoNumber", bases:=[(R 24)],mro:=[(R 37),(R 24),(.type "ValueError"),(.type "Exception"),(.type "BaseException"),(.type "object")],ns:=36,qualname := "NoNumber", hasDict:=true,slotNames:=[],subclasses:=[],abstract:=false,collection:=none,hasDel:=false},#[some (R 28),none,some (S "NoNumber" 207),some (S "NoNumber" 215),some (.builtin "ValueError.__new__"),some (.bool true)]⟩]++[⟨(.type "super"),none, .fields #[(R 37),(R 37),(R 37)],#[]⟩]++[⟨(.type "builtin_function_or_method"),none, .fields #[(.builtin "object.__init_subclass__"),(R 37)],#[]⟩]++[tO [(R 24)]]++[',']++[dO [E P "__module__" 230 HD.zS2,E P "__qualname__" 232 (S "NoYard" 231),E P "__firstlineno__" 234 (J 6 233),E P "__static_attributes__" 235 (R 47)] 4]++[tO []]++[vO []]++[⟨.type "code", none, .fields #[(S "NoYard" 225),(S "NoYard" 226),(227).8,(I 6),(I 0),(I 0),(I 0),(I 0),(R 43),(.bool false),(I 181),(R 44), .none, .none, .none, .none,(I 228),(I 6),(229).8],#[]⟩]++[⟨(.type "frame"),none, .plain,#[some (R 45),some (R 3),some (R 42),none,some HD.zS2,none,some (R 0)]⟩]++[tO []]
noncomputable def hl4(P:wq):List Obj:=[dO [E P "__module__" 230 HD.zS2,E P "__firstlineno__" 234 (J 6 233),E P "__static_attributes__" 235 (R 47),E P "__doc__" 236 .none] 2]++[⟨(.type "type"),none, .cls {name := "NoYard", bases:=[(R 24)],mro:=[(R 49),(R 24),(.type "ValueError"),(.type "Exception"),(.type "BaseException"),(.type "object")],ns:=48,qualname := "NoYard", hasDict:=true,slotNames:=[],subclasses:=[],abstract:=false,collection:=none,hasDel:=false},#[some (R 40),none,some (S "NoYard" 223),some (S "NoYard" 231),some (.builtin "ValueError.__new__"),some (.bool true)]⟩]++[⟨(.type "super"),none, .fields #[(R 49),(R 49),(R 49)],#[]⟩]++[⟨(.type "builtin_function_or_method"),none, .fields #[(.builtin "object.__init_subclass__"),(R 49)],#[]⟩]++[tO [(R 24)]]++[',']++[dO [E P "__module__" 246 HD.zS2,E P "__qualname__" 248 (S "NoPoint" 247),E P "__firstlineno__" 250 (J 8 249),E P "__static_attributes__" 251 (R 59)] 4]++[tO []]++[vO []]++[⟨.type "code", none, .fields #[(S "NoPoint" 241),(S "NoPoint" 242),(243).8,(I 8),(I 0),(I 0),(I 0),(I 0),(R 55),(.bool false),(I 181),(R 56), .none, .none, .none, .none,(I 244),(I 8),(245).8],#[]⟩]++[⟨(.type "frame"),none, .plain,#[some (R 57),some (R 3),some (R 54),none,some HD.zS2,none,some (R 0)]⟩]++[tO []]
noncomputable def hl5(P:wq):List Obj:=[dO [E P "__module__" 246 HD.zS2,E P "__firstlineno__" 250 (J 8 249),E P "__static_attributes__" 251 (R 59),E P "__doc__" 252 .none] 2]++[⟨(.type "type"),none, .cls {name := "NoPoint", bases:=[(R 24)],mro:=[(R 61),(R 24),(.type "ValueError"),(.type "Exception"),(.type "BaseException"),(.type "object")],ns:=60,qualname := "NoPoint", hasDict:=true,slotNames:=[],subclasses:=[],abstract:=false,collection:=none,hasDel:=false},#[some (R 52),none,some (S "NoPoint" 239),some (S "NoPoint" 247),some (.builtin "ValueError.__new__"),some (.bool true)]⟩]++[⟨(.type "super"),none, .fields #[(R 61),(R 61),(R 61)],#[]⟩]++[⟨(.type "builtin_function_or_method"),none, .fields #[(.builtin "object.__init_subclass__"),(R 61)],#[]⟩]++[tO [(R 24)]]++[',']++[dO [E P "__module__" 262 HD.zS2,E P "__qualname__" 264 (S "NoText" 263),E P "__firstlineno__" 266 (J 10 265),E P "__static_attributes__" 267 (R 71)] 4]++[tO []]++[vO []]++[⟨.type "code", none, .fields #[(S "NoText" 257),(S "NoText" 258),(259).8,(I 10),(I 0),(I 0),(I 0),(I 0),(R 67),(.bool false),(I 181),(R 68), .none, .none, .none, .none,(I 260),(I 10),(261).8],#[]⟩]++[⟨(.type "frame"),none, .plain,#[some (R 69),some (R 3),some (R 66),none,some HD.zS2,none,some (R 0)]⟩]++[tO []]
noncomputable def hl6(P:wq):List Obj:=[dO [E P "__module__" 262 HD.zS2,E P "__firstlineno__" 266 (J 10 265),E P "__static_attributes__" 267 (R 71),E P "__doc__" 268 .none] 2]++[⟨(.type "type"),none, .cls {name := "NoText", bases:=[(R 24)],mro:=[(R 73),(R 24),(.type "ValueError"),(.type "Exception"),(.type "BaseException"),(.type "object")],ns:=72,qualname := "NoText", hasDict:=true,slotNames:=[],subclasses:=[],abstract:=false,collection:=none,hasDel:=false},#[some (R 64),none,some (S "NoText" 255),some (S "NoText" 263),some (.builtin "ValueError.__new__"),some (.bool true)]⟩]++[⟨(.type "super"),none, .fields #[(R 73),(R 73),(R 73)],#[]⟩]++[⟨(.type "builtin_function_or_method"),none, .fields #[(.builtin "object.__init_subclass__"),(R 73)],#[]⟩]++[tO [(R 24)]]++[',']++[dO [E P "__module__" 278 HD.zS2,E P "__qualname__" 280 (S "NoRow" 279),E P "__firstlineno__" 282 (J 12 281),E P "__static_attributes__" 283 (R 83)] 4]++[tO []]++[vO []]++[⟨.type "code", none, .fields #[(S "NoRow" 273),(S "NoRow" 274),(275).8,(I 12),(I 0),(I 0),(I 0),(I 0),(R 79),(.bool false),(I 181),(R 80), .none, .none, .none, .none,(I 276),(I 12),(277).8],#[]⟩]++[⟨(.type "frame"),none, .plain,#[some (R 81),some (R 3),some (R 78),none,some HD.zS2,none,some (R 0)]⟩]++[tO []]
noncomputable def hl7(P:wq):List Obj:=[dO [E P "__module__" 278 HD.zS2,E P "__firstlineno__" 282 (J 12 281),E P "__static_attributes__" 283 (R 83),E P "__doc__" 284 .none] 2]++[⟨(.type "type"),none, .cls {name := "NoRow", bases:=[(R 24)],mro:=[(R 85),(R 24),(.type "ValueError"),(.type "Exception"),(.type "BaseException"),(.type "object")],ns:=84,qualname := "NoRow", hasDict:=true,slotNames:=[],subclasses:=[],abstract:=false,collection:=none,hasDel:=false},#[some (R 76),none,some (S "NoRow" 271),some (S "NoRow" 279),some (.builtin "ValueError.__new__"),some (.bool true)]⟩]++[⟨(.type "super"),none, .fields #[(R 85),(R 85),(R 85)],#[]⟩]++[⟨(.type "builtin_function_or_method"),none, .fields #[(.builtin "object.__init_subclass__"),(R 85)],#[]⟩]++[tO [(R 24)]]++[',']++[dO [E P "__module__" 294 HD.zS2,E P "__qualname__" 296 (S "NoName" 295),E P "__firstlineno__" 298 (J 14 297),E P "__static_attributes__" 299 (R 95)] 4]++[tO []]++[vO []]++[⟨.type "code", none, .fields #[(S "NoName" 289),(S "NoName" 290),(291).8,(I 14),(I 0),(I 0),(I 0),(I 0),(R 91),(.bool false),(I 181),(R 92), .none, .none, .none, .none,(I 292),(I 14),(293).8],#[]⟩]++[⟨(.type "frame"),none, .plain,#[some (R 93),some (R 3),some (R 90),none,some HD.zS2,none,some (R 0)]⟩]++[tO []]
noncomputable def hl8(P:wq):List Obj:=[dO [E P "__module__" 294 HD.zS2,E P "__firstlineno__" 298 (J 14 297),E P "__static_attributes__" 299 (R 95),E P "__doc__" 300 .none] 2]++[⟨(.type "type"),none, .cls {name := "NoName", bases:=[(R 24)],mro:=[(R 97),(R 24),(.type "ValueError"),(.type "Exception"),(.type "BaseException"),(.type "object")],ns:=96,qualname := "NoName", hasDict:=true,slotNames:=[],subclasses:=[],abstract:=false,collection:=none,hasDel:=false},#[some (R 88),none,some (S "NoName" 287),some (S "NoName" 295),some (.builtin "ValueError.__new__"),some (.bool true)]⟩]++[⟨(.type "super"),none, .fields #[(R 97),(R 97),(R 97)],#[]⟩]++[⟨(.type "builtin_function_or_method"),none, .fields #[(.builtin "object.__init_subclass__"),(R 97)],#[]⟩]++D7 (Q.top 9) "is_whole" 100 305 17 1 ["thing"] HD.zS4++D7 (Q.top 10) "common_divisor" 107 312 19 2 ["one", "other", "rest"] HD.zS4++D7 (Q.top 11) "is_number" 114 321 25 1 ["thing"] HD.zS4++D7 (Q.top 12) "under" 121 328 31 2 ["one", "other"] HD.zS4++[tO []]++[tO []]++[tO []]++[tO [(R 128),(R 129),(R 130)]]
noncomputable def hl9(P:wq):List Obj:=[tO []]++[vO []]++[pO "is_row" (Q.top 15)]++[⟨.type "code", none, .fields #[(S "is_row" 339),(S "is_row" 340),(341).8,(I 35),(I 2),(I 0),(I 0),(I 3),(R 132),(.bool true),(I 181),(R 133), .none, .none, .none,(R 134),(I 342),(I 35),(343).8],#[]⟩]++[fO "is_row" (Q.top 15) HD.zS1 135]++[tO []]++[vO []]++[pO "rows_fit" (Q.top 16)]++[⟨.type "code", none, .fields #[(S "rows_fit" 345),(S "rows_fit" 346),(347).8,(I 39),(I 3),(I 0),(I 0),(I 3),(R 137),(.bool true),(I 181),(R 138), .none, .none, .none,(R 139),(I 348),(I 39),(349).8],#[]⟩]++[fO "rows_fit" (Q.top 16) HD.zS1 140]++[tO []]++[vO []]
noncomputable def hl10(P:wq):List Obj:=[pO "column" (Q.top 17)]++[⟨.type "code", none, .fields #[(S "column" 351),(S "column" 352),(353).8,(I 43),(I 2),(I 0),(I 0),(I 3),(R 142),(.bool true),(I 181),(R 143), .none, .none, .none,(R 144),(I 354),(I 43),(355).8],#[]⟩]++[fO "column" (Q.top 17) HD.zS1 145]++[tO []]++[vO []]++[pO "columns" (Q.top 18)]++[⟨.type "code", none, .fields #[(S "columns" 357),(S "columns" 358),(359).8,(I 45),(I 1),(I 0),(I 0),(I 3),(R 147),(.bool true),(I 181),(R 148), .none, .none, .none,(R 149),(I 360),(I 45),(361).8],#[]⟩]++[fO "columns" (Q.top 18) HD.zS1 150]++[tO []]++[vO []]++[pO "changes" (Q.top 19)]++[⟨.type "code", none, .fields #[(S "changes" 363),(S "changes" 364),(365).8,(I 48),(I 1),(I 0),(I 0),(I 3),(R 152),(.bool true),(I 181),(R 153), .none, .none, .none,(R 154),(I 366),(I 48),(367).8],#[]⟩]
noncomputable def hl11(P:wq):List Obj:=[fO "changes" (Q.top 19) HD.zS1 155]++[tO []]++[vO []]++[pO "picked" (Q.top 20)]++[⟨.type "code", none, .fields #[(S "picked" 369),(S "picked" 370),(371).8,(I 54),(I 2),(I 0),(I 0),(I 3),(R 157),(.bool true),(I 181),(R 158), .none, .none, .none,(R 159),(I 372),(I 54),(373).8],#[]⟩]++[fO "picked" (Q.top 20) HD.zS1 160]++[tO []]++[vO []]++[pO "tidied" (Q.top 21)]++[⟨.type "code", none, .fields #[(S "tidied" 375),(S "tidied" 376),(377).8,(I 56),(I 3),(I 0),(I 0),(I 3),(R 162),(.bool true),(I 181),(R 163), .none, .none, .none,(R 164),(I 378),(I 56),(379).8],#[]⟩]++[fO "tidied" (Q.top 21) HD.zS1 165]++[tO []]
noncomputable def hl12(P:wq):List Obj:=[vO []]++[pO "are_number_lines" (Q.top 22)]++[⟨.type "code", none, .fields #[(S "are_number_lines" 381),(S "are_number_lines" 382),(383).8,(I 61),(I 1),(I 0),(I 0),(I 3),(R 167),(.bool true),(I 181),(R 168), .none, .none, .none,(R 169),(I 384),(I 61),(385).8],#[]⟩]++[fO "are_number_lines" (Q.top 22) HD.zS1 170]++D7 (Q.top 23) "is_yard" 172 387 65 1 ["thing"] HD.zS1++D7 (Q.top 29) "shown_number" 179 404 78 1 ["number", "top"] HD.zS3++[tO []]++[vO []]++[pO "shown_yard" (Q.top 30)]++[⟨.type "code", none, .fields #[(S "shown_yard" 412),(S "shown_yard" 413),(414).8,(I 81),(I 1),(I 0),(I 0),(I 3),(R 186),(.bool true),(I 181),(R 187), .none, .none, .none,(R 188),(I 415),(I 81),(416).8],#[]⟩]++[fO "shown_yard" (Q.top 30) HD.zS3 189]++[tO []]
noncomputable def hl13(P:wq):List Obj:=[vO []]++[pO "are_figures" (Q.top 31)]++[⟨.type "code", none, .fields #[(S "are_figures" 418),(S "are_figures" 419),(420).8,(I 87),(I 1),(I 0),(I 0),(I 3),(R 191),(.bool true),(I 181),(R 192), .none, .none, .none,(R 193),(I 421),(I 87),(422).8],#[]⟩]++[fO "are_figures" (Q.top 31) HD.zS3 194]++D7 (Q.top 32) "read_number" 196 424 89 1 ["text", "halves", "top", "bottom", "number"] HD.zS3++[tO []]++[vO []]++[pO "read_lines" (Q.top 33)]++[⟨.type "code", none, .fields #[(S "read_lines" 435),(S "read_lines" 436),(437).8,(I 99),(I 1),(I 0),(I 0),(I 3),(R 203),(.bool true),(I 181),(R 204), .none, .none, .none,(R 205),(I 438),(I 99),(439).8],#[]⟩]++[fO "read_lines" (Q.top 33) HD.zS3 206]++D7 (Q.top 34) "read_yard" 208 441 103 1 ["text", "words", "first", "second", "yard"] HD.zS3++D7 (Q.top 36) "_law_feed" 215 454 116 2 ["_law_script", "_law_k", "_law_cell", "_law_great"] HD.zS0
noncomputable def hl14(P:wq):List Obj:=D7 (Q.top 37) "_law_next" 222 464 124 2 ["_law_feed_here", "_law_many", "_law_digit", "_law_step", "_law_mixed"] HD.zS0++D7 (Q.top 38) "_law_number_text" 229 475 135 1 ["_law_feed_here", "_law_way", "_law_far", "_law_first", "_law_second"] HD.zS0++D7 (Q.top 39) "_law_line_texts" 236 486 148 2 ["_law_feed_here", "_law_many", "_law_found", "_law_at", "_law_k", "_law_way"] HD.zS0++[tO []]++[vO []]++[pO "_law_yard_text" (Q.top 40)]++[⟨.type "code", none, .fields #[(S "_law_yard_text" 498),(S "_law_yard_text" 499),(500).8,(I 162),(I 1),(I 0),(I 0),(I 3),(R 243),(.bool true),(I 181),(R 244), .none, .none, .none,(R 245),(I 501),(I 162),(502).8],#[]⟩]++[fO "_law_yard_text" (Q.top 40) HD.zS0 246]++D7 (Q.top 41) "_law_bent" 248 504 180 2 ["_law_feed_here", "_law_text", "_law_at", "_law_sign", "_law_way"] HD.zS0++[tO []]++[vO []]++[pO "_law_is_count" (Q.top 42)]
noncomputable def hl15(P:wq):List Obj:=[⟨.type "code", none, .fields #[(S "_law_is_count" 515),(S "_law_is_count" 516),(517).8,(I 193),(I 1),(I 0),(I 0),(I 3),(R 255),(.bool true),(I 181),(R 256), .none, .none, .none,(R 257),(I 518),(I 193),(519).8],#[]⟩]++[fO "_law_is_count" (Q.top 42) HD.zS0 258]++D7 (Q.top 43) "_law_is_number" 260 521 197 1 ["_law_text", "_law_first", "_law_stroke", "_law_second", "_law_figures", "_law_one", "_law_other"] HD.zS0++D7 (Q.top 44) "_law_value" 267 534 213 1 ["_law_text", "_law_first", "_law_stroke", "_law_second"] HD.zS0++[tO []]++[vO []]++[pO "_law_rising" (Q.top 45)]++[⟨.type "code", none, .fields #[(S "_law_rising" 544),(S "_law_rising" 545),(546).8,(I 218),(I 1),(I 0),(I 0),(I 3),(R 274),(.bool true),(I 181),(R 275), .none, .none, .none,(R 276),(I 547),(I 218),(548).8],#[]⟩]++[fO "_law_rising" (Q.top 45) HD.zS0 277]++D7 (Q.top 46) "_law_tidy" 279 550 225 1 ["_law_rows", "_law_k"] HD.zS0++[tO []]++[vO []]
noncomputable def hl16(P:wq):List Obj:=[pO "_law_is_yard" (Q.top 47)]++[⟨.type "code", none, .fields #[(S "_law_is_yard" 558),(S "_law_is_yard" 559),(560).8,(I 230),(I 1),(I 0),(I 0),(I 3),(R 286),(.bool true),(I 181),(R 287), .none, .none, .none,(R 288),(I 561),(I 230),(562).8],#[]⟩]++[fO "_law_is_yard" (Q.top 47) HD.zS0 289]++D7 (Q.top 48) "_law_read" 291 564 250 2 ["_law_way", "_law_text", "_law_found", "_law_caught", "e", "_law_other"] HD.zS0++D7 (Q.top 49) "law" 298 576 264 1 ["_law_script", "_law_turn", "_law_feed_here", "_law_text"] HD.zS0
noncomputable def hl(P:wq):List Obj:=hl0 P++hl1 P++hl2 P++hl3 P++hl4 P++hl5 P++hl6 P++hl7 P++hl8 P++hl9 P++hl10 P++hl11 P++hl12 P++hl13 P++hl14 P++hl15 P++hl16 P
noncomputable def hA(P:wq):Heap:=⟨Array.mk (ov [(3,boot_o_3 P),(12,vO (es12.take 0))] ((hl P).take 15)),{}⟩
noncomputable def env:Env:={scope:=PySem.Challenge.pw_roofridges_k50_no_texts.main.scope,locals:=mainNs,globals:=mainNs,cells:=[],code:=(R 13),frame:=some 14}
abbrev p:Program:=PySem.Challenge.rw_roofridges_k50_no_texts.row.toRowW.1
abbrev bE:List Stmt:=behindTheImports p
abbrev cE:Code := .body bE env
theorem pre(w:World)(os:ym):topGo wd p w 11 (R 6).4 12 ⟨boot_heap w.params,Array.mk [],boot_drawn,boot_toks,os⟩ (topStub p)=some (sh (hA w.params) 187 os,⟨denote wd cE,cE,(ps 0 0 0 0),B⟩):=by rw[eGo,Vn,vm];kernel_rfl!
noncomputable def t0(P:wq):BT:=bt 14 (ov [(3,boot_o_3 P),(12,vO (es12.take 0))] ((hl P).take 15))
theorem block(w:World)(os:ym):segRun wd p w 11 (R 6).4 1 1 (sh (hA w.params) 187 os) (blockOf bE env cE (ps 0 0 0 0) B)=some (.next,(sT (t0 w.params) 15 187 os).abs,cE,(ps 0 0 0 0)):=by rw[eSeg];kernel_rfl!
noncomputable def t1(P:wq):BT:=bt 14 (ov [(3,dO (ov [(0,E P "__name__" 165 HD.zS2)] ((es3 P).take 10)) 10),(12,vO (es12.take 3)),(24,⟨(.type "type"),none, .cls {name := "RoofError", bases:=[(.type "ValueError")],mro:=[(R 24),(.type "ValueError"),(.type "Exception"),(.type "BaseException"),(.type "object")],ns:=23,qualname := "RoofError", hasDict:=true,slotNames:=[],subclasses:=[],abstract:=false,collection:=none,hasDel:=false},#[some (R 15),none,some HD.zS6,some HD.zS5,some (.builtin "ValueError.__new__"),some (.bool true)]⟩)] ((hl P).take 28))
noncomputable def g1:List Stmt:=[Q.top 0,Q.top 1]
theorem r1(w:World)(os:ym):segRunT wd p w 11 (R 6).4 1 196 (sT (t0 w.params) 15 187 os) (piecesOf g1 env cE (ps 0 0 0 0) B)=some (.next,sT (t1 w.params) 28 207 os,cE,(ps 2 0 3 8)):=by rw[mJ];kernel_rfl!
noncomputable def t2(P:wq):BT:=bt 14 (ov [(3,dO (ov [(0,E P "__name__" 165 HD.zS2)] ((es3 P).take 11)) 11),(12,vO (es12.take 6)),(24,⟨(.type "type"),none, .cls {name := "RoofError", bases:=[(.type "ValueError")],mro:=[(R 24),(.type "ValueError"),(.type "Exception"),(.type "BaseException"),(.type "object")],ns:=23,qualname := "RoofError", hasDict:=true,slotNames:=[],subclasses:=[(R 37)],abstract:=false,collection:=none,hasDel:=false},#[some (R 15),none,some HD.zS6,some HD.zS5,some (.builtin "ValueError.__new__"),some (.bool true)]⟩)] ((hl P).take 40))
noncomputable def g2:List Stmt:=[Q.top 2]
theorem r2(w:World)(os:ym):segRunT wd p w 11 (R 6).4 1 214 (sT (t1 w.params) 28 207 os) (piecesOf g2 env cE (ps 2 0 3 8) B)=some (.next,sT (t2 w.params) 40 223 os,cE,(ps 4 0 5 8)):=by rw[mJ];kernel_rfl!
noncomputable def t3(P:wq):BT:=bt 14 (ov [(3,dO (ov [(0,E P "__name__" 165 HD.zS2)] ((es3 P).take 12)) 12),(12,vO (es12.take 9)),(24,⟨(.type "type"),none, .cls {name := "RoofError", bases:=[(.type "ValueError")],mro:=[(R 24),(.type "ValueError"),(.type "Exception"),(.type "BaseException"),(.type "object")],ns:=23,qualname := "RoofError", hasDict:=true,slotNames:=[],subclasses:=[(R 37),(R 49)],abstract:=false,collection:=none,hasDel:=false},#[some (R 15),none,some HD.zS6,some HD.zS5,some (.builtin "ValueError.__new__"),some (.bool true)]⟩)] ((hl P).take 52))
noncomputable def g3:List Stmt:=[Q.top 3]
theorem r3(w:World)(os:ym):segRunT wd p w 11 (R 6).4 1 214 (sT (t2 w.params) 40 223 os) (piecesOf g3 env cE (ps 4 0 5 8) B)=some (.next,sT (t3 w.params) 52 239 os,cE,(ps 6 0 7 8)):=by rw[mJ];kernel_rfl!
noncomputable def t4(P:wq):BT:=bt 14 (ov [(3,dO (ov [(0,E P "__name__" 165 HD.zS2)] ((es3 P).take 13)) 13),(12,vO (es12.take 12)),(24,⟨(.type "type"),none, .cls {name := "RoofError", bases:=[(.type "ValueError")],mro:=[(R 24),(.type "ValueError"),(.type "Exception"),(.type "BaseException"),(.type "object")],ns:=23,qualname := "RoofError", hasDict:=true,slotNames:=[],subclasses:=[(R 37),(R 49),(R 61)],abstract:=false,collection:=none,hasDel:=false},#[some (R 15),none,some HD.zS6,some HD.zS5,some (.builtin "ValueError.__new__"),some (.bool true)]⟩)] ((hl P).take 64))
noncomputable def g4:List Stmt:=[Q.top 4]
theorem r4(w:World)(os:ym):segRunT wd p w 11 (R 6).4 1 214 (sT (t3 w.params) 52 239 os) (piecesOf g4 env cE (ps 6 0 7 8) B)=some (.next,sT (t4 w.params) 64 255 os,cE,(ps 8 0 9 8)):=by rw[mJ];kernel_rfl!
noncomputable def t5(P:wq):BT:=bt 14 (ov [(3,dO (ov [(0,E P "__name__" 165 HD.zS2)] ((es3 P).take 14)) 14),(12,vO (es12.take 15)),(24,⟨(.type "type"),none, .cls {name := "RoofError", bases:=[(.type "ValueError")],mro:=[(R 24),(.type "ValueError"),(.type "Exception"),(.type "BaseException"),(.type "object")],ns:=23,qualname := "RoofError", hasDict:=true,slotNames:=[],subclasses:=[(R 37),(R 49),(R 61),(R 73)],abstract:=false,collection:=none,hasDel:=false},#[some (R 15),none,some HD.zS6,some HD.zS5,some (.builtin "ValueError.__new__"),some (.bool true)]⟩)] ((hl P).take 76))
noncomputable def g5:List Stmt:=[Q.top 5]
theorem r5(w:World)(os:ym):segRunT wd p w 11 (R 6).4 1 214 (sT (t4 w.params) 64 255 os) (piecesOf g5 env cE (ps 8 0 9 8) B)=some (.next,sT (t5 w.params) 76 271 os,cE,(ps 10 0 11 8)):=by rw[mJ];kernel_rfl!
noncomputable def t6(P:wq):BT:=bt 14 (ov [(3,dO (ov [(0,E P "__name__" 165 HD.zS2)] ((es3 P).take 15)) 15),(12,vO (es12.take 18)),(24,⟨(.type "type"),none, .cls {name := "RoofError", bases:=[(.type "ValueError")],mro:=[(R 24),(.type "ValueError"),(.type "Exception"),(.type "BaseException"),(.type "object")],ns:=23,qualname := "RoofError", hasDict:=true,slotNames:=[],subclasses:=[(R 37),(R 49),(R 61),(R 73),(R 85)],abstract:=false,collection:=none,hasDel:=false},#[some (R 15),none,some HD.zS6,some HD.zS5,some (.builtin "ValueError.__new__"),some (.bool true)]⟩)] ((hl P).take 88))
noncomputable def g6:List Stmt:=[Q.top 6]
theorem r6(w:World)(os:ym):segRunT wd p w 11 (R 6).4 1 214 (sT (t5 w.params) 76 271 os) (piecesOf g6 env cE (ps 10 0 11 8) B)=some (.next,sT (t6 w.params) 88 287 os,cE,(ps 12 0 13 8)):=by rw[mJ];kernel_rfl!
noncomputable def t7(P:wq):BT:=bt 14 (ov [(3,dO (ov [(0,E P "__name__" 165 HD.zS1)] ((es3 P).take 22)) 22),(12,vO (es12.take 36))] ((hl P).take 137))
noncomputable def g7:List Stmt:=[Q.top 7,Q.top 8,Q.top 9,Q.top 10,Q.top 11,Q.top 12,Q.top 13,Q.top 14,Q.top 15]
theorem r7(w:World)(os:ym):segRunT wd p w 11 (R 6).4 1 393 (sT (t6 w.params) 88 287 os) (piecesOf g7 env cE (ps 12 0 13 8) B)=some (.next,sT (t7 w.params) 137 345 os,cE,(ps 35 0 38 48)):=by rw[mJ];kernel_rfl!
noncomputable def t8(P:wq):BT:=bt 14 (ov [(3,dO (ov [(0,E P "__name__" 165 HD.zS3)] ((es3 P).take 39)) 39),(12,vO (es12.take 75))] ((hl P).take 208))
noncomputable def g8:List Stmt:=[Q.top 16,Q.top 17,Q.top 18,Q.top 19,Q.top 20,Q.top 21,Q.top 22,Q.top 23,Q.top 24,Q.top 25,Q.top 26,Q.top 27,Q.top 28,Q.top 29,Q.top 30,Q.top 31,Q.top 32,Q.top 33]
theorem r8(w:World)(os:ym):segRunT wd p w 11 (R 6).4 1 398 (sT (t7 w.params) 137 345 os) (piecesOf g8 env cE (ps 35 0 38 48) B)=some (.next,sT (t8 w.params) 208 441 os,cE,(ps 99 0 102 55)):=by rw[mJ];kernel_rfl!
noncomputable def t9(P:wq):BT:=bt 14 (ov [(3,dO (ov [] ((es3 P).take 51)) 51),(12,vO (es12.take 111))] ((hl P).take 286))
noncomputable def g9:List Stmt:=[Q.top 34,Q.top 35,Q.top 36,Q.top 37,Q.top 38,Q.top 39,Q.top 40,Q.top 41,Q.top 42,Q.top 43,Q.top 44,Q.top 45,Q.top 46]
theorem r9(w:World)(os:ym):segRunT wd p w 11 (R 6).4 1 383 (sT (t8 w.params) 208 441 os) (piecesOf g9 env cE (ps 99 0 102 55) B)=some (.next,sT (t9 w.params) 286 558 os,cE,(ps 225 0 229 55)):=by rw[mJ];kernel_rfl!
noncomputable def t10(P:wq):BT:=bt 14 (ov [] ((hl P).take 305))
noncomputable def g10:List Stmt:=[Q.top 47,Q.top 48,Q.top 49]
theorem r10(w:World)(os:ym):segRunT wd p w 11 (R 6).4 1 93 (sT (t9 w.params) 286 558 os) (piecesOf g10 env cE (ps 225 0 229 55) B)=some (.next,sT (t10 w.params) 305 586 os,cE,(ps 264 0 273 93)):=by rw[mJ];kernel_rfl!
noncomputable def hZ(P:wq):Heap:=⟨Array.mk (hl P),{}⟩
theorem fin(w:World)(os:ym):topRun wd p w 11 (R 6).4 2 (sT (t10 w.params) 305 586 os).abs ⟨doneF .next,cE,(ps 264 0 273 93),B⟩=some (sh (hZ w.params) 586 os):=by rw[eTop];kernel_rfl!
theorem body:bE=g1++(g2++(g3++(g4++(g5++(g6++(g7++(g8++(g9++(g10++([])))))))))):=by kernel_rfl!
theorem chain(w:World)(os:ym):topRun wd p w 11 (R 6).4 (196+(214+(214+(214+(214+(214+(393+(398+(383+(93+(2))))))))))) (sT (t0 w.params) 15 187 os).abs (restOf (g1++(g2++(g3++(g4++(g5++(g6++(g7++(g8++(g9++(g10++([]))))))))))) env cE (ps 0 0 0 0) B)=some (sh (hZ w.params) 586 os):=piece_app (segRun_of (r1 w os)) (piece_app (segRun_of (r2 w os)) (piece_app (segRun_of (r3 w os)) (piece_app (segRun_of (r4 w os)) (piece_app (segRun_of (r5 w os)) (piece_app (segRun_of (r6 w os)) (piece_app (segRun_of (r7 w os)) (piece_app (segRun_of (r8 w os)) (piece_app (segRun_of (r9 w os)) (piece_app (segRun_of (r10 w os)) (fin w os))))))))))
theorem run(w:World)(os:ym):topRun wd p w 11 (R 6).4 (12+(1+(196+(214+(214+(214+(214+(214+(393+(398+(383+(93+(2))))))))))))) ⟨boot_heap w.params,Array.mk [],boot_drawn,boot_toks,os⟩ (topStub p)=some (sh (hZ w.params) 586 os):=go_top (pre w os) (piece_block (block w os) (by have h:=chain w os;rw[<- body] at h;exact h))
noncomputable def view:Program:={p with main:={p.main with body:=[Q.top 1,Q.top 2,Q.top 3,Q.top 4,Q.top 5,Q.top 6,Q.top 7,Q.top 9,Q.top 10,Q.top 11,Q.top 12,Q.top 14,Q.top 15,Q.top 16,Q.top 17,Q.top 18,Q.top 19,Q.top 20,Q.top 21,Q.top 22,Q.top 23,Q.top 25,Q.top 26,Q.top 27,Q.top 28,Q.top 29,Q.top 30,Q.top 31,Q.top 32,Q.top 33,Q.top 34,Q.top 36,Q.top 37,Q.top 38,Q.top 39,Q.top 40,Q.top 41,Q.top 42,Q.top 43,Q.top 44,Q.top 45,Q.top 46,Q.top 47,Q.top 48,Q.top 49]} }
noncomputable def ob(P:wq)(i:Nat):Obj:=(hl P).getD i default
noncomputable def zo(P:wq)(a:Nat):Addr×Obj:=(a,ob P a)
noncomputable def K(P:wq):Frag:=[zo P 2,zo P 3,zo P 15,zo P 22,zo P 23,zo P 24,zo P 25,zo P 28,zo P 35,zo P 36,zo P 37,zo P 40,zo P 47,zo P 48,zo P 49,zo P 52,zo P 59,zo P 60,zo P 61,zo P 64,zo P 71,zo P 72,zo P 73,zo P 76,zo P 83,zo P 84,zo P 85,zo P 88,zo P 95,zo P 96,zo P 97,zo P 100,zo P 102,zo P 103,zo P 105,(nat_lit 106,fO "is_whole" (Q.top 9) HD.zS4 105),zo P 107,zo P 109,zo P 110,zo P 112,(nat_lit 113,fO "common_divisor" (Q.top 10) HD.zS4 112),zo P 114,zo P 116,zo P 117,zo P 119,(nat_lit 120,fO "is_number" (Q.top 11) HD.zS4 119),zo P 121,zo P 123,zo P 124,zo P 126,(nat_lit 127,fO "under" (Q.top 12) HD.zS4 126),zo P 128,zo P 129,zo P 130,zo P 131,zo P 132,zo P 135,(nat_lit 136,fO "is_row" (Q.top 15) HD.zS1 135),zo P 137,zo P 140,(nat_lit 141,fO "rows_fit" (Q.top 16) HD.zS1 140),zo P 142,zo P 145,(nat_lit 146,fO "column" (Q.top 17) HD.zS1 145),zo P 147,zo P 150,(nat_lit 151,fO "columns" (Q.top 18) HD.zS1 150),zo P 152,zo P 155,(nat_lit 156,fO "changes" (Q.top 19) HD.zS1 155),zo P 157,zo P 160,(nat_lit 161,fO "picked" (Q.top 20) HD.zS1 160),zo P 162,zo P 165,(nat_lit 166,fO "tidied" (Q.top 21) HD.zS1 165),zo P 167,zo P 170,(nat_lit 171,fO "are_number_lines" (Q.top 22) HD.zS1 170),zo P 172,zo P 174,zo P 175,zo P 177,(nat_lit 178,fO "is_yard" (Q.top 23) HD.zS1 177),zo P 179,zo P 181,zo P 182,zo P 184,(nat_lit 185,fO "shown_number" (Q.top 29) HD.zS3 184),zo P 186,zo P 189,(nat_lit 190,fO "shown_yard" (Q.top 30) HD.zS3 189),zo P 191,zo P 194,(nat_lit 195,fO "are_figures" (Q.top 31) HD.zS3 194),zo P 196,zo P 198,zo P 199,zo P 201,(nat_lit 202,fO "read_number" (Q.top 32) HD.zS3 201),zo P 203,zo P 206,(nat_lit 207,fO "read_lines" (Q.top 33) HD.zS3 206),zo P 208,zo P 210,zo P 211,zo P 213,(nat_lit 214,fO "read_yard" (Q.top 34) HD.zS3 213),zo P 215,zo P 217,zo P 218,zo P 220,(nat_lit 221,fO "_law_feed" (Q.top 36) HD.zS0 220),zo P 222,zo P 224,zo P 225,zo P 227,(nat_lit 228,fO "_law_next" (Q.top 37) HD.zS0 227),zo P 229,zo P 231,zo P 232,zo P 234,(nat_lit 235,fO "_law_number_text" (Q.top 38) HD.zS0 234),zo P 236,zo P 238,zo P 239,zo P 241,(nat_lit 242,fO "_law_line_texts" (Q.top 39) HD.zS0 241),zo P 243,zo P 246,(nat_lit 247,fO "_law_yard_text" (Q.top 40) HD.zS0 246),zo P 248,zo P 250,zo P 251,zo P 253,(nat_lit 254,fO "_law_bent" (Q.top 41) HD.zS0 253),zo P 255,zo P 258,(nat_lit 259,fO "_law_is_count" (Q.top 42) HD.zS0 258),zo P 260,zo P 262,zo P 263,zo P 265,(nat_lit 266,fO "_law_is_number" (Q.top 43) HD.zS0 265),zo P 267,zo P 269,zo P 270,zo P 272,(nat_lit 273,fO "_law_value" (Q.top 44) HD.zS0 272),zo P 274,zo P 277,(nat_lit 278,fO "_law_rising" (Q.top 45) HD.zS0 277),zo P 279,zo P 281,zo P 282,zo P 284,(nat_lit 285,fO "_law_tidy" (Q.top 46) HD.zS0 284),zo P 286,zo P 289,(nat_lit 290,fO "_law_is_yard" (Q.top 47) HD.zS0 289),zo P 291,zo P 293,zo P 294,zo P 296,(nat_lit 297,fO "_law_read" (Q.top 48) HD.zS0 296),zo P 298,zo P 300,zo P 301,zo P 303,(nat_lit 304,fO "law" (Q.top 49) HD.zS0 303)]
noncomputable def as:List Addr:=[nat_lit 2,nat_lit 3,nat_lit 15,nat_lit 22,nat_lit 23,nat_lit 24,nat_lit 25,nat_lit 28,nat_lit 35,nat_lit 36,nat_lit 37,nat_lit 40,nat_lit 47,nat_lit 48,nat_lit 49,nat_lit 52,nat_lit 59,nat_lit 60,nat_lit 61,nat_lit 64,nat_lit 71,nat_lit 72,nat_lit 73,nat_lit 76,nat_lit 83,nat_lit 84,nat_lit 85,nat_lit 88,nat_lit 95,nat_lit 96,nat_lit 97,nat_lit 100,nat_lit 102,nat_lit 103,nat_lit 105,nat_lit 106,nat_lit 107,nat_lit 109,nat_lit 110,nat_lit 112,nat_lit 113,nat_lit 114,nat_lit 116,nat_lit 117,nat_lit 119,nat_lit 120,nat_lit 121,nat_lit 123,nat_lit 124,nat_lit 126,nat_lit 127,nat_lit 128,nat_lit 129,nat_lit 130,nat_lit 131,nat_lit 132,nat_lit 135,nat_lit 136,nat_lit 137,nat_lit 140,nat_lit 141,nat_lit 142,nat_lit 145,nat_lit 146,nat_lit 147,nat_lit 150,nat_lit 151,nat_lit 152,nat_lit 155,nat_lit 156,nat_lit 157,nat_lit 160,nat_lit 161,nat_lit 162,nat_lit 165,nat_lit 166,nat_lit 167,nat_lit 170,nat_lit 171,nat_lit 172,nat_lit 174,nat_lit 175,nat_lit 177,nat_lit 178,nat_lit 179,nat_lit 181,nat_lit 182,nat_lit 184,nat_lit 185,nat_lit 186,nat_lit 189,nat_lit 190,nat_lit 191,nat_lit 194,nat_lit 195,nat_lit 196,nat_lit 198,nat_lit 199,nat_lit 201,nat_lit 202,nat_lit 203,nat_lit 206,nat_lit 207,nat_lit 208,nat_lit 210,nat_lit 211,nat_lit 213,nat_lit 214,nat_lit 215,nat_lit 217,nat_lit 218,nat_lit 220,nat_lit 221,nat_lit 222,nat_lit 224,nat_lit 225,nat_lit 227,nat_lit 228,nat_lit 229,nat_lit 231,nat_lit 232,nat_lit 234,nat_lit 235,nat_lit 236,nat_lit 238,nat_lit 239,nat_lit 241,nat_lit 242,nat_lit 243,nat_lit 246,nat_lit 247,nat_lit 248,nat_lit 250,nat_lit 251,nat_lit 253,nat_lit 254,nat_lit 255,nat_lit 258,nat_lit 259,nat_lit 260,nat_lit 262,nat_lit 263,nat_lit 265,nat_lit 266,nat_lit 267,nat_lit 269,nat_lit 270,nat_lit 272,nat_lit 273,nat_lit 274,nat_lit 277,nat_lit 278,nat_lit 279,nat_lit 281,nat_lit 282,nat_lit 284,nat_lit 285,nat_lit 286,nat_lit 289,nat_lit 290,nat_lit 291,nat_lit 293,nat_lit 294,nat_lit 296,nat_lit 297,nat_lit 298,nat_lit 300,nat_lit 301,nat_lit 303,nat_lit 304]
abbrev Hk:Hook:=kHook K as (λ_=>by kernel_rfl!)
theorem opens:∀w:World,(fencedOpening wd p w 5172).map (λs=>(s.heap,s.gens,s.drawn,s.toks))=some (boot_heap w.params,Array.mk [],boot_drawn,boot_toks):=boot_open (by kernel_rfl!) (by kernel_rfl!) (λ_=>by kernel_rfl!)
abbrev Xt:Shared->Bool:=λs=>xlAt view [] s&&recOk (RowW.records PySem.Challenge.rw_roofridges_k50_no_texts.row.toRowW) s
theorem size(w:World):((boot_heap w.params).isNs jo&&(Array.mk ([]:List Km)).size==0,(boot_heap w.params).objs.size,(boot_heap w.params).nsMap jo "__annotations__")=(true,11,(R 6).4):=by kernel_rfl!
theorem look1(w:World)(os:ym):(staticsOk (VP p.main.body) (boot_heap w.params) (hZ w.params)&&namesBound p (hZ w.params)&&gensDone (sh (hZ w.params) 586 os)&&laidKept (boot_heap w.params) (hZ w.params))=true:=by kernel_rfl!
theorem look2(w:World)(os:ym):openSeen view [] (VP p.main.body) Xt true (sh (hZ w.params) 586 os)=openGood view []:=by rw[Vj];kernel_rfl!
theorem look3(w:World)(os:ym):Hk.obs (sh (hZ w.params) 586 os)=Hk.val w:=by kernel_rfl!
theorem left:LeftO p view [] Xt Hk.obs Hk.val 5172 true:=LeftO.of_pieces opens size run (by kernel_rfl!) (λw=>funext λos=>by rw[look1,look2,look3])
theorem said:PySem.Challenge.rw_roofridges_k50_no_texts.wellSaid=true:=by rw[Vi];kernel_rfl!
end
end HD
namespace L2
open PySem PySem.Spec PyProof.Rows
noncomputable def big:Nat:=2^8000
noncomputable def aLE(i j:Int):Prop:=i.natAbs<big/\j.natAbs<big
section
theorem mU:OpR X (bp .Mult) (rI aLE λi j => .int (i*j)):=
 opI λ_ _ _ _ _ _ _ hc q=>mul_int q (IntMulOk.of_le (m:=8000) (n:=8000) (VZ.mpr hc.1) (VZ.mpr hc.2) '*')
noncomputable def wH:V->Option Value
 |.ty n=>some (.type n)
 |.ref C=>some (.ref C)
 |_=>none
theorem yV{c:V}{cu w:Value}(e:wH c=some cu)(r:RelV c w):w=cu:=by
 cases c with
 |ty n=>cases e;exact r
 |ref C=>cases e;exact r
 |_=>cases e
end
theorem aKA{K:qb}{S T:String}{b:Bool}(h1:(Qk S==Qk T)=false)(h2:Jx T=true)(h3:(fastBuiltinMro S).map (·.contains (.type T))=some b):
  v8 K (.type S) (.type T)=some b:=by
 unfold v8 PySem.W.kitCls
 rw[if_neg (by rw[h1];exact zBf)]
 show (if Jx T=true then _ else _)=_
 rw[if_pos h2]
 exact h3
theorem aFD{K:qb}{t:Value}(h:(t==t)=true:=by first|rfl|simp):v8 K t t=some true:=by
 unfold v8;rw[if_pos h]
section
end
end L2
namespace L2
open PySem PySem.Spec PyProof.Rows
noncomputable def ExcAt(a:Addr)(cls:Value)(h:Heap):Prop:=∃o vs,h.get? a=some o/\o.cls=cls/\o.data = .fields vs
theorem ExcAt.ok(x:ExcAt a cls h):eV P w H h a (.ext (ExcAt a cls)):=by
 obtain⟨o,vs,e,r⟩:=id x
 refine⟨x,⟨o,e⟩,λh1 h2 x1 k => ?_⟩
 obtain⟨o',vs',e',r'⟩:=x1
 exact⟨o',vs',k o' e',r'⟩
theorem ExcAt.ty{M:Model}(x:ExcAt a cls h):JT M h (typeOf (.ref a)) cls:=by
 obtain⟨o,vs,e,hc,_⟩:=x
 exact hc▸(KJ e).andThen .now
structure ExcK(K:qb)(C:Addr):Prop where
 cd:(Qf K C).isSome=true
 ga:ya K (.ref C) "__getattribute__" = some (.builtin "BaseException.__getattribute__").4
 gt:ya K (.ref C) "__getattr__" = some none
 cl:ya K (.ref C) "__class__" = some (.builtin "object.__class__").4
 be:Qe K C (.type "BaseException")=some true
 ob:Qe K C (.type "object")=some true
section
variable {E:Value->Shared->Prop}{g:Array Km}{d:Drawn}{t:Nat}{os:ym}{K:qb}
theorem aKG{tp:Value}{R:VI->Shared->Prop}(X:K.In h)(FK:ExcK K C)(x:ExcAt a (.ref C) h)(hq:R (.ok (.ret (.ref C))) ⟨h,g,d,t,os⟩):
  fy (jx prog w) A (.call (.builtin "getset_descriptor.__get__") ⟨[.builtin "object.__class__", .ref a,tp],[]⟩) R ⟨h,g,d,t,os⟩:=by
 have L0:=x.ty (M:=jx prog w)
 have L1:=QF (M:=jx prog w) X FK.ob
 refine J0 Qu.plain WC (Qu.check _ _ _ _ _ _ _ _ WA (WE _ _ _) ?_)
 unfold Builtin.«getset_descriptor.__get__» Qx
 rw[PySem.W.dga_obj]
 refine qy (kq ?_)
 unfold Qw Qy Qv isInstance
 simp only[WB]
 repeat lk
 refine⟨Code.quiet_builtin _ '-',codeAny_builtin WD ?_⟩
 unfold Builtin.«object.__class__» shownTypeOf
 repeat lk
 exact hq
theorem aEZ{nameV:Value}{M:Model}{Q:Unit->Shared->Prop}(X:K.In h)(FK:ExcK K C)(x:ExcAt a (.ref C) h)(hq:Q () ⟨h,g,d,t,os⟩):
  kf M A (K0 "BaseException.__getattribute__" ⟨[.ref a,nameV],[]⟩) Q E ⟨h,g,d,t,os⟩:=by
 have hk:builtinKind "BaseException.__getattribute__" = some .slot:=by decide +kernel
 have hsplit:splitId "BaseException.__getattribute__" = some ("BaseException", "__getattribute__"):=by decide +kernel
 have ha:=PySem.F.args_bexc_ga (.ref a) nameV
 have L0:=x.ty (M:=M)
 have L1:=QF (M:=M) X FK.be
 simp only[K0,hk,hsplit]
 refine qy ?_
 unfold isInstance
 repeat (first|with_reducible refine qy (L0.at ?_)|with_reducible refine L1.at ?_|with_reducible refine qy (L1.at ?_)|wp_step)
 exact hq
theorem aEJ{tk:Tok}{Q:Fin->Shared->Prop}(X:K.In h)(FK:ExcK K C)(x:ExcAt a (.ref C) h)(hq:Q (.done (.ret (.ref C))) ⟨h,g,d,t,os⟩):
  kf (jx prog w) A (Builtin.«object.__getattribute__» ⟨[.ref a, .str "__class__" tk],[]⟩) Q E ⟨h,g,d,t,os⟩:=by
 have hT5:(⟨h,g,d,t,os⟩:Shared).TypeIs (.builtin "object.__class__") "getset_descriptor" := ra
 have f5:=ra
 have f6:=PySem.F.slot_gs_get.lookup
 have f7:=PySem.F.slot_gs_set.lookup
 have L0:=x.ty (M:=jx prog w)
 have L1:=gq (M:=jx prog w) X FK.cl
 repeat (any_goals (first|assumption|with_reducible refine qy (L0.at ?_)|with_reducible refine qy (L1.at ?_)|wp_step))
 refine aKG X FK x ?_
 repeat (any_goals (first|assumption|wp_step))
theorem aH8{tk:Tok}{R:VI->Shared->Prop}(X:K.In h)(FK:ExcK K C)(x:ExcAt a (.ref C) h)(hq:R (.ok (.ret (.ref C))) ⟨h,g,d,t,os⟩):
  fy (jx prog w) A (.call (.builtin "BaseException.__getattribute__") ⟨[.ref a, .str "__class__" tk],[]⟩) R ⟨h,g,d,t,os⟩:=
 J0 Qh.ga.plain PySem.F.entry_bexc_ga (aEZ X FK x (aEJ X FK x hq))
theorem aL9{tk:Tok}{fill expr:Bool}{Q:Value->Shared->Prop}(X:K.In h)(FK:ExcK K C)(x:ExcAt a (.ref C) h)(hq:Q (.ref C) ⟨h,g,d,t,os⟩):
  kf (jx prog w) A (getAttrBy (.ref a) (.str "__class__" tk) fill expr) Q E ⟨h,g,d,t,os⟩:=by
 have f3:=Qh.ga.bind (.ref a)
 have hx0:(expr&&onTheHeap (fq "BaseException.__getattribute__"))=false:=by cases expr <;> rfl
 have hx2:(fq "BaseException.__getattribute__" == fq "object.__getattribute__")=false:=by decide +kernel
 have hx1:(onTheHeap (yr C)&&fq "BaseException.__getattribute__" == fq "object.__getattribute__")=false:=by rw[hx2];rfl
 have L0:=x.ty (M:=jx prog w)
 have L1:=gq (M:=jx prog w) X FK.ga
 have L2:=gq (M:=jx prog w) X FK.gt
 repeat (any_goals (first|assumption|with_reducible refine qy (L0.at ?_)|with_reducible refine qy (L1.at ?_)|with_reducible refine qy (L2.at ?_)|wp_step))
 refine aH8 X FK x ?_
 repeat (any_goals (first|assumption|wp_step))
theorem aHA{Q:Option Value->Shared->Prop}(X:K.In h)(FK:ExcK K C)(x:ExcAt a (.ref C) h)(hq:Q (.ref C).4 ⟨h,g,d,t+1,os⟩):
  kf (jx prog w) A (getAttr? (.ref a) "__class__") Q E ⟨h,g,d,t,os⟩:=by
 unfold getAttr? getAttrBy?
 repeat (any_goals (first|assumption|with_reducible apply aL9 X FK x|wp_step))
theorem wC(FK:ExcK K C):PySem.W.KitX K (.ref a) (.ref C) (ExcAt a (.ref C)) where
 ty:=λ_ _ _ p=>p.ty
 it:=λ_ _ X _=>by
  obtain⟨cdD,hcD⟩:=kr.mp FK.cd
  unfold Qf at hcD
  split at hcD
  ·rename_i c' d' cd' sl' ho
   intro A' Q' E' s' k q
   unfold isType loadHead
   exact qy (wpAny_loadPart (k _ _ (X _ _ ho)) (kq q))
  ·cases hcD
 ne:=λh tp dd its n sl X htp=>by
  obtain⟨cdD,hcD⟩:=kr.mp FK.cd
  refine nz.mpr λq => ?_
  have e:C=tp:=Value.ref.inj (beq_iff_eq.mp q)
  subst e
  unfold Qf at hcD
  split at hcD
  ·rename_i c' d' cd' sl' ho
   have z:=(X _ _ ho).symm.trans htp
   cases z
  ·cases hcD
 ca:=λ{_ _ _ _ _ s} X p k=>by obtain⟨h,g,d,t,os⟩:=s;exact aHA X FK p k
end
section
noncomputable def aLU(K:qb):List V->Hp->VK->Prop:=λxs H Q=>∃a C c cu b,xs=[.ref a,c]/\wH c=some cu/\H a=some (.ext (ExcAt a (.ref C)))/\ExcK K C/\v8 K (.ref C) cu=some b/\Q (.bl b) H
theorem uJ:dS X (.builtin "isinstance") (aLU X.K):=by
 intro pins s σ H xs us Q I r h
 obtain⟨a,C,c,cu,b,rfl,ec,ha,F,e,q⟩:=h
 obtain⟨u,w',rfl,r1,r2⟩:=vals2 r
 cases yV ec r2
 cases r1
 have p:ExcAt a (.ref C) s.heap:=(I.hok a _ ha).1
 exact xw (wC F) I.kIn p e (λz=>nomatch z) λtk=>⟨.bl b,H,I.tok tk,rfl,q⟩
noncomputable def n0:List V->Option (List Value)
 |[]=>some []
 |x::xs=>match wH x,n0 xs with
  |some u,some us=>some (u::us)
  |_,_=>none
theorem xA:∀{xs:List V}{cs us:List Value},n0 xs=some cs->Vals xs us->us=cs
 |[],_,_,e, .nil=>by cases e;rfl
 |x::xs,cs,u::us,e, .cons r t=>by
  unfold n0 at e
  cases h1:wH x with
  |none=>rw[h1] at e;cases e
  |some c =>
   cases h2:n0 xs with
   |none=>rw[h1,h2] at e;cases e
   |some cs' =>
    rw[h1,h2] at e
    cases e
    rw[yV h1 r,xA h2 t]
noncomputable def aKD(K:qb):List V->Hp->VK->Prop:=λxs H Q=>∃a C tp ys cs b,xs=[.ref a, .ref tp]/\H tp=some (.tup ys)/\n0 ys=some cs/\H a=some (.ext (ExcAt a (.ref C)))/\ExcK K C/\gu K (.ref C) cs=some b/\Q (.bl b) H
theorem aBY:dS X (.builtin "isinstance") (aKD X.K):=by
 intro pins s σ H xs us Q I r h
 obtain⟨a,C,tp,ys,cs,b,rfl,ht,ec,ha,F,e,q⟩:=h
 obtain⟨u,w',rfl,r1,r2⟩:=vals2 r
 cases r1;cases r2
 obtain⟨_,its,rv,p⟩:=(show eV X.prog X.w H s.heap tp (.tup ys) from I.hok tp _ ht)
 cases xA ec rv
 obtain⟨⟨cls,dd,data,sl⟩,ho,hc,n,hd⟩:=p
 simp only at hc hd
 subst hc hd
 have p':ExcAt a (.ref C) s.heap:=(I.hok a _ ha).1
 exact PySem.W.kia_tup (wC F) I.kIn p' ho e (λz=>nomatch z) λtk=>⟨.bl b,H,I.tok tk,rfl,q⟩
end
end L2
namespace L2
open PySem PySem.Spec PyProof.Rows
structure Thrown(h₀:Heap)(H':Hp)(e T:Addr)(cls:Value)(h:Heap):Prop where
 ne:h₀.get? e=none
 nT:h₀.get? T=none
 He:H' e=none
 HT:H' T=none
 ob:∃oe vs oT ts a0,h.get? e=some oe/\(oe.cls=cls/\vs[0]?=some a0)/\oe.data = .fields vs/\vs[1]?=some (.ref T)/\T≠e/\h.get? T=some oT/\oT.data = .fields ts/\ts[3]?=some .none
noncomputable def CXR(P:Program)(w:World):CXT:=λouter H s E v s'=>∃e T cls H',v = .ref e/\s'.os=s.os/\lh s'.gens/\Un (frs outer) [] H H' s.heap s'.heap/\HOk P w H' s'.heap /\
 Thrown s.heap H' e T cls s'.heap/\E cls none H'
noncomputable def veil(h:Heap)(l:List Env)(e T:Addr):Heap:=Jz h (e::T::l.filterMap (·.frame))
theorem jE{e b:Addr}{o:Obj}(q:h.get? b=some o)(h1:b≠e)(h2:b≠T)(h3:b∉frs l):(veil h l e T).get? b=some o:=
 QG _ q (λz=>by
  rcases qr.mp z with z|z
  ·exact h1 z
  rcases qr.mp z with z|z
  ·exact h2 z
  ·exact h3 z)
theorem rB{e:Addr}:(veil h l e T).get? e=none:=gr _ (jh ..)
theorem oH{e:Addr}:(veil h l e T).get? T=none:=gr _ (qm _ (jh ..))
theorem kJ{e:Addr}:(veil h l e T).StaysIn h:=λb o q=>QN _ q
theorem jO{l':List Env}{e:Addr}(hl:h.FunFrames base l')(hs:∀env∈l',∀a,env.frame=some a->a∈l.filterMap (·.frame)):h.FunFrames (veil h l e T) l':=
 PySem.W.funFrames_hide hl λenv he a hf=>qm _ (qm _ (hs env he a hf))
theorem obj_some{o:HO}(x:eV P w H h a o):∃u,h.get? a=some u:=by
 cases o with
 |lst xs=>obtain⟨_,_,_,_,e⟩:=x;exact⟨_,e⟩
 |tup xs=>obtain⟨_,_,_,ob,e,_⟩:=x;exact⟨_,e⟩
 |dK kvs=>obtain⟨_,_,_,_,o,_,_,e,_⟩:=x;exact⟨_,e⟩
 |dT kvs=>obtain⟨_,_,_,_,o,_,_,e,_⟩:=x;exact⟨_,e⟩
 |set S n=>obtain⟨o,_,_,_,e,_⟩:=x;exact⟨_,e⟩
 |ins C dx fs=>obtain⟨_,_,_,e,_⟩:=x;exact⟨_,e⟩
 |own y=>obtain⟨_,e⟩:=x;exact⟨_,e⟩
 |xd fs=>obtain⟨_,⟨_,_,_,e,_⟩,_⟩:=x;exact⟨_,e⟩
 |rng lo hi=>obtain⟨_,_,_,e⟩:=x;exact⟨_,e⟩
 |frz ob u=>obtain⟨e,_⟩:=x;exact⟨_,e⟩
 |tbl ps=>exact⟨_,(show h.get? a=some _ from x)⟩
 |met f y=>exact⟨_,(show h.get? a=some _ from x)⟩
 |ext φ=>obtain⟨_,⟨_,e⟩,_⟩:=x;exact⟨_,e⟩
section
theorem aDI{K:qb}{E:XK}{pins:List (Addr×Obj)}{σ:St}{H:Hp}{s:Shared}{e:Addr}{vs:List Value}(I:Inv E.12 pins σ H s)(hx:Ki s.heap h' e (.ref C) vs)(q:E (.ref C) none H):
  (E.12).xe (.ref e) {s with heap:=h' }:=by
 show kf (jx P w) (A.deeper (xt qual scope s₀.heap.objs.size f cd)) (VL (xt qual scope s₀.heap.objs.size f cd) (.ref e)) _ _ _
 have fr:=I.ok.frames
 have stk:=I.stack
 obtain⟨t,he,htn,ht⟩:=hx.there
 have enf:e∉frs (xt qual scope s₀.heap.objs.size f cd::outer):=λhm=>by
  obtain⟨_,o,ho,_⟩:=stk.mem hm
  rw[hx.new] at ho;cases ho
 refine wpAny_leaving_firstW (base:=veil h' (xt qual scope s₀.heap.objs.size f cd::outer) e e) (a0 := .ref t) fr
  (jO (stk.of_keeps λb o hb _=>⟨o,hx.keeps b o hb,rfl⟩) λenv he' a hf=>yo.mpr ⟨env,he',hf⟩) rfl he kJ rB rfl rfl rfl λh2 hL => ?_
 obtain⟨k1,k2,⟨oe,ws,T,oT,ts,g1,g2,g3,g4,g5,g6,g7,g8,g9⟩,k4⟩:=hL
 -- T is new
 have Tnf:T∉frs (xt qual scope s₀.heap.objs.size f cd::outer):=λhm=>by
  obtain⟨_,o,ho,hd⟩:=k2.mem hm
  rw[g7] at ho;cases ho;exact hd ts g8
 have T0:h'.get? T=none:=by
  cases z:h'.get? T with
  |none=>rfl
  |some o=>rw[jE z g6 g6 Tnf] at g5;cases g5
 have Ts:s.heap.get? T=none:=by
  cases z:s.heap.get? T with
  |none=>rfl
  |some o=>rw[hx.keeps _ _ z] at T0;cases T0
 have noH:∀b:Addr,s.heap.get? b=none->H b=none:=λb hb=>by
  cases z:H b with
  |none=>rfl
  |some o =>
   obtain⟨u,hu⟩:∃u,s.heap.get? b=some u:=obj_some (I.hok b o z)
   rw[hb] at hu;cases hu
 have no0:∀b:Addr,s.heap.get? b=none->s₀.heap.get? b=none:=λb hb=>by
  cases z:s₀.heap.get? b with
  |none=>rfl
  |some o =>
   obtain⟨u,hu⟩:=I.base.there b o z (by show b∉([]:List Addr);simp)
   rw[hb] at hu;cases hu
 -- what was in s.heap,but for the frames' slots,is in h2
 have keep:∀b o,s.heap.get? b=some o->b∉frs (xt qual scope s₀.heap.objs.size f cd::outer)->h2.get? b=some o:=λb o hb hn =>
  k1 b o (jE (hx.keeps b o hb) (λz=>by subst z;rw[hx.new] at hb;cases hb) (λz=>by subst z;rw[hx.new] at hb;cases hb) hn)
 have slot:∀b o,s.heap.get? b=some o->b∈frs (xt qual scope s₀.heap.objs.size f cd::outer)->∃sl,h2.get? b=some {o with slots:=sl}:=λb o hb hm=>by
  obtain⟨_,o',ho',hd'⟩:=stk.mem hm
  rw[hb] at ho';cases ho'
  exact k4 b o (hx.keeps b o hb) hd'
 have Lnew:s₀.heap.get? s₀.heap.objs.size=none:=Jd (qj _)
 have nL:∀b o,s₀.heap.get? b=some o->b≠s₀.heap.objs.size:=λb o hb z=>by rw[z,Lnew] at hb;cases hb
 have inF:∀b o,s₀.heap.get? b=some o->b∈frs (xt qual scope s₀.heap.objs.size f cd::outer)->b∈frs outer:=λb o hb hm=>by
  have hm':b∈s₀.heap.objs.size::frs outer:=hm
  exact (qr.mp hm').elim (λz=>absurd z (nL b o hb)) id
 have upF:∀b,b∈frs outer->b∈frs (xt qual scope s₀.heap.objs.size f cd::outer):=λb hb=>qm _ hb
 have nex:∀b:Addr,b∉(E.12).ex:=λb z=>by cases z
 refine⟨e,T, .ref C,H,rfl,I.os,I.bare,⟨λb o hb hn hf _ => ?_,λb o hb hn hf _ => ?_,λb o hb hn _=>I.base.free b o hb hn (nex b),λb o hb _ => ?_,I.base.tups,I.base.frzs,I.base.tbls⟩,?_,⟨no0 e hx.new,no0 T Ts,noH e hx.new,noH T Ts,⟨oe,ws,oT,ts,_,g1,g2,g3,g4,g6,g7,g8,g9⟩⟩,q⟩
 ·exact keep b o (I.base.keep b o hb hn hf (nex b)) λz=>hf (inF b o hb z)
 ·obtain⟨sl,e1⟩:=I.base.slot b o hb hn hf (nex b)
  obtain⟨sl',e2⟩:=slot b _ e1 (upF b hf)
  exact⟨sl',e2⟩
 ·obtain⟨o',e1⟩:=I.base.there b o hb (nex b)
  by_cases hf:b∈frs (xt qual scope s₀.heap.objs.size f cd::outer)
  ·obtain⟨sl',e2⟩:=slot b _ e1 hf
   exact⟨_,e2⟩
  ·exact⟨_,keep b _ e1 hf⟩
 ·intro b o hb
  refine (I.hok b o hb).stay (λc v hc z=>keep c v z λhm => ?_) (λ_ z=>z) λ_ _ z=>z
  have hH:H c≠none:=by
   rcases hc with rfl|hc
   ·rw[hb];exact λz=>nomatch z
   ·rw[hc];exact λz=>nomatch z
  exact hH (I.stkFree c hm)
end
end L2
namespace L2
open PySem PySem.Spec PyProof.Rows
theorem Fun.okX{K:qb}{ps:List Str}{k:Nat}(F:Fun K x qual st f fd)(S:FnScope N ps (aL st))(len:∀vs H Q E,sp vs H Q E->vs.length=ps.length)(hbody:∀(cdv:Value) (A:Around) (outer:List Env) (s:Shared) (H:Hp) (vs:List V) (Q:VK) (E:XK),Room k (A.deeper (xt qual (aL st) s.heap.objs.size f cdv))->sp vs H Q E ->
   ∃t,PSs (fC (CXR P w) P w K mg base N qual (aL st) f cdv A outer s H E) (dE st) t/\t {nx:=λ_ H'=>Q .non H',rt:=Q} (start N vs) H):FnOk P w K mg base (CXR P w) (k+1) f fd ps sp:=by
 obtain⟨oc,od,kV,doc,pm,an,cdv,ct,osl,rfl,lk,hcd⟩:=F.ex
 refine aG1 lk hcd S len λA outer s H vs Q E hr hsp => ?_
 obtain⟨t,h,q⟩:=hbody cdv A outer s H vs Q E hr hsp
 exact⟨t,h,q⟩
noncomputable def bmV:List Value:=[.type "ValueError", .type "Exception", .type "BaseException", .type "object"]
theorem aHT{K:qb}{bmB:List Value}{newId:String}(X:K.In h)(q:xy K C bmB newId=true):
  ∃bm N nm qn bs hdct sn sub ab col dd k0 k1 k2 k3 k5 mN,h.get? C=some (excClassObj nm qn C N bs bm hdct sn sub ab col dd k0 k1 k2 k3 k5 newId)/\h.Ns N mN/\mN "__init__" = none/\OwnTail h bmB bm:=by
 unfold xy at q
 split at q
 ·rename_i dd cd sl ho
  split at q
  ·rename_i C' bm k0 k1 k2 k3 n k5 hm hs
   simp only[qi,beq_iff_eq,JM] at q
   obtain⟨⟨⟨⟨⟨rfl,rfl⟩,hdel⟩,ht⟩,hok⟩,hni⟩:=q
   obtain⟨nm,bs,mro,ns,qn,hd,sn,sub,ab,col,del⟩:=cd
   dsimp only at hm hdel hok hni
   subst hm hdel
   have hsl:sl = #[k0,k1,k2,k3,some (.builtin n),k5]:=by
    obtain⟨l⟩:=sl
    simp only at hs
    rw[hs]
   subst hsl
   exact⟨bm,ns,nm,qn,bs,hd,sn,sub,ab,col,dd,k0,k1,k2,k3,k5,_,X _ _ ho, .of_isNs (PySem.W.isNs_of_in X hok),PySem.W.nsMap_none_of_in X hok hni,PySem.W.tail_of_in X ht⟩
  ·cases q
 ·cases q
noncomputable def Throws(X:Cx)(E:XK):Prop:=∀(pins:List (Addr×Obj)) (σ:St) (H:Hp) (s:Shared) (h':Heap) (e C:Addr) (vs:List Value),Inv X pins σ H s->Ki s.heap h' e (.ref C) vs->E (.ref C) none H->X.xe (.ref e) {s with heap:=h' }
theorem aDS{K:qb}{E:XK}:
  Throws E.12 E:=λ_ _ _ _ _ _ _ _ I hx q=>aDI I hx q
section
variable {E:XK}{np:Pos}{e₀:Expr}{rest:List Expr}{ta:TA}
noncomputable def aJM(E:XK)(C:Addr)(ta:TA):TS:=λ_ σ H=>ta σ H λvs H1=>vs.length<=sizeLine/\E (.ref C) none H1
theorem aFB(thr:Throws X E)(hc:X.calm=true)(hg:Gl X x)(hm:X.mg x=some (.ref C))(q:xy X.K C bmV "ValueError.__new__" = true)(ha:PA X (e₀::rest) ta)(he:qp (e₀::rest) X.env=(false,eval e₀ X.env)::qp rest X.env:=by rfl)(hplain:(x9 cpos (qp rest X.env)).any (·.1)=false:=by rfl)(hd:(x==("__debug__" : Str))=false:=by decide):
  PS X (.Raise (.Call (.Name x np) (e₀::rest) [] cpos).4 none pos) (aJM E C ta):=by
 intro pins s σ H D I h
 obtain⟨tl,N,nm,qn,bs,hdct,sn,sub,ab,col,dd,k0,k1,k2,k3,k5,mN,hC,hN,hni,T⟩:=aHT I.ok.mod.kin q
 refine wpAny_Raise_call_subU (C:=C) (nm:=nm) (q:=qn) (N:=N) (bs:=bs) (bm:=tl) (hdct:=hdct) (sn:=sn) (sub:=sub) (ab:=ab) (col:=col) (dd:=dd) (k0:=k0) (k1:=k1) (k2:=k2) (k3:=k3) (k5:=k5)
  yw yw.hasB yw (mN:=mN) (T.hasType yw.hasBase) (I.ok.hd hc) (by rw[he];show (false||(x9 cpos (qp rest X.env)).any (·.1))=false;rw[hplain];rfl) hni (kL I hg hm ⟨rfl,?_⟩ hd)
 have h':=ha cpos pins s σ H _ I h
 rw[he] at h' ⊢
 refine QT (thn h' λus s1 ⟨vs,H1,I1,r,z,qe⟩=>⟨rfl,by rw[<- r.length];exact z,I1.bk _ _ hC,hN.keeps I1.bk,T.keeps I1.bk,λh2 e hx => ?_⟩)
 exact thr pins σ H1 s1 h2 e C us I1 hx qe
end
structure ThrownX(X:Cx)(pins:List (Addr×Obj))(H':Hp)(e T:Addr)(cls:Value)(h:Heap):Prop where
 e0:X.s₀.heap.get? e=none
 T0:X.s₀.heap.get? T=none
 He:H' e=none
 HT:H' T=none
 eL:e≠X.env.locals
 TL:T≠X.env.locals
 ce:∀x c,X.env.cells.lookup x=some c->c≠e/\c≠T
 pe:∀p∈X.pn++pins,p.1≠e/\p.1≠T
 ob:∃oe vs oT ts a0,h.get? e=some oe/\(oe.cls=cls/\vs[0]?=some a0)/\oe.data = .fields vs/\vs[1]?=some (.ref T)/\T≠e/\h.get? T=some oT/\oT.data = .fields ts/\ts[3]?=some .none
noncomputable def XP(X:Cx)(pins:List (Addr×Obj))(σ:St)(E:XK)(v:Value)(s':Shared):Prop:=∃e T cls H',v = .ref e/\Inv X pins σ H' s'/\ThrownX X pins H' e T cls s'.heap/\E cls none H'
noncomputable def PEX(X:Cx)(e:Expr)(t:XK->TE):Prop:=
 ∀(pins:List (Addr×Obj)) (s:Shared) (σ:St) (H:Hp) (Q:VK) (E:XK),Inv X pins σ H s->t E σ H Q->kf X.w.7 X.A (eval e X.env) (EP X pins σ Q) (XP X pins σ E) s
noncomputable def PTry(X:Cx)(st:List Stmt)(t:XK->TS):Prop:=
 ∀(pins:List (Addr×Obj)) (s:Shared) (σ:St) (H:Hp) (D:Ends) (E:XK),Inv X pins σ H s->t E D σ H->kf X.w.7 X.A (execs st X.env) (SP X pins D) (XP X pins σ E) s
section
theorem Inv.thrown(hex:X.ex=[])(I:Inv X pins σ H s){E:XK}{v:Value}(h:CXR X.prog X.w X.stack H s E v s'):XP X pins σ E v s':=by
 obtain⟨e,T,cls,H',rfl,os,bare,un,hok,th,q⟩:=h
 have no0:∀b:Addr,s.heap.get? b=none->X.s₀.heap.get? b=none:=λb hb=>by
  cases z:X.s₀.heap.get? b with
  |none=>rfl
  |some o =>
   obtain⟨u,hu⟩:=I.base.there b o z (by rw[hex];simp)
   rw[hb] at hu;cases hu
 have nL:∀b:Addr,s.heap.get? b=none->b≠X.env.locals:=λb hb z=>by
  obtain⟨m,⟨o,_,_,ho,_⟩,_⟩:=I.loc
  rw[z,ho] at hb;cases hb
 have nC:∀b:Addr,s.heap.get? b=none->∀x c,X.env.cells.lookup x=some c->c≠b:=λb hb x c ec z=>by
  obtain⟨v,o,ho,_⟩:=I.cell x c ec
  rw[z,hb] at ho;cases ho
 have nP:∀b:Addr,s.heap.get? b=none->∀p∈X.pn++pins,p.1≠b:=λb hb p hp z=>by
  obtain⟨ho,_⟩:=I.pin p hp
  rw[z,hb] at ho;cases ho
 exact⟨e,T,cls,H',rfl,I.call' (ch:=[]) os un hok bare (λb z=>absurd z '$'),
  ⟨no0 e th.ne,no0 T th.nT,th.He,th.HT,nL e th.ne,nL T th.nT,λx c ec=>⟨nC e th.ne x c ec,nC T th.nT x c ec⟩,λp hp=>⟨nP e th.ne p hp,nP T th.nT p hp⟩,th.ob⟩,q⟩
theorem aE4{k:Nat}{ps:List Str}{p:Pos}{t:TA}(hex:X.ex=[])(F:FnOk X.prog X.w X.K X.mg X.base (CXR X.prog X.w) k f fd ps sp)(hr:Room k X.A)(hg:Gl X x)(hm:X.mg x=some (.ref f))(hk:wm X.K (.ref f)=true)(hb:Binds X.K fd ps [])(ha:PA X.nox (e::es) t)(hdb:(x==("__debug__" : Str))=false:=by decide)(he:qp (e::es) X.env=(false,eval e X.env)::qp es X.env:=by rfl)(hpl:(x9 pos (qp es X.env)).any (·.1)=false:=by rfl):
  PEX X (.Call (.Name x p) (e::es) [] pos) (λE=>aGY sp [] E t):=by
 intro pins s σ H Q E I h
 refine bq (kL I hg hm ?_ hdb)
 refine md (h₀:=X.base) I.ok.mod.kin hk (vd (ha pos pins s σ H _ (I.wish _) h) (λus s1 ⟨vs,H1,I1,r,q⟩ => ?_) λ_ _ z=>z.elim) he hpl
 have I1:Inv X pins σ H1 s1:=I1.unwish
 refine⟨I1.kIn,?_⟩
 have hl:us.length=ps.length:=by
  have:=F.len _ _ _ _ q
  rw[w8] at this
  rw[<- r.length];exact this
 have hb':=hb s1 us I1.kIn (by rw[w8];exact hl)
 rw[w8] at hb'
 dsimp only at q
 rw[w8] at q
 rw[List.nil_append]
 refine wpAny_call (Qj (F.run X.A X.stack s1 H1 ⟨us,[]⟩ us vs Q E hr I1.env0 hb' r q) λr s' hq => ?_)
 cases r with
 |error e=>exact I1.thrown hex hq
 |ok fl =>
  cases fl with
  |ret u=>exact I1.after hq
  |next=>exact xm hq
  |brk=>exact xm hq
  |cont=>exact xm hq
theorem aES{te:XK->TE}(hN:X.N.Nodup)(hi:X.N[i]?=some x)(hx:Loc X.env.scope x)(he:PEX X e te)(hs:cn e (.Name x pos').4 pos.line X.env=pure false:=by rfl)(hf:X.fn x=true\/X.env.scope.names.lookup x=some .local:=by first|exact .inl rfl|exact .inr rfl|assumption):
  PTry X [.Assign [.Name x pos'] e pos] (λE D σ H=>te E σ H λv H1=>D.nx (σ.set i v.4) H1):=by
 intro pins s σ H D E I h
 refine lp (thn (Kz (Q:=λf s1=>∃σ' H',f = .next/\Inv X pins σ' H' s1/\D.nx σ' H') (thn (he pins s σ H _ E I h) λv s1 ⟨y,H1,I1,r1,q1⟩ => ?_) hs) λf s1 q => ?_)
 ·exact jJ I1 hN hi hx r1 (λs2 I2=>⟨_,H1,rfl,I2,q1⟩) hf
 ·obtain⟨σ',H',rfl,I',q'⟩:=q
  exact zf ⟨σ',H',I',q'⟩
end
end L2
namespace L2
open PySem PySem.Spec PyProof.Rows
section
theorem Inv.veiled{e:Addr}(hst:X.stack=X.env::X.outer)(hf:X.env.frame=some X.env.locals)(hex:X.ex=[])(I:Inv X pins σ H s)(th:ThrownX X pins H e T cls s.heap)(st:(veil s.heap X.stack e T).StaysIn h')(sm:s.heap.UpToSlots h'):Inv X pins σ H {s with heap:=h',toks:=t' }:=by
 have frm:∀b,b∈frs X.stack->∃o,s.heap.get? b=some o/\∀vs,o.data ≠ .fields vs:=λb hb=>(I.stack.mem hb).2
 have eqs:frs X.stack=X.env.locals::X.fs:=by rw[hst];simp[frs,hf]
 have keep:∀b o,b∉frs X.stack->b≠e->b≠T->s.heap.get? b=some o->h'.get? b=some o:=λb o h1 h2 h3 q=>st b o (jE q h2 h3 h1)
 have slot:∀b o,b∈frs X.stack->s.heap.get? b=some o->∃sl,h'.get? b=some {o with slots:=sl}:=λb o h1 q=>by
  obtain⟨o',q',d⟩:=frm b h1
  rw[q] at q';cases q'
  exact sm b o q d
 have neT:∀b o,X.s₀.heap.get? b=some o->b≠e/\b≠T:=λb o q=>⟨λz=>(by rw[z,th.e0] at q;cases q),λz=>(by rw[z,th.T0] at q;cases q)⟩
 have nL:∀b o,X.s₀.heap.get? b=some o->b≠X.env.locals:=λb o q=>je (qo (qq q) I.ok.above)
 have nex:∀b,b∉X.ex:=λb=>by rw[hex];simp
 have cellK:∀x c,X.env.cells.lookup x=some c->∀v,s.heap.IsCell c v->h'.IsCell c v:=λx c ec v ⟨o,ho,hd⟩=>by
  by_cases hm:c∈frs X.stack
  ·obtain⟨sl,q⟩:=slot c o hm ho
   exact⟨_,q,hd⟩
  ·exact⟨o,keep c o hm (th.ce x c ec).1 (th.ce x c ec).2 ho,hd⟩
 refine⟨I.ok,I.os,I.bare,⟨λb o q n hb hx => ?_,λb o q n hb hx => ?_,λb o q n hx=>I.base.free b o q n hx,λb o q hx => ?_,I.base.tups,I.base.frzs,I.base.tbls⟩,?_,λx c ec => ?_,I.free,I.freeC,λp hp => ?_,?_,I.len⟩
 ·refine keep b o (λz => ?_) (neT b o q).1 (neT b o q).2 (I.base.keep b o q n hb hx)
  rw[eqs] at z
  exact (qr.mp z).elim (nL b o q) hb
 ·obtain⟨sl,e1⟩:=I.base.slot b o q n hb hx
  obtain⟨sl',e2⟩:=slot b _ (by rw[eqs];exact qm _ hb) e1
  exact⟨sl',e2⟩
 ·obtain⟨o',e1⟩:=I.base.there b o q hx
  by_cases hm:b∈frs X.stack
  ·obtain⟨sl',e2⟩:=slot b _ hm e1
   exact⟨_,e2⟩
  ·exact⟨_,keep b _ hm (neT b o q).1 (neT b o q).2 e1⟩
 ·obtain⟨m,hn,hl⟩:=I.loc
  refine⟨m,sm.ns hn,λi x v e1 e2 e3 => ?_⟩
  obtain⟨u,r,l⟩:=hl i x v e1 e2 e3
  refine⟨u,r,?_⟩
  rcases l with l|⟨k,c,ec,z⟩
  ·exact .inl l
  ·exact .inr ⟨k,c,ec,cellK x c ec _ z⟩
 ·obtain⟨v,z⟩:=I.cell x c ec
  exact⟨v,cellK x c ec v z⟩
 ·obtain⟨q,n,ne,nf,d⟩:=I.pin p hp
  refine⟨keep p.1 p.2 (λz => ?_) (th.pe p hp).1 (th.pe p hp).2 q,n,ne,nf,d⟩
  rw[eqs] at z
  exact (qr.mp z).elim ne nf
 ·intro b o hb
  refine (I.hok b o hb).stay (λc v hc z => ?_) (λ_ z=>z) λ_ _ z=>z
  have hH:H c≠none:=by
   rcases hc with rfl|hc
   ·rw[hb];exact λz=>nomatch z
   ·rw[hc];exact λz=>nomatch z
  exact keep c v (λhm=>hH (I.stkFree c hm)) (λz=>hH (by rw[z];exact th.He)) (λz=>hH (by rw[z];exact th.HT)) z
theorem Inv.track{e:Addr}(hex:X.ex=[])(I:Inv X pins σ H s)(th:ThrownX X pins H e T cls h0)(x:ExcAt e cls s.heap):Inv X pins σ (upd H e (.ext (ExcAt e cls))) s:=by
 have ne:∀b o,H b=some o->b≠e:=λb o q z=>by rw[z,th.He] at q;cases q
 have neT:∀b o,X.s₀.heap.get? b=some o->b≠e:=λb o q=>λz=>(by rw[z,th.e0] at q;cases q)
 refine⟨I.ok,I.os,I.bare,⟨I.base.keep,I.base.slot,λb o q n hx => ?_,I.base.there,λb xs q => ?_,λb o u q => ?_,λb ps q => ?_⟩,I.loc,I.cell,?_,λx' c ec => ?_,λp hp => ?_,?_,I.len⟩
 ·rw[aU (neT b o q)];exact I.base.free b o q n hx
 ·have:=I.base.tups b xs q
  rw[aU (ne b _ this)];exact this
 ·have:=I.base.frzs b o u q
  rw[aU (ne b _ this)];exact this
 ·obtain⟨more,this⟩:=I.base.tbls b ps q
  exact⟨more,by rw[aU (ne b _ this)];exact this⟩
 ·rw[aU (yj th.eL)];exact I.free
 ·rw[aU (th.ce x' c ec).1];exact I.freeC x' c ec
 ·obtain⟨q,n,r⟩:=I.pin p hp
  exact⟨q,by rw[aU (th.pe p hp).1];exact n,r⟩
 ·intro b o hb
  by_cases hbe:b=e
  ·subst hbe
   rw[a7] at hb;cases hb
   exact x.ok
  ·rw[aU hbe] at hb
   refine (I.hok b o hb).stay (λ_ _ _ z=>z) (λc z => ?_) λc xs z => ?_
   ·rw[aU (ne c _ z)];exact z
   ·rw[aU (ne c _ z)];exact z
abbrev Cx.inEx(X:Cx)(e:Addr):Cx:={X with A:=X.A.mark (.ref e).4,calm:=false,xe:=λ_ _=>False}
theorem Inv.inEx(e:Addr)(I:Inv X pins σ H s):Inv (X.inEx e) pins σ H s:=
 ⟨⟨I.ok.mod,I.ok.kind,I.ok.glob,I.ok.blt,I.ok.above,I.ok.inj,I.ok.has,I.ok.cab,(λz=>nomatch z),I.ok.frames,I.ok.stk,I.ok.exf,I.ok.bs,I.ok.bsz,I.ok.noex,I.ok.exfs,I.ok.funs,I.ok.frf⟩,
  I.os,I.bare,I.base,I.loc,I.cell,I.free,I.freeC,I.pin,I.hok,I.len⟩
theorem Inv.outEx{e:Addr}(ok:X.Ok)(I:Inv (X.inEx e) pins σ H s):Inv X pins σ H s:=
 ⟨ok,I.os,I.bare,I.base,I.loc,I.cell,I.free,I.freeC,I.pin,I.hok,I.len⟩
theorem wN{M:Model}{E:Value->Shared->Prop}{n:Str}{Q:Unit->Shared->Prop}(I:Inv X pins σ H s)(hN:X.N.Nodup)(hi:X.N[i]?=some n)(hk:X.env.scope.names.lookup n=some .local)(h:∀s',Inv X pins (σ.set i none) H s'->Q () s'):kf M A (do Jo X.env n .none;unbindBehindTheSuite X.env n pos) Q E s:=by
 obtain⟨m,hn,hl⟩:=id I.loc
 have hcls:(X.env.scope.kind == .class||(X.env.scope.kind == .module&&X.env.locals != X.env.globals))=false:=by rw[I.ok.kind];rfl
 refine wpAny_nameGoes_keeps hk hn hcls λh' v hn' hs=>h _ ?_
 have cne:=I.cne
 obtain⟨oL,_,_,hoL,_⟩:=id hn
 refine⟨I.ok,I.os,I.bare,⟨λb o e n hb hx => ?_,λb o e n hb hx => ?_,I.base.free,λb o e hx => ?_,I.base.tups,I.base.frzs,I.base.tbls⟩,⟨_,hn',λj y v' e1 e2 e3 => ?_⟩,λy c e => ?_,I.free,I.freeC,λp hp => ?_,?_,by simpa using I.len⟩
 ·exact (hs.2 b (je (qo (qq e) I.ok.above))).trans (I.base.keep b o e n hb hx)
 ·obtain⟨sl,e1⟩:=I.base.slot b o e n hb hx
  exact⟨sl,(hs.2 b (je (qo (qq e) I.ok.above))).trans e1⟩
 ·obtain⟨o',e1⟩:=I.base.there b o e hx
  exact⟨o',(hs.2 b (je (qo (qq e) I.ok.above))).trans e1⟩
 ·by_cases hj:j=i
  ·subst hj
   rw[fm] at e2
   split at e2
   ·split at e2 <;> cases e2
   ·rename_i z;exact absurd rfl z
  ·rw[lq (yj hj)] at e2
   obtain⟨u',r',q⟩:=hl j y v' e1 e2 e3
   refine⟨u',r',?_⟩
   rcases q with ⟨k,e⟩|⟨k,c,e,z⟩
   ·refine .inl ⟨k,?_⟩
    have:y≠n:=λe=>hj (qO hN e1 (e▸hi))
    simp[this,e]
   ·exact .inr ⟨k,c,e,z.sameBut hs (cne y c e)⟩
 ·obtain⟨w',z⟩:=I.cell y c e
  exact⟨w',z.sameBut hs (cne y c e)⟩
 ·obtain⟨e,n,ne,nf,d⟩:=I.pin p hp
  exact⟨(hs.2 p.1 ne).trans e,n,ne,nf,d⟩
 ·intro b ob e
  refine (I.hok b ob e).stay (λc w' hc q=>(hs.2 c ?_).trans q) (λ_ q=>q) λ_ _ q=>q
  rintro rfl
  have hfree:=I.free
  rcases hc with rfl|hc
  ·rw[hfree] at e;cases e
  ·rw[hfree] at hc;cases hc
end
end L2
namespace Num
theorem vY(a b:Int):ve b (a.fmod b)=ve a b:=by
 rw[Int.fmod_def,Q2 a b]
 exact Int.gcd_sub_mul_left_right _ _ _
theorem zQ(a b:Int)(hb:b≠0):(a.fmod b).natAbs<b.natAbs:=by
 rcases Int.lt_or_gt_of_ne hb with h|h
 ·have h0:0 < -b:=by omega
  have e:a.fmod b = -((-a).fmod (-b)):=by rw[Int.neg_fmod_neg];omega
  have h1:=QS (-a) h0
  have h2:=JK (-a) h0
  omega
 ·have h1:=QS a h
  have h2:=JK a h
  omega
noncomputable def div(t b:Int):Int:=if b<0 then -((ve t b:Nat):Int) else ((ve t b:Nat):Int)
noncomputable def top(t b:Int):Int:=t.fdiv (div t b)
noncomputable def bot(t b:Int):Int:=b.fdiv (div t b)
theorem sX{t b:Int}(h:b≠0):0<ve t b:=Int.gcd_pos_of_ne_zero_right t h
theorem aK7{t b:Int}(h:b≠0):div t b≠0:=by
 have:=sX (t:=t) h
 unfold div;split <;> omega
theorem aG5(t b:Int):(div t b).natAbs=ve t b:=by
 unfold div;split <;> omega
theorem aJK(t b:Int):div t b∣t:=by
 unfold div;split
 ·exact VS.mpr (Ka ..)
 ·exact Ka ..
theorem aHD(t b:Int):div t b∣b:=by
 unfold div;split
 ·exact VS.mpr (JZ ..)
 ·exact JZ ..
theorem zX(t b:Int):top t b*div t b=t:=JE (aJK t b)
theorem sY(t b:Int):bot t b*div t b=b:=JE (aHD t b)
theorem aIZ{t b:Int}(h:b≠0):0<bot t b:=by
 have e:=sY t b
 have g:=sX (t:=t) h
 by_cases hb:b<0
 ·have hd:div t b<0:=by unfold div;rw[if_pos hb];omega
  rcases JY (bot t b) 0 with c|c|c
  ·have:=Int.mul_pos_of_neg_of_neg c hd;omega
  ·rw[c,K7] at e;omega
  ·exact c
 ·have hd:0<div t b:=by unfold div;rw[if_neg hb];omega
  rcases JY (bot t b) 0 with c|c|c
  ·have:=Int.mul_neg_of_neg_of_pos c hd;omega
  ·rw[c,K7] at e;omega
  ·exact c
theorem low(t b:Int)(h:b≠0):ve (top t b) (bot t b)=1:=by
 have g:=sX (t:=t) h
 have e:ve (top t b*div t b) (bot t b*div t b)=ve (top t b) (bot t b)*(div t b).natAbs:=Int.gcd_mul_right ..
 rw[zX,sY,aG5] at e
 have e':1*ve t b=ve (top t b) (bot t b)*ve t b:=by rw[VQ];exact e
 exact (Nat.eq_of_mul_eq_mul_right g e').symm
theorem cross(t b:Int)(h:b≠0):top t b*b=t*bot t b:=by
 have e1:=zX t b
 have e2:=sY t b
 have d:=aK7 (t:=t) h
 have:top t b*(bot t b*div t b)=top t b*div t b*bot t b:=by
  rw[Int.mul_assoc,Q1 (bot t b)]
 rw[e1,e2] at this
 exact this
theorem sE{k n m:Int}(h:k∣n*m)(g:ve k n=1):k∣m:=by
 have:=Int.dvd_gcd_mul_iff_dvd_mul.mpr h
 rw[g] at this
 simpa using this
theorem uniq{p q r s:Int}(hq:0<q)(hs:0<s)(g:ve p q=1)(g':ve r s=1)(e:p*s=r*q):p=r/\q=s:=by
 have d1:q∣s:=by
  have:q∣p*s:=⟨r,by rw[e,Q1]⟩
  have h:=sE this (by rw[Q2];exact g)
  exact h
 have d2:s∣q:=by
  have:s∣r*q:=⟨p,by rw[<- e,Q1]⟩
  exact sE this (by rw[Q2];exact g')
 have h1:=KG hs d1
 have h2:=KG hq d2
 have hqs:q=s:=by omega
 subst hqs
 exact⟨Qq '!' e,rfl⟩
end Num
namespace R
open PySem L2
theorem BI:va "int" = some (.type "int"):=by decide +kernel
theorem BB:va "bool" = some (.type "bool"):=by decide +kernel
theorem BT:va "tuple" = some (.type "tuple"):=by decide +kernel
structure Df(K:qb)(mg:Str->Option Value)(x:Str)(st:Stmt)(ps:List Str)(f:Addr)(fd:FuncData):Prop where
 F:Fun K x x st f fd
 b:Binds K fd ps []
 m:mg x=some (.ref f)
structure Bn(mg:Str->Option Value):Prop where
 isi:mg "isinstance" = none
 int:mg "int" = none
 bool:mg "bool" = none
 tuple:mg "tuple" = none
 len:mg "len" = none
 abs:mg "abs" = none
 range:mg "range" = none
 min:mg "min" = none
inductive Kn(K:qb)(H:Hp):V->Prop
 |non:Kn K H .non
 |bl (b:Bool):Kn K H (.bl b)
 |int (i:Int):Kn K H (.int i)
 |str (x:Str):Kn K H (.str x)
 |lst {a:Addr}{xs:List V} (e:H a=some (.lst xs)):Kn K H (.ref a)
 |tup {a:Addr}{xs:List V} (e:H a=some (.tup xs)):Kn K H (.ref a)
section
variable {K:qb}
theorem aIE(a:Int):(if a<0 then -a else a)=((ve a 0:Nat):Int):=by
 rw[JJ];split <;> lia
noncomputable def second:St->Nat
 |[_,some (.int b)]=>b.natAbs
 |[_,some (.int b),_]=>b.natAbs
 |_=>0
noncomputable def num(t b:Int):HO := .tup [.int (Num.top t b), .int (Num.bot t b)]
end
end R
namespace R
open PySem L2
section
variable {K:qb}
structure Kn2(K:qb)(H:Hp)(v:V):Prop where
 kn:Kn K H v
 two:∀a x y,v = .ref a->H a=some (.tup [x,y])->Kn K H x/\Kn K H y
noncomputable def gA(H:Hp):V->Bool
 |.ref a=>(match H a with
  |some (.tup [.int x, .int y])=>decide (1<=y)&&decide (ve x y=1)
  |_=>false)
 |_=>false
end
end R
namespace L2
open PySem PySem.Spec PyProof.Rows
end L2
namespace R
open PySem L2
structure Fd(H:Hp)(p:Addr)(b:Int):Prop where
 ex:∃g m st:Int,H p=some (.lst [.int g, .int m, .int st])/\0<=g/\0<=m/\m<2147483399/\0<=st/\st<=b
section
variable {K:qb}
theorem tP(x:Int){m:Int}(h0:0<m)(h1:m<2^64): -(2^64)<x%m/\x%m<2^64:=by
 have:=zy x (show m≠0 by lia)
 have:=ba x h0
 lia
end
end R
namespace R
open PySem L2
section
variable {K:qb}
end
end R
namespace R
open PySem L2
structure Ex(K:qb)(mg:Str->Option Value)(CR CN CY CP CT CW CM:Addr):Prop where
 mR:mg "RoofError" = some (.ref CR)
 mN:mg "NoNumber" = some (.ref CN)
 mY:mg "NoYard" = some (.ref CY)
 mP:mg "NoPoint" = some (.ref CP)
 mT:mg "NoText" = some (.ref CT)
 mW:mg "NoRow" = some (.ref CW)
 mM:mg "NoName" = some (.ref CM)
 vE:mg "ValueError" = none
 xN:xy K CN bmV "ValueError.__new__" = true
 kN:ExcK K CN
 cN:y6 K (.ref CN) (.ref CR)=some true
 iV:v8 K (.ref CN) (.type "ValueError")=some true
 iO:gu K (.ref CN) [.ref CM, .ref CP, .ref CW, .ref CT, .ref CY]=some false
section
variable {K:qb}{CR CN CY CP CT CW CM:Addr}
noncomputable def refused:HO := .tup [.str "refused", .bl true, .bl true, .bl false]
end
end R
namespace R
open PySem L2
section
variable {K:qb}
end
end R
namespace R
open PySem L2
theorem aDG{t b:Int}:num t b = .tup [.int (Num.top t b), .int (Num.bot t b)]:=rfl
section
variable {K:qb}
end
end R
namespace R
open PySem L2
end R
namespace L2
open PySem PySem.Spec PyProof.Rows
section
variable {E:Value->Shared->Prop}
end
section
end
end L2
namespace Num
theorem aDC(t b:Int)(hb:b≠0):top t b=(xo t b).num/\bot t b=((xo t b).den:Int):=by
 have hd:((xo t b).den:Int)≠0:=by have:=(xo t b).den_nz;omega
 have e:(xo t b).num*b=t*((xo t b).den:Int):=by
  have:=Rat.num_divInt_den (xo t b)
  exact (Rat.divInt_eq_divInt_iff hd hb).mp this
 have g:ve (xo t b).num ((xo t b).den:Int)=1:=by
  have:=(xo t b).reduced
  rw[yq]
  exact this
 refine uniq (aIZ hb) (by have:=(xo t b).den_pos;omega) (low t b hb) g ?_
 have c:=cross t b hb
 have h1:top t b*((xo t b).den:Int)*b=(xo t b).num*bot t b*b:=by
  rw[nq,c,nq,<- e,nq]
 exact Qq hb h1
end Num
namespace R
open PySem L2
noncomputable def ratO(x:Rat):HO := .tup [.int x.num, .int (x.den:Int)]
theorem zW{t b:Int}(hb:b≠0):num t b=ratO (xo t b):=by
 obtain⟨e1,e2⟩:=Num.aDC t b hb
 unfold num ratO
 rw[e1,e2]
structure Sz(k:Nat)(x:Rat):Prop where
 n:x.num.natAbs<2^k
 d:x.den<2^k
end R
namespace L2
open PySem PySem.Spec PyProof.Rows
theorem eX:∀(names:List (Str×NameKind)) (n:Nat) (acc:List (Str×Addr)),cellsFrom n names acc=cellsFrom n names []++acc
 |[],_,_=>rfl
 | (name,kind)::r,n,acc=>by
  unfold cellsFrom
  split
  ·rw[eX r (n+1) ((name,n)::acc),eX r (n+1) [(name,n)],y4];rfl
  ·exact eX r n acc
theorem mO:∀(names:List (Str×NameKind)) (n:Nat) (acc:List (Str×Addr)) {y:Str}{c:Addr},(y,c)∈cellsFrom n names acc->(y,v7)∈names\/(y,c)∈acc
 |[],_,_,_,_,h => .inr h
 | (name,kind)::r,n,acc,y,c,h=>by
  unfold cellsFrom at h
  split at h
  ·rename_i hk
   rcases mO r (n+1) _ h with q|q
   ·exact .inl (qm _ q)
   ·rcases qr.mp q with q|q
    ·cases q
     have:kind = .cell:=by simpa using hk
     exact .inl (by rw[this];exact jh)
    ·exact .inr q
  ·rcases mO r n _ h with q|q
   ·exact .inl (qm _ q)
   ·exact .inr q
theorem fP:∀{l m:List (Str×Addr)},(l++m).lookup y=match l.lookup y with|some c=>some c|none=>m.lookup y
 |[],_=>rfl
 | (n,c)::l,m=>by
  rw[List.cons_append,kd,kd]
  cases y==n with
  |true=>rfl
  |false=>exact fP (l:=l) (m:=m)
theorem nJ{scope:Scope}{env:Env}:∀(names:List (Str×NameKind)) (acc:List (Str×Addr)),
  (∀n,(n,kc)∈names->∃c,env.cells.lookup n=some c)->(∀n c,acc.lookup n=some c->env.cells.lookup n=some c) ->
  ∃cl,(forIn names acc λx cs=>(if x.2==kc then (do let c <- cellOf env x.1;pure (wo ((x.1,c)::cs))) else pure (wo cs)):Sem (List (Str×Addr)))=pure cl /\
   (∀n c,cl.lookup n=some c->env.cells.lookup n=some c)/\(∀n,(n,kc)∈names->∃c,cl.lookup n=some c)/\∀n c,acc.lookup n=some c->∃c',cl.lookup n=some c'
 |[],acc,_,h2=>⟨acc,rfl,h2,(λ_ h=>nomatch h),λn c e=>⟨c,e⟩⟩
 | (name,kind)::r,acc,h1,h2=>by
  have h1':∀n,(n,kc)∈r->∃c,env.cells.lookup n=some c:=λn hn=>h1 n (qm _ hn)
  by_cases hk:kind = .free
  ·subst hk
   obtain⟨c,hc⟩:=h1 name jh
   obtain⟨cl,e,q1,q2,q3⟩:=nJ (scope:=scope) (env:=env) r ((name,c)::acc) h1' (λn c' hn=>by
    rw[kd] at hn
    cases hb:n==name with
    |true =>
     rw[hb] at hn
     have:n=name:=by simpa using hb
     subst this
     cases hn;exact hc
    |false=>rw[hb] at hn;exact h2 n c' hn)
   refine⟨cl,?_,q1,λn hn => ?_,λn c' hn => ?_⟩
   ·rw[J7]
    simp only[beq_self_eq_true,if_true]
    have e0:cellOf env name=pure c:=by unfold cellOf;rw[hc]
    rw[e0]
    exact e
   ·rcases qr.mp hn with z|z
    ·cases z
     exact q3 _ c (by rw[kd,beq_self_eq_true])
    ·exact q2 n z
   ·cases hb:n==name with
    |true=>exact q3 n c (by rw[kd,hb])
    |false=>exact q3 n c' (by rw[kd,hb];exact hn)
  ·obtain⟨cl,e,q1,q2,q3⟩:=nJ (scope:=scope) (env:=env) r acc h1' h2
   refine⟨cl,?_,q1,λn hn => ?_,q3⟩
   ·rw[J7]
    have hb:(kind==kc)=false:=by simpa using hk
    simp only[hb,JG,if_false]
    exact e
   ·rcases qr.mp hn with z|z
    ·cases z;exact absurd rfl hk
    ·exact q2 n z
theorem oE{env:Env}(h:∀n,(n,kc)∈scope.names->∃c,env.cells.lookup n=some c):
  ∃cl,closureFor scope env=pure cl/\(∀n c,cl.lookup n=some c->env.cells.lookup n=some c)/\(∀n,(n,kc)∈scope.names->∃c,cl.lookup n=some c):=by
 obtain⟨cl,e,q1,q2,_⟩:=nJ (scope:=scope) (env:=env) scope.names [] h (λn c e=>by cases e)
 refine⟨cl,?_,q1,q2⟩
 show ((forIn scope.names [] λx cs=>(if x.2==kc then (do let c <- cellOf env x.1;pure (wo ((x.1,c)::cs))) else pure (wo cs)):Sem (List (Str×Addr))) >>= λcs=>pure cs)=pure cl
 rw[e]
 rfl
theorem qA{M:Model}{E:Value->Shared->Prop}{globals:Addr}{cl:List (Str×Addr)}{code:Value}{env:Env}{Q:Env->Shared->Prop}(h:Q (newEnv scope s.heap.objs.size globals (cellsFrom (s.heap.objs.size+1) scope.names cl) qual none code env.4 Jh) {s with heap:=yh (s.heap.push {cls := .type "dict", data := .dict #[]}) scope.names}):
  kf M A (VY scope globals cl [] qual none code env.4) Q E s:=by
 simp only[VY,Option.isSome_some,if_true]
 refine qy (wpAny_alloc ?_)
 refine qy (wpAny_layCells _ (λname kind cells=>by cases hkc:kind==v7 <;> simp[hkc]) _ _ _ _ ?_)
 rw[show ({s with heap:=s.heap.push {cls := .type "dict", data := .dict #[]} }:Shared).heap.objs.size=s.heap.objs.size+1 from zg ..]
 exact qy (kq (kq h))
noncomputable def a8(X:Cx)(scope:Scope)(cs:List (Str×Addr))(C:Addr)(Nc:List Str)(s₀:Shared)(H₀:Hp)(fp:List Addr):Cx:=
 {X with N:=Nc,s₀:=s₀,H₀:=H₀,env:=compEnvC scope cs C X.env,outer:=X.stack,ex:=fp,fn:=λy=>scope.names.lookup y==some .cell,pn:=[],xe:=λ_ _=>False}
theorem dD{env:Env}{y:Str}{k:NameKind}:∀{names:List (Str×NameKind)},
  (names.map λ(n,k)=>if (k==kc&&env.scope.kind == .function&&env.kindOf n==some .cell) then (n,v7) else (n,k)).lookup y=some k ->
  names.lookup y=some k\/(names.lookup y=some .free/\k = .cell)
 |[],h=>by cases h
 | (n,k')::r,h=>by
  have ih:=dD (env:=env) (y:=y) (k:=k) (names:=r)
  rw[jw] at h
  cases hy:y==n with
  |true =>
   rw[kd,hy]
   by_cases hc:(k'==kc&&env.scope.kind == .function&&env.kindOf n==some .cell)=true
   ·dsimp only at h
    rw[if_pos hc,kd,hy] at h
    cases h
    have:k' = .free:=by
     rw[qi,qi] at hc
     simpa using hc.1.1
    exact .inr ⟨by rw[this],rfl⟩
   ·dsimp only at h
    rw[if_neg hc,kd,hy] at h
    exact .inl h
  |false =>
   rw[kd,hy]
   by_cases hc:(k'==kc&&env.scope.kind == .function&&env.kindOf n==some .cell)=true
   ·dsimp only at h
    rw[if_pos hc,kd,hy] at h
    exact ih h
   ·dsimp only at h
    rw[if_neg hc,kd,hy] at h
    exact ih h
noncomputable def PIf(Y:Cx)(ifs:List Expr)(tt:TT):Prop:=
 ∀(pins:List (Addr×Obj)) (s:Shared) (σ:St) (H:Hp) (Q:Bool->Hp->Prop),Inv Y pins σ H s->tt σ H Q ->
  kf (jx Y.prog Y.w) Y.A (forIn ifs true λc r=>if r=true then do let ok <- isTrue c Y.env (eval c Y.env);pure (wo ok) else pure (wo r)) (TP Y pins σ Q) Y.xe s
noncomputable def pG:TT:=λ_ H Q=>Q true H
theorem aIF{Y:Cx}:PIf Y [] pG:=λpins s σ H Q I h=>by
 rw[List.forIn_nil]
 exact kq ⟨H,I,h⟩
theorem aH7{Y:Cx}(h:PT Y c tt):PIf Y [c] tt:=λpins s σ H Q I q=>wpAny_tests_one (h pins s σ H Q I q)
theorem vT{R:VI->Shared->Prop}{target:Expr}{it:Value}{env:Env}(I:Nat->Shared->Prop)(turn:∀n s,I n s->kf (jx prog w) A (pyNext it) (λr s₁=>match r with
   |none=>R (.ok .next) s₁
   |some v=>kf (jx prog w) A (dz target it v) (λ_ s₁'=>kf (jx prog w) A (assign target env v) (λ_ s₂ =>
     kf (jx prog w) A (forIn ifs true λc r=>if r=true then do let ok <- isTrue c env (eval c env);pure (wo ok) else pure (wo r)) (λok s₃ =>
      if ok=true then kf (jx prog w) A (eval elt env) (λx s₄ =>
       kf (jx prog w) A (call (.builtin "list.append") [acc,x]) (λ_ s₅=>∃m,m<n/\I m s₅) (λ_ _=>False) s₄) (λ_ _=>False) s₃
      else ∃m,m<n/\I m s₃) (λ_ _=>False) s₂) (λ_ _=>False) s₁') (λ_ _=>False) s₁) (λ_ _=>False) s)(n:Nat)(h:I n s):
  fy (jx prog w) A (.compLoop (.ListComp elt [⟨target,iter,ifs,0⟩] scope pos) 0 it acc env) R s:=by
 refine codeAny_loop rfl I (λn s hI => ?_) n h
 show kf _ A ((compTurn (.ListComp elt [⟨target,iter,ifs,0⟩] scope pos) 0 it acc env).onRaise (λx=>do gn x env;VO x)) _ _ s
 refine wpAny_noted ?_
 rw[compTurn_list]
 refine qy (lj (qy (vd (turn n s hI) (λr s₁ h₁ => ?_) λ_ _ h'=>h'.elim)))
 cases r with
 |none=>exact kq h₁
 |some v =>
  refine qy (vd h₁ (λ_ s₁' h₁' => ?_) λ_ _ h'=>h'.elim)
  refine qy (vd h₁' (λ_ s₂ h₂=>qy (vd h₂ (λok s₃ h₃ => ?_) λ_ _ h'=>h'.elim)) λ_ _ h'=>h'.elim)
  cases ok with
  |false=>exact kq ⟨rfl,h₃⟩
  |true =>
   exact qy (qy (vd h₃ (λx s₄ h₄=>qy (vd h₄ (λ_ s₅ h₅=>kq (kq ⟨rfl,h₅⟩)) λ_ _ h'=>h'.elim)) λ_ _ h'=>h'.elim))
noncomputable def aLJ(J:It)(cap:List Nat)(tt:TT)(te:TE)(σ:St)(H1:Hp)(Q:VK)(D:Addr):Prop:=∃W:Nat->Nat->List V->Hp->Prop,(∃m,W 0 m [] (upd H1 D (.lst [])))/\∀i m ys H2,W i m ys H2 ->
 H2 D=some (.lst ys)/\((J.stop i H2/\Q (.ref D) H2)\/(J.go i H2/\ys.length<sizeLine/\∀x H3,J.yld i H2 x H3 ->
  tt (some x::cap.map λk=>(σ[k]?).join) H3 λb H4=>if b=true then te (some x::cap.map λk=>(σ[k]?).join) H4 λy H5=>H5 D=some (.lst ys)/\∃m',m'<m/\W (i+1) m' (ys++[y]) (upd H5 D (.lst (ys++[y])))
   else ∃m',m'<m/\W (i+1) m' ys H4))
noncomputable def kC(wi:TI)(cap:List Nat)(tt:TT)(te:TE):TE:=λσ H Q=>wi σ H λJ H1=>∀D,H1 D=none->aLJ J cap tt te σ H1 Q D
structure CFree(X:Cx)(pins:List (Addr×Obj))(H':Hp)(C:Addr):Prop where
 hn:H' C=none
 hL:C≠X.env.locals
 h1:X.s₀.heap.objs.size<=C
 h2:∀x c,X.env.cells.lookup x=some c->c≠C
 h3:∀p∈X.pn++pins,p.1≠C
theorem uS{cap:List Nat}(hc:X.calm=true)(hkind:scope.kind = .function)(hnames:∀y∈scope.names,y.2 = .local->scope.names.lookup y.1=some .local)(hx:Loc (tw scope X.env) x)(hxf:scope.names.lookup x=some .cell\/(tw scope X.env).names.lookup x=some .local)(hNc:(x::ns).Nodup)(hlen:cap.length=ns.length)(hcap:∀(j k:Nat) (nm:Str),cap[j]?=some k->ns[j]?=some nm->X.N[k]?=some nm/\(X.env.scope.names.lookup nm=some .cell\/X.env.scope.names.lookup nm=some .free))(hns:∀nm∈ns,(nm,kc)∈scope.names/\(nm,v7)∉scope.names)(hnsk:∀nm∈ns,scope.names.lookup nm=some .free)(hfree:∀y∈scope.names,y.2 = .free->X.env.scope.names.lookup y.1=some .cell\/X.env.scope.names.lookup y.1=some .free)(hi:PI X (.Name x px) iter wi)(ht:∀cs C s₀ H₀ fp,PIf fp.10 ifs tt)(he:∀cs C s₀ H₀ fp,PE fp.10 elt te)(hs:∀v,foldedSetIterable iter X.env v=pure v:=by intro _;rfl){use:Option (Value->Sem Unit)}{Q':Value->Shared->Prop}{Q:VK}{ip:Pos}(I:Inv X pins σ H s)(h:kC wi cap tt te σ H Q)(hfin:∀(D C:Addr) (H':Hp) (s':Shared),Inv X pins σ H' s'->Q (.ref D) H'->(∃m,s'.heap.Ns C m)->CFree X pins H' C->fu X.w.7 X.A X.xe use Q' (.ref D) C (.ok .next) s'):
  kf X.w.7 X.A (Jt '+' scope X.env ip (newList []) false (eval iter X.env) use) Q' X.xe s:=by
 obtain⟨cl,ecl,cl1,cl2⟩:=oE (scope:=scope) (env:=X.env) λn hn=>I.ok.has n (hfree (n, .free) hn rfl)
 refine Jk (use:=use) rfl hs ecl hkind hnames (thn (hi pins s σ H _ I h) λxv s1 h1=>thn h1 λitv s2 h2 => ?_)
 obtain⟨it,fp,tn,J,H2,rfl,I2,T,st2,f2,q⟩:=h2
 have hD:H2 s2.heap.objs.size=none:=I2.fresh
 obtain⟨W,⟨m0,w0⟩,step⟩:=q s2.heap.objs.size hD
 refine Qd ?_ (by show 0<=sizeLine;exact vy _)
 have I3:Inv X pins σ (upd H2 s2.heap.objs.size (.lst [])) {s2 with heap:=s2.heap.push {cls := .type "list", data := .seq ([]:List Value).toArray} }:=
  I2.laid (t':=s2.toks) (λb u e=>qh _ e) (qj _) ⟨vy _,[],0, .nil,jd _ rfl⟩
 have sz3:(s2.heap.push {cls := .type "list", data := .seq ([]:List Value).toArray}).objs.size=s2.heap.objs.size+1:=zg ..
 have hfp3:∀b∈fp,∀o,(upd H2 s2.heap.objs.size (.lst [])) b≠some o:=λb hb o z=>by
  obtain⟨ob,e,_⟩:=T.obj 0 _ st2 b hb
  rw[aU (je (qq e)),(f2 b hb).1] at z
  cases z
 revert I3 sz3 w0 step hfp3
 generalize upd H2 s2.heap.objs.size (.lst [])=H3
 generalize hs3:({s2 with heap:=s2.heap.push {cls := .type "list", data := .seq ([]:List Value).toArray} }:Shared)=s3
 intro step w0 I3 sz3 hfp3
 have st3:tn 0 s3.heap:=T.keep 0 _ _ st2 λb _ o e=>by rw[<- hs3];exact qh _ e
 have fpLt:∀b∈fp,b<s3.heap.objs.size:=λb hb=>by
  obtain⟨o,e,_⟩:=T.obj 0 _ st3 b hb
  exact qq e
 refine qA ?_
 have new:CellsOk (yh '%' scope.names) (s3.heap.objs.size+1) (cellsFrom (s3.heap.objs.size+1) scope.names []):=by
  have ok:=cellsFrom_ok scope.names '%' (s3.heap.objs.size+1) [] ⟨λ_ _ hm=>(nomatch hm),ck⟩ (by rw[zg];exact qj _)
  rw[zg] at ok
  exact ok
 have keep4:∀b o,s3.heap.get? b=some o->(yh '%' scope.names).get? b=some o:=λb o e=>my _ _ b o (qh _ e)
 have nsC:(yh '%' scope.names).Ns s3.heap.objs.size (λ_=>none):=(Kh s3.heap (.type "dict")).keeps (my _ _)
 have lk:∀y c,(cl.9).lookup y=some c->((y,c)∈cellsFrom (s3.heap.objs.size+1) scope.names []/\(y,v7)∈scope.names)\/(cl.lookup y=some c/\X.env.cells.lookup y=some c):=λy c e=>by
  rw[eX,fP] at e
  cases z:(cellsFrom (s3.heap.objs.size+1) scope.names []).lookup y with
  |some c' =>
   rw[z] at e
   have e':c'=c:=qw e
   subst e'
   have hm:=jr z
   rcases mO _ _ _ hm with q|q
   ·exact .inl ⟨hm,q⟩
   ·cases q
  |none=>rw[z] at e;exact .inr ⟨e,cl1 y c e⟩
 have oldLt:∀y c,X.env.cells.lookup y=some c->c<s3.heap.objs.size:=λy c e=>by
  obtain⟨v,z⟩:=I3.cell y c e
  exact z.lt
 have hlk2:∀nm∈ns,∃c,(cl.9).lookup nm=some c/\X.env.cells.lookup nm=some c:=λnm hnm=>by
  obtain⟨h1,h2⟩:=hns nm hnm
  obtain⟨c,e⟩:=cl2 nm h1
  refine⟨c,?_,cl1 nm c e⟩
  rw[eX,fP]
  cases z:(cellsFrom (s3.heap.objs.size+1) scope.names []).lookup nm with
  |some c' =>
   rcases mO _ _ _ (jr z) with q|q
   ·exact absurd q h2
   ·cases q
  |none=>exact e
 show fy X.w.7 X.A (.compStart '+' 0 (.ref it) (.ref s2.heap.objs.size) (fp.13).env) (fu X.w.7 X.A X.xe use Q' (.ref s2.heap.objs.size) s3.heap.objs.size) {s3 with heap:=yh '%' scope.names}
 have ht':=ht cl.9 s3.heap.objs.size s3 H3 fp
 have he':=he cl.9 s3.heap.objs.size s3 H3 fp
 have OK:(fp.13).Ok:=by
  refine⟨I3.ok.mod,hkind,I3.ok.glob,I3.ok.blt,qj _,λy z c e1 e2 => ?_,λy hy => ?_,λy c hf e => ?_,λ_=>I3.ok.hd hc,I3.ok.frames, .inl rfl,λb hb=>⟨je (fpLt b hb),λy c e => ?_⟩,I3.bs,ji I3.ok.bsz I3.sz,λb o e hb => ?_,λb hb hm => ?_,I3.stack,I3.stkFree⟩
  ·rcases lk y c e1 with ⟨a1,_⟩|⟨a1,a2⟩ <;> rcases lk z c e2 with ⟨b1,_⟩|⟨b1,b2⟩
   ·exact JQ new.apart a1 b1
   ·exact absurd (qo (oldLt z c b2) (vz (new.empty y c a1).2)) (vv _)
   ·exact absurd (qo (oldLt y c a2) (vz (new.empty z c b1).2)) (vv _)
   ·exact I3.ok.inj y z c a2 b2
  ·have key:scope.names.lookup y=some .cell\/scope.names.lookup y=some .free:=by
    rcases hy with hy|hy
    ·rcases dD (env:=X.env) (names:=scope.names) hy with q|⟨q,_⟩
     ·exact .inl q
     ·exact .inr q
    ·rcases dD (env:=X.env) (names:=scope.names) hy with q|⟨q,_⟩
     ·exact .inr q
     ·exact .inr q
   rcases key with q|q
   ·exact kr.mp (vk scope.names (s3.heap.objs.size+1) cl (.inl q))
   ·obtain⟨c,e⟩:=cl2 y (jr q)
    exact kr.mp (vk scope.names (s3.heap.objs.size+1) cl (.inr (by rw[e];rfl)))
  ·have hf':scope.names.lookup y=some .cell:=by
    have hf0:(scope.names.lookup y==some .cell)=true:=hf
    simpa using hf0
   have e':(cl.9).lookup y=some c:=e
   have e0:=kr.mp (vk scope.names (s3.heap.objs.size+1) [] (.inl hf'))
   obtain⟨c',z⟩:=e0
   rw[eX,fP,z] at e'
   cases e'
   exact vz (new.empty y c (jr z)).2
  ·rcases lk y c e with ⟨a1,_⟩|⟨a1,a2⟩
   ·exact λz=>absurd (qo (fpLt b hb) (z▸vz (new.empty y c a1).2)) (vv _)
   ·exact (f2 b hb).2.2.2.2.1 y c a2
  ·rcases (f2 b hb).2.2.2.1 with z|z
   ·exact I3.ok.noex b o e z
   ·exact absurd (qo (qq (I3.ok.bs b o e).1) z) (vv _)
  ·rcases qr.mp (I3.stkSub b hm) with z|z
   ·exact (f2 b hb).2.1 z
   ·exact (f2 b hb).2.2.1 z
 have IY:Inv fp.13 [] (none::cap.map λk=>(σ[k]?).join) H3 {s3 with heap:=yh '%' scope.names}:=by
  refine⟨OK,rfl,I3.bare,Un.kept keep4,⟨_,nsC,λi nm v e1 e2 e3 => ?_⟩,λy c e => ?_,I3.fresh,λy c e => ?_,λp hp=>absurd (show p∈([]:List (Addr×Obj)) from hp) '$',I3.hok.kept keep4,by simp[a8,hlen]⟩
  ·cases i with
   |zero=>cases e2
   |succ j =>
    have e1':ns[j]?=some nm:=e1
    have e2':(cap.map λk=>(σ[k]?).join)[j]?=some v.4:=e2
    rw[qk] at e2'
    cases hk:cap[j]? with
    |none=>rw[hk] at e2';cases e2'
    |some k =>
     rw[hk] at e2'
     have e2'':(σ[k]?).join=some v:=qw e2'
     have e4:σ[k]?=some v.4:=by
      cases z:σ[k]? with
      |none=>rw[z] at e2'';cases e2''
      |some o=>rw[z] at e2'';exact congrArg some e2''
     obtain⟨hN,hcell⟩:=hcap j k nm hk e1'
     obtain⟨m,_,hl⟩:=I3.loc
     obtain⟨u,r,l⟩:=hl k nm v hN e4 (.inr hcell)
     refine⟨u,r,?_⟩
     rcases l with ⟨l1,_⟩|⟨_,c,ec,z⟩
     ·have l1':X.env.scope.names.lookup nm=some .local:=l1
      rcases hcell with q|q <;> rw[q] at l1' <;> cases l1'
     ·obtain⟨c',g1,g2⟩:=hlk2 nm (zMo e1')
      rw[ec] at g2
      cases g2
      refine .inr ⟨?_,c,g1,?_⟩
      ·rcases e3 with q|q
       ·rcases dD (env:=X.env) (names:=scope.names) q with w1|⟨_,w1⟩
        ·exfalso
         have hmem:=(hns nm (zMo e1')).1
         have:=hnames (nm, .local) (jr w1) rfl
         -- a name has one kind in a scope: its cell is known,so it is not local here
         exact absurd (I3.ok.has nm (hfree (nm, .free) hmem rfl)) (λ_=>by
          have hk2:=(hnsk nm (zMo e1'))
          rw[w1] at hk2;cases hk2)
        ·cases w1
       ·exact q
      ·obtain⟨o,ho,hd⟩:=z
       exact⟨o,keep4 c o ho,hd⟩
  ·rcases lk y c e with ⟨a1,_⟩|⟨a1,a2⟩
   ·exact⟨none,(new.empty y c a1).1⟩
   ·obtain⟨v,o,ho,hd⟩:=I3.cell y c a2
    exact⟨v,o,keep4 c o ho,hd⟩
  ·rcases lk y c e with ⟨a1,_⟩|⟨a1,a2⟩
   ·exact I3.hok.fresh (vz (new.empty y c a1).2)
   ·exact I3.freeC y c a2
 -- what is reached at the end
 have fin:∀{σ':St}{H':Hp}{s':Shared},Inv fp.13 [] σ' H' s'->Q (.ref s2.heap.objs.size) H' ->
   fu X.w.7 X.A X.xe use Q' (.ref s2.heap.objs.size) s3.heap.objs.size (.ok .next) s':=λ{σ' H' s'} J qd=>by
  obtain⟨m',hn',_⟩:=J.loc
  have hCn:H' s3.heap.objs.size=none:=J.free
  refine hfin _ _ H' s' (I3.call' (ch:=fp) J.os J.base J.hok J.bare λb hb=>⟨(f2 b hb).2.2.2.1,(f2 b hb).2.1,(f2 b hb).2.2.2.2.1,(f2 b hb).2.2.2.2.2⟩) qd ⟨m',hn'⟩ ⟨hCn,rf I3.lt,I3.sz,λy c e=>je (oldLt y c e),λp hp=>je (qq (I3.pin p hp).1)⟩
 have fpY:∀{H':Hp},(∀b∈fp,H' b=none)->∀b∈fp,mI fp.13 [] H' b:=λ{H'} hn b hb =>
  ⟨hn b hb,(OK.exf b hb).1,OK.exfs b hb, .inl hb,(OK.exf b hb).2,λp hp=>absurd (show p∈([]:List (Addr×Obj)) from hp) '$'⟩
 have st4:tn 0 (yh '%' scope.names):=T.keep 0 _ _ st3 λb _ o e=>keep4 b o e
 have fr3:∀b∈fp,H3 b=none:=λb hb=>by
  cases z:H3 b with
  |none=>rfl
  |some o=>exact absurd rfl (λ_:(1:Nat)=1=>hfp3 b hb o z)
 have loop:fy X.w.7 X.A (.compLoop '+' 0 (.ref it) (.ref s2.heap.objs.size) (fp.13).env) (fu X.w.7 X.A X.xe use Q' (.ref s2.heap.objs.size) s3.heap.objs.size) {s3 with heap:=yh '%' scope.names}:=by
  refine vT (λn s'=>∃i ys o H',Inv fp.13 [] (o::cap.map λk=>(σ[k]?).join) H' s'/\tn i s'.heap/\(∀b∈fp,H' b=none)/\W i n ys H') ?_ m0 ⟨0,[],none,H3,IY,st4,fr3,w0⟩
  rintro n s5 ⟨i,ys,o,H5,I5,st5,fr5,w5⟩
  obtain⟨eD,alt⟩:=step i n ys H5 w5
  rcases alt with ⟨stop,qd⟩|⟨go,hz,turn⟩
  ·refine thn (T.done fp.13 rfl rfl rfl hc i [] s5 _ H5 (λ_ _=>False) I5 (fpY fr5) st5 stop) λr s6 ⟨hr,I6⟩ => ?_
   subst hr
   exact fin I6 qd
  ·refine thn (T.item fp.13 rfl rfl rfl hc i [] s5 _ H5 (λ_ _=>False) I5 (fpY fr5) st5 go) λr s6 ⟨u,hr,h6⟩ => ?_
   subst hr
   refine thn h6 λ_ s7 ⟨xv',H7,I7,r7,y7,st7,fr7⟩ => ?_
   have I7':=I7.pinned (fpY fr7) (T.obj _ _ st7)
   have hst:PG fp.13 (.Name x px) (pF 0):=tM hNc rfl hx (hxf.elim (λz => .inl (by show (scope.names.lookup x==some .cell)=true;rw[z];rfl)) .inr)
   refine thn (hst _ s7 _ H7 xv' u (λσ8 H8=>σ8=(some xv'::cap.map λk=>(σ[k]?).join)/\H8=H7) I7' r7 ⟨rfl,rfl⟩) λ_ s8 ⟨σ8,H8,I8,e8,e8'⟩ => ?_
   subst e8 e8'
   have back:∀{σ9:St}{H9:Hp}{s9:Shared},Inv fp.13 ([]++m7 fp s7.heap) σ9 H9 s9->tn (i+1) s9.heap/\∀b∈fp,H9 b=none:=λ{σ9 H9 s9} I9=>by
    refine⟨T.keep _ _ _ st7 λb hb o e=>(I9.pin (b,o) (jq _ (jq _ (gQ hb e)))).1,λb hb => ?_⟩
    obtain⟨o,e,d⟩:=T.obj _ _ st7 b hb
    exact (I9.pin (b,o) (jq _ (jq _ (gQ hb e)))).2.1
   refine thn (ht' _ s8 _ _ _ I8 (turn xv' _ y7)) λb s9 ⟨H9,I9,q9⟩ => ?_
   cases b with
   |false =>
    rw[if_neg zBf] at q9 ⊢
    obtain⟨m',hm,w9⟩:=q9
    obtain⟨st9,fr9⟩:=back I9
    exact⟨m',hm,i+1,ys,_,H9,I9.unpinned,st9,fr9,w9⟩
   |true =>
    rw[if_pos rfl] at q9 ⊢
    refine thn (he' _ s9 _ _ _ I9 q9) λyv s10 ⟨y,H10,I10,r10,eD10,m',hm,w10⟩ => ?_
    refine thn (lZ (X:=a8 X scope cl.9 s3.heap.objs.size (x::ns) s3 H3 fp) _ s10 _ H10 (.ref s2.heap.objs.size) [y] (.ref s2.heap.objs.size) [yv] (λ_ H11=>H11=upd H10 s2.heap.objs.size (.lst (ys++[y]))) I10 rfl (.cons r10 .nil) ⟨_,ys,y,rfl,rfl,eD10,hz,rfl⟩) λ_ s11 ⟨_,H11,I11,_,e11⟩ => ?_
    subst e11
    obtain⟨st11,fr11⟩:=back I11
    exact⟨m',hm,i+1,_,_,_,I11.unpinned,st11,fr11,w10⟩
 exact JI loop (T.self X.A 0 _ _ _ st4 loop)
theorem aHW{cap:List Nat}(hc:X.calm=true)(hkind:scope.kind = .function)(hnames:∀y∈scope.names,y.2 = .local->scope.names.lookup y.1=some .local)(hx:Loc (tw scope X.env) x)(hxf:scope.names.lookup x=some .cell\/(tw scope X.env).names.lookup x=some .local)(hNc:(x::ns).Nodup)(hlen:cap.length=ns.length)(hcap:∀(j k:Nat) (nm:Str),cap[j]?=some k->ns[j]?=some nm->X.N[k]?=some nm/\(X.env.scope.names.lookup nm=some .cell\/X.env.scope.names.lookup nm=some .free))(hns:∀nm∈ns,(nm,kc)∈scope.names/\(nm,v7)∉scope.names)(hnsk:∀nm∈ns,scope.names.lookup nm=some .free)(hfree:∀y∈scope.names,y.2 = .free->X.env.scope.names.lookup y.1=some .cell\/X.env.scope.names.lookup y.1=some .free)(hi:PI X (.Name x px) iter wi)(ht:∀cs C s₀ H₀ fp,PIf fp.10 ifs tt)(he:∀cs C s₀ H₀ fp,PE fp.10 elt te)(hs:∀v,foldedSetIterable iter X.env v=pure v:=by intro _;rfl):
  PE X '+' (kC wi cap tt te):=by
 intro pins s σ H Q I h
 rw[eval_ListComp]
 refine uS hc hkind hnames hx hxf hNc hlen hcap hns hnsk hfree hi ht he hs (use:=none) I h λD C H' s' J q ⟨m,hn⟩ cf=>⟨m,hn,λh' hs' => ?_⟩
 exact⟨.ref D,H',J.turned (t':=s'.toks) (it:=C) (λb o hb e=>(hs'.2 b hb).trans e) cf.hn cf.hL (.inr cf.h1) cf.h2 cf.h3,rfl,q⟩
theorem aBL{iy:Nat}{cap:List Nat}(hN:X.N.Nodup)(hiy:X.N[iy]?=some y)(hyl:X.env.scope.names.lookup y=some .local)(hc:X.calm=true)(hkind:scope.kind = .function)(hnames:∀y∈scope.names,y.2 = .local->scope.names.lookup y.1=some .local)(hx:Loc (tw scope X.env) x)(hxf:scope.names.lookup x=some .cell\/(tw scope X.env).names.lookup x=some .local)(hNc:(x::ns).Nodup)(hlen:cap.length=ns.length)(hcap:∀(j k:Nat) (nm:Str),cap[j]?=some k->ns[j]?=some nm->X.N[k]?=some nm/\(X.env.scope.names.lookup nm=some .cell\/X.env.scope.names.lookup nm=some .free))(hns:∀nm∈ns,(nm,kc)∈scope.names/\(nm,v7)∉scope.names)(hnsk:∀nm∈ns,scope.names.lookup nm=some .free)(hfree:∀y∈scope.names,y.2 = .free->X.env.scope.names.lookup y.1=some .cell\/X.env.scope.names.lookup y.1=some .free)(hi:PI X (.Name x px) iter wi)(ht:∀cs C s₀ H₀ fp,PIf fp.10 ifs tt)(he:∀cs C s₀ H₀ fp,PE fp.10 elt te)(hs:∀v,foldedSetIterable iter X.env v=pure v:=by intro _;rfl)(hsw:cn '+' (.Name y py).4 spos.line X.env=pure true:=by rfl):
  PS X (.Assign [.Name y py] '+' spos) (aA5 (kC wi cap tt te) (pF iy)):=by
 intro pins s σ H D I h
 rw[exec_Assign_Name_used _ _ _ _ hsw]
 refine qy (lj (qy ?_))
 show kf _ X.A (do let _ <- Jt '+' scope X.env _ (newList []) false (eval iter X.env) (assign (.Name y py) X.env).4) _ _ s
 refine qy (vd (uS hc hkind hnames hx hxf hNc hlen hcap hns hnsk hfree hi ht he hs (use:=some (assign (.Name y py) X.env)) (Q':=λ_ s'=>SP X pins D .next s') I h λL C H' s' J q ⟨m,hn⟩ cf => ?_) (λ_ s' hq=>kq (kq hq)) λ_ _ e=>e)
 refine Ky (tN J hN hiy (.inl hyl) (v := .ref L) rfl (λs2 J2 ⟨a,sb,ha⟩ => ?_) (.inr hyl))
 have hCa:C≠a:=by
  rcases ha with rfl|ha
  ·exact cf.hL
  ·exact yj (cf.h2 y a ha)
 refine⟨m,hn.sameBut sb hCa,λh' hs' => ?_⟩
 exact⟨_,H',J2.turned (t':=s2.toks) (it:=C) (λb o hb e=>(hs'.2 b hb).trans e) cf.hn cf.hL (.inr cf.h1) cf.h2 cf.h3,q⟩
noncomputable def Its(x:Str):It:=⟨λi _=>i<x.cps.size,λi H v H'=>H'=H/\∃c,x.cps[i]?=some c/\v = .str ⟨#[c]⟩,λi _=>x.cps.size<=i⟩
theorem yB{K:qb}(x:Str)(t:Tok)(it:Addr)(b:Bool):Turn P w K tg (Its x) [it] it (λi h=>h.IsStrIter it (if b then "str_ascii_iterator" else "str_iterator") x t i) where
 mem:=by simp
 obj:=λi h st b hb=>by
  have e:b=it:=by simpa using hb
  subst e
  obtain⟨o,e,c,d⟩:=st
  exact⟨o,e,λv z=>by rw[d] at z;cases z⟩
 keep:=λi h h' st k=>by
  obtain⟨o,e,r⟩:=st
  exact⟨o,k it '$' o e,r⟩
 item:=by
  intro X hP hw hK hc i pins s σ H E I hf st hg
  subst hP hw hK
  obtain⟨f0,f1,f2,f3,f4,f5⟩:=hf it '$'
  have hg':i<x.cps.size:=hg
  cases b with
  |true =>
   refine wpAny_pyNext_ascii_item st (c:=x.cps[i]) (by simp[hg']) λh' st' sb => ?_
   have I1:Inv X pins σ H {s with heap:=h',toks:=s.toks+1}:=I.turned (t':=s.toks+1) (λb o hb e=>(sb.2 b hb).trans e) f0 f1 f3 f4 f5
   obtain⟨o,e,c,d⟩:=id st'
   exact⟨_,rfl,rS (s:={s with heap:=h',toks:=s.toks+1}) e c d '*' ⟨.str ⟨#[x.cps[i]]⟩,H,I1,⟨s.toks,rfl⟩,⟨rfl,_,by simp[hg'],rfl⟩,st',λb hb=>(hf b hb).1⟩⟩
  |false =>
   refine wpAny_pyNext_wide_item st (c:=x.cps[i]) (by simp[hg']) λh' st' sb => ?_
   have I1:Inv X pins σ H {s with heap:=h',toks:=s.toks+1}:=I.turned (t':=s.toks+1) (λb o hb e=>(sb.2 b hb).trans e) f0 f1 f3 f4 f5
   obtain⟨o,e,c,d⟩:=id st'
   exact⟨_,rfl,rS (s:={s with heap:=h',toks:=s.toks+1}) e c d '*' ⟨.str ⟨#[x.cps[i]]⟩,H,I1,⟨s.toks,rfl⟩,⟨rfl,_,by simp[hg'],rfl⟩,st',λb hb=>(hf b hb).1⟩⟩
 done:=by
  intro X hP hw hK hc i pins s σ H E I hf st hg
  subst hP hw hK
  obtain⟨f0,f1,f2,f3,f4,f5⟩:=hf it '$'
  have hg':x.cps.size<=i:=hg
  cases b with
  |true=>exact wpAny_pyNext_ascii_end (I.ok.hd hc) st (by simp[hg']) λh' eb=>⟨rfl,I.turned (t':=s.toks) (λb o hb e=>eb b o hb e) f0 f1 f3 f4 f5⟩
  |false=>exact wpAny_pyNext_wide_end (I.ok.hd hc) st (by simp[hg']) λh' eb=>⟨rfl,I.turned (t':=s.toks) (λb o hb e=>eb b o hb e) f0 f1 f3 f4 f5⟩
 self:=λ_ _ _ _ _ st h=>by
  cases b with
  |true=>exact wpAny_pyIter_striter_ascii st h
  |false=>exact wpAny_pyIter_striter_wide st h
noncomputable def iStr(tl:TE):TI:=λσ H R=>tl σ H λx H1=>∃z,x = .str z/\R (Its z) H1
theorem aKB{l:Expr}{tl:TE}(hl:PE X l tl):PI X tg l (iStr tl):=by
 intro pins s σ H R I h
 refine thn (hl pins s σ H _ I h) λv s1 ⟨x,H1,I1,r1,q1⟩ => ?_
 obtain⟨z,e,q⟩:=q1
 subst e
 obtain⟨t,rfl⟩:=r1
 have fp:∀b∈[s1.heap.objs.size],mI X pins H1 b:=λb hb=>by
  have e:b=s1.heap.objs.size:=by simpa using hb
  subst e
  exact I1.fpOk (qj _) (I1.hok.fresh (qj _))
 cases ha:z.cps.all (· < 128)
 ·exact wpAny_pyIter_wide ha ⟨s1.heap.objs.size,[s1.heap.objs.size],_,_,H1,rfl,I1.kept (t':=s1.toks) λb o e=>qh _ e,yB z t _ false,⟨_,jd _ rfl,rfl,rfl⟩,fp,q⟩
 ·exact wpAny_pyIter_ascii ha ⟨s1.heap.objs.size,[s1.heap.objs.size],_,_,H1,rfl,I1.kept (t':=s1.toks) λb o e=>qh _ e,yB z t _ true,⟨_,jd _ rfl,rfl,rfl⟩,fp,q⟩
structure Yields(J:It)(xs:List V)(Kp:Hp->Prop):Prop where
 go:∀i H,Kp H->i<xs.length->J.go i H
 yld:∀i H x H',Kp H->J.yld i H x H'->i<xs.length->H'=H/\xs[i]?=some x
 stop:∀i H,Kp H->xs.length<=i->J.stop i H
theorem sI{K:qb}{xs:List V}:Yields (Itl K a) xs (λH=>SqL K H a xs) where
 go:=λi H k h=>⟨xs,xs[i],k,by simp[h]⟩
 yld:=λi H x H' k y _=>⟨y.1,y.2 xs k⟩
 stop:=λi H k h=>⟨xs,k,h⟩
theorem vH{K:qb}{xs:List V}:Yields (Itt K a) xs (λH=>SqT K H a xs) where
 go:=λi H k h=>⟨xs,xs[i],k,by simp[h]⟩
 yld:=λi H x H' k y _=>⟨y.1,y.2 xs k⟩
 stop:=λi H k h=>⟨xs,k,h⟩
noncomputable def Butd(D:Addr)(H H':Hp):Prop:=∀b o,b≠D->H b=some o->H' b=some o
theorem Butd.upd{D:Addr}{o:HO}:Butd D H (upd H D o):=λb u n e=>by rw[aU n];exact e
theorem Same.but{D:Addr}(s:Same H1 H)(n:H1 D=none)(b:Butd D H H'):Same H1 H':=λc o e=>b c o (bQ e n) (s c o e)
theorem uK{D:Addr}{o:HO}(n:H D=none):Same H (upd H D o):=(Same.refl H).but n Butd.upd
theorem take_snoc{α:Type}{xs:List α}{x:α}(h:xs[i]?=some x):xs.take (i+1)=xs.take i++[x]:=by
 rw[List.take_succ,h];rfl
end L2
namespace L2
open PySem PySem.Spec PyProof.Rows
section
theorem lY{bs:List Bool}(r:Vals (bs.map V.bl) its){v:Value}(e:its.toArray[i]?=some v):v = .bool (bs.getD i false):=by
 have e':its[i]?=some v:=by simpa using e
 have hl:=r.length
 rw[zLm] at hl
 have hi:i<bs.length:=by
  have:=(zGs e').1
  omega
 have hx:(bs.map V.bl)[i]?=some (.bl bs[i]):=by simp[hi]
 obtain⟨u,hu,ru⟩:=r.get hx
 rw[e'] at hu
 cases hu
 have:v = .bool bs[i]:=ru
 rw[this]
 simp[List.getD,hi]
theorem all_range(bs:List Bool):((qt bs.length).all λi=>bs.getD i false)=bs.all id:=by
 induction bs with
 |nil=>rfl
 |cons b r ih =>
  rw[qf,gj,cm,pj,cm]
  rw[<- ih]
  rfl
theorem any_range(bs:List Bool):((qt bs.length).any λi=>bs.getD i false)=bs.any id:=by
 induction bs with
 |nil=>rfl
 |cons b r ih =>
  rw[qf,gj,Kq,List.any_map,Kq]
  rw[<- ih]
  rfl
noncomputable def aGB(K:qb)(g:List Bool->Bool):List V->Hp->VK->Prop:=λxs H Q=>∃p bs,xs=[.ref p]/\(SqL K H p (bs.map V.bl)\/SqT K H p (bs.map V.bl))/\Q (.bl (g bs)) H
theorem gE(hc:X.calm=true):dS X (.builtin "all") (aGB X.K λbs=>bs.all id):=by
 intro pins s σ H xs us Q I r h
 obtain⟨p,bs,rfl,hq,q⟩:=h
 obtain⟨u,rfl,rx⟩:=vals1 r
 cases rx
 refine call_all_walk ?_
 rcases hq with hq|hq
 ·obtain⟨its,r',pl,hz⟩:=I.list hq
  have hlen:=r'.length
  rw[zLm] at hlen
  refine Qc pl.isList ?_
  have hne:p≠s.heap.objs.size:=je (qq pl.isList.choose_spec.1)
  refine⟨_,_,_,_,_,_,λi=>bs.getD i false,rfl,K1 (show X.A.in1.handled=none from I.ok.hd hc) s.heap.objs.size p hne its.toArray,⟨⟨_,jd _ rfl,rfl,rfl⟩,?_⟩,?_,?_⟩
  ·obtain⟨o,e,z⟩:=pl.isList
   exact⟨o,qh _ e,z⟩
  ·intro i v s' Q' E' hv hQ'
   rw[lY r' hv]
   exact wa hQ'
  ·intro h' tk k
   refine⟨.bl (bs.all id),H,?_,?_,q⟩
   ·exact I.kept (t':=tk) λb o e=>k b o (by simp;exact je (qq e)) (qh _ e)
   ·show vo _=vo _
    rw[<- all_range bs,qc,<- hlen]
 ·obtain⟨its,r',pl,hz⟩:=I.tuple hq
  have hlen:=r'.length
  rw[zLm] at hlen
  have pl':s.heap.IsTuple p its.toArray:=pl
  refine si pl' ?_
  have hne:p≠s.heap.objs.size:=je (qq pl'.choose_spec.1)
  refine⟨_,_,_,_,_,_,λi=>bs.getD i false,rfl,KB (show X.A.in1.handled=none from I.ok.hd hc) s.heap.objs.size p hne its.toArray,⟨⟨_,jd _ rfl,rfl,rfl⟩,?_⟩,?_,?_⟩
  ·obtain⟨o,e,z⟩:=pl'
   exact⟨o,qh _ e,z⟩
  ·intro i v s' Q' E' hv hQ'
   rw[lY r' hv]
   exact wa hQ'
  ·intro h' tk k
   refine⟨.bl (bs.all id),H,?_,?_,q⟩
   ·exact I.kept (t':=tk) λb o e=>k b o (by simp;exact je (qq e)) (qh _ e)
   ·show vo _=vo _
    rw[<- all_range bs,qc,<- hlen]
theorem vZ(hc:X.calm=true):dS X (.builtin "any") (aGB X.K λbs=>bs.any id):=by
 intro pins s σ H xs us Q I r h
 obtain⟨p,bs,rfl,hq,q⟩:=h
 obtain⟨u,rfl,rx⟩:=vals1 r
 cases rx
 refine call_any_walk ?_
 rcases hq with hq|hq
 ·obtain⟨its,r',pl,hz⟩:=I.list hq
  have hlen:=r'.length
  rw[zLm] at hlen
  refine Qc pl.isList ?_
  have hne:p≠s.heap.objs.size:=je (qq pl.isList.choose_spec.1)
  refine⟨_,_,_,_,_,_,λi=>bs.getD i false,rfl,K1 (show X.A.in1.handled=none from I.ok.hd hc) s.heap.objs.size p hne its.toArray,⟨⟨_,jd _ rfl,rfl,rfl⟩,?_⟩,?_,?_⟩
  ·obtain⟨o,e,z⟩:=pl.isList
   exact⟨o,qh _ e,z⟩
  ·intro i v s' Q' E' hv hQ'
   rw[lY r' hv]
   exact wa hQ'
  ·intro h' tk k
   refine⟨.bl (bs.any id),H,?_,?_,q⟩
   ·exact I.kept (t':=tk) λb o e=>k b o (by simp;exact je (qq e)) (qh _ e)
   ·show vo _=vo _
    rw[<- any_range bs,qc,<- hlen]
 ·obtain⟨its,r',pl,hz⟩:=I.tuple hq
  have hlen:=r'.length
  rw[zLm] at hlen
  have pl':s.heap.IsTuple p its.toArray:=pl
  refine si pl' ?_
  have hne:p≠s.heap.objs.size:=je (qq pl'.choose_spec.1)
  refine⟨_,_,_,_,_,_,λi=>bs.getD i false,rfl,KB (show X.A.in1.handled=none from I.ok.hd hc) s.heap.objs.size p hne its.toArray,⟨⟨_,jd _ rfl,rfl,rfl⟩,?_⟩,?_,?_⟩
  ·obtain⟨o,e,z⟩:=pl'
   exact⟨o,qh _ e,z⟩
  ·intro i v s' Q' E' hv hQ'
   rw[lY r' hv]
   exact wa hQ'
  ·intro h' tk k
   refine⟨.bl (bs.any id),H,?_,?_,q⟩
   ·exact I.kept (t':=tk) λb o e=>k b o (by simp;exact je (qq e)) (qh _ e)
   ·show vo _=vo _
    rw[<- any_range bs,qc,<- hlen]
theorem sL:∀{ys:List Str}{its:List Value},Vals (ys.map V.str) its->StrsAre its ys
 |[],_,r=>by cases r;exact .nil
 |y::ys,_,r=>by
  cases r with
  |cons a b =>
   obtain⟨t,rfl⟩:=a
   exact .cons y t (sL b)
noncomputable def rJoin(K:qb):V->List V->Hp->VK->Prop:=λx vs H Q=>∃sep p ys,x = .str sep/\vs=[.ref p]/\(SqL K H p (ys.map V.str)\/SqT K H p (ys.map V.str))/\sep.length<=16/\(ys.map (·.length)).sum+ys.length<=1048576/\Q (.str (zm sep ys)) H
theorem iP:MtR X "str.join" (rJoin X.K):=by
 intro pins s σ H x vs u us Q I rx rv h
 obtain⟨sep,p,ys,rfl,rfl,hq,h1,h2,q⟩:=h
 obtain⟨v,rfl,ry⟩:=vals1 rv
 cases ry
 obtain⟨t,rfl⟩:=rx
 rcases hq with hq|hq
 ·obtain⟨its,r',pl,hz⟩:=I.list hq
  exact join_listW pl.isList (sL r') h1 h2 λt' k=>⟨.str _,H,I.tok k,⟨t',rfl⟩,q⟩
 ·obtain⟨its,r',pl,hz⟩:=I.tuple hq
  exact join_tupleW pl (sL r') h1 h2 λt' k=>⟨.str _,H,I.tok k,⟨t',rfl⟩,q⟩
noncomputable def gX(x:Str)(n:Nat):Str:=⟨(jy n x.cps).foldl (· ++ ·) #[]⟩
theorem wU(a:Array Nat):∀(n:Nat) (acc:Array Nat),((jy n a).foldl (· ++ ·) acc).toList=acc.toList++(jy n a.toList).flatten
 |0,acc=>by simp
 |n+1,acc=>by
  rw[xk,J8,wU a n,xk,yz]
  simp
theorem jR(x:Str)(n:Nat):(gX x n).cps.toList=(jy n x.cps.toList).flatten:=by
 unfold gX
 rw[wU];rfl
theorem aF2(x:Str)(n:Nat):(gX x n).length=x.length*n:=by
 show (gX x n).cps.size=x.cps.size*n
 rw[<- qa,jR,<- qa]
 generalize x.cps.toList=l
 induction n with
 |zero=>simp
 |succ n ih=>rw[xk,yz,ql,ih,Nat.mul_succ,K6]
theorem f8(h:x.cps.toList=y.cps.toList):x=y:=by
 cases x;cases y
 simp only[Str.mk.injEq]
 exact fv.mp h
theorem aEY(x:Str):gX x 1=x:=f8 (by rw[jR];simp)
theorem aFP(x:Str)(n:Nat)(h:x.length=0):gX x n=x:=by
 have hx:x.cps.toList=[]:=rp (by rw[qa];exact h)
 apply f8
 rw[jR,hx]
 induction n with
 |zero=>rfl
 |succ n ih=>rw[xk,yz,ih];rfl
noncomputable def aG2:R2:=λx y H Q=>∃z n,x = .str z/\y = .int n /\ -(2^40)<=n/\n<2^40/\z.length*n.toNat<=sizeLine/\Q (.str (gX z n.toNat)) H
theorem pX:OpR X (bp .Mult) aG2:=by
 intro pins s σ H x y u v Q I rx ry h
 obtain⟨z,n,rfl,rfl,h1,h2,h3,q⟩:=h
 obtain⟨t,rfl⟩:=rx
 obtain⟨t',rfl⟩:=ry
 refine P.mul_str (by rw[decide_eq_false '!',decide_eq_false '!'];rfl) (λa b => ?_) (λa b => ?_) ?_
 ·have:(n.toNat:Int)=n:=by omega
  have h4:((z.length:Int))*n<=(sizeLine:Nat):=by rw[<- this];exact_mod_cast h3
  intro c
  have hn:0<n:=by omega
  have:=(Int.ediv_lt_iff_lt_mul hn).mp c
  have h5:((sizeLine:Nat):Int)<2^62:=by decide
  omega
 ·exact aEU h3
 ·by_cases c1:n<1
  ·rw[if_pos c1]
   rw[show n.toNat=0 by omega] at q
   exact⟨by decide, .str _,H,I.tok _,⟨_,rfl⟩,q⟩
  ·rw[if_neg c1]
   by_cases c2:(n==1||z.length==0)=true
   ·rw[if_pos c2]
    refine⟨.str z,H,I,⟨_,rfl⟩,?_⟩
    have e:gX z n.toNat=z:=by
     rw[zv,beq_iff_eq,beq_iff_eq] at c2
     rcases c2 with c|c
     ·rw[c];exact aEY z
     ·exact aFP z _ c
    rw[e] at q;exact q
   ·rw[if_neg c2]
    refine⟨?_, .str _,H,I.tok _,⟨_,rfl⟩,q⟩
    show (gX z n.toNat).length<=sizeLine
    rw[aF2];exact h3
end
end L2
namespace L2
open PySem PySem.Spec PyProof.Rows
noncomputable def iU(sc scope:Scope)(x:Str)(ns:List Str)(cap:List Nat)(N:List Str):Bool:=
 decide (scope.kind = .function)&&scope.names.all (λy=>decide (y.2 ≠ .local)||decide (scope.names.lookup y.1=some .local))&&(decide (scope.names.lookup x=some .local)||decide (scope.names.lookup x=some .cell)) &&
 decide ((x::ns).Nodup)&&decide (cap.length=ns.length) &&
 (qt cap.length).all (λj=>match cap[j]?,ns[j]? with
  |some k,some nm=>decide (N[k]?=some nm)&&(decide (sc.names.lookup nm=some .cell)||decide (sc.names.lookup nm=some .free))
  |_,_=>true) &&
 ns.all (λnm=>decide ((nm,kc)∈scope.names)&&decide ((nm,v7)∉scope.names)&&decide (scope.names.lookup nm=some .free)) &&
 scope.names.all (λy=>decide (y.2 ≠ .free)||(decide (sc.names.lookup y.1=some .cell)||decide (sc.names.lookup y.1=some .free)))
theorem eE{env:Env}:∀{names:List (Str×NameKind)}{x:Str},names.lookup x=some .cell ->
  (names.map λ(n,k)=>if (k==kc&&env.scope.kind == .function&&env.kindOf n==some .cell) then (n,v7) else (n,k)).lookup x=some .cell
 |[],_,h=>by simp at h
 | (n,k)::r,x,h=>by
  have ih:=eE (env:=env) (names:=r) (x:=x)
  show mh x ((if (k==kc&&env.scope.kind == .function&&env.kindOf n==some .cell)=true then (n,v7) else (n,k))::_)=_
  rw[kd] at h
  split
  ·rw[kd]
   cases hx:x==n with
   |true=>rfl
   |false=>rw[hx] at h;exact ih h
  ·rw[kd]
   cases hx:x==n with
   |true=>rw[hx] at h;exact h
   |false=>rw[hx] at h;exact ih h
structure CompOk(sc scope:Scope)(x:Str)(ns:List Str)(cap:List Nat)(N:List Str):Prop where
 hkind:scope.kind = .function
 hnames:∀y∈scope.names,y.2 = .local->scope.names.lookup y.1=some .local
 hx:scope.names.lookup x=some .local\/scope.names.lookup x=some .cell
 hNc:(x::ns).Nodup
 hlen:cap.length=ns.length
 hcap:∀(j k:Nat) (nm:Str),cap[j]?=some k->ns[j]?=some nm->N[k]?=some nm/\(sc.names.lookup nm=some .cell\/sc.names.lookup nm=some .free)
 hns:∀nm∈ns,(nm,kc)∈scope.names/\(nm,v7)∉scope.names
 hnsk:∀nm∈ns,scope.names.lookup nm=some .free
 hfree:∀y∈scope.names,y.2 = .free->sc.names.lookup y.1=some .cell\/sc.names.lookup y.1=some .free
theorem oU{sc:Scope}{cap:List Nat}(h:iU sc scope x ns cap N=true):CompOk sc scope x ns cap N:=by
 unfold iU at h
 simp only[qi,zv,decide_eq_true_eq,jf] at h
 obtain⟨⟨⟨⟨⟨⟨⟨h1,h2⟩,h3⟩,h4⟩,h5⟩,h6⟩,h7⟩,h8⟩:=h
 refine⟨h1,λy hy e=>(h2 y hy).resolve_left (λz=>z e),h3,h4,h5,λj k nm e1 e2 => ?_,λnm hm=>(h7 nm hm).1,λnm hm=>(h7 nm hm).2,λy hy e=>(h8 y hy).resolve_left (λz=>z e)⟩
 have hj:j<cap.length:=(zGs e1).1
 have:=h6 j (kh.mpr hj)
 rw[e1,e2] at this
 simpa using this
theorem aFM{sc:Scope}(ns:List Str)(cap:List Nat)(hc:X.calm=true)(hsc:X.env.scope=sc)(hN:X.N=N)(ok:iU sc scope x ns cap N=true)(hi:PI X (.Name x px) iter wi)(ht:∀cs C s₀ H₀ fp,PIf fp.10 ifs tt)(he:∀cs C s₀ H₀ fp,PE fp.10 elt te)(hs:∀v,foldedSetIterable iter X.env v=pure v:=by intro _;rfl):
  PE X '+' (kC wi cap tt te):=by
 subst hsc hN
 have k:=oU ok
 refine aHW hc k.hkind k.hnames ?_ ?_ k.hNc k.hlen k.hcap k.hns k.hnsk k.hfree hi ht he hs
 ·rcases k.hx with z|z
  ·exact .inl (ye z)
  ·exact .inr (eE z)
 ·rcases k.hx with z|z
  ·exact .inr (ye z)
  ·exact .inl z
theorem yU(iy:Nat){sc:Scope}(ns:List Str)(cap:List Nat)(hNd:N.Nodup)(hiy:N[iy]?=some y)(hyl:sc.names.lookup y=some .local)(hc:X.calm=true)(hsc:X.env.scope=sc)(hN:X.N=N)(ok:iU sc scope x ns cap N=true)(hi:PI X (.Name x px) iter wi)(ht:∀cs C s₀ H₀ fp,PIf fp.10 ifs tt)(he:∀cs C s₀ H₀ fp,PE fp.10 elt te)(hs:∀v,foldedSetIterable iter X.env v=pure v:=by intro _;rfl)(hsw:cn '+' (.Name y py).4 spos.line X.env=pure true:=by rfl):
  PS X (.Assign [.Name y py] '+' spos) (aA5 (kC wi cap tt te) (pF iy)):=by
 subst hsc hN
 have k:=oU ok
 refine aBL hNd hiy hyl hc k.hkind k.hnames ?_ ?_ k.hNc k.hlen k.hcap k.hns k.hnsk k.hfree hi ht he hs hsw
 ·rcases k.hx with z|z
  ·exact .inl (ye z)
  ·exact .inr (eE z)
 ·rcases k.hx with z|z
  ·exact .inr (ye z)
  ·exact .inl z
end L2
namespace R
open PySem L2
theorem BS:va "str" = some (.type "str"):=by decide +kernel
theorem BL:va "list" = some (.type "list"):=by decide +kernel
theorem BAll:va "all" = some (.builtin "all"):=by decide +kernel
theorem BMax:va "max" = some (.builtin "max"):=by decide +kernel
theorem BAny:va "any" = some (.builtin "any"):=by decide +kernel
structure Bn2(mg:Str->Option Value):Prop where
 str:mg "str" = none
 list:mg "list" = none
 all:mg "all" = none
 any:mg "any" = none
 max:mg "max" = none
 enum:mg "enumerate" = none
theorem aEM(c:Nat):(!(jz ("#." : Str) ⟨#[c]⟩ 0 ("#." : Str).length 1).isEmpty)=(c==35||c==46):=by
 by_cases h1:c=35
 ·subst h1;decide +kernel
 by_cases h2:c=46
 ·subst h2;decide +kernel
 have e:("#." : Str)=⟨#[35,46]⟩:=by decide +kernel
 rw[e]
 have a0:cq (⟨#[35,46]⟩:Str) ⟨#[c]⟩ 0=false:=by
  simp[cq,cw]
  lia
 have a1:cq (⟨#[35,46]⟩:Str) ⟨#[c]⟩ 1=false:=by
  simp[cq,cw]
  lia
 simp[jz,cw,Kc,Kb,List.range',a0,a1,h1,h2]
noncomputable def sgn(c:Nat):Bool:=c==35||c==46
noncomputable def fD(wide:Int):V->Bool
 |.str z=>decide ((z.length:Int)=wide)&&z.cps.toList.all sgn
 |_=>false
theorem aJ(h:n<=1000000):n<=sizeLine:=ji h '*'
abbrev Sq(K:qb)(H:Hp)(a:Addr)(xs:List V):Prop:=SqL K H a xs\/SqT K H a xs
theorem aI1{u:HO}(s:Same H H')(h:Rd H a u):Rd H' a u:=by
 rcases h with h|⟨o,h⟩
 ·exact .inl (s _ _ h)
 ·exact .inr ⟨o,s _ _ h⟩
theorem j8{K:qb}{xs:List V}(s:Same H H')(h:SqT K H a xs):SqT K H' a xs:=h.imp (aI1 s) id
noncomputable def gB(us:List V)(na nb:Nat):Bool:=decide (us.length=nb-1)&&us.all (fD ((na-1:Nat):Int))
noncomputable def ofL(l:List Nat):Str:=⟨l.toArray⟩
noncomputable def atS(z:Str)(j:Nat):Nat:=z.cps.getD j 0
theorem uL:∀(ps:List Str) (acc:Array Nat),(ps.foldl (λacc p=>acc++(ja).cps++p.cps) acc).toList=acc.toList++(ps.map (·.cps.toList)).flatten
 |[],acc=>by simp
 |p::ps,acc=>by
  rw[J8,uL ps]
  simp[ja]
theorem join_list(ps:List Str):(zm ja ps).cps.toList=(ps.map (·.cps.toList)).flatten:=by
 cases ps with
 |nil=>rfl
 |cons p ps =>
  show (((p::ps).drop 1).foldl (λacc p=>acc++(ja).cps++p.cps) ((p::ps).headD ja).cps).toList=_
  rw[uL]
  simp
theorem sP(l:List Nat):zm ja (l.map λc=>(⟨#[c]⟩:Str))=ofL l:=by
 apply f8
 rw[join_list]
 simp only[ofL,xj]
 induction l with
 |nil=>rfl
 |cons a l ih=>rw[jw,yz,ih];rfl
theorem mS(l:List Nat):(ofL l).length=l.length:=by simp[ofL,cw]
theorem rN{z:Str}(h:j<z.length):atI z.cps.toList (j:Int)=some (atS z j):=by
 have h':j<z.cps.size:=h
 refine dB ?_
 simp[atS,h',K8]
noncomputable def aE(zs:List Str):List Str:=(qt ((zs.head?.map (·.length)).getD 0)).map λj=>ofL (zs.map (atS · j))
theorem aL3{K:qb}{p:Addr}{xs:List V}{i:Int}{Q:VK}(h:Sq K H p xs)(e:atI xs i=some v)(q:Q v H):rIx K (.ref p) (.int i) H Q:=by
 rcases h with h|h
 ·exact .inl ⟨p,xs,i,v,rfl,rfl,h,e,q⟩
 ·exact .inr (.inl ⟨p,xs,i,v,rfl,rfl,h,e,q⟩)
theorem jX:("" : Str)=ja:=by decide +kernel
noncomputable def dots(n:Nat):Str:=ofL (jy n 46)
theorem uH(n:Nat):gX "." n=dots n:=by
 apply f8
 rw[jR]
 have e:("." : Str).cps.toList=[46]:=by decide +kernel
 rw[e]
 show _=(jy n 46)
 induction n with
 |zero=>rfl
 |succ n ih=>rw[xk,yz,ih,xk];rfl
noncomputable def framed(zs:List Str):List Str:=[dots ((zs.head?.map (·.length)).getD 0)]++zs++[dots ((zs.head?.map (·.length)).getD 0)]
noncomputable def chg(zs:List Str):List Nat:=if zs.isEmpty then [] else (qt (zs.length+1)).filter λi => !decide ((framed zs)[i]?=(framed zs)[i+1]?)
theorem gS(zs:List Str):(framed zs).length=zs.length+2:=by simp[framed]
theorem eO(zs:List Str):∀i∈chg zs,i<=zs.length:=λi hi=>by
 unfold chg at hi
 split at hi
 ·cases hi
 ·have:=kh.mp (gw.mp hi).1
  lia
theorem cC(zs:List Str):(chg zs).Pairwise (· < ·):=by
 unfold chg
 split
 ·exact ck
 ·exact KW _ List.pairwise_lt_range
theorem yZ(zs:List Str):(chg zs).length<=zs.length+1:=by
 unfold chg
 split
 ·simp
 ·exact ji (h9 _ _) '$'
theorem jF{l:List Nat}(h:l.Pairwise (· < ·))(b:∀i∈l,i<=n):∀i∈l.dropLast,i<n:=λi hi=>by
 have hne:l≠[]:=λe=>by rw[e] at hi;cases hi
 have e:=xi hne
 rw[<- e] at h
 have h1:=(Ja.mp h).2.2 i hi (l.getLast hne) '$'
 have h2:=b _ (rk hne)
 lia
theorem p6(zs:List Str)(h:chg zs≠[]):zs≠[]:=λe=>h (by rw[e];rfl)
noncomputable def bZ(zs:List Str):List Str:=(chg zs).dropLast.map λi=>ofL ((chg (aE zs)).dropLast.map (atS (zs.getD i ja)))
theorem qN(h:∀z∈zs,z.length=n):(aE zs).length<=n/\(zs≠[]->(aE zs).length=n):=by
 unfold aE
 rw[zLm,bj]
 cases zs with
 |nil=>exact⟨vy _,λe=>absurd rfl e⟩
 |cons z zr =>
  have:=h z '$'
  exact⟨by show z.length<=n;lia,λ_=>this⟩
theorem eP:∀z∈aE zs,z.length=zs.length:=λz hz=>by
 obtain⟨j,_,rfl⟩:=qu.mp hz
 rw[mS,zLm]
noncomputable def aLZ:V->Bool
 |.int i=>decide (-1000000000<=i)&&decide (i<=1000000000)
 |_=>false
noncomputable def ltV:V->V->Bool
 |.int a, .int b=>decide (a<b)
 |_,_=>false
noncomputable def aHH(xs:List V):Bool:=(qt (xs.length-1)).all λi=>ltV (xs.getD i .non) (xs.getD (i+1) .non)
noncomputable def aK1(xs:List V):Bool:=decide (xs.length<=7)&&(xs.all aLZ&&aHH xs)
noncomputable def dQ(H:Hp):V->Bool
 |.ref a=>(match H a with
  |some (.lst xs)=>aK1 xs
  |_=>false)
 |_=>false
structure KnL(K:qb)(H:Hp)(v:V):Prop where
 kn:Kn K H v
 each:∀a xs,v = .ref a->H a=some (.lst xs)->∀x∈xs,Kn K H x
theorem aI4{n:Int}(h:fD n v=true):∃z:Str,v = .str z/\(z.length:Int)=n/\z.cps.toList.all sgn=true:=by
 cases v with
 |str z =>
  simp only[fD,qi,decide_eq_true_eq] at h
  exact⟨z,rfl,h.1,h.2⟩
 |_=>cases h
theorem all_rows:∀{us:List V},us.all (fD (n:Int))=true->∃zs:List Str,us=zs.map V.str/\(∀z∈zs,z.length=n/\z.cps.toList.all sgn=true)
 |[],_=>⟨[],rfl,λ_ h=>(nomatch h)⟩
 |x::xs,h=>by
  rw[cm,qi] at h
  obtain⟨z,rfl,hz,hs⟩:=aI4 h.1
  obtain⟨zs,rfl,hzs⟩:=all_rows h.2
  exact⟨z::zs,rfl,λy hy=>by
   rcases qr.mp hy with e|e
   ·subst e;exact⟨by lia,hs⟩
   ·exact hzs y e⟩
end R
namespace L2
open PySem PySem.Spec PyProof.Rows
section
end
end L2
namespace L2
open PySem PySem.Spec PyProof.Rows
noncomputable def jH(l:List Nat)(lo hi:Option Int):List Nat:=(l.drop (HT.sIx l.length 0 lo)).take (HT.sIx l.length l.length hi-HT.sIx l.length 0 lo)
noncomputable def dI(z:Str)(lo hi:Option Int):Str:=⟨(jH z.cps.toList lo hi).toArray⟩
noncomputable def rSlS:V->Option Int->Option Int->Hp->VK->Prop:=λx lo hi H Q=>∃z,x = .str z/\z.length<=sizeLine/\Q (.str (dI z lo hi)) H
theorem idx_eq(lo hi:Option Int)(n:Nat):vg lo hi 1 n=sliceRange ((HT.sIx n 0 lo:Nat):Int) ((HT.sIx n n hi:Nat):Int) 1:=by
 obtain⟨h1,h2,h3⟩:=oP lo hi n
 rw[<- h1,<- h2]
 cases lo <;> cases hi <;> rfl
theorem aBS(z:Str)(lo hi:Option Int):(vg lo hi 1 z.length).filterMap (z.cps[·]?)=jH z.cps.toList lo hi:=by
 rw[idx_eq,sliceRange_one,pick_run]
 unfold jH
 rw[qa]
 rfl
theorem aFU(l:List Nat)(lo hi:Option Int):(jH l lo hi).length<=l.length:=by
 unfold jH
 rw[xn,ku];omega
theorem aCB(z:Str)(lo hi:Option Int)(h:(vg lo hi 1 z.length).length=z.length):dI z lo hi=z:=by
 rw[idx_eq,sliceRange_one,zLm,bj] at h
 apply f8
 show jH z.cps.toList lo hi=z.cps.toList
 unfold jH
 have hn:z.cps.toList.length=z.length:=qa
 rw[hn]
 have h1:=HT.aJ5 z.length z.length (qj _) hi
 by_cases h0:HT.sIx z.length 0 lo=0
 ·rw[h0,dk]
  rw[h0] at h
  exact km (by rw[hn];omega)
 ·have:z.length=0:=by omega
  rw[rp (hn.trans this)]
  simp
section
theorem fX:SlR X rSlS:=by
 intro pins s σ H x v vl vu lo hi sl Q I rx hs pl pu h
 obtain⟨z,rfl,hz,q⟩:=h
 obtain⟨t,rfl⟩:=rx
 refine⟨"str", _,slot_str_getitem.lookup,typeIs_str s z t,?_⟩
 have key:∀(l u:Option (Int×Tok)),l.map (·.1)=lo->u.map (·.1)=hi->s.heap.IsSlice sl l u none->kf X.w.7 X.A (VM (.str z t) (.ref sl)) (EP X pins σ Q) X.xe s:=λl u e1 e2 hsl=>by
  refine wpAny_getItem_str_slice hsl rfl ?_
  unfold sliceMade slicePicked
  rw[e1,e2]
  show (if ((1:Int)==1&&(vg lo hi 1 z.length).length==z.length)=true then Made.val (.str z t) else Made.str ⟨((vg lo hi 1 z.length).filterMap (z.cps[·]?)).toArray⟩).post _ s
  by_cases c:((1:Int)==1&&(vg lo hi 1 z.length).length==z.length)=true
  ·rw[if_pos c]
   have c':(vg lo hi 1 z.length).length=z.length:=by simpa using c
   rw[aCB z lo hi c'] at q
   exact⟨.str z,H,I,⟨t,rfl⟩,q⟩
  ·rw[if_neg c,aBS]
   refine⟨?_, .str (dI z lo hi),H,I.tok _,⟨_,rfl⟩,q⟩
   show (jH z.cps.toList lo hi).toArray.size<=sizeLine
   rw[qc]
   exact ji (aFU _ _ _) (by rw[qa];exact hz)
 cases pl with
 |none =>
  cases pu with
  |none=>exact key none none rfl rfl hs
  |int j u=>exact key none (j,u).4 rfl rfl hs
 |int i u' =>
  cases pu with
  |none=>exact key (i,u').4 none rfl rfl hs
  |int j u=>exact key (i,u').4 (j,u).4 rfl rfl hs
end
end L2
namespace L2
open PySem PySem.Spec PyProof.Rows
noncomputable def aGR:V->Bool
 |.ref _=>true
 |.non=>true
 |.bl _=>true
 |.int _=>true
 |.str _=>true
 |_=>false
theorem aG7{xs:List V}(r:Vals xs us)(h:j<us.toArray.size):∃x,xs[j]?=some x/\RelV x us.toArray[j]:=by
 have l:=r.length
 rw[qc] at h
 have g:xs[j]?=some (xs[j]' '!'):=by simp
 obtain⟨u,eu,ru⟩:=r.get g
 refine⟨_,g,?_⟩
 have:us.toArray[j]=u:=by
  rw[zGe h] at eu
  simpa using eu
 rw[this]
 exact ru
inductive Alike(K:qb)(H:Hp):V->V->Prop
 |one {v:V} (h:aGR v=true):Alike K H v v
 |lists {a b:Addr}{xs:List V} (ha:SqL K H a xs) (hb:SqL K H b xs) (h:xs.all aGR=true):Alike K H (.ref a) (.ref b)
section
end
end L2
namespace L2
open PySem PySem.Spec PyProof.Rows
section
variable {to:TE}{t:TA}{T id:String}{r:V->List V->Hp->VK->Prop}
end
end L2
namespace Z
open PySem L2
inductive D where
 |non|bl (b:Bool)|int (i:Int)|str (x:Str)|mt (a:Addr)|tup (ds:List D)|lst (ds:List D)|fl (ds:List D)|st (ks:List (List Int))
abbrev Fg:=qb
noncomputable def aLS(k:List Int):Int:=reduceHash (KY (k.map hashInt))
noncomputable def entS(p:List Int×Addr):DictEntry:={hash:=aLS p.1,key := .ref p.2,val := .bool true}
noncomputable def DSt(a:Addr)(xs:List (List Int×Addr))(ep:Nat)(h:Heap):Prop:=(a==Jg)=false/\∃o,h.get? a=some o/\o.ExactDict/\o.data = .dict (xs.map entS).toArray ep
structure StO(K:Fg)(G:Hp)(o:Option HO)(a:Addr)(ks:List (List Int))(xs:List (List Int×Addr))(ep:Nat):Prop where
 nd:ks.Nodup
 len:ks.length<=sizeLine
 keys:xs.map (·.1)=ks
 at_:∀p∈xs,SqT K G p.2 (p.1.map V.int)
 ob:o=some (.ext (DSt a xs ep))
theorem StO.mv{K:Fg}{o o':Option HO}{xs:List (List Int×Addr)}(h:StO K G o a ks xs ep)(s:Same G G')(e:o'=o):StO K G' o' a ks xs ep:=
 ⟨h.nd,h.len,h.keys,λp hp=>R.j8 s (h.at_ p hp),e.trans h.ob⟩
mutual
noncomputable def Den(K:Fg)(G:Hp):D->V->Prop
 |.non,v=>v = .non
 |.bl b,v=>v = .bl b
 |.int i,v=>v = .int i
 |.str x,v=>v = .str x
 |.mt a,v=>v = .ref a
 |.tup ds,v=>∃a vs,v = .ref a/\SqT K G a vs/\Dens K G ds vs
 |.lst ds,v=>∃a vs,v = .ref a/\G a=some (.lst vs)/\Dens K G ds vs
 |.fl ds,v=>∃a vs,v = .ref a/\SqL K G a vs/\Dens K G ds vs
 |.st ks,v=>∃a xs ep,v = .ref a/\StO K G (G a) a ks xs ep
noncomputable def Dens(K:Fg)(G:Hp):List D->List V->Prop
 |[],vs=>vs=[]
 |d::ds,vs=>∃v r,vs=v::r/\Den K G d v/\Dens K G ds r
end
mutual
theorem Den.mono{K:Fg}(s:Same G G'):∀(d:D) {v:V},Den K G d v->Den K G' d v
 |.non,_,h=>by simp only[Den] at h ⊢;exact h
 |.bl _,_,h=>by simp only[Den] at h ⊢;exact h
 |.int _,_,h=>by simp only[Den] at h ⊢;exact h
 |.str _,_,h=>by simp only[Den] at h ⊢;exact h
 |.mt _,_,h=>by simp only[Den] at h ⊢;exact h
 |.tup ds,_,h=>by
  simp only[Den] at h ⊢
  obtain⟨a,vs,e,q,r⟩:=h
  exact⟨a,vs,e,R.j8 s q,Dens.mono s ds r⟩
 |.lst ds,_,h=>by
  simp only[Den] at h ⊢
  obtain⟨a,vs,e,q,r⟩:=h
  exact⟨a,vs,e,s _ _ q,Dens.mono s ds r⟩
 |.fl ds,_,h=>by
  simp only[Den] at h ⊢
  obtain⟨a,vs,e,q,r⟩:=h
  exact⟨a,vs,e,s.seq q,Dens.mono s ds r⟩
 |.st ks,_,h=>by
  simp only[Den] at h ⊢
  obtain⟨a,xs,ep,e,q⟩:=h
  exact⟨a,xs,ep,e,q.mv s ((s _ _ q.ob).trans q.ob.symm)⟩
theorem Dens.mono{K:Fg}(s:Same G G'):∀(ds:List D) {vs:List V},Dens K G ds vs->Dens K G' ds vs
 |[],_,h=>by simp only[Dens] at h ⊢;exact h
 |d::ds,_,h=>by
  simp only[Dens] at h ⊢
  obtain⟨v,r,e,h1,h2⟩:=h
  exact⟨v,r,e,Den.mono s d h1,Dens.mono s ds h2⟩
end
theorem Den.up{K:Fg}{d:D}(h:Den K G d v)(s:Same G G'):Den K G' d v:=Den.mono s d h
theorem Dens.up{K:Fg}{ds:List D}{vs:List V}(h:Dens K G ds vs)(s:Same G G'):Dens K G' ds vs:=Dens.mono s ds h
theorem bR{K:Fg}:Dens K G [] []:=by simp only[Dens]
theorem bO{K:Fg}{d:D}{ds:List D}{vs:List V}(h:Den K G d v)(r:Dens K G ds vs):Dens K G (d::ds) (v::vs):=by
 simp only[Dens];exact⟨v,vs,rfl,h,r⟩
theorem b5{K:Fg}{d:D}{ds:List D}{vs:List V}(h:Dens K G (d::ds) vs):∃v r,vs=v::r/\Den K G d v/\Dens K G ds r:=by simp only[Dens] at h;exact h
theorem cJ{K:Fg}{vs:List V}(h:Dens K G [] vs):vs=[]:=by simp only[Dens] at h;exact h
theorem Dens.len{K:Fg}:∀{ds:List D}{vs:List V},Dens K G ds vs->ds.length=vs.length
 |[],_,h=>by rw[cJ h];rfl
 |d::ds,_,h=>by
  obtain⟨v,r,rfl,_,h2⟩:=b5 h
  rw[qf,qf,Dens.len h2]
theorem Dens.get{K:Fg}:∀{ds:List D}{vs:List V}{i:Nat}{d:D},Dens K G ds vs->ds[i]?=some d->∃v,vs[i]?=some v/\Den K G d v
 |[],_,_,_,_,e=>by simp at e
 |d0::ds,_,0,d,h,e=>by
  obtain⟨v,r,rfl,h1,_⟩:=b5 h
  simp at e;subst e
  exact⟨v,rfl,h1⟩
 |d0::ds,_,i+1,d,h,e=>by
  obtain⟨v,r,rfl,_,h2⟩:=b5 h
  obtain⟨u,a,b⟩:=Dens.get (i:=i) h2 (by simpa using e)
  exact⟨u,by simpa using a,b⟩
theorem Dens.get'{K:Fg}:∀{ds:List D}{vs:List V}{i:Nat}{v:V},Dens K G ds vs->vs[i]?=some v->∃d,ds[i]?=some d/\Den K G d v:=λ{ds vs i v} h e=>by
 have hi:i<vs.length:=(zGs e).1
 rw[<- h.len] at hi
 have e2:ds[i]?=some ds[i]:=by simp[hi]
 obtain⟨u,a,b⟩:=h.get e2
 rw[e] at a;cases a
 exact⟨_,e2,b⟩
theorem Dens.append{K:Fg}:∀{ds es:List D}{vs ws:List V},Dens K G ds vs->Dens K G es ws->Dens K G (ds++es) (vs++ws)
 |[],_,_,_,h,r=>by rw[cJ h];exact r
 |d::ds,_,_,_,h,r=>by
  obtain⟨v,t,rfl,h1,h2⟩:=b5 h
  exact bO h1 (Dens.append h2 r)
theorem Dens.take{K:Fg}:∀{ds:List D}{vs:List V} (n:Nat),Dens K G ds vs->Dens K G (ds.take n) (vs.take n)
 |_,_,0,_=>by simp only[Kg];exact bR
 |[],_,n+1,h=>by rw[cJ h];exact bR
 |d::ds,_,n+1,h=>by
  obtain⟨v,t,rfl,h1,h2⟩:=b5 h
  exact bO h1 (Dens.take n h2)
theorem Dens.drop{K:Fg}:∀{ds:List D}{vs:List V} (n:Nat),Dens K G ds vs->Dens K G (ds.drop n) (vs.drop n)
 |_,_,0,h=>h
 |[],_,n+1,h=>by rw[cJ h];exact bR
 |d::ds,_,n+1,h=>by
  obtain⟨v,t,rfl,h1,h2⟩:=b5 h
  exact Dens.drop n h2
theorem Dens.reverse{K:Fg}:∀{ds:List D}{vs:List V},Dens K G ds vs->Dens K G ds.reverse vs.reverse
 |[],_,h=>by rw[cJ h];exact bR
 |d::ds,_,h=>by
  obtain⟨v,t,rfl,h1,h2⟩:=b5 h
  rw[fj,fj]
  exact (Dens.reverse h2).append (bO h1 bR)
theorem Dens.set{K:Fg}{d:D}(e:Den K G d v):∀{ds:List D}{vs:List V} (i:Nat),Dens K G ds vs->Dens K G (ds.set i d) (vs.set i v)
 |[],_,_,h=>by rw[cJ h];exact bR
 |d0::ds,_,0,h=>by
  obtain⟨u,t,rfl,h1,h2⟩:=b5 h
  exact bO e h2
 |d0::ds,_,i+1,h=>by
  obtain⟨u,t,rfl,h1,h2⟩:=b5 h
  exact bO h1 (Dens.set e i h2)
theorem Dens.atI{K:Fg}{ds:List D}{vs:List V}{i:Int}{d:D}(h:Dens K G ds vs)(e:atI ds i=some d):∃v,L2.atI vs i=some v/\Den K G d v:=by
 unfold L2.atI at e ⊢
 rw[<- h.len]
 cases hj:ixN ds.length i with
 |none=>rw[hj] at e;cases e
 |some j =>
  rw[hj] at e
  exact h.get e
theorem Dens.of_map{K:Fg}{α:Type}{f:α->D}{g:α->V}(h:∀x,Den K G (f x) (g x)):∀xs:List α,Dens K G (xs.map f) (xs.map g)
 |[]=>bR
 |x::xs=>bO (h x) (Dens.of_map h xs)
inductive MO where
 |lst (ds:List D)
 |st (ks:List (List Int))
 |ob (o:HO)
abbrev Mem:=Addr->Option MO
noncomputable def d7(M:Mem)(a:Addr)(o:MO):Mem:=λb=>if b=a then some o else M b
noncomputable def j6(M:Mem)(a:Addr):Mem:=λb=>if b=a then none else M b
theorem aW{M:Mem}{o:MO}:d7 M a o a=some o:=by unfold d7;rw[if_pos rfl]
theorem dL{M:Mem}{b:Addr}{o:MO}(h:b≠a):d7 M a o b=M b:=by unfold d7;rw[if_neg h]
theorem aC5{M:Mem}:j6 M a a=none:=by unfold j6;rw[if_pos rfl]
theorem kQ{M:Mem}{b:Addr}(h:b≠a):j6 M a b=M b:=by unfold j6;rw[if_neg h]
noncomputable def Le(M M':Mem):Prop:=∀a o,M a=some o->M' a=some o
theorem Le.refl(M:Mem):Le M M:=λ_ _ h=>h
theorem Le.upd{M M':Mem}{o:MO}(h:Le M M')(n:M a=none):Le M (d7 M' a o):=λb u e=>by
 rw[dL (λz=>by rw[z,n] at e;cases e)];exact h b u e
noncomputable def MOk(K:Fg)(G H:Hp)(a:Addr):MO->Prop
 |.lst ds=>∃vs,H a=some (.lst vs)/\Dens K G ds vs
 |.st ks=>∃xs ep,StO K G (H a) a ks xs ep
 |.ob o=>H a=some o
theorem MOk.mv{K:Fg}{m:MO}(h:MOk K G H a m)(s:Same G G')(e:H' a=H a):MOk K G' H' a m:=by
 cases m with
 |lst ds=>obtain⟨vs,e1,e2⟩:=h;exact⟨vs,e.trans e1,e2.up s⟩
 |st ks=>obtain⟨xs,ep,q⟩:=h;exact⟨xs,ep,q.mv s e⟩
 |ob o=>exact e.trans h
structure Rel(K:Fg)(G H:Hp)(M:Mem):Prop where
 same:Same G H
 mem:∀a o,M a=some o->G a=none/\MOk K G H a o
structure Stp(K:Fg)(G H:Hp)(M:Mem)(G' H':Hp)(M':Mem):Prop where
 gg:Same G G'
 rel:Rel K G' H' M'
 fr:∀a o,H a=some o->G a=none->M a=none->H' a=some o/\G' a=none/\M' a=none
theorem Stp.refl{K:Fg}{M:Mem}(r:Rel K G H M):Stp K G H M G H M:=⟨Same.refl G,r,λ_ _ h h1 h2=>⟨h,h1,h2⟩⟩
theorem Stp.trans{K:Fg}{G1 G2 H2:Hp}{M M1 M2:Mem}(a:Stp K G H M G1 H1 M1)(b:Stp K G1 H1 M1 G2 H2 M2):Stp K G H M G2 H2 M2:=
 ⟨a.gg.trans b.gg,b.rel,λc o h h1 h2=>let ⟨x,y,z⟩:=a.fr c o h h1 h2;b.fr c o x y z⟩
theorem Rel.le{K:Fg}{M M':Mem}(r:Rel K G H M)(l:Le M' M):Rel K G H M':=⟨r.same,λa o h=>r.mem a o (l a o h)⟩
theorem Rel.got{K:Fg}{M:Mem}{o:MO}(r:Rel K G H M)(h:M a=some o):∃u,H a=some u:=by
 cases o with
 |lst ds=>obtain⟨_,vs,e,_⟩:=r.mem a _ h;exact⟨_,e⟩
 |st ks=>obtain⟨_,xs,ep,q⟩:=r.mem a _ h;exact⟨_,q.ob⟩
 |ob o=>exact⟨o,(r.mem a _ h).2⟩
theorem Rel.free{K:Fg}{M:Mem}{p:Addr}(r:Rel K G H M)(h:H p=none):G p=none/\M p=none:=by
 refine⟨r.same.free h,?_⟩
 cases e:M p with
 |none=>rfl
 |some o=>obtain⟨u,q⟩:=r.got e;rw[h] at q;cases q
theorem Rel.new{K:Fg}{M:Mem}{p:Addr}{o:HO}(r:Rel K G H M)(h:H p=none):Stp K G H M (upd G p o) (upd H p o) M:=by
 have hG:=(r.free h).1
 have s1:Same G (upd G p o):=uK hG
 refine⟨s1,⟨λb u e => ?_,λa m e => ?_⟩,λa u e1 e2 e3 => ?_⟩
 ·by_cases z:b=p
  ·subst z;rw[a7] at e ⊢;exact e
  ·rw[aU z] at e ⊢;exact r.same b u e
 ·obtain⟨u,q⟩:=r.got e
  have z:a≠p:=bQ q h
  refine⟨by rw[aU z];exact (r.mem a m e).1,?_⟩
  exact (r.mem a m e).2.mv s1 (aU z)
 ·have z:a≠p:=bQ e1 h
  exact⟨by rw[aU z];exact e1,by rw[aU z];exact e2,e3⟩
theorem Rel.newM{K:Fg}{M:Mem}{p:Addr}{vs:List V}{ds:List D}(r:Rel K G H M)(h:H p=none)(e:Dens K G ds vs):Stp K G H M G (upd H p (.lst vs)) (d7 M p (.lst ds)):=by
 have hG:=(r.free h).1
 refine⟨Same.refl G,⟨λb u q => ?_,λa m q => ?_⟩,λa u e1 e2 e3 => ?_⟩
 ·rw[aU (bQ q hG)];exact r.same b u q
 ·by_cases z:a=p
  ·subst z
   rw[aW] at q;cases q
   exact⟨hG,vs,a7,e⟩
  ·rw[dL z] at q
   refine⟨(r.mem a m q).1,?_⟩
   exact (r.mem a m q).2.mv (Same.refl G) (aU z)
 ·have z:a≠p:=bQ e1 h
  exact⟨by rw[aU z];exact e1,e2,by rw[dL z];exact e3⟩
theorem Rel.wr{K:Fg}{M:Mem}{p:Addr}{vs:List V}{ds:List D}{o:MO}(r:Rel K G H M)(h:M p=some o)(e:Dens K G ds vs):Stp K G H M G (upd H p (.lst vs)) (d7 M p (.lst ds)):=by
 have hG:=(r.mem p _ h).1
 refine⟨Same.refl G,⟨λb u q => ?_,λa m q => ?_⟩,λa u e1 e2 e3 => ?_⟩
 ·rw[aU (bQ q hG)];exact r.same b u q
 ·by_cases z:a=p
  ·subst z
   rw[aW] at q;cases q
   exact⟨hG,vs,a7,e⟩
  ·rw[dL z] at q
   refine⟨(r.mem a m q).1,?_⟩
   exact (r.mem a m q).2.mv (Same.refl G) (aU z)
 ·have z:a≠p:=λz=>by rw[z,h] at e3;cases e3
  exact⟨by rw[aU z];exact e1,e2,by rw[dL z];exact e3⟩
theorem Rel.frz{K:Fg}{M:Mem}{ds:List D}(r:Rel K G H M)(h:M a=some (.lst ds)):∃vs,H a=some (.lst vs)/\Dens K G ds vs/\Stp K G H M (upd G a (.lst vs)) H (j6 M a):=by
 obtain⟨hG,vs,e,q⟩:=r.mem a _ h
 have s1:Same G (upd G a (.lst vs)):=uK hG
 refine⟨vs,e,q,s1,⟨λb u z => ?_,λb m z => ?_⟩,λb u e1 e2 e3 => ?_⟩
 ·by_cases y:b=a
  ·subst y;rw[a7] at z;cases z;exact e
  ·rw[aU y] at z;exact r.same b u z
 ·by_cases y:b=a
  ·subst y;rw[aC5] at z;cases z
  ·rw[kQ y] at z
   refine⟨by rw[aU y];exact (r.mem b m z).1,?_⟩
   exact (r.mem b m z).2.mv s1 rfl
 ·have y:b≠a:=λy=>by rw[y,h] at e3;cases e3
  exact⟨e1,by rw[aU y];exact e2,by rw[kQ y];exact e3⟩
theorem Rel.drop{K:Fg}{M M':Mem}(r:Rel K G H M)(l:Le M' M):Stp K G H M G H M':=
 ⟨Same.refl G,r.le l,λa o h1 h2 h3=>⟨h1,h2,by
  cases e:M' a with
  |none=>rfl
  |some u=>rw[l a u e] at h3;cases h3⟩⟩
abbrev Gm:=List (Option D)
structure EnvR(K:Fg)(G:Hp)(Γ:Gm)(σ:St):Prop where
 len:Γ.length=σ.length
 get:∀(i:Nat) (d:D),Γ[i]?=some d.4->∃v,σ[i]?=some v.4/\Den K G d v
theorem EnvR.up{K:Fg}{Γ:Gm}(h:EnvR K G Γ σ)(s:Same G G'):EnvR K G' Γ σ:=
 ⟨h.len,λi d e=>let ⟨v,a,b⟩:=h.get i d e;⟨v,a,b.up s⟩⟩
theorem EnvR.set{K:Fg}{Γ:Gm}(h:EnvR K G Γ σ){d:D}(e:Den K G d v)(i:Nat):EnvR K G (Γ.set i d.4) (σ.set i v.4):=by
 refine⟨by rw[zu,zu,h.len],λj c q => ?_⟩
 rw[fm] at q ⊢
 by_cases z:i=j
 ·rw[if_pos z] at q ⊢
  split at q
  ·rename_i hl
   rw[if_pos (by rw[<- h.len];exact hl)]
   cases q
   exact⟨v,rfl,e⟩
  ·cases q
 ·rw[if_neg z] at q ⊢
  exact h.get j c q
theorem EnvR.start{K:Fg}{ds:List D}{vs:List V}(h:Dens K G ds vs)(n:Nat):EnvR K G (ds.map some++jy (n-ds.length) none) (vs.map some++jy (n-vs.length) none):=by
 have hl:=h.len
 refine⟨by simp[hl],λi d e => ?_⟩
 by_cases hi:i<ds.length
 ·rw[vt (by simpa using hi),qk] at e
  rw[vt (by simp;omega),qk]
  cases q:ds[i]? with
  |none=>rw[q] at e;cases e
  |some c =>
   rw[q] at e;cases e
   obtain⟨v,a,b⟩:=h.get q
   exact⟨v,by rw[a];rfl,b⟩
 ·rw[wg (by simpa using hi),zw] at e
  split at e <;> cases e
noncomputable def tU(X:Cx)(e:Expr):TE:=λσ H Q=>∀pins s,Inv X pins σ H s->kf X.w.7 X.A (eval e X.env) (EP X pins σ Q) X.xe s
theorem pU:PE X e (tU X e):=λpins s σ H Q I h=>h pins s I
theorem bL{t:TE}(p:PE X e t){Q:VK}(h:t σ H Q):tU X e σ H Q:=λpins s I=>p pins s σ H Q I h
noncomputable def tUT(X:Cx)(e:Expr):TT:=λσ H Q=>∀pins s,Inv X pins σ H s->kf X.w.7 X.A (isTrue e X.env (eval e X.env)) (TP X pins σ Q) X.xe s
theorem pUT:PT X e (tUT X e):=λpins s σ H Q I h=>h pins s I
theorem rX{t:TT}(p:PT X e t){Q:Bool->Hp->Prop}(h:t σ H Q):tUT X e σ H Q:=λpins s I=>p pins s σ H Q I h
noncomputable def tUW(X:Cx)(e:Expr):TT:=λσ H Q=>∀whole pins s,Inv X pins σ H s->kf X.w.7 X.A (isTrue e X.env whole) (TP X pins σ Q) X.xe s
theorem pUW:PW X e (tUW X e):=λwhole pins s σ H Q I h=>h whole pins s I
theorem rR{t:TT}(p:PW X e t){Q:Bool->Hp->Prop}(h:t σ H Q):tUW X e σ H Q:=λwhole pins s I=>p whole pins s σ H Q I h
noncomputable def tUA(X:Cx)(es:List Expr):TA:=λσ H Q=>∀pos pins s,Inv X pins σ H s->kf X.w.7 X.A (VJ (x9 pos (qp es X.env))) (AP X pins σ Q) X.xe s
theorem pUA:PA X es (tUA X es):=λpos pins s σ H Q I h=>h pos pins s I
theorem rL{t:TA}(p:PA X es t){Q:List V->Hp->Prop}(h:t σ H Q):tUA X es σ H Q:=λpos pins s I=>p pos pins s σ H Q I h
noncomputable def tUS(X:Cx)(st:Stmt):TS:=λE σ H=>∀pins s,Inv X pins σ H s->kf X.w.7 X.A (exec st X.env) (SP X pins E) X.xe s
theorem pUS:PS X st (tUS X st):=λpins s σ H E I h=>h pins s I
theorem gI{t:TS}(p:PS X st t){E:Ends}(h:t E σ H):tUS X st E σ H:=λpins s I=>p pins s σ H E I h
noncomputable def xD(X:Cx)(st:List Stmt):TS:=λE σ H=>∀pins s,Inv X pins σ H s->kf X.w.7 X.A (execs st X.env) (SP X pins E) X.xe s
theorem lF{st:List Stmt}:PSs X st (xD X st):=λpins s σ H E I h=>h pins s I
theorem jD{st:List Stmt}{t:TS}(p:PSs X st t){E:Ends}(h:t E σ H):xD X st E σ H:=λpins s I=>p pins s σ H E I h
noncomputable def tUG(X:Cx)(tg:Expr):TG:=λv σ H Q=>∀pins s u,Inv X pins σ H s->RelV v u->kf X.w.7 X.A (assign tg X.env u) (λ_ s'=>∃σ' H',Inv X pins σ' H' s'/\Q σ' H') X.xe s
theorem pUG:PG X tg (tUG X tg):=λpins s σ H v u Q I r h=>h pins s u I r
theorem vN{t:TG}(p:PG X tg t){Q:St->Hp->Prop}(h:t v σ H Q):tUG X tg v σ H Q:=λpins s u I r=>p pins s σ H v u Q I r h
noncomputable def aE0(X:Cx)(tg:List Expr):TGs:=λvs σ H Q=>∀pins s us,Inv X pins σ H s->Vals vs us->kf X.w.7 X.A (sf ((yt tg X.env).map (·.2)) us) (λ_ s'=>∃σ' H',Inv X pins σ' H' s'/\Q σ' H') X.xe s
theorem pUGs{tg:List Expr}:PGs X tg (aE0 X tg):=λpins s σ H vs us Q I r h=>h pins s us I r
theorem zC{tg:List Expr}{t:TGs}(p:PGs X tg t){vs:List V}{Q:St->Hp->Prop}(h:t vs σ H Q):aE0 X tg vs σ H Q:=λpins s us I r=>p pins s σ H vs us Q I r h
noncomputable def tUI(X:Cx)(tg iter:Expr):TI:=λσ H R=>∀pins s,Inv X pins σ H s->kf X.w.7 X.A (eval iter X.env) (λv s1=>kf X.w.7 X.A (pyIter v) (PIE X pins σ tg R) X.xe s1) X.xe s
theorem pUI:PI X tg iter (tUI X tg iter):=λpins s σ H R I h=>h pins s I
theorem rM{t:TI}(p:PI X tg iter t){R:It->Hp->Prop}(h:t σ H R):tUI X tg iter σ H R:=λpins s I=>p pins s σ H R I h
noncomputable def Cont(K:Fg)(M:Mem)(k:D->Mem->Prop)(G H:Hp)(Q:VK):Prop:=∀v G' H' d M',Stp K G H M G' H' M'->Den K G' d v->k d M'->Q v H'
noncomputable def GE(X:Cx)(e:Expr)(Γ:Gm)(M:Mem)(k:D->Mem->Prop):Prop:=
 ∀σ G H Q,EnvR X.K G Γ σ->Rel X.K G H M->Cont X.K M k G H Q->tU X e σ H Q
noncomputable def p0(K:Fg)(M:Mem)(k:Bool->Mem->Prop)(G H:Hp)(Q:Bool->Hp->Prop):Prop:=∀b G' H' M',Stp K G H M G' H' M'->k b M'->Q b H'
noncomputable def GT(X:Cx)(e:Expr)(Γ:Gm)(M:Mem)(k:Bool->Mem->Prop):Prop:=
 ∀σ G H Q,EnvR X.K G Γ σ->Rel X.K G H M->p0 X.K M k G H Q->tUT X e σ H Q
noncomputable def GW(X:Cx)(e:Expr)(Γ:Gm)(M:Mem)(k:Bool->Mem->Prop):Prop:=
 ∀σ G H Q,EnvR X.K G Γ σ->Rel X.K G H M->p0 X.K M k G H Q->tUW X e σ H Q
noncomputable def GA(X:Cx)(es:List Expr)(Γ:Gm)(M:Mem)(k:List D->Mem->Prop):Prop:=
 ∀σ G H Q,EnvR X.K G Γ σ->Rel X.K G H M->(∀vs G' H' ds M',Stp X.K G H M G' H' M'->Dens X.K G' ds vs->k ds M'->Q vs H')->tUA X es σ H Q
noncomputable def lU(K:Fg)(M:Mem)(k:Gm->Mem->Prop)(G H:Hp)(Q:St->Hp->Prop):Prop:=∀σ' G' H' Γ' M',Stp K G H M G' H' M'->EnvR K G' Γ' σ'->k Γ' M'->Q σ' H'
noncomputable def GG(X:Cx)(tg:Expr)(d:D)(Γ:Gm)(M:Mem)(k:Gm->Mem->Prop):Prop:=
 ∀σ G H v Q,EnvR X.K G Γ σ->Rel X.K G H M->Den X.K G d v->lU X.K M k G H Q->tUG X tg v σ H Q
noncomputable def GGs(X:Cx)(tgs:List Expr)(ds:List D)(Γ:Gm)(M:Mem)(k:Gm->Mem->Prop):Prop:=
 ∀σ G H vs Q,EnvR X.K G Γ σ->Rel X.K G H M->Dens X.K G ds vs->lU X.K M k G H Q->aE0 X tgs vs σ H Q
structure Fin where
 nx:Gm->Mem->Prop
 rt:D->Mem->Prop
 bk:Gm->Mem->Prop:=λ_ _=>False
 ct:Gm->Mem->Prop:=λ_ _=>False
structure EndsOk(K:Fg)(G H:Hp)(M:Mem)(F:Fin)(E:Ends):Prop where
 nx:lU K M F.nx G H E.nx
 rt:Cont K M F.rt G H E.rt
 bk:lU K M F.bk G H E.bk
 ct:lU K M F.ct G H E.ct
theorem Cont.up{K:Fg}{M M1:Mem}{k:D->Mem->Prop}{G1:Hp}{Q:VK}(c:Cont K M k G H Q)(s:Stp K G H M G1 H1 M1):Cont K M1 k G1 H1 Q:=λv G' H' d M' s'=>c v G' H' d M' (s.trans s')
theorem lU.up{K:Fg}{M M1:Mem}{k:Gm->Mem->Prop}{G1:Hp}{Q:St->Hp->Prop}(c:lU K M k G H Q)(s:Stp K G H M G1 H1 M1):lU K M1 k G1 H1 Q:=λv G' H' d M' s'=>c v G' H' d M' (s.trans s')
theorem p0.up{K:Fg}{M M1:Mem}{k:Bool->Mem->Prop}{G1:Hp}{Q:Bool->Hp->Prop}(c:p0 K M k G H Q)(s:Stp K G H M G1 H1 M1):p0 K M1 k G1 H1 Q:=λv G' H' M' s'=>c v G' H' M' (s.trans s')
theorem EndsOk.up{K:Fg}{M M1:Mem}{F:Fin}{E:Ends}{G1:Hp}(c:EndsOk K G H M F E)(s:Stp K G H M G1 H1 M1):EndsOk K G1 H1 M1 F E:=⟨c.nx.up s,c.rt.up s,c.bk.up s,c.ct.up s⟩
noncomputable def GS(X:Cx)(ss:List Stmt)(Γ:Gm)(M:Mem)(F:Fin):Prop:=
 ∀σ G H E,EnvR X.K G Γ σ->Rel X.K G H M->EndsOk X.K G H M F E->xD X ss E σ H
noncomputable def G1(X:Cx)(st:Stmt)(Γ:Gm)(M:Mem)(F:Fin):Prop:=
 ∀σ G H E,EnvR X.K G Γ σ->Rel X.K G H M->EndsOk X.K G H M F E->tUS X st E σ H
end Z
variable {M M1:Z.Mem}{k:Z.D->Z.Mem->Prop}{d:Z.D}{ds:List Z.D}{Γ:Z.Gm}{kb:Bool->Z.Mem->Prop}{kx:nk->Z.Mem->Prop}{ki:List Z.D->Z.Mem->Prop}{kg:Z.Gm->Z.Mem->Prop}
namespace Z
open PySem L2
section
variable {K:Fg}
theorem cY{i:Int}:Den K G (.int i) (.int i):=by simp only[Den]
theorem cQ{i:Bool}:Den K G (.bl i) (.bl i):=by simp only[Den]
theorem dW{i:Str}:Den K G (.str i) (.str i):=by simp only[Den]
theorem pK:Den K G .non .non:=by simp only[Den]
theorem rW:Den K G (.mt a) (.ref a):=by simp only[Den]
theorem jI{vs:List V}(h:SqT K G a vs)(r:Dens K G ds vs):Den K G (.tup ds) (.ref a):=by simp only[Den];exact⟨a,vs,rfl,h,r⟩
theorem fK{vs:List V}(h:G a=some (.lst vs))(r:Dens K G ds vs):Den K G (.lst ds) (.ref a):=by simp only[Den];exact⟨a,vs,rfl,h,r⟩
theorem aK3{vs:List V}(h:SqL K G a vs)(r:Dens K G ds vs):Den K G (.fl ds) (.ref a):=by simp only[Den];exact⟨a,vs,rfl,h,r⟩
theorem Den.int_{i:Int}(h:Den K G (.int i) v):v = .int i:=by simp only[Den] at h;exact h
theorem Den.bl_{i:Bool}(h:Den K G (.bl i) v):v = .bl i:=by simp only[Den] at h;exact h
theorem Den.str_{i:Str}(h:Den K G (.str i) v):v = .str i:=by simp only[Den] at h;exact h
theorem Den.non_(h:Den K G .non v):v = .non:=by simp only[Den] at h;exact h
theorem Den.mt_(h:Den K G (.mt a) v):v = .ref a:=by simp only[Den] at h;exact h
theorem Den.tup_(h:Den K G (.tup ds) v):∃a vs,v = .ref a/\SqT K G a vs/\Dens K G ds vs:=by simp only[Den] at h;exact h
theorem Den.lst_(h:Den K G (.lst ds) v):∃a vs,v = .ref a/\G a=some (.lst vs)/\Dens K G ds vs:=by simp only[Den] at h;exact h
theorem Den.fl_(h:Den K G (.fl ds) v):∃a vs,v = .ref a/\SqL K G a vs/\Dens K G ds vs:=by simp only[Den] at h;exact h
theorem Den.st_(h:Den K G (.st ks) v):∃a xs ep,v = .ref a/\StO K G (G a) a ks xs ep:=by simp only[Den] at h;exact h
inductive Seq(M:Mem):D->Bool->List D->Prop
 |tup (ds:List D):Seq M (.tup ds) false ds
 |lst (ds:List D):Seq M (.lst ds) true ds
 |fl (ds:List D):Seq M (.fl ds) true ds
 |mt {a:Addr}{ds:List D} (h:M a=some (.lst ds)):Seq M (.mt a) true ds
theorem Seq.sq(q:Seq M d t ds)(r:Rel K G H M)(h:Den K G d v):∃a vs,v = .ref a/\(if t=true then SqL K H a vs else SqT K H a vs)/\Dens K G ds vs:=by
 cases q with
 |tup ds=>obtain⟨a,vs,e,s,d⟩:=h.tup_;exact⟨a,vs,e,R.j8 r.same s,d⟩
 |lst ds=>obtain⟨a,vs,e,s,d⟩:=h.lst_;exact⟨a,vs,e,SqL.of (r.same _ _ s),d⟩
 |fl ds=>obtain⟨a,vs,e,s,d⟩:=h.fl_;exact⟨a,vs,e,r.same.seq s,d⟩
 |mt hm=>obtain⟨_,vs,e,d⟩:=r.mem _ _ hm;exact⟨_,vs,h.mt_,SqL.of e,d⟩
theorem Seq.sq2(q:Seq M d t ds)(r:Rel K G H M)(h:Den K G d v):∃a vs,v = .ref a/\(SqL K H a vs\/SqT K H a vs)/\Dens K G ds vs:=by
 obtain⟨a,vs,e,s,d⟩:=q.sq r h
 refine⟨a,vs,e,?_,d⟩
 cases t with
 |true=>exact .inl s
 |false=>exact .inr s
inductive Lst(M:Mem):D->List D->Prop
 |lst (ds:List D):Lst M (.lst ds) ds
 |mt {a:Addr}{ds:List D} (h:M a=some (.lst ds)):Lst M (.mt a) ds
theorem Lst.sq(q:Lst M d ds)(r:Rel K G H M)(h:Den K G d v):∃a vs,v = .ref a/\H a=some (.lst vs)/\Dens K G ds vs:=by
 cases q with
 |lst ds=>obtain⟨a,vs,e,s,d⟩:=h.lst_;exact⟨a,vs,e,r.same _ _ s,d⟩
 |mt hm=>obtain⟨_,vs,e,d⟩:=r.mem _ _ hm;exact⟨_,vs,h.mt_,e,d⟩
end
section
variable {a:Expr}{rest:List Expr}
theorem aB(i:Nat)(hΓ:Γ[i]?=some d.4)(h:k d M)(hN:X.N[i]?=some x:=by rfl)(hv:Vis X.env.scope x:=by first|exact JN rfl|exact Jf (JN rfl)|exact Jf (Jf rfl))(hd:(x==("__debug__" : Str))=false:=by decide)(hcd:(x==("__classdict__" : Str))=false:=by decide):GE X (.Name x pos) Γ M k:=
 λσ G H Q en rl q=>bL (aJ2 hN hv hd hcd) (let ⟨v,e,dv⟩:=en.get i d hΓ;⟨v,e,q v G H d M (Stp.refl rl) dv h⟩)
theorem y3{i:Int}(h:k (.int i) M):GE X (.Constant (.int i) j pos) Γ M k:=λσ G H Q en rl q=>bL aDF (q _ G H _ M (Stp.refl rl) cY h)
theorem bK{i:Bool}(h:k (.bl i) M):GE X (.Constant (.bool i) j pos) Γ M k:=λσ G H Q en rl q=>bL aLF (q _ G H _ M (Stp.refl rl) cQ h)
theorem m9(h:k .non M):GE X (.Constant .none j pos) Γ M k:=λσ G H Q en rl q=>bL aLA (q _ G H _ M (Stp.refl rl) pK h)
theorem ge_str(h:k (.str x) M):GE X (.Constant (.str x) j pos) Γ M k:=λσ G H Q en rl q=>bL aKH (q _ G H _ M (Stp.refl rl) dW h)
theorem aLB(h:GE X e Γ M λd M1=>∃a ds M2,d = .mt a/\M1 a=some (.lst ds)/\M2 a=none/\Le M2 M1/\k (.lst ds) M2):GE X e Γ M k:=λσ G H Q en rl q =>
 h σ G H Q en rl λv G1 H1 d M1 s1 e1 ⟨a,ds,M2,ed,h1,h2,h3,h4⟩=>by
  subst ed
  obtain⟨vs,x1,x2,st⟩:=s1.rel.frz h1
  have l:Le M2 (j6 M1 a):=λb o z=>by rw[kQ (λy=>by rw[y,h2] at z;cases z)];exact h3 b o z
  have st2:=st.trans (st.rel.drop l)
  exact q v _ _ (.lst ds) M2 (s1.trans st2) (by rw[e1.mt_];exact fK a7 (x2.up st.gg)) h4
noncomputable def Op2(K:Fg)(r:R2)(d1 d2:D)(M:Mem)(k:D->Mem->Prop):Prop:=∀G H v1 v2 Q,Rel K G H M->Den K G d1 v1->Den K G d2 v2->Cont K M k G H Q->r v1 v2 H Q
theorem two{r:R2}(h:GE X a Γ M λd1 M1=>GE X b Γ M1 λd2 M2=>Op2 X.K r d1 d2 M2 k){Q:VK}(en:EnvR X.K G Γ σ)(rl:Rel X.K G H M)(q:Cont X.K M k G H Q):tOp r (tU X a) (tU X b) σ H Q:=by
 refine h σ G H _ en rl λv1 G1 H1 d1 M1 s1 e1 h1 => ?_
 refine h1 σ G1 H1 _ (en.up s1.gg) s1.rel λv2 G2 H2 d2 M2 s2 e2 h2 => ?_
 exact h2 G2 H2 v1 v2 Q s2.rel (e1.up s2.gg) e2 (q.up (s1.trans s2))
theorem aG{op:Operator}{r:R2}(ho:OpR X (bp op) r)(h:GE X a Γ M λd1 M1=>GE X b Γ M1 λd2 M2=>Op2 X.K r d1 d2 M2 k):GE X (.BinOp a op b pos) Γ M k:=
 λσ G H Q en rl q=>bL (aLY ho pU pU) (two h en rl q)
theorem dA{op:VG}{r:R2}(ho:OpR X (xf op) r)(h:GE X a Γ M λd1 M1=>GE X b Γ M1 λd2 M2=>Op2 X.K r d1 d2 M2 k)(hm:de op b=false:=by first|exact nomark _|rfl):GE X (.Compare a [op] [b] pos) Γ M k:=
 λσ G H Q en rl q=>bL (aHY ho pU pU hm) (two h en rl q)
theorem aR{op:VG}{r:R2}(ho:OpR X (xf op) r)(h:GE X a Γ M λd1 M1=>GE X b Γ M1 λd2 M2=>Op2 X.K r d1 d2 M2 λd M3=>∃c,d = .bl c/\kb c M3)(hm:de op b=false:=by first|exact nomark _|rfl):GT X (.Compare a [op] [b] pos) Γ M kb:=
 λσ G H Q en rl q=>rX (aH6 ho pU pU hm) (two (k:=λd M3=>∃c,d = .bl c/\kb c M3) h en rl λv G' H' d M' s e ⟨c,ed,hk⟩=>by subst ed;exact⟨c,e.bl_,q c G' H' M' s hk⟩)
theorem aN{r:R2}(hr:IxR X r)(h:GE X a Γ M λd1 M1=>GE X b Γ M1 λd2 M2=>Op2 X.K r d1 d2 M2 k)(hs:aAW b:=by intro _ _;rfl):GE X (.Subscript a b pos) Γ M k:=
 λσ G H Q en rl q=>bL (aL0 hr pU pU hs) (two h en rl q)
theorem rO{op:UnaryOp}{g:Int->Int}(ho:UnR X (unaryOp op) (rU λi => .int (g i)))(h:GE X a Γ M λd M1=>∃i,d = .int i/\k (.int (g i)) M1):GE X (.UnaryOp op a pos) Γ M k:=λσ G H Q en rl q=>by
 refine bL (aGW ho pU) ?_
 refine h σ G H _ en rl λv G1 H1 d M1 s1 e1 ⟨i,ed,h1⟩ => ?_
 subst ed
 exact⟨i,e1.int_,q _ _ _ _ _ s1 cY h1⟩
end
section
variable {K:Fg}{i j:Int}
theorem bT(h:k (.int (g i j)) M):Op2 K (rI0 λi j => .int (g i j)) (.int i) (.int j) M k:=λG H v1 v2 Q rl e1 e2 q=>⟨i,j,e1.int_,e2.int_,q _ G H _ M (Stp.refl rl) cY h⟩
theorem cK{C:Int->Int->Prop}(hc:C i j)(h:k (.int (g i j)) M):Op2 K (rI C λi j => .int (g i j)) (.int i) (.int j) M k:=λG H v1 v2 Q rl e1 e2 q=>⟨i,j,e1.int_,e2.int_,hc,q _ G H _ M (Stp.refl rl) cY h⟩
theorem gJ{g:Int->Int->Bool}(h:k (.bl (g i j)) M):Op2 K (rI0 λi j => .bl (g i j)) (.int i) (.int j) M k:=λG H v1 v2 Q rl e1 e2 q=>⟨i,j,e1.int_,e2.int_,q _ G H _ M (Stp.refl rl) cQ h⟩
theorem cL(h:k (.bl (decide (i=j))) M):Op2 K rEq (.int i) (.int j) M k:=λG H v1 v2 Q rl e1 e2 q=>by
 rw[e1.int_,e2.int_]
 exact⟨rfl,by rw[show decide (V.int i=V.int j)=decide (i=j) from by simp];exact q _ G H _ M (Stp.refl rl) cQ h⟩
theorem jW(h:k (.bl (!decide (i=j))) M):Op2 K rNe (.int i) (.int j) M k:=λG H v1 v2 Q rl e1 e2 q=>by
 rw[e1.int_,e2.int_]
 exact⟨rfl,by rw[show decide (V.int i=V.int j)=decide (i=j) from by simp];exact q _ G H _ M (Stp.refl rl) cQ h⟩
theorem gF(h:k (.bl (decide (x=y))) M):Op2 K rEq (.str x) (.str y) M k:=λG H v1 v2 Q rl e1 e2 q=>by
 rw[e1.str_,e2.str_]
 exact⟨rfl,by rw[show decide (V.str x=V.str y)=decide (x=y) from by simp];exact q _ G H _ M (Stp.refl rl) cQ h⟩
theorem wW(h:k (.bl (!decide (x=y))) M):Op2 K rNe (.str x) (.str y) M k:=λG H v1 v2 Q rl e1 e2 q=>by
 rw[e1.str_,e2.str_]
 exact⟨rfl,by rw[show decide (V.str x=V.str y)=decide (x=y) from by simp];exact q _ G H _ M (Stp.refl rl) cQ h⟩
theorem aP{d1:D}(q1:Seq M d1 t ds)(e:atI ds i=some d)(h:k d M):Op2 K (rIx K) d1 (.int i) M k:=λG H v1 v2 Q rl e1 e2 q=>by
 obtain⟨a,vs,ev,s,dn⟩:=q1.sq2 rl e1
 obtain⟨v,ei,dv⟩:=dn.atI e
 rw[ev,e2.int_]
 exact R.aL3 s ei (q v G H d M (Stp.refl rl) dv h)
theorem kY{z:Str}{c:Nat}(hz:z.length<=sizeLine)(e:atI z.cps.toList i=some c)(h:k (.str ⟨#[c]⟩) M):Op2 K (rIx K) (.str z) (.int i) M k:=λG H v1 v2 Q rl e1 e2 q =>
 .inr (.inr ⟨z,i,c,e1.str_,e2.int_,hz,e,q _ G H _ M (Stp.refl rl) dW h⟩)
theorem cF(hz:x.length+y.length<=sizeLine)(h:k (.str (x++y)) M):Op2 K (λx y H Q=>∃i j,x = .str i/\y = .str j/\i.length+j.length<=sizeLine/\Q (.str (i++j)) H) (.str x) (.str y) M k:=
 λG H v1 v2 Q rl e1 e2 q=>⟨x,y,e1.str_,e2.str_,hz,q _ G H _ M (Stp.refl rl) dW h⟩
theorem p7(h1 : -(2^40)<=i)(h2:i<2^40)(h3:x.length*i.toNat<=sizeLine)(h:k (.str (gX x i.toNat)) M):Op2 K aG2 (.str x) (.int i) M k:=
 λG H v1 v2 Q rl e1 e2 q=>⟨x,i,e1.str_,e2.int_,h1,h2,h3,q _ G H _ M (Stp.refl rl) dW h⟩
theorem c8{d1 d2:D}{xs ys:List D}(q1:Lst M d1 xs)(q2:Lst M d2 ys)(hl:xs.length+ys.length<=sizeLine)(h:k (.lst (xs++ys)) M):Op2 K rCat d1 d2 M k:=λG H v1 v2 Q rl e1 e2 q=>by
 obtain⟨a,vs,ev,s,dn⟩:=q1.sq rl e1
 obtain⟨b,ws,ew,s2,dn2⟩:=q2.sq rl e2
 refine⟨a,b,vs,ws,ev,ew,s,s2,by rw[<- dn.len,<- dn2.len];exact hl,λp hp => ?_⟩
 have st:=rl.new (o := .lst (vs++ws)) hp
 exact q _ _ _ _ _ st (fK a7 ((dn.append dn2).up st.gg)) h
end
end Z
namespace Z
open PySem L2
section
variable {a:Expr}{rest:List Expr}
theorem bU(h:GE X e Γ M λd M1=>∃c,d = .bl c/\kb c M1)(he:∀whole,isTrue e X.env whole=(do let v <- whole;Jn e.pos;mx [v] (VH v)):=by intro _;rfl):GT X e Γ M kb:=λσ G H Q en rl q=>by
 refine rX (aKQ pU he) ?_
 exact h σ G H _ en rl λv G1 H1 d M1 s1 e1 ⟨c,ed,h1⟩=>by subst ed;exact⟨c,e1.bl_,q _ _ _ _ s1 h1⟩
inductive Tru(M:Mem):D->Bool->Prop
 |seq {d:D}{t:Bool}{ds:List D} (q:Seq M d t ds):Tru M d (!ds.isEmpty)
 |str (x:Str) (h:x.length<=sizeLine):Tru M (.str x) ((x.length:Int) != 0)
 |bl (b:Bool):Tru M (.bl b) b
 |int (i:Int):Tru M (.int i) (i != 0)
 |non:Tru M .non false
theorem xO{K:Fg}{vs:List V}(h:Dens K G ds vs):ds.isEmpty=vs.isEmpty:=by
 cases ds with
 |nil=>rw[cJ h];rfl
 |cons d ds=>obtain⟨v,r,rfl,_⟩:=b5 h;rfl
theorem nF(h:GE X e Γ M λd M1=>∃c,Tru M1 d c/\kb c M1)(he:∀whole,isTrue e X.env whole=(do let v <- whole;Jn e.pos;mx [v] (VH v)):=by intro _;rfl):GT X e Γ M kb:=λσ G H Q en rl q=>by
 refine rX (aE6 pU he) ?_
 refine h σ G H _ en rl λv G1 H1 d M1 s1 e1 ⟨c,tr,h1⟩=>⟨c,?_,q _ _ _ _ s1 h1⟩
 cases tr with
 |seq sq =>
  obtain⟨a,vs,ev,s,dn⟩:=sq.sq2 s1.rel e1
  subst ev
  rw[xO dn]
  rcases s with s|s
  ·exact .inl ⟨vs,s,rfl⟩
  ·exact .inr (.inl ⟨vs,s,rfl⟩)
 |str x hx=>rw[e1.str_];exact⟨hx,rfl⟩
 |bl b=>rw[e1.bl_];rfl
 |int i=>rw[e1.int_];rfl
 |non=>rw[e1.non_];rfl
theorem b6(h:GT X a Γ M λc M1=>kb (!c) M1):GT X (.UnaryOp .Not a pos) Γ M kb:=λσ G H Q en rl q=>by
 refine rX (aK4 pUT) ?_
 exact h σ G H _ en rl λc G1 H1 M1 s1 h1=>q _ _ _ _ s1 h1
theorem eG(h:GW X e Γ M kb):GT X e Γ M kb:=λσ G H Q en rl q pins s I=>h σ G H Q en rl q (eval e X.env) pins s I
theorem aAA(h:GT X a Γ M kb):GW X (.BoolOp .And [a] pos) Γ M kb:=λσ G H Q en rl q=>rR (aIQ pUT) (h σ G H _ en rl q)
theorem dR(h:GT X a Γ M kb):GW X (.BoolOp .Or [a] pos) Γ M kb:=λσ G H Q en rl q=>rR (aJX pUT) (h σ G H _ en rl q)
theorem aDE(h:GT X a Γ M λc M1=>if c=true then GW X (.BoolOp .And (b::rest) pos) Γ M1 kb else kb false M1):GW X (.BoolOp .And (a::b::rest) pos) Γ M kb:=λσ G H Q en rl q=>by
 refine rR (aKV pUT pUW) ?_
 refine h σ G H _ en rl λc G1 H1 M1 s1 h1 => ?_
 cases c with
 |true=>rw[if_pos rfl] at h1 ⊢;exact h1 σ G1 H1 _ (en.up s1.gg) s1.rel (q.up s1)
 |false=>rw[if_neg zBf] at h1 ⊢;exact q _ _ _ _ s1 h1
theorem dF(h:GT X a Γ M λc M1=>if c=true then kb true M1 else GW X (.BoolOp .Or (b::rest) pos) Γ M1 kb):GW X (.BoolOp .Or (a::b::rest) pos) Γ M kb:=λσ G H Q en rl q=>by
 refine rR (aLV pUT pUW) ?_
 refine h σ G H _ en rl λc G1 H1 M1 s1 h1 => ?_
 cases c with
 |true=>rw[if_pos rfl] at h1 ⊢;exact q _ _ _ _ s1 h1
 |false=>rw[if_neg zBf] at h1 ⊢;exact h1 σ G1 H1 _ (en.up s1.gg) s1.rel (q.up s1)
theorem gD{op:BoolOp}(h:GE X a Γ M k):GE X (.BoolOp op [a] pos) Γ M k:=λσ G H Q en rl q=>bL (aJS pU) (h σ G H _ en rl q)
theorem fV(h:GE X a Γ M λd M1=>∃c,d = .bl c/\if c=true then GE X (.BoolOp .And (b::rest) pos) Γ M1 k else k (.bl false) M1):GE X (.BoolOp .And (a::b::rest) pos) Γ M k:=λσ G H Q en rl q=>by
 refine bL (aJR pU pU) ?_
 refine h σ G H _ en rl λv G1 H1 d M1 s1 e1 ⟨c,ed,h1⟩ => ?_
 subst ed
 refine⟨c,e1.bl_,?_⟩
 cases c with
 |true=>rw[if_pos rfl] at h1 ⊢;exact h1 σ G1 H1 _ (en.up s1.gg) s1.rel (q.up s1)
 |false=>rw[if_neg zBf] at h1 ⊢;exact q _ _ _ _ _ s1 cQ h1
theorem rE(h:GE X a Γ M λd M1=>∃c,d = .bl c/\k (.bl (!c)) M1):GE X (.UnaryOp .Not a pos) Γ M k:=λσ G H Q en rl q=>by
 refine bL (aKL pU) ?_
 exact h σ G H _ en rl λv G1 H1 d M1 s1 e1 ⟨c,ed,h1⟩=>by subst ed;exact⟨c,e1.bl_,q _ _ _ _ _ s1 cQ h1⟩
theorem o9(h:GT X c Γ M λt M1=>if t=true then GE X a Γ M1 k else GE X b Γ M1 k):GE X (.IfExp c a b pos) Γ M k:=λσ G H Q en rl q=>by
 refine bL (aFH pUT pU pU) ?_
 refine h σ G H _ en rl λt G1 H1 M1 s1 h1 => ?_
 cases t with
 |true=>rw[if_pos rfl] at h1 ⊢;exact h1 σ G1 H1 _ (en.up s1.gg) s1.rel (q.up s1)
 |false=>rw[if_neg zBf] at h1 ⊢;exact h1 σ G1 H1 _ (en.up s1.gg) s1.rel (q.up s1)
variable {ka:List D->Mem->Prop}
theorem aC(h:ka [] M):GA X [] Γ M ka:=λσ G H Q en rl q=>rL lJ (q _ _ _ _ _ (Stp.refl rl) bR h)
theorem aA(h:GE X e Γ M λd M1=>GA X es Γ M1 λds M2=>ka (d::ds) M2)(hs:qp (e::es) X.env=(false,eval e X.env)::qp es X.env:=by rfl):GA X (e::es) Γ M ka:=λσ G H Q en rl q=>by
 refine rL (fM pU pUA hs) ?_
 refine h σ G H _ en rl λv G1 H1 d M1 s1 e1 h1 => ?_
 exact h1 σ G1 H1 _ (en.up s1.gg) s1.rel λvs G2 H2 ds M2 s2 e2 h2=>q _ _ _ _ _ (s1.trans s2) (bO (e1.up s2.gg) e2) h2
theorem cP{x1}(h:GA X es Γ M λds M1=>ds.length<=sizeLine/\k (.tup ds) M1):GE X (.Tuple es x1 pos) Γ M k:=λσ G H Q en rl q=>by
 refine bL (vL pUA) ?_
 refine h σ G H _ en rl λvs G1 H1 ds M1 s1 e1 ⟨hl,h1⟩=>⟨by rw[<- e1.len];exact hl,λp hp => ?_⟩
 have st:=s1.rel.new (o := .tup vs) hp
 exact q _ _ _ _ _ (s1.trans st) (jI (SqT.of a7) (e1.up st.gg)) h1
theorem bW(h:GA X es Γ M λds M1=>ds.length<=sizeLine/\k (.lst ds) M1):GE X (.List es pos) Γ M k:=λσ G H Q en rl q=>by
 refine bL (aC1 pUA) ?_
 refine h σ G H _ en rl λvs G1 H1 ds M1 s1 e1 ⟨hl,h1⟩=>⟨by rw[<- e1.len];exact hl,λp hp => ?_⟩
 have st:=s1.rel.new (o := .lst vs) hp
 exact q _ _ _ _ _ (s1.trans st) (fK a7 (e1.up st.gg)) h1
theorem tJ(h:GA X es Γ M λds M1=>ds.length<=sizeLine/\∀a,M1 a=none->k (.mt a) (d7 M1 a (.lst ds))):GE X (.List es pos) Γ M k:=λσ G H Q en rl q=>by
 refine bL (aC1 pUA) ?_
 refine h σ G H _ en rl λvs G1 H1 ds M1 s1 e1 ⟨hl,h1⟩=>⟨by rw[<- e1.len];exact hl,λp hp => ?_⟩
 exact q _ _ _ _ _ (s1.trans (s1.rel.newM hp e1)) rW (h1 p (s1.rel.free hp).2)
abbrev Ct:=List D->Mem->(D->Mem->Prop)->Prop
noncomputable def spZ(K:Fg)(F:Ct):Sp:=λvs H Q _=>∃G M ds k,Rel K G H M/\Dens K G ds vs/\F ds M k/\Cont K M k G H Q
theorem aH9{ps:List Str}{p:Pos}{F:Ct}(Fk:FnOk X.prog X.w X.K X.mg X.base CX0 n f fd ps (spZ X.K F))(hr:Room n X.A)(hm:X.mg x=some (.ref f))(hk:wm X.K (.ref f)=true)(hb:Binds X.K fd ps [])(h:GA X (e::es) Γ M λds M1=>F ds M1 k)(hg:Gl X x:=by rfl)(hdb:(x==("__debug__" : Str))=false:=by decide)(he:qp (e::es) X.env=(false,eval e X.env)::qp es X.env:=by rfl)(hpl:(x9 pos (qp es X.env)).any (·.1)=false:=by rfl):
  GE X (.Call (.Name x p) (e::es) [] pos) Γ M k:=λσ G H Q en rl q=>by
 refine bL (zA Fk hr hg hm hk hb .nil pass0 pUA hdb he hpl) ?_
 refine h σ G H _ en rl λvs G1 H1 ds M1 s1 e1 h1 => ?_
 show spZ X.K F (vs++[]) H1 Q E0
 rw[w8]
 exact⟨G1,M1,ds,k,s1.rel,e1,h1,q.up s1⟩
noncomputable def OpN(K:Fg)(r:List V->Hp->VK->Prop)(ds:List D)(M:Mem)(k:D->Mem->Prop):Prop:=∀G H vs Q,Rel K G H M->Dens K G ds vs->Cont K M k G H Q->r vs H Q
theorem aO{p:Pos}{id:String}(hc:dS X (.builtin id) r)(hm:X.mg x=none)(hv:va x=some (.builtin id))(h:GA X (e::es) Γ M λds M1=>OpN X.K r ds M1 k)(hg:Gl X x:=by rfl)(hn:x ≠ "__name__" := by decide)(hdb:(x==("__debug__" : Str))=false:=by decide)(he:qp (e::es) X.env=(false,eval e X.env)::qp es X.env:=by rfl)(hpl:(x9 pos (qp es X.env)).any (·.1)=false:=by rfl):GE X (.Call (.Name x p) (e::es) [] pos) Γ M k:=λσ G H Q en rl q=>by
 refine bL (lM hc hg hm hv pUA hn hdb he hpl) ?_
 exact h σ G H _ en rl λvs G1 H1 ds M1 s1 e1 h1=>h1 G1 H1 vs Q s1.rel e1 (q.up s1)
theorem aY{p:Pos}{T:String}(hc:dS X (.type T) r)(hm:X.mg x=none)(hv:va x=some (.type T))(h:GA X (e::es) Γ M λds M1=>OpN X.K r ds M1 k)(hg:Gl X x:=by rfl)(hn:x ≠ "__name__" := by decide)(hdb:(x==("__debug__" : Str))=false:=by decide)(he:qp (e::es) X.env=(false,eval e X.env)::qp es X.env:=by rfl)(hpl:(x9 pos (qp es X.env)).any (·.1)=false:=by rfl):GE X (.Call (.Name x p) (e::es) [] pos) Γ M k:=λσ G H Q en rl q=>by
 refine bL (uN hc hg hm hv pUA hn hdb he hpl) ?_
 exact h σ G H _ en rl λvs G1 H1 ds M1 s1 e1 h1=>h1 G1 H1 vs Q s1.rel e1 (q.up s1)
theorem dens1{K:Fg}{vs:List V}(h:Dens K G [d] vs):∃v,vs=[v]/\Den K G d v:=by
 obtain⟨v,r,rfl,h1,h2⟩:=b5 h
 rw[cJ h2];exact⟨v,rfl,h1⟩
theorem dens2{K:Fg}{c:D}{vs:List V}(h:Dens K G [d,c] vs):∃v u,vs=[v,u]/\Den K G d v/\Den K G c u:=by
 obtain⟨v,r,rfl,h1,h2⟩:=b5 h
 obtain⟨u,rfl,h3⟩:=dens1 h2
 exact⟨v,u,rfl,h1,h3⟩
theorem cX{K:Fg}(q1:Seq M d t ds)(h:k (.int (ds.length:Int)) M):OpN K (λxs H Q=>∃x n,xs=[x]/\aE2 K x H n/\Q (.int n) H) [d] M k:=λG H vs Q rl e q=>by
 obtain⟨v,rfl,dv⟩:=dens1 e
 obtain⟨a,ws,ev,s,dn⟩:=q1.sq2 rl dv
 subst ev
 refine⟨_,ds.length,rfl,?_,q _ _ _ _ _ (Stp.refl rl) cY h⟩
 rcases s with s|s
 ·exact .inl ⟨ws,s,dn.len⟩
 ·exact .inr ⟨ws,s,dn.len⟩
theorem eM{K:Fg}(hz:x.length<=sizeLine)(h:k (.int (x.length:Int)) M):OpN K (λxs H Q=>∃x n,xs=[x]/\aE2 K x H n/\Q (.int n) H) [.str x] M k:=λG H vs Q rl e q=>by
 obtain⟨v,rfl,dv⟩:=dens1 e
 rw[dv.str_]
 exact⟨_,x.length,rfl,⟨hz,rfl⟩,q _ _ _ _ _ (Stp.refl rl) cY h⟩
theorem aDD{K:Fg}{i:Int}(h:k (.int (if i<0 then -i else i)) M):OpN K (λxs H Q=>∃i,xs=[.int i]/\Q (.int (if i<0 then -i else i)) H) [.int i] M k:=λG H vs Q rl e q=>by
 obtain⟨v,rfl,dv⟩:=dens1 e
 rw[dv.int_]
 exact⟨i,rfl,q _ _ _ _ _ (Stp.refl rl) cY h⟩
theorem pE{K:Fg}{c:Bool}(h:k (.int (if c then 1 else 0)) M):OpN K (λxs H Q=>(∃i,xs=[.int i]/\Q (.int i) H)\/∃k,xs=[.bl k]/\Q (.int (if k then 1 else 0)) H) [.bl c] M k:=λG H vs Q rl e q=>by
 obtain⟨v,rfl,dv⟩:=dens1 e
 rw[dv.bl_]
 exact .inr ⟨c,rfl,q _ _ _ _ _ (Stp.refl rl) cY h⟩
theorem rG{K:Fg}{i j:Int}(h:k (.int (if j>i then j else i)) M):OpN K (λxs H Q=>∃i j,xs=[.int i, .int j]/\Q (.int (if j>i then j else i)) H) [.int i, .int j] M k:=λG H vs Q rl e q=>by
 obtain⟨v,u,rfl,dv,du⟩:=dens2 e
 rw[dv.int_,du.int_]
 exact⟨i,j,rfl,q _ _ _ _ _ (Stp.refl rl) cY h⟩
theorem aJN{K:Fg}{i j:Int}(h:k (.int (if j<i then j else i)) M):OpN K (λxs H Q=>∃i j,xs=[.int i, .int j]/\Q (.int (if j<i then j else i)) H) [.int i, .int j] M k:=λG H vs Q rl e q=>by
 obtain⟨v,u,rfl,dv,du⟩:=dens2 e
 rw[dv.int_,du.int_]
 exact⟨i,j,rfl,q _ _ _ _ _ (Stp.refl rl) cY h⟩
theorem tK{K:Fg}(q1:Seq M d t ds)(h:k (.lst ds) M):OpN K (λxs H Q=>∃p ys,xs=[.ref p]/\(SqL K H p ys\/SqT K H p ys)/\∀l,H l=none->Q (.ref l) (upd H l (.lst ys))) [d] M k:=λG H vs Q rl e q=>by
 obtain⟨v,rfl,dv⟩:=dens1 e
 obtain⟨a,ws,ev,s,dn⟩:=q1.sq2 rl dv
 subst ev
 refine⟨a,ws,rfl,s,λl hl => ?_⟩
 have st:=rl.new (o := .lst ws) hl
 exact q _ _ _ _ _ st (fK a7 (dn.up st.gg)) h
theorem gG{K:Fg}(q1:Seq M d t ds)(h:k (.tup ds) M):OpN K (λxs H Q=>∃p ys,xs=[.ref p]/\((SqL K H p ys/\∀l,H l=none->Q (.ref l) (upd H l (.tup ys)))\/(SqT K H p ys/\Q (.ref p) H))) [d] M k:=λG H vs Q rl e q=>by
 obtain⟨v,rfl,dv⟩:=dens1 e
 cases q1 with
 |tup ds =>
  obtain⟨a,ws,ev,s,dn⟩:=dv.tup_
  subst ev
  exact⟨a,ws,rfl, .inr ⟨R.j8 rl.same s,q _ _ _ _ _ (Stp.refl rl) dv h⟩⟩
 |lst ds =>
  obtain⟨a,ws,ev,s,dn⟩:=(Seq.lst ds).sq rl dv
  subst ev
  refine⟨a,ws,rfl, .inl ⟨s,λl hl => ?_⟩⟩
  have st:=rl.new (o := .tup ws) hl
  exact q _ _ _ _ _ st (jI (SqT.of a7) (dn.up st.gg)) h
 |fl ds =>
  obtain⟨a,ws,ev,s,dn⟩:=(Seq.fl ds).sq rl dv
  subst ev
  refine⟨a,ws,rfl, .inl ⟨s,λl hl => ?_⟩⟩
  have st:=rl.new (o := .tup ws) hl
  exact q _ _ _ _ _ st (jI (SqT.of a7) (dn.up st.gg)) h
 |mt hm =>
  obtain⟨a,ws,ev,s,dn⟩:=(Seq.mt hm).sq rl dv
  subst ev
  refine⟨a,ws,rfl, .inl ⟨s,λl hl => ?_⟩⟩
  have st:=rl.new (o := .tup ws) hl
  exact q _ _ _ _ _ st (jI (SqT.of a7) (dn.up st.gg)) h
theorem zR{K:Fg}:∀{bs:List Bool}{vs:List V},Dens K G (bs.map D.bl) vs->vs=bs.map V.bl
 |[],_,h=>cJ h
 |b::bs,_,h=>by
  obtain⟨v,r,rfl,h1,h2⟩:=b5 h
  rw[h1.bl_,zR h2];rfl
theorem nG{K:Fg}:∀{bs:List Str}{vs:List V},Dens K G (bs.map D.str) vs->vs=bs.map V.str
 |[],_,h=>cJ h
 |b::bs,_,h=>by
  obtain⟨v,r,rfl,h1,h2⟩:=b5 h
  rw[h1.str_,nG h2];rfl
theorem gY{K:Fg}{bs:List Bool}{g:List Bool->Bool}(q1:Seq M d t (bs.map D.bl))(h:k (.bl (g bs)) M):OpN K (aGB K g) [d] M k:=λG H vs Q rl e q=>by
 obtain⟨v,rfl,dv⟩:=dens1 e
 obtain⟨a,ws,ev,s,dn⟩:=q1.sq2 rl dv
 subst ev
 rw[zR dn] at s
 exact⟨a,bs,rfl,s,q _ _ _ _ _ (Stp.refl rl) cQ h⟩
noncomputable def TyD(T:String)(d:D)(M:Mem):Prop:=match d with
 |.str _=>T = "str"
 |.lst _=>T = "list"
 |.mt a=>T = "list" /\ ∃ds,M a=some (.lst ds)
 |_=>False
theorem TyD.ok{K:Fg}{T:String}(h:TyD T d M)(rl:Rel K G H M)(e:Den K G d v):tyV K T v H:=by
 cases d with
 |str x=>rw[e.str_];exact h
 |lst ds=>obtain⟨a,vs,ev,s,_⟩:=e.lst_;rw[ev];exact .inl ⟨h,vs,SqL.of (rl.same _ _ s)⟩
 |mt a =>
  obtain⟨h1,ds,h2⟩:=h
  obtain⟨_,vs,s,_⟩:=rl.mem _ _ h2
  rw[e.mt_];exact .inl ⟨h1,vs,SqL.of s⟩
 |_=>exact xm h
noncomputable def OpM(K:Fg)(r:V->List V->Hp->VK->Prop)(d:D)(ds:List D)(M:Mem)(k:D->Mem->Prop):Prop:=∀G H v vs Q,Rel K G H M->Den K G d v->Dens K G ds vs->Cont K M k G H Q->r v vs H Q
theorem c6{T id:String}{r:V->List V->Hp->VK->Prop}(pa:PlainAttrs T)(slot:Slot T name id)(hty:typeOf (.builtin id)=pure (.type "method_descriptor"))(hm:MtR X id r)(h:GE X o Γ M λd M1=>TyD T d M1/\GA X (e::es) Γ M1 λds M2=>OpM X.K r d ds M2 k)(hbase:attributeBase o name X.env (eval o X.env)=eval o X.env:=by rfl)(hfew:((x9 cpos (qp (e::es) X.env)).all (λx => !x.1)&&(backToKw cpos (keywordEach [] X.env)).all (λx=>x.1.isSome)
   && decide ((e::es).length+([]:List Kd).length+(if ([]:List Kd).isEmpty then 0 else 1)<30))=true:=by rfl)(hline:(apos.endLine==cpos.line)=true:=by rfl)(hs:qp (e::es) X.env=(false,eval e X.env)::qp es X.env:=by rfl)(hplain:(x9 cpos (qp es X.env)).any (·.1)=false:=by rfl):
  GE X (.Call (.Attribute o name apos) (e::es) [] cpos) Γ M k:=λσ G H Q en rl q=>by
 refine bL (aLD pa slot hty hm pU pUA hbase hfew hline hs hplain) ?_
 refine h σ G H _ en rl λv G1 H1 d M1 s1 e1 ⟨ty,h1⟩=>⟨ty.ok s1.rel e1,?_⟩
 exact h1 σ G1 H1 _ (en.up s1.gg) s1.rel λvs G2 H2 ds M2 s2 e2 h2=>h2 G2 H2 v vs Q s2.rel (e1.up s2.gg) e2 (q.up (s1.trans s2))
theorem tR{K:Fg}{a:Addr}(hm:M a=some (.lst ds))(hl:ds.length<sizeLine)(h:k .non (d7 M a (.lst (ds++[d])))):OpM K aAM (.mt a) [d] M k:=λG H v vs Q rl e e2 q=>by
 obtain⟨u,rfl,du⟩:=dens1 e2
 obtain⟨_,ws,s,dn⟩:=rl.mem _ _ hm
 exact⟨a,ws,u,e.mt_,rfl,s,by rw[<- dn.len];exact hl,q _ _ _ _ _ (rl.wr hm (dn.append (bO du bR))) pK h⟩
theorem iR{K:Fg}{sep:Str}{ys:List Str}(q1:Seq M d t (ys.map D.str))(h1:sep.length<=16)(h2:(ys.map (·.length)).sum+ys.length<=1048576)(h:k (.str (pw sep ys)) M):OpM K (rJoin K) (.str sep) [d] M k:=λG H v vs Q rl e e2 q=>by
 obtain⟨u,rfl,du⟩:=dens1 e2
 obtain⟨a,ws,ev,s,dn⟩:=q1.sq2 rl du
 subst ev
 rw[nG dn] at s
 exact⟨sep,a,ys,e.str_,rfl,s,h1,h2,q _ _ _ _ _ (Stp.refl rl) dW h⟩
end
end Z
namespace Z
open PySem L2
section
variable {a:Expr}{rest:List Expr}{lo hi:Option Expr}{ko:Option Int->Mem->Prop}
noncomputable def tUO(X:Cx)(e:Option Expr):TO:=λσ H Q=>∀pins s,Inv X pins σ H s->kf X.w.7 X.A (evalPart e X.env) (λu s'=>∃o H',Inv X pins σ H' s'/\IsPart u o/\Q o H') X.xe s
theorem pUO{e:Option Expr}:PO X e (tUO X e):=λpins s σ H Q I h=>h pins s I
theorem aCP{e:Option Expr}{t:TO}(p:PO X e t){Q:Option Int->Hp->Prop}(h:t σ H Q):tUO X e σ H Q:=λpins s I=>p pins s σ H Q I h
noncomputable def GO(X:Cx)(e:Option Expr)(Γ:Gm)(M:Mem)(ko:Option Int->Mem->Prop):Prop:=
 ∀σ G H Q,EnvR X.K G Γ σ->Rel X.K G H M->(∀o G' H' M',Stp X.K G H M G' H' M'->ko o M'->Q o H')->tUO X e σ H Q
theorem bM(h:ko none M):GO X none Γ M ko:=λσ G H Q en rl q=>aCP aI3 (q _ _ _ _ (Stp.refl rl) h)
theorem bA(h:GE X e Γ M λd M1=>∃i,d = .int i/\ko i.4 M1):GO X e.4 Γ M ko:=λσ G H Q en rl q=>aCP (aHE pU) (h σ G H _ en rl λv G1 H1 d M1 s1 e1 ⟨i,ed,h1⟩=>by subst ed;exact⟨i,e1.int_,q _ _ _ _ s1 h1⟩)
abbrev R3:=V->Option Int->Option Int->Hp->VK->Prop
noncomputable def Op3(K:Fg)(r:R3)(d:D)(l u:Option Int)(M:Mem)(k:D->Mem->Prop):Prop:=∀G H v Q,Rel K G H M->Den K G d v->Cont K M k G H Q->r v l u H Q
theorem a9{r:R3}(hr:SlR X r)(h:GE X e Γ M λd M1=>GO X lo Γ M1 λl M2=>GO X hi Γ M2 λu M3=>Op3 X.K r d l u M3 k):GE X (.Subscript e (.Slice lo hi none p2) pos) Γ M k:=λσ G H Q en rl q=>by
 refine bL (aFG hr pU pUO pUO) ?_
 refine h σ G H _ en rl λv G1 H1 d M1 s1 e1 h1 => ?_
 refine h1 σ G1 H1 _ (en.up s1.gg) s1.rel λl G2 H2 M2 s2 h2 => ?_
 refine h2 σ G2 H2 _ (en.up (s1.trans s2).gg) s2.rel λu G3 H3 M3 s3 h3 => ?_
 exact h3 G3 H3 v Q s3.rel (e1.up (s2.trans s3).gg) (q.up ((s1.trans s2).trans s3))
noncomputable def cutD{α:Type}(xs:List α)(lo hi:Option Int):List α:=(xs.drop (HT.sIx xs.length 0 lo)).take (HT.sIx xs.length xs.length hi-HT.sIx xs.length 0 lo)
theorem Dens.cut{K:Fg}{vs:List V}(h:Dens K G ds vs)(l u:Option Int):Dens K G (cutD ds l u) (qG vs l u):=by
 unfold cutD qG
 rw[<- h.len]
 exact (h.drop _).take _
theorem fU{K:Fg}{z:Str}{l u:Option Int}(hz:z.length<=sizeLine)(h:k (.str (dI z l u)) M):Op3 K rSlS (.str z) l u M k:=λG H v Q rl e q=>⟨z,e.str_,hz,q _ _ _ _ _ (Stp.refl rl) dW h⟩
theorem d6{K:Fg}{l u:Option Int}(q1:Seq M d true ds)(h:k (.lst (cutD ds l u)) M):Op3 K (rSlL K) d l u M k:=λG H v Q rl e q=>by
 obtain⟨a,vs,ev,s,dn⟩:=q1.sq rl e
 refine⟨a,vs,ev,s,λp hp => ?_⟩
 have st:=rl.new (o := .lst (qG vs l u)) hp
 exact q _ _ _ _ _ st (fK a7 ((dn.cut l u).up st.gg)) h
structure YD(K:Fg)(J:It)(ds:List D)(G0:Hp):Prop where
 go:∀i G H M,Same G0 G->Rel K G H M->i<ds.length->J.go i H
 yld:∀i G H M x H',Same G0 G->Rel K G H M->i<ds.length->J.yld i H x H'->∃G' d,Stp K G H M G' H' M/\ds[i]?=some d/\Den K G' d x
 stop:∀i G H M,Same G0 G->Rel K G H M->i=ds.length->J.stop i H
theorem yW{K:Fg}{a:Addr}{vs:List V}(s:SqL K G0 a vs)(dn:Dens K G0 ds vs):YD K (Itl K a) ds G0 where
 go:=λi G H M sg rl h=>sI.go i H (rl.same.seq (sg.seq s)) (by rw[<- dn.len];exact h)
 yld:=λi G H M x H' sg rl h y=>by
  obtain⟨e,hx⟩:=sI.yld i H x H' (rl.same.seq (sg.seq s)) y (by rw[<- dn.len];exact h)
  subst e
  obtain⟨d,hd,e⟩:=dn.get' hx
  exact⟨G,d,Stp.refl rl,hd,e.up sg⟩
 stop:=λi G H M sg rl h=>sI.stop i H (rl.same.seq (sg.seq s)) (by rw[<- dn.len];exact xq h.symm)
theorem aKW{K:Fg}{a:Addr}{vs:List V}(s:SqT K G0 a vs)(dn:Dens K G0 ds vs):YD K (Itt K a) ds G0 where
 go:=λi G H M sg rl h=>vH.go i H (R.j8 rl.same (R.j8 sg s)) (by rw[<- dn.len];exact h)
 yld:=λi G H M x H' sg rl h y=>by
  obtain⟨e,hx⟩:=vH.yld i H x H' (R.j8 rl.same (R.j8 sg s)) y (by rw[<- dn.len];exact h)
  subst e
  obtain⟨d,hd,e⟩:=dn.get' hx
  exact⟨G,d,Stp.refl rl,hd,e.up sg⟩
 stop:=λi G H M sg rl h=>vH.stop i H (R.j8 rl.same (R.j8 sg s)) (by rw[<- dn.len];exact xq h.symm)
noncomputable def o8(lo:Int)(n:Nat):List D:=(qt n).map λi=>D.int (lo+(i:Nat))
theorem bX(lo:Int)(n:Nat):(o8 lo n).length=n:=by simp[o8]
theorem fB{lo:Int}(h:(o8 lo n)[i]?=some d):i<n/\d = .int (lo+(i:Nat)):=by
 have hi:i<n:=by rw[<- bX lo n];exact (zGs h).1
 simp[o8,hi] at h
 exact⟨hi,h.symm⟩
theorem aCH{K:Fg}{lo:Int}:YD K (Itr lo n) (o8 lo n) G0 where
 go:=λi G H M sg rl h=>by rw[bX] at h;exact h
 yld:=λi G H M x H' sg rl h y=>by
  obtain⟨e,hx⟩:=y
  subst e hx
  rw[bX] at h
  exact⟨G,_,Stp.refl rl,by simp[o8,h],cY⟩
 stop:=λi G H M sg rl h=>by rw[bX] at h;exact xq h.symm
noncomputable def sK(x:Str):List D:=x.cps.toList.map λc=>D.str ⟨#[c]⟩
theorem fE(x:Str):(sK x).length=x.length:=by simp[sK,cw]
theorem aK6{K:Fg}:YD K (Its x) (sK x) G0 where
 go:=λi G H M sg rl h=>by rw[fE] at h;exact h
 yld:=λi G H M v H' sg rl h y=>by
  obtain⟨e,c,hc,ev⟩:=y
  subst e ev
  exact⟨G, .str ⟨#[c]⟩,Stp.refl rl,by simp only[sK,qk,Array.getElem?_toList,hc,vp],dW⟩
 stop:=λi G H M sg rl h=>by rw[fE] at h;exact xq h.symm
noncomputable def GI(X:Cx)(tg iter:Expr)(Γ:Gm)(M:Mem)(ki:List D->Mem->Prop):Prop:=
 ∀σ G H R,EnvR X.K G Γ σ->Rel X.K G H M->(∀J G' H' ds M',Stp X.K G H M G' H' M'->YD X.K J ds G'->ki ds M'->R J H')->tUI X tg iter σ H R
noncomputable def iAny(K:Fg)(tl:TE):TI:=λσ H R=>tl σ H λx H1=>∃a,x = .ref a/\(((∃xs,SqL K H1 a xs)/\R (Itl K a) H1)\/((∃xs,SqT K H1 a xs)/\R (Itt K a) H1))
theorem aKU{l:Expr}{tl:TE}(hl:PE X l tl):PI X tg l (iAny X.K tl):=by
 intro pins s σ H R I h
 refine thn (hl pins s σ H _ I h) λv s1 ⟨x,H1,I1,r1,q1⟩ => ?_
 obtain⟨a,e,q⟩:=q1
 subst e
 cases r1
 have fp:∀b∈[s1.heap.objs.size],mI X pins H1 b:=λb hb=>by
  have e:b=s1.heap.objs.size:=by simpa using hb
  subst e
  exact I1.fpOk (qj _) (I1.hok.fresh (qj _))
 rcases q with ⟨⟨xs,hq⟩,q⟩|⟨⟨xs,hq⟩,q⟩
 ·obtain⟨its,r',pl,hz⟩:=I1.list hq
  refine Qc pl.isList ?_
  exact⟨s1.heap.objs.size,[s1.heap.objs.size],_,Itl X.K a,H1,rfl,I1.kept (t':=s1.toks) λb o e=>qh _ e,aDN a _,⟨_,jd _ rfl,rfl,rfl⟩,fp,q⟩
 ·obtain⟨its,r',pl,hz⟩:=I1.tuple hq
  refine si pl ?_
  exact⟨s1.heap.objs.size,[s1.heap.objs.size],_,Itt X.K a,H1,rfl,I1.kept (t':=s1.toks) λb o e=>qh _ e,aBN a _,⟨_,jd _ rfl,rfl,rfl⟩,fp,q⟩
theorem cB(h:GE X iter Γ M λd M1=>∃ds,(d = .tup ds\/d = .lst ds\/d = .fl ds)/\ki ds M1):GI X tg iter Γ M ki:=λσ G H Rr en rl q=>by
 refine rM (aKU pU) ?_
 refine h σ G H _ en rl λv G1 H1 d M1 s1 e1 ⟨ds,ed,h1⟩ => ?_
 rcases ed with rfl|rfl|rfl
 ·obtain⟨a,vs,ev,s,dn⟩:=e1.tup_
  exact⟨a,ev, .inr ⟨⟨vs,R.j8 s1.rel.same s⟩,q _ _ _ _ _ s1 (aKW s dn) h1⟩⟩
 ·obtain⟨a,vs,ev,s,dn⟩:=e1.lst_
  exact⟨a,ev, .inl ⟨⟨vs,SqL.of (s1.rel.same _ _ s)⟩,q _ _ _ _ _ s1 (yW (SqL.of s) dn) h1⟩⟩
 ·obtain⟨a,vs,ev,s,dn⟩:=e1.fl_
  exact⟨a,ev, .inl ⟨⟨vs,s1.rel.same.seq s⟩,q _ _ _ _ _ s1 (yW s dn) h1⟩⟩
theorem kU{p:Pos}(hm:X.mg "range" = none)(h:GA X [a] Γ M λds M1=>∃j:Int,ds=[.int j] /\ -(2^62)<=j/\j<2^62/\ki (o8 0 j.toNat) M1)(hg:Gl X "range" := by rfl)(hs:qp [a] X.env=[(false,eval a X.env)]:=by rfl):GI X tg (.Call (.Name "range" p) [a] [] pos) Γ M ki:=λσ G H R en rl q=>by
 refine rM (aDK hg hm pUA hs) ?_
 refine h σ G H _ en rl λvs G1 H1 ds M1 s1 e1 ⟨j,ed,h1,h2,h3⟩ => ?_
 subst ed
 obtain⟨v,rfl,dv⟩:=dens1 e1
 rw[dv.int_]
 exact⟨j,rfl,h1,h2,q _ _ _ _ _ s1 aCH h3⟩
theorem sV{p:Pos}(hm:X.mg "range" = none)(h:GA X [a,b] Γ M λds M1=>∃i j:Int,ds=[.int i, .int j]/\(-(2^62)<=i/\i<2^62 /\ -(2^62)<=j/\j<2^62)/\ki (o8 i (j-i).toNat) M1)(hg:Gl X "range" := by rfl)(hs:qp [a,b] X.env=[(false,eval a X.env),(false,eval b X.env)]:=by rfl)(hs2:qp [b] X.env=[(false,eval b X.env)]:=by rfl):GI X tg (.Call (.Name "range" p) [a,b] [] pos) Γ M ki:=λσ G H R en rl q=>by
 refine rM (aCX hg hm pUA hs hs2) ?_
 refine h σ G H _ en rl λvs G1 H1 ds M1 s1 e1 ⟨i,j,ed,h1,h3⟩ => ?_
 subst ed
 obtain⟨v,u,rfl,dv,du⟩:=dens2 e1
 rw[dv.int_,du.int_]
 exact⟨i,j,rfl,h1,q _ _ _ _ _ s1 aCH h3⟩
theorem q8(h:GE X iter Γ M λd M1=>∃x,d = .str x/\ki (sK x) M1):GI X tg iter Γ M ki:=λσ G H R en rl q=>by
 refine rM (aKB pU) ?_
 exact h σ G H _ en rl λv G1 H1 d M1 s1 e1 ⟨x,ed,h1⟩=>by subst ed;exact⟨x,e1.str_,q _ _ _ _ _ s1 aK6 h1⟩
end
section
variable {K:Fg}
theorem join_some{α:Type}{o:Option (Option α)}{x:α}(h:o.join=some x):o=some x.4:=by
 cases o with
 |none=>cases h
 |some y=>cases y with
  |none=>cases h
  |some z=>cases h;rfl
theorem EnvR.cap(h:EnvR K G Γ σ)(e:Den K G d v)(cap:List Nat):EnvR K G (some d::cap.map λk=>(Γ[k]?).join) (some v::cap.map λk=>(σ[k]?).join):=by
 refine⟨by simp,λi c q => ?_⟩
 cases i with
 |zero=>simp at q;subst q;exact⟨v,rfl,e⟩
 |succ i =>
  rw[zx,qk] at q ⊢
  cases hc:cap[i]? with
  |none=>rw[hc] at q;cases q
  |some j =>
   rw[hc,vp] at q
   have q':(Γ[j]?).join=some c:=by injection q
   obtain⟨u,a,b⟩:=h.get j c (join_some q')
   exact⟨u,by rw[vp,a];rfl,b⟩
theorem Stp.aside{H0:Hp}{M0:Mem}{p:Addr}{o:HO}(s:Stp K G0 H0 M0 G H M)(h0:H0 p=none)(hg:G p=none)(hm:M p=none):Stp K G0 H0 M0 G (upd H p o) M:=by
 refine⟨s.gg,⟨λb u e => ?_,λa m e => ?_⟩,λa u e1 e2 e3 => ?_⟩
 ·rw[aU (bQ e hg)];exact s.rel.same b u e
 ·have z:a≠p:=λz=>by rw[z,hm] at e;cases e
  exact⟨(s.rel.mem a m e).1,(s.rel.mem a m e).2.mv (Same.refl G) (aU z)⟩
 ·obtain⟨x,y,z⟩:=s.fr a u e1 e2 e3
  exact⟨by rw[aU (bQ e1 h0)];exact x,y,z⟩
theorem Stp.track{H0:Hp}{M0:Mem}{p:Addr}{vs:List V}(s:Stp K G0 H0 M0 G H M)(h0:H0 p=none)(hg:G p=none)(hp:H p=some (.lst vs))(dn:Dens K G ds vs):Stp K G0 H0 M0 G H (d7 M p (.lst ds)):=by
 refine⟨s.gg,⟨s.rel.same,λa m e => ?_⟩,λa u e1 e2 e3 => ?_⟩
 ·by_cases z:a=p
  ·subst z
   rw[aW] at e;cases e
   exact⟨hg,vs,hp,dn⟩
  ·rw[dL z] at e;exact s.rel.mem a m e
 ·obtain⟨x,y,z⟩:=s.fr a u e1 e2 e3
  exact⟨x,y,by rw[dL (bQ e1 h0)];exact z⟩
end
noncomputable def aE1(Y:Cx)(ifs:List Expr):TT:=λσ H Q=>∀pins s,Inv Y pins σ H s ->
  kf (jx Y.prog Y.w) Y.A (forIn ifs true λc r=>if r=true then do let ok <- isTrue c Y.env (eval c Y.env);pure (wo ok) else pure (wo r)) (TP Y pins σ Q) Y.xe s
noncomputable def GIf(Y:Cx)(ifs:List Expr)(Γ:Gm)(M:Mem)(kb:Bool->Mem->Prop):Prop:=
 ∀σ G H Q,EnvR Y.K G Γ σ->Rel Y.K G H M->p0 Y.K M kb G H Q->aE1 Y ifs σ H Q
theorem bB{Y:Cx}(h:kb true M):GIf Y [] Γ M kb:=λσ G H Q en rl q pins s I=>aIF pins s σ H Q I (q _ _ _ _ (Stp.refl rl) h)
theorem zS{Y:Cx}(h:GT Y c Γ M kb):GIf Y [c] Γ M kb:=λσ G H Q en rl q pins s I=>aH7 pUT pins s σ H Q I (h σ G H Q en rl q)
noncomputable def Comp(X:Cx)(x:Str)(ns:List Str)(cap:List Nat)(elt:Expr)(ifs:List Expr)(scope:Scope)(Γ:Gm)(k:D->Mem->Prop)(ds:List D)(M1:Mem):Prop:=
 ds.length<=sizeLine/\∃I:Nat->List D->Mem->Prop,I 0 [] M1 /\
  (∀i d acc M2,ds[i]?=some d->I i acc M2->∀cs C s₀ H₀ fp,GIf fp.10 ifs (some d::cap.map λk=>(Γ[k]?).join) M2 λc M3 =>
   if c=true then (∀cs C s₀ H₀ fp,GE fp.10 elt (some d::cap.map λk=>(Γ[k]?).join) M3 (λy M4=>I (i+1) (acc++[y]) M4)) else I (i+1) acc M3) /\
  (∀acc M2,I ds.length acc M2->∀a,M2 a=none->k (.mt a) (d7 M2 a (.lst acc)))
theorem aC8{cap:List Nat}(h:GI X (.Name x px) iter Γ M (Comp X x ns cap elt ifs scope Γ k)){Q:VK}(en:EnvR X.K G Γ σ)(rl:Rel X.K G H M)(q:Cont X.K M k G H Q):
  kC (tUI X (.Name x px) iter) cap (λσ H Q=>∀cs C s₀ H₀ fp,aE1 fp.10 ifs σ H Q) (λσ H Q=>∀cs C s₀ H₀ fp,tU fp.10 elt σ H Q) σ H Q:=by
 refine h σ G H _ en rl λJ G1 H1 ds M1 s1 yd ⟨hlen,I,h0,hstep,hend⟩ A hA => ?_
 have hA':=s1.rel.free hA
 refine⟨λi m ys H2=>m=ds.length-i/\i<=ds.length/\∃G2 M2 acc,Stp X.K G1 H1 M1 G2 H2 M2/\H2 A=some (.lst ys)/\G2 A=none/\M2 A=none/\Dens X.K G2 acc ys/\I i acc M2/\acc.length<=i,
  ⟨ds.length,by simp,vy _,G1,M1,[],(Stp.refl s1.rel).aside hA hA'.1 hA'.2,a7,hA'.1,hA'.2,bR,h0,qj _⟩,?_⟩
 rintro i m ys H2 ⟨rfl,hi,G2,M2,acc,s2,hl,hg,hm,dn,hI,hacc⟩
 refine⟨hl,?_⟩
 by_cases hlt:i<ds.length
 ·refine .inr ⟨yd.go i G2 H2 M2 s2.gg s2.rel hlt,by rw[<- dn.len];omega,λx H3 y => ?_⟩
  obtain⟨G3,d,s3,hd,ex⟩:=yd.yld i G2 H2 M2 x H3 s2.gg s2.rel hlt y
  obtain⟨l3,g3,m3⟩:=s3.fr A _ hl hg hm
  intro cs C s₀ H₀ fp
  have en3:=((en.up s1.gg).up (s2.trans s3).gg).cap ex cap
  refine hstep i d acc M2 hd hI cs C s₀ H₀ fp _ G3 H3 _ en3 s3.rel λc G4 H4 M4 s4 h4 => ?_
  obtain⟨l4,g4,m4⟩:=s4.fr A _ l3 g3 m3
  cases c with
  |true =>
   rw[if_pos rfl] at h4 ⊢
   intro cs C s₀ H₀ fp
   refine h4 cs C s₀ H₀ fp _ G4 H4 _ (en3.up s4.gg) s4.rel λy G5 H5 d5 M5 s5 e5 h5 => ?_
   obtain⟨l5,g5,m5⟩:=s5.fr A _ l4 g4 m4
   have s25:=((s2.trans s3).trans s4).trans s5
   exact⟨l5,ds.length-(i+1),by omega,rfl,hlt,G5,M5,acc++[d5],s25.aside hA g5 m5,a7,g5,m5,(dn.up ((s3.trans s4).trans s5).gg).append (bO e5 bR),h5,by rw[ql,gz];omega⟩
  |false =>
   rw[if_neg zBf] at h4 ⊢
   exact⟨ds.length-(i+1),by omega,rfl,hlt,G4,M4,acc,(s2.trans s3).trans s4,l4,g4,m4,dn.up (s3.trans s4).gg,h4,by omega⟩
 ·have e:i=ds.length:=by omega
  subst e
  exact .inl ⟨yd.stop _ G2 H2 M2 s2.gg s2.rel rfl,q _ _ _ _ _ (s1.trans (s2.track hA hg hl dn)) rW (hend acc M2 hI A hm)⟩
end Z
namespace Z
open PySem L2
section
variable {F:Fin}{a:Expr}{body:List Stmt}
theorem aI5{sc:Scope}(ns:List Str)(cap:List Nat)(h:GI X (.Name x px) iter Γ M (Comp X x ns cap elt ifs scope Γ k))(hsc:X.env.scope=sc:=by rfl)(hN:X.N=N:=by rfl)(ok:iU sc scope x ns cap N=true:=by first|decide +kernel|kernel_rfl!)(hc:X.calm=true:=by rfl)(hs:∀v,foldedSetIterable iter X.env v=pure v:=by intro _;rfl):
  GE X '+' Γ M k:=λσ G H Q en rl q =>
 bL (aFM ns cap hc hsc hN ok pUI (λcs C s₀ H₀ fp pins s σ H Q I h=>h cs C s₀ H₀ fp pins s I) (λcs C s₀ H₀ fp pins s σ H Q I h=>h cs C s₀ H₀ fp pins s I) hs) (aC8 h en rl q)
noncomputable def aGI(X:Cx)(x:Str)(ns:List Str)(cap:List Nat)(elt:Expr)(ifs:List Expr)(scope:Scope)(Γ:Gm)(k:D->Mem->Prop)(ds:List D)(M1:Mem):Prop:=
 ds.length<=sizeLine/\∃I:Nat->List D->Mem->Prop,I 0 [] M1 /\
  (∀i d acc M2,ds[i]?=some d->I i acc M2->∀cs C s₀ H₀ fp,GIf fp.10 ifs (some d::cap.map λk=>(Γ[k]?).join) M2 λc M3 =>
   if c=true then (∀cs C s₀ H₀ fp,GE fp.10 elt (some d::cap.map λk=>(Γ[k]?).join) M3 (λy M4=>I (i+1) (acc++[y]) M4)) else I (i+1) acc M3) /\
  (∀acc M2,I ds.length acc M2->k (.lst acc) M2)
theorem bJ{sc:Scope}(ns:List Str)(cap:List Nat)(h:GI X (.Name x px) iter Γ M (aGI X x ns cap elt ifs scope Γ k))(hsc:X.env.scope=sc:=by rfl)(hN:X.N=N:=by rfl)(ok:iU sc scope x ns cap N=true:=by first|decide +kernel|kernel_rfl!)(hc:X.calm=true:=by rfl)(hs:∀v,foldedSetIterable iter X.env v=pure v:=by intro _;rfl):
  GE X '+' Γ M k:=by
 refine aLB (aI5 ns cap ?_ hsc hN ok hc hs)
 intro σ G H Rr en rl q
 refine h σ G H Rr en rl λJ G1 H1 ds M1 s1 yd ⟨hl,I,h0,hstep,hend⟩ => ?_
 exact q J G1 H1 ds M1 s1 yd ⟨hl,I,h0,hstep,λacc M2 hI a ha=>⟨a,acc,M2,rfl,aW,ha,(Le.refl M2).upd ha,hend acc M2 hI⟩⟩
theorem cU{cap:List Nat}(hl:ds.length<=sizeLine)(I:Nat->List D->Mem->Prop)(h0:I 0 [] M1)(hs:∀i d acc M2,ds[i]?=some d->I i acc M2->∀cs C s₀ H₀ fp,GIf fp.10 ifs (some d::cap.map λk=>(Γ[k]?).join) M2 λc M3 =>
   if c=true then (∀cs C s₀ H₀ fp,GE fp.10 elt (some d::cap.map λk=>(Γ[k]?).join) M3 (λy M4=>I (i+1) (acc++[y]) M4)) else I (i+1) acc M3)(hd:∀acc M2,I ds.length acc M2->k (.lst acc) M2):aGI X x ns cap elt ifs scope Γ k ds M1:=⟨hl,I,h0,hs,hd⟩
theorem aT(h:F.nx Γ M):GS X [] Γ M F:=λσ G H E en rl q=>jD zZ (q.nx σ G H Γ M (Stp.refl rl) en h)
theorem aD(h:G1 X st Γ M {F with nx:=λΓ' M'=>GS X ss Γ' M' F}):GS X (st::ss) Γ M F:=λσ G H E en rl q=>by
 refine jD (nN pUS lF) ?_
 refine h σ G H _ en rl ⟨λσ' G' H' Γ' M' s' en' h' => ?_,q.rt,q.bk,q.ct⟩
 exact h' σ' G' H' E en' s'.rel (q.up s')
theorem aF(h:G1 X st Γ M F):GS X [st] Γ M F:=λσ G H E en rl q=>jD (sN pUS) (h σ G H E en rl q)
theorem fT(i:Nat){a:Addr}(hΓ:Γ[i]?=some (.mt a).4)(hM:M a=some (.lst ds))(h:GS X ss (Γ.set i (.lst ds).4) (j6 M a) F):GS X ss Γ M F:=λσ G H E en rl q=>by
 obtain⟨vs,x1,x2,s1⟩:=rl.frz hM
 obtain⟨v,ev,dv⟩:=en.get i _ hΓ
 have dl:Den X.K (upd G a (.lst vs)) (.lst ds) v:=by rw[dv.mt_];exact fK a7 (x2.up s1.gg)
 have en':=(en.up s1.gg).set dl i
 have es:σ.set i v.4=σ:=by
  apply vj
  intro j
  rw[fm]
  by_cases z:i=j
  ·subst z
   rw[if_pos rfl,if_pos (zGs ev).1,ev]
  ·rw[if_neg z]
 rw[es] at en'
 exact h σ _ H E en' s1.rel (q.up s1)
theorem aK(i:Nat)(hN:X.N.Nodup)(h:GE X e Γ M λd M1=>F.nx (Γ.set i d.4) M1)(hi:X.N[i]?=some x:=by rfl)(hx:Loc X.env.scope x:=by first|exact JN rfl|exact Jf rfl)(hs:cn e (.Name x pos').4 pos.line X.env=pure false:=by rfl)(hf:X.fn x=true\/X.env.scope.names.lookup x=some .local:=by first|exact .inl rfl|exact .inr rfl):G1 X (.Assign [.Name x pos'] e pos) Γ M F:=λσ G H E en rl q=>by
 refine gI (aC0 hN hi hx pU hs hf) ?_
 exact h σ G H _ en rl λv G1 H1 d M1 s1 e1 h1=>q.nx _ _ _ _ _ s1 ((en.up s1.gg).set e1 i) h1
theorem fA(iy:Nat){sc:Scope}(ns:List Str)(cap:List Nat)(hNd:N.Nodup)(h:GI X (.Name x px) iter Γ M (Comp X x ns cap elt ifs scope Γ λd M1=>F.nx (Γ.set iy d.4) M1))(hsc:X.env.scope=sc:=by rfl)(hN:X.N=N:=by rfl)(ok:iU sc scope x ns cap N=true:=by first|decide +kernel|kernel_rfl!)(hiy:N[iy]?=some y:=by rfl)(hyl:sc.names.lookup y=some .local:=by rfl)(hc:X.calm=true:=by rfl)(hs:∀v,foldedSetIterable iter X.env v=pure v:=by intro _;rfl)(hsw:cn '+' (.Name y py).4 spos.line X.env=pure true:=by rfl):
  G1 X (.Assign [.Name y py] '+' spos) Γ M F:=λσ G H E en rl q=>by
 refine gI (yU (tt:=λσ H Q=>∀cs C s₀ H₀ fp,aE1 fp.10 ifs σ H Q) (te:=λσ H Q=>∀cs C s₀ H₀ fp,tU fp.10 elt σ H Q) iy ns cap hNd hiy hyl hc hsc hN ok pUI (λcs C s₀ H₀ fp pins s σ H Q I h=>h cs C s₀ H₀ fp pins s I) (λcs C s₀ H₀ fp pins s σ H Q I h=>h cs C s₀ H₀ fp pins s I) hs hsw) ?_
 exact aC8 h en rl λv G1 H1 d M1 s1 e1 h1=>q.nx _ _ _ _ _ s1 ((en.up s1.gg).set e1 iy) h1
theorem lO{cap:List Nat}(hl:ds.length<=sizeLine)(I:Nat->List D->Mem->Prop)(h0:I 0 [] M1)(hs:∀i d acc M2,ds[i]?=some d->I i acc M2->∀cs C s₀ H₀ fp,GIf fp.10 ifs (some d::cap.map λk=>(Γ[k]?).join) M2 λc M3 =>
   if c=true then (∀cs C s₀ H₀ fp,GE fp.10 elt (some d::cap.map λk=>(Γ[k]?).join) M3 (λy M4=>I (i+1) (acc++[y]) M4)) else I (i+1) acc M3)(hd:∀acc M2,I ds.length acc M2->∀a,M2 a=none->k (.mt a) (d7 M2 a (.lst acc))):Comp X x ns cap elt ifs scope Γ k ds M1:=
 ⟨hl,I,h0,hs,hd⟩
theorem mQ(h:GE X e Γ M λd M1=>GG X tg d Γ M1 F.nx)(hs:sd [tg] e pos.line X.env=pure false:=by rfl)(hw:se [tg] e X.env=pure none:=by rfl)(h1:(yt [tg] X.env).map (·.2)=[assign tg X.env]:=by rfl):G1 X (.Assign [tg] e pos) Γ M F:=λσ G H E en rl q=>by
 refine gI (aKT pU pUG hs hw h1) ?_
 exact h σ G H _ en rl λv G1 H1 d M1 s1 e1 h1=>h1 σ G1 H1 v _ (en.up s1.gg) s1.rel e1 (q.nx.up s1)
theorem aJQ(i j:Nat){pt:Pos}{kt k2 pt2}(hN:X.N.Nodup)(hij:i≠j)(h:GA X [a,b] Γ M λds M1=>∃d1 d2,ds=[d1,d2]/\F.nx ((Γ.set i d1.4).set j d2.4) M1)(hi:X.N[i]?=some x:=by rfl)(hj:X.N[j]?=some y:=by rfl)(hx:X.env.scope.names.lookup x=some .local:=by rfl)(hy:X.env.scope.names.lookup y=some .local:=by rfl)(hc:X.calm=true:=by rfl)(hw:se [.Tuple [.Name x px, .Name y py] kt pt] (.Tuple [a,b] k2 pt2) X.env=pure (some [x,y]):=by rfl)(hs:sd [.Tuple [.Name x px, .Name y py] kt pt] (.Tuple [a,b] k2 pt2) pos.line X.env=pure false:=by rfl):
  G1 X (.Assign [.Tuple [.Name x px, .Name y py] kt pt] (.Tuple [a,b] k2 pt2) pos) Γ M F:=λσ G H E en rl q=>by
 refine gI (aJ9 hc hN hi hj hij hx hy pUA hw hs) ?_
 refine h σ G H _ en rl λvs G1 H1 ds M1 s1 e1 ⟨d1,d2,ed,h1⟩ => ?_
 subst ed
 obtain⟨v,u,rfl,dv,du⟩:=dens2 e1
 exact⟨v,u,rfl,q.nx _ _ _ _ _ s1 (((en.up s1.gg).set dv i).set du j) h1⟩
theorem eH(i:Nat)(hN:X.N.Nodup)(h:kg (Γ.set i d.4) M)(hi:X.N[i]?=some x:=by rfl)(hx:Loc X.env.scope x:=by first|exact JN rfl|exact Jf rfl)(hf:X.fn x=true\/X.env.scope.names.lookup x=some .local:=by first|exact .inl rfl|exact .inr rfl):GG X (.Name x pos) d Γ M kg:=λσ G H v Q en rl e q =>
 vN (tM hN hi hx hf) (q _ _ _ _ _ (Stp.refl rl) (en.set e i) h)
theorem zI(h:kg Γ M):GGs X [] [] Γ M kg:=λσ G H vs Q en rl e q=>zC aI8 ⟨cJ e,q _ _ _ _ _ (Stp.refl rl) en h⟩
theorem jC{tgs:List Expr}(h:GG X tg d Γ M λΓ1 M1=>GGs X tgs ds Γ1 M1 kg)(hs:(yt (tg::tgs) X.env).map (·.2)=assign tg X.env::(yt tgs X.env).map (·.2):=by rfl):GGs X (tg::tgs) (d::ds) Γ M kg:=λσ G H vs Q en rl e q=>by
 refine zC (aEI pUG pUGs hs) ?_
 obtain⟨v,r,ev,e1,e2⟩:=b5 e
 refine⟨v,r,ev,h σ G H v _ en rl e1 λσ1 G1 H1 Γ1 M1 s1 en1 h1 => ?_⟩
 exact h1 σ1 G1 H1 r Q en1 s1.rel (e2.up s1.gg) (q.up s1)
theorem aDQ{tgs:List Expr}{kk:Nat}(hl:ds.length=n)(h:GGs X tgs ds Γ M kg)(hc:X.calm=true:=by rfl)(hn:(yt tgs X.env).length=n:=by rfl)(hst:(yt tgs X.env).findIdx? (·.1)=none:=by rfl):
  GG X (.Tuple tgs kk pos) (.tup ds) Γ M kg:=λσ G H v Q en rl e q=>by
 refine vN (aKS hc pUGs hn hst) ?_
 obtain⟨a,vs,ev,s,dn⟩:=e.tup_
 exact⟨a,vs,ev,R.j8 rl.same s,by rw[<- dn.len];exact hl,h σ G H vs Q en rl dn q⟩
theorem rK{i:Expr}(h:GE X o Γ M λd1 M1=>GE X i Γ M1 λd2 M2=>∃a n j ds,d1 = .mt a/\d2 = .int n/\M2 a=some (.lst ds)/\ixN ds.length n=some j/\kg Γ (d7 M2 a (.lst (ds.set j d))))(ha:∀v,assign (.Subscript o i pos) X.env v=(do
   let ov <- mx [v] (eval o X.env)
   let iv <- mx [v,ov] (eval i X.env)
   Jn pos
   mx [v,ov,iv] (setItem ov iv v)
   release [v,ov,iv] []):=by intro _;rfl):GG X (.Subscript o i pos) d Γ M kg:=λσ G H v Q en rl e q=>by
 refine vN (aJP pU pU set_list ha) ?_
 refine h σ G H _ en rl λv1 G1 H1 d1 M1 s1 e1 h1 => ?_
 refine h1 σ G1 H1 _ (en.up s1.gg) s1.rel λv2 G2 H2 d2 M2 s2 e2 ⟨a,n,j,ds,x1,x2,hm,hj,h2⟩ => ?_
 subst x1 x2
 obtain⟨_,vs,es,dn⟩:=s2.rel.mem _ _ hm
 have s12:=s1.trans s2
 exact⟨a,vs,n,j,(e1.up s2.gg).mt_,e2.int_,es,by rw[<- dn.len];exact hj,q _ _ _ _ _ (s12.trans (s2.rel.wr hm (dn.set (e.up s12.gg) j))) (en.up s12.gg) h2⟩
theorem yY(h:GE X e Γ M λ_ M1=>F.nx Γ M1)(hs:cn e none pos.line X.env=pure false:=by rfl):G1 X (.Expr e pos) Γ M F:=λσ G H E en rl q =>
 gI (aH5 pU hs) (h σ G H _ en rl λv G1 H1 d M1 s1 e1 h1=>q.nx _ _ _ _ _ s1 (en.up s1.gg) h1)
theorem aH(h:GE X e Γ M F.rt):G1 X (.Return e.4 pos) Γ M F:=λσ G H E en rl q=>gI (aB1 pU) (h σ G H _ en rl q.rt)
theorem aX{ss1 ss2:List Stmt}(h:GT X c Γ M λt M1=>if t=true then GS X ss1 Γ M1 F else GS X ss2 Γ M1 F):G1 X (.If c ss1 ss2 pos) Γ M F:=λσ G H E en rl q=>by
 refine gI (aGX pUT lF lF) ?_
 refine h σ G H _ en rl λt G1 H1 M1 s1 h1 => ?_
 cases t with
 |true=>rw[if_pos rfl] at h1 ⊢;exact h1 σ G1 H1 E (en.up s1.gg) s1.rel (q.up s1)
 |false=>rw[if_neg zBf] at h1 ⊢;exact h1 σ G1 H1 E (en.up s1.gg) s1.rel (q.up s1)
theorem eT(P:Gm->Mem->Prop)(h:G1 X st Γ M {F with nx:=P})(h2:∀Γ' M',P Γ' M'->F.nx Γ' M'):G1 X st Γ M F:=λσ G H E en rl q=>h σ G H E en rl ⟨λσ' G' H' Γ' M' s' en' h'=>q.nx σ' G' H' Γ' M' s' en' (h2 _ _ h'),q.rt,q.bk,q.ct⟩
noncomputable def Loop(X:Cx)(tg:Expr)(body:List Stmt)(Γ:Gm)(F:Fin)(ds:List D)(M:Mem):Prop:=∃I:Nat->Gm->Mem->Prop,I 0 Γ M /\
 (∀i d Γ' M',ds[i]?=some d->I i Γ' M'->GG X tg d Γ' M' λΓ2 M2=>GS X body Γ2 M2 {F with nx:=I (i+1),ct:=I (i+1),bk:=F.nx})/\∀Γ' M',I ds.length Γ' M'->F.nx Γ' M'
theorem m6(h:GI X tg iter Γ M (Loop X tg body Γ F))(hp:JO X.w.7 X.A X.env X.xe:=by exact Q8)(hc:X.calm=true:=by rfl)(hs:∀x,foldedSetIterable iter X.env x=pure x:=by intro _;rfl):G1 X (.For tg iter body [] pos) Γ M F:=λσ G H E en rl q=>by
 refine gI (aLC hp hc pUI pUG lF hs) ?_
 refine h σ G H _ en rl λJ G1 H1 ds M1 s1 yd ⟨I,h0,hstep,hend⟩ => ?_
 refine⟨λi m σ' H'=>m=ds.length-i/\i<=ds.length/\∃G' Γ' M',Stp X.K G1 H1 M1 G' H' M'/\EnvR X.K G' Γ' σ'/\I i Γ' M',⟨ds.length,by simp,vy _,G1,Γ,M1,Stp.refl s1.rel,en.up s1.gg,h0⟩,?_⟩
 rintro i m σ2 H2 ⟨rfl,hi,G2,Γ2,M2,s2,en2,hI⟩
 by_cases hlt:i<ds.length
 ·refine .inr ⟨yd.go i G2 H2 M2 s2.gg s2.rel hlt,λσ' H'=>∃G' Γ' M',Stp X.K G1 H1 M1 G' H' M'/\EnvR X.K G' Γ' σ'/\I (i+1) Γ' M',λσ' H' z=>⟨ds.length-(i+1),by omega,rfl,hlt,z⟩,λx H3 y => ?_⟩
  obtain⟨G3,d,s3,hd,ex⟩:=yd.yld i G2 H2 M2 x H3 s2.gg s2.rel hlt y
  have s13:=s2.trans s3
  refine hstep i d Γ2 M2 hd hI σ2 G3 H3 x _ (en2.up s3.gg) s3.rel ex λσ4 G4 H4 Γ4 M4 s4 en4 h4 => ?_
  have s14:=s13.trans s4
  refine h4 σ4 G4 H4 _ en4 s4.rel ⟨λσ5 G5 H5 Γ5 M5 s5 en5 h5=>⟨G5,Γ5,M5,s14.trans s5,en5,h5⟩,q.rt.up (s1.trans s14),q.nx.up (s1.trans s14),λσ5 G5 H5 Γ5 M5 s5 en5 h5=>⟨G5,Γ5,M5,s14.trans s5,en5,h5⟩⟩
 ·have e:i=ds.length:=by omega
  subst e
  exact .inl ⟨yd.stop _ G2 H2 M2 s2.gg s2.rel rfl,q.nx _ _ _ _ _ (s1.trans s2) en2 (hend _ _ hI)⟩
theorem vM(I:Nat->Gm->Mem->Prop)(h0:I n Γ M)(hs:∀m Γ' M',I m Γ' M'->GT X c Γ' M' λt M1=>if t=true then GS X body Γ' M1 {F with nx:=λΓ2 M2=>∃m',m'<m/\I m' Γ2 M2,ct:=λΓ2 M2=>∃m',m'<m/\I m' Γ2 M2,bk:=F.nx} else F.nx Γ' M1)(hp:JO X.w.7 X.A X.env X.xe:=by exact Q8):G1 X (.While c body [] pos) Γ M F:=λσ G H E en rl q=>by
 refine gI (aEG hp pUT lF) ?_
 refine⟨λm σ' H'=>∃G' Γ' M',Stp X.K G H M G' H' M'/\EnvR X.K G' Γ' σ'/\I m Γ' M',⟨n,G,Γ,M,Stp.refl rl,en,h0⟩,?_⟩
 rintro m σ2 H2 ⟨G2,Γ2,M2,s2,en2,hI⟩
 refine hs m Γ2 M2 hI σ2 G2 H2 _ en2 s2.rel λt G3 H3 M3 s3 h3 => ?_
 have s13:=s2.trans s3
 cases t with
 |true =>
  rw[if_pos rfl] at h3 ⊢
  refine⟨λσ' H'=>∃m',m'<m/\∃G' Γ' M',Stp X.K G H M G' H' M'/\EnvR X.K G' Γ' σ'/\I m' Γ' M',λσ' H' z=>z,?_⟩
  refine h3 σ2 G3 H3 _ (en2.up s3.gg) s3.rel ⟨λσ5 G5 H5 Γ5 M5 s5 en5 ⟨m',hm,h5⟩=>⟨m',hm,G5,Γ5,M5,s13.trans s5,en5,h5⟩,q.rt.up s13,q.nx.up s13,λσ5 G5 H5 Γ5 M5 s5 en5 ⟨m',hm,h5⟩=>⟨m',hm,G5,Γ5,M5,s13.trans s5,en5,h5⟩⟩
 |false =>
  rw[if_neg zBf] at h3 ⊢
  exact q.nx _ _ _ _ _ s13 (en2.up s3.gg) h3
end
section
variable {K:Fg}
abbrev cxF(P:Program)(w:World)(K:Fg)(mg:Str->Option Value)(base:Heap)(N:List Str)(x:Str)(st:Stmt)(f:Addr)(cdv:Value)(A:Around)(outer:List Env)(s:Shared)(H:Hp)(E:XK):Cx:=
 (fC CX0 P w K mg base N x (aL st) f cdv A outer s H E).nox
theorem b8{ps:List Str}{F:Ct}(Df:R.Df K mg x st ps f fd)(S:FnScope N ps (aL st))(len:∀ds M k,F ds M k->ds.length=ps.length)(h:∀cdv A outer s H E,Room n (cxF P w K mg base N x st f cdv A outer s H E).A->∀ds M k,F ds M k ->
   GS (cxF P w K mg base N x st f cdv A outer s H E) (dE st) (ds.map some++jy (N.length-ds.length) none) M {nx:=λ_ M'=>k .non M',rt:=k}):FnOk P w K mg base CX0 (n+1) f fd ps (spZ K F):=by
 refine Df.F.ok S (λvs H Q E h => ?_) (λcdv A outer s H vs Q E hr hsp => ?_)
 ·obtain⟨G,M,ds,k,rl,dn,hF,_⟩:=h
  rw[<- dn.len];exact len _ _ _ hF
 ·obtain⟨G,M,ds,k,rl,dn,hF,q⟩:=hsp
  refine⟨_,lF,?_⟩
  refine h cdv A outer s H E hr ds M k hF (start N vs) G H _ (EnvR.start dn N.length) rl ⟨λσ' G' H' Γ' M' s' en' h'=>q _ _ _ _ _ s' pK h',q,λ_ _ _ _ _ _ _ h'=>h'.elim,λ_ _ _ _ _ _ _ h'=>h'.elim⟩
end
end Z
namespace Z
open PySem L2
mutual
noncomputable def eqD:D->D->Bool
 |.non, .non=>true
 |.bl a, .bl b=>a==b
 |.int a, .int b=>a==b
 |.bl a, .int b=>(if a then 1 else 0)==b
 |.int a, .bl b=>a==(if b then 1 else 0)
 |.str a, .str b=>a==b
 |.tup xs, .tup ys=>eqDs xs ys
 |.lst xs, .lst ys=>eqDs xs ys
 |_,_=>false
noncomputable def eqDs:List D->List D->Bool
 |[],[]=>true
 |x::xs,y::ys=>eqD x y&&eqDs xs ys
 |_,_=>false
end
mutual
noncomputable def okD:Nat->D->Bool
 |_, .non|_, .bl _|_, .int _|_, .str _=>true
 |n+1, .tup ds=>okDs n ds
 |n+1, .lst ds=>okDs n ds
 |_,_=>false
noncomputable def okDs:Nat->List D->Bool
 |_,[]=>true
 |n,d::ds=>okD n d&&okDs n ds
end
mutual
theorem eqD_refl:∀(n:Nat) (d:D),okD n d=true->eqD d d=true
 |_, .non,_=>by simp only[eqD]
 |_, .bl _,_=>by simp only[eqD,beq_self_eq_true]
 |_, .int _,_=>by simp only[eqD,beq_self_eq_true]
 |_, .str _,_=>by simp only[eqD,beq_self_eq_true]
 |n+1, .tup ds,h=>by simp only[okD] at h;simp only[eqD];exact eqDs_refl n ds h
 |n+1, .lst ds,h=>by simp only[okD] at h;simp only[eqD];exact eqDs_refl n ds h
 |0, .tup _,h=>by simp[okD] at h
 |0, .lst _,h=>by simp[okD] at h
 |_, .mt _,h=>by simp[okD] at h
 |_, .fl _,h=>by simp[okD] at h
theorem eqDs_refl:∀(n:Nat) (ds:List D),okDs n ds=true->eqDs ds ds=true
 |_,[],_=>by simp only[eqDs]
 |n,d::ds,h=>by
  simp only[okDs,qi] at h
  simp only[eqDs,eqD_refl n d h.1,eqDs_refl n ds h.2,xh]
end
noncomputable def eqJ(xs ys:List D)(j:Nat):Bool:=match xs[j]?,ys[j]? with
 |some x,some y=>eqD x y
 |_,_=>true
theorem fY:∀(xs ys:List D),((qt (min xs.length ys.length)).all (eqJ xs ys)&&xs.length==ys.length)=eqDs xs ys
 |[],[]=>by simp[eqDs]
 |[],_::_=>by simp[eqDs]
 |_::_,[]=>by simp[eqDs]
 |x::xs,y::ys=>by
  have ih:=fY xs ys
  simp only[eqDs,<- ih,qf]
  rw[show min (xs.length+1) (ys.length+1)=min xs.length ys.length+1 by omega,gj,cm,pj]
  have e1:eqJ (x::xs) (y::ys) 0=eqD x y:=rfl
  have e2:(eqJ (x::xs) (y::ys)) ∘ Nat.succ=eqJ xs ys:=by funext j;rfl
  rw[e1,e2,Bool.and_assoc]
  congr 2
  by_cases h:xs.length=ys.length
  ·rw[h];simp
  ·rw[beq_eq_false_iff_ne.mpr h,beq_eq_false_iff_ne.mpr '!']
section
mutual
theorem den_inj(I:Inv X pins σ H s):∀(n:Nat) (d e:D) (v:V),okD n d=true->okD n e=true->Den X.K H d v->Den X.K H e v->d=e
 |n, .non,e,v,h1,h2,x,y=>by
  rw[x.non_] at y
  cases e with
  |non=>rfl
  |bl b=>have:=y.bl_;cases this
  |int b=>have:=y.int_;cases this
  |str b=>have:=y.str_;cases this
  |mt b=>have:=y.mt_;cases this
  |tup b=>obtain⟨_,_,q,_⟩:=y.tup_;cases q
  |lst b=>obtain⟨_,_,q,_⟩:=y.lst_;cases q
  |fl b=>obtain⟨_,_,q,_⟩:=y.fl_;cases q
  |st b=>obtain⟨_,_,_,q,_⟩:=y.st_;cases q
 |n, .bl b,e,v,h1,h2,x,y=>by
  rw[x.bl_] at y
  cases e with
  |non=>have:=y.non_;cases this
  |bl b=>have:=y.bl_;cases this;rfl
  |int b=>have:=y.int_;cases this
  |str b=>have:=y.str_;cases this
  |mt b=>have:=y.mt_;cases this
  |tup b=>obtain⟨_,_,q,_⟩:=y.tup_;cases q
  |lst b=>obtain⟨_,_,q,_⟩:=y.lst_;cases q
  |fl b=>obtain⟨_,_,q,_⟩:=y.fl_;cases q
  |st b=>obtain⟨_,_,_,q,_⟩:=y.st_;cases q
 |n, .int b,e,v,h1,h2,x,y=>by
  rw[x.int_] at y
  cases e with
  |non=>have:=y.non_;cases this
  |bl b=>have:=y.bl_;cases this
  |int b=>have:=y.int_;cases this;rfl
  |str b=>have:=y.str_;cases this
  |mt b=>have:=y.mt_;cases this
  |tup b=>obtain⟨_,_,q,_⟩:=y.tup_;cases q
  |lst b=>obtain⟨_,_,q,_⟩:=y.lst_;cases q
  |fl b=>obtain⟨_,_,q,_⟩:=y.fl_;cases q
  |st b=>obtain⟨_,_,_,q,_⟩:=y.st_;cases q
 |n, .str b,e,v,h1,h2,x,y=>by
  rw[x.str_] at y
  cases e with
  |non=>have:=y.non_;cases this
  |bl b=>have:=y.bl_;cases this
  |int b=>have:=y.int_;cases this
  |str b=>have:=y.str_;cases this;rfl
  |mt b=>have:=y.mt_;cases this
  |tup b=>obtain⟨_,_,q,_⟩:=y.tup_;cases q
  |lst b=>obtain⟨_,_,q,_⟩:=y.lst_;cases q
  |fl b=>obtain⟨_,_,q,_⟩:=y.fl_;cases q
  |st b=>obtain⟨_,_,_,q,_⟩:=y.st_;cases q
 |n, .mt _,_,_,h1,_,_,_=>by simp[okD] at h1
 |n, .fl _,_,_,h1,_,_,_=>by simp[okD] at h1
 |0, .tup _,_,_,h1,_,_,_=>by simp[okD] at h1
 |0, .lst _,_,_,h1,_,_,_=>by simp[okD] at h1
 |n+1, .tup ds,e,v,h1,h2,x,y=>by
  obtain⟨a,vs,rfl,sq,dn⟩:=x.tup_
  cases e with
  |non=>have:=y.non_;cases this
  |bl b=>have:=y.bl_;cases this
  |int b=>have:=y.int_;cases this
  |str b=>have:=y.str_;cases this
  |mt b=>simp[okD] at h2
  |fl b=>simp[okD] at h2
  |st b=>simp[okD] at h2
  |tup es =>
   obtain⟨b,ws,q,sq2,dn2⟩:=y.tup_
   cases q
   rw[<- I.tuple_inj sq sq2] at dn2
   simp only[okD] at h1 h2
   rw[dens_inj I n ds es vs h1 h2 dn dn2]
  |lst es =>
   obtain⟨b,ws,q,sq2,dn2⟩:=y.lst_
   cases q
   exfalso
   obtain⟨its,_,pt,_⟩:=I.tuple sq
   obtain⟨jts,_,pl,_⟩:=I.list (SqL.of sq2)
   obtain⟨o,e1,c1,_⟩:=pt
   obtain⟨o2,n2,e2,c2,_⟩:=pl
   rw[e1] at e2;cases e2
   rw[c1] at c2;exact absurd c2 '$'
 |n+1, .lst ds,e,v,h1,h2,x,y=>by
  obtain⟨a,vs,rfl,sq,dn⟩:=x.lst_
  cases e with
  |non=>have:=y.non_;cases this
  |bl b=>have:=y.bl_;cases this
  |int b=>have:=y.int_;cases this
  |str b=>have:=y.str_;cases this
  |mt b=>simp[okD] at h2
  |fl b=>simp[okD] at h2
  |st b=>simp[okD] at h2
  |lst es =>
   obtain⟨b,ws,q,sq2,dn2⟩:=y.lst_
   cases q
   rw[sq] at sq2;cases sq2
   simp only[okD] at h1 h2
   rw[dens_inj I n ds es vs h1 h2 dn dn2]
  |tup es =>
   obtain⟨b,ws,q,sq2,dn2⟩:=y.tup_
   cases q
   exfalso
   obtain⟨its,_,pt,_⟩:=I.tuple sq2
   obtain⟨jts,_,pl,_⟩:=I.list (SqL.of sq)
   obtain⟨o,e1,c1,_⟩:=pt
   obtain⟨o2,n2,e2,c2,_⟩:=pl
   rw[e1] at e2;cases e2
   rw[c1] at c2;exact absurd c2 '$'
theorem dens_inj(I:Inv X pins σ H s):∀(n:Nat) (ds es:List D) (vs:List V),okDs n ds=true->okDs n es=true->Dens X.K H ds vs->Dens X.K H es vs->ds=es
 |_,[],es,vs,_,_,x,y=>by
  rw[cJ x] at y
  cases es with
  |nil=>rfl
  |cons e es=>obtain⟨_,_,q,_⟩:=b5 y;cases q
 |n,d::ds,es,vs,h1,h2,x,y=>by
  obtain⟨v,r,rfl,a,b⟩:=b5 x
  cases es with
  |nil=>have:=cJ y;cases this
  |cons e es =>
   obtain⟨_,_,q,a2,b2⟩:=b5 y
   cases q
   simp only[okDs,qi] at h1 h2
   rw[den_inj I n d e v h1.1 h2.1 a a2,dens_inj I n ds es r h1.2 h2.2 b b2]
end
end
end Z
namespace Z
open PySem L2
section
theorem dZ(I:Inv X pins σ H s)(h:Den X.K H (.tup ds) v)(r:RelV v u):∃a its vs,u = .ref a/\s.heap.IsTuple a (QL its)/\Vals vs its/\Dens X.K H ds vs:=by
 obtain⟨a,vs,rfl,sq,dn⟩:=h.tup_
 obtain⟨its,rv,pt,_⟩:=I.tuple sq
 exact⟨a,its,vs,r,pt,rv,dn⟩
theorem dP(I:Inv X pins σ H s)(h:Den X.K H (.lst ds) v)(r:RelV v u):∃a its vs,u = .ref a/\s.heap.IsList a (QL its)/\Vals vs its/\Dens X.K H ds vs:=by
 obtain⟨a,vs,rfl,sq,dn⟩:=h.lst_
 obtain⟨its,rv,pt,_⟩:=I.list (SqL.of sq)
 exact⟨a,its,vs,r,pt.isList,rv,dn⟩
theorem cH:∀{n:Nat}{ds:List D}{j:Nat}{d:D},okDs n ds=true->ds[j]?=some d->okD n d=true
 |_,[],_,_,_,e=>by simp at e
 |n,d0::ds,0,d,h,e=>by simp at e;subst e;simp only[okDs,qi] at h;exact h.1
 |n,d0::ds,j+1,d,h,e=>by simp only[okDs,qi] at h;exact cH (j:=j) h.2 (by simpa using e)
theorem eJ{vs:List V}(dn:Dens X.K H ds vs)(rv:Vals vs its)(h:j<its.toArray.size):∃d v,ds[j]?=some d/\Den X.K H d v/\RelV v its.toArray[j]:=by
 obtain⟨v,e1,r1⟩:=aG7 rv h
 obtain⟨d,e2,q⟩:=dn.get' e1
 exact⟨d,v,e2,q,r1⟩
mutual
theorem eqAt_D(I:Inv X pins σ H s):∀(d:D) (n:Nat) (e:D) (v u:V) (v' u':Value) (A:Around),okD n d=true->okD n e=true->Den X.K H d v->Den X.K H e u->RelV v v'->RelV u u'->A.units+n<cLine->Ju A s v' u' (eqD d e)
 |.non,n,e,v,u,v',u',A,h1,h2,x,y,rx,ry,hu=>by
  rw[x.non_] at rx;cases (show v'=wj from rx)
  cases e with
  |non=>rw[y.non_] at ry;cases (show u'=wj from ry);simp only[eqD];exact ni _
  |bl b=>rw[y.bl_] at ry;cases (show u'=vo b from ry);simp only[eqD];exact Wi b
  |int b=>rw[y.int_] at ry;obtain⟨t,rfl⟩:=ry;simp only[eqD];exact Wh b t
  |str b=>rw[y.str_] at ry;obtain⟨t,rfl⟩:=ry;simp only[eqD];exact We b t
  |mt b=>simp[okD] at h2
  |fl b=>simp[okD] at h2
  |st b=>simp[okD] at h2
  |tup es=>obtain⟨a,its,vs,rfl,it,_⟩:=dZ I y ry;simp only[eqD];exact Wd it '#'
  |lst es=>obtain⟨a,its,vs,rfl,it,_⟩:=dP I y ry;simp only[eqD];exact Wg it '#'
 |.bl c,n,e,v,u,v',u',A,h1,h2,x,y,rx,ry,hu=>by
  rw[x.bl_] at rx;cases (show v'=vo c from rx)
  cases e with
  |non=>rw[y.non_] at ry;cases (show u'=wj from ry);simp only[eqD];exact Ww c
  |bl b=>rw[y.bl_] at ry;cases (show u'=vo b from ry);simp only[eqD];exact Wz c b
  |int b=>rw[y.int_] at ry;obtain⟨t,rfl⟩:=ry;simp only[eqD];exact Wy c b t
  |str b=>rw[y.str_] at ry;obtain⟨t,rfl⟩:=ry;simp only[eqD];exact Wv c b t
  |mt b=>simp[okD] at h2
  |fl b=>simp[okD] at h2
  |st b=>simp[okD] at h2
  |tup es=>obtain⟨a,its,vs,rfl,it,_⟩:=dZ I y ry;simp only[eqD];exact Wu c it '#'
  |lst es=>obtain⟨a,its,vs,rfl,it,_⟩:=dP I y ry;simp only[eqD];exact Wx c it '#'
 |.int c,n,e,v,u,v',u',A,h1,h2,x,y,rx,ry,hu=>by
  rw[x.int_] at rx;obtain⟨t0,rfl⟩:=rx
  cases e with
  |non=>rw[y.non_] at ry;cases (show u'=wj from ry);simp only[eqD];exact Wp c t0
  |bl b=>rw[y.bl_] at ry;cases (show u'=vo b from ry);simp only[eqD];exact Wt c t0 b
  |int b=>rw[y.int_] at ry;obtain⟨t,rfl⟩:=ry;simp only[eqD];exact Wr c t0 b t
  |str b=>rw[y.str_] at ry;obtain⟨t,rfl⟩:=ry;simp only[eqD];exact Qt c t0 b t
  |mt b=>simp[okD] at h2
  |fl b=>simp[okD] at h2
  |st b=>simp[okD] at h2
  |tup es=>obtain⟨a,its,vs,rfl,it,_⟩:=dZ I y ry;simp only[eqD];exact Wo c t0 it '#'
  |lst es=>obtain⟨a,its,vs,rfl,it,_⟩:=dP I y ry;simp only[eqD];exact Wq c t0 it '#'
 |.str c,n,e,v,u,v',u',A,h1,h2,x,y,rx,ry,hu=>by
  rw[x.str_] at rx;obtain⟨t0,rfl⟩:=rx
  cases e with
  |non=>rw[y.non_] at ry;cases (show u'=wj from ry);simp only[eqD];exact V9 c t0
  |bl b=>rw[y.bl_] at ry;cases (show u'=vo b from ry);simp only[eqD];exact Wc c t0 b
  |int b=>rw[y.int_] at ry;obtain⟨t,rfl⟩:=ry;simp only[eqD];exact Qr c t0 b t
  |str b=>rw[y.str_] at ry;obtain⟨t,rfl⟩:=ry;simp only[eqD];exact gy c t0 b t
  |mt b=>simp[okD] at h2
  |fl b=>simp[okD] at h2
  |st b=>simp[okD] at h2
  |tup es=>obtain⟨a,its,vs,rfl,it,_⟩:=dZ I y ry;simp only[eqD];exact V8 c t0 it '#'
  |lst es=>obtain⟨a,its,vs,rfl,it,_⟩:=dP I y ry;simp only[eqD];exact Wa c t0 it '#'
 |.mt _,n,_,_,_,_,_,_,h1,_,_,_,_,_,_=>by simp[okD] at h1
 |.fl _,n,_,_,_,_,_,_,h1,_,_,_,_,_,_=>by simp[okD] at h1
 |.st _,n,_,_,_,_,_,_,h1,_,_,_,_,_,_=>by simp[okD] at h1
 |.tup ds,0,_,_,_,_,_,_,h1,_,_,_,_,_,_=>by simp[okD] at h1
 |.lst ds,0,_,_,_,_,_,_,h1,_,_,_,_,_,_=>by simp[okD] at h1
 |.tup ds,n+1,e,v,u,v',u',A,h1,h2,x,y,rx,ry,hu=>by
  obtain⟨a,its,vs,rfl,it,rv,dn⟩:=dZ I x rx
  cases e with
  |non=>rw[y.non_] at ry;cases (show u'=wj from ry);simp only[eqD];exact V4 it '#'
  |bl b=>rw[y.bl_] at ry;cases (show u'=vo b from ry);simp only[eqD];exact V7 b it '#'
  |int b=>rw[y.int_] at ry;obtain⟨t,rfl⟩:=ry;simp only[eqD];exact V6 b t it '#'
  |str b=>rw[y.str_] at ry;obtain⟨t,rfl⟩:=ry;simp only[eqD];exact V3 b t it '#'
  |mt b=>simp[okD] at h2
  |fl b=>simp[okD] at h2
  |st b=>simp[okD] at h2
  |lst es=>obtain⟨b,its2,vs2,rfl,it2,_⟩:=dP I y ry;simp only[eqD];exact V5 it it2 '#'
  |tup es =>
   obtain⟨b,its2,vs2,rfl,it2,rv2,dn2⟩:=dZ I y ry
   have k1:okDs n ds=true:=by simpa only[okD] using h1
   have k2:okDs n es=true:=by simpa only[okD] using h2
   by_cases hab:a=b
   ·subst hab
    have e0:D.tup ds=D.tup es:=den_inj I (n+1) _ _ v h1 h2 x (by
     have:v=u:=by
      obtain⟨_,_,e3,_⟩:=x.tup_
      obtain⟨_,_,e4,_⟩:=y.tup_
      rw[e3] at rx;rw[e4] at ry
      cases rx;cases ry;rw[e3,e4]
     rw[this];exact y)
    rw[<- e0,eqD_refl (n+1) _ h1]
    exact ni _
   ·have:=QA (A:=A) (s:=s) (e:=eqJ ds es) it it2 '#' (λj g1 g2=>by
     obtain⟨c,v1,e1,q1,r1⟩:=eJ dn rv g1
     obtain⟨c2,v2,e2,q2,r2⟩:=eJ dn2 rv2 g2
     have:=eqAts_D I ds n j c e1 c2 v1 v2 _ _ A.in1 (cH k1 e1) (cH k2 e2) q1 q2 r1 r2 (by show A.units+1+n<cLine;lia)
     unfold eqJ;rw[e1,e2];exact this)
    rw[qc,qc,<- rv.length,<- rv2.length,<- dn.len,<- dn2.len,fY] at this
    simp only[eqD]
    exact Qs hab this
 |.lst ds,n+1,e,v,u,v',u',A,h1,h2,x,y,rx,ry,hu=>by
  obtain⟨a,its,vs,rfl,it,rv,dn⟩:=dP I x rx
  cases e with
  |non=>rw[y.non_] at ry;cases (show u'=wj from ry);simp only[eqD];exact Wl it '#'
  |bl b=>rw[y.bl_] at ry;cases (show u'=vo b from ry);simp only[eqD];exact Wn b it '#'
  |int b=>rw[y.int_] at ry;obtain⟨t,rfl⟩:=ry;simp only[eqD];exact Wm b t it '#'
  |str b=>rw[y.str_] at ry;obtain⟨t,rfl⟩:=ry;simp only[eqD];exact Wk b t it '#'
  |mt b=>simp[okD] at h2
  |fl b=>simp[okD] at h2
  |st b=>simp[okD] at h2
  |tup es=>obtain⟨b,its2,vs2,rfl,it2,_⟩:=dZ I y ry;simp only[eqD];exact Wj it it2 '#'
  |lst es =>
   obtain⟨b,its2,vs2,rfl,it2,rv2,dn2⟩:=dP I y ry
   have k1:okDs n ds=true:=by simpa only[okD] using h1
   have k2:okDs n es=true:=by simpa only[okD] using h2
   by_cases hab:a=b
   ·subst hab
    have e0:D.lst ds=D.lst es:=den_inj I (n+1) _ _ v h1 h2 x (by
     have:v=u:=by
      obtain⟨_,_,e3,_⟩:=x.lst_
      obtain⟨_,_,e4,_⟩:=y.lst_
      rw[e3] at rx;rw[e4] at ry
      cases rx;cases ry;rw[e3,e4]
     rw[this];exact y)
    rw[<- e0,eqD_refl (n+1) _ h1]
    exact ni _
   ·simp only[eqD]
    refine Qs hab ?_
    by_cases hl:ds.length=es.length
    ·have hsz:its.toArray.size=its2.toArray.size:=by rw[qc,qc,<- rv.length,<- rv2.length,<- dn.len,<- dn2.len,hl]
     have:=QE (A:=A) (s:=s) (e:=eqJ ds es) it it2 hsz '#' (λj g1 g2=>by
      obtain⟨c,v1,e1,q1,r1⟩:=eJ dn rv g1
      obtain⟨c2,v2,e2,q2,r2⟩:=eJ dn2 rv2 g2
      have:=eqAts_D I ds n j c e1 c2 v1 v2 _ _ A.in1 (cH k1 e1) (cH k2 e2) q1 q2 r1 r2 (by show A.units+1+n<cLine;lia)
      unfold eqJ;rw[e1,e2];exact this)
     have e3:=fY ds es
     rw[<- hl,QY,beq_self_eq_true,xh] at e3
     rw[qc,<- rv.length,<- dn.len,e3] at this
     exact this
    ·have hsz:(its.toArray.size != its2.toArray.size)=true:=by rw[bne_iff_ne,qc,qc,<- rv.length,<- rv2.length,<- dn.len,<- dn2.len];exact hl
     have e3:=fY ds es
     rw[beq_eq_false_iff_ne.mpr hl,dm] at e3
     rw[<- e3]
     exact pz it it2 hsz '#'
theorem eqAts_D(I:Inv X pins σ H s):∀(ds:List D) (n j:Nat) (d:D),ds[j]?=some d->∀(e:D) (v u:V) (v' u':Value) (A:Around),okD n d=true->okD n e=true->Den X.K H d v->Den X.K H e u->RelV v v'->RelV u u'->A.units+n<cLine->Ju A s v' u' (eqD d e)
 |[],_,_,_,q=>by simp at q
 |d0::ds,n,0,d,q=>by
  simp at q;subst q
  exact λe v u v' u' A=>eqAt_D I d0 n e v u v' u' A
 |d0::ds,n,j+1,d,q=>eqAts_D I ds n j d (by simpa using q)
end
inductive Disp:D->Prop
 |tup (ds:List D):Disp (.tup ds)
 |lst (ds:List D):Disp (.lst ds)
inductive Rs(M:Mem):D->D->Prop
 |tup (ds:List D):Rs M (.tup ds) (.tup ds)
 |lst (ds:List D):Rs M (.lst ds) (.lst ds)
 |mt {a:Addr}{ds:List D} (h:M a=some (.lst ds)):Rs M (.mt a) (.lst ds)
theorem Rs.disp{e:D}(h:Rs M d e):Disp e:=by cases h <;> constructor
theorem Rs.den{K:Fg}{H:Hp}{e:D}(h:Rs M d e)(rl:Rel K G H M)(q:Den K G d v):Den K H e v:=by
 cases h with
 |tup ds=>exact q.up rl.same
 |lst ds=>exact q.up rl.same
 |mt hm =>
  obtain⟨_,vs,e1,dn⟩:=rl.mem _ _ hm
  rw[q.mt_];exact fK e1 (dn.up rl.same)
noncomputable def aBU(K:Fg)(n:Nat)(neg:Bool):R2:=λx y H Q=>∃d e,Disp d/\Disp e/\okD n d=true/\okD n e=true/\Den K H d x/\Den K H e y/\Q (.bl (if neg then !eqD d e else eqD d e)) H
theorem rc_D(I:Inv X pins σ H s){e:D}{u:V}{v' u':Value}(A:Around)(g1:Disp d)(g2:Disp e)(h1:okD n d=true)(h2:okD n e=true)(x:Den X.K H d v)(y:Den X.K H e u)(rx:RelV v v')(ry:RelV u u')(hu:A.units+n<cLine):SeqAt.RcAt A s v' u' (eqD d e):=by
 cases g1 with
 |tup ds =>
  obtain⟨a,its,vs,rfl,it,rv,dn⟩:=dZ I x rx
  cases g2 with
  |lst es=>obtain⟨b,its2,vs2,rfl,it2,_⟩:=dP I y ry;simp only[eqD];exact V1 it it2 '#'
  |tup es =>
   obtain⟨b,its2,vs2,rfl,it2,rv2,dn2⟩:=dZ I y ry
   cases n with
   |zero=>simp[okD] at h1
   |succ n =>
    have k1:okDs n ds=true:=by simpa only[okD] using h1
    have k2:okDs n es=true:=by simpa only[okD] using h2
    have:=QA (A:=A) (s:=s) (e:=eqJ ds es) it it2 '#' (λj g1 g2=>by
     obtain⟨c,v1,e1,q1,r1⟩:=eJ dn rv g1
     obtain⟨c2,v2,e2,q2,r2⟩:=eJ dn2 rv2 g2
     have:=eqAt_D I c n c2 v1 v2 _ _ A.in1 (cH k1 e1) (cH k2 e2) q1 q2 r1 r2 (by show A.units+1+n<cLine;lia)
     unfold eqJ;rw[e1,e2];exact this)
    rw[qc,qc,<- rv.length,<- rv2.length,<- dn.len,<- dn2.len,fY] at this
    simp only[eqD];exact this
 |lst ds =>
  obtain⟨a,its,vs,rfl,it,rv,dn⟩:=dP I x rx
  cases g2 with
  |tup es=>obtain⟨b,its2,vs2,rfl,it2,_⟩:=dZ I y ry;simp only[eqD];exact V2 it it2 '#'
  |lst es =>
   obtain⟨b,its2,vs2,rfl,it2,rv2,dn2⟩:=dP I y ry
   cases n with
   |zero=>simp[okD] at h1
   |succ n =>
    have k1:okDs n ds=true:=by simpa only[okD] using h1
    have k2:okDs n es=true:=by simpa only[okD] using h2
    simp only[eqD]
    by_cases hl:ds.length=es.length
    ·have hsz:its.toArray.size=its2.toArray.size:=by rw[qc,qc,<- rv.length,<- rv2.length,<- dn.len,<- dn2.len,hl]
     have:=QE (A:=A) (s:=s) (e:=eqJ ds es) it it2 hsz '#' (λj g1 g2=>by
      obtain⟨c,v1,e1,q1,r1⟩:=eJ dn rv g1
      obtain⟨c2,v2,e2,q2,r2⟩:=eJ dn2 rv2 g2
      have:=eqAt_D I c n c2 v1 v2 _ _ A.in1 (cH k1 e1) (cH k2 e2) q1 q2 r1 r2 (by show A.units+1+n<cLine;lia)
      unfold eqJ;rw[e1,e2];exact this)
     have e3:=fY ds es
     rw[<- hl,QY,beq_self_eq_true,xh] at e3
     rw[qc,<- rv.length,<- dn.len,e3] at this
     exact this
    ·have hsz:(its.toArray.size != its2.toArray.size)=true:=by rw[bne_iff_ne,qc,qc,<- rv.length,<- rv2.length,<- dn.len,<- dn2.len];exact hl
     have e3:=fY ds es
     rw[beq_eq_false_iff_ne.mpr hl,dm] at e3
     rw[<- e3]
     exact pz it it2 hsz '#'
end
section
theorem oM(hu:X.A.units+n<cLine):OpR X (xf .Eq) (aBU X.K n false):=by
 intro pins s σ H x y v u Q I rx ry h
 obtain⟨d,e,g1,g2,h1,h2,dx,dy,q⟩:=h
 exact rc_D I X.A g1 g2 h1 h2 dx dy rx ry hu X.prog X.w X.xe _ ⟨.bl (eqD d e),H,I,rfl,q⟩
theorem oV{K:Fg}{d1 d2 e1 e2:D}(r1:Rs M d1 e1)(r2:Rs M d2 e2)(h1:okD n e1=true)(h2:okD n e2=true)(h:k (.bl (eqD e1 e2)) M):Op2 K (aBU K n false) d1 d2 M k:=λG H v1 v2 Q rl x y q =>
 ⟨e1,e2,r1.disp,r2.disp,h1,h2,r1.den rl x,r2.den rl y,q _ _ _ _ _ (Stp.refl rl) cQ h⟩
end
end Z
namespace Z
open PySem L2
mutual
noncomputable def toPy:D->PyData
 |.non => .none
 |.bl b => .bool b
 |.int i => .int i
 |.str x => .str x
 |.tup ds => .tuple (toPys ds)
 |.lst ds => .list (toPys ds)
 |.mt _ => .none
 |.fl _ => .none
 |.st _ => .none
noncomputable def toPys:List D->List PyData
 |[]=>[]
 |d::ds=>toPy d::toPys ds
end
mutual
theorem depth_le:∀(d:D) (n:Nat),okD n d=true->(toPy d).depth<=n
 |.non,_,_=>by simp[toPy,cy]
 |.bl _,_,_=>by simp[toPy,cy]
 |.int _,_,_=>by simp[toPy,cy]
 |.str _,_,_=>by simp[toPy,cy]
 |.mt _,n,h=>by simp[okD] at h
 |.fl _,n,h=>by simp[okD] at h
 |.st _,n,h=>by simp[okD] at h
 |.tup ds,0,h=>by simp[okD] at h
 |.lst ds,0,h=>by simp[okD] at h
 |.tup ds,n+1,h=>by
  simp only[toPy,cy]
  have:=depths_le ds n (by simpa only[okD] using h)
  omega
 |.lst ds,n+1,h=>by
  simp only[toPy,cy]
  have:=depths_le ds n (by simpa only[okD] using h)
  omega
theorem depths_le:∀(ds:List D) (n:Nat),okDs n ds=true->rg (toPys ds)<=n
 |[],_,_=>by simp[toPys,rg]
 |d::ds,n,h=>by
  simp only[okDs,qi] at h
  simp only[toPys,rg]
  have h1:=depth_le d n h.1
  have h2:=depths_le ds n h.2
  omega
end
mutual
theorem noDict:∀(d:D),(toPy d).hasDict=false
 |.non=>by simp only[toPy,xp]
 |.bl _=>by simp only[toPy,xp]
 |.int _=>by simp only[toPy,xp]
 |.str _=>by simp only[toPy,xp]
 |.mt _=>by simp only[toPy,xp]
 |.fl _=>by simp only[toPy,xp]
 |.st _=>by simp only[toPy,xp]
 |.tup ds=>by simp only[toPy,xp];exact noDicts ds
 |.lst ds=>by simp only[toPy,xp];exact noDicts ds
theorem noDicts:∀(ds:List D),nj (toPys ds)=false
 |[]=>by simp only[toPys,nj]
 |d::ds=>by simp only[toPys,nj,noDict d,noDicts ds,Kr]
end
section
mutual
theorem reads_D(I:Inv X pins σ H s):∀(d:D) (n:Nat) (v:V) (u:Value),okD n d=true->Den X.K H d v->RelV v u->∃as,Reads s.heap u (toPy d) as
 |.non,_,v,u,_,x,r=>by rw[x.non_] at r;cases (show u=wj from r);exact⟨_,by simp only[toPy];exact .none⟩
 |.bl b,_,v,u,_,x,r=>by rw[x.bl_] at r;cases (show u=vo b from r);exact⟨_,by simp only[toPy];exact .bool b⟩
 |.int b,_,v,u,_,x,r=>by rw[x.int_] at r;obtain⟨t,rfl⟩:=r;exact⟨_,by simp only[toPy];exact .int b t⟩
 |.str b,_,v,u,_,x,r=>by rw[x.str_] at r;obtain⟨t,rfl⟩:=r;exact⟨_,by simp only[toPy];exact .str b t⟩
 |.mt _,n,_,_,h,_,_=>by simp[okD] at h
 |.fl _,n,_,_,h,_,_=>by simp[okD] at h
 |.st _,n,_,_,h,_,_=>by simp[okD] at h
 |.tup ds,0,_,_,h,_,_=>by simp[okD] at h
 |.lst ds,0,_,_,h,_,_=>by simp[okD] at h
 |.tup ds,n+1,v,u,h,x,r=>by
  obtain⟨a,its,vs,rfl,⟨o,e1,e2,m,e3⟩,rv,dn⟩:=dZ I x r
  obtain⟨as,q⟩:=readss_D I ds n vs its (by simpa only[okD] using h) dn rv
  exact⟨as,by simp only[toPy];exact .tuple e1 e2 e3 (by simpa using q)⟩
 |.lst ds,n+1,v,u,h,x,r=>by
  obtain⟨a,its,vs,rfl,⟨o,e1,e2,m,e3⟩,rv,dn⟩:=dP I x r
  obtain⟨as,q⟩:=readss_D I ds n vs its (by simpa only[okD] using h) dn rv
  exact⟨a::as,by simp only[toPy];exact .list e1 e2 e3 (by simpa using q)⟩
theorem readss_D(I:Inv X pins σ H s):∀(ds:List D) (n:Nat) (vs:List V) (us:List Value),okDs n ds=true->Dens X.K H ds vs->Vals vs us->∃as,ReadsAll s.heap us (toPys ds) as
 |[],_,vs,us,_,x,r=>by
  rw[cJ x] at r
  cases r
  exact⟨[],by simp only[toPys];exact .nil⟩
 |d::ds,n,vs,us,h,x,r=>by
  obtain⟨v,t,rfl,a,b⟩:=b5 x
  cases r with
  |cons r1 r2 =>
   simp only[okDs,qi] at h
   obtain⟨as,q⟩:=reads_D I d n v _ h.1 a r1
   obtain⟨bs,q2⟩:=readss_D I ds n t _ h.2 b r2
   exact⟨as++bs,by simp only[toPys];exact .cons q q2⟩
end
end
section
theorem aHZ{x y:Value}(h:(x==y)=true):x=y:=eq_of_beq h
noncomputable def eOf(ds:List D)(its:List Value)(c:D)(y:Value):Bool:=match (its.zip ds).find? (λp=>p.1==y) with
 |some p=>eqD p.2 c
 |none=>false
theorem xQ(I:Inv X pins σ H s){vs:List V}(ok:okDs n ds=true)(dn:Dens X.K H ds vs)(rv:Vals vs its){c:D}{y:Value}(hy:its[j]?=some y)(hd:ds[j]?=some d):eOf ds its c y=eqD d c:=by
 unfold eOf
 have hl:its.length=ds.length:=by rw[dn.len,rv.length]
 have hz:(its.zip ds)[j]?=some (y,d):=by rw[Qo];exact⟨hy,hd⟩
 cases hf:(its.zip ds).find? (λp=>p.1==y) with
 |none =>
  have:=List.find?_eq_none.mp hf (y,d) (zMo hz)
  exact absurd '$' this
 |some p =>
  have h1:=List.find?_some hf
  have h2:=List.mem_of_find?_eq_some hf
  obtain⟨i,hi⟩:=y9 h2
  obtain⟨a1,a2⟩:=Qo.mp (show (its.zip ds)[i]?=some (p.1,p.2) from hi)
  have ey:p.1=y:=aHZ h1
  rw[ey] at a1
  obtain⟨v1,w1,q1⟩:=dn.get a2
  obtain⟨v2,w2,q2⟩:=dn.get hd
  obtain⟨u1,x1,r1⟩:=rv.get w1
  obtain⟨u2,x2,r2⟩:=rv.get w2
  rw[a1] at x1;cases x1
  rw[hy] at x2;cases x2
  have:v1=v2:=r1.inj r2
  subst this
  show eqD p.2 c=eqD d c
  rw[den_inj I n p.2 d v1 (cH ok a2) (cH ok hd) q1 q2]
end
end Z
namespace R
open PySem L2
theorem dJ{z:Str}(h:j<z.length):z.cps.toList[j]?=some (atS z j):=by
 have h':j<z.cps.size:=h
 simp[atS,K8,h']
theorem kR{l:List Nat}:atS (ofL l) j=l.getD j 0:=by
 unfold atS ofL
 rw[Array.getD_eq_getD_getElem?,List.getElem?_toArray,zGd]
noncomputable def Good(n:Nat)(zs:List Str):Prop:=∀z∈zs,z.length=n/\z.cps.toList.all sgn=true
theorem pT(h:Good n zs){z:Str}(hz:z∈zs)(hj:j<n):atS z j=35\/atS z j=46:=by
 obtain⟨h1,h2⟩:=h z hz
 have e:=dJ (z:=z) (j:=j) '#'
 have:=jf.mp h2 _ (zMo e)
 unfold sgn at this
 rw[zv,beq_iff_eq,beq_iff_eq] at this
 exact this
theorem qP(n:Nat):(dots n).length=n:=by unfold dots;rw[mS,br]
theorem aG4{z:Str}(hl:z.length=n)(h:∀j,j<n->atS z j=46):z=dots n:=by
 apply f8
 show z.cps.toList=jy n 46
 apply vj
 intro j
 by_cases hj:j<n
 ·rw[dJ '#',h j hj,zw,if_pos hj]
 ·rw[qv (by rw[qa];have:z.cps.size=n:=hl;lia),qv (by simp;lia)]
theorem kI:atS (dots n) j=if j<n then 46 else 0:=by
 unfold dots
 rw[kR,zGd,zw]
 split <;> rfl
theorem j4{α:Type}(f:Nat->α):∀p,f p≠f 0->∃k,k<p/\f k≠f (k+1)
 |0,h=>absurd rfl h
 |p+1,h=>by
  by_cases e:f p=f 0
  ·exact⟨p,by lia,by rw[e];exact yj h⟩
  ·obtain⟨k,h1,h2⟩:=j4 f p e
   exact⟨k,by lia,h2⟩
theorem i0{α:Type}(f:Nat->α):∀m p,f p≠f (p+m)->∃k,p<=k/\k<p+m/\f k≠f (k+1)
 |0,p,h=>absurd rfl h
 |m+1,p,h=>by
  by_cases e:f p=f (p+m)
  ·exact⟨p+m,by lia,by lia,by rw[<- e];exact h⟩
  ·obtain⟨k,h1,h2,h3⟩:=i0 f m p e
   exact⟨k,h1,by lia,h3⟩
theorem bG(h:i<zs.length):(framed zs)[i+1]?=zs[i]?:=by
 unfold framed
 rw[y4,QO,zx,vt h]
theorem eB(zs:List Str):(framed zs)[0]?=some (dots ((zs.head?.map (·.length)).getD 0)):=by simp[framed]
theorem cS(zs:List Str):(framed zs)[zs.length+1]?=some (dots ((zs.head?.map (·.length)).getD 0)):=by
 unfold framed
 rw[y4,QO,zx,wg (qj _)]
 simp
theorem dX(hz:zs≠[]):i∈chg zs↔i<=zs.length/\(framed zs)[i]?≠(framed zs)[i+1]?:=by
 unfold chg
 have:zs.isEmpty=false:=by cases zs with
  |nil=>exact absurd rfl hz
  |cons _ _=>rfl
 rw[this]
 simp only[JG,if_false,gw,kh,JM,decide_eq_false_iff_not]
 exact⟨λ⟨a,b⟩=>⟨by lia,b⟩,λ⟨a,b⟩=>⟨by lia,b⟩⟩
theorem bP(h:∀z∈zs,z.length=n)(hz:zs≠[]):(zs.head?.map (·.length)).getD 0=n:=by
 cases zs with
 |nil=>exact absurd rfl hz
 |cons z zr=>exact h z '$'
theorem aG8(h:∀z∈zs,z.length=n){z:Str}(hi:zs[i]?=some z)(hz:z≠dots n):2<=(chg zs).length:=by
 have hlt:i<zs.length:=(zGs hi).1
 have hne:zs≠[]:=λe=>by rw[e] at hlt;simp at hlt
 have hw:=bP h hne
 have f0:(framed zs)[0]?=some (dots n):=by rw[eB,hw]
 have fl:(framed zs)[zs.length+1]?=some (dots n):=by rw[cS,hw]
 have fp:(framed zs)[i+1]?=some z:=by rw[bG hlt,hi]
 obtain⟨k1,a1,b1⟩:=j4 (λk=>(framed zs)[k]?) (i+1) (by show (framed zs)[i+1]?≠(framed zs)[0]?;rw[fp,f0];exact λe=>hz (qw e))
 obtain⟨k2,a2,a3,b2⟩:=i0 (λk=>(framed zs)[k]?) (zs.length-i) (i+1) (by
  show (framed zs)[i+1]?≠(framed zs)[i+1+(zs.length-i)]?
  rw[show i+1+(zs.length-i)=zs.length+1 by lia,fp,fl];exact λe=>hz (qw e))
 have m1:k1∈chg zs:=(dX hne).mpr ⟨by lia,b1⟩
 have m2:k2∈chg zs:=(dX hne).mpr ⟨by lia,b2⟩
 match hc:chg zs,m1,m2 with
 |[],m1,_=>cases m1
 |[x],m1,m2 =>
  simp at m1 m2
  lia
 |_::_::_,_,_=>simp
noncomputable def aM(zs:List Str):List Str:=(chg zs).dropLast.map λi=>zs.getD i ja
theorem jQ:∀z∈aM zs,z∈zs:=λz hz=>by
 obtain⟨i,hi,rfl⟩:=qu.mp hz
 have:=jF (cC zs) (eO zs) i hi
 rw[zGd,zGe this]
 exact vh _
theorem i9(h:Good n zs):Good n (aM zs):=λz hz=>h z (jQ z hz)
theorem eY(zs:List Str):(aM zs).length=(chg zs).length-1:=by unfold aM;rw[zLm,jv]
theorem qB(h:∀z∈zs,z.length=n)(hr:aM zs≠[]):∃z∈aM zs,z≠dots n:=by
 have h2:2<=(chg zs).length:=by
  have:=ju.mpr hr
  rw[eY] at this
  lia
 have hne:zs≠[]:=λe=>by rw[e] at h2;simp[chg] at h2
 match hc:chg zs,h2 with
 |k0::k1::r,_ =>
  have m0:k0∈chg zs:=by rw[hc];simp
  have s:=cC zs
  rw[hc] at s
  have hk1:k1<=zs.length:=eO zs k1 (by rw[hc];simp)
  have hk:k0<k1:=(ke.mp s).1 k1 '$'
  have hk0:k0<zs.length:=by lia
  obtain⟨_,b0⟩:=(dX hne).mp m0
  have same:∀j,j<=k0->(framed zs)[j]?=(framed zs)[0]?:=λj hj=>jt λq=>by
   obtain⟨k,a1,b1⟩:=j4 (λk=>(framed zs)[k]?) j q
   have:k∈chg zs:=(dX hne).mpr ⟨by lia,b1⟩
   rw[hc] at this
   rcases qr.mp this with rfl|this
   ·lia
   ·have:=(ke.mp s).1 k this
    lia
  refine⟨zs.getD k0 ja,?_,λq=>b0 ?_⟩
  ·unfold aM
   rw[hc]
   simp
  ·rw[same k0 (qj _),eB,bP h hne,bG hk0,<- q,zGd,zGe hk0]
   rfl
theorem f9(h:∀z∈zs,z.length=n)(hz:zs≠[])(hj:j<n):(aE zs)[j]?=some (ofL (zs.map (atS · j))):=by
 unfold aE
 rw[bP h hz,qk,yg hj]
 rfl
theorem iQ(h:Good n zs):Good zs.length (aE zs):=λz hz=>by
 refine⟨eP z hz,?_⟩
 obtain⟨j,hj,rfl⟩:=qu.mp hz
 rw[kh] at hj
 show (zs.map (atS · j)).all sgn=true
 rw[jf]
 intro c hc
 obtain⟨z,hz,rfl⟩:=qu.mp hc
 have hne:zs≠[]:=λe=>by rw[e] at hz;cases hz
 rw[bP (λz hz=>(h z hz).1) hne] at hj
 rcases pT h hz hj with e|e <;> rw[e] <;> rfl
structure Wf(nx ny:Nat)(zs:List Str):Prop where
 rows:zs.length+1=ny\/(nx=0/\ny=0/\zs=[])
 good:Good (nx-1) zs
 wide:0<nx\/(nx=0/\ny=0/\zs=[])
theorem qF(h:Good n zs){z:Str}(hz:z∈zs)(hd:z≠dots n):∃j,j<n/\atS z j=35:=by
 refine jt λq=>hd (aG4 (h z hz).1 λj hj => ?_)
 rcases pT h hz hj with e|e
 ·exact absurd ⟨j,hj,e⟩ q
 ·exact e
theorem aHP(h:Good n zs)(hr:aM zs≠[]):
  2<=(chg (aE (aM zs))).length/\Wf (chg (aE (aM zs))).length (chg zs).length (aE (aM (aE (aM zs))))/\(aE (aM (aE (aM zs)))).length=(aM zs).length:=by
 have g1:=i9 h
 obtain⟨z,hz,hd⟩:=qB (λz hz=>(h z hz).1) hr
 obtain⟨j,hj,e35⟩:=qF g1 hz hd
 have gc:=iQ g1
 have hc:=f9 (λz hz=>(g1 z hz).1) hr hj
 have hnd:ofL ((aM zs).map (atS · j))≠dots (aM zs).length:=λq=>by
  obtain⟨i,hi,ez⟩:=kj hz
  have e1:atS (ofL ((aM zs).map (atS · j))) i=35:=by
   rw[kR,zGd,qk,zGe hi,ez]
   exact e35
  rw[q,kI,if_pos hi] at e1
  cases e1
 have c2:=aG8 (λz hz=>(gc z hz).1) hc hnd
 have hk:aM (aE (aM zs))≠[]:=λq=>by
  have:=eY (aE (aM zs))
  rw[q] at this
  simp at this
  lia
 have g2:=i9 gc
 have l2:=(qN (λz hz=>(g2 z hz).1)).2 hk
 have zl:=eY zs
 have pos:=ju.mpr hr
 refine⟨c2,⟨.inl (by rw[l2];lia),?_, .inl '#'⟩,l2⟩
 have g3:=iQ g2
 rw[eY] at g3
 exact g3
noncomputable def bD(zs:List Str)(a u:Int):Bool:=decide (0<=u)&&decide (0<=a)&&((zs[u.toNat]?).bind λz=>z.cps.toList[a.toNat]?)==some 35
theorem gU{a u:Int}(h:u<0):bD zs a u=false:=by
 unfold bD;rw[decide_eq_false '#'];rfl
theorem eZ{a u:Int}(h:a<0):bD zs a u=false:=by
 unfold bD;rw[decide_eq_false (show ¬(0:Int)<=a by lia),dm];rfl
theorem hX{a u:Int}(h:(zs.length:Int)<=u):bD zs a u=false:=by
 unfold bD
 rw[qv '#']
 simp
theorem mH{a u:Int}{z:Str}(e:zs[u.toNat]?=some z)(h:(z.length:Int)<=a):bD zs a u=false:=by
 unfold bD
 rw[e]
 have:z.cps.toList[a.toNat]?=none:=qv (by rw[qa];have:z.cps.size=z.length:=rfl;lia)
 rw[JB,this]
 cases decide (0<=u) <;> cases decide (0<=a) <;> rfl
theorem iH{a u:Int}{z:Str}{c:Nat}(hu:0<=u)(ha:0<=a)(e:zs[u.toNat]?=some z)(ec:z.cps.toList[a.toNat]?=some c):bD zs a u=decide (c=35):=by
 unfold bD
 rw[decide_eq_true hu,decide_eq_true ha,e]
 simp only[JB,ec,xh,nh]
 by_cases h:c=35
 ·subst h;rfl
 ·rw[decide_eq_false h];simp[h]
noncomputable def sg(b:Bool):Nat:=if b then 35 else 46
end R
namespace Q
open PySem L2 Z
theorem BMin:va "min" = some (.builtin "min"):=by decide +kernel
structure Bt(mg:Str->Option Value):Prop where
 len:mg "len" = none
 abs:mg "abs" = none
 int:mg "int" = none
 min:mg "min" = none
 max:mg "max" = none
 range:mg "range" = none
 list:mg "list" = none
 tuple:mg "tuple" = none
 repr:mg "repr" = none
 all:mg "all" = none
 any:mg "any" = none
 enumerate:mg "enumerate" = none
 isi:mg "isinstance" = none
 bool:mg "bool" = none
 str:mg "str" = none
 zip:mg "zip" = none
 reversed:mg "reversed" = none
 sorted:mg "sorted" = none
 dict:mg "dict" = none
noncomputable def FdM(M:Mem)(p:Addr)(b:Int):Prop:=∃g m st:Int,M p=some (.lst [.int g, .int m, .int st])/\0<=g/\0<=m/\m<2147483399/\0<=st/\st<=b
noncomputable def cG(p:Addr)(M M':Mem):Prop:=∀a o,a≠p->M a=some o->M' a=some o
theorem cG.refl(p:Addr)(M:Mem):cG p M M:=λ_ _ _ h=>h
theorem cG.trans{p:Addr}{M2:Mem}(a:cG p M M1)(b:cG p M1 M2):cG p M M2:=λc o n h=>b c o n (a c o n h)
theorem cG.upd{p:Addr}{M':Mem}{o:MO}(h:cG p M M'):cG p M (d7 M' p o):=λa u n e=>by rw[dL n];exact h a u n e
theorem cG.new{p:Addr}{M':Mem}{o:MO}(h:cG p M M')(n:M a=none):cG p M (d7 M' a o):=λb u nb e=>by
 rw[dL (λz=>by rw[z,n] at e;cases e)];exact h b u nb e
theorem FdM.mono{p:Addr}{b c:Int}(h:FdM M p b)(l:b<=c):FdM M p c:=by
 obtain⟨g,m,st,e,h1,h2,h3,h4,h5⟩:=h
 exact⟨g,m,st,e,h1,h2,h3,h4,by lia⟩
theorem FdM.ne{p:Addr}{b:Int}(h:FdM M p b)(n:M a=none):a≠p:=λz=>by
 obtain⟨g,m,st,e,_⟩:=h
 rw[<- z,n] at e;cases e
theorem FdM.new{p:Addr}{b:Int}{o:MO}(h:FdM M p b)(n:a≠p):FdM (d7 M a o) p b:=by
 obtain⟨g,m,st,e,r⟩:=h
 exact⟨g,m,st,by rw[dL (yj n)];exact e,r⟩
noncomputable def aLP:Ct:=λds M k=>∃(ns:List Int) (i:Int),ds=[.fl (ns.map .int), .int i]/\0<=i/\i<2^40/\∀p M',M p=none->Le M M'->FdM M' p 0->k (.mt p) M'
noncomputable def aLO:Ct:=λds M k=>∃(p:Addr) (n b:Int),ds=[.mt p, .int n]/\0<n/\n<1073741824/\FdM M p b/\b<=1000000/\∀z M',0<=z->z<n->FdM M' p (b+1)->cG p M M'->(∀a,a≠p->M' a=M a)->k (.int z) M'
noncomputable def aIU:Ct:=λds M k=>∃a b:Int,ds=[.int a, .int b]/\k (.int ((ve a b:Nat):Int)) M
theorem aF7{ns:List Int}{k:Int}(h0:0<=k)(h:k<ns.length):∃z:Int,atI (ns.map D.int) k=some (.int z):=by
 obtain⟨j,rfl⟩:∃j:Nat,k=(j:Int):=⟨k.toNat,by lia⟩
 have hj:j<ns.length:=by lia
 exact⟨ns[j],dB (by simp[hj])⟩
theorem gL{o:MO}(h:M a=none):j6 (d7 M a o) a=M:=by
 funext b
 unfold j6 d7
 by_cases e:b=a
 ·rw[if_pos e,e,h]
 ·rw[if_neg e,if_neg e]
noncomputable def aGL(bt at_:Int):D := .tup [.int (at_/((ve at_ bt:Nat):Int)), .int (bt/((ve at_ bt:Nat):Int))]
structure Ats(bt:Int)(ats:List Int):Prop where
 bt:bt=1\/bt=2\/bt=9
 up:ats.Pairwise (· < ·)
 bd:∀a∈ats, -20<=a/\a<=10^10
noncomputable def kB(xs:List D)(js:List Nat):List D:=js.map λj=>xs.getD j .non
noncomputable def pH(xs ys:List D)(zs:List Str):D := .tup [.tup xs, .tup ys, .tup (zs.map .str)]
structure YardOk(xs ys:List D)(zs:List Str):Prop where
 lx:∃bt ats,xs=ats.map (aGL bt)/\Ats bt ats
 ly:∃bt ats,ys=ats.map (aGL bt)/\Ats bt ats
 wf:R.Wf xs.length ys.length zs
 few:xs.length<=21/\ys.length<=21
 full:zs=[]->xs=[]/\ys=[]
theorem cD{α β:Type}{f:α->β}{l:List α}{y:β}(h:(l.map f)[i]?=some y):∃x,l[i]?=some x/\y=f x:=by
 rw[qk] at h
 cases e:l[i]? with
 |none=>rw[e] at h;cases h
 |some x=>rw[e] at h;exact⟨x,rfl,(qw h).symm⟩
end Q
namespace PySem
open Sem (wp)
open AutoSeq1 (wpAny_loadPart')
section
variable {E:Value->Shared->Prop}
end
section
variable {E:Value->Shared->Prop}
end
end PySem
namespace L2
open PySem PySem.Spec PyProof.Rows
section
end
end L2
namespace Z
open PySem L2
section
variable {a:Expr}{rest:List Expr}
end
end Z
namespace Z
open PySem L2
end Z
namespace Q
open PySem L2 Z
theorem xG(h:n<=1000):("." : Str).length*((n:Int)).toNat<=sizeLine:=by
 have e:("." : Str).length=1:=by decide +kernel
 rw[e,jc,VQ]
 exact R.aJ '!'
theorem kD(h:i<zs.length+2):∃u,(R.framed zs)[i]?=some u:=⟨(R.framed zs)[i]'(by rw[R.gS];exact h),by simp[R.gS,h]⟩
theorem pJ{z:Str}(h:zs[i]?=some z):atI (zs.map D.str) (0+(i:Int))=some (.str z):=by
 rw[yy];exact dB (by rw[qk,h];rfl)
theorem xK{z:Str}(h:zs[i+1]?=some z):atI (zs.map D.str) (0+(i:Int)+1)=some (.str z):=by
 rw[yy];exact dB (j:=i+1) (by rw[qk,h];rfl)
noncomputable def d8(l:List Nat):List D:=l.map λ(i:Nat)=>D.int (i:Int)
theorem iE{l:List Nat}(h:(d8 l)[i]?=some d):∃j,l[i]?=some j/\d = .int (j:Int):=cD h
theorem cW(l:List Nat):(d8 l).length=l.length:=by simp[d8]
theorem aB7:(qt (zs.length+1)).filter (λi => !decide ((R.framed zs)[i]?=(R.framed zs)[i+1]?))=R.chg zs:=by
 unfold R.chg
 cases zs with
 |nil=>rfl
 |cons z zr=>rfl
theorem jM{p:Nat->Bool}:(qt (n+1)).filter p=if p n=true then (qt n).filter p++[n] else (qt n).filter p:=by
 rw[zt,List.filter_append]
 by_cases h:p n=true
 ·rw[if_pos h,fw h];rfl
 ·rw[if_neg h,fx h,List.filter_nil,w8]
theorem mD{α:Type}(l:List α):cutD l none (-1).4=l.dropLast:=by
 unfold cutD
 have e1:HT.sIx l.length 0 none=0:=rfl
 have e2:HT.sIx l.length l.length (-1).4=l.length-1:=by
  show (if (-1:Int)<0 then ((-1:Int)+(l.length:Int)).toNat else min (-1:Int).toNat l.length)=l.length-1
  rw[if_pos '*'];omega
 rw[e1,e2,dk,rd,List.dropLast_eq_take]
theorem iA(l:List Nat):(d8 l).dropLast=d8 l.dropLast:=by simp[d8,List.map_dropLast]
theorem cI{α β:Type}{f:α->β}{l:List α}{x:α}(h:l[i]?=some x):(l.take (i+1)).map f=(l.take i).map f++[f x]:=by
 rw[take_snoc h,qg];rfl
theorem aBM{xs:List D}(h:j<xs.length):atI xs (j:Int)=some (xs.getD j .non):=dB (by simp[h])
theorem m8(l:List Str)(h:∀z∈l,z.length=1):(l.map (·.length)).sum=l.length:=by
 induction l with
 |nil=>rfl
 |cons a l ih =>
  rw[jw,wz,ih λz hz=>h z (by simp[hz]),h a '$',qf,K6]
theorem qH(zs:List Str)(j:Nat):pw ja (zs.map λz=>(⟨#[R.atS z j]⟩:Str))=R.ofL (zs.map (R.atS · j)):=by
 have:=R.sP (zs.map (R.atS · j))
 rw[xj] at this
 exact this
theorem map_nil{α β:Type}{f:α->β}{l:List α}(h:decide (l.map f=[])=true):l=[]:=by
 have:=of_decide_eq_true h
 cases l with
 |nil=>rfl
 |cons a l=>cases this
end Q
namespace R
open PySem L2
theorem units_le{k:Nat}(hr:Room k A)(h:n<=64:=by decide):A.units+n<cLine:=by have:=hr.units;omega
end R
namespace Q
open PySem L2 Z
theorem FdM.del{p:Addr}{b:Int}(h:FdM M p b)(n:a≠p):FdM (j6 M a) p b:=by
 obtain⟨g,m,st,e,r⟩:=h
 exact⟨g,m,st,by rw[kQ (yj n)];exact e,r⟩
theorem cG.del{p:Addr}{M':Mem}(h:cG p M M')(n:M a=none):cG p M (j6 M' a):=λb u nb e=>by
 rw[kQ (λz=>by rw[z,n] at e;cases e)];exact h b u nb e
theorem cG.none_of{p:Addr}{M':Mem}(h:cG p M M')(n:M' a=none)(np:a≠p):M a=none:=by
 cases e:M a with
 |none=>rfl
 |some o=>rw[h a o np e] at n;cases n
theorem aHJ(l:List Nat):((l.map λc=>(⟨#[c]⟩:Str)).map (·.length)).sum=l.length:=by
 rw[m8 _ λz hz=>by obtain⟨c,_,rfl⟩:=qu.mp hz;rfl,zLm]
end Q
namespace Z
open PySem L2
section
variable {K:Fg}
noncomputable def aGO:D->Bool
 |.non=>true
 |_=>false
theorem aHK(h:Den K G d v):decide (v = .non)=aGO d:=by
 cases d with
 |non=>rw[h.non_];rfl
 |bl b=>rw[h.bl_];rfl
 |int b=>rw[h.int_];rfl
 |str b=>rw[h.str_];rfl
 |mt b=>rw[h.mt_];rfl
 |tup b=>obtain⟨_,_,e,_⟩:=h.tup_;rw[e];rfl
 |lst b=>obtain⟨_,_,e,_⟩:=h.lst_;rw[e];rfl
 |fl b=>obtain⟨_,_,e,_⟩:=h.fl_;rw[e];rfl
 |st b=>obtain⟨_,_,_,e,_⟩:=h.st_;rw[e];rfl
theorem qZ(h:k (.bl (aGO d)) M):Op2 K (λx y H Q=>y = .non/\Q (.bl (decide (x = .non))) H) d .non M k:=λG H v1 v2 Q rl e1 e2 q =>
 ⟨e2.non_,by rw[aHK e1];exact q _ _ _ _ _ (Stp.refl rl) cQ h⟩
end
end Z
namespace L2
open PySem PySem.Spec PyProof.Rows
section
end
end L2
namespace Z
open PySem L2
section
variable {K:Fg}
end
end Z
namespace Q
open PySem L2 Z
end Q
namespace HT
open PySem PySem.Spec PyProof.Rows
section
variable {E:Value->Shared->Prop}
end
end HT
namespace L2
open PySem PySem.Spec PyProof.Rows
section
end
end L2
namespace Z
open PySem L2
section
end
end Z
namespace Z
open PySem L2
section
noncomputable def aAX(K:Fg)(n:Nat):V->List V->Hp->VK->Prop:=λx vs H Q=>∃(c d:D) (ds:List D) (v:V) (j:Nat),vs=[v]/\okD n c=true/\okDs n ds=true/\Den K H c v/\Den K H (.lst ds) x/\ds[j]?=some d/\eqD d c=true/\(∀m e,m<j->ds[m]?=some e->eqD e c=false)/\ds.length<=100000/\Q (.int (j:Int)) H
theorem uI(hu:X.A.units+(n+1)<cLine):MtR X "list.index" (aAX X.K n):=by
 intro pins s σ H x vs v us Q I rx rv h
 obtain⟨c,d,ds,u,j,rfl,okc,okd,dc,dx,hj,he,hno,hl,q⟩:=h
 obtain⟨w,rfl,rw'⟩:=vals1 rv
 obtain⟨a,its,ws,rfl,it,rs,dn⟩:=dP I dx rx
 obtain⟨⟨cls,dd,data,sl⟩,ho,hc,nn,hd⟩:=id it
 have hc':cls = .type "list" := hc
 have hd':data = .seq its.toArray nn:=hd
 subst hc' hd'
 have le:ds.length=its.length:=by rw[dn.len,rs.length]
 have hjl:j<ds.length:=(zGs hj).1
 refine PySem.call_meets xg ⟨_,ho,rfl⟩ tq (PySem.F.args_list_index_2 _ _) (SeqAt.list_indexAt a its.toArray nn dd sl w (eOf ds its c) j (by simp;lia) '#' ?_ ?_) ⟨ho,λy hy => ?_,?_⟩
 ·have e1:its[j]?=some (its[j]' '#'):=zGe '#'
  exact (xQ I okd dn rs e1 hj).trans he
 ·intro m hm hlt
  have e1:its[m]?=some (its[m]' '#'):=zGe '#'
  have e2:ds[m]?=some (ds[m]' '#'):=zGe '#'
  exact (xQ I okd dn rs e1 e2).trans (hno m _ hlt e2)
 ·obtain⟨j,hj⟩:=y9 (show y∈its by simpa using hy)
  have hlt:j<ws.length:=by rw[rs.length];exact (zGs hj).1
  obtain⟨u2,e2,r1⟩:=rs.get (zGe hlt)
  rw[hj] at e2;cases e2
  obtain⟨e,e2,q2⟩:=dn.get' (zGe hlt)
  rw[xQ I okd dn rs hj e2]
  exact eqAt_D I e n c _ u y w X.A.in1 (cH okd e2) okc q2 dc r1 rw' (by show X.A.units+1+n<cLine;lia)
 ·exact⟨.int _,H,I.tok _,⟨_,rfl⟩,q⟩
theorem uR{K:Fg}{c:D}(okc:okD n c=true)(okd:okDs n ds=true)(hj:ds[j]?=some d)(he:eqD d c=true)(hno:∀m e,m<j->ds[m]?=some e->eqD e c=false)(hl:ds.length<=100000)(h:k (.int (j:Int)) M):OpM K (aAX K n) (.lst ds) [c] M k:=λG H v vs Q rl e e2 q=>by
 obtain⟨u,rfl,du⟩:=dens1 e2
 exact⟨c,d,ds,u,j,rfl,okc,okd,du.up rl.same,e.up rl.same,hj,he,hno,hl,q _ _ _ _ _ (Stp.refl rl) cY h⟩
end
end Z
namespace Q
open PySem L2 Z
end Q
namespace Z
open PySem L2
theorem slen(a b:Str):(a++b).length=a.length+b.length:=by
 show (a.cps++b.cps).size=_
 rw[ff];rfl
theorem qD:∀(ts:List Str) (k:Nat) (acc:Str),(textFrom k acc ts).length<=acc.length+(ts.map (·.length)).sum+2*ts.length
 |[],k,acc=>by simp[textFrom]
 |t::ts,k,acc=>by
  have ih:=qD ts (k+1) (acc++(if k>0 then ", " else "" : String)++t)
  have e:(acc++((if k>0 then ", " else "" : String):Str)++t).length<=acc.length+2+t.length:=by
   rw[slen,slen]
   split
   ·have:((", " : String):Str).length=2:=by decide +kernel
    lia
   ·have:(("" : String):Str).length=0:=by decide +kernel
    lia
  show (textFrom (k+1) (acc++(if k>0 then ", " else "" : String)++t) ts).length<=_
  rw[jw,wz,qf]
  lia
theorem yR(ts:List Str):(listText ts).length<=(ts.map (·.length)).sum+2*ts.length+2:=by
 unfold listText
 rw[slen]
 have h:=qD ts 0 "["
 have e1:("[" : Str).length=1:=by decide +kernel
 have e2:("]" : Str).length=1:=by decide +kernel
 lia
theorem join_le:∀ts:List Str,(wb ", " ts).length<=(ts.map (·.length)).sum+2*ts.length
 |[]=>by show (ja).length<=_;exact vy _
 |[x]=>by show x.length<=_;simp
 |x::y::r=>by
  have ih:=join_le (y::r)
  show (x ++ ", " ++ wb ", " (y::r)).length<=_
  rw[slen,slen]
  have e2:((", " : String):Str).length=2:=by decide +kernel
  rw[jw,wz,qf]
  lia
theorem xR(ts:List Str):(tupleText ts).length<=(ts.map (·.length)).sum+2*ts.length+3:=by
 unfold tupleText
 rw[slen,slen]
 have h:=join_le ts
 have e1:("(" : Str).length=1:=by decide +kernel
 have e2:(((if ts.length==1 then ",)" else ")" : String)):Str).length<=2:=by split <;> decide +kernel
 lia
mutual
noncomputable def smD:D->Bool
 |.non|.bl _|.str _=>true
 |.int i=>decide (i.natAbs<10^65)
 |.tup ds=>smDs ds
 |.lst ds=>smDs ds
 |.mt _|.fl _|.st _=>false
noncomputable def smDs:List D->Bool
 |[]=>true
 |d::ds=>smD d&&smDs ds
end
mutual
noncomputable def wt:D->Nat
 |.non=>4
 |.bl _=>5
 |.int _=>66
 |.str x=>(reprText x).length
 |.tup ds=>wts ds+3
 |.lst ds=>wts ds+2
 |.mt _|.fl _|.st _=>0
noncomputable def wts:List D->Nat
 |[]=>0
 |d::ds=>wt d+2+wts ds
end
mutual
theorem shown_le:∀d:D,smD d=true->(toPy d).showable=true/\(toPy d).shown.length<=wt d
 |.non,_=>by simp only[toPy,zq,cx,wt];exact⟨trivial,by decide +kernel⟩
 |.bl b,_=>by simp only[toPy,zq,cx,wt];exact⟨trivial,by cases b <;> decide +kernel⟩
 |.str x,_=>by simp only[toPy,zq,cx,wt];exact⟨trivial,qj _⟩
 |.int i,h=>by
  simp only[smD,decide_eq_true_eq] at h
  simp only[toPy,zq,cx,wt,decide_eq_true_eq]
  refine⟨?_,?_⟩
  ·have h2:i.natAbs<2^1920:=qo h '*'
   by_cases h0:i.natAbs=0
   ·rw[h0];decide
   ·exact (Jw h0).mpr h2
  ·have:=int_text_length_le10 (a:=i) (k:=65) '*' h
   show (jb (toString i)).length<=66
   rw[ofString_length];exact this
 |.mt _,h=>by simp[smD] at h
 |.fl _,h=>by simp[smD] at h
 |.st _,h=>by simp[smD] at h
 |.tup ds,h=>by
  simp only[smD] at h
  obtain⟨h1,h2⟩:=showns_le ds h
  simp only[toPy,zq,cx,wt]
  exact⟨h1,ji (xR _) '#'⟩
 |.lst ds,h=>by
  simp only[smD] at h
  obtain⟨h1,h2⟩:=showns_le ds h
  simp only[toPy,zq,cx,wt]
  exact⟨h1,ji (yR _) '#'⟩
theorem showns_le:∀ds:List D,smDs ds=true->mi (toPys ds)=true/\((gi (toPys ds)).map (·.length)).sum+2*(gi (toPys ds)).length<=wts ds
 |[],_=>by simp[toPys,mi,gi,wts]
 |d::ds,h=>by
  simp only[smDs,qi] at h
  obtain⟨a1,a2⟩:=shown_le d h.1
  obtain⟨b1,b2⟩:=showns_le ds h.2
  simp only[toPys,mi,gi,wts,jw,wz,qf]
  exact⟨by rw[a1,b1];rfl,by lia⟩
end
theorem mZ:∀{ds:List D},(∀d∈ds,okD n d=true)->okDs n ds=true
 |[],_=>by simp only[okDs]
 |d::ds,h=>by
  have ih:=mZ (ds:=ds) λe he=>h e (qm _ he)
  simp only[okDs,h d '$',ih,xh]
end Z
namespace Q
open PySem L2 Z
noncomputable def pairD(p:Int×Int):D := .tup [.int p.1, .int p.2]
noncomputable def aB0:Ct:=λds M k=>∃ns:List Int,ds=[.fl (ns.map .int)]/\ns.length<=63/\∀M',k (.bl true) M'
end Q
namespace L2
open PySem PySem.Spec PyProof.Rows
section
end
end L2
namespace Z
open PySem L2
section
variable {a:Expr}{rest:List Expr}
end
section
theorem aJW(I:Inv X pins σ H s){e:D}{u:V}{v' u':Value}(A:Around)(g1:Disp d)(g2:Disp e)(h1:okD n d=true)(h2:okD n e=true)(x:Den X.K H d v)(y:Den X.K H e u)(rx:RelV v v')(ry:RelV u u')(hu:A.units+n<cLine):SeqAt.RcNeAt A s v' u' (!eqD d e):=by
 cases g1 with
 |tup ds =>
  obtain⟨a,its,vs,rfl,it,rv,dn⟩:=dZ I x rx
  cases g2 with
  |lst es=>obtain⟨b,its2,vs2,rfl,it2,_⟩:=dP I y ry;simp only[eqD];exact Va it it2 '!'
  |tup es =>
   obtain⟨b,its2,vs2,rfl,it2,rv2,dn2⟩:=dZ I y ry
   cases n with
   |zero=>simp[okD] at h1
   |succ n =>
    have k1:okDs n ds=true:=by simpa only[okD] using h1
    have k2:okDs n es=true:=by simpa only[okD] using h2
    have:=K9 (A:=A) (s:=s) (e:=eqJ ds es) it it2 '!' (λj g1 g2=>by
     obtain⟨c,v1,e1,q1,r1⟩:=eJ dn rv g1
     obtain⟨c2,v2,e2,q2,r2⟩:=eJ dn2 rv2 g2
     have:=eqAt_D I c n c2 v1 v2 _ _ A.in1 (cH k1 e1) (cH k2 e2) q1 q2 r1 r2 (by show A.units+1+n<cLine;omega)
     unfold eqJ;rw[e1,e2];exact this)
    rw[qc,qc,<- rv.length,<- rv2.length,<- dn.len,<- dn2.len,fY] at this
    simp only[eqD];exact this
 |lst ds =>
  obtain⟨a,its,vs,rfl,it,rv,dn⟩:=dP I x rx
  cases g2 with
  |tup es=>obtain⟨b,its2,vs2,rfl,it2,_⟩:=dZ I y ry;simp only[eqD];exact Vd it it2 '!'
  |lst es =>
   obtain⟨b,its2,vs2,rfl,it2,rv2,dn2⟩:=dP I y ry
   cases n with
   |zero=>simp[okD] at h1
   |succ n =>
    have k1:okDs n ds=true:=by simpa only[okD] using h1
    have k2:okDs n es=true:=by simpa only[okD] using h2
    simp only[eqD]
    by_cases hl:ds.length=es.length
    ·have hsz:its.toArray.size=its2.toArray.size:=by rw[qc,qc,<- rv.length,<- rv2.length,<- dn.len,<- dn2.len,hl]
     have:=Vc (A:=A) (s:=s) (e:=eqJ ds es) it it2 hsz '!' (λj g1 g2=>by
      obtain⟨c,v1,e1,q1,r1⟩:=eJ dn rv g1
      obtain⟨c2,v2,e2,q2,r2⟩:=eJ dn2 rv2 g2
      have:=eqAt_D I c n c2 v1 v2 _ _ A.in1 (cH k1 e1) (cH k2 e2) q1 q2 r1 r2 (by show A.units+1+n<cLine;omega)
      unfold eqJ;rw[e1,e2];exact this)
     have e3:=fY ds es
     rw[<- hl,QY,beq_self_eq_true,xh] at e3
     rw[qc,<- rv.length,<- dn.len,e3] at this
     exact this
    ·have hsz:(its.toArray.size != its2.toArray.size)=true:=by rw[bne_iff_ne,qc,qc,<- rv.length,<- rv2.length,<- dn.len,<- dn2.len];exact hl
     have e3:=fY ds es
     rw[beq_eq_false_iff_ne.mpr hl,dm] at e3
     rw[<- e3]
     exact Vb it it2 hsz '!'
end
section
theorem aCI(hu:X.A.units+n<cLine):OpR X (xf .NotEq) (aBU X.K n true):=by
 intro pins s σ H x y v u Q I rx ry h
 obtain⟨d,e,g1,g2,h1,h2,dx,dy,q⟩:=h
 exact aJW I X.A g1 g2 h1 h2 dx dy rx ry hu X.prog X.w X.xe _ ⟨.bl (!eqD d e),H,I,rfl,q⟩
theorem qX{K:Fg}{d1 d2 e1 e2:D}(r1:Rs M d1 e1)(r2:Rs M d2 e2)(h1:okD n e1=true)(h2:okD n e2=true)(h:k (.bl (!eqD e1 e2)) M):Op2 K (aBU K n true) d1 d2 M k:=λG H v1 v2 Q rl x y q =>
 ⟨e1,e2,r1.disp,r2.disp,h1,h2,r1.den rl x,r2.den rl y,q _ _ _ _ _ (Stp.refl rl) cQ h⟩
end
section
variable {K:Fg}
end
end Z
namespace Z
open PySem L2 PySem.Spec PyProof.Rows
noncomputable def tyN:D->String
 |.non => "NoneType"
 |.bl _ => "bool"
 |.int _ => "int"
 |.str _ => "str"
 |.tup _ => "tuple"
 |.lst _|.fl _|.mt _|.st _ => "list"
noncomputable def isN(T S:String):Bool:=S==T||(S == "bool" && T == "int")
noncomputable def isD(T:String)(d:D):Bool:=isN T (tyN d)
noncomputable def Plain5(T:String):Prop:=T = "int" \/ T = "bool" \/ T = "str" \/ T = "tuple" \/ T = "list"
theorem aLT{K:Fg}{T S:String}(h:Plain5 T)(h2:S = "NoneType" \/ Plain5 S):v8 K (.type S) (.type T)=some (isN T S):=by
 rcases h with rfl|rfl|rfl|rfl|rfl <;> rcases h2 with rfl|rfl|rfl|rfl|rfl|rfl <;> first
  |exact aKA '-' '-' '-'
  | (rw[aFD '-'];decide +kernel)
theorem aJ1(d:D):tyN d = "NoneType" \/ Plain5 (tyN d):=by
 cases d with
 |non=>exact .inl rfl
 |bl b=>exact .inr (.inr (.inl rfl))
 |int b=>exact .inr (.inl rfl)
 |str b=>exact .inr (.inr (.inr (.inl rfl)))
 |tup b=>exact .inr (.inr (.inr (.inr (.inl rfl))))
 |lst b=>exact .inr (.inr (.inr (.inr (.inr rfl))))
 |fl b=>exact .inr (.inr (.inr (.inr (.inr rfl))))
 |mt b=>exact .inr (.inr (.inr (.inr (.inr rfl))))
 |st b=>exact .inr (.inr (.inr (.inr (.inr rfl))))
theorem aL8{K:Fg}{T:String}(h:Plain5 T)(d:D):v8 K (.type (tyN d)) (.type T)=some (isD T d):=aLT h (aJ1 d)
noncomputable def Slv:D->Prop
 |.mt _|.st _=>False
 |_=>True
theorem aD2{T:String}(hT:Plain5 T):dS X (.builtin "isinstance") (λxs H Q=>∃x d,xs=[x, .ty T]/\Slv d/\Den X.K H d x/\Q (.bl (isD T d)) H):=by
 intro pins s σ H xs us Q I r h
 obtain⟨x,d,rfl,nm,dx,q⟩:=h
 obtain⟨u,w',rfl,rx,r2⟩:=vals2 r
 cases (show w'=Qk T from r2)
 have e:=aL8 (K:=X.K) hT d
 have fin:∀tk,∃v H',Inv X pins σ H' {s with toks:=tk}/\RelV v (vo (isD T d))/\Q v H':=λtk=>⟨.bl (isD T d),H,I.tok tk,rfl,q⟩
 cases d with
 |non=>rw[dx.non_] at rx;cases (show u=wj from rx);exact xw PySem.W.kitx_none I.kIn nu e (λz=>nomatch z) fin
 |bl y=>rw[dx.bl_] at rx;cases (show u=vo y from rx);exact xw PySem.W.kitx_bool I.kIn nu e (λz=>nomatch z) fin
 |int i=>rw[dx.int_] at rx;obtain⟨t,q2⟩:=(show ∃t,u=rq i t from rx);cases q2;exact xw PySem.W.kitx_int I.kIn nu e (λz=>nomatch z) fin
 |str y=>rw[dx.str_] at rx;obtain⟨t,q2⟩:=(show ∃t,u=JR y t from rx);cases q2;exact xw PySem.W.kitx_str I.kIn nu e (λz=>nomatch z) fin
 |mt a=>exact nm.elim
 |st a=>exact nm.elim
 |tup ds =>
  obtain⟨a,its,vs,rfl,⟨o,h1,h2,_⟩,_⟩:=dZ I dx rx
  exact xw PySem.W.kitx_tuple I.kIn ⟨o,h1,h2⟩ e (λz=>nomatch z) fin
 |lst ds =>
  obtain⟨a,its,vs,rfl,⟨o,h1,h2,_⟩,_⟩:=dP I dx rx
  exact xw Q6 I.kIn ⟨o,h1,h2⟩ e (λz=>nomatch z) fin
 |fl ds =>
  obtain⟨a,vs,rfl,sq,dn⟩:=dx.fl_
  cases (show u=yr a from rx)
  obtain⟨its,rv,pt,_⟩:=I.list sq
  obtain⟨o,h1,h2,_⟩:=pt.isList
  exact xw Q6 I.kIn ⟨o,h1,h2⟩ e (λz=>nomatch z) fin
inductive Rz(M:Mem):D->D->Prop
 |self {d:D} (h:Slv d):Rz M d d
 |mt {a:Addr}{ds:List D} (h:M a=some (.lst ds)):Rz M (.mt a) (.lst ds)
section
variable {p1:Pos}
theorem fW{C:Str}{T:String}(hT:Plain5 T)(hm:X.mg "isinstance" = none)(hmT:X.mg C=none)(hvT:va C=some (.type T))(h:GE X e Γ M λd M1=>∃d',Rz M1 d d'/\k (.bl (isD T d')) M1)(hg:Gl X "isinstance" := by rfl)(hgT:Gl X C:=by rfl)(hn:C ≠ "__name__" := by decide)(hdb:(C==("__debug__" : Str))=false:=by decide)(he:qp [e, .Name C p2] X.env=(false,eval e X.env)::qp [.Name C p2] X.env:=by rfl)(hpl:(x9 pos (qp [.Name C p2] X.env)).any (·.1)=false:=by rfl):GE X (.Call (.Name "isinstance" p1) [e, .Name C p2] [] pos) Γ M k:=λσ G H Q en rl q=>by
 refine bL (lM (aD2 hT) hg hm x8 (fM (hs:=he) pU (fM (zE (v := .ty T) hgT hmT hvT rfl hn hdb) lJ)) '*' '*' he hpl) ?_
 refine h σ G H _ en rl λv G1 H1 d M1 s1 e1 ⟨d',rz,h1⟩ => ?_
 refine⟨v,d',rfl,?_,?_,q _ _ _ _ _ s1 cQ h1⟩
 ·cases rz with
  |self h=>exact h
  |mt h=>exact nu
 ·cases rz with
  |self h=>exact e1.up s1.rel.same
  |mt hm =>
   obtain⟨_,vs,e2,dn⟩:=s1.rel.mem _ _ hm
   rw[e1.mt_];exact fK e2 (dn.up s1.rel.same)
end
end Z
namespace HD
open PySem PySem.Spec PyProof.Rows
section
variable {E:Value->Shared->Prop}{d:Addr}{o:Obj}{es:Array DictEntry}
end
end HD
namespace HD
open PySem PySem.Spec PyProof.Rows
section
variable {K:Type}[DecidableEq K]{knd:Kl prog w K}{E:Value->Shared->Prop}{d:Addr}{xs:List (K×Addr×Value)}{k:K}{v:Value}
end
end HD
namespace HD
open PySem PySem.Spec PyProof.Rows
section
variable {K:Type}[DecidableEq K]{knd:Kl prog w K}{E:Value->Shared->Prop}{d o:Addr}{xs ys:List (K×Addr×Value)}
end
end HD
namespace Z
open PySem PySem.Spec PyProof.Rows L2
end Z
namespace Z
open PySem PySem.Spec PyProof.Rows L2
section
variable {b:Addr}{k:List Int}{xs:List (List Int×Addr)}
theorem items_int:∀{ks:List Int}{us:List Value},Vals (ks.map V.int) us->ItemsAre (intKind P w) ks us
 |[],_,r=>by rw[df] at r;cases r;exact .nil
 |k::ks,_,r=>by
  rw[jw] at r
  cases r with
  |@cons x y l m h t =>
   obtain⟨tk,rfl⟩:=(show ∃t,y=rq k t from h)
   exact .cons (by show QV k (rq k tk)=true;simp[QV]) (items_int t)
end
end Z
namespace Z
open PySem L2
inductive Stt(M:Mem):D->List (List Int)->Prop
 |st (ks:List (List Int)):Stt M (.st ks) ks
 |mt {a:Addr}{ks:List (List Int)} (h:M a=some (.st ks)):Stt M (.mt a) ks
section
variable {K:Fg}
end
section
variable {F:Fin}{a:Expr}
end
end Z
namespace Z
open PySem L2
section
end
end Z
namespace R
open PySem L2
theorem qE{α:Type}(f:Nat->α):∀p,f p≠f 0->∃k,k<p/\f k≠f (k+1)/\f (k+1)=f p
 |0,h=>absurd rfl h
 |p+1,h=>by
  by_cases e:f p=f (p+1)
  ·obtain⟨k,h1,h2,h3⟩:=qE f p (by rw[e];exact h)
   exact⟨k,by lia,h2,h3.trans e⟩
  ·exact⟨p,by lia,e,rfl⟩
theorem vU{l:List Nat}(s:l.Pairwise (· < ·)){a b:Nat}(ha:a∈l)(hb:b∈l)(h:a<b):a∈l.dropLast:=by
 have hne:l≠[]:=λe=>by rw[e] at ha;cases ha
 have e:=xi hne
 rw[<- e] at ha hb s
 rw[Ja] at s
 rcases kv.mp ha with ha|ha
 ·exact ha
 ·rw[vb] at ha
  rcases kv.mp hb with hb|hb
  ·have:=s.2.2 b hb _ (List.mem_singleton_self _)
   lia
  ·rw[vb] at hb
   lia
theorem row_kept(h:∀z∈zs,z.length=n){z:Str}(hz:z∈zs):z=dots n\/z∈aM zs:=by
 by_cases hd:z=dots n
 ·exact .inl hd
 refine .inr ?_
 obtain⟨p,hp,ez⟩:=kj hz
 have hne:zs≠[]:=λe=>by rw[e] at hz;cases hz
 have hw:=bP h hne
 have f0:(framed zs)[0]?=some (dots n):=by rw[eB,hw]
 have fl:(framed zs)[zs.length+1]?=some (dots n):=by rw[cS,hw]
 have fp:(framed zs)[p+1]?=some z:=by rw[bG hp,zGe hp,ez]
 have ne:∀{o:Option Str},o=some (dots n)->(framed zs)[p+1]?≠o:=λe q=>hd (by rw[fp,e] at q;injection q)
 obtain⟨k,k1,k2,k3⟩:=qE (λi=>(framed zs)[i]?) (p+1) (ne f0)
 obtain⟨j,j1,j2,j3⟩:=i0 (λi=>(framed zs)[i]?) (zs.length-p) (p+1) (by
  show (framed zs)[p+1]?≠(framed zs)[p+1+(zs.length-p)]?
  rw[show p+1+(zs.length-p)=zs.length+1 by lia];exact ne fl)
 have mk:k∈chg zs:=(dX hne).mpr ⟨by lia,k2⟩
 have mj:j∈chg zs:=(dX hne).mpr ⟨by lia,j3⟩
 have:=vU (cC zs) mk mj '#'
 refine qu.mpr ⟨k,this,?_⟩
 have e:(framed zs)[k+1]?=some z:=k3.trans fp
 rw[bG '#'] at e
 rw[zGd,e];rfl
theorem qJ(h:∀z∈zs,z=dots n):chg zs=[]:=by
 by_cases hne:zs=[]
 ·rw[hne];simp[chg]
 have hl:∀z∈zs,z.length=n:=λz hz=>by rw[h z hz,qP]
 have hw:=bP hl hne
 have all:∀i,i<=zs.length+1->(framed zs)[i]?=some (dots n):=λi hi=>by
  rcases dt i with rfl|hp
  ·rw[eB,hw]
  ·obtain⟨j,rfl⟩:∃j,i=j+1:=⟨i-1,by lia⟩
   by_cases hj:j<zs.length
   ·rw[bG hj,zGe hj,h _ (vh hj)]
   ·rw[show j=zs.length by lia,cS,hw]
 refine List.eq_nil_iff_forall_not_mem.mpr λi hi => ?_
 obtain⟨a,b⟩:=(dX hne).mp hi
 exact b (by rw[all i '#',all (i+1) '#'])
theorem uM(h:∀z∈zs,z.length=n)(hr:aM zs=[]):chg zs=[]/\chg (aE zs)=[]:=by
 have hd:∀z∈zs,z=dots n:=λz hz=>(row_kept h hz).elim id λq=>by rw[hr] at q;cases q
 refine⟨qJ hd,qJ (n:=zs.length) λc hc => ?_⟩
 obtain⟨j,hj,rfl⟩:=qu.mp hc
 rw[kh] at hj
 by_cases hne:zs=[]
 ·rw[hne] at hj;simp at hj
 rw[bP h hne] at hj
 unfold dots ofL
 congr 2
 refine QQ.mpr ⟨by simp,λb hb => ?_⟩
 obtain⟨z,hz,rfl⟩:=qu.mp hb
 rw[hd z hz,kI,if_pos hj]
noncomputable def sA(n i:Nat)(z:Str):Nat:=if i=0\/i=n+1 then 46 else atS z (i-1)
theorem bH(h:∀z∈zs,z.length=n)(hz:zs≠[]):(aE zs).length=n:=by
 unfold aE;rw[bP h hz];simp
theorem gZ(h:∀z∈zs,z.length=n)(hz:zs≠[])(hn:0<n)(hi:i<=n+1):(framed (aE zs))[i]?=some (ofL (zs.map (sA n i))):=by
 have hc:=bH h hz
 have hne:aE zs≠[]:=λe=>by rw[e] at hc;simp at hc;lia
 have hw:((aE zs).head?.map (·.length)).getD 0=zs.length:=bP (λc hc=>eP c hc) hne
 have hd:dots zs.length=ofL (zs.map λ_=>46):=by
  unfold dots;rw[List.map_const']
 rcases dt i with rfl|hp
 ·rw[eB,hw,hd];rfl
 ·obtain⟨j,rfl⟩:∃j,i=j+1:=⟨i-1,by lia⟩
  by_cases hj:j<n
  ·rw[bG '#',f9 h hz hj]
   congr 2
   apply vc
   intro z _
   unfold sA
   rw[if_neg '#'];rfl
  ·have e:j=(aE zs).length:=by lia
   rw[e,cS,hw,hd]
   congr 2
   apply vc
   intro z _
   unfold sA
   rw[if_pos '#']
theorem sU{f g:Str->Nat}:(some (ofL (zs.map f))=some (ofL (zs.map g)))↔∀z∈zs,f z=g z:=by
 constructor
 ·intro e
  injection e with e
  unfold ofL at e
  injection e with e
  have e:zs.map f=zs.map g:=by injection e
  exact λz hz=>(List.map_inj_left.mp e) z hz
 ·intro e
  rw[vc e]
theorem pB(h:∀z∈zs,z.length=n)(hr:aM zs≠[]):chg (aE (aM zs))=chg (aE zs):=by
 have hz:zs≠[]:=λe=>by subst e;exact hr (by simp[aM,chg])
 have hk:∀z∈aM zs,z.length=n:=λz q=>h z (jQ z q)
 rcases dt n with rfl|hn
 ·have e1:aE zs=[]:=jm.mp (bH h hz)
  have e2:aE (aM zs)=[]:=jm.mp (bH hk hr)
  rw[e1,e2]
 ·have l1:=bH h hz
  have l2:=bH hk hr
  have n1:(aE zs).isEmpty=false:=by cases hc:aE zs with
   |nil=>rw[hc] at l1;simp at l1;lia
   |cons _ _=>rfl
  have n2:(aE (aM zs)).isEmpty=false:=by cases hc:aE (aM zs) with
   |nil=>rw[hc] at l2;simp at l2;lia
   |cons _ _=>rfl
  unfold chg
  rw[n1,n2,l1,l2,if_neg zBf,if_neg zBf]
  apply nv
  intro i hi
  rw[kh] at hi
  rw[gZ h hz hn '#',gZ h hz hn '#',gZ hk hr hn '#',gZ hk hr hn '#']
  congr 1
  apply decide_eq_decide.mpr
  rw[sU,sU]
  constructor
  ·intro q z hz
   rcases row_kept h hz with rfl|hz
   ·unfold sA
    rw[kI,kI]
    split <;> split <;> (try split) <;> (try split) <;> first|rfl|lia
   ·exact q z hz
  ·exact λq z hz=>q z (jQ z hz)
theorem pC(h:Good n zs)(hr:aM zs≠[]):aE (aM (aE (aM zs)))=bZ zs:=by
 have g1:=i9 h
 have hl:∀z∈aM zs,z.length=n:=λz hz=>(g1 z hz).1
 obtain⟨c2,wf,le⟩:=aHP h hr
 have hJ:=pB (λz hz=>(h z hz).1) hr
 have lt:∀j∈(chg (aE (aM zs))).dropLast,j<n:=λj hj=>by
  have:=jF (cC _) (eO _) j hj
  rw[bH hl hr] at this
  exact this
 have e1:aM (aE (aM zs))=(chg (aE (aM zs))).dropLast.map λj=>ofL ((aM zs).map (atS · j)):=by
  show Jp _ _=_
  apply vc
  intro j hj
  rw[zGd,f9 hl hr (lt j hj)];rfl
 have hk:aM (aE (aM zs))≠[]:=λq=>by
  have:=eY (aE (aM zs))
  rw[q] at this
  simp at this
  lia
 have hw:((aM (aE (aM zs))).head?.map (·.length)).getD 0=(aM zs).length:=bP (λz hz=>eP z (jQ z hz)) hk
 have ek:bZ zs=(aM zs).map λz=>ofL ((chg (aE (aM zs))).dropLast.map (atS z)):=by
  rw[hJ];unfold aM bZ;rw[xj];rfl
 rw[ek]
 show (qt (((aM (aE (aM zs))).head?.map (·.length)).getD 0)).map (λj=>ofL ((aM (aE (aM zs))).map (atS · j)))=_
 rw[hw,e1]
 apply List.ext_getElem
 ·simp
 ·intro r hr1 hr2
  rw[zLm,bj] at hr1
  rw[fz,fz,List.getElem_range,xj]
  congr 1
  apply vc
  intro j _
  show atS (ofL ((aM zs).map (atS · j))) r=_
  rw[kR,zGd,qk,zGe hr1];rfl
abbrev Cell:=List Int
noncomputable def nA(zs:List Str)(inside:Bool)(nx ny:Nat):List Cell:=(qt (ny+1)).flatMap λ(u:Nat)=>(qt (nx+1)).filterMap λ(a:Nat)=>if bD zs ((a:Int)-1) ((u:Int)-1)=inside then some [(a:Int)-1,(u:Int)-1] else none
inductive Rch(cells:List Cell)(st:List (Int×Int))(s:Cell):Cell->Prop
 |refl:Rch cells st s s
 |step {x y:Int}{d:Int×Int}:Rch cells st s [x,y]->d∈st->[x+d.1,y+d.2]∈cells->Rch cells st s [x+d.1,y+d.2]
open Classical in
noncomputable def starts(cells:List Cell)(st:List (Int×Int)):Nat->List Cell
 |0=>[]
 |i+1=>match cells[i]? with
  |some c=>if ∃s∈starts cells st i,Rch cells st s c then starts cells st i else starts cells st i++[c]
  |none=>starts cells st i
noncomputable def rowsOf(f:Int->Int->Bool)(w h:Nat):List Str:=(qt h).map λ(u:Nat)=>ofL ((qt w).map λ(a:Nat)=>sg (f (a:Int) (u:Int)))
end R
namespace R
structure Gth(cells:List Cell)(st:List (Int×Int))(s:Cell)(ks ws:List Cell)(busy:Option (Int×Int×List (Int×Int))):Prop where
 s0:s∈ks
 all:∀c∈ks,Rch cells st s c
 sub:∀c∈ks,c∈cells
 nd:ks.Nodup
 ww:∀c∈ws,c∈ks
 cl:∀x y,[x,y]∈ks->[x,y]∈ws\/(∃dn,busy=some (x,y,dn))\/∀d∈st,[x+d.1,y+d.2]∈cells->[x+d.1,y+d.2]∈ks
 bz:∀x y dn,busy=some (x,y,dn)->[x,y]∈ks/\∀d∈dn,[x+d.1,y+d.2]∈cells->[x+d.1,y+d.2]∈ks
section
variable {cells:List Cell}{st:List (Int×Int)}{s:Cell}{ks ws:List Cell}{x y:Int}{dn:List (Int×Int)}{d:Int×Int}
end
end R
namespace Q
open PySem L2 Z
end Q
namespace R
open PySem L2
abbrev RS:=List (Nat×Nat)×Option Nat
structure RInv(bs:List Bool)(n:Nat)(q:RS):Prop where
 bd:∀p∈q.1,p.1<p.2/\p.2<n
 bg:∀b,q.2=some b->b<n
 len:q.1.length<=n
 any:(q.1≠[]\/q.2≠none)↔∃i,i<n/\bs.getD i false=true
end R
namespace Q
open PySem L2 Z
end Q
namespace R
open PySem L2
end R
namespace Q
open PySem L2 Z
noncomputable def pc(k:Nat)(z:Str):Str:=dI (R.ofL (46::z.cps.toList++[46])) (0+(k:Int)).4 (0+(k:Int)+2).4
theorem pR(z:Str)(zr:List Str):atI ((z::zr).map D.str) 0=some (.str z):=dB (j:=0) rfl
theorem aBP(z:Str)(js:List Nat):pw ja (js.map λj=>(⟨#[R.atS z j]⟩:Str))=R.ofL (js.map (R.atS z)):=by
 have:=R.sP (js.map (R.atS z))
 rw[xj] at this
 exact this
noncomputable def aIO:Ct:=λds M k=>∃(z:Str) (js:List Nat),ds=[.str z, .lst (d8 js)]/\z.length<=1000/\js.length<=1000/\(∀j∈js,j<z.length)/\k (.str (R.ofL (js.map (R.atS z)))) M
noncomputable def oA(xs ys:List D)(zs:List Str):D:=pH (kB xs (R.chg (R.aE zs))) (kB ys (R.chg zs)) (R.bZ zs)
structure Grp(cells:List R.Cell)(st:List (Int×Int))(n:Nat)(gs:List (List R.Cell)):Prop where
 len:gs.length=(R.starts cells st n).length
 at_:∀(j:Nat) s,(R.starts cells st n)[j]?=some s->∃ks,gs[j]?=some ks/\∀c,c∈ks↔R.Rch cells st s c
noncomputable def aL1(cells:List R.Cell)(st:List (Int×Int))(s:R.Cell)(w h:Nat):List Str:=R.rowsOf (λa u => @decide (R.Rch cells st s [a,u]) (zk _)) w h
noncomputable def zP(xs ys:List D)(cells:List R.Cell)(st:List (Int×Int))(ss:List R.Cell):List D:=ss.map λs=>oA xs ys (aL1 cells st s (xs.length-1) (ys.length-1))
noncomputable def straight:List (Int×Int):=[(1,0),(0,1),(-1,0),(0, -1)]
noncomputable def wI:List (Int×Int):=[(1,0),(1,1),(0,1),(-1,1),(-1,0),(-1, -1),(0, -1),(1, -1)]
noncomputable def pcs(xs ys:List D)(zs:List Str):List D:=zP xs ys (R.nA zs true xs.length ys.length) straight (R.starts (R.nA zs true xs.length ys.length) straight (R.nA zs true xs.length ys.length).length)
theorem tI(hm:X.mg x=some (.ref a))(hd:∀G,Den X.K G d (.ref a))(h:k d M)(hg:Gl X x:=by rfl)(hb:(x==("__debug__" : Str))=false:=by decide):GE X (.Name x pos) Γ M k:=
 λσ G H Q en rl q=>bL (mK (v := .ref a) hg hm rfl hb) (q _ G H d M (Stp.refl rl) (hd G) h)
noncomputable def al9(all:Bool)(r u:Int):Bool:=all||r*u==0
noncomputable def st9(all:Bool):List (Int×Int):=[(-1, -1),(-1,0),(-1,1),(0, -1),(0,0),(0,1),(1, -1),(1,0),(1,1)].filter λd=>al9 all d.1 d.2
noncomputable def l3:List Int:=[-1,0,1]
theorem aDJ{B:Bool}(h:GT X e Γ M λc M1=>c=B/\M1=M)(hk:kb B M):GT X e Γ M kb:=λσ G H Q en rl q=>h σ G H Q en rl λb G' H' M' s ⟨e1,e2⟩=>q b G' H' M' s (by rw[e1,e2];exact hk)
theorem uY:∀as:List Addr,Vals (as.map V.ref) (as.map yr)
 |[] => .nil
 |a::as => .cons rfl (uY as)
theorem pD{K:Fg}{as:List Addr}{sl:Array (Option Value)}(h:K.lookup a=some ⟨.type "tuple", od, .seq (as.map yr).toArray n,sl⟩)(hl:as.length<=100)(hd:Dens K G ds (as.map V.ref)):Den K G (.tup ds) (.ref a):=
 jI (vs:=as.map V.ref) (.inr ⟨_,_,_,h,rfl,rfl,(by rw[qc,zLm];exact R.aJ '#'),uY as⟩) hd
noncomputable def hls(xs ys:List D)(zs:List Str):List D:=zP xs ys (R.nA zs false xs.length ys.length) wI ((R.starts (R.nA zs false xs.length ys.length) wI (R.nA zs false xs.length ys.length).length).drop 1)
end Q
namespace HT
open PySem PySem.Spec PyProof.Rows
section
variable {E:Value->Shared->Prop}
end
end HT
namespace L2
open PySem PySem.Spec PyProof.Rows
section
end
end L2
namespace Z
open PySem L2
theorem jA{α:Type}(l:List α):cutD l (1).4 none=l.drop 1:=by
 unfold cutD
 have e1:HT.sIx l.length 0 (1).4=min 1 l.length:=HT.fZ l.length 0 1
 have e2:HT.sIx l.length l.length none=l.length:=rfl
 rw[e1,e2]
 by_cases h:1<=l.length
 ·rw[cz h,km (by rw[ku];exact qj _)]
 ·have:l=[]:=jm.mp '!'
  subst this;rfl
theorem zD{α:Type}(l:List α)(n:Nat):cutD l none (n:Int).4=l.take n:=by
 unfold cutD
 have e1:HT.sIx l.length 0 none=0:=rfl
 have e2:HT.sIx l.length l.length (n:Int).4=min n l.length:=HT.fZ l.length l.length n
 rw[e1,e2,dk,rd,List.take_eq_take_iff]
 omega
end Z
namespace Q
open PySem L2 Z
mutual
noncomputable def tameB:Nat->D->Bool
 |_, .non|_, .bl _=>true
 |_, .int i=>decide (i.natAbs<10^65)
 |_, .str z=>decide (z.length<=1000)
 |n+1, .tup ds=>decide (ds.length<=100)&&tamesB n ds
 |n+1, .lst ds=>decide (ds.length<=100)&&tamesB n ds
 |_,_=>false
noncomputable def tamesB:Nat->List D->Bool
 |_,[]=>true
 |n,d::ds=>tameB n d&&tamesB n ds
end
theorem tY:∀{ds:List D},tamesB n ds=true->∀x∈ds,tameB n x=true
 |[],_,_,h=>nomatch h
 |d::ds,h,x,hx=>by
  simp only[tamesB,qi] at h
  rcases qr.mp hx with rfl|hx
  ·exact h.1
  ·exact tY h.2 x hx
theorem wD:∀{ds:List D},(∀x∈ds,tameB n x=true)->tamesB n ds=true
 |[],_=>by simp only[tamesB]
 |d::ds,h=>by
  simp only[tamesB,qi]
  exact⟨h d jh,wD λx hx=>h x (qm _ hx)⟩
theorem iG(h:tameB n (.tup ds)=true):ds.length<=100/\∃m,n=m+1/\∀x∈ds,tameB m x=true:=by
 cases n with
 |zero=>simp[tameB] at h
 |succ m =>
  simp only[tameB,qi,decide_eq_true_eq] at h
  exact⟨h.1,m,rfl,tY h.2⟩
theorem pL(h1:ds.length<=100)(h2:∀x∈ds,tameB n x=true):tameB (n+1) (.tup ds)=true:=by
 simp only[tameB,qi,decide_eq_true_eq]
 exact⟨h1,wD h2⟩
mutual
theorem tame_ok:∀(n:Nat) (d:D),tameB n d=true->okD n d=true
 |_, .non,_=>by simp only[okD]
 |_, .bl _,_=>by simp only[okD]
 |_, .int _,_=>by simp only[okD]
 |_, .str _,_=>by simp only[okD]
 |n+1, .tup ds,h=>by
  simp only[tameB,qi] at h
  simp only[okD];exact tames_ok n ds h.2
 |n+1, .lst ds,h=>by
  simp only[tameB,qi] at h
  simp only[okD];exact tames_ok n ds h.2
 |0, .tup _,h=>by simp[tameB] at h
 |0, .lst _,h=>by simp[tameB] at h
 |_, .mt _,h=>by simp[tameB] at h
 |_, .fl _,h=>by simp[tameB] at h
 |_, .st _,h=>by simp[tameB] at h
theorem tames_ok:∀(n:Nat) (ds:List D),tamesB n ds=true->okDs n ds=true
 |_,[],_=>by simp only[okDs]
 |n,d::ds,h=>by
  simp only[tamesB,qi] at h
  simp only[okDs,tame_ok n d h.1,tames_ok n ds h.2,xh]
end
theorem iJ(h:tameB n d=true):Slv d:=by
 cases d <;> first|exact trivial|(exfalso;simp[tameB] at h)
theorem wO{i:Int}(h:tameB n (.int i)=true):i.natAbs<10^65:=by simpa[tameB] using h
theorem aFW{z:Str}(h:tameB n (.str z)=true):z.length<=1000:=by simpa[tameB] using h
mutual
theorem tame_up:∀(n:Nat) (d:D),tameB n d=true->tameB (n+1) d=true
 |_, .non,_=>by simp only[tameB]
 |_, .bl _,_=>by simp only[tameB]
 |_, .int _,h=>by simpa only[tameB] using h
 |_, .str _,h=>by simpa only[tameB] using h
 |n+1, .tup ds,h=>by
  simp only[tameB,qi] at h ⊢
  exact⟨h.1,tames_up n ds h.2⟩
 |n+1, .lst ds,h=>by
  simp only[tameB,qi] at h ⊢
  exact⟨h.1,tames_up n ds h.2⟩
 |0, .tup _,h=>by simp[tameB] at h
 |0, .lst _,h=>by simp[tameB] at h
 |_, .mt _,h=>by simp[tameB] at h
 |_, .fl _,h=>by simp[tameB] at h
 |_, .st _,h=>by simp[tameB] at h
theorem tames_up:∀(n:Nat) (ds:List D),tamesB n ds=true->tamesB (n+1) ds=true
 |_,[],_=>by simp only[tamesB]
 |n,d::ds,h=>by
  simp only[tamesB,qi] at h ⊢
  exact⟨tame_up n d h.1,tames_up n ds h.2⟩
end
theorem tT(ds:List D):isD "tuple" (.tup ds)=true:=rfl
theorem tL(ds:List D):isD "tuple" (.lst ds)=false:=rfl
theorem sS(z:Str):isD "str" (.str z)=true:=rfl
theorem iI(i:Int):isD "int" (.int i)=true:=rfl
theorem bI(i:Int):isD "bool" (.int i)=false:=rfl
theorem rV(d:D):(∃ls,d = .tup ls)\/(isD "tuple" d=false/\∀ls,d ≠ .tup ls):=by
 cases d with
 |tup ls=>exact .inl ⟨ls,rfl⟩
 |_=>exact .inr ⟨rfl,λ_ h=>nomatch h⟩
theorem aKM(d:D):(∃z,d = .str z)\/(isD "str" d=false/\∀z,d ≠ .str z):=by
 cases d with
 |str ls=>exact .inl ⟨ls,rfl⟩
 |_=>exact .inr ⟨rfl,λ_ h=>nomatch h⟩
noncomputable def isW:D->Bool
 |.int _=>true
 |_=>false
theorem vI(d:D):(∃i,d = .int i)\/(isW d=false/\(isD "int" d=false\/isD "int" d=true/\isD "bool" d=true)):=by
 cases d with
 |int i=>exact .inl ⟨i,rfl⟩
 |bl b=>exact .inr ⟨rfl, .inr ⟨rfl,rfl⟩⟩
 |_=>exact .inr ⟨rfl, .inl rfl⟩
noncomputable def gA:D->Bool
 |.tup [.int a, .int b]=>decide (1<=b)&&decide (ve a b=1)
 |_=>false
theorem lC:gA d=true↔∃p:Int×Int,d=pairD p/\1<=p.2/\ve p.1 p.2=1:=by
 constructor
 ·intro h
  unfold gA at h
  split at h
  ·rw[qi,decide_eq_true_eq,decide_eq_true_eq] at h
   exact⟨(_,_),rfl,h⟩
  ·cases h
 ·rintro⟨p,rfl,h1,h2⟩
  show (decide (1<=p.2)&&decide (ve p.1 p.2=1))=true
  rw[decide_eq_true h1,decide_eq_true h2];rfl
theorem pM(h:∀a b,d ≠ .tup [.int a, .int b]):gA d=false:=by
 cases e:gA d with
 |false=>rfl
 |true=>obtain⟨p,rfl,_⟩:=lC.mp e;exact absurd rfl (h p.1 p.2)
noncomputable def ltP(p q:Int×Int):Bool:=decide (p.1*q.2<q.1*p.2)
noncomputable def upP(ps:List (Int×Int)):Bool:=(qt (ps.length-1)).all λi=>ltP (ps.getD i (0,1)) (ps.getD (i+1) (0,1))
noncomputable def toP:D->Int×Int
 |.tup [.int a, .int b]=>(a,b)
 |_=>(0,1)
theorem uU(ps:List (Int×Int)):(ps.map pairD).map toP=ps:=by
 rw[xj]
 exact (vc λp _=>rfl).trans (Ji ps)
theorem oJ:∀{ls:List D},ls.all gA=true->∃ps:List (Int×Int),ls=ps.map pairD/\∀p∈ps,1<=p.2/\ve p.1 p.2=1
 |[],_=>⟨[],rfl,λp h=>(nomatch h)⟩
 |d::ls,h=>by
  rw[cm,qi] at h
  obtain⟨p,rfl,hp⟩:=lC.mp h.1
  obtain⟨ps,rfl,hps⟩:=oJ h.2
  exact⟨p::ps,rfl,λq hq=>by
   rcases qr.mp hq with rfl|hq
   ·exact hp
   ·exact hps q hq⟩
noncomputable def dQ:D->Bool
 |.tup ls=>ls.all gA&&upP (ls.map toP)
 |_=>false
theorem aEE(h:∀ls,d ≠ .tup ls):dQ d=false:=by
 cases d with
 |tup ls=>exact absurd rfl (h ls)
 |_=>rfl
noncomputable def fD(w:Nat):D->Bool
 |.str z=>decide (z.length=w)&&z.cps.toList.all λc=>c==35||c==46
 |_=>false
theorem aKE{w:Nat}(h:∀z,d ≠ .str z):fD w d=false:=by
 cases d with
 |str z=>exact absurd rfl (h z)
 |_=>rfl
theorem aF5{w:Nat}:fD w d=true↔∃z,d = .str z/\z.length=w/\∀c∈z.cps.toList,c=35\/c=46:=by
 constructor
 ·intro h
  cases d with
  |str z =>
   simp only[fD,qi,decide_eq_true_eq,jf,zv,beq_iff_eq] at h
   exact⟨z,rfl,h⟩
  |_=>cases h
 ·rintro⟨z,rfl,h1,h2⟩
  simp only[fD,qi,decide_eq_true_eq,jf,zv,beq_iff_eq]
  exact⟨h1,h2⟩
noncomputable def gB(rs:List D)(nx ny:Nat):Bool:=decide (rs.length=ny-1)&&rs.all (fD (nx-1))
noncomputable def toS:D->Str
 |.str z=>z
 |_=>ja
theorem all_rows{w:Nat}:∀{rs:List D},rs.all (fD w)=true->∃zs:List Str,rs=zs.map .str/\∀z∈zs,z.length=w/\∀c∈z.cps.toList,c=35\/c=46
 |[],_=>⟨[],rfl,λp h=>(nomatch h)⟩
 |d::ls,h=>by
  rw[cm,qi] at h
  obtain⟨z,rfl,hp⟩:=aF5.mp h.1
  obtain⟨ps,rfl,hps⟩:=all_rows h.2
  exact⟨z::ps,rfl,λq hq=>by
   rcases qr.mp hq with rfl|hq
   ·exact hp
   ·exact hps q hq⟩
theorem lD(zs:List Str):(zs.map D.str).map toS=zs:=by
 rw[xj]
 exact (vc λp _=>rfl).trans (Ji zs)
noncomputable def yard3(x y r:D):Bool:=match x,y,r with
 |.tup xs, .tup ys, .tup rs=>dQ (.tup xs)&&dQ (.tup ys)&&gB rs xs.length ys.length&&eqD (oA xs ys (rs.map toS)) (.tup [.tup xs, .tup ys, .tup rs])
 |_,_,_=>false
noncomputable def nM:D->Bool
 |.tup [x,y,r]=>yard3 x y r
 |_=>false
theorem aAF(h:∀x y r,d ≠ .tup [x,y,r]):nM d=false:=by
 unfold nM
 split
 ·exact absurd rfl (h _ _ _)
 ·rfl
theorem aHN{x y r:D}(h:∀ls,r ≠ .tup ls):yard3 x y r=false:=by
 unfold yard3
 split
 ·exact absurd rfl (h _)
 ·rfl
noncomputable def Sq2(t:Bool)(d:D)(ds:List D):Prop:=d=if t=true then .lst ds else .tup ds
noncomputable def aGF:Ct:=λds M k=>∃d,ds=[d]/\Slv d/\k (.bl (isW d)) M
noncomputable def aCD:Ct:=λds M k=>∃d n,ds=[d]/\tameB n d=true/\k (.bl (gA d)) M
noncomputable def aHF:Ct:=λds M k=>∃d n,ds=[d]/\tameB n d=true/\k (.bl (dQ d)) M
noncomputable def aJ0:Ct:=λds M k=>∃d n w,ds=[d, .int ((w:Nat):Int)]/\tameB n d=true/\k (.bl (fD w d)) M
noncomputable def aLX:Ct:=λds M k=>∃t dr dx dy rs xs ys n,ds=[dr,dx,dy]/\Sq2 t dr rs/\Sq2 t dx xs/\Sq2 t dy ys/\(∀r∈rs,tameB n r=true)/\rs.length<=100/\xs.length<=100/\ys.length<=100/\k (.bl (gB rs xs.length ys.length)) M
noncomputable def aEV:Ct:=λds M k=>∃(t:Bool) (r:D) (zs:List Str) (n j:Nat),ds=[r, .int (j:Int)]/\Sq2 t r (zs.map .str)/\zs.length<=1000/\n<=1000/\(∀z∈zs,z.length=n)/\j<n/\k (.str (R.ofL (zs.map (R.atS · j)))) M
noncomputable def aCF:Ct:=λds M k=>∃(t:Bool) (r:D) (zs:List Str) (n:Nat),ds=[r]/\Sq2 t r (zs.map .str)/\zs.length<=1000/\n<=1000/\(∀z∈zs,z.length=n)/\k (.lst ((R.aE zs).map .str)) M
noncomputable def aD6:Ct:=λds M k=>∃(t:Bool) (r:D) (zs:List Str) (n:Nat),ds=[r]/\Sq2 t r (zs.map .str)/\zs.length<=1000/\n<=1000/\(∀z∈zs,z.length=n)/\k (.lst (d8 (R.chg zs))) M
noncomputable def aEP:Ct:=λds M k=>∃(t:Bool) (dx dy dr:D) (xs ys:List D) (zs:List Str) (n:Nat),ds=[dx,dy,dr]/\Sq2 t dx xs/\Sq2 t dy ys/\Sq2 t dr (zs.map .str)/\zs.length<=900/\n<=900/\(∀z∈zs,z.length=n)/\(∀j∈R.chg (R.aE zs),j<xs.length)/\(∀j∈R.chg zs,j<ys.length)/\k (oA xs ys zs) M
noncomputable def aHS:Ct:=λds M k=>∃d n,ds=[d]/\tameB n d=true/\n<=10/\k (.bl (nM d)) M
theorem maxz0(n:Nat):(if 0>(n:Int)-1 then 0 else (n:Int)-1)=((n-1:Nat):Int):=by split <;> omega
theorem jV{α:Type}(f:α->Bool)(l:List α):(l.map f).all id=l.all f:=by rw[pj];rfl
theorem lA{K:Fg}(h:k (.bl (!(jz y x 0 y.length 1).isEmpty)) M):Op2 K (λx y H Q=>∃i j,x = .str i/\y = .str j/\Q (.bl (!(jz j i 0 j.length 1).isEmpty)) H) (.str x) (.str y) M k:=λG H v1 v2 Q rl e1 e2 q =>
 ⟨x,y,e1.str_,e2.str_,q _ _ _ _ _ (Stp.refl rl) cQ h⟩
theorem uW(h:dQ d=true):∃ps:List (Int×Int),d = .tup (ps.map pairD)/\upP ps=true/\∀p∈ps,1<=p.2/\ve p.1 p.2=1:=by
 cases d with
 |tup ls =>
  have h':(ls.all gA&&upP (ls.map toP))=true:=h
  rw[qi] at h'
  obtain⟨ps,rfl,hp⟩:=oJ h'.1
  rw[uU] at h'
  exact⟨ps,rfl,h'.2,hp⟩
 |_=>cases h
theorem qL{xs ys rs:List D}:yard3 (.tup xs) (.tup ys) (.tup rs)=(dQ (.tup xs)&&dQ (.tup ys)&&gB rs xs.length ys.length&&eqD (oA xs ys (rs.map toS)) (.tup [.tup xs, .tup ys, .tup rs])):=rfl
theorem aEW{x y r:D}(h:dQ x=false):yard3 x y r=false:=by
 unfold yard3
 split
 ·rw[h];rfl
 ·rfl
theorem aFK{x y r:D}(h:dQ y=false):yard3 x y r=false:=by
 unfold yard3
 split
 ·rw[h,dm];rfl
 ·rfl
theorem tf(b:Bool):b=false\/b=true:=by cases b <;> simp
theorem aI6{rs:List D}{nx ny:Nat}(h:gB rs nx ny=true):rs.length=ny-1/\rs.all (fD (nx-1))=true:=by
 unfold gB at h
 rw[qi,decide_eq_true_eq] at h
 exact h
theorem aAU{ps:List (Int×Int)}(h:i<ps.length):atI (ps.map pairD) (i:Int)=some (pairD (ps.getD i (0,1)))/\ps.getD i (0,1)∈ps:=by
 rw[zGd,zGe h]
 exact⟨dB (by rw[qk,zGe h];rfl),vh h⟩
theorem aBH{b:Bool}{P Q:Prop}(h:b=true)(p:P):if b=true then P else Q:=by rw[if_pos h];exact p
theorem vD{b:Bool}{P Q:Prop}(h:b=false)(p:Q):if b=true then P else Q:=by rw[if_neg (by rw[h];exact zBf)];exact p
theorem p6:R.chg []=[]:=by decide +kernel
theorem mG{ny:Nat}(h:zs.length=ny-1):∀j∈R.chg zs,j<ny:=λj hj=>by
 have:=R.eO zs j hj
 cases zs with
 |nil=>rw[p6] at hj;cases hj
 |cons z zr=>rw[qf] at h this;omega
theorem mF{nx:Nat}(h:∀z∈zs,z.length=nx-1):∀j∈R.chg (R.aE zs),j<nx:=λj hj=>by
 have h1:=(R.qN h).1
 have:=R.eO _ j hj
 cases hc:R.aE zs with
 |nil=>rw[hc,p6] at hj;cases hj
 |cons z zr=>rw[hc] at h1 this;rw[qf] at h1 this;omega
theorem nE{xs ys:List D}(zs:List Str)(hx:∀x∈xs,okD 1 x=true)(hy:∀y∈ys,okD 1 y=true):okD 3 (pH xs ys zs)=true:=by
 have o1:=mZ hx
 have o2:=mZ hy
 have o3:okDs 1 (zs.map D.str)=true:=mZ λd hd=>by obtain⟨z,_,rfl⟩:=qu.mp hd;rfl
 simp only[pH,okD,okDs,o1,o2,o3,xh]
theorem xP(ps:List (Int×Int)):∀x∈ps.map pairD,okD 1 x=true:=λx hx=>by
 obtain⟨p,_,rfl⟩:=qu.mp hx;rfl
theorem aJB(ps qs:List (Int×Int))(zs:List Str):okD 3 (pH (ps.map pairD) (qs.map pairD) zs)=true:=nE zs (xP ps) (xP qs)
theorem aAQ(ps:List (Int×Int))(js:List Nat):∀x∈kB (ps.map pairD) js,okD 1 x=true:=λx hx=>by
 obtain⟨j,_,rfl⟩:=qu.mp hx
 rw[zGd,qk]
 cases ps[j]? <;> rfl
theorem aFC(ps qs:List (Int×Int))(zs:List Str):okD 3 (oA (ps.map pairD) (qs.map pairD) zs)=true:=nE _ (aAQ ps _) (aAQ qs _)
end Q
namespace Z
open PySem L2 PySem.Spec PyProof.Rows
section
variable {K:Fg}{es:List D}
end
end Z
namespace Q
open PySem L2 Z
theorem aE7{α:Type}(l:List α)(n:Nat):cutD l ((n:Int)+1).4 none=l.drop (n+1):=by
 unfold cutD
 have e1:HT.sIx l.length 0 ((n:Int)+1).4=min (n+1) l.length:=HT.fZ l.length 0 (n+1)
 have e2:HT.sIx l.length l.length none=l.length:=rfl
 rw[e1,e2]
 by_cases h:n+1<=l.length
 ·rw[cz h,km (by rw[ku];exact qj _)]
 ·rw[sr '!',K5,Kg,QK '!']
theorem aJA{α:Type}(l:List α)(a b:Option Int):(cutD l a b).length<=l.length:=by
 unfold cutD
 rw[xn,ku];omega
structure TT(n:Nat)(xs:List D):Prop where
 len:xs.length<=n
 each:∀x∈xs,tameB 2 x=true
theorem aFF(z:Str)(a b:Option Int):(dI z a b).length<=z.length:=by
 show (jH z.cps.toList a b).toArray.size<=z.cps.size
 rw[qc,<- qa]
 exact aJA z.cps.toList a b
theorem aB3{z:Str}(h:z.length<=1000):tameB n (.str z)=true:=by cases n <;> simpa only[tameB,decide_eq_true_eq] using h
theorem two{x y:D}(hx:tameB n x=true)(hy:tameB n y=true):∀d∈[x,y],tameB n d=true:=λd hd=>by
 simp only[qr,rh,or_false] at hd
 rcases hd with rfl|rfl <;> assumption
end Q
namespace Z
open PySem L2
end Z
namespace Q
open PySem L2 Z
theorem aKY{nx ny:Nat}(h:zs.length=ny-1)(hz:∀z∈zs,z.length=nx-1):gB (zs.map .str) nx ny=zs.all λz=>z.cps.toList.all R.sgn:=by
 unfold gB
 rw[zLm,decide_eq_true h,nh,pj]
 rw[xx,jf,jf]
 constructor
 ·intro a z hz'
  have:=a z hz'
  simp only[JL,fD,qi] at this
  exact this.2
 ·intro a z hz'
  simp only[JL,fD,qi]
  exact⟨decide_eq_true (hz z hz'),a z hz'⟩
theorem aFQ(zs:List Str){b:Nat}(h:∀z∈zs,z.length<=b):(zs.map (·.length)).sum<=zs.length*b:=by
 induction zs with
 |nil=>simp
 |cons z zr ih =>
  rw[jw,wz,qf,rb]
  have:=ih λy hy=>h y (qm _ hy)
  have:=h z jh
  lia
noncomputable def sc(c:Nat)(l:List Nat):Int:=(l.map λn=>if decide (n=c)=true then (1:Int) else 0).sum
theorem aA2:nM (.tup [.tup [], .tup [], .tup []])=true:=by decide +kernel
end Q
namespace HD
open PySem PySem.Spec PyProof.Rows
section
variable {K:Type}[DecidableEq K]{knd:Kl prog w K}{E:Value->Shared->Prop}{d:Addr}{xs:List (K×Addr×Value)}{k:K}
end
end HD
namespace HD
open PySem PySem.Spec PyProof.Rows
section
variable {K:Type}[DecidableEq K]{knd:Kl prog w K}{E:Value->Shared->Prop}{o:Addr}{ys:List (K×Addr×Value)}
end
end HD
namespace HD
open PySem PySem.Spec PyProof.Rows
section
variable {E:Value->Shared->Prop}{d o:Addr}{od oo:Obj}{es eo:Array DictEntry}{e2:Nat}
end
end HD
namespace Z
open PySem L2
section
end
end Z
namespace Z
open PySem L2
end Z
namespace HD
open PySem PySem.Spec PyProof.Rows
end HD
namespace Z
open PySem L2
end Z
namespace HT
open PySem PyProof.Rows
section
open PySem.SeqAt
open PySem.AutoSeq1 (wpAny_loadPart')
open PySem.MeetsSeq PySem.MeetsSeq2 PySem.MeetsSeq3
end
end HT
namespace Z
open PySem L2
section
variable {F:Fin}{body:List Stmt}
end
end Z
namespace Z
open PySem L2
noncomputable def tk(M:Mem)(b:Addr):Bool:=match M b with
 |some '&'=>true
 |_=>false
noncomputable def aLR(G H:Hp)(M:Mem):Hp:=λb=>if tk M b=true then H b else G b
noncomputable def oQ(G1:Hp)(M:Mem):Hp:=λb=>if tk M b=true then none else G1 b
mutual
noncomputable def noL:D->Bool
 |.non|.bl _|.int _|.str _=>true
 |.tup ds=>noLs ds
 |_=>false
noncomputable def noLs:List D->Bool
 |[]=>true
 |d::ds=>noL d&&noLs ds
end
section
variable {K:Fg}{G1:Hp}
theorem aA7{vs:List V}(hl:∀b,tk M b=true->∃ws,G1 b=some (.lst ws))(h:SqT K G1 a vs):SqT K (oQ G1 M) a vs:=by
 rcases h with h|h
 ·refine .inl ?_
  have ne:¬tk M a=true:=λt=>by
   obtain⟨ws,e⟩:=hl a t
   rcases h with h|⟨o,h⟩ <;> rw[e] at h <;> cases h
  have e:oQ G1 M a=G1 a:=by unfold oQ;rw[if_neg ne]
  rcases h with h|⟨o,h⟩
  ·exact .inl (e.trans h)
  ·exact .inr ⟨o,e.trans h⟩
 ·exact .inr h
mutual
theorem den_strip(hl:∀b,tk M b=true->∃ws,G1 b=some (.lst ws)):∀(d:D) {v:V},noL d=true->Den K G1 d v->Den K (oQ G1 M) d v
 |.non,_,_,h=>by simp only[Den] at h ⊢;exact h
 |.bl _,_,_,h=>by simp only[Den] at h ⊢;exact h
 |.int _,_,_,h=>by simp only[Den] at h ⊢;exact h
 |.str _,_,_,h=>by simp only[Den] at h ⊢;exact h
 |.tup ds,_,n,h=>by
  simp only[noL] at n
  simp only[Den] at h ⊢
  obtain⟨a,vs,e,q,r⟩:=h
  exact⟨a,vs,e,aA7 hl q,dens_strip hl ds n r⟩
 |.mt _,_,n,_=>by simp[noL] at n
 |.lst _,_,n,_=>by simp[noL] at n
 |.fl _,_,n,_=>by simp[noL] at n
 |.st _,_,n,_=>by simp[noL] at n
theorem dens_strip(hl:∀b,tk M b=true->∃ws,G1 b=some (.lst ws)):∀(ds:List D) {vs:List V},noLs ds=true->Dens K G1 ds vs->Dens K (oQ G1 M) ds vs
 |[],_,_,h=>by simp only[Dens] at h ⊢;exact h
 |d::ds,_,n,h=>by
  simp only[noLs,qi] at n
  simp only[Dens] at h ⊢
  obtain⟨v,r,e,h1,h2⟩:=h
  exact⟨v,r,e,den_strip hl d n.1 h1,dens_strip hl ds n.2 h2⟩
end
end
noncomputable def Ln(M:Mem)(d d':D):Prop:=∀K G H v,Rel K G H M->Den K G d v->Den K (aLR G H M) d' v
inductive LnE(M:Mem):Gm->Gm->Prop
 |n:LnE M [] []
 |s {o:Option D}{Γ Γ':Gm} (r:LnE M Γ Γ'):LnE M (o::Γ) (none::Γ')
 |c {d d':D}{Γ Γ':Gm} (h:Ln M d d') (r:LnE M Γ Γ'):LnE M (some d::Γ) (some d'::Γ')
section
variable {Γ':Gm}{d0:D}{b0:Bool}
end
end Z
namespace R
open PySem L2
theorem still(hz:zs≠[]){a b:Nat}(hab:a<=b)(hb:b<=zs.length+1)(hn:∀c∈chg zs,¬(a<=c/\c<b)):(framed zs)[a]?=(framed zs)[b]?:=by
 refine jt λq => ?_
 obtain⟨k,h1,h2,h3⟩:=i0 (λi=>(framed zs)[i]?) (b-a) a (by rw[show a+(b-a)=b by lia];exact q)
 exact hn k ((dX hz).mpr ⟨by lia,h3⟩) ⟨h1,by lia⟩
theorem o6{c d:Nat}(hi:(chg zs)[i]?=some c)(hj:(chg zs)[j]?=some d)(h:i<j):c<d:=by
 obtain⟨h1,e1⟩:=zGs hi
 obtain⟨h2,e2⟩:=zGs hj
 have:=zh.mp (cC zs) i j h1 h2 h
 rw[e1,e2] at this;exact this
theorem xT{c d e:Nat}(hi:(chg zs)[i]?=some c)(hj:(chg zs)[i+1]?=some d)(he:e∈chg zs)(h:c<e):d<=e:=by
 obtain⟨k,hk,ek⟩:=kj he
 have ek':(chg zs)[k]?=some e:=by rw[zGe hk,ek]
 by_cases h1:k<=i
 ·by_cases h2:k=i
  ·subst h2;rw[hi] at ek';cases ek';lia
  ·have:=o6 ek' hi '#';lia
 ·by_cases h2:k=i+1
  ·subst h2;rw[hj] at ek';cases ek';lia
  ·have:=o6 hj ek' '#';lia
theorem uT{c e:Nat}(hi:(chg zs)[0]?=some c)(he:e∈chg zs):c<=e:=by
 obtain⟨k,hk,ek⟩:=kj he
 have ek':(chg zs)[k]?=some e:=by rw[zGe hk,ek]
 by_cases h:k=0
 ·subst h;rw[hi] at ek';cases ek';lia
 ·have:=o6 hi ek' '#';lia
theorem aD5{c e:Nat}(hi:(chg zs)[(chg zs).length-1]?=some c)(he:e∈chg zs):e<=c:=by
 obtain⟨k,hk,ek⟩:=kj he
 have ek':(chg zs)[k]?=some e:=by rw[zGe hk,ek]
 by_cases h:k=(chg zs).length-1
 ·subst h;rw[hi] at ek';cases ek';lia
 ·have:=o6 ek' hi '#';lia
theorem xZ{c:Nat}(hi:(chg zs)[i]?=some c)(h:i+1<(chg zs).length):(aM zs)[i]?=zs[c]?/\c<zs.length:=by
 have hd:(chg zs).dropLast[i]?=some c:=by rw[gk,if_pos '#'];exact hi
 have hl:=jF (cC zs) (eO zs) c (zMo hd)
 unfold aM
 rw[qk,hd,vp,zGd,zGe hl]
 exact⟨rfl,hl⟩
theorem vV(h:∀z∈zs,z.length=n)(hr:aM zs≠[]):chg (aM zs)=qt (chg zs).length:=by
 have hc:chg zs≠[]:=λe=>hr (by unfold aM;rw[e];rfl)
 have hz:zs≠[]:=p6 zs hc
 have hkl:=eY zs
 have hk1:1<=(aM zs).length:=ju.mpr hr
 have hK:∀z∈aM zs,z.length=n:=λz hz=>h z (jQ z hz)
 have w1:=bP h hz
 have w2:=bP hK hr
 have f0:=eB zs
 have fl:=cS zs
 have g0:=eB (aM zs)
 have gl:=cS (aM zs)
 rw[w1] at f0 fl
 rw[w2] at g0 gl
 have A:∀i c,(chg zs)[i]?=some c->(framed (aM zs))[i]?=(framed zs)[c]?:=λi c hi=>by
  have hil:=(zGs hi).1
  have hcl:=eO zs c (zMo hi)
  cases i with
  |zero =>
   rw[g0,<- f0]
   exact still hz (vy _) '#' λe he z=>by have:=uT hi he;lia
  |succ i =>
   obtain⟨b,hb⟩:∃b,(chg zs)[i]?=some b:=⟨(chg zs)[i],zGe '#'⟩
   obtain⟨k1,k2⟩:=xZ hb '#'
   have lt:=o6 hb hi (Nat.lt_succ_self i)
   rw[bG '#',k1,<- bG k2]
   exact still hz '#' '#' λe he z=>by have:=xT hb hi he '#';lia
 have B:∀i c,(chg zs)[i]?=some c->(framed (aM zs))[i+1]?=(framed zs)[c+1]?:=λi c hi=>by
  have hil:=(zGs hi).1
  have hcl:=eO zs c (zMo hi)
  by_cases hlast:i+1<(chg zs).length
  ·obtain⟨k1,k2⟩:=xZ hi hlast
   rw[bG '#',k1,<- bG k2]
  ·have ei:i=(chg zs).length-1:=by lia
   rw[show i+1=(aM zs).length+1 by lia,gl,<- fl]
   exact (still hz '#' (qj _) λe he z=>by have:=aD5 (ei▸hi) he;lia).symm
 have:chg (aM zs)=(qt ((aM zs).length+1)).filter λi => !decide ((framed (aM zs))[i]?=(framed (aM zs))[i+1]?):=by
  unfold chg
  rw[if_neg (by rw[rj];exact hr)]
 rw[this,show (aM zs).length+1=(chg zs).length by lia]
 refine mn.mpr λi hi => ?_
 have hil:=kh.mp hi
 have hi':(chg zs)[i]?=some (chg zs)[i]:=zGe hil
 have hne:=((dX hz).mp (zMo hi')).2
 rw[<- A i _ hi',<- B i _ hi'] at hne
 rw[decide_eq_false hne];rfl
theorem lW(h:∀z∈zs,z.length=n)(hz:zs≠[])(hn:0<n):aE (aE zs)=zs:=by
 have hc:(aE zs).length=n:=bH h hz
 have hcn:aE zs≠[]:=λe=>by rw[e] at hc;simp at hc;lia
 have hce:∀z∈aE zs,z.length=zs.length:=λz hz=>eP z hz
 have hzl:0<zs.length:=ju.mpr hz
 have hcc:=bH hce hcn
 apply vj
 intro i
 by_cases hi:i<zs.length
 ·rw[f9 hce hcn hi,zGe hi]
  congr 1
  apply f8
  show (aE zs).map (atS · i)=zs[i].cps.toList
  apply vj
  intro j
  have hl:=h zs[i] (vh hi)
  by_cases hj:j<n
  ·rw[qk,f9 h hz hj,vp,dJ '#',kR,zGd,qk,zGe hi]
   rfl
  ·rw[qv (by rw[zLm];lia),qv (by rw[qa];have:zs[i].cps.size=zs[i].length:=rfl;lia)]
 ·rw[qv '#',qv '#']
theorem aBQ(h:Good n zs)(hr:aM zs≠[]):
  chg (bZ zs)=qt (chg zs).length/\chg (aE (bZ zs))=qt (chg (aE zs)).length/\bZ zs≠[]/\Good ((chg (aE zs)).length-1) (bZ zs)/\2<=(chg (aE zs)).length/\2<=(chg zs).length:=by
 have hl:∀z∈zs,z.length=n:=λz hz=>(h z hz).1
 have gR:=i9 h
 have hR:∀z∈aM zs,z.length=n:=λz hz=>(gR z hz).1
 obtain⟨z0,hz0,hd0⟩:=qB hl hr
 obtain⟨j0,hj0,_⟩:=qF gR hz0 hd0
 have hn:0<n:=by lia
 have eR:=vV hl hr
 have eC:=pB hl hr
 have gC:=iQ gR
 have hC:∀z∈aE (aM zs),z.length=(aM zs).length:=λz hz=>(gC z hz).1
 have cne:aE (aM zs)≠[]:=λe=>by have:=bH hR hr;rw[e] at this;simp at this;lia
 have kne:aM (aE (aM zs))≠[]:=λe=>by
  have h1:=(uM hC e).2
  rw[lW hR hr hn,eR] at h1
  have h2:(chg zs).length=0:=by simpa using congrArg xu h1
  have:=eY zs
  exact hr (jm.mp '#')
 have eK:=vV hC kne
 have gK:=i9 gC
 have hK:∀z∈aM (aE (aM zs)),z.length=(aM zs).length:=λz hz=>(gK z hz).1
 have rl:0<(aM zs).length:=ju.mpr hr
 have e1:=pB hC kne
 rw[lW hR hr hn,eR,pC h hr] at e1
 have e2:aE (bZ zs)=aM (aE (aM zs)):=by rw[<- pC h hr];exact lW hK kne rl
 have kl:=eY (aE (aM zs))
 have kp:0<(aM (aE (aM zs))).length:=ju.mpr kne
 have kz:=eY zs
 rw[eC] at kl
 refine⟨e1,by rw[e2,eK,eC],λe => ?_,?_,by lia,by lia⟩
 ·rw[e] at e1
  have h2:=congrArg xu e1
  rw[bj,show (chg ([]:List Str)).length=0 from rfl] at h2
  lia
 ·rw[<- pC h hr]
  have:=iQ gK
  rw[kl] at this
  exact this
theorem zG{r c d:Nat}(hj:j<zs.length)(h1:(chg zs)[r]?=some c)(h2:(chg zs)[r+1]?=some d)(hc:c<=j)(hd:j<d):zs[j]?=zs[c]?:=by
 have hz:zs≠[]:=λe=>by rw[e] at hj;simp at hj
 rw[<- bG hj,<- bG (show c<zs.length by lia)]
 exact (still hz '#' '#' λe he z=>by have:=xT h1 h2 he '#';lia).symm
theorem xS(h:∀z∈zs,z.length=n)(hj:j<zs.length)(hn:∀r c d,(chg zs)[r]?=some c->(chg zs)[r+1]?=some d->¬(c<=j/\j<d)):zs[j]?=some (dots n):=by
 have hz:zs≠[]:=λe=>by rw[e] at hj;simp at hj
 have w:=bP h hz
 have f0:=eB zs
 have fl:=cS zs
 rw[w] at f0 fl
 rw[<- bG hj]
 by_cases hall:∀e∈chg zs,j<e
 ·rw[<- f0]
  exact (still hz (vy _) '#' λe he z=>by have:=hall e he;lia).symm
 ·have h0:∀(r c:Nat),(chg zs)[r]?=some c->c<=j:=λr=>by
   induction r with
   |zero =>
    intro c hc
    refine jt λq=>hall λe he => ?_
    have:=uT hc he;lia
   |succ r ih =>
    intro d hd
    have hr:=(zGs hd).1
    have hc:(chg zs)[r]?=some (chg zs)[r]:=zGe '#'
    have:=hn r _ d hc hd
    have:=ih _ hc
    lia
  rw[<- fl]
  refine still hz '#' (qj _) λe he z => ?_
  obtain⟨k,hk,ek⟩:=kj he
  have:=h0 k e (by rw[zGe hk,ek])
  lia
theorem aH2{r c:Nat}(hr:(chg zs)[r]?=some i)(hr1:r+1<(chg zs).length)(hc:(chg (aE zs))[c]?=some j)(hc1:c+1<(chg (aE zs)).length){z:Str}(hz:zs[i]?=some z):∃y,(bZ zs)[r]?=some y/\atS y c=atS z j:=by
 have d1:(chg zs).dropLast[r]?=some i:=by rw[gk,if_pos '#'];exact hr
 have d2:(chg (aE zs)).dropLast[c]?=some j:=by rw[gk,if_pos '#'];exact hc
 unfold bZ
 rw[qk,d1]
 refine⟨_,rfl,?_⟩
 rw[kR,zGd,qk,d2,zGd,hz]
 rfl
theorem aK0(h:∀z∈zs,z.length=n){c k d:Nat}(hk:k<n)(h1:(chg (aE zs))[c]?=some i)(h2:(chg (aE zs))[c+1]?=some d)(hc:i<=k)(hd:k<d):∀z∈zs,atS z k=atS z i:=λz hz=>by
 have hne:zs≠[]:=λe=>by rw[e] at hz;cases hz
 have hl:=bH h hne
 have:=zG (zs:=aE zs) '#' h1 h2 hc hd
 rw[f9 h hne hk,f9 h hne '#'] at this
 exact sU.mp this z hz
theorem aJG(h:∀z∈zs,z.length=n){k:Nat}(hk:k<n)(hn:∀r c d,(chg (aE zs))[r]?=some c->(chg (aE zs))[r+1]?=some d->¬(c<=k/\k<d)):∀z∈zs,atS z k=46:=λz hz=>by
 have hne:zs≠[]:=λe=>by rw[e] at hz;cases hz
 have hl:=bH h hne
 have:=xS (zs:=aE zs) (λz hz=>eP z hz) (j:=k) '#' hn
 rw[f9 h hne hk] at this
 have e:ofL (zs.map (atS · k))=dots zs.length:=by injection this
 obtain⟨i,hi,rfl⟩:=kj hz
 have e2:=congrArg (λs=>atS s i) e
 simp only[kR,kI,if_pos hi] at e2
 rw[zGd,qk,zGe hi] at e2
 exact e2
end R
namespace Z
open PySem L2
section
variable {a:Expr}
theorem wY{n:Int}{t:Tok}(hm:X.mg x=some (.int n t))(h:k (.int n) M)(hg:Gl X x:=by rfl)(hb:(x==("__debug__" : Str))=false:=by decide):GE X (.Name x pos) Γ M k:=
 λσ G H Q en rl q=>bL (mK (v := .int n) hg hm ⟨t,rfl⟩ hb) (q _ G H _ M (Stp.refl rl) cY h)
theorem aEN{op op':VG}{r r':R2}(ho:OpR X (xf op) r)(ho':OpR X (xf op') r')(h:GE X a Γ M λd1 M1=>GE X b Γ M1 λd2 M2=>Op2 X.K r d1 d2 M2 λe M3=>∃t,e = .bl t/\if t=true then GE X c Γ M3 λd3 M4=>Op2 X.K r' d2 d3 M4 k else k (.bl false) M3)(hm:lastMarks [op,op'] [b,c]=false:=by with_unfolding_all rfl):GE X (.Compare a [op,op'] [b,c] pos) Γ M k:=λσ G H Q en rl q=>by
 refine bL (aFA ho ho' pU pU pU hm) ?_
 refine h σ G H _ en rl λv1 G1 H1 d1 M1 s1 e1 h1 => ?_
 refine h1 σ G1 H1 _ (en.up s1.gg) s1.rel λv2 G2 H2 d2 M2 s2 e2 h2 => ?_
 refine h2 G2 H2 v1 v2 _ s2.rel (e1.up s2.gg) e2 λz G3 H3 d3 M3 s3 e3 ⟨t,ed,h3⟩ => ?_
 subst ed
 have s13:=(s1.trans s2).trans s3
 refine⟨t,e3.bl_,?_⟩
 cases t with
 |true =>
  rw[if_pos rfl] at h3 ⊢
  refine h3 σ G3 H3 _ (en.up s13.gg) s3.rel λw G4 H4 d4 M4 s4 e4 h4 => ?_
  exact h4 G4 H4 v2 w Q s4.rel (e2.up (s3.trans s4).gg) e4 (q.up (s13.trans s4))
 |false =>
  rw[if_neg zBf] at h3 ⊢
  exact q _ _ _ _ _ s13 cQ h3
end
end Z
namespace Q
open PySem L2 Z
noncomputable def p1(x:Int):Int×Int:=(x,1)
structure Up7(xs:List Int):Prop where
 up:xs.Pairwise (· < ·)
 few:xs.length<=7
 bd:∀x∈xs, -1000000000<=x/\x<=1000000000
noncomputable def dv(a b:Int):Int:=if b<0 then -((ve a b:Nat):Int) else ((ve a b:Nat):Int)
theorem aF6(h:R.Good n zs):(zs.all λz=>z.cps.toList.all R.sgn)=true:=jf.mpr λz hz=>(h z hz).2
theorem rD{α:Type}(l:List α)(d:α):(qt l.length).map (λj=>l.getD j d)=l:=by
 apply vj
 intro i
 by_cases h:i<l.length
 ·rw[qk,yg h,vp,zGd,zGe h];rfl
 ·rw[qv (by simp;lia),qv '#']
theorem mV(n:Nat):(qt n).dropLast=qt (n-1):=by
 cases n with
 |zero=>rfl
 |succ n=>rw[zt,List.dropLast_concat];rfl
theorem aED{K:List Str}{a b:Nat}(t1:R.chg K=qt a)(t2:R.chg (R.aE K)=qt b)(t4:R.Good (b-1) K)(hkl:K.length=a-1):R.bZ K=K:=by
 unfold R.bZ
 rw[t1,t2,mV,mV,<- hkl]
 apply vj
 intro i
 by_cases h:i<K.length
 ·rw[qk,yg h,vp,zGd,zGe h]
  have hl:=(t4 K[i] (vh h)).1
  congr 1
  apply f8
  show (qt _).map (R.atS K[i])=K[i].cps.toList
  apply vj
  intro j
  by_cases hj:j<b-1
  ·rw[qk,yg hj,R.dJ '#'];rfl
  ·rw[qv (by simp;lia),qv (by rw[qa];have:K[i].cps.size=K[i].length:=rfl;lia)]
 ·rw[qv (by simp;lia),qv '#']
theorem qT{xs:List Int}(h:xs.Pairwise (· < ·))(hij:i<=j)(hj:j<xs.length):xs.getD i 0<=xs.getD j 0:=by
 rw[zGd,zGd,zGe (show i<xs.length by lia),zGe hj]
 by_cases e:i=j
 ·subst e;exact Int.le_refl _
 ·exact Int.le_of_lt (zh.mp h i j '#' hj '#')
theorem nY{xs:List Int}(h:xs.Pairwise (· < ·))(hij:i<j)(hj:j<xs.length):xs.getD i 0<xs.getD j 0:=by
 rw[zGd,zGd,zGe (show i<xs.length by lia),zGe hj]
 exact zh.mp h i j '#' hj '#'
theorem aA8{a:Nat}{K:List Str}(g:R.Good n K)(hK:K≠[])(t:R.chg K=qt a)(ha:K.length+1=a):(∀i u v,K[i]?=some u->K[i+1]?=some v->u≠v)/\(∀z,K.head?=some z->35∈z.cps.toList)/\(∀z,K.getLast?=some z->35∈z.cps.toList):=by
 have hl:∀z∈K,z.length=n:=λz hz=>(g z hz).1
 have hk:0<K.length:=ju.mpr hK
 have w:=R.bP hl hK
 have f0:=R.eB K
 have fl:=R.cS K
 rw[w] at f0 fl
 have hch:∀i,i<=K.length->(R.framed K)[i]?≠(R.framed K)[i+1]?:=λi hi=>((R.dX hK).mp (by rw[t];exact kh.mpr '#')).2
 have has:∀z∈K,z≠R.dots n->35∈z.cps.toList:=λz hz hd=>by
  obtain⟨j,hj,e⟩:=R.qF g hz hd
  rw[<- e]
  exact zMo (R.dJ (by rw[hl z hz];exact hj))
 refine⟨λi u v h1 h2 e => ?_,λz hz => ?_,λz hz => ?_⟩
 ·have h3:=(zGs h2).1
  have:=hch (i+1) '#'
  rw[R.bG '#',R.bG h3,h1,h2,e] at this
  exact this rfl
 ·have h0:K[0]?=some z:=by rw[<- QH];exact hz
  refine has z (zMo h0) λe => ?_
  have:=hch 0 '#'
  rw[f0,R.bG hk,h0,e] at this
  exact this rfl
 ·have h0:K[K.length-1]?=some z:=by rw[<- Qn];exact hz
  refine has z (zMo h0) λe => ?_
  have:=hch K.length (qj _)
  rw[fl,show K.length=K.length-1+1 by lia,R.bG '#',h0,e] at this
  exact this rfl
end Q
namespace L2
open PySem PySem.Spec PyProof.Rows Builtin Builtin.Str
section
noncomputable def aGS:List V->Hp->VK->Prop:=λxs H Q=>∃i,xs=[.int i]/\i.natAbs.log2<1920/\Q (.str (PySem.Str.ofString (toString i))) H
theorem iL:dS X (.type "str") aGS:=by
 intro pins s σ H xs us Q I r h
 obtain⟨i,rfl,hi,q⟩:=h
 obtain⟨u,rfl,t,rfl⟩:=vals1 r
 exact PySem.P.str_of_int hi ⟨.str _,H,I.tok _,⟨_,rfl⟩,q⟩
noncomputable def aGT:List V->Hp->VK->Prop:=λxs H Q=>∃x n,xs=[.str x]/\yk x=some n/\x.length<=640/\Q (.int n) H
theorem fN:dS X (.type "int") aGT:=by
 intro pins s σ H xs us Q I r h
 obtain⟨x,n,rfl,hn,hl,q⟩:=h
 obtain⟨u,rfl,t,rfl⟩:=vals1 r
 exact VU hn hl ⟨.int n,H,I.tok _,⟨_,rfl⟩,q⟩
noncomputable def zK:V->List V->Hp->VK->Prop:=λx vs H Q=>∃z y,x = .str z/\vs=[.str y]/\Q (.bl (yl z y)) H
theorem aB5:MtR X "str.startswith" zK:=by
 intro pins s σ H x vs v us Q I rx rv h
 obtain⟨z,y,rfl,rfl,q⟩:=h
 obtain⟨t,rfl⟩:=rx
 obtain⟨u,rfl,t2,rfl⟩:=vals1 rv
 exact SC.startswith ⟨.bl _,H,I,rfl,q⟩
noncomputable def cV(z y:v9):v9×v9×v9:=match occurrences z y 0 z.length 1 with
 |i::_=>(strSub z 0 i,y,strSub z (i+y.length) z.length)
 |[]=>(z,Q7,Q7)
noncomputable def aGM:V->List V->Hp->VK->Prop:=λx vs H Q=>∃z y,x = .str z/\vs=[.str y]/\(y.length==0)=false/\z.length<=sizeLine/\∀p,H p=none->Q (.ref p) (upd H p (.tup [.str (cV z y).1, .str (cV z y).2.1, .str (cV z y).2.2]))
theorem tE:MtR X "str.partition" aGM:=by
 intro pins s σ H x vs v us Q I rx rv h
 obtain⟨z,y,rfl,rfl,hy,hz,q⟩:=h
 obtain⟨t,rfl⟩:=rx
 obtain⟨u,rfl,t2,rfl⟩:=vals1 rv
 refine gp yu (typeIs_str _ _ _) PySem.F.entry_str_partition (PySem.F.args_str_partition_2 _ _) (meets_str_partition z y t t2 hy hz) ?_
 unfold cV at q
 cases ho:occurrences z y 0 z.length 1 with
 |nil =>
  rw[ho] at q
  refine⟨.ref s.heap.objs.size,_,I.laid (t':=s.toks+1) (λb ob e=>qh _ e) (qj _) ?_,rfl,q _ (I.hok.fresh (qj _))⟩
  exact⟨(show 3<=sizeLine by decide),_, .cons ⟨_,rfl⟩ (.cons ⟨_,rfl⟩ (.cons ⟨_,rfl⟩ .nil)),_,jd _ rfl,rfl,_,rfl⟩
 |cons i r =>
  rw[ho] at q
  refine⟨.ref s.heap.objs.size,_,I.laid (t':=s.toks+1+1) (λb ob e=>qh _ e) (qj _) ?_,rfl,q _ (I.hok.fresh (qj _))⟩
  exact⟨(show 3<=sizeLine by decide),_, .cons ⟨_,rfl⟩ (.cons ⟨_,rfl⟩ (.cons ⟨_,rfl⟩ .nil)),_,jd _ rfl,rfl,_,rfl⟩
theorem oD:∀(ps:List v9) (tk:Nat),Vals (ps.map V.str) (strsFrom tk ps)
 |[],_ => .nil
 |p::ps,tk => .cons ⟨_,rfl⟩ (oD ps (tk+1))
noncomputable def aK8:V->List V->Hp->VK->Prop:=λx vs H Q=>∃(z:v9) (c:Nat),x = .str z/\vs=[.str ⟨#[c]⟩]/\c<256/\c∈z.cps.toList/\z.length<=100000/\∀p,H p=none->Q (.ref p) (upd H p (.lst ((yx z ⟨#[c]⟩).map V.str)))
theorem aFO:MtR X "str.split" aK8:=by
 intro pins s σ H x vs v us Q I rx rv h
 obtain⟨z,c,rfl,rfl,hc,hm,hz,q⟩:=h
 obtain⟨t,rfl⟩:=rx
 obtain⟨u,rfl,t2,rfl⟩:=vals1 rv
 obtain⟨j,hj⟩:=y9 hm
 have hA:=(Q3 z c j).mpr hj
 have h1:(decide (z.length<(⟨#[c]⟩:v9).length)||decide (wc z<wc ⟨#[c]⟩))=false:=by
  have k1:wc ⟨#[c]⟩=1:=by
   unfold wc
   rw[if_pos (by simp[hc])]
  have k2:1<=wc z:=by unfold wc;split;omega;split <;> omega
  have k3:(⟨#[c]⟩:v9).length=1:=rfl
  have:=hA.1
  rw[k1,k3,Je,decide_eq_false_iff_not,decide_eq_false_iff_not]
  omega
 have hf:(occurrences z ⟨#[c]⟩ 0 z.length (z.length+1)).isEmpty=false:=by
  rw[nz]
  intro he
  obtain⟨f,hG,hn⟩:=Q4 z ⟨#[c]⟩ (qj 1)
  rw[rj.mp he] at hG
  have ef:f=0:=hG
  subst ef
  exact hn j (vy _) hA
 have e:yx z ⟨#[c]⟩=partsBetween z (occurrences z ⟨#[c]⟩ 0 z.length (z.length+1)) 1:=by
  unfold yx
  rw[if_neg (by rw[h1];exact zBf),if_neg (by rw[hf];exact zBf)]
  rfl
 have hl:(partsBetween z (occurrences z ⟨#[c]⟩ 0 z.length (z.length+1)) 1).length<=sizeLine:=by
  have:=StrLaws.occ_length_le z ⟨#[c]⟩ 0 z.length (z.length+1)
  unfold partsBetween
  rw[zLm,List.length_zip,qf,zLm,ql]
  refine ji (show _<=200000 from ?_) '*'
  simp only[qf,jk]
  omega
 refine gp yi (typeIs_str _ _ _) fh (dh _ _) (meets_str_split_sep z ⟨#[c]⟩ t t2 h1 rfl hf (ji hz '*') hl) ?_
 rw[e] at q
 refine⟨.ref s.heap.objs.size,_,I.laid (t':=s.toks+_) (λb ob e=>qh _ e) (qj _) ?_,rfl,q _ (I.hok.fresh (qj _))⟩
 exact⟨by rw[zLm];exact hl,_,0,oD _ _,jd _ rfl⟩
noncomputable def aAI(K:qb):V->List V->Hp->VK->Prop:=λx vs H Q=>∃(a:Addr) (ys:List v9) (y:v9),x = .ref a/\vs=[.str y]/\SqL K H a (ys.map V.str)/\Q (.int ((ys.count y:Nat):Int)) H
noncomputable def nS(y:v9):Value->Bool
 |.str z _=>z==y
 |_=>false
theorem aBE{ys:List v9}(y:v9):∀{its:List Value},Vals (ys.map V.str) its->its.countP (nS y)=ys.count y:=by
 induction ys with
 |nil=>intro its r;cases r;rfl
 |cons b bs ih =>
  intro its r
  cases r with
  |cons r1 r2 =>
   obtain⟨t,rfl⟩:=r1
   rw[List.countP_cons,ih r2,J9]
   rfl
theorem tQ:MtR X "list.count" (aAI X.K):=by
 intro pins s σ H x vs v us Q I rx rv h
 obtain⟨a,ys,y,rfl,rfl,hq,q⟩:=h
 cases rx
 obtain⟨u,rfl,t2,rfl⟩:=vals1 rv
 obtain⟨its,r,pl,hz⟩:=I.list hq
 obtain⟨⟨cls,dd,data,sl⟩,ho,hc,n,hd⟩:=id pl.isList
 have hc':cls = .type "list" := hc
 have hd':data = .seq its.toArray n:=hd
 subst hc' hd'
 refine gp fg ⟨_,ho,rfl⟩ PySem.F.entry_list_count (PySem.F.args_list_count_2 _ _) (SeqAt.list_countAt a its.toArray n dd sl (.str y t2) (nS y)) ⟨ho,λv hv => ?_,?_⟩
 ·have hm:v∈its:=by simpa using hv
  obtain⟨j,hj⟩:=y9 hm
  have hlt:j<(ys.map V.str).length:=by rw[r.length];exact (zGs hj).1
  obtain⟨u2,e2,r2⟩:=r.get (zGe hlt)
  rw[hj] at e2;cases e2
  rw[fz] at r2
  obtain⟨t3,rfl⟩:=r2
  exact gy _ _ _ _
 ·rw[show its.toArray.toList=its from rfl,aBE y r]
  exact⟨.int _,H,I.tok _,⟨_,rfl⟩,q⟩
end
end L2
namespace L2
open PySem PySem.Spec PyProof.Rows F
theorem u9(l:Addr)(items:Array Value)(n:Nat)(dd:Option Addr)(sl:Array (Option Value))(x:Value)(e:Value->Bool)(st j:Nat)(t:Tok)(hst:st<=j)(hj:j<items.size)(hsmall:(j:Int)<2^63-1)(hit:e items[j]=true)(hno:∀m (hm:m<items.size),st<=m->m<j->e items[m]=false):
  Meets (Builtin.«list.index» ⟨[.ref l,x, .int (st:Int) t],[]⟩)
   (λA R s=>s.heap.get? l=some {cls := .type "list", dict:=dd,data := .seq items n,slots:=sl}/\(∀y,y∈items->Ju A.in1 s y x (e y))/\R (.ok (.ret (.int j s.toks))) {s with toks:=s.toks+1}):=by
 intro prog w A R s h
 obtain⟨hp,g,d,tk,os⟩:=s;obtain⟨hl,he,h⟩:=h
 have f1:=int_index
 wp_walk using wpAny_loadPart' hl
 have a1:((λi:Int=>if i<0 then max 0 (i+(items.size:Int)) else i) (((st:Int).4).getD 0))=((st:Nat):Int):=by
  show (if (st:Int)<0 then _ else _)=_
  rw[if_neg '!']
  rfl
 have a2:((λi:Int=>if i<0 then max 0 (i+(items.size:Int)) else i) ((none:Option Int).getD (2^63-1)))=2^63-1:=by simp
 rw[a1,a2]
 exact⟨plainId_quiet rn _,codeAny_builtin MeetsSeq.entry_index_loop (by
  rw[Around.under_plainId rn _]
  exact SeqAt.index_loopAt l items n dd sl x e (2^63-1) j hj hsmall hit _ st rfl hst hno prog w A R _ ⟨hl,he,h⟩)⟩
section
noncomputable def aAK(K:qb):V->List V->Hp->VK->Prop:=λx vs H Q=>∃(a:Addr) (ys:List v9) (y:v9) (st j:Nat),x = .ref a/\vs=[.str y, .int (st:Int)]/\SqL K H a (ys.map V.str)/\st<=j/\ys[j]?=some y/\(∀m,st<=m->m<j->ys[m]?≠some y)/\ys.length<=100000/\Q (.int (j:Int)) H
theorem uG:MtR X "list.index" (aAK X.K):=by
 intro pins s σ H x vs v us Q I rx rv h
 obtain⟨a,ys,y,st,j,rfl,rfl,hq,hst,hj,hno,hl,q⟩:=h
 cases rx
 obtain⟨u1,u2,rfl,⟨t2,rfl⟩,t3,rfl⟩:=vals2 rv
 obtain⟨its,r,pl,hz⟩:=I.list hq
 obtain⟨⟨cls,dd,data,sl⟩,ho,hc,n,hd⟩:=id pl.isList
 have hc':cls = .type "list" := hc
 have hd':data = .seq its.toArray n:=hd
 subst hc' hd'
 have at_:∀{m:Nat}{z:v9},ys[m]?=some z->∃t,its[m]?=some (.str z t):=λ{m z} e=>by
  obtain⟨v,e1,t,e2⟩:=r.get (i:=m) (x := .str z) (by rw[qk,e];rfl)
  exact⟨t,by rw[e1,e2]⟩
 have len:its.length=ys.length:=by rw[<- r.length,zLm]
 have hjl:j<ys.length:=(zGs hj).1
 have key:∀{m:Nat} (hm:m<its.toArray.size),nS y its.toArray[m]=decide (ys[m]?=some y):=λ{m} hm=>by
  have hm2:m<ys.length:=by rw[<- len];simpa using hm
  obtain⟨t,e⟩:=at_ (zGe hm2)
  have:its.toArray[m] = .str ys[m] t:=by
   have e2:its[m]?=some its.toArray[m]:=by rw[zGe (by simpa using hm)];rfl
   rw[e] at e2
   exact (qw e2).symm
  rw[this,zGe hm2]
  show (ys[m]==y)=decide (some ys[m]=some y)
  by_cases q:ys[m]=y
  ·rw[decide_eq_true (by rw[q]),q];simp
  ·rw[decide_eq_false (λz=>q (qw z))];simp[q]
 refine gp xg ⟨_,ho,rfl⟩ tq (PySem.F.args_list_index_3 _ _ _) (u9 a its.toArray n dd sl (.str y t2) (nS y) st j t3 hst (by simp;omega) '!' ?_ ?_) ⟨ho,λv hv => ?_,?_⟩
 ·rw[key,decide_eq_true hj]
 ·intro m hm h1 h2
  rw[key,decide_eq_false (hno m h1 h2)]
 ·have hm:v∈its:=by simpa using hv
  obtain⟨j,hj⟩:=y9 hm
  have hlt:j<(ys.map V.str).length:=by rw[r.length];exact (zGs hj).1
  obtain⟨u2,e2,r2⟩:=r.get (zGe hlt)
  rw[hj] at e2;cases e2
  rw[fz] at r2
  obtain⟨t3,rfl⟩:=r2
  exact gy _ _ _ _
 ·exact⟨.int _,H,I.tok _,⟨_,rfl⟩,q⟩
end
end L2
namespace Z
open PySem L2
section
variable {K:Fg}{z:Str}
theorem kP{i:Int}(hi:i.natAbs.log2<1920)(h:k (.str (jb (toString i))) M):OpN K aGS [.int i] M k:=λG H vs Q rl e q=>by
 obtain⟨v,rfl,dv⟩:=dens1 e
 rw[dv.int_]
 exact⟨i,rfl,hi,q _ _ _ _ _ (Stp.refl rl) dW h⟩
theorem iK{n:Int}(hn:yk x=some n)(hl:x.length<=640)(h:k (.int n) M):OpN K aGT [.str x] M k:=λG H vs Q rl e q=>by
 obtain⟨v,rfl,dv⟩:=dens1 e
 rw[dv.str_]
 exact⟨x,n,rfl,hn,hl,q _ _ _ _ _ (Stp.refl rl) cY h⟩
theorem aD0(h:k (.bl (yl z y)) M):OpM K zK (.str z) [.str y] M k:=λG H v vs Q rl e e2 q=>by
 obtain⟨u,rfl,du⟩:=dens1 e2
 rw[du.str_]
 exact⟨z,y,e.str_,rfl,q _ _ _ _ _ (Stp.refl rl) cQ h⟩
theorem sF(hy:(y.length==0)=false)(hz:z.length<=sizeLine)(h:k (.tup [.str (cV z y).1, .str (cV z y).2.1, .str (cV z y).2.2]) M):OpM K aGM (.str z) [.str y] M k:=λG H v vs Q rl e e2 q=>by
 obtain⟨u,rfl,du⟩:=dens1 e2
 rw[du.str_]
 refine⟨z,y,e.str_,rfl,hy,hz,λp hp => ?_⟩
 have st:=rl.new (o := .tup [.str (cV z y).1, .str (cV z y).2.1, .str (cV z y).2.2]) hp
 exact q _ _ _ _ _ st (jI (SqT.of a7) (bO dW (bO dW (bO dW bR)))) h
theorem uC{ys:List Str}(h:k (.int ((ys.count y:Nat):Int)) M):OpM K (aAI K) (.lst (ys.map .str)) [.str y] M k:=λG H v vs Q rl e e2 q=>by
 obtain⟨u,rfl,du⟩:=dens1 e2
 obtain⟨a,ws,ev,s,dn⟩:=e.lst_
 rw[nG dn] at s
 rw[du.str_,ev]
 exact⟨a,ys,y,rfl,rfl,SqL.of (rl.same _ _ s),q _ _ _ _ _ (Stp.refl rl) cY h⟩
theorem uF{ys:List Str}{st:Nat}(hst:st<=j)(hj:ys[j]?=some y)(hno:∀m,st<=m->m<j->ys[m]?≠some y)(hl:ys.length<=100000)(h:k (.int (j:Int)) M):OpM K (aAK K) (.lst (ys.map .str)) [.str y, .int (st:Int)] M k:=λG H v vs Q rl e e2 q=>by
 obtain⟨u1,u2,rfl,d1,d2⟩:=dens2 e2
 obtain⟨a,ws,ev,s,dn⟩:=e.lst_
 rw[nG dn] at s
 rw[d1.str_,d2.int_,ev]
 exact⟨a,ys,y,st,j,rfl,rfl,SqL.of (rl.same _ _ s),hst,hj,hno,hl,q _ _ _ _ _ (Stp.refl rl) cY h⟩
theorem iF{x n:Str}{t:Tok}(hm:X.mg x=some (.str n t))(h:k (.str n) M)(hg:Gl X x:=by rfl)(hb:(x==("__debug__" : Str))=false:=by decide):GE X (.Name x pos) Γ M k:=
 λσ G H Q en rl q=>bL (mK (v := .str n) hg hm ⟨t,rfl⟩ hb) (q _ G H _ M (Stp.refl rl) dW h)
end
end Z
namespace R
open PySem L2
noncomputable def dG(C:List Nat)(k:Int):Nat:=(C.filter λ(i:Nat)=>decide ((i:Int)<=k)).length
noncomputable def bd(C:List Nat)(k:Int):Int:=(dG C k:Int)-1
theorem mL{k:Int}:∀{C:List Nat},C.Pairwise (· < ·)->∀{i c:Nat},C[i]?=some c->((c:Int)<=k↔i<dG C k)
 |[],_,i,c,h=>by simp at h
 |a::l,hs,i,c,h=>by
  obtain⟨h1,h2⟩:=ke.mp hs
  unfold dG
  by_cases ha:(a:Int)<=k
  ·rw[fw (by simpa using ha),qf]
   cases i with
   |zero=>simp at h;subst h;exact⟨λ_=>by lia,λ_=>ha⟩
   |succ i =>
    have:=mL (k:=k) h2 (i:=i) (c:=c) (by simpa using h)
    unfold dG at this
    rw[this];lia
  ·rw[fx (by simpa using ha)]
   have e:l.filter (λ(i:Nat)=>decide ((i:Int)<=k))=[]:=gm.mpr λx hx=>by have:=h1 x hx;simp;lia
   rw[e]
   cases i with
   |zero=>simp at h;subst h;exact⟨λz=>absurd z ha,λz=>by simp at z⟩
   |succ i =>
    have:=h1 c (zMo (i:=i) (by simpa using h))
    exact⟨λz=>by lia,λz=>by simp at z⟩
theorem aDB(C:List Nat)(k:Int):dG C k<=C.length:=h9 _ _
theorem aIC(g:Good n zs)(k j:Int):bD (bZ zs) (bd (chg (aE zs)) k) (bd (chg zs) j)=bD zs k j:=by
 have h:∀z∈zs,z.length=n:=λz hz=>(g z hz).1
 have kl:(bZ zs).length=(chg zs).length-1:=by unfold bZ;rw[zLm,jv]
 have kw:∀z∈bZ zs,z.length=(chg (aE zs)).length-1:=λz hz=>by
  unfold bZ at hz
  obtain⟨i,_,rfl⟩:=qu.mp hz
  rw[mS,zLm,jv]
 have c1:=aDB (chg zs) j
 have c2:=aDB (chg (aE zs)) k
 have key1:=λ{i c}=>mL (k:=j) (cC zs) (i:=i) (c:=c)
 have key2:=λ{i c}=>mL (k:=k) (cC (aE zs)) (i:=i) (c:=c)
 unfold bd
 -- the row is none: both are out
 by_cases hr:0<dG (chg zs) j/\dG (chg zs) j<(chg zs).length
 rotate_left
 ·have lhs:bD (bZ zs) ((dG (chg (aE zs)) k:Int)-1) ((dG (chg zs) j:Int)-1)=false:=by
   by_cases h0:dG (chg zs) j=0
   ·exact gU '#'
   ·exact hX '#'
  rw[lhs]
  symm
  by_cases hj0:j<0
  ·exact gU hj0
  by_cases hj1:(zs.length:Int)<=j
  ·exact hX hj1
  obtain⟨m,rfl⟩:∃m:Nat,j=(m:Int):=⟨j.toNat,by lia⟩
  have hd:=xS h (j:=m) '#' λr c d h1 h2 h3=>by
   have a1:=key1 h1
   have a2:=key1 h2
   have hl2:=(zGs h2).1
   lia
  by_cases hk0:k<0
  ·exact eZ hk0
  obtain⟨q,rfl⟩:∃q:Nat,k=(q:Int):=⟨k.toNat,by lia⟩
  by_cases hk1:n<=q
  ·exact mH (z:=dots n) (by rw[jc];exact hd) (by rw[qP];lia)
  ·rw[iH (z:=dots n) (c:=46) '#' '#' (by rw[jc];exact hd) (by rw[jc,dJ (by rw[qP];lia),kI,if_pos '#'])]
   rfl
 obtain⟨r,hr0⟩:∃r,dG (chg zs) j=r+1:=⟨dG (chg zs) j-1,by lia⟩
 have er:(((dG (chg zs) j:Nat):Int)-1)=(r:Int):=by lia
 have g1:(chg zs)[r]?=some (chg zs)[r]:=zGe '#'
 have g2:(chg zs)[r+1]?=some (chg zs)[r+1]:=zGe '#'
 have b1:=(key1 g1).mpr '#'
 have b2:=key1 g2
 have hd2:=eO _ _ (zMo g2)
 obtain⟨m,rfl⟩:∃m:Nat,j=(m:Int):=⟨j.toNat,by lia⟩
 have hm:m<zs.length:=by lia
 have eb:=zG hm g1 g2 '#' '#'
 obtain⟨z,hz⟩:∃z,zs[m]?=some z:=⟨zs[m],zGe hm⟩
 rw[hz] at eb
 have hzm:=zMo hz
 have hkr:r<(bZ zs).length:=by lia
 have hky:(bZ zs)[r]?=some (bZ zs)[r]:=zGe hkr
 have hyl:=kw _ (vh hkr)
 rw[er]
 by_cases hc:0<dG (chg (aE zs)) k/\dG (chg (aE zs)) k<(chg (aE zs)).length
 rotate_left
 ·have lhs:bD (bZ zs) ((dG (chg (aE zs)) k:Int)-1) (r:Int)=false:=by
   by_cases h0:dG (chg (aE zs)) k=0
   ·exact eZ '#'
   ·exact mH (z:=(bZ zs)[r]) (by rw[jc];exact hky) '#'
  rw[lhs]
  symm
  by_cases hk0:k<0
  ·exact eZ hk0
  obtain⟨q,rfl⟩:∃q:Nat,k=(q:Int):=⟨k.toNat,by lia⟩
  by_cases hk1:n<=q
  ·exact mH (z:=z) (by rw[jc];exact hz) (by rw[h z hzm];lia)
  ·have:=aJG h (k:=q) '#' (λr c d h1 h2 h3=>by
    have a1:=key2 h1
    have a2:=key2 h2
    have hl2:=(zGs h2).1
    lia) z hzm
   rw[iH (z:=z) (c:=46) '#' '#' (by rw[jc];exact hz) (by rw[jc,dJ (by rw[h z hzm];lia),this])]
   rfl
 obtain⟨c,hc0⟩:∃c,dG (chg (aE zs)) k=c+1:=⟨dG (chg (aE zs)) k-1,by lia⟩
 have ec:(((dG (chg (aE zs)) k:Nat):Int)-1)=(c:Int):=by lia
 have f1:(chg (aE zs))[c]?=some (chg (aE zs))[c]:=zGe '#'
 have f2:(chg (aE zs))[c+1]?=some (chg (aE zs))[c+1]:=zGe '#'
 have d1:=(key2 f1).mpr '#'
 have d2:=key2 f2
 have hne:zs≠[]:=λe=>by rw[e] at hm;simp at hm
 have hcl:=bH h hne
 have hd3:=eO _ _ (zMo f2)
 obtain⟨q,rfl⟩:∃q:Nat,k=(q:Int):=⟨k.toNat,by lia⟩
 have hq:q<n:=by lia
 obtain⟨y,hy,ey⟩:=aH2 g1 '#' f1 '#' eb.symm
 have ecol:=aK0 h (k:=q) hq f1 f2 '#' '#' z hzm
 have hyl2:=kw y (zMo hy)
 rw[ec,iH (z:=y) (c:=atS y c) '#' '#' (by rw[jc];exact hy) (by rw[jc];exact dJ '#'),
  iH (z:=z) (c:=atS z q) '#' '#' (by rw[jc];exact hz) (by rw[jc];exact dJ (by rw[h z hzm];exact hq)),ey,ecol]
noncomputable def d9(z:Str):Str:=ofL z.cps.toList.reverse
theorem jS(z:Str):(d9 z).cps.toList=z.cps.toList.reverse:=rfl
theorem nX(z:Str):(d9 z).length=z.length:=by
 show (z.cps.toList.reverse.toArray).size=z.cps.size
 simp
theorem aFJ{a b:Str}(h:d9 a=d9 b):a=b:=by
 apply f8
 have:(d9 a).cps.toList=(d9 b).cps.toList:=by rw[h]
 rw[jS,jS] at this
 exact List.reverse_inj.mp this
theorem aH4{z:Str}(h:j<z.length):atS (d9 z) j=atS z (z.length-1-j):=by
 have h':j<z.cps.toList.length:=by rw[qa];exact h
 have e:=dJ (z:=d9 z) (j:=j) (by rw[nX];exact h)
 have e2:=dJ (z:=z) (j:=z.length-1-j) '#'
 rw[jS,bx h',qa] at e
 have:z.cps.size=z.length:=rfl
 rw[this,e2] at e
 exact (qw e).symm
theorem aE9(n:Nat):d9 (dots n)=dots n:=by
 apply f8
 rw[jS]
 show (jy n 46).reverse=jy n 46
 exact List.reverse_replicate
theorem aEX{K:List Str}(g:Good n K):Good n (K.map d9):=λz hz=>by
 obtain⟨y,hy,rfl⟩:=qu.mp hz
 obtain⟨h1,h2⟩:=g y hy
 refine⟨(nX y).trans h1,?_⟩
 rw[jS,List.all_reverse];exact h2
theorem lR{K:List Str}(h:∀z∈K,z.length=n)(hK:K≠[]):framed K=[dots n]++K++[dots n]:=by unfold framed;rw[bP h hK]
theorem kX{K:List Str}(hK:K≠[]):chg K=qt (K.length+1)↔∀i,i<=K.length->(framed K)[i]?≠(framed K)[i+1]?:=by
 constructor
 ·intro e i hi
  exact ((dX hK).mp (by rw[e];exact kh.mpr '#')).2
 ·intro h
  unfold chg
  rw[if_neg (by rw[rj];exact hK)]
  refine mn.mpr λi hi => ?_
  rw[decide_eq_false (h i (by have:=kh.mp hi;lia))];rfl
theorem aBJ{K:List Str}(h:∀z∈K,z.length=n)(hK:K≠[])(e:chg K=qt (K.length+1)):chg (K.map d9)=qt ((K.map d9).length+1):=by
 have hK':K.map d9≠[]:=by simpa using hK
 have h':∀z∈K.map d9,z.length=n:=λz hz=>by obtain⟨y,hy,rfl⟩:=qu.mp hz;rw[nX];exact h y hy
 rw[kX hK']
 rw[kX hK] at e
 have ef:framed (K.map d9)=(framed K).map d9:=by
  rw[lR h' hK',lR h hK,qg,qg,List.map_singleton,aE9]
 intro i hi
 rw[zLm] at hi
 rw[ef,qk,qk]
 intro q
 have hl:=gS K
 have a1:(framed K)[i]?=some (framed K)[i]:=zGe '#'
 have a2:(framed K)[i+1]?=some (framed K)[i+1]:=zGe '#'
 refine e i hi ?_
 rw[a1,a2] at q ⊢
 rw[vp,vp] at q
 exact congrArg some (aFJ (qw q))
theorem yE{K:List Str}(h:∀z∈K,z.length=n)(hK:K≠[])(e:chg K=qt (K.length+1)):chg K.reverse=qt (K.reverse.length+1):=by
 have hK':K.reverse≠[]:=by simpa using hK
 have h':∀z∈K.reverse,z.length=n:=λz hz=>h z (JV.mp hz)
 rw[kX hK']
 rw[kX hK] at e
 have ef:framed K.reverse=(framed K).reverse:=by
  rw[lR h' hK',lR h hK,Jl,Jl];simp
 intro i hi
 rw[yf] at hi
 have hl:=gS K
 rw[ef,bx '#',bx '#',hl]
 intro q
 have:=e (K.length-i) '#'
 rw[show K.length+2-1-i=K.length-i+1 by lia,show K.length+2-1-(i+1)=K.length-i by lia] at q
 exact this q.symm
theorem yL{K:List Str}(h:∀z∈K,z.length=n)(hK:K≠[]):aE (K.map d9)=(aE K).reverse:=by
 have hK':K.map d9≠[]:=by simpa using hK
 have h':∀z∈K.map d9,z.length=n:=λz hz=>by obtain⟨y,hy,rfl⟩:=qu.mp hz;rw[nX];exact h y hy
 have l1:=bH h hK
 have l2:=bH h' hK'
 apply vj
 intro j
 by_cases hj:j<n
 ·rw[f9 h' hK' hj,bx '#',l1,f9 h hK '#',xj]
  congr 2
  refine vc λz hz => ?_
  show atS (d9 z) j=_
  rw[aH4 (by rw[h z hz];exact hj),h z hz]
 ·rw[qv '#',qv (by rw[yf];lia)]
theorem aEC{K:List Str}(h:∀z∈K,z.length=n)(hK:K≠[])(hn:0<n):aE ((aE K).map d9)=K.reverse:=by
 have hc:(aE K).length=n:=bH h hK
 have hcn:aE K≠[]:=λe=>by rw[e] at hc;simp at hc;lia
 rw[yL (n:=K.length) (λz hz=>eP z hz) hcn,lW h hK hn]
theorem xU{K:List Str}{a u:Int}:bD K a u=true↔0<=u/\0<=a/\∃z,K[u.toNat]?=some z/\z.cps.toList[a.toNat]?=some 35:=by
 unfold bD
 rw[qi,qi,decide_eq_true_eq,decide_eq_true_eq,beq_iff_eq]
 constructor
 ·rintro⟨⟨h1,h2⟩,h3⟩
  obtain⟨z,hz,e⟩:=Qm.mp h3
  exact⟨h1,h2,z,hz,e⟩
 ·rintro⟨h1,h2,z,hz,e⟩
  exact⟨⟨h1,h2⟩,Qm.mpr ⟨z,hz,e⟩⟩
end R
namespace U
open PySem
abbrev Up(ws:List Rat):Prop:=ws.Pairwise (· < ·)
noncomputable def ix(ws:List Rat)(x:Rat):Int:=((ws.filter λw=>decide (w<=x)).length:Int)-1
theorem vC(ws:List Rat)(x:Rat): -1<=ix ws x:=by unfold ix;lia
theorem vG(ws:List Rat)(x:Rat):ix ws x<ws.length:=by
 unfold ix
 have:=h9 (λw=>decide (w<=x)) ws
 lia
theorem hV{x:Rat}:∀{ws:List Rat},Up ws->∀{i:Nat} (h:i<ws.length),ws[i]<=x↔(i:Int)<=ix ws x
 |[],_,i,h=>absurd h (ll _)
 |w::r,u,i,h=>by
  obtain⟨u1,u2⟩:=ke.mp u
  unfold ix
  by_cases hw:w<=x
  ·rw[fw (by simpa using hw),qf]
   cases i with
   |zero=>exact⟨λ_=>by lia,λ_=>hw⟩
   |succ i =>
    have:=hV (x:=x) u2 (i:=i) (by simpa using h)
    unfold ix at this
    simp only[QI]
    rw[this]
    lia
  ·rw[fx (by simpa using hw)]
   have e:r.filter (λw=>decide (w<=x))=[]:=gm.mpr λa ha=>by
    have:=u1 a ha
    simp only[decide_eq_true_eq]
    grind
   rw[e]
   have h1:¬(w::r)[i]<=x:=by
    cases i with
    |zero=>simpa using hw
    |succ i =>
     have:=u1 _ (vh (by simpa using h:i<r.length))
     simp only[QI]
     grind
   exact⟨λz=>absurd z h1,λz=>by simp at z;lia⟩
theorem vB{x:Rat}{k:Int}(u:Up ws)(h0 : -1<=k)(h1:k<ws.length)(h:∀(i:Nat) (hi:i<ws.length),ws[i]<=x↔(i:Int)<=k):ix ws x=k:=by
 have a:=vC ws x
 have b:=vG ws x
 apply Int.le_antisymm
 ·by_cases hk:0<=ix ws x
  ·have q:=(h (ix ws x).toNat '#').mp ((hV u '#').mpr '#')
   lia
  ·lia
 ·by_cases hk:0<=k
  ·have q:=(hV (x:=x) u (i:=k.toNat) '#').mp ((h k.toNat '#').mpr '#')
   lia
  ·lia
theorem nY(u:Up ws)(hi:i<ws.length)(hj:j<ws.length):ws[i]<ws[j]↔i<j:=by
 have p:=zh.mp u
 constructor
 ·intro h
  rcases JU i j with q|q|q
  ·exact q
  ·subst q;grind
  ·have:=p j i hj hi q;grind
 ·exact p i j hi hj
theorem qT(u:Up ws)(hi:i<ws.length)(hj:j<ws.length):ws[i]<=ws[j]↔i<=j:=by
 have:=nY u hj hi
 constructor
 ·intro h;refine J4 λq => ?_
  have:=this.mpr q;grind
 ·intro h
  have:¬ws[j]<ws[i]:=λq=>by have:=this.mp q;lia
  grind
theorem iM(u:Up ws)(hi:i<ws.length):ix ws ws[i]=i:=
 vB u '#' '#' λj hj=>by rw[qT u hj hi];lia
theorem aDW{vs:List Rat}(u:Up ws)(v:Up vs)(h:∀x,x∈ws↔x∈vs):ws=vs:=by
 induction ws generalizing vs with
 |nil =>
  cases vs with
  |nil=>rfl
  |cons a r=>exact absurd ((h a).mpr (.head _)) '$'
 |cons w ws ih =>
  cases vs with
  |nil=>exact absurd ((h w).mp (.head _)) '$'
  |cons a r =>
   obtain⟨u1,u2⟩:=ke.mp u
   obtain⟨v1,v2⟩:=ke.mp v
   have e:w=a:=by
    rcases qr.mp ((h w).mp (.head _)) with q|q
    ·exact q
    ·rcases qr.mp ((h a).mpr (.head _)) with z|z
     ·exact z.symm
     ·have:=v1 w q;have:=u1 a z;grind
   subst e
   rw[ih u2 v2 λx => ?_]
   constructor
   ·intro hx
    rcases qr.mp ((h x).mp (.tail _ hx)) with q|q
    ·subst q;have:=u1 x hx;grind
    ·exact q
   ·intro hx
    rcases qr.mp ((h x).mpr (.tail _ hx)) with q|q
    ·subst q;have:=v1 x hx;grind
    ·exact q
theorem aAC(u:Up ws)(v:Up xs)(hs:∀w∈ws,w∈xs){x:Rat}(hi:i<xs.length)(e:ix xs x=i):ix ws x=ix ws xs[i]:=by
 unfold ix
 refine congrArg (λl:List Rat=>(l.length:Int)-1) (nv λw hw => ?_)
 obtain⟨j,hj,rfl⟩:=kj (hs w hw)
 have h1:=hV (x:=x) v hj
 have h2:=qT v hj hi
 rw[decide_eq_decide,h1,h2,e]
 lia
theorem aDA(v:Up xs)(hs:∀w∈ws,w∈xs){x:Rat}(e:ix xs x = -1):ix ws x = -1:=by
 unfold ix
 rw[gm.mpr λw hw => ?_]
 ·rfl
 ·obtain⟨j,hj,rfl⟩:=kj (hs w hw)
  have h1:=hV (x:=x) v hj
  rw[decide_eq_true_eq,h1,e]
  lia
theorem zB(v:Up xs)(hs:∀w∈ws,w∈xs){x:Rat}(e:ix xs x=(xs.length:Int)-1):ix ws x=(ws.length:Int)-1:=by
 unfold ix
 rw[mn.mpr λw hw => ?_]
 obtain⟨j,hj,rfl⟩:=kj (hs w hw)
 have h1:=hV (x:=x) v hj
 rw[decide_eq_true_eq,h1,e]
 lia
noncomputable def kG(xs:List Rat)(js:List Nat):List Rat:=js.map λj=>xs.getD j 0
theorem yA(u:Up xs){js:List Nat}(hs:js.Pairwise (· < ·))(h:∀j∈js,j<xs.length):Up (kG xs js):=by
 unfold kG Up
 rw[fk]
 refine KU ?_ hs
 intro a b ha hb hab
 have h1:=h a ha
 have h2:=h b hb
 rw[zGd,zGd,zGe h1,zGe h2]
 exact (nY u h1 h2).mpr hab
theorem aAL(u:Up xs){js:List Nat}(h:∀j∈js,j<xs.length)(x:Rat):ix (kG xs js) x=R.bd js (ix xs x):=by
 unfold ix kG R.bd R.dG
 rw[List.filter_map,zLm]
 congr 2
 congr 1
 refine nv λj hj => ?_
 have h1:=h j hj
 have:=hV (x:=x) u h1
 show decide (xs.getD j 0<=x)=_
 rw[zGd,zGe h1,decide_eq_decide]
 exact this
end U
namespace Q
open PySem L2 Z
theorem aG6{w:Nat}{K:List Str}(h:∀z∈K,z.length=w)(hK:K≠[]):(qt w).map (λj=>R.ofL (K.map (R.atS · j)))=R.aE K:=by
 unfold R.aE
 rw[R.bP h hK]
theorem yI{K:Fg}(h:k (.bl (!(!(jz y x 0 y.length 1).isEmpty))) M):Op2 K (λx y H Q=>∃i j,x = .str i/\y = .str j/\Q (.bl (!(!(jz j i 0 j.length 1).isEmpty))) H) (.str x) (.str y) M k:=λG H v1 v2 Q rl e1 e2 q =>
 ⟨x,y,e1.str_,e2.str_,q _ _ _ _ _ (Stp.refl rl) cQ h⟩
end Q
namespace L2
open PySem PySem.Spec PyProof.Rows
section
end
end L2
namespace Z
open PySem L2
section
variable {a:Expr}{rest:List Expr}
end
end Z
namespace Q
open PySem L2 Z
structure Bg(p:Int×Int):Prop where
 a:p.1.natAbs<10^400
 b:p.2.natAbs<10^400
 c:p.2≠0
theorem big400{i:Int}(h:i.natAbs<10^400):i.natAbs<big:=qo h (by unfold big;decide)
structure Spot(xs:List Int)(v:Int×Int)(cols:List Int):Prop where
 pos:0<v.2
 sm:v.1.natAbs<10^65/\v.2.natAbs<10^65
 at_:(∃k:Nat,k<xs.length/\v=p1 (xs.getD k 0)/\cols=[(k:Int)-1,(k:Int)])\/(∃k:Int,cols=[k]/\∀i,i<xs.length->(xs.getD i 0*v.2<v.1↔(i:Int)<=k)/\xs.getD i 0*v.2≠v.1)
end Q
namespace PySem
namespace F
end F
section
variable {E:Value->Shared->Prop}
end
end PySem
namespace PySem
open PyProof.Rows
section
variable {E:Value->Shared->Prop}{I:Addr}
end
end PySem
namespace PySem
open PyProof.Rows
open Builtin Builtin.Str Builtin.Int
section
variable {E:Value->Shared->Prop}{I:Addr}
end
end PySem
namespace L2
open PySem PySem.Spec PyProof.Rows
section
end
end L2
namespace Z
open PySem L2
section
variable {a:Expr}{rest:List Expr}
end
end Z
namespace Q
open PySem L2 Z
structure Tidy2(K:List Str)(a b:Nat):Prop where
 v:(K=[]/\a=0/\b=0)\/(K≠[]/\R.chg K=qt b/\R.chg (R.aE K)=qt a/\R.Good (a-1) K/\K.length+1=b/\2<=a/\2<=b)
theorem Tidy2.good{K:List Str}{a b:Nat}(h:Tidy2 K a b):R.Good (a-1) K/\K.length=b-1:=by
 rcases h.v with ⟨rfl,rfl,rfl⟩|⟨_,_,_,g,l,_,_⟩
 ·exact⟨λz hz=>(nomatch hz),rfl⟩
 ·exact⟨g,by lia⟩
theorem aBD(g:R.Good n zs):Tidy2 (R.bZ zs) (R.chg (R.aE zs)).length (R.chg zs).length:=by
 by_cases hr:R.aM zs=[]
 ·obtain⟨e1,e2⟩:=R.uM (λz hz=>(g z hz).1) hr
  refine⟨.inl ⟨?_,?_,?_⟩⟩
  ·unfold R.bZ;rw[e1] <;> first|rfl|(rw[e2];rfl)
  ·first|(rw[e2];rfl)|(rw[e1];rfl)
  ·first|(rw[e1];rfl)|(rw[e2];rfl)
 ·obtain⟨t1,t2,t3,t4,t5,t6⟩:=R.aBQ g hr
  have hkl:(R.bZ zs).length=(R.chg zs).length-1:=by unfold R.bZ;rw[zLm,jv]
  exact⟨.inr ⟨t3,t1,t2,t4,by lia,t5,t6⟩⟩
theorem aBO{K:List Str}{a b:Nat}(h:Tidy2 K a b):Tidy2 ((R.aE K).map R.d9) b a:=by
 rcases h.v with ⟨rfl,rfl,rfl⟩|⟨hK,t1,t2,g,l,ha,hb⟩
 ·exact⟨.inl ⟨rfl,rfl,rfl⟩⟩
 ·have hl:∀z∈K,z.length=a-1:=λz hz=>(g z hz).1
  have lc:=R.bH hl hK
  have hcn:R.aE K≠[]:=λe=>by rw[e] at lc;simp at lc;lia
  have gc:=R.iQ g
  refine⟨.inr ⟨by simpa using hcn,?_,?_,?_,by rw[zLm,lc];lia,hb,ha⟩⟩
  ·have:=R.aBJ (n:=K.length) (λz hz=>R.eP z hz) hcn (by rw[t2,lc,show a-1+1=a by lia])
   rw[this,zLm,lc,show a-1+1=a by lia]
  ·rw[R.aEC hl hK '#']
   have:=R.yE hl hK (by rw[t1,l])
   rw[this,yf,l]
  ·rw[show b-1=K.length by lia];exact R.aEX gc
noncomputable def bm(w:Nat)(p:Int×Int):Int:=match w with|1=>1|2=>1|_=>p.2
structure By(w:Nat)(p:Int×Int):Prop where
 b0:0<p.2
 b9:p.2<=9
 a20:p.1.natAbs<=20
 a0:w=3->0<p.1
end Q
namespace U
open PySem
noncomputable def inY(ws us:List Rat)(K:List Str)(x y:Rat):Bool:=R.bD K (ix ws x) (ix us y)
theorem oX{K:List Str}(h:∀z∈K,z.length=n){a u:Int}(ha:(n:Int)<=a):R.bD K a u=false:=by
 cases e:R.bD K a u with
 |false=>rfl
 |true =>
  obtain⟨h1,h2,z,hz,hc⟩:=R.xU.mp e
  have:=h z (zMo hz)
  have h3:a.toNat<z.cps.toList.length:=(zGs hc).1
  rw[qa] at h3
  have h4:z.cps.size=z.length:=rfl
  lia
structure Steps(f:Rat->Rat->Bool)(xs ys:List Rat):Prop where
 out:∀x y,ix xs x = -1\/ix xs x=(xs.length:Int)-1\/ix ys y = -1\/ix ys y=(ys.length:Int)-1->f x y=false
 at_:∀x y (i j:Nat) (hi:i<xs.length) (hj:j<ys.length),ix xs x=i->ix ys y=j->f x y=f xs[i] ys[j]
theorem aCU{us:List Rat}{K:List Str}(u:Up ws)(u':Up us)(hK:∀z∈K,z.length=ws.length-1)(lK:K.length=us.length-1)(v:Up xs)(v':Up ys)(hs:∀w∈ws,w∈xs)(hs':∀w∈us,w∈ys):Steps (inY ws us K) xs ys where
 out x y h:=by
  unfold inY
  rcases h with h|h|h|h
  ·rw[aDA v hs h];exact R.eZ '#'
  ·rw[zB v hs h]
   cases ws with
   |nil=>exact R.eZ '$'
   |cons w r=>exact oX hK '$'
  ·rw[aDA v' hs' h];exact R.gU '#'
  ·rw[zB v' hs' h]
   cases us with
   |nil=>exact R.gU '$'
   |cons w r=>exact R.hX (by rw[lK];simp)
 at_ x y i j hi hj e e':=by
  unfold inY
  rw[aAC u v hs hi e,aAC u' v' hs' hj e']
theorem Steps.pick{f g:Rat->Rat->Bool}(hf:Steps f xs ys)(hg:Steps g xs ys)(p:Bool->Bool->Bool)(h0:p false false=false):Steps (λx y=>p (f x y) (g x y)) xs ys:=
 ⟨λx y h=>by rw[hf.out x y h,hg.out x y h];exact h0,λx y i j hi hj e e'=>by rw[hf.at_ x y i j hi hj e e',hg.at_ x y i j hi hj e e']⟩
noncomputable def kA(f:Rat->Rat->Bool)(xs ys:List Rat):List Str:=ys.dropLast.map λy=>R.ofL (xs.dropLast.map λx=>R.sg (f x y))
theorem tS(f:Rat->Rat->Bool)(xs ys:List Rat):(kA f xs ys).length=ys.length-1:=by unfold kA;rw[zLm,jv]
theorem rA(f:Rat->Rat->Bool)(xs ys:List Rat):R.Good (xs.length-1) (kA f xs ys):=λz hz=>by
 unfold kA at hz
 obtain⟨y,_,rfl⟩:=qu.mp hz
 refine⟨by rw[R.mS,zLm,jv],?_⟩
 rw[jf]
 intro c hc
 have hc':c∈xs.dropLast.map λx=>R.sg (f x y):=hc
 obtain⟨q,_,rfl⟩:=qu.mp hc'
 unfold R.sg;split <;> rfl
theorem aET{f:Rat->Rat->Bool}(hi:i+1<xs.length)(hj:j+1<ys.length):R.bD (kA f xs ys) (i:Int) (j:Int)=f xs[i] ys[j]:=by
 have hj':j<ys.dropLast.length:=by rw[jv];lia
 have hi':i<xs.dropLast.length:=by rw[jv];lia
 have e1:(kA f xs ys)[((j:Int)).toNat]?=some (R.ofL (xs.dropLast.map λx=>R.sg (f x ys[j]))):=by
  rw[jc];unfold kA
  rw[qk,zGe hj',QP];rfl
 have e2:(R.ofL (xs.dropLast.map λx=>R.sg (f x ys[j]))).cps.toList[((i:Int)).toNat]?=some (R.sg (f xs[i] ys[j])):=by
  rw[jc]
  show (xs.dropLast.map λx=>R.sg (f x ys[j]))[i]?=_
  rw[qk,zGe hi',QP];rfl
 rw[R.iH '#' '#' e1 e2]
 unfold R.sg
 cases f xs[i] ys[j] <;> rfl
theorem aJI{f:Rat->Rat->Bool}(h:Steps f xs ys)(x y:Rat):R.bD (kA f xs ys) (ix xs x) (ix ys y)=f x y:=by
 have a1:=vC xs x
 have a2:=vG xs x
 have b1:=vC ys y
 have b2:=vG ys y
 by_cases ha:ix xs x = -1
 ·rw[h.out x y (.inl ha),ha];exact R.eZ '#'
 by_cases ha':ix xs x=(xs.length:Int)-1
 ·rw[h.out x y (.inr (.inl ha')),ha']
  exact oX (λz hz=>(rA f xs ys z hz).1) '#'
 by_cases hb:ix ys y = -1
 ·rw[h.out x y (.inr (.inr (.inl hb))),hb];exact R.gU '#'
 by_cases hb':ix ys y=(ys.length:Int)-1
 ·rw[h.out x y (.inr (.inr (.inr hb'))),hb']
  exact R.hX (by rw[tS];lia)
 obtain⟨i,hi⟩:∃i:Nat,ix xs x=i:=⟨(ix xs x).toNat,by lia⟩
 obtain⟨j,hj⟩:∃j:Nat,ix ys y=j:=⟨(ix ys y).toNat,by lia⟩
 rw[h.at_ x y i j '#' '#' hi hj,hi,hj]
 exact aET '#' '#'
theorem aHG(u:Up xs)(v:Up ys)(g:R.Good (xs.length-1) zs)(hz:zs.length=ys.length-1)(x y:Rat):
  inY (kG xs (R.chg (R.aE zs))) (kG ys (R.chg zs)) (R.bZ zs) x y=R.bD zs (ix xs x) (ix ys y):=by
 unfold inY
 rw[aAL u (Q.mF λz hz=>(g z hz).1),aAL v (Q.mG hz),R.aIC g]
theorem vK{K:List Str}(g:R.Good n K){z:Str}(hz:K[j]?=some z):z=R.ofL ((qt n).map λ(c:Nat)=>R.sg (R.bD K (c:Int) (j:Int))):=by
 obtain⟨hl,hs⟩:=g z (zMo hz)
 have e:z.cps.toList=(qt n).map λ(c:Nat)=>R.sg (R.bD K (c:Int) (j:Int)):=by
  refine vj λc => ?_
  rw[qk]
  by_cases hc:c<n
  ·rw[yg hc,R.dJ '#']
   have h2:=R.pT g (zMo hz) hc
   rw[vp,R.iH (z:=z) (c:=R.atS z c) '#' '#' (by rw[jc];exact hz) (by rw[jc];exact R.dJ '#')]
   unfold R.sg
   rcases h2 with h2|h2 <;> rw[h2] <;> rfl
  ·rw[qv (by rw[qa];have:z.cps.size=z.length:=rfl;lia),qv (by simpa using hc)];rfl
 unfold R.ofL
 rw[<- e]
theorem aIK{K K':List Str}(g:R.Good n K)(g':R.Good n K')(hl:K.length=K'.length)(h:∀a u:Nat,a<n->u<K.length->R.bD K (a:Int) (u:Int)=R.bD K' (a:Int) (u:Int)):K=K':=by
 refine vj λj => ?_
 by_cases hj:j<K.length
 ·have e1:K[j]?=some K[j]:=zGe hj
  have e2:K'[j]?=some (K'[j]' '#'):=zGe '#'
  rw[e1,e2,vK g e1,vK g' e2]
  congr 2
  refine vc λc hc => ?_
  rw[h c j (kh.mp hc) hj]
 ·rw[qv '#',qv '#']
theorem frow{K:List Str}(g:R.Good n K)(hK:K≠[])(hj:j<=K.length+1):(R.framed K)[j]?=some (R.ofL ((qt n).map λ(c:Nat)=>R.sg (R.bD K (c:Int) ((j:Int)-1)))):=by
 have hw:=R.bP (λz hz=>(g z hz).1) hK
 have hd:∀u:Int,(∀c:Nat,R.bD K (c:Int) u=false)->R.dots n=R.ofL ((qt n).map λ(c:Nat)=>R.sg (R.bD K (c:Int) u)):=λu hu=>by
  unfold R.dots
  congr 1
  refine (QQ.mpr ⟨by simp,λb hb => ?_⟩).symm
  obtain⟨c,_,rfl⟩:=qu.mp hb
  rw[hu c];rfl
 rcases dt j with rfl|hp
 ·rw[R.eB,hw,<- hd _ λc=>R.gU '#']
 ·obtain⟨k,rfl⟩:∃k,j=k+1:=⟨j-1,by lia⟩
  rw[show (((k+1:Nat):Int)-1)=(k:Int) by lia]
  by_cases hk:k<K.length
  ·rw[R.bG hk,zGe hk,<- vK g (zGe hk)]
  ·have e:k=K.length:=by lia
   rw[e,R.cS,hw,<- hd _ λc=>R.hX '#']
theorem fcol{K:List Str}(g:R.Good n K)(hK:K≠[])(hn:0<n)(hi:i<=n+1):(R.framed (R.aE K))[i]?=some (R.ofL ((qt K.length).map λ(r:Nat)=>R.sg (R.bD K ((i:Int)-1) (r:Int)))):=by
 rw[R.gZ (λz hz=>(g z hz).1) hK hn hi]
 congr 2
 refine vj λr => ?_
 rw[qk,qk]
 by_cases hr:r<K.length
 ·rw[zGe hr,yg hr,vp,vp]
  congr 1
  have e1:K[r]?=some K[r]:=zGe hr
  have hl:=(g _ (vh hr)).1
  unfold R.sA
  split
  ·rename_i h
   rcases h with rfl|rfl
   ·rw[R.eZ '#'];rfl
   ·rw[oX (λz hz=>(g z hz).1) '#'];rfl
  ·rename_i h
   have hi':i-1<n:=by lia
   have h2:=R.pT g (vh hr) hi'
   rw[show ((i:Int)-1)=((i-1:Nat):Int) by lia,R.iH (z:=K[r]) (c:=R.atS K[r] (i-1)) '#' '#' (by rw[jc];exact e1) (by rw[jc];exact R.dJ '#')]
   unfold R.sg
   rcases h2 with h2|h2 <;> rw[h2] <;> rfl
 ·rw[qv '#',qv (by simpa using hr)];rfl
theorem aDZ{f g:Nat->Bool}(h:some (R.ofL ((qt n).map λc=>R.sg (f c)))≠some (R.ofL ((qt n).map λc=>R.sg (g c)))):∃c,c<n/\f c≠g c:=by
 refine jt λq=>h ?_
 congr 2
 refine vc λc hc => ?_
 have:=kh.mp hc
 have e:f c=g c:=jt λz=>q ⟨c,this,z⟩
 rw[e]
theorem wT{K:List Str}{a b:Nat}(T:Q.Tidy2 K a b)(hi:i<a):∃j:Nat,j+1<b/\R.bD K ((i:Int)-1) (j:Int)≠R.bD K (i:Int) (j:Int):=by
 rcases T.v with ⟨_,rfl,_⟩|⟨hK,t1,t2,g,l,ha,hb⟩
 ·lia
 ·have hm:i∈R.chg (R.aE K):=by rw[t2];exact kh.mpr hi
  have lc:=R.bH (λz hz=>(g z hz).1) hK
  have hcn:R.aE K≠[]:=λe=>by rw[e] at lc;simp at lc;lia
  obtain⟨h1,h2⟩:=(R.dX hcn).mp hm
  rw[fcol g hK '#' '#',fcol g hK '#' '#'] at h2
  obtain⟨c,hc,hne⟩:=aDZ h2
  refine⟨c,by lia,?_⟩
  rwa [show (((i+1:Nat):Int)-1)=(i:Int) by lia] at hne
theorem aFE{K:List Str}{a b:Nat}(T:Q.Tidy2 K a b)(hj:j<b):∃i:Nat,i+1<a/\R.bD K (i:Int) ((j:Int)-1)≠R.bD K (i:Int) (j:Int):=by
 rcases T.v with ⟨_,_,rfl⟩|⟨hK,t1,t2,g,l,ha,hb⟩
 ·lia
 ·have hm:j∈R.chg K:=by rw[t1];exact kh.mpr hj
  obtain⟨h1,h2⟩:=(R.dX hK).mp hm
  rw[frow g hK '#',frow g hK '#'] at h2
  obtain⟨c,hc,hne⟩:=aDZ h2
  refine⟨c,by lia,?_⟩
  rwa [show (((j+1:Nat):Int)-1)=(j:Int) by lia] at hne
noncomputable def JX(f:Rat->Rat->Bool)(w:Rat):Prop:=∃y,∀x,x<w->∃x',x<=x'/\x'<w/\f x' y≠f w y
theorem oI(u:Up ws)(hi:i<ws.length){x:Rat}(hx:x<ws[i])(h:∀k (hk:k<ws.length),k<i->ws[k]<=x):ix ws x=(i:Int)-1:=
 vB u '#' '#' λk hk=>by
  constructor
  ·intro h1
   have:=(nY u hk hi).mp (by grind)
   lia
  ·intro h1
   exact h k hk '#'
theorem before(u:Up ws)(hi:i<ws.length){x:Rat}(hx:x<ws[i]):∃x',x<=x'/\x'<ws[i]/\ix ws x'=(i:Int)-1:=by
 by_cases h0:i=0
 ·subst h0
  exact⟨x,by grind,hx,oI u hi hx λk _ q=>absurd q (ll _)⟩
 ·have hp:i-1<ws.length:=by lia
  have hl:=(nY u hp hi).mpr '#'
  have le:∀k (hk:k<ws.length),k<i->ws[k]<=ws[i-1]:=λk hk q=>(qT u hk hp).mpr '#'
  by_cases hm:x<=ws[i-1]
  ·exact⟨ws[i-1],hm,hl,oI u hi hl le⟩
  ·exact⟨x,by grind,hx,oI u hi hx λk hk q=>by have:=le k hk q;grind⟩
theorem still(u:Up ws){w:Rat}(hw:w∉ws):∃x,x<w/\∀x',x<=x'->x'<w->ix ws x'=ix ws w:=by
 have a:=vC ws w
 have b:=vG ws w
 by_cases hk:ix ws w = -1
 ·refine⟨w-1,by grind,λx' h1 h2 => ?_⟩
  rw[hk]
  refine vB u '#' '#' λi hi => ?_
  constructor
  ·intro h;have:=(hV (x:=w) u hi).mp (by grind);lia
  ·intro h;lia
 ·have hi:(ix ws w).toNat<ws.length:=by lia
  have hle:=(hV (x:=w) u hi).mpr '#'
  have hne:ws[(ix ws w).toNat]≠w:=λe=>hw (e▸vh hi)
  refine⟨ws[(ix ws w).toNat],by grind,λx' h1 h2 => ?_⟩
  refine vB u a b λi hi' => ?_
  constructor
  ·intro h;exact (hV (x:=w) u hi').mp (by grind)
  ·intro h
   have:=(qT u hi' hi).mpr '#'
   grind
theorem aC7{us:List Rat}{K:List Str}(u:Up ws)(u':Up us)(T:Q.Tidy2 K ws.length us.length)(w:Rat):w∈ws↔JX (inY ws us K) w:=by
 constructor
 ·intro hw
  obtain⟨i,hi,rfl⟩:=kj hw
  obtain⟨j,hj,hne⟩:=wT T hi
  refine⟨us[j],λx hx => ?_⟩
  obtain⟨x',h1,h2,h3⟩:=before u hi hx
  refine⟨x',h1,h2,?_⟩
  unfold inY
  rw[h3,iM u hi,iM u' '#']
  exact hne
 ·rintro⟨y,h⟩
  refine jt λhw => ?_
  obtain⟨x,hx,hs⟩:=still u hw
  obtain⟨x',h1,h2,h3⟩:=h x hx
  unfold inY at h3
  rw[hs x' h1 h2] at h3
  exact h3 rfl
theorem aB6{us:List Rat}{K:List Str}(u:Up ws)(u':Up us)(T:Q.Tidy2 K ws.length us.length)(w:Rat):w∈us↔JX (λy x=>inY ws us K x y) w:=by
 constructor
 ·intro hw
  obtain⟨j,hj,rfl⟩:=kj hw
  obtain⟨i,hi,hne⟩:=aFE T hj
  refine⟨ws[i],λx hx => ?_⟩
  obtain⟨x',h1,h2,h3⟩:=before u' hj hx
  refine⟨x',h1,h2,?_⟩
  unfold inY
  dsimp only
  rw[h3,iM u' hj,iM u '#']
  exact hne
 ·rintro⟨x,h⟩
  refine jt λhw => ?_
  obtain⟨y,hy,hs⟩:=still u' hw
  obtain⟨y',h1,h2,h3⟩:=h y hy
  unfold inY at h3
  dsimp only at h3
  rw[hs y' h1 h2] at h3
  exact h3 rfl
theorem aF4{us ws' us':List Rat}{K K':List Str}(u:Up ws)(v:Up us)(T:Q.Tidy2 K ws.length us.length)(u':Up ws')(v':Up us')(T':Q.Tidy2 K' ws'.length us'.length)(h:∀x y,inY ws us K x y=inY ws' us' K' x y):ws=ws'/\us=us'/\K=K':=by
 have hf:inY ws us K=inY ws' us' K':=funext λx=>funext λy=>h x y
 have e1:ws=ws':=aDW u u' λx=>by rw[aC7 u v T,aC7 u' v' T',hf]
 have e2:us=us':=aDW v v' λx=>by rw[aB6 u v T,aB6 u' v' T',hf]
 subst e1 e2
 refine⟨rfl,rfl,?_⟩
 obtain⟨g,l⟩:=T.good
 obtain⟨g',l'⟩:=T'.good
 refine aIK g g' '#' λa b ha hb => ?_
 have:=h ws[a] us[b]
 unfold inY at this
 rwa [iM u '#',iM v '#'] at this
noncomputable def dN:List Rat->List Rat->List Rat
 |[],ys=>ys
 |x::xs,[]=>x::xs
 |x::xs,y::ys=>if y<x then y::dN (x::xs) ys else if x=y then x::dN xs ys else x::dN xs (y::ys)
termination_by xs ys=>xs.length+ys.length
theorem eU:∀(xs ys:List Rat) (a:Rat),a∈dN xs ys↔a∈xs\/a∈ys
 |[],ys,a=>by rw[dN];simp
 |x::xs,[],a=>by rw[dN];simp
 |x::xs,y::ys,a=>by
  rw[dN]
  split
  ·rw[qr,eU (x::xs) ys a,qr (a:=a) (b:=y)]
   constructor
   ·rintro (h|h|h)
    ·exact .inr (.inl h)
    ·exact .inl h
    ·exact .inr (.inr h)
   ·rintro (h|h|h)
    ·exact .inr (.inl h)
    ·exact .inl h
    ·exact .inr (.inr h)
  ·split
   ·rename_i h1 h2
    subst h2
    rw[qr,eU xs ys a,qr,qr]
    constructor
    ·rintro (h|h|h)
     ·exact .inl (.inl h)
     ·exact .inl (.inr h)
     ·exact .inr (.inr h)
    ·rintro ((h|h)|h|h)
     ·exact .inl h
     ·exact .inr (.inl h)
     ·exact .inl h
     ·exact .inr (.inr h)
   ·rw[qr,eU xs (y::ys) a,qr (a:=a) (b:=x)]
    constructor
    ·rintro (h|h|h)
     ·exact .inl (.inl h)
     ·exact .inl (.inr h)
     ·exact .inr h
    ·rintro ((h|h)|h)
     ·exact .inl h
     ·exact .inr (.inl h)
     ·exact .inr (.inr h)
termination_by xs ys=>xs.length+ys.length
theorem dU:∀{xs ys:List Rat},xs.Pairwise (· < ·)->ys.Pairwise (· < ·)->(dN xs ys).Pairwise (· < ·)
 |[],ys,_,hy=>by rw[dN];exact hy
 |x::xs,[],hx,_=>by rw[dN];exact hx
 |x::xs,y::ys,hx,hy=>by
  obtain⟨x1,x2⟩:=ke.mp hx
  obtain⟨y1,y2⟩:=ke.mp hy
  rw[dN]
  split
  ·rename_i h
   refine ke.mpr ⟨λa ha => ?_,dU hx y2⟩
   rcases (eU _ _ _).mp ha with h1|h1
   ·rcases qr.mp h1 with rfl|h1
    ·exact h
    ·have:=x1 a h1;grind
   ·exact y1 a h1
  ·split
   ·rename_i h1 h2
    subst h2
    refine ke.mpr ⟨λa ha => ?_,dU x2 y2⟩
    rcases (eU _ _ _).mp ha with h1|h1
    ·exact x1 a h1
    ·exact y1 a h1
   ·rename_i h1 h2
    refine ke.mpr ⟨λa ha => ?_,dU x2 hy⟩
    rcases (eU _ _ _).mp ha with h3|h3
    ·exact x1 a h3
    ·rcases qr.mp h3 with rfl|h3
     ·grind
     ·have:=y1 a h3;grind
termination_by xs ys=>xs.length+ys.length
structure Yd where
 ws:List Rat
 us:List Rat
 K:List Str
 uw:Up ws
 uu:Up us
 T:Q.Tidy2 K ws.length us.length
noncomputable def Yd.has(A:Yd)(x y:Rat):Bool:=inY A.ws A.us A.K x y
theorem Yd.ext'{A B:Yd}(h:∀x y,A.has x y=B.has x y):A=B:=by
 obtain⟨ws,us,K,uw,uu,T⟩:=A
 obtain⟨ws',us',K',uw',uu',T'⟩:=B
 obtain⟨rfl,rfl,rfl⟩:=aF4 uw uu T uw' uu' T' h
 rfl
theorem Yd.wide(A:Yd):(∀z∈A.K,z.length=A.ws.length-1)/\A.K.length=A.us.length-1:=⟨λz hz=>(A.T.good.1 z hz).1,A.T.good.2⟩
theorem Yd.steps(A:Yd)(v:Up xs)(v':Up ys)(hs:∀w∈A.ws,w∈xs)(hs':∀w∈A.us,w∈ys):Steps A.has xs ys:=aCU A.uw A.uu A.wide.1 A.wide.2 v v' hs hs'
noncomputable def Yd.ofG(xs ys:List Rat)(zs:List Str)(u:Up xs)(v:Up ys)(g:R.Good (xs.length-1) zs)(hz:zs.length=ys.length-1):Yd where
 ws:=kG xs (R.chg (R.aE zs))
 us:=kG ys (R.chg zs)
 K:=R.bZ zs
 uw:=yA u (R.cC _) (Q.mF λz hz=>(g z hz).1)
 uu:=yA v (R.cC _) (Q.mG hz)
 T:=by
  have:=Q.aBD g
  unfold kG
  rw[zLm,zLm]
  exact this
theorem Yd.ofG_has(u:Up xs)(v:Up ys)(g:R.Good (xs.length-1) zs)(hz:zs.length=ys.length-1)(x y:Rat):(Yd.ofG xs ys zs u v g hz).has x y=R.bD zs (ix xs x) (ix ys y):=aHG u v g hz x y
noncomputable def Yd.ofF(f:Rat->Rat->Bool)(xs ys:List Rat)(u:Up xs)(v:Up ys):Yd:=Yd.ofG xs ys (kA f xs ys) u v (rA f xs ys) (tS f xs ys)
theorem Yd.ofF_has{f:Rat->Rat->Bool}(u:Up xs)(v:Up ys)(h:Steps f xs ys)(x y:Rat):(Yd.ofF f xs ys u v).has x y=f x y:=by
 unfold Yd.ofF
 rw[Yd.ofG_has,aJI h]
theorem mgl{vs:List Rat}:∀w∈ws,w∈dN ws vs:=λw hw=>(eU _ _ _).mpr (.inl hw)
theorem mgr{vs:List Rat}:∀w∈vs,w∈dN ws vs:=λw hw=>(eU _ _ _).mpr (.inr hw)
noncomputable def Yd.op(p:Bool->Bool->Bool)(A B:Yd):Yd:=Yd.ofF (λx y=>p (A.has x y) (B.has x y)) (dN A.ws B.ws) (dN A.us B.us) (dU A.uw B.uw) (dU A.uu B.uu)
theorem Yd.op_has{p:Bool->Bool->Bool}(h0:p false false=false)(A B:Yd)(x y:Rat):(Yd.op p A B).has x y=p (A.has x y) (B.has x y):=
 Yd.ofF_has _ _ ((A.steps (dU A.uw B.uw) (dU A.uu B.uu) mgl mgl).pick (B.steps (dU A.uw B.uw) (dU A.uu B.uu) mgr mgr) p h0) x y
structure On(Sx Sy:List Rat)(A:Yd):Prop where
 x:∀w∈A.ws,w∈Sx
 y:∀w∈A.us,w∈Sy
theorem Yd.void_iff(A:Yd):A.K=[]↔∀x y,A.has x y=false:=by
 constructor
 ·intro h x y
  unfold Yd.has inY
  rw[h]
  cases e:R.bD [] (ix A.ws x) (ix A.us y) with
  |false=>rfl
  |true=>obtain⟨_,_,z,hz,_⟩:=R.xU.mp e;cases hz
 ·intro h
  rcases A.T.v with ⟨e,_,_⟩|⟨hK,t1,t2,g,l,ha,hb⟩
  ·exact e
  ·exfalso
   obtain⟨j,hj,hne⟩:=wT A.T (i:=0) '!'
   have:=h (A.ws[0]' '!') (A.us[j]' '!')
   unfold Yd.has inY at this
   rw[iM A.uw,iM A.uu] at this
   rw[R.eZ '!'] at hne
   exact hne this.symm
noncomputable def Yd.void:Yd:=⟨[],[],[], .nil, .nil,⟨.inl ⟨rfl,rfl,rfl⟩⟩⟩
theorem Yd.void_has(x y:Rat):Yd.void.has x y=false:=(Yd.void_iff _).mp rfl x y
end U
namespace Q
open PySem L2 Z
theorem aF3(p v:Int×Int):eqD (pairD p) (pairD v)=decide (p=v):=by
 obtain⟨a,b⟩:=v
 obtain⟨x,y⟩:=p
 unfold pairD
 simp only[eqD,eqDs,xh]
 by_cases h1:x=a
 ·by_cases h2:y=b
  ·rw[decide_eq_true (by rw[h1,h2])];simp[h1,h2]
  ·rw[decide_eq_false (by intro e;injection e with e1 e2;exact h2 e2)];simp[h2]
 ·rw[decide_eq_false (by intro e;injection e with e1 e2;exact h1 e1)];simp[h1]
end Q
namespace PySem
open Builtin
structure ZAp(z TI TO i1 i2:Addr)(fp1 fp2:List Addr):Prop where
 TIz:TI≠z
 TOz:TO≠z
 i1z:i1≠z
 i2z:i2≠z
 TOi1:TO≠i1
 TOi2:TO≠i2
 i12:i1≠i2
 f1:∀b∈fp1,b≠z/\b≠TO/\b≠i2
 f2:∀b∈fp2,b≠z/\b≠TO/\b≠i1
section
variable {E:Value->Shared->Prop}{z TI TO i1 i2:Addr}{fp1 fp2:List Addr}{n1 n2 k:Nat}{P1 P2:Nat->Value->Prop}{S1 S2:Nat->Heap->Prop}{a b:Value}
end
end PySem
namespace PySem
open PyProof.Rows
section
variable {E:Value->Shared->Prop}
end
end PySem
namespace L2
open PySem PySem.Spec PyProof.Rows
section
end
end L2
namespace Z
open PySem L2
section
variable {a:Expr}{rest:List Expr}
end
end Z
namespace L2
open PySem PySem.Spec PyProof.Rows
section
end
end L2
namespace Z
open PySem L2
section
variable {a:Expr}{rest:List Expr}
end
end Z
namespace Q
open PySem L2 Z
theorem aCG{α:Type}(l:List α)(n:Nat)(h:n<=l.length):cutD l (n:Int).4 none=l.drop n:=by
 unfold cutD
 rw[HT.qK,show HT.sIx l.length 0 (n:Int).4=min n l.length from HT.fZ _ _ n,cz h]
 exact km (by rw[ku];exact qj _)
end Q
namespace Z
open PySem L2
end Z
namespace Q
open PySem L2 Z
end Q
namespace L2
open PySem PySem.Spec PyProof.Rows
end L2
namespace Z
open PySem L2
section
end
end Z
namespace Q
open PySem L2 Z
theorem vP(l:List Str):okDs 0 (l.map D.str)=true:=mZ λd hd=>by obtain⟨z,_,rfl⟩:=qu.mp hd;rfl
end Q
namespace Q
open PySem L2 Z U
noncomputable def pq(q:Rat):Int×Int:=(q.num,(q.den:Int))
noncomputable def fR(q:Rat):D:=pairD (pq q)
noncomputable def aS(xs:List Rat):List D:=xs.map fR
theorem bY(xs:List Rat):(aS xs).length=xs.length:=zLm ..
structure Bq(q:Rat):Prop where
 a:q.num.natAbs<10^400
 b:q.den<10^400
noncomputable def BqL(xs:List Rat):Prop:=∀x∈xs,Bq x
theorem aBV(a b:Rat):ltP (pq a) (pq b)=decide (a<b):=by
 unfold ltP pq
 rw[decide_eq_decide]
 exact (Rat.lt_iff a b).symm
theorem aKP{a b:Rat}:pq a=pq b↔a=b:=by
 constructor
 ·intro e
  unfold pq at e
  injection e with e1 e2
  exact Rat.ext e1 '!'
 ·intro e;rw[e]
theorem aB8(a b:Rat):eqD (fR a) (fR b)=decide (a=b):=by
 unfold fR
 rw[aF3,decide_eq_decide,aKP]
noncomputable def aJH:Ct:=λds M k=>∃p q:Int×Int,ds=[pairD p,pairD q]/\(p.1.natAbs<10^400/\p.2.natAbs<10^400)/\(q.1.natAbs<10^400/\q.2.natAbs<10^400)/\k (.bl (ltP p q)) M
theorem w65{p:Int×Int}(h:p.1.natAbs<10^65/\p.2.natAbs<10^65):p.1.natAbs<10^400/\p.2.natAbs<10^400:=⟨qo h.1 (me '*' '*'),qo h.2 (me '*' '*')⟩
theorem rC(xs ys:List Rat):aS xs++aS ys=aS (xs++ys):=by unfold aS;rw[qg]
noncomputable def yd(A:Yd):D:=pH (aS A.ws) (aS A.us) A.K
theorem l9(xs:List Rat):∀x∈aS xs,okD 1 x=true:=λx hx=>by
 obtain⟨q,_,rfl⟩:=qu.mp hx
 rfl
theorem rZ(A:Yd):okD 3 (yd A)=true:=nE _ (l9 _) (l9 _)
theorem wV:∀(a b:List Rat),eqDs (aS a) (aS b)=decide (a=b)
 |[],[]=>rfl
 |[],b::bs=>by unfold aS;simp[eqDs]
 |a::as,[]=>by unfold aS;simp[eqDs]
 |a::as,b::bs=>by
  have ih:=wV as bs
  unfold aS at ih ⊢
  simp only[jw,eqDs]
  rw[aB8,ih]
  by_cases h1:a=b <;> by_cases h2:as=bs <;> simp[h1,h2]
theorem wE:∀(a b:List Str),eqDs (a.map D.str) (b.map D.str)=decide (a=b)
 |[],[]=>rfl
 |[],b::bs=>by simp[eqDs]
 |a::as,[]=>by simp[eqDs]
 |a::as,b::bs=>by
  have ih:=wE as bs
  simp only[jw,eqDs]
  rw[ih]
  by_cases h1:a=b <;> by_cases h2:as=bs <;> simp[h1,h2,eqD]
theorem aK5{A B:Yd}:A=B↔A.ws=B.ws/\A.us=B.us/\A.K=B.K:=by
 constructor
 ·intro e;subst e;exact⟨rfl,rfl,rfl⟩
 ·obtain⟨ws,us,K,_,_,_⟩:=A
  obtain⟨ws',us',K',_,_,_⟩:=B
  rintro⟨rfl,rfl,rfl⟩
  rfl
noncomputable instance:DecidableEq Yd:=λ_ _=>zk _
theorem aGZ(A B:Yd):eqD (yd A) (yd B)=decide (A=B):=by
 unfold yd pH
 simp only[eqD,eqDs,wV,wE,xh]
 by_cases h:A=B
 ·subst h;simp
 ·rw[decide_eq_false h]
  by_cases h1:A.ws=B.ws
  ·by_cases h2:A.us=B.us
   ·have h3:A.K≠B.K:=λe=>h (aK5.mpr ⟨h1,h2,e⟩)
    simp[h3]
   ·simp[h2]
  ·simp[h1]
structure Bnd(S:List Rat):Prop where
 len:S.length<=90
 b:BqL S
noncomputable def aGU(a b:Bool):Bool:=a&&b
noncomputable def aHI(a b:Bool):Bool:=a||b
noncomputable def aG0(a b:Bool):Bool:=a && !b
end Q
namespace U
open PySem
inductive Cmp(g:Rat->Rat):Rat->List Rat->List Rat->Prop
 |nil {v:Rat}{xs:List Rat} (hv:v=0) (h:∀x∈xs,g x=0):Cmp g v xs []
 |skip {v a:Rat}{r ws:List Rat} (e:g a=v) (h:Cmp g v r ws):Cmp g v (a::r) ws
 |keep {v a:Rat}{r ws:List Rat} (h:Cmp g (g a) r ws):Cmp g v (a::r) (a::ws)
noncomputable def qQ(ws:List Rat):List Rat:=ws.reverse.map λx=>0-x
theorem aE3(ws:List Rat):(qQ ws).length=ws.length:=by unfold qQ;rw[zLm,yf]
theorem aII(u:Up ws):Up (qQ ws):=by
 unfold qQ Up
 rw[fk,List.pairwise_reverse]
 exact u.imp λh=>by grind
noncomputable def Yd.turn(A:Yd):Yd where
 ws:=qQ A.us
 us:=A.ws
 K:=(R.aE A.K).map R.d9
 uw:=aII A.uu
 uu:=A.uw
 T:=by rw[aE3];exact Q.aBO A.T
end U
namespace Q
open PySem L2 Z U
structure Fr(m B:Nat)(q:Rat):Prop where
 ex:∃k:Int,q*(m:Rat)=(k:Rat)/\k.natAbs<=B
noncomputable def FrL(m B:Nat)(ws:List Rat):Prop:=∀w∈ws,Fr m B w
noncomputable def sm:Nat:=10^60
theorem uZ(u:Up ws):dQ (.tup (aS ws))=true:=by
 show ((aS ws).all gA&&upP ((aS ws).map toP))=true
 rw[qi]
 constructor
 ·rw[jf]
  intro d hd
  obtain⟨q,_,rfl⟩:=qu.mp hd
  refine lC.mpr ⟨_,rfl,by show (1:Int)<=(q.den:Int);have:=q.den_pos;omega,?_⟩
  have:=q.reduced
  rw[yq]
  exact this
 ·have e:(aS ws).map toP=ws.map pq:=by
   unfold aS
   rw[xj];rfl
  rw[e]
  unfold upP
  rw[jf,zLm]
  intro i hi
  have hi':=kh.mp hi
  have a:∀j (hj:j<ws.length),(ws.map pq).getD j (0,1)=pq ws[j]:=λj hj=>by
   rw[zGd,qk,zGe hj];rfl
  rw[a i '!',a (i+1) '!',aBV]
  exact decide_eq_true ((U.nY u '!' '!').mpr '!')
theorem aJJ(A:Yd):nM (yd A)=true:=by
 rcases A.T.v with ⟨e,e1,e2⟩|⟨hK,t1,t2,g,l,ha,hb⟩
 ·unfold yd
  rw[e,jm.mp e1,jm.mp e2];exact aA2
 ·have hkl:A.K.length=A.us.length-1:=by omega
  show yard3 (.tup (aS A.ws)) (.tup (aS A.us)) (.tup (A.K.map .str))=true
  rw[qL,uZ A.uw,uZ A.uu,lD,bY,bY,aKY hkl (λz hz=>(g z hz).1),aF6 g]
  have e:oA (aS A.ws) (aS A.us) A.K = .tup [.tup (aS A.ws), .tup (aS A.us), .tup (A.K.map .str)]:=by
   unfold oA
   have a1:kB (aS A.ws) (R.chg (R.aE A.K))=aS A.ws:=by
    rw[t2,<- bY];exact rD _ _
   have a2:kB (aS A.us) (R.chg A.K)=aS A.us:=by
    rw[t1,<- bY];exact rD _ _
   rw[a1,a2,aED t1 t2 g hkl];rfl
  rw[e]
  exact eqD_refl 3 _ (rZ A)
end Q
namespace Q
open PySem L2 Z U
theorem hB(A B:Yd)(x y:Rat):(Yd.op aGU A B).has x y=(A.has x y&&B.has x y):=Yd.op_has rfl A B x y
theorem hE(A B:Yd)(x y:Rat):(Yd.op aHI A B).has x y=(A.has x y||B.has x y):=Yd.op_has rfl A B x y
theorem hL(A B:Yd)(x y:Rat):(Yd.op aG0 A B).has x y=(A.has x y && !B.has x y):=Yd.op_has rfl A B x y
theorem in1(A B:Yd):Yd.op aG0 (Yd.op aGU A B) A=Yd.void:=Yd.ext' λx y=>by rw[hL,hB,Yd.void_has];cases A.has x y <;> cases B.has x y <;> rfl
structure Y8(A:Yd):Prop where
 x:FrL 6 100000000000 A.ws
 y:FrL 6 100000000000 A.us
 lx:A.ws.length<=7
 ly:A.us.length<=7
structure S8(S:List Rat):Prop where
 len:S.length<=30
 fr:FrL 6 100000000000 S
structure O8(Sx Sy:List Rat)(A:Yd):Prop where
 on:On Sx Sy A
 sx:S8 Sx
 sy:S8 Sy
theorem aJ6{a:Int}{b:Nat}(h:q.num=a)(h':q.den=b):fR q = .tup [.int a, .int (b:Int)]:=by unfold fR pq pairD;rw[h,h']
end Q
namespace Q
open PySem L2 Z U
end Q
namespace Q
open PySem L2 Z U
noncomputable def pm(A:U.Yd):List Rat:=A.ws++A.us++qQ A.ws++qQ A.us
theorem nn(x:Rat):(0:Rat)-(0-x)=x:=by grind
structure P4(a b c d:Rat):Prop where
 fa:Fr 2520 1000000 a
 fb:Fr 2520 1000000 b
 fc:Fr 2520 1000000 c
 fd:Fr 2520 1000000 d
 c0:0<c
 d0:0<d
noncomputable def mm:Nat:=2520*2520*2520
structure Sk(q:Rat):Prop where
 fr:Fr mm (10^40) q
structure Y10(A:U.Yd):Prop where
 x:FrL 2520 10000000000000 A.ws
 y:FrL 2520 10000000000000 A.us
 lx:A.ws.length<=14
 ly:A.us.length<=14
structure Y11(A:U.Yd):Prop where
 x:FrL (2520*2520) 100000000000000000000 A.ws
 y:FrL (2520*2520) 100000000000000000000 A.us
 lx:A.ws.length<=14
 ly:A.us.length<=14
noncomputable def tn:Nat->U.Yd->U.Yd
 |0,A=>A
 |n+1,A=>(tn n A).turn
structure Ps(a:Rat):Prop where
 fr:Fr 2520 1000000 a
 p:0<a
 inv:Fr 2520 1000000 (1/a)
end Q
namespace Z
open PySem L2
noncomputable def Fo(P:Program)(w:World)(K:qb)(mg:Str->Option Value)(base:Heap)(x:Str)(st:Stmt)(ps:List Str)(n:Nat)(c:Ct):Prop:=∃f fd,R.Df K mg x st ps f fd/\FnOk P w K mg base CX0 n f fd ps (spZ K c)
theorem aQ{p:Pos}{ps:List Str}{c:Ct}(g:Fo X.prog X.w X.K X.mg X.base x st ps n c)(hr:Room j X.A)(h:GA X (e::es) Γ M λds M1=>c ds M1 k)(hn:n<=j:=by decide)(hg:Gl X x:=by rfl)(hdb:(x==("__debug__" : Str))=false:=by decide)(he:qp (e::es) X.env=(false,eval e X.env)::qp es X.env:=by rfl)(hpl:(x9 pos (qp es X.env)).any (·.1)=false:=by rfl):
  GE X (.Call (.Name x p) (e::es) [] pos) Γ M k:=by
 obtain⟨f,fd,D,G⟩:=g
 exact aH9 G (hr.mono hn) D.m D.F.kp D.b h hg hdb he hpl
end Z
namespace U
open PySem
noncomputable def hit(s:Bool)(ws:List Rat)(dn up:Rat)(h:Int->Bool)(x:Rat):Prop:=∃u,x-up<=u/\u<=x+dn/\h (ix ws u)=s
open Classical in
noncomputable def gro(s:Bool)(ws:List Rat)(dn up:Rat)(h:Int->Bool)(x:Rat):Bool:=if hit s ws dn up h x then s else !s
noncomputable def aA6(ws:List Rat)(dn:Rat):List Rat:=ws.map (· - dn)
noncomputable def aBG(ws:List Rat)(up:Rat):List Rat:=ws.map (· + up)
noncomputable def aA4(ws:List Rat)(dn up:Rat):List Rat:=dN (aA6 ws dn) (aBG ws up)
theorem aIS(u:Up ws)(dn:Rat):Up (aA6 ws dn):=by unfold aA6 Up;rw[fk];exact u.imp λh=>by grind
theorem aHM(u:Up ws)(up:Rat):Up (aBG ws up):=by unfold aBG Up;rw[fk];exact u.imp λh=>by grind
theorem zV(u:Up ws)(dn up:Rat):Up (aA4 ws dn up):=dU (aIS u dn) (aHM u up)
noncomputable def growS(s:Bool)(ws:List Rat)(dn up:Rat)(z:Str):Str:=R.ofL ((aA4 ws dn up).dropLast.map λx=>R.sg (gro s ws dn up (λi=>R.bD [z] i 0) x))
noncomputable def groF(s:Bool)(A:Yd)(a b c d:Rat)(x y:Rat):Bool:=gro s A.us b d (λr=>gro s A.ws a c (λi=>R.bD A.K i r) x) y
structure Nn(a b c d:Rat):Prop where
 a:0<=a
 b:0<=b
 c:0<=c
 d:0<=d
noncomputable def Yd.grow(A:Yd)(s:Bool)(a b c d:Rat):Yd:=Yd.ofF (groF s A a b c d) (aA4 A.ws a c) (aA4 A.us b d) (zV A.uw a c) (zV A.uu b d)
structure Bx where
 w:Rat
 s:Rat
 e:Rat
 n:Rat
structure Bx.Ok(b:Bx):Prop where
 w:0<=b.w
 s:0<=b.s
 e:0<=b.e
 n:0<=b.n
noncomputable def Yd.cut(A:Yd)(b:Bx):Yd:=A.grow false b.e b.n b.w b.s
noncomputable def Yd.back(A:Yd)(b:Bx):Yd:=A.grow true b.w b.s b.e b.n
end U
namespace Q
open PySem L2 Z U
theorem o4(l:List Nat)(e:Nat)(h:e<=l.length):dI (R.ofL l) (e:Int).4 none=R.ofL (l.drop e):=by
 have:=aCG l e h
 unfold cutD at this
 unfold dI jH R.ofL
 rw[<- this]
structure Gr(ws:List Rat)(dn up:Rat):Prop where
 u:Up ws
 d0:0<=dn
 u0:0<=up
 b:BqL ws
 bd:Bq dn
 bu:Bq up
 lo:BqL (aA6 ws dn)
 hi:BqL (aBG ws up)
 len:ws.length<=90
noncomputable def bxP(p q r s:Int)(t:Rat):Bx:=⟨(p:Rat)*t,(q:Rat)*t,(r:Rat)*t,(s:Rat)*t⟩
structure CutOk(A:Yd)(p q r s:Int)(t:Rat):Prop where
 hp:p.natAbs<1000
 hq:q.natAbs<1000
 hr:r.natAbs<1000
 hs:s.natAbs<1000
 ht:Bq t
 xc:Gr A.ws (bxP p q r s t).e (bxP p q r s t).w
 yc:Gr A.us (bxP p q r s t).n (bxP p q r s t).s
 xb:Gr A.ws (bxP p q r s t).w (bxP p q r s t).e
 yb:Gr A.us (bxP p q r s t).s (bxP p q r s t).n
end Q
namespace Q
open PySem L2 Z U PySem.NumText
noncomputable def iT(n:Int):Str:=jb (toString n)
theorem nD:∀(k m:Nat),m<10^(k+1)->(di 10 m).length<=k+1
 |0,m,h=>by
  rw[gh '!']
  exact qj 1
 |k+1,m,h=>by
  by_cases h1:m<10
  ·rw[gh h1]
   show 1<=k+1+1
   omega
  ·have hm:m%10<10:=Nat.mod_lt m '*'
   have t:di 10 (m/10)++di 10 (m%10)=di 10 (10*(m/10)+m%10):=Nat.toDigits_append_toDigits '*' '!' hm
   rw[Nat.div_add_mod] at t
   rw[<- t,ql,gh hm]
   have:=nD k (m/10) (by rw[Nat.div_lt_iff_lt_mul '*',<- QX];exact h)
   show _+1<=_
   omega
structure Dg(z:Str):Prop where
 ne:z.cps.toList≠[]
 all:AllDigits z.cps.toList
 le:z.length<=60
theorem nZ(h:m<10^60):Dg (iT (m:Int)):=by
 have e:=we m
 refine⟨?_,?_,?_⟩
 ·show (jb (toString ((m:Nat):Int))).cps.toList≠[]
  rw[e]
  intro z
  have h:=PySem.toDigits_len_ge 10 m
  rw[List.map_eq_nil_iff.mp z] at h
  exact absurd h '*'
 ·show AllDigits (jb (toString ((m:Nat):Int))).cps.toList
  rw[e]
  intro c hc
  obtain⟨ch,hch,ec⟩:=qu.mp hc
  rw[<- ec]
  exact nr (Qi '*' '*' hch)
 ·show (jb (toString ((m:Nat):Int))).cps.size<=60
  rw[<- qa,e,zLm]
  exact nD 59 m h
theorem lH(h:m<10^60):yk (iT (m:Int))=some (m:Int):=by
 have d:=nZ h
 have e:=intText_digits d.all d.ne (ji d.le '*')
 rw[e]
 have e2:(iT (m:Int)).cps.toList=_:=we m
 rw[e2,ft]
theorem i5(m:Nat):(iT (-((m+1:Nat):Int))).cps.toList=45::(iT ((m+1:Nat):Int)).cps.toList:=by
 have e2:(iT ((m+1:Nat):Int)).cps.toList=_:=we (m+1)
 rw[e2]
 show (jb (toString (Int.negSucc m))).cps.toList=_
 rw[VD]
 show ("-" ++ Nat.repr (m+1)).toList.map VT=_
 rw[String.toList_append,qg,Nat.toList_repr]
 rfl
theorem aB4(h:m+1<10^60):yk (iT (-((m+1:Nat):Int)))=some (-((m+1:Nat):Int)):=by
 have d:=nZ h
 have l:(iT (-((m+1:Nat):Int))).length<=61:=by
  show (iT (-((m+1:Nat):Int))).cps.size<=61
  rw[<- qa,i5]
  have:=d.le
  have e:(iT ((m+1:Nat):Int)).length=(iT ((m+1:Nat):Int)).cps.toList.length:=by rw[qa];rfl
  rw[qf]
  omega
 have e:=intText_neg (i5 m) d.all d.ne (ji l '*')
 rw[e]
 have e2:(iT ((m+1:Nat):Int)).cps.toList=_:=we (m+1)
 rw[e2,ft]
theorem eN{n:Int}(h:n.natAbs<10^60):yk (iT n)=some n/\(iT n).length<=61/\(∀c∈(iT n).cps.toList,c=45\/48<=c/\c<=57)/\yl (iT n) ⟨#[45]⟩=decide (n<0)/\(n<0->dI (iT n) (1).4 none=iT (n.natAbs:Int)):=by
 have sw:∀z:Str,yl z ⟨#[45]⟩=decide (z.cps.toList[0]?=some 45):=λz=>by
  unfold yl
  rw[xx,qi,decide_eq_true_eq,decide_eq_true_eq]
  exact y8 z 45 0
 by_cases h0:n<0
 ·obtain⟨m,rfl⟩:∃m:Nat,n = -((m+1:Nat):Int):=⟨n.natAbs-1,by omega⟩
  have hm:m+1<10^60:=by omega
  have d:=nZ hm
  have lz:(iT (-((m+1:Nat):Int))).length=(iT ((m+1:Nat):Int)).length+1:=by
   show (iT (-((m+1:Nat):Int))).cps.size=(iT ((m+1:Nat):Int)).cps.size+1
   rw[<- qa,i5,qf,qa]
  refine⟨aB4 hm,by have:=d.le;omega,λc hc => ?_,?_,λ_ => ?_⟩
  ·rw[i5] at hc
   rcases qr.mp hc with e|e
   ·exact .inl e
   ·exact .inr (d.all c e)
  ·rw[sw,i5]
   simp[h0]
  ·have e:=o4 (iT (-((m+1:Nat):Int))).cps.toList 1 (by rw[i5,qf];omega)
   rw[show (-((m+1:Nat):Int)).natAbs=m+1 by omega]
   refine e.trans ?_
   rw[i5]
   rfl
 ·obtain⟨m,rfl⟩:∃m:Nat,n=(m:Int):=⟨n.toNat,by omega⟩
  have hm:m<10^60:=by omega
  have d:=nZ hm
  refine⟨lH hm,by have:=d.le;omega,λc hc => .inr (d.all c hc),?_,λz=>absurd z h0⟩
  rw[sw,decide_eq_false h0,decide_eq_false]
  intro e
  have:=d.all 45 (zMo e)
  omega
theorem aAB{n:Int}(h:n.natAbs<10^60):n.natAbs.log2<1920:=by
 by_cases z:n.natAbs=0
 ·rw[z];decide
 ·exact (Jw z).mpr (dj h '-')
structure Sm(q:Rat):Prop where
 a:q.num.natAbs<10^60
 b:q.den<10^60
noncomputable def nT(q:Rat):Str:=if q.den=1 then iT q.num else iT q.num++("/" : Str)++iT (q.den:Int)
theorem kW:("/" : Str)=⟨#[47]⟩:=by decide +kernel
theorem qS{T B:Str}(h:47∉T.cps.toList):cV (T++("/" : Str)++B) ("/" : Str)=(T,("/" : Str),B):=by
 have hl:(T++("/" : Str)++B).cps.toList=T.cps.toList++47::B.cps.toList:=by
  rw[kW]
  show (T.cps ++ #[47]++B.cps).toList=_
  rw[zi,zi,y4]
  rfl
 generalize T++("/" : Str)++B=x at hl
 rw[kW]
 have at_:∀i,StrLaws.At x ⟨#[47]⟩ x.length i↔x.cps.toList[i]?=some 47:=λi=>y8 x 47 i
 have lT:T.cps.toList.length=T.length:=by rw[qa];rfl
 have lx:x.length=x.cps.toList.length:=by rw[qa];rfl
 have hit:x.cps.toList[T.length]?=some 47:=by rw[hl,<- lT];simp
 rcases pb x ⟨#[47]⟩ 1 (qj 1) with ⟨_,hn⟩|⟨i,r,ho,hA,hn⟩
 ·exact absurd ((at_ _).mpr hit) (hn _)
 have ei:i=T.length:=by
  rcases JU i T.length with z|z|z
  ·have:=(at_ i).mp hA
   rw[hl,vt '!'] at this
   exact absurd (zMo this) h
  ·exact z
  ·exact absurd ((at_ _).mpr hit) (hn _ z)
 subst ei
 unfold cV
 rw[ho]
 have e1:cc x 0 T.length=T:=by
  apply Kx
  apply fv.mp
  rw[mf,hl,dk,rd,<- lT]
  simp
 have e2:cc x (T.length+1) x.length=B:=by
  apply Kx
  apply fv.mp
  rw[mf,lx,hl,<- lT,show T.cps.toList++47::B.cps.toList=(T.cps.toList++[47])++B.cps.toList by simp,td '$']
  exact km (by simp;omega)
 show (cc x 0 T.length,_,cc x (T.length+1) x.length)=_
 rw[e1,e2]
theorem sM{T:Str}(h:47∉T.cps.toList):cV T ("/" : Str)=(T,ja,ja):=by
 rw[kW]
 rcases pb T ⟨#[47]⟩ 1 (qj 1) with ⟨ho,_⟩|⟨i,r,ho,hA,hn⟩
 ·unfold cV
  rw[ho]
 ·exact absurd (zMo ((y8 T 47 i).mp hA)) h
theorem kK(h:Sm q):cV (nT q) ("/" : Str)=if q.den=1 then (iT q.num,ja,ja) else (iT q.num,("/" : Str),iT (q.den:Int)):=by
 have n47:47∉(iT q.num).cps.toList:=λz=>by have:=(eN h.a).2.2.1 47 z;omega
 unfold nT
 split
 ·exact sM n47
 ·exact qS n47
theorem wR(h:Sm q):∀c∈(nT q).cps.toList,45<=c/\c<=57:=by
 have a1:=(eN h.a).2.2.1
 have a2:=(eN (n:=(q.den:Int)) (by rw[vq];exact h.b)).2.2.1
 intro c hc
 unfold nT at hc
 split at hc
 ·have:=a1 c hc;omega
 ·rw[kW] at hc
  have e:(iT q.num++(⟨#[47]⟩:Str)++iT (q.den:Int)).cps.toList=(iT q.num).cps.toList++[47]++(iT (q.den:Int)).cps.toList:=by
   show ((iT q.num).cps ++ #[47]++(iT (q.den:Int)).cps).toList=_
   rw[zi,zi]
  rw[e,kv,kv,vb] at hc
  rcases hc with (hc|hc)|hc
  ·have:=a1 c hc;omega
  ·omega
  ·have:=a2 c hc;omega
theorem xV(h:Sm q):(nT q).length<=130:=by
 have a1:=(eN h.a).2.1
 have a2:=(eN (n:=(q.den:Int)) (by rw[vq];exact h.b)).2.1
 unfold nT
 split
 ·omega
 ·rw[show ∀x y:Str,(x++y).length=x.length+y.length from λx y=>ff ..,show ∀x y:Str,(x++y).length=x.length+y.length from λx y=>ff ..]
  have:("/" : Str).length=1:=by decide +kernel
  omega
end Q
namespace Q
open PySem L2 Z U
theorem eI(h:x.cps.toList=y.cps.toList):x=y:=Kx (fv.mp h)
theorem eS(x y:Str):(x++y).cps.toList=x.cps.toList++y.cps.toList:=by
 show (x.cps++y.cps).toList=_
 rw[zi]
theorem cA(x y:Str):(x++y).length=x.length+y.length:=ff ..
theorem xC(x:Str):x++ja=x:=eI (by rw[eS];exact w8 _)
theorem uA{c:Nat}:∀{p w a b:List Nat},c∉p->c∉w->p++c::a=w++c::b->p=w/\a=b
 |[],[],a,b,_,_,h=>⟨rfl,(yn h).2⟩
 |[],y::w,a,b,_,hw,h=>absurd ((yn h).1▸jh ..) hw
 |x::p,[],a,b,hp,_,h=>absurd ((yn h).1▸jh ..) hp
 |x::p,y::w,a,b,hp,hw,h=>by
  obtain⟨e1,e2⟩:=yn (show x::(p++c::a)=y::(w++c::b) from h)
  obtain⟨e3,e4⟩:=uA (λz=>hp (qm _ z)) (λz=>hw (qm _ z)) e2
  exact⟨by rw[e1,e3],e4⟩
theorem jG(c:Nat)(x y:Str)(r:List Str):(wb ⟨#[c]⟩ (x::y::r)).cps.toList=x.cps.toList++c::(wb ⟨#[c]⟩ (y::r)).cps.toList:=by
 show (x++(⟨#[c]⟩:Str)++wb ⟨#[c]⟩ (y::r)).cps.toList=_
 rw[eS,eS,y4]
 rfl
theorem wA{c:Nat}:∀{ps ws:List Str},ps≠[]->ws≠[]->(∀p∈ps,c∉p.cps.toList)->(∀w∈ws,c∉w.cps.toList)->wb ⟨#[c]⟩ ps=wb ⟨#[c]⟩ ws->ps=ws
 |[],_,h,_,_,_,_=>absurd rfl h
 |_,[],_,h,_,_,_=>absurd rfl h
 |[p],[w],_,_,_,_,h=>by rw[show p=w from h]
 |[p],w::w2::r,_,_,hp,hw,h=>by
  have:=congrArg (λz:Str=>z.cps.toList) h
  rw[jG] at this
  exact absurd (show c∈p.cps.toList by rw[show p.cps.toList=_ from this];simp) (hp p (jh ..))
 |p::p2::r,[w],_,_,hp,hw,h=>by
  have:=congrArg (λz:Str=>z.cps.toList) h
  rw[jG] at this
  exact absurd (show c∈w.cps.toList by rw[show w.cps.toList=_ from this.symm];simp) (hw w (jh ..))
 |p::p2::r,w::w2::r2,_,_,hp,hw,h=>by
  have:=congrArg (λz:Str=>z.cps.toList) h
  rw[jG,jG] at this
  obtain⟨e1,e2⟩:=uA (hp p (jh ..)) (hw w (jh ..)) this
  have ih:=wA (ps:=p2::r) (ws:=w2::r2) '$' '$' (λz hz=>hp z (qm _ hz)) (λz hz=>hw z (qm _ hz)) (eI e2)
  rw[eI e1,ih]
theorem xI(x:Str)(c:Nat):yx x ⟨#[c]⟩≠[]:=by
 unfold yx
 split
 ·simp
 ·split
  ·simp
  ·rw[StrLaws.partsBetween_eq]
   obtain⟨p,r,e⟩:=StrLaws.partsFrom_ne x (⟨#[c]⟩:Str).length 0 (jz x ⟨#[c]⟩ 0 x.length (x.length+1))
   rw[e]
   simp
theorem yS{ws:List Str}(hne:ws≠[])(h:∀w∈ws,32∉w.cps.toList):yx (zm ⟨#[32]⟩ ws) ⟨#[32]⟩=ws:=by
 refine wA (c:=32) (xI _ _) hne (QM _ 32) h ?_
 rw[lu]
 exact bc _ _
theorem lE:(" " : Str)=⟨#[32]⟩:=by decide +kernel
theorem sH:(";" : Str)=⟨#[59]⟩:=by decide +kernel
noncomputable def c7(A:Yd):List Str:=A.ws.map nT++[(";" : Str)]++A.us.map nT++[(";" : Str)]++A.K
noncomputable def yT(A:Yd):Str:=if A=Yd.void then ("void" : Str) else zm (" " : Str) (c7 A)
structure SmY(A:Yd):Prop where
 x:∀w∈A.ws,Sm w
 y:∀w∈A.us,Sm w
 lx:A.ws.length<=12
 ly:A.us.length<=12
theorem tG(h:Sm q):nT q≠(";" : Str):=λe=>by
 have:=wR h 59 (by rw[e,sH];simp)
 omega
theorem wB{A:Yd}{z:Str}(hz:z∈A.K):z≠(";" : Str)/\32∉z.cps.toList:=by
 have g:=(A.T.good.1 z hz).2
 rw[jf] at g
 refine⟨λe => ?_,λm => ?_⟩
 ·have:=g 59 (by rw[e,sH];simp)
  revert this;decide
 ·have:=g 32 m
  revert this;decide
theorem SmY.free{A:Yd}(h:SmY A):∀w∈c7 A,32∉w.cps.toList:=by
 intro w hw
 unfold c7 at hw
 simp only[kv,qu,vb] at hw
 have n1:∀{q},Sm q->32∉(nT q).cps.toList:=λhq z=>by have:=wR hq 32 z;omega
 have s1:32∉(";" : Str).cps.toList:=by rw[sH];decide
 rcases hw with (((⟨q,hq,rfl⟩|rfl)|⟨q,hq,rfl⟩)|rfl)|hw
 ·exact n1 (h.x q hq)
 ·exact s1
 ·exact n1 (h.y q hq)
 ·exact s1
 ·exact (wB hw).2
theorem cnt0{l:List Str}(h:∀w∈l,w≠(";" : Str)):l.count (";" : Str)=0:=vn.mpr λz=>h _ z rfl
theorem SmY.cnt{A:Yd}(h:SmY A):(c7 A).count (";" : Str)=2:=by
 unfold c7
 rw[vf,vf,vf,vf,cnt0 (l:=A.ws.map nT),cnt0 (l:=A.us.map nT),cnt0 (l:=A.K),List.count_singleton_self]
 ·exact λw hw=>(wB hw).1
 ·exact λw hw=>by obtain⟨q,hq,rfl⟩:=qu.mp hw;exact tG (h.y q hq)
 ·exact λw hw=>by obtain⟨q,hq,rfl⟩:=qu.mp hw;exact tG (h.x q hq)
theorem aAO(A:Yd):c7 A=A.ws.map nT++(";" : Str)::(A.us.map nT++(";" : Str)::A.K):=by unfold c7;simp
noncomputable def aIM:Ct:=λds M k=>∃q:Rat,ds=[fR q]/\Sm q/\k (.str (nT q)) M
noncomputable def aJY:Ct:=λds M k=>∃q:Rat,ds=[.str (nT q)]/\Sm q/\k (fR q) M
noncomputable def aJC:Ct:=λds M k=>∃A:Yd,ds=[yd A]/\SmY A/\k (.str (yT A)) M
end Q
namespace Q
open PySem L2 Z U
theorem aDR{c:Nat}(h:48<=c/\c<=57):c∈("0123456789" : Str).cps.toList:=by
 have e:("0123456789" : Str).cps.toList=[48,49,50,51,52,53,54,55,56,57]:=by decide +kernel
 rw[e]
 have:c=48\/c=49\/c=50\/c=51\/c=52\/c=53\/c=54\/c=55\/c=56\/c=57:=by omega
 simpa using this
theorem aJ4(q:Rat):gA (fR q)=true:=lC.mpr ⟨pq q,rfl,by show (1:Int)<=(q.den:Int);have:=q.den_pos;omega,q.reduced⟩
theorem aEQ(h:Sm q):tameB 1 (fR q)=true:=by
 have k:(10:Nat)^60<10^65:=by decide +kernel
 have a:=h.a
 have b:=h.b
 show (decide (2<=100)&&(decide (q.num.natAbs<10^65)&&(decide ((q.den:Int).natAbs<10^65)&&true)))=true
 rw[decide_eq_true (show q.num.natAbs<10^65 by omega),decide_eq_true (show (q.den:Int).natAbs<10^65 by omega)]
 rfl
theorem aER{A:Yd}(h:SmY A){w:Str}(hw:w∈c7 A):w.length<=130:=by
 unfold c7 at hw
 simp only[kv,qu,vb] at hw
 have s1:(";" : Str).length<=130:=by decide +kernel
 rcases hw with (((⟨q,hq,rfl⟩|rfl)|⟨q,hq,rfl⟩)|rfl)|hw
 ·exact xV (h.x q hq)
 ·exact s1
 ·exact xV (h.y q hq)
 ·exact s1
 ·have:=A.wide.1 w hw
  have:=h.lx
  omega
theorem aDL{B:Nat}:∀{l:List Str},(∀w∈l,w.length<=B)->(l.map (·.length)).sum<=l.length*B
 |[],_=>by simp
 |x::l,h=>by
  have:=aDL (l:=l) λw hw=>h w (qm _ hw)
  have:=h x (jh ..)
  rw[jw,wz,qf,rb]
  omega
theorem aIV{A:Yd}(h:SmY A):(c7 A).length<=40:=by
 have lx:=h.lx
 have ly:=h.ly
 have lK:=A.wide.2
 unfold c7
 simp only[ql,zLm,qf,jk]
 omega
theorem aDM{A:Yd}(h:SmY A):((c7 A).map (·.length)).sum+(c7 A).length<=1048576:=by
 have a:=aDL (B:=130) λw hw=>aER h hw
 have b:=aIV h
 have:(c7 A).length*130<=40*130:=Nat.mul_le_mul b (qj _)
 omega
theorem join_le(sep:Str):∀l:List Str,(wb sep l).length<=(l.map (·.length)).sum+l.length*sep.length
 |[]=>vy _
 |[x]=>by show x.length<=_;simp
 |x::y::l=>by
  have:=join_le sep (y::l)
  show (x++sep++wb sep (y::l)).length<=_
  rw[cA,cA,jw,wz,qf,rb]
  omega
end Q
namespace Q
open PySem L2 Z U
end Q
namespace L2
open PySem PySem.Spec PyProof.Rows Builtin Builtin.Str
section
noncomputable def aAS:V->List V->Hp->VK->Prop:=λx vs H Q=>∃(z:v9) (c:Nat),x = .str z/\vs=[.str ⟨#[c]⟩]/\c<256/\z.length<=100000/\∀p,H p=none->Q (.ref p) (upd H p (.lst ((yx z ⟨#[c]⟩).map V.str)))
theorem uB:MtR X "str.split" aAS:=by
 intro pins s σ H x vs v us Q I rx rv h
 obtain⟨z,c,rfl,rfl,hc,hz,q⟩:=h
 by_cases hm:c∈z.cps.toList
 ·exact aFO pins s σ H _ _ v us Q I rx rv ⟨z,c,rfl,rfl,hc,hm,hz,q⟩
 obtain⟨t,rfl⟩:=rx
 obtain⟨u,rfl,t2,rfl⟩:=vals1 rv
 have no:(occurrences z ⟨#[c]⟩ 0 z.length (z.length+1)).isEmpty=true:=by
  obtain⟨f,hG,hn⟩:=Q4 z ⟨#[c]⟩ (qj 1)
  cases hL:occurrences z ⟨#[c]⟩ 0 z.length (z.length+1) with
  |nil=>rfl
  |cons i r =>
   rw[hL] at hG
   exact absurd (zMo ((Q3 z c i).mp hG.2.1)) hm
 have e:yx z ⟨#[c]⟩=[z]:=by
  unfold yx
  split
  ·rfl
  ·first|rfl|rw[if_pos no]
 rw[e] at q
 have fin:∀s':Shared,s'={s with heap:=s.heap.push {cls := .type "list", data := .seq #[.str z t]} }->EP X pins σ Q (.ref s.heap.objs.size) s':=λs' es=>by
  subst es
  refine⟨.ref s.heap.objs.size,_,I.laid (t':=s.toks) (λb ob e=>qh _ e) (qj _) ?_,rfl,q _ (I.hok.fresh (qj _))⟩
  exact⟨(show 1<=sizeLine by decide),[.str z t],0, .cons ⟨t,rfl⟩ .nil,jd _ rfl⟩
 by_cases h1:(decide (z.length<(⟨#[c]⟩:v9).length)||decide (wc z<wc ⟨#[c]⟩))=true
 ·exact gp yi (typeIs_str _ _ _) fh (dh _ _) (meets_str_split_cannot_occur z ⟨#[c]⟩ t t2 h1) (fin _ rfl)
 ·exact gp yi (typeIs_str _ _ _) fh (dh _ _) (meets_str_split_not_found z ⟨#[c]⟩ t t2 (nz.mpr h1) rfl no) (fin _ rfl)
end
end L2
namespace Z
open PySem L2
section
variable {K:Fg}{z:Str}
theorem uO{c:Nat}(hc:c<256)(hz:z.length<=100000)(h:k (.lst ((yx z ⟨#[c]⟩).map .str)) M):OpM K aAS (.str z) [.str ⟨#[c]⟩] M k:=λG H v vs Q rl e e2 q=>by
 obtain⟨u,rfl,du⟩:=dens1 e2
 rw[du.str_]
 refine⟨z,c,e.str_,rfl,hc,hz,λp hp => ?_⟩
 have st:=rl.new (o := .lst ((yx z ⟨#[c]⟩).map V.str)) hp
 exact q _ _ _ _ _ st (fK a7 (Dens.of_map (λ_=>dW) _)) h
end
end Z
namespace Q
open PySem L2 Z U PySem.NumText
noncomputable def fL(z:Str):Prop:=∃q,Sm q/\nT q=z
theorem xM{c:Nat}:∀{l:List Nat},c∈l->∃p r,l=p++c::r/\c∉p
 |[],h=>nomatch h
 |x::l,h=>by
  by_cases e:x=c
  ·subst e;exact⟨[],l,rfl,by simp⟩
  ·obtain⟨p,r,e1,e2⟩:=xM (l:=l) ((qr.mp h).resolve_left (yj e))
   exact⟨x::p,r,by rw[e1];rfl,λz=>(qr.mp z).elim (λy=>e y.symm) e2⟩
theorem wP(z:Str):(47∉z.cps.toList/\cV z ("/" : Str)=(z,ja,ja))\/∃a b:Str,47∉a.cps.toList/\z=a++("/" : Str)++b/\cV z ("/" : Str)=(a,("/" : Str),b):=by
 by_cases h:47∈z.cps.toList
 ·obtain⟨p,r,e,hp⟩:=xM h
  have ez:z=R.ofL p++("/" : Str)++R.ofL r:=eI (by
   rw[eS,eS,kW,e,y4];rfl)
  refine .inr ⟨R.ofL p,R.ofL r,hp,ez,?_⟩
  rw[ez]
  exact qS hp
 ·exact .inl ⟨h,sM h⟩
theorem jY{z:Str}(h:Dg z):yk z=some ((digitsVal z.cps.toList:Nat):Int)/\digitsVal z.cps.toList<10^60:=by
 refine⟨intText_digits h.all h.ne (ji h.le '*'),?_⟩
 have key:∀(n:Nat) (cs:List Nat),cs.length=n->AllDigits cs->digitsVal cs<10^n:=by
  intro n
  induction n with
  |zero=>intro cs hl _;rw[jm.mp hl];decide
  |succ n ih =>
   intro cs hl ha
   have hne:cs≠[]:=λe=>by rw[e] at hl;simp at hl
   rw[<- xi hne,digitsVal_snoc]
   have h1:=ih cs.dropLast (by rw[jv];omega) λc hc=>ha c ((QR _).subset hc)
   have h2:=ha _ (rk hne)
   rw[QX]
   omega
 exact qo (key _ _ rfl h.all) (me '*' (by rw[qa];exact h.le))
theorem aCS{z:Str}(h:Dg z)(h0:z.length=1\/z.cps.toList[0]?≠some 48):z=iT ((digitsVal z.cps.toList:Nat):Int):=by
 refine eI ?_
 have e2:(iT ((digitsVal z.cps.toList:Nat):Int)).cps.toList=_:=we _
 rw[e2]
 have hl:z.cps.toList.length=z.length:=by rw[qa];rfl
 obtain⟨n,hn⟩:∃n,z.cps.toList.length=n+1:=⟨z.cps.toList.length-1,by have:=ju.mpr h.ne;omega⟩
 rw[toDigits_digitsVal n _ hn h.all ?_,xj]
 ·refine ((vc λc hc => ?_).trans (Ji _)).symm
  have hr:=h.all c hc
  have:∀c:Nat,c<58->(Char.ofNat c).toNat=c:=by decide
  exact this c '!'
 ·rcases h0 with h0|h0
  ·exact .inl '!'
  ·obtain⟨c,r,e⟩:∃c r,z.cps.toList=c::r:=by
    cases hz:z.cps.toList with
    |nil=>exact absurd hz h.ne
    |cons c r=>exact⟨c,r,rfl⟩
   refine .inr ⟨c,r,e,?_⟩
   have:=h.all c (by rw[e];simp)
   rw[e] at h0
   have:c≠48:=λz=>h0 (by rw[z];rfl)
   omega
noncomputable def neg(a:Str):Bool:=decide (a.cps.toList[0]?=some 45)
noncomputable def figs(a:Str):Str:=if neg a=true then R.ofL (a.cps.toList.drop 1) else a
noncomputable def fS(a:Str):Int:=if neg a=true then -((digitsVal (figs a).cps.toList:Nat):Int) else ((digitsVal (figs a).cps.toList:Nat):Int)
theorem neg_cons{a:Str}(h:neg a=true):a.cps.toList=45::(figs a).cps.toList:=by
 unfold figs
 rw[if_pos h]
 have h:=of_decide_eq_true h
 cases e:a.cps.toList with
 |nil=>rw[e] at h;cases h
 |cons c r=>rw[e] at h;cases h;rfl
theorem aAP(a:Str):(fS a).natAbs=digitsVal (figs a).cps.toList:=by unfold fS;split <;> omega
theorem xE(a:Str):(figs a).length<=a.length:=by
 unfold figs
 split
 ·show (a.cps.toList.drop 1).toArray.size<=a.cps.size
  rw[qc,ku,qa];omega
 ·exact qj _
theorem lX{a:Str}(h:Dg (figs a)):yk a=some (fS a)/\(fS a).natAbs<10^60/\a.length<=61:=by
 have hl:=h.le
 refine⟨?_,by rw[aAP];exact (jY h).2,?_⟩
 ·unfold fS
  by_cases hn:neg a=true
  ·rw[if_pos hn]
   have e:=neg_cons hn
   have l:a.length=(figs a).length+1:=by
    show a.cps.size=(figs a).cps.size+1
    rw[<- qa,e,qf,qa]
   exact intText_neg e h.all h.ne '!'
  ·rw[if_neg hn]
   have e:figs a=a:=by unfold figs;rw[if_neg hn]
   rw[e] at h ⊢
   exact (jY h).1
 ·by_cases hn:neg a=true
  ·have e:=neg_cons hn
   have:a.length=(figs a).length+1:=by
    show a.cps.size=(figs a).cps.size+1
    rw[<- qa,e,qf,qa]
   omega
  ·have e:figs a=a:=by unfold figs;rw[if_neg hn]
   rw[e] at hl;omega
noncomputable def Cnt(t:Str):Prop:=Dg t/\(t.length=1\/t.cps.toList[0]?≠some 48)
theorem wJ:("-0" : Str).cps.toList=[45,48]:=by decide +kernel
theorem aEA{a:Str}(h:Cnt (figs a))(h0:a≠("-0" : Str)):a=iT (fS a):=by
 have e:=aCS h.1 h.2
 unfold fS
 by_cases hn:neg a=true
 ·rw[if_pos hn]
  have ec:=neg_cons hn
  have hz:digitsVal (figs a).cps.toList≠0:=λz=>by
   rw[z] at e
   refine h0 (eI ?_)
   rw[ec,wJ,e]
   decide +kernel
  obtain⟨m,hm⟩:∃m,digitsVal (figs a).cps.toList=m+1:=⟨_,(Nat.succ_pred hz).symm⟩
  rw[hm] at e ⊢
  refine eI ?_
  rw[i5,ec,<- e]
 ·rw[if_neg hn]
  have e2:figs a=a:=by unfold figs;rw[if_neg hn]
  rw[e2] at e ⊢
  exact e
theorem aDO(h:m<10^60):Cnt (iT (m:Int)):=by
 have d:=nZ h
 refine⟨d,?_⟩
 by_cases h1:(iT (m:Int)).length=1
 ·exact .inl h1
 ·refine .inr λh0 => ?_
  have e:(iT (m:Int)).cps.toList=(di 10 m).map VT:=we m
  have hl:(iT (m:Int)).cps.toList.length=(iT (m:Int)).length:=by rw[qa];rfl
  cases hc:(iT (m:Int)).cps.toList with
  |nil=>exact d.ne hc
  |cons c r =>
   rw[hc] at h0 hl
   cases h0
   have hr:AllDigits r:=λc hc'=>d.all c (by rw[hc];exact qm _ hc')
   have hv:digitsVal r=m:=by
    have:=ft m
    rw[<- e,hc,digitsVal_zero] at this
    exact this
   have hrl:r.length≠0:=λz=>by rw[qf] at hl;omega
   have hlt:m<10^r.length:=by
    have key:∀(n:Nat) (cs:List Nat),cs.length=n->AllDigits cs->digitsVal cs<10^n:=by
     intro n
     induction n with
     |zero=>intro cs hl _;rw[jm.mp hl];decide
     |succ n ih =>
      intro cs hl ha
      have hne:cs≠[]:=λe=>by rw[e] at hl;simp at hl
      rw[<- xi hne,digitsVal_snoc]
      have h1:=ih cs.dropLast (by rw[jv];omega) λc hc=>ha c ((QR _).subset hc)
      have h2:=ha _ (rk hne)
      rw[QX]
      omega
    rw[<- hv];exact key _ _ rfl hr
   have:=nD (r.length-1) m (by rw[show r.length-1+1=r.length by omega];exact hlt)
   have l2:(di 10 m).length=r.length+1:=by
    have:=congrArg xu e
    rw[hc,qf,zLm] at this
    exact this.symm
   omega
theorem uP(z:Str):yl z ⟨#[45]⟩=neg z:=by
 unfold yl neg
 rw[xx,qi,decide_eq_true_eq,decide_eq_true_eq]
 exact y8 z 45 0
theorem aI9{n:Int}(h:n.natAbs<10^60):figs (iT n)=iT (n.natAbs:Int)/\neg (iT n)=decide (n<0):=by
 obtain⟨_,_,_,w,c⟩:=eN h
 have sw:yl (iT n) ⟨#[45]⟩=neg (iT n):=by
  exact uP _
 rw[<- sw,w]
 refine⟨?_,rfl⟩
 unfold figs
 rw[<- sw,w]
 by_cases h0:n<0
 ·rw[if_pos (decide_eq_true h0),<- c h0]
  have hn:neg (iT n)=true:=by rw[<- sw,w];exact decide_eq_true h0
  have hl:1<=(iT n).cps.toList.length:=by rw[neg_cons hn];simp
  exact (o4 (iT n).cps.toList 1 hl).symm
 ·rw[if_neg (by rw[decide_eq_false h0];exact zBf),show ((n.natAbs:Nat):Int)=n by omega]
theorem kS{n:Int}(h:n.natAbs<10^60):Cnt (figs (iT n))/\iT n≠("-0" : Str)/\fS (iT n)=n:=by
 obtain⟨e1,e2⟩:=aI9 h
 have c:=aDO h
 rw[<- e1] at c
 have hv:fS (iT n)=n:=by
  have r:=(lX c.1).1
  rw[(eN h).1] at r
  exact (qw r).symm
 refine⟨c,λe => ?_,hv⟩
 have:yk ("-0" : Str)=some 0:=by decide +kernel
 rw[<- e,(eN h).1] at this
 cases this
 revert e
 decide +kernel
theorem aCN{n:Int}{d:Nat}(hd:1<=d)(hg:ve n d=1):∃q:Rat,q.num=n/\q.den=d:=⟨⟨n,d,by omega,hg⟩,rfl,rfl⟩
theorem aC4{z:Str}(h:47∉z.cps.toList):fL z↔Cnt (figs z)/\z≠("-0" : Str):=by
 constructor
 ·rintro⟨q,hq,rfl⟩
  have hp:=kK hq
  rw[sM h] at hp
  by_cases hd:q.den=1
  ·have e:nT q=iT q.num:=by unfold nT;rw[if_pos hd]
   rw[e]
   exact⟨(kS hq.a).1,(kS hq.a).2.1⟩
  ·rw[if_neg hd] at hp
   exact absurd (show ja=("/" : Str) from congrArg (λp=>p.2.1) hp) '-'
 ·rintro⟨h1,h2⟩
  have e:=aEA h1 h2
  have hv:=(lX h1.1).2.1
  refine⟨((fS z:Int):Rat),⟨hv,by show 1<10^60;decide⟩,?_⟩
  unfold nT
  rw[if_pos (show ((fS z:Int):Rat).den=1 from Rat.den_intCast _),show ((fS z:Int):Rat).num=fS z from Rat.num_intCast _]
  exact e.symm
theorem aKN{a b:Str}(h:47∉a.cps.toList):fL (a++("/" : Str)++b)↔(Cnt (figs a)/\a≠("-0" : Str))/\Cnt b/\2<=digitsVal b.cps.toList/\ve (fS a) (digitsVal b.cps.toList:Nat)=1:=by
 constructor
 ·rintro⟨q,hq,e⟩
  have hp:=kK hq
  rw[e,qS h] at hp
  have hd:¬q.den=1:=λz=>by
   rw[if_pos z] at hp
   exact absurd (show ("/" : Str)=ja from congrArg (λp=>p.2.1) hp) '-'
  rw[if_neg hd] at hp
  have ea:a=iT q.num:=congrArg (λp=>p.1) hp
  have eb:b=iT (q.den:Int):=congrArg (λp=>p.2.2) hp
  obtain⟨c1,c2,c3⟩:=kS hq.a
  have c4:=aDO hq.b
  have hv:digitsVal b.cps.toList=q.den:=by
   have:=(jY c4.1).1
   rw[lH hq.b] at this
   rw[eb]
   exact_mod_cast (qw this).symm
  rw[ea,c3]
  refine⟨⟨c1,c2⟩,by rw[eb];exact c4,?_,?_⟩
  ·have:=q.den_pos;omega
  ·rw[hv];exact q.reduced
 ·rintro⟨⟨h1,h2⟩,h3,h4,h5⟩
  have ea:=aEA h1 h2
  have eb:=aCS h3.1 h3.2
  obtain⟨q,q1,q2⟩:=aCN (show 1<=digitsVal b.cps.toList by omega) h5
  have hs:Sm q:=⟨by rw[q1];exact (lX h1.1).2.1,by rw[q2];exact (jY h3.1).2⟩
  refine⟨q,hs,?_⟩
  unfold nT
  rw[if_neg '!',q1,q2,<- ea,<- eb]
end Q
namespace L2
open PySem PySem.Spec PyProof.Rows
structure ThrownA(X:Cx)(pins:List (Addr×Obj))(H':Hp)(e T:Addr)(cls:Value)(h:Heap):Prop where
 e0:X.s₀.heap.get? e=none
 T0:X.s₀.heap.get? T=none
 He:H' e=none
 HT:H' T=none
 eL:e≠X.env.locals
 TL:T≠X.env.locals
 ce:∀x c,X.env.cells.lookup x=some c->c≠e/\c≠T
 pe:∀p∈X.pn++pins,p.1≠e/\p.1≠T
 ob:∃oe vs oT ts a0 v3,h.get? e=some oe/\(oe.cls=cls/\vs[0]?=some a0)/\oe.data = .fields vs/\vs[1]?=some (.ref T)/\T≠e/\h.get? T=some oT/\oT.data = .fields ts/\ts[3]?=some v3
theorem ThrownX.any{e:Addr}(t:ThrownX X pins H' e T cls h):ThrownA X pins H' e T cls h:=
 ⟨t.e0,t.T0,t.He,t.HT,t.eL,t.TL,t.ce,t.pe,let ⟨oe,vs,oT,ts,a0,r⟩:=t.ob;⟨oe,vs,oT,ts,a0,_,r⟩⟩
section
theorem Inv.veiledA{e:Addr}(hst:X.stack=X.env::X.outer)(hf:X.env.frame=some X.env.locals)(hex:X.ex=[])(I:Inv X pins σ H s)(th:ThrownA X pins H e T cls s.heap)(st:(veil s.heap X.stack e T).StaysIn h')(sm:s.heap.UpToSlots h'):Inv X pins σ H {s with heap:=h',toks:=t' }:=by
 have frm:∀b,b∈frs X.stack->∃o,s.heap.get? b=some o/\∀vs,o.data ≠ .fields vs:=λb hb=>(I.stack.mem hb).2
 have eqs:frs X.stack=X.env.locals::X.fs:=by rw[hst];simp[frs,hf]
 have keep:∀b o,b∉frs X.stack->b≠e->b≠T->s.heap.get? b=some o->h'.get? b=some o:=λb o h1 h2 h3 q=>st b o (jE q h2 h3 h1)
 have slot:∀b o,b∈frs X.stack->s.heap.get? b=some o->∃sl,h'.get? b=some {o with slots:=sl}:=λb o h1 q=>by
  obtain⟨o',q',d⟩:=frm b h1
  rw[q] at q';cases q'
  exact sm b o q d
 have neT:∀b o,X.s₀.heap.get? b=some o->b≠e/\b≠T:=λb o q=>⟨λz=>(by rw[z,th.e0] at q;cases q),λz=>(by rw[z,th.T0] at q;cases q)⟩
 have nL:∀b o,X.s₀.heap.get? b=some o->b≠X.env.locals:=λb o q=>je (qo (qq q) I.ok.above)
 have cellK:∀x c,X.env.cells.lookup x=some c->∀v,s.heap.IsCell c v->h'.IsCell c v:=λx c ec v ⟨o,ho,hd⟩=>by
  by_cases hm:c∈frs X.stack
  ·obtain⟨sl,q⟩:=slot c o hm ho
   exact⟨_,q,hd⟩
  ·exact⟨o,keep c o hm (th.ce x c ec).1 (th.ce x c ec).2 ho,hd⟩
 refine⟨I.ok,I.os,I.bare,⟨λb o q n hb hx => ?_,λb o q n hb hx => ?_,λb o q n hx=>I.base.free b o q n hx,λb o q hx => ?_,I.base.tups,I.base.frzs,I.base.tbls⟩,?_,λx c ec => ?_,I.free,I.freeC,λp hp => ?_,?_,I.len⟩
 ·refine keep b o (λz => ?_) (neT b o q).1 (neT b o q).2 (I.base.keep b o q n hb hx)
  rw[eqs] at z
  exact (qr.mp z).elim (nL b o q) hb
 ·obtain⟨sl,e1⟩:=I.base.slot b o q n hb hx
  obtain⟨sl',e2⟩:=slot b _ (by rw[eqs];exact qm _ hb) e1
  exact⟨sl',e2⟩
 ·obtain⟨o',e1⟩:=I.base.there b o q hx
  by_cases hm:b∈frs X.stack
  ·obtain⟨sl',e2⟩:=slot b _ hm e1
   exact⟨_,e2⟩
  ·exact⟨_,keep b _ hm (neT b o q).1 (neT b o q).2 e1⟩
 ·obtain⟨m,hn,hl⟩:=I.loc
  refine⟨m,sm.ns hn,λi x v e1 e2 e3 => ?_⟩
  obtain⟨u,r,l⟩:=hl i x v e1 e2 e3
  refine⟨u,r,?_⟩
  rcases l with l|⟨k,c,ec,z⟩
  ·exact .inl l
  ·exact .inr ⟨k,c,ec,cellK x c ec _ z⟩
 ·obtain⟨v,z⟩:=I.cell x c ec
  exact⟨v,cellK x c ec v z⟩
 ·obtain⟨q,n,ne,nf,d⟩:=I.pin p hp
  refine⟨keep p.1 p.2 (λz => ?_) (th.pe p hp).1 (th.pe p hp).2 q,n,ne,nf,d⟩
  rw[eqs] at z
  exact (qr.mp z).elim ne nf
 ·intro b o hb
  refine (I.hok b o hb).stay (λc v hc z => ?_) (λ_ z=>z) λ_ _ z=>z
  have hH:H c≠none:=by
   rcases hc with rfl|hc
   ·rw[hb];exact λz=>nomatch z
   ·rw[hc];exact λz=>nomatch z
  exact keep c v (λhm=>hH (I.stkFree c hm)) (λz=>hH (by rw[z];exact th.He)) (λz=>hH (by rw[z];exact th.HT)) z
end
section
variable {K:qb}{E:XK}{pins:List (Addr×Obj)}{σ:St}{H:Hp}{s:Shared}
theorem zN{e:Addr}{a0:Value}(I:Inv E.12 pins σ H s)(th:ThrownA E.12 pins H e T cls s.heap)(q:E cls none H)(st:(veil s.heap (xt qual scope s₀.heap.objs.size f cd::outer) e T).StaysIn h')(sm:s.heap.UpToSlots h')(tr:h'.TracedW (veil s.heap (xt qual scope s₀.heap.objs.size f cd::outer) e T) e cls a0):CXR P w outer H₀ s₀ E (.ref e) {s with heap:=h' }:=by
 have J:Inv E.12 pins σ H {s with heap:=h',toks:=s.toks}:=I.veiledA rfl rfl rfl th st sm
 obtain⟨oe,vs,T',oT,ts,g1,g2,g3,g4,g5,g6,g7,g8,g9⟩:=tr
 have nf:T'∉frs (xt qual scope s₀.heap.objs.size f cd::outer):=λhm=>by
  obtain⟨_,o,ho,hd⟩:=J.stack.mem hm
  rw[g7] at ho;cases ho;exact hd ts g8
 have alt:T'=T\/s.heap.get? T'=none:=by
  by_cases z:T'=T
  ·exact .inl z
  ·cases y:s.heap.get? T' with
   |none=>exact .inr rfl
   |some o=>rw[jE y g6 z nf] at g5;cases g5
 have T0:s₀.heap.get? T'=none:=by
  rcases alt with rfl|z
  ·exact th.T0
  ·cases y:s₀.heap.get? T' with
   |none=>rfl
   |some o =>
    obtain⟨u,hu⟩:=I.base.there T' o y (by show T'∉([]:List Addr);simp)
    rw[z] at hu;cases hu
 have HT:H T'=none:=by
  rcases alt with rfl|z
  ·exact th.HT
  ·cases y:H T' with
   |none=>rfl
   |some o =>
    obtain⟨u,hu⟩:=obj_some (I.hok T' o y)
    rw[z] at hu;cases hu
 exact⟨e,T',cls,H,rfl,J.os,J.bare,J.base,J.hok,⟨th.e0,T0,th.He,HT,oe,vs,oT,ts,a0,g1,g2,g3,g4,g6,g7,g8,g9⟩,q⟩
theorem aGP{e:Addr}(I:Inv E.12 pins σ H s)(th:ThrownA E.12 pins H e T cls s.heap)(q:E cls none H):
  (E.12).xe (.ref e) s:=by
 obtain⟨oe,vs,oT,ts,a0,v3,g1,⟨g2,g2'⟩,g3,g4,g5,g6,g7,g8⟩:=th.ob
 subst g2
 have hfr:(A.deeper (xt qual scope s₀.heap.objs.size f cd)).frames=some (xt qual scope s₀.heap.objs.size f cd::outer):=I.ok.frames
 have hl:s.heap.FunFrames (veil s.heap (xt qual scope s₀.heap.objs.size f cd::outer) e T) (xt qual scope s₀.heap.objs.size f cd::outer):=jO I.stack λenv he a ha=>yo.mpr ⟨env,he,ha⟩
 have hsz3:3<ts.size:=(da.mp g8).1
 have oth:∀(v:Value) b,b≠T->(s.heap.update T (QC (·.setIfInBounds 3 v))).get? b=s.heap.get? b:=λv b hb=>bh _ _ (yj hb)
 have nrec:∀b o,s.heap.get? b=some o->(∀vs,o.data ≠ .fields vs)->b≠T:=λb o hb hnf z=>by
  rw[z,g6] at hb;cases hb;exact hnf ts g7
 have bne:∀b o,(veil s.heap (xt qual scope s₀.heap.objs.size f cd::outer) e T).get? b=some o->b≠T:=λb o hb z=>by rw[z,oH] at hb;cases hb
 show kf (jx P w) (A.deeper (xt qual scope s₀.heap.objs.size f cd)) (VL (xt qual scope s₀.heap.objs.size f cd) (.ref e)) _ _ s
 unfold VL gn
 simp only[show (xt qual scope s₀.heap.objs.size f cd).frame=some s₀.heap.objs.size from rfl]
 refine qy (qy (pd g1 g3 g4 ?_))
 rw[if_pos (show (yr T != wj)=true from by simp)]
 refine qy (pd g6 g7 g8 ?_)
 by_cases hv:(v3==rawInt s₀.heap.objs.size)=true
 ·rw[if_pos hv]
  refine kq ?_
  unfold setFlight
  refine qy (pd g1 g3 g4 ?_)
  rw[if_pos (show (yr T != wj)=true from by simp)]
  refine QU g6 g7 hsz3 ?_
  refine zN I th q (a0:=a0) (λb o hb=>(oth _ b (bne b o hb)).trans (kJ b o hb)) (λb o hb hnf=>⟨o.slots,(oth _ b (nrec b o hb hnf)).trans hb⟩) ?_
  exact⟨oe,vs,T,_,_,(oth _ e (yj g5)).trans g1,⟨rfl,g2'⟩,g3,g4,oH,g5,lg _ g6 (Q9 (dq g7 _)),dq g7 _,by simp[hsz3]⟩
 ·rw[if_neg hv]
  refine qy (QU g6 g7 hsz3 ?_)
  refine wpAny_newEntryW (base:=veil s.heap (xt qual scope s₀.heap.objs.size f cd::outer) e T) (outer:=outer) hfr (hl.of_keeps λb o hb hnf=>⟨o,(oth _ b (nrec b o hb hnf)).trans hb,rfl⟩) rfl ((oth _ e (yj g5)).trans g1)
   (λb o hb=>(oth _ b (bne b o hb)).trans (kJ b o hb)) rB g3 (da.mp g4).1 g2' λh' ⟨x1,x2,x3,x4⟩ => ?_
  have sm:s.heap.UpToSlots h':=λb o hb hnf=>x4 b o ((oth .none b (nrec b o hb hnf)).trans hb) hnf
  have z:CXR P w outer H₀ s₀ E (.ref e) {s with heap:=h' }:=zN I th q x1 sm x3
  exact z
theorem aGG:Passes (CXR P w) E.12 E:=λpins σ H s e s' I h=>by
 obtain⟨e',T,cls,H',rfl,I1,th,q⟩:=I.thrown rfl h
 exact aGP I1 th.any q
end
end L2
namespace L2
open PySem PySem.Spec PyProof.Rows
noncomputable def bN(X:Cx)(scope:Scope)(cs:List (Str×Addr))(C:Addr)(Nc:List Str)(s₀:Shared)(H₀:Hp)(fp:List Addr)(xe:Value->Shared->Prop):Cx:={a8 X scope cs C Nc s₀ H₀ fp with xe:=xe}
section
variable {E:XK}
theorem Inv.thrown2{e:Addr}(hex:X.ex=[])(I:Inv X pins σ H s)(os:s'.os=s.os)(bare:lh s'.gens)(un:Un (frs X.stack) [] H H' s.heap s'.heap)(hok:HOk X.prog X.w H' s'.heap)(th:Thrown s.heap H' e T cls s'.heap):Inv X pins σ H' s'/\ThrownX X pins H' e T cls s'.heap:=by
 have no0:∀b:Addr,s.heap.get? b=none->X.s₀.heap.get? b=none:=λb hb=>by
  cases z:X.s₀.heap.get? b with
  |none=>rfl
  |some o =>
   obtain⟨u,hu⟩:=I.base.there b o z (by rw[hex];simp)
   rw[hb] at hu;cases hu
 have nL:∀b:Addr,s.heap.get? b=none->b≠X.env.locals:=λb hb z=>by
  obtain⟨m,⟨o,_,_,ho,_⟩,_⟩:=I.loc
  rw[z,ho] at hb;cases hb
 have nC:∀b:Addr,s.heap.get? b=none->∀x c,X.env.cells.lookup x=some c->c≠b:=λb hb x c ec z=>by
  obtain⟨v,o,ho,_⟩:=I.cell x c ec
  rw[z,hb] at ho;cases ho
 have nP:∀b:Addr,s.heap.get? b=none->∀p∈X.pn++pins,p.1≠b:=λb hb p hp z=>by
  obtain⟨ho,_⟩:=I.pin p hp
  rw[z,hb] at ho;cases ho
 exact⟨I.call' (ch:=[]) os un hok bare (λb z=>absurd z '$'),
  ⟨no0 e th.ne,no0 T th.nT,th.He,th.HT,nL e th.ne,nL T th.nT,λx c ec=>⟨nC e th.ne x c ec,nC T th.nT x c ec⟩,λp hp=>⟨nP e th.ne p hp,nP T th.nT p hp⟩,th.ob⟩⟩
theorem ThrownX.next{e T':Addr}(hex:X.ex=[])(I:Inv X pins σ H s)(th:ThrownX X pins H e T cls s.heap)(alt:T'=T\/s.heap.get? T'=none)(ob:∃oe vs oT ts a0 v3,h'.get? e=some oe/\(oe.cls=cls/\vs[0]?=some a0)/\oe.data = .fields vs/\vs[1]?=some (.ref T')/\T'≠e/\h'.get? T'=some oT/\oT.data = .fields ts/\ts[3]?=some v3):ThrownA X pins H e T' cls h':=by
 rcases alt with rfl|hb
 ·exact⟨th.e0,th.T0,th.He,th.HT,th.eL,th.TL,th.ce,th.pe,ob⟩
 ·refine⟨th.e0,?_,th.He,?_,th.eL,?_,λx c ec=>⟨(th.ce x c ec).1,?_⟩,λp hp=>⟨(th.pe p hp).1,?_⟩,ob⟩
  ·cases z:X.s₀.heap.get? T' with
   |none=>rfl
   |some o =>
    obtain⟨u,hu⟩:=I.base.there T' o z (by rw[hex];simp)
    rw[hb] at hu;cases hu
  ·cases z:H T' with
   |none=>rfl
   |some o =>
    obtain⟨u,hu⟩:=obj_some (I.hok T' o z)
    rw[hb] at hu;cases hu
  ·intro z
   obtain⟨m,⟨o,_,_,ho,_⟩,_⟩:=I.loc
   rw[<- z,hb] at ho;cases ho
  ·intro z
   obtain⟨v,o,ho,_⟩:=I.cell x c ec
   rw[z,hb] at ho;cases ho
  ·intro z
   obtain⟨ho,_⟩:=I.pin p hp
   rw[z,hb] at ho;cases ho
end
noncomputable def gH(X:Cx)(pins:List (Addr×Obj))(σ:St)(E:XK)(C:Addr)(v:Value)(s':Shared):Prop:=
 ∃e T cls H',v = .ref e/\Inv X pins σ H' s'/\ThrownX X pins H' e T cls s'.heap/\E cls none H'/\(∃m,s'.heap.Ns C m)/\CFree X pins H' C/\C≠e/\C≠T
theorem aC2{E:XK}{v:Value}{cenv:Env}{use:Option (Value->Sem Unit)}{Q:Value->Shared->Prop}(hst:X.stack=X.env::X.outer)(hf:X.env.frame=some X.env.locals)(hex:X.ex=[])(hxe:∀e T cls H' s',Inv X pins σ H' s'->ThrownA X pins H' e T cls s'.heap->E cls none H'->X.xe (.ref e) s')(hv:gH X pins σ E C v s')(hcf:cenv.frame=X.env.frame:=by rfl):
  kf X.w.7 X.A (gn v cenv) (λ_ s1=>fu X.w.7 X.A X.xe use Q acc C (.error v) s1) (λe s1=>fu X.w.7 X.A X.xe use Q acc C (.error e) s1) s':=by
 obtain⟨e,T,cls,H',rfl,I,th,q,⟨m,hn⟩,cf,ne,nT⟩:=hv
 obtain⟨oe,vs,oT,ts,a0,g1,g2,g3,g4,g5,g6,g7,g8⟩:=th.ob
 have hfr:X.A.frames=some (X.env::X.outer):=by rw[I.ok.frames,hst]
 have fl:KI (veil s'.heap X.stack e T) (X.env::X.outer) e cls a0 s'.heap:=by
  refine⟨kJ,rB,?_,oe,vs,T,oT,ts,g1,g2,g3,g4,oH,g5,g6,g7,g8⟩
  have:=I.stack
  rw[hst] at this
  exact jO this λenv he a ha=>by rw[hst];exact yo.mpr ⟨env,he,ha⟩
 have ecf:gn (.ref e) cenv=gn (.ref e) X.env:=by unfold gn PySem.frameOf;rw[hcf]
 rw[ecf]
 refine VN hfr hf fl λh4 held sm4 => ?_
 have I4:Inv X pins σ H' {s' with heap:=h4,toks:=s'.toks}:=I.veiled (t':=s'.toks) hst hf hex th held.1 sm4
 refine⟨m,sm4.ns hn,λh5 hs5 cenv' hl' => ?_⟩
 have I5:=I4.turned (t':=s'.toks) (it:=C) (λb o hb z=>(hs5.2 b hb).trans z) cf.hn cf.hL (.inr cf.h1) cf.h2 cf.h3
 obtain⟨_,_,_,oe4,vs4,T4,oT4,ts4,k1,k2,k3,k4,k5,k6,k7,k8,k9⟩:=held
 have nf:T4∉frs X.stack:=λhm=>by
  obtain⟨_,o,ho,hd⟩:=I4.stack.mem hm
  rw[k7] at ho;cases ho;exact hd ts4 k8
 have alt:T4=T\/s'.heap.get? T4=none:=by
  by_cases z:T4=T
  ·exact .inl z
  ·cases y:s'.heap.get? T4 with
   |none=>exact .inr rfl
   |some o=>rw[jE y k6 z nf] at k5;cases k5
 have nT4:C≠T4:=λz=>by
  rcases alt with y|y
  ·exact nT (z.trans y)
  ·obtain⟨o,_,_,ho,_⟩:=hn
   rw[z,y] at ho;cases ho
 have k1':=(hs5.2 e (yj ne)).trans k1
 have k7':=(hs5.2 T4 (yj nT4)).trans k7
 have hsz:3<ts4.size:=(da.mp k9).1
 have th5:ThrownA X pins H' e T4 cls h5:=th.next hex I alt ⟨oe4,vs4,oT4,ts4,a0,_,k1',k2,k3,k4,k6,k7',k8,k9⟩
 unfold PySem.passOn
 refine qy (pd k1' k3 k4 ?_)
 rw[if_neg (show ¬((yr T4==wj)=true) from by simp)]
 unfold setFlight
 refine qy (qy (pd k1' k3 k4 ?_))
 rw[if_pos (show (yr T4 != wj)=true from by simp)]
 refine QU k7' k8 hsz ?_
 refine wpAny_throw ?_
 have oth:∀(v:Value) b,b≠T4->(h5.update T4 (QC (·.setIfInBounds 3 v))).get? b=h5.get? b:=λv b hb=>bh _ _ (yj hb)
 have nrec:∀b o,h5.get? b=some o->(∀vs,o.data ≠ .fields vs)->b≠T4:=λb o hb hnf z=>by
  rw[z,k7'] at hb;cases hb;exact hnf ts4 k8
 have I6:=I5.veiledA (t':=s'.toks) hst hf hex (e:=e) (T:=T4) (cls:=cls) (h':=h5.update T4 (QC (·.setIfInBounds 3 (cenv'.frame.elim wj λf=>rawInt f)))) th5 (λb o hb=>(oth _ b λz=>by rw[z,oH] at hb;cases hb).trans (kJ b o hb)) (λb o hb hnf=>⟨o.slots,(oth _ b (nrec b o hb hnf)).trans hb⟩)
 refine hxe e T4 cls H' _ I6 ⟨th5.e0,th5.T0,th5.He,th5.HT,th5.eL,th5.TL,th5.ce,th5.pe,oe4,vs4,_,_,a0,(cenv'.frame.elim wj λf=>rawInt f),(oth _ e (yj k6)).trans k1',k2,k3,k4,k6,lg _ k7' (Q9 (dq k8 _)),dq k8 _,by simp[hsz]⟩ q
theorem u5{R:VI->Shared->Prop}{target:Expr}{it:Value}{env:Env}(EX:Value->Shared->Prop)(hE:∀v s',EX v s'->kf (jx prog w) A (gn v env) (λ_ s1=>R (.error v) s1) (λe s1=>R (.error e) s1) s')(I:Nat->Shared->Prop)(turn:∀n s,I n s->kf (jx prog w) A (pyNext it) (λr s₁=>match r with
   |none=>R (.ok .next) s₁
   |some v=>kf (jx prog w) A (dz target it v) (λ_ s₁'=>kf (jx prog w) A (assign target env v) (λ_ s₂ =>
     kf (jx prog w) A (eval elt env) (λx s₄ =>
       kf (jx prog w) A (call (.builtin "list.append") [acc,x]) (λ_ s₅=>∃m,m<n/\I m s₅) EX s₄) EX s₂) EX s₁') EX s₁) EX s)(n:Nat)(h:I n s):
  fy (jx prog w) A (.compLoop (.ListComp elt [⟨target,iter,[],0⟩] scope pos) 0 it acc env) R s:=by
 refine codeAny_loop rfl I (λn s hI => ?_) n h
 show kf _ A ((compTurn (.ListComp elt [⟨target,iter,[],0⟩] scope pos) 0 it acc env).onRaise (λx=>do gn x env;VO x)) _ _ s
 refine wpAny_noted ?_
 rw[compTurn_list]
 refine qy (lj (qy (vd (turn n s hI) (λr s₁ h₁ => ?_) λv s' h'=>hE v s' h')))
 cases r with
 |none=>exact kq h₁
 |some v =>
  refine qy (vd h₁ (λ_ s₁' h₁' => ?_) λv s' h'=>hE v s' h')
  refine qy (vd h₁' (λ_ s₂ h₂ => ?_) λv s' h'=>hE v s' h')
  refine qy (kq ?_)
  exact qy (qy (vd h₂ (λx s₄ h₄=>qy (vd h₄ (λ_ s₅ h₅=>kq (kq ⟨rfl,h₅⟩)) λv s' h'=>hE v s' h')) λv s' h'=>hE v s' h'))
theorem aA9{E:XK}{cap:List Nat}(hc:X.calm=true)(hkind:scope.kind = .function)(hnames:∀y∈scope.names,y.2 = .local->scope.names.lookup y.1=some .local)(hx:Loc (tw scope X.env) x)(hxf:scope.names.lookup x=some .cell\/(tw scope X.env).names.lookup x=some .local)(hNc:(x::ns).Nodup)(hlen:cap.length=ns.length)(hcap:∀(j k:Nat) (nm:Str),cap[j]?=some k->ns[j]?=some nm->X.N[k]?=some nm/\(X.env.scope.names.lookup nm=some .cell\/X.env.scope.names.lookup nm=some .free))(hns:∀nm∈ns,(nm,kc)∈scope.names/\(nm,v7)∉scope.names)(hnsk:∀nm∈ns,scope.names.lookup nm=some .free)(hfree:∀y∈scope.names,y.2 = .free->X.env.scope.names.lookup y.1=some .cell\/X.env.scope.names.lookup y.1=some .free)(hi:PI X (.Name x px) iter wi)(he:∀cs C s₀ H₀ fp xe,Passes (CXR X.prog X.w) (bN X scope cs C (x::ns) s₀ H₀ fp xe) E->PE (bN X scope cs C (x::ns) s₀ H₀ fp xe) elt te)(hstk:X.stack=X.env::X.outer)(hfL:X.env.frame=some X.env.locals)(hex:X.ex=[])(hs:∀v,foldedSetIterable iter X.env v=pure v:=by intro _;rfl){use:Option (Value->Sem Unit)}{Q':Value->Shared->Prop}{Q:VK}{ip:Pos}(I:Inv X pins σ H s)(h:kC wi cap pG te σ H Q)(hxe:∀e T cls H' s',Inv X pins σ H' s'->ThrownA X pins H' e T cls s'.heap->E cls none H'->X.xe (.ref e) s')(hfin:∀(D C:Addr) (H':Hp) (s':Shared),Inv X pins σ H' s'->Q (.ref D) H'->(∃m,s'.heap.Ns C m)->CFree X pins H' C->fu X.w.7 X.A X.xe use Q' (.ref D) C (.ok .next) s'):
  kf X.w.7 X.A (Jt (.ListComp elt [⟨.Name x px,iter,[],0⟩] scope pos) scope X.env ip (newList []) false (eval iter X.env) use) Q' X.xe s:=by
 obtain⟨cl,ecl,cl1,cl2⟩:=oE (scope:=scope) (env:=X.env) λn hn=>I.ok.has n (hfree (n, .free) hn rfl)
 refine Jk (use:=use) rfl hs ecl hkind hnames (thn (hi pins s σ H _ I h) λxv s1 h1=>thn h1 λitv s2 h2 => ?_)
 obtain⟨it,fp,tn,J,H2,rfl,I2,T,st2,f2,q⟩:=h2
 have hD:H2 s2.heap.objs.size=none:=I2.fresh
 obtain⟨W,⟨m0,w0⟩,step⟩:=q s2.heap.objs.size hD
 refine Qd ?_ (by show 0<=sizeLine;exact vy _)
 have I3:Inv X pins σ (upd H2 s2.heap.objs.size (.lst [])) {s2 with heap:=s2.heap.push {cls := .type "list", data := .seq ([]:List Value).toArray} }:=
  I2.laid (t':=s2.toks) (λb u e=>qh _ e) (qj _) ⟨vy _,[],0, .nil,jd _ rfl⟩
 have sz3:(s2.heap.push {cls := .type "list", data := .seq ([]:List Value).toArray}).objs.size=s2.heap.objs.size+1:=zg ..
 have hfp3:∀b∈fp,∀o,(upd H2 s2.heap.objs.size (.lst [])) b≠some o:=λb hb o z=>by
  obtain⟨ob,e,_⟩:=T.obj 0 _ st2 b hb
  rw[aU (je (qq e)),(f2 b hb).1] at z
  cases z
 revert I3 sz3 w0 step hfp3
 generalize upd H2 s2.heap.objs.size (.lst [])=H3
 generalize hs3:({s2 with heap:=s2.heap.push {cls := .type "list", data := .seq ([]:List Value).toArray} }:Shared)=s3
 intro step w0 I3 sz3 hfp3
 have st3:tn 0 s3.heap:=T.keep 0 _ _ st2 λb _ o e=>by rw[<- hs3];exact qh _ e
 have fpLt:∀b∈fp,b<s3.heap.objs.size:=λb hb=>by
  obtain⟨o,e,_⟩:=T.obj 0 _ st3 b hb
  exact qq e
 refine qA ?_
 have new:CellsOk (yh '%' scope.names) (s3.heap.objs.size+1) (cellsFrom (s3.heap.objs.size+1) scope.names []):=by
  have ok:=cellsFrom_ok scope.names '%' (s3.heap.objs.size+1) [] ⟨λ_ _ hm=>(nomatch hm),ck⟩ (by rw[zg];exact qj _)
  rw[zg] at ok
  exact ok
 have keep4:∀b o,s3.heap.get? b=some o->(yh '%' scope.names).get? b=some o:=λb o e=>my _ _ b o (qh _ e)
 have nsC:(yh '%' scope.names).Ns s3.heap.objs.size (λ_=>none):=(Kh s3.heap (.type "dict")).keeps (my _ _)
 have lk:∀y c,(cl.9).lookup y=some c->((y,c)∈cellsFrom (s3.heap.objs.size+1) scope.names []/\(y,v7)∈scope.names)\/(cl.lookup y=some c/\X.env.cells.lookup y=some c):=λy c e=>by
  rw[eX,fP] at e
  cases z:(cellsFrom (s3.heap.objs.size+1) scope.names []).lookup y with
  |some c' =>
   rw[z] at e
   have e':c'=c:=qw e
   subst e'
   have hm:=jr z
   rcases mO _ _ _ hm with q|q
   ·exact .inl ⟨hm,q⟩
   ·cases q
  |none=>rw[z] at e;exact .inr ⟨e,cl1 y c e⟩
 have oldLt:∀y c,X.env.cells.lookup y=some c->c<s3.heap.objs.size:=λy c e=>by
  obtain⟨v,z⟩:=I3.cell y c e
  exact z.lt
 have hlk2:∀nm∈ns,∃c,(cl.9).lookup nm=some c/\X.env.cells.lookup nm=some c:=λnm hnm=>by
  obtain⟨h1,h2⟩:=hns nm hnm
  obtain⟨c,e⟩:=cl2 nm h1
  refine⟨c,?_,cl1 nm c e⟩
  rw[eX,fP]
  cases z:(cellsFrom (s3.heap.objs.size+1) scope.names []).lookup nm with
  |some c' =>
   rcases mO _ _ _ (jr z) with q|q
   ·exact absurd q h2
   ·cases q
  |none=>exact e
 show fy X.w.7 X.A (.compStart (.ListComp elt [⟨.Name x px,iter,[],0⟩] scope pos) 0 (.ref it) (.ref s2.heap.objs.size) ((gH X pins σ E s3.heap.objs.size).11).env) (fu X.w.7 X.A X.xe use Q' (.ref s2.heap.objs.size) s3.heap.objs.size) {s3 with heap:=yh '%' scope.names}
 have OK:((gH X pins σ E s3.heap.objs.size).11).Ok:=by
  refine⟨I3.ok.mod,hkind,I3.ok.glob,I3.ok.blt,qj _,λy z c e1 e2 => ?_,λy hy => ?_,λy c hf e => ?_,λ_=>I3.ok.hd hc,I3.ok.frames, .inl rfl,λb hb=>⟨je (fpLt b hb),λy c e => ?_⟩,I3.bs,ji I3.ok.bsz I3.sz,λb o e hb => ?_,λb hb hm => ?_,I3.stack,I3.stkFree⟩
  ·rcases lk y c e1 with ⟨a1,_⟩|⟨a1,a2⟩ <;> rcases lk z c e2 with ⟨b1,_⟩|⟨b1,b2⟩
   ·exact JQ new.apart a1 b1
   ·exact absurd (qo (oldLt z c b2) (vz (new.empty y c a1).2)) (vv _)
   ·exact absurd (qo (oldLt y c a2) (vz (new.empty z c b1).2)) (vv _)
   ·exact I3.ok.inj y z c a2 b2
  ·have key:scope.names.lookup y=some .cell\/scope.names.lookup y=some .free:=by
    rcases hy with hy|hy
    ·rcases dD (env:=X.env) (names:=scope.names) hy with q|⟨q,_⟩
     ·exact .inl q
     ·exact .inr q
    ·rcases dD (env:=X.env) (names:=scope.names) hy with q|⟨q,_⟩
     ·exact .inr q
     ·exact .inr q
   rcases key with q|q
   ·exact kr.mp (vk scope.names (s3.heap.objs.size+1) cl (.inl q))
   ·obtain⟨c,e⟩:=cl2 y (jr q)
    exact kr.mp (vk scope.names (s3.heap.objs.size+1) cl (.inr (by rw[e];rfl)))
  ·have hf':scope.names.lookup y=some .cell:=by
    have hf0:(scope.names.lookup y==some .cell)=true:=hf
    simpa using hf0
   have e':(cl.9).lookup y=some c:=e
   have e0:=kr.mp (vk scope.names (s3.heap.objs.size+1) [] (.inl hf'))
   obtain⟨c',z⟩:=e0
   rw[eX,fP,z] at e'
   cases e'
   exact vz (new.empty y c (jr z)).2
  ·rcases lk y c e with ⟨a1,_⟩|⟨a1,a2⟩
   ·exact λz=>absurd (qo (fpLt b hb) (z▸vz (new.empty y c a1).2)) (vv _)
   ·exact (f2 b hb).2.2.2.2.1 y c a2
  ·rcases (f2 b hb).2.2.2.1 with z|z
   ·exact I3.ok.noex b o e z
   ·exact absurd (qo (qq (I3.ok.bs b o e).1) z) (vv _)
  ·rcases qr.mp (I3.stkSub b hm) with z|z
   ·exact (f2 b hb).2.1 z
   ·exact (f2 b hb).2.2.1 z
 have IY:Inv (gH X pins σ E s3.heap.objs.size).11 [] (none::cap.map λk=>(σ[k]?).join) H3 {s3 with heap:=yh '%' scope.names}:=by
  refine⟨OK,rfl,I3.bare,Un.kept keep4,⟨_,nsC,λi nm v e1 e2 e3 => ?_⟩,λy c e => ?_,I3.fresh,λy c e => ?_,λp hp=>absurd (show p∈([]:List (Addr×Obj)) from hp) '$',I3.hok.kept keep4,by simp[bN,a8,hlen]⟩
  ·cases i with
   |zero=>cases e2
   |succ j =>
    have e1':ns[j]?=some nm:=e1
    have e2':(cap.map λk=>(σ[k]?).join)[j]?=some v.4:=e2
    rw[qk] at e2'
    cases hk:cap[j]? with
    |none=>rw[hk] at e2';cases e2'
    |some k =>
     rw[hk] at e2'
     have e2'':(σ[k]?).join=some v:=qw e2'
     have e4:σ[k]?=some v.4:=by
      cases z:σ[k]? with
      |none=>rw[z] at e2'';cases e2''
      |some o=>rw[z] at e2'';exact congrArg some e2''
     obtain⟨hN,hcell⟩:=hcap j k nm hk e1'
     obtain⟨m,_,hl⟩:=I3.loc
     obtain⟨u,r,l⟩:=hl k nm v hN e4 (.inr hcell)
     refine⟨u,r,?_⟩
     rcases l with ⟨l1,_⟩|⟨_,c,ec,z⟩
     ·have l1':X.env.scope.names.lookup nm=some .local:=l1
      rcases hcell with q|q <;> rw[q] at l1' <;> cases l1'
     ·obtain⟨c',g1,g2⟩:=hlk2 nm (zMo e1')
      rw[ec] at g2
      cases g2
      refine .inr ⟨?_,c,g1,?_⟩
      ·rcases e3 with q|q
       ·rcases dD (env:=X.env) (names:=scope.names) q with w1|⟨_,w1⟩
        ·exfalso
         have hmem:=(hns nm (zMo e1')).1
         have:=hnames (nm, .local) (jr w1) rfl
         -- a name has one kind in a scope: its cell is known,so it is not local here
         exact absurd (I3.ok.has nm (hfree (nm, .free) hmem rfl)) (λ_=>by
          have hk2:=(hnsk nm (zMo e1'))
          rw[w1] at hk2;cases hk2)
        ·cases w1
       ·exact q
      ·obtain⟨o,ho,hd⟩:=z
       exact⟨o,keep4 c o ho,hd⟩
  ·rcases lk y c e with ⟨a1,_⟩|⟨a1,a2⟩
   ·exact⟨none,(new.empty y c a1).1⟩
   ·obtain⟨v,o,ho,hd⟩:=I3.cell y c a2
    exact⟨v,o,keep4 c o ho,hd⟩
  ·rcases lk y c e with ⟨a1,_⟩|⟨a1,a2⟩
   ·exact I3.hok.fresh (vz (new.empty y c a1).2)
   ·exact I3.freeC y c a2
 -- what is reached at the end
 have fin:∀{σ':St}{H':Hp}{s':Shared},Inv (gH X pins σ E s3.heap.objs.size).11 [] σ' H' s'->Q (.ref s2.heap.objs.size) H' ->
   fu X.w.7 X.A X.xe use Q' (.ref s2.heap.objs.size) s3.heap.objs.size (.ok .next) s':=λ{σ' H' s'} J qd=>by
  obtain⟨m',hn',_⟩:=J.loc
  have hCn:H' s3.heap.objs.size=none:=J.free
  refine hfin _ _ H' s' (I3.call' (ch:=fp) J.os J.base J.hok J.bare λb hb=>⟨(f2 b hb).2.2.2.1,(f2 b hb).2.1,(f2 b hb).2.2.2.2.1,(f2 b hb).2.2.2.2.2⟩) qd ⟨m',hn'⟩ ⟨hCn,rf I3.lt,I3.sz,λy c e=>je (oldLt y c e),λp hp=>je (qq (I3.pin p hp).1)⟩
 have cfr:∀{H':Hp},H' s3.heap.objs.size=none->CFree X pins H' s3.heap.objs.size:=λhn=>⟨hn,rf I3.lt,I3.sz,λy c e=>je (oldLt y c e),λp hp=>je (qq (I3.pin p hp).1)⟩
 have pass:Passes (CXR X.prog X.w) (gH X pins σ E s3.heap.objs.size).11 E:=λpins' σ' H' s' v s'' J hx=>by
  have IX:Inv X pins σ H' s':=I3.call' (ch:=fp) J.os J.base J.hok J.bare λb hb=>⟨(f2 b hb).2.2.2.1,(f2 b hb).2.1,(f2 b hb).2.2.2.2.1,(f2 b hb).2.2.2.2.2⟩
  obtain⟨mC,hnC,_⟩:=J.loc
  have hC0:∃o,s'.heap.get? s3.heap.objs.size=some o:=let ⟨o,_,_,ho,_⟩:=hnC;⟨o,ho⟩
  obtain⟨e,T,cls,H'',ev,os,bare,un,hok,th,q⟩:=id hx
  have J':=J.call' (ch:=[]) os un hok bare (λb z=>absurd z '$')
  obtain⟨mC',hnC',_⟩:=J'.loc
  obtain⟨IX1,th1⟩:=IX.thrown2 hex os bare un hok th
  obtain⟨oC,hoC⟩:=hC0
  exact⟨e,T,cls,H'',ev,IX1,th1,q,⟨mC',hnC'⟩,cfr J'.free,(λz=>by rw[z,th.ne] at hoC;cases hoC),(λz=>by rw[z,th.nT] at hoC;cases hoC)⟩
 have he':=he cl.9 s3.heap.objs.size s3 H3 fp _ pass
 have fpY:∀{H':Hp},(∀b∈fp,H' b=none)->∀b∈fp,mI (gH X pins σ E s3.heap.objs.size).11 [] H' b:=λ{H'} hn b hb =>
  ⟨hn b hb,(OK.exf b hb).1,OK.exfs b hb, .inl hb,(OK.exf b hb).2,λp hp=>absurd (show p∈([]:List (Addr×Obj)) from hp) '$'⟩
 have st4:tn 0 (yh '%' scope.names):=T.keep 0 _ _ st3 λb _ o e=>keep4 b o e
 have fr3:∀b∈fp,H3 b=none:=λb hb=>by
  cases z:H3 b with
  |none=>rfl
  |some o=>exact absurd rfl (λ_:(1:Nat)=1=>hfp3 b hb o z)
 have loop:fy X.w.7 X.A (.compLoop (.ListComp elt [⟨.Name x px,iter,[],0⟩] scope pos) 0 (.ref it) (.ref s2.heap.objs.size) ((gH X pins σ E s3.heap.objs.size).11).env) (fu X.w.7 X.A X.xe use Q' (.ref s2.heap.objs.size) s3.heap.objs.size) {s3 with heap:=yh '%' scope.names}:=by
  refine u5 (gH X pins σ E s3.heap.objs.size) (λv s' hv=>aC2 hstk hfL hex hxe hv) (λn s'=>∃i ys o H',Inv (gH X pins σ E s3.heap.objs.size).11 [] (o::cap.map λk=>(σ[k]?).join) H' s'/\tn i s'.heap/\(∀b∈fp,H' b=none)/\W i n ys H') ?_ m0 ⟨0,[],none,H3,IY,st4,fr3,w0⟩
  rintro n s5 ⟨i,ys,o,H5,I5,st5,fr5,w5⟩
  obtain⟨eD,alt⟩:=step i n ys H5 w5
  rcases alt with ⟨stop,qd⟩|⟨go,hz,turn⟩
  ·refine thn (T.done (gH X pins σ E s3.heap.objs.size).11 rfl rfl rfl hc i [] s5 _ H5 (gH X pins σ E s3.heap.objs.size) I5 (fpY fr5) st5 stop) λr s6 ⟨hr,I6⟩ => ?_
   subst hr
   exact fin I6 qd
  ·refine thn (T.item (gH X pins σ E s3.heap.objs.size).11 rfl rfl rfl hc i [] s5 _ H5 (gH X pins σ E s3.heap.objs.size) I5 (fpY fr5) st5 go) λr s6 ⟨u,hr,h6⟩ => ?_
   subst hr
   refine thn h6 λ_ s7 ⟨xv',H7,I7,r7,y7,st7,fr7⟩ => ?_
   have I7':=I7.pinned (fpY fr7) (T.obj _ _ st7)
   have hst:PG (gH X pins σ E s3.heap.objs.size).11 (.Name x px) (pF 0):=tM hNc rfl hx (hxf.elim (λz => .inl (by show (scope.names.lookup x==some .cell)=true;rw[z];rfl)) .inr)
   refine thn (hst _ s7 _ H7 xv' u (λσ8 H8=>σ8=(some xv'::cap.map λk=>(σ[k]?).join)/\H8=H7) I7' r7 ⟨rfl,rfl⟩) λ_ s8 ⟨σ8,H8,I8,e8,e8'⟩ => ?_
   subst e8 e8'
   have back:∀{σ9:St}{H9:Hp}{s9:Shared},Inv (gH X pins σ E s3.heap.objs.size).11 ([]++m7 fp s7.heap) σ9 H9 s9->tn (i+1) s9.heap/\∀b∈fp,H9 b=none:=λ{σ9 H9 s9} I9=>by
    refine⟨T.keep _ _ _ st7 λb hb o e=>(I9.pin (b,o) (jq _ (jq _ (gQ hb e)))).1,λb hb => ?_⟩
    obtain⟨o,e,d⟩:=T.obj _ _ st7 b hb
    exact (I9.pin (b,o) (jq _ (jq _ (gQ hb e)))).2.1
   have q9:=turn xv' _ y7
   unfold pG at q9
   dsimp only at q9
   rw[if_pos rfl] at q9
   refine thn (he' _ s8 _ _ _ I8 q9) λyv s10 ⟨y,H10,I10,r10,eD10,m',hm,w10⟩ => ?_
   refine thn (lZ (X:=bN X scope cl.9 s3.heap.objs.size (x::ns) s3 H3 fp (gH X pins σ E s3.heap.objs.size)) _ s10 _ H10 (.ref s2.heap.objs.size) [y] (.ref s2.heap.objs.size) [yv] (λ_ H11=>H11=upd H10 s2.heap.objs.size (.lst (ys++[y]))) I10 rfl (.cons r10 .nil) ⟨_,ys,y,rfl,rfl,eD10,hz,rfl⟩) λ_ s11 ⟨_,H11,I11,_,e11⟩ => ?_
   subst e11
   obtain⟨st11,fr11⟩:=back I11
   exact⟨m',hm,i+1,_,_,_,I11.unpinned,st11,fr11,w10⟩
 exact JI loop (T.self X.A 0 _ _ _ st4 loop)
end L2
namespace HD
open PySem PySem.Spec PyProof.Rows L2 PySem.W
section
variable {E:Value->Shared->Prop}
end
end HD
namespace Z
open PySem L2
section
variable {K:Fg}{p:Addr}
theorem Rel.newO(r:Rel K G H M)(h:H p=none)(o:HO):Stp K G H M G (upd H p o) (d7 M p (.ob o)):=by
 have hG:=(r.free h).1
 refine⟨Same.refl G,⟨λb u q => ?_,λa m q => ?_⟩,λa u e1 e2 e3 => ?_⟩
 ·rw[aU (bQ q hG)];exact r.same b u q
 ·by_cases z:a=p
  ·subst z
   rw[aW] at q;cases q
   exact⟨hG,a7⟩
  ·rw[dL z] at q
   exact⟨(r.mem a m q).1,(r.mem a m q).2.mv (Same.refl G) (aU z)⟩
 ·have z:a≠p:=bQ e1 h
  exact⟨by rw[aU z];exact e1,e2,by rw[dL z];exact e3⟩
end
section
theorem lS:∀{vs:List Value}{ns:List Int},VF vs ns->Vals (ns.map V.int) vs
 |_,_, .nil => .nil
 |_,_, .cons n t h => .cons ⟨t,rfl⟩ (lS h)
end
end Z
namespace L2
open PySem PySem.Spec PyProof.Rows
section
noncomputable def aL5(K:qb)(CR:Addr)(iN:Nat)(tb:XK->TS)(th:Addr->TS):TS:=λD σ H=>tb (λcls _ H'=>∃C,cls = .ref C/\y6 K (.ref C) (.ref CR)=some true /\
 ∀e,H' e=none->th e {nx:=λσ' H''=>D.nx (σ'.set iN none) H'',rt:=λ_ _=>False} (σ.set iN (.ref e).4) (upd H' e (.ext (ExcAt e (.ref C))))) D σ H
theorem aIB{body hb:List Stmt}{b0:Stmt}{tb:XK->TS}{th:Addr->TS}{c n:Str}{CR:Addr}{iN:Nat}{pc ph:Pos}(hst:X.stack=X.env::X.outer)(hf:X.env.frame=some X.env.locals)(hex:X.ex=[])(hbd:PTry X body tb)(hh:∀e,PSs (X.inEx e) (b0::hb) (th e))(hg:Gl X c)(hm:X.mg c=some (.ref CR))(hN:X.N.Nodup)(hn:X.N[iN]?=some n)(hnl:X.env.scope.names.lookup n=some .local)(hnf:X.fn n=true\/X.env.scope.names.lookup n=some .local)(hd:(c==("__debug__" : Str))=false:=by decide):
  PS X (.Try body [.ExceptHandler (.Name c pc).4 n.4 (b0::hb) ph] [] [] pos) (aL5 X.K CR iN tb th):=by
 intro pins s σ H D I h
 refine wpAny_Try_except (vd (hbd pins s σ H D _ I h) (λf s1 q => ?_) λv s1 q => ?_)
 ·cases f with
  |next=>exact zf q
  |ret v=>exact q
  |brk=>exact q
  |cont=>exact q
 obtain⟨e,T,cls,H',rfl,I1,th',C,rfl,hx,k⟩:=q
 obtain⟨oe,vs,oT,ts,a0,g1,g2,g3,g4,g5,g6,g7,g8⟩:=th'.ob
 have hfr:X.A.frames=some (X.env::X.outer):=by rw[I1.ok.frames,hst]
 have fl:KI (veil s1.heap X.stack e T) (X.env::X.outer) e (.ref C) a0 s1.heap:=by
  refine⟨kJ,rB,?_,oe,vs,T,oT,ts,g1,g2,g3,g4,oH,g5,g6,g7,g8⟩
  have:=I1.stack
  rw[hst] at this
  exact jO this λenv he a ha=>by rw[hst];exact yo.mpr ⟨env,he,ha⟩
 refine VN hfr hf fl λh4 held sm4 => ?_
 refine wpAny_landsW held λh5 fl5 sm5 => ?_
 have I5:Inv X pins σ H' {s1 with heap:=h5}:=I1.veiled (t':=s1.toks) hst hf hex th' fl5.1 (sm4.trans sm5)
 refine wpAny_handleBy_cons (codeAny_handlers_test (kL (X:=X.inEx e) (I5.inEx e) hg hm ?_ hd)) (by intro q;cases q)
 have ty5:∀M:Model,JT M h5 (typeOf (.ref e)) (.ref C):=λM=>by
  obtain⟨o,ws,w1,w2,w3,_⟩:=fl5.first
  exact (show ExcAt e (.ref C) h5 from ⟨o,ws,w1,w2,w3⟩).ty
 refine (PySem.W.exm_one I5.kIn (ty5 _) hx).here ?_
 refine codeAny_handlers_suite_as (lands_againW (s:={s1 with heap:=h5}) fl5 λh6 fl6 sm6 => ?_)
 have I6:Inv X pins σ H' {s1 with heap:=h6}:=I1.veiled (t':=s1.toks) hst hf hex th' fl6.1 ((sm4.trans sm5).trans sm6)
 have x6:ExcAt e (.ref C) h6:=by
  obtain⟨o,ws,w1,w2,w3,_⟩:=fl6.first
  exact⟨o,ws,w1,w2,w3⟩
 have I7:=I6.track hex th' x6
 refine jJ I7 hN hn (.inl hnl) (v := .ref e) rfl (λs8 I8 => ?_) hnf
 refine vd (hh e pins s8 _ _ _ (I8.inEx e) (k e th'.He)) (λf s9 q => ?_) λ_ _ z=>z.elim
 cases f with
 |next =>
  obtain⟨σ',H'',I9,q⟩:=q
  exact wN (I9.outEx I.ok) hN hn hnl λs' J=>⟨_,_,J,q⟩
 |ret v=>obtain⟨_,_,_,_,_,z⟩:=q;exact z.elim
 |brk=>obtain⟨_,_,_,z⟩:=q;exact z.elim
 |cont=>obtain⟨_,_,_,z⟩:=q;exact z.elim
end
end L2
namespace Z
open PySem L2
abbrev CtX:=List D->Mem->(D->Mem->Prop)->(Addr->Mem->Prop)->Prop
noncomputable def lV(K:Fg)(M:Mem)(kx:Addr->Mem->Prop)(G H:Hp)(E:XK):Prop:=∀C G' H' M',Stp K G H M G' H' M'->kx C M'->E (.ref C) none H'
noncomputable def spX(K:Fg)(F:CtX):Sp:=λvs H Q E=>∃G M ds k kx,Rel K G H M/\Dens K G ds vs/\F ds M k kx/\Cont K M k G H Q/\lV K M kx G H E
theorem lV.up{K:Fg}{G1:Hp}{E:XK}(c:lV K M kx G H E)(s:Stp K G H M G1 H1 M1):lV K M1 kx G1 H1 E:=λC G' H' M' s'=>c C G' H' M' (s.trans s')
noncomputable def GSx(X:Cx)(E:XK)(kx:Addr->Mem->Prop)(ss:List Stmt)(Γ:Gm)(M:Mem)(F:Fin):Prop:=∀σ G H En,EnvR X.K G Γ σ->Rel X.K G H M->EndsOk X.K G H M F En->lV X.K M kx G H E->xD X ss En σ H
section
variable {E:XK}{F:Fin}
theorem aCC(h:GS X ss Γ M F):GSx X E kx ss Γ M F:=λσ G H En en rl q _=>h σ G H En en rl q
theorem gM(h:G1 X st Γ M {F with nx:=λΓ' M'=>GSx X E kx ss Γ' M' F}):GSx X E kx (st::ss) Γ M F:=λσ G H En en rl q qx=>by
 refine jD (nN pUS lF) ?_
 refine h σ G H _ en rl ⟨λσ' G' H' Γ' M' s' en' h' => ?_,q.rt,q.bk,q.ct⟩
 exact h' σ' G' H' En en' s'.rel (q.up s') (qx.up s')
theorem jU{np p1:Pos}{e₀:Expr}{rest:List Expr}(thr:Throws X E)(hc:X.calm=true)(hm:X.mg x=some (.ref C))(hq:xy X.K C bmV "ValueError.__new__" = true)(h:GT X c Γ M λt M1=>if t=true then GA X (e₀::rest) Γ M1 (λds M2=>ds.length<=sizeLine/\kx C M2) else GSx X E kx ss Γ M1 F)(hg:Gl X x:=by rfl)(he:qp (e₀::rest) X.env=(false,eval e₀ X.env)::qp rest X.env:=by rfl)(hplain:(x9 cpos (qp rest X.env)).any (·.1)=false:=by rfl)(hd:(x==("__debug__" : Str))=false:=by decide):
  GSx X E kx (.If c [.Raise (.Call (.Name x np) (e₀::rest) [] cpos).4 none p1] [] pos::ss) Γ M F:=λσ G H En en rl q qx=>by
 refine jD (nN pUS lF) ?_
 refine gI (aGX pUT (sN (aFB thr hc hg hm hq pUA he hplain hd)) zZ) ?_
 refine h σ G H _ en rl λt G1 H1 M1 s1 h1 => ?_
 cases t with
 |true =>
  rw[if_pos rfl] at h1 ⊢
  exact h1 σ G1 H1 _ (en.up s1.gg) s1.rel λvs G2 H2 ds M2 s2 dn ⟨hl,hk⟩=>⟨by rw[<- dn.len];exact hl,qx C G2 H2 M2 (s1.trans s2) hk⟩
 |false =>
  rw[if_neg zBf] at h1 ⊢
  exact h1 σ G1 H1 En (en.up s1.gg) s1.rel (q.up s1) (qx.up s1)
end
section
variable {K:Fg}
abbrev cxX(P:Program)(w:World)(K:Fg)(mg:Str->Option Value)(base:Heap)(N:List Str)(x:Str)(st:Stmt)(f:Addr)(cdv:Value)(A:Around)(outer:List Env)(s:Shared)(H:Hp)(E:XK):Cx:=
 fC (CXR P w) P w K mg base N x (aL st) f cdv A outer s H E
theorem wL{ps:List Str}{F:CtX}(Df:R.Df K mg x st ps f fd)(S:FnScope N ps (aL st))(len:∀ds M k kx,F ds M k kx->ds.length=ps.length)(h:∀cdv A outer s H E,Room n (cxX P w K mg base N x st f cdv A outer s H E).A->Throws (cxX P w K mg base N x st f cdv A outer s H E) E->∀ds M k kx,F ds M k kx ->
   GSx (cxX P w K mg base N x st f cdv A outer s H E) E kx (dE st) (ds.map some++jy (N.length-ds.length) none) M {nx:=λ_ M'=>k .non M',rt:=k}):FnOk P w K mg base (CXR P w) (n+1) f fd ps (spX K F):=by
 refine Df.F.okX S (λvs H Q E h => ?_) (λcdv A outer s H vs Q E hr hsp => ?_)
 ·obtain⟨G,M,ds,k,kx,rl,dn,hF,_⟩:=h
  rw[<- dn.len];exact len _ _ _ _ hF
 ·obtain⟨G,M,ds,k,kx,rl,dn,hF,q,qx⟩:=hsp
  refine⟨_,lF,?_⟩
  exact h cdv A outer s H E hr aDS ds M k kx hF (start N vs) G H _ (EnvR.start dn N.length) rl ⟨λσ' G' H' Γ' M' s' en' h'=>q _ _ _ _ _ s' pK h',q,λ_ _ _ _ _ _ _ h'=>h'.elim,λ_ _ _ _ _ _ _ h'=>h'.elim⟩ qx
end
theorem EnvR.unset{K:Fg}(h:EnvR K G Γ σ)(i:Nat):EnvR K G (Γ.set i none) (σ.set i none):=by
 refine⟨by rw[zu,zu,h.len],λj c q => ?_⟩
 rw[fm] at q ⊢
 by_cases z:i=j
 ·rw[if_pos z] at q
  split at q <;> cases q
 ·rw[if_neg z] at q ⊢
  exact h.get j c q
noncomputable def sZ(e C:Addr):MO := .ob (.ext (ExcAt e (.ref C)))
section
variable {F:Fin}
end
section
variable {p1:Pos}
theorem aAD{C:Str}{c:Addr}(hm:X.mg "isinstance" = none)(hmC:X.mg C=some (.ref c))(h:GE X e Γ M λd M1=>∃a C0 b,d = .mt a/\M1 a=some (sZ a C0)/\ExcK X.K C0/\v8 X.K (.ref C0) (.ref c)=some b/\k (.bl b) M1)(hg:Gl X "isinstance" := by rfl)(hgC:Gl X C:=by rfl)(hdb:(C==("__debug__" : Str))=false:=by decide)(he:qp [e, .Name C p2] X.env=(false,eval e X.env)::qp [.Name C p2] X.env:=by rfl)(hpl:(x9 pos (qp [.Name C p2] X.env)).any (·.1)=false:=by rfl):GE X (.Call (.Name "isinstance" p1) [e, .Name C p2] [] pos) Γ M k:=λσ G H Q en rl q=>by
 refine bL (lM uJ hg hm x8 (fM (hs:=he) pU (fM (mK (v := .ref c) hgC hmC rfl hdb) lJ)) '*' '*' he hpl) ?_
 refine h σ G H _ en rl λv G1 H1 d M1 s1 e1 ⟨a,C0,b,ed,hM,hE,hb,h1⟩ => ?_
 subst ed
 rw[e1.mt_]
 exact⟨a,C0, .ref c, .ref c,b,rfl,rfl,(s1.rel.mem _ _ hM).2,hE,hb,q _ _ _ _ _ s1 cQ h1⟩
theorem xW{C:Str}{T:String}(hm:X.mg "isinstance" = none)(hmC:X.mg C=none)(hvT:va C=some (.type T))(h:GE X e Γ M λd M1=>∃a C0 b,d = .mt a/\M1 a=some (sZ a C0)/\ExcK X.K C0/\v8 X.K (.ref C0) (.type T)=some b/\k (.bl b) M1)(hg:Gl X "isinstance" := by rfl)(hgC:Gl X C:=by rfl)(hn:C ≠ "__name__" := by decide)(hdb:(C==("__debug__" : Str))=false:=by decide)(he:qp [e, .Name C p2] X.env=(false,eval e X.env)::qp [.Name C p2] X.env:=by rfl)(hpl:(x9 pos (qp [.Name C p2] X.env)).any (·.1)=false:=by rfl):GE X (.Call (.Name "isinstance" p1) [e, .Name C p2] [] pos) Γ M k:=λσ G H Q en rl q=>by
 refine bL (lM uJ hg hm x8 (fM (hs:=he) pU (fM (zE (v := .ty T) hgC hmC hvT rfl hn hdb) lJ)) '*' '*' he hpl) ?_
 refine h σ G H _ en rl λv G1 H1 d M1 s1 e1 ⟨a,C0,b,ed,hM,hE,hb,h1⟩ => ?_
 subst ed
 rw[e1.mt_]
 exact⟨a,C0, .ty T, .type T,b,rfl,rfl,(s1.rel.mem _ _ hM).2,hE,hb,q _ _ _ _ _ s1 cQ h1⟩
inductive Cls(X:Cx):List Expr->List Addr->Prop
 |nil:Cls X [] []
 |cons {C:Str}{c:Addr}{p:Pos}{es:List Expr}{cs:List Addr} (hmC:X.mg C=some (.ref c)) (r:Cls X es cs) (hgC:Gl X C:=by rfl) (hdb:(C==("__debug__" : Str))=false:=by decide) (hs:qp (.Name C p::es) X.env=(false,eval (.Name C p) X.env)::qp es X.env:=by rfl):Cls X (.Name C p::es) (c::cs)
theorem Cls.pa{cs:List Addr}(h:Cls X es cs):PA X es (λ_ H Q=>Q (cs.map V.ref) H):=by
 induction h with
 |nil=>exact lJ
 |cons hmC r hgC hdb hs ih=>exact fM (hs:=hs) (mK (v := .ref _) hgC hmC rfl hdb) ih
theorem q5:∀cs:List Addr,n0 (cs.map V.ref)=some (cs.map yr)
 |[]=>rfl
 |c::cs=>by
  show (match wH (V.ref c),n0 (cs.map V.ref) with|some u,some us=>some (u::us)|_,_=>none)=_
  rw[q5 cs];rfl
theorem xL{cs:List Expr}{as:List Addr}{x1}(hm:X.mg "isinstance" = none)(hcs:Cls X cs as)(hl:as.length<=sizeLine)(h:GE X e Γ M λd M1=>∃a C0 b,d = .mt a/\M1 a=some (sZ a C0)/\ExcK X.K C0/\gu X.K (.ref C0) (as.map yr)=some b/\k (.bl b) M1)(hg:Gl X "isinstance" := by rfl)(he:qp [e, .Tuple cs x1 p2] X.env=(false,eval e X.env)::qp [.Tuple cs x1 p2] X.env:=by rfl)(hpl:(x9 pos (qp [.Tuple cs x1 p2] X.env)).any (·.1)=false:=by rfl):GE X (.Call (.Name "isinstance" p1) [e, .Tuple cs x1 p2] [] pos) Γ M k:=λσ G H Q en rl q=>by
 refine bL (lM aBY hg hm x8 (fM (hs:=he) pU (fM (vL hcs.pa) lJ)) '*' '*' he hpl) ?_
 refine h σ G H _ en rl λv G1 H1 d M1 s1 e1 ⟨a,C0,b,ed,hM,hE,hb,h1⟩ => ?_
 subst ed
 rw[e1.mt_]
 refine⟨by rw[zLm];exact hl,λp hp => ?_⟩
 have st:=s1.rel.new (o := .tup (as.map V.ref)) hp
 refine⟨a,C0,p,_,_,b,rfl,a7,q5 as,?_,hE,hb,q _ _ _ _ _ (s1.trans st) cQ h1⟩
 exact (st.rel.mem _ _ hM).2
end
end Z
namespace L2
open PySem PySem.Spec PyProof.Rows
noncomputable def Lets(X:Cx)(E:XK):Prop:=∀pins σ e T cls H' s',Inv X pins σ H' s'->ThrownA X pins H' e T cls s'.heap->E cls none H'->X.xe (.ref e) s'
theorem aFX{E:XK}{sc:Scope}(ns:List Str)(cap:List Nat)(hc:X.calm=true)(hsc:X.env.scope=sc)(hN:X.N=N)(ok:iU sc scope x ns cap N=true)(hi:PI X (.Name x px) iter wi)(he:∀cs C s₀ H₀ fp xe,Passes (CXR X.prog X.w) (bN X scope cs C (x::ns) s₀ H₀ fp xe) E->PE (bN X scope cs C (x::ns) s₀ H₀ fp xe) elt te)(hstk:X.stack=X.env::X.outer)(hfL:X.env.frame=some X.env.locals)(hex:X.ex=[])(lt:Lets X E)(hs:∀v,foldedSetIterable iter X.env v=pure v:=by intro _;rfl):
  PE X (.ListComp elt [⟨.Name x px,iter,[],0⟩] scope pos) (kC wi cap pG te):=by
 subst hsc hN
 have k:=oU ok
 intro pins s σ H Q I h
 rw[eval_ListComp]
 refine aA9 hc k.hkind k.hnames ?_ ?_ k.hNc k.hlen k.hcap k.hns k.hnsk k.hfree hi he hstk hfL hex hs (use:=none) I h (lt pins σ) λD C H' s' J q ⟨m,hn⟩ cf=>⟨m,hn,λh' hs' => ?_⟩
 ·rcases k.hx with z|z
  ·exact .inl (ye z)
  ·exact .inr (eE z)
 ·rcases k.hx with z|z
  ·exact .inr (ye z)
  ·exact .inl z
 ·exact⟨.ref D,H',J.turned (t':=s'.toks) (it:=C) (λb o hb e=>(hs'.2 b hb).trans e) cf.hn cf.hL (.inr cf.h1) cf.h2 cf.h3,rfl,q⟩
end L2
namespace Z
open PySem L2
noncomputable def GEx(X:Cx)(E:XK)(kx:Addr->Mem->Prop)(e:Expr)(Γ:Gm)(M:Mem)(k:D->Mem->Prop):Prop:=∀σ G H Q,EnvR X.K G Γ σ->Rel X.K G H M->Cont X.K M k G H Q->lV X.K M kx G H E->tU X e σ H Q
noncomputable def GAx(X:Cx)(E:XK)(kx:Addr->Mem->Prop)(es:List Expr)(Γ:Gm)(M:Mem)(k:List D->Mem->Prop):Prop:=
 ∀σ G H Q,EnvR X.K G Γ σ->Rel X.K G H M->(∀vs G' H' ds M',Stp X.K G H M G' H' M'->Dens X.K G' ds vs->k ds M'->Q vs H')->lV X.K M kx G H E->tUA X es σ H Q
section
variable {E:XK}{ka:List D->Mem->Prop}{F:Fin}{p:Pos}
theorem aJO(h:GE X e Γ M k):GEx X E kx e Γ M k:=λσ G H Q en rl q _=>h σ G H Q en rl q
theorem zT(h:ka [] M):GAx X E kx [] Γ M ka:=λσ G H Q en rl q _=>rL lJ (q _ _ _ _ _ (Stp.refl rl) bR h)
theorem nV(h:GEx X E kx e Γ M λd M1=>GAx X E kx es Γ M1 λds M2=>ka (d::ds) M2)(hs:qp (e::es) X.env=(false,eval e X.env)::qp es X.env:=by rfl):GAx X E kx (e::es) Γ M ka:=λσ G H Q en rl q qx=>by
 refine rL (fM pU pUA hs) ?_
 refine h σ G H _ en rl (λv G1 H1 d M1 s1 e1 h1 => ?_) qx
 exact h1 σ G1 H1 _ (en.up s1.gg) s1.rel (λvs G2 H2 ds M2 s2 e2 h2=>q _ _ _ _ _ (s1.trans s2) (bO (e1.up s2.gg) e2) h2) (qx.up s1)
theorem aIJ{x1}(h:GAx X E kx es Γ M λds M1=>ds.length<=sizeLine/\k (.tup ds) M1):GEx X E kx (.Tuple es x1 pos) Γ M k:=λσ G H Q en rl q qx=>by
 refine bL (vL pUA) ?_
 refine h σ G H _ en rl (λvs G1 H1 ds M1 s1 e1 ⟨hl,h1⟩=>⟨by rw[<- e1.len];exact hl,λp hp => ?_⟩) qx
 have st:=s1.rel.new (o := .tup vs) hp
 exact q _ _ _ _ _ (s1.trans st) (jI (SqT.of a7) (e1.up st.gg)) h1
theorem aBI{T:String}(hc:dS X (.type T) r)(hm:X.mg x=none)(hv:va x=some (.type T))(h:GAx X E kx (e::es) Γ M λds M1=>OpN X.K r ds M1 k)(hg:Gl X x:=by rfl)(hn:x ≠ "__name__" := by decide)(hdb:(x==("__debug__" : Str))=false:=by decide)(he:qp (e::es) X.env=(false,eval e X.env)::qp es X.env:=by rfl)(hpl:(x9 pos (qp es X.env)).any (·.1)=false:=by rfl):GEx X E kx (.Call (.Name x p) (e::es) [] pos) Γ M k:=λσ G H Q en rl q qx=>by
 refine bL (uN hc hg hm hv pUA hn hdb he hpl) ?_
 exact h σ G H _ en rl (λvs G1 H1 ds M1 s1 e1 h1=>h1 G1 H1 vs Q s1.rel e1 (q.up s1)) qx
theorem aCW{ps:List Str}{FX:CtX}(ps':Passes (CXR X.prog X.w) X E)(Fk:FnOk X.prog X.w X.K X.mg X.base (CXR X.prog X.w) n f fd ps (spX X.K FX))(hr:Room n X.A)(hm:X.mg x=some (.ref f))(hk:wm X.K (.ref f)=true)(hb:Binds X.K fd ps [])(h:GA X (e::es) Γ M λds M1=>FX ds M1 k kx)(hg:Gl X x:=by rfl)(hdb:(x==("__debug__" : Str))=false:=by decide)(he:qp (e::es) X.env=(false,eval e X.env)::qp es X.env:=by rfl)(hpl:(x9 pos (qp es X.env)).any (·.1)=false:=by rfl):
  GEx X E kx (.Call (.Name x p) (e::es) [] pos) Γ M k:=λσ G H Q en rl q qx=>by
 refine bL (zA Fk hr hg hm hk hb .nil ps' pUA hdb he hpl) ?_
 refine h σ G H _ en rl λvs G1 H1 ds M1 s1 e1 h1 => ?_
 show spX X.K FX (vs++[]) H1 Q E
 rw[w8]
 exact⟨G1,M1,ds,k,kx,s1.rel,e1,h1,q.up s1,qx.up s1⟩
theorem aIY(h:GEx X E kx e Γ M F.rt):GSx X E kx [.Return e.4 pos] Γ M F:=λσ G H En en rl q qx=>by
 refine jD (sN (aB1 pU)) ?_
 exact h σ G H _ en rl (λv G1 H1 d M1 s1 e1 h1=>q.rt _ _ _ _ _ s1 e1 h1) qx
theorem aIA(i:Nat)(hN:X.N.Nodup)(h:GEx X E kx e Γ M λd M1=>GSx X E kx ss (Γ.set i d.4) M1 F)(hi:X.N[i]?=some x:=by rfl)(hx:Loc X.env.scope x:=by first|exact JN rfl|exact Jf rfl)(hs:cn e (.Name x pos').4 pos.line X.env=pure false:=by rfl)(hf:X.fn x=true\/X.env.scope.names.lookup x=some .local:=by first|exact .inl rfl|exact .inr rfl):GSx X E kx (.Assign [.Name x pos'] e pos::ss) Γ M F:=λσ G H En en rl q qx=>by
 refine jD (nN (aC0 hN hi hx pU hs hf) lF) ?_
 exact h σ G H _ en rl (λv G1 H1 d M1 s1 e1 h1=>h1 _ G1 H1 En ((en.up s1.gg).set e1 i) s1.rel (q.up s1) (qx.up s1)) qx
theorem aJD(h:GEx X E kx e Γ M λd M1=>∃a ds M2,d = .mt a/\M1 a=some (.lst ds)/\M2 a=none/\Le M2 M1/\k (.lst ds) M2):GEx X E kx e Γ M k:=λσ G H Q en rl q qx =>
 h σ G H Q en rl (λv G1 H1 d M1 s1 e1 ⟨a,ds,M2,ed,h1,h2,h3,h4⟩=>by
  subst ed
  obtain⟨vs,x1,x2,st⟩:=s1.rel.frz h1
  have l:Le M2 (j6 M1 a):=λb o z=>by rw[kQ (λy=>by rw[y,h2] at z;cases z)];exact h3 b o z
  have st2:=st.trans (st.rel.drop l)
  exact q v _ _ (.lst ds) M2 (s1.trans st2) (by rw[e1.mt_];exact fK a7 (x2.up st.gg)) h4) qx
end
noncomputable def aLI(X:Cx)(E:XK)(kx:Addr->Mem->Prop)(x:Str)(ns:List Str)(cap:List Nat)(elt:Expr)(scope:Scope)(Γ:Gm)(k:D->Mem->Prop)(ds:List D)(M1:Mem):Prop:=
 ds.length<=sizeLine/\∃I:Nat->List D->Mem->Prop,I 0 [] M1 /\
  (∀i d acc M2,ds[i]?=some d->I i acc M2->∀cs C s₀ H₀ fp xe,Passes (CXR X.prog X.w) (bN X scope cs C (x::ns) s₀ H₀ fp xe) E->GEx (bN X scope cs C (x::ns) s₀ H₀ fp xe) E kx elt (some d::cap.map λk=>(Γ[k]?).join) M2 (λy M4=>I (i+1) (acc++[y]) M4)) /\
  (∀acc M2,I ds.length acc M2->∀a,M2 a=none->k (.mt a) (d7 M2 a (.lst acc)))
theorem aHB{E:XK}{cap:List Nat}{Q:VK}(qx:lV X.K M kx G H E)(h:GI X (.Name x px) iter Γ M (aLI X E kx x ns cap elt scope Γ k))(en:EnvR X.K G Γ σ)(rl:Rel X.K G H M)(q:Cont X.K M k G H Q):
  kC (tUI X (.Name x px) iter) cap pG (λσ H Q=>∀cs C s₀ H₀ fp xe,Passes (CXR X.prog X.w) (bN X scope cs C (x::ns) s₀ H₀ fp xe) E->tU (bN X scope cs C (x::ns) s₀ H₀ fp xe) elt σ H Q) σ H Q:=by
 refine h σ G H _ en rl λJ G1 H1 ds M1 s1 yd ⟨hlen,I,h0,hstep,hend⟩ A hA => ?_
 have hA':=s1.rel.free hA
 refine⟨λi m ys H2=>m=ds.length-i/\i<=ds.length/\∃G2 M2 acc,Stp X.K G1 H1 M1 G2 H2 M2/\H2 A=some (.lst ys)/\G2 A=none/\M2 A=none/\Dens X.K G2 acc ys/\I i acc M2/\acc.length<=i,
  ⟨ds.length,by simp,vy _,G1,M1,[],(Stp.refl s1.rel).aside hA hA'.1 hA'.2,a7,hA'.1,hA'.2,bR,h0,qj _⟩,?_⟩
 rintro i m ys H2 ⟨rfl,hi,G2,M2,acc,s2,hl,hg,hm,dn,hI,hacc⟩
 refine⟨hl,?_⟩
 by_cases hlt:i<ds.length
 ·refine .inr ⟨yd.go i G2 H2 M2 s2.gg s2.rel hlt,by rw[<- dn.len];omega,λx H3 y => ?_⟩
  obtain⟨G3,d,s3,hd,ex⟩:=yd.yld i G2 H2 M2 x H3 s2.gg s2.rel hlt y
  obtain⟨l3,g3,m3⟩:=s3.fr A _ hl hg hm
  have en3:=((en.up s1.gg).up (s2.trans s3).gg).cap ex cap
  unfold pG
  dsimp only
  rw[if_pos rfl]
  intro cs C s₀ H₀ fp xe ps
  refine hstep i d acc M2 hd hI cs C s₀ H₀ fp xe ps _ G3 H3 _ en3 s3.rel (λy G5 H5 d5 M5 s5 e5 h5 => ?_) ((qx.up s1).up (s2.trans s3))
  obtain⟨l5,g5,m5⟩:=s5.fr A _ l3 g3 m3
  have s25:=(s2.trans s3).trans s5
  exact⟨l5,ds.length-(i+1),by omega,rfl,hlt,G5,M5,acc++[d5],s25.aside hA g5 m5,a7,g5,m5,(dn.up (s3.trans s5).gg).append (bO e5 bR),h5,by rw[ql,gz];omega⟩
 ·have e:i=ds.length:=by omega
  subst e
  exact .inl ⟨yd.stop _ G2 H2 M2 s2.gg s2.rel rfl,q _ _ _ _ _ (s1.trans (s2.track hA hg hl dn)) rW (hend acc M2 hI A hm)⟩
theorem aD8{E:XK}{sc:Scope}(ns:List Str)(cap:List Nat)(lt:Lets X E)(h:GI X (.Name x px) iter Γ M λds M1=>ds.length<=sizeLine/\∃I:Nat->List D->Mem->Prop,I 0 [] M1 /\
   (∀i d acc M2,ds[i]?=some d->I i acc M2->∀cs C s₀ H₀ fp xe,Passes (CXR X.prog X.w) (bN X scope cs C (x::ns) s₀ H₀ fp xe) E->GEx (bN X scope cs C (x::ns) s₀ H₀ fp xe) E kx elt (some d::cap.map λk=>(Γ[k]?).join) M2 (λy M4=>I (i+1) (acc++[y]) M4)) /\
   (∀acc M2,I ds.length acc M2->k (.lst acc) M2))(hsc:X.env.scope=sc:=by rfl)(hN:X.N=N:=by rfl)(ok:iU sc scope x ns cap N=true:=by first|decide +kernel|kernel_rfl!)(hc:X.calm=true:=by rfl)(hstk:X.stack=X.env::X.outer:=by rfl)(hfL:X.env.frame=some X.env.locals:=by rfl)(hex:X.ex=[]:=by rfl)(hs:∀v,foldedSetIterable iter X.env v=pure v:=by intro _;rfl):
  GEx X E kx (.ListComp elt [⟨.Name x px,iter,[],0⟩] scope pos) Γ M k:=by
 refine aJD λσ G H Q en rl q qx => ?_
 refine bL (aFX ns cap hc hsc hN ok pUI (λcs C s₀ H₀ fp xe ps pins s σ H Q I h=>h cs C s₀ H₀ fp xe ps pins s I) hstk hfL hex lt hs) (aHB qx ?_ en rl q)
 intro σ G H Rr en rl q
 refine h σ G H Rr en rl λJ G1 H1 ds M1 s1 yd ⟨hl,I,h0,hstep,hend⟩ => ?_
 exact q J G1 H1 ds M1 s1 yd ⟨hl,I,h0,hstep,λacc M2 hI a ha=>⟨a,acc,M2,rfl,aW,ha,(Le.refl M2).upd ha,hend acc M2 hI⟩⟩
end Z
namespace L2
open PySem PySem.Spec PyProof.Rows
section
theorem aB2{k:Nat}{ps:List Str}{p:Pos}{t:XK->TE}(F:FnOk X.prog X.w X.K X.mg X.base CX0 k f fd ps sp)(hr:Room k X.A)(hg:Gl X x)(hm:X.mg x=some (.ref f))(hk:wm X.K (.ref f)=true)(hb:Binds X.K fd ps [])(hp:PEX X e t)(hdb:(x==("__debug__" : Str))=false:=by decide)(he:qp [e] X.env=(false,eval e X.env)::qp [] X.env:=by rfl)(hpl:(x9 pos (qp [] X.env)).any (·.1)=false:=by rfl):
  PEX X (.Call (.Name x p) [e] [] pos) (λE σ H Q=>t E σ H λv H1=>sp ([v]++[]) H1 Q E0):=by
 intro pins s σ H Q E I h
 refine bq (kL I hg hm ?_ hdb)
 refine md (h₀:=X.base) I.ok.mod.kin hk ?_ he hpl
 rw[he]
 show kf _ _ (VJ ((false,eval e X.env)::x9 pos (qp [] X.env))) _ _ s
 refine Jm (vd (hp pins s σ H _ E I h) (λu s1 ⟨v,H1,I1,r1,q1⟩ => ?_) λ_ _ z=>z)
 refine JF ⟨I1.kIn,?_⟩
 exact vd (aDT (X:=X.nox) (E:=E0) F hr hb .nil pass0 (I1.wish _) (.cons r1 .nil) q1) (λu' s' ⟨v',H',I',r',q'⟩=>⟨v',H',I'.unwish,r',q'⟩) λ_ _ z=>z.elim
theorem aIH{a b:List Stmt}{tc:TT}{ta tb:XK->TS}(hc:PT X.nox c tc)(ha:PTry X a ta)(hb:PTry X b tb):
  PTry X [.If c a b pos] (λE D σ H=>tc σ H λd H1=>if d=true then ta E D σ H1 else tb E D σ H1):=by
 intro pins s σ H D E I h
 refine lp (wpAny_If (vd (hc pins s σ H _ (I.wish _) h) (λd s1 ⟨H1,I1,q1⟩ => ?_) λ_ _ z=>z.elim))
 have I1:Inv X pins σ H1 s1:=I1.unwish
 have fin:∀fl s2,SP X pins D fl s2->(match fl with|.next=>kf X.w.7 X.A (execs [] X.env) (SP X pins D) (XP X pins σ E) s2|fl=>SP X pins D fl s2):=λfl s2 q=>by
  cases fl with
  |next=>exact zf q
  |ret v=>exact q
  |brk=>exact q
  |cont=>exact q
 cases d with
 |true=>exact vd (ha pins s1 σ H1 D E I1 (by simpa using q1)) (λfl s2 q=>fin fl s2 q) λ_ _ z=>z
 |false=>exact vd (hb pins s1 σ H1 D E I1 (by simpa using q1)) (λfl s2 q=>fin fl s2 q) λ_ _ z=>z
end
end L2
namespace L2
open PySem PySem.Spec PyProof.Rows
theorem aLL{K:qb}{E:XK}:Lets E.12 E:=
 λ_ _ _ _ _ _ _ I th q=>aGP I th q
end L2
namespace Z
open PySem L2
section
variable {F:Fin}
structure TryW(X:Cx)(iY:Nat)(y g x:Str)(py pg p cp cg pa:Pos)(e:Expr)(es:List Expr)(FX:CtX)(Fg:Ct):Prop where
 ex:∃m f fd ps m' f' fd' ps',FnOk X.prog X.w X.K X.mg X.base (CXR X.prog X.w) m f fd ps (spX X.K FX)/\Room m X.A/\X.mg x=some (.ref f)/\wm X.K (.ref f)=true/\Binds X.K fd ps [] /\
  FnOk X.prog X.w X.K X.mg X.base CX0 m' f' fd' ps' (spZ X.K Fg)/\Room m' X.A/\X.mg g=some (.ref f')/\wm X.K (.ref f')=true/\Binds X.K fd' ps' []
 gx:Gl X x
 gg:Gl X g
 dx:(x==("__debug__" : Str))=false
 dg:(g==("__debug__" : Str))=false
 he:qp (e::es) X.env=(false,eval e X.env)::qp es X.env
 hp:(x9 cp (qp es X.env)).any (·.1)=false
 he1:qp [.Call (.Name x p) (e::es) [] cp] X.env=(false,eval (.Call (.Name x p) (e::es) [] cp) X.env)::qp [] X.env
 hp1:(x9 cg (qp [] X.env)).any (·.1)=false
 hs:cn (.Call (.Name g pg) [.Call (.Name x p) (e::es) [] cp] [] cg) (.Name y py).4 pa.line X.env=pure false
theorem TryW.p{iY:Nat}{g:Str}{pg p cp cg pa:Pos}{FX:CtX}{Fg:Ct}(t:TryW X iY y g x py pg p cp cg pa e es FX Fg)(hN:X.N.Nodup)(hx:X.nox=X)(hex:X.ex=[])(hi:X.N[iY]?=some y)(hy:Loc X.env.scope y)(hyf:X.fn y=true\/X.env.scope.names.lookup y=some .local):
  PTry X [.Assign [.Name y py] (.Call (.Name g pg) [.Call (.Name x p) (e::es) [] cp] [] cg) pa] (λE D σ H=>tUA X (e::es) σ H λvs H1=>spX X.K FX vs H1 (λv H2=>spZ X.K Fg [v] H2 (λv' H3=>D.nx (σ.set iY v'.4) H3) E0) E):=by
 obtain⟨m,f,fd,ps,m',f',fd',ps',F1,r1,m1,k1,b1,F2,r2,m2,k2,b2⟩:=t.ex
 have h:=aES (pos:=pa) hN hi hy (aB2 F2 r2 t.gg m2 k2 b2 (aE4 hex F1 r1 t.gx m1 k1 b1 (t:=tUA X (e::es)) (by rw[hx];exact pUA) t.dx t.he t.hp) t.dg t.he1 t.hp1) t.hs hyf
 intro pins s σ H D E I q
 refine h pins s σ H D E I ?_
 show tUA X (e::es) σ H λvs H1=>spX X.K FX (vs++[]) H1 _ E
 refine (show tUA X (e::es) σ H _ from ?_)
 intro pos' pins' s' I'
 refine vd (q pos' pins' s' I') (λus s1 ⟨vs,H1,I1,rv,z⟩=>⟨vs,H1,I1,rv,?_⟩) λ_ _ z=>z
 dsimp only
 rw[w8]
 exact z
theorem aFS{hb:List Stmt}{b0:Stmt}{ct:Expr}{c n g g' x':Str}{CR:Addr}{pg p cp cg pa py' pg' p' cp' cg' pa' pI pc ph:Pos}{e':Expr}{es':List Expr}{FX FX':CtX}{Fg Fg':Ct}(iN iY:Nat)(hN:X.N.Nodup)(hm:X.mg c=some (.ref CR))(t1:TryW X iY y g x py pg p cp cg pa e es FX Fg)(t2:TryW X iY y g' x' py' pg' p' cp' cg' pa' e' es' FX' Fg')(h:GT X ct Γ M λt M1=>if t=true then
    GA X (e::es) Γ M1 λds M2=>FX ds M2 (λd M3=>Fg [d] M3 λd' M4=>F.nx (Γ.set iY d'.4) M4) (λC M3=>y6 X.K (.ref C) (.ref CR)=some true/\∀a,M3 a=none->GS (X.inEx a) (b0::hb) (Γ.set iN (.mt a).4) (d7 M3 a (sZ a C)) {nx:=λΓ' M'=>F.nx (Γ'.set iN none) M',rt:=λ_ _=>False})
   else GA X (e'::es') Γ M1 λds M2=>FX' ds M2 (λd M3=>Fg' [d] M3 λd' M4=>F.nx (Γ.set iY d'.4) M4) (λC M3=>y6 X.K (.ref C) (.ref CR)=some true/\∀a,M3 a=none->GS (X.inEx a) (b0::hb) (Γ.set iN (.mt a).4) (d7 M3 a (sZ a C)) {nx:=λΓ' M'=>F.nx (Γ'.set iN none) M',rt:=λ_ _=>False}))(hx:X.nox=X:=by rfl)(hst:X.stack=X.env::X.outer:=by rfl)(hf:X.env.frame=some X.env.locals:=by rfl)(hex:X.ex=[]:=by rfl)(hg:Gl X c:=by rfl)(hn:X.N[iN]?=some n:=by rfl)(hnl:X.env.scope.names.lookup n=some .local:=by rfl)(hnf:X.fn n=true\/X.env.scope.names.lookup n=some .local:=by exact .inr rfl)(hi:X.N[iY]?=some y:=by rfl)(hy:Loc X.env.scope y:=by first|exact JN rfl|exact Jf rfl)(hyf:X.fn y=true\/X.env.scope.names.lookup y=some .local:=by first|exact .inl rfl|exact .inr rfl)(hd:(c==("__debug__" : Str))=false:=by decide):
  G1 X (.Try [.If ct [.Assign [.Name y py] (.Call (.Name g pg) [.Call (.Name x p) (e::es) [] cp] [] cg) pa] [.Assign [.Name y py'] (.Call (.Name g' pg') [.Call (.Name x' p') (e'::es') [] cp'] [] cg') pa'] pI] [.ExceptHandler (.Name c pc).4 n.4 (b0::hb) ph] [] [] pos) Γ M F:=λσ G H En en rl q=>by
 refine gI (aIB hst hf hex (aIH (tc:=tUT X ct) (by rw[hx];exact pUT) (t1.p hN hx hex hi hy hyf) (t2.p hN hx hex hi hy hyf)) (λa=>lF) hg hm hN hn hnl hnf hd) ?_
 have way:∀{FX:CtX}{Fg:Ct}{e:Expr}{es:List Expr}{G1 H1 M1},Stp X.K G H M G1 H1 M1->(GA X (e::es) Γ M1 λds M2=>FX ds M2 (λd M3=>Fg [d] M3 λd' M4=>F.nx (Γ.set iY d'.4) M4) (λC M3=>y6 X.K (.ref C) (.ref CR)=some true/\∀a,M3 a=none->GS (X.inEx a) (b0::hb) (Γ.set iN (.mt a).4) (d7 M3 a (sZ a C)) {nx:=λΓ' M'=>F.nx (Γ'.set iN none) M',rt:=λ_ _=>False})) ->
   tUA X (e::es) σ H1 λvs H1=>spX X.K FX vs H1 (λv H2=>spZ X.K Fg [v] H2 (λv' H3=>En.nx (σ.set iY v'.4) H3) E0) (λcls _ H'=>∃C,cls = .ref C/\y6 X.K (.ref C) (.ref CR)=some true /\
    ∀e,H' e=none->xD (X.inEx e) (b0::hb) {nx:=λσ' H''=>En.nx (σ'.set iN none) H'',rt:=λ_ _=>False} (σ.set iN (.ref e).4) (upd H' e (.ext (ExcAt e (.ref C))))):=λ{FX Fg e es G1 H1 M1} s1 h1=>by
  refine h1 σ G1 H1 _ (en.up s1.gg) s1.rel λvs G2 H2 ds M2 s2 dn h2 => ?_
  have s12:=s1.trans s2
  refine⟨G2,M2,ds,_,_,s2.rel,dn,h2,λv G3 H3 d M3 s3 dv h3 => ?_,λC G3 H3 M3 s3 ⟨hx3,h3⟩=>⟨C,rfl,hx3,λa ha => ?_⟩⟩
  ·have s13:=s12.trans s3
   refine⟨G3,M3,[d],_,s3.rel,bO dv bR,h3,λv' G4 H4 d' M4 s4 dv' h4 => ?_⟩
   exact q.nx _ _ _ _ _ (s13.trans s4) ((en.up (s13.gg.trans s4.gg)).set dv' iY) h4
  ·have s13:=s12.trans s3
   have s4:=s3.rel.newO ha (.ext (ExcAt a (.ref C)))
   have s14:=s13.trans s4
   refine h3 a (s3.rel.free ha).2 _ _ _ _ ((en.up s13.gg).set rW iN) s4.rel ⟨λσ' G' H' Γ' M' s' en' h' => ?_,λ_ _ _ _ _ _ _ h'=>h'.elim,λ_ _ _ _ _ _ _ h'=>h'.elim,λ_ _ _ _ _ _ _ h'=>h'.elim⟩
   exact q.nx _ _ _ _ _ (s14.trans s') (en'.unset iN) h'
 refine h σ G H _ en rl λt G1 H1 M1 s1 h1 => ?_
 cases t with
 |true=>rw[if_pos rfl] at h1 ⊢;exact way s1 h1
 |false=>rw[if_neg zBf] at h1 ⊢;exact way s1 h1
end
end Z
namespace Z
open PySem L2
noncomputable def FoX(P:Program)(w:World)(K:qb)(mg:Str->Option Value)(base:Heap)(x:Str)(st:Stmt)(ps:List Str)(n:Nat)(c:CtX):Prop:=∃f fd,R.Df K mg x st ps f fd/\FnOk P w K mg base (CXR P w) n f fd ps (spX K c)
theorem sQ{E:XK}{p:Pos}{ps:List Str}{c:CtX}(g:FoX X.prog X.w X.K X.mg X.base x st ps n c)(pa:Passes (CXR X.prog X.w) X E)(hr:Room j X.A)(h:GA X (e::es) Γ M λds M1=>c ds M1 k kx)(hn:n<=j:=by decide)(hg:Gl X x:=by rfl)(hdb:(x==("__debug__" : Str))=false:=by decide)(he:qp (e::es) X.env=(false,eval e X.env)::qp es X.env:=by rfl)(hpl:(x9 pos (qp es X.env)).any (·.1)=false:=by rfl):
  GEx X E kx (.Call (.Name x p) (e::es) [] pos) Γ M k:=by
 obtain⟨f,fd,D,G⟩:=g
 exact aCW pa G (hr.mono hn) D.m D.F.kp D.b h hg hdb he hpl
end Z
namespace Q
open PySem L2 Z U PySem.NumText
theorem aCL{c:Nat}(h:c∈("0123456789" : Str).cps.toList):48<=c/\c<=57:=by
 rw[show ("0123456789" : Str).cps.toList=[48,49,50,51,52,53,54,55,56,57] by decide +kernel] at h
 simp only[qr,rh,or_false] at h
 omega
noncomputable def iZ(z:Str):Prop:=∃A,SmY A/\yT A=z
structure Tx(z:Str):Prop where
 len:z.length<=1000
 bl:z.cps.toList.count 32<=90
noncomputable def aKC:Ct:=λds M k=>∃z,ds=[.str z]/\z.length<=2000/\∀b:Bool,(b=true↔Dg z)->k (.bl b) M
noncomputable def aHV(C:Addr):CtX:=λds M k kx=>∃z,ds=[.str z]/\z.length<=1000/\(∀q,Sm q->nT q=z->k (fR q) M)/\(¬fL z->kx C M)
noncomputable def aCQ(ws:List Str)(qs:List Rat):Prop:=qs.length<=12/\(∀q∈qs,Sm q)/\ws=qs.map nT
noncomputable def aG9(C:Addr):CtX:=λds M k kx=>∃ws:List Str,ds=[.lst (ws.map .str)]/\(∀w∈ws,w.length<=1000)/\ws.length<=1000/\(∀qs,aCQ ws qs->k (.tup (aS qs)) M)/\((∀qs,¬aCQ ws qs)->kx C M)
noncomputable def aID(C:Addr):CtX:=λds M k kx=>∃z,ds=[.str z]/\Tx z/\(∀A,SmY A->yT A=z->k (yd A) M)/\(¬iZ z->kx C M)
theorem aKJ{p:Rat}(hp:Sm p)(hq:Sm q)(h:nT p=nT q):p=q:=by
 have e1:=kK hp
 have e2:=kK hq
 rw[h,e2] at e1
 have num:p.num=q.num:=by
  have e:iT q.num=iT p.num:=by
   have:=congrArg (λt=>t.1) e1
   by_cases z1:q.den=1 <;> by_cases z2:p.den=1 <;> simp only[z1,z2,if_true,if_false] at this <;> exact this
  have r:=(eN hp.a).1
  rw[<- e,(eN hq.a).1] at r
  exact (qw r).symm
 have den:p.den=q.den:=by
  by_cases z1:q.den=1 <;> by_cases z2:p.den=1
  ·omega
  ·rw[if_pos z1,if_neg z2] at e1
   exact absurd (show ja=("/" : Str) from congrArg (λt=>t.2.1) e1) '-'
  ·rw[if_neg z1,if_pos z2] at e1
   exact absurd (show ("/" : Str)=ja from congrArg (λt=>t.2.1) e1) '-'
  ·rw[if_neg z1,if_neg z2] at e1
   have e:iT (q.den:Int)=iT (p.den:Int):=congrArg (λt=>t.2.2) e1
   have r:=lH hp.b
   rw[<- e,lH hq.b] at r
   exact_mod_cast (qw r).symm
 exact Rat.ext num den
theorem aGD{a b:Rat}(z:fR a=fR b):a=b:=of_decide_eq_true (by rw[<- aB8 a b,z];exact eqD_refl 1 _ rfl)
theorem aGA(z:Str):∃a u v B:Str,cV z ("/" : Str)=(a,u,v)/\(u=("/" : Str)->v=B/\z=a++("/" : Str)++B/\47∉a.cps.toList)/\a.length<=z.length/\B.length<=z.length+1/\(u≠("/" : Str)->B=("1" : Str)/\a=z/\47∉z.cps.toList):=by
 rcases wP z with ⟨h,e⟩|⟨a,b,h,ez,e⟩
 ·refine⟨z,ja,ja,("1" : Str),e,λq=>absurd q '-',qj _,?_,λ_=>⟨rfl,rfl,h⟩⟩
  rw[show ("1" : Str).length=1 by decide +kernel];omega
 ·have l:=congrArg cw ez
  rw[cA,cA] at l
  exact⟨a,("/" : Str),b,b,e,λ_=>⟨rfl,ez,h⟩,by omega,by omega,λq=>absurd rfl q⟩
theorem wX{a:Str}(h:neg a=true):dI a (1).4 none=figs a:=by
 unfold figs
 rw[if_pos h]
 have hl:1<=a.cps.toList.length:=by rw[neg_cons h];simp
 exact o4 a.cps.toList 1 hl
theorem aDH{n:Int}{d:Nat}(h1:n.natAbs<10^60)(h2:d<10^60):tameB 1 (.tup [.int n, .int (d:Int)])=true:=by
 have k:(10:Nat)^60<10^65:=by decide +kernel
 simp only[tameB,tamesB,qf,jk,xh,qi,decide_eq_true_eq]
 exact⟨by decide,by omega,by rw[vq];omega⟩
theorem zW{n:Int}{d:Nat}(h:gA (.tup [.int n, .int (d:Int)])=true)(h1:n.natAbs<10^60)(h2:d<10^60):∃q:Rat,D.tup [.int n, .int (d:Int)]=fR q/\Sm q:=by
 obtain⟨p,e,e1,e2⟩:=lC.mp h
 have hp:p=(n,(d:Int)):=by
  obtain⟨p1,p2⟩:=p
  have e':D.tup [.int n, .int (d:Int)]=D.tup [.int p1, .int p2]:=e
  injection e' with e'
  injection e' with a b
  injection a with a
  injection b with b _
  injection b with b
  rw[a,b]
 subst hp
 obtain⟨q,q1,q2⟩:=aCN (n:=n) (d:=d) (by have:(1:Int)<=(d:Int):=e1;omega) e2
 exact⟨q,(aJ6 (a:=n) (b:=d) q1 q2).symm,by rw[q1];exact h1,by rw[q2];exact h2⟩
section
variable {z a u v B:Str}(e1:cV z ("/" : Str)=(a,u,v))(hu:u=("/" : Str)->v=B/\z=a++("/" : Str)++B/\47∉a.cps.toList)(hBn:u≠("/" : Str)->B=("1" : Str)/\a=z/\47∉z.cps.toList)
include e1 hu hBn
theorem pA(h:fL z):∃q:Rat,Sm q/\nT q=z/\a=iT q.num/\B=iT (q.den:Int):=by
 obtain⟨q,hq,e⟩:=h
 have hp:=kK hq
 rw[e,e1] at hp
 by_cases hd:q.den=1
 ·rw[if_pos hd] at hp
  have eu:u=ja:=congrArg (λt=>t.2.1) hp
  have hB:=(hBn (by rw[eu];decide +kernel)).1
  refine⟨q,hq,e,congrArg (λt=>t.1) hp,?_⟩
  rw[hB,hd]
  decide +kernel
 ·rw[if_neg hd] at hp
  have eu:u=("/" : Str):=congrArg (λt=>t.2.1) hp
  have ev:v=iT (q.den:Int):=congrArg (λt=>t.2.2) hp
  exact⟨q,hq,e,congrArg (λt=>t.1) hp,by rw[<- (hu eu).1];exact ev⟩
theorem aF9(h:fL z):Dg (figs a)/\Dg B:=by
 obtain⟨q,hq,_,ea,eb⟩:=pA e1 hu hBn h
 rw[ea,eb]
 exact⟨(kS hq.a).1.1,nZ hq.b⟩
theorem vW(hq:Sm q)(ea:a=iT q.num)(eb:B=iT (q.den:Int)):D.tup [.int (fS a), .int ((digitsVal B.cps.toList:Nat):Int)]=fR q:=by
 have hv:((digitsVal B.cps.toList:Nat):Int)=(q.den:Int):=by
  have:=(jY (nZ hq.b)).1
  rw[lH hq.b] at this
  rw[eb]
  exact (qw this).symm
 rw[ea,(kS hq.a).2.2,hv]
 rfl
theorem aFI(h:fL z):gA (.tup [.int (fS a), .int ((digitsVal B.cps.toList:Nat):Int)])=true:=by
 obtain⟨q,hq,_,ea,eb⟩:=pA e1 hu hBn h
 rw[vW e1 hu hBn hq ea eb]
 exact aJ4 q
theorem aDG(h:fL z){p:Rat}(ep:D.tup [.int (fS a), .int ((digitsVal B.cps.toList:Nat):Int)]=fR p):nT p=z:=by
 obtain⟨q,hq,e,ea,eb⟩:=pA e1 hu hBn h
 rw[vW e1 hu hBn hq ea eb] at ep
 rw[<- aGD ep]
 exact e
end
end Q
namespace Q
open PySem L2 Z
open U
section
variable {K:qb}
abbrev zl0:List Str:=["_law_feed_here", "_law_many"]
abbrev zl1:List Str:=["_law_feed_here", "_law_text"]
abbrev zl2:List Str:=["_law_script", "_law_k"]
abbrev zl3:List Str:=["_law_way", "_law_text"]
abbrev zl4:List Str:=["xs", "ys", "rows"]
abbrev zl5:List Str:=["rows", "xs", "ys"]
abbrev zl6:List Str:=["_law_feed_here"]
abbrev zl7:List Str:=["rows", "place"]
abbrev zl8:List Str:=["row", "places"]
abbrev zl9:List Str:=["thing", "wide"]
abbrev zl10:List Str:=["one", "other"]
abbrev zl11:List Str:=["_law_text"]
abbrev zl12:List Str:=["thing"]
abbrev zl13:List Str:=["text"]
theorem zSc{ps:List Str}{sc:Scope}(h:FnScope N ps sc:=by exact⟨rfl,rfl,rfl,by decide +kernel,rfl,by decide +kernel,by decide +kernel⟩):FnScope N ps sc:=h
theorem yN:FnScope zl12 zl12 (aL kE):=zSc
abbrev sB(P w K mg base):=Fo P w K mg base "is_whole" kE zl12 1 aGF
theorem yG(Df:R.Df K mg "is_whole" kE zl12 f fd)(T:Bt mg):sB P w K mg z:=by
 refine⟨f,fd,Df,b8 Df yN (λds M k h=>?_) (λ_ _ _ _ _ _ hr ds M k h=>?_)⟩
 ·obtain⟨d,rfl,_⟩:=h;rfl
 obtain⟨d,rfl,hs,hk⟩:=h
 refine aF (aH (fV (fW (.inl rfl) T.isi T.int R.BI ⟨_, .self hs,⟨_,rfl,?_⟩⟩.5)))
 rcases vI d with ⟨i,rfl⟩|⟨e0,e1|⟨e1,e2⟩⟩
 ·rw[iI]
  refine aZ (gD (rE (fW (.inr (.inl rfl)) T.isi T.bool R.BB ⟨_, .self trivial,?_⟩.5)))
  rw[bI]
  exact⟨_,rfl,hk⟩
 ·rw[e1]
  rw[e0] at hk
  exact eF hk
 ·rw[e1]
  refine aZ (gD (rE (fW (.inr (.inl rfl)) T.isi T.bool R.BB ⟨_, .self hs,?_⟩.5)))
  rw[e2]
  rw[e0] at hk
  exact⟨_,rfl,hk⟩
theorem fH:FnScope ["one", "other", "rest"] zl10 (aL fQ):=zSc
abbrev lL(P w K mg z):=Fo P w K mg z "common_divisor" fQ zl10 1 aIU
theorem p8(Df:R.Df K mg "common_divisor" fQ zl10 f fd)(T:Bt mg):lL P w K mg z:=by
 refine⟨f,fd,Df,b8 Df fH (λds M k h=>?_) (λ_ _ _ _ _ _ hr ds M k h=>?_)⟩
 ·obtain⟨a,b,rfl,_⟩:=h;rfl
 obtain⟨a,b,rfl,hk⟩:=h
 refine aD (vM (λm Γ' M'=>M'=M/\∃(x y:Int) (v:Option D),Γ'=[some (.int x),some (.int y),v]/\ve x y=ve a b/\m=y.natAbs) (n:=b.natAbs) ⟨rfl,a,b,_,rfl,rfl,rfl⟩ ?_)
 rintro m Γ' M' ⟨rfl,x,y,v,rfl,hg,rfl⟩
 refine aR i8 (y3 (jW ⟨_,rfl,(ite2 (λhb => ?_) (λhb => ?_))⟩)).6
 ·have hy:y≠0:=λz=>by subst z;simp at hb
  refine aD (aK 2 fH.nd (aG zH (cK hy (aD (aK 0 fH.nd (aF (aK 1 fH.nd (aB 2 rfl ⟨_,Num.zQ x y hy,rfl,_,_,_,rfl,?_,rfl⟩))).6))).6.5))
  rw[Num.vY];exact hg
 ·have hy:y=0:=by simpa using hb
  subst hy
  refine aF (aH (aO wS T.abs rm (aC (aDD ?_)).5.3))
  rw[R.aIE,hg]
  exact hk
theorem nB:FnScope ["_law_script", "_law_k", "_law_cell", "_law_great"] zl2 (aL qW):=zSc
abbrev aCM(P w K mg z):=Fo P w K mg z "_law_feed" qW zl2 1 aLP
theorem aIL(Df:R.Df K mg "_law_feed" qW zl2 f fd)(T:Bt mg):aCM P w K mg z:=by
 refine⟨f,fd,Df,b8 Df nB (λds M k h=>?_) (λ_ _ _ _ _ _ hr ds M k h=>?_)⟩
 ·obtain⟨ns,i,rfl,_⟩:=h;rfl
 obtain⟨ns,i,rfl,hi,hi2,hk⟩:=h
 refine aD (aK 2 nB.nd (y3 (aD (eT (λΓ' M'=>M'=M/\∃c:Int,Γ'=[some (.fl (ns.map .int)),some (.int i),some (.int c),none]) ?_ ?_))))
 ·refine aX (aR pS (aO a6 T.len qz (aC (cX (.fl _) (gJ ⟨_,rfl,(ite2 (λhb => ?_) (λhb => ?_))⟩))).5.3).6)
  ·have hb':=of_decide_eq_true hb
   rw[zLm] at hb'
   obtain⟨z,hz⟩:=aF7 (ns:=ns) hi hb'
   exact aF (aK 2 nB.nd (aN aI (aP (.fl _) hz ⟨rfl,_,rfl⟩).6.5))
  ·exact aT ⟨rfl,_,rfl⟩
 rintro Γ' M' ⟨rfl,c,rfl⟩
 refine aD (aK 3 nB.nd (aO wS T.abs rm (aB 2 rfl (aC (aDD (aD (eT (λΓ' M1=>M1=M'/\∃g:Int,0<=g/\Γ'=[some (.fl (ns.map .int)),some (.int i),some (.int c),some (.int g)]) ?_ ?_))))).3))
 ·refine aX (aR pS (aB 3 rfl (aG oW (y3 (y3 (cK ⟨by decide,by decide,by decide⟩ (gJ ⟨_,rfl,(ite2 (λhb => ?_) (λhb => ?_))⟩)))))))
  ·exact aF (aK 3 nB.nd (y3 ⟨rfl,0,by omega,rfl⟩))
  ·exact aT ⟨rfl,_,by split <;> omega,rfl⟩
 rintro Γ' M' ⟨rfl,g,hg,rfl⟩
 refine aF (aH (tJ ?_))
 have hm:=zy c (show (2147483399:Int)≠0 by decide)
 have hm2:=ba c (show (0:Int)<2147483399 by decide)
 refine aA (aB 3 rfl (aG kZ (aG bV (aG bV (aG hU (aG kZ (aB 2 rfl (y3 (cK (show (0:Int)<_ by first|decide|omega) (y3 (cK (by first|exact .inl ⟨by omega,by omega⟩|exact .inr ⟨by omega,by omega⟩) (aG hU (y3 (cK (by first|exact .inl ⟨by omega,by omega⟩|exact .inr ⟨by omega,by omega⟩) (bT (y3 (bT (y3 (cK (show (0:Int)<_ by first|decide|omega) (y3 (aC ⟨(show 3<=sizeLine by decide),λp hp=>(hk p _ hp ((Le.refl _).upd hp) ⟨g,_,0,aW,hg,?_,?_,by omega,by omega⟩)⟩)).3)))))).6)))))))))))).3)
 ·exact zy _ '*'
 ·exact ba _ '*'
theorem mB:FnScope ["number", "top"] ["number"] (aL gT):=zSc
abbrev gW(P w K mg z):=Fo P w K mg z "shown_number" gT ["number"] 2 aIM
theorem r0(Df:R.Df K mg "shown_number" gT ["number"] f fd)(T:Bt mg):gW P w K mg z:=by
 refine⟨f,fd,Df,b8 Df mB (λds M k h=>?_) (λ_ _ _ _ _ _ hr ds M k h=>?_)⟩
 ·obtain⟨q,rfl,_⟩:=h;rfl
 obtain⟨q,rfl,hq,hk⟩:=h
 have hd:((q.den:Int)).natAbs<10^60:=by rw[vq];exact hq.b
 have l1:=(eN hq.a).2.1
 have l2:=(eN hd).2.1
 refine aD (aK 1 mB.nd (aY iL T.str R.BS (aN aI (y3 (aP (.tup _) rfl (aC (kP (aAB hq.a) (aF (aH (o9 (aR bS (aN aI (y3 (aP (.tup _) rfl (y3 (cL ⟨_,rfl,?_⟩)))).5))))))))).5).3))
 unfold nT at hk
 refine ite2 (λh1 => ?_) (λh1 => ?_)
 ·have e:(q.den:Int)=1:=of_decide_eq_true h1
  rw[if_pos (show q.den=1 by omega)] at hk
  exact aB 1 rfl hk
 have e:¬(q.den:Int)=1:=λz=>h1 (decide_eq_true z)
 rw[if_neg (show ¬q.den=1 by omega)] at hk
 have ls:("/" : Str).length=1:=by decide +kernel
 exact aG bF (aG bF (ge_str (cF (R.aJ (by show (iT q.num).length+_<=_;omega)) (aY iL T.str R.BS (aN aI (y3 (aP (.tup _) rfl (aC (kP (aAB hd) (cF (R.aJ (by rw[cA];show (iT q.num).length+_+(iT (q.den:Int)).length<=_;omega)) hk))))).5).3))).6)
theorem sG:FnScope zl13 zl13 (aL iC):=zSc
abbrev oB(P w K mg z):=Fo P w K mg z "are_figures" iC zl13 1 aKC
theorem sJ(Df:R.Df K mg "are_figures" iC zl13 f fd)(T:Bt mg){tF:Tok}(CF:mg "MOST_FIGURES" = some (.int 60 tF)):oB P w K mg z:=by
 refine⟨f,fd,Df,b8 Df sG (λds M k h=>?_) (λ_ _ _ _ _ _ hr ds M k h=>?_)⟩
 ·obtain⟨z,rfl,_⟩:=h;rfl
 obtain⟨z,rfl,hl,hk⟩:=h
 refine aF (aH (fV (aEN aG3 aG3 (y3 (aO a6 T.len qz (aC (eM (R.aJ '!') (gJ ⟨_,rfl,ite2 (λh1 => ?_) (λh1=>⟨_,rfl,eF (hk false ⟨(λz=>nomatch z),λd => ?_⟩)⟩)⟩))).5.3)))))
 rotate_left
 ·have:=ju.mpr d.ne
  rw[qa] at this
  exact absurd (decide_eq_true (show (1:Int)<=(z.length:Int) by show (1:Int)<=((z.cps.size:Nat):Int);omega)) h1
 refine wY CF (gJ ⟨_,rfl,ite2 (λh2 => ?_) (λh2=>hk false ⟨(λz=>nomatch z),λd => ?_⟩)⟩)
 rotate_left
 ·exact absurd (decide_eq_true (show (z.length:Int)<=60 by have:=d.le;omega)) h2
 have l1:(1:Int)<=z.length:=of_decide_eq_true h1
 have l2:(z.length:Int)<=60:=of_decide_eq_true h2
 refine gD (aO (gE rfl) T.all R.BAll (bJ [] [] (q8 ⟨_,rfl,(cU (by rw[fE];exact R.aJ '!') (λi acc M'=>M'=M/\acc=((z.cps.toList.take i).map λc=>decide (c∈("0123456789" : Str).cps.toList)).map D.bl) ⟨rfl,rfl⟩ ?_ ?_)⟩.5)).3)
 ·rintro i d acc M' hd2 ⟨rfl,rfl⟩ _ _ _ _ _
  obtain⟨c,hc,rfl⟩:=cD hd2
  refine bB (aZ λ_ _ _ _ _=>(dA jP (ge_str (lA ⟨rfl,?_⟩)).5))
  rw[zj,pk,cI hc,qg]
  rfl
 rintro acc M' ⟨rfl,rfl⟩
 refine aC (gY '&' (hk _ ?_))
 rw[fE,km (by rw[qa];exact qj _),jV]
 constructor
 ·intro ha
  refine⟨λe => ?_,λc hc=>aCL (of_decide_eq_true (jf.mp ha c hc)),by omega⟩
  have:z.length=0:=by show z.cps.size=0;rw[<- qa,e];rfl
  omega
 ·intro d
  exact jf.mpr λc hc=>decide_eq_true (aDR (d.all c hc))
theorem aFR:FnScope zl10 zl10 (aL pZ):=zSc
abbrev aAE(P w K mg z):=Fo P w K mg z "under" pZ zl10 1 aJH
theorem aF0(Df:R.Df K mg "under" pZ zl10 f fd):aAE P w K mg z:=by
 refine⟨f,fd,Df,b8 Df aFR (λds M k h=>?_) (λ_ _ _ _ _ _ hr ds M k h=>?_)⟩
 ·obtain⟨p,q,rfl,_⟩:=h;rfl
 obtain⟨p,q,rfl,⟨p1,p2⟩,⟨q1,q2⟩,hk⟩:=h
 exact aF (aH (dA pS (aG mU (aN aI (y3 (aP (.tup _) rfl (aN aI (y3 (aP (.tup _) rfl (cK ⟨big400 p1,big400 q2⟩ (aG mU (aN aI (y3 (aP (.tup _) rfl (aN aI (y3 (aP (.tup _) rfl (cK ⟨big400 q1,big400 p2⟩ (gJ hk)))).5))).6))))).6))).5))))
theorem vJ:FnScope zl12 zl12 (aL jL):=zSc
abbrev mE(P w K mg z):=Fo P w K mg z "is_number" jL zl12 2 aCD
theorem xB(Df:R.Df K mg "is_number" jL zl12 f fd)(aMB:sB P w K mg z)(aMC:lL P w K mg z)(T:Bt mg):mE P w K mg z:=by
 refine⟨f,fd,Df,b8 Df vJ (λds M k h=>?_) (λ_ _ _ _ _ _ hr ds M k h=>?_)⟩
 ·obtain⟨d,n,rfl,_⟩:=h;rfl
 obtain⟨d,n,rfl,ht,hk⟩:=h
 rcases rV d with ⟨ls,rfl⟩|⟨e0,e1⟩
 ·obtain⟨hl,m,rfl,hm⟩:=iG ht
  refine aD (aX (eG (dF (b6 (bU (fW (.inr (.inr (.inr (.inl rfl)))) T.isi T.tuple R.BT ⟨_, .self trivial,⟨_,rfl,?_⟩⟩.5))))))
  rw[tT]
  refine eF (dR (aR i8 (aO a6 T.len qz (aC (cX (.tup _) (y3 (jW ⟨_,rfl,?_⟩)))).5.3)))
  by_cases h2:ls.length=2
  ·rw[decide_eq_true '!']
   refine eF (aT ?_)
   obtain⟨a,b,rfl⟩:∃a b,ls=[a,b]:=by
    match ls,h2 with
    |[a,b],_=>exact⟨a,b,rfl⟩
   have sa:=iJ (hm a '$')
   have sb:=iJ (hm b '$')
   refine aD (aX (eG (dF (b6 (bU (aQ aMB hr (aN aI (y3 (aP (.tup _) rfl (aC ⟨a,rfl,sa,⟨_,rfl,?_⟩⟩))).5).3))))))
   rcases vI a with ⟨i,rfl⟩|⟨e0,_⟩
   ·refine eF (dR (b6 (bU (aQ aMB hr (aN aI (y3 (aP (.tup _) rfl (aC ⟨b,rfl,sb,⟨_,rfl,?_⟩⟩))).5).3))))
    rcases vI b with ⟨j,rfl⟩|⟨e0,_⟩
    ·refine eF (aT (aF (aH (fV (dA aGH (aN aI (y3 (aP (.tup _) rfl (y3 (gJ ⟨_,rfl,?_⟩)))).5))))))
     have hk':k (.bl (decide (1<=j)&&decide (ve i j=1))) M:=hk
     by_cases h1:1<=j
     ·rw[decide_eq_true h1] at hk'
      refine aBH (decide_eq_true h1) (gD (dA bS (aQ aMC hr (aN aI (y3 (aP (.tup _) rfl (aN aI (y3 (aP (.tup _) rfl (aC ⟨i,j,rfl,(y3 (cL ?_))⟩))).5).3)).5).3)))
      rw[nh] at hk'
      rw[show decide (((ve i j:Nat):Int)=1)=decide (ve i j=1) from by congr 1;exact propext '!']
      exact hk'
     ·rw[decide_eq_false h1] at hk'
      exact vD (decide_eq_false h1) hk'
    ·rw[e0]
     rw[pM (λ_ _ z=>by injection z with z;injection z with _ z;injection z with z;rw[z] at e0;cases e0)] at hk
     exact aZ (aF (aH (bK hk)))
   ·rw[e0]
    rw[pM (λ_ _ z=>by injection z with z;injection z with z;rw[z] at e0;cases e0)] at hk
    exact aZ (aZ (aF (aH (bK hk))))
  ·rw[decide_eq_false '!']
   rw[pM (λ_ _ z=>by injection z with z;rw[z] at h2;exact h2 rfl)] at hk
   exact aZ (aF (aH (bK hk)))
 ·rw[pM (λ_ _=>e1 _)] at hk
  refine aD (aX (eG (dF (b6 (bU (fW (.inr (.inr (.inr (.inl rfl)))) T.isi T.tuple R.BT ⟨_, .self (iJ ht),⟨_,rfl,?_⟩⟩.5))))))
  rw[e0]
  exact aZ (aZ (aF (aH (bK hk))))
theorem oG:FnScope zl12 zl12 (aL eQ):=zSc
abbrev jT(P w K mg z):=Fo P w K mg z "are_number_lines" eQ zl12 3 aHF
theorem oF(Df:R.Df K mg "are_number_lines" eQ zl12 f fd)(aMD:mE P w K mg z)(aME:aAE P w K mg z)(T:Bt mg):jT P w K mg z:=by
 refine⟨f,fd,Df,b8 Df oG (λds M k h=>?_) (λ_ _ _ _ _ _ hr ds M k h=>?_)⟩
 ·obtain⟨d,n,rfl,_⟩:=h;rfl
 obtain⟨d,n,rfl,ht,hk⟩:=h
 rcases rV d with ⟨ls,rfl⟩|⟨e0,e1⟩
 ·obtain⟨hl,m,rfl,hm⟩:=iG ht
  refine aD (aX (eG (dF (b6 (bU (fW (.inr (.inr (.inr (.inl rfl)))) T.isi T.tuple R.BT ⟨_, .self trivial,⟨_,rfl,?_⟩⟩.5))))))
  rw[tT]
  refine eF (dR (b6 (bU (aO (gE rfl) T.all R.BAll (bJ [] [] (cB ⟨_, .inl rfl,(cU (ds:=ls) (R.aJ '!') (λi acc M'=>M'=M/\acc=((ls.take i).map gA).map D.bl) ⟨rfl,rfl⟩ ?_ ?_)⟩.5)).3))))
  ·rintro i d acc M' hd ⟨rfl,rfl⟩ _ _ _ _ _
   refine bB (aZ λ_ _ _ _ _=>(aQ aMD hr (aC ⟨d,m,rfl,hm d (zMo hd),⟨rfl,?_⟩⟩).5.3))
   rw[cI hd,qg]
   rfl
  rintro acc M' ⟨rfl,rfl⟩
  rw[jg]
  refine aC (gY '&' ⟨_,rfl,?_⟩)
  rw[jV]
  cases ha:ls.all gA with
  |false =>
   refine aZ (aF (aH (bK ?_)))
   rw[show dQ (.tup ls)=false from by show (ls.all gA&&_)=false;rw[ha];rfl] at hk
   exact hk
  |true =>
   obtain⟨ps,rfl,hps⟩:=oJ ha
   have hb:∀p∈ps,p.1.natAbs<10^65/\p.2.natAbs<10^65:=λp hp=>by
    obtain⟨_,m',rfl,hm'⟩:=iG (hm _ (qu.mpr ⟨p,hp,rfl⟩))
    exact⟨wO (hm' _ '$'),wO (hm' _ '$')⟩
   rw[show dQ (.tup (ps.map pairD))=upP ps from by show (_&&upP _)=_;rw[ha,uU];rfl] at hk
   rw[zLm] at hl
   refine eF (aT (aF (aH (aO (gE rfl) T.all R.BAll (bJ zl12 [0] (sV T.range (y3 (aO a6 T.len qz (aC (cX (.tup _) (aC ?_))).5.3).3).3)).3))))
   rw[zLm]
   refine⟨_,_,rfl,⟨by omega,by omega,by omega,by omega⟩,?_⟩
   rw[show (((ps.length:Nat):Int)-1).toNat=ps.length-1 by omega]
   refine cU (by rw[bX];exact R.aJ '!') (λi acc M1=>M1=M'/\acc=((qt i).map λi=>ltP (ps.getD i (0,1)) (ps.getD (i+1) (0,1))).map D.bl) ⟨rfl,rfl⟩ ?_ ?_
   ·rintro i d acc M1 hd ⟨rfl,rfl⟩ _ _ _ _ _
    obtain⟨hi,rfl⟩:=fB hd
    obtain⟨a1,b1⟩:=aAU (ps:=ps) (i:=i) '!'
    obtain⟨a2,b2⟩:=aAU (ps:=ps) (i:=i+1) '!'
    refine bB (aZ λ_ _ _ _ _=>(aQ aME hr (aN aI (aG eW (y3 (bT (aP (.tup _) (by rw[show (1:Int)+(i:Int)-1=((i:Nat):Int) by omega];exact a1) (aN aI (aP (.tup _) (by rw[show (1:Int)+(i:Int)=((i+1:Nat):Int) by omega];exact a2) (aC ⟨_,_,rfl,w65 (hb _ b1),w65 (hb _ b2),⟨rfl,?_⟩⟩)).5.6).3))).5).6).3))
    rw[zt,qg,qg]
    rfl
   rintro acc M1 ⟨rfl,rfl⟩
   rw[bX]
   refine aC (gY '&' ?_)
   rw[jV]
   exact hk
 ·rw[aEE e1] at hk
  refine aD (aX (eG (dF (b6 (bU (fW (.inr (.inr (.inr (.inl rfl)))) T.isi T.tuple R.BT ⟨_, .self (iJ ht),⟨_,rfl,?_⟩⟩.5))))))
  rw[e0]
  exact aZ (aZ (aF (aH (bK hk))))
theorem fJ:FnScope ["text", "halves", "top", "bottom", "number"] zl13 (aL iD):=zSc
abbrev j7(P w K mg z)(cT:Addr):=FoX P w K mg z "read_number" iD zl13 4 (aHV cT)
theorem tH{f:Addr}{fd:FuncData}(Df:R.Df K mg "read_number" iD zl13 f fd)(aMF:oB P w K mg z)(aMD:mE P w K mg z)(aMG:gW P w K mg z)(T:Bt mg)(hNT:mg "NoText" = some (.ref cT))(hqT:xy K cT bmV "ValueError.__new__" = true):j7 P w K mg z cT:=by
 refine⟨f,fd,Df,wL Df fJ (λds M k kx h => ?_) (λcdv A outer s H E hr thr ds M k kx h => ?_)⟩
 ·obtain⟨z,rfl,_⟩:=h;rfl
 obtain⟨z,rfl,hl,hk,hx⟩:=h
 obtain⟨a,u,v,B,e1,hu,la,lB,hBn⟩:=aGA z
 refine gM (aK 1 fJ.nd (c6 jj yu cv tE ⟨rfl,(ge_str (aC (sF '-' (R.aJ '!') ?_))).3⟩.5))
 rw[e1]
 dsimp only
 refine gM (eT (λΓ' M'=>M'=M/\Γ'=[some (.str z),some (.tup [.str a, .str u, .str v]),some (.str (figs a)),none,none]) (aK 2 fJ.nd (o9 (bU (c6 jj PySem.F.slot_str_startswith PySem.F.type_str_startswith aB5 ?_)))) ?_)
 ·refine aN aI (y3 (aP (.tup _) rfl ⟨rfl,(ge_str (aC (aD0 ⟨_,rfl,?_⟩))).3⟩)).6
  rw[show ("-" : Str)=⟨#[45]⟩ by decide +kernel,uP]
  refine ite2 (λh1 => ?_) (λh1 => ?_)
  ·refine a9 fX (aN aI (y3 (aP (.tup _) rfl (bA (y3 ⟨_,rfl,(bM (fU (R.aJ '!') ?_))⟩)))).6)
   rw[wX h1]
   exact⟨rfl,rfl⟩
  ·refine aN aI (y3 (aP (.tup _) rfl ⟨rfl,?_⟩)).6
   rw[show figs a=a by unfold figs;rw[if_neg h1]]
   rfl
 rintro Γ' M' ⟨rfl,rfl⟩
 refine gM (eT (λΓ' M1=>M1=M'/\Γ'=[some (.str z),some (.tup [.str a, .str u, .str v]),some (.str (figs a)),some (.str B),none]) (aK 3 fJ.nd (o9 ?_)) ?_)
 ·refine aR bS (aN aI (y3 (aP (.tup _) rfl (ge_str (gF ⟨_,rfl,(ite2 (λh1 => ?_) (λh1 => ?_))⟩)))).6)
  ·refine aN aI (y3 (aP (.tup _) rfl ⟨rfl,?_⟩)).6
   rw[(hu (of_decide_eq_true h1)).1]
   rfl
  ·refine ge_str ⟨rfl,?_⟩
   rw[(hBn λz=>h1 (decide_eq_true z)).1]
   rfl
 rintro Γ' M1 ⟨rfl,rfl⟩
 have lf:=xE a
 have ok:fL z->Dg (figs a)/\Dg B:=aF9 e1 hu hBn
 refine jU thr rfl hNT hqT (eG (dF (b6 (bU (aQ aMF hr (aB 2 rfl (aC ⟨_,rfl,by omega,λb hb => ?_⟩)).3)))))
 refine⟨_,rfl,(ite2 (λh1 => ?_) (λh1 => ?_))⟩
 ·exact aA (ge_str (aC ⟨(show 1<=sizeLine by decide),hx λhn=>absurd (hb.mpr (ok hn).1) (by simpa using h1)⟩))
 have d1:Dg (figs a):=hb.mp (by simpa using h1)
 refine dR (b6 (bU (aQ aMF hr (aB 3 rfl (aC ⟨_,rfl,by omega,λb2 hb2 => ?_⟩)).3)))
 refine⟨_,rfl,(ite2 (λh1 => ?_) (λh1 => ?_))⟩
 ·exact aA (ge_str (aC ⟨(show 1<=sizeLine by decide),hx λhn=>absurd (hb2.mpr (ok hn).2) (by simpa using h1)⟩))
 have d2:Dg B:=hb2.mp (by simpa using h1)
 obtain⟨r1,w1,l1⟩:=lX d1
 obtain⟨r2,w2⟩:=jY d2
 have l2:=d2.le
 refine gM (aK 4 fJ.nd (cP (aY fN T.int R.BI (aN aI (y3 (aP (.tup _) rfl (aC (iK r1 '!' (aY fN T.int R.BI (aB 3 rfl (aC (iK r2 '!' (aC ⟨'.',(jU thr rfl hNT hqT (eG (dF (b6 (bU (aQ aMD hr (aB 4 rfl (aC ⟨_,1,rfl,aDH w1 w2,⟨_,rfl,(ite2 (λh1 => ?_) (λh1 => ?_))⟩⟩)).3))))))⟩)))).3).3)))).6).3).3))
 ·refine aA (ge_str (aC ⟨(show 1<=sizeLine by decide),hx λhn => ?_⟩))
  have:=aFI e1 hu hBn hn
  rw[this] at h1
  exact absurd h1 '$'
 have hB1:gA (.tup [.int (fS a), .int ((xr B.cps.toList:Nat):Int)])=true:=by simpa using h1
 obtain⟨q,eq,sq⟩:=zW hB1 w1 w2
 refine dR ?_
 rw[eq]
 refine aR i8 (aQ aMG hr (aB 4 rfl (aC ⟨q,rfl,sq,(wW ⟨_,rfl,(ite2 (λh2 => ?_) (λh2 => ?_))⟩).5⟩)).3)
 ·refine aA (ge_str (aC ⟨(show 1<=sizeLine by decide),hx λhn => ?_⟩))
  have:=aDG e1 hu hBn hn eq
  exact absurd this (by simpa using h2)
 exact aCC (aF (aH (aB 4 rfl (hk q sq (by simpa using h2)))))
theorem u7:FnScope ["words"] ["words"] (aL i6):=zSc
abbrev oK(P w K mg z)(cT:Addr):=FoX P w K mg z "read_lines" i6 ["words"] 5 (aG9 cT)
theorem u3{f:Addr}{fd:FuncData}(Df:R.Df K mg "read_lines" i6 ["words"] f fd)(aMH:j7 P w K mg z cT)(T:Bt mg){tL:Tok}(CL:mg "MOST_LINES" = some (.int 12 tL))(hNT:mg "NoText" = some (.ref cT))(hqT:xy K cT bmV "ValueError.__new__" = true):oK P w K mg z cT:=by
 refine⟨f,fd,Df,wL Df u7 (λds M k kx h => ?_) (λcdv A outer s H E hr thr ds M k kx h => ?_)⟩
 ·obtain⟨ws,rfl,_⟩:=h;rfl
 obtain⟨ws,rfl,hw,hl,hk,hx⟩:=h
 have ml:(ws.map D.str).length=ws.length:=zLm ..
 refine jU thr rfl hNT hqT (aR n8 (aO a6 T.len qz (aC (cX '&' (wY CL (gJ ⟨_,rfl,(ite2 (λh1 => ?_) (λh1 => ?_))⟩)))).5.3))
 ·refine aA (ge_str (aC ?_))
  have h1:=of_decide_eq_true h1
  rw[ml] at h1
  refine⟨(show 1<=sizeLine by decide),hx λqs ⟨a,b,c⟩ => ?_⟩
  have:=congrArg xu c
  rw[zLm] at this
  omega
 have h1:ws.length<=12:=by
  have:¬(((ws.map D.str).length:Nat):Int)>12:=λz=>h1 (decide_eq_true z)
  rw[ml] at this
  omega
 refine aIY (aBI cZ T.tuple R.BT (nV (aD8 [] [] aLL (cB ⟨_, .inr (.inl rfl),(⟨by rw[ml];exact R.aJ '!',λi acc M'=>M'=M/\∃qs:List Rat,acc=aS qs/\ws.take i=qs.map nT/\∀q∈qs,Sm q,⟨rfl,[],rfl,rfl,λq hq=>(nomatch hq)⟩,?_,?_⟩)⟩.5))))
 ·rintro i d acc M' hd ⟨rfl,qs,rfl,ht,hs⟩ cs C s₀ H₀ fp xe ps
  obtain⟨w,hw',rfl⟩:=cD hd
  have mw:=zMo hw'
  refine sQ aMH ps hr (aC (⟨w,rfl,hw w mw,λq hq e => ?_,λhn=>hx λqs' ⟨_,h2,h3⟩ => ?_⟩)).5.3
  ·refine⟨rfl,qs++[q],by rw[<- rC];rfl,?_,λp hp => ?_⟩
   ·rw[List.take_add_one,hw',ht,qg,<- e];rfl
   ·rcases kv.mp hp with hp|hp
    ·exact hs p hp
    ·rw[vb] at hp;rw[hp];exact hq
  ·rw[h3] at mw
   obtain⟨q,hq,rfl⟩:=qu.mp mw
   exact hn ⟨q,h2 q hq,rfl⟩
 rintro acc M' ⟨rfl,qs,rfl,ht,hs⟩
 rw[ml,jg] at ht
 refine zT (gG '&' (hk qs ⟨?_,hs,ht⟩))
 have:=congrArg xu ht
 rw[zLm] at this
 omega
theorem aC3:FnScope zl7 zl7 (aL n9):=zSc
abbrev xJ(P w K mg z):=Fo P w K mg z "column" n9 zl7 1 aEV
theorem aDU(Df:R.Df K mg "column" n9 zl7 f fd):xJ P w K mg z:=by
 refine⟨f,fd,Df,b8 Df aC3 (λds M k h=>?_) (λ_ _ _ _ _ _ hr ds M k h=>?_)⟩
 ·obtain⟨t,r,zs,n,j,rfl,_⟩:=h;rfl
 obtain⟨t,r,zs,n,j,rfl,s1,hl,hn,hz,hj,hk⟩:=h
 cases t with
 |true =>
  cases s1
  refine aF (aH (c6 jj vx vw iP (ge_str ⟨rfl,((bJ ["place"] [1] (cB ⟨_, .inr (.inl rfl),(cU (ds:=zs.map D.str) (by rw[zLm];exact R.aJ '!') (λi2 acc2 M2=>M2=M/\acc2=((zs.take i2).map λz=>(⟨#[R.atS z j]⟩:Str)).map D.str) ⟨rfl,rfl⟩ ?_ ?_)⟩.5))).3⟩)))
  ·rintro i2 d2 acc2 M2 hd2 ⟨rfl,rfl⟩ _ _ _ _ _
   obtain⟨z,hz2,rfl⟩:=cD hd2
   have hzn:=hz z (zMo hz2)
   refine bB (aZ λ_ _ _ _ _=>(aN aI (kY (R.aJ '!') (R.rN '!') ⟨rfl,?_⟩).6.5))
   rw[take_snoc hz2,qg,qg]
   rfl
  ·rintro acc2 M2 ⟨rfl,rfl⟩
   rw[zLm,jg]
   refine aC (iR (ys:=zs.map λz=>(⟨#[R.atS z j]⟩:Str)) '&' '-' ?_ ?_)
   ·rw[m8 _ (λz hz => ?_),zLm]
    ·omega
    ·obtain⟨y,_,rfl⟩:=qu.mp hz
     rfl
   ·rw[R.jX,qH]
    exact hk
 |false =>
  cases s1
  refine aF (aH (c6 jj vx vw iP (ge_str ⟨rfl,((bJ ["place"] [1] (cB ⟨_, .inl rfl,(cU (ds:=zs.map D.str) (by rw[zLm];exact R.aJ '!') (λi2 acc2 M2=>M2=M/\acc2=((zs.take i2).map λz=>(⟨#[R.atS z j]⟩:Str)).map D.str) ⟨rfl,rfl⟩ ?_ ?_)⟩.5))).3⟩)))
  ·rintro i2 d2 acc2 M2 hd2 ⟨rfl,rfl⟩ _ _ _ _ _
   obtain⟨z,hz2,rfl⟩:=cD hd2
   have hzn:=hz z (zMo hz2)
   refine bB (aZ λ_ _ _ _ _=>(aN aI (kY (R.aJ '!') (R.rN '!') ⟨rfl,?_⟩).6.5))
   rw[take_snoc hz2,qg,qg]
   rfl
  ·rintro acc2 M2 ⟨rfl,rfl⟩
   rw[zLm,jg]
   refine aC (iR (ys:=zs.map λz=>(⟨#[R.atS z j]⟩:Str)) '&' '-' ?_ ?_)
   ·rw[m8 _ (λz hz => ?_),zLm]
    ·omega
    ·obtain⟨y,_,rfl⟩:=qu.mp hz
     rfl
   ·rw[R.jX,qH]
    exact hk
theorem nH:FnScope ["rows", "wide"] ["rows"] (aL l7):=zSc
abbrev tX(P w K mg z):=Fo P w K mg z "columns" l7 ["rows"] 2 aCF
theorem aA0(Df:R.Df K mg "columns" l7 ["rows"] f fd)(aMI:xJ P w K mg z)(T:Bt mg):tX P w K mg z:=by
 refine⟨f,fd,Df,b8 Df nH (λds M k h=>?_) (λ_ _ _ _ _ _ hr ds M k h=>?_)⟩
 ·obtain⟨t,r,zs,n,rfl,_⟩:=h;rfl
 obtain⟨t,r,zs,n,rfl,s1,hl,hn,hz,hk⟩:=h
 cases t with
 |true =>
  cases s1
  refine aD (eT (λΓ' M'=>M'=M/\Γ'=[some (.lst (zs.map D.str)),some (.int (((zs.head?.map (·.length)).getD 0:Nat):Int))]) (aK 1 nH.nd (o9 ?_)) ?_)
  ·refine nF ⟨_, .seq '&',(ite2 (λhb => ?_) (λhb => ?_))⟩.5
   ·cases zs with
    |nil=>cases hb
    |cons z zr =>
     have hzl:=hz z '$'
     exact aO a6 T.len qz (aN aI (y3 (aP '&' (pR z zr) (aC (eM (R.aJ '!') ⟨rfl,rfl⟩)))).5).3
   ·cases zs with
    |nil =>
     exact y3 ⟨rfl,rfl⟩
    |cons z zr=>exact absurd rfl hb
  rintro Γ' M' ⟨rfl,rfl⟩
  have hw:(zs.head?.map (·.length)).getD 0<=n:=by
   cases zs with
   |nil=>exact vy _
   |cons z zr=>exact xq (hz z '$')
  refine aF (aH ((bJ ["rows"] [0] (kU T.range (aC ⟨_,rfl,by omega,by omega,?_⟩).6.3))))
  rw[jc]
  refine cU (by rw[bX];exact R.aJ '!') (λi acc M1=>M1=M'/\acc=((qt i).map λj=>R.ofL (zs.map (R.atS · j))).map D.str) ⟨rfl,rfl⟩ ?_ ?_
  ·rintro i d acc M1 hd ⟨rfl,rfl⟩ _ _ _ _ _
   obtain⟨hi,rfl⟩:=fB hd
   rw[yy]
   refine bB (aZ λ_ _ _ _ _=>(aQ aMI hr (aC ⟨true,_,zs,n,i,rfl,rfl,hl,hn,hz,by omega,?_⟩).5.3.6.3))
   refine⟨rfl,?_⟩
   rw[zt,qg,qg]
   rfl
  ·rintro acc M1 ⟨rfl,rfl⟩
   rw[bX]
   exact hk
 |false =>
  cases s1
  refine aD (eT (λΓ' M'=>M'=M/\Γ'=[some (.tup (zs.map D.str)),some (.int (((zs.head?.map (·.length)).getD 0:Nat):Int))]) (aK 1 nH.nd (o9 ?_)) ?_)
  ·refine nF ⟨_, .seq (.tup _),(ite2 (λhb => ?_) (λhb => ?_))⟩.5
   ·cases zs with
    |nil=>cases hb
    |cons z zr =>
     have hzl:=hz z '$'
     exact aO a6 T.len qz (aN aI (y3 (aP (.tup _) (pR z zr) (aC (eM (R.aJ '!') ⟨rfl,rfl⟩)))).5).3
   ·cases zs with
    |nil =>
     exact y3 ⟨rfl,rfl⟩
    |cons z zr=>exact absurd rfl hb
  rintro Γ' M' ⟨rfl,rfl⟩
  have hw:(zs.head?.map (·.length)).getD 0<=n:=by
   cases zs with
   |nil=>exact vy _
   |cons z zr=>exact xq (hz z '$')
  refine aF (aH ((bJ ["rows"] [0] (kU T.range (aC ⟨_,rfl,by omega,by omega,?_⟩).6.3))))
  rw[jc]
  refine cU (by rw[bX];exact R.aJ '!') (λi acc M1=>M1=M'/\acc=((qt i).map λj=>R.ofL (zs.map (R.atS · j))).map D.str) ⟨rfl,rfl⟩ ?_ ?_
  ·rintro i d acc M1 hd ⟨rfl,rfl⟩ _ _ _ _ _
   obtain⟨hi,rfl⟩:=fB hd
   rw[yy]
   refine bB (aZ λ_ _ _ _ _=>(aQ aMI hr (aC ⟨false,_,zs,n,i,rfl,rfl,hl,hn,hz,by omega,?_⟩).5.3.6.3))
   refine⟨rfl,?_⟩
   rw[zt,qg,qg]
   rfl
  ·rintro acc M1 ⟨rfl,rfl⟩
   rw[bX]
   exact hk
theorem iW:FnScope ["bands", "outside", "framed"] ["bands"] (aL lQ):=zSc
abbrev uQ(P w K mg z):=Fo P w K mg z "changes" lQ ["bands"] 1 aD6
theorem aA1(Df:R.Df K mg "changes" lQ ["bands"] f fd)(T:Bt mg):uQ P w K mg z:=by
 refine⟨f,fd,Df,b8 Df iW (λds M k h=>?_) (λ_ _ _ _ _ _ hr ds M k h=>?_)⟩
 ·obtain⟨t,r,zs,n,rfl,_⟩:=h;rfl
 obtain⟨t,r,zs,n,rfl,s1,hl,hn,hz,hk⟩:=h
 cases t with
 |true =>
  cases s1
  refine aD (aX (b6 (nF ⟨_, .seq '&',(ite2 (λhb => ?_) (λhb => ?_))⟩.5)))
  ·have e:zs=[]:=by
    cases zs with
    |nil=>rfl
    |cons z zr=>exact absurd hb '$'
   subst e
   exact aF (aH (bW (aC ⟨(show 0<=sizeLine by decide),hk⟩)))
  have hne:zs≠[]:=λe=>by subst e;exact hb rfl
  obtain⟨z0,zr,rfl⟩:∃z0 zr,zs=z0::zr:=by
   cases zs with
   |nil=>exact absurd rfl hne
   |cons z zr=>exact⟨z,zr,rfl⟩
  have l0:=hz z0 '$'
  refine aT (aD (aK 1 iW.nd (aG pX (ge_str (aO a6 T.len qz (aN aI (y3 (aP '&' (pR z0 zr) (aC (eM (R.aJ '!') (p7 '!' '!' (xG '!') ?_))))).5).3)))))
  rw[jc,R.uH]
  refine aD (aK 2 iW.nd (aG c9 (aG c9 (bW (aC ⟨(show 1<=sizeLine by decide),(aY lG T.list R.BL (aC (tK '&' (c8 '&' '&' (by rw[zLm];exact R.aJ (by simp only[qf,jk] at hl ⊢;omega)) (bW (aC ⟨(show 1<=sizeLine by decide),(c8 '&' '&' (by simp only[ql,zLm,qf,jk] at hl ⊢;exact R.aJ '!') ?_)⟩).6.3)))).5.3)⟩).6.3))))
  rw[show [D.str (R.dots z0.length)]++(z0::zr).map D.str++[D.str (R.dots z0.length)]=(R.framed (z0::zr)).map D.str from by simp[R.framed]]
  generalize hzz:z0::zr=zs at *
  refine aF (aH ((bJ ["framed"] [2] (kU T.range (aG eW (aO a6 T.len qz (aB 2 rfl (aC (cX '&' (y3 (bT (aC ?_)))))).3)).3))))
  rw[zLm,R.gS]
  refine⟨_,rfl,by omega,by omega,?_⟩
  rw[show (((zs.length+2:Nat):Int)-1).toNat=zs.length+1 by omega]
  refine cU (by rw[bX];exact R.aJ '!') (λi acc M'=>M'=M/\acc=((qt i).filter λi => !decide ((R.framed zs)[i]?=(R.framed zs)[i+1]?)).map λ(j:Nat)=>D.int (j:Int)) ⟨rfl,rfl⟩ ?_ ?_
  ·rintro i d acc M' hd ⟨rfl,rfl⟩ _ _ _ _ _
   obtain⟨hi,rfl⟩:=fB hd
   obtain⟨u,hu⟩:=kD (zs:=zs) (i:=i) '!'
   obtain⟨v,hv⟩:=kD (zs:=zs) (i:=i+1) '!'
   refine zS (aR i8 (aN aI (aP '&' (pJ hu) (aN aI (aG bV (y3 (bT (aP '&' (xK hv) (wW ⟨_,rfl,?_⟩)))).5).6)).5.6))
   have ed:(!decide ((R.framed zs)[i]?=(R.framed zs)[i+1]?))=(!decide (u=v)):=by rw[hu,hv];congr 1;simp
   refine ite2 (λhb=>λ_ _ _ _ _ => ?_) (λhb => ?_)
   ·refine aB 0 rfl ⟨rfl,?_⟩
    rw[jM,if_pos (by rw[ed];exact hb),qg,yy]
    rfl
   ·refine⟨rfl,?_⟩
    rw[jM,if_neg (by rw[ed];exact hb)]
  rintro acc M' ⟨rfl,rfl⟩
  rw[bX,aB7]
  exact hk
 |false =>
  cases s1
  refine aD (aX (b6 (nF ⟨_, .seq (.tup _),(ite2 (λhb => ?_) (λhb => ?_))⟩.5)))
  ·have e:zs=[]:=by
    cases zs with
    |nil=>rfl
    |cons z zr=>exact absurd hb '$'
   subst e
   exact aF (aH (bW (aC ⟨(show 0<=sizeLine by decide),hk⟩)))
  have hne:zs≠[]:=λe=>by subst e;exact hb rfl
  obtain⟨z0,zr,rfl⟩:∃z0 zr,zs=z0::zr:=by
   cases zs with
   |nil=>exact absurd rfl hne
   |cons z zr=>exact⟨z,zr,rfl⟩
  have l0:=hz z0 '$'
  refine aT (aD (aK 1 iW.nd (aG pX (ge_str (aO a6 T.len qz (aN aI (y3 (aP (.tup _) (pR z0 zr) (aC (eM (R.aJ '!') (p7 '!' '!' (xG '!') ?_))))).5).3)))))
  rw[jc,R.uH]
  refine aD (aK 2 iW.nd (aG c9 (aG c9 (bW (aC ⟨(show 1<=sizeLine by decide),(aY lG T.list R.BL (aC (tK (.tup _) (c8 '&' '&' (by rw[zLm];exact R.aJ (by simp only[qf,jk] at hl ⊢;omega)) (bW (aC ⟨(show 1<=sizeLine by decide),(c8 '&' '&' (by simp only[ql,zLm,qf,jk] at hl ⊢;exact R.aJ '!') ?_)⟩).6.3)))).5.3)⟩).6.3))))
  rw[show [D.str (R.dots z0.length)]++(z0::zr).map D.str++[D.str (R.dots z0.length)]=(R.framed (z0::zr)).map D.str from by simp[R.framed]]
  generalize hzz:z0::zr=zs at *
  refine aF (aH ((bJ ["framed"] [2] (kU T.range (aG eW (aO a6 T.len qz (aB 2 rfl (aC (cX '&' (y3 (bT (aC ?_)))))).3)).3))))
  rw[zLm,R.gS]
  refine⟨_,rfl,by omega,by omega,?_⟩
  rw[show (((zs.length+2:Nat):Int)-1).toNat=zs.length+1 by omega]
  refine cU (by rw[bX];exact R.aJ '!') (λi acc M'=>M'=M/\acc=((qt i).filter λi => !decide ((R.framed zs)[i]?=(R.framed zs)[i+1]?)).map λ(j:Nat)=>D.int (j:Int)) ⟨rfl,rfl⟩ ?_ ?_
  ·rintro i d acc M' hd ⟨rfl,rfl⟩ _ _ _ _ _
   obtain⟨hi,rfl⟩:=fB hd
   obtain⟨u,hu⟩:=kD (zs:=zs) (i:=i) '!'
   obtain⟨v,hv⟩:=kD (zs:=zs) (i:=i+1) '!'
   refine zS (aR i8 (aN aI (aP '&' (pJ hu) (aN aI (aG bV (y3 (bT (aP '&' (xK hv) (wW ⟨_,rfl,?_⟩)))).5).6)).5.6))
   have ed:(!decide ((R.framed zs)[i]?=(R.framed zs)[i+1]?))=(!decide (u=v)):=by rw[hu,hv];congr 1;simp
   refine ite2 (λhb=>λ_ _ _ _ _ => ?_) (λhb => ?_)
   ·refine aB 0 rfl ⟨rfl,?_⟩
    rw[jM,if_pos (by rw[ed];exact hb),qg,yy]
    rfl
   ·refine⟨rfl,?_⟩
    rw[jM,if_neg (by rw[ed];exact hb)]
  rintro acc M' ⟨rfl,rfl⟩
  rw[bX,aB7]
  exact hk
theorem aCA:FnScope zl8 zl8 (aL nU):=zSc
abbrev xY(P w K mg z):=Fo P w K mg z "picked" nU zl8 1 aIO
theorem aC9(Df:R.Df K mg "picked" nU zl8 f fd):xY P w K mg z:=by
 refine⟨f,fd,Df,b8 Df aCA (λds M k h=>?_) (λ_ _ _ _ _ _ hr ds M k h=>?_)⟩
 ·obtain⟨z,js,rfl,_⟩:=h;rfl
 obtain⟨z,js,rfl,hz,hl,hj,hk⟩:=h
 refine aF (aH (c6 jj vx vw iP (ge_str ⟨rfl,((bJ ["row"] [0] (cB ⟨_, .inr (.inl rfl),(cU (ds:=d8 js) (by rw[cW];exact R.aJ '!') (λi2 acc2 M2=>M2=M/\acc2=((js.take i2).map λj=>(⟨#[R.atS z j]⟩:Str)).map D.str) ⟨rfl,rfl⟩ ?_ ?_)⟩.6))).3⟩)))
 ·rintro i2 d2 acc2 M2 hd2 ⟨rfl,rfl⟩ _ _ _ _ _
  obtain⟨j,hj2,rfl⟩:=iE hd2
  have hjl:=hj j (zMo hj2)
  refine bB (aZ λ_ _ _ _ _=>(aN aI (kY (R.aJ '!') (R.rN hjl) ⟨rfl,?_⟩).5.6))
  rw[take_snoc hj2,qg,qg]
  rfl
 ·rintro acc2 M2 ⟨rfl,rfl⟩
  rw[cW,jg]
  refine aC (iR (ys:=js.map λj=>(⟨#[R.atS z j]⟩:Str)) '&' '-' ?_ ?_)
  ·rw[m8 _ (λz hz => ?_),zLm]
   ·omega
   ·obtain⟨y,_,rfl⟩:=qu.mp hz
    rfl
  ·rw[R.jX,aBP]
   exact hk
theorem gO:FnScope ["xs", "ys", "rows", "at_xs", "at_ys", "kept"] zl4 (aL nR):=zSc
abbrev xF(P w K mg z):=Fo P w K mg z "tidied" nR zl4 3 aEP
theorem aD7(Df:R.Df K mg "tidied" nR zl4 f fd)(aMJ:uQ P w K mg z)(aMK:tX P w K mg z)(aML:xY P w K mg z)(T:Bt mg):xF P w K mg z:=by
 refine⟨f,fd,Df,b8 Df gO (λds M k h=>?_) (λ_ _ _ _ _ _ hr ds M k h=>?_)⟩
 ·obtain⟨t,dx,dy,dr,xs,ys,zs,n,rfl,_⟩:=h;rfl
 obtain⟨t,dx,dy,dr,xs,ys,zs,n,rfl,s1,s2,s3,hl,hn,hz,hx,hy,hk⟩:=h
 have cl:=R.qN hz
 have kx:=R.yZ (R.aE zs)
 have ky:=R.yZ zs
 cases t with
 |true =>
  cases s1
  cases s2
  cases s3
  refine aD (aK 3 gO.nd (aQ aMJ hr (aQ aMK hr (aB 2 rfl (aC ⟨true,_,zs,n,rfl,rfl,by omega,by omega,hz,?_⟩)).3).3))
  refine aC ⟨true,_,R.aE zs,zs.length,rfl,rfl,by omega,by omega,λz hz=>R.eP z hz,?_⟩
  refine aD (aK 4 gO.nd (aQ aMJ hr (aB 2 rfl (aC ⟨true,_,zs,n,rfl,rfl,by omega,by omega,hz,?_⟩)).3))
  have hjx:∀j∈(R.chg (R.aE zs)).dropLast,j<n:=λj hj=>by
   have:=R.jF (R.cC _) (R.eO _) j hj
   omega
  refine aD (fA 5 ["rows", "at_xs"] [2,3] gO.nd (cB (a9 dC (aB 4 rfl (bM (bA (rO mX (y3 ⟨_,rfl,⟨_,rfl,(d6 '&' ?_)⟩⟩))))))))
  rw[show cutD (d8 (R.chg zs)) none (-1).4=d8 (R.chg zs).dropLast from (mD _).trans (iA _)]
  refine⟨_, .inr (.inl rfl),(lO (ds:=d8 (R.chg zs).dropLast) (by rw[cW,jv];exact R.aJ '!') (λi acc M2=>M2=M/\acc=(((R.chg zs).dropLast.take i).map λi=>R.ofL ((R.chg (R.aE zs)).dropLast.map (R.atS (zs.getD i ja)))).map D.str) ⟨rfl,rfl⟩ ?_ ?_)⟩
  ·rintro i d acc M2 hd ⟨rfl,rfl⟩ _ _ _ _ _
   obtain⟨j,hj,rfl⟩:=iE hd
   have hjl:=R.jF (R.cC zs) (R.eO zs) j (zMo hj)
   have hzj:zs[j]?=some (zs.getD j ja):=by rw[zGd,zGe hjl];rfl
   have hzm:=zMo hzj
   refine bB (aZ λ_ _ _ _ _=>(aQ aML hr (aN aI (aP '&' (by have:=pJ hzj;rw[yy] at this;exact this) (a9 dC (aB 2 rfl (bM (bA (rO mX (y3 ⟨_,rfl,⟨_,rfl,(d6 '&' (aC ?_))⟩⟩)))))).3).5.6).3))
   rw[show cutD (d8 (R.chg (R.aE zs))) none (-1).4=d8 (R.chg (R.aE zs)).dropLast from (mD _).trans (iA _)]
   refine⟨_,(R.chg (R.aE zs)).dropLast,rfl,by rw[hz _ hzm];omega,by rw[jv];omega,λj hj=>by rw[hz _ hzm];exact hjx j hj,?_⟩
   refine⟨rfl,?_⟩
   rw[cI hj,qg]
   rfl
  rintro acc M2 ⟨rfl,rfl⟩ a ha
  rw[cW,jg]
  refine fT 5 rfl aW ?_
  rw[gL ha]
  refine aF (aH (cP (aY cZ T.tuple R.BT (bJ ["xs"] [0] (cB (aB 3 rfl ⟨_, .inr (.inl rfl),(cU (ds:=d8 (R.chg (R.aE zs))) (by rw[cW];exact R.aJ '!') (λi acc M1=>M1=M2/\acc=((R.chg (R.aE zs)).take i).map λj=>xs.getD j .non) ⟨rfl,rfl⟩ ?_ ?_)⟩))).3).3))
  ·rintro i d acc M1 hd ⟨rfl,rfl⟩ _ _ _ _ _
   obtain⟨j,hj,rfl⟩:=iE hd
   exact bB (aZ λ_ _ _ _ _=>(aN aI (aP '&' (aBM (hx j (zMo hj))) ⟨rfl,(cI hj).symm⟩).5.6))
  rintro acc M1 ⟨rfl,rfl⟩
  rw[cW,jg]
  refine aC (gG '&' (aY cZ T.tuple R.BT (bJ ["ys"] [1] (cB (aB 4 rfl ⟨_, .inr (.inl rfl),(cU (ds:=d8 (R.chg zs)) (by rw[cW];exact R.aJ '!') (λi acc M2=>M2=M1/\acc=((R.chg zs).take i).map λj=>ys.getD j .non) ⟨rfl,rfl⟩ ?_ ?_)⟩))).3).3)
  ·rintro i d acc M2 hd ⟨rfl,rfl⟩ _ _ _ _ _
   obtain⟨j,hj,rfl⟩:=iE hd
   exact bB (aZ λ_ _ _ _ _=>(aN aI (aP '&' (aBM (hy j (zMo hj))) ⟨rfl,(cI hj).symm⟩).5.6))
  rintro acc M2 ⟨rfl,rfl⟩
  rw[cW,jg]
  exact aC (gG '&' (aY cZ T.tuple R.BT (aB 5 rfl (aC (gG '&' (aC ⟨(show 3<=sizeLine by decide),hk⟩)))).3).3)
 |false =>
  cases s1
  cases s2
  cases s3
  refine aD (aK 3 gO.nd (aQ aMJ hr (aQ aMK hr (aB 2 rfl (aC ⟨false,_,zs,n,rfl,rfl,by omega,by omega,hz,?_⟩)).3).3))
  refine aC ⟨true,_,R.aE zs,zs.length,rfl,rfl,by omega,by omega,λz hz=>R.eP z hz,?_⟩
  refine aD (aK 4 gO.nd (aQ aMJ hr (aB 2 rfl (aC ⟨false,_,zs,n,rfl,rfl,by omega,by omega,hz,?_⟩)).3))
  have hjx:∀j∈(R.chg (R.aE zs)).dropLast,j<n:=λj hj=>by
   have:=R.jF (R.cC _) (R.eO _) j hj
   omega
  refine aD (fA 5 ["rows", "at_xs"] [2,3] gO.nd (cB (a9 dC (aB 4 rfl (bM (bA (rO mX (y3 ⟨_,rfl,⟨_,rfl,(d6 '&' ?_)⟩⟩))))))))
  rw[show cutD (d8 (R.chg zs)) none (-1).4=d8 (R.chg zs).dropLast from (mD _).trans (iA _)]
  refine⟨_, .inr (.inl rfl),(lO (ds:=d8 (R.chg zs).dropLast) (by rw[cW,jv];exact R.aJ '!') (λi acc M2=>M2=M/\acc=(((R.chg zs).dropLast.take i).map λi=>R.ofL ((R.chg (R.aE zs)).dropLast.map (R.atS (zs.getD i ja)))).map D.str) ⟨rfl,rfl⟩ ?_ ?_)⟩
  ·rintro i d acc M2 hd ⟨rfl,rfl⟩ _ _ _ _ _
   obtain⟨j,hj,rfl⟩:=iE hd
   have hjl:=R.jF (R.cC zs) (R.eO zs) j (zMo hj)
   have hzj:zs[j]?=some (zs.getD j ja):=by rw[zGd,zGe hjl];rfl
   have hzm:=zMo hzj
   refine bB (aZ λ_ _ _ _ _=>(aQ aML hr (aN aI (aP (.tup _) (by have:=pJ hzj;rw[yy] at this;exact this) (a9 dC (aB 2 rfl (bM (bA (rO mX (y3 ⟨_,rfl,⟨_,rfl,(d6 '&' (aC ?_))⟩⟩)))))).3).5.6).3))
   rw[show cutD (d8 (R.chg (R.aE zs))) none (-1).4=d8 (R.chg (R.aE zs)).dropLast from (mD _).trans (iA _)]
   refine⟨_,(R.chg (R.aE zs)).dropLast,rfl,by rw[hz _ hzm];omega,by rw[jv];omega,λj hj=>by rw[hz _ hzm];exact hjx j hj,?_⟩
   refine⟨rfl,?_⟩
   rw[cI hj,qg]
   rfl
  rintro acc M2 ⟨rfl,rfl⟩ a ha
  rw[cW,jg]
  refine fT 5 rfl aW ?_
  rw[gL ha]
  refine aF (aH (cP (aY cZ T.tuple R.BT (bJ ["xs"] [0] (cB (aB 3 rfl ⟨_, .inr (.inl rfl),(cU (ds:=d8 (R.chg (R.aE zs))) (by rw[cW];exact R.aJ '!') (λi acc M1=>M1=M2/\acc=((R.chg (R.aE zs)).take i).map λj=>xs.getD j .non) ⟨rfl,rfl⟩ ?_ ?_)⟩))).3).3))
  ·rintro i d acc M1 hd ⟨rfl,rfl⟩ _ _ _ _ _
   obtain⟨j,hj,rfl⟩:=iE hd
   exact bB (aZ λ_ _ _ _ _=>(aN aI (aP (.tup _) (aBM (hx j (zMo hj))) ⟨rfl,(cI hj).symm⟩).5.6))
  rintro acc M1 ⟨rfl,rfl⟩
  rw[cW,jg]
  refine aC (gG '&' (aY cZ T.tuple R.BT (bJ ["ys"] [1] (cB (aB 4 rfl ⟨_, .inr (.inl rfl),(cU (ds:=d8 (R.chg zs)) (by rw[cW];exact R.aJ '!') (λi acc M2=>M2=M1/\acc=((R.chg zs).take i).map λj=>ys.getD j .non) ⟨rfl,rfl⟩ ?_ ?_)⟩))).3).3)
  ·rintro i d acc M2 hd ⟨rfl,rfl⟩ _ _ _ _ _
   obtain⟨j,hj,rfl⟩:=iE hd
   exact bB (aZ λ_ _ _ _ _=>(aN aI (aP (.tup _) (aBM (hy j (zMo hj))) ⟨rfl,(cI hj).symm⟩).5.6))
  rintro acc M2 ⟨rfl,rfl⟩
  rw[cW,jg]
  exact aC (gG '&' (aY cZ T.tuple R.BT (aB 5 rfl (aC (gG '&' (aC ⟨(show 3<=sizeLine by decide),hk⟩)))).3).3)
theorem aDP:FnScope zl9 zl9 (aL nK):=zSc
abbrev wZ(P w K mg z):=Fo P w K mg z "is_row" nK zl9 1 aJ0
theorem aD9(Df:R.Df K mg "is_row" nK zl9 f fd)(T:Bt mg):wZ P w K mg z:=by
 refine⟨f,fd,Df,b8 Df aDP (λds M k h=>?_) (λ_ _ _ _ _ _ hr ds M k h=>?_)⟩
 ·obtain⟨d,n,w,rfl,_⟩:=h;rfl
 obtain⟨d,n,w,rfl,ht,hk⟩:=h
 rcases aKM d with ⟨z,rfl⟩|⟨e0,e1⟩
 ·have hz:=aFW ht
  refine aD (aX (eG (dF (b6 (bU (fW (.inr (.inr (.inl rfl))) T.isi T.str R.BS ⟨_, .self trivial,⟨_,rfl,?_⟩⟩.5))))))
  rw[sS]
  refine eF (dR (aR i8 (aO a6 T.len qz (aC (eM (R.aJ '!') (jW ⟨_,rfl,?_⟩).6)).5.3)))
  by_cases h2:z.length=w
  ·rw[decide_eq_true '!']
   refine eF (aT (aF (aH (aO (gE rfl) T.all R.BAll (bJ [] [] (q8 ⟨_,rfl,(cU (ds:=sK z) (by rw[fE];exact R.aJ '!') (λi acc M'=>M'=M/\acc=((z.cps.toList.take i).map λc=>c==35||c==46).map D.bl) ⟨rfl,rfl⟩ ?_ ?_)⟩.5)).3))))
   ·rintro i d acc M' hd ⟨rfl,rfl⟩ _ _ _ _ _
    obtain⟨c,hc,rfl⟩:=cD hd
    refine bB (aZ λ_ _ _ _ _=>(dA jP (ge_str (lA ?_)).5))
    rw[R.aEM]
    refine⟨rfl,?_⟩
    rw[cI hc,qg]
    rfl
   rintro acc M' ⟨rfl,rfl⟩
   rw[fE,show z.length=z.cps.toList.length from (qa ..).symm,jg]
   refine aC (gY '&' ?_)
   rw[jV]
   rw[show fD w (.str z)=z.cps.toList.all (λc=>c==35||c==46) from by show (decide (z.length=w)&&_)=_;rw[decide_eq_true h2];rfl] at hk
   exact hk
  ·rw[decide_eq_false '!']
   rw[show fD w (.str z)=false from by show (decide (z.length=w)&&_)=_;rw[decide_eq_false h2];rfl] at hk
   exact aZ (aF (aH (bK hk)))
 ·rw[aKE e1] at hk
  refine aD (aX (eG (dF (b6 (bU (fW (.inr (.inr (.inl rfl))) T.isi T.str R.BS ⟨_, .self (iJ ht),⟨_,rfl,?_⟩⟩.5))))))
  rw[e0]
  exact aZ (aZ (aF (aH (bK hk))))
theorem hW:FnScope ["rows", "xs", "ys", "wide", "high"] zl5 (aL kH):=zSc
abbrev qU(P w K mg z):=Fo P w K mg z "rows_fit" kH zl5 2 aLX
theorem yP(Df:R.Df K mg "rows_fit" kH zl5 f fd)(aMM:wZ P w K mg z)(T:Bt mg):qU P w K mg z:=by
 refine⟨f,fd,Df,b8 Df hW (λds M k h=>?_) (λ_ _ _ _ _ _ hr ds M k h=>?_)⟩
 ·obtain⟨t,dr,dx,dy,rs,xs,ys,n,rfl,_⟩:=h;rfl
 obtain⟨t,dr,dx,dy,rs,xs,ys,n,rfl,s1,s2,s3,ht,l1,l2,l3,hk⟩:=h
 cases t with
 |true =>
  cases s1
  cases s2
  cases s3
  refine aD (aK 3 hW.nd (aO (lN rfl) T.max R.BMax (aG eW (aO a6 T.len qz (aC (cX '&' (y3 (bT (y3 (aC (rG ?_))).3)))).6.3)).3))
  rw[maxz0]
  refine aD (aK 4 hW.nd (aO (lN rfl) T.max R.BMax (aG eW (aO a6 T.len qz (aB 2 rfl (aC (cX '&' (y3 (bT (y3 (aC (rG ?_))).3))))).3)).3))
  rw[maxz0]
  refine aF (aH (fV (dA bS (aO a6 T.len qz (aC (cX '&' (aB 4 rfl (cL ⟨_,rfl,?_⟩)))).5.3))))
  by_cases h1:rs.length=ys.length-1
  ·refine aBH (decide_eq_true '!') (gD (aO (gE rfl) T.all R.BAll (bJ ["wide"] [3] (cB ⟨_, .inr (.inl rfl),(cU (ds:=rs) (R.aJ '!') (λi acc M'=>M'=M/\acc=((rs.take i).map (fD (xs.length-1))).map D.bl) ⟨rfl,rfl⟩ ?_ ?_)⟩.5)).3))
   ·rintro i d acc M' hd ⟨rfl,rfl⟩ _ _ _ _ _
    refine bB (aZ λ_ _ _ _ _=>(aQ aMM hr (aC ⟨d,n,_,rfl,ht d (zMo hd),⟨rfl,?_⟩⟩).6.3.5.3))
    rw[cI hd,qg]
    rfl
   rintro acc M' ⟨rfl,rfl⟩
   rw[jg]
   refine aC (gY '&' ?_)
   rw[jV]
   rw[show gB rs xs.length ys.length=rs.all (fD (xs.length-1)) from by unfold gB;rw[decide_eq_true h1];rfl] at hk
   exact hk
  ·rw[show gB rs xs.length ys.length=false from by unfold gB;rw[decide_eq_false h1];rfl] at hk
   exact vD (decide_eq_false '!') hk
 |false =>
  cases s1
  cases s2
  cases s3
  refine aD (aK 3 hW.nd (aO (lN rfl) T.max R.BMax (aG eW (aO a6 T.len qz (aC (cX (.tup _) (y3 (bT (y3 (aC (rG ?_))).3)))).6.3)).3))
  rw[maxz0]
  refine aD (aK 4 hW.nd (aO (lN rfl) T.max R.BMax (aG eW (aO a6 T.len qz (aB 2 rfl (aC (cX (.tup _) (y3 (bT (y3 (aC (rG ?_))).3))))).3)).3))
  rw[maxz0]
  refine aF (aH (fV (dA bS (aO a6 T.len qz (aC (cX (.tup _) (aB 4 rfl (cL ⟨_,rfl,?_⟩)))).5.3))))
  by_cases h1:rs.length=ys.length-1
  ·refine aBH (decide_eq_true '!') (gD (aO (gE rfl) T.all R.BAll (bJ ["wide"] [3] (cB ⟨_, .inl rfl,(cU (ds:=rs) (R.aJ '!') (λi acc M'=>M'=M/\acc=((rs.take i).map (fD (xs.length-1))).map D.bl) ⟨rfl,rfl⟩ ?_ ?_)⟩.5)).3))
   ·rintro i d acc M' hd ⟨rfl,rfl⟩ _ _ _ _ _
    refine bB (aZ λ_ _ _ _ _=>(aQ aMM hr (aC ⟨d,n,_,rfl,ht d (zMo hd),⟨rfl,?_⟩⟩).6.3.5.3))
    rw[cI hd,qg]
    rfl
   rintro acc M' ⟨rfl,rfl⟩
   rw[jg]
   refine aC (gY '&' ?_)
   rw[jV]
   rw[show gB rs xs.length ys.length=rs.all (fD (xs.length-1)) from by unfold gB;rw[decide_eq_true h1];rfl] at hk
   exact hk
  ·rw[show gB rs xs.length ys.length=false from by unfold gB;rw[decide_eq_false h1];rfl] at hk
   exact vD (decide_eq_false '!') hk
theorem aAZ:FnScope zl12 zl12 (aL l8):=zSc
abbrev uX(P w K mg z):=Fo P w K mg z "is_yard" l8 zl12 4 aHS
theorem aBF(Df:R.Df K mg "is_yard" l8 zl12 f fd)(aMN:jT P w K mg z)(aMO:qU P w K mg z)(aMP:xF P w K mg z)(T:Bt mg):uX P w K mg z:=by
 refine⟨f,fd,Df,b8 Df aAZ (λds M k h=>?_) (λ_ _ _ _ _ _ hr ds M k h=>?_)⟩
 ·obtain⟨d,n,rfl,_⟩:=h;rfl
 obtain⟨d,n,rfl,ht,hn,hk⟩:=h
 rcases rV d with ⟨ls,rfl⟩|⟨e0,e1⟩
 rotate_left
 ·rw[aAF (λ_ _ _=>e1 _)] at hk
  refine aD (aX (eG (dF (b6 (bU (fW (.inr (.inr (.inr (.inl rfl)))) T.isi T.tuple R.BT ⟨_, .self (iJ ht),⟨_,rfl,?_⟩⟩.5))))))
  rw[e0]
  exact aZ (aZ (aF (aH (bK hk))))
 obtain⟨hl,m,rfl,hm⟩:=iG ht
 refine aD (aX (eG (dF (b6 (bU (fW (.inr (.inr (.inr (.inl rfl)))) T.isi T.tuple R.BT ⟨_, .self trivial,⟨_,rfl,?_⟩⟩.5))))))
 rw[tT]
 refine eF (dR (aR i8 (aO a6 T.len qz (aC (cX (.tup _) (y3 (jW ⟨_,rfl,?_⟩)))).5.3)))
 by_cases h2:ls.length=3
 rotate_left
 ·rw[decide_eq_false '!']
  rw[aAF (λ_ _ _ z=>by injection z with z;rw[z] at h2;exact h2 rfl)] at hk
  exact aZ (aF (aH (bK hk)))
 rw[decide_eq_true '!']
 refine eF (aT ?_)
 obtain⟨x,y,r,rfl⟩:∃x y r,ls=[x,y,r]:=by
  match ls,h2 with
  |[a,b,c],_=>exact⟨a,b,c,rfl⟩
 have tx:=hm x '$'
 have ty:=hm y '$'
 have tr:=hm r '$'
 rw[show nM (.tup [x,y,r])=yard3 x y r from rfl] at hk
 refine aD (aX (eG (dF (b6 (bU (aQ aMN hr (aN aI (y3 (aP (.tup _) rfl (aC ⟨x,m,rfl,tx,⟨_,rfl,?_⟩⟩))).5).3))))))
 rcases tf (dQ x) with hx|hx
 ·rw[hx]
  rw[aEW hx] at hk
  exact aZ (aZ (aF (aH (bK hk))))
 rw[hx]
 refine eF (dR (b6 (bU (aQ aMN hr (aN aI (y3 (aP (.tup _) rfl (aC ⟨y,m,rfl,ty,⟨_,rfl,?_⟩⟩))).5).3))))
 rcases tf (dQ y) with hy|hy
 ·rw[hy]
  rw[aFK hy] at hk
  exact aZ (aF (aH (bK hk)))
 rw[hy]
 refine eF (aT ?_)
 obtain⟨ps,rfl,_⟩:=uW hx
 obtain⟨qs,rfl,_⟩:=uW hy
 have lx:=(iG tx).1
 have ly:=(iG ty).1
 refine aD (aX (eG (dF (b6 (bU (fW (.inr (.inr (.inr (.inl rfl)))) T.isi T.tuple R.BT (aN aI (y3 (aP (.tup _) rfl ⟨_, .self (iJ tr),⟨_,rfl,?_⟩⟩)).5)))))))
 rcases rV r with ⟨rs,rfl⟩|⟨e0,e1⟩
 rotate_left
 ·rw[e0]
  rw[aHN e1] at hk
  exact aZ (aZ (aF (aH (bK hk))))
 rw[tT]
 obtain⟨lr,mr,emr,mmr⟩:=iG tr
 refine eF (dR (b6 (bU (aQ aMO hr (aN aI (y3 (aP (.tup _) rfl (aN aI (y3 (aP (.tup _) rfl (aN aI (y3 (aP (.tup _) rfl (aC ⟨false,_,_,_,rs,ps.map pairD,qs.map pairD,mr,rfl,rfl,rfl,rfl,mmr,lr,lx,ly,⟨_,rfl,?_⟩⟩))).5).3)).5).3)).5).3))))
 rw[qL,hx,hy] at hk
 rcases tf (gB rs (ps.map pairD).length (qs.map pairD).length) with hf|hf
 ·rw[hf] at hk ⊢
  exact aZ (aF (aH (bK hk)))
 rw[hf] at hk ⊢
 refine eF (aT (aF (aH ?_)))
 obtain⟨hf1,hf2⟩:=aI6 hf
 obtain⟨zs,rfl,hzs⟩:=all_rows hf2
 rw[lD] at hk
 have hf3:=hf1
 rw[zLm] at hf3 lr
 exact dA (oM (n:=3) (R.units_le hr)) (aQ aMP hr (aN aI (y3 (aP (.tup _) rfl (aN aI (y3 (aP (.tup _) rfl (aN aI (y3 (aP (.tup _) rfl (aC ⟨false,_,_,_,ps.map pairD,qs.map pairD,zs,(ps.map pairD).length-1,rfl,rfl,rfl,rfl,by omega,by omega,λz hz=>(hzs z hz).1,mF λz hz=>(hzs z hz).1,mG hf3,(oV (.tup _) (.tup _) (aFC ps qs zs) (aJB ps qs zs) hk).5⟩))).5).3)).5).3)).5).3)
end
end Q
namespace Q
open PySem L2 Z U PySem.NumText
theorem xH{s:Str}:∀{l:List Str},s∈l->∃p r,l=p++s::r/\s∉p
 |x::l,h=>by
  by_cases e:x=s
  ·exact⟨[],l,by rw[e];rfl,λz=>(nomatch z)⟩
  ·rcases qr.mp h with z|z
   ·exact absurd z.symm e
   ·obtain⟨p,r,e1,e2⟩:=xH z
    exact⟨x::p,r,by rw[e1];rfl,λz=>by
     rcases qr.mp z with z|z
     ·exact e z.symm
     ·exact e2 z⟩
theorem aA3{c:Str}:∀{p w a b:List Str},c∉p->c∉w->p++c::a=w++c::b->p=w/\a=b
 |[],[],a,b,_,_,h=>⟨rfl,(yn h).2⟩
 |[],y::w,a,b,_,hw,h=>absurd ((yn h).1▸jh ..) hw
 |x::p,[],a,b,hp,_,h=>absurd ((yn h).1▸jh ..) hp
 |x::p,y::w,a,b,hp,hw,h=>by
  obtain⟨e1,e2⟩:=yn (show x::(p++c::a)=y::(w++c::b) from h)
  obtain⟨e3,e4⟩:=aA3 (λz=>hp (qm _ z)) (λz=>hw (qm _ z)) e2
  exact⟨by rw[e1,e3],e4⟩
theorem vX{s:Str}{W:List Str}(h:W.count s=2):∃a b c,W=a++s::(b++s::c)/\s∉a/\s∉b/\s∉c:=by
 obtain⟨a,r,rfl,ha⟩:=xH (JD.mp (show 0<W.count s by omega))
 rw[vf,cj,vn.mpr ha] at h
 obtain⟨b,c,rfl,hb⟩:=xH (JD.mp (show 0<r.count s by omega))
 rw[vf,cj,vn.mpr hb] at h
 exact⟨a,b,c,rfl,ha,hb,vn.mp '!'⟩
theorem qV{c:Nat}:∀{ws:List Str},ws≠[]->(∀w∈ws,c∉w.cps.toList)->(wb ⟨#[c]⟩ ws).cps.toList.count c+1=ws.length/\∀w∈ws,w.length<=(wb ⟨#[c]⟩ ws).length
 |[],h,_=>absurd rfl h
 |[x],_,h=>by
  have e:wb ⟨#[c]⟩ [x]=x:=by
   apply eI
   simp[wb]
  rw[e,vn.mpr (h x '$')]
  exact⟨rfl,λw hw=>by rw[vb] at hw;rw[hw];exact qj _⟩
 |x::y::r,_,h=>by
  obtain⟨i1,i2⟩:=qV (ws:=y::r) '$' λw hw=>h w (qm _ hw)
  have e:=jG c x y r
  have l:=congrArg xu e
  simp only[ql,qf,qa] at l
  constructor
  ·rw[e,vf,cj,vn.mpr (h x '$')]
   simp only[qf] at i1 ⊢
   omega
  ·intro w hw
   rcases qr.mp hw with rfl|hw
   ·show w.cps.size<=(wb _ _).cps.size
    omega
   ·have:=i2 w hw
    have:w.cps.size<=(wb ⟨#[c]⟩ (y::r)).cps.size:=this
    show w.cps.size<=(wb _ _).cps.size
    omega
abbrev wds(z:Str):List Str:=yx z ⟨#[32]⟩
theorem aEO(z:Str):zm ⟨#[32]⟩ (wds z)=z:=by
 show VW _ _=_
 rw[bc]
 exact lu z ⟨#[32]⟩
theorem aAN{z:Str}(h:Tx z):(wds z).length<=91/\∀w∈wds z,w.length<=1000:=by
 have j:=qV (xI z 32) (QM z 32)
 rw[lu] at j
 have a:=h.len
 have b:=h.bl
 exact⟨by have:=j.1;show (yx z ⟨#[32]⟩).length<=91;omega,λw hw=>by have:=j.2 w hw;omega⟩
theorem aB9{A:Yd}(h:SmY A)(hv:A≠Yd.void):wds (yT A)=c7 A:=by
 unfold yT
 rw[if_neg hv,lE]
 exact yS (by unfold c7;simp) h.free
theorem qI:yT Yd.void=("void" : Str):=by unfold yT;rw[if_pos rfl]
theorem sv50:SmY Yd.void:=⟨λw hw=>(nomatch hw),λw hw=>(nomatch hw),by decide,by decide⟩
theorem aAH{A:Yd}{z:Str}(e:yT A=z)(hz:z≠("void" : Str)):A≠Yd.void:=λq=>hz (by rw[<- e,q];exact qI)
theorem aAT{z:Str}(hz:z≠("void" : Str))(h:(wds z).count (";" : Str)≠2):¬iZ z:=λ⟨A,hA,e⟩=>h (by rw[<- e,aB9 hA (aAH e hz)];exact hA.cnt)
theorem sC(h:∀q∈qs,Sm q):(";" : Str)∉qs.map nT:=λz=>by
 obtain⟨q,hq,e⟩:=qu.mp z
 exact tG (h q hq) e
theorem qR{z:Str}{a b c:List Str}(hz:z≠("void" : Str))(ew:wds z=a++(";" : Str)::(b++(";" : Str)::c))(na:(";" : Str)∉a)(nb:(";" : Str)∉b)(nc:(";" : Str)∉c){A:Yd}(hA:SmY A)(h:yT A=z):A≠Yd.void/\a=A.ws.map nT/\b=A.us.map nT/\c=A.K:=by
 have hv:=aAH h hz
 refine⟨hv,?_⟩
 rw[<- h,aB9 hA hv,aAO] at ew
 obtain⟨e1,e2⟩:=aA3 (sC hA.x) na ew
 obtain⟨e3,e4⟩:=aA3 (sC hA.y) nb e2
 exact⟨e1.symm,e3.symm,e4.symm⟩
theorem aGQ{z:Str}{a b c:List Str}(hz:z≠("void" : Str))(ew:wds z=a++(";" : Str)::(b++(";" : Str)::c))(na:(";" : Str)∉a)(nb:(";" : Str)∉b)(nc:(";" : Str)∉c){A:Yd}(hv:A≠Yd.void)(h1:a=A.ws.map nT)(h2:b=A.us.map nT)(h3:c=A.K):yT A=z:=by
 unfold yT
 rw[if_neg hv,aAO,<- h1,<- h2,<- h3,<- ew,lE]
 exact aEO z
theorem zJ{a b c:List Str}(na:(";" : Str)∉a)(nb:(";" : Str)∉b){W:List Str}(e:W=a++(";" : Str)::(b++(";" : Str)::c)):
  W[a.length]?=some (";" : Str)/\(∀m,m<a.length->∀w,W[m]?=some w->w≠(";" : Str))/\W[a.length+1+b.length]?=some (";" : Str)/\(∀m,a.length+1<=m->m<a.length+1+b.length->W[m]?≠some (";" : Str)) /\
  cutD (W.map D.str) none (a.length:Int).4=a.map .str/\cutD (W.map D.str) ((a.length:Int)+1).4 ((a.length+1+b.length:Nat):Int).4=b.map .str/\cutD (W.map D.str) (((a.length+1+b.length:Nat):Int)+1).4 none=c.map .str:=by
 have e2:W=(a++(";" : Str)::b)++(";" : Str)::c:=by rw[e];simp
 refine⟨?_,?_,?_,?_,?_,?_,?_⟩
 ·rw[e,wg '!',K5];rfl
 ·intro m hm w hw q
  rw[e,vt hm] at hw
  exact na (q▸zMo hw)
 ·rw[e2,wg (by simp;omega)]
  simp only[ql,qf]
  rw[show a.length+1+b.length-(a.length+(b.length+1))=0 by omega];rfl
 ·intro m h1 h2 q
  rw[e,wg '!',show m-a.length=(m-a.length-1)+1 by omega,zx,vt '!'] at q
  exact nb (zMo q)
 ·rw[zD,<- Qz,e,J5 rfl]
 ·have lw:a.length+1+b.length<=W.length:=by rw[e];simp;omega
  unfold cutD
  have s1:HT.sIx (W.map D.str).length 0 ((a.length:Int)+1).4=a.length+1:=by
   have:=HT.fZ (W.map D.str).length 0 (a.length+1)
   rw[show ((a.length+1:Nat):Int)=(a.length:Int)+1 by omega] at this
   rw[this,zLm];omega
  have s2:HT.sIx (W.map D.str).length (W.map D.str).length ((a.length+1+b.length:Nat):Int).4=a.length+1+b.length:=by
   rw[HT.fZ,zLm];omega
  rw[s1,s2,<- ng,<- Qz,show a.length+1+b.length-(a.length+1)=b.length by omega]
  congr 1
  rw[e,show a++(";" : Str)::(b++(";" : Str)::c)=(a++[(";" : Str)])++(b++(";" : Str)::c) by simp,td '$',J5 rfl]
 ·rw[aE7,<- ng,e2]
  congr 1
  rw[show (a++(";" : Str)::b)++(";" : Str)::c=((a++(";" : Str)::b)++[(";" : Str)])++c by simp,td (by simp;omega)]
theorem wF:∀{qs:List Rat},(∀i (h:i+1<qs.length),qs[i]<qs[i+1])->Up qs
 |[],_ => .nil
 |[x],_=>List.pairwise_singleton ..
 |x::y::r,h=>by
  have t:Up (y::r):=wF λi hi=>h (i+1) (by simp only[qf] at hi ⊢;omega)
  refine ke.mpr ⟨λw hw => ?_,t⟩
  have h0:x<y:=h 0 '$'
  rcases qr.mp hw with rfl|hw
  ·exact h0
  ·have:=(ke.mp t).1 w hw
   grind
theorem qM:∀{xs ys:List D},eqDs xs ys=true->xs.length=ys.length
 |[],[],_=>rfl
 |[],_::_,h=>by simp[eqDs] at h
 |_::_,[],h=>by simp[eqDs] at h
 |x::xs,y::ys,h=>by
  simp only[eqDs,qi] at h
  simp only[qf,qM h.2]
theorem zU{K:List Str}(h:(R.chg K).length=K.length+1):R.chg K=qt (K.length+1):=by
 have s:(R.chg K).Sublist (qt (K.length+1)):=by
  unfold R.chg
  split
  ·exact List.nil_sublist _
  ·exact List.filter_sublist
 exact s.eq_of_length (by rw[h,bj])
structure Fit50(qs ps:List Rat)(K:List Str):Prop where
 uw:Up qs
 uu:Up ps
 g:R.Good (qs.length-1) K
 l:K.length+1=ps.length
 ne:K≠[]
 w2:2<=qs.length
 t1:R.chg K=qt (K.length+1)
 t2:R.chg (R.aE K)=qt ((R.aE K).length+1)
theorem Fit50.yd{ps:List Rat}{K:List Str}(h:Fit50 qs ps K):∃A:Yd,A.ws=qs/\A.us=ps/\A.K=K/\A≠Yd.void:=by
 have lc:=R.bH (λz hz=>(h.g z hz).1) h.ne
 have hw:=h.w2
 have hk:=ju.mpr h.ne
 have hl:=h.l
 refine⟨⟨qs,ps,K,h.uw,h.uu,⟨.inr ⟨h.ne,by rw[h.t1,hl],by rw[h.t2,lc,show qs.length-1+1=qs.length by omega],h.g,hl,hw,by omega⟩⟩⟩,rfl,rfl,rfl,λq => ?_⟩
 exact h.ne (congrArg Yd.K q)
theorem vR{A:Yd}(hv:A≠Yd.void):Fit50 A.ws A.us A.K:=by
 rcases A.T.v with ⟨e,e1,e2⟩|⟨hK,t1,t2,g,l,ha,hb⟩
 ·refine absurd ?_ hv
  obtain⟨ws,us,K,uw,uu,T⟩:=A
  obtain rfl:=jm.mp e1
  obtain rfl:=jm.mp e2
  obtain rfl:=e
  rfl
 ·have lc:=R.bH (λz hz=>(g z hz).1) hK
  exact⟨A.uw,A.uu,g,l,hK,ha,by rw[t1,l],by rw[t2,lc,show A.ws.length-1+1=A.ws.length by omega]⟩
theorem aMA{ps:List Rat}{K:List Str}(h:nM (.tup [.tup (aS qs), .tup (aS ps), .tup (K.map .str)])=true)(hne:eqD (.tup [.tup (aS qs), .tup (aS ps), .tup (K.map .str)]) (yd Yd.void)≠true):Fit50 qs ps K:=by
 have h':yard3 (.tup (aS qs)) (.tup (aS ps)) (.tup (K.map .str))=true:=h
 rw[qL,lD,bY,bY] at h'
 simp only[qi] at h'
 obtain⟨⟨⟨hx,hy⟩,hf⟩,ht⟩:=h'
 have upq:∀{qs:List Rat},dQ (.tup (aS qs))=true->Up qs:=λ{qs} h=>by
  have h2:((aS qs).all gA&&upP ((aS qs).map toP))=true:=h
  rw[qi] at h2
  have e:(aS qs).map toP=qs.map pq:=by
   unfold aS
   rw[xj];rfl
  rw[e] at h2
  have h3:=h2.2
  unfold upP at h3
  rw[jf,zLm] at h3
  refine wF λi hi => ?_
  have:=h3 i (kh.mpr '!')
  have a:∀j (hj:j<qs.length),(qs.map pq).getD j (0,1)=pq qs[j]:=λj hj=>by
   rw[zGd,qk,zGe hj];rfl
  rw[a i '!',a (i+1) hi,aBV] at this
  exact of_decide_eq_true this
 unfold gB at hf
 rw[qi,zLm] at hf
 have lK:=of_decide_eq_true hf.1
 obtain⟨zs,ez,hzs⟩:=all_rows hf.2
 obtain rfl:K=zs:=by
  have:=congrArg (Jp toS) ez
  rwa [lD,lD] at this
 have g:R.Good (qs.length-1) K:=λz hz=>by
  obtain⟨h1,h2⟩:=hzs z hz
  refine⟨h1,jf.mpr λc hc => ?_⟩
  rcases h2 c hc with rfl|rfl <;> rfl
 have ht':eqDs [.tup (kB (aS qs) (R.chg (R.aE K))), .tup (kB (aS ps) (R.chg K)), .tup ((R.bZ K).map .str)] [.tup (aS qs), .tup (aS ps), .tup (K.map .str)]=true:=ht
 simp only[eqDs,eqD,qi] at ht'
 have n1:(R.chg (R.aE K)).length=qs.length:=by
  have:=qM ht'.1
  unfold kB at this
  rwa [zLm,bY] at this
 have n2:(R.chg K).length=ps.length:=by
  have:=qM ht'.2.1
  unfold kB at this
  rwa [zLm,bY] at this
 have hK:K≠[]:=λe=>hne (by
  subst e
  have e1:qs.length=0:=n1.symm
  have e2:ps.length=0:=n2.symm
  rw[jm.mp e1,jm.mp e2]
  exact eqD_refl 3 _ (rZ Yd.void))
 have k0:=ju.mpr hK
 have lc:=R.bH (λz hz=>(g z hz).1) hK
 have w2:2<=qs.length:=by
  refine jt λq => ?_
  have z0:qs.length-1=0:=by omega
  have:R.chg K=[]:=R.qJ (n:=0) λz hz=>by
   apply eI
   have:=(g z hz).1
   rw[z0] at this
   have:z.cps.toList.length=0:=by rw[qa];exact this
   rw[jm.mp this];rfl
  rw[this] at n2
  have:ps.length=0:=n2.symm
  omega
 exact⟨upq hx,upq hy,g,by omega,hK,w2,zU '!',zU (by rw[lc];omega)⟩
theorem tame50{ps:List Rat}{K:List Str}(hx:∀w∈qs,Sm w)(hy:∀w∈ps,Sm w)(lx:qs.length<=12)(ly:ps.length<=12)(hK:∀z∈K,z.length<=1000)(lK:K.length<=91):tameB 3 (.tup [.tup (aS qs), .tup (aS ps), .tup (K.map .str)])=true:=by
 have t1:∀{ws:List Rat},(∀w∈ws,Sm w)->∀d∈aS ws,tameB 1 d=true:=λh d hd=>by
  obtain⟨q,hq,rfl⟩:=qu.mp hd
  exact aEQ (h q hq)
 refine pL (show _<=100 by simp) λd hd => ?_
 simp only[qr,rh,or_false] at hd
 rcases hd with rfl|rfl|rfl
 ·exact pL (by rw[bY];omega) (t1 hx)
 ·exact pL (by rw[bY];omega) (t1 hy)
 ·exact pL (by rw[zLm];omega) λx hx=>by
   obtain⟨z,hz,rfl⟩:=qu.mp hx
   exact aB3 (by have:=hK z hz;omega)
theorem gP:∀{qs ps:List Rat},(∀q∈qs,Sm q)->(∀q∈ps,Sm q)->qs.map nT=ps.map nT->qs=ps
 |[],[],_,_,_=>rfl
 |[],_::_,_,_,h=>by simp at h
 |_::_,[],_,_,h=>by simp at h
 |x::xs,y::ys,h1,h2,h=>by
  simp only[jw,List.cons.injEq] at h
  rw[aKJ (h1 x '$') (h2 y '$') h.1,gP (λq hq=>h1 q (qm _ hq)) (λq hq=>h2 q (qm _ hq)) h.2]
end Q
namespace Q
open PySem L2 Z
open U
section
variable {K:qb}{z:Heap}
theorem gN:FnScope ["text", "words", "first", "second", "yard"] zl13 (aL jK):=zSc
abbrev qC(P w K mg z)(cT:Addr):=FoX P w K mg z "read_yard" jK zl13 6 (aID cT)
theorem wK{f:Addr}{fd:FuncData}(Df:R.Df K mg "read_yard" jK zl13 f fd)(aMQ:oK P w K mg z cT)(aMR:uX P w K mg z)(T:Bt mg){aV:Addr}(CV:mg "VOID" = some (.ref aV))(EV:∀G,Den K G (yd Yd.void) (.ref aV)){tV:Tok}(CT:mg "VOID_TEXT" = some (.str "void" tV)){tB:Tok}(CB:mg "BREAK" = some (.str ";" tB))(hNT:mg "NoText" = some (.ref cT))(hqT:xy K cT bmV "ValueError.__new__" = true):qC P w K mg z cT:=by
 refine⟨f,fd,Df,wL Df gN (λds M k kx h => ?_) (λcdv A outer s H E hr thr ds M k kx h => ?_)⟩
 ·obtain⟨z,rfl,_⟩:=h;rfl
 obtain⟨z,rfl,tx,hk,hx⟩:=h
 have lz:=tx.len
 refine gM (aX (aR bS (iF CT (gF ⟨_,rfl,(ite2 (λhv=>aF (aH (tI CV EV ?_))) (λhv=>aT ?_))⟩)).5))
 ·exact hk Yd.void sv50 (by rw[of_decide_eq_true hv];exact qI)
 have hv:z≠("void" : Str):=λe=>hv (decide_eq_true e)
 refine gM (aK 1 gN.nd (c6 jj yi Ql uB ⟨rfl,(ge_str (aC ?_)).3⟩.5))
 rw[lE]
 refine uO '*' '!' ?_
 obtain⟨lw,hw⟩:=aAN tx
 refine jU thr rfl hNT hqT (aR i8 (c6 vi fg Qg tQ ⟨rfl,aA (iF CB (aC (uC (y3 (jW ⟨_,rfl,(ite2 (λh1 => ?_) (λh1 => ?_))⟩)))))⟩.6))
 ·refine aA (ge_str (aC ⟨(show 1<=sizeLine by decide),hx (aAT hv λq => ?_)⟩))
  rw[q] at h1
  exact absurd h1 '*'
 have hc:(wds z).count (";" : Str)=2:=by
  have:(((wds z).count (";" : Str):Nat):Int)=2:=by simpa using h1
  omega
 obtain⟨a,b,c,e,na,nb,nc⟩:=vX hc
 obtain⟨i1,i2,i3,i4,c1,c2,c3⟩:=zJ na nb e
 have yp:=λ{A:Yd}=>qR hv e na nb nc (A:=A)
 refine gM (aK 2 gN.nd (c6 vi xg zp (uI (n:=0) (R.units_le hr)) ⟨rfl,aA (iF CB (aC (uR (d := .str (";" : Str)) (j:=a.length) rfl (vP _) (by rw[qk,i1];rfl) (show decide ((";" : Str)=(";" : Str))=true from decide_eq_true rfl) (λm e hm he => ?_) (by rw[zLm];show (wds z).length<=_;omega) ?_)))⟩.6))
 ·obtain⟨w,hw2,rfl⟩:=cD he
  exact (show decide (w=(";" : Str))=false from decide_eq_false (i2 m hm w hw2))
 refine gM (aK 3 gN.nd (c6 vi xg zp uG ⟨rfl,aA (iF CB (aG bV (aB 2 rfl (y3 (bT (aC ?_))))).3)⟩.6))
 rw[show (a.length:Int)+1=((a.length+1:Nat):Int) by omega]
 refine uF (j:=a.length+1+b.length) '!' i3 i4 (by show (wds z).length<=_;omega) ?_
 have la:a.length<=91/\b.length<=91/\c.length<=91:=by
  have:=congrArg xu e
  simp only[ql,qf] at this
  omega
 have ma:(∀w∈a,w.length<=1000)/\(∀w∈b,w.length<=1000)/\(∀w∈c,w.length<=1000):=⟨λw h=>hw w (by rw[e];simp[h]),λw h=>hw w (by rw[e];simp[h]),λw h=>hw w (by rw[e];simp[h])⟩
 refine aIA 4 gN.nd (aIJ (nV (sQ aMQ aGG hr (a9 dC (bM (bA (aB 2 rfl ⟨_,rfl,(d6 '&' (aC ?_))⟩))).6).3)))
 rw[c1]
 refine⟨a,rfl,ma.1,by omega,λqs hq => ?_,λhn=>hx λ⟨A,hA,eA⟩=>hn A.ws ⟨hA.lx,hA.x,(yp hA eA).2.1⟩⟩
 refine nV (sQ aMQ aGG hr (a9 dC (bA (aG bV (aB 2 rfl (y3 (bT ⟨_,rfl,(bA (aB 3 rfl ⟨_,rfl,(d6 '&' (aC ?_))⟩))⟩))))).6).3)
 rw[c2]
 refine⟨b,rfl,ma.2.1,by omega,λps' hp => ?_,λhn=>hx λ⟨A,hA,eA⟩=>hn A.us ⟨hA.ly,hA.y,(yp hA eA).2.2.1⟩⟩
 refine nV (aJO (aY cZ T.tuple R.BT (a9 dC (bA (aG bV (aB 3 rfl (y3 (bT ⟨_,rfl,(bM (d6 '&' (aC ?_)))⟩))))).6).3))
 rw[c3]
 refine gG '&' (zT ⟨(show 3<=sizeLine by decide),?_⟩)
 have same:∀{A:Yd},SmY A->yT A=z->(.tup [.tup (aS qs), .tup (aS ps'), .tup (c.map .str)])=yd A/\A≠Yd.void:=λ{A} hA eA=>by
  obtain⟨h0,h1,h2,h3⟩:=yp hA eA
  rw[gP hq.2.1 hA.x (hq.2.2.symm.trans h1),gP hp.2.1 hA.y (hp.2.2.symm.trans h2),h3]
  exact⟨rfl,h0⟩
 refine jU thr rfl hNT hqT (eG (dF (aR (oM (n:=3) (R.units_le hr)) (aB 4 rfl (tI CV EV (oV (e1:=(.tup [.tup (aS qs), .tup (aS ps'), .tup (c.map .str)])) (e2:=yd Yd.void) (.tup _) (.tup _) (nE _ (l9 _) (l9 _)) (rZ _) ⟨_,rfl,(ite2 (λh1 => ?_) (λh1 => ?_))⟩))))))
 ·refine aA (ge_str (aC (⟨(show 1<=sizeLine by decide),hx λ⟨A,hA,eA⟩ => ?_⟩)))
  rw[(same hA eA).1,aGZ] at h1
  exact (same hA eA).2 (of_decide_eq_true h1)
 refine dR (b6 (bU (aQ aMR hr (aB 4 rfl (aC ⟨_,3,rfl,tame50 hq.2.1 hp.2.1 hq.1 hp.1 ma.2.2 la.2.2,by decide,?_⟩)).3)))
 refine⟨_,rfl,(ite2 (λh2 => ?_) (λh2 => ?_))⟩
 ·refine aA (ge_str (aC (⟨(show 1<=sizeLine by decide),hx λ⟨A,hA,eA⟩ => ?_⟩)))
  rw[(same hA eA).1,aJJ] at h2
  exact absurd h2 '*'
 obtain⟨A,rfl,rfl,rfl,hv2⟩:=(aMA (by simpa using h2) h1).yd
 exact aCC (aF (aH (aB 4 rfl (hk A ⟨hq.2.1,hp.2.1,hq.1,hp.1⟩ (aGQ hv e na nb nc hv2 hq.2.2 hp.2.2 rfl)))))
theorem jZ:FnScope ["yard", "xs", "ys"] ["yard"] (aL jB):=zSc
abbrev oN(P w K mg z):=Fo P w K mg z "shown_yard" jB ["yard"] 3 aJC
theorem u8(Df:R.Df K mg "shown_yard" jB ["yard"] f fd)(aMG:gW P w K mg z)(T:Bt mg){aV:Addr}(CV:mg "VOID" = some (.ref aV))(EV:∀G,Den K G (yd Yd.void) (.ref aV)){tV:Tok}(CT:mg "VOID_TEXT" = some (.str "void" tV)){tB:Tok}(CB:mg "BREAK" = some (.str ";" tB)):oN P w K mg z:=by
 refine⟨f,fd,Df,b8 Df jZ (λds M k h=>?_) (λ_ _ _ _ _ _ hr ds M k h=>?_)⟩
 ·obtain⟨A,rfl,_⟩:=h;rfl
 obtain⟨A,rfl,hA,hk⟩:=h
 have lx:=hA.lx
 have ly:=hA.ly
 obtain⟨hw,lK⟩:=A.wide
 refine aD (aX (aR (oM (n:=3) (R.units_le hr)) (tI CV EV (oV (e1:=yd A) (e2:=yd Yd.void) (.tup _) (.tup _) (rZ _) (rZ _) ⟨_,rfl,?_⟩)).5))
 rw[aGZ]
 unfold yT at hk
 refine ite2 (λh1=>aF (aH (iF CT ?_))) (λh1=>aT ?_)
 ·rw[if_pos (of_decide_eq_true h1)] at hk
  exact hk
 have h1:A≠Yd.void:=λz=>h1 (decide_eq_true z)
 rw[if_neg h1] at hk
 refine aD (fA 1 [] [] jZ.nd (cB (aN aI (y3 (aP (.tup _) rfl ⟨_, .inl rfl,(lO (by rw[bY];exact R.aJ '!') (λi acc M'=>M'=M/\acc=((A.ws.take i).map nT).map D.str) ⟨rfl,rfl⟩ ?_ ?_)⟩)).5)))
 ·rintro i d acc M' hd ⟨rfl,rfl⟩ _ _ _ _ _
  obtain⟨q,hq,rfl⟩:=cD hd
  refine bB (aZ λ_ _ _ _ _=>(aQ aMG hr (aC ⟨q,rfl,hA.x q (zMo hq),⟨rfl,?_⟩⟩).5.3))
  rw[take_snoc hq,qg,qg]
  rfl
 rintro acc M ⟨rfl,rfl⟩ a1 ha1
 rw[bY,jg]
 refine fT 1 rfl aW ?_
 rw[gL ha1]
 refine aD (fA 2 [] [] jZ.nd (cB (aN aI (y3 (aP (.tup _) rfl ⟨_, .inl rfl,(lO (by rw[bY];exact R.aJ '!') (λi acc M'=>M'=M/\acc=((A.us.take i).map nT).map D.str) ⟨rfl,rfl⟩ ?_ ?_)⟩)).5)))
 ·rintro i d acc M' hd ⟨rfl,rfl⟩ _ _ _ _ _
  obtain⟨q,hq,rfl⟩:=cD hd
  refine bB (aZ λ_ _ _ _ _=>(aQ aMG hr (aC ⟨q,rfl,hA.y q (zMo hq),⟨rfl,?_⟩⟩).5.3))
  rw[take_snoc hq,qg,qg]
  rfl
 rintro acc M ⟨rfl,rfl⟩ a2 ha2
 rw[bY,jg]
 refine fT 2 rfl aW ?_
 rw[gL ha2]
 have e1:((A.ws.map nT).map D.str).length=A.ws.length:=by rw[zLm,zLm]
 have e2:((A.us.map nT).map D.str).length=A.us.length:=by rw[zLm,zLm]
 have e3:(A.K.map D.str).length=A.K.length:=zLm ..
 refine aF (aH (c6 jj vx vw iP (ge_str ⟨rfl,aA (aG c9 (aG c9 (aG c9 (aG c9 (bW (iF CB (aC ⟨(show 1<=sizeLine by decide),(c8 '&' '&' (by rw[e1];exact R.aJ (by simp only[qf,jk];omega)) (aB 2 rfl (c8 '&' '&' (by rw[e2,ql,e1];exact R.aJ (by simp only[qf,jk];omega)) (bW (iF CB (aC ⟨(show 1<=sizeLine by decide),(c8 '&' '&' (by simp only[ql,e1,e2,qf,jk];exact R.aJ '!') (aY lG T.list R.BL (aN aI (y3 (aP (.tup _) rfl (aC (tK (.tup _) (c8 '&' '&' (by simp only[ql,e1,e2,e3,qf,jk];exact R.aJ '!') ?_))))).5).3))⟩)).3))))⟩)).3).6))))⟩)))
 rw[show ((A.ws.map nT).map D.str++[D.str (";" : Str)]++(A.us.map nT).map D.str++[D.str (";" : Str)]++A.K.map D.str)=(c7 A).map D.str by unfold c7;simp only[qg,jw,df]]
 exact aC (iR '&' '-' (aDM hA) hk)
end
end Q
set_option exponentiation.threshold 2000
namespace Q
open PySem L2 Z U PySem.NumText
structure Bd(z:Str)(L B:Nat):Prop where
 l:z.length<=L
 b:z.cps.toList.count 32<=B
theorem Bd.cat{B:Nat}(h:Bd x L B)(h':Bd y L' B'):Bd (x++y) (L+L') (B+B'):=⟨by rw[cA];exact fe h.l h'.l,by rw[eS,vf];exact fe h.b h'.b⟩
theorem Bd.mono{z:Str}{B:Nat}(h:Bd z L B)(h1:L<=L')(h2:B<=B'):Bd z L' B':=⟨ji h.l h1,ji h.b h2⟩
theorem pW{n:Int}(h:n.natAbs<10^100):n.natAbs.log2<1920:=by
 by_cases z:n.natAbs=0
 ·rw[z];decide
 ·exact (Jw z).mpr (dj h '-')
theorem vF{k:Nat}(h:m<10^(k+1)):Bd (iT (m:Int)) (k+1) 0:=by
 have e:=we m
 constructor
 ·show (jb (toString ((m:Nat):Int))).cps.size<=_
  rw[<- qa,e,zLm]
  exact nD k m h
 ·refine xq (vn.mpr λz => ?_)
  have z':32∈(jb (toString ((m:Nat):Int))).cps.toList:=z
  rw[e] at z'
  obtain⟨ch,hch,ec⟩:=qu.mp z'
  have:=nr (Qi '*' '*' hch)
  omega
theorem aD1{n:Int}{k:Nat}(h:n.natAbs<10^(k+1)):Bd (iT n) (k+2) 0:=by
 by_cases hn:0<=n
 ·have:=vF h
  rw[Int.natAbs_of_nonneg hn] at this
  exact this.mono '!' (qj _)
 ·obtain⟨m,rfl⟩:∃m:Nat,n = -((m+1:Nat):Int):=⟨n.natAbs-1,by omega⟩
  have b:=vF (m:=m+1) (k:=k) '!'
  have e:=i5 m
  constructor
  ·have:=congrArg xu e
   rw[qa,qf,qa] at this
   have b1:(iT ((m+1:Nat):Int)).cps.size<=k+1:=b.l
   show (iT _).cps.size<=_
   omega
  ·rw[e,J9]
   have:=b.b
   simp only[beq_iff_eq]
   rw[if_neg '*']
   omega
theorem oR{z:Str}{B:Nat}(h:(decide (z.length<=L)&&decide (z.cps.toList.count 32<=B))=true):Bd z L B:=by
 simp only[qi,decide_eq_true_eq] at h
 exact⟨h.1,h.2⟩
theorem tZ(z:Str)(n:Nat):(dI z (n:Int).4 none).cps.toList=z.cps.toList.drop n:=by
 unfold dI jH
 dsimp only
 rw[HT.fZ,HT.qK,km (by rw[ku];exact qj _)]
 by_cases h:n<=z.cps.toList.length
 ·rw[cz h]
 ·rw[sr '!',List.drop_length,QK '!']
theorem o5(z:Str)(n:Nat):(dI z none (n:Int).4).cps.toList=z.cps.toList.take n:=by
 unfold dI jH
 dsimp only
 rw[HT.fZ,HT.qK,dk,rd]
 by_cases h:n<=z.cps.toList.length
 ·rw[cz h]
 ·rw[sr '!',jg,km '!']
theorem vQ(z:Str)(n:Nat):(dI z (n:Int).4 (((n+1:Nat)):Int).4).length<=1:=by
 unfold dI jH
 show (QL _).size<=1
 rw[qc,HT.fZ,HT.fZ,xn]
 omega
theorem aK9(a:Str):decide (dI a none (1).4=("-" : Str))=neg a:=by
 have e:=o5 a 1
 have e2:("-" : Str)=⟨#[45]⟩:=by decide +kernel
 unfold neg
 apply decide_eq_decide.mpr
 constructor
 ·intro h
  have h':dI a none ((1:Nat):Int).4=("-" : Str):=h
  rw[h',e2] at e
  have e':[45]=a.cps.toList.take 1:=e
  have:=congrArg (λl=>l[0]?) e'
  rw[List.getElem?_take] at this
  simpa using this.symm
 ·intro h
  apply eI
  rw[show dI a none (1).4=dI a none ((1:Nat):Int).4 from rfl,e,e2]
  cases hl:a.cps.toList with
  |nil=>rw[hl] at h;cases h
  |cons x r =>
   rw[hl] at h
   simp only[List.getElem?_cons_zero,VV] at h
   rw[h];rfl
theorem pQ{z:Str}{B:Nat}(h:Bd z L B)(hn:n<=z.length){m:Str}(hm:m.length<=1){d:Nat}(hd:d=n\/d=n+1)(he:d=n+1\/m.length<=1):Bd (dI z none (n:Int).4++m++dI z (d:Int).4 none) (L+1) (B+1):=by
 have h1:=h.l
 have h2:=h.b
 have hz:z.length=z.cps.toList.length:=(qa ..).symm
 constructor
 ·rw[cA,cA]
  have a1:(dI z none (n:Int).4).length=(dI z none (n:Int).4).cps.toList.length:=(qa ..).symm
  have a2:(dI z (d:Int).4 none).length=(dI z (d:Int).4 none).cps.toList.length:=(qa ..).symm
  rw[a1,a2,o5,tZ,xn,ku]
  omega
 ·rw[eS,eS,o5,tZ,vf,vf]
  have c1:m.cps.toList.count 32<=1:=ji List.count_le_length (by rw[qa];exact hm)
  have c2:(z.cps.toList.take n).count 32+(z.cps.toList.drop n).count 32=z.cps.toList.count 32:=by rw[<- vf,List.take_append_drop]
  have c3:(z.cps.toList.drop d).count 32<=(z.cps.toList.drop n).count 32:=by
   rcases hd with rfl|rfl
   ·exact qj _
   ·rw[<- List.drop_drop]
    exact ((List.drop_sublist 1 _).count_le 32)
  omega
noncomputable def nQ(z:Str):Bool:=decide (z.length<1)||(decide (z.length>60)||(decide (z.cps.toList[0]?=some 48)&&decide (z.length>1)))
theorem mL{z:Str}{b:Bool}(hb:b=z.cps.toList.all λc=>decide (c∈("0123456789" : Str).cps.toList))(h0:nQ z=false):b=true↔Cnt z:=by
 unfold nQ at h0
 simp only[Je,Bool.and_eq_false_iff,decide_eq_false_iff_not] at h0
 obtain⟨a,b',c⟩:=h0
 subst hb
 constructor
 ·intro h
  refine⟨⟨λe => ?_,λx hx=>aCL (of_decide_eq_true (jf.mp h x hx)),by omega⟩,?_⟩
  ·have:z.length=0:=by show z.cps.size=0;rw[<- qa,e];rfl
   omega
  ·rcases c with c|c
   ·exact .inr c
   ·exact .inl '!'
 ·intro d
  exact jf.mpr λx hx=>decide_eq_true (aDR (d.1.all x hx))
theorem aH3{z:Str}(h:nQ z=true):¬Cnt z:=λ⟨d,e⟩=>by
 have l1:=ju.mpr d.ne
 rw[qa] at l1
 have l1:0<z.length:=l1
 have l2:=d.le
 unfold nQ at h
 simp only[zv,qi,decide_eq_true_eq] at h
 rcases h with h|h|⟨h1,h2⟩
 ·omega
 ·omega
 ·rcases e with e|e
  ·omega
  ·exact e h1
theorem aBZ{z:Str}(h:1<=z.length):∃c,z.cps.toList[0]?=some c/\atI z.cps.toList 0=some c:=by
 have:0<z.cps.toList.length:=by rw[qa];exact h
 exact⟨_,zGe this,dB (zGe this)⟩
theorem yJ(c:Nat):decide ((⟨#[c]⟩:Str)=("0" : Str))=decide (some c=some 48):=by
 have e2:("0" : Str)=⟨#[48]⟩:=by decide +kernel
 rw[e2]
 apply decide_eq_decide.mpr
 constructor
 ·intro h
  injection h with h
  have:=congrArg QD h
  simpa using this
 ·intro h
  injection h with h
  rw[h]
theorem parts2(z:Str):∃a u v:Str,cV z ("/" : Str)=(a,u,v)/\a.length<=z.length/\v.length<=z.length/\(u=ja/\a=z/\47∉z.cps.toList\/u=("/" : Str)/\z=a++("/" : Str)++v/\47∉a.cps.toList):=by
 rcases wP z with ⟨h,e⟩|⟨a,b,h,ez,e⟩
 ·exact⟨z,ja,ja,e,qj _,vy _, .inl ⟨rfl,rfl,h⟩⟩
 ·have l:=congrArg cw ez
  rw[cA,cA] at l
  exact⟨a,("/" : Str),b,e,by omega,by omega, .inr ⟨rfl,ez,h⟩⟩
theorem aFN(a:Str)(n:Nat):ve (fS a) (n:Int)=ve ((digitsVal (figs a).cps.toList:Nat):Int) (n:Int):=by
 rw[yq,yq,aAP,vq,vq]
theorem aHQ{z a u v:Str}(h:u=ja/\a=z/\47∉z.cps.toList\/u=("/" : Str)/\z=a++("/" : Str)++v/\47∉a.cps.toList):
  fL z↔(Cnt (figs a)/\a≠("-0" : Str))/\(u≠ja->Cnt v/\2<=digitsVal v.cps.toList/\ve ((digitsVal (figs a).cps.toList:Nat):Int) ((digitsVal v.cps.toList:Nat):Int)=1):=by
 rcases h with ⟨rfl,rfl,h⟩|⟨rfl,rfl,h⟩
 ·rw[aC4 h]
  exact⟨λq=>⟨q,λz=>absurd rfl z⟩,λq=>q.1⟩
 ·rw[aKN h,aFN]
  exact⟨λq=>⟨q.1,λ_=>q.2⟩,λq=>⟨q.1,q.2 '-'⟩⟩
theorem aEL{K:List Str}(g:R.Good n K)(hK:K≠[]):R.chg K=qt (K.length+1)↔(∀i u v,K[i]?=some u->K[i+1]?=some v->u≠v)/\(∀z,K.head?=some z->35∈z.cps.toList)/\(∀z,K.getLast?=some z->35∈z.cps.toList):=by
 constructor
 ·intro t
  exact aA8 g hK t rfl
 ·rintro⟨h1,h2,h3⟩
  have hl:∀z∈K,z.length=n:=λz hz=>(g z hz).1
  have k0:=ju.mpr hK
  have w:=R.bP hl hK
  have f0:=R.eB K
  have fl:=R.cS K
  rw[w] at f0 fl
  have nd:∀z:Str,35∈z.cps.toList->z≠R.dots n:=λz hz e=>by
   rw[e] at hz
   have:(35:Nat)=46:=fo (show 35∈jy n 46 from hz)
   omega
  refine (R.kX hK).mpr λi hi q => ?_
  rcases QZ i K.length with h|h
  ·have fi:=R.bG (zs:=K) h
   cases i with
   |zero =>
    rw[f0,fi] at q
    exact nd _ (h2 (R.dots n) (by rw[QH];exact q.symm)) rfl
   |succ i =>
    rw[R.bG (zs:=K) (show i<K.length by omega),fi,zGe (show i<K.length by omega),zGe h] at q
    exact h1 i _ _ (zGe '!') (zGe h) (qw q)
  ·have e:i=K.length:=by omega
   subst e
   obtain⟨m,hm⟩:∃m,K.length=m+1:=⟨K.length-1,by omega⟩
   rw[fl,hm,R.bG (zs:=K) (show m<K.length by omega)] at q
   refine nd _ (h3 (R.dots n) ?_) rfl
   rw[Qn,hm]
   exact q
theorem yX(z:Str):(!(jz z ("#" : Str) 0 z.length 1).isEmpty)=decide (35∈z.cps.toList):=by
 have e:("#" : Str)=⟨#[35]⟩:=by decide +kernel
 rw[e,zj,pk]
noncomputable def aI0:Ct:=λds M k=>∃z,ds=[.str z]/\z.length<=2000/\∀b:Bool,(b=true↔Cnt z)->k (.bl b) M
noncomputable def aIG:Ct:=λds M k=>∃z,ds=[.str z]/\z.length<=1000/\∀b:Bool,(b=true↔fL z)->k (.bl b) M
noncomputable def aEF:Ct:=λds M k=>∃qs:List Rat,ds=[.lst ((qs.map nT).map .str)]/\(∀q∈qs,Sm q)/\qs.length<=12/\∀b:Bool,(b=true↔Up qs)->k (.bl b) M
noncomputable def aKX:Ct:=λds M k=>∃(n:Nat) (K:List Str),ds=[.lst (K.map .str)]/\K≠[]/\R.Good n K/\K.length<=100/\n<=1000/\∀b:Bool,(b=true↔R.chg K=qt (K.length+1))->k (.bl b) M
noncomputable def aFZ:Ct:=λds M k=>∃z,ds=[.str z]/\Tx z/\∀b:Bool,(b=true↔iZ z)->k (.bl b) M
noncomputable def aEH:Ct:=λds M k=>∃(p:Addr) (b:Int),ds=[.mt p]/\FdM M p b/\b<=50000/\∀(z:Str) M',Bd z 140 1->FdM M' p (b+12)->cG p M M'->(∀a,a≠p->M' a=M a)->k (.str z) M'
noncomputable def aHC:Ct:=λds M k=>∃(p:Addr) (b:Int) (z:Str) (L B:Nat),ds=[.mt p, .str z]/\FdM M p b/\b<=50000/\Bd z L B/\L<=900/\∀(z':Str) M',Bd z' (L+1) (B+1)->FdM M' p (b+3)->cG p M M'->k (.str z') M'
structure Ws(ws:List Str)(n L B:Nat):Prop where
 n:ws.length=n
 l:(ws.map (·.length)).sum<=L
 b:(ws.map (·.cps.toList.count 32)).sum<=B
noncomputable def aBW:Ct:=λds M k=>∃(p:Addr) (b:Int) (n:Nat),ds=[.mt p, .int (n:Int)]/\FdM M p b/\b<=40000/\2<=n/\n<=13/\∀(ws:List Str) M',Ws ws n 270 1->FdM M' p (b+60)->cG p M M'->k (.lst (ws.map .str)) M'
noncomputable def yD:Ct:=λds M k=>∃(p:Addr) (b:Int),ds=[.mt p]/\FdM M p b/\b<=30000/\∀(z:Str) M',Bd z 900 60->FdM M' p (b+500)->cG p M M'->k (.str z) M'
noncomputable def aJF:Ct:=λds M k=>∃(w:Int) (z:Str) (P:Prop),ds=[.int w, .str z]/\(w=0/\z.length<=1000/\P=fL z\/w=1/\Tx z/\P=iZ z)/\(P->k (.tup [.str "told", .str z]) M)/\(¬P->∀M',Le M M'->k (.tup [.str "refused", .bl true]) M')
structure TxX(K:qb)(mg:Str->Option Value)(cT cR c1 c2 c3 c4 c5:Addr):Prop where
 n:mg "NoText" = some (.ref cT)
 r:mg "RoofError" = some (.ref cR)
 v:mg "ValueError" = none
 q:xy K cT bmV "ValueError.__new__" = true
 x:y6 K (.ref cT) (.ref cR)=some true
 k:ExcK K cT
 kT:v8 K (.ref cT) (.ref cT)=some true
 kV:v8 K (.ref cT) (.type "ValueError")=some true
 kO:gu K (.ref cT) ([c1,c2,c3,c4,c5].map yr)=some false
 n1:mg "NoName" = some (.ref c1)
 n2:mg "NoNumber" = some (.ref c2)
 n3:mg "NoPoint" = some (.ref c3)
 n4:mg "NoRow" = some (.ref c4)
 n5:mg "NoYard" = some (.ref c5)
end Q
namespace Z
open PySem L2
end Z
namespace L2
open PySem PySem.Spec PyProof.Rows
section
end
end L2
namespace Z
open PySem L2
end Z
namespace L2
open PySem PySem.Spec PyProof.Rows
section
theorem aHO{p1 p3:Pos}(he:PE X e te):PE X (.Subscript e (.Slice none none (.UnaryOp .USub (.Constant (.int 1) j p1) p3).4 p2) pos) (λσ H Q=>te σ H λx H1=>∃a xs,x = .ref a/\SqL X.K H1 a xs/\∀p,H1 p=none->Q (.ref p) (upd H1 p (.lst xs.reverse))):=by
 intro pins s σ H Q I h
 refine Kw (thn (he pins s σ H _ I h) λv s1 ⟨x,H1,I1,r1,q1⟩ => ?_)
 obtain⟨a,xs,rfl,hx,q⟩:=q1
 cases r1
 refine wpAny_Slice ?_
 rw[Js]
 refine kq (kq ?_)
 rw[evalPart_some]
 have hneg:PE X (.UnaryOp .USub (.Constant (.int 1) j p1) p3) (tUn (rU λi => .int (-i)) (tC (.int 1))):=aGW mX aDF
 refine thn (hneg pins s1 σ H1 (λx H'=>x = .int (-1)/\H'=H1) I1 ⟨1,rfl,rfl,rfl⟩) λu s2 ⟨y,H2,I2,r2,e1,e2⟩ => ?_
 subst e1 e2
 obtain⟨t,rfl⟩:=r2
 have I4:Inv X pins σ H2 {s2 with heap:=s2.heap.push {cls := .type "slice", data := .fields #[.none, .none, .int (-1) t]} }:=I2.kept (t':=s2.toks) λb ob q=>qh _ q
 obtain⟨its,r,ht,hz⟩:=I4.list hx
 have hlen:=r.length
 show kf X.w.7 X.A (Jr e _ (.ref a) (.ref s2.heap.objs.size)) (EP X pins σ Q) X.xe {s2 with heap:=s2.heap.push {cls := .type "slice", data := .fields #[.none, .none, .int (-1) t]} }
 refine tail_any (ops:=[.ref a, .ref s2.heap.objs.size]) ht.isList.typeIs slot_list_getitem.lookup ?_ (by with_unfolding_all rfl)
 refine Jj ht.isList (su ..) .none .none (.int _ _) '*' ?_ (by rw[qc];omega)
 rw[PySem.W.krv_pick]
 refine⟨.ref _,_,I4.laid (t':=s2.toks) (o := .lst xs.reverse) (λb ob q=>qh _ q) (qj _) ?_,rfl,q _ (I4.hok.fresh (qj _))⟩
 exact⟨by rw[yf];exact hz,_,0,r.reverse,jd _ rfl⟩
end
end L2
namespace Z
open PySem L2
theorem aIX{p1 p3:Pos}(h:GE X e Γ M λd M1=>∃ds,d = .lst ds/\k (.lst ds.reverse) M1):GE X (.Subscript e (.Slice none none (.UnaryOp .USub (.Constant (.int 1) j p1) p3).4 p2) pos) Γ M k:=λσ G H Q en rl q=>by
 refine bL (aHO pU) ?_
 refine h σ G H _ en rl λv G1 H1 d M1 s1 e1 ⟨ds,ed,h1⟩ => ?_
 subst ed
 obtain⟨a,vs,ev,sq,dn⟩:=e1.lst_
 refine⟨a,vs,ev,SqL.of (s1.rel.same _ _ sq),λp hp => ?_⟩
 have st:=s1.rel.new (o := .lst vs.reverse) hp
 exact q _ _ _ _ _ (s1.trans st) (fK a7 (dn.reverse.up st.gg)) h1
end Z
set_option exponentiation.threshold 2000
namespace Q
open PySem L2 Z U PySem.NumText
theorem aE8{α:Type}(f:α->D){l:List α}{a:α}(h:l.head?=some a):atI (l.map f) 0=some (f a):=by
 cases l with
 |nil=>cases h
 |cons x r =>
  obtain rfl:=qw h
  exact dB (j:=0) rfl
theorem ix0(h:1<=n):ixN n 0=some 0:=by
 unfold ixN
 rw[if_pos '!',if_pos '!']
 rfl
theorem aBA{z:Int}(h0:0<=z)(h1:z<3):∃f:Int,atI [D.int 1, .int (10^(54:Int).toNat), .int (10^(55:Int).toNat)] z=some (.int f)/\0<=f/\f<=10^55:=by
 have:z=0\/z=1\/z=2:=by omega
 rcases this with rfl|rfl|rfl
 ·exact⟨_,rfl,by decide,by decide +kernel⟩
 ·exact⟨_,rfl,by decide +kernel,by decide +kernel⟩
 ·exact⟨_,rfl,by decide +kernel,by decide +kernel⟩
theorem aIR{x f y:Int}(x0:0<=x)(x1:x<1000000)(f0:0<=f)(f1:f<=10^55)(y0:0<=y)(y1:y<9):∃m:Nat,x*f+y=(m:Int)/\m<10^62:=by
 have h1:0<=x*f:=Int.mul_nonneg x0 f0
 have h2:x*f<=1000000*10^55:=Int.mul_le_mul '!' f1 f0 '*'
 have h3:(1000000:Int)*10^55+9<10^62:=by decide +kernel
 exact⟨(x*f+y).toNat,by omega,by omega⟩
theorem aBX{z:Int}(h0:0<=z)(h1:z<2):∃g:Int,atI [D.int 9, .int (10^(6:Int).toNat)] z=some (.int g)/\9<=g/\g<=1000000:=by
 have:z=0\/z=1:=by omega
 rcases this with rfl|rfl
 ·exact⟨_,rfl,by decide,by decide⟩
 ·exact⟨_,rfl,by decide,by decide⟩
theorem aBC{z:Int}(h0:0<=z)(h1:z<6):∃s:Str,atI [D.str "", .str "-", .str "", .str "0", .str "-0", .str "+"] z=some (.str s)/\Bd s 2 0:=by
 have:z=0\/z=1\/z=2\/z=3\/z=4\/z=5:=by omega
 rcases this with rfl|rfl|rfl|rfl|rfl|rfl <;> exact⟨_,rfl,oR '-'⟩
theorem yQ{z:Int}(h0:0<=z)(h1:z<7):∃s:Str,atI [D.str "1", .str "0", .str "-2", .str "02", .str "", .str "2/3", .str " 2"] z=some (.str s)/\Bd s 3 1:=by
 have:z=0\/z=1\/z=2\/z=3\/z=4\/z=5\/z=6:=by omega
 rcases this with rfl|rfl|rfl|rfl|rfl|rfl|rfl <;> exact⟨_,rfl,oR '-'⟩
theorem xX{z:Int}(h0:0<=z)(h1:z<4):∃t:Int,atI [D.int 0, .int 58, .int 59, .int 60] z=some (.int t)/\0<=t/\t<=60:=by
 have:z=0\/z=1\/z=2\/z=3:=by omega
 rcases this with rfl|rfl|rfl|rfl <;> exact⟨_,rfl,by decide,by decide⟩
theorem nI(c:Nat)(n:Nat):(gX ⟨#[c]⟩ n).cps.toList=jy n c:=by
 rw[jR]
 show (jy n [c]).flatten=jy n c
 induction n with
 |zero=>rfl
 |succ n ih=>rw[xk,yz,ih];rfl
theorem aJL(h:n<=60):Bd (gX ("0" : Str) n) 60 0:=by
 have e2:("0" : Str)=⟨#[48]⟩:=by decide +kernel
 rw[e2]
 constructor
 ·show (gX ⟨#[48]⟩ n).cps.size<=60
  rw[<- qa,nI,br]
  exact h
 ·rw[nI]
  exact xq (vn.mpr λz=>by have:=fo z;omega)
theorem aEB{z:Int}(h0:0<=z)(h1:z<19):∃c:Nat,atI ("0123456789-/+.#; a_" : Str).cps.toList z=some c:=by
 obtain⟨n,rfl⟩:∃n:Nat,z=(n:Int):=⟨z.toNat,by omega⟩
 have:n<("0123456789-/+.#; a_" : Str).cps.toList.length:=by
  rw[show ("0123456789-/+.#; a_" : Str).cps.toList.length=19 by decide +kernel]
  omega
 exact⟨_,dB (zGe this)⟩
structure Wb(ws:List Str)(N L B:Nat):Prop where
 n:ws.length<=N
 l:(ws.map (·.length)).sum<=L
 b:(ws.map (·.cps.toList.count 32)).sum<=B
theorem Wb.mono{ws:List Str}{N B N':Nat}(h:Wb ws N L B)(h1:N<=N')(h2:L<=L')(h3:B<=B'):Wb ws N' L' B':=⟨ji h.n h1,ji h.l h2,ji h.b h3⟩
theorem Wb.app{xs ys:List Str}{N B N':Nat}(h:Wb xs N L B)(h':Wb ys N' L' B'):Wb (xs++ys) (N+N') (L+L') (B+B'):=by
 constructor
 ·rw[ql];exact fe h.n h'.n
 ·rw[qg,J6];exact fe h.l h'.l
 ·rw[qg,J6];exact fe h.b h'.b
theorem aCT{l:Nat}:∀{ws:List Str},(∀w∈ws,Bd w l 0)->Wb ws ws.length (ws.length*l) 0
 |[],_=>⟨qj _,by simp,by simp⟩
 |x::r,h=>by
  have i:=aCT (ws:=r) λw hw=>h w (qm _ hw)
  have hx:=h x '$'
  have h1:=hx.l
  have h2:=hx.b
  have i1:=i.l
  have i2:=i.b
  refine⟨qj _,?_,?_⟩
  ·simp only[jw,wz,qf,rb]
   omega
  ·simp only[jw,wz]
   omega
theorem aBR{l:Nat}{ws:List Str}(h:∀w∈ws,Bd w l 0)(hn:ws.length<=n):Wb ws n (n*l) 0:=(aCT h).mono hn (Nat.mul_le_mul_right _ hn) (qj _)
theorem aGJ{ws:List Str}(h:∀w∈ws,Bd w 10 0)(hn:ws.length=n)(hn2:n<=13):Ws ws n 270 1:=by
 have:=aBR h (show ws.length<=13 by omega)
 exact⟨hn,ji this.l '*',ji this.b '*'⟩
theorem aKZ{ws:List Str}{z:Str}(h:∀w∈ws,Bd w 10 0)(hn:ws.length=n)(hn2:n<=13)(hz:Bd z 140 1):Ws (ws.set 0 z) n 270 1:=by
 cases ws with
 |nil=>exact⟨hn,by simp,by simp⟩
 |cons x r =>
  have:=aBR (ws:=r) (n:=13) (λw hw=>h w (qm _ hw)) (by simp only[qf] at hn;omega)
  have a:=this.l
  have b:=this.b
  have c:=hz.l
  have d:=hz.b
  refine⟨by rw[<- hn];simp,?_,?_⟩
  ·simp only[JC,jw,wz];omega
  ·simp only[JC,jw,wz];omega
theorem aGE{ws:List Str}{w:Str}(h:x∈ws.set 0 w):x=w\/x∈ws:=by
 rcases List.mem_or_eq_of_mem_set h with h|h
 ·exact .inr h
 ·exact .inl h
theorem aAR:∀(ws:List Str),(wb ⟨#[32]⟩ ws).cps.toList.count 32<=(ws.map (·.cps.toList.count 32)).sum+ws.length
 |[]=>by decide
 |[x]=>by
  have e:wb ⟨#[32]⟩ [x]=x:=by
   apply eI
   simp[wb]
  rw[e]
  simp
 |x::y::r=>by
  have i:=aAR (y::r)
  rw[jG,vf,cj]
  simp only[jw,wz,qf] at i ⊢
  omega
theorem Wb.join{ws:List Str}{N B:Nat}(h:Wb ws N L B):Bd (zm (" " : Str) ws) (L+N) (B+N):=by
 have e:zm (" " : Str) ws=wb ⟨#[32]⟩ ws:=by rw[lE];exact bc ..
 rw[e]
 have h1:=h.n
 have h2:=h.l
 have h3:=h.b
 constructor
 ·have:=join_le ⟨#[32]⟩ ws
  rw[show (⟨#[32]⟩:Str).length=1 from rfl] at this
  omega
 ·have:=aAR ws
  omega
theorem aC6{p1 p2 p3 p4 p5:List Str}{N B:Nat}(h1:Wb p1 N L B)(h2:Wb p2 N L B)(h3:Wb p3 N L B)(h4:Wb p4 N L B)(h5:Wb p5 N L B){z:Int}(z0:0<=z)(z1:z<5):∃ws:List Str,atI [D.lst (p1.map .str), .lst (p2.map .str), .lst (p3.map .str), .lst (p4.map .str), .lst (p5.map .str)] z=some (.lst (ws.map .str))/\Wb ws N L B:=by
 have:z=0\/z=1\/z=2\/z=3\/z=4:=by omega
 rcases this with rfl|rfl|rfl|rfl|rfl
 ·exact⟨_,rfl,h1⟩
 ·exact⟨_,rfl,h2⟩
 ·exact⟨_,rfl,h3⟩
 ·exact⟨_,rfl,h4⟩
 ·exact⟨_,rfl,h5⟩
theorem aDX{z:Int}(h0:0<=z)(h1:z<5):∃n:Nat,atI [D.int 2, .int 3, .int 5, .int 12, .int 13] z=some (.int (n:Int))/\2<=n/\n<=13:=by
 have:z=0\/z=1\/z=2\/z=3\/z=4:=by omega
 rcases this with rfl|rfl|rfl|rfl|rfl
 ·exact⟨2,rfl,by decide,by decide⟩
 ·exact⟨3,rfl,by decide,by decide⟩
 ·exact⟨5,rfl,by decide,by decide⟩
 ·exact⟨12,rfl,by decide,by decide⟩
 ·exact⟨13,rfl,by decide,by decide⟩
theorem aCV{z:Int}(h0:0<=z)(h1:z<5):∃n:Nat,atI [D.int 2, .int 2, .int 3, .int 12, .int 13] z=some (.int (n:Int))/\2<=n/\n<=13:=by
 have:z=0\/z=1\/z=2\/z=3\/z=4:=by omega
 rcases this with rfl|rfl|rfl|rfl|rfl
 ·exact⟨2,rfl,by decide,by decide⟩
 ·exact⟨2,rfl,by decide,by decide⟩
 ·exact⟨3,rfl,by decide,by decide⟩
 ·exact⟨12,rfl,by decide,by decide⟩
 ·exact⟨13,rfl,by decide,by decide⟩
theorem aIT{B:Nat}(hx:Bd x L B)(hy:Bd y L B){z:Int}(h0:0<=z)(h1:z<2):∃w:Str,atI [D.str x, .str y] z=some (.str w)/\Bd w L B:=by
 have:z=0\/z=1:=by omega
 rcases this with rfl|rfl
 ·exact⟨_,rfl,hx⟩
 ·exact⟨_,rfl,hy⟩
theorem aI7{z:Int}(h0:0<=z)(h1:z<3):∃c:Nat,atI ("#." : Str).cps.toList (z/2)=some c/\(c=35\/c=46):=by
 have:z/2=0\/z/2=1:=by omega
 rcases this with e|e
 ·rw[e];exact⟨35,by decide +kernel, .inl rfl⟩
 ·rw[e];exact⟨46,by decide +kernel, .inr rfl⟩
theorem aE5{qs:List Nat}(h:∀c∈qs,c=35\/c=46)(hn:qs.length<=n):Bd (R.ofL qs) n 0:=⟨by rw[R.mS];exact hn,xq (vn.mpr λz=>by
 have:32∈qs:=z
 rcases h 32 this with h|h <;> omega)⟩
theorem aKK{k:Nat}(h:n<=k):Bd (gX ("." : Str) n) k 0:=by
 have e2:("." : Str)=⟨#[46]⟩:=by decide +kernel
 rw[e2]
 constructor
 ·show (gX ⟨#[46]⟩ n).cps.size<=k
  rw[<- qa,nI,br]
  exact h
 ·rw[nI]
  exact xq (vn.mpr λz=>by have:=fo z;omega)
noncomputable def pN(w:Str):Bool := @decide (fL w) (zk _)
theorem oY{w:Str}:pN w=true↔fL w:=by unfold pN;exact @decide_eq_true_iff _ (zk _)
theorem zL:∀{x:List Str},(∀w∈x,fL w)->∃qs:List Rat,x=qs.map nT/\∀q∈qs,Sm q
 |[],_=>⟨[],rfl,λq hq=>(nomatch hq)⟩
 |w::r,h=>by
  obtain⟨q,hq,e⟩:=h w '$'
  obtain⟨qs,e2,h2⟩:=zL (x:=r) λw hw=>h w (qm _ hw)
  exact⟨q::qs,by rw[e2,<- e];rfl,λp hp=>by
   rcases qr.mp hp with rfl|hp
   ·exact hq
   ·exact h2 p hp⟩
noncomputable def OkL(x:List Str):Prop:=∃qs:List Rat,x=qs.map nT/\(∀q∈qs,Sm q)/\2<=qs.length/\qs.length<=12/\Up qs
theorem aGN{A:Yd}(hA:SmY A)(hv:A≠Yd.void):OkL (A.ws.map nT)/\OkL (A.us.map nT):=by
 have f:=vR hv
 have:=f.l
 have:=ju.mpr f.ne
 exact⟨⟨_,rfl,hA.x,f.w2,hA.lx,f.uw⟩,⟨_,rfl,hA.y,by omega,hA.ly,f.uu⟩⟩
structure OkR(n:Nat)(c:List Str):Prop where
 g:R.Good n c
 t1:R.chg c=qt (c.length+1)
 t2:R.chg (R.aE c)=qt ((R.aE c).length+1)
theorem join0:∀(ws:List Str),(wb ja ws).cps.toList=(ws.map (·.cps.toList)).flatten
 |[]=>rfl
 |[x]=>by
  have e:wb ja [x]=x:=by
   apply eI
   simp[wb]
  rw[e];simp
 |x::y::r=>by
  show (x++ja++wb ja (y::r)).cps.toList=_
  rw[eS,xC,join0 (y::r)]
  rfl
theorem aIN(ws:List Str):(zm ja ws).cps.toList=(ws.map (·.cps.toList)).flatten:=by
 rw[show zm ja ws=wb ja ws from bc ..]
 exact join0 ws
theorem aF8(c:Nat):decide (c∈("#." : Str).cps.toList)=R.sgn c:=by
 rw[show ("#." : Str).cps.toList=[35,46] by decide +kernel]
 unfold R.sgn
 simp[Bool.decide_or]
 rfl
end Q
set_option exponentiation.threshold 2000
namespace Q
open PySem L2 Z U PySem.NumText
theorem aGV{N:Mem}{p:Addr}{b:Int}(h:FdM M p b)(le:Le M N):FdM N p b:=by
 obtain⟨g,m,st,hM,r⟩:=h
 exact⟨g,m,st,le p _ hM,r⟩
theorem aFT:¬fL ("" : Str):=λh=>by
 have:=(aC4 (z:=("" : Str)) '-').mp h
 have h2:=this.1.1.ne
 exact h2 '-'
theorem aHX:Tx ("; ;" : Str):=⟨by decide +kernel,by decide +kernel⟩
theorem aFY:¬iZ ("; ;" : Str):=λ⟨A,hA,eA⟩=>by
 have e:wds ("; ;" : Str)=[]++(";" : Str)::([]++(";" : Str)::[]):=by decide +kernel
 obtain⟨h0,h1,_,_⟩:=qR '-' e (λz=>(nomatch z)) (λz=>(nomatch z)) (λz=>(nomatch z)) hA eA
 have:=(vR h0).w2
 have:=congrArg xu h1
 rw[zLm] at this
 simp only[jk] at this
 omega
end Q
namespace Q
open PySem L2 Z
open U
section
variable {K:qb}{z:Heap}
theorem iS:FnScope ["_law_way", "_law_text", "_law_found", "_law_caught", "e", "_law_other"] zl3 (aL rT):=zSc
abbrev aCR(P w K mg z):=Fo P w K mg z "_law_read" rT zl3 7 aJF
theorem aIW(Df:R.Df K mg "_law_read" rT zl3 f fd)(aMH:j7 P w K mg z cT)(aMG:gW P w K mg z)(aMS:qC P w K mg z cT)(aMT:oN P w K mg z)(T:Bt mg)(PX:TxX K mg cT cR x1 x2 x3 x4 x5):aCR P w K mg z:=by
 refine⟨f,fd,Df,b8 Df iS (λds M k h=>?_) (λ_ _ _ _ _ _ hr ds M k h=>?_)⟩
 ·obtain⟨w,z,P,rfl,_⟩:=h;rfl
 obtain⟨w,z,P,rfl,hP,hk1,hk2⟩:=h
 obtain⟨f1,d1,D1,F1⟩:=aMH
 obtain⟨f2,d2,D2,F2⟩:=aMG
 obtain⟨f3,d3,D3,F3⟩:=aMS
 obtain⟨f4,d4,D4,F4⟩:=aMT
 refine aD (aK 2 iS.nd (m9 (aD (aK 3 iS.nd (m9 (aD (aFS 4 2 iS.nd PX.r ⟨⟨_,f1,d1,_,_,f2,d2,_,F1,hr.mono '*',D1.m,D1.F.kp,D1.b,F2,hr.mono '*',D2.m,D2.F.kp,D2.b⟩,rfl,rfl,by decide,by decide,rfl,rfl,rfl,rfl,rfl⟩ ⟨⟨_,f3,d3,_,_,f4,d4,_,F3,hr.mono '*',D3.m,D3.F.kp,D3.b,F4,hr.mono '*',D4.m,D4.F.kp,D4.b⟩,rfl,rfl,by decide,by decide,rfl,rfl,rfl,rfl,rfl⟩ (aR bS (y3 (cL ⟨_,rfl,(ite2 (λh0 => ?_) (λh0 => ?_))⟩)).5))))))))
 ·refine aA (aC ?_).6
  obtain⟨hz,rfl⟩:z.length<=1000/\P=fL z:=by
   rcases hP with ⟨_,a,b⟩|⟨hw,_⟩
   ·exact⟨a,b⟩
   ·exact absurd (of_decide_eq_true h0) '!'
  refine⟨z,rfl,hz,λq sq e=>⟨q,rfl,sq,?_⟩,λhn=>⟨PX.x,λa ha => ?_⟩⟩
  ·refine aD (aX (aR rQ (aB 3 rfl (m9 (qZ ⟨_,rfl,(aZ (aF (aH (cP (ge_str (aB 2 rfl (aC ⟨'.',?_⟩)).3).3))))⟩)))))
   rw[e]
   exact hk1 ⟨q,sq,e⟩
  ·show '!'
 ·refine aA (aC ?_).6
  obtain⟨hz,rfl⟩:Tx z/\P=iZ z:=by
   rcases hP with ⟨hw,_⟩|⟨_,a,b⟩
   ·exact absurd (decide_eq_true hw) h0
   ·exact⟨a,b⟩
  refine⟨z,rfl,hz,λq sq e=>⟨q,rfl,sq,?_⟩,λhn=>⟨PX.x,λa ha => ?_⟩⟩
  ·refine aD (aX (aR rQ (aB 3 rfl (m9 (qZ ⟨_,rfl,(aZ (aF (aH (cP (ge_str (aB 2 rfl (aC ⟨'.',?_⟩)).3).3))))⟩)))))
   rw[e]
   exact hk1 ⟨q,sq,e⟩
  ·show '!'
theorem kM:FnScope ["_law_feed_here", "_law_many", "_law_digit", "_law_step", "_law_mixed"] zl0 (aL qY):=zSc
abbrev oS(P w K mg z):=Fo P w K mg z "_law_next" qY zl0 1 aLO
theorem aJE(Df:R.Df K mg "_law_next" qY zl0 f fd):oS P w K mg z:=by
 refine⟨f,fd,Df,b8 Df kM (λds M k h=>?_) (λ_ _ _ _ _ _ hr ds M k h=>?_)⟩
 ·obtain⟨p,n,b,rfl,_⟩:=h;rfl
 obtain⟨p,n,b,rfl,hn,hn2,⟨g,m,st,hM,hg,hm,hm2,hs,hs2⟩,hb,hk⟩:=h
 refine aD (aX (aR n8 (aN aI (y3 (aP (.mt hM) rfl (y3 (gJ ⟨_,rfl,(ite2 (λhgt => ?_) (λhgt => ?_))⟩)))).5)))
 ·exact aD (aK 2 kM.nd (aG kZ (aN aI (y3 (aP (.mt hM) rfl (cK (show (0:Int)<_ by first|decide|omega) (aD (mQ (aG tD (aN aI (y3 (aP (.mt hM) rfl (cK ⟨hn,hn2⟩ (rK (y3 ⟨p,0,0,_,rfl,rfl,hM,rfl,(aF (aH (aB 2 rfl (hk _ _ (zy _ '!') (ba _ hn) ⟨_,m,st,aW,Int.ediv_nonneg hg '!',hm,hm2,hs,by omega⟩ (cG.refl p M).upd (λa ha=>dL ha)))))⟩).5)).6)).5))))).6)).5)))
 ·refine aT (aD (aK 3 kM.nd (aG bV (aN aI (y3 (aP (.mt hM) rfl (y3 (bT (aD (mQ (aB 3 rfl (rK (y3 ⟨p,2,2,_,rfl,rfl,hM,rfl,(aD (aK 4 kM.nd ?_))⟩).5)))))))).5))))
  have b1 : -(2^64)<st+1/\st+1<2^64:=by omega
  refine aG kZ (aG bV (aG bV (aN aI (y3 (aP (.mt aW) rfl (aG hU (aG hU (y3 (aB 3 rfl (cK (.inl ⟨by decide,by decide⟩) (aB 3 rfl (cK (.inr b1) (bT (aG hU (y3 (aB 3 rfl (cK (.inl ⟨by decide,by decide⟩) (bT (y3 (cK (show (0:Int)<_ by first|decide|omega) (aD (aK 4 kM.nd (aG kZ (aG bV (aG bV (aG hU (aB 4 rfl (aB 4 rfl (cK (.inl (R.tP _ '*' '*')) (aG hU ?_))))))))))))))))))))))))))).5)))
  exact y3 (aB 4 rfl (cK (.inl ⟨by decide,by decide⟩) (bT (aB 3 rfl (bT (y3 (cK (show (0:Int)<_ by first|decide|omega) (aD (aK 4 kM.nd (aG kZ (aG bV (aG hU (aB 4 rfl (aB 4 rfl (cK (.inl (R.tP _ '*' '*')) (aG hU (y3 (aB 4 rfl (cK (.inl ⟨by decide,by decide⟩) (bT (y3 (cK (show (0:Int)<_ by first|decide|omega) (aF (aH (aG kZ (aG tD (aB 4 rfl (y3 (cK ⟨by decide,by decide⟩ (cK hn (hk _ _ (zy _ '!') (ba _ hn) ⟨g,m,st+1,aW,hg,hm,hm2,by omega,by omega⟩ (cG.refl p M).upd (λa ha=>dL ha))).6)))))))))))))))))))))))))))))
theorem dY:FnScope ["_law_feed_here", "_law_way", "_law_far", "_law_first", "_law_second"] zl6 (aL iB):=zSc
abbrev j5(P w K mg z):=Fo P w K mg z "_law_number_text" iB zl6 2 aEH
theorem sR(Df:R.Df K mg "_law_number_text" iB zl6 f fd)(aMU:oS P w K mg z)(T:Bt mg):j5 P w K mg z:=by
 refine⟨f,fd,Df,b8 Df dY (λds M k h=>?_) (λ_ _ _ _ _ _ hr ds M k h=>?_)⟩
 ·obtain⟨p,b,rfl,_⟩:=h;rfl
 obtain⟨p,b,rfl,hF0,hb,hk⟩:=h
 have k60:(10:Nat)^62<10^100:=by decide +kernel
 have t6:(10:Int)^(6:Int).toNat=1000000:=by decide
 refine aD (aK 1 dY.nd (aQ aMU hr (y3 (aC ⟨p,_,_,rfl,by decide,by decide,hF0,by omega,λz1 M1 z10 z11 hF1 hB1 hE1 => ?_⟩)).3.5.3))
 refine aD (aK 2 dY.nd (aN aI (bW (y3 (aG oW (y3 (y3 (cK ⟨by decide,by decide,by decide⟩ (aG oW (y3 (y3 (cK ⟨by decide,by decide,by decide⟩ (aC ⟨(show 3<=sizeLine by decide),(aQ aMU hr (y3 (aC ⟨p,_,_,rfl,by decide,by decide,hF1,by omega,λz2 M2 z20 z21 hF2 hB2 hE2 => ?_⟩)).3.5.3)⟩))))).3)))).3).3)))
 obtain⟨f,hf,f0,f1⟩:=aBA z20 z21
 refine aP '&' hf (aD (aK 3 dY.nd (aY iL T.str R.BS (aG bV (aG mU (aQ aMU hr (aG oW (y3 (y3 (cK ⟨by decide,by decide,by decide⟩ (aC ⟨p,_,_,rfl,by decide,by decide,hF2,by omega,λz3 M3 z30 z31 hF3 hB3 hE3 => ?_⟩))))).3.5.3))).3)))
 rw[t6] at z31
 refine aB 2 rfl (cK ⟨big400 (dj (show z3.natAbs<10^7 by omega) '-'),big400 (zz (show f.natAbs<=10^55 by omega) '-')⟩ (aQ aMU hr (y3 (aC ⟨p,_,_,rfl,by decide,by decide,hF3,by omega,λz4 M4 z40 z41 hF4 hB4 hE4 => ?_⟩)).3.5.3))
 refine bT ?_
 obtain⟨m,em,hm⟩:∃m:Nat,z3*f+z4=(m:Int)/\m<10^62:=aIR z30 '!' f0 f1 z40 '!'
 rw[em]
 refine aC (kP (pW (by rw[vq];omega)) ?_)
 have bm:Bd (jb (toString ((m:Nat):Int))) 62 0:=vF (k:=61) hm
 generalize jb (toString ((m:Nat):Int))=T1 at *
 refine aD (aK 4 dY.nd (aY iL T.str R.BS (aG bV (y3 (aQ aMU hr (aN aI (bW (y3 (aG oW (y3 (y3 (cK ⟨by decide,by decide,by decide⟩ (aC ⟨'.',(aQ aMU hr (y3 (aC ⟨p,_,_,rfl,by decide,by decide,hF4,by omega,λz5 M5 z50 z51 hF5 hB5 hE5 => ?_⟩)).3.5.3)⟩))))).3).3)).3.5.3))).3))
 obtain⟨g,hg,g0,g1⟩:=aBX z50 z51
 refine aP '&' hg (aC ⟨p,g,_,rfl,by omega,by omega,hF5,by omega,λz6 M6 z60 z61 hF6 hB6 hE6 => ?_⟩)
 refine bT ?_
 obtain⟨n,en,hn⟩:∃n:Nat,2+z6=(n:Int)/\n<10^8:=⟨(2+z6).toNat,by omega,by omega⟩
 rw[en]
 refine aC (kP (pW (by rw[vq];exact dj hn '-')) ?_)
 have bn:Bd (jb (toString ((n:Nat):Int))) 8 0:=vF (k:=7) hn
 generalize jb (toString ((n:Nat):Int))=T2 at *
 refine aD (aK 3 dY.nd (aG bF (aN aI (bW (ge_str (ge_str (ge_str (ge_str (ge_str (ge_str (aC ⟨(show 6<=sizeLine by decide),(aQ aMU hr (y3 (aC ⟨p,_,_,rfl,by decide,by decide,hF6,by omega,λz7 M7 z70 z71 hF7 hB7 hE7 => ?_⟩)).3.5.3)⟩)).3).3).3).3).3).3))))
 obtain⟨s,hs,bs⟩:=aBC z70 z71
 refine aP '&' hs (aB 3 rfl (cF (R.aJ (by have:=bs.l;have:=bm.l;omega)) ?_))
 have bf:=bs.cat bm
 have hB:=(((((hB1.trans hB2).trans hB3).trans hB4).trans hB5).trans hB6).trans hB7
 have ls:Bd ("/" : Str) 1 0:=oR '-'
 have lf:=bf.l
 have l1:=ls.l
 have hE:=(λa ha=>(hE7 a ha).trans ((hE6 a ha).trans ((hE5 a ha).trans ((hE4 a ha).trans ((hE3 a ha).trans ((hE2 a ha).trans (hE1 a ha)))))))
 generalize s++T1=F at *
 refine aD (aX (aR bS (y3 (cL ⟨_,rfl,(ite2 (λh1=>aF (aH ?_)) (λh1=>aT ?_))⟩)).6))
 ·exact aB 3 rfl (hk _ _ (bf.mono '!' '!') (hF7.mono '!') hB hE)
 refine aD (aX (aR bS (y3 (cL ⟨_,rfl,(ite2 (λh2=>aF (aH ?_)) (λh2=>aT ?_))⟩)).6))
 ·refine aG bF (aG bF (aB 3 rfl (ge_str (cF (R.aJ '!') (aN aI (bW (ge_str (ge_str (ge_str (ge_str (ge_str (ge_str (ge_str (aC ⟨(show 7<=sizeLine by decide),(aQ aMU hr (y3 (aC ⟨p,_,_,rfl,by decide,by decide,hF7,by omega,λz8 M8 z80 z81 hF8 hB8 hE8 => ?_⟩)).3.5.3)⟩)).3).3).3).3).3).3).3))))))
  obtain⟨t,ht,bt⟩:=yQ z80 z81
  exact aP '&' ht (cF (R.aJ (by rw[cA];have:=bt.l;omega)) (hk _ _ (((bf.cat ls).cat bt).mono '!' '!') (hF8.mono '!') (hB.trans hB8) (λa ha=>(hE8 a ha).trans (hE a ha))))
 have ln:=bn.l
 refine aD (aX (aR bS (y3 (cL ⟨_,rfl,(ite2 (λh3=>aF (aH ?_)) (λh3=>aT (aF (aH ?_))))⟩)).6))
 ·refine aG bF (aG bF (aG bF (aB 3 rfl (ge_str (cF (R.aJ '!') (aB 4 rfl (cF (R.aJ (by rw[cA];omega)) (aG pX (ge_str (aN aI (bW (y3 (y3 (y3 (y3 (aC ⟨(show 4<=sizeLine by decide),(aQ aMU hr (y3 (aC ⟨p,_,_,rfl,by decide,by decide,hF7,by omega,λz8 M8 z80 z81 hF8 hB8 hE8 => ?_⟩)).3.5.3)⟩)).3).3).3).3)))))))))))
  obtain⟨t,ht,t0,t1⟩:=xX z80 z81
  refine aP '&' ht ?_
  have bt:=aJL (n:=t.toNat) (show t.toNat<=60 by omega)
  have lt:=bt.l
  exact p7 '!' '!' (R.aJ (by rw[show ("0" : Str).length=1 by decide +kernel];omega)) (cF (R.aJ (by rw[cA,cA];omega)) (hk _ _ ((((bf.cat ls).cat bn).cat bt).mono '!' '!') (hF8.mono '!') (hB.trans hB8) (λa ha=>(hE8 a ha).trans (hE a ha))))
 exact aG bF (aG bF (aB 3 rfl (ge_str (cF (R.aJ '!') (aB 4 rfl (cF (R.aJ (by rw[cA];omega)) (hk _ _ (((bf.cat ls).cat bn).mono '!' '!') (hF7.mono '!') hB hE)))))))
theorem dM:FnScope ["_law_feed_here", "_law_many", "_law_found", "_law_at", "_law_k", "_law_way"] zl0 (aL i7):=zSc
abbrev oO(P w K mg z):=Fo P w K mg z "_law_line_texts" i7 zl0 3 aBW
theorem u4(Df:R.Df K mg "_law_line_texts" i7 zl0 f fd)(aMU:oS P w K mg z)(aMV:j5 P w K mg z)(T:Bt mg):oO P w K mg z:=by
 refine⟨f,fd,Df,b8 Df dM (λds M k h=>?_) (λ_ _ _ _ _ _ hr ds M k h=>?_)⟩
 ·obtain⟨p,b,n,rfl,_⟩:=h;rfl
 obtain⟨p,b,n,rfl,hF0,hb,n2,n13,hk⟩:=h
 refine aD (aK 2 dM.nd (tJ (aC ⟨(show 0<=sizeLine by decide),λa ha => ?_⟩)))
 have hap:a≠p:=hF0.ne ha
 refine aD (aK 3 dM.nd (aG eW (aQ aMU hr (y3 (aC ⟨p,_,_,rfl,by decide,by decide,hF0.new hap,by omega,λz1 M1 z10 z11 hF1 hB1 hE1 => ?_⟩)).3.5.3)))
 refine y3 (bT (aD (m6 (kU T.range (aC ⟨_,rfl,by omega,by omega,?_⟩).6.3))))
 rw[jc]
 refine⟨λi Γ' M'=>∃(ws:List Str) (t:Int) (v4:Option D),Γ'=[some (.mt p),some (.int (n:Int)),some (.mt a),some (.int t),v4,none]/\M' a=some (.lst (ws.map .str))/\FdM M' p (b+1+2*i)/\cG p M M'/\ws.length=i/\(∀w∈ws,Bd w 10 0) /\ -20<=t/\t<=20+6*i,⟨[],z1-20,_,rfl,(hE1 a hap).trans aW,hF1.mono '!',((cG.refl p M).new ha).trans hB1,rfl,λw hw=>(nomatch hw),by omega,by omega⟩,?_,?_⟩
 ·rintro i d Γ' M' hd ⟨ws,t,v4,rfl,hM,hF,hB,hl,hw,t0,t1⟩
  obtain⟨hi,rfl⟩:=fB hd
  refine eH 4 dM.nd ?_
  have b1:Bd (iT t) 10 0:=(aD1 (k:=2) '!').mono '!' '!'
  have b2:Bd (iT (2*t+1)) 5 0:=(aD1 (k:=3) '!').mono '!' '!'
  have b3:Bd ("/2" : Str) 2 0:=oR '-'
  have b4:Bd (iT (2*t+1)++("/2" : Str)) 10 0:=(b2.cat b3).mono '!' '!'
  refine aD (yY (c6 vi tm tj lZ (aB 2 rfl (⟨⟨rfl,_,hM⟩,(aN aI (bW (aY iL T.str R.BS (aB 3 rfl (aC (kP (pW (zz (show t.natAbs<=1000 by omega) '-')) (aG bF (aY iL T.str R.BS (aG bV (aG hU (y3 (aB 3 rfl (cK (.inl ⟨by decide,by decide⟩) (y3 (bT (aC (kP (pW (zz (show (2*t+1).natAbs<=1000 by omega) '-')) (ge_str (cF (R.aJ (by have h1:=b2.l;have h2:=b3.l;show (iT (2*t+1)).length+_<=_;omega)) (aC ⟨'.',(aQ aMU hr ?_)⟩)))))))))))).3)).3))).3).3)).3⟩))))
  refine aA (y3 (aC ⟨p,_,_,rfl,by decide,by decide,hF,by omega,λz2 M2 z20 z21 hF2 hB2 hE2 => ?_⟩)).3.5
  obtain⟨w,hw2,bw⟩:=aIT b1 b4 z20 z21
  refine aP '&' hw2 (aC (tR ((hE2 a hap).trans hM) (by rw[zLm,hl];exact zz (show i<=20 by omega) '*') (aF (aK 3 dM.nd ?_))))
  have haM:M a=none:=ha
  refine aG bV (aG bV (aB 3 rfl (y3 (bT (aQ aMU hr (y3 (aC ⟨p,_,_,rfl,by decide,by decide,hF2.new hap,by omega,λz3 M3 z30 z31 hF3 hB3 hE3 => ?_⟩)).3.5.3)))))
  refine bT ⟨ws++[w],_,_,rfl,?_,hF3.mono '!',((hB.trans hB2).new haM).trans hB3,by rw[ql,hl];rfl,λx hx => ?_,by omega,by omega⟩
  ·rw[hE3 a hap,aW,qg];rfl
  ·rcases kv.mp hx with hx|hx
   ·exact hw x hx
   ·rw[vb] at hx
    rw[hx]
    exact bw
 rintro Γ' M2 ⟨ws,t,v4,rfl,hM,hF,hB,hl,hw,t0,t1⟩
 rw[bX] at hl hF
 refine aD (aK 5 dM.nd (aQ aMU hr (y3 (aC ⟨p,_,_,rfl,by decide,by decide,hF,by omega,λz4 M4 z40 z41 hF4 hB4 hE4 => ?_⟩)).3.5.3))
 have hM4:=(hE4 a hap).trans hM
 have hB5:=hB.trans hB4
 refine aD (eT (λΓ' M'=>∃ws':List Str,Γ'=[some (.mt p),some (.int (n:Int)),some (.mt a),some (.int t),v4,some (.int z4)]/\M' a=some (.lst (ws'.map .str))/\FdM M' p (b+40)/\cG p M M'/\ws'.length=n/\∀w∈ws',Bd w 10 0) (aX (aDJ (B:=decide (z4=0)) (eG (aDE ?_)) (ite2 (λh1=>aF (mQ ?_)) (λh1=>aT ⟨ws,rfl,hM4,hF4.mono '!',hB5,hl,hw⟩)))) ?_)
 ·exact aR bS (aB 5 rfl (y3 (cL ⟨_,rfl,(ite2 (λh1=>aAA (aR n8 (y3 (gJ ⟨_,rfl,⟨by rw[h1];exact decide_eq_true '!',rfl⟩⟩)).6)) (λh1=>⟨by simpa using h1,rfl⟩))⟩)))
 ·obtain⟨x,hx⟩:∃x,ws[1]?=some x:=⟨_,zGe '!'⟩
  refine aN aI (aB 2 rfl (y3 (aP (.mt hM4) (dB (j:=1) (by rw[qk,hx];rfl)) ?_)))
  refine rK (aB 2 rfl (y3 (⟨a,0,0,_,rfl,rfl,hM4,?_,⟨ws.set 0 x,rfl,by rw[aW,KD],(hF4.new hap).mono '!',hB5.new ha,by rw[zu,hl],λw hw' => ?_⟩⟩)))
  ·rw[zLm,hl]
   exact ix0 '!'
  ·rcases aGE hw' with rfl|h
   ·exact hw _ (zMo hx)
   ·exact hw w h
 rintro Γ' M5 ⟨ws',rfl,hM5,hF5,hB6,hl5,hw5⟩
 refine aD (aX (aR bS (aB 5 rfl (y3 (cL ⟨_,rfl,(ite2 (λh1 => ?_) (λh1=>aT ?_))⟩)))))
 ·refine fT 2 rfl hM5 (aF (aK 2 dM.nd (aIX (aB 2 rfl ⟨_,rfl,(aD (aX (aR bS (aB 5 rfl (y3 (cL ⟨_,rfl,?_⟩))))))⟩))))
  have e1:=of_decide_eq_true h1
  refine vD (decide_eq_false '!') (aT (aF (aH (aB 2 rfl ?_))))
  rw[<- List.map_reverse]
  exact hk _ _ (aGJ (λw hw=>hw5 w (JV.mp hw)) (by rw[yf];exact hl5) n13) ((hF5.del hap).mono '!') (hB6.del ha)
 refine aD (aX (aR bS (aB 5 rfl (y3 (cL ⟨_,rfl,(ite2 (λh2=>aF (mQ ?_)) (λh2=>aT ?_))⟩)))))
 ·refine aQ aMV hr (aC ⟨p,_,rfl,hF5,by omega,λz M6 bz hF6 hB7 hE6 => ?_⟩).5.3
  refine rK (aB 2 rfl (y3 ⟨a,0,0,_,rfl,rfl,(hE6 a hap).trans hM5,?_,?_⟩))
  ·rw[zLm,hl5]
   exact ix0 '!'
  refine fT 2 rfl aW (aF (aH (aB 2 rfl ?_)))
  rw[<- KD]
  exact hk _ _ (aKZ hw5 hl5 n13 bz) (((hF6.new hap).del hap).mono '!') (((hB6.trans hB7).new ha).del ha)
 ·exact fT 2 rfl hM5 (aF (aH (aB 2 rfl (hk _ _ (aGJ hw5 hl5 n13) ((hF5.del hap).mono '!') (hB6.del ha)))))
theorem b7:FnScope ["_law_feed_here", "_law_xs", "_law_ys", "_law_rows", "_law_y", "_law_way", "_law_parts", "_law_ways"] zl6 (aL jN):=zSc
abbrev p9(P w K mg z):=Fo P w K mg z "_law_yard_text" jN zl6 4 yD
theorem wM(Df:R.Df K mg "_law_yard_text" jN zl6 f fd)(aMU:oS P w K mg z)(aMW:oO P w K mg z)(T:Bt mg):p9 P w K mg z:=by
 refine⟨f,fd,Df,b8 Df b7 (λds M k h=>?_) (λ_ _ _ _ _ _ hr ds M k h=>?_)⟩
 ·obtain⟨p,b,rfl,_⟩:=h;rfl
 obtain⟨p,b,rfl,hF0,hb,hk⟩:=h
 refine aD (aK 1 b7.nd (aQ aMW hr (aN aI (bW (y3 (y3 (y3 (y3 (y3 (aC ⟨(show 5<=sizeLine by decide),(aQ aMU hr (y3 (aC ⟨p,_,_,rfl,by decide,by decide,hF0,by omega,λz1 M1 z10 z11 hF1 hB1 hE1 => ?_⟩)).3.5.3)⟩)).3).3).3).3).3)).3.5.3))
 obtain⟨n,hn,n2,n13⟩:=aDX z10 z11
 refine aP '&' hn (aC ⟨p,_,n,rfl,hF1,by omega,n2,n13,λxs Ma wx hFa hBa => ?_⟩)
 refine aD (aK 2 b7.nd (aQ aMW hr (aN aI (bW (y3 (y3 (y3 (y3 (y3 (aC ⟨(show 5<=sizeLine by decide),(aQ aMU hr (y3 (aC ⟨p,_,_,rfl,by decide,by decide,hFa,by omega,λz2 M2 z20 z21 hF2 hB2 hE2 => ?_⟩)).3.5.3)⟩)).3).3).3).3).3)).3.5.3))
 obtain⟨m,hm,m2,m13⟩:=aCV z20 z21
 refine aP '&' hm (aC ⟨p,_,m,rfl,hF2,by omega,m2,m13,λys Mb wy hFb hBb => ?_⟩)
 have hB4:=((hB1.trans hBa).trans hB2).trans hBb
 have lx:xs.length=n:=wx.n
 have ly:ys.length=m:=wy.n
 refine aD (aK 3 b7.nd (tJ (aC ⟨(show 0<=sizeLine by decide),λa ha => ?_⟩)))
 have hap:a≠p:=hFb.ne ha
 have haM:M a=none:=hB4.none_of ha hap
 have lys:(cutD (ys.map D.str) (1).4 none).length=ys.length-1:=by rw[jA,ku,zLm]
 have lxs:(cutD (xs.map D.str) (1).4 none).length=xs.length-1:=by rw[jA,ku,zLm]
 refine aD (m6 (cB (a9 dC (aB 2 rfl (bA (y3 ⟨_,rfl,(bM (d6 '&' ⟨_, .inr (.inl rfl),(⟨λi Γ' M'=>∃(zs:List Str) (v4:Option D),Γ'=[some (.mt p),some (.lst (xs.map .str)),some (.lst (ys.map .str)),some (.mt a),v4,none,none,none]/\M' a=some (.lst (zs.map .str))/\FdM M' p (b+130+13*i)/\cG p M M'/\zs.length=i/\∀w∈zs,Bd w 12 0,⟨[],_,rfl,aW,(hFb.new hap).mono '!',hB4.new haM,rfl,λz hz=>(nomatch hz)⟩,?_,?_⟩)⟩))⟩))))))
 ·rintro i d Γ' M' hd ⟨zs,v4,rfl,hM,hF,hB,hl,hg⟩
  have hi:i<ys.length-1:=by rw[<- lys];exact (zGs hd).1
  refine eH 4 b7.nd (aF (yY (c6 vi tm tj lZ (aB 3 rfl (⟨⟨rfl,_,hM⟩,aA (c6 jj vx vw iP (ge_str ⟨rfl,aA (bJ zl6 [0] (cB (a9 dC (bA (y3 ⟨_,rfl,(bM (d6 '&' ⟨_, .inr (.inl rfl),(cU (by rw[lxs];exact R.aJ '!') (λi2 acc M2=>∃qs:List Nat,acc=(qs.map λc=>(⟨#[c]⟩:Str)).map D.str/\(∀c∈qs,c=35\/c=46)/\qs.length=i2/\FdM M2 p (b+130+13*i+i2)/\cG p M M2/\M2 a=some (.lst (zs.map .str))) ⟨[],rfl,λc hc=>(nomatch hc),rfl,hF.mono '!',hB,hM⟩ ?_ ?_)⟩))⟩)).6)))⟩))⟩)))))
  ·rintro i2 d2 acc M2 hd2 ⟨qs,rfl,hqs,hl2,hF2',hB2',hM2⟩ _ _ _ _ _
   have hi2:i2<xs.length-1:=by rw[<- lxs];exact (zGs hd2).1
   refine bB (aZ λ_ _ _ _ _=>(aN aI (ge_str (aG tD (aQ aMU hr (y3 (aC ⟨p,_,_,rfl,by decide,by decide,hF2',by omega,λz4 M4 z40 z41 hF4 hB4' hE4 => ?_⟩)).3.6.3)))))
   obtain⟨c,hc,hc2⟩:=aI7 z40 z41
   refine y3 (cK ⟨by decide,by decide⟩ (kY '-' hc ⟨qs++[c],by rw[qg,qg];rfl,λq hq => ?_,by rw[ql,hl2];rfl,hF4.mono '!',hB2'.trans hB4',hB4' a _ hap hM2⟩))
   rcases kv.mp hq with hq|hq
   ·exact hqs q hq
   ·rw[vb] at hq
    rw[hq]
    exact hc2
  rintro acc M2 ⟨qs,rfl,hqs,hl2,hF2',hB2',hM2⟩
  rw[lxs] at hl2 hF2'
  refine aC (iR '&' '-' (by rw[aHJ,zLm];omega) (aC (tR hM2 (by rw[zLm,hl];exact zz (show i<=50 by omega) '*') ?_)))
  rw[R.jX,R.sP]
  refine⟨zs++[R.ofL qs],_,rfl,by rw[aW,qg];rfl,(hF2'.new hap).mono '!',hB2'.new haM,by rw[ql,hl];rfl,λw hw => ?_⟩
  rcases kv.mp hw with hw|hw
  ·exact hg w hw
  ·rw[vb] at hw
   rw[hw]
   exact aE5 hqs '!'
 rintro Γ' M' ⟨zs,v4,rfl,hM,hF,hB,hl,hg⟩
 rw[lys] at hl hF
 refine fT 3 rfl hM ?_
 have hF5:=hF.del hap
 have hB5:=hB.del haM
 refine aD (aK 5 b7.nd (aQ aMU hr (y3 (aC ⟨p,_,_,rfl,by decide,by decide,hF5,by omega,λz3 M3 z30 z31 hF3 hB3 hE3 => ?_⟩)).3.5.3))
 have hB6:=hB5.trans hB3
 refine aD (eT (λΓ' M'=>∃zs':List Str,Γ'=[some (.mt p),some (.lst (xs.map .str)),some (.lst (ys.map .str)),some (.lst (zs'.map .str)),v4,some (.int z3),none,none]/\FdM M' p (b+450)/\cG p M M'/\zs'.length<=12/\∀w∈zs',Bd w 12 0) (aX ?_) ?_)
 ·refine aR bS (aB 5 rfl (y3 (cL ⟨_,rfl,(ite2 (λh1=>aF (aK 3 b7.nd (a9 dC (aB 3 rfl (bA (y3 ⟨_,rfl,(bM (d6 '&' ?_))⟩)))))) (λh1=>aT ⟨zs,rfl,hF3.mono '!',hB6,by omega,hg⟩))⟩)))
  rw[jA,<- ng]
  exact⟨zs.drop 1,rfl,hF3.mono '!',hB6,by rw[ku];omega,λw hw=>hg w (Jb hw)⟩
 rintro Γ' M4 ⟨za,rfl,hFc,hBc,la,ga⟩
 refine aD (eT (λΓ' M'=>∃zs':List Str,Γ'=[some (.mt p),some (.lst (xs.map .str)),some (.lst (ys.map .str)),some (.lst (zs'.map .str)),v4,some (.int z3),none,none]/\FdM M' p (b+450)/\cG p M M'/\zs'.length<=13/\∀w∈zs',Bd w 12 0) (aX ?_) ?_)
 ·refine aR bS (aB 5 rfl (y3 (cL ⟨_,rfl,(ite2 (λh1=>aF (aK 3 b7.nd ?_)) (λh1=>aT ⟨za,rfl,hFc,hBc,by omega,ga⟩))⟩)))
  have ec:cutD (za.map D.str) none (1).4=(za.take 1).map .str:=by rw[show (1:Int).4=some ((1:Nat):Int) from rfl,zD,Qz]
  refine aG c9 (aB 3 rfl (a9 dC (aB 3 rfl (bM (bA (y3 ⟨_,rfl,(d6 '&' (c8 '&' '&' (by rw[ec,zLm,zLm,xn];exact R.aJ '!') ?_))⟩))))))
  rw[ec,<- qg]
  exact⟨za++za.take 1,rfl,hFc,hBc,by rw[ql,xn];omega,λw hw=>by
   rcases kv.mp hw with hw|hw
   ·exact ga w hw
   ·exact ga w (List.mem_of_mem_take hw)⟩
 rintro Γ' M5 ⟨zb,rfl,hFd,hBd',lb,gb⟩
 refine aD (eT (λΓ' M'=>∃zs':List Str,Γ'=[some (.mt p),some (.lst (xs.map .str)),some (.lst (ys.map .str)),some (.lst (zs'.map .str)),v4,some (.int z3),none,none]/\FdM M' p (b+450)/\cG p M M'/\zs'.length<=13/\∀w∈zs',Bd w 13 0) (aX ?_) ?_)
 ·refine aR bS (aB 5 rfl (y3 (cL ⟨_,rfl,(ite2 (λh1=>aD (fA 3 [] [] b7.nd (cB (aB 3 rfl ⟨_, .inr (.inl rfl),(lO (by rw[zLm];exact R.aJ '!') (λi acc M'=>M'=M5/\∃us:List Str,acc=us.map .str/\us.length=i/\∀w∈us,Bd w 13 0) ⟨rfl,[],rfl,rfl,λw hw=>(nomatch hw)⟩ ?_ ?_)⟩)))) (λh1=>aT ⟨zb,rfl,hFd,hBd',lb,λw hw=>(gb w hw).mono '!' '!'⟩))⟩)))
  ·rintro i d acc M' hd ⟨rfl,us,rfl,hu,hus⟩ _ _ _ _ _
   obtain⟨w,hw,rfl⟩:=cD hd
   have bw:=gb w (zMo hw)
   have lw:=bw.l
   refine bB (aZ λ_ _ _ _ _=>(aG bF (ge_str (cF (R.aJ (by rw[show ("#" : Str).length=1 by decide +kernel];omega)) ⟨rfl,us++[_],by rw[qg];rfl,by rw[ql,hu];rfl,λx hx => ?_⟩)).5))
   rcases kv.mp hx with hx|hx
   ·exact hus x hx
   ·rw[vb] at hx
    rw[hx]
    exact bw.cat (oR (L:=1) (B:=0) '-')
  rintro acc M' ⟨rfl,us,rfl,hu,hus⟩ c hc
  rw[zLm] at hu
  refine fT 3 rfl aW (aT ?_)
  rw[gL hc]
  exact⟨us,rfl,hFd,hBd',by omega,hus⟩
 rintro Γ' M6 ⟨zc,rfl,hFe,hBe,lc,gc⟩
 refine aD (eT (λΓ' M'=>∃zs':List Str,Γ'=[some (.mt p),some (.lst (xs.map .str)),some (.lst (ys.map .str)),some (.lst (zs'.map .str)),v4,some (.int z3),none,none]/\FdM M' p (b+450)/\cG p M M'/\zs'.length<=13/\∀w∈zs',Bd w 13 0) (aX ?_) ?_)
 ·refine aR bS (aB 5 rfl (y3 (cL ⟨_,rfl,(ite2 (λh1=>aD (fA 3 [] [] b7.nd (cB (aB 3 rfl ⟨_, .inr (.inl rfl),(lO (by rw[zLm];exact R.aJ '!') (λi acc M'=>M'=M6/\∃us:List Str,acc=us.map .str/\us.length=i/\∀w∈us,Bd w 13 0) ⟨rfl,[],rfl,rfl,λw hw=>(nomatch hw)⟩ ?_ ?_)⟩)))) (λh1=>aT ⟨zc,rfl,hFe,hBe,lc,gc⟩))⟩)))
  ·rintro i d acc M' hd ⟨rfl,us,rfl,hu,hus⟩ _ _ _ _ _
   obtain⟨w,hw,rfl⟩:=cD hd
   have bw:=gc w (zMo hw)
   have lw:=bw.l
   refine bB (aZ λ_ _ _ _ _=>(aG pX (ge_str (aO a6 T.len qz (aC (eM (R.aJ '!') (p7 '!' '!' (R.aJ (by rw[show ("." : Str).length=1 by decide +kernel];omega)) ⟨rfl,us++[_],by rw[qg];rfl,by rw[ql,hu];rfl,λx hx => ?_⟩))).5.3))))
   rcases kv.mp hx with hx|hx
   ·exact hus x hx
   ·rw[vb] at hx
    rw[hx]
    exact aKK '!'
  rintro acc M' ⟨rfl,us,rfl,hu,hus⟩ c hc
  rw[zLm] at hu
  refine fT 3 rfl aW (aT ?_)
  rw[gL hc]
  exact⟨us,rfl,hFe,hBe,by omega,hus⟩
 rintro Γ' M7 ⟨zd,rfl,hFf,hBf,ld,gd⟩
 have w1:Wb xs 13 270 1:=⟨by omega,wx.l,wx.b⟩
 have w2:Wb ys 13 270 1:=⟨by omega,wy.l,wy.b⟩
 have w3:Wb zd 13 169 0:=aBR gd ld
 have w4:Wb [(";" : Str)] 1 1 0:=⟨by decide,by decide +kernel,by decide +kernel⟩
 have w5:Wb [("void" : Str)] 1 4 0:=⟨by decide,by decide +kernel,by decide +kernel⟩
 have w6:Wb (zd.drop 1) 13 169 0:=aBR (λw hw=>gd w (Jb hw)) (by rw[ku];omega)
 have q1:Wb (xs++[(";" : Str)]++ys++[(";" : Str)]++zd) 42 720 2:=((((w1.app w4).app w2).app w4).app w3).mono '!' '!' '!'
 have q2:Wb (xs++[(";" : Str)]++ys++zd) 42 720 2:=(((w1.app w4).app w2).app w3).mono '!' '!' '!'
 have q3:Wb (xs++[(";" : Str)]++ys++[(";" : Str)]++zd++[(";" : Str)]) 42 720 2:=(((((w1.app w4).app w2).app w4).app w3).app w4).mono '!' '!' '!'
 have q4:Wb ([("void" : Str)]++zd.drop 1) 42 720 2:=(w5.app w6).mono '!' '!' '!'
 have l1:(xs.map D.str).length=xs.length:=zLm ..
 have l2:(ys.map D.str).length=ys.length:=zLm ..
 have l3:(zd.map D.str).length=zd.length:=zLm ..
 refine aD (aK 6 b7.nd (aG c9 (aG c9 (aG c9 (aG c9 (bW (ge_str (aC ⟨(show 1<=sizeLine by decide),(aB 2 rfl (bW (ge_str (aC ⟨(show 1<=sizeLine by decide),(aB 3 rfl ?_.14).14⟩)).3).14).14⟩)).3).6)))))
 have e1:xs.map D.str++[D.str (";" : Str)]++ys.map D.str++[D.str (";" : Str)]++zd.map D.str=(xs++[(";" : Str)]++ys++[(";" : Str)]++zd).map D.str:=by simp only[qg,jw,df]
 have e2:xs.map D.str++[D.str (";" : Str)]++ys.map D.str++zd.map D.str=(xs++[(";" : Str)]++ys++zd).map D.str:=by simp only[qg,jw,df]
 have e3:(xs++[(";" : Str)]++ys++[(";" : Str)]++zd).map D.str++[D.str (";" : Str)]=(xs++[(";" : Str)]++ys++[(";" : Str)]++zd++[(";" : Str)]).map D.str:=by simp only[qg,jw,df]
 have e4:[D.str ("void" : Str)]++cutD (zd.map D.str) (1).4 none=([("void" : Str)]++zd.drop 1).map D.str:=by rw[jA,<- ng,qg];rfl
 rw[e1]
 have l4:((xs++[(";" : Str)]++ys++[(";" : Str)]++zd).map D.str).length<=42:=by rw[zLm];exact q1.n
 have l5:(cutD (zd.map D.str) (1).4 none).length<=13:=by rw[jA,ku,zLm];omega
 refine aD (aK 7 b7.nd (bW (aB 6 rfl (aG c9 (aG c9 (aG c9 (bW (ge_str (aC ⟨(show 1<=sizeLine by decide),(aB 2 rfl (aB 3 rfl (aG c9 (aB 6 rfl (bW (ge_str (aC ⟨(show 1<=sizeLine by decide),(aG c9 (bW ?_)).3.14⟩)).3))).3.14).14).14⟩)).3).6))).3).3))
 refine aA (ge_str (aC ⟨(show 1<=sizeLine by decide),(a9 dC (aB 3 rfl (bA (y3 ⟨_,rfl,(bM (d6 '&' (aB 6 rfl (aC ⟨(show 5<=sizeLine by decide),?_⟩)).3.14))⟩))))⟩))
 rw[e2,e3,e4]
 refine aF (aH (c6 jj vx vw iP (ge_str ⟨rfl,(aN aI (aB 7 rfl (aQ aMU hr (y3 (aC ⟨p,_,_,rfl,by decide,by decide,hFf,by omega,λz9 M9 z90 z91 hF9 hB9 hE9 => ?_⟩)).3.5.3))).3⟩)))
 obtain⟨ws,hws,bws⟩:=aC6 q1 q2 q3 q4 q1 z90 z91
 refine aP '&' hws (aC ?_)
 have lw1:=bws.n
 have lw2:=bws.l
 exact iR '&' '-' '!' (hk _ _ (bws.join.mono '!' '!') (hF9.mono '!') (hBf.trans hB9))
theorem yF:FnScope zl11 zl11 (aL kF):=zSc
abbrev rH(P w K mg z):=Fo P w K mg z "_law_is_count" kF zl11 1 aI0
theorem yO(Df:R.Df K mg "_law_is_count" kF zl11 f fd)(T:Bt mg):rH P w K mg z:=by
 refine⟨f,fd,Df,b8 Df yF (λds M k h=>?_) (λ_ _ _ _ _ _ hr ds M k h=>?_)⟩
 ·obtain⟨z,rfl,_⟩:=h;rfl
 obtain⟨z,rfl,hl,hk⟩:=h
 refine aD (aX (aDJ (B:=nQ z) (eG (dF ?_)) (ite2 (λhb=>aF (aH ?_)) (λhb=>aT ?_))))
 ·refine aR pS (aO a6 T.len qz (aC (eM (R.aJ '!') (y3 (gJ ⟨_,rfl,(ite2 (λh1=>⟨?_,rfl⟩) (λh1=>dF ?_))⟩)))).5.3)
  ·have:=of_decide_eq_true h1
   unfold nQ
   rw[decide_eq_true (show z.length<1 by omega)]
   rfl
  have h1:¬(z.length:Int)<1:=λq=>h1 (decide_eq_true q)
  have b1:nQ z=(decide (z.length>60)||(decide (z.cps.toList[0]?=some 48)&&decide (z.length>1))):=by
   unfold nQ
   rw[decide_eq_false (show ¬z.length<1 by omega),Ks]
  rw[b1]
  refine aR n8 (aO a6 T.len qz (aC (eM (R.aJ '!') (y3 (gJ ⟨_,rfl,(ite2 (λh2=>⟨?_,rfl⟩) (λh2=>dR (eG (aDE ?_))))⟩)))).5.3)
  ·have:=of_decide_eq_true h2
   rw[decide_eq_true (show z.length>60 by omega)]
   rfl
  have h2:¬(z.length:Int)>60:=λq=>h2 (decide_eq_true q)
  rw[decide_eq_false (show ¬z.length>60 by omega),Ks]
  obtain⟨c,hc0,hc⟩:=aBZ (z:=z) '!'
  refine aR bS (aN aI (y3 (kY (R.aJ '!') hc (ge_str (gF ⟨_,rfl,?_⟩)))).5)
  rw[yJ,hc0]
  refine ite2 (λh3=>aAA ?_) (λh3=>⟨?_,rfl⟩)
  ·refine aR n8 (aO a6 T.len qz (aC (eM (R.aJ '!') (y3 (gJ ⟨_,rfl,⟨?_,rfl⟩⟩)))).5.3)
   rw[h3,nh]
   exact decide_eq_decide.mpr '!'
  ·rw[show decide (some c=some 48)=false by simpa using h3,Kj]
 ·exact bK (hk false ⟨(λq=>nomatch q),λd=>absurd d (aH3 hb)⟩)
 have hb:nQ z=false:=by simpa using hb
 refine aF (aH (aO (gE rfl) T.all R.BAll (bJ [] [] (q8 ⟨_,rfl,(cU (by rw[fE];exact R.aJ '!') (λi acc M'=>M'=M/\acc=((z.cps.toList.take i).map λc=>decide (c∈("0123456789" : Str).cps.toList)).map D.bl) ⟨rfl,rfl⟩ ?_ ?_)⟩.5)).3))
 ·rintro i d acc M' hd2 ⟨rfl,rfl⟩ _ _ _ _ _
  obtain⟨c,hc,rfl⟩:=cD hd2
  refine bB (aZ λ_ _ _ _ _=>(dA jP (ge_str (lA ⟨rfl,?_⟩)).5))
  rw[zj,pk,cI hc,qg]
  rfl
 rintro acc M' ⟨rfl,rfl⟩
 refine aC (gY '&' (hk _ (mL ?_ hb)))
 rw[fE,km (by rw[qa];exact qj _),jV]
theorem cM:FnScope ["_law_text", "_law_first", "_law_stroke", "_law_second", "_law_figures", "_law_one", "_law_other"] zl11 (aL iX):=zSc
abbrev lI(P w K mg z):=Fo P w K mg z "_law_is_number" iX zl11 2 aIG
theorem u6(Df:R.Df K mg "_law_is_number" iX zl11 f fd)(aMX:rH P w K mg z)(T:Bt mg):lI P w K mg z:=by
 refine⟨f,fd,Df,b8 Df cM (λds M k h=>?_) (λ_ _ _ _ _ _ hr ds M k h=>?_)⟩
 ·obtain⟨z,rfl,_⟩:=h;rfl
 obtain⟨z,rfl,hl,hk⟩:=h
 obtain⟨a,u,v,e1,la,lv,huv⟩:=parts2 z
 have nif:=aHQ huv
 refine aD (mQ (c6 jj yu cv tE ⟨rfl,(ge_str (aC (sF '-' (R.aJ '!') ?_))).3⟩.5))
 rw[e1]
 dsimp only
 refine aDQ rfl (jC (eH 1 cM.nd (jC (eH 2 cM.nd (jC (eH 3 cM.nd (zI (aD (aK 4 cM.nd ?_.6)))))))))
 have lf:=xE a
 refine aD (eT (λΓ' M'=>M'=M/\Γ'=[some (.str z),some (.str a),some (.str u),some (.str v),some (.str (figs a)),none,none]) (aX ?_) ?_)
 ·refine aR bS (a9 fX (bM (bA (y3 ⟨_,rfl,(fU (R.aJ '!') (ge_str (gF ⟨_,rfl,?_⟩)))⟩))).6)
  rw[aK9]
  refine ite2 (λh1=>aF (aK 4 cM.nd ?_)) (λh1=>aT ⟨rfl,?_⟩)
  ·refine a9 fX (bA (y3 ⟨_,rfl,(bM (fU (R.aJ '!') ?_))⟩)).6
   rw[wX h1]
   exact⟨rfl,rfl⟩
  ·rw[show figs a=a by unfold figs;rw[if_neg h1]]
   rfl
 rintro Γ' M' ⟨rfl,rfl⟩
 refine aD (aX (eG (dF (b6 (bU (aQ aMX hr (aB 4 rfl (aC ⟨_,rfl,by omega,λb1 hb1 => ?_⟩)).3))))))
 refine⟨_,rfl,(ite2 (λh1=>aZ (aF (aH ?_))) (λh1=>dR ?_))⟩
 ·exact bK (hk false ⟨(λq=>nomatch q),λd=>absurd (hb1.mpr (nif.mp d).1.1) (by simpa using h1)⟩)
 have d1:Cnt (figs a):=hb1.mp (by simpa using h1)
 refine aR bS (ge_str (gF ⟨_,rfl,(ite2 (λh2=>aF (aH ?_)) (λh2=>aT ?_))⟩)).6
 ·exact bK (hk false ⟨(λq=>nomatch q),λd=>absurd (of_decide_eq_true h2) (nif.mp d).1.2⟩)
 have d2:a≠("-0" : Str):=λq=>h2 (decide_eq_true q)
 refine aD (aX (aR bS (aB 2 rfl (ge_str (gF ⟨_,rfl,(ite2 (λh3=>aF (aH ?_)) (λh3=>aT ?_))⟩)))))
 ·exact bK (hk true ⟨λ_=>nif.mpr ⟨⟨d1,d2⟩,λq=>absurd (of_decide_eq_true h3) q⟩,λ_=>rfl⟩)
 have d3:u≠ja:=λq=>h3 (decide_eq_true q)
 refine aD (aX (eG (dF (b6 (bU (aQ aMX hr (aB 3 rfl (aC ⟨_,rfl,by omega,λb2 hb2 => ?_⟩)).3))))))
 refine⟨_,rfl,(ite2 (λh4=>aZ (aF (aH ?_))) (λh4=>dR (aR pS (aY fN T.int R.BI ?_))))⟩
 ·exact bK (hk false ⟨(λq=>nomatch q),λd=>absurd (hb2.mpr ((nif.mp d).2 d3).1) (by simpa using h4)⟩)
 have d4:Cnt v:=hb2.mp (by simpa using h4)
 obtain⟨r1,w1⟩:=jY d1.1
 obtain⟨r2,w2⟩:=jY d4.1
 have l1:=d1.1.le
 have l2:=d4.1.le
 refine aA (aB 3 rfl (aC (iK r2 '!' (y3 (gJ ⟨_,rfl,(ite2 (λh5=>aF (aH ?_)) (λh5=>aT ?_))⟩)))))
 ·refine bK ?_
  have:=of_decide_eq_true h5
  exact hk false ⟨(λq=>nomatch q),λd=>absurd ((nif.mp d).2 d3).2.1 '!'⟩
 have d5:2<=xr v.cps.toList:=by
  have:¬((xr v.cps.toList:Nat):Int)<2:=λq=>h5 (decide_eq_true q)
  omega
 refine aD (aK 5 cM.nd (aY fN T.int R.BI (aB 4 rfl (aC (iK r1 '!' (aD (aK 6 cM.nd (aY fN T.int R.BI (aB 3 rfl (aC (iK r2 '!' ?_))).3)))))).3))
 generalize xr v.cps.toList=n at *
 generalize xr (figs a).cps.toList=m at *
 refine aD (vM (λc Γ' M1=>M1=M'/\∃x y:Int,Γ'=[some (.str z),some (.str a),some (.str u),some (.str v),some (.str (figs a)),some (.int x),some (.int y)]/\0<=x/\0<=y/\ve x y=ve m n/\c=y.natAbs) (n:=n) ⟨rfl,m,n,rfl,by omega,by omega,rfl,by omega⟩ ?_)
 rintro c Γ' M1 ⟨rfl,x,y,rfl,hx,hy,hgx,rfl⟩
 refine aR n8 (aB 6 rfl (y3 (gJ ⟨_,rfl,(ite2 (λh6 => ?_) (λh6 => ?_))⟩)))
 ·have hy0:=of_decide_eq_true h6
  refine aF (aJQ 5 6 cM.nd '*' (aB 6 rfl (aG zH (aB 5 rfl (aB 6 rfl (cK (show y≠0 by omega) (aC ⟨_,_,rfl,_,Num.zQ x y '!',rfl,_,_,rfl,by omega,?_,?_,rfl⟩))))).3).3)
  ·rw[Qp _ '!'];exact zy _ '!'
  ·rw[Num.vY];exact hgx
 ·have hy0:y=0:=by
   have:¬y>0:=λq=>h6 (decide_eq_true q)
   omega
  subst hy0
  rw[JJ] at hgx
  refine aF (aH (dA bS (aB 5 rfl (y3 (cL (hk _ ⟨λq=>nif.mpr ⟨⟨d1,d2⟩,λ_=>⟨d4,d5,?_⟩⟩,λd=>decide_eq_true ?_⟩))))))
  ·have:=of_decide_eq_true q
   rw[<- hgx,this];rfl
  ·have:=((nif.mp d).2 d3).2.2
   omega
theorem n6:FnScope ["_law_text", "_law_first", "_law_stroke", "_law_second"] zl11 (aL pP):=zSc
abbrev zM(P w K mg z):=Fo P w K mg z "_law_value" pP zl11 1 aJY
theorem aFL(Df:R.Df K mg "_law_value" pP zl11 f fd)(T:Bt mg):zM P w K mg z:=by
 refine⟨f,fd,Df,b8 Df n6 (λds M k h=>?_) (λ_ _ _ _ _ _ hr ds M k h=>?_)⟩
 ·obtain⟨q,rfl,_⟩:=h;rfl
 obtain⟨q,rfl,hq,hk⟩:=h
 have hd:((q.den:Int)).natAbs<10^60:=by rw[vq];exact hq.b
 obtain⟨r1,l1,_⟩:=eN hq.a
 obtain⟨r2,l2,_⟩:=eN hd
 have ln:=xV hq
 refine aD (mQ (c6 jj yu cv tE ⟨rfl,(ge_str (aC (sF '-' (R.aJ '!') ?_))).3⟩.5))
 obtain⟨u,v,e1,e2,e3,huv⟩:∃u v:Str,(cV (nT q) ("/" : Str)).1=iT q.num/\(cV (nT q) ("/" : Str)).2.1=u/\(cV (nT q) ("/" : Str)).2.2=v/\(u≠ja/\v=iT (q.den:Int)\/u=ja/\q.den=1):=by
  rw[kK hq]
  by_cases z:q.den=1
  ·rw[if_pos z]
   exact⟨ja,ja,rfl,rfl,rfl, .inr ⟨rfl,z⟩⟩
  ·rw[if_neg z]
   exact⟨_,_,rfl,rfl,rfl, .inl ⟨(show ("/" : Str)≠ja by decide +kernel),rfl⟩⟩
 rw[e1,e2,e3]
 refine aDQ rfl (jC (eH 1 n6.nd (jC (eH 2 n6.nd (jC (eH 3 n6.nd (zI (aD (aX (aR bS (aB 2 rfl (ge_str (gF ⟨_,rfl,(ite2 (λh1=>aF (aH (cP (aY fN T.int R.BI ?_).3))) (λh1=>aT (aF (aH (cP (aY fN T.int R.BI ?_).3)))))⟩)))))))))))))
 ·refine aA (aC (iK r1 '!' (y3 (aC ⟨'.',?_⟩)).3)).6
  rcases huv with ⟨q1,_⟩|⟨_,q2⟩
  ·exact absurd (of_decide_eq_true h1) q1
  ·have e:fR q = .tup [.int q.num, .int 1]:=by show D.tup [.int q.num, .int (q.den:Int)]=_;rw[q2];rfl
   rw[e] at hk
   exact hk
 ·refine aA (aC (iK r1 '!' (aY fN T.int R.BI (aB 3 rfl (aC ?_)).3).3)).6
  rcases huv with ⟨_,rfl⟩|⟨q1,_⟩
  ·exact iK r2 '!' (aC ⟨'.',hk⟩)
  ·exact absurd (decide_eq_true q1) h1
theorem l6:FnScope ["_law_words", "_law_found", "_law_k", "_law_one"] ["_law_words"] (aL nO):=zSc
abbrev yC(P w K mg z):=Fo P w K mg z "_law_rising" nO ["_law_words"] 2 aEF
theorem aDY(Df:R.Df K mg "_law_rising" nO ["_law_words"] f fd)(aMY:zM P w K mg z)(T:Bt mg):yC P w K mg z:=by
 refine⟨f,fd,Df,b8 Df l6 (λds M k h=>?_) (λ_ _ _ _ _ _ hr ds M k h=>?_)⟩
 ·obtain⟨qs,rfl,_⟩:=h;rfl
 obtain⟨qs,rfl,hq,hl,hk⟩:=h
 have ml:((qs.map nT).map D.str).length=qs.length:=by rw[zLm,zLm]
 refine aD (fA 1 [] [] l6.nd (cB ⟨_, .inr (.inl rfl),(lO (by rw[ml];exact R.aJ '!') (λi acc M'=>M'=M/\acc=aS (qs.take i)) ⟨rfl,rfl⟩ ?_ ?_)⟩.5))
 ·rintro i d acc M' hd ⟨rfl,rfl⟩ _ _ _ _ _
  obtain⟨x,hx,rfl⟩:=cD hd
  obtain⟨q,hq',rfl⟩:=cD hx
  refine bB (aZ λ_ _ _ _ _=>(aQ aMY hr (aC ⟨q,rfl,hq q (zMo hq'),⟨rfl,?_⟩⟩).5.3))
  rw[take_snoc hq',<- rC]
  rfl
 rintro acc M ⟨rfl,rfl⟩ a ha
 rw[ml,jg]
 refine fT 1 rfl aW ?_
 rw[gL ha]
 refine aD (m6 (sV T.range (y3 (aO a6 T.len qz (aC (cX '&' (aC ?_))).6.3).3).3))
 rw[bY]
 refine⟨1,_,rfl,⟨by decide,by decide,by omega,by omega⟩,(⟨λi Γ' M'=>M'=M/\(∀j (h:j+1<qs.length),j<i->qs[j]<qs[j+1])/\∃v2 v3,Γ'=[some (.lst ((qs.map nT).map .str)),some (.lst (aS qs)),v2,v3],⟨rfl,λj _ h=>absurd h (ll _),_,_,rfl⟩,?_,?_⟩)⟩
 ·rintro i d Γ' M' hd ⟨rfl,hI,v2,v3,rfl⟩
  obtain⟨hi,rfl⟩:=fB hd
  have hi1:i+1<qs.length:=by omega
  have b1:=(hq _ (vh (show i<qs.length by omega)))
  have b2:=(hq _ (vh hi1))
  have e0:∀j (h:j<qs.length),(aS qs)[j]?=some (fR qs[j]):=λj h=>by unfold aS;rw[qk,zGe h];rfl
  refine eH 2 l6.nd (aD (aK 3 l6.nd (aN aI (aG eW (aB 2 rfl (y3 (bT (aP '&' (by rw[show (1:Int)+(i:Int)-1=(i:Int) by omega];exact dB (e0 i '!')) ?_))))).6)))
  have ek:atI (aS qs) (1+(i:Int))=some (fR qs[i+1]):=by rw[show (1:Int)+(i:Int)=((i+1:Nat):Int) by omega];exact dB (e0 _ hi1)
  have k60:(10:Nat)^60<10^400:=by decide +kernel
  have cb:∀{x y:Rat},Sm x->Sm y->x.num.natAbs<big/\((y.den:Int)).natAbs<big:=λhx hy=>⟨big400 (dj hx.a k60),big400 (by rw[vq];exact dj hy.b k60)⟩
  refine aF (aX (aR aGH (aG mU (aN aI (aB 3 rfl (y3 (aP (.tup _) rfl (aN aI (aN aI (aB 2 rfl (aP '&' ek (y3 (aP (.tup _) rfl (cK (cb b1 b2) (aG mU (aN aI (aN aI (aB 2 rfl (aP '&' ek (y3 (aP (.tup _) rfl (aN aI (aB 3 rfl (y3 (aP (.tup _) rfl (cK (cb b2 b1) (gJ ⟨_,rfl,?_⟩)))))))))).6)))))))).6)))))))))
  have lt:=aBV qs[i] qs[i+1]
  unfold ltP at lt
  have lt':qs[i].num*(qs[i+1].den:Int)<qs[i+1].num*(qs[i].den:Int)↔qs[i]<qs[i+1]:=decide_eq_decide.mp lt
  refine ite2 (λh1=>aF (aH ?_)) (λh1=>aT ⟨rfl,λj hj hji => ?_,_,_,rfl⟩)
  ·refine bK ?_
   have:qs[i].num*(qs[i+1].den:Int)≥qs[i+1].num*(qs[i].den:Int):=of_decide_eq_true h1
   exact hk false ⟨(λq=>nomatch q),λu=>absurd (lt'.mpr ((U.nY u '!' hi1).mpr '!')) '!'⟩
  ·rcases QZ j i with h|h
   ·exact hI j hj h
   ·have e:j=i:=by omega
    subst e
    refine lt'.mp ?_
    have:¬qs[j].num*(qs[j+1].den:Int)≥qs[j+1].num*(qs[j].den:Int):=λq=>h1 (decide_eq_true q)
    omega
 rintro Γ' M' ⟨rfl,hI,v2,v3,rfl⟩
 rw[bX] at hI
 exact aF (aH (bK (hk true ⟨λ_=>wF λi h=>hI i h '!',λ_=>rfl⟩)))
theorem zY:FnScope ["_law_rows", "_law_k"] ["_law_rows"] (aL sD):=zSc
abbrev aDV(P w K mg z):=Fo P w K mg z "_law_tidy" sD ["_law_rows"] 1 aKX
theorem aHR(Df:R.Df K mg "_law_tidy" sD ["_law_rows"] f fd)(T:Bt mg):aDV P w K mg z:=by
 refine⟨f,fd,Df,b8 Df zY (λds M k h=>?_) (λ_ _ _ _ _ _ hr ds M k h=>?_)⟩
 ·obtain⟨n,K,rfl,_⟩:=h;rfl
 obtain⟨n,K,rfl,hK,g,hl,hn,hk⟩:=h
 have ti:=aEL g hK
 have k0:=ju.mpr hK
 have e0:∀j (h:j<K.length),(K.map D.str)[j]?=some (.str K[j]):=λj h=>by rw[qk,zGe h];rfl
 refine aD (m6 (sV T.range (y3 (aO a6 T.len qz (aC (cX '&' (aC ?_))).5.3).3).3))
 rw[zLm]
 refine⟨1,_,rfl,⟨by decide,by decide,by omega,by omega⟩,(⟨λi Γ' M'=>M'=M/\(∀j (h:j+1<K.length),j<i->K[j]≠K[j+1])/\∃v1,Γ'=[some (.lst (K.map .str)),v1],⟨rfl,λj _ h=>absurd h (ll _),_,rfl⟩,?_,?_⟩)⟩
 ·rintro i d Γ' M' hd ⟨rfl,hI,v1,rfl⟩
  obtain⟨hi,rfl⟩:=fB hd
  have hi1:i+1<K.length:=by omega
  refine eH 1 zY.nd (aF (aX (aR bS (aN aI (aP '&' (by rw[show (1:Int)+(i:Int)=((i+1:Nat):Int) by omega];exact dB (e0 _ hi1)) (aN aI (aG eW (y3 (bT (aP '&' (by rw[show (1:Int)+(i:Int)-1=(i:Int) by omega];exact dB (e0 i '!')) (gF ⟨_,rfl,(ite2 (λh1=>aF (aH ?_)) (λh1=>aT ⟨rfl,λj hj hji => ?_,_,rfl⟩))⟩)))).6).5)).6.5))))
  ·exact bK (hk false ⟨(λq=>nomatch q),λu=>absurd (of_decide_eq_true h1).symm ((ti.mp u).1 i _ _ (zGe '!') (zGe hi1))⟩)
  ·rcases QZ j i with h|h
   ·exact hI j hj h
   ·have e:j=i:=by omega
    subst e
    exact λq=>h1 (decide_eq_true q.symm)
 rintro Γ' M' ⟨rfl,hI,v1,rfl⟩
 rw[bX] at hI
 have ad:∀i u v,K[i]?=some u->K[i+1]?=some v->u≠v:=λi u v h1 h2=>by
  obtain⟨a1,rfl⟩:=zGs h1
  obtain⟨a2,rfl⟩:=zGs h2
  exact hI i a2 '!'
 obtain⟨r,x,rfl⟩:∃r x,K=r++[x]:=⟨_,_,(xi hK).symm⟩
 obtain⟨y,hy⟩:∃y,(r++[x]).head?=some y:=by cases r <;> exact⟨_,rfl⟩
 refine aF (aH (fV (dA jP (ge_str (aN aI (y3 (aP '&' (aE8 D.str hy) (lA ⟨_,rfl,?_⟩))).5)))))
 rw[yX]
 refine ite2 (λh1=>gD (dA jP ?_)) (λh1 => ?_)
 ·refine ge_str (aN aI (rO mX (y3 ⟨_,rfl,(aP '&' (by rw[qg];exact aF1 _ _) (lA (hk _ ?_)))⟩)).5)
  rw[yX,ti]
  refine⟨λq=>⟨ad,λw hw => ?_,λw hw => ?_⟩,λq=>decide_eq_true (q.2.2 x '$')⟩
  ·rw[hy] at hw
   obtain rfl:=qw hw
   exact of_decide_eq_true h1
  ·rw[List.getLast?_concat] at hw
   obtain rfl:=qw hw
   exact of_decide_eq_true q
 ·exact hk false ⟨(λq=>nomatch q),λu=>absurd (decide_eq_true ((ti.mp u).2.1 y hy)) h1⟩
theorem fF:FnScope ["_law_text", "_law_words", "_law_first", "_law_second", "_law_rows", "_law_lines", "_law_columns"] zl11 (aL j9):=zSc
abbrev rJ(P w K mg z):=Fo P w K mg z "_law_is_yard" j9 zl11 3 aFZ
theorem yH(Df:R.Df K mg "_law_is_yard" j9 zl11 f fd)(aMZ:lI P w K mg z)(aM0:yC P w K mg z)(aM1:aDV P w K mg z)(T:Bt mg):rJ P w K mg z:=by
 refine⟨f,fd,Df,b8 Df fF (λds M k h=>?_) (λ_ _ _ _ _ _ hr ds M k h=>?_)⟩
 ·obtain⟨z,rfl,_⟩:=h;rfl
 obtain⟨z,rfl,tx,hk⟩:=h
 have lz:=tx.len
 obtain⟨lw,hw⟩:=aAN tx
 refine aD (aK 1 fF.nd (c6 jj yi Ql uB ⟨rfl,(ge_str (aC ?_)).3⟩.5))
 rw[lE]
 refine uO '*' '!' (aD (aX (eG (dF (aR bS (ge_str (gF ⟨_,rfl,(ite2 (λh1=>aZ (aF (aH ?_))) (λh1=>dR (aR i8 (c6 vi fg Qg tQ ?_))))⟩)).5)))))
 ·refine dA bS (ge_str (gF ?_)).5
  rw[h1]
  exact hk true ⟨λ_=>⟨Yd.void,sv50,by rw[of_decide_eq_true h1];exact qI⟩,λ_=>rfl⟩
 have hv:z≠("void" : Str):=λe=>h1 (decide_eq_true e)
 refine aB 1 rfl ⟨rfl,(ge_str (aC (uC (y3 (jW ⟨_,rfl,(ite2 (λh2=>aF (aH ?_)) (λh2=>aT ?_))⟩))))).3⟩
 ·refine dA bS (ge_str (gF ?_)).5
  rw[show decide (z=("void" : Str))=false from decide_eq_false hv]
  refine hk false ⟨(λq=>nomatch q),λy=>absurd y (aAT hv λq => ?_)⟩
  rw[q] at h2
  exact absurd h2 '*'
 have hc:(wds z).count (";" : Str)=2:=by
  have:(((wds z).count (";" : Str):Nat):Int)=2:=by simpa using h2
  omega
 obtain⟨a,b,c,e,na,nb,nc⟩:=vX hc
 obtain⟨i1,i2,i3,i4,c1,c2,c3⟩:=zJ na nb e
 have yp:=λ{A:Yd}=>qR hv e na nb nc (A:=A)
 refine aD (aK 2 fF.nd (c6 vi xg zp (uI (n:=0) (R.units_le hr)) ⟨rfl,(ge_str (aC (uR (d := .str (";" : Str)) (j:=a.length) rfl (vP _) (by rw[qk,i1];rfl) (show decide ((";" : Str)=(";" : Str))=true from decide_eq_true rfl) (λm e hm he => ?_) (by rw[zLm];show (wds z).length<=_;omega) ?_))).3⟩.6))
 ·obtain⟨w,hw2,rfl⟩:=cD he
  exact (show decide (w=(";" : Str))=false from decide_eq_false (i2 m hm w hw2))
 refine aD (aK 3 fF.nd (c6 vi xg zp uG ⟨rfl,(ge_str (aG bV (aB 2 rfl (y3 (bT (aC ?_))))).3).3⟩.6))
 rw[show (a.length:Int)+1=((a.length+1:Nat):Int) by omega]
 refine uF (j:=a.length+1+b.length) '!' i3 i4 (by show (wds z).length<=_;omega) ?_
 have la:a.length<=91/\b.length<=91/\c.length<=91:=by
  have:=congrArg xu e
  simp only[ql,qf] at this
  omega
 have ma:(∀w∈a,w.length<=1000)/\(∀w∈b,w.length<=1000)/\(∀w∈c,w.length<=1000):=⟨λw h=>hw w (by rw[e];simp[h]),λw h=>hw w (by rw[e];simp[h]),λw h=>hw w (by rw[e];simp[h])⟩
 refine aD (aK 4 fF.nd (a9 dC (bA (aG bV (aB 3 rfl (y3 (bT ⟨_,rfl,(bM (d6 '&' ?_))⟩))))).6))
 rw[c3]
 refine aD (m6 (cB (cP (a9 dC (bM (bA (aB 2 rfl ⟨_,rfl,(d6 '&' (a9 dC (bA (aG bV (aB 2 rfl (y3 (bT ⟨_,rfl,(bA (aB 3 rfl ⟨_,rfl,(d6 '&' (aC ⟨'.',?_⟩))⟩))⟩))))).6).3)⟩))).6).3)))
 rw[c1,c2]
 refine⟨_, .inl rfl,(⟨λi Γ' M'=>M'=M/\∃v5,Γ'=[some (.str z),some (.lst ((wds z).map .str)),some (.int (a.length:Int)),some (.int ((a.length+1+b.length:Nat):Int)),some (.lst (c.map .str)),v5,none]/\(0<i->OkL a)/\(1<i->OkL b),⟨rfl,_,rfl,λh=>absurd h (vv _),λh=>absurd h '!'⟩,?_,?_⟩)⟩
 ·rintro i d Γ' M' hd ⟨rfl,v5,rfl,oa,ob⟩
  obtain⟨x,rfl,hx1,hx2,hx3,hx4⟩:∃x:List Str,d = .lst (x.map .str)/\x.length<=91/\(∀w∈x,w.length<=1000)/\(¬OkL x->¬iZ z)/\(OkL x->(0<i+1->OkL a)/\(1<i+1->OkL b)):=by
   match i,hd with
   |0,hd =>
    exact⟨a,(qw hd).symm,la.1,ma.1,λn ⟨A,hA,eA⟩=>n (by obtain⟨q0,q1,_,_⟩:=yp hA eA;rw[q1];exact (aGN hA q0).1),λo=>⟨λ_=>o,λh=>absurd h '!'⟩⟩
   |1,hd =>
    exact⟨b,(qw hd).symm,la.2.1,ma.2.1,λn ⟨A,hA,eA⟩=>n (by obtain⟨q0,_,q1,_⟩:=yp hA eA;rw[q1];exact (aGN hA q0).2),λo=>⟨λ_=>oa '!',λ_=>o⟩⟩
   |n+2,hd=>exact absurd hd '$'
  have ml:(x.map D.str).length=x.length:=zLm ..
  have no:∀{M'},¬OkL x->k (.bl false) M'->k (.bl false) M':=λ_ h=>h
  have bad:¬OkL x->k (.bl false) M':=λn=>hk false ⟨(λq=>nomatch q),λy=>absurd y (hx3 n)⟩
  refine eH 5 fF.nd (aD (aX (eG (dF (aR pS (aO a6 T.len qz (aB 5 rfl (aC (cX '&' (y3 (gJ ⟨_,rfl,?_⟩))))).3))))))
  rw[ml]
  refine ite2 (λh1=>aZ (aF (aH ?_))) (λh1=>dR ?_)
  ·refine bK ?_
   have:=of_decide_eq_true h1
   exact bad λ⟨qs,e1,_,l2,_⟩=>by rw[e1,zLm] at this;omega
  refine aR n8 (aO a6 T.len qz (aB 5 rfl (aC (cX '&' (y3 (gJ ⟨_,rfl,?_⟩))))).3)
  rw[ml]
  refine ite2 (λh2=>aF (aH ?_)) (λh2=>aT ?_)
  ·refine bK ?_
   have:=of_decide_eq_true h2
   exact bad λ⟨qs,e1,_,_,l2,_⟩=>by rw[e1,zLm] at this;omega
  have x2:2<=x.length:=by have:¬(x.length:Int)<2:=λq=>h1 (decide_eq_true q);omega
  have x12:x.length<=12:=by have:¬(x.length:Int)>12:=λq=>h2 (decide_eq_true q);omega
  refine aF (aX (eG (dF (b6 (bU (aO (gE rfl) T.all R.BAll (bJ [] [] (cB (aB 5 rfl ⟨_, .inr (.inl rfl),(cU (by rw[ml];exact R.aJ '!') (λj acc M2=>M2=M'/\acc=((x.take j).map pN).map D.bl) ⟨rfl,rfl⟩ ?_ ?_)⟩))).3))))))
  ·rintro j d acc M2 hd2 ⟨rfl,rfl⟩ _ _ _ _ _
   obtain⟨w,hw',rfl⟩:=cD hd2
   refine bB (aZ λ_ _ _ _ _=>(aQ aMZ hr (aC ⟨_,rfl,hx2 w (zMo hw'),λb1 hb1=>⟨rfl,?_⟩⟩).5.3))
   rw[show b1=pN w from xx.mpr (hb1.trans oY.symm),cI hw',qg]
   rfl
  rintro acc M2 ⟨rfl,rfl⟩
  refine aC (gY '&' ⟨_,rfl,?_⟩)
  rw[ml,jg,jV]
  refine ite2 (λh3=>aZ (aF (aH ?_))) (λh3=>dR (b6 ?_))
  ·refine bK (bad λ⟨qs,e1,s1,_⟩ => ?_)
   have:x.all pN=true:=jf.mpr λw hw'=>by
    rw[e1] at hw'
    obtain⟨q,hq,rfl⟩:=qu.mp hw'
    exact oY.mpr ⟨q,s1 q hq,rfl⟩
   rw[this] at h3
   exact absurd h3 '*'
  have h3':x.all pN=true:=by simpa using h3
  obtain⟨qs,rfl,hqs⟩:=zL λw hw'=>oY.mp (jf.mp h3' w hw')
  rw[zLm] at x2 x12
  refine bU (aQ aM0 hr (aB 5 rfl (aC ⟨qs,rfl,hqs,x12,λb1 hb1=>⟨_,rfl,(ite2 (λh4=>aF (aH ?_)) (λh4=>aT ?_))⟩⟩)).3)
  ·refine bK (bad λ⟨ps,e1,s1,_,_,u⟩ => ?_)
   rw[gP hqs s1 e1] at hb1
   rw[hb1.mpr u] at h4
   exact absurd h4 '*'
  have u:Up qs:=hb1.mp (by simpa using h4)
  exact⟨rfl,_,rfl,hx4 ⟨qs,rfl,hqs,x2,x12,u⟩⟩
 rintro Γ' M' ⟨rfl,v5,rfl,oa,ob⟩
 obtain⟨qs,rfl,hqs,q2,q12,uq⟩:=oa (show 0<2 by decide)
 obtain⟨ps,rfl,hps,p2,p12,up⟩:=ob (show 1<2 by decide)
 rw[zLm] at *
 rw[zLm] at *
 have same:∀{A:Yd},SmY A->yT A=z->Fit50 qs ps c:=λ{A} hA eA=>by
  obtain⟨h0,h1,h2,h3⟩:=yp hA eA
  have f:=vR h0
  rw[<- gP hqs hA.x h1,<- gP hps hA.y h2,<- h3] at f
  exact f
 have mc:(c.map D.str).length=c.length:=zLm ..
 have bad:¬Fit50 qs ps c->k (.bl false) M':=λn=>hk false ⟨(λq=>nomatch q),λ⟨A,hA,eA⟩=>absurd (same hA eA) n⟩
 refine aD (aX (aR i8 (aO a6 T.len qz (aB 4 rfl (aC (cX '&' (aG eW (aG eW (aB 3 rfl (aB 2 rfl (bT (y3 (bT (jW ⟨_,rfl,?_⟩))))))))))).3)))
 rw[mc]
 refine ite2 (λh1=>aF (aH ?_)) (λh1=>aT ?_)
 ·refine bK (bad λf => ?_)
  have:=f.l
  rw[decide_eq_true (show (c.length:Int)=((qs.length+1+ps.length:Nat):Int)-(qs.length:Int)-2 by omega)] at h1
  exact absurd h1 '*'
 have lc:c.length+1=ps.length:=by
  have:(c.length:Int)=((qs.length+1+ps.length:Nat):Int)-(qs.length:Int)-2:=by simpa using h1
  omega
 have cne:c≠[]:=λq=>by rw[q] at lc;simp at lc;omega
 refine aD (aX (bU (aO (vZ rfl) T.any R.BAny (bJ ["_law_first"] [2] (cB (aB 4 rfl ⟨_, .inr (.inl rfl),(cU (by rw[mc];exact R.aJ '!') (λj acc M2=>M2=M'/\acc=((c.take j).map λw => !decide ((w.length:Int)=(qs.length:Int)-1)).map D.bl) ⟨rfl,rfl⟩ ?_ ?_)⟩))).3)))
 ·rintro j d acc M2 hd2 ⟨rfl,rfl⟩ _ _ _ _ _
  obtain⟨w,hw',rfl⟩:=cD hd2
  have lw:=ma.2.2 w (zMo hw')
  refine bB (aZ λ_ _ _ _ _=>(dA i8 (aO a6 T.len qz (aC (eM (R.aJ '!') (aG eW (y3 (bT (jW ⟨rfl,?_⟩))).6))).5.3)))
  rw[cI hw',qg]
  rfl
 rintro acc M2 ⟨rfl,rfl⟩
 refine aC (gY '&' ⟨_,rfl,?_⟩)
 rw[mc,jg]
 refine ite2 (λh2=>aF (aH ?_)) (λh2=>aT ?_)
 ·refine bK (bad λf => ?_)
  obtain⟨x,hx,ex⟩:=gf.mp h2
  obtain⟨w,hw',rfl⟩:=qu.mp hx
  have:=(f.g w hw').1
  rw[show decide ((w.length:Int)=(qs.length:Int)-1)=true from decide_eq_true '!'] at ex
  exact absurd ex '*'
 have wl:∀w∈c,w.length=qs.length-1:=λw hw'=>by
  refine jt λq=>h2 (gf.mpr ⟨_,qu.mpr ⟨w,hw',rfl⟩,?_⟩)
  show (!decide _)=true
  rw[decide_eq_false '!']
  rfl
 have jl:=aFQ c (b:=20) (λw hw'=>by have:=wl w hw';omega)
 refine aD (aX (bU (aO (vZ rfl) T.any R.BAny (bJ [] [] (q8 (c6 jj vx vw iP (ge_str ⟨rfl,(aB 4 rfl (aC (iR '&' '-' '!' ?_))).3⟩)))).3)))
 rw[R.jX]
 refine⟨_,rfl,?_⟩
 have jn:=aIN c
 have jn2:(zm ja c).length<=1000:=by
  show (zm ja c).cps.size<=1000
  rw[<- qa,jn,List.length_flatten,xj]
  have e:(xu ∘ λ(x:Str)=>x.cps.toList)=λx:Str=>x.length:=funext λx=>qa ..
  rw[e]
  omega
 refine cU (by rw[fE];exact R.aJ '!') (λi acc M3=>M3=M2/\acc=(((zm ja c).cps.toList.take i).map λs => !R.sgn s).map D.bl) ⟨rfl,rfl⟩ ?_ ?_
 ·rintro i d acc M3 hd2 ⟨rfl,rfl⟩ _ _ _ _ _
  obtain⟨s,hs,rfl⟩:=cD hd2
  refine bB (aZ λ_ _ _ _ _=>(dA wG (ge_str (yI ⟨rfl,?_⟩)).5))
  rw[zj,pk,aF8,cI hs,qg]
  rfl
 rintro acc M3 ⟨rfl,rfl⟩
 refine aC (gY '&' ⟨_,rfl,?_⟩)
 rw[fE,km (by rw[qa];exact qj _)]
 have sg:(∀s∈(zm ja c).cps.toList,R.sgn s=true)↔∀w∈c,w.cps.toList.all R.sgn=true:=by
  rw[jn]
  constructor
  ·intro h w hw'
   exact jf.mpr λs hs=>h s (JW.mpr ⟨_,qu.mpr ⟨w,hw',rfl⟩,hs⟩)
  ·intro h s hs
   obtain⟨l,hl,hs⟩:=JW.mp hs
   obtain⟨w,hw',rfl⟩:=qu.mp hl
   exact jf.mp (h w hw') s hs
 refine ite2 (λh3=>aF (aH ?_)) (λh3=>aT ?_)
 ·refine bK (bad λf => ?_)
  obtain⟨x,hx,ex⟩:=gf.mp h3
  obtain⟨s,hs,rfl⟩:=qu.mp hx
  have:=sg.mpr (λw hw'=>(f.g w hw').2) s hs
  rw[this] at ex
  exact absurd ex '*'
 have g:R.Good (qs.length-1) c:=λw hw'=>⟨wl w hw',sg.mp (λs hs=>jt λq=>h3 (gf.mpr ⟨_,qu.mpr ⟨s,hs,rfl⟩,by simpa using q⟩)) w hw'⟩
 refine aD (fA 6 ["_law_rows"] [4] fF.nd (kU T.range (aG eW (aB 2 rfl (y3 (bT (aC ⟨_,rfl,by omega,by omega,?_⟩))))).3))
 rw[show ((qs.length:Int)-1).toNat=qs.length-1 by omega]
 refine lO (by rw[bX];exact R.aJ '!') (λi acc M4=>M4=M3/\acc=((qt i).map λj=>R.ofL (c.map (R.atS · j))).map D.str) ⟨rfl,rfl⟩ ?_ ?_
 ·rintro i d acc M4 hd ⟨rfl,rfl⟩ _ _ _ _ _
  obtain⟨hi,rfl⟩:=fB hd
  refine bB (aZ λ_ _ _ _ _=>(c6 jj vx vw iP (ge_str ⟨rfl,aA (bJ ["_law_k"] [0] (cB ⟨_, .inr (.inl rfl),(cU (ds:=c.map D.str) (by rw[zLm];exact R.aJ '!') (λi2 acc2 M5=>M5=M4/\acc2=((c.take i2).map λz=>(⟨#[R.atS z i]⟩:Str)).map D.str) ⟨rfl,rfl⟩ ?_ ?_)⟩.6))⟩)))
  ·rintro i2 d2 acc2 M5 hd2 ⟨rfl,rfl⟩ _ _ _ _ _
   obtain⟨w,hz2,rfl⟩:=cD hd2
   have hzn:=wl w (zMo hz2)
   refine bB (aZ λ_ _ _ _ _=>(aN aI (kY (R.aJ '!') (by rw[yy];exact R.rN '!') ⟨rfl,?_⟩).6.5))
   rw[cI hz2,qg]
   rfl
  ·rintro acc2 M5 ⟨rfl,rfl⟩
   rw[zLm,jg]
   refine aC (iR (ys:=c.map λz=>(⟨#[R.atS z i]⟩:Str)) '&' '-' ?_ ?_)
   ·rw[m8 _ (λz hz => ?_),zLm]
    ·omega
    ·obtain⟨y,_,rfl⟩:=qu.mp hz
     rfl
   ·refine⟨rfl,?_⟩
    rw[qH,zt,qg,qg]
    rfl
 rintro acc M4 ⟨rfl,rfl⟩ aa haa
 rw[bX,aG6 wl cne]
 refine fT 6 rfl aW ?_
 rw[gL haa]
 have lcc:=R.bH wl cne
 have ccn:R.aE c≠[]:=λq=>by rw[q] at lcc;simp at lcc;omega
 refine aF (aH (fV (aQ aM1 hr (aB 4 rfl (aC ⟨_,c,rfl,cne,g,by omega,(show qs.length-1<=1000 by omega),λb1 hb1=>⟨_,rfl,ite2 (λh4=>gD (aQ aM1 hr (aB 6 rfl (aC ⟨_,R.aE c,rfl,ccn,R.iQ g,by omega,(show c.length<=1000 by omega),λb2 hb2=>(hk b2 ⟨λh5 => ?_,λ⟨A,hA,eA⟩=>hb2.mpr (same hA eA).t2⟩)⟩)).3)) (λh4=>bad λf=>h4 (hb1.mpr f.t1))⟩⟩)).3)))
 obtain⟨A,r1,r2,r3,hv2⟩:=Fit50.yd ⟨uq,up,g,lc,cne,q2,hb1.mp h4,hb2.mp h5⟩
 exact⟨A,⟨by rw[r1];exact hqs,by rw[r2];exact hps,by rw[r1];exact q12,by rw[r2];exact p12⟩,aGQ hv e na nb nc hv2 (by rw[r1]) (by rw[r2]) r3.symm⟩
theorem pY:FnScope ["_law_feed_here", "_law_text", "_law_at", "_law_sign", "_law_way"] zl1 (aL rY):=zSc
abbrev aD3(P w K mg z):=Fo P w K mg z "_law_bent" rY zl1 2 aHC
theorem aIP(Df:R.Df K mg "_law_bent" rY zl1 f fd)(aMU:oS P w K mg z)(T:Bt mg):aD3 P w K mg z:=by
 refine⟨f,fd,Df,b8 Df pY (λds M k h=>?_) (λ_ _ _ _ _ _ hr ds M k h=>?_)⟩
 ·obtain⟨p,b,z,L,B,rfl,_⟩:=h;rfl
 obtain⟨p,b,z,L,B,rfl,hF0,hb,bz,hL,hk⟩:=h
 have lz:=bz.l
 refine aD (aK 2 pY.nd (aQ aMU hr (aG bV (aO a6 T.len qz (aC (eM (R.aJ '!') (y3 (bT (aC ⟨p,_,_,rfl,by omega,by omega,hF0,by omega,λz1 M1 z10 z11 hF1 hB1 hE1 => ?_⟩))))).6.3)).3.5.3))
 obtain⟨n,rfl⟩:∃n:Nat,z1=(n:Int):=⟨z1.toNat,by omega⟩
 have hn:n<=z.length:=by omega
 refine aD (aK 3 pY.nd (aN aI (ge_str (aQ aMU hr (y3 (aC ⟨p,_,_,rfl,by decide,by decide,hF1,by omega,λz2 M2 z20 z21 hF2 hB2 hE2 => ?_⟩)).3.5.3))))
 obtain⟨c,hc⟩:=aEB z20 z21
 refine kY '-' hc (aD (aK 4 pY.nd (aQ aMU hr (y3 (aC ⟨p,_,_,rfl,by decide,by decide,hF2,by omega,λz3 M3 z30 z31 hF3 hB3 hE3 => ?_⟩)).3.5.3)))
 have en:(n:Int)+1=((n+1:Nat):Int):=by omega
 have sl:z.length<=sizeLine:=R.aJ '!'
 have cl:=λx y=>aFF z x y
 have hf:=hF3.mono (show _<=b+3 by omega)
 have o1:(⟨#[c]⟩:Str).length<=1:=qj 1
 have o0:ja.length<=1:=vy 1
 have wl:∀x y:Str,x.length<=z.length->y.length<=z.length+2->x.length+y.length<=sizeLine:=λx y h1 h2=>R.aJ '!'
 refine aD (aX (aR bS (aB 4 rfl (y3 (cL ⟨_,rfl,(ite2 (λh1=>aF (aH ?_)) (λh1=>aT ?_))⟩)))))
 ·refine aG bF (a9 fX (bM (bA (aB 2 rfl ⟨_,rfl,(fU sl (a9 fX (bA (aG bV (aB 2 rfl (y3 (bT ⟨_,rfl,(bM (fU sl (cF (wl _ _ (cl _ _) (by have:=cl ((n:Int)+1).4 none;omega)) ?_)))⟩))))).6))⟩))).6)
  rw[en]
  have:=pQ bz hn o0 (.inr rfl) (.inl rfl)
  rw[xC] at this
  exact hk _ _ this hf ((hB1.trans hB2).trans hB3)
 refine aD (aX (aR bS (aB 4 rfl (y3 (cL ⟨_,rfl,(ite2 (λh1=>aF (aH ?_)) (λh1=>aT ?_))⟩)))))
 ·refine aG bF (aG bF (a9 fX (bM (bA (aB 2 rfl ⟨_,rfl,(fU sl (a9 fX (bA (aB 2 rfl ⟨_,rfl,(bA (aG bV (aB 2 rfl (y3 (bT ⟨_,rfl,(fU sl (cF (wl _ _ (cl _ _) (by have:=cl (n:Int).4 ((n:Int)+1).4;omega)) (a9 fX (bA (aB 2 rfl ⟨_,rfl,(bM (fU sl (cF (R.aJ (by have h1:=cl none (n:Int).4;have h2:=cl (n:Int).4 ((n:Int)+1).4;have h3:=cl (n:Int).4 none;rw[cA];omega)) ?_)))⟩)).6)))⟩)))))⟩)).6))⟩))).6))
  rw[en]
  exact hk _ _ (pQ bz hn (vQ z n) (.inl rfl) (.inr (vQ z n))) hf ((hB1.trans hB2).trans hB3)
 refine aD (aX (aR bS (aB 4 rfl (y3 (cL ⟨_,rfl,(ite2 (λh1=>aF (aH ?_)) (λh1=>aT ?_))⟩)))))
 ·exact aG bF (aG bF (a9 fX (bM (bA (aB 2 rfl ⟨_,rfl,(fU sl (aB 3 rfl (cF (wl _ _ (cl _ _) '!') (a9 fX (bA (aB 2 rfl ⟨_,rfl,(bM (fU sl (cF (R.aJ (by have h1:=cl none (n:Int).4;have h3:=cl (n:Int).4 none;rw[cA];omega)) (hk _ _ (pQ bz hn o1 (.inl rfl) (.inr o1)) hf ((hB1.trans hB2).trans hB3)))))⟩)).6))))⟩))).6))
 refine aD (aX (aR bS (aB 4 rfl (y3 (cL ⟨_,rfl,(ite2 (λh1=>aF (aH ?_)) (λh1=>aT ?_))⟩)))))
 ·refine aG bF (aG bF (a9 fX (bM (bA (aB 2 rfl ⟨_,rfl,(fU sl (aB 3 rfl (cF (wl _ _ (cl _ _) '!') (a9 fX (bA (aG bV (aB 2 rfl (y3 (bT ⟨_,rfl,(bM (fU sl (cF (R.aJ (by have h1:=cl none (n:Int).4;have h3:=cl ((n:Int)+1).4 none;rw[cA];omega)) ?_)))⟩))))).6))))⟩))).6))
  rw[en]
  exact hk _ _ (pQ bz hn o1 (.inr rfl) (.inl rfl)) hf ((hB1.trans hB2).trans hB3)
 exact aF (aH (hk _ _ (bz.mono '!' '!') hf ((hB1.trans hB2).trans hB3)).6)
theorem oZ:FnScope ["_law_script", "_law_turn", "_law_feed_here", "_law_text"] ["_law_script"] (aL pV):=zSc
theorem aKI(Df:R.Df K mg "law" pV ["_law_script"] f fd)(aM2:aCM P w K mg z)(aMV:j5 P w K mg z)(aM3:aD3 P w K mg z)(aM4:aCR P w K mg z)(aMZ:lI P w K mg z)(aM5:p9 P w K mg z)(aM6:rJ P w K mg z)(T:Bt mg):FnOk P w K mg z CX0 8 f fd ["_law_script"] (spZ K aB0):=by
 refine b8 Df oZ (λds M k h=>?_) (λ_ _ _ _ _ _ hr ds M k h=>?_)
 ·obtain⟨ns,rfl,_⟩:=h;rfl
 obtain⟨ns,rfl,hns,hk⟩:=h
 refine aD (m6 (kU T.range (aG bV (y3 (aO (aCZ rfl) T.min BMin (y3 (aO a6 T.len qz (aC (cX (.fl _) (aC (aJN (bT (aC ⟨_,rfl,by split <;> omega,by split <;> omega,?_⟩)))))).5.3).3).3))).3))
 refine⟨λi Γ' M'=>∃v1 v2 v3,Γ'=[some (.fl (ns.map .int)),v1,v2,v3],⟨_,_,_,rfl⟩,?_,?_⟩
 rotate_left
 ·rintro Γ' M1 ⟨v1,v2,v3,rfl⟩
  refine aF (aH (fV (dA (oM (n:=1) (R.units_le hr)) (aQ aM4 hr (y3 (ge_str (aC (⟨0, "", fL "", rfl, .inl ⟨rfl,by decide +kernel,rfl⟩,λy=>absurd y aFT,λ_ N le=>(cP (ge_str (bK (aC ⟨'.',(oV (e1 := .tup [.str "refused", .bl true]) (e2 := .tup [.str "refused", .bl true]) (.tup _) (.tup _) rfl rfl ⟨_,rfl,?_⟩)⟩)).3).3)⟩))).3).3))))
  rw[eqD_refl 1 _ rfl]
  refine aZ (gD (dA (oM (n:=1) (R.units_le hr)) (aQ aM4 hr (y3 (ge_str (aC (⟨1, "; ;", iZ "; ;", rfl, .inr ⟨rfl,aHX,rfl⟩,λy=>absurd y aFY,λ_ N2 le2=>(cP (ge_str (bK (aC ⟨'.',(oV (e1 := .tup [.str "refused", .bl true]) (e2 := .tup [.str "refused", .bl true]) (.tup _) (.tup _) rfl rfl ?_)⟩)).3).3)⟩))).3).3)))
  rw[eqD_refl 1 _ rfl]
  exact hk _
 rintro i d Γ' M0 hd ⟨v1,v2,v3,rfl⟩
 obtain⟨hi,rfl⟩:=fB hd
 have hi9:i<21:=by
  refine qo hi ?_
  split <;> omega
 refine eH 1 oZ.nd (aD (aK 2 oZ.nd (aQ aM2 hr (aC ⟨ns,_,rfl,by omega,by omega,λp M hp hL2 hF0 => ?_⟩).6.3.5.3)))
 refine aD (aK 3 oZ.nd (aQ aM3 hr (aB 2 rfl (aQ aMV hr (aB 2 rfl (aC ⟨p,_,rfl,hF0,by omega,λt M1 bt hF1 hB1 hE1 => ?_⟩)).3).3).3))
 refine aC ⟨p,_,t,140,1,rfl,hF1,by omega,bt,by omega,λz M2 bz hF2 hB2 => ?_⟩
 have lz:=bz.l
 refine aD (eT (λΓ' M'=>∃bb,Γ'=[some (.fl (ns.map .int)),some (.int (0+(i:Int))),some (.mt p),some (.str z)]/\FdM M' p bb/\bb<=2000) (aX (aR (aCI (n:=1) (R.units_le hr)) ?_)) ?_)
 ·by_cases hp:fL z
  ·refine aQ aM4 hr (y3 (aB 3 rfl (aC (⟨0,z,fL z,rfl, .inl ⟨rfl,by omega,rfl⟩,λ_=>(aN aI (bW (cP (ge_str (bK (aC ⟨'.',(cP (ge_str (aB 3 rfl (aC ⟨'.',(aC ⟨'.',(aY lP T.int R.BI (aQ aMZ hr ?_.3).3)⟩)⟩)).3).3).3⟩)).3).3).3)),λn=>absurd hp n⟩))).3).3
   refine aB 3 rfl (aC ⟨_,rfl,by omega,λb1 hb1 => ?_⟩)
   obtain rfl:b1=true:=hb1.mpr hp
   refine aC (pE (aP '&' rfl (qX (e1 := .tup [.str "told", .str z]) (e2 := .tup [.str "told", .str z]) (.tup _) (.tup _) rfl rfl ⟨_,rfl,?_⟩)))
   rw[eqD_refl 1 _ rfl]
   exact eF (aT ⟨_,rfl,hF2,by omega⟩)
  ·refine aQ aM4 hr (y3 (aB 3 rfl (aC (⟨0,z,fL z,rfl, .inl ⟨rfl,by omega,rfl⟩,λy=>absurd y hp,λ_ N le=>(aN aI (bW (cP (ge_str (bK (aC ⟨'.',(cP (ge_str (aB 3 rfl (aC ⟨'.',(aC ⟨'.',(aY lP T.int R.BI (aQ aMZ hr ?_.3).3)⟩)⟩)).3).3).3⟩)).3).3).3))⟩))).3).3
   refine aB 3 rfl (aC ⟨_,rfl,by omega,λb1 hb1 => ?_⟩)
   obtain rfl:b1=false:=by simpa using λy=>hp (hb1.mp y)
   refine aC (pE (aP '&' rfl (qX (e1 := .tup [.str "refused", .bl true]) (e2 := .tup [.str "refused", .bl true]) (.tup _) (.tup _) rfl rfl ⟨_,rfl,?_⟩)))
   rw[eqD_refl 1 _ rfl]
   exact eF (aT ⟨_,rfl,aGV hF2 le,by omega⟩)
 rintro Γ' M3 ⟨bb,rfl,hF3,hbb⟩
 refine aD (aK 3 oZ.nd (aQ aM3 hr (aB 2 rfl (aQ aM5 hr (aB 2 rfl (aC ⟨p,_,rfl,hF3,by omega,λt M4 bt hF4 hB4 => ?_⟩)).3).3).3))
 refine aC ⟨p,_,t,900,60,rfl,hF4,by omega,bt,by omega,λy M5 by5 hF5 hB5 => ?_⟩
 have tx:Tx y:=⟨ji by5.l '*',ji by5.b '*'⟩
 refine aF (eT (λΓ' M'=>∃bb,Γ'=[some (.fl (ns.map .int)),some (.int (0+(i:Int))),some (.mt p),some (.str y)]/\FdM M' p bb/\bb<=5000) (aX (aR (aCI (n:=1) (R.units_le hr)) ?_)) ?_)
 ·by_cases hp:iZ y
  ·refine aQ aM4 hr (y3 (aB 3 rfl (aC (⟨1,y,iZ y,rfl, .inr ⟨rfl,tx,rfl⟩,λ_=>(aN aI (bW (cP (ge_str (bK (aC ⟨'.',(cP (ge_str (aB 3 rfl (aC ⟨'.',(aC ⟨'.',(aY lP T.int R.BI (aQ aM6 hr ?_.3).3)⟩)⟩)).3).3).3⟩)).3).3).3)),λn=>absurd hp n⟩))).3).3
   refine aB 3 rfl (aC ⟨_,rfl,tx,λb1 hb1 => ?_⟩)
   obtain rfl:b1=true:=hb1.mpr hp
   refine aC (pE (aP '&' rfl (qX (e1 := .tup [.str "told", .str y]) (e2 := .tup [.str "told", .str y]) (.tup _) (.tup _) rfl rfl ⟨_,rfl,?_⟩)))
   rw[eqD_refl 1 _ rfl]
   exact eF (aT ⟨_,rfl,hF5,by omega⟩)
  ·refine aQ aM4 hr (y3 (aB 3 rfl (aC (⟨1,y,iZ y,rfl, .inr ⟨rfl,tx,rfl⟩,λy=>absurd y hp,λ_ N le=>(aN aI (bW (cP (ge_str (bK (aC ⟨'.',(cP (ge_str (aB 3 rfl (aC ⟨'.',(aC ⟨'.',(aY lP T.int R.BI (aQ aM6 hr ?_.3).3)⟩)⟩)).3).3).3⟩)).3).3).3))⟩))).3).3
   refine aB 3 rfl (aC ⟨_,rfl,tx,λb1 hb1 => ?_⟩)
   obtain rfl:b1=false:=by simpa using λy=>hp (hb1.mp y)
   refine aC (pE (aP '&' rfl (qX (e1 := .tup [.str "refused", .bl true]) (e2 := .tup [.str "refused", .bl true]) (.tup _) (.tup _) rfl rfl ⟨_,rfl,?_⟩)))
   rw[eqD_refl 1 _ rfl]
   exact eF (aT ⟨_,rfl,aGV hF5 le,by omega⟩)
 rintro Γ' M6 ⟨bb,rfl,hF6,hbb2⟩
 exact⟨_,_,_,rfl⟩
end
end Q
namespace HB
open PySem PySem.W L2
theorem mkD{K:qb}(X:K.In h)(G:h.Ns jo mg)(n:String)(st:Stmt)(ps:List Str)(f cd:Addr)(pm:Value)(a:nsIn K jo (jb n)=some (.ref f).4)(l:K.lookup f=some (fO n st pm cd))(c:codeIn K (.ref cd) (jb n)=true)(k:keepIn K (.ref f)=true)(b:∀(kV doc pm:Value) (an:Option Addr) (cdv ct:Value) (us:List Value),us.length=ps.length->Kk (xl (jb n) (jb n) (fI st) (dE st) (aL st) .none kV doc pm an cdv ct) ⟨us,[]⟩=pure (ps.zip us)):
  R.Df K mg (jb n) st ps f (xl (jb n) (jb n) (fI st) (dE st) (aL st) .none .none .none pm none (.ref cd) .none):=
 have F:Fun K (jb n) (jb n) st f _:=aJT l c k
 ⟨F,F.binds b,mg_of X G a⟩
theorem mkE{K:qb}(X:K.In h)(G:h.Ns jo mg)(n:String)(st:Stmt)(ps:List Str)(f cd:Addr)(pm:Value)(b:∀(kV doc pm:Value) (an:Option Addr) (cdv ct:Value) (us:List Value),us.length=ps.length->Kk (xl (jb n) (jb n) (fI st) (dE st) (aL st) .none kV doc pm an cdv ct) ⟨us,[]⟩=pure (ps.zip us))(a:nsIn K jo (jb n)=some (.ref f).4:=by kernel_rfl!)(l:K.lookup f=some (fO n st pm cd):=by kernel_rfl!)(c:codeIn K (.ref cd) (jb n)=true:=by kernel_rfl!)(k:keepIn K (.ref f)=true:=by kernel_rfl!):
  R.Df K mg (jb n) st ps f (xl (jb n) (jb n) (fI st) (dE st) (aL st) .none .none .none pm none (.ref cd) .none):=mkD X G n st ps f cd pm a l c k b
noncomputable def fG:List Str:=["len", "abs", "int", "min", "max", "range", "list", "tuple", "repr", "all", "any", "enumerate", "isinstance", "bool", "str", "zip", "reversed", "sorted", "dict"]
theorem mkB{K:qb}(X:K.In h)(G:h.Ns jo mg)(e:(fG.all λn=>nsIn K jo n==some none)=true):Q.Bt mg:=
 have z:∀n∈fG,mg n=none:=λn hn=>mg_none_of X G (eq_of_beq (jf.mp e n hn))
 ⟨z _ (by simp[fG]),z _ (by simp[fG]),z _ (by simp[fG]),z _ (by simp[fG]),z _ (by simp[fG]),z _ (by simp[fG]),z _ (by simp[fG]),z _ (by simp[fG]),z _ (by simp[fG]),z _ (by simp[fG]),z _ (by simp[fG]),z _ (by simp[fG]),z _ (by simp[fG]),z _ (by simp[fG]),z _ (by simp[fG]),z _ (by simp[fG]),z _ (by simp[fG]),z _ (by simp[fG]),z _ (by simp[fG])⟩
theorem ln1{α:Type}{l:List α}(z:l.length=1):∃a,l=[a]:=List.length_eq_one_iff.mp z
theorem ln2{α:Type}{l:List α}(z:l.length=2):∃a b,l=[a,b]:=by
 cases l with
 |nil=>cases z
 |cons a l=>obtain⟨b,rfl⟩:=ln1 (l:=l) (by simpa using z);exact⟨a,b,rfl⟩
theorem ln3{α:Type}{l:List α}(z:l.length=3):∃a b c,l=[a,b,c]:=by
 cases l with
 |nil=>cases z
 |cons a l=>obtain⟨b,c,rfl⟩:=ln2 (l:=l) (by simpa using z);exact⟨a,b,c,rfl⟩
end HB
namespace Q
open PySem L2 Z
theorem aAJ{K:Fg}:∀ns:List Int,Dens K G (ns.map D.int) (ns.map V.int)
 |[]=>by simp only[Jp,Dens]
 |n::ns=>by simp only[Jp,Dens];exact⟨_,_,rfl,by simp only[Den],aAJ ns⟩
open HB in
theorem all_mk{l:pv}{fa:Addr}(X:(HD.K w.params).In h)(G:h.Ns jo mg)(hfa:mg "law" = some (.ref fa)):
  ∃fd:FuncData,(∀(s:Shared) (v:Value),BindsTo s fd ⟨[v],[]⟩ [("_law_script", v)])/\∀z:Heap,(HD.K w.params).In z->z.Ns jo mg->FnOk l.prog w (HD.K w.params) mg z CX0 8 fa fd ["_law_script"] (spZ (HD.K w.params) aB0):=by
 have T:Bt mg:=mkB X G (by kernel_rfl!)
 have C_MOST_LINES:=wk X G (by kernel_rfl!:wu (HD.K w.params) jo "MOST_LINES" = some (J 12 398).4)
 have C_MOST_FIGURES:=wk X G (by kernel_rfl!:wu (HD.K w.params) jo "MOST_FIGURES" = some (J 60 396).4)
 have C_VOID_TEXT:=wk X G (by kernel_rfl!:wu (HD.K w.params) jo "VOID_TEXT" = some (S "void" 400).4)
 have C_BREAK:=wk X G (by kernel_rfl!:wu (HD.K w.params) jo "BREAK" = some (S ";" 402).4)
 have C_VOID:=wk X G (by kernel_rfl!:wu (HD.K w.params) jo "VOID" = some (R 131).4)
 have E_VOID:∀G,Den (HD.K w.params) G (yd U.Yd.void) (.ref 131):=λG=>pD (as:=[128,129,130]) (by kernel_rfl!:mh 131 (HD.K w.params)=some (tO [(R 128),(R 129),(R 130)])) (show (3:Nat)<=100 by decide) (bO (pD (as:=[]) (by kernel_rfl!:mh 128 (HD.K w.params)=some (tO [])) '*' bR) (bO (pD (as:=[]) (by kernel_rfl!:mh 129 (HD.K w.params)=some (tO [])) '*' bR) (bO (pD (as:=[]) (by kernel_rfl!:mh 130 (HD.K w.params)=some (tO [])) '*' bR) (bR))))
 have PX:TxX (HD.K w.params) mg 73 24 97 37 61 85 49:=⟨wk X G (by kernel_rfl!:wu (HD.K w.params) jo "NoText" = some (.ref 73).4),wk X G (by kernel_rfl!:wu (HD.K w.params) jo "RoofError" = some (.ref 24).4),PySem.W.mg_none_of X G (by kernel_rfl!:wu (HD.K w.params) jo "ValueError" = some (none)),by kernel_rfl!,by kernel_rfl!,⟨by kernel_rfl!,by kernel_rfl!,by kernel_rfl!,by kernel_rfl!,by kernel_rfl!,by kernel_rfl!⟩,by kernel_rfl!,by kernel_rfl!,by kernel_rfl!,wk X G (by kernel_rfl!:wu (HD.K w.params) jo "NoName" = some (.ref 97).4),wk X G (by kernel_rfl!:wu (HD.K w.params) jo "NoNumber" = some (.ref 37).4),wk X G (by kernel_rfl!:wu (HD.K w.params) jo "NoPoint" = some (.ref 61).4),wk X G (by kernel_rfl!:wu (HD.K w.params) jo "NoRow" = some (.ref 85).4),wk X G (by kernel_rfl!:wu (HD.K w.params) jo "NoYard" = some (.ref 49).4)⟩
 have D1:=mkE X G "is_whole" kE ["thing"] 106 105 HD.zS4 (λ_ _ _ _ _ _ us hl=>by obtain⟨_,rfl⟩:=HB.ln1 hl;rfl)
 have D2:=mkE X G "common_divisor" fQ ["one", "other"] 113 112 HD.zS4 (λ_ _ _ _ _ _ us hl=>by obtain⟨_,_,rfl⟩:=HB.ln2 hl;rfl)
 have D3:=mkE X G "_law_feed" qW ["_law_script", "_law_k"] 221 220 HD.zS0 (λ_ _ _ _ _ _ us hl=>by obtain⟨_,_,rfl⟩:=HB.ln2 hl;rfl)
 have D4:=mkE X G "under" pZ ["one", "other"] 127 126 HD.zS4 (λ_ _ _ _ _ _ us hl=>by obtain⟨_,_,rfl⟩:=HB.ln2 hl;rfl)
 have D5:=mkE X G "column" n9 ["rows", "place"] 146 145 HD.zS1 (λ_ _ _ _ _ _ us hl=>by obtain⟨_,_,rfl⟩:=HB.ln2 hl;rfl)
 have D6:=mkE X G "columns" l7 ["rows"] 151 150 HD.zS1 (λ_ _ _ _ _ _ us hl=>by obtain⟨_,rfl⟩:=HB.ln1 hl;rfl)
 have D7:=mkE X G "changes" lQ ["bands"] 156 155 HD.zS1 (λ_ _ _ _ _ _ us hl=>by obtain⟨_,rfl⟩:=HB.ln1 hl;rfl)
 have D8:=mkE X G "picked" nU ["row", "places"] 161 160 HD.zS1 (λ_ _ _ _ _ _ us hl=>by obtain⟨_,_,rfl⟩:=HB.ln2 hl;rfl)
 have D9:=mkE X G "tidied" nR ["xs", "ys", "rows"] 166 165 HD.zS1 (λ_ _ _ _ _ _ us hl=>by obtain⟨_,_,_,rfl⟩:=HB.ln3 hl;rfl)
 have D10:=mkE X G "is_row" nK ["thing", "wide"] 136 135 HD.zS1 (λ_ _ _ _ _ _ us hl=>by obtain⟨_,_,rfl⟩:=HB.ln2 hl;rfl)
 have D11:=mkE X G "rows_fit" kH ["rows", "xs", "ys"] 141 140 HD.zS1 (λ_ _ _ _ _ _ us hl=>by obtain⟨_,_,_,rfl⟩:=HB.ln3 hl;rfl)
 have D12:=mkE X G "is_number" jL ["thing"] 120 119 HD.zS4 (λ_ _ _ _ _ _ us hl=>by obtain⟨_,rfl⟩:=HB.ln1 hl;rfl)
 have D13:=mkE X G "are_number_lines" eQ ["thing"] 171 170 HD.zS1 (λ_ _ _ _ _ _ us hl=>by obtain⟨_,rfl⟩:=HB.ln1 hl;rfl)
 have D14:=mkE X G "is_yard" l8 ["thing"] 178 177 HD.zS1 (λ_ _ _ _ _ _ us hl=>by obtain⟨_,rfl⟩:=HB.ln1 hl;rfl)
 have D15:=mkE X G "_law_next" qY ["_law_feed_here", "_law_many"] 228 227 HD.zS0 (λ_ _ _ _ _ _ us hl=>by obtain⟨_,_,rfl⟩:=HB.ln2 hl;rfl)
 have D16:=mkE X G "shown_number" gT ["number"] 185 184 HD.zS3 (λ_ _ _ _ _ _ us hl=>by obtain⟨_,rfl⟩:=HB.ln1 hl;rfl)
 have D17:=mkE X G "are_figures" iC ["text"] 195 194 HD.zS3 (λ_ _ _ _ _ _ us hl=>by obtain⟨_,rfl⟩:=HB.ln1 hl;rfl)
 have D18:=mkE X G "read_number" iD ["text"] 202 201 HD.zS3 (λ_ _ _ _ _ _ us hl=>by obtain⟨_,rfl⟩:=HB.ln1 hl;rfl)
 have D19:=mkE X G "read_lines" i6 ["words"] 207 206 HD.zS3 (λ_ _ _ _ _ _ us hl=>by obtain⟨_,rfl⟩:=HB.ln1 hl;rfl)
 have D20:=mkE X G "shown_yard" jB ["yard"] 190 189 HD.zS3 (λ_ _ _ _ _ _ us hl=>by obtain⟨_,rfl⟩:=HB.ln1 hl;rfl)
 have D21:=mkE X G "read_yard" jK ["text"] 214 213 HD.zS3 (λ_ _ _ _ _ _ us hl=>by obtain⟨_,rfl⟩:=HB.ln1 hl;rfl)
 have D22:=mkE X G "_law_is_count" kF ["_law_text"] 259 258 HD.zS0 (λ_ _ _ _ _ _ us hl=>by obtain⟨_,rfl⟩:=HB.ln1 hl;rfl)
 have D23:=mkE X G "_law_is_number" iX ["_law_text"] 266 265 HD.zS0 (λ_ _ _ _ _ _ us hl=>by obtain⟨_,rfl⟩:=HB.ln1 hl;rfl)
 have D24:=mkE X G "_law_value" pP ["_law_text"] 273 272 HD.zS0 (λ_ _ _ _ _ _ us hl=>by obtain⟨_,rfl⟩:=HB.ln1 hl;rfl)
 have D25:=mkE X G "_law_number_text" iB ["_law_feed_here"] 235 234 HD.zS0 (λ_ _ _ _ _ _ us hl=>by obtain⟨_,rfl⟩:=HB.ln1 hl;rfl)
 have D26:=mkE X G "_law_bent" rY ["_law_feed_here", "_law_text"] 254 253 HD.zS0 (λ_ _ _ _ _ _ us hl=>by obtain⟨_,_,rfl⟩:=HB.ln2 hl;rfl)
 have D27:=mkE X G "_law_rising" nO ["_law_words"] 278 277 HD.zS0 (λ_ _ _ _ _ _ us hl=>by obtain⟨_,rfl⟩:=HB.ln1 hl;rfl)
 have D28:=mkE X G "_law_tidy" sD ["_law_rows"] 285 284 HD.zS0 (λ_ _ _ _ _ _ us hl=>by obtain⟨_,rfl⟩:=HB.ln1 hl;rfl)
 have D29:=mkE X G "_law_line_texts" i7 ["_law_feed_here", "_law_many"] 242 241 HD.zS0 (λ_ _ _ _ _ _ us hl=>by obtain⟨_,_,rfl⟩:=HB.ln2 hl;rfl)
 have D30:=mkE X G "_law_yard_text" jN ["_law_feed_here"] 247 246 HD.zS0 (λ_ _ _ _ _ _ us hl=>by obtain⟨_,rfl⟩:=HB.ln1 hl;rfl)
 have D31:=mkE X G "_law_is_yard" j9 ["_law_text"] 290 289 HD.zS0 (λ_ _ _ _ _ _ us hl=>by obtain⟨_,rfl⟩:=HB.ln1 hl;rfl)
 have D32:=mkE X G "_law_read" rT ["_law_way", "_law_text"] 297 296 HD.zS0 (λ_ _ _ _ _ _ us hl=>by obtain⟨_,_,rfl⟩:=HB.ln2 hl;rfl)
 have D33:=mkE X G "law" pV ["_law_script"] 304 303 HD.zS0 (λ_ _ _ _ _ _ us hl=>by obtain⟨_,rfl⟩:=HB.ln1 hl;rfl)
 cases hfa.symm.trans D33.m
 refine⟨xl "law" "law" (fI pV) (dE pV) (aL pV) .none .none .none HD.zS0 none (.ref 303) .none,λs v => .of_eq rfl,λz _ _ => ?_⟩
 have G1:=yG (P:=l.prog) (w:=w) (z:=z) D1 T
 have G2:=p8 (P:=l.prog) (w:=w) (z:=z) D2 T
 have G3:=aIL (P:=l.prog) (w:=w) (z:=z) D3 T
 have G4:=aF0 (P:=l.prog) (w:=w) (z:=z) D4
 have G5:=aDU (P:=l.prog) (w:=w) (z:=z) D5
 have G6:=aA0 D6 G5 T
 have G7:=aA1 (P:=l.prog) (w:=w) (z:=z) D7 T
 have G8:=aC9 (P:=l.prog) (w:=w) (z:=z) D8
 have G9:=aD7 D9 G7 G6 G8 T
 have G10:=aD9 (P:=l.prog) (w:=w) (z:=z) D10 T
 have G11:=yP D11 G10 T
 have G12:=xB D12 G1 G2 T
 have G13:=oF D13 G12 G4 T
 have G14:=aBF D14 G13 G11 G9 T
 have G15:=aJE (P:=l.prog) (w:=w) (z:=z) D15
 have G16:=r0 (P:=l.prog) (w:=w) (z:=z) D16 T
 have G17:=sJ (P:=l.prog) (w:=w) (z:=z) D17 T C_MOST_FIGURES
 have G18:=tH D18 G17 G12 G16 T PX.n PX.q
 have G19:=u3 D19 G18 T C_MOST_LINES PX.n PX.q
 have G20:=u8 D20 G16 T C_VOID E_VOID C_VOID_TEXT C_BREAK
 have G21:=wK D21 G19 G14 T C_VOID E_VOID C_VOID_TEXT C_BREAK PX.n PX.q
 have G22:=yO (P:=l.prog) (w:=w) (z:=z) D22 T
 have G23:=u6 D23 G22 T
 have G24:=aFL (P:=l.prog) (w:=w) (z:=z) D24 T
 have G25:=sR D25 G15 T
 have G26:=aIP D26 G15 T
 have G27:=aDY D27 G24 T
 have G28:=aHR (P:=l.prog) (w:=w) (z:=z) D28 T
 have G29:=u4 D29 G15 G25 T
 have G30:=wM D30 G15 G29 T
 have G31:=yH D31 G23 G27 G28 T
 have G32:=aIW D32 G18 G16 G21 G20 T PX
 have G33:=aKI D33 G3 G25 G26 G32 G23 G30 G31 T
 exact G33
theorem walk{l:pv}{q:Program}{XP:(Str->Option Value)->Heap->Prop}{d:DefRec}{K:wq->qb}(hn:l.most=some 63)(hdf:d.params.defaults=[])(hY:∀(w:World) (h:Heap),YP w h->(K w.params).In h)(F:∀(w:World) (mg:Str->Option Value) (fa:Addr) (h:Heap),(K w.params).In h->h.Ns jo mg->mg d.name=some (.ref fa) ->
   ∃fd:FuncData,(∀(s:Shared) (u:Value),BindsTo s fd ⟨[u],[]⟩ [("_law_script", u)])/\∀z:Heap,(K w.params).In z->z.Ns jo mg->FnOk l.prog w (K w.params) mg z CX0 8 fa fd ["_law_script"] (spZ (K w.params) aB0)):
  JS q loose XP YP l.row.toRowW d [] (λf vs=>Jv f vs):=
 L2.aI2 (n:=63) (k:=8) (x := "_law_script") (CX:=λ_=>CX0) (sp:=λw=>spZ (K w.params) aB0) hn '*' hdf ⟨rfl,by decide,by decide,rfl⟩ hY F
  (λw H a ns hl _ hS=>⟨H,λ_=>none,[.fl (ns.map .int)],λd _=>d = .bl true,⟨Same.refl H,nofun⟩,⟨_,_,rfl,aK3 hS (aAJ ns),by simp only[Dens]⟩,⟨ns,rfl,hl,λ_=>rfl⟩,λv G' H' d M' _ hd e=>by subst e;simpa only[Den] using hd⟩) λ_ _ _ _ _ z=>z
end Q
open PySem PySem.W PyProof.Rows
set_option maxRecDepth 100000 in
set_option maxHeartbeats 0 in
theorem PySem.Challenge.cw_roofridges_k50_no_texts_holds : PySem.Challenge.rw_roofridges_k50_no_texts.Holds := by
 w_on
 refine holds_law HD.said fun said => ?_
 refine holds_open (q:=HD.view) (loose:=[]) (Xt:=HD.Xt) (XP:=XL HD.view []) (Yf:=HD.Hk.obs) (Ya:=HD.Hk.val) (YP:=HD.Hk.says) HD.left (Hook.of HD.Hk) (Hook.keeps HD.Hk) (fun s e=>xl_of s (Bool.and_eq_true_iff.mp e).1) XL.keeps (by rfl) (by rfl) (by rfl) (fun s e=>recFacts_of (Bool.and_eq_true_iff.mp e).2) (by rfl) (by first | assumption | decide +kernel) (by decide +kernel) ⟨rfl,rfl,rfl,rfl,rfl,by decide +kernel⟩ ?hw ?hc
 case hw=>w_witness2
 exact Q.walk (l:=PySem.Challenge.rw_roofridges_k50_no_texts) (K:=HD.K) rfl rfl (fun w h Y=>PySem.W.kIn_of Y) fun w mg fa h KX G hmg=>Q.all_mk KX G hmg
