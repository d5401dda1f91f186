import PyProof.Rows.All
import Wide.All
import OpenK.AllK
import Wide.FinOn
import Lean
import PyProof.EqAt
import PyProof.EqKinds
import PyProof.NeKinds
import PyProof.TupleCall
import PySem.Challenge.RW_roofridges_k07_two_yards_together
set_option Elab.async false
set_option linter.all false
set_option exponentiation.threshold 500
set_option maxRecDepth 100000
set_option maxHeartbeats 4000000
open PySem renaming wpAny_bind→qa,boot_len→qu,wpAny→jd,starEach→je,model→jq,mem_of_lookup→jr,bootBuiltins→jv,mainGlobals→km,wpAny_holding→vc,wpAny_call_entry→vg,wpAny_truthy_bool→vk,wpAny_newObj_type→vm,wpAny_callSpecial?_slot→vn,compareOp→xh,assignEach→xm,Params→xq,treeTable→xu,lookup_relabel_local→ye,pushCells→yi,wpAny_field→yp,intKind→za,wpAny_passesOwn→zb,wpAny_mono→zd,wpAny_setState_of→ze,relabel→zi,binaryOp→zm,wpAny_askSetting→zp,OsState→zw,wpAny_setEntries_of→zy,wpAny_setField_rec→br,strIterType→cj,wpAny_pyIter_list→ck,holding→cv,wpAny_attempt→df,behindInMarks→dg,sysModules→dj,backTo→dt,sliceBounds→dw,wpAny_setField→fg,wpAny_seqItems→fh,codeAny→gm,relayAll→gn,pyNext→gr,wpAny_pyIter_zip→lg,swapsWith→mq,wpAny_typeOf→mw,codeAny_mono→mz,wpAny_execs_nil→ng,pushCells_keeps→nh,letOwnedTupleGo→ni,compPost→nq,GenState→nr,wpAny_rule→nt,wpAny_fieldsOf→pz,IsPart→sd,wpAny_standAt→se,Value→sf,wpAny_pyIter_tuple→si,wpAny_Call_Name_kw→sj,setNext→Qd,Addr→Qm,wpAny_isInstance→Qo,standAt→QD,getItem→QE,callerA→QF,sizeLine_eq→QG,wpAny_load→QY,setsByText→QZ,builtinsNs→Q0,wpAny_comprehension_free→Q1,wpAny_onRaise→Q6,comprehension→Q8,assignInOrder→Q9,call→Jb,wpAny_pyNext_list_item→Jl,codeAny_compStart_list→Jn,pyIter→Ju,pickOrder→Jv,PassesOwn→Jw,seqIndex_neg→Jx,name_of_addr→Jy,Str→JA,wpAny_pyNext_list_end→JC,wpAny_updateSeq_pair→JN,Keyword→JY,seqIndex_of→JZ,storeSet→J5,bindArgs→J6,HeapKind→J7,bindL→Kk,bindC→Kl,Model→Km,wpAny_Name→Ko,wpAny_storeSet_of→Kr,wpAny_setEpoch_of→Ks,wpAny_sequenceKey→Kt,wpAny_pyIter_slot→Ku,wpAny_assign_Name→Kv,fits_of_scanBound→Kw,World→Ky,wpAny_execs_cons→KR,Heap→KU,Expr→KW,Draws→VG,CmpOp→VH,truthy→VI,PlainL→VJ,setItem→VL,newList→VM,wpAny_updateSeq→VN,wpAny_specialOf→VO,typeLookup_type→VP,importedModules→VQ,codeAny_of_tree→VS,wpAny_runValue→VZ,wpAny_newTuple→V0,setAddHashedIn→V4,newFunctionEnv→V5,isSubtype_type→V7,isSubtype_stop→V8,intBits_le_iff→V9,entryFor_alias→Wa
open PySem.Heap renaming get?_push_of_some→qb,get?_push_size→qh,lt_size→qi,size_push→jt,get?_update_self→wx,get?_update_other→bc,SameBut→dh,ExtBut→me
open List renaming size_toArray→qc,mem_cons→qe,getElem?_map→qg,map_append→qj,getElem?_eq_none→qq,mem_map→qw,take_length→qx,range→qy,pairwise_cons→qz,length_append→ja,length_cons→jb,not_mem_nil→jh,mem_singleton→ji,length_dropLast→jj,getElem_mem→jl,mem_append_right→jn,mem_append→jo,getElem_of_mem→jw,lookup_cons→jx,all_eq_true→jy,mem_cons_self→jz,map_congr_left→kc,pairwise_iff_getElem→kd,mem_cons_of_mem→ke,ext_getElem?→kj,replicate→kr,mem_range→ve,length_eq_zero_iff→vf,map_map→vj,getElem?_zip_eq_some→vt,map_cons→vy,filter_cons_of_pos→vz,getElem?_range→wj,nodup_cons→xp,length_take→xw,drop_eq_getElem_cons→x3,length_zip→x5,length_range→x8,replicate_succ→yf,length_pos_iff→yg,filter_cons_of_neg→yh,length_drop→yl,any_eq_true→ym,filter_eq_nil_iff→yn,append_nil→yt,append_assoc→yz,pairwise_append→y8,getElem?_of_mem→y9,getElem?_append_left→zc,getElem?_replicate→zu,getElem?_cons_succ→zv,pairwise_map→bh,flatten_cons→bj,length_filter_le→bw,all_cons→cm,range_succ→cu,getElem?_append_right→de,filter_congr→fb,take_of_length_le→fo,range_succ_eq_map→fq,pairwise_lt_range→fu,getElem_cons_succ→fv,getElem?_dropLast→fw,mem_filter→gf,length_nil→gh,forIn_cons→gi,length_singleton→gj,getElem?_toArray→gk,replicate_succ'→lh,mem_iff_getElem→lj,drop_zero→ll,lookup→ma,length→md,filterMap_cons→mh,sum_cons→nu,filter_append→pd,take_sublist→ra,all_map→rd,getElem_map→rn,dropLast_concat_getLast→tm,of_mem_zip→tu,length_set→tw,filter_nil→Qa,length_eraseIdx_of_lt→Qk,forIn_nil→Qn,pairwise_singleton→Qz,getElem?_set_self→QJ,map_nil→QK,singleton_append→QL,length_replicate→QM,getElem_dropLast→QN,eq_replicate_iff→QO,dropLast_sublist→QP,mem_append_left→QW,getElem?_set_ne→QX,filter_eq_self→Q3,map→Q5,mem_filterMap→Jh,nodup_append→Jo,map_dropLast→Jp,getElem?_set→Jq,zipIdx_cons→JH,drop_length→JI,zipIdx_nil→JS,foldl_cons→JT,zip_map'→Ke,any_cons→Kf,toArray→Kz,any_map→KA,map_id→K0
open PySem.W renaming Frag→qf,cellsFrom_some→vh,fnOf→xt,findIn→ya,kia_one→yq,kitOne→y4,keepIn→z9,methodObj→nj,OpenLaw→rf,codeIn→sk,mroIn→Qh,mg_of→Qi,nsIn→Qp,specialIn→QT,kitx_list→QU,kitMeta→Jd,instObj→Je,WalkO→JD,isFn→JQ
open Nat renaming ne_of_lt→qk,le_refl→qm,lt_of_lt_of_le→qr,le_trans→jf,lt_of_le_of_lt→jm,zero_le→vw,le_of_succ_le→vx,lt_irrefl→wb,lt_add_of_pos_right→wc,lt_succ_of_lt→wk,ne_of_gt→xo,le_of_eq→x9,add_lt_add_left→yk,lt_succ_self→zh,not_lt_zero→zx,eq_zero_or_pos→dq,le_of_not_lt→fk,le_of_lt→gq,le_succ→nc,le_add_right→sr,lt_succ_iff_lt_or_eq→Qy,le_of_dvd→QH,sub_zero→QR,min_self→QS,pow_le_pow_right→Q2,lt_trichotomy→JG,one_lt_pow→Kd,lt_trans→KY,add_comm→KZ,log2_lt→VT,mod_lt→Wc
open Int renaming toNat_natCast→ql,gcd→wa,zero_add→xy,natAbs_natCast→zz,emod_lt_of_pos→z7,emod_nonneg→cy,toNat_of_nonneg→nk,gcd_dvd_right→rj,gcd_dvd_left→tj,natAbs_mul→Qq,fmod_nonneg_of_pos→QQ,gcd_eq_zero_iff→Ji,fdiv_mul_cancel→Jj,fmod_lt_of_pos→Jr,le_of_lt→K1,ediv_one→K2,one_mul→VV,neg_dvd→VW
open Array renaming length_toList→qo,getElem?_eq_getElem→qv,getD_eq_getD_getElem?→jc,getElem?_toList→wu,getElem?_eq_none→QB,toList_push→Jk,toList→Ki,getD→K3
open Bool renaming and_eq_true→qp,and_true→xn,or_eq_true→zq,eq_iff_iff→zt,false_eq_true→di,and_false→dk,eq_false_iff→fc,true_and→Qw,or_false→Kh
open Rat renaming divInt→qt,intCast_natCast→yj,intCast_mul→yy,intCast_lt_intCast→bo,divInt_eq_div→fe,intCast_inj→Qg,intCast_zero→JP,num_divInt→Ka,den_divInt→Kb
open PySem.Str renaming ofString→jg,empty→w4,length→gu
open Option.some renaming inj→jk,injEq→cn
open PySem.NameKind renaming free→ju,cell→vo
open PySem.Value renaming bool→kh,none→w6,type→zg,isInt→bb,ref→bp,int→gb,str→Jz
open Classical renaming byContradiction→kq,propDecidable→tq
open PyProof.Rows renaming slot_tuple_getitem→ku,callWith_type1→xf,firstMet→ff,seqObj→pk,AllBare→rb,boot_zip→rp,boot_abs→rq,envOfC→QC,firstMet_succ→Q7,subscriptTail_builtinR→Jm,entry_tuple_getitem→J0,firstMet_length_le→J8,args_tuple_getitem→J9,callWith_builtin1→Vy,boot_sorted→Vz,boot_isinstance→VA,IntsAre→VB,entry_list_sort→VR,sortedHeap_old→V1,slot_list_sort→V2,slicePart_none→V3,list_sort_tree→V6,args_list_sort→Wb
open PySem.W.Fast renaming te14364793385576792824→vi,tw14364793385576792824→xg,tw15667345088766844465→K9,tw14374325043358763698→Va,tw14082659384304107361→Vb,tw10110043849684766642→Vc,te9446332074065402090→Vd,te4187177175401517315→Ve,te15667345088766844465→Vf,te14374325043358763698→Vg,te14082659384304107361→Vh,te11892475500146522536→Vi,te10110043849684766642→Vj
open Option renaming map_some→vp,isSome_iff_exists→vv,bind_eq_some_iff→zk,map_eq_some_iff→z8,getD_none→Jf,bind_some→Jg,map_map→JF,none→Kc
open PySem.Obj renaming data_mapFields→vq,mapSeq→bq,isFreed_of_fields→cb,mapFields→fi,cls_mapFields→rh,putSet→JB
open PySem.F renaming plainAttrs_str→we,type_str_join→wm,slot_str_join→wo,type_list_append→wy,slot_list_append→wz,plainAttrs_list→xk,slot_zip_next→lq,plain_list_iadd→Qj,slot_set_iter→Qu,plain_set_new→Qv,args_zip_next_1→J3,entry_zip_next→Kg
open ForInStep renaming yield→wg
open PySem.Builtin.SmallTypes renaming ownedTupleIsFree→wq,nextOf→ba,ownedTupleHandOut→cz
open PySem.Heap.SameBut renaming update→w8,refl→VC,extBut→VD
open PySem.SetTable renaming grown→xi,below→xj
open PySem.PyData renaming hasDict→xx,showable→zj,shown→cw,depth→cx,shownAll→fj,showableAll→mf,hasDictAll→pb,depthAll→rm
open PySem.Builtin.Str renaming occurrences→x4,subAt→cq
open PyProof.Rows.F renaming plain_set_update_loop→yo,entry_set_update_loop→dz
open PySem.Builtin.Slice renaming slicePlaces→yr,sliceAdjust→cc,sliceApplied→mm,slicePartIndex→KO,sliceFields→KP
open PySem.Builtin.Tuple renaming tupleExact→yu,tupleItemsOf→mi,tupleIsExact→KM,tupleHashOf→KN
open Sum renaming inl→yw,inr→Qe
open False renaming elim→yx
open PySem.Around renaming under_plainId→y3
open List.Pairwise renaming nil→zf,imp_of_mem→KJ,filter→KL
open Ne renaming symm→dc
open PySem.SetTable.probe renaming go→fm
open Or renaming inr→fz,inl→pw
open True renaming intro→gp
open PySem.Builtin.List renaming listExtendWith→mn,listTooLong→pf,listSameRef→ph,listTouch→VE,listLengthHint→VF
open PySem.SeqAt.EqAt renaming same→nz,str_int→Qr,of_refs→Qs,int_str→Qt,tuple_str→Wg,tuple_none→Wh,tuple_list→Wi,tuple_int→Wj,tuple_bool→Wk,str_tuple→Wl,str_str→Wm,str_none→Wn,str_list→Wo,str_bool→Wp,none_tuple→Wq,none_str→Wr,none_list→Ws,none_int→Wt,none_bool→Wu,list_tuple→Wv,list_str→Ww,list_none→Wx,list_int→Wy,list_bool→Wz,int_tuple→WA,int_none→WB,int_list→WC,int_int→WD,int_bool→WE,bool_tuple→WG,bool_str→WH,bool_none→WI,bool_list→WJ,bool_int→WK,bool_bool→WL
open PySem.Txt renaming join→rg,join→Kq
open PySem.SeqAt.RcAt renaming lists_lengths→rk,tuples→Qx,lists→QI,tuple_list→Wd,list_tuple→We
open PySem.SetTable.below renaming go→Qb
open PySem.Calls renaming Name_function_global→Qc,call_function_entry→Ql
open PySem.pickOrder renaming go→Qf
open PySem.Heap.ExtBut renaming push→QA
open PySem.PassesOwn renaming never→QV
open List.Perm renaming cons→Q4
open PySem.Walks renaming list→Ja,tuple→Kx
open PySem.Draws renaming list→Jc,strAscii→JU,strWide→J4
open Function renaming comp→Js
open PySem.SetTable.Met.empty renaming injEq→Jt
open Prod.mk renaming injEq→JE
open PySem.Builtin.Frozenset renaming updateFrom→JJ,slot0→JK,sizeOf→JL,newClass→JM
open PySem.Shared renaming TypeIs→JO
open PySem.Paired renaming length→JR
open Std.Legacy.Range renaming size→JV,forIn_eq_forIn_range'→JW
open PySem.Heap.Ns renaming new→J1
open PySem.Heap.IsSliceOf renaming new→Kj
open PySem.EqMixed renaming ne_str_int→KB,ne_str_bool→KC,ne_int_str→KD,ne_bool_str→KE,eq_str_int→KF,eq_str_bool→KG,eq_int_str→KH,eq_bool_str→KI
open PySem.Builtin.Range renaming rangeSize→KQ
open PySem.SeqAt renaming EqAt→KS
open PySem.SeqAt.RcNeAt renaming tuples→K4,tuple_list→K5,lists_lengths→K6,lists→K7,list_tuple→K8
open PySem.EqNone renaming ne_str_none→Vk,ne_none_str→Vl,ne_none_none→Vm,ne_none_int→Vn,ne_none_bool→Vo,ne_int_none→Vp,ne_bool_none→Vq,eq_str_none→Vr,eq_none_str→Vs,eq_none_none→Vt,eq_none_int→Vu,eq_none_bool→Vv,eq_int_none→Vw,eq_bool_none→Vx
open PyProof.Rows.IsTup renaming new→VU
open Nat.Coprime renaming symm→VX,dvd_of_dvd_mul_left→VY
theorem zLm{α β}{l:List α}(f:α->β):(l.map f).length=l.length:=List.length_map f
theorem zGe{α}{l:List α}{i:Nat}(h:i<l.length):l[i]?=some l[i]:=List.getElem?_eq_getElem h
theorem zGd{α}{l:List α}{i:Nat}{a:α}:l.getD i a=l[i]?.getD a:=List.getD_eq_getElem?_getD
theorem zGs{α}{l:List α}{i:Nat}{a:α}(h:l[i]?=some a):∃h:i<l.length,l[i]=a:=List.getElem?_eq_some_iff.mp h
theorem zMo{α}{l:List α}{i:Nat}{a:α}(h:l[i]?=some a):a∈l:=List.mem_of_getElem? h
theorem zBf:false≠true:=Bool.false_ne_true
variable {xs l ks ls:List Int}{us its:List sf}{x qual name y x1 x2:JA}{u vl vu:sf}{a it f sl aK7 aLN aMP aM3 aNV dx C:Qm}{o b e c tg iter elt:KW}{P prog:PySem.Program}{w:Ky}{h base h':KU}{t' i j n ep kk:Nat}{ch fp:List Qm}{N ns loose zs:List JA}{A:PySem.Around}{s' s:PySem.Shared}{pins:List (Qm×PySem.Obj)}{t:Bool}{st:PySem.Stmt}{es ifs tgs elts:List KW}{pos' pos px py spos apos cpos p2 tp px1 px2:PySem.Pos}{fd aK8 aLO aMT aM4 aNW:PySem.FuncData}{mg:JA->Option sf}{scope:PySem.Scope}{od:Option Qm}{lo hi:Option Int}{items:Array sf}{ys ws Sx Sy:List Rat}{q:Rat}{YP:Ky->KU->Prop}{m:Int}{js:List Nat}
set_option hygiene false in
local macro_rules
|`($t.$i:fieldIdx)=>match i.raw.isFieldIdx?.getD 0 with|3=>`(aA $t)|4=>`(aB 0 rfl $t)|5=>`(aB 1 rfl $t)|6=>`(hr.mono $t)|7=>`(aB 2 rfl $t)|8=>`(jq X.prog $t)|9=>`(S "/claim/cut.py" $t)|10=>`(cellsFrom (s3.heap.objs.size+1) scope.names $t)|11=>`(aR X scope cs C (x::ns) s₀ H₀ $t)|12=>`(aR X scope (cellsFrom (s3.heap.objs.size+1) scope.names cl) s3.heap.objs.size (x1::x2::ns) s3 H3 $t)|13=>`(aR X scope (cellsFrom (s3.heap.objs.size+1) scope.names cl) s3.heap.objs.size (x::ns) s3 H3 $t)|_=>Lean.Macro.throwUnsupported

set_option hygiene false in
local macro_rules
|`($c:char)=>match c.getChar with|'!'=>`(by omega)|'#'=>`(by lia)|'$'=>`(by simp)|'%'=>`(.lst _)|'&'=>`(s3.heap.push {cls := .type "dict", data := .dict #[]})|'*'=>`(by decide)|'+'=>`(.ListComp elt [⟨.Name x px,iter,ifs,0⟩] scope pos)|','=>`(if ys.getD s 0<xs.getD f 0 then ys.getD s 0 else xs.getD f 0)|'-'=>`(aR X scope cs C (x1::x2::ns) s₀ H₀ fp)|_=>Lean.Macro.throwUnsupported
noncomputable section
namespace L2
open PySem PySem.Spec PyProof.Rows
abbrev Key:=Sum Int Str
noncomputable def pH:Key->Value->Bool
 |.inl k,v=>bb k v
 |.inr x,v=>Value.isStrOf x v
noncomputable def keyH(w:World):Key->Int
 |.inl k=>hashInt k
 |.inr x=>hashStr w x
theorem c5:∀{k:Key}{v:Value},pH k v=true->(∃i t,k=yw i/\v=gb i t)\/(∃x t,k=Qe x/\v=Jz x t)
 |.inl i,v,h=>by
  obtain⟨t,e⟩:=Value.isInt_shape (k:=i) (v:=v) h
  exact .inl ⟨i,t,rfl,e⟩
 |.inr x,v,h=>by
  obtain⟨t,e⟩:=Value.isStrOf_shape (x:=x) (v:=v) h
  exact .inr ⟨x,t,rfl,e⟩
theorem aC3(i:Int)(t:Tok):pH (.inl i) (.int i t)=true:=by simp[pH,bb]
theorem aJ3(a b:Int):decide ((yw a:Key)=yw b)=(a==b):=by
 by_cases e:a=b
 ·subst e;simp
 ·have h:¬(yw a:Key)=yw b:=λq=>e (Sum.inl.inj q)
  rw[decide_eq_false h]
  exact (beq_eq_false_iff_ne.mpr e).symm
theorem aI9(a b:Str):decide ((Qe a:Key)=Qe b)=decide (a=b):=by
 by_cases e:a=b
 ·subst e;simp
 ·have h:¬(Qe a:Key)=Qe b:=λq=>e (Sum.inr.inj q)
  rw[decide_eq_false h,decide_eq_false e]
theorem aJA(a:Int)(b:Str):decide ((yw a:Key)=Qe b)=false:=decide_eq_false (λq=>nomatch q)
theorem aIE(a:Str)(b:Int):decide ((Qe a:Key)=yw b)=false:=decide_eq_false (λq=>nomatch q)
noncomputable def fR(prog:Program)(w:World):PySem.KeyKind prog w Key where
 is:=pH
 hash:=keyH w
 inj:=λv a b ha hb=>by
  rcases c5 ha with ⟨i,t,rfl,rfl⟩|⟨x,t,rfl,rfl⟩
  ·rcases c5 hb with ⟨j,u,rfl,e⟩|⟨y,u,rfl,e⟩
   ·injection e with e1 _;rw[e1]
   ·exact nomatch e
  ·rcases c5 hb with ⟨j,u,rfl,e⟩|⟨y,u,rfl,e⟩
   ·exact nomatch e
   ·injection e with e1 _;rw[e1]
 byValue:=λk v h=>by
  rcases c5 h with ⟨i,t,rfl,rfl⟩|⟨x,t,rfl,rfl⟩ <;> rfl
 pyHash:=λhv h=>by
  rcases c5 hv with ⟨i,t,rfl,rfl⟩|⟨x,t,rfl,rfl⟩
  ·exact wpAny_pyHash_int h
  ·exact wpAny_pyHash_str h
 eqBool:=λhu hv h=>by
  rcases c5 hu with ⟨i,t,rfl,rfl⟩|⟨x,t,rfl,rfl⟩
  ·rcases c5 hv with ⟨j,u,rfl,rfl⟩|⟨y,u,rfl,rfl⟩
   ·rw[aJ3] at h;exact wpAny_eqBool_int h
   ·rw[aJA] at h;exact Qt i t y u _ _ _ _ h
  ·rcases c5 hv with ⟨j,u,rfl,rfl⟩|⟨y,u,rfl,rfl⟩
   ·rw[aIE] at h;exact Qr x t j u _ _ _ _ h
   ·rw[aI9] at h;exact wpAny_eqBool_str h
 «strs» := λk x t v h=>by
  rcases c5 h with ⟨i,u,rfl,e⟩|⟨y,u,rfl,e⟩
  ·exact nomatch e
  ·injection e with e1 _
   subst e1
   cases v <;> rfl
theorem zO(prog:Program)(w:World)(k:Key)(v:Value):(fR prog w).is k v=pH k v:=rfl
theorem wF(prog:Program)(w:World)(i:Int)(t:Tok):(fR prog w).is (.inl i) (.int i t)=true:=aC3 i t
inductive V where
 |non|bl (b:Bool)|int (i:Int)|str (x:Str)|byt (b:Array UInt8)|flt (b:UInt64)|ref (a:Addr)|ty (n:String)
 deriving DecidableEq
noncomputable def RelV:V->Value->Prop
 |.non,u=>u=w6
 |.bl b,u=>u=kh b
 |.int i,u=>∃t,u=gb i t
 |.str x,u=>∃t,u=Jz x t
 |.byt b,u=>∃t,u=Value.bytes b t
 |.flt b,u=>∃t,u=Value.float b t
 |.ref a,u=>u=bp a
 |.ty n,u=>u=zg n
abbrev Vals:List V->List Value->Prop:=Paired RelV
theorem Vals.length{xs:List V}(r:Vals xs us):xs.length=us.length:=JR r
theorem Vals.get:∀{xs:List V}{us:List Value}{i:Nat}{x:V},Vals xs us->xs[i]?=some x->∃u,us[i]?=some u/\RelV x u
 |_,_,_,_, .nil,e=>by simp at e
 |_,_,0,_, .cons r _,e=>by simp at e;subst e;exact⟨_,rfl,r⟩
 |_,_,i+1,x, .cons _ t,e=>by
  obtain⟨u,h1,h2⟩:=Vals.get (i:=i) (x:=x) t (by simpa using e)
  exact⟨u,by simpa using h1,h2⟩
theorem Vals.set{x:V}(r:RelV x u):∀{xs:List V}{us:List Value} (i:Nat),Vals xs us->Vals (xs.set i x) (us.set i u)
 |_,_,_, .nil => .nil
 |_,_,0, .cons _ t => .cons r t
 |_,_,i+1, .cons q t => .cons q (Vals.set r i t)
theorem Vals.append:∀{xs ys:List V}{us ws:List Value},Vals xs us->Vals ys ws->Vals (xs++ys) (us++ws)
 |_,_,_,_, .nil,s=>s
 |_,_,_,_, .cons r t,s => .cons r (Vals.append t s)
theorem Vals.take:∀{xs:List V}{us:List Value} (n:Nat),Vals xs us->Vals (xs.take n) (us.take n)
 |_,_,0,_ => .nil
 |_,_,_+1, .nil => .nil
 |_,_,n+1, .cons r t => .cons r (Vals.take n t)
theorem Vals.drop:∀{xs:List V}{us:List Value} (n:Nat),Vals xs us->Vals (xs.drop n) (us.drop n)
 |_,_,0,r=>r
 |_,_,_+1, .nil => .nil
 |_,_,n+1, .cons _ t=>Vals.drop n t
noncomputable def RelO:Option V->Option Value->Prop
 |some v,some u=>RelV v u
 |none,none=>True
 |_,_=>False
noncomputable def KV{κ:Type}:List (κ×V)->List (κ×Value)->Prop:=Paired λ(p:κ×V) (q:κ×Value)=>p.1=q.1/\RelV p.2 q.2
noncomputable def kV:Key->V
 |.inl i => .int i
 |.inr x => .str x
inductive HO where
 /-- a list -/
 |lst (xs:List V)
 /-- a tuple (never changes) -/
 |tup (xs:List V)
 /-- a dict whose keys are ints and texts;one whose keys are tuples of ints and texts (the empty one is both) -/
 |dK (kvs:List (Key×V))|dT (kvs:List (List Key×V))
 /-- a set of ints: its members,its size -/
 |set (S:Int->Bool) (n:Nat)
 /-- an instance of the class at C,its dict at dx,its attributes -/
 |ins (C dx:Addr) (fs:List (Str×V))
 /-- the dict of the instance at x -/
 |own (x:Addr)
 /-- the dict of an exception -/
 |xd (fs:List (Str×V))
 /-- a bound method,f of x -/
 |met (f x:Addr)
 /-- a range object lo,lo+1, .. below hi -/
 |rng (lo hi:Int)
 /-- a thing that is known to the object (the script;a dict while a loop walks it): read,never written while it is so -/
 |frz (o:Obj) (u:HO)
 /-- a code object's table -/
 |tbl (ps:Array Value)
 /-- any other thing,by what is true of its one object (a def of one's own: SetO a S n:=HO.ext λh => ..) -/
 |ext (φ:Heap->Prop)
abbrev Hp:=Addr->Option HO
noncomputable def upd(H:Hp)(a:Addr)(o:HO):Hp:=λb=>if b=a then some o else H b
theorem bF{H:Hp}{o:HO}:upd H a o a=some o:=by unfold upd;rw[if_pos rfl]
theorem aU{H:Hp}{b:Addr}{o:HO}(h:b≠a):upd H a o b=H b:=by unfold upd;rw[if_neg h]
theorem bH{H:Hp}{b:Addr}{o:HO}(h:H a=some o)(h':H b=none):a≠b:=by
 intro e;subst e;rw[h] at h';cases h'
section
variable (P:Program)(w:World)
noncomputable def dX(H:Hp)(h:Heap)(a:Addr):HO->Prop
 |.lst xs=>xs.length<=sizeLine/\∃(its:List Value) (n:Nat),Vals xs its/\h.get? a=some {cls := .type "list", data := .seq its.toArray n}
 |.tup xs=>xs.length<=sizeLine/\∃its:List Value,Vals xs its/\IsTup h a its.toArray
 |.dK kvs=>kvs.length<=sizeLine/\(a==dj)=false/\∃vs,KV kvs vs/\h.DictOf (fR P w) a vs
 |.dT kvs=>kvs.length<=sizeLine/\(a==dj)=false/\∃xs:List (List Key×Addr×Value),
   Paired (λ(p:List Key×V) (q:List Key×Addr×Value)=>p.1=q.1/\H q.2.1=some (.tup (p.1.map kV))/\RelV p.2 q.2.2) kvs xs /\
   ∃o es ep,h.get? a=some o/\o.ExactDict/\o.data = .dict es ep/\es.toList=xs.map (entryOfKey (tupleKind (fR P w)))/\(xs.map (·.1)).Nodup
 |.set S n=>h.SetOf (za P w) a S n
 |.ins C dx fs=>H dx=some (.own a)/\fs.length<=1000/\dx≠a/\h.get? a=some (Je C dx) /\
   ∃mA,h.Ns1 dx mA/\(∀f,RelO (fs.lookup f) (mA f))/\PySem.Within mA (fs.map (·.1))
 |.own _=>∃o,h.get? a=some o
 |.xd fs=>∃mA,h.Ns1 a mA/\∀f,RelO (fs.lookup f) (mA f)
 |.rng lo hi=>∃t u v,h.get? a=some {cls := .type "range", data := .fields #[.int lo t, .int hi u, .int 1 v]}
 |.frz o u=>h.get? a=some o/\dX H h a u
 |.tbl ps=>h.get? a=some {cls := .none,data := .fields ps}
 |.met f x=>h.get? a=some (nj (.ref f) (.ref x))
 |.ext φ=>φ h/\(∃o,h.get? a=some o)/\∀h1 h2:Heap,φ h1->(∀o,h1.get? a=some o->h2.get? a=some o)->φ h2
noncomputable def HOk(H:Hp)(h:Heap):Prop:=∀a o,H a=some o->dX P w H h a o
end
section
variable {H H':Hp}{o:HO}
theorem dX.lt(x:dX P w H h a o):a<h.objs.size:=by
 cases o with
 |lst xs=>obtain⟨_,_,_,_,e⟩:=x;exact qi e
 |tup xs=>obtain⟨_,_,_,p⟩:=x;exact p.lt
 |dK kvs=>obtain⟨_,_,_,_,o,_,_,e,_⟩:=x;exact qi e
 |dT kvs=>obtain⟨_,_,_,_,o,_,_,e,_⟩:=x;exact qi e
 |set S n=>obtain⟨o,_,_,_,e,_⟩:=x;exact qi e
 |ins C dx fs=>obtain⟨_,_,_,e,_⟩:=x;exact qi e
 |own y=>obtain⟨_,e⟩:=x;exact qi e
 |xd fs=>obtain⟨_,⟨_,_,_,e,_⟩,_⟩:=x;exact qi e
 |rng lo hi=>obtain⟨_,_,_,e⟩:=x;exact qi e
 |frz ob u=>obtain⟨e,_⟩:=x;exact qi e
 |tbl ps=>exact qi (show h.get? a=some _ from x)
 |met f y=>exact qi (show h.get? a=some _ from x)
 |ext φ=>obtain⟨_,⟨_,e⟩,_⟩:=x;exact qi e
theorem Paired.mapP{α β:Type}{F G:α->β->Prop}:∀{l₁:List α}{l₂:List β},Paired F l₁ l₂->(∀a b,F a b->G a b)->Paired G l₁ l₂
 |_,_, .nil,_ => .nil
 |_,_, .cons r t,f => .cons (f _ _ r) (Paired.mapP t f)
theorem dX.stay(x:dX P w H h a o)(k:∀b u,(b=a\/H b=some (.own a))->h.get? b=some u->h'.get? b=some u)(ho:∀b,H b=some (.own a)->H' b=some (.own a))(ht:∀b xs,H b=some (.tup xs)->H' b=some (.tup xs)):dX P w H' h' a o:=by
 induction o with
 |lst xs=>obtain⟨z,its,n,r,e⟩:=x;exact⟨z,its,n,r,k _ _ (.inl rfl) e⟩
 |tup xs=>obtain⟨z,its,r,ob,e,c⟩:=x;exact⟨z,its,r,ob,k _ _ (.inl rfl) e,c⟩
 |dK kvs=>obtain⟨z,y,vs,r,ob,es,ep,e,c⟩:=x;exact⟨z,y,vs,r,ob,es,ep,k _ _ (.inl rfl) e,c⟩
 |dT kvs =>
  obtain⟨z,y,xs,r,ob,es,ep,e,c⟩:=x
  exact⟨z,y,xs,Paired.mapP r λp q z=>⟨z.1,ht _ _ z.2.1,z.2.2⟩,ob,es,ep,k _ _ (.inl rfl) e,c⟩
 |set S n=>obtain⟨ob,es,ep,t,e,c⟩:=x;exact⟨ob,es,ep,t,k _ _ (.inl rfl) e,c⟩
 |ins C dx fs =>
  obtain⟨d,z,ne,e,mA,⟨od,es,ep,e2,c⟩,r⟩:=x
  exact⟨ho _ d,z,ne,k _ _ (.inl rfl) e,mA,⟨od,es,ep,k _ _ (.inr d) e2,c⟩,r⟩
 |own y=>obtain⟨ob,e⟩:=x;exact⟨ob,k _ _ (.inl rfl) e⟩
 |xd fs=>obtain⟨mA,⟨od,es,ep,e,c⟩,r⟩:=x;exact⟨mA,⟨od,es,ep,k _ _ (.inl rfl) e,c⟩,r⟩
 |rng lo hi=>obtain⟨t,u,v,e⟩:=x;exact⟨t,u,v,k _ _ (.inl rfl) e⟩
 |frz ob u ih=>obtain⟨e,q⟩:=x;exact⟨k _ _ (.inl rfl) e,ih q⟩
 |tbl ps =>
  have e:h.get? a=some {cls := .none,data := .fields ps}:=x
  show h'.get? a=some {cls := .none,data := .fields ps}
  exact k a _ (.inl rfl) e
 |met f y =>
  have e:h.get? a=some (nj (.ref f) (.ref y)):=x
  show h'.get? a=some (nj (.ref f) (.ref y))
  exact k a _ (.inl rfl) e
 |ext φ=>obtain⟨p,⟨o,e⟩,st⟩:=x;exact⟨st _ _ p λo q=>k _ _ (.inl rfl) q,⟨o,k _ _ (.inl rfl) e⟩,st⟩
theorem HOk.lt(x:HOk P w H h)(e:H a=some o):a<h.objs.size:=(x a o e).lt
theorem HOk.fresh(x:HOk P w H h)(e:h.objs.size<=a):H a=none:=by
 cases q:H a with
 |none=>rfl
 |some u=>exact absurd (qr (x.lt q) e) (wb _)
theorem HOk.kept(x:HOk P w H h)(k:∀b u,h.get? b=some u->h'.get? b=some u):HOk P w H h':=λa o e =>
 (x a o e).stay (λb u _ q=>k b u q) (λ_ q=>q) λ_ _ q=>q
theorem HOk.laid(x:HOk P w H h)(k:∀b u,h.get? b=some u->h'.get? b=some u)(hp:h.objs.size<=a)(new:dX P w (upd H a o) h' a o):HOk P w (upd H a o) h':=λb u e=>by
 have hn:=x.fresh hp
 by_cases hb:b=a
 ·subst hb;rw[bF] at e;cases e;exact new
 ·rw[aU hb] at e
  exact (x b u e).stay (λc v _ q=>k c v q) (λc q=>by rw[aU (bH q hn)];exact q) λc xs q=>by rw[aU (bH q hn)];exact q
end
noncomputable def Rd(H:Hp)(a:Addr)(u:HO):Prop:=H a=some u\/∃o,H a=some (.frz o u)
theorem Rd.ok{H:Hp}{u:HO}(r:Rd H a u)(x:HOk P w H h):dX P w H h a u:=by
 rcases r with r|⟨o,r⟩
 ·exact x a u r
 ·obtain⟨_,q⟩:=x a _ r
  exact q
noncomputable def Mut:Option HO->Prop
 |some '%'=>True
 |some (.dK _)=>True
 |some (.dT _)=>True
 |some (.set _ _)=>True
 |some (.ins _ _ _)=>True
 |some (.ext _)=>True
 |_=>False
section
variable {H:Hp}{x e:Addr}{o':HO}
theorem HOk.write(ok:HOk P w H h)(mu:Mut (H x))(he:e=x\/H e=some (.own x))(k:∀b u,b≠e->h.get? b=some u->h'.get? b=some u)(heo:∃u,h'.get? e=some u)(new:dX P w (upd H x o') h' x o'):HOk P w (upd H x o') h':=λb u q=>by
 have nown:∀c y,H c=some (.own y)->c≠x:=λc y r z=>by subst z;rw[r] at mu;exact mu
 have ntup:∀c xs,H c=some (.tup xs)->c≠x:=λc xs r z=>by subst z;rw[r] at mu;exact mu
 by_cases hb:b=x
 ·subst hb;rw[bF] at q;cases q;exact new
 ·rw[aU hb] at q
  by_cases hbe:b=e
  ·have q':H b=some (.own x):=by
    rcases he with z|z
    ·exact absurd (hbe.trans z) hb
    ·rw[hbe];exact z
   rw[q] at q';cases q'
   obtain⟨v,hv⟩:=heo
   exact⟨v,by rw[hbe];exact hv⟩
  ·refine (ok b u q).stay (λc v hc r=>k c v ?_ r) (λc r=>by rw[aU (nown c b r)];exact r) λc xs r=>by rw[aU (ntup c xs r)];exact r
   rcases hc with rfl|hc
   ·exact hbe
   ·rintro rfl
    rcases he with z|z
    ·exact nown c b hc z
    ·rw[hc] at z;cases z;exact hb rfl
end
structure Un(fs ex:List Addr)(H H':Hp)(h h':Heap):Prop where
 keep:∀b o,h.get? b=some o->H b=none->b∉fs->b∉ex->h'.get? b=some o
 slot:∀b o,h.get? b=some o->H b=none->b∈fs->b∉ex->∃sl,h'.get? b=some {o with slots:=sl}
 free:∀b o,h.get? b=some o->H b=none->b∉ex->H' b=none
 there:∀b o,h.get? b=some o->b∉ex->∃o',h'.get? b=some o'
 tups:∀b xs,H b=some (.tup xs)->H' b=some (.tup xs)
 frzs:∀b o u,H b=some (.frz o u)->H' b=some (.frz o u)
 tbls:∀b ps,H b=some (.tbl ps)->∃more,H' b=some (.tbl (ps++more))
section
variable {fs fs' ex ex':List Addr}{H H1 H2:Hp}{h1 h2:Heap}{x e:Addr}{o:HO}
theorem Un.any(u:Un fs ex H H1 h h1){b:Addr}{ob:Obj}(q:h.get? b=some ob)(n:H b=none)(hx:b∉ex):∃sl,h1.get? b=some {ob with slots:=sl}:=by
 by_cases hb:b∈fs
 ·exact u.slot b ob q n hb hx
 ·exact⟨ob.slots,u.keep b ob q n hb hx⟩
theorem Un.kept(k:∀b u,h.get? b=some u->h'.get? b=some u):Un fs ex H H h h':=
 ⟨λb ob q _ _ _=>k b ob q,λb ob q _ _ _=>⟨ob.slots,k b ob q⟩,λ_ _ _ n _=>n,λb ob q _=>⟨ob,k b ob q⟩,λ_ _ q=>q,λ_ _ _ q=>q,λ_ ps q=>⟨#[],by rw[q];simp⟩⟩
theorem Un.refl:Un fs ex H H h h:=Un.kept λ_ _ q=>q
theorem Un.laid(k:∀b u,h.get? b=some u->h'.get? b=some u)(hp:h.objs.size<=a)(hn:H a=none):Un fs ex H (upd H a o) h h' where
 keep:=λb u q _ _ _=>k b u q
 slot:=λb u q _ _ _=>⟨u.slots,k b u q⟩
 free:=λb u q n _=>by rw[aU (qk (qr (qi q) hp))];exact n
 there:=λb u q _=>⟨u,k b u q⟩
 tups:=λb xs q=>by rw[aU (bH q hn)];exact q
 frzs:=λb u xs q=>by rw[aU (bH q hn)];exact q
 tbls:=λb ps q=>⟨#[],by rw[aU (bH q hn),q];simp⟩
theorem Un.write(mu:Mut (H x))(he:e=x\/H e=some (.own x))(k:∀b u,b≠e->h.get? b=some u->h'.get? b=some u)(heo:∃u,h'.get? e=some u):Un fs ex H (upd H x o) h h':=by
 have hx:∀b,H b=none->b≠x:=λb n z=>by subst z;rw[n] at mu;exact mu
 have hb:∀b,H b=none->b≠e:=λb n z=>by
  subst z
  rcases he with r|r
  ·exact hx b n r
  ·rw[n] at r;cases r
 have hm:∀b u,H b=some u->¬Mut (some u)->b≠x:=λb u q nm z=>by subst z;rw[q] at mu;exact nm mu
 refine⟨λb u q n _ _=>k b u (hb b n) q,λb u q n _ _=>⟨u.slots,k b u (hb b n) q⟩,λb u q n _=>by rw[aU (hx b n)];exact n,λb u q _ => ?_,
  λb xs q=>by rw[aU (hm b _ q λz=>z)];exact q,λb u xs q=>by rw[aU (hm b _ q λz=>z)];exact q,λb ps q=>⟨#[],by rw[aU (hm b _ q λz=>z),q];simp⟩⟩
 by_cases hbe:b=e
 ·subst hbe;exact heo
 ·exact⟨u,k b u hbe q⟩
end
noncomputable def trk(h:Heap)(H:Hp):List Addr:=(qy h.objs.size).filter λa=>(H a).isSome
noncomputable def lQ(h:Heap)(H:Hp):Heap:=PySem.W.hideAll h (trk h H)
theorem aDB(h:Heap)(H:Hp):(lQ h H).objs.size=h.objs.size:=PySem.W.hideAll_size _ _
theorem aDM{H:Hp}{b:Addr}{o:Obj}(e:h.get? b=some o)(n:H b=none):(lQ h H).get? b=some o:=
 PySem.W.hideAll_get _ e λhm=>by
  have q:(H b).isSome=true:=(gf.mp hm).2
  rw[n] at q;simp at q
theorem aG8{H:Hp}{b:Addr}{o:Obj}(e:(lQ h H).get? b=some o):h.get? b=some o/\H b=none:=by
 have e':h.get? b=some o:=PySem.W.of_hideAll (trk h H) e
 refine⟨e',?_⟩
 cases q:H b with
 |none=>rfl
 |some x =>
  have hm:b∈trk h H:=gf.mpr ⟨ve.mpr (qi e'),by simp[q]⟩
  have z:(lQ h H).get? b=none:=PySem.W.hideAll_none (trk h H) hm
  rw[z] at e;cases e
noncomputable def aF5(g h:Heap)(L:Addr):List (Addr×Obj):=(qy h.objs.size).filterMap λa=>if a=L\/(g.get? a).isSome=true then none else (h.get? a).map λo=>(a,o)
noncomputable def rest(g h:Heap)(L d:Addr):List (Addr×Obj):=(aF5 g h L).filter λp=>decide (p.1≠d)
end L2
variable {H H' H1 G G' G0:L2.Hp}{v:L2.V}
namespace L2
open PySem PySem.Spec PyProof.Rows
structure Mod(K:qf)(mg:Str->Option Value)(base:Heap):Prop where
 kin:K.In base
 glob:base.Ns km mg
 blt:∃mb,base.Ns Q0 mb/\∀x:Str,x ≠ "__name__" -> mb x=jv x
 nolimit:base.NoLimit
/-- the context: a def's body (or a comprehension's block) running. base: fixed through the whole law;s₀,H₀: the entry;outer: the frames whose slots others may change (a def's callers);stack: all frames that run;
   ex: iterators that were made ahead of the entry and are walked here (a comprehension's);fn: the names whose cells were made at the entry (a def: all;a comprehension's block: its own);calm: not within an except suite;pn: pins that every state bears;xe: what is wanted of an exception that leaves the code -/
structure Cx where
 prog:Program
 w:World
 K:qf
 mg:Str->Option Value
 base:Heap
 A:Around
 N:List Str
 s₀:Shared
 H₀:Hp
 env:Env
 outer:List Env
 stack:List Env
 ex:List Addr
 fn:Str->Bool
 calm:Bool
 pn:List (Addr×Obj)
 xe:Value->Shared->Prop
noncomputable def frs(l:List Env):List Addr:=l.filterMap (·.frame)
abbrev Cx.fs(X:Cx):List Addr:=frs X.outer
noncomputable def Vis(sc:Scope)(x:Str):Prop:=sc.names.lookup x=some .local\/sc.names.lookup x=some .cell\/sc.names.lookup x=some .free
noncomputable def Loc(sc:Scope)(x:Str):Prop:=sc.names.lookup x=some .local\/sc.names.lookup x=some .cell
noncomputable def Look(env:Env)(h:Heap)(m:Str->Option Value)(x:Str)(u:Value):Prop:=
 (env.kindOf x=some .local/\m x=some u)\/((env.kindOf x=some .cell\/env.kindOf x=some .free)/\∃c,env.cells.lookup x=some c/\h.IsCell c (some u))
structure Cx.Ok(X:Cx):Prop where
 mod:Mod X.K X.mg X.base
 kind:X.env.scope.kind = .function
 glob:X.env.globals=km
 blt:X.env.builtins=Q0
 above:X.s₀.heap.objs.size<=X.env.locals
 inj:∀x y c,X.env.cells.lookup x=some c->X.env.cells.lookup y=some c->x=y
 has:∀x,(X.env.kindOf x=some .cell\/X.env.kindOf x=some .free)->∃c,X.env.cells.lookup x=some c
 cab:∀x c,X.fn x=true->X.env.cells.lookup x=some c->X.s₀.heap.objs.size<=c
 hd:X.calm=true->X.A.handled=none
 frames:X.A.frames=some X.stack
 stk:X.stack=X.outer\/(X.stack=X.env::X.outer/\X.env.frame=some X.env.locals)
 exf:∀b∈X.ex,b≠X.env.locals/\∀x c,X.env.cells.lookup x=some c->c≠b
 bs:∀b o,X.base.get? b=some o->X.s₀.heap.get? b=some o/\X.H₀ b=none
 bsz:X.base.objs.size<=X.s₀.heap.objs.size
 noex:∀b o,X.base.get? b=some o->b∉X.ex
 exfs:∀b∈X.ex,b∉X.fs
 funs:X.s₀.heap.FunFrames X.base X.outer
 frf:∀b∈X.fs,X.H₀ b=none
structure Inv(X:Cx)(pins:List (Addr×Obj))(σ:List (Option V))(H:Hp)(s:Shared):Prop where
 ok:X.Ok
 os:s.os=X.s₀.os
 bare:rb s.gens
 base:Un X.fs X.ex X.H₀ H X.s₀.heap s.heap
 loc:∃m,s.heap.Ns X.env.locals m/\∀(i:Nat) (x:Str) (v:V),X.N[i]?=some x->σ[i]?=some (some v)->Vis X.env.scope x->∃u,RelV v u/\Look X.env s.heap m x u
 cell:∀x c,X.env.cells.lookup x=some c->∃v,s.heap.IsCell c v
 free:H X.env.locals=none
 freeC:∀x c,X.env.cells.lookup x=some c->H c=none
 pin:∀p∈X.pn++pins,s.heap.get? p.1=some p.2/\H p.1=none/\p.1≠X.env.locals/\p.1∉X.fs/\∀v,p.2.data ≠ .cell v
 hok:HOk X.prog X.w H s.heap
 len:σ.length=X.N.length
section
variable {X:Cx}{σ:List (Option V)}
theorem Cx.Ok.nofr(ok:X.Ok){b:Addr}{o:Obj}(e:X.base.get? b=some o):b∉X.fs:=λhb=>by
 have:=(ok.funs.mem hb).1
 rw[e] at this;cases this
theorem Inv.bs(I:Inv X pins σ H s):∀b o,X.base.get? b=some o->s.heap.get? b=some o/\H b=none:=λb o e =>
 ⟨I.base.keep b o (I.ok.bs b o e).1 (I.ok.bs b o e).2 (I.ok.nofr e) (I.ok.noex b o e),I.base.free b o (I.ok.bs b o e).1 (I.ok.bs b o e).2 (I.ok.noex b o e)⟩
theorem Inv.bk(I:Inv X pins σ H s):∀b o,X.base.get? b=some o->s.heap.get? b=some o:=λb o e=>(I.bs b o e).1
theorem Inv.mod(I:Inv X pins σ H s):Mod X.K X.mg X.base:=I.ok.mod
theorem Inv.kIn(I:Inv X pins σ H s):X.K.In s.heap:=I.ok.mod.kin.keeps I.bk
theorem Inv.lt(I:Inv X pins σ H s):X.env.locals<s.heap.objs.size:=let ⟨_,hn,_⟩:=I.loc;hn.lt
theorem Inv.sz(I:Inv X pins σ H s):X.s₀.heap.objs.size<=s.heap.objs.size:=jf I.ok.above (gq I.lt)
theorem Inv.nofs(I:Inv X pins σ H s)(h:s.heap.objs.size<=a):a∉X.fs:=λhb=>by
 obtain⟨_,o,ho,_⟩:=I.ok.funs.mem hb
 exact absurd (qr (qi ho) (jf I.sz h)) (wb _)
theorem Inv.cne(I:Inv X pins σ H s):∀x c,X.env.cells.lookup x=some c->c≠X.env.locals:=λx c e z=>by
 obtain⟨v,o,ho,hd⟩:=I.cell x c e
 obtain⟨m,⟨o',es,ep,ho',hd',_⟩,_⟩:=I.loc
 rw[z,ho'] at ho;cases ho;rw[hd'] at hd;cases hd
theorem Inv.funs(I:Inv X pins σ H s):s.heap.FunFrames X.base X.outer:=by
 have all:∀(l:List Env),(∀b∈frs l,b∈X.fs)->X.s₀.heap.FunFrames X.base l->s.heap.FunFrames X.base l:=by
  intro l
  induction l with
  |nil=>intro _ _;trivial
  |cons env r ih =>
   intro hs hl
   obtain⟨hk,⟨L,o,hf,hn,ho,hd⟩,hr⟩:=hl
   have hL:L∈X.fs:=hs L (by unfold frs;rw[mh,hf];exact jz)
   obtain⟨sl,e⟩:=I.base.slot L o ho (I.ok.frf L hL) hL λz=>I.ok.exfs L z hL
   exact⟨hk,⟨L,_,hf,hn,e,hd⟩,ih (λb hb=>hs b (by unfold frs;rw[mh,hf];exact ke _ hb)) hr⟩
 exact all X.outer (λ_ hb=>hb) I.ok.funs
theorem Inv.stack(I:Inv X pins σ H s):s.heap.FunFrames X.base X.stack:=by
 rcases I.ok.stk with e|⟨e,hf⟩
 ·rw[e];exact I.funs
 ·rw[e]
  obtain⟨m,hn,_⟩:=I.loc
  refine .cons (by rw[I.ok.kind];decide) hf hn ?_ I.funs
  exact Heap.get?_none_of_le (jf I.ok.bsz I.ok.above)
theorem Inv.stkSub(I:Inv X pins σ H s):∀b∈frs X.stack,b∈X.env.locals::X.fs:=λb hb=>by
 rcases I.ok.stk with e|⟨e,hf⟩
 ·rw[e] at hb;exact ke _ hb
 ·rw[e] at hb
  unfold frs at hb
  rw[mh,hf] at hb
  exact hb
theorem Inv.stkFree(I:Inv X pins σ H s):∀b∈frs X.stack,H b=none:=λb hb=>by
 rcases qe.mp (I.stkSub b hb) with e|hb
 ·rw[e];exact I.free
 ·obtain⟨_,o,ho,_⟩:=I.ok.funs.mem hb
  exact I.base.free b o ho (I.ok.frf b hb) λz=>I.ok.exfs b z hb
theorem Inv.step{g':Array nr}{d':Drawn}(I:Inv X pins σ H s)(hch:∀b∈ch,(b∈X.ex\/X.s₀.heap.objs.size<=b)/\b≠X.env.locals/\(∀x c,X.env.cells.lookup x=some c->c≠b)/\∀p∈X.pn++pins,p.1≠b)(keep:∀b o,b≠X.env.locals->b∉X.fs->b∉ch->s.heap.get? b=some o->H b=none->h'.get? b=some o)(slot:∀b o,b≠X.env.locals->b∈X.fs->b∉ch->s.heap.get? b=some o->H b=none->∃sl,h'.get? b=some {o with slots:=sl})(free:∀b o,b∉ch->s.heap.get? b=some o->H b=none->H' b=none)(there:∀b o,b∉ch->s.heap.get? b=some o->∃o',h'.get? b=some o')(tups:∀b xs,H b=some (.tup xs)->H' b=some (.tup xs))(frzs:∀b o u,H b=some (.frz o u)->H' b=some (.frz o u))(tbls:∀b ps,H b=some (.tbl ps)->∃more,H' b=some (.tbl (ps++more)))(ns:∀m,s.heap.Ns X.env.locals m->h'.Ns X.env.locals m)(hok:HOk X.prog X.w H' h')(hg:rb g'):
  Inv X pins σ H' {s with heap:=h',gens:=g',drawn:=d',toks:=t' }:=by
 have neL:∀b o,X.s₀.heap.get? b=some o->b≠X.env.locals:=λb o e=>qk (qr (qi e) I.ok.above)
 have neC:∀b o,X.s₀.heap.get? b=some o->b∉X.ex->b∉ch:=λb o e hx hb=>by
  rcases (hch b hb).1 with z|z
  ·exact hx z
  ·exact absurd (qr (qi e) z) (wb _)
 have cellK:∀x c,X.env.cells.lookup x=some c->∀v,s.heap.IsCell c v->h'.IsCell c v:=λx c e v ⟨o,ho,hd⟩=>by
  have nch:c∉ch:=λz=>(hch c z).2.2.1 x c e rfl
  by_cases hc:c∈X.fs
  ·obtain⟨sl,q⟩:=slot c o (I.cne x c e) hc nch ho (I.freeC x c e)
   exact⟨_,q,hd⟩
  ·exact⟨o,keep c o (I.cne x c e) hc nch ho (I.freeC x c e),hd⟩
 refine⟨I.ok,I.os,hg,⟨λb o e n hb hx => ?_,λb o e n hb hx => ?_,λb o e n hx => ?_,λb o e hx => ?_,λb xs e=>tups b xs (I.base.tups b xs e),λb o xs e=>frzs b o xs (I.base.frzs b o xs e),λb ps e => ?_⟩,?_,λx c e => ?_,?_,λx c e => ?_,λp hp => ?_,hok,I.len⟩
 ·exact keep b o (neL b o e) hb (neC b o e hx) (I.base.keep b o e n hb hx) (I.base.free b o e n hx)
 ·obtain⟨sl,e1⟩:=I.base.slot b o e n hb hx
  obtain⟨sl',e2⟩:=slot b _ (neL b o e) hb (neC b o e hx) e1 (I.base.free b o e n hx)
  exact⟨sl',e2⟩
 ·obtain⟨o',e1⟩:=I.base.there b o e hx
  exact free b o' (neC b o e hx) e1 (I.base.free b o e n hx)
 ·obtain⟨o',e1⟩:=I.base.there b o e hx
  exact there b o' (neC b o e hx) e1
 ·obtain⟨m1,e1⟩:=I.base.tbls b ps e
  obtain⟨m2,e2⟩:=tbls b _ e1
  exact⟨m1++m2,by rw[e2,Array.append_assoc]⟩
 ·obtain⟨m,hn,hl⟩:=I.loc
  refine⟨m,ns m hn,λi x v e1 e2 e3 => ?_⟩
  obtain⟨u,r,l⟩:=hl i x v e1 e2 e3
  refine⟨u,r,?_⟩
  rcases l with l|⟨k,c,e,z⟩
  ·exact .inl l
  ·exact .inr ⟨k,c,e,cellK x c e _ z⟩
 ·obtain⟨v,z⟩:=I.cell x c e
  exact⟨v,cellK x c e v z⟩
 ·obtain⟨m,⟨o,_,_,ho,_⟩,_⟩:=I.loc
  exact free _ o (λz=>(hch _ z).2.1 rfl) ho I.free
 ·obtain⟨v,o,ho,hd⟩:=I.cell x c e
  exact free c o (λz=>(hch c z).2.2.1 x c e rfl) ho (I.freeC x c e)
 ·obtain⟨e,n,ne,nf,d⟩:=I.pin p hp
  have nch:p.1∉ch:=λz=>(hch p.1 z).2.2.2 p hp rfl
  exact⟨keep p.1 p.2 ne nf nch e n,free p.1 p.2 nch e n,ne,nf,d⟩
theorem Inv.un(I:Inv X pins σ H s)(u:Un X.fs [] H H' s.heap h')(hok:HOk X.prog X.w H' h'):Inv X pins σ H' {s with heap:=h',toks:=t' }:=by
 obtain⟨m,⟨o,es,ep,ho,r⟩,_⟩:=id I.loc
 obtain⟨sl,hL⟩:=u.any ho I.free '$'
 exact I.step (g':=s.gens) (d':=s.drawn) (ch:=[]) (λ_ z=>nomatch z) (λb o _ hb _ e n=>u.keep b o e n hb '$') (λb o _ hb _ e n=>u.slot b o e n hb '$') (λb o _ e n=>u.free b o e n '$') (λb o _ e=>u.there b o e '$') u.tups u.frzs u.tbls (λm' hm=>by
  obtain⟨o',es',ep',ho',r'⟩:=hm
  rw[ho] at ho';cases ho'
  exact⟨_,es',ep',hL,r'⟩) hok I.bare
theorem Inv.call{g':Array nr}{d':Drawn}(I:Inv X pins σ H s)(u:Un (frs X.stack) ch H H' s.heap h')(hok:HOk X.prog X.w H' h')(hg:rb g')(hch:∀b∈ch,(b∈X.ex\/X.s₀.heap.objs.size<=b)/\b≠X.env.locals/\(∀x c,X.env.cells.lookup x=some c->c≠b)/\∀p∈X.pn++pins,p.1≠b):
  Inv X pins σ H' {s with heap:=h',gens:=g',drawn:=d',toks:=t' }:=by
 obtain⟨m,⟨o,es,ep,ho,r⟩,_⟩:=id I.loc
 obtain⟨sl,hL⟩:=u.any ho I.free λz=>(hch _ z).2.1 rfl
 exact I.step (ch:=ch) hch (λb o hL hb hc e n=>u.keep b o e n (λz=>(qe.mp (I.stkSub b z)).elim hL hb) hc) (λb o _ _ hc e n=>u.any e n hc) (λb o hc e n=>u.free b o e n hc) (λb o hc e=>u.there b o e hc) u.tups u.frzs u.tbls (λm' hm=>by
  obtain⟨o',es',ep',ho',r'⟩:=hm
  rw[ho] at ho';cases ho'
  exact⟨_,es',ep',hL,r'⟩) hok hg
theorem Inv.turned(I:Inv X pins σ H s)(k:∀b o,b≠it->s.heap.get? b=some o->h'.get? b=some o)(hn:H it=none)(hL:it≠X.env.locals)(h1:it∈X.ex\/X.s₀.heap.objs.size<=it)(h2:∀x c,X.env.cells.lookup x=some c->c≠it)(h3:∀p∈X.pn++pins,p.1≠it):Inv X pins σ H {s with heap:=h',toks:=t' }:=by
 have nit:∀b u,H b=some u->b≠it:=λb u e z=>by rw[z,hn] at e;cases e
 refine I.step (g':=s.gens) (d':=s.drawn) (ch:=[it]) (λb hb => ?_) (λb o _ _ hc e _=>k b o (λz=>hc (by simp[z])) e) (λb o _ _ hc e _=>⟨o.slots,k b o (λz=>hc (by simp[z])) e⟩) (λ_ _ _ _ n=>n)
  (λb o hc e=>⟨o,k b o (λz=>hc (by simp[z])) e⟩) (λ_ _ e=>e) (λ_ _ _ e=>e) (λb ps e=>⟨#[],by rw[e];simp⟩) (λm hm => ?_) (λb u e => ?_) I.bare
 ·have e:b=it:=by simpa using hb
  subst e
  exact⟨h1,hL,h2,h3⟩
 ·obtain⟨o,es,ep,ho,r⟩:=hm
  exact⟨o,es,ep,k _ o (dc hL) ho,r⟩
 ·refine (I.hok b u e).stay (λc v hc q=>k c v ?_ q) (λ_ q=>q) λ_ _ q=>q
  rcases hc with z|z
  ·rw[z];exact nit b u e
  ·exact nit c _ z
theorem Inv.tok(I:Inv X pins σ H s)(t:Nat):Inv X pins σ H {s with toks:=t}:=I.un (h':=s.heap) (t':=t) Un.refl I.hok
theorem Inv.kept(I:Inv X pins σ H s)(k:∀b u,s.heap.get? b=some u->h'.get? b=some u):Inv X pins σ H {s with heap:=h',toks:=t' }:=I.un (Un.kept k) (I.hok.kept k)
theorem Inv.laid{o:HO}(I:Inv X pins σ H s)(k:∀b u,s.heap.get? b=some u->h'.get? b=some u)(hp:s.heap.objs.size<=a)(new:dX X.prog X.w (upd H a o) h' a o):
  Inv X pins σ (upd H a o) {s with heap:=h',toks:=t' }:=I.un (Un.laid k hp (I.hok.fresh hp)) (I.hok.laid k hp new)
theorem Inv.write{x e:Addr}{o:HO}(I:Inv X pins σ H s)(mu:Mut (H x))(he:e=x\/H e=some (.own x))(k:∀b u,b≠e->s.heap.get? b=some u->h'.get? b=some u)(heo:∃u,h'.get? e=some u)(new:dX X.prog X.w (upd H x o) h' x o):Inv X pins σ (upd H x o) {s with heap:=h',toks:=t' }:=I.un (Un.write mu he k heo) (I.hok.write mu he k heo new)
theorem Inv.pins_of{pins':List (Addr×Obj)}(I:Inv X pins σ H s)(h:∀p∈pins',s.heap.get? p.1=some p.2/\H p.1=none/\p.1≠X.env.locals/\p.1∉X.fs/\∀v,p.2.data ≠ .cell v):Inv X pins' σ H s:=
 ⟨I.ok,I.os,I.bare,I.base,I.loc,I.cell,I.free,I.freeC,λp hp=>(jo.mp hp).elim (λz=>I.pin p (QW _ z)) (h p),I.hok,I.len⟩
theorem tV(hN:N.Nodup)(a:N[i]?=some x)(b:N[j]?=some x):i=j:=by
 obtain⟨h1,e1⟩:=zGs a
 obtain⟨h2,e2⟩:=zGs b
 exact (List.getElem_inj hN).mp (e1.trans e2.symm)
theorem rW{M:Km}{E:Value->Shared->Prop}{Q:Unit->Shared->Prop}(I:Inv X pins σ H s)(hN:X.N.Nodup)(hi:X.N[i]?=some x)(hx:Loc X.env.scope x)(r:RelV v u)(h:∀s',Inv X pins (σ.set i (some v)) H s'->(∃a,dh a s.heap s'.heap/\(a=X.env.locals\/X.env.cells.lookup x=some a))->Q () s')(hf:X.fn x=true\/X.env.scope.names.lookup x=some .local:=by first|exact .inl rfl|exact .inr rfl|assumption):jd M A (storeName X.env x u) Q E s:=by
 obtain⟨m,hn,hl⟩:=id I.loc
 have hcls:(X.env.scope.kind == .class||(X.env.scope.kind == .module&&X.env.locals != X.env.globals))=false:=by rw[I.ok.kind];rfl
 have hiσ:i<σ.length:=by rw[I.len];exact (zGs hi).1
 have cne:=I.cne
 have tracked:∀{a:Addr}{h':Heap},(∃o,s.heap.get? a=some o/\H a=none)->dh a s.heap h'->HOk X.prog X.w H h':=λ{a h'} ha hs b ob e=>by
  obtain⟨_,_,hfree⟩:=ha
  refine (I.hok b ob e).stay (λc w' hc q=>(hs.2 c ?_).trans q) (λ_ q=>q) λ_ _ q=>q
  rintro rfl
  rcases hc with rfl|hc
  ·rw[hfree] at e;cases e
  ·rw[hfree] at hc;cases hc
 rcases hx with hk|hk
 ·refine wpAny_storeName_local hk hn (λh' hn' hs => ?_) hcls
  obtain⟨oL,_,_,hoL,_⟩:=id hn
  refine h _ ⟨I.ok,I.os,I.bare,⟨λb o e n hb hx => ?_,λb o e n hb hx => ?_,I.base.free,λb o e hx => ?_,I.base.tups,I.base.frzs,I.base.tbls⟩,⟨_,hn',λj y v' e1 e2 e3 => ?_⟩,λy c e => ?_,I.free,I.freeC,λp hp => ?_,tracked ⟨oL,hoL,I.free⟩ hs,by simpa using I.len⟩ ⟨_,hs, .inl rfl⟩
  ·exact (hs.2 b (qk (qr (qi e) I.ok.above))).trans (I.base.keep b o e n hb hx)
  ·obtain⟨sl,e1⟩:=I.base.slot b o e n hb hx
   exact⟨sl,(hs.2 b (qk (qr (qi e) I.ok.above))).trans e1⟩
  ·obtain⟨o',e1⟩:=I.base.there b o e hx
   exact⟨o',(hs.2 b (qk (qr (qi e) I.ok.above))).trans e1⟩
  ·by_cases hj:j=i
   ·subst hj
    rw[hi] at e1;cases e1
    rw[QJ hiσ] at e2
    cases e2
    exact⟨u,r, .inl ⟨hk,by simp⟩⟩
   ·rw[QX (dc hj)] at e2
    obtain⟨u',r',q⟩:=hl j y v' e1 e2 e3
    refine⟨u',r',?_⟩
    rcases q with ⟨k,e⟩|⟨k,c,e,z⟩
    ·refine .inl ⟨k,?_⟩
     have:y≠x:=λe=>hj (tV hN e1 (e▸hi))
     simp[this,e]
    ·exact .inr ⟨k,c,e,z.sameBut hs (cne y c e)⟩
  ·obtain⟨w',z⟩:=I.cell y c e
   exact⟨w',z.sameBut hs (cne y c e)⟩
  ·obtain⟨e,n,ne,nf,d⟩:=I.pin p hp
   exact⟨(hs.2 p.1 ne).trans e,n,ne,nf,d⟩
 ·have hfn:X.fn x=true:=by
   rcases hf with z|z
   ·exact z
   ·rw[z] at hk;cases hk
  obtain⟨c,hc⟩:=I.ok.has x (.inl hk)
  obtain⟨w',z⟩:=I.cell x c hc
  refine wpAny_storeName_cell I.ok.kind hk hc z (λh' hc' hs => ?_)
  obtain⟨oc,hoc,hocd⟩:=id z
  refine h {s with heap:=h' } ⟨I.ok,I.os,I.bare,⟨λb o e n hb hx => ?_,λb o e n hb hx => ?_,I.base.free,λb o e hx => ?_,I.base.tups,I.base.frzs,I.base.tbls⟩,⟨m,hn.sameBut hs (dc (cne x c hc)),λj y v' e1 e2 e3 => ?_⟩,λy c' e => ?_,I.free,I.freeC,λp hp => ?_,tracked ⟨oc,hoc,I.freeC x c hc⟩ hs,by simpa using I.len⟩ ⟨c,hs, .inr hc⟩
  ·exact (hs.2 b (qk (qr (qi e) (I.ok.cab x c hfn hc)))).trans (I.base.keep b o e n hb hx)
  ·obtain⟨sl,e1⟩:=I.base.slot b o e n hb hx
   exact⟨sl,(hs.2 b (qk (qr (qi e) (I.ok.cab x c hfn hc)))).trans e1⟩
  ·obtain⟨o',e1⟩:=I.base.there b o e hx
   exact⟨o',(hs.2 b (qk (qr (qi e) (I.ok.cab x c hfn hc)))).trans e1⟩
  ·by_cases hj:j=i
   ·subst hj
    rw[hi] at e1;cases e1
    rw[QJ hiσ] at e2
    cases e2
    exact⟨u,r, .inr ⟨.inl hk,c,hc,hc'⟩⟩
   ·rw[QX (dc hj)] at e2
    obtain⟨u',r',q⟩:=hl j y v' e1 e2 e3
    refine⟨u',r',?_⟩
    rcases q with q|⟨k,c',e,z'⟩
    ·exact .inl q
    ·refine .inr ⟨k,c',e,z'.sameBut hs ?_⟩
     rintro rfl
     exact hj (tV hN e1 (I.ok.inj _ _ _ e hc▸hi))
  ·by_cases hcc:c'=c
   ·subst hcc;exact⟨_,hc'⟩
   ·obtain⟨w2,z2⟩:=I.cell y c' e
    exact⟨w2,z2.sameBut hs hcc⟩
  ·obtain⟨e,n,ne,nf,d⟩:=I.pin p hp
   refine⟨(hs.2 p.1 ?_).trans e,n,ne,nf,d⟩
   intro q
   rw[q,hoc] at e
   have q':oc=p.2:=jk e
   exact d w' (by rw[<- q'];exact hocd)
theorem tG{M:Km}{E:Value->Shared->Prop}{Q:Unit->Shared->Prop}(I:Inv X pins σ H s)(hN:X.N.Nodup)(hi:X.N[i]?=some x)(hx:Loc X.env.scope x)(r:RelV v u)(h:∀s',Inv X pins (σ.set i (some v)) H s'->Q () s')(hf:X.fn x=true\/X.env.scope.names.lookup x=some .local:=by first|exact .inl rfl|exact .inr rfl|assumption):jd M A (storeName X.env x u) Q E s:=
 rW I hN hi hx r (λs' I' _=>h s' I') hf
theorem Inv.call'(I:Inv X pins σ H s)(ho:s'.os=s.os)(u:Un (frs X.stack) ch H H' s.heap s'.heap)(hok:HOk X.prog X.w H' s'.heap)(hg:rb s'.gens)(hch:∀b∈ch,(b∈X.ex\/X.s₀.heap.objs.size<=b)/\b≠X.env.locals/\(∀x c,X.env.cells.lookup x=some c->c≠b)/\∀p∈X.pn++pins,p.1≠b):Inv X pins σ H' s':=by
 obtain⟨h',g',d',t',o'⟩:=s'
 have e:o'=s.os:=ho
 subst e
 exact I.call (g':=g') (t':=t') (d':=d') u hok hg hch
end
abbrev XK:=Value->Option Addr->Hp->Prop
abbrev St:=List (Option V)
abbrev VK:=V->Hp->Prop
abbrev TE:=St->Hp->VK->Prop
abbrev TT:=St->Hp->(Bool->Hp->Prop)->Prop
abbrev TA:=St->Hp->(List V->Hp->Prop)->Prop
structure Ends where
 nx:St->Hp->Prop
 rt:VK
 bk:St->Hp->Prop:=λ_ _=>False
 ct:St->Hp->Prop:=λ_ _=>False
abbrev TS:=Ends->St->Hp->Prop
noncomputable def EP(X:Cx)(pins:List (Addr×Obj))(σ:St)(Q:VK)(u:Value)(s':Shared):Prop:=∃v H',Inv X pins σ H' s'/\RelV v u/\Q v H'
noncomputable def TP(X:Cx)(pins:List (Addr×Obj))(σ:St)(Q:Bool->Hp->Prop)(b:Bool)(s':Shared):Prop:=∃H',Inv X pins σ H' s'/\Q b H'
noncomputable def AP(X:Cx)(pins:List (Addr×Obj))(σ:St)(Q:List V->Hp->Prop)(us:List Value)(s':Shared):Prop:=∃vs H',Inv X pins σ H' s'/\Vals vs us/\Q vs H'
noncomputable def SP(X:Cx)(pins:List (Addr×Obj))(D:Ends)(f:Flow)(s':Shared):Prop:=
 match f with
 |.next=>∃σ' H',Inv X pins σ' H' s'/\D.nx σ' H'
 |.brk=>∃σ' H',Inv X pins σ' H' s'/\D.bk σ' H'
 |.cont=>∃σ' H',Inv X pins σ' H' s'/\D.ct σ' H'
 |.ret u=>∃v σ' H',Inv X pins σ' H' s'/\RelV v u/\D.rt v H'
noncomputable def PE(X:Cx)(e:Expr)(t:TE):Prop:=
 ∀(pins:List (Addr×Obj)) (s:Shared) (σ:St) (H:Hp) (Q:VK),Inv X pins σ H s->t σ H Q->jd X.w.8 X.A (eval e X.env) (EP X pins σ Q) X.xe s
noncomputable def PT(X:Cx)(e:Expr)(t:TT):Prop:=
 ∀(pins:List (Addr×Obj)) (s:Shared) (σ:St) (H:Hp) (Q:Bool->Hp->Prop),Inv X pins σ H s->t σ H Q->jd X.w.8 X.A (isTrue e X.env (eval e X.env)) (TP X pins σ Q) X.xe s
noncomputable def PW(X:Cx)(e:Expr)(t:TT):Prop:=
 ∀(whole:Sem Value) (pins:List (Addr×Obj)) (s:Shared) (σ:St) (H:Hp) (Q:Bool->Hp->Prop),Inv X pins σ H s->t σ H Q->jd X.w.8 X.A (isTrue e X.env whole) (TP X pins σ Q) X.xe s
noncomputable def PA(X:Cx)(es:List Expr)(t:TA):Prop:=
 ∀(pos:Pos) (pins:List (Addr×Obj)) (s:Shared) (σ:St) (H:Hp) (Q:List V->Hp->Prop),Inv X pins σ H s->t σ H Q->jd X.w.8 X.A (spliced (dt pos (je es X.env))) (AP X pins σ Q) X.xe s
noncomputable def PS(X:Cx)(st:Stmt)(t:TS):Prop:=
 ∀(pins:List (Addr×Obj)) (s:Shared) (σ:St) (H:Hp) (D:Ends),Inv X pins σ H s->t D σ H->jd X.w.8 X.A (exec st X.env) (SP X pins D) X.xe s
noncomputable def PSs(X:Cx)(st:List Stmt)(t:TS):Prop:=
 ∀(pins:List (Addr×Obj)) (s:Shared) (σ:St) (H:Hp) (D:Ends),Inv X pins σ H s->t D σ H->jd X.w.8 X.A (execs st X.env) (SP X pins D) X.xe s
theorem thn{α:Type}{t:Sem α}{Q Q':α->Shared->Prop}{M:Km}{E:Value->Shared->Prop}(h:jd M A t Q E s)(hQ:∀a s,Q a s->Q' a s):jd M A t Q' E s:=zd h hQ λ_ _ x=>x
end L2
variable {σ:L2.St}{X:L2.Cx}{te ta:L2.TE}{r:L2.V->List L2.V->L2.Hp->L2.VK->Prop}{tt:L2.TT}
namespace L2
open PySem PySem.Spec PyProof.Rows
section
noncomputable def tVar(i:Nat):TE:=λσ H Q=>∃v,σ[i]?=some (some v)/\Q v H
noncomputable def tC(v:V):TE:=λ_ H Q=>Q v H
theorem aCK{pos:Pos}(hN:X.N[i]?=some x)(hv:Vis X.env.scope x)(hd:(x==("__debug__" : Str))=false:=by decide)(hcd:(x==("__classdict__" : Str))=false:=by decide):PE X (.Name x pos) (tVar i):=by
 intro pins s σ H Q I h
 obtain⟨v,e,h⟩:=h
 obtain⟨m,hn,hl⟩:=I.loc
 obtain⟨u,r,l⟩:=hl i x v hN e hv
 have fin:EP X pins σ Q u s:=⟨v,H,I,r,h⟩
 rcases l with ⟨hk,hm⟩|⟨hk,c,hc,hcell⟩
 ·exact Ko (wpAny_loadName_local I.ok.kind hk hn hm fin) hd
 ·rcases hk with hk|hk
  ·exact Ko (wpAny_loadName_cell I.ok.kind hk hc hcell fin) hd
  ·exact Ko (wpAny_loadName_free I.ok.kind hk hc hcell fin hcd) hd
theorem aJC{i j pos}:PE X (.Constant (.int i) j pos) (tC (.int i)):=λ_ _ _ H _ I h=>wpAny_Constant_int ⟨.int i,H,I.tok _,⟨_,rfl⟩,h⟩
theorem aKP{b j pos}:PE X (.Constant (.bool b) j pos) (tC (.bl b)):=λ_ _ _ H _ I h=>Constant_bool ⟨.bl b,H,I,rfl,h⟩
theorem aJS{j pos}:PE X (.Constant .none j pos) (tC .non):=λ_ _ _ H _ I h=>Constant_none ⟨.non,H,I,rfl,h⟩
theorem aJD{x j pos}:PE X (.Constant (.str x) j pos) (tC (.str x)):=λ_ _ _ H _ I h=>Calls.Constant_str ⟨.str x,H,I.tok _,⟨_,rfl⟩,h⟩
noncomputable def Gl(X:Cx)(x:Str):Prop:=X.env.kindOf x=some .globalImplicit
theorem yH{E:Value->Shared->Prop}{pos:Pos}{Q:Value->Shared->Prop}(I:Inv X pins σ H s)(hg:Gl X x)(hm:X.mg x=some u)(h:Q u s)(hd:(x==("__debug__" : Str))=false:=by decide):jd X.w.8 X.A (eval (.Name x pos) X.env) Q E s:=
 Qc I.ok.kind hg (Calls.loadGlobal_global (by rw[I.ok.glob];exact I.mod.glob.keeps I.bk) hm h) hd
theorem j7{E:Value->Shared->Prop}{pos:Pos}{Q:Value->Shared->Prop}(I:Inv X pins σ H s)(hg:Gl X x)(hm:X.mg x=none)(hv:jv x=some u)(h:Q u s)(hn:x ≠ "__name__" := by decide)(hd:(x==("__debug__" : Str))=false:=by decide):jd X.w.8 X.A (eval (.Name x pos) X.env) Q E s:=by
 obtain⟨mb,h1,h2⟩:=I.mod.blt
 exact Qc I.ok.kind hg (Calls.loadGlobal_builtin (by rw[I.ok.glob];exact I.mod.glob.keeps I.bk) hm (by rw[I.ok.blt];exact h1.keeps I.bk) ((h2 x hn).trans hv) h) hd
theorem wV{pos:Pos}(hg:Gl X x)(hm:X.mg x=some u)(r:RelV v u)(hd:(x==("__debug__" : Str))=false:=by decide):PE X (.Name x pos) (tC v):=
 λ_ _ _ H _ I h=>yH I hg hm ⟨v,H,I,r,h⟩ hd
theorem aH1{pos:Pos}(hg:Gl X x)(hm:X.mg x=none)(hv:jv x=some u)(r:RelV v u)(hn:x ≠ "__name__" := by decide)(hd:(x==("__debug__" : Str))=false:=by decide):PE X (.Name x pos) (tC v):=
 λ_ _ _ H _ I h=>j7 I hg hm hv ⟨v,H,I,r,h⟩ hn hd
variable {a:Expr}{tb:TE}
noncomputable def tB(t:TE):TT:=λσ H Q=>t σ H λx H1=>∃c,x = .bl c/\Q c H1
theorem aIF{t:TE}(h:PE X e t)(he:∀whole,isTrue e X.env whole=(do let v <- whole;QD e.pos;cv [v] (VI v)):=by intro _;rfl):PT X e (tB t):=by
 intro pins s σ H Q I hw
 refine isTrue_plain (thn (h pins s σ H _ I hw) λv s1 ⟨x,H1,I1,r1,q1⟩ => ?_) (he _)
 obtain⟨d,rfl,q⟩:=q1
 cases r1
 exact vk ⟨H1,I1,q⟩
variable {tA tB':TT}{rest:List Expr}
noncomputable def tAnd(t u:TT):TT:=λσ H Q=>t σ H λc H1=>if c=true then u σ H1 Q else Q false H1
noncomputable def tOr(t u:TT):TT:=λσ H Q=>t σ H λc H1=>if c=true then Q true H1 else u σ H1 Q
noncomputable def tNot(t:TT):TT:=λσ H Q=>t σ H λc H1=>Q (!c) H1
theorem aF9(ha:PT X a tA):PW X (.BoolOp .And [a] pos) tA:=by
 intro wh pins s σ H Q I h
 refine isTrue_and (thn (ha pins s σ H Q I h) λc s1 e => ?_)
 cases c with
 |true=>exact isTrue_and_nil e
 |false=>exact e
theorem aIB(ha:PT X a tA):PW X (.BoolOp .Or [a] pos) tA:=by
 intro wh pins s σ H Q I h
 refine isTrue_or (thn (ha pins s σ H Q I h) λc s1 e => ?_)
 cases c with
 |false=>exact isTrue_or_nil e
 |true=>exact e
theorem aJ6(ha:PT X a tA)(hb:PW X (.BoolOp .And (b::rest) pos) tB'):PW X (.BoolOp .And (a::b::rest) pos) (tAnd tA tB'):=by
 intro wh pins s σ H Q I h
 refine isTrue_and (thn (ha pins s σ H _ I h) λc s1 ⟨H1,I1,q1⟩ => ?_)
 cases c with
 |true=>exact hb wh pins s1 σ H1 Q I1 q1
 |false=>exact⟨H1,I1,q1⟩
theorem aKT(ha:PT X a tA)(hb:PW X (.BoolOp .Or (b::rest) pos) tB'):PW X (.BoolOp .Or (a::b::rest) pos) (tOr tA tB'):=by
 intro wh pins s σ H Q I h
 refine isTrue_or (thn (ha pins s σ H _ I h) λc s1 ⟨H1,I1,q1⟩ => ?_)
 cases c with
 |true=>exact⟨H1,I1,q1⟩
 |false=>exact hb wh pins s1 σ H1 Q I1 q1
theorem aI0(ha:PT X a tA):PT X (.UnaryOp .Not a pos) (tNot tA):=by
 intro pins s σ H Q I h
 exact isTrue_not (ha pins s σ H (λc H1=>Q (!c) H1) I h)
noncomputable def aKY(ta tb:TE):TE:=λσ H Q=>ta σ H λx H1=>∃c,x = .bl c/\if c=true then tb σ H1 Q else Q (.bl false) H1
noncomputable def tOrV(ta tb:TE):TE:=λσ H Q=>ta σ H λx H1=>∃c,x = .bl c/\if c=true then Q (.bl true) H1 else tb σ H1 Q
noncomputable def aKI(ta:TE):TE:=λσ H Q=>ta σ H λx H1=>∃c,x = .bl c/\Q (.bl (!c)) H1
theorem aJX{op}{t:TE}(h:PE X a t):PE X (.BoolOp op [a] pos) t:=λpins s σ H Q I hw=>BoolOp_one (h pins s σ H Q I hw)
theorem aI8(ha:PE X a ta)(hb:PE X (.BoolOp .And (b::rest) pos) tb):PE X (.BoolOp .And (a::b::rest) pos) (aKY ta tb):=by
 intro pins s σ H Q I h
 refine BoolOp_and (thn (ha pins s σ H _ I h) λv s1 ⟨x,H1,I1,r1,q1⟩ => ?_)
 obtain⟨c,rfl,q1⟩:=q1
 cases r1
 refine vk ?_
 cases c with
 |true=>exact hb pins s1 σ H1 Q I1 q1
 |false=>exact⟨.bl false,H1,I1,rfl,q1⟩
theorem aKG(ha:PE X a ta)(hb:PE X (.BoolOp .Or (b::rest) pos) tb):PE X (.BoolOp .Or (a::b::rest) pos) (tOrV ta tb):=by
 intro pins s σ H Q I h
 refine BoolOp_or (thn (ha pins s σ H _ I h) λv s1 ⟨x,H1,I1,r1,q1⟩ => ?_)
 obtain⟨c,rfl,q1⟩:=q1
 cases r1
 refine vk ?_
 cases c with
 |false=>exact hb pins s1 σ H1 Q I1 q1
 |true=>exact⟨.bl true,H1,I1,rfl,q1⟩
theorem aIT(ha:PE X a ta):PE X (.UnaryOp .Not a pos) (aKI ta):=by
 intro pins s σ H Q I h
 refine UnaryOp_ (thn (ha pins s σ H _ I h) λv s1 ⟨x,H1,I1,r1,q1⟩ => ?_)
 obtain⟨c,rfl,q1⟩:=q1
 cases r1
 exact not_of (vk ⟨.bl (!c),H1,I1,rfl,q1⟩)
noncomputable def tIf(t:TT)(ta tb:TE):TE:=λσ H Q=>t σ H λc H1=>if c=true then ta σ H1 Q else tb σ H1 Q
theorem aE3(hc:PT X c tA)(ha:PE X a ta)(hb:PE X b tb):PE X (.IfExp c a b pos) (tIf tA ta tb):=by
 intro pins s σ H Q I h
 refine wpAny_IfExp (thn (hc pins s σ H _ I h) λd s1 ⟨H1,I1,q1⟩ => ?_)
 cases d with
 |true=>exact ha pins s1 σ H1 Q I1 q1
 |false=>exact hb pins s1 σ H1 Q I1 q1
end
end L2
namespace L2
open PySem PySem.Spec PyProof.Rows
noncomputable def SqL(K:qf)(H:Hp)(a:Addr)(xs:List V):Prop:=
 Rd H a (.lst xs) \/
  ∃(o:Obj) (its:Array Value) (n:Nat),K.lookup a=some o/\o.cls = .type "list" /\ o.dict=none/\o.data = .seq its n/\its.size<=sizeLine/\Vals xs its.toList
noncomputable def SqT(K:qf)(H:Hp)(a:Addr)(xs:List V):Prop:=
 Rd H a (.tup xs) \/
  ∃(o:Obj) (its:Array Value) (n:Nat),K.lookup a=some o/\o.cls = .type "tuple" /\ o.data = .seq its n/\its.size<=sizeLine/\Vals xs its.toList
noncomputable def absV:Value->Option V
 |.none=>some .non
 |.bool b=>some (.bl b)
 |.int i _=>some (.int i)
 |.str x _=>some (.str x)
 |.bytes b _=>some (.byt b)
 |.float b _=>some (.flt b)
 |.ref a=>some (.ref a)
 |.type n=>some (.ty n)
 |_=>none
theorem RelV.abs{x:V}(r:RelV x u):absV u=some x:=by
 cases x with
 |non=>cases r;rfl
 |bl _=>cases r;rfl
 |int _=>obtain⟨t,rfl⟩:=r;rfl
 |str _=>obtain⟨t,rfl⟩:=r;rfl
 |byt _=>obtain⟨t,rfl⟩:=r;rfl
 |flt _=>obtain⟨t,rfl⟩:=r;rfl
 |ref _=>cases r;rfl
 |ty _=>cases r;rfl
theorem RelV.inj{x y:V}(r:RelV x u)(q:RelV y u):x=y:=jk (r.abs.symm.trans q.abs)
theorem Vals.inj:∀{xs ys:List V}{us:List Value},Vals xs us->Vals ys us->xs=ys
 |_,_,_, .nil, .nil=>rfl
 |_,_,_, .cons r t, .cons r' t'=>by rw[r.inj r',Vals.inj t t']
section
variable {xs ys:List V}
theorem SqL.of{K:qf}(h:H a=some (.lst xs)):SqL K H a xs := .inl (.inl h)
theorem SqT.of{K:qf}(h:H a=some (.tup xs)):SqT K H a xs := .inl (.inl h)
theorem Inv.list(I:Inv X pins σ H s)(h:SqL X.K H a xs):∃its:List Value,Vals xs its/\VJ s.heap a its.toArray/\xs.length<=sizeLine:=by
 rcases h with h|⟨o,its,n,hk,hc,hd,hs,hz,r⟩
 ·obtain⟨z,its,n,r,e⟩:=h.ok I.hok
  exact⟨its,r,⟨_,n,e,rfl,rfl,rfl⟩,z⟩
 ·refine⟨its.toList,r,⟨o,n,I.kIn a o hk,hc,hd,by simpa using hs⟩,?_⟩
  have e:=r.length
  simp only[qo] at e
  omega
theorem Inv.tuple(I:Inv X pins σ H s)(h:SqT X.K H a xs):∃its:List Value,Vals xs its/\IsTup s.heap a its.toArray/\xs.length<=sizeLine:=by
 rcases h with h|⟨o,its,n,hk,hc,hs,hz,r⟩
 ·obtain⟨z,its,r,p⟩:=h.ok I.hok
  exact⟨its,r,p,z⟩
 ·refine⟨its.toList,r,⟨o,I.kIn a o hk,hc,n,by simpa using hs⟩,?_⟩
  have e:=r.length
  simp only[qo] at e
  omega
theorem Inv.list_inj(I:Inv X pins σ H s)(h:SqL X.K H a xs)(h':SqL X.K H a ys):xs=ys:=by
 obtain⟨its,r,⟨o,n,e,_,_,d⟩,_⟩:=I.list h
 obtain⟨its',r',⟨o',n',e',_,_,d'⟩,_⟩:=I.list h'
 rw[e] at e';cases e'
 rw[d] at d'
 injection d' with d1 _
 have:its=its':=by simpa using congrArg Ki d1
 subst this
 exact r.inj r'
theorem Inv.tuple_inj(I:Inv X pins σ H s)(h:SqT X.K H a xs)(h':SqT X.K H a ys):xs=ys:=by
 obtain⟨its,r,⟨o,e,_,n,d⟩,_⟩:=I.tuple h
 obtain⟨its',r',⟨o',e',_,n',d'⟩,_⟩:=I.tuple h'
 rw[e] at e';cases e'
 rw[d] at d'
 injection d' with d1 _
 have:its=its':=by simpa using congrArg Ki d1
 subst this
 exact r.inj r'
end
abbrev Cx.wish(X:Cx)(E:Value->Shared->Prop):Cx:={X with xe:=E}
abbrev Cx.nox(X:Cx):Cx:=X.wish λ_ _=>False
theorem Cx.Ok.wish(ok:X.Ok)(E:Value->Shared->Prop):(X.wish E).Ok:=
 ⟨ok.mod,ok.kind,ok.glob,ok.blt,ok.above,ok.inj,ok.has,ok.cab,ok.hd,ok.frames,ok.stk,ok.exf,ok.bs,ok.bsz,ok.noex,ok.exfs,ok.funs,ok.frf⟩
theorem Cx.Ok.unwish{E:Value->Shared->Prop}(ok:(X.wish E).Ok):X.Ok:=
 ⟨ok.mod,ok.kind,ok.glob,ok.blt,ok.above,ok.inj,ok.has,ok.cab,ok.hd,ok.frames,ok.stk,ok.exf,ok.bs,ok.bsz,ok.noex,ok.exfs,ok.funs,ok.frf⟩
section
variable {E:Value->Shared->Prop}
theorem Inv.wish(I:Inv X pins σ H s)(E:Value->Shared->Prop):Inv (X.wish E) pins σ H s:=⟨I.ok.wish E,I.os,I.bare,I.base,I.loc,I.cell,I.free,I.freeC,I.pin,I.hok,I.len⟩
theorem Inv.unwish(I:Inv (X.wish E) pins σ H s):Inv X pins σ H s:=⟨I.ok.unwish,I.os,I.bare,I.base,I.loc,I.cell,I.free,I.freeC,I.pin,I.hok,I.len⟩
theorem SP.unwish{D:Ends}{f:Flow}(h:SP (X.wish E) pins D f s'):SP X pins D f s':=by
 cases f with
 |next=>obtain⟨σ',H',I,q⟩:=h;exact⟨σ',H',I.unwish,q⟩
 |brk=>obtain⟨σ',H',I,q⟩:=h;exact⟨σ',H',I.unwish,q⟩
 |cont=>obtain⟨σ',H',I,q⟩:=h;exact⟨σ',H',I.unwish,q⟩
 |ret u=>obtain⟨v,σ',H',I,r,q⟩:=h;exact⟨v,σ',H',I.unwish,r,q⟩
theorem PSs.nox{st:List Stmt}{t:TS}(h:PSs X.nox st t):PSs X st t:=λpins s σ H D I hw =>
 zd (h pins s σ H D (I.wish _) hw) (λ_ _ q=>q.unwish) λ_ _ z=>yx z
end
section
variable {rest:List Stmt}{t u:TS}
noncomputable def aK6:TS:=λD σ H=>D.nx σ H
noncomputable def tSeq(t u:TS):TS:=λD σ H=>t {D with nx:=u D} σ H
theorem aG6:PSs X [] aK6:=λ_ _ σ H _ I h=>ng ⟨σ,H,I,h⟩
theorem aDO(h1:PS X st t)(h2:PSs X rest u):PSs X (st::rest) (tSeq t u):=by
 intro pins s σ H D I h
 refine KR (thn (h1 pins s σ H {D with nx:=u D} I h) λf s1 q => ?_)
 cases f with
 |next =>
  obtain⟨σ',H',I',q⟩:=q
  exact h2 pins s1 σ' H' D I' q
 |ret v=>exact q
 |brk=>exact q
 |cont=>exact q
theorem aH0(h1:PS X st t):PSs X [st] t:=by
 intro pins s σ H D I h
 refine KR (thn (h1 pins s σ H D I h) λf s1 q => ?_)
 cases f with
 |next=>exact ng q
 |ret v=>exact q
 |brk=>exact q
 |cont=>exact q
theorem Inv.quiet(I:Inv X pins σ H s):interactive X.env=false:=by simp[interactive,I.ok.kind]
noncomputable def aKU(te:TE):TS:=λD σ H=>te σ H λ_ H1=>D.nx σ H1
theorem aGE(he:PE X e te)(hs:mq e none pos.line X.env=pure false:=by rfl):PS X (.Expr e pos) (aKU te):=by
 intro pins s σ H D I h
 exact wpAny_Expr_any (thn (he pins s σ H _ I h) λv s1 ⟨x,H1,I1,r1,q1⟩=>⟨σ,H1,I1,q1⟩) I.quiet hs
noncomputable def tRet(te:TE):TS:=λD σ H=>te σ H D.rt
theorem aJL(he:PE X e te):PS X (.Return (some e) pos) (tRet te):=by
 intro pins s σ H D I h
 exact wpAny_Return_some (thn (he pins s σ H _ I h) λv s1 ⟨x,H1,I1,r1,q1⟩=>⟨x,σ,H1,I1,r1,q1⟩)
noncomputable def tIfS(c:TT)(t u:TS):TS:=λD σ H=>c σ H λb H1=>if b=true then t D σ H1 else u D σ H1
theorem aKR{a b:List Stmt}{tc:TT}(hc:PT X c tc)(ha:PSs X a t)(hb:PSs X b u):PS X (.If c a b pos) (tIfS tc t u):=by
 intro pins s σ H D I h
 refine wpAny_If (thn (hc pins s σ H _ I h) λd s1 ⟨H1,I1,q1⟩ => ?_)
 cases d with
 |true=>exact ha pins s1 σ H1 D I1 q1
 |false=>exact hb pins s1 σ H1 D I1 q1
end
abbrev TG:=V->St->Hp->(St->Hp->Prop)->Prop
abbrev TGs:=List V->St->Hp->(St->Hp->Prop)->Prop
noncomputable def PG(X:Cx)(target:Expr)(t:TG):Prop:=
 ∀(pins:List (Addr×Obj)) (s:Shared) (σ:St) (H:Hp) (v:V) (u:Value) (Q:St->Hp->Prop),Inv X pins σ H s->RelV v u->t v σ H Q ->
  jd X.w.8 X.A (assign target X.env u) (λ_ s'=>∃σ' H',Inv X pins σ' H' s'/\Q σ' H') X.xe s
noncomputable def PGs(X:Cx)(ts:List Expr)(t:TGs):Prop:=
 ∀(pins:List (Addr×Obj)) (s:Shared) (σ:St) (H:Hp) (vs:List V) (us:List Value) (Q:St->Hp->Prop),Inv X pins σ H s->Vals vs us->t vs σ H Q ->
  jd X.w.8 X.A (Q9 ((xm ts X.env).map (·.2)) us) (λ_ s'=>∃σ' H',Inv X pins σ' H' s'/\Q σ' H') X.xe s
abbrev TSet:=V->V->V->Hp->(Hp->Prop)->Prop
noncomputable def PSet(X:Cx)(t:TSet):Prop:=
 ∀(pins:List (Addr×Obj)) (s:Shared) (σ:St) (H:Hp) (o i v:V) (ov iv u:Value) (Q:Hp->Prop),Inv X pins σ H s->RelV o ov->RelV i iv->RelV v u->t o i v H Q ->
  jd X.w.8 X.A (VL ov iv u) (λ_ s'=>∃H',Inv X pins σ H' s'/\Q H') X.xe s
section
noncomputable def lV(i:Nat):TG:=λv σ H Q=>Q (σ.set i (some v)) H
theorem oG(hN:X.N.Nodup)(hi:X.N[i]?=some x)(hx:Loc X.env.scope x)(hf:X.fn x=true\/X.env.scope.names.lookup x=some .local:=by first|exact .inl rfl|exact .inr rfl|assumption):PG X (.Name x pos) (lV i):=by
 intro pins s σ H v u Q I r h
 exact Kv (tG I hN hi hx r (λs' I'=>⟨_,H,I',h⟩) hf)
noncomputable def gNil:TGs:=λvs σ H Q=>vs=[]/\Q σ H
noncomputable def yX(t:TG)(u:TGs):TGs:=λvs σ H Q=>∃v r,vs=v::r/\t v σ H λσ' H'=>u r σ' H' Q
theorem yK:PGs X [] gNil:=by
 intro pins s σ H vs us Q I r h
 obtain⟨e,h⟩:=h
 subst e
 cases r
 exact assignInOrder_nil ⟨σ,H,I,h⟩
theorem oZ{t:TG}{u:TGs}(h1:PG X e t)(h2:PGs X es u)(hs:(xm (e::es) X.env).map (·.2)=assign e X.env::(xm es X.env).map (·.2):=by rfl):PGs X (e::es) (yX t u):=by
 intro pins s σ H vs us Q I r h
 obtain⟨v,vr,e1,h⟩:=h
 subst e1
 cases r with
 |cons r rr =>
  rw[hs]
  refine assignInOrder_cons (thn (h1 pins s σ H _ _ _ I r h) λ_ s1 ⟨σ1,H1,I1,q1⟩ => ?_)
  exact h2 pins s1 σ1 H1 _ _ Q I1 rr q1
noncomputable def gTup(K:qf)(n:Nat)(t:TGs):TG:=λv σ H Q=>∃a xs,v = .ref a/\SqT K H a xs/\xs.length=n/\t xs σ H Q
theorem aC8{k:Nat}{t:TGs}(hc:X.calm=true)(h:PGs X es t)(hn:(xm es X.env).length=n:=by rfl)(hst:(xm es X.env).findIdx? (·.1)=none:=by rfl):PG X (.Tuple es k pos) (gTup X.K n t):=by
 intro pins s σ H v u Q I r hw
 obtain⟨a,xs,e1,hq,hl,hw⟩:=hw
 subst e1
 cases r
 obtain⟨its,rv,ht,hz⟩:=I.tuple hq
 refine assign_Tuple_tuple (I.ok.hd hc) ht (by simp[hn,<- hl,rv.length]) hst λh' hx => ?_
 have I1:Inv X pins σ H {s with heap:=h' }:=I.kept (t':=s.toks) λb o e=>hx b o (qk (qi e)) e
 exact h pins _ σ H xs _ Q I1 (by simpa using rv) hw
noncomputable def gSub(to ti:TE)(t:TSet):TG:=λv σ H Q=>to σ H λo H1=>ti σ H1 λi H2=>t o i v H2 λH3=>Q σ H3
theorem aC0{i:Expr}{to ti:TE}{t:TSet}(ho:PE X o to)(hi:PE X i ti)(hs:PSet X t)(ha:∀v,assign (.Subscript o i pos) X.env v=(do
   let ov <- cv [v] (eval o X.env)
   let iv <- cv [v,ov] (eval i X.env)
   QD pos
   cv [v,ov,iv] (VL ov iv v)
   release [v,ov,iv] []):=by intro _;rfl):PG X (.Subscript o i pos) (gSub to ti t):=by
 intro pins s σ H v u Q I r h
 rw[ha]
 refine qa (vc (thn (ho pins s σ H _ I h) λov s1 ⟨x,H1,I1,r1,q1⟩ => ?_))
 refine qa (vc (thn (hi pins s1 σ H1 _ I1 q1) λiv s2 ⟨y,H2,I2,r2,q2⟩ => ?_))
 refine qa (se (qa (vc (thn (hs pins s2 σ H2 x y v ov iv u _ I2 r1 r2 r q2) λ_ s3 ⟨H3,I3,q3⟩ => ?_))))
 exact wpAny_release ⟨σ,H3,I3,q3⟩
noncomputable def yZ(te:TE)(g:TG):TS:=λD σ H=>te σ H λx H1=>g x σ H1 D.nx
theorem aIR{g:TG}(he:PE X e te)(hg:PG X tg g)(hs:swapsWithSole [tg] e pos.line X.env=pure false:=by rfl)(hw:swappedStores [tg] e X.env=pure none:=by rfl)(h1:(xm [tg] X.env).map (·.2)=[assign tg X.env]:=by rfl):PS X (.Assign [tg] e pos) (yZ te g):=by
 intro pins s σ H D I h
 refine wpAny_Assign_stores (thn (he pins s σ H _ I h) λv s1 ⟨x,H1,I1,r1,q1⟩ => ?_) hs hw
 rw[h1]
 exact thn (hg pins s1 σ H1 x v _ I1 r1 q1) λ_ s2 q=>q
theorem aJF(hN:X.N.Nodup)(hi:X.N[i]?=some x)(hx:Loc X.env.scope x)(he:PE X e te)(hs:mq e (some (.Name x pos')) pos.line X.env=pure false:=by rfl)(hf:X.fn x=true\/X.env.scope.names.lookup x=some .local:=by first|exact .inl rfl|exact .inr rfl|assumption):
  PS X (.Assign [.Name x pos'] e pos) (yZ te (lV i)):=by
 intro pins s σ H D I h
 refine wpAny_Assign_Name (thn (he pins s σ H _ I h) λv s1 ⟨y,H1,I1,r1,q1⟩ => ?_) hs
 exact tG I1 hN hi hx r1 (λs2 I2=>⟨_,H1,I2,q1⟩) hf
end
section
noncomputable def aI1(c:TT)(tb:TS):TS:=λD σ H=>∃W:Nat->St->Hp->Prop,(∃m,W m σ H)/\∀m σ H,W m σ H ->
 c σ H λb H1=>if b=true then ∃N:St->Hp->Prop,(∀σ' H',N σ' H'->∃m',m'<m/\W m' σ' H')/\tb {D with nx:=N,ct:=N,bk:=D.nx} σ H1 else D.nx σ H1
theorem aFB{body:List Stmt}{tc:TT}{tb:TS}(hp:Jw X.w.8 X.A X.env X.xe)(hc:PT X c tc)(hb:PSs X body tb):PS X (.While c body [] pos) (aI1 tc tb):=by
 intro pins s σ H D I h
 obtain⟨W,⟨m0,w0⟩,turn⟩:=h
 refine wpAny_While (codeAny_whileLoop (λn s'=>∃σ' H',Inv X pins σ' H' s'/\W n σ' H') ?_ m0 ⟨σ,H,I,w0⟩)
 rintro n s1 ⟨σ1,H1,I1,w1⟩
 refine zb hp (thn (hc pins s1 σ1 H1 _ I1 (turn n σ1 H1 w1)) λb s2 ⟨H2,I2,q2⟩ => ?_)
 cases b with
 |true =>
  obtain⟨N,hN,q2⟩:=q2
  rw[if_pos rfl]
  refine zb hp (thn (hb pins s2 σ1 H2 _ I2 q2) λf s3 q3 => ?_)
  cases f with
  |next =>
   obtain⟨σ3,H3,I3,n3⟩:=q3
   obtain⟨m',hm,w3⟩:=hN σ3 H3 n3
   exact⟨m',hm,σ3,H3,I3,w3⟩
  |cont =>
   obtain⟨σ3,H3,I3,n3⟩:=q3
   obtain⟨m',hm,w3⟩:=hN σ3 H3 n3
   exact⟨m',hm,σ3,H3,I3,w3⟩
  |brk=>exact q3
  |ret v=>exact q3
 |false =>
  rw[if_neg zBf]
  exact ng ⟨σ1,H2,I2,q2⟩
end
structure It where
 go:Nat->Hp->Prop
 yld:Nat->Hp->V->Hp->Prop
 stop:Nat->Hp->Prop
noncomputable def jK(X:Cx)(pins:List (Addr×Obj))(H:Hp)(b:Addr):Prop:=
 H b=none/\b≠X.env.locals/\b∉X.fs/\(b∈X.ex\/X.s₀.heap.objs.size<=b)/\(∀x c,X.env.cells.lookup x=some c->c≠b)/\∀p∈X.pn++pins,p.1≠b
theorem Inv.fpOk{b:Addr}(I:Inv X pins σ H s)(hb:s.heap.objs.size<=b)(hn:H' b=none):jK X pins H' b:=by
 refine⟨hn,xo (qr I.lt hb),I.nofs hb, .inr (jf I.sz hb),λx c e z => ?_,λp hp z => ?_⟩
 ·obtain⟨v,q⟩:=I.cell x c e
  exact absurd (qr q.lt (by rw[z];exact hb)) (wb _)
 ·exact absurd (qr (qi (I.pin p hp).1) (by rw[z];exact hb)) (wb _)
structure Turn(P:Program)(w:World)(K:qf)(tg:Expr)(J:It)(fp:List Addr)(it:Addr)(tn:Nat->Heap->Prop):Prop where
 mem:it∈fp
 obj:∀i h,tn i h->∀b∈fp,∃o,h.get? b=some o/\∀v,o.data ≠ .cell v
 keep:∀i h h',tn i h->(∀b∈fp,∀o,h.get? b=some o->h'.get? b=some o)->tn i h'
 item:∀(X:Cx),X.prog=P->X.w=w->X.K=K->X.calm=true->∀(i:Nat) (pins:List (Addr×Obj)) (s:Shared) (σ:St) (H:Hp) (E:Value->Shared->Prop),Inv X pins σ H s->(∀b∈fp,jK X pins H b)->tn i s.heap->J.go i H ->
  jd (jq P w) X.A (gr (.ref it)) (λr s1=>∃u,r=some u /\
   jd (jq P w) X.A (ni tg (.ref it) u) (λ_ s2=>∃x H',Inv X pins σ H' s2/\RelV x u/\J.yld i H x H'/\tn (i+1) s2.heap/\∀b∈fp,H' b=none) E s1) E s
 done:∀(X:Cx),X.prog=P->X.w=w->X.K=K->X.calm=true->∀(i:Nat) (pins:List (Addr×Obj)) (s:Shared) (σ:St) (H:Hp) (E:Value->Shared->Prop),Inv X pins σ H s->(∀b∈fp,jK X pins H b)->tn i s.heap->J.stop i H ->
  jd (jq P w) X.A (gr (.ref it)) (λr s1=>r=none/\Inv X pins σ H s1) E s
 self:∀(A:Around) (i:Nat) (s:Shared) (Q:Value->Shared->Prop) (E:Value->Shared->Prop),tn i s.heap->Q (.ref it) s->jd (jq P w) A (Ju (.ref it)) Q E s
abbrev TI:=St->Hp->(It->Hp->Prop)->Prop
noncomputable def PIE(X:Cx)(pins:List (Addr×Obj))(σ:St)(tg:Expr)(R:It->Hp->Prop)(itv:Value)(s2:Shared):Prop:=
 ∃(it:Addr) (fp:List Addr) (tn:Nat->Heap->Prop) (J:It) (H':Hp),itv = .ref it/\Inv X pins σ H' s2/\Turn X.prog X.w X.K tg J fp it tn/\tn 0 s2.heap/\(∀b∈fp,jK X pins H' b)/\R J H'
noncomputable def PI(X:Cx)(tg iter:Expr)(wi:TI):Prop:=
 ∀(pins:List (Addr×Obj)) (s:Shared) (σ:St) (H:Hp) (R:It->Hp->Prop),Inv X pins σ H s->wi σ H R ->
  jd X.w.8 X.A (eval iter X.env) (λv s1=>jd X.w.8 X.A (Ju v) (PIE X pins σ tg R) X.xe s1) X.xe s
theorem p3{M:Km}{E:Value->Shared->Prop}{o:Obj}{n:String}{vs:Array Value}{Q:Unit->Shared->Prop}(ho:s.heap.get? it=some o)(hc:o.cls = .type n)(hd:o.data = .fields vs)(hn:["enumerate", "zip", "dict_itemiterator", "dict_reverseitemiterator", "odict_iterator", "itertools.zip_longest", "itertools.pairwise"].contains n=false)(hQ:Q () s):jd M A (ni tg (.ref it) u) Q E s:=by
  unfold ni
  cases tg <;> first
    |exact wpAny_pure hQ
    | (cases u <;> first
        |exact wpAny_pure hQ
        | (refine qa (QY ho ?_)
           rw[hc,hd]
           show jd M A (if (["enumerate", "zip", "dict_itemiterator", "dict_reverseitemiterator", "odict_iterator", "itertools.zip_longest", "itertools.pairwise"].contains n&&vs[0]?==some (rawInt _))=true then _ else _) Q E s
           rw[if_neg (by intro h;rw[hn,Bool.false_and] at h;cases h)]
           exact wpAny_pure hQ))
noncomputable def Itl(K:qf)(a:Addr):It:=
 ⟨λi H=>∃xs x,SqL K H a xs/\xs[i]?=some x,λi H x H'=>H'=H/\∀xs,SqL K H a xs->xs[i]?=some x,λi H=>∃xs,SqL K H a xs/\xs.length<=i⟩
noncomputable def Itt(K:qf)(a:Addr):It:=
 ⟨λi H=>∃xs x,SqT K H a xs/\xs[i]?=some x,λi H x H'=>H'=H/\∀xs,SqT K H a xs->xs[i]?=some x,λi H=>∃xs,SqT K H a xs/\xs.length<=i⟩
noncomputable def Itr(lo:Int)(n:Nat):It:=⟨λi _=>i<n,λi H x H'=>H'=H/\x = .int (lo+i),λi _=>n<=i⟩
theorem aBR{K:qf}(a it:Addr):Turn P w K tg (Itl K a) [it] it (λi h=>h.IsListIter it a i) where
 mem:=by simp
 obj:=λi h st b hb=>by
  have e:b=it:=by simpa using hb
  subst e
  obtain⟨o,e,c,d⟩:=st
  exact⟨o,e,λv z=>by rw[d] at z;cases z⟩
 keep:=λi h h' st k=>st.at λo e=>k it '$' o e
 item:=by
  intro X hP hw hK hc i pins s σ H E I hf st hg
  subst hP hw hK
  obtain⟨xs,x,hq,hx⟩:=hg
  obtain⟨its,rv,p,hz⟩:=I.list hq
  obtain⟨u,hu,ru⟩:=rv.get hx
  obtain⟨f0,f1,f2,f3,f4,f5⟩:=hf it '$'
  refine Jl st p.isList (x:=u) (by simpa using hu) λh' st' sb => ?_
  have I1:Inv X pins σ H {s with heap:=h' }:=I.turned (t':=s.toks) (λb o hb e=>(sb.2 b hb).trans e) f0 f1 f3 f4 f5
  obtain⟨o,e,c,d⟩:=id st'
  exact⟨u,rfl,p3 (s:={s with heap:=h' }) e c d '*' ⟨x,H,I1,ru,⟨rfl,λys hy=>by rw[I.list_inj hy hq];exact hx⟩,st',λb hb=>(hf b hb).1⟩⟩
 done:=by
  intro X hP hw hK hc i pins s σ H E I hf st hg
  subst hP hw hK
  obtain⟨xs,hq,hx⟩:=hg
  obtain⟨its,rv,p,hz⟩:=I.list hq
  obtain⟨f0,f1,f2,f3,f4,f5⟩:=hf it '$'
  have hl:=rv.length
  exact JC (I.ok.hd hc) st p.isList (by simp;omega) λh' eb=>⟨rfl,I.turned (t':=s.toks) (λb o hb e=>eb b o hb e) f0 f1 f3 f4 f5⟩
 self:=λ_ _ _ _ _ st h=>wpAny_pyIter_listiter st h
theorem zT{K:qf}(a it:Addr):Turn P w K tg (Itt K a) [it] it (λi h=>h.IsTupleIter it a i) where
 mem:=by simp
 obj:=λi h st b hb=>by
  have e:b=it:=by simpa using hb
  subst e
  obtain⟨o,e,c,d⟩:=st
  exact⟨o,e,λv z=>by rw[d] at z;cases z⟩
 keep:=λi h h' st k=>st.at λo e=>k it '$' o e
 item:=by
  intro X hP hw hK hc i pins s σ H E I hf st hg
  subst hP hw hK
  obtain⟨xs,x,hq,hx⟩:=hg
  obtain⟨its,rv,p,hz⟩:=I.tuple hq
  obtain⟨u,hu,ru⟩:=rv.get hx
  obtain⟨f0,f1,f2,f3,f4,f5⟩:=hf it '$'
  refine wpAny_pyNext_tuple_item st (show s.heap.IsTuple a its.toArray from p) (x:=u) (by simpa using hu) λh' st' sb => ?_
  have I1:Inv X pins σ H {s with heap:=h' }:=I.turned (t':=s.toks) (λb o hb e=>(sb.2 b hb).trans e) f0 f1 f3 f4 f5
  obtain⟨o,e,c,d⟩:=id st'
  exact⟨u,rfl,p3 (s:={s with heap:=h' }) e c d '*' ⟨x,H,I1,ru,⟨rfl,λys hy=>by rw[I.tuple_inj hy hq];exact hx⟩,st',λb hb=>(hf b hb).1⟩⟩
 done:=by
  intro X hP hw hK hc i pins s σ H E I hf st hg
  subst hP hw hK
  obtain⟨xs,hq,hx⟩:=hg
  obtain⟨its,rv,p,hz⟩:=I.tuple hq
  obtain⟨f0,f1,f2,f3,f4,f5⟩:=hf it '$'
  have hl:=rv.length
  exact wpAny_pyNext_tuple_end (I.ok.hd hc) st (show s.heap.IsTuple a its.toArray from p) (by simp;omega) λh' eb=>⟨rfl,I.turned (t':=s.toks) (λb o hb e=>eb b o hb e) f0 f1 f3 f4 f5⟩
 self:=λ_ _ _ _ _ st h=>wpAny_pyIter_tupleiter st h
theorem yY{K:qf}(it:Addr)(lo:Int)(n:Nat):Turn P w K tg (Itr lo n) [it] it (λi h=>IsRangeIter h it (lo+(i:Nat)*1) ((n:Int)-(i:Nat)) 1) where
 mem:=by simp
 obj:=λi h st b hb=>by
  have e:b=it:=by simpa using hb
  subst e
  exact⟨_,st,λv z=>by
   have z':Data.fields _=Data.cell v:=z
   cases z'⟩
 keep:=λi h h' st k=>k it '$' _ st
 item:=by
  intro X hP hw hK hc i pins s σ H E I hf st hg
  subst hP hw hK
  obtain⟨f0,f1,f2,f3,f4,f5⟩:=hf it '$'
  have W:=Walks.range (prog:=X.prog) (w:=X.w) (I.ok.hd hc) it lo 1 n
  refine W.item i s _ _ hg st λv h' tk hv st' kk => ?_
  obtain⟨t,rfl⟩:=hv
  have I1:Inv X pins σ H {s with heap:=h',toks:=tk}:=I.turned (λb o hb e=>kk b o (by simpa using hb) e) f0 f1 f3 f4 f5
  refine⟨_,rfl,p3 (s:={s with heap:=h',toks:=tk}) (n := "range_iterator") st' rfl rfl '*' ⟨.int (lo+i),H,I1,⟨t,?_⟩,⟨rfl,rfl⟩,st',λb hb=>(hf b hb).1⟩⟩
  rw[Int.mul_one]
 done:=by
  intro X hP hw hK hc i pins s σ H E I hf st hg
  subst hP hw hK
  obtain⟨f0,f1,f2,f3,f4,f5⟩:=hf it '$'
  exact wpAny_pyNext_range_end (I.ok.hd hc) st (by have:n<=i:=hg;omega) λh' eb=>⟨rfl,I.turned (t':=s.toks) (λb o hb e=>eb b o hb e) f0 f1 f3 f4 f5⟩
 self:=λ_ _ _ _ _ st h=>wpAny_pyIter_rangeiter st h
end L2
variable {wi:L2.TI}
namespace L2
open PySem PySem.Spec PyProof.Rows
section
theorem tE{R:It->Hp->Prop}{E:Value->Shared->Prop}{lo hi:Int}{t u v:Tok}{tk:Nat}(I:Inv X pins σ H s)(h1 : -(2^62)<=lo)(h2:lo<2^62)(h3 : -(2^62)<=hi)(h4:hi<2^62)(q:R (Itr lo (hi-lo).toNat) H):jd X.w.8 X.A (Ju (.ref s.heap.objs.size)) (PIE X pins σ tg R) E {s with heap:=s.heap.push {cls := .type "range", data := .fields #[.int lo t, .int hi u, .int 1 v]},toks:=tk}:=by
 refine wpAny_pyIter_range (IsRange.new ..) (small_one h1 h2 h3 h4) ?_
 have I1:Inv X pins σ H {s with heap:=s.heap.push {cls := .type "range", data := .fields #[.int lo t, .int hi u, .int 1 v]},toks:=tk}:=I.kept λb o e=>qb _ e
 refine⟨(s.heap.push {cls := .type "range", data := .fields #[.int lo t, .int hi u, .int 1 v]}).objs.size,[(s.heap.push {cls := .type "range", data := .fields #[.int lo t, .int hi u, .int 1 v]}).objs.size],_,_,H,rfl,
  I1.kept (t':=tk) λb o e=>qb _ e,yY _ lo (hi-lo).toNat,?_,λb hb => ?_,q⟩
 ·have e1:lo+((0:Nat):Int)*1=lo:=by simp
  have e2:(((hi-lo).toNat:Nat):Int)-((0:Nat):Int)=KQ lo hi 1:=by rw[rangeSize_one];split <;> omega
  show IsRangeIter _ _ (lo+((0:Nat):Int)*1) ((((hi-lo).toNat:Nat):Int)-((0:Nat):Int)) 1
  rw[e1,e2]
  exact qh _ rfl
 ·have e:b=(s.heap.push {cls := .type "range", data := .fields #[.int lo t, .int hi u, .int 1 v]}).objs.size:=by simpa using hb
  subst e
  exact I1.fpOk (qm _) (I1.hok.fresh (qm _))
noncomputable def aK0(ta:TA):TI:=λσ H R=>ta σ H λvs H1=>∃j:Int,vs=[.int j] /\ -(2^62)<=j/\j<2^62/\R (Itr 0 j.toNat) H1
noncomputable def aKJ(ta:TA):TI:=λσ H R=>ta σ H λvs H1=>∃i j:Int,vs=[.int i, .int j]/\(-(2^62)<=i/\i<2^62 /\ -(2^62)<=j/\j<2^62)/\R (Itr i (j-i).toNat) H1
theorem aBW{a:Expr}{ta:TA}{p:Pos}(hg:Gl X "range")(hm:X.mg "range" = none)(ha:PA X [a] ta)(hs:je [a] X.env=[(false,eval a X.env)]:=by rfl):PI X tg (.Call (.Name "range" p) [a] [] pos) (aK0 ta):=by
 intro pins s σ H R I h
 refine Call_ (j7 I hg hm boot_range (xf (thn (ha pos pins s σ H _ I h) λus s1 ⟨vs,H1,I1,r1,q1⟩ => ?_) hs rfl))
 obtain⟨j,e,q1,q2,q⟩:=q1
 subst e
 cases r1 with
 |cons r rr =>
  cases rr
  obtain⟨t,rfl⟩:=r
  exact call_range_1 (tE I1 '!' '!' q1 q2 (by simpa using q))
theorem aBF{a:Expr}{ta:TA}{p:Pos}(hg:Gl X "range")(hm:X.mg "range" = none)(ha:PA X [a,b] ta)(hs:je [a,b] X.env=[(false,eval a X.env),(false,eval b X.env)]:=by rfl)(hs2:je [b] X.env=[(false,eval b X.env)]:=by rfl):
  PI X tg (.Call (.Name "range" p) [a,b] [] pos) (aKJ ta):=by
 intro pins s σ H R I h
 refine Call_ (j7 I hg hm boot_range (xf (thn (ha pos pins s σ H _ I h) λus s1 ⟨vs,H1,I1,r1,q1⟩ => ?_) (by rw[hs,hs2]) (by rw[hs2];rfl)))
 obtain⟨i,j,e,⟨q1,q2,q3,q4⟩,q⟩:=q1
 subst e
 cases r1 with
 |cons r rr =>
  cases rr with
  |cons r' rr =>
   cases rr
   obtain⟨t,rfl⟩:=r
   obtain⟨t',rfl⟩:=r'
   exact call_range_2 (tE I1 q1 q2 q3 q4 q)
noncomputable def tFor(wi:TI)(g:TG)(tb:TS):TS:=λD σ H=>wi σ H λJ H1=>∃W:Nat->Nat->St->Hp->Prop,(∃m,W 0 m σ H1)/\∀i m σ H,W i m σ H ->
 (J.stop i H/\D.nx σ H)\/(J.go i H/\∃N:St->Hp->Prop,(∀σ' H',N σ' H'->∃m',m'<m/\W (i+1) m' σ' H')/\∀x H',J.yld i H x H'->g x σ H' λσ2 H2=>tb {D with nx:=N,ct:=N,bk:=D.nx} σ2 H2)
noncomputable def kU(fp:List Addr)(h:Heap):List (Addr×Obj):=fp.filterMap λb=>(h.get? b).map λo=>(b,o)
theorem gH{b:Addr}{o:Obj}(hb:b∈fp)(e:h.get? b=some o):(b,o)∈kU fp h:=Jh.mpr ⟨b,hb,by rw[e];rfl⟩
theorem aCR{p:Addr×Obj}(hp:p∈kU fp h):p.1∈fp/\h.get? p.1=some p.2:=by
 obtain⟨b,hb,e⟩:=Jh.mp hp
 cases q:h.get? b with
 |none=>rw[q] at e;cases e
 |some o =>
  rw[q] at e
  have e':(b,o)=p:=jk e
  subst e'
  exact⟨hb,q⟩
theorem Inv.pinned(I:Inv X pins σ H s)(hf:∀b∈fp,jK X pins H b)(ho:∀b∈fp,∃o,s.heap.get? b=some o/\∀v,o.data ≠ .cell v):Inv X (pins++kU fp s.heap) σ H s:=
 I.pins_of λp hp=>(jo.mp hp).elim (λz=>I.pin p (jn _ z)) λz=>by
  obtain⟨hb,e⟩:=aCR z
  obtain⟨f0,f1,f2,_⟩:=hf p.1 hb
  obtain⟨o,e',d⟩:=ho p.1 hb
  rw[e] at e';cases e'
  exact⟨e,f0,f1,f2,d⟩
theorem Inv.unpinned{pl:List (Addr×Obj)}(I:Inv X (pins++pl) σ H s):Inv X pins σ H s:=I.pins_of λp hp=>I.pin p (jn _ (QW _ hp))
theorem aJY{body:List Stmt}{g:TG}{tb:TS}(hp:Jw X.w.8 X.A X.env X.xe)(hc:X.calm=true)(hi:PI X tg iter wi)(hg:PG X tg g)(hb:PSs X body tb)(hs:∀x,foldedSetIterable iter X.env x=pure x:=by intro _;rfl):PS X (.For tg iter body [] pos) (tFor wi g tb):=by
 intro pins s σ H D I h
 refine wpAny_For (thn (hi pins s σ H _ I h) λv s1 h1=>thn h1 λitv s2 h2 => ?_) hs
 obtain⟨it,fp,tn,J,H2,e,I2,T,st2,f2,W,⟨m0,w0⟩,turn⟩:=h2
 subst e
 -- what stays true of the iterator's objects through the loop
 have stat:∀{H':Hp},(∀b∈fp,H' b=none)->∀b∈fp,jK X pins H' b:=λhn b hb=>⟨hn b hb,(f2 b hb).2⟩
 refine codeAny_forLoop_any (λn s'=>∃i σ' H',Inv X pins σ' H' s'/\tn i s'.heap/\(∀b∈fp,H' b=none)/\W i n σ' H') ?_ m0 ⟨0,σ,H2,I2,st2,λb hb=>(f2 b hb).1,w0⟩
 rintro n s3 ⟨i,σ3,H3,I3,st3,fr3,w3⟩
 rcases turn i n σ3 H3 w3 with ⟨stop,qn⟩|⟨go,N,hN,step⟩
 ·refine zb hp (thn (T.done X rfl rfl rfl hc i pins s3 σ3 H3 X.xe I3 (stat fr3) st3 stop) λr s4 ⟨hr,I4⟩ => ?_)
  subst hr
  exact ng ⟨σ3,H3,I4,qn⟩
 ·refine zb hp (thn (T.item X rfl rfl rfl hc i pins s3 σ3 H3 X.xe I3 (stat fr3) st3 go) λr s4 ⟨u,hr,h4⟩ => ?_)
  subst hr
  refine zb hp (thn h4 λ_ s5 ⟨x,H5,I5,r5,y5,st5,fr5⟩ => ?_)
  have I5':=I5.pinned (stat fr5) (T.obj _ _ st5)
  refine zb hp (thn (hg _ s5 σ3 H5 x u _ I5' r5 (step x H5 y5)) λ_ s6 ⟨σ6,H6,I6,q6⟩ => ?_)
  refine zb hp (thn (hb _ s6 σ6 H6 _ I6 q6) λf s7 q7 => ?_)
  have again:∀{σ7:St}{H7:Hp},Inv X (pins++kU fp s5.heap) σ7 H7 s7->N σ7 H7->∃m,m<n/\∃i σ' H',Inv X pins σ' H' s7/\tn i s7.heap/\(∀b∈fp,H' b=none)/\W i m σ' H':=λ{σ7 H7} I7 n7=>by
   obtain⟨m',hm,w7⟩:=hN σ7 H7 n7
   refine⟨m',hm,i+1,σ7,H7,I7.unpinned,T.keep _ _ _ st5 λb hb o e=>(I7.pin (b,o) (jn _ (jn _ (gH hb e)))).1,λb hb => ?_,w7⟩
   obtain⟨o,e,d⟩:=T.obj _ _ st5 b hb
   exact (I7.pin (b,o) (jn _ (jn _ (gH hb e)))).2.1
  cases f with
  |next=>obtain⟨σ7,H7,I7,n7⟩:=q7;exact again I7 n7
  |cont=>obtain⟨σ7,H7,I7,n7⟩:=q7;exact again I7 n7
  |brk=>obtain⟨σ7,H7,I7,q7⟩:=q7;exact⟨σ7,H7,I7.unpinned,q7⟩
  |ret v=>obtain⟨x7,σ7,H7,I7,r7,q7⟩:=q7;exact⟨x7,σ7,H7,I7.unpinned,r7,q7⟩
end
end L2
namespace L2
open PySem PySem.Spec PyProof.Rows
abbrev R2:=V->V->Hp->VK->Prop
noncomputable def OpR(X:Cx)(f:Value->Value->Sem Value)(r:R2):Prop:=
 ∀(pins:List (Addr×Obj)) (s:Shared) (σ:St) (H:Hp) (x y:V) (v u:Value) (Q:VK),Inv X pins σ H s->RelV x v->RelV y u->r x y H Q ->
  jd X.w.8 X.A (f v u) (EP X pins σ Q) X.xe s
noncomputable def UnR(X:Cx)(f:Value->Sem Value)(r:V->Hp->VK->Prop):Prop:=
 ∀(pins:List (Addr×Obj)) (s:Shared) (σ:St) (H:Hp) (x:V) (v:Value) (Q:VK),Inv X pins σ H s->RelV x v->r x H Q ->
  jd X.w.8 X.A (f v) (EP X pins σ Q) X.xe s
noncomputable def eF(X:Cx)(f:Value)(r:List V->Hp->VK->Prop):Prop:=
 ∀(pins:List (Addr×Obj)) (s:Shared) (σ:St) (H:Hp) (xs:List V) (us:List Value) (Q:VK),Inv X pins σ H s->Vals xs us->r xs H Q ->
  jd X.w.8 X.A (call f us) (EP X pins σ Q) X.xe s
noncomputable def TruR(X:Cx)(r:V->Hp->(Bool->Hp->Prop)->Prop):Prop:=
 ∀(pins:List (Addr×Obj)) (s:Shared) (σ:St) (H:Hp) (x:V) (v:Value) (Q:Bool->Hp->Prop),Inv X pins σ H s->RelV x v->r x H Q ->
  jd X.w.8 X.A (VI v) (TP X pins σ Q) X.xe s
noncomputable def tOp(r:R2)(ta tb:TE):TE:=λσ H Q=>ta σ H λx H1=>tb σ H1 λy H2=>r x y H2 Q
noncomputable def tUn(r:V->Hp->VK->Prop)(ta:TE):TE:=λσ H Q=>ta σ H λx H1=>r x H1 Q
noncomputable def rI(C:Int->Int->Prop)(g:Int->Int->V):R2:=λx y H Q=>∃i j,x = .int i/\y = .int j/\C i j/\Q (g i j) H
noncomputable def rI0(g:Int->Int->V):R2:=λx y H Q=>∃i j,x = .int i/\y = .int j/\Q (g i j) H
noncomputable def rU(g:Int->V):V->Hp->VK->Prop:=λx H Q=>∃i,x = .int i/\Q (g i) H
section
variable {a:Expr}{tb tc:TE}
theorem aDT(ha:PE X a ta)(hb:PE X b tb){R:V->V->Hp->Prop}(I:Inv X pins σ H s)(h:ta σ H λx H1=>tb σ H1 λy H2=>R x y H2){Q:Value->Shared->Prop}{f:Value->Value->Sem Value}(hf:∀v u s2 x y H2,Inv X pins σ H2 s2->RelV x v->RelV y u->R x y H2->jd X.w.8 X.A (f v u) Q X.xe s2):
  jd X.w.8 X.A (eval a X.env) (λv s₁=>jd X.w.8 X.A (eval b X.env) (λu s₂=>jd X.w.8 X.A (f v u) Q X.xe s₂) X.xe s₁) X.xe s:=by
 refine thn (ha pins s σ H _ I h) λv s1 ⟨x,H1,I1,r1,q1⟩ => ?_
 refine thn (hb pins s1 σ H1 _ I1 q1) λu s2 ⟨y,H2,I2,r2,q2⟩ => ?_
 exact hf v u s2 x y H2 I2 r1 r2 q2
theorem aKS{op:Operator}{r:R2}(ho:OpR X (zm op) r)(ha:PE X a ta)(hb:PE X b tb):PE X (.BinOp a op b pos) (tOp r ta tb):=by
 intro pins s σ H Q I h
 exact wpAny_BinOp (aDT ha hb I h λv u s2 x y H2 I2 rx ry q=>ho pins s2 σ H2 x y v u Q I2 rx ry q)
theorem aKA{op:UnaryOp}{r:V->Hp->VK->Prop}(ho:UnR X (unaryOp op) r)(ha:PE X a ta):PE X (.UnaryOp op a pos) (tUn r ta):=by
 intro pins s σ H Q I h
 exact UnaryOp_ (thn (ha pins s σ H _ I h) λv s1 ⟨x,H1,I1,r1,q1⟩=>ho pins s1 σ H1 x v Q I1 r1 q1)
theorem opI{f:Value->Value->Sem Value}{C:Int->Int->Prop}{g:Int->Int->Int}(rule:∀(i j:Int) (t u:Tok) (s:Shared) (Q:Value->Shared->Prop) (E:Value->Shared->Prop),C i j->Q (.int (g i j) s.toks) {s with toks:=s.toks+1}->jd X.w.8 X.A (f (.int i t) (.int j u)) Q E s):
  OpR X f (rI C λi j => .int (g i j)):=by
 intro pins s σ H x y v u Q I rx ry h
 obtain⟨i,j,rfl,rfl,hc,q⟩:=h
 obtain⟨t,rfl⟩:=rx
 obtain⟨t',rfl⟩:=ry
 exact rule i j t t' s _ _ hc ⟨.int (g i j),H,I.tok _,⟨_,rfl⟩,q⟩
theorem opI0{f:Value->Value->Sem Value}{g:Int->Int->Int}(rule:∀(i j:Int) (t u:Tok) (s:Shared) (Q:Value->Shared->Prop) (E:Value->Shared->Prop),Q (.int (g i j) s.toks) {s with toks:=s.toks+1}->jd X.w.8 X.A (f (.int i t) (.int j u)) Q E s):
  OpR X f (rI0 λi j => .int (g i j)):=by
 intro pins s σ H x y v u Q I rx ry h
 obtain⟨i,j,rfl,rfl,q⟩:=h
 obtain⟨t,rfl⟩:=rx
 obtain⟨t',rfl⟩:=ry
 exact rule i j t t' s _ _ ⟨.int (g i j),H,I.tok _,⟨_,rfl⟩,q⟩
theorem zA{f:Value->Value->Sem Value}{g:Int->Int->Bool}(rule:∀(i j:Int) (t u:Tok) (s:Shared) (Q:Value->Shared->Prop) (E:Value->Shared->Prop),Q (.bool (g i j)) s->jd X.w.8 X.A (f (.int i t) (.int j u)) Q E s):
  OpR X f (rI0 λi j => .bl (g i j)):=by
 intro pins s σ H x y v u Q I rx ry h
 obtain⟨i,j,rfl,rfl,q⟩:=h
 obtain⟨t,rfl⟩:=rx
 obtain⟨t',rfl⟩:=ry
 exact rule i j t t' s _ _ ⟨.bl (g i j),H,I,rfl,q⟩
noncomputable def CDiv(i j:Int):Prop:=0<j/\j<1073741824
noncomputable def CPow(i j:Int):Prop:=0<=j/\j<=1000000/\i.natAbs<2^64
noncomputable def CMul(i j:Int):Prop:=(-(2^64)<i/\i<2^64)\/(-(2^64)<j/\j<2^64)
theorem CMul.ok{i j:Int}(h:CMul i j):IntMulOk i j:=by
 rcases h with ⟨h1,h2⟩|⟨h1,h2⟩
 ·exact .of_left (intBits_le_64 h1 h2)
 ·exact .of_right (intBits_le_64 h1 h2)
theorem cC:OpR X (zm .Add) (rI0 λi j => .int (i+j)):=opI0 λ_ _ _ _ _ _ _ q=>add_int q
theorem cU:OpR X (zm .Sub) (rI0 λi j => .int (i-j)):=opI0 λ_ _ _ _ _ _ _ q=>sub_int q
theorem eE:OpR X (zm .Mult) (rI CMul λi j => .int (i*j)):=opI λ_ _ _ _ _ _ _ hc q=>mul_int q hc.ok
theorem qW:OpR X (zm .FloorDiv) (rI CDiv λi j => .int (i/j)):=opI λi j _ _ _ _ _ hc q=>by
 have h1:(0:Int)<j:=hc.1
 have h2:j<1073741824:=hc.2
 exact floordiv_int '!' (by rw[Int.fdiv_eq_ediv_of_nonneg i '!'];exact q) (.inl (PyProof.noPylong_small '!'))
theorem jH:OpR X (zm .Mod) (rI (λ_ j=>0<j) λi j => .int (i%j)):=opI λi j _ _ _ _ _ hc q=>by
 have h1:(0:Int)<j:=hc
 exact mod_int' '!' (by rw[Int.fmod_eq_emod_of_nonneg i '!'];exact q)
theorem aHK:OpR X (zm .Mod) (rI (λ_ j=>j≠0) λi j => .int (i.fmod j)):=opI λ_ _ _ _ _ _ _ hc q=>mod_int' hc q
theorem aB9:OpR X (zm .Pow) (rI CPow λi j => .int (i^j.toNat)):=opI λ_ _ _ _ _ _ _ hc q=>pow_int_small hc.1 hc.2.1 hc.2.2 q
theorem unI{f:Value->Sem Value}{g:Int->Int}(rule:∀(i:Int) (t:Tok) (s:Shared) (Q:Value->Shared->Prop) (E:Value->Shared->Prop),Q (.int (g i) s.toks) {s with toks:=s.toks+1}->jd X.w.8 X.A (f (.int i t)) Q E s):
  UnR X f (rU λi => .int (g i)):=by
 intro pins s σ H x v Q I rx h
 obtain⟨i,rfl,q⟩:=h
 obtain⟨t,rfl⟩:=rx
 exact rule i t s _ _ ⟨.int (g i),H,I.tok _,⟨_,rfl⟩,q⟩
theorem fM:UnR X (unaryOp .USub) (rU λi => .int (-i)):=unI λ_ _ _ _ _ q=>neg_int q
end
noncomputable def scal:V->V->Bool
 |.non, .non=>true|.non, .int _=>true|.int _, .non=>true|.non, .bl _=>true|.bl _, .non=>true|.non, .str _=>true|.str _, .non=>true
 |.int _, .int _=>true|.bl _, .bl _=>true|.str _, .str _=>true|.byt _, .byt _=>true
 |.int _, .str _=>true|.str _, .int _=>true|.bl _, .str _=>true|.str _, .bl _=>true
 |_,_=>false
noncomputable def rEq:R2:=λx y H Q=>scal x y=true/\Q (.bl (decide (x=y))) H
noncomputable def rNe:R2:=λx y H Q=>scal x y=true/\Q (.bl (!decide (x=y))) H
theorem xP{i j:Int}:decide (V.int i=V.int j)=(i==j):=by
 rw[zt]
 simp
theorem aBL{i j:Bool}:decide (V.bl i=V.bl j)=(i==j):=by
 rw[zt]
 simp
theorem yR{i j:Str}:decide (V.str i=V.str j)=(i==j):=by
 rw[zt]
 simp
theorem yN{i j:Array UInt8}:decide (V.byt i=V.byt j)=(i.toList==j.toList):=by
 rw[zt]
 cases i
 cases j
 simp
section
variable {a:Expr}{tb tc:TE}
theorem bM{Q:VK}{k k':Bool}(I:Inv X pins σ H s)(q:Q (.bl k) H)(e:k=k'):EP X pins σ Q (.bool k') s:=by
 subst e
 exact⟨.bl k,H,I,rfl,q⟩
theorem gT:OpR X (xh .Eq) rEq:=by
 intro pins s σ H x y v u Q I rx ry h
 obtain⟨hs,q⟩:=h
 cases x with
 |non =>
  cases rx
  cases y with
  |non=>cases ry;exact Vt (bM I q '$')
  |bl j=>cases ry;exact Vv (bM I q '$')
  |int j=>obtain⟨t',rfl⟩:=ry;exact Vu (bM I q '$')
  |str j=>obtain⟨t',rfl⟩:=ry;exact Vs (bM I q '$')
  |_=>exact absurd (show false=true from hs) zBf
 |bl i =>
  cases rx
  cases y with
  |non=>cases ry;exact Vx (bM I q '$')
  |bl j=>cases ry;exact eq_bool (bM I q aBL)
  |str j=>obtain⟨t',rfl⟩:=ry;exact KI (bM I q '$')
  |_=>exact absurd (show false=true from hs) zBf
 |int i =>
  obtain⟨t,rfl⟩:=rx
  cases y with
  |non=>cases ry;exact Vw (bM I q '$')
  |int j=>obtain⟨t',rfl⟩:=ry;exact eq_int (bM I q xP)
  |str j=>obtain⟨t',rfl⟩:=ry;exact KH (bM I q '$')
  |_=>exact absurd (show false=true from hs) zBf
 |str i =>
  obtain⟨t,rfl⟩:=rx
  cases y with
  |non=>cases ry;exact Vr (bM I q '$')
  |bl j=>cases ry;exact KG (bM I q '$')
  |int j=>obtain⟨t',rfl⟩:=ry;exact KF (bM I q '$')
  |str j=>obtain⟨t',rfl⟩:=ry;exact eq_str (bM I q yR)
  |_=>exact absurd (show false=true from hs) zBf
 |byt i =>
  obtain⟨t,rfl⟩:=rx
  cases y with
  |byt j=>obtain⟨t',rfl⟩:=ry;exact PySem.W.eq_bytes (bM I q yN)
  |_=>exact absurd (show false=true from hs) zBf
 |_=>cases y <;> exact absurd (show false=true from hs) zBf
theorem lY:OpR X (xh .NotEq) rNe:=by
 intro pins s σ H x y v u Q I rx ry h
 obtain⟨hs,q⟩:=h
 cases x with
 |non =>
  cases rx
  cases y with
  |non=>cases ry;exact Vm (bM I q '$')
  |bl j=>cases ry;exact Vo (bM I q '$')
  |int j=>obtain⟨t',rfl⟩:=ry;exact Vn (bM I q '$')
  |str j=>obtain⟨t',rfl⟩:=ry;exact Vl (bM I q '$')
  |_=>exact absurd (show false=true from hs) zBf
 |bl i =>
  cases rx
  cases y with
  |non=>cases ry;exact Vq (bM I q '$')
  |bl j=>cases ry;exact ne_bool (bM I q (congrArg not aBL))
  |str j=>obtain⟨t',rfl⟩:=ry;exact KE (bM I q '$')
  |_=>exact absurd (show false=true from hs) zBf
 |int i =>
  obtain⟨t,rfl⟩:=rx
  cases y with
  |non=>cases ry;exact Vp (bM I q '$')
  |int j=>obtain⟨t',rfl⟩:=ry;exact ne_int (bM I q (congrArg not xP))
  |str j=>obtain⟨t',rfl⟩:=ry;exact KD (bM I q '$')
  |_=>exact absurd (show false=true from hs) zBf
 |str i =>
  obtain⟨t,rfl⟩:=rx
  cases y with
  |non=>cases ry;exact Vk (bM I q '$')
  |bl j=>cases ry;exact KC (bM I q '$')
  |int j=>obtain⟨t',rfl⟩:=ry;exact KB (bM I q '$')
  |str j=>obtain⟨t',rfl⟩:=ry;exact ne_str (bM I q (congrArg not yR))
  |_=>exact absurd (show false=true from hs) zBf
 |byt i =>
  obtain⟨t,rfl⟩:=rx
  cases y with
  |byt j=>obtain⟨t',rfl⟩:=ry;exact PySem.W.ne_bytes (bM I q (congrArg not yN))
  |_=>exact absurd (show false=true from hs) zBf
 |_=>cases y <;> exact absurd (show false=true from hs) zBf
theorem fW:OpR X (xh .Lt) (rI0 λi j => .bl (decide (i<j))):=zA λ_ _ _ _ _ _ _ q=>lt_int q
theorem aFR:OpR X (xh .LtE) (rI0 λi j => .bl (decide (i<=j))):=zA λ_ _ _ _ _ _ _ q=>le_int q
theorem aFL:OpR X (xh .Gt) (rI0 λi j => .bl (decide (j<i))):=zA λ_ _ _ _ _ _ _ q=>gt_int q
theorem sW:OpR X (xh .GtE) (rI0 λi j => .bl (decide (j<=i))):=zA λ_ _ _ _ _ _ _ q=>ge_int q
theorem aAX:OpR X (xh .In) (λx y H Q=>∃i j,x = .str i/\y = .str j/\Q (.bl (!(x4 j i 0 j.length 1).isEmpty)) H):=by
 intro pins s σ H x y v u Q I rx ry h
 obtain⟨i,j,rfl,rfl,q⟩:=h
 obtain⟨t,rfl⟩:=rx
 obtain⟨t',rfl⟩:=ry
 exact in_str (bM I q rfl)
theorem aJT:OpR X (xh .Is) (λx y H Q=>y = .non/\Q (.bl (decide (x = .non))) H):=by
 intro pins s σ H x y v u Q I rx ry h
 obtain⟨rfl,q⟩:=h
 cases ry
 refine is_none_gen (bM I q ?_)
 cases x <;> first
  | (cases rx;rfl)
  | (obtain⟨t,rfl⟩:=rx;rfl)
theorem nomark(b:Expr){op:VH}(h:op ≠ .In:=by decide)(h2:op ≠ .NotIn:=by decide):dg op b=false:=by
 have e1:(op==CmpOp.In)=false:=by cases op <;> first|rfl|exact absurd rfl h
 have e2:(op==CmpOp.NotIn)=false:=by cases op <;> first|rfl|exact absurd rfl h2
 cases b <;> simp[dg,e1,e2]
theorem aHV{op:VH}{r:R2}(ho:OpR X (xh op) r)(ha:PE X a ta)(hb:PE X b tb)(hm:dg op b=false):PE X (.Compare a [op] [b] pos) (tOp r ta tb):=by
 intro pins s σ H Q I h
 exact wpAny_Compare1 (aDT ha hb I h λv u s2 x y H2 I2 rx ry q=>ho pins s2 σ H2 x y v u Q I2 rx ry q) hm
noncomputable def aJ8(t:TE):TT:=λσ H Q=>t σ H λx H'=>∃k,x = .bl k/\Q k H'
theorem aHX{op:VH}{r:R2}(ho:OpR X (xh op) r)(ha:PE X a ta)(hb:PE X b tb)(hm:dg op b=false):PT X (.Compare a [op] [b] pos) (aJ8 (tOp r ta tb)):=by
 intro pins s σ H Q I h
 refine wpAny_isTrue_Compare1 (thn (ha pins s σ H _ I h) λv s1 ⟨x,H1,I1,r1,q1⟩=>thn (hb pins s1 σ H1 _ I1 q1) λu s2 ⟨y,H2,I2,r2,q2⟩ =>
  thn (ho pins s2 σ H2 x y v u _ I2 r1 r2 q2) λc s3 ⟨z,H3,I3,r3,k,e,q3⟩ => ?_) hm
 subst e
 cases r3
 exact vk ⟨H3,I3,q3⟩
noncomputable def aJZ(r r':R2)(ta tb tc:TE):TE:=λσ H Q=>ta σ H λx H1=>tb σ H1 λy H2=>r x y H2 λz H3=>∃k,z = .bl k /\
 (if k=true then tc σ H3 λw' H4=>r' y w' H4 Q else Q (.bl false) H3)
theorem aFA{op op':VH}{r r':R2}(ho:OpR X (xh op) r)(ho':OpR X (xh op') r')(ha:PE X a ta)(hb:PE X b tb)(hc:PE X c tc)(hm:lastMarks [op,op'] [b,c]=false:=by with_unfolding_all rfl):PE X (.Compare a [op,op'] [b,c] pos) (aJZ r r' ta tb tc):=by
 intro pins s σ H Q I h
 refine Compare_chain (thn (ha pins s σ H _ I h) λv s1 ⟨x,H1,I1,r1,q1⟩=>chain_link (thn (hb pins s1 σ H1 _ I1 q1) λu s2 ⟨y,H2,I2,r2,q2⟩ =>
  thn (ho pins s2 σ H2 x y v u _ I2 r1 r2 q2) λd s3 ⟨z,H3,I3,r3,k,e,q3⟩ => ?_)) hm
 subst e
 cases r3
 refine vk ?_
 cases k with
 |false=>exact ite_ff ⟨.bl false,H3,I3,rfl,q3⟩
 |true=>exact ite_tt (chain_last (thn (hc pins s3 σ H3 _ I3 q3) λw' s4 ⟨z',H4,I4,r4,q4⟩=>ho' pins s4 σ H4 y z' u w' Q I4 r2 r4 q4))
noncomputable def TruV(K:qf)(x:V)(H:Hp)(k:Bool):Prop:=
 match x with
 |.non=>k=false
 |.bl b=>k=b
 |.int i=>k=(i != 0)
 |.str y=>y.length<=sizeLine/\k=((y.length:Int) != 0)
 |.byt y=>y.size<=sizeLine/\k=((y.size:Int) != 0)
 |.ref p=>(∃xs,SqL K H p xs/\k = !xs.isEmpty)\/(∃xs,SqT K H p xs/\k = !xs.isEmpty)\/∃kvs,H p=some (.dK kvs)/\k = !kvs.isEmpty
 |_=>False
theorem aAO{κ:Type}{kvs:List (κ×V)}{vs:List (κ×Value)}(r:KV kvs vs):(!vs.isEmpty) = !kvs.isEmpty:=by
 cases r <;> rfl
theorem qN{xs:List V}(r:Vals xs its):(!its.toArray.isEmpty) = !xs.isEmpty:=by
 cases r <;> simp
theorem line63:(sizeLine:Nat)<2^63:=by rw[QG];decide
theorem aJ4:TruR X (λx H Q=>∃k,TruV X.K x H k/\Q k H):=by
 intro pins s σ H x v Q I rx h
 obtain⟨k,e,q⟩:=h
 have hl:=line63
 have hs:sizeLine=16777216:=QG
 cases x with
 |non =>
  cases rx
  have e':k=false:=e
  subst e'
  exact truthy_none ⟨H,I,q⟩
 |bl b =>
  cases rx
  have e':k=b:=e
  subst e'
  exact vk ⟨H,I,q⟩
 |int i =>
  obtain⟨t,rfl⟩:=rx
  have e':k=(i != 0):=e
  subst e'
  exact PySem.P.truthy_int ⟨H,I,q⟩
 |str y =>
  obtain⟨t,rfl⟩:=rx
  obtain⟨hy,e'⟩:y.length<=sizeLine/\k=((y.length:Int) != 0):=e
  subst e'
  exact PySem.P.truthy_str '!' ⟨H,I.tok _,q⟩
 |byt y =>
  obtain⟨t,rfl⟩:=rx
  obtain⟨hy,e'⟩:y.size<=sizeLine/\k=((y.size:Int) != 0):=e
  subst e'
  exact PySem.W.truthy_bytes '!' ⟨H,I.tok _,q⟩
 |ref p =>
  cases rx
  have e':(∃xs,SqL X.K H p xs/\k = !xs.isEmpty)\/(∃xs,SqT X.K H p xs/\k = !xs.isEmpty)\/∃kvs,H p=some (.dK kvs)/\k = !kvs.isEmpty:=e
  rcases e' with ⟨xs,hx,e'⟩|⟨xs,hx,e'⟩|⟨kvs,hx,e'⟩
  ·subst e'
   obtain⟨its,r,pl,hz⟩:=I.list hx
   have hlen:=r.length
   exact wpAny_truthy_list pl.isList (by simp only[qc];omega) ⟨H,I.tok _,by rw[qN r];exact q⟩
  ·subst e'
   obtain⟨its,r,pl,hz⟩:=I.tuple hx
   have hlen:=r.length
   exact truthy_tuple pl (by simp only[qc];omega) ⟨H,I.tok _,by rw[qN r];exact q⟩
  ·subst e'
   obtain⟨hz,hS,vs,r,m⟩:kvs.length<=sizeLine/\(p==dj)=false/\∃vs,KV kvs vs/\s.heap.DictOf (fR X.prog X.w) p vs:=I.hok p _ hx
   have hlen:kvs.length=vs.length:=JR r
   exact wpAny_truthy_dict hS m '!' ⟨H,I.tok _,by rw[aAO r];exact q⟩
 |_=>exact (show False from e).elim
theorem aFG(ha:PE X a ta)(he:∀whole,isTrue a X.env whole=(do let v <- whole;QD a.pos;cv [v] (VI v))):
  PT X a (λσ H Q=>ta σ H λx H'=>∃k,TruV X.K x H' k/\Q k H'):=by
 intro pins s σ H Q I h
 exact isTrue_plain (thn (ha pins s σ H _ I h) λv s1 ⟨x,H1,I1,r1,q1⟩=>aJ4 pins s1 σ H1 x v Q I1 r1 q1) (he _)
theorem aAC:OpR X (zm .Add) (λx y H Q=>∃i j,x = .str i/\y = .str j/\i.length+j.length<=sizeLine/\Q (.str (i++j)) H):=by
 intro pins s σ H x y v u Q I rx ry h
 obtain⟨i,j,rfl,rfl,hz,q⟩:=h
 obtain⟨t,rfl⟩:=rx
 obtain⟨t',rfl⟩:=ry
 exact add_str (λt' tk=>⟨.str (i++j),H,I.tok _,⟨_,rfl⟩,q⟩) hz
theorem vals1{x:V}(r:Vals [x] us):∃u,us=[u]/\RelV x u:=by
 cases r with
 |cons r1 r2=>cases r2;exact⟨_,rfl,r1⟩
theorem vals2{x y:V}(r:Vals [x,y] us):∃u w',us=[u,w']/\RelV x u/\RelV y w':=by
 cases r with
 |cons r1 r2 =>
  cases r2 with
  |cons r3 r4=>cases r4;exact⟨_,_,rfl,r1,r3⟩
theorem t9:eF X (.builtin "abs") (λxs H Q=>∃i,xs=[.int i]/\Q (.int (if i<0 then -i else i)) H):=by
 intro pins s σ H xs us Q I r h
 obtain⟨i,rfl,q⟩:=h
 obtain⟨u,rfl,t,rfl⟩:=vals1 r
 exact call_abs_int λu tk=>⟨.int (if i<0 then -i else i),H,I.tok _,⟨_,rfl⟩,q⟩
theorem kP(hc:X.calm=true):eF X (.builtin "max") (λxs H Q=>∃i j,xs=[.int i, .int j]/\Q (.int (if j>i then j else i)) H):=by
 intro pins s σ H xs us Q I r h
 obtain⟨i,j,rfl,q⟩:=h
 obtain⟨u,w',rfl,⟨t,rfl⟩,⟨t',rfl⟩⟩:=vals2 r
 refine max_two_ints (I.ok.hd hc) λh' tk k=>⟨_,H,I.kept k,?_,q⟩
 by_cases hj:j>i
 ·rw[if_pos hj,if_pos hj];exact⟨_,rfl⟩
 ·rw[if_neg hj,if_neg hj];exact⟨_,rfl⟩
theorem aDC(hc:X.calm=true):eF X (.builtin "min") (λxs H Q=>∃i j,xs=[.int i, .int j]/\Q (.int (if j<i then j else i)) H):=by
 intro pins s σ H xs us Q I r h
 obtain⟨i,j,rfl,q⟩:=h
 obtain⟨u,w',rfl,⟨t,rfl⟩,⟨t',rfl⟩⟩:=vals2 r
 refine min_two_ints (I.ok.hd hc) λh' tk k=>⟨_,H,I.kept k,?_,q⟩
 by_cases hj:j<i
 ·rw[if_pos hj,if_pos hj];exact⟨_,rfl⟩
 ·rw[if_neg hj,if_neg hj];exact⟨_,rfl⟩
theorem m9:eF X (.type "int") (λxs H Q=>(∃i,xs=[.int i]/\Q (.int i) H)\/∃k,xs=[.bl k]/\Q (.int (if k then 1 else 0)) H):=by
 intro pins s σ H xs us Q I r h
 rcases h with ⟨i,rfl,q⟩|⟨k,rfl,q⟩
 ·obtain⟨u,rfl,t,rfl⟩:=vals1 r
  exact call_int_int ⟨.int i,H,I,⟨_,rfl⟩,q⟩
 ·obtain⟨u,rfl,r1⟩:=vals1 r
  cases r1
  exact call_int_bool ⟨.int (if k then 1 else 0),H,I.tok _,⟨_,rfl⟩,q⟩
noncomputable def aER(K:qf)(x:V)(H:Hp)(n:Nat):Prop:=
 match x with
 |.str y=>y.length<=sizeLine/\n=y.length
 |.byt y=>y.size<=sizeLine/\n=y.size
 |.ref p=>(∃xs,SqL K H p xs/\n=xs.length)\/∃xs,SqT K H p xs/\n=xs.length
 |_=>False
theorem aY:eF X (.builtin "len") (λxs H Q=>∃x n,xs=[x]/\aER X.K x H n/\Q (.int n) H):=by
 intro pins s σ H xs us Q I r h
 obtain⟨x,n,rfl,e,q⟩:=h
 obtain⟨u,rfl,rx⟩:=vals1 r
 have hl:=line63
 have hs:sizeLine=16777216:=QG
 cases x with
 |str y =>
  obtain⟨t,rfl⟩:=rx
  obtain⟨hy,e'⟩:y.length<=sizeLine/\n=y.length:=e
  subst e'
  exact len_str '!' ⟨.int _,H,I.tok _,⟨_,rfl⟩,q⟩
 |byt y =>
  obtain⟨t,rfl⟩:=rx
  obtain⟨hy,e'⟩:y.size<=sizeLine/\n=y.size:=e
  subst e'
  exact PySem.W.len_bytes '!' ⟨.int _,H,I.tok _,⟨_,rfl⟩,q⟩
 |ref p =>
  cases rx
  have e':(∃xs,SqL X.K H p xs/\n=xs.length)\/∃xs,SqT X.K H p xs/\n=xs.length:=e
  rcases e' with ⟨xs,hx,e'⟩|⟨xs,hx,e'⟩
  ·subst e'
   obtain⟨its,r',pl,hz⟩:=I.list hx
   have hlen:=r'.length
   exact Calls.call_len_list pl.isList (by simp only[qc];omega) ⟨.int xs.length,H,I.tok _,⟨_,by simp only[qc];rw[hlen]⟩,q⟩
  ·subst e'
   obtain⟨its,r',pl,hz⟩:=I.tuple hx
   have hlen:=r'.length
   exact len_tuple pl (by simp only[qc];omega) ⟨.int xs.length,H,I.tok _,⟨_,by simp only[qc];rw[hlen]⟩,q⟩
 |_=>exact (show False from e).elim
end
end L2
namespace L2
open PySem PySem.Spec PyProof.Rows
structure ObjM(h:Heap)(x dx C:Addr)(mA:Str->Option Value):Prop where
 obj:h.get? x=some (Je C dx)
 ns:h.Ns1 dx mA
 ne:dx≠x
section
variable {E:Value->Shared->Prop}{K:qf}{x:Addr}{mA:Str->Option Value}{v:Value}
end
section
variable {fs fs':List (Str×V)}
end
structure Cls(K:qf)(C:Addr):Prop where
 pg:PySem.W.plainGet K C w4=true
 hd:PySem.W.hasDictIn K C=true
 po:PySem.W.plainOver K C=true
 sa:ya K (.ref C) "__setattr__" = some (some (.builtin "object.__setattr__"))
structure Con(K:qf)(C:Addr)(f:Str)(v:V)(u:Value):Prop where
 at_:ya K (.ref C) f=some (some u)
 rel:RelV v u
 get:QT K u "__get__" = some none
 cp:PySem.W.copiedNames.contains f=false
structure Meth(K:qf)(C:Addr)(m:Str)(f:Addr):Prop where
 at_:ya K (.ref C) m=some (some (.ref f))
 fn:JQ K (.ref f)=true
 kp:z9 K (.ref f)=true
section
variable {fs:List (Str×V)}{f:Str}{E:Value->Shared->Prop}
end
section
variable {value:Expr}{f:Str}{tpos:Pos}{tv:TE}
end
section
variable {E:Value->Shared->Prop}{Q:Value->Shared->Prop}{c:Value}{b:Bool}
inductive TyOf(K:qf)(H:Hp):V->Value->Prop where
 |non:TyOf K H .non (.type "NoneType")
 |bl (x:Bool):TyOf K H (.bl x) (.type "bool")
 |int (i:Int):TyOf K H (.int i) (.type "int")
 |str (x:Str):TyOf K H (.str x) (.type "str")
 |flt (x:UInt64):TyOf K H (.flt x) (.type "float")
 |lst {a:Addr}{xs:List V} (e:H a=some (.lst xs)):TyOf K H (.ref a) (.type "list")
 |frz {a:Addr}{o:Obj}{xs:List V} (e:H a=some (.frz o (.lst xs))):TyOf K H (.ref a) (.type "list")
 |tup {a:Addr}{xs:List V} (e:H a=some (.tup xs)):TyOf K H (.ref a) (.type "tuple")
 |dK {a:Addr}{kvs:List (Key×V)} (e:H a=some (.dK kvs)):TyOf K H (.ref a) (.type "dict")
 |dT {a:Addr}{kvs:List (List Key×V)} (e:H a=some (.dT kvs)):TyOf K H (.ref a) (.type "dict")
 |ins {a C dx:Addr}{fs:List (Str×V)} (e:H a=some (.ins C dx fs)) (cl:Cls K C) (ha:ya K (.ref C) "__class__" = some (some (.builtin "object.__class__")))
   (hn:QT K (.builtin "object.__class__") "__get__" = some (some (.builtin "getset_descriptor.__get__"))) (htk:PySem.W.takesIn K (.builtin "object.__class__")=some true)
   (hm:Qh K C (.type "object")=some true):TyOf K H (.ref a) (.ref C)
end
end L2
namespace L2
open PySem PySem.Spec PyProof.Rows
structure Room(k:Nat)(A:Around):Prop where
 hd:A.handled=none
 dp:A.depth+3*k+5<recursionLimit
 un:A.units+16*k+200<cLine
 gd:A.guards=some []
theorem Room.mono{k:Nat}(r:Room k A)(h:j<=k):Room j A:=⟨r.hd,by have:=r.dp;omega,by have:=r.un;omega,r.gd⟩
theorem Room.deeper{k:Nat}(r:Room (k+1) A)(env:Env):Room k (A.deeper env):=
 ⟨r.hd,by have:=r.dp;show A.depth+1+3*k+5<_;omega,by have:=r.un;show A.units+3+16*k+200<_;omega,r.gd⟩
theorem Room.depth{k:Nat}(r:Room k A):A.depth<recursionLimit:=by have:=r.dp;omega
theorem Room.units{k:Nat}(r:Room k A):A.units+64<cLine:=by have:=r.un;omega
noncomputable def tNil:TA:=λ_ H Q=>Q [] H
noncomputable def aKK(ta:TE)(tr:TA):TA:=λσ H Q=>ta σ H λx H1=>tr σ H1 λxs H2=>Q (x::xs) H2
section
variable {t:TA}
theorem aCW:PA X [] tNil:=λ_ _ _ _ H Q I h=>Calls.spliced_nil ⟨[],H,I, .nil,h⟩
theorem rA(ha:PE X e te)(hr:PA X es t)(hs:je (e::es) X.env=(false,eval e X.env)::je es X.env:=by rfl):PA X (e::es) (aKK te t):=by
 intro pos pins s σ H Q I h
 rw[hs]
 show jd _ _ (spliced ((false,eval e X.env)::dt pos (je es X.env))) _ _ s
 refine Calls.spliced_cons (thn (ha pins s σ H _ I h) λu s1 ⟨x,H1,I1,r1,q1⟩ => ?_)
 exact thn (hr pos pins s1 σ H1 _ I1 q1) λus s2 ⟨xs,H2,I2,r2,q2⟩=>⟨x::xs,H2,I2, .cons r1 r2,q2⟩
noncomputable def tTup(t:TA):TE:=λσ H Q=>t σ H λxs H1=>xs.length<=sizeLine/\∀p,H1 p=none->Q (.ref p) (upd H1 p (.tup xs))
noncomputable def tLst(t:TA):TE:=λσ H Q=>t σ H λxs H1=>xs.length<=sizeLine/\∀p,H1 p=none->Q (.ref p) (upd H1 p (.lst xs))
theorem aJH{x1}(h:PA X es t):PE X (.Tuple es x1 pos) (tTup t):=by
 intro pins s σ H Q I hq
 refine wpAny_Tuple_spliced (thn (h pos pins s σ H _ I hq) λus s1 ⟨xs,H1,I1,r,z,q⟩=>⟨by rw[<- r.length];exact z,?_⟩)
 have hf:H1 s1.heap.objs.size=none:=I1.hok.fresh (qm _)
 refine⟨.ref s1.heap.objs.size,upd H1 s1.heap.objs.size (.tup xs),I1.laid (t':=s1.toks) (λb u e=>qb _ e) (qm _) ?_,rfl,q _ hf⟩
 exact⟨z,us,r,⟨_,qh _ rfl,rfl,_,rfl⟩⟩
theorem aA7(h:PA X es t):PE X (.List es pos) (tLst t):=by
 intro pins s σ H Q I hq
 refine wpAny_List_spliced (thn (h pos pins s σ H _ I hq) λus s1 ⟨xs,H1,I1,r,z,q⟩=>⟨by rw[<- r.length];exact z,?_⟩)
 have hf:H1 s1.heap.objs.size=none:=I1.hok.fresh (qm _)
 refine⟨.ref s1.heap.objs.size,upd H1 s1.heap.objs.size (.lst xs),I1.laid (t':=s1.toks) (λb u e=>qb _ e) (qm _) ?_,rfl,q _ hf⟩
 exact⟨z,us,0,r,qh _ rfl⟩
end
abbrev Sp:=List V->Hp->VK->XK->Prop
abbrev CXT:=List Env->Hp->Shared->XK->Value->Shared->Prop
structure Env0(P:Program)(w:World)(K:qf)(mg:Str->Option Value)(base:Heap)(A:Around)(outer:List Env)(s:Shared)(H:Hp):Prop where
 frames:A.frames=some outer
 mod:Mod K mg base
 bs:∀b o,base.get? b=some o->s.heap.get? b=some o/\H b=none
 bsz:base.objs.size<=s.heap.objs.size
 funs:s.heap.FunFrames base outer
 frf:∀b∈frs outer,H b=none
 hok:HOk P w H s.heap
 bare:rb s.gens
noncomputable def CE(outer:List Env)(P:Program)(w:World)(H:Hp)(s:Shared)(Q:VK)(u:Value)(s':Shared):Prop:=
 ∃v H',s'.os=s.os/\rb s'.gens/\Un (frs outer) [] H H' s.heap s'.heap/\HOk P w H' s'.heap/\RelV v u/\Q v H'
noncomputable def CR(CX:CXT)(outer:List Env)(P:Program)(w:World)(H:Hp)(s:Shared)(Q:VK)(E:XK)(r:Result)(s':Shared):Prop:=
 match r with
 |.ok (.ret u)=>CE outer P w H s Q u s'
 |.ok _=>False
 |.error e=>CX outer H s E e s'
structure FnOk(P:Program)(w:World)(K:qf)(mg:Str->Option Value)(base:Heap)(CX:CXT)(k:Nat)(f:Addr)(fd:FuncData)(ps:List Str)(sp:Sp):Prop where
 len:∀vs H Q E,sp vs H Q E->vs.length=ps.length
 run:∀(A:Around) (outer:List Env) (s:Shared) (H:Hp) (args:Args) (us:List Value) (vs:List V) (Q:VK) (E:XK),Room k A->Env0 P w K mg base A outer s H->BindsTo s fd args (ps.zip us)->Vals vs us->sp vs H Q E ->
  gm (jq P w) A (.call (.ref f) args) (CR CX outer P w H s Q E) s
section
theorem Inv.env0(I:Inv X pins σ H s):Env0 X.prog X.w X.K X.mg X.base X.A X.stack s H:=
 ⟨I.ok.frames,I.ok.mod,I.bs,jf I.ok.bsz I.sz,I.stack,I.stkFree,I.hok,I.bare⟩
theorem Inv.after{Q:VK}(I:Inv X pins σ H s)(h:CE X.stack X.prog X.w H s Q u s'):EP X pins σ Q u s':=by
 obtain⟨v,H',os,bare,un,hok,r,q⟩:=h
 obtain⟨hh,g,d,t,os'⟩:=s'
 obtain rfl:os'=s.os:=os
 exact⟨v,H',I.call (h':=hh) (g':=g) (d':=d) (t':=t) (ch:=[]) un hok bare (λb z=>absurd z '$'),r,q⟩
end
noncomputable def aKW(sp:Sp)(dvs:List V)(E:XK)(t:TA):TE:=λσ H Q=>t σ H λvs H1=>sp (vs++dvs) H1 Q E
noncomputable def Binds(K:qf)(fd:FuncData)(ps:List Str)(ds:List Value):Prop:=
 ∀(s:Shared) (us:List Value),K.In s.heap->(us++ds).length=ps.length->BindsTo s fd ⟨us,[]⟩ (ps.zip (us++ds))
theorem Binds.all{K:qf}{ps:List Str}(h:∀us:List Value,us.length=ps.length->J6 fd ⟨us,[]⟩=pure (ps.zip us)):Binds K fd ps []:=λs us _ hl=>by
 rw[yt] at hl ⊢
 exact .of_eq (h us hl)
noncomputable def Passes(CX:CXT)(X:Cx)(E:XK):Prop:=∀(pins:List (Addr×Obj)) (σ:St) (H:Hp) (s:Shared) (e:Value) (s':Shared),Inv X pins σ H s->CX X.stack H s E e s'->X.xe e s'
section
variable {CX:CXT}{k:Nat}{ps:List Str}{sp:Sp}{dvs:List V}{ds:List Value}{E:XK}{m:Str}{p:Pos}{t:TA}
theorem aJM{Q:VK}{vs:List V}(F:FnOk X.prog X.w X.K X.mg X.base CX k f fd ps sp)(hr:Room k X.A)(hb:Binds X.K fd ps ds)(hd:Vals dvs ds)(hx:Passes CX X E)(I:Inv X pins σ H s)(r:Vals vs us)(h:sp (vs++dvs) H Q E):jd X.w.8 X.A (call (.ref f) us) (EP X pins σ Q) X.xe s:=by
 have r2:Vals (vs++dvs) (us++ds):=r.append hd
 have hl:(us++ds).length=ps.length:=by rw[<- r2.length];exact F.len _ _ _ _ h
 refine wpAny_call (mz (F.run X.A X.stack s H ⟨us,[]⟩ (us++ds) (vs++dvs) Q E hr I.env0 (hb s us I.kIn hl) r2 h) λr s' hq => ?_)
 cases r with
 |error e=>exact hx pins σ H s e s' I hq
 |ok fl =>
  cases fl with
  |ret u=>exact I.after hq
  |next=>exact yx hq
  |brk=>exact yx hq
  |cont=>exact yx hq
theorem aGF(F:FnOk X.prog X.w X.K X.mg X.base CX k f fd ps sp)(hr:Room k X.A)(hg:Gl X x)(hm:X.mg x=some (.ref f))(hk:z9 X.K (.ref f)=true)(hb:Binds X.K fd ps ds)(hd:Vals dvs ds)(hx:Passes CX X E)(ha:PA X (e::es) t)(hdb:(x==("__debug__" : Str))=false:=by decide)(he:je (e::es) X.env=(false,eval e X.env)::je es X.env:=by rfl)(hpl:(dt pos (je es X.env)).any (·.1)=false:=by rfl):
  PE X (.Call (.Name x p) (e::es) [] pos) (aKW sp dvs E t):=by
 intro pins s σ H Q I h
 refine sj (yH I hg hm ?_ hdb)
 refine PySem.W.callWith_K (h₀:=X.base) I.ok.mod.kin hk (thn (ha pos pins s σ H _ I h) λus s1 ⟨vs,H1,I1,r,q⟩=>⟨I1.kIn,?_⟩) he hpl
 exact aJM F hr hb hd hx I1 r q
structure Mk(K:qf)(C f:Addr):Prop where
 makes:PySem.W.makesIn K C=true
 init:ya K (.ref C) "__init__" = some (some (.ref f))
 fn:JQ K (.ref f)=true
 kp:z9 K (.ref C)=true
end
section
variable {CX:CXT}{k:Nat}{ps ks:List Str}{sp:Sp}{E:XK}{m:Str}{p kpos:Pos}{kws:List JY}{t tk:TA}{nm:Option Str}
structure KBinds(K:qf)(fd:FuncData)(ps ks:List Str)(g:List Value->List Value->List Value)(gV:List V->List V->List V):Prop where
 to:∀(s:Shared) (us ws:List Value),K.In s.heap->(g us ws).length=ps.length->BindsTo s fd ⟨us,ks.zip ws⟩ (ps.zip (g us ws))
 rel:∀{vs:List V}{us:List Value}{zs:List V}{ws:List Value},Vals vs us->Vals zs ws->Vals (gV vs zs) (g us ws)
variable {g:List Value->List Value->List Value}{gV:List V->List V->List V}
end
structure FnScope(N P:List Str)(sc:Scope):Prop where
 kind:sc.kind = .function
 co:sc.isCoroutine=false
 gen:sc.isGenerator=false
 nd:N.Nodup
 pre:N.take P.length=P
 par:∀x∈P,sc.names.lookup x=some .local\/sc.names.lookup x=some .cell
 nofree:∀y∈sc.names,y.2 ≠ .free
theorem r9{kindOf:Str->Option NameKind}:∀{binds:List (Str×Value)}{m:Str->Option Value},(∀v,(x,v)∉binds)->Kk kindOf binds m x=m x
 |[],_,_=>rfl
 | (n,v)::r,m,h=>by
  unfold Kk
  rw[r9 λw hw=>h w (ke _ hw)]
  split
  ·have:x≠n:=by rintro rfl;exact h v jz
   simp[this]
  ·rfl
theorem sI{kindOf:Str->Option NameKind}:∀{binds:List (Str×Value)}{m:Str->Option Value},(∀v,(x,v)∉binds)->Kl kindOf binds m x=m x
 |[],_,_=>rfl
 | (n,v)::r,m,h=>by
  unfold Kl
  rw[sI λw hw=>h w (ke _ hw)]
  split
  ·rfl
  ·have:x≠n:=by rintro rfl;exact h v jz
   simp[this]
theorem sB{kindOf:Str->Option NameKind}{v:Value}:∀{P:List Str}{vs:List Value}{i:Nat}{m:Str->Option Value},P.Nodup->P[i]?=some x->vs[i]?=some v->kindOf x=some .local ->
  Kk kindOf (P.zip vs) m x=some v
 |[],_,_,_,_,h,_,_=>by simp at h
 |_::_,[],_,_,_,_,h,_=>by simp at h
 |p::P,w::vs,0,m,nd,h1,h2,hk=>by
  simp at h1 h2;subst h1;subst h2
  show Kk kindOf ((p,w)::P.zip vs) m p=_
  unfold Kk
  rw[r9 λv hv=>(xp.mp nd).1 (tu hv).1,if_pos hk]
  simp
 |p::P,w::vs,i+1,m,nd,h1,h2,hk=>by
  show Kk kindOf ((p,w)::P.zip vs) m x=_
  unfold Kk
  exact sB (i:=i) (xp.mp nd).2 (by simpa using h1) (by simpa using h2) hk
theorem rL{kindOf:Str->Option NameKind}{v:Value}:∀{P:List Str}{vs:List Value}{i:Nat}{m:Str->Option Value},P.Nodup->P[i]?=some x->vs[i]?=some v->kindOf x≠some .local ->
  Kl kindOf (P.zip vs) m x=some v
 |[],_,_,_,_,h,_,_=>by simp at h
 |_::_,[],_,_,_,_,h,_=>by simp at h
 |p::P,w::vs,0,m,nd,h1,h2,hk=>by
  simp at h1 h2;subst h1;subst h2
  show Kl kindOf ((p,w)::P.zip vs) m p=_
  unfold Kl
  rw[sI λv hv=>(xp.mp nd).1 (tu hv).1,if_neg hk]
  simp
 |p::P,w::vs,i+1,m,nd,h1,h2,hk=>by
  show Kl kindOf ((p,w)::P.zip vs) m x=_
  unfold Kl
  exact rL (i:=i) (xp.mp nd).2 (by simpa using h1) (by simpa using h2) hk
noncomputable def start(N:List Str)(vs:List V):St:=vs.map some++kr (N.length-vs.length) none
noncomputable def pB(CX:CXT)(P:Program)(w:World)(K:qf)(mg:Str->Option Value)(base:Heap)(N:List Str)(qual:Str)(scope:Scope)(f:Addr)(cd:Value)(A:Around)(outer:List Env)(s:Shared)(H:Hp)(E:XK):Cx where
 prog:=P
 w:=w
 K:=K
 mg:=mg
 base:=base
 A:=A.deeper (QC qual scope s.heap.objs.size f cd)
 N:=N
 s₀:=s
 H₀:=H
 env:=QC qual scope s.heap.objs.size f cd
 outer:=outer
 stack:=QC qual scope s.heap.objs.size f cd::outer
 ex:=[]
 calm:=true
 fn:=λ_=>true
 pn:=[]
 xe:=λe s'=>jd (jq P w) (A.deeper (QC qual scope s.heap.objs.size f cd)) (leaving (QC qual scope s.heap.objs.size f cd) e) (λ_ s''=>CX outer H s E e s'') (λe' s''=>CX outer H s E e' s'') s'
theorem uI{sc:Scope}(h:sc.names.lookup x=some .cell):∃c,(cellsFrom n sc.names []).lookup x=some c:=by
 have q:=vh sc.names n [] (.inl h)
 exact vv.mp q
theorem aBA{CX:CXT}{K:qf}{ps:List Str}{cd:Value}{outer:List Env}{s1:Shared}{E:XK}{vs:List V}(S:FnScope N ps scope)(hd:A.handled=none)(e0:Env0 P w K mg base A outer s H)(hl:vs.length=ps.length)(r:Vals vs us)(x:InCallC s s.heap.objs.size (Kk (QC qual scope s.heap.objs.size f cd).kindOf (ps.zip us) λ_=>none) (cellsFrom (s.heap.objs.size+1) scope.names []) (Kl (QC qual scope s.heap.objs.size f cd).kindOf (ps.zip us) λ_=>none) s1):
  Inv (pB CX P w K mg base N qual scope f cd A outer s H E) [] (start N vs) H s1:=by
 have hpl:ps.length<=N.length:=by have:=congrArg md S.pre;rw[xw] at this;omega
 obtain⟨h1,tk,rfl,hk⟩:=x.done
 have noA:∀b:Addr,b∉(pB CX P w K mg base N qual scope f cd A outer s H E).ex:=λb z=>absurd (show b∈([]:List Addr) from z) '$'
 refine⟨⟨e0.mod,S.kind,rfl,rfl,qm _,λy z c h1 h2 => ?_,λy hy => ?_,λy c _ h => ?_,λ_=>hd,Around.frames_deeper e0.frames, .inr ⟨rfl,rfl⟩,λb z=>absurd z (noA b),e0.bs,e0.bsz,λb _ _=>noA b,λb z=>absurd z (noA b),e0.funs,e0.frf⟩,
  rfl,e0.bare,Un.kept hk,⟨_,x.toInCall.ns,λi y v h1 h2 h3 => ?_⟩,λy c h=>⟨_,x.cell y c h⟩,e0.hok.fresh (qm _),λy c h => ?_,λp hp=>absurd (show p∈([]:List (Addr×Obj)) from hp) '$',e0.hok.kept hk,?_⟩
 ·exact Jy x.apart (jr h1) (jr h2)
 ·have hy:scope.names.lookup y=some .cell\/scope.names.lookup y=some .free:=hy
  rcases hy with hy|hy
  ·exact uI hy
  ·exact absurd rfl (S.nofree _ (jr hy))
 ·exact gq (x.above y c (jr h))
 ·have hi:i<vs.length:=by
   unfold start at h2
   by_cases hi:i<vs.length
   ·exact hi
   ·rw[de (by simpa using hi)] at h2
    rw[zu] at h2
    split at h2 <;> cases h2
  have ha:vs[i]?=some v:=by
   unfold start at h2
   rw[zc (by simpa using hi),qg] at h2
   cases e:vs[i]? with
   |none=>rw[e] at h2;cases h2
   |some a=>rw[e] at h2;cases h2;rfl
  obtain⟨u,hu,rv⟩:=r.get ha
  have hp:ps[i]?=some y:=by
   rw[<- S.pre,List.getElem?_take_of_lt '!'];exact h1
  have ndP:ps.Nodup:=by rw[<- S.pre];exact S.nd.sublist (ra _ _)
  refine⟨u,rv,?_⟩
  rcases S.par y (zMo hp) with k|k
  ·exact .inl ⟨k,sB ndP hp hu k⟩
  ·obtain⟨c,e⟩:=uI (n:=s.heap.objs.size+1) k
   refine .inr ⟨.inl k,c,e,?_⟩
   have q:=x.cell y c e
   rw[rL ndP hp hu (by show scope.names.lookup y≠_;rw[k];decide)] at q
   exact q
 ·exact e0.hok.fresh (gq (x.above y c (jr h)))
 ·unfold start
  show _=N.length
  rw[ja,zLm,QM]
  omega
theorem aKO{CX:CXT}{K:qf}{k:Nat}{params:Arguments}{body:List Stmt}{dV kV doc pm cdv ct oc:Value}{an:Option Addr}{osl:Array (Option Value)}{ps:List Str}{sp:Sp}(lk:K.lookup f=some ⟨oc,od, .func (xt name qual params body scope dV kV doc pm an cdv ct),osl⟩)(hcd:sk K cdv qual=true)(S:FnScope N ps scope)(len:∀vs H Q E,sp vs H Q E->vs.length=ps.length)(hbody:∀(A:Around) (outer:List Env) (s:Shared) (H:Hp) (vs:List V) (Q:VK) (E:XK),Room k (A.deeper (QC qual scope s.heap.objs.size f cdv))->sp vs H Q E ->
   ∃t,PSs (pB CX P w K mg base N qual scope f cdv A outer s H E) body t/\t {nx:=λ_ H'=>Q .non H',rt:=Q} (start N vs) H):
  FnOk P w K mg base CX (k+1) f (xt name qual params body scope dV kV doc pm an cdv ct) ps sp:=by
 refine⟨len,λA outer s H args us vs Q E hr e0 hb r hsp => ?_⟩
 have hl:=len _ _ _ _ hsp
 have KX:K.In s.heap:=e0.mod.kin.keeps λb o e=>(e0.bs b o e).1
 have lim:s.heap.NoLimit:=e0.mod.nolimit.keeps λb o e=>(e0.bs b o e).1
 have hkind:∀y∈ps.zip us,scope.names.lookup y.1=some .local\/(scope.names.lookup y.1=some .cell/\((cellsFrom (s.heap.objs.size+1) scope.names []).lookup y.1).isSome=true):=λ⟨n,v⟩ hy=>by
  rcases S.par n (tu hy).1 with q|q
  ·exact .inl q
  ·exact .inr ⟨q,vh _ _ _ (.inl q)⟩
 refine codeAny_call_function hr.depth (KX _ _ lk) rfl S.co S.gen rfl (PySem.W.codeRec_of KX hcd) (hb _ _ _ _ ?_)
 refine wpAny_newFunctionEnv_cells S.kind hkind λenv he s1 x => ?_
 subst he
 refine⟨lim.keeps x.toInCall.keep,codeAny_func ?_⟩
 obtain⟨t,ht,hq⟩:=hbody A outer s H vs Q E (hr.deeper _) hsp
 have I:Inv (pB CX P w K mg base N qual scope f cdv A outer s H E) [] (start N vs) H s1:=aBA S hr.hd e0 hl r x
 refine zd (ht [] s1 (start N vs) H _ I hq) (λfl s' hs => ?_) λe s' hs=>hs
 have fin:∀{σ':St}{H':Hp}{v:V}{u:Value},Inv (pB CX P w K mg base N qual scope f cdv A outer s H E) [] σ' H' s'->RelV v u->Q v H'->CE outer P w H s Q u s':=
  λ{σ' H' v u} J rv q=>⟨v,H',J.os,J.bare,J.base,J.hok,rv,q⟩
 cases fl with
 |ret u =>
  obtain⟨v,σ',H',J,rv,q⟩:=hs
  exact fin J rv q
 |next =>
  obtain⟨σ',H',J,q⟩:=hs
  exact fin (v:=V.non) (u:=w6) J rfl q
 |brk =>
  obtain⟨_,_,_,q⟩:=hs
  exact yx q
 |cont =>
  obtain⟨_,_,_,q⟩:=hs
  exact yx q
end L2
namespace L2
open PySem PySem.Spec PyProof.Rows
section
variable {p:Pos}{t:TA}{id T:String}{r:List V->Hp->VK->Prop}
noncomputable def tCB(r:List V->Hp->VK->Prop)(t:TA):TE:=λσ H Q=>t σ H λvs H1=>r vs H1 Q
theorem vI(hc:eF X (.builtin id) r)(hg:Gl X x)(hm:X.mg x=none)(hv:jv x=some (.builtin id))(ha:PA X (e::es) t)(hn:x ≠ "__name__" := by decide)(hdb:(x==("__debug__" : Str))=false:=by decide)(he:je (e::es) X.env=(false,eval e X.env)::je es X.env:=by rfl)(hpl:(dt pos (je es X.env)).any (·.1)=false:=by rfl):PE X (.Call (.Name x p) (e::es) [] pos) (tCB r t):=by
 intro pins s σ H Q I h
 refine sj (j7 I hg hm hv ?_ hn hdb)
 exact Vy (thn (ha pos pins s σ H _ I h) λus s1 ⟨vs,H1,I1,r1,q1⟩=>hc pins s1 σ H1 vs us Q I1 r1 q1) he hpl
theorem aCU(hc:eF X (.type T) r)(hg:Gl X x)(hm:X.mg x=none)(hv:jv x=some (.type T))(ha:PA X (e::es) t)(hn:x ≠ "__name__" := by decide)(hdb:(x==("__debug__" : Str))=false:=by decide)(he:je (e::es) X.env=(false,eval e X.env)::je es X.env:=by rfl)(hpl:(dt pos (je es X.env)).any (·.1)=false:=by rfl):PE X (.Call (.Name x p) (e::es) [] pos) (tCB r t):=by
 intro pins s σ H Q I h
 refine sj (j7 I hg hm hv ?_ hn hdb)
 exact xf (thn (ha pos pins s σ H _ I h) λus s1 ⟨vs,H1,I1,r1,q1⟩=>hc pins s1 σ H1 vs us Q I1 r1 q1) he hpl
end
end L2
namespace HT
open PySem PyProof.Rows
section
open PySem.SeqAt
open PySem.AutoSeq1 (wpAny_loadPart')
open PySem.MeetsSeq PySem.MeetsSeq2 PySem.MeetsSeq3
end
section
variable {E:Value->Shared->Prop}
noncomputable def sIx(n d:Nat):Option Int->Nat
 |none=>d
 |some v=>if v<0 then (v+(n:Int)).toNat else min v.toNat n
theorem aDK(n d:Nat):sIx n d none=d:=rfl
theorem wY(n d k:Nat):sIx n d (some (k:Int))=min k n:=by
 show (if (k:Int)<0 then ((k:Int)+(n:Int)).toNat else min (k:Int).toNat n)=min k n
 rw[if_neg '!',ql]
theorem aIO(n d:Nat)(hd:d<=n)(o:Option Int):sIx n d o<=n:=by
 cases o with
 |none=>exact hd
 |some v =>
  show (if v<0 then (v+(n:Int)).toNat else min v.toNat n)<=n
  by_cases hv:v<0
  ·rw[if_pos hv];omega
  ·rw[if_neg hv];exact Nat.min_le_right _ _
theorem yV(v:Int)(n d:Nat):(if v<0 then max (v+(n:Int)) 0 else min v (n:Int))=((sIx n d (some v):Nat):Int):=by
 show (if v<0 then max (v+(n:Int)) 0 else min v (n:Int))=(((if v<0 then (v+(n:Int)).toNat else min v.toNat n):Nat):Int)
 by_cases hv:v<0
 ·simp only[if_pos hv];omega
 ·simp only[if_neg hv];omega
theorem zZ(lo hi:Option Int)(n:Nat):cc lo hi 1 (n:Int)=(((sIx n 0 lo:Nat):Int),((sIx n n hi:Nat):Int)):=by
 have h1:¬((1:Int)<0):=by omega
 unfold cc
 simp only[h1,if_false]
 refine Prod.ext ?_ ?_
 ·cases lo with
  |none=>rfl
  |some v=>exact yV v n 0
 ·cases hi with
  |none=>rfl
  |some v=>exact yV v n n
theorem aAG(i j:Nat):yr (i:Int) (j:Int) 1=j-i:=by
 unfold yr
 have h1:(1:Int)>0:=by omega
 simp only[h1,if_true,K2]
 split <;> omega
theorem qI{v:Value}{o:Option Int}{Q:Option Int->Shared->Prop}(p:sd v o)(h:Q o s):jd (jq prog w) A (KO v) Q E s:=by
 cases p with
 |none=>exact V3 h
 |int i t=>exact slicePart_int h
theorem j9{Q:Int×Int×Nat->Shared->Prop}(hs:s.heap.IsSliceOf sl vl vu .none)(pl:sd vl lo)(pu:sd vu hi)(h:Q (((sIx n 0 lo:Nat):Int),1,sIx n n hi-sIx n 0 lo) s):jd (jq prog w) A (mm (.ref sl) (pure (n:Int))) Q E s:=by
 obtain⟨os,hos,hcs,hds⟩:=id hs
 unfold mm KP
 refine qa (qa (yp hos hds (x:=vl) rfl (qa (yp hos hds (x:=vu) rfl (qa (yp hos hds (x := .none) rfl (wpAny_pure ?_)))))))
 refine qa (V3 ?_)
 show jd _ _ (if ((1:Int)==0)=true then _ else _) _ _ s
 rw[if_neg '*']
 refine qa (qI pl (qa (qI pu (qa (wpAny_pure ?_)))))
 show jd _ _ (match cc lo hi 1 (n:Int) with|(lo,hi)=>pure (lo,(1:Int),yr lo hi 1)) _ _ s
 rw[zZ lo hi n]
 show jd _ _ (pure (((sIx n 0 lo:Nat):Int),(1:Int),yr ((sIx n 0 lo:Nat):Int) ((sIx n n hi:Nat):Int) 1)) _ _ s
 rw[aAG]
 exact wpAny_pure h
theorem aEM(xs:Array Value)(i k:Nat):((qy k).filterMap λ(m:Nat)=>xs[((i:Int)+(m:Int)*1).toNat]?).toArray=((xs.toList.drop i).take k).toArray:=by
 have e:(λ(m:Nat)=>xs[((i:Int)+(m:Int)*1).toNat]?)=λm=>xs[i+m]?:=by
  funext m
  have:((i:Int)+(m:Int)*1).toNat=i+m:=by omega
  rw[this]
 rw[e]
 have:=pick_run xs i k
 rw[List.filterMap_map] at this
 have e2:((λx=>xs[x]?) ∘ λx=>i+x)=λm=>xs[i+m]?:=rfl
 rw[e2] at this
 rw[this]
theorem oK{t:Addr}{Q:Value->Shared->Prop}(ht:IsTup s.heap t items)(hs:s.heap.IsSliceOf sl vl vu .none)(pl:sd vl lo)(pu:sd vu hi)(hw:¬(sIx items.size 0 lo=0/\sIx items.size items.size hi=items.size))(h:Q (.ref s.heap.objs.size) {s with heap:=s.heap.push {cls := .type "tuple", data := .seq ((items.toList.drop (sIx items.size 0 lo)).take (sIx items.size items.size hi-sIx items.size 0 lo)).toArray} })(hsz:items.size<=sizeLine):jd (jq prog w) A (QE (.ref t) (.ref sl)) Q E s:=by
 have htake:sizeOk (.seq ((items.toList.drop (sIx items.size 0 lo)).take (sIx items.size items.size hi-sIx items.size 0 lo)).toArray):=by
  show ((items.toList.drop (sIx items.size 0 lo)).take (sIx items.size items.size hi-sIx items.size 0 lo)).toArray.size<=sizeLine
  rw[qc,xw,yl,qo]
  omega
 have hj:sIx items.size items.size hi<=items.size:=aIO _ _ (qm _) hi
 obtain⟨os,hos,hcs,hds⟩:=id hs
 have hTs:s.TypeIs (.ref sl) "slice" := ⟨os,hos,hcs⟩
 unfold QE
 try with_reducible refine vc ?_
 first|refine qa (wpAny_pure ?_)|skip
 refine qa (Kt ht.typeIs '*' ?_)
 refine qa (vn (name:=jg "__getitem__") ht.typeIs ku
  (vg ku ht.typeIs J0 ?_ (J9 _ _)))
 show jd _ _ (mi (.ref t) >>= _) _ _ s
 refine qa (tupleItemsOf_ ht ?_)
 refine qa (mw hTs ?_)
 rw[if_pos '*']
 refine qa (j9 hs pl pu ?_)
 have hno:¬((((sIx items.size 0 lo:Nat):Int)==0&&(1:Int)==1&&(sIx items.size items.size hi-sIx items.size 0 lo)==items.size)=true):=by
  intro q
  rw[qp,qp] at q
  have q1:((sIx items.size 0 lo:Nat):Int)=0:=eq_of_beq q.1.1
  have q2:sIx items.size items.size hi-sIx items.size 0 lo=items.size:=eq_of_beq q.2
  exact hw ⟨by omega,by omega⟩
 show jd _ _ (if (((sIx items.size 0 lo:Nat):Int)==0&&(1:Int)==1&&(sIx items.size items.size hi-sIx items.size 0 lo)==items.size)=true then _ else _) _ _ s
 rw[if_neg hno,aEM]
 first
  |exact qa (m:=yu _) (vm (wpAny_pure ⟨_,rfl,wpAny_pure h⟩) htake)
  |exact qa (m:=yu _) (vm (qa (wpAny_pure (wpAny_pure ⟨_,rfl,wpAny_pure h⟩))) htake)
  |exact qa (qa (m:=yu _) (vm (wpAny_pure (wpAny_pure ⟨_,rfl,wpAny_pure h⟩)) htake))
  |exact qa (qa (m:=yu _) (vm (wpAny_pure ⟨_,rfl,wpAny_pure h⟩) htake))
end
end HT
namespace L2
open PySem PySem.Spec PyProof.Rows
abbrev TO:=St->Hp->(Option Int->Hp->Prop)->Prop
noncomputable def PO(X:Cx)(e:Option Expr)(t:TO):Prop:=
 ∀(pins:List (Addr×Obj)) (s:Shared) (σ:St) (H:Hp) (Q:Option Int->Hp->Prop),Inv X pins σ H s->t σ H Q ->
  jd X.w.8 X.A (evalPart e X.env) (λu s'=>∃o H',Inv X pins σ H' s'/\sd u o/\Q o H') X.xe s
noncomputable def aF0:TO:=λ_ H Q=>Q none H
noncomputable def aK4(t:TE):TO:=λσ H Q=>t σ H λx H1=>∃i,x = .int i/\Q (some i) H1
theorem intsAre_of{ns:List Int}:∀{us:List Value},Vals (ns.map V.int) us->IntsAre us ns:=by
 induction ns with
 |nil=>intro us r;rw[QK] at r;cases r;exact .nil
 |cons n ns ih =>
  intro us r
  rw[vy] at r
  cases r with
  |cons r1 r2 =>
   obtain⟨t,e⟩:=r1
   subst e
   exact .cons n t (ih r2)
section
variable {lo hi:Option Expr}{tl th:TO}
theorem aG7:PO X none aF0:=by
 intro pins s σ H Q I h
 rw[evalPart_none]
 exact wpAny_pure ⟨none,H,I, .none,h⟩
theorem aGX(h:PE X e te):PO X (some e) (aK4 te):=by
 intro pins s σ H Q I hw
 rw[evalPart_some]
 refine thn (h pins s σ H _ I hw) λu s1 ⟨x,H1,I1,r1,q1⟩ => ?_
 obtain⟨i,rfl,q⟩:=q1
 obtain⟨t,rfl⟩:=r1
 exact⟨some i,H1,I1, .int i t,q⟩
noncomputable def SlR(X:Cx)(r:V->Option Int->Option Int->Hp->VK->Prop):Prop:=
 ∀(pins:List (Addr×Obj)) (s:Shared) (σ:St) (H:Hp) (x:V) (v vl vu:Value) (lo hi:Option Int) (sl:Addr) (Q:VK),Inv X pins σ H s->RelV x v->s.heap.IsSliceOf sl vl vu .none->sd vl lo->sd vu hi->r x lo hi H Q ->
  ∃T id,typeLookup (.type T) "__getitem__" = pure (some (.builtin id))/\s.TypeIs v T/\jd X.w.8 X.A (QE v (.ref sl)) (EP X pins σ Q) X.xe s
noncomputable def tSl(r:V->Option Int->Option Int->Hp->VK->Prop)(te:TE)(tl th:TO):TE:=λσ H Q=>te σ H λx H1=>tl σ H1 λl H2=>th σ H2 λu H3=>r x l u H3 Q
theorem aDQ{r:V->Option Int->Option Int->Hp->VK->Prop}(hr:SlR X r)(he:PE X e te)(hl:PO X lo tl)(hu:PO X hi th):PE X (.Subscript e (.Slice lo hi none p2) pos) (tSl r te tl th):=by
 intro pins s σ H Q I h
 refine Subscript_ (thn (he pins s σ H _ I h) λv s1 ⟨x,H1,I1,r1,q1⟩ => ?_)
 refine wpAny_Slice (thn (hl pins s1 σ H1 _ I1 q1) λvl s2 ⟨l,H2,I2,pl,q2⟩=>thn (hu pins s2 σ H2 _ I2 q2) λvu s3 ⟨u,H3,I3,pu,q3⟩ => ?_)
 rw[evalPart_none]
 refine wpAny_pure ?_
 have I4:Inv X pins σ H3 {s3 with heap:=s3.heap.push {cls := .type "slice", data := .fields #[vl,vu, .none]} }:=I3.kept (t':=s3.toks) λb ob q=>qb _ q
 obtain⟨T,id,hT,ht,hg⟩:=hr pins {s3 with heap:=s3.heap.push {cls := .type "slice", data := .fields #[vl,vu, .none]} } σ H3 x v vl vu l u s3.heap.objs.size Q I4 r1 (Kj ..) pl pu q3
 show jd X.w.8 X.A (subscriptTail e (.Slice lo hi none p2) v (.ref s3.heap.objs.size)) (EP X pins σ Q) X.xe {s3 with heap:=s3.heap.push {cls := .type "slice", data := .fields #[vl,vu, .none]} }
 exact tail_any (ops:=[.ref s3.heap.objs.size,v]) ht hT hg (by with_unfolding_all rfl)
noncomputable def kC(xs:List V)(lo hi:Option Int):List V:=(xs.drop (HT.sIx xs.length 0 lo)).take (HT.sIx xs.length xs.length hi-HT.sIx xs.length 0 lo)
theorem oV(xs:List V)(lo hi:Option Int):(kC xs lo hi).length<=xs.length:=by
 unfold kC
 rw[xw,yl]
 omega
noncomputable def rSlT(K:qf):V->Option Int->Option Int->Hp->VK->Prop:=λx lo hi H Q=>∃a xs,x = .ref a/\SqT K H a xs /\
 ¬(HT.sIx xs.length 0 lo=0/\HT.sIx xs.length xs.length hi=xs.length)/\∀p,H p=none->Q (.ref p) (upd H p (.tup (kC xs lo hi)))
theorem aJG:SlR X (rSlT X.K):=by
 intro pins s σ H x v vl vu lo hi sl Q I rx hs pl pu h
 obtain⟨a,xs,rfl,hx,hw,q⟩:=h
 cases rx
 obtain⟨its,r,ht,hz⟩:=I.tuple hx
 have hlen:its.toArray.size=xs.length:=by rw[qc];exact r.length.symm
 refine⟨"tuple", _,ku.lookup,ht.typeIs,?_⟩
 refine HT.oK ht hs pl pu (by rw[hlen];exact hw) ?_ (by rw[hlen];exact hz)
 rw[hlen]
 refine⟨.ref s.heap.objs.size,_,I.laid (t':=s.toks) (o := .tup (kC xs lo hi)) (λb ob q=>qb _ q) (qm _) ?_,rfl,q _ (I.hok.fresh (qm _))⟩
 exact⟨jf (oV xs lo hi) hz,_,(r.drop (HT.sIx xs.length 0 lo)).take (HT.sIx xs.length xs.length hi-HT.sIx xs.length 0 lo),VU _ _⟩
end
end L2
namespace L2
open PySem PySem.Spec PyProof.Rows
noncomputable def ixN(n:Nat)(i:Int):Option Nat:=if 0<=i then (if i<n then some i.toNat else none) else if -(n:Int)<=i then some (i+n).toNat else none
noncomputable def atI{α:Type}(xs:List α)(i:Int):Option α:=(ixN xs.length i).bind λj=>xs[j]?
theorem wZ{i:Int}(h:ixN n i=some j):seqIndex? i n=some j/\j<n /\ -(n:Int)<=i/\i<n:=by
 unfold ixN at h
 by_cases h0:0<=i
 ·rw[if_pos h0] at h
  by_cases h1:i<n
  ·rw[if_pos h1] at h
   have e:i.toNat=j:=jk h
   exact⟨by rw[JZ h0 h1,e],by omega,by omega,h1⟩
  ·rw[if_neg h1] at h;cases h
 ·rw[if_neg h0] at h
  by_cases h1 : -(n:Int)<=i
  ·rw[if_pos h1] at h
   have e:(i+n).toNat=j:=jk h
   exact⟨by rw[Jx '!' h1,e],by omega,h1,by omega⟩
  ·rw[if_neg h1] at h;cases h
theorem qU{α:Type}{xs:List α}{i:Int}{v:α}(h:atI xs i=some v):∃j,seqIndex? i xs.length=some j/\xs[j]?=some v/\j<xs.length /\ -(xs.length:Int)<=i/\i<xs.length:=by
 unfold atI at h
 cases e:ixN xs.length i with
 |none=>rw[e] at h;cases h
 |some j =>
  rw[e] at h
  obtain⟨h1,h2,h3,h4⟩:=wZ e
  exact⟨j,h1,h,h2,h3,h4⟩
theorem dA{α:Type}{xs:List α}{v:α}(h:xs[j]?=some v):atI xs (j:Int)=some v:=by
 have hj:j<xs.length:=(zGs h).1
 have e:ixN xs.length (j:Int)=some j:=by
  unfold ixN
  rw[if_pos '!',if_pos '!'];simp
 unfold atI;rw[e];exact h
theorem o7{α:Type}(xs:List α)(v:α):atI (xs++[v]) (-1)=some v:=by
 have hl:(xs++[v]).length=xs.length+1:=by simp
 have e:ixN (xs++[v]).length (-1)=some xs.length:=by
  unfold ixN
  rw[hl,if_neg '*',if_pos '!']
  congr 1
  omega
 unfold atI
 rw[e]
 show (xs++[v])[xs.length]?=some v
 simp
noncomputable def yL(b:Expr):Prop:=∀o i,subscripted b false o i=operate [o,i] (QE o i)
noncomputable def IxR(X:Cx)(r:R2):Prop:=
 ∀(value slice:Expr) (pins:List (Addr×Obj)) (s:Shared) (σ:St) (H:Hp) (x y:V) (v u:Value) (Q:VK),Inv X pins σ H s->RelV x v->RelV y u->r x y H Q ->
  subscripted slice false v u=operate [v,u] (QE v u)->jd X.w.8 X.A (subscriptTail value slice v u) (EP X pins σ Q) X.xe s
noncomputable def MtR(X:Cx)(id:String)(r:V->List V->Hp->VK->Prop):Prop:=
 ∀(pins:List (Addr×Obj)) (s:Shared) (σ:St) (H:Hp) (x:V) (xs:List V) (v:Value) (us:List Value) (Q:VK),Inv X pins σ H s->RelV x v->Vals xs us->r x xs H Q ->
  jd X.w.8 X.A (call (.builtin id) (v::us)) (EP X pins σ Q) X.xe s
section
variable {a:Expr}{tb:TE}
theorem IxR.or{r r':R2}(h:IxR X r)(h':IxR X r'):IxR X (λx y H Q=>r x y H Q\/r' x y H Q):=by
 intro value slice pins s σ H x y v u Q I rx ry q hs
 rcases q with q|q
 ·exact h value slice pins s σ H x y v u Q I rx ry q hs
 ·exact h' value slice pins s σ H x y v u Q I rx ry q hs
theorem aKD{r:R2}(hr:IxR X r)(ha:PE X a ta)(hb:PE X b tb)(hs:yL b):PE X (.Subscript a b pos) (tOp r ta tb):=by
 intro pins s σ H Q I h
 exact Subscript_ (aDT ha hb I h λv u s2 x y H2 I2 rx ry q=>hr a b pins s2 σ H2 x y v u Q I2 rx ry q (hs _ _))
noncomputable def rIxL(K:qf):R2:=λx y H Q=>∃p xs i v,x = .ref p/\y = .int i/\SqL K H p xs/\atI xs i=some v/\Q v H
noncomputable def rIxT(K:qf):R2:=λx y H Q=>∃p xs i v,x = .ref p/\y = .int i/\SqT K H p xs/\atI xs i=some v/\Q v H
noncomputable def rIxS:R2:=λx y H Q=>∃z i c,x = .str z/\y = .int i/\z.length<=sizeLine/\atI z.cps.toList i=some c/\Q (.str ⟨#[c]⟩) H
theorem aFX:IxR X (rIxL X.K):=by
 intro value slice pins s σ H x y v u Q I rx ry h hs
 obtain⟨p,xs,i,z,rfl,rfl,hq,he,q⟩:=h
 cases rx
 obtain⟨t,rfl⟩:=ry
 obtain⟨its,r,pl,hz⟩:=I.list hq
 obtain⟨j,h1,h2,h3,h4,h5⟩:=qU he
 obtain⟨w,ew,rw'⟩:=r.get h2
 have hl:=r.length
 have hn:=line63
 have fin:EP X pins σ Q w s:=⟨z,H,I,rw',q⟩
 by_cases h0:0<=i
 ·have hj:i.toNat=j:=by
   rw[JZ h0 h5] at h1
   exact jk h1
  exact item_listR pl.isList h0 '!' (by rw[hj];simpa using ew) fin hs
 ·have hj:(i+(its.toArray.size:Int)).toNat=j:=by
   rw[Jx '!' h4] at h1
   rw[qc,<- hl]
   exact jk h1
  exact Jm (x:=w) pl.isList.typeIs slot_list_getitem.lookup
   (wpAny_getItem_list_neg (Q:=λr s'=>r=w/\EP X pins σ Q r s') pl.isList '!' (by rw[qc] <;> omega) '!' (by rw[hj];simpa using ew) ⟨rfl,fin⟩) hs
theorem aJ1:IxR X (rIxT X.K):=by
 intro value slice pins s σ H x y v u Q I rx ry h hs
 obtain⟨p,xs,i,z,rfl,rfl,hq,he,q⟩:=h
 cases rx
 obtain⟨t,rfl⟩:=ry
 obtain⟨its,r,pl,hz⟩:=I.tuple hq
 obtain⟨j,h1,h2,h3,h4,h5⟩:=qU he
 obtain⟨w,ew,rw'⟩:=r.get h2
 have hl:=r.length
 have hn:=line63
 have fin:EP X pins σ Q w s:=⟨z,H,I,rw',q⟩
 exact Jm (x:=w) pl.typeIs slot_tuple_getitem.lookup
  (getItem_tuple (j:=j) (Q:=λr s'=>r=w/\EP X pins σ Q r s') pl '!' '!' (by rw[qc,<- hl];exact h1) (by simpa using ew) ⟨rfl,fin⟩) hs
theorem aI7:IxR X rIxS:=by
 intro value slice pins s σ H x y v u Q I rx ry h hs
 obtain⟨z,i,c,rfl,rfl,hz,he,q⟩:=h
 obtain⟨t,rfl⟩:=rx
 obtain⟨t',rfl⟩:=ry
 obtain⟨j,h1,h2,h3,h4,h5⟩:=qU he
 have hl:z.cps.toList.length=z.length:=by simp[gu]
 rw[hl] at h1 h4 h5
 have hn:=line63
 exact tail_any (typeIs_str s z t) slot_str_getitem.lookup (getItem_str (c:=c) (by
  have e1:decide (i < -(2^63:Int))=false:=decide_eq_false '!'
  have e2:decide (i≥2^63)=false:=decide_eq_false '!'
  rw[e1,e2,Kh]) (by rw[h1];simpa using h2) ⟨.str ⟨#[c]⟩,H,I.tok _,⟨_,rfl⟩,q⟩) hs
noncomputable def rIx(K:qf):R2:=λx y H Q=>rIxL K x y H Q\/rIxT K x y H Q\/rIxS x y H Q
theorem aG:IxR X (rIx X.K):=aFX.or (aJ1.or aI7)
theorem aAM(its:List Value)(n j:Nat)(u:Value):bq (·.setIfInBounds j u) {cls := .type "list", data := .seq its.toArray n}={cls := .type "list", data := .seq (its.set j u).toArray n}:=by
 simp[bq]
theorem Inv.lst{p:Addr}{xs:List V}(I:Inv X pins σ H s)(h:H p=some (.lst xs)):
  ∃(its:List Value) (n:Nat),Vals xs its/\s.heap.get? p=some {cls := .type "list", data := .seq its.toArray n}/\xs.length<=sizeLine:=by
 obtain⟨z,its,n,r,e⟩:=I.hok p _ h
 exact⟨its,n,r,e,z⟩
theorem Inv.lstUpd{p:Addr}{xs ys:List V}{its':List Value}{n':Nat}{f:Obj->Obj}(I:Inv X pins σ H s)(h:H p=some (.lst xs))(ho:s.heap.get? p=some {cls := .type "list", data := .seq its.toArray n})(hf:f {cls := .type "list", data := .seq its.toArray n}={cls := .type "list", data := .seq its'.toArray n' })(r:Vals ys its')(hz:ys.length<=sizeLine)(t:Nat):
  Inv X pins σ (upd H p (.lst ys)) {s with heap:=s.heap.update p f,toks:=t}:=by
 have e:(s.heap.update p f).get? p=some {cls := .type "list", data := .seq its'.toArray n' }:=by
  rw[wx f ho (by rw[hf] <;> rfl),hf]
 refine I.write (x:=p) (e:=p) (by rw[h];trivial) (.inl rfl) (λb u hb q=>(bc _ _ (dc hb)).trans q) ⟨_,e⟩ ?_
 exact⟨hz,its',n',r,e⟩
noncomputable def sZ:V->V->V->Hp->(Hp->Prop)->Prop:=λo i v H Q=>∃p xs k j,o = .ref p/\i = .int k/\H p=some (.lst xs)/\ixN xs.length k=some j/\Q (upd H p (.lst (xs.set j v)))
theorem set_list:PSet X sZ:=by
 intro pins s σ H o i v ov iv u Q I ro ri rv h
 obtain⟨p,xs,k,j,rfl,rfl,hp,hj,q⟩:=h
 cases ro
 obtain⟨t,rfl⟩:=ri
 obtain⟨its,n,r,ho,hz⟩:=I.lst hp
 obtain⟨h1,h2,h3,h4⟩:=wZ hj
 have hl:=r.length
 have hn:=line63
 have I':Inv X pins σ (upd H p (.lst (xs.set j v))) {s with heap:=s.heap.update p (bq (·.setIfInBounds j u))}:=
  I.lstUpd hp ho (aAM its n j u) (r.set rv j) (by rw[tw];exact hz) s.toks
 by_cases h0:0<=k
 ·have hk:k.toNat=j:=by
   rw[JZ h0 h4] at h1
   exact jk h1
  exact PySem.W.ki_setAt ho h0 '!' (by rw[qc,<- hl];exact h4) (by rw[hk];exact⟨_,I',q⟩)
 ·have hk:(k+(its.toArray.size:Int)).toNat=j:=by
   rw[Jx '!' h3] at h1
   rw[qc,<- hl]
   exact jk h1
  exact PySem.W.ki_setBack ho '!' (by rw[qc,<- hl];exact h3) '!' (by rw[hk];exact⟨_,I',q⟩)
theorem vQ(lo hi:Option Int)(n:Nat):(dw lo hi none n).1=((HT.sIx n 0 lo:Nat):Int)/\(dw lo hi none n).2.1=((HT.sIx n n hi:Nat):Int)/\(dw lo hi none n).2.2=1:=by
 refine⟨?_,?_,rfl⟩
 ·cases lo with
  |none=>simp[dw,HT.sIx]
  |some i =>
   simp only[dw,HT.sIx,Jf,show (1:Int)>0 by decide,if_true]
   by_cases h:i<0
   ·simp only[h,if_true] <;> omega
   ·simp only[h,if_false] <;> omega
 ·cases hi with
  |none=>simp[dw,HT.sIx]
  |some i =>
   simp only[dw,HT.sIx,Jf,show (1:Int)>0 by decide,if_true]
   by_cases h:i<0
   ·simp only[h,if_true] <;> omega
   ·simp only[h,if_false] <;> omega
theorem sV(its:List Value)(lo hi:Option Int):slicePick its.toArray lo hi none=((its.drop (HT.sIx its.length 0 lo)).take (HT.sIx its.length its.length hi-HT.sIx its.length 0 lo)).toArray:=by
 obtain⟨h1,h2,h3⟩:=vQ lo hi its.toArray.size
 unfold slicePick
 rw[h1,h2,h3]
 simp only[sliceRange_one,pick_run,qc] <;> rfl
noncomputable def rSlL(K:qf):V->Option Int->Option Int->Hp->VK->Prop:=λx lo hi H Q=>∃a xs,x = .ref a/\SqL K H a xs/\∀p,H p=none->Q (.ref p) (upd H p (.lst (kC xs lo hi)))
theorem fT:SlR X (rSlL X.K):=by
 intro pins s σ H x v vl vu lo hi sl Q I rx hs pl pu h
 obtain⟨a,xs,rfl,hx,q⟩:=h
 cases rx
 obtain⟨its,r,ht,hz⟩:=I.list hx
 have hlen:=r.length
 refine⟨"list", _,slot_list_getitem.lookup,ht.isList.typeIs,?_⟩
 refine wpAny_getItem_list_slice ht.isList hs pl pu .none '$' ?_ (by rw[qc] <;> omega)
 rw[sV,<- hlen]
 refine⟨.ref s.heap.objs.size,_,I.laid (t':=s.toks) (o := .lst (kC xs lo hi)) (λb ob q=>qb _ q) (qm _) ?_,rfl,q _ (I.hok.fresh (qm _))⟩
 exact⟨jf (oV xs lo hi) hz,_,0,(r.drop (HT.sIx xs.length 0 lo)).take (HT.sIx xs.length xs.length hi-HT.sIx xs.length 0 lo),qh _ rfl⟩
theorem bC:eF X (.type "list") (λxs H Q=>∃p ys,xs=[.ref p]/\(SqL X.K H p ys\/SqT X.K H p ys)/\∀l,H l=none->Q (.ref l) (upd H l (.lst ys))):=by
 intro pins s σ H xs us Q I r h
 obtain⟨p,ys,rfl,hq,q⟩:=h
 obtain⟨u,rfl,rx⟩:=vals1 r
 cases rx
 have fin:∀(its:List Value),Vals ys its->ys.length<=sizeLine->∀(h':Heap) (c':Nat),(∀b o',s.heap.get? b=some o'->h'.get? b=some o') ->
   h'.get? s.heap.objs.size=some {cls := .type "list", dict:=none,data := .seq its.toArray c',slots := #[]}->EP X pins σ Q (.ref s.heap.objs.size) {s with heap:=h' }:=λits r' hz h' c' kp e =>
  ⟨.ref s.heap.objs.size,_,I.laid (t':=s.toks) kp (qm _) (show dX X.prog X.w _ h' _ (.lst ys) from ⟨hz,its,c',r',e⟩),rfl,q _ (I.hok.fresh (qm _))⟩
 rcases hq with hq|hq
 ·obtain⟨its,r',pl,hz⟩:=I.list hq
  have hlen:=r'.length
  obtain⟨o,ho,hc,n,hd⟩:=pl.isList
  exact call_list_seq p (.inl rfl) ho hc hd (λh' c' kp e=>fin its r' hz h' c' kp e) (by simp only[qc] <;> omega)
 ·obtain⟨its,r',pl,hz⟩:=I.tuple hq
  have hlen:=r'.length
  obtain⟨o,ho,hc,n,hd⟩:=pl
  exact call_list_seq p (.inr rfl) ho hc hd (λh' c' kp e=>fin its r' hz h' c' kp e) (by simp only[qc] <;> omega)
theorem d8:eF X (.type "tuple") (λxs H Q=>∃p ys,xs=[.ref p]/\((SqL X.K H p ys/\∀l,H l=none->Q (.ref l) (upd H l (.tup ys)))\/(SqT X.K H p ys/\Q (.ref p) H))):=by
 intro pins s σ H xs us Q I r h
 obtain⟨p,ys,rfl,h⟩:=h
 obtain⟨u,rfl,rx⟩:=vals1 r
 cases rx
 rcases h with ⟨hq,q⟩|⟨hq,q⟩
 ·obtain⟨its,r',pl,hz⟩:=I.list hq
  have hlen:=r'.length
  refine call_tuple_list pl.isList (λh' kp => ?_) (by simp only[qc] <;> omega)
  have I1:Inv X pins σ H {s with heap:=h' }:=I.kept (t':=s.toks) kp
  have I2:Inv X pins σ (upd H h'.objs.size (.tup ys)) {s with heap:=h'.push {cls := .type "tuple", data := .seq its.toArray} }:=
   I1.laid (t':=s.toks) (λb o e=>qb _ e) (qm _) (show dX X.prog X.w _ _ _ (.tup ys) from ⟨hz,its,r',VU _ _⟩)
  exact⟨.ref h'.objs.size,_,I2,rfl,q _ (I1.hok.fresh (qm _))⟩
 ·obtain⟨its,r',pl,hz⟩:=I.tuple hq
  exact call_tuple_same pl ⟨.ref p,H,I,rfl,q⟩
noncomputable def tyV(K:qf)(T:String)(x:V)(H:Hp):Prop:=match x with
 |.str _=>T = "str"
 |.int _=>T = "int"
 |.ref p=>(T = "list" /\ ∃xs,SqL K H p xs)\/(T = "tuple" /\ ∃o,K.lookup p=some o/\o.cls = .type "tuple" /\ o.dict=none) \/
   (T = "dict" /\ ((∃kvs,H p=some (.dK kvs))\/∃kvs,H p=some (.dT kvs)))\/(T = "set" /\ ∃S n,H p=some (.set S n))
 |_=>False
theorem aJQ{T:String}{x:V}{v:Value}(I:Inv X pins σ H s)(r:RelV x v)(ty:tyV X.K T x H):
  s.TypeIs v T/\∀a,v = .ref a->∃ob,s.heap.get? a=some ob/\ob.dict=none:=by
 cases x with
 |str z =>
  obtain⟨t,rfl⟩:=r
  cases (show T = "str" from ty)
  exact⟨typeIs_str s z t,λ_ e=>nomatch e⟩
 |int i =>
  obtain⟨t,rfl⟩:=r
  cases (show T = "int" from ty)
  exact⟨typeIs_int s i t,λ_ e=>nomatch e⟩
 |ref p =>
  cases r
  rcases ty with ⟨rfl,xs,hq⟩|⟨rfl,o,hk,hc,hd⟩|⟨rfl,hk⟩|⟨rfl,S,n,hk⟩
  ·obtain⟨its,_,pl,_⟩:=I.list hq
   refine⟨pl.isList.typeIs,λa e => ?_⟩
   cases e
   obtain⟨o,n,e,c,hd,_⟩:=pl
   exact⟨o,e,hd⟩
  ·refine⟨⟨o,I.kIn p o hk,hc⟩,λa e => ?_⟩
   cases e
   exact⟨o,I.kIn _ o hk,hd⟩
  ·have z:∃o,s.heap.get? p=some o/\o.ExactDict:=by
    rcases hk with ⟨kvs,hk⟩|⟨kvs,hk⟩
    ·obtain⟨_,_,_,_,o,_,_,e,ex,_⟩:=I.hok p _ hk
     exact⟨o,e,ex⟩
    ·obtain⟨_,_,_,_,o,_,_,e,ex,_⟩:=I.hok p _ hk
     exact⟨o,e,ex⟩
   obtain⟨o,e,ex⟩:=z
   refine⟨⟨o,e,ex.1⟩,λa e2 => ?_⟩
   cases e2
   exact⟨o,e,ex.2.1⟩
  ·obtain⟨o,_,_,_,e,ex,_⟩:=I.hok p _ hk
   refine⟨⟨o,e,ex.1⟩,λa e2 => ?_⟩
   cases e2
   exact⟨o,e,ex.2.1⟩
 |_=>exact yx ty
noncomputable def tBM(K:qf)(T:String)(r:V->List V->Hp->VK->Prop)(to:TE)(t:TA):TE:=λσ H Q=>to σ H λx H1=>tyV K T x H1/\t σ H1 λxs H2=>r x xs H2 Q
variable {to:TE}{t:TA}{T id:String}
theorem aKV(pa:PlainAttrs T)(slot:Slot T name id)(hty:typeOf (.builtin id)=pure (.type "method_descriptor"))(hm:MtR X id r)(ho:PE X o to)(ha:PA X (e::es) t)(hbase:attributeBase o name X.env (eval o X.env)=eval o X.env:=by rfl)(hfew:((dt cpos (je (e::es) X.env)).all (λx => !x.1)&&(backToKw cpos (keywordEach [] X.env)).all (λx=>x.1.isSome)
   && decide ((e::es).length+([]:List JY).length+(if ([]:List JY).isEmpty then 0 else 1)<30))=true:=by rfl)(hline:(apos.endLine==cpos.line)=true:=by rfl)(hs:je (e::es) X.env=(false,eval e X.env)::je es X.env:=by rfl)(hplain:(dt cpos (je es X.env)).any (·.1)=false:=by rfl):
  PE X (.Call (.Attribute o name apos) (e::es) [] cpos) (tBM X.K T r to t):=by
 intro pins s σ H Q I h
 refine wpAny_Call_method_late hbase hfew hline rfl (thn (ho pins s σ H _ I h) λv s1 ⟨x,H1,I1,r1,ty,q1⟩ => ?_)
 obtain⟨h1,h2⟩:=aJQ I1 r1 ty
 refine⟨T,id,pa,slot,hty,h1,h2,?_⟩
 have hA:=ha cpos pins s1 σ H1 _ I1 q1
 rw[hs] at hA ⊢
 refine Calls.callWith_builtin (by show (false||(dt cpos (je es X.env)).any (·.1))=false;rw[hplain] <;> rfl) (Calls.evalArgs_plain ?_)
 exact thn hA λus s2 ⟨vs,H2,I2,r2,q2⟩=>hm pins s2 σ H2 x vs v us Q I2 r1 r2 q2
/- xs.append(e),list.index on a module's tuple .. are MtR facts of 06m -/
end
end L2
namespace L2
open PySem PySem.Spec PyProof.Rows
noncomputable def MtM(X:Cx)(id:String)(r:V->List V->Hp->VK->Prop):Prop:=
 ∀(pins:List (Addr×Obj)) (s:Shared) (σ:St) (H:Hp) (x:V) (xs:List V) (v:Value) (us:List Value) (Q:VK),Inv X pins σ H s->RelV x v->Vals xs us->r x xs H Q ->
  jd X.w.8 X.A (call (.builtin id) (v::us)) (EP X pins σ Q) X.xe s
theorem Vals.one:∀{x:V}{us:List Value},Vals [x] us->∃u,us=[u]/\RelV x u
 |_,_, .cons r .nil=>⟨_,rfl,r⟩
section
variable {l b:Addr}{xs ys zs:List V}
theorem Inv.lset{its':List Value}{f:Array Value->Array Value}(I:Inv X pins σ H s)(hH:H l=some (.lst xs))(e:s.heap.get? l=some {cls := .type "list", data := .seq its.toArray n})(hf:f its.toArray=its'.toArray)(hv:Vals ys its')(hz:ys.length<=sizeLine):
  Inv X pins σ (upd H l (.lst ys)) {s with heap:=s.heap.update l (bq f),toks:=t' }:=by
 have q:=PySem.IsL.update e f
 rw[hf] at q
 refine I.write (x:=l) (e:=l) (by rw[hH];exact trivial) (.inl rfl) (λb' u hb hu=>(bc s.heap (bq f) (dc hb)).trans hu) ⟨_,q⟩ ?_
 exact⟨hz,its',_,hv,q⟩
theorem Inv.lnew(I:Inv X pins σ H s)(hv:Vals ys its)(hz:ys.length<=sizeLine):
  Inv X pins σ (upd H s.heap.objs.size (.lst ys)) {s with heap:=s.heap.push {cls := .type "list", data := .seq its.toArray},toks:=t' }:=
 I.laid (λ_ _ q=>qb _ q) (qm _) ⟨hz,its,0,hv,qh _ rfl⟩
theorem Inv.fresh(I:Inv X pins σ H s):H s.heap.objs.size=none:=I.hok.fresh (qm _)
theorem Inv.lstM(I:Inv X pins σ H s)(hH:H l=some (.lst xs)):xs.length<=sizeLine/\∃(its:List Value) (n:Nat),Vals xs its/\xs.length=its.length/\s.heap.get? l=some {cls := .type "list", data := .seq its.toArray n}:=by
 obtain⟨z,its,n,r,e⟩:=I.hok l _ hH
 exact⟨z,its,n,r,r.length,e⟩
theorem aD1(h:n<=sizeLine):pf n=false:=by
 unfold pf
 exact decide_eq_false '!'
end
section
noncomputable def yM:V->List V->Hp->VK->Prop:=λx vs H Q=>∃l xs y,x = .ref l/\vs=[y]/\H l=some (.lst xs)/\xs.length<sizeLine/\Q .non (upd H l (.lst (xs++[y])))
theorem fA:MtM X "list.append" yM:=by
 intro pins s σ H x vs v us Q I rx rv h
 obtain⟨l,xs,y,rfl,rfl,hH,hz,q⟩:=h
 cases rx
 obtain⟨u,rfl,ru⟩:=rv.one
 obtain⟨z,its,n,r,hl,e⟩:=I.lstM hH
 refine call_meets F.slot_list_append ⟨_,e,rfl⟩ F.entry_list_append (F.args_list_append_2 _ _) (PySem.list_append l its.toArray n u (by rw[qc];omega)) ⟨e,?_⟩
 refine⟨.non,_,I.lset (its':=its++[u]) hH e '$' (r.append (.cons ru .nil)) ?_,rfl,q⟩
 rw[ja,gj]
 omega
noncomputable def rCat:R2:=λx y H Q=>∃l b xs zs,x = .ref l/\y = .ref b/\H l=some (.lst xs)/\H b=some (.lst zs)/\xs.length+zs.length<=sizeLine/\∀p,H p=none->Q (.ref p) (upd H p (.lst (xs++zs)))
theorem kF:OpR X (zm .Add) rCat:=by
 intro pins s σ H x y v u Q I rx ry h
 obtain⟨l,b,xs,zs,rfl,rfl,hH,hB,hz,q⟩:=h
 cases rx
 cases ry
 obtain⟨z,its,n,r,hl,e⟩:=I.lstM hH
 obtain⟨z2,its2,n2,r2,hl2,e2⟩:=I.lstM hB
 refine PySem.P.add_list e e2 ?_ (by rw[qc,qc];omega)
 have ea:its.toArray++its2.toArray=(its++its2).toArray:=by simp
 rw[ea]
 exact⟨.ref _,_,I.lnew (t':=s.toks) (r.append r2) (by rw[ja];omega),rfl,q _ I.fresh⟩
end
section
variable {E:Value->Shared->Prop}
set_option maxRecDepth 100000 in
end
section
end
end L2
namespace Att
open PySem PySem.W PySem.Calls PyProof.Rows
theorem qG{P:xq}:∀(ns:List Int) (vs:List Value),WellAll P h vs (ns.map WData.int)->IntsAre vs ns:=by
 intro ns
 induction ns with
 |nil =>
  intro vs w
  rw[QK] at w
  cases w
  exact .nil
 |cons n ns ih =>
  intro vs w
  rw[vy] at w
  cases w with
  |cons a b =>
   cases a
   exact .cons _ _ (ih _ b)
theorem aBZ{l:OpenLaw}(hn:l.most=some n){P:xq}{args:List WData}{vals:List Value}(hpre:l.row.toRowW.claim.pre args=true)(hwl:WellAll P h vals args):
  ∃a vs ns,vals=[bp a]/\args=[WData.list (ns.map WData.int)]/\h.get? a=some {cls := .type "list", data := .seq vs.toArray}/\IntsAre vs ns/\ns.length<=n:=by
 have hsh:WShape.hasAll [] args [.list .int]=true:=(pre_splitW hpre).1
 have hc:l.pre.holds [] {args:=args}=true:=(pre_splitW hpre).2
 obtain⟨d,r,rfl,h1,h2⟩:=hasAllW_cons hsh
 obtain rfl:=hasAllW_nil h2
 obtain⟨xs,rfl,h3⟩:=hasW_list h1
 obtain⟨ns,rfl⟩:=items_int h3
 have hlen:ns.length<=n:=by
  unfold OpenLaw.pre at hc
  have h4:(WTm.not (.lt (.lit (.int (n:Int))) (.len (.arg 0)))).holds [] {args:=[.list (ns.map .int)]}=true:=by
   have h4:=(holds_andW hc).1
   rw[hn] at h4
   exact h4
  have h5:=condW_of h4 (w_not (w_lt w_lit (w_len_list (w_arg rfl))))
  rw[zLm] at h5
  refine fk λq => ?_
  have q':(n:Int)<((ns.length:Nat):Int):=by omega
  first
   | (rw[decide_eq_true q'] at h5;exact absurd h5 '*')
   | (simp at h5;omega)
 cases hwl with
 |cons w1 w2 =>
  cases w2
  cases w1 with
  |list ho hall=>exact⟨_,_,ns,rfl,rfl,ho,qG ns _ hall,hlen⟩
theorem aC4(l:OpenLaw)(args:List WData):l.row.toRowW.claim.post args (.bool true) args=true:=
 postW_of (r:=l.row.toRowW) (X:=(true==true))
  (show WShape.has [] (.bool true) .bool=true by first|rfl|decide|simp[WShape.has,WShape.arms,WShape.armsAll])
  (show (WTm.eq .res (.lit (.bool true))).value [] {args:=args,res:=some (.bool true),after:=args}=some (.bool (true==true)) from w_eq_bool (w_res rfl) w_lit) rfl
theorem vY{l:OpenLaw}{q:Program}{XP:(Str->Option Value)->Heap->Prop}{d:DefRec}(hn:l.most=some n)(hdf:d.params.defaults=[])(call:∀(w:World) (s₀ s₁:Shared) (mg mb:Str->Option Value) (fa:Addr) (o:Obj) (pm cd doc:Value) (a:Addr) (vs:List Value) (ns:List Int),
   Ground q loose [] XP w s₀ mg mb s₁.heap->YP w s₁.heap ->
   s₁.heap.get? fa=some o->o.data = .func (docDef d.name d.params d.body d.scope pm cd doc)->s₁.heap.CodeRec cd d.name->mg d.name=some (.ref fa) ->
   s₁.heap.get? a=some {cls := .type "list", data := .seq vs.toArray}->IntsAre vs ns->ns.length<=n->s₁.gens = #[] ->
   gm (jq l.prog w) QF (.call (.ref fa) ⟨[.ref a],[]⟩) (λr s'=>r = .ok (.ret (.bool true))/\OldK s₁.heap s'.heap/\s'.os=s₁.os/\rb s'.gens) s₁):
  WalkO q loose XP YP l.row.toRowW d [] (λf vs=>Jb f vs):=by
 intro w s₀ s₁ mg mb G Y fa o pm cd doc dV kV ho hd hcd hD hmg hg args vals as hpre hlay hrd hwl hlo
 obtain rfl:dV = .none:=Dflts.none hD hdf
 obtain rfl:kV = .none:=Dflts.noKw hD
 obtain⟨a,vs,ns,rfl,rfl,hobj,hints,hlen⟩:=aBZ hn hpre hwl
 refine enter_call (mz (call w s₀ s₁ mg mb fa o pm cd doc a vs ns G Y ho (fd_plain hd) hcd hmg hobj hints hlen hg) λr s' hq => ?_)
 obtain⟨rfl,h2,h3,h4⟩:=hq
 exact⟨.inl ⟨.bool true, .bool true,[],rfl,λ_=>rfl, .bool true,aC4 l _,λ_=>⟨zf,λ_ hm=>(nomatch hm)⟩⟩,h2,h3,h4⟩
section
variable {E:Value->Shared->Prop}{K:Frag}
end
end Att
namespace L2
open PySem PySem.Spec PyProof.Rows
theorem hW:∀{vs:List Value}{ns:List Int},IntsAre vs ns->Vals (ns.map V.int) vs
 |_,_, .nil => .nil
 |_,_, .cons n t h => .cons ⟨t,rfl⟩ (hW h)
noncomputable def Only(H:Hp):Prop:=∀b,H b=none\/∃o xs,H b=some (.frz o (.lst xs))
theorem aDR{K:qf}{mb:Str->Option Value}{CX:CXT}{k:Nat}{fa:Addr}{sp:Sp}{s₁:Shared}{vs:List Value}{ns:List Int}(KX:K.In s₁.heap)(hns:s₁.heap.Ns km mg)(hb:s₁.heap.Ns Q0 mb)(hbb:∀x:Str,x ≠ "__name__" -> mb x=jv x)(hlim:s₁.heap.NoLimit)(hg:s₁.gens = #[])(ha:s₁.heap.get? a=some {cls := .type "list", data := .seq vs.toArray})(hi:IntsAre vs ns)(hl:ns.length<=sizeLine)(hr:Room k QF)(F:∀base:Heap,K.In base->base.Ns km mg->FnOk P w K mg base CX k fa fd [x] sp)(hbind:∀(s:Shared) (u:Value),BindsTo s fd ⟨[u],[]⟩ [(x,u)])(hsp:∀H:Hp,Only H->SqL K H a (ns.map V.int)->sp [.ref a] H (λv _=>v = .bl true) λ_ _ _=>False)(hCX:∀H e s',CX [] H s₁ (λ_ _ _=>False) e s'->False):
  gm (jq P w) QF (.call (.ref fa) ⟨[.ref a],[]⟩) (λr s'=>r = .ok (.ret (.bool true))/\OldK s₁.heap s'.heap/\s'.os=s₁.os/\rb s'.gens) s₁:=by
 have rv:=hW hi
 have lenV:=hi.length
 -- from an abstract heap in which nothing but the script may be tracked
 have core:∀H:Hp,Only H->SqL K H a (ns.map V.int)->HOk P w H s₁.heap->(∀b,H b≠none->b=a)->(H a≠none->K.lookup a=none) ->
   gm (jq P w) QF (.call (.ref fa) ⟨[.ref a],[]⟩) (λr s'=>r = .ok (.ret (.bool true))/\OldK s₁.heap s'.heap/\s'.os=s₁.os/\rb s'.gens) s₁:=by
  intro H hO hS hok hA hK
  have base_of:∀{b:Addr}{o:Obj},s₁.heap.get? b=some o->H b=none->(lQ s₁.heap H).get? b=some o:=λe n=>aDM e n
  have noA:∀{b:Addr}{o:Obj}{es:Array DictEntry}{ep:Nat},s₁.heap.get? b=some o->o.data = .dict es ep->H b=none:=λ{b o es ep} e d=>by
   cases q:H b with
   |none=>rfl
   |some u =>
    have e':b=a:=hA b (by rw[q];simp)
    subst e'
    rw[ha] at e;cases e
    have d':Data.seq vs.toArray _=Data.dict es ep:=d
    cases d'
  have nsK:∀{b:Addr}{m:Str->Option Value},s₁.heap.Ns b m->(lQ s₁.heap H).Ns b m:=λ{b m} ⟨o,es,ep,e,d,r⟩=>⟨o,es,ep,base_of e (noA e d),d,r⟩
  have hKb:K.In (lQ s₁.heap H):=λb o e=>base_of (KX b o e) (by
   cases q:H b with
   |none=>rfl
   |some u =>
    have e':b=a:=hA b (by rw[q];simp)
    subst e'
    rw[hK (by rw[q];simp)] at e;cases e)
  have hM:Mod K mg (lQ s₁.heap H):=⟨hKb,nsK hns,⟨mb,nsK hb,hbb⟩,let ⟨mc,h1,h2⟩:=hlim;⟨mc,nsK h1,h2⟩⟩
  have e0:Env0 P w K mg (lQ s₁.heap H) QF [] s₁ H:=⟨rfl,hM,λb o e=>aG8 e,x9 (aDB _ _),trivial,λb hb=>absurd (show b∈([]:List Addr) from hb) '$',hok, .of_eq hg⟩
  refine mz ((F _ hKb (nsK hns)).run QF [] s₁ H ⟨[.ref a],[]⟩ [.ref a] [.ref a] _ _ hr e0 (hbind s₁ (.ref a)) (.cons rfl .nil) (hsp H hO hS)) λr s' h => ?_
  cases r with
  |error e=>exact (hCX H e s' h).elim
  |ok fl =>
   cases fl with
   |next=>exact yx h
   |brk=>exact yx h
   |cont=>exact yx h
   |ret u =>
    obtain⟨v,H',os,bare,un,hok',r',q⟩:=h
    have q':v = .bl true:=q
    subst q'
    obtain rfl:u=kh true:=r'
    refine⟨rfl,OldK.of_keep λb o e => ?_,os,bare⟩
    cases q:H b with
    |none=>exact un.keep b o e q (by intro z;exact absurd (show b∈([]:List Addr) from z) '$') '$'
    |some u =>
     rcases hO b with z|⟨ob,xs,z⟩
     ·rw[q] at z;cases z
     ·have z2:=un.frzs b ob _ z
      obtain⟨e1,_⟩:=hok b _ z
      obtain⟨e2,_⟩:=hok' b _ z2
      rw[e] at e1;cases e1
      exact e2
 cases hk:K.lookup a with
 |some o =>
  -- the script is one of the module's own objects
  have e:=KX a o hk
  rw[ha] at e
  cases e
  refine core (λ_=>none) (λ_ => .inl rfl) (.inr ⟨_,vs.toArray,_,hk,rfl,rfl,rfl,by rw[qc,lenV];exact hl,by simpa using rv⟩) (λb u z=>by have z':(none:Option HO)=some u:=z;cases z') (λb z=>absurd rfl z) λz=>absurd rfl z
 |none =>
  refine core (λb=>if b=a then some (.frz {cls := .type "list", data := .seq vs.toArray} (.lst (ns.map V.int))) else none) (λb => ?_) (.inl (.inr ⟨{cls := .type "list", data := .seq vs.toArray},if_pos rfl⟩)) (λb u z => ?_) (λb z => ?_) λ_=>hk
  ·by_cases hb:b=a
   ·exact .inr ⟨_,_,if_pos hb⟩
   ·exact .inl (if_neg hb)
  ·by_cases hb:b=a
   ·have z':=(if_pos hb).symm.trans z
    cases z'
    subst hb
    exact⟨ha,by rw[zLm];exact hl,vs,_,rv,ha⟩
   ·have z':=(if_neg hb).symm.trans z
    cases z'
  ·by_cases hb:b=a
   ·exact hb
   ·exact absurd (if_neg hb) z
theorem aGR{l:rf}{k:Nat}{q:Program}{XP:(Str->Option Value)->Heap->Prop}{d:DefRec}{K:xq->qf}{CX:World->CXT}{sp:World->Sp}(hn:l.most=some n)(hn2:n<=sizeLine)(hdf:d.params.defaults=[])(hr:Room k QF)(hY:∀(w:World) (h:Heap),YP w h->(K w.params).In h)(F:∀(w:World) (mg:Str->Option Value) (fa:Addr) (h:Heap),(K w.params).In h->h.Ns km mg->mg d.name=some (.ref fa) ->
   ∃fd:FuncData,(∀(s:Shared) (u:Value),BindsTo s fd ⟨[u],[]⟩ [(x,u)]) /\
    ∀base:Heap,(K w.params).In base->base.Ns km mg->FnOk l.prog w (K w.params) mg base (CX w) k fa fd [x] (sp w))(hsp:∀(w:World) (H:Hp) (a:Addr) (ns:List Int),ns.length<=n->Only H->SqL (K w.params) H a (ns.map V.int)->sp w [.ref a] H (λv _=>v = .bl true) λ_ _ _=>False)(hCX:∀(w:World) (H:Hp) (s:Shared) (e:Value) (s':Shared),CX w [] H s (λ_ _ _=>False) e s'->False):
  JD q loose XP YP l.row.toRowW d [] (λf vs=>Jb f vs):=by
 refine Att.vY hn hdf λw s₀ s₁ mg mb fa o pm cd doc a vs ns G Y ho hd hcd hmg hobj hints hlen hg => ?_
 have KX:=hY w _ Y
 obtain⟨fd,hb,hF⟩:=F w mg fa _ KX G.T.g hmg
 exact aDR KX G.T.g G.T.b G.T.builtins G.T.nolimit hg hobj hints (jf hlen hn2) hr hF hb (λH hO hS=>hsp w H a ns hlen hO hS) λH e s'=>hCX w H s₁ e s'
noncomputable def eY(s:Stmt):Arguments:=match s with
 |.FunctionDef _ a _ _ _ _ _ _ _ _=>a
 |_=>{posonlyargs:=[],args:=[],vararg:=none,kwonlyargs:=[],kw_defaults:=[],kwarg:=none,defaults:=[]}
noncomputable def dI(s:Stmt):List Stmt:=match s with
 |.FunctionDef _ _ b _ _ _ _ _ _ _=>b
 |_=>[]
noncomputable def aK(s:Stmt):Scope:=match s with
 |.FunctionDef _ _ _ _ _ _ sc _ _ _=>sc
 |_=>{kind := .function,names:=[],isGenerator:=false,isCoroutine:=false}
abbrev CX0:CXT:=λ_ _ _ _ _ _=>False
abbrev E0:XK:=λ_ _ _=>False
theorem pass0:Passes CX0 X E0:=λ_ _ _ _ _ _ _ h=>h.elim
structure Fun(K:qf)(x qual:Str)(st:Stmt)(f:Addr)(fd:FuncData):Prop where
 ex:∃(oc:Value) (od:Option Addr) (kV doc pm:Value) (an:Option Addr) (cdv ct:Value) (osl:Array (Option Value)),
  fd=xt x qual (eY st) (dI st) (aK st) .none kV doc pm an cdv ct/\K.lookup f=some ⟨oc,od, .func fd,osl⟩/\sk K cdv qual=true
 kp:z9 K (.ref f)=true
section
variable {K:qf}
theorem Fun.ok{ps:List Str}{k:Nat}{sp:Sp}(F:Fun K x qual st f fd)(S:FnScope N ps (aK st))(len:∀vs H Q E,sp vs H Q E->vs.length=ps.length)(hbody:∀(cdv:Value) (A:Around) (outer:List Env) (s:Shared) (H:Hp) (vs:List V) (Q:VK) (E:XK),Room k (A.deeper (QC qual (aK st) s.heap.objs.size f cdv))->sp vs H Q E ->
   ∃t,PSs (pB CX0 P w K mg base N qual (aK st) f cdv A outer s H E).nox (dI st) t/\t {nx:=λ_ H'=>Q .non H',rt:=Q} (start N vs) H):FnOk P w K mg base CX0 (k+1) f fd ps sp:=by
 obtain⟨oc,od,kV,doc,pm,an,cdv,ct,osl,rfl,lk,hcd⟩:=F.ex
 refine aKO lk hcd S len λA outer s H vs Q E hr hsp => ?_
 obtain⟨t,h,q⟩:=hbody cdv A outer s H vs Q E hr hsp
 exact⟨t,h.nox,q⟩
theorem Fun.binds{ps:List Str}(F:Fun K x qual st f fd)(h:∀(kV doc pm:Value) (an:Option Addr) (cdv ct:Value) (us:List Value),us.length=ps.length->J6 (xt x qual (eY st) (dI st) (aK st) .none kV doc pm an cdv ct) ⟨us,[]⟩=pure (ps.zip us)):Binds K fd ps []:=by
 obtain⟨oc,od,kV,doc,pm,an,cdv,ct,osl,rfl,lk,hcd⟩:=F.ex
 exact .all (h kV doc pm an cdv ct)
theorem aI6{oc:Value}{an:Option Addr}{osl:Array (Option Value)}{kV doc pm cdv ct:Value}(l:K.lookup f=some ⟨oc,od, .func (xt x qual (eY st) (dI st) (aK st) .none kV doc pm an cdv ct),osl⟩)(c:sk K cdv qual=true)(k:z9 K (.ref f)=true):Fun K x qual st f (xt x qual (eY st) (dI st) (aK st) .none kV doc pm an cdv ct):=⟨⟨oc,od,kV,doc,pm,an,cdv,ct,osl,rfl,l,c⟩,k⟩
end
section
theorem pv(i:Nat)(hN:X.N[i]?=some x:=by rfl)(hv:Vis X.env.scope x:=by first|exact pw rfl|exact fz (pw rfl)|exact fz (fz rfl))(hd:(x==("__debug__" : Str))=false:=by decide)(hcd:(x==("__classdict__" : Str))=false:=by decide):PE X (.Name x pos) (tVar i):=aCK hN hv hd hcd
end
theorem b7{A B:Prop}(h:B):if false=true then A else B:=by
 rw[if_neg zBf]
 exact h
theorem bA{A B:Prop}(h:A):if true=true then A else B:=by
 rw[if_pos rfl]
 exact h
theorem ite2{c A B:Prop}[Decidable c](h1:c->A)(h2:¬c->B):if c then A else B:=by
 by_cases h:c
 ·rw[if_pos h]
  exact h1 h
 ·rw[if_neg h]
  exact h2 h
noncomputable def Same(H H':Hp):Prop:=∀b o,H b=some o->H' b=some o
theorem Same.refl(H:Hp):Same H H:=λ_ _ h=>h
theorem Same.trans{H2:Hp}(a:Same H H1)(b:Same H1 H2):Same H H2:=λc o h=>b c o (a c o h)
theorem Same.free(e:Same H H'){l:Addr}(h:H' l=Kc):H l=Kc:=by
 cases q:H l with
 |none=>rfl
 |some o =>
  rw[e l o q] at h
  cases h
theorem Same.seq{K:qf}{xs:List V}(e:Same H H')(h:SqL K H a xs):SqL K H' a xs:=by
 rcases h with (h|⟨o,h⟩)|h
 ·exact .inl (.inl (e _ _ h))
 ·exact .inl (.inr ⟨o,e _ _ h⟩)
 ·exact .inr h
end L2
namespace HB
open PySem PySem.W
abbrev S(x:String)(k:Nat):Value := .str (jg x) k
abbrev R(a:Nat):Value := .ref a
abbrev I(a:Int):Value := .int a 0
abbrev J(a:Int)(k:Nat):Value := .int a k
abbrev E(P:xq)(x:String)(k:Nat)(v:Value):DictEntry:=⟨PyData.keyHash P (jg x), .str (jg x) k,v⟩
abbrev tO(l:List Value):Obj:=⟨.type "tuple", none, .seq l.toArray 0,#[]⟩
abbrev vO(l:List Value):Obj:=⟨.none,none, .fields l.toArray,#[]⟩
abbrev dO(l:List DictEntry)(n:Nat):Obj:=⟨.type "dict", none, .dict l.toArray n,#[]⟩
abbrev fO(n:String)(s:Stmt)(pm:Value)(cd:Nat):Obj:=⟨.type "function", none, .func {name:=jg n,qualname:=jg n,params:=L2.eY s,body := .stmts (L2.dI s),scope:=L2.aK s,globals:=3,closure:=[],defaults := .none,kwdefaults := .none,doc := .none,pyModule:=pm,annotations:=none,code := .ref cd,closureTuple := .none,builtins:=0},#[]⟩
abbrev pO(n:String)(s:Stmt):Obj:=⟨.none,none, .func {name:=jg n,qualname:=jg n,params:=L2.eY s,body := .stmts (L2.dI s),scope:=L2.aK s,globals:=0,closure:=[],defaults := .none,kwdefaults := .none,doc := .none,pyModule := .none,annotations:=none,code := .none,closureTuple := .none,builtins:=0},#[]⟩
abbrev cO(n f:String)(t1 t2 t3 l1 c1 c2 c3 c4 a1 a2 a3 a4 a5 t4 l2 t5:Nat)(b:Bool)(k:Nat):Obj:=⟨.type "code", none, .fields #[S n t1,S n t2,S f t3,I l1,I c1,I c2,I c3,I c4,R a1, .bool b,I k,R a2, .none,R a3,R a4,R a5,I t4,I l2,S f t5],#[]⟩
noncomputable def fl:String := "/claim/cut.py"
noncomputable def vs:Nat->List String->List Value
 |_,[]=>[]
 |k,x::xs => .str (jg x) k::vs (k+1) xs
noncomputable def D7(s:Stmt)(n:String)(b t l c:Nat)(ns:List String)(pm:Value):List Obj:=
 [tO [],vO [],tO (vs (t+3) ns),tO [],pO n s,cO n "/claim/cut.py" t (t+1) (t+2) l c 0 0 3 b (b+1) (b+2) (b+3) (b+4) (t+3+ns.length) l (t+4+ns.length) true 181,fO n s pm (b+5)]
noncomputable def ov{a:Type}:List (Nat×a)->List a->List a
 |[],l=>l
 | (i,x)::r,l=>ov r (l.set i x)
noncomputable def ev{a:Type}:Nat->List a->List a
 |0,_=>[]
 |_+1,[]=>[]
 |_+1,[x]=>[x]
 |n+1,x::_::r=>x::ev n r
noncomputable def bt:Nat->List Obj->BT
 |0,_ => .nil
 |_+1,[] => .nil
 |n+1,x::r => .node x (bt n (ev (2^n) r)) (bt n (ev (2^n) r.tail))
abbrev sh(h:Heap)(k:Nat)(os:zw):Shared:=⟨h,Array.mk [],{},k,os⟩
abbrev sT(t:BT)(n k:Nat)(os:zw):SharedT:=⟨t,n,{},Array.mk [],{},k,os⟩
abbrev ps(a b c d:Nat):Pos:=⟨a,b,c,d⟩
abbrev z:Pos:=⟨0,0,0,0⟩
abbrev B:List Frame:=[topFrame z]
theorem rC:segRunT xu=Vc xg:=by rw[Vj,vi]
theorem eGo:topGo xu=K9 xg:=by rw[Vf,vi]
theorem eSeg:segRun xu=Va xg:=by rw[Vg,vi]
theorem eTop:topRun xu=Vb xg:=by rw[Vh,vi]
end HB
namespace Q
open PySem
noncomputable def top(i:Nat):Stmt:=PySem.Challenge.pw_roofridges_k07_two_yards_together.main.body.getD i (.Pass ⟨0,0,0,0⟩)
abbrev gF:Stmt:=top 5
abbrev dN:Stmt:=top 6
abbrev lS:Stmt:=top 7
abbrev i8:Stmt:=top 8
abbrev jM:Stmt:=top 9
abbrev jX:Stmt:=top 10
abbrev lU:Stmt:=top 11
abbrev lJ:Stmt:=top 16
abbrev iM:Stmt:=top 17
abbrev mD:Stmt:=top 18
abbrev kJ:Stmt:=top 19
abbrev kO:Stmt:=top 20
abbrev lI:Stmt:=top 21
abbrev iX:Stmt:=top 22
abbrev eG:Stmt:=top 23
abbrev kR:Stmt:=top 24
abbrev fV:Stmt:=top 25
abbrev eU:Stmt:=top 26
abbrev p8:Stmt:=top 27
abbrev iB:Stmt:=top 28
abbrev iE:Stmt:=top 29
abbrev pW:Stmt:=top 30
abbrev jA:Stmt:=top 32
abbrev iC:Stmt:=top 33
abbrev iF:Stmt:=top 34
abbrev iS:Stmt:=top 35
abbrev qC:Stmt:=top 36
abbrev lW:Stmt:=top 37
abbrev mZ:Stmt:=top 38
abbrev lZ:Stmt:=top 39
abbrev p5:Stmt:=top 41
abbrev kB:Stmt:=top 42
abbrev lF:Stmt:=top 43
abbrev pS:Stmt:=top 44
abbrev qO:Stmt:=top 45
abbrev qJ:Stmt:=top 46
abbrev n0:Stmt:=top 47
abbrev oD:Stmt:=top 48
abbrev qD:Stmt:=top 49
abbrev qL:Stmt:=top 50
abbrev nO:Stmt:=top 51
end Q
namespace HD
open PySem PySem.W HB Q
noncomputable section
abbrev zS0:Value:=S "roofridges.yards" 301
abbrev zS1:Value:=S "law_roofridges_k07_two_yards_together" 468
abbrev zS2:Value:=S "roofridges.sets" 410
abbrev zS3:Value:=S "roofridges.fractions" 239
abbrev zS4:Value:=S "roofridges.errors" 187
noncomputable def es3(P:xq):List DictEntry:=[E P "__name__" 165 HD.zS1,E P "__doc__" 166 .none,E P "__package__" 167 .none,E P "__loader__" 168 (.builtin "__main__.__loader__#opaque"),E P "__spec__" 169 .none,E P "__annotations__" 170 (R 6),E P "__builtins__" 171 (R 4),E P "__file__" 173 (172).9,E P "__cached__" 174 .none,E P "RoofError" 206 (R 24),E P "NoNumber" 222 (R 37),E P "NoYard" 238 (R 49),E P "is_whole" 247 (R 58),E P "common_divisor" 256 (R 65),E P "lowest" 265 (R 72),E P "is_number" 272 (R 79),E P "fraction" 280 (R 86),E P "under" 288 (R 93),E P "merged" 300 (R 100),E P "VOID" 303 (R 104),E P "MOST_LINES" 305 (J 7 304),E P "FARTHEST" 307 (J 1000000000 306),E P "is_row" 313 (R 109),E P "rows_fit" 319 (R 114),E P "column" 325 (R 119),E P "columns" 331 (R 124),E P "changes" 337 (R 129),E P "picked" 343 (R 134),E P "tidied" 349 (R 139),E P "are_number_lines" 355 (R 144),E P "is_yard" 362 (R 151),E P "is_whole_line" 369 (R 158),E P "are_whole_lines" 375 (R 163),E P "made" 381 (R 168),E P "bands_at" 387 (R 173),E P "has_cell" 397 (R 180),E P "lies" 409 (R 187),E P "finer_row" 417 (R 192),E P "finer_rows" 423 (R 197),E P "chosen_row" 429 (R 202),E P "chosen" 435 (R 207),E P "both" 443 (R 214),E P "either" 451 (R 221),E P "less" 459 (R 228),E P "within" 467 (R 235),E P "_law_feed" 479 (R 242),E P "_law_next" 490 (R 249),E P "_law_lines" 500 (R 256),E P "_law_like" 511 (R 263),E P "_law_rows" 517 (R 268),E P "_law_sign" 531 (R 275),E P "_law_grids" 537 (R 280),E P "_law_spots" 543 (R 285),E P "_law_half" 550 (R 292),E P "_law_told" 562 (R 299),E P "law" 568 (R 304)]
noncomputable def es12:List Value:=[(I 2),(I 0),(R 20),(I 4),(I 0),(R 33),(I 6),(I 0),(R 45),(I 9),(I 0),(R 57),(I 11),(I 0),(R 64),(I 17),(I 0),(R 71),(I 22),(I 0),(R 78),(I 28),(I 0),(R 85),(I 34),(I 0),(R 92),(I 36),(I 0),(R 99),(I 52),(I 0),(R 108),(I 56),(I 0),(R 113),(I 60),(I 0),(R 118),(I 62),(I 0),(R 123),(I 65),(I 0),(R 128),(I 71),(I 0),(R 133),(I 73),(I 0),(R 138),(I 78),(I 0),(R 143),(I 82),(I 0),(R 150),(I 90),(I 0),(R 157),(I 92),(I 0),(R 162),(I 98),(I 0),(R 167),(I 104),(I 0),(R 172),(I 109),(I 0),(R 179),(I 114),(I 0),(R 186),(I 125),(I 0),(R 191),(I 127),(I 0),(R 196),(I 131),(I 0),(R 201),(I 133),(I 0),(R 206),(I 139),(I 0),(R 213),(I 141),(I 0),(R 220),(I 143),(I 0),(R 227),(I 145),(I 0),(R 234),(I 148),(I 0),(R 241),(I 156),(I 0),(R 248),(I 167),(I 0),(R 255),(I 173),(I 0),(R 262),(I 184),(I 0),(R 267),(I 190),(I 0),(R 274),(I 198),(I 0),(R 279),(I 211),(I 0),(R 284),(I 214),(I 0),(R 291),(I 218),(I 0),(R 298),(I 233),(I 0),(R 303)]
noncomputable def hl0(P:xq):List Obj:=[boot_o_0 P]++[boot_o_1 P]++[boot_o_2 P]++[dO (es3 P) 56]++[boot_o_4 P]++[boot_o_5 P]++[boot_o_6 P]++[boot_o_7 P]++[boot_o_8 P]++[boot_o_9 P]++[boot_o_10 P]++[tO []]
noncomputable def hl1(P:xq):List Obj:=[vO es12]++[⟨.type "code", none, .fields #[(S "<module>" 182),(S "<module>" 183),(184).9,(I 1),(I 0),(I 0),(I 0),(I 0),(R 11),(.bool false),(I 181),(R 12), .none, .none, .none, .none,(I 185),(I 1),(186).9],#[]⟩]++[⟨(.type "frame"),none, .plain,#[some (R 13),some (R 3),some (R 3),none,some (S "__main__" 164),none,some (R 0)]⟩]++[tO [(.type "ValueError")]]++[⟨(.type "builtin_function_or_method"),none, .fields #[(.builtin "type.__prepare__"),(.type "type")],#[]⟩]++[dO [E P "__module__" 196 HD.zS4,E P "__qualname__" 198 (S "RoofError" 197),E P "__firstlineno__" 200 (J 2 199),E P "__static_attributes__" 201 (R 22)] 4]++[tO []]++[vO []]++[⟨.type "code", none, .fields #[(S "RoofError" 191),(S "RoofError" 192),(193).9,(I 2),(I 0),(I 0),(I 0),(I 0),(R 18),(.bool false),(I 181),(R 19), .none, .none, .none, .none,(I 194),(I 2),(195).9],#[]⟩]++[⟨(.type "frame"),none, .plain,#[some (R 20),some (R 3),some (R 17),none,some HD.zS4,none,some (R 0)]⟩]++[tO []]++[dO [E P "__module__" 196 HD.zS4,E P "__firstlineno__" 200 (J 2 199),E P "__static_attributes__" 201 (R 22),E P "__weakref__" 203 (R 25),E P "__doc__" 204 .none] 3]
noncomputable def hl2(P:xq):List Obj:=[⟨(.type "type"),none, .cls {name := "RoofError", bases:=[(.type "ValueError")],mro:=[(R 24),(.type "ValueError"),(.type "Exception"),(.type "BaseException"),(.type "object")],ns:=23,qualname := "RoofError", hasDict:=true,slotNames:=[],subclasses:=[(R 37),(R 49)],abstract:=false,collection:=none,hasDel:=false},#[some (R 15),none,some (S "RoofError" 189),some (S "RoofError" 197),some (.builtin "ValueError.__new__"),some (.bool true)]⟩]++[⟨(.type "getset_descriptor"),none, .fields #[(S "__weakref__" 202),(R 24),(.builtin "ExceptionGroup.__weakref__"), .none],#[]⟩]++[⟨(.type "super"),none, .fields #[(R 24),(R 24),(R 24)],#[]⟩]++[⟨(.type "builtin_function_or_method"),none, .fields #[(.builtin "object.__init_subclass__"),(R 24)],#[]⟩]++[tO [(R 24)]]++[⟨(.type "builtin_function_or_method"),none, .fields #[(.builtin "type.__prepare__"),(.type "type")],#[]⟩]++[dO [E P "__module__" 214 HD.zS4,E P "__qualname__" 216 (S "NoNumber" 215),E P "__firstlineno__" 218 (J 4 217),E P "__static_attributes__" 219 (R 35)] 4]++[tO []]++[vO []]++[⟨.type "code", none, .fields #[(S "NoNumber" 209),(S "NoNumber" 210),(211).9,(I 4),(I 0),(I 0),(I 0),(I 0),(R 31),(.bool false),(I 181),(R 32), .none, .none, .none, .none,(I 212),(I 4),(213).9],#[]⟩]++[⟨(.type "frame"),none, .plain,#[some (R 33),some (R 3),some (R 30),none,some HD.zS4,none,some (R 0)]⟩]++[tO []]
noncomputable def hl3(P:xq):List Obj:=[dO [E P "__module__" 214 HD.zS4,E P "__firstlineno__" 218 (J 4 217),E P "__static_attributes__" 219 (R 35),E P "__doc__" 220 .none] 2]++[⟨(.type "type"),none, .cls {name := "NoNumber", bases:=[(R 24)],mro:=[(R 37),(R 24),(.type "ValueError"),(.type "Exception"),(.type "BaseException"),(.type "object")],ns:=36,qualname := "NoNumber", hasDict:=true,slotNames:=[],subclasses:=[],abstract:=false,collection:=none,hasDel:=false},#[some (R 28),none,some (S "NoNumber" 207),some (S "NoNumber" 215),some (.builtin "ValueError.__new__"),some (.bool true)]⟩]++[⟨(.type "super"),none, .fields #[(R 37),(R 37),(R 37)],#[]⟩]++[⟨(.type "builtin_function_or_method"),none, .fields #[(.builtin "object.__init_subclass__"),(R 37)],#[]⟩]++[tO [(R 24)]]++[⟨(.type "builtin_function_or_method"),none, .fields #[(.builtin "type.__prepare__"),(.type "type")],#[]⟩]++[dO [E P "__module__" 230 HD.zS4,E P "__qualname__" 232 (S "NoYard" 231),E P "__firstlineno__" 234 (J 6 233),E P "__static_attributes__" 235 (R 47)] 4]++[tO []]++[vO []]++[⟨.type "code", none, .fields #[(S "NoYard" 225),(S "NoYard" 226),(227).9,(I 6),(I 0),(I 0),(I 0),(I 0),(R 43),(.bool false),(I 181),(R 44), .none, .none, .none, .none,(I 228),(I 6),(229).9],#[]⟩]++[⟨(.type "frame"),none, .plain,#[some (R 45),some (R 3),some (R 42),none,some HD.zS4,none,some (R 0)]⟩]++[tO []]
noncomputable def hl4(P:xq):List Obj:=[dO [E P "__module__" 230 HD.zS4,E P "__firstlineno__" 234 (J 6 233),E P "__static_attributes__" 235 (R 47),E P "__doc__" 236 .none] 2]++[⟨(.type "type"),none, .cls {name := "NoYard", bases:=[(R 24)],mro:=[(R 49),(R 24),(.type "ValueError"),(.type "Exception"),(.type "BaseException"),(.type "object")],ns:=48,qualname := "NoYard", hasDict:=true,slotNames:=[],subclasses:=[],abstract:=false,collection:=none,hasDel:=false},#[some (R 40),none,some (S "NoYard" 223),some (S "NoYard" 231),some (.builtin "ValueError.__new__"),some (.bool true)]⟩]++[⟨(.type "super"),none, .fields #[(R 49),(R 49),(R 49)],#[]⟩]++[⟨(.type "builtin_function_or_method"),none, .fields #[(.builtin "object.__init_subclass__"),(R 49)],#[]⟩]++D7 (Q.top 5) "is_whole" 52 241 9 1 ["thing"] HD.zS3++D7 (Q.top 6) "common_divisor" 59 248 11 2 ["one", "other", "rest"] HD.zS3++D7 (Q.top 7) "lowest" 66 257 17 2 ["top", "bottom", "divisor"] HD.zS3++D7 (Q.top 8) "is_number" 73 266 22 1 ["thing"] HD.zS3++D7 (Q.top 9) "fraction" 80 273 28 2 ["top", "bottom"] HD.zS3++D7 (Q.top 10) "under" 87 281 34 2 ["one", "other"] HD.zS3++D7 (Q.top 11) "merged" 94 289 36 2 ["one", "other", "told", "first", "second", "ahead"] HD.zS3++[tO []]
noncomputable def hl5(P:xq):List Obj:=[tO []]++[tO []]++[tO [(R 101),(R 102),(R 103)]]++[tO []]++[vO []]++[pO "is_row" (Q.top 16)]++[⟨.type "code", none, .fields #[(S "is_row" 308),(S "is_row" 309),(310).9,(I 52),(I 2),(I 0),(I 0),(I 3),(R 105),(.bool true),(I 181),(R 106), .none, .none, .none,(R 107),(I 311),(I 52),(312).9],#[]⟩]++[fO "is_row" (Q.top 16) HD.zS0 108]++[tO []]++[vO []]++[pO "rows_fit" (Q.top 17)]++[⟨.type "code", none, .fields #[(S "rows_fit" 314),(S "rows_fit" 315),(316).9,(I 56),(I 3),(I 0),(I 0),(I 3),(R 110),(.bool true),(I 181),(R 111), .none, .none, .none,(R 112),(I 317),(I 56),(318).9],#[]⟩]
noncomputable def hl6(P:xq):List Obj:=[fO "rows_fit" (Q.top 17) HD.zS0 113]++[tO []]++[vO []]++[pO "column" (Q.top 18)]++[⟨.type "code", none, .fields #[(S "column" 320),(S "column" 321),(322).9,(I 60),(I 2),(I 0),(I 0),(I 3),(R 115),(.bool true),(I 181),(R 116), .none, .none, .none,(R 117),(I 323),(I 60),(324).9],#[]⟩]++[fO "column" (Q.top 18) HD.zS0 118]++[tO []]++[vO []]++[pO "columns" (Q.top 19)]++[⟨.type "code", none, .fields #[(S "columns" 326),(S "columns" 327),(328).9,(I 62),(I 1),(I 0),(I 0),(I 3),(R 120),(.bool true),(I 181),(R 121), .none, .none, .none,(R 122),(I 329),(I 62),(330).9],#[]⟩]++[fO "columns" (Q.top 19) HD.zS0 123]++[tO []]
noncomputable def hl7(P:xq):List Obj:=[vO []]++[pO "changes" (Q.top 20)]++[⟨.type "code", none, .fields #[(S "changes" 332),(S "changes" 333),(334).9,(I 65),(I 1),(I 0),(I 0),(I 3),(R 125),(.bool true),(I 181),(R 126), .none, .none, .none,(R 127),(I 335),(I 65),(336).9],#[]⟩]++[fO "changes" (Q.top 20) HD.zS0 128]++[tO []]++[vO []]++[pO "picked" (Q.top 21)]++[⟨.type "code", none, .fields #[(S "picked" 338),(S "picked" 339),(340).9,(I 71),(I 2),(I 0),(I 0),(I 3),(R 130),(.bool true),(I 181),(R 131), .none, .none, .none,(R 132),(I 341),(I 71),(342).9],#[]⟩]++[fO "picked" (Q.top 21) HD.zS0 133]++[tO []]++[vO []]++[pO "tidied" (Q.top 22)]
noncomputable def hl8(P:xq):List Obj:=[⟨.type "code", none, .fields #[(S "tidied" 344),(S "tidied" 345),(346).9,(I 73),(I 3),(I 0),(I 0),(I 3),(R 135),(.bool true),(I 181),(R 136), .none, .none, .none,(R 137),(I 347),(I 73),(348).9],#[]⟩]++[fO "tidied" (Q.top 22) HD.zS0 138]++[tO []]++[vO []]++[pO "are_number_lines" (Q.top 23)]++[⟨.type "code", none, .fields #[(S "are_number_lines" 350),(S "are_number_lines" 351),(352).9,(I 78),(I 1),(I 0),(I 0),(I 3),(R 140),(.bool true),(I 181),(R 141), .none, .none, .none,(R 142),(I 353),(I 78),(354).9],#[]⟩]++[fO "are_number_lines" (Q.top 23) HD.zS0 143]++D7 (Q.top 24) "is_yard" 145 356 82 1 ["thing"] HD.zS0++D7 (Q.top 25) "is_whole_line" 152 363 90 1 ["thing"] HD.zS0++[tO []]++[vO []]++[pO "are_whole_lines" (Q.top 26)]
noncomputable def hl9(P:xq):List Obj:=[⟨.type "code", none, .fields #[(S "are_whole_lines" 370),(S "are_whole_lines" 371),(372).9,(I 92),(I 1),(I 0),(I 0),(I 3),(R 159),(.bool true),(I 181),(R 160), .none, .none, .none,(R 161),(I 373),(I 92),(374).9],#[]⟩]++[fO "are_whole_lines" (Q.top 26) HD.zS0 162]++[tO []]++[vO []]++[pO "made" (Q.top 27)]++[⟨.type "code", none, .fields #[(S "made" 376),(S "made" 377),(378).9,(I 98),(I 3),(I 0),(I 0),(I 3),(R 164),(.bool true),(I 181),(R 165), .none, .none, .none,(R 166),(I 379),(I 98),(380).9],#[]⟩]++[fO "made" (Q.top 27) HD.zS0 167]++[tO []]++[vO []]++[pO "bands_at" (Q.top 28)]++[⟨.type "code", none, .fields #[(S "bands_at" 382),(S "bands_at" 383),(384).9,(I 104),(I 2),(I 0),(I 0),(I 3),(R 169),(.bool true),(I 181),(R 170), .none, .none, .none,(R 171),(I 385),(I 104),(386).9],#[]⟩]++[fO "bands_at" (Q.top 28) HD.zS0 172]
noncomputable def hl10(P:xq):List Obj:=D7 (Q.top 29) "has_cell" 174 388 109 3 ["yard", "across", "up", "rows"] HD.zS0++D7 (Q.top 30) "lies" 181 398 114 3 ["yard", "x", "y", "cells", "up", "across"] HD.zS0++[tO []]++[vO []]++[pO "finer_row" (Q.top 32)]++[⟨.type "code", none, .fields #[(S "finer_row" 412),(S "finer_row" 413),(414).9,(I 125),(I 3),(I 0),(I 0),(I 3),(R 188),(.bool true),(I 181),(R 189), .none, .none, .none,(R 190),(I 415),(I 125),(416).9],#[]⟩]++[fO "finer_row" (Q.top 32) HD.zS2 191]++[tO []]++[vO []]++[pO "finer_rows" (Q.top 33)]++[⟨.type "code", none, .fields #[(S "finer_rows" 418),(S "finer_rows" 419),(420).9,(I 127),(I 3),(I 0),(I 0),(I 3),(R 193),(.bool true),(I 181),(R 194), .none, .none, .none,(R 195),(I 421),(I 127),(422).9],#[]⟩]++[fO "finer_rows" (Q.top 33) HD.zS2 196]
noncomputable def hl11(P:xq):List Obj:=[tO []]++[vO []]++[pO "chosen_row" (Q.top 34)]++[⟨.type "code", none, .fields #[(S "chosen_row" 424),(S "chosen_row" 425),(426).9,(I 131),(I 3),(I 0),(I 0),(I 3),(R 198),(.bool true),(I 181),(R 199), .none, .none, .none,(R 200),(I 427),(I 131),(428).9],#[]⟩]++[fO "chosen_row" (Q.top 34) HD.zS2 201]++[tO []]++[vO []]++[pO "chosen" (Q.top 35)]++[⟨.type "code", none, .fields #[(S "chosen" 430),(S "chosen" 431),(432).9,(I 133),(I 3),(I 0),(I 0),(I 3),(R 203),(.bool true),(I 181),(R 204), .none, .none, .none,(R 205),(I 433),(I 133),(434).9],#[]⟩]++[fO "chosen" (Q.top 35) HD.zS2 206]++D7 (Q.top 36) "both" 208 436 139 2 ["one", "other"] HD.zS2++D7 (Q.top 37) "either" 215 444 141 2 ["one", "other"] HD.zS2
noncomputable def hl12(P:xq):List Obj:=D7 (Q.top 38) "less" 222 452 143 2 ["one", "other"] HD.zS2++D7 (Q.top 39) "within" 229 460 145 2 ["one", "other"] HD.zS2++D7 (Q.top 41) "_law_feed" 236 470 148 2 ["_law_script", "_law_k", "_law_cell", "_law_great"] HD.zS1++D7 (Q.top 42) "_law_next" 243 480 156 2 ["_law_feed_here", "_law_many", "_law_digit", "_law_step", "_law_mixed"] HD.zS1++D7 (Q.top 43) "_law_lines" 250 491 167 1 ["_law_feed_here", "_law_most", "_law_found", "_law_k"] HD.zS1++D7 (Q.top 44) "_law_like" 257 501 173 2 ["_law_feed_here", "_law_lines_here", "_law_way", "_law_found", "_law_line"] HD.zS1++[tO []]++[vO []]++[pO "_law_rows" (Q.top 45)]++[⟨.type "code", none, .fields #[(S "_law_rows" 512),(S "_law_rows" 513),(514).9,(I 184),(I 3),(I 0),(I 0),(I 3),(R 264),(.bool true),(I 181),(R 265), .none, .none, .none,(R 266),(I 515),(I 184),(516).9],#[]⟩]++[fO "_law_rows" (Q.top 45) HD.zS1 267]++D7 (Q.top 46) "_law_sign" 269 518 190 3 ["_law_grid", "_law_x", "_law_y", "_law_xs", "_law_ys", "_law_rows_here", "_law_j", "_law_k"] HD.zS1
noncomputable def hl13(P:xq):List Obj:=[tO []]++[vO []]++[pO "_law_grids" (Q.top 47)]++[⟨.type "code", none, .fields #[(S "_law_grids" 532),(S "_law_grids" 533),(534).9,(I 198),(I 1),(I 0),(I 0),(I 3),(R 276),(.bool true),(I 181),(R 277), .none, .none, .none,(R 278),(I 535),(I 198),(536).9],#[]⟩]++[fO "_law_grids" (Q.top 47) HD.zS1 279]++[tO []]++[vO []]++[pO "_law_spots" (Q.top 48)]++[⟨.type "code", none, .fields #[(S "_law_spots" 538),(S "_law_spots" 539),(540).9,(I 211),(I 2),(I 0),(I 0),(I 3),(R 281),(.bool true),(I 181),(R 282), .none, .none, .none,(R 283),(I 541),(I 211),(542).9],#[]⟩]++[fO "_law_spots" (Q.top 48) HD.zS1 284]++D7 (Q.top 49) "_law_half" 286 544 214 1 ["_law_number"] HD.zS1++D7 (Q.top 50) "_law_told" 293 551 218 2 ["_law_one", "_law_other", "_law_first", "_law_second", "_law_found", "_law_again"] HD.zS1
noncomputable def hl14(P:xq):List Obj:=[tO []]++[vO []]++[pO "law" (Q.top 51)]++[⟨.type "code", none, .fields #[(S "law" 563),(S "law" 564),(565).9,(I 233),(I 1),(I 0),(I 0),(I 3),(R 300),(.bool true),(I 181),(R 301), .none, .none, .none,(R 302),(I 566),(I 233),(567).9],#[]⟩]++[fO "law" (Q.top 51) HD.zS1 303]
noncomputable def hl(P:xq):List Obj:=hl0 P++hl1 P++hl2 P++hl3 P++hl4 P++hl5 P++hl6 P++hl7 P++hl8 P++hl9 P++hl10 P++hl11 P++hl12 P++hl13 P++hl14 P
noncomputable def hA(P:xq):Heap:=⟨Array.mk (ov [(3,boot_o_3 P),(12,vO (es12.take 0))] ((hl P).take 15)),{}⟩
noncomputable def env:Env:={scope:=PySem.Challenge.pw_roofridges_k07_two_yards_together.main.scope,locals:=mainNs,globals:=mainNs,cells:=[],code:=(R 13),frame:=some 14}
abbrev p:Program:=PySem.Challenge.rw_roofridges_k07_two_yards_together.row.toRowW.1
abbrev bE:List Stmt:=behindTheImports p
abbrev cE:Code := .body bE env
theorem pre(w:World)(os:zw):topGo xu p w 11 (some (R 6)) 12 ⟨boot_heap w.params,Array.mk [],boot_drawn,boot_toks,os⟩ (topStub p)=some (sh (hA w.params) 187 os,⟨denote xu cE,cE,(ps 0 0 0 0),B⟩):=by rw[eGo,Vi,vi];kernel_rfl!
noncomputable def t0(P:xq):BT:=bt 14 (ov [(3,boot_o_3 P),(12,vO (es12.take 0))] ((hl P).take 15))
theorem block(w:World)(os:zw):segRun xu p w 11 (some (R 6)) 1 1 (sh (hA w.params) 187 os) (blockOf bE env cE (ps 0 0 0 0) B)=some (.next,(sT (t0 w.params) 15 187 os).abs,cE,(ps 0 0 0 0)):=by rw[eSeg];kernel_rfl!
noncomputable def t1(P:xq):BT:=bt 14 (ov [(3,dO (ov [(0,E P "__name__" 165 HD.zS4)] ((es3 P).take 10)) 10),(12,vO (es12.take 3)),(24,⟨(.type "type"),none, .cls {name := "RoofError", bases:=[(.type "ValueError")],mro:=[(R 24),(.type "ValueError"),(.type "Exception"),(.type "BaseException"),(.type "object")],ns:=23,qualname := "RoofError", hasDict:=true,slotNames:=[],subclasses:=[],abstract:=false,collection:=none,hasDel:=false},#[some (R 15),none,some (S "RoofError" 189),some (S "RoofError" 197),some (.builtin "ValueError.__new__"),some (.bool true)]⟩)] ((hl P).take 28))
noncomputable def g1:List Stmt:=[Q.top 0,Q.top 1]
theorem r1(w:World)(os:zw):segRunT xu p w 11 (some (R 6)) 1 196 (sT (t0 w.params) 15 187 os) (piecesOf g1 env cE (ps 0 0 0 0) B)=some (.next,sT (t1 w.params) 28 207 os,cE,(ps 2 0 3 8)):=by rw[rC];kernel_rfl!
noncomputable def t2(P:xq):BT:=bt 14 (ov [(3,dO (ov [(0,E P "__name__" 165 HD.zS4)] ((es3 P).take 11)) 11),(12,vO (es12.take 6)),(24,⟨(.type "type"),none, .cls {name := "RoofError", bases:=[(.type "ValueError")],mro:=[(R 24),(.type "ValueError"),(.type "Exception"),(.type "BaseException"),(.type "object")],ns:=23,qualname := "RoofError", hasDict:=true,slotNames:=[],subclasses:=[(R 37)],abstract:=false,collection:=none,hasDel:=false},#[some (R 15),none,some (S "RoofError" 189),some (S "RoofError" 197),some (.builtin "ValueError.__new__"),some (.bool true)]⟩)] ((hl P).take 40))
noncomputable def g2:List Stmt:=[Q.top 2]
theorem r2(w:World)(os:zw):segRunT xu p w 11 (some (R 6)) 1 214 (sT (t1 w.params) 28 207 os) (piecesOf g2 env cE (ps 2 0 3 8) B)=some (.next,sT (t2 w.params) 40 223 os,cE,(ps 4 0 5 8)):=by rw[rC];kernel_rfl!
noncomputable def t3(P:xq):BT:=bt 14 (ov [(3,dO (ov [(0,E P "__name__" 165 HD.zS3)] ((es3 P).take 17)) 17),(12,vO (es12.take 24))] ((hl P).take 87))
noncomputable def g3:List Stmt:=[Q.top 3,Q.top 4,Q.top 5,Q.top 6,Q.top 7,Q.top 8,Q.top 9]
theorem r3(w:World)(os:zw):segRunT xu p w 11 (some (R 6)) 1 373 (sT (t2 w.params) 40 223 os) (piecesOf g3 env cE (ps 4 0 5 8) B)=some (.next,sT (t3 w.params) 87 281 os,cE,(ps 28 0 33 30)):=by rw[rC];kernel_rfl!
noncomputable def t4(P:xq):BT:=bt 14 (ov [(3,dO (ov [(0,E P "__name__" 165 HD.zS0)] ((es3 P).take 33)) 33),(12,vO (es12.take 63))] ((hl P).take 164))
noncomputable def g4:List Stmt:=[Q.top 10,Q.top 11,Q.top 12,Q.top 13,Q.top 14,Q.top 15,Q.top 16,Q.top 17,Q.top 18,Q.top 19,Q.top 20,Q.top 21,Q.top 22,Q.top 23,Q.top 24,Q.top 25,Q.top 26]
theorem r4(w:World)(os:zw):segRunT xu p w 11 (some (R 6)) 1 400 (sT (t3 w.params) 87 281 os) (piecesOf g4 env cE (ps 28 0 33 30) B)=some (.next,sT (t4 w.params) 164 376 os,cE,(ps 92 0 97 83)):=by rw[rC];kernel_rfl!
noncomputable def t5(P:xq):BT:=bt 14 (ov [(3,dO (ov [] ((es3 P).take 46)) 46),(12,vO (es12.take 102))] ((hl P).take 243))
noncomputable def g5:List Stmt:=[Q.top 27,Q.top 28,Q.top 29,Q.top 30,Q.top 31,Q.top 32,Q.top 33,Q.top 34,Q.top 35,Q.top 36,Q.top 37,Q.top 38,Q.top 39,Q.top 40,Q.top 41]
theorem r5(w:World)(os:zw):segRunT xu p w 11 (some (R 6)) 1 393 (sT (t4 w.params) 164 376 os) (piecesOf g5 env cE (ps 92 0 97 83) B)=some (.next,sT (t5 w.params) 243 480 os,cE,(ps 148 0 155 94)):=by rw[rC];kernel_rfl!
noncomputable def t6(P:xq):BT:=bt 14 (ov [] ((hl P).take 305))
noncomputable def g6:List Stmt:=[Q.top 42,Q.top 43,Q.top 44,Q.top 45,Q.top 46,Q.top 47,Q.top 48,Q.top 49,Q.top 50,Q.top 51]
theorem r6(w:World)(os:zw):segRunT xu p w 11 (some (R 6)) 1 302 (sT (t5 w.params) 243 480 os) (piecesOf g6 env cE (ps 148 0 155 94) B)=some (.next,sT (t6 w.params) 305 569 os,cE,(ps 233 0 253 15)):=by rw[rC];kernel_rfl!
noncomputable def hZ(P:xq):Heap:=⟨Array.mk (hl P),{}⟩
theorem fin(w:World)(os:zw):topRun xu p w 11 (some (R 6)) 2 (sT (t6 w.params) 305 569 os).abs ⟨doneF .next,cE,(ps 233 0 253 15),B⟩=some (sh (hZ w.params) 569 os):=by rw[eTop];kernel_rfl!
theorem body:bE=g1++(g2++(g3++(g4++(g5++(g6++([])))))):=by kernel_rfl!
theorem chain(w:World)(os:zw):topRun xu p w 11 (some (R 6)) (196+(214+(373+(400+(393+(302+(2))))))) (sT (t0 w.params) 15 187 os).abs (restOf (g1++(g2++(g3++(g4++(g5++(g6++([]))))))) env cE (ps 0 0 0 0) B)=some (sh (hZ w.params) 569 os):=piece_app (segRun_of (r1 w os)) (piece_app (segRun_of (r2 w os)) (piece_app (segRun_of (r3 w os)) (piece_app (segRun_of (r4 w os)) (piece_app (segRun_of (r5 w os)) (piece_app (segRun_of (r6 w os)) (fin w os))))))
theorem run(w:World)(os:zw):topRun xu p w 11 (some (R 6)) (12+(1+(196+(214+(373+(400+(393+(302+(2))))))))) ⟨boot_heap w.params,Array.mk [],boot_drawn,boot_toks,os⟩ (topStub p)=some (sh (hZ w.params) 569 os):=go_top (pre w os) (piece_block (block w os) (by have h:=chain w os;rw[<- body] at h;exact h))
noncomputable def view:Program:={p with main:={p.main with body:=[Q.top 1,Q.top 2,Q.top 3,Q.top 5,Q.top 6,Q.top 7,Q.top 8,Q.top 9,Q.top 10,Q.top 11,Q.top 13,Q.top 14,Q.top 15,Q.top 16,Q.top 17,Q.top 18,Q.top 19,Q.top 20,Q.top 21,Q.top 22,Q.top 23,Q.top 24,Q.top 25,Q.top 26,Q.top 27,Q.top 28,Q.top 29,Q.top 30,Q.top 32,Q.top 33,Q.top 34,Q.top 35,Q.top 36,Q.top 37,Q.top 38,Q.top 39,Q.top 41,Q.top 42,Q.top 43,Q.top 44,Q.top 45,Q.top 46,Q.top 47,Q.top 48,Q.top 49,Q.top 50,Q.top 51]} }
noncomputable def ob(P:xq)(i:Nat):Obj:=(hl P).getD i default
noncomputable def zo(P:xq)(a:Nat):Addr×Obj:=(a,ob P a)
noncomputable def K(P:xq):Frag:=[zo P 2,zo P 3,zo P 15,zo P 22,zo P 23,zo P 24,zo P 25,zo P 28,zo P 35,zo P 36,zo P 37,zo P 40,zo P 47,zo P 48,zo P 49,zo P 52,zo P 54,zo P 55,zo P 57,(nat_lit 58,fO "is_whole" (Q.top 5) HD.zS3 57),zo P 59,zo P 61,zo P 62,zo P 64,(nat_lit 65,fO "common_divisor" (Q.top 6) HD.zS3 64),zo P 66,zo P 68,zo P 69,zo P 71,(nat_lit 72,fO "lowest" (Q.top 7) HD.zS3 71),zo P 73,zo P 75,zo P 76,zo P 78,(nat_lit 79,fO "is_number" (Q.top 8) HD.zS3 78),zo P 80,zo P 82,zo P 83,zo P 85,(nat_lit 86,fO "fraction" (Q.top 9) HD.zS3 85),zo P 87,zo P 89,zo P 90,zo P 92,(nat_lit 93,fO "under" (Q.top 10) HD.zS3 92),zo P 94,zo P 96,zo P 97,zo P 99,(nat_lit 100,fO "merged" (Q.top 11) HD.zS3 99),zo P 101,zo P 102,zo P 103,zo P 104,zo P 105,zo P 108,(nat_lit 109,fO "is_row" (Q.top 16) HD.zS0 108),zo P 110,zo P 113,(nat_lit 114,fO "rows_fit" (Q.top 17) HD.zS0 113),zo P 115,zo P 118,(nat_lit 119,fO "column" (Q.top 18) HD.zS0 118),zo P 120,zo P 123,(nat_lit 124,fO "columns" (Q.top 19) HD.zS0 123),zo P 125,zo P 128,(nat_lit 129,fO "changes" (Q.top 20) HD.zS0 128),zo P 130,zo P 133,(nat_lit 134,fO "picked" (Q.top 21) HD.zS0 133),zo P 135,zo P 138,(nat_lit 139,fO "tidied" (Q.top 22) HD.zS0 138),zo P 140,zo P 143,(nat_lit 144,fO "are_number_lines" (Q.top 23) HD.zS0 143),zo P 145,zo P 147,zo P 148,zo P 150,(nat_lit 151,fO "is_yard" (Q.top 24) HD.zS0 150),zo P 152,zo P 154,zo P 155,zo P 157,(nat_lit 158,fO "is_whole_line" (Q.top 25) HD.zS0 157),zo P 159,zo P 162,(nat_lit 163,fO "are_whole_lines" (Q.top 26) HD.zS0 162),zo P 164,zo P 167,(nat_lit 168,fO "made" (Q.top 27) HD.zS0 167),zo P 169,zo P 172,(nat_lit 173,fO "bands_at" (Q.top 28) HD.zS0 172),zo P 174,zo P 176,zo P 177,zo P 179,(nat_lit 180,fO "has_cell" (Q.top 29) HD.zS0 179),zo P 181,zo P 183,zo P 184,zo P 186,(nat_lit 187,fO "lies" (Q.top 30) HD.zS0 186),zo P 188,zo P 191,(nat_lit 192,fO "finer_row" (Q.top 32) HD.zS2 191),zo P 193,zo P 196,(nat_lit 197,fO "finer_rows" (Q.top 33) HD.zS2 196),zo P 198,zo P 201,(nat_lit 202,fO "chosen_row" (Q.top 34) HD.zS2 201),zo P 203,zo P 206,(nat_lit 207,fO "chosen" (Q.top 35) HD.zS2 206),zo P 208,zo P 210,zo P 211,zo P 213,(nat_lit 214,fO "both" (Q.top 36) HD.zS2 213),zo P 215,zo P 217,zo P 218,zo P 220,(nat_lit 221,fO "either" (Q.top 37) HD.zS2 220),zo P 222,zo P 224,zo P 225,zo P 227,(nat_lit 228,fO "less" (Q.top 38) HD.zS2 227),zo P 229,zo P 231,zo P 232,zo P 234,(nat_lit 235,fO "within" (Q.top 39) HD.zS2 234),zo P 236,zo P 238,zo P 239,zo P 241,(nat_lit 242,fO "_law_feed" (Q.top 41) HD.zS1 241),zo P 243,zo P 245,zo P 246,zo P 248,(nat_lit 249,fO "_law_next" (Q.top 42) HD.zS1 248),zo P 250,zo P 252,zo P 253,zo P 255,(nat_lit 256,fO "_law_lines" (Q.top 43) HD.zS1 255),zo P 257,zo P 259,zo P 260,zo P 262,(nat_lit 263,fO "_law_like" (Q.top 44) HD.zS1 262),zo P 264,zo P 267,(nat_lit 268,fO "_law_rows" (Q.top 45) HD.zS1 267),zo P 269,zo P 271,zo P 272,zo P 274,(nat_lit 275,fO "_law_sign" (Q.top 46) HD.zS1 274),zo P 276,zo P 279,(nat_lit 280,fO "_law_grids" (Q.top 47) HD.zS1 279),zo P 281,zo P 284,(nat_lit 285,fO "_law_spots" (Q.top 48) HD.zS1 284),zo P 286,zo P 288,zo P 289,zo P 291,(nat_lit 292,fO "_law_half" (Q.top 49) HD.zS1 291),zo P 293,zo P 295,zo P 296,zo P 298,(nat_lit 299,fO "_law_told" (Q.top 50) HD.zS1 298),zo P 300,zo P 303,(nat_lit 304,fO "law" (Q.top 51) HD.zS1 303)]
noncomputable def as:List Addr:=[nat_lit 2,nat_lit 3,nat_lit 15,nat_lit 22,nat_lit 23,nat_lit 24,nat_lit 25,nat_lit 28,nat_lit 35,nat_lit 36,nat_lit 37,nat_lit 40,nat_lit 47,nat_lit 48,nat_lit 49,nat_lit 52,nat_lit 54,nat_lit 55,nat_lit 57,nat_lit 58,nat_lit 59,nat_lit 61,nat_lit 62,nat_lit 64,nat_lit 65,nat_lit 66,nat_lit 68,nat_lit 69,nat_lit 71,nat_lit 72,nat_lit 73,nat_lit 75,nat_lit 76,nat_lit 78,nat_lit 79,nat_lit 80,nat_lit 82,nat_lit 83,nat_lit 85,nat_lit 86,nat_lit 87,nat_lit 89,nat_lit 90,nat_lit 92,nat_lit 93,nat_lit 94,nat_lit 96,nat_lit 97,nat_lit 99,nat_lit 100,nat_lit 101,nat_lit 102,nat_lit 103,nat_lit 104,nat_lit 105,nat_lit 108,nat_lit 109,nat_lit 110,nat_lit 113,nat_lit 114,nat_lit 115,nat_lit 118,nat_lit 119,nat_lit 120,nat_lit 123,nat_lit 124,nat_lit 125,nat_lit 128,nat_lit 129,nat_lit 130,nat_lit 133,nat_lit 134,nat_lit 135,nat_lit 138,nat_lit 139,nat_lit 140,nat_lit 143,nat_lit 144,nat_lit 145,nat_lit 147,nat_lit 148,nat_lit 150,nat_lit 151,nat_lit 152,nat_lit 154,nat_lit 155,nat_lit 157,nat_lit 158,nat_lit 159,nat_lit 162,nat_lit 163,nat_lit 164,nat_lit 167,nat_lit 168,nat_lit 169,nat_lit 172,nat_lit 173,nat_lit 174,nat_lit 176,nat_lit 177,nat_lit 179,nat_lit 180,nat_lit 181,nat_lit 183,nat_lit 184,nat_lit 186,nat_lit 187,nat_lit 188,nat_lit 191,nat_lit 192,nat_lit 193,nat_lit 196,nat_lit 197,nat_lit 198,nat_lit 201,nat_lit 202,nat_lit 203,nat_lit 206,nat_lit 207,nat_lit 208,nat_lit 210,nat_lit 211,nat_lit 213,nat_lit 214,nat_lit 215,nat_lit 217,nat_lit 218,nat_lit 220,nat_lit 221,nat_lit 222,nat_lit 224,nat_lit 225,nat_lit 227,nat_lit 228,nat_lit 229,nat_lit 231,nat_lit 232,nat_lit 234,nat_lit 235,nat_lit 236,nat_lit 238,nat_lit 239,nat_lit 241,nat_lit 242,nat_lit 243,nat_lit 245,nat_lit 246,nat_lit 248,nat_lit 249,nat_lit 250,nat_lit 252,nat_lit 253,nat_lit 255,nat_lit 256,nat_lit 257,nat_lit 259,nat_lit 260,nat_lit 262,nat_lit 263,nat_lit 264,nat_lit 267,nat_lit 268,nat_lit 269,nat_lit 271,nat_lit 272,nat_lit 274,nat_lit 275,nat_lit 276,nat_lit 279,nat_lit 280,nat_lit 281,nat_lit 284,nat_lit 285,nat_lit 286,nat_lit 288,nat_lit 289,nat_lit 291,nat_lit 292,nat_lit 293,nat_lit 295,nat_lit 296,nat_lit 298,nat_lit 299,nat_lit 300,nat_lit 303,nat_lit 304]
abbrev Hk:Hook:=kHook K as (λ_=>by kernel_rfl!)
theorem opens:∀w:World,(fencedOpening xu p w 3870).map (λs=>(s.heap,s.gens,s.drawn,s.toks))=some (boot_heap w.params,Array.mk [],boot_drawn,boot_toks):=boot_open (by kernel_rfl!) (by kernel_rfl!) (λ_=>by kernel_rfl!)
abbrev Xt:Shared->Bool:=λs=>xlAt view [] s&&recOk (RowW.records PySem.Challenge.rw_roofridges_k07_two_yards_together.row.toRowW) s
theorem size(w:World):((boot_heap w.params).isNs km&&(Array.mk ([]:List nr)).size==0,(boot_heap w.params).objs.size,(boot_heap w.params).nsMap km "__annotations__")=(true,11,(some (R 6))):=by kernel_rfl!
theorem look1(w:World)(os:zw):(staticsOk (VQ p.main.body) (boot_heap w.params) (hZ w.params)&&namesBound p (hZ w.params)&&gensDone (sh (hZ w.params) 569 os)&&laidKept (boot_heap w.params) (hZ w.params))=true:=by kernel_rfl!
theorem look2(w:World)(os:zw):openSeen view [] (VQ p.main.body) Xt true (sh (hZ w.params) 569 os)=openGood view []:=by rw[Ve];kernel_rfl!
theorem look3(w:World)(os:zw):Hk.obs (sh (hZ w.params) 569 os)=Hk.val w:=by kernel_rfl!
theorem left:LeftO p view [] Xt Hk.obs Hk.val 3870 true:=LeftO.of_pieces opens size run (by kernel_rfl!) (λw=>funext λos=>by rw[look1,look2,look3])
theorem said:PySem.Challenge.rw_roofridges_k07_two_yards_together.wellSaid=true:=by rw[Vd];kernel_rfl!
end
end HD
namespace L2
open PySem PySem.Spec PyProof.Rows
noncomputable def big:Nat:=2^8000
noncomputable def aJ9(_ j:Int):Prop:=j≠0/\j.natAbs<big
noncomputable def aKH(i j:Int):Prop:=i.natAbs<big/\j.natAbs<big
theorem aDU(h:n<big):n.log2<9000:=by
 by_cases h0:n=0
 ·subst h0;decide
 ·exact qr ((VT h0).mpr h) '*'
section
theorem uK:OpR X (zm .FloorDiv) (rI aJ9 λi j => .int (i.fdiv j)):=
 opI λ_ _ _ _ _ _ _ hc q=>floordiv_int hc.1 q (.inl (PyProof.noPylong_of_log2 (aDU hc.2)))
theorem yT:OpR X (zm .Mult) (rI aKH λi j => .int (i*j)):=
 opI λ_ _ _ _ _ _ _ hc q=>mul_int q (IntMulOk.of_le (m:=8000) (n:=8000) (V9.mpr hc.1) (V9.mpr hc.2) '*')
end
theorem aJR{K:qf}{S T:String}{b:Bool}(h1:(zg S==zg T)=false)(h2:Jd T=true)(h3:(fastBuiltinMro S).map (·.contains (.type T))=some b):
  y4 K (.type S) (.type T)=some b:=by
 unfold y4 PySem.W.kitCls
 rw[if_neg (by rw[h1];exact zBf)]
 show (if Jd T=true then _ else _)=_
 rw[if_pos h2]
 exact h3
theorem aET{K:qf}{t:Value}(h:(t==t)=true:=by first|rfl|simp):y4 K t t=some true:=by
 unfold y4;rw[if_pos h]
section
end
end L2
namespace L2
open PySem PySem.Spec PyProof.Rows
structure ExcK(K:qf)(C:Addr):Prop where
 cd:(PySem.W.clsIn K C).isSome=true
 ga:ya K (.ref C) "__getattribute__" = some (some (.builtin "BaseException.__getattribute__"))
 gt:ya K (.ref C) "__getattr__" = some none
 cl:ya K (.ref C) "__class__" = some (some (.builtin "object.__class__"))
 be:Qh K C (.type "BaseException")=some true
 ob:Qh K C (.type "object")=some true
section
variable {E:Value->Shared->Prop}{g:Array nr}{d:Drawn}{t:Nat}{os:zw}{K:qf}
end
section
end
end L2
namespace L2
open PySem PySem.Spec PyProof.Rows
structure Thrown(h₀:Heap)(H':Hp)(e T:Addr)(cls:Value)(h:Heap):Prop where
 ne:h₀.get? e=none
 nT:h₀.get? T=none
 He:H' e=none
 HT:H' T=none
 ob:∃oe vs oT ts a0,h.get? e=some oe/\(oe.cls=cls/\vs[0]?=some a0)/\oe.data = .fields vs/\vs[1]?=some (.ref T)/\T≠e/\h.get? T=some oT/\oT.data = .fields ts/\ts[3]?=some .none
section
end
end L2
namespace L2
open PySem PySem.Spec PyProof.Rows
noncomputable def bmV:List Value:=[.type "ValueError", .type "Exception", .type "BaseException", .type "object"]
section
variable {E:XK}{np:Pos}{e₀:Expr}{rest:List Expr}{ta:TA}
end
structure ThrownX(X:Cx)(pins:List (Addr×Obj))(H':Hp)(e T:Addr)(cls:Value)(h:Heap):Prop where
 e0:X.s₀.heap.get? e=none
 T0:X.s₀.heap.get? T=none
 He:H' e=none
 HT:H' T=none
 eL:e≠X.env.locals
 TL:T≠X.env.locals
 ce:∀x c,X.env.cells.lookup x=some c->c≠e/\c≠T
 pe:∀p∈X.pn++pins,p.1≠e/\p.1≠T
 ob:∃oe vs oT ts a0,h.get? e=some oe/\(oe.cls=cls/\vs[0]?=some a0)/\oe.data = .fields vs/\vs[1]?=some (.ref T)/\T≠e/\h.get? T=some oT/\oT.data = .fields ts/\ts[3]?=some .none
noncomputable def XP(X:Cx)(pins:List (Addr×Obj))(σ:St)(E:XK)(v:Value)(s':Shared):Prop:=∃e T cls H',v = .ref e/\Inv X pins σ H' s'/\ThrownX X pins H' e T cls s'.heap/\E cls none H'
section
end
end L2
namespace L2
open PySem PySem.Spec PyProof.Rows
section
end
end L2
namespace Num
theorem aEJ(a b:Int):wa b (a.fmod b)=wa a b:=by
 rw[Int.fmod_def,Int.gcd_comm a b]
 exact Int.gcd_sub_mul_left_right _ _ _
theorem aIA(a b:Int)(hb:b≠0):(a.fmod b).natAbs<b.natAbs:=by
 rcases Int.lt_or_gt_of_ne hb with h|h
 ·have h0:0 < -b:=by omega
  have e:a.fmod b = -((-a).fmod (-b)):=by rw[Int.neg_fmod_neg];omega
  have h1:=QQ (-a) h0
  have h2:=Jr (-a) h0
  omega
 ·have h1:=QQ a h
  have h2:=Jr a h
  omega
noncomputable def div(t b:Int):Int:=if b<0 then -((wa t b:Nat):Int) else ((wa t b:Nat):Int)
noncomputable def top(t b:Int):Int:=t.fdiv (div t b)
noncomputable def bot(t b:Int):Int:=b.fdiv (div t b)
theorem aH8{t b:Int}(h:b≠0):0<wa t b:=Int.gcd_pos_of_ne_zero_right t h
theorem aJW{t b:Int}(h:b≠0):div t b≠0:=by
 have:=aH8 (t:=t) h
 unfold div;split <;> omega
theorem aFY(t b:Int):div t b∣t:=by
 unfold div;split
 ·exact VW.mpr (tj ..)
 ·exact tj ..
theorem aHM(t b:Int):div t b∣b:=by
 unfold div;split
 ·exact VW.mpr (rj ..)
 ·exact rj ..
theorem aHO(t b:Int):top t b*div t b=t:=Jj (aFY t b)
theorem aFT(t b:Int):bot t b*div t b=b:=Jj (aHM t b)
theorem cross(t b:Int)(h:b≠0):top t b*b=t*bot t b:=by
 have e1:=aHO t b
 have e2:=aFT t b
 have d:=aJW (t:=t) h
 have:top t b*(bot t b*div t b)=top t b*div t b*bot t b:=by
  rw[Int.mul_assoc,Int.mul_comm (bot t b)]
 rw[e1,e2] at this
 exact this
end Num
namespace R
open PySem L2
theorem BI:jv "int" = some (.type "int"):=by decide +kernel
theorem BB:jv "bool" = some (.type "bool"):=by decide +kernel
theorem BT:jv "tuple" = some (.type "tuple"):=by decide +kernel
structure Df(K:qf)(mg:Str->Option Value)(x:Str)(st:Stmt)(ps:List Str)(f:Addr)(fd:FuncData):Prop where
 F:Fun K x x st f fd
 b:Binds K fd ps []
 m:mg x=some (.ref f)
structure Bn(mg:Str->Option Value):Prop where
 isi:mg "isinstance" = none
 int:mg "int" = none
 bool:mg "bool" = none
 tuple:mg "tuple" = none
 len:mg "len" = none
 abs:mg "abs" = none
 range:mg "range" = none
 min:mg "min" = none
inductive Kn(K:qf)(H:Hp):V->Prop
 |non:Kn K H .non
 |bl (b:Bool):Kn K H (.bl b)
 |int (i:Int):Kn K H (.int i)
 |str (x:Str):Kn K H (.str x)
 |lst {a:Addr}{xs:List V} (e:H a=some (.lst xs)):Kn K H (.ref a)
 |tup {a:Addr}{xs:List V} (e:H a=some (.tup xs)):Kn K H (.ref a)
section
variable {K:qf}
theorem aGS(a:Int):(if a<0 then -a else a)=((wa a 0:Nat):Int):=by
 rw[Int.gcd_zero_right];split <;> lia
noncomputable def second:St->Nat
 |[_,some (.int b)]=>b.natAbs
 |[_,some (.int b),_]=>b.natAbs
 |_=>0
noncomputable def num(t b:Int):HO := .tup [.int (Num.top t b), .int (Num.bot t b)]
end
end R
namespace R
open PySem L2
section
variable {K:qf}
structure Kn2(K:qf)(H:Hp)(v:V):Prop where
 kn:Kn K H v
 two:∀a x y,v = .ref a->H a=some (.tup [x,y])->Kn K H x/\Kn K H y
noncomputable def i4(H:Hp):V->Bool
 |.ref a=>(match H a with
  |some (.tup [.int x, .int y])=>decide (1<=y)&&decide (wa x y=1)
  |_=>false)
 |_=>false
end
end R
namespace L2
open PySem PySem.Spec PyProof.Rows
end L2
namespace R
open PySem L2
structure Fd(H:Hp)(p:Addr)(b:Int):Prop where
 ex:∃g m st:Int,H p=some (.lst [.int g, .int m, .int st])/\0<=g/\0<=m/\m<2147483399/\0<=st/\st<=b
section
variable {K:qf}
theorem sK(x:Int)(h0:0<m)(h1:m<2^64): -(2^64)<x%m/\x%m<2^64:=by
 have:=cy x (show m≠0 by lia)
 have:=z7 x h0
 lia
end
end R
namespace R
open PySem L2
section
variable {K:qf}
end
end R
namespace R
open PySem L2
structure Ex(K:qf)(mg:Str->Option Value)(CR CN CY CP CT CW CM:Addr):Prop where
 mR:mg "RoofError" = some (.ref CR)
 mN:mg "NoNumber" = some (.ref CN)
 mY:mg "NoYard" = some (.ref CY)
 mP:mg "NoPoint" = some (.ref CP)
 mT:mg "NoText" = some (.ref CT)
 mW:mg "NoRow" = some (.ref CW)
 mM:mg "NoName" = some (.ref CM)
 vE:mg "ValueError" = none
 xN:PySem.W.excIn K CN bmV "ValueError.__new__" = true
 kN:ExcK K CN
 cN:PySem.W.exmOne K (.ref CN) (.ref CR)=some true
 iV:y4 K (.ref CN) (.type "ValueError")=some true
 iO:PySem.W.kitAny K (.ref CN) [.ref CM, .ref CP, .ref CW, .ref CT, .ref CY]=some false
section
variable {K:qf}{CR CN CY CP CT CW CM:Addr}
end
end R
namespace R
open PySem L2
section
variable {K:qf}
end
end R
namespace R
open PySem L2
end R
namespace L2
open PySem PySem.Spec PyProof.Rows
section
variable {E:Value->Shared->Prop}
theorem lO{its:Array Value}(x:VJ h a its):h.IsList a its:=let ⟨o,n,e,c,_,d⟩:=x;⟨o,e,c,n,d⟩
theorem tW{l:Addr}(hne:l≠it):∀(n i:Nat) (s:Shared) (Q:List Value->Shared->Prop),s.heap.IsListIter it l i->VJ s.heap l items->i+n<=items.size ->
  (∀h',h'.IsListIter it l (i+n)->me it s.heap h'->Q ((items.toList.drop i).take n) {s with heap:=h' })->jd (jq prog w) A (draw (.ref it) n) Q E s
 |0,i,s,Q,hit,_,_,hQ=>by
  show jd _ _ (pure []) Q E s
  exact wpAny_pure (by simpa using hQ s.heap hit (λ_ _ _ e=>e))
 |n+1,i,s,Q,hit,ht,hle,hQ=>by
  have hlt:i<items.size:=by omega
  show jd _ _ (gr (.ref it) >>= _) Q E s
  refine qa (Jl hit (lO ht) (x:=items[i]) (by simp[hlt]) λh1 hit1 hs1 => ?_)
  refine qa (vc (tW hne n (i+1) _ _ hit1 (ht.extBut hs1.extBut hne) '!' λh2 hit2 hs2=>wpAny_pure ?_))
  have hd:items.toList.drop i=items[i]::items.toList.drop (i+1):=by simp[x3,hlt]
  have z:=hQ h2 (by rw[show i+(n+1)=i+1+n by omega];exact hit2) (λb o hb e=>hs2 b o hb (hs1.extBut b o hb e))
  rw[hd,List.take_succ_cons] at z
  exact z
theorem zM{t:Addr}{targets:List (Bool×(Value->Sem Unit))}{Q:Unit->Shared->Prop}(hh:A.handled=none)(ht:VJ s.heap t items)(hn:targets.length=items.size)(hstar:targets.findIdx? (·.1)=none)(h:∀h',me s.heap.objs.size s.heap h'->jd (jq prog w) A (Q9 (targets.map (·.2)) items.toList) Q E {s with heap:=h' }):
  jd (jq prog w) A (unpack (.ref t) targets) Q E s:=by
 have hlt:t≠s.heap.objs.size:=by obtain⟨o,_,ho,_⟩:=ht;exact qk (qi ho)
 unfold unpack
 rw[hn,hstar]
 refine qa (vc ?_)
 unfold unpackItems
 refine qa ?_
 unfold notIterableAtAll
 refine qa (VO (lO ht).typeIs slot_list_iter.lookup ?_)
 refine wpAny_pure ?_
 simp only[di,if_false]
 refine qa (vc (ck (lO ht) ?_))
 refine qa (vc (tW hlt items.size 0 _ _ ⟨_,qh _ rfl,rfl,rfl⟩ (ht.keeps λb o e=>qb _ e) '!' λh1 hit1 hs1 => ?_))
 have hall:List.take items.size (List.drop 0 items.toList)=items.toList:=by
  rw[ll];exact fo '$'
 rw[hall]
 rw[if_neg '$']
 have ht1:VJ h1 t items:=PlainL.extBut (ht.keeps λb o e=>qb _ e) hs1 hlt
 refine qa (vc (JC hh hit1 (lO ht1) '$' λh2 he2 => ?_))
 simp only[Option.isSome_none,di,if_false]
 exact wpAny_pure (h h2 λb o hb e=>he2 b o hb (hs1 b o hb (qb _ e)))
end
section
noncomputable def gLst(K:qf)(n:Nat)(t:TGs):TG:=λv σ H Q=>∃a xs,v = .ref a/\SqL K H a xs/\xs.length=n/\t xs σ H Q
theorem aIY{k:Nat}{t:TGs}(hc:X.calm=true)(h:PGs X es t)(hn:(xm es X.env).length=n:=by rfl)(hst:(xm es X.env).findIdx? (·.1)=none:=by rfl):PG X (.Tuple es k pos) (gLst X.K n t):=by
 intro pins s σ H v u Q I r hw
 obtain⟨a,xs,e1,hq,hl,hw⟩:=hw
 subst e1
 cases r
 obtain⟨its,rv,ht,hz⟩:=I.list hq
 rw[assign_Tuple]
 refine qa (se (zM (I.ok.hd hc) ht (by simp[hn,<- hl,rv.length]) hst λh' hx => ?_))
 have I1:Inv X pins σ H {s with heap:=h' }:=I.kept (t':=s.toks) λb o e=>hx b o (qk (qi e)) e
 exact h pins _ σ H xs _ Q I1 (by simpa using rv) hw
end
end L2
namespace Num
end Num
namespace R
open PySem L2
structure Sz(k:Nat)(x:Rat):Prop where
 n:x.num.natAbs<2^k
 d:x.den<2^k
end R
namespace L2
open PySem PySem.Spec PyProof.Rows
theorem eM:∀(names:List (Str×NameKind)) (n:Nat) (acc:List (Str×Addr)),cellsFrom n names acc=cellsFrom n names []++acc
 |[],_,_=>rfl
 | (name,kind)::r,n,acc=>by
  unfold cellsFrom
  split
  ·rw[eM r (n+1) ((name,n)::acc),eM r (n+1) [(name,n)],yz];rfl
  ·exact eM r n acc
theorem lG:∀(names:List (Str×NameKind)) (n:Nat) (acc:List (Str×Addr)) {y:Str}{c:Addr},(y,c)∈cellsFrom n names acc->(y,vo)∈names\/(y,c)∈acc
 |[],_,_,_,_,h => .inr h
 | (name,kind)::r,n,acc,y,c,h=>by
  unfold cellsFrom at h
  split at h
  ·rename_i hk
   rcases lG r (n+1) _ h with q|q
   ·exact .inl (ke _ q)
   ·rcases qe.mp q with q|q
    ·cases q
     have:kind = .cell:=by simpa using hk
     exact .inl (by rw[this];exact jz)
    ·exact .inr q
  ·rcases lG r n _ h with q|q
   ·exact .inl (ke _ q)
   ·exact .inr q
theorem fE:∀{l m:List (Str×Addr)},(l++m).lookup y=match l.lookup y with|some c=>some c|none=>m.lookup y
 |[],_=>rfl
 | (n,c)::l,m=>by
  rw[List.cons_append,jx,jx]
  cases y==n with
  |true=>rfl
  |false=>exact fE (l:=l) (m:=m)
theorem l9{scope:Scope}{env:Env}:∀(names:List (Str×NameKind)) (acc:List (Str×Addr)),
  (∀n,(n,ju)∈names->∃c,env.cells.lookup n=some c)->(∀n c,acc.lookup n=some c->env.cells.lookup n=some c) ->
  ∃cl,(forIn names acc λx cs=>(if x.2==ju then (do let c <- cellOf env x.1;pure (wg ((x.1,c)::cs))) else pure (wg cs)):Sem (List (Str×Addr)))=pure cl /\
   (∀n c,cl.lookup n=some c->env.cells.lookup n=some c)/\(∀n,(n,ju)∈names->∃c,cl.lookup n=some c)/\∀n c,acc.lookup n=some c->∃c',cl.lookup n=some c'
 |[],acc,_,h2=>⟨acc,rfl,h2,(λ_ h=>nomatch h),λn c e=>⟨c,e⟩⟩
 | (name,kind)::r,acc,h1,h2=>by
  have h1':∀n,(n,ju)∈r->∃c,env.cells.lookup n=some c:=λn hn=>h1 n (ke _ hn)
  by_cases hk:kind = .free
  ·subst hk
   obtain⟨c,hc⟩:=h1 name jz
   obtain⟨cl,e,q1,q2,q3⟩:=l9 (scope:=scope) (env:=env) r ((name,c)::acc) h1' (λn c' hn=>by
    rw[jx] at hn
    cases hb:n==name with
    |true =>
     rw[hb] at hn
     have:n=name:=by simpa using hb
     subst this
     cases hn;exact hc
    |false=>rw[hb] at hn;exact h2 n c' hn)
   refine⟨cl,?_,q1,λn hn => ?_,λn c' hn => ?_⟩
   ·rw[gi]
    simp only[beq_self_eq_true,if_true]
    have e0:cellOf env name=pure c:=by unfold cellOf;rw[hc]
    rw[e0]
    exact e
   ·rcases qe.mp hn with z|z
    ·cases z
     exact q3 _ c (by rw[jx,beq_self_eq_true])
    ·exact q2 n z
   ·cases hb:n==name with
    |true=>exact q3 n c (by rw[jx,hb])
    |false=>exact q3 n c' (by rw[jx,hb];exact hn)
  ·obtain⟨cl,e,q1,q2,q3⟩:=l9 (scope:=scope) (env:=env) r acc h1' h2
   refine⟨cl,?_,q1,λn hn => ?_,q3⟩
   ·rw[gi]
    have hb:(kind==ju)=false:=by simpa using hk
    simp only[hb,di,if_false]
    exact e
   ·rcases qe.mp hn with z|z
    ·cases z;exact absurd rfl hk
    ·exact q2 n z
theorem mH{env:Env}(h:∀n,(n,ju)∈scope.names->∃c,env.cells.lookup n=some c):
  ∃cl,closureFor scope env=pure cl/\(∀n c,cl.lookup n=some c->env.cells.lookup n=some c)/\(∀n,(n,ju)∈scope.names->∃c,cl.lookup n=some c):=by
 obtain⟨cl,e,q1,q2,_⟩:=l9 (scope:=scope) (env:=env) scope.names [] h (λn c e=>by cases e)
 refine⟨cl,?_,q1,q2⟩
 show ((forIn scope.names [] λx cs=>(if x.2==ju then (do let c <- cellOf env x.1;pure (wg ((x.1,c)::cs))) else pure (wg cs)):Sem (List (Str×Addr))) >>= λcs=>pure cs)=pure cl
 rw[e]
 rfl
theorem oM{M:Km}{E:Value->Shared->Prop}{globals:Addr}{cl:List (Str×Addr)}{code:Value}{env:Env}{Q:Env->Shared->Prop}(h:Q (newEnv scope s.heap.objs.size globals (cellsFrom (s.heap.objs.size+1) scope.names cl) qual none code (some env) Q0) {s with heap:=yi (s.heap.push {cls := .type "dict", data := .dict #[]}) scope.names}):
  jd M A (V5 scope globals cl [] qual none code (some env)) Q E s:=by
 simp only[V5,Option.isSome_some,if_true]
 refine qa (wpAny_alloc ?_)
 refine qa (wpAny_layCells _ (λname kind cells=>by cases hkc:kind==vo <;> simp[hkc]) _ _ _ _ ?_)
 rw[show ({s with heap:=s.heap.push {cls := .type "dict", data := .dict #[]} }:Shared).heap.objs.size=s.heap.objs.size+1 from jt ..]
 exact qa (wpAny_pure (wpAny_pure h))
noncomputable def aR(X:Cx)(scope:Scope)(cs:List (Str×Addr))(C:Addr)(Nc:List Str)(s₀:Shared)(H₀:Hp)(fp:List Addr):Cx:=
 {X with N:=Nc,s₀:=s₀,H₀:=H₀,env:=compEnvC scope cs C X.env,outer:=X.stack,ex:=fp,fn:=λy=>scope.names.lookup y==some .cell,pn:=[],xe:=λ_ _=>False}
theorem c0{env:Env}{y:Str}{k:NameKind}:∀{names:List (Str×NameKind)},
  (names.map λ(n,k)=>if (k==ju&&env.scope.kind == .function&&env.kindOf n==some .cell) then (n,vo) else (n,k)).lookup y=some k ->
  names.lookup y=some k\/(names.lookup y=some .free/\k = .cell)
 |[],h=>by cases h
 | (n,k')::r,h=>by
  have ih:=c0 (env:=env) (y:=y) (k:=k) (names:=r)
  rw[vy] at h
  cases hy:y==n with
  |true =>
   rw[jx,hy]
   by_cases hc:(k'==ju&&env.scope.kind == .function&&env.kindOf n==some .cell)=true
   ·dsimp only at h
    rw[if_pos hc,jx,hy] at h
    cases h
    have:k' = .free:=by
     rw[qp,qp] at hc
     simpa using hc.1.1
    exact .inr ⟨by rw[this],rfl⟩
   ·dsimp only at h
    rw[if_neg hc,jx,hy] at h
    exact .inl h
  |false =>
   rw[jx,hy]
   by_cases hc:(k'==ju&&env.scope.kind == .function&&env.kindOf n==some .cell)=true
   ·dsimp only at h
    rw[if_pos hc,jx,hy] at h
    exact ih h
   ·dsimp only at h
    rw[if_neg hc,jx,hy] at h
    exact ih h
noncomputable def PIf(Y:Cx)(ifs:List Expr)(tt:TT):Prop:=
 ∀(pins:List (Addr×Obj)) (s:Shared) (σ:St) (H:Hp) (Q:Bool->Hp->Prop),Inv Y pins σ H s->tt σ H Q ->
  jd (jq Y.prog Y.w) Y.A (forIn ifs true λc r=>if r=true then do let ok <- isTrue c Y.env (eval c Y.env);pure (wg ok) else pure (wg r)) (TP Y pins σ Q) Y.xe s
noncomputable def aKZ:TT:=λ_ H Q=>Q true H
theorem aGK{Y:Cx}:PIf Y [] aKZ:=λpins s σ H Q I h=>by
 rw[Qn]
 exact wpAny_pure ⟨H,I,h⟩
theorem aHD{Y:Cx}(h:PT Y c tt):PIf Y [c] tt:=λpins s σ H Q I q=>wpAny_tests_one (h pins s σ H Q I q)
theorem nB{R:Result->Shared->Prop}{target:Expr}{it acc:Value}{env:Env}(I:Nat->Shared->Prop)(turn:∀n s,I n s->jd (jq prog w) A (gr it) (λr s₁=>match r with
   |none=>R (.ok .next) s₁
   |some v=>jd (jq prog w) A (ni target it v) (λ_ s₁'=>jd (jq prog w) A (assign target env v) (λ_ s₂ =>
     jd (jq prog w) A (forIn ifs true λc r=>if r=true then do let ok <- isTrue c env (eval c env);pure (wg ok) else pure (wg r)) (λok s₃ =>
      if ok=true then jd (jq prog w) A (eval elt env) (λx s₄ =>
       jd (jq prog w) A (call (.builtin "list.append") [acc,x]) (λ_ s₅=>∃m,m<n/\I m s₅) (λ_ _=>False) s₄) (λ_ _=>False) s₃
      else ∃m,m<n/\I m s₃) (λ_ _=>False) s₂) (λ_ _=>False) s₁') (λ_ _=>False) s₁) (λ_ _=>False) s)(n:Nat)(h:I n s):
  gm (jq prog w) A (.compLoop (.ListComp elt [⟨target,iter,ifs,0⟩] scope pos) 0 it acc env) R s:=by
 refine codeAny_loop rfl I (λn s hI => ?_) n h
 show jd _ A ((compTurn (.ListComp elt [⟨target,iter,ifs,0⟩] scope pos) 0 it acc env).onRaise (λx=>do noteFrame x env;theTreesLotGoes x)) _ _ s
 refine wpAny_noted ?_
 rw[compTurn_list]
 refine qa (se (qa (zd (turn n s hI) (λr s₁ h₁ => ?_) λ_ _ h'=>h'.elim)))
 cases r with
 |none=>exact wpAny_pure h₁
 |some v =>
  refine qa (zd h₁ (λ_ s₁' h₁' => ?_) λ_ _ h'=>h'.elim)
  refine qa (zd h₁' (λ_ s₂ h₂=>qa (zd h₂ (λok s₃ h₃ => ?_) λ_ _ h'=>h'.elim)) λ_ _ h'=>h'.elim)
  cases ok with
  |false=>exact wpAny_pure ⟨rfl,h₃⟩
  |true =>
   exact qa (qa (zd h₃ (λx s₄ h₄=>qa (zd h₄ (λ_ s₅ h₅=>wpAny_pure (wpAny_pure ⟨rfl,h₅⟩)) λ_ _ h'=>h'.elim)) λ_ _ h'=>h'.elim))
noncomputable def aKM(J:It)(cap:List Nat)(tt:TT)(te:TE)(σ:St)(H1:Hp)(Q:VK)(D:Addr):Prop:=∃W:Nat->Nat->List V->Hp->Prop,(∃m,W 0 m [] (upd H1 D (.lst [])))/\∀i m ys H2,W i m ys H2 ->
 H2 D=some (.lst ys)/\((J.stop i H2/\Q (.ref D) H2)\/(J.go i H2/\ys.length<sizeLine/\∀x H3,J.yld i H2 x H3 ->
  tt (some x::cap.map λk=>(σ[k]?).join) H3 λb H4=>if b=true then te (some x::cap.map λk=>(σ[k]?).join) H4 λy H5=>H5 D=some (.lst ys)/\∃m',m'<m/\W (i+1) m' (ys++[y]) (upd H5 D (.lst (ys++[y])))
   else ∃m',m'<m/\W (i+1) m' ys H4))
noncomputable def oH(wi:TI)(cap:List Nat)(tt:TT)(te:TE):TE:=λσ H Q=>wi σ H λJ H1=>∀D,H1 D=none->aKM J cap tt te σ H1 Q D
structure CFree(X:Cx)(pins:List (Addr×Obj))(H':Hp)(C:Addr):Prop where
 hn:H' C=none
 hL:C≠X.env.locals
 h1:X.s₀.heap.objs.size<=C
 h2:∀x c,X.env.cells.lookup x=some c->c≠C
 h3:∀p∈X.pn++pins,p.1≠C
theorem rS{cap:List Nat}(hc:X.calm=true)(hkind:scope.kind = .function)(hnames:∀y∈scope.names,y.2 = .local->scope.names.lookup y.1=some .local)(hx:Loc (zi scope X.env) x)(hxf:scope.names.lookup x=some .cell\/(zi scope X.env).names.lookup x=some .local)(hNc:(x::ns).Nodup)(hlen:cap.length=ns.length)(hcap:∀(j k:Nat) (nm:Str),cap[j]?=some k->ns[j]?=some nm->X.N[k]?=some nm/\(X.env.scope.names.lookup nm=some .cell\/X.env.scope.names.lookup nm=some .free))(hns:∀nm∈ns,(nm,ju)∈scope.names/\(nm,vo)∉scope.names)(hnsk:∀nm∈ns,scope.names.lookup nm=some .free)(hfree:∀y∈scope.names,y.2 = .free->X.env.scope.names.lookup y.1=some .cell\/X.env.scope.names.lookup y.1=some .free)(hi:PI X (.Name x px) iter wi)(ht:∀cs C s₀ H₀ fp,PIf fp.11 ifs tt)(he:∀cs C s₀ H₀ fp,PE fp.11 elt te)(hs:∀v,foldedSetIterable iter X.env v=pure v:=by intro _;rfl){use:Option (Value->Sem Unit)}{Q':Value->Shared->Prop}{Q:VK}{ip:Pos}(I:Inv X pins σ H s)(h:oH wi cap tt te σ H Q)(hfin:∀(D C:Addr) (H':Hp) (s':Shared),Inv X pins σ H' s'->Q (.ref D) H'->(∃m,s'.heap.Ns C m)->CFree X pins H' C->nq X.w.8 X.A X.xe use Q' (.ref D) C (.ok .next) s'):
  jd X.w.8 X.A (Q8 '+' scope X.env ip (VM []) false (eval iter X.env) use) Q' X.xe s:=by
 obtain⟨cl,ecl,cl1,cl2⟩:=mH (scope:=scope) (env:=X.env) λn hn=>I.ok.has n (hfree (n, .free) hn rfl)
 refine Q1 (use:=use) rfl hs ecl hkind hnames (thn (hi pins s σ H _ I h) λxv s1 h1=>thn h1 λitv s2 h2 => ?_)
 obtain⟨it,fp,tn,J,H2,rfl,I2,T,st2,f2,q⟩:=h2
 have hD:H2 s2.heap.objs.size=none:=I2.fresh
 obtain⟨W,⟨m0,w0⟩,step⟩:=q s2.heap.objs.size hD
 refine vm ?_ (by show 0<=sizeLine;exact vw _)
 have I3:Inv X pins σ (upd H2 s2.heap.objs.size (.lst [])) {s2 with heap:=s2.heap.push {cls := .type "list", data := .seq ([]:List Value).toArray} }:=
  I2.laid (t':=s2.toks) (λb u e=>qb _ e) (qm _) ⟨vw _,[],0, .nil,qh _ rfl⟩
 have sz3:(s2.heap.push {cls := .type "list", data := .seq ([]:List Value).toArray}).objs.size=s2.heap.objs.size+1:=jt ..
 have hfp3:∀b∈fp,∀o,(upd H2 s2.heap.objs.size (.lst [])) b≠some o:=λb hb o z=>by
  obtain⟨ob,e,_⟩:=T.obj 0 _ st2 b hb
  rw[aU (qk (qi e)),(f2 b hb).1] at z
  cases z
 revert I3 sz3 w0 step hfp3
 generalize upd H2 s2.heap.objs.size (.lst [])=H3
 generalize hs3:({s2 with heap:=s2.heap.push {cls := .type "list", data := .seq ([]:List Value).toArray} }:Shared)=s3
 intro step w0 I3 sz3 hfp3
 have st3:tn 0 s3.heap:=T.keep 0 _ _ st2 λb _ o e=>by rw[<- hs3];exact qb _ e
 have fpLt:∀b∈fp,b<s3.heap.objs.size:=λb hb=>by
  obtain⟨o,e,_⟩:=T.obj 0 _ st3 b hb
  exact qi e
 refine oM ?_
 have new:CellsOk (yi '&' scope.names) (s3.heap.objs.size+1) (cellsFrom (s3.heap.objs.size+1) scope.names []):=by
  have ok:=cellsFrom_ok scope.names '&' (s3.heap.objs.size+1) [] ⟨λ_ _ hm=>(nomatch hm),zf⟩ (by rw[jt];exact qm _)
  rw[jt] at ok
  exact ok
 have keep4:∀b o,s3.heap.get? b=some o->(yi '&' scope.names).get? b=some o:=λb o e=>nh _ _ b o (qb _ e)
 have nsC:(yi '&' scope.names).Ns s3.heap.objs.size (λ_=>none):=(J1 s3.heap (.type "dict")).keeps (nh _ _)
 have lk:∀y c,(cl.10).lookup y=some c->((y,c)∈cellsFrom (s3.heap.objs.size+1) scope.names []/\(y,vo)∈scope.names)\/(cl.lookup y=some c/\X.env.cells.lookup y=some c):=λy c e=>by
  rw[eM,fE] at e
  cases z:(cellsFrom (s3.heap.objs.size+1) scope.names []).lookup y with
  |some c' =>
   rw[z] at e
   have e':c'=c:=jk e
   subst e'
   have hm:=jr z
   rcases lG _ _ _ hm with q|q
   ·exact .inl ⟨hm,q⟩
   ·cases q
  |none=>rw[z] at e;exact .inr ⟨e,cl1 y c e⟩
 have oldLt:∀y c,X.env.cells.lookup y=some c->c<s3.heap.objs.size:=λy c e=>by
  obtain⟨v,z⟩:=I3.cell y c e
  exact z.lt
 have hlk2:∀nm∈ns,∃c,(cl.10).lookup nm=some c/\X.env.cells.lookup nm=some c:=λnm hnm=>by
  obtain⟨h1,h2⟩:=hns nm hnm
  obtain⟨c,e⟩:=cl2 nm h1
  refine⟨c,?_,cl1 nm c e⟩
  rw[eM,fE]
  cases z:(cellsFrom (s3.heap.objs.size+1) scope.names []).lookup nm with
  |some c' =>
   rcases lG _ _ _ (jr z) with q|q
   ·exact absurd q h2
   ·cases q
  |none=>exact e
 show gm X.w.8 X.A (.compStart '+' 0 (.ref it) (.ref s2.heap.objs.size) (fp.13).env) (nq X.w.8 X.A X.xe use Q' (.ref s2.heap.objs.size) s3.heap.objs.size) {s3 with heap:=yi '&' scope.names}
 have ht':=ht cl.10 s3.heap.objs.size s3 H3 fp
 have he':=he cl.10 s3.heap.objs.size s3 H3 fp
 have OK:(fp.13).Ok:=by
  refine⟨I3.ok.mod,hkind,I3.ok.glob,I3.ok.blt,qm _,λy z c e1 e2 => ?_,λy hy => ?_,λy c hf e => ?_,λ_=>I3.ok.hd hc,I3.ok.frames, .inl rfl,λb hb=>⟨qk (fpLt b hb),λy c e => ?_⟩,I3.bs,jf I3.ok.bsz I3.sz,λb o e hb => ?_,λb hb hm => ?_,I3.stack,I3.stkFree⟩
  ·rcases lk y c e1 with ⟨a1,_⟩|⟨a1,a2⟩ <;> rcases lk z c e2 with ⟨b1,_⟩|⟨b1,b2⟩
   ·exact Jy new.apart a1 b1
   ·exact absurd (qr (oldLt z c b2) (vx (new.empty y c a1).2)) (wb _)
   ·exact absurd (qr (oldLt y c a2) (vx (new.empty z c b1).2)) (wb _)
   ·exact I3.ok.inj y z c a2 b2
  ·have key:scope.names.lookup y=some .cell\/scope.names.lookup y=some .free:=by
    rcases hy with hy|hy
    ·rcases c0 (env:=X.env) (names:=scope.names) hy with q|⟨q,_⟩
     ·exact .inl q
     ·exact .inr q
    ·rcases c0 (env:=X.env) (names:=scope.names) hy with q|⟨q,_⟩
     ·exact .inr q
     ·exact .inr q
   rcases key with q|q
   ·exact vv.mp (vh scope.names (s3.heap.objs.size+1) cl (.inl q))
   ·obtain⟨c,e⟩:=cl2 y (jr q)
    exact vv.mp (vh scope.names (s3.heap.objs.size+1) cl (.inr (by rw[e];rfl)))
  ·have hf':scope.names.lookup y=some .cell:=by
    have hf0:(scope.names.lookup y==some .cell)=true:=hf
    simpa using hf0
   have e':(cl.10).lookup y=some c:=e
   have e0:=vv.mp (vh scope.names (s3.heap.objs.size+1) [] (.inl hf'))
   obtain⟨c',z⟩:=e0
   rw[eM,fE,z] at e'
   cases e'
   exact vx (new.empty y c (jr z)).2
  ·rcases lk y c e with ⟨a1,_⟩|⟨a1,a2⟩
   ·exact λz=>absurd (qr (fpLt b hb) (z▸vx (new.empty y c a1).2)) (wb _)
   ·exact (f2 b hb).2.2.2.2.1 y c a2
  ·rcases (f2 b hb).2.2.2.1 with z|z
   ·exact I3.ok.noex b o e z
   ·exact absurd (qr (qi (I3.ok.bs b o e).1) z) (wb _)
  ·rcases qe.mp (I3.stkSub b hm) with z|z
   ·exact (f2 b hb).2.1 z
   ·exact (f2 b hb).2.2.1 z
 have IY:Inv fp.13 [] (none::cap.map λk=>(σ[k]?).join) H3 {s3 with heap:=yi '&' scope.names}:=by
  refine⟨OK,rfl,I3.bare,Un.kept keep4,⟨_,nsC,λi nm v e1 e2 e3 => ?_⟩,λy c e => ?_,I3.fresh,λy c e => ?_,λp hp=>absurd (show p∈([]:List (Addr×Obj)) from hp) '$',I3.hok.kept keep4,by simp[aR,hlen]⟩
  ·cases i with
   |zero=>cases e2
   |succ j =>
    have e1':ns[j]?=some nm:=e1
    have e2':(cap.map λk=>(σ[k]?).join)[j]?=some (some v):=e2
    rw[qg] at e2'
    cases hk:cap[j]? with
    |none=>rw[hk] at e2';cases e2'
    |some k =>
     rw[hk] at e2'
     have e2'':(σ[k]?).join=some v:=jk e2'
     have e4:σ[k]?=some (some v):=by
      cases z:σ[k]? with
      |none=>rw[z] at e2'';cases e2''
      |some o=>rw[z] at e2'';exact congrArg some e2''
     obtain⟨hN,hcell⟩:=hcap j k nm hk e1'
     obtain⟨m,_,hl⟩:=I3.loc
     obtain⟨u,r,l⟩:=hl k nm v hN e4 (.inr hcell)
     refine⟨u,r,?_⟩
     rcases l with ⟨l1,_⟩|⟨_,c,ec,z⟩
     ·have l1':X.env.scope.names.lookup nm=some .local:=l1
      rcases hcell with q|q <;> rw[q] at l1' <;> cases l1'
     ·obtain⟨c',g1,g2⟩:=hlk2 nm (zMo e1')
      rw[ec] at g2
      cases g2
      refine .inr ⟨?_,c,g1,?_⟩
      ·rcases e3 with q|q
       ·rcases c0 (env:=X.env) (names:=scope.names) q with w1|⟨_,w1⟩
        ·exfalso
         have hmem:=(hns nm (zMo e1')).1
         have:=hnames (nm, .local) (jr w1) rfl
         -- a name has one kind in a scope: its cell is known,so it is not local here
         exact absurd (I3.ok.has nm (hfree (nm, .free) hmem rfl)) (λ_=>by
          have hk2:=(hnsk nm (zMo e1'))
          rw[w1] at hk2;cases hk2)
        ·cases w1
       ·exact q
      ·obtain⟨o,ho,hd⟩:=z
       exact⟨o,keep4 c o ho,hd⟩
  ·rcases lk y c e with ⟨a1,_⟩|⟨a1,a2⟩
   ·exact⟨none,(new.empty y c a1).1⟩
   ·obtain⟨v,o,ho,hd⟩:=I3.cell y c a2
    exact⟨v,o,keep4 c o ho,hd⟩
  ·rcases lk y c e with ⟨a1,_⟩|⟨a1,a2⟩
   ·exact I3.hok.fresh (vx (new.empty y c a1).2)
   ·exact I3.freeC y c a2
 -- what is reached at the end
 have fin:∀{σ':St}{H':Hp}{s':Shared},Inv fp.13 [] σ' H' s'->Q (.ref s2.heap.objs.size) H' ->
   nq X.w.8 X.A X.xe use Q' (.ref s2.heap.objs.size) s3.heap.objs.size (.ok .next) s':=λ{σ' H' s'} J qd=>by
  obtain⟨m',hn',_⟩:=J.loc
  have hCn:H' s3.heap.objs.size=none:=J.free
  refine hfin _ _ H' s' (I3.call' (ch:=fp) J.os J.base J.hok J.bare λb hb=>⟨(f2 b hb).2.2.2.1,(f2 b hb).2.1,(f2 b hb).2.2.2.2.1,(f2 b hb).2.2.2.2.2⟩) qd ⟨m',hn'⟩ ⟨hCn,xo I3.lt,I3.sz,λy c e=>qk (oldLt y c e),λp hp=>qk (qi (I3.pin p hp).1)⟩
 have fpY:∀{H':Hp},(∀b∈fp,H' b=none)->∀b∈fp,jK fp.13 [] H' b:=λ{H'} hn b hb =>
  ⟨hn b hb,(OK.exf b hb).1,OK.exfs b hb, .inl hb,(OK.exf b hb).2,λp hp=>absurd (show p∈([]:List (Addr×Obj)) from hp) '$'⟩
 have st4:tn 0 (yi '&' scope.names):=T.keep 0 _ _ st3 λb _ o e=>keep4 b o e
 have fr3:∀b∈fp,H3 b=none:=λb hb=>by
  cases z:H3 b with
  |none=>rfl
  |some o=>exact absurd rfl (λ_:(1:Nat)=1=>hfp3 b hb o z)
 have loop:gm X.w.8 X.A (.compLoop '+' 0 (.ref it) (.ref s2.heap.objs.size) (fp.13).env) (nq X.w.8 X.A X.xe use Q' (.ref s2.heap.objs.size) s3.heap.objs.size) {s3 with heap:=yi '&' scope.names}:=by
  refine nB (λn s'=>∃i ys o H',Inv fp.13 [] (o::cap.map λk=>(σ[k]?).join) H' s'/\tn i s'.heap/\(∀b∈fp,H' b=none)/\W i n ys H') ?_ m0 ⟨0,[],none,H3,IY,st4,fr3,w0⟩
  rintro n s5 ⟨i,ys,o,H5,I5,st5,fr5,w5⟩
  obtain⟨eD,alt⟩:=step i n ys H5 w5
  rcases alt with ⟨stop,qd⟩|⟨go,hz,turn⟩
  ·refine thn (T.done fp.13 rfl rfl rfl hc i [] s5 _ H5 (λ_ _=>False) I5 (fpY fr5) st5 stop) λr s6 ⟨hr,I6⟩ => ?_
   subst hr
   exact fin I6 qd
  ·refine thn (T.item fp.13 rfl rfl rfl hc i [] s5 _ H5 (λ_ _=>False) I5 (fpY fr5) st5 go) λr s6 ⟨u,hr,h6⟩ => ?_
   subst hr
   refine thn h6 λ_ s7 ⟨xv',H7,I7,r7,y7,st7,fr7⟩ => ?_
   have I7':=I7.pinned (fpY fr7) (T.obj _ _ st7)
   have hst:PG fp.13 (.Name x px) (lV 0):=oG hNc rfl hx (hxf.elim (λz => .inl (by show (scope.names.lookup x==some .cell)=true;rw[z];rfl)) .inr)
   refine thn (hst _ s7 _ H7 xv' u (λσ8 H8=>σ8=(some xv'::cap.map λk=>(σ[k]?).join)/\H8=H7) I7' r7 ⟨rfl,rfl⟩) λ_ s8 ⟨σ8,H8,I8,e8,e8'⟩ => ?_
   subst e8 e8'
   have back:∀{σ9:St}{H9:Hp}{s9:Shared},Inv fp.13 ([]++kU fp s7.heap) σ9 H9 s9->tn (i+1) s9.heap/\∀b∈fp,H9 b=none:=λ{σ9 H9 s9} I9=>by
    refine⟨T.keep _ _ _ st7 λb hb o e=>(I9.pin (b,o) (jn _ (jn _ (gH hb e)))).1,λb hb => ?_⟩
    obtain⟨o,e,d⟩:=T.obj _ _ st7 b hb
    exact (I9.pin (b,o) (jn _ (jn _ (gH hb e)))).2.1
   refine thn (ht' _ s8 _ _ _ I8 (turn xv' _ y7)) λb s9 ⟨H9,I9,q9⟩ => ?_
   cases b with
   |false =>
    rw[if_neg zBf] at q9 ⊢
    obtain⟨m',hm,w9⟩:=q9
    obtain⟨st9,fr9⟩:=back I9
    exact⟨m',hm,i+1,ys,_,H9,I9.unpinned,st9,fr9,w9⟩
   |true =>
    rw[if_pos rfl] at q9 ⊢
    refine thn (he' _ s9 _ _ _ I9 q9) λyv s10 ⟨y,H10,I10,r10,eD10,m',hm,w10⟩ => ?_
    refine thn (fA (X:=aR X scope cl.10 s3.heap.objs.size (x::ns) s3 H3 fp) _ s10 _ H10 (.ref s2.heap.objs.size) [y] (.ref s2.heap.objs.size) [yv] (λ_ H11=>H11=upd H10 s2.heap.objs.size (.lst (ys++[y]))) I10 rfl (.cons r10 .nil) ⟨_,ys,y,rfl,rfl,eD10,hz,rfl⟩) λ_ s11 ⟨_,H11,I11,_,e11⟩ => ?_
    subst e11
    obtain⟨st11,fr11⟩:=back I11
    exact⟨m',hm,i+1,_,_,_,I11.unpinned,st11,fr11,w10⟩
 exact Jn loop (T.self X.A 0 _ _ _ st4 loop)
theorem aGB{cap:List Nat}(hc:X.calm=true)(hkind:scope.kind = .function)(hnames:∀y∈scope.names,y.2 = .local->scope.names.lookup y.1=some .local)(hx:Loc (zi scope X.env) x)(hxf:scope.names.lookup x=some .cell\/(zi scope X.env).names.lookup x=some .local)(hNc:(x::ns).Nodup)(hlen:cap.length=ns.length)(hcap:∀(j k:Nat) (nm:Str),cap[j]?=some k->ns[j]?=some nm->X.N[k]?=some nm/\(X.env.scope.names.lookup nm=some .cell\/X.env.scope.names.lookup nm=some .free))(hns:∀nm∈ns,(nm,ju)∈scope.names/\(nm,vo)∉scope.names)(hnsk:∀nm∈ns,scope.names.lookup nm=some .free)(hfree:∀y∈scope.names,y.2 = .free->X.env.scope.names.lookup y.1=some .cell\/X.env.scope.names.lookup y.1=some .free)(hi:PI X (.Name x px) iter wi)(ht:∀cs C s₀ H₀ fp,PIf fp.11 ifs tt)(he:∀cs C s₀ H₀ fp,PE fp.11 elt te)(hs:∀v,foldedSetIterable iter X.env v=pure v:=by intro _;rfl):
  PE X '+' (oH wi cap tt te):=by
 intro pins s σ H Q I h
 rw[eval_ListComp]
 refine rS hc hkind hnames hx hxf hNc hlen hcap hns hnsk hfree hi ht he hs (use:=none) I h λD C H' s' J q ⟨m,hn⟩ cf=>⟨m,hn,λh' hs' => ?_⟩
 exact⟨.ref D,H',J.turned (t':=s'.toks) (it:=C) (λb o hb e=>(hs'.2 b hb).trans e) cf.hn cf.hL (.inr cf.h1) cf.h2 cf.h3,rfl,q⟩
theorem aAH{iy:Nat}{cap:List Nat}(hN:X.N.Nodup)(hiy:X.N[iy]?=some y)(hyl:X.env.scope.names.lookup y=some .local)(hc:X.calm=true)(hkind:scope.kind = .function)(hnames:∀y∈scope.names,y.2 = .local->scope.names.lookup y.1=some .local)(hx:Loc (zi scope X.env) x)(hxf:scope.names.lookup x=some .cell\/(zi scope X.env).names.lookup x=some .local)(hNc:(x::ns).Nodup)(hlen:cap.length=ns.length)(hcap:∀(j k:Nat) (nm:Str),cap[j]?=some k->ns[j]?=some nm->X.N[k]?=some nm/\(X.env.scope.names.lookup nm=some .cell\/X.env.scope.names.lookup nm=some .free))(hns:∀nm∈ns,(nm,ju)∈scope.names/\(nm,vo)∉scope.names)(hnsk:∀nm∈ns,scope.names.lookup nm=some .free)(hfree:∀y∈scope.names,y.2 = .free->X.env.scope.names.lookup y.1=some .cell\/X.env.scope.names.lookup y.1=some .free)(hi:PI X (.Name x px) iter wi)(ht:∀cs C s₀ H₀ fp,PIf fp.11 ifs tt)(he:∀cs C s₀ H₀ fp,PE fp.11 elt te)(hs:∀v,foldedSetIterable iter X.env v=pure v:=by intro _;rfl)(hsw:mq '+' (some (.Name y py)) spos.line X.env=pure true:=by rfl):
  PS X (.Assign [.Name y py] '+' spos) (yZ (oH wi cap tt te) (lV iy)):=by
 intro pins s σ H D I h
 rw[exec_Assign_Name_used _ _ _ _ hsw]
 refine qa (se (qa ?_))
 show jd _ X.A (do let _ <- Q8 '+' scope X.env _ (VM []) false (eval iter X.env) (some (assign (.Name y py) X.env))) _ _ s
 refine qa (zd (rS hc hkind hnames hx hxf hNc hlen hcap hns hnsk hfree hi ht he hs (use:=some (assign (.Name y py) X.env)) (Q':=λ_ s'=>SP X pins D .next s') I h λL C H' s' J q ⟨m,hn⟩ cf => ?_) (λ_ s' hq=>wpAny_pure (wpAny_pure hq)) λ_ _ e=>e)
 refine Kv (rW J hN hiy (.inl hyl) (v := .ref L) rfl (λs2 J2 ⟨a,sb,ha⟩ => ?_) (.inr hyl))
 have hCa:C≠a:=by
  rcases ha with rfl|ha
  ·exact cf.hL
  ·exact dc (cf.h2 y a ha)
 refine⟨m,hn.sameBut sb hCa,λh' hs' => ?_⟩
 exact⟨_,H',J2.turned (t':=s2.toks) (it:=C) (λb o hb e=>(hs'.2 b hb).trans e) cf.hn cf.hL (.inr cf.h1) cf.h2 cf.h3,q⟩
noncomputable def Its(x:Str):It:=⟨λi _=>i<x.cps.size,λi H v H'=>H'=H/\∃c,x.cps[i]?=some c/\v = .str ⟨#[c]⟩,λi _=>x.cps.size<=i⟩
theorem tX{K:qf}(x:Str)(t:Tok)(it:Addr)(b:Bool):Turn P w K tg (Its x) [it] it (λi h=>h.IsStrIter it (if b then "str_ascii_iterator" else "str_iterator") x t i) where
 mem:=by simp
 obj:=λi h st b hb=>by
  have e:b=it:=by simpa using hb
  subst e
  obtain⟨o,e,c,d⟩:=st
  exact⟨o,e,λv z=>by rw[d] at z;cases z⟩
 keep:=λi h h' st k=>by
  obtain⟨o,e,r⟩:=st
  exact⟨o,k it '$' o e,r⟩
 item:=by
  intro X hP hw hK hc i pins s σ H E I hf st hg
  subst hP hw hK
  obtain⟨f0,f1,f2,f3,f4,f5⟩:=hf it '$'
  have hg':i<x.cps.size:=hg
  cases b with
  |true =>
   refine wpAny_pyNext_ascii_item st (c:=x.cps[i]) (by simp[hg']) λh' st' sb => ?_
   have I1:Inv X pins σ H {s with heap:=h',toks:=s.toks+1}:=I.turned (t':=s.toks+1) (λb o hb e=>(sb.2 b hb).trans e) f0 f1 f3 f4 f5
   obtain⟨o,e,c,d⟩:=id st'
   exact⟨_,rfl,p3 (s:={s with heap:=h',toks:=s.toks+1}) e c d '*' ⟨.str ⟨#[x.cps[i]]⟩,H,I1,⟨s.toks,rfl⟩,⟨rfl,_,by simp[hg'],rfl⟩,st',λb hb=>(hf b hb).1⟩⟩
  |false =>
   refine wpAny_pyNext_wide_item st (c:=x.cps[i]) (by simp[hg']) λh' st' sb => ?_
   have I1:Inv X pins σ H {s with heap:=h',toks:=s.toks+1}:=I.turned (t':=s.toks+1) (λb o hb e=>(sb.2 b hb).trans e) f0 f1 f3 f4 f5
   obtain⟨o,e,c,d⟩:=id st'
   exact⟨_,rfl,p3 (s:={s with heap:=h',toks:=s.toks+1}) e c d '*' ⟨.str ⟨#[x.cps[i]]⟩,H,I1,⟨s.toks,rfl⟩,⟨rfl,_,by simp[hg'],rfl⟩,st',λb hb=>(hf b hb).1⟩⟩
 done:=by
  intro X hP hw hK hc i pins s σ H E I hf st hg
  subst hP hw hK
  obtain⟨f0,f1,f2,f3,f4,f5⟩:=hf it '$'
  have hg':x.cps.size<=i:=hg
  cases b with
  |true=>exact wpAny_pyNext_ascii_end (I.ok.hd hc) st (by simp[hg']) λh' eb=>⟨rfl,I.turned (t':=s.toks) (λb o hb e=>eb b o hb e) f0 f1 f3 f4 f5⟩
  |false=>exact wpAny_pyNext_wide_end (I.ok.hd hc) st (by simp[hg']) λh' eb=>⟨rfl,I.turned (t':=s.toks) (λb o hb e=>eb b o hb e) f0 f1 f3 f4 f5⟩
 self:=λ_ _ _ _ _ st h=>by
  cases b with
  |true=>exact wpAny_pyIter_striter_ascii st h
  |false=>exact wpAny_pyIter_striter_wide st h
noncomputable def iStr(tl:TE):TI:=λσ H R=>tl σ H λx H1=>∃z,x = .str z/\R (Its z) H1
theorem aJP{l:Expr}{tl:TE}(hl:PE X l tl):PI X tg l (iStr tl):=by
 intro pins s σ H R I h
 refine thn (hl pins s σ H _ I h) λv s1 ⟨x,H1,I1,r1,q1⟩ => ?_
 obtain⟨z,e,q⟩:=q1
 subst e
 obtain⟨t,rfl⟩:=r1
 have fp:∀b∈[s1.heap.objs.size],jK X pins H1 b:=λb hb=>by
  have e:b=s1.heap.objs.size:=by simpa using hb
  subst e
  exact I1.fpOk (qm _) (I1.hok.fresh (qm _))
 cases ha:z.cps.all (· < 128)
 ·exact wpAny_pyIter_wide ha ⟨s1.heap.objs.size,[s1.heap.objs.size],_,_,H1,rfl,I1.kept (t':=s1.toks) λb o e=>qb _ e,tX z t _ false,⟨_,qh _ rfl,rfl,rfl⟩,fp,q⟩
 ·exact wpAny_pyIter_ascii ha ⟨s1.heap.objs.size,[s1.heap.objs.size],_,_,H1,rfl,I1.kept (t':=s1.toks) λb o e=>qb _ e,tX z t _ true,⟨_,qh _ rfl,rfl,rfl⟩,fp,q⟩
structure Yields(J:It)(xs:List V)(Kp:Hp->Prop):Prop where
 go:∀i H,Kp H->i<xs.length->J.go i H
 yld:∀i H x H',Kp H->J.yld i H x H'->i<xs.length->H'=H/\xs[i]?=some x
 stop:∀i H,Kp H->xs.length<=i->J.stop i H
theorem rJ{K:qf}{xs:List V}:Yields (Itl K a) xs (λH=>SqL K H a xs) where
 go:=λi H k h=>⟨xs,xs[i],k,by simp[h]⟩
 yld:=λi H x H' k y _=>⟨y.1,y.2 xs k⟩
 stop:=λi H k h=>⟨xs,k,h⟩
theorem uC{K:qf}{xs:List V}:Yields (Itt K a) xs (λH=>SqT K H a xs) where
 go:=λi H k h=>⟨xs,xs[i],k,by simp[h]⟩
 yld:=λi H x H' k y _=>⟨y.1,y.2 xs k⟩
 stop:=λi H k h=>⟨xs,k,h⟩
noncomputable def Butd(D:Addr)(H H':Hp):Prop:=∀b o,b≠D->H b=some o->H' b=some o
theorem Butd.upd{D:Addr}{o:HO}:Butd D H (upd H D o):=λb u n e=>by rw[aU n];exact e
theorem Same.but{D:Addr}(s:Same H1 H)(n:H1 D=none)(b:Butd D H H'):Same H1 H':=λc o e=>b c o (bH e n) (s c o e)
theorem sN{D:Addr}{o:HO}(n:H D=none):Same H (upd H D o):=(Same.refl H).but n Butd.upd
theorem take_snoc{α:Type}{xs:List α}{x:α}(h:xs[i]?=some x):xs.take (i+1)=xs.take i++[x]:=by
 rw[List.take_succ,h];rfl
end L2
namespace L2
open PySem PySem.Spec PyProof.Rows
section
theorem kG{bs:List Bool}(r:Vals (bs.map V.bl) its){v:Value}(e:its.toArray[i]?=some v):v = .bool (bs.getD i false):=by
 have e':its[i]?=some v:=by simpa using e
 have hl:=r.length
 rw[zLm] at hl
 have hi:i<bs.length:=by
  have:=(zGs e').1
  omega
 have hx:(bs.map V.bl)[i]?=some (.bl bs[i]):=by simp[hi]
 obtain⟨u,hu,ru⟩:=r.get hx
 rw[e'] at hu
 cases hu
 have:v = .bool bs[i]:=ru
 rw[this]
 simp[List.getD,hi]
theorem all_range(bs:List Bool):((qy bs.length).all λi=>bs.getD i false)=bs.all id:=by
 induction bs with
 |nil=>rfl
 |cons b r ih =>
  rw[jb,fq,cm,rd,cm]
  rw[<- ih]
  rfl
theorem any_range(bs:List Bool):((qy bs.length).any λi=>bs.getD i false)=bs.any id:=by
 induction bs with
 |nil=>rfl
 |cons b r ih =>
  rw[jb,fq,Kf,KA,Kf]
  rw[<- ih]
  rfl
noncomputable def aEY(K:qf)(g:List Bool->Bool):List V->Hp->VK->Prop:=λxs H Q=>∃p bs,xs=[.ref p]/\(SqL K H p (bs.map V.bl)\/SqT K H p (bs.map V.bl))/\Q (.bl (g bs)) H
theorem f6(hc:X.calm=true):eF X (.builtin "all") (aEY X.K λbs=>bs.all id):=by
 intro pins s σ H xs us Q I r h
 obtain⟨p,bs,rfl,hq,q⟩:=h
 obtain⟨u,rfl,rx⟩:=vals1 r
 cases rx
 refine call_all_walk ?_
 rcases hq with hq|hq
 ·obtain⟨its,r',pl,hz⟩:=I.list hq
  have hlen:=r'.length
  rw[zLm] at hlen
  refine ck pl.isList ?_
  have hne:p≠s.heap.objs.size:=qk (qi pl.isList.choose_spec.1)
  refine⟨_,_,_,_,_,_,λi=>bs.getD i false,rfl,Ja (show X.A.in1.handled=none from I.ok.hd hc) s.heap.objs.size p hne its.toArray,⟨⟨_,qh _ rfl,rfl,rfl⟩,?_⟩,?_,?_⟩
  ·obtain⟨o,e,z⟩:=pl.isList
   exact⟨o,qb _ e,z⟩
  ·intro i v s' Q' E' hv hQ'
   rw[kG r' hv]
   exact vk hQ'
  ·intro h' tk k
   refine⟨.bl (bs.all id),H,?_,?_,q⟩
   ·exact I.kept (t':=tk) λb o e=>k b o (by simp;exact qk (qi e)) (qb _ e)
   ·show kh _=kh _
    rw[<- all_range bs,qc,<- hlen]
 ·obtain⟨its,r',pl,hz⟩:=I.tuple hq
  have hlen:=r'.length
  rw[zLm] at hlen
  have pl':s.heap.IsTuple p its.toArray:=pl
  refine si pl' ?_
  have hne:p≠s.heap.objs.size:=qk (qi pl'.choose_spec.1)
  refine⟨_,_,_,_,_,_,λi=>bs.getD i false,rfl,Kx (show X.A.in1.handled=none from I.ok.hd hc) s.heap.objs.size p hne its.toArray,⟨⟨_,qh _ rfl,rfl,rfl⟩,?_⟩,?_,?_⟩
  ·obtain⟨o,e,z⟩:=pl'
   exact⟨o,qb _ e,z⟩
  ·intro i v s' Q' E' hv hQ'
   rw[kG r' hv]
   exact vk hQ'
  ·intro h' tk k
   refine⟨.bl (bs.all id),H,?_,?_,q⟩
   ·exact I.kept (t':=tk) λb o e=>k b o (by simp;exact qk (qi e)) (qb _ e)
   ·show kh _=kh _
    rw[<- all_range bs,qc,<- hlen]
theorem aDY(hc:X.calm=true):eF X (.builtin "any") (aEY X.K λbs=>bs.any id):=by
 intro pins s σ H xs us Q I r h
 obtain⟨p,bs,rfl,hq,q⟩:=h
 obtain⟨u,rfl,rx⟩:=vals1 r
 cases rx
 refine call_any_walk ?_
 rcases hq with hq|hq
 ·obtain⟨its,r',pl,hz⟩:=I.list hq
  have hlen:=r'.length
  rw[zLm] at hlen
  refine ck pl.isList ?_
  have hne:p≠s.heap.objs.size:=qk (qi pl.isList.choose_spec.1)
  refine⟨_,_,_,_,_,_,λi=>bs.getD i false,rfl,Ja (show X.A.in1.handled=none from I.ok.hd hc) s.heap.objs.size p hne its.toArray,⟨⟨_,qh _ rfl,rfl,rfl⟩,?_⟩,?_,?_⟩
  ·obtain⟨o,e,z⟩:=pl.isList
   exact⟨o,qb _ e,z⟩
  ·intro i v s' Q' E' hv hQ'
   rw[kG r' hv]
   exact vk hQ'
  ·intro h' tk k
   refine⟨.bl (bs.any id),H,?_,?_,q⟩
   ·exact I.kept (t':=tk) λb o e=>k b o (by simp;exact qk (qi e)) (qb _ e)
   ·show kh _=kh _
    rw[<- any_range bs,qc,<- hlen]
 ·obtain⟨its,r',pl,hz⟩:=I.tuple hq
  have hlen:=r'.length
  rw[zLm] at hlen
  have pl':s.heap.IsTuple p its.toArray:=pl
  refine si pl' ?_
  have hne:p≠s.heap.objs.size:=qk (qi pl'.choose_spec.1)
  refine⟨_,_,_,_,_,_,λi=>bs.getD i false,rfl,Kx (show X.A.in1.handled=none from I.ok.hd hc) s.heap.objs.size p hne its.toArray,⟨⟨_,qh _ rfl,rfl,rfl⟩,?_⟩,?_,?_⟩
  ·obtain⟨o,e,z⟩:=pl'
   exact⟨o,qb _ e,z⟩
  ·intro i v s' Q' E' hv hQ'
   rw[kG r' hv]
   exact vk hQ'
  ·intro h' tk k
   refine⟨.bl (bs.any id),H,?_,?_,q⟩
   ·exact I.kept (t':=tk) λb o e=>k b o (by simp;exact qk (qi e)) (qb _ e)
   ·show kh _=kh _
    rw[<- any_range bs,qc,<- hlen]
theorem rK:∀{ys:List Str}{its:List Value},Vals (ys.map V.str) its->StrsAre its ys
 |[],_,r=>by cases r;exact .nil
 |y::ys,_,r=>by
  cases r with
  |cons a b =>
   obtain⟨t,rfl⟩:=a
   exact .cons y t (rK b)
noncomputable def rJoin(K:qf):V->List V->Hp->VK->Prop:=λx vs H Q=>∃sep p ys,x = .str sep/\vs=[.ref p]/\(SqL K H p (ys.map V.str)\/SqT K H p (ys.map V.str))/\sep.length<=16/\(ys.map (·.length)).sum+ys.length<=1048576/\Q (.str (Kq sep ys)) H
theorem iT:MtR X "str.join" (rJoin X.K):=by
 intro pins s σ H x vs u us Q I rx rv h
 obtain⟨sep,p,ys,rfl,rfl,hq,h1,h2,q⟩:=h
 obtain⟨v,rfl,ry⟩:=vals1 rv
 cases ry
 obtain⟨t,rfl⟩:=rx
 rcases hq with hq|hq
 ·obtain⟨its,r',pl,hz⟩:=I.list hq
  exact join_listW pl.isList (rK r') h1 h2 λt' k=>⟨.str _,H,I.tok k,⟨t',rfl⟩,q⟩
 ·obtain⟨its,r',pl,hz⟩:=I.tuple hq
  exact join_tupleW pl (rK r') h1 h2 λt' k=>⟨.str _,H,I.tok k,⟨t',rfl⟩,q⟩
noncomputable def kE(x:Str)(n:Nat):Str:=⟨(kr n x.cps).foldl (· ++ ·) #[]⟩
theorem tS(a:Array Nat):∀(n:Nat) (acc:Array Nat),((kr n a).foldl (· ++ ·) acc).toList=acc.toList++(kr n a.toList).flatten
 |0,acc=>by simp
 |n+1,acc=>by
  rw[yf,JT,tS a n,yf,bj]
  simp
theorem kH(x:Str)(n:Nat):(kE x n).cps.toList=(kr n x.cps.toList).flatten:=by
 unfold kE
 rw[tS];rfl
theorem aD0(x:Str)(n:Nat):(kE x n).length=x.length*n:=by
 show (kE x n).cps.size=x.cps.size*n
 rw[<- qo,kH,<- qo]
 generalize x.cps.toList=l
 induction n with
 |zero=>simp
 |succ n ih=>rw[yf,bj,ja,ih,Nat.mul_succ,KZ]
theorem iQ(h:x.cps.toList=y.cps.toList):x=y:=by
 cases x;cases y
 simp only[Str.mk.injEq]
 exact Array.toList_inj.mp h
theorem aEQ(x:Str):kE x 1=x:=iQ (by rw[kH];simp)
theorem aE0(x:Str)(n:Nat)(h:x.length=0):kE x n=x:=by
 have hx:x.cps.toList=[]:=List.eq_nil_of_length_eq_zero (by rw[qo];exact h)
 apply iQ
 rw[kH,hx]
 induction n with
 |zero=>rfl
 |succ n ih=>rw[yf,bj,ih];rfl
noncomputable def aFK:R2:=λx y H Q=>∃z n,x = .str z/\y = .int n /\ -(2^40)<=n/\n<2^40/\z.length*n.toNat<=sizeLine/\Q (.str (kE z n.toNat)) H
theorem yP:OpR X (zm .Mult) aFK:=by
 intro pins s σ H x y u v Q I rx ry h
 obtain⟨z,n,rfl,rfl,h1,h2,h3,q⟩:=h
 obtain⟨t,rfl⟩:=rx
 obtain⟨t',rfl⟩:=ry
 refine P.mul_str (by rw[decide_eq_false '!',decide_eq_false '!'];rfl) (λa b => ?_) (λa b => ?_) ?_
 ·have:(n.toNat:Int)=n:=by omega
  have h4:((z.length:Int))*n<=(sizeLine:Nat):=by rw[<- this];exact_mod_cast h3
  intro c
  have hn:0<n:=by omega
  have:=(Int.ediv_lt_iff_lt_mul hn).mp c
  have h5:((sizeLine:Nat):Int)<2^62:=by decide
  omega
 ·exact aD1 h3
 ·by_cases c1:n<1
  ·rw[if_pos c1]
   rw[show n.toNat=0 by omega] at q
   exact⟨by decide, .str _,H,I.tok _,⟨_,rfl⟩,q⟩
  ·rw[if_neg c1]
   by_cases c2:(n==1||z.length==0)=true
   ·rw[if_pos c2]
    refine⟨.str z,H,I,⟨_,rfl⟩,?_⟩
    have e:kE z n.toNat=z:=by
     rw[zq,beq_iff_eq,beq_iff_eq] at c2
     rcases c2 with c|c
     ·rw[c];exact aEQ z
     ·exact aE0 z _ c
    rw[e] at q;exact q
   ·rw[if_neg c2]
    refine⟨?_, .str _,H,I.tok _,⟨_,rfl⟩,q⟩
    show (kE z n.toNat).length<=sizeLine
    rw[aD0];exact h3
end
end L2
namespace L2
open PySem PySem.Spec PyProof.Rows
noncomputable def iK(sc scope:Scope)(x:Str)(ns:List Str)(cap:List Nat)(N:List Str):Bool:=
 decide (scope.kind = .function)&&scope.names.all (λy=>decide (y.2 ≠ .local)||decide (scope.names.lookup y.1=some .local))&&(decide (scope.names.lookup x=some .local)||decide (scope.names.lookup x=some .cell)) &&
 decide ((x::ns).Nodup)&&decide (cap.length=ns.length) &&
 (qy cap.length).all (λj=>match cap[j]?,ns[j]? with
  |some k,some nm=>decide (N[k]?=some nm)&&(decide (sc.names.lookup nm=some .cell)||decide (sc.names.lookup nm=some .free))
  |_,_=>true) &&
 ns.all (λnm=>decide ((nm,ju)∈scope.names)&&decide ((nm,vo)∉scope.names)&&decide (scope.names.lookup nm=some .free)) &&
 scope.names.all (λy=>decide (y.2 ≠ .free)||(decide (sc.names.lookup y.1=some .cell)||decide (sc.names.lookup y.1=some .free)))
theorem dU{env:Env}:∀{names:List (Str×NameKind)}{x:Str},names.lookup x=some .cell ->
  (names.map λ(n,k)=>if (k==ju&&env.scope.kind == .function&&env.kindOf n==some .cell) then (n,vo) else (n,k)).lookup x=some .cell
 |[],_,h=>by simp at h
 | (n,k)::r,x,h=>by
  have ih:=dU (env:=env) (names:=r) (x:=x)
  show ma x ((if (k==ju&&env.scope.kind == .function&&env.kindOf n==some .cell)=true then (n,vo) else (n,k))::_)=_
  rw[jx] at h
  split
  ·rw[jx]
   cases hx:x==n with
   |true=>rfl
   |false=>rw[hx] at h;exact ih h
  ·rw[jx]
   cases hx:x==n with
   |true=>rw[hx] at h;exact h
   |false=>rw[hx] at h;exact ih h
structure CompOk(sc scope:Scope)(x:Str)(ns:List Str)(cap:List Nat)(N:List Str):Prop where
 hkind:scope.kind = .function
 hnames:∀y∈scope.names,y.2 = .local->scope.names.lookup y.1=some .local
 hx:scope.names.lookup x=some .local\/scope.names.lookup x=some .cell
 hNc:(x::ns).Nodup
 hlen:cap.length=ns.length
 hcap:∀(j k:Nat) (nm:Str),cap[j]?=some k->ns[j]?=some nm->N[k]?=some nm/\(sc.names.lookup nm=some .cell\/sc.names.lookup nm=some .free)
 hns:∀nm∈ns,(nm,ju)∈scope.names/\(nm,vo)∉scope.names
 hnsk:∀nm∈ns,scope.names.lookup nm=some .free
 hfree:∀y∈scope.names,y.2 = .free->sc.names.lookup y.1=some .cell\/sc.names.lookup y.1=some .free
theorem kL{sc:Scope}{cap:List Nat}(h:iK sc scope x ns cap N=true):CompOk sc scope x ns cap N:=by
 unfold iK at h
 simp only[qp,zq,decide_eq_true_eq,jy] at h
 obtain⟨⟨⟨⟨⟨⟨⟨h1,h2⟩,h3⟩,h4⟩,h5⟩,h6⟩,h7⟩,h8⟩:=h
 refine⟨h1,λy hy e=>(h2 y hy).resolve_left (λz=>z e),h3,h4,h5,λj k nm e1 e2 => ?_,λnm hm=>(h7 nm hm).1,λnm hm=>(h7 nm hm).2,λy hy e=>(h8 y hy).resolve_left (λz=>z e)⟩
 have hj:j<cap.length:=(zGs e1).1
 have:=h6 j (ve.mpr hj)
 rw[e1,e2] at this
 simpa using this
theorem aDJ{sc:Scope}(ns:List Str)(cap:List Nat)(hc:X.calm=true)(hsc:X.env.scope=sc)(hN:X.N=N)(ok:iK sc scope x ns cap N=true)(hi:PI X (.Name x px) iter wi)(ht:∀cs C s₀ H₀ fp,PIf fp.11 ifs tt)(he:∀cs C s₀ H₀ fp,PE fp.11 elt te)(hs:∀v,foldedSetIterable iter X.env v=pure v:=by intro _;rfl):
  PE X '+' (oH wi cap tt te):=by
 subst hsc hN
 have k:=kL ok
 refine aGB hc k.hkind k.hnames ?_ ?_ k.hNc k.hlen k.hcap k.hns k.hnsk k.hfree hi ht he hs
 ·rcases k.hx with z|z
  ·exact .inl (ye z)
  ·exact .inr (dU z)
 ·rcases k.hx with z|z
  ·exact .inr (ye z)
  ·exact .inl z
theorem wJ(iy:Nat){sc:Scope}(ns:List Str)(cap:List Nat)(hNd:N.Nodup)(hiy:N[iy]?=some y)(hyl:sc.names.lookup y=some .local)(hc:X.calm=true)(hsc:X.env.scope=sc)(hN:X.N=N)(ok:iK sc scope x ns cap N=true)(hi:PI X (.Name x px) iter wi)(ht:∀cs C s₀ H₀ fp,PIf fp.11 ifs tt)(he:∀cs C s₀ H₀ fp,PE fp.11 elt te)(hs:∀v,foldedSetIterable iter X.env v=pure v:=by intro _;rfl)(hsw:mq '+' (some (.Name y py)) spos.line X.env=pure true:=by rfl):
  PS X (.Assign [.Name y py] '+' spos) (yZ (oH wi cap tt te) (lV iy)):=by
 subst hsc hN
 have k:=kL ok
 refine aAH hNd hiy hyl hc k.hkind k.hnames ?_ ?_ k.hNc k.hlen k.hcap k.hns k.hnsk k.hfree hi ht he hs hsw
 ·rcases k.hx with z|z
  ·exact .inl (ye z)
  ·exact .inr (dU z)
 ·rcases k.hx with z|z
  ·exact .inr (ye z)
  ·exact .inl z
end L2
namespace R
open PySem L2
theorem BS:jv "str" = some (.type "str"):=by decide +kernel
theorem BL:jv "list" = some (.type "list"):=by decide +kernel
theorem BAll:jv "all" = some (.builtin "all"):=by decide +kernel
theorem BMax:jv "max" = some (.builtin "max"):=by decide +kernel
theorem BAny:jv "any" = some (.builtin "any"):=by decide +kernel
structure Bn2(mg:Str->Option Value):Prop where
 str:mg "str" = none
 list:mg "list" = none
 all:mg "all" = none
 any:mg "any" = none
 max:mg "max" = none
 enum:mg "enumerate" = none
theorem aEW(c:Nat):(!(x4 ("#." : Str) ⟨#[c]⟩ 0 ("#." : Str).length 1).isEmpty)=(c==35||c==46):=by
 by_cases h1:c=35
 ·subst h1;decide +kernel
 by_cases h2:c=46
 ·subst h2;decide +kernel
 have e:("#." : Str)=⟨#[35,46]⟩:=by decide +kernel
 rw[e]
 have a0:cq (⟨#[35,46]⟩:Str) ⟨#[c]⟩ 0=false:=by
  simp[cq,gu]
  lia
 have a1:cq (⟨#[35,46]⟩:Str) ⟨#[c]⟩ 1=false:=by
  simp[cq,gu]
  lia
 simp[x4,gu,JW,JV,List.range',a0,a1,h1,h2]
noncomputable def sgn(c:Nat):Bool:=c==35||c==46
noncomputable def eN(wide:Int):V->Bool
 |.str z=>decide ((z.length:Int)=wide)&&z.cps.toList.all sgn
 |_=>false
theorem aX(h:n<=1000000):n<=sizeLine:=jf h '*'
abbrev Sq(K:qf)(H:Hp)(a:Addr)(xs:List V):Prop:=SqL K H a xs\/SqT K H a xs
theorem aGI{u:HO}(s:Same H H')(h:Rd H a u):Rd H' a u:=by
 rcases h with h|⟨o,h⟩
 ·exact .inl (s _ _ h)
 ·exact .inr ⟨o,s _ _ h⟩
theorem iU{K:qf}{xs:List V}(s:Same H H')(h:SqT K H a xs):SqT K H' a xs:=h.imp (aGI s) id
noncomputable def fX(us:List V)(na nb:Nat):Bool:=decide (us.length=nb-1)&&us.all (eN ((na-1:Nat):Int))
noncomputable def ofL(l:List Nat):Str:=⟨l.toArray⟩
noncomputable def atS(z:Str)(j:Nat):Nat:=z.cps.getD j 0
theorem sA:∀(ps:List Str) (acc:Array Nat),(ps.foldl (λacc p=>acc++(w4).cps++p.cps) acc).toList=acc.toList++(ps.map (·.cps.toList)).flatten
 |[],acc=>by simp
 |p::ps,acc=>by
  rw[JT,sA ps]
  simp[w4]
theorem join_list(ps:List Str):(Kq w4 ps).cps.toList=(ps.map (·.cps.toList)).flatten:=by
 cases ps with
 |nil=>rfl
 |cons p ps =>
  show (((p::ps).drop 1).foldl (λacc p=>acc++(w4).cps++p.cps) ((p::ps).headD w4).cps).toList=_
  rw[sA]
  simp
theorem jZ(l:List Nat):Kq w4 (l.map λc=>(⟨#[c]⟩:Str))=ofL l:=by
 apply iQ
 rw[join_list]
 simp only[ofL,vj]
 induction l with
 |nil=>rfl
 |cons a l ih=>rw[vy,bj,ih];rfl
theorem lA(l:List Nat):(ofL l).length=l.length:=by simp[ofL,gu]
theorem pQ{z:Str}(h:j<z.length):atI z.cps.toList (j:Int)=some (atS z j):=by
 have h':j<z.cps.size:=h
 refine dA ?_
 simp[atS,h',K3]
noncomputable def aE(zs:List Str):List Str:=(qy ((zs.head?.map (·.length)).getD 0)).map λj=>ofL (zs.map (atS · j))
theorem aKB{K:qf}{p:Addr}{xs:List V}{i:Int}{Q:VK}(h:Sq K H p xs)(e:atI xs i=some v)(q:Q v H):rIx K (.ref p) (.int i) H Q:=by
 rcases h with h|h
 ·exact .inl ⟨p,xs,i,v,rfl,rfl,h,e,q⟩
 ·exact .inr (.inl ⟨p,xs,i,v,rfl,rfl,h,e,q⟩)
theorem gA:("" : Str)=w4:=by decide +kernel
noncomputable def dots(n:Nat):Str:=ofL (kr n 46)
theorem r0(n:Nat):kE "." n=dots n:=by
 apply iQ
 rw[kH]
 have e:("." : Str).cps.toList=[46]:=by decide +kernel
 rw[e]
 show _=(kr n 46)
 induction n with
 |zero=>rfl
 |succ n ih=>rw[yf,bj,ih,yf];rfl
noncomputable def framed(zs:List Str):List Str:=[dots ((zs.head?.map (·.length)).getD 0)]++zs++[dots ((zs.head?.map (·.length)).getD 0)]
noncomputable def chg(zs:List Str):List Nat:=if zs.isEmpty then [] else (qy (zs.length+1)).filter λi => !decide ((framed zs)[i]?=(framed zs)[i+1]?)
theorem jR(zs:List Str):(framed zs).length=zs.length+2:=by simp[framed]
theorem eH(zs:List Str):∀i∈chg zs,i<=zs.length:=λi hi=>by
 unfold chg at hi
 split at hi
 ·cases hi
 ·have:=ve.mp (gf.mp hi).1
  lia
theorem b8(zs:List Str):(chg zs).Pairwise (· < ·):=by
 unfold chg
 split
 ·exact zf
 ·exact KL _ fu
theorem xW(zs:List Str):(chg zs).length<=zs.length+1:=by
 unfold chg
 split
 ·simp
 ·exact jf (bw _ _) '$'
theorem i0{l:List Nat}(h:l.Pairwise (· < ·))(b:∀i∈l,i<=n):∀i∈l.dropLast,i<n:=λi hi=>by
 have hne:l≠[]:=λe=>by rw[e] at hi;cases hi
 have e:=tm hne
 rw[<- e] at h
 have h1:=(y8.mp h).2.2 i hi (l.getLast hne) '$'
 have h2:=b _ (List.getLast_mem hne)
 lia
theorem nN(zs:List Str)(h:chg zs≠[]):zs≠[]:=λe=>h (by rw[e];rfl)
noncomputable def b4(zs:List Str):List Str:=(chg zs).dropLast.map λi=>ofL ((chg (aE zs)).dropLast.map (atS (zs.getD i w4)))
theorem o6(h:∀z∈zs,z.length=n):(aE zs).length<=n/\(zs≠[]->(aE zs).length=n):=by
 unfold aE
 rw[zLm,x8]
 cases zs with
 |nil=>exact⟨vw _,λe=>absurd rfl e⟩
 |cons z zr =>
  have:=h z '$'
  exact⟨by show z.length<=n;lia,λ_=>this⟩
theorem gB:∀z∈aE zs,z.length=zs.length:=λz hz=>by
 obtain⟨j,_,rfl⟩:=qw.mp hz
 rw[lA,zLm]
noncomputable def aK2:V->Bool
 |.int i=>decide (-1000000000<=i)&&decide (i<=1000000000)
 |_=>false
noncomputable def ltV:V->V->Bool
 |.int a, .int b=>decide (a<b)
 |_,_=>false
noncomputable def aHQ(xs:List V):Bool:=(qy (xs.length-1)).all λi=>ltV (xs.getD i .non) (xs.getD (i+1) .non)
noncomputable def aIX(xs:List V):Bool:=decide (xs.length<=7)&&(xs.all aK2&&aHQ xs)
noncomputable def dS(H:Hp):V->Bool
 |.ref a=>(match H a with
  |some (.lst xs)=>aIX xs
  |_=>false)
 |_=>false
structure KnL(K:qf)(H:Hp)(v:V):Prop where
 kn:Kn K H v
 each:∀a xs,v = .ref a->H a=some (.lst xs)->∀x∈xs,Kn K H x
theorem aHW{n:Int}(h:eN n v=true):∃z:Str,v = .str z/\(z.length:Int)=n/\z.cps.toList.all sgn=true:=by
 cases v with
 |str z =>
  simp only[eN,qp,decide_eq_true_eq] at h
  exact⟨z,rfl,h.1,h.2⟩
 |_=>cases h
theorem all_rows:∀{us:List V},us.all (eN (n:Int))=true->∃zs:List Str,us=zs.map V.str/\(∀z∈zs,z.length=n/\z.cps.toList.all sgn=true)
 |[],_=>⟨[],rfl,λ_ h=>(nomatch h)⟩
 |x::xs,h=>by
  rw[cm,qp] at h
  obtain⟨z,rfl,hz,hs⟩:=aHW h.1
  obtain⟨zs,rfl,hzs⟩:=all_rows h.2
  exact⟨z::zs,rfl,λy hy=>by
   rcases qe.mp hy with e|e
   ·subst e;exact⟨by lia,hs⟩
   ·exact hzs y e⟩
end R
namespace L2
open PySem PySem.Spec PyProof.Rows
section
end
end L2
namespace L2
open PySem PySem.Spec PyProof.Rows
noncomputable def aFP:V->Bool
 |.ref _=>true
 |.non=>true
 |.bl _=>true
 |.int _=>true
 |.str _=>true
 |_=>false
theorem q5{xs:List V}(r:Vals xs us)(h:j<us.toArray.size):∃x,xs[j]?=some x/\RelV x us.toArray[j]:=by
 have l:=r.length
 rw[qc] at h
 have g:xs[j]?=some (xs[j]' '!'):=by simp
 obtain⟨u,eu,ru⟩:=r.get g
 refine⟨_,g,?_⟩
 have:us.toArray[j]=u:=by
  rw[zGe h] at eu
  simpa using eu
 rw[this]
 exact ru
theorem all_true(n:Nat):((qy n).all λ_=>true)=true:=jy.mpr λ_ _=>rfl
inductive Alike(K:qf)(H:Hp):V->V->Prop
 |one {v:V} (h:aFP v=true):Alike K H v v
 |lists {a b:Addr}{xs:List V} (ha:SqL K H a xs) (hb:SqL K H b xs) (h:xs.all aFP=true):Alike K H (.ref a) (.ref b)
section
end
end L2
namespace L2
open PySem PySem.Spec PyProof.Rows
section
variable {to:TE}{t:TA}{T id:String}
end
end L2
namespace Z
open PySem L2
inductive D where
 |non|bl (b:Bool)|int (i:Int)|str (x:Str)|mt (a:Addr)|tup (ds:List D)|lst (ds:List D)|fl (ds:List D)|st (ks:List (List Int))
abbrev Fg:=qf
noncomputable def aK1(k:List Int):Int:=reduceHash (KN (k.map hashInt))
noncomputable def entS(p:List Int×Addr):DictEntry:={hash:=aK1 p.1,key := .ref p.2,val := .bool true}
noncomputable def DSt(a:Addr)(xs:List (List Int×Addr))(ep:Nat)(h:Heap):Prop:=(a==dj)=false/\∃o,h.get? a=some o/\o.ExactDict/\o.data = .dict (xs.map entS).toArray ep
structure StO(K:Fg)(G:Hp)(o:Option HO)(a:Addr)(ks:List (List Int))(xs:List (List Int×Addr))(ep:Nat):Prop where
 nd:ks.Nodup
 len:ks.length<=sizeLine
 keys:xs.map (·.1)=ks
 at_:∀p∈xs,SqT K G p.2 (p.1.map V.int)
 ob:o=some (.ext (DSt a xs ep))
theorem StO.mv{K:Fg}{o o':Option HO}{ks:List (List Int)}{xs:List (List Int×Addr)}(h:StO K G o a ks xs ep)(s:Same G G')(e:o'=o):StO K G' o' a ks xs ep:=
 ⟨h.nd,h.len,h.keys,λp hp=>R.iU s (h.at_ p hp),e.trans h.ob⟩
mutual
noncomputable def Den(K:Fg)(G:Hp):D->V->Prop
 |.non,v=>v = .non
 |.bl b,v=>v = .bl b
 |.int i,v=>v = .int i
 |.str x,v=>v = .str x
 |.mt a,v=>v = .ref a
 |.tup ds,v=>∃a vs,v = .ref a/\SqT K G a vs/\Dens K G ds vs
 |.lst ds,v=>∃a vs,v = .ref a/\G a=some (.lst vs)/\Dens K G ds vs
 |.fl ds,v=>∃a vs,v = .ref a/\SqL K G a vs/\Dens K G ds vs
 |.st ks,v=>∃a xs ep,v = .ref a/\StO K G (G a) a ks xs ep
noncomputable def Dens(K:Fg)(G:Hp):List D->List V->Prop
 |[],vs=>vs=[]
 |d::ds,vs=>∃v r,vs=v::r/\Den K G d v/\Dens K G ds r
end
mutual
theorem Den.mono{K:Fg}(s:Same G G'):∀(d:D) {v:V},Den K G d v->Den K G' d v
 |.non,_,h=>by simp only[Den] at h ⊢;exact h
 |.bl _,_,h=>by simp only[Den] at h ⊢;exact h
 |.int _,_,h=>by simp only[Den] at h ⊢;exact h
 |.str _,_,h=>by simp only[Den] at h ⊢;exact h
 |.mt _,_,h=>by simp only[Den] at h ⊢;exact h
 |.tup ds,_,h=>by
  simp only[Den] at h ⊢
  obtain⟨a,vs,e,q,r⟩:=h
  exact⟨a,vs,e,R.iU s q,Dens.mono s ds r⟩
 |.lst ds,_,h=>by
  simp only[Den] at h ⊢
  obtain⟨a,vs,e,q,r⟩:=h
  exact⟨a,vs,e,s _ _ q,Dens.mono s ds r⟩
 |.fl ds,_,h=>by
  simp only[Den] at h ⊢
  obtain⟨a,vs,e,q,r⟩:=h
  exact⟨a,vs,e,s.seq q,Dens.mono s ds r⟩
 |.st ks,_,h=>by
  simp only[Den] at h ⊢
  obtain⟨a,xs,ep,e,q⟩:=h
  exact⟨a,xs,ep,e,q.mv s ((s _ _ q.ob).trans q.ob.symm)⟩
theorem Dens.mono{K:Fg}(s:Same G G'):∀(ds:List D) {vs:List V},Dens K G ds vs->Dens K G' ds vs
 |[],_,h=>by simp only[Dens] at h ⊢;exact h
 |d::ds,_,h=>by
  simp only[Dens] at h ⊢
  obtain⟨v,r,e,h1,h2⟩:=h
  exact⟨v,r,e,Den.mono s d h1,Dens.mono s ds h2⟩
end
theorem Den.up{K:Fg}{d:D}(h:Den K G d v)(s:Same G G'):Den K G' d v:=Den.mono s d h
theorem Dens.up{K:Fg}{ds:List D}{vs:List V}(h:Dens K G ds vs)(s:Same G G'):Dens K G' ds vs:=Dens.mono s ds h
theorem cD{K:Fg}:Dens K G [] []:=by simp only[Dens]
theorem b5{K:Fg}{d:D}{ds:List D}{vs:List V}(h:Den K G d v)(r:Dens K G ds vs):Dens K G (d::ds) (v::vs):=by
 simp only[Dens];exact⟨v,vs,rfl,h,r⟩
theorem bX{K:Fg}{d:D}{ds:List D}{vs:List V}(h:Dens K G (d::ds) vs):∃v r,vs=v::r/\Den K G d v/\Dens K G ds r:=by simp only[Dens] at h;exact h
theorem cK{K:Fg}{vs:List V}(h:Dens K G [] vs):vs=[]:=by simp only[Dens] at h;exact h
theorem Dens.len{K:Fg}:∀{ds:List D}{vs:List V},Dens K G ds vs->ds.length=vs.length
 |[],_,h=>by rw[cK h];rfl
 |d::ds,_,h=>by
  obtain⟨v,r,rfl,_,h2⟩:=bX h
  rw[jb,jb,Dens.len h2]
theorem Dens.get{K:Fg}:∀{ds:List D}{vs:List V}{i:Nat}{d:D},Dens K G ds vs->ds[i]?=some d->∃v,vs[i]?=some v/\Den K G d v
 |[],_,_,_,_,e=>by simp at e
 |d0::ds,_,0,d,h,e=>by
  obtain⟨v,r,rfl,h1,_⟩:=bX h
  simp at e;subst e
  exact⟨v,rfl,h1⟩
 |d0::ds,_,i+1,d,h,e=>by
  obtain⟨v,r,rfl,_,h2⟩:=bX h
  obtain⟨u,a,b⟩:=Dens.get (i:=i) h2 (by simpa using e)
  exact⟨u,by simpa using a,b⟩
theorem Dens.get'{K:Fg}:∀{ds:List D}{vs:List V}{i:Nat}{v:V},Dens K G ds vs->vs[i]?=some v->∃d,ds[i]?=some d/\Den K G d v:=λ{ds vs i v} h e=>by
 have hi:i<vs.length:=(zGs e).1
 rw[<- h.len] at hi
 have e2:ds[i]?=some ds[i]:=by simp[hi]
 obtain⟨u,a,b⟩:=h.get e2
 rw[e] at a;cases a
 exact⟨_,e2,b⟩
theorem Dens.append{K:Fg}:∀{ds es:List D}{vs ws:List V},Dens K G ds vs->Dens K G es ws->Dens K G (ds++es) (vs++ws)
 |[],_,_,_,h,r=>by rw[cK h];exact r
 |d::ds,_,_,_,h,r=>by
  obtain⟨v,t,rfl,h1,h2⟩:=bX h
  exact b5 h1 (Dens.append h2 r)
theorem Dens.take{K:Fg}:∀{ds:List D}{vs:List V} (n:Nat),Dens K G ds vs->Dens K G (ds.take n) (vs.take n)
 |_,_,0,_=>by simp only[List.take_zero];exact cD
 |[],_,n+1,h=>by rw[cK h];exact cD
 |d::ds,_,n+1,h=>by
  obtain⟨v,t,rfl,h1,h2⟩:=bX h
  exact b5 h1 (Dens.take n h2)
theorem Dens.drop{K:Fg}:∀{ds:List D}{vs:List V} (n:Nat),Dens K G ds vs->Dens K G (ds.drop n) (vs.drop n)
 |_,_,0,h=>h
 |[],_,n+1,h=>by rw[cK h];exact cD
 |d::ds,_,n+1,h=>by
  obtain⟨v,t,rfl,h1,h2⟩:=bX h
  exact Dens.drop n h2
theorem Dens.set{K:Fg}{d:D}(e:Den K G d v):∀{ds:List D}{vs:List V} (i:Nat),Dens K G ds vs->Dens K G (ds.set i d) (vs.set i v)
 |[],_,_,h=>by rw[cK h];exact cD
 |d0::ds,_,0,h=>by
  obtain⟨u,t,rfl,h1,h2⟩:=bX h
  exact b5 e h2
 |d0::ds,_,i+1,h=>by
  obtain⟨u,t,rfl,h1,h2⟩:=bX h
  exact b5 h1 (Dens.set e i h2)
theorem Dens.atI{K:Fg}{ds:List D}{vs:List V}{i:Int}{d:D}(h:Dens K G ds vs)(e:atI ds i=some d):∃v,L2.atI vs i=some v/\Den K G d v:=by
 unfold L2.atI at e ⊢
 rw[<- h.len]
 cases hj:ixN ds.length i with
 |none=>rw[hj] at e;cases e
 |some j =>
  rw[hj] at e
  exact h.get e
theorem Dens.of_map{K:Fg}{α:Type}{f:α->D}{g:α->V}(h:∀x,Den K G (f x) (g x)):∀xs:List α,Dens K G (xs.map f) (xs.map g)
 |[]=>cD
 |x::xs=>b5 (h x) (Dens.of_map h xs)
inductive MO where
 |lst (ds:List D)
 |st (ks:List (List Int))
 |ob (o:HO)
abbrev Mem:=Addr->Option MO
noncomputable def bZ(M:Mem)(a:Addr)(o:MO):Mem:=λb=>if b=a then some o else M b
noncomputable def j5(M:Mem)(a:Addr):Mem:=λb=>if b=a then none else M b
theorem aT{M:Mem}{o:MO}:bZ M a o a=some o:=by unfold bZ;rw[if_pos rfl]
theorem cL{M:Mem}{b:Addr}{o:MO}(h:b≠a):bZ M a o b=M b:=by unfold bZ;rw[if_neg h]
theorem rR{M:Mem}{o u:MO}:bZ (bZ M a o) a u=bZ M a u:=by
 funext b;unfold bZ;split <;> rfl
theorem aB5{M:Mem}:j5 M a a=none:=by unfold j5;rw[if_pos rfl]
theorem kT{M:Mem}{b:Addr}(h:b≠a):j5 M a b=M b:=by unfold j5;rw[if_neg h]
noncomputable def Le(M M':Mem):Prop:=∀a o,M a=some o->M' a=some o
theorem Le.refl(M:Mem):Le M M:=λ_ _ h=>h
theorem Le.upd{M M':Mem}{o:MO}(h:Le M M')(n:M a=none):Le M (bZ M' a o):=λb u e=>by
 rw[cL (λz=>by rw[z,n] at e;cases e)];exact h b u e
noncomputable def MOk(K:Fg)(G H:Hp)(a:Addr):MO->Prop
 |.lst ds=>∃vs,H a=some (.lst vs)/\Dens K G ds vs
 |.st ks=>∃xs ep,StO K G (H a) a ks xs ep
 |.ob o=>H a=some o
theorem MOk.mv{K:Fg}{m:MO}(h:MOk K G H a m)(s:Same G G')(e:H' a=H a):MOk K G' H' a m:=by
 cases m with
 |lst ds=>obtain⟨vs,e1,e2⟩:=h;exact⟨vs,e.trans e1,e2.up s⟩
 |st ks=>obtain⟨xs,ep,q⟩:=h;exact⟨xs,ep,q.mv s e⟩
 |ob o=>exact e.trans h
structure Rel(K:Fg)(G H:Hp)(M:Mem):Prop where
 same:Same G H
 mem:∀a o,M a=some o->G a=none/\MOk K G H a o
structure Stp(K:Fg)(G H:Hp)(M:Mem)(G' H':Hp)(M':Mem):Prop where
 gg:Same G G'
 rel:Rel K G' H' M'
 fr:∀a o,H a=some o->G a=none->M a=none->H' a=some o/\G' a=none/\M' a=none
theorem Stp.refl{K:Fg}{M:Mem}(r:Rel K G H M):Stp K G H M G H M:=⟨Same.refl G,r,λ_ _ h h1 h2=>⟨h,h1,h2⟩⟩
theorem Stp.trans{K:Fg}{G1 G2 H2:Hp}{M M1 M2:Mem}(a:Stp K G H M G1 H1 M1)(b:Stp K G1 H1 M1 G2 H2 M2):Stp K G H M G2 H2 M2:=
 ⟨a.gg.trans b.gg,b.rel,λc o h h1 h2=>let ⟨x,y,z⟩:=a.fr c o h h1 h2;b.fr c o x y z⟩
theorem Rel.le{K:Fg}{M M':Mem}(r:Rel K G H M)(l:Le M' M):Rel K G H M':=⟨r.same,λa o h=>r.mem a o (l a o h)⟩
theorem Rel.got{K:Fg}{M:Mem}{o:MO}(r:Rel K G H M)(h:M a=some o):∃u,H a=some u:=by
 cases o with
 |lst ds=>obtain⟨_,vs,e,_⟩:=r.mem a _ h;exact⟨_,e⟩
 |st ks=>obtain⟨_,xs,ep,q⟩:=r.mem a _ h;exact⟨_,q.ob⟩
 |ob o=>exact⟨o,(r.mem a _ h).2⟩
theorem Rel.free{K:Fg}{M:Mem}{p:Addr}(r:Rel K G H M)(h:H p=none):G p=none/\M p=none:=by
 refine⟨r.same.free h,?_⟩
 cases e:M p with
 |none=>rfl
 |some o=>obtain⟨u,q⟩:=r.got e;rw[h] at q;cases q
theorem Rel.new{K:Fg}{M:Mem}{p:Addr}{o:HO}(r:Rel K G H M)(h:H p=none):Stp K G H M (upd G p o) (upd H p o) M:=by
 have hG:=(r.free h).1
 have s1:Same G (upd G p o):=sN hG
 refine⟨s1,⟨λb u e => ?_,λa m e => ?_⟩,λa u e1 e2 e3 => ?_⟩
 ·by_cases z:b=p
  ·subst z;rw[bF] at e ⊢;exact e
  ·rw[aU z] at e ⊢;exact r.same b u e
 ·obtain⟨u,q⟩:=r.got e
  have z:a≠p:=bH q h
  refine⟨by rw[aU z];exact (r.mem a m e).1,?_⟩
  exact (r.mem a m e).2.mv s1 (aU z)
 ·have z:a≠p:=bH e1 h
  exact⟨by rw[aU z];exact e1,by rw[aU z];exact e2,e3⟩
theorem Rel.newM{K:Fg}{M:Mem}{p:Addr}{vs:List V}{ds:List D}(r:Rel K G H M)(h:H p=none)(e:Dens K G ds vs):Stp K G H M G (upd H p (.lst vs)) (bZ M p (.lst ds)):=by
 have hG:=(r.free h).1
 refine⟨Same.refl G,⟨λb u q => ?_,λa m q => ?_⟩,λa u e1 e2 e3 => ?_⟩
 ·rw[aU (bH q hG)];exact r.same b u q
 ·by_cases z:a=p
  ·subst z
   rw[aT] at q;cases q
   exact⟨hG,vs,bF,e⟩
  ·rw[cL z] at q
   refine⟨(r.mem a m q).1,?_⟩
   exact (r.mem a m q).2.mv (Same.refl G) (aU z)
 ·have z:a≠p:=bH e1 h
  exact⟨by rw[aU z];exact e1,e2,by rw[cL z];exact e3⟩
theorem Rel.wr{K:Fg}{M:Mem}{p:Addr}{vs:List V}{ds:List D}{o:MO}(r:Rel K G H M)(h:M p=some o)(e:Dens K G ds vs):Stp K G H M G (upd H p (.lst vs)) (bZ M p (.lst ds)):=by
 have hG:=(r.mem p _ h).1
 refine⟨Same.refl G,⟨λb u q => ?_,λa m q => ?_⟩,λa u e1 e2 e3 => ?_⟩
 ·rw[aU (bH q hG)];exact r.same b u q
 ·by_cases z:a=p
  ·subst z
   rw[aT] at q;cases q
   exact⟨hG,vs,bF,e⟩
  ·rw[cL z] at q
   refine⟨(r.mem a m q).1,?_⟩
   exact (r.mem a m q).2.mv (Same.refl G) (aU z)
 ·have z:a≠p:=λz=>by rw[z,h] at e3;cases e3
  exact⟨by rw[aU z];exact e1,e2,by rw[cL z];exact e3⟩
theorem Rel.frz{K:Fg}{M:Mem}{ds:List D}(r:Rel K G H M)(h:M a=some (.lst ds)):∃vs,H a=some (.lst vs)/\Dens K G ds vs/\Stp K G H M (upd G a (.lst vs)) H (j5 M a):=by
 obtain⟨hG,vs,e,q⟩:=r.mem a _ h
 have s1:Same G (upd G a (.lst vs)):=sN hG
 refine⟨vs,e,q,s1,⟨λb u z => ?_,λb m z => ?_⟩,λb u e1 e2 e3 => ?_⟩
 ·by_cases y:b=a
  ·subst y;rw[bF] at z;cases z;exact e
  ·rw[aU y] at z;exact r.same b u z
 ·by_cases y:b=a
  ·subst y;rw[aB5] at z;cases z
  ·rw[kT y] at z
   refine⟨by rw[aU y];exact (r.mem b m z).1,?_⟩
   exact (r.mem b m z).2.mv s1 rfl
 ·have y:b≠a:=λy=>by rw[y,h] at e3;cases e3
  exact⟨e1,by rw[aU y];exact e2,by rw[kT y];exact e3⟩
theorem Rel.drop{K:Fg}{M M':Mem}(r:Rel K G H M)(l:Le M' M):Stp K G H M G H M':=
 ⟨Same.refl G,r.le l,λa o h1 h2 h3=>⟨h1,h2,by
  cases e:M' a with
  |none=>rfl
  |some u=>rw[l a u e] at h3;cases h3⟩⟩
abbrev Gm:=List (Option D)
structure EnvR(K:Fg)(G:Hp)(Γ:Gm)(σ:St):Prop where
 len:Γ.length=σ.length
 get:∀(i:Nat) (d:D),Γ[i]?=some (some d)->∃v,σ[i]?=some (some v)/\Den K G d v
theorem EnvR.up{K:Fg}{Γ:Gm}(h:EnvR K G Γ σ)(s:Same G G'):EnvR K G' Γ σ:=
 ⟨h.len,λi d e=>let ⟨v,a,b⟩:=h.get i d e;⟨v,a,b.up s⟩⟩
theorem EnvR.set{K:Fg}{Γ:Gm}(h:EnvR K G Γ σ){d:D}(e:Den K G d v)(i:Nat):EnvR K G (Γ.set i (some d)) (σ.set i (some v)):=by
 refine⟨by rw[tw,tw,h.len],λj c q => ?_⟩
 rw[Jq] at q ⊢
 by_cases z:i=j
 ·rw[if_pos z] at q ⊢
  split at q
  ·rename_i hl
   rw[if_pos (by rw[<- h.len];exact hl)]
   cases q
   exact⟨v,rfl,e⟩
  ·cases q
 ·rw[if_neg z] at q ⊢
  exact h.get j c q
theorem EnvR.start{K:Fg}{ds:List D}{vs:List V}(h:Dens K G ds vs)(n:Nat):EnvR K G (ds.map some++kr (n-ds.length) none) (vs.map some++kr (n-vs.length) none):=by
 have hl:=h.len
 refine⟨by simp[hl],λi d e => ?_⟩
 by_cases hi:i<ds.length
 ·rw[zc (by simpa using hi),qg] at e
  rw[zc (by simp;omega),qg]
  cases q:ds[i]? with
  |none=>rw[q] at e;cases e
  |some c =>
   rw[q] at e;cases e
   obtain⟨v,a,b⟩:=h.get q
   exact⟨v,by rw[a];rfl,b⟩
 ·rw[de (by simpa using hi),zu] at e
  split at e <;> cases e
noncomputable def tU(X:Cx)(e:Expr):TE:=λσ H Q=>∀pins s,Inv X pins σ H s->jd X.w.8 X.A (eval e X.env) (EP X pins σ Q) X.xe s
theorem pU:PE X e (tU X e):=λpins s σ H Q I h=>h pins s I
theorem cB{t:TE}(p:PE X e t){Q:VK}(h:t σ H Q):tU X e σ H Q:=λpins s I=>p pins s σ H Q I h
noncomputable def tUT(X:Cx)(e:Expr):TT:=λσ H Q=>∀pins s,Inv X pins σ H s->jd X.w.8 X.A (isTrue e X.env (eval e X.env)) (TP X pins σ Q) X.xe s
theorem pUT:PT X e (tUT X e):=λpins s σ H Q I h=>h pins s I
theorem pZ{t:TT}(p:PT X e t){Q:Bool->Hp->Prop}(h:t σ H Q):tUT X e σ H Q:=λpins s I=>p pins s σ H Q I h
noncomputable def tUW(X:Cx)(e:Expr):TT:=λσ H Q=>∀whole pins s,Inv X pins σ H s->jd X.w.8 X.A (isTrue e X.env whole) (TP X pins σ Q) X.xe s
theorem pUW:PW X e (tUW X e):=λwhole pins s σ H Q I h=>h whole pins s I
theorem p0{t:TT}(p:PW X e t){Q:Bool->Hp->Prop}(h:t σ H Q):tUW X e σ H Q:=λwhole pins s I=>p whole pins s σ H Q I h
noncomputable def tUA(X:Cx)(es:List Expr):TA:=λσ H Q=>∀pos pins s,Inv X pins σ H s->jd X.w.8 X.A (spliced (dt pos (je es X.env))) (AP X pins σ Q) X.xe s
theorem pUA:PA X es (tUA X es):=λpos pins s σ H Q I h=>h pos pins s I
theorem aC5{t:TA}(p:PA X es t){Q:List V->Hp->Prop}(h:t σ H Q):tUA X es σ H Q:=λpos pins s I=>p pos pins s σ H Q I h
noncomputable def tUS(X:Cx)(st:Stmt):TS:=λE σ H=>∀pins s,Inv X pins σ H s->jd X.w.8 X.A (exec st X.env) (SP X pins E) X.xe s
theorem pUS:PS X st (tUS X st):=λpins s σ H E I h=>h pins s I
theorem jG{t:TS}(p:PS X st t){E:Ends}(h:t E σ H):tUS X st E σ H:=λpins s I=>p pins s σ H E I h
noncomputable def aEX(X:Cx)(st:List Stmt):TS:=λE σ H=>∀pins s,Inv X pins σ H s->jd X.w.8 X.A (execs st X.env) (SP X pins E) X.xe s
theorem rH{st:List Stmt}:PSs X st (aEX X st):=λpins s σ H E I h=>h pins s I
theorem rE{st:List Stmt}{t:TS}(p:PSs X st t){E:Ends}(h:t E σ H):aEX X st E σ H:=λpins s I=>p pins s σ H E I h
noncomputable def tUG(X:Cx)(tg:Expr):TG:=λv σ H Q=>∀pins s u,Inv X pins σ H s->RelV v u->jd X.w.8 X.A (assign tg X.env u) (λ_ s'=>∃σ' H',Inv X pins σ' H' s'/\Q σ' H') X.xe s
theorem pUG:PG X tg (tUG X tg):=λpins s σ H v u Q I r h=>h pins s u I r
theorem nJ{t:TG}(p:PG X tg t){Q:St->Hp->Prop}(h:t v σ H Q):tUG X tg v σ H Q:=λpins s u I r=>p pins s σ H v u Q I r h
noncomputable def aFE(X:Cx)(tg:List Expr):TGs:=λvs σ H Q=>∀pins s us,Inv X pins σ H s->Vals vs us->jd X.w.8 X.A (Q9 ((xm tg X.env).map (·.2)) us) (λ_ s'=>∃σ' H',Inv X pins σ' H' s'/\Q σ' H') X.xe s
theorem aE5{tg:List Expr}:PGs X tg (aFE X tg):=λpins s σ H vs us Q I r h=>h pins s us I r
theorem xK{tg:List Expr}{t:TGs}(p:PGs X tg t){vs:List V}{Q:St->Hp->Prop}(h:t vs σ H Q):aFE X tg vs σ H Q:=λpins s us I r=>p pins s σ H vs us Q I r h
noncomputable def tUI(X:Cx)(tg iter:Expr):TI:=λσ H R=>∀pins s,Inv X pins σ H s->jd X.w.8 X.A (eval iter X.env) (λv s1=>jd X.w.8 X.A (Ju v) (PIE X pins σ tg R) X.xe s1) X.xe s
theorem pUI:PI X tg iter (tUI X tg iter):=λpins s σ H R I h=>h pins s I
theorem kW{t:TI}(p:PI X tg iter t){R:It->Hp->Prop}(h:t σ H R):tUI X tg iter σ H R:=λpins s I=>p pins s σ H R I h
noncomputable def Cont(K:Fg)(M:Mem)(k:D->Mem->Prop)(G H:Hp)(Q:VK):Prop:=∀v G' H' d M',Stp K G H M G' H' M'->Den K G' d v->k d M'->Q v H'
noncomputable def GE(X:Cx)(e:Expr)(Γ:Gm)(M:Mem)(k:D->Mem->Prop):Prop:=
 ∀σ G H Q,EnvR X.K G Γ σ->Rel X.K G H M->Cont X.K M k G H Q->tU X e σ H Q
noncomputable def nU(K:Fg)(M:Mem)(k:Bool->Mem->Prop)(G H:Hp)(Q:Bool->Hp->Prop):Prop:=∀b G' H' M',Stp K G H M G' H' M'->k b M'->Q b H'
noncomputable def GT(X:Cx)(e:Expr)(Γ:Gm)(M:Mem)(k:Bool->Mem->Prop):Prop:=
 ∀σ G H Q,EnvR X.K G Γ σ->Rel X.K G H M->nU X.K M k G H Q->tUT X e σ H Q
noncomputable def GW(X:Cx)(e:Expr)(Γ:Gm)(M:Mem)(k:Bool->Mem->Prop):Prop:=
 ∀σ G H Q,EnvR X.K G Γ σ->Rel X.K G H M->nU X.K M k G H Q->tUW X e σ H Q
noncomputable def GA(X:Cx)(es:List Expr)(Γ:Gm)(M:Mem)(k:List D->Mem->Prop):Prop:=
 ∀σ G H Q,EnvR X.K G Γ σ->Rel X.K G H M->(∀vs G' H' ds M',Stp X.K G H M G' H' M'->Dens X.K G' ds vs->k ds M'->Q vs H')->tUA X es σ H Q
noncomputable def kK(K:Fg)(M:Mem)(k:Gm->Mem->Prop)(G H:Hp)(Q:St->Hp->Prop):Prop:=∀σ' G' H' Γ' M',Stp K G H M G' H' M'->EnvR K G' Γ' σ'->k Γ' M'->Q σ' H'
noncomputable def GG(X:Cx)(tg:Expr)(d:D)(Γ:Gm)(M:Mem)(k:Gm->Mem->Prop):Prop:=
 ∀σ G H v Q,EnvR X.K G Γ σ->Rel X.K G H M->Den X.K G d v->kK X.K M k G H Q->tUG X tg v σ H Q
noncomputable def GGs(X:Cx)(tgs:List Expr)(ds:List D)(Γ:Gm)(M:Mem)(k:Gm->Mem->Prop):Prop:=
 ∀σ G H vs Q,EnvR X.K G Γ σ->Rel X.K G H M->Dens X.K G ds vs->kK X.K M k G H Q->aFE X tgs vs σ H Q
structure Fin where
 nx:Gm->Mem->Prop
 rt:D->Mem->Prop
 bk:Gm->Mem->Prop:=λ_ _=>False
 ct:Gm->Mem->Prop:=λ_ _=>False
structure EndsOk(K:Fg)(G H:Hp)(M:Mem)(F:Fin)(E:Ends):Prop where
 nx:kK K M F.nx G H E.nx
 rt:Cont K M F.rt G H E.rt
 bk:kK K M F.bk G H E.bk
 ct:kK K M F.ct G H E.ct
theorem Cont.up{K:Fg}{M M1:Mem}{k:D->Mem->Prop}{G1:Hp}{Q:VK}(c:Cont K M k G H Q)(s:Stp K G H M G1 H1 M1):Cont K M1 k G1 H1 Q:=λv G' H' d M' s'=>c v G' H' d M' (s.trans s')
theorem kK.up{K:Fg}{M M1:Mem}{k:Gm->Mem->Prop}{G1:Hp}{Q:St->Hp->Prop}(c:kK K M k G H Q)(s:Stp K G H M G1 H1 M1):kK K M1 k G1 H1 Q:=λv G' H' d M' s'=>c v G' H' d M' (s.trans s')
theorem nU.up{K:Fg}{M M1:Mem}{k:Bool->Mem->Prop}{G1:Hp}{Q:Bool->Hp->Prop}(c:nU K M k G H Q)(s:Stp K G H M G1 H1 M1):nU K M1 k G1 H1 Q:=λv G' H' M' s'=>c v G' H' M' (s.trans s')
theorem EndsOk.up{K:Fg}{M M1:Mem}{F:Fin}{E:Ends}{G1:Hp}(c:EndsOk K G H M F E)(s:Stp K G H M G1 H1 M1):EndsOk K G1 H1 M1 F E:=⟨c.nx.up s,c.rt.up s,c.bk.up s,c.ct.up s⟩
noncomputable def GS(X:Cx)(ss:List Stmt)(Γ:Gm)(M:Mem)(F:Fin):Prop:=
 ∀σ G H E,EnvR X.K G Γ σ->Rel X.K G H M->EndsOk X.K G H M F E->aEX X ss E σ H
noncomputable def G1(X:Cx)(st:Stmt)(Γ:Gm)(M:Mem)(F:Fin):Prop:=
 ∀σ G H E,EnvR X.K G Γ σ->Rel X.K G H M->EndsOk X.K G H M F E->tUS X st E σ H
end Z
variable {M M1:Z.Mem}{k:Z.D->Z.Mem->Prop}{d d1:Z.D}{ds:List Z.D}{Γ:Z.Gm}{kb:Bool->Z.Mem->Prop}{ki:List Z.D->Z.Mem->Prop}{kg:Z.Gm->Z.Mem->Prop}
namespace Z
open PySem L2
section
variable {K:Fg}
theorem dB{i:Int}:Den K G (.int i) (.int i):=by simp only[Den]
theorem cX{i:Bool}:Den K G (.bl i) (.bl i):=by simp only[Den]
theorem hV{i:Str}:Den K G (.str i) (.str i):=by simp only[Den]
theorem qS:Den K G .non .non:=by simp only[Den]
theorem mQ:Den K G (.mt a) (.ref a):=by simp only[Den]
theorem iA{vs:List V}(h:SqT K G a vs)(r:Dens K G ds vs):Den K G (.tup ds) (.ref a):=by simp only[Den];exact⟨a,vs,rfl,h,r⟩
theorem fN{vs:List V}(h:G a=some (.lst vs))(r:Dens K G ds vs):Den K G (.lst ds) (.ref a):=by simp only[Den];exact⟨a,vs,rfl,h,r⟩
theorem aIC{vs:List V}(h:SqL K G a vs)(r:Dens K G ds vs):Den K G (.fl ds) (.ref a):=by simp only[Den];exact⟨a,vs,rfl,h,r⟩
theorem Den.int_{i:Int}(h:Den K G (.int i) v):v = .int i:=by simp only[Den] at h;exact h
theorem Den.bl_{i:Bool}(h:Den K G (.bl i) v):v = .bl i:=by simp only[Den] at h;exact h
theorem Den.str_{i:Str}(h:Den K G (.str i) v):v = .str i:=by simp only[Den] at h;exact h
theorem Den.non_(h:Den K G .non v):v = .non:=by simp only[Den] at h;exact h
theorem Den.mt_(h:Den K G (.mt a) v):v = .ref a:=by simp only[Den] at h;exact h
theorem Den.tup_(h:Den K G (.tup ds) v):∃a vs,v = .ref a/\SqT K G a vs/\Dens K G ds vs:=by simp only[Den] at h;exact h
theorem Den.lst_(h:Den K G (.lst ds) v):∃a vs,v = .ref a/\G a=some (.lst vs)/\Dens K G ds vs:=by simp only[Den] at h;exact h
theorem Den.fl_(h:Den K G (.fl ds) v):∃a vs,v = .ref a/\SqL K G a vs/\Dens K G ds vs:=by simp only[Den] at h;exact h
theorem Den.st_{ks:List (List Int)}(h:Den K G (.st ks) v):∃a xs ep,v = .ref a/\StO K G (G a) a ks xs ep:=by simp only[Den] at h;exact h
inductive Seq(M:Mem):D->Bool->List D->Prop
 |tup (ds:List D):Seq M (.tup ds) false ds
 |lst (ds:List D):Seq M (.lst ds) true ds
 |fl (ds:List D):Seq M (.fl ds) true ds
 |mt {a:Addr}{ds:List D} (h:M a=some (.lst ds)):Seq M (.mt a) true ds
theorem Seq.sq(q:Seq M d t ds)(r:Rel K G H M)(h:Den K G d v):∃a vs,v = .ref a/\(if t=true then SqL K H a vs else SqT K H a vs)/\Dens K G ds vs:=by
 cases q with
 |tup ds=>obtain⟨a,vs,e,s,d⟩:=h.tup_;exact⟨a,vs,e,R.iU r.same s,d⟩
 |lst ds=>obtain⟨a,vs,e,s,d⟩:=h.lst_;exact⟨a,vs,e,SqL.of (r.same _ _ s),d⟩
 |fl ds=>obtain⟨a,vs,e,s,d⟩:=h.fl_;exact⟨a,vs,e,r.same.seq s,d⟩
 |mt hm=>obtain⟨_,vs,e,d⟩:=r.mem _ _ hm;exact⟨_,vs,h.mt_,SqL.of e,d⟩
theorem Seq.sq2(q:Seq M d t ds)(r:Rel K G H M)(h:Den K G d v):∃a vs,v = .ref a/\(SqL K H a vs\/SqT K H a vs)/\Dens K G ds vs:=by
 obtain⟨a,vs,e,s,d⟩:=q.sq r h
 refine⟨a,vs,e,?_,d⟩
 cases t with
 |true=>exact .inl s
 |false=>exact .inr s
inductive Lst(M:Mem):D->List D->Prop
 |lst (ds:List D):Lst M (.lst ds) ds
 |mt {a:Addr}{ds:List D} (h:M a=some (.lst ds)):Lst M (.mt a) ds
theorem Lst.sq(q:Lst M d ds)(r:Rel K G H M)(h:Den K G d v):∃a vs,v = .ref a/\H a=some (.lst vs)/\Dens K G ds vs:=by
 cases q with
 |lst ds=>obtain⟨a,vs,e,s,d⟩:=h.lst_;exact⟨a,vs,e,r.same _ _ s,d⟩
 |mt hm=>obtain⟨_,vs,e,d⟩:=r.mem _ _ hm;exact⟨_,vs,h.mt_,e,d⟩
end
section
variable {a:Expr}{rest:List Expr}
theorem aB(i:Nat)(hΓ:Γ[i]?=some (some d))(h:k d M)(hN:X.N[i]?=some x:=by rfl)(hv:Vis X.env.scope x:=by first|exact pw rfl|exact fz (pw rfl)|exact fz (fz rfl))(hd:(x==("__debug__" : Str))=false:=by decide)(hcd:(x==("__classdict__" : Str))=false:=by decide):GE X (.Name x pos) Γ M k:=
 λσ G H Q en rl q=>cB (aCK hN hv hd hcd) (let ⟨v,e,dv⟩:=en.get i d hΓ;⟨v,e,q v G H d M (Stp.refl rl) dv h⟩)
theorem z6{i:Int}(h:k (.int i) M):GE X (.Constant (.int i) j pos) Γ M k:=λσ G H Q en rl q=>cB aJC (q _ G H _ M (Stp.refl rl) dB h)
theorem cS{i:Bool}(h:k (.bl i) M):GE X (.Constant (.bool i) j pos) Γ M k:=λσ G H Q en rl q=>cB aKP (q _ G H _ M (Stp.refl rl) cX h)
theorem aI2(h:k .non M):GE X (.Constant .none j pos) Γ M k:=λσ G H Q en rl q=>cB aJS (q _ G H _ M (Stp.refl rl) qS h)
theorem ge_str(h:k (.str x) M):GE X (.Constant (.str x) j pos) Γ M k:=λσ G H Q en rl q=>cB aJD (q _ G H _ M (Stp.refl rl) hV h)
theorem aAY(h:GE X e Γ M λd M1=>∃a ds M2,d = .mt a/\M1 a=some (.lst ds)/\M2 a=none/\Le M2 M1/\k (.lst ds) M2):GE X e Γ M k:=λσ G H Q en rl q =>
 h σ G H Q en rl λv G1 H1 d M1 s1 e1 ⟨a,ds,M2,ed,h1,h2,h3,h4⟩=>by
  subst ed
  obtain⟨vs,x1,x2,st⟩:=s1.rel.frz h1
  have l:Le M2 (j5 M1 a):=λb o z=>by rw[kT (λy=>by rw[y,h2] at z;cases z)];exact h3 b o z
  have st2:=st.trans (st.rel.drop l)
  exact q v _ _ (.lst ds) M2 (s1.trans st2) (by rw[e1.mt_];exact fN bF (x2.up st.gg)) h4
noncomputable def Op2(K:Fg)(r:R2)(d1 d2:D)(M:Mem)(k:D->Mem->Prop):Prop:=∀G H v1 v2 Q,Rel K G H M->Den K G d1 v1->Den K G d2 v2->Cont K M k G H Q->r v1 v2 H Q
theorem two{r:R2}(h:GE X a Γ M λd1 M1=>GE X b Γ M1 λd2 M2=>Op2 X.K r d1 d2 M2 k){Q:VK}(en:EnvR X.K G Γ σ)(rl:Rel X.K G H M)(q:Cont X.K M k G H Q):tOp r (tU X a) (tU X b) σ H Q:=by
 refine h σ G H _ en rl λv1 G1 H1 d1 M1 s1 e1 h1 => ?_
 refine h1 σ G1 H1 _ (en.up s1.gg) s1.rel λv2 G2 H2 d2 M2 s2 e2 h2 => ?_
 exact h2 G2 H2 v1 v2 Q s2.rel (e1.up s2.gg) e2 (q.up (s1.trans s2))
theorem aN{op:Operator}{r:R2}(ho:OpR X (zm op) r)(h:GE X a Γ M λd1 M1=>GE X b Γ M1 λd2 M2=>Op2 X.K r d1 d2 M2 k):GE X (.BinOp a op b pos) Γ M k:=
 λσ G H Q en rl q=>cB (aKS ho pU pU) (two h en rl q)
theorem eI{op:VH}{r:R2}(ho:OpR X (xh op) r)(h:GE X a Γ M λd1 M1=>GE X b Γ M1 λd2 M2=>Op2 X.K r d1 d2 M2 k)(hm:dg op b=false:=by first|exact nomark _|rfl):GE X (.Compare a [op] [b] pos) Γ M k:=
 λσ G H Q en rl q=>cB (aHV ho pU pU hm) (two h en rl q)
theorem a9{op:VH}{r:R2}(ho:OpR X (xh op) r)(h:GE X a Γ M λd1 M1=>GE X b Γ M1 λd2 M2=>Op2 X.K r d1 d2 M2 λd M3=>∃c,d = .bl c/\kb c M3)(hm:dg op b=false:=by first|exact nomark _|rfl):GT X (.Compare a [op] [b] pos) Γ M kb:=
 λσ G H Q en rl q=>pZ (aHX ho pU pU hm) (two (k:=λd M3=>∃c,d = .bl c/\kb c M3) h en rl λv G' H' d M' s e ⟨c,ed,hk⟩=>by subst ed;exact⟨c,e.bl_,q c G' H' M' s hk⟩)
theorem aI{r:R2}(hr:IxR X r)(h:GE X a Γ M λd1 M1=>GE X b Γ M1 λd2 M2=>Op2 X.K r d1 d2 M2 k)(hs:yL b:=by intro _ _;rfl):GE X (.Subscript a b pos) Γ M k:=
 λσ G H Q en rl q=>cB (aKD hr pU pU hs) (two h en rl q)
theorem gU{op:UnaryOp}{g:Int->Int}(ho:UnR X (unaryOp op) (rU λi => .int (g i)))(h:GE X a Γ M λd M1=>∃i,d = .int i/\k (.int (g i)) M1):GE X (.UnaryOp op a pos) Γ M k:=λσ G H Q en rl q=>by
 refine cB (aKA ho pU) ?_
 refine h σ G H _ en rl λv G1 H1 d M1 s1 e1 ⟨i,ed,h1⟩ => ?_
 subst ed
 exact⟨i,e1.int_,q _ _ _ _ _ s1 dB h1⟩
end
section
variable {K:Fg}{i j:Int}
theorem bS{g:Int->Int->Int}(h:k (.int (g i j)) M):Op2 K (rI0 λi j => .int (g i j)) (.int i) (.int j) M k:=λG H v1 v2 Q rl e1 e2 q=>⟨i,j,e1.int_,e2.int_,q _ G H _ M (Stp.refl rl) dB h⟩
theorem cM{C:Int->Int->Prop}{g:Int->Int->Int}(hc:C i j)(h:k (.int (g i j)) M):Op2 K (rI C λi j => .int (g i j)) (.int i) (.int j) M k:=λG H v1 v2 Q rl e1 e2 q=>⟨i,j,e1.int_,e2.int_,hc,q _ G H _ M (Stp.refl rl) dB h⟩
theorem dY{g:Int->Int->Bool}(h:k (.bl (g i j)) M):Op2 K (rI0 λi j => .bl (g i j)) (.int i) (.int j) M k:=λG H v1 v2 Q rl e1 e2 q=>⟨i,j,e1.int_,e2.int_,q _ G H _ M (Stp.refl rl) cX h⟩
theorem iD(h:k (.bl (decide (i=j))) M):Op2 K rEq (.int i) (.int j) M k:=λG H v1 v2 Q rl e1 e2 q=>by
 rw[e1.int_,e2.int_]
 exact⟨rfl,by rw[show decide (V.int i=V.int j)=decide (i=j) from by simp];exact q _ G H _ M (Stp.refl rl) cX h⟩
theorem pY(h:k (.bl (!decide (i=j))) M):Op2 K rNe (.int i) (.int j) M k:=λG H v1 v2 Q rl e1 e2 q=>by
 rw[e1.int_,e2.int_]
 exact⟨rfl,by rw[show decide (V.int i=V.int j)=decide (i=j) from by simp];exact q _ G H _ M (Stp.refl rl) cX h⟩
theorem u9(h:k (.bl (decide (x=y))) M):Op2 K rEq (.str x) (.str y) M k:=λG H v1 v2 Q rl e1 e2 q=>by
 rw[e1.str_,e2.str_]
 exact⟨rfl,by rw[show decide (V.str x=V.str y)=decide (x=y) from by simp];exact q _ G H _ M (Stp.refl rl) cX h⟩
theorem aB2(h:k (.bl (!decide (x=y))) M):Op2 K rNe (.str x) (.str y) M k:=λG H v1 v2 Q rl e1 e2 q=>by
 rw[e1.str_,e2.str_]
 exact⟨rfl,by rw[show decide (V.str x=V.str y)=decide (x=y) from by simp];exact q _ G H _ M (Stp.refl rl) cX h⟩
theorem aJB{x y:Bool}(h:k (.bl (!decide (x=y))) M):Op2 K rNe (.bl x) (.bl y) M k:=λG H v1 v2 Q rl e1 e2 q=>by
 rw[e1.bl_,e2.bl_]
 exact⟨rfl,by rw[show decide (V.bl x=V.bl y)=decide (x=y) from by simp];exact q _ G H _ M (Stp.refl rl) cX h⟩
theorem aJ(q1:Seq M d1 t ds)(e:atI ds i=some d)(h:k d M):Op2 K (rIx K) d1 (.int i) M k:=λG H v1 v2 Q rl e1 e2 q=>by
 obtain⟨a,vs,ev,s,dn⟩:=q1.sq2 rl e1
 obtain⟨v,ei,dv⟩:=dn.atI e
 rw[ev,e2.int_]
 exact R.aKB s ei (q v G H d M (Stp.refl rl) dv h)
theorem kY{z:Str}{c:Nat}(hz:z.length<=sizeLine)(e:atI z.cps.toList i=some c)(h:k (.str ⟨#[c]⟩) M):Op2 K (rIx K) (.str z) (.int i) M k:=λG H v1 v2 Q rl e1 e2 q =>
 .inr (.inr ⟨z,i,c,e1.str_,e2.int_,hz,e,q _ G H _ M (Stp.refl rl) hV h⟩)
theorem aF1(hz:x.length+y.length<=sizeLine)(h:k (.str (x++y)) M):Op2 K (λx y H Q=>∃i j,x = .str i/\y = .str j/\i.length+j.length<=sizeLine/\Q (.str (i++j)) H) (.str x) (.str y) M k:=
 λG H v1 v2 Q rl e1 e2 q=>⟨x,y,e1.str_,e2.str_,hz,q _ G H _ M (Stp.refl rl) hV h⟩
theorem xL(h1 : -(2^40)<=i)(h2:i<2^40)(h3:x.length*i.toNat<=sizeLine)(h:k (.str (kE x i.toNat)) M):Op2 K aFK (.str x) (.int i) M k:=
 λG H v1 v2 Q rl e1 e2 q=>⟨x,i,e1.str_,e2.int_,h1,h2,h3,q _ G H _ M (Stp.refl rl) hV h⟩
theorem j6{d2:D}{xs ys:List D}(q1:Lst M d1 xs)(q2:Lst M d2 ys)(hl:xs.length+ys.length<=sizeLine)(h:k (.lst (xs++ys)) M):Op2 K rCat d1 d2 M k:=λG H v1 v2 Q rl e1 e2 q=>by
 obtain⟨a,vs,ev,s,dn⟩:=q1.sq rl e1
 obtain⟨b,ws,ew,s2,dn2⟩:=q2.sq rl e2
 refine⟨a,b,vs,ws,ev,ew,s,s2,by rw[<- dn.len,<- dn2.len];exact hl,λp hp => ?_⟩
 have st:=rl.new (o := .lst (vs++ws)) hp
 exact q _ _ _ _ _ st (fN bF ((dn.append dn2).up st.gg)) h
end
end Z
namespace Z
open PySem L2
section
variable {a:Expr}{rest:List Expr}
theorem bQ(h:GE X e Γ M λd M1=>∃c,d = .bl c/\kb c M1)(he:∀whole,isTrue e X.env whole=(do let v <- whole;QD e.pos;cv [v] (VI v)):=by intro _;rfl):GT X e Γ M kb:=λσ G H Q en rl q=>by
 refine pZ (aIF pU he) ?_
 exact h σ G H _ en rl λv G1 H1 d M1 s1 e1 ⟨c,ed,h1⟩=>by subst ed;exact⟨c,e1.bl_,q _ _ _ _ s1 h1⟩
inductive Tru(M:Mem):D->Bool->Prop
 |seq {d:D}{t:Bool}{ds:List D} (q:Seq M d t ds):Tru M d (!ds.isEmpty)
 |str (x:Str) (h:x.length<=sizeLine):Tru M (.str x) ((x.length:Int) != 0)
 |bl (b:Bool):Tru M (.bl b) b
 |int (i:Int):Tru M (.int i) (i != 0)
 |non:Tru M .non false
theorem uU{K:Fg}{vs:List V}(h:Dens K G ds vs):ds.isEmpty=vs.isEmpty:=by
 cases ds with
 |nil=>rw[cK h];rfl
 |cons d ds=>obtain⟨v,r,rfl,_⟩:=bX h;rfl
theorem lP(h:GE X e Γ M λd M1=>∃c,Tru M1 d c/\kb c M1)(he:∀whole,isTrue e X.env whole=(do let v <- whole;QD e.pos;cv [v] (VI v)):=by intro _;rfl):GT X e Γ M kb:=λσ G H Q en rl q=>by
 refine pZ (aFG pU he) ?_
 refine h σ G H _ en rl λv G1 H1 d M1 s1 e1 ⟨c,tr,h1⟩=>⟨c,?_,q _ _ _ _ s1 h1⟩
 cases tr with
 |seq sq =>
  obtain⟨a,vs,ev,s,dn⟩:=sq.sq2 s1.rel e1
  subst ev
  rw[uU dn]
  rcases s with s|s
  ·exact .inl ⟨vs,s,rfl⟩
  ·exact .inr (.inl ⟨vs,s,rfl⟩)
 |str x hx=>rw[e1.str_];exact⟨hx,rfl⟩
 |bl b=>rw[e1.bl_];rfl
 |int i=>rw[e1.int_];rfl
 |non=>rw[e1.non_];rfl
theorem bU(h:GT X a Γ M λc M1=>kb (!c) M1):GT X (.UnaryOp .Not a pos) Γ M kb:=λσ G H Q en rl q=>by
 refine pZ (aI0 pUT) ?_
 exact h σ G H _ en rl λc G1 H1 M1 s1 h1=>q _ _ _ _ s1 h1
theorem dM(h:GW X e Γ M kb):GT X e Γ M kb:=λσ G H Q en rl q pins s I=>h σ G H Q en rl q (eval e X.env) pins s I
theorem n9(h:GT X a Γ M kb):GW X (.BoolOp .And [a] pos) Γ M kb:=λσ G H Q en rl q=>p0 (aF9 pUT) (h σ G H _ en rl q)
theorem dQ(h:GT X a Γ M kb):GW X (.BoolOp .Or [a] pos) Γ M kb:=λσ G H Q en rl q=>p0 (aIB pUT) (h σ G H _ en rl q)
theorem pI(h:GT X a Γ M λc M1=>if c=true then GW X (.BoolOp .And (b::rest) pos) Γ M1 kb else kb false M1):GW X (.BoolOp .And (a::b::rest) pos) Γ M kb:=λσ G H Q en rl q=>by
 refine p0 (aJ6 pUT pUW) ?_
 refine h σ G H _ en rl λc G1 H1 M1 s1 h1 => ?_
 cases c with
 |true=>rw[if_pos rfl] at h1 ⊢;exact h1 σ G1 H1 _ (en.up s1.gg) s1.rel (q.up s1)
 |false=>rw[if_neg zBf] at h1 ⊢;exact q _ _ _ _ s1 h1
theorem c6(h:GT X a Γ M λc M1=>if c=true then kb true M1 else GW X (.BoolOp .Or (b::rest) pos) Γ M1 kb):GW X (.BoolOp .Or (a::b::rest) pos) Γ M kb:=λσ G H Q en rl q=>by
 refine p0 (aKT pUT pUW) ?_
 refine h σ G H _ en rl λc G1 H1 M1 s1 h1 => ?_
 cases c with
 |true=>rw[if_pos rfl] at h1 ⊢;exact q _ _ _ _ s1 h1
 |false=>rw[if_neg zBf] at h1 ⊢;exact h1 σ G1 H1 _ (en.up s1.gg) s1.rel (q.up s1)
theorem jF{op:BoolOp}(h:GE X a Γ M k):GE X (.BoolOp op [a] pos) Γ M k:=λσ G H Q en rl q=>cB (aJX pU) (h σ G H _ en rl q)
theorem lB(h:GE X a Γ M λd M1=>∃c,d = .bl c/\if c=true then GE X (.BoolOp .And (b::rest) pos) Γ M1 k else k (.bl false) M1):GE X (.BoolOp .And (a::b::rest) pos) Γ M k:=λσ G H Q en rl q=>by
 refine cB (aI8 pU pU) ?_
 refine h σ G H _ en rl λv G1 H1 d M1 s1 e1 ⟨c,ed,h1⟩ => ?_
 subst ed
 refine⟨c,e1.bl_,?_⟩
 cases c with
 |true=>rw[if_pos rfl] at h1 ⊢;exact h1 σ G1 H1 _ (en.up s1.gg) s1.rel (q.up s1)
 |false=>rw[if_neg zBf] at h1 ⊢;exact q _ _ _ _ _ s1 cX h1
theorem aKQ(h:GE X a Γ M λd M1=>∃c,d = .bl c/\if c=true then k (.bl true) M1 else GE X (.BoolOp .Or (b::rest) pos) Γ M1 k):GE X (.BoolOp .Or (a::b::rest) pos) Γ M k:=λσ G H Q en rl q=>by
 refine cB (aKG pU pU) ?_
 refine h σ G H _ en rl λv G1 H1 d M1 s1 e1 ⟨c,ed,h1⟩ => ?_
 subst ed
 refine⟨c,e1.bl_,?_⟩
 cases c with
 |true=>rw[if_pos rfl] at h1 ⊢;exact q _ _ _ _ _ s1 cX h1
 |false=>rw[if_neg zBf] at h1 ⊢;exact h1 σ G1 H1 _ (en.up s1.gg) s1.rel (q.up s1)
theorem qF(h:GE X a Γ M λd M1=>∃c,d = .bl c/\k (.bl (!c)) M1):GE X (.UnaryOp .Not a pos) Γ M k:=λσ G H Q en rl q=>by
 refine cB (aIT pU) ?_
 exact h σ G H _ en rl λv G1 H1 d M1 s1 e1 ⟨c,ed,h1⟩=>by subst ed;exact⟨c,e1.bl_,q _ _ _ _ _ s1 cX h1⟩
theorem k6(h:GT X c Γ M λt M1=>if t=true then GE X a Γ M1 k else GE X b Γ M1 k):GE X (.IfExp c a b pos) Γ M k:=λσ G H Q en rl q=>by
 refine cB (aE3 pUT pU pU) ?_
 refine h σ G H _ en rl λt G1 H1 M1 s1 h1 => ?_
 cases t with
 |true=>rw[if_pos rfl] at h1 ⊢;exact h1 σ G1 H1 _ (en.up s1.gg) s1.rel (q.up s1)
 |false=>rw[if_neg zBf] at h1 ⊢;exact h1 σ G1 H1 _ (en.up s1.gg) s1.rel (q.up s1)
variable {ka:List D->Mem->Prop}
theorem aC(h:ka [] M):GA X [] Γ M ka:=λσ G H Q en rl q=>aC5 aCW (q _ _ _ _ _ (Stp.refl rl) cD h)
theorem aA(h:GE X e Γ M λd M1=>GA X es Γ M1 λds M2=>ka (d::ds) M2)(hs:je (e::es) X.env=(false,eval e X.env)::je es X.env:=by rfl):GA X (e::es) Γ M ka:=λσ G H Q en rl q=>by
 refine aC5 (rA pU pUA hs) ?_
 refine h σ G H _ en rl λv G1 H1 d M1 s1 e1 h1 => ?_
 exact h1 σ G1 H1 _ (en.up s1.gg) s1.rel λvs G2 H2 ds M2 s2 e2 h2=>q _ _ _ _ _ (s1.trans s2) (b5 (e1.up s2.gg) e2) h2
theorem eJ{x1}(h:GA X es Γ M λds M1=>ds.length<=sizeLine/\k (.tup ds) M1):GE X (.Tuple es x1 pos) Γ M k:=λσ G H Q en rl q=>by
 refine cB (aJH pUA) ?_
 refine h σ G H _ en rl λvs G1 H1 ds M1 s1 e1 ⟨hl,h1⟩=>⟨by rw[<- e1.len];exact hl,λp hp => ?_⟩
 have st:=s1.rel.new (o := .tup vs) hp
 exact q _ _ _ _ _ (s1.trans st) (iA (SqT.of bF) (e1.up st.gg)) h1
theorem cT(h:GA X es Γ M λds M1=>ds.length<=sizeLine/\k (.lst ds) M1):GE X (.List es pos) Γ M k:=λσ G H Q en rl q=>by
 refine cB (aA7 pUA) ?_
 refine h σ G H _ en rl λvs G1 H1 ds M1 s1 e1 ⟨hl,h1⟩=>⟨by rw[<- e1.len];exact hl,λp hp => ?_⟩
 have st:=s1.rel.new (o := .lst vs) hp
 exact q _ _ _ _ _ (s1.trans st) (fN bF (e1.up st.gg)) h1
theorem iP(h:GA X es Γ M λds M1=>ds.length<=sizeLine/\∀a,M1 a=none->k (.mt a) (bZ M1 a (.lst ds))):GE X (.List es pos) Γ M k:=λσ G H Q en rl q=>by
 refine cB (aA7 pUA) ?_
 refine h σ G H _ en rl λvs G1 H1 ds M1 s1 e1 ⟨hl,h1⟩=>⟨by rw[<- e1.len];exact hl,λp hp => ?_⟩
 exact q _ _ _ _ _ (s1.trans (s1.rel.newM hp e1)) mQ (h1 p (s1.rel.free hp).2)
abbrev Ct:=List D->Mem->(D->Mem->Prop)->Prop
noncomputable def spZ(K:Fg)(F:Ct):Sp:=λvs H Q _=>∃G M ds k,Rel K G H M/\Dens K G ds vs/\F ds M k/\Cont K M k G H Q
theorem aF{ps:List Str}{p:Pos}{F:Ct}(Fk:FnOk X.prog X.w X.K X.mg X.base CX0 n f fd ps (spZ X.K F))(hr:Room n X.A)(hm:X.mg x=some (.ref f))(hk:z9 X.K (.ref f)=true)(hb:Binds X.K fd ps [])(h:GA X (e::es) Γ M λds M1=>F ds M1 k)(hg:Gl X x:=by rfl)(hdb:(x==("__debug__" : Str))=false:=by decide)(he:je (e::es) X.env=(false,eval e X.env)::je es X.env:=by rfl)(hpl:(dt pos (je es X.env)).any (·.1)=false:=by rfl):
  GE X (.Call (.Name x p) (e::es) [] pos) Γ M k:=λσ G H Q en rl q=>by
 refine cB (aGF Fk hr hg hm hk hb .nil pass0 pUA hdb he hpl) ?_
 refine h σ G H _ en rl λvs G1 H1 ds M1 s1 e1 h1 => ?_
 show spZ X.K F (vs++[]) H1 Q E0
 rw[yt]
 exact⟨G1,M1,ds,k,s1.rel,e1,h1,q.up s1⟩
noncomputable def OpN(K:Fg)(r:List V->Hp->VK->Prop)(ds:List D)(M:Mem)(k:D->Mem->Prop):Prop:=∀G H vs Q,Rel K G H M->Dens K G ds vs->Cont K M k G H Q->r vs H Q
theorem aO{p:Pos}{id:String}{r:List V->Hp->VK->Prop}(hc:eF X (.builtin id) r)(hm:X.mg x=none)(hv:jv x=some (.builtin id))(h:GA X (e::es) Γ M λds M1=>OpN X.K r ds M1 k)(hg:Gl X x:=by rfl)(hn:x ≠ "__name__" := by decide)(hdb:(x==("__debug__" : Str))=false:=by decide)(he:je (e::es) X.env=(false,eval e X.env)::je es X.env:=by rfl)(hpl:(dt pos (je es X.env)).any (·.1)=false:=by rfl):GE X (.Call (.Name x p) (e::es) [] pos) Γ M k:=λσ G H Q en rl q=>by
 refine cB (vI hc hg hm hv pUA hn hdb he hpl) ?_
 exact h σ G H _ en rl λvs G1 H1 ds M1 s1 e1 h1=>h1 G1 H1 vs Q s1.rel e1 (q.up s1)
theorem aZ{p:Pos}{T:String}{r:List V->Hp->VK->Prop}(hc:eF X (.type T) r)(hm:X.mg x=none)(hv:jv x=some (.type T))(h:GA X (e::es) Γ M λds M1=>OpN X.K r ds M1 k)(hg:Gl X x:=by rfl)(hn:x ≠ "__name__" := by decide)(hdb:(x==("__debug__" : Str))=false:=by decide)(he:je (e::es) X.env=(false,eval e X.env)::je es X.env:=by rfl)(hpl:(dt pos (je es X.env)).any (·.1)=false:=by rfl):GE X (.Call (.Name x p) (e::es) [] pos) Γ M k:=λσ G H Q en rl q=>by
 refine cB (aCU hc hg hm hv pUA hn hdb he hpl) ?_
 exact h σ G H _ en rl λvs G1 H1 ds M1 s1 e1 h1=>h1 G1 H1 vs Q s1.rel e1 (q.up s1)
theorem dens1{K:Fg}{vs:List V}(h:Dens K G [d] vs):∃v,vs=[v]/\Den K G d v:=by
 obtain⟨v,r,rfl,h1,h2⟩:=bX h
 rw[cK h2];exact⟨v,rfl,h1⟩
theorem dens2{K:Fg}{c:D}{vs:List V}(h:Dens K G [d,c] vs):∃v u,vs=[v,u]/\Den K G d v/\Den K G c u:=by
 obtain⟨v,r,rfl,h1,h2⟩:=bX h
 obtain⟨u,rfl,h3⟩:=dens1 h2
 exact⟨v,u,rfl,h1,h3⟩
theorem bV{K:Fg}(q1:Seq M d t ds)(h:k (.int (ds.length:Int)) M):OpN K (λxs H Q=>∃x n,xs=[x]/\aER K x H n/\Q (.int n) H) [d] M k:=λG H vs Q rl e q=>by
 obtain⟨v,rfl,dv⟩:=dens1 e
 obtain⟨a,ws,ev,s,dn⟩:=q1.sq2 rl dv
 subst ev
 refine⟨_,ds.length,rfl,?_,q _ _ _ _ _ (Stp.refl rl) dB h⟩
 rcases s with s|s
 ·exact .inl ⟨ws,s,dn.len⟩
 ·exact .inr ⟨ws,s,dn.len⟩
theorem i6{K:Fg}(hz:x.length<=sizeLine)(h:k (.int (x.length:Int)) M):OpN K (λxs H Q=>∃x n,xs=[x]/\aER K x H n/\Q (.int n) H) [.str x] M k:=λG H vs Q rl e q=>by
 obtain⟨v,rfl,dv⟩:=dens1 e
 rw[dv.str_]
 exact⟨_,x.length,rfl,⟨hz,rfl⟩,q _ _ _ _ _ (Stp.refl rl) dB h⟩
theorem aB4{K:Fg}{i:Int}(h:k (.int (if i<0 then -i else i)) M):OpN K (λxs H Q=>∃i,xs=[.int i]/\Q (.int (if i<0 then -i else i)) H) [.int i] M k:=λG H vs Q rl e q=>by
 obtain⟨v,rfl,dv⟩:=dens1 e
 rw[dv.int_]
 exact⟨i,rfl,q _ _ _ _ _ (Stp.refl rl) dB h⟩
theorem qV{K:Fg}{c:Bool}(h:k (.int (if c then 1 else 0)) M):OpN K (λxs H Q=>(∃i,xs=[.int i]/\Q (.int i) H)\/∃k,xs=[.bl k]/\Q (.int (if k then 1 else 0)) H) [.bl c] M k:=λG H vs Q rl e q=>by
 obtain⟨v,rfl,dv⟩:=dens1 e
 rw[dv.bl_]
 exact .inr ⟨c,rfl,q _ _ _ _ _ (Stp.refl rl) dB h⟩
theorem qH{K:Fg}{i j:Int}(h:k (.int (if j>i then j else i)) M):OpN K (λxs H Q=>∃i j,xs=[.int i, .int j]/\Q (.int (if j>i then j else i)) H) [.int i, .int j] M k:=λG H vs Q rl e q=>by
 obtain⟨v,u,rfl,dv,du⟩:=dens2 e
 rw[dv.int_,du.int_]
 exact⟨i,j,rfl,q _ _ _ _ _ (Stp.refl rl) dB h⟩
theorem aIG{K:Fg}{i j:Int}(h:k (.int (if j<i then j else i)) M):OpN K (λxs H Q=>∃i j,xs=[.int i, .int j]/\Q (.int (if j<i then j else i)) H) [.int i, .int j] M k:=λG H vs Q rl e q=>by
 obtain⟨v,u,rfl,dv,du⟩:=dens2 e
 rw[dv.int_,du.int_]
 exact⟨i,j,rfl,q _ _ _ _ _ (Stp.refl rl) dB h⟩
theorem cH{K:Fg}(q1:Seq M d t ds)(h:k (.lst ds) M):OpN K (λxs H Q=>∃p ys,xs=[.ref p]/\(SqL K H p ys\/SqT K H p ys)/\∀l,H l=none->Q (.ref l) (upd H l (.lst ys))) [d] M k:=λG H vs Q rl e q=>by
 obtain⟨v,rfl,dv⟩:=dens1 e
 obtain⟨a,ws,ev,s,dn⟩:=q1.sq2 rl dv
 subst ev
 refine⟨a,ws,rfl,s,λl hl => ?_⟩
 have st:=rl.new (o := .lst ws) hl
 exact q _ _ _ _ _ st (fN bF (dn.up st.gg)) h
theorem iW{K:Fg}(q1:Seq M d t ds)(h:k (.tup ds) M):OpN K (λxs H Q=>∃p ys,xs=[.ref p]/\((SqL K H p ys/\∀l,H l=none->Q (.ref l) (upd H l (.tup ys)))\/(SqT K H p ys/\Q (.ref p) H))) [d] M k:=λG H vs Q rl e q=>by
 obtain⟨v,rfl,dv⟩:=dens1 e
 cases q1 with
 |tup ds =>
  obtain⟨a,ws,ev,s,dn⟩:=dv.tup_
  subst ev
  exact⟨a,ws,rfl, .inr ⟨R.iU rl.same s,q _ _ _ _ _ (Stp.refl rl) dv h⟩⟩
 |lst ds =>
  obtain⟨a,ws,ev,s,dn⟩:=(Seq.lst ds).sq rl dv
  subst ev
  refine⟨a,ws,rfl, .inl ⟨s,λl hl => ?_⟩⟩
  have st:=rl.new (o := .tup ws) hl
  exact q _ _ _ _ _ st (iA (SqT.of bF) (dn.up st.gg)) h
 |fl ds =>
  obtain⟨a,ws,ev,s,dn⟩:=(Seq.fl ds).sq rl dv
  subst ev
  refine⟨a,ws,rfl, .inl ⟨s,λl hl => ?_⟩⟩
  have st:=rl.new (o := .tup ws) hl
  exact q _ _ _ _ _ st (iA (SqT.of bF) (dn.up st.gg)) h
 |mt hm =>
  obtain⟨a,ws,ev,s,dn⟩:=(Seq.mt hm).sq rl dv
  subst ev
  refine⟨a,ws,rfl, .inl ⟨s,λl hl => ?_⟩⟩
  have st:=rl.new (o := .tup ws) hl
  exact q _ _ _ _ _ st (iA (SqT.of bF) (dn.up st.gg)) h
theorem yB{K:Fg}:∀{bs:List Bool}{vs:List V},Dens K G (bs.map D.bl) vs->vs=bs.map V.bl
 |[],_,h=>cK h
 |b::bs,_,h=>by
  obtain⟨v,r,rfl,h1,h2⟩:=bX h
  rw[h1.bl_,yB h2];rfl
theorem tH{K:Fg}:∀{bs:List Str}{vs:List V},Dens K G (bs.map D.str) vs->vs=bs.map V.str
 |[],_,h=>cK h
 |b::bs,_,h=>by
  obtain⟨v,r,rfl,h1,h2⟩:=bX h
  rw[h1.str_,tH h2];rfl
theorem r8{K:Fg}:∀{bs:List Int}{vs:List V},Dens K G (bs.map D.int) vs->vs=bs.map V.int
 |[],_,h=>cK h
 |b::bs,_,h=>by
  obtain⟨v,r,rfl,h1,h2⟩:=bX h
  rw[h1.int_,r8 h2];rfl
theorem iL{K:Fg}{bs:List Bool}{g:List Bool->Bool}(q1:Seq M d t (bs.map D.bl))(h:k (.bl (g bs)) M):OpN K (aEY K g) [d] M k:=λG H vs Q rl e q=>by
 obtain⟨v,rfl,dv⟩:=dens1 e
 obtain⟨a,ws,ev,s,dn⟩:=q1.sq2 rl dv
 subst ev
 rw[yB dn] at s
 exact⟨a,bs,rfl,s,q _ _ _ _ _ (Stp.refl rl) cX h⟩
noncomputable def TyD(T:String)(d:D)(M:Mem):Prop:=match d with
 |.str _=>T = "str"
 |.lst _=>T = "list"
 |.mt a=>T = "list" /\ ∃ds,M a=some (.lst ds)
 |_=>False
theorem TyD.ok{K:Fg}{T:String}(h:TyD T d M)(rl:Rel K G H M)(e:Den K G d v):tyV K T v H:=by
 cases d with
 |str x=>rw[e.str_];exact h
 |lst ds=>obtain⟨a,vs,ev,s,_⟩:=e.lst_;rw[ev];exact .inl ⟨h,vs,SqL.of (rl.same _ _ s)⟩
 |mt a =>
  obtain⟨h1,ds,h2⟩:=h
  obtain⟨_,vs,s,_⟩:=rl.mem _ _ h2
  rw[e.mt_];exact .inl ⟨h1,vs,SqL.of s⟩
 |_=>exact yx h
noncomputable def OpM(K:Fg)(r:V->List V->Hp->VK->Prop)(d:D)(ds:List D)(M:Mem)(k:D->Mem->Prop):Prop:=∀G H v vs Q,Rel K G H M->Den K G d v->Dens K G ds vs->Cont K M k G H Q->r v vs H Q
theorem gG{T id:String}(pa:PlainAttrs T)(slot:Slot T name id)(hty:typeOf (.builtin id)=pure (.type "method_descriptor"))(hm:MtR X id r)(h:GE X o Γ M λd M1=>TyD T d M1/\GA X (e::es) Γ M1 λds M2=>OpM X.K r d ds M2 k)(hbase:attributeBase o name X.env (eval o X.env)=eval o X.env:=by rfl)(hfew:((dt cpos (je (e::es) X.env)).all (λx => !x.1)&&(backToKw cpos (keywordEach [] X.env)).all (λx=>x.1.isSome)
   && decide ((e::es).length+([]:List JY).length+(if ([]:List JY).isEmpty then 0 else 1)<30))=true:=by rfl)(hline:(apos.endLine==cpos.line)=true:=by rfl)(hs:je (e::es) X.env=(false,eval e X.env)::je es X.env:=by rfl)(hplain:(dt cpos (je es X.env)).any (·.1)=false:=by rfl):
  GE X (.Call (.Attribute o name apos) (e::es) [] cpos) Γ M k:=λσ G H Q en rl q=>by
 refine cB (aKV pa slot hty hm pU pUA hbase hfew hline hs hplain) ?_
 refine h σ G H _ en rl λv G1 H1 d M1 s1 e1 ⟨ty,h1⟩=>⟨ty.ok s1.rel e1,?_⟩
 exact h1 σ G1 H1 _ (en.up s1.gg) s1.rel λvs G2 H2 ds M2 s2 e2 h2=>h2 G2 H2 v vs Q s2.rel (e1.up s2.gg) e2 (q.up (s1.trans s2))
theorem g7{K:Fg}{a:Addr}(hm:M a=some (.lst ds))(hl:ds.length<sizeLine)(h:k .non (bZ M a (.lst (ds++[d])))):OpM K yM (.mt a) [d] M k:=λG H v vs Q rl e e2 q=>by
 obtain⟨u,rfl,du⟩:=dens1 e2
 obtain⟨_,ws,s,dn⟩:=rl.mem _ _ hm
 exact⟨a,ws,u,e.mt_,rfl,s,by rw[<- dn.len];exact hl,q _ _ _ _ _ (rl.wr hm (dn.append (b5 du cD))) qS h⟩
theorem iR{K:Fg}{sep:Str}{ys:List Str}(q1:Seq M d t (ys.map D.str))(h1:sep.length<=16)(h2:(ys.map (·.length)).sum+ys.length<=1048576)(h:k (.str (rg sep ys)) M):OpM K (rJoin K) (.str sep) [d] M k:=λG H v vs Q rl e e2 q=>by
 obtain⟨u,rfl,du⟩:=dens1 e2
 obtain⟨a,ws,ev,s,dn⟩:=q1.sq2 rl du
 subst ev
 rw[tH dn] at s
 exact⟨sep,a,ys,e.str_,rfl,s,h1,h2,q _ _ _ _ _ (Stp.refl rl) hV h⟩
end
end Z
namespace Z
open PySem L2
section
variable {a:Expr}{rest:List Expr}{lo hi:Option Expr}{ko:Option Int->Mem->Prop}
noncomputable def tUO(X:Cx)(e:Option Expr):TO:=λσ H Q=>∀pins s,Inv X pins σ H s->jd X.w.8 X.A (evalPart e X.env) (λu s'=>∃o H',Inv X pins σ H' s'/\sd u o/\Q o H') X.xe s
theorem pUO{e:Option Expr}:PO X e (tUO X e):=λpins s σ H Q I h=>h pins s I
theorem aC6{e:Option Expr}{t:TO}(p:PO X e t){Q:Option Int->Hp->Prop}(h:t σ H Q):tUO X e σ H Q:=λpins s I=>p pins s σ H Q I h
noncomputable def GO(X:Cx)(e:Option Expr)(Γ:Gm)(M:Mem)(ko:Option Int->Mem->Prop):Prop:=
 ∀σ G H Q,EnvR X.K G Γ σ->Rel X.K G H M->(∀o G' H' M',Stp X.K G H M G' H' M'->ko o M'->Q o H')->tUO X e σ H Q
theorem d7(h:ko none M):GO X none Γ M ko:=λσ G H Q en rl q=>aC6 aG7 (q _ _ _ _ (Stp.refl rl) h)
theorem d6(h:GE X e Γ M λd M1=>∃i,d = .int i/\ko (some i) M1):GO X (some e) Γ M ko:=λσ G H Q en rl q=>aC6 (aGX pU) (h σ G H _ en rl λv G1 H1 d M1 s1 e1 ⟨i,ed,h1⟩=>by subst ed;exact⟨i,e1.int_,q _ _ _ _ s1 h1⟩)
abbrev R3:=V->Option Int->Option Int->Hp->VK->Prop
noncomputable def Op3(K:Fg)(r:R3)(d:D)(l u:Option Int)(M:Mem)(k:D->Mem->Prop):Prop:=∀G H v Q,Rel K G H M->Den K G d v->Cont K M k G H Q->r v l u H Q
theorem dC{r:R3}(hr:SlR X r)(h:GE X e Γ M λd M1=>GO X lo Γ M1 λl M2=>GO X hi Γ M2 λu M3=>Op3 X.K r d l u M3 k):GE X (.Subscript e (.Slice lo hi none p2) pos) Γ M k:=λσ G H Q en rl q=>by
 refine cB (aDQ hr pU pUO pUO) ?_
 refine h σ G H _ en rl λv G1 H1 d M1 s1 e1 h1 => ?_
 refine h1 σ G1 H1 _ (en.up s1.gg) s1.rel λl G2 H2 M2 s2 h2 => ?_
 refine h2 σ G2 H2 _ (en.up (s1.trans s2).gg) s2.rel λu G3 H3 M3 s3 h3 => ?_
 exact h3 G3 H3 v Q s3.rel (e1.up (s2.trans s3).gg) (q.up ((s1.trans s2).trans s3))
noncomputable def cutD{α:Type}(xs:List α)(lo hi:Option Int):List α:=(xs.drop (HT.sIx xs.length 0 lo)).take (HT.sIx xs.length xs.length hi-HT.sIx xs.length 0 lo)
theorem Dens.cut{K:Fg}{vs:List V}(h:Dens K G ds vs)(l u:Option Int):Dens K G (cutD ds l u) (kC vs l u):=by
 unfold cutD kC
 rw[<- h.len]
 exact (h.drop _).take _
theorem gJ{K:Fg}{l u:Option Int}(q1:Seq M d true ds)(h:k (.lst (cutD ds l u)) M):Op3 K (rSlL K) d l u M k:=λG H v Q rl e q=>by
 obtain⟨a,vs,ev,s,dn⟩:=q1.sq rl e
 refine⟨a,vs,ev,s,λp hp => ?_⟩
 have st:=rl.new (o := .lst (kC vs l u)) hp
 exact q _ _ _ _ _ st (fN bF ((dn.cut l u).up st.gg)) h
structure YD(K:Fg)(J:It)(ds:List D)(G0:Hp):Prop where
 go:∀i G H M,Same G0 G->Rel K G H M->i<ds.length->J.go i H
 yld:∀i G H M x H',Same G0 G->Rel K G H M->i<ds.length->J.yld i H x H'->∃G' d,Stp K G H M G' H' M/\ds[i]?=some d/\Den K G' d x
 stop:∀i G H M,Same G0 G->Rel K G H M->i=ds.length->J.stop i H
theorem yI{K:Fg}{a:Addr}{vs:List V}(s:SqL K G0 a vs)(dn:Dens K G0 ds vs):YD K (Itl K a) ds G0 where
 go:=λi G H M sg rl h=>rJ.go i H (rl.same.seq (sg.seq s)) (by rw[<- dn.len];exact h)
 yld:=λi G H M x H' sg rl h y=>by
  obtain⟨e,hx⟩:=rJ.yld i H x H' (rl.same.seq (sg.seq s)) y (by rw[<- dn.len];exact h)
  subst e
  obtain⟨d,hd,e⟩:=dn.get' hx
  exact⟨G,d,Stp.refl rl,hd,e.up sg⟩
 stop:=λi G H M sg rl h=>rJ.stop i H (rl.same.seq (sg.seq s)) (by rw[<- dn.len];exact x9 h.symm)
theorem aJK{K:Fg}{a:Addr}{vs:List V}(s:SqT K G0 a vs)(dn:Dens K G0 ds vs):YD K (Itt K a) ds G0 where
 go:=λi G H M sg rl h=>uC.go i H (R.iU rl.same (R.iU sg s)) (by rw[<- dn.len];exact h)
 yld:=λi G H M x H' sg rl h y=>by
  obtain⟨e,hx⟩:=uC.yld i H x H' (R.iU rl.same (R.iU sg s)) y (by rw[<- dn.len];exact h)
  subst e
  obtain⟨d,hd,e⟩:=dn.get' hx
  exact⟨G,d,Stp.refl rl,hd,e.up sg⟩
 stop:=λi G H M sg rl h=>uC.stop i H (R.iU rl.same (R.iU sg s)) (by rw[<- dn.len];exact x9 h.symm)
noncomputable def nI(lo:Int)(n:Nat):List D:=(qy n).map λi=>D.int (lo+(i:Nat))
theorem bN(lo:Int)(n:Nat):(nI lo n).length=n:=by simp[nI]
theorem cY{lo:Int}(h:(nI lo n)[i]?=some d):i<n/\d = .int (lo+(i:Nat)):=by
 have hi:i<n:=by rw[<- bN lo n];exact (zGs h).1
 simp[nI,hi] at h
 exact⟨hi,h.symm⟩
theorem aBQ{K:Fg}{lo:Int}:YD K (Itr lo n) (nI lo n) G0 where
 go:=λi G H M sg rl h=>by rw[bN] at h;exact h
 yld:=λi G H M x H' sg rl h y=>by
  obtain⟨e,hx⟩:=y
  subst e hx
  rw[bN] at h
  exact⟨G,_,Stp.refl rl,by simp[nI,h],dB⟩
 stop:=λi G H M sg rl h=>by rw[bN] at h;exact x9 h.symm
noncomputable def eV(x:Str):List D:=x.cps.toList.map λc=>D.str ⟨#[c]⟩
theorem dD(x:Str):(eV x).length=x.length:=by simp[eV,gu]
theorem aIZ{K:Fg}:YD K (Its x) (eV x) G0 where
 go:=λi G H M sg rl h=>by rw[dD] at h;exact h
 yld:=λi G H M v H' sg rl h y=>by
  obtain⟨e,c,hc,ev⟩:=y
  subst e ev
  exact⟨G, .str ⟨#[c]⟩,Stp.refl rl,by simp only[eV,qg,wu,hc,vp],hV⟩
 stop:=λi G H M sg rl h=>by rw[dD] at h;exact x9 h.symm
noncomputable def GI(X:Cx)(tg iter:Expr)(Γ:Gm)(M:Mem)(ki:List D->Mem->Prop):Prop:=
 ∀σ G H R,EnvR X.K G Γ σ->Rel X.K G H M->(∀J G' H' ds M',Stp X.K G H M G' H' M'->YD X.K J ds G'->ki ds M'->R J H')->tUI X tg iter σ H R
noncomputable def iAny(K:Fg)(tl:TE):TI:=λσ H R=>tl σ H λx H1=>∃a,x = .ref a/\(((∃xs,SqL K H1 a xs)/\R (Itl K a) H1)\/((∃xs,SqT K H1 a xs)/\R (Itt K a) H1))
theorem aIV{l:Expr}{tl:TE}(hl:PE X l tl):PI X tg l (iAny X.K tl):=by
 intro pins s σ H R I h
 refine thn (hl pins s σ H _ I h) λv s1 ⟨x,H1,I1,r1,q1⟩ => ?_
 obtain⟨a,e,q⟩:=q1
 subst e
 cases r1
 have fp:∀b∈[s1.heap.objs.size],jK X pins H1 b:=λb hb=>by
  have e:b=s1.heap.objs.size:=by simpa using hb
  subst e
  exact I1.fpOk (qm _) (I1.hok.fresh (qm _))
 rcases q with ⟨⟨xs,hq⟩,q⟩|⟨⟨xs,hq⟩,q⟩
 ·obtain⟨its,r',pl,hz⟩:=I1.list hq
  refine ck pl.isList ?_
  exact⟨s1.heap.objs.size,[s1.heap.objs.size],_,Itl X.K a,H1,rfl,I1.kept (t':=s1.toks) λb o e=>qb _ e,aBR a _,⟨_,qh _ rfl,rfl,rfl⟩,fp,q⟩
 ·obtain⟨its,r',pl,hz⟩:=I1.tuple hq
  refine si pl ?_
  exact⟨s1.heap.objs.size,[s1.heap.objs.size],_,Itt X.K a,H1,rfl,I1.kept (t':=s1.toks) λb o e=>qb _ e,zT a _,⟨_,qh _ rfl,rfl,rfl⟩,fp,q⟩
theorem bR(h:GE X iter Γ M λd M1=>∃ds,(d = .tup ds\/d = .lst ds\/d = .fl ds)/\ki ds M1):GI X tg iter Γ M ki:=λσ G H Rr en rl q=>by
 refine kW (aIV pU) ?_
 refine h σ G H _ en rl λv G1 H1 d M1 s1 e1 ⟨ds,ed,h1⟩ => ?_
 rcases ed with rfl|rfl|rfl
 ·obtain⟨a,vs,ev,s,dn⟩:=e1.tup_
  exact⟨a,ev, .inr ⟨⟨vs,R.iU s1.rel.same s⟩,q _ _ _ _ _ s1 (aJK s dn) h1⟩⟩
 ·obtain⟨a,vs,ev,s,dn⟩:=e1.lst_
  exact⟨a,ev, .inl ⟨⟨vs,SqL.of (s1.rel.same _ _ s)⟩,q _ _ _ _ _ s1 (yI (SqL.of s) dn) h1⟩⟩
 ·obtain⟨a,vs,ev,s,dn⟩:=e1.fl_
  exact⟨a,ev, .inl ⟨⟨vs,s1.rel.same.seq s⟩,q _ _ _ _ _ s1 (yI s dn) h1⟩⟩
theorem fY{p:Pos}(hm:X.mg "range" = none)(h:GA X [a] Γ M λds M1=>∃j:Int,ds=[.int j] /\ -(2^62)<=j/\j<2^62/\ki (nI 0 j.toNat) M1)(hg:Gl X "range" := by rfl)(hs:je [a] X.env=[(false,eval a X.env)]:=by rfl):GI X tg (.Call (.Name "range" p) [a] [] pos) Γ M ki:=λσ G H R en rl q=>by
 refine kW (aBW hg hm pUA hs) ?_
 refine h σ G H _ en rl λvs G1 H1 ds M1 s1 e1 ⟨j,ed,h1,h2,h3⟩ => ?_
 subst ed
 obtain⟨v,rfl,dv⟩:=dens1 e1
 rw[dv.int_]
 exact⟨j,rfl,h1,h2,q _ _ _ _ _ s1 aBQ h3⟩
theorem yA{p:Pos}(hm:X.mg "range" = none)(h:GA X [a,b] Γ M λds M1=>∃i j:Int,ds=[.int i, .int j]/\(-(2^62)<=i/\i<2^62 /\ -(2^62)<=j/\j<2^62)/\ki (nI i (j-i).toNat) M1)(hg:Gl X "range" := by rfl)(hs:je [a,b] X.env=[(false,eval a X.env),(false,eval b X.env)]:=by rfl)(hs2:je [b] X.env=[(false,eval b X.env)]:=by rfl):GI X tg (.Call (.Name "range" p) [a,b] [] pos) Γ M ki:=λσ G H R en rl q=>by
 refine kW (aBF hg hm pUA hs hs2) ?_
 refine h σ G H _ en rl λvs G1 H1 ds M1 s1 e1 ⟨i,j,ed,h1,h3⟩ => ?_
 subst ed
 obtain⟨v,u,rfl,dv,du⟩:=dens2 e1
 rw[dv.int_,du.int_]
 exact⟨i,j,rfl,h1,q _ _ _ _ _ s1 aBQ h3⟩
theorem aCL(h:GE X iter Γ M λd M1=>∃x,d = .str x/\ki (eV x) M1):GI X tg iter Γ M ki:=λσ G H R en rl q=>by
 refine kW (aJP pU) ?_
 exact h σ G H _ en rl λv G1 H1 d M1 s1 e1 ⟨x,ed,h1⟩=>by subst ed;exact⟨x,e1.str_,q _ _ _ _ _ s1 aIZ h1⟩
end
section
variable {K:Fg}
theorem join_some{α:Type}{o:Option (Option α)}{x:α}(h:o.join=some x):o=some (some x):=by
 cases o with
 |none=>cases h
 |some y=>cases y with
  |none=>cases h
  |some z=>cases h;rfl
theorem EnvR.cap(h:EnvR K G Γ σ)(e:Den K G d v)(cap:List Nat):EnvR K G (some d::cap.map λk=>(Γ[k]?).join) (some v::cap.map λk=>(σ[k]?).join):=by
 refine⟨by simp,λi c q => ?_⟩
 cases i with
 |zero=>simp at q;subst q;exact⟨v,rfl,e⟩
 |succ i =>
  rw[zv,qg] at q ⊢
  cases hc:cap[i]? with
  |none=>rw[hc] at q;cases q
  |some j =>
   rw[hc,vp] at q
   have q':(Γ[j]?).join=some c:=by injection q
   obtain⟨u,a,b⟩:=h.get j c (join_some q')
   exact⟨u,by rw[vp,a];rfl,b⟩
theorem Stp.aside{H0:Hp}{M0:Mem}{p:Addr}{o:HO}(s:Stp K G0 H0 M0 G H M)(h0:H0 p=none)(hg:G p=none)(hm:M p=none):Stp K G0 H0 M0 G (upd H p o) M:=by
 refine⟨s.gg,⟨λb u e => ?_,λa m e => ?_⟩,λa u e1 e2 e3 => ?_⟩
 ·rw[aU (bH e hg)];exact s.rel.same b u e
 ·have z:a≠p:=λz=>by rw[z,hm] at e;cases e
  exact⟨(s.rel.mem a m e).1,(s.rel.mem a m e).2.mv (Same.refl G) (aU z)⟩
 ·obtain⟨x,y,z⟩:=s.fr a u e1 e2 e3
  exact⟨by rw[aU (bH e1 h0)];exact x,y,z⟩
theorem Stp.track{H0:Hp}{M0:Mem}{p:Addr}{vs:List V}(s:Stp K G0 H0 M0 G H M)(h0:H0 p=none)(hg:G p=none)(hp:H p=some (.lst vs))(dn:Dens K G ds vs):Stp K G0 H0 M0 G H (bZ M p (.lst ds)):=by
 refine⟨s.gg,⟨s.rel.same,λa m e => ?_⟩,λa u e1 e2 e3 => ?_⟩
 ·by_cases z:a=p
  ·subst z
   rw[aT] at e;cases e
   exact⟨hg,vs,hp,dn⟩
  ·rw[cL z] at e;exact s.rel.mem a m e
 ·obtain⟨x,y,z⟩:=s.fr a u e1 e2 e3
  exact⟨x,y,by rw[cL (bH e1 h0)];exact z⟩
end
noncomputable def aAN(Y:Cx)(ifs:List Expr):TT:=λσ H Q=>∀pins s,Inv Y pins σ H s ->
  jd (jq Y.prog Y.w) Y.A (forIn ifs true λc r=>if r=true then do let ok <- isTrue c Y.env (eval c Y.env);pure (wg ok) else pure (wg r)) (TP Y pins σ Q) Y.xe s
noncomputable def GIf(Y:Cx)(ifs:List Expr)(Γ:Gm)(M:Mem)(kb:Bool->Mem->Prop):Prop:=
 ∀σ G H Q,EnvR Y.K G Γ σ->Rel Y.K G H M->nU Y.K M kb G H Q->aAN Y ifs σ H Q
theorem bG{Y:Cx}(h:kb true M):GIf Y [] Γ M kb:=λσ G H Q en rl q pins s I=>aGK pins s σ H Q I (q _ _ _ _ (Stp.refl rl) h)
theorem rD{Y:Cx}(h:GT Y c Γ M kb):GIf Y [c] Γ M kb:=λσ G H Q en rl q pins s I=>aHD pUT pins s σ H Q I (h σ G H Q en rl q)
noncomputable def Comp(X:Cx)(x:Str)(ns:List Str)(cap:List Nat)(elt:Expr)(ifs:List Expr)(scope:Scope)(Γ:Gm)(k:D->Mem->Prop)(ds:List D)(M1:Mem):Prop:=
 ds.length<=sizeLine/\∃I:Nat->List D->Mem->Prop,I 0 [] M1 /\
  (∀i d acc M2,ds[i]?=some d->I i acc M2->∀cs C s₀ H₀ fp,GIf fp.11 ifs (some d::cap.map λk=>(Γ[k]?).join) M2 λc M3 =>
   if c=true then (∀cs C s₀ H₀ fp,GE fp.11 elt (some d::cap.map λk=>(Γ[k]?).join) M3 (λy M4=>I (i+1) (acc++[y]) M4)) else I (i+1) acc M3) /\
  (∀acc M2,I ds.length acc M2->∀a,M2 a=none->k (.mt a) (bZ M2 a (.lst acc)))
theorem aDF{cap:List Nat}(h:GI X (.Name x px) iter Γ M (Comp X x ns cap elt ifs scope Γ k)){Q:VK}(en:EnvR X.K G Γ σ)(rl:Rel X.K G H M)(q:Cont X.K M k G H Q):
  oH (tUI X (.Name x px) iter) cap (λσ H Q=>∀cs C s₀ H₀ fp,aAN fp.11 ifs σ H Q) (λσ H Q=>∀cs C s₀ H₀ fp,tU fp.11 elt σ H Q) σ H Q:=by
 refine h σ G H _ en rl λJ G1 H1 ds M1 s1 yd ⟨hlen,I,h0,hstep,hend⟩ A hA => ?_
 have hA':=s1.rel.free hA
 refine⟨λi m ys H2=>m=ds.length-i/\i<=ds.length/\∃G2 M2 acc,Stp X.K G1 H1 M1 G2 H2 M2/\H2 A=some (.lst ys)/\G2 A=none/\M2 A=none/\Dens X.K G2 acc ys/\I i acc M2/\acc.length<=i,
  ⟨ds.length,by simp,vw _,G1,M1,[],(Stp.refl s1.rel).aside hA hA'.1 hA'.2,bF,hA'.1,hA'.2,cD,h0,qm _⟩,?_⟩
 rintro i m ys H2 ⟨rfl,hi,G2,M2,acc,s2,hl,hg,hm,dn,hI,hacc⟩
 refine⟨hl,?_⟩
 by_cases hlt:i<ds.length
 ·refine .inr ⟨yd.go i G2 H2 M2 s2.gg s2.rel hlt,by rw[<- dn.len];omega,λx H3 y => ?_⟩
  obtain⟨G3,d,s3,hd,ex⟩:=yd.yld i G2 H2 M2 x H3 s2.gg s2.rel hlt y
  obtain⟨l3,g3,m3⟩:=s3.fr A _ hl hg hm
  intro cs C s₀ H₀ fp
  have en3:=((en.up s1.gg).up (s2.trans s3).gg).cap ex cap
  refine hstep i d acc M2 hd hI cs C s₀ H₀ fp _ G3 H3 _ en3 s3.rel λc G4 H4 M4 s4 h4 => ?_
  obtain⟨l4,g4,m4⟩:=s4.fr A _ l3 g3 m3
  cases c with
  |true =>
   rw[if_pos rfl] at h4 ⊢
   intro cs C s₀ H₀ fp
   refine h4 cs C s₀ H₀ fp _ G4 H4 _ (en3.up s4.gg) s4.rel λy G5 H5 d5 M5 s5 e5 h5 => ?_
   obtain⟨l5,g5,m5⟩:=s5.fr A _ l4 g4 m4
   have s25:=((s2.trans s3).trans s4).trans s5
   exact⟨l5,ds.length-(i+1),by omega,rfl,hlt,G5,M5,acc++[d5],s25.aside hA g5 m5,bF,g5,m5,(dn.up ((s3.trans s4).trans s5).gg).append (b5 e5 cD),h5,by rw[ja,gj];omega⟩
  |false =>
   rw[if_neg zBf] at h4 ⊢
   exact⟨ds.length-(i+1),by omega,rfl,hlt,G4,M4,acc,(s2.trans s3).trans s4,l4,g4,m4,dn.up (s3.trans s4).gg,h4,by omega⟩
 ·have e:i=ds.length:=by omega
  subst e
  exact .inl ⟨yd.stop _ G2 H2 M2 s2.gg s2.rel rfl,q _ _ _ _ _ (s1.trans (s2.track hA hg hl dn)) mQ (hend acc M2 hI A hm)⟩
end Z
namespace Z
open PySem L2
section
variable {F:Fin}{a:Expr}{ss body:List Stmt}
theorem aH5{sc:Scope}(ns:List Str)(cap:List Nat)(h:GI X (.Name x px) iter Γ M (Comp X x ns cap elt ifs scope Γ k))(hsc:X.env.scope=sc:=by rfl)(hN:X.N=N:=by rfl)(ok:iK sc scope x ns cap N=true:=by first|decide +kernel|kernel_rfl!)(hc:X.calm=true:=by rfl)(hs:∀v,foldedSetIterable iter X.env v=pure v:=by intro _;rfl):
  GE X '+' Γ M k:=λσ G H Q en rl q =>
 cB (aDJ ns cap hc hsc hN ok pUI (λcs C s₀ H₀ fp pins s σ H Q I h=>h cs C s₀ H₀ fp pins s I) (λcs C s₀ H₀ fp pins s σ H Q I h=>h cs C s₀ H₀ fp pins s I) hs) (aDF h en rl q)
noncomputable def aFI(X:Cx)(x:Str)(ns:List Str)(cap:List Nat)(elt:Expr)(ifs:List Expr)(scope:Scope)(Γ:Gm)(k:D->Mem->Prop)(ds:List D)(M1:Mem):Prop:=
 ds.length<=sizeLine/\∃I:Nat->List D->Mem->Prop,I 0 [] M1 /\
  (∀i d acc M2,ds[i]?=some d->I i acc M2->∀cs C s₀ H₀ fp,GIf fp.11 ifs (some d::cap.map λk=>(Γ[k]?).join) M2 λc M3 =>
   if c=true then (∀cs C s₀ H₀ fp,GE fp.11 elt (some d::cap.map λk=>(Γ[k]?).join) M3 (λy M4=>I (i+1) (acc++[y]) M4)) else I (i+1) acc M3) /\
  (∀acc M2,I ds.length acc M2->k (.lst acc) M2)
theorem bB{sc:Scope}(ns:List Str)(cap:List Nat)(h:GI X (.Name x px) iter Γ M (aFI X x ns cap elt ifs scope Γ k))(hsc:X.env.scope=sc:=by rfl)(hN:X.N=N:=by rfl)(ok:iK sc scope x ns cap N=true:=by first|decide +kernel|kernel_rfl!)(hc:X.calm=true:=by rfl)(hs:∀v,foldedSetIterable iter X.env v=pure v:=by intro _;rfl):
  GE X '+' Γ M k:=by
 refine aAY (aH5 ns cap ?_ hsc hN ok hc hs)
 intro σ G H Rr en rl q
 refine h σ G H Rr en rl λJ G1 H1 ds M1 s1 yd ⟨hl,I,h0,hstep,hend⟩ => ?_
 exact q J G1 H1 ds M1 s1 yd ⟨hl,I,h0,hstep,λacc M2 hI a ha=>⟨a,acc,M2,rfl,aT,ha,(Le.refl M2).upd ha,hend acc M2 hI⟩⟩
theorem cA{cap:List Nat}(hl:ds.length<=sizeLine)(I:Nat->List D->Mem->Prop)(h0:I 0 [] M1)(hs:∀i d acc M2,ds[i]?=some d->I i acc M2->∀cs C s₀ H₀ fp,GIf fp.11 ifs (some d::cap.map λk=>(Γ[k]?).join) M2 λc M3 =>
   if c=true then (∀cs C s₀ H₀ fp,GE fp.11 elt (some d::cap.map λk=>(Γ[k]?).join) M3 (λy M4=>I (i+1) (acc++[y]) M4)) else I (i+1) acc M3)(hd:∀acc M2,I ds.length acc M2->k (.lst acc) M2):aFI X x ns cap elt ifs scope Γ k ds M1:=⟨hl,I,h0,hs,hd⟩
theorem bD(h:F.nx Γ M):GS X [] Γ M F:=λσ G H E en rl q=>rE aG6 (q.nx σ G H Γ M (Stp.refl rl) en h)
theorem aD(h:G1 X st Γ M {F with nx:=λΓ' M'=>GS X ss Γ' M' F}):GS X (st::ss) Γ M F:=λσ G H E en rl q=>by
 refine rE (aDO pUS rH) ?_
 refine h σ G H _ en rl ⟨λσ' G' H' Γ' M' s' en' h' => ?_,q.rt,q.bk,q.ct⟩
 exact h' σ' G' H' E en' s'.rel (q.up s')
theorem aH(h:G1 X st Γ M F):GS X [st] Γ M F:=λσ G H E en rl q=>rE (aH0 pUS) (h σ G H E en rl q)
theorem gO(i:Nat){a:Addr}(hΓ:Γ[i]?=some (some (.mt a)))(hM:M a=some (.lst ds))(h:GS X ss (Γ.set i (some (.lst ds))) (j5 M a) F):GS X ss Γ M F:=λσ G H E en rl q=>by
 obtain⟨vs,x1,x2,s1⟩:=rl.frz hM
 obtain⟨v,ev,dv⟩:=en.get i _ hΓ
 have dl:Den X.K (upd G a (.lst vs)) (.lst ds) v:=by rw[dv.mt_];exact fN bF (x2.up s1.gg)
 have en':=(en.up s1.gg).set dl i
 have es:σ.set i (some v)=σ:=by
  apply kj
  intro j
  rw[Jq]
  by_cases z:i=j
  ·subst z
   rw[if_pos rfl,if_pos (zGs ev).1,ev]
  ·rw[if_neg z]
 rw[es] at en'
 exact h σ _ H E en' s1.rel (q.up s1)
theorem aP(i:Nat)(hN:X.N.Nodup)(h:GE X e Γ M λd M1=>F.nx (Γ.set i (some d)) M1)(hi:X.N[i]?=some x:=by rfl)(hx:Loc X.env.scope x:=by first|exact pw rfl|exact fz rfl)(hs:mq e (some (.Name x pos')) pos.line X.env=pure false:=by rfl)(hf:X.fn x=true\/X.env.scope.names.lookup x=some .local:=by first|exact .inl rfl|exact .inr rfl):G1 X (.Assign [.Name x pos'] e pos) Γ M F:=λσ G H E en rl q=>by
 refine jG (aJF hN hi hx pU hs hf) ?_
 exact h σ G H _ en rl λv G1 H1 d M1 s1 e1 h1=>q.nx _ _ _ _ _ s1 ((en.up s1.gg).set e1 i) h1
theorem jN(iy:Nat){sc:Scope}(ns:List Str)(cap:List Nat)(hNd:N.Nodup)(h:GI X (.Name x px) iter Γ M (Comp X x ns cap elt ifs scope Γ λd M1=>F.nx (Γ.set iy (some d)) M1))(hsc:X.env.scope=sc:=by rfl)(hN:X.N=N:=by rfl)(ok:iK sc scope x ns cap N=true:=by first|decide +kernel|kernel_rfl!)(hiy:N[iy]?=some y:=by rfl)(hyl:sc.names.lookup y=some .local:=by rfl)(hc:X.calm=true:=by rfl)(hs:∀v,foldedSetIterable iter X.env v=pure v:=by intro _;rfl)(hsw:mq '+' (some (.Name y py)) spos.line X.env=pure true:=by rfl):
  G1 X (.Assign [.Name y py] '+' spos) Γ M F:=λσ G H E en rl q=>by
 refine jG (wJ (tt:=λσ H Q=>∀cs C s₀ H₀ fp,aAN fp.11 ifs σ H Q) (te:=λσ H Q=>∀cs C s₀ H₀ fp,tU fp.11 elt σ H Q) iy ns cap hNd hiy hyl hc hsc hN ok pUI (λcs C s₀ H₀ fp pins s σ H Q I h=>h cs C s₀ H₀ fp pins s I) (λcs C s₀ H₀ fp pins s σ H Q I h=>h cs C s₀ H₀ fp pins s I) hs hsw) ?_
 exact aDF h en rl λv G1 H1 d M1 s1 e1 h1=>q.nx _ _ _ _ _ s1 ((en.up s1.gg).set e1 iy) h1
theorem sY{cap:List Nat}(hl:ds.length<=sizeLine)(I:Nat->List D->Mem->Prop)(h0:I 0 [] M1)(hs:∀i d acc M2,ds[i]?=some d->I i acc M2->∀cs C s₀ H₀ fp,GIf fp.11 ifs (some d::cap.map λk=>(Γ[k]?).join) M2 λc M3 =>
   if c=true then (∀cs C s₀ H₀ fp,GE fp.11 elt (some d::cap.map λk=>(Γ[k]?).join) M3 (λy M4=>I (i+1) (acc++[y]) M4)) else I (i+1) acc M3)(hd:∀acc M2,I ds.length acc M2->∀a,M2 a=none->k (.mt a) (bZ M2 a (.lst acc))):Comp X x ns cap elt ifs scope Γ k ds M1:=
 ⟨hl,I,h0,hs,hd⟩
theorem kX(h:GE X e Γ M λd M1=>GG X tg d Γ M1 F.nx)(hs:swapsWithSole [tg] e pos.line X.env=pure false:=by rfl)(hw:swappedStores [tg] e X.env=pure none:=by rfl)(h1:(xm [tg] X.env).map (·.2)=[assign tg X.env]:=by rfl):G1 X (.Assign [tg] e pos) Γ M F:=λσ G H E en rl q=>by
 refine jG (aIR pU pUG hs hw h1) ?_
 exact h σ G H _ en rl λv G1 H1 d M1 s1 e1 h1=>h1 σ G1 H1 v _ (en.up s1.gg) s1.rel e1 (q.nx.up s1)
theorem cW(i:Nat)(hN:X.N.Nodup)(h:kg (Γ.set i (some d)) M)(hi:X.N[i]?=some x:=by rfl)(hx:Loc X.env.scope x:=by first|exact pw rfl|exact fz rfl)(hf:X.fn x=true\/X.env.scope.names.lookup x=some .local:=by first|exact .inl rfl|exact .inr rfl):GG X (.Name x pos) d Γ M kg:=λσ G H v Q en rl e q =>
 nJ (oG hN hi hx hf) (q _ _ _ _ _ (Stp.refl rl) (en.set e i) h)
theorem xS(h:kg Γ M):GGs X [] [] Γ M kg:=λσ G H vs Q en rl e q=>xK yK ⟨cK e,q _ _ _ _ _ (Stp.refl rl) en h⟩
theorem j8(h:GG X tg d Γ M λΓ1 M1=>GGs X tgs ds Γ1 M1 kg)(hs:(xm (tg::tgs) X.env).map (·.2)=assign tg X.env::(xm tgs X.env).map (·.2):=by rfl):GGs X (tg::tgs) (d::ds) Γ M kg:=λσ G H vs Q en rl e q=>by
 refine xK (oZ pUG aE5 hs) ?_
 obtain⟨v,r,ev,e1,e2⟩:=bX e
 refine⟨v,r,ev,h σ G H v _ en rl e1 λσ1 G1 H1 Γ1 M1 s1 en1 h1 => ?_⟩
 exact h1 σ1 G1 H1 r Q en1 s1.rel (e2.up s1.gg) (q.up s1)
theorem aJI(hl:ds.length=n)(h:GGs X tgs ds Γ M kg)(hc:X.calm=true:=by rfl)(hn:(xm tgs X.env).length=n:=by rfl)(hst:(xm tgs X.env).findIdx? (·.1)=none:=by rfl):
  GG X (.Tuple tgs kk pos) (.tup ds) Γ M kg:=λσ G H v Q en rl e q=>by
 refine nJ (aC8 hc aE5 hn hst) ?_
 obtain⟨a,vs,ev,s,dn⟩:=e.tup_
 exact⟨a,vs,ev,R.iU rl.same s,by rw[<- dn.len];exact hl,h σ G H vs Q en rl dn q⟩
theorem aIQ(hl:ds.length=n)(h:GGs X tgs ds Γ M kg)(hc:X.calm=true:=by rfl)(hn:(xm tgs X.env).length=n:=by rfl)(hst:(xm tgs X.env).findIdx? (·.1)=none:=by rfl):
  GG X (.Tuple tgs kk pos) (.lst ds) Γ M kg:=λσ G H v Q en rl e q=>by
 refine nJ (aIY hc aE5 hn hst) ?_
 obtain⟨a,vs,ev,s,dn⟩:=e.lst_
 exact⟨a,vs,ev,SqL.of (rl.same _ _ s),by rw[<- dn.len];exact hl,h σ G H vs Q en rl dn q⟩
theorem aAV{i:Expr}(h:GE X o Γ M λd1 M1=>GE X i Γ M1 λd2 M2=>∃a n j ds,d1 = .mt a/\d2 = .int n/\M2 a=some (.lst ds)/\ixN ds.length n=some j/\kg Γ (bZ M2 a (.lst (ds.set j d))))(ha:∀v,assign (.Subscript o i pos) X.env v=(do
   let ov <- cv [v] (eval o X.env)
   let iv <- cv [v,ov] (eval i X.env)
   QD pos
   cv [v,ov,iv] (VL ov iv v)
   release [v,ov,iv] []):=by intro _;rfl):GG X (.Subscript o i pos) d Γ M kg:=λσ G H v Q en rl e q=>by
 refine nJ (aC0 pU pU set_list ha) ?_
 refine h σ G H _ en rl λv1 G1 H1 d1 M1 s1 e1 h1 => ?_
 refine h1 σ G1 H1 _ (en.up s1.gg) s1.rel λv2 G2 H2 d2 M2 s2 e2 ⟨a,n,j,ds,x1,x2,hm,hj,h2⟩ => ?_
 subst x1 x2
 obtain⟨_,vs,es,dn⟩:=s2.rel.mem _ _ hm
 have s12:=s1.trans s2
 exact⟨a,vs,n,j,(e1.up s2.gg).mt_,e2.int_,es,by rw[<- dn.len];exact hj,q _ _ _ _ _ (s12.trans (s2.rel.wr hm (dn.set (e.up s12.gg) j))) (en.up s12.gg) h2⟩
theorem jV(h:GE X e Γ M λ_ M1=>F.nx Γ M1)(hs:mq e none pos.line X.env=pure false:=by rfl):G1 X (.Expr e pos) Γ M F:=λσ G H E en rl q =>
 jG (aGE pU hs) (h σ G H _ en rl λv G1 H1 d M1 s1 e1 h1=>q.nx _ _ _ _ _ s1 (en.up s1.gg) h1)
theorem aL(h:GE X e Γ M F.rt):G1 X (.Return (some e) pos) Γ M F:=λσ G H E en rl q=>jG (aJL pU) (h σ G H _ en rl q.rt)
theorem bK{ss1 ss2:List Stmt}(h:GT X c Γ M λt M1=>if t=true then GS X ss1 Γ M1 F else GS X ss2 Γ M1 F):G1 X (.If c ss1 ss2 pos) Γ M F:=λσ G H E en rl q=>by
 refine jG (aKR pUT rH rH) ?_
 refine h σ G H _ en rl λt G1 H1 M1 s1 h1 => ?_
 cases t with
 |true=>rw[if_pos rfl] at h1 ⊢;exact h1 σ G1 H1 E (en.up s1.gg) s1.rel (q.up s1)
 |false=>rw[if_neg zBf] at h1 ⊢;exact h1 σ G1 H1 E (en.up s1.gg) s1.rel (q.up s1)
theorem lE(P:Gm->Mem->Prop)(h:G1 X st Γ M {F with nx:=P})(h2:∀Γ' M',P Γ' M'->F.nx Γ' M'):G1 X st Γ M F:=λσ G H E en rl q=>h σ G H E en rl ⟨λσ' G' H' Γ' M' s' en' h'=>q.nx σ' G' H' Γ' M' s' en' (h2 _ _ h'),q.rt,q.bk,q.ct⟩
noncomputable def Loop(X:Cx)(tg:Expr)(body:List Stmt)(Γ:Gm)(F:Fin)(ds:List D)(M:Mem):Prop:=∃I:Nat->Gm->Mem->Prop,I 0 Γ M /\
 (∀i d Γ' M',ds[i]?=some d->I i Γ' M'->GG X tg d Γ' M' λΓ2 M2=>GS X body Γ2 M2 {F with nx:=I (i+1),ct:=I (i+1),bk:=F.nx})/\∀Γ' M',I ds.length Γ' M'->F.nx Γ' M'
theorem f8(h:GI X tg iter Γ M (Loop X tg body Γ F))(hp:Jw X.w.8 X.A X.env X.xe:=by exact QV)(hc:X.calm=true:=by rfl)(hs:∀x,foldedSetIterable iter X.env x=pure x:=by intro _;rfl):G1 X (.For tg iter body [] pos) Γ M F:=λσ G H E en rl q=>by
 refine jG (aJY hp hc pUI pUG rH hs) ?_
 refine h σ G H _ en rl λJ G1 H1 ds M1 s1 yd ⟨I,h0,hstep,hend⟩ => ?_
 refine⟨λi m σ' H'=>m=ds.length-i/\i<=ds.length/\∃G' Γ' M',Stp X.K G1 H1 M1 G' H' M'/\EnvR X.K G' Γ' σ'/\I i Γ' M',⟨ds.length,by simp,vw _,G1,Γ,M1,Stp.refl s1.rel,en.up s1.gg,h0⟩,?_⟩
 rintro i m σ2 H2 ⟨rfl,hi,G2,Γ2,M2,s2,en2,hI⟩
 by_cases hlt:i<ds.length
 ·refine .inr ⟨yd.go i G2 H2 M2 s2.gg s2.rel hlt,λσ' H'=>∃G' Γ' M',Stp X.K G1 H1 M1 G' H' M'/\EnvR X.K G' Γ' σ'/\I (i+1) Γ' M',λσ' H' z=>⟨ds.length-(i+1),by omega,rfl,hlt,z⟩,λx H3 y => ?_⟩
  obtain⟨G3,d,s3,hd,ex⟩:=yd.yld i G2 H2 M2 x H3 s2.gg s2.rel hlt y
  have s13:=s2.trans s3
  refine hstep i d Γ2 M2 hd hI σ2 G3 H3 x _ (en2.up s3.gg) s3.rel ex λσ4 G4 H4 Γ4 M4 s4 en4 h4 => ?_
  have s14:=s13.trans s4
  refine h4 σ4 G4 H4 _ en4 s4.rel ⟨λσ5 G5 H5 Γ5 M5 s5 en5 h5=>⟨G5,Γ5,M5,s14.trans s5,en5,h5⟩,q.rt.up (s1.trans s14),q.nx.up (s1.trans s14),λσ5 G5 H5 Γ5 M5 s5 en5 h5=>⟨G5,Γ5,M5,s14.trans s5,en5,h5⟩⟩
 ·have e:i=ds.length:=by omega
  subst e
  exact .inl ⟨yd.stop _ G2 H2 M2 s2.gg s2.rel rfl,q.nx _ _ _ _ _ (s1.trans s2) en2 (hend _ _ hI)⟩
theorem uO(I:Nat->Gm->Mem->Prop)(h0:I n Γ M)(hs:∀m Γ' M',I m Γ' M'->GT X c Γ' M' λt M1=>if t=true then GS X body Γ' M1 {F with nx:=λΓ2 M2=>∃m',m'<m/\I m' Γ2 M2,ct:=λΓ2 M2=>∃m',m'<m/\I m' Γ2 M2,bk:=F.nx} else F.nx Γ' M1)(hp:Jw X.w.8 X.A X.env X.xe:=by exact QV):G1 X (.While c body [] pos) Γ M F:=λσ G H E en rl q=>by
 refine jG (aFB hp pUT rH) ?_
 refine⟨λm σ' H'=>∃G' Γ' M',Stp X.K G H M G' H' M'/\EnvR X.K G' Γ' σ'/\I m Γ' M',⟨n,G,Γ,M,Stp.refl rl,en,h0⟩,?_⟩
 rintro m σ2 H2 ⟨G2,Γ2,M2,s2,en2,hI⟩
 refine hs m Γ2 M2 hI σ2 G2 H2 _ en2 s2.rel λt G3 H3 M3 s3 h3 => ?_
 have s13:=s2.trans s3
 cases t with
 |true =>
  rw[if_pos rfl] at h3 ⊢
  refine⟨λσ' H'=>∃m',m'<m/\∃G' Γ' M',Stp X.K G H M G' H' M'/\EnvR X.K G' Γ' σ'/\I m' Γ' M',λσ' H' z=>z,?_⟩
  refine h3 σ2 G3 H3 _ (en2.up s3.gg) s3.rel ⟨λσ5 G5 H5 Γ5 M5 s5 en5 ⟨m',hm,h5⟩=>⟨m',hm,G5,Γ5,M5,s13.trans s5,en5,h5⟩,q.rt.up s13,q.nx.up s13,λσ5 G5 H5 Γ5 M5 s5 en5 ⟨m',hm,h5⟩=>⟨m',hm,G5,Γ5,M5,s13.trans s5,en5,h5⟩⟩
 |false =>
  rw[if_neg zBf] at h3 ⊢
  exact q.nx _ _ _ _ _ s13 (en2.up s3.gg) h3
end
section
variable {K:Fg}
abbrev cxF(P:Program)(w:World)(K:Fg)(mg:Str->Option Value)(base:Heap)(N:List Str)(x:Str)(st:Stmt)(f:Addr)(cdv:Value)(A:Around)(outer:List Env)(s:Shared)(H:Hp)(E:XK):Cx:=
 (pB CX0 P w K mg base N x (aK st) f cdv A outer s H E).nox
theorem bL{ps:List Str}{F:Ct}(Df:R.Df K mg x st ps f fd)(S:FnScope N ps (aK st))(len:∀ds M k,F ds M k->ds.length=ps.length)(h:∀cdv A outer s H E,Room n (cxF P w K mg base N x st f cdv A outer s H E).A->∀ds M k,F ds M k ->
   GS (cxF P w K mg base N x st f cdv A outer s H E) (dI st) (ds.map some++kr (N.length-ds.length) none) M {nx:=λ_ M'=>k .non M',rt:=k}):FnOk P w K mg base CX0 (n+1) f fd ps (spZ K F):=by
 refine Df.F.ok S (λvs H Q E h => ?_) (λcdv A outer s H vs Q E hr hsp => ?_)
 ·obtain⟨G,M,ds,k,rl,dn,hF,_⟩:=h
  rw[<- dn.len];exact len _ _ _ hF
 ·obtain⟨G,M,ds,k,rl,dn,hF,q⟩:=hsp
  refine⟨_,rH,?_⟩
  refine h cdv A outer s H E hr ds M k hF (start N vs) G H _ (EnvR.start dn N.length) rl ⟨λσ' G' H' Γ' M' s' en' h'=>q _ _ _ _ _ s' qS h',q,λ_ _ _ _ _ _ _ h'=>h'.elim,λ_ _ _ _ _ _ _ h'=>h'.elim⟩
end
end Z
namespace Z
open PySem L2
mutual
noncomputable def eqD:D->D->Bool
 |.non, .non=>true
 |.bl a, .bl b=>a==b
 |.int a, .int b=>a==b
 |.bl a, .int b=>(if a then 1 else 0)==b
 |.int a, .bl b=>a==(if b then 1 else 0)
 |.str a, .str b=>a==b
 |.tup xs, .tup ys=>eqDs xs ys
 |.lst xs, .lst ys=>eqDs xs ys
 |_,_=>false
noncomputable def eqDs:List D->List D->Bool
 |[],[]=>true
 |x::xs,y::ys=>eqD x y&&eqDs xs ys
 |_,_=>false
end
mutual
noncomputable def okD:Nat->D->Bool
 |_, .non|_, .bl _|_, .int _|_, .str _=>true
 |n+1, .tup ds=>okDs n ds
 |n+1, .lst ds=>okDs n ds
 |_,_=>false
noncomputable def okDs:Nat->List D->Bool
 |_,[]=>true
 |n,d::ds=>okD n d&&okDs n ds
end
mutual
theorem eqD_refl:∀(n:Nat) (d:D),okD n d=true->eqD d d=true
 |_, .non,_=>by simp only[eqD]
 |_, .bl _,_=>by simp only[eqD,beq_self_eq_true]
 |_, .int _,_=>by simp only[eqD,beq_self_eq_true]
 |_, .str _,_=>by simp only[eqD,beq_self_eq_true]
 |n+1, .tup ds,h=>by simp only[okD] at h;simp only[eqD];exact eqDs_refl n ds h
 |n+1, .lst ds,h=>by simp only[okD] at h;simp only[eqD];exact eqDs_refl n ds h
 |0, .tup _,h=>by simp[okD] at h
 |0, .lst _,h=>by simp[okD] at h
 |_, .mt _,h=>by simp[okD] at h
 |_, .fl _,h=>by simp[okD] at h
theorem eqDs_refl:∀(n:Nat) (ds:List D),okDs n ds=true->eqDs ds ds=true
 |_,[],_=>by simp only[eqDs]
 |n,d::ds,h=>by
  simp only[okDs,qp] at h
  simp only[eqDs,eqD_refl n d h.1,eqDs_refl n ds h.2,xn]
end
noncomputable def eqJ(xs ys:List D)(j:Nat):Bool:=match xs[j]?,ys[j]? with
 |some x,some y=>eqD x y
 |_,_=>true
theorem fS:∀(xs ys:List D),((qy (min xs.length ys.length)).all (eqJ xs ys)&&xs.length==ys.length)=eqDs xs ys
 |[],[]=>by simp[eqDs]
 |[],_::_=>by simp[eqDs]
 |_::_,[]=>by simp[eqDs]
 |x::xs,y::ys=>by
  have ih:=fS xs ys
  simp only[eqDs,<- ih,jb]
  rw[show min (xs.length+1) (ys.length+1)=min xs.length ys.length+1 by omega,fq,cm,rd]
  have e1:eqJ (x::xs) (y::ys) 0=eqD x y:=rfl
  have e2:(eqJ (x::xs) (y::ys)) ∘ Nat.succ=eqJ xs ys:=by funext j;rfl
  rw[e1,e2,Bool.and_assoc]
  congr 2
  by_cases h:xs.length=ys.length
  ·rw[h];simp
  ·rw[beq_eq_false_iff_ne.mpr h,beq_eq_false_iff_ne.mpr '!']
section
mutual
theorem den_inj(I:Inv X pins σ H s):∀(n:Nat) (d e:D) (v:V),okD n d=true->okD n e=true->Den X.K H d v->Den X.K H e v->d=e
 |n, .non,e,v,h1,h2,x,y=>by
  rw[x.non_] at y
  cases e with
  |non=>rfl
  |bl b=>have:=y.bl_;cases this
  |int b=>have:=y.int_;cases this
  |str b=>have:=y.str_;cases this
  |mt b=>have:=y.mt_;cases this
  |tup b=>obtain⟨_,_,q,_⟩:=y.tup_;cases q
  |lst b=>obtain⟨_,_,q,_⟩:=y.lst_;cases q
  |fl b=>obtain⟨_,_,q,_⟩:=y.fl_;cases q
  |st b=>obtain⟨_,_,_,q,_⟩:=y.st_;cases q
 |n, .bl b,e,v,h1,h2,x,y=>by
  rw[x.bl_] at y
  cases e with
  |non=>have:=y.non_;cases this
  |bl b=>have:=y.bl_;cases this;rfl
  |int b=>have:=y.int_;cases this
  |str b=>have:=y.str_;cases this
  |mt b=>have:=y.mt_;cases this
  |tup b=>obtain⟨_,_,q,_⟩:=y.tup_;cases q
  |lst b=>obtain⟨_,_,q,_⟩:=y.lst_;cases q
  |fl b=>obtain⟨_,_,q,_⟩:=y.fl_;cases q
  |st b=>obtain⟨_,_,_,q,_⟩:=y.st_;cases q
 |n, .int b,e,v,h1,h2,x,y=>by
  rw[x.int_] at y
  cases e with
  |non=>have:=y.non_;cases this
  |bl b=>have:=y.bl_;cases this
  |int b=>have:=y.int_;cases this;rfl
  |str b=>have:=y.str_;cases this
  |mt b=>have:=y.mt_;cases this
  |tup b=>obtain⟨_,_,q,_⟩:=y.tup_;cases q
  |lst b=>obtain⟨_,_,q,_⟩:=y.lst_;cases q
  |fl b=>obtain⟨_,_,q,_⟩:=y.fl_;cases q
  |st b=>obtain⟨_,_,_,q,_⟩:=y.st_;cases q
 |n, .str b,e,v,h1,h2,x,y=>by
  rw[x.str_] at y
  cases e with
  |non=>have:=y.non_;cases this
  |bl b=>have:=y.bl_;cases this
  |int b=>have:=y.int_;cases this
  |str b=>have:=y.str_;cases this;rfl
  |mt b=>have:=y.mt_;cases this
  |tup b=>obtain⟨_,_,q,_⟩:=y.tup_;cases q
  |lst b=>obtain⟨_,_,q,_⟩:=y.lst_;cases q
  |fl b=>obtain⟨_,_,q,_⟩:=y.fl_;cases q
  |st b=>obtain⟨_,_,_,q,_⟩:=y.st_;cases q
 |n, .mt _,_,_,h1,_,_,_=>by simp[okD] at h1
 |n, .fl _,_,_,h1,_,_,_=>by simp[okD] at h1
 |0, .tup _,_,_,h1,_,_,_=>by simp[okD] at h1
 |0, .lst _,_,_,h1,_,_,_=>by simp[okD] at h1
 |n+1, .tup ds,e,v,h1,h2,x,y=>by
  obtain⟨a,vs,rfl,sq,dn⟩:=x.tup_
  cases e with
  |non=>have:=y.non_;cases this
  |bl b=>have:=y.bl_;cases this
  |int b=>have:=y.int_;cases this
  |str b=>have:=y.str_;cases this
  |mt b=>simp[okD] at h2
  |fl b=>simp[okD] at h2
  |st b=>simp[okD] at h2
  |tup es =>
   obtain⟨b,ws,q,sq2,dn2⟩:=y.tup_
   cases q
   rw[<- I.tuple_inj sq sq2] at dn2
   simp only[okD] at h1 h2
   rw[dens_inj I n ds es vs h1 h2 dn dn2]
  |lst es =>
   obtain⟨b,ws,q,sq2,dn2⟩:=y.lst_
   cases q
   exfalso
   obtain⟨its,_,pt,_⟩:=I.tuple sq
   obtain⟨jts,_,pl,_⟩:=I.list (SqL.of sq2)
   obtain⟨o,e1,c1,_⟩:=pt
   obtain⟨o2,n2,e2,c2,_⟩:=pl
   rw[e1] at e2;cases e2
   rw[c1] at c2;exact absurd c2 '$'
 |n+1, .lst ds,e,v,h1,h2,x,y=>by
  obtain⟨a,vs,rfl,sq,dn⟩:=x.lst_
  cases e with
  |non=>have:=y.non_;cases this
  |bl b=>have:=y.bl_;cases this
  |int b=>have:=y.int_;cases this
  |str b=>have:=y.str_;cases this
  |mt b=>simp[okD] at h2
  |fl b=>simp[okD] at h2
  |st b=>simp[okD] at h2
  |lst es =>
   obtain⟨b,ws,q,sq2,dn2⟩:=y.lst_
   cases q
   rw[sq] at sq2;cases sq2
   simp only[okD] at h1 h2
   rw[dens_inj I n ds es vs h1 h2 dn dn2]
  |tup es =>
   obtain⟨b,ws,q,sq2,dn2⟩:=y.tup_
   cases q
   exfalso
   obtain⟨its,_,pt,_⟩:=I.tuple sq2
   obtain⟨jts,_,pl,_⟩:=I.list (SqL.of sq)
   obtain⟨o,e1,c1,_⟩:=pt
   obtain⟨o2,n2,e2,c2,_⟩:=pl
   rw[e1] at e2;cases e2
   rw[c1] at c2;exact absurd c2 '$'
theorem dens_inj(I:Inv X pins σ H s):∀(n:Nat) (ds es:List D) (vs:List V),okDs n ds=true->okDs n es=true->Dens X.K H ds vs->Dens X.K H es vs->ds=es
 |_,[],es,vs,_,_,x,y=>by
  rw[cK x] at y
  cases es with
  |nil=>rfl
  |cons e es=>obtain⟨_,_,q,_⟩:=bX y;cases q
 |n,d::ds,es,vs,h1,h2,x,y=>by
  obtain⟨v,r,rfl,a,b⟩:=bX x
  cases es with
  |nil=>have:=cK y;cases this
  |cons e es =>
   obtain⟨_,_,q,a2,b2⟩:=bX y
   cases q
   simp only[okDs,qp] at h1 h2
   rw[den_inj I n d e v h1.1 h2.1 a a2,dens_inj I n ds es r h1.2 h2.2 b b2]
end
end
end Z
namespace Z
open PySem L2
section
theorem dF(I:Inv X pins σ H s)(h:Den X.K H (.tup ds) v)(r:RelV v u):∃a its vs,u = .ref a/\s.heap.IsTuple a (Kz its)/\Vals vs its/\Dens X.K H ds vs:=by
 obtain⟨a,vs,rfl,sq,dn⟩:=h.tup_
 obtain⟨its,rv,pt,_⟩:=I.tuple sq
 exact⟨a,its,vs,r,pt,rv,dn⟩
theorem dE(I:Inv X pins σ H s)(h:Den X.K H (.lst ds) v)(r:RelV v u):∃a its vs,u = .ref a/\s.heap.IsList a (Kz its)/\Vals vs its/\Dens X.K H ds vs:=by
 obtain⟨a,vs,rfl,sq,dn⟩:=h.lst_
 obtain⟨its,rv,pt,_⟩:=I.list (SqL.of sq)
 exact⟨a,its,vs,r,pt.isList,rv,dn⟩
theorem cF:∀{n:Nat}{ds:List D}{j:Nat}{d:D},okDs n ds=true->ds[j]?=some d->okD n d=true
 |_,[],_,_,_,e=>by simp at e
 |n,d0::ds,0,d,h,e=>by simp at e;subst e;simp only[okDs,qp] at h;exact h.1
 |n,d0::ds,j+1,d,h,e=>by simp only[okDs,qp] at h;exact cF (j:=j) h.2 (by simpa using e)
theorem dZ{vs:List V}(dn:Dens X.K H ds vs)(rv:Vals vs its)(h:j<its.toArray.size):∃d v,ds[j]?=some d/\Den X.K H d v/\RelV v its.toArray[j]:=by
 obtain⟨v,e1,r1⟩:=q5 rv h
 obtain⟨d,e2,q⟩:=dn.get' e1
 exact⟨d,v,e2,q,r1⟩
mutual
theorem eqAt_D(I:Inv X pins σ H s):∀(d:D) (n:Nat) (e:D) (v u:V) (v' u':Value) (A:Around),okD n d=true->okD n e=true->Den X.K H d v->Den X.K H e u->RelV v v'->RelV u u'->A.units+n<cLine->KS A s v' u' (eqD d e)
 |.non,n,e,v,u,v',u',A,h1,h2,x,y,rx,ry,hu=>by
  rw[x.non_] at rx;cases (show v'=w6 from rx)
  cases e with
  |non=>rw[y.non_] at ry;cases (show u'=w6 from ry);simp only[eqD];exact nz _
  |bl b=>rw[y.bl_] at ry;cases (show u'=kh b from ry);simp only[eqD];exact Wu b
  |int b=>rw[y.int_] at ry;obtain⟨t,rfl⟩:=ry;simp only[eqD];exact Wt b t
  |str b=>rw[y.str_] at ry;obtain⟨t,rfl⟩:=ry;simp only[eqD];exact Wr b t
  |mt b=>simp[okD] at h2
  |fl b=>simp[okD] at h2
  |st b=>simp[okD] at h2
  |tup es=>obtain⟨a,its,vs,rfl,it,_⟩:=dF I y ry;simp only[eqD];exact Wq it '#'
  |lst es=>obtain⟨a,its,vs,rfl,it,_⟩:=dE I y ry;simp only[eqD];exact Ws it '#'
 |.bl c,n,e,v,u,v',u',A,h1,h2,x,y,rx,ry,hu=>by
  rw[x.bl_] at rx;cases (show v'=kh c from rx)
  cases e with
  |non=>rw[y.non_] at ry;cases (show u'=w6 from ry);simp only[eqD];exact WI c
  |bl b=>rw[y.bl_] at ry;cases (show u'=kh b from ry);simp only[eqD];exact WL c b
  |int b=>rw[y.int_] at ry;obtain⟨t,rfl⟩:=ry;simp only[eqD];exact WK c b t
  |str b=>rw[y.str_] at ry;obtain⟨t,rfl⟩:=ry;simp only[eqD];exact WH c b t
  |mt b=>simp[okD] at h2
  |fl b=>simp[okD] at h2
  |st b=>simp[okD] at h2
  |tup es=>obtain⟨a,its,vs,rfl,it,_⟩:=dF I y ry;simp only[eqD];exact WG c it '#'
  |lst es=>obtain⟨a,its,vs,rfl,it,_⟩:=dE I y ry;simp only[eqD];exact WJ c it '#'
 |.int c,n,e,v,u,v',u',A,h1,h2,x,y,rx,ry,hu=>by
  rw[x.int_] at rx;obtain⟨t0,rfl⟩:=rx
  cases e with
  |non=>rw[y.non_] at ry;cases (show u'=w6 from ry);simp only[eqD];exact WB c t0
  |bl b=>rw[y.bl_] at ry;cases (show u'=kh b from ry);simp only[eqD];exact WE c t0 b
  |int b=>rw[y.int_] at ry;obtain⟨t,rfl⟩:=ry;simp only[eqD];exact WD c t0 b t
  |str b=>rw[y.str_] at ry;obtain⟨t,rfl⟩:=ry;simp only[eqD];exact Qt c t0 b t
  |mt b=>simp[okD] at h2
  |fl b=>simp[okD] at h2
  |st b=>simp[okD] at h2
  |tup es=>obtain⟨a,its,vs,rfl,it,_⟩:=dF I y ry;simp only[eqD];exact WA c t0 it '#'
  |lst es=>obtain⟨a,its,vs,rfl,it,_⟩:=dE I y ry;simp only[eqD];exact WC c t0 it '#'
 |.str c,n,e,v,u,v',u',A,h1,h2,x,y,rx,ry,hu=>by
  rw[x.str_] at rx;obtain⟨t0,rfl⟩:=rx
  cases e with
  |non=>rw[y.non_] at ry;cases (show u'=w6 from ry);simp only[eqD];exact Wn c t0
  |bl b=>rw[y.bl_] at ry;cases (show u'=kh b from ry);simp only[eqD];exact Wp c t0 b
  |int b=>rw[y.int_] at ry;obtain⟨t,rfl⟩:=ry;simp only[eqD];exact Qr c t0 b t
  |str b=>rw[y.str_] at ry;obtain⟨t,rfl⟩:=ry;simp only[eqD];exact Wm c t0 b t
  |mt b=>simp[okD] at h2
  |fl b=>simp[okD] at h2
  |st b=>simp[okD] at h2
  |tup es=>obtain⟨a,its,vs,rfl,it,_⟩:=dF I y ry;simp only[eqD];exact Wl c t0 it '#'
  |lst es=>obtain⟨a,its,vs,rfl,it,_⟩:=dE I y ry;simp only[eqD];exact Wo c t0 it '#'
 |.mt _,n,_,_,_,_,_,_,h1,_,_,_,_,_,_=>by simp[okD] at h1
 |.fl _,n,_,_,_,_,_,_,h1,_,_,_,_,_,_=>by simp[okD] at h1
 |.st _,n,_,_,_,_,_,_,h1,_,_,_,_,_,_=>by simp[okD] at h1
 |.tup ds,0,_,_,_,_,_,_,h1,_,_,_,_,_,_=>by simp[okD] at h1
 |.lst ds,0,_,_,_,_,_,_,h1,_,_,_,_,_,_=>by simp[okD] at h1
 |.tup ds,n+1,e,v,u,v',u',A,h1,h2,x,y,rx,ry,hu=>by
  obtain⟨a,its,vs,rfl,it,rv,dn⟩:=dF I x rx
  cases e with
  |non=>rw[y.non_] at ry;cases (show u'=w6 from ry);simp only[eqD];exact Wh it '#'
  |bl b=>rw[y.bl_] at ry;cases (show u'=kh b from ry);simp only[eqD];exact Wk b it '#'
  |int b=>rw[y.int_] at ry;obtain⟨t,rfl⟩:=ry;simp only[eqD];exact Wj b t it '#'
  |str b=>rw[y.str_] at ry;obtain⟨t,rfl⟩:=ry;simp only[eqD];exact Wg b t it '#'
  |mt b=>simp[okD] at h2
  |fl b=>simp[okD] at h2
  |st b=>simp[okD] at h2
  |lst es=>obtain⟨b,its2,vs2,rfl,it2,_⟩:=dE I y ry;simp only[eqD];exact Wi it it2 '#'
  |tup es =>
   obtain⟨b,its2,vs2,rfl,it2,rv2,dn2⟩:=dF I y ry
   have k1:okDs n ds=true:=by simpa only[okD] using h1
   have k2:okDs n es=true:=by simpa only[okD] using h2
   by_cases hab:a=b
   ·subst hab
    have e0:D.tup ds=D.tup es:=den_inj I (n+1) _ _ v h1 h2 x (by
     have:v=u:=by
      obtain⟨_,_,e3,_⟩:=x.tup_
      obtain⟨_,_,e4,_⟩:=y.tup_
      rw[e3] at rx;rw[e4] at ry
      cases rx;cases ry;rw[e3,e4]
     rw[this];exact y)
    rw[<- e0,eqD_refl (n+1) _ h1]
    exact nz _
   ·have:=Qx (A:=A) (s:=s) (e:=eqJ ds es) it it2 '#' (λj g1 g2=>by
     obtain⟨c,v1,e1,q1,r1⟩:=dZ dn rv g1
     obtain⟨c2,v2,e2,q2,r2⟩:=dZ dn2 rv2 g2
     have:=eqAts_D I ds n j c e1 c2 v1 v2 _ _ A.in1 (cF k1 e1) (cF k2 e2) q1 q2 r1 r2 (by show A.units+1+n<cLine;lia)
     unfold eqJ;rw[e1,e2];exact this)
    rw[qc,qc,<- rv.length,<- rv2.length,<- dn.len,<- dn2.len,fS] at this
    simp only[eqD]
    exact Qs hab this
 |.lst ds,n+1,e,v,u,v',u',A,h1,h2,x,y,rx,ry,hu=>by
  obtain⟨a,its,vs,rfl,it,rv,dn⟩:=dE I x rx
  cases e with
  |non=>rw[y.non_] at ry;cases (show u'=w6 from ry);simp only[eqD];exact Wx it '#'
  |bl b=>rw[y.bl_] at ry;cases (show u'=kh b from ry);simp only[eqD];exact Wz b it '#'
  |int b=>rw[y.int_] at ry;obtain⟨t,rfl⟩:=ry;simp only[eqD];exact Wy b t it '#'
  |str b=>rw[y.str_] at ry;obtain⟨t,rfl⟩:=ry;simp only[eqD];exact Ww b t it '#'
  |mt b=>simp[okD] at h2
  |fl b=>simp[okD] at h2
  |st b=>simp[okD] at h2
  |tup es=>obtain⟨b,its2,vs2,rfl,it2,_⟩:=dF I y ry;simp only[eqD];exact Wv it it2 '#'
  |lst es =>
   obtain⟨b,its2,vs2,rfl,it2,rv2,dn2⟩:=dE I y ry
   have k1:okDs n ds=true:=by simpa only[okD] using h1
   have k2:okDs n es=true:=by simpa only[okD] using h2
   by_cases hab:a=b
   ·subst hab
    have e0:D.lst ds=D.lst es:=den_inj I (n+1) _ _ v h1 h2 x (by
     have:v=u:=by
      obtain⟨_,_,e3,_⟩:=x.lst_
      obtain⟨_,_,e4,_⟩:=y.lst_
      rw[e3] at rx;rw[e4] at ry
      cases rx;cases ry;rw[e3,e4]
     rw[this];exact y)
    rw[<- e0,eqD_refl (n+1) _ h1]
    exact nz _
   ·simp only[eqD]
    refine Qs hab ?_
    by_cases hl:ds.length=es.length
    ·have hsz:its.toArray.size=its2.toArray.size:=by rw[qc,qc,<- rv.length,<- rv2.length,<- dn.len,<- dn2.len,hl]
     have:=QI (A:=A) (s:=s) (e:=eqJ ds es) it it2 hsz '#' (λj g1 g2=>by
      obtain⟨c,v1,e1,q1,r1⟩:=dZ dn rv g1
      obtain⟨c2,v2,e2,q2,r2⟩:=dZ dn2 rv2 g2
      have:=eqAts_D I ds n j c e1 c2 v1 v2 _ _ A.in1 (cF k1 e1) (cF k2 e2) q1 q2 r1 r2 (by show A.units+1+n<cLine;lia)
      unfold eqJ;rw[e1,e2];exact this)
     have e3:=fS ds es
     rw[<- hl,QS,beq_self_eq_true,xn] at e3
     rw[qc,<- rv.length,<- dn.len,e3] at this
     exact this
    ·have hsz:(its.toArray.size != its2.toArray.size)=true:=by rw[bne_iff_ne,qc,qc,<- rv.length,<- rv2.length,<- dn.len,<- dn2.len];exact hl
     have e3:=fS ds es
     rw[beq_eq_false_iff_ne.mpr hl,dk] at e3
     rw[<- e3]
     exact rk it it2 hsz '#'
theorem eqAts_D(I:Inv X pins σ H s):∀(ds:List D) (n j:Nat) (d:D),ds[j]?=some d->∀(e:D) (v u:V) (v' u':Value) (A:Around),okD n d=true->okD n e=true->Den X.K H d v->Den X.K H e u->RelV v v'->RelV u u'->A.units+n<cLine->KS A s v' u' (eqD d e)
 |[],_,_,_,q=>by simp at q
 |d0::ds,n,0,d,q=>by
  simp at q;subst q
  exact λe v u v' u' A=>eqAt_D I d0 n e v u v' u' A
 |d0::ds,n,j+1,d,q=>eqAts_D I ds n j d (by simpa using q)
end
inductive Disp:D->Prop
 |tup (ds:List D):Disp (.tup ds)
 |lst (ds:List D):Disp (.lst ds)
inductive Rs(M:Mem):D->D->Prop
 |tup (ds:List D):Rs M (.tup ds) (.tup ds)
 |lst (ds:List D):Rs M (.lst ds) (.lst ds)
 |mt {a:Addr}{ds:List D} (h:M a=some (.lst ds)):Rs M (.mt a) (.lst ds)
theorem Rs.disp{e:D}(h:Rs M d e):Disp e:=by cases h <;> constructor
theorem Rs.den{K:Fg}{H:Hp}{e:D}(h:Rs M d e)(rl:Rel K G H M)(q:Den K G d v):Den K H e v:=by
 cases h with
 |tup ds=>exact q.up rl.same
 |lst ds=>exact q.up rl.same
 |mt hm =>
  obtain⟨_,vs,e1,dn⟩:=rl.mem _ _ hm
  rw[q.mt_];exact fN e1 (dn.up rl.same)
noncomputable def q0(K:Fg)(n:Nat)(neg:Bool):R2:=λx y H Q=>∃d e,Disp d/\Disp e/\okD n d=true/\okD n e=true/\Den K H d x/\Den K H e y/\Q (.bl (if neg then !eqD d e else eqD d e)) H
theorem rc_D(I:Inv X pins σ H s){e:D}{u:V}{v' u':Value}(A:Around)(g1:Disp d)(g2:Disp e)(h1:okD n d=true)(h2:okD n e=true)(x:Den X.K H d v)(y:Den X.K H e u)(rx:RelV v v')(ry:RelV u u')(hu:A.units+n<cLine):SeqAt.RcAt A s v' u' (eqD d e):=by
 cases g1 with
 |tup ds =>
  obtain⟨a,its,vs,rfl,it,rv,dn⟩:=dF I x rx
  cases g2 with
  |lst es=>obtain⟨b,its2,vs2,rfl,it2,_⟩:=dE I y ry;simp only[eqD];exact Wd it it2 '#'
  |tup es =>
   obtain⟨b,its2,vs2,rfl,it2,rv2,dn2⟩:=dF I y ry
   cases n with
   |zero=>simp[okD] at h1
   |succ n =>
    have k1:okDs n ds=true:=by simpa only[okD] using h1
    have k2:okDs n es=true:=by simpa only[okD] using h2
    have:=Qx (A:=A) (s:=s) (e:=eqJ ds es) it it2 '#' (λj g1 g2=>by
     obtain⟨c,v1,e1,q1,r1⟩:=dZ dn rv g1
     obtain⟨c2,v2,e2,q2,r2⟩:=dZ dn2 rv2 g2
     have:=eqAt_D I c n c2 v1 v2 _ _ A.in1 (cF k1 e1) (cF k2 e2) q1 q2 r1 r2 (by show A.units+1+n<cLine;lia)
     unfold eqJ;rw[e1,e2];exact this)
    rw[qc,qc,<- rv.length,<- rv2.length,<- dn.len,<- dn2.len,fS] at this
    simp only[eqD];exact this
 |lst ds =>
  obtain⟨a,its,vs,rfl,it,rv,dn⟩:=dE I x rx
  cases g2 with
  |tup es=>obtain⟨b,its2,vs2,rfl,it2,_⟩:=dF I y ry;simp only[eqD];exact We it it2 '#'
  |lst es =>
   obtain⟨b,its2,vs2,rfl,it2,rv2,dn2⟩:=dE I y ry
   cases n with
   |zero=>simp[okD] at h1
   |succ n =>
    have k1:okDs n ds=true:=by simpa only[okD] using h1
    have k2:okDs n es=true:=by simpa only[okD] using h2
    simp only[eqD]
    by_cases hl:ds.length=es.length
    ·have hsz:its.toArray.size=its2.toArray.size:=by rw[qc,qc,<- rv.length,<- rv2.length,<- dn.len,<- dn2.len,hl]
     have:=QI (A:=A) (s:=s) (e:=eqJ ds es) it it2 hsz '#' (λj g1 g2=>by
      obtain⟨c,v1,e1,q1,r1⟩:=dZ dn rv g1
      obtain⟨c2,v2,e2,q2,r2⟩:=dZ dn2 rv2 g2
      have:=eqAt_D I c n c2 v1 v2 _ _ A.in1 (cF k1 e1) (cF k2 e2) q1 q2 r1 r2 (by show A.units+1+n<cLine;lia)
      unfold eqJ;rw[e1,e2];exact this)
     have e3:=fS ds es
     rw[<- hl,QS,beq_self_eq_true,xn] at e3
     rw[qc,<- rv.length,<- dn.len,e3] at this
     exact this
    ·have hsz:(its.toArray.size != its2.toArray.size)=true:=by rw[bne_iff_ne,qc,qc,<- rv.length,<- rv2.length,<- dn.len,<- dn2.len];exact hl
     have e3:=fS ds es
     rw[beq_eq_false_iff_ne.mpr hl,dk] at e3
     rw[<- e3]
     exact rk it it2 hsz '#'
end
section
theorem m8(hu:X.A.units+n<cLine):OpR X (xh .Eq) (q0 X.K n false):=by
 intro pins s σ H x y v u Q I rx ry h
 obtain⟨d,e,g1,g2,h1,h2,dx,dy,q⟩:=h
 exact rc_D I X.A g1 g2 h1 h2 dx dy rx ry hu X.prog X.w X.xe _ ⟨.bl (eqD d e),H,I,rfl,q⟩
theorem mS{K:Fg}{d2 e1 e2:D}(r1:Rs M d1 e1)(r2:Rs M d2 e2)(h1:okD n e1=true)(h2:okD n e2=true)(h:k (.bl (eqD e1 e2)) M):Op2 K (q0 K n false) d1 d2 M k:=λG H v1 v2 Q rl x y q =>
 ⟨e1,e2,r1.disp,r2.disp,h1,h2,r1.den rl x,r2.den rl y,q _ _ _ _ _ (Stp.refl rl) cX h⟩
end
end Z
namespace Z
open PySem L2
mutual
noncomputable def toPy:D->PyData
 |.non => .none
 |.bl b => .bool b
 |.int i => .int i
 |.str x => .str x
 |.tup ds => .tuple (toPys ds)
 |.lst ds => .list (toPys ds)
 |.mt _ => .none
 |.fl _ => .none
 |.st _ => .none
noncomputable def toPys:List D->List PyData
 |[]=>[]
 |d::ds=>toPy d::toPys ds
end
mutual
theorem depth_le:∀(d:D) (n:Nat),okD n d=true->(toPy d).depth<=n
 |.non,_,_=>by simp[toPy,cx]
 |.bl _,_,_=>by simp[toPy,cx]
 |.int _,_,_=>by simp[toPy,cx]
 |.str _,_,_=>by simp[toPy,cx]
 |.mt _,n,h=>by simp[okD] at h
 |.fl _,n,h=>by simp[okD] at h
 |.st _,n,h=>by simp[okD] at h
 |.tup ds,0,h=>by simp[okD] at h
 |.lst ds,0,h=>by simp[okD] at h
 |.tup ds,n+1,h=>by
  simp only[toPy,cx]
  have:=depths_le ds n (by simpa only[okD] using h)
  omega
 |.lst ds,n+1,h=>by
  simp only[toPy,cx]
  have:=depths_le ds n (by simpa only[okD] using h)
  omega
theorem depths_le:∀(ds:List D) (n:Nat),okDs n ds=true->rm (toPys ds)<=n
 |[],_,_=>by simp[toPys,rm]
 |d::ds,n,h=>by
  simp only[okDs,qp] at h
  simp only[toPys,rm]
  have h1:=depth_le d n h.1
  have h2:=depths_le ds n h.2
  omega
end
mutual
theorem noDict:∀(d:D),(toPy d).hasDict=false
 |.non=>by simp only[toPy,xx]
 |.bl _=>by simp only[toPy,xx]
 |.int _=>by simp only[toPy,xx]
 |.str _=>by simp only[toPy,xx]
 |.mt _=>by simp only[toPy,xx]
 |.fl _=>by simp only[toPy,xx]
 |.st _=>by simp only[toPy,xx]
 |.tup ds=>by simp only[toPy,xx];exact noDicts ds
 |.lst ds=>by simp only[toPy,xx];exact noDicts ds
theorem noDicts:∀(ds:List D),pb (toPys ds)=false
 |[]=>by simp only[toPys,pb]
 |d::ds=>by simp only[toPys,pb,noDict d,noDicts ds,Kh]
end
section
mutual
theorem reads_D(I:Inv X pins σ H s):∀(d:D) (n:Nat) (v:V) (u:Value),okD n d=true->Den X.K H d v->RelV v u->∃as,Reads s.heap u (toPy d) as
 |.non,_,v,u,_,x,r=>by rw[x.non_] at r;cases (show u=w6 from r);exact⟨_,by simp only[toPy];exact .none⟩
 |.bl b,_,v,u,_,x,r=>by rw[x.bl_] at r;cases (show u=kh b from r);exact⟨_,by simp only[toPy];exact .bool b⟩
 |.int b,_,v,u,_,x,r=>by rw[x.int_] at r;obtain⟨t,rfl⟩:=r;exact⟨_,by simp only[toPy];exact .int b t⟩
 |.str b,_,v,u,_,x,r=>by rw[x.str_] at r;obtain⟨t,rfl⟩:=r;exact⟨_,by simp only[toPy];exact .str b t⟩
 |.mt _,n,_,_,h,_,_=>by simp[okD] at h
 |.fl _,n,_,_,h,_,_=>by simp[okD] at h
 |.st _,n,_,_,h,_,_=>by simp[okD] at h
 |.tup ds,0,_,_,h,_,_=>by simp[okD] at h
 |.lst ds,0,_,_,h,_,_=>by simp[okD] at h
 |.tup ds,n+1,v,u,h,x,r=>by
  obtain⟨a,its,vs,rfl,⟨o,e1,e2,m,e3⟩,rv,dn⟩:=dF I x r
  obtain⟨as,q⟩:=readss_D I ds n vs its (by simpa only[okD] using h) dn rv
  exact⟨as,by simp only[toPy];exact .tuple e1 e2 e3 (by simpa using q)⟩
 |.lst ds,n+1,v,u,h,x,r=>by
  obtain⟨a,its,vs,rfl,⟨o,e1,e2,m,e3⟩,rv,dn⟩:=dE I x r
  obtain⟨as,q⟩:=readss_D I ds n vs its (by simpa only[okD] using h) dn rv
  exact⟨a::as,by simp only[toPy];exact .list e1 e2 e3 (by simpa using q)⟩
theorem readss_D(I:Inv X pins σ H s):∀(ds:List D) (n:Nat) (vs:List V) (us:List Value),okDs n ds=true->Dens X.K H ds vs->Vals vs us->∃as,ReadsAll s.heap us (toPys ds) as
 |[],_,vs,us,_,x,r=>by
  rw[cK x] at r
  cases r
  exact⟨[],by simp only[toPys];exact .nil⟩
 |d::ds,n,vs,us,h,x,r=>by
  obtain⟨v,t,rfl,a,b⟩:=bX x
  cases r with
  |cons r1 r2 =>
   simp only[okDs,qp] at h
   obtain⟨as,q⟩:=reads_D I d n v _ h.1 a r1
   obtain⟨bs,q2⟩:=readss_D I ds n t _ h.2 b r2
   exact⟨as++bs,by simp only[toPys];exact .cons q q2⟩
end
end
section
theorem aHC{x y:Value}(h:(x==y)=true):x=y:=eq_of_beq h
noncomputable def eOf(ds:List D)(its:List Value)(c:D)(y:Value):Bool:=match (its.zip ds).find? (λp=>p.1==y) with
 |some p=>eqD p.2 c
 |none=>false
theorem pR(I:Inv X pins σ H s){vs:List V}(ok:okDs n ds=true)(dn:Dens X.K H ds vs)(rv:Vals vs its){c:D}{y:Value}(hy:its[j]?=some y)(hd:ds[j]?=some d):eOf ds its c y=eqD d c:=by
 unfold eOf
 have hl:its.length=ds.length:=by rw[dn.len,rv.length]
 have hz:(its.zip ds)[j]?=some (y,d):=by rw[vt];exact⟨hy,hd⟩
 cases hf:(its.zip ds).find? (λp=>p.1==y) with
 |none =>
  have:=List.find?_eq_none.mp hf (y,d) (zMo hz)
  exact absurd '$' this
 |some p =>
  have h1:=List.find?_some hf
  have h2:=List.mem_of_find?_eq_some hf
  obtain⟨i,hi⟩:=y9 h2
  obtain⟨a1,a2⟩:=vt.mp (show (its.zip ds)[i]?=some (p.1,p.2) from hi)
  have ey:p.1=y:=aHC h1
  rw[ey] at a1
  obtain⟨v1,w1,q1⟩:=dn.get a2
  obtain⟨v2,w2,q2⟩:=dn.get hd
  obtain⟨u1,x1,r1⟩:=rv.get w1
  obtain⟨u2,x2,r2⟩:=rv.get w2
  rw[a1] at x1;cases x1
  rw[hy] at x2;cases x2
  have:v1=v2:=r1.inj r2
  subst this
  show eqD p.2 c=eqD d c
  rw[den_inj I n p.2 d v1 (cF ok a2) (cF ok hd) q1 q2]
theorem xC(I:Inv X pins σ H s){vs:List V}(ok:okDs n ds=true)(dn:Dens X.K H ds vs)(rv:Vals vs its)(c:D):its.toArray.any (eOf ds its c)=ds.any λd=>eqD d c:=by
 have hl:its.length=ds.length:=by rw[dn.len,rv.length]
 rw[List.any_toArray]
 rw[zt,ym,ym]
 constructor
 ·rintro⟨y,hy,e⟩
  obtain⟨j,hj⟩:=y9 hy
  have hlt:j<ds.length:=by rw[<- hl];exact (zGs hj).1
  rw[pR I ok dn rv hj (zGe hlt)] at e
  exact⟨_,jl hlt,e⟩
 ·rintro⟨d,hd,e⟩
  obtain⟨j,hj⟩:=y9 hd
  have hlt:j<its.length:=by rw[hl];exact (zGs hj).1
  refine⟨its[j],jl hlt,?_⟩
  rw[pR I ok dn rv (zGe hlt) hj]
  exact e
noncomputable def rInD(K:Fg)(n:Nat)(neg:Bool):R2:=λx y H Q=>∃c d ds,(d = .tup ds\/d = .lst ds)/\okD n c=true/\okDs n ds=true/\Den K H c x/\Den K H d y/\Q (.bl (if neg then !(ds.any λe=>eqD e c) else ds.any λe=>eqD e c)) H
theorem aI5(hu:X.A.units+(n+1)<cLine):OpR X (xh .In) (rInD X.K n false):=by
 intro pins s σ H x y v u Q I rx ry h
 obtain⟨c,d,ds,hd,okc,okd,dx,dy,q⟩:=h
 rcases hd with rfl|rfl
 ·obtain⟨a,its,vs,rfl,it,rv,dn⟩:=dF I dy ry
  refine SeqAt.in_tupleAt (eOf ds its c) it (λy hy => ?_) ?_
  ·obtain⟨j,hj⟩:=y9 (show y∈its by simpa using hy)
   obtain⟨w1,e1,r1⟩:∃w,vs[j]?=some w/\RelV w y:=by
    obtain⟨w,e1,r1⟩:=q5 rv (j:=j) (by rw[qc];exact (zGs hj).1)
    refine⟨w,e1,?_⟩
    have:its.toArray[j]'(by rw[qc];exact (zGs hj).1)=y:=by
     have:=(zGs hj).2
     simpa using this
    rw[<- this];exact r1
   obtain⟨e,e2,q2⟩:=dn.get' e1
   rw[pR I okd dn rv hj e2]
   exact eqAt_D I e n c w1 x y v X.A.in1 (cF okd e2) okc q2 dx r1 rx (by show X.A.units+1+n<cLine;omega)
  ·rw[xC I okd dn rv]
   exact⟨.bl _,H,I,rfl,q⟩
 ·obtain⟨a,its,vs,rfl,it,rv,dn⟩:=dE I dy ry
  refine SeqAt.in_listAt (eOf ds its c) it (λy hy => ?_) ?_
  ·obtain⟨j,hj⟩:=y9 (show y∈its by simpa using hy)
   obtain⟨w1,e1,r1⟩:∃w,vs[j]?=some w/\RelV w y:=by
    obtain⟨w,e1,r1⟩:=q5 rv (j:=j) (by rw[qc];exact (zGs hj).1)
    refine⟨w,e1,?_⟩
    have:its.toArray[j]'(by rw[qc];exact (zGs hj).1)=y:=by
     have:=(zGs hj).2
     simpa using this
    rw[<- this];exact r1
   obtain⟨e,e2,q2⟩:=dn.get' e1
   rw[pR I okd dn rv hj e2]
   exact eqAt_D I e n c w1 x y v X.A.in1 (cF okd e2) okc q2 dx r1 rx (by show X.A.units+1+n<cLine;omega)
  ·rw[xC I okd dn rv]
   exact⟨.bl _,H,I,rfl,q⟩
end
end Z
namespace R
open PySem L2
theorem dJ{z:Str}(h:j<z.length):z.cps.toList[j]?=some (atS z j):=by
 have h':j<z.cps.size:=h
 simp[atS,K3,h']
theorem jT{l:List Nat}:atS (ofL l) j=l.getD j 0:=by
 unfold atS ofL
 rw[jc,gk,zGd]
noncomputable def Good(n:Nat)(zs:List Str):Prop:=∀z∈zs,z.length=n/\z.cps.toList.all sgn=true
theorem j4(h:Good n zs){z:Str}(hz:z∈zs)(hj:j<n):atS z j=35\/atS z j=46:=by
 obtain⟨h1,h2⟩:=h z hz
 have e:=dJ (z:=z) (j:=j) '#'
 have:=jy.mp h2 _ (zMo e)
 unfold sgn at this
 rw[zq,beq_iff_eq,beq_iff_eq] at this
 exact this
theorem pA(n:Nat):(dots n).length=n:=by unfold dots;rw[lA,QM]
theorem aGM{z:Str}(hl:z.length=n)(h:∀j,j<n->atS z j=46):z=dots n:=by
 apply iQ
 show z.cps.toList=kr n 46
 apply kj
 intro j
 by_cases hj:j<n
 ·rw[dJ '#',h j hj,zu,if_pos hj]
 ·rw[qq (by rw[qo];have:z.cps.size=n:=hl;lia),qq (by simp;lia)]
theorem jU:atS (dots n) j=if j<n then 46 else 0:=by
 unfold dots
 rw[jT,zGd,zu]
 split <;> rfl
theorem jJ{α:Type}(f:Nat->α):∀p,f p≠f 0->∃k,k<p/\f k≠f (k+1)
 |0,h=>absurd rfl h
 |p+1,h=>by
  by_cases e:f p=f 0
  ·exact⟨p,by lia,by rw[e];exact dc h⟩
  ·obtain⟨k,h1,h2⟩:=jJ f p e
   exact⟨k,by lia,h2⟩
theorem iG{α:Type}(f:Nat->α):∀m p,f p≠f (p+m)->∃k,p<=k/\k<p+m/\f k≠f (k+1)
 |0,p,h=>absurd rfl h
 |m+1,p,h=>by
  by_cases e:f p=f (p+m)
  ·exact⟨p+m,by lia,by lia,by rw[<- e];exact h⟩
  ·obtain⟨k,h1,h2,h3⟩:=iG f m p e
   exact⟨k,h1,by lia,h3⟩
theorem cI(h:i<zs.length):(framed zs)[i+1]?=zs[i]?:=by
 unfold framed
 rw[yz,QL,zv,zc h]
theorem fI(zs:List Str):(framed zs)[0]?=some (dots ((zs.head?.map (·.length)).getD 0)):=by simp[framed]
theorem dH(zs:List Str):(framed zs)[zs.length+1]?=some (dots ((zs.head?.map (·.length)).getD 0)):=by
 unfold framed
 rw[yz,QL,zv,de (qm _)]
 simp
theorem eW(hz:zs≠[]):i∈chg zs↔i<=zs.length/\(framed zs)[i]?≠(framed zs)[i+1]?:=by
 unfold chg
 have:zs.isEmpty=false:=by cases zs with
  |nil=>exact absurd rfl hz
  |cons _ _=>rfl
 rw[this]
 simp only[di,if_false,gf,ve,Bool.not_eq_true',decide_eq_false_iff_not]
 exact⟨λ⟨a,b⟩=>⟨by lia,b⟩,λ⟨a,b⟩=>⟨by lia,b⟩⟩
theorem cJ(h:∀z∈zs,z.length=n)(hz:zs≠[]):(zs.head?.map (·.length)).getD 0=n:=by
 cases zs with
 |nil=>exact absurd rfl hz
 |cons z zr=>exact h z '$'
theorem aHN(h:∀z∈zs,z.length=n){z:Str}(hi:zs[i]?=some z)(hz:z≠dots n):2<=(chg zs).length:=by
 have hlt:i<zs.length:=(zGs hi).1
 have hne:zs≠[]:=λe=>by rw[e] at hlt;simp at hlt
 have hw:=cJ h hne
 have f0:(framed zs)[0]?=some (dots n):=by rw[fI,hw]
 have fl:(framed zs)[zs.length+1]?=some (dots n):=by rw[dH,hw]
 have fp:(framed zs)[i+1]?=some z:=by rw[cI hlt,hi]
 obtain⟨k1,a1,b1⟩:=jJ (λk=>(framed zs)[k]?) (i+1) (by show (framed zs)[i+1]?≠(framed zs)[0]?;rw[fp,f0];exact λe=>hz (jk e))
 obtain⟨k2,a2,a3,b2⟩:=iG (λk=>(framed zs)[k]?) (zs.length-i) (i+1) (by
  show (framed zs)[i+1]?≠(framed zs)[i+1+(zs.length-i)]?
  rw[show i+1+(zs.length-i)=zs.length+1 by lia,fp,fl];exact λe=>hz (jk e))
 have m1:k1∈chg zs:=(eW hne).mpr ⟨by lia,b1⟩
 have m2:k2∈chg zs:=(eW hne).mpr ⟨by lia,b2⟩
 match hc:chg zs,m1,m2 with
 |[],m1,_=>cases m1
 |[x],m1,m2 =>
  simp at m1 m2
  lia
 |_::_::_,_,_=>simp
noncomputable def aM(zs:List Str):List Str:=(chg zs).dropLast.map λi=>zs.getD i w4
theorem jI:∀z∈aM zs,z∈zs:=λz hz=>by
 obtain⟨i,hi,rfl⟩:=qw.mp hz
 have:=i0 (b8 zs) (eH zs) i hi
 rw[zGd,zGe this]
 exact jl _
theorem iJ(h:Good n zs):Good n (aM zs):=λz hz=>h z (jI z hz)
theorem eB(zs:List Str):(aM zs).length=(chg zs).length-1:=by unfold aM;rw[zLm,jj]
theorem oS(h:∀z∈zs,z.length=n)(hr:aM zs≠[]):∃z∈aM zs,z≠dots n:=by
 have h2:2<=(chg zs).length:=by
  have:=yg.mpr hr
  rw[eB] at this
  lia
 have hne:zs≠[]:=λe=>by rw[e] at h2;simp[chg] at h2
 match hc:chg zs,h2 with
 |k0::k1::r,_ =>
  have m0:k0∈chg zs:=by rw[hc];simp
  have s:=b8 zs
  rw[hc] at s
  have hk1:k1<=zs.length:=eH zs k1 (by rw[hc];simp)
  have hk:k0<k1:=(qz.mp s).1 k1 '$'
  have hk0:k0<zs.length:=by lia
  obtain⟨_,b0⟩:=(eW hne).mp m0
  have same:∀j,j<=k0->(framed zs)[j]?=(framed zs)[0]?:=λj hj=>kq λq=>by
   obtain⟨k,a1,b1⟩:=jJ (λk=>(framed zs)[k]?) j q
   have:k∈chg zs:=(eW hne).mpr ⟨by lia,b1⟩
   rw[hc] at this
   rcases qe.mp this with rfl|this
   ·lia
   ·have:=(qz.mp s).1 k this
    lia
  refine⟨zs.getD k0 w4,?_,λq=>b0 ?_⟩
  ·unfold aM
   rw[hc]
   simp
  ·rw[same k0 (qm _),fI,cJ h hne,cI hk0,<- q,zGd,zGe hk0]
   rfl
theorem hX(h:∀z∈zs,z.length=n)(hz:zs≠[])(hj:j<n):(aE zs)[j]?=some (ofL (zs.map (atS · j))):=by
 unfold aE
 rw[cJ h hz,qg,wj hj]
 rfl
theorem kM(h:Good n zs):Good zs.length (aE zs):=λz hz=>by
 refine⟨gB z hz,?_⟩
 obtain⟨j,hj,rfl⟩:=qw.mp hz
 rw[ve] at hj
 show (zs.map (atS · j)).all sgn=true
 rw[jy]
 intro c hc
 obtain⟨z,hz,rfl⟩:=qw.mp hc
 have hne:zs≠[]:=λe=>by rw[e] at hz;cases hz
 rw[cJ (λz hz=>(h z hz).1) hne] at hj
 rcases j4 h hz hj with e|e <;> rw[e] <;> rfl
structure Wf(nx ny:Nat)(zs:List Str):Prop where
 rows:zs.length+1=ny\/(nx=0/\ny=0/\zs=[])
 good:Good (nx-1) zs
 wide:0<nx\/(nx=0/\ny=0/\zs=[])
theorem uZ(h:Good n zs){z:Str}(hz:z∈zs)(hd:z≠dots n):∃j,j<n/\atS z j=35:=by
 refine kq λq=>hd (aGM (h z hz).1 λj hj => ?_)
 rcases j4 h hz hj with e|e
 ·exact absurd ⟨j,hj,e⟩ q
 ·exact e
theorem aH9(h:Good n zs)(hr:aM zs≠[]):
  2<=(chg (aE (aM zs))).length/\Wf (chg (aE (aM zs))).length (chg zs).length (aE (aM (aE (aM zs))))/\(aE (aM (aE (aM zs)))).length=(aM zs).length:=by
 have g1:=iJ h
 obtain⟨z,hz,hd⟩:=oS (λz hz=>(h z hz).1) hr
 obtain⟨j,hj,e35⟩:=uZ g1 hz hd
 have gc:=kM g1
 have hc:=hX (λz hz=>(g1 z hz).1) hr hj
 have hnd:ofL ((aM zs).map (atS · j))≠dots (aM zs).length:=λq=>by
  obtain⟨i,hi,ez⟩:=jw hz
  have e1:atS (ofL ((aM zs).map (atS · j))) i=35:=by
   rw[jT,zGd,qg,zGe hi,ez]
   exact e35
  rw[q,jU,if_pos hi] at e1
  cases e1
 have c2:=aHN (λz hz=>(gc z hz).1) hc hnd
 have hk:aM (aE (aM zs))≠[]:=λq=>by
  have:=eB (aE (aM zs))
  rw[q] at this
  simp at this
  lia
 have g2:=iJ gc
 have l2:=(o6 (λz hz=>(g2 z hz).1)).2 hk
 have zl:=eB zs
 have pos:=yg.mpr hr
 refine⟨c2,⟨.inl (by rw[l2];lia),?_, .inl '#'⟩,l2⟩
 have g3:=kM g2
 rw[eB] at g3
 exact g3
noncomputable def aW(zs:List Str)(a u:Int):Bool:=decide (0<=u)&&decide (0<=a)&&((zs[u.toNat]?).bind λz=>z.cps.toList[a.toNat]?)==some 35
theorem fB{a u:Int}(h:u<0):aW zs a u=false:=by
 unfold aW;rw[decide_eq_false '#'];rfl
theorem dG{a u:Int}(h:a<0):aW zs a u=false:=by
 unfold aW;rw[decide_eq_false (show ¬(0:Int)<=a by lia),dk];rfl
theorem fP{a u:Int}(h:(zs.length:Int)<=u):aW zs a u=false:=by
 unfold aW
 rw[qq '#']
 simp
theorem i9{a u:Int}{z:Str}(e:zs[u.toNat]?=some z)(h:(z.length:Int)<=a):aW zs a u=false:=by
 unfold aW
 rw[e]
 have:z.cps.toList[a.toNat]?=none:=qq (by rw[qo];have:z.cps.size=z.length:=rfl;lia)
 rw[Jg,this]
 cases decide (0<=u) <;> cases decide (0<=a) <;> rfl
theorem fF{a u:Int}{z:Str}{c:Nat}(hu:0<=u)(ha:0<=a)(e:zs[u.toNat]?=some z)(ec:z.cps.toList[a.toNat]?=some c):aW zs a u=decide (c=35):=by
 unfold aW
 rw[decide_eq_true hu,decide_eq_true ha,e]
 simp only[Jg,ec,xn,Qw]
 by_cases h:c=35
 ·subst h;rfl
 ·rw[decide_eq_false h];simp[h]
noncomputable def sg(b:Bool):Nat:=if b then 35 else 46
end R
namespace Q
open PySem L2 Z
theorem BMin:jv "min" = some (.builtin "min"):=by decide +kernel
structure Bt(mg:Str->Option Value):Prop where
 len:mg "len" = none
 abs:mg "abs" = none
 int:mg "int" = none
 min:mg "min" = none
 max:mg "max" = none
 range:mg "range" = none
 list:mg "list" = none
 tuple:mg "tuple" = none
 repr:mg "repr" = none
 all:mg "all" = none
 any:mg "any" = none
 enumerate:mg "enumerate" = none
 isi:mg "isinstance" = none
 bool:mg "bool" = none
 str:mg "str" = none
 zip:mg "zip" = none
 reversed:mg "reversed" = none
 sorted:mg "sorted" = none
 dict:mg "dict" = none
noncomputable def FdM(M:Mem)(p:Addr)(b:Int):Prop:=∃g m st:Int,M p=some (.lst [.int g, .int m, .int st])/\0<=g/\0<=m/\m<2147483399/\0<=st/\st<=b
noncomputable def cZ(p:Addr)(M M':Mem):Prop:=∀a o,a≠p->M a=some o->M' a=some o
theorem cZ.refl(p:Addr)(M:Mem):cZ p M M:=λ_ _ _ h=>h
theorem cZ.trans{p:Addr}{M2:Mem}(a:cZ p M M1)(b:cZ p M1 M2):cZ p M M2:=λc o n h=>b c o n (a c o n h)
theorem cZ.upd{p:Addr}{M':Mem}{o:MO}(h:cZ p M M'):cZ p M (bZ M' p o):=λa u n e=>by rw[cL n];exact h a u n e
theorem cZ.new{p:Addr}{M':Mem}{o:MO}(h:cZ p M M')(n:M a=none):cZ p M (bZ M' a o):=λb u nb e=>by
 rw[cL (λz=>by rw[z,n] at e;cases e)];exact h b u nb e
theorem FdM.mono{p:Addr}{b c:Int}(h:FdM M p b)(l:b<=c):FdM M p c:=by
 obtain⟨g,m,st,e,h1,h2,h3,h4,h5⟩:=h
 exact⟨g,m,st,e,h1,h2,h3,h4,by lia⟩
theorem FdM.ne{p:Addr}{b:Int}(h:FdM M p b)(n:M a=none):a≠p:=λz=>by
 obtain⟨g,m,st,e,_⟩:=h
 rw[<- z,n] at e;cases e
theorem FdM.new{p:Addr}{b:Int}{o:MO}(h:FdM M p b)(n:a≠p):FdM (bZ M a o) p b:=by
 obtain⟨g,m,st,e,r⟩:=h
 exact⟨g,m,st,by rw[cL (dc n)];exact e,r⟩
noncomputable def aFQ:Ct:=λds M k=>∃(ns:List Int) (i:Int),ds=[.fl (ns.map .int), .int i]/\0<=i/\i<2^40/\∀p M',M p=none->Le M M'->FdM M' p 0->k (.mt p) M'
noncomputable def qE:Ct:=λds M k=>∃(p:Addr) (n b:Int),ds=[.mt p, .int n]/\0<n/\n<1073741824/\FdM M p b/\b<=1000000/\∀z M',0<=z->z<n->FdM M' p (b+1)->cZ p M M'->(∀a,a≠p->M' a=M a)->k (.int z) M'
noncomputable def rF:Ct:=λds M k=>∃a b:Int,ds=[.int a, .int b]/\k (.int ((wa a b:Nat):Int)) M
theorem aDX{ns:List Int}{k:Int}(h0:0<=k)(h:k<ns.length):∃z:Int,atI (ns.map D.int) k=some (.int z):=by
 obtain⟨j,rfl⟩:∃j:Nat,k=(j:Int):=⟨k.toNat,by lia⟩
 have hj:j<ns.length:=by lia
 exact⟨ns[j],dA (by simp[hj])⟩
theorem iY{o:MO}(h:M a=none):j5 (bZ M a o) a=M:=by
 funext b
 unfold j5 bZ
 by_cases e:b=a
 ·rw[if_pos e,e,h]
 ·rw[if_neg e,if_neg e]
noncomputable def aFM(bt at_:Int):D := .tup [.int (at_/((wa at_ bt:Nat):Int)), .int (bt/((wa at_ bt:Nat):Int))]
structure Ats(bt:Int)(ats:List Int):Prop where
 bt:bt=1\/bt=2\/bt=9
 up:ats.Pairwise (· < ·)
 bd:∀a∈ats, -20<=a/\a<=10^10
noncomputable def l7(xs:List D)(js:List Nat):List D:=js.map λj=>xs.getD j .non
noncomputable def oF(xs ys:List D)(zs:List Str):D := .tup [.tup xs, .tup ys, .tup (zs.map .str)]
structure YardOk(xs ys:List D)(zs:List Str):Prop where
 lx:∃bt ats,xs=ats.map (aFM bt)/\Ats bt ats
 ly:∃bt ats,ys=ats.map (aFM bt)/\Ats bt ats
 wf:R.Wf xs.length ys.length zs
 few:xs.length<=21/\ys.length<=21
 full:zs=[]->xs=[]/\ys=[]
theorem bP{α β:Type}{f:α->β}{l:List α}{y:β}(h:(l.map f)[i]?=some y):∃x,l[i]?=some x/\y=f x:=by
 rw[qg] at h
 cases e:l[i]? with
 |none=>rw[e] at h;cases h
 |some x=>rw[e] at h;exact⟨x,rfl,(jk h).symm⟩
end Q
namespace PySem
open Sem (wp)
open AutoSeq1 (wpAny_loadPart')
section
variable {E:Value->Shared->Prop}
end
section
variable {E:Value->Shared->Prop}
end
end PySem
namespace L2
open PySem PySem.Spec PyProof.Rows
section
theorem Inv.turnedT{T:Addr}{o:HO}(I:Inv X pins σ H s)(k:∀b ob,b∉ch->s.heap.get? b=some ob->h'.get? b=some ob)(hf:∀b∈ch,jK X pins H b)(hT:s.heap.objs.size<=T)(new:dX X.prog X.w (upd H T o) h' T o):Inv X pins σ (upd H T o) {s with heap:=h',toks:=t' }:=by
 have hn:H T=none:=I.hok.fresh hT
 have nit:∀b u,H b=some u->b∉ch:=λb u e z=>by rw[(hf b z).1] at e;cases e
 have ne:∀b u,s.heap.get? b=some u->b≠T:=λb u e=>qk (qr (qi e) hT)
 refine I.step (g':=s.gens) (d':=s.drawn) (ch:=ch) (λb hb => ?_) (λb ob _ _ hc e _=>k b ob hc e) (λb ob _ _ hc e _=>⟨ob.slots,k b ob hc e⟩) (λb ob _ e n=>by rw[aU (ne b ob e)];exact n)
  (λb ob hc e=>⟨ob,k b ob hc e⟩) (λb xs e=>by rw[aU (bH e hn)];exact e) (λb ob u e=>by rw[aU (bH e hn)];exact e) (λb ps e=>⟨#[],by rw[aU (bH e hn),e];simp⟩) (λm hm => ?_) (λb u e => ?_) I.bare
 ·obtain⟨f0,f1,f2,f3,f4,f5⟩:=hf b hb
  exact⟨f3,f1,f4,f5⟩
 ·obtain⟨ob,es,ep,ho,r⟩:=hm
  exact⟨ob,es,ep,k _ ob (λz=>(hf _ z).2.1 rfl) ho,r⟩
 ·by_cases z:b=T
  ·subst z;rw[bF] at e;cases e;exact new
  ·rw[aU z] at e
   refine (I.hok b u e).stay (λc v hc q=>k c v ?_ q) (λc q=>by rw[aU (bH q hn)];exact q) λc xs q=>by rw[aU (bH q hn)];exact q
   rcases hc with y|y
   ·rw[y];exact nit b u e
   ·exact nit c _ y
theorem Inv.turnedL(I:Inv X pins σ H s)(k:∀b ob,b∉ch->s.heap.get? b=some ob->h'.get? b=some ob)(hf:∀b∈ch,jK X pins H b):Inv X pins σ H {s with heap:=h',toks:=t' }:=by
 have nit:∀b u,H b=some u->b∉ch:=λb u e z=>by rw[(hf b z).1] at e;cases e
 refine I.step (g':=s.gens) (d':=s.drawn) (ch:=ch) (λb hb => ?_) (λb ob _ _ hc e _=>k b ob hc e) (λb ob _ _ hc e _=>⟨ob.slots,k b ob hc e⟩) (λ_ _ _ _ n=>n)
  (λb ob hc e=>⟨ob,k b ob hc e⟩) (λ_ _ e=>e) (λ_ _ _ e=>e) (λb ps e=>⟨#[],by rw[e];simp⟩) (λm hm => ?_) (λb u e => ?_) I.bare
 ·obtain⟨f0,f1,f2,f3,f4,f5⟩:=hf b hb
  exact⟨f3,f1,f4,f5⟩
 ·obtain⟨ob,es,ep,ho,r⟩:=hm
  exact⟨ob,es,ep,k _ ob (λz=>(hf _ z).2.1 rfl) ho,r⟩
 ·refine (I.hok b u e).stay (λc v hc q=>k c v ?_ q) (λ_ q=>q) λ_ _ q=>q
  rcases hc with y|y
  ·rw[y];exact nit b u e
  ·exact nit c _ y
end
end L2
namespace Z
open PySem L2
section
variable {a:Expr}{rest:List Expr}
theorem GE.mono{k':D->Mem->Prop}(h:GE X e Γ M k)(f:∀d M1,k d M1->k' d M1):GE X e Γ M k':=λσ G H Q en rl q=>h σ G H Q en rl λv G' H' d M' s e hk=>q v G' H' d M' s e (f d M' hk)
end
end Z
namespace R
open PySem L2
theorem oY{α:Type}(f:Nat->α):∀p,f p≠f 0->∃k,k<p/\f k≠f (k+1)/\f (k+1)=f p
 |0,h=>absurd rfl h
 |p+1,h=>by
  by_cases e:f p=f (p+1)
  ·obtain⟨k,h1,h2,h3⟩:=oY f p (by rw[e];exact h)
   exact⟨k,by lia,h2,h3.trans e⟩
  ·exact⟨p,by lia,e,rfl⟩
theorem u8{l:List Nat}(s:l.Pairwise (· < ·)){a b:Nat}(ha:a∈l)(hb:b∈l)(h:a<b):a∈l.dropLast:=by
 have hne:l≠[]:=λe=>by rw[e] at ha;cases ha
 have e:=tm hne
 rw[<- e] at ha hb s
 rw[y8] at s
 rcases jo.mp ha with ha|ha
 ·exact ha
 ·rw[ji] at ha
  rcases jo.mp hb with hb|hb
  ·have:=s.2.2 b hb _ (List.mem_singleton_self _)
   lia
  ·rw[ji] at hb
   lia
theorem row_kept(h:∀z∈zs,z.length=n){z:Str}(hz:z∈zs):z=dots n\/z∈aM zs:=by
 by_cases hd:z=dots n
 ·exact .inl hd
 refine .inr ?_
 obtain⟨p,hp,ez⟩:=jw hz
 have hne:zs≠[]:=λe=>by rw[e] at hz;cases hz
 have hw:=cJ h hne
 have f0:(framed zs)[0]?=some (dots n):=by rw[fI,hw]
 have fl:(framed zs)[zs.length+1]?=some (dots n):=by rw[dH,hw]
 have fp:(framed zs)[p+1]?=some z:=by rw[cI hp,zGe hp,ez]
 have ne:∀{o:Option Str},o=some (dots n)->(framed zs)[p+1]?≠o:=λe q=>hd (by rw[fp,e] at q;injection q)
 obtain⟨k,k1,k2,k3⟩:=oY (λi=>(framed zs)[i]?) (p+1) (ne f0)
 obtain⟨j,j1,j2,j3⟩:=iG (λi=>(framed zs)[i]?) (zs.length-p) (p+1) (by
  show (framed zs)[p+1]?≠(framed zs)[p+1+(zs.length-p)]?
  rw[show p+1+(zs.length-p)=zs.length+1 by lia];exact ne fl)
 have mk:k∈chg zs:=(eW hne).mpr ⟨by lia,k2⟩
 have mj:j∈chg zs:=(eW hne).mpr ⟨by lia,j3⟩
 have:=u8 (b8 zs) mk mj '#'
 refine qw.mpr ⟨k,this,?_⟩
 have e:(framed zs)[k+1]?=some z:=k3.trans fp
 rw[cI '#'] at e
 rw[zGd,e];rfl
theorem vV(h:∀z∈zs,z=dots n):chg zs=[]:=by
 by_cases hne:zs=[]
 ·rw[hne];simp[chg]
 have hl:∀z∈zs,z.length=n:=λz hz=>by rw[h z hz,pA]
 have hw:=cJ hl hne
 have all:∀i,i<=zs.length+1->(framed zs)[i]?=some (dots n):=λi hi=>by
  rcases dq i with rfl|hp
  ·rw[fI,hw]
  ·obtain⟨j,rfl⟩:∃j,i=j+1:=⟨i-1,by lia⟩
   by_cases hj:j<zs.length
   ·rw[cI hj,zGe hj,h _ (jl hj)]
   ·rw[show j=zs.length by lia,dH,hw]
 refine List.eq_nil_iff_forall_not_mem.mpr λi hi => ?_
 obtain⟨a,b⟩:=(eW hne).mp hi
 exact b (by rw[all i '#',all (i+1) '#'])
theorem rZ(h:∀z∈zs,z.length=n)(hr:aM zs=[]):chg zs=[]/\chg (aE zs)=[]:=by
 have hd:∀z∈zs,z=dots n:=λz hz=>(row_kept h hz).elim id λq=>by rw[hr] at q;cases q
 refine⟨vV hd,vV (n:=zs.length) λc hc => ?_⟩
 obtain⟨j,hj,rfl⟩:=qw.mp hc
 rw[ve] at hj
 by_cases hne:zs=[]
 ·rw[hne] at hj;simp at hj
 rw[cJ h hne] at hj
 unfold dots ofL
 congr 2
 refine QO.mpr ⟨by simp,λb hb => ?_⟩
 obtain⟨z,hz,rfl⟩:=qw.mp hb
 rw[hd z hz,jU,if_pos hj]
noncomputable def pL(n i:Nat)(z:Str):Nat:=if i=0\/i=n+1 then 46 else atS z (i-1)
theorem cR(h:∀z∈zs,z.length=n)(hz:zs≠[]):(aE zs).length=n:=by
 unfold aE;rw[cJ h hz];simp
theorem gM(h:∀z∈zs,z.length=n)(hz:zs≠[])(hn:0<n)(hi:i<=n+1):(framed (aE zs))[i]?=some (ofL (zs.map (pL n i))):=by
 have hc:=cR h hz
 have hne:aE zs≠[]:=λe=>by rw[e] at hc;simp at hc;lia
 have hw:((aE zs).head?.map (·.length)).getD 0=zs.length:=cJ (λc hc=>gB c hc) hne
 have hd:dots zs.length=ofL (zs.map λ_=>46):=by
  unfold dots;rw[List.map_const']
 rcases dq i with rfl|hp
 ·rw[fI,hw,hd];rfl
 ·obtain⟨j,rfl⟩:∃j,i=j+1:=⟨i-1,by lia⟩
  by_cases hj:j<n
  ·rw[cI '#',hX h hz hj]
   congr 2
   apply kc
   intro z _
   unfold pL
   rw[if_neg '#'];rfl
  ·have e:j=(aE zs).length:=by lia
   rw[e,dH,hw,hd]
   congr 2
   apply kc
   intro z _
   unfold pL
   rw[if_pos '#']
theorem qT{f g:Str->Nat}:(some (ofL (zs.map f))=some (ofL (zs.map g)))↔∀z∈zs,f z=g z:=by
 constructor
 ·intro e
  injection e with e
  unfold ofL at e
  injection e with e
  have e:zs.map f=zs.map g:=by injection e
  exact λz hz=>(List.map_inj_left.mp e) z hz
 ·intro e
  rw[kc e]
theorem nE(h:∀z∈zs,z.length=n)(hr:aM zs≠[]):chg (aE (aM zs))=chg (aE zs):=by
 have hz:zs≠[]:=λe=>by subst e;exact hr (by simp[aM,chg])
 have hk:∀z∈aM zs,z.length=n:=λz q=>h z (jI z q)
 rcases dq n with rfl|hn
 ·have e1:aE zs=[]:=vf.mp (cR h hz)
  have e2:aE (aM zs)=[]:=vf.mp (cR hk hr)
  rw[e1,e2]
 ·have l1:=cR h hz
  have l2:=cR hk hr
  have n1:(aE zs).isEmpty=false:=by cases hc:aE zs with
   |nil=>rw[hc] at l1;simp at l1;lia
   |cons _ _=>rfl
  have n2:(aE (aM zs)).isEmpty=false:=by cases hc:aE (aM zs) with
   |nil=>rw[hc] at l2;simp at l2;lia
   |cons _ _=>rfl
  unfold chg
  rw[n1,n2,l1,l2,if_neg zBf,if_neg zBf]
  apply fb
  intro i hi
  rw[ve] at hi
  rw[gM h hz hn '#',gM h hz hn '#',gM hk hr hn '#',gM hk hr hn '#']
  congr 1
  apply decide_eq_decide.mpr
  rw[qT,qT]
  constructor
  ·intro q z hz
   rcases row_kept h hz with rfl|hz
   ·unfold pL
    rw[jU,jU]
    split <;> split <;> (try split) <;> (try split) <;> first|rfl|lia
   ·exact q z hz
  ·exact λq z hz=>q z (jI z hz)
theorem nL(h:Good n zs)(hr:aM zs≠[]):aE (aM (aE (aM zs)))=b4 zs:=by
 have g1:=iJ h
 have hl:∀z∈aM zs,z.length=n:=λz hz=>(g1 z hz).1
 obtain⟨c2,wf,le⟩:=aH9 h hr
 have hJ:=nE (λz hz=>(h z hz).1) hr
 have lt:∀j∈(chg (aE (aM zs))).dropLast,j<n:=λj hj=>by
  have:=i0 (b8 _) (eH _) j hj
  rw[cR hl hr] at this
  exact this
 have e1:aM (aE (aM zs))=(chg (aE (aM zs))).dropLast.map λj=>ofL ((aM zs).map (atS · j)):=by
  show Q5 _ _=_
  apply kc
  intro j hj
  rw[zGd,hX hl hr (lt j hj)];rfl
 have hk:aM (aE (aM zs))≠[]:=λq=>by
  have:=eB (aE (aM zs))
  rw[q] at this
  simp at this
  lia
 have hw:((aM (aE (aM zs))).head?.map (·.length)).getD 0=(aM zs).length:=cJ (λz hz=>gB z (jI z hz)) hk
 have ek:b4 zs=(aM zs).map λz=>ofL ((chg (aE (aM zs))).dropLast.map (atS z)):=by
  rw[hJ];unfold aM b4;rw[vj];rfl
 rw[ek]
 show (qy (((aM (aE (aM zs))).head?.map (·.length)).getD 0)).map (λj=>ofL ((aM (aE (aM zs))).map (atS · j)))=_
 rw[hw,e1]
 apply List.ext_getElem
 ·simp
 ·intro r hr1 hr2
  rw[zLm,x8] at hr1
  rw[rn,rn,List.getElem_range,vj]
  congr 1
  apply kc
  intro j _
  show atS (ofL ((aM zs).map (atS · j))) r=_
  rw[jT,zGd,qg,zGe hr1];rfl
abbrev Cell:=List Int
noncomputable def k7(zs:List Str)(inside:Bool)(nx ny:Nat):List Cell:=(qy (ny+1)).flatMap λ(u:Nat)=>(qy (nx+1)).filterMap λ(a:Nat)=>if aW zs ((a:Int)-1) ((u:Int)-1)=inside then some [(a:Int)-1,(u:Int)-1] else none
noncomputable def f9(zs:List Str)(w:Nat):List Cell:=(qy zs.length).flatMap λ(u:Nat)=>(qy w).filterMap λ(a:Nat)=>if aW zs (a:Int) (u:Int)=true then some [(a:Int),(u:Int)] else none
inductive Rch(cells:List Cell)(st:List (Int×Int))(s:Cell):Cell->Prop
 |refl:Rch cells st s s
 |step {x y:Int}{d:Int×Int}:Rch cells st s [x,y]->d∈st->[x+d.1,y+d.2]∈cells->Rch cells st s [x+d.1,y+d.2]
open Classical in
noncomputable def starts(cells:List Cell)(st:List (Int×Int)):Nat->List Cell
 |0=>[]
 |i+1=>match cells[i]? with
  |some c=>if ∃s∈starts cells st i,Rch cells st s c then starts cells st i else starts cells st i++[c]
  |none=>starts cells st i
noncomputable def rowsOf(f:Int->Int->Bool)(w h:Nat):List Str:=(qy h).map λ(u:Nat)=>ofL ((qy w).map λ(a:Nat)=>sg (f (a:Int) (u:Int)))
theorem still(hz:zs≠[]){a b:Nat}(hab:a<=b)(hb:b<=zs.length+1)(hn:∀c∈chg zs,¬(a<=c/\c<b)):(framed zs)[a]?=(framed zs)[b]?:=by
 refine kq λq => ?_
 obtain⟨k,h1,h2,h3⟩:=iG (λi=>(framed zs)[i]?) (b-a) a (by rw[show a+(b-a)=b by lia];exact q)
 exact hn k ((eW hz).mpr ⟨by lia,h3⟩) ⟨h1,by lia⟩
theorem m6{c d:Nat}(hi:(chg zs)[i]?=some c)(hj:(chg zs)[j]?=some d)(h:i<j):c<d:=by
 obtain⟨h1,e1⟩:=zGs hi
 obtain⟨h2,e2⟩:=zGs hj
 have:=kd.mp (b8 zs) i j h1 h2 h
 rw[e1,e2] at this;exact this
theorem tP{c d e:Nat}(hi:(chg zs)[i]?=some c)(hj:(chg zs)[i+1]?=some d)(he:e∈chg zs)(h:c<e):d<=e:=by
 obtain⟨k,hk,ek⟩:=jw he
 have ek':(chg zs)[k]?=some e:=by rw[zGe hk,ek]
 by_cases h1:k<=i
 ·by_cases h2:k=i
  ·subst h2;rw[hi] at ek';cases ek';lia
  ·have:=m6 ek' hi '#';lia
 ·by_cases h2:k=i+1
  ·subst h2;rw[hj] at ek';cases ek';lia
  ·have:=m6 hj ek' '#';lia
theorem rV{c e:Nat}(hi:(chg zs)[0]?=some c)(he:e∈chg zs):c<=e:=by
 obtain⟨k,hk,ek⟩:=jw he
 have ek':(chg zs)[k]?=some e:=by rw[zGe hk,ek]
 by_cases h:k=0
 ·subst h;rw[hi] at ek';cases ek';lia
 ·have:=m6 hi ek' '#';lia
theorem aDH{c e:Nat}(hi:(chg zs)[(chg zs).length-1]?=some c)(he:e∈chg zs):e<=c:=by
 obtain⟨k,hk,ek⟩:=jw he
 have ek':(chg zs)[k]?=some e:=by rw[zGe hk,ek]
 by_cases h:k=(chg zs).length-1
 ·subst h;rw[hi] at ek';cases ek';lia
 ·have:=m6 ek' hi '#';lia
theorem tI{c:Nat}(hi:(chg zs)[i]?=some c)(h:i+1<(chg zs).length):(aM zs)[i]?=zs[c]?/\c<zs.length:=by
 have hd:(chg zs).dropLast[i]?=some c:=by rw[fw,if_pos '#'];exact hi
 have hl:=i0 (b8 zs) (eH zs) c (zMo hd)
 unfold aM
 rw[qg,hd,vp,zGd,zGe hl]
 exact⟨rfl,hl⟩
theorem uN(h:∀z∈zs,z.length=n)(hr:aM zs≠[]):chg (aM zs)=qy (chg zs).length:=by
 have hc:chg zs≠[]:=λe=>hr (by unfold aM;rw[e];rfl)
 have hz:zs≠[]:=nN zs hc
 have hkl:=eB zs
 have hk1:1<=(aM zs).length:=yg.mpr hr
 have hK:∀z∈aM zs,z.length=n:=λz hz=>h z (jI z hz)
 have w1:=cJ h hz
 have w2:=cJ hK hr
 have f0:=fI zs
 have fl:=dH zs
 have g0:=fI (aM zs)
 have gl:=dH (aM zs)
 rw[w1] at f0 fl
 rw[w2] at g0 gl
 have A:∀i c,(chg zs)[i]?=some c->(framed (aM zs))[i]?=(framed zs)[c]?:=λi c hi=>by
  have hil:=(zGs hi).1
  have hcl:=eH zs c (zMo hi)
  cases i with
  |zero =>
   rw[g0,<- f0]
   exact still hz (vw _) '#' λe he z=>by have:=rV hi he;lia
  |succ i =>
   obtain⟨b,hb⟩:∃b,(chg zs)[i]?=some b:=⟨(chg zs)[i],zGe '#'⟩
   obtain⟨k1,k2⟩:=tI hb '#'
   have lt:=m6 hb hi (zh i)
   rw[cI '#',k1,<- cI k2]
   exact still hz '#' '#' λe he z=>by have:=tP hb hi he '#';lia
 have B:∀i c,(chg zs)[i]?=some c->(framed (aM zs))[i+1]?=(framed zs)[c+1]?:=λi c hi=>by
  have hil:=(zGs hi).1
  have hcl:=eH zs c (zMo hi)
  by_cases hlast:i+1<(chg zs).length
  ·obtain⟨k1,k2⟩:=tI hi hlast
   rw[cI '#',k1,<- cI k2]
  ·have ei:i=(chg zs).length-1:=by lia
   rw[show i+1=(aM zs).length+1 by lia,gl,<- fl]
   exact (still hz '#' (qm _) λe he z=>by have:=aDH (ei▸hi) he;lia).symm
 have:chg (aM zs)=(qy ((aM zs).length+1)).filter λi => !decide ((framed (aM zs))[i]?=(framed (aM zs))[i+1]?):=by
  unfold chg
  rw[if_neg (by rw[List.isEmpty_iff];exact hr)]
 rw[this,show (aM zs).length+1=(chg zs).length by lia]
 refine Q3.mpr λi hi => ?_
 have hil:=ve.mp hi
 have hi':(chg zs)[i]?=some (chg zs)[i]:=zGe hil
 have hne:=((eW hz).mp (zMo hi')).2
 rw[<- A i _ hi',<- B i _ hi'] at hne
 rw[decide_eq_false hne];rfl
theorem mX(h:∀z∈zs,z.length=n)(hz:zs≠[])(hn:0<n):aE (aE zs)=zs:=by
 have hc:(aE zs).length=n:=cR h hz
 have hcn:aE zs≠[]:=λe=>by rw[e] at hc;simp at hc;lia
 have hce:∀z∈aE zs,z.length=zs.length:=λz hz=>gB z hz
 have hzl:0<zs.length:=yg.mpr hz
 have hcc:=cR hce hcn
 apply kj
 intro i
 by_cases hi:i<zs.length
 ·rw[hX hce hcn hi,zGe hi]
  congr 1
  apply iQ
  show (aE zs).map (atS · i)=zs[i].cps.toList
  apply kj
  intro j
  have hl:=h zs[i] (jl hi)
  by_cases hj:j<n
  ·rw[qg,hX h hz hj,vp,dJ '#',jT,zGd,qg,zGe hi]
   rfl
  ·rw[qq (by rw[zLm];lia),qq (by rw[qo];have:zs[i].cps.size=zs[i].length:=rfl;lia)]
 ·rw[qq '#',qq '#']
theorem aAT(h:Good n zs)(hr:aM zs≠[]):
  chg (b4 zs)=qy (chg zs).length/\chg (aE (b4 zs))=qy (chg (aE zs)).length/\b4 zs≠[]/\Good ((chg (aE zs)).length-1) (b4 zs)/\2<=(chg (aE zs)).length/\2<=(chg zs).length:=by
 have hl:∀z∈zs,z.length=n:=λz hz=>(h z hz).1
 have gR:=iJ h
 have hR:∀z∈aM zs,z.length=n:=λz hz=>(gR z hz).1
 obtain⟨z0,hz0,hd0⟩:=oS hl hr
 obtain⟨j0,hj0,_⟩:=uZ gR hz0 hd0
 have hn:0<n:=by lia
 have eR:=uN hl hr
 have eC:=nE hl hr
 have gC:=kM gR
 have hC:∀z∈aE (aM zs),z.length=(aM zs).length:=λz hz=>(gC z hz).1
 have cne:aE (aM zs)≠[]:=λe=>by have:=cR hR hr;rw[e] at this;simp at this;lia
 have kne:aM (aE (aM zs))≠[]:=λe=>by
  have h1:=(rZ hC e).2
  rw[mX hR hr hn,eR] at h1
  have h2:(chg zs).length=0:=by simpa using congrArg md h1
  have:=eB zs
  exact hr (vf.mp '#')
 have eK:=uN hC kne
 have gK:=iJ gC
 have hK:∀z∈aM (aE (aM zs)),z.length=(aM zs).length:=λz hz=>(gK z hz).1
 have rl:0<(aM zs).length:=yg.mpr hr
 have e1:=nE hC kne
 rw[mX hR hr hn,eR,nL h hr] at e1
 have e2:aE (b4 zs)=aM (aE (aM zs)):=by rw[<- nL h hr];exact mX hK kne rl
 have kl:=eB (aE (aM zs))
 have kp:0<(aM (aE (aM zs))).length:=yg.mpr kne
 have kz:=eB zs
 rw[eC] at kl
 refine⟨e1,by rw[e2,eK,eC],λe => ?_,?_,by lia,by lia⟩
 ·rw[e] at e1
  have h2:=congrArg md e1
  rw[x8,show (chg ([]:List Str)).length=0 from rfl] at h2
  lia
 ·rw[<- nL h hr]
  have:=kM gK
  rw[kl] at this
  exact this
theorem yW{r c d:Nat}(hj:j<zs.length)(h1:(chg zs)[r]?=some c)(h2:(chg zs)[r+1]?=some d)(hc:c<=j)(hd:j<d):zs[j]?=zs[c]?:=by
 have hz:zs≠[]:=λe=>by rw[e] at hj;simp at hj
 rw[<- cI hj,<- cI (show c<zs.length by lia)]
 exact (still hz '#' '#' λe he z=>by have:=tP h1 h2 he '#';lia).symm
theorem vS(h:∀z∈zs,z.length=n)(hj:j<zs.length)(hn:∀r c d,(chg zs)[r]?=some c->(chg zs)[r+1]?=some d->¬(c<=j/\j<d)):zs[j]?=some (dots n):=by
 have hz:zs≠[]:=λe=>by rw[e] at hj;simp at hj
 have w:=cJ h hz
 have f0:=fI zs
 have fl:=dH zs
 rw[w] at f0 fl
 rw[<- cI hj]
 by_cases hall:∀e∈chg zs,j<e
 ·rw[<- f0]
  exact (still hz (vw _) '#' λe he z=>by have:=hall e he;lia).symm
 ·have h0:∀(r c:Nat),(chg zs)[r]?=some c->c<=j:=λr=>by
   induction r with
   |zero =>
    intro c hc
    refine kq λq=>hall λe he => ?_
    have:=rV hc he;lia
   |succ r ih =>
    intro d hd
    have hr:=(zGs hd).1
    have hc:(chg zs)[r]?=some (chg zs)[r]:=zGe '#'
    have:=hn r _ d hc hd
    have:=ih _ hc
    lia
  rw[<- fl]
  refine still hz '#' (qm _) λe he z => ?_
  obtain⟨k,hk,ek⟩:=jw he
  have:=h0 k e (by rw[zGe hk,ek])
  lia
theorem aF2{r c:Nat}(hr:(chg zs)[r]?=some i)(hr1:r+1<(chg zs).length)(hc:(chg (aE zs))[c]?=some j)(hc1:c+1<(chg (aE zs)).length){z:Str}(hz:zs[i]?=some z):∃y,(b4 zs)[r]?=some y/\atS y c=atS z j:=by
 have d1:(chg zs).dropLast[r]?=some i:=by rw[fw,if_pos '#'];exact hr
 have d2:(chg (aE zs)).dropLast[c]?=some j:=by rw[fw,if_pos '#'];exact hc
 unfold b4
 rw[qg,d1]
 refine⟨_,rfl,?_⟩
 rw[jT,zGd,qg,d2,zGd,hz]
 rfl
theorem aI4(h:∀z∈zs,z.length=n){c k d:Nat}(hk:k<n)(h1:(chg (aE zs))[c]?=some i)(h2:(chg (aE zs))[c+1]?=some d)(hc:i<=k)(hd:k<d):∀z∈zs,atS z k=atS z i:=λz hz=>by
 have hne:zs≠[]:=λe=>by rw[e] at hz;cases hz
 have hl:=cR h hne
 have:=yW (zs:=aE zs) '#' h1 h2 hc hd
 rw[hX h hne hk,hX h hne '#'] at this
 exact qT.mp this z hz
theorem aHS(h:∀z∈zs,z.length=n){k:Nat}(hk:k<n)(hn:∀r c d,(chg (aE zs))[r]?=some c->(chg (aE zs))[r+1]?=some d->¬(c<=k/\k<d)):∀z∈zs,atS z k=46:=λz hz=>by
 have hne:zs≠[]:=λe=>by rw[e] at hz;cases hz
 have hl:=cR h hne
 have:=vS (zs:=aE zs) (λz hz=>gB z hz) (j:=k) '#' hn
 rw[hX h hne hk] at this
 have e:ofL (zs.map (atS · k))=dots zs.length:=by injection this
 obtain⟨i,hi,rfl⟩:=jw hz
 have e2:=congrArg (λs=>atS s i) e
 simp only[jT,jU,if_pos hi] at e2
 rw[zGd,qg,zGe hi] at e2
 exact e2
noncomputable def c7(C:List Nat)(k:Int):Nat:=(C.filter λ(i:Nat)=>decide ((i:Int)<=k)).length
noncomputable def bd(C:List Nat)(k:Int):Int:=(c7 C k:Int)-1
theorem qZ{k:Int}:∀{C:List Nat},C.Pairwise (· < ·)->∀{i c:Nat},C[i]?=some c->((c:Int)<=k↔i<c7 C k)
 |[],_,i,c,h=>by simp at h
 |a::l,hs,i,c,h=>by
  obtain⟨h1,h2⟩:=qz.mp hs
  unfold c7
  by_cases ha:(a:Int)<=k
  ·rw[vz (by simpa using ha),jb]
   cases i with
   |zero=>simp at h;subst h;exact⟨λ_=>by lia,λ_=>ha⟩
   |succ i =>
    have:=qZ (k:=k) h2 (i:=i) (c:=c) (by simpa using h)
    unfold c7 at this
    rw[this];lia
  ·rw[yh (by simpa using ha)]
   have e:l.filter (λ(i:Nat)=>decide ((i:Int)<=k))=[]:=yn.mpr λx hx=>by have:=h1 x hx;simp;lia
   rw[e]
   cases i with
   |zero=>simp at h;subst h;exact⟨λz=>absurd z ha,λz=>by simp at z⟩
   |succ i =>
    have:=h1 c (zMo (i:=i) (by simpa using h))
    exact⟨λz=>by lia,λz=>by simp at z⟩
theorem aBD(C:List Nat)(k:Int):c7 C k<=C.length:=bw _ _
theorem aG4(g:Good n zs)(k j:Int):aW (b4 zs) (bd (chg (aE zs)) k) (bd (chg zs) j)=aW zs k j:=by
 have h:∀z∈zs,z.length=n:=λz hz=>(g z hz).1
 have kl:(b4 zs).length=(chg zs).length-1:=by unfold b4;rw[zLm,jj]
 have kw:∀z∈b4 zs,z.length=(chg (aE zs)).length-1:=λz hz=>by
  unfold b4 at hz
  obtain⟨i,_,rfl⟩:=qw.mp hz
  rw[lA,zLm,jj]
 have c1:=aBD (chg zs) j
 have c2:=aBD (chg (aE zs)) k
 have key1:=λ{i c}=>qZ (k:=j) (b8 zs) (i:=i) (c:=c)
 have key2:=λ{i c}=>qZ (k:=k) (b8 (aE zs)) (i:=i) (c:=c)
 unfold bd
 -- the row is none: both are out
 by_cases hr:0<c7 (chg zs) j/\c7 (chg zs) j<(chg zs).length
 rotate_left
 ·have lhs:aW (b4 zs) ((c7 (chg (aE zs)) k:Int)-1) ((c7 (chg zs) j:Int)-1)=false:=by
   by_cases h0:c7 (chg zs) j=0
   ·exact fB '#'
   ·exact fP '#'
  rw[lhs]
  symm
  by_cases hj0:j<0
  ·exact fB hj0
  by_cases hj1:(zs.length:Int)<=j
  ·exact fP hj1
  obtain⟨m,rfl⟩:∃m:Nat,j=(m:Int):=⟨j.toNat,by lia⟩
  have hd:=vS h (j:=m) '#' λr c d h1 h2 h3=>by
   have a1:=key1 h1
   have a2:=key1 h2
   have hl2:=(zGs h2).1
   lia
  by_cases hk0:k<0
  ·exact dG hk0
  obtain⟨q,rfl⟩:∃q:Nat,k=(q:Int):=⟨k.toNat,by lia⟩
  by_cases hk1:n<=q
  ·exact i9 (z:=dots n) (by rw[ql];exact hd) (by rw[pA];lia)
  ·rw[fF (z:=dots n) (c:=46) '#' '#' (by rw[ql];exact hd) (by rw[ql,dJ (by rw[pA];lia),jU,if_pos '#'])]
   rfl
 obtain⟨r,hr0⟩:∃r,c7 (chg zs) j=r+1:=⟨c7 (chg zs) j-1,by lia⟩
 have er:(((c7 (chg zs) j:Nat):Int)-1)=(r:Int):=by lia
 have g1:(chg zs)[r]?=some (chg zs)[r]:=zGe '#'
 have g2:(chg zs)[r+1]?=some (chg zs)[r+1]:=zGe '#'
 have b1:=(key1 g1).mpr '#'
 have b2:=key1 g2
 have hd2:=eH _ _ (zMo g2)
 obtain⟨m,rfl⟩:∃m:Nat,j=(m:Int):=⟨j.toNat,by lia⟩
 have hm:m<zs.length:=by lia
 have eb:=yW hm g1 g2 '#' '#'
 obtain⟨z,hz⟩:∃z,zs[m]?=some z:=⟨zs[m],zGe hm⟩
 rw[hz] at eb
 have hzm:=zMo hz
 have hkr:r<(b4 zs).length:=by lia
 have hky:(b4 zs)[r]?=some (b4 zs)[r]:=zGe hkr
 have hyl:=kw _ (jl hkr)
 rw[er]
 by_cases hc:0<c7 (chg (aE zs)) k/\c7 (chg (aE zs)) k<(chg (aE zs)).length
 rotate_left
 ·have lhs:aW (b4 zs) ((c7 (chg (aE zs)) k:Int)-1) (r:Int)=false:=by
   by_cases h0:c7 (chg (aE zs)) k=0
   ·exact dG '#'
   ·exact i9 (z:=(b4 zs)[r]) (by rw[ql];exact hky) '#'
  rw[lhs]
  symm
  by_cases hk0:k<0
  ·exact dG hk0
  obtain⟨q,rfl⟩:∃q:Nat,k=(q:Int):=⟨k.toNat,by lia⟩
  by_cases hk1:n<=q
  ·exact i9 (z:=z) (by rw[ql];exact hz) (by rw[h z hzm];lia)
  ·have:=aHS h (k:=q) '#' (λr c d h1 h2 h3=>by
    have a1:=key2 h1
    have a2:=key2 h2
    have hl2:=(zGs h2).1
    lia) z hzm
   rw[fF (z:=z) (c:=46) '#' '#' (by rw[ql];exact hz) (by rw[ql,dJ (by rw[h z hzm];lia),this])]
   rfl
 obtain⟨c,hc0⟩:∃c,c7 (chg (aE zs)) k=c+1:=⟨c7 (chg (aE zs)) k-1,by lia⟩
 have ec:(((c7 (chg (aE zs)) k:Nat):Int)-1)=(c:Int):=by lia
 have f1:(chg (aE zs))[c]?=some (chg (aE zs))[c]:=zGe '#'
 have f2:(chg (aE zs))[c+1]?=some (chg (aE zs))[c+1]:=zGe '#'
 have d1:=(key2 f1).mpr '#'
 have d2:=key2 f2
 have hne:zs≠[]:=λe=>by rw[e] at hm;simp at hm
 have hcl:=cR h hne
 have hd3:=eH _ _ (zMo f2)
 obtain⟨q,rfl⟩:∃q:Nat,k=(q:Int):=⟨k.toNat,by lia⟩
 have hq:q<n:=by lia
 obtain⟨y,hy,ey⟩:=aF2 g1 '#' f1 '#' eb.symm
 have ecol:=aI4 h (k:=q) hq f1 f2 '#' '#' z hzm
 have hyl2:=kw y (zMo hy)
 rw[ec,fF (z:=y) (c:=atS y c) '#' '#' (by rw[ql];exact hy) (by rw[ql];exact dJ '#'),
  fF (z:=z) (c:=atS z q) '#' '#' (by rw[ql];exact hz) (by rw[ql];exact dJ (by rw[h z hzm];exact hq)),ey,ecol]
theorem pF{K:List Str}{a u:Int}:aW K a u=true↔0<=u/\0<=a/\∃z,K[u.toNat]?=some z/\z.cps.toList[a.toNat]?=some 35:=by
 unfold aW
 rw[qp,qp,decide_eq_true_eq,decide_eq_true_eq,beq_iff_eq]
 constructor
 ·rintro⟨⟨h1,h2⟩,h3⟩
  obtain⟨z,hz,e⟩:=zk.mp h3
  exact⟨h1,h2,z,hz,e⟩
 ·rintro⟨h1,h2,z,hz,e⟩
  exact⟨⟨h1,h2⟩,zk.mpr ⟨z,hz,e⟩⟩
noncomputable def bT:List Int->List Int->List Int
 |[],ys=>ys
 |x::xs,[]=>x::xs
 |x::xs,y::ys=>if y<x then y::bT (x::xs) ys else if x=y then x::bT xs ys else x::bT xs (y::ys)
termination_by xs ys=>xs.length+ys.length
theorem cQ:∀(xs ys:List Int) (a:Int),a∈bT xs ys↔a∈xs\/a∈ys
 |[],ys,a=>by rw[bT];simp
 |x::xs,[],a=>by rw[bT];simp
 |x::xs,y::ys,a=>by
  rw[bT]
  split
  ·rw[qe,cQ (x::xs) ys a,qe (a:=a) (b:=y)]
   constructor
   ·rintro (h|h|h)
    ·exact .inr (.inl h)
    ·exact .inl h
    ·exact .inr (.inr h)
   ·rintro (h|h|h)
    ·exact .inr (.inl h)
    ·exact .inl h
    ·exact .inr (.inr h)
  ·split
   ·rename_i h1 h2
    subst h2
    rw[qe,cQ xs ys a,qe,qe]
    constructor
    ·rintro (h|h|h)
     ·exact .inl (.inl h)
     ·exact .inl (.inr h)
     ·exact .inr (.inr h)
    ·rintro ((h|h)|h|h)
     ·exact .inl h
     ·exact .inr (.inl h)
     ·exact .inl h
     ·exact .inr (.inr h)
   ·rw[qe,cQ xs (y::ys) a,qe (a:=a) (b:=x)]
    constructor
    ·rintro (h|h|h)
     ·exact .inl (.inl h)
     ·exact .inl (.inr h)
     ·exact .inr h
    ·rintro ((h|h)|h)
     ·exact .inl h
     ·exact .inr (.inl h)
     ·exact .inr (.inr h)
termination_by xs ys=>xs.length+ys.length
theorem eA:∀{xs ys:List Int},xs.Pairwise (· < ·)->ys.Pairwise (· < ·)->(bT xs ys).Pairwise (· < ·)
 |[],ys,_,hy=>by rw[bT];exact hy
 |x::xs,[],hx,_=>by rw[bT];exact hx
 |x::xs,y::ys,hx,hy=>by
  obtain⟨x1,x2⟩:=qz.mp hx
  obtain⟨y1,y2⟩:=qz.mp hy
  rw[bT]
  split
  ·rename_i h
   refine qz.mpr ⟨λa ha => ?_,eA hx y2⟩
   rcases (cQ _ _ _).mp ha with h1|h1
   ·rcases qe.mp h1 with rfl|h1
    ·exact h
    ·have:=x1 a h1;omega
   ·exact y1 a h1
  ·split
   ·rename_i h1 h2
    subst h2
    refine qz.mpr ⟨λa ha => ?_,eA x2 y2⟩
    rcases (cQ _ _ _).mp ha with h1|h1
    ·exact x1 a h1
    ·exact y1 a h1
   ·rename_i h1 h2
    refine qz.mpr ⟨λa ha => ?_,eA x2 hy⟩
    rcases (cQ _ _ _).mp ha with h3|h3
    ·exact x1 a h3
    ·rcases qe.mp h3 with rfl|h3
     ·omega
     ·have:=y1 a h3;omega
termination_by xs ys=>xs.length+ys.length
theorem pP{ys:List Int}{f s:Nat}(hf:f<xs.length)(hs:s<ys.length):
  bT (xs.drop f) (ys.drop s)= ','::bT (xs.drop (f+if xs.getD f 0= ',' then 1 else 0)) (ys.drop (s+if ys.getD s 0= ',' then 1 else 0)):=by
 have ex:xs.drop f=xs.getD f 0::xs.drop (f+1):=by rw[x3 hf,zGd,zGe hf];rfl
 have ey:ys.drop s=ys.getD s 0::ys.drop (s+1):=by rw[x3 hs,zGd,zGe hs];rfl
 generalize xs.getD f 0=x at *
 generalize ys.getD s 0=y at *
 conv=>lhs;rw[ex,ey,bT]
 by_cases h:y<x
 ·rw[if_pos h,if_pos h,if_neg '!',if_pos rfl]
  show _=y::bT (xs.drop f) (ys.drop (s+1))
  rw[ex]
 ·rw[if_neg h,if_neg h,if_pos rfl]
  by_cases h2:x=y
  ·rw[if_pos h2,if_pos h2.symm]
  ·rw[if_neg h2,if_neg (λe=>h2 e.symm)]
   show _=x::bT (xs.drop (f+1)) (ys.drop s)
   rw[ey]
end R
namespace U
open PySem
abbrev Up(ws:List Rat):Prop:=ws.Pairwise (· < ·)
noncomputable def ix(ws:List Rat)(x:Rat):Int:=((ws.filter λw=>decide (w<=x)).length:Int)-1
theorem pJ(ws:List Rat)(x:Rat): -1<=ix ws x:=by unfold ix;lia
theorem qQ(ws:List Rat)(x:Rat):ix ws x<ws.length:=by
 unfold ix
 have:=bw (λw=>decide (w<=x)) ws
 lia
theorem fL{x:Rat}:∀{ws:List Rat},Up ws->∀{i:Nat} (h:i<ws.length),ws[i]<=x↔(i:Int)<=ix ws x
 |[],_,i,h=>absurd h (zx _)
 |w::r,u,i,h=>by
  obtain⟨u1,u2⟩:=qz.mp u
  unfold ix
  by_cases hw:w<=x
  ·rw[vz (by simpa using hw),jb]
   cases i with
   |zero=>exact⟨λ_=>by lia,λ_=>hw⟩
   |succ i =>
    have:=fL (x:=x) u2 (i:=i) (by simpa using h)
    unfold ix at this
    simp only[fv]
    rw[this]
    lia
  ·rw[yh (by simpa using hw)]
   have e:r.filter (λw=>decide (w<=x))=[]:=yn.mpr λa ha=>by
    have:=u1 a ha
    simp only[decide_eq_true_eq]
    grind
   rw[e]
   have h1:¬(w::r)[i]<=x:=by
    cases i with
    |zero=>simpa using hw
    |succ i =>
     have:=u1 _ (jl (by simpa using h:i<r.length))
     simp only[fv]
     grind
   exact⟨λz=>absurd z h1,λz=>by simp at z;lia⟩
theorem sX{x:Rat}{k:Int}(u:Up ws)(h0 : -1<=k)(h1:k<ws.length)(h:∀(i:Nat) (hi:i<ws.length),ws[i]<=x↔(i:Int)<=k):ix ws x=k:=by
 have a:=pJ ws x
 have b:=qQ ws x
 apply Int.le_antisymm
 ·by_cases hk:0<=ix ws x
  ·have q:=(h (ix ws x).toNat '#').mp ((fL u '#').mpr '#')
   lia
  ·lia
 ·by_cases hk:0<=k
  ·have q:=(fL (x:=x) u (i:=k.toNat) '#').mp ((h k.toNat '#').mpr '#')
   lia
  ·lia
theorem n6(u:Up ws)(hi:i<ws.length)(hj:j<ws.length):ws[i]<ws[j]↔i<j:=by
 have p:=kd.mp u
 constructor
 ·intro h
  rcases JG i j with q|q|q
  ·exact q
  ·subst q;grind
  ·have:=p j i hj hi q;grind
 ·exact p i j hi hj
theorem p9(u:Up ws)(hi:i<ws.length)(hj:j<ws.length):ws[i]<=ws[j]↔i<=j:=by
 have:=n6 u hj hi
 constructor
 ·intro h;refine fk λq => ?_
  have:=this.mpr q;grind
 ·intro h
  have:¬ws[j]<ws[i]:=λq=>by have:=this.mp q;lia
  grind
theorem fQ(u:Up ws)(hi:i<ws.length):ix ws ws[i]=i:=
 sX u '#' '#' λj hj=>by rw[p9 u hj hi];lia
theorem aCM{vs:List Rat}(u:Up ws)(v:Up vs)(h:∀x,x∈ws↔x∈vs):ws=vs:=by
 induction ws generalizing vs with
 |nil =>
  cases vs with
  |nil=>rfl
  |cons a r=>exact absurd ((h a).mpr (.head _)) '$'
 |cons w ws ih =>
  cases vs with
  |nil=>exact absurd ((h w).mp (.head _)) '$'
  |cons a r =>
   obtain⟨u1,u2⟩:=qz.mp u
   obtain⟨v1,v2⟩:=qz.mp v
   have e:w=a:=by
    rcases qe.mp ((h w).mp (.head _)) with q|q
    ·exact q
    ·rcases qe.mp ((h a).mpr (.head _)) with z|z
     ·exact z.symm
     ·have:=v1 w q;have:=u1 a z;grind
   subst e
   rw[ih u2 v2 λx => ?_]
   constructor
   ·intro hx
    rcases qe.mp ((h x).mp (.tail _ hx)) with q|q
    ·subst q;have:=u1 x hx;grind
    ·exact q
   ·intro hx
    rcases qe.mp ((h x).mpr (.tail _ hx)) with q|q
    ·subst q;have:=v1 x hx;grind
    ·exact q
theorem xY{xs:List Rat}(u:Up ws)(v:Up xs)(hs:∀w∈ws,w∈xs){x:Rat}(hi:i<xs.length)(e:ix xs x=i):ix ws x=ix ws xs[i]:=by
 unfold ix
 refine congrArg (λl:List Rat=>(l.length:Int)-1) (fb λw hw => ?_)
 obtain⟨j,hj,rfl⟩:=jw (hs w hw)
 have h1:=fL (x:=x) v hj
 have h2:=p9 v hj hi
 rw[decide_eq_decide,h1,h2,e]
 lia
theorem aDA{xs:List Rat}(v:Up xs)(hs:∀w∈ws,w∈xs){x:Rat}(e:ix xs x = -1):ix ws x = -1:=by
 unfold ix
 rw[yn.mpr λw hw => ?_]
 ·rfl
 ·obtain⟨j,hj,rfl⟩:=jw (hs w hw)
  have h1:=fL (x:=x) v hj
  rw[decide_eq_true_eq,h1,e]
  lia
theorem xX{xs:List Rat}(v:Up xs)(hs:∀w∈ws,w∈xs){x:Rat}(e:ix xs x=(xs.length:Int)-1):ix ws x=(ws.length:Int)-1:=by
 unfold ix
 rw[Q3.mpr λw hw => ?_]
 obtain⟨j,hj,rfl⟩:=jw (hs w hw)
 have h1:=fL (x:=x) v hj
 rw[decide_eq_true_eq,h1,e]
 lia
noncomputable def gP(xs:List Rat)(js:List Nat):List Rat:=js.map λj=>xs.getD j 0
theorem u3{xs:List Rat}(u:Up xs)(hs:js.Pairwise (· < ·))(h:∀j∈js,j<xs.length):Up (gP xs js):=by
 unfold gP Up
 rw[bh]
 refine KJ ?_ hs
 intro a b ha hb hab
 have h1:=h a ha
 have h2:=h b hb
 rw[zGd,zGd,zGe h1,zGe h2]
 exact (n6 u h1 h2).mpr hab
theorem sF{xs:List Rat}(h:∀j∈js,j<xs.length):∀x∈gP xs js,x∈xs:=λx hx=>by
 obtain⟨j,hj,rfl⟩:=qw.mp hx
 rw[zGd,zGe (h j hj)]
 exact jl _
theorem xR{xs:List Rat}(u:Up xs)(h:∀j∈js,j<xs.length)(x:Rat):ix (gP xs js) x=R.bd js (ix xs x):=by
 unfold ix gP R.bd R.c7
 rw[List.filter_map,zLm]
 congr 2
 congr 1
 refine fb λj hj => ?_
 have h1:=h j hj
 have:=fL (x:=x) u h1
 show decide (xs.getD j 0<=x)=_
 rw[zGd,zGe h1,decide_eq_decide]
 exact this
end U
namespace Z
open PySem L2
end Z
namespace Q
open PySem L2 Z
theorem vM(h:n<=1000):("." : Str).length*((n:Int)).toNat<=sizeLine:=by
 have e:("." : Str).length=1:=by decide +kernel
 rw[e,ql,Nat.one_mul]
 exact R.aX '!'
theorem jP(h:i<zs.length+2):∃u,(R.framed zs)[i]?=some u:=⟨(R.framed zs)[i]'(by rw[R.jR];exact h),by simp[R.jR,h]⟩
theorem oE{z:Str}(h:zs[i]?=some z):atI (zs.map D.str) (0+(i:Int))=some (.str z):=by
 rw[xy];exact dA (by rw[qg,h];rfl)
theorem vW{z:Str}(h:zs[i+1]?=some z):atI (zs.map D.str) (0+(i:Int)+1)=some (.str z):=by
 rw[xy];exact dA (j:=i+1) (by rw[qg,h];rfl)
noncomputable def dP(l:List Nat):List D:=l.map λ(i:Nat)=>D.int (i:Int)
theorem gW{l:List Nat}(h:(dP l)[i]?=some d):∃j,l[i]?=some j/\d = .int (j:Int):=bP h
theorem cV(l:List Nat):(dP l).length=l.length:=by simp[dP]
theorem aB7:(qy (zs.length+1)).filter (λi => !decide ((R.framed zs)[i]?=(R.framed zs)[i+1]?))=R.chg zs:=by
 unfold R.chg
 cases zs with
 |nil=>rfl
 |cons z zr=>rfl
theorem jB{p:Nat->Bool}:(qy (n+1)).filter p=if p n=true then (qy n).filter p++[n] else (qy n).filter p:=by
 rw[cu,pd]
 by_cases h:p n=true
 ·rw[if_pos h,vz h];rfl
 ·rw[if_neg h,yh h,Qa,yt]
theorem g8{α:Type}(l:List α):cutD l none (some (-1))=l.dropLast:=by
 unfold cutD
 have e1:HT.sIx l.length 0 none=0:=rfl
 have e2:HT.sIx l.length l.length (some (-1))=l.length-1:=by
  show (if (-1:Int)<0 then ((-1:Int)+(l.length:Int)).toNat else min (-1:Int).toNat l.length)=l.length-1
  rw[if_pos '*'];omega
 rw[e1,e2,ll,QR,List.dropLast_eq_take]
theorem gQ(l:List Nat):(dP l).dropLast=dP l.dropLast:=by simp[dP,Jp]
theorem bO{α β:Type}{f:α->β}{l:List α}{x:α}(h:l[i]?=some x):(l.take (i+1)).map f=(l.take i).map f++[f x]:=by
 rw[take_snoc h,qj];rfl
theorem zG{xs:List D}(h:j<xs.length):atI xs (j:Int)=some (xs.getD j .non):=dA (by simp[h])
theorem oC(l:List Str)(h:∀z∈l,z.length=1):(l.map (·.length)).sum=l.length:=by
 induction l with
 |nil=>rfl
 |cons a l ih =>
  rw[vy,nu,ih λz hz=>h z (by simp[hz]),h a '$',jb,KZ]
theorem tJ(zs:List Str)(j:Nat):rg w4 (zs.map λz=>(⟨#[R.atS z j]⟩:Str))=R.ofL (zs.map (R.atS · j)):=by
 have:=R.jZ (zs.map (R.atS · j))
 rw[vj] at this
 exact this
theorem map_nil{α β:Type}{f:α->β}{l:List α}(h:decide (l.map f=[])=true):l=[]:=by
 have:=of_decide_eq_true h
 cases l with
 |nil=>rfl
 |cons a l=>cases this
end Q
namespace R
open PySem L2
theorem units_le{k:Nat}(hr:Room k A)(h:n<=64:=by decide):A.units+n<cLine:=by have:=hr.units;omega
end R
namespace Q
open PySem L2 Z
theorem FdM.del{p:Addr}{b:Int}(h:FdM M p b)(n:a≠p):FdM (j5 M a) p b:=by
 obtain⟨g,m,st,e,r⟩:=h
 exact⟨g,m,st,by rw[kT (dc n)];exact e,r⟩
theorem cZ.del{p:Addr}{M':Mem}(h:cZ p M M')(n:M a=none):cZ p M (j5 M' a):=λb u nb e=>by
 rw[kT (λz=>by rw[z,n] at e;cases e)];exact h b u nb e
theorem cZ.none_of{p:Addr}{M':Mem}(h:cZ p M M')(n:M' a=none)(np:a≠p):M a=none:=by
 cases e:M a with
 |none=>rfl
 |some o=>rw[h a o np e] at n;cases n
theorem sD(h:R.Good n zs){cs:List Nat}(hl:cs.length=n)(hs:∀c∈cs,c=35\/c=46):R.Good n (zs++[R.ofL cs]):=λz hz=>by
 rcases jo.mp hz with hz|hz
 ·exact h z hz
 ·rw[ji] at hz
  subst hz
  refine⟨by rw[R.lA];exact hl,?_⟩
  show cs.all R.sgn=true
  rw[jy]
  intro c hc
  rcases hs c hc with rfl|rfl <;> rfl
theorem oI(l:List Nat):((l.map λc=>(⟨#[c]⟩:Str)).map (·.length)).sum=l.length:=by
 rw[oC _ λz hz=>by obtain⟨c,_,rfl⟩:=qw.mp hz;rfl,zLm]
end Q
namespace Z
open PySem L2
section
variable {K:Fg}
noncomputable def aFO:D->Bool
 |.non=>true
 |_=>false
theorem aG1(h:Den K G d v):decide (v = .non)=aFO d:=by
 cases d with
 |non=>rw[h.non_];rfl
 |bl b=>rw[h.bl_];rfl
 |int b=>rw[h.int_];rfl
 |str b=>rw[h.str_];rfl
 |mt b=>rw[h.mt_];rfl
 |tup b=>obtain⟨_,_,e,_⟩:=h.tup_;rw[e];rfl
 |lst b=>obtain⟨_,_,e,_⟩:=h.lst_;rw[e];rfl
 |fl b=>obtain⟨_,_,e,_⟩:=h.fl_;rw[e];rfl
 |st b=>obtain⟨_,_,_,e,_⟩:=h.st_;rw[e];rfl
theorem aJ0(h:k (.bl (aFO d)) M):Op2 K (λx y H Q=>y = .non/\Q (.bl (decide (x = .non))) H) d .non M k:=λG H v1 v2 Q rl e1 e2 q =>
 ⟨e2.non_,by rw[aG1 e1];exact q _ _ _ _ _ (Stp.refl rl) cX h⟩
end
end Z
namespace L2
open PySem PySem.Spec PyProof.Rows
section
end
end L2
namespace Z
open PySem L2
section
variable {K:Fg}
end
end Z
namespace Q
open PySem L2 Z
noncomputable def aEN:Ct:=λds M k=>∃(x y:D) (zs:List Str) (a u:Int),ds=[.tup [x,y, .tup (zs.map .str)], .int a, .int u]/\(∀z∈zs,z.length<=1000)/\k (.bl (R.aW zs a u)) M
theorem aBC{c:Nat}:decide ((⟨#[c]⟩:Str)=("#" : Str))=decide (c=35):=by
 have e:("#" : Str)=⟨#[35]⟩:=by decide +kernel
 rw[e]
 by_cases h:c=35
 ·rw[h];simp
 ·rw[decide_eq_false h]
  exact decide_eq_false λz=>h (by injection z with z;simpa using z)
theorem cell_in{a u:Int}(h1:¬decide (u<0)=true)(h2:¬decide (((zs.map D.str).length:Int)<=u)=true)(h3:¬decide (a<0)=true):0<=u/\0<=a/\∃z,zs[u.toNat]?=some z/\atI (zs.map D.str) u=some (.str z):=by
 have h1':¬u<0:=λz=>h1 (decide_eq_true z)
 have h2':¬((zs.length:Nat):Int)<=u:=λz=>h2 (decide_eq_true (by rw[zLm];exact z))
 have h3':¬a<0:=λz=>h3 (decide_eq_true z)
 obtain⟨j,rfl⟩:∃j:Nat,u=(j:Int):=⟨u.toNat,by omega⟩
 have hj:j<zs.length:=by omega
 refine⟨by omega,by omega,zs[j],by simp[hj],dA (by simp[hj])⟩
theorem aH3{z:Str}{a:Int}(ha:0<=a)(h:¬((z.length:Nat):Int)<=a):∃c,z.cps.toList[a.toNat]?=some c/\atI z.cps.toList a=some c:=by
 obtain⟨j,rfl⟩:∃j:Nat,a=(j:Int):=⟨a.toNat,by omega⟩
 have hj:j<z.cps.toList.length:=by rw[qo];have:z.cps.size=z.length:=rfl;omega
 exact⟨z.cps.toList[j],by simp,dA (zGe hj)⟩
end Q
namespace HT
open PySem PySem.Spec PyProof.Rows
section
variable {E:Value->Shared->Prop}
end
end HT
namespace L2
open PySem PySem.Spec PyProof.Rows
section
end
end L2
namespace Z
open PySem L2
section
theorem aJ2{K:Fg}{c e:D}(r:Rs M d e)(he:e = .tup ds\/e = .lst ds)(hc:okD n c=true)(hd:okDs n ds=true)(h:k (.bl (ds.any λx=>eqD x c)) M):Op2 K (rInD K n false) c d M k:=λG H v1 v2 Q rl e1 e2 q =>
 ⟨c,e,ds,he,hc,hd,e1.up rl.same,r.den rl e2,q _ _ _ _ _ (Stp.refl rl) cX h⟩
end
end Z
namespace Q
open PySem L2 Z
end Q
namespace Z
open PySem L2
theorem slen(a b:Str):(a++b).length=a.length+b.length:=by
 show (a.cps++b.cps).size=_
 rw[Array.size_append];rfl
theorem oX:∀(ts:List Str) (k:Nat) (acc:Str),(textFrom k acc ts).length<=acc.length+(ts.map (·.length)).sum+2*ts.length
 |[],k,acc=>by simp[textFrom]
 |t::ts,k,acc=>by
  have ih:=oX ts (k+1) (acc++(if k>0 then ", " else "" : String)++t)
  have e:(acc++((if k>0 then ", " else "" : String):Str)++t).length<=acc.length+2+t.length:=by
   rw[slen,slen]
   split
   ·have:((", " : String):Str).length=2:=by decide +kernel
    lia
   ·have:(("" : String):Str).length=0:=by decide +kernel
    lia
  show (textFrom (k+1) (acc++(if k>0 then ", " else "" : String)++t) ts).length<=_
  rw[vy,nu,jb]
  lia
theorem wG(ts:List Str):(listText ts).length<=(ts.map (·.length)).sum+2*ts.length+2:=by
 unfold listText
 rw[slen]
 have h:=oX ts 0 "["
 have e1:("[" : Str).length=1:=by decide +kernel
 have e2:("]" : Str).length=1:=by decide +kernel
 lia
theorem join_le:∀ts:List Str,(Str.join ", " ts).length<=(ts.map (·.length)).sum+2*ts.length
 |[]=>by show (w4).length<=_;exact vw _
 |[x]=>by show x.length<=_;simp
 |x::y::r=>by
  have ih:=join_le (y::r)
  show (x ++ ", " ++ Str.join ", " (y::r)).length<=_
  rw[slen,slen]
  have e2:((", " : String):Str).length=2:=by decide +kernel
  rw[vy,nu,jb]
  lia
theorem t8(ts:List Str):(tupleText ts).length<=(ts.map (·.length)).sum+2*ts.length+3:=by
 unfold tupleText
 rw[slen,slen]
 have h:=join_le ts
 have e1:("(" : Str).length=1:=by decide +kernel
 have e2:(((if ts.length==1 then ",)" else ")" : String)):Str).length<=2:=by split <;> decide +kernel
 lia
mutual
noncomputable def smD:D->Bool
 |.non|.bl _|.str _=>true
 |.int i=>decide (i.natAbs<10^65)
 |.tup ds=>smDs ds
 |.lst ds=>smDs ds
 |.mt _|.fl _|.st _=>false
noncomputable def smDs:List D->Bool
 |[]=>true
 |d::ds=>smD d&&smDs ds
end
mutual
noncomputable def wt:D->Nat
 |.non=>4
 |.bl _=>5
 |.int _=>66
 |.str x=>(reprText x).length
 |.tup ds=>wts ds+3
 |.lst ds=>wts ds+2
 |.mt _|.fl _|.st _=>0
noncomputable def wts:List D->Nat
 |[]=>0
 |d::ds=>wt d+2+wts ds
end
mutual
theorem shown_le:∀d:D,smD d=true->(toPy d).showable=true/\(toPy d).shown.length<=wt d
 |.non,_=>by simp only[toPy,zj,cw,wt];exact⟨trivial,by decide +kernel⟩
 |.bl b,_=>by simp only[toPy,zj,cw,wt];exact⟨trivial,by cases b <;> decide +kernel⟩
 |.str x,_=>by simp only[toPy,zj,cw,wt];exact⟨trivial,qm _⟩
 |.int i,h=>by
  simp only[smD,decide_eq_true_eq] at h
  simp only[toPy,zj,cw,wt,decide_eq_true_eq]
  refine⟨?_,?_⟩
  ·have h2:i.natAbs<2^1920:=qr h '*'
   by_cases h0:i.natAbs=0
   ·rw[h0];decide
   ·exact (VT h0).mpr h2
  ·have:=int_text_length_le10 (a:=i) (k:=65) '*' h
   show (jg (toString i)).length<=66
   rw[ofString_length];exact this
 |.mt _,h=>by simp[smD] at h
 |.fl _,h=>by simp[smD] at h
 |.st _,h=>by simp[smD] at h
 |.tup ds,h=>by
  simp only[smD] at h
  obtain⟨h1,h2⟩:=showns_le ds h
  simp only[toPy,zj,cw,wt]
  exact⟨h1,jf (t8 _) '#'⟩
 |.lst ds,h=>by
  simp only[smD] at h
  obtain⟨h1,h2⟩:=showns_le ds h
  simp only[toPy,zj,cw,wt]
  exact⟨h1,jf (wG _) '#'⟩
theorem showns_le:∀ds:List D,smDs ds=true->mf (toPys ds)=true/\((fj (toPys ds)).map (·.length)).sum+2*(fj (toPys ds)).length<=wts ds
 |[],_=>by simp[toPys,mf,fj,wts]
 |d::ds,h=>by
  simp only[smDs,qp] at h
  obtain⟨a1,a2⟩:=shown_le d h.1
  obtain⟨b1,b2⟩:=showns_le ds h.2
  simp only[toPys,mf,fj,wts,vy,nu,jb]
  exact⟨by rw[a1,b1];rfl,by lia⟩
end
theorem k9:∀{ds:List D},(∀d∈ds,okD n d=true)->okDs n ds=true
 |[],_=>by simp only[okDs]
 |d::ds,h=>by
  have ih:=k9 (ds:=ds) λe he=>h e (ke _ he)
  simp only[okDs,h d '$',ih,xn]
end Z
namespace Q
open PySem L2 Z
noncomputable def pairD(p:Int×Int):D := .tup [.int p.1, .int p.2]
theorem n5{c:D}(h:c∈ds)(ok:okD n c=true):(ds.any λx=>eqD x c)=true:=ym.mpr ⟨c,h,eqD_refl n c ok⟩
noncomputable def zE:Ct:=λds M k=>∃ns:List Int,ds=[.fl (ns.map .int)]/\ns.length<=63/\∀M',k (.bl true) M'
end Q
namespace L2
open PySem PySem.Spec PyProof.Rows
section
end
end L2
namespace Z
open PySem L2
section
variable {a:Expr}{rest:List Expr}
end
section
theorem aIL(I:Inv X pins σ H s){e:D}{u:V}{v' u':Value}(A:Around)(g1:Disp d)(g2:Disp e)(h1:okD n d=true)(h2:okD n e=true)(x:Den X.K H d v)(y:Den X.K H e u)(rx:RelV v v')(ry:RelV u u')(hu:A.units+n<cLine):SeqAt.RcNeAt A s v' u' (!eqD d e):=by
 cases g1 with
 |tup ds =>
  obtain⟨a,its,vs,rfl,it,rv,dn⟩:=dF I x rx
  cases g2 with
  |lst es=>obtain⟨b,its2,vs2,rfl,it2,_⟩:=dE I y ry;simp only[eqD];exact K5 it it2 '!'
  |tup es =>
   obtain⟨b,its2,vs2,rfl,it2,rv2,dn2⟩:=dF I y ry
   cases n with
   |zero=>simp[okD] at h1
   |succ n =>
    have k1:okDs n ds=true:=by simpa only[okD] using h1
    have k2:okDs n es=true:=by simpa only[okD] using h2
    have:=K4 (A:=A) (s:=s) (e:=eqJ ds es) it it2 '!' (λj g1 g2=>by
     obtain⟨c,v1,e1,q1,r1⟩:=dZ dn rv g1
     obtain⟨c2,v2,e2,q2,r2⟩:=dZ dn2 rv2 g2
     have:=eqAt_D I c n c2 v1 v2 _ _ A.in1 (cF k1 e1) (cF k2 e2) q1 q2 r1 r2 (by show A.units+1+n<cLine;omega)
     unfold eqJ;rw[e1,e2];exact this)
    rw[qc,qc,<- rv.length,<- rv2.length,<- dn.len,<- dn2.len,fS] at this
    simp only[eqD];exact this
 |lst ds =>
  obtain⟨a,its,vs,rfl,it,rv,dn⟩:=dE I x rx
  cases g2 with
  |tup es=>obtain⟨b,its2,vs2,rfl,it2,_⟩:=dF I y ry;simp only[eqD];exact K8 it it2 '!'
  |lst es =>
   obtain⟨b,its2,vs2,rfl,it2,rv2,dn2⟩:=dE I y ry
   cases n with
   |zero=>simp[okD] at h1
   |succ n =>
    have k1:okDs n ds=true:=by simpa only[okD] using h1
    have k2:okDs n es=true:=by simpa only[okD] using h2
    simp only[eqD]
    by_cases hl:ds.length=es.length
    ·have hsz:its.toArray.size=its2.toArray.size:=by rw[qc,qc,<- rv.length,<- rv2.length,<- dn.len,<- dn2.len,hl]
     have:=K7 (A:=A) (s:=s) (e:=eqJ ds es) it it2 hsz '!' (λj g1 g2=>by
      obtain⟨c,v1,e1,q1,r1⟩:=dZ dn rv g1
      obtain⟨c2,v2,e2,q2,r2⟩:=dZ dn2 rv2 g2
      have:=eqAt_D I c n c2 v1 v2 _ _ A.in1 (cF k1 e1) (cF k2 e2) q1 q2 r1 r2 (by show A.units+1+n<cLine;omega)
      unfold eqJ;rw[e1,e2];exact this)
     have e3:=fS ds es
     rw[<- hl,QS,beq_self_eq_true,xn] at e3
     rw[qc,<- rv.length,<- dn.len,e3] at this
     exact this
    ·have hsz:(its.toArray.size != its2.toArray.size)=true:=by rw[bne_iff_ne,qc,qc,<- rv.length,<- rv2.length,<- dn.len,<- dn2.len];exact hl
     have e3:=fS ds es
     rw[beq_eq_false_iff_ne.mpr hl,dk] at e3
     rw[<- e3]
     exact K6 it it2 hsz '!'
end
section
theorem jE(hu:X.A.units+n<cLine):OpR X (xh .NotEq) (q0 X.K n true):=by
 intro pins s σ H x y v u Q I rx ry h
 obtain⟨d,e,g1,g2,h1,h2,dx,dy,q⟩:=h
 exact aIL I X.A g1 g2 h1 h2 dx dy rx ry hu X.prog X.w X.xe _ ⟨.bl (!eqD d e),H,I,rfl,q⟩
theorem qA{K:Fg}{d2 e1 e2:D}(r1:Rs M d1 e1)(r2:Rs M d2 e2)(h1:okD n e1=true)(h2:okD n e2=true)(h:k (.bl (!eqD e1 e2)) M):Op2 K (q0 K n true) d1 d2 M k:=λG H v1 v2 Q rl x y q =>
 ⟨e1,e2,r1.disp,r2.disp,h1,h2,r1.den rl x,r2.den rl y,q _ _ _ _ _ (Stp.refl rl) cX h⟩
end
section
variable {K:Fg}
end
end Z
namespace Z
open PySem L2 PySem.Spec PyProof.Rows
noncomputable def tyN:D->String
 |.non => "NoneType"
 |.bl _ => "bool"
 |.int _ => "int"
 |.str _ => "str"
 |.tup _ => "tuple"
 |.lst _|.fl _|.mt _|.st _ => "list"
noncomputable def isN(T S:String):Bool:=S==T||(S == "bool" && T == "int")
noncomputable def isD(T:String)(d:D):Bool:=isN T (tyN d)
noncomputable def Plain5(T:String):Prop:=T = "int" \/ T = "bool" \/ T = "str" \/ T = "tuple" \/ T = "list"
theorem aKF{K:Fg}{T S:String}(h:Plain5 T)(h2:S = "NoneType" \/ Plain5 S):y4 K (.type S) (.type T)=some (isN T S):=by
 rcases h with rfl|rfl|rfl|rfl|rfl <;> rcases h2 with rfl|rfl|rfl|rfl|rfl|rfl <;> first
  |exact aJR (by decide +kernel) (by decide +kernel) (by decide +kernel)
  | (rw[aET (by decide +kernel)];decide +kernel)
theorem aIJ(d:D):tyN d = "NoneType" \/ Plain5 (tyN d):=by
 cases d with
 |non=>exact .inl rfl
 |bl b=>exact .inr (.inr (.inl rfl))
 |int b=>exact .inr (.inl rfl)
 |str b=>exact .inr (.inr (.inr (.inl rfl)))
 |tup b=>exact .inr (.inr (.inr (.inr (.inl rfl))))
 |lst b=>exact .inr (.inr (.inr (.inr (.inr rfl))))
 |fl b=>exact .inr (.inr (.inr (.inr (.inr rfl))))
 |mt b=>exact .inr (.inr (.inr (.inr (.inr rfl))))
 |st b=>exact .inr (.inr (.inr (.inr (.inr rfl))))
theorem aKX{K:Fg}{T:String}(h:Plain5 T)(d:D):y4 K (.type (tyN d)) (.type T)=some (isD T d):=aKF h (aIJ d)
noncomputable def Slv:D->Prop
 |.mt _|.st _=>False
 |_=>True
theorem aDI{T:String}(hT:Plain5 T):eF X (.builtin "isinstance") (λxs H Q=>∃x d,xs=[x, .ty T]/\Slv d/\Den X.K H d x/\Q (.bl (isD T d)) H):=by
 intro pins s σ H xs us Q I r h
 obtain⟨x,d,rfl,nm,dx,q⟩:=h
 obtain⟨u,w',rfl,rx,r2⟩:=vals2 r
 cases (show w'=zg T from r2)
 have e:=aKX (K:=X.K) hT d
 have fin:∀tk,∃v H',Inv X pins σ H' {s with toks:=tk}/\RelV v (kh (isD T d))/\Q v H':=λtk=>⟨.bl (isD T d),H,I.tok tk,rfl,q⟩
 cases d with
 |non=>rw[dx.non_] at rx;cases (show u=w6 from rx);exact yq PySem.W.kitx_none I.kIn gp e (λz=>nomatch z) fin
 |bl y=>rw[dx.bl_] at rx;cases (show u=kh y from rx);exact yq PySem.W.kitx_bool I.kIn gp e (λz=>nomatch z) fin
 |int i=>rw[dx.int_] at rx;obtain⟨t,q2⟩:=(show ∃t,u=gb i t from rx);cases q2;exact yq PySem.W.kitx_int I.kIn gp e (λz=>nomatch z) fin
 |str y=>rw[dx.str_] at rx;obtain⟨t,q2⟩:=(show ∃t,u=Jz y t from rx);cases q2;exact yq PySem.W.kitx_str I.kIn gp e (λz=>nomatch z) fin
 |mt a=>exact nm.elim
 |st a=>exact nm.elim
 |tup ds =>
  obtain⟨a,its,vs,rfl,⟨o,h1,h2,_⟩,_⟩:=dF I dx rx
  exact yq PySem.W.kitx_tuple I.kIn ⟨o,h1,h2⟩ e (λz=>nomatch z) fin
 |lst ds =>
  obtain⟨a,its,vs,rfl,⟨o,h1,h2,_⟩,_⟩:=dE I dx rx
  exact yq QU I.kIn ⟨o,h1,h2⟩ e (λz=>nomatch z) fin
 |fl ds =>
  obtain⟨a,vs,rfl,sq,dn⟩:=dx.fl_
  cases (show u=bp a from rx)
  obtain⟨its,rv,pt,_⟩:=I.list sq
  obtain⟨o,h1,h2,_⟩:=pt.isList
  exact yq QU I.kIn ⟨o,h1,h2⟩ e (λz=>nomatch z) fin
inductive Rz(M:Mem):D->D->Prop
 |self {d:D} (h:Slv d):Rz M d d
 |mt {a:Addr}{ds:List D} (h:M a=some (.lst ds)):Rz M (.mt a) (.lst ds)
section
variable {p1:Pos}
theorem dL{C:Str}{T:String}(hT:Plain5 T)(hm:X.mg "isinstance" = none)(hmT:X.mg C=none)(hvT:jv C=some (.type T))(h:GE X e Γ M λd M1=>∃d',Rz M1 d d'/\k (.bl (isD T d')) M1)(hg:Gl X "isinstance" := by rfl)(hgT:Gl X C:=by rfl)(hn:C ≠ "__name__" := by decide)(hdb:(C==("__debug__" : Str))=false:=by decide)(he:je [e, .Name C p2] X.env=(false,eval e X.env)::je [.Name C p2] X.env:=by rfl)(hpl:(dt pos (je [.Name C p2] X.env)).any (·.1)=false:=by rfl):GE X (.Call (.Name "isinstance" p1) [e, .Name C p2] [] pos) Γ M k:=λσ G H Q en rl q=>by
 refine cB (vI (aDI hT) hg hm VA (rA (hs:=he) pU (rA (aH1 (v := .ty T) hgT hmT hvT rfl hn hdb) aCW)) '*' '*' he hpl) ?_
 refine h σ G H _ en rl λv G1 H1 d M1 s1 e1 ⟨d',rz,h1⟩ => ?_
 refine⟨v,d',rfl,?_,?_,q _ _ _ _ _ s1 cX h1⟩
 ·cases rz with
  |self h=>exact h
  |mt h=>exact gp
 ·cases rz with
  |self h=>exact e1.up s1.rel.same
  |mt hm =>
   obtain⟨_,vs,e2,dn⟩:=s1.rel.mem _ _ hm
   rw[e1.mt_];exact fN e2 (dn.up s1.rel.same)
end
end Z
namespace HD
open PySem PySem.Spec PyProof.Rows
section
variable {E:Value->Shared->Prop}{d:Addr}{o:Obj}{es:Array DictEntry}
end
end HD
namespace HD
open PySem PySem.Spec PyProof.Rows
section
variable {K:Type}[DecidableEq K]{knd:J7 prog w K}{E:Value->Shared->Prop}{d:Addr}{xs:List (K×Addr×Value)}{k:K}{v:Value}
end
end HD
namespace HD
open PySem PySem.Spec PyProof.Rows
section
variable {K:Type}[DecidableEq K]{knd:J7 prog w K}{E:Value->Shared->Prop}{d o:Addr}{xs ys:List (K×Addr×Value)}
end
end HD
namespace Z
open PySem PySem.Spec PyProof.Rows L2
end Z
namespace Z
open PySem PySem.Spec PyProof.Rows L2
section
variable {b:Addr}{k:List Int}{ks:List (List Int)}{xs:List (List Int×Addr)}
theorem items_int:∀{ks:List Int}{us:List Value},Vals (ks.map V.int) us->ItemsAre (za P w) ks us
 |[],_,r=>by rw[QK] at r;cases r;exact .nil
 |k::ks,_,r=>by
  rw[vy] at r
  cases r with
  |@cons x y l m h t =>
   obtain⟨tk,rfl⟩:=(show ∃t,y=gb k t from h)
   exact .cons (by show bb k (gb k tk)=true;simp[bb]) (items_int t)
end
end Z
namespace Z
open PySem L2
inductive Stt(M:Mem):D->List (List Int)->Prop
 |st (ks:List (List Int)):Stt M (.st ks) ks
 |mt {a:Addr}{ks:List (List Int)} (h:M a=some (.st ks)):Stt M (.mt a) ks
section
variable {K:Fg}
end
section
variable {F:Fin}{a:Expr}{ss:List Stmt}
end
end Z
namespace Z
open PySem L2
section
end
end Z
namespace R
structure Gth(cells:List Cell)(st:List (Int×Int))(s:Cell)(ks ws:List Cell)(busy:Option (Int×Int×List (Int×Int))):Prop where
 s0:s∈ks
 all:∀c∈ks,Rch cells st s c
 sub:∀c∈ks,c∈cells
 nd:ks.Nodup
 ww:∀c∈ws,c∈ks
 cl:∀x y,[x,y]∈ks->[x,y]∈ws\/(∃dn,busy=some (x,y,dn))\/∀d∈st,[x+d.1,y+d.2]∈cells->[x+d.1,y+d.2]∈ks
 bz:∀x y dn,busy=some (x,y,dn)->[x,y]∈ks/\∀d∈dn,[x+d.1,y+d.2]∈cells->[x+d.1,y+d.2]∈ks
section
variable {cells:List Cell}{st:List (Int×Int)}{s:Cell}{ks ws:List Cell}{x y:Int}{dn:List (Int×Int)}{d:Int×Int}
end
end R
namespace Q
open PySem L2 Z
end Q
namespace R
open PySem L2
abbrev RS:=List (Nat×Nat)×Option Nat
structure RInv(bs:List Bool)(n:Nat)(q:RS):Prop where
 bd:∀p∈q.1,p.1<p.2/\p.2<n
 bg:∀b,q.2=some b->b<n
 len:q.1.length<=n
 any:(q.1≠[]\/q.2≠none)↔∃i,i<n/\bs.getD i false=true
end R
namespace Q
open PySem L2 Z
end Q
namespace R
open PySem L2
end R
namespace Q
open PySem L2 Z
theorem nX(z:Str)(zr:List Str):atI ((z::zr).map D.str) 0=some (.str z):=dA (j:=0) rfl
theorem aAL(z:Str)(js:List Nat):rg w4 (js.map λj=>(⟨#[R.atS z j]⟩:Str))=R.ofL (js.map (R.atS z)):=by
 have:=R.jZ (js.map (R.atS z))
 rw[vj] at this
 exact this
noncomputable def xZ:Ct:=λds M k=>∃(z:Str) (js:List Nat),ds=[.str z, .lst (dP js)]/\z.length<=1000/\js.length<=1000/\(∀j∈js,j<z.length)/\k (.str (R.ofL (js.map (R.atS z)))) M
noncomputable def gI(xs ys:List D)(zs:List Str):D:=oF (l7 xs (R.chg (R.aE zs))) (l7 ys (R.chg zs)) (R.b4 zs)
structure Grp(cells:List R.Cell)(st:List (Int×Int))(n:Nat)(gs:List (List R.Cell)):Prop where
 len:gs.length=(R.starts cells st n).length
 at_:∀(j:Nat) s,(R.starts cells st n)[j]?=some s->∃ks,gs[j]?=some ks/\∀c,c∈ks↔R.Rch cells st s c
noncomputable def aKL(cells:List R.Cell)(st:List (Int×Int))(s:R.Cell)(w h:Nat):List Str:=R.rowsOf (λa u => @decide (R.Rch cells st s [a,u]) (tq _)) w h
noncomputable def xO(xs ys:List D)(cells:List R.Cell)(st:List (Int×Int))(ss:List R.Cell):List D:=ss.map λs=>gI xs ys (aKL cells st s (xs.length-1) (ys.length-1))
noncomputable def straight:List (Int×Int):=[(1,0),(0,1),(-1,0),(0, -1)]
noncomputable def vL:List (Int×Int):=[(1,0),(1,1),(0,1),(-1,1),(-1,0),(-1, -1),(0, -1),(1, -1)]
noncomputable def pcs(xs ys:List D)(zs:List Str):List D:=xO xs ys (R.k7 zs true xs.length ys.length) straight (R.starts (R.k7 zs true xs.length ys.length) straight (R.k7 zs true xs.length ys.length).length)
theorem vN:("#" : Str)=⟨#[35]⟩:=by decide +kernel
theorem aGG(hm:X.mg x=some (.ref a))(hd:∀G,Den X.K G d (.ref a))(h:k d M)(hg:Gl X x:=by rfl)(hb:(x==("__debug__" : Str))=false:=by decide):GE X (.Name x pos) Γ M k:=
 λσ G H Q en rl q=>cB (wV (v := .ref a) hg hm rfl hb) (q _ G H d M (Stp.refl rl) (hd G) h)
noncomputable def al9(all:Bool)(r u:Int):Bool:=all||r*u==0
noncomputable def st9(all:Bool):List (Int×Int):=[(-1, -1),(-1,0),(-1,1),(0, -1),(0,0),(0,1),(1, -1),(1,0),(1,1)].filter λd=>al9 all d.1 d.2
noncomputable def l3:List Int:=[-1,0,1]
theorem sJ:∀as:List Addr,Vals (as.map V.ref) (as.map bp)
 |[] => .nil
 |a::as => .cons rfl (sJ as)
theorem nZ{K:Fg}{as:List Addr}{sl:Array (Option Value)}(h:K.lookup a=some ⟨.type "tuple", od, .seq (as.map bp).toArray n,sl⟩)(hl:as.length<=100)(hd:Dens K G ds (as.map V.ref)):Den K G (.tup ds) (.ref a):=
 iA (vs:=as.map V.ref) (.inr ⟨_,_,_,h,rfl,rfl,(by rw[qc,zLm];exact R.aX '#'),sJ as⟩) hd
noncomputable def hls(xs ys:List D)(zs:List Str):List D:=xO xs ys (R.k7 zs false xs.length ys.length) vL ((R.starts (R.k7 zs false xs.length ys.length) vL (R.k7 zs false xs.length ys.length).length).drop 1)
end Q
namespace HT
open PySem PySem.Spec PyProof.Rows
section
variable {E:Value->Shared->Prop}
theorem mK{t:Addr}{Q:Value->Shared->Prop}(ht:IsTup s.heap t items)(hs:s.heap.IsSliceOf sl vl vu .none)(pl:sd vl lo)(pu:sd vu hi)(hw:sIx items.size 0 lo=0/\sIx items.size items.size hi=items.size)(h:Q (.ref t) s):jd (jq prog w) A (QE (.ref t) (.ref sl)) Q E s:=by
 obtain⟨os,hos,hcs,hds⟩:=id hs
 have hTs:s.TypeIs (.ref sl) "slice" := ⟨os,hos,hcs⟩
 unfold QE
 try with_reducible refine vc ?_
 first|refine qa (wpAny_pure ?_)|skip
 refine qa (Kt ht.typeIs '*' ?_)
 refine qa (vn (name:=jg "__getitem__") ht.typeIs ku
  (vg ku ht.typeIs J0 ?_ (J9 _ _)))
 show jd _ _ (mi (.ref t) >>= _) _ _ s
 refine qa (tupleItemsOf_ ht ?_)
 refine qa (mw hTs ?_)
 rw[if_pos '*']
 refine qa (j9 hs pl pu ?_)
 have hyes:(((sIx items.size 0 lo:Nat):Int)==0&&(1:Int)==1&&(sIx items.size items.size hi-sIx items.size 0 lo)==items.size)=true:=by
  rw[hw.1,hw.2];simp
 show jd _ _ (if (((sIx items.size 0 lo:Nat):Int)==0&&(1:Int)==1&&(sIx items.size items.size hi-sIx items.size 0 lo)==items.size)=true then _ else _) _ _ s
 rw[if_pos hyes]
 refine qa ?_
 unfold KM
 refine qa (mw ht.typeIs (wpAny_pure ?_))
 rw[if_pos (by rfl)]
 refine qa (nt ?_)
 exact wpAny_pure ⟨_,rfl,wpAny_pure h⟩
end
end HT
namespace L2
open PySem PySem.Spec PyProof.Rows
section
noncomputable def rSlA(K:qf):V->Option Int->Option Int->Hp->VK->Prop:=λx lo hi H Q=>∃a xs,x = .ref a/\SqT K H a xs /\
 ((HT.sIx xs.length 0 lo=0/\HT.sIx xs.length xs.length hi=xs.length)->Q (.ref a) H)/\(¬(HT.sIx xs.length 0 lo=0/\HT.sIx xs.length xs.length hi=xs.length)->∀p,H p=none->Q (.ref p) (upd H p (.tup (kC xs lo hi))))
theorem xG:SlR X (rSlA X.K):=by
 intro pins s σ H x v vl vu lo hi sl Q I rx hs pl pu h
 obtain⟨a,xs,e,hx,q1,q2⟩:=h
 by_cases hw:HT.sIx xs.length 0 lo=0/\HT.sIx xs.length xs.length hi=xs.length
 ·subst e
  cases rx
  obtain⟨its,r,ht,hz⟩:=I.tuple hx
  have hlen:its.toArray.size=xs.length:=by rw[qc];exact r.length.symm
  refine⟨"tuple", _,ku.lookup,ht.typeIs,?_⟩
  exact HT.mK ht hs pl pu (by rw[hlen];exact hw) ⟨.ref a,H,I,rfl,q1 hw⟩
 ·exact aJG pins s σ H x v vl vu lo hi sl Q I rx hs pl pu ⟨a,xs,e,hx,hw,q2 hw⟩
end
end L2
namespace Z
open PySem L2
theorem yQ{K:Fg}{l u:Option Int}(h:k (.tup (cutD ds l u)) M):Op3 K (rSlA K) (.tup ds) l u M k:=λG H v Q rl e q=>by
 obtain⟨a,vs,ev,s,dn⟩:=(Seq.tup ds).sq rl e
 refine⟨a,vs,ev,s,λhw => ?_,λhw p hp => ?_⟩
 ·have ec:cutD ds l u=ds:=by
   rw[<- dn.len] at hw
   unfold cutD
   rw[hw.1,hw.2,ll,QR,qx]
  rw[ec] at h
  exact q _ _ _ _ _ (Stp.refl rl) (by rw[<- ev];exact e) h
 ·have st:=rl.new (o := .tup (kC vs l u)) hp
  exact q _ _ _ _ _ st (iA (SqT.of bF) ((dn.cut l u).up st.gg)) h
theorem aHJ{α:Type}(l:List α)(n:Nat):cutD l none (some (n:Int))=l.take n:=by
 unfold cutD
 have e1:HT.sIx l.length 0 none=0:=rfl
 have e2:HT.sIx l.length l.length (some (n:Int))=min n l.length:=HT.wY l.length l.length n
 rw[e1,e2,ll,QR,List.take_eq_take_iff]
 omega
end Z
namespace Q
open PySem L2 Z
mutual
noncomputable def tameB:Nat->D->Bool
 |_, .non|_, .bl _=>true
 |_, .int i=>decide (i.natAbs<10^65)
 |_, .str z=>decide (z.length<=1000)
 |n+1, .tup ds=>decide (ds.length<=100)&&tamesB n ds
 |n+1, .lst ds=>decide (ds.length<=100)&&tamesB n ds
 |_,_=>false
noncomputable def tamesB:Nat->List D->Bool
 |_,[]=>true
 |n,d::ds=>tameB n d&&tamesB n ds
end
theorem rM:∀{ds:List D},tamesB n ds=true->∀x∈ds,tameB n x=true
 |[],_,_,h=>nomatch h
 |d::ds,h,x,hx=>by
  simp only[tamesB,qp] at h
  rcases qe.mp hx with rfl|hx
  ·exact h.1
  ·exact rM h.2 x hx
theorem vK:∀{ds:List D},(∀x∈ds,tameB n x=true)->tamesB n ds=true
 |[],_=>by simp only[tamesB]
 |d::ds,h=>by
  simp only[tamesB,qp]
  exact⟨h d jz,vK λx hx=>h x (ke _ hx)⟩
theorem gX(h:tameB n (.tup ds)=true):ds.length<=100/\∃m,n=m+1/\∀x∈ds,tameB m x=true:=by
 cases n with
 |zero=>simp[tameB] at h
 |succ m =>
  simp only[tameB,qp,decide_eq_true_eq] at h
  exact⟨h.1,m,rfl,rM h.2⟩
theorem kZ(h1:ds.length<=100)(h2:∀x∈ds,tameB n x=true):tameB (n+1) (.tup ds)=true:=by
 simp only[tameB,qp,decide_eq_true_eq]
 exact⟨h1,vK h2⟩
mutual
theorem tame_ok:∀(n:Nat) (d:D),tameB n d=true->okD n d=true
 |_, .non,_=>by simp only[okD]
 |_, .bl _,_=>by simp only[okD]
 |_, .int _,_=>by simp only[okD]
 |_, .str _,_=>by simp only[okD]
 |n+1, .tup ds,h=>by
  simp only[tameB,qp] at h
  simp only[okD];exact tames_ok n ds h.2
 |n+1, .lst ds,h=>by
  simp only[tameB,qp] at h
  simp only[okD];exact tames_ok n ds h.2
 |0, .tup _,h=>by simp[tameB] at h
 |0, .lst _,h=>by simp[tameB] at h
 |_, .mt _,h=>by simp[tameB] at h
 |_, .fl _,h=>by simp[tameB] at h
 |_, .st _,h=>by simp[tameB] at h
theorem tames_ok:∀(n:Nat) (ds:List D),tamesB n ds=true->okDs n ds=true
 |_,[],_=>by simp only[okDs]
 |n,d::ds,h=>by
  simp only[tamesB,qp] at h
  simp only[okDs,tame_ok n d h.1,tames_ok n ds h.2,xn]
end
theorem gZ(h:tameB n d=true):Slv d:=by
 cases d <;> first|exact trivial|(exfalso;simp[tameB] at h)
theorem uP{i:Int}(h:tameB n (.int i)=true):i.natAbs<10^65:=by simpa[tameB] using h
theorem vB{z:Str}(h:tameB n (.str z)=true):z.length<=1000:=by simpa[tameB] using h
mutual
theorem tame_up:∀(n:Nat) (d:D),tameB n d=true->tameB (n+1) d=true
 |_, .non,_=>by simp only[tameB]
 |_, .bl _,_=>by simp only[tameB]
 |_, .int _,h=>by simpa only[tameB] using h
 |_, .str _,h=>by simpa only[tameB] using h
 |n+1, .tup ds,h=>by
  simp only[tameB,qp] at h ⊢
  exact⟨h.1,tames_up n ds h.2⟩
 |n+1, .lst ds,h=>by
  simp only[tameB,qp] at h ⊢
  exact⟨h.1,tames_up n ds h.2⟩
 |0, .tup _,h=>by simp[tameB] at h
 |0, .lst _,h=>by simp[tameB] at h
 |_, .mt _,h=>by simp[tameB] at h
 |_, .fl _,h=>by simp[tameB] at h
 |_, .st _,h=>by simp[tameB] at h
theorem tames_up:∀(n:Nat) (ds:List D),tamesB n ds=true->tamesB (n+1) ds=true
 |_,[],_=>by simp only[tamesB]
 |n,d::ds,h=>by
  simp only[tamesB,qp] at h ⊢
  exact⟨tame_up n d h.1,tames_up n ds h.2⟩
end
theorem tT(ds:List D):isD "tuple" (.tup ds)=true:=rfl
theorem sS(z:Str):isD "str" (.str z)=true:=rfl
theorem iI(i:Int):isD "int" (.int i)=true:=rfl
theorem bI(i:Int):isD "bool" (.int i)=false:=rfl
theorem pT(d:D):(∃ls,d = .tup ls)\/(isD "tuple" d=false/\∀ls,d ≠ .tup ls):=by
 cases d with
 |tup ls=>exact .inl ⟨ls,rfl⟩
 |_=>exact .inr ⟨rfl,λ_ h=>nomatch h⟩
theorem aJU(d:D):(∃z,d = .str z)\/(isD "str" d=false/\∀z,d ≠ .str z):=by
 cases d with
 |str ls=>exact .inl ⟨ls,rfl⟩
 |_=>exact .inr ⟨rfl,λ_ h=>nomatch h⟩
noncomputable def isW:D->Bool
 |.int _=>true
 |_=>false
theorem uV(d:D):(∃i,d = .int i)\/(isW d=false/\(isD "int" d=false\/isD "int" d=true/\isD "bool" d=true)):=by
 cases d with
 |int i=>exact .inl ⟨i,rfl⟩
 |bl b=>exact .inr ⟨rfl, .inr ⟨rfl,rfl⟩⟩
 |_=>exact .inr ⟨rfl, .inl rfl⟩
noncomputable def i4:D->Bool
 |.tup [.int a, .int b]=>decide (1<=b)&&decide (wa a b=1)
 |_=>false
theorem o9:i4 d=true↔∃p:Int×Int,d=pairD p/\1<=p.2/\wa p.1 p.2=1:=by
 constructor
 ·intro h
  unfold i4 at h
  split at h
  ·rw[qp,decide_eq_true_eq,decide_eq_true_eq] at h
   exact⟨(_,_),rfl,h⟩
  ·cases h
 ·rintro⟨p,rfl,h1,h2⟩
  show (decide (1<=p.2)&&decide (wa p.1 p.2=1))=true
  rw[decide_eq_true h1,decide_eq_true h2];rfl
theorem nV(h:∀a b,d ≠ .tup [.int a, .int b]):i4 d=false:=by
 cases e:i4 d with
 |false=>rfl
 |true=>obtain⟨p,rfl,_⟩:=o9.mp e;exact absurd rfl (h p.1 p.2)
noncomputable def ltP(p q:Int×Int):Bool:=decide (p.1*q.2<q.1*p.2)
noncomputable def upP(ps:List (Int×Int)):Bool:=(qy (ps.length-1)).all λi=>ltP (ps.getD i (0,1)) (ps.getD (i+1) (0,1))
noncomputable def toP:D->Int×Int
 |.tup [.int a, .int b]=>(a,b)
 |_=>(0,1)
theorem sE(ps:List (Int×Int)):(ps.map pairD).map toP=ps:=by
 rw[vj]
 exact (kc λp _=>rfl).trans (K0 ps)
theorem nC:∀{ls:List D},ls.all i4=true->∃ps:List (Int×Int),ls=ps.map pairD/\∀p∈ps,1<=p.2/\wa p.1 p.2=1
 |[],_=>⟨[],rfl,λp h=>(nomatch h)⟩
 |d::ls,h=>by
  rw[cm,qp] at h
  obtain⟨p,rfl,hp⟩:=o9.mp h.1
  obtain⟨ps,rfl,hps⟩:=nC h.2
  exact⟨p::ps,rfl,λq hq=>by
   rcases qe.mp hq with rfl|hq
   ·exact hp
   ·exact hps q hq⟩
noncomputable def dS:D->Bool
 |.tup ls=>ls.all i4&&upP (ls.map toP)
 |_=>false
theorem aFF(h:∀ls,d ≠ .tup ls):dS d=false:=by
 cases d with
 |tup ls=>exact absurd rfl (h ls)
 |_=>rfl
noncomputable def eN(w:Nat):D->Bool
 |.str z=>decide (z.length=w)&&z.cps.toList.all λc=>c==35||c==46
 |_=>false
theorem aIP{w:Nat}(h:∀z,d ≠ .str z):eN w d=false:=by
 cases d with
 |str z=>exact absurd rfl (h z)
 |_=>rfl
theorem aD4{w:Nat}:eN w d=true↔∃z,d = .str z/\z.length=w/\∀c∈z.cps.toList,c=35\/c=46:=by
 constructor
 ·intro h
  cases d with
  |str z =>
   simp only[eN,qp,decide_eq_true_eq,jy,zq,beq_iff_eq] at h
   exact⟨z,rfl,h⟩
  |_=>cases h
 ·rintro⟨z,rfl,h1,h2⟩
  simp only[eN,qp,decide_eq_true_eq,jy,zq,beq_iff_eq]
  exact⟨h1,h2⟩
noncomputable def fX(rs:List D)(nx ny:Nat):Bool:=decide (rs.length=ny-1)&&rs.all (eN (nx-1))
noncomputable def toS:D->Str
 |.str z=>z
 |_=>w4
theorem all_rows{w:Nat}:∀{rs:List D},rs.all (eN w)=true->∃zs:List Str,rs=zs.map .str/\∀z∈zs,z.length=w/\∀c∈z.cps.toList,c=35\/c=46
 |[],_=>⟨[],rfl,λp h=>(nomatch h)⟩
 |d::ls,h=>by
  rw[cm,qp] at h
  obtain⟨z,rfl,hp⟩:=aD4.mp h.1
  obtain⟨ps,rfl,hps⟩:=all_rows h.2
  exact⟨z::ps,rfl,λq hq=>by
   rcases qe.mp hq with rfl|hq
   ·exact hp
   ·exact hps q hq⟩
theorem vT(zs:List Str):(zs.map D.str).map toS=zs:=by
 rw[vj]
 exact (kc λp _=>rfl).trans (K0 zs)
noncomputable def yard3(x y r:D):Bool:=match x,y,r with
 |.tup xs, .tup ys, .tup rs=>dS (.tup xs)&&dS (.tup ys)&&fX rs xs.length ys.length&&eqD (gI xs ys (rs.map toS)) (.tup [.tup xs, .tup ys, .tup rs])
 |_,_,_=>false
noncomputable def nR:D->Bool
 |.tup [x,y,r]=>yard3 x y r
 |_=>false
theorem wX(h:∀x y r,d ≠ .tup [x,y,r]):nR d=false:=by
 unfold nR
 split
 ·exact absurd rfl (h _ _ _)
 ·rfl
theorem aHF{x y r:D}(h:∀ls,r ≠ .tup ls):yard3 x y r=false:=by
 unfold yard3
 split
 ·exact absurd rfl (h _)
 ·rfl
noncomputable def Sq2(t:Bool)(d:D)(ds:List D):Prop:=d=if t=true then .lst ds else .tup ds
noncomputable def l8:Ct:=λds M k=>∃d,ds=[d]/\Slv d/\k (.bl (isW d)) M
noncomputable def sO:Ct:=λds M k=>∃d n,ds=[d]/\tameB n d=true/\k (.bl (i4 d)) M
noncomputable def wU:Ct:=λds M k=>∃d n,ds=[d]/\tameB n d=true/\k (.bl (dS d)) M
noncomputable def aDG:Ct:=λds M k=>∃d n w,ds=[d, .int ((w:Nat):Int)]/\tameB n d=true/\k (.bl (eN w d)) M
noncomputable def zU:Ct:=λds M k=>∃t dr dx dy rs xs ys n,ds=[dr,dx,dy]/\Sq2 t dr rs/\Sq2 t dx xs/\Sq2 t dy ys/\(∀r∈rs,tameB n r=true)/\rs.length<=100/\xs.length<=100/\ys.length<=100/\k (.bl (fX rs xs.length ys.length)) M
noncomputable def uD:Ct:=λds M k=>∃(t:Bool) (r:D) (zs:List Str) (n j:Nat),ds=[r, .int (j:Int)]/\Sq2 t r (zs.map .str)/\zs.length<=1000/\n<=1000/\(∀z∈zs,z.length=n)/\j<n/\k (.str (R.ofL (zs.map (R.atS · j)))) M
noncomputable def rT:Ct:=λds M k=>∃(t:Bool) (r:D) (zs:List Str) (n:Nat),ds=[r]/\Sq2 t r (zs.map .str)/\zs.length<=1000/\n<=1000/\(∀z∈zs,z.length=n)/\k (.lst ((R.aE zs).map .str)) M
noncomputable def rP:Ct:=λds M k=>∃(t:Bool) (r:D) (zs:List Str) (n:Nat),ds=[r]/\Sq2 t r (zs.map .str)/\zs.length<=1000/\n<=1000/\(∀z∈zs,z.length=n)/\k (.lst (dP (R.chg zs))) M
noncomputable def lM:Ct:=λds M k=>∃(t:Bool) (dx dy dr:D) (xs ys:List D) (zs:List Str) (n:Nat),ds=[dx,dy,dr]/\Sq2 t dx xs/\Sq2 t dy ys/\Sq2 t dr (zs.map .str)/\zs.length<=900/\n<=900/\(∀z∈zs,z.length=n)/\(∀j∈R.chg (R.aE zs),j<xs.length)/\(∀j∈R.chg zs,j<ys.length)/\k (gI xs ys zs) M
noncomputable def xA:Ct:=λds M k=>∃d n,ds=[d]/\tameB n d=true/\n<=10/\k (.bl (nR d)) M
theorem maxz0(n:Nat):(if 0>(n:Int)-1 then 0 else (n:Int)-1)=((n-1:Nat):Int):=by split <;> omega
theorem mV{α:Type}(f:α->Bool)(l:List α):(l.map f).all id=l.all f:=by rw[rd];rfl
theorem aED{K:Fg}(h:k (.bl (!(x4 y x 0 y.length 1).isEmpty)) M):Op2 K (λx y H Q=>∃i j,x = .str i/\y = .str j/\Q (.bl (!(x4 j i 0 j.length 1).isEmpty)) H) (.str x) (.str y) M k:=λG H v1 v2 Q rl e1 e2 q =>
 ⟨x,y,e1.str_,e2.str_,q _ _ _ _ _ (Stp.refl rl) cX h⟩
theorem sH(h:dS d=true):∃ps:List (Int×Int),d = .tup (ps.map pairD)/\upP ps=true/\∀p∈ps,1<=p.2/\wa p.1 p.2=1:=by
 cases d with
 |tup ls =>
  have h':(ls.all i4&&upP (ls.map toP))=true:=h
  rw[qp] at h'
  obtain⟨ps,rfl,hp⟩:=nC h'.1
  rw[sE] at h'
  exact⟨ps,rfl,h'.2,hp⟩
 |_=>cases h
theorem vR{xs ys rs:List D}:yard3 (.tup xs) (.tup ys) (.tup rs)=(dS (.tup xs)&&dS (.tup ys)&&fX rs xs.length ys.length&&eqD (gI xs ys (rs.map toS)) (.tup [.tup xs, .tup ys, .tup rs])):=rfl
theorem aDV{x y r:D}(h:dS x=false):yard3 x y r=false:=by
 unfold yard3
 split
 ·rw[h];rfl
 ·rfl
theorem aE1{x y r:D}(h:dS y=false):yard3 x y r=false:=by
 unfold yard3
 split
 ·rw[h,dk];rfl
 ·rfl
theorem tf(b:Bool):b=false\/b=true:=by cases b <;> simp
theorem aGN{rs:List D}{nx ny:Nat}(h:fX rs nx ny=true):rs.length=ny-1/\rs.all (eN (nx-1))=true:=by
 unfold fX at h
 rw[qp,decide_eq_true_eq] at h
 exact h
theorem xM{ps:List (Int×Int)}(h:i<ps.length):atI (ps.map pairD) (i:Int)=some (pairD (ps.getD i (0,1)))/\ps.getD i (0,1)∈ps:=by
 rw[zGd,zGe h]
 exact⟨dA (by rw[qg,zGe h];rfl),jl h⟩
theorem jQ{b:Bool}{P Q:Prop}(h:b=true)(p:P):if b=true then P else Q:=by rw[if_pos h];exact p
theorem jO{b:Bool}{P Q:Prop}(h:b=false)(p:Q):if b=true then P else Q:=by rw[if_neg (by rw[h];exact zBf)];exact p
theorem nN:R.chg []=[]:=by decide +kernel
theorem eP{ny:Nat}(h:zs.length=ny-1):∀j∈R.chg zs,j<ny:=λj hj=>by
 have:=R.eH zs j hj
 cases zs with
 |nil=>rw[nN] at hj;cases hj
 |cons z zr=>rw[jb] at h this;omega
theorem eQ{nx:Nat}(h:∀z∈zs,z.length=nx-1):∀j∈R.chg (R.aE zs),j<nx:=λj hj=>by
 have h1:=(R.o6 h).1
 have:=R.eH _ j hj
 cases hc:R.aE zs with
 |nil=>rw[hc,nN] at hj;cases hj
 |cons z zr=>rw[hc] at h1 this;rw[jb] at h1 this;omega
theorem pE{xs ys:List D}(zs:List Str)(hx:∀x∈xs,okD 1 x=true)(hy:∀y∈ys,okD 1 y=true):okD 3 (oF xs ys zs)=true:=by
 have o1:=k9 hx
 have o2:=k9 hy
 have o3:okDs 1 (zs.map D.str)=true:=k9 λd hd=>by obtain⟨z,_,rfl⟩:=qw.mp hd;rfl
 simp only[oF,okD,okDs,o1,o2,o3,xn]
theorem tN(ps:List (Int×Int)):∀x∈ps.map pairD,okD 1 x=true:=λx hx=>by
 obtain⟨p,_,rfl⟩:=qw.mp hx;rfl
theorem aHB(ps qs:List (Int×Int))(zs:List Str):okD 3 (oF (ps.map pairD) (qs.map pairD) zs)=true:=pE zs (tN ps) (tN qs)
theorem xF(ps:List (Int×Int))(js:List Nat):∀x∈l7 (ps.map pairD) js,okD 1 x=true:=λx hx=>by
 obtain⟨j,_,rfl⟩:=qw.mp hx
 rw[zGd,qg]
 cases ps[j]? <;> rfl
theorem aE2(ps qs:List (Int×Int))(zs:List Str):okD 3 (gI (ps.map pairD) (qs.map pairD) zs)=true:=pE _ (xF ps _) (xF qs _)
end Q
namespace Z
open PySem L2 PySem.Spec PyProof.Rows
section
variable {K:Fg}{es:List D}
end
end Z
namespace Q
open PySem L2 Z
theorem tQ{P:Bool->Mem->Prop}(h:GT X e Γ M P)(hk:∀c M1,P c M1->kb c M1):GT X e Γ M kb:=λσ G H Q en rl q=>h σ G H Q en rl λb G' H' M' s hp=>q b G' H' M' s (hk _ _ hp)
theorem aD7(c:Bool):atI ("#." : Str).cps.toList (if c=true then 1 else 0)=some (if c=true then 46 else 35):=by cases c <;> decide +kernel
theorem aG3{α:Type}{l:List α}(h:l≠[]):∃r x,l=r++[x]:=by
 rcases List.eq_nil_or_concat l with e|⟨r,x,e⟩
 ·exact absurd e h
 ·exact⟨r,x,by simpa using e⟩
structure TT(n:Nat)(xs:List D):Prop where
 len:xs.length<=n
 each:∀x∈xs,tameB 2 x=true
theorem aFU(hz:∀z∈zs,z.length<=1000)(hl:zs.length<=n):TT n (zs.map .str):=⟨by rw[zLm];exact hl,λx hx=>by
 obtain⟨z,hz',rfl⟩:=qw.mp hx
 simp only[tameB,decide_eq_true_eq]
 exact hz z hz'⟩
theorem rX{z:Str}(h:z.length<=1000):tameB n (.str z)=true:=by cases n <;> simpa only[tameB,decide_eq_true_eq] using h
theorem two{x y:D}(hx:tameB n x=true)(hy:tameB n y=true):∀d∈[x,y],tameB n d=true:=λd hd=>by
 simp only[qe,jh,or_false] at hd
 rcases hd with rfl|rfl <;> assumption
end Q
namespace Z
open PySem L2
end Z
namespace Q
open PySem L2 Z
theorem aBU{nx ny:Nat}(h:zs.length=ny-1)(hz:∀z∈zs,z.length=nx-1):fX (zs.map .str) nx ny=zs.all λz=>z.cps.toList.all R.sgn:=by
 unfold fX
 rw[zLm,decide_eq_true h,Qw,rd]
 rw[zt,jy,jy]
 constructor
 ·intro a z hz'
  have:=a z hz'
  simp only[Js,eN,qp] at this
  exact this.2
 ·intro a z hz'
  simp only[Js,eN,qp]
  exact⟨decide_eq_true (hz z hz'),a z hz'⟩
noncomputable def sc(c:Nat)(l:List Nat):Int:=(l.map λn=>if decide (n=c)=true then (1:Int) else 0).sum
theorem zW:nR (.tup [.tup [], .tup [], .tup []])=true:=by decide +kernel
end Q
namespace HD
open PySem PySem.Spec PyProof.Rows
section
variable {K:Type}[DecidableEq K]{knd:J7 prog w K}{E:Value->Shared->Prop}{d:Addr}{xs:List (K×Addr×Value)}{k:K}
end
end HD
namespace HD
open PySem PySem.Spec PyProof.Rows
section
variable {K:Type}[DecidableEq K]{knd:J7 prog w K}{E:Value->Shared->Prop}{o:Addr}{ys:List (K×Addr×Value)}
end
end HD
namespace HD
open PySem PySem.Spec PyProof.Rows
section
variable {E:Value->Shared->Prop}{d o:Addr}{od oo:Obj}{es eo:Array DictEntry}{e2:Nat}
end
end HD
namespace Z
open PySem L2
section
end
end Z
namespace Z
open PySem L2
end Z
namespace HD
open PySem PySem.Spec PyProof.Rows
end HD
namespace Z
open PySem L2
end Z
namespace HT
open PySem PyProof.Rows
section
open PySem.SeqAt
open PySem.AutoSeq1 (wpAny_loadPart')
open PySem.MeetsSeq PySem.MeetsSeq2 PySem.MeetsSeq3
end
end HT
namespace Z
open PySem L2
section
variable {F:Fin}{body:List Stmt}
end
end Z
namespace Z
open PySem L2
noncomputable def tk(M:Mem)(b:Addr):Bool:=match M b with
 |some '%'=>true
 |_=>false
noncomputable def aK5(G H:Hp)(M:Mem):Hp:=λb=>if tk M b=true then H b else G b
noncomputable def nM(G1:Hp)(M:Mem):Hp:=λb=>if tk M b=true then none else G1 b
mutual
noncomputable def noL:D->Bool
 |.non|.bl _|.int _|.str _=>true
 |.tup ds=>noLs ds
 |_=>false
noncomputable def noLs:List D->Bool
 |[]=>true
 |d::ds=>noL d&&noLs ds
end
section
variable {K:Fg}{G1:Hp}
theorem aAU{vs:List V}(hl:∀b,tk M b=true->∃ws,G1 b=some (.lst ws))(h:SqT K G1 a vs):SqT K (nM G1 M) a vs:=by
 rcases h with h|h
 ·refine .inl ?_
  have ne:¬tk M a=true:=λt=>by
   obtain⟨ws,e⟩:=hl a t
   rcases h with h|⟨o,h⟩ <;> rw[e] at h <;> cases h
  have e:nM G1 M a=G1 a:=by unfold nM;rw[if_neg ne]
  rcases h with h|⟨o,h⟩
  ·exact .inl (e.trans h)
  ·exact .inr ⟨o,e.trans h⟩
 ·exact .inr h
mutual
theorem den_strip(hl:∀b,tk M b=true->∃ws,G1 b=some (.lst ws)):∀(d:D) {v:V},noL d=true->Den K G1 d v->Den K (nM G1 M) d v
 |.non,_,_,h=>by simp only[Den] at h ⊢;exact h
 |.bl _,_,_,h=>by simp only[Den] at h ⊢;exact h
 |.int _,_,_,h=>by simp only[Den] at h ⊢;exact h
 |.str _,_,_,h=>by simp only[Den] at h ⊢;exact h
 |.tup ds,_,n,h=>by
  simp only[noL] at n
  simp only[Den] at h ⊢
  obtain⟨a,vs,e,q,r⟩:=h
  exact⟨a,vs,e,aAU hl q,dens_strip hl ds n r⟩
 |.mt _,_,n,_=>by simp[noL] at n
 |.lst _,_,n,_=>by simp[noL] at n
 |.fl _,_,n,_=>by simp[noL] at n
 |.st _,_,n,_=>by simp[noL] at n
theorem dens_strip(hl:∀b,tk M b=true->∃ws,G1 b=some (.lst ws)):∀(ds:List D) {vs:List V},noLs ds=true->Dens K G1 ds vs->Dens K (nM G1 M) ds vs
 |[],_,_,h=>by simp only[Dens] at h ⊢;exact h
 |d::ds,_,n,h=>by
  simp only[noLs,qp] at n
  simp only[Dens] at h ⊢
  obtain⟨v,r,e,h1,h2⟩:=h
  exact⟨v,r,e,den_strip hl d n.1 h1,dens_strip hl ds n.2 h2⟩
end
end
noncomputable def Ln(M:Mem)(d d':D):Prop:=∀K G H v,Rel K G H M->Den K G d v->Den K (aK5 G H M) d' v
inductive LnE(M:Mem):Gm->Gm->Prop
 |n:LnE M [] []
 |s {o:Option D}{Γ Γ':Gm} (r:LnE M Γ Γ'):LnE M (o::Γ) (none::Γ')
 |c {d d':D}{Γ Γ':Gm} (h:Ln M d d') (r:LnE M Γ Γ'):LnE M (some d::Γ) (some d'::Γ')
section
variable {Γ':Gm}{d0:D}{b0:Bool}
end
end Z
namespace Z
open PySem L2
section
variable {a:Expr}
theorem o8{n:Int}{t:Tok}(hm:X.mg x=some (.int n t))(h:k (.int n) M)(hg:Gl X x:=by rfl)(hb:(x==("__debug__" : Str))=false:=by decide):GE X (.Name x pos) Γ M k:=
 λσ G H Q en rl q=>cB (wV (v := .int n) hg hm ⟨t,rfl⟩ hb) (q _ G H _ M (Stp.refl rl) dB h)
theorem aDN{op op':VH}{r r':R2}(ho:OpR X (xh op) r)(ho':OpR X (xh op') r')(h:GE X a Γ M λd1 M1=>GE X b Γ M1 λd2 M2=>Op2 X.K r d1 d2 M2 λe M3=>∃t,e = .bl t/\if t=true then GE X c Γ M3 λd3 M4=>Op2 X.K r' d2 d3 M4 k else k (.bl false) M3)(hm:lastMarks [op,op'] [b,c]=false:=by with_unfolding_all rfl):GE X (.Compare a [op,op'] [b,c] pos) Γ M k:=λσ G H Q en rl q=>by
 refine cB (aFA ho ho' pU pU pU hm) ?_
 refine h σ G H _ en rl λv1 G1 H1 d1 M1 s1 e1 h1 => ?_
 refine h1 σ G1 H1 _ (en.up s1.gg) s1.rel λv2 G2 H2 d2 M2 s2 e2 h2 => ?_
 refine h2 G2 H2 v1 v2 _ s2.rel (e1.up s2.gg) e2 λz G3 H3 d3 M3 s3 e3 ⟨t,ed,h3⟩ => ?_
 subst ed
 have s13:=(s1.trans s2).trans s3
 refine⟨t,e3.bl_,?_⟩
 cases t with
 |true =>
  rw[if_pos rfl] at h3 ⊢
  refine h3 σ G3 H3 _ (en.up s13.gg) s3.rel λw G4 H4 d4 M4 s4 e4 h4 => ?_
  exact h4 G4 H4 v2 w Q s4.rel (e2.up (s3.trans s4).gg) e4 (q.up (s13.trans s4))
 |false =>
  rw[if_neg zBf] at h3 ⊢
  exact q _ _ _ _ _ s13 cX h3
end
end Z
namespace Q
open PySem L2 Z
noncomputable def p1(x:Int):Int×Int:=(x,1)
noncomputable def fJ(xs:List Int):List D:=(xs.map p1).map pairD
structure Up7(xs:List Int):Prop where
 up:xs.Pairwise (· < ·)
 few:xs.length<=7
 bd:∀x∈xs, -1000000000<=x/\x<=1000000000
noncomputable def dv(a b:Int):Int:=if b<0 then -((wa a b:Nat):Int) else ((wa a b:Nat):Int)
noncomputable def lowP(a b:Int):Int×Int:=(a.fdiv (dv a b),b.fdiv (dv a b))
noncomputable def xV:Ct:=λds M k=>∃a b:Int,ds=[.int a, .int b]/\b≠0/\b.natAbs<10^1000/\k (pairD (lowP a b)) M
noncomputable def rQ:Ct:=λds M k=>∃a b:Int,ds=[.int a, .int b]/\b≠0/\b.natAbs<10^1000/\k (pairD (lowP a b)) M
noncomputable def pN:Ct:=λds M k=>∃x:Int,ds=[.int x] /\ -1000000000<=x/\x<=1000000000/\k (.bl true) M
noncomputable def oN:Ct:=λds M k=>∃xs:List Int,ds=[.lst (xs.map .int)]/\Up7 xs/\k (.bl true) M
noncomputable def aFH:Ct:=λds M k=>∃(xs ys:List Int) (zs:List Str),ds=[.lst (xs.map .int), .lst (ys.map .int), .lst (zs.map .str)]/\Up7 xs/\Up7 ys/\R.Good (xs.length-1) zs/\zs.length=ys.length-1/\k (gI (fJ xs) (fJ ys) zs) M
theorem low1(x:Int):lowP x 1=p1 x:=by
 have e:dv x 1=1:=by unfold dv;rw[if_neg '*',Int.gcd_one];rfl
 unfold lowP p1
 rw[e,Int.fdiv_one]
 rfl
theorem aHE{z:Int}(h0:0<=z)(h1:z<3):∃m:Int,atI [D.int 1, .int 5, .int (10^(8:Int).toNat)] z=some (.int m)/\1<=m/\m<=100000000:=by
 have:z=0\/z=1\/z=2:=by lia
 rcases this with rfl|rfl|rfl
 ·exact⟨1,rfl,by decide,by decide⟩
 ·exact⟨5,rfl,by decide,by decide⟩
 ·exact⟨_,rfl,by decide,by decide⟩
theorem lL(ds:List D):isD "list" (.lst ds)=true:=rfl
theorem all_true(n:Nat):(kr n true).all id=true:=by
 rw[jy];intro b hb;rw[(List.mem_replicate.mp hb).2];rfl
theorem int_at(h:i<xs.length):atI (xs.map D.int) (i:Int)=some (.int xs[i]):=dA (by rw[qg,zGe h];rfl)
theorem qB(xs:List Int):(fJ xs).length=xs.length:=by unfold fJ;rw[zLm,zLm]
theorem uL(h:R.Good n zs):(zs.all λz=>z.cps.toList.all R.sgn)=true:=jy.mpr λz hz=>(h z hz).2
theorem TT.tame1(h:TT n (zs.map .str)):∀r∈zs.map D.str,tameB 1 r=true:=λr hr=>by
 obtain⟨z,hz,rfl⟩:=qw.mp hr
 exact rX (vB (h.each _ hr))
theorem pK{α:Type}(l:List α)(d:α):(qy l.length).map (λj=>l.getD j d)=l:=by
 apply kj
 intro i
 by_cases h:i<l.length
 ·rw[qg,wj h,vp,zGd,zGe h];rfl
 ·rw[qq (by simp;lia),qq '#']
theorem lC(n:Nat):(qy n).dropLast=qy (n-1):=by
 cases n with
 |zero=>rfl
 |succ n=>rw[cu,List.dropLast_concat];rfl
theorem aBM{K:List Str}{a b:Nat}(t1:R.chg K=qy a)(t2:R.chg (R.aE K)=qy b)(t4:R.Good (b-1) K)(hkl:K.length=a-1):R.b4 K=K:=by
 unfold R.b4
 rw[t1,t2,lC,lC,<- hkl]
 apply kj
 intro i
 by_cases h:i<K.length
 ·rw[qg,wj h,vp,zGd,zGe h]
  have hl:=(t4 K[i] (jl h)).1
  congr 1
  apply iQ
  show (qy _).map (R.atS K[i])=K[i].cps.toList
  apply kj
  intro j
  by_cases hj:j<b-1
  ·rw[qg,wj hj,R.dJ '#'];rfl
  ·rw[qq (by simp;lia),qq (by rw[qo];have:K[i].cps.size=K[i].length:=rfl;lia)]
 ·rw[qq (by simp;lia),qq '#']
theorem p9(h:xs.Pairwise (· < ·))(hij:i<=j)(hj:j<xs.length):xs.getD i 0<=xs.getD j 0:=by
 rw[zGd,zGd,zGe (show i<xs.length by lia),zGe hj]
 by_cases e:i=j
 ·subst e;exact Int.le_refl _
 ·exact K1 (kd.mp h i j '#' hj '#')
theorem n6(h:xs.Pairwise (· < ·))(hij:i<j)(hj:j<xs.length):xs.getD i 0<xs.getD j 0:=by
 rw[zGd,zGd,zGe (show i<xs.length by lia),zGe hj]
 exact kd.mp h i j '#' hj '#'
end Q
namespace L2
open PySem PySem.Spec PyProof.Rows
section
theorem mU(hh:A.handled=none)(it:Addr)(x:Str)(t:Tok):
  VG prog w A it [it] x.cps.size (λi v=>∃c u,x.cps[i]?=some c/\v = .str ⟨#[c]⟩ u) (λi h=>h.IsStrIter it (cj x) x t i):=by
 unfold cj
 split
 ·first|exact JU hh it x t|exact J4 hh it x t
 ·first|exact J4 hh it x t|exact JU hh it x t
end
end L2
namespace Z
open PySem L2
section
variable {a:Expr}{rest:List Expr}
end
end Z
namespace Q
open PySem L2 Z
structure Bg(p:Int×Int):Prop where
 a:p.1.natAbs<10^400
 b:p.2.natAbs<10^400
 c:p.2≠0
theorem big400{i:Int}(h:i.natAbs<10^400):i.natAbs<big:=qr h (by unfold big;decide)
noncomputable def f9(K:List Str)(bx bu:List Int):List Bool:=bu.flatMap λu=>bx.map λa=>R.aW K a u
noncomputable def uE(l:List Bool):Str:=if l.all id then "in" else if l.any id then "rim" else "out"
theorem zV(K:List Str)(bx bu:List Int)(h1:bx.length<=2)(h2:bu.length<=2):(f9 K bx bu).length<=4:=by
 unfold f9
 match bu,h2 with
 |[],_=>simp
 |[a],_=>simp;omega
 |[a,b],_=>simp;omega
structure Spot(xs:List Int)(v:Int×Int)(cols:List Int):Prop where
 pos:0<v.2
 sm:v.1.natAbs<10^65/\v.2.natAbs<10^65
 at_:(∃k:Nat,k<xs.length/\v=p1 (xs.getD k 0)/\cols=[(k:Int)-1,(k:Int)])\/(∃k:Int,cols=[k]/\∀i,i<xs.length->(xs.getD i 0*v.2<v.1↔(i:Int)<=k)/\xs.getD i 0*v.2≠v.1)
end Q
namespace PySem
namespace F
end F
section
variable {E:Value->Shared->Prop}
end
end PySem
namespace PySem
open PyProof.Rows
section
variable {E:Value->Shared->Prop}{I:Addr}
end
end PySem
namespace PySem
open PyProof.Rows
open Builtin Builtin.Str Builtin.Int
section
variable {E:Value->Shared->Prop}{I:Addr}
end
end PySem
namespace L2
open PySem PySem.Spec PyProof.Rows
section
end
end L2
namespace Z
open PySem L2
section
variable {a:Expr}{rest:List Expr}
end
end Z
namespace Q
open PySem L2 Z
structure Tidy2(K:List Str)(a b:Nat):Prop where
 v:(K=[]/\a=0/\b=0)\/(K≠[]/\R.chg K=qy b/\R.chg (R.aE K)=qy a/\R.Good (a-1) K/\K.length+1=b/\2<=a/\2<=b)
theorem Tidy2.good{K:List Str}{a b:Nat}(h:Tidy2 K a b):R.Good (a-1) K/\K.length=b-1:=by
 rcases h.v with ⟨rfl,rfl,rfl⟩|⟨_,_,_,g,l,_,_⟩
 ·exact⟨λz hz=>(nomatch hz),rfl⟩
 ·exact⟨g,by lia⟩
theorem zH(g:R.Good n zs):Tidy2 (R.b4 zs) (R.chg (R.aE zs)).length (R.chg zs).length:=by
 by_cases hr:R.aM zs=[]
 ·obtain⟨e1,e2⟩:=R.rZ (λz hz=>(g z hz).1) hr
  refine⟨.inl ⟨?_,?_,?_⟩⟩
  ·unfold R.b4;rw[e1] <;> first|rfl|(rw[e2];rfl)
  ·first|(rw[e2];rfl)|(rw[e1];rfl)
  ·first|(rw[e1];rfl)|(rw[e2];rfl)
 ·obtain⟨t1,t2,t3,t4,t5,t6⟩:=R.aAT g hr
  have hkl:(R.b4 zs).length=(R.chg zs).length-1:=by unfold R.b4;rw[zLm,jj]
  exact⟨.inr ⟨t3,t1,t2,t4,by lia,t5,t6⟩⟩
structure By(w:Nat)(p:Int×Int):Prop where
 b0:0<p.2
 b9:p.2<=9
 a20:p.1.natAbs<=20
 a0:w=3->0<p.1
end Q
namespace U
open PySem
noncomputable def inY(ws us:List Rat)(K:List Str)(x y:Rat):Bool:=R.aW K (ix ws x) (ix us y)
theorem nA{K:List Str}(h:∀z∈K,z.length=n){a u:Int}(ha:(n:Int)<=a):R.aW K a u=false:=by
 cases e:R.aW K a u with
 |false=>rfl
 |true =>
  obtain⟨h1,h2,z,hz,hc⟩:=R.pF.mp e
  have:=h z (zMo hz)
  have h3:a.toNat<z.cps.toList.length:=(zGs hc).1
  rw[qo] at h3
  have h4:z.cps.size=z.length:=rfl
  lia
structure Steps(f:Rat->Rat->Bool)(xs ys:List Rat):Prop where
 out:∀x y,ix xs x = -1\/ix xs x=(xs.length:Int)-1\/ix ys y = -1\/ix ys y=(ys.length:Int)-1->f x y=false
 at_:∀x y (i j:Nat) (hi:i<xs.length) (hj:j<ys.length),ix xs x=i->ix ys y=j->f x y=f xs[i] ys[j]
theorem aCO{us xs:List Rat}{K:List Str}(u:Up ws)(u':Up us)(hK:∀z∈K,z.length=ws.length-1)(lK:K.length=us.length-1)(v:Up xs)(v':Up ys)(hs:∀w∈ws,w∈xs)(hs':∀w∈us,w∈ys):Steps (inY ws us K) xs ys where
 out x y h:=by
  unfold inY
  rcases h with h|h|h|h
  ·rw[aDA v hs h];exact R.dG '#'
  ·rw[xX v hs h]
   cases ws with
   |nil=>exact R.dG '$'
   |cons w r=>exact nA hK '$'
  ·rw[aDA v' hs' h];exact R.fB '#'
  ·rw[xX v' hs' h]
   cases us with
   |nil=>exact R.fB '$'
   |cons w r=>exact R.fP (by rw[lK];simp)
 at_ x y i j hi hj e e':=by
  unfold inY
  rw[xY u v hs hi e,xY u' v' hs' hj e']
theorem Steps.pick{f g:Rat->Rat->Bool}{xs:List Rat}(hf:Steps f xs ys)(hg:Steps g xs ys)(p:Bool->Bool->Bool)(h0:p false false=false):Steps (λx y=>p (f x y) (g x y)) xs ys:=
 ⟨λx y h=>by rw[hf.out x y h,hg.out x y h];exact h0,λx y i j hi hj e e'=>by rw[hf.at_ x y i j hi hj e e',hg.at_ x y i j hi hj e e']⟩
noncomputable def dW(f:Rat->Rat->Bool)(xs ys:List Rat):List Str:=ys.dropLast.map λy=>R.ofL (xs.dropLast.map λx=>R.sg (f x y))
theorem f7(f:Rat->Rat->Bool)(xs ys:List Rat):(dW f xs ys).length=ys.length-1:=by unfold dW;rw[zLm,jj]
theorem fC(f:Rat->Rat->Bool)(xs ys:List Rat):R.Good (xs.length-1) (dW f xs ys):=λz hz=>by
 unfold dW at hz
 obtain⟨y,_,rfl⟩:=qw.mp hz
 refine⟨by rw[R.lA,zLm,jj],?_⟩
 rw[jy]
 intro c hc
 have hc':c∈xs.dropLast.map λx=>R.sg (f x y):=hc
 obtain⟨q,_,rfl⟩:=qw.mp hc'
 unfold R.sg;split <;> rfl
theorem aEL{f:Rat->Rat->Bool}{xs:List Rat}(hi:i+1<xs.length)(hj:j+1<ys.length):R.aW (dW f xs ys) (i:Int) (j:Int)=f xs[i] ys[j]:=by
 have hj':j<ys.dropLast.length:=by rw[jj];lia
 have hi':i<xs.dropLast.length:=by rw[jj];lia
 have e1:(dW f xs ys)[((j:Int)).toNat]?=some (R.ofL (xs.dropLast.map λx=>R.sg (f x ys[j]))):=by
  rw[ql];unfold dW
  rw[qg,zGe hj',QN];rfl
 have e2:(R.ofL (xs.dropLast.map λx=>R.sg (f x ys[j]))).cps.toList[((i:Int)).toNat]?=some (R.sg (f xs[i] ys[j])):=by
  rw[ql]
  show (xs.dropLast.map λx=>R.sg (f x ys[j]))[i]?=_
  rw[qg,zGe hi',QN];rfl
 rw[R.fF '#' '#' e1 e2]
 unfold R.sg
 cases f xs[i] ys[j] <;> rfl
theorem aHU{f:Rat->Rat->Bool}{xs:List Rat}(h:Steps f xs ys)(x y:Rat):R.aW (dW f xs ys) (ix xs x) (ix ys y)=f x y:=by
 have a1:=pJ xs x
 have a2:=qQ xs x
 have b1:=pJ ys y
 have b2:=qQ ys y
 by_cases ha:ix xs x = -1
 ·rw[h.out x y (.inl ha),ha];exact R.dG '#'
 by_cases ha':ix xs x=(xs.length:Int)-1
 ·rw[h.out x y (.inr (.inl ha')),ha']
  exact nA (λz hz=>(fC f xs ys z hz).1) '#'
 by_cases hb:ix ys y = -1
 ·rw[h.out x y (.inr (.inr (.inl hb))),hb];exact R.fB '#'
 by_cases hb':ix ys y=(ys.length:Int)-1
 ·rw[h.out x y (.inr (.inr (.inr hb'))),hb']
  exact R.fP (by rw[f7];lia)
 obtain⟨i,hi⟩:∃i:Nat,ix xs x=i:=⟨(ix xs x).toNat,by lia⟩
 obtain⟨j,hj⟩:∃j:Nat,ix ys y=j:=⟨(ix ys y).toNat,by lia⟩
 rw[h.at_ x y i j '#' '#' hi hj,hi,hj]
 exact aEL '#' '#'
theorem aGT{xs:List Rat}(u:Up xs)(v:Up ys)(g:R.Good (xs.length-1) zs)(hz:zs.length=ys.length-1)(x y:Rat):
  inY (gP xs (R.chg (R.aE zs))) (gP ys (R.chg zs)) (R.b4 zs) x y=R.aW zs (ix xs x) (ix ys y):=by
 unfold inY
 rw[xR u (Q.eQ λz hz=>(g z hz).1),xR v (Q.eP hz),R.aG4 g]
theorem uY{K:List Str}(g:R.Good n K){z:Str}(hz:K[j]?=some z):z=R.ofL ((qy n).map λ(c:Nat)=>R.sg (R.aW K (c:Int) (j:Int))):=by
 obtain⟨hl,hs⟩:=g z (zMo hz)
 have e:z.cps.toList=(qy n).map λ(c:Nat)=>R.sg (R.aW K (c:Int) (j:Int)):=by
  refine kj λc => ?_
  rw[qg]
  by_cases hc:c<n
  ·rw[wj hc,R.dJ '#']
   have h2:=R.j4 g (zMo hz) hc
   rw[vp,R.fF (z:=z) (c:=R.atS z c) '#' '#' (by rw[ql];exact hz) (by rw[ql];exact R.dJ '#')]
   unfold R.sg
   rcases h2 with h2|h2 <;> rw[h2] <;> rfl
  ·rw[qq (by rw[qo];have:z.cps.size=z.length:=rfl;lia),qq (by simpa using hc)];rfl
 unfold R.ofL
 rw[<- e]
theorem aF3{K K':List Str}(g:R.Good n K)(g':R.Good n K')(hl:K.length=K'.length)(h:∀a u:Nat,a<n->u<K.length->R.aW K (a:Int) (u:Int)=R.aW K' (a:Int) (u:Int)):K=K':=by
 refine kj λj => ?_
 by_cases hj:j<K.length
 ·have e1:K[j]?=some K[j]:=zGe hj
  have e2:K'[j]?=some (K'[j]' '#'):=zGe '#'
  rw[e1,e2,uY g e1,uY g' e2]
  congr 2
  refine kc λc hc => ?_
  rw[h c j (ve.mp hc) hj]
 ·rw[qq '#',qq '#']
theorem frow{K:List Str}(g:R.Good n K)(hK:K≠[])(hj:j<=K.length+1):(R.framed K)[j]?=some (R.ofL ((qy n).map λ(c:Nat)=>R.sg (R.aW K (c:Int) ((j:Int)-1)))):=by
 have hw:=R.cJ (λz hz=>(g z hz).1) hK
 have hd:∀u:Int,(∀c:Nat,R.aW K (c:Int) u=false)->R.dots n=R.ofL ((qy n).map λ(c:Nat)=>R.sg (R.aW K (c:Int) u)):=λu hu=>by
  unfold R.dots
  congr 1
  refine (QO.mpr ⟨by simp,λb hb => ?_⟩).symm
  obtain⟨c,_,rfl⟩:=qw.mp hb
  rw[hu c];rfl
 rcases dq j with rfl|hp
 ·rw[R.fI,hw,<- hd _ λc=>R.fB '#']
 ·obtain⟨k,rfl⟩:∃k,j=k+1:=⟨j-1,by lia⟩
  rw[show (((k+1:Nat):Int)-1)=(k:Int) by lia]
  by_cases hk:k<K.length
  ·rw[R.cI hk,zGe hk,<- uY g (zGe hk)]
  ·have e:k=K.length:=by lia
   rw[e,R.dH,hw,<- hd _ λc=>R.fP '#']
theorem fcol{K:List Str}(g:R.Good n K)(hK:K≠[])(hn:0<n)(hi:i<=n+1):(R.framed (R.aE K))[i]?=some (R.ofL ((qy K.length).map λ(r:Nat)=>R.sg (R.aW K ((i:Int)-1) (r:Int)))):=by
 rw[R.gM (λz hz=>(g z hz).1) hK hn hi]
 congr 2
 refine kj λr => ?_
 rw[qg,qg]
 by_cases hr:r<K.length
 ·rw[zGe hr,wj hr,vp,vp]
  congr 1
  have e1:K[r]?=some K[r]:=zGe hr
  have hl:=(g _ (jl hr)).1
  unfold R.pL
  split
  ·rename_i h
   rcases h with rfl|rfl
   ·rw[R.dG '#'];rfl
   ·rw[nA (λz hz=>(g z hz).1) '#'];rfl
  ·rename_i h
   have hi':i-1<n:=by lia
   have h2:=R.j4 g (jl hr) hi'
   rw[show ((i:Int)-1)=((i-1:Nat):Int) by lia,R.fF (z:=K[r]) (c:=R.atS K[r] (i-1)) '#' '#' (by rw[ql];exact e1) (by rw[ql];exact R.dJ '#')]
   unfold R.sg
   rcases h2 with h2|h2 <;> rw[h2] <;> rfl
 ·rw[qq '#',qq (by simpa using hr)];rfl
theorem aA9{f g:Nat->Bool}(h:some (R.ofL ((qy n).map λc=>R.sg (f c)))≠some (R.ofL ((qy n).map λc=>R.sg (g c)))):∃c,c<n/\f c≠g c:=by
 refine kq λq=>h ?_
 congr 2
 refine kc λc hc => ?_
 have:=ve.mp hc
 have e:f c=g c:=kq λz=>q ⟨c,this,z⟩
 rw[e]
theorem tK{K:List Str}{a b:Nat}(T:Q.Tidy2 K a b)(hi:i<a):∃j:Nat,j+1<b/\R.aW K ((i:Int)-1) (j:Int)≠R.aW K (i:Int) (j:Int):=by
 rcases T.v with ⟨_,rfl,_⟩|⟨hK,t1,t2,g,l,ha,hb⟩
 ·lia
 ·have hm:i∈R.chg (R.aE K):=by rw[t2];exact ve.mpr hi
  have lc:=R.cR (λz hz=>(g z hz).1) hK
  have hcn:R.aE K≠[]:=λe=>by rw[e] at lc;simp at lc;lia
  obtain⟨h1,h2⟩:=(R.eW hcn).mp hm
  rw[fcol g hK '#' '#',fcol g hK '#' '#'] at h2
  obtain⟨c,hc,hne⟩:=aA9 h2
  refine⟨c,by lia,?_⟩
  rwa [show (((i+1:Nat):Int)-1)=(i:Int) by lia] at hne
theorem aFD{K:List Str}{a b:Nat}(T:Q.Tidy2 K a b)(hj:j<b):∃i:Nat,i+1<a/\R.aW K (i:Int) ((j:Int)-1)≠R.aW K (i:Int) (j:Int):=by
 rcases T.v with ⟨_,_,rfl⟩|⟨hK,t1,t2,g,l,ha,hb⟩
 ·lia
 ·have hm:j∈R.chg K:=by rw[t1];exact ve.mpr hj
  obtain⟨h1,h2⟩:=(R.eW hK).mp hm
  rw[frow g hK '#',frow g hK '#'] at h2
  obtain⟨c,hc,hne⟩:=aA9 h2
  refine⟨c,by lia,?_⟩
  rwa [show (((j+1:Nat):Int)-1)=(j:Int) by lia] at hne
noncomputable def JX(f:Rat->Rat->Bool)(w:Rat):Prop:=∃y,∀x,x<w->∃x',x<=x'/\x'<w/\f x' y≠f w y
theorem m7(u:Up ws)(hi:i<ws.length){x:Rat}(hx:x<ws[i])(h:∀k (hk:k<ws.length),k<i->ws[k]<=x):ix ws x=(i:Int)-1:=
 sX u '#' '#' λk hk=>by
  constructor
  ·intro h1
   have:=(n6 u hk hi).mp (by grind)
   lia
  ·intro h1
   exact h k hk '#'
theorem before(u:Up ws)(hi:i<ws.length){x:Rat}(hx:x<ws[i]):∃x',x<=x'/\x'<ws[i]/\ix ws x'=(i:Int)-1:=by
 by_cases h0:i=0
 ·subst h0
  exact⟨x,by grind,hx,m7 u hi hx λk _ q=>absurd q (zx _)⟩
 ·have hp:i-1<ws.length:=by lia
  have hl:=(n6 u hp hi).mpr '#'
  have le:∀k (hk:k<ws.length),k<i->ws[k]<=ws[i-1]:=λk hk q=>(p9 u hk hp).mpr '#'
  by_cases hm:x<=ws[i-1]
  ·exact⟨ws[i-1],hm,hl,m7 u hi hl le⟩
  ·exact⟨x,by grind,hx,m7 u hi hx λk hk q=>by have:=le k hk q;grind⟩
theorem still(u:Up ws){w:Rat}(hw:w∉ws):∃x,x<w/\∀x',x<=x'->x'<w->ix ws x'=ix ws w:=by
 have a:=pJ ws w
 have b:=qQ ws w
 by_cases hk:ix ws w = -1
 ·refine⟨w-1,by grind,λx' h1 h2 => ?_⟩
  rw[hk]
  refine sX u '#' '#' λi hi => ?_
  constructor
  ·intro h;have:=(fL (x:=w) u hi).mp (by grind);lia
  ·intro h;lia
 ·have hi:(ix ws w).toNat<ws.length:=by lia
  have hle:=(fL (x:=w) u hi).mpr '#'
  have hne:ws[(ix ws w).toNat]≠w:=λe=>hw (e▸jl hi)
  refine⟨ws[(ix ws w).toNat],by grind,λx' h1 h2 => ?_⟩
  refine sX u a b λi hi' => ?_
  constructor
  ·intro h;exact (fL (x:=w) u hi').mp (by grind)
  ·intro h
   have:=(p9 u hi' hi).mpr '#'
   grind
theorem aCJ{us:List Rat}{K:List Str}(u:Up ws)(u':Up us)(T:Q.Tidy2 K ws.length us.length)(w:Rat):w∈ws↔JX (inY ws us K) w:=by
 constructor
 ·intro hw
  obtain⟨i,hi,rfl⟩:=jw hw
  obtain⟨j,hj,hne⟩:=tK T hi
  refine⟨us[j],λx hx => ?_⟩
  obtain⟨x',h1,h2,h3⟩:=before u hi hx
  refine⟨x',h1,h2,?_⟩
  unfold inY
  rw[h3,fQ u hi,fQ u' '#']
  exact hne
 ·rintro⟨y,h⟩
  refine kq λhw => ?_
  obtain⟨x,hx,hs⟩:=still u hw
  obtain⟨x',h1,h2,h3⟩:=h x hx
  unfold inY at h3
  rw[hs x' h1 h2] at h3
  exact h3 rfl
theorem aBO{us:List Rat}{K:List Str}(u:Up ws)(u':Up us)(T:Q.Tidy2 K ws.length us.length)(w:Rat):w∈us↔JX (λy x=>inY ws us K x y) w:=by
 constructor
 ·intro hw
  obtain⟨j,hj,rfl⟩:=jw hw
  obtain⟨i,hi,hne⟩:=aFD T hj
  refine⟨ws[i],λx hx => ?_⟩
  obtain⟨x',h1,h2,h3⟩:=before u' hj hx
  refine⟨x',h1,h2,?_⟩
  unfold inY
  dsimp only
  rw[h3,fQ u' hj,fQ u '#']
  exact hne
 ·rintro⟨x,h⟩
  refine kq λhw => ?_
  obtain⟨y,hy,hs⟩:=still u' hw
  obtain⟨y',h1,h2,h3⟩:=h y hy
  unfold inY at h3
  dsimp only at h3
  rw[hs y' h1 h2] at h3
  exact h3 rfl
theorem aEB{us ws' us':List Rat}{K K':List Str}(u:Up ws)(v:Up us)(T:Q.Tidy2 K ws.length us.length)(u':Up ws')(v':Up us')(T':Q.Tidy2 K' ws'.length us'.length)(h:∀x y,inY ws us K x y=inY ws' us' K' x y):ws=ws'/\us=us'/\K=K':=by
 have hf:inY ws us K=inY ws' us' K':=funext λx=>funext λy=>h x y
 have e1:ws=ws':=aCM u u' λx=>by rw[aCJ u v T,aCJ u' v' T',hf]
 have e2:us=us':=aCM v v' λx=>by rw[aBO u v T,aBO u' v' T',hf]
 subst e1 e2
 refine⟨rfl,rfl,?_⟩
 obtain⟨g,l⟩:=T.good
 obtain⟨g',l'⟩:=T'.good
 refine aF3 g g' '#' λa b ha hb => ?_
 have:=h ws[a] us[b]
 unfold inY at this
 rwa [fQ u '#',fQ v '#'] at this
noncomputable def aS:List Rat->List Rat->List Rat
 |[],ys=>ys
 |x::xs,[]=>x::xs
 |x::xs,y::ys=>if y<x then y::aS (x::xs) ys else if x=y then x::aS xs ys else x::aS xs (y::ys)
termination_by xs ys=>xs.length+ys.length
theorem uW:∀xs,aS xs []=xs
 |[]=>by rw[aS]
 |x::xs=>by rw[aS]
theorem uM(ys:List Rat):aS [] ys=ys:=by rw[aS]
theorem cP:∀(xs ys:List Rat) (a:Rat),a∈aS xs ys↔a∈xs\/a∈ys
 |[],ys,a=>by rw[aS];simp
 |x::xs,[],a=>by rw[aS];simp
 |x::xs,y::ys,a=>by
  rw[aS]
  split
  ·rw[qe,cP (x::xs) ys a,qe (a:=a) (b:=y)]
   constructor
   ·rintro (h|h|h)
    ·exact .inr (.inl h)
    ·exact .inl h
    ·exact .inr (.inr h)
   ·rintro (h|h|h)
    ·exact .inr (.inl h)
    ·exact .inl h
    ·exact .inr (.inr h)
  ·split
   ·rename_i h1 h2
    subst h2
    rw[qe,cP xs ys a,qe,qe]
    constructor
    ·rintro (h|h|h)
     ·exact .inl (.inl h)
     ·exact .inl (.inr h)
     ·exact .inr (.inr h)
    ·rintro ((h|h)|h|h)
     ·exact .inl h
     ·exact .inr (.inl h)
     ·exact .inl h
     ·exact .inr (.inr h)
   ·rw[qe,cP xs (y::ys) a,qe (a:=a) (b:=x)]
    constructor
    ·rintro (h|h|h)
     ·exact .inl (.inl h)
     ·exact .inl (.inr h)
     ·exact .inr h
    ·rintro ((h|h)|h)
     ·exact .inl h
     ·exact .inr (.inl h)
     ·exact .inr (.inr h)
termination_by xs ys=>xs.length+ys.length
theorem b6:∀{xs ys:List Rat},xs.Pairwise (· < ·)->ys.Pairwise (· < ·)->(aS xs ys).Pairwise (· < ·)
 |[],ys,_,hy=>by rw[aS];exact hy
 |x::xs,[],hx,_=>by rw[aS];exact hx
 |x::xs,y::ys,hx,hy=>by
  obtain⟨x1,x2⟩:=qz.mp hx
  obtain⟨y1,y2⟩:=qz.mp hy
  rw[aS]
  split
  ·rename_i h
   refine qz.mpr ⟨λa ha => ?_,b6 hx y2⟩
   rcases (cP _ _ _).mp ha with h1|h1
   ·rcases qe.mp h1 with rfl|h1
    ·exact h
    ·have:=x1 a h1;grind
   ·exact y1 a h1
  ·split
   ·rename_i h1 h2
    subst h2
    refine qz.mpr ⟨λa ha => ?_,b6 x2 y2⟩
    rcases (cP _ _ _).mp ha with h1|h1
    ·exact x1 a h1
    ·exact y1 a h1
   ·rename_i h1 h2
    refine qz.mpr ⟨λa ha => ?_,b6 x2 hy⟩
    rcases (cP _ _ _).mp ha with h3|h3
    ·exact x1 a h3
    ·rcases qe.mp h3 with rfl|h3
     ·grind
     ·have:=y1 a h3;grind
termination_by xs ys=>xs.length+ys.length
theorem gE:∀(xs ys:List Rat),(aS xs ys).length<=xs.length+ys.length
 |[],ys=>by rw[aS];simp
 |x::xs,[]=>by rw[aS];simp
 |x::xs,y::ys=>by
  rw[aS]
  split
  ·have:=gE (x::xs) ys;simp only[jb] at *;omega
  ·split
   ·have:=gE xs ys;simp only[jb] at *;omega
   ·have:=gE xs (y::ys);simp only[jb] at *;omega
termination_by xs ys=>xs.length+ys.length
theorem pP{xs:List Rat}{f s:Nat}(hf:f<xs.length)(hs:s<ys.length):
  aS (xs.drop f) (ys.drop s)= ','::aS (xs.drop (f+if xs.getD f 0= ',' then 1 else 0)) (ys.drop (s+if ys.getD s 0= ',' then 1 else 0)):=by
 have ex:xs.drop f=xs.getD f 0::xs.drop (f+1):=by rw[x3 hf,zGd,zGe hf];rfl
 have ey:ys.drop s=ys.getD s 0::ys.drop (s+1):=by rw[x3 hs,zGd,zGe hs];rfl
 generalize xs.getD f 0=x at *
 generalize ys.getD s 0=y at *
 conv=>lhs;rw[ex,ey,aS]
 by_cases h:y<x
 ·rw[if_pos h,if_pos h,if_neg (show ¬x=y by grind),if_pos rfl]
  show _=y::aS (xs.drop f) (ys.drop (s+1))
  rw[ex]
 ·rw[if_neg h,if_neg h,if_pos rfl]
  by_cases h2:x=y
  ·rw[if_pos h2,if_pos h2.symm]
  ·rw[if_neg h2,if_neg (λe=>h2 e.symm)]
   show _=x::aS (xs.drop (f+1)) (ys.drop s)
   rw[ey]
structure Yd where
 ws:List Rat
 us:List Rat
 K:List Str
 uw:Up ws
 uu:Up us
 T:Q.Tidy2 K ws.length us.length
noncomputable def Yd.has(A:Yd)(x y:Rat):Bool:=inY A.ws A.us A.K x y
theorem Yd.ext'{A B:Yd}(h:∀x y,A.has x y=B.has x y):A=B:=by
 obtain⟨ws,us,K,uw,uu,T⟩:=A
 obtain⟨ws',us',K',uw',uu',T'⟩:=B
 obtain⟨rfl,rfl,rfl⟩:=aEB uw uu T uw' uu' T' h
 rfl
theorem Yd.wide(A:Yd):(∀z∈A.K,z.length=A.ws.length-1)/\A.K.length=A.us.length-1:=⟨λz hz=>(A.T.good.1 z hz).1,A.T.good.2⟩
theorem Yd.steps(A:Yd){xs:List Rat}(v:Up xs)(v':Up ys)(hs:∀w∈A.ws,w∈xs)(hs':∀w∈A.us,w∈ys):Steps A.has xs ys:=aCO A.uw A.uu A.wide.1 A.wide.2 v v' hs hs'
noncomputable def Yd.ofG(xs ys:List Rat)(zs:List Str)(u:Up xs)(v:Up ys)(g:R.Good (xs.length-1) zs)(hz:zs.length=ys.length-1):Yd where
 ws:=gP xs (R.chg (R.aE zs))
 us:=gP ys (R.chg zs)
 K:=R.b4 zs
 uw:=u3 u (R.b8 _) (Q.eQ λz hz=>(g z hz).1)
 uu:=u3 v (R.b8 _) (Q.eP hz)
 T:=by
  have:=Q.zH g
  unfold gP
  rw[zLm,zLm]
  exact this
theorem Yd.ofG_has{xs:List Rat}(u:Up xs)(v:Up ys)(g:R.Good (xs.length-1) zs)(hz:zs.length=ys.length-1)(x y:Rat):(Yd.ofG xs ys zs u v g hz).has x y=R.aW zs (ix xs x) (ix ys y):=aGT u v g hz x y
theorem Yd.ofG_ws{xs:List Rat}(u:Up xs)(v:Up ys)(g:R.Good (xs.length-1) zs)(hz:zs.length=ys.length-1):(∀w∈(Yd.ofG xs ys zs u v g hz).ws,w∈xs)/\∀w∈(Yd.ofG xs ys zs u v g hz).us,w∈ys:=
 ⟨sF (Q.eQ λz hz=>(g z hz).1),sF (Q.eP hz)⟩
noncomputable def Yd.ofF(f:Rat->Rat->Bool)(xs ys:List Rat)(u:Up xs)(v:Up ys):Yd:=Yd.ofG xs ys (dW f xs ys) u v (fC f xs ys) (f7 f xs ys)
theorem Yd.ofF_has{f:Rat->Rat->Bool}{xs:List Rat}(u:Up xs)(v:Up ys)(h:Steps f xs ys)(x y:Rat):(Yd.ofF f xs ys u v).has x y=f x y:=by
 unfold Yd.ofF
 rw[Yd.ofG_has,aHU h]
theorem mgl{vs:List Rat}:∀w∈ws,w∈aS ws vs:=λw hw=>(cP _ _ _).mpr (.inl hw)
theorem mgr{vs:List Rat}:∀w∈vs,w∈aS ws vs:=λw hw=>(cP _ _ _).mpr (.inr hw)
noncomputable def Yd.op(p:Bool->Bool->Bool)(A B:Yd):Yd:=Yd.ofF (λx y=>p (A.has x y) (B.has x y)) (aS A.ws B.ws) (aS A.us B.us) (b6 A.uw B.uw) (b6 A.uu B.uu)
theorem Yd.op_has{p:Bool->Bool->Bool}(h0:p false false=false)(A B:Yd)(x y:Rat):(Yd.op p A B).has x y=p (A.has x y) (B.has x y):=
 Yd.ofF_has _ _ ((A.steps (b6 A.uw B.uw) (b6 A.uu B.uu) mgl mgl).pick (B.steps (b6 A.uw B.uw) (b6 A.uu B.uu) mgr mgr) p h0) x y
structure On(Sx Sy:List Rat)(A:Yd):Prop where
 x:∀w∈A.ws,w∈Sx
 y:∀w∈A.us,w∈Sy
theorem On.op{A B:Yd}(a:On Sx Sy A)(b:On Sx Sy B)(p:Bool->Bool->Bool):On Sx Sy (Yd.op p A B) where
 x w hw:=by
  rcases (cP _ _ _).mp ((Yd.ofG_ws (b6 A.uw B.uw) (b6 A.uu B.uu) (fC _ _ _) (f7 _ _ _)).1 w hw) with h|h
  ·exact a.x w h
  ·exact b.x w h
 y w hw:=by
  rcases (cP _ _ _).mp ((Yd.ofG_ws (b6 A.uw B.uw) (b6 A.uu B.uu) (fC _ _ _) (f7 _ _ _)).2 w hw) with h|h
  ·exact a.y w h
  ·exact b.y w h
theorem aD6(u:Up ws):ws.Nodup:=u.imp λh=>by grind
theorem k8{S:List Rat}(u:Up ws)(h:∀w∈ws,w∈S):ws.length<=S.length:=(aD6 u).length_le_of_subset h
theorem Yd.void_iff(A:Yd):A.K=[]↔∀x y,A.has x y=false:=by
 constructor
 ·intro h x y
  unfold Yd.has inY
  rw[h]
  cases e:R.aW [] (ix A.ws x) (ix A.us y) with
  |false=>rfl
  |true=>obtain⟨_,_,z,hz,_⟩:=R.pF.mp e;cases hz
 ·intro h
  rcases A.T.v with ⟨e,_,_⟩|⟨hK,t1,t2,g,l,ha,hb⟩
  ·exact e
  ·exfalso
   obtain⟨j,hj,hne⟩:=tK A.T (i:=0) '!'
   have:=h (A.ws[0]' '!') (A.us[j]' '!')
   unfold Yd.has inY at this
   rw[fQ A.uw,fQ A.uu] at this
   rw[R.dG '!'] at hne
   exact hne this.symm
noncomputable def Yd.void:Yd:=⟨[],[],[], .nil, .nil,⟨.inl ⟨rfl,rfl,rfl⟩⟩⟩
theorem Yd.void_has(x y:Rat):Yd.void.has x y=false:=(Yd.void_iff _).mp rfl x y
end U
namespace Q
open PySem L2 Z
theorem aES(p v:Int×Int):eqD (pairD p) (pairD v)=decide (p=v):=by
 obtain⟨a,b⟩:=v
 obtain⟨x,y⟩:=p
 unfold pairD
 simp only[eqD,eqDs,xn]
 by_cases h1:x=a
 ·by_cases h2:y=b
  ·rw[decide_eq_true (by rw[h1,h2])];simp[h1,h2]
  ·rw[decide_eq_false (by intro e;injection e with e1 e2;exact h2 e2)];simp[h2]
 ·rw[decide_eq_false (by intro e;injection e with e1 e2;exact h1 e1)];simp[h1]
end Q
namespace PySem
open Builtin
structure ZAp(z TI TO i1 i2:Addr)(fp1 fp2:List Addr):Prop where
 TIz:TI≠z
 TOz:TO≠z
 i1z:i1≠z
 i2z:i2≠z
 TOi1:TO≠i1
 TOi2:TO≠i2
 i12:i1≠i2
 f1:∀b∈fp1,b≠z/\b≠TO/\b≠i2
 f2:∀b∈fp2,b≠z/\b≠TO/\b≠i1
section
variable {E:Value->Shared->Prop}{z TI TO i1 i2:Addr}{fp1 fp2:List Addr}{n1 n2 k:Nat}{P1 P2:Nat->Value->Prop}{S1 S2:Nat->Heap->Prop}{a b:Value}
theorem aCT{Q:Value->Shared->Prop}(D1:VG prog w A i1 fp1 n1 P1 S1)(D2:VG prog w A i2 fp2 n2 P2 S2)(ap:ZAp z TI TO i1 i2 fp1 fp2)(hz:IsZip s.heap z TI TO .none)(hTI:IsPair s.heap TI (.ref i1) (.ref i2))(hTO:IsPair s.heap TO a b)(s1:S1 k s.heap)(s2:S2 k s.heap)(l1:k<n1)(l2:k<n2)(hQ:∀x y h' tk,P1 k x->P2 k y->IsZip h' z TI TO (rawInt s.heap.objs.size)->IsPair h' TO x y->S1 (k+1) h'->S2 (k+1) h'->IsPair h' s.heap.objs.size x y->h'.objs.size=s.heap.objs.size+1 ->
   (∀c o,c≠z->c≠TO->c≠i1->c≠i2->s.heap.get? c=some o->h'.get? c=some o)->Q (.ref s.heap.objs.size) {s with heap:=h',toks:=tk}):
  jd (jq prog w) A (Builtin.«zip.__next__» ⟨[.ref z],[]⟩) (λfin s'=>∃v,fin = .done (.ret v)/\Q v s') E s:=by
 show jd _ _ (field (.ref z) 2 >>= _) _ _ _
 refine qa (yp hz rfl (x := .bool false) rfl ?_)
 show jd _ _ (field (.ref z) 3 >>= _) _ _ _
 refine qa (yp hz rfl (x := .ref TI) rfl ?_)
 refine qa (fh hTI rfl ?_)
 show jd _ _ (wq (.ref z) >>= _) _ _ _
 refine qa ?_
 unfold wq
 refine qa (yp hz rfl (x := .none) rfl (wpAny_pure ?_))
 simp only[if_true]
 refine qa (nt ?_)
 refine qa (yp hz rfl (x := .ref TO) rfl ?_)
 refine qa (br hz '$' λh1 hz1 hs1 => ?_)
 replace hz1:IsZip h1 z TI TO .ellipsis:=hz1
 refine qa ?_
 simp only[JH,JS,gi,Qn]
 have k1:∀c o,c≠z->s.heap.get? c=some o->h1.get? c=some o:=λc o h e=>hs1.extBut _ _ h e
 refine qa (qa (Q6 ?_))
 show jd _ _ (ba (.ref i1) >>= _) _ _ _
 refine qa (D1.item k _ _ _ l1 (D1.frame _ _ _ s1 λc hc o e=>k1 c o (ap.f1 c hc).1 e) λx h2 t2 px st2 hs2=>wpAny_pure ?_)
 have k2:∀c o,c≠i1->h1.get? c=some o->h2.get? c=some o:=λc o h e=>hs2.extBut _ _ h e
 have hTO2:IsPair h2 TO a b:=k2 _ _ ap.TOi1 (k1 _ _ ap.TOz hTO)
 refine qa (fh hTO2 rfl ?_)
 refine qa (JN hTO2 λh3 hTO3 hs3 => ?_)
 replace hTO3:IsPair h3 TO x b:=hTO3
 have k3:∀c o,c≠TO->h2.get? c=some o->h3.get? c=some o:=λc o h e=>hs3.extBut _ _ h e
 refine qa (wpAny_letGo (wpAny_pure ?_))
 refine qa (qa (Q6 ?_))
 show jd _ _ (ba (.ref i2) >>= _) _ _ _
 refine qa (D2.item k _ _ _ l2 (D2.frame _ _ _ s2 λc hc o e=>k3 c o (ap.f2 c hc).2.1 (k2 c o (ap.f2 c hc).2.2 (k1 c o (ap.f2 c hc).1 e))) λy h4 t4 py st4 hs4=>wpAny_pure ?_)
 have k4:∀c o,c≠i2->h3.get? c=some o->h4.get? c=some o:=λc o h e=>hs4.extBut _ _ h e
 have hTO4:IsPair h4 TO x b:=k4 _ _ ap.TOi2 hTO3
 refine qa (fh hTO4 rfl ?_)
 refine qa (JN hTO4 λh5 hTO5 hs5 => ?_)
 replace hTO5:IsPair h5 TO x y:=hTO5
 have k5:∀c o,c≠TO->h4.get? c=some o->h5.get? c=some o:=λc o h e=>hs5.extBut _ _ h e
 refine qa (wpAny_letGo (wpAny_pure (wpAny_pure ?_)))
 refine qa (fh hTO5 rfl ?_)
 refine qa (V0 ?_)
 have hsz:h5.objs.size=s.heap.objs.size:=by rw[hs5.1,hs4.1,hs3.1,hs2.1,hs1.1]
 have hz5:IsZip h5 z TI TO .ellipsis:=k5 _ _ ap.TOz.symm (k4 _ _ ap.i2z.symm (k3 _ _ ap.TOz.symm (k2 _ _ ap.i1z.symm hz1)))
 have hzlt:z<h5.objs.size:=qi hz5
 show jd _ _ (cz (.ref z) (.ref h5.objs.size) >>= _) _ _ _
 refine qa ?_
 unfold cz
 have hz6:IsZip (h5.push {cls := .type "tuple", data := .seq #[x,y]}) z TI TO .ellipsis:=qb _ hz5
 refine qa (br hz6 '$' λh7 hz7 hs7 => ?_)
 replace hz7:IsZip h7 z TI TO (rawInt h5.objs.size):=hz7
 refine br hz7 '$' λh8 hz8 hs8 => ?_
 replace hz8:IsZip h8 z TI TO (rawInt h5.objs.size):=hz8
 have up:∀c o,c≠z->h5.get? c=some o->h8.get? c=some o:=λc o c1 e=>hs8.extBut _ _ c1 (hs7.extBut _ _ c1 (qb _ e))
 have hT8:IsPair h8 h5.objs.size x y:=hs8.extBut _ _ (xo hzlt) (hs7.extBut _ _ (xo hzlt) (qh _ rfl))
 have sz8:h8.objs.size=h5.objs.size+1:=by rw[hs8.1,hs7.1,jt]
 rw[hsz] at hz8 hT8 sz8
 refine wpAny_pure ⟨_,rfl,?_⟩
 show Q (.ref h5.objs.size) _
 rw[hsz]
 refine hQ x y h8 _ px py hz8 (up _ _ ap.TOz hTO5) (D1.frame _ _ _ st2 λc hc o e=>up c o (ap.f1 c hc).1 (k5 c o (ap.f1 c hc).2.1 (k4 c o (ap.f1 c hc).2.2 (k3 c o (ap.f1 c hc).2.1 e))))
  (D2.frame _ _ _ st4 λc hc o e=>up c o (ap.f2 c hc).1 (k5 c o (ap.f2 c hc).2.1 e)) hT8 sz8 λc o c1 c2 c3 c4 e=>up c o c1 (k5 c o c2 (k4 c o c4 (k3 c o c2 (k2 c o c3 (k1 c o c1 e)))))
theorem aEU{Q:Fin->Shared->Prop}(D1:VG prog w A i1 fp1 n1 P1 S1)(ap:ZAp z TI TO i1 i2 fp1 fp2)(hz:IsZip s.heap z TI TO .none)(hTI:IsPair s.heap TI (.ref i1) (.ref i2))(s1:S1 n1 s.heap)(hE:∀h' e,(∀c o,c≠z->c≠i1->s.heap.get? c=some o->h'.get? c=some o)->(∃o,h'.get? e=some o/\o.cls = .type "StopIteration")->E (.ref e) {s with heap:=h' }):
  jd (jq prog w) A (Builtin.«zip.__next__» ⟨[.ref z],[]⟩) Q E s:=by
 show jd _ _ (field (.ref z) 2 >>= _) _ _ _
 refine qa (yp hz rfl (x := .bool false) rfl ?_)
 show jd _ _ (field (.ref z) 3 >>= _) _ _ _
 refine qa (yp hz rfl (x := .ref TI) rfl ?_)
 refine qa (fh hTI rfl ?_)
 show jd _ _ (wq (.ref z) >>= _) _ _ _
 refine qa ?_
 unfold wq
 refine qa (yp hz rfl (x := .none) rfl (wpAny_pure ?_))
 simp only[if_true]
 refine qa (nt ?_)
 refine qa (yp hz rfl (x := .ref TO) rfl ?_)
 refine qa (br hz '$' λh1 hz1 hs1 => ?_)
 replace hz1:IsZip h1 z TI TO .ellipsis:=hz1
 refine qa ?_
 simp only[JH,JS,gi,Qn]
 refine qa (qa (Q6 ?_))
 show jd _ _ (ba (.ref i1) >>= _) _ _ _
 refine qa (D1.done _ _ _ (D1.frame _ _ _ s1 λc hc o e=>hs1.extBut _ _ (ap.f1 c hc).1 e) λh2 e hs2 he => ?_)
 obtain⟨oe,hoe,hce⟩:=he
 have hz2:IsZip h2 z TI TO .ellipsis:=hs2 _ _ ap.i1z.symm hz1
 have hez:e≠z:=λx=>by subst x;rw[hz2] at hoe;cases hoe;simp at hce
 refine br hz2 '$' λh3 _ hs3=>hE h3 e (λc o c1 c3 x=>hs3.extBut _ _ c1 (hs2 _ _ c3 (hs1.extBut _ _ c1 x))) ⟨oe,hs3.extBut _ _ hez hoe,hce⟩
theorem oR{Q:Option Value->Shared->Prop}(D1:VG prog w A.in1 i1 fp1 n1 P1 S1)(D2:VG prog w A.in1 i2 fp2 n2 P2 S2)(ap:ZAp z TI TO i1 i2 fp1 fp2)(hz:IsZip s.heap z TI TO .none)(hTI:IsPair s.heap TI (.ref i1) (.ref i2))(hTO:IsPair s.heap TO a b)(s1:S1 k s.heap)(s2:S2 k s.heap)(l1:k<n1)(l2:k<n2)(hQ:∀x y h' tk,P1 k x->P2 k y->IsZip h' z TI TO (rawInt s.heap.objs.size)->IsPair h' TO x y->S1 (k+1) h'->S2 (k+1) h'->IsPair h' s.heap.objs.size x y->h'.objs.size=s.heap.objs.size+1 ->
   (∀c o,c≠z->c≠TO->c≠i1->c≠i2->s.heap.get? c=some o->h'.get? c=some o)->Q (some (.ref s.heap.objs.size)) {s with heap:=h',toks:=tk}):
  jd (jq prog w) A (gr (.ref z)) Q E s:=by
 have hT:s.TypeIs (.ref z) "zip" := ⟨_,hz,rfl⟩
 unfold gr
 exact qa (df (vn (name:=jg "__next__") hT lq
  (vg lq hT Kg
   (aCT D1 D2 ap hz hTI hTO s1 s2 l1 l2 λx y h' tk a0 a1 a2 a3 a4 a5 a6 a7 a8=>wpAny_pure (hQ x y h' tk a0 a1 a2 a3 a4 a5 a6 a7 a8)) (J3 _))))
theorem p6{Q:Option Value->Shared->Prop}(D1:VG prog w A.in1 i1 fp1 n1 P1 S1)(ap:ZAp z TI TO i1 i2 fp1 fp2)(hz:IsZip s.heap z TI TO .none)(hTI:IsPair s.heap TI (.ref i1) (.ref i2))(s1:S1 n1 s.heap)(hQ:∀h',(∀c o,c≠z->c≠i1->s.heap.get? c=some o->h'.get? c=some o)->Q none {s with heap:=h' }):jd (jq prog w) A (gr (.ref z)) Q E s:=by
 have hT:s.TypeIs (.ref z) "zip" := ⟨_,hz,rfl⟩
 unfold gr
 refine qa (df (vn (name:=jg "__next__") hT lq
  (vg lq hT Kg (aEU D1 ap hz hTI s1 λh' e hk he => ?_) (J3 _))))
 obtain⟨o,ho,hc⟩:=he
 refine qa (Qo (T := "StopIteration") (b:=true) ⟨o,ho,hc⟩ V8 ?_)
 exact wpAny_pure (hQ _ hk)
end
end PySem
namespace PySem
open PyProof.Rows
abbrev aAQ(h:Heap)(x:Str)(t:Tok):Heap:=h.push {cls := .type (cj x),data := .fields #[.str x t, .int 0 0]}
abbrev aAJ(h:Heap)(x y:Str)(t u:Tok):Heap:=(aAQ h x t).push {cls := .type (cj y),data := .fields #[.str y u, .int 0 0]}
abbrev aAP(h:Heap)(x y:Str)(t u:Tok):Heap:=(aAJ h x y t u).push {cls := .type "tuple", data := .seq #[.ref h.objs.size, .ref (aAQ h x t).objs.size]}
abbrev aAB(h:Heap)(x y:Str)(t u:Tok):Heap:=(aAP h x y t u).push {cls := .type "tuple", data := .seq #[.none, .none]}
abbrev o5(h:Heap)(x y:Str)(t u:Tok):Heap:=(aAB h x y t u).push {cls := .type "zip", data := .fields #[.none, .bool false, .bool false, .ref (aAJ h x y t u).objs.size, .ref (aAP h x y t u).objs.size]}
theorem rG(x y:Str)(t u:Tok):
  Meets (Builtin.«zip.__new__» ⟨[.type "zip", .str x t, .str y u],[]⟩) (λ_ R s=>R (.ok (.ret (.ref (aAB s.heap x y t u).objs.size))) {s with heap:=o5 s.heap x y t u}):=
 .of_wp λprog w A R s h=>by
  obtain⟨hp,g,d,tk,os⟩:=s
  have hsub:=sub_zip
  wp_walk using wpAny_pyIter_strU,wpAny_pyIter_strU
  exact⟨_,rfl,h⟩
section
variable {E:Value->Shared->Prop}
theorem vH{t u:Tok}{Q:Value->Shared->Prop}(h:∀h',IsZip h' (s.heap.objs.size+4) (s.heap.objs.size+2) (s.heap.objs.size+3) .none->IsPair h' (s.heap.objs.size+2) (.ref s.heap.objs.size) (.ref (s.heap.objs.size+1)) ->
   IsPair h' (s.heap.objs.size+3) .none .none->h'.IsStrIter s.heap.objs.size (cj x) x t 0->h'.IsStrIter (s.heap.objs.size+1) (cj y) y u 0->h'.objs.size=s.heap.objs.size+5 ->
   (∀c o,s.heap.get? c=some o->h'.get? c=some o)->Q (.ref (s.heap.objs.size+4)) {s with heap:=h' }):
  jd (jq prog w) A (call (.type "zip") [.str x t, .str y u]) Q E s:=by
 refine callType_new F.called_zip '*' (F.typeCall_zip_2 _ _) (F.newCall_zip_2 _ _) (λobj=>F.args_object_init_3 obj _ _) F.entry_zip_new (rG x y t u) ?_
 have z1:(aAQ s.heap x t).objs.size=s.heap.objs.size+1:=jt ..
 have z2:(aAJ s.heap x y t u).objs.size=s.heap.objs.size+2:=by rw[jt,z1]
 have z3:(aAP s.heap x y t u).objs.size=s.heap.objs.size+3:=by rw[jt,z2]
 have z4:(aAB s.heap x y t u).objs.size=s.heap.objs.size+4:=by rw[jt,z3]
 have z5:(o5 s.heap x y t u).objs.size=s.heap.objs.size+5:=by rw[jt,z4]
 have g5:(o5 s.heap x y t u).get? (aAB s.heap x y t u).objs.size=some _:=qh _ rfl
 have g4:(o5 s.heap x y t u).get? (aAP s.heap x y t u).objs.size=some _:=qb _ (qh _ rfl)
 have g3:(o5 s.heap x y t u).get? (aAJ s.heap x y t u).objs.size=some _:=qb _ (qb _ (qh _ rfl))
 have g2:(o5 s.heap x y t u).get? (aAQ s.heap x t).objs.size=some _:=qb _ (qb _ (qb _ (qh _ rfl)))
 have g1:(o5 s.heap x y t u).get? s.heap.objs.size=some _:=qb _ (qb _ (qb _ (qb _ (qh _ rfl))))
 show _/\_
 rw[z2,z3,z4] at g5
 rw[z1,z2] at g3
 rw[z3] at g4
 rw[z1] at g2
 rw[z4]
 exact⟨⟨_,g5,rfl⟩,h _ g5 g3 g4 ⟨_,g1,rfl,rfl⟩ ⟨_,g2,rfl,rfl⟩ z5 λc o e=>qb _ (qb _ (qb _ (qb _ (qb _ e))))⟩
end
end PySem
namespace L2
open PySem PySem.Spec PyProof.Rows
section
noncomputable def Izs(x y:Str):It:=⟨λi H=>i<x.cps.size/\i<y.cps.size,λi H v H'=>∃T c d,H T=none/\v = .ref T/\H'=upd H T (.tup [.str ⟨#[c]⟩, .str ⟨#[d]⟩])/\x.cps[i]?=some c/\y.cps[i]?=some d,λi H=>x.cps.size=i⟩
theorem aA8{K:qf}(x y:Str)(t u:Tok)(z TI TO i1 i2:Addr)(ap:ZAp z TI TO i1 i2 [i1] [i2])(hTT:TI≠TO/\TI≠i1/\TI≠i2):
  Turn P w K (.Tuple elts kk tp) (Izs x y) [z,TI,TO,i1,i2] z (λi h=>IsZip h z TI TO .none/\IsPair h TI (.ref i1) (.ref i2)/\(∃a b,IsPair h TO a b)/\h.IsStrIter i1 (cj x) x t i/\h.IsStrIter i2 (cj y) y u i) where
 mem:=by simp
 obj:=λi h st b hb=>by
  obtain⟨hz,hTI,⟨a1,b1,hTO⟩,⟨o1,ho1,hc1,hd1⟩,o2,ho2,hc2,hd2⟩:=st
  simp only[qe,jh,or_false] at hb
  rcases hb with rfl|rfl|rfl|rfl|rfl
  ·exact⟨_,hz,λv q=>by cases q⟩
  ·exact⟨_,hTI,λv q=>by cases q⟩
  ·exact⟨_,hTO,λv q=>by cases q⟩
  ·exact⟨o1,ho1,λv q=>by rw[hd1] at q;cases q⟩
  ·exact⟨o2,ho2,λv q=>by rw[hd2] at q;cases q⟩
 keep:=λi h h' st k=>by
  obtain⟨hz,hTI,⟨a1,b1,hTO⟩,⟨o1,ho1,r1⟩,o2,ho2,r2⟩:=st
  exact⟨k z '$' _ hz,k TI '$' _ hTI,⟨a1,b1,k TO '$' _ hTO⟩,⟨o1,k i1 '$' o1 ho1,r1⟩,o2,k i2 '$' o2 ho2,r2⟩
 item:=by
  intro X hP hw hK hc i pins s σ H E I hf st hg
  subst hP hw hK
  obtain⟨hz,hTI,⟨a1,b1,hTO⟩,hi1,hi2⟩:=st
  have D1:=mU (prog:=X.prog) (w:=X.w) (A:=X.A.in1) (I.ok.hd hc) i1 x t
  have D2:=mU (prog:=X.prog) (w:=X.w) (A:=X.A.in1) (I.ok.hd hc) i2 y u
  refine oR D1 D2 ap hz hTI hTO hi1 hi2 hg.1 hg.2 λp q h1 tk hp hq hz1 hTO1 hs1 hs2 hT hsz hk => ?_
  obtain⟨c,tc,hcx,rfl⟩:=hp
  obtain⟨d,td,hdy,rfl⟩:=hq
  refine⟨_,rfl,wpAny_letOwnedTupleGo_zip hz1 λh2 hz2 hs => ?_⟩
  have lz:=qi hz
  have lTO:=qi hTO
  have lTI:=qi hTI
  have l1:i1<s.heap.objs.size:=by obtain⟨o,e,_⟩:=hi1;exact qi e
  have l2:i2<s.heap.objs.size:=by obtain⟨o,e,_⟩:=hi2;exact qi e
  have up:∀b o,b≠z->h1.get? b=some o->h2.get? b=some o:=λb o n e=>hs.extBut _ _ n e
  have tup2:h2.get? s.heap.objs.size=some {cls := .type "tuple", data := .seq #[.str ⟨#[c]⟩ tc, .str ⟨#[d]⟩ td]}:=up _ _ (xo lz) hT
  have k2:∀b ob,b∉[z,TI,TO,i1,i2]->s.heap.get? b=some ob->h2.get? b=some ob:=λb ob hb q=>by
   simp only[qe,jh,or_false,not_or] at hb
   exact up b ob hb.1 (hk b ob hb.1 hb.2.2.1 hb.2.2.2.1 hb.2.2.2.2 q)
  have I2:Inv X pins σ (upd H s.heap.objs.size (.tup [.str ⟨#[c]⟩, .str ⟨#[d]⟩])) {s with heap:=h2,toks:=tk}:=I.turnedT k2 hf (qm _) ⟨(show 2<=sizeLine by decide),[.str ⟨#[c]⟩ tc, .str ⟨#[d]⟩ td], .cons ⟨tc,rfl⟩ (.cons ⟨td,rfl⟩ .nil),_,tup2,rfl,0,rfl⟩
  have hn:H s.heap.objs.size=none:=I.hok.fresh (qm _)
  refine⟨.ref s.heap.objs.size,_,I2,rfl,⟨s.heap.objs.size,c,d,hn,rfl,rfl,hcx,hdy⟩,⟨hz2,up _ _ ap.TIz (hk _ _ ap.TIz hTT.1 hTT.2.1 hTT.2.2 hTI),⟨_,_,up _ _ ap.TOz hTO1⟩,?_,?_⟩,λb hb => ?_⟩
  ·obtain⟨o,e,r⟩:=hs1
   exact⟨o,up _ _ ap.i1z e,r⟩
  ·obtain⟨o,e,r⟩:=hs2
   exact⟨o,up _ _ ap.i2z e,r⟩
  ·rw[aU (λe => ?_)]
   ·exact (hf b hb).1
   ·simp only[qe,jh,or_false] at hb
    rcases hb with y|y|y|y|y <;> rw[y] at e
    ·exact absurd e (qk lz)
    ·exact absurd e (qk lTI)
    ·exact absurd e (qk lTO)
    ·exact absurd e (qk l1)
    ·exact absurd e (qk l2)
 done:=by
  intro X hP hw hK hc i pins s σ H E I hf st hg
  subst hP hw hK
  obtain⟨hz,hTI,⟨a1,b1,hTO⟩,hi1,hi2⟩:=st
  have D1:=mU (prog:=X.prog) (w:=X.w) (A:=X.A.in1) (I.ok.hd hc) i1 x t
  have hn:x.cps.size=i:=hg
  subst hn
  refine p6 D1 ap hz hTI hi1 λh2 hx=>⟨rfl,I.turnedL (t':=s.toks) (ch:=[z,i1]) (λb ob hb q=>hx b ob (λe=>hb (by simp[e])) (λe=>hb (by simp[e])) q) λb hb=>hf b ?_⟩
  simp only[qe,jh,or_false] at hb
  rcases hb with y|y <;> rw[y] <;> simp
 self:=λA i s Q E st h=>lg st.1 h
theorem xD(n:Nat):ZAp (n+4) (n+2) (n+3) n (n+1) [n] [n+1]:=
  ⟨qk (yk '*' n),qk (yk '*' n),qk (wc '*'),qk (yk '*' n),xo (wc '*'),xo (yk '*' n),qk (wc '*'),
   λb hb=>by rw[ji] at hb;subst hb;exact⟨qk (wc '*'),qk (wc '*'),qk (wc '*')⟩,
   λb hb=>by rw[ji] at hb;subst hb;exact⟨qk (yk '*' n),qk (yk '*' n),xo (wc '*')⟩⟩
theorem vX(n:Nat):n+2≠n+3/\n+2≠n/\n+2≠n+1:=⟨by omega,by omega,by omega⟩
noncomputable def aJ7(ta:TA):TI:=λσ H R=>ta σ H λvs H1=>∃x y,vs=[.str x, .str y]/\R (Izs x y) H1
theorem aGQ{a:Expr}{ta:TA}{p:Pos}(hg:Gl X "zip")(hm:X.mg "zip" = none)(hv:jv "zip" = some (.type "zip"))(ha:PA X [a,b] ta)(hs:je [a,b] X.env=[(false,eval a X.env),(false,eval b X.env)]:=by rfl)(hs2:je [b] X.env=[(false,eval b X.env)]:=by rfl):
  PI X (.Tuple elts kk tp) (.Call (.Name "zip" p) [a,b] [] pos) (aJ7 ta):=by
 intro pins s σ H R I h
 refine Call_ (j7 I hg hm hv (xf (thn (ha pos pins s σ H _ I h) λus s1 ⟨vs,H1,I1,r1,q1⟩ => ?_) (by rw[hs,hs2]) (by rw[hs2];rfl)))
 obtain⟨x,y,e,q⟩:=q1
 subst e
 obtain⟨v1,v2,rfl,ru1,ru2⟩:=vals2 r1
 obtain⟨t,rfl⟩:=ru1
 obtain⟨u,rfl⟩:=ru2
 refine vH λh' hz hTI hTO h1 h2 hsz hk => ?_
 have I2:Inv X pins σ H1 {s1 with heap:=h' }:=I1.kept (t':=s1.toks) hk
 refine lg hz ?_
 refine⟨_,[s1.heap.objs.size+4,s1.heap.objs.size+2,s1.heap.objs.size+3,s1.heap.objs.size,s1.heap.objs.size+1],_,Izs x y,H1,rfl,I2,aA8 x y t u (s1.heap.objs.size+4) (s1.heap.objs.size+2) (s1.heap.objs.size+3) s1.heap.objs.size (s1.heap.objs.size+1) (xD _) (vX _),⟨hz,hTI,⟨_,_,hTO⟩,h1,h2⟩,λc hc => ?_,q⟩
 have hle:s1.heap.objs.size<=c:=by
  simp only[qe,jh,or_false] at hc
  rcases hc with h|h|h|h|h <;> rw[h] <;> first|exact qm _|exact sr _ _
 exact I1.fpOk hle (I1.hok.fresh hle)
end
end L2
namespace Z
open PySem L2
section
variable {a:Expr}{rest:List Expr}
noncomputable def fH(xs ys:List D):List D:=(xs.zip ys).map λp => .tup [p.1,p.2]
theorem aHZ{K:Fg}(hl:x.cps.size=y.cps.size):YD K (Izs x y) (fH (eV x) (eV y)) G0 where
 go:=λi G H M sg rl h=>by
  unfold fH at h
  rw[zLm,x5,dD,dD] at h
  exact⟨by show i<x.length;omega,by show i<y.length;omega⟩
 yld:=λi G H M v H' sg rl h z=>by
  obtain⟨T,c,d,hT,rfl,rfl,hc,hd⟩:=z
  have st:=rl.new (o := .tup [.str ⟨#[c]⟩, .str ⟨#[d]⟩]) hT
  refine⟨_, .tup [.str ⟨#[c]⟩, .str ⟨#[d]⟩],st,?_,iA (SqT.of bF) (b5 hV (b5 hV cD))⟩
  unfold fH
  have e:((eV x).zip (eV y))[i]?=some (.str ⟨#[c]⟩, .str ⟨#[d]⟩):=vt.mpr ⟨by simp[eV,hc],by simp[eV,hd]⟩
  rw[qg,e]
  rfl
 stop:=λi G H M sg rl h=>by
  unfold fH at h
  rw[zLm,x5,dD,dD] at h
  show x.cps.size=i
  have:x.length=x.cps.size:=rfl
  have:y.length=y.cps.size:=rfl
  omega
theorem aG9{p:Pos}(hm:X.mg "zip" = none)(hv:jv "zip" = some (.type "zip"))(h:GA X [a,b] Γ M λds M1=>∃x y:Str,ds=[.str x, .str y]/\x.cps.size=y.cps.size/\ki (fH (eV x) (eV y)) M1)(hg:Gl X "zip" := by rfl)(hs:je [a,b] X.env=[(false,eval a X.env),(false,eval b X.env)]:=by rfl)(hs2:je [b] X.env=[(false,eval b X.env)]:=by rfl):
  GI X (.Tuple elts kk tp) (.Call (.Name "zip" p) [a,b] [] pos) Γ M ki:=λσ G H Rr en rl q=>by
 refine kW (aGQ hg hm hv pUA hs hs2) ?_
 refine h σ G H _ en rl λvs G1 H1 ds M1 s1 e1 ⟨x,y,ed,hl,h1⟩ => ?_
 subst ed
 obtain⟨v,u,rfl,dv,du⟩:=dens2 e1
 exact⟨x,y,by rw[dv.str_,du.str_],q _ _ _ _ _ s1 (aHZ hl) h1⟩
end
end Z
namespace L2
open PySem PySem.Spec PyProof.Rows
section
theorem hU{b:Addr}{its:Array Value}{o:Obj}(hl:h.IsList a its)(ho:h.get? b=some o)(hc:o.cls ≠ .type "list"):a≠b:=λz=>by
 obtain⟨o1,e1,c1,_⟩:=hl
 rw[z,ho] at e1;cases e1
 exact hc c1
noncomputable def Izl(K:qf)(a b:Addr):It:=⟨λi H=>∃xs ys x y,SqL K H a xs/\SqL K H b ys/\xs[i]?=some x/\ys[i]?=some y,λi H v H'=>∃T x y,H T=none/\v = .ref T/\H'=upd H T (.tup [x,y])/\(∀xs,SqL K H a xs->xs[i]?=some x)/\(∀ys,SqL K H b ys->ys[i]?=some y),λi H=>∃xs,SqL K H a xs/\xs.length=i⟩
theorem aC2{K:qf}(a b z TI TO i1 i2:Addr)(ap0:ZAp z TI TO i1 i2 [i1] [i2])(hTT:TI≠TO/\TI≠i1/\TI≠i2):
  Turn P w K (.Tuple elts kk tp) (Izl K a b) [z,TI,TO,i1,i2] z (λi h=>IsZip h z TI TO .none/\IsPair h TI (.ref i1) (.ref i2)/\(∃a b,IsPair h TO a b)/\h.IsListIter i1 a i/\h.IsListIter i2 b i) where
 mem:=by simp
 obj:=λi h st b hb=>by
  obtain⟨hz,hTI,⟨a1,b1,hTO⟩,⟨o1,ho1,hc1,hd1⟩,o2,ho2,hc2,hd2⟩:=st
  simp only[qe,jh,or_false] at hb
  rcases hb with rfl|rfl|rfl|rfl|rfl
  ·exact⟨_,hz,λv q=>by cases q⟩
  ·exact⟨_,hTI,λv q=>by cases q⟩
  ·exact⟨_,hTO,λv q=>by cases q⟩
  ·exact⟨o1,ho1,λv q=>by rw[hd1] at q;cases q⟩
  ·exact⟨o2,ho2,λv q=>by rw[hd2] at q;cases q⟩
 keep:=λi h h' st k=>by
  obtain⟨hz,hTI,⟨a1,b1,hTO⟩,⟨o1,ho1,r1⟩,o2,ho2,r2⟩:=st
  exact⟨k z '$' _ hz,k TI '$' _ hTI,⟨a1,b1,k TO '$' _ hTO⟩,⟨o1,k i1 '$' o1 ho1,r1⟩,o2,k i2 '$' o2 ho2,r2⟩
 item:=by
  intro X hP hw hK hc i pins s σ H E I hf st hg
  subst hP hw hK
  obtain⟨hz,hTI,⟨a1,b1,hTO⟩,hi1,hi2⟩:=st
  obtain⟨xs,ys,x,y,hqx,hqy,hx,hy⟩:=hg
  obtain⟨itx,rvx,ptx,hzx⟩:=I.list hqx
  obtain⟨ity,rvy,pty,hzy⟩:=I.list hqy
  obtain⟨o1,ho1,hc1,hd1⟩:=id hi1
  obtain⟨o2,ho2,hc2,hd2⟩:=id hi2
  have n1:∀{a its},s.heap.IsList a its->a≠z/\a≠TO/\a≠i1/\a≠i2:=λhl=>⟨hU hl hz '$',hU hl hTO '$',hU hl ho1 (by rw[hc1];simp),hU hl ho2 (by rw[hc2];simp)⟩
  have na:=n1 ptx.isList
  have nb:=n1 pty.isList
  have ap:ZAp z TI TO i1 i2 [i1,a] [i2,b]:=⟨ap0.TIz,ap0.TOz,ap0.i1z,ap0.i2z,ap0.TOi1,ap0.TOi2,ap0.i12,
   λc hc=>by
    rcases qe.mp hc with rfl|hc
    ·exact ap0.f1 _ '$'
    ·rw[ji] at hc;subst hc;exact⟨na.1,na.2.1,na.2.2.2⟩,
   λc hc=>by
    rcases qe.mp hc with rfl|hc
    ·exact ap0.f2 _ '$'
    ·rw[ji] at hc;subst hc;exact⟨nb.1,nb.2.1,nb.2.2.1⟩⟩
  have D1:=Jc (prog:=X.prog) (w:=X.w) (A:=X.A.in1) (I.ok.hd hc) i1 a na.2.2.1 itx.toArray
  have D2:=Jc (prog:=X.prog) (w:=X.w) (A:=X.A.in1) (I.ok.hd hc) i2 b nb.2.2.2 ity.toArray
  have l1:i<itx.toArray.size:=by rw[qc,<- rvx.length];exact (zGs hx).1
  have l2:i<ity.toArray.size:=by rw[qc,<- rvy.length];exact (zGs hy).1
  refine oR D1 D2 ap hz hTI hTO ⟨hi1,ptx.isList⟩ ⟨hi2,pty.isList⟩ l1 l2 λp q h1 tk hp hq hz1 hTO1 hs1 hs2 hT hsz hk => ?_
  obtain⟨u,hu,ru⟩:=rvx.get hx
  obtain⟨v,hv,rv⟩:=rvy.get hy
  have ep:p=u:=by
   have e3:itx[i]?=some p:=by simpa using hp
   rw[hu] at e3;exact (jk e3).symm
  have eq:q=v:=by
   have e3:ity[i]?=some q:=by simpa using hq
   rw[hv] at e3;exact (jk e3).symm
  subst ep eq
  refine⟨_,rfl,wpAny_letOwnedTupleGo_zip hz1 λh2 hz2 hs => ?_⟩
  have lz:=qi hz
  have lTO:=qi hTO
  have lTI:=qi hTI
  have li1:=qi ho1
  have li2:=qi ho2
  have up:∀b o,b≠z->h1.get? b=some o->h2.get? b=some o:=λb o n e=>hs.extBut _ _ n e
  have tup2:h2.get? s.heap.objs.size=some {cls := .type "tuple", data := .seq #[p,q]}:=up _ _ (xo lz) hT
  have k2:∀b ob,b∉[z,TI,TO,i1,i2]->s.heap.get? b=some ob->h2.get? b=some ob:=λb ob hb q=>by
   simp only[qe,jh,or_false,not_or] at hb
   exact up b ob hb.1 (hk b ob hb.1 hb.2.2.1 hb.2.2.2.1 hb.2.2.2.2 q)
  have I2:Inv X pins σ (upd H s.heap.objs.size (.tup [x,y])) {s with heap:=h2,toks:=tk}:=I.turnedT k2 hf (qm _) ⟨(show 2<=sizeLine by decide),[p,q], .cons ru (.cons rv .nil),_,tup2,rfl,0,rfl⟩
  have hn:H s.heap.objs.size=none:=I.hok.fresh (qm _)
  refine⟨.ref s.heap.objs.size,_,I2,rfl,⟨s.heap.objs.size,x,y,hn,rfl,rfl,λxs' q'=>by rw[I.list_inj q' hqx];exact hx,λys' q'=>by rw[I.list_inj q' hqy];exact hy⟩,⟨hz2,up _ _ ap.TIz (hk _ _ ap.TIz hTT.1 hTT.2.1 hTT.2.2 hTI),⟨_,_,up _ _ ap.TOz hTO1⟩,?_,?_⟩,λb hb => ?_⟩
  ·obtain⟨o,e,r⟩:=hs1.1
   exact⟨o,up _ _ ap.i1z e,r⟩
  ·obtain⟨o,e,r⟩:=hs2.1
   exact⟨o,up _ _ ap.i2z e,r⟩
  ·rw[aU (λe => ?_)]
   ·exact (hf b hb).1
   ·simp only[qe,jh,or_false] at hb
    rcases hb with y|y|y|y|y <;> rw[y] at e
    ·exact absurd e (qk lz)
    ·exact absurd e (qk lTI)
    ·exact absurd e (qk lTO)
    ·exact absurd e (qk li1)
    ·exact absurd e (qk li2)
 done:=by
  intro X hP hw hK hc i pins s σ H E I hf st hg
  subst hP hw hK
  obtain⟨hz,hTI,⟨a1,b1,hTO⟩,hi1,hi2⟩:=st
  obtain⟨xs,hqx,hlen⟩:=hg
  obtain⟨itx,rvx,ptx,hzx⟩:=I.list hqx
  obtain⟨o1,ho1,hc1,hd1⟩:=id hi1
  have na:a≠i1:=hU ptx.isList ho1 (by rw[hc1];simp)
  have naz:a≠z:=hU ptx.isList hz '$'
  have naT:a≠TO:=hU ptx.isList hTO '$'
  obtain⟨o2,ho2,hc2,hd2⟩:=id hi2
  have na2:a≠i2:=hU ptx.isList ho2 (by rw[hc2];simp)
  have ap:ZAp z TI TO i1 i2 [i1,a] [i2]:=⟨ap0.TIz,ap0.TOz,ap0.i1z,ap0.i2z,ap0.TOi1,ap0.TOi2,ap0.i12,
   λc hc=>by
    rcases qe.mp hc with rfl|hc
    ·exact ap0.f1 _ '$'
    ·rw[ji] at hc;subst hc;exact⟨naz,naT,na2⟩,ap0.f2⟩
  have D1:=Jc (prog:=X.prog) (w:=X.w) (A:=X.A.in1) (I.ok.hd hc) i1 a na itx.toArray
  have hn:itx.toArray.size=i:=by rw[qc,<- rvx.length];exact hlen
  subst hn
  refine p6 D1 ap hz hTI ⟨hi1,ptx.isList⟩ λh2 hx=>⟨rfl,I.turnedL (t':=s.toks) (ch:=[z,i1]) (λb ob hb q=>hx b ob (λe=>hb (by simp[e])) (λe=>hb (by simp[e])) q) λb hb=>hf b ?_⟩
  simp only[qe,jh,or_false] at hb
  rcases hb with y|y <;> rw[y] <;> simp
 self:=λA i s Q E st h=>lg st.1 h
noncomputable def aKC(K:qf)(ta:TA):TI:=λσ H R=>ta σ H λvs H1=>∃a b xs ys,vs=[.ref a, .ref b]/\SqL K H1 a xs/\SqL K H1 b ys/\R (Izl K a b) H1
theorem aGD{a:Expr}{ta:TA}{p:Pos}(hg:Gl X "zip")(hm:X.mg "zip" = none)(hv:jv "zip" = some (.type "zip"))(ha:PA X [a,b] ta)(hs:je [a,b] X.env=[(false,eval a X.env),(false,eval b X.env)]:=by rfl)(hs2:je [b] X.env=[(false,eval b X.env)]:=by rfl):
  PI X (.Tuple elts kk tp) (.Call (.Name "zip" p) [a,b] [] pos) (aKC X.K ta):=by
 intro pins s σ H R I h
 refine Call_ (j7 I hg hm hv (xf (thn (ha pos pins s σ H _ I h) λus s1 ⟨vs,H1,I1,r1,q1⟩ => ?_) (by rw[hs,hs2]) (by rw[hs2];rfl)))
 obtain⟨c,d,xs,ys,e,hqx,hqy,q⟩:=q1
 subst e
 obtain⟨v1,v2,rfl,ru1,ru2⟩:=vals2 r1
 cases ru1
 cases ru2
 obtain⟨itx,rvx,ptx,hzx⟩:=I1.list hqx
 obtain⟨ity,rvy,pty,hzy⟩:=I1.list hqy
 refine call_zip_2 ptx.isList pty.isList λh' hz hTI hTO h1 h2 hsz hk => ?_
 have I2:Inv X pins σ H1 {s1 with heap:=h' }:=I1.kept (t':=s1.toks) hk
 refine lg hz ?_
 refine⟨_,[s1.heap.objs.size+4,s1.heap.objs.size+2,s1.heap.objs.size+3,s1.heap.objs.size,s1.heap.objs.size+1],_,Izl X.K c d,H1,rfl,I2,aC2 c d (s1.heap.objs.size+4) (s1.heap.objs.size+2) (s1.heap.objs.size+3) s1.heap.objs.size (s1.heap.objs.size+1) (xD _) (vX _),⟨hz,hTI,⟨_,_,hTO⟩,h1,h2⟩,λc hc => ?_,q⟩
 have hle:s1.heap.objs.size<=c:=by
  simp only[qe,jh,or_false] at hc
  rcases hc with h|h|h|h|h <;> rw[h] <;> first|exact qm _|exact sr _ _
 exact I1.fpOk hle (I1.hok.fresh hle)
end
end L2
namespace Z
open PySem L2
section
variable {a:Expr}{rest:List Expr}
theorem aGP{K:Fg}{a b:Addr}{vs us:List V}{es:List D}(s1:SqL K G0 a vs)(d1:Dens K G0 ds vs)(s2:SqL K G0 b us)(d2:Dens K G0 es us)(hl:ds.length=es.length):YD K (Izl K a b) (fH ds es) G0 where
 go:=λi G H M sg rl h=>by
  unfold fH at h
  rw[zLm,x5] at h
  have h1:=d1.len
  have h2:=d2.len
  exact⟨vs,us,vs[i]' '!',us[i]' '!',rl.same.seq (sg.seq s1),rl.same.seq (sg.seq s2),zGe _,zGe _⟩
 yld:=λi G H M v H' sg rl h z=>by
  obtain⟨T,x,y,hT,rfl,rfl,hx,hy⟩:=z
  obtain⟨c,hc,ec⟩:=d1.get' (hx vs (rl.same.seq (sg.seq s1)))
  obtain⟨d,hd,ed⟩:=d2.get' (hy us (rl.same.seq (sg.seq s2)))
  have st:=rl.new (o := .tup [x,y]) hT
  refine⟨_, .tup [c,d],st,?_,iA (SqT.of bF) (b5 ((ec.up sg).up st.gg) (b5 ((ed.up sg).up st.gg) cD))⟩
  unfold fH
  have e:(ds.zip es)[i]?=some (c,d):=vt.mpr ⟨hc,hd⟩
  rw[qg,e]
  rfl
 stop:=λi G H M sg rl h=>by
  unfold fH at h
  rw[zLm,x5] at h
  have h1:=d1.len
  exact⟨vs,rl.same.seq (sg.seq s1),by omega⟩
theorem aH4{p:Pos}(hm:X.mg "zip" = none)(hv:jv "zip" = some (.type "zip"))(h:GA X [a,b] Γ M λds M1=>∃xs ys,ds=[.lst xs, .lst ys]/\xs.length=ys.length/\ki (fH xs ys) M1)(hg:Gl X "zip" := by rfl)(hs:je [a,b] X.env=[(false,eval a X.env),(false,eval b X.env)]:=by rfl)(hs2:je [b] X.env=[(false,eval b X.env)]:=by rfl):
  GI X (.Tuple elts kk tp) (.Call (.Name "zip" p) [a,b] [] pos) Γ M ki:=λσ G H Rr en rl q=>by
 refine kW (aGD hg hm hv pUA hs hs2) ?_
 refine h σ G H _ en rl λvs G1 H1 ds M1 s1 e1 ⟨xs,ys,ed,hl,h1⟩ => ?_
 subst ed
 obtain⟨v,u,rfl,dv,du⟩:=dens2 e1
 obtain⟨c,vs,ev,sv,dn⟩:=dv.lst_
 obtain⟨d,us,eu,su,dm⟩:=du.lst_
 exact⟨c,d,vs,us,by rw[ev,eu],SqL.of (s1.rel.same _ _ sv),SqL.of (s1.rel.same _ _ su),q _ _ _ _ _ s1 (aGP (SqL.of sv) dn (SqL.of su) dm hl) h1⟩
end
end Z
namespace Q
open PySem L2 Z
theorem jD{α:Type}(l:List α)(n:Nat)(h:n<=l.length):cutD l (some (n:Int)) none=l.drop n:=by
 unfold cutD
 rw[HT.aDK,show HT.sIx l.length 0 (some (n:Int))=min n l.length from HT.wY _ _ n,Nat.min_eq_left h]
 exact fo (by rw[yl];exact qm _)
end Q
namespace Z
open PySem L2
theorem aC7{P:D->Mem->Prop}(h:GE X e Γ M P)(hk:∀d M1,P d M1->k d M1):GE X e Γ M k:=λσ G H Q en rl q=>h σ G H Q en rl λv G' H' d M' s ed hp=>q v G' H' d M' s ed (hk d M' hp)
end Z
namespace Q
open PySem L2 Z
noncomputable def tD(K:List Str)(cs:List Int)(u:Int):Str:=R.ofL (cs.map λc=>R.sg (R.aW K c u))
noncomputable def rY:Ct:=λds M k=>∃(x y:D) (K:List Str) (cs:List Int) (u:Int),ds=[.tup [x,y, .tup (K.map .str)], .lst (cs.map .int), .int u]/\(∀z∈K,z.length<=1000)/\cs.length<=300/\k (.str (tD K cs u)) M
noncomputable def lX(ps:List Str)(p:Nat×Nat):Bool:=ps.any λq=>decide (q=(⟨#[p.1,p.2]⟩:Str))
noncomputable def pV(ps:List Str)(a b:Str):Str:=R.ofL ((a.cps.toList.zip b.cps.toList).map λp=>R.sg (lX ps p))
noncomputable def qM:Ct:=λds M k=>∃(a b:Str) (ps:List Str),ds=[.str a, .str b, .tup (ps.map .str)]/\a.length=b.length/\a.length<=900/\ps.length<=10/\k (.str (pV ps a b)) M
theorem aDW(ps:List Str)(q:Str):((ps.map D.str).any λx=>eqD x (.str q))=ps.any λp=>decide (p=q):=by
 rw[KA]
 congr 1
end Q
namespace L2
open PySem PySem.Spec PyProof.Rows
noncomputable def aIM(K:qf)(J:It)(cap:List Nat)(tt:TT)(te:TE)(σ:St)(H1:Hp)(Q:VK)(D:Addr):Prop:=∃W:Nat->Nat->List V->Hp->Prop,(∃m,W 0 m [] (upd H1 D (.lst [])))/\∀i m ys H2,W i m ys H2 ->
 H2 D=some (.lst ys)/\((J.stop i H2/\Q (.ref D) H2)\/(J.go i H2/\ys.length<sizeLine/\∀x H3,J.yld i H2 x H3->∃p a b,x = .ref p/\SqT K H3 p [a,b] /\
  tt (some a::some b::cap.map λk=>(σ[k]?).join) H3 λc H4=>if c=true then te (some a::some b::cap.map λk=>(σ[k]?).join) H4 λy H5=>H5 D=some (.lst ys)/\∃m',m'<m/\W (i+1) m' (ys++[y]) (upd H5 D (.lst (ys++[y])))
   else ∃m',m'<m/\W (i+1) m' ys H4))
noncomputable def qR(K:qf)(wi:TI)(cap:List Nat)(tt:TT)(te:TE):TE:=λσ H Q=>wi σ H λJ H1=>∀D,H1 D=none->aIM K J cap tt te σ H1 Q D
theorem zQ{cap:List Nat}(hc:X.calm=true)(hkind:scope.kind = .function)(hnames:∀y∈scope.names,y.2 = .local->scope.names.lookup y.1=some .local)(hx1:Loc (zi scope X.env) x1)(hxf1:scope.names.lookup x1=some .cell\/(zi scope X.env).names.lookup x1=some .local)(hx2:Loc (zi scope X.env) x2)(hxf2:scope.names.lookup x2=some .cell\/(zi scope X.env).names.lookup x2=some .local)(hNc:(x1::x2::ns).Nodup)(hlen:cap.length=ns.length)(hcap:∀(j k:Nat) (nm:Str),cap[j]?=some k->ns[j]?=some nm->X.N[k]?=some nm/\(X.env.scope.names.lookup nm=some .cell\/X.env.scope.names.lookup nm=some .free))(hns:∀nm∈ns,(nm,ju)∈scope.names/\(nm,vo)∉scope.names)(hnsk:∀nm∈ns,scope.names.lookup nm=some .free)(hfree:∀y∈scope.names,y.2 = .free->X.env.scope.names.lookup y.1=some .cell\/X.env.scope.names.lookup y.1=some .free)(hi:PI X (.Tuple [.Name x1 px1, .Name x2 px2] kk tp) iter wi)(ht:∀cs C s₀ H₀ fp,PIf '-' ifs tt)(he:∀cs C s₀ H₀ fp,PE '-' elt te)(hs:∀v,foldedSetIterable iter X.env v=pure v:=by intro _;rfl){use:Option (Value->Sem Unit)}{Q':Value->Shared->Prop}{Q:VK}{ip:Pos}(I:Inv X pins σ H s)(h:qR X.K wi cap tt te σ H Q)(hfin:∀(D C:Addr) (H':Hp) (s':Shared),Inv X pins σ H' s'->Q (.ref D) H'->(∃m,s'.heap.Ns C m)->CFree X pins H' C->nq X.w.8 X.A X.xe use Q' (.ref D) C (.ok .next) s'):
  jd X.w.8 X.A (Q8 (.ListComp elt [⟨.Tuple [.Name x1 px1, .Name x2 px2] kk tp,iter,ifs,0⟩] scope pos) scope X.env ip (VM []) false (eval iter X.env) use) Q' X.xe s:=by
 obtain⟨cl,ecl,cl1,cl2⟩:=mH (scope:=scope) (env:=X.env) λn hn=>I.ok.has n (hfree (n, .free) hn rfl)
 refine Q1 (use:=use) rfl hs ecl hkind hnames (thn (hi pins s σ H _ I h) λxv s1 h1=>thn h1 λitv s2 h2 => ?_)
 obtain⟨it,fp,tn,J,H2,rfl,I2,T,st2,f2,q⟩:=h2
 have hD:H2 s2.heap.objs.size=none:=I2.fresh
 obtain⟨W,⟨m0,w0⟩,step⟩:=q s2.heap.objs.size hD
 refine vm ?_ (by show 0<=sizeLine;exact vw _)
 have I3:Inv X pins σ (upd H2 s2.heap.objs.size (.lst [])) {s2 with heap:=s2.heap.push {cls := .type "list", data := .seq ([]:List Value).toArray} }:=
  I2.laid (t':=s2.toks) (λb u e=>qb _ e) (qm _) ⟨vw _,[],0, .nil,qh _ rfl⟩
 have sz3:(s2.heap.push {cls := .type "list", data := .seq ([]:List Value).toArray}).objs.size=s2.heap.objs.size+1:=jt ..
 have hfp3:∀b∈fp,∀o,(upd H2 s2.heap.objs.size (.lst [])) b≠some o:=λb hb o z=>by
  obtain⟨ob,e,_⟩:=T.obj 0 _ st2 b hb
  rw[aU (qk (qi e)),(f2 b hb).1] at z
  cases z
 revert I3 sz3 w0 step hfp3
 generalize upd H2 s2.heap.objs.size (.lst [])=H3
 generalize hs3:({s2 with heap:=s2.heap.push {cls := .type "list", data := .seq ([]:List Value).toArray} }:Shared)=s3
 intro step w0 I3 sz3 hfp3
 have st3:tn 0 s3.heap:=T.keep 0 _ _ st2 λb _ o e=>by rw[<- hs3];exact qb _ e
 have fpLt:∀b∈fp,b<s3.heap.objs.size:=λb hb=>by
  obtain⟨o,e,_⟩:=T.obj 0 _ st3 b hb
  exact qi e
 refine oM ?_
 have new:CellsOk (yi '&' scope.names) (s3.heap.objs.size+1) (cellsFrom (s3.heap.objs.size+1) scope.names []):=by
  have ok:=cellsFrom_ok scope.names '&' (s3.heap.objs.size+1) [] ⟨λ_ _ hm=>(nomatch hm),zf⟩ (by rw[jt];exact qm _)
  rw[jt] at ok
  exact ok
 have keep4:∀b o,s3.heap.get? b=some o->(yi '&' scope.names).get? b=some o:=λb o e=>nh _ _ b o (qb _ e)
 have nsC:(yi '&' scope.names).Ns s3.heap.objs.size (λ_=>none):=(J1 s3.heap (.type "dict")).keeps (nh _ _)
 have lk:∀y c,(cl.10).lookup y=some c->((y,c)∈cellsFrom (s3.heap.objs.size+1) scope.names []/\(y,vo)∈scope.names)\/(cl.lookup y=some c/\X.env.cells.lookup y=some c):=λy c e=>by
  rw[eM,fE] at e
  cases z:(cellsFrom (s3.heap.objs.size+1) scope.names []).lookup y with
  |some c' =>
   rw[z] at e
   have e':c'=c:=jk e
   subst e'
   have hm:=jr z
   rcases lG _ _ _ hm with q|q
   ·exact .inl ⟨hm,q⟩
   ·cases q
  |none=>rw[z] at e;exact .inr ⟨e,cl1 y c e⟩
 have oldLt:∀y c,X.env.cells.lookup y=some c->c<s3.heap.objs.size:=λy c e=>by
  obtain⟨v,z⟩:=I3.cell y c e
  exact z.lt
 have hlk2:∀nm∈ns,∃c,(cl.10).lookup nm=some c/\X.env.cells.lookup nm=some c:=λnm hnm=>by
  obtain⟨h1,h2⟩:=hns nm hnm
  obtain⟨c,e⟩:=cl2 nm h1
  refine⟨c,?_,cl1 nm c e⟩
  rw[eM,fE]
  cases z:(cellsFrom (s3.heap.objs.size+1) scope.names []).lookup nm with
  |some c' =>
   rcases lG _ _ _ (jr z) with q|q
   ·exact absurd q h2
   ·cases q
  |none=>exact e
 show gm X.w.8 X.A (.compStart (.ListComp elt [⟨.Tuple [.Name x1 px1, .Name x2 px2] kk tp,iter,ifs,0⟩] scope pos) 0 (.ref it) (.ref s2.heap.objs.size) (fp.12).env) (nq X.w.8 X.A X.xe use Q' (.ref s2.heap.objs.size) s3.heap.objs.size) {s3 with heap:=yi '&' scope.names}
 have ht':=ht cl.10 s3.heap.objs.size s3 H3 fp
 have he':=he cl.10 s3.heap.objs.size s3 H3 fp
 have OK:(fp.12).Ok:=by
  refine⟨I3.ok.mod,hkind,I3.ok.glob,I3.ok.blt,qm _,λy z c e1 e2 => ?_,λy hy => ?_,λy c hf e => ?_,λ_=>I3.ok.hd hc,I3.ok.frames, .inl rfl,λb hb=>⟨qk (fpLt b hb),λy c e => ?_⟩,I3.bs,jf I3.ok.bsz I3.sz,λb o e hb => ?_,λb hb hm => ?_,I3.stack,I3.stkFree⟩
  ·rcases lk y c e1 with ⟨a1,_⟩|⟨a1,a2⟩ <;> rcases lk z c e2 with ⟨b1,_⟩|⟨b1,b2⟩
   ·exact Jy new.apart a1 b1
   ·exact absurd (qr (oldLt z c b2) (vx (new.empty y c a1).2)) (wb _)
   ·exact absurd (qr (oldLt y c a2) (vx (new.empty z c b1).2)) (wb _)
   ·exact I3.ok.inj y z c a2 b2
  ·have key:scope.names.lookup y=some .cell\/scope.names.lookup y=some .free:=by
    rcases hy with hy|hy
    ·rcases c0 (env:=X.env) (names:=scope.names) hy with q|⟨q,_⟩
     ·exact .inl q
     ·exact .inr q
    ·rcases c0 (env:=X.env) (names:=scope.names) hy with q|⟨q,_⟩
     ·exact .inr q
     ·exact .inr q
   rcases key with q|q
   ·exact vv.mp (vh scope.names (s3.heap.objs.size+1) cl (.inl q))
   ·obtain⟨c,e⟩:=cl2 y (jr q)
    exact vv.mp (vh scope.names (s3.heap.objs.size+1) cl (.inr (by rw[e];rfl)))
  ·have hf':scope.names.lookup y=some .cell:=by
    have hf0:(scope.names.lookup y==some .cell)=true:=hf
    simpa using hf0
   have e':(cl.10).lookup y=some c:=e
   have e0:=vv.mp (vh scope.names (s3.heap.objs.size+1) [] (.inl hf'))
   obtain⟨c',z⟩:=e0
   rw[eM,fE,z] at e'
   cases e'
   exact vx (new.empty y c (jr z)).2
  ·rcases lk y c e with ⟨a1,_⟩|⟨a1,a2⟩
   ·exact λz=>absurd (qr (fpLt b hb) (z▸vx (new.empty y c a1).2)) (wb _)
   ·exact (f2 b hb).2.2.2.2.1 y c a2
  ·rcases (f2 b hb).2.2.2.1 with z|z
   ·exact I3.ok.noex b o e z
   ·exact absurd (qr (qi (I3.ok.bs b o e).1) z) (wb _)
  ·rcases qe.mp (I3.stkSub b hm) with z|z
   ·exact (f2 b hb).2.1 z
   ·exact (f2 b hb).2.2.1 z
 have IY:Inv fp.12 [] (none::none::cap.map λk=>(σ[k]?).join) H3 {s3 with heap:=yi '&' scope.names}:=by
  refine⟨OK,rfl,I3.bare,Un.kept keep4,⟨_,nsC,λi nm v e1 e2 e3 => ?_⟩,λy c e => ?_,I3.fresh,λy c e => ?_,λp hp=>absurd (show p∈([]:List (Addr×Obj)) from hp) '$',I3.hok.kept keep4,by simp[aR,hlen]⟩
  ·cases i with
   |zero=>cases e2
   |succ i' =>
   cases i' with
   |zero=>cases e2
   |succ j =>
    have e1':ns[j]?=some nm:=e1
    have e2':(cap.map λk=>(σ[k]?).join)[j]?=some (some v):=e2
    rw[qg] at e2'
    cases hk:cap[j]? with
    |none=>rw[hk] at e2';cases e2'
    |some k =>
     rw[hk] at e2'
     have e2'':(σ[k]?).join=some v:=jk e2'
     have e4:σ[k]?=some (some v):=by
      cases z:σ[k]? with
      |none=>rw[z] at e2'';cases e2''
      |some o=>rw[z] at e2'';exact congrArg some e2''
     obtain⟨hN,hcell⟩:=hcap j k nm hk e1'
     obtain⟨m,_,hl⟩:=I3.loc
     obtain⟨u,r,l⟩:=hl k nm v hN e4 (.inr hcell)
     refine⟨u,r,?_⟩
     rcases l with ⟨l1,_⟩|⟨_,c,ec,z⟩
     ·have l1':X.env.scope.names.lookup nm=some .local:=l1
      rcases hcell with q|q <;> rw[q] at l1' <;> cases l1'
     ·obtain⟨c',g1,g2⟩:=hlk2 nm (zMo e1')
      rw[ec] at g2
      cases g2
      refine .inr ⟨?_,c,g1,?_⟩
      ·rcases e3 with q|q
       ·rcases c0 (env:=X.env) (names:=scope.names) q with w1|⟨_,w1⟩
        ·exfalso
         have hmem:=(hns nm (zMo e1')).1
         have:=hnames (nm, .local) (jr w1) rfl
         -- a name has one kind in a scope: its cell is known,so it is not local here
         exact absurd (I3.ok.has nm (hfree (nm, .free) hmem rfl)) (λ_=>by
          have hk2:=(hnsk nm (zMo e1'))
          rw[w1] at hk2;cases hk2)
        ·cases w1
       ·exact q
      ·obtain⟨o,ho,hd⟩:=z
       exact⟨o,keep4 c o ho,hd⟩
  ·rcases lk y c e with ⟨a1,_⟩|⟨a1,a2⟩
   ·exact⟨none,(new.empty y c a1).1⟩
   ·obtain⟨v,o,ho,hd⟩:=I3.cell y c a2
    exact⟨v,o,keep4 c o ho,hd⟩
  ·rcases lk y c e with ⟨a1,_⟩|⟨a1,a2⟩
   ·exact I3.hok.fresh (vx (new.empty y c a1).2)
   ·exact I3.freeC y c a2
 -- what is reached at the end
 have fin:∀{σ':St}{H':Hp}{s':Shared},Inv fp.12 [] σ' H' s'->Q (.ref s2.heap.objs.size) H' ->
   nq X.w.8 X.A X.xe use Q' (.ref s2.heap.objs.size) s3.heap.objs.size (.ok .next) s':=λ{σ' H' s'} J qd=>by
  obtain⟨m',hn',_⟩:=J.loc
  have hCn:H' s3.heap.objs.size=none:=J.free
  refine hfin _ _ H' s' (I3.call' (ch:=fp) J.os J.base J.hok J.bare λb hb=>⟨(f2 b hb).2.2.2.1,(f2 b hb).2.1,(f2 b hb).2.2.2.2.1,(f2 b hb).2.2.2.2.2⟩) qd ⟨m',hn'⟩ ⟨hCn,xo I3.lt,I3.sz,λy c e=>qk (oldLt y c e),λp hp=>qk (qi (I3.pin p hp).1)⟩
 have fpY:∀{H':Hp},(∀b∈fp,H' b=none)->∀b∈fp,jK fp.12 [] H' b:=λ{H'} hn b hb =>
  ⟨hn b hb,(OK.exf b hb).1,OK.exfs b hb, .inl hb,(OK.exf b hb).2,λp hp=>absurd (show p∈([]:List (Addr×Obj)) from hp) '$'⟩
 have st4:tn 0 (yi '&' scope.names):=T.keep 0 _ _ st3 λb _ o e=>keep4 b o e
 have fr3:∀b∈fp,H3 b=none:=λb hb=>by
  cases z:H3 b with
  |none=>rfl
  |some o=>exact absurd rfl (λ_:(1:Nat)=1=>hfp3 b hb o z)
 have loop:gm X.w.8 X.A (.compLoop (.ListComp elt [⟨.Tuple [.Name x1 px1, .Name x2 px2] kk tp,iter,ifs,0⟩] scope pos) 0 (.ref it) (.ref s2.heap.objs.size) (fp.12).env) (nq X.w.8 X.A X.xe use Q' (.ref s2.heap.objs.size) s3.heap.objs.size) {s3 with heap:=yi '&' scope.names}:=by
  refine nB (λn s'=>∃i ys o1 o2 H',Inv fp.12 [] (o1::o2::cap.map λk=>(σ[k]?).join) H' s'/\tn i s'.heap/\(∀b∈fp,H' b=none)/\W i n ys H') ?_ m0 ⟨0,[],none,none,H3,IY,st4,fr3,w0⟩
  rintro n s5 ⟨i,ys,o1,o2,H5,I5,st5,fr5,w5⟩
  obtain⟨eD,alt⟩:=step i n ys H5 w5
  rcases alt with ⟨stop,qd⟩|⟨go,hz,turn⟩
  ·refine thn (T.done fp.12 rfl rfl rfl hc i [] s5 _ H5 (λ_ _=>False) I5 (fpY fr5) st5 stop) λr s6 ⟨hr,I6⟩ => ?_
   subst hr
   exact fin I6 qd
  ·refine thn (T.item fp.12 rfl rfl rfl hc i [] s5 _ H5 (λ_ _=>False) I5 (fpY fr5) st5 go) λr s6 ⟨u,hr,h6⟩ => ?_
   subst hr
   refine thn h6 λ_ s7 ⟨xv',H7,I7,r7,y7,st7,fr7⟩ => ?_
   have I7':=I7.pinned (fpY fr7) (T.obj _ _ st7)
   obtain⟨pv,xa,xb,ex,sq,turn'⟩:=turn xv' _ y7
   have fnx:∀{x:Str},(scope.names.lookup x=some .cell\/(zi scope X.env).names.lookup x=some .local)->(fp.12).fn x=true\/(zi scope X.env).names.lookup x=some .local:=λh=>h.elim (λz => .inl (by show (scope.names.lookup _==some .cell)=true;rw[z];rfl)) .inr
   have hst:PG fp.12 (.Tuple [.Name x1 px1, .Name x2 px2] kk tp) (gTup X.K 2 (yX (lV 0) (yX (lV 1) gNil))):=aC8 hc (oZ (oG hNc rfl hx1 (fnx hxf1)) (oZ (oG hNc rfl hx2 (fnx hxf2)) yK rfl) rfl) rfl rfl
   refine thn (hst _ s7 _ H7 xv' u (λσ8 H8=>σ8=(some xa::some xb::cap.map λk=>(σ[k]?).join)/\H8=H7) I7' r7 ⟨pv,[xa,xb],ex,sq,rfl,_,_,rfl,_,_,rfl,rfl,rfl,rfl⟩) λ_ s8 ⟨σ8,H8,I8,e8,e8'⟩ => ?_
   subst e8 e8'
   have back:∀{σ9:St}{H9:Hp}{s9:Shared},Inv fp.12 ([]++kU fp s7.heap) σ9 H9 s9->tn (i+1) s9.heap/\∀b∈fp,H9 b=none:=λ{σ9 H9 s9} I9=>by
    refine⟨T.keep _ _ _ st7 λb hb o e=>(I9.pin (b,o) (jn _ (jn _ (gH hb e)))).1,λb hb => ?_⟩
    obtain⟨o,e,d⟩:=T.obj _ _ st7 b hb
    exact (I9.pin (b,o) (jn _ (jn _ (gH hb e)))).2.1
   refine thn (ht' _ s8 _ _ _ I8 turn') λb s9 ⟨H9,I9,q9⟩ => ?_
   cases b with
   |false =>
    rw[if_neg zBf] at q9 ⊢
    obtain⟨m',hm,w9⟩:=q9
    obtain⟨st9,fr9⟩:=back I9
    exact⟨m',hm,i+1,ys,_,_,H9,I9.unpinned,st9,fr9,w9⟩
   |true =>
    rw[if_pos rfl] at q9 ⊢
    refine thn (he' _ s9 _ _ _ I9 q9) λyv s10 ⟨y,H10,I10,r10,eD10,m',hm,w10⟩ => ?_
    refine thn (fA (X:=aR X scope cl.10 s3.heap.objs.size (x1::x2::ns) s3 H3 fp) _ s10 _ H10 (.ref s2.heap.objs.size) [y] (.ref s2.heap.objs.size) [yv] (λ_ H11=>H11=upd H10 s2.heap.objs.size (.lst (ys++[y]))) I10 rfl (.cons r10 .nil) ⟨_,ys,y,rfl,rfl,eD10,hz,rfl⟩) λ_ s11 ⟨_,H11,I11,_,e11⟩ => ?_
    subst e11
    obtain⟨st11,fr11⟩:=back I11
    exact⟨m',hm,i+1,_,_,_,_,I11.unpinned,st11,fr11,w10⟩
 exact Jn loop (T.self X.A 0 _ _ _ st4 loop)
theorem aEF{cap:List Nat}(hc:X.calm=true)(hkind:scope.kind = .function)(hnames:∀y∈scope.names,y.2 = .local->scope.names.lookup y.1=some .local)(hx1:Loc (zi scope X.env) x1)(hxf1:scope.names.lookup x1=some .cell\/(zi scope X.env).names.lookup x1=some .local)(hx2:Loc (zi scope X.env) x2)(hxf2:scope.names.lookup x2=some .cell\/(zi scope X.env).names.lookup x2=some .local)(hNc:(x1::x2::ns).Nodup)(hlen:cap.length=ns.length)(hcap:∀(j k:Nat) (nm:Str),cap[j]?=some k->ns[j]?=some nm->X.N[k]?=some nm/\(X.env.scope.names.lookup nm=some .cell\/X.env.scope.names.lookup nm=some .free))(hns:∀nm∈ns,(nm,ju)∈scope.names/\(nm,vo)∉scope.names)(hnsk:∀nm∈ns,scope.names.lookup nm=some .free)(hfree:∀y∈scope.names,y.2 = .free->X.env.scope.names.lookup y.1=some .cell\/X.env.scope.names.lookup y.1=some .free)(hi:PI X (.Tuple [.Name x1 px1, .Name x2 px2] kk tp) iter wi)(ht:∀cs C s₀ H₀ fp,PIf '-' ifs tt)(he:∀cs C s₀ H₀ fp,PE '-' elt te)(hs:∀v,foldedSetIterable iter X.env v=pure v:=by intro _;rfl):
  PE X (.ListComp elt [⟨.Tuple [.Name x1 px1, .Name x2 px2] kk tp,iter,ifs,0⟩] scope pos) (qR X.K wi cap tt te):=by
 intro pins s σ H Q I h
 rw[eval_ListComp]
 refine zQ hc hkind hnames hx1 hxf1 hx2 hxf2 hNc hlen hcap hns hnsk hfree hi ht he hs (use:=none) I h λD C H' s' J q ⟨m,hn⟩ cf=>⟨m,hn,λh' hs' => ?_⟩
 exact⟨.ref D,H',J.turned (t':=s'.toks) (it:=C) (λb o hb e=>(hs'.2 b hb).trans e) cf.hn cf.hL (.inr cf.h1) cf.h2 cf.h3,rfl,q⟩
noncomputable def nY(sc scope:Scope)(x1 x2:Str)(ns:List Str)(cap:List Nat)(N:List Str):Bool:=iK sc scope x1 ns cap N&&iK sc scope x2 ns cap N&&decide (x1≠x2)
theorem aCE{sc:Scope}(ns:List Str)(cap:List Nat)(hc:X.calm=true)(hsc:X.env.scope=sc)(hN:X.N=N)(ok:nY sc scope x1 x2 ns cap N=true)(hi:PI X (.Tuple [.Name x1 px1, .Name x2 px2] kk tp) iter wi)(ht:∀cs C s₀ H₀ fp,PIf '-' ifs tt)(he:∀cs C s₀ H₀ fp,PE '-' elt te)(hs:∀v,foldedSetIterable iter X.env v=pure v:=by intro _;rfl):
  PE X (.ListComp elt [⟨.Tuple [.Name x1 px1, .Name x2 px2] kk tp,iter,ifs,0⟩] scope pos) (qR X.K wi cap tt te):=by
 subst hsc hN
 unfold nY at ok
 simp only[qp,decide_eq_true_eq] at ok
 obtain⟨⟨ok1,ok2⟩,hne⟩:=ok
 have k:=kL ok1
 have k2:=kL ok2
 have nd:(x1::x2::ns).Nodup:=by
  obtain⟨a1,a2⟩:=xp.mp k.hNc
  obtain⟨b1,b2⟩:=xp.mp k2.hNc
  refine xp.mpr ⟨λh => ?_,k2.hNc⟩
  rcases qe.mp h with h|h
  ·exact hne h
  ·exact a1 h
 have one:∀{x:Str},(scope.names.lookup x=some .local\/scope.names.lookup x=some .cell)->Loc (zi scope X.env) x:=λh=>by
  rcases h with z|z
  ·exact .inl (ye z)
  ·exact .inr (dU z)
 have two:∀{x:Str},(scope.names.lookup x=some .local\/scope.names.lookup x=some .cell)->scope.names.lookup x=some .cell\/(zi scope X.env).names.lookup x=some .local:=λh=>by
  rcases h with z|z
  ·exact .inr (ye z)
  ·exact .inl z
 exact aEF hc k.hkind k.hnames (one k.hx) (two k.hx) (one k2.hx) (two k2.hx) nd k.hlen k.hcap k.hns k.hnsk k.hfree hi ht he hs
end L2
namespace Z
open PySem L2
theorem EnvR.cap2{K:Fg}(h:EnvR K G Γ σ){d2:D}{v1 v2:V}(e1:Den K G d1 v1)(e2:Den K G d2 v2)(cap:List Nat):EnvR K G (some d1::some d2::cap.map λk=>(Γ[k]?).join) (some v1::some v2::cap.map λk=>(σ[k]?).join):=by
 have c:=h.cap e2 cap
 refine⟨by simp,λi q' z => ?_⟩
 cases i with
 |zero=>simp at z;subst z;exact⟨v1,rfl,e1⟩
 |succ i=>exact c.get i q' z
noncomputable def Comp2(X:Cx)(x1 x2:Str)(ns:List Str)(cap:List Nat)(elt:Expr)(ifs:List Expr)(scope:Scope)(Γ:Gm)(k:D->Mem->Prop)(ds:List D)(M1:Mem):Prop:=
 ds.length<=sizeLine/\(∀d∈ds,∃d1 d2,d = .tup [d1,d2])/\∃I:Nat->List D->Mem->Prop,I 0 [] M1 /\
  (∀i d1 d2 acc M2,ds[i]?=some (.tup [d1,d2])->I i acc M2->∀cs C s₀ H₀ fp,GIf '-' ifs (some d1::some d2::cap.map λk=>(Γ[k]?).join) M2 λc M3 =>
   if c=true then (∀cs C s₀ H₀ fp,GE '-' elt (some d1::some d2::cap.map λk=>(Γ[k]?).join) M3 (λy M4=>I (i+1) (acc++[y]) M4)) else I (i+1) acc M3) /\
  (∀acc M2,I ds.length acc M2->∀a,M2 a=none->k (.mt a) (bZ M2 a (.lst acc)))
theorem aG0{cap:List Nat}(h:GI X (.Tuple [.Name x1 px1, .Name x2 px2] kk tp) iter Γ M (Comp2 X x1 x2 ns cap elt ifs scope Γ k)){Q:VK}(en:EnvR X.K G Γ σ)(rl:Rel X.K G H M)(q:Cont X.K M k G H Q):
  qR X.K (tUI X (.Tuple [.Name x1 px1, .Name x2 px2] kk tp) iter) cap (λσ H Q=>∀cs C s₀ H₀ fp,aAN '-' ifs σ H Q) (λσ H Q=>∀cs C s₀ H₀ fp,tU '-' elt σ H Q) σ H Q:=by
 refine h σ G H _ en rl λJ G1 H1 ds M1 s1 yd ⟨hlen,hpair,I,h0,hstep,hend⟩ A hA => ?_
 have hA':=s1.rel.free hA
 refine⟨λi m ys H2=>m=ds.length-i/\i<=ds.length/\∃G2 M2 acc,Stp X.K G1 H1 M1 G2 H2 M2/\H2 A=some (.lst ys)/\G2 A=none/\M2 A=none/\Dens X.K G2 acc ys/\I i acc M2/\acc.length<=i,
  ⟨ds.length,by simp,vw _,G1,M1,[],(Stp.refl s1.rel).aside hA hA'.1 hA'.2,bF,hA'.1,hA'.2,cD,h0,qm _⟩,?_⟩
 rintro i m ys H2 ⟨rfl,hi,G2,M2,acc,s2,hl,hg,hm,dn,hI,hacc⟩
 refine⟨hl,?_⟩
 by_cases hlt:i<ds.length
 ·refine .inr ⟨yd.go i G2 H2 M2 s2.gg s2.rel hlt,by rw[<- dn.len];omega,λx H3 y => ?_⟩
  obtain⟨G3,d,s3,hd,ex⟩:=yd.yld i G2 H2 M2 x H3 s2.gg s2.rel hlt y
  obtain⟨l3,g3,m3⟩:=s3.fr A _ hl hg hm
  obtain⟨d1,d2,ed⟩:=hpair d (zMo hd)
  subst ed
  obtain⟨p,vs,ev,sq,dn3⟩:=ex.tup_
  obtain⟨va,vb,evs,da,db⟩:=dens2 dn3
  subst evs
  refine⟨p,va,vb,ev,R.iU s3.rel.same sq,?_⟩
  intro cs C s₀ H₀ fp
  have en3:=((en.up s1.gg).up (s2.trans s3).gg).cap2 da db cap
  refine hstep i d1 d2 acc M2 hd hI cs C s₀ H₀ fp _ G3 H3 _ en3 s3.rel λc G4 H4 M4 s4 h4 => ?_
  obtain⟨l4,g4,m4⟩:=s4.fr A _ l3 g3 m3
  cases c with
  |true =>
   rw[if_pos rfl] at h4 ⊢
   intro cs C s₀ H₀ fp
   refine h4 cs C s₀ H₀ fp _ G4 H4 _ (en3.up s4.gg) s4.rel λy G5 H5 d5 M5 s5 e5 h5 => ?_
   obtain⟨l5,g5,m5⟩:=s5.fr A _ l4 g4 m4
   have s25:=((s2.trans s3).trans s4).trans s5
   exact⟨l5,ds.length-(i+1),by omega,rfl,hlt,G5,M5,acc++[d5],s25.aside hA g5 m5,bF,g5,m5,(dn.up ((s3.trans s4).trans s5).gg).append (b5 e5 cD),h5,by rw[ja,gj];omega⟩
  |false =>
   rw[if_neg zBf] at h4 ⊢
   exact⟨ds.length-(i+1),by omega,rfl,hlt,G4,M4,acc,(s2.trans s3).trans s4,l4,g4,m4,dn.up (s3.trans s4).gg,h4,by omega⟩
 ·have e:i=ds.length:=by omega
  subst e
  exact .inl ⟨yd.stop _ G2 H2 M2 s2.gg s2.rel rfl,q _ _ _ _ _ (s1.trans (s2.track hA hg hl dn)) mQ (hend acc M2 hI A hm)⟩
section
theorem aEC{sc:Scope}(ns:List Str)(cap:List Nat)(h:GI X (.Tuple [.Name x1 px1, .Name x2 px2] kk tp) iter Γ M (Comp2 X x1 x2 ns cap elt ifs scope Γ k))(hsc:X.env.scope=sc:=by rfl)(hN:X.N=N:=by rfl)(ok:nY sc scope x1 x2 ns cap N=true:=by first|decide +kernel|kernel_rfl!)(hc:X.calm=true:=by rfl)(hs:∀v,foldedSetIterable iter X.env v=pure v:=by intro _;rfl):
  GE X (.ListComp elt [⟨.Tuple [.Name x1 px1, .Name x2 px2] kk tp,iter,ifs,0⟩] scope pos) Γ M k:=λσ G H Q en rl q =>
 cB (aCE ns cap hc hsc hN ok pUI (λcs C s₀ H₀ fp pins s σ H Q I h=>h cs C s₀ H₀ fp pins s I) (λcs C s₀ H₀ fp pins s σ H Q I h=>h cs C s₀ H₀ fp pins s I) hs) (aG0 h en rl q)
noncomputable def aA1(X:Cx)(x1 x2:Str)(ns:List Str)(cap:List Nat)(elt:Expr)(ifs:List Expr)(scope:Scope)(Γ:Gm)(k:D->Mem->Prop)(ds:List D)(M1:Mem):Prop:=
 ds.length<=sizeLine/\(∀d∈ds,∃d1 d2,d = .tup [d1,d2])/\∃I:Nat->List D->Mem->Prop,I 0 [] M1 /\
  (∀i d1 d2 acc M2,ds[i]?=some (.tup [d1,d2])->I i acc M2->∀cs C s₀ H₀ fp,GIf '-' ifs (some d1::some d2::cap.map λk=>(Γ[k]?).join) M2 λc M3 =>
   if c=true then (∀cs C s₀ H₀ fp,GE '-' elt (some d1::some d2::cap.map λk=>(Γ[k]?).join) M3 (λy M4=>I (i+1) (acc++[y]) M4)) else I (i+1) acc M3) /\
  (∀acc M2,I ds.length acc M2->k (.lst acc) M2)
theorem rN{sc:Scope}(ns:List Str)(cap:List Nat)(h:GI X (.Tuple [.Name x1 px1, .Name x2 px2] kk tp) iter Γ M (aA1 X x1 x2 ns cap elt ifs scope Γ k))(hsc:X.env.scope=sc:=by rfl)(hN:X.N=N:=by rfl)(ok:nY sc scope x1 x2 ns cap N=true:=by first|decide +kernel|kernel_rfl!)(hc:X.calm=true:=by rfl)(hs:∀v,foldedSetIterable iter X.env v=pure v:=by intro _;rfl):
  GE X (.ListComp elt [⟨.Tuple [.Name x1 px1, .Name x2 px2] kk tp,iter,ifs,0⟩] scope pos) Γ M k:=by
 refine aAY (aEC ns cap ?_ hsc hN ok hc hs)
 intro σ G H Rr en rl q
 refine h σ G H Rr en rl λJ G1 H1 ds M1 s1 yd ⟨hl,hpair,I,h0,hstep,hend⟩ => ?_
 exact q J G1 H1 ds M1 s1 yd ⟨hl,hpair,I,h0,hstep,λacc M2 hI a ha=>⟨a,acc,M2,rfl,aT,ha,(Le.refl M2).upd ha,hend acc M2 hI⟩⟩
theorem aBE{cap:List Nat}(hl:ds.length<=sizeLine)(hpair:∀d∈ds,∃d1 d2,d = .tup [d1,d2])(I:Nat->List D->Mem->Prop)(h0:I 0 [] M1)(hs:∀i d1 d2 acc M2,ds[i]?=some (.tup [d1,d2])->I i acc M2->∀cs C s₀ H₀ fp,GIf '-' ifs (some d1::some d2::cap.map λk=>(Γ[k]?).join) M2 λc M3 =>
   if c=true then (∀cs C s₀ H₀ fp,GE '-' elt (some d1::some d2::cap.map λk=>(Γ[k]?).join) M3 (λy M4=>I (i+1) (acc++[y]) M4)) else I (i+1) acc M3)(hd:∀acc M2,I ds.length acc M2->k (.lst acc) M2):aA1 X x1 x2 ns cap elt ifs scope Γ k ds M1:=⟨hl,hpair,I,h0,hs,hd⟩
end
end Z
namespace Q
open PySem L2 Z
theorem tR{xs ys:List D}(h:d∈fH xs ys):∃d1 d2,d = .tup [d1,d2]:=by
 unfold fH at h
 obtain⟨p,_,rfl⟩:=qw.mp h
 exact⟨_,_,rfl⟩
theorem aCS{xs ys:List D}{d2:D}(h:(fH xs ys)[i]?=some (.tup [d1,d2])):xs[i]?=some d1/\ys[i]?=some d2:=by
 unfold fH at h
 rw[qg] at h
 obtain⟨p,hp,e⟩:=z8.mp h
 injection e with e
 injection e with e1 e
 injection e with e2 _
 have:=vt.mp (show (xs.zip ys)[i]?=some (p.1,p.2) from hp)
 rw[e1,e2] at this
 exact this
theorem aD2{a b:Str}{d2:D}(h:(fH (eV a) (eV b))[i]?=some (.tup [d1,d2])):∃c e,(a.cps.toList.zip b.cps.toList)[i]?=some (c,e)/\d1 = .str ⟨#[c]⟩/\d2 = .str ⟨#[e]⟩:=by
 obtain⟨h1,h2⟩:=aCS h
 unfold eV at h1 h2
 rw[qg] at h1 h2
 obtain⟨c,hc,e1⟩:=z8.mp h1
 obtain⟨e,he,e2⟩:=z8.mp h2
 exact⟨c,e,vt.mpr ⟨hc,he⟩,e1.symm,e2.symm⟩
theorem aDZ(l:List Str):okDs 0 (l.map D.str)=true:=k9 λd hd=>by obtain⟨z,_,rfl⟩:=qw.mp hd;rfl
end Q
namespace Q
open PySem L2 Z U
noncomputable def pq(q:Rat):Int×Int:=(q.num,(q.den:Int))
noncomputable def c8(q:Rat):D:=pairD (pq q)
noncomputable def aQ(xs:List Rat):List D:=xs.map c8
theorem bJ(xs:List Rat):(aQ xs).length=xs.length:=zLm ..
structure Bq(q:Rat):Prop where
 a:q.num.natAbs<10^400
 b:q.den<10^400
theorem Bq.g(h:Bq q):Bg (pq q):=⟨h.a,by show ((q.den:Int)).natAbs<_;rw[zz];exact h.b,by show (q.den:Int)≠0;have:=q.den_nz;omega⟩
noncomputable def BqL(xs:List Rat):Prop:=∀x∈xs,Bq x
theorem aAE(a b:Rat):ltP (pq a) (pq b)=decide (a<b):=by
 unfold ltP pq
 rw[decide_eq_decide]
 exact (Rat.lt_iff a b).symm
theorem aJV{a b:Rat}:pq a=pq b↔a=b:=by
 constructor
 ·intro e
  unfold pq at e
  injection e with e1 e2
  exact Rat.ext e1 '!'
 ·intro e;rw[e]
theorem qK(a b:Rat):eqD (c8 a) (c8 b)=decide (a=b):=by
 unfold c8
 rw[aES,decide_eq_decide,aJV]
theorem uQ(xs:List Int):fJ xs=aQ (xs.map λ(x:Int)=>(x:Rat)):=by
 unfold fJ aQ
 rw[vj,vj];rfl
noncomputable def n8:Ct:=λds M k=>∃p q:Int×Int,ds=[pairD p,pairD q]/\(p.1.natAbs<10^400/\p.2.natAbs<10^400)/\(q.1.natAbs<10^400/\q.2.natAbs<10^400)/\k (.bl (ltP p q)) M
theorem Bq.p(h:Bq q):(pq q).1.natAbs<10^400/\(pq q).2.natAbs<10^400:=⟨h.g.a,h.g.b⟩
theorem w65{p:Int×Int}(h:p.1.natAbs<10^65/\p.2.natAbs<10^65):p.1.natAbs<10^400/\p.2.natAbs<10^400:=⟨qr h.1 (Q2 '*' '*'),qr h.2 (Q2 '*' '*')⟩
theorem i5(h:i<ws.length):atI (aQ ws) (i:Int)=some (c8 (ws.getD i 0)):=dA (by
 unfold aQ
 rw[qg,zGd,zGe h];rfl)
noncomputable def gY(ws:List Rat)(x:Rat):Nat:=(ws.filter λw=>decide (w<x)).length
noncomputable def bW(ws:List Rat)(x:Rat):List Int:=if gY ws x<ws.length/\ws.getD (gY ws x) 0=x then [(gY ws x:Int)-1,(gY ws x:Int)] else [(gY ws x:Int)-1]
theorem aGH{x:Rat}(h:x∉ws):(gY ws x:Int)-1=ix ws x:=by
 unfold gY ix
 congr 3
 refine fb λw hw => ?_
 have:w≠x:=λe=>h (e▸hw)
 rw[decide_eq_decide]
 grind
theorem aJO(u:Up ws)(h:i<ws.length):gY ws ws[i]=i:=by
 have e:ix ws ws[i]=i:=fQ u h
 have:(ws.filter λw=>decide (w<=ws[i])).length=gY ws ws[i]+1:=by
  unfold gY
  clear e
  revert i
  induction ws with
  |nil=>intro i h;exact absurd h (zx _)
  |cons a r ih =>
   intro i h
   obtain⟨u1,u2⟩:=qz.mp u
   cases i with
   |zero =>
    have e1:r.filter (λw=>decide (w<=a))=[]:=yn.mpr λb hb=>by have:=u1 b hb;simp only[decide_eq_true_eq];grind
    have e2:r.filter (λw=>decide (w<a))=[]:=yn.mpr λb hb=>by have:=u1 b hb;simp only[decide_eq_true_eq];grind
    show ((a::r).filter λw=>decide (w<=a)).length=((a::r).filter λw=>decide (w<a)).length+1
    rw[vz (by simp only[decide_eq_true_eq];grind),yh (by simp only[decide_eq_true_eq];grind),e1,e2];rfl
   |succ i =>
    have hi:i<r.length:=by simpa using h
    have:=u1 _ (jl hi)
    show ((a::r).filter λw=>decide (w<=r[i])).length=((a::r).filter λw=>decide (w<r[i])).length+1
    rw[vz (by simp only[decide_eq_true_eq];grind),vz (by simp only[decide_eq_true_eq];grind),jb,jb,ih u2 hi]
 unfold ix at e
 omega
theorem nF{x:Rat}(h:x∉ws):bW ws x=[ix ws x]:=by
 unfold bW
 rw[if_neg,aGH h]
 rintro⟨h1,h2⟩
 refine h ?_
 rw[zGd,zGe h1] at h2
 exact h2▸jl h1
theorem aD5(u:Up ws)(h:i<ws.length):bW ws ws[i]=[(i:Int)-1,(i:Int)]:=by
 unfold bW
 rw[aJO u h,if_pos ⟨h,by rw[zGd,zGe h];rfl⟩]
theorem p7(u:Up ws)(x:Rat):atI ((bW ws x).map D.int) (-1)=some (.int (ix ws x)):=by
 by_cases h:x∈ws
 ·obtain⟨i,hi,rfl⟩:=jw h
  rw[aD5 u hi,fQ u hi]
  exact o7 [D.int _] (D.int _)
 ·rw[nF h];exact o7 [] (D.int _)
theorem pX(ws:List Rat)(x:Rat):(bW ws x).length<=2:=by unfold bW;split <;> simp
noncomputable def qY:Ct:=λds M k=>∃(ws:List Rat) (x:Rat),ds=[.tup (aQ ws),c8 x]/\BqL ws/\ws.length<=100/\Bq x/\k (.lst ((bW ws x).map .int)) M
noncomputable def tZ:Ct:=λds M k=>∃xs ys:List Rat,ds=[.tup (aQ xs), .tup (aQ ys)]/\BqL xs/\BqL ys/\xs.length<=100/\ys.length<=100/\k (.lst (aQ (aS xs ys))) M
theorem gN(xs:List Rat)(n:Nat):(aQ xs).drop n=aQ (xs.drop n):=by unfold aQ;rw[List.map_drop]
theorem iN(xs ys:List Rat):aQ xs++aQ ys=aQ (xs++ys):=by unfold aQ;rw[qj]
theorem sL(xs:List Rat):(aQ xs).dropLast=aQ xs.dropLast:=by unfold aQ;rw[Jp]
theorem oO{xs:List Rat}(h:∀j∈js,j<xs.length):l7 (aQ xs) js=aQ (gP xs js):=by
 unfold l7 aQ gP
 rw[vj]
 refine kc λj hj => ?_
 have:=h j hj
 rw[zGd,qg,zGe this]
 show c8 xs[j]=c8 (xs.getD j 0)
 rw[zGd,zGe this];rfl
noncomputable def yd(A:Yd):D:=oF (aQ A.ws) (aQ A.us) A.K
theorem xH{xs:List Rat}(u:Up xs)(v:Up ys)(g:R.Good (xs.length-1) zs)(hz:zs.length=ys.length-1):gI (aQ xs) (aQ ys) zs=yd (Yd.ofG xs ys zs u v g hz):=by
 unfold gI yd
 rw[oO (eQ λz hz=>(g z hz).1),oO (eP hz)];rfl
theorem sM(xs:List Rat):∀x∈aQ xs,okD 1 x=true:=λx hx=>by
 obtain⟨q,_,rfl⟩:=qw.mp hx
 rfl
theorem nW(A:Yd):okD 3 (yd A)=true:=pE _ (sM _) (sM _)
theorem tL:∀(a b:List Rat),eqDs (aQ a) (aQ b)=decide (a=b)
 |[],[]=>rfl
 |[],b::bs=>by unfold aQ;simp[eqDs]
 |a::as,[]=>by unfold aQ;simp[eqDs]
 |a::as,b::bs=>by
  have ih:=tL as bs
  unfold aQ at ih ⊢
  simp only[vy,eqDs]
  rw[qK,ih]
  by_cases h1:a=b <;> by_cases h2:as=bs <;> simp[h1,h2]
theorem uH:∀(a b:List Str),eqDs (a.map D.str) (b.map D.str)=decide (a=b)
 |[],[]=>rfl
 |[],b::bs=>by simp[eqDs]
 |a::as,[]=>by simp[eqDs]
 |a::as,b::bs=>by
  have ih:=uH as bs
  simp only[vy,eqDs]
  rw[ih]
  by_cases h1:a=b <;> by_cases h2:as=bs <;> simp[h1,h2,eqD]
theorem aJ5{A B:Yd}:A=B↔A.ws=B.ws/\A.us=B.us/\A.K=B.K:=by
 constructor
 ·intro e;subst e;exact⟨rfl,rfl,rfl⟩
 ·obtain⟨ws,us,K,_,_,_⟩:=A
  obtain⟨ws',us',K',_,_,_⟩:=B
  rintro⟨rfl,rfl,rfl⟩
  rfl
noncomputable instance:DecidableEq Yd:=λ_ _=>tq _
theorem aFJ(A B:Yd):eqD (yd A) (yd B)=decide (A=B):=by
 unfold yd oF
 simp only[eqD,eqDs,tL,uH,xn]
 by_cases h:A=B
 ·subst h;simp
 ·rw[decide_eq_false h]
  by_cases h1:A.ws=B.ws
  ·by_cases h2:A.us=B.us
   ·have h3:A.K≠B.K:=λe=>h (aJ5.mpr ⟨h1,h2,e⟩)
    simp[h3]
   ·simp[h2]
  ·simp[h1]
structure Bnd(S:List Rat):Prop where
 len:S.length<=90
 b:BqL S
theorem onB{A:Yd}(o:On Sx Sy A)(hx:Bnd Sx)(hy:Bnd Sy):BqL A.ws/\BqL A.us/\A.ws.length<=90/\A.us.length<=90:=
 ⟨λw hw=>hx.b w (o.x w hw),λw hw=>hy.b w (o.y w hw),jf (k8 A.uw o.x) hx.len,jf (k8 A.uu o.y) hy.len⟩
noncomputable def oW:Ct:=λds M k=>∃(A:Yd) (xs ys:List Rat),ds=[yd A, .lst (aQ xs), .lst (aQ ys)]/\BqL A.ws/\BqL A.us/\BqL xs/\BqL ys/\A.ws.length<=90/\A.us.length<=90/\xs.length<=300/\ys.length<=300/\k (.lst ((dW A.has xs ys).map .str)) M
noncomputable def kQ(ps:List Str)(a b:Bool):Bool:=lX ps (R.sg a,R.sg b)
noncomputable def mC:Ct:=λds M k=>∃(A B:Yd) (Sx Sy:List Rat) (ps:List Str),ds=[yd A,yd B, .tup (ps.map .str)]/\Bnd Sx/\Bnd Sy/\On Sx Sy A/\On Sx Sy B/\ps.length<=10/\k (yd (Yd.op (kQ ps) A B)) M
noncomputable def lN(p:Bool->Bool->Bool):Ct:=λds M k=>∃(A B:Yd) (Sx Sy:List Rat),ds=[yd A,yd B]/\Bnd Sx/\Bnd Sy/\On Sx Sy A/\On Sx Sy B/\k (yd (Yd.op p A B)) M
noncomputable def c9(a b:Bool):Bool:=a&&b
noncomputable def cG(a b:Bool):Bool:=a||b
noncomputable def bY(a b:Bool):Bool:=a && !b
theorem aA4:kQ ["##"]=c9:=by funext a b;cases a <;> cases b <;> decide +kernel
theorem wS:kQ ["##", "#.", ".#"]=cG:=by funext a b;cases a <;> cases b <;> decide +kernel
theorem aBI:kQ ["#."]=bY:=by funext a b;cases a <;> cases b <;> decide +kernel
noncomputable def vU:Ct:=λds M k=>∃(A B:Yd) (Sx Sy:List Rat),ds=[yd A,yd B]/\Bnd Sx/\Bnd Sy/\On Sx Sy A/\On Sx Sy B/\k (.bl (decide (Yd.op bY A B=Yd.void))) M
theorem aBS(ps:List Str)(f g:Rat->Rat->Bool)(xs ys:List Rat):(((dW f xs ys).zip (dW g xs ys)).map λp=>pV ps p.1 p.2)=dW (λx y=>kQ ps (f x y) (g x y)) xs ys:=by
 unfold dW
 rw[Ke,vj]
 refine kc λy _ => ?_
 show pV ps (R.ofL _) (R.ofL _)=_
 unfold pV
 show R.ofL (((xs.dropLast.map λx=>R.sg (f x y)).zip (xs.dropLast.map λx=>R.sg (g x y))).map λp=>R.sg (lX ps p))=_
 rw[Ke,vj]
 rfl
theorem aE6(A:Yd)(xs:List Rat)(y:Rat):tD A.K (xs.dropLast.map (ix A.ws)) (ix A.us y)=R.ofL (xs.dropLast.map λx=>R.sg (A.has x y)):=by
 unfold tD
 rw[vj];rfl
end Q
namespace U
open PySem
inductive Cmp(g:Rat->Rat):Rat->List Rat->List Rat->Prop
 |nil {v:Rat}{xs:List Rat} (hv:v=0) (h:∀x∈xs,g x=0):Cmp g v xs []
 |skip {v a:Rat}{r ws:List Rat} (e:g a=v) (h:Cmp g v r ws):Cmp g v (a::r) ws
 |keep {v a:Rat}{r ws:List Rat} (h:Cmp g (g a) r ws):Cmp g v (a::r) (a::ws)
end U
namespace Q
open PySem L2 Z U
theorem yO(q:Rat):q*(q.den:Rat)=(q.num:Rat):=by
 have h:=Rat.num_divInt_den q
 have hd:((q.den:Int):Rat)≠0:=by
  intro e
  have:=Qg.mp (e.trans (JP).symm)
  have:=q.den_nz;omega
 conv=>lhs;lhs;rw[<- h,fe]
 rw[<- yj,Rat.div_mul_cancel hd]
structure Fr(m B:Nat)(q:Rat):Prop where
 ex:∃k:Int,q*(m:Rat)=(k:Rat)/\k.natAbs<=B
theorem Fr.cross{m B:Nat}(h:Fr m B q):∃k:Int,q.num*(m:Int)=k*(q.den:Int)/\k.natAbs<=B:=by
 obtain⟨k,e,hk⟩:=h.ex
 refine⟨k,?_,hk⟩
 have h1:q*(q.den:Rat)=(q.num:Rat):=yO q
 have h2:((q.num*(m:Int):Int):Rat)=((k*(q.den:Int):Int):Rat):=by
  rw[yy,yy,yj,yj,<- h1,<- e]
  grind
 exact Qg.mp h2
theorem Fr.bd{m B:Nat}(h:Fr m B q)(hm:0<m):q.num.natAbs<=B/\q.den<=m:=by
 obtain⟨k,e,hk⟩:=h.cross
 have e':q.num.natAbs*m=k.natAbs*q.den:=by
  have:=congrArg Int.natAbs e
  rwa [Qq,Qq,zz,zz] at this
 have hd:q.den∣m:=by
  refine VY (k:=q.den) (m:=q.num.natAbs) (VX q.reduced) ?_
  rw[e'];exact Nat.dvd_mul_left _ _
 have hl:=QH hm hd
 refine⟨?_,hl⟩
 have:q.num.natAbs*m<=B*m:=by
  rw[e'];exact Nat.mul_le_mul hk hl
 exact Nat.le_of_mul_le_mul_right this hm
theorem Fr.int{m B:Nat}{x:Int}(h:x.natAbs*m<=B):Fr m B (x:Rat):=⟨x*m,by rw[yy,yj],by rw[Qq,zz];exact h⟩
noncomputable def FrL(m B:Nat)(ws:List Rat):Prop:=∀w∈ws,Fr m B w
noncomputable def sm:Nat:=10^60
theorem rO(u:Up ws):dS (.tup (aQ ws))=true:=by
 show ((aQ ws).all i4&&upP ((aQ ws).map toP))=true
 rw[qp]
 constructor
 ·rw[jy]
  intro d hd
  obtain⟨q,_,rfl⟩:=qw.mp hd
  refine o9.mpr ⟨_,rfl,by show (1:Int)<=(q.den:Int);have:=q.den_pos;omega,?_⟩
  have:=q.reduced
  rw[Int.gcd_eq_natAbs_gcd_natAbs]
  exact this
 ·have e:(aQ ws).map toP=ws.map pq:=by
   unfold aQ
   rw[vj];rfl
  rw[e]
  unfold upP
  rw[jy,zLm]
  intro i hi
  have hi':=ve.mp hi
  have a:∀j (hj:j<ws.length),(ws.map pq).getD j (0,1)=pq ws[j]:=λj hj=>by
   rw[zGd,qg,zGe hj];rfl
  rw[a i '!',a (i+1) '!',aAE]
  exact decide_eq_true ((U.n6 u '!' '!').mpr '!')
theorem aGW(A:Yd):nR (yd A)=true:=by
 rcases A.T.v with ⟨e,e1,e2⟩|⟨hK,t1,t2,g,l,ha,hb⟩
 ·unfold yd
  rw[e,vf.mp e1,vf.mp e2];exact zW
 ·have hkl:A.K.length=A.us.length-1:=by omega
  show yard3 (.tup (aQ A.ws)) (.tup (aQ A.us)) (.tup (A.K.map .str))=true
  rw[vR,rO A.uw,rO A.uu,vT,bJ,bJ,aBU hkl (λz hz=>(g z hz).1),uL g]
  have e:gI (aQ A.ws) (aQ A.us) A.K = .tup [.tup (aQ A.ws), .tup (aQ A.us), .tup (A.K.map .str)]:=by
   unfold gI
   have a1:l7 (aQ A.ws) (R.chg (R.aE A.K))=aQ A.ws:=by
    rw[t2,<- bJ];exact pK _ _
   have a2:l7 (aQ A.us) (R.chg A.K)=aQ A.us:=by
    rw[t1,<- bJ];exact pK _ _
   rw[a1,a2,aBM t1 t2 g hkl];rfl
  rw[e]
  exact eqD_refl 3 _ (nW A)
noncomputable def Sml(q:Rat):Prop:=q.num.natAbs<10^65/\q.den<10^65
theorem aHH{A:Yd}(hx:∀w∈A.ws,Sml w)(hy:∀w∈A.us,Sml w)(lx:A.ws.length<=90)(ly:A.us.length<=90):tameB 3 (yd A)=true:=by
 have t1:∀{ws:List Rat},(∀w∈ws,Sml w)->∀d∈aQ ws,tameB 1 d=true:=λh d hd=>by
  obtain⟨q,hq,rfl⟩:=qw.mp hd
  obtain⟨s1,s2⟩:=h q hq
  exact kZ (show _<=100 by simp) (two (by unfold tameB;exact decide_eq_true s1) (by unfold tameB;exact decide_eq_true (by show ((q.den:Int)).natAbs<_;rw[zz];exact s2)))
 refine kZ (show _<=100 by simp) λd hd => ?_
 simp only[qe,jh,or_false] at hd
 rcases hd with rfl|rfl|rfl
 ·exact kZ (by rw[bJ];omega) (t1 hx)
 ·exact kZ (by rw[bJ];omega) (t1 hy)
 ·exact kZ (by rw[zLm,A.wide.2];omega) λx hx=>by
   obtain⟨z,hz,rfl⟩:=qw.mp hx
   exact rX (by have:=A.wide.1 z hz;omega)
noncomputable def toQ(xs:List Int):List Rat:=xs.map λ(x:Int)=>(x:Rat)
theorem d9(xs:List Int):(toQ xs).length=xs.length:=zLm ..
theorem kA(h:xs.Pairwise (· < ·)):Up (toQ xs):=by
 unfold toQ Up
 rw[bh]
 exact h.imp λhxy=>bo.mpr hxy
noncomputable def fK(xs ys:List Int)(zs:List Str)(hx:xs.Pairwise (· < ·))(hy:ys.Pairwise (· < ·))(g:R.Good (xs.length-1) zs)(hz:zs.length=ys.length-1):Yd:=Yd.ofG (toQ xs) (toQ ys) zs (kA hx) (kA hy) (by rw[d9];exact g) (by rw[d9];exact hz)
theorem aD9{ys:List Int}(hx:xs.Pairwise (· < ·))(hy:ys.Pairwise (· < ·))(g:R.Good (xs.length-1) zs)(hz:zs.length=ys.length-1):gI (fJ xs) (fJ ys) zs=yd (fK xs ys zs hx hy g hz):=by
 rw[uQ,uQ]
 exact xH _ _ _ _
end Q
namespace U
open PySem
noncomputable def hit(s:Bool)(ws:List Rat)(dn up:Rat)(h:Int->Bool)(x:Rat):Prop:=∃u,x-up<=u/\u<=x+dn/\h (ix ws u)=s
open Classical in
noncomputable def gro(s:Bool)(ws:List Rat)(dn up:Rat)(h:Int->Bool)(x:Rat):Bool:=if hit s ws dn up h x then s else !s
noncomputable def zX(ws:List Rat)(dn:Rat):List Rat:=ws.map (· - dn)
noncomputable def aAA(ws:List Rat)(up:Rat):List Rat:=ws.map (· + up)
noncomputable def aAI(ws:List Rat)(dn up:Rat):List Rat:=aS (zX ws dn) (aAA ws up)
theorem aF8(u:Up ws)(dn:Rat):Up (zX ws dn):=by unfold zX Up;rw[bh];exact u.imp λh=>by grind
theorem aF7(u:Up ws)(up:Rat):Up (aAA ws up):=by unfold aAA Up;rw[bh];exact u.imp λh=>by grind
theorem xB(u:Up ws)(dn up:Rat):Up (aAI ws dn up):=b6 (aF8 u dn) (aF7 u up)
noncomputable def growS(s:Bool)(ws:List Rat)(dn up:Rat)(z:Str):Str:=R.ofL ((aAI ws dn up).dropLast.map λx=>R.sg (gro s ws dn up (λi=>R.aW [z] i 0) x))
noncomputable def groF(s:Bool)(A:Yd)(a b c d:Rat)(x y:Rat):Bool:=gro s A.us b d (λr=>gro s A.ws a c (λi=>R.aW A.K i r) x) y
structure Nn(a b c d:Rat):Prop where
 a:0<=a
 b:0<=b
 c:0<=c
 d:0<=d
noncomputable def Yd.grow(A:Yd)(s:Bool)(a b c d:Rat):Yd:=Yd.ofF (groF s A a b c d) (aAI A.ws a c) (aAI A.us b d) (xB A.uw a c) (xB A.uu b d)
structure Bx where
 w:Rat
 s:Rat
 e:Rat
 n:Rat
structure Bx.Ok(b:Bx):Prop where
 w:0<=b.w
 s:0<=b.s
 e:0<=b.e
 n:0<=b.n
noncomputable def Yd.cut(A:Yd)(b:Bx):Yd:=A.grow false b.e b.n b.w b.s
noncomputable def Yd.back(A:Yd)(b:Bx):Yd:=A.grow true b.w b.s b.e b.n
end U
namespace Z
open PySem L2
section
end
end Z
namespace Q
open PySem L2 Z U
structure Gr(ws:List Rat)(dn up:Rat):Prop where
 u:Up ws
 d0:0<=dn
 u0:0<=up
 b:BqL ws
 bd:Bq dn
 bu:Bq up
 lo:BqL (zX ws dn)
 hi:BqL (aAA ws up)
 len:ws.length<=90
noncomputable def bxP(p q r s:Int)(t:Rat):Bx:=⟨(p:Rat)*t,(q:Rat)*t,(r:Rat)*t,(s:Rat)*t⟩
structure CutOk(A:Yd)(p q r s:Int)(t:Rat):Prop where
 hp:p.natAbs<1000
 hq:q.natAbs<1000
 hr:r.natAbs<1000
 hs:s.natAbs<1000
 ht:Bq t
 xc:Gr A.ws (bxP p q r s t).e (bxP p q r s t).w
 yc:Gr A.us (bxP p q r s t).n (bxP p q r s t).s
 xb:Gr A.ws (bxP p q r s t).w (bxP p q r s t).e
 yb:Gr A.us (bxP p q r s t).s (bxP p q r s t).n
end Q
namespace Q
open PySem L2 Z U
theorem hB(A B:Yd)(x y:Rat):(Yd.op c9 A B).has x y=(A.has x y&&B.has x y):=Yd.op_has rfl A B x y
theorem hE(A B:Yd)(x y:Rat):(Yd.op cG A B).has x y=(A.has x y||B.has x y):=Yd.op_has rfl A B x y
theorem hL(A B:Yd)(x y:Rat):(Yd.op bY A B).has x y=(A.has x y && !B.has x y):=Yd.op_has rfl A B x y
theorem in1(A B:Yd):Yd.op bY (Yd.op c9 A B) A=Yd.void:=Yd.ext' λx y=>by rw[hL,hB,Yd.void_has];cases A.has x y <;> cases B.has x y <;> rfl
theorem nG{K:Fg}{A B:Yd}(e:A=B)(h:k (.bl false) M):Op2 K (q0 K 3 true) (yd A) (yd B) M k:=
 qA (e1:=yd A) (e2:=yd B) (.tup _) (.tup _) (nW _) (nW _) (by rw[aFJ,decide_eq_true e];exact h)
theorem aJE{K:Fg}{A:Yd}(e:A=Yd.void)(h:k (.bl false) M):Op2 K (q0 K 3 true) (yd A) (.tup [.tup [], .tup [], .tup []]) M k:=nG (B:=Yd.void) e h
structure Y8(A:Yd):Prop where
 x:FrL 6 100000000000 A.ws
 y:FrL 6 100000000000 A.us
 lx:A.ws.length<=7
 ly:A.us.length<=7
theorem fr8{w:Rat}(h:Fr 6 100000000000 w):Bq w/\Sml w:=by
 obtain⟨h1,h2⟩:=h.bd '*'
 exact⟨⟨jm h1 '*',jm h2 '*'⟩,jm h1 '*',jm h2 '*'⟩
structure S8(S:List Rat):Prop where
 len:S.length<=30
 fr:FrL 6 100000000000 S
theorem S8.bnd{S:List Rat}(h:S8 S):Bnd S:=⟨jf h.len '*',λw hw=>(fr8 (h.fr w hw)).1⟩
structure O8(Sx Sy:List Rat)(A:Yd):Prop where
 on:On Sx Sy A
 sx:S8 Sx
 sy:S8 Sy
theorem O8.op{A B:Yd}(a:O8 Sx Sy A)(b:O8 Sx Sy B)(p:Bool->Bool->Bool):O8 Sx Sy (Yd.op p A B):=⟨a.on.op b.on p,a.sx,a.sy⟩
theorem O8.set{A B:Yd}(a:O8 Sx Sy A)(b:O8 Sx Sy B):Bnd Sx/\Bnd Sy/\On Sx Sy A/\On Sx Sy B:=⟨a.sx.bnd,a.sy.bnd,a.on,b.on⟩
theorem O8.size{A:Yd}(a:O8 Sx Sy A):FrL 6 100000000000 A.ws/\FrL 6 100000000000 A.us/\A.ws.length<=90/\A.us.length<=90:=
 ⟨λw hw=>a.sx.fr w (a.on.x w hw),λw hw=>a.sy.fr w (a.on.y w hw),jf (k8 A.uw a.on.x) (jf a.sx.len '*'),jf (k8 A.uu a.on.y) (jf a.sy.len '*')⟩
theorem O8.tame{A:Yd}(a:O8 Sx Sy A):tameB 3 (yd A)=true:=by
 obtain⟨h1,h2,h3,h4⟩:=a.size
 exact aHH (λw hw=>(fr8 (h1 w hw)).2) (λw hw=>(fr8 (h2 w hw)).2) h3 h4
theorem S8.two{A B:Yd}(a:Y8 A)(b:Y8 B):S8 (A.ws++B.ws)/\S8 (A.us++B.us):=by
 have:=a.lx;have:=a.ly;have:=b.lx;have:=b.ly
 exact⟨⟨by rw[ja];lia,λw hw=>(jo.mp hw).elim (a.x w) (b.x w)⟩,⟨by rw[ja];lia,λw hw=>(jo.mp hw).elim (a.y w) (b.y w)⟩⟩
theorem aCY{A B:Yd}(a:Y8 A)(b:Y8 B):O8 (A.ws++B.ws) (A.us++B.us) A/\O8 (A.ws++B.ws) (A.us++B.us) B:=
 ⟨⟨⟨λw h=>jo.mpr (.inl h),λw h=>jo.mpr (.inl h)⟩,(S8.two a b).1,(S8.two a b).2⟩,⟨⟨λw h=>jo.mpr (.inr h),λw h=>jo.mpr (.inr h)⟩,(S8.two a b).1,(S8.two a b).2⟩⟩
theorem aBH{a:Int}{b:Nat}(h:q.num=a)(h':q.den=b):c8 q = .tup [.int a, .int (b:Int)]:=by unfold c8 pq pairD;rw[h,h']
theorem aEZ{ys:List Int}(ux:Up7 xs)(uy:Up7 ys)(g:R.Good (xs.length-1) zs)(hz:zs.length=ys.length-1):(∀w∈(fK xs ys zs ux.up uy.up g hz).ws,∃x∈xs,w=(x:Rat))/\(∀w∈(fK xs ys zs ux.up uy.up g hz).us,∃x∈ys,w=(x:Rat))/\(fK xs ys zs ux.up uy.up g hz).ws.length<=7/\(fK xs ys zs ux.up uy.up g hz).us.length<=7:=by
 obtain⟨h1,h2⟩:=Yd.ofG_ws (kA ux.up) (kA uy.up) (by rw[d9];exact g:R.Good ((toQ xs).length-1) zs) (by rw[d9];exact hz)
 have fx:=ux.few
 have fy:=uy.few
 refine⟨λw hw => ?_,λw hw => ?_,?_,?_⟩
 ·obtain⟨x,hx,rfl⟩:=qw.mp (h1 w hw);exact⟨x,hx,rfl⟩
 ·obtain⟨x,hx,rfl⟩:=qw.mp (h2 w hw);exact⟨x,hx,rfl⟩
 ·exact jf (k8 (fK xs ys zs ux.up uy.up g hz).uw h1) (by rw[d9];exact fx)
 ·exact jf (k8 (fK xs ys zs ux.up uy.up g hz).uu h2) (by rw[d9];exact fy)
theorem yD{x:Int}(h : -1000000000<=x/\x<=1000000000):Fr 6 100000000000 (x:Rat):=Fr.int '#'
theorem y8_d{ys:List Int}(ux:Up7 xs)(uy:Up7 ys)(g:R.Good (xs.length-1) zs)(hz:zs.length=ys.length-1):Y8 (fK xs ys zs ux.up uy.up g hz):=by
 obtain⟨h1,h2,h3,h4⟩:=aEZ ux uy g hz
 exact⟨λw hw=>by obtain⟨x,hx,rfl⟩:=h1 w hw;exact yD (ux.bd x hx),λw hw=>by obtain⟨x,hx,rfl⟩:=h2 w hw;exact yD (uy.bd x hx),h3,h4⟩
end Q
namespace Q
open PySem L2 Z U
end Q
namespace Q
open PySem L2 Z U
structure Pc(p:Int):Prop where
 a:1<=p
 b:p<=9
structure Tm(t:Rat):Prop where
 p:0<=t
 n:t.num.natAbs<=1000000000000
 d:t.den<=1000000
theorem aA2{a b:Int}(hb:0<b):Fr b.toNat a.natAbs (qt a b):=by
 have nb:((b:Int):Rat)≠0:=λe=>by have:=Qg.mp (e.trans JP.symm);lia
 refine⟨a,?_,qm _⟩
 have e:((b.toNat:Nat):Rat)=((b:Int):Rat):=by rw[<- yj,nk '#']
 rw[fe,e]
 grind
theorem aJN{a b:Int}(hb:0<b):(qt a b).num.natAbs<=a.natAbs/\((qt a b).den:Int)<=b:=by
 obtain⟨h1,h2⟩:=(aA2 (a:=a) hb).bd '#'
 exact⟨h1,by lia⟩
structure Yk(m B n:Nat)(A:Yd):Prop where
 x:FrL m B A.ws
 y:FrL m B A.us
 lx:A.ws.length<=n
 ly:A.us.length<=n
structure Mk(m:Nat)(t:Rat):Prop where
 m0:0<m
 m1:m<=100000000000000000000
 p:0<=t
 f:Fr m 100000000000000000000000000000000 t
structure Pp(p q r s:Int):Prop where
 p:Pc p
 q:Pc q
 r:Pc r
 s:Pc s
theorem aGU{i:Int}(h0:0<=i)(h:i<xs.length):∃x,xs[i.toNat]?=some x/\atI (xs.map D.int) i=some (.int x):=by
 obtain⟨j,rfl⟩:∃j:Nat,i=j:=⟨i.toNat,by lia⟩
 have hj:j<xs.length:=by lia
 exact⟨xs[j],by rw[ql];exact zGe hj,dA (by rw[qg,zGe hj];rfl)⟩
end Q
namespace U
open PySem
noncomputable def maxQ(a b:Rat):Rat:=if a<b then b else a
noncomputable def minQ(a b:Rat):Rat:=if b<a then b else a
noncomputable def tB(ws:List Rat)(x p q:Rat)(b:Nat):Rat:=
 if b=0 then (x-ws.getD 0 0)/p else if b<ws.length then maxQ ((x-ws.getD b 0)/p) ((ws.getD (b-1) 0-x)/q) else (ws.getD (b-1) 0-x)/q
theorem gD(h:i<ws.length):ws.getD i 0=ws[i]:=by rw[zGd,zGe h];rfl
noncomputable def aE7(tx:Nat->Rat)(ty:Rat)(out:Nat->Bool):Nat->Rat->Rat
 |0,t=>t
 |n+1,t=>if out n then minQ (aE7 tx ty out n t) (maxQ (tx n) ty) else aE7 tx ty out n t
noncomputable def hAll(tx ty:Nat->Rat)(out:Nat->Nat->Bool)(na:Nat):Nat->Rat->Rat
 |0,t=>t
 |m+1,t=>aE7 tx (ty m) (λa=>out a m) na (hAll tx ty out na m t)
structure Pz(p q r s:Rat):Prop where
 p:0<p
 q:0<q
 r:0<r
 s:0<s
noncomputable def hgt(A:Yd)(p q r s x y:Rat):Rat:=hAll (tB A.ws x p r) (tB A.us y q s) (λa b => !R.aW A.K ((a:Int)-1) ((b:Int)-1)) (A.ws.length+1) (A.us.length+1) (tB A.ws x p r 0)
structure IsH(A:Yd)(p q r s x y h:Rat):Prop where
 nn:0<=h
 i:∀t,0<t->(t<=h↔∀u v,x-p*t<u->u<x+r*t->y-q*t<v->v<y+s*t->A.has u v=true)
end U
namespace Q
open PySem L2 Z U
noncomputable def aBV:Ct:=λds M k=>∃(A:Yd) (v u:Rat),ds=[yd A,c8 v,c8 u]/\BqL A.ws/\BqL A.us/\A.ws.length<=100/\A.us.length<=100/\Bq v/\Bq u/\k (.str (uE (f9 A.K (bW A.ws v) (bW A.us u)))) M
structure Nm(m B:Nat):Prop where
 m0:0<m
 m1:m<=sm
 b:B<=sm
structure Dn(m B:Nat)(q:Rat):Prop where
 n:q.num.natAbs<=2*B
 d:q.den<=9*m
end Q
namespace Q
open PySem L2 Z U
structure Tm2(t:Rat):Prop where
 p:0<=t
 n:t.num.natAbs<=100000000000000000000
 d:t.den<=1000000000000
noncomputable def bot:Int:=200000000000000000000
structure Al(a b:Int):Prop where
 n:a.natAbs<=10^35
end Q
namespace HD
open PySem PySem.Spec PyProof.Rows L2 PySem.W
section
variable {E:Value->Shared->Prop}
theorem zC{kvs:List (Key×Value)}(hk:kvs.map (·.1)=ks.map yw){vs:List Value}(hl:vs.length=kvs.length)(h:∀(j:Nat) (v:Value),vs[j]?=some v->∃k x,kvs[j]?=some (k,x)/\(fR prog w).is k v=true):IntsAre vs ks:=by
 induction vs generalizing kvs ks with
 |nil =>
  cases kvs with
  |nil=>cases ks with
   |nil=>exact .nil
   |cons k ks=>cases hk
  |cons p r=>cases hl
 |cons v vs ih =>
  cases kvs with
  |nil=>cases hl
  |cons p r =>
   cases ks with
   |nil=>cases hk
   |cons k ks =>
    rw[vy,vy] at hk
    injection hk with h1 h2
    obtain⟨k',x,e,hi⟩:=h 0 v rfl
    cases e
    have h1':k'=yw k:=h1
    subst h1'
    rw[zO] at hi
    have hi':bb k v=true:=hi
    have:∃t,v=gb k t:=by
     cases v with
     |int i t=>exact⟨t,by unfold bb at hi';simp at hi';rw[hi']⟩
     |_=>simp[bb] at hi'
    obtain⟨t,rfl⟩:=this
    exact .cons k t (ih h2 (by simpa using hl) λj v hj=>h (j+1) v hj)
theorem wI{d:Addr}{kvs:List (Key×Value)}{Q:Value->Shared->Prop}(hh:A.handled=none)(lo:(d==dj)=false)(hm:s.heap.DictAt (fR prog w) d kvs ep)(hk:kvs.map (·.1)=ks.map yw)(hn:ks.length<64)(h:∀(h1 h2:Heap) (tk:Nat) (out:Array Value) (e:Nat) (ns':List Int),(∀b o,s.heap.get? b=some o->h1.get? b=some o)->(∀b o,h1.get? b=some o->h2.get? b=some o)->h2.get? h1.objs.size=some (pk "list" out e)->IntsAre out.toList ns'->ns'.Perm ks->ns'.Pairwise (· <= ·)->Q (.ref h1.objs.size) {s with heap:=h2,toks:=tk}):
  jd (jq prog w) A (call (.builtin "sorted") [.ref d]) Q E s:=by
 have hl:kvs.length=ks.length:=by have:=congrArg md hk;simpa using this
 have hz:kvs.length<=sizeLine:=jf '!' (show 64<=sizeLine by decide)
 refine Ql kind_sorted plain_sorted entry_sorted (args_sorted1 _) ?_
 unfold Builtin.«sorted»
 refine qa (m:=checkCount "sorted" 1 1 _) (wpAny_pure ?_)
 refine qa (kdu_collect (A:=A.in1) (kdl_dict (knd:=fR prog w) lo) hh hm hz λh' tk acc hkeep hacc => ?_)
 have hal:acc.toList.length=kvs.length:=by rw[qo];exact hacc.1
 have hI:IntsAre acc.toList ks:=zC hk hal λj v e=>hacc.2 j v (by rw[<- wu];exact e)
 refine qa (wpAny_newList ?_ (by rw[hal];exact hz))
 have hoL:(h'.push (pk "list" acc.toList.toArray 0)).get? h'.objs.size=some (pk "list" acc.toList.toArray 0):=qh _ rfl
 refine qa (vc (vg V2 ⟨_,hoL,rfl⟩ VR (V6 hoL hI '!' λout ns' a1 a2 a3=>⟨_,rfl,?_⟩) (Wb _)))
 obtain⟨e,he⟩:=sortedHeap_at (out:=out) hoL
 refine wpAny_pure ⟨_,rfl,h h' _ tk out e ns' hkeep (λb o hb => ?_) he a1 a2 a3⟩
 have hlt:=qi hb
 rw[V1 (qk hlt) (by rw[size_push'];exact wk hlt)]
 rw[qb _ hb]
end
end HD
namespace Z
open PySem L2
noncomputable def kvI(ks:List Int):List (Key×V):=ks.map λk=>(yw k,V.bl true)
noncomputable def kvW(ks:List Int):List (Key×Value):=ks.map λk=>(yw k,kh true)
noncomputable def kI(ks:List Int):HO := .dK (kvI ks)
noncomputable def iZ(ks:List Int)(k:Int):List Int:=if k∈ks then ks else ks++[k]
theorem pD(ks:List Int)(k:Int):(iZ ks k).length<=ks.length+1:=by unfold iZ;split <;> simp
theorem fD{k j:Int}:j∈iZ ks k↔j∈ks\/j=k:=by
 unfold iZ
 split
 ·constructor
  ·exact .inl
  ·rintro (h|rfl)
   ·exact h
   ·assumption
 ·simp
theorem zY:∀{ks:List Int}{vs:List (Key×Value)},KV (kvI ks) vs->vs=kvW ks
 |[],vs,h=>by cases h;rfl
 |k::ks,vs,h=>by
  cases h with
  |cons h1 h2 =>
   rename_i q qs
   obtain⟨a,b⟩:=h1
   have e:=zY (ks:=ks) h2
   obtain⟨q1,q2⟩:=q
   have a':yw k=q1:=a
   have b':q2=kh true:=b
   subst a' b' e
   rfl
theorem zJ:∀ks:List Int,KV (kvI ks) (kvW ks)
 |[] => .nil
 |k::ks => .cons ⟨rfl,rfl⟩ (zJ ks)
theorem aB8(ks:List Int)(k:Int):stored (kvW ks) (yw k) (kh true)=kvW (iZ ks k):=by
 unfold stored iZ
 by_cases h:k∈ks
 ·rw[if_pos h,if_pos (by rw[ym];exact⟨(yw k,kh true),qw.mpr ⟨k,h,rfl⟩,by simp⟩)]
  unfold kvW
  rw[vj]
  refine kc λj _ => ?_
  show (if yw j=yw k then _ else _)=_
  split <;> rfl
 ·rw[if_neg h,if_neg ?_]
  ·unfold kvW;rw[qj];rfl
  ·rw[ym]
   rintro⟨q,hq,e⟩
   obtain⟨j,hj,rfl⟩:=qw.mp hq
   have:(yw j:Key)=yw k:=by simpa using e
   injection this with this
   exact h (this▸hj)
section
variable {K:Fg}{p:Addr}
theorem Rel.newO(r:Rel K G H M)(h:H p=none)(o:HO):Stp K G H M G (upd H p o) (bZ M p (.ob o)):=by
 have hG:=(r.free h).1
 refine⟨Same.refl G,⟨λb u q => ?_,λa m q => ?_⟩,λa u e1 e2 e3 => ?_⟩
 ·rw[aU (bH q hG)];exact r.same b u q
 ·by_cases z:a=p
  ·subst z
   rw[aT] at q;cases q
   exact⟨hG,bF⟩
  ·rw[cL z] at q
   exact⟨(r.mem a m q).1,(r.mem a m q).2.mv (Same.refl G) (aU z)⟩
 ·have z:a≠p:=bH e1 h
  exact⟨by rw[aU z];exact e1,e2,by rw[cL z];exact e3⟩
theorem Rel.wrO{m:MO}(r:Rel K G H M)(h:M p=some m)(o:HO):Stp K G H M G (upd H p o) (bZ M p (.ob o)):=by
 have hG:=(r.mem p _ h).1
 refine⟨Same.refl G,⟨λb u q => ?_,λa m q => ?_⟩,λa u e1 e2 e3 => ?_⟩
 ·rw[aU (bH q hG)];exact r.same b u q
 ·by_cases z:a=p
  ·subst z
   rw[aT] at q;cases q
   exact⟨hG,bF⟩
  ·rw[cL z] at q
   exact⟨(r.mem a m q).1,(r.mem a m q).2.mv (Same.refl G) (aU z)⟩
 ·have z:a≠p:=λe=>by rw[e,h] at e3;cases e3
  exact⟨by rw[aU z];exact e1,e2,by rw[cL z];exact e3⟩
end
section
theorem aID(I:Inv X pins σ H s):Inv X pins σ (upd H s.heap.objs.size (kI [])) {s with heap:=s.heap.push {cls := .type "dict", data := .dict #[]} }:=by
 have hb:(s.heap.objs.size==dj)=false:=by
  have h:km<s.heap.objs.size:=(I.mod.glob.keeps I.bk).lt
  exact beq_eq_false_iff_ne.mpr (dc (qk (KY '*' h)))
 refine I.laid (a:=s.heap.objs.size) (t':=s.toks) (λ_ _ q=>qb _ q) (qm _) ?_
 exact⟨vw _,hb,[],zJ [],_,_,_,qh _ rfl,⟨rfl,rfl,rfl⟩,rfl,λe he=>by simp at he, .nil, .nil⟩
theorem aE8(h:∀a,M a=none->k (.mt a) (bZ M a (.ob (kI [])))):GE X (.Dict [] [] pos) Γ M k:=λσ G H Q en rl q pins s I=>by
 have hf:=I.hok.fresh (qm s.heap.objs.size)
 refine wpAny_Dict_empty ⟨.ref s.heap.objs.size,_,aID I,rfl,?_⟩
 exact q _ _ _ _ _ (rl.newO hf _) mQ (h _ (rl.free hf).2)
noncomputable def aK3:TSet:=λx y v H Q=>∃(a:Addr) (i:Int) (ks:List Int),x = .ref a/\y = .int i/\v = .bl true/\H a=some (kI ks)/\ks.length<sizeLine/\Q (upd H a (kI (iZ ks i)))
theorem aIS:PSet X aK3:=by
 intro pins s σ H o i v ov iv u Q I ro ri rv h
 obtain⟨a,i,ks,rfl,rfl,rfl,ha,hl,q⟩:=h
 cases (show ov=bp a from ro)
 obtain⟨t,rfl⟩:=ri
 cases (show u=kh true from rv)
 obtain⟨hz,hd,vs,kv,dd⟩:(kvI ks).length<=sizeLine/\(a==dj)=false/\∃vs,KV (kvI ks) vs/\s.heap.DictOf (fR X.prog X.w) a vs:=I.hok a _ ha
 rw[zY kv] at dd
 refine wpAny_setItem_pairs (wF _ _ i t) dd (λh' dd' hs' => ?_) (by unfold kvW;rw[zLm];omega)
 rw[aB8] at dd'
 have he:∃q,h'.get? a=some q:=let ⟨q,_,_,hq,_⟩:=dd';⟨q,hq⟩
 refine⟨_,I.write (x:=a) (e:=a) (by rw[ha];exact gp) (.inl rfl) (λb q hb z=>(hs'.2 b hb).trans z) he ?_,q⟩
 exact⟨by unfold kvI;rw[zLm];have:=pD ks i;omega,hd,kvW (iZ ks i),zJ _,dd'⟩
theorem yJ{i:Expr}(h:GE X o Γ M λd1 M1=>GE X i Γ M1 λd2 M2=>∃a n ks,d1 = .mt a/\d2 = .int n/\M2 a=some (.ob (kI ks))/\ks.length<sizeLine/\kg Γ (bZ M2 a (.ob (kI (iZ ks n)))))(ha:∀v,assign (.Subscript o i pos) X.env v=(do
   let ov <- cv [v] (eval o X.env)
   let iv <- cv [v,ov] (eval i X.env)
   QD pos
   cv [v,ov,iv] (VL ov iv v)
   release [v,ov,iv] []):=by intro _;rfl):GG X (.Subscript o i pos) (.bl true) Γ M kg:=λσ G H v Q en rl e q=>by
 refine nJ (aC0 pU pU aIS ha) ?_
 refine h σ G H _ en rl λv1 G1 H1 d1 M1 s1 e1 h1 => ?_
 refine h1 σ G1 H1 _ (en.up s1.gg) s1.rel λv2 G2 H2 d2 M2 s2 e2 ⟨a,n,ks,x1,x2,hm,hl,h2⟩ => ?_
 subst x1 x2
 have s12:=s1.trans s2
 refine⟨a,n,ks,(e1.up s2.gg).mt_,e2.int_,e.bl_,(s2.rel.mem _ _ hm).2,hl,?_⟩
 exact q _ _ _ _ _ (s12.trans (s2.rel.wrO hm _)) (en.up s12.gg) h2
noncomputable def aBJ:List V->Hp->VK->Prop:=λxs H Q=>∃(a:Addr) (ks:List Int),xs=[.ref a]/\H a=some (kI ks)/\ks.length<64/\∀(l:Addr) (ns:List Int),H l=none->ns.Perm ks->ns.Pairwise (· <= ·)->Q (.ref l) (upd H l (.lst (ns.map V.int)))
theorem hW:∀{vs:List Value}{ns:List Int},VB vs ns->Vals (ns.map V.int) vs
 |_,_, .nil => .nil
 |_,_, .cons n t h => .cons ⟨t,rfl⟩ (hW h)
theorem vA(hh:X.A.handled=none):eF X (.builtin "sorted") aBJ:=by
 intro pins s σ H xs us Q I r h
 obtain⟨a,ks,rfl,ha,hn,q⟩:=h
 obtain⟨u,rfl,rx⟩:=vals1 r
 cases rx
 obtain⟨hz,hd,vs,kv,dd⟩:(kvI ks).length<=sizeLine/\(a==dj)=false/\∃vs,KV (kvI ks) vs/\s.heap.DictOf (fR X.prog X.w) a vs:=I.hok a _ ha
 rw[zY kv] at dd
 obtain⟨ob,es,ep,h1,h2,h3,h4,h5,h6⟩:=dd
 refine HD.wI (ep:=ep) hh hd ⟨ob,es,h1,h2,h3,h4,h5,h6⟩ (ks:=ks) (by unfold kvW;rw[vj];rfl) hn λg1 g2 tk out e ns k1 k2 ho hi hp hs => ?_
 have I1:Inv X pins σ H {s with heap:=g1,toks:=tk}:=I.kept k1
 have hf:=I1.hok.fresh (qm g1.objs.size)
 refine⟨.ref g1.objs.size,_,I1.laid (t':=tk) k2 (qm _) (show dX X.prog X.w _ g2 _ (.lst (ns.map V.int)) from ⟨?_,out.toList,e,hW hi,?_⟩),rfl,q _ ns hf hp hs⟩
 ·rw[zLm,hp.length_eq];exact jf '!' (show 64<=sizeLine by decide)
 ·rw[ho]
theorem zK{K:Fg}(hm:M a=some (.ob (kI ks)))(hn:ks.length<64)(h:∀ns:List Int,ns.Perm ks->ns.Pairwise (· <= ·)->k (.lst (ns.map .int)) M):OpN K aBJ [.mt a] M k:=λG H vs Q rl e q=>by
 obtain⟨u,rfl,du⟩:=dens1 e
 rw[du.mt_]
 refine⟨a,ks,rfl,(rl.mem _ _ hm).2,hn,λl ns hl hp hs => ?_⟩
 have st:=rl.new (o := .lst (ns.map V.int)) hl
 exact q _ _ _ _ _ st (fN bF (Dens.of_map (λ_=>dB) ns)) (h ns hp hs)
end
end Z
namespace Q
open PySem L2 Z U
theorem aFN{ns:List Int}(hp:ns.Perm ks)(hs:ns.Pairwise (· <= ·))(hn:ks.Nodup):ns.Pairwise (· < ·):=by
 have hn':ns.Nodup:=hp.nodup_iff.mpr hn
 have:=List.pairwise_and_iff.mpr ⟨hs,hn'⟩
 exact this.imp λh=>by obtain⟨a,b⟩:=h;lia
theorem xU(h:ks.Nodup)(k:Int):(iZ ks k).Nodup:=by
 unfold iZ
 split
 ·exact h
 ·rename_i hk
  rw[Jo]
  exact⟨h,by simp,λa ha b hb e=>by rw[ji] at hb;subst hb;subst e;exact hk ha⟩
theorem wW{a b:Int}(ha:a∈l)(hb:b∈l)(h:a≠b):2<=l.length:=by
 match l,ha,hb with
 |[x],ha,hb=>rw[ji] at ha hb;exact absurd (ha.trans hb.symm) h
 |x::y::r,_,_=>simp
theorem BSorted:jv "sorted" = some (.builtin "sorted"):=by decide +kernel
end Q
namespace PySem
open Builtin
section
variable {E:Value->Shared->Prop}{z TI TO i1 i2:Addr}{fp1 fp2:List Addr}{n1 n2 k:Nat}{P1 P2:Nat->Value->Prop}{S1 S2:Nat->Heap->Prop}{a b:Value}
end
end PySem
namespace L2
open PySem PySem.Spec PyProof.Rows
section
end
end L2
namespace Z
open PySem L2
section
variable {a:Expr}{rest:List Expr}
end
end Z
namespace Q
open PySem L2 Z U
noncomputable def mids:List Int->List Int
 |a::b::r=>(a+b)::mids (b::r)
 |_=>[]
theorem xT:∀{b:Int}{r:List Int},(b::r).Pairwise (· < ·)->∀m∈mids (b::r),2*b<m
 |b,[],_,m,hm=>by unfold mids at hm;cases hm
 |b,c::r,h,m,hm=>by
  obtain⟨h1,h2⟩:=qz.mp h
  have hbc:=h1 c '$'
  rw[mids] at hm
  rcases qe.mp hm with rfl|hm
  ·lia
  ·have:=xT h2 m hm;lia
theorem mF:∀{l:List Int},l.Pairwise (· < ·)->∀m∈mids l,∀k∈l,2*k≠m
 |[],_,m,hm,k,hk=>by cases hk
 |[a],_,m,hm,k,hk=>by unfold mids at hm;cases hm
 |a::b::r,h,m,hm,k,hk=>by
  obtain⟨h1,h2⟩:=qz.mp h
  have hab:=h1 b '$'
  rw[mids] at hm
  rcases qe.mp hm with rfl|hm'
  ·rcases qe.mp hk with rfl|hk
   ·lia
   ·rcases qe.mp hk with rfl|hk
    ·lia
    ·have:=(qz.mp h2).1 k hk;lia
  ·rcases qe.mp hk with rfl|hk
   ·have:=xT h2 m hm';lia
   ·exact mF h2 m hm' k hk
theorem yF{B:Int}:∀{l:List Int},(∀k∈l, -B<=k/\k<=B)->∀m∈mids l, -(2*B)<=m/\m<=2*B
 |[],h,m,hm=>by unfold mids at hm;cases hm
 |[a],h,m,hm=>by unfold mids at hm;cases hm
 |a::b::r,h,m,hm=>by
  rw[mids] at hm
  rcases qe.mp hm with rfl|hm
  ·have:=h a '$';have:=h b '$';lia
  ·exact yF (λk hk=>h k (ke _ hk)) m hm
theorem vD:∀l:List Int,(mids l).length=l.length-1
 |[]=>rfl
 |[a]=>rfl
 |a::b::r=>by rw[mids,jb,vD (b::r)];simp
theorem pC:∀{l:List Int}{i:Nat}{a b:Int},l[i]?=some a->l[i+1]?=some b->(mids l)[i]?=some (a+b)
 |[],i,a,b,h,_=>by simp at h
 |[c],i,a,b,_,h=>by simp at h
 |c::d::r,0,a,b,h,g=>by
  simp at h g
  rw[mids,h,g];rfl
 |c::d::r,i+1,a,b,h,g=>by
  rw[mids,zv]
  exact pC (l:=d::r) (by simpa using h) (by simpa using g)
structure MidOf(xs vs:List Int)(t:Rat)(m:Int):Prop where
 off:∀x∈xs,∀v∈vs,2*(x*(t.den:Int)+v*t.num)≠m
 bd : -10000000000000000<=m/\m<=10000000000000000
theorem aAW(t:Rat):(0:Rat)<((2*(t.den:Int):Int):Rat):=Rat.intCast_pos.mpr (by have:=t.den_pos;lia)
theorem aFC(t:Rat):((t.den:Int):Rat)=(t.den:Rat):=yj _
theorem xJ(t:Rat)(x v:Int):((x:Rat)+(v:Rat)*t)*((2*(t.den:Int):Int):Rat)=((x*(2*(t.den:Int))+v*(2*t.num):Int):Rat):=by
 have e:=yO t
 rw[Rat.intCast_add,yy x,yy v,yy 2 t.num,yy 2 (t.den:Int),aFC]
 generalize (t.den:Rat)=d at *
 rw[<- e]
 grind
theorem aII{t:Rat}{x v:Int}:qt m (2*(t.den:Int))<(x:Rat)+(v:Rat)*t↔m<x*(2*(t.den:Int))+v*(2*t.num):=by
 rw[fe,Rat.div_lt_iff (aAW t),xJ,bo]
theorem aJJ{t:Rat}{x v:Int}:(x:Rat)+(v:Rat)*t<qt m (2*(t.den:Int))↔x*(2*(t.den:Int))+v*(2*t.num)<m:=by
 rw[fe,Rat.lt_div_iff (aAW t),xJ,bo]
theorem aIU{t:Rat}(ht:Tm t)(h : -10000000000000000<=m/\m<=10000000000000000):Bq (qt m (2*(t.den:Int))):=by
 have hd:=ht.d
 have hp:=t.den_pos
 obtain⟨h1,h2⟩:=aJN (a:=m) (b:=2*(t.den:Int)) '#'
 exact⟨jm (show _<=10000000000000000 by lia) (by decide +kernel),jm (show _<=2000000 by lia) (by decide +kernel)⟩
theorem aGV{A:Yd}{x y:Rat}(hx:x∉A.ws)(hy:y∉A.us):uE (f9 A.K (bW A.ws x) (bW A.us y))=if A.has x y=true then ("in" : Str) else "out" := by
 rw[nF hx,nF hy]
 show uE [R.aW A.K (ix A.ws x) (ix A.us y)]=_
 show _=if R.aW A.K (ix A.ws x) (ix A.us y)=true then _ else _
 cases R.aW A.K (ix A.ws x) (ix A.us y) <;> rfl
theorem aGO(h:i<(toQ xs).length):(toQ xs)[i]=((xs.getD i 0:Int):Rat):=by
 unfold toQ at h ⊢
 rw[zLm] at h
 rw[rn,zGd,zGe h];rfl
theorem qX(u:xs.Pairwise (· < ·)){k:Nat}(hk:k+1<xs.length):ix (toQ xs) q=(k:Int)↔((xs.getD k 0:Int):Rat)<=q/\q<((xs.getD (k+1) 0:Int):Rat):=by
 have uq:=kA u
 have l:=d9 xs
 have a1:=fL (x:=q) uq (i:=k) '#'
 have a2:=fL (x:=q) uq (i:=k+1) '#'
 rw[aGO] at a1 a2
 constructor
 ·intro e
  rw[e] at a1 a2
  exact⟨a1.mpr '#',Rat.not_le.mp λz=>by have:=a2.mp z;lia⟩
 ·rintro⟨h1,h2⟩
  have b1:=a1.mp h1
  have b2:¬((k+1:Nat):Int)<=ix (toQ xs) q:=λz=>by have:=a2.mpr z;grind
  lia
theorem sC{ys:List Int}(hx:xs.Pairwise (· < ·))(hy:ys.Pairwise (· < ·))(g:R.Good (xs.length-1) zs)(hz:zs.length=ys.length-1)(x y:Rat):(fK xs ys zs hx hy g hz).has x y=R.aW zs (ix (toQ xs) x) (ix (toQ ys) y):=Yd.ofG_has _ _ _ _ x y
theorem aEE(g:R.Good n zs){a u:Int}(h:R.aW zs a u=true):0<=a/\a<n/\0<=u/\u<zs.length:=by
 obtain⟨h1,h2,z,hz,hc⟩:=R.pF.mp h
 have q1:=(zGs hz).1
 have q2:=(zGs hc).1
 have q3:=(g z (zMo hz)).1
 rw[qo] at q2
 have q4:z.cps.size=z.length:=rfl
 exact⟨h2,by lia,h1,by lia⟩
theorem aHA(u:xs.Pairwise (· < ·)){k:Nat}(h:k+1<xs.length):((xs.getD k 0:Int):Rat)<((xs.getD (k+1) 0:Int):Rat):=by
 rw[bo,zGd,zGd,zGe h,zGe '#']
 exact kd.mp u k (k+1) '#' h '#'
theorem aAZ{k:Nat}(h:k<xs.length):xs.getD k 0∈xs:=by
 rw[zGd,zGe h];exact jl h
theorem aEA{ys:List Int}(hx:xs.Pairwise (· < ·))(hy:ys.Pairwise (· < ·))(g:R.Good (xs.length-1) zs)(hz:zs.length=ys.length-1):(∀w∈(fK xs ys zs hx hy g hz).ws,w∈toQ xs)/\∀w∈(fK xs ys zs hx hy g hz).us,w∈toQ ys:=Yd.ofG_ws _ _ _ _
theorem jS{k:Nat}(h:k<xs.length):atI (xs.map D.int) (k:Int)=some (.int (xs.getD k 0)):=dA (by
 rw[qg,zGd,zGe h];rfl)
theorem aA6{z:Str}(h:zs[j]?=some z):atI (zs.map D.str) (j:Int)=some (.str z):=dA (by rw[qg,h];rfl)
theorem aEP(b:Bool):atI [D.str "out", .str "in"] (if b then 1 else 0)=some (.str (if b=true then "in" else "out")):=by cases b <;> rfl
end Q
namespace HS
open PySem PySem.Spec PyProof.Rows
noncomputable def Ris(xs:Array Nat):Prop:=xs.toList.Pairwise (· < ·)
theorem Ris.at{xs:Array Nat}(h:Ris xs){k:Nat}(hik:i<=k)(hk:k<xs.size):xs.getD i j<=xs.getD k j:=by
 have hi:i<xs.size:=by omega
 rw[jc,jc,qv hi,qv hk]
 show xs[i]<=xs[k]
 rcases Nat.eq_or_lt_of_le hik with e|e
 ·subst e;exact qm _
 ·have:=kd.mp h i k (by simpa using hi) (by simpa using hk) e
  simpa using gq this
noncomputable def Bel(xs:Array Nat)(j r:Nat):Prop:=r<=xs.size/\(∀i,i<r->xs.getD i j<j)/\∀i,r<=i->i<xs.size->j<=xs.getD i j
theorem vG{xs:Array Nat}(h:Ris xs):∀fuel lo hi,hi<=xs.size->lo<=hi->hi-lo<=fuel->(∀i,i<lo->xs.getD i j<j)->(∀i,hi<=i->i<xs.size->j<=xs.getD i j)->Bel xs j (Qb xs j fuel lo hi)
 |0,lo,hi,h1,h2,h3,h4,h5=>by
  have:lo=hi:=by omega
  subst this
  exact⟨h1,h4,h5⟩
 |fuel+1,lo,hi,h1,h2,h3,h4,h5=>by
  unfold Qb
  by_cases hl:lo<hi
  ·rw[if_pos hl]
   dsimp only
   have hm:(lo+hi)/2<hi:=by omega
   have hm':lo<=(lo+hi)/2:=by omega
   by_cases hc:xs.getD ((lo+hi)/2) j<j
   ·rw[if_pos hc]
    refine vG h fuel _ _ h1 '!' '!' (λi hi' => ?_) h5
    exact jm (h.at '!' '!') hc
   ·rw[if_neg hc]
    refine vG h fuel _ _ '!' hm' '!' h4 λi hi' hs => ?_
    exact jf (fk hc) (h.at hi' hs)
  ·rw[if_neg hl]
   have:lo=hi:=by omega
   subst this
   exact⟨h1,h4,h5⟩
theorem nD{xs:Array Nat}(h:Ris xs):Bel xs j (xj xs j):=
 vG h _ _ _ (qm _) (vw _) '!' (λi hi=>absurd hi (zx _)) λi h1 h2=>absurd h1 '!'
theorem below_at{xs:Array Nat}(h:Ris xs)(hm:j∈xs.toList):xs[xj xs j]?=some j:=by
 obtain⟨b1,b2,b3⟩:=nD (j:=j) h
 obtain⟨i,hi,e⟩:=lj.mp hm
 have hi':i<xs.size:=by simpa using hi
 have ej:xs.getD i j=j:=by rw[jc,qv hi'];simpa using e
 have h1:xj xs j<=i:=fk λz=>by have:=b2 i z;omega
 have h2:=b3 _ (qm _) (jm h1 hi')
 have h3:=h.at (j:=j) h1 hi'
 have hlt:=jm h1 hi'
 rw[qv hlt]
 rw[jc,qv hlt] at h2 h3
 rw[ej] at h3
 exact congrArg some (Nat.le_antisymm h3 h2)
theorem aG5{xs:Array Nat}(h:Ris xs)(hm:j∉xs.toList):Ris (SetTable.insertAt xs (xj xs j) j):=by
 obtain⟨b1,b2,b3⟩:=nD (j:=j) h
 unfold Ris
 rw[SetTable.toList_insertAt]
 have gd:∀i (hi:i<xs.toList.length),xs.getD i j=xs.toList[i]:=λi hi=>by
  have hi':i<xs.size:=by simpa using hi
  rw[jc,qv hi'];simp
 have lo:∀a∈xs.toList.take (xj xs j),a<j:=λa ha=>by
  obtain⟨i,hi,e⟩:=lj.mp ha
  rw[xw] at hi
  have:=b2 i '!'
  rw[gd i '!'] at this
  rw[List.getElem_take] at e
  omega
 have hi:∀a∈xs.toList.drop (xj xs j),j<a:=λa ha=>by
  obtain⟨i,hi,e⟩:=lj.mp ha
  rw[yl] at hi
  have:=b3 (xj xs j+i) (sr _ _) (by rw[<- qo];omega)
  rw[gd _ '!'] at this
  rw[List.getElem_drop] at e
  have hne:a≠j:=λz=>hm (z▸List.mem_of_mem_drop ha)
  omega
 rw[y8]
 refine⟨h.sublist (ra _ _),qz.mpr ⟨hi,h.sublist (List.drop_sublist _ _)⟩,λa ha b hb => ?_⟩
 rcases qe.mp hb with rfl|hb
 ·exact lo a ha
 ·exact KY (lo a ha) (hi b hb)
theorem uS{t:SetTable}(h:Ris t.place)(hs:∀i,t.slot j ≠ .live i):j∉t.place.toList:=λhm=>by
 refine hs (xj t.place j) ?_
 unfold SetTable.slot
 rw[if_pos (by rw[below_at h hm];simp)]
theorem mB{t:SetTable}{ha:Nat->Int}{hh:Int}(h:Ris t.place):∀fuel p j dm,(∀d,p.dummy=some d->d∉t.place.toList)->fm t ha hh fuel p=some (.empty j dm)->j∉t.place.toList/\∀d,dm=some d->d∉t.place.toList
 |0,p,j,dm,hp,e=>by unfold fm at e;cases e
 |fuel+1,p,j,dm,hp,e=>by
  unfold fm at e
  have adv:∀q:SetTable.Probe,(t.advance q).dummy=q.dummy:=λq=>by
   unfold SetTable.advance
   split <;> rfl
  cases hs:t.slot p.j with
  |empty =>
   rw[hs] at e
   simp only[cn,Jt] at e
   obtain⟨rfl,rfl⟩:=e
   exact⟨uS h (λi=>by rw[hs];exact λz=>nomatch z),hp⟩
  |dummy =>
   rw[hs] at e
   refine mB h fuel _ j dm (λd hd => ?_) e
   rw[adv] at hd
   simp only[cn] at hd
   subst hd
   exact uS h λi=>by rw[hs];exact λz=>nomatch z
  |live i =>
   rw[hs] at e
   dsimp only at e
   split at e
   ·cases e
   ·refine mB h fuel _ j dm (λd hd=>hp d (by rw[adv] at hd;exact hd)) e
theorem aEK{t:SetTable}{hh:Int}{wd:Bool}(h:Ris t.place)(e:t.freeSlot hh=some (j,wd)):j∉t.place.toList:=by
 unfold SetTable.freeSlot at e
 split at e
 ·rename_i j' dm hp
  unfold SetTable.probe at hp
  obtain⟨h1,h2⟩:=mB h _ _ _ _ (λd hd=>by unfold SetTable.probeStart at hd;cases hd) hp
  simp only[cn,JE] at e
  obtain⟨rfl,_⟩:=e
  cases dm with
  |none=>exact h1
  |some d=>exact h2 d rfl
 ·cases e
noncomputable def dR(b:Bool)(t:SetTable):Prop:=t.led=b/\Ris t.place
theorem aCD(n:Nat):Ris (Array.range n):=by unfold Ris;rw[Array.toList_range];exact fu
theorem dR.stand{b:Bool}{t:SetTable}(h:dR b t)(n:Nat):dR b (t.standIn n):=⟨h.1,aCD n⟩
theorem dR.off{b:Bool}{t:SetTable}(h:dR b t)(c:Bool):dR b {t with plain:=c}:=h
theorem dR.lay{b:Bool}{t:SetTable}(h:dR b t)(es:Array (Int×Value))(hh:Int)(x:Value):dR b (layNew t es hh x).2.1:=by
 unfold layNew
 split
 ·rename_i slot wd e
  have h1:dR b (t.put slot).1:=⟨h.1,aG5 h.2 (aEK h.2 e)⟩
  show dR b ((t.put slot).1.orStandIn _)
  unfold SetTable.orStandIn
  split
  ·exact h1
  ·exact h1.stand _
 ·exact h.stand _
theorem dR.relay{b:Bool}{t:SetTable}(h:dR b t)(es:Array (Int×Value))(n:Nat):dR b (gn t es n).2.1:=by
 unfold gn
 split
 ·rename_i t' order e
  dsimp only
  split
  ·unfold SetTable.relaid SetTable.laid at e
   simp only[Option.bind_eq_bind,zk,Option.pure_def,cn,JE] at e
   obtain⟨ow,_,rfl,_⟩:=e
   refine⟨h.1,?_⟩
   unfold Ris
   show List.Pairwise _ (Q5 _ _)
   rw[bh,List.pairwise_filterMap]
   refine fu.imp λ{a a'} hl p hp p' hp' => ?_
   simp only[z8] at hp hp'
   obtain⟨_,_,rfl⟩:=hp
   obtain⟨_,_,rfl⟩:=hp'
   exact hl
  ·exact h.stand _
 ·exact h.stand _
end HS
namespace HS
open PySem PySem.Spec PyProof.Rows
section
variable {E:Value->Shared->Prop}
noncomputable def fU(prog:Program)(w:World)(h:Heap)(a:Addr)(S:Int->Bool)(n:Nat)(b:Bool):Prop:=
 ∃o es ep t,h.get? a=some o/\o.ExactSet/\o.data = .set es ep t/\ElemsOf (za prog w) es.toList/\(∀k,S k=true↔∃e∈es.toList,(za prog w).is k e.2=true)/\es.size<scanBound/\t.fits es.size=true/\es.size=n/\dR b t
theorem fU.of{S S':Int->Bool}{n':Nat}{b:Bool}(x:fU prog w h a S n b)(e:∀k,S k=S' k)(en:n=n'):fU prog w h a S' n' b:=by
 have:S=S':=funext e
 subst this en;exact x
theorem fU.keep{S:Int->Bool}{b:Bool}(x:fU prog w h a S n b)(k:∀o,h.get? a=some o->h'.get? a=some o):fU prog w h' a S n b:=by
 obtain⟨o,es,ep,t,ho,r⟩:=x
 exact⟨o,es,ep,t,k _ ho,r⟩
theorem stored{o:Obj}{es:Array (Int×Value)}{t:SetTable}(ho:h.get? a=some o)(hex:o.ExactSet)(hd:o.data = .set es ep t){es':Array (Int×Value)}{t':SetTable}{S:Int->Bool}{b:Bool}(hel:ElemsOf (za prog w) es'.toList)(hm:∀k,S k=true↔∃e∈es'.toList,(za prog w).is k e.2=true)(hb:es'.size<scanBound)(hf:t'.fits es'.size=true)(tb:dR b t'):
  (∃o1,(h.update a (JB es' t')).get? a=some o1/\o1.ExactSet/\o1.data = .set es' (ep+1) t')/\fU prog w (h.update a (JB es' t')) a S es'.size b:=by
 obtain⟨g,_⟩:=SetOf_store (knd:=za prog w) ho hex hd hel hm hb hf
 exact⟨⟨_,g,hex,rfl⟩,_,es',ep+1,t',g,hex,rfl,hel,hm,hb,hf,rfl,tb⟩
theorem aKE{S:Int->Bool}{b:Bool}{k:Int}{x:Value}{Q:Bool->Shared->Prop}(hkey:(za prog w).is k x=true)(hsc:x.scannable=true)(hS:fU prog w s.heap a S n b)(hroom:n+1<scanBound)(h:∀h',dh a s.heap h'->fU prog w h' a (λk'=>S k'||decide (k'=k)) (if S k then n else n+1) b->Q (!S k) {s with heap:=h' }):
  jd (jq prog w) A (setAddHashed a x ((za prog w).hash k)) Q E s:=by
 obtain⟨o,es,ep,t,ho,hex,hd,hel,hm,hb,hf,rfl,tb⟩:=hS
 unfold setAddHashed V4
 refine vc (qa (ze ho hd hf ?_))
 dsimp only
 rw[byScan_of hsc hb hel,if_pos rfl]
 unfold setAddByScan
 refine qa (qa (nt (qa (wpAny_setScan_of hkey ho hd hf hel ?_))))
 have full:∀k',(S k'||decide (k'=k))=true↔S k'=true\/k'=k:=λk'=>by rw[zq,decide_eq_true_eq]
 cases hr:es.toList.findIdx? (λe=>(za prog w).is k e.2) with
 |some j =>
  obtain⟨hj,hp,_⟩:=List.findIdx?_eq_some_iff_getElem.mp hr
  have hk:S k=true:=(hm k).mpr ⟨_,jl hj,hp⟩
  have z:=h s.heap (VC a s.heap) ⟨o,es,ep,t,ho,hex,hd,hel,λk'=>by
   rw[full,<- hm k'];exact⟨λq=>q.elim id λe=>e▸hk, .inl⟩,hb,hf,by rw[if_pos hk],tb⟩
  rw[hk] at z
  exact wpAny_pure (wpAny_pure z)
 |none =>
  have hk:S k=false:=fc.mpr λq=>by
   obtain⟨e,he,hp⟩:=(hm k).mp q
   have:=List.findIdx?_eq_none_iff.mp hr e he
   rw[hp] at this;cases this
  have p1:=layNew_perm t es ((za prog w).hash k) x
  have f1:=layNew_fits t es ((za prog w).hash k) x
  have t1:=tb.lay es ((za prog w).hash k) x
  dsimp only
  generalize layNew t es ((za prog w).hash k) x=L at p1 f1 t1 ⊢
  obtain⟨es1,tt,wd,gv⟩:=L
  dsimp only at p1 f1 t1 ⊢
  rw[Jk] at p1
  have hel1:=(hel.push hkey hsc).perm p1
  have hm1:∀k',(S k'||decide (k'=k))=true↔∃e∈es1.toList,(za prog w).is k' e.2=true:=mem_push_iff hkey hm p1
  have z1:es1.size=es.size+1:=by rw[<- qo,p1.length_eq,ja,qo];rfl
  have b1:es1.size<scanBound:=by omega
  have gw:∀(c:Bool) {s':Shared}{Q':Unit->Shared->Prop},Q' () s'->jd (jq prog w) A (match c with|true=>rule "set.scan.the-table-gave-way" |false=>pure ()) Q' E s':=λc s' Q' q=>by
   cases c
   ·exact wpAny_pure q
   ·exact nt q
  have fin:∀h',dh a s.heap h'->fU prog w h' a (λk'=>S k'||decide (k'=k)) es1.size b->Q true {s with heap:=h' }:=λh' sb q=>by
   have:=h h' sb
   rw[hk] at this
   exact this (q.of (λ_=>rfl) (by rw[z1];rfl))
  refine qa (gw _ ?_)
  have tail:∀t2:SetTable,t2.fits es1.size=true->dR b t2->jd (jq prog w) A (do
    J5 a es1 t2
    if (!wd&&t2.tooFull)=true then do
      (match (gn t2 es1 (xi es1.size)).2.2 with|true=>rule "set.scan.the-table-gave-way" |false=>pure ())
      J5 a (gn t2 es1 (xi es1.size)).1 (gn t2 es1 (xi es1.size)).2.1
      pure (some true)
     else pure (some true)) (λr s'=>r=some true/\Q true s') E s:=λt2 f2 tb2=>by
   refine qa (Kr ho hd ?_ (Kw b1))
   obtain⟨⟨o1,g1,x1,d1⟩,r1⟩:=stored (prog:=prog) (w:=w) ho hex hd hel1 hm1 b1 f2 tb2
   have sb1:=w8 s.heap a (JB es1 t2)
   split
   ·have p2:=relayAll_perm t2 es1 (xi es1.size)
    have f3:=relayAll_fits t2 es1 (xi es1.size)
    have t3:=tb2.relay es1 (xi es1.size)
    generalize gn t2 es1 (xi es1.size)=Rl at p2 f3 t3 ⊢
    obtain⟨es2,t4,gv2⟩:=Rl
    dsimp only at p2 f3 t3 ⊢
    have z2:es2.size=es1.size:=by rw[<- qo,p2.length_eq,qo]
    refine qa (gw _ ?_)
    refine qa (Kr g1 d1 ?_ (Kw '!'))
    obtain⟨_,r2⟩:=stored (prog:=prog) (w:=w) g1 x1 d1 (S:=λk'=>S k'||decide (k'=k)) (hel1.perm p2) (λk'=>(hm1 k').trans ⟨λ⟨e,he,q⟩=>⟨e,p2.mem_iff.mpr he,q⟩,λ⟨e,he,q⟩=>⟨e,p2.mem_iff.mp he,q⟩⟩) '!' f3 t3
    exact wpAny_pure ⟨rfl,fin _ (sb1.trans (w8 _ a _)) (r2.of (λ_=>rfl) z2)⟩
   ·exact wpAny_pure ⟨rfl,fin _ sb1 r1⟩
  have done:∀t2:SetTable,t2.fits es1.size=true->dR b t2->jd (jq prog w) A (do
    J5 a es1 t2
    if (!wd&&t2.tooFull)=true then do
      (match (gn t2 es1 (xi es1.size)).2.2 with|true=>rule "set.scan.the-table-gave-way" |false=>pure ())
      J5 a (gn t2 es1 (xi es1.size)).1 (gn t2 es1 (xi es1.size)).2.1
      pure (some true)
     else pure (some true)) (λr s'=>jd (jq prog w) A (match r with|some added=>pure added|none=>V4 a x ((za prog w).hash k) 99999) Q E s') E s:=λt2 f2 tb2 =>
   zd (tail t2 f2 tb2) (λr s' ⟨e,q⟩=>by subst e;exact wpAny_pure q) λ_ _ q=>q
  split
  ·refine qa ?_
   rw[hashByValue_scannable 8 hsc]
   refine wpAny_pure ?_
   refine done _ ?_ ?_
   ·split
    ·exact f1
    ·exact SetTable.fits_plain_off f1
   ·split
    ·exact t1
    ·exact t1.off _
  ·refine qa (wpAny_pure ?_)
   rw[if_pos rfl]
   exact done _ f1 t1
end
section
variable {R:Result->Shared->Prop}{I:Addr}{wr:List Addr}{G:Array nr->Array nr->Prop}{P:Nat->Value->Prop}{St:Nat->Shared->Prop}
theorem aIK(W:WalksS prog w A.in1 I fp wr G n P St)(T:Addr)(hT:T∉fp)(val:Nat->Int)(hv:∀i v,P i v->∃t,v = .int (val i) t)(hb:n+1<scanBound){b:Bool}:
  ∀(k i:Nat) (s:Shared),n-i=k->i<=n->St i s->fU prog w s.heap T (λk'=>(ff val i).any (· == k')) (ff val i).length b ->
   (∀s',Moved (T::wr) G s s'->fU prog w s'.heap T (λk'=>(ff val n).any (· == k')) (ff val n).length b->R (.ok (.ret .none)) s') ->
   gm (jq prog w) A (.builtin "set.update.loop" ⟨[.ref T, .ref I],[]⟩) R s:=by
 have hw:T∉wr:=λh=>hT (W.sub _ h)
 have sub:∀c∈wr,c∈T::wr:=λc hc=>ke _ hc
 intro k
 induction k with
 |zero =>
  intro i s hk hi st hS hR
  have:i=n:=by omega
  subst this
  refine codeAny_builtin dz ?_
  rw[y3 yo _]
  show jd _ A.in1 (gr (.ref I) >>= _) _ _ s
  refine qa (W.done s _ _ st λs' hm => ?_)
  exact wpAny_pure (hR s' (hm.mono sub) (hS.keep λo e=>hm.heap T _ hw e))
 |succ k ih =>
  intro i s hk hi st hS hR
  have hlt:i<n:=by omega
  refine codeAny_builtin dz ?_
  rw[y3 yo _]
  show jd _ A.in1 (gr (.ref I) >>= _) _ _ s
  refine qa (W.item i s _ _ hlt st λv s' hP st' hm => ?_)
  obtain⟨t,rfl⟩:=hv i v hP
  have hS':=hS.keep (h':=s'.heap) λo e=>hm.heap T _ hw e
  show jd _ A.in1 (cv [gb (val i) t] (setAdd T (.int (val i) t)) >>= _) _ _ s'
  refine qa (vc ?_)
  unfold setAdd
  refine vc (qa ((za prog w).pyHash (k:=val i) (intKind_is _ _ _ _) ?_))
  have hle:=J8 val i
  refine aKE (s:={s' with toks:=s'.toks+1}) (intKind_is _ _ _ _) rfl hS' '!' λh' sb hS2 => ?_
  have hS3:fU prog w h' T (λk'=>(ff val (i+1)).any (· == k')) (ff val (i+1)).length b:=hS2.of (λk'=>by rw[Q7,step_any]) (by rw[Q7,step_length])
  refine wpAny_pure ⟨plainId_quiet yo _,ih (i+1) _ '!' hlt (W.frame _ s' _ _ st' (nc _) λc hc o e => ?_) hS3 λs'' hm' hS'' => ?_⟩
  ·rw[sb.2 c (λz:c=T=>hT (z▸hc))];exact e
  ·refine hR s'' (Moved.trans W.gtrans ((hm.mono sub).then_heap (nc _) λc o hc e => ?_) hm') hS''
   rw[sb.2 c (λz:c=T=>hc (z▸jz))];exact e
end
end HS
namespace HS
open PySem PySem.Spec PyProof.Rows
abbrev gS(w:World):Bool := !w.params.followText "set-order"
abbrev newO(w:World):Obj:={cls := .type "set", dict:=none,data := .set #[] 0 (.fresh 0 0 (gS w))}
section
variable {E:Value->Shared->Prop}
theorem aDL(a:Value){Q₁:Value->Shared->Prop}(h:Q₁ (.ref s.heap.objs.size) {s with heap:=s.heap.push (newO w)}):
  gm (jq prog w) A (.call (.builtin "set.__new__") ⟨[.type "set", a],[]⟩) (wants Q₁ E) s:=by
 refine VS ?_
 show jd _ A.in1 (do checkBuiltinCall "set.__new__" ⟨[.type "set", a],[]⟩;again (.builtin "set.__new__" ⟨[.type "set", a],[]⟩)) _ _ s
 refine qa (wpAny_of_eq (PySem.F.newCall_set_1 a) (wpAny_pure ⟨plainId_quiet Qv _,codeAny_builtin PySem.F.entry_set_new ?_⟩))
 rw[y3 Qv _]
 unfold Builtin.«set.__new__» JM
 have hsub:=sub_set_self
 obtain⟨hp,g,d,tk,os⟩:=s
 dsimp only
 wp_walk
 refine zp (wpAny_pure ?_)
 dsimp only
 simp only[newObj]
 refine qa (wpAny_alloc (wpAny_pure ?_))
 exact wpAny_pure h
theorem aKN:fU prog w (h.push (newO w)) h.objs.size (λ_=>false) 0 (gS w):=
 ⟨_,#[],0,_,qh _ rfl,⟨rfl,rfl,rfl⟩,rfl,λe he=>absurd he '$',λk=>by simp,by decide,by rfl,rfl,rfl,zf⟩
theorem aEV{l:Addr}{ns:List Int}{Q:Value->Shared->Prop}(hh:A.handled=none)(hl:s.heap.IsList l items)(hi:IntsAre items.toList ns)(hb:items.size+1<scanBound)(h:∀(h':Heap) (tk:Nat),fU prog w h' s.heap.objs.size (λk'=>(ff (λi=>ns.getD i 0) items.size).any (· == k')) (ff (λi=>ns.getD i 0) items.size).length (gS w) ->
   (∀b o,b<s.heap.objs.size->s.heap.get? b=some o->h'.get? b=some o)->Q (.ref s.heap.objs.size) {s with heap:=h',toks:=tk}):
  jd (jq prog w) A (call (.type "set") [.ref l]) Q E s:=by
 have ft:=PySem.F.called_set
 obtain⟨c,tl,hmro⟩:=ft.mro
 have hmade:=ft.made
 have hsub:=ft.sub
 refine wpAny_call (VS ?_)
 show jd _ _ (callAny (.type "set") _) _ _ _
 refine wpAny_pure ⟨Code.quiet_builtin _ (by decide +kernel),codeAny_builtin PySem.F.entry_type_call ?_⟩
 rw[Around.under_plain (weight_type_call_type "set" [.ref l] []) rfl]
 have h1:=ft.notType
 have h2:=ft.canCreate
 have hct:=PySem.F.typeCall_set_1 (.ref l)
 repeat (any_goals (first|assumption|wp_step))
 refine mz (aDL (.ref l) (E:=E) (Q₁:=λobj s1=>obj=bp s.heap.objs.size/\s1={s with heap:=s.heap.push (newO w)}) ⟨rfl,rfl⟩) λr s1 hr => ?_
 cases r with
 |error e=>exact hr
 |ok fl =>
 cases fl with
 |next=>exact hr.elim
 |brk=>exact hr.elim
 |cont=>exact hr.elim
 |ret obj =>
 obtain⟨rfl,rfl⟩:=hr
 have hT:JO {s with heap:=s.heap.push (newO w)} (.ref s.heap.objs.size) "set" := ⟨_,qh _ rfl,rfl⟩
 have hli:=ft.init.lookup
 have hbi:=ft.init.bind (.ref s.heap.objs.size)
 repeat (any_goals (first|assumption|wp_step))
 refine mz (codeAny_call_builtin (R:=wants (λr s2=>r = .none/\Q (.ref s.heap.objs.size) s2) E) ft.init.plain PySem.F.entry_set_init (check_set_init_1 hT ?_)) λr2 s2 hr2 => ?_
 ·obtain⟨ol,hol,hcl,nl,hdl⟩:=hl
  obtain⟨oc,od,oo,os⟩:=ol
  simp only at hcl hdl
  subst hcl hdl
  have hol':(s.heap.push (newO w)).get? l=some ⟨.type "list", od, .seq items nl,os⟩:=qb _ hol
  have hl1:(s.heap.push (newO w)).IsList l items:=⟨_,hol',rfl,nl,rfl⟩
  have hlS:l<s.heap.objs.size:=qi hol
  have hS:(s.heap.push (newO w)).get? s.heap.objs.size=some (newO w):=qh _ rfl
  have e1:=PySem.F.sub_list_set
  have e2:=PySem.F.sub_list_frozenset
  have e3:(zg "list" == zg "dict")=false:=by decide
  unfold Builtin.«set.__init__» noKeywords JJ
  generalize hPI:Ju=PI
  wp_walk
  subst hPI
  refine ck hl1 ?_
  refine qa (VZ ?_)
  have hh3:A.in1.in1.in1.handled=none:=by simp[hh]
  have n1:l≠(s.heap.push (newO w)).objs.size:=by rw[jt];exact qk (wk hlS)
  have n2:s.heap.objs.size∉[(s.heap.push (newO w)).objs.size,l]:=by
   rw[jt]
   simp only[qe,jh,or_false,not_or]
   exact⟨qk (zh _),xo hlS⟩
  refine aIK ((Ja hh3 _ l n1 items).toS) s.heap.objs.size n2 (λi=>ns.getD i 0) (λi v hv=>IntsAre.int_at hi i v (by rw[wu];exact hv)) hb (items.size-0) 0 _ '!' (vw _)
   ⟨⟨_,qh _ rfl,rfl,rfl⟩,hl1.push _⟩ ((aKN (h:=s.heap)).keep (λo e=>qb _ e) |>.of (λ_=>rfl) rfl) ?_
  intro s' hm hS'
  obtain⟨h',g',d',tk',os'⟩:=s'
  have eg:g'=s.gens:=hm.gens
  have ed:d'=s.drawn:=hm.drawn
  have eo:os'=s.os:=hm.os
  subst eg ed eo
  refine wpAny_pure (wpAny_pure ⟨rfl,h h' tk' hS' λb o hb' e => ?_⟩)
  refine hm.heap b o ?_ (qb _ (qb _ e))
  rw[jt]
  simp only[qe,jh,or_false,not_or]
  exact⟨qk hb',qk (wk hb')⟩
 ·cases r2 with
  |error e=>exact hr2
  |ok fl2 =>
   cases fl2 with
   |ret r =>
    obtain⟨rfl,hq⟩:=hr2
    repeat (any_goals (first|assumption|wp_step))
   |next=>exact hr2.elim
   |brk=>exact hr2.elim
   |cont=>exact hr2.elim
end
end HS
namespace HS
open PySem PySem.Spec PyProof.Rows
theorem slot_next:Slot "set_iterator" "__next__" "set_iterator.__next__":=
 .of (owner := "set_iterator") (n := "__next__") (by rw[VP,builtinLookup_eq_fast];kernel_rfl) (by decide +kernel) (by decide +kernel) (by decide +kernel)
  (by first|exact .inl (by decide +kernel)|exact .inr (by decide +kernel)) (by rw[V7];kernel_rfl)
theorem entry_next:entryFor table "set_iterator.__next__" = some Builtin.«set_iterator.__next__» := entryFor_of_tree (by kernel_rfl)
theorem args_next(a:Value):argsOk "set_iterator.__next__" ⟨[a],[]⟩:=by unfold argsOk;kernel_rfl
theorem zR:entryFor table "set.__iter__" = some Builtin.«frozenset.__iter__»:=
 Wa (id' := "frozenset.__iter__") (by kernel_rfl) rfl (by decide +kernel) (by kernel_rfl)
noncomputable def kD(h:Heap)(it a:Addr)(f:Value)(i n ep:Nat):Prop:=∃o,h.get? it=some o/\o.cls = .type "set_iterator" /\ o.data = .fields #[f, .int i 0, .ref a, .int n 0, .int ep 0]
section
variable {E:Value->Shared->Prop}{o:Obj}{es:Array (Int×Value)}{t:SetTable}
theorem sQ{M:Km}{src:Source}{Q:Nat->Shared->Prop}(hn:n≠0)(h:Q (M.w.draws src (s.drawn.get src)%n) {s with drawn:=s.drawn.bump src}):jd M A (choose src n) Q E s:=λ_ _ _=>⟨hn,h⟩
theorem wM{Q:Option Value->Shared->Prop}{sl sl':Nat}{x:Value}(hit:kD s.heap it a (.int sl 0) i es.size ep)(ho:s.heap.get? a=some o)(hd:o.data = .set es ep t)(hf:t.fits es.size=true)(hx:∀(A':Around) (E':Value->Shared->Prop) (Q':Option (Value×Nat)->Shared->Prop),Q' (some (x,sl')) s->jd (jq prog w) A' (Qd a sl i ep) Q' E' s)(h:∀h',kD h' it a (.int sl' 0) (i+1) es.size ep->dh it s.heap h'->Q (some x) {s with heap:=h' }):jd (jq prog w) A (gr (.ref it)) Q E s:=by
 obtain⟨oi,hi,hc,hdd⟩:=id hit
 have hT:s.TypeIs (.ref it) "set_iterator" := ⟨oi,hi,hc⟩
 refine qa (df (vn hT slot_next (vg slot_next hT entry_next ?_ (args_next _))))
 refine qa (wpAny_pure (qa (pz hi hdd ?_)))
 dsimp only
 refine qa (zy ho hd hf ?_)
 rw[if_neg (by rw[bne_self_eq_false];exact zBf)]
 rw[ql,ql,ql]
 refine qa (hx _ _ _ ?_)
 dsimp only
 refine qa (fg hi hdd '$' ?_)
 have hi1:=wx (fi λx=>x.setIfInBounds 0 (rawInt ↑sl')) hi (cb (vq hdd _))
 refine qa (fg hi1 (vq hdd _) '$' ?_)
 have hi2:=wx (fi λx=>x.setIfInBounds 1 (rawInt (↑i+1))) hi1 (cb (vq (vq hdd _) _))
 refine wpAny_pure ⟨x,rfl,wpAny_pure (h _ ⟨_,hi2,(rh _ _).trans ((rh _ _).trans hc),?_⟩ ((w8 s.heap it _).trans (w8 _ it _)))⟩
 rw[vq (vq hdd _)]
 rfl
theorem stopped{M:Km}{Q:Option Value->Shared->Prop}{oi:Obj}{f:Value}(hh:A.handled=none)(hi:s.heap.get? it=some oi)(hdd:oi.data = .fields #[f, .int i 0, .ref a, .int n 0, .int ep 0])(h:∀h',me it s.heap h'->Q none {s with heap:=h' }):
  jd M A.in1 (do
     setField (bp it) 2 w6
     let e <- newExc (zg "StopIteration") []
     raiseNew e) (λfin s'=>∃v,fin=Fin.done (Flow.ret v)/\jd M A (pure (some v)) Q E s') (λe s'=>jd M A (do
       let y <- isInstance e (zg "StopIteration")
       if y=true then pure none else throw e) Q E s') s:=by
 refine qa (fg hi hdd '$' ?_)
 refine qa (qa (vm (qa (wpAny_of_eq (Eq.refl (firstArgMember (zg "StopIteration") [])) (vm (qa (wpAny_handled ?_)) (sizeOk_excFields ..)))) ?_))
 ·have hh':A.in1.handled=none:=hh
  rw[hh']
  refine wpAny_throw ?_
  refine qa (Qo (T := "StopIteration") ⟨_,qh _ rfl,rfl⟩ V8 ?_)
  rw[if_pos rfl]
  exact wpAny_pure (h _ (QA (QA (VD (w8 s.heap it _)) _) _))
 ·simp[sizeOk]
theorem wC{Q:Option Value->Shared->Prop}{sl:Nat}(hh:A.handled=none)(hit:kD s.heap it a (.int sl 0) i es.size ep)(ho:s.heap.get? a=some o)(hd:o.data = .set es ep t)(hf:t.fits es.size=true)(hx:∀(A':Around) (E':Value->Shared->Prop) (Q':Option (Value×Nat)->Shared->Prop),Q' none s->jd (jq prog w) A' (Qd a sl i ep) Q' E' s)(h:∀h',me it s.heap h'->Q none {s with heap:=h' }):jd (jq prog w) A (gr (.ref it)) Q E s:=by
 obtain⟨oi,hi,hc,hdd⟩:=id hit
 have hT:s.TypeIs (.ref it) "set_iterator" := ⟨oi,hi,hc⟩
 refine qa (df (vn hT slot_next (vg slot_next hT entry_next ?_ (args_next _))))
 refine qa (wpAny_pure (qa (pz hi hdd ?_)))
 dsimp only
 refine qa (zy ho hd hf ?_)
 rw[if_neg (by rw[bne_self_eq_false];exact zBf)]
 rw[ql,ql,ql]
 refine qa (hx _ _ _ ?_)
 dsimp only
 exact stopped hh hi hdd h
theorem uF{Q:Option Value->Shared->Prop}{p:Addr}{op:Obj}{np:Nat}{x:Int×Value}(hit:kD s.heap it a (.ref p) i es.size ep)(hp:s.heap.get? p=some op)(hpd:op.data = .seq (js.map λj=>rawInt (j:Nat)).toArray np)(ho:s.heap.get? a=some o)(hd:o.data = .set es ep t)(hf:t.fits es.size=true)(hx:(js[i]?).bind (λj=>es[j]?)=some x)(h:∀h',kD h' it a (.ref p) (i+1) es.size ep->dh it s.heap h'->Q (some x.2) {s with heap:=h' }):jd (jq prog w) A (gr (.ref it)) Q E s:=by
 obtain⟨oi,hi,hc,hdd⟩:=id hit
 have hT:s.TypeIs (.ref it) "set_iterator" := ⟨oi,hi,hc⟩
 refine qa (df (vn hT slot_next (vg slot_next hT entry_next ?_ (args_next _))))
 refine qa (wpAny_pure (qa (pz hi hdd ?_)))
 dsimp only
 refine qa (zy ho hd hf ?_)
 rw[if_neg (by rw[bne_self_eq_false];exact zBf)]
 obtain⟨j,hj,hxj⟩:=zk.mp hx
 refine qa (qa (QY hp ?_))
 rw[hpd]
 refine wpAny_pure ?_
 dsimp only
 have e1:(js.map λj=>rawInt (j:Nat)).toArray[(i:Int).toNat]?=some (rawInt j):=by
  rw[ql,gk,qg,hj];rfl
 rw[e1]
 dsimp only[rawInt]
 unfold setNextDrawn
 refine qa (qa (ze ho hd hf ?_))
 dsimp only
 rw[ql,ql,if_neg (by rw[bne_self_eq_false];exact zBf),hxj]
 refine qa (wpAny_pure (wpAny_pure ?_))
 refine qa (fg hi hdd '$' ?_)
 have hi1:=wx (fi λx=>x.setIfInBounds 1 (.int (↑i+1) 0)) hi (cb (vq hdd _))
 refine wpAny_pure ⟨x.2,rfl,wpAny_pure (h _ ⟨_,hi1,(rh _ _).trans hc,?_⟩ (w8 s.heap it _))⟩
 rw[vq hdd]
 rfl
theorem qP{Q:Option Value->Shared->Prop}{p:Addr}{op:Obj}{np:Nat}(hh:A.handled=none)(hit:kD s.heap it a (.ref p) i es.size ep)(hp:s.heap.get? p=some op)(hpd:op.data = .seq (js.map λj=>rawInt (j:Nat)).toArray np)(ho:s.heap.get? a=some o)(hd:o.data = .set es ep t)(hf:t.fits es.size=true)(hx:js.length<=i)(h:∀h',me it s.heap h'->Q none {s with heap:=h' }):jd (jq prog w) A (gr (.ref it)) Q E s:=by
 obtain⟨oi,hi,hc,hdd⟩:=id hit
 have hT:s.TypeIs (.ref it) "set_iterator" := ⟨oi,hi,hc⟩
 refine qa (df (vn hT slot_next (vg slot_next hT entry_next ?_ (args_next _))))
 refine qa (wpAny_pure (qa (pz hi hdd ?_)))
 dsimp only
 refine qa (zy ho hd hf ?_)
 rw[if_neg (by rw[bne_self_eq_false];exact zBf)]
 refine qa (qa (QY hp ?_))
 rw[hpd]
 refine wpAny_pure ?_
 dsimp only
 have e1:(js.map λj=>rawInt (j:Nat)).toArray[(i:Int).toNat]?=none:=by
  rw[ql,gk,qg,qq hx];rfl
 rw[e1]
 dsimp only
 refine qa (fg hi hdd '$' ?_)
 have hi1:=wx (fi λx=>x.setIfInBounds 0 (rawInt 0)) hi (cb (vq hdd _))
 exact stopped (s:={s with heap:=s.heap.update it (fi λx=>x.setIfInBounds 0 (rawInt 0))}) (n:=es.size) (f:=rawInt 0) hh hi1 (by rw[vq hdd];rfl) λh' hb=>h h' (((w8 s.heap it _).extBut).trans hb)
end
end HS
namespace HS
open PySem PySem.Spec PyProof.Rows
theorem lT{α:Type}:∀(l:List α) (i:Nat) (h:i<l.length),(l[i]::l.eraseIdx i).Perm l
 |x::l,0,h => .refl _
 |x::l,i+1,h=>by
  rw[List.eraseIdx_cons_succ,fv]
  exact (List.Perm.swap ..).trans (.cons _ (lT l i (by simpa using h)))
theorem yU{α:Type}(nx:Nat->Nat):∀(fuel k:Nat) (left:List α) (out:Array α),left.length=fuel->(Qf nx fuel k left out).toList.Perm (out.toList++left)
 |0,k,left,out,h=>by
  rw[vf.mp h]
  unfold Qf
  rw[yt]
 |fuel+1,k,left,out,h=>by
  unfold Qf
  have hlt:nx k%left.length<left.length:=Wc _ '!'
  rw[zGe hlt]
  dsimp only
  refine (yU nx fuel _ _ _ (by rw[Qk hlt];omega)).trans ?_
  rw[Jk,yz]
  refine List.Perm.append_left _ ?_
  exact lT _ _ hlt
theorem aB1{α:Type}(nx:Nat->Nat)(xs:Array α):(Jv nx xs).toList.Perm xs.toList:=by
 have:=yU nx xs.size 0 xs.toList #[] '$'
 simpa[Jv] using this
noncomputable def kS(p:Array Nat)(i:Nat):Nat:=if i=0 then 0 else p.getD (i-1) 0+1
theorem gdd(p:Array Nat){k:Nat}(h:i<p.size):p.getD i j=p.getD i k:=by
 rw[jc,jc,qv h];rfl
theorem aEO{p:Array Nat}(h:Ris p)(hi:i<=p.size):xj p (kS p i)=i:=by
 obtain⟨b1,b2,b3⟩:=nD (j:=kS p i) h
 generalize xj p (kS p i)=r at b1 b2 b3
 rcases JG r i with z|z|z
 ·have h1:=b3 r (qm _) '!'
  have h2:=h.at (j:=0) (show r<=i-1 by omega) '!'
  rw[gdd p (k:=0) '!'] at h1
  unfold kS at h1
  rw[if_neg '!'] at h1
  omega
 ·exact z
 ·have h1:=b2 i z
  rw[gdd p (k:=0) '!'] at h1
  unfold kS at h1
  by_cases hz:i=0
  ·rw[if_pos hz] at h1;omega
  ·rw[if_neg hz] at h1
   have h2:=kd.mp h (i-1) i (by rw[qo];omega) (by rw[qo];omega) '!'
   rw[jc,jc,qv (by omega:i<p.size),qv (by omega:i-1<p.size)] at h1
   simp only[Option.getD_some] at h1
   simp only[Array.getElem_toList] at h2
   omega
section
variable {E:Value->Shared->Prop}{o:Obj}{es:Array (Int×Value)}{t:SetTable}
theorem aDD{sl:Nat}{Q:Option (Value×Nat)->Shared->Prop}(hw:w.params.followText "set-order" = true)(ho:s.heap.get? a=some o)(hd:o.data = .set es ep t)(hf:t.fits es.size=true)(h:Q ((Jv (w.params.setOrder a ep) es)[i]?.map λe=>(e.2,sl)) s):jd (jq prog w) A (Qd a sl i ep) Q E s:=by
 unfold Qd
 refine qa (ze ho hd hf ?_)
 dsimp only
 unfold QZ
 refine qa (qa (zp (wpAny_pure ?_)))
 show jd _ _ (if w.params.followText "set-order" = true then _ else _) _ _ _
 rw[if_pos hw,if_neg (by rw[bne_self_eq_false];exact zBf)]
 unfold setWalk QZ
 refine qa (qa (ze ho hd hf ?_))
 dsimp only
 refine qa (qa (zp (wpAny_pure ?_)))
 show jd _ _ (if w.params.followText "set-order" = true then _ else _) _ _ _
 rw[if_pos hw]
 exact qa (zp (wpAny_pure (wpAny_pure h)))
theorem zF{Q:Option (Value×Nat)->Shared->Prop}(hw:w.params.followText "set-order" = false)(ho:s.heap.get? a=some o)(hd:o.data = .set es ep t)(hf:t.fits es.size=true)(tb:dR true t)(hp:(!t.plain&&decide (es.size>1))=false)(hi:i<=es.size)(h:Q (es[i]?.map λe=>(e.2,kS t.place (i+1))) s):jd (jq prog w) A (Qd a (kS t.place i) i ep) Q E s:=by
 have hsz:t.place.size=es.size:=by
  unfold SetTable.fits at hf
  simp only[qp,beq_iff_eq] at hf
  exact hf.1
 unfold Qd
 refine qa (ze ho hd hf ?_)
 dsimp only
 unfold QZ
 refine qa (qa (zp (wpAny_pure ?_)))
 show jd _ _ (if w.params.followText "set-order" = true then _ else if (!t.plain&&decide (es.size>1))=true then _ else _) _ _ _
 rw[if_neg (by rw[hw];exact zBf),if_neg (by rw[hp];exact zBf)]
 show jd _ _ ((if (!t.led && !es.isEmpty)=true then unsupported _ else pure ()) >>= _) _ _ _
 rw[if_neg (by rw[tb.1];exact zBf)]
 refine qa (wpAny_pure ?_)
 rw[aEO tb.2 '!']
 refine wpAny_pure ?_
 by_cases hlt:i<es.size
 ·rw[qv hlt] at h ⊢
  rw[qv (show i<t.place.size by omega)]
  have e1:kS t.place (i+1)=t.place[i]+1:=by
   unfold kS
   rw[if_neg '!',Nat.add_sub_cancel,jc,qv (show i<t.place.size by omega)];rfl
  rw[e1] at h
  exact h
 ·rw[QB '!'] at h ⊢
  exact h
theorem mO{M:Km}{α:Type}:∀(n:Nat) (xs:List α) (s:Shared) {Q:List α->Shared->Prop},xs.length=n->(∀ys dr,ys.Perm xs->Q ys {s with drawn:=dr})->jd M A (drawOrder n xs) Q E s
 |0,xs,s,Q,hl,h=>by
  rw[vf.mp hl] at h ⊢
  exact wpAny_pure (h [] s.drawn .nil)
 |n+1,[],s,Q,hl,h=>by cases hl
 |n+1,x::xs,s,Q,hl,h=>by
  unfold drawOrder
  refine qa (sQ '$' ?_)
  have hlt:M.w.draws .order (s.drawn.get .order)%(x::xs).length<(x::xs).length:=Wc _ '$'
  rw[zGe hlt]
  dsimp only
  refine qa (mO n _ _ (by rw[Qk hlt];omega) λys dr p=>wpAny_pure (h _ dr ?_))
  exact (Q4 _ p).trans (lT _ _ hlt)
end
end HS
namespace HS
open PySem PySem.Spec PyProof.Rows
theorem oU:Slot "set_iterator" "__iter__" "set_iterator.__iter__":=
 .of (owner := "set_iterator") (n := "__iter__") (by rw[VP,builtinLookup_eq_fast];kernel_rfl) (by decide +kernel) (by decide +kernel) (by decide +kernel)
  (by first|exact .inl (by decide +kernel)|exact .inr (by decide +kernel)) (by rw[V7];kernel_rfl)
theorem u5:entryFor table "set_iterator.__iter__" = some Builtin.«dict_keyiterator.__iter__»:=
 Wa (id' := "dict_keyiterator.__iter__") (by kernel_rfl) rfl (by decide +kernel) (by kernel_rfl)
theorem wQ(a:Value):argsOk "set_iterator.__iter__" ⟨[a],[]⟩:=by unfold argsOk;kernel_rfl
abbrev GEq:Array nr->Array nr->Prop:=λg g'=>g'=g
section
variable {E:Value->Shared->Prop}{o:Obj}{es:Array (Int×Value)}{t:SetTable}
theorem kD.ty{f:Value}(h:kD s.heap it a f i n ep):s.TypeIs (.ref it) "set_iterator" := let ⟨o,h1,h2,_⟩:=h;⟨o,h1,h2⟩
theorem sG{Q:Value->Shared->Prop}(hT:s.TypeIs (.ref it) "set_iterator")(h:Q (.ref it) s):jd (jq prog w) A (Ju (.ref it)) Q E s:=by
 refine Ku hT oU (vg oU hT u5 ?_ (wQ _))
 refine qa (wpAny_pure (wpAny_pure ?_))
 exact⟨_,rfl, "set_iterator", .builtin "set_iterator.__next__", hT,slot_next.lookup,h⟩
theorem aBX{vs:List Value}{sl:Nat->Nat}(hh:A.handled=none)(hd:o.data = .set es ep t)(hf:t.fits es.size=true)(hv:vs.length=es.size)(hne:a≠it)(hx:∀i,i<=es.size->∀(s':Shared),s'.heap.get? a=some o->∀(A':Around) (E':Value->Shared->Prop) (Q':Option (Value×Nat)->Shared->Prop),Q' (vs[i]?.map λv=>(v,sl (i+1))) s'->jd (jq prog w) A' (Qd a (sl i) i ep) Q' E' s'):
  WalksS prog w A it [it,a] [it] GEq es.size (λi v=>vs[i]?=some v) (λi s'=>s'.heap.get? a=some o/\kD s'.heap it a (.int (sl i) 0) i es.size ep) where
 sub:=λb hb=>by simp only[qe,jh,or_false] at hb ⊢;exact .inl hb
 grefl:=λ_=>rfl
 gtrans:=λ_ _ _ h1 h2=>by rw[h2,h1]
 frame:=λi s' h' tk st _ k=>⟨k a '$' _ st.1,let ⟨oi,h1,h2⟩:=st.2;⟨oi,k it '$' _ h1,h2⟩⟩
 item:=λi s' Q E' hi st hQ=>by
  have hl:i<vs.length:=by omega
  refine wM st.2 st.1 hd hf (x:=vs[i]) (sl':=sl (i+1)) (λA' E'' Q' q=>hx i '!' s' st.1 A' E'' Q' (by rw[zGe hl];exact q)) λh' hit sb => ?_
  refine hQ _ _ (zGe hl) ⟨(sb.2 a hne).trans st.1,hit⟩ ⟨λb o' hb e=>(sb.2 b λz=>hb (by rw[z];exact jz)).trans e,rfl,rfl,rfl,qm _⟩
 done:=λs' Q E' st hQ=>by
  refine wC hh st.2 st.1 hd hf (λA' E'' Q' q=>hx _ (qm _) s' st.1 A' E'' Q' (by rw[qq '!'];exact q)) λh' hb => ?_
  exact hQ _ ⟨λb o' hb' e=>hb b o' (λz=>hb' (by rw[z];exact jz)) e,rfl,rfl,rfl,qm _⟩
 self:=λi s' Q E' st hQ=>sG st.2.ty hQ
theorem wE{vs:List Value}{p:Addr}{op:Obj}{np:Nat}(hh:A.handled=none)(hd:o.data = .set es ep t)(hf:t.fits es.size=true)(hpd:op.data = .seq (js.map λj=>rawInt (j:Nat)).toArray np)(hj:js.length=es.size)(hne:a≠it)(hnp:p≠it)(hx:∀i,i<es.size->∃x,(js[i]?).bind (λj=>es[j]?)=some x/\vs[i]?=some x.2):
  WalksS prog w A it [it,a,p] [it] GEq es.size (λi v=>vs[i]?=some v) (λi s'=>s'.heap.get? a=some o/\s'.heap.get? p=some op/\kD s'.heap it a (.ref p) i es.size ep) where
 sub:=λb hb=>by simp only[qe,jh,or_false] at hb ⊢;exact .inl hb
 grefl:=λ_=>rfl
 gtrans:=λ_ _ _ h1 h2=>by rw[h2,h1]
 frame:=λi s' h' tk st _ k=>⟨k a '$' _ st.1,k p '$' _ st.2.1,let ⟨oi,h1,h2⟩:=st.2.2;⟨oi,k it '$' _ h1,h2⟩⟩
 item:=λi s' Q E' hi st hQ=>by
  obtain⟨x,h1,h2⟩:=hx i hi
  refine uF st.2.2 st.2.1 hpd st.1 hd hf h1 λh' hit sb => ?_
  refine hQ _ _ h2 ⟨(sb.2 a hne).trans st.1,(sb.2 p hnp).trans st.2.1,hit⟩ ⟨λb o' hb e=>(sb.2 b λz=>hb (by rw[z];exact jz)).trans e,rfl,rfl,rfl,qm _⟩
 done:=λs' Q E' st hQ=>by
  refine qP hh st.2.2 st.2.1 hpd st.1 hd hf '!' λh' hb => ?_
  exact hQ _ ⟨λb o' hb' e=>hb b o' (λz=>hb' (by rw[z];exact jz)) e,rfl,rfl,rfl,qm _⟩
 self:=λi s' Q E' st hQ=>sG st.2.2.ty hQ
theorem zI{Q:Value->Shared->Prop}(ho:s.heap.get? a=some o)(hc:o.cls = .type "set")(hd:o.data = .set es ep t)(hf:t.fits es.size=true)(tb:dR (gS w) t)(hs:es.size<=sizeLine)(h:∀(it:Addr) (s':Shared) (vs:List Value) (fp:List Addr) (St:Nat->Shared->Prop),vs.Perm (es.toList.map (·.2))->(∀A':Around,A'.handled=none->WalksS prog w A' it fp [it] GEq es.size (λi v=>vs[i]?=some v) St)->St 0 s' ->
   (∀b∈fp,b<s'.heap.objs.size)->it∈fp->(∀b∈fp,b=a\/s.heap.objs.size<=b)->s.heap.objs.size<=it->(∀b o',s.heap.get? b=some o'->s'.heap.get? b=some o')->s'.gens=s.gens->s'.os=s.os->s.toks<=s'.toks->Q (.ref it) s'):jd (jq prog w) A (Ju (.ref a)) Q E s:=by
 have hT:s.TypeIs (.ref a) "set" := ⟨o,ho,hc⟩
 have hlt:a<s.heap.objs.size:=qi ho
 refine Ku hT Qu (vg Qu hT zR ?_ (PySem.F.args_set_iter_1 _))
 unfold Builtin.«frozenset.__iter__» JK
 refine qa (qa (wpAny_pure (wpAny_pure ?_)))
 unfold JL
 refine qa (qa (zy ho hd hf (wpAny_pure ?_)))
 unfold setDrawn QZ
 refine qa (qa (ze ho hd hf ?_))
 dsimp only
 refine qa (qa (zp (wpAny_pure (wpAny_pure ?_))))
 show jd _ _ (if (!w.params.followText "set-order" && (!t.plain&&decide (es.size>1)))=true then _ else _) _ _ _
 have hz5:(5:Nat)<=sizeLine+2:=by rw[QG];omega
 have int:∀(vs:List Value) (sl:Nat->Nat),sl 0=0->vs.Perm (es.toList.map (·.2)) ->
   (∀i,i<=es.size->∀(s':Shared),s'.heap.get? a=some o->∀(A':Around) (E':Value->Shared->Prop) (Q':Option (Value×Nat)->Shared->Prop),Q' (vs[i]?.map λv=>(v,sl (i+1))) s'->jd (jq prog w) A' (Qd a (sl i) i ep) Q' E' s') ->
   jd (jq prog w) A.in1 (do
    let first <- pure (rawInt 0)
    let e <- setEpoch a
    let v <- newFields "set_iterator" [first,rawInt 0,bp a,rawInt ↑es.size,rawInt ↑e]
    ret v) (λfin s'=>∃v,fin=Fin.done (Flow.ret v)/\∃T' r,s'.TypeIs v T'/\typeLookup (zg T') (jg "__next__")=pure (some r)/\Q v s') E s:=λvs sl h0 p hx=>by
  have hl:vs.length=es.size:=by rw[p.length_eq,zLm,qo]
  refine qa (wpAny_pure (qa (Ks ho hd hf (qa (vm (wpAny_pure ?_) hz5)))))
  refine⟨_,rfl, "set_iterator", .builtin "set_iterator.__next__", ⟨_,qh _ rfl,rfl⟩,slot_next.lookup,?_⟩
  refine h s.heap.objs.size _ vs [s.heap.objs.size,a] _ p (λA' hA=>aBX hA hd hf hl (qk hlt) hx) ⟨qb _ ho,_,qh _ rfl,rfl,by rw[h0];rfl⟩ (λb hb => ?_) jz (λb hb=>by simp only[qe,jh,or_false] at hb;exact hb.elim (λz => .inr (x9 z.symm)) .inl) (qm _) (λb o' e=>qb _ e) rfl rfl (qm _)
  rw[jt]
  rcases qe.mp hb with rfl|hb
  ·exact zh _
  ·rw[ji] at hb;subst hb;exact wk hlt
 cases hw:w.params.followText "set-order" with
 |true =>
  rw[if_neg '$']
  refine int ((Jv (w.params.setOrder a ep) es).toList.map (·.2)) (λ_=>0) rfl ((aB1 _ es).map _) λi hi s' g A' E' Q' q=>aDD hw g hd hf ?_
  rw[qg,wu,JF] at q
  exact q
 |false =>
  have tb':dR true t:=by
   have e:gS w=true:=by show (!w.params.followText "set-order")=true;rw[hw];rfl
   rw[e] at tb;exact tb
  cases hp:(!t.plain&&decide (es.size>1)) with
  |false =>
   rw[if_neg '$']
   refine int (es.toList.map (·.2)) (kS t.place) rfl (.refl _) λi hi s' g A' E' Q' q=>zF hw g hd hf tb' hp hi ?_
   rw[qg,wu,JF] at q
   exact q
  |true =>
   rw[if_pos '$']
   refine qa (mO es.size _ s (x8 ..) λjs dr pj => ?_)
   have hjl:js.length=es.size:=by rw[pj.length_eq,x8]
   refine qa (V0 ?_ (by rw[zLm,hjl];exact hs))
   refine qa (Ks (o:=o) (qb _ ho) hd hf (qa (vm (wpAny_pure ?_) hz5)))
   refine⟨_,rfl, "set_iterator", .builtin "set_iterator.__next__", ⟨_,qh _ rfl,rfl⟩,slot_next.lookup,?_⟩
   have hsz:(s.heap.push (pk "tuple" (js.map λj=>rawInt (j:Nat)).toArray 0)).objs.size=s.heap.objs.size+1:=jt ..
   have hne1:a≠(s.heap.push (pk "tuple" (js.map λj=>rawInt (j:Nat)).toArray 0)).objs.size:=by rw[hsz];exact qk (wk hlt)
   have hne2:s.heap.objs.size≠(s.heap.push (pk "tuple" (js.map λj=>rawInt (j:Nat)).toArray 0)).objs.size:=by rw[hsz];exact qk (zh _)
   have hx:∀i,i<es.size->∃x,(js[i]?).bind (λj=>es[j]?)=some x/\(js.map λj=>(es.getD j (0,w6)).2)[i]?=some x.2:=λi hi=>by
    have hij:i<js.length:=by omega
    have hm:js[i]<es.size:=ve.mp (pj.mem_iff.mp (jl hij))
    refine⟨es[js[i]],?_,?_⟩
    ·rw[zGe hij];exact qv hm
    ·rw[qg,zGe hij,vp,jc,qv hm];rfl
   have hvp:(js.map λj=>(es.getD j (0,w6)).2).Perm (es.toList.map (·.2)):=by
    refine (pj.map _).trans (List.Perm.of_eq ?_)
    apply kj
    intro i
    rw[qg,qg]
    by_cases hi:i<es.size
    ·rw[wj hi,wu,vp,jc,qv hi];rfl
    ·rw[qq (by rw[x8];omega),qq (by rw[qo];omega)];rfl
   refine h _ _ _ [_,a,s.heap.objs.size] (λi s'=>s'.heap.get? a=some o/\s'.heap.get? s.heap.objs.size=some (pk "tuple" (js.map λj=>rawInt (j:Nat)).toArray 0)/\kD s'.heap _ a (.ref s.heap.objs.size) i es.size ep) hvp (λA' hA=>wE hA hd hf rfl hjl hne1 hne2 hx) ⟨qb _ (qb _ ho),qb _ (qh _ rfl),_,qh _ rfl,rfl,rfl⟩ (λb hb => ?_) jz (λb hb=>by simp only[qe,jh,or_false] at hb;exact hb.elim (λz => .inr (by rw[z,hsz];exact nc _)) λhb=>hb.elim .inl λz => .inr (x9 z.symm)) (by rw[hsz];exact nc _) (λb o' e=>qb _ (qb _ e)) rfl rfl (qm _)
   rw[jt]
   simp only[qe,jh,or_false] at hb
   rcases hb with rfl|rfl|rfl
   ·exact zh _
   ·rw[hsz];exact wk (wk hlt)
   ·rw[hsz];exact wk (zh _)
end
end HS
namespace HS
open PySem PySem.Spec PyProof.Rows
section
variable {E:Value->Shared->Prop}{o:Obj}{es:Array (Int×Value)}{t:SetTable}
theorem aFV:typeLookup (.type "set") "__len__" = pure (some (.builtin "set.__len__")):=PySem.F.slot_set_len.lookup
theorem vZ{Q:List Value->Shared->Prop}(hh:A.handled=none)(ho:s.heap.get? a=some o)(hc:o.cls = .type "set")(hd:o.data = .set es ep t)(hf:t.fits es.size=true)(tb:dR (gS w) t)(hs:es.size<=sizeLine)(h:∀(s':Shared) (vs:List Value),vs.Perm (es.toList.map (·.2))->(∀b o',s.heap.get? b=some o'->s'.heap.get? b=some o')->s'.gens=s.gens->s'.os=s.os->Q vs s'):jd (jq prog w) A (collect (.ref a)) Q E s:=by
 have hlt:a<s.heap.objs.size:=qi ho
 have hSa:s.heap.objs.size≠a:=xo hlt
 unfold collect
 refine qa (VZ (codeAny_builtin PySem.F.entry_proto_collect ?_))
 rw[y3 PySem.F.plain_proto_collect _]
 show jd _ A.in1 (VM [] >>= λl=>again (.builtin "list.__iadd__" ⟨[l, .ref a],[]⟩)) _ _ s
 refine qa (vm ?_)
 refine wpAny_pure ⟨plainId_quiet Qj _,codeAny_builtin PySem.F.entry_list_iadd ?_⟩
 rw[y3 Qj _]
 have ho1:(s.heap.push {cls := .type "list", data := .seq ([]:List Value).toArray}).get? a=some o:=qb _ ho
 have hT1:JO {s with heap:=s.heap.push {cls := .type "list", data := .seq ([]:List Value).toArray} } (.ref a) "set" := ⟨o,ho1,hc⟩
 have h1:ph (.ref s.heap.objs.size) (.ref a)=false:=by simp[ph,hSa]
 show jd _ A.in1 (mn (.ref s.heap.objs.size) (.ref a) (.ref s.heap.objs.size)) _ _ _
 unfold mn
 refine qa (mw hT1 ?_)
 rw[if_neg (by rw[h1];decide)]
 refine qa (zI (s:={s with heap:=s.heap.push {cls := .type "list", data := .seq ([]:List Value).toArray} }) ho1 hc hd hf tb hs λit s2 vs fp St pv W st0 hfp hI hnf0 hit hk hg hos htk => ?_)
 refine qa (vc ?_)
 have hT2:s2.TypeIs (.ref a) "set" := ⟨o,hk _ _ ho1,hc⟩
 unfold VF
 refine qa (VO hT2 aFV ?_)
 (generalize hid:("set.__len__" : String)=id0;(fail_if_success (clear hid id0));wp_delta;rw[show splitId id0=some ("set", "__len__") from by subst hid;decide +kernel];subst hid)
 refine qa (Qo (b:=true) hT2 sub_set_self ?_)
 rw[if_neg '*']
 dsimp only
 show jd _ _ (if (_:Bool)=true then (typeOf (bp a) >>= _) else _) _ _ _
 rw[if_pos (by decide +kernel)]
 refine qa (mw hT2 ?_)
 refine wpAny_pure ?_
 show jd _ _ (if (_:Bool)=true then (rule "list.extend.makes-room" >>= λ_=>VE (.ref s.heap.objs.size) >>= λ_=>again (.builtin "list.extend.loop" ⟨[.ref s.heap.objs.size, .ref it, .ref s.heap.objs.size],[]⟩)) else _) _ _ _
 rw[if_pos (by decide +kernel)]
 refine qa (nt ?_)
 have hS1:s2.heap.get? s.heap.objs.size=some {cls := .type "list", data := .seq ([]:List Value).toArray}:=hk _ _ (qh _ rfl)
 have hSf:s.heap.objs.size∉fp:=λhm=>(hnf0 _ hm).elim hSa λz=>by
  have z:(s.heap.push _).objs.size<=s.heap.objs.size:=z
  rw[jt] at z
  exact absurd z (Nat.not_succ_le_self _)
 refine qa ?_
 show jd _ A.in1 (updateSeq s.heap.objs.size (·.push .none) >>= λ_=>updateSeq s.heap.objs.size (·.pop)) _ _ _
 refine qa (VN hS1 rfl ?_)
 have hS2:=wx (bq (·.push w6)) hS1 rfl
 refine VN hS2 rfl ?_
 have hS3:=wx (bq (·.pop)) hS2 rfl
 have oth:∀b o',b≠s.heap.objs.size->s2.heap.get? b=some o'->((s2.heap.update s.heap.objs.size (bq (·.push w6))).update s.heap.objs.size (bq (·.pop))).get? b=some o':=
  λb o' hb e=>(bc _ _ (dc hb)).trans ((bc _ _ (dc hb)).trans e)
 have hA:A.in1.handled=none:=hh
 refine wpAny_pure ⟨plainId_quiet PySem.F.plain_extend_loop _,codeAny_extend_loopS (W A.in1 hA) hs _ hSf _ es.size 0 _ _ _ rfl (vw _)
  ((W A.in1 hA).frame 0 s2 _ s2.toks st0 (qm _) λb hb o' e=>oth b o' (λz=>hSf (z▸hb)) e) hS3 (ItemsOf.nil _) λs' acc c' hm hS' hacc => ?_⟩
 show jd _ A (load s.heap.objs.size >>= _) _ _ s'
 refine qa (QY hS' ?_)
 have eacc:acc.toList=vs:=by
  apply kj
  intro i
  have hvl:vs.length=es.size:=by rw[pv.length_eq,zLm,qo]
  rw[wu]
  by_cases hi:i<acc.size
  ·rw[qv hi]
   exact (hacc.2 i _ (qv hi)).symm
  ·rw[QB '!',qq (by have:=hacc.1;omega)]
 refine wpAny_pure (h s' acc.toList (by rw[eacc];exact pv) (λb o' e => ?_) ((show s'.gens=s2.gens from hm.gens).trans hg) ((show s'.os=s2.os from hm.os).trans hos))
 have hb:=qi e
 refine hm.heap b o' ?_ (oth b o' (qk hb) (hk _ _ (qb _ e)))
 simp only[qe,jh,or_false,not_or]
 refine⟨qk hb,qk (qr hb (jf ?_ hit))⟩
 show s.heap.objs.size<=(s.heap.push _).objs.size
 rw[jt];exact nc _
end
end HS
namespace HS
open PySem PySem.Spec PyProof.Rows
theorem uR{α:Type}[BEq α][LawfulBEq α]:∀(l l':List α),l.Nodup->(∀x∈l,x∈l')->l'.length<=l.length->l.Perm l'
 |[],l',_,_,h=>by rw[vf.mp (Nat.le_zero.mp h)]
 |x::r,l',nd,h,hl=>by
  have hx:=h x (.head _)
  have p:=List.perm_cons_erase hx
  have e:=p.length_eq
  rw[jb] at e hl
  refine (Q4 x (uR r (l'.erase x) (xp.mp nd).2 (λy hy => ?_) '!')).trans p.symm
  have hne:y≠x:=λz=>(xp.mp nd).1 (z▸hy)
  exact (List.mem_erase_of_ne hne).mpr (h y (.tail _ hy))
noncomputable def once(ns:List Int):List Int:=ff (λi=>ns.getD i 0) ns.length
theorem zN(v:Nat->Int):∀i,(ff v i).Nodup
 |0=>by rw[firstMet_zero];exact .nil
 |i+1=>by
  rw[Q7]
  unfold step_dedup
  split
  ·exact zN v i
  ·rename_i h
   refine Jo.mpr ⟨zN v i,by simp,λa ha b hb => ?_⟩
   rw[ji] at hb
   subst hb
   rintro rfl
   exact h (ym.mpr ⟨_,ha,by simp⟩)
theorem xQ(ns:List Int):(once ns).Nodup:=zN _ _
theorem n5{k:Int}:l.any (· == k)=true↔k∈l:=by
 rw[ym]
 exact⟨λ⟨x,h,e⟩=>by rw[beq_iff_eq] at e;subst e;exact h,λh=>⟨k,h,by simp⟩⟩
theorem map_getD(ns:List Int):(qy ns.length).map (λi=>ns.getD i 0)=ns:=by
 apply kj
 intro i
 rw[qg]
 by_cases h:i<ns.length
 ·rw[wj h];simp[h]
 ·rw[qq (by rw[x8];omega),qq '!'];rfl
theorem aDS{ns:List Int}{k:Int}:k∈once ns↔k∈ns:=by
 unfold once
 rw[<- n5,firstMet_any,map_getD,n5]
theorem o0(ns:List Int):(once ns).length<=ns.length:=J8 _ _
theorem uT:∀{vs:List Value}{ns:List Int},IntsAre vs ns->∀k:Int,(∃v∈vs,∃t,v = .int k t)↔k∈ns
 |_,_, .nil,k=>by simp
 |_,_, .cons n t h,k=>by
  rw[qe,<- uT h k]
  constructor
  ·rintro⟨v,hv,u,e⟩
   rcases qe.mp hv with rfl|hv
   ·cases e;exact .inl rfl
   ·exact .inr ⟨v,hv,u,e⟩
  ·rintro (rfl|⟨v,hv,r⟩)
   ·exact⟨_, .head _,t,rfl⟩
   ·exact⟨v, .tail _ hv,r⟩
theorem xE:∀(vs:List Value),(∀v∈vs,∃k t,v = .int k t)->∃ns,IntsAre vs ns
 |[],_=>⟨[], .nil⟩
 |v::vs,h=>by
  obtain⟨ns,q⟩:=xE vs λv hv=>h v (.tail _ hv)
  obtain⟨k,t,rfl⟩:=h v (.head _)
  exact⟨k::ns, .cons k t q⟩
theorem aBN{vs vs':List Value}(p:vs.Perm vs'):∀{ns:List Int},IntsAre vs ns->∃ns',IntsAre vs' ns'/\ns'.Perm ns:=by
 induction p with
 |nil=>intro ns h;exact⟨ns,h, .refl _⟩
 |cons x p ih =>
  intro ns h
  cases h with
  |cons n t h =>
   obtain⟨ns',a,b⟩:=ih h
   exact⟨n::ns', .cons n t a,b.cons n⟩
 |swap x y l =>
  intro ns h
  cases h with
  |cons n t h =>
   cases h with
   |cons n' t' h=>exact⟨n'::n::_, .cons n' t' (.cons n t h), .swap ..⟩
 |trans p q ih1 ih2 =>
  intro ns h
  obtain⟨ns',a,b⟩:=ih1 h
  obtain⟨ns'',a',b'⟩:=ih2 a
  exact⟨ns'',a',b'.trans b⟩
noncomputable def i7(b:Bool)(a:Addr)(ks:List Int)(h:Heap):Prop:=
 ∃o es ep t ns,h.get? a=some o/\o.cls = .type "set" /\ o.data = .set es ep t/\t.fits es.size=true/\dR b t/\es.size<64/\IntsAre (es.toList.map (·.2)) ns/\ns.Perm ks
theorem i7.ok{b:Bool}(x:i7 b a ks h):L2.dX P w H h a (.ext (i7 b a ks)):=by
 obtain⟨o,es,ep,t,ns,e,r⟩:=id x
 refine⟨x,⟨o,e⟩,λh1 h2 x1 k => ?_⟩
 obtain⟨o',es',ep',t',ns',e',r'⟩:=x1
 exact⟨o',es',ep',t',ns',k o' e',r'⟩
section
variable {E:Value->Shared->Prop}
theorem fU.at{ns:List Int}{b:Bool}(x:fU prog w h a (λk'=>(once ns).any (· == k')) (once ns).length b)(hn:ns.length<64):i7 b a (once ns) h:=by
 obtain⟨o,es,ep,t,ho,hex,hd,hel,hm,hb,hf,hsz,tb⟩:=x
 have is_int:∀{k:Int}{v:Value},(za prog w).is k v=true->∃t,v = .int k t:=λ{k v} h=>by
  cases v <;> simp[za,bb] at h
  subst h;exact⟨_,rfl⟩
 obtain⟨ks,hk⟩:=xE (es.toList.map (·.2)) λv hv=>by
  obtain⟨e,he,rfl⟩:=qw.mp hv
  obtain⟨⟨k,h1,_⟩,_⟩:=hel e he
  obtain⟨t',e'⟩:=is_int h1
  exact⟨k,t',e'⟩
 have hl:=o0 ns
 refine⟨o,es,ep,t,ks,ho,hex.1,hd,hf,tb,by omega,hk,(uR _ _ (xQ ns) (λk hk' => ?_) ?_).symm⟩
 ·obtain⟨e,he,h1⟩:=(hm k).mp (n5.mpr hk')
  obtain⟨t',e'⟩:=is_int h1
  exact (uT hk k).mp ⟨e.2,qw.mpr ⟨e,he,rfl⟩,t',e'⟩
 ·have:=IntsAre.length hk
  rw[zLm,qo] at this
  omega
theorem zS{Q:Value->Shared->Prop}(hh:A.handled=none)(hS:i7 (gS w) a ks s.heap)(h:∀(s1:Shared) (h2:Heap) (out:Array Value) (ns:List Int) (e:Nat),IntsAre out.toList ns->ns.Perm ks->ns.Pairwise (· <= ·)->(∀b o',s.heap.get? b=some o'->s1.heap.get? b=some o')->s1.gens=s.gens->s1.os=s.os ->
   (∀b o',s1.heap.get? b=some o'->h2.get? b=some o')->h2.get? s1.heap.objs.size=some (pk "list" out e)->Q (.ref s1.heap.objs.size) {s1 with heap:=h2}):jd (jq prog w) A (call (.builtin "sorted") [.ref a]) Q E s:=by
 obtain⟨o,es,ep,t,ns,ho,hc,hd,hf,tb,h64,hI,hp⟩:=hS
 have hz:es.size<=sizeLine:=jf (gq h64) '*'
 refine Ql kind_sorted plain_sorted entry_sorted (args_sorted1 _) ?_
 unfold Builtin.«sorted»
 refine qa (m:=checkCount "sorted" 1 1 _) (wpAny_pure ?_)
 refine qa (vZ hh ho hc hd hf tb hz λs1 vs pv k1 g1 os1 => ?_)
 obtain⟨ns1,hI1,hp1⟩:=aBN pv.symm hI
 have hvl:vs.length=es.size:=by rw[pv.length_eq,zLm,qo]
 refine qa (wpAny_newList ?_ (by rw[hvl];exact hz))
 have hoL:(s1.heap.push (pk "list" vs.toArray 0)).get? s1.heap.objs.size=some (pk "list" vs.toArray 0):=qh _ rfl
 show jd _ _ _ _ _ {s1 with heap:=s1.heap.push (pk "list" vs.toArray 0)}
 refine qa (vc (vg V2 ⟨_,hoL,rfl⟩ VR (V6 (s:={s1 with heap:=s1.heap.push (pk "list" vs.toArray 0)}) hoL hI1 '!' λout ns' a1 a2 a3=>⟨_,rfl,?_⟩) (Wb _)))
 obtain⟨e,he⟩:=sortedHeap_at (vs:=vs) (out:=out) hoL
 refine wpAny_pure ⟨_,rfl,h s1 _ out ns' e a1 (a2.trans (hp1.trans hp)) a3 k1 g1 os1 (λb o' hb => ?_) he⟩
 have hlt:=qi hb
 rw[V1 (qk hlt) (by rw[size_push'];exact wk hlt)]
 exact qb _ hb
end
end HS
namespace Z
open PySem L2 HS
section
theorem aCP(I:L2.Inv X pins σ H s)(k:∀b u,s.heap.get? b=some u->s'.heap.get? b=some u)(hg:s'.gens=s.gens)(ho:s'.os=s.os):Inv X pins σ H s':=by
 have J:Inv X pins σ H {s with heap:=s'.heap,toks:=s'.toks}:=I.kept k
 exact⟨J.ok,ho.trans I.os,by rw[hg];exact I.bare,J.base,J.loc,J.cell,J.free,J.freeC,J.pin,J.hok,J.len⟩
noncomputable def sZ(X:Cx):List V->Hp->VK->Prop:=λxs H Q=>∃(a:Addr) (ns:List Int),xs=[.ref a]/\SqL X.K H a (ns.map V.int)/\ns.length<63/\∀p,H p=none->Q (.ref p) (upd H p (.ext (i7 (gS X.w) p (once ns))))
theorem aCB(hh:X.A.handled=none):eF X (.type "set") (sZ X):=by
 intro pins s σ H xs us Q I r h
 obtain⟨a,ns,rfl,ha,hn,q⟩:=h
 obtain⟨u,rfl,rx⟩:=vals1 r
 cases rx
 obtain⟨its,rv,⟨o,n,e1,e2,_,e3⟩,hz⟩:=I.list ha
 have hi:=intsAre_of rv
 have hl:its.length=ns.length:=hi.length
 refine HS.aEV (items:=its.toArray) (ns:=ns) hh ⟨o,e1,e2,n,e3⟩ (by simpa using hi) (by rw[qc,hl];unfold scanBound;omega) λh' tk hR hk => ?_
 simp only[qc] at hR
 rw[hl] at hR
 have hf:=I.hok.fresh (qm s.heap.objs.size)
 exact⟨.ref s.heap.objs.size,_,I.laid (t':=tk) (λb u z=>hk b u (qi z) z) (qm _) (fU.at hR '!').ok,rfl,q _ hf⟩
noncomputable def aDE(X:Cx):List V->Hp->VK->Prop:=λxs H Q=>∃(a:Addr) (ks:List Int),xs=[.ref a]/\H a=some (.ext (i7 (gS X.w) a ks))/\ks.length<64/\∀(l:Addr) (ns:List Int),H l=none->ns.Perm ks->ns.Pairwise (· <= ·)->Q (.ref l) (upd H l (.lst (ns.map V.int)))
theorem zP(hh:X.A.handled=none):eF X (.builtin "sorted") (aDE X):=by
 intro pins s σ H xs us Q I r h
 obtain⟨a,ks,rfl,ha,hn,q⟩:=h
 obtain⟨u,rfl,rx⟩:=vals1 r
 cases rx
 obtain⟨hS,_⟩:i7 (gS X.w) a ks s.heap/\_:=I.hok a _ ha
 refine zS hh hS λs1 h2 out ns e hi hp hs k1 g1 o1 k2 he => ?_
 have I1:Inv X pins σ H s1:=aCP I k1 g1 o1
 have hf:=I1.hok.fresh (qm s1.heap.objs.size)
 refine⟨.ref s1.heap.objs.size,_,I1.laid (t':=s1.toks) k2 (qm _) (show dX X.prog X.w _ h2 _ (.lst (ns.map V.int)) from ⟨?_,out.toList,e,hW hi,?_⟩),rfl,q _ ns hf hp hs⟩
 ·rw[zLm,hp.length_eq];exact jf '!' (show 64<=sizeLine by decide)
 ·rw[he]
theorem aGC{K:Fg}{ns:List Int}(hK:K=X.K)(hn:ns.length<63)(h:∀a,M a=none->k (.mt a) (bZ M a (.ob (.ext (i7 (gS X.w) a (once ns)))))):OpN K (sZ X) [.lst (ns.map .int)] M k:=λG H vs Q rl e q=>by
 subst hK
 obtain⟨u,rfl,du⟩:=dens1 e
 obtain⟨a,ws,rfl,sq,dn⟩:=du.lst_
 rw[r8 dn] at sq
 refine⟨a,ns,rfl,pw (pw (rl.same _ _ sq)),hn,λp hp => ?_⟩
 exact q _ _ _ _ _ (rl.newO hp _) mQ (h p (rl.free hp).2)
theorem vC{K:Fg}{o:MO}(ha:M a=none)(rl:Rel K G H (bZ M a o)):Stp K G H (bZ M a o) G H M:=
 ⟨Same.refl G,rl.le λb m hb=>by rw[cL (λz=>by rw[z,ha] at hb;cases hb)];exact hb,λb u e1 e2 e3=>⟨e1,e2,by
  by_cases z:b=a
  ·rw[z];exact ha
  ·rw[cL z] at e3;exact e3⟩⟩
theorem aD3{K:Fg}(hM:M a=none)(hn:ks.length<64)(h:∀ns:List Int,ns.Perm ks->ns.Pairwise (· <= ·)->k (.lst (ns.map .int)) M):OpN K (aDE X) [.mt a] (bZ M a (.ob (.ext (i7 (gS X.w) a ks)))) k:=λG H vs Q rl e q=>by
 obtain⟨u,rfl,du⟩:=dens1 e
 rw[du.mt_]
 refine⟨a,ks,rfl,(rl.mem _ _ aT).2,hn,λl ns hl hp hs => ?_⟩
 have st:=(vC hM rl).trans ((vC hM rl).rel.new (o := .lst (ns.map V.int)) hl)
 exact q _ _ _ _ _ st (fN bF (Dens.of_map (λ_=>dB) ns)) (h ns hp hs)
theorem aAD{p1:Pos}(hh:X.A.handled=none)(hmS:X.mg "set" = none)(hmO:X.mg "sorted" = none)(h:GE X e Γ M λd M1=>∃ns:List Int,d = .lst (ns.map .int)/\ns.length<63/\∀ks:List Int,ks.Perm (once ns)->ks.Pairwise (· <= ·)->k (.lst (ks.map .int)) M1)(hgS:Gl X "set" := by rfl)(hgO:Gl X "sorted" := by rfl)(he1:je [e] X.env=(false,eval e X.env)::je [] X.env:=by rfl)(hp1:(dt pos' (je [] X.env)).any (·.1)=false:=by rfl)(he2:je [.Call (.Name "set" p2) [e] [] pos'] X.env=(false,eval (.Call (.Name "set" p2) [e] [] pos') X.env)::je [] X.env:=by rfl)(hp2:(dt pos (je [] X.env)).any (·.1)=false:=by rfl):
  GE X (.Call (.Name "sorted" p1) [.Call (.Name "set" p2) [e] [] pos'] [] pos) Γ M k:=by
 refine aO (zP hh) hmO Vz (aA (hs:=he2) (aZ (aCB hh) hmS (by kernel_rfl) (aA (hs:=he1) ?_) hgS '*' '*' he1 hp1)) hgO '*' '*' he2 hp2
 refine GE.mono h λd M1 ⟨ns,e1,hn,h1⟩=>aC ?_
 subst e1
 refine aGC rfl hn λa ha=>aC ?_
 exact aD3 ha (jm (o0 ns) '!') h1
end
end Z
namespace Q
open PySem L2 Z U HS
structure Up6(xs:List Int):Prop where
 up:xs.Pairwise (· < ·)
 two:2<=xs.length
 few:xs.length<=6
 bd:∀x∈xs, -700000000<=x/\x<=700000000
theorem Up6.up7(h:Up6 xs):Up7 xs:=⟨h.up,by have:=h.few;omega,λx hx=>by have:=h.bd x hx;omega⟩
structure Gd7(xs ys:List Int)(zs:List Str):Prop where
 x:Up7 xs
 y:Up7 ys
 x2:2<=xs.length
 y2:2<=ys.length
 g:R.Good (xs.length-1) zs
 hz:zs.length=ys.length-1
noncomputable def Gd7.Y{xs ys:List Int}{zs:List Str}(h:Gd7 xs ys zs):Yd:=fK xs ys zs h.x.up h.y.up h.g h.hz
noncomputable def gD(xs ys:List Int)(zs:List Str):D := .lst [.lst (xs.map .int), .lst (ys.map .int), .lst (zs.map .str)]
noncomputable def rB:Ct:=λds M k=>∃(p:Addr) (b:Int),ds=[.mt p]/\FdM M p b/\b<=900000/\∀xs M',Up6 xs->FdM M' p (b+20)->cZ p M M'->k (.lst (xs.map .int)) M'
noncomputable def aCZ:Ct:=λds M k=>∃(p:Addr) (b:Int) (xs:List Int),ds=[.mt p, .lst (xs.map .int)]/\FdM M p b/\b<=800000/\Up6 xs/\∀xs' M',Up7 xs'->2<=xs'.length->FdM M' p (b+40)->cZ p M M'->k (.lst (xs'.map .int)) M'
noncomputable def aA5:Ct:=λds M k=>∃(p:Addr) (b:Int) (w h:Nat),ds=[.mt p, .int (w:Int), .int (h:Int)]/\FdM M p b/\b<=800000/\w<=6/\h<=6/\∀zs M',R.Good w zs->zs.length=h->FdM M' p (b+100)->cZ p M M'->k (.lst (zs.map .str)) M'
noncomputable def sg7(b:Bool):Str:=⟨#[R.sg b]⟩
noncomputable def aA3:Ct:=λds M k=>∃(xs ys:List Int) (zs:List Str) (h:Gd7 xs ys zs) (x y:Int),ds=[gD xs ys zs, .int x, .int y]/\(∀c∈xs,2*c≠x)/\(∀c∈ys,2*c≠y)/\k (.str (sg7 (h.Y.has (qt x 2) (qt y 2)))) M
noncomputable def yG:Ct:=λds M k=>∃(p:Addr) (b:Int),ds=[.mt p]/\FdM M p b/\b<=1000/\∀xs ys zs xs' ys' zs' M',Gd7 xs ys zs->Gd7 xs' ys' zs'->k (.tup [gD xs ys zs,gD xs' ys' zs']) M'
noncomputable def yC:Ct:=λds M k=>∃xs xs':List Int,ds=[.lst (xs.map .int), .lst (xs'.map .int)]/\Up7 xs/\Up7 xs'/\k (.lst ((mids (R.bT xs xs')).map .int)) M
noncomputable def aBT:Ct:=λds M k=>∃n:Int,ds=[.int n]/\k (c8 (qt n 2)) M
noncomputable def zB(A B:Yd):D := .lst [yd (Yd.op c9 A B),yd (Yd.op cG A B),yd (Yd.op bY A B), .bl (decide (Yd.op bY A B=Yd.void))]
noncomputable def aCG:Ct:=λds M k=>∃(xs ys:List Int) (zs:List Str) (xs' ys':List Int) (zs':List Str) (h:Gd7 xs ys zs) (h':Gd7 xs' ys' zs'),ds=[gD xs ys zs,gD xs' ys' zs']/\∀M',k (zB h.Y h'.Y) M'
theorem aGA{z:Int}(h0:0<=z)(h1:z<4):∃v:Int,atI [D.int 0, .int 0, .int 1, .int (-2)] z=some (.int v)/\(v=0\/v=1\/v = -2):=by
 have:z=0\/z=1\/z=2\/z=3:=by omega
 rcases this with rfl|rfl|rfl|rfl
 ·exact⟨0,rfl, .inl rfl⟩
 ·exact⟨0,rfl, .inl rfl⟩
 ·exact⟨1,rfl, .inr (.inl rfl)⟩
 ·exact⟨-2,rfl, .inr (.inr rfl)⟩
theorem aHL{c:Nat}(hc:c=35\/c=46){z:Int}(h0:0<=z)(h1:z<2):∃c':Nat,atI [D.str ⟨#[c]⟩, .str "."] z=some (.str ⟨#[c']⟩)/\(c'=35\/c'=46):=by
 have:z=0\/z=1:=by omega
 rcases this with rfl|rfl
 ·exact⟨c,rfl,hc⟩
 ·exact⟨46,rfl, .inr rfl⟩
theorem aEH(g:R.Good n zs){z:Str}(hz:z∈zs){c:Nat}(hc:z.cps.toList[i]?=some c):c=35\/c=46:=by
 have hi:i<z.length:=by have:=(zGs hc).1;rw[qo] at this;exact this
 have e:=R.dJ hi
 rw[hc] at e
 rw[jk e]
 exact R.j4 g hz (by rw[<- (g z hz).1];exact hi)
theorem half_lt{x:Int}:qt m 2<(x:Rat)↔m<2*x:=by
 have h:=aII (t:=0) (m:=m) (x:=x) (v:=0)
 have e:(2*(((0:Rat).den:Nat):Int))=2:=rfl
 rw[e] at h
 have e2:(x:Rat)+((0:Int):Rat)*0=(x:Rat):=by grind
 rw[e2] at h
 rw[h]
 show m<x*2+0*(2*0)↔_
 omega
theorem aHP{x:Int}:(x:Rat)<qt m 2↔2*x<m:=by
 have h:=aJJ (t:=0) (m:=m) (x:=x) (v:=0)
 have e:(2*(((0:Rat).den:Nat):Int))=2:=rfl
 rw[e] at h
 have e2:(x:Rat)+((0:Int):Rat)*0=(x:Rat):=by grind
 rw[e2] at h
 rw[h]
 show x*2+0*(2*0)<m↔_
 omega
theorem nQ{x:Int}:(x:Rat)<=qt m 2↔2*x<=m:=by
 rw[<- Rat.not_lt,half_lt];omega
theorem vF(h:∀c∈ls,2*c≠m)(hw:∀w∈ws,w∈toQ ls):qt m 2∉ws:=λq=>by
 obtain⟨c,hc,e⟩:=qw.mp (hw _ q)
 have h1:=nQ.mp (show ((c:Int):Rat)<=qt m 2 by rw[e];exact Rat.le_refl)
 have h2:¬(2*c<m):=λz=>by have:=aHP.mpr z;rw[e] at this;exact absurd this (Rat.lt_irrefl)
 exact h c hc '!'
theorem gcd2(n:Int):wa 2 n=if n%2=0 then 2 else 1:=by
 have h1:=tj 2 n
 have h2:=rj 2 n
 have h3:wa 2 n<=2:=QH '*' (by exact_mod_cast h1)
 have h4:wa 2 n≠0:=λe=>by have:=(Ji.mp e).1;omega
 split
 ·rename_i h
  have:(2:Int)∣(wa 2 n:Int):=Int.dvd_coe_gcd (Int.dvd_refl 2) '!'
  omega
 ·rename_i h
  rcases (by omega:wa 2 n=1\/wa 2 n=2) with e|e
  ·exact e
  ·rw[e] at h2;omega
theorem aBB{n:Int}(h:n%2=0):c8 (qt n 2) = .tup [.int (n/2), .int 1]:=by
 refine aBH (a:=n/2) (b:=1) ?_ ?_
 ·rw[Ka,gcd2,if_pos h]
  show 1*n/2=_
  rw[VV]
 ·rw[Kb,if_neg '*',gcd2,if_pos h];rfl
theorem aE9{n:Int}(h:n%2≠0):c8 (qt n 2) = .tup [.int n, .int 2]:=by
 refine aBH (a:=n) (b:=2) ?_ ?_
 ·rw[Ka,gcd2,if_neg h]
  show 1*n/1=_
  rw[VV,K2]
 ·rw[Kb,if_neg '*',gcd2,if_neg h];rfl
noncomputable def InC(xs ys:List Int)(mx my:Int)(j k:Nat):Prop:=(2*xs.getD k 0<mx/\mx<2*xs.getD (k+1) 0)/\2*ys.getD j 0<my/\my<2*ys.getD (j+1) 0
theorem aAS(u:xs.Pairwise (· < ·)){k:Nat}(hk:k+1<xs.length)(h:2*xs.getD k 0<m/\m<2*xs.getD (k+1) 0):ix (toQ xs) (qt m 2)=(k:Int):=
 (qX u hk).mpr ⟨nQ.mpr '!',half_lt.mpr h.2⟩
section
variable {ys:List Int}{mx my:Int}
theorem aIN(h:Gd7 xs ys zs){k:Nat}(hj:j+1<ys.length)(hk:k+1<xs.length)(i:InC xs ys mx my j k):h.Y.has (qt mx 2) (qt my 2)=R.aW zs (k:Int) (j:Int):=by
 unfold Gd7.Y
 rw[sC,aAS h.x.up hk i.1,aAS h.y.up hj i.2]
theorem yE(h:∀c∈l,2*c≠m){k:Nat}(hk:k<l.length):2*l.getD k 0≠m:=h _ (aAZ hk)
theorem aH7(h:Gd7 xs ys zs)(hx:∀c∈xs,2*c≠mx)(hy:∀c∈ys,2*c≠my)(no:∀j k:Nat,j+1<ys.length->k+1<xs.length->¬InC xs ys mx my j k):h.Y.has (qt mx 2) (qt my 2)=false:=by
 refine fc.mpr λq => ?_
 unfold Gd7.Y at q
 rw[sC] at q
 obtain⟨a1,a2,b1,b2⟩:=aEE h.g q
 have hl:=h.hz
 obtain⟨k,ek⟩:∃k:Nat,ix (toQ xs) (qt mx 2)=(k:Int):=⟨_,(nk a1).symm⟩
 obtain⟨j,ej⟩:∃j:Nat,ix (toQ ys) (qt my 2)=(j:Int):=⟨_,(nk b1).symm⟩
 rw[ek] at a2
 rw[ej] at b2
 have hk:k+1<xs.length:=by omega
 have hj:j+1<ys.length:=by omega
 obtain⟨p1,p2⟩:=(qX h.x.up hk).mp ek
 obtain⟨q1,q2⟩:=(qX h.y.up hj).mp ej
 have p1:=nQ.mp p1
 have q1:=nQ.mp q1
 have n1:=yE hx (k:=k) '!'
 have n2:=yE hy (k:=j) '!'
 exact no j k hj hk ⟨⟨by omega,half_lt.mp p2⟩,by omega,half_lt.mp q2⟩
end
theorem aH2:("." : Str)=sg7 false:=by decide +kernel
theorem aIH{z:Str}(g:R.Good n zs)(hz:z∈zs){k:Nat}(hk:k<n):sg7 (decide (R.atS z k=35))=⟨#[R.atS z k]⟩:=by
 unfold sg7
 rcases R.j4 g hz hk with e|e
 ·rw[e];rfl
 ·rw[e];rfl
theorem vJ{k:Nat}(hk:k+1<l.length):l.getD k 0+l.getD (k+1) 0∈mids l:=by
 refine zMo (pC (i:=k) ?_ ?_)
 ·rw[zGe '!'];simp[show k<l.length by omega]
 ·rw[zGe hk];simp[hk]
theorem t7(u:l.Pairwise (· < ·)){k:Nat}(hk:k+1<l.length):ix (toQ l) (qt (l.getD k 0+l.getD (k+1) 0) 2)=(k:Int):=by
 have:l.getD k 0<l.getD (k+1) 0:=by
  have:=aHA u hk
  exact_mod_cast this
 exact aAS u hk ⟨by omega,by omega⟩
theorem aAR{C:Yd}{ms:List Int}(ul:ls.Pairwise (· < ·))(um:ms.Pairwise (· < ·))(hl:∀w∈C.ws,w∈toQ ls)(hm:∀w∈C.us,w∈toQ ms):C=Yd.void↔∀mx∈mids ls,∀my∈mids ms,C.has (qt mx 2) (qt my 2)=false:=by
 constructor
 ·rintro rfl mx _ my _
  exact Yd.void_has _ _
 ·intro h
  refine Yd.ext' λx y => ?_
  rw[Yd.void_has]
  refine fc.mpr λq => ?_
  have st:=C.steps (kA ul) (kA um) hl hm
  have nx:∀{l:List Int},l.Pairwise (· < ·)->∀{z:Rat},ix (toQ l) z ≠ -1->ix (toQ l) z≠((toQ l).length:Int)-1->∃k:Nat,k+1<l.length/\ix (toQ l) z=(k:Int):=λ{l} u {z} h1 h2=>by
   have r1:=pJ (toQ l) z
   have r2:=qQ (toQ l) z
   rw[d9] at r2 h2
   exact⟨(ix (toQ l) z).toNat,by omega,by omega⟩
  have ox:∀(P:Prop),P->(P->C.has x y=false)->False:=λP p f=>by rw[f p] at q;cases q
  obtain⟨k,hk,ek⟩:=nx ul (z:=x) (λz=>ox _ (pw z) (st.out x y)) (λz=>ox _ (fz (pw z)) (st.out x y))
  obtain⟨j,hj,ej⟩:=nx um (z:=y) (λz=>ox _ (fz (fz (pw z))) (st.out x y)) (λz=>ox _ (fz (fz (fz z))) (st.out x y))
  have h1:=st.at_ x y k j (by rw[d9];omega) (by rw[d9];omega) ek ej
  have h2:=st.at_ _ _ k j (by rw[d9];omega) (by rw[d9];omega) (t7 ul hk) (t7 um hj)
  have h3:=h _ (vJ hk) _ (vJ hj)
  rw[h2,<- h1,q] at h3
  cases h3
theorem aB0(A:Yd):Yd.op c9 A A=A:=Yd.ext' λx y=>by rw[hB,Bool.and_self]
theorem wO(A:Yd):Yd.op cG A A=A:=Yd.ext' λx y=>by rw[hE,Bool.or_self]
theorem aCF(A:Yd):Yd.op bY A A=Yd.void:=Yd.ext' λx y=>by rw[hL,Yd.void_has];cases A.has x y <;> rfl
theorem pM{ys:List Int}(h:Gd7 xs ys zs):gI (fJ xs) (fJ ys) zs=yd h.Y:=aD9 h.x.up h.y.up h.g h.hz
theorem p4{ys:List Int}(h:Gd7 xs ys zs):Y8 h.Y:=y8_d h.x h.y h.g h.hz
theorem aBY{ys:List Int}(h:Gd7 xs ys zs):(∀w∈h.Y.ws,w∈toQ xs)/\∀w∈h.Y.us,w∈toQ ys:=aEA h.x.up h.y.up h.g h.hz
theorem ok3(A B C:Yd):okD 4 (.lst [yd A,yd B,yd C])=true:=by
 simp only[okD,okDs,nW,xn]
theorem yS(h : -10000000000000000<=m/\m<=10000000000000000):Bq (qt m 2):=aIU (t:=0) ⟨by decide,by decide,by decide⟩ h
theorem O8.lie{A:Yd}(a:O8 Sx Sy A):BqL A.ws/\BqL A.us/\A.ws.length<=100/\A.us.length<=100:=by
 obtain⟨h1,h2,h3,h4⟩:=a.size
 exact⟨λw hw=>(fr8 (h1 w hw)).1,λw hw=>(fr8 (h2 w hw)).1,by omega,by omega⟩
theorem O8.sub{A:Yd}(a:O8 Sx Sy A){ms:List Int}(hx:∀w∈Sx,w∈toQ ls)(hy:∀w∈Sy,w∈toQ ms):(∀w∈A.ws,w∈toQ ls)/\∀w∈A.us,w∈toQ ms:=⟨λw h=>hx w (a.on.x w h),λw h=>hy w (a.on.y w h)⟩
section
variable {a:Expr}{c1 c2:Bool}
theorem q8(h1:GE X a Γ M λd M1=>d = .bl c1/\M1=M)(h2:GE X b Γ M λd M1=>d = .bl c2/\M1=M)(hk:k (.bl (c1&&c2)) M):GE X (.BoolOp .And [a,b] pos) Γ M k:=by
 refine lB (h1.mono λd M1 ⟨e,em⟩=>⟨c1,e,?_⟩)
 subst e em
 cases c1 with
 |true=>rw[if_pos rfl];exact jF (h2.mono λd M2 ⟨e,em⟩=>by subst e em;exact hk)
 |false=>rw[if_neg zBf];exact hk
theorem aI3(h1:GE X a Γ M λd M1=>d = .bl c1/\M1=M)(h2:GE X b Γ M λd M1=>d = .bl c2/\M1=M)(hk:k (.bl (c1||c2)) M):GE X (.BoolOp .Or [a,b] pos) Γ M k:=by
 refine aKQ (h1.mono λd M1 ⟨e,em⟩=>⟨c1,e,?_⟩)
 subst e em
 cases c1 with
 |false=>rw[if_neg zBf];exact jF (h2.mono λd M2 ⟨e,em⟩=>by subst e em;exact hk)
 |true=>rw[if_pos rfl];exact hk
end
theorem vP(b:Bool):decide (sg7 b=("#" : Str))=b:=by cases b <;> decide +kernel
theorem xI:∀{l l':List Int},l.Pairwise (· < ·)->l'.Pairwise (· < ·)->(∀x,x∈l↔x∈l')->l=l'
 |[],[],_,_,_=>rfl
 |[],b::r,_,_,h=>nomatch (h b).mpr (.head _)
 |a::r,[],_,_,h=>nomatch (h a).mp (.head _)
 |a::r,b::r',u,v,h=>by
  obtain⟨u1,u2⟩:=qz.mp u
  obtain⟨v1,v2⟩:=qz.mp v
  have e:a=b:=by
   rcases qe.mp ((h a).mp (.head _)) with e|e
   ·exact e
   ·have h1:=v1 a e
    rcases qe.mp ((h b).mpr (.head _)) with e'|e'
    ·exact e'.symm
    ·have:=u1 b e';omega
  subst e
  refine congrArg (a :: ·) (xI u2 v2 λx=>⟨λhx => ?_,λhx => ?_⟩)
  ·exact (qe.mp ((h x).mp (.tail _ hx))).elim (λz=>by have:=u1 x hx;omega) id
  ·exact (qe.mp ((h x).mpr (.tail _ hx))).elim (λz=>by have:=v1 x hx;omega) id
section
variable {xs':List Int}
theorem aBK(u:Up7 xs)(u':Up7 xs')(hm:m∈mids (R.bT xs xs')):(∀c∈xs,2*c≠m)/\(∀c∈xs',2*c≠m)/\∀c∈R.bT xs xs',2*c≠m:=
 ⟨λc hc=>mF (R.eA u.up u'.up) m hm c ((R.cQ _ _ _).mpr (.inl hc)),λc hc=>mF (R.eA u.up u'.up) m hm c ((R.cQ _ _ _).mpr (.inr hc)),mF (R.eA u.up u'.up) m hm⟩
theorem aFS(u:Up7 xs)(u':Up7 xs')(hm:m∈mids (R.bT xs xs')): -10000000000000000<=m/\m<=10000000000000000:=by
 have:=yF (B:=1000000000) (λk hk=>((R.cQ _ _ _).mp hk).elim (u.bd k) (u'.bd k)) m hm
 omega
theorem aCV{ws':List Rat}(h1:∀w∈ws,w∈toQ xs)(h2:∀w∈ws',w∈toQ xs'):∀w∈ws++ws',w∈toQ (R.bT xs xs'):=λw hw=>by
 rcases jo.mp hw with hw|hw
 ·obtain⟨x,hx,rfl⟩:=qw.mp (h1 w hw);exact qw.mpr ⟨x,(R.cQ _ _ _).mpr (.inl hx),rfl⟩
 ·obtain⟨x,hx,rfl⟩:=qw.mp (h2 w hw);exact qw.mpr ⟨x,(R.cQ _ _ _).mpr (.inr hx),rfl⟩
end
noncomputable def io7(b:Bool):Str:=if b=true then "in" else "out"
theorem uJ{P:Int->Prop}{x:Int}(hx:l[i]?=some x):(∀y∈l.take (i+1),P y)↔(∀y∈l.take i,P y)/\P x:=by
 rw[List.take_add_one,hx]
 constructor
 ·exact λh=>⟨λy hy=>h y (jo.mpr (.inl hy)),h x (jo.mpr (.inr '$'))⟩
 ·rintro⟨h1,h2⟩ y hy
  rcases jo.mp hy with hy|hy
  ·exact h1 y hy
  ·simp at hy;subst hy;exact h2
end Q
namespace Q
open PySem L2 Z
open U HS
section
variable {K:qf}
abbrev zl0:List Str:=["_law_feed_here", "_law_wide", "_law_high"]
abbrev zl1:List Str:=["_law_feed_here", "_law_lines_here"]
abbrev zl2:List Str:=["_law_grid", "_law_x", "_law_y"]
abbrev zl3:List Str:=["_law_feed_here", "_law_many"]
abbrev zl4:List Str:=["yard", "acrosses", "up"]
abbrev zl5:List Str:=["_law_one", "_law_other"]
abbrev zl6:List Str:=["_law_script", "_law_k"]
abbrev zl7:List Str:=["one", "other", "pairs"]
abbrev zl8:List Str:=["yard", "across", "up"]
abbrev zl9:List Str:=["xs", "ys", "rows"]
abbrev zl10:List Str:=["rows", "xs", "ys"]
abbrev zl11:List Str:=["yard", "xs", "ys"]
abbrev zl12:List Str:=["_law_feed_here"]
abbrev zl13:List Str:=["lines", "where"]
abbrev zl14:List Str:=["yard", "x", "y"]
abbrev zl15:List Str:=["rows", "place"]
abbrev zl16:List Str:=["row", "places"]
abbrev zl17:List Str:=["thing", "wide"]
abbrev zl18:List Str:=["top", "bottom"]
abbrev zl19:List Str:=["one", "other"]
abbrev zl20:List Str:=["_law_number"]
abbrev zl21:List Str:=["thing"]
theorem zSc{ps:List Str}{sc:Scope}(h:FnScope N ps sc:=by exact⟨rfl,rfl,rfl,by decide +kernel,rfl,by decide +kernel,by decide +kernel⟩):FnScope N ps sc:=h
theorem lD:FnScope ["_law_script", "_law_k", "_law_cell", "_law_great"] zl6 (aK p5):=zSc
theorem aH6(Df:R.Df K mg "_law_feed" p5 zl6 f fd)(T:Bt mg):FnOk P w K mg z CX0 1 f fd zl6 (spZ K aFQ):=by
 refine bL Df lD (λds M k h=>?_) (λ_ _ _ _ _ _ hr ds M k h=>?_)
 ·obtain⟨ns,i,rfl,_⟩:=h;rfl
 obtain⟨ns,i,rfl,hi,hi2,hk⟩:=h
 refine aD (aP 2 lD.nd (z6 (aD (lE (λΓ' M'=>M'=M/\∃c:Int,Γ'=[some (.fl (ns.map .int)),some (.int i),some (.int c),none]) ?_ ?_))))
 ·refine bK (a9 fW (aO aY T.len qu (aC (bV (.fl _) (dY ⟨_,rfl,(ite2 (λhb => ?_) (λhb => ?_))⟩))).4.3).5)
  ·have hb':=of_decide_eq_true hb
   rw[zLm] at hb'
   obtain⟨z,hz⟩:=aDX (ns:=ns) hi hb'
   exact aH (aP 2 lD.nd (aI aG (aJ (.fl _) hz ⟨rfl,_,rfl⟩).5.4))
  ·exact bD ⟨rfl,_,rfl⟩
 rintro Γ' M' ⟨rfl,c,rfl⟩
 refine aD (aP 3 lD.nd (aO t9 T.abs rq (aC (aB4 (aD (lE (λΓ' M1=>M1=M'/\∃g:Int,0<=g/\Γ'=[some (.fl (ns.map .int)),some (.int i),some (.int c),some (.int g)]) ?_ ?_)))).7.3))
 ·refine bK (a9 fW (aB 3 rfl (aN aB9 (z6 (z6 (cM ⟨by decide,by decide,by decide⟩ (dY ⟨_,rfl,(ite2 (λhb => ?_) (λhb => ?_))⟩)))))))
  ·exact aH (aP 3 lD.nd (z6 ⟨rfl,0,by omega,rfl⟩))
  ·exact bD ⟨rfl,_,by split <;> omega,rfl⟩
 rintro Γ' M' ⟨rfl,g,hg,rfl⟩
 refine aH (aL (iP ?_))
 have hm:=cy c (show (2147483399:Int)≠0 by decide)
 have hm2:=z7 c (show (0:Int)<2147483399 by decide)
 refine aA (aB 3 rfl (aN jH (aN cC (aN cC (aN eE (aN jH (z6 (cM (show (0:Int)<_ by first|decide|omega) (z6 (cM (by first|exact .inl ⟨by omega,by omega⟩|exact .inr ⟨by omega,by omega⟩) (aN eE (z6 (cM (by first|exact .inl ⟨by omega,by omega⟩|exact .inr ⟨by omega,by omega⟩) (bS (z6 (bS (z6 (cM (show (0:Int)<_ by first|decide|omega) (z6 (aC ⟨(show 3<=sizeLine by decide),λp hp=>(hk p _ hp ((Le.refl _).upd hp) ⟨g,_,0,aT,hg,?_,?_,by omega,by omega⟩)⟩)).3)))))).5)))))).7))))).3)
 ·exact cy _ '*'
 ·exact z7 _ '*'
theorem wL:FnScope zl21 zl21 (aK gF):=zSc
theorem wK(Df:R.Df K mg "is_whole" gF zl21 f fd)(T:Bt mg):FnOk P w K mg z CX0 1 f fd zl21 (spZ K l8):=by
 refine bL Df wL (λds M k h=>?_) (λ_ _ _ _ _ _ hr ds M k h=>?_)
 ·obtain⟨d,rfl,_⟩:=h;rfl
 obtain⟨d,rfl,hs,hk⟩:=h
 refine aH (aL (lB (dL (.inl rfl) T.isi T.int R.BI ⟨_, .self hs,⟨_,rfl,?_⟩⟩.4)))
 rcases uV d with ⟨i,rfl⟩|⟨e0,e1|⟨e1,e2⟩⟩
 ·rw[iI]
  refine bA (jF (qF (dL (.inr (.inl rfl)) T.isi T.bool R.BB ⟨_, .self trivial,?_⟩.4)))
  rw[bI]
  exact⟨_,rfl,hk⟩
 ·rw[e1]
  rw[e0] at hk
  exact b7 hk
 ·rw[e1]
  refine bA (jF (qF (dL (.inr (.inl rfl)) T.isi T.bool R.BB ⟨_, .self hs,?_⟩.4)))
  rw[e2]
  rw[e0] at hk
  exact⟨_,rfl,hk⟩
theorem eS:FnScope ["one", "other", "rest"] zl19 (aK dN):=zSc
theorem oJ(Df:R.Df K mg "common_divisor" dN zl19 f fd)(T:Bt mg):FnOk P w K mg z CX0 1 f fd zl19 (spZ K rF):=by
 refine bL Df eS (λds M k h=>?_) (λ_ _ _ _ _ _ hr ds M k h=>?_)
 ·obtain⟨a,b,rfl,_⟩:=h;rfl
 obtain⟨a,b,rfl,hk⟩:=h
 refine aD (uO (λm Γ' M'=>M'=M/\∃(x y:Int) (v:Option D),Γ'=[some (.int x),some (.int y),v]/\wa x y=wa a b/\m=y.natAbs) (n:=b.natAbs) ⟨rfl,a,b,_,rfl,rfl,rfl⟩ ?_)
 rintro m Γ' M' ⟨rfl,x,y,v,rfl,hg,rfl⟩
 refine a9 lY (z6 (pY ⟨_,rfl,(ite2 (λhb => ?_) (λhb => ?_))⟩)).5
 ·have hy:y≠0:=λz=>by subst z;simp at hb
  refine aD (aP 2 eS.nd (aN aHK (cM hy (aD (aP 0 eS.nd (aH (aP 1 eS.nd ⟨_,Num.aIA x y hy,rfl,_,_,_,rfl,?_,rfl⟩.7)).5))).5.4))
  rw[Num.aEJ];exact hg
 ·have hy:y=0:=by simpa using hb
  subst hy
  refine aH (aL (aO t9 T.abs rq (aC (aB4 ?_)).4.3))
  rw[R.aGS,hg]
  exact hk
theorem jY:FnScope ["_law_feed_here", "_law_many", "_law_digit", "_law_step", "_law_mixed"] zl3 (aK kB):=zSc
theorem aGL(Df:R.Df K mg "_law_next" kB zl3 f fd):FnOk P w K mg z CX0 1 f fd zl3 (spZ K qE):=by
 refine bL Df jY (λds M k h=>?_) (λ_ _ _ _ _ _ hr ds M k h=>?_)
 ·obtain⟨p,n,b,rfl,_⟩:=h;rfl
 obtain⟨p,n,b,rfl,hn,hn2,⟨g,m,st,hM,hg,hm,hm2,hs,hs2⟩,hb,hk⟩:=h
 refine aD (bK (a9 aFL (aI aG (z6 (aJ (.mt hM) rfl (z6 (dY ⟨_,rfl,(ite2 (λhgt => ?_) (λhgt => ?_))⟩)))).4)))
 ·exact aD (aP 2 jY.nd (aN jH (aI aG (z6 (aJ (.mt hM) rfl (cM (show (0:Int)<_ by first|decide|omega) (aD (kX (aN qW (aI aG (z6 (aJ (.mt hM) rfl (cM ⟨hn,hn2⟩ (aAV (z6 ⟨p,0,0,_,rfl,rfl,hM,rfl,(aH (aL (hk _ _ (cy _ '!') (z7 _ hn) ⟨_,m,st,aT,Int.ediv_nonneg hg '!',hm,hm2,hs,by omega⟩ (cZ.refl p M).upd (λa ha=>cL ha)).7))⟩).4)).5)).4))))).5)).4)))
 ·refine bD (aD (aP 3 jY.nd (aN cC (aI aG (z6 (aJ (.mt hM) rfl (z6 (bS (aD (kX (aB 3 rfl (aAV (z6 ⟨p,2,2,_,rfl,rfl,hM,rfl,(aD (aP 4 jY.nd ?_))⟩).4)))))))).4))))
  have b1 : -(2^64)<st+1/\st+1<2^64:=by omega
  refine aN jH (aN cC (aN cC (aI aG (z6 (aJ (.mt aT) rfl (aN eE (aN eE (z6 (aB 3 rfl (cM (.inl ⟨by decide,by decide⟩) (aB 3 rfl (cM (.inr b1) (bS (aN eE (z6 (aB 3 rfl (cM (.inl ⟨by decide,by decide⟩) (bS (z6 (cM (show (0:Int)<_ by first|decide|omega) (aD (aP 4 jY.nd (aN jH (aN cC (aN cC (aN eE (aB 4 rfl (aB 4 rfl (cM (.inl (R.sK _ '*' '*')) (aN eE ?_))))))))))))))))))))))))))).4)))
  exact z6 (aB 4 rfl (cM (.inl ⟨by decide,by decide⟩) (bS (aB 3 rfl (bS (z6 (cM (show (0:Int)<_ by first|decide|omega) (aD (aP 4 jY.nd (aN jH (aN cC (aN eE (aB 4 rfl (aB 4 rfl (cM (.inl (R.sK _ '*' '*')) (aN eE (z6 (aB 4 rfl (cM (.inl ⟨by decide,by decide⟩) (bS (z6 (cM (show (0:Int)<_ by first|decide|omega) (aH (aL (aN jH (aN qW (aB 4 rfl (z6 (cM ⟨by decide,by decide⟩ (cM hn (hk _ _ (cy _ '!') (z7 _ hn) ⟨g,m,st+1,aT,hg,hm,hm2,by omega,by omega⟩ (cZ.refl p M).upd (λa ha=>cL ha))).5)))))))))))))))))))))))))))))
theorem mG:FnScope ["_law_feed_here", "_law_most", "_law_found", "_law_k"] zl12 (aK lF):=zSc
theorem aE4{f:Addr}{fd:FuncData}(Df:R.Df K mg "_law_lines" lF zl12 f fd)(aK9:R.Df K mg "_law_next" kB zl3 aK7 aK8)(aLA:FnOk P w K mg z CX0 1 aK7 aK8 zl3 (spZ K qE))(T:Bt mg):FnOk P w K mg z CX0 2 f fd zl12 (spZ K rB):=by
 refine bL Df mG (λds M k h=>?_) (λ_ _ _ _ _ _ hr ds M k h=>?_)
 ·obtain⟨p,b,rfl,_⟩:=h;rfl
 obtain⟨p,b,rfl,hF0,hb,hk⟩:=h
 refine aD (aP 1 mG.nd (aI aG (cT (z6 (z6 (aN aB9 (z6 (z6 (cM ⟨by decide,by decide,by decide⟩ (aC ⟨(show 3<=sizeLine by decide),(aF aLA (by decide).6 aK9.m aK9.F.kp aK9.b (z6 (aC ⟨p,_,_,rfl,by decide,by decide,hF0,by omega,λz1 M1 z10 z11 hF1 hB1 hE1 => ?_⟩)).3.4.3)⟩))))).3).3).3)))
 obtain⟨most,hmo,hmo1,hmo2⟩:=aHE z10 z11
 refine aJ '%' hmo (aD (aP 2 mG.nd (iP (aN cU (aF aLA (by decide).6 aK9.m aK9.F.kp aK9.b (aN cC (aN eE (z6 (cM (by first|exact .inl ⟨by omega,by omega⟩|exact .inr ⟨by omega,by omega⟩) (z6 (bS (aC ⟨p,_,_,rfl,by omega,by omega,hF1,by omega,λz2 M2 z20 z21 hF2 hB2 hE2 => ?_⟩)))).5))).3.4.3)).3)))
 refine aB 1 rfl (bS (aC ⟨(show 1<=sizeLine by decide),λa ha => ?_⟩))
 have hap:a≠p:=hF2.ne ha
 have hB12:=hB1.trans hB2
 have haM:M a=none:=hB12.none_of ha hap
 refine aD (f8 (fY T.range (aN cC (z6 (aF aLA (by decide).6 aK9.m aK9.F.kp aK9.b (z6 (aC ⟨p,_,_,rfl,by decide,by decide,hF2.new hap,by omega,λz3 M3 z30 z31 hF3 hB3 hE3 => ?_⟩)).3.4.3))).3))
 refine bS (aC ⟨_,rfl,by omega,by omega,?_⟩)
 obtain⟨n3,hn3⟩:∃n3:Nat,1+z3=(n3:Int):=⟨(1+z3).toNat,by omega⟩
 rw[hn3,ql]
 refine⟨λi Γ' M'=>∃(xs:List Int) (v4:Option D),Γ'=[some (.mt p),some (.int most),some (.mt a),v4]/\M' a=some (.lst (xs.map .int))/\FdM M' p (b+3+i)/\cZ p M M'/\xs.length=i+1/\xs.Pairwise (· < ·)/\∀x∈xs, -100000000<=x/\x<=100000000+100000001*i,
  ⟨[z2-most],_,rfl,(hE3 a hap).trans aT,hF3.mono '!',(hB12.new haM).trans hB3,rfl,Qz _ _,λx hx=>by rw[ji] at hx;omega⟩,?_,?_⟩
 ·rintro i d Γ' M' hd ⟨xs,v4,rfl,hM,hF,hB,hl,hp,hbd⟩
  obtain⟨hi,rfl⟩:=cY hd
  obtain⟨xr,xl,rfl⟩:=aG3 (l:=xs) (λe=>by rw[e] at hl;simp at hl)
  have hxl:=hbd xl '$'
  refine cW 3 mG.nd (aH (jV (gG xk wz wy fA (⟨⟨rfl,_,hM⟩,(aN cC (aN cC (aI aG (gU fM (z6 ⟨_,rfl,(aJ (.mt hM) (by rw[qj];exact o7 _ _) (z6 (bS (aF aLA (by decide).6 aK9.m aK9.F.kp aK9.b (aC ⟨p,most,_,rfl,by omega,by omega,hF,by omega,λz4 M4 z40 z41 hF4 hB4 hE4 => ?_⟩).5.3.4.3))))⟩)).7))).3⟩).7)))
  refine bS (aC (g7 ((hE4 a hap).trans hM) (by rw[zLm,hl];exact jm (show i+1<=20 by omega) '*') ⟨xr++[xl]++[xl+1+z4],_,rfl,by rw[aT];simp,(hF4.new hap).mono '!',(hB.trans hB4).new haM,by rw[ja,hl];rfl,?_,λx hx => ?_⟩))
  ·rw[y8]
   refine⟨hp,Qz _ _,λx hx y hy => ?_⟩
   rw[ji] at hy
   have hx2:x<=xl:=by
    rcases jo.mp hx with hx|hx
    ·exact K1 ((y8.mp hp).2.2 x hx xl '$')
    ·rw[ji] at hx;omega
   omega
  ·rcases jo.mp hx with hx|hx
   ·have:=hbd x hx;omega
   ·rw[ji] at hx;omega
 ·rintro Γ' M' ⟨xs,v4,rfl,hM,hF,hB,hl,hp,hbd⟩
  rw[bN] at hl hF hbd
  exact gO 2 rfl hM (aH (aL (hk xs _ ⟨hp,by omega,by omega,λx hx=>by have:=hbd x hx;omega⟩ ((hF.del hap).mono '!') (hB.del haM)).7))
theorem nS:FnScope ["_law_feed_here", "_law_lines_here", "_law_way", "_law_found", "_law_line"] zl1 (aK pS):=zSc
theorem aFW{f:Addr}{fd:FuncData}{aLB:Addr}{aLC:FuncData}(Df:R.Df K mg "_law_like" pS zl1 f fd)(aK9:R.Df K mg "_law_next" kB zl3 aK7 aK8)(aLA:FnOk P w K mg z CX0 1 aK7 aK8 zl3 (spZ K qE))(aLD:R.Df K mg "_law_lines" lF zl12 aLB aLC)(aLE:FnOk P w K mg z CX0 2 aLB aLC zl12 (spZ K rB))(T:Bt mg):FnOk P w K mg z CX0 3 f fd zl1 (spZ K aCZ):=by
 refine bL Df nS (λds M k h=>?_) (λ_ _ _ _ _ _ hr ds M k h=>?_)
 ·obtain⟨p,b,xs,rfl,_⟩:=h;rfl
 obtain⟨p,b,xs,rfl,hF0,hb,ux,hk⟩:=h
 have l2:=ux.two
 have l6:=ux.few
 refine aD (aP 2 nS.nd (aF aLA (by decide).6 aK9.m aK9.F.kp aK9.b (z6 (aC ⟨p,_,_,rfl,by decide,by decide,hF0,by omega,λz1 M1 z10 z11 hF1 hB1 hE1 => ?_⟩)).3.4.3))
 refine aD (bK (a9 gT (z6 (iD ⟨_,rfl,(ite2 (λh0 => ?_) (λh0=>bD ?_))⟩)).7))
 ·exact aH (aL (aZ bC T.list R.BL (aC (cH '%' (hk xs _ ux.up7 l2 (hF1.mono '!') hB1))).5.3))
 refine aD (bK (a9 gT (z6 (iD ⟨_,rfl,(ite2 (λh1 => ?_) (λh1=>bD ?_))⟩)).7))
 ·refine aH (aL (aF aLE (by decide).6 aLD.m aLD.F.kp aLD.b (aC ⟨p,_,rfl,hF1,by omega,λxs2 M2 u2 hF2 hB2 => ?_⟩).4.3))
  exact hk xs2 _ u2.up7 u2.two (hF2.mono '!') (hB1.trans hB2)
 refine aD (aP 3 nS.nd (aE8 λa ha => ?_))
 have hap:a≠p:=hF1.ne ha
 have haM:M a=none:=hB1.none_of ha hap
 obtain⟨f,hf,hfa⟩:=aGU (xs:=xs) (i:=0) '!' '!'
 have hf:xs[0]?=some f:=hf
 have bf:=ux.bd f (zMo hf)
 refine aD (f8 (bR ⟨_, .inr (.inl rfl),(⟨λi Γ' M'=>∃(ks:List Int) (v4:Option D),Γ'=[some (.mt p),some (.lst (xs.map .int)),some (.int z1),some (.mt a),v4]/\M' a=some (.ob (kI ks))/\ks.Nodup/\ks.length<=i/\(∀x∈ks, -800000000<=x/\x<=800000000)/\(1<=i->∃x∈ks,x≠f-1)/\(2<=i->∃x∈ks,f-1<=x)/\FdM M' p (b+1+i)/\cZ p M M',⟨[],_,rfl,aT, .nil,by simp,(λx hx=>nomatch hx),(λz=>absurd z '!'),(λz=>absurd z '!'),(hF1.new hap).mono '!',hB1.new haM⟩,?_,?_⟩)⟩.5))
 ·rintro i d Γ' M' hd ⟨ks,v4,rfl,hM,hnd,hl,hbd,e0,e1,hF,hB⟩
  obtain⟨x,hx,rfl⟩:=bP hd
  have hi:i<xs.length:=(zGs hx).1
  have bx:=ux.bd x (zMo hx)
  have fx:i=0/\x=f\/f+1<=x:=by
   by_cases z:i=0
   ·subst z;rw[hf] at hx;exact .inl ⟨rfl,(jk hx).symm⟩
   ·have h0':=zGs hf
    have hi':=zGs hx
    have:=kd.mp ux.up 0 i h0'.1 hi'.1 '!'
    rw[h0'.2,hi'.2] at this
    exact .inr '!'
  refine cW 4 nS.nd (aH (kX (cS (yJ (aB 3 rfl (aN cC (aB 4 rfl (aI aG (cT (z6 (z6 (z6 (gU fM (z6 ⟨_,rfl,(aC ⟨(show 4<=sizeLine by decide),(aF aLA (by decide).6 aK9.m aK9.F.kp aK9.b (z6 (aC ⟨p,_,_,rfl,by decide,by decide,hF,by omega,λz3 M3 z30 z31 hF3 hB3 hE3 => ?_⟩)).3.4.3)⟩)⟩)).3).3).3).3)))))))))
  obtain⟨v,hv,hv3⟩:=aGA z30 z31
  refine aJ '%' hv (bS ?_)
  have hM3:=(hE3 a hap).trans hM
  have hal:=pD ks (x+v)
  have nv:v ≠ -1:=by rcases hv3 with rfl|rfl|rfl <;> decide
  refine⟨a,_,ks,rfl,rfl,hM3,jm (show _<=20 by omega) '*',⟨iZ ks (x+v),_,rfl,aT,xU hnd _,by omega,λy hy => ?_,λ_ => ?_,λh2 => ?_,(hF3.new hap).mono '!',(hB.trans hB3).new haM⟩⟩
  ·rcases fD.mp hy with hy|rfl
   ·exact hbd y hy
   ·omega
  ·rcases fx with ⟨_,rfl⟩|fx
   ·exact⟨x+v,fD.mpr (.inr rfl),λz=>nv (Int.add_left_cancel (z.trans Int.sub_eq_add_neg))⟩
   ·by_cases hi1:1<=i
    ·obtain⟨y,hy,hy1⟩:=e0 hi1
     exact⟨y,fD.mpr (.inl hy),hy1⟩
    ·have:i=0:=by omega
     subst this
     rw[hf] at hx
     have:=jk hx
     omega
  ·exact⟨x+v,fD.mpr (.inr rfl),by omega⟩
 rintro Γ' M' ⟨ks,v4,rfl,hM,hnd,hl,hbd,e0,e1,hF,hB⟩
 rw[zLm] at hl e0 e1 hF
 obtain⟨y0,hy0,ny0⟩:=e0 '!'
 obtain⟨y1,hy1,ny1⟩:=e1 '!'
 refine aD (kX (cS (yJ (aB 3 rfl (aN cU (aN cU (aI aG (z6 (aJ '%' hfa (z6 (bS (aF aLA (by decide).6 aK9.m aK9.F.kp aK9.b (z6 (aC ⟨p,_,_,rfl,by decide,by decide,hF,by omega,λz3 M3 z30 z31 hF3 hB3 hE3 => ?_⟩)).3.4.3))))).5)))))))
 refine bS ?_
 have hM3:=(hE3 a hap).trans hM
 have hal:=pD ks (f-1-z3)
 refine⟨a,_,ks,rfl,rfl,hM3,jm (show _<=20 by omega) '*',?_⟩
 have two:2<=(iZ ks (f-1-z3)).length:=by
  by_cases z:y1=f-1-z3
  ·exact wW (fD.mpr (.inl hy0)) (fD.mpr (.inr rfl)) '!'
  ·exact wW (fD.mpr (.inl hy1)) (fD.mpr (.inr rfl)) z
 refine aH (aL (dC fT (aO (vA hr.hd) T.sorted BSorted (aB 3 rfl (aC (zK aT '!' λns hp hs=>(d7 (d6 (z6 ⟨_,rfl,(gJ '%' ?_)⟩)))))).3)))
 rw[show cutD (ns.map D.int) none (some 6)=(ns.take 6).map D.int from by rw[show (6:Int)=((6:Nat):Int) from rfl,aHJ,List.map_take]]
 have hlp:=hp.length_eq
 refine hk (ns.take 6) _ ⟨(aFN hp hs (xU hnd _)).sublist (ra _ _),by rw[xw];omega,λx hx => ?_⟩ (by rw[xw];omega) ((hF3.new hap).mono '!') ((hB.trans hB3).new haM)
 rcases fD.mp (hp.mem_iff.mp (List.mem_of_mem_take hx)) with hy|rfl
 ·have:=hbd x hy;omega
 ·omega
theorem n4:FnScope ["_law_feed_here", "_law_wide", "_law_high", "_law_share", "_law_rows_here", "_law_j"] zl0 (aK qO):=zSc
theorem aHI{f:Addr}{fd:FuncData}(Df:R.Df K mg "_law_rows" qO zl0 f fd)(aK9:R.Df K mg "_law_next" kB zl3 aK7 aK8)(aLA:FnOk P w K mg z CX0 1 aK7 aK8 zl3 (spZ K qE))(T:Bt mg):FnOk P w K mg z CX0 2 f fd zl0 (spZ K aA5):=by
 refine bL Df n4 (λds M k h=>?_) (λ_ _ _ _ _ _ hr ds M k h=>?_)
 ·obtain⟨p,b,wd,hg,rfl,_⟩:=h;rfl
 obtain⟨p,b,wd,hg,rfl,hF0,hb,hw6,hh6,hk⟩:=h
 refine aD (aP 3 n4.nd (aF aLA (by decide).6 aK9.m aK9.F.kp aK9.b (z6 (aC ⟨p,_,_,rfl,by decide,by decide,hF0,by omega,λz1 M1 z10 z11 hF1 hB1 hE1 => ?_⟩)).3.4.3))
 refine aD (aP 4 n4.nd (iP (aC ⟨(show 0<=sizeLine by decide),λa ha => ?_⟩)))
 have hap:a≠p:=hF1.ne ha
 have haM:M a=none:=hB1.none_of ha hap
 refine aD (f8 (fY T.range (aC ⟨_,rfl,by omega,by omega,?_⟩).7.3))
 rw[ql]
 refine⟨λi Γ' M'=>∃(zs:List Str) (v5:Option D),Γ'=[some (.mt p),some (.int (wd:Int)),some (.int (hg:Int)),some (.int z1),some (.mt a),v5]/\M' a=some (.lst (zs.map .str))/\FdM M' p (b+1+12*i)/\cZ p M M'/\zs.length=i/\R.Good wd zs,⟨[],_,rfl,aT,(hF1.new hap).mono '!',hB1.new haM,rfl,λz hz=>(nomatch hz)⟩,?_,?_⟩
 ·rintro i d Γ' M' hd ⟨zs,v5,rfl,hM,hF,hB,hl,hgd⟩
  obtain⟨hi,rfl⟩:=cY hd
  refine cW 5 n4.nd (aH (jV (gG xk wz wy fA (aB 4 rfl (⟨⟨rfl,_,hM⟩,aA (gG we wo wm iT (ge_str ⟨rfl,aA (bB ["_law_feed_here", "_law_share"] [0,3] (fY T.range (aC ⟨_,rfl,by omega,by omega,?_⟩).5.3))⟩))⟩)))))
  rw[ql]
  refine cA (by rw[bN];exact R.aX '!') (λi2 acc M2=>∃cs:List Nat,acc=(cs.map λc=>(⟨#[c]⟩:Str)).map D.str/\(∀c∈cs,c=35\/c=46)/\cs.length=i2/\FdM M2 p (b+1+12*i+i2)/\cZ p M M2/\M2 a=some (.lst (zs.map .str))) ⟨[],rfl,λc hc=>(nomatch hc),rfl,hF.mono '!',hB,hM⟩ ?_ ?_
  ·rintro i2 d2 acc M2 hd2 ⟨cs,rfl,hcs,hl2,hF2,hB2,hM2⟩ _ _ _ _ _
   obtain⟨hi2,rfl⟩:=cY hd2
   refine bG (bA λ_ _ _ _ _=>(aI aG (ge_str (aZ m9 T.int R.BI (eI sW (aF aLA (by decide).6 aK9.m aK9.F.kp aK9.b (z6 (aC ⟨p,_,_,rfl,by decide,by decide,hF2,by omega,λz3 M3 z30 z31 hF3 hB3 hE3 => ?_⟩)).3.5.3)).3))))
   refine aB 2 rfl (dY (aC (qV (kY (by decide +kernel) (aD7 _) ⟨cs++[_],by rw[qj,qj];rfl,λq hq => ?_,by rw[ja,hl2];rfl,hF3.mono '!',hB2.trans hB3,(hE3 a hap).trans hM2⟩))))
   rcases jo.mp hq with hq|hq
   ·exact hcs q hq
   ·rw[ji] at hq
    rw[hq]
    split
    ·exact .inr rfl
    ·exact .inl rfl
  ·rintro acc M2 ⟨cs,rfl,hcs,hl2,hF2,hB2,hM2⟩
   rw[bN] at hl2 hF2
   refine aC (iR '%' (by decide +kernel) (by rw[oI,zLm];omega) ?_)
   rw[R.gA,R.jZ]
   exact aC (g7 hM2 (by rw[zLm,hl];exact jm (show i<=20 by omega) '*') ⟨zs++[R.ofL cs],_,rfl,by rw[aT,qj];rfl,(hF2.new hap).mono '!',hB2.new haM,by rw[ja,hl];rfl,sD hgd hl2 hcs⟩)
 ·rintro Γ' M' ⟨zs,v5,rfl,hM,hF,hB,hl,hgd⟩
  rw[bN] at hl hF
  exact gO 4 rfl hM (aH (aL (aB 4 rfl (hk zs _ hgd hl ((hF.del hap).mono '!') (hB.del haM)))))
theorem fG:FnScope ["_law_feed_here", "_law_xs", "_law_ys", "_law_one", "_law_way", "_law_rows_here", "_law_row"] zl12 (aK n0):=zSc
theorem aD8{f:Addr}{fd:FuncData}{aLB aLF aLG:Addr}{aLC aLH aLI:FuncData}(Df:R.Df K mg "_law_grids" n0 zl12 f fd)(aLD:R.Df K mg "_law_lines" lF zl12 aLB aLC)(aLE:FnOk P w K mg z CX0 2 aLB aLC zl12 (spZ K rB))(aLJ:R.Df K mg "_law_rows" qO zl0 aLF aLH)(aLK:FnOk P w K mg z CX0 2 aLF aLH zl0 (spZ K aA5))(aK9:R.Df K mg "_law_next" kB zl3 aK7 aK8)(aLA:FnOk P w K mg z CX0 1 aK7 aK8 zl3 (spZ K qE))(aLL:R.Df K mg "_law_like" pS zl1 aLG aLI)(aLM:FnOk P w K mg z CX0 3 aLG aLI zl1 (spZ K aCZ))(T:Bt mg):FnOk P w K mg z CX0 4 f fd zl12 (spZ K yG):=by
 refine bL Df fG (λds M k h=>?_) (λ_ _ _ _ _ _ hr ds M k h=>?_)
 ·obtain⟨p,b,rfl,_⟩:=h;rfl
 obtain⟨p,b,rfl,hF00,hb,hk⟩:=h
 refine aD (aP 1 fG.nd (aF aLE (by decide).6 aLD.m aLD.F.kp aLD.b (aC ⟨p,_,rfl,hF00,by omega,λxs Mx ux hFx hBx => ?_⟩).4.3))
 refine aD (aP 2 fG.nd (aF aLE (by decide).6 aLD.m aLD.F.kp aLD.b (aC ⟨p,_,rfl,hFx,by omega,λys My uy hFy hBy => ?_⟩).4.3))
 have x2:=ux.two
 have y2:=uy.two
 have x6:=ux.few
 have y6:=uy.few
 refine aD (aP 3 fG.nd (cT (aF aLK (by decide).6 aLJ.m aLJ.F.kp aLJ.b (aN cU (aO aY T.len qu (aC (bV '%' (z6 (bS (aN cU (aO aY T.len qu (aC (bV '%' (z6 (bS (aC ⟨p,_,xs.length-1,ys.length-1,by rw[zLm,zLm,show ((xs.length:Int)-1)=((xs.length-1:Nat):Int) by omega,show ((ys.length:Int)-1)=((ys.length-1:Nat):Int) by omega],hFy,by omega,by omega,by omega,λzs M0 g l hF0 hB0 => ?_⟩))))).7.3)).3)))).5.3)).3.4.3).3.7.3.5.3))
 refine aC ⟨(show 3<=sizeLine by decide),?_⟩
 have h7:Gd7 xs ys zs:=⟨ux.up7,uy.up7,x2,y2,g,l⟩
 have hBz:=(hBx.trans hBy).trans hB0
 refine aD (aP 4 fG.nd (aF aLA (by decide).6 aK9.m aK9.F.kp aK9.b (z6 (aC ⟨p,_,_,rfl,by decide,by decide,hF0,by omega,λz1 M1 z10 z11 hF1 hB1 hE1 => ?_⟩)).3.4.3))
 have hBn:=hBz.trans hB1
 refine aD (bK (a9 gT (aB 4 rfl (z6 (iD ⟨_,rfl,(ite2 (λh0 => ?_) (λh0=>bD ?_))⟩)))))
 ·refine aD (aP 5 fG.nd (iP (aC ⟨(show 0<=sizeLine by decide),λa ha => ?_⟩)))
  have hap:a≠p:=hF1.ne ha
  refine aD (f8 (bR (aI aG (aB 3 rfl (z6 (aJ '%' rfl ⟨_, .inr (.inl rfl),(⟨λi Γ' M'=>∃(qs:List Str) (v6:Option D),Γ'=[some (.mt p),some (.lst (xs.map .int)),some (.lst (ys.map .int)),some (gD xs ys zs),some (.int z1),some (.mt a),v6]/\M' a=some (.lst (qs.map .str))/\FdM M' p (b+200+12*i)/\qs.length=i/\R.Good (xs.length-1) qs,⟨[],_,rfl,aT,(hF1.new hap).mono '!',rfl,λz hz=>(nomatch hz)⟩,?_,?_⟩)⟩))))))
  ·rintro i d Γ' M' hd ⟨qs,v6,rfl,hM,hF,hl,hgd⟩
   obtain⟨z,hz,rfl⟩:=bP hd
   have hi:i<zs.length:=(zGs hz).1
   have hzl:=(g z (zMo hz)).1
   refine cW 6 fG.nd (aH (jV (gG xk wz wy fA (aB 5 rfl (⟨⟨rfl,_,hM⟩,aA (gG we wo wm iT (ge_str ⟨rfl,aA (bB zl12 [0] (aCL (aB 6 rfl ⟨_,rfl,(cA (ds:=eV z) (by rw[dD];exact R.aX '!') (λi2 acc M2=>∃cs:List Nat,acc=(cs.map λc=>(⟨#[c]⟩:Str)).map D.str/\(∀c∈cs,c=35\/c=46)/\cs.length=i2/\FdM M2 p (b+200+12*i+i2)/\M2 a=some (.lst (qs.map .str))) ⟨[],rfl,λc hc=>(nomatch hc),rfl,hF.mono '!',hM⟩ ?_ ?_)⟩)))⟩))⟩)))))
   ·rintro i2 d2 acc M2 hd2 ⟨cs,rfl,hcs,hl2,hF2,hM2⟩ _ _ _ _ _
    obtain⟨c,hc,rfl⟩:=bP hd2
    have hi2:i2<z.length:=by have:=(zGs hc).1;rw[qo] at this;exact this
    refine bG (bA λ_ _ _ _ _=>(aI aG (cT (ge_str (aC ⟨(show 2<=sizeLine by decide),(aF aLA (by decide).6 aK9.m aK9.F.kp aK9.b (z6 (aC ⟨p,_,_,rfl,by decide,by decide,hF2,by omega,λz3 M3 z30 z31 hF3 hB3 hE3 => ?_⟩)).3.5.3)⟩)).3.4.3)))
    obtain⟨c',hv,hv3⟩:=aHL (aEH g (zMo hz) hc) z30 z31
    refine aJ '%' hv ⟨cs++[c'],by rw[qj,qj];rfl,λq hq => ?_,by rw[ja,hl2];rfl,hF3.mono '!',(hE3 a hap).trans hM2⟩
    rcases jo.mp hq with hq|hq
    ·exact hcs q hq
    ·rw[ji] at hq
     rw[hq];exact hv3
   ·rintro acc M2 ⟨cs,rfl,hcs,hl2,hF2,hM2⟩
    rw[dD] at hl2 hF2
    refine aC (iR '%' (by decide +kernel) (by rw[oI,zLm];omega) ?_)
    rw[R.gA,R.jZ]
    exact aC (g7 hM2 (by rw[zLm,hl];exact jm (show i<=20 by omega) '*') ⟨qs++[R.ofL cs],_,rfl,by rw[aT,qj];rfl,(hF2.new hap).mono '!',by rw[ja,hl];rfl,sD hgd '!' hcs⟩)
  ·rintro Γ' M' ⟨qs,v6,rfl,hM,hF,hl,hgd⟩
   rw[zLm] at hl
   exact gO 5 rfl hM (aH (aL (eJ (aB 3 rfl (cT (aZ bC T.list R.BL (aC (cH '%' (aZ bC T.list R.BL (aC (cH '%' (aB 5 rfl (aC ⟨(show 3<=sizeLine by decide),(aC ⟨(show 2<=sizeLine by decide),(hk xs ys zs xs ys qs _ h7 ⟨ux.up7,uy.up7,x2,y2,hgd,by omega⟩)⟩)⟩)).3)).7.3).3)).5.3).3).3).3)))
 refine aD (aP 1 fG.nd (aF aLM (by decide).6 aLL.m aLL.F.kp aLL.b (aC ⟨p,_,xs,rfl,hF1,by omega,ux,λxs' M5 ux5 x52 hF5 hB5 => ?_⟩).5.3.4.3))
 refine aD (aP 2 fG.nd (aF aLM (by decide).6 aLL.m aLL.F.kp aLL.b (aC ⟨p,_,ys,rfl,hF5,by omega,uy,λys' M6 uy6 y62 hF6 hB6 => ?_⟩).7.3.4.3))
 have x7:=ux5.few
 have y7:=uy6.few
 refine aH (aL (eJ (aB 3 rfl (cT (aF aLK (by decide).6 aLJ.m aLJ.F.kp aLJ.b (aN cU (aO aY T.len qu (aC (bV '%' (z6 (bS (aN cU (aO aY T.len qu (aC (bV '%' (z6 ?_))).7.3)).3)))).5.3)).3.4.3).3.7.3.5.3).3).3))
 refine bS (aC ⟨p,_,xs'.length-1,ys'.length-1,by rw[zLm,zLm,show ((xs'.length:Int)-1)=((xs'.length-1:Nat):Int) by omega,show ((ys'.length:Int)-1)=((ys'.length-1:Nat):Int) by omega],hF6,by omega,by omega,by omega,λzs' M7 g' l' hF7 hB7 => ?_⟩)
 exact aC ⟨(show 3<=sizeLine by decide),(aC ⟨(show 2<=sizeLine by decide),(hk xs ys zs xs' ys' zs' _ h7 ⟨ux5,uy6,x52,y62,g',l'⟩)⟩)⟩
theorem pG:FnScope zl21 zl21 (aK fV):=zSc
theorem o4{f:Addr}{fd:FuncData}(Df:R.Df K mg "is_whole_line" fV zl21 f fd)(aLP:R.Df K mg "is_whole" gF zl21 aLN aLO)(aLQ:FnOk P w K mg z CX0 1 aLN aLO zl21 (spZ K l8)){tF:Tok}(CF:mg "FARTHEST" = some (.int 1000000000 tF)):FnOk P w K mg z CX0 2 f fd zl21 (spZ K pN):=by
 refine bL Df pG (λds M k h=>?_) (λ_ _ _ _ _ _ hr ds M k h=>?_)
 ·obtain⟨x,rfl,_⟩:=h;rfl
 obtain⟨x,rfl,h1,h2,hk⟩:=h
 refine aH (aL (lB (aF aLQ (by decide).6 aLP.m aLP.F.kp aLP.b (aC ⟨_,rfl,trivial,(⟨_,rfl,bA (jF (aDN aFR aFR (gU fM (o8 CF ⟨_,rfl,(dY ⟨_,rfl,jQ (decide_eq_true '!') (o8 CF (dY ?_))⟩).4⟩))))⟩)⟩).4.3)))
 rw[decide_eq_true h2]
 exact hk
theorem mL:FnScope zl21 zl21 (aK eU):=zSc
theorem nK{f:Addr}{fd:FuncData}{aLR:Addr}{aLS:FuncData}(Df:R.Df K mg "are_whole_lines" eU zl21 f fd)(aLT:R.Df K mg "is_whole_line" fV zl21 aLR aLS)(aLU:FnOk P w K mg z CX0 2 aLR aLS zl21 (spZ K pN))(T:Bt mg){tM:Tok}(CM:mg "MOST_LINES" = some (.int 7 tM)):FnOk P w K mg z CX0 3 f fd zl21 (spZ K oN):=by
 refine bL Df mL (λds M k h=>?_) (λ_ _ _ _ _ _ hr ds M k h=>?_)
 ·obtain⟨xs,rfl,_⟩:=h;rfl
 obtain⟨xs,rfl,u7,hk⟩:=h
 have few:=u7.few
 have ml:(xs.map D.int).length=xs.length:=zLm ..
 refine aD (bK (dM (c6 (bU (bQ (dL (.inr (.inr (.inr (.inr rfl)))) T.isi T.list R.BL ⟨_, .self trivial,⟨_,rfl,?_⟩⟩.4))))))
 rw[lL]
 refine b7 (dQ (a9 aFL (aO aY T.len qu (aC (bV '%' (o8 CM (dY ⟨_,rfl,(jO (decide_eq_false '!') (bD (aD (bK (bU (bQ (aO (f6 rfl) T.all R.BAll (bB [] [] (bR ⟨_, .inr (.inl rfl),(cA (ds:=xs.map D.int) (by rw[ml];exact R.aX '!') (λi acc M'=>M'=M/\acc=(kr i true).map D.bl) ⟨rfl,rfl⟩ ?_ ?_)⟩.4)).3)))))))⟩)))).4.3)))
 ·rintro i d acc M' hd ⟨rfl,rfl⟩ _ _ _ _ _
  obtain⟨x,hx,rfl⟩:=bP hd
  have hb:=u7.bd x (zMo hx)
  refine bG (bA λ_ _ _ _ _=>(aF aLU (by decide).6 aLT.m aLT.F.kp aLT.b (aC ⟨x,rfl,hb.1,hb.2,⟨rfl,?_⟩⟩).4.3))
  rw[lh,qj]
  rfl
 rintro acc M' ⟨rfl,rfl⟩
 refine aC (iL '%' ⟨_,rfl,?_⟩)
 rw[all_true]
 refine b7 (bD (aH (aL (aO (f6 rfl) T.all R.BAll (bB zl21 [0] (yA T.range (z6 (aO aY T.len qu (aC (bV '%' (aC ?_))).4.3).3).3)).3))))
 rw[ml]
 refine⟨_,_,rfl,⟨by omega,by omega,by omega,by omega⟩,?_⟩
 rw[show (((xs.length:Nat):Int)-1).toNat=xs.length-1 by omega]
 refine cA (by rw[bN];exact R.aX '!') (λi acc M1=>M1=M'/\acc=(kr i true).map D.bl) ⟨rfl,rfl⟩ ?_ ?_
 ·rintro i d acc M1 hd ⟨rfl,rfl⟩ _ _ _ _ _
  obtain⟨hi,rfl⟩:=cY hd
  have lt:=kd.mp u7.up i (i+1) '!' '!' '!'
  refine bG (bA λ_ _ _ _ _=>(eI fW (aI aG (aN cU (z6 (bS (aJ '%' (by rw[show (1:Int)+(i:Int)-1=((i:Nat):Int) by omega];exact int_at '!') (aI aG (aJ '%' (by rw[show (1:Int)+(i:Int)=((i+1:Nat):Int) by omega];exact int_at '!') (dY ?_)).4.5)))).4).5)))
  rw[decide_eq_true lt]
  refine⟨rfl,?_⟩
  rw[lh,qj]
  rfl
 rintro acc M1 ⟨rfl,rfl⟩
 refine aC (iL '%' ?_)
 rw[all_true]
 exact hk
theorem aCI:FnScope zl15 zl15 (aK mD):=zSc
theorem aBG(Df:R.Df K mg "column" mD zl15 f fd):FnOk P w K mg z CX0 1 f fd zl15 (spZ K uD):=by
 refine bL Df aCI (λds M k h=>?_) (λ_ _ _ _ _ _ hr ds M k h=>?_)
 ·obtain⟨t,r,zs,n,j,rfl,_⟩:=h;rfl
 obtain⟨t,r,zs,n,j,rfl,s1,hl,hn,hz,hj,hk⟩:=h
 cases t with
 |true =>
  cases s1
  refine aH (aL (gG we wo wm iT (ge_str ⟨rfl,((bB ["place"] [1] (bR ⟨_, .inr (.inl rfl),(cA (ds:=zs.map D.str) (by rw[zLm];exact R.aX '!') (λi2 acc2 M2=>M2=M/\acc2=((zs.take i2).map λz=>(⟨#[R.atS z j]⟩:Str)).map D.str) ⟨rfl,rfl⟩ ?_ ?_)⟩.4))).3⟩)))
  ·rintro i2 d2 acc2 M2 hd2 ⟨rfl,rfl⟩ _ _ _ _ _
   obtain⟨z,hz2,rfl⟩:=bP hd2
   have hzn:=hz z (zMo hz2)
   refine bG (bA λ_ _ _ _ _=>(aI aG (kY (R.aX '!') (R.pQ '!') ⟨rfl,?_⟩).5.4))
   rw[take_snoc hz2,qj,qj]
   rfl
  ·rintro acc2 M2 ⟨rfl,rfl⟩
   rw[zLm,qx]
   refine aC (iR (ys:=zs.map λz=>(⟨#[R.atS z j]⟩:Str)) '%' (by decide +kernel) ?_ ?_)
   ·rw[oC _ (λz hz => ?_),zLm]
    ·omega
    ·obtain⟨y,_,rfl⟩:=qw.mp hz
     rfl
   ·rw[R.gA,tJ]
    exact hk
 |false =>
  cases s1
  refine aH (aL (gG we wo wm iT (ge_str ⟨rfl,((bB ["place"] [1] (bR ⟨_, .inl rfl,(cA (ds:=zs.map D.str) (by rw[zLm];exact R.aX '!') (λi2 acc2 M2=>M2=M/\acc2=((zs.take i2).map λz=>(⟨#[R.atS z j]⟩:Str)).map D.str) ⟨rfl,rfl⟩ ?_ ?_)⟩.4))).3⟩)))
  ·rintro i2 d2 acc2 M2 hd2 ⟨rfl,rfl⟩ _ _ _ _ _
   obtain⟨z,hz2,rfl⟩:=bP hd2
   have hzn:=hz z (zMo hz2)
   refine bG (bA λ_ _ _ _ _=>(aI aG (kY (R.aX '!') (R.pQ '!') ⟨rfl,?_⟩).5.4))
   rw[take_snoc hz2,qj,qj]
   rfl
  ·rintro acc2 M2 ⟨rfl,rfl⟩
   rw[zLm,qx]
   refine aC (iR (ys:=zs.map λz=>(⟨#[R.atS z j]⟩:Str)) '%' (by decide +kernel) ?_ ?_)
   ·rw[oC _ (λz hz => ?_),zLm]
    ·omega
    ·obtain⟨y,_,rfl⟩:=qw.mp hz
     rfl
   ·rw[R.gA,tJ]
    exact hk
theorem lR:FnScope ["rows", "wide"] ["rows"] (aK kJ):=zSc
theorem aAK{f:Addr}{fd:FuncData}{aLV:Addr}{aLW:FuncData}(Df:R.Df K mg "columns" kJ ["rows"] f fd)(aLX:R.Df K mg "column" mD zl15 aLV aLW)(aLY:FnOk P w K mg z CX0 1 aLV aLW zl15 (spZ K uD))(T:Bt mg):FnOk P w K mg z CX0 2 f fd ["rows"] (spZ K rT):=by
 refine bL Df lR (λds M k h=>?_) (λ_ _ _ _ _ _ hr ds M k h=>?_)
 ·obtain⟨t,r,zs,n,rfl,_⟩:=h;rfl
 obtain⟨t,r,zs,n,rfl,s1,hl,hn,hz,hk⟩:=h
 cases t with
 |true =>
  cases s1
  refine aD (lE (λΓ' M'=>M'=M/\Γ'=[some (.lst (zs.map D.str)),some (.int (((zs.head?.map (·.length)).getD 0:Nat):Int))]) (aP 1 lR.nd (k6 ?_)) ?_)
  ·refine lP ⟨_, .seq '%',(ite2 (λhb => ?_) (λhb => ?_))⟩.4
   ·cases zs with
    |nil=>cases hb
    |cons z zr =>
     have hzl:=hz z '$'
     exact aO aY T.len qu (aI aG (z6 (aJ '%' (nX z zr) (aC (i6 (R.aX '!') ⟨rfl,rfl⟩)))).4).3
   ·cases zs with
    |nil =>
     exact z6 ⟨rfl,rfl⟩
    |cons z zr=>exact absurd rfl hb
  rintro Γ' M' ⟨rfl,rfl⟩
  have hw:(zs.head?.map (·.length)).getD 0<=n:=by
   cases zs with
   |nil=>exact vw _
   |cons z zr=>exact x9 (hz z '$')
  refine aH (aL ((bB ["rows"] [0] (fY T.range (aC ⟨_,rfl,by omega,by omega,?_⟩).5.3))))
  rw[ql]
  refine cA (by rw[bN];exact R.aX '!') (λi acc M1=>M1=M'/\acc=((qy i).map λj=>R.ofL (zs.map (R.atS · j))).map D.str) ⟨rfl,rfl⟩ ?_ ?_
  ·rintro i d acc M1 hd ⟨rfl,rfl⟩ _ _ _ _ _
   obtain⟨hi,rfl⟩:=cY hd
   rw[xy]
   refine bG (bA λ_ _ _ _ _=>(aF aLY (by decide).6 aLX.m aLX.F.kp aLX.b (aC ⟨true,_,zs,n,i,rfl,rfl,hl,hn,hz,by omega,?_⟩).4.3.5.3))
   refine⟨rfl,?_⟩
   rw[cu,qj,qj]
   rfl
  ·rintro acc M1 ⟨rfl,rfl⟩
   rw[bN]
   exact hk
 |false =>
  cases s1
  refine aD (lE (λΓ' M'=>M'=M/\Γ'=[some (.tup (zs.map D.str)),some (.int (((zs.head?.map (·.length)).getD 0:Nat):Int))]) (aP 1 lR.nd (k6 ?_)) ?_)
  ·refine lP ⟨_, .seq (.tup _),(ite2 (λhb => ?_) (λhb => ?_))⟩.4
   ·cases zs with
    |nil=>cases hb
    |cons z zr =>
     have hzl:=hz z '$'
     exact aO aY T.len qu (aI aG (z6 (aJ (.tup _) (nX z zr) (aC (i6 (R.aX '!') ⟨rfl,rfl⟩)))).4).3
   ·cases zs with
    |nil =>
     exact z6 ⟨rfl,rfl⟩
    |cons z zr=>exact absurd rfl hb
  rintro Γ' M' ⟨rfl,rfl⟩
  have hw:(zs.head?.map (·.length)).getD 0<=n:=by
   cases zs with
   |nil=>exact vw _
   |cons z zr=>exact x9 (hz z '$')
  refine aH (aL ((bB ["rows"] [0] (fY T.range (aC ⟨_,rfl,by omega,by omega,?_⟩).5.3))))
  rw[ql]
  refine cA (by rw[bN];exact R.aX '!') (λi acc M1=>M1=M'/\acc=((qy i).map λj=>R.ofL (zs.map (R.atS · j))).map D.str) ⟨rfl,rfl⟩ ?_ ?_
  ·rintro i d acc M1 hd ⟨rfl,rfl⟩ _ _ _ _ _
   obtain⟨hi,rfl⟩:=cY hd
   rw[xy]
   refine bG (bA λ_ _ _ _ _=>(aF aLY (by decide).6 aLX.m aLX.F.kp aLX.b (aC ⟨false,_,zs,n,i,rfl,rfl,hl,hn,hz,by omega,?_⟩).4.3.5.3))
   refine⟨rfl,?_⟩
   rw[cu,qj,qj]
   rfl
  ·rintro acc M1 ⟨rfl,rfl⟩
   rw[bN]
   exact hk
theorem iH:FnScope ["bands", "outside", "framed"] ["bands"] (aK kO):=zSc
theorem aAF(Df:R.Df K mg "changes" kO ["bands"] f fd)(T:Bt mg):FnOk P w K mg z CX0 1 f fd ["bands"] (spZ K rP):=by
 refine bL Df iH (λds M k h=>?_) (λ_ _ _ _ _ _ hr ds M k h=>?_)
 ·obtain⟨t,r,zs,n,rfl,_⟩:=h;rfl
 obtain⟨t,r,zs,n,rfl,s1,hl,hn,hz,hk⟩:=h
 cases t with
 |true =>
  cases s1
  refine aD (bK (bU (lP ⟨_, .seq '%',(ite2 (λhb => ?_) (λhb => ?_))⟩.4)))
  ·have e:zs=[]:=by
    cases zs with
    |nil=>rfl
    |cons z zr=>exact absurd hb '$'
   subst e
   exact aH (aL (cT (aC ⟨(show 0<=sizeLine by decide),hk⟩)))
  have hne:zs≠[]:=λe=>by subst e;exact hb rfl
  obtain⟨z0,zr,rfl⟩:∃z0 zr,zs=z0::zr:=by
   cases zs with
   |nil=>exact absurd rfl hne
   |cons z zr=>exact⟨z,zr,rfl⟩
  have l0:=hz z0 '$'
  refine bD (aD (aP 1 iH.nd (aN yP (ge_str (aO aY T.len qu (aI aG (z6 (aJ '%' (nX z0 zr) (aC (i6 (R.aX '!') (xL '!' '!' (vM '!') ?_))))).4).3)))))
  rw[ql,R.r0]
  refine aD (aP 2 iH.nd (aN kF (aN kF (cT (aC ⟨(show 1<=sizeLine by decide),(aZ bC T.list R.BL (aC (cH '%' (j6 '%' '%' (by rw[zLm];exact R.aX (by simp only[jb,gh] at hl ⊢;omega)) (cT (aC ⟨(show 1<=sizeLine by decide),(j6 '%' '%' (by simp only[ja,zLm,jb,gh] at hl ⊢;exact R.aX '!') ?_)⟩).5.3)))).4.3)⟩).5.3))))
  rw[show [D.str (R.dots z0.length)]++(z0::zr).map D.str++[D.str (R.dots z0.length)]=(R.framed (z0::zr)).map D.str from by simp[R.framed]]
  generalize hzz:z0::zr=zs at *
  refine aH (aL ((bB ["framed"] [2] (fY T.range (aN cU (aO aY T.len qu (aC (bV '%' (z6 (bS (aC ?_))))).7.3)).3))))
  rw[zLm,R.jR]
  refine⟨_,rfl,by omega,by omega,?_⟩
  rw[show (((zs.length+2:Nat):Int)-1).toNat=zs.length+1 by omega]
  refine cA (by rw[bN];exact R.aX '!') (λi acc M'=>M'=M/\acc=((qy i).filter λi => !decide ((R.framed zs)[i]?=(R.framed zs)[i+1]?)).map λ(j:Nat)=>D.int (j:Int)) ⟨rfl,rfl⟩ ?_ ?_
  ·rintro i d acc M' hd ⟨rfl,rfl⟩ _ _ _ _ _
   obtain⟨hi,rfl⟩:=cY hd
   obtain⟨u,hu⟩:=jP (zs:=zs) (i:=i) '!'
   obtain⟨v,hv⟩:=jP (zs:=zs) (i:=i+1) '!'
   refine rD (a9 lY (aI aG (aJ '%' (oE hu) (aI aG (aN cC (z6 (bS (aJ '%' (vW hv) (aB2 ⟨_,rfl,?_⟩)))).4).5)).4.5))
   have ed:(!decide ((R.framed zs)[i]?=(R.framed zs)[i+1]?))=(!decide (u=v)):=by rw[hu,hv];congr 1;simp
   refine ite2 (λhb=>λ_ _ _ _ _ => ?_) (λhb => ?_)
   ·refine aB 0 rfl ⟨rfl,?_⟩
    rw[jB,if_pos (by rw[ed];exact hb),qj,xy]
    rfl
   ·refine⟨rfl,?_⟩
    rw[jB,if_neg (by rw[ed];exact hb)]
  rintro acc M' ⟨rfl,rfl⟩
  rw[bN,aB7]
  exact hk
 |false =>
  cases s1
  refine aD (bK (bU (lP ⟨_, .seq (.tup _),(ite2 (λhb => ?_) (λhb => ?_))⟩.4)))
  ·have e:zs=[]:=by
    cases zs with
    |nil=>rfl
    |cons z zr=>exact absurd hb '$'
   subst e
   exact aH (aL (cT (aC ⟨(show 0<=sizeLine by decide),hk⟩)))
  have hne:zs≠[]:=λe=>by subst e;exact hb rfl
  obtain⟨z0,zr,rfl⟩:∃z0 zr,zs=z0::zr:=by
   cases zs with
   |nil=>exact absurd rfl hne
   |cons z zr=>exact⟨z,zr,rfl⟩
  have l0:=hz z0 '$'
  refine bD (aD (aP 1 iH.nd (aN yP (ge_str (aO aY T.len qu (aI aG (z6 (aJ (.tup _) (nX z0 zr) (aC (i6 (R.aX '!') (xL '!' '!' (vM '!') ?_))))).4).3)))))
  rw[ql,R.r0]
  refine aD (aP 2 iH.nd (aN kF (aN kF (cT (aC ⟨(show 1<=sizeLine by decide),(aZ bC T.list R.BL (aC (cH (.tup _) (j6 '%' '%' (by rw[zLm];exact R.aX (by simp only[jb,gh] at hl ⊢;omega)) (cT (aC ⟨(show 1<=sizeLine by decide),(j6 '%' '%' (by simp only[ja,zLm,jb,gh] at hl ⊢;exact R.aX '!') ?_)⟩).5.3)))).4.3)⟩).5.3))))
  rw[show [D.str (R.dots z0.length)]++(z0::zr).map D.str++[D.str (R.dots z0.length)]=(R.framed (z0::zr)).map D.str from by simp[R.framed]]
  generalize hzz:z0::zr=zs at *
  refine aH (aL ((bB ["framed"] [2] (fY T.range (aN cU (aO aY T.len qu (aC (bV '%' (z6 (bS (aC ?_))))).7.3)).3))))
  rw[zLm,R.jR]
  refine⟨_,rfl,by omega,by omega,?_⟩
  rw[show (((zs.length+2:Nat):Int)-1).toNat=zs.length+1 by omega]
  refine cA (by rw[bN];exact R.aX '!') (λi acc M'=>M'=M/\acc=((qy i).filter λi => !decide ((R.framed zs)[i]?=(R.framed zs)[i+1]?)).map λ(j:Nat)=>D.int (j:Int)) ⟨rfl,rfl⟩ ?_ ?_
  ·rintro i d acc M' hd ⟨rfl,rfl⟩ _ _ _ _ _
   obtain⟨hi,rfl⟩:=cY hd
   obtain⟨u,hu⟩:=jP (zs:=zs) (i:=i) '!'
   obtain⟨v,hv⟩:=jP (zs:=zs) (i:=i+1) '!'
   refine rD (a9 lY (aI aG (aJ '%' (oE hu) (aI aG (aN cC (z6 (bS (aJ '%' (vW hv) (aB2 ⟨_,rfl,?_⟩)))).4).5)).4.5))
   have ed:(!decide ((R.framed zs)[i]?=(R.framed zs)[i+1]?))=(!decide (u=v)):=by rw[hu,hv];congr 1;simp
   refine ite2 (λhb=>λ_ _ _ _ _ => ?_) (λhb => ?_)
   ·refine aB 0 rfl ⟨rfl,?_⟩
    rw[jB,if_pos (by rw[ed];exact hb),qj,xy]
    rfl
   ·refine⟨rfl,?_⟩
    rw[jB,if_neg (by rw[ed];exact hb)]
  rintro acc M' ⟨rfl,rfl⟩
  rw[bN,aB7]
  exact hk
theorem aCX:FnScope zl16 zl16 (aK lI):=zSc
theorem aC9(Df:R.Df K mg "picked" lI zl16 f fd):FnOk P w K mg z CX0 1 f fd zl16 (spZ K xZ):=by
 refine bL Df aCX (λds M k h=>?_) (λ_ _ _ _ _ _ hr ds M k h=>?_)
 ·obtain⟨z,js,rfl,_⟩:=h;rfl
 obtain⟨z,js,rfl,hz,hl,hj,hk⟩:=h
 refine aH (aL (gG we wo wm iT (ge_str ⟨rfl,((bB ["row"] [0] (bR ⟨_, .inr (.inl rfl),(cA (ds:=dP js) (by rw[cV];exact R.aX '!') (λi2 acc2 M2=>M2=M/\acc2=((js.take i2).map λj=>(⟨#[R.atS z j]⟩:Str)).map D.str) ⟨rfl,rfl⟩ ?_ ?_)⟩.5))).3⟩)))
 ·rintro i2 d2 acc2 M2 hd2 ⟨rfl,rfl⟩ _ _ _ _ _
  obtain⟨j,hj2,rfl⟩:=gW hd2
  have hjl:=hj j (zMo hj2)
  refine bG (bA λ_ _ _ _ _=>(aI aG (kY (R.aX '!') (R.pQ hjl) ⟨rfl,?_⟩).4.5))
  rw[take_snoc hj2,qj,qj]
  rfl
 ·rintro acc2 M2 ⟨rfl,rfl⟩
  rw[cV,qx]
  refine aC (iR (ys:=js.map λj=>(⟨#[R.atS z j]⟩:Str)) '%' (by decide +kernel) ?_ ?_)
  ·rw[oC _ (λz hz => ?_),zLm]
   ·omega
   ·obtain⟨y,_,rfl⟩:=qw.mp hz
    rfl
  ·rw[R.gA,aAL]
   exact hk
theorem fZ:FnScope ["xs", "ys", "rows", "at_xs", "at_ys", "kept"] zl9 (aK iX):=zSc
theorem aC1{f:Addr}{fd:FuncData}{aLZ aL0 aL1:Addr}{aL2 aL3 aL4:FuncData}(Df:R.Df K mg "tidied" iX zl9 f fd)(aL5:R.Df K mg "changes" kO ["bands"] aLZ aL2)(aL6:FnOk P w K mg z CX0 1 aLZ aL2 ["bands"] (spZ K rP))(aL7:R.Df K mg "columns" kJ ["rows"] aL0 aL3)(aL8:FnOk P w K mg z CX0 2 aL0 aL3 ["rows"] (spZ K rT))(aL9:R.Df K mg "picked" lI zl16 aL1 aL4)(aMA:FnOk P w K mg z CX0 1 aL1 aL4 zl16 (spZ K xZ))(T:Bt mg):FnOk P w K mg z CX0 3 f fd zl9 (spZ K lM):=by
 refine bL Df fZ (λds M k h=>?_) (λ_ _ _ _ _ _ hr ds M k h=>?_)
 ·obtain⟨t,dx,dy,dr,xs,ys,zs,n,rfl,_⟩:=h;rfl
 obtain⟨t,dx,dy,dr,xs,ys,zs,n,rfl,s1,s2,s3,hl,hn,hz,hx,hy,hk⟩:=h
 have cl:=R.o6 hz
 have kx:=R.xW (R.aE zs)
 have ky:=R.xW zs
 cases t with
 |true =>
  cases s1
  cases s2
  cases s3
  refine aD (aP 3 fZ.nd (aF aL6 (by decide).6 aL5.m aL5.F.kp aL5.b (aF aL8 (by decide).6 aL7.m aL7.F.kp aL7.b (aC ⟨true,_,zs,n,rfl,rfl,by omega,by omega,hz,?_⟩).7.3).3))
  refine aC ⟨true,_,R.aE zs,zs.length,rfl,rfl,by omega,by omega,λz hz=>R.gB z hz,?_⟩
  refine aD (aP 4 fZ.nd (aF aL6 (by decide).6 aL5.m aL5.F.kp aL5.b (aC ⟨true,_,zs,n,rfl,rfl,by omega,by omega,hz,?_⟩).7.3))
  have hjx:∀j∈(R.chg (R.aE zs)).dropLast,j<n:=λj hj=>by
   have:=R.i0 (R.b8 _) (R.eH _) j hj
   omega
  refine aD (jN 5 ["rows", "at_xs"] [2,3] fZ.nd (bR (dC fT (aB 4 rfl (d7 (d6 (gU fM (z6 ⟨_,rfl,⟨_,rfl,(gJ '%' ?_)⟩⟩))))))))
  rw[show cutD (dP (R.chg zs)) none (some (-1))=dP (R.chg zs).dropLast from (g8 _).trans (gQ _)]
  refine⟨_, .inr (.inl rfl),(sY (ds:=dP (R.chg zs).dropLast) (by rw[cV,jj];exact R.aX '!') (λi acc M2=>M2=M/\acc=(((R.chg zs).dropLast.take i).map λi=>R.ofL ((R.chg (R.aE zs)).dropLast.map (R.atS (zs.getD i w4)))).map D.str) ⟨rfl,rfl⟩ ?_ ?_)⟩
  ·rintro i d acc M2 hd ⟨rfl,rfl⟩ _ _ _ _ _
   obtain⟨j,hj,rfl⟩:=gW hd
   have hjl:=R.i0 (R.b8 zs) (R.eH zs) j (zMo hj)
   have hzj:zs[j]?=some (zs.getD j w4):=by rw[zGd,zGe hjl];rfl
   have hzm:=zMo hzj
   refine bG (bA λ_ _ _ _ _=>(aF aMA (by decide).6 aL9.m aL9.F.kp aL9.b (aI aG (aJ '%' (by have:=oE hzj;rw[xy] at this;exact this) (dC fT (d7 (d6 (gU fM (z6 ⟨_,rfl,⟨_,rfl,(gJ '%' (aC ?_))⟩⟩)))).7).3).4.5).3))
   rw[show cutD (dP (R.chg (R.aE zs))) none (some (-1))=dP (R.chg (R.aE zs)).dropLast from (g8 _).trans (gQ _)]
   refine⟨_,(R.chg (R.aE zs)).dropLast,rfl,by rw[hz _ hzm];omega,by rw[jj];omega,λj hj=>by rw[hz _ hzm];exact hjx j hj,?_⟩
   refine⟨rfl,?_⟩
   rw[bO hj,qj]
   rfl
  rintro acc M2 ⟨rfl,rfl⟩ a ha
  rw[cV,qx]
  refine gO 5 rfl aT ?_
  rw[iY ha]
  refine aH (aL (eJ (aZ d8 T.tuple R.BT (bB ["xs"] [0] (bR (aB 3 rfl ⟨_, .inr (.inl rfl),(cA (ds:=dP (R.chg (R.aE zs))) (by rw[cV];exact R.aX '!') (λi acc M1=>M1=M2/\acc=((R.chg (R.aE zs)).take i).map λj=>xs.getD j .non) ⟨rfl,rfl⟩ ?_ ?_)⟩))).3).3))
  ·rintro i d acc M1 hd ⟨rfl,rfl⟩ _ _ _ _ _
   obtain⟨j,hj,rfl⟩:=gW hd
   exact bG (bA λ_ _ _ _ _=>(aI aG (aJ '%' (zG (hx j (zMo hj))) ⟨rfl,(bO hj).symm⟩).4.5))
  rintro acc M1 ⟨rfl,rfl⟩
  rw[cV,qx]
  refine aC (iW '%' (aZ d8 T.tuple R.BT (bB ["ys"] [1] (bR (aB 4 rfl ⟨_, .inr (.inl rfl),(cA (ds:=dP (R.chg zs)) (by rw[cV];exact R.aX '!') (λi acc M2=>M2=M1/\acc=((R.chg zs).take i).map λj=>ys.getD j .non) ⟨rfl,rfl⟩ ?_ ?_)⟩))).3).3)
  ·rintro i d acc M2 hd ⟨rfl,rfl⟩ _ _ _ _ _
   obtain⟨j,hj,rfl⟩:=gW hd
   exact bG (bA λ_ _ _ _ _=>(aI aG (aJ '%' (zG (hy j (zMo hj))) ⟨rfl,(bO hj).symm⟩).4.5))
  rintro acc M2 ⟨rfl,rfl⟩
  rw[cV,qx]
  exact aC (iW '%' (aZ d8 T.tuple R.BT (aB 5 rfl (aC (iW '%' (aC ⟨(show 3<=sizeLine by decide),hk⟩)))).3).3)
 |false =>
  cases s1
  cases s2
  cases s3
  refine aD (aP 3 fZ.nd (aF aL6 (by decide).6 aL5.m aL5.F.kp aL5.b (aF aL8 (by decide).6 aL7.m aL7.F.kp aL7.b (aC ⟨false,_,zs,n,rfl,rfl,by omega,by omega,hz,?_⟩).7.3).3))
  refine aC ⟨true,_,R.aE zs,zs.length,rfl,rfl,by omega,by omega,λz hz=>R.gB z hz,?_⟩
  refine aD (aP 4 fZ.nd (aF aL6 (by decide).6 aL5.m aL5.F.kp aL5.b (aC ⟨false,_,zs,n,rfl,rfl,by omega,by omega,hz,?_⟩).7.3))
  have hjx:∀j∈(R.chg (R.aE zs)).dropLast,j<n:=λj hj=>by
   have:=R.i0 (R.b8 _) (R.eH _) j hj
   omega
  refine aD (jN 5 ["rows", "at_xs"] [2,3] fZ.nd (bR (dC fT (aB 4 rfl (d7 (d6 (gU fM (z6 ⟨_,rfl,⟨_,rfl,(gJ '%' ?_)⟩⟩))))))))
  rw[show cutD (dP (R.chg zs)) none (some (-1))=dP (R.chg zs).dropLast from (g8 _).trans (gQ _)]
  refine⟨_, .inr (.inl rfl),(sY (ds:=dP (R.chg zs).dropLast) (by rw[cV,jj];exact R.aX '!') (λi acc M2=>M2=M/\acc=(((R.chg zs).dropLast.take i).map λi=>R.ofL ((R.chg (R.aE zs)).dropLast.map (R.atS (zs.getD i w4)))).map D.str) ⟨rfl,rfl⟩ ?_ ?_)⟩
  ·rintro i d acc M2 hd ⟨rfl,rfl⟩ _ _ _ _ _
   obtain⟨j,hj,rfl⟩:=gW hd
   have hjl:=R.i0 (R.b8 zs) (R.eH zs) j (zMo hj)
   have hzj:zs[j]?=some (zs.getD j w4):=by rw[zGd,zGe hjl];rfl
   have hzm:=zMo hzj
   refine bG (bA λ_ _ _ _ _=>(aF aMA (by decide).6 aL9.m aL9.F.kp aL9.b (aI aG (aJ (.tup _) (by have:=oE hzj;rw[xy] at this;exact this) (dC fT (d7 (d6 (gU fM (z6 ⟨_,rfl,⟨_,rfl,(gJ '%' (aC ?_))⟩⟩)))).7).3).4.5).3))
   rw[show cutD (dP (R.chg (R.aE zs))) none (some (-1))=dP (R.chg (R.aE zs)).dropLast from (g8 _).trans (gQ _)]
   refine⟨_,(R.chg (R.aE zs)).dropLast,rfl,by rw[hz _ hzm];omega,by rw[jj];omega,λj hj=>by rw[hz _ hzm];exact hjx j hj,?_⟩
   refine⟨rfl,?_⟩
   rw[bO hj,qj]
   rfl
  rintro acc M2 ⟨rfl,rfl⟩ a ha
  rw[cV,qx]
  refine gO 5 rfl aT ?_
  rw[iY ha]
  refine aH (aL (eJ (aZ d8 T.tuple R.BT (bB ["xs"] [0] (bR (aB 3 rfl ⟨_, .inr (.inl rfl),(cA (ds:=dP (R.chg (R.aE zs))) (by rw[cV];exact R.aX '!') (λi acc M1=>M1=M2/\acc=((R.chg (R.aE zs)).take i).map λj=>xs.getD j .non) ⟨rfl,rfl⟩ ?_ ?_)⟩))).3).3))
  ·rintro i d acc M1 hd ⟨rfl,rfl⟩ _ _ _ _ _
   obtain⟨j,hj,rfl⟩:=gW hd
   exact bG (bA λ_ _ _ _ _=>(aI aG (aJ (.tup _) (zG (hx j (zMo hj))) ⟨rfl,(bO hj).symm⟩).4.5))
  rintro acc M1 ⟨rfl,rfl⟩
  rw[cV,qx]
  refine aC (iW '%' (aZ d8 T.tuple R.BT (bB ["ys"] [1] (bR (aB 4 rfl ⟨_, .inr (.inl rfl),(cA (ds:=dP (R.chg zs)) (by rw[cV];exact R.aX '!') (λi acc M2=>M2=M1/\acc=((R.chg zs).take i).map λj=>ys.getD j .non) ⟨rfl,rfl⟩ ?_ ?_)⟩))).3).3)
  ·rintro i d acc M2 hd ⟨rfl,rfl⟩ _ _ _ _ _
   obtain⟨j,hj,rfl⟩:=gW hd
   exact bG (bA λ_ _ _ _ _=>(aI aG (aJ (.tup _) (zG (hy j (zMo hj))) ⟨rfl,(bO hj).symm⟩).4.5))
  rintro acc M2 ⟨rfl,rfl⟩
  rw[cV,qx]
  exact aC (iW '%' (aZ d8 T.tuple R.BT (aB 5 rfl (aC (iW '%' (aC ⟨(show 3<=sizeLine by decide),hk⟩)))).3).3)
theorem aCA:FnScope zl17 zl17 (aK lJ):=zSc
theorem aCQ(Df:R.Df K mg "is_row" lJ zl17 f fd)(T:Bt mg):FnOk P w K mg z CX0 1 f fd zl17 (spZ K aDG):=by
 refine bL Df aCA (λds M k h=>?_) (λ_ _ _ _ _ _ hr ds M k h=>?_)
 ·obtain⟨d,n,w,rfl,_⟩:=h;rfl
 obtain⟨d,n,w,rfl,ht,hk⟩:=h
 rcases aJU d with ⟨z,rfl⟩|⟨e0,e1⟩
 ·have hz:=vB ht
  refine aD (bK (dM (c6 (bU (bQ (dL (.inr (.inr (.inl rfl))) T.isi T.str R.BS ⟨_, .self trivial,⟨_,rfl,?_⟩⟩.4))))))
  rw[sS]
  refine b7 (dQ (a9 lY (aO aY T.len qu (aC (i6 (R.aX '!') (pY ⟨_,rfl,?_⟩).5)).4.3)))
  by_cases h2:z.length=w
  ·rw[decide_eq_true '!']
   refine b7 (bD (aH (aL (aO (f6 rfl) T.all R.BAll (bB [] [] (aCL ⟨_,rfl,(cA (ds:=eV z) (by rw[dD];exact R.aX '!') (λi acc M'=>M'=M/\acc=((z.cps.toList.take i).map λc=>c==35||c==46).map D.bl) ⟨rfl,rfl⟩ ?_ ?_)⟩.4)).3))))
   ·rintro i d acc M' hd ⟨rfl,rfl⟩ _ _ _ _ _
    obtain⟨c,hc,rfl⟩:=bP hd
    refine bG (bA λ_ _ _ _ _=>(eI aAX (ge_str (aED ?_)).4))
    rw[R.aEW]
    refine⟨rfl,?_⟩
    rw[bO hc,qj]
    rfl
   rintro acc M' ⟨rfl,rfl⟩
   rw[dD,show z.length=z.cps.toList.length from (qo ..).symm,qx]
   refine aC (iL '%' ?_)
   rw[mV]
   rw[show eN w (.str z)=z.cps.toList.all (λc=>c==35||c==46) from by show (decide (z.length=w)&&_)=_;rw[decide_eq_true h2];rfl] at hk
   exact hk
  ·rw[decide_eq_false '!']
   rw[show eN w (.str z)=false from by show (decide (z.length=w)&&_)=_;rw[decide_eq_false h2];rfl] at hk
   exact bA (aH (aL (cS hk)))
 ·rw[aIP e1] at hk
  refine aD (bK (dM (c6 (bU (bQ (dL (.inr (.inr (.inl rfl))) T.isi T.str R.BS ⟨_, .self (gZ ht),⟨_,rfl,?_⟩⟩.4))))))
  rw[e0]
  exact bA (bA (aH (aL (cS hk))))
theorem gL:FnScope ["rows", "xs", "ys", "wide", "high"] zl10 (aK iM):=zSc
theorem wN{f:Addr}{fd:FuncData}{aMB:Addr}{aMC:FuncData}(Df:R.Df K mg "rows_fit" iM zl10 f fd)(aMD:R.Df K mg "is_row" lJ zl17 aMB aMC)(aME:FnOk P w K mg z CX0 1 aMB aMC zl17 (spZ K aDG))(T:Bt mg):FnOk P w K mg z CX0 2 f fd zl10 (spZ K zU):=by
 refine bL Df gL (λds M k h=>?_) (λ_ _ _ _ _ _ hr ds M k h=>?_)
 ·obtain⟨t,dr,dx,dy,rs,xs,ys,n,rfl,_⟩:=h;rfl
 obtain⟨t,dr,dx,dy,rs,xs,ys,n,rfl,s1,s2,s3,ht,l1,l2,l3,hk⟩:=h
 cases t with
 |true =>
  cases s1
  cases s2
  cases s3
  refine aD (aP 3 gL.nd (aO (kP rfl) T.max R.BMax (aN cU (aO aY T.len qu (aC (bV '%' (z6 (bS (z6 (aC (qH ?_))).3)))).5.3)).3))
  rw[maxz0]
  refine aD (aP 4 gL.nd (aO (kP rfl) T.max R.BMax (aN cU (aO aY T.len qu (aC (bV '%' (z6 (bS (z6 (aC (qH ?_))).3)))).7.3)).3))
  rw[maxz0]
  refine aH (aL (lB (eI gT (aO aY T.len qu (aC (bV '%' (aB 4 rfl (iD ⟨_,rfl,?_⟩)))).4.3))))
  by_cases h1:rs.length=ys.length-1
  ·refine jQ (decide_eq_true '!') (jF (aO (f6 rfl) T.all R.BAll (bB ["wide"] [3] (bR ⟨_, .inr (.inl rfl),(cA (ds:=rs) (R.aX '!') (λi acc M'=>M'=M/\acc=((rs.take i).map (eN (xs.length-1))).map D.bl) ⟨rfl,rfl⟩ ?_ ?_)⟩.4)).3))
   ·rintro i d acc M' hd ⟨rfl,rfl⟩ _ _ _ _ _
    refine bG (bA λ_ _ _ _ _=>(aF aME (by decide).6 aMD.m aMD.F.kp aMD.b (aC ⟨d,n,_,rfl,ht d (zMo hd),⟨rfl,?_⟩⟩).5.3.4.3))
    rw[bO hd,qj]
    rfl
   rintro acc M' ⟨rfl,rfl⟩
   rw[qx]
   refine aC (iL '%' ?_)
   rw[mV]
   rw[show fX rs xs.length ys.length=rs.all (eN (xs.length-1)) from by unfold fX;rw[decide_eq_true h1];rfl] at hk
   exact hk
  ·rw[show fX rs xs.length ys.length=false from by unfold fX;rw[decide_eq_false h1];rfl] at hk
   exact jO (decide_eq_false '!') hk
 |false =>
  cases s1
  cases s2
  cases s3
  refine aD (aP 3 gL.nd (aO (kP rfl) T.max R.BMax (aN cU (aO aY T.len qu (aC (bV (.tup _) (z6 (bS (z6 (aC (qH ?_))).3)))).5.3)).3))
  rw[maxz0]
  refine aD (aP 4 gL.nd (aO (kP rfl) T.max R.BMax (aN cU (aO aY T.len qu (aC (bV (.tup _) (z6 (bS (z6 (aC (qH ?_))).3)))).7.3)).3))
  rw[maxz0]
  refine aH (aL (lB (eI gT (aO aY T.len qu (aC (bV (.tup _) (aB 4 rfl (iD ⟨_,rfl,?_⟩)))).4.3))))
  by_cases h1:rs.length=ys.length-1
  ·refine jQ (decide_eq_true '!') (jF (aO (f6 rfl) T.all R.BAll (bB ["wide"] [3] (bR ⟨_, .inl rfl,(cA (ds:=rs) (R.aX '!') (λi acc M'=>M'=M/\acc=((rs.take i).map (eN (xs.length-1))).map D.bl) ⟨rfl,rfl⟩ ?_ ?_)⟩.4)).3))
   ·rintro i d acc M' hd ⟨rfl,rfl⟩ _ _ _ _ _
    refine bG (bA λ_ _ _ _ _=>(aF aME (by decide).6 aMD.m aMD.F.kp aMD.b (aC ⟨d,n,_,rfl,ht d (zMo hd),⟨rfl,?_⟩⟩).5.3.4.3))
    rw[bO hd,qj]
    rfl
   rintro acc M' ⟨rfl,rfl⟩
   rw[qx]
   refine aC (iL '%' ?_)
   rw[mV]
   rw[show fX rs xs.length ys.length=rs.all (eN (xs.length-1)) from by unfold fX;rw[decide_eq_true h1];rfl] at hk
   exact hk
  ·rw[show fX rs xs.length ys.length=false from by unfold fX;rw[decide_eq_false h1];rfl] at hk
   exact jO (decide_eq_false '!') hk
theorem nH:FnScope ["top", "bottom", "divisor"] zl18 (aK lS):=zSc
theorem aB6{f:Addr}{fd:FuncData}{aMF:Addr}{aMG:FuncData}(Df:R.Df K mg "lowest" lS zl18 f fd)(aMH:R.Df K mg "common_divisor" dN zl19 aMF aMG)(aMI:FnOk P w K mg z CX0 1 aMF aMG zl19 (spZ K rF)):FnOk P w K mg z CX0 2 f fd zl18 (spZ K xV):=by
 refine bL Df nH (λds M k h=>?_) (λ_ _ _ _ _ _ hr ds M k h=>?_)
 ·obtain⟨a,b,rfl,_⟩:=h;rfl
 obtain⟨a,b,rfl,hb0,hbb,hk⟩:=h
 have hg:wa a b≠0:=λe=>hb0 (Ji.mp e).2
 have hgl:wa a b<=b.natAbs:=QH '!' (Int.gcd_dvd_natAbs_right a b)
 have hd:dv a b≠0/\(dv a b).natAbs<big:=by
  refine⟨by unfold dv;split <;> omega,qr (show (dv a b).natAbs<10^1000 from ?_) (by unfold big;decide)⟩
  have:(dv a b).natAbs=wa a b:=by unfold dv;split <;> omega
  omega
 refine aD (aP 2 nH.nd (aF aMI (by decide).6 aMH.m aMH.F.kp aMH.b (aC ⟨a,b,rfl,(aD (lE (λΓ' M'=>M'=M/\Γ'=[some (.int a),some (.int b),some (.int (dv a b))]) (bK ?_) ?_))⟩).5.3.4.3))
 ·refine a9 fW (z6 (dY ⟨_,rfl,(ite2 (λhb => ?_) (λhb => ?_))⟩)).5
  ·have:=of_decide_eq_true hb
   exact aH (aP 2 nH.nd (gU fM ⟨_,rfl,⟨rfl,by unfold dv;rw[if_pos this];rfl⟩⟩.7))
  ·have:¬b<0:=λz=>hb (decide_eq_true z)
   exact bD ⟨rfl,by unfold dv;rw[if_neg this];rfl⟩
 rintro Γ' M' ⟨rfl,rfl⟩
 exact aH (aL (eJ (aN uK (cM hd (aN uK (cM hd (aC ⟨(show 2<=sizeLine by decide),hk⟩)).7.5).3).7.4).3))
theorem wR:FnScope zl18 zl18 (aK jM):=zSc
theorem wH{f:Addr}{fd:FuncData}{aMJ:Addr}{aMK:FuncData}(Df:R.Df K mg "fraction" jM zl18 f fd)(aLP:R.Df K mg "is_whole" gF zl21 aLN aLO)(aLQ:FnOk P w K mg z CX0 1 aLN aLO zl21 (spZ K l8))(aML:R.Df K mg "lowest" lS zl18 aMJ aMK)(aMM:FnOk P w K mg z CX0 2 aMJ aMK zl18 (spZ K xV)):FnOk P w K mg z CX0 3 f fd zl18 (spZ K rQ):=by
 refine bL Df wR (λds M k h=>?_) (λ_ _ _ _ _ _ hr ds M k h=>?_)
 ·obtain⟨a,b,rfl,_⟩:=h;rfl
 obtain⟨a,b,rfl,hb0,hbb,hk⟩:=h
 refine aD (bK (dM (c6 (bU (bQ (aF aLQ (by decide).6 aLP.m aLP.F.kp aLP.b (aC ⟨_,rfl,trivial,⟨_,rfl,(b7 (dQ (bU (bQ (aF aLQ (by decide).6 aLP.m aLP.F.kp aLP.b (aC ⟨_,rfl,trivial,⟨_,rfl,(b7 (bD (aD (bK (a9 gT (z6 (iD ⟨_,rfl,(ite2 (λhb=>absurd (of_decide_eq_true hb) '!') (λ_=>bD (aH (aL (aF aMM (by decide).6 aML.m aML.F.kp aML.b ?_.3.4.3)))))⟩)).5)))))⟩⟩).5.3)))))⟩⟩).4.3))))))
 exact aB 1 rfl (aC ⟨a,b,rfl,hb0,hbb,hk⟩)
theorem aHT:FnScope zl9 zl9 (aK p8):=zSc
theorem aF6{f:Addr}{fd:FuncData}{aMN aMO aMQ:Addr}{aMR aMS aMU:FuncData}(Df:R.Df K mg "made" p8 zl9 f fd)(aMV:R.Df K mg "are_whole_lines" eU zl21 aMN aMR)(aMW:FnOk P w K mg z CX0 3 aMN aMR zl21 (spZ K oN))(aMX:R.Df K mg "rows_fit" iM zl10 aMO aMS)(aMY:FnOk P w K mg z CX0 2 aMO aMS zl10 (spZ K zU))(aMZ:R.Df K mg "tidied" iX zl9 aMP aMT)(aM0:FnOk P w K mg z CX0 3 aMP aMT zl9 (spZ K lM))(aM1:R.Df K mg "fraction" jM zl18 aMQ aMU)(aM2:FnOk P w K mg z CX0 3 aMQ aMU zl18 (spZ K rQ))(T:Bt mg):FnOk P w K mg z CX0 5 f fd zl9 (spZ K aFH):=by
 refine bL Df aHT (λds M k h=>?_) (λ_ _ _ _ _ _ hr ds M k h=>?_)
 ·obtain⟨xs,ys,zs,rfl,_⟩:=h;rfl
 obtain⟨xs,ys,zs,rfl,ux,uy,gz,hz,hk⟩:=h
 have fx:=ux.few
 have fy:=uy.few
 have mx:(xs.map D.int).length=xs.length:=zLm ..
 have my:(ys.map D.int).length=ys.length:=zLm ..
 refine aD (bK (dM (c6 (bU (bQ (aF aMW (by decide).6 aMV.m aMV.F.kp aMV.b (aC ⟨xs,rfl,ux,⟨_,rfl,(b7 (dQ (bU (bQ (aF aMW (by decide).6 aMV.m aMV.F.kp aMV.b (aC ⟨ys,rfl,uy,⟨_,rfl,(b7 (bD (aD (bK (dM (c6 (bU (bQ (dL (.inr (.inr (.inr (.inr rfl)))) T.isi T.list R.BL ⟨_, .self trivial,⟨_,rfl,?_⟩⟩.7)))))))))⟩⟩).5.3)))))⟩⟩).4.3))))))
 rw[lL]
 refine b7 (dQ (bU (bQ (aF aMY (by decide).6 aMX.m aMX.F.kp aMX.b (aC ⟨true,_,_,_,zs.map .str,xs.map .int,ys.map .int,1,rfl,rfl,rfl,rfl,λr hr=>(aFU (n:=50) (λz hz=>jf (x9 (gz z hz).1) (show _<=1000 by omega)) '!').tame1 r hr,by rw[zLm];omega,by omega,by omega,?_⟩).5.3.4.3.7.3))))
 refine⟨_,rfl,?_⟩
 rw[mx,my,aBU hz (λz hz=>(gz z hz).1),uL gz]
 refine b7 (bD (aH (aL (aF aM0 (by decide).6 aMZ.m aMZ.F.kp aMZ.b (bB [] [] (bR ⟨_, .inr (.inl rfl),(cA (ds:=xs.map D.int) (by rw[zLm];exact R.aX '!') (λi acc M1=>M1=M/\acc=((xs.take i).map p1).map pairD) ⟨rfl,rfl⟩ ?_ ?_)⟩.4)).3))))
 ·rintro i d acc M1 hd ⟨rfl,rfl⟩ _ _ _ _ _
  obtain⟨x,hx,rfl⟩:=bP hd
  refine bG (bA λ_ _ _ _ _=>(aF aM2 (by decide).6 aM1.m aM1.F.kp aM1.b (z6 (aC ⟨x,1,rfl,by decide,Kd '*' '*',?_⟩)).3.4.3))
  rw[low1]
  refine⟨rfl,?_⟩
  rw[bO hx,qj]
  rfl
 rintro acc M ⟨rfl,rfl⟩
 rw[zLm,qx]
 refine aA (bB [] [] (bR ⟨_, .inr (.inl rfl),(cA (ds:=ys.map D.int) (by rw[zLm];exact R.aX '!') (λi acc M1=>M1=M/\acc=((ys.take i).map p1).map pairD) ⟨rfl,rfl⟩ ?_ ?_)⟩.5))
 ·rintro i d acc M1 hd ⟨rfl,rfl⟩ _ _ _ _ _
  obtain⟨x,hx,rfl⟩:=bP hd
  refine bG (bA λ_ _ _ _ _=>(aF aM2 (by decide).6 aM1.m aM1.F.kp aM1.b (z6 (aC ⟨x,1,rfl,by decide,Kd '*' '*',?_⟩)).3.4.3))
  rw[low1]
  refine⟨rfl,?_⟩
  rw[bO hx,qj]
  rfl
 rintro acc M ⟨rfl,rfl⟩
 rw[zLm,qx]
 exact aA (aC ⟨true,_,_,_,fJ xs,fJ ys,zs,xs.length-1,rfl,rfl,rfl,rfl,by omega,by omega,λz hz=>(gz z hz).1,by rw[qB];exact eQ λz hz=>(gz z hz).1,by rw[qB];exact eP hz,hk⟩).7
theorem aEI:FnScope zl19 zl19 (aK jX):=zSc
theorem aDP(Df:R.Df K mg "under" jX zl19 f fd):FnOk P w K mg z CX0 1 f fd zl19 (spZ K n8):=by
 refine bL Df aEI (λds M k h=>?_) (λ_ _ _ _ _ _ hr ds M k h=>?_)
 ·obtain⟨p,q,rfl,_⟩:=h;rfl
 obtain⟨p,q,rfl,⟨p1,p2⟩,⟨q1,q2⟩,hk⟩:=h
 exact aH (aL (eI fW (aN yT (aI aG (z6 (aJ (.tup _) rfl (aI aG (z6 (aJ (.tup _) rfl (cM ⟨big400 p1,big400 q2⟩ (aN yT (aI aG (z6 (aJ (.tup _) rfl (aI aG (z6 (aJ (.tup _) rfl (cM ⟨big400 q1,big400 p2⟩ (dY hk)))).4))).5))))).5))).4))))
theorem eZ:FnScope ["one", "other", "told", "first", "second", "ahead"] zl19 (aK lU):=zSc
theorem aCC{f:Addr}{fd:FuncData}(Df:R.Df K mg "merged" lU zl19 f fd)(aM5:R.Df K mg "under" jX zl19 aM3 aM4)(aM6:FnOk P w K mg z CX0 1 aM3 aM4 zl19 (spZ K n8))(T:Bt mg):FnOk P w K mg z CX0 2 f fd zl19 (spZ K tZ):=by
 refine bL Df eZ (λds M k h=>?_) (λ_ _ _ _ _ _ hr ds M k h=>?_)
 ·obtain⟨xs,ys,rfl,_⟩:=h;rfl
 obtain⟨xs,ys,rfl,h9,g9,lx,ly,hk⟩:=h
 have mx:=bJ xs
 have my:=bJ ys
 refine aD (aP 2 eZ.nd (iP (aC ⟨(show 0<=sizeLine by decide),λa ha=>(aD (aP 3 eZ.nd (z6 (aD (aP 4 eZ.nd (z6 (aD (uO (λm Γ' M'=>∃(f s:Nat) (acc:List Rat) (v5:Option D),Γ'=[some (.tup (aQ xs)),some (.tup (aQ ys)),some (.mt a),some (.int (f:Int)),some (.int (s:Int)),v5]/\M'=bZ M a (.lst (aQ acc))/\f<=xs.length/\s<=ys.length/\acc++aS (xs.drop f) (ys.drop s)=aS xs ys/\m=(xs.length-f)+(ys.length-s)) (n:=xs.length+ys.length) ⟨0,0,[],_,rfl,rfl,by omega,by omega,rfl,by omega⟩ ?_))))))))⟩)))
 rintro m Γ' M' ⟨f,s,acc,v5,rfl,rfl,hf,hs,hacc,rfl⟩
 have hal:acc.length<=200:=by
  have h1:=congrArg md hacc
  have h2:=gE xs ys
  rw[ja] at h1
  omega
 refine tQ (P:=λc M1=>M1=bZ M a (.lst (aQ acc))/\(c=true->f<xs.length/\s<ys.length)/\(c=false->f=xs.length\/s=ys.length)) (dM (pI ?_)) ?_
 ·refine a9 fW (aB 3 rfl (aO aY T.len qu (aC (bV (.tup _) (dY ⟨_,rfl,?_⟩))).4.3))
  rw[mx]
  refine ite2 (λh1 => ?_) (λh1=>⟨rfl,(λz=>nomatch z),λ_ => .inl (by have:¬(f:Int)<(xs.length:Int):=λz=>h1 (decide_eq_true z);omega)⟩)
  have h1':(f:Int)<(xs.length:Int):=of_decide_eq_true h1
  refine n9 (a9 fW (aB 4 rfl (aO aY T.len qu (aC (bV (.tup _) (dY ⟨_,rfl,?_⟩))).5.3)))
  rw[my]
  refine⟨rfl,λh2=>⟨by omega,by have:=of_decide_eq_true h2;omega⟩,λh2 => .inr (by have:=of_decide_eq_false h2;omega)⟩
 rintro c M1 ⟨rfl,ht,hfl⟩
 refine ite2 (λhc => ?_) (λhc => ?_)
 ·obtain⟨h1,h2⟩:=ht hc
  have gx:xs.getD f 0∈xs:=by rw[zGd,zGe h1];exact jl h1
  have gy:ys.getD s 0∈ys:=by rw[zGd,zGe h2];exact jl h2
  have x1:=h9 _ gx
  have y1:=g9 _ gy
  refine aD (aP 5 eZ.nd (aI aG (aB 3 rfl (aJ (.tup _) (i5 '!') (aD (lE (λΓ' M'=>M'=bZ M a (.lst (aQ acc))/\Γ'=[some (.tup (aQ xs)),some (.tup (aQ ys)),some (.mt a),some (.int (f:Int)),some (.int (s:Int)),some (c8 (','))]) ?_ ?_)))).4))
  ·refine bK (bQ (aF aM6 (by decide).6 aM5.m aM5.F.kp aM5.b (aI aG (aB 4 rfl (aJ (.tup _) (i5 '!') (aB 5 rfl (aC ⟨pq (ys.getD s 0),pq (xs.getD f 0),rfl,y1.p,x1.p,⟨_,rfl,?_⟩⟩)).3)).5).3))
   rw[aAE]
   by_cases hlt:ys.getD s 0<xs.getD f 0
   ·exact jQ (decide_eq_true hlt) (aH (aP 5 eZ.nd (aI aG (aB 4 rfl (aJ (.tup _) (i5 '!') ⟨rfl,by rw[if_pos hlt];rfl⟩)).5)))
   ·exact jO (decide_eq_false hlt) (bD ⟨rfl,by rw[if_neg hlt];rfl⟩)
  rintro Γ' M1 ⟨rfl,rfl⟩
  have hst:=pP h1 h2
  have hah: ','=ys.getD s 0\/ ','=xs.getD f 0:=by split <;> simp
  generalize ','=ah at *
  refine aD (aP 3 eZ.nd (aN cC (aB 3 rfl (aC7 (P:=λd M1=>M1=bZ M a (.lst (aQ acc))/\d = .int (if xs.getD f 0=ah then 1 else 0)) (k6 (a9 (m8 (n:=1) (R.units_le hr)) ?_)) ?_))))
  ·refine aI aG (aB 3 rfl (aJ (.tup _) (i5 '!') (aB 5 rfl (mS (e1:=c8 ((xs.getD f 0))) (e2:=c8 (ah)) (.tup _) (.tup _) rfl rfl ⟨_,rfl,?_⟩)))).4
   rw[qK]
   by_cases hc:xs.getD f 0=ah
   ·exact jQ (decide_eq_true hc) (z6 ⟨rfl,by rw[if_pos hc]⟩)
   ·exact jO (decide_eq_false hc) (z6 ⟨rfl,by rw[if_neg hc]⟩)
  rintro d M1 ⟨rfl,rfl⟩
  refine bS ?_
  rw[show ((f:Int)+if xs.getD f 0=ah then 1 else 0)=((f+if xs.getD f 0=ah then 1 else 0:Nat):Int) from by split <;> rfl]
  refine aD (aP 4 eZ.nd (aN cC (aB 4 rfl (aC7 (P:=λd M1=>M1=bZ M a (.lst (aQ acc))/\d = .int (if ys.getD s 0=ah then 1 else 0)) (k6 (a9 (m8 (n:=1) (R.units_le hr)) ?_)) ?_))))
  ·refine aI aG (aB 4 rfl (aJ (.tup _) (i5 '!') (aB 5 rfl (mS (e1:=c8 ((ys.getD s 0))) (e2:=c8 (ah)) (.tup _) (.tup _) rfl rfl ⟨_,rfl,?_⟩)))).5
   rw[qK]
   by_cases hc:ys.getD s 0=ah
   ·exact jQ (decide_eq_true hc) (z6 ⟨rfl,by rw[if_pos hc]⟩)
   ·exact jO (decide_eq_false hc) (z6 ⟨rfl,by rw[if_neg hc]⟩)
  rintro d M1 ⟨rfl,rfl⟩
  refine bS ?_
  rw[show ((s:Int)+if ys.getD s 0=ah then 1 else 0)=((s+if ys.getD s 0=ah then 1 else 0:Nat):Int) from by split <;> rfl]
  refine aH (jV (gG xk wz wy fA (⟨⟨rfl,_,aT⟩,(aB 5 rfl (aC (g7 aT (by rw[bJ];exact jm (show _<=60000 by omega) '*') ⟨_,?_,_,_,acc++[ah],_,rfl,by rw[rR,<- iN];rfl,by split <;> omega,by split <;> omega,by rw[<- hacc,hst,yz];rfl,rfl⟩))).3⟩).7))
  rcases hah with e|e
  ·rw[if_pos e.symm];split <;> omega
  ·rw[if_pos e.symm];split <;> omega
 ·have hz:=hfl (by simpa using hc)
  have fin:acc++xs.drop f++ys.drop s=aS xs ys:=by
   rw[<- hacc]
   rcases hz with h|h
   ·rw[h,JI,yt,uM]
   ·rw[h,JI,yt,uW]
  refine gO 2 rfl aT ?_
  rw[iY ha]
  refine aH (aL (aN kF (aN kF (aZ bC T.list R.BL (dC xG (d6 (aB 3 rfl ⟨_,rfl,(d7 (yQ (aC (cH (.tup _) (j6 '%' '%' (by rw[jD _ _ (by rw[mx];exact hf),gN,bJ,bJ,yl];exact R.aX '!') (aZ bC T.list R.BL (dC xG (d6 (aB 4 rfl ⟨_,rfl,(d7 (yQ (aC (cH (.tup _) (j6 '%' '%' (by rw[jD _ _ (by rw[mx];exact hf),jD _ _ (by rw[my];exact hs),gN,gN,iN,bJ,bJ,ja,yl,yl];exact R.aX '!') ?_)))))⟩)).5).3))))))⟩)).4).3).7)))
  rw[jD _ _ (by rw[mx];exact hf),jD _ _ (by rw[my];exact hs),gN,gN,iN,iN,fin]
  exact hk
theorem oP:FnScope ["lines", "where", "below"] zl13 (aK iB):=zSc
theorem wD{f:Addr}{fd:FuncData}(Df:R.Df K mg "bands_at" iB zl13 f fd)(aM5:R.Df K mg "under" jX zl19 aM3 aM4)(aM6:FnOk P w K mg z CX0 1 aM3 aM4 zl19 (spZ K n8))(T:Bt mg):FnOk P w K mg z CX0 2 f fd zl13 (spZ K qY):=by
 refine bL Df oP (λds M k h=>?_) (λ_ _ _ _ _ _ hr ds M k h=>?_)
 ·obtain⟨ws,v,rfl,_⟩:=h;rfl
 obtain⟨ws,v,rfl,h9,hl,hv,hk⟩:=h
 have ml:=bJ ws
 refine aD (aP 2 oP.nd (aO aY T.len qu (bB ["where"] [1] (bR ⟨_, .inl rfl,(cA (ds:=aQ ws) (by rw[ml];exact R.aX '!') (λi acc M'=>M'=M/\acc=aQ ((ws.take i).filter λx=>decide (x<v))) ⟨rfl,rfl⟩ ?_ ?_)⟩.4)).3))
 ·rintro i d acc M' hd ⟨rfl,rfl⟩ _ _ _ _ _
  obtain⟨x,hx,rfl⟩:=bP hd
  refine rD (bQ (aF aM6 (by decide).6 aM5.m aM5.F.kp aM5.b (aC ⟨pq x,pq v,rfl,(h9 x (zMo hx)).p,hv.p,?_⟩).5.3.4.3))
  rw[aAE]
  refine⟨_,rfl,(ite2 (λhb=>λ_ _ _ _ _ => ?_) (λhb => ?_))⟩
  ·refine aB 0 rfl ⟨rfl,?_⟩
   rw[take_snoc hx,pd,vz (p:=λx=>decide (x<v)) hb,Qa,<- iN]
   rfl
  ·refine⟨rfl,?_⟩
   rw[take_snoc hx,pd,yh (p:=λx=>decide (x<v)) hb,Qa,yt]
 rintro acc M' ⟨rfl,rfl⟩
 rw[ml,qx]
 refine aC (bV '%' ?_)
 rw[bJ,show (ws.filter λx=>decide (x<v)).length=gY ws v from rfl]
 have hcl:gY ws v<=ws.length:=bw _ _
 refine aD (bK (dM (pI (a9 fW (aO aY T.len qu (aC (bV (.tup _) (dY ⟨_,rfl,?_⟩))).4.3).7))))
 rw[ml]
 unfold bW at hk
 by_cases h1:gY ws v<ws.length
 rotate_left
 ·rw[if_neg (λz=>h1 z.1)] at hk
  exact jO (decide_eq_false '!') (b7 (bD (aH (aL (cT (aN cU (z6 (bS (aC ⟨(show 1<=sizeLine by decide),hk⟩))).7).3)))))
 refine jQ (decide_eq_true '!') (n9 (a9 (m8 (n:=1) (R.units_le hr)) (aI aG (aJ (.tup _) (i5 h1) (mS (e1:=c8 (ws.getD (gY ws v) 0)) (e2:=c8 v) (.tup _) (.tup _) rfl rfl ⟨_,rfl,?_⟩).5).7.4)))
 rw[qK]
 by_cases h2:ws.getD (gY ws v) 0=v
 ·rw[if_pos ⟨h1,h2⟩] at hk
  exact jQ (decide_eq_true h2) (aH (aL (cT (aN cU (z6 (bS (aC ⟨(show 2<=sizeLine by decide),hk⟩).7.3)).7).3)))
 ·rw[if_neg (λz=>h2 z.2)] at hk
  exact jO (decide_eq_false h2) (bD (aH (aL (cT (aN cU (z6 (bS (aC ⟨(show 1<=sizeLine by decide),hk⟩))).7).3))))
theorem oQ:FnScope ["yard", "across", "up", "rows"] zl8 (aK iE):=zSc
theorem wP(Df:R.Df K mg "has_cell" iE zl8 f fd)(T:Bt mg):FnOk P w K mg z CX0 1 f fd zl8 (spZ K aEN):=by
 refine bL Df oQ (λds M k h=>?_) (λ_ _ _ _ _ _ hr ds M k h=>?_)
 ·obtain⟨x,y,zs,a,u,rfl,_⟩:=h;rfl
 obtain⟨x,y,zs,a,u,rfl,hz,hk⟩:=h
 have kf:R.aW zs a u=false->k (.bl false) M:=λe=>by rw[e] at hk;exact hk
 refine aD (aP 3 oQ.nd (aI aG (z6 (aJ (.tup _) rfl (aD (bK (dM (c6 (a9 fW (z6 (dY ⟨_,rfl,(ite2 (λh1=>bA (aH (aL (cS (kf (R.fB (of_decide_eq_true h1))))))) (λh1=>(c6 (a9 sW (aO aY T.len qu (aB 3 rfl (aC (bV (.tup _) (dY ⟨_,rfl,(ite2 (λh2=>bA (aH (aL (cS (kf (R.fP (by have:=of_decide_eq_true h2;rw[zLm] at this;exact this))))))) (λh2=>(c6 (a9 fW (z6 (dY ⟨_,rfl,?_⟩)).5))))⟩)))).3).7))))⟩)).7))))))).4))
 refine ite2 (λh3=>bA (aH (aL (cS (kf (R.dG (of_decide_eq_true h3))))))) (λh3 => ?_)
 obtain⟨hu,ha,z,ez,ei⟩:=cell_in h1 h2 h3
 refine dQ (a9 sW (aO aY T.len qu (aI aG (aB 3 rfl (aJ (.tup _) ei (aC (i6 (R.aX (by have:=hz z (zMo ez);omega)) (dY ⟨_,rfl,?_⟩)))).7)).3).5)
 have hzl:=hz z (zMo ez)
 refine ite2 (λh4=>aH (aL (cS (kf (R.i9 ez (of_decide_eq_true h4)))))) (λh4=>bD ?_)
 obtain⟨c,ec,ec2⟩:=aH3 ha (λq=>h4 (decide_eq_true q))
 refine aH (aL (eI gT (aI aG (aI aG (aB 3 rfl (aJ (.tup _) ei (kY (R.aX '!') ec2 (ge_str (u9 ?_))).5).7)))))
 rw[aBC,<- R.fF hu ha ez ec]
 exact hk
theorem u6:FnScope zl4 zl4 (aK jA):=zSc
theorem tY{f:Addr}{fd:FuncData}{aM7:Addr}{aM8:FuncData}(Df:R.Df K mg "finer_row" jA zl4 f fd)(aM9:R.Df K mg "has_cell" iE zl8 aM7 aM8)(aNA:FnOk P w K mg z CX0 1 aM7 aM8 zl8 (spZ K aEN))(T:Bt mg):FnOk P w K mg z CX0 2 f fd zl4 (spZ K rY):=by
 refine bL Df u6 (λds M k h=>?_) (λ_ _ _ _ _ _ hr ds M k h=>?_)
 ·obtain⟨x,y,K',cs,u,rfl,_⟩:=h;rfl
 obtain⟨x,y,K',cs,u,rfl,hw,hl,hk⟩:=h
 refine aH (aL (gG we wo wm iT (ge_str ⟨rfl,aA (bB ["yard", "up"] [0,2] (bR ⟨_, .inr (.inl rfl),(cA (ds:=cs.map D.int) (by rw[zLm];exact R.aX '!') (λi acc M'=>M'=M/\acc=(((cs.take i).map λc=>R.sg (R.aW K' c u)).map λc=>(⟨#[c]⟩:Str)).map D.str) ⟨rfl,rfl⟩ ?_ ?_)⟩.5))⟩)))
 ·rintro i d acc M' hd ⟨rfl,rfl⟩ _ _ _ _ _
  obtain⟨c,hc,rfl⟩:=bP hd
  refine bG (bA λ_ _ _ _ _=>(k6 (bQ (aF aNA (by decide).6 aM9.m aM9.F.kp aM9.b (aC ⟨_,_,K',_,_,rfl,hw,⟨_,rfl,?_⟩⟩).7.3.4.3.5.3))))
  have step:∀b,R.aW K' c u=b->(((cs.take (i+1)).map λc=>R.sg (R.aW K' c u)).map λc=>(⟨#[c]⟩:Str)).map D.str=(((cs.take i).map λc=>R.sg (R.aW K' c u)).map λc=>(⟨#[c]⟩:Str)).map D.str++[.str ⟨#[R.sg b]⟩]:=λb hb=>by
   rw[bO hc,qj,qj,hb];rfl
  refine ite2 (λhb => ?_) (λhb => ?_)
  ·refine ge_str ⟨rfl,?_⟩
   rw[step true hb,vN];rfl
  ·refine ge_str ⟨rfl,?_⟩
   rw[step false (by simpa using hb),show ("." : Str)=⟨#[R.sg false]⟩ from by decide +kernel]
 rintro acc M' ⟨rfl,rfl⟩
 rw[zLm,qx]
 refine aC (iR '%' (by decide +kernel) (by simp only[oI,zLm];omega) ?_)
 rw[R.gA,R.jZ]
 exact hk
theorem jL:FnScope ["yard", "xs", "ys", "acrosses", "ups"] zl11 (aK iC):=zSc
theorem sP{f:Addr}{fd:FuncData}{aNB aNC:Addr}{aND aNE:FuncData}(Df:R.Df K mg "finer_rows" iC zl11 f fd)(aNF:R.Df K mg "bands_at" iB zl13 aNB aND)(aNG:FnOk P w K mg z CX0 2 aNB aND zl13 (spZ K qY))(aNH:R.Df K mg "finer_row" jA zl4 aNC aNE)(aNI:FnOk P w K mg z CX0 2 aNC aNE zl4 (spZ K rY))(T:Bt mg):FnOk P w K mg z CX0 3 f fd zl11 (spZ K oW):=by
 refine bL Df jL (λds M k h=>?_) (λ_ _ _ _ _ _ hr ds M k h=>?_)
 ·obtain⟨A,xs,ys,rfl,_⟩:=h;rfl
 obtain⟨A,xs,ys,rfl,hws,hus,hxs,hys,lw,lu,lx,ly,hk⟩:=h
 have hz:∀z∈A.K,z.length<=1000:=λz hz=>by have:=A.wide.1 z hz;omega
 refine aD (aP 3 jL.nd (bB ["yard"] [0] (bR (dC fT (d7 (d6 (gU fM (z6 ⟨_,rfl,⟨_,rfl,(gJ '%' ?_)⟩⟩)))).5))))
 rw[g8,sL]
 refine⟨_, .inr (.inl rfl),(cA (ds:=aQ xs.dropLast) (by rw[bJ,jj];exact R.aX '!') (λi acc M'=>M'=M/\acc=((xs.dropLast.take i).map (ix A.ws)).map D.int) ⟨rfl,rfl⟩ ?_ ?_)⟩
 ·rintro i d acc M' hd ⟨rfl,rfl⟩ _ _ _ _ _
  obtain⟨x,hx,rfl⟩:=bP hd
  refine bG (bA λ_ _ _ _ _=>(aI aG (aF aNG (by decide).6 aNF.m aNF.F.kp aNF.b (aI aG (z6 (aJ (.tup _) rfl (aC ⟨A.ws,x,rfl,hws,by omega,hxs x ((QP xs).mem (zMo hx)),(gU fM (z6 ⟨_,rfl,(aJ '%' (p7 A.uw _) ⟨rfl,?_⟩)⟩))⟩).4.3)).5).3)))
  rw[bO hx,qj]
  rfl
 rintro acc M' ⟨rfl,rfl⟩
 rw[bJ,qx]
 refine aD (jN 4 ["yard"] [0] jL.nd (bR (dC fT (d7 (d6 (gU fM (z6 ⟨_,rfl,⟨_,rfl,(gJ '%' ?_)⟩⟩)))).7)))
 rw[g8,sL]
 refine⟨_, .inr (.inl rfl),(sY (ds:=aQ ys.dropLast) (by rw[bJ,jj];exact R.aX '!') (λi acc M1=>M1=M'/\acc=((ys.dropLast.take i).map (ix A.us)).map D.int) ⟨rfl,rfl⟩ ?_ ?_)⟩
 ·rintro i d acc M1 hd ⟨rfl,rfl⟩ _ _ _ _ _
  obtain⟨x,hx,rfl⟩:=bP hd
  refine bG (bA λ_ _ _ _ _=>(aI aG (aF aNG (by decide).6 aNF.m aNF.F.kp aNF.b (aI aG (z6 (aJ (.tup _) rfl (aC ⟨A.us,x,rfl,hus,by omega,hys x ((QP ys).mem (zMo hx)),(gU fM (z6 ⟨_,rfl,(aJ '%' (p7 A.uu _) ⟨rfl,?_⟩)⟩))⟩).4.3)).5).3)))
  rw[bO hx,qj]
  rfl
 rintro acc M1 ⟨rfl,rfl⟩ a4 ha4
 rw[bJ,qx]
 refine gO 4 rfl aT ?_
 rw[iY ha4]
 refine aH (aL (bB ["yard", "acrosses"] [0,3] (bR (aB 4 rfl ⟨_, .inr (.inl rfl),(cA (ds:=(ys.dropLast.map (ix A.us)).map D.int) (by rw[zLm,zLm,jj];exact R.aX '!') (λi acc M2=>M2=M1/\acc=((ys.dropLast.take i).map λy=>tD A.K (xs.dropLast.map (ix A.ws)) (ix A.us y)).map D.str) ⟨rfl,rfl⟩ ?_ ?_)⟩))))
 ·rintro i d acc M2 hd ⟨rfl,rfl⟩ _ _ _ _ _
  obtain⟨u,hu,rfl⟩:=bP hd
  obtain⟨y,hy,rfl⟩:=bP hu
  refine bG (bA λ_ _ _ _ _=>(aF aNI (by decide).6 aNH.m aNH.F.kp aNH.b (aC ⟨_,_,A.K,_,_,rfl,hz,by rw[zLm,jj];omega,?_⟩).4.3.7.3.5.3))
  refine⟨rfl,?_⟩
  rw[bO hy,qj]
  rfl
 rintro acc M2 ⟨rfl,rfl⟩
 rw[zLm,zLm,qx]
 unfold dW at hk
 simp only[aE6]
 exact hk
theorem sR:FnScope zl7 zl7 (aK iF):=zSc
theorem sU(Df:R.Df K mg "chosen_row" iF zl7 f fd)(T:Bt mg):FnOk P w K mg z CX0 1 f fd zl7 (spZ K qM):=by
 refine bL Df sR (λds M k h=>?_) (λ_ _ _ _ _ _ hr ds M k h=>?_)
 ·obtain⟨a,b,ps,rfl,_⟩:=h;rfl
 obtain⟨a,b,ps,rfl,hab,ha,hp,hk⟩:=h
 refine aH (aL (gG we wo wm iT (ge_str ⟨rfl,aA (rN ["pairs"] [2] (aG9 T.zip rp (aC ⟨a,b,rfl,hab,?_⟩).5.3.4.3))⟩)))
 have hl:(fH (eV a) (eV b)).length=a.length:=by unfold fH;rw[zLm,x5,dD,dD];omega
 have hlz:(a.cps.toList.zip b.cps.toList).length=a.length:=by
  rw[x5,qo,qo]
  have h1:a.cps.size=a.length:=rfl
  have h2:b.cps.size=b.length:=rfl
  omega
 refine aBE (by rw[hl];exact R.aX '!') (λd hd=>tR hd) (λi acc M'=>M'=M/\acc=((((a.cps.toList.zip b.cps.toList).take i).map λp=>R.sg (lX ps p)).map λc=>(⟨#[c]⟩:Str)).map D.str) ⟨rfl,rfl⟩ ?_ ?_
 ·rintro i d1 d2 acc M' hd ⟨rfl,rfl⟩ _ _ _ _ _
  obtain⟨c,e,hz,rfl,rfl⟩:=aD2 hd
  refine bG (bA λ_ _ _ _ _=>(k6 (a9 (aI5 (n:=0) (R.units_le hr)) (aN aAC (aF1 (R.aX (show 1+1<=1000000 by decide)) (aJ2 (.tup _) (.inl rfl) rfl (aDZ ps) ⟨_,rfl,?_⟩).7).5.4))))
  rw[aDW]
  have step:∀v,lX ps (c,e)=v->((((a.cps.toList.zip b.cps.toList).take (i+1)).map λp=>R.sg (lX ps p)).map λc=>(⟨#[c]⟩:Str)).map D.str=((((a.cps.toList.zip b.cps.toList).take i).map λp=>R.sg (lX ps p)).map λc=>(⟨#[c]⟩:Str)).map D.str++[.str ⟨#[R.sg v]⟩]:=λv hv=>by
   rw[bO hz,qj,qj,hv];rfl
  refine ite2 (λhb => ?_) (λhb => ?_)
  ·refine ge_str ⟨rfl,?_⟩
   rw[step true hb,vN];rfl
  ·refine ge_str ⟨rfl,?_⟩
   rw[step false (fc.mpr hb),show ("." : Str)=⟨#[R.sg false]⟩ from by decide +kernel]
 rintro acc M' ⟨rfl,rfl⟩
 rw[hl,<- hlz,qx]
 refine aC (iR '%' (by decide +kernel) (by simp only[oI,zLm];omega) ?_)
 rw[R.gA,R.jZ]
 exact hk
theorem jC:FnScope ["one", "other", "pairs", "xs", "ys", "ones", "others"] zl7 (aK iS):=zSc
theorem aCN{f:Addr}{fd:FuncData}{aNJ aNK aNL:Addr}{aNM aNN aNO:FuncData}(Df:R.Df K mg "chosen" iS zl7 f fd)(aNP:R.Df K mg "merged" lU zl19 aNJ aNM)(aNQ:FnOk P w K mg z CX0 2 aNJ aNM zl19 (spZ K tZ))(aNR:R.Df K mg "finer_rows" iC zl11 aNK aNN)(aNS:FnOk P w K mg z CX0 3 aNK aNN zl11 (spZ K oW))(aNT:R.Df K mg "chosen_row" iF zl7 aNL aNO)(aNU:FnOk P w K mg z CX0 1 aNL aNO zl7 (spZ K qM))(aMZ:R.Df K mg "tidied" iX zl9 aMP aMT)(aM0:FnOk P w K mg z CX0 3 aMP aMT zl9 (spZ K lM))(T:Bt mg):FnOk P w K mg z CX0 4 f fd zl7 (spZ K mC):=by
 refine bL Df jC (λds M k h=>?_) (λ_ _ _ _ _ _ hr ds M k h=>?_)
 ·obtain⟨A,B,Sx,Sy,ps,rfl,_⟩:=h;rfl
 obtain⟨A,B,Sx,Sy,ps,rfl,bx,by_,oA,oB,lp,hk⟩:=h
 obtain⟨h1,h2,l1,l2⟩:=onB oA bx by_
 obtain⟨h3,h4,l3,l4⟩:=onB oB bx by_
 have ux:=b6 A.uw B.uw
 have uy:=b6 A.uu B.uu
 have mx:=gE A.ws B.ws
 have my:=gE A.us B.us
 have ix:BqL (aS A.ws B.ws):=λx hx=>((cP _ _ _).mp hx).elim (h1 x) (h3 x)
 have iy:BqL (aS A.us B.us):=λx hx=>((cP _ _ _).mp hx).elim (h2 x) (h4 x)
 have gz:=fC (λx y=>kQ ps (A.has x y) (B.has x y)) (aS A.ws B.ws) (aS A.us B.us)
 have lz:=f7 (λx y=>kQ ps (A.has x y) (B.has x y)) (aS A.ws B.ws) (aS A.us B.us)
 have hk:k (gI (aQ (aS A.ws B.ws)) (aQ (aS A.us B.us)) (dW (λx y=>kQ ps (A.has x y) (B.has x y)) (aS A.ws B.ws) (aS A.us B.us))) M:=by rw[xH ux uy gz lz];exact hk
 refine aD (aP 3 jC.nd (aF aNQ (by decide).6 aNP.m aNP.F.kp aNP.b (aI aG (z6 (aJ (.tup _) rfl (aI aG (z6 (aJ (.tup _) rfl (aC ⟨A.ws,B.ws,rfl,h1,h3,by omega,by omega,?_⟩))).5).3)).4).3))
 refine aD (aP 4 jC.nd (aF aNQ (by decide).6 aNP.m aNP.F.kp aNP.b (aI aG (z6 (aJ (.tup _) rfl (aI aG (z6 (aJ (.tup _) rfl (aC ⟨A.us,B.us,rfl,h2,h4,by omega,by omega,?_⟩))).5).3)).4).3))
 refine aD (aP 5 jC.nd (aF aNS (by decide).6 aNR.m aNR.F.kp aNR.b (aB 3 rfl (aB 4 rfl (aC ⟨A,_,_,rfl,h1,h2,ix,iy,l1,l2,by omega,by omega,?_⟩)).3).3.4.3))
 refine aD (aP 6 jC.nd (aF aNS (by decide).6 aNR.m aNR.F.kp aNR.b (aB 3 rfl (aB 4 rfl (aC ⟨B,_,_,rfl,h3,h4,ix,iy,l3,l4,by omega,by omega,?_⟩)).3).3.5.3))
 refine aH (aL (aF aM0 (by decide).6 aMZ.m aMZ.F.kp aMZ.b (aB 3 rfl (aB 4 rfl (rN ["pairs"] [2] (aH4 T.zip rp (aB 5 rfl (aB 6 rfl (aC ?_)).3).3)).3).3).3))
 have la:=f7 A.has (aS A.ws B.ws) (aS A.us B.us)
 have lb:=f7 B.has (aS A.ws B.ws) (aS A.us B.us)
 have ea:=fC A.has (aS A.ws B.ws) (aS A.us B.us)
 have eb:=fC B.has (aS A.ws B.ws) (aS A.us B.us)
 have cg:=aBS ps A.has B.has (aS A.ws B.ws) (aS A.us B.us)
 generalize dW A.has (aS A.ws B.ws) (aS A.us B.us)=A1 at *
 generalize dW B.has (aS A.ws B.ws) (aS A.us B.us)=A2 at *
 refine⟨_,_,rfl,by rw[zLm,zLm];omega,?_⟩
 have hl:(fH (A1.map D.str) (A2.map D.str)).length=A1.length:=by unfold fH;rw[zLm,x5,zLm,zLm];omega
 have hlz:(A1.zip A2).length=A1.length:=by rw[x5];omega
 refine aBE (by rw[hl];exact R.aX '!') (λd hd=>tR hd) (λi acc M'=>M'=M/\acc=(((A1.zip A2).take i).map λp=>pV ps p.1 p.2).map D.str) ⟨rfl,rfl⟩ ?_ ?_
 ·rintro i d1 d2 acc M' hd ⟨rfl,rfl⟩ _ _ _ _ _
  obtain⟨e1,e2⟩:=aCS hd
  obtain⟨a,ha,rfl⟩:=bP e1
  obtain⟨b,hb,rfl⟩:=bP e2
  have w1:=(ea a (zMo ha)).1
  have w2:=(eb b (zMo hb)).1
  refine bG (bA λ_ _ _ _ _=>(aF aNU (by decide).6 aNT.m aNT.F.kp aNT.b (aC ⟨a,b,ps,rfl,by omega,by omega,lp,?_⟩).7.3.5.3.4.3))
  refine⟨rfl,?_⟩
  rw[bO (vt.mpr ⟨ha,hb⟩:(A1.zip A2)[i]?=some (a,b)),qj]
  rfl
 rintro acc M' ⟨rfl,rfl⟩
 rw[hl,<- hlz,qx,cg]
 exact aC ⟨true,_,_,_,aQ (aS A.ws B.ws),aQ (aS A.us B.us),_,(aS A.ws B.ws).length-1,rfl,rfl,rfl,rfl,by omega,by omega,λz hz=>(gz z hz).1,by rw[bJ];exact eQ λz hz=>(gz z hz).1,by rw[bJ];exact eP lz,hk⟩
theorem aGY:FnScope zl19 zl19 (aK qC):=zSc
theorem aHG{f:Addr}{fd:FuncData}(Df:R.Df K mg "both" qC zl19 f fd)(aNX:R.Df K mg "chosen" iS zl7 aNV aNW)(aNY:FnOk P w K mg z CX0 4 aNV aNW zl7 (spZ K mC)):FnOk P w K mg z CX0 5 f fd zl19 (spZ K (lN c9)):=by
 refine bL Df aGY (λds M k h=>?_) (λ_ _ _ _ _ _ hr ds M k h=>?_)
 ·obtain⟨A,B,Sx,Sy,rfl,_⟩:=h;rfl
 obtain⟨A,B,Sx,Sy,rfl,bx,by_,oA,oB,hk⟩:=h
 rw[<- aA4] at hk
 refine aH (aL (aF aNY (by decide).6 aNX.m aNX.F.kp aNX.b (eJ (ge_str (aC ⟨(show 1<=sizeLine by decide),(aC ⟨A,B,Sx,Sy,[("##" : Str)],rfl,bx,by_,oA,oB,by decide,?_⟩)⟩)).3).3.5.3.4.3))
 exact hk
theorem aA0:FnScope zl19 zl19 (aK lW):=zSc
theorem aB3{f:Addr}{fd:FuncData}(Df:R.Df K mg "either" lW zl19 f fd)(aNX:R.Df K mg "chosen" iS zl7 aNV aNW)(aNY:FnOk P w K mg z CX0 4 aNV aNW zl7 (spZ K mC)):FnOk P w K mg z CX0 5 f fd zl19 (spZ K (lN cG)):=by
 refine bL Df aA0 (λds M k h=>?_) (λ_ _ _ _ _ _ hr ds M k h=>?_)
 ·obtain⟨A,B,Sx,Sy,rfl,_⟩:=h;rfl
 obtain⟨A,B,Sx,Sy,rfl,bx,by_,oA,oB,hk⟩:=h
 rw[<- wS] at hk
 refine aH (aL (aF aNY (by decide).6 aNX.m aNX.F.kp aNX.b (eJ (ge_str (ge_str (ge_str (aC ⟨(show 3<=sizeLine by decide),(aC ⟨A,B,Sx,Sy,[("##" : Str),("#." : Str),(".#" : Str)],rfl,bx,by_,oA,oB,by decide,?_⟩)⟩)).3).3).3).3.5.3.4.3))
 exact hk
theorem aG2:FnScope zl19 zl19 (aK mZ):=zSc
theorem aFZ{f:Addr}{fd:FuncData}(Df:R.Df K mg "less" mZ zl19 f fd)(aNX:R.Df K mg "chosen" iS zl7 aNV aNW)(aNY:FnOk P w K mg z CX0 4 aNV aNW zl7 (spZ K mC)):FnOk P w K mg z CX0 5 f fd zl19 (spZ K (lN bY)):=by
 refine bL Df aG2 (λds M k h=>?_) (λ_ _ _ _ _ _ hr ds M k h=>?_)
 ·obtain⟨A,B,Sx,Sy,rfl,_⟩:=h;rfl
 obtain⟨A,B,Sx,Sy,rfl,bx,by_,oA,oB,hk⟩:=h
 rw[<- aBI] at hk
 refine aH (aL (aF aNY (by decide).6 aNX.m aNX.F.kp aNX.b (eJ (ge_str (aC ⟨(show 1<=sizeLine by decide),(aC ⟨A,B,Sx,Sy,[("#." : Str)],rfl,bx,by_,oA,oB,by decide,?_⟩)⟩)).3).3.5.3.4.3))
 exact hk
theorem aBP:FnScope zl19 zl19 (aK lZ):=zSc
theorem aCH{f:Addr}{fd:FuncData}{aNZ:Addr}{aN0:FuncData}(Df:R.Df K mg "within" lZ zl19 f fd)(aN1:R.Df K mg "less" mZ zl19 aNZ aN0)(aN2:FnOk P w K mg z CX0 5 aNZ aN0 zl19 (spZ K (lN bY))){aV:Addr}(CV:mg "VOID" = some (.ref aV))(EV:∀G,Den K G (yd Yd.void) (.ref aV)):FnOk P w K mg z CX0 6 f fd zl19 (spZ K vU):=by
 refine bL Df aBP (λds M k h=>?_) (λ_ _ _ _ _ _ hr ds M k h=>?_)
 ·obtain⟨A,B,Sx,Sy,rfl,_⟩:=h;rfl
 obtain⟨A,B,Sx,Sy,rfl,bx,by_,oA,oB,hk⟩:=h
 refine aH (aL (eI (m8 (n:=3) (R.units_le hr)) (aF aN2 (by decide).6 aN1.m aN1.F.kp aN1.b (aC ⟨A,B,Sx,Sy,rfl,bx,by_,oA,oB,(aGG CV EV (mS (e1:=yd (Yd.op bY A B)) (e2:=yd Yd.void) (.tup _) (.tup _) (nW _) (nW _) ?_))⟩).5.3.4.3)))
 rw[aFJ]
 exact hk
theorem lH:FnScope ["_law_one", "_law_other", "_law_first", "_law_second", "_law_found", "_law_again"] zl5 (aK qL):=zSc
theorem aF4{f:Addr}{fd:FuncData}{aN3 aN4 aN5 aNZ aN6:Addr}{aN7 aN8 aN9 aN0 aOA:FuncData}(Df:R.Df K mg "_law_told" qL zl5 f fd)(aOB:R.Df K mg "made" p8 zl9 aN3 aN7)(aOC:FnOk P w K mg z CX0 5 aN3 aN7 zl9 (spZ K aFH))(aOD:R.Df K mg "both" qC zl19 aN4 aN8)(aOE:FnOk P w K mg z CX0 5 aN4 aN8 zl19 (spZ K (lN c9)))(aOF:R.Df K mg "either" lW zl19 aN5 aN9)(aOG:FnOk P w K mg z CX0 5 aN5 aN9 zl19 (spZ K (lN cG)))(aN1:R.Df K mg "less" mZ zl19 aNZ aN0)(aN2:FnOk P w K mg z CX0 5 aNZ aN0 zl19 (spZ K (lN bY)))(aOH:R.Df K mg "within" lZ zl19 aN6 aOA)(aOI:FnOk P w K mg z CX0 6 aN6 aOA zl19 (spZ K vU))(T:Bt mg):FnOk P w K mg z CX0 7 f fd zl5 (spZ K aCG):=by
 refine bL Df lH (λds M k h=>?_) (λ_ _ _ _ _ _ hr ds M k h=>?_)
 ·obtain⟨xs,ys,zs,xs',ys',zs',h,h',rfl,_⟩:=h;rfl
 obtain⟨xs,ys,zs,xs',ys',zs',h,h',rfl,hk⟩:=h
 obtain⟨oA,oB⟩:=aCY (p4 h) (p4 h')
 refine aD (aP 2 lH.nd (aF aOC (by decide).6 aOB.m aOB.F.kp aOB.b (aZ bC T.list R.BL (aI aG (z6 (aJ '%' rfl (aC (cH '%' (aZ bC T.list R.BL (aI aG (z6 (aJ '%' rfl (aC (cH '%' (aZ bC T.list R.BL (aI aG (z6 (aJ '%' rfl (aC (cH '%' (aC ⟨_,_,_,rfl,h.x,h.y,h.g,h.hz,?_⟩))))).4).3).3)))).4).3).3)))).4).3).3))
 rw[pM h]
 refine aD (aP 3 lH.nd (aF aOC (by decide).6 aOB.m aOB.F.kp aOB.b (aZ bC T.list R.BL (aI aG (z6 (aJ '%' rfl (aC (cH '%' (aZ bC T.list R.BL (aI aG (z6 (aJ '%' rfl (aC (cH '%' (aZ bC T.list R.BL (aI aG (z6 (aJ '%' rfl (aC (cH '%' (aC ⟨_,_,_,rfl,h'.x,h'.y,h'.g,h'.hz,?_⟩))))).5).3).3)))).5).3).3)))).5).3).3))
 rw[pM h']
 refine aD (aP 4 lH.nd (iP (aF aOE (by decide).6 aOD.m aOD.F.kp aOD.b (aB 3 rfl (aC ?_)).3.7.3).3))
 obtain⟨s1,s2,s3,s4⟩:=(oA).set (oB)
 refine⟨_,_,_,_,rfl,s1,s2,s3,s4,(aF aOG (by decide).6 aOF.m aOF.F.kp aOF.b (aB 3 rfl (aC ?_)).3.7.3).3⟩
 obtain⟨s1,s2,s3,s4⟩:=(oA).set (oB)
 refine⟨_,_,_,_,rfl,s1,s2,s3,s4,(aF aN2 (by decide).6 aN1.m aN1.F.kp aN1.b (aB 3 rfl (aC ?_)).3.7.3).3⟩
 obtain⟨s1,s2,s3,s4⟩:=(oA).set (oB)
 refine⟨_,_,_,_,rfl,s1,s2,s3,s4,(aC ⟨(show 3<=sizeLine by decide),λa ha=>(aD (jV (gG xk wz wy fA (aB 4 rfl (⟨⟨rfl,_,aT⟩,(aF aOI (by decide).6 aOH.m aOH.F.kp aOH.b (aB 3 rfl (aC ?_)).3.7.3).3⟩)))))⟩)⟩
 obtain⟨s1,s2,s3,s4⟩:=(oA).set (oB)
 refine⟨_,_,_,_,rfl,s1,s2,s3,s4,(aC (g7 aT (show 3<sizeLine by decide) (aD (aP 5 lH.nd (cT (aF aOE (by decide).6 aOD.m aOD.F.kp aOD.b (aB 3 rfl (aC ?_)).3.7.3).3)))))⟩
 obtain⟨s1,s2,s3,s4⟩:=(oA).set (oB)
 refine⟨_,_,_,_,rfl,s1,s2,s3,s4,(aF aOG (by decide).6 aOF.m aOF.F.kp aOF.b (aB 3 rfl (aC ?_)).3.7.3).3⟩
 obtain⟨s1,s2,s3,s4⟩:=(oA).set (oB)
 refine⟨_,_,_,_,rfl,s1,s2,s3,s4,(aF aN2 (by decide).6 aN1.m aN1.F.kp aN1.b (aB 3 rfl (aC ?_)).3.7.3).3⟩
 obtain⟨s1,s2,s3,s4⟩:=(oA).set (oB)
 refine⟨_,_,_,_,rfl,s1,s2,s3,s4,(aC ⟨(show 3<=sizeLine by decide),(aD (bK (dM (c6 (a9 (jE (n:=4) (R.units_le hr)) (dC fT (aB 4 rfl (d7 (d6 (z6 ⟨_,rfl,(gJ (.mt aT) (aB 5 rfl (qA (e1 := .lst [yd (Yd.op c9 h.Y h'.Y),yd (Yd.op cG h.Y h'.Y),yd (Yd.op bY h.Y h'.Y)]) (e2 := .lst [yd (Yd.op c9 h.Y h'.Y),yd (Yd.op cG h.Y h'.Y),yd (Yd.op bY h.Y h'.Y)]) '%' '%' (ok3 _ _ _) (ok3 _ _ _) ⟨_,rfl,?_⟩)))⟩))))))))))⟩)⟩
 rw[eqD_refl 4 _ (ok3 _ _ _)]
 refine b7 (dQ (a9 (jE (n:=3) (R.units_le hr)) (aF aOC (by decide).6 aOB.m aOB.F.kp aOB.b (aZ bC T.list R.BL (aI aG (z6 (aJ '%' rfl (aC (cH '%' (aZ bC T.list R.BL (aI aG (z6 (aJ '%' rfl (aC (cH '%' (aZ bC T.list R.BL (aI aG (z6 (aJ '%' rfl (aC (cH '%' ?_)))).4).3).3)))).4).3).3)))).4).3).3).7))
 refine aC ⟨_,_,_,rfl,h.x,h.y,h.g,h.hz,?_⟩
 rw[pM h]
 refine nG rfl ⟨_,rfl,b7 (bD (aD (bK (a9 (jE (n:=3) (R.units_le hr)) (aB 3 rfl (aF aOC (by decide).6 aOB.m aOB.F.kp aOB.b (aZ bC T.list R.BL (aI aG (z6 (aJ '%' rfl (aC (cH '%' (aZ bC T.list R.BL (aI aG (z6 (aJ '%' rfl (aC (cH '%' (aZ bC T.list R.BL (aI aG (z6 (aJ '%' rfl (aC ?_))).5).3).3)))).5).3).3)))).5).3).3))))))⟩
 refine cH '%' (aC ⟨_,_,_,rfl,h'.x,h'.y,h'.g,h'.hz,?_⟩)
 rw[pM h']
 refine nG rfl ⟨_,rfl,b7 (bD (aD (bK (dM (c6 (a9 (jE (n:=3) (R.units_le hr)) (aF aOE (by decide).6 aOD.m aOD.F.kp aOD.b (aC ?_).7.3.7.3)))))))⟩
 obtain⟨s1,s2,s3,s4⟩:=(oA).set (oA)
 refine⟨_,_,_,_,rfl,s1,s2,s3,s4,(nG (aB0 _) ⟨_,rfl,b7 (dQ (a9 (jE (n:=3) (R.units_le hr)) (aF aOG (by decide).6 aOF.m aOF.F.kp aOF.b (aC ?_).7.3.7.3)))⟩).7⟩
 obtain⟨s1,s2,s3,s4⟩:=(oA).set (oA)
 refine⟨_,_,_,_,rfl,s1,s2,s3,s4,(nG (wO _) ⟨_,rfl,b7 (bD (aD (bK (a9 (jE (n:=3) (R.units_le hr)) (aF aN2 (by decide).6 aN1.m aN1.F.kp aN1.b (aC ?_).7.3.7.3)))))⟩).7⟩
 obtain⟨s1,s2,s3,s4⟩:=(oA).set (oA)
 exact⟨_,_,_,_,rfl,s1,s2,s3,s4,(eJ (eJ (aC ⟨(show 0<=sizeLine by decide),(eJ (aC ⟨(show 0<=sizeLine by decide),(eJ (aC ⟨(show 0<=sizeLine by decide),(aC ⟨(show 3<=sizeLine by decide),(aJE (aCF _) ⟨_,rfl,b7 (bD (gO 4 rfl aT (aH (aL (aB 4 rfl (hk _))))))⟩)⟩)⟩)).3⟩)).3⟩)).3)⟩
theorem u4:FnScope zl21 zl21 (aK i8):=zSc
theorem uG{f:Addr}{fd:FuncData}{aMF:Addr}{aMG:FuncData}(Df:R.Df K mg "is_number" i8 zl21 f fd)(aLP:R.Df K mg "is_whole" gF zl21 aLN aLO)(aLQ:FnOk P w K mg z CX0 1 aLN aLO zl21 (spZ K l8))(aMH:R.Df K mg "common_divisor" dN zl19 aMF aMG)(aMI:FnOk P w K mg z CX0 1 aMF aMG zl19 (spZ K rF))(T:Bt mg):FnOk P w K mg z CX0 2 f fd zl21 (spZ K sO):=by
 refine bL Df u4 (λds M k h=>?_) (λ_ _ _ _ _ _ hr ds M k h=>?_)
 ·obtain⟨d,n,rfl,_⟩:=h;rfl
 obtain⟨d,n,rfl,ht,hk⟩:=h
 rcases pT d with ⟨ls,rfl⟩|⟨e0,e1⟩
 ·obtain⟨hl,m,rfl,hm⟩:=gX ht
  refine aD (bK (dM (c6 (bU (bQ (dL (.inr (.inr (.inr (.inl rfl)))) T.isi T.tuple R.BT ⟨_, .self trivial,⟨_,rfl,?_⟩⟩.4))))))
  rw[tT]
  refine b7 (dQ (a9 lY (aO aY T.len qu (aC (bV (.tup _) (z6 (pY ⟨_,rfl,?_⟩)))).4.3)))
  by_cases h2:ls.length=2
  ·rw[decide_eq_true '!']
   refine b7 (bD ?_)
   obtain⟨a,b,rfl⟩:∃a b,ls=[a,b]:=by
    match ls,h2 with
    |[a,b],_=>exact⟨a,b,rfl⟩
   have sa:=gZ (hm a '$')
   have sb:=gZ (hm b '$')
   refine aD (bK (dM (c6 (bU (bQ (aF aLQ (by decide).6 aLP.m aLP.F.kp aLP.b (aI aG (z6 (aJ (.tup _) rfl (aC ⟨a,rfl,sa,⟨_,rfl,?_⟩⟩))).4).3))))))
   rcases uV a with ⟨i,rfl⟩|⟨e0,_⟩
   ·refine b7 (dQ (bU (bQ (aF aLQ (by decide).6 aLP.m aLP.F.kp aLP.b (aI aG (z6 (aJ (.tup _) rfl (aC ⟨b,rfl,sb,⟨_,rfl,?_⟩⟩))).4).3))))
    rcases uV b with ⟨j,rfl⟩|⟨e0,_⟩
    ·refine b7 (bD (aH (aL (lB (eI sW (aI aG (z6 (aJ (.tup _) rfl (z6 (dY ⟨_,rfl,?_⟩)))).4))))))
     have hk':k (.bl (decide (1<=j)&&decide (wa i j=1))) M:=hk
     by_cases h1:1<=j
     ·rw[decide_eq_true h1] at hk'
      refine jQ (decide_eq_true h1) (jF (eI gT (aF aMI (by decide).6 aMH.m aMH.F.kp aMH.b (aI aG (z6 (aJ (.tup _) rfl (aI aG (z6 (aJ (.tup _) rfl (aC ⟨i,j,rfl,(z6 (iD ?_))⟩))).4).3)).4).3)))
      rw[Qw] at hk'
      rw[show decide (((wa i j:Nat):Int)=1)=decide (wa i j=1) from by congr 1;exact propext '!']
      exact hk'
     ·rw[decide_eq_false h1] at hk'
      exact jO (decide_eq_false h1) hk'
    ·rw[e0]
     rw[nV (λ_ _ z=>by injection z with z;injection z with _ z;injection z with z;rw[z] at e0;cases e0)] at hk
     exact bA (aH (aL (cS hk)))
   ·rw[e0]
    rw[nV (λ_ _ z=>by injection z with z;injection z with z;rw[z] at e0;cases e0)] at hk
    exact bA (bA (aH (aL (cS hk))))
  ·rw[decide_eq_false '!']
   rw[nV (λ_ _ z=>by injection z with z;rw[z] at h2;exact h2 rfl)] at hk
   exact bA (aH (aL (cS hk)))
 ·rw[nV (λ_ _=>e1 _)] at hk
  refine aD (bK (dM (c6 (bU (bQ (dL (.inr (.inr (.inr (.inl rfl)))) T.isi T.tuple R.BT ⟨_, .self (gZ ht),⟨_,rfl,?_⟩⟩.4))))))
  rw[e0]
  exact bA (bA (aH (aL (cS hk))))
theorem mJ:FnScope zl21 zl21 (aK eG):=zSc
theorem mI{f:Addr}{fd:FuncData}{aOJ:Addr}{aOK:FuncData}(Df:R.Df K mg "are_number_lines" eG zl21 f fd)(aOL:R.Df K mg "is_number" i8 zl21 aOJ aOK)(aOM:FnOk P w K mg z CX0 2 aOJ aOK zl21 (spZ K sO))(aM5:R.Df K mg "under" jX zl19 aM3 aM4)(aM6:FnOk P w K mg z CX0 1 aM3 aM4 zl19 (spZ K n8))(T:Bt mg):FnOk P w K mg z CX0 3 f fd zl21 (spZ K wU):=by
 refine bL Df mJ (λds M k h=>?_) (λ_ _ _ _ _ _ hr ds M k h=>?_)
 ·obtain⟨d,n,rfl,_⟩:=h;rfl
 obtain⟨d,n,rfl,ht,hk⟩:=h
 rcases pT d with ⟨ls,rfl⟩|⟨e0,e1⟩
 ·obtain⟨hl,m,rfl,hm⟩:=gX ht
  refine aD (bK (dM (c6 (bU (bQ (dL (.inr (.inr (.inr (.inl rfl)))) T.isi T.tuple R.BT ⟨_, .self trivial,⟨_,rfl,?_⟩⟩.4))))))
  rw[tT]
  refine b7 (dQ (bU (bQ (aO (f6 rfl) T.all R.BAll (bB [] [] (bR ⟨_, .inl rfl,(cA (ds:=ls) (R.aX '!') (λi acc M'=>M'=M/\acc=((ls.take i).map i4).map D.bl) ⟨rfl,rfl⟩ ?_ ?_)⟩.4)).3))))
  ·rintro i d acc M' hd ⟨rfl,rfl⟩ _ _ _ _ _
   refine bG (bA λ_ _ _ _ _=>(aF aOM (by decide).6 aOL.m aOL.F.kp aOL.b (aC ⟨d,m,rfl,hm d (zMo hd),⟨rfl,?_⟩⟩).4.3))
   rw[bO hd,qj]
   rfl
  rintro acc M' ⟨rfl,rfl⟩
  rw[qx]
  refine aC (iL '%' ⟨_,rfl,?_⟩)
  rw[mV]
  cases ha:ls.all i4 with
  |false =>
   refine bA (aH (aL (cS ?_)))
   rw[show dS (.tup ls)=false from by show (ls.all i4&&_)=false;rw[ha];rfl] at hk
   exact hk
  |true =>
   obtain⟨ps,rfl,hps⟩:=nC ha
   have hb:∀p∈ps,p.1.natAbs<10^65/\p.2.natAbs<10^65:=λp hp=>by
    obtain⟨_,m',rfl,hm'⟩:=gX (hm _ (qw.mpr ⟨p,hp,rfl⟩))
    exact⟨uP (hm' _ '$'),uP (hm' _ '$')⟩
   rw[show dS (.tup (ps.map pairD))=upP ps from by show (_&&upP _)=_;rw[ha,sE];rfl] at hk
   rw[zLm] at hl
   refine b7 (bD (aH (aL (aO (f6 rfl) T.all R.BAll (bB zl21 [0] (yA T.range (z6 (aO aY T.len qu (aC (bV (.tup _) (aC ?_))).4.3).3).3)).3))))
   rw[zLm]
   refine⟨_,_,rfl,⟨by omega,by omega,by omega,by omega⟩,?_⟩
   rw[show (((ps.length:Nat):Int)-1).toNat=ps.length-1 by omega]
   refine cA (by rw[bN];exact R.aX '!') (λi acc M1=>M1=M'/\acc=((qy i).map λi=>ltP (ps.getD i (0,1)) (ps.getD (i+1) (0,1))).map D.bl) ⟨rfl,rfl⟩ ?_ ?_
   ·rintro i d acc M1 hd ⟨rfl,rfl⟩ _ _ _ _ _
    obtain⟨hi,rfl⟩:=cY hd
    obtain⟨a1,b1⟩:=xM (ps:=ps) (i:=i) '!'
    obtain⟨a2,b2⟩:=xM (ps:=ps) (i:=i+1) '!'
    refine bG (bA λ_ _ _ _ _=>(aF aM6 (by decide).6 aM5.m aM5.F.kp aM5.b (aI aG (aN cU (z6 (bS (aJ (.tup _) (by rw[show (1:Int)+(i:Int)-1=((i:Nat):Int) by omega];exact a1) (aI aG (aJ (.tup _) (by rw[show (1:Int)+(i:Int)=((i+1:Nat):Int) by omega];exact a2) (aC ⟨_,_,rfl,w65 (hb _ b1),w65 (hb _ b2),⟨rfl,?_⟩⟩)).4.5).3))).4).5).3))
    rw[cu,qj,qj]
    rfl
   rintro acc M1 ⟨rfl,rfl⟩
   rw[bN]
   refine aC (iL '%' ?_)
   rw[mV]
   exact hk
 ·rw[aFF e1] at hk
  refine aD (bK (dM (c6 (bU (bQ (dL (.inr (.inr (.inr (.inl rfl)))) T.isi T.tuple R.BT ⟨_, .self (gZ ht),⟨_,rfl,?_⟩⟩.4))))))
  rw[e0]
  exact bA (bA (aH (aL (cS hk))))
theorem zL:FnScope zl21 zl21 (aK kR):=zSc
theorem zD{f:Addr}{fd:FuncData}{aON aMO:Addr}{aOO aMS:FuncData}(Df:R.Df K mg "is_yard" kR zl21 f fd)(aOP:R.Df K mg "are_number_lines" eG zl21 aON aOO)(aOQ:FnOk P w K mg z CX0 3 aON aOO zl21 (spZ K wU))(aMX:R.Df K mg "rows_fit" iM zl10 aMO aMS)(aMY:FnOk P w K mg z CX0 2 aMO aMS zl10 (spZ K zU))(aMZ:R.Df K mg "tidied" iX zl9 aMP aMT)(aM0:FnOk P w K mg z CX0 3 aMP aMT zl9 (spZ K lM))(T:Bt mg):FnOk P w K mg z CX0 4 f fd zl21 (spZ K xA):=by
 refine bL Df zL (λds M k h=>?_) (λ_ _ _ _ _ _ hr ds M k h=>?_)
 ·obtain⟨d,n,rfl,_⟩:=h;rfl
 obtain⟨d,n,rfl,ht,hn,hk⟩:=h
 rcases pT d with ⟨ls,rfl⟩|⟨e0,e1⟩
 rotate_left
 ·rw[wX (λ_ _ _=>e1 _)] at hk
  refine aD (bK (dM (c6 (bU (bQ (dL (.inr (.inr (.inr (.inl rfl)))) T.isi T.tuple R.BT ⟨_, .self (gZ ht),⟨_,rfl,?_⟩⟩.4))))))
  rw[e0]
  exact bA (bA (aH (aL (cS hk))))
 obtain⟨hl,m,rfl,hm⟩:=gX ht
 refine aD (bK (dM (c6 (bU (bQ (dL (.inr (.inr (.inr (.inl rfl)))) T.isi T.tuple R.BT ⟨_, .self trivial,⟨_,rfl,?_⟩⟩.4))))))
 rw[tT]
 refine b7 (dQ (a9 lY (aO aY T.len qu (aC (bV (.tup _) (z6 (pY ⟨_,rfl,?_⟩)))).4.3)))
 by_cases h2:ls.length=3
 rotate_left
 ·rw[decide_eq_false '!']
  rw[wX (λ_ _ _ z=>by injection z with z;rw[z] at h2;exact h2 rfl)] at hk
  exact bA (aH (aL (cS hk)))
 rw[decide_eq_true '!']
 refine b7 (bD ?_)
 obtain⟨x,y,r,rfl⟩:∃x y r,ls=[x,y,r]:=by
  match ls,h2 with
  |[a,b,c],_=>exact⟨a,b,c,rfl⟩
 have tx:=hm x '$'
 have ty:=hm y '$'
 have tr:=hm r '$'
 rw[show nR (.tup [x,y,r])=yard3 x y r from rfl] at hk
 refine aD (bK (dM (c6 (bU (bQ (aF aOQ (by decide).6 aOP.m aOP.F.kp aOP.b (aI aG (z6 (aJ (.tup _) rfl (aC ⟨x,m,rfl,tx,⟨_,rfl,?_⟩⟩))).4).3))))))
 rcases tf (dS x) with hx|hx
 ·rw[hx]
  rw[aDV hx] at hk
  exact bA (bA (aH (aL (cS hk))))
 rw[hx]
 refine b7 (dQ (bU (bQ (aF aOQ (by decide).6 aOP.m aOP.F.kp aOP.b (aI aG (z6 (aJ (.tup _) rfl (aC ⟨y,m,rfl,ty,⟨_,rfl,?_⟩⟩))).4).3))))
 rcases tf (dS y) with hy|hy
 ·rw[hy]
  rw[aE1 hy] at hk
  exact bA (aH (aL (cS hk)))
 rw[hy]
 refine b7 (bD ?_)
 obtain⟨ps,rfl,_⟩:=sH hx
 obtain⟨qs,rfl,_⟩:=sH hy
 have lx:=(gX tx).1
 have ly:=(gX ty).1
 refine aD (bK (dM (c6 (bU (bQ (dL (.inr (.inr (.inr (.inl rfl)))) T.isi T.tuple R.BT (aI aG (z6 (aJ (.tup _) rfl ⟨_, .self (gZ tr),⟨_,rfl,?_⟩⟩)).4)))))))
 rcases pT r with ⟨rs,rfl⟩|⟨e0,e1⟩
 rotate_left
 ·rw[e0]
  rw[aHF e1] at hk
  exact bA (bA (aH (aL (cS hk))))
 rw[tT]
 obtain⟨lr,mr,emr,mmr⟩:=gX tr
 refine b7 (dQ (bU (bQ (aF aMY (by decide).6 aMX.m aMX.F.kp aMX.b (aI aG (z6 (aJ (.tup _) rfl (aI aG (z6 (aJ (.tup _) rfl (aI aG (z6 (aJ (.tup _) rfl (aC ⟨false,_,_,_,rs,ps.map pairD,qs.map pairD,mr,rfl,rfl,rfl,rfl,mmr,lr,lx,ly,⟨_,rfl,?_⟩⟩))).4).3)).4).3)).4).3))))
 rw[vR,hx,hy] at hk
 rcases tf (fX rs (ps.map pairD).length (qs.map pairD).length) with hf|hf
 ·rw[hf] at hk ⊢
  exact bA (aH (aL (cS hk)))
 rw[hf] at hk ⊢
 refine b7 (bD (aH (aL ?_)))
 obtain⟨hf1,hf2⟩:=aGN hf
 obtain⟨zs,rfl,hzs⟩:=all_rows hf2
 rw[vT] at hk
 have hf3:=hf1
 rw[zLm] at hf3 lr
 exact eI (m8 (n:=3) (R.units_le hr)) (aF aM0 (by decide).6 aMZ.m aMZ.F.kp aMZ.b (aI aG (z6 (aJ (.tup _) rfl (aI aG (z6 (aJ (.tup _) rfl (aI aG (z6 (aJ (.tup _) rfl (aC ⟨false,_,_,_,ps.map pairD,qs.map pairD,zs,(ps.map pairD).length-1,rfl,rfl,rfl,rfl,by omega,by omega,λz hz=>(hzs z hz).1,eQ λz hz=>(hzs z hz).1,eP hf3,(mS (.tup _) (.tup _) (aE2 ps qs zs) (aHB ps qs zs) hk).4⟩))).4).3)).4).3)).4).3)
theorem aGJ:FnScope zl20 zl20 (aK qD):=zSc
theorem aHR(Df:R.Df K mg "_law_half" qD zl20 f fd):FnOk P w K mg z CX0 1 f fd zl20 (spZ K aBT):=by
 refine bL Df aGJ (λds M k h=>?_) (λ_ _ _ _ _ _ hr ds M k h=>?_)
 ·obtain⟨n,rfl,_⟩:=h;rfl
 obtain⟨n,rfl,hk⟩:=h
 refine aD (bK (a9 gT (aN jH (z6 (cM (show (0:Int)<_ by first|decide|omega) (z6 (iD ⟨_,rfl,(ite2 (λh0 => ?_) (λh0=>bD ?_))⟩)))).4)))
 ·refine aH (aL (eJ (aN qW (z6 (cM ⟨by first|decide|omega,by first|decide|omega⟩ (z6 (aC ⟨(show 2<=sizeLine by decide),?_⟩)).3)).4).3))
  rw[aBB (of_decide_eq_true h0)] at hk
  exact hk
 ·refine aH (aL (eJ (z6 (aC ⟨(show 2<=sizeLine by decide),?_⟩)).3.4.3))
  rw[aE9 (λz=>h0 (decide_eq_true z))] at hk
  exact hk
theorem uX:FnScope ["_law_one", "_law_other", "_law_lines_here"] zl5 (aK oD):=zSc
theorem aEG(Df:R.Df K mg "_law_spots" oD zl5 f fd)(T:Bt mg)(TS:mg "set" = none):FnOk P w K mg z CX0 1 f fd zl5 (spZ K yC):=by
 refine bL Df uX (λds M k h=>?_) (λ_ _ _ _ _ _ hr ds M k h=>?_)
 ·obtain⟨xs,ys,rfl,_⟩:=h;rfl
 obtain⟨xs,ys,rfl,ux,uy,hk⟩:=h
 have lx:=ux.few
 have ly:=uy.few
 refine aD (aP 2 uX.nd (aAD hr.hd TS T.sorted (aN kF (j6 '%' '%' (by rw[zLm,zLm];exact R.aX '!') ⟨xs++ys,by rw[qj],by rw[ja];omega,λls hp hs => ?_⟩).5.4)))
 have up:=aFN hp hs (xQ _)
 have hll:ls.length<=14:=by
  rw[hp.length_eq]
  exact jf (o0 _) (by rw[ja];omega)
 have hin:∀x,x∈ls↔x∈xs\/x∈ys:=λx=>by rw[hp.mem_iff,aDS,jo]
 refine aH (aL (bB ["_law_lines_here"] [2] (fY T.range (aN cU (aO aY T.len qu (aC (bV '%' (z6 (bS (aC ⟨_,rfl,by rw[zLm];omega,by rw[zLm];omega,?_⟩))))).7.3)).3)))
 rw[zLm,show ((ls.length:Int)-1).toNat=ls.length-1 by omega]
 refine cA (by rw[bN];exact R.aX '!') (λi acc M'=>M'=M/\acc=((mids ls).take i).map D.int) ⟨rfl,by simp⟩ ?_ ?_
 ·rintro i d acc M' hd ⟨rfl,rfl⟩ _ _ _ _ _
  obtain⟨hi,rfl⟩:=cY hd
  refine bG (bA λ_ _ _ _ _ => ?_)
  rw[xy]
  refine aN cC (aI aG (aJ '%' (jS '!') (aI aG (aN cC (z6 (bS (aJ '%' (by rw[show (i:Int)+1=((i+1:Nat):Int) from rfl];exact jS '!') (bS ⟨rfl,?_⟩)))).4).5)).4.5)
  have e:(mids ls)[i]?=some (ls.getD i 0+ls.getD (i+1) 0):=pC (by simp[show i<ls.length by omega]) (by simp[show i+1<ls.length by omega])
  rw[bO e]
 rintro acc M' ⟨rfl,rfl⟩
 rw[bN,fo (by rw[vD];exact qm _)]
 rw[xI up (R.eA ux.up uy.up) λx=>(hin x).trans (R.cQ _ _ _).symm]
 exact hk
theorem jW:FnScope ["_law_grid", "_law_x", "_law_y", "_law_xs", "_law_ys", "_law_rows_here", "_law_j", "_law_k"] zl2 (aK qJ):=zSc
theorem aGZ(Df:R.Df K mg "_law_sign" qJ zl2 f fd)(T:Bt mg):FnOk P w K mg z CX0 2 f fd zl2 (spZ K aA3):=by
 refine bL Df jW (λds M k h=>?_) (λ_ _ _ _ _ _ hr ds M k h=>?_)
 ·obtain⟨xs,ys,zs,h7,mx,my,rfl,_⟩:=h;rfl
 obtain⟨xs,ys,zs,h7,mx,my,rfl,ox,oy,hk⟩:=h
 have ux:=h7.x
 have uy:=h7.y
 have gz:=h7.g
 have hz:=h7.hz
 have fx:=ux.few
 have fy:=uy.few
 refine aD (kX (aIQ rfl (j8 (cW 3 jW.nd (j8 (cW 4 jW.nd (j8 (cW 5 jW.nd (xS (aD (f8 (fY T.range (aO aY T.len qu (aB 5 rfl (aC (bV '%' (aC ?_)))).3).3))))))))))).4)
 rw[zLm]
 refine⟨_,rfl,by omega,by omega,?_⟩
 rw[ql]
 refine⟨λi Γ' M'=>M'=M/\(∃v6 v7,Γ'=[some (gD xs ys zs),some (.int mx),some (.int my),some (.lst (xs.map .int)),some (.lst (ys.map .int)),some (.lst (zs.map .str)),v6,v7])/\∀j k:Nat,j<i->k<xs.length-1->¬InC xs ys mx my j k,⟨rfl,⟨_,_,rfl⟩,λj k hj=>absurd hj (zx _)⟩,?_,?_⟩
 rotate_left
 ·rintro Γ' M' ⟨rfl,⟨v6,v7,rfl⟩,hno⟩
  rw[bN] at hno
  refine aH (aL (ge_str ?_))
  rw[aH7 h7 ox oy λj k hj hk'=>hno j k '!' '!'] at hk
  rw[aH2]
  exact hk
 rintro j d Γ' M' hd ⟨rfl,⟨v6,v7,rfl⟩,hno⟩
 obtain⟨hj,rfl⟩:=cY hd
 rw[xy]
 obtain⟨z,hzj⟩:∃z,zs[j]?=some z:=⟨zs[j],zGe _⟩
 have hzl:=(gz z (zMo hzj)).1
 refine cW 6 jW.nd (aH (f8 (fY T.range (aO aY T.len qu (aI aG (aB 5 rfl (aB 6 rfl (aJ '%' (aA6 hzj) (aC (i6 (R.aX '!') (aC ⟨_,rfl,by omega,by omega,?_⟩))))))).3).3)))
 rw[ql]
 refine⟨λi Γ' M1=>M1=M'/\(∃v7,Γ'=[some (gD xs ys zs),some (.int mx),some (.int my),some (.lst (xs.map .int)),some (.lst (ys.map .int)),some (.lst (zs.map .str)),some (.int (j:Int)),v7])/\∀k:Nat,k<i->¬InC xs ys mx my j k,⟨rfl,⟨_,rfl⟩,λk hk=>absurd hk (zx _)⟩,?_,?_⟩
 rotate_left
 ·rintro Γ' M1 ⟨rfl,⟨v7,rfl⟩,hno2⟩
  rw[bN] at hno2
  refine⟨rfl,⟨_,_,rfl⟩,λj' k hj' hk' hh => ?_⟩
  rcases Qy.mp hj' with q|q
  ·exact hno j' k q hk' hh
  ·subst q;exact hno2 k '!' hh
 rintro k d Γ' M1 hd ⟨rfl,⟨v7,rfl⟩,hno2⟩
 obtain⟨hk1,rfl⟩:=cY hd
 rw[xy]
 have hcell:R.aW zs (k:Int) (j:Int)=decide (R.atS z k=35):=R.fF '!' '!' hzj (R.dJ '!')
 refine cW 7 jW.nd ?_
 have next:¬InC xs ys mx my j k->∀k':Nat,k'<k+1->¬InC xs ys mx my j k':=λn k' hk'=>by
  rcases Qy.mp hk' with q|q
  ·exact hno2 k' q
  ·subst q;exact n
 refine aH (bK (tQ (P:=λc M2=>M2=M1/\(c=true↔(2*xs.getD k 0<mx/\mx<2*xs.getD (k+1) 0))) (dM (pI ?_)) ?_))
 ·exact a9 fW (aN eE (z6 (aI aG (aB 3 rfl (aB 7 rfl (aJ '%' (jS '!') (cM (.inl ⟨by decide,by decide⟩) (dY ⟨_,rfl,(ite2 (λh1=>(n9 (a9 fW (aN eE (z6 (aI aG (aB 3 rfl (aN cC (aB 7 rfl (z6 (bS (aJ '%' (jS (k:=k+1) '!') (cM (.inl ⟨by decide,by decide⟩) (dY ⟨_,rfl,(⟨rfl,⟨λq=>⟨of_decide_eq_true h1,of_decide_eq_true q⟩,λq=>decide_eq_true q.2⟩⟩)⟩))))))))))).5))) (λh1=>⟨rfl,⟨(λq=>nomatch q),λq=>absurd (decide_eq_true q.1) h1⟩⟩))⟩).5)))))))
 rintro c M2 ⟨rfl,hc⟩
 refine ite2 (λh1 => ?_) (λh1=>bD ⟨rfl,⟨_,rfl⟩,next λz=>h1 (hc.mpr z.1)⟩)
 have hcx:=hc.mp h1
 refine aH (bK (tQ (P:=λc M3=>M3=M2/\(c=true↔(2*ys.getD j 0<my/\my<2*ys.getD (j+1) 0))) (dM (pI ?_)) ?_))
 ·exact a9 fW (aN eE (z6 (aI aG (aB 4 rfl (aB 6 rfl (aJ '%' (jS '!') (cM (.inl ⟨by decide,by decide⟩) (dY ⟨_,rfl,(ite2 (λh1=>(n9 (a9 fW (aN eE (z6 (aI aG (aB 4 rfl (aN cC (aB 6 rfl (z6 (bS (aJ '%' (jS (k:=j+1) '!') (cM (.inl ⟨by decide,by decide⟩) (dY ⟨_,rfl,(⟨rfl,⟨λq=>⟨of_decide_eq_true h1,of_decide_eq_true q⟩,λq=>decide_eq_true q.2⟩⟩)⟩))))))))))).7))) (λh1=>⟨rfl,⟨(λq=>nomatch q),λq=>absurd (decide_eq_true q.1) h1⟩⟩))⟩).7)))))))
 rintro c M3 ⟨rfl,hc2⟩
 refine ite2 (λh2=>(aH (aL (aI aG (aI aG (aB 5 rfl (aB 6 rfl (aJ '%' (aA6 hzj) (aB 7 rfl (kY (R.aX '!') (R.pQ '!') ?_)))))))))) (λh2=>bD ⟨rfl,⟨_,rfl⟩,next λz=>h2 (hc2.mpr z.2)⟩)
 rw[aIN h7 '!' '!' ⟨hcx,hc2.mp h2⟩,hcell,aIH gz (zMo hzj) '!'] at hk
 exact hk
theorem nP:FnScope ["yard", "x", "y", "cells", "up", "across"] zl14 (aK pW):=zSc
theorem aHY{f:Addr}{fd:FuncData}{aNB aM7:Addr}{aND aM8:FuncData}(Df:R.Df K mg "lies" pW zl14 f fd)(aNF:R.Df K mg "bands_at" iB zl13 aNB aND)(aNG:FnOk P w K mg z CX0 2 aNB aND zl13 (spZ K qY))(aM9:R.Df K mg "has_cell" iE zl8 aM7 aM8)(aNA:FnOk P w K mg z CX0 1 aM7 aM8 zl8 (spZ K aEN))(T:Bt mg):FnOk P w K mg z CX0 3 f fd zl14 (spZ K aBV):=by
 refine bL Df nP (λds M k h=>?_) (λ_ _ _ _ _ _ hr ds M k h=>?_)
 ·obtain⟨A,v,u,rfl,_⟩:=h;rfl
 obtain⟨A,v,u,rfl,h9,g9,hl,gl,hv,hu,hk⟩:=h
 have hw:∀z∈A.K,z.length<=1000:=λz hz=>by have:=A.wide.1 z hz;omega
 have l1:=pX A.ws v
 have l2:=pX A.us u
 refine aD (aP 3 nP.nd (iP (aC ⟨(show 0<=sizeLine by decide),λa ha=>(aD (f8 (bR (aF aNG (by decide).6 aNF.m aNF.F.kp aNF.b (aI aG (z6 (aJ (.tup _) rfl (aC ⟨A.us,u,rfl,g9,gl,hu,⟨_, .inr (.inl rfl),(⟨λi Γ' M'=>M'=bZ M a (.lst ((f9 A.K (bW A.ws v) ((bW A.us u).take i)).map .bl))/\∃v4 v5,Γ'=[some (yd A),some (c8 v),some (c8 u),some (.mt a),v4,v5],⟨rfl,_,_,rfl⟩,?_,?_⟩)⟩⟩).7.3)).4).3))))⟩)))
 ·rintro i d Γ' M' hd ⟨rfl,v4,v5,rfl⟩
  obtain⟨up,hup,rfl⟩:=bP hd
  have cl:=zV A.K (bW A.ws v) ((bW A.us u).take i) l1 (by rw[xw];omega)
  refine cW 4 nP.nd (aH (f8 (bR (aF aNG (by decide).6 aNF.m aNF.F.kp aNF.b (aI aG (z6 (aJ (.tup _) rfl (aC ⟨A.ws,v,rfl,h9,hl,hv,⟨_, .inr (.inl rfl),(⟨λj Γ' M'=>M'=bZ M a (.lst ((f9 A.K (bW A.ws v) ((bW A.us u).take i)++((bW A.ws v).take j).map λc=>R.aW A.K c up).map .bl))/\∃v5,Γ'=[some (yd A),some (c8 v),some (c8 u),some (.mt a),some (.int up),v5],⟨by simp,_,rfl⟩,?_,?_⟩)⟩⟩).5.3)).4).3))))
  ·rintro j d Γ' M' hd ⟨rfl,w5,rfl⟩
   obtain⟨ac,hac,rfl⟩:=bP hd
   refine cW 5 nP.nd (aH (jV (gG xk wz wy fA (aB 3 rfl (⟨⟨rfl,_,aT⟩,(aF aNA (by decide).6 aM9.m aM9.F.kp aM9.b (aB 5 rfl (aB 4 rfl (aC ⟨_,_,A.K,_,_,rfl,hw,(aC (g7 aT (by rw[zLm,ja,zLm,xw];exact jm (show _<=60000 by omega) '*') ⟨?_,_,rfl⟩))⟩)).3).3.4.3).3⟩)))))
   rw[rR,bO hac,<- yz,qj (l₁:=_++_)]
   rfl
  ·rintro Γ' M' ⟨rfl,w5,rfl⟩
   rw[zLm,qx]
   refine⟨?_,_,_,rfl⟩
   rw[take_snoc hup]
   unfold f9
   rw[List.flatMap_append,List.flatMap_singleton]
 ·rintro Γ' M' ⟨rfl,v4,v5,rfl⟩
  rw[zLm,qx]
  refine gO 3 rfl aT ?_
  rw[iY ha]
  unfold uE at hk
  refine aD (bK (bQ (aO (f6 rfl) T.all R.BAll (aB 3 rfl (aC (iL '%' ⟨_,rfl,?_⟩))).3)))
  rcases tf ((f9 A.K (bW A.ws v) (bW A.us u)).all id) with e1|e1
  ·rw[e1] at hk ⊢
   rw[if_neg zBf] at hk
   refine b7 (bD (aD (bK (bQ (aO (aDY rfl) T.any R.BAny (aB 3 rfl (aC (iL '%' ⟨_,rfl,?_⟩))).3)))))
   rcases tf ((f9 A.K (bW A.ws v) (bW A.us u)).any id) with e2|e2
   ·rw[e2] at hk ⊢
    rw[if_neg zBf] at hk
    exact b7 (bD (aH (aL (ge_str hk))))
   ·rw[e2] at hk ⊢
    rw[if_pos rfl] at hk
    exact bA (aH (aL (ge_str hk)))
  ·rw[e1] at hk ⊢
   rw[if_pos rfl] at hk
   exact bA (aH (aL (ge_str hk)))
theorem eX:FnScope ["_law_script", "_law_turn", "_law_one", "_law_other", "_law_found", "_law_alone", "_law_x", "_law_y", "_law_first", "_law_second", "_law_due", "_law_told_here"] ["_law_script"] (aK nO):=zSc
theorem aIW{f:Addr}{fd:FuncData}{aOR aOS aOT aOU aOV aOW aOX aOY:Addr}{aOZ aO0 aO1 aO2 aO3 aO4 aO5 aO6:FuncData}(Df:R.Df K mg "law" nO ["_law_script"] f fd)(aO7:R.Df K mg "_law_feed" p5 zl6 aOR aOZ)(aO8:FnOk P w K mg z CX0 1 aOR aOZ zl6 (spZ K aFQ))(aO9:R.Df K mg "_law_grids" n0 zl12 aOS aO0)(aPA:FnOk P w K mg z CX0 4 aOS aO0 zl12 (spZ K yG))(aPB:R.Df K mg "_law_told" qL zl5 aOT aO1)(aPC:FnOk P w K mg z CX0 7 aOT aO1 zl5 (spZ K aCG))(aPD:R.Df K mg "is_yard" kR zl21 aOU aO2)(aPE:FnOk P w K mg z CX0 4 aOU aO2 zl21 (spZ K xA))(aPF:R.Df K mg "_law_spots" oD zl5 aOV aO3)(aPG:FnOk P w K mg z CX0 1 aOV aO3 zl5 (spZ K yC))(aPH:R.Df K mg "_law_sign" qJ zl2 aOW aO4)(aPI:FnOk P w K mg z CX0 2 aOW aO4 zl2 (spZ K aA3))(aPJ:R.Df K mg "lies" pW zl14 aOX aO5)(aPK:FnOk P w K mg z CX0 3 aOX aO5 zl14 (spZ K aBV))(aPL:R.Df K mg "_law_half" qD zl20 aOY aO6)(aPM:FnOk P w K mg z CX0 1 aOY aO6 zl20 (spZ K aBT))(T:Bt mg):FnOk P w K mg z CX0 8 f fd ["_law_script"] (spZ K zE):=by
 refine bL Df eX (λds M k h=>?_) (λ_ _ _ _ _ _ hr ds M k h=>?_)
 ·obtain⟨ns,rfl,_⟩:=h;rfl
 obtain⟨ns,rfl,hns,hk⟩:=h
 refine aD (f8 (fY T.range (aN cC (z6 (aO (aDC rfl) T.min BMin (z6 (aO aY T.len qu (aC (bV (.fl _) (aC (aIG (bS (aC ⟨_,rfl,by split <;> omega,by split <;> omega,?_⟩)))))).4.3).3).3))).3))
 refine⟨λi Γ' M'=>∃v1 v2 v3 v4 v5 v6 v7 v8 v9 v10 v11,Γ'=[some (.fl (ns.map .int)),v1,v2,v3,v4,v5,v6,v7,v8,v9,v10,v11],⟨_,_,_,_,_,_,_,_,_,_,_,rfl⟩,?_,?_⟩
 rotate_left
 ·rintro Γ' M1 ⟨v1,v2,v3,v4,v5,v6,v7,v8,v9,v10,v11,rfl⟩
  exact aH (aL (cS (hk _)))
 rintro i d Γ' M0 hd ⟨v1,v2,v3,v4,v5,v6,v7,v8,v9,v10,v11,rfl⟩
 obtain⟨hi,rfl⟩:=cY hd
 have hi9:i<9:=by
  refine qr hi ?_
  split <;> omega
 refine cW 1 eX.nd (aD (kX (aF aPA (by decide).6 aO9.m aO9.F.kp aO9.b (aF aO8 (by decide).6 aO7.m aO7.F.kp aO7.b (aC ⟨ns,_,rfl,by omega,by omega,λp M hp hL2 hF0 => ?_⟩).5.3.4.3).3)))
 refine aC ⟨p,_,rfl,hF0,by omega,λxs ys zs xs' ys' zs' M1 h h' => ?_⟩
 refine aJI rfl (j8 (cW 2 eX.nd (j8 (cW 3 eX.nd (xS (aD (aP 4 eX.nd (aF aPC (by decide).6 aPB.m aPB.F.kp aPB.b (aB 3 rfl (aC ⟨xs,ys,zs,xs',ys',zs',h,h',rfl,λM2 => ?_⟩)).3.7.3))))))))
 obtain⟨oA,oB⟩:=aCY (p4 h) (p4 h')
 have o1:=oA.op oB c9
 have o2:=oA.op oB cG
 have o3:=oA.op oB bY
 obtain⟨wA,uA⟩:=aBY h
 obtain⟨wB,uB⟩:=aBY h'
 have ul:=R.eA h.x.up h'.x.up
 have um:=R.eA h.y.up h'.y.up
 have sx:=aCV wA wB
 have sy:=aCV uA uB
 have hC:∀C∈[Yd.op c9 h.Y h'.Y,Yd.op cG h.Y h'.Y,Yd.op bY h.Y h'.Y],O8 (h.Y.ws++h'.Y.ws) (h.Y.us++h'.Y.us) C:=λC hC=>by
  simp only[qe,jh,or_false] at hC
  rcases hC with rfl|rfl|rfl
  ·exact o1
  ·exact o2
  ·exact o3
 have vd:=aAR (C:=Yd.op bY h.Y h'.Y) ul um (o3.sub sx sy).1 (o3.sub sx sy).2
 refine aD (bK (dM (c6 (a9 aJT (aB 4 rfl (aI2 (aJ0 ⟨_,rfl,(b7 (dQ (bU (bQ (dL (.inr (.inl rfl)) T.isi T.bool R.BB (aI aG (aB 4 rfl (z6 (aJ '%' rfl ⟨_, .self trivial,⟨_,rfl,(b7 (bD (aD (bK (a9 (jE (n:=1) (R.units_le hr)) (bB [] [] (bR (dC fT (aB 4 rfl (d7 (d6 (z6 ⟨_,rfl,(gJ '%' ⟨[Yd.op c9 h.Y h'.Y,Yd.op cG h.Y h'.Y,Yd.op bY h.Y h'.Y].map yd, .inr (.inl rfl),(cA (ds:=[Yd.op c9 h.Y h'.Y,Yd.op cG h.Y h'.Y,Yd.op bY h.Y h'.Y].map yd) (show 3<=sizeLine by decide) (λj acc M'=>M'=M2/\acc=kr j (.bl true)) ⟨rfl,rfl⟩ ?_ ?_)⟩)⟩))))))))))))⟩⟩)))))))))⟩)))))))
 ·rintro j d acc M' hd ⟨rfl,rfl⟩ _ _ _ _ _
  obtain⟨E',hE',rfl⟩:=bP hd
  refine bG (bA λ_ _ _ _ _=>(aF aPE (by decide).6 aPD.m aPD.F.kp aPD.b (aC ⟨_,3,rfl,(hC E' (zMo hE')).tame,by decide,?_⟩).4.3))
  rw[aGW]
  exact⟨rfl,by rw[lh]⟩
 rintro acc M' ⟨rfl,rfl⟩
 refine cT (cS (cS (cS (aC ⟨(show 3<=sizeLine by decide),(qA (e1 := .lst [.bl true, .bl true, .bl true]) (e2 := .lst [.bl true, .bl true, .bl true]) '%' '%' rfl rfl ⟨_,rfl,b7 (bD (aD (aP 5 eX.nd (z6 (aD (f8 (bR (aF aPG (by decide).6 aPF.m aPF.F.kp aPF.b (aI aG (z6 (aJ '%' rfl (aI aG (aB 3 rfl (z6 (aJ '%' rfl (aC ⟨xs,xs',rfl,h.x,h'.x,⟨_, .inr (.inl rfl),(⟨λi2 Γ' M3=>M3=M'/\∃(al:Int) (v6 v7 v8 v9 v10 v11:Option D),Γ'=[some (.fl (ns.map .int)),some (.int (0+(i:Int))),some (gD xs ys zs),some (gD xs' ys' zs'),some (zB h.Y h'.Y),some (.int al),v6,v7,v8,v9,v10,v11]/\0<=al/\(al=0↔∀mx∈(mids (R.bT xs xs')).take i2,∀my∈mids (R.bT ys ys'),(Yd.op bY h.Y h'.Y).has (qt mx 2) (qt my 2)=false),⟨rfl,0,_,_,_,_,_,_,rfl,by decide,by simp⟩,?_,?_⟩)⟩⟩))))).3)).7).3))))))))⟩)⟩)).3).3).3
 rotate_left
 ·rintro Γ' M3 ⟨rfl,al,v6,v7,v8,v9,v10,v11,rfl,hal,hiff⟩
  rw[zLm,qx] at hiff
  refine aH (bK (a9 lY (aI aG (aB 4 rfl (z6 (aJ '%' rfl (eI gT (aB 5 rfl (z6 (iD (aJB ⟨_,rfl,?_⟩)))))))))))
  rw[show decide (Yd.op bY h.Y h'.Y=Yd.void)=decide (al=0) from decide_eq_decide.mpr (vd.trans hiff.symm),decide_eq_true (rfl:decide (al=0)=_)]
  exact b7 (bD ⟨_,_,_,_,_,_,_,_,_,_,_,rfl⟩)
 rintro i2 d Γ' M3 hd ⟨rfl,al,v6,v7,v8,v9,v10,v11,rfl,hal,hiff⟩
 obtain⟨mx,hmx,rfl⟩:=bP hd
 have mmx:=zMo hmx
 obtain⟨fx1,fx2,fx3⟩:=aBK h.x h'.x mmx
 have bx:=yS (aFS h.x h'.x mmx)
 refine cW 6 eX.nd (aH (f8 (bR (aF aPG (by decide).6 aPF.m aPF.F.kp aPF.b (aI aG (z6 (aJ '%' rfl (aI aG (aB 3 rfl (z6 (aJ '%' rfl (aC ⟨ys,ys',rfl,h.y,h'.y,⟨_, .inr (.inl rfl),(⟨λi3 Γ' M4=>M4=M3/\∃(al:Int) (v7 v8 v9 v10 v11:Option D),Γ'=[some (.fl (ns.map .int)),some (.int (0+(i:Int))),some (gD xs ys zs),some (gD xs' ys' zs'),some (zB h.Y h'.Y),some (.int al),some (.int mx),v7,v8,v9,v10,v11]/\0<=al/\(al=0↔(∀mx∈(mids (R.bT xs xs')).take i2,∀my∈mids (R.bT ys ys'),(Yd.op bY h.Y h'.Y).has (qt mx 2) (qt my 2)=false)/\∀my∈(mids (R.bT ys ys')).take i3,(Yd.op bY h.Y h'.Y).has (qt mx 2) (qt my 2)=false),⟨rfl,al,_,_,_,_,_,rfl,hal,by simpa using hiff⟩,?_,?_⟩)⟩⟩))))).3)).7).3))))
 rotate_left
 ·rintro Γ' M4 ⟨rfl,al,v7,v8,v9,v10,v11,rfl,hal,hiff⟩
  rw[zLm,qx] at hiff
  exact⟨rfl,al,_,_,_,_,_,_,rfl,hal,hiff.trans (uJ (P:=λmx=>∀my∈mids (R.bT ys ys'),(Yd.op bY h.Y h'.Y).has (qt mx 2) (qt my 2)=false) hmx).symm⟩
 rintro i3 d Γ' M4 hd ⟨rfl,al,v7,v8,v9,v10,v11,rfl,hal,hiff⟩
 obtain⟨my,hmy,rfl⟩:=bP hd
 have mmy:=zMo hmy
 obtain⟨fy1,fy2,fy3⟩:=aBK h.y h'.y mmy
 have by_:=yS (aFS h.y h'.y mmy)
 refine cW 7 eX.nd (aD (aP 8 eX.nd (eI gT (aF aPI (by decide).6 aPH.m aPH.F.kp aPH.b (aB 6 rfl (aB 7 rfl (aC ⟨xs,ys,zs,h,mx,my,rfl,fx1,fy1,(ge_str (u9 ?_))⟩)).3).3.7.3))))
 rw[vP]
 refine aD (aP 9 eX.nd (eI gT (aF aPI (by decide).6 aPH.m aPH.F.kp aPH.b (aB 3 rfl (aB 6 rfl (aB 7 rfl (aC ⟨xs',ys',zs',h',mx,my,rfl,fx2,fy2,(ge_str (u9 ?_))⟩)).3).3).3)))
 rw[vP]
 have e1:=hB h.Y h'.Y (qt mx 2) (qt my 2)
 have e2:=hE h.Y h'.Y (qt mx 2) (qt my 2)
 have e3:=hL h.Y h'.Y (qt mx 2) (qt my 2)
 have lie:∀C∈[Yd.op c9 h.Y h'.Y,Yd.op cG h.Y h'.Y,Yd.op bY h.Y h'.Y],uE (f9 C.K (bW C.ws (qt mx 2)) (bW C.us (qt my 2)))=io7 (C.has (qt mx 2) (qt my 2)):=λC hc=>by
  obtain⟨s1,s2⟩:=(hC C hc).sub sx sy
  exact aGV (vF fx3 s1) (vF fy3 s2)
 generalize h.Y.has (qt mx 2) (qt my 2)=ha at *
 generalize h'.Y.has (qt mx 2) (qt my 2)=hb at *
 refine aD (aP 5 eX.nd (aN cC (aB 5 rfl (aZ m9 T.int R.BI (q8 (c1:=ha) (c2 := !hb) ?_ ?_ ?_).3))))
 ·exact aB 8 rfl ⟨rfl,rfl⟩
 ·exact qF (aB 9 rfl ⟨_,rfl,⟨rfl,rfl⟩⟩)
 refine aC (qV (bS (aD (aP 10 eX.nd (cT (q8 (c1:=ha) (c2:=hb) ?_ ?_ ?_).3)))))
 ·exact aB 8 rfl ⟨rfl,rfl⟩
 ·exact aB 9 rfl ⟨rfl,rfl⟩
 refine aA (aI3 (c1:=ha) (c2:=hb) ?_ ?_ ?_)
 ·exact aB 8 rfl ⟨rfl,rfl⟩
 ·exact aB 9 rfl ⟨rfl,rfl⟩
 refine aA (q8 (c1:=ha) (c2 := !hb) ?_ ?_ ?_)
 ·exact aB 8 rfl ⟨rfl,rfl⟩
 ·exact qF (aB 9 rfl ⟨_,rfl,⟨rfl,rfl⟩⟩)
 refine aC ⟨(show 3<=sizeLine by decide),?_⟩
 have eT:(([Yd.op c9 h.Y h'.Y,Yd.op cG h.Y h'.Y,Yd.op bY h.Y h'.Y].take 3).map λC=>io7 (C.has (qt mx 2) (qt my 2))).map D.str=[.str (io7 (ha&&hb)), .str (io7 (ha||hb)), .str (io7 (ha && !hb))]:=by
  show [D.str (io7 ((Yd.op c9 h.Y h'.Y).has _ _)), .str (io7 ((Yd.op cG h.Y h'.Y).has _ _)), .str (io7 ((Yd.op bY h.Y h'.Y).has _ _))]=_
  rw[e1,e2,e3]
 refine aD (jN 11 ["_law_x", "_law_y"] [6,7] eX.nd (bR (dC fT (aB 4 rfl (d7 (d6 (z6 ⟨_,rfl,(gJ '%' ⟨[Yd.op c9 h.Y h'.Y,Yd.op cG h.Y h'.Y,Yd.op bY h.Y h'.Y].map yd, .inr (.inl rfl),(sY (ds:=[Yd.op c9 h.Y h'.Y,Yd.op cG h.Y h'.Y,Yd.op bY h.Y h'.Y].map yd) (show 3<=sizeLine by decide) (λj acc M5=>M5=M4/\acc=(([Yd.op c9 h.Y h'.Y,Yd.op cG h.Y h'.Y,Yd.op bY h.Y h'.Y].take j).map λC=>io7 (C.has (qt mx 2) (qt my 2))).map D.str) ⟨rfl,rfl⟩ ?_ ?_)⟩)⟩)))))))
 ·rintro j d acc M5 hd ⟨rfl,rfl⟩ _ _ _ _ _
  obtain⟨E',hE',rfl⟩:=bP hd
  have mE:=zMo hE'
  obtain⟨l1,l2,l3,l4⟩:=(hC E' mE).lie
  refine bG (bA λ_ _ _ _ _=>(aF aPK (by decide).6 aPJ.m aPJ.F.kp aPJ.b (aF aPM (by decide).6 aPL.m aPL.F.kp aPL.b (aC ⟨mx,rfl,(aF aPM (by decide).6 aPL.m aPL.F.kp aPL.b (aC ⟨my,rfl,(aC ⟨E',_,_,rfl,l1,l2,l3,l4,bx,by_,⟨rfl,?_⟩⟩)⟩).7.3).3⟩).5.3).3.4.3))
  rw[bO hE',qj,lie E' mE]
  rfl
 rintro acc M5 ⟨rfl,rfl⟩ a11 ha11
 rw[show ([Yd.op c9 h.Y h'.Y,Yd.op cG h.Y h'.Y,Yd.op bY h.Y h'.Y].map yd).length=3 from rfl,eT]
 refine gO 11 rfl aT ?_
 rw[iY ha11]
 refine aH (bK (a9 (jE (n:=1) (R.units_le hr)) (aB 11 rfl (bB [] [] (bR (aB 10 rfl ⟨_, .inr (.inl rfl),(cA (ds:=[ha&&hb,ha||hb,ha && !hb].map D.bl) (show 3<=sizeLine by decide) (λj acc M6=>M6=M5/\acc=(([ha&&hb,ha||hb,ha && !hb].take j).map io7).map D.str) ⟨rfl,rfl⟩ ?_ ?_)⟩))))))
 ·rintro j d acc M6 hd ⟨rfl,rfl⟩ _ _ _ _ _
  obtain⟨c,hc,rfl⟩:=bP hd
  exact bG (bA λ_ _ _ _ _=>(aI aG (cT (ge_str (ge_str (aC ⟨(show 2<=sizeLine by decide),(aZ m9 T.int R.BI (aC (qV (aJ '%' (aEP _) ⟨rfl,by rw[bO hc,qj];rfl⟩))).4.3)⟩)).3).3)))
 rintro acc M6 ⟨rfl,rfl⟩
 refine qA (e1 := .lst [.str (io7 (ha&&hb)), .str (io7 (ha||hb)), .str (io7 (ha && !hb))]) (e2 := .lst [.str (io7 (ha&&hb)), .str (io7 (ha||hb)), .str (io7 (ha && !hb))]) '%' '%' rfl rfl ⟨_,rfl,?_⟩
 rw[eqD_refl 1 _ rfl]
 refine b7 (bD ?_)
 have hs:=uJ (P:=λmy=>(Yd.op bY h.Y h'.Y).has (qt mx 2) (qt my 2)=false) hmy
 refine⟨rfl,_,_,_,_,_,_,rfl,by split <;> omega,⟨λz => ?_,λ⟨z1,z2⟩ => ?_⟩⟩
 ·cases hc:(ha && !hb) with
  |true=>rw[hc,if_pos rfl] at z;omega
  |false=>rw[hc,if_neg zBf] at z;exact⟨(hiff.mp '!').1,hs.mpr ⟨(hiff.mp '!').2,e3.trans hc⟩⟩
 ·obtain⟨z2,z3⟩:=hs.mp z2
  rw[show (ha && !hb)=false from e3.symm.trans z3,if_neg zBf]
  have:=hiff.mpr ⟨z1,z2⟩
  omega
end
end Q
namespace HB
open PySem PySem.W L2
theorem mkD{K:qf}(X:K.In h)(G:h.Ns km mg)(n:String)(st:Stmt)(ps:List Str)(f cd:Addr)(pm:Value)(a:nsIn K km (jg n)=some (some (.ref f)))(l:K.lookup f=some (fO n st pm cd))(c:codeIn K (.ref cd) (jg n)=true)(k:keepIn K (.ref f)=true)(b:∀(kV doc pm:Value) (an:Option Addr) (cdv ct:Value) (us:List Value),us.length=ps.length->J6 (xt (jg n) (jg n) (eY st) (dI st) (aK st) .none kV doc pm an cdv ct) ⟨us,[]⟩=pure (ps.zip us)):
  R.Df K mg (jg n) st ps f (xt (jg n) (jg n) (eY st) (dI st) (aK st) .none .none .none pm none (.ref cd) .none):=
 have F:Fun K (jg n) (jg n) st f _:=aI6 l c k
 ⟨F,F.binds b,mg_of X G a⟩
theorem mkE{K:qf}(X:K.In h)(G:h.Ns km mg)(n:String)(st:Stmt)(ps:List Str)(f cd:Addr)(pm:Value)(b:∀(kV doc pm:Value) (an:Option Addr) (cdv ct:Value) (us:List Value),us.length=ps.length->J6 (xt (jg n) (jg n) (eY st) (dI st) (aK st) .none kV doc pm an cdv ct) ⟨us,[]⟩=pure (ps.zip us))(a:nsIn K km (jg n)=some (some (.ref f)):=by kernel_rfl!)(l:K.lookup f=some (fO n st pm cd):=by kernel_rfl!)(c:codeIn K (.ref cd) (jg n)=true:=by kernel_rfl!)(k:keepIn K (.ref f)=true:=by kernel_rfl!):
  R.Df K mg (jg n) st ps f (xt (jg n) (jg n) (eY st) (dI st) (aK st) .none .none .none pm none (.ref cd) .none):=mkD X G n st ps f cd pm a l c k b
noncomputable def eO:List Str:=["len", "abs", "int", "min", "max", "range", "list", "tuple", "repr", "all", "any", "enumerate", "isinstance", "bool", "str", "zip", "reversed", "sorted", "dict"]
theorem mkB{K:qf}(X:K.In h)(G:h.Ns km mg)(e:(eO.all λn=>nsIn K km n==some none)=true):Q.Bt mg:=
 have z:∀n∈eO,mg n=none:=λn hn=>mg_none_of X G (eq_of_beq (jy.mp e n hn))
 ⟨z _ (by simp[eO]),z _ (by simp[eO]),z _ (by simp[eO]),z _ (by simp[eO]),z _ (by simp[eO]),z _ (by simp[eO]),z _ (by simp[eO]),z _ (by simp[eO]),z _ (by simp[eO]),z _ (by simp[eO]),z _ (by simp[eO]),z _ (by simp[eO]),z _ (by simp[eO]),z _ (by simp[eO]),z _ (by simp[eO]),z _ (by simp[eO]),z _ (by simp[eO]),z _ (by simp[eO]),z _ (by simp[eO])⟩
theorem ln1{α:Type}{l:List α}(z:l.length=1):∃a,l=[a]:=List.length_eq_one_iff.mp z
theorem ln2{α:Type}{l:List α}(z:l.length=2):∃a b,l=[a,b]:=by
 cases l with
 |nil=>cases z
 |cons a l=>obtain⟨b,rfl⟩:=ln1 (l:=l) (by simpa using z);exact⟨a,b,rfl⟩
theorem ln3{α:Type}{l:List α}(z:l.length=3):∃a b c,l=[a,b,c]:=by
 cases l with
 |nil=>cases z
 |cons a l=>obtain⟨b,c,rfl⟩:=ln2 (l:=l) (by simpa using z);exact⟨a,b,c,rfl⟩
end HB
namespace Q
open PySem L2 Z
theorem wT{K:Fg}:∀ns:List Int,Dens K G (ns.map D.int) (ns.map V.int)
 |[]=>by simp only[Q5,Dens]
 |n::ns=>by simp only[Q5,Dens];exact⟨_,_,rfl,by simp only[Den],wT ns⟩
open HB in
theorem all_mk{l:rf}{fa:Addr}(X:(HD.K w.params).In h)(G:h.Ns km mg)(hfa:mg "law" = some (.ref fa)):
  ∃fd:FuncData,(∀(s:Shared) (v:Value),BindsTo s fd ⟨[v],[]⟩ [("_law_script", v)])/\∀z:Heap,(HD.K w.params).In z->z.Ns km mg->FnOk l.prog w (HD.K w.params) mg z CX0 8 fa fd ["_law_script"] (spZ (HD.K w.params) zE):=by
 have T:Bt mg:=mkB X G (by kernel_rfl!)
 have C_FARTHEST:=Qi X G (by kernel_rfl!:Qp (HD.K w.params) km "FARTHEST" = some (some (J 1000000000 306)))
 have C_MOST_LINES:=Qi X G (by kernel_rfl!:Qp (HD.K w.params) km "MOST_LINES" = some (some (J 7 304)))
 have C_VOID:=Qi X G (by kernel_rfl!:Qp (HD.K w.params) km "VOID" = some (some (R 104)))
 have E_VOID:∀G,Den (HD.K w.params) G (yd U.Yd.void) (.ref 104):=λG=>nZ (as:=[101,102,103]) (by kernel_rfl!:ma 104 (HD.K w.params)=some (tO [(R 101),(R 102),(R 103)])) (show (3:Nat)<=100 by decide) (b5 (nZ (as:=[]) (by kernel_rfl!:ma 101 (HD.K w.params)=some (tO [])) '*' cD) (b5 (nZ (as:=[]) (by kernel_rfl!:ma 102 (HD.K w.params)=some (tO [])) '*' cD) (b5 (nZ (as:=[]) (by kernel_rfl!:ma 103 (HD.K w.params)=some (tO [])) '*' cD) (cD))))
 have D1:=mkE X G "_law_feed" p5 ["_law_script", "_law_k"] 242 241 HD.zS1 (λ_ _ _ _ _ _ us hl=>by obtain⟨_,_,rfl⟩:=HB.ln2 hl;rfl)
 have D2:=mkE X G "is_whole" gF ["thing"] 58 57 HD.zS3 (λ_ _ _ _ _ _ us hl=>by obtain⟨_,rfl⟩:=HB.ln1 hl;rfl)
 have D3:=mkE X G "common_divisor" dN ["one", "other"] 65 64 HD.zS3 (λ_ _ _ _ _ _ us hl=>by obtain⟨_,_,rfl⟩:=HB.ln2 hl;rfl)
 have D4:=mkE X G "under" jX ["one", "other"] 93 92 HD.zS3 (λ_ _ _ _ _ _ us hl=>by obtain⟨_,_,rfl⟩:=HB.ln2 hl;rfl)
 have D5:=mkE X G "merged" lU ["one", "other"] 100 99 HD.zS3 (λ_ _ _ _ _ _ us hl=>by obtain⟨_,_,rfl⟩:=HB.ln2 hl;rfl)
 have D6:=mkE X G "bands_at" iB ["lines", "where"] 173 172 HD.zS0 (λ_ _ _ _ _ _ us hl=>by obtain⟨_,_,rfl⟩:=HB.ln2 hl;rfl)
 have D7:=mkE X G "has_cell" iE ["yard", "across", "up"] 180 179 HD.zS0 (λ_ _ _ _ _ _ us hl=>by obtain⟨_,_,_,rfl⟩:=HB.ln3 hl;rfl)
 have D8:=mkE X G "finer_row" jA ["yard", "acrosses", "up"] 192 191 HD.zS2 (λ_ _ _ _ _ _ us hl=>by obtain⟨_,_,_,rfl⟩:=HB.ln3 hl;rfl)
 have D9:=mkE X G "finer_rows" iC ["yard", "xs", "ys"] 197 196 HD.zS2 (λ_ _ _ _ _ _ us hl=>by obtain⟨_,_,_,rfl⟩:=HB.ln3 hl;rfl)
 have D10:=mkE X G "chosen_row" iF ["one", "other", "pairs"] 202 201 HD.zS2 (λ_ _ _ _ _ _ us hl=>by obtain⟨_,_,_,rfl⟩:=HB.ln3 hl;rfl)
 have D11:=mkE X G "column" mD ["rows", "place"] 119 118 HD.zS0 (λ_ _ _ _ _ _ us hl=>by obtain⟨_,_,rfl⟩:=HB.ln2 hl;rfl)
 have D12:=mkE X G "columns" kJ ["rows"] 124 123 HD.zS0 (λ_ _ _ _ _ _ us hl=>by obtain⟨_,rfl⟩:=HB.ln1 hl;rfl)
 have D13:=mkE X G "changes" kO ["bands"] 129 128 HD.zS0 (λ_ _ _ _ _ _ us hl=>by obtain⟨_,rfl⟩:=HB.ln1 hl;rfl)
 have D14:=mkE X G "picked" lI ["row", "places"] 134 133 HD.zS0 (λ_ _ _ _ _ _ us hl=>by obtain⟨_,_,rfl⟩:=HB.ln2 hl;rfl)
 have D15:=mkE X G "tidied" iX ["xs", "ys", "rows"] 139 138 HD.zS0 (λ_ _ _ _ _ _ us hl=>by obtain⟨_,_,_,rfl⟩:=HB.ln3 hl;rfl)
 have D16:=mkE X G "chosen" iS ["one", "other", "pairs"] 207 206 HD.zS2 (λ_ _ _ _ _ _ us hl=>by obtain⟨_,_,_,rfl⟩:=HB.ln3 hl;rfl)
 have D17:=mkE X G "both" qC ["one", "other"] 214 213 HD.zS2 (λ_ _ _ _ _ _ us hl=>by obtain⟨_,_,rfl⟩:=HB.ln2 hl;rfl)
 have D18:=mkE X G "either" lW ["one", "other"] 221 220 HD.zS2 (λ_ _ _ _ _ _ us hl=>by obtain⟨_,_,rfl⟩:=HB.ln2 hl;rfl)
 have D19:=mkE X G "less" mZ ["one", "other"] 228 227 HD.zS2 (λ_ _ _ _ _ _ us hl=>by obtain⟨_,_,rfl⟩:=HB.ln2 hl;rfl)
 have D20:=mkE X G "within" lZ ["one", "other"] 235 234 HD.zS2 (λ_ _ _ _ _ _ us hl=>by obtain⟨_,_,rfl⟩:=HB.ln2 hl;rfl)
 have D21:=mkE X G "lowest" lS ["top", "bottom"] 72 71 HD.zS3 (λ_ _ _ _ _ _ us hl=>by obtain⟨_,_,rfl⟩:=HB.ln2 hl;rfl)
 have D22:=mkE X G "fraction" jM ["top", "bottom"] 86 85 HD.zS3 (λ_ _ _ _ _ _ us hl=>by obtain⟨_,_,rfl⟩:=HB.ln2 hl;rfl)
 have D23:=mkE X G "is_number" i8 ["thing"] 79 78 HD.zS3 (λ_ _ _ _ _ _ us hl=>by obtain⟨_,rfl⟩:=HB.ln1 hl;rfl)
 have D24:=mkE X G "are_number_lines" eG ["thing"] 144 143 HD.zS0 (λ_ _ _ _ _ _ us hl=>by obtain⟨_,rfl⟩:=HB.ln1 hl;rfl)
 have D25:=mkE X G "is_row" lJ ["thing", "wide"] 109 108 HD.zS0 (λ_ _ _ _ _ _ us hl=>by obtain⟨_,_,rfl⟩:=HB.ln2 hl;rfl)
 have D26:=mkE X G "rows_fit" iM ["rows", "xs", "ys"] 114 113 HD.zS0 (λ_ _ _ _ _ _ us hl=>by obtain⟨_,_,_,rfl⟩:=HB.ln3 hl;rfl)
 have D27:=mkE X G "is_yard" kR ["thing"] 151 150 HD.zS0 (λ_ _ _ _ _ _ us hl=>by obtain⟨_,rfl⟩:=HB.ln1 hl;rfl)
 have D28:=mkE X G "is_whole_line" fV ["thing"] 158 157 HD.zS0 (λ_ _ _ _ _ _ us hl=>by obtain⟨_,rfl⟩:=HB.ln1 hl;rfl)
 have D29:=mkE X G "are_whole_lines" eU ["thing"] 163 162 HD.zS0 (λ_ _ _ _ _ _ us hl=>by obtain⟨_,rfl⟩:=HB.ln1 hl;rfl)
 have D30:=mkE X G "made" p8 ["xs", "ys", "rows"] 168 167 HD.zS0 (λ_ _ _ _ _ _ us hl=>by obtain⟨_,_,_,rfl⟩:=HB.ln3 hl;rfl)
 have D31:=mkE X G "lies" pW ["yard", "x", "y"] 187 186 HD.zS0 (λ_ _ _ _ _ _ us hl=>by obtain⟨_,_,_,rfl⟩:=HB.ln3 hl;rfl)
 have D32:=mkE X G "_law_next" kB ["_law_feed_here", "_law_many"] 249 248 HD.zS1 (λ_ _ _ _ _ _ us hl=>by obtain⟨_,_,rfl⟩:=HB.ln2 hl;rfl)
 have D33:=mkE X G "_law_lines" lF ["_law_feed_here"] 256 255 HD.zS1 (λ_ _ _ _ _ _ us hl=>by obtain⟨_,rfl⟩:=HB.ln1 hl;rfl)
 have D34:=mkE X G "_law_like" pS ["_law_feed_here", "_law_lines_here"] 263 262 HD.zS1 (λ_ _ _ _ _ _ us hl=>by obtain⟨_,_,rfl⟩:=HB.ln2 hl;rfl)
 have D35:=mkE X G "_law_rows" qO ["_law_feed_here", "_law_wide", "_law_high"] 268 267 HD.zS1 (λ_ _ _ _ _ _ us hl=>by obtain⟨_,_,_,rfl⟩:=HB.ln3 hl;rfl)
 have D36:=mkE X G "_law_half" qD ["_law_number"] 292 291 HD.zS1 (λ_ _ _ _ _ _ us hl=>by obtain⟨_,rfl⟩:=HB.ln1 hl;rfl)
 have D37:=mkE X G "_law_spots" oD ["_law_one", "_law_other"] 285 284 HD.zS1 (λ_ _ _ _ _ _ us hl=>by obtain⟨_,_,rfl⟩:=HB.ln2 hl;rfl)
 have D38:=mkE X G "_law_sign" qJ ["_law_grid", "_law_x", "_law_y"] 275 274 HD.zS1 (λ_ _ _ _ _ _ us hl=>by obtain⟨_,_,_,rfl⟩:=HB.ln3 hl;rfl)
 have D39:=mkE X G "_law_grids" n0 ["_law_feed_here"] 280 279 HD.zS1 (λ_ _ _ _ _ _ us hl=>by obtain⟨_,rfl⟩:=HB.ln1 hl;rfl)
 have D40:=mkE X G "_law_told" qL ["_law_one", "_law_other"] 299 298 HD.zS1 (λ_ _ _ _ _ _ us hl=>by obtain⟨_,_,rfl⟩:=HB.ln2 hl;rfl)
 have D41:=mkE X G "law" nO ["_law_script"] 304 303 HD.zS1 (λ_ _ _ _ _ _ us hl=>by obtain⟨_,rfl⟩:=HB.ln1 hl;rfl)
 cases hfa.symm.trans D41.m
 refine⟨xt "law" "law" (eY nO) (dI nO) (aK nO) .none .none .none HD.zS1 none (.ref 303) .none,λs v => .of_eq rfl,λz _ _ => ?_⟩
 have G1:=aH6 (P:=l.prog) (w:=w) (z:=z) D1 T
 have G2:=wK (P:=l.prog) (w:=w) (z:=z) D2 T
 have G3:=oJ (P:=l.prog) (w:=w) (z:=z) D3 T
 have G4:=aDP (P:=l.prog) (w:=w) (z:=z) D4
 have G5:=aCC (P:=l.prog) (w:=w) (z:=z) D5 D4 G4 T
 have G6:=wD (P:=l.prog) (w:=w) (z:=z) D6 D4 G4 T
 have G7:=wP (P:=l.prog) (w:=w) (z:=z) D7 T
 have G8:=tY (P:=l.prog) (w:=w) (z:=z) D8 D7 G7 T
 have G9:=sP (P:=l.prog) (w:=w) (z:=z) D9 D6 G6 D8 G8 T
 have G10:=sU (P:=l.prog) (w:=w) (z:=z) D10 T
 have G11:=aBG (P:=l.prog) (w:=w) (z:=z) D11
 have G12:=aAK (P:=l.prog) (w:=w) (z:=z) D12 D11 G11 T
 have G13:=aAF (P:=l.prog) (w:=w) (z:=z) D13 T
 have G14:=aC9 (P:=l.prog) (w:=w) (z:=z) D14
 have G15:=aC1 (P:=l.prog) (w:=w) (z:=z) D15 D13 G13 D12 G12 D14 G14 T
 have G16:=aCN (P:=l.prog) (w:=w) (z:=z) D16 D5 G5 D9 G9 D10 G10 D15 G15 T
 have G17:=aHG (P:=l.prog) (w:=w) (z:=z) D17 D16 G16
 have G18:=aB3 (P:=l.prog) (w:=w) (z:=z) D18 D16 G16
 have G19:=aFZ (P:=l.prog) (w:=w) (z:=z) D19 D16 G16
 have G20:=aCH (P:=l.prog) (w:=w) (z:=z) D20 D19 G19 C_VOID E_VOID
 have G21:=aB6 (P:=l.prog) (w:=w) (z:=z) D21 D3 G3
 have G22:=wH (P:=l.prog) (w:=w) (z:=z) D22 D2 G2 D21 G21
 have G23:=uG (P:=l.prog) (w:=w) (z:=z) D23 D2 G2 D3 G3 T
 have G24:=mI (P:=l.prog) (w:=w) (z:=z) D24 D23 G23 D4 G4 T
 have G25:=aCQ (P:=l.prog) (w:=w) (z:=z) D25 T
 have G26:=wN (P:=l.prog) (w:=w) (z:=z) D26 D25 G25 T
 have G27:=zD (P:=l.prog) (w:=w) (z:=z) D27 D24 G24 D26 G26 D15 G15 T
 have G28:=o4 (P:=l.prog) (w:=w) (z:=z) D28 D2 G2 C_FARTHEST
 have G29:=nK (P:=l.prog) (w:=w) (z:=z) D29 D28 G28 T C_MOST_LINES
 have G30:=aF6 (P:=l.prog) (w:=w) (z:=z) D30 D29 G29 D26 G26 D15 G15 D22 G22 T
 have G31:=aHY (P:=l.prog) (w:=w) (z:=z) D31 D6 G6 D7 G7 T
 have G32:=aGL (P:=l.prog) (w:=w) (z:=z) D32
 have G33:=aE4 (P:=l.prog) (w:=w) (z:=z) D33 D32 G32 T
 have G34:=aFW (P:=l.prog) (w:=w) (z:=z) D34 D32 G32 D33 G33 T
 have G35:=aHI (P:=l.prog) (w:=w) (z:=z) D35 D32 G32 T
 have G36:=aHR (P:=l.prog) (w:=w) (z:=z) D36
 have G37:=aEG (P:=l.prog) (w:=w) (z:=z) D37 T (PySem.W.mg_none_of X G (by kernel_rfl!))
 have G38:=aGZ (P:=l.prog) (w:=w) (z:=z) D38 T
 have G39:=aD8 (P:=l.prog) (w:=w) (z:=z) D39 D33 G33 D35 G35 D32 G32 D34 G34 T
 have G40:=aF4 (P:=l.prog) (w:=w) (z:=z) D40 D30 G30 D17 G17 D18 G18 D19 G19 D20 G20 T
 have G41:=aIW (P:=l.prog) (w:=w) (z:=z) D41 D1 G1 D39 G39 D40 G40 D27 G27 D37 G37 D38 G38 D31 G31 D36 G36 T
 exact G41
theorem walk{l:rf}{q:Program}{XP:(Str->Option Value)->Heap->Prop}{d:DefRec}{K:xq->qf}(hn:l.most=some 63)(hdf:d.params.defaults=[])(hY:∀(w:World) (h:Heap),YP w h->(K w.params).In h)(F:∀(w:World) (mg:Str->Option Value) (fa:Addr) (h:Heap),(K w.params).In h->h.Ns km mg->mg d.name=some (.ref fa) ->
   ∃fd:FuncData,(∀(s:Shared) (u:Value),BindsTo s fd ⟨[u],[]⟩ [("_law_script", u)])/\∀z:Heap,(K w.params).In z->z.Ns km mg->FnOk l.prog w (K w.params) mg z CX0 8 fa fd ["_law_script"] (spZ (K w.params) zE)):
  JD q loose XP YP l.row.toRowW d [] (λf vs=>Jb f vs):=
 L2.aGR (n:=63) (k:=8) (x := "_law_script") (CX:=λ_=>CX0) (sp:=λw=>spZ (K w.params) zE) hn '*' hdf ⟨rfl,by decide,by decide,rfl⟩ hY F
  (λw H a ns hl _ hS=>⟨H,λ_=>none,[.fl (ns.map .int)],λd _=>d = .bl true,⟨Same.refl H,nofun⟩,⟨_,_,rfl,aIC hS (wT ns),by simp only[Dens]⟩,⟨ns,rfl,hl,λ_=>rfl⟩,λv G' H' d M' _ hd e=>by subst e;simpa only[Den] using hd⟩) λ_ _ _ _ _ z=>z
end Q
open PySem PySem.W PyProof.Rows
set_option maxRecDepth 100000 in
set_option maxHeartbeats 0 in
theorem PySem.Challenge.cw_roofridges_k07_two_yards_together_holds : PySem.Challenge.rw_roofridges_k07_two_yards_together.Holds := by
 w_on
 refine holds_law HD.said fun said => ?_
 refine holds_open (q:=HD.view) (loose:=[]) (Xt:=HD.Xt) (XP:=XL HD.view []) (Yf:=HD.Hk.obs) (Ya:=HD.Hk.val) (YP:=HD.Hk.says) HD.left (Hook.of HD.Hk) (Hook.keeps HD.Hk) (fun s e=>xl_of s (Bool.and_eq_true_iff.mp e).1) XL.keeps (by rfl) (by rfl) (by rfl) (fun s e=>recFacts_of (Bool.and_eq_true_iff.mp e).2) (by rfl) (by first | assumption | decide +kernel) (by decide +kernel) ⟨rfl,rfl,rfl,rfl,rfl,by decide +kernel⟩ ?hw ?hc
 case hw=>w_witness2
 exact Q.walk (l:=PySem.Challenge.rw_roofridges_k07_two_yards_together) (K:=HD.K) rfl rfl (fun w h Y=>PySem.W.kIn_of Y) fun w mg fa h KX G hmg=>Q.all_mk KX G hmg
