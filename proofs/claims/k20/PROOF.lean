import PyProof.Rows.All
import Wide.All
import OpenK.AllK
import Wide.FinOn
import Lean
import PyProof.EqAt
import PyProof.EqKinds
import PyProof.NeKinds
import PyProof.TupleCall
import KE.KLam
import KE.KSortKey
import KE.KMinKey
import KE.KDictList
import PySem.Challenge.RW_roofridges_k20_rims_told
set_option Elab.async false
set_option linter.all false
set_option maxRecDepth 100000
set_option maxHeartbeats 4000000
open PySem renaming wpAny_bind→qa,model→ja,boot_len→jk,mainGlobals→jx,bootBuiltins→ke,mem_of_lookup→kj,wpAny_mono→km,compareOp→vc,wpAny_holding→ve,wpAny_dictEntries→vt,sysModules→wg,assignEach→wh,binaryOp→wo,wpAny_tryCatch→wq,wpAny_seqItems→xo,treeTable→ye,backTo→yg,wpAny_letGo→yi,keywordEach→yj,wpAny_passesOwn→yk,wpAny_newObj_type→yq,Params→yx,holding→yz,wpAny_updateSeq→zg,codeAny_builtin→zh,wpAny_rule→zp,atKey_none_of_get→zq,OsState→z8,wpAny_call_entry→ba,lookup_relabel_local→bh,intItems→bo,behindInMarks→bq,sliceBounds→cc,wpAny_specialOf→cf,backToKw→cw,wpAny_Call_Name_kw→cy,tupleKind_room_in1→cz,Keyword→cI,seqItems?→dm,pushCells→dq,wpAny_pyIter_enum→dr,codeAny→fb,richCompare→fc,wpAny_standAt→fe,attributeBase→ff,wpAny_isInstance→fm,richCompare_meets_room→fx,swapsWith→fS,codeAny_mono→f5,wpAny_execs_nil→gb,letOwnedTupleGo→gh,wpAny_notOrdered_dict→gi,entryOfKey→gk,Addr→gw,storedH_new→h7,Str→md,wpAny_newList→me,swapsWithSole→mf,swappedStores→mh,assignInOrder→mj,wpAny_tupleItemsOf→mm,storedH→nk,wpAny_pyIter_list→nt,noFill_tuple_add→pq,Operator→rk,HeapKind→ro,pyNext→rq,standAt→sf,callerA→si,PassesOwn→sj,wpAny_of_eq→sk,wpAny_field→sm,storedH_old→su,sizeLine_eq→sv,wpAny_dictEpoch→td,Value→Qg,reduceHash→Qt,builtinsNs→Qu,relabel→QC,compPost→QD,seq_tuple_add→QE,comprehension→QF,call→QG,wpAny_pyNext_enum_itemD→QI,wpAny_callSpecial?_slot→QJ,wpAny_pyNext_enum_endD→QV,wpAny_Call_method_late→QW,call_meets→QY,updateSeq→Q6,seqIndex_neg→Q7,concat_meets→Q8,isSubtype_tuple_tuple→Jc,wpAny_updateDictKeys→Jj,Model→Jp,setItem→Jq,intKind→Jr,seqIndex_of→Js,isCodeTable→Jt,intItems_at→Ju,wpAny_dictFind_heap→Jv,isSubtype_dict_dict→Jw,bindName→JC,GenState→JD,wpAny_setItem_heap→JE,call_function_tree→JF,bindL→JO,bindC→JP,wpAny_call→JQ,wpAny_Name→JR,wpAny_assign_Name→JT,World→JW,wpAny_execs_cons→Kf,wpAny_eqBool_int→Kg,wpAny_Dict_empty→Kh,Stmt→Ki,Heap→Kj,Expr→Kk,pyIter→Vf,release→Vg,hashInt→Vi,getItem→Vj,pushCells_keeps→Vk,importedModules→Vl,wpAny_setField→Vq,wpAny_bindName→Vr,newFunctionEnv→Vs,intBits_le_iff→Vt,firstArgMember→Vu
open List renaming mem_append_right→qb,size_toArray→qc,length_append→qe,range'→qh,mem_singleton→qi,getElem?_append_right→qj,getElem?_map→qm,getElem?_append_left→qn,mem_append→qp,map_append→qv,append_assoc→qx,length_cons→qy,range→qz,mem_map→q0,mem_append_left→q7,mem_cons→jb,mem_iff_getElem?→jd,mem_cons_of_mem→jn,map_cons→jo,getElem?_eq_none→jq,length_range'→ju,length_take→jv,pairwise_iff_getElem→jz,mem_range→j2,getElem?_cons_succ→kc,mem_cons_self→kh,replicate→ku,getElem_mem→ky,nodup_cons→vf,length_nil→vg,take_length→vk,flatten_cons→vo,length_singleton→vp,getElem?_toArray→vq,append_nil→vv,lookup_cons→vy,getElem?_inj→v9,map_map→wa,mem_flatMap→wb,getElem?_of_mem→we,length_drop→wz,length_replicate→w8,getLast?_eq_getElem?→xf,pairwise_append→xh,nodup_append→xi,mem_range'_1→xj,length_range→xk,replicate_succ→xw,flatten_append→xx,pairwise_singleton→x3,length_eq_zero_iff→x4,getElem?_replicate→x5,mem_reverse→ya,flatten_singleton→yb,zip_cons_cons→yd,range_succ→yf,drop_eq_getElem_cons→yl,range'_succ→yr,all_eq_true→yu,getElem_of_mem→yy,getElem?_take_of_lt→y2,pairwise_map→zd,ext_getElem?→ze,singleton_append→zj,mem_flatten→zl,cons_append→zm,mem_filter→zu,map_congr_left→zw,length_reverse→zx,length_pos_iff→zy,getElem?_range→zz,flatMap_cons→cn,lookup→cx,pairwise_lt_range→dh,head?_eq_getElem?→di,nil_append→dI,length_set→d4,perm_append_comm→d5,pairwise_reverse→d6,mem_of_mem_take→fq,mem_iff_getElem→ft,nodup_nil→fu,map_eq_nil_iff→fz,flatMap_append→fI,filterMap_cons→fK,pairwise_cons→gr,getElem?_set→gS,map_nil→h8,eq_nil_of_length_eq_zero→l5,length→m2,of_mem_zip→m3,forIn_cons→m4,drop_zero→n4,getElem?_zip_eq_some→pd,Nodup→pj,mem_of_mem_eraseIdx→rf,take_of_length_le→tj,length_pos_of_mem→tm,getElem?_set_self→tq,take_append_drop→Qb,pairwise_flatten→Qc,pairwise_flatMap→Qe,reverse_reverse→Qn,perm_cons_erase→Qo,length_eraseIdx→Qp,length_dropLast→Qq,getLast?_append→Qr,getElem?_set_ne→Qs,reverse_append→Qy,getElem_range'→Qz,zip_nil_right→QO,mem_filterMap→QP,find?_eq_none→QQ,zip_nil_left→Q2,take_sublist→Q3,not_mem_nil→Jf,map_flatMap→Jg,any_eq_true→Jh,length_zip→Jn,foldl_cons→Jo,take_zero→Jx,forIn_nil→Jy,sum_cons→JI,map_take→JJ,toArray→JX,all_map→JY,find?→Vm
open PySem.Heap renaming get?_push_of_some→qf,get?_push_size→qq,lt_size→qr,DictOfH→kr,SameBut→vx,get?_update_self→xb,size_push→xc,get?_update_ne→xy,size_update→lz,get?_update_other→tw
open PySem.W renaming Frag→qg,fnOf→wu,findIn→xu,cellsFrom_some→x9,kia_one→yc,kitOne→yh,keepIn→zb,CodeHd→dz,methodObj→gj,OpenLaw→h9,tabObj→mq,codeIn→mw,mroIn→nu,specialIn→Qj,kitx_list→Qk,kitMeta→QK,instObj→QL,WalkO→Jd,isFn→Jk
open Nat renaming le_refl→qo,lt_of_lt_of_le→qw,ne_of_lt→q3,lt_of_le_of_lt→jg,le_trans→jw,zero_le→kd,mod_eq_of_lt→kf,lt_irrefl→vm,lt_succ_self→wd,lt_or_ge→wj,add_mod_right→xq,sub_self→xr,zero_add→y3,toDigits→y4,ne_of_gt→y5,le_of_eq→y6,le_succ→zf,le_of_succ_le→zi,add_assoc→c5,add_sub_cancel_left→de,lt_trans→fg,le_of_lt→fh,min_eq_left→fi,lt_trichotomy→lg,mod_two_eq_zero_or_one→pb,mod_self→Qh,min_self→Qi,one_mul→QH,lt_or_gt_of_ne→Q1,not_lt→Ja,mod_lt→Jb,lt_succ_of_lt→Je,succ_ne_self→Jm,add_le_add→JH,succ_mul→Km,sub_zero→Ko
open Array renaming length_toList→qt,forIn_toList→bj,toList_push→cg,size_push→mx,ext_getElem?→QB,size_append→QU,toList_inj→Q5,toList→JM,getD→Ks
open PySem.Str renaming ofString→qu,empty→xm,length→Vv
open PySem.Heap.SameBut renaming update→q4,refl→pf
open Option.some renaming inj→jc,injEq→Vp
open PySem.F renaming plain_min_loop→je,plainAttrs_list→jy,type_list_append→j0,slot_list_append→j1,entry_min_loop→wm,slot_tuple_iterator_next→ym,slot_tuple_index→bu,args_tuple_add_2→bw,entry_tuple_add→cj,slot_tuple_add→cv,slot_tuple_hash→da,type_tuple_index→m5,slot_list_index→nv,plainAttrs_str→n7,args_tuple_iterator_next_1→ph,slot_tuple_eq→pv,type_str_join→rb,slot_str_join→rd,entry_tuple_iterator_next→ri,plain_min→Ql,entry_min→Qm,kind_min→Qx
open Classical renaming byContradiction→jf,propDecidable→my
open PySem.Value renaming ref→jh,none→jt,bool→kz,isInt→yo,int→cb,type→gv,notImplemented→Qa,str→Q9
open PySem.Obj renaming mapSeq→ji,data_mapDictKeys→xl,isFreed_of_dict→bc,data_mapFields→Q0,data_mapDict→Jl
open Int renaming toNat_natCast→jj,gcd→va,zero_add→vr,emod_lt_of_pos→za,emod_nonneg→bb,ediv_mul_cancel→bf,gcd_dvd_right→cu,gcd_dvd_left→dg,natCast_inj→fj,gcd_pos_of_ne_zero_right→nh,natAbs_ediv_le_natAbs→rh,fmod_nonneg_of_pos→Qf,fdiv_mul_cancel→QS,fmod_lt_of_pos→Q4,neg_dvd→Vo
open Bool renaming and_eq_true→jm,false_eq_true→vw,and_true→xt,or_eq_true→y9,eq_iff_iff→zv,and_false→fv,not_true→gm,not_eq_true'→g5,noConfusion→Ji,true_and→JK,or_false→JL
open PySem.NameKind renaming free→jr,cell→v7,globalImplicit→ng
open PySem.Builtin.Str renaming strSliceIndices→kq
open PySem.W.Fast renaming te14364793385576792824→vd,tw14364793385576792824→wc,tw15667345088766844465→Kz,tw14374325043358763698→KA,tw14082659384304107361→KB,tw10110043849684766642→KC,te9446332074065402090→KD,te4187177175401517315→KF,te15667345088766844465→KG,te14374325043358763698→KH,te14082659384304107361→KI,te11892475500146522536→KJ,te10110043849684766642→KL
open PySem.Builtin.Builtins renaming bindParams→vh
open Ne renaming symm→vi
open False renaming elim→vn
open Std.Legacy.Range renaming forIn_eq_forIn_range'→vz,size→z7
open ForInStep renaming yield→v8
open List.Pairwise renaming imp_of_mem→wx,nil→dt,filter→Kb
open PyProof.Rows renaming get?_update_seq→wy,callWith_type1→x6,SortKind→bp,IntsAre→cq,subscriptTail_builtinR→fw,pendingOf→f3,AllBare→hJ,boot_abs→l0,listUpdate_at→mi,assignInOrder_cons→mn,lt_int→nf,failedOf→rj,envOfC→r5,assignInOrder_nil→JU,wpAny_notIn_heap→Ke,slot_tuple_eq→K3,le_int→K4,callWith_builtin1→K5,boot_sorted→K6,boot_isinstance→K7,arrOf→Ve,minRun'→Vh
open PySem.PyData renaming hasDict→w3,showable→y8,shown→zc,shownAll→zt,depth→z9,showableAll→fy,hasDictAll→gq,depthAll→lr
open PySem.Around renaming under_plainId→xg,frames_deeper→tx
open PySem.Builtin.SmallTypes renaming nextOf→x8
open List.cons renaming injEq→yt,inj→QR
open Option renaming isSome_iff_exists→yw,getD_none→QM,bind_some→QN,map_some→QZ,none→JG
open PySem.Builtin.Tuple renaming tupleHashOf→zk,tupleCompareSizes→du,tupleItemsOf→Kc
open Std.Legacy renaming Range→br
open True renaming intro→cm
open PySem.Calls renaming callWith_builtin→df,evalArgs_plain→fk,Name_function_global→nj,spliced_cons→QA,spliced_nil→QT
open List.Nodup renaming eraseIdx→dj,mem_erase_iff→lj
open PySem.SeqAt.EqAt renaming same→gp,str_int→pw,of_refs→pz,int_str→p3,int_int→ra,tuple_str→VA,tuple_none→VB,tuple_list→VC,tuple_int→VD,tuple_bool→VE,str_tuple→VF,str_str→VG,str_none→VH,str_list→VI,str_bool→VJ,none_tuple→VL,none_str→VM,none_list→VN,none_int→VO,none_bool→VP,list_tuple→VQ,list_str→VR,list_none→VS,list_int→VT,list_bool→VU,int_tuple→VV,int_none→VW,int_list→VX,int_bool→VY,bool_tuple→VZ,bool_str→V0,bool_none→V1,bool_list→V2,bool_int→V3,bool_bool→V4
open PySem.Walks renaming list→gu,tuple→JV
open PySem.PassesOwn renaming never→gy
open PySem.Builtin.List renaming listTooLong→gz
open Sum renaming inl→hK,inr→nq
open PySem.SeqAt.RcAt renaming lists_lengths→lh,tuples→rp,lists→tf,tuple_list→Vy,list_tuple→Vz
open PySem.Builtin.Dict renaming mergeDict→lq,showsAll→ma,takeOut→K9,samePairs→Va,readDirectly→Vb,merge→Vc,entriesForEmpty→Vd
open PySem.AutoSeq1 renaming sub_tuple_tuple→mz
open PySem.Heap.DictOfH renaming typeIs→ni,new→K8
open PySem.SeqAt renaming EqAt→nz
open PySem.Shared renaming TypeIs→nP
open Or renaming inl→sd,inr→JB
open PyProof.Rows.SortSt renaming mk'→Qv
open PySem.Txt renaming join→Qw,join→JS
open StateT renaming run_pure→QX
open PySem.CmpOf renaming ints_lt→Jz
open PySem.pyHashByItsType renaming reduced→JA
open PySem.Heap.IsSliceOf renaming new→JN
open PySem.EqMixed renaming ne_str_int→JZ,ne_str_bool→J4,ne_int_str→J5,ne_bool_str→J6,eq_str_int→J7,eq_str_bool→J8,eq_int_str→J9,eq_bool_str→Ka
open PySem.Builtin.Range renaming rangeSize→Kd
open PUnit renaming unit→Kl
open PySem.Draws renaming list→Kq
open PySem.Data renaming fields→Kr,dict→Vx
open PySem.SeqAt.RcNeAt renaming tuples→Kt,tuple_list→Ku,lists_lengths→Kv,lists→Kw,list_tuple→Kx
open PySem.W.Frag renaming In→Ky
open PySem.EqNone renaming ne_str_none→KM,ne_none_str→KN,ne_none_none→KO,ne_none_int→KP,ne_none_bool→KQ,ne_int_none→KR,ne_bool_none→KS,eq_str_none→KU,eq_none_str→KW,eq_none_none→KY,eq_none_int→KZ,eq_none_bool→K0,eq_int_none→K1,eq_bool_none→K2
open PyProof.Rows.IsTup renaming new→Vn
open PySem.Flow renaming next→Vw
theorem zLm{α β}{as:List α}(f:α->β):(as.map f).length=as.length:=List.length_map f
theorem zGe{α}{l:List α}{i:Nat}(h:i<l.length):l[i]?=some l[i]:=List.getElem?_eq_getElem h
theorem zGd{α}{l:List α}{i:Nat}{a:α}:l.getD i a=l[i]?.getD a:=List.getD_eq_getElem?_getD
theorem zGs{α}{l:List α}{i:Nat}{a:α}(h:l[i]?=some a):∃h:i<l.length,l[i]=a:=List.getElem?_eq_some_iff.mp h
theorem zMo{α}{l:List α}{i:Nat}{a:α}(h:l[i]?=some a):a∈l:=List.mem_of_getElem? h
theorem zBf:false≠true:=Bool.false_ne_true
variable {xs:List (List Int×gw)}{us its:List Qg}{x qual name q1 q2:md}{u pm:Qg}{a b it C f tu Pt P1 P2 ab ap dx:gw}{o e c tg iter elt:Kk}{P prog:PySem.Program}{w:JW}{h base h':Kj}{t' i j y n ep d kk nx ny lo nrem:Nat}{ch fp:List gw}{N ns loose zs:List md}{A:PySem.Around}{s' s:PySem.Shared}{pins:List (gw×PySem.Obj)}{t:Bool}{st:Ki}{es ifs elts:List Kk}{pos' px py spos apos cpos p2 tp o1 o2:PySem.Pos}{g:Int->Int->Int}{mg:md->Option Qg}{outer:List PySem.Env}{fd:PySem.FuncData}{sc scope:PySem.Scope}{ms ats is:List Int}{YP:JW->Kj->Prop}{cl:List (md×gw)}{ks:List (List Int)}{hf:md->Int}{c':List Prop}{r' post:List Nat}{qs:List (Int×Int)}{segs:List (List Nat)}{ss:List Ki}
set_option hygiene false in
local macro_rules
|`($t.$i:fieldIdx)=>match i.raw.isFieldIdx?.getD 0 with|3=>`(some $t)|4=>`(aC $t)|5=>`(zGs $t)|6=>`(ja X.prog $t)|7=>`(zMo $t)|8=>`(ja prog $t)|9=>`(List $t)|10=>`(Stp.refl $t)|11=>`(aS aM $t)|12=>`(qb _ $t)|13=>`(l.map $t)|14=>`(wpAny_pure $t)|15=>`(aB 0 rfl $t)|16=>`(aB 1 rfl $t)|17=>`(Q.top $t)|18=>`(a9 I q $t)|19=>`(ps.map $t)|20=>`(Sx ps qs $t)|21=>`(aB 2 rfl $t)|22=>`(aY X scope cs C (x::ns) s₀ H₀ $t)|23=>`(R.units_le $t)|24=>`(aB 4 rfl $t)|25=>`(aX bD T.len jk $t)|26=>`(S "/claim/cut.py" $t)|27=>`(cellsFrom (s3.heap.objs.size+1) scope.names $t)|28=>`(starEach es $t)|29=>`(decide_eq_true $t)|30=>`(aY X scope (cellsFrom (s3.heap.objs.size+1) scope.names cl) s3.heap.objs.size (xs++ns) s3 H3 $t)|31=>`(seqObj "list" vs.toArray $t)|32=>`(jQ (.lst _) (.lst _) (by rw[zLm];exact R.bQ (by simp only[qy,vg];omega)) $t)|33=>`(b6 [0] rfl ⟨(show (0:Int)<_ by first|decide|omega),trivial⟩ $t)|34=>`(dq (s3.heap.push {cls := .type "dict", data := .dict #[]}) $t)|_=>Lean.Macro.throwUnsupported
set_option hygiene false in
local macro_rules
|`(tactic|show $c:char)=>match c.getChar with|'!'=>`(tactic|have I2:Inv X pins σ (upd H s.heap.objs.size (.tup [.int (i:Int),x])) {s with heap:=p,toks:=C+1}:=I.turnedT k2 hf (qo _) ⟨(show 2<=sizeLine by decide),[.int (i:Int) C,y], .cons ⟨C,rfl⟩ (.cons ru .nil),⟨_,g,rfl,_,rfl⟩,_,g,rfl⟩)|'#'=>`(tactic|intro pins s σ H Q I h)|'$'=>`(tactic|have:=eqAt_D I c n z v1 v2 _ _ A.in1 (bH w r) (bH C t) B E r1 r2 (by show A.units+1+n<cLine;lia))|'%'=>`(tactic|intro pins s σ H xs us Q I r h)|'&'=>`(tactic|show wpAny _ A.in1 (tryCatch (rq (.ref I)) _ >>= _) _ _ _)|_=>Lean.Macro.throwUnsupported
set_option hygiene false in
local macro_rules
|`($c:char)=>match c.getChar with|'!'=>`(by omega)|'#'=>`(by lia)|'$'=>`(by decide)|'%'=>`(Int×Int)|'&'=>`(.ListComp elt [⟨.Name x px,iter,ifs,0⟩] scope pos)|'*'=>`(by simp)|'+'=>`(Addr×Obj)|','=>`(⟨(show (0:Int)<_ by first|decide|omega),trivial⟩)|'.'=>`(∀cs C s₀ H₀ fp,GE fp.22 elt (some d::cap.map λk=>(Γ[k]?).join) M3 (λy M4=>I (i+1) (acc++[y]) M4))|'/'=>`(pre.length+e.length)|'0'=>`(.lst _)|'1'=>`(.inl rfl)|'2'=>`(s.heap.objs.size+1)|'3'=>`(⟨.type "code", none, .fields #[(S "rims" 302),(S "rims" 303),(304).26,(I 67),(I 1),(I 0),(I 0),(I 3),(R 90),(.bool true),(I 181),(R 91), .none, .none, .none,(R 92),(I 305),(I 67),(306).26],#[]⟩)|'4'=>`(X.env.qual ++ "<lambda>")|'5'=>`(x==("__debug__" : Str))|'6'=>`(X.env.scope.names.lookup nm=some .cell\/X.env.scope.names.lookup nm=some .free)|'7'=>`((e::es).length+([]:List cI).length+(if ([]:List cI).isEmpty then 0 else 1)<30)|'8'=>`(.lst ds)|'9'=>`(.dic hf0 ((zs.20).map (bgP ps qs)) ((zs.20).map (sdP ps qs)))|':'=>`(show false=true from c)|';'=>`(λcs C s₀ H₀ a pins s σ H Q I h=>h cs C s₀ H₀ a pins s I)|'<'=>`(⟨some "key", .Lambda params body scope lpos,kpos⟩)|'='=>`(λr s'=>r = .ok (.ret (.bool true))/\OldK s₁.heap s'.heap/\s'.os=s₁.os/\hJ s'.gens)|'>'=>`(pre.length+g.length)|'?'=>`(by simp[dA])|'@'=>`(((zs.head?.map (·.length)).getD 0))|'A'=>`(.Call (.Name x p) (e::es) [] pos)|'B'=>`(⟨by exact_mod_cast this.symm,by exact_mod_cast t.symm⟩)|'C'=>`(⟨λ_=>rfl,λ_ _=>rfl⟩)|'D'=>`(ha pins s σ H _ I h)|_=>Lean.Macro.throwUnsupported
noncomputable section
namespace L2
open PySem PySem.Spec PyProof.Rows
abbrev Key:=Sum Int Str
noncomputable def aEO:Key->Value->Bool
 |.inl k,v=>yo k v
 |.inr x,v=>Value.isStrOf x v
noncomputable def keyH(w:World):Key->Int
 |.inl k=>Vi k
 |.inr x=>hashStr w x
theorem cL:∀{k:Key}{v:Value},aEO k v=true->(∃i t,k=hK i/\v=cb i t)\/(∃x t,k=nq x/\v=Q9 x t)
 |.inl i,v,h=>by
  obtain⟨t,e⟩:=Value.isInt_shape (k:=i) (v:=v) h
  exact .inl ⟨i,t,rfl,e⟩
 |.inr x,v,h=>by
  obtain⟨t,e⟩:=Value.isStrOf_shape (x:=x) (v:=v) h
  exact .inr ⟨x,t,rfl,e⟩
theorem aI7(a b:Int):decide ((hK a:Key)=hK b)=(a==b):=by
 by_cases e:a=b
 ·subst e;simp
 ·have h:¬(hK a:Key)=hK b:=λq=>e (Sum.inl.inj q)
  rw[decide_eq_false h]
  exact (beq_eq_false_iff_ne.mpr e).symm
theorem aJ3(a b:Str):decide ((nq a:Key)=nq b)=decide (a=b):=by
 by_cases e:a=b
 ·subst e;simp
 ·have h:¬(nq a:Key)=nq b:=λq=>e (Sum.inr.inj q)
  rw[decide_eq_false h,decide_eq_false e]
theorem aIA(a:Int)(b:Str):decide ((hK a:Key)=nq b)=false:=decide_eq_false (λq=>nomatch q)
theorem aJY(a:Str)(b:Int):decide ((nq a:Key)=hK b)=false:=decide_eq_false (λq=>nomatch q)
noncomputable def wS(prog:Program)(w:World):PySem.KeyKind prog w Key where
 is:=aEO
 hash:=keyH w
 inj:=λv a b ha hb=>by
  rcases cL ha with ⟨i,t,rfl,rfl⟩|⟨x,t,rfl,rfl⟩
  ·rcases cL hb with ⟨j,u,rfl,e⟩|⟨y,u,rfl,e⟩
   ·injection e with e1 _;rw[e1]
   ·exact nomatch e
  ·rcases cL hb with ⟨j,u,rfl,e⟩|⟨y,u,rfl,e⟩
   ·exact nomatch e
   ·injection e with e1 _;rw[e1]
 byValue:=λk v h=>by
  rcases cL h with ⟨i,t,rfl,rfl⟩|⟨x,t,rfl,rfl⟩ <;> rfl
 pyHash:=λhv h=>by
  rcases cL hv with ⟨i,t,rfl,rfl⟩|⟨x,t,rfl,rfl⟩
  ·exact wpAny_pyHash_int h
  ·exact wpAny_pyHash_str h
 eqBool:=λhu hv h=>by
  rcases cL hu with ⟨i,t,rfl,rfl⟩|⟨x,t,rfl,rfl⟩
  ·rcases cL hv with ⟨j,u,rfl,rfl⟩|⟨y,u,rfl,rfl⟩
   ·rw[aI7] at h;exact Kg h
   ·rw[aIA] at h;exact p3 i t y u _ _ _ _ h
  ·rcases cL hv with ⟨j,u,rfl,rfl⟩|⟨y,u,rfl,rfl⟩
   ·rw[aJY] at h;exact pw x t j u _ _ _ _ h
   ·rw[aJ3] at h;exact wpAny_eqBool_str h
 «strs» := λk x t v h=>by
  rcases cL h with ⟨i,u,rfl,e⟩|⟨y,u,rfl,e⟩
  ·exact nomatch e
  ·injection e with e1 _
   subst e1
   cases v <;> rfl
inductive V where
 |non|bl (b:Bool)|int (i:Int)|str (x:Str)|byt (b:Array UInt8)|flt (b:UInt64)|ref (a:Addr)|ty (n:String)
 deriving DecidableEq
def RelV:V->Value->Prop
 |.non,u=>u=jt
 |.bl b,u=>u=kz b
 |.int i,u=>∃t,u=cb i t
 |.str x,u=>∃t,u=Q9 x t
 |.byt b,u=>∃t,u=Value.bytes b t
 |.flt b,u=>∃t,u=Value.float b t
 |.ref a,u=>u=jh a
 |.ty n,u=>u=gv n
abbrev Vals:List V->List Value->Prop:=Paired RelV
theorem Vals.length{xs:List V}(r:Vals xs us):xs.length=us.length:=Paired.length r
theorem Vals.get:∀{xs:List V}{us:List Value}{i:Nat}{x:V},Vals xs us->xs[i]?=some x->∃u,us[i]?=some u/\RelV x u
 |_,_,_,_, .nil,e=>by simp at e
 |_,_,0,_, .cons r _,e=>by simp at e;subst e;exact⟨_,rfl,r⟩
 |_,_,i+1,x, .cons _ t,e=>by
  obtain⟨u,b,a⟩:=Vals.get (i:=i) (x:=x) t (by simpa using e)
  exact⟨u,by simpa using b,a⟩
theorem Vals.set{x:V}(r:RelV x u):∀{xs:List V}{us:List Value} (i:Nat),Vals xs us->Vals (xs.set i x) (us.set i u)
 |_,_,_, .nil => .nil
 |_,_,0, .cons _ t => .cons r t
 |_,_,i+1, .cons q t => .cons q (Vals.set r i t)
theorem Vals.append:∀{xs ys:List V}{us ws:List Value},Vals xs us->Vals ys ws->Vals (xs++ys) (us++ws)
 |_,_,_,_, .nil,s=>s
 |_,_,_,_, .cons r t,s => .cons r (Vals.append t s)
theorem Vals.take:∀{xs:List V}{us:List Value} (n:Nat),Vals xs us->Vals (xs.take n) (us.take n)
 |_,_,0,_ => .nil
 |_,_,_+1, .nil => .nil
 |_,_,n+1, .cons r t => .cons r (Vals.take n t)
theorem Vals.drop:∀{xs:List V}{us:List Value} (n:Nat),Vals xs us->Vals (xs.drop n) (us.drop n)
 |_,_,0,r=>r
 |_,_,_+1, .nil => .nil
 |_,_,n+1, .cons _ t=>Vals.drop n t
def RelO:Option V->Option Value->Prop
 |some v,some u=>RelV v u
 |none,none=>True
 |_,_=>False
def KV{κ:Type}:List (κ×V)->List (κ×Value)->Prop:=Paired λ(p:κ×V) (q:κ×Value)=>p.1=q.1/\RelV p.2 q.2
noncomputable def kV:Key->V
 |.inl i => .int i
 |.inr x => .str x
inductive HO where
 /-- a list -/
 |lst (xs:List V)
 /-- a tuple (never changes) -/
 |tup (xs:List V)
 /-- a dict whose keys are ints and texts;one whose keys are tuples of ints and texts (the empty one is both) -/
 |dK (kvs:List (Key×V))|dT (kvs:List (List Key×V))
 /-- a set of ints: its members,its size -/
 |set (S:Int->Bool) (n:Nat)
 /-- an instance of the class at C,its dict at dx,its attributes -/
 |ins (C dx:Addr) (fs:List (Str×V))
 /-- the dict of the instance at x -/
 |own (x:Addr)
 /-- the dict of an exception -/
 |xd (fs:List (Str×V))
 /-- a bound method,f of x -/
 |met (f x:Addr)
 /-- a range object lo,lo+1, .. below hi -/
 |rng (lo hi:Int)
 /-- a thing that is known to the object (the script;a dict while a loop walks it): read,never written while it is so -/
 |frz (o:Obj) (u:HO)
 /-- a code object's table -/
 |tbl (ps:Array Value)
 /-- any other thing,by what is true of its one object (a def of one's own: SetO a S n:=HO.ext λh => ..) -/
 |ext (φ:Heap->Prop)
abbrev Hp:=Addr->Option HO
noncomputable def upd(H:Hp)(a:Addr)(o:HO):Hp:=λb=>if b=a then some o else H b
theorem aR{H:Hp}{o:HO}:upd H a o a=some o:=by unfold upd;rw[if_pos rfl]
theorem aG{H:Hp}{o:HO}(h:b≠a):upd H a o b=H b:=by unfold upd;rw[if_neg h]
theorem aT{H:Hp}{o:HO}(h:H a=some o)(h':H b=none):a≠b:=by
 intro e;subst e;rw[h] at h';cases h'
def lD(h:Heap)(a:Addr)(its:Array Value):Prop:=IsTup h a its/\∃o,h.get? a=some o/\o.dict=none
theorem lD.new(h:Heap)(its:Array Value):lD (h.push {cls := .type "tuple", data := .seq its}) h.objs.size its:=⟨Vn _ _,_,qq _ rfl,rfl⟩
section
variable (P:Program)(w:World)
def cM(H:Hp)(h:Heap)(a:Addr):HO->Prop
 |.lst xs=>xs.length<=sizeLine/\∃(its:List Value) (n:Nat),Vals xs its/\h.get? a=some {cls := .type "list", data := .seq its.toArray n}
 |.tup xs=>xs.length<=sizeLine/\∃its:List Value,Vals xs its/\lD h a its.toArray
 |.dK kvs=>kvs.length<=sizeLine/\(a==wg)=false/\∃vs,KV kvs vs/\h.DictOf (wS P w) a vs
 |.dT kvs=>kvs.length<=sizeLine/\(a==wg)=false/\∃xs:List (List Key×Addr×Value),
   Paired (λ(p:List Key×V) (q:List Key×Addr×Value)=>p.1=q.1/\H q.2.1=some (.tup (p.1.map kV))/\RelV p.2 q.2.2) kvs xs /\
   ∃o es ep,h.get? a=some o/\o.ExactDict/\o.data = .dict es ep/\es.toList=xs.map (gk (tupleKind (wS P w)))/\(xs.map (·.1)).Nodup
 |.set S n=>h.SetOf (Jr P w) a S n
 |.ins C dx fs=>H dx=some (.own a)/\fs.length<=1000/\dx≠a/\h.get? a=some (QL C dx) /\
   ∃mA,h.Ns1 dx mA/\(∀f,RelO (fs.lookup f) (mA f))/\PySem.Within mA (fs.map (·.1))
 |.own _=>∃o,h.get? a=some o
 |.xd fs=>∃mA,h.Ns1 a mA/\∀f,RelO (fs.lookup f) (mA f)
 |.rng lo hi=>∃t u v,h.get? a=some {cls := .type "range", data := .fields #[.int lo t, .int hi u, .int 1 v]}
 |.frz o u=>h.get? a=some o/\cM H h a u
 |.tbl ps=>h.get? a=some {cls := .none,data := .fields ps}
 |.met f x=>h.get? a=some (gj (.ref f) (.ref x))
 |.ext φ=>φ h/\(∃o,h.get? a=some o)/\∀h1 h2:Heap,φ h1->(∀o,h1.get? a=some o->h2.get? a=some o)->φ h2
def HOk(H:Hp)(h:Heap):Prop:=∀a o,H a=some o->cM P w H h a o
end
section
variable {H H':Hp}{o:HO}
theorem cM.lt(x:cM P w H h a o):a<h.objs.size:=by
 cases o with
 |lst xs=>obtain⟨_,_,_,_,e⟩:=x;exact qr e
 |tup xs=>obtain⟨_,_,_,p⟩:=x;exact p.1.lt
 |dK kvs=>obtain⟨_,_,_,_,o,_,_,e,_⟩:=x;exact qr e
 |dT kvs=>obtain⟨_,_,_,_,o,_,_,e,_⟩:=x;exact qr e
 |set S n=>obtain⟨o,_,_,_,e,_⟩:=x;exact qr e
 |ins C dx fs=>obtain⟨_,_,_,e,_⟩:=x;exact qr e
 |own y=>obtain⟨_,e⟩:=x;exact qr e
 |xd fs=>obtain⟨_,⟨_,_,_,e,_⟩,_⟩:=x;exact qr e
 |rng lo hi=>obtain⟨_,_,_,e⟩:=x;exact qr e
 |frz ob u=>obtain⟨e,_⟩:=x;exact qr e
 |tbl ps=>exact qr (show h.get? a=some _ from x)
 |met f y=>exact qr (show h.get? a=some _ from x)
 |ext φ=>obtain⟨_,⟨_,e⟩,_⟩:=x;exact qr e
theorem Paired.mapP{α β:Type}{F G:α->β->Prop}:∀{l₁:List α}{l₂:List β},Paired F l₁ l₂->(∀a b,F a b->G a b)->Paired G l₁ l₂
 |_,_, .nil,_ => .nil
 |_,_, .cons r t,f => .cons (f _ _ r) (Paired.mapP t f)
theorem cM.stay(x:cM P w H h a o)(k:∀b u,(b=a\/H b=some (.own a))->h.get? b=some u->h'.get? b=some u)(ho:∀b,H b=some (.own a)->H' b=some (.own a))(ht:∀b xs,H b=some (.tup xs)->H' b=some (.tup xs)):cM P w H' h' a o:=by
 induction o with
 |lst xs=>obtain⟨z,j,n,r,e⟩:=x;exact⟨z,j,n,r,k _ _ '1' e⟩
 |tup xs=>obtain⟨z,j,r,⟨ob,e,c⟩,s,A,B⟩:=x;exact⟨z,j,r,⟨ob,k _ _ '1' e,c⟩,s,k _ _ '1' A,B⟩
 |dK kvs=>obtain⟨z,y,vs,r,ob,i,g,e,c⟩:=x;exact⟨z,y,vs,r,ob,i,g,k _ _ '1' e,c⟩
 |dT kvs =>
  obtain⟨z,y,xs,r,ob,i,g,e,c⟩:=x
  exact⟨z,y,xs,Paired.mapP r λp q z=>⟨z.1,ht _ _ z.2.1,z.2.2⟩,ob,i,g,k _ _ '1' e,c⟩
 |set S n=>obtain⟨ob,i,g,t,e,c⟩:=x;exact⟨ob,i,g,t,k _ _ '1' e,c⟩
 |ins C dx fs =>
  obtain⟨d,z,ne,e,m,⟨l,i,g,A,c⟩,r⟩:=x
  exact⟨ho _ d,z,ne,k _ _ '1' e,m,⟨l,i,g,k _ _ (.inr d) A,c⟩,r⟩
 |own y=>obtain⟨ob,e⟩:=x;exact⟨ob,k _ _ '1' e⟩
 |xd fs=>obtain⟨m,⟨l,i,g,e,c⟩,r⟩:=x;exact⟨m,⟨l,i,g,k _ _ '1' e,c⟩,r⟩
 |rng lo hi=>obtain⟨t,u,v,e⟩:=x;exact⟨t,u,v,k _ _ '1' e⟩
 |frz ob u ih=>obtain⟨e,q⟩:=x;exact⟨k _ _ '1' e,ih q⟩
 |tbl ps =>
  have e:h.get? a=some {cls := .none,data := .fields ps}:=x
  show h'.get? a=some {cls := .none,data := .fields ps}
  exact k a _ '1' e
 |met f y =>
  have e:h.get? a=some (gj (.ref f) (.ref y)):=x
  show h'.get? a=some (gj (.ref f) (.ref y))
  exact k a _ '1' e
 |ext φ=>obtain⟨p,⟨o,e⟩,st⟩:=x;exact⟨st _ _ p λo q=>k _ _ '1' q,⟨o,k _ _ '1' e⟩,st⟩
theorem HOk.lt(x:HOk P w H h)(e:H a=some o):a<h.objs.size:=(x a o e).lt
theorem HOk.fresh(x:HOk P w H h)(e:h.objs.size<=a):H a=none:=by
 cases q:H a with
 |none=>rfl
 |some u=>exact absurd (qw (x.lt q) e) (vm _)
theorem HOk.kept(x:HOk P w H h)(k:∀b u,h.get? b=some u->h'.get? b=some u):HOk P w H h':=λa o e =>
 (x a o e).stay (λb u _ q=>k b u q) (λ_ q=>q) λ_ _ q=>q
theorem HOk.laid(x:HOk P w H h)(k:∀b u,h.get? b=some u->h'.get? b=some u)(hp:h.objs.size<=a)(new:cM P w (upd H a o) h' a o):HOk P w (upd H a o) h':=λb u e=>by
 have d:=x.fresh hp
 by_cases f:b=a
 ·subst f;rw[aR] at e;cases e;exact new
 ·rw[aG f] at e
  exact (x b u e).stay (λc v _ q=>k c v q) (λc q=>by rw[aG (aT q d)];exact q) λc xs q=>by rw[aG (aT q d)];exact q
end
def Rd(H:Hp)(a:Addr)(u:HO):Prop:=H a=some u\/∃o,H a=some (.frz o u)
theorem Rd.ok{H:Hp}{u:HO}(r:Rd H a u)(x:HOk P w H h):cM P w H h a u:=by
 rcases r with r|⟨o,r⟩
 ·exact x a u r
 ·obtain⟨_,q⟩:=x a _ r
  exact q
def Mut:Option HO->Prop
 |some '0'=>True
 |some (.dK _)=>True
 |some (.dT _)=>True
 |some (.set _ _)=>True
 |some (.ins _ _ _)=>True
 |some (.ext _)=>True
 |_=>False
section
variable {H:Hp}{x e:Addr}{o':HO}
theorem HOk.write(ok:HOk P w H h)(mu:Mut (H x))(he:e=x\/H e=some (.own x))(k:∀b u,b≠e->h.get? b=some u->h'.get? b=some u)(heo:∃u,h'.get? e=some u)(new:cM P w (upd H x o') h' x o'):HOk P w (upd H x o') h':=λb u q=>by
 have d:∀c y,H c=some (.own y)->c≠x:=λc y r z=>by subst z;rw[r] at mu;exact mu
 have f:∀c xs,H c=some (.tup xs)->c≠x:=λc xs r z=>by subst z;rw[r] at mu;exact mu
 by_cases i:b=x
 ·subst i;rw[aR] at q;cases q;exact new
 ·rw[aG i] at q
  by_cases a:b=e
  ·have j:H b=some (.own x):=by
    rcases he with z|z
    ·exact absurd (a.trans z) i
    ·rw[a];exact z
   rw[q] at j;cases j
   obtain⟨v,l⟩:=heo
   exact⟨v,by rw[a];exact l⟩
  ·refine (ok b u q).stay (λc v g r=>k c v ?_ r) (λc r=>by rw[aG (d c b r)];exact r) λc xs r=>by rw[aG (f c xs r)];exact r
   rcases g with rfl|g
   ·exact a
   ·rintro rfl
    rcases he with z|z
    ·exact d c b g z
    ·rw[g] at z;cases z;exact i rfl
end
structure Un(fs ex:List Addr)(H H':Hp)(h h':Heap):Prop where
 keep:∀b o,h.get? b=some o->H b=none->b∉fs->b∉ex->h'.get? b=some o
 slot:∀b o,h.get? b=some o->H b=none->b∈fs->b∉ex->∃sl,h'.get? b=some {o with slots:=sl}
 free:∀b o,h.get? b=some o->H b=none->b∉ex->H' b=none
 there:∀b o,h.get? b=some o->b∉ex->∃o',h'.get? b=some o'
 tups:∀b xs,H b=some (.tup xs)->H' b=some (.tup xs)
 frzs:∀b o u,H b=some (.frz o u)->H' b=some (.frz o u)
 tbls:∀b ps,H b=some (.tbl ps)->∃more,H' b=some (.tbl (ps++more))
section
variable {fs fs' ex ex':List Addr}{H H1 H2:Hp}{h1 h2:Heap}{x e:Addr}{o:HO}
theorem Un.any(u:Un fs ex H H1 h h1){ob:Obj}(q:h.get? b=some ob)(n:H b=none)(hx:b∉ex):∃sl,h1.get? b=some {ob with slots:=sl}:=by
 by_cases a:b∈fs
 ·exact u.slot b ob q n a hx
 ·exact⟨ob.slots,u.keep b ob q n a hx⟩
theorem Un.kept(k:∀b u,h.get? b=some u->h'.get? b=some u):Un fs ex H H h h':=
 ⟨λb ob q _ _ _=>k b ob q,λb ob q _ _ _=>⟨ob.slots,k b ob q⟩,λ_ _ _ n _=>n,λb ob q _=>⟨ob,k b ob q⟩,λ_ _ q=>q,λ_ _ _ q=>q,λ_ ps q=>⟨#[],by rw[q];simp⟩⟩
theorem Un.refl:Un fs ex H H h h:=Un.kept λ_ _ q=>q
theorem Un.laid(k:∀b u,h.get? b=some u->h'.get? b=some u)(hp:h.objs.size<=a)(hn:H a=none):Un fs ex H (upd H a o) h h' where
 keep:=λb u q _ _ _=>k b u q
 slot:=λb u q _ _ _=>⟨u.slots,k b u q⟩
 free:=λb u q n _=>by rw[aG (q3 (qw (qr q) hp))];exact n
 there:=λb u q _=>⟨u,k b u q⟩
 tups:=λb xs q=>by rw[aG (aT q hn)];exact q
 frzs:=λb u xs q=>by rw[aG (aT q hn)];exact q
 tbls:=λb ps q=>⟨#[],by rw[aG (aT q hn),q];simp⟩
theorem Un.write(mu:Mut (H x))(he:e=x\/H e=some (.own x))(k:∀b u,b≠e->h.get? b=some u->h'.get? b=some u)(heo:∃u,h'.get? e=some u):Un fs ex H (upd H x o) h h':=by
 have c:∀b,H b=none->b≠x:=λb n z=>by subst z;rw[n] at mu;exact mu
 have d:∀b,H b=none->b≠e:=λb n z=>by
  subst z
  rcases he with r|r
  ·exact c b n r
  ·rw[n] at r;cases r
 have hm:∀b u,H b=some u->¬Mut u.3->b≠x:=λb u q nm z=>by subst z;rw[q] at mu;exact nm mu
 refine⟨λb u q n _ _=>k b u (d b n) q,λb u q n _ _=>⟨u.slots,k b u (d b n) q⟩,λb u q n _=>by rw[aG (c b n)];exact n,λb u q _ => ?_,
  λb xs q=>by rw[aG (hm b _ q λz=>z)];exact q,λb u xs q=>by rw[aG (hm b _ q λz=>z)];exact q,λb ps q=>⟨#[],by rw[aG (hm b _ q λz=>z),q];simp⟩⟩
 by_cases a:b=e
 ·subst a;exact heo
 ·exact⟨u,k b u a q⟩
end
noncomputable def trk(h:Heap)(H:Hp):List Addr:=(qz h.objs.size).filter λa=>(H a).isSome
noncomputable def kO(h:Heap)(H:Hp):Heap:=PySem.W.hideAll h (trk h H)
theorem aBT(h:Heap)(H:Hp):(kO h H).objs.size=h.objs.size:=PySem.W.hideAll_size _ _
theorem aCN{H:Hp}{o:Obj}(e:h.get? b=some o)(n:H b=none):(kO h H).get? b=some o:=
 PySem.W.hideAll_get _ e λhm=>by
  have q:(H b).isSome=true:=(zu.mp hm).2
  rw[n] at q;simp at q
theorem aG5{H:Hp}{o:Obj}(e:(kO h H).get? b=some o):h.get? b=some o/\H b=none:=by
 have a:h.get? b=some o:=PySem.W.of_hideAll (trk h H) e
 refine⟨a,?_⟩
 cases q:H b with
 |none=>rfl
 |some x =>
  have hm:b∈trk h H:=zu.mpr ⟨j2.mpr (qr a),by simp[q]⟩
  have z:(kO h H).get? b=none:=PySem.W.hideAll_none (trk h H) hm
  rw[z] at e;cases e
noncomputable def aGY(g h:Heap)(L:Addr):List '+':=(qz h.objs.size).filterMap λa=>if a=L\/(g.get? a).isSome=true then none else (h.get? a).map λo=>(a,o)
noncomputable def rest(g h:Heap)(L d:Addr):List '+':=(aGY g h L).filter λp=>decide (p.1≠d)
end L2
variable {H H' H1 G G' G0:L2.Hp}{v:L2.V}{ws:List L2.V}
namespace L2
open PySem PySem.Spec PyProof.Rows
structure Mod(K:qg)(mg:Str->Option Value)(base:Heap):Prop where
 kin:K.In base
 glob:base.Ns jx mg
 blt:∃mb,base.Ns Qu mb/\∀x:Str,x ≠ "__name__" -> mb x=ke x
 nolimit:base.NoLimit
/-- the context: a def's body (or a comprehension's block) running. base: fixed through the whole law;s₀,H₀: the entry;outer: the frames whose slots others may change (a def's callers);stack: all frames that run;
   ex: iterators that were made ahead of the entry and are walked here (a comprehension's);fn: the names whose cells were made at the entry (a def: all;a comprehension's block: its own);calm: not within an except suite;pn: pins that every state bears;xe: what is wanted of an exception that leaves the code -/
structure Cx where
 prog:Program
 w:World
 K:qg
 mg:Str->Option Value
 base:Heap
 A:Around
 N:List Str
 s₀:Shared
 H₀:Hp
 env:Env
 outer:List Env
 stack:List Env
 ex:List Addr
 fn:Str->Bool
 calm:Bool
 pn:List '+'
 xe:Value->Shared->Prop
noncomputable def frs(l:List Env):List Addr:=l.filterMap (·.frame)
abbrev Cx.fs(X:Cx):List Addr:=frs X.outer
def Vis(sc:Scope)(x:Str):Prop:=sc.names.lookup x=some .local\/sc.names.lookup x=some .cell\/sc.names.lookup x=some .free
def Loc(sc:Scope)(x:Str):Prop:=sc.names.lookup x=some .local\/sc.names.lookup x=some .cell
def Look(env:Env)(h:Heap)(m:Str->Option Value)(x:Str)(u:Value):Prop:=
 (env.kindOf x=some .local/\m x=some u)\/((env.kindOf x=some .cell\/env.kindOf x=some .free)/\∃c,env.cells.lookup x=some c/\h.IsCell c u.3)
structure Cx.Ok(X:Cx):Prop where
 mod:Mod X.K X.mg X.base
 kind:X.env.scope.kind = .function
 glob:X.env.globals=jx
 blt:X.env.builtins=Qu
 above:X.s₀.heap.objs.size<=X.env.locals
 inj:∀x y c,X.env.cells.lookup x=some c->X.env.cells.lookup y=some c->x=y
 has:∀x,(X.env.kindOf x=some .cell\/X.env.kindOf x=some .free)->∃c,X.env.cells.lookup x=some c
 cab:∀x c,X.fn x=true->X.env.cells.lookup x=some c->X.s₀.heap.objs.size<=c
 hd:X.calm=true->X.A.handled=none
 frames:X.A.frames=some X.stack
 stk:X.stack=X.outer\/(X.stack=X.env::X.outer/\X.env.frame=some X.env.locals)
 exf:∀b∈X.ex,b≠X.env.locals/\∀x c,X.env.cells.lookup x=some c->c≠b
 bs:∀b o,X.base.get? b=some o->X.s₀.heap.get? b=some o/\X.H₀ b=none
 bsz:X.base.objs.size<=X.s₀.heap.objs.size
 noex:∀b o,X.base.get? b=some o->b∉X.ex
 exfs:∀b∈X.ex,b∉X.fs
 funs:X.s₀.heap.FunFrames X.base X.outer
 frf:∀b∈X.fs,X.H₀ b=none
structure Inv(X:Cx)(pins:List '+')(σ:List (Option V))(H:Hp)(s:Shared):Prop where
 ok:X.Ok
 os:s.os=X.s₀.os
 bare:hJ s.gens
 base:Un X.fs X.ex X.H₀ H X.s₀.heap s.heap
 loc:∃m,s.heap.Ns X.env.locals m/\∀(i:Nat) (x:Str) (v:V),X.N[i]?=some x->σ[i]?=some v.3->Vis X.env.scope x->∃u,RelV v u/\Look X.env s.heap m x u
 cell:∀x c,X.env.cells.lookup x=some c->∃v,s.heap.IsCell c v
 free:H X.env.locals=none
 freeC:∀x c,X.env.cells.lookup x=some c->H c=none
 pin:∀p∈X.pn++pins,s.heap.get? p.1=some p.2/\H p.1=none/\p.1≠X.env.locals/\p.1∉X.fs/\∀v,p.2.data ≠ .cell v
 hok:HOk X.prog X.w H s.heap
 len:σ.length=X.N.length
section
variable {X:Cx}{σ:List (Option V)}
theorem Cx.Ok.nofr(ok:X.Ok){o:Obj}(e:X.base.get? b=some o):b∉X.fs:=λhb=>by
 have:=(ok.funs.mem hb).1
 rw[e] at this;cases this
theorem Inv.bs(I:Inv X pins σ H s):∀b o,X.base.get? b=some o->s.heap.get? b=some o/\H b=none:=λb o e =>
 ⟨I.base.keep b o (I.ok.bs b o e).1 (I.ok.bs b o e).2 (I.ok.nofr e) (I.ok.noex b o e),I.base.free b o (I.ok.bs b o e).1 (I.ok.bs b o e).2 (I.ok.noex b o e)⟩
theorem Inv.bk(I:Inv X pins σ H s):∀b o,X.base.get? b=some o->s.heap.get? b=some o:=λb o e=>(I.bs b o e).1
theorem Inv.mod(I:Inv X pins σ H s):Mod X.K X.mg X.base:=I.ok.mod
theorem Inv.kIn(I:Inv X pins σ H s):X.K.In s.heap:=I.ok.mod.kin.keeps I.bk
theorem Inv.lt(I:Inv X pins σ H s):X.env.locals<s.heap.objs.size:=let ⟨_,hn,_⟩:=I.loc;hn.lt
theorem Inv.sz(I:Inv X pins σ H s):X.s₀.heap.objs.size<=s.heap.objs.size:=jw I.ok.above (fh I.lt)
theorem Inv.nofs(I:Inv X pins σ H s)(h:s.heap.objs.size<=a):a∉X.fs:=λc=>by
 obtain⟨_,o,b,_⟩:=I.ok.funs.mem c
 exact absurd (qw (qr b) (jw I.sz h)) (vm _)
theorem Inv.cne(I:Inv X pins σ H s):∀x c,X.env.cells.lookup x=some c->c≠X.env.locals:=λx c e z=>by
 obtain⟨v,o,d,hd⟩:=I.cell x c e
 obtain⟨m,⟨f,h,g,a,b,_⟩,_⟩:=I.loc
 rw[z,a] at d;cases d;rw[b] at hd;cases hd
theorem Inv.funs(I:Inv X pins σ H s):s.heap.FunFrames X.base X.outer:=by
 have all:∀(l:List Env),(∀b∈frs l,b∈X.fs)->X.s₀.heap.FunFrames X.base l->s.heap.FunFrames X.base l:=by
  intro l
  induction l with
  |nil=>intro _ _;trivial
  |cons env r ih =>
   intro d hl
   obtain⟨f,⟨L,o,hf,i,g,hd⟩,h⟩:=hl
   have a:L∈X.fs:=d L (by unfold frs;rw[fK,hf];exact kh)
   obtain⟨j,e⟩:=I.base.slot L o g (I.ok.frf L a) a λz=>I.ok.exfs L z a
   exact⟨f,⟨L,_,hf,i,e,hd⟩,ih (λb c=>d b (by unfold frs;rw[fK,hf];exact jn _ c)) h⟩
 exact all X.outer (λ_ c=>c) I.ok.funs
theorem Inv.stack(I:Inv X pins σ H s):s.heap.FunFrames X.base X.stack:=by
 rcases I.ok.stk with e|⟨e,hf⟩
 ·rw[e];exact I.funs
 ·rw[e]
  obtain⟨m,a,_⟩:=I.loc
  refine .cons (by rw[I.ok.kind];decide) hf a ?_ I.funs
  exact Heap.get?_none_of_le (jw I.ok.bsz I.ok.above)
theorem Inv.stkSub(I:Inv X pins σ H s):∀b∈frs X.stack,b∈X.env.locals::X.fs:=λb a=>by
 rcases I.ok.stk with e|⟨e,hf⟩
 ·rw[e] at a;exact jn _ a
 ·rw[e] at a
  unfold frs at a
  rw[fK,hf] at a
  exact a
theorem Inv.stkFree(I:Inv X pins σ H s):∀b∈frs X.stack,H b=none:=λb a=>by
 rcases jb.mp (I.stkSub b a) with e|a
 ·rw[e];exact I.free
 ·obtain⟨_,o,c,_⟩:=I.ok.funs.mem a
  exact I.base.free b o c (I.ok.frf b a) λz=>I.ok.exfs b z a
theorem Inv.step{g':Array JD}{d':Drawn}(I:Inv X pins σ H s)(hch:∀b∈ch,(b∈X.ex\/X.s₀.heap.objs.size<=b)/\b≠X.env.locals/\(∀x c,X.env.cells.lookup x=some c->c≠b)/\∀p∈X.pn++pins,p.1≠b)(keep:∀b o,b≠X.env.locals->b∉X.fs->b∉ch->s.heap.get? b=some o->H b=none->h'.get? b=some o)(slot:∀b o,b≠X.env.locals->b∈X.fs->b∉ch->s.heap.get? b=some o->H b=none->∃sl,h'.get? b=some {o with slots:=sl})(free:∀b o,b∉ch->s.heap.get? b=some o->H b=none->H' b=none)(there:∀b o,b∉ch->s.heap.get? b=some o->∃o',h'.get? b=some o')(tups:∀b xs,H b=some (.tup xs)->H' b=some (.tup xs))(frzs:∀b o u,H b=some (.frz o u)->H' b=some (.frz o u))(tbls:∀b ps,H b=some (.tbl ps)->∃more,H' b=some (.tbl (ps++more)))(ns:∀m,s.heap.Ns X.env.locals m->h'.Ns X.env.locals m)(hok:HOk X.prog X.w H' h')(hg:hJ g'):
  Inv X pins σ H' {s with heap:=h',gens:=g',drawn:=d',toks:=t' }:=by
 have y:∀b o,X.s₀.heap.get? b=some o->b≠X.env.locals:=λb o e=>q3 (qw (qr e) I.ok.above)
 have h:∀b o,X.s₀.heap.get? b=some o->b∉X.ex->b∉ch:=λb o e a j=>by
  rcases (hch b j).1 with z|z
  ·exact a z
  ·exact absurd (qw (qr e) z) (vm _)
 have cellK:∀x c,X.env.cells.lookup x=some c->∀v,s.heap.IsCell c v->h'.IsCell c v:=λx c e v ⟨o,t,hd⟩=>by
  have f:c∉ch:=λz=>(hch c z).2.2.1 x c e rfl
  by_cases E:c∈X.fs
  ·obtain⟨sl,q⟩:=slot c o (I.cne x c e) E f t (I.freeC x c e)
   exact⟨_,q,hd⟩
  ·exact⟨o,keep c o (I.cne x c e) E f t (I.freeC x c e),hd⟩
 refine⟨I.ok,I.os,hg,⟨λb o e n j a => ?_,λb o e n j a => ?_,λb o e n a => ?_,λb o e a => ?_,λb xs e=>tups b xs (I.base.tups b xs e),λb o xs e=>frzs b o xs (I.base.frzs b o xs e),λb ps e => ?_⟩,?_,λx c e => ?_,?_,λx c e => ?_,λp C => ?_,hok,I.len⟩
 ·exact keep b o (y b o e) j (h b o e a) (I.base.keep b o e n j a) (I.base.free b o e n a)
 ·obtain⟨sl,g⟩:=I.base.slot b o e n j a
  obtain⟨B,A⟩:=slot b _ (y b o e) j (h b o e a) g (I.base.free b o e n a)
  exact⟨B,A⟩
 ·obtain⟨o',g⟩:=I.base.there b o e a
  exact free b o' (h b o e a) g (I.base.free b o e n a)
 ·obtain⟨o',g⟩:=I.base.there b o e a
  exact there b o' (h b o e a) g
 ·obtain⟨G,g⟩:=I.base.tbls b ps e
  obtain⟨K,A⟩:=tbls b _ g
  exact⟨G++K,by rw[A,Array.append_assoc]⟩
 ·obtain⟨m,J,hl⟩:=I.loc
  refine⟨m,ns m J,λi x v g A F => ?_⟩
  obtain⟨u,r,l⟩:=hl i x v g A F
  refine⟨u,r,?_⟩
  rcases l with l|⟨k,c,e,z⟩
  ·exact .inl l
  ·exact .inr ⟨k,c,e,cellK x c e _ z⟩
 ·obtain⟨v,z⟩:=I.cell x c e
  exact⟨v,cellK x c e v z⟩
 ·obtain⟨m,⟨o,_,_,t,_⟩,_⟩:=I.loc
  exact free _ o (λz=>(hch _ z).2.1 rfl) t I.free
 ·obtain⟨v,o,t,hd⟩:=I.cell x c e
  exact free c o (λz=>(hch c z).2.2.1 x c e rfl) t (I.freeC x c e)
 ·obtain⟨e,n,ne,D,d⟩:=I.pin p C
  have f:p.1∉ch:=λz=>(hch p.1 z).2.2.2 p C rfl
  exact⟨keep p.1 p.2 ne D f e n,free p.1 p.2 f e n,ne,D,d⟩
theorem Inv.un(I:Inv X pins σ H s)(u:Un X.fs [] H H' s.heap h')(hok:HOk X.prog X.w H' h'):Inv X pins σ H' {s with heap:=h',toks:=t' }:=by
 obtain⟨m,⟨o,l,k,g,r⟩,_⟩:=id I.loc
 obtain⟨p,i⟩:=u.any g I.free '*'
 exact I.step (g':=s.gens) (d':=s.drawn) (ch:=[]) (λ_ z=>nomatch z) (λb o _ f _ e n=>u.keep b o e n f '*') (λb o _ f _ e n=>u.slot b o e n f '*') (λb o _ e n=>u.free b o e n '*') (λb o _ e=>u.there b o e '*') u.tups u.frzs u.tbls (λq hm=>by
  obtain⟨j,d,c,a,h⟩:=hm
  rw[g] at a;cases a
  exact⟨_,d,c,i,h⟩) hok I.bare
theorem Inv.call{g':Array JD}{d':Drawn}(I:Inv X pins σ H s)(u:Un (frs X.stack) ch H H' s.heap h')(hok:HOk X.prog X.w H' h')(hg:hJ g')(hch:∀b∈ch,(b∈X.ex\/X.s₀.heap.objs.size<=b)/\b≠X.env.locals/\(∀x c,X.env.cells.lookup x=some c->c≠b)/\∀p∈X.pn++pins,p.1≠b):
  Inv X pins σ H' {s with heap:=h',gens:=g',drawn:=d',toks:=t' }:=by
 obtain⟨m,⟨o,t,q,i,r⟩,_⟩:=id I.loc
 obtain⟨v,h⟩:=u.any i I.free λz=>(hch _ z).2.1 rfl
 exact I.step (ch:=ch) hch (λb o h k a e n=>u.keep b o e n (λz=>(jb.mp (I.stkSub b z)).elim h k) a) (λb o _ _ a e n=>u.any e n a) (λb o a e n=>u.free b o e n a) (λb o a e=>u.there b o e a) u.tups u.frzs u.tbls (λy hm=>by
  obtain⟨l,g,f,d,j⟩:=hm
  rw[i] at d;cases d
  exact⟨_,g,f,h,j⟩) hok hg
theorem Inv.turned(I:Inv X pins σ H s)(k:∀b o,b≠it->s.heap.get? b=some o->h'.get? b=some o)(hn:H it=none)(hL:it≠X.env.locals)(h1:it∈X.ex\/X.s₀.heap.objs.size<=it)(h2:∀x c,X.env.cells.lookup x=some c->c≠it)(h3:∀p∈X.pn++pins,p.1≠it):Inv X pins σ H {s with heap:=h',toks:=t' }:=by
 have d:∀b u,H b=some u->b≠it:=λb u e z=>by rw[z,hn] at e;cases e
 refine I.step (g':=s.gens) (d':=s.drawn) (ch:=[it]) (λb i => ?_) (λb o _ _ a e _=>k b o (λz=>a (by simp[z])) e) (λb o _ _ a e _=>⟨o.slots,k b o (λz=>a (by simp[z])) e⟩) (λ_ _ _ _ n=>n)
  (λb o a e=>⟨o,k b o (λz=>a (by simp[z])) e⟩) (λ_ _ e=>e) (λ_ _ _ e=>e) (λb ps e=>⟨#[],by rw[e];simp⟩) (λm hm => ?_) (λb u e => ?_) I.bare
 ·have e:b=it:=by simpa using i
  subst e
  exact⟨h1,hL,h2,h3⟩
 ·obtain⟨o,h,g,f,r⟩:=hm
  exact⟨o,h,g,k _ o (vi hL) f,r⟩
 ·refine (I.hok b u e).stay (λc v a q=>k c v ?_ q) (λ_ q=>q) λ_ _ q=>q
  rcases a with z|z
  ·rw[z];exact d b u e
  ·exact d c _ z
theorem Inv.tok(I:Inv X pins σ H s)(t:Nat):Inv X pins σ H {s with toks:=t}:=I.un (h':=s.heap) (t':=t) Un.refl I.hok
theorem Inv.kept(I:Inv X pins σ H s)(k:∀b u,s.heap.get? b=some u->h'.get? b=some u):Inv X pins σ H {s with heap:=h',toks:=t' }:=I.un (Un.kept k) (I.hok.kept k)
theorem Inv.laid{o:HO}(I:Inv X pins σ H s)(k:∀b u,s.heap.get? b=some u->h'.get? b=some u)(hp:s.heap.objs.size<=a)(new:cM X.prog X.w (upd H a o) h' a o):
  Inv X pins σ (upd H a o) {s with heap:=h',toks:=t' }:=I.un (Un.laid k hp (I.hok.fresh hp)) (I.hok.laid k hp new)
theorem Inv.write{x e:Addr}{o:HO}(I:Inv X pins σ H s)(mu:Mut (H x))(he:e=x\/H e=some (.own x))(k:∀b u,b≠e->s.heap.get? b=some u->h'.get? b=some u)(heo:∃u,h'.get? e=some u)(new:cM X.prog X.w (upd H x o) h' x o):Inv X pins σ (upd H x o) {s with heap:=h',toks:=t' }:=I.un (Un.write mu he k heo) (I.hok.write mu he k heo new)
theorem Inv.pins_of{pins':List '+'}(I:Inv X pins σ H s)(h:∀p∈pins',s.heap.get? p.1=some p.2/\H p.1=none/\p.1≠X.env.locals/\p.1∉X.fs/\∀v,p.2.data ≠ .cell v):Inv X pins' σ H s:=
 ⟨I.ok,I.os,I.bare,I.base,I.loc,I.cell,I.free,I.freeC,λp a=>(qp.mp a).elim (λz=>I.pin p (q7 _ z)) (h p),I.hok,I.len⟩
theorem uH(hN:N.Nodup)(a:N[i]?=some x)(b:N[j]?=some x):i=j:=by
 obtain⟨f,c⟩:=zGs a
 obtain⟨e,d⟩:=zGs b
 exact (List.getElem_inj hN).mp (c.trans d.symm)
theorem rE{M:Jp}{E:Value->Shared->Prop}{Q:Unit->Shared->Prop}(I:Inv X pins σ H s)(hN:X.N.Nodup)(hi:X.N[i]?=some x)(hx:Loc X.env.scope x)(r:RelV v u)(h:∀s',Inv X pins (σ.set i v.3) H s'->(∃a,vx a s.heap s'.heap/\(a=X.env.locals\/X.env.cells.lookup x=some a))->Q () s')(hf:X.fn x=true\/X.env.scope.names.lookup x=some .local:=by first|exact .inl rfl|exact .inr rfl|assumption):wpAny M A (storeName X.env x u) Q E s:=by
 obtain⟨m,hn,hl⟩:=id I.loc
 have P:(X.env.scope.kind == .class||(X.env.scope.kind == .module&&X.env.locals != X.env.globals))=false:=by rw[I.ok.kind];rfl
 have hiσ:i<σ.length:=by rw[I.len];exact (hi.5).1
 have cne:=I.cne
 have tracked:∀{a:Addr}{J:Heap},(∃o,s.heap.get? a=some o/\H a=none)->vx a s.heap J->HOk X.prog X.w H J:=λ{a J} ha f b ob e=>by
  obtain⟨_,_,t⟩:=ha
  refine (I.hok b ob e).stay (λc T l q=>(f.2 c ?_).trans q) (λ_ q=>q) λ_ _ q=>q
  rintro rfl
  rcases l with rfl|l
  ·rw[t] at e;cases e
  ·rw[t] at l;cases l
 rcases hx with C|C
 ·refine wpAny_storeName_local C hn (λJ W f => ?_) P
  obtain⟨oL,_,_,Z,_⟩:=id hn
  refine h _ ⟨I.ok,I.os,I.bare,⟨λb o e n G hx => ?_,λb o e n G hx => ?_,I.base.free,λb o e hx => ?_,I.base.tups,I.base.frzs,I.base.tbls⟩,⟨_,W,λj y v' g B Y => ?_⟩,λy c e => ?_,I.free,I.freeC,λp hp => ?_,tracked ⟨oL,Z,I.free⟩ f,by simpa using I.len⟩ ⟨_,f, .inl rfl⟩
  ·exact (f.2 b (q3 (qw (qr e) I.ok.above))).trans (I.base.keep b o e n G hx)
  ·obtain⟨sl,g⟩:=I.base.slot b o e n G hx
   exact⟨sl,(f.2 b (q3 (qw (qr e) I.ok.above))).trans g⟩
  ·obtain⟨o',g⟩:=I.base.there b o e hx
   exact⟨o',(f.2 b (q3 (qw (qr e) I.ok.above))).trans g⟩
  ·by_cases D:j=i
   ·subst D
    rw[hi] at g;cases g
    rw[tq hiσ] at B
    cases B
    exact⟨u,r, .inl ⟨C,by simp⟩⟩
   ·rw[Qs (vi D)] at B
    obtain⟨u',r',q⟩:=hl j y v' g B Y
    refine⟨u',r',?_⟩
    rcases q with ⟨k,e⟩|⟨k,c,e,z⟩
    ·refine .inl ⟨k,?_⟩
     have:y≠x:=λe=>D (uH hN g (e▸hi))
     simp[this,e]
    ·exact .inr ⟨k,c,e,z.sameBut f (cne y c e)⟩
  ·obtain⟨T,z⟩:=I.cell y c e
   exact⟨T,z.sameBut f (cne y c e)⟩
  ·obtain⟨e,n,ne,U,d⟩:=I.pin p hp
   exact⟨(f.2 p.1 ne).trans e,n,ne,U,d⟩
 ·have F:X.fn x=true:=by
   rcases hf with z|z
   ·exact z
   ·rw[z] at C;cases C
  obtain⟨c,l⟩:=I.ok.has x (.inl C)
  obtain⟨T,z⟩:=I.cell x c l
  refine wpAny_storeName_cell I.ok.kind C l z (λJ K f => ?_)
  obtain⟨oc,O,L⟩:=id z
  refine h {s with heap:=J} ⟨I.ok,I.os,I.bare,⟨λb o e n G hx => ?_,λb o e n G hx => ?_,I.base.free,λb o e hx => ?_,I.base.tups,I.base.frzs,I.base.tbls⟩,⟨m,hn.sameBut f (vi (cne x c l)),λj y v' g B Y => ?_⟩,λy S e => ?_,I.free,I.freeC,λp hp => ?_,tracked ⟨oc,O,I.freeC x c l⟩ f,by simpa using I.len⟩ ⟨c,f, .inr l⟩
  ·exact (f.2 b (q3 (qw (qr e) (I.ok.cab x c F l)))).trans (I.base.keep b o e n G hx)
  ·obtain⟨sl,g⟩:=I.base.slot b o e n G hx
   exact⟨sl,(f.2 b (q3 (qw (qr e) (I.ok.cab x c F l)))).trans g⟩
  ·obtain⟨o',g⟩:=I.base.there b o e hx
   exact⟨o',(f.2 b (q3 (qw (qr e) (I.ok.cab x c F l)))).trans g⟩
  ·by_cases D:j=i
   ·subst D
    rw[hi] at g;cases g
    rw[tq hiσ] at B
    cases B
    exact⟨u,r, .inr ⟨.inl C,c,l,K⟩⟩
   ·rw[Qs (vi D)] at B
    obtain⟨u',r',q⟩:=hl j y v' g B Y
    refine⟨u',r',?_⟩
    rcases q with q|⟨k,S,e,z'⟩
    ·exact .inl q
    ·refine .inr ⟨k,S,e,z'.sameBut f ?_⟩
     rintro rfl
     exact D (uH hN g (I.ok.inj _ _ _ e l▸hi))
  ·by_cases R:S=c
   ·subst R;exact⟨_,K⟩
   ·obtain⟨w2,z2⟩:=I.cell y S e
    exact⟨w2,z2.sameBut f R⟩
  ·obtain⟨e,n,ne,U,d⟩:=I.pin p hp
   refine⟨(f.2 p.1 ?_).trans e,n,ne,U,d⟩
   intro q
   rw[q,O] at e
   have q':oc=p.2:=jc e
   exact d T (by rw[<- q'];exact L)
theorem kB{M:Jp}{E:Value->Shared->Prop}{Q:Unit->Shared->Prop}(I:Inv X pins σ H s)(hN:X.N.Nodup)(hi:X.N[i]?=some x)(hx:Loc X.env.scope x)(r:RelV v u)(h:∀s',Inv X pins (σ.set i v.3) H s'->Q () s')(hf:X.fn x=true\/X.env.scope.names.lookup x=some .local:=by first|exact .inl rfl|exact .inr rfl|assumption):wpAny M A (storeName X.env x u) Q E s:=
 rE I hN hi hx r (λs' I' _=>h s' I') hf
theorem Inv.call'(I:Inv X pins σ H s)(ho:s'.os=s.os)(u:Un (frs X.stack) ch H H' s.heap s'.heap)(hok:HOk X.prog X.w H' s'.heap)(hg:hJ s'.gens)(hch:∀b∈ch,(b∈X.ex\/X.s₀.heap.objs.size<=b)/\b≠X.env.locals/\(∀x c,X.env.cells.lookup x=some c->c≠b)/\∀p∈X.pn++pins,p.1≠b):Inv X pins σ H' s':=by
 obtain⟨d,g',d',t',a⟩:=s'
 have e:a=s.os:=ho
 subst e
 exact I.call (g':=g') (t':=t') (d':=d') u hok hg hch
end
abbrev XK:=Value->Option Addr->Hp->Prop
abbrev St:=List (Option V)
abbrev VK:=V->Hp->Prop
abbrev TE:=St->Hp->VK->Prop
abbrev TT:=St->Hp->(Bool->Hp->Prop)->Prop
abbrev TA:=St->Hp->(List V->Hp->Prop)->Prop
structure Ends where
 nx:St->Hp->Prop
 rt:VK
 bk:St->Hp->Prop:=λ_ _=>False
 ct:St->Hp->Prop:=λ_ _=>False
abbrev TS:=Ends->St->Hp->Prop
def EP(X:Cx)(pins:List '+')(σ:St)(Q:VK)(u:Value)(s':Shared):Prop:=∃v H',Inv X pins σ H' s'/\RelV v u/\Q v H'
def TP(X:Cx)(pins:List '+')(σ:St)(Q:Bool->Hp->Prop)(b:Bool)(s':Shared):Prop:=∃H',Inv X pins σ H' s'/\Q b H'
def AP(X:Cx)(pins:List '+')(σ:St)(Q:List V->Hp->Prop)(us:List Value)(s':Shared):Prop:=∃vs H',Inv X pins σ H' s'/\Vals vs us/\Q vs H'
def SP(X:Cx)(pins:List '+')(D:Ends)(f:Flow)(s':Shared):Prop:=
 match f with
 |.next=>∃σ' H',Inv X pins σ' H' s'/\D.nx σ' H'
 |.brk=>∃σ' H',Inv X pins σ' H' s'/\D.bk σ' H'
 |.cont=>∃σ' H',Inv X pins σ' H' s'/\D.ct σ' H'
 |.ret u=>∃v σ' H',Inv X pins σ' H' s'/\RelV v u/\D.rt v H'
def PE(X:Cx)(e:Expr)(t:TE):Prop:=
 ∀(pins:List '+') (s:Shared) (σ:St) (H:Hp) (Q:VK),Inv X pins σ H s->t σ H Q->wpAny X.w.6 X.A (eval e X.env) (EP X pins σ Q) X.xe s
def PT(X:Cx)(e:Expr)(t:TT):Prop:=
 ∀(pins:List '+') (s:Shared) (σ:St) (H:Hp) (Q:Bool->Hp->Prop),Inv X pins σ H s->t σ H Q->wpAny X.w.6 X.A (isTrue e X.env (eval e X.env)) (TP X pins σ Q) X.xe s
def PW(X:Cx)(e:Expr)(t:TT):Prop:=
 ∀(whole:Sem Value) (pins:List '+') (s:Shared) (σ:St) (H:Hp) (Q:Bool->Hp->Prop),Inv X pins σ H s->t σ H Q->wpAny X.w.6 X.A (isTrue e X.env whole) (TP X pins σ Q) X.xe s
def PA(X:Cx)(es:List Expr)(t:TA):Prop:=
 ∀(pos:Pos) (pins:List '+') (s:Shared) (σ:St) (H:Hp) (Q:List V->Hp->Prop),Inv X pins σ H s->t σ H Q->wpAny X.w.6 X.A (spliced (yg pos X.env.28)) (AP X pins σ Q) X.xe s
def PS(X:Cx)(st:Stmt)(t:TS):Prop:=
 ∀(pins:List '+') (s:Shared) (σ:St) (H:Hp) (D:Ends),Inv X pins σ H s->t D σ H->wpAny X.w.6 X.A (exec st X.env) (SP X pins D) X.xe s
def PSs(X:Cx)(st:List Stmt)(t:TS):Prop:=
 ∀(pins:List '+') (s:Shared) (σ:St) (H:Hp) (D:Ends),Inv X pins σ H s->t D σ H->wpAny X.w.6 X.A (execs st X.env) (SP X pins D) X.xe s
theorem thn{α:Type}{t:Sem α}{Q Q':α->Shared->Prop}{M:Jp}{E:Value->Shared->Prop}(h:wpAny M A t Q E s)(hQ:∀a s,Q a s->Q' a s):wpAny M A t Q' E s:=km h hQ λ_ _ x=>x
end L2
variable {σ:L2.St}{X:L2.Cx}{te ta:L2.TE}{r:L2.V->List L2.V->L2.Hp->L2.VK->Prop}{tt:L2.TT}
namespace L2
open PySem PySem.Spec PyProof.Rows
section
def tVar(i:Nat):TE:=λσ H Q=>∃v,σ[i]?=some v.3/\Q v H
def tC(v:V):TE:=λ_ H Q=>Q v H
theorem aJ1{pos:Pos}(hN:X.N[i]?=some x)(hv:Vis X.env.scope x)(hd: '5'=false:=by decide)(hcd:(x==("__classdict__" : Str))=false:=by decide):PE X (.Name x pos) (tVar i):=by
 show '#'
 obtain⟨v,e,h⟩:=h
 obtain⟨m,f,hl⟩:=I.loc
 obtain⟨u,r,l⟩:=hl i x v hN e hv
 have fin:EP X pins σ Q u s:=⟨v,H,I,r,h⟩
 rcases l with ⟨b,hm⟩|⟨b,c,d,a⟩
 ·exact JR (wpAny_loadName_local I.ok.kind b f hm fin) hd
 ·rcases b with b|b
  ·exact JR (wpAny_loadName_cell I.ok.kind b d a fin) hd
  ·exact JR (wpAny_loadName_free I.ok.kind b d a fin hcd) hd
theorem aJ8{i j pos}:PE X (.Constant (.int i) j pos) (tC (.int i)):=λ_ _ _ H _ I h=>wpAny_Constant_int ⟨.int i,H,I.tok _,⟨_,rfl⟩,h⟩
theorem aLF{b j pos}:PE X (.Constant (.bool b) j pos) (tC (.bl b)):=λ_ _ _ H _ I h=>Constant_bool ⟨.bl b,H,I,rfl,h⟩
theorem aIJ{j pos}:PE X (.Constant .none j pos) (tC .non):=λ_ _ _ H _ I h=>Constant_none ⟨.non,H,I,rfl,h⟩
theorem aKA{x j pos}:PE X (.Constant (.str x) j pos) (tC (.str x)):=λ_ _ _ H _ I h=>Calls.Constant_str ⟨.str x,H,I.tok _,⟨_,rfl⟩,h⟩
def Gl(X:Cx)(x:Str):Prop:=X.env.kindOf x=some .globalImplicit
theorem aFB{E:Value->Shared->Prop}{pos:Pos}{Q:Value->Shared->Prop}(I:Inv X pins σ H s)(hg:Gl X x)(hm:X.mg x=some u)(h:Q u s)(hd: '5'=false:=by decide):wpAny X.w.6 X.A (eval (.Name x pos) X.env) Q E s:=
 nj I.ok.kind hg (Calls.loadGlobal_global (by rw[I.ok.glob];exact I.mod.glob.keeps I.bk) hm h) hd
theorem iJ{E:Value->Shared->Prop}{pos:Pos}{Q:Value->Shared->Prop}(I:Inv X pins σ H s)(hg:Gl X x)(hm:X.mg x=none)(hv:ke x=some u)(h:Q u s)(hn:x ≠ "__name__" := by decide)(hd: '5'=false:=by decide):wpAny X.w.6 X.A (eval (.Name x pos) X.env) Q E s:=by
 obtain⟨c,b,a⟩:=I.mod.blt
 exact nj I.ok.kind hg (Calls.loadGlobal_builtin (by rw[I.ok.glob];exact I.mod.glob.keeps I.bk) hm (by rw[I.ok.blt];exact b.keeps I.bk) ((a x hn).trans hv) h) hd
theorem aFJ{pos:Pos}(hg:Gl X x)(hm:X.mg x=none)(hv:ke x=some u)(r:RelV v u)(hn:x ≠ "__name__" := by decide)(hd: '5'=false:=by decide):PE X (.Name x pos) (tC v):=
 λ_ _ _ H _ I h=>iJ I hg hm hv ⟨v,H,I,r,h⟩ hn hd
variable {a b:Expr}{tb:TE}{pos:Pos}
def tB(t:TE):TT:=λσ H Q=>t σ H λx H1=>∃c,x = .bl c/\Q c H1
theorem aH3{t:TE}(h:PE X e t)(he:∀whole,isTrue e X.env whole=(do let v <- whole;sf e.pos;yz [v] (truthy v)):=by intro _;rfl):PT X e (tB t):=by
 intro pins s σ H Q I hw
 refine isTrue_plain (thn (h pins s σ H _ I hw) λv s1 ⟨x,H1,I1,r1,a⟩ => ?_) (he _)
 obtain⟨d,rfl,q⟩:=a
 cases r1
 exact wpAny_truthy_bool ⟨H1,I1,q⟩
variable {tA tB':TT}{rest:List Expr}
def tAnd(t u:TT):TT:=λσ H Q=>t σ H λc H1=>if c=true then u σ H1 Q else Q false H1
def tOr(t u:TT):TT:=λσ H Q=>t σ H λc H1=>if c=true then Q true H1 else u σ H1 Q
def tNot(t:TT):TT:=λσ H Q=>t σ H λc H1=>Q (!c) H1
theorem aFY(ha:PT X a tA):PW X (.BoolOp .And [a] pos) tA:=by
 intro b pins s σ H Q I h
 refine isTrue_and (thn (ha pins s σ H Q I h) λc s1 e => ?_)
 cases c with
 |true=>exact isTrue_and_nil e
 |false=>exact e
theorem aIB(ha:PT X a tA):PW X (.BoolOp .Or [a] pos) tA:=by
 intro b pins s σ H Q I h
 refine isTrue_or (thn (ha pins s σ H Q I h) λc s1 e => ?_)
 cases c with
 |false=>exact isTrue_or_nil e
 |true=>exact e
theorem aJJ(ha:PT X a tA)(hb:PW X (.BoolOp .And (b::rest) pos) tB'):PW X (.BoolOp .And (a::b::rest) pos) (tAnd tA tB'):=by
 intro e pins s σ H Q I h
 refine isTrue_and (thn 'D' λc s1 ⟨H1,I1,d⟩ => ?_)
 cases c with
 |true=>exact hb e pins s1 σ H1 Q I1 d
 |false=>exact⟨H1,I1,d⟩
theorem aLY(ha:PT X a tA)(hb:PW X (.BoolOp .Or (b::rest) pos) tB'):PW X (.BoolOp .Or (a::b::rest) pos) (tOr tA tB'):=by
 intro e pins s σ H Q I h
 refine isTrue_or (thn 'D' λc s1 ⟨H1,I1,d⟩ => ?_)
 cases c with
 |true=>exact⟨H1,I1,d⟩
 |false=>exact hb e pins s1 σ H1 Q I1 d
theorem aI8(ha:PT X a tA):PT X (.UnaryOp .Not a pos) (tNot tA):=by
 show '#'
 exact isTrue_not (ha pins s σ H (λc H1=>Q (!c) H1) I h)
def aLD(ta tb:TE):TE:=λσ H Q=>ta σ H λx H1=>∃c,x = .bl c/\if c=true then tb σ H1 Q else Q (.bl false) H1
def tOrV(ta tb:TE):TE:=λσ H Q=>ta σ H λx H1=>∃c,x = .bl c/\if c=true then Q (.bl true) H1 else tb σ H1 Q
def aLX(ta:TE):TE:=λσ H Q=>ta σ H λx H1=>∃c,x = .bl c/\Q (.bl (!c)) H1
theorem aI5{op}{t:TE}(h:PE X a t):PE X (.BoolOp op [a] pos) t:=λpins s σ H Q I hw=>BoolOp_one (h pins s σ H Q I hw)
theorem aJK(ha:PE X a ta)(hb:PE X (.BoolOp .And (b::rest) pos) tb):PE X (.BoolOp .And (a::b::rest) pos) (aLD ta tb):=by
 show '#'
 refine BoolOp_and (thn 'D' λv s1 ⟨x,H1,I1,r1,d⟩ => ?_)
 obtain⟨c,rfl,d⟩:=d
 cases r1
 refine wpAny_truthy_bool ?_
 cases c with
 |true=>exact hb pins s1 σ H1 Q I1 d
 |false=>exact⟨.bl false,H1,I1,rfl,d⟩
theorem aLE(ha:PE X a ta)(hb:PE X (.BoolOp .Or (b::rest) pos) tb):PE X (.BoolOp .Or (a::b::rest) pos) (tOrV ta tb):=by
 show '#'
 refine BoolOp_or (thn 'D' λv s1 ⟨x,H1,I1,r1,d⟩ => ?_)
 obtain⟨c,rfl,d⟩:=d
 cases r1
 refine wpAny_truthy_bool ?_
 cases c with
 |false=>exact hb pins s1 σ H1 Q I1 d
 |true=>exact⟨.bl true,H1,I1,rfl,d⟩
theorem aJX(ha:PE X a ta):PE X (.UnaryOp .Not a pos) (aLX ta):=by
 show '#'
 refine UnaryOp_ (thn 'D' λv s1 ⟨x,H1,I1,r1,b⟩ => ?_)
 obtain⟨c,rfl,b⟩:=b
 cases r1
 exact not_of (wpAny_truthy_bool ⟨.bl (!c),H1,I1,rfl,b⟩)
def tIf(t:TT)(ta tb:TE):TE:=λσ H Q=>t σ H λc H1=>if c=true then ta σ H1 Q else tb σ H1 Q
theorem aCY(hc:PT X c tA)(ha:PE X a ta)(hb:PE X b tb):PE X (.IfExp c a b pos) (tIf tA ta tb):=by
 show '#'
 refine wpAny_IfExp (thn (hc pins s σ H _ I h) λd s1 ⟨H1,I1,e⟩ => ?_)
 cases d with
 |true=>exact ha pins s1 σ H1 Q I1 e
 |false=>exact hb pins s1 σ H1 Q I1 e
end
end L2
namespace L2
open PySem PySem.Spec PyProof.Rows
def SqL(K:qg)(H:Hp)(a:Addr)(xs:List V):Prop:=
 Rd H a (.lst xs) \/
  ∃(o:Obj) (its:Array Value) (n:Nat),K.lookup a=some o/\o.cls = .type "list" /\ o.dict=none/\o.data = .seq its n/\its.size<=sizeLine/\Vals xs its.toList
def SqT(K:qg)(H:Hp)(a:Addr)(xs:List V):Prop:=
 Rd H a (.tup xs) \/
  ∃(o:Obj) (its:Array Value) (n:Nat),K.lookup a=some o/\o.cls = .type "tuple" /\ o.dict=none/\o.data = .seq its n/\its.size<=sizeLine/\Vals xs its.toList
noncomputable def absV:Value->Option V
 |.none=>some .non
 |.bool b=>some (.bl b)
 |.int i _=>some (.int i)
 |.str x _=>some (.str x)
 |.bytes b _=>some (.byt b)
 |.float b _=>some (.flt b)
 |.ref a=>some (.ref a)
 |.type n=>some (.ty n)
 |_=>none
theorem RelV.abs{x:V}(r:RelV x u):absV u=some x:=by
 cases x with
 |non=>cases r;rfl
 |bl _=>cases r;rfl
 |int _=>obtain⟨t,rfl⟩:=r;rfl
 |str _=>obtain⟨t,rfl⟩:=r;rfl
 |byt _=>obtain⟨t,rfl⟩:=r;rfl
 |flt _=>obtain⟨t,rfl⟩:=r;rfl
 |ref _=>cases r;rfl
 |ty _=>cases r;rfl
theorem RelV.inj{x y:V}(r:RelV x u)(q:RelV y u):x=y:=jc (r.abs.symm.trans q.abs)
theorem Vals.inj:∀{xs ys:List V}{us:List Value},Vals xs us->Vals ys us->xs=ys
 |_,_,_, .nil, .nil=>rfl
 |_,_,_, .cons r t, .cons r' t'=>by rw[r.inj r',Vals.inj t t']
section
variable {xs ys:List V}
theorem SqL.of{K:qg}(h:H a=some (.lst xs)):SqL K H a xs := .inl (.inl h)
theorem SqT.of{K:qg}(h:H a=some (.tup xs)):SqT K H a xs := .inl (.inl h)
theorem Inv.list(I:Inv X pins σ H s)(h:SqL X.K H a xs):∃its:List Value,Vals xs its/\PlainL s.heap a its.toArray/\xs.length<=sizeLine:=by
 rcases h with h|⟨o,its,n,c,b,hd,d,f,r⟩
 ·obtain⟨z,its,n,r,e⟩:=h.ok I.hok
  exact⟨its,r,⟨_,n,e,rfl,rfl,rfl⟩,z⟩
 ·refine⟨its.toList,r,⟨o,n,I.kIn a o c,b,hd,by simpa using d⟩,?_⟩
  have e:=r.length
  simp only[qt] at e
  omega
theorem Inv.tuple(I:Inv X pins σ H s)(h:SqT X.K H a xs):∃its:List Value,Vals xs its/\IsTup s.heap a its.toArray/\xs.length<=sizeLine:=by
 rcases h with h|⟨o,its,n,c,b,_,d,f,r⟩
 ·obtain⟨z,its,r,p⟩:=h.ok I.hok
  exact⟨its,r,p.1,z⟩
 ·refine⟨its.toList,r,⟨o,I.kIn a o c,b,n,by simpa using d⟩,?_⟩
  have e:=r.length
  simp only[qt] at e
  omega
theorem Inv.tupD(I:Inv X pins σ H s)(h:SqT X.K H a xs):∃o,s.heap.get? a=some o/\o.dict=none:=by
 rcases h with h|⟨o,b,n,c,e,hd,f,d,r⟩
 ·obtain⟨z,b,r,p⟩:=h.ok I.hok
  exact p.2
 ·exact⟨o,I.kIn a o c,hd⟩
theorem Inv.list_inj(I:Inv X pins σ H s)(h:SqL X.K H a xs)(h':SqL X.K H a ys):xs=ys:=by
 obtain⟨c,r,⟨o,n,e,_,_,d⟩,_⟩:=I.list h
 obtain⟨b,i,⟨k,j,f,_,_,g⟩,_⟩:=I.list h'
 rw[e] at f;cases f
 rw[d] at g
 injection g with d1 _
 have:c=b:=by simpa using congrArg JM d1
 subst this
 exact r.inj i
theorem Inv.tuple_inj(I:Inv X pins σ H s)(h:SqT X.K H a xs)(h':SqT X.K H a ys):xs=ys:=by
 obtain⟨c,r,⟨o,e,_,n,d⟩,_⟩:=I.tuple h
 obtain⟨b,i,⟨k,f,_,j,g⟩,_⟩:=I.tuple h'
 rw[e] at f;cases f
 rw[d] at g
 injection g with d1 _
 have:c=b:=by simpa using congrArg JM d1
 subst this
 exact r.inj i
end
abbrev Cx.wish(X:Cx)(E:Value->Shared->Prop):Cx:={X with xe:=E}
abbrev Cx.nox(X:Cx):Cx:=X.wish λ_ _=>False
theorem Cx.Ok.wish(ok:X.Ok)(E:Value->Shared->Prop):(X.wish E).Ok:=
 ⟨ok.mod,ok.kind,ok.glob,ok.blt,ok.above,ok.inj,ok.has,ok.cab,ok.hd,ok.frames,ok.stk,ok.exf,ok.bs,ok.bsz,ok.noex,ok.exfs,ok.funs,ok.frf⟩
theorem Cx.Ok.unwish{E:Value->Shared->Prop}(ok:(X.wish E).Ok):X.Ok:=
 ⟨ok.mod,ok.kind,ok.glob,ok.blt,ok.above,ok.inj,ok.has,ok.cab,ok.hd,ok.frames,ok.stk,ok.exf,ok.bs,ok.bsz,ok.noex,ok.exfs,ok.funs,ok.frf⟩
section
variable {E:Value->Shared->Prop}
theorem Inv.wish(I:Inv X pins σ H s)(E:Value->Shared->Prop):Inv (X.wish E) pins σ H s:=⟨I.ok.wish E,I.os,I.bare,I.base,I.loc,I.cell,I.free,I.freeC,I.pin,I.hok,I.len⟩
theorem Inv.unwish(I:Inv (X.wish E) pins σ H s):Inv X pins σ H s:=⟨I.ok.unwish,I.os,I.bare,I.base,I.loc,I.cell,I.free,I.freeC,I.pin,I.hok,I.len⟩
theorem SP.unwish{D:Ends}{f:Flow}(h:SP (X.wish E) pins D f s'):SP X pins D f s':=by
 cases f with
 |next=>obtain⟨σ',H',I,q⟩:=h;exact⟨σ',H',I.unwish,q⟩
 |brk=>obtain⟨σ',H',I,q⟩:=h;exact⟨σ',H',I.unwish,q⟩
 |cont=>obtain⟨σ',H',I,q⟩:=h;exact⟨σ',H',I.unwish,q⟩
 |ret u=>obtain⟨v,σ',H',I,r,q⟩:=h;exact⟨v,σ',H',I.unwish,r,q⟩
theorem PSs.nox{st:List Stmt}{t:TS}(h:PSs X.nox st t):PSs X st t:=λpins s σ H D I hw =>
 km (h pins s σ H D (I.wish _) hw) (λ_ _ q=>q.unwish) λ_ _ z=>vn z
end
section
variable {rest:List Stmt}{t u:TS}{pos:Pos}
def aLQ:TS:=λD σ H=>D.nx σ H
def tSeq(t u:TS):TS:=λD σ H=>t {D with nx:=u D} σ H
theorem aFZ:PSs X [] aLQ:=λ_ _ σ H _ I h=>gb ⟨σ,H,I,h⟩
theorem aC8(h1:PS X st t)(h2:PSs X rest u):PSs X (st::rest) (tSeq t u):=by
 intro pins s σ H D I h
 refine Kf (thn (h1 pins s σ H {D with nx:=u D} I h) λf s1 q => ?_)
 cases f with
 |next =>
  obtain⟨σ',H',I',q⟩:=q
  exact h2 pins s1 σ' H' D I' q
 |ret v=>exact q
 |brk=>exact q
 |cont=>exact q
theorem aFD(h1:PS X st t):PSs X [st] t:=by
 intro pins s σ H D I h
 refine Kf (thn (h1 pins s σ H D I h) λf s1 q => ?_)
 cases f with
 |next=>exact gb q
 |ret v=>exact q
 |brk=>exact q
 |cont=>exact q
theorem Inv.quiet(I:Inv X pins σ H s):interactive X.env=false:=by simp[interactive,I.ok.kind]
def aLZ(te:TE):TS:=λD σ H=>te σ H λ_ H1=>D.nx σ H1
theorem aG3(he:PE X e te)(hs:fS e none pos.line X.env=pure false:=by rfl):PS X (.Expr e pos) (aLZ te):=by
 intro pins s σ H D I h
 exact wpAny_Expr_any (thn (he pins s σ H _ I h) λv s1 ⟨x,H1,I1,r1,a⟩=>⟨σ,H1,I1,a⟩) I.quiet hs
def tRet(te:TE):TS:=λD σ H=>te σ H D.rt
theorem aJT(he:PE X e te):PS X (.Return e.3 pos) (tRet te):=by
 intro pins s σ H D I h
 exact wpAny_Return_some (thn (he pins s σ H _ I h) λv s1 ⟨x,H1,I1,r1,q1⟩=>⟨x,σ,H1,I1,r1,q1⟩)
def tIfS(c:TT)(t u:TS):TS:=λD σ H=>c σ H λb H1=>if b=true then t D σ H1 else u D σ H1
theorem aKQ{a b:List Stmt}{tc:TT}(hc:PT X c tc)(ha:PSs X a t)(hb:PSs X b u):PS X (.If c a b pos) (tIfS tc t u):=by
 intro pins s σ H D I h
 refine wpAny_If (thn (hc pins s σ H _ I h) λd s1 ⟨H1,I1,e⟩ => ?_)
 cases d with
 |true=>exact ha pins s1 σ H1 D I1 e
 |false=>exact hb pins s1 σ H1 D I1 e
end
abbrev TG:=V->St->Hp->(St->Hp->Prop)->Prop
abbrev TGs:=List V->St->Hp->(St->Hp->Prop)->Prop
def PG(X:Cx)(target:Expr)(t:TG):Prop:=
 ∀(pins:List '+') (s:Shared) (σ:St) (H:Hp) (v:V) (u:Value) (Q:St->Hp->Prop),Inv X pins σ H s->RelV v u->t v σ H Q ->
  wpAny X.w.6 X.A (assign target X.env u) (λ_ s'=>∃σ' H',Inv X pins σ' H' s'/\Q σ' H') X.xe s
def PGs(X:Cx)(ts:List Expr)(t:TGs):Prop:=
 ∀(pins:List '+') (s:Shared) (σ:St) (H:Hp) (vs:List V) (us:List Value) (Q:St->Hp->Prop),Inv X pins σ H s->Vals vs us->t vs σ H Q ->
  wpAny X.w.6 X.A (mj ((wh ts X.env).map (·.2)) us) (λ_ s'=>∃σ' H',Inv X pins σ' H' s'/\Q σ' H') X.xe s
abbrev TSet:=V->V->V->Hp->(Hp->Prop)->Prop
def PSet(X:Cx)(t:TSet):Prop:=
 ∀(pins:List '+') (s:Shared) (σ:St) (H:Hp) (o i v:V) (ov iv u:Value) (Q:Hp->Prop),Inv X pins σ H s->RelV o ov->RelV i iv->RelV v u->t o i v H Q ->
  wpAny X.w.6 X.A (Jq ov iv u) (λ_ s'=>∃H',Inv X pins σ H' s'/\Q H') X.xe s
section
variable {pos:Pos}
def oE(i:Nat):TG:=λv σ H Q=>Q (σ.set i v.3) H
theorem vK(hN:X.N.Nodup)(hi:X.N[i]?=some x)(hx:Loc X.env.scope x)(hf:X.fn x=true\/X.env.scope.names.lookup x=some .local:=by first|exact .inl rfl|exact .inr rfl|assumption):PG X (.Name x pos) (oE i):=by
 intro pins s σ H v u Q I r h
 exact JT (kB I hN hi hx r (λa I'=>⟨_,H,I',h⟩) hf)
def gNil:TGs:=λvs σ H Q=>vs=[]/\Q σ H
def aLP(t:TG)(u:TGs):TGs:=λvs σ H Q=>∃v r,vs=v::r/\t v σ H λσ' H'=>u r σ' H' Q
theorem aFV:PGs X [] gNil:=by
 intro pins s σ H vs us Q I r h
 obtain⟨e,h⟩:=h
 subst e
 cases r
 exact JU ⟨σ,H,I,h⟩
theorem aC5{t:TG}{u:TGs}(h1:PG X e t)(h2:PGs X es u)(hs:(wh (e::es) X.env).map (·.2)=assign e X.env::(wh es X.env).map (·.2):=by rfl):PGs X (e::es) (aLP t u):=by
 intro pins s σ H vs us Q I r h
 obtain⟨v,c,a,h⟩:=h
 subst a
 cases r with
 |cons r rr =>
  rw[hs]
  refine mn (thn (h1 pins s σ H _ _ _ I r h) λ_ s1 ⟨σ1,H1,I1,b⟩ => ?_)
  exact h2 pins s1 σ1 H1 _ _ Q I1 rr b
def gTup(K:qg)(n:Nat)(t:TGs):TG:=λv σ H Q=>∃a xs,v = .ref a/\SqT K H a xs/\xs.length=n/\t xs σ H Q
theorem aIQ{k:Nat}{t:TGs}(hc:X.calm=true)(h:PGs X es t)(hn:(wh es X.env).length=n:=by rfl)(hst:(wh es X.env).findIdx? (·.1)=none:=by rfl):PG X (.Tuple es k pos) (gTup X.K n t):=by
 intro pins s σ H v u Q I r hw
 obtain⟨a,xs,j,g,hl,hw⟩:=hw
 subst j
 cases r
 obtain⟨f,c,i,m⟩:=I.tuple g
 refine assign_Tuple_tuple (I.ok.hd hc) i (by simp[hn,<- hl,c.length]) hst λl d => ?_
 have I1:Inv X pins σ H {s with heap:=l}:=I.kept (t':=s.toks) λb o e=>d b o (q3 (qr e)) e
 exact h pins _ σ H xs _ Q I1 (by simpa using c) hw
def gSub(to ti:TE)(t:TSet):TG:=λv σ H Q=>to σ H λo H1=>ti σ H1 λi H2=>t o i v H2 λH3=>Q σ H3
theorem tQ{i:Expr}{to ti:TE}{t:TSet}(ho:PE X o to)(hi:PE X i ti)(hs:PSet X t)(ha:∀v,assign (.Subscript o i pos) X.env v=(do
   let ov <- yz [v] (eval o X.env)
   let iv <- yz [v,ov] (eval i X.env)
   sf pos
   yz [v,ov,iv] (Jq ov iv v)
   Vg [v,ov,iv] []):=by intro _;rfl):PG X (.Subscript o i pos) (gSub to ti t):=by
 intro pins s σ H v u Q I r h
 rw[ha]
 refine qa (ve (thn (ho pins s σ H _ I h) λov s1 ⟨x,H1,I1,r1,b⟩ => ?_))
 refine qa (ve (thn (hi pins s1 σ H1 _ I1 b) λiv s2 ⟨y,H2,I2,r2,c⟩ => ?_))
 refine qa (fe (qa (ve (thn (hs pins s2 σ H2 x y v ov iv u _ I2 r1 r2 r c) λ_ s3 ⟨H3,I3,a⟩ => ?_))))
 exact wpAny_release ⟨σ,H3,I3,a⟩
def xW(te:TE)(g:TG):TS:=λD σ H=>te σ H λx H1=>g x σ H1 D.nx
theorem aIS{g:TG}(he:PE X e te)(hg:PG X tg g)(hs:mf [tg] e pos.line X.env=pure false:=by rfl)(hw:mh [tg] e X.env=pure none:=by rfl)(h1:(wh [tg] X.env).map (·.2)=[assign tg X.env]:=by rfl):PS X (.Assign [tg] e pos) (xW te g):=by
 intro pins s σ H D I h
 refine wpAny_Assign_stores (thn (he pins s σ H _ I h) λv s1 ⟨x,H1,I1,r1,a⟩ => ?_) hs hw
 rw[h1]
 exact thn (hg pins s1 σ H1 x v _ I1 r1 a) λ_ s2 q=>q
theorem aJ0(hN:X.N.Nodup)(hi:X.N[i]?=some x)(hx:Loc X.env.scope x)(he:PE X e te)(hs:fS e (.Name x pos').3 pos.line X.env=pure false:=by rfl)(hf:X.fn x=true\/X.env.scope.names.lookup x=some .local:=by first|exact .inl rfl|exact .inr rfl|assumption):
  PS X (.Assign [.Name x pos'] e pos) (xW te (oE i)):=by
 intro pins s σ H D I h
 refine wpAny_Assign_Name (thn (he pins s σ H _ I h) λv s1 ⟨y,H1,I1,r1,a⟩ => ?_) hs
 exact kB I1 hN hi hx r1 (λs2 I2=>⟨_,H1,I2,a⟩) hf
def tPar(i j:Nat)(ta:TA):TS:=λD σ H=>ta σ H λvs H1=>∃v w,vs=[v,w]/\D.nx ((σ.set i v.3).set j w.3) H1
theorem aH4{y:Str}{a b:Expr}{ta:TA}{pt:Pos}{kt k2 pt2}(hc:X.calm=true)(hN:X.N.Nodup)(hi:X.N[i]?=some x)(hj:X.N[j]?=some y)(hij:i≠j)(hx:X.env.scope.names.lookup x=some .local)(hy:X.env.scope.names.lookup y=some .local)(ha:PA X [a,b] ta)(hw:mh [.Tuple [.Name x px, .Name y py] kt pt] (.Tuple [a,b] k2 pt2) X.env=pure (some [x,y]))(hs:mf [.Tuple [.Name x px, .Name y py] kt pt] (.Tuple [a,b] k2 pt2) pos.line X.env=pure false:=by rfl):
  PS X (.Assign [.Tuple [.Name x px, .Name y py] kt pt] (.Tuple [a,b] k2 pt2) pos) (tPar i j ta):=by
 intro pins s σ H D I h
 rw[exec_Assign_arm]
 refine qa (fe ?_)
 rw[hs]
 refine qa ?_.14
 rw[if_neg '$']
 refine qa (Tuple_ (thn (ha _ pins s σ H _ I h) λus s1 ⟨vs,H1,I1,r1,k⟩ => ?_))
 obtain⟨v,w,l,k⟩:=k
 subst l
 obtain⟨d,c,rfl,m,f⟩:∃d c,us=[d,c]/\RelV v d/\RelV w c:=by
  cases r1 with
  |cons p q =>
   cases q with
   |cons p' q' =>
    cases q'
    exact⟨_,_,rfl,p,p'⟩
 refine yq ?_ (by show 2<=sizeLine;decide)
 have I2:Inv X pins σ H1 {s1 with heap:=s1.heap.push {cls := .type "tuple", data := .seq [d,c].toArray} }:=I1.kept (t':=s1.toks) λb o e=>qf _ e
 rw[hw]
 refine qa ?_.14
 show wpAny X.w.6 X.A (do rule "assign.swapped-stores"; let items <- unpackItems (.ref s1.heap.objs.size) 2 none;mj [λv=>JC X.env y v,λv=>JC X.env x v] items.reverse;pure Vw) _ _ _
 refine qa (zp (qa (unpackItems_tuple (items := #[d,c]) (I.ok.hd hc) (Vn s1.heap _) λh' g => ?_)))
 have I3:=I2.kept (h':=h') (t':=s1.toks) λb o e=>g b o (q3 (qr e)) e
 show wpAny _ _ (mj [λv=>JC X.env y v,λv=>JC X.env x v] [c,d] >>= λ_=>pure Vw) _ _ _
 refine qa (mn (Vr (kB I3 hN hj (.inl hy) f (λs2 I4 => ?_) (.inr hy))))
 refine mn (Vr (kB I4 hN hi (.inl hx) m (λs3 I5=>JU ?_.14) (.inr hx)))
 rw[List.set_comm _ _ (vi hij)] at I5
 exact⟨_,H1,I5,k⟩
end
section
variable {pos:Pos}
def aKH(c:TT)(tb:TS):TS:=λD σ H=>∃W:Nat->St->Hp->Prop,(∃m,W m σ H)/\∀m σ H,W m σ H ->
 c σ H λb H1=>if b=true then ∃N:St->Hp->Prop,(∀σ' H',N σ' H'->∃m',m'<m/\W m' σ' H')/\tb {D with nx:=N,ct:=N,bk:=D.nx} σ H1 else D.nx σ H1
theorem aCU{body:List Stmt}{tc:TT}{tb:TS}(hp:sj X.w.6 X.A X.env X.xe)(hc:PT X c tc)(hb:PSs X body tb):PS X (.While c body [] pos) (aKH tc tb):=by
 intro pins s σ H D I h
 obtain⟨W,⟨m0,l⟩,turn⟩:=h
 refine wpAny_While (codeAny_whileLoop (λn k=>∃σ' H',Inv X pins σ' H' k/\W n σ' H') ?_ m0 ⟨σ,H,I,l⟩)
 rintro n s1 ⟨σ1,H1,I1,m⟩
 refine yk hp (thn (hc pins s1 σ1 H1 _ I1 (turn n σ1 H1 m)) λb s2 ⟨H2,I2,d⟩ => ?_)
 cases b with
 |true =>
  obtain⟨N,j,d⟩:=d
  rw[if_pos rfl]
  refine yk hp (thn (hb pins s2 σ1 H2 _ I2 d) λf s3 a => ?_)
  cases f with
  |next =>
   obtain⟨σ3,H3,I3,g⟩:=a
   obtain⟨i,hm,e⟩:=j σ3 H3 g
   exact⟨i,hm,σ3,H3,I3,e⟩
  |cont =>
   obtain⟨σ3,H3,I3,g⟩:=a
   obtain⟨i,hm,e⟩:=j σ3 H3 g
   exact⟨i,hm,σ3,H3,I3,e⟩
  |brk=>exact a
  |ret v=>exact a
 |false =>
  rw[if_neg zBf]
  exact gb ⟨σ1,H2,I2,d⟩
end
structure It where
 go:Nat->Hp->Prop
 yld:Nat->Hp->V->Hp->Prop
 stop:Nat->Hp->Prop
def eR(X:Cx)(pins:List '+')(H:Hp)(b:Addr):Prop:=
 H b=none/\b≠X.env.locals/\b∉X.fs/\(b∈X.ex\/X.s₀.heap.objs.size<=b)/\(∀x c,X.env.cells.lookup x=some c->c≠b)/\∀p∈X.pn++pins,p.1≠b
theorem Inv.fpOk(I:Inv X pins σ H s)(hb:s.heap.objs.size<=b)(hn:H' b=none):eR X pins H' b:=by
 refine⟨hn,y5 (qw I.lt hb),I.nofs hb, .inr (jw I.sz hb),λx c e z => ?_,λp a z => ?_⟩
 ·obtain⟨v,q⟩:=I.cell x c e
  exact absurd (qw q.lt (by rw[z];exact hb)) (vm _)
 ·exact absurd (qw (qr (I.pin p a).1) (by rw[z];exact hb)) (vm _)
structure Turn(P:Program)(w:World)(K:qg)(tg:Expr)(J:It)(fp:List Addr)(it:Addr)(tn:Nat->Heap->Prop):Prop where
 mem:it∈fp
 obj:∀i h,tn i h->∀b∈fp,∃o,h.get? b=some o/\∀v,o.data ≠ .cell v
 keep:∀i h h',tn i h->(∀b∈fp,∀o,h.get? b=some o->h'.get? b=some o)->tn i h'
 item:∀(X:Cx),X.prog=P->X.w=w->X.K=K->X.calm=true->∀(i:Nat) (pins:List '+') (s:Shared) (σ:St) (H:Hp) (E:Value->Shared->Prop),Inv X pins σ H s->(∀b∈fp,eR X pins H b)->tn i s.heap->J.go i H ->
  wpAny (ja P w) X.A (rq (.ref it)) (λr s1=>∃u,r=some u /\
   wpAny (ja P w) X.A (gh tg (.ref it) u) (λ_ s2=>∃x H',Inv X pins σ H' s2/\RelV x u/\J.yld i H x H'/\tn (i+1) s2.heap/\∀b∈fp,H' b=none) E s1) E s
 done:∀(X:Cx),X.prog=P->X.w=w->X.K=K->X.calm=true->∀(i:Nat) (pins:List '+') (s:Shared) (σ:St) (H:Hp) (E:Value->Shared->Prop),Inv X pins σ H s->(∀b∈fp,eR X pins H b)->tn i s.heap->J.stop i H ->
  wpAny (ja P w) X.A (rq (.ref it)) (λr s1=>r=none/\Inv X pins σ H s1) E s
 self:∀(A:Around) (i:Nat) (s:Shared) (Q:Value->Shared->Prop) (E:Value->Shared->Prop),tn i s.heap->Q (.ref it) s->wpAny (ja P w) A (Vf (.ref it)) Q E s
abbrev TI:=St->Hp->(It->Hp->Prop)->Prop
def PIE(X:Cx)(pins:List '+')(σ:St)(tg:Expr)(R:It->Hp->Prop)(itv:Value)(s2:Shared):Prop:=
 ∃(it:Addr) (fp:List Addr) (tn:Nat->Heap->Prop) (J:It) (H':Hp),itv = .ref it/\Inv X pins σ H' s2/\Turn X.prog X.w X.K tg J fp it tn/\tn 0 s2.heap/\(∀b∈fp,eR X pins H' b)/\R J H'
def PI(X:Cx)(tg iter:Expr)(wi:TI):Prop:=
 ∀(pins:List '+') (s:Shared) (σ:St) (H:Hp) (R:It->Hp->Prop),Inv X pins σ H s->wi σ H R ->
  wpAny X.w.6 X.A (eval iter X.env) (λv s1=>wpAny X.w.6 X.A (Vf v) (PIE X pins σ tg R) X.xe s1) X.xe s
theorem yI{M:Jp}{E:Value->Shared->Prop}{o:Obj}{n:String}{vs:Array Value}{Q:Unit->Shared->Prop}(ho:s.heap.get? it=some o)(hc:o.cls = .type n)(hd:o.data = .fields vs)(hn:["enumerate", "zip", "dict_itemiterator", "dict_reverseitemiterator", "odict_iterator", "itertools.zip_longest", "itertools.pairwise"].contains n=false)(hQ:Q () s):wpAny M A (gh tg (.ref it) u) Q E s:=by
  unfold gh
  cases tg <;> first
    |exact wpAny_pure hQ
    | (cases u <;> first
        |exact wpAny_pure hQ
        | (refine qa (wpAny_load ho ?_)
           rw[hc,hd]
           show wpAny M A (if (["enumerate", "zip", "dict_itemiterator", "dict_reverseitemiterator", "odict_iterator", "itertools.zip_longest", "itertools.pairwise"].contains n&&vs[0]?==some (rawInt _))=true then _ else _) Q E s
           rw[if_neg (by intro h;rw[hn,Bool.false_and] at h;cases h)]
           exact wpAny_pure hQ))
def Itl(K:qg)(a:Addr):It:=
 ⟨λi H=>∃xs x,SqL K H a xs/\xs[i]?=some x,λi H x H'=>H'=H/\∀xs,SqL K H a xs->xs[i]?=some x,λi H=>∃xs,SqL K H a xs/\xs.length<=i⟩
def Itt(K:qg)(a:Addr):It:=
 ⟨λi H=>∃xs x,SqT K H a xs/\xs[i]?=some x,λi H x H'=>H'=H/\∀xs,SqT K H a xs->xs[i]?=some x,λi H=>∃xs,SqT K H a xs/\xs.length<=i⟩
def Itr(lo:Int)(n:Nat):It:=⟨λi _=>i<n,λi H x H'=>H'=H/\x = .int (lo+i),λi _=>n<=i⟩
theorem zW{K:qg}(a it:Addr):Turn P w K tg (Itl K a) [it] it (λi h=>h.IsListIter it a i) where
 mem:=by simp
 obj:=λi h st b f=>by
  have e:b=it:=by simpa using f
  subst e
  obtain⟨o,e,c,d⟩:=st
  exact⟨o,e,λv z=>by rw[d] at z;cases z⟩
 keep:=λi h l st k=>st.at λo e=>k it '*' o e
 item:=by
  intro X r hw m C i pins s σ H E I hf st B
  subst r hw m
  obtain⟨xs,x,j,y⟩:=B
  obtain⟨q,t,p,L⟩:=I.list j
  obtain⟨u,G,F⟩:=t.get y
  obtain⟨f0,f1,f2,A,f4,n⟩:=hf it '*'
  refine wpAny_pyNext_list_item st p.isList (x:=u) (by simpa using G) λl g J => ?_
  have I1:Inv X pins σ H {s with heap:=l}:=I.turned (t':=s.toks) (λb o f e=>(J.2 b f).trans e) f0 f1 A f4 n
  obtain⟨o,e,c,d⟩:=id g
  exact⟨u,rfl,yI (s:={s with heap:=l}) e c d '$' ⟨x,H,I1,F,⟨rfl,λN M=>by rw[I.list_inj M j];exact y⟩,g,λb f=>(hf b f).1⟩⟩
 done:=by
  intro X r hw m C i pins s σ H E I hf st B
  subst r hw m
  obtain⟨xs,j,y⟩:=B
  obtain⟨q,t,p,L⟩:=I.list j
  obtain⟨f0,f1,f2,A,f4,n⟩:=hf it '*'
  have hl:=t.length
  exact wpAny_pyNext_list_end (I.ok.hd C) st p.isList (by simp;omega) λl D=>⟨rfl,I.turned (t':=s.toks) (λb o f e=>D b o f e) f0 f1 A f4 n⟩
 self:=λ_ _ _ _ _ st h=>wpAny_pyIter_listiter st h
theorem yJ{K:qg}(a it:Addr):Turn P w K tg (Itt K a) [it] it (λi h=>h.IsTupleIter it a i) where
 mem:=by simp
 obj:=λi h st b g=>by
  have e:b=it:=by simpa using g
  subst e
  obtain⟨o,e,c,d⟩:=st
  exact⟨o,e,λv z=>by rw[d] at z;cases z⟩
 keep:=λi h m st k=>st.at λo e=>k it '*' o e
 item:=by
  intro X r hw n C i pins s σ H E I hf st B
  subst r hw n
  obtain⟨xs,x,l,y⟩:=B
  obtain⟨f,t,p,L⟩:=I.tuple l
  obtain⟨u,G,F⟩:=t.get y
  obtain⟨f0,f1,f2,A,f4,q⟩:=hf it '*'
  refine wpAny_pyNext_tuple_item st (show s.heap.IsTuple a f.toArray from p) (x:=u) (by simpa using G) λm j J => ?_
  have I1:Inv X pins σ H {s with heap:=m}:=I.turned (t':=s.toks) (λb o g e=>(J.2 b g).trans e) f0 f1 A f4 q
  obtain⟨o,e,c,d⟩:=id j
  exact⟨u,rfl,yI (s:={s with heap:=m}) e c d '$' ⟨x,H,I1,F,⟨rfl,λN M=>by rw[I.tuple_inj M l];exact y⟩,j,λb g=>(hf b g).1⟩⟩
 done:=by
  intro X r hw n C i pins s σ H E I hf st B
  subst r hw n
  obtain⟨xs,l,y⟩:=B
  obtain⟨f,t,p,L⟩:=I.tuple l
  obtain⟨f0,f1,f2,A,f4,q⟩:=hf it '*'
  have hl:=t.length
  exact wpAny_pyNext_tuple_end (I.ok.hd C) st (show s.heap.IsTuple a f.toArray from p) (by simp;omega) λm D=>⟨rfl,I.turned (t':=s.toks) (λb o g e=>D b o g e) f0 f1 A f4 q⟩
 self:=λ_ _ _ _ _ st h=>wpAny_pyIter_tupleiter st h
theorem xI{K:qg}(it:Addr)(lo:Int)(n:Nat):Turn P w K tg (Itr lo n) [it] it (λi h=>IsRangeIter h it (lo+(i:Nat)*1) ((n:Int)-(i:Nat)) 1) where
 mem:=by simp
 obj:=λi h st b a=>by
  have e:b=it:=by simpa using a
  subst e
  exact⟨_,st,λv z=>by
   have u:Kr _=Data.cell v:=z
   cases u⟩
 keep:=λi h d st k=>k it '*' _ st
 item:=by
  intro X g hw f m i pins s σ H E I hf st p
  subst g hw f
  obtain⟨f0,f1,f2,j,f4,l⟩:=hf it '*'
  have W:=Walks.range (prog:=X.prog) (w:=X.w) (I.ok.hd m) it lo 1 n
  refine W.item i s _ _ p st λv d q y c x => ?_
  obtain⟨t,rfl⟩:=y
  have I1:Inv X pins σ H {s with heap:=d,toks:=q}:=I.turned (λb o a e=>x b o (by simpa using a) e) f0 f1 j f4 l
  refine⟨_,rfl,yI (s:={s with heap:=d,toks:=q}) (n := "range_iterator") c rfl rfl '$' ⟨.int (lo+i),H,I1,⟨t,?_⟩,⟨rfl,rfl⟩,c,λb a=>(hf b a).1⟩⟩
  rw[Int.mul_one]
 done:=by
  intro X g hw f m i pins s σ H E I hf st p
  subst g hw f
  obtain⟨f0,f1,f2,j,f4,l⟩:=hf it '*'
  exact wpAny_pyNext_range_end (I.ok.hd m) st (by have:n<=i:=p;omega) λd r=>⟨rfl,I.turned (t':=s.toks) (λb o a e=>r b o a e) f0 f1 j f4 l⟩
 self:=λ_ _ _ _ _ st h=>wpAny_pyIter_rangeiter st h
end L2
variable {wi:L2.TI}
namespace L2
open PySem PySem.Spec PyProof.Rows
section
theorem aB7{R:It->Hp->Prop}{E:Value->Shared->Prop}{lo hi:Int}{t u v:Tok}{tk:Nat}(I:Inv X pins σ H s)(h1 : -(2^62)<=lo)(h2:lo<2^62)(h3 : -(2^62)<=hi)(h4:hi<2^62)(q:R (Itr lo (hi-lo).toNat) H):wpAny X.w.6 X.A (Vf (.ref s.heap.objs.size)) (PIE X pins σ tg R) E {s with heap:=s.heap.push {cls := .type "range", data := .fields #[.int lo t, .int hi u, .int 1 v]},toks:=tk}:=by
 refine wpAny_pyIter_range (IsRange.new ..) (small_one h1 h2 h3 h4) ?_
 have I1:Inv X pins σ H {s with heap:=s.heap.push {cls := .type "range", data := .fields #[.int lo t, .int hi u, .int 1 v]},toks:=tk}:=I.kept λb o e=>qf _ e
 refine⟨(s.heap.push {cls := .type "range", data := .fields #[.int lo t, .int hi u, .int 1 v]}).objs.size,[(s.heap.push {cls := .type "range", data := .fields #[.int lo t, .int hi u, .int 1 v]}).objs.size],_,_,H,rfl,
  I1.kept (t':=tk) λb o e=>qf _ e,xI _ lo (hi-lo).toNat,?_,λb d => ?_,q⟩
 ·have c:lo+((0:Nat):Int)*1=lo:=by simp
  have a:(((hi-lo).toNat:Nat):Int)-((0:Nat):Int)=Kd lo hi 1:=by rw[rangeSize_one];split <;> omega
  show IsRangeIter _ _ (lo+((0:Nat):Int)*1) ((((hi-lo).toNat:Nat):Int)-((0:Nat):Int)) 1
  rw[c,a]
  exact qq _ rfl
 ·have e:b=(s.heap.push {cls := .type "range", data := .fields #[.int lo t, .int hi u, .int 1 v]}).objs.size:=by simpa using d
  subst e
  exact I1.fpOk (qo _) (I1.hok.fresh (qo _))
def aKO(ta:TA):TI:=λσ H R=>ta σ H λvs H1=>∃j:Int,vs=[.int j] /\ -(2^62)<=j/\j<2^62/\R (Itr 0 j.toNat) H1
theorem zO{a:Expr}{ta:TA}{p pos:Pos}(hg:Gl X "range")(hm:X.mg "range" = none)(ha:PA X [a] ta)(hs:starEach [a] X.env=[(false,eval a X.env)]:=by rfl):PI X tg (.Call (.Name "range" p) [a] [] pos) (aKO ta):=by
 intro pins s σ H R I h
 refine Call_ (iJ I hg hm boot_range (x6 (thn (ha pos pins s σ H _ I h) λus s1 ⟨vs,H1,I1,r1,b⟩ => ?_) hs rfl))
 obtain⟨j,e,b,c,q⟩:=b
 subst e
 cases r1 with
 |cons r rr =>
  cases rr
  obtain⟨t,rfl⟩:=r
  exact call_range_1 (aB7 I1 '!' '!' b c (by simpa using q))
def tFor(wi:TI)(g:TG)(tb:TS):TS:=λD σ H=>wi σ H λJ H1=>∃W:Nat->Nat->St->Hp->Prop,(∃m,W 0 m σ H1)/\∀i m σ H,W i m σ H ->
 (J.stop i H/\D.nx σ H)\/(J.go i H/\∃N:St->Hp->Prop,(∀σ' H',N σ' H'->∃m',m'<m/\W (i+1) m' σ' H')/\∀x H',J.yld i H x H'->g x σ H' λσ2 H2=>tb {D with nx:=N,ct:=N,bk:=D.nx} σ2 H2)
noncomputable def lL(fp:List Addr)(h:Heap):List '+':=fp.filterMap λb=>(h.get? b).map λo=>(b,o)
theorem hC{o:Obj}(hb:b∈fp)(e:h.get? b=some o):(b,o)∈lL fp h:=QP.mpr ⟨b,hb,by rw[e];rfl⟩
theorem aBQ{p:Addr×Obj}(hp:p∈lL fp h):p.1∈fp/\h.get? p.1=some p.2:=by
 obtain⟨b,c,e⟩:=QP.mp hp
 cases q:h.get? b with
 |none=>rw[q] at e;cases e
 |some o =>
  rw[q] at e
  have a:(b,o)=p:=jc e
  subst a
  exact⟨c,q⟩
theorem Inv.pinned(I:Inv X pins σ H s)(hf:∀b∈fp,eR X pins H b)(ho:∀b∈fp,∃o,s.heap.get? b=some o/\∀v,o.data ≠ .cell v):Inv X (pins++lL fp s.heap) σ H s:=
 I.pins_of λp f=>(qp.mp f).elim (λz=>I.pin p z.12) λz=>by
  obtain⟨c,e⟩:=aBQ z
  obtain⟨f0,f1,f2,_⟩:=hf p.1 c
  obtain⟨o,a,d⟩:=ho p.1 c
  rw[e] at a;cases a
  exact⟨e,f0,f1,f2,d⟩
theorem Inv.unpinned{pl:List '+'}(I:Inv X (pins++pl) σ H s):Inv X pins σ H s:=I.pins_of λp hp=>I.pin p (q7 _ hp).12
theorem aBL{body:List Stmt}{g:TG}{tb:TS}{pos:Pos}(hp:sj X.w.6 X.A X.env X.xe)(hc:X.calm=true)(hi:PI X tg iter wi)(hg:PG X tg g)(hb:PSs X body tb)(hs:∀x,foldedSetIterable iter X.env x=pure x:=by intro _;rfl):PS X (.For tg iter body [] pos) (tFor wi g tb):=by
 intro pins s σ H D I h
 refine wpAny_For (thn (hi pins s σ H _ I h) λv s1 M=>thn M λS s2 K => ?_) hs
 obtain⟨it,j,C,J,H2,e,I2,T,y,f2,W,⟨m0,Q⟩,turn⟩:=K
 subst e
 -- what stays true of the iterator's objects through the loop
 have stat:∀{H':Hp},(∀b∈j,H' b=none)->∀b∈j,eR X pins H' b:=λY b hb=>⟨Y b hb,(f2 b hb).2⟩
 refine codeAny_forLoop_any (λn B=>∃i σ' H',Inv X pins σ' H' B/\C i B.heap/\(∀b∈j,H' b=none)/\W i n σ' H') ?_ m0 ⟨0,σ,H2,I2,y,λb hb=>(f2 b hb).1,Q⟩
 rintro n s3 ⟨i,σ3,H3,I3,p,l,U⟩
 rcases turn i n σ3 H3 U with ⟨stop,F⟩|⟨go,N,O,step⟩
 ·refine yk hp (thn (T.done X rfl rfl rfl hc i pins s3 σ3 H3 X.xe I3 (stat l) p stop) λr s4 ⟨z,I4⟩ => ?_)
  subst z
  exact gb ⟨σ3,H3,I4,F⟩
 ·refine yk hp (thn (T.item X rfl rfl rfl hc i pins s3 σ3 H3 X.xe I3 (stat l) p go) λr s4 ⟨u,z,E⟩ => ?_)
  subst z
  refine yk hp (thn E λ_ s5 ⟨x,H5,I5,R,P,c,t⟩ => ?_)
  have I5':=I5.pinned (stat t) (T.obj _ _ c)
  refine yk hp (thn (hg _ s5 σ3 H5 x u _ I5' R (step x H5 P)) λ_ L ⟨σ6,H6,I6,q6⟩ => ?_)
  refine yk hp (thn (hb _ L σ6 H6 _ I6 q6) λf q a => ?_)
  have again:∀{σ7:St}{H7:Hp},Inv X (pins++lL j s5.heap) σ7 H7 q->N σ7 H7->∃m,m<n/\∃i σ' H',Inv X pins σ' H' q/\C i q.heap/\(∀b∈j,H' b=none)/\W i m σ' H':=λ{σ7 H7} I7 k=>by
   obtain⟨G,hm,Z⟩:=O σ7 H7 k
   refine⟨G,hm,i+1,σ7,H7,I7.unpinned,T.keep _ _ _ c λb hb o e=>(I7.pin (b,o) (hC hb e).12.12).1,λb hb => ?_,Z⟩
   obtain⟨o,e,d⟩:=T.obj _ _ c b hb
   exact (I7.pin (b,o) (hC hb e).12.12).2.1
  cases f with
  |next=>obtain⟨σ7,H7,I7,k⟩:=a;exact again I7 k
  |cont=>obtain⟨σ7,H7,I7,k⟩:=a;exact again I7 k
  |brk=>obtain⟨σ7,H7,I7,a⟩:=a;exact⟨σ7,H7,I7.unpinned,a⟩
  |ret v=>obtain⟨x7,σ7,H7,I7,V,a⟩:=a;exact⟨x7,σ7,H7,I7.unpinned,V,a⟩
end
end L2
namespace L2
open PySem PySem.Spec PyProof.Rows
abbrev R2:=V->V->Hp->VK->Prop
def OpR(X:Cx)(f:Value->Value->Sem Value)(r:R2):Prop:=
 ∀(pins:List '+') (s:Shared) (σ:St) (H:Hp) (x y:V) (v u:Value) (Q:VK),Inv X pins σ H s->RelV x v->RelV y u->r x y H Q ->
  wpAny X.w.6 X.A (f v u) (EP X pins σ Q) X.xe s
def UnR(X:Cx)(f:Value->Sem Value)(r:V->Hp->VK->Prop):Prop:=
 ∀(pins:List '+') (s:Shared) (σ:St) (H:Hp) (x:V) (v:Value) (Q:VK),Inv X pins σ H s->RelV x v->r x H Q ->
  wpAny X.w.6 X.A (f v) (EP X pins σ Q) X.xe s
def dB(X:Cx)(f:Value)(r:List V->Hp->VK->Prop):Prop:=
 ∀(pins:List '+') (s:Shared) (σ:St) (H:Hp) (xs:List V) (us:List Value) (Q:VK),Inv X pins σ H s->Vals xs us->r xs H Q ->
  wpAny X.w.6 X.A (call f us) (EP X pins σ Q) X.xe s
def tOp(r:R2)(ta tb:TE):TE:=λσ H Q=>ta σ H λx H1=>tb σ H1 λy H2=>r x y H2 Q
def tUn(r:V->Hp->VK->Prop)(ta:TE):TE:=λσ H Q=>ta σ H λx H1=>r x H1 Q
def rI(C:Int->Int->Prop)(g:Int->Int->V):R2:=λx y H Q=>∃i j,x = .int i/\y = .int j/\C i j/\Q (g i j) H
def rI0(g:Int->Int->V):R2:=λx y H Q=>∃i j,x = .int i/\y = .int j/\Q (g i j) H
def rU(g:Int->V):V->Hp->VK->Prop:=λx H Q=>∃i,x = .int i/\Q (g i) H
section
variable {a b:Expr}{tb tc:TE}{pos:Pos}
theorem aEK(ha:PE X a ta)(hb:PE X b tb){R:V->V->Hp->Prop}(I:Inv X pins σ H s)(h:ta σ H λx H1=>tb σ H1 λy H2=>R x y H2){Q:Value->Shared->Prop}{f:Value->Value->Sem Value}(hf:∀v u s2 x y H2,Inv X pins σ H2 s2->RelV x v->RelV y u->R x y H2->wpAny X.w.6 X.A (f v u) Q X.xe s2):
  wpAny X.w.6 X.A (eval a X.env) (λv s₁=>wpAny X.w.6 X.A (eval b X.env) (λu s₂=>wpAny X.w.6 X.A (f v u) Q X.xe s₂) X.xe s₁) X.xe s:=by
 refine thn 'D' λv s1 ⟨x,H1,I1,r1,c⟩ => ?_
 refine thn (hb pins s1 σ H1 _ I1 c) λu s2 ⟨y,H2,I2,r2,d⟩ => ?_
 exact hf v u s2 x y H2 I2 r1 r2 d
theorem aLB{op:rk}{r:R2}(ho:OpR X (wo op) r)(ha:PE X a ta)(hb:PE X b tb):PE X (.BinOp a op b pos) (tOp r ta tb):=by
 show '#'
 exact wpAny_BinOp (aEK ha hb I h λv u s2 x y H2 I2 c d q=>ho pins s2 σ H2 x y v u Q I2 c d q)
theorem aLW{op:UnaryOp}{r:V->Hp->VK->Prop}(ho:UnR X (unaryOp op) r)(ha:PE X a ta):PE X (.UnaryOp op a pos) (tUn r ta):=by
 show '#'
 exact UnaryOp_ (thn 'D' λv s1 ⟨x,H1,I1,r1,b⟩=>ho pins s1 σ H1 x v Q I1 r1 b)
theorem opI{f:Value->Value->Sem Value}{C:Int->Int->Prop}(rule:∀(i j:Int) (t u:Tok) (s:Shared) (Q:Value->Shared->Prop) (E:Value->Shared->Prop),C i j->Q (.int (g i j) s.toks) {s with toks:=s.toks+1}->wpAny X.w.6 X.A (f (.int i t) (.int j u)) Q E s):
  OpR X f (rI C λi j => .int (g i j)):=by
 intro pins s σ H x y v u Q I c d h
 obtain⟨i,j,rfl,rfl,b,q⟩:=h
 obtain⟨t,rfl⟩:=c
 obtain⟨a,rfl⟩:=d
 exact rule i j t a s _ _ b ⟨.int (g i j),H,I.tok _,⟨_,rfl⟩,q⟩
theorem opI0{f:Value->Value->Sem Value}(rule:∀(i j:Int) (t u:Tok) (s:Shared) (Q:Value->Shared->Prop) (E:Value->Shared->Prop),Q (.int (g i j) s.toks) {s with toks:=s.toks+1}->wpAny X.w.6 X.A (f (.int i t) (.int j u)) Q E s):
  OpR X f (rI0 λi j => .int (g i j)):=by
 intro pins s σ H x y v u Q I b c h
 obtain⟨i,j,rfl,rfl,q⟩:=h
 obtain⟨t,rfl⟩:=b
 obtain⟨a,rfl⟩:=c
 exact rule i j t a s _ _ ⟨.int (g i j),H,I.tok _,⟨_,rfl⟩,q⟩
theorem yP{f:Value->Value->Sem Value}{g:Int->Int->Bool}(rule:∀(i j:Int) (t u:Tok) (s:Shared) (Q:Value->Shared->Prop) (E:Value->Shared->Prop),Q (.bool (g i j)) s->wpAny X.w.6 X.A (f (.int i t) (.int j u)) Q E s):
  OpR X f (rI0 λi j => .bl (g i j)):=by
 intro pins s σ H x y v u Q I b c h
 obtain⟨i,j,rfl,rfl,q⟩:=h
 obtain⟨t,rfl⟩:=b
 obtain⟨a,rfl⟩:=c
 exact rule i j t a s _ _ ⟨.bl (g i j),H,I,rfl,q⟩
def CDiv(i j:Int):Prop:=0<j/\j<1073741824
def CPow(i j:Int):Prop:=0<=j/\j<=1000000/\i.natAbs<2^64
def CMul(i j:Int):Prop:=(-(2^64)<i/\i<2^64)\/(-(2^64)<j/\j<2^64)
theorem CMul.ok{i j:Int}(h:CMul i j):IntMulOk i j:=by
 rcases h with ⟨h1,h2⟩|⟨h1,h2⟩
 ·exact .of_left (intBits_le_64 h1 h2)
 ·exact .of_right (intBits_le_64 h1 h2)
theorem eK:OpR X (wo .Add) (rI0 λi j => .int (i+j)):=opI0 λ_ _ _ _ _ _ _ q=>add_int q
theorem iR:OpR X (wo .Sub) (rI0 λi j => .int (i-j)):=opI0 λ_ _ _ _ _ _ _ q=>sub_int q
theorem aJL:OpR X (wo .Mult) (rI CMul λi j => .int (i*j)):=opI λ_ _ _ _ _ _ _ hc q=>mul_int q hc.ok
theorem wN:OpR X (wo .FloorDiv) (rI CDiv λi j => .int (i/j)):=opI λi j _ _ _ _ _ a q=>by
 have c:(0:Int)<j:=a.1
 have b:j<1073741824:=a.2
 exact floordiv_int '!' (by rw[Int.fdiv_eq_ediv_of_nonneg i '!'];exact q) (.inl (PyProof.noPylong_small '!'))
theorem tE:OpR X (wo .Mod) (rI (λ_ j=>0<j) λi j => .int (i%j)):=opI λi j _ _ _ _ _ a q=>by
 have b:(0:Int)<j:=a
 exact mod_int' '!' (by rw[Int.fmod_eq_emod_of_nonneg i '!'];exact q)
theorem aFF:OpR X (wo .Mod) (rI (λ_ j=>j≠0) λi j => .int (i.fmod j)):=opI λ_ _ _ _ _ _ _ hc q=>mod_int' hc q
theorem aIT:OpR X (wo .Pow) (rI CPow λi j => .int (i^j.toNat)):=opI λ_ _ _ _ _ _ _ hc q=>pow_int_small hc.1 hc.2.1 hc.2.2 q
theorem unI{f:Value->Sem Value}{g:Int->Int}(rule:∀(i:Int) (t:Tok) (s:Shared) (Q:Value->Shared->Prop) (E:Value->Shared->Prop),Q (.int (g i) s.toks) {s with toks:=s.toks+1}->wpAny X.w.6 X.A (f (.int i t)) Q E s):
  UnR X f (rU λi => .int (g i)):=by
 intro pins s σ H x v Q I a h
 obtain⟨i,rfl,q⟩:=h
 obtain⟨t,rfl⟩:=a
 exact rule i t s _ _ ⟨.int (g i),H,I.tok _,⟨_,rfl⟩,q⟩
theorem gJ:UnR X (unaryOp .USub) (rU λi => .int (-i)):=unI λ_ _ _ _ _ q=>neg_int q
end
noncomputable def scal:V->V->Bool
 |.non, .non=>true|.non, .int _=>true|.int _, .non=>true|.non, .bl _=>true|.bl _, .non=>true|.non, .str _=>true|.str _, .non=>true
 |.int _, .int _=>true|.bl _, .bl _=>true|.str _, .str _=>true|.byt _, .byt _=>true
 |.int _, .str _=>true|.str _, .int _=>true|.bl _, .str _=>true|.str _, .bl _=>true
 |_,_=>false
def rEq:R2:=λx y H Q=>scal x y=true/\Q (.bl (decide (x=y))) H
def rNe:R2:=λx y H Q=>scal x y=true/\Q (.bl (!decide (x=y))) H
theorem xC{i j:Int}:decide (V.int i=V.int j)=(i==j):=by
 rw[zv]
 simp
theorem yW{i j:Bool}:decide (V.bl i=V.bl j)=(i==j):=by
 rw[zv]
 simp
theorem wD{i j:Str}:decide (V.str i=V.str j)=(i==j):=by
 rw[zv]
 simp
theorem wU{i j:Array UInt8}:decide (V.byt i=V.byt j)=(i.toList==j.toList):=by
 rw[zv]
 cases i
 cases j
 simp
section
variable {a b:Expr}{tb tc:TE}{pos:Pos}
theorem a9{Q:VK}{k k':Bool}(I:Inv X pins σ H s)(q:Q (.bl k) H)(e:k=k'):EP X pins σ Q (.bool k') s:=by
 subst e
 exact⟨.bl k,H,I,rfl,q⟩
theorem b7:OpR X (vc .Eq) rEq:=by
 intro pins s σ H x y v u Q I d a h
 obtain⟨c,q⟩:=h
 cases x with
 |non =>
  cases d
  cases y with
  |non=>cases a;exact KY (by simp).18
  |bl j=>cases a;exact K0 (by simp).18
  |int j=>obtain⟨b,rfl⟩:=a;exact KZ (by simp).18
  |str j=>obtain⟨b,rfl⟩:=a;exact KW (by simp).18
  |_=>exact absurd ':' zBf
 |bl i =>
  cases d
  cases y with
  |non=>cases a;exact K2 (by simp).18
  |bl j=>cases a;exact eq_bool yW.18
  |str j=>obtain⟨b,rfl⟩:=a;exact Ka (by simp).18
  |_=>exact absurd ':' zBf
 |int i =>
  obtain⟨t,rfl⟩:=d
  cases y with
  |non=>cases a;exact K1 (by simp).18
  |int j=>obtain⟨b,rfl⟩:=a;exact eq_int xC.18
  |str j=>obtain⟨b,rfl⟩:=a;exact J9 (by simp).18
  |_=>exact absurd ':' zBf
 |str i =>
  obtain⟨t,rfl⟩:=d
  cases y with
  |non=>cases a;exact KU (by simp).18
  |bl j=>cases a;exact J8 (by simp).18
  |int j=>obtain⟨b,rfl⟩:=a;exact J7 (by simp).18
  |str j=>obtain⟨b,rfl⟩:=a;exact eq_str wD.18
  |_=>exact absurd ':' zBf
 |byt i =>
  obtain⟨t,rfl⟩:=d
  cases y with
  |byt j=>obtain⟨b,rfl⟩:=a;exact PySem.W.eq_bytes wU.18
  |_=>exact absurd ':' zBf
 |_=>cases y <;> exact absurd ':' zBf
theorem gY:OpR X (vc .NotEq) rNe:=by
 intro pins s σ H x y v u Q I d a h
 obtain⟨c,q⟩:=h
 cases x with
 |non =>
  cases d
  cases y with
  |non=>cases a;exact KO (by simp).18
  |bl j=>cases a;exact KQ (by simp).18
  |int j=>obtain⟨b,rfl⟩:=a;exact KP (by simp).18
  |str j=>obtain⟨b,rfl⟩:=a;exact KN (by simp).18
  |_=>exact absurd ':' zBf
 |bl i =>
  cases d
  cases y with
  |non=>cases a;exact KS (by simp).18
  |bl j=>cases a;exact ne_bool (congrArg not yW).18
  |str j=>obtain⟨b,rfl⟩:=a;exact J6 (by simp).18
  |_=>exact absurd ':' zBf
 |int i =>
  obtain⟨t,rfl⟩:=d
  cases y with
  |non=>cases a;exact KR (by simp).18
  |int j=>obtain⟨b,rfl⟩:=a;exact ne_int (congrArg not xC).18
  |str j=>obtain⟨b,rfl⟩:=a;exact J5 (by simp).18
  |_=>exact absurd ':' zBf
 |str i =>
  obtain⟨t,rfl⟩:=d
  cases y with
  |non=>cases a;exact KM (by simp).18
  |bl j=>cases a;exact J4 (by simp).18
  |int j=>obtain⟨b,rfl⟩:=a;exact JZ (by simp).18
  |str j=>obtain⟨b,rfl⟩:=a;exact ne_str (congrArg not wD).18
  |_=>exact absurd ':' zBf
 |byt i =>
  obtain⟨t,rfl⟩:=d
  cases y with
  |byt j=>obtain⟨b,rfl⟩:=a;exact PySem.W.ne_bytes (congrArg not wU).18
  |_=>exact absurd ':' zBf
 |_=>cases y <;> exact absurd ':' zBf
theorem gA:OpR X (vc .Lt) (rI0 λi j => .bl (decide (i<j))):=yP λ_ _ _ _ _ _ _ q=>lt_int q
theorem aLO:OpR X (vc .LtE) (rI0 λi j => .bl (decide (i<=j))):=yP λ_ _ _ _ _ _ _ q=>le_int q
theorem aLN:OpR X (vc .Gt) (rI0 λi j => .bl (decide (j<i))):=yP λ_ _ _ _ _ _ _ q=>gt_int q
theorem rQ:OpR X (vc .GtE) (rI0 λi j => .bl (decide (j<=i))):=yP λ_ _ _ _ _ _ _ q=>ge_int q
theorem aBR:OpR X (vc .Is) (λx y H Q=>y = .non/\Q (.bl (decide (x = .non))) H):=by
 intro pins s σ H x y v u Q I a b h
 obtain⟨rfl,q⟩:=h
 cases b
 refine is_none_gen ?_.18
 cases x <;> first
  | (cases a;rfl)
  | (obtain⟨t,rfl⟩:=a;rfl)
theorem aFX:OpR X (vc .IsNot) (λx y H Q=>y = .non/\Q (.bl (!decide (x = .non))) H):=by
 intro pins s σ H x y v u Q I a b h
 obtain⟨rfl,q⟩:=h
 cases b
 refine isnot_none_gen ?_.18
 cases x <;> first
  | (cases a;rfl)
  | (obtain⟨t,rfl⟩:=a;rfl)
theorem nomark(b:Expr){op:CmpOp}(h:op ≠ .In:=by decide)(h2:op ≠ .NotIn:=by decide):bq op b=false:=by
 have c:(op==CmpOp.In)=false:=by cases op <;> first|rfl|exact absurd rfl h
 have a:(op==CmpOp.NotIn)=false:=by cases op <;> first|rfl|exact absurd rfl h2
 cases b <;> simp[bq,c,a]
theorem aFQ{op:CmpOp}{r:R2}(ho:OpR X (vc op) r)(ha:PE X a ta)(hb:PE X b tb)(hm:bq op b=false):PE X (.Compare a [op] [b] pos) (tOp r ta tb):=by
 show '#'
 exact wpAny_Compare1 (aEK ha hb I h λv u s2 x y H2 I2 c d q=>ho pins s2 σ H2 x y v u Q I2 c d q) hm
def aK8(t:TE):TT:=λσ H Q=>t σ H λx H'=>∃k,x = .bl k/\Q k H'
theorem aFG{op:CmpOp}{r:R2}(ho:OpR X (vc op) r)(ha:PE X a ta)(hb:PE X b tb)(hm:bq op b=false):PT X (.Compare a [op] [b] pos) (aK8 (tOp r ta tb)):=by
 show '#'
 refine wpAny_isTrue_Compare1 (thn 'D' λv s1 ⟨x,H1,I1,r1,f⟩=>thn (hb pins s1 σ H1 _ I1 f) λu s2 ⟨y,H2,I2,r2,g⟩ =>
  thn (ho pins s2 σ H2 x y v u _ I2 r1 r2 g) λc s3 ⟨z,H3,I3,r3,k,e,d⟩ => ?_) hm
 subst e
 cases r3
 exact wpAny_truthy_bool ⟨H3,I3,d⟩
theorem line63:(sizeLine:Nat)<2^63:=by rw[sv];decide
theorem g8:OpR X (wo .Add) (λx y H Q=>∃i j,x = .str i/\y = .str j/\i.length+j.length<=sizeLine/\Q (.str (i++j)) H):=by
 intro pins s σ H x y v u Q I a d h
 obtain⟨i,j,rfl,rfl,c,q⟩:=h
 obtain⟨t,rfl⟩:=a
 obtain⟨b,rfl⟩:=d
 exact add_str (λb e=>⟨.str (i++j),H,I.tok _,⟨_,rfl⟩,q⟩) c
theorem vals1{x:V}(r:Vals [x] us):∃u,us=[u]/\RelV x u:=by
 cases r with
 |cons r1 r2=>cases r2;exact⟨_,rfl,r1⟩
theorem vals2{x y:V}(r:Vals [x,y] us):∃u w',us=[u,w']/\RelV x u/\RelV y w':=by
 cases r with
 |cons r1 r2 =>
  cases r2 with
  |cons r3 r4=>cases r4;exact⟨_,_,rfl,r1,r3⟩
theorem tV:dB X (.builtin "abs") (λxs H Q=>∃i,xs=[.int i]/\Q (.int (if i<0 then -i else i)) H):=by
 show '%'
 obtain⟨i,rfl,q⟩:=h
 obtain⟨u,rfl,t,rfl⟩:=vals1 r
 exact call_abs_int λu a=>⟨.int (if i<0 then -i else i),H,I.tok _,⟨_,rfl⟩,q⟩
theorem aAQ(hc:X.calm=true):dB X (.builtin "min") (λxs H Q=>∃i j,xs=[.int i, .int j]/\Q (.int (if j<i then j else i)) H):=by
 show '%'
 obtain⟨i,j,rfl,q⟩:=h
 obtain⟨u,b,rfl,⟨t,rfl⟩,⟨c,rfl⟩⟩:=vals2 r
 refine min_two_ints (I.ok.hd hc) λd e k=>⟨_,H,I.kept k,?_,q⟩
 by_cases a:j<i
 ·rw[if_pos a,if_pos a];exact⟨_,rfl⟩
 ·rw[if_neg a,if_neg a];exact⟨_,rfl⟩
theorem k9:dB X (.type "int") (λxs H Q=>(∃i,xs=[.int i]/\Q (.int i) H)\/∃k,xs=[.bl k]/\Q (.int (if k then 1 else 0)) H):=by
 show '%'
 rcases h with ⟨i,rfl,q⟩|⟨k,rfl,q⟩
 ·obtain⟨u,rfl,t,rfl⟩:=vals1 r
  exact call_int_int ⟨.int i,H,I,⟨_,rfl⟩,q⟩
 ·obtain⟨u,rfl,r1⟩:=vals1 r
  cases r1
  exact call_int_bool ⟨.int (if k then 1 else 0),H,I.tok _,⟨_,rfl⟩,q⟩
def aCQ(K:qg)(x:V)(H:Hp)(n:Nat):Prop:=
 match x with
 |.str y=>y.length<=sizeLine/\n=y.length
 |.byt y=>y.size<=sizeLine/\n=y.size
 |.ref p=>(∃xs,SqL K H p xs/\n=xs.length)\/∃xs,SqT K H p xs/\n=xs.length
 |_=>False
theorem bD:dB X (.builtin "len") (λxs H Q=>∃x n,xs=[x]/\aCQ X.K x H n/\Q (.int n) H):=by
 show '%'
 obtain⟨x,n,rfl,e,q⟩:=h
 obtain⟨u,rfl,c⟩:=vals1 r
 have hl:=line63
 have k:sizeLine=16777216:=sv
 cases x with
 |str y =>
  obtain⟨t,rfl⟩:=c
  obtain⟨j,a⟩:y.length<=sizeLine/\n=y.length:=e
  subst a
  exact len_str '!' ⟨.int _,H,I.tok _,⟨_,rfl⟩,q⟩
 |byt y =>
  obtain⟨t,rfl⟩:=c
  obtain⟨j,a⟩:y.size<=sizeLine/\n=y.size:=e
  subst a
  exact PySem.W.len_bytes '!' ⟨.int _,H,I.tok _,⟨_,rfl⟩,q⟩
 |ref p =>
  cases c
  have a:(∃xs,SqL X.K H p xs/\n=xs.length)\/∃xs,SqT X.K H p xs/\n=xs.length:=e
  rcases a with ⟨xs,b,a⟩|⟨xs,b,a⟩
  ·subst a
   obtain⟨f,d,g,i⟩:=I.list b
   have hlen:=d.length
   exact Calls.call_len_list g.isList (by simp only[qc];omega) ⟨.int xs.length,H,I.tok _,⟨_,by simp only[qc];rw[hlen]⟩,q⟩
  ·subst a
   obtain⟨f,d,g,i⟩:=I.tuple b
   have hlen:=d.length
   exact len_tuple g (by simp only[qc];omega) ⟨.int xs.length,H,I.tok _,⟨_,by simp only[qc];rw[hlen]⟩,q⟩
 |_=>exact (show False from e).elim
end
end L2
namespace L2
open PySem PySem.Spec PyProof.Rows
structure ObjM(h:Heap)(x dx C:Addr)(mA:Str->Option Value):Prop where
 obj:h.get? x=some (QL C dx)
 ns:h.Ns1 dx mA
 ne:dx≠x
section
variable {E:Value->Shared->Prop}{K:qg}{x:Addr}{mA:Str->Option Value}{v:Value}
end
section
variable {fs fs':List (Str×V)}
end
structure Cls(K:qg)(C:Addr):Prop where
 pg:PySem.W.plainGet K C xm=true
 hd:PySem.W.hasDictIn K C=true
 po:PySem.W.plainOver K C=true
 sa:xu K (.ref C) "__setattr__" = some (.builtin "object.__setattr__").3
structure Con(K:qg)(C:Addr)(f:Str)(v:V)(u:Value):Prop where
 at_:xu K (.ref C) f=some u.3
 rel:RelV v u
 get:Qj K u "__get__" = some none
 cp:PySem.W.copiedNames.contains f=false
structure Meth(K:qg)(C:Addr)(m:Str)(f:Addr):Prop where
 at_:xu K (.ref C) m=some (.ref f).3
 fn:Jk K (.ref f)=true
 kp:zb K (.ref f)=true
section
variable {fs:List (Str×V)}{f:Str}{E:Value->Shared->Prop}
end
section
variable {value:Expr}{f:Str}{pos tpos:Pos}{tv:TE}
end
section
variable {E:Value->Shared->Prop}{Q:Value->Shared->Prop}{c:Value}{b:Bool}
inductive TyOf(K:qg)(H:Hp):V->Value->Prop where
 |non:TyOf K H .non (.type "NoneType")
 |bl (x:Bool):TyOf K H (.bl x) (.type "bool")
 |int (i:Int):TyOf K H (.int i) (.type "int")
 |str (x:Str):TyOf K H (.str x) (.type "str")
 |flt (x:UInt64):TyOf K H (.flt x) (.type "float")
 |lst {a:Addr}{xs:List V} (e:H a=some (.lst xs)):TyOf K H (.ref a) (.type "list")
 |frz {a:Addr}{o:Obj}{xs:List V} (e:H a=some (.frz o (.lst xs))):TyOf K H (.ref a) (.type "list")
 |tup {a:Addr}{xs:List V} (e:H a=some (.tup xs)):TyOf K H (.ref a) (.type "tuple")
 |dK {a:Addr}{kvs:List (Key×V)} (e:H a=some (.dK kvs)):TyOf K H (.ref a) (.type "dict")
 |dT {a:Addr}{kvs:List (List Key×V)} (e:H a=some (.dT kvs)):TyOf K H (.ref a) (.type "dict")
 |ins {a C dx:Addr}{fs:List (Str×V)} (e:H a=some (.ins C dx fs)) (cl:Cls K C) (ha:xu K (.ref C) "__class__" = some (.builtin "object.__class__").3)
   (hn:Qj K (.builtin "object.__class__") "__get__" = some (.builtin "getset_descriptor.__get__").3) (htk:PySem.W.takesIn K (.builtin "object.__class__")=some true)
   (hm:nu K C (.type "object")=some true):TyOf K H (.ref a) (.ref C)
end
end L2
namespace L2
open PySem PySem.Spec PyProof.Rows
structure Room(k:Nat)(A:Around):Prop where
 hd:A.handled=none
 dp:A.depth+3*k+5<recursionLimit
 un:A.units+16*k+200<cLine
 gd:A.guards=some []
theorem Room.mono{k:Nat}(r:Room k A)(h:j<=k):Room j A:=⟨r.hd,by have:=r.dp;omega,by have:=r.un;omega,r.gd⟩
theorem Room.deeper{k:Nat}(r:Room (k+1) A)(env:Env):Room k (A.deeper env):=
 ⟨r.hd,by have:=r.dp;show A.depth+1+3*k+5<_;omega,by have:=r.un;show A.units+3+16*k+200<_;omega,r.gd⟩
theorem Room.in1{k:Nat}(r:Room (k+1) A):Room k A.in1:=
 ⟨r.hd,by have:=r.dp;show A.depth+3*k+5<_;omega,by have:=r.un;show A.units+1+16*k+200<_;omega,r.gd⟩
theorem Room.depth{k:Nat}(r:Room k A):A.depth<recursionLimit:=by have:=r.dp;omega
theorem Room.units{k:Nat}(r:Room k A):A.units+64<cLine:=by have:=r.un;omega
def pT:TA:=λ_ H Q=>Q [] H
def lT(ta:TE)(tr:TA):TA:=λσ H Q=>ta σ H λx H1=>tr σ H1 λxs H2=>Q (x::xs) H2
section
variable {t:TA}{pos:Pos}
theorem sX:PA X [] pT:=λ_ _ _ _ H Q I h=>QT ⟨[],H,I, .nil,h⟩
theorem lV(ha:PE X e te)(hr:PA X es t)(hs:starEach (e::es) X.env=(false,eval e X.env)::starEach es X.env:=by rfl):PA X (e::es) (lT te t):=by
 intro pos pins s σ H Q I h
 rw[hs]
 show wpAny _ _ (spliced ((false,eval e X.env)::yg pos X.env.28)) _ _ s
 refine QA (thn 'D' λu s1 ⟨x,H1,I1,r1,a⟩ => ?_)
 exact thn (hr pos pins s1 σ H1 _ I1 a) λus s2 ⟨xs,H2,I2,r2,b⟩=>⟨x::xs,H2,I2, .cons r1 r2,b⟩
def tTup(t:TA):TE:=λσ H Q=>t σ H λxs H1=>xs.length<=sizeLine/\∀p,H1 p=none->Q (.ref p) (upd H1 p (.tup xs))
def tLst(t:TA):TE:=λσ H Q=>t σ H λxs H1=>xs.length<=sizeLine/\∀p,H1 p=none->Q (.ref p) (upd H1 p (.lst xs))
theorem aIX{x1}(h:PA X es t):PE X (.Tuple es x1 pos) (tTup t):=by
 intro pins s σ H Q I a
 refine wpAny_Tuple_spliced (thn (h pos pins s σ H _ I a) λus s1 ⟨xs,H1,I1,r,z,q⟩=>⟨by rw[<- r.length];exact z,?_⟩)
 have hf:H1 s1.heap.objs.size=none:=I1.hok.fresh (qo _)
 refine⟨.ref s1.heap.objs.size,upd H1 s1.heap.objs.size (.tup xs),I1.laid (t':=s1.toks) (λb u e=>qf _ e) (qo _) ?_,rfl,q _ hf⟩
 exact⟨z,us,r,⟨_,qq _ rfl,rfl,_,rfl⟩,_,qq _ rfl,rfl⟩
theorem aAZ(h:PA X es t):PE X (.List es pos) (tLst t):=by
 intro pins s σ H Q I a
 refine wpAny_List_spliced (thn (h pos pins s σ H _ I a) λus s1 ⟨xs,H1,I1,r,z,q⟩=>⟨by rw[<- r.length];exact z,?_⟩)
 have hf:H1 s1.heap.objs.size=none:=I1.hok.fresh (qo _)
 refine⟨.ref s1.heap.objs.size,upd H1 s1.heap.objs.size (.lst xs),I1.laid (t':=s1.toks) (λb u e=>qf _ e) (qo _) ?_,rfl,q _ hf⟩
 exact⟨z,us,0,r,qq _ rfl⟩
end
abbrev Sp:=List V->Hp->VK->XK->Prop
abbrev CXT:=List Env->Hp->Shared->XK->Value->Shared->Prop
structure Env0(P:Program)(w:World)(K:qg)(mg:Str->Option Value)(base:Heap)(A:Around)(outer:List Env)(s:Shared)(H:Hp):Prop where
 frames:A.frames=some outer
 mod:Mod K mg base
 bs:∀b o,base.get? b=some o->s.heap.get? b=some o/\H b=none
 bsz:base.objs.size<=s.heap.objs.size
 funs:s.heap.FunFrames base outer
 frf:∀b∈frs outer,H b=none
 hok:HOk P w H s.heap
 bare:hJ s.gens
def CE(outer:List Env)(P:Program)(w:World)(H:Hp)(s:Shared)(Q:VK)(u:Value)(s':Shared):Prop:=
 ∃v H',s'.os=s.os/\hJ s'.gens/\Un (frs outer) [] H H' s.heap s'.heap/\HOk P w H' s'.heap/\RelV v u/\Q v H'
def CR(CX:CXT)(outer:List Env)(P:Program)(w:World)(H:Hp)(s:Shared)(Q:VK)(E:XK)(r:Result)(s':Shared):Prop:=
 match r with
 |.ok (.ret u)=>CE outer P w H s Q u s'
 |.ok _=>False
 |.error e=>CX outer H s E e s'
structure FnOk(P:Program)(w:World)(K:qg)(mg:Str->Option Value)(base:Heap)(CX:CXT)(k:Nat)(f:Addr)(fd:FuncData)(ps:List Str)(sp:Sp):Prop where
 len:∀vs H Q E,sp vs H Q E->vs.length=ps.length
 run:∀(A:Around) (outer:List Env) (s:Shared) (H:Hp) (args:Args) (us:List Value) (vs:List V) (Q:VK) (E:XK),Room k A->Env0 P w K mg base A outer s H->BindsTo s fd args (ps.zip us)->Vals vs us->sp vs H Q E ->
  fb (ja P w) A (.call (.ref f) args) (CR CX outer P w H s Q E) s
theorem Env0.in1{K:qg}(e:Env0 P w K mg base A outer s H):
  Env0 P w K mg base A.in1 outer s H:=⟨e.frames,e.mod,e.bs,e.bsz,e.funs,e.frf,e.hok,e.bare⟩
section
theorem Inv.env0(I:Inv X pins σ H s):Env0 X.prog X.w X.K X.mg X.base X.A X.stack s H:=
 ⟨I.ok.frames,I.ok.mod,I.bs,jw I.ok.bsz I.sz,I.stack,I.stkFree,I.hok,I.bare⟩
theorem Inv.after{Q:VK}(I:Inv X pins σ H s)(h:CE X.stack X.prog X.w H s Q u s'):EP X pins σ Q u s':=by
 obtain⟨v,H',os,bare,un,a,r,q⟩:=h
 obtain⟨e,g,d,t,c⟩:=s'
 obtain rfl:c=s.os:=os
 exact⟨v,H',I.call (h':=e) (g':=g) (d':=d) (t':=t) (ch:=[]) un a bare (λb z=>absurd z '*'),r,q⟩
end
def aKS(sp:Sp)(dvs:List V)(E:XK)(t:TA):TE:=λσ H Q=>t σ H λvs H1=>sp (vs++dvs) H1 Q E
def Binds(K:qg)(fd:FuncData)(ps:List Str)(ds:List Value):Prop:=
 ∀(s:Shared) (us:List Value),K.In s.heap->(us++ds).length=ps.length->BindsTo s fd ⟨us,[]⟩ (ps.zip (us++ds))
theorem Binds.all{K:qg}{ps:List Str}(h:∀us:List Value,us.length=ps.length->bindArgs fd ⟨us,[]⟩=pure (ps.zip us)):Binds K fd ps []:=λs us _ hl=>by
 rw[vv] at hl ⊢
 exact .of_eq (h us hl)
def Passes(CX:CXT)(X:Cx)(E:XK):Prop:=∀(pins:List '+') (σ:St) (H:Hp) (s:Shared) (e:Value) (s':Shared),Inv X pins σ H s->CX X.stack H s E e s'->X.xe e s'
section
variable {CX:CXT}{k:Nat}{ps:List Str}{sp:Sp}{dvs:List V}{ds:List Value}{E:XK}{m:Str}{p pos:Pos}{t:TA}
theorem aIU{Q:VK}{vs:List V}(F:FnOk X.prog X.w X.K X.mg X.base CX k f fd ps sp)(hr:Room k X.A)(hb:Binds X.K fd ps ds)(hd:Vals dvs ds)(hx:Passes CX X E)(I:Inv X pins σ H s)(r:Vals vs us)(h:sp (vs++dvs) H Q E):wpAny X.w.6 X.A (call (.ref f) us) (EP X pins σ Q) X.xe s:=by
 have r2:Vals (vs++dvs) (us++ds):=r.append hd
 have hl:(us++ds).length=ps.length:=by rw[<- r2.length];exact F.len _ _ _ _ h
 refine JQ (f5 (F.run X.A X.stack s H ⟨us,[]⟩ (us++ds) (vs++dvs) Q E hr I.env0 (hb s us I.kIn hl) r2 h) λr b a => ?_)
 cases r with
 |error e=>exact hx pins σ H s e b I a
 |ok fl =>
  cases fl with
  |ret u=>exact I.after a
  |next=>exact vn a
  |brk=>exact vn a
  |cont=>exact vn a
theorem aGP(F:FnOk X.prog X.w X.K X.mg X.base CX k f fd ps sp)(hr:Room k X.A)(hg:Gl X x)(hm:X.mg x=some (.ref f))(hk:zb X.K (.ref f)=true)(hb:Binds X.K fd ps ds)(hd:Vals dvs ds)(hx:Passes CX X E)(ha:PA X (e::es) t)(hdb: '5'=false:=by decide)(he:starEach (e::es) X.env=(false,eval e X.env)::starEach es X.env:=by rfl)(hpl:(yg pos X.env.28).any (·.1)=false:=by rfl):
  PE X 'A' (aKS sp dvs E t):=by
 show '#'
 refine cy (aFB I hg hm ?_ hdb)
 refine PySem.W.callWith_K (h₀:=X.base) I.ok.mod.kin hk (thn (ha pos pins s σ H _ I h) λus s1 ⟨vs,H1,I1,r,q⟩=>⟨I1.kIn,?_⟩) he hpl
 exact aIU F hr hb hd hx I1 r q
structure Mk(K:qg)(C f:Addr):Prop where
 makes:PySem.W.makesIn K C=true
 init:xu K (.ref C) "__init__" = some (.ref f).3
 fn:Jk K (.ref f)=true
 kp:zb K (.ref C)=true
end
def PK(X:Cx)(kws:List cI)(t:TA):Prop:=
 ∀(pos:Pos) (pins:List '+') (s:Shared) (σ:St) (H:Hp) (Q:List V->Hp->Prop),Inv X pins σ H s->t σ H Q->wpAny X.w.6 X.A (evalAll ((cw pos (yj kws X.env)).map (·.2))) (AP X pins σ Q) X.xe s
section
variable {CX:CXT}{k:Nat}{ps ks:List Str}{sp:Sp}{E:XK}{m:Str}{p pos kpos:Pos}{kws:List cI}{t tk:TA}{nm:Option Str}
theorem aJ2:PK X [] pT:=λ_ _ _ _ H Q I h=>wpAny_evalAll_nil ⟨[],H,I, .nil,h⟩
theorem aHB(ha:PE X e te)(hr:PK X kws t):PK X (⟨nm,e,kpos⟩::kws) (lT te t):=by
 intro pos pins s σ H Q I h
 show wpAny _ _ (evalAll ((do let v <- eval e X.env;sf pos;pure v)::(cw pos (yj kws X.env)).map (·.2))) _ _ s
 refine wpAny_evalAll_cons (qa (thn 'D' λu s1 ⟨x,H1,I1,r1,a⟩=>qa (fe ?_.14)))
 exact thn (hr pos pins s1 σ H1 _ I1 a) λus s2 ⟨xs,H2,I2,r2,b⟩=>⟨x::xs,H2,I2, .cons r1 r2,b⟩
structure KBinds(K:qg)(fd:FuncData)(ps ks:List Str)(g:List Value->List Value->List Value)(gV:List V->List V->List V):Prop where
 to:∀(s:Shared) (us ws:List Value),K.In s.heap->(g us ws).length=ps.length->BindsTo s fd ⟨us,ks.zip ws⟩ (ps.zip (g us ws))
 rel:∀{vs:List V}{us:List Value}{zs:List V}{ws:List Value},Vals vs us->Vals zs ws->Vals (gV vs zs) (g us ws)
variable {g:List Value->List Value->List Value}{gV:List V->List V->List V}
end
structure FnScope(N P:List Str)(sc:Scope):Prop where
 kind:sc.kind = .function
 co:sc.isCoroutine=false
 gen:sc.isGenerator=false
 nd:N.Nodup
 pre:N.take P.length=P
 par:∀x∈P,sc.names.lookup x=some .local\/sc.names.lookup x=some .cell
 nofree:∀y∈sc.names,y.2 ≠ .free
theorem qZ{kindOf:Str->Option NameKind}:∀{binds:List (Str×Value)}{m:Str->Option Value},(∀v,(x,v)∉binds)->JO kindOf binds m x=m x
 |[],_,_=>rfl
 | (n,v)::r,m,h=>by
  unfold JO
  rw[qZ λw hw=>h w (jn _ hw)]
  split
  ·have:x≠n:=by rintro rfl;exact h v kh
   simp[this]
  ·rfl
theorem qW{kindOf:Str->Option NameKind}:∀{binds:List (Str×Value)}{m:Str->Option Value},(∀v,(x,v)∉binds)->JP kindOf binds m x=m x
 |[],_,_=>rfl
 | (n,v)::r,m,h=>by
  unfold JP
  rw[qW λw hw=>h w (jn _ hw)]
  split
  ·rfl
  ·have:x≠n:=by rintro rfl;exact h v kh
   simp[this]
theorem qG{kindOf:Str->Option NameKind}{v:Value}:∀{P:List Str}{vs:List Value}{i:Nat}{m:Str->Option Value},P.Nodup->P[i]?=some x->vs[i]?=some v->kindOf x=some .local ->
  JO kindOf (P.zip vs) m x=some v
 |[],_,_,_,_,h,_,_=>by simp at h
 |_::_,[],_,_,_,_,h,_=>by simp at h
 |p::P,w::vs,0,m,nd,h1,h2,hk=>by
  simp at h1 h2;subst h1;subst h2
  show JO kindOf ((p,w)::P.zip vs) m p=_
  unfold JO
  rw[qZ λv a=>(vf.mp nd).1 (m3 a).1,if_pos hk]
  simp
 |p::P,w::vs,i+1,m,nd,h1,h2,hk=>by
  show JO kindOf ((p,w)::P.zip vs) m x=_
  unfold JO
  exact qG (i:=i) (vf.mp nd).2 (by simpa using h1) (by simpa using h2) hk
theorem rB{kindOf:Str->Option NameKind}{v:Value}:∀{P:List Str}{vs:List Value}{i:Nat}{m:Str->Option Value},P.Nodup->P[i]?=some x->vs[i]?=some v->kindOf x≠some .local ->
  JP kindOf (P.zip vs) m x=some v
 |[],_,_,_,_,h,_,_=>by simp at h
 |_::_,[],_,_,_,_,h,_=>by simp at h
 |p::P,w::vs,0,m,nd,h1,h2,hk=>by
  simp at h1 h2;subst h1;subst h2
  show JP kindOf ((p,w)::P.zip vs) m p=_
  unfold JP
  rw[qW λv a=>(vf.mp nd).1 (m3 a).1,if_neg hk]
  simp
 |p::P,w::vs,i+1,m,nd,h1,h2,hk=>by
  show JP kindOf ((p,w)::P.zip vs) m x=_
  unfold JP
  exact rB (i:=i) (vf.mp nd).2 (by simpa using h1) (by simpa using h2) hk
noncomputable def start(N:List Str)(vs:List V):St:=vs.map some++ku (N.length-vs.length) none
noncomputable def nB(CX:CXT)(P:Program)(w:World)(K:qg)(mg:Str->Option Value)(base:Heap)(N:List Str)(qual:Str)(scope:Scope)(f:Addr)(cd:Value)(A:Around)(outer:List Env)(s:Shared)(H:Hp)(E:XK):Cx where
 prog:=P
 w:=w
 K:=K
 mg:=mg
 base:=base
 A:=A.deeper (r5 qual scope s.heap.objs.size f cd)
 N:=N
 s₀:=s
 H₀:=H
 env:=r5 qual scope s.heap.objs.size f cd
 outer:=outer
 stack:=r5 qual scope s.heap.objs.size f cd::outer
 ex:=[]
 calm:=true
 fn:=λ_=>true
 pn:=[]
 xe:=λe s'=>wpAny (ja P w) (A.deeper (r5 qual scope s.heap.objs.size f cd)) (leaving (r5 qual scope s.heap.objs.size f cd) e) (λ_ s''=>CX outer H s E e s'') (λe' s''=>CX outer H s E e' s'') s'
theorem sQ(h:sc.names.lookup x=some .cell):∃c,(cellsFrom n sc.names []).lookup x=some c:=by
 have q:=x9 sc.names n [] (.inl h)
 exact yw.mp q
theorem yY{CX:CXT}{K:qg}{ps:List Str}{cd:Value}{s1:Shared}{E:XK}{vs:List V}(S:FnScope N ps scope)(hd:A.handled=none)(e0:Env0 P w K mg base A outer s H)(hl:vs.length=ps.length)(r:Vals vs us)(x:InCallC s s.heap.objs.size (JO (r5 qual scope s.heap.objs.size f cd).kindOf (ps.zip us) λ_=>none) (cellsFrom '2' scope.names []) (JP (r5 qual scope s.heap.objs.size f cd).kindOf (ps.zip us) λ_=>none) s1):
  Inv (nB CX P w K mg base N qual scope f cd A outer s H E) [] (start N vs) H s1:=by
 have D:ps.length<=N.length:=by have:=congrArg m2 S.pre;rw[jv] at this;omega
 obtain⟨o,J,rfl,B⟩:=x.done
 have g:∀b:Addr,b∉(nB CX P w K mg base N qual scope f cd A outer s H E).ex:=λb z=>absurd (show b∈([]:List Addr) from z) '*'
 refine⟨⟨e0.mod,S.kind,rfl,rfl,qo _,λy z c o d => ?_,λy j => ?_,λy c _ h => ?_,λ_=>hd,tx e0.frames, .inr ⟨rfl,rfl⟩,λb z=>absurd z (g b),e0.bs,e0.bsz,λb _ _=>g b,λb z=>absurd z (g b),e0.funs,e0.frf⟩,
  rfl,e0.bare,Un.kept B,⟨_,x.toInCall.ns,λi y v o d I => ?_⟩,λy c h=>⟨_,x.cell y c h⟩,e0.hok.fresh (qo _),λy c h => ?_,λp m=>absurd (show p∈([]:List '+') from m) '*',e0.hok.kept B,?_⟩
 ·exact name_of_addr x.apart (kj o) (kj d)
 ·have j:scope.names.lookup y=some .cell\/scope.names.lookup y=some .free:=j
  rcases j with j|j
  ·exact sQ j
  ·exact absurd rfl (S.nofree _ (kj j))
 ·exact fh (x.above y c (kj h))
 ·have t:i<vs.length:=by
   unfold start at d
   by_cases t:i<vs.length
   ·exact t
   ·rw[qj (by simpa using t)] at d
    rw[x5] at d
    split at d <;> cases d
  have F:vs[i]?=some v:=by
   unfold start at d
   rw[qn (by simpa using t),qm] at d
   cases e:vs[i]? with
   |none=>rw[e] at d;cases d
   |some a=>rw[e] at d;cases d;rfl
  obtain⟨u,C,G⟩:=r.get F
  have m:ps[i]?=some y:=by
   rw[<- S.pre,y2 '!'];exact o
  have l:ps.Nodup:=by rw[<- S.pre];exact S.nd.sublist (Q3 _ _)
  refine⟨u,G,?_⟩
  rcases S.par y m.7 with k|k
  ·exact .inl ⟨k,qG l m C k⟩
  ·obtain⟨c,e⟩:=sQ (n:=s.heap.objs.size+1) k
   refine .inr ⟨.inl k,c,e,?_⟩
   have q:=x.cell y c e
   rw[rB l m C (by show scope.names.lookup y≠_;rw[k];decide)] at q
   exact q
 ·exact e0.hok.fresh (fh (x.above y c (kj h)))
 ·unfold start
  show _=N.length
  rw[qe,zLm,w8]
  omega
theorem aEL{CX:CXT}{K:qg}{k:Nat}{params:Arguments}{body:List Stmt}{dV kV doc cdv ct oc:Value}{an od:Option Addr}{osl:Array (Option Value)}{ps:List Str}{sp:Sp}(lk:K.lookup f=some ⟨oc,od, .func (wu name qual params body scope dV kV doc pm an cdv ct),osl⟩)(hcd:mw K cdv qual=true)(S:FnScope N ps scope)(len:∀vs H Q E,sp vs H Q E->vs.length=ps.length)(hbody:∀(A:Around) (outer:List Env) (s:Shared) (H:Hp) (vs:List V) (Q:VK) (E:XK),Room k (A.deeper (r5 qual scope s.heap.objs.size f cdv))->sp vs H Q E ->
   ∃t,PSs (nB CX P w K mg base N qual scope f cdv A outer s H E) body t/\t {nx:=λ_ H'=>Q .non H',rt:=Q} (start N vs) H):
  FnOk P w K mg base CX (k+1) f (wu name qual params body scope dV kV doc pm an cdv ct) ps sp:=by
 refine⟨len,λA outer s H args us vs Q E h d p r g => ?_⟩
 have hl:=len _ _ _ _ g
 have KX:K.In s.heap:=d.mod.kin.keeps λb o e=>(d.bs b o e).1
 have lim:s.heap.NoLimit:=d.mod.nolimit.keeps λb o e=>(d.bs b o e).1
 have a:∀y∈ps.zip us,scope.names.lookup y.1=some .local\/(scope.names.lookup y.1=some .cell/\((cellsFrom '2' scope.names []).lookup y.1).isSome=true):=λ⟨n,v⟩ z=>by
  rcases S.par n (m3 z).1 with q|q
  ·exact .inl q
  ·exact .inr ⟨q,x9 _ _ _ (.inl q)⟩
 refine codeAny_call_function h.depth (KX _ _ lk) rfl S.co S.gen rfl (PySem.W.codeRec_of KX hcd) (p _ _ _ _ ?_)
 refine wpAny_newFunctionEnv_cells S.kind a λenv he s1 x => ?_
 subst he
 refine⟨lim.keeps x.toInCall.keep,codeAny_func ?_⟩
 obtain⟨t,m,l⟩:=hbody A outer s H vs Q E (h.deeper _) g
 have I:Inv (nB CX P w K mg base N qual scope f cdv A outer s H E) [] (start N vs) H s1:=yY S h.hd d hl r x
 refine km (m [] s1 (start N vs) H _ I l) (λfl i c => ?_) λe i c=>c
 have fin:∀{σ':St}{H':Hp}{v:V}{u:Value},Inv (nB CX P w K mg base N qual scope f cdv A outer s H E) [] σ' H' i->RelV v u->Q v H'->CE outer P w H s Q u i:=
  λ{σ' H' v u} J j q=>⟨v,H',J.os,J.bare,J.base,J.hok,j,q⟩
 cases fl with
 |ret u =>
  obtain⟨v,σ',H',J,j,q⟩:=c
  exact fin J j q
 |next =>
  obtain⟨σ',H',J,q⟩:=c
  exact fin (v:=V.non) (u:=jt) J rfl q
 |brk =>
  obtain⟨_,_,_,q⟩:=c
  exact vn q
 |cont =>
  obtain⟨_,_,_,q⟩:=c
  exact vn q
end L2
namespace L2
open PySem PySem.Spec PyProof.Rows
section
variable {p pos:Pos}{t:TA}{id T:String}{r:List V->Hp->VK->Prop}
def tCB(r:List V->Hp->VK->Prop)(t:TA):TE:=λσ H Q=>t σ H λvs H1=>r vs H1 Q
theorem tG(hc:dB X (.builtin id) r)(hg:Gl X x)(hm:X.mg x=none)(hv:ke x=some (.builtin id))(ha:PA X (e::es) t)(hn:x ≠ "__name__" := by decide)(hdb: '5'=false:=by decide)(he:starEach (e::es) X.env=(false,eval e X.env)::starEach es X.env:=by rfl)(hpl:(yg pos X.env.28).any (·.1)=false:=by rfl):PE X 'A' (tCB r t):=by
 show '#'
 refine cy (iJ I hg hm hv ?_ hn hdb)
 exact K5 (thn (ha pos pins s σ H _ I h) λus s1 ⟨vs,H1,I1,r1,a⟩=>hc pins s1 σ H1 vs us Q I1 r1 a) he hpl
theorem aB3(hc:dB X (.type T) r)(hg:Gl X x)(hm:X.mg x=none)(hv:ke x=some (.type T))(ha:PA X (e::es) t)(hn:x ≠ "__name__" := by decide)(hdb: '5'=false:=by decide)(he:starEach (e::es) X.env=(false,eval e X.env)::starEach es X.env:=by rfl)(hpl:(yg pos X.env.28).any (·.1)=false:=by rfl):PE X 'A' (tCB r t):=by
 show '#'
 refine cy (iJ I hg hm hv ?_ hn hdb)
 exact x6 (thn (ha pos pins s σ H _ I h) λus s1 ⟨vs,H1,I1,r1,a⟩=>hc pins s1 σ H1 vs us Q I1 r1 a) he hpl
end
end L2
namespace HT
open PySem PyProof.Rows
noncomputable def lexLt:List Int->List Int->Bool
 |[],[]=>false
 |[],_::_=>true
 |_::_,[]=>false
 |x::xs,y::ys=>if x=y then lexLt xs ys else decide (x<y)
theorem fA(x y:Int)(xs ys:List Int):lexLt (x::xs) (y::ys)=if x=y then lexLt xs ys else decide (x<y):=rfl
theorem rO:lexLt [] []=false:=rfl
theorem fT(y:Int)(ys:List Int):lexLt [] (y::ys)=true:=rfl
theorem jX(x:Int)(xs:List Int):lexLt (x::xs) []=false:=rfl
theorem sM(A:Around)(s:Shared)(a:Int)(t:Tok)(c:Int)(u:Tok):∃e,nz A s (.int a t) (.int c u) e/\(e=true↔a=c):=
 ⟨(a==c),ra a t c u,by simp⟩
theorem aCK(A:Around)(s:Shared)(a:Int)(t:Tok)(c:Int)(u:Tok)(prog:Program)(w:World)(E:Value->Shared->Prop)(Q:Value->Shared->Prop)(h:Q (.bool (decide (a<c))) s):
  wpAny w.8 A (fc .Lt (.int a t) (.int c u)) Q E s:=
 (nf h:wpAny w.8 A (vc .Lt (.int a t) (.int c u)) Q E s)
section
open PySem.SeqAt
open PySem.AutoSeq1 (wpAny_loadPart')
open PySem.MeetsSeq PySem.MeetsSeq2 PySem.MeetsSeq3
theorem rN(l b:Addr)(items items2:Array Value)(n n2:Nat)(dd dd2:Option Addr)(sl sl2:Array (Option Value))(ns ms:List Int)(hi:IntsAre items.toList ns)(hj:IntsAre items2.toList ms):
  Meets (Builtin.«tuple.__lt__» ⟨[.ref l, .ref b],[]⟩)
   (λ_ R s=>s.heap.get? l=some {cls := .type "tuple", dict:=dd,data := .seq items n,slots:=sl}/\s.heap.get? b=some {cls := .type "tuple", dict:=dd2,data := .seq items2 n2,slots:=sl2} /\
    R (.ok (.ret (.bool (lexLt ns ms)))) s):=
 .of_wp λprog w A R s h=>by
  obtain⟨v,g,d,z,os⟩:=s;obtain⟨hl,E,h⟩:=h
  have f2:=mz
  have I:items.size=ns.length:=by rw[<- hi.length];simp
  have H:items2.size=ms.length:=by rw[<- hj.length];simp
  wp_walk using wpAny_loadPart' hl,wpAny_loadPart' E,wpAny_forIn_list _ (λrest b C=>b.1=none/\C=⟨v,g,d,z,os⟩/\∃(vs ws:List Value) (f i:List Int),rest=vs.zip ws /\
   IntsAre vs f/\IntsAre ws i/\f.length+items2.size=i.length+items.size/\R (.ok (.ret (.bool (lexLt f i)))) ⟨v,g,d,z,os⟩) _
  case turn =>
   rintro⟨y,x⟩ rest b C ⟨r,rfl,vs,ws,f,i,j,p,k,hlen,m⟩
   cases p with
   |nil=>rw[Q2] at j;cases j
   |cons a t hvi' =>
    cases k with
    |nil=>rw[QO] at j;cases j
    |cons c u hwi' =>
     rw[yd] at j
     injection j with hyx hrest
     injection hyx with hy hx
     subst hy hx
     rw[fA] at m
     simp only[qy] at hlen
     obtain⟨e,he,o⟩:=sM A.in1 ⟨v,g,d,z,os⟩ a t c u
     refine qa (he prog w _ _ ?_)
     cases e with
     |true =>
      rw[if_pos (o.mp rfl)] at m
      wp_walk
      exact⟨rfl,rfl,_,_,_,_,hrest,hvi',hwi',by omega,m⟩
     |false =>
      rw[if_neg (λq=>absurd (o.mpr q) zBf)] at m
      have B:=aCK A.in1 ⟨v,g,d,z,os⟩ a t c u prog w
      wp_walk using B
      exact⟨_,rfl,by simpa using m⟩
  case fin =>
   rintro⟨F,G⟩ C ⟨r,rfl,vs,ws,f,i,j,p,k,hlen,m⟩
   simp only at r
   subst r
   have D:lexLt f i=decide (items.size<items2.size):=by
    cases p with
    |nil =>
     cases k with
     |nil =>
      simp only[vg] at hlen
      rw[rO]
      exact (decide_eq_false '!').symm
     |cons c u hw =>
      simp only[vg,qy] at hlen
      rw[fT]
      exact ((by omega).29).symm
    |cons a t D =>
     cases k with
     |nil =>
      simp only[vg,qy] at hlen
      rw[jX]
      exact (decide_eq_false '!').symm
     |cons c u hw =>
      rw[yd] at j
      cases j
   rw[D] at m
   wp_walk
   exact⟨_,rfl,by simpa[du] using m⟩
  case h =>
   exact⟨rfl,rfl,items.toList,items2.toList,ns,ms,rfl,hi,hj,by omega,h⟩
end
section
variable {E:Value->Shared->Prop}
theorem n9{l:Addr}{items items2:Array Value}{ns:List Int}{Q:Value->Shared->Prop}(hl:IsTup s.heap l items)(hb:IsTup s.heap b items2)(hi:IntsAre items.toList ns)(hj:IntsAre items2.toList ms)(hu:A.units<cLine)(h:Q (.bool (lexLt ns ms)) s):wpAny w.8 A (vc .Lt (.ref l) (.ref b)) Q E s:=by
 obtain⟨⟨cls,j,data,k⟩,f,g,n,hd⟩:=id hl
 obtain⟨⟨i,e,data2,d⟩,c,a,m,hd2⟩:=id hb
 simp only at g hd a hd2
 subst g hd a hd2
 exact fx (op := .Lt) ⟨_,f,rfl⟩ ⟨_,c,rfl⟩ PySem.F.slot_tuple_lt PySem.F.entry_tuple_lt (PySem.F.args_tuple_lt_2 _ _) (rN l b items items2 n m j e k d ns ms hi hj)
  ⟨f,c,show kz (lexLt ns ms)≠Qa/\Q (.bool (lexLt ns ms)) s from ⟨(λx=>nomatch x),h⟩⟩ hu
theorem aGI{t:Addr}{vs ws:List Value}{Q:Value->Shared->Prop}(ht:IsTup s.heap t vs.toArray)(hb:IsTup s.heap b ws.toArray)(hv:vs≠[])(h1:ws=[]->Q (.ref t) s)(h2:ws≠[]->Q (.ref s.heap.objs.size) {s with heap:=s.heap.push {cls := .type "tuple", data := .seq (vs++ws).toArray} })(hsz:vs.length+ws.length<=sizeLine):wpAny w.8 A (wo .Add (.ref t) (.ref b)) Q E s:=by
 obtain⟨⟨cls,h,data,j⟩,g,i,n,hd⟩:=id ht
 obtain⟨⟨k,f,data2,c⟩,a,d,l,hd2⟩:=id hb
 simp only at i hd d hd2
 subst i hd d hd2
 have e:vs.toArray++ws.toArray=(vs++ws).toArray:=by simp
 by_cases hw:ws=[]
 ·exact Q8 ⟨_,g,rfl⟩ ⟨_,a,rfl⟩ pq QE cv cj (bw _ _)
   (tuple_addW1 t b vs.toArray ws.toArray n l h f j c (by simpa using hv) (by simp[hw])) ⟨g,a,h1 hw⟩
 ·refine Q8 ⟨_,g,rfl⟩ ⟨_,a,rfl⟩ pq QE cv cj (bw _ _)
   (tuple_addW2 t b vs.toArray ws.toArray n l h f j c (by simpa using hv) (by simpa using hw) (by rw[qc,qc];exact hsz)) ⟨g,a,?_⟩
  rw[e]
  exact h2 hw
noncomputable def sIx(n d:Nat):Option Int->Nat
 |none=>d
 |some v=>if v<0 then (v+(n:Int)).toNat else min v.toNat n
theorem aDZ(n d:Nat):sIx n d none=d:=rfl
theorem mC(n d k:Nat):sIx n d (k:Int).3=min k n:=by
 show (if (k:Int)<0 then ((k:Int)+(n:Int)).toNat else min (k:Int).toNat n)=min k n
 rw[if_neg '!',jj]
theorem aKG(n d:Nat)(hd:d<=n)(o:Option Int):sIx n d o<=n:=by
 cases o with
 |none=>exact hd
 |some v =>
  show (if v<0 then (v+(n:Int)).toNat else min v.toNat n)<=n
  by_cases a:v<0
  ·rw[if_pos a];omega
  ·rw[if_neg a];exact Nat.min_le_right _ _
end
end HT
namespace L2
open PySem PySem.Spec PyProof.Rows
abbrev TO:=St->Hp->(Option Int->Hp->Prop)->Prop
def PO(X:Cx)(e:Option Expr)(t:TO):Prop:=
 ∀(pins:List '+') (s:Shared) (σ:St) (H:Hp) (Q:Option Int->Hp->Prop),Inv X pins σ H s->t σ H Q ->
  wpAny X.w.6 X.A (evalPart e X.env) (λu s'=>∃o H',Inv X pins σ H' s'/\IsPart u o/\Q o H') X.xe s
def aHI:TO:=λ_ H Q=>Q none H
def aK7(t:TE):TO:=λσ H Q=>t σ H λx H1=>∃i,x = .int i/\Q i.3 H1
theorem intsAre_of{ns:List Int}:∀{us:List Value},Vals (ns.map V.int) us->IntsAre us ns:=by
 induction ns with
 |nil=>intro us r;rw[h8] at r;cases r;exact .nil
 |cons n ns ih =>
  intro us r
  rw[jo] at r
  cases r with
  |cons r1 r2 =>
   obtain⟨t,e⟩:=r1
   subst e
   exact .cons n t (ih r2)
section
variable {lo hi:Option Expr}{tl th:TO}{pos:Pos}
theorem aF2:PO X none aHI:=by
 show '#'
 rw[evalPart_none]
 exact wpAny_pure ⟨none,H,I, .none,h⟩
theorem aHQ(h:PE X e te):PO X e.3 (aK7 te):=by
 intro pins s σ H Q I hw
 rw[evalPart_some]
 refine thn (h pins s σ H _ I hw) λu s1 ⟨x,H1,I1,r1,a⟩ => ?_
 obtain⟨i,rfl,q⟩:=a
 obtain⟨t,rfl⟩:=r1
 exact⟨some i,H1,I1, .int i t,q⟩
def SlR(X:Cx)(r:V->Option Int->Option Int->Hp->VK->Prop):Prop:=
 ∀(pins:List '+') (s:Shared) (σ:St) (H:Hp) (x:V) (v vl vu:Value) (lo hi:Option Int) (sl:Addr) (Q:VK),Inv X pins σ H s->RelV x v->s.heap.IsSliceOf sl vl vu .none->IsPart vl lo->IsPart vu hi->r x lo hi H Q ->
  ∃T id,typeLookup (.type T) "__getitem__" = pure (.builtin id).3/\s.TypeIs v T/\wpAny X.w.6 X.A (Vj v (.ref sl)) (EP X pins σ Q) X.xe s
def tSl(r:V->Option Int->Option Int->Hp->VK->Prop)(te:TE)(tl th:TO):TE:=λσ H Q=>te σ H λx H1=>tl σ H1 λl H2=>th σ H2 λu H3=>r x l u H3 Q
theorem aDI{r:V->Option Int->Option Int->Hp->VK->Prop}(hr:SlR X r)(he:PE X e te)(hl:PO X lo tl)(hu:PO X hi th):PE X (.Subscript e (.Slice lo hi none p2) pos) (tSl r te tl th):=by
 show '#'
 refine Subscript_ (thn (he pins s σ H _ I h) λv s1 ⟨x,H1,I1,r1,k⟩ => ?_)
 refine wpAny_Slice (thn (hl pins s1 σ H1 _ I1 k) λc s2 ⟨l,H2,I2,g,m⟩=>thn (hu pins s2 σ H2 _ I2 m) λa s3 ⟨u,H3,I3,pu,j⟩ => ?_)
 rw[evalPart_none]
 refine wpAny_pure ?_
 have I4:Inv X pins σ H3 {s3 with heap:=s3.heap.push {cls := .type "slice", data := .fields #[c,a, .none]} }:=I3.kept (t':=s3.toks) λb ob q=>qf _ q
 obtain⟨T,id,f,d,i⟩:=hr pins {s3 with heap:=s3.heap.push {cls := .type "slice", data := .fields #[c,a, .none]} } σ H3 x v c a l u s3.heap.objs.size Q I4 r1 (JN ..) g pu j
 show wpAny X.w.6 X.A (subscriptTail e (.Slice lo hi none p2) v (.ref s3.heap.objs.size)) (EP X pins σ Q) X.xe {s3 with heap:=s3.heap.push {cls := .type "slice", data := .fields #[c,a, .none]} }
 exact tail_any (ops:=[.ref s3.heap.objs.size,v]) d f i (by with_unfolding_all rfl)
noncomputable def nW(xs:List V)(lo hi:Option Int):List V:=(xs.drop (HT.sIx xs.length 0 lo)).take (HT.sIx xs.length xs.length hi-HT.sIx xs.length 0 lo)
theorem uR(xs:List V)(lo hi:Option Int):(nW xs lo hi).length<=xs.length:=by
 unfold nW
 rw[jv,wz]
 omega
def aLR(K:qg):R2:=λx y H Q=>∃a b xs ys,x = .ref a/\y = .ref b/\SqT K H a xs/\SqT K H b ys/\xs≠[]/\xs.length+ys.length<=sizeLine /\
 (ys=[]->Q (.ref a) H)/\(ys≠[]->∀p,H p=none->Q (.ref p) (upd H p (.tup (xs++ys))))
theorem Vals.nil_iff{xs:List V}(r:Vals xs us):us=[]↔xs=[]:=by
 cases r with
 |nil=>simp
 |cons _ _=>simp
theorem aHP:OpR X (wo .Add) (aLR X.K):=by
 intro pins s σ H x y v u Q I g n h
 obtain⟨a,b,xs,j,rfl,rfl,l,m,e,c,p,r⟩:=h
 cases g
 cases n
 obtain⟨k,r1,f,_⟩:=I.tuple l
 obtain⟨d,r2,i,_⟩:=I.tuple m
 refine HT.aGI f i (λz=>e (r1.nil_iff.mp z)) (λz=>⟨.ref a,H,I,rfl,p (r2.nil_iff.mp z)⟩) (λz => ?_) (by rw[<- r1.length,<- r2.length];exact c)
 refine⟨.ref s.heap.objs.size,_,I.laid (t':=s.toks) (o := .tup (xs++j)) (λb ob q=>qf _ q) (qo _) ?_,rfl,r (λw=>z (r2.nil_iff.mpr w)) _ (I.hok.fresh (qo _))⟩
 exact⟨by rw[qe];exact c,_,r1.append r2,lD.new _ _⟩
end
end L2
namespace L2
open PySem PySem.Spec PyProof.Rows
noncomputable def ixN(n:Nat)(i:Int):Option Nat:=if 0<=i then (if i<n then some i.toNat else none) else if -(n:Int)<=i then some (i+n).toNat else none
noncomputable def atI{α:Type}(xs:List α)(i:Int):Option α:=(ixN xs.length i).bind λj=>xs[j]?
theorem vJ{i:Int}(h:ixN n i=some j):seqIndex? i n=some j/\j<n /\ -(n:Int)<=i/\i<n:=by
 unfold ixN at h
 by_cases h0:0<=i
 ·rw[if_pos h0] at h
  by_cases a:i<n
  ·rw[if_pos a] at h
   have e:i.toNat=j:=jc h
   exact⟨by rw[Js h0 a,e],by omega,by omega,a⟩
  ·rw[if_neg a] at h;cases h
 ·rw[if_neg h0] at h
  by_cases a : -(n:Int)<=i
  ·rw[if_pos a] at h
   have e:(i+n).toNat=j:=jc h
   exact⟨by rw[Q7 '!' a,e],by omega,a,by omega⟩
  ·rw[if_neg a] at h;cases h
theorem pK{α:Type}{xs:List α}{i:Int}{v:α}(h:atI xs i=some v):∃j,seqIndex? i xs.length=some j/\xs[j]?=some v/\j<xs.length /\ -(xs.length:Int)<=i/\i<xs.length:=by
 unfold atI at h
 cases e:ixN xs.length i with
 |none=>rw[e] at h;cases h
 |some j =>
  rw[e] at h
  obtain⟨c,b,d,a⟩:=vJ e
  exact⟨j,c,h,b,d,a⟩
theorem bU{α:Type}{xs:List α}{v:α}(h:xs[j]?=some v):atI xs (j:Int)=some v:=by
 have a:j<xs.length:=(h.5).1
 have e:ixN xs.length (j:Int)=some j:=by
  unfold ixN
  rw[if_pos '!',if_pos '!'];simp
 unfold atI;rw[e];exact h
def pJ(b:Expr):Prop:=∀o i,subscripted b false o i=operate [o,i] (Vj o i)
def IxR(X:Cx)(r:R2):Prop:=
 ∀(value slice:Expr) (pins:List '+') (s:Shared) (σ:St) (H:Hp) (x y:V) (v u:Value) (Q:VK),Inv X pins σ H s->RelV x v->RelV y u->r x y H Q ->
  subscripted slice false v u=operate [v,u] (Vj v u)->wpAny X.w.6 X.A (subscriptTail value slice v u) (EP X pins σ Q) X.xe s
def MtR(X:Cx)(id:String)(r:V->List V->Hp->VK->Prop):Prop:=
 ∀(pins:List '+') (s:Shared) (σ:St) (H:Hp) (x:V) (xs:List V) (v:Value) (us:List Value) (Q:VK),Inv X pins σ H s->RelV x v->Vals xs us->r x xs H Q ->
  wpAny X.w.6 X.A (call (.builtin id) (v::us)) (EP X pins σ Q) X.xe s
section
variable {a b:Expr}{tb:TE}{pos:Pos}
theorem IxR.or{r r':R2}(h:IxR X r)(h':IxR X r'):IxR X (λx y H Q=>r x y H Q\/r' x y H Q):=by
 intro value slice pins s σ H x y v u Q I b c q a
 rcases q with q|q
 ·exact h value slice pins s σ H x y v u Q I b c q a
 ·exact h' value slice pins s σ H x y v u Q I b c q a
theorem aKN{r:R2}(hr:IxR X r)(ha:PE X a ta)(hb:PE X b tb)(hs:pJ b):PE X (.Subscript a b pos) (tOp r ta tb):=by
 show '#'
 exact Subscript_ (aEK ha hb I h λv u s2 x y H2 I2 c d q=>hr a b pins s2 σ H2 x y v u Q I2 c d q (hs _ _))
def rIxL(K:qg):R2:=λx y H Q=>∃p xs i v,x = .ref p/\y = .int i/\SqL K H p xs/\atI xs i=some v/\Q v H
def rIxT(K:qg):R2:=λx y H Q=>∃p xs i v,x = .ref p/\y = .int i/\SqT K H p xs/\atI xs i=some v/\Q v H
def rIxS:R2:=λx y H Q=>∃z i c,x = .str z/\y = .int i/\z.length<=sizeLine/\atI z.cps.toList i=some c/\Q (.str ⟨#[c]⟩) H
theorem aG9:IxR X (rIxL X.K):=by
 intro value slice pins s σ H x y v u Q I l A h g
 obtain⟨p,xs,i,z,rfl,rfl,n,he,q⟩:=h
 cases l
 obtain⟨t,rfl⟩:=A
 obtain⟨c,r,e,C⟩:=I.list n
 obtain⟨j,a,B,E,k,m⟩:=pK he
 obtain⟨w,f,b⟩:=r.get B
 have hl:=r.length
 have D:=line63
 have fin:EP X pins σ Q w s:=⟨z,H,I,b,q⟩
 by_cases h0:0<=i
 ·have d:i.toNat=j:=by
   rw[Js h0 m] at a
   exact jc a
  exact item_listR e.isList h0 '!' (by rw[d];simpa using f) fin g
 ·have d:(i+(c.toArray.size:Int)).toNat=j:=by
   rw[Q7 '!' k] at a
   rw[qc,<- hl]
   exact jc a
  exact fw (x:=w) e.isList.typeIs slot_list_getitem.lookup
   (wpAny_getItem_list_neg (Q:=λr o=>r=w/\EP X pins σ Q r o) e.isList '!' (by rw[qc] <;> omega) '!' (by rw[d];simpa using f) ⟨rfl,fin⟩) g
theorem aID:IxR X (rIxT X.K):=by
 intro value slice pins s σ H x y v u Q I d k h n
 obtain⟨p,xs,i,z,rfl,rfl,f,he,q⟩:=h
 cases d
 obtain⟨t,rfl⟩:=k
 obtain⟨e,r,b,B⟩:=I.tuple f
 obtain⟨j,c,l,D,o,A⟩:=pK he
 obtain⟨w,m,a⟩:=r.get l
 have hl:=r.length
 have C:=line63
 have fin:EP X pins σ Q w s:=⟨z,H,I,a,q⟩
 exact fw (x:=w) b.typeIs slot_tuple_getitem.lookup
  (getItem_tuple (j:=j) (Q:=λr g=>r=w/\EP X pins σ Q r g) b '!' '!' (by rw[qc,<- hl];exact c) (by simpa using m) ⟨rfl,fin⟩) n
theorem aHW:IxR X rIxS:=by
 intro value slice pins s σ H x y v u Q I d g h m
 obtain⟨z,i,c,rfl,rfl,o,he,q⟩:=h
 obtain⟨t,rfl⟩:=d
 obtain⟨n,rfl⟩:=g
 obtain⟨j,a,k,r,b,e⟩:=pK he
 have hl:z.cps.toList.length=z.length:=by simp[Vv]
 rw[hl] at a b e
 have p:=line63
 exact tail_any (typeIs_str s z t) slot_str_getitem.lookup (getItem_str (c:=c) (by
  have f:decide (i < -(2^63:Int))=false:=decide_eq_false '!'
  have l:decide (i≥2^63)=false:=decide_eq_false '!'
  rw[f,l,JL]) (by rw[a];simpa using k) ⟨.str ⟨#[c]⟩,H,I.tok _,⟨_,rfl⟩,q⟩) m
def rIx(K:qg):R2:=λx y H Q=>rIxL K x y H Q\/rIxT K x y H Q\/rIxS x y H Q
theorem aM:IxR X (rIx X.K):=aG9.or (aID.or aHW)
theorem xP(its:List Value)(n j:Nat)(u:Value):ji (·.setIfInBounds j u) {cls := .type "list", data := .seq its.toArray n}={cls := .type "list", data := .seq (its.set j u).toArray n}:=by
 simp[ji]
theorem Inv.lst{p:Addr}{xs:List V}(I:Inv X pins σ H s)(h:H p=some (.lst xs)):
  ∃(its:List Value) (n:Nat),Vals xs its/\s.heap.get? p=some {cls := .type "list", data := .seq its.toArray n}/\xs.length<=sizeLine:=by
 obtain⟨z,its,n,r,e⟩:=I.hok p _ h
 exact⟨its,n,r,e,z⟩
theorem Inv.lstUpd{p:Addr}{xs ys:List V}{its':List Value}{n':Nat}{f:Obj->Obj}(I:Inv X pins σ H s)(h:H p=some (.lst xs))(ho:s.heap.get? p=some {cls := .type "list", data := .seq its.toArray n})(hf:f {cls := .type "list", data := .seq its.toArray n}={cls := .type "list", data := .seq its'.toArray n' })(r:Vals ys its')(hz:ys.length<=sizeLine)(t:Nat):
  Inv X pins σ (upd H p (.lst ys)) {s with heap:=s.heap.update p f,toks:=t}:=by
 have e:(s.heap.update p f).get? p=some {cls := .type "list", data := .seq its'.toArray n' }:=by
  rw[xb f ho (by rw[hf] <;> rfl),hf]
 refine I.write (x:=p) (e:=p) (by rw[h];trivial) '1' (λb u a q=>(tw _ _ (vi a)).trans q) ⟨_,e⟩ ?_
 exact⟨hz,its',n',r,e⟩
def aK1:V->V->V->Hp->(Hp->Prop)->Prop:=λo i v H Q=>∃p xs k j,o = .ref p/\i = .int k/\H p=some (.lst xs)/\ixN xs.length k=some j/\Q (upd H p (.lst (xs.set j v)))
theorem set_list:PSet X aK1:=by
 intro pins s σ H o i v ov z u Q I l m y h
 obtain⟨p,xs,k,j,rfl,rfl,f,x,q⟩:=h
 cases l
 obtain⟨t,rfl⟩:=m
 obtain⟨a,n,r,d,w⟩:=I.lst f
 obtain⟨b,B,g,e⟩:=vJ x
 have hl:=r.length
 have A:=line63
 have I':Inv X pins σ (upd H p (.lst (xs.set j v))) {s with heap:=s.heap.update p (ji (·.setIfInBounds j u))}:=
  I.lstUpd f d (xP a n j u) (r.set y j) (by rw[d4];exact w) s.toks
 by_cases h0:0<=k
 ·have c:k.toNat=j:=by
   rw[Js h0 e] at b
   exact jc b
  exact PySem.W.ki_setAt d h0 '!' (by rw[qc,<- hl];exact e) (by rw[c];exact⟨_,I',q⟩)
 ·have c:(k+(a.toArray.size:Int)).toNat=j:=by
   rw[Q7 '!' g] at b
   rw[qc,<- hl]
   exact jc b
  exact PySem.W.ki_setBack d '!' (by rw[qc,<- hl];exact g) '!' (by rw[c];exact⟨_,I',q⟩)
theorem lH(lo hi:Option Int)(n:Nat):(cc lo hi none n).1=((HT.sIx n 0 lo:Nat):Int)/\(cc lo hi none n).2.1=((HT.sIx n n hi:Nat):Int)/\(cc lo hi none n).2.2=1:=by
 refine⟨?_,?_,rfl⟩
 ·cases lo with
  |none=>simp[cc,HT.sIx]
  |some i =>
   simp only[cc,HT.sIx,QM,show (1:Int)>0 by decide,if_true]
   by_cases h:i<0
   ·simp only[h,if_true] <;> omega
   ·simp only[h,if_false] <;> omega
 ·cases hi with
  |none=>simp[cc,HT.sIx]
  |some i =>
   simp only[cc,HT.sIx,QM,show (1:Int)>0 by decide,if_true]
   by_cases h:i<0
   ·simp only[h,if_true] <;> omega
   ·simp only[h,if_false] <;> omega
theorem rK(its:List Value)(lo hi:Option Int):slicePick its.toArray lo hi none=((its.drop (HT.sIx its.length 0 lo)).take (HT.sIx its.length its.length hi-HT.sIx its.length 0 lo)).toArray:=by
 obtain⟨b,a,c⟩:=lH lo hi its.toArray.size
 unfold slicePick
 rw[b,a,c]
 simp only[sliceRange_one,pick_run,qc] <;> rfl
def rSlL(K:qg):V->Option Int->Option Int->Hp->VK->Prop:=λx lo hi H Q=>∃a xs,x = .ref a/\SqL K H a xs/\∀p,H p=none->Q (.ref p) (upd H p (.lst (nW xs lo hi)))
theorem pH:SlR X (rSlL X.K):=by
 intro pins s σ H x v n m lo c l Q I f k j pu h
 obtain⟨a,xs,rfl,e,q⟩:=h
 cases f
 obtain⟨g,r,d,i⟩:=I.list e
 have hlen:=r.length
 refine⟨"list", _,slot_list_getitem.lookup,d.isList.typeIs,?_⟩
 refine wpAny_getItem_list_slice d.isList k j pu .none '*' ?_ (by rw[qc] <;> omega)
 rw[rK,<- hlen]
 refine⟨.ref s.heap.objs.size,_,I.laid (t':=s.toks) (o := .lst (nW xs lo c)) (λb ob q=>qf _ q) (qo _) ?_,rfl,q _ (I.hok.fresh (qo _))⟩
 exact⟨jw (uR xs lo c) i,_,0,(r.drop (HT.sIx xs.length 0 lo)).take (HT.sIx xs.length xs.length c-HT.sIx xs.length 0 lo),qq _ rfl⟩
noncomputable def eqV:V->V->Bool
 |.non, .non=>true
 |.bl a, .bl b=>a==b
 |.bl a, .int b=>(if a then 1 else 0)==b
 |.int a, .bl b=>a==(if b then 1 else 0)
 |.int a, .int b=>a==b
 |.str a, .str b=>a==b
 |_,_=>false
noncomputable def inV(x:V)(xs:List V):Bool:=xs.any λy=>eqV y x
theorem sG:dB X (.type "list") (λxs H Q=>∃p ys,xs=[.ref p]/\(SqL X.K H p ys\/SqT X.K H p ys)/\∀l,H l=none->Q (.ref l) (upd H l (.lst ys))):=by
 show '%'
 obtain⟨p,ys,rfl,i,q⟩:=h
 obtain⟨u,rfl,v⟩:=vals1 r
 cases v
 have fin:∀(a:List Value),Vals ys a->ys.length<=sizeLine->∀(c:Heap) (f:Nat),(∀b o',s.heap.get? b=some o'->c.get? b=some o') ->
   c.get? s.heap.objs.size=some {cls := .type "list", dict:=none,data := .seq a.toArray f,slots := #[]}->EP X pins σ Q (.ref s.heap.objs.size) {s with heap:=c}:=λa d j c f g e =>
  ⟨.ref s.heap.objs.size,_,I.laid (t':=s.toks) g (qo _) (show cM X.prog X.w _ c _ (.lst ys) from ⟨j,a,f,d,e⟩),rfl,q _ (I.hok.fresh (qo _))⟩
 rcases i with i|i
 ·obtain⟨a,d,t,j⟩:=I.list i
  have hlen:=d.length
  obtain⟨o,k,m,n,hd⟩:=t.isList
  exact call_list_seq p '1' k m hd (λc f g e=>fin a d j c f g e) (by simp only[qc] <;> omega)
 ·obtain⟨a,d,t,j⟩:=I.tuple i
  have hlen:=d.length
  obtain⟨o,k,m,n,hd⟩:=t
  exact call_list_seq p (.inr rfl) k m hd (λc f g e=>fin a d j c f g e) (by simp only[qc] <;> omega)
theorem gM:dB X (.type "tuple") (λxs H Q=>∃p ys,xs=[.ref p]/\((SqL X.K H p ys/\∀l,H l=none->Q (.ref l) (upd H l (.tup ys)))\/(SqT X.K H p ys/\Q (.ref p) H))):=by
 show '%'
 obtain⟨p,ys,rfl,h⟩:=h
 obtain⟨u,rfl,k⟩:=vals1 r
 cases k
 rcases h with ⟨f,q⟩|⟨f,q⟩
 ·obtain⟨a,d,g,i⟩:=I.list f
  have hlen:=d.length
  refine call_tuple_list g.isList (λc j => ?_) (by simp only[qc] <;> omega)
  have I1:Inv X pins σ H {s with heap:=c}:=I.kept (t':=s.toks) j
  have I2:Inv X pins σ (upd H c.objs.size (.tup ys)) {s with heap:=c.push {cls := .type "tuple", data := .seq a.toArray} }:=
   I1.laid (t':=s.toks) (λb o e=>qf _ e) (qo _) (show cM X.prog X.w _ _ _ (.tup ys) from ⟨i,a,d,lD.new _ _⟩)
  exact⟨.ref c.objs.size,_,I2,rfl,q _ (I1.hok.fresh (qo _))⟩
 ·obtain⟨a,d,g,i⟩:=I.tuple f
  exact call_tuple_same g ⟨.ref p,H,I,rfl,q⟩
def tyV(K:qg)(T:String)(x:V)(H:Hp):Prop:=match x with
 |.str _=>T = "str"
 |.int _=>T = "int"
 |.ref p=>(T = "list" /\ ∃xs,SqL K H p xs)\/(T = "tuple" /\ ∃o,K.lookup p=some o/\o.cls = .type "tuple" /\ o.dict=none) \/
   (T = "dict" /\ ((∃kvs,H p=some (.dK kvs))\/∃kvs,H p=some (.dT kvs)))\/(T = "set" /\ ∃S n,H p=some (.set S n))
 |_=>False
theorem aIW{T:String}{x:V}{v:Value}(I:Inv X pins σ H s)(r:RelV x v)(ty:tyV X.K T x H):
  s.TypeIs v T/\∀a,v = .ref a->∃ob,s.heap.get? a=some ob/\ob.dict=none:=by
 cases x with
 |str z =>
  obtain⟨t,rfl⟩:=r
  cases (show T = "str" from ty)
  exact⟨typeIs_str s z t,λ_ e=>nomatch e⟩
 |int i =>
  obtain⟨t,rfl⟩:=r
  cases (show T = "int" from ty)
  exact⟨typeIs_int s i t,λ_ e=>nomatch e⟩
 |ref p =>
  cases r
  rcases ty with ⟨rfl,xs,j⟩|⟨rfl,o,b,k,hd⟩|⟨rfl,b⟩|⟨rfl,S,n,b⟩
  ·obtain⟨h,_,g,_⟩:=I.list j
   refine⟨g.isList.typeIs,λa e => ?_⟩
   cases e
   obtain⟨o,n,e,c,hd,_⟩:=g
   exact⟨o,e,hd⟩
  ·refine⟨⟨o,I.kIn p o b,k⟩,λa e => ?_⟩
   cases e
   exact⟨o,I.kIn _ o b,hd⟩
  ·have z:∃o,s.heap.get? p=some o/\o.ExactDict:=by
    rcases b with ⟨f,b⟩|⟨f,b⟩
    ·obtain⟨_,_,_,_,o,_,_,e,ex,_⟩:=I.hok p _ b
     exact⟨o,e,ex⟩
    ·obtain⟨_,_,_,_,o,_,_,e,ex,_⟩:=I.hok p _ b
     exact⟨o,e,ex⟩
   obtain⟨o,e,ex⟩:=z
   refine⟨⟨o,e,ex.1⟩,λa d => ?_⟩
   cases d
   exact⟨o,e,ex.2.1⟩
  ·obtain⟨o,_,_,_,e,ex,_⟩:=I.hok p _ b
   refine⟨⟨o,e,ex.1⟩,λa d => ?_⟩
   cases d
   exact⟨o,e,ex.2.1⟩
 |_=>exact vn ty
def tBM(K:qg)(T:String)(r:V->List V->Hp->VK->Prop)(to:TE)(t:TA):TE:=λσ H Q=>to σ H λx H1=>tyV K T x H1/\t σ H1 λxs H2=>r x xs H2 Q
variable {to:TE}{t:TA}{T id:String}
theorem aKX(pa:PlainAttrs T)(slot:Slot T name id)(hty:typeOf (.builtin id)=pure (.type "method_descriptor"))(hm:MtR X id r)(ho:PE X o to)(ha:PA X (e::es) t)(hbase:ff o name X.env (eval o X.env)=eval o X.env:=by rfl)(hfew:((yg cpos (starEach (e::es) X.env)).all (λx => !x.1)&&(cw cpos (yj [] X.env)).all (λx=>x.1.isSome)
   && decide '7')=true:=by rfl)(hline:(apos.endLine==cpos.line)=true:=by rfl)(hs:starEach (e::es) X.env=(false,eval e X.env)::starEach es X.env:=by rfl)(hplain:(yg cpos X.env.28).any (·.1)=false:=by rfl):
  PE X (.Call (.Attribute o name apos) (e::es) [] cpos) (tBM X.K T r to t):=by
 show '#'
 refine QW hbase hfew hline rfl (thn (ho pins s σ H _ I h) λv s1 ⟨x,H1,I1,r1,ty,d⟩ => ?_)
 obtain⟨c,b⟩:=aIW I1 r1 ty
 refine⟨T,id,pa,slot,hty,c,b,?_⟩
 have hA:=ha cpos pins s1 σ H1 _ I1 d
 rw[hs] at hA ⊢
 refine df (by show (false||(yg cpos X.env.28).any (·.1))=false;rw[hplain] <;> rfl) (fk ?_)
 exact thn hA λus s2 ⟨vs,H2,I2,r2,f⟩=>hm pins s2 σ H2 x vs v us Q I2 r1 r2 f
/- xs.append(e),list.index on a module's tuple .. are MtR facts of 06m -/
end
end L2
namespace L2
open PySem PySem.Spec PyProof.Rows
def MtM(X:Cx)(id:String)(r:V->List V->Hp->VK->Prop):Prop:=
 ∀(pins:List '+') (s:Shared) (σ:St) (H:Hp) (x:V) (xs:List V) (v:Value) (us:List Value) (Q:VK),Inv X pins σ H s->RelV x v->Vals xs us->r x xs H Q ->
  wpAny X.w.6 X.A (call (.builtin id) (v::us)) (EP X pins σ Q) X.xe s
theorem Vals.one:∀{x:V}{us:List Value},Vals [x] us->∃u,us=[u]/\RelV x u
 |_,_, .cons r .nil=>⟨_,rfl,r⟩
section
variable {l:Addr}{xs ys zs:List V}
theorem Inv.lset{its':List Value}{f:Array Value->Array Value}(I:Inv X pins σ H s)(hH:H l=some (.lst xs))(e:s.heap.get? l=some {cls := .type "list", data := .seq its.toArray n})(hf:f its.toArray=its'.toArray)(hv:Vals ys its')(hz:ys.length<=sizeLine):
  Inv X pins σ (upd H l (.lst ys)) {s with heap:=s.heap.update l (ji f),toks:=t' }:=by
 have q:=PySem.IsL.update e f
 rw[hf] at q
 refine I.write (x:=l) (e:=l) (by rw[hH];exact trivial) '1' (λc u b a=>(tw s.heap (ji f) (vi b)).trans a) ⟨_,q⟩ ?_
 exact⟨hz,its',_,hv,q⟩
theorem Inv.lnew(I:Inv X pins σ H s)(hv:Vals ys its)(hz:ys.length<=sizeLine):
  Inv X pins σ (upd H s.heap.objs.size (.lst ys)) {s with heap:=s.heap.push {cls := .type "list", data := .seq its.toArray},toks:=t' }:=
 I.laid (λ_ _ q=>qf _ q) (qo _) ⟨hz,its,0,hv,qq _ rfl⟩
theorem Inv.fresh(I:Inv X pins σ H s):H s.heap.objs.size=none:=I.hok.fresh (qo _)
theorem Inv.lstM(I:Inv X pins σ H s)(hH:H l=some (.lst xs)):xs.length<=sizeLine/\∃(its:List Value) (n:Nat),Vals xs its/\xs.length=its.length/\s.heap.get? l=some {cls := .type "list", data := .seq its.toArray n}:=by
 obtain⟨z,its,n,r,e⟩:=I.hok l _ hH
 exact⟨z,its,n,r,r.length,e⟩
theorem aDK(h:n<=sizeLine):gz n=false:=by
 unfold gz
 exact decide_eq_false '!'
end
section
def wE:V->List V->Hp->VK->Prop:=λx vs H Q=>∃l xs y,x = .ref l/\vs=[y]/\H l=some (.lst xs)/\xs.length<sizeLine/\Q .non (upd H l (.lst (xs++[y])))
theorem cS:MtM X "list.append" wE:=by
 intro pins s σ H x vs v us Q I c f h
 obtain⟨l,xs,y,rfl,rfl,b,g,q⟩:=h
 cases c
 obtain⟨u,rfl,d⟩:=f.one
 obtain⟨z,a,n,r,hl,e⟩:=I.lstM b
 refine call_meets F.slot_list_append ⟨_,e,rfl⟩ F.entry_list_append (F.args_list_append_2 _ _) (PySem.list_append l a.toArray n u (by rw[qc];omega)) ⟨e,?_⟩
 refine⟨.non,_,I.lset (its':=a++[u]) b e '*' (r.append (.cons d .nil)) ?_,rfl,q⟩
 rw[qe,vp]
 omega
def aD7:R2:=λx y H Q=>∃l b xs zs,x = .ref l/\y = .ref b/\H l=some (.lst xs)/\H b=some (.lst zs)/\xs.length+zs.length<=sizeLine/\∀p,H p=none->Q (.ref p) (upd H p (.lst (xs++zs)))
theorem iP:OpR X (wo .Add) aD7:=by
 intro pins s σ H x y v u Q I f i h
 obtain⟨l,b,xs,zs,rfl,rfl,k,g,m,q⟩:=h
 cases f
 cases i
 obtain⟨z,c,n,r,hl,e⟩:=I.lstM k
 obtain⟨o,a,p,r2,hl2,j⟩:=I.lstM g
 refine PySem.P.add_list e j ?_ (by rw[qc,qc];omega)
 have d:c.toArray++a.toArray=(c++a).toArray:=by simp
 rw[d]
 exact⟨.ref _,_,I.lnew (t':=s.toks) (r.append r2) (by rw[qe];omega),rfl,q _ I.fresh⟩
end
section
variable {E:Value->Shared->Prop}
set_option maxRecDepth 100000 in
end
section
end
end L2
namespace Att
open PySem PySem.W PySem.Calls PyProof.Rows
theorem n8{P:yx}:∀(ns:List Int) (vs:List Value),WellAll P h vs (ns.map WData.int)->IntsAre vs ns:=by
 intro ns
 induction ns with
 |nil =>
  intro vs w
  rw[h8] at w
  cases w
  exact .nil
 |cons n ns ih =>
  intro vs w
  rw[jo] at w
  cases w with
  |cons a b =>
   cases a
   exact .cons _ _ (ih _ b)
theorem yZ{l:OpenLaw}(hn:l.most=some n){P:yx}{args:List WData}{vals:List Value}(hpre:l.row.toRowW.claim.pre args=true)(hwl:WellAll P h vals args):
  ∃a vs ns,vals=[jh a]/\args=[WData.list (ns.map WData.int)]/\h.get? a=some {cls := .type "list", data := .seq vs.toArray}/\IntsAre vs ns/\ns.length<=n:=by
 have e:WShape.hasAll [] args [.list .int]=true:=(pre_splitW hpre).1
 have f:l.pre.holds [] {args:=args}=true:=(pre_splitW hpre).2
 obtain⟨d,r,rfl,g,k⟩:=hasAllW_cons e
 obtain rfl:=hasAllW_nil k
 obtain⟨xs,rfl,i⟩:=hasW_list g
 obtain⟨ns,rfl⟩:=items_int i
 have hlen:ns.length<=n:=by
  unfold OpenLaw.pre at f
  have b:(WTm.not (.lt (.lit (.int (n:Int))) (.len (.arg 0)))).holds [] {args:=[.list (ns.map .int)]}=true:=by
   have b:=(holds_andW f).1
   rw[hn] at b
   exact b
  have c:=condW_of b (w_not (w_lt w_lit (w_len_list (w_arg rfl))))
  rw[zLm] at c
  refine Nat.le_of_not_lt λq => ?_
  have j:(n:Int)<((ns.length:Nat):Int):=by omega
  first
   | (rw[decide_eq_true j] at c;exact absurd c '$')
   | (simp at c;omega)
 cases hwl with
 |cons w1 w2 =>
  cases w2
  cases w1 with
  |list ho hall=>exact⟨_,_,ns,rfl,rfl,ho,n8 ns _ hall,hlen⟩
theorem aBY(l:OpenLaw)(args:List WData):l.row.toRowW.claim.post args (.bool true) args=true:=
 postW_of (r:=l.row.toRowW) (X:=(true==true))
  (show WShape.has [] (.bool true) .bool=true by first|rfl|decide|simp[WShape.has,WShape.arms,WShape.armsAll])
  (show (WTm.eq .res (.lit (.bool true))).value [] {args:=args,res:=some (.bool true),after:=args}=some (.bool (true==true)) from w_eq_bool (w_res rfl) w_lit) rfl
theorem uM{l:OpenLaw}{q:Program}{XP:(Str->Option Value)->Heap->Prop}{d:DefRec}(hn:l.most=some n)(hdf:d.params.defaults=[])(call:∀(w:World) (s₀ s₁:Shared) (mg mb:Str->Option Value) (fa:Addr) (o:Obj) (pm cd doc:Value) (a:Addr) (vs:List Value) (ns:List Int),
   Ground q loose [] XP w s₀ mg mb s₁.heap->YP w s₁.heap ->
   s₁.heap.get? fa=some o->o.data = .func (docDef d.name d.params d.body d.scope pm cd doc)->s₁.heap.CodeRec cd d.name->mg d.name=some (.ref fa) ->
   s₁.heap.get? a=some {cls := .type "list", data := .seq vs.toArray}->IntsAre vs ns->ns.length<=n->s₁.gens = #[] ->
   fb (ja l.prog w) si (.call (.ref fa) ⟨[.ref a],[]⟩) '=' s₁):
  WalkO q loose XP YP l.row.toRowW d [] (λf vs=>QG f vs):=by
 intro w s₀ s₁ mg mb G Y fa o pm cd doc v kV t hd g j h y args vals as b i k e p
 obtain rfl:v = .none:=Dflts.none j hdf
 obtain rfl:kV = .none:=Dflts.noKw j
 obtain⟨a,vs,ns,rfl,rfl,c,hints,hlen⟩:=yZ hn b e
 refine enter_call (f5 (call w s₀ s₁ mg mb fa o pm cd doc a vs ns G Y t (fd_plain hd) g h c hints hlen y) λr s' u => ?_)
 obtain⟨rfl,z,x,m⟩:=u
 exact⟨.inl ⟨.bool true, .bool true,[],rfl,λ_=>rfl, .bool true,aBY l _,λ_=>⟨dt,λ_ hm=>(nomatch hm)⟩⟩,z,x,m⟩
section
variable {E:Value->Shared->Prop}{K:Frag}
end
end Att
namespace L2
open PySem PySem.Spec PyProof.Rows
theorem i7:∀{vs:List Value}{ns:List Int},IntsAre vs ns->Vals (ns.map V.int) vs
 |_,_, .nil => .nil
 |_,_, .cons n t h => .cons ⟨t,rfl⟩ (i7 h)
noncomputable def dE(s:Stmt):Arguments:=match s with
 |.FunctionDef _ a _ _ _ _ _ _ _ _=>a
 |_=>{posonlyargs:=[],args:=[],vararg:=none,kwonlyargs:=[],kw_defaults:=[],kwarg:=none,defaults:=[]}
noncomputable def cU(s:Stmt):List Stmt:=match s with
 |.FunctionDef _ _ b _ _ _ _ _ _ _=>b
 |_=>[]
noncomputable def aK(s:Stmt):Scope:=match s with
 |.FunctionDef _ _ _ _ _ _ sc _ _ _=>sc
 |_=>{kind := .function,names:=[],isGenerator:=false,isCoroutine:=false}
abbrev CX0:CXT:=λ_ _ _ _ _ _=>False
abbrev E0:XK:=λ_ _ _=>False
theorem pass0:Passes CX0 X E0:=λ_ _ _ _ _ _ _ h=>h.elim
structure Fun(K:qg)(x qual:Str)(st:Stmt)(f:Addr)(fd:FuncData):Prop where
 ex:∃(oc:Value) (od:Option Addr) (kV doc pm:Value) (an:Option Addr) (cdv ct:Value) (osl:Array (Option Value)),
  fd=wu x qual (dE st) (cU st) (aK st) .none kV doc pm an cdv ct/\K.lookup f=some ⟨oc,od, .func fd,osl⟩/\mw K cdv qual=true
 kp:zb K (.ref f)=true
section
variable {K:qg}
theorem Fun.ok{ps:List Str}{k:Nat}{sp:Sp}(F:Fun K x qual st f fd)(S:FnScope N ps (aK st))(len:∀vs H Q E,sp vs H Q E->vs.length=ps.length)(hbody:∀(cdv:Value) (A:Around) (outer:List Env) (s:Shared) (H:Hp) (vs:List V) (Q:VK) (E:XK),Room k (A.deeper (r5 qual (aK st) s.heap.objs.size f cdv))->sp vs H Q E ->
   ∃t,PSs (nB CX0 P w K mg base N qual (aK st) f cdv A outer s H E).nox (cU st) t/\t {nx:=λ_ H'=>Q .non H',rt:=Q} (start N vs) H):FnOk P w K mg base CX0 (k+1) f fd ps sp:=by
 obtain⟨i,g,kV,doc,pm,an,cdv,j,e,rfl,d,a⟩:=F.ex
 refine aEL d a S len λA outer s H vs Q E c b => ?_
 obtain⟨t,h,q⟩:=hbody cdv A outer s H vs Q E c b
 exact⟨t,h.nox,q⟩
theorem Fun.binds{ps:List Str}(F:Fun K x qual st f fd)(h:∀(kV doc pm:Value) (an:Option Addr) (cdv ct:Value) (us:List Value),us.length=ps.length->bindArgs (wu x qual (dE st) (cU st) (aK st) .none kV doc pm an cdv ct) ⟨us,[]⟩=pure (ps.zip us)):Binds K fd ps []:=by
 obtain⟨d,c,kV,doc,pm,an,cdv,ct,b,rfl,e,a⟩:=F.ex
 exact .all (h kV doc pm an cdv ct)
theorem aJZ{oc:Value}{od an:Option Addr}{osl:Array (Option Value)}{kV doc cdv ct:Value}(l:K.lookup f=some ⟨oc,od, .func (wu x qual (dE st) (cU st) (aK st) .none kV doc pm an cdv ct),osl⟩)(c:mw K cdv qual=true)(k:zb K (.ref f)=true):Fun K x qual st f (wu x qual (dE st) (cU st) (aK st) .none kV doc pm an cdv ct):=⟨⟨oc,od,kV,doc,pm,an,cdv,ct,osl,rfl,l,c⟩,k⟩
end
section
end
theorem b4{A B:Prop}(h:B):if false=true then A else B:=by
 rw[if_neg zBf]
 exact h
theorem cP{A B:Prop}(h:A):if true=true then A else B:=by
 rw[if_pos rfl]
 exact h
theorem ite2{c A B:Prop}[Decidable c](h1:c->A)(h2:¬c->B):if c then A else B:=by
 by_cases h:c
 ·rw[if_pos h]
  exact h1 h
 ·rw[if_neg h]
  exact h2 h
def Same(H H':Hp):Prop:=∀b o,H b=some o->H' b=some o
theorem Same.refl(H:Hp):Same H H:=λ_ _ h=>h
theorem Same.trans{H2:Hp}(a:Same H H1)(b:Same H1 H2):Same H H2:=λc o h=>b c o (a c o h)
theorem Same.free(e:Same H H'){l:Addr}(h:H' l=JG):H l=JG:=by
 cases q:H l with
 |none=>rfl
 |some o =>
  rw[e l o q] at h
  cases h
theorem Same.seq{K:qg}{xs:List V}(e:Same H H')(h:SqL K H a xs):SqL K H' a xs:=by
 rcases h with (h|⟨o,h⟩)|h
 ·exact .inl (.inl (e _ _ h))
 ·exact .inl (.inr ⟨o,e _ _ h⟩)
 ·exact .inr h
end L2
namespace HB
open PySem PySem.W
abbrev S(x:String)(k:Nat):Value := .str (qu x) k
abbrev R(a:Nat):Value := .ref a
abbrev I(a:Int):Value := .int a 0
abbrev J(a:Int)(k:Nat):Value := .int a k
abbrev E(P:yx)(x:String)(k:Nat)(v:Value):DictEntry:=⟨PyData.keyHash P (qu x), .str (qu x) k,v⟩
abbrev tO(l:List Value):Obj:=⟨.type "tuple", none, .seq l.toArray 0,#[]⟩
abbrev vO(l:List Value):Obj:=⟨.none,none, .fields l.toArray,#[]⟩
abbrev dO(l:List DictEntry)(n:Nat):Obj:=⟨.type "dict", none, .dict l.toArray n,#[]⟩
abbrev fO(n:String)(s:Stmt)(pm:Value)(cd:Nat):Obj:=⟨.type "function", none, .func {name:=qu n,qualname:=qu n,params:=L2.dE s,body := .stmts (L2.cU s),scope:=L2.aK s,globals:=3,closure:=[],defaults := .none,kwdefaults := .none,doc := .none,pyModule:=pm,annotations:=none,code := .ref cd,closureTuple := .none,builtins:=0},#[]⟩
abbrev pO(n:String)(s:Stmt):Obj:=⟨.none,none, .func {name:=qu n,qualname:=qu n,params:=L2.dE s,body := .stmts (L2.cU s),scope:=L2.aK s,globals:=0,closure:=[],defaults := .none,kwdefaults := .none,doc := .none,pyModule := .none,annotations:=none,code := .none,closureTuple := .none,builtins:=0},#[]⟩
abbrev cO(n f:String)(t1 t2 t3 l1 c1 c2 c3 c4 a1 a2 a3 a4 a5 t4 l2 t5:Nat)(b:Bool)(k:Nat):Obj:=⟨.type "code", none, .fields #[S n t1,S n t2,S f t3,I l1,I c1,I c2,I c3,I c4,R a1, .bool b,I k,R a2, .none,R a3,R a4,R a5,I t4,I l2,S f t5],#[]⟩
noncomputable def fl:String := "/claim/cut.py"
noncomputable def vs:Nat->List String->List Value
 |_,[]=>[]
 |k,x::xs => .str (qu x) k::vs (k+1) xs
noncomputable def D7(s:Stmt)(n:String)(b t l c:Nat)(ns:List String)(pm:Value):List Obj:=
 [tO [],vO [],tO (vs (t+3) ns),tO [],pO n s,cO n "/claim/cut.py" t (t+1) (t+2) l c 0 0 3 b (b+1) (b+2) (b+3) (b+4) (t+3+ns.length) l (t+4+ns.length) true 181,fO n s pm (b+5)]
noncomputable def ov{a:Type}:List (Nat×a)->List a->List a
 |[],l=>l
 | (i,x)::r,l=>ov r (l.set i x)
noncomputable def ev{a:Type}:Nat->List a->List a
 |0,_=>[]
 |_+1,[]=>[]
 |_+1,[x]=>[x]
 |n+1,x::_::r=>x::ev n r
noncomputable def bt:Nat->List Obj->BT
 |0,_ => .nil
 |_+1,[] => .nil
 |n+1,x::r => .node x (bt n (ev (2^n) r)) (bt n (ev (2^n) r.tail))
abbrev sh(h:Heap)(k:Nat)(os:z8):Shared:=⟨h,Array.mk [],{},k,os⟩
abbrev sT(t:BT)(n k:Nat)(os:z8):SharedT:=⟨t,n,{},Array.mk [],{},k,os⟩
abbrev ps(a b c d:Nat):Pos:=⟨a,b,c,d⟩
abbrev z:Pos:=⟨0,0,0,0⟩
abbrev B:List Frame:=[topFrame z]
theorem aC3:segRunT ye=KC wc:=by rw[KL,vd]
theorem eGo:topGo ye=Kz wc:=by rw[KG,vd]
theorem eSeg:segRun ye=KA wc:=by rw[KH,vd]
theorem eTop:topRun ye=KB wc:=by rw[KI,vd]
end HB
namespace Q
open PySem
noncomputable def top(i:Nat):Stmt:=PySem.Challenge.pw_roofridges_k20_rims_told.main.body.getD i (.Pass ⟨0,0,0,0⟩)
abbrev gR:Stmt:=top 1
abbrev i6:Stmt:=top 3
abbrev oM:Stmt:=top 4
abbrev fZ:Stmt:=top 5
abbrev mS:Stmt:=top 6
abbrev dU:Stmt:=top 8
abbrev gX:Stmt:=top 9
abbrev f6:Stmt:=top 10
abbrev jC:Stmt:=top 11
abbrev g7:Stmt:=top 12
abbrev eY:Stmt:=top 13
abbrev o5:Stmt:=top 14
abbrev oU:Stmt:=top 16
abbrev jL:Stmt:=top 17
abbrev kM:Stmt:=top 18
abbrev mK:Stmt:=top 19
abbrev lX:Stmt:=top 20
abbrev kK:Stmt:=top 21
abbrev kP:Stmt:=top 22
abbrev o0:Stmt:=top 23
abbrev oS:Stmt:=top 24
abbrev mL:Stmt:=top 25
abbrev l9:Stmt:=top 26
abbrev kJ:Stmt:=top 27
abbrev rS:Stmt:=top 28
abbrev oG:Stmt:=top 29
abbrev mI:Stmt:=top 30
abbrev mJ:Stmt:=top 31
abbrev mO:Stmt:=top 32
end Q
namespace HD
open PySem PySem.W HB Q
noncomputable section
abbrev zS0:Value:=S "law_roofridges_k20_rims_told" 308
abbrev zS1:Value:=S "roofridges.rims" 244
abbrev zS2:Value:=S "roofridges.fronts" 199
noncomputable def es3(P:yx):List DictEntry:=[E P "__name__" 165 HD.zS0,E P "__doc__" 166 .none,E P "__package__" 167 .none,E P "__loader__" 168 (.builtin "__main__.__loader__#opaque"),E P "__spec__" 169 .none,E P "__annotations__" 170 (R 6),E P "__builtins__" 171 (R 4),E P "__file__" 173 (172).26,E P "__cached__" 174 .none,E P "has_cell" 198 (R 21),E P "is_edge" 212 (R 28),E P "runs" 223 (R 35),E P "stretches" 229 (R 40),E P "sides" 243 (R 47),E P "begin_and_end" 253 (R 54),E P "by_begin" 262 (R 61),E P "next_side" 273 (R 68),E P "ring_of" 283 (R 75),E P "place_of" 291 (R 82),E P "from_least" 301 (R 89),E P "rims" 307 (R 94),E P "_law_feed" 319 (R 101),E P "_law_next" 330 (R 108),E P "_law_shared" 338 (R 115),E P "_law_lines" 352 (R 122),E P "_law_is_in" 366 (R 129),E P "_law_tidied" 372 (R 134),E P "_law_across" 378 (R 139),E P "_law_tidy" 388 (R 146),E P "_law_yard" 394 (R 151),E P "_law_steps" 410 (R 158),E P "_law_place" 416 (R 163),E P "_law_placed" 427 (R 170),E P "_law_way" 435 (R 177),E P "_law_gone" 446 (R 184),E P "_law_turns" 458 (R 191),E P "_law_right" 472 (R 198),E P "law" 485 (R 205)]
noncomputable def es12:List Value:=[(I 2),(I 0),(R 20),(I 8),(I 0),(R 27),(I 18),(I 0),(R 34),(I 28),(I 0),(R 39),(I 31),(I 0),(R 46),(I 40),(I 0),(R 53),(I 45),(I 0),(R 60),(I 50),(I 0),(R 67),(I 55),(I 0),(R 74),(I 62),(I 0),(R 81),(I 64),(I 0),(R 88),(I 67),(I 0),(R 93),(I 80),(I 0),(R 100),(I 88),(I 0),(R 107),(I 99),(I 0),(R 114),(I 103),(I 0),(R 121),(I 113),(I 0),(R 128),(I 120),(I 0),(R 133),(I 125),(I 0),(R 138),(I 127),(I 0),(R 145),(I 133),(I 0),(R 150),(I 142),(I 0),(R 157),(I 161),(I 0),(R 162),(I 164),(I 0),(R 169),(I 176),(I 0),(R 176),(I 182),(I 0),(R 183),(I 191),(I 0),(R 190),(I 199),(I 0),(R 197),(I 216),(I 0),(R 204)]
noncomputable def hl0(P:yx):List Obj:=[boot_o_0 P]++[boot_o_1 P]++[boot_o_2 P]++[dO (es3 P) 38]++[boot_o_4 P]++[boot_o_5 P]++[boot_o_6 P]++[boot_o_7 P]++[boot_o_8 P]++[boot_o_9 P]++[boot_o_10 P]++[tO []]
noncomputable def hl1(P:yx):List Obj:=[vO es12]++[⟨.type "code", none, .fields #[(S "<module>" 182),(S "<module>" 183),(184).26,(I 1),(I 0),(I 0),(I 0),(I 0),(R 11),(.bool false),(I 181),(R 12), .none, .none, .none, .none,(I 185),(I 1),(186).26],#[]⟩]++[⟨(.type "frame"),none, .plain,#[some (R 13),some (R 3),some (R 3),none,some (S "__main__" 164),none,some (R 0)]⟩]++D7 (1).17 "has_cell" 15 189 2 3 ["yard", "across", "up", "rows"] (S "roofridges.yards" 187)++D7 (3).17 "is_edge" 22 201 8 4 ["yard", "facing", "place", "band", "beyond", "before"] HD.zS2++D7 (4).17 "runs" 29 213 18 1 ["truths", "told", "begin", "place", "truth"] HD.zS2++[tO []]++[vO []]++[pO "stretches" (5).17]++[⟨.type "code", none, .fields #[(S "stretches" 224),(S "stretches" 225),(226).26,(I 28),(I 3),(I 0),(I 0),(I 3),(R 36),(.bool true),(I 181),(R 37), .none, .none, .none,(R 38),(I 227),(I 28),(228).26],#[]⟩]++[fO "stretches" (5).17 HD.zS2 39]++D7 (6).17 "sides" 41 230 31 1 ["yard", "told", "facing", "along", "place", "line", "begin", "end"] HD.zS2
noncomputable def hl2(P:yx):List Obj:=D7 (8).17 "begin_and_end" 48 246 40 1 ["side", "way"] HD.zS1++D7 (9).17 "by_begin" 55 254 45 1 ["all_sides", "told", "side"] HD.zS1++D7 (10).17 "next_side" 62 263 50 2 ["side", "begun", "end", "left", "right"] HD.zS1++D7 (11).17 "ring_of" 69 274 55 2 ["first", "begun", "told", "side"] HD.zS1++D7 (12).17 "place_of" 76 284 62 2 ["yard", "point"] HD.zS1++[tO []]++[vO []]++[tO [(S "yard" 295),(S "points" 296),(S "least" 297)]]++[tO [(S "yard" 298)]]++[pO "from_least" (13).17]++[cO "from_least" "/claim/cut.py" 292 293 294 64 2 0 0 3 83 84 85 86 87 299 64 300 true 181]++[fO "from_least" (13).17 HD.zS1 88]
noncomputable def hl3(P:yx):List Obj:=[tO []]++[vO []]++[pO "rims" (14).17]++['3']++[fO "rims" (14).17 HD.zS1 93]++D7 (16).17 "_law_feed" 95 310 80 2 ["_law_script", "_law_k", "_law_cell", "_law_great"] HD.zS0++D7 (17).17 "_law_next" 102 320 88 2 ["_law_feed_here", "_law_many", "_law_digit", "_law_count", "_law_mixed"] HD.zS0++D7 (18).17 "_law_shared" 109 331 99 2 ["_law_one", "_law_other"] HD.zS0++D7 (19).17 "_law_lines" 116 339 103 2 ["_law_feed_here", "_law_many", "_law_bottom", "_law_most", "_law_at", "_law_found", "_law_k", "_law_by"] HD.zS0++D7 (20).17 "_law_is_in" 123 353 113 6 ["_law_feed_here", "_law_way_here", "_law_k", "_law_j", "_law_wide", "_law_high", "_law_edge", "_law_known"] HD.zS0++[tO []]++[vO []]
noncomputable def hl4(P:yx):List Obj:=[pO "_law_tidied" (21).17]++[⟨.type "code", none, .fields #[(S "_law_tidied" 367),(S "_law_tidied" 368),(369).26,(I 120),(I 2),(I 0),(I 0),(I 3),(R 130),(.bool true),(I 181),(R 131), .none, .none, .none,(R 132),(I 370),(I 120),(371).26],#[]⟩]++[fO "_law_tidied" (21).17 HD.zS0 133]++[tO []]++[vO []]++[pO "_law_across" (22).17]++[⟨.type "code", none, .fields #[(S "_law_across" 373),(S "_law_across" 374),(375).26,(I 125),(I 1),(I 0),(I 0),(I 3),(R 135),(.bool true),(I 181),(R 136), .none, .none, .none,(R 137),(I 376),(I 125),(377).26],#[]⟩]++[fO "_law_across" (22).17 HD.zS0 138]++D7 (23).17 "_law_tidy" 140 379 127 3 ["_law_xs", "_law_ys", "_law_rows", "_law_columns"] HD.zS0++[tO []]++[vO []]++[pO "_law_yard" (24).17]
noncomputable def hl5(P:yx):List Obj:=[⟨.type "code", none, .fields #[(S "_law_yard" 389),(S "_law_yard" 390),(391).26,(I 133),(I 2),(I 0),(I 0),(I 3),(R 147),(.bool true),(I 181),(R 148), .none, .none, .none,(R 149),(I 392),(I 133),(393).26],#[]⟩]++[fO "_law_yard" (24).17 HD.zS0 150]++D7 (25).17 "_law_steps" 152 395 142 1 ["_law_yard_here", "_law_xs", "_law_ys", "_law_rows", "_law_found", "_law_j", "_law_row", "_law_k", "_law_columns", "_law_column"] HD.zS0++[tO []]++[vO []]++[pO "_law_place" (26).17]++[⟨.type "code", none, .fields #[(S "_law_place" 411),(S "_law_place" 412),(413).26,(I 161),(I 2),(I 0),(I 0),(I 3),(R 159),(.bool true),(I 181),(R 160), .none, .none, .none,(R 161),(I 414),(I 161),(415).26],#[]⟩]++[fO "_law_place" (26).17 HD.zS0 162]++D7 (27).17 "_law_placed" 164 417 164 2 ["_law_ring", "_law_yard_here", "_law_found", "_law_point", "_law_place_here"] HD.zS0++D7 (28).17 "_law_way" 171 428 176 2 ["_law_one", "_law_other"] HD.zS0++D7 (29).17 "_law_gone" 178 436 182 3 ["_law_one", "_law_other", "_law_left", "_law_way_here", "_law_at"] HD.zS0++D7 (30).17 "_law_turns" 185 447 191 2 ["_law_places", "_law_there", "_law_k", "_law_come", "_law_goes", "_law_to_left"] HD.zS0
noncomputable def hl6(P:yx):List Obj:=D7 (31).17 "_law_right" 192 459 199 2 ["_law_found", "_law_yard_here", "_law_there", "_law_left", "_law_ahead", "_law_ring", "_law_places", "_law_k"] HD.zS0++D7 (32).17 "law" 199 473 216 1 ["_law_script", "_law_k", "_law_feed_here", "_law_yard_here", "_law_again", "_law_found", "_law_ring"] HD.zS0
noncomputable def hl(P:yx):List Obj:=hl0 P++hl1 P++hl2 P++hl3 P++hl4 P++hl5 P++hl6 P
noncomputable def hA(P:yx):Heap:=⟨Array.mk (ov [(3,boot_o_3 P),(12,vO (es12.take 0))] ((hl P).take 15)),{}⟩
noncomputable def env:Env:={scope:=PySem.Challenge.pw_roofridges_k20_rims_told.main.scope,locals:=mainNs,globals:=mainNs,cells:=[],code:=(R 13),frame:=some 14}
abbrev p:Program:=PySem.Challenge.rw_roofridges_k20_rims_told.row.toRowW.1
abbrev bE:List Stmt:=behindTheImports p
abbrev cE:Code := .body bE env
theorem pre(w:World)(os:z8):topGo ye p w 11 (R 6).3 12 ⟨boot_heap w.params,Array.mk [],boot_drawn,boot_toks,os⟩ (topStub p)=some (sh (hA w.params) 187 os,⟨denote ye cE,cE,(ps 0 0 0 0),B⟩):=by rw[eGo,KJ,vd];kernel_rfl!
def t0(P:yx):BT:=bt 14 (ov [(3,boot_o_3 P),(12,vO (es12.take 0))] ((hl P).take 15))
theorem block(w:World)(os:z8):segRun ye p w 11 (R 6).3 1 1 (sh (hA w.params) 187 os) (blockOf bE env cE (ps 0 0 0 0) B)=some (.next,(sT (t0 w.params) 15 187 os).abs,cE,(ps 0 0 0 0)):=by rw[eSeg];kernel_rfl!
def t1(P:yx):BT:=bt 14 (ov [(3,dO (ov [(0,E P "__name__" 165 HD.zS1)] ((es3 P).take 20)) 20),(12,vO (es12.take 33))] ((hl P).take 90))
noncomputable def g1:List Stmt:=[Q.top 0,Q.top 1,Q.top 2,Q.top 3,Q.top 4,Q.top 5,Q.top 6,Q.top 7,Q.top 8,Q.top 9,Q.top 10,Q.top 11,Q.top 12,Q.top 13]
theorem r1(w:World)(os:z8):segRunT ye p w 11 (R 6).3 1 377 (sT (t0 w.params) 15 187 os) (piecesOf g1 env cE (ps 0 0 0 0) B)=some (.next,sT (t1 w.params) 90 302 os,cE,(ps 64 0 66 42)):=by rw[aC3];kernel_rfl!
def t2(P:yx):BT:=bt 14 (ov [(3,dO (ov [] ((es3 P).take 32)) 32),(12,vO (es12.take 69))] ((hl P).take 164))
noncomputable def g2:List Stmt:=[Q.top 14,Q.top 15,Q.top 16,Q.top 17,Q.top 18,Q.top 19,Q.top 20,Q.top 21,Q.top 22,Q.top 23,Q.top 24,Q.top 25,Q.top 26]
theorem r2(w:World)(os:z8):segRunT ye p w 11 (R 6).3 1 377 (sT (t1 w.params) 90 302 os) (piecesOf g2 env cE (ps 64 0 66 42) B)=some (.next,sT (t2 w.params) 164 417 os,cE,(ps 161 0 163 34)):=by rw[aC3];kernel_rfl!
def t3(P:yx):BT:=bt 14 (ov [] ((hl P).take 206))
noncomputable def g3:List Stmt:=[Q.top 27,Q.top 28,Q.top 29,Q.top 30,Q.top 31,Q.top 32]
theorem r3(w:World)(os:z8):segRunT ye p w 11 (R 6).3 1 202 (sT (t2 w.params) 164 417 os) (piecesOf g3 env cE (ps 161 0 163 34) B)=some (.next,sT (t3 w.params) 206 486 os,cE,(ps 216 0 227 35)):=by rw[aC3];kernel_rfl!
noncomputable def hZ(P:yx):Heap:=⟨Array.mk (hl P),{}⟩
theorem fin(w:World)(os:z8):topRun ye p w 11 (R 6).3 2 (sT (t3 w.params) 206 486 os).abs ⟨doneF .next,cE,(ps 216 0 227 35),B⟩=some (sh (hZ w.params) 486 os):=by rw[eTop];kernel_rfl!
theorem body:bE=g1++(g2++(g3++([]))):=by kernel_rfl!
theorem chain(w:World)(os:z8):topRun ye p w 11 (R 6).3 (377+(377+(202+(2)))) (sT (t0 w.params) 15 187 os).abs (restOf (g1++(g2++(g3++([])))) env cE (ps 0 0 0 0) B)=some (sh (hZ w.params) 486 os):=piece_app (segRun_of (r1 w os)) (piece_app (segRun_of (r2 w os)) (piece_app (segRun_of (r3 w os)) (fin w os)))
theorem run(w:World)(os:z8):topRun ye p w 11 (R 6).3 (12+(1+(377+(377+(202+(2)))))) ⟨boot_heap w.params,Array.mk [],boot_drawn,boot_toks,os⟩ (topStub p)=some (sh (hZ w.params) 486 os):=go_top (pre w os) (piece_block (block w os) (by have h:=chain w os;rw[<- body] at h;exact h))
noncomputable def view:Program:={p with main:={p.main with body:=[Q.top 1,Q.top 3,Q.top 4,Q.top 5,Q.top 6,Q.top 8,Q.top 9,Q.top 10,Q.top 11,Q.top 12,Q.top 13,Q.top 14,Q.top 16,Q.top 17,Q.top 18,Q.top 19,Q.top 20,Q.top 21,Q.top 22,Q.top 23,Q.top 24,Q.top 25,Q.top 26,Q.top 27,Q.top 28,Q.top 29,Q.top 30,Q.top 31,Q.top 32]} }
noncomputable def ob(P:yx)(i:Nat):Obj:=(hl P).getD i default
noncomputable def kas:List Addr:=[4,2,3,15,17,18,20,21,22,24,25,27,28,29,31,32,34,35,36,39,40,41,43,44,46,47,48,50,51,53,54,55,57,58,60,61,62,64,65,67,68,69,71,72,74,75,76,78,79,81,82,83,85,86,88,89,90,93,94,95,97,98,100,101,102,104,105,107,108,109,111,112,114,115,116,118,119,121,122,123,125,126,128,129,130,133,134,135,138,139,140,142,143,145,146,147,150,151,152,154,155,157,158,159,162,163,164,166,167,169,170,171,173,174,176,177,178,180,181,183,184,185,187,188,190,191,192,194,195,197,198,199,201,202,204,205]
noncomputable def zo(P:yx)(a:Nat):Addr×Obj:=(a,ob P a)
noncomputable def K(P:yx):Frag:=kas.map λa=>(a,ob P a)
noncomputable def KT(P:yx):Frag:=(84,ob P 84)::(91,ob P 91)::K P
noncomputable def as:List Addr:=84::91::kas
abbrev Hk:Hook:=kHook KT as (λ_=>by kernel_rfl!)
theorem opens:∀w:World,(fencedOpening ye p w 2032).map (λs=>(s.heap,s.gens,s.drawn,s.toks))=some (boot_heap w.params,Array.mk [],boot_drawn,boot_toks):=boot_open (by kernel_rfl!) (by kernel_rfl!) (λ_=>by kernel_rfl!)
abbrev Xt:Shared->Bool:=λs=>xlAt view [] s&&recOk (RowW.records PySem.Challenge.rw_roofridges_k20_rims_told.row.toRowW) s
theorem size(w:World):((boot_heap w.params).isNs jx&&(Array.mk ([]:List JD)).size==0,(boot_heap w.params).objs.size,(boot_heap w.params).nsMap jx "__annotations__")=(true,11,(R 6).3):=by kernel_rfl!
theorem look1(w:World)(os:z8):(staticsOk (Vl p.main.body) (boot_heap w.params) (hZ w.params)&&namesBound p (hZ w.params)&&gensDone (sh (hZ w.params) 486 os)&&laidKept (boot_heap w.params) (hZ w.params))=true:=by kernel_rfl!
theorem look2(w:World)(os:z8):openSeen view [] (Vl p.main.body) Xt true (sh (hZ w.params) 486 os)=openGood view []:=by rw[KF];kernel_rfl!
theorem look3(w:World)(os:z8):Hk.obs (sh (hZ w.params) 486 os)=Hk.val w:=by kernel_rfl!
theorem left:LeftO p view [] Xt Hk.obs Hk.val 2032 true:=LeftO.of_pieces opens size run (by kernel_rfl!) (λw=>funext λos=>by rw[look1,look2,look3])
theorem said:PySem.Challenge.rw_roofridges_k20_rims_told.wellSaid=true:=by rw[KD];kernel_rfl!
end
end HD
namespace L2
open PySem PySem.Spec PyProof.Rows
noncomputable def big:Nat:=2^8000
def aEZ(i j:Int):Prop:=i.natAbs<big/\j.natAbs<big
section
theorem aFP:OpR X (wo .Mult) (rI aEZ λi j => .int (i*j)):=
 opI λ_ _ _ _ _ _ _ a q=>mul_int q (IntMulOk.of_le (m:=8000) (n:=8000) (Vt.mpr a.1) (Vt.mpr a.2) '$')
end
theorem aIO{K:qg}{S T:String}{b:Bool}(h1:(gv S==gv T)=false)(h2:QK T=true)(h3:(fastBuiltinMro S).map (·.contains (.type T))=some b):
  yh K (.type S) (.type T)=some b:=by
 unfold yh PySem.W.kitCls
 rw[if_neg (by rw[h1];exact zBf)]
 show (if QK T=true then _ else _)=_
 rw[if_pos h2]
 exact h3
theorem aCL{K:qg}{t:Value}(h:(t==t)=true:=by first|rfl|simp):yh K t t=some true:=by
 unfold yh;rw[if_pos h]
section
end
end L2
namespace L2
open PySem PySem.Spec PyProof.Rows
structure ExcK(K:qg)(C:Addr):Prop where
 cd:(PySem.W.clsIn K C).isSome=true
 ga:xu K (.ref C) "__getattribute__" = some (.builtin "BaseException.__getattribute__").3
 gt:xu K (.ref C) "__getattr__" = some none
 cl:xu K (.ref C) "__class__" = some (.builtin "object.__class__").3
 be:nu K C (.type "BaseException")=some true
 ob:nu K C (.type "object")=some true
section
variable {E:Value->Shared->Prop}{g:Array JD}{d:Drawn}{t:Nat}{os:z8}{K:qg}
end
section
end
end L2
namespace L2
open PySem PySem.Spec PyProof.Rows
structure Thrown(h₀:Heap)(H':Hp)(e T:Addr)(cls:Value)(h:Heap):Prop where
 ne:h₀.get? e=none
 nT:h₀.get? T=none
 He:H' e=none
 HT:H' T=none
 ob:∃oe vs oT ts a0,h.get? e=some oe/\(oe.cls=cls/\vs[0]?=some a0)/\oe.data = .fields vs/\vs[1]?=some (.ref T)/\T≠e/\h.get? T=some oT/\oT.data = .fields ts/\ts[3]?=some .none
section
end
end L2
namespace L2
open PySem PySem.Spec PyProof.Rows
noncomputable def bmV:List Value:=[.type "ValueError", .type "Exception", .type "BaseException", .type "object"]
section
variable {E:XK}{np pos:Pos}{e₀:Expr}{rest:List Expr}{ta:TA}
end
structure ThrownX(X:Cx)(pins:List '+')(H':Hp)(e T:Addr)(cls:Value)(h:Heap):Prop where
 e0:X.s₀.heap.get? e=none
 T0:X.s₀.heap.get? T=none
 He:H' e=none
 HT:H' T=none
 eL:e≠X.env.locals
 TL:T≠X.env.locals
 ce:∀x c,X.env.cells.lookup x=some c->c≠e/\c≠T
 pe:∀p∈X.pn++pins,p.1≠e/\p.1≠T
 ob:∃oe vs oT ts a0,h.get? e=some oe/\(oe.cls=cls/\vs[0]?=some a0)/\oe.data = .fields vs/\vs[1]?=some (.ref T)/\T≠e/\h.get? T=some oT/\oT.data = .fields ts/\ts[3]?=some .none
def XP(X:Cx)(pins:List '+')(σ:St)(E:XK)(v:Value)(s':Shared):Prop:=∃e T cls H',v = .ref e/\Inv X pins σ H' s'/\ThrownX X pins H' e T cls s'.heap/\E cls none H'
section
end
end L2
namespace L2
open PySem PySem.Spec PyProof.Rows
section
end
end L2
namespace Num
theorem aDV(a b:Int):va b (a.fmod b)=va a b:=by
 rw[Int.fmod_def,Int.gcd_comm a b]
 exact Int.gcd_sub_mul_left_right _ _ _
theorem aF5(a b:Int)(hb:b≠0):(a.fmod b).natAbs<b.natAbs:=by
 rcases Int.lt_or_gt_of_ne hb with h|h
 ·have h0:0 < -b:=by omega
  have e:a.fmod b = -((-a).fmod (-b)):=by rw[Int.neg_fmod_neg];omega
  have d:=Qf (-a) h0
  have c:=Q4 (-a) h0
  omega
 ·have d:=Qf a h
  have c:=Q4 a h
  omega
noncomputable def div(t b:Int):Int:=if b<0 then -((va t b:Nat):Int) else ((va t b:Nat):Int)
noncomputable def top(t b:Int):Int:=t.fdiv (div t b)
noncomputable def bot(t b:Int):Int:=b.fdiv (div t b)
theorem aE6{t b:Int}(h:b≠0):0<va t b:=nh t h
theorem aHK(t b:Int):(div t b).natAbs=va t b:=by
 unfold div;split <;> omega
theorem aHG(t b:Int):div t b∣t:=by
 unfold div;split
 ·exact Vo.mpr (dg ..)
 ·exact dg ..
theorem aHF(t b:Int):div t b∣b:=by
 unfold div;split
 ·exact Vo.mpr (cu ..)
 ·exact cu ..
theorem aGQ(t b:Int):top t b*div t b=t:=QS (aHG t b)
theorem aG7(t b:Int):bot t b*div t b=b:=QS (aHF t b)
theorem low(t b:Int)(h:b≠0):va (top t b) (bot t b)=1:=by
 have g:=aE6 (t:=t) h
 have e:va (top t b*div t b) (bot t b*div t b)=va (top t b) (bot t b)*(div t b).natAbs:=Int.gcd_mul_right ..
 rw[aGQ,aG7,aHK] at e
 have a:1*va t b=va (top t b) (bot t b)*va t b:=by rw[QH];exact e
 exact (Nat.eq_of_mul_eq_mul_right g a).symm
end Num
namespace R
open PySem L2
theorem BI:ke "int" = some (.type "int"):=by decide +kernel
theorem BT:ke "tuple" = some (.type "tuple"):=by decide +kernel
structure Df(K:qg)(mg:Str->Option Value)(x:Str)(st:Stmt)(ps:List Str)(f:Addr)(fd:FuncData):Prop where
 F:Fun K x x st f fd
 b:Binds K fd ps []
 m:mg x=some (.ref f)
structure Bn(mg:Str->Option Value):Prop where
 isi:mg "isinstance" = none
 int:mg "int" = none
 bool:mg "bool" = none
 tuple:mg "tuple" = none
 len:mg "len" = none
 abs:mg "abs" = none
 range:mg "range" = none
 min:mg "min" = none
inductive Kn(K:qg)(H:Hp):V->Prop
 |non:Kn K H .non
 |bl (b:Bool):Kn K H (.bl b)
 |int (i:Int):Kn K H (.int i)
 |str (x:Str):Kn K H (.str x)
 |lst {a:Addr}{xs:List V} (e:H a=some (.lst xs)):Kn K H (.ref a)
 |tup {a:Addr}{xs:List V} (e:H a=some (.tup xs)):Kn K H (.ref a)
section
variable {K:qg}
theorem aFU(a:Int):(if a<0 then -a else a)=((va a 0:Nat):Int):=by
 rw[Int.gcd_zero_right];split <;> lia
end
end R
namespace R
open PySem L2
section
variable {K:qg}
structure Kn2(K:qg)(H:Hp)(v:V):Prop where
 kn:Kn K H v
 two:∀a x y,v = .ref a->H a=some (.tup [x,y])->Kn K H x/\Kn K H y
theorem at0{x y:V}:atI [x,y] (0:Int)=some x:=rfl
end
end R
namespace L2
open PySem PySem.Spec PyProof.Rows
end L2
namespace R
open PySem L2
structure Fd(H:Hp)(p:Addr)(b:Int):Prop where
 ex:∃g m st:Int,H p=some (.lst [.int g, .int m, .int st])/\0<=g/\0<=m/\m<2147483399/\0<=st/\st<=b
section
variable {K:qg}
theorem qI(x:Int){m:Int}(h0:0<m)(h1:m<2^64): -(2^64)<x%m/\x%m<2^64:=by
 have:=bb x (show m≠0 by lia)
 have:=za x h0
 lia
end
end R
namespace R
open PySem L2
section
variable {K:qg}
end
end R
namespace R
open PySem L2
structure Ex(K:qg)(mg:Str->Option Value)(CR CN CY CP CT CW CM:Addr):Prop where
 mR:mg "RoofError" = some (.ref CR)
 mN:mg "NoNumber" = some (.ref CN)
 mY:mg "NoYard" = some (.ref CY)
 mP:mg "NoPoint" = some (.ref CP)
 mT:mg "NoText" = some (.ref CT)
 mW:mg "NoRow" = some (.ref CW)
 mM:mg "NoName" = some (.ref CM)
 vE:mg "ValueError" = none
 xN:PySem.W.excIn K CN bmV "ValueError.__new__" = true
 kN:ExcK K CN
 cN:PySem.W.exmOne K (.ref CN) (.ref CR)=some true
 iV:yh K (.ref CN) (.type "ValueError")=some true
 iO:PySem.W.kitAny K (.ref CN) [.ref CM, .ref CP, .ref CW, .ref CT, .ref CY]=some false
section
variable {K:qg}{CR CN CY CP CT CW CM:Addr}
end
end R
namespace R
open PySem L2
section
variable {K:qg}
end
end R
namespace R
open PySem L2
end R
namespace L2
open PySem PySem.Spec PyProof.Rows
section
variable {E:Value->Shared->Prop}
end
section
variable {pos:Pos}
end
end L2
namespace Num
end Num
namespace R
open PySem L2
structure Sz(k:Nat)(x:Rat):Prop where
 n:x.num.natAbs<2^k
 d:x.den<2^k
end R
namespace L2
open PySem PySem.Spec PyProof.Rows
theorem eX:∀(names:List (Str×NameKind)) (n:Nat) (acc:List (Str×Addr)),cellsFrom n names acc=cellsFrom n names []++acc
 |[],_,_=>rfl
 | (name,kind)::r,n,acc=>by
  unfold cellsFrom
  split
  ·rw[eX r (n+1) ((name,n)::acc),eX r (n+1) [(name,n)],qx];rfl
  ·exact eX r n acc
theorem pD:∀(names:List (Str×NameKind)) (n:Nat) (acc:List (Str×Addr)) {y:Str}{c:Addr},(y,c)∈cellsFrom n names acc->(y,v7)∈names\/(y,c)∈acc
 |[],_,_,_,_,h => .inr h
 | (name,kind)::r,n,acc,y,c,h=>by
  unfold cellsFrom at h
  split at h
  ·rename_i hk
   rcases pD r (n+1) _ h with q|q
   all_goals grind
  ·rcases pD r n _ h with q|q
   all_goals grind
theorem gZ{y:Str}:∀{l m:List (Str×Addr)},(l++m).lookup y=match l.lookup y with|some c=>some c|none=>m.lookup y
 |[],_=>rfl
 | (n,c)::l,m=>by
  rw[zm,vy,vy]
  cases y==n with
  |true=>rfl
  |false=>exact gZ (l:=l) (m:=m)
theorem kH{scope:Scope}{env:Env}:∀(names:List (Str×NameKind)) (acc:List (Str×Addr)),
  (∀n,(n,jr)∈names->∃c,env.cells.lookup n=some c)->(∀n c,acc.lookup n=some c->env.cells.lookup n=some c) ->
  ∃cl,(forIn names acc λx cs=>(if x.2==jr then (do let c <- cellOf env x.1;pure (v8 ((x.1,c)::cs))) else pure (v8 cs)):Sem (Str×Addr).9)=pure cl /\
   (∀n c,cl.lookup n=some c->env.cells.lookup n=some c)/\(∀n,(n,jr)∈names->∃c,cl.lookup n=some c)/\∀n c,acc.lookup n=some c->∃c',cl.lookup n=some c'
 |[],acc,_,h2=>⟨acc,rfl,h2,(λ_ h=>nomatch h),λn c e=>⟨c,e⟩⟩
 | (name,kind)::r,acc,h1,h2=>by
  have d:∀n,(n,jr)∈r->∃c,env.cells.lookup n=some c:=λn a=>h1 n (jn _ a)
  by_cases g:kind = .free
  ·subst g
   obtain⟨c,k⟩:=h1 name kh
   obtain⟨cl,e,i,j,f⟩:=kH (scope:=scope) (env:=env) r ((name,c)::acc) d (λn c' a=>by
    rw[vy] at a
    cases b:n==name with
    |true =>
     rw[b] at a
     have:n=name:=by simpa using b
     subst this
     cases a;exact k
    |false=>rw[b] at a;exact h2 n c' a)
   refine⟨cl,?_,i,λn a => ?_,λn c' a => ?_⟩
   ·rw[m4]
    simp only[beq_self_eq_true,if_true]
    have l:cellOf env name=pure c:=by unfold cellOf;rw[k]
    rw[l]
    exact e
   ·rcases jb.mp a with z|z
    ·cases z
     exact f _ c (by rw[vy,beq_self_eq_true])
    ·exact j n z
   ·cases b:n==name with
    |true=>exact f n c (by rw[vy,b])
    |false=>exact f n c' (by rw[vy,b];exact a)
  ·obtain⟨cl,e,i,j,f⟩:=kH (scope:=scope) (env:=env) r acc d h2
   refine⟨cl,?_,i,λn a => ?_,f⟩
   ·rw[m4]
    have b:(kind==jr)=false:=by simpa using g
    simp only[b,vw,if_false]
    exact e
   ·rcases jb.mp a with z|z
    ·cases z;exact absurd rfl g
    ·exact j n z
theorem kU{env:Env}(h:∀n,(n,jr)∈scope.names->∃c,env.cells.lookup n=some c):
  ∃cl,closureFor scope env=pure cl/\(∀n c,cl.lookup n=some c->env.cells.lookup n=some c)/\(∀n,(n,jr)∈scope.names->∃c,cl.lookup n=some c):=by
 obtain⟨cl,e,a,b,_⟩:=kH (scope:=scope) (env:=env) scope.names [] h (λn c e=>by cases e)
 refine⟨cl,?_,a,b⟩
 show ((forIn scope.names [] λx cs=>(if x.2==jr then (do let c <- cellOf env x.1;pure (v8 ((x.1,c)::cs))) else pure (v8 cs)):Sem (Str×Addr).9) >>= λcs=>pure cs)=pure cl
 rw[e]
 rfl
theorem uN{M:Jp}{E:Value->Shared->Prop}{globals:Addr}{code:Value}{env:Env}{Q:Env->Shared->Prop}(h:Q (newEnv scope s.heap.objs.size globals (cellsFrom '2' scope.names cl) qual none code env.3 Qu) {s with heap:=dq (s.heap.push {cls := .type "dict", data := .dict #[]}) scope.names}):
  wpAny M A (Vs scope globals cl [] qual none code env.3) Q E s:=by
 simp only[Vs,Option.isSome_some,if_true]
 refine qa (wpAny_alloc ?_)
 refine qa (wpAny_layCells _ (λname kind cells=>by cases hkc:kind==v7 <;> simp[hkc]) _ _ _ _ ?_)
 rw[show ({s with heap:=s.heap.push {cls := .type "dict", data := .dict #[]} }:Shared).heap.objs.size=s.heap.objs.size+1 from xc ..]
 exact qa h.14.14
noncomputable def aY(X:Cx)(scope:Scope)(cs:List (Str×Addr))(C:Addr)(Nc:List Str)(s₀:Shared)(H₀:Hp)(fp:List Addr):Cx:=
 {X with N:=Nc,s₀:=s₀,H₀:=H₀,env:=compEnvC scope cs C X.env,outer:=X.stack,ex:=fp,fn:=λy=>scope.names.lookup y==some .cell,pn:=[],xe:=λ_ _=>False}
theorem eF{env:Env}{y:Str}{k:NameKind}:∀{names:List (Str×NameKind)},
  (names.map λ(n,k)=>if (k==jr&&env.scope.kind == .function&&env.kindOf n==some .cell) then (n,v7) else (n,k)).lookup y=some k ->
  names.lookup y=some k\/(names.lookup y=some .free/\k = .cell)
 |[],h=>by cases h
 | (n,k')::r,h=>by
  have a:=eF (env:=env) (y:=y) (k:=k) (names:=r)
  grind
def PIf(Y:Cx)(ifs:List Expr)(tt:TT):Prop:=
 ∀(pins:List '+') (s:Shared) (σ:St) (H:Hp) (Q:Bool->Hp->Prop),Inv Y pins σ H s->tt σ H Q ->
  wpAny (ja Y.prog Y.w) Y.A (forIn ifs true λc r=>if r=true then do let ok <- isTrue c Y.env (eval c Y.env);pure (v8 ok) else pure (v8 r)) (TP Y pins σ Q) Y.xe s
def aK4:TT:=λ_ H Q=>Q true H
theorem aF4{Y:Cx}:PIf Y [] aK4:=λpins s σ H Q I h=>by
 rw[Jy]
 exact wpAny_pure ⟨H,I,h⟩
theorem aE8{Y:Cx}(h:PT Y c tt):PIf Y [c] tt:=λpins s σ H Q I q=>wpAny_tests_one (h pins s σ H Q I q)
theorem rY{R:Result->Shared->Prop}{target:Expr}{pos:Pos}{it acc:Value}{env:Env}(I:Nat->Shared->Prop)(turn:∀n s,I n s->wpAny w.8 A (rq it) (λr s₁=>match r with
   |none=>R (.ok .next) s₁
   |some v=>wpAny w.8 A (gh target it v) (λ_ s₁'=>wpAny w.8 A (assign target env v) (λ_ s₂ =>
     wpAny w.8 A (forIn ifs true λc r=>if r=true then do let ok <- isTrue c env (eval c env);pure (v8 ok) else pure (v8 r)) (λok s₃ =>
      if ok=true then wpAny w.8 A (eval elt env) (λx s₄ =>
       wpAny w.8 A (call (.builtin "list.append") [acc,x]) (λ_ s₅=>∃m,m<n/\I m s₅) (λ_ _=>False) s₄) (λ_ _=>False) s₃
      else ∃m,m<n/\I m s₃) (λ_ _=>False) s₂) (λ_ _=>False) s₁') (λ_ _=>False) s₁) (λ_ _=>False) s)(n:Nat)(h:I n s):
  fb w.8 A (.compLoop (.ListComp elt [⟨target,iter,ifs,0⟩] scope pos) 0 it acc env) R s:=by
 refine codeAny_loop rfl I (λn s b => ?_) n h
 show wpAny _ A ((compTurn (.ListComp elt [⟨target,iter,ifs,0⟩] scope pos) 0 it acc env).onRaise (λx=>do noteFrame x env;theTreesLotGoes x)) _ _ s
 refine wpAny_noted ?_
 rw[compTurn_list]
 refine qa (fe (qa (km (turn n s b) (λr s₁ h₁ => ?_) λ_ _ a=>a.elim)))
 cases r with
 |none=>exact wpAny_pure h₁
 |some v =>
  refine qa (km h₁ (λ_ s₁' h₁' => ?_) λ_ _ a=>a.elim)
  refine qa (km h₁' (λ_ s₂ h₂=>qa (km h₂ (λok s₃ h₃ => ?_) λ_ _ a=>a.elim)) λ_ _ a=>a.elim)
  cases ok with
  |false=>exact wpAny_pure ⟨rfl,h₃⟩
  |true =>
   exact qa (qa (km h₃ (λx s₄ h₄=>qa (km h₄ (λ_ s₅ h₅=>wpAny_pure ⟨rfl,h₅⟩.14) λ_ _ a=>a.elim)) λ_ _ a=>a.elim))
def aK2(J:It)(cap:List Nat)(tt:TT)(te:TE)(σ:St)(H1:Hp)(Q:VK)(D:Addr):Prop:=∃W:Nat->Nat->List V->Hp->Prop,(∃m,W 0 m [] (upd H1 D (.lst [])))/\∀i m ys H2,W i m ys H2 ->
 H2 D=some (.lst ys)/\((J.stop i H2/\Q (.ref D) H2)\/(J.go i H2/\ys.length<sizeLine/\∀x H3,J.yld i H2 x H3 ->
  tt (some x::cap.map λk=>(σ[k]?).join) H3 λb H4=>if b=true then te (some x::cap.map λk=>(σ[k]?).join) H4 λy H5=>H5 D=some (.lst ys)/\∃m',m'<m/\W (i+1) m' (ys++[y]) (upd H5 D (.lst (ys++[y])))
   else ∃m',m'<m/\W (i+1) m' ys H4))
def mB(wi:TI)(cap:List Nat)(tt:TT)(te:TE):TE:=λσ H Q=>wi σ H λJ H1=>∀D,H1 D=none->aK2 J cap tt te σ H1 Q D
structure CFree(X:Cx)(pins:List '+')(H':Hp)(C:Addr):Prop where
 hn:H' C=none
 hL:C≠X.env.locals
 h1:X.s₀.heap.objs.size<=C
 h2:∀x c,X.env.cells.lookup x=some c->c≠C
 h3:∀p∈X.pn++pins,p.1≠C
def aJO(un:V->Hp->List V->Prop)(J:It)(cap:List Nat)(tt:TT)(te:TE)(σ:St)(H1:Hp)(Q:VK)(D:Addr):Prop:=∃W:Nat->Nat->List V->Hp->Prop,(∃m,W 0 m [] (upd H1 D (.lst [])))/\∀i m ys H2,W i m ys H2 ->
 H2 D=some (.lst ys)/\((J.stop i H2/\Q (.ref D) H2)\/(J.go i H2/\ys.length<sizeLine/\∀x H3,J.yld i H2 x H3->∃us,un x H3 us /\
  tt (us.map some++cap.map λk=>(σ[k]?).join) H3 λc H4=>if c=true then te (us.map some++cap.map λk=>(σ[k]?).join) H4 λy H5=>H5 D=some (.lst ys)/\∃m',m'<m/\W (i+1) m' (ys++[y]) (upd H5 D (.lst (ys++[y])))
   else ∃m',m'<m/\W (i+1) m' ys H4))
def aJS(un:V->Hp->List V->Prop)(wi:TI)(cap:List Nat)(tt:TT)(te:TE):TE:=λσ H Q=>wi σ H λJ H1=>∀D,H1 D=none->aJO un J cap tt te σ H1 Q D
theorem xJ{pos:Pos}{xs:List Str}{un:V->Hp->List V->Prop}{gT:TG}{cap:List Nat}(hc:X.calm=true)(hkind:scope.kind = .function)(hnames:∀y∈scope.names,y.2 = .local->scope.names.lookup y.1=some .local)(hst:∀cs C s₀ H₀ fp,PG (aY X scope cs C (xs++ns) s₀ H₀ fp) tg gT)(hun:∀v H us (os rest:St),un v H us->os.length=xs.length->us.length=xs.length/\gT v (os++rest) H (λσ' H'=>σ'=us.map some++rest/\H'=H))(hlen:cap.length=ns.length)(hcap:∀(j k:Nat) (nm:Str),cap[j]?=some k->ns[j]?=some nm->X.N[k]?=some nm/\ '6')(hns:∀nm∈ns,(nm,jr)∈scope.names/\(nm,v7)∉scope.names)(hnsk:∀nm∈ns,scope.names.lookup nm=some .free)(hfree:∀y∈scope.names,y.2 = .free->X.env.scope.names.lookup y.1=some .cell\/X.env.scope.names.lookup y.1=some .free)(hi:PI X tg iter wi)(ht:∀cs C s₀ H₀ fp,PIf (aY X scope cs C (xs++ns) s₀ H₀ fp) ifs tt)(he:∀cs C s₀ H₀ fp,PE (aY X scope cs C (xs++ns) s₀ H₀ fp) elt te)(hs:∀v,foldedSetIterable iter X.env v=pure v:=by intro _;rfl){use:Option (Value->Sem Unit)}{Q':Value->Shared->Prop}{Q:VK}{ip:Pos}(I:Inv X pins σ H s)(h:aJS un wi cap tt te σ H Q)(hfin:∀(D C:Addr) (H':Hp) (s':Shared),Inv X pins σ H' s'->Q (.ref D) H'->(∃m,s'.heap.Ns C m)->CFree X pins H' C->QD X.w.6 X.A X.xe use Q' (.ref D) C (.ok .next) s'):
  wpAny X.w.6 X.A (QF (.ListComp elt [⟨tg,iter,ifs,0⟩] scope pos) scope X.env ip (newList []) false (eval iter X.env) use) Q' X.xe s:=by
 obtain⟨cl,au,al,ak⟩:=kU (scope:=scope) (env:=X.env) λn hn=>I.ok.has n (hfree (n, .free) hn rfl)
 refine wpAny_comprehension_free (use:=use) rfl hs au hkind hnames (thn (hi pins s σ H _ I h) λxv s1 h1=>thn h1 λaI s2 h2 => ?_)
 obtain⟨it,fp,tn,J,H2,rfl,I2,T,ah,f2,q⟩:=h2
 have hD:H2 s2.heap.objs.size=none:=I2.fresh
 obtain⟨W,⟨m0,w0⟩,step⟩:=q s2.heap.objs.size hD
 refine yq ?_ (by show 0<=sizeLine;exact kd _)
 have I3:Inv X pins σ (upd H2 s2.heap.objs.size (.lst [])) {s2 with heap:=s2.heap.push {cls := .type "list", data := .seq ([]:List Value).toArray} }:=
  I2.laid (t':=s2.toks) (λb u e=>qf _ e) (qo _) ⟨kd _,[],0, .nil,qq _ rfl⟩
 have ab:(s2.heap.push {cls := .type "list", data := .seq ([]:List Value).toArray}).objs.size=s2.heap.objs.size+1:=xc ..
 have x:∀b∈fp,∀o,(upd H2 s2.heap.objs.size (.lst [])) b≠some o:=λb f o z=>by
  obtain⟨ob,e,_⟩:=T.obj 0 _ ah b f
  rw[aG (q3 (qr e)),(f2 b f).1] at z
  cases z
 revert I3 ab w0 step x
 generalize upd H2 s2.heap.objs.size (.lst [])=H3
 generalize hs3:({s2 with heap:=s2.heap.push {cls := .type "list", data := .seq ([]:List Value).toArray} }:Shared)=s3
 intro step w0 I3 ab x
 have ao:tn 0 s3.heap:=T.keep 0 _ _ ah λb _ o e=>by rw[<- hs3];exact qf _ e
 have G:∀b∈fp,b<s3.heap.objs.size:=λb f=>by
  obtain⟨o,e,_⟩:=T.obj 0 _ ao b f
  exact qr e
 refine uN ?_
 have new:CellsOk scope.names.34 (s3.heap.objs.size+1) (cellsFrom (s3.heap.objs.size+1) scope.names []):=by
  have ok:=cellsFrom_ok scope.names (s3.heap.push {cls := .type "dict", data := .dict #[]}) (s3.heap.objs.size+1) [] ⟨λ_ _ hm=>(nomatch hm),dt⟩ (by rw[xc];exact qo _)
  rw[xc] at ok
  exact ok
 have g:∀b o,s3.heap.get? b=some o->(scope.names.34).get? b=some o:=λb o e=>Vk _ _ b o (qf _ e)
 have aC:(scope.names.34).Ns s3.heap.objs.size (λ_=>none):=(Heap.Ns.new s3.heap (.type "dict")).keeps (Vk _ _)
 have lk:∀y c,(cl.27).lookup y=some c->((y,c)∈cellsFrom (s3.heap.objs.size+1) scope.names []/\(y,v7)∈scope.names)\/(cl.lookup y=some c/\X.env.cells.lookup y=some c):=λy c e=>by
  rw[eX,gZ] at e
  cases z:(cellsFrom (s3.heap.objs.size+1) scope.names []).lookup y with
  |some c' =>
   rw[z] at e
   have e':c'=c:=jc e
   subst e'
   have hm:=kj z
   rcases pD _ _ _ hm with q|q
   ·exact .inl ⟨hm,q⟩
   ·cases q
  |none=>rw[z] at e;exact .inr ⟨e,al y c e⟩
 have oldLt:∀y c,X.env.cells.lookup y=some c->c<s3.heap.objs.size:=λy c e=>by
  obtain⟨v,z⟩:=I3.cell y c e
  exact z.lt
 have aj:∀nm∈ns,∃c,(cl.27).lookup nm=some c/\X.env.cells.lookup nm=some c:=λnm aF=>by
  obtain⟨h1,h2⟩:=hns nm aF
  obtain⟨c,e⟩:=ak nm h1
  refine⟨c,?_,al nm c e⟩
  rw[eX,gZ]
  cases z:(cellsFrom (s3.heap.objs.size+1) scope.names []).lookup nm with
  |some c' =>
   rcases pD _ _ _ (kj z) with q|q
   ·exact absurd q h2
   ·cases q
  |none=>exact e
 show fb X.w.6 X.A (.compStart (.ListComp elt [⟨tg,iter,ifs,0⟩] scope pos) 0 (.ref it) (.ref s2.heap.objs.size) (fp.30).env) (QD X.w.6 X.A X.xe use Q' (.ref s2.heap.objs.size) s3.heap.objs.size) {s3 with heap:=dq (s3.heap.push {cls := .type "dict", data := .dict #[]}) scope.names}
 have aH:=ht cl.27 s3.heap.objs.size s3 H3 fp
 have av:=he cl.27 s3.heap.objs.size s3 H3 fp
 have OK:(fp.30).Ok:=by
  refine⟨I3.ok.mod,hkind,I3.ok.glob,I3.ok.blt,qo _,λy z c P S => ?_,λy hy => ?_,λy c hf e => ?_,λ_=>I3.ok.hd hc,I3.ok.frames, .inl rfl,λb f=>⟨q3 (G b f),λy c e => ?_⟩,I3.bs,jw I3.ok.bsz I3.sz,λb o e f => ?_,λb f hm => ?_,I3.stack,I3.stkFree⟩
  ·rcases lk y c P with ⟨a1,_⟩|⟨a1,a2⟩ <;> rcases lk z c S with ⟨b1,_⟩|⟨b1,b2⟩
   ·exact name_of_addr new.apart a1 b1
   ·exact absurd (qw (oldLt z c b2) (zi (new.empty y c a1).2)) (vm _)
   ·exact absurd (qw (oldLt y c a2) (zi (new.empty z c b1).2)) (vm _)
   ·exact I3.ok.inj y z c a2 b2
  ·have key:scope.names.lookup y=some .cell\/scope.names.lookup y=some .free:=by
    rcases hy with hy|hy
    ·rcases eF (env:=X.env) (names:=scope.names) hy with q|⟨q,_⟩
     ·exact .inl q
     ·exact .inr q
    ·rcases eF (env:=X.env) (names:=scope.names) hy with q|⟨q,_⟩
     ·exact .inr q
     ·exact .inr q
   rcases key with q|q
   ·exact yw.mp (x9 scope.names (s3.heap.objs.size+1) cl (.inl q))
   ·obtain⟨c,e⟩:=ak y (kj q)
    exact yw.mp (x9 scope.names (s3.heap.objs.size+1) cl (.inr (by rw[e];rfl)))
  ·have ar:scope.names.lookup y=some .cell:=by
    have hf0:(scope.names.lookup y==some .cell)=true:=hf
    simpa using hf0
   have e':(cl.27).lookup y=some c:=e
   have e0:=yw.mp (x9 scope.names (s3.heap.objs.size+1) [] (.inl ar))
   obtain⟨c',z⟩:=e0
   rw[eX,gZ,z] at e'
   cases e'
   exact zi (new.empty y c (kj z)).2
  ·rcases lk y c e with ⟨a1,_⟩|⟨a1,a2⟩
   ·exact λz=>absurd (qw (G b f) (z▸zi (new.empty y c a1).2)) (vm _)
   ·exact (f2 b f).2.2.2.2.1 y c a2
  ·rcases (f2 b f).2.2.2.1 with z|z
   ·exact I3.ok.noex b o e z
   ·exact absurd (qw (qr (I3.ok.bs b o e).1) z) (vm _)
  ·rcases jb.mp (I3.stkSub b hm) with z|z
   ·exact (f2 b f).2.1 z
   ·exact (f2 b f).2.2.1 z
 have IY:Inv fp.30 [] (ku xs.length none++cap.map λk=>(σ[k]?).join) H3 {s3 with heap:=dq (s3.heap.push {cls := .type "dict", data := .dict #[]}) scope.names}:=by
  refine⟨OK,rfl,I3.bare,Un.kept g,⟨_,aC,λi nm v P S e3 => ?_⟩,λy c e => ?_,I3.fresh,λy c e => ?_,λp Z=>absurd (show p∈([]:List '+') from Z) '*',I3.hok.kept g,by simp[aY,hlen]⟩
  ·by_cases Y:i<xs.length
   ·rw[qn (by rw[w8];exact Y),x5,if_pos Y] at S
    cases S
   ·obtain⟨j,rfl⟩:∃j,i=xs.length+j:=⟨i-xs.length,by lia⟩
    have F:ns[j]?=some nm:=by
     have P:(xs++ns)[xs.length+j]?=some nm:=P
     rw[qj '#',de] at P
     exact P
    have B:(cap.map λk=>(σ[k]?).join)[j]?=some v.3:=by
     rw[qj (by rw[w8];lia),w8,de] at S
     exact S
    rw[qm] at B
    cases hk:cap[j]? with
    |none=>rw[hk] at B;cases B
    |some k =>
     rw[hk] at B
     have t:(σ[k]?).join=some v:=jc B
     have e4:σ[k]?=some v.3:=by
      cases z:σ[k]? with
      |none=>rw[z] at t;cases t
      |some o=>rw[z] at t;exact congrArg some t
     obtain⟨hN,E⟩:=hcap j k nm hk F
     obtain⟨m,_,hl⟩:=I3.loc
     obtain⟨u,r,l⟩:=hl k nm v hN e4 (.inr E)
     refine⟨u,r,?_⟩
     rcases l with ⟨l1,_⟩|⟨_,c,ec,z⟩
     ·have am:X.env.scope.names.lookup nm=some .local:=l1
      rcases E with q|q <;> rw[q] at am <;> cases am
     ·obtain⟨c',g1,g2⟩:=aj nm F.7
      rw[ec] at g2
      cases g2
      refine .inr ⟨?_,c,g1,?_⟩
      ·rcases e3 with q|q
       ·rcases eF (env:=X.env) (names:=scope.names) q with w1|⟨_,w1⟩
        ·exfalso
         have U:=(hns nm F.7).1
         have:=hnames (nm, .local) (kj w1) rfl
         -- a name has one kind in a scope: its cell is known,so it is not local here
         exact absurd (I3.ok.has nm (hfree (nm, .free) U rfl)) (λ_=>by
          have ag:=(hnsk nm F.7)
          rw[w1] at ag;cases ag)
        ·cases w1
       ·exact q
      ·obtain⟨o,ho,hd⟩:=z
       exact⟨o,g c o ho,hd⟩
  ·rcases lk y c e with ⟨a1,_⟩|⟨a1,a2⟩
   ·exact⟨none,(new.empty y c a1).1⟩
   ·obtain⟨v,o,ho,hd⟩:=I3.cell y c a2
    exact⟨v,o,g c o ho,hd⟩
  ·rcases lk y c e with ⟨a1,_⟩|⟨a1,a2⟩
   ·exact I3.hok.fresh (zi (new.empty y c a1).2)
   ·exact I3.freeC y c a2
 -- what is reached at the end
 have fin:∀{σ':St}{H':Hp}{s':Shared},Inv fp.30 [] σ' H' s'->Q (.ref s2.heap.objs.size) H' ->
   QD X.w.6 X.A X.xe use Q' (.ref s2.heap.objs.size) s3.heap.objs.size (.ok .next) s':=λ{σ' H' s'} J qd=>by
  obtain⟨m',ap,_⟩:=J.loc
  have aE:H' s3.heap.objs.size=none:=J.free
  refine hfin _ _ H' s' (I3.call' (ch:=fp) J.os J.base J.hok J.bare λb f=>⟨(f2 b f).2.2.2.1,(f2 b f).2.1,(f2 b f).2.2.2.2.1,(f2 b f).2.2.2.2.2⟩) qd ⟨m',ap⟩ ⟨aE,y5 I3.lt,I3.sz,λy c e=>q3 (oldLt y c e),λp Z=>q3 (qr (I3.pin p Z).1)⟩
 have K:∀{H':Hp},(∀b∈fp,H' b=none)->∀b∈fp,eR fp.30 [] H' b:=λ{H'} hn b f =>
  ⟨hn b f,(OK.exf b f).1,OK.exfs b f, .inl f,(OK.exf b f).2,λp Z=>absurd (show p∈([]:List '+') from Z) '*'⟩
 have ac:tn 0 scope.names.34:=T.keep 0 _ _ ao λb _ o e=>g b o e
 have az:∀b∈fp,H3 b=none:=λb f=>by
  cases z:H3 b with
  |none=>rfl
  |some o=>exact absurd rfl (λ_:(1:Nat)=1=>x b f o z)
 have loop:fb X.w.6 X.A (.compLoop (.ListComp elt [⟨tg,iter,ifs,0⟩] scope pos) 0 (.ref it) (.ref s2.heap.objs.size) (fp.30).env) (QD X.w.6 X.A X.xe use Q' (.ref s2.heap.objs.size) s3.heap.objs.size) {s3 with heap:=dq (s3.heap.push {cls := .type "dict", data := .dict #[]}) scope.names}:=by
  refine rY (λn s'=>∃i R os H',os.length=xs.length/\Inv fp.30 [] (os++cap.map λk=>(σ[k]?).join) H' s'/\tn i s'.heap/\(∀b∈fp,H' b=none)/\W i n R H') ?_ m0 ⟨0,[],ku xs.length none,H3,w8,IY,ac,az,w0⟩
  rintro n s5 ⟨i,R,os,H5,aA,I5,ai,aa,w5⟩
  obtain⟨eD,alt⟩:=step i n R H5 w5
  rcases alt with ⟨stop,qd⟩|⟨go,hz,turn⟩
  ·refine thn (T.done fp.30 rfl rfl rfl hc i [] s5 _ H5 (λ_ _=>False) I5 (K aa) ai stop) λr s6 ⟨hr,I6⟩ => ?_
   subst hr
   exact fin I6 qd
  ·refine thn (T.item fp.30 rfl rfl rfl hc i [] s5 _ H5 (λ_ _=>False) I5 (K aa) ai go) λr s6 ⟨u,hr,h6⟩ => ?_
   subst hr
   refine thn h6 λ_ s7 ⟨L,H7,I7,r7,y7,O,aq⟩ => ?_
   have I7':=I7.pinned (K aq) (T.obj _ _ O)
   obtain⟨us,ex,M⟩:=turn L _ y7
   obtain⟨ae,gx⟩:=hun L H7 us os (cap.map λk=>(σ[k]?).join) ex aA
   refine thn (hst _ _ _ _ _ _ s7 _ H7 L u (λσ8 H8=>σ8=(us.map some++cap.map λk=>(σ[k]?).join)/\H8=H7) I7' r7 gx) λ_ s8 ⟨σ8,H8,I8,e8,aw⟩ => ?_
   subst e8 aw
   have back:∀{σ9:St}{H9:Hp}{s9:Shared},Inv fp.30 ([]++lL fp s7.heap) σ9 H9 s9->tn (i+1) s9.heap/\∀b∈fp,H9 b=none:=λ{σ9 H9 s9} I9=>by
    refine⟨T.keep _ _ _ O λb f o e=>(I9.pin (b,o) (hC f e).12.12).1,λb f => ?_⟩
    obtain⟨o,e,d⟩:=T.obj _ _ O b f
    exact (I9.pin (b,o) (hC f e).12.12).2.1
   refine thn (aH _ s8 _ _ _ I8 M) λb s9 ⟨H9,I9,q9⟩ => ?_
   cases b with
   |false =>
    rw[if_neg zBf] at q9 ⊢
    obtain⟨m',hm,w9⟩:=q9
    obtain⟨st9,as⟩:=back I9
    exact⟨m',hm,i+1,R,us.map some,H9,by rw[zLm];exact ae,I9.unpinned,st9,as,w9⟩
   |true =>
    rw[if_pos rfl] at q9 ⊢
    refine thn (av _ s9 _ _ _ I9 q9) λyv aB ⟨y,H10,I10,aD,af,m',hm,ay⟩ => ?_
    refine thn (cS (X:=aY X scope cl.27 s3.heap.objs.size (xs++ns) s3 H3 fp) _ aB _ H10 (.ref s2.heap.objs.size) [y] (.ref s2.heap.objs.size) [yv] (λ_ H11=>H11=upd H10 s2.heap.objs.size (.lst (R++[y]))) I10 rfl (.cons aD .nil) ⟨_,R,y,rfl,rfl,af,hz,rfl⟩) λ_ aJ ⟨_,H11,I11,_,ax⟩ => ?_
    subst ax
    obtain⟨an,ad⟩:=back I11
    exact⟨m',hm,i+1,_,us.map some,_,by rw[zLm];exact ae,I11.unpinned,an,ad,ay⟩
 exact codeAny_compStart_list loop (T.self X.A 0 _ _ _ ac loop)
def wiM(wi:TI):TI:=λσ H R'=>∃R:It->Hp->Prop,(∀J H1,R J H1->R' J H1)/\wi σ H R
theorem aGS(h:PI X tg iter wi):PI X tg iter (wiM wi):=λpins s σ H R' I ⟨R,b,hw⟩ =>
 thn (h pins s σ H R I hw) λv s1 c=>thn c λw s2 ⟨it,a,d,J,H2,e,I2,T,st,f,r⟩=>⟨it,a,d,J,H2,e,I2,T,st,f,b J H2 r⟩
theorem qY{pos:Pos}{cap:List Nat}(hc:X.calm=true)(hkind:scope.kind = .function)(hnames:∀y∈scope.names,y.2 = .local->scope.names.lookup y.1=some .local)(hx:Loc (QC scope X.env) x)(hxf:scope.names.lookup x=some .cell\/(QC scope X.env).names.lookup x=some .local)(hNc:(x::ns).Nodup)(hlen:cap.length=ns.length)(hcap:∀(j k:Nat) (nm:Str),cap[j]?=some k->ns[j]?=some nm->X.N[k]?=some nm/\ '6')(hns:∀nm∈ns,(nm,jr)∈scope.names/\(nm,v7)∉scope.names)(hnsk:∀nm∈ns,scope.names.lookup nm=some .free)(hfree:∀y∈scope.names,y.2 = .free->X.env.scope.names.lookup y.1=some .cell\/X.env.scope.names.lookup y.1=some .free)(hi:PI X (.Name x px) iter wi)(ht:∀cs C s₀ H₀ fp,PIf fp.22 ifs tt)(he:∀cs C s₀ H₀ fp,PE fp.22 elt te)(hs:∀v,foldedSetIterable iter X.env v=pure v:=by intro _;rfl){use:Option (Value->Sem Unit)}{Q':Value->Shared->Prop}{Q:VK}{ip:Pos}(I:Inv X pins σ H s)(h:mB wi cap tt te σ H Q)(hfin:∀(D C:Addr) (H':Hp) (s':Shared),Inv X pins σ H' s'->Q (.ref D) H'->(∃m,s'.heap.Ns C m)->CFree X pins H' C->QD X.w.6 X.A X.xe use Q' (.ref D) C (.ok .next) s'):
  wpAny X.w.6 X.A (QF '&' scope X.env ip (newList []) false (eval iter X.env) use) Q' X.xe s:=by
 refine xJ (xs:=[x]) (un:=λv _ us=>us=[v]) (gT:=oE 0) hc hkind hnames (λg p e f r=>vK (X:=aY X scope g p ([x]++ns) e f r) (i:=0) hNc rfl hx (hxf.elim (λz => .inl (by show (scope.names.lookup _==some .cell)=true;rw[z];rfl)) .inr)) (λv H us os rest u l => ?_) hlen hcap hns hnsk hfree (aGS hi) ht he hs I ⟨_,λJ H1 n D t => ?_,h⟩ hfin
 ·subst u
  match os,l with
  |[o],_=>exact⟨rfl,rfl,rfl⟩
 ·obtain⟨W,q,st⟩:=n D t
  exact⟨W,q,λi m d H2 w=>⟨(st i m d H2 w).1,(st i m d H2 w).2.imp id λ⟨a,b,c⟩=>⟨a,b,λv H3 y=>⟨[v],rfl,c v H3 y⟩⟩⟩⟩
theorem aFW{pos:Pos}{cap:List Nat}(hc:X.calm=true)(hkind:scope.kind = .function)(hnames:∀y∈scope.names,y.2 = .local->scope.names.lookup y.1=some .local)(hx:Loc (QC scope X.env) x)(hxf:scope.names.lookup x=some .cell\/(QC scope X.env).names.lookup x=some .local)(hNc:(x::ns).Nodup)(hlen:cap.length=ns.length)(hcap:∀(j k:Nat) (nm:Str),cap[j]?=some k->ns[j]?=some nm->X.N[k]?=some nm/\ '6')(hns:∀nm∈ns,(nm,jr)∈scope.names/\(nm,v7)∉scope.names)(hnsk:∀nm∈ns,scope.names.lookup nm=some .free)(hfree:∀y∈scope.names,y.2 = .free->X.env.scope.names.lookup y.1=some .cell\/X.env.scope.names.lookup y.1=some .free)(hi:PI X (.Name x px) iter wi)(ht:∀cs C s₀ H₀ fp,PIf fp.22 ifs tt)(he:∀cs C s₀ H₀ fp,PE fp.22 elt te)(hs:∀v,foldedSetIterable iter X.env v=pure v:=by intro _;rfl):
  PE X '&' (mB wi cap tt te):=by
 show '#'
 rw[eval_ListComp]
 refine qY hc hkind hnames hx hxf hNc hlen hcap hns hnsk hfree hi ht he hs (use:=none) I h λD C H' d J q ⟨m,hn⟩ a=>⟨m,hn,λg c => ?_⟩
 exact⟨.ref D,H',J.turned (t':=d.toks) (it:=C) (λb o f e=>(c.2 b f).trans e) a.hn a.hL (.inr a.h1) a.h2 a.h3,rfl,q⟩
theorem yL{y:Str}{iy:Nat}{pos:Pos}{cap:List Nat}(hN:X.N.Nodup)(hiy:X.N[iy]?=some y)(hyl:X.env.scope.names.lookup y=some .local)(hc:X.calm=true)(hkind:scope.kind = .function)(hnames:∀y∈scope.names,y.2 = .local->scope.names.lookup y.1=some .local)(hx:Loc (QC scope X.env) x)(hxf:scope.names.lookup x=some .cell\/(QC scope X.env).names.lookup x=some .local)(hNc:(x::ns).Nodup)(hlen:cap.length=ns.length)(hcap:∀(j k:Nat) (nm:Str),cap[j]?=some k->ns[j]?=some nm->X.N[k]?=some nm/\ '6')(hns:∀nm∈ns,(nm,jr)∈scope.names/\(nm,v7)∉scope.names)(hnsk:∀nm∈ns,scope.names.lookup nm=some .free)(hfree:∀y∈scope.names,y.2 = .free->X.env.scope.names.lookup y.1=some .cell\/X.env.scope.names.lookup y.1=some .free)(hi:PI X (.Name x px) iter wi)(ht:∀cs C s₀ H₀ fp,PIf fp.22 ifs tt)(he:∀cs C s₀ H₀ fp,PE fp.22 elt te)(hs:∀v,foldedSetIterable iter X.env v=pure v:=by intro _;rfl)(hsw:fS '&' (.Name y py).3 spos.line X.env=pure true:=by rfl):
  PS X (.Assign [.Name y py] '&' spos) (xW (mB wi cap tt te) (oE iy)):=by
 intro pins s σ H D I h
 rw[exec_Assign_Name_used _ _ _ _ hsw]
 refine qa (fe (qa ?_))
 show wpAny _ X.A (do let _ <- QF '&' scope X.env _ (newList []) false (eval iter X.env) (assign (.Name y py) X.env).3) _ _ s
 refine qa (km (qY hc hkind hnames hx hxf hNc hlen hcap hns hnsk hfree hi ht he hs (use:=some (assign (.Name y py) X.env)) (Q':=λ_ f=>SP X pins D .next f) I h λL C H' f J q ⟨m,hn⟩ c => ?_) (λ_ f l=>wpAny_pure l.14) λ_ _ e=>e)
 refine JT (rE J hN hiy (.inl hyl) (v := .ref L) rfl (λs2 J2 ⟨a,p,i⟩ => ?_) (.inr hyl))
 have g:C≠a:=by
  rcases i with rfl|i
  ·exact c.hL
  ·exact vi (c.h2 y a i)
 refine⟨m,hn.sameBut p g,λr d => ?_⟩
 exact⟨_,H',J2.turned (t':=s2.toks) (it:=C) (λb o n e=>(d.2 b n).trans e) c.hn c.hL (.inr c.h1) c.h2 c.h3,q⟩
structure Yields(J:It)(xs:List V)(Kp:Hp->Prop):Prop where
 go:∀i H,Kp H->i<xs.length->J.go i H
 yld:∀i H x H',Kp H->J.yld i H x H'->i<xs.length->H'=H/\xs[i]?=some x
 stop:∀i H,Kp H->xs.length<=i->J.stop i H
theorem hX{K:qg}{xs:List V}:Yields (Itl K a) xs (λH=>SqL K H a xs) where
 go:=λi H k h=>⟨xs,xs[i],k,by simp[h]⟩
 yld:=λi H x H' k y _=>⟨y.1,y.2 xs k⟩
 stop:=λi H k h=>⟨xs,k,h⟩
theorem tK{K:qg}{xs:List V}:Yields (Itt K a) xs (λH=>SqT K H a xs) where
 go:=λi H k h=>⟨xs,xs[i],k,by simp[h]⟩
 yld:=λi H x H' k y _=>⟨y.1,y.2 xs k⟩
 stop:=λi H k h=>⟨xs,k,h⟩
def Butd(D:Addr)(H H':Hp):Prop:=∀b o,b≠D->H b=some o->H' b=some o
theorem Butd.upd{D:Addr}{o:HO}:Butd D H (upd H D o):=λb u n e=>by rw[aG n];exact e
theorem Same.but{D:Addr}(s:Same H1 H)(n:H1 D=none)(b:Butd D H H'):Same H1 H':=λc o e=>b c o (aT e n) (s c o e)
theorem iZ{D:Addr}{o:HO}(n:H D=none):Same H (upd H D o):=(Same.refl H).but n Butd.upd
theorem take_snoc{α:Type}{xs:List α}{x:α}(h:xs[i]?=some x):xs.take (i+1)=xs.take i++[x]:=by
 rw[List.take_succ,h];rfl
end L2
namespace L2
open PySem PySem.Spec PyProof.Rows
section
theorem qC:∀{ys:List Str}{its:List Value},Vals (ys.map V.str) its->StrsAre its ys
 |[],_,r=>by cases r;exact .nil
 |y::ys,_,r=>by
  cases r with
  |cons a b =>
   obtain⟨t,rfl⟩:=a
   exact .cons y t (qC b)
def rJoin(K:qg):V->List V->Hp->VK->Prop:=λx vs H Q=>∃sep p ys,x = .str sep/\vs=[.ref p]/\(SqL K H p (ys.map V.str)\/SqT K H p (ys.map V.str))/\sep.length<=16/\(ys.map (·.length)).sum+ys.length<=1048576/\Q (.str (JS sep ys)) H
theorem wG:MtR X "str.join" (rJoin X.K):=by
 intro pins s σ H x vs u us Q I i l h
 obtain⟨sep,p,n,rfl,rfl,a,f,g,q⟩:=h
 obtain⟨v,rfl,m⟩:=vals1 l
 cases m
 obtain⟨t,rfl⟩:=i
 rcases a with a|a
 ·obtain⟨d,b,e,j⟩:=I.list a
  exact join_listW e.isList (qC b) f g λc k=>⟨.str _,H,I.tok k,⟨c,rfl⟩,q⟩
 ·obtain⟨d,b,e,j⟩:=I.tuple a
  exact join_tupleW e (qC b) f g λc k=>⟨.str _,H,I.tok k,⟨c,rfl⟩,q⟩
noncomputable def iQ(x:Str)(n:Nat):Str:=⟨(ku n x.cps).foldl (· ++ ·) #[]⟩
theorem rV(a:Array Nat):∀(n:Nat) (acc:Array Nat),((ku n a).foldl (· ++ ·) acc).toList=acc.toList++(ku n a.toList).flatten
 |0,acc=>by simp
 |n+1,acc=>by
  rw[xw,Jo,rV a n,xw,vo]
  simp
theorem jB(x:Str)(n:Nat):(iQ x n).cps.toList=(ku n x.cps.toList).flatten:=by
 unfold iQ
 rw[rV];rfl
theorem aD1(x:Str)(n:Nat):(iQ x n).length=x.length*n:=by
 show (iQ x n).cps.size=x.cps.size*n
 rw[<- qt,jB,<- qt]
 generalize x.cps.toList=l
 induction n with
 |zero=>simp
 |succ n ih=>rw[xw,vo,qe,ih,Nat.mul_succ,Nat.add_comm]
theorem fP{y:Str}(h:x.cps.toList=y.cps.toList):x=y:=by
 cases x;cases y
 simp only[Str.mk.injEq]
 exact Q5.mp h
theorem aEJ(x:Str):iQ x 1=x:=fP (by rw[jB];simp)
theorem aEG(x:Str)(n:Nat)(h:x.length=0):iQ x n=x:=by
 have a:x.cps.toList=[]:=l5 (by rw[qt];exact h)
 apply fP
 rw[jB,a]
 induction n with
 |zero=>rfl
 |succ n ih=>rw[xw,vo,ih];rfl
def aEM:R2:=λx y H Q=>∃z n,x = .str z/\y = .int n /\ -(2^40)<=n/\n<2^40/\z.length*n.toNat<=sizeLine/\Q (.str (iQ z n.toNat)) H
theorem aHC:OpR X (wo .Mult) aEM:=by
 intro pins s σ H x y u v Q I i k h
 obtain⟨z,n,rfl,rfl,m,r,f,q⟩:=h
 obtain⟨t,rfl⟩:=i
 obtain⟨p,rfl⟩:=k
 refine P.mul_str (by rw[decide_eq_false '!',decide_eq_false '!'];rfl) (λa b => ?_) (λa b => ?_) ?_
 ·have:(n.toNat:Int)=n:=by omega
  have l:((z.length:Int))*n<=(sizeLine:Nat):=by rw[<- this];exact_mod_cast f
  intro c
  have j:0<n:=by omega
  have:=(Int.ediv_lt_iff_lt_mul j).mp c
  have o:((sizeLine:Nat):Int)<2^62:=by decide
  omega
 ·exact aDK f
 ·by_cases g:n<1
  ·rw[if_pos g]
   rw[show n.toNat=0 by omega] at q
   exact⟨by decide, .str _,H,I.tok _,⟨_,rfl⟩,q⟩
  ·rw[if_neg g]
   by_cases d:(n==1||z.length==0)=true
   ·rw[if_pos d]
    refine⟨.str z,H,I,⟨_,rfl⟩,?_⟩
    have e:iQ z n.toNat=z:=by
     rw[y9,beq_iff_eq,beq_iff_eq] at d
     rcases d with c|c
     ·rw[c];exact aEJ z
     ·exact aEG z _ c
    rw[e] at q;exact q
   ·rw[if_neg d]
    refine⟨?_, .str _,H,I.tok _,⟨_,rfl⟩,q⟩
    show (iQ z n.toNat).length<=sizeLine
    rw[aD1];exact f
end
end L2
namespace L2
open PySem PySem.Spec PyProof.Rows
noncomputable def iL(sc scope:Scope)(x:Str)(ns:List Str)(cap:List Nat)(N:List Str):Bool:=
 decide (scope.kind = .function)&&scope.names.all (λy=>decide (y.2 ≠ .local)||decide (scope.names.lookup y.1=some .local))&&(decide (scope.names.lookup x=some .local)||decide (scope.names.lookup x=some .cell)) &&
 decide ((x::ns).Nodup)&&decide (cap.length=ns.length) &&
 (qz cap.length).all (λj=>match cap[j]?,ns[j]? with
  |some k,some nm=>decide (N[k]?=some nm)&&(decide (sc.names.lookup nm=some .cell)||decide (sc.names.lookup nm=some .free))
  |_,_=>true) &&
 ns.all (λnm=>decide ((nm,jr)∈scope.names)&&decide ((nm,v7)∉scope.names)&&decide (scope.names.lookup nm=some .free)) &&
 scope.names.all (λy=>decide (y.2 ≠ .free)||(decide (sc.names.lookup y.1=some .cell)||decide (sc.names.lookup y.1=some .free)))
theorem dQ{env:Env}:∀{names:List (Str×NameKind)}{x:Str},names.lookup x=some .cell ->
  (names.map λ(n,k)=>if (k==jr&&env.scope.kind == .function&&env.kindOf n==some .cell) then (n,v7) else (n,k)).lookup x=some .cell
 |[],_,h=>by simp at h
 | (n,k)::r,x,h=>by
  have a:=dQ (env:=env) (names:=r) (x:=x)
  show cx x ((if (k==jr&&env.scope.kind == .function&&env.kindOf n==some .cell)=true then (n,v7) else (n,k))::_)=_
  rw[vy] at h
  split
  ·rw[vy]
   cases hx:x==n with
   |true=>rfl
   |false=>rw[hx] at h;exact a h
  ·rw[vy]
   cases hx:x==n with
   |true=>rw[hx] at h;exact h
   |false=>rw[hx] at h;exact a h
structure CompOk(sc scope:Scope)(x:Str)(ns:List Str)(cap:List Nat)(N:List Str):Prop where
 hkind:scope.kind = .function
 hnames:∀y∈scope.names,y.2 = .local->scope.names.lookup y.1=some .local
 hx:scope.names.lookup x=some .local\/scope.names.lookup x=some .cell
 hNc:(x::ns).Nodup
 hlen:cap.length=ns.length
 hcap:∀(j k:Nat) (nm:Str),cap[j]?=some k->ns[j]?=some nm->N[k]?=some nm/\(sc.names.lookup nm=some .cell\/sc.names.lookup nm=some .free)
 hns:∀nm∈ns,(nm,jr)∈scope.names/\(nm,v7)∉scope.names
 hnsk:∀nm∈ns,scope.names.lookup nm=some .free
 hfree:∀y∈scope.names,y.2 = .free->sc.names.lookup y.1=some .cell\/sc.names.lookup y.1=some .free
theorem qO{cap:List Nat}(h:iL sc scope x ns cap N=true):CompOk sc scope x ns cap N:=by
 unfold iL at h
 simp only[jm,y9,decide_eq_true_eq,yu] at h
 obtain⟨⟨⟨⟨⟨⟨⟨g,o⟩,m⟩,d⟩,i⟩,n⟩,c⟩,f⟩:=h
 refine⟨g,λy a e=>(o y a).resolve_left (λz=>z e),m,d,i,λj k nm b p => ?_,λnm hm=>(c nm hm).1,λnm hm=>(c nm hm).2,λy a e=>(f y a).resolve_left (λz=>z e)⟩
 have l:j<cap.length:=(b.5).1
 have:=n j (j2.mpr l)
 rw[b,p] at this
 simpa using this
theorem aD9{pos:Pos}(ns:List Str)(cap:List Nat)(hc:X.calm=true)(hsc:X.env.scope=sc)(hN:X.N=N)(ok:iL sc scope x ns cap N=true)(hi:PI X (.Name x px) iter wi)(ht:∀cs C s₀ H₀ fp,PIf fp.22 ifs tt)(he:∀cs C s₀ H₀ fp,PE fp.22 elt te)(hs:∀v,foldedSetIterable iter X.env v=pure v:=by intro _;rfl):
  PE X '&' (mB wi cap tt te):=by
 subst hsc hN
 have k:=qO ok
 refine aFW hc k.hkind k.hnames ?_ ?_ k.hNc k.hlen k.hcap k.hns k.hnsk k.hfree hi ht he hs
 ·rcases k.hx with z|z
  ·exact .inl (bh z)
  ·exact .inr (dQ z)
 ·rcases k.hx with z|z
  ·exact .inr (bh z)
  ·exact .inl z
theorem uS{y:Str}(iy:Nat){pos:Pos}(ns:List Str)(cap:List Nat)(hNd:N.Nodup)(hiy:N[iy]?=some y)(hyl:sc.names.lookup y=some .local)(hc:X.calm=true)(hsc:X.env.scope=sc)(hN:X.N=N)(ok:iL sc scope x ns cap N=true)(hi:PI X (.Name x px) iter wi)(ht:∀cs C s₀ H₀ fp,PIf fp.22 ifs tt)(he:∀cs C s₀ H₀ fp,PE fp.22 elt te)(hs:∀v,foldedSetIterable iter X.env v=pure v:=by intro _;rfl)(hsw:fS '&' (.Name y py).3 spos.line X.env=pure true:=by rfl):
  PS X (.Assign [.Name y py] '&' spos) (xW (mB wi cap tt te) (oE iy)):=by
 subst hsc hN
 have k:=qO ok
 refine yL hNd hiy hyl hc k.hkind k.hnames ?_ ?_ k.hNc k.hlen k.hcap k.hns k.hnsk k.hfree hi ht he hs hsw
 ·rcases k.hx with z|z
  ·exact .inl (bh z)
  ·exact .inr (dQ z)
 ·rcases k.hx with z|z
  ·exact .inr (bh z)
  ·exact .inl z
end L2
namespace R
open PySem L2
theorem BL:ke "list" = some (.type "list"):=by decide +kernel
structure Bn2(mg:Str->Option Value):Prop where
 str:mg "str" = none
 list:mg "list" = none
 all:mg "all" = none
 any:mg "any" = none
 max:mg "max" = none
 enum:mg "enumerate" = none
noncomputable def sgn(c:Nat):Bool:=c==35||c==46
theorem bQ(h:n<=1000000):n<=sizeLine:=jw h '$'
abbrev Sq(K:qg)(H:Hp)(a:Addr)(xs:List V):Prop:=SqL K H a xs\/SqT K H a xs
theorem aHH{u:HO}(s:Same H H')(h:Rd H a u):Rd H' a u:=by
 rcases h with h|⟨o,h⟩
 ·exact .inl (s _ _ h)
 ·exact .inr ⟨o,s _ _ h⟩
theorem bW{K:qg}{xs:List V}(s:Same H H')(h:SqT K H a xs):SqT K H' a xs:=h.imp (aHH s) id
noncomputable def ofL(l:List Nat):Str:=⟨l.toArray⟩
noncomputable def atS(z:Str)(j:Nat):Nat:=z.cps.getD j 0
theorem qE:∀(ps:List Str) (acc:Array Nat),(ps.foldl (λacc p=>acc++(xm).cps++p.cps) acc).toList=acc.toList++((·.cps.toList).19).flatten
 |[],acc=>by simp
 |p::ps,acc=>by
  rw[Jo,qE ps]
  simp[xm]
theorem join_list(ps:List Str):(JS xm ps).cps.toList=((·.cps.toList).19).flatten:=by
 cases ps with
 |nil=>rfl
 |cons p ps =>
  show (((p::ps).drop 1).foldl (λacc p=>acc++(xm).cps++p.cps) ((p::ps).headD xm).cps).toList=_
  rw[qE]
  simp
theorem vP(l:List Nat):JS xm (l.map λc=>(⟨#[c]⟩:Str))=ofL l:=by
 apply fP
 rw[join_list]
 simp only[ofL,wa]
 induction l with
 |nil=>rfl
 |cons a l ih=>rw[jo,vo,ih];rfl
theorem fQ(l:List Nat):(ofL l).length=l.length:=by simp[ofL,Vv]
theorem aKJ{z:Str}(h:j<z.length):atI z.cps.toList (j:Int)=some (atS z j):=by
 have h':j<z.cps.size:=h
 refine bU ?_
 simp[atS,h',Ks]
noncomputable def a8(zs:List Str):List Str:=(qz '@').map λj=>ofL (zs.map (atS · j))
theorem aK3{K:qg}{p:Addr}{xs:List V}{i:Int}{Q:VK}(h:Sq K H p xs)(e:atI xs i=some v)(q:Q v H):rIx K (.ref p) (.int i) H Q:=by
 rcases h with h|h
 ·exact .inl ⟨p,xs,i,v,rfl,rfl,h,e,q⟩
 ·exact .inr (.inl ⟨p,xs,i,v,rfl,rfl,h,e,q⟩)
theorem qV:("" : Str)=xm:=by decide +kernel
noncomputable def dots(n:Nat):Str:=ofL (ku n 46)
theorem aBB(n:Nat):iQ "." n=dots n:=by
 apply fP
 rw[jB]
 have e:("." : Str).cps.toList=[46]:=by decide +kernel
 rw[e]
 show _=(ku n 46)
 induction n with
 |zero=>rfl
 |succ n ih=>rw[xw,vo,ih,xw];rfl
noncomputable def framed(zs:List Str):List Str:=[dots '@']++zs++[dots '@']
noncomputable def chg(zs:List Str):List Nat:=if zs.isEmpty then [] else (qz (zs.length+1)).filter λi => !decide ((framed zs)[i]?=(framed zs)[i+1]?)
theorem oZ(zs:List Str):(framed zs).length=zs.length+2:=by simp[framed]
theorem jT(zs:List Str):∀i∈chg zs,i<=zs.length:=λi hi=>by
 unfold chg at hi
 split at hi
 ·cases hi
 ·have:=j2.mp (zu.mp hi).1
  lia
theorem fB(zs:List Str):(chg zs).Pairwise (· < ·):=by
 unfold chg
 split
 ·exact dt
 ·exact Kb _ dh
theorem iD(zs:List Str):(chg zs).length<=zs.length+1:=by
 unfold chg
 split
 ·simp
 ·exact jw (List.length_filter_le _ _) '*'
theorem vS{l:List Nat}(h:l.Pairwise (· < ·))(b:∀i∈l,i<=n):∀i∈l.dropLast,i<n:=λi c=>by
 have a:l≠[]:=λe=>by rw[e] at c;cases c
 have e:=List.dropLast_concat_getLast a
 rw[<- e] at h
 have f:=(xh.mp h).2.2 i c (l.getLast a) '*'
 have d:=b _ (List.getLast_mem a)
 lia
noncomputable def aK6(zs:List Str):List Str:=(chg zs).dropLast.map λi=>ofL ((chg (a8 zs)).dropLast.map (atS (zs.getD i xm)))
theorem nC(h:∀z∈zs,z.length=n):(a8 zs).length<=n/\(zs≠[]->(a8 zs).length=n):=by
 unfold a8
 rw[zLm,xk]
 cases zs with
 |nil=>exact⟨kd _,λe=>absurd rfl e⟩
 |cons z zr =>
  have:=h z '*'
  exact⟨by show z.length<=n;lia,λ_=>this⟩
theorem rH:∀z∈a8 zs,z.length=zs.length:=λz hz=>by
 obtain⟨j,_,rfl⟩:=q0.mp hz
 rw[fQ,zLm]
structure KnL(K:qg)(H:Hp)(v:V):Prop where
 kn:Kn K H v
 each:∀a xs,v = .ref a->H a=some (.lst xs)->∀x∈xs,Kn K H x
end R
namespace L2
open PySem PySem.Spec PyProof.Rows
section
end
end L2
namespace L2
open PySem PySem.Spec PyProof.Rows
noncomputable def j6(l:List Nat)(lo hi:Option Int):List Nat:=(l.drop (HT.sIx l.length 0 lo)).take (HT.sIx l.length l.length hi-HT.sIx l.length 0 lo)
noncomputable def pN(z:Str)(lo hi:Option Int):Str:=⟨(j6 z.cps.toList lo hi).toArray⟩
def rSlS:V->Option Int->Option Int->Hp->VK->Prop:=λx lo hi H Q=>∃z,x = .str z/\z.length<=sizeLine/\Q (.str (pN z lo hi)) H
theorem idx_eq(lo hi:Option Int)(n:Nat):kq lo hi 1 n=sliceRange ((HT.sIx n 0 lo:Nat):Int) ((HT.sIx n n hi:Nat):Int) 1:=by
 obtain⟨b,a,c⟩:=lH lo hi n
 rw[<- b,<- a]
 cases lo <;> cases hi <;> rfl
theorem yD(z:Str)(lo hi:Option Int):(kq lo hi 1 z.length).filterMap (z.cps[·]?)=j6 z.cps.toList lo hi:=by
 rw[idx_eq,sliceRange_one,pick_run]
 unfold j6
 rw[qt]
 rfl
theorem aDH(l:List Nat)(lo hi:Option Int):(j6 l lo hi).length<=l.length:=by
 unfold j6
 rw[jv,wz];omega
theorem aAU(z:Str)(lo hi:Option Int)(h:(kq lo hi 1 z.length).length=z.length):pN z lo hi=z:=by
 rw[idx_eq,sliceRange_one,zLm,xk] at h
 apply fP
 show j6 z.cps.toList lo hi=z.cps.toList
 unfold j6
 have a:z.cps.toList.length=z.length:=qt
 rw[a]
 have b:=HT.aKG z.length z.length (qo _) hi
 by_cases h0:HT.sIx z.length 0 lo=0
 ·rw[h0,n4]
  rw[h0] at h
  exact tj (by rw[a];omega)
 ·have:z.length=0:=by omega
  rw[l5 (a.trans this)]
  simp
section
theorem jU:SlR X rSlS:=by
 intro pins s σ H x v r p lo a e Q I f b o pu h
 obtain⟨z,rfl,k,q⟩:=h
 obtain⟨t,rfl⟩:=f
 refine⟨"str", _,slot_str_getitem.lookup,typeIs_str s z t,?_⟩
 have key:∀(l u:Option (Int×Tok)),l.map (·.1)=lo->u.map (·.1)=a->s.heap.IsSlice e l u none->wpAny X.w.6 X.A (Vj (.str z t) (.ref e)) (EP X pins σ Q) X.xe s:=λl u n g d=>by
  refine wpAny_getItem_str_slice d rfl ?_
  unfold sliceMade slicePicked
  rw[n,g]
  show (if ((1:Int)==1&&(kq lo a 1 z.length).length==z.length)=true then Made.val (.str z t) else Made.str ⟨((kq lo a 1 z.length).filterMap (z.cps[·]?)).toArray⟩).post _ s
  by_cases c:((1:Int)==1&&(kq lo a 1 z.length).length==z.length)=true
  ·rw[if_pos c]
   have m:(kq lo a 1 z.length).length=z.length:=by simpa using c
   rw[aAU z lo a m] at q
   exact⟨.str z,H,I,⟨t,rfl⟩,q⟩
  ·rw[if_neg c,yD]
   refine⟨?_, .str (pN z lo a),H,I.tok _,⟨_,rfl⟩,q⟩
   show (j6 z.cps.toList lo a).toArray.size<=sizeLine
   rw[qc]
   exact jw (aDH _ _ _) (by rw[qt];exact k)
 cases o with
 |none =>
  cases pu with
  |none=>exact key none none rfl rfl b
  |int j u=>exact key none (j,u).3 rfl rfl b
 |int i u' =>
  cases pu with
  |none=>exact key (i,u').3 none rfl rfl b
  |int j u=>exact key (i,u').3 (j,u).3 rfl rfl b
end
end L2
namespace L2
open PySem PySem.Spec PyProof.Rows
noncomputable def aE2:V->Bool
 |.ref _=>true
 |.non=>true
 |.bl _=>true
 |.int _=>true
 |.str _=>true
 |_=>false
theorem pL{xs:List V}(r:Vals xs us)(h:j<us.toArray.size):∃x,xs[j]?=some x/\RelV x us.toArray[j]:=by
 have l:=r.length
 rw[qc] at h
 have g:xs[j]?=some (xs[j]' '!'):=by simp
 obtain⟨u,a,b⟩:=r.get g
 refine⟨_,g,?_⟩
 have:us.toArray[j]=u:=by
  rw[zGe h] at a
  simpa using a
 rw[this]
 exact b
inductive Alike(K:qg)(H:Hp):V->V->Prop
 |one {v:V} (h:aE2 v=true):Alike K H v v
 |lists {a b:Addr}{xs:List V} (ha:SqL K H a xs) (hb:SqL K H b xs) (h:xs.all aE2=true):Alike K H (.ref a) (.ref b)
section
end
end L2
namespace L2
open PySem PySem.Spec PyProof.Rows
section
variable {to:TE}{t:TA}{T id:String}
end
end L2
namespace Z
open PySem L2
inductive D where
 |non|bl (b:Bool)|int (i:Int)|str (x:Str)|mt (a:Addr)|tup (ds:List D)|lst (ds:List D)|fl (ds:List D)|st (ks:List Int.9)
abbrev Fg:=qg
noncomputable def jE(k:List Int):Int:=Qt (zk (k.map Vi))
noncomputable def tR(p:List Int×Addr):DictEntry:={hash:=jE p.1,key := .ref p.2,val := .bool true}
def DSt(a:Addr)(xs:List (List Int×Addr))(ep:Nat)(h:Heap):Prop:=(a==wg)=false/\∃o,h.get? a=some o/\o.ExactDict/\o.data = .dict (xs.map tR).toArray ep
structure StO(K:Fg)(G:Hp)(o:Option HO)(a:Addr)(ks:List Int.9)(xs:List (List Int×Addr))(ep:Nat):Prop where
 nd:ks.Nodup
 len:ks.length<=sizeLine
 keys:xs.map (·.1)=ks
 at_:∀p∈xs,SqT K G p.2 (p.1.map V.int)
 ob:o=some (.ext (DSt a xs ep))
theorem StO.mv{K:Fg}{o o':Option HO}(h:StO K G o a ks xs ep)(s:Same G G')(e:o'=o):StO K G' o' a ks xs ep:=
 ⟨h.nd,h.len,h.keys,λp b=>R.bW s (h.at_ p b),e.trans h.ob⟩
mutual
def Den(K:Fg)(G:Hp):D->V->Prop
 |.non,v=>v = .non
 |.bl b,v=>v = .bl b
 |.int i,v=>v = .int i
 |.str x,v=>v = .str x
 |.mt a,v=>v = .ref a
 |.tup ds,v=>∃a vs,v = .ref a/\SqT K G a vs/\Dens K G ds vs
 |.lst ds,v=>∃a vs,v = .ref a/\G a=some (.lst vs)/\Dens K G ds vs
 |.fl ds,v=>∃a vs,v = .ref a/\SqL K G a vs/\Dens K G ds vs
 |.st ks,v=>∃a xs ep,v = .ref a/\StO K G (G a) a ks xs ep
def Dens(K:Fg)(G:Hp):List D->List V->Prop
 |[],vs=>vs=[]
 |d::ds,vs=>∃v r,vs=v::r/\Den K G d v/\Dens K G ds r
end
mutual
theorem Den.mono{K:Fg}(s:Same G G'):∀(d:D) {v:V},Den K G d v->Den K G' d v
 |.non,_,h=>by simp only[Den] at h ⊢;exact h
 |.bl _,_,h=>by simp only[Den] at h ⊢;exact h
 |.int _,_,h=>by simp only[Den] at h ⊢;exact h
 |.str _,_,h=>by simp only[Den] at h ⊢;exact h
 |.mt _,_,h=>by simp only[Den] at h ⊢;exact h
 |.tup ds,_,h=>by
  simp only[Den] at h ⊢
  obtain⟨a,vs,e,q,r⟩:=h
  exact⟨a,vs,e,R.bW s q,Dens.mono s ds r⟩
 |.lst ds,_,h=>by
  simp only[Den] at h ⊢
  obtain⟨a,vs,e,q,r⟩:=h
  exact⟨a,vs,e,s _ _ q,Dens.mono s ds r⟩
 |.fl ds,_,h=>by
  simp only[Den] at h ⊢
  obtain⟨a,vs,e,q,r⟩:=h
  exact⟨a,vs,e,s.seq q,Dens.mono s ds r⟩
 |.st ks,_,h=>by
  simp only[Den] at h ⊢
  obtain⟨a,xs,b,e,q⟩:=h
  exact⟨a,xs,b,e,q.mv s ((s _ _ q.ob).trans q.ob.symm)⟩
theorem Dens.mono{K:Fg}(s:Same G G'):∀(ds:List D) {vs:List V},Dens K G ds vs->Dens K G' ds vs
 |[],_,h=>by simp only[Dens] at h ⊢;exact h
 |d::ds,_,h=>by
  simp only[Dens] at h ⊢
  obtain⟨v,r,e,b,a⟩:=h
  exact⟨v,r,e,Den.mono s d b,Dens.mono s ds a⟩
end
theorem Den.up{K:Fg}{d:D}(h:Den K G d v)(s:Same G G'):Den K G' d v:=Den.mono s d h
theorem Dens.up{K:Fg}{ds:List D}{vs:List V}(h:Dens K G ds vs)(s:Same G G'):Dens K G' ds vs:=Dens.mono s ds h
theorem bT{K:Fg}:Dens K G [] []:=by simp only[Dens]
theorem bO{K:Fg}{d:D}{ds:List D}{vs:List V}(h:Den K G d v)(r:Dens K G ds vs):Dens K G (d::ds) (v::vs):=by
 simp only[Dens];exact⟨v,vs,rfl,h,r⟩
theorem bF{K:Fg}{d:D}{ds:List D}{vs:List V}(h:Dens K G (d::ds) vs):∃v r,vs=v::r/\Den K G d v/\Dens K G ds r:=by simp only[Dens] at h;exact h
theorem b5{K:Fg}{vs:List V}(h:Dens K G [] vs):vs=[]:=by simp only[Dens] at h;exact h
theorem Dens.len{K:Fg}:∀{ds:List D}{vs:List V},Dens K G ds vs->ds.length=vs.length
 |[],_,h=>by rw[b5 h];rfl
 |d::ds,_,h=>by
  obtain⟨v,r,rfl,_,a⟩:=bF h
  rw[qy,qy,Dens.len a]
theorem Dens.get{K:Fg}:∀{ds:List D}{vs:List V}{i:Nat}{d:D},Dens K G ds vs->ds[i]?=some d->∃v,vs[i]?=some v/\Den K G d v
 |[],_,_,_,_,e=>by simp at e
 |d0::ds,_,0,d,h,e=>by
  obtain⟨v,r,rfl,f,_⟩:=bF h
  simp at e;subst e
  exact⟨v,rfl,f⟩
 |d0::ds,_,i+1,d,h,e=>by
  obtain⟨v,r,rfl,_,c⟩:=bF h
  obtain⟨u,a,b⟩:=Dens.get (i:=i) c (by simpa using e)
  exact⟨u,by simpa using a,b⟩
theorem Dens.get'{K:Fg}:∀{ds:List D}{vs:List V}{i:Nat}{v:V},Dens K G ds vs->vs[i]?=some v->∃d,ds[i]?=some d/\Den K G d v:=λ{ds vs i v} h e=>by
 have c:i<vs.length:=(e.5).1
 rw[<- h.len] at c
 have f:ds[i]?=some ds[i]:=by simp[c]
 obtain⟨u,a,b⟩:=h.get f
 rw[e] at a;cases a
 exact⟨_,f,b⟩
theorem Dens.append{K:Fg}:∀{ds es:List D}{vs ws:List V},Dens K G ds vs->Dens K G es ws->Dens K G (ds++es) (vs++ws)
 |[],_,_,_,h,r=>by rw[b5 h];exact r
 |d::ds,_,_,_,h,r=>by
  obtain⟨v,t,rfl,b,a⟩:=bF h
  exact bO b (Dens.append a r)
theorem Dens.take{K:Fg}:∀{ds:List D}{vs:List V} (n:Nat),Dens K G ds vs->Dens K G (ds.take n) (vs.take n)
 |_,_,0,_=>by simp only[Jx];exact bT
 |[],_,n+1,h=>by rw[b5 h];exact bT
 |d::ds,_,n+1,h=>by
  obtain⟨v,t,rfl,b,a⟩:=bF h
  exact bO b (Dens.take n a)
theorem Dens.drop{K:Fg}:∀{ds:List D}{vs:List V} (n:Nat),Dens K G ds vs->Dens K G (ds.drop n) (vs.drop n)
 |_,_,0,h=>h
 |[],_,n+1,h=>by rw[b5 h];exact bT
 |d::ds,_,n+1,h=>by
  obtain⟨v,t,rfl,b,a⟩:=bF h
  exact Dens.drop n a
theorem Dens.set{K:Fg}{d:D}(e:Den K G d v):∀{ds:List D}{vs:List V} (i:Nat),Dens K G ds vs->Dens K G (ds.set i d) (vs.set i v)
 |[],_,_,h=>by rw[b5 h];exact bT
 |d0::ds,_,0,h=>by
  obtain⟨u,t,rfl,b,a⟩:=bF h
  exact bO e a
 |d0::ds,_,i+1,h=>by
  obtain⟨u,t,rfl,b,a⟩:=bF h
  exact bO b (Dens.set e i a)
theorem Dens.atI{K:Fg}{ds:List D}{vs:List V}{i:Int}{d:D}(h:Dens K G ds vs)(e:atI ds i=some d):∃v,L2.atI vs i=some v/\Den K G d v:=by
 unfold L2.atI at e ⊢
 rw[<- h.len]
 cases hj:ixN ds.length i with
 |none=>rw[hj] at e;cases e
 |some j =>
  rw[hj] at e
  exact h.get e
mutual
noncomputable def hashK(hf:Str->Int):D->Int
 |.int i=>Vi i
 |.str x=>hf x
 |.tup ds=>Qt (zk (hashKs hf ds))
 |_=>0
noncomputable def hashKs(hf:Str->Int):List D->List Int
 |[]=>[]
 |d::ds=>hashK hf d::hashKs hf ds
end
mutual
noncomputable def okK:Nat->D->Bool
 |_, .int _=>true
 |n+1, .tup ds=>okKs n ds
 |_,_=>false
noncomputable def okKs:Nat->List D->Bool
 |_,[]=>true
 |n,d::ds=>okK n d&&okKs n ds
end
noncomputable def lE(hf:Str->Int):List D->List Addr->List Value->List DictEntry
 |k::ks,a::as,u::us=>{hash:=hashK hf k,key := .ref a,val:=u}::lE hf ks as us
 |_,_,_=>[]
def DDt(hf:Str->Int)(a:Addr)(ks:List D)(as:List Addr)(vs:List V)(ep:Nat)(h:Heap):Prop:=(a==wg)=false/\∃o us,Vals vs us/\h.get? a=some o/\o.ExactDict/\o.data = .dict (lE hf ks as us).toArray ep
structure DiO(K:Fg)(G:Hp)(o:Option HO)(a:Addr)(hf:Str->Int)(ks ds:List D)(as:List Addr)(vs:List V)(ep:Nat):Prop where
 nd:ks.Nodup
 len:ks.length<=sizeLine
 ok:∀k∈ks,okK 6 k=true
 dl:ds.length=ks.length
 keys:Dens K G ks (as.map V.ref)
 vals:Dens K G ds vs
 ob:o=some (.ext (DDt hf a ks as vs ep))
theorem DiO.mv{K:Fg}{o o':Option HO}{ks ds:List D}{as:List Addr}{vs:List V}(h:DiO K G o a hf ks ds as vs ep)(s:Same G G')(e:o'=o):DiO K G' o' a hf ks ds as vs ep:=
 ⟨h.nd,h.len,h.ok,h.dl,h.keys.up s,h.vals.up s,e.trans h.ob⟩
inductive MO where
 |lst (ds:List D)
 |st (ks:List Int.9)
 |dic (hf:Str->Int) (ks ds:List D)
 |ob (o:HO)
abbrev Mem:=Addr->Option MO
noncomputable def aL(M:Mem)(a:Addr)(o:MO):Mem:=λb=>if b=a then some o else M b
noncomputable def dZ(M:Mem)(a:Addr):Mem:=λb=>if b=a then none else M b
theorem aD{M:Mem}{o:MO}:aL M a o a=some o:=by unfold aL;rw[if_pos rfl]
theorem aF{M:Mem}{o:MO}(h:b≠a):aL M a o b=M b:=by unfold aL;rw[if_neg h]
theorem cD{M:Mem}{o u:MO}:aL (aL M a o) a u=aL M a u:=by
 funext b;unfold aL;split <;> rfl
theorem gL{M:Mem}:dZ M a a=none:=by unfold dZ;rw[if_pos rfl]
theorem dD{M:Mem}(h:b≠a):dZ M a b=M b:=by unfold dZ;rw[if_neg h]
def Le(M M':Mem):Prop:=∀a o,M a=some o->M' a=some o
theorem Le.refl(M:Mem):Le M M:=λ_ _ h=>h
theorem Le.trans{M M1 M2:Mem}(a:Le M M1)(b:Le M1 M2):Le M M2:=λc o h=>b c o (a c o h)
theorem Le.upd{M M':Mem}{o:MO}(h:Le M M')(n:M a=none):Le M (aL M' a o):=λb u e=>by
 rw[aF (λz=>by rw[z,n] at e;cases e)];exact h b u e
def MOk(K:Fg)(G H:Hp)(a:Addr):MO->Prop
 |.lst ds=>∃vs,H a=some (.lst vs)/\Dens K G ds vs
 |.st ks=>∃xs ep,StO K G (H a) a ks xs ep
 |.dic hf ks ds=>∃as vs ep,DiO K G (H a) a hf ks ds as vs ep
 |.ob o=>H a=some o
theorem MOk.mv{K:Fg}{m:MO}(h:MOk K G H a m)(s:Same G G')(e:H' a=H a):MOk K G' H' a m:=by
 cases m with
 |lst ds=>obtain⟨vs,d,c⟩:=h;exact⟨vs,e.trans d,c.up s⟩
 |st ks=>obtain⟨xs,b,q⟩:=h;exact⟨xs,b,q.mv s e⟩
 |dic hf ks ds=>obtain⟨as,vs,b,q⟩:=h;exact⟨as,vs,b,q.mv s e⟩
 |ob o=>exact e.trans h
structure Rel(K:Fg)(G H:Hp)(M:Mem):Prop where
 same:Same G H
 mem:∀a o,M a=some o->G a=none/\MOk K G H a o
structure Stp(K:Fg)(G H:Hp)(M:Mem)(G' H':Hp)(M':Mem):Prop where
 gg:Same G G'
 rel:Rel K G' H' M'
 fr:∀a o,H a=some o->G a=none->M a=none->H' a=some o/\G' a=none/\M' a=none
theorem Stp.refl{K:Fg}{M:Mem}(r:Rel K G H M):Stp K G H M G H M:=⟨Same.refl G,r,λ_ _ h h1 h2=>⟨h,h1,h2⟩⟩
theorem Stp.trans{K:Fg}{G1 G2 H2:Hp}{M M1 M2:Mem}(a:Stp K G H M G1 H1 M1)(b:Stp K G1 H1 M1 G2 H2 M2):Stp K G H M G2 H2 M2:=
 ⟨a.gg.trans b.gg,b.rel,λc o h e d=>let ⟨x,y,z⟩:=a.fr c o h e d;b.fr c o x y z⟩
theorem Rel.le{K:Fg}{M M':Mem}(r:Rel K G H M)(l:Le M' M):Rel K G H M':=⟨r.same,λa o h=>r.mem a o (l a o h)⟩
theorem Rel.got{K:Fg}{M:Mem}{o:MO}(r:Rel K G H M)(h:M a=some o):∃u,H a=some u:=by
 cases o with
 |lst ds=>obtain⟨_,vs,e,_⟩:=r.mem a _ h;exact⟨_,e⟩
 |st ks=>obtain⟨_,xs,b,q⟩:=r.mem a _ h;exact⟨_,q.ob⟩
 |dic hf ks ds=>obtain⟨_,as,vs,b,q⟩:=r.mem a _ h;exact⟨_,q.ob⟩
 |ob o=>exact⟨o,(r.mem a _ h).2⟩
theorem Rel.free{K:Fg}{M:Mem}{p:Addr}(r:Rel K G H M)(h:H p=none):G p=none/\M p=none:=by
 refine⟨r.same.free h,?_⟩
 cases e:M p with
 |none=>rfl
 |some o=>obtain⟨u,q⟩:=r.got e;rw[h] at q;cases q
theorem Rel.new{K:Fg}{M:Mem}{p:Addr}{o:HO}(r:Rel K G H M)(h:H p=none):Stp K G H M (upd G p o) (upd H p o) M:=by
 have g:=(r.free h).1
 have s1:Same G (upd G p o):=iZ g
 refine⟨s1,⟨λb u e => ?_,λa m e => ?_⟩,λa u c f d => ?_⟩
 ·by_cases z:b=p
  ·subst z;rw[aR] at e ⊢;exact e
  ·rw[aG z] at e ⊢;exact r.same b u e
 ·obtain⟨u,q⟩:=r.got e
  have z:a≠p:=aT q h
  refine⟨by rw[aG z];exact (r.mem a m e).1,?_⟩
  exact (r.mem a m e).2.mv s1 (aG z)
 ·have z:a≠p:=aT c h
  exact⟨by rw[aG z];exact c,by rw[aG z];exact f,d⟩
theorem Rel.newM{K:Fg}{M:Mem}{p:Addr}{vs:List V}{ds:List D}(r:Rel K G H M)(h:H p=none)(e:Dens K G ds vs):Stp K G H M G (upd H p (.lst vs)) (aL M p '8'):=by
 have c:=(r.free h).1
 refine⟨Same.refl G,⟨λb u q => ?_,λa m q => ?_⟩,λa u d g f => ?_⟩
 ·rw[aG (aT q c)];exact r.same b u q
 ·by_cases z:a=p
  ·subst z
   rw[aD] at q;cases q
   exact⟨c,vs,aR,e⟩
  ·rw[aF z] at q
   refine⟨(r.mem a m q).1,?_⟩
   exact (r.mem a m q).2.mv (Same.refl G) (aG z)
 ·have z:a≠p:=aT d h
  exact⟨by rw[aG z];exact d,g,by rw[aF z];exact f⟩
theorem Rel.wr{K:Fg}{M:Mem}{p:Addr}{vs:List V}{ds:List D}{o:MO}(r:Rel K G H M)(h:M p=some o)(e:Dens K G ds vs):Stp K G H M G (upd H p (.lst vs)) (aL M p '8'):=by
 have d:=(r.mem p _ h).1
 refine⟨Same.refl G,⟨λb u q => ?_,λa m q => ?_⟩,λa u g f c => ?_⟩
 ·rw[aG (aT q d)];exact r.same b u q
 ·by_cases z:a=p
  ·subst z
   rw[aD] at q;cases q
   exact⟨d,vs,aR,e⟩
  ·rw[aF z] at q
   refine⟨(r.mem a m q).1,?_⟩
   exact (r.mem a m q).2.mv (Same.refl G) (aG z)
 ·have z:a≠p:=λz=>by rw[z,h] at c;cases c
  exact⟨by rw[aG z];exact g,f,by rw[aF z];exact c⟩
theorem Rel.frz{K:Fg}{M:Mem}{ds:List D}(r:Rel K G H M)(h:M a=some '8'):∃vs,H a=some (.lst vs)/\Dens K G ds vs/\Stp K G H M (upd G a (.lst vs)) H (dZ M a):=by
 obtain⟨f,vs,e,q⟩:=r.mem a _ h
 have s1:Same G (upd G a (.lst vs)):=iZ f
 refine⟨vs,e,q,s1,⟨λb u z => ?_,λb m z => ?_⟩,λb u g d c => ?_⟩
 ·by_cases y:b=a
  ·subst y;rw[aR] at z;cases z;exact e
  ·rw[aG y] at z;exact r.same b u z
 ·by_cases y:b=a
  ·subst y;rw[gL] at z;cases z
  ·rw[dD y] at z
   refine⟨by rw[aG y];exact (r.mem b m z).1,?_⟩
   exact (r.mem b m z).2.mv s1 rfl
 ·have y:b≠a:=λy=>by rw[y,h] at c;cases c
  exact⟨g,by rw[aG y];exact d,by rw[dD y];exact c⟩
theorem Rel.frzS{K:Fg}{M:Mem}(r:Rel K G H M)(h:M a=some (.st ks)):∃xs ep,StO K G (H a) a ks xs ep/\Stp K G H M (upd G a (.ext (DSt a xs ep))) H (dZ M a):=by
 obtain⟨e,xs,ep,q⟩:=r.mem a _ h
 have s1:Same G (upd G a (.ext (DSt a xs ep))):=iZ e
 refine⟨xs,ep,q,s1,⟨λb u z => ?_,λb m z => ?_⟩,λb u f d c => ?_⟩
 ·by_cases y:b=a
  ·subst y;rw[aR] at z;cases z;exact q.ob
  ·rw[aG y] at z;exact r.same b u z
 ·by_cases y:b=a
  ·subst y;rw[gL] at z;cases z
  ·rw[dD y] at z
   refine⟨by rw[aG y];exact (r.mem b m z).1,?_⟩
   exact (r.mem b m z).2.mv s1 rfl
 ·have y:b≠a:=λy=>by rw[y,h] at c;cases c
  exact⟨f,by rw[aG y];exact d,by rw[dD y];exact c⟩
theorem Rel.newS{K:Fg}{M:Mem}{p:Addr}(r:Rel K G H M)(h:H p=none)(e:StO K G (.ext (DSt p xs ep)).3 p ks xs ep):Stp K G H M G (upd H p (.ext (DSt p xs ep))) (aL M p (.st ks)):=by
 have c:=(r.free h).1
 refine⟨Same.refl G,⟨λb u q => ?_,λa m q => ?_⟩,λa u d g f => ?_⟩
 ·rw[aG (aT q c)];exact r.same b u q
 ·by_cases z:a=p
  ·subst z
   rw[aD] at q;cases q
   exact⟨c,xs,ep,e.mv (Same.refl G) aR⟩
  ·rw[aF z] at q
   exact⟨(r.mem a m q).1,(r.mem a m q).2.mv (Same.refl G) (aG z)⟩
 ·have z:a≠p:=aT d h
  exact⟨by rw[aG z];exact d,g,by rw[aF z];exact f⟩
theorem Rel.wrS{K:Fg}{M:Mem}{p:Addr}{o:MO}(r:Rel K G H M)(h:M p=some o)(e:StO K G (.ext (DSt p xs ep)).3 p ks xs ep):Stp K G H M G (upd H p (.ext (DSt p xs ep))) (aL M p (.st ks)):=by
 have d:=(r.mem p _ h).1
 refine⟨Same.refl G,⟨λb u q => ?_,λa m q => ?_⟩,λa u g f c => ?_⟩
 ·rw[aG (aT q d)];exact r.same b u q
 ·by_cases z:a=p
  ·subst z
   rw[aD] at q;cases q
   exact⟨d,xs,ep,e.mv (Same.refl G) aR⟩
  ·rw[aF z] at q
   exact⟨(r.mem a m q).1,(r.mem a m q).2.mv (Same.refl G) (aG z)⟩
 ·have z:a≠p:=λz=>by rw[z,h] at c;cases c
  exact⟨by rw[aG z];exact g,f,by rw[aF z];exact c⟩
theorem Rel.newX{K:Fg}{M:Mem}{p:Addr}{o:HO}{m:MO}(r:Rel K G H M)(h:H p=none)(e:MOk K G (upd H p o) p m):Stp K G H M G (upd H p o) (aL M p m):=by
 have c:=(r.free h).1
 refine⟨Same.refl G,⟨λb u q => ?_,λa f q => ?_⟩,λa u d i g => ?_⟩
 ·rw[aG (aT q c)];exact r.same b u q
 ·by_cases z:a=p
  ·subst z
   rw[aD] at q;cases q
   exact⟨c,e⟩
  ·rw[aF z] at q
   exact⟨(r.mem a f q).1,(r.mem a f q).2.mv (Same.refl G) (aG z)⟩
 ·have z:a≠p:=aT d h
  exact⟨by rw[aG z];exact d,i,by rw[aF z];exact g⟩
theorem Rel.wrX{K:Fg}{M:Mem}{p:Addr}{o:HO}{m m0:MO}(r:Rel K G H M)(h:M p=some m0)(e:MOk K G (upd H p o) p m):Stp K G H M G (upd H p o) (aL M p m):=by
 have d:=(r.mem p _ h).1
 refine⟨Same.refl G,⟨λb u q => ?_,λa f q => ?_⟩,λa u g i c => ?_⟩
 ·rw[aG (aT q d)];exact r.same b u q
 ·by_cases z:a=p
  ·subst z
   rw[aD] at q;cases q
   exact⟨d,e⟩
  ·rw[aF z] at q
   exact⟨(r.mem a f q).1,(r.mem a f q).2.mv (Same.refl G) (aG z)⟩
 ·have z:a≠p:=λz=>by rw[z,h] at c;cases c
  exact⟨by rw[aG z];exact g,i,by rw[aF z];exact c⟩
theorem Rel.drop{K:Fg}{M M':Mem}(r:Rel K G H M)(l:Le M' M):Stp K G H M G H M':=
 ⟨Same.refl G,r.le l,λa o d c b=>⟨d,c,by
  cases e:M' a with
  |none=>rfl
  |some u=>rw[l a u e] at b;cases b⟩⟩
abbrev Gm:=List (Option D)
structure EnvR(K:Fg)(G:Hp)(Γ:Gm)(σ:St):Prop where
 len:Γ.length=σ.length
 get:∀(i:Nat) (d:D),Γ[i]?=some d.3->∃v,σ[i]?=some v.3/\Den K G d v
theorem EnvR.up{K:Fg}{Γ:Gm}(h:EnvR K G Γ σ)(s:Same G G'):EnvR K G' Γ σ:=
 ⟨h.len,λi d e=>let ⟨v,a,b⟩:=h.get i d e;⟨v,a,b.up s⟩⟩
theorem EnvR.set{K:Fg}{Γ:Gm}(h:EnvR K G Γ σ){d:D}(e:Den K G d v)(i:Nat):EnvR K G (Γ.set i d.3) (σ.set i v.3):=by
 refine⟨by rw[d4,d4,h.len],λj c q => ?_⟩
 rw[gS] at q ⊢
 by_cases z:i=j
 ·rw[if_pos z] at q ⊢
  split at q
  ·rename_i hl
   rw[if_pos (by rw[<- h.len];exact hl)]
   cases q
   exact⟨v,rfl,e⟩
  ·cases q
 ·rw[if_neg z] at q ⊢
  exact h.get j c q
theorem EnvR.start{K:Fg}{ds:List D}{vs:List V}(h:Dens K G ds vs)(n:Nat):EnvR K G (ds.map some++ku (n-ds.length) none) (vs.map some++ku (n-vs.length) none):=by
 have hl:=h.len
 refine⟨by simp[hl],λi d e => ?_⟩
 by_cases f:i<ds.length
 ·rw[qn (by simpa using f),qm] at e
  rw[qn (by simp;omega),qm]
  cases q:ds[i]? with
  |none=>rw[q] at e;cases e
  |some c =>
   rw[q] at e;cases e
   obtain⟨v,a,b⟩:=h.get q
   exact⟨v,by rw[a];rfl,b⟩
 ·rw[qj (by simpa using f),x5] at e
  split at e <;> cases e
def tU(X:Cx)(e:Expr):TE:=λσ H Q=>∀pins s,Inv X pins σ H s->wpAny X.w.6 X.A (eval e X.env) (EP X pins σ Q) X.xe s
theorem pU:PE X e (tU X e):=λpins s σ H Q I h=>h pins s I
theorem bY{t:TE}(p:PE X e t){Q:VK}(h:t σ H Q):tU X e σ H Q:=λpins s I=>p pins s σ H Q I h
def tUT(X:Cx)(e:Expr):TT:=λσ H Q=>∀pins s,Inv X pins σ H s->wpAny X.w.6 X.A (isTrue e X.env (eval e X.env)) (TP X pins σ Q) X.xe s
theorem pUT:PT X e (tUT X e):=λpins s σ H Q I h=>h pins s I
theorem uA{t:TT}(p:PT X e t){Q:Bool->Hp->Prop}(h:t σ H Q):tUT X e σ H Q:=λpins s I=>p pins s σ H Q I h
def tUW(X:Cx)(e:Expr):TT:=λσ H Q=>∀whole pins s,Inv X pins σ H s->wpAny X.w.6 X.A (isTrue e X.env whole) (TP X pins σ Q) X.xe s
theorem pUW:PW X e (tUW X e):=λwhole pins s σ H Q I h=>h whole pins s I
theorem pC{t:TT}(p:PW X e t){Q:Bool->Hp->Prop}(h:t σ H Q):tUW X e σ H Q:=λwhole pins s I=>p whole pins s σ H Q I h
def tUA(X:Cx)(es:List Expr):TA:=λσ H Q=>∀pos pins s,Inv X pins σ H s->wpAny X.w.6 X.A (spliced (yg pos X.env.28)) (AP X pins σ Q) X.xe s
theorem pUA:PA X es (tUA X es):=λpos pins s σ H Q I h=>h pos pins s I
theorem aAX{t:TA}(p:PA X es t){Q:List V->Hp->Prop}(h:t σ H Q):tUA X es σ H Q:=λpos pins s I=>p pos pins s σ H Q I h
def tUS(X:Cx)(st:Stmt):TS:=λE σ H=>∀pins s,Inv X pins σ H s->wpAny X.w.6 X.A (exec st X.env) (SP X pins E) X.xe s
theorem pUS:PS X st (tUS X st):=λpins s σ H E I h=>h pins s I
theorem eN{t:TS}(p:PS X st t){E:Ends}(h:t E σ H):tUS X st E σ H:=λpins s I=>p pins s σ H E I h
def aCW(X:Cx)(st:List Stmt):TS:=λE σ H=>∀pins s,Inv X pins σ H s->wpAny X.w.6 X.A (execs st X.env) (SP X pins E) X.xe s
theorem lK{st:List Stmt}:PSs X st (aCW X st):=λpins s σ H E I h=>h pins s I
theorem p5{st:List Stmt}{t:TS}(p:PSs X st t){E:Ends}(h:t E σ H):aCW X st E σ H:=λpins s I=>p pins s σ H E I h
def tUG(X:Cx)(tg:Expr):TG:=λv σ H Q=>∀pins s u,Inv X pins σ H s->RelV v u->wpAny X.w.6 X.A (assign tg X.env u) (λ_ s'=>∃σ' H',Inv X pins σ' H' s'/\Q σ' H') X.xe s
theorem pUG:PG X tg (tUG X tg):=λpins s σ H v u Q I r h=>h pins s u I r
theorem k5{t:TG}(p:PG X tg t){Q:St->Hp->Prop}(h:t v σ H Q):tUG X tg v σ H Q:=λpins s u I r=>p pins s σ H v u Q I r h
def aEA(X:Cx)(tg:List Expr):TGs:=λvs σ H Q=>∀pins s us,Inv X pins σ H s->Vals vs us->wpAny X.w.6 X.A (mj ((wh tg X.env).map (·.2)) us) (λ_ s'=>∃σ' H',Inv X pins σ' H' s'/\Q σ' H') X.xe s
theorem pUGs{tg:List Expr}:PGs X tg (aEA X tg):=λpins s σ H vs us Q I r h=>h pins s us I r
theorem wH{tg:List Expr}{t:TGs}(p:PGs X tg t){vs:List V}{Q:St->Hp->Prop}(h:t vs σ H Q):aEA X tg vs σ H Q:=λpins s us I r=>p pins s σ H vs us Q I r h
def tUI(X:Cx)(tg iter:Expr):TI:=λσ H R=>∀pins s,Inv X pins σ H s->wpAny X.w.6 X.A (eval iter X.env) (λv s1=>wpAny X.w.6 X.A (Vf v) (PIE X pins σ tg R) X.xe s1) X.xe s
theorem pUI:PI X tg iter (tUI X tg iter):=λpins s σ H R I h=>h pins s I
theorem pB{t:TI}(p:PI X tg iter t){R:It->Hp->Prop}(h:t σ H R):tUI X tg iter σ H R:=λpins s I=>p pins s σ H R I h
def Cont(K:Fg)(M:Mem)(k:D->Mem->Prop)(G H:Hp)(Q:VK):Prop:=∀v G' H' d M',Stp K G H M G' H' M'->Den K G' d v->k d M'->Q v H'
def GE(X:Cx)(e:Expr)(Γ:Gm)(M:Mem)(k:D->Mem->Prop):Prop:=
 ∀σ G H Q,EnvR X.K G Γ σ->Rel X.K G H M->Cont X.K M k G H Q->tU X e σ H Q
def lZ(K:Fg)(M:Mem)(k:Bool->Mem->Prop)(G H:Hp)(Q:Bool->Hp->Prop):Prop:=∀b G' H' M',Stp K G H M G' H' M'->k b M'->Q b H'
def GT(X:Cx)(e:Expr)(Γ:Gm)(M:Mem)(k:Bool->Mem->Prop):Prop:=
 ∀σ G H Q,EnvR X.K G Γ σ->Rel X.K G H M->lZ X.K M k G H Q->tUT X e σ H Q
def GW(X:Cx)(e:Expr)(Γ:Gm)(M:Mem)(k:Bool->Mem->Prop):Prop:=
 ∀σ G H Q,EnvR X.K G Γ σ->Rel X.K G H M->lZ X.K M k G H Q->tUW X e σ H Q
def GA(X:Cx)(es:List Expr)(Γ:Gm)(M:Mem)(k:List D->Mem->Prop):Prop:=
 ∀σ G H Q,EnvR X.K G Γ σ->Rel X.K G H M->(∀vs G' H' ds M',Stp X.K G H M G' H' M'->Dens X.K G' ds vs->k ds M'->Q vs H')->tUA X es σ H Q
def jA(K:Fg)(M:Mem)(k:Gm->Mem->Prop)(G H:Hp)(Q:St->Hp->Prop):Prop:=∀σ' G' H' Γ' M',Stp K G H M G' H' M'->EnvR K G' Γ' σ'->k Γ' M'->Q σ' H'
def GG(X:Cx)(tg:Expr)(d:D)(Γ:Gm)(M:Mem)(k:Gm->Mem->Prop):Prop:=
 ∀σ G H v Q,EnvR X.K G Γ σ->Rel X.K G H M->Den X.K G d v->jA X.K M k G H Q->tUG X tg v σ H Q
def GGs(X:Cx)(tgs:List Expr)(ds:List D)(Γ:Gm)(M:Mem)(k:Gm->Mem->Prop):Prop:=
 ∀σ G H vs Q,EnvR X.K G Γ σ->Rel X.K G H M->Dens X.K G ds vs->jA X.K M k G H Q->aEA X tgs vs σ H Q
structure Fin where
 nx:Gm->Mem->Prop
 rt:D->Mem->Prop
 bk:Gm->Mem->Prop:=λ_ _=>False
 ct:Gm->Mem->Prop:=λ_ _=>False
structure EndsOk(K:Fg)(G H:Hp)(M:Mem)(F:Fin)(E:Ends):Prop where
 nx:jA K M F.nx G H E.nx
 rt:Cont K M F.rt G H E.rt
 bk:jA K M F.bk G H E.bk
 ct:jA K M F.ct G H E.ct
theorem Cont.up{K:Fg}{M M1:Mem}{k:D->Mem->Prop}{G1:Hp}{Q:VK}(c:Cont K M k G H Q)(s:Stp K G H M G1 H1 M1):Cont K M1 k G1 H1 Q:=λv G' H' d M' s'=>c v G' H' d M' (s.trans s')
theorem jA.up{K:Fg}{M M1:Mem}{k:Gm->Mem->Prop}{G1:Hp}{Q:St->Hp->Prop}(c:jA K M k G H Q)(s:Stp K G H M G1 H1 M1):jA K M1 k G1 H1 Q:=λv G' H' d M' s'=>c v G' H' d M' (s.trans s')
theorem lZ.up{K:Fg}{M M1:Mem}{k:Bool->Mem->Prop}{G1:Hp}{Q:Bool->Hp->Prop}(c:lZ K M k G H Q)(s:Stp K G H M G1 H1 M1):lZ K M1 k G1 H1 Q:=λv G' H' M' s'=>c v G' H' M' (s.trans s')
theorem EndsOk.up{K:Fg}{M M1:Mem}{F:Fin}{E:Ends}{G1:Hp}(c:EndsOk K G H M F E)(s:Stp K G H M G1 H1 M1):EndsOk K G1 H1 M1 F E:=⟨c.nx.up s,c.rt.up s,c.bk.up s,c.ct.up s⟩
def GS(X:Cx)(ss:List Stmt)(Γ:Gm)(M:Mem)(F:Fin):Prop:=
 ∀σ G H E,EnvR X.K G Γ σ->Rel X.K G H M->EndsOk X.K G H M F E->aCW X ss E σ H
def G1(X:Cx)(st:Stmt)(Γ:Gm)(M:Mem)(F:Fin):Prop:=
 ∀σ G H E,EnvR X.K G Γ σ->Rel X.K G H M->EndsOk X.K G H M F E->tUS X st E σ H
end Z
variable {M M':Z.Mem}{k:Z.D->Z.Mem->Prop}{ys ds al:List Z.D}{Γ:Z.Gm}{d1 d2:Z.D}{kb:Bool->Z.Mem->Prop}{kg:Z.Gm->Z.Mem->Prop}{ki:List Z.D->Z.Mem->Prop}
namespace Z
open PySem L2
section
variable {K:Fg}
theorem cC{i:Int}:Den K G (.int i) (.int i):=by simp only[Den]
theorem bN{i:Bool}:Den K G (.bl i) (.bl i):=by simp only[Den]
theorem fV{i:Str}:Den K G (.str i) (.str i):=by simp only[Den]
theorem mF:Den K G .non .non:=by simp only[Den]
theorem iT:Den K G (.mt a) (.ref a):=by simp only[Den]
theorem fY{vs:List V}(h:SqT K G a vs)(r:Dens K G ds vs):Den K G (.tup ds) (.ref a):=by simp only[Den];exact⟨a,vs,rfl,h,r⟩
theorem eW{vs:List V}(h:G a=some (.lst vs))(r:Dens K G ds vs):Den K G '8' (.ref a):=by simp only[Den];exact⟨a,vs,rfl,h,r⟩
theorem aKD{vs:List V}(h:SqL K G a vs)(r:Dens K G ds vs):Den K G (.fl ds) (.ref a):=by simp only[Den];exact⟨a,vs,rfl,h,r⟩
theorem Den.int_{i:Int}(h:Den K G (.int i) v):v = .int i:=by simp only[Den] at h;exact h
theorem Den.bl_{i:Bool}(h:Den K G (.bl i) v):v = .bl i:=by simp only[Den] at h;exact h
theorem Den.str_{i:Str}(h:Den K G (.str i) v):v = .str i:=by simp only[Den] at h;exact h
theorem Den.non_(h:Den K G .non v):v = .non:=by simp only[Den] at h;exact h
theorem Den.mt_(h:Den K G (.mt a) v):v = .ref a:=by simp only[Den] at h;exact h
theorem Den.tup_(h:Den K G (.tup ds) v):∃a vs,v = .ref a/\SqT K G a vs/\Dens K G ds vs:=by simp only[Den] at h;exact h
theorem Den.lst_(h:Den K G '8' v):∃a vs,v = .ref a/\G a=some (.lst vs)/\Dens K G ds vs:=by simp only[Den] at h;exact h
theorem Den.fl_(h:Den K G (.fl ds) v):∃a vs,v = .ref a/\SqL K G a vs/\Dens K G ds vs:=by simp only[Den] at h;exact h
theorem Den.st_(h:Den K G (.st ks) v):∃a xs ep,v = .ref a/\StO K G (G a) a ks xs ep:=by simp only[Den] at h;exact h
theorem aJB(h:StO K G (G a) a ks xs ep):Den K G (.st ks) (.ref a):=by simp only[Den];exact⟨a,xs,ep,rfl,h⟩
inductive Seq(M:Mem):D->Bool->List D->Prop
 |tup (ds:List D):Seq M (.tup ds) false ds
 |lst (ds:List D):Seq M '8' true ds
 |fl (ds:List D):Seq M (.fl ds) true ds
 |mt {a:Addr}{ds:List D} (h:M a=some '8'):Seq M (.mt a) true ds
theorem Seq.sq{d:D}(q:Seq M d t ds)(r:Rel K G H M)(h:Den K G d v):∃a vs,v = .ref a/\(if t=true then SqL K H a vs else SqT K H a vs)/\Dens K G ds vs:=by
 cases q with
 |tup ds=>obtain⟨a,vs,e,s,d⟩:=h.tup_;exact⟨a,vs,e,R.bW r.same s,d⟩
 |lst ds=>obtain⟨a,vs,e,s,d⟩:=h.lst_;exact⟨a,vs,e,SqL.of (r.same _ _ s),d⟩
 |fl ds=>obtain⟨a,vs,e,s,d⟩:=h.fl_;exact⟨a,vs,e,r.same.seq s,d⟩
 |mt hm=>obtain⟨_,vs,e,d⟩:=r.mem _ _ hm;exact⟨_,vs,h.mt_,SqL.of e,d⟩
theorem Seq.sq2{d:D}(q:Seq M d t ds)(r:Rel K G H M)(h:Den K G d v):∃a vs,v = .ref a/\(SqL K H a vs\/SqT K H a vs)/\Dens K G ds vs:=by
 obtain⟨a,vs,e,s,d⟩:=q.sq r h
 refine⟨a,vs,e,?_,d⟩
 cases t with
 |true=>exact .inl s
 |false=>exact .inr s
inductive Lst(M:Mem):D->List D->Prop
 |lst (ds:List D):Lst M '8' ds
 |mt {a:Addr}{ds:List D} (h:M a=some '8'):Lst M (.mt a) ds
theorem Lst.sq{d:D}(q:Lst M d ds)(r:Rel K G H M)(h:Den K G d v):∃a vs,v = .ref a/\H a=some (.lst vs)/\Dens K G ds vs:=by
 cases q with
 |lst ds=>obtain⟨a,vs,e,s,d⟩:=h.lst_;exact⟨a,vs,e,r.same _ _ s,d⟩
 |mt hm=>obtain⟨_,vs,e,d⟩:=r.mem _ _ hm;exact⟨_,vs,h.mt_,e,d⟩
end
section
variable {pos:Pos}{a b:Expr}{rest:List Expr}
theorem aB(i:Nat){d:D}(hΓ:Γ[i]?=some d.3)(h:k d M)(hN:X.N[i]?=some x:=by rfl)(hv:Vis X.env.scope x:=by first|exact sd rfl|exact JB (sd rfl)|exact JB (JB rfl))(hd: '5'=false:=by decide)(hcd:(x==("__classdict__" : Str))=false:=by decide):GE X (.Name x pos) Γ M k:=
 λσ G H Q a b q=>bY (aJ1 hN hv hd hcd) (let ⟨v,e,dv⟩:=a.get i d hΓ;⟨v,e,q v G H d M b.10 dv h⟩)
theorem z6{i:Int}(h:k (.int i) M):GE X (.Constant (.int i) j pos) Γ M k:=λσ G H Q en rl q=>bY aJ8 (q _ G H _ M rl.10 cC h)
theorem eO{i:Bool}(h:k (.bl i) M):GE X (.Constant (.bool i) j pos) Γ M k:=λσ G H Q en rl q=>bY aLF (q _ G H _ M rl.10 bN h)
theorem jY(h:k .non M):GE X (.Constant .none j pos) Γ M k:=λσ G H Q en rl q=>bY aIJ (q _ G H _ M rl.10 mF h)
theorem ge_str(h:k (.str x) M):GE X (.Constant (.str x) j pos) Γ M k:=λσ G H Q en rl q=>bY aKA (q _ G H _ M rl.10 fV h)
theorem lP(h:GE X e Γ M λd M1=>∃a ds M2,d = .mt a/\M1 a=some '8'/\M2 a=none/\Le M2 M1/\k '8' M2):GE X e Γ M k:=λσ G H Q n i q =>
 h σ G H Q n i λv G1 H1 d M1 s1 j ⟨a,ds,M2,p,g,r,m,f⟩=>by
  subst p
  obtain⟨vs,x1,s,st⟩:=s1.rel.frz g
  have l:Le M2 (dZ M1 a):=λb o z=>by rw[dD (λy=>by rw[y,r] at z;cases z)];exact m b o z
  have c:=st.trans (st.rel.drop l)
  exact q v _ _ '8' M2 (s1.trans c) (by rw[j.mt_];exact eW aR (s.up st.gg)) f
def Op2(K:Fg)(r:R2)(d1 d2:D)(M:Mem)(k:D->Mem->Prop):Prop:=∀G H v1 v2 Q,Rel K G H M->Den K G d1 v1->Den K G d2 v2->Cont K M k G H Q->r v1 v2 H Q
theorem two{r:R2}(h:GE X a Γ M λd1 M1=>GE X b Γ M1 λd2 M2=>Op2 X.K r d1 d2 M2 k){Q:VK}(en:EnvR X.K G Γ σ)(rl:Rel X.K G H M)(q:Cont X.K M k G H Q):tOp r (tU X a) (tU X b) σ H Q:=by
 refine h σ G H _ en rl λv1 G1 H1 d1 M1 s1 e d => ?_
 refine d σ G1 H1 _ (en.up s1.gg) s1.rel λv2 G2 H2 d2 M2 s2 f c => ?_
 exact c G2 H2 v1 v2 Q s2.rel (e.up s2.gg) f (q.up (s1.trans s2))
theorem bB{op:rk}{r:R2}(ho:OpR X (wo op) r)(h:GE X a Γ M λd1 M1=>GE X b Γ M1 λd2 M2=>Op2 X.K r d1 d2 M2 k):GE X (.BinOp a op b pos) Γ M k:=
 λσ G H Q c d q=>bY (aLB ho pU pU) (two h c d q)
theorem cR{op:CmpOp}{r:R2}(ho:OpR X (vc op) r)(h:GE X a Γ M λd1 M1=>GE X b Γ M1 λd2 M2=>Op2 X.K r d1 d2 M2 k)(hm:bq op b=false:=by first|exact nomark _|rfl):GE X (.Compare a [op] [b] pos) Γ M k:=
 λσ G H Q c d q=>bY (aFQ ho pU pU hm) (two h c d q)
theorem aQ{op:CmpOp}{r:R2}(ho:OpR X (vc op) r)(h:GE X a Γ M λd1 M1=>GE X b Γ M1 λd2 M2=>Op2 X.K r d1 d2 M2 λd M3=>∃c,d = .bl c/\kb c M3)(hm:bq op b=false:=by first|exact nomark _|rfl):GT X (.Compare a [op] [b] pos) Γ M kb:=
 λσ G H Q f i q=>uA (aFG ho pU pU hm) (two (k:=λd M3=>∃c,d = .bl c/\kb c M3) h f i λv G' H' d M' s e ⟨c,g,j⟩=>by subst g;exact⟨c,e.bl_,q c G' H' M' s j⟩)
theorem aS{r:R2}(hr:IxR X r)(h:GE X a Γ M λd1 M1=>GE X b Γ M1 λd2 M2=>Op2 X.K r d1 d2 M2 k)(hs:pJ b:=by intro _ _;rfl):GE X (.Subscript a b pos) Γ M k:=
 λσ G H Q c d q=>bY (aKN hr pU pU hs) (two h c d q)
theorem iY{op:UnaryOp}{g:Int->Int}(ho:UnR X (unaryOp op) (rU λi => .int (g i)))(h:GE X a Γ M λd M1=>∃i,d = .int i/\k (.int (g i)) M1):GE X (.UnaryOp op a pos) Γ M k:=λσ G H Q f c q=>by
 refine bY (aLW ho pU) ?_
 refine h σ G H _ f c λv G1 H1 d M1 s1 e ⟨i,j,b⟩ => ?_
 subst j
 exact⟨i,e.int_,q _ _ _ _ _ s1 cC b⟩
end
section
variable {K:Fg}{i j:Int}{y:Str}
theorem dX(h:k (.int (g i j)) M):Op2 K (rI0 λi j => .int (g i j)) (.int i) (.int j) M k:=λG H v1 v2 Q rl e1 e2 q=>⟨i,j,e1.int_,e2.int_,q _ G H _ M rl.10 cC h⟩
theorem kC{C:Int->Int->Prop}(hc:C i j)(h:k (.int (g i j)) M):Op2 K (rI C λi j => .int (g i j)) (.int i) (.int j) M k:=λG H v1 v2 Q a b c q=>⟨i,j,b.int_,c.int_,hc,q _ G H _ M a.10 cC h⟩
theorem eH{g:Int->Int->Bool}(h:k (.bl (g i j)) M):Op2 K (rI0 λi j => .bl (g i j)) (.int i) (.int j) M k:=λG H v1 v2 Q rl e1 e2 q=>⟨i,j,e1.int_,e2.int_,q _ G H _ M rl.10 bN h⟩
theorem cY(h:k (.bl (decide (i=j))) M):Op2 K rEq (.int i) (.int j) M k:=λG H v1 v2 Q a b c q=>by
 rw[b.int_,c.int_]
 exact⟨rfl,by rw[show decide (V.int i=V.int j)=decide (i=j) from by simp];exact q _ G H _ M a.10 bN h⟩
theorem jN(h:k (.bl (!decide (i=j))) M):Op2 K rNe (.int i) (.int j) M k:=λG H v1 v2 Q a b c q=>by
 rw[b.int_,c.int_]
 exact⟨rfl,by rw[show decide (V.int i=V.int j)=decide (i=j) from by simp];exact q _ G H _ M a.10 bN h⟩
theorem gF(h:k (.bl (decide (x=y))) M):Op2 K rEq (.str x) (.str y) M k:=λG H v1 v2 Q a b c q=>by
 rw[b.str_,c.str_]
 exact⟨rfl,by rw[show decide (V.str x=V.str y)=decide (x=y) from by simp];exact q _ G H _ M a.10 bN h⟩
theorem aIN(h:k (.bl (!decide (x=y))) M):Op2 K rNe (.str x) (.str y) M k:=λG H v1 v2 Q a b c q=>by
 rw[b.str_,c.str_]
 exact⟨rfl,by rw[show decide (V.str x=V.str y)=decide (x=y) from by simp];exact q _ G H _ M a.10 bN h⟩
theorem zF{x y:Bool}(h:k (.bl (!decide (x=y))) M):Op2 K rNe (.bl x) (.bl y) M k:=λG H v1 v2 Q a b c q=>by
 rw[b.bl_,c.bl_]
 exact⟨rfl,by rw[show decide (V.bl x=V.bl y)=decide (x=y) from by simp];exact q _ G H _ M a.10 bN h⟩
theorem aW{d:D}(q1:Seq M d1 t ds)(e:atI ds i=some d)(h:k d M):Op2 K (rIx K) d1 (.int i) M k:=λG H v1 v2 Q b g j q=>by
 obtain⟨a,vs,ev,s,f⟩:=q1.sq2 b g
 obtain⟨v,l,c⟩:=f.atI e
 rw[ev,j.int_]
 exact R.aK3 s l (q v G H d M b.10 c h)
theorem sD{z:Str}{c:Nat}(hz:z.length<=sizeLine)(e:atI z.cps.toList i=some c)(h:k (.str ⟨#[c]⟩) M):Op2 K (rIx K) (.str z) (.int i) M k:=λG H v1 v2 Q a b d q =>
 .inr (.inr ⟨z,i,c,b.str_,d.int_,hz,e,q _ G H _ M a.10 fV h⟩)
theorem lS(hz:x.length+y.length<=sizeLine)(h:k (.str (x++y)) M):Op2 K (λx y H Q=>∃i j,x = .str i/\y = .str j/\i.length+j.length<=sizeLine/\Q (.str (i++j)) H) (.str x) (.str y) M k:=
 λG H v1 v2 Q a b c q=>⟨x,y,b.str_,c.str_,hz,q _ G H _ M a.10 fV h⟩
theorem aGV(h1 : -(2^40)<=i)(h2:i<2^40)(h3:x.length*i.toNat<=sizeLine)(h:k (.str (iQ x i.toNat)) M):Op2 K aEM (.str x) (.int i) M k:=
 λG H v1 v2 Q a b c q=>⟨x,i,b.str_,c.int_,h1,h2,h3,q _ G H _ M a.10 fV h⟩
theorem jQ{xs:List D}(q1:Lst M d1 xs)(q2:Lst M d2 ys)(hl:xs.length+ys.length<=sizeLine)(h:k (.lst (xs++ys)) M):Op2 K aD7 d1 d2 M k:=λG H v1 v2 Q d i g q=>by
 obtain⟨a,vs,ev,s,e⟩:=q1.sq d i
 obtain⟨b,ws,j,s2,c⟩:=q2.sq d g
 refine⟨a,b,vs,ws,ev,j,s,s2,by rw[<- e.len,<- c.len];exact hl,λp f => ?_⟩
 have st:=d.new (o := .lst (vs++ws)) f
 exact q _ _ _ _ _ st (eW aR ((e.append c).up st.gg)) h
theorem aGM{xs:List D}(q1:Lst M d1 xs)(q2:Lst M d2 ys)(hl:xs.length+ys.length<=sizeLine)(h:∀a,M a=none->k (.mt a) (aL M a (.lst (xs++ys)))):Op2 K aD7 d1 d2 M k:=λG H v1 v2 Q d i g q=>by
 obtain⟨a,vs,ev,s,f⟩:=q1.sq d i
 obtain⟨b,ws,j,s2,c⟩:=q2.sq d g
 refine⟨a,b,vs,ws,ev,j,s,s2,by rw[<- f.len,<- c.len];exact hl,λp e => ?_⟩
 exact q _ _ _ _ _ (d.newM e (f.append c)) iT (h p (d.free e).2)
end
end Z
namespace Z
open PySem L2
section
variable {pos:Pos}{a b:Expr}{rest:List Expr}
theorem d9(h:GE X e Γ M λd M1=>∃c,d = .bl c/\kb c M1)(he:∀whole,isTrue e X.env whole=(do let v <- whole;sf e.pos;yz [v] (truthy v)):=by intro _;rfl):GT X e Γ M kb:=λσ G H Q g b q=>by
 refine uA (aH3 pU he) ?_
 exact h σ G H _ g b λv G1 H1 d M1 s1 f ⟨c,i,a⟩=>by subst i;exact⟨c,f.bl_,q _ _ _ _ s1 a⟩
inductive Tru(M:Mem):D->Bool->Prop
 |seq {d:D}{t:Bool}{ds:List D} (q:Seq M d t ds):Tru M d (!ds.isEmpty)
 |str (x:Str) (h:x.length<=sizeLine):Tru M (.str x) ((x.length:Int) != 0)
 |bl (b:Bool):Tru M (.bl b) b
 |int (i:Int):Tru M (.int i) (i != 0)
 |non:Tru M .non false
theorem fC(h:GT X a Γ M λc M1=>kb (!c) M1):GT X (.UnaryOp .Not a pos) Γ M kb:=λσ G H Q en rl q=>by
 refine uA (aI8 pUT) ?_
 exact h σ G H _ en rl λc G1 H1 M1 s1 h1=>q _ _ _ _ s1 h1
theorem fG(h:GW X e Γ M kb):GT X e Γ M kb:=λσ G H Q en rl q pins s I=>h σ G H Q en rl q (eval e X.env) pins s I
theorem iC(h:GT X a Γ M kb):GW X (.BoolOp .And [a] pos) Γ M kb:=λσ G H Q en rl q=>pC (aFY pUT) (h σ G H _ en rl q)
theorem lC(h:GT X a Γ M kb):GW X (.BoolOp .Or [a] pos) Γ M kb:=λσ G H Q en rl q=>pC (aIB pUT) (h σ G H _ en rl q)
theorem eZ(h:GT X a Γ M λc M1=>if c=true then GW X (.BoolOp .And (b::rest) pos) Γ M1 kb else kb false M1):GW X (.BoolOp .And (a::b::rest) pos) Γ M kb:=λσ G H Q e f q=>by
 refine pC (aJJ pUT pUW) ?_
 refine h σ G H _ e f λc G1 H1 M1 s1 d => ?_
 cases c with
 |true=>rw[if_pos rfl] at d ⊢;exact d σ G1 H1 _ (e.up s1.gg) s1.rel (q.up s1)
 |false=>rw[if_neg zBf] at d ⊢;exact q _ _ _ _ s1 d
theorem iX(h:GT X a Γ M λc M1=>if c=true then kb true M1 else GW X (.BoolOp .Or (b::rest) pos) Γ M1 kb):GW X (.BoolOp .Or (a::b::rest) pos) Γ M kb:=λσ G H Q e f q=>by
 refine pC (aLY pUT pUW) ?_
 refine h σ G H _ e f λc G1 H1 M1 s1 d => ?_
 cases c with
 |true=>rw[if_pos rfl] at d ⊢;exact q _ _ _ _ s1 d
 |false=>rw[if_neg zBf] at d ⊢;exact d σ G1 H1 _ (e.up s1.gg) s1.rel (q.up s1)
theorem oW{op:BoolOp}(h:GE X a Γ M k):GE X (.BoolOp op [a] pos) Γ M k:=λσ G H Q en rl q=>bY (aI5 pU) (h σ G H _ en rl q)
theorem aAV(h:GE X a Γ M λd M1=>∃c,d = .bl c/\if c=true then GE X (.BoolOp .And (b::rest) pos) Γ M1 k else k (.bl false) M1):GE X (.BoolOp .And (a::b::rest) pos) Γ M k:=λσ G H Q f g q=>by
 refine bY (aJK pU pU) ?_
 refine h σ G H _ f g λv G1 H1 d M1 s1 i ⟨c,j,e⟩ => ?_
 subst j
 refine⟨c,i.bl_,?_⟩
 cases c with
 |true=>rw[if_pos rfl] at e ⊢;exact e σ G1 H1 _ (f.up s1.gg) s1.rel (q.up s1)
 |false=>rw[if_neg zBf] at e ⊢;exact q _ _ _ _ _ s1 bN e
theorem aLC(h:GE X a Γ M λd M1=>∃c,d = .bl c/\if c=true then k (.bl true) M1 else GE X (.BoolOp .Or (b::rest) pos) Γ M1 k):GE X (.BoolOp .Or (a::b::rest) pos) Γ M k:=λσ G H Q f g q=>by
 refine bY (aLE pU pU) ?_
 refine h σ G H _ f g λv G1 H1 d M1 s1 i ⟨c,j,e⟩ => ?_
 subst j
 refine⟨c,i.bl_,?_⟩
 cases c with
 |true=>rw[if_pos rfl] at e ⊢;exact q _ _ _ _ _ s1 bN e
 |false=>rw[if_neg zBf] at e ⊢;exact e σ G1 H1 _ (f.up s1.gg) s1.rel (q.up s1)
theorem aA2(h:GE X a Γ M λd M1=>∃c,d = .bl c/\k (.bl (!c)) M1):GE X (.UnaryOp .Not a pos) Γ M k:=λσ G H Q g e q=>by
 refine bY (aJX pU) ?_
 exact h σ G H _ g e λv G1 H1 d M1 s1 f ⟨c,i,b⟩=>by subst i;exact⟨c,f.bl_,q _ _ _ _ _ s1 bN b⟩
theorem lO(h:GT X c Γ M λt M1=>if t=true then GE X a Γ M1 k else GE X b Γ M1 k):GE X (.IfExp c a b pos) Γ M k:=λσ G H Q e f q=>by
 refine bY (aCY pUT pU pU) ?_
 refine h σ G H _ e f λt G1 H1 M1 s1 d => ?_
 cases t with
 |true=>rw[if_pos rfl] at d ⊢;exact d σ G1 H1 _ (e.up s1.gg) s1.rel (q.up s1)
 |false=>rw[if_neg zBf] at d ⊢;exact d σ G1 H1 _ (e.up s1.gg) s1.rel (q.up s1)
variable {ka:List D->Mem->Prop}
theorem aJ(h:ka [] M):GA X [] Γ M ka:=λσ G H Q en rl q=>aAX sX (q _ _ _ _ _ rl.10 bT h)
theorem aC(h:GE X e Γ M λd M1=>GA X es Γ M1 λds M2=>ka (d::ds) M2)(hs:starEach (e::es) X.env=(false,eval e X.env)::starEach es X.env:=by rfl):GA X (e::es) Γ M ka:=λσ G H Q a c q=>by
 refine aAX (lV pU pUA hs) ?_
 refine h σ G H _ a c λv G1 H1 d M1 s1 f b => ?_
 exact b σ G1 H1 _ (a.up s1.gg) s1.rel λvs G2 H2 ds M2 s2 i g=>q _ _ _ _ _ (s1.trans s2) (bO (f.up s2.gg) i) g
theorem fE{x1}(h:GA X es Γ M λds M1=>ds.length<=sizeLine/\k (.tup ds) M1):GE X (.Tuple es x1 pos) Γ M k:=λσ G H Q e d q=>by
 refine bY (aIX pUA) ?_
 refine h σ G H _ e d λvs G1 H1 ds M1 s1 a ⟨hl,c⟩=>⟨by rw[<- a.len];exact hl,λp b => ?_⟩
 have st:=s1.rel.new (o := .tup vs) b
 exact q _ _ _ _ _ (s1.trans st) (fY (SqT.of aR) (a.up st.gg)) c
theorem o9(h:GA X es Γ M λds M1=>ds.length<=sizeLine/\k '8' M1):GE X (.List es pos) Γ M k:=λσ G H Q e d q=>by
 refine bY (aAZ pUA) ?_
 refine h σ G H _ e d λvs G1 H1 ds M1 s1 a ⟨hl,c⟩=>⟨by rw[<- a.len];exact hl,λp b => ?_⟩
 have st:=s1.rel.new (o := .lst vs) b
 exact q _ _ _ _ _ (s1.trans st) (eW aR (a.up st.gg)) c
theorem eE(h:GA X es Γ M λds M1=>ds.length<=sizeLine/\∀a,M1 a=none->k (.mt a) (aL M1 a '8')):GE X (.List es pos) Γ M k:=λσ G H Q f e q=>by
 refine bY (aAZ pUA) ?_
 refine h σ G H _ f e λvs G1 H1 ds M1 s1 c ⟨hl,d⟩=>⟨by rw[<- c.len];exact hl,λp b => ?_⟩
 exact q _ _ _ _ _ (s1.trans (s1.rel.newM b c)) iT (d p (s1.rel.free b).2)
abbrev Ct:=List D->Mem->(D->Mem->Prop)->Prop
noncomputable def spZ(K:Fg)(F:Ct):Sp:=λvs H Q _=>∃G M ds k,Rel K G H M/\Dens K G ds vs/\F ds M k/\Cont K M k G H Q
theorem aG6{ps:List Str}{p:Pos}{F:Ct}(Fk:FnOk X.prog X.w X.K X.mg X.base CX0 n f fd ps (spZ X.K F))(hr:Room n X.A)(hm:X.mg x=some (.ref f))(hk:zb X.K (.ref f)=true)(hb:Binds X.K fd ps [])(h:GA X (e::es) Γ M λds M1=>F ds M1 k)(hg:Gl X x:=by rfl)(hdb: '5'=false:=by decide)(he:starEach (e::es) X.env=(false,eval e X.env)::starEach es X.env:=by rfl)(hpl:(yg pos X.env.28).any (·.1)=false:=by rfl):
  GE X 'A' Γ M k:=λσ G H Q a d q=>by
 refine bY (aGP Fk hr hg hm hk hb .nil pass0 pUA hdb he hpl) ?_
 refine h σ G H _ a d λvs G1 H1 ds M1 s1 c b => ?_
 show spZ X.K F (vs++[]) H1 Q E0
 rw[vv]
 exact⟨G1,M1,ds,k,s1.rel,c,b,q.up s1⟩
def OpN(K:Fg)(r:List V->Hp->VK->Prop)(ds:List D)(M:Mem)(k:D->Mem->Prop):Prop:=∀G H vs Q,Rel K G H M->Dens K G ds vs->Cont K M k G H Q->r vs H Q
theorem aX{p:Pos}{id:String}{r:List V->Hp->VK->Prop}(hc:dB X (.builtin id) r)(hm:X.mg x=none)(hv:ke x=some (.builtin id))(h:GA X (e::es) Γ M λds M1=>OpN X.K r ds M1 k)(hg:Gl X x:=by rfl)(hn:x ≠ "__name__" := by decide)(hdb: '5'=false:=by decide)(he:starEach (e::es) X.env=(false,eval e X.env)::starEach es X.env:=by rfl)(hpl:(yg pos X.env.28).any (·.1)=false:=by rfl):GE X 'A' Γ M k:=λσ G H Q a d q=>by
 refine bY (tG hc hg hm hv pUA hn hdb he hpl) ?_
 exact h σ G H _ a d λvs G1 H1 ds M1 s1 c b=>b G1 H1 vs Q s1.rel c (q.up s1)
theorem dF{p:Pos}{T:String}{r:List V->Hp->VK->Prop}(hc:dB X (.type T) r)(hm:X.mg x=none)(hv:ke x=some (.type T))(h:GA X (e::es) Γ M λds M1=>OpN X.K r ds M1 k)(hg:Gl X x:=by rfl)(hn:x ≠ "__name__" := by decide)(hdb: '5'=false:=by decide)(he:starEach (e::es) X.env=(false,eval e X.env)::starEach es X.env:=by rfl)(hpl:(yg pos X.env.28).any (·.1)=false:=by rfl):GE X 'A' Γ M k:=λσ G H Q a d q=>by
 refine bY (aB3 hc hg hm hv pUA hn hdb he hpl) ?_
 exact h σ G H _ a d λvs G1 H1 ds M1 s1 c b=>b G1 H1 vs Q s1.rel c (q.up s1)
theorem dens1{K:Fg}{d:D}{vs:List V}(h:Dens K G [d] vs):∃v,vs=[v]/\Den K G d v:=by
 obtain⟨v,r,rfl,h1,h2⟩:=bF h
 rw[b5 h2];exact⟨v,rfl,h1⟩
theorem dens2{K:Fg}{d c:D}{vs:List V}(h:Dens K G [d,c] vs):∃v u,vs=[v,u]/\Den K G d v/\Den K G c u:=by
 obtain⟨v,r,rfl,h1,h2⟩:=bF h
 obtain⟨u,rfl,h3⟩:=dens1 h2
 exact⟨v,u,rfl,h1,h3⟩
theorem cH{K:Fg}{d:D}(q1:Seq M d t ds)(h:k (.int (ds.length:Int)) M):OpN K (λxs H Q=>∃x n,xs=[x]/\aCQ K x H n/\Q (.int n) H) [d] M k:=λG H vs Q c e q=>by
 obtain⟨v,rfl,f⟩:=dens1 e
 obtain⟨a,ws,ev,s,b⟩:=q1.sq2 c f
 subst ev
 refine⟨_,ds.length,rfl,?_,q _ _ _ _ _ c.10 cC h⟩
 rcases s with s|s
 ·exact .inl ⟨ws,s,b.len⟩
 ·exact .inr ⟨ws,s,b.len⟩
theorem pY{K:Fg}(hz:x.length<=sizeLine)(h:k (.int (x.length:Int)) M):OpN K (λxs H Q=>∃x n,xs=[x]/\aCQ K x H n/\Q (.int n) H) [.str x] M k:=λG H vs Q b e q=>by
 obtain⟨v,rfl,a⟩:=dens1 e
 rw[a.str_]
 exact⟨_,x.length,rfl,⟨hz,rfl⟩,q _ _ _ _ _ b.10 cC h⟩
theorem aBI{K:Fg}{i:Int}(h:k (.int (if i<0 then -i else i)) M):OpN K (λxs H Q=>∃i,xs=[.int i]/\Q (.int (if i<0 then -i else i)) H) [.int i] M k:=λG H vs Q b e q=>by
 obtain⟨v,rfl,a⟩:=dens1 e
 rw[a.int_]
 exact⟨i,rfl,q _ _ _ _ _ b.10 cC h⟩
theorem pQ{K:Fg}{c:Bool}(h:k (.int (if c then 1 else 0)) M):OpN K (λxs H Q=>(∃i,xs=[.int i]/\Q (.int i) H)\/∃k,xs=[.bl k]/\Q (.int (if k then 1 else 0)) H) [.bl c] M k:=λG H vs Q b e q=>by
 obtain⟨v,rfl,a⟩:=dens1 e
 rw[a.bl_]
 exact .inr ⟨c,rfl,q _ _ _ _ _ b.10 cC h⟩
theorem aI1{K:Fg}{i j:Int}(h:k (.int (if j<i then j else i)) M):OpN K (λxs H Q=>∃i j,xs=[.int i, .int j]/\Q (.int (if j<i then j else i)) H) [.int i, .int j] M k:=λG H vs Q c e q=>by
 obtain⟨v,u,rfl,b,a⟩:=dens2 e
 rw[b.int_,a.int_]
 exact⟨i,j,rfl,q _ _ _ _ _ c.10 cC h⟩
theorem aF7{K:Fg}{d:D}(q1:Seq M d t ds)(h:k '8' M):OpN K (λxs H Q=>∃p ys,xs=[.ref p]/\(SqL K H p ys\/SqT K H p ys)/\∀l,H l=none->Q (.ref l) (upd H l (.lst ys))) [d] M k:=λG H vs Q b e q=>by
 obtain⟨v,rfl,c⟩:=dens1 e
 obtain⟨a,ws,ev,s,f⟩:=q1.sq2 b c
 subst ev
 refine⟨a,ws,rfl,s,λl hl => ?_⟩
 have st:=b.new (o := .lst ws) hl
 exact q _ _ _ _ _ st (eW aR (f.up st.gg)) h
theorem nL{K:Fg}{d:D}(q1:Seq M d t ds)(h:k (.tup ds) M):OpN K (λxs H Q=>∃p ys,xs=[.ref p]/\((SqL K H p ys/\∀l,H l=none->Q (.ref l) (upd H l (.tup ys)))\/(SqT K H p ys/\Q (.ref p) H))) [d] M k:=λG H vs Q b e q=>by
 obtain⟨v,rfl,f⟩:=dens1 e
 cases q1 with
 |tup ds =>
  obtain⟨a,ws,ev,s,c⟩:=f.tup_
  subst ev
  exact⟨a,ws,rfl, .inr ⟨R.bW b.same s,q _ _ _ _ _ b.10 f h⟩⟩
 |lst ds =>
  obtain⟨a,ws,ev,s,c⟩:=(Seq.lst ds).sq b f
  subst ev
  refine⟨a,ws,rfl, .inl ⟨s,λl hl => ?_⟩⟩
  have st:=b.new (o := .tup ws) hl
  exact q _ _ _ _ _ st (fY (SqT.of aR) (c.up st.gg)) h
 |fl ds =>
  obtain⟨a,ws,ev,s,c⟩:=(Seq.fl ds).sq b f
  subst ev
  refine⟨a,ws,rfl, .inl ⟨s,λl hl => ?_⟩⟩
  have st:=b.new (o := .tup ws) hl
  exact q _ _ _ _ _ st (fY (SqT.of aR) (c.up st.gg)) h
 |mt hm =>
  obtain⟨a,ws,ev,s,c⟩:=(Seq.mt hm).sq b f
  subst ev
  refine⟨a,ws,rfl, .inl ⟨s,λl hl => ?_⟩⟩
  have st:=b.new (o := .tup ws) hl
  exact q _ _ _ _ _ st (fY (SqT.of aR) (c.up st.gg)) h
theorem uE{K:Fg}:∀{bs:List Str}{vs:List V},Dens K G (bs.map D.str) vs->vs=bs.map V.str
 |[],_,h=>b5 h
 |b::bs,_,h=>by
  obtain⟨v,r,rfl,h1,h2⟩:=bF h
  rw[h1.str_,uE h2];rfl
theorem gG{K:Fg}:∀{bs:List Int}{vs:List V},Dens K G (bs.map D.int) vs->vs=bs.map V.int
 |[],_,h=>b5 h
 |b::bs,_,h=>by
  obtain⟨v,r,rfl,h1,h2⟩:=bF h
  rw[h1.int_,gG h2];rfl
def TyD(T:String)(d:D)(M:Mem):Prop:=match d with
 |.str _=>T = "str"
 |.lst _=>T = "list"
 |.mt a=>T = "list" /\ ∃ds,M a=some '8'
 |_=>False
theorem TyD.ok{K:Fg}{T:String}{d:D}(h:TyD T d M)(rl:Rel K G H M)(e:Den K G d v):tyV K T v H:=by
 cases d with
 |str x=>rw[e.str_];exact h
 |lst ds=>obtain⟨a,vs,ev,s,_⟩:=e.lst_;rw[ev];exact .inl ⟨h,vs,SqL.of (rl.same _ _ s)⟩
 |mt a =>
  obtain⟨c,ds,b⟩:=h
  obtain⟨_,vs,s,_⟩:=rl.mem _ _ b
  rw[e.mt_];exact .inl ⟨c,vs,SqL.of s⟩
 |_=>exact vn h
def OpM(K:Fg)(r:V->List V->Hp->VK->Prop)(d:D)(ds:List D)(M:Mem)(k:D->Mem->Prop):Prop:=∀G H v vs Q,Rel K G H M->Den K G d v->Dens K G ds vs->Cont K M k G H Q->r v vs H Q
theorem eC{T id:String}(pa:PlainAttrs T)(slot:Slot T name id)(hty:typeOf (.builtin id)=pure (.type "method_descriptor"))(hm:MtR X id r)(h:GE X o Γ M λd M1=>TyD T d M1/\GA X (e::es) Γ M1 λds M2=>OpM X.K r d ds M2 k)(hbase:ff o name X.env (eval o X.env)=eval o X.env:=by rfl)(hfew:((yg cpos (starEach (e::es) X.env)).all (λx => !x.1)&&(cw cpos (yj [] X.env)).all (λx=>x.1.isSome)
   && decide '7')=true:=by rfl)(hline:(apos.endLine==cpos.line)=true:=by rfl)(hs:starEach (e::es) X.env=(false,eval e X.env)::starEach es X.env:=by rfl)(hplain:(yg cpos X.env.28).any (·.1)=false:=by rfl):
  GE X (.Call (.Attribute o name apos) (e::es) [] cpos) Γ M k:=λσ G H Q b f q=>by
 refine bY (aKX pa slot hty hm pU pUA hbase hfew hline hs hplain) ?_
 refine h σ G H _ b f λv G1 H1 d M1 s1 a ⟨ty,c⟩=>⟨ty.ok s1.rel a,?_⟩
 exact c σ G1 H1 _ (b.up s1.gg) s1.rel λvs G2 H2 ds M2 s2 i g=>g G2 H2 v vs Q s2.rel (a.up s2.gg) i (q.up (s1.trans s2))
theorem cZ{K:Fg}{a:Addr}{d:D}(hm:M a=some '8')(hl:ds.length<sizeLine)(h:k .non (aL M a (.lst (ds++[d])))):OpM K wE (.mt a) [d] M k:=λG H v vs Q c e g q=>by
 obtain⟨u,rfl,f⟩:=dens1 g
 obtain⟨_,ws,s,b⟩:=c.mem _ _ hm
 exact⟨a,ws,u,e.mt_,rfl,s,by rw[<- b.len];exact hl,q _ _ _ _ _ (c.wr hm (b.append (bO f bT))) mF h⟩
theorem u8{K:Fg}{sep:Str}{d:D}{ys:List Str}(q1:Seq M d t (ys.map D.str))(h1:sep.length<=16)(h2:(ys.map (·.length)).sum+ys.length<=1048576)(h:k (.str (Qw sep ys)) M):OpM K (rJoin K) (.str sep) [d] M k:=λG H v vs Q b e f q=>by
 obtain⟨u,rfl,c⟩:=dens1 f
 obtain⟨a,ws,ev,s,g⟩:=q1.sq2 b c
 subst ev
 rw[uE g] at s
 exact⟨sep,a,ys,e.str_,rfl,s,h1,h2,q _ _ _ _ _ b.10 fV h⟩
end
end Z
namespace Z
open PySem L2
section
variable {pos:Pos}{a b:Expr}{rest:List Expr}{lo hi:Option Expr}{ko:Option Int->Mem->Prop}
def tUO(X:Cx)(e:Option Expr):TO:=λσ H Q=>∀pins s,Inv X pins σ H s->wpAny X.w.6 X.A (evalPart e X.env) (λu s'=>∃o H',Inv X pins σ H' s'/\IsPart u o/\Q o H') X.xe s
theorem pUO{e:Option Expr}:PO X e (tUO X e):=λpins s σ H Q I h=>h pins s I
theorem zE{e:Option Expr}{t:TO}(p:PO X e t){Q:Option Int->Hp->Prop}(h:t σ H Q):tUO X e σ H Q:=λpins s I=>p pins s σ H Q I h
def GO(X:Cx)(e:Option Expr)(Γ:Gm)(M:Mem)(ko:Option Int->Mem->Prop):Prop:=
 ∀σ G H Q,EnvR X.K G Γ σ->Rel X.K G H M->(∀o G' H' M',Stp X.K G H M G' H' M'->ko o M'->Q o H')->tUO X e σ H Q
theorem pV(h:ko none M):GO X none Γ M ko:=λσ G H Q en rl q=>zE aF2 (q _ _ _ _ rl.10 h)
theorem cK(h:GE X e Γ M λd M1=>∃i,d = .int i/\ko i.3 M1):GO X e.3 Γ M ko:=λσ G H Q f b q=>zE (aHQ pU) (h σ G H _ f b λv G1 H1 d M1 s1 c ⟨i,g,a⟩=>by subst g;exact⟨i,c.int_,q _ _ _ _ s1 a⟩)
abbrev R3:=V->Option Int->Option Int->Hp->VK->Prop
def Op3(K:Fg)(r:R3)(d:D)(l u:Option Int)(M:Mem)(k:D->Mem->Prop):Prop:=∀G H v Q,Rel K G H M->Den K G d v->Cont K M k G H Q->r v l u H Q
theorem dH{r:R3}(hr:SlR X r)(h:GE X e Γ M λd M1=>GO X lo Γ M1 λl M2=>GO X hi Γ M2 λu M3=>Op3 X.K r d l u M3 k):GE X (.Subscript e (.Slice lo hi none p2) pos) Γ M k:=λσ G H Q a c q=>by
 refine bY (aDI hr pU pUO pUO) ?_
 refine h σ G H _ a c λv G1 H1 d M1 s1 f b => ?_
 refine b σ G1 H1 _ (a.up s1.gg) s1.rel λl G2 H2 M2 s2 i => ?_
 refine i σ G2 H2 _ (a.up (s1.trans s2).gg) s2.rel λu G3 H3 M3 s3 g => ?_
 exact g G3 H3 v Q s3.rel (f.up (s2.trans s3).gg) (q.up ((s1.trans s2).trans s3))
noncomputable def cutD{α:Type}(xs:List α)(lo hi:Option Int):List α:=(xs.drop (HT.sIx xs.length 0 lo)).take (HT.sIx xs.length xs.length hi-HT.sIx xs.length 0 lo)
theorem Dens.cut{K:Fg}{vs:List V}(h:Dens K G ds vs)(l u:Option Int):Dens K G (cutD ds l u) (nW vs l u):=by
 unfold cutD nW
 rw[<- h.len]
 exact (h.drop _).take _
theorem jO{K:Fg}{z:Str}{l u:Option Int}(hz:z.length<=sizeLine)(h:k (.str (pN z l u)) M):Op3 K rSlS (.str z) l u M k:=λG H v Q rl e q=>⟨z,e.str_,hz,q _ _ _ _ _ rl.10 fV h⟩
theorem tP{K:Fg}{d:D}{l u:Option Int}(q1:Seq M d true ds)(h:k (.lst (cutD ds l u)) M):Op3 K (rSlL K) d l u M k:=λG H v Q b e q=>by
 obtain⟨a,vs,ev,s,f⟩:=q1.sq b e
 refine⟨a,vs,ev,s,λp c => ?_⟩
 have st:=b.new (o := .lst (nW vs l u)) c
 exact q _ _ _ _ _ st (eW aR ((f.cut l u).up st.gg)) h
structure YD(K:Fg)(J:It)(ds:List D)(G0:Hp):Prop where
 go:∀i G H M,Same G0 G->Rel K G H M->i<ds.length->J.go i H
 yld:∀i G H M x H',Same G0 G->Rel K G H M->i<ds.length->J.yld i H x H'->∃G' d,Stp K G H M G' H' M/\ds[i]?=some d/\Den K G' d x
 stop:∀i G H M,Same G0 G->Rel K G H M->i=ds.length->J.stop i H
theorem vI{K:Fg}{a:Addr}{vs:List V}(s:SqL K G0 a vs)(dn:Dens K G0 ds vs):YD K (Itl K a) ds G0 where
 go:=λi G H M sg b h=>hX.go i H (b.same.seq (sg.seq s)) (by rw[<- dn.len];exact h)
 yld:=λi G H M x H' sg b h y=>by
  obtain⟨e,c⟩:=hX.yld i H x H' (b.same.seq (sg.seq s)) y (by rw[<- dn.len];exact h)
  subst e
  obtain⟨d,hd,e⟩:=dn.get' c
  exact⟨G,d,Stp.refl b,hd,e.up sg⟩
 stop:=λi G H M sg b h=>hX.stop i H (b.same.seq (sg.seq s)) (by rw[<- dn.len];exact y6 h.symm)
theorem aJC{K:Fg}{a:Addr}{vs:List V}(s:SqT K G0 a vs)(dn:Dens K G0 ds vs):YD K (Itt K a) ds G0 where
 go:=λi G H M sg b h=>tK.go i H (R.bW b.same (R.bW sg s)) (by rw[<- dn.len];exact h)
 yld:=λi G H M x H' sg b h y=>by
  obtain⟨e,c⟩:=tK.yld i H x H' (R.bW b.same (R.bW sg s)) y (by rw[<- dn.len];exact h)
  subst e
  obtain⟨d,hd,e⟩:=dn.get' c
  exact⟨G,d,Stp.refl b,hd,e.up sg⟩
 stop:=λi G H M sg b h=>tK.stop i H (R.bW b.same (R.bW sg s)) (by rw[<- dn.len];exact y6 h.symm)
noncomputable def k4(lo:Int)(n:Nat):List D:=(qz n).map λi=>D.int (lo+(i:Nat))
theorem bC(lo:Int)(n:Nat):(k4 lo n).length=n:=by simp[k4]
theorem bS{lo:Int}{d:D}(h:(k4 lo n)[i]?=some d):i<n/\d = .int (lo+(i:Nat)):=by
 have a:i<n:=by rw[<- bC lo n];exact (h.5).1
 simp[k4,a] at h
 exact⟨a,h.symm⟩
theorem aII{K:Fg}{lo:Int}:YD K (Itr lo n) (k4 lo n) G0 where
 go:=λi G H M sg a h=>by rw[bC] at h;exact h
 yld:=λi G H M x H' sg a h y=>by
  obtain⟨e,b⟩:=y
  subst e b
  rw[bC] at h
  exact⟨G,_,Stp.refl a,by simp[k4,h],cC⟩
 stop:=λi G H M sg a h=>by rw[bC] at h;exact y6 h.symm
def GI(X:Cx)(tg iter:Expr)(Γ:Gm)(M:Mem)(ki:List D->Mem->Prop):Prop:=
 ∀σ G H R,EnvR X.K G Γ σ->Rel X.K G H M->(∀J G' H' ds M',Stp X.K G H M G' H' M'->YD X.K J ds G'->ki ds M'->R J H')->tUI X tg iter σ H R
def iAny(K:Fg)(tl:TE):TI:=λσ H R=>tl σ H λx H1=>∃a,x = .ref a/\(((∃xs,SqL K H1 a xs)/\R (Itl K a) H1)\/((∃xs,SqT K H1 a xs)/\R (Itt K a) H1))
theorem zA{l:Expr}{tl:TE}(hl:PE X l tl):PI X tg l (iAny X.K tl):=by
 intro pins s σ H R I h
 refine thn (hl pins s σ H _ I h) λv s1 ⟨x,H1,I1,r1,m⟩ => ?_
 obtain⟨a,e,q⟩:=m
 subst e
 cases r1
 have g:∀b∈[s1.heap.objs.size],eR X pins H1 b:=λb k=>by
  have e:b=s1.heap.objs.size:=by simpa using k
  subst e
  exact I1.fpOk (qo _) (I1.hok.fresh (qo _))
 rcases q with ⟨⟨xs,d⟩,q⟩|⟨⟨xs,d⟩,q⟩
 ·obtain⟨c,i,f,j⟩:=I1.list d
  refine nt f.isList ?_
  exact⟨s1.heap.objs.size,[s1.heap.objs.size],_,Itl X.K a,H1,rfl,I1.kept (t':=s1.toks) λb o e=>qf _ e,zW a _,⟨_,qq _ rfl,rfl,rfl⟩,g,q⟩
 ·obtain⟨c,i,f,j⟩:=I1.tuple d
  refine wpAny_pyIter_tuple f ?_
  exact⟨s1.heap.objs.size,[s1.heap.objs.size],_,Itt X.K a,H1,rfl,I1.kept (t':=s1.toks) λb o e=>qf _ e,yJ a _,⟨_,qq _ rfl,rfl,rfl⟩,g,q⟩
theorem gH(h:GE X iter Γ M λd M1=>∃ds,(d = .tup ds\/d = .lst ds\/d = .fl ds)/\ki ds M1):GI X tg iter Γ M ki:=λσ G H Rr g f q=>by
 refine pB (zA pU) ?_
 refine h σ G H _ g f λv G1 H1 d M1 s1 e ⟨ds,i,c⟩ => ?_
 rcases i with rfl|rfl|rfl
 ·obtain⟨a,vs,ev,s,b⟩:=e.tup_
  exact⟨a,ev, .inr ⟨⟨vs,R.bW s1.rel.same s⟩,q _ _ _ _ _ s1 (aJC s b) c⟩⟩
 ·obtain⟨a,vs,ev,s,b⟩:=e.lst_
  exact⟨a,ev, .inl ⟨⟨vs,SqL.of (s1.rel.same _ _ s)⟩,q _ _ _ _ _ s1 (vI (SqL.of s) b) c⟩⟩
 ·obtain⟨a,vs,ev,s,b⟩:=e.fl_
  exact⟨a,ev, .inl ⟨⟨vs,s1.rel.same.seq s⟩,q _ _ _ _ _ s1 (vI s b) c⟩⟩
theorem cW{p:Pos}(hm:X.mg "range" = none)(h:GA X [a] Γ M λds M1=>∃j:Int,ds=[.int j] /\ -(2^62)<=j/\j<2^62/\ki (k4 0 j.toNat) M1)(hg:Gl X "range" := by rfl)(hs:starEach [a] X.env=[(false,eval a X.env)]:=by rfl):GI X tg (.Call (.Name "range" p) [a] [] pos) Γ M ki:=λσ G H R g d q=>by
 refine pB (zO hg hm pUA hs) ?_
 refine h σ G H _ g d λvs G1 H1 ds M1 s1 e ⟨j,i,b,k,f⟩ => ?_
 subst i
 obtain⟨v,rfl,c⟩:=dens1 e
 rw[c.int_]
 exact⟨j,rfl,b,k,q _ _ _ _ _ s1 aII f⟩
end
section
variable {K:Fg}
theorem join_some{α:Type}{o:Option (Option α)}{x:α}(h:o.join=some x):o=some x.3:=by
 cases o with
 |none=>cases h
 |some y=>cases y with
  |none=>cases h
  |some z=>cases h;rfl
theorem EnvR.cap(h:EnvR K G Γ σ){d:D}(e:Den K G d v)(cap:List Nat):EnvR K G (some d::cap.map λk=>(Γ[k]?).join) (some v::cap.map λk=>(σ[k]?).join):=by
 refine⟨by simp,λi c q => ?_⟩
 cases i with
 |zero=>simp at q;subst q;exact⟨v,rfl,e⟩
 |succ i =>
  rw[kc,qm] at q ⊢
  cases hc:cap[i]? with
  |none=>rw[hc] at q;cases q
  |some j =>
   rw[hc,QZ] at q
   have f:(Γ[j]?).join=some c:=by injection q
   obtain⟨u,a,b⟩:=h.get j c (join_some f)
   exact⟨u,by rw[QZ,a];rfl,b⟩
theorem Stp.aside{H0:Hp}{M0:Mem}{p:Addr}{o:HO}(s:Stp K G0 H0 M0 G H M)(h0:H0 p=none)(hg:G p=none)(hm:M p=none):Stp K G0 H0 M0 G (upd H p o) M:=by
 refine⟨s.gg,⟨λb u e => ?_,λa m e => ?_⟩,λa u c f d => ?_⟩
 ·rw[aG (aT e hg)];exact s.rel.same b u e
 ·have z:a≠p:=λz=>by rw[z,hm] at e;cases e
  exact⟨(s.rel.mem a m e).1,(s.rel.mem a m e).2.mv (Same.refl G) (aG z)⟩
 ·obtain⟨x,y,z⟩:=s.fr a u c f d
  exact⟨by rw[aG (aT c h0)];exact x,y,z⟩
theorem Stp.track{H0:Hp}{M0:Mem}{p:Addr}{vs:List V}(s:Stp K G0 H0 M0 G H M)(h0:H0 p=none)(hg:G p=none)(hp:H p=some (.lst vs))(dn:Dens K G ds vs):Stp K G0 H0 M0 G H (aL M p '8'):=by
 refine⟨s.gg,⟨s.rel.same,λa m e => ?_⟩,λa u b d c => ?_⟩
 ·by_cases z:a=p
  ·subst z
   rw[aD] at e;cases e
   exact⟨hg,vs,hp,dn⟩
  ·rw[aF z] at e;exact s.rel.mem a m e
 ·obtain⟨x,y,z⟩:=s.fr a u b d c
  exact⟨x,y,by rw[aF (aT b h0)];exact z⟩
end
def aCV(Y:Cx)(ifs:List Expr):TT:=λσ H Q=>∀pins s,Inv Y pins σ H s ->
  wpAny (ja Y.prog Y.w) Y.A (forIn ifs true λc r=>if r=true then do let ok <- isTrue c Y.env (eval c Y.env);pure (v8 ok) else pure (v8 r)) (TP Y pins σ Q) Y.xe s
def GIf(Y:Cx)(ifs:List Expr)(Γ:Gm)(M:Mem)(kb:Bool->Mem->Prop):Prop:=
 ∀σ G H Q,EnvR Y.K G Γ σ->Rel Y.K G H M->lZ Y.K M kb G H Q->aCV Y ifs σ H Q
theorem fW{Y:Cx}(h:kb true M):GIf Y [] Γ M kb:=λσ G H Q en rl q pins s I=>aF4 pins s σ H Q I (q _ _ _ _ rl.10 h)
theorem wB{Y:Cx}(h:GT Y c Γ M kb):GIf Y [c] Γ M kb:=λσ G H Q en rl q pins s I=>aE8 pUT pins s σ H Q I (h σ G H Q en rl q)
def Comp(X:Cx)(x:Str)(ns:List Str)(cap:List Nat)(elt:Expr)(ifs:List Expr)(scope:Scope)(Γ:Gm)(k:D->Mem->Prop)(ds:List D)(M1:Mem):Prop:=
 ds.length<=sizeLine/\∃I:Nat->List D->Mem->Prop,I 0 [] M1 /\
  (∀i d acc M2,ds[i]?=some d->I i acc M2->∀cs C s₀ H₀ fp,GIf fp.22 ifs (some d::cap.map λk=>(Γ[k]?).join) M2 λc M3 =>
   if c=true then '.' else I (i+1) acc M3) /\
  (∀acc M2,I ds.length acc M2->∀a,M2 a=none->k (.mt a) (aL M2 a (.lst acc)))
theorem aBC{cap:List Nat}(h:GI X (.Name x px) iter Γ M (Comp X x ns cap elt ifs scope Γ k)){Q:VK}(en:EnvR X.K G Γ σ)(rl:Rel X.K G H M)(q:Cont X.K M k G H Q):
  mB (tUI X (.Name x px) iter) cap (λσ H Q=>∀cs C s₀ H₀ fp,aCV fp.22 ifs σ H Q) (λσ H Q=>∀cs C s₀ H₀ fp,tU fp.22 elt σ H Q) σ H Q:=by
 refine h σ G H _ en rl λJ G1 H1 ds M1 s1 o ⟨hlen,I,h0,f,j⟩ A hA => ?_
 have b:=s1.rel.free hA
 refine⟨λi m r H2=>m=ds.length-i/\i<=ds.length/\∃G2 M2 acc,Stp X.K G1 H1 M1 G2 H2 M2/\H2 A=some (.lst r)/\G2 A=none/\M2 A=none/\Dens X.K G2 acc r/\I i acc M2/\acc.length<=i,
  ⟨ds.length,by simp,kd _,G1,M1,[],(s1.rel.10).aside hA b.1 b.2,aR,b.1,b.2,bT,h0,qo _⟩,?_⟩
 rintro i m r H2 ⟨rfl,S,G2,M2,acc,s2,hl,F,hm,n,t,v⟩
 refine⟨hl,?_⟩
 by_cases a:i<ds.length
 ·refine .inr ⟨o.go i G2 H2 M2 s2.gg s2.rel a,by rw[<- n.len];lia,λx H3 y => ?_⟩
  obtain⟨G3,d,s3,hd,ex⟩:=o.yld i G2 H2 M2 x H3 s2.gg s2.rel a y
  obtain⟨l3,g3,N⟩:=s3.fr A _ hl F hm
  intro cs C s₀ H₀ fp
  have g:=((en.up s1.gg).up (s2.trans s3).gg).cap ex cap
  refine f i d acc M2 hd t cs C s₀ H₀ fp _ G3 H3 _ g s3.rel λc G4 H4 M4 s4 l => ?_
  obtain⟨w,z,B⟩:=s4.fr A _ l3 g3 N
  cases c with
  |true =>
   rw[if_pos rfl] at l ⊢
   intro cs C s₀ H₀ fp
   refine l cs C s₀ H₀ fp _ G4 H4 _ (g.up s4.gg) s4.rel λy G5 H5 P M5 s5 R L => ?_
   obtain⟨O,E,u⟩:=s5.fr A _ w z B
   have p:=((s2.trans s3).trans s4).trans s5
   exact⟨O,ds.length-(i+1),by lia,rfl,a,G5,M5,acc++[P],p.aside hA E u,aR,E,u,(n.up ((s3.trans s4).trans s5).gg).append (bO R bT),L,by rw[qe,vp];lia⟩
  |false =>
   rw[if_neg zBf] at l ⊢
   exact⟨ds.length-(i+1),by lia,rfl,a,G4,M4,acc,(s2.trans s3).trans s4,w,z,B,n.up (s3.trans s4).gg,l,by lia⟩
 ·have e:i=ds.length:=by lia
  subst e
  exact .inl ⟨o.stop _ G2 H2 M2 s2.gg s2.rel rfl,q _ _ _ _ _ (s1.trans (s2.track hA F hl n)) iT (j acc M2 t A hm)⟩
end Z
namespace Z
open PySem L2
section
variable {F:Fin}{pos:Pos}{a b:Expr}{body:List Stmt}
theorem aGZ(ns:List Str)(cap:List Nat)(h:GI X (.Name x px) iter Γ M (Comp X x ns cap elt ifs scope Γ k))(hsc:X.env.scope=sc:=by rfl)(hN:X.N=N:=by rfl)(ok:iL sc scope x ns cap N=true:=by first|decide +kernel|kernel_rfl!)(hc:X.calm=true:=by rfl)(hs:∀v,foldedSetIterable iter X.env v=pure v:=by intro _;rfl):
  GE X '&' Γ M k:=λσ G H Q b c q =>
 bY (aD9 ns cap hc hsc hN ok pUI ';' ';' hs) (aBC h b c q)
def aET(X:Cx)(x:Str)(ns:List Str)(cap:List Nat)(elt:Expr)(ifs:List Expr)(scope:Scope)(Γ:Gm)(k:D->Mem->Prop)(ds:List D)(M1:Mem):Prop:=
 ds.length<=sizeLine/\∃I:Nat->List D->Mem->Prop,I 0 [] M1 /\
  (∀i d acc M2,ds[i]?=some d->I i acc M2->∀cs C s₀ H₀ fp,GIf fp.22 ifs (some d::cap.map λk=>(Γ[k]?).join) M2 λc M3 =>
   if c=true then '.' else I (i+1) acc M3) /\
  (∀acc M2,I ds.length acc M2->k (.lst acc) M2)
theorem fN(ns:List Str)(cap:List Nat)(h:GI X (.Name x px) iter Γ M (aET X x ns cap elt ifs scope Γ k))(hsc:X.env.scope=sc:=by rfl)(hN:X.N=N:=by rfl)(ok:iL sc scope x ns cap N=true:=by first|decide +kernel|kernel_rfl!)(hc:X.calm=true:=by rfl)(hs:∀v,foldedSetIterable iter X.env v=pure v:=by intro _;rfl):
  GE X '&' Γ M k:=by
 refine lP (aGZ ns cap ?_ hsc hN ok hc hs)
 intro σ G H Rr i f q
 refine h σ G H Rr i f λJ G1 H1 ds M1 s1 g ⟨hl,I,h0,b,c⟩ => ?_
 exact q J G1 H1 ds M1 s1 g ⟨hl,I,h0,b,λacc M2 e a d=>⟨a,acc,M2,rfl,aD,d,(Le.refl M2).upd d,c acc M2 e⟩⟩
theorem mV{cap:List Nat}{M1:Mem}(hl:ds.length<=sizeLine)(I:Nat->List D->Mem->Prop)(h0:I 0 [] M1)(hs:∀i d acc M2,ds[i]?=some d->I i acc M2->∀cs C s₀ H₀ fp,GIf fp.22 ifs (some d::cap.map λk=>(Γ[k]?).join) M2 λc M3 =>
   if c=true then '.' else I (i+1) acc M3)(hd:∀acc M2,I ds.length acc M2->k (.lst acc) M2):aET X x ns cap elt ifs scope Γ k ds M1:=⟨hl,I,h0,hs,hd⟩
theorem aZ(h:F.nx Γ M):GS X [] Γ M F:=λσ G H E en rl q=>p5 aFZ (q.nx σ G H Γ M rl.10 en h)
theorem aA(h:G1 X st Γ M {F with nx:=λΓ' M'=>GS X ss Γ' M' F}):GS X (st::ss) Γ M F:=λσ G H E d c q=>by
 refine p5 (aC8 pUS lK) ?_
 refine h σ G H _ d c ⟨λσ' G' H' Γ' M' b a e => ?_,q.rt,q.bk,q.ct⟩
 exact e σ' G' H' E a b.rel (q.up b)
theorem aE(h:G1 X st Γ M F):GS X [st] Γ M F:=λσ G H E en rl q=>p5 (aFD pUS) (h σ G H E en rl q)
theorem jR(i:Nat){a:Addr}(hΓ:Γ[i]?=some (.mt a).3)(hM:M a=some '8')(h:GS X ss (Γ.set i (.lst ds).3) (dZ M a) F):GS X ss Γ M F:=λσ G H E c e q=>by
 obtain⟨vs,x1,g,s1⟩:=e.frz hM
 obtain⟨v,ev,d⟩:=c.get i _ hΓ
 have dl:Den X.K (upd G a (.lst vs)) '8' v:=by rw[d.mt_];exact eW aR (g.up s1.gg)
 have b:=(c.up s1.gg).set dl i
 have f:σ.set i v.3=σ:=by
  apply ze
  intro j
  rw[gS]
  by_cases z:i=j
  ·subst z
   rw[if_pos rfl,if_pos (ev.5).1,ev]
  ·rw[if_neg z]
 rw[f] at b
 exact h σ _ H E b s1.rel (q.up s1)
theorem aI(i:Nat)(hN:X.N.Nodup)(h:GE X e Γ M λd M1=>F.nx (Γ.set i d.3) M1)(hi:X.N[i]?=some x:=by rfl)(hx:Loc X.env.scope x:=by first|exact sd rfl|exact JB rfl)(hs:fS e (.Name x pos').3 pos.line X.env=pure false:=by rfl)(hf:X.fn x=true\/X.env.scope.names.lookup x=some .local:=by first|exact .inl rfl|exact .inr rfl):G1 X (.Assign [.Name x pos'] e pos) Γ M F:=λσ G H E a f q=>by
 refine eN (aJ0 hN hi hx pU hs hf) ?_
 exact h σ G H _ a f λv G1 H1 d M1 s1 c b=>q.nx _ _ _ _ _ s1 ((a.up s1.gg).set c i) b
theorem kR(iy:Nat){y:Str}(ns:List Str)(cap:List Nat)(hNd:N.Nodup)(h:GI X (.Name x px) iter Γ M (Comp X x ns cap elt ifs scope Γ λd M1=>F.nx (Γ.set iy d.3) M1))(hsc:X.env.scope=sc:=by rfl)(hN:X.N=N:=by rfl)(ok:iL sc scope x ns cap N=true:=by first|decide +kernel|kernel_rfl!)(hiy:N[iy]?=some y:=by rfl)(hyl:sc.names.lookup y=some .local:=by rfl)(hc:X.calm=true:=by rfl)(hs:∀v,foldedSetIterable iter X.env v=pure v:=by intro _;rfl)(hsw:fS '&' (.Name y py).3 spos.line X.env=pure true:=by rfl):
  G1 X (.Assign [.Name y py] '&' spos) Γ M F:=λσ G H E b e q=>by
 refine eN (uS (tt:=λσ H Q=>∀cs C s₀ H₀ a,aCV a.22 ifs σ H Q) (te:=λσ H Q=>∀cs C s₀ H₀ a,tU a.22 elt σ H Q) iy ns cap hNd hiy hyl hc hsc hN ok pUI ';' ';' hs hsw) ?_
 exact aBC h b e λv G1 H1 d M1 s1 f c=>q.nx _ _ _ _ _ s1 ((b.up s1.gg).set f iy) c
theorem yS{cap:List Nat}{M1:Mem}(hl:ds.length<=sizeLine)(I:Nat->List D->Mem->Prop)(h0:I 0 [] M1)(hs:∀i d acc M2,ds[i]?=some d->I i acc M2->∀cs C s₀ H₀ fp,GIf fp.22 ifs (some d::cap.map λk=>(Γ[k]?).join) M2 λc M3 =>
   if c=true then '.' else I (i+1) acc M3)(hd:∀acc M2,I ds.length acc M2->∀a,M2 a=none->k (.mt a) (aL M2 a (.lst acc))):Comp X x ns cap elt ifs scope Γ k ds M1:=
 ⟨hl,I,h0,hs,hd⟩
theorem eA(h:GE X e Γ M λd M1=>GG X tg d Γ M1 F.nx)(hs:mf [tg] e pos.line X.env=pure false:=by rfl)(hw:mh [tg] e X.env=pure none:=by rfl)(h1:(wh [tg] X.env).map (·.2)=[assign tg X.env]:=by rfl):G1 X (.Assign [tg] e pos) Γ M F:=λσ G H E a b q=>by
 refine eN (aIS pU pUG hs hw h1) ?_
 exact h σ G H _ a b λv G1 H1 d M1 s1 c h1=>h1 σ G1 H1 v _ (a.up s1.gg) s1.rel c (q.nx.up s1)
theorem aH6(i j:Nat){y:Str}{pt:Pos}{kt k2 pt2}(hN:X.N.Nodup)(hij:i≠j)(h:GA X [a,b] Γ M λds M1=>∃d1 d2,ds=[d1,d2]/\F.nx ((Γ.set i d1.3).set j d2.3) M1)(hi:X.N[i]?=some x:=by rfl)(hj:X.N[j]?=some y:=by rfl)(hx:X.env.scope.names.lookup x=some .local:=by rfl)(hy:X.env.scope.names.lookup y=some .local:=by rfl)(hc:X.calm=true:=by rfl)(hw:mh [.Tuple [.Name x px, .Name y py] kt pt] (.Tuple [a,b] k2 pt2) X.env=pure (some [x,y]):=by rfl)(hs:mf [.Tuple [.Name x px, .Name y py] kt pt] (.Tuple [a,b] k2 pt2) pos.line X.env=pure false:=by rfl):
  G1 X (.Assign [.Tuple [.Name x px, .Name y py] kt pt] (.Tuple [a,b] k2 pt2) pos) Γ M F:=λσ G H E c g q=>by
 refine eN (aH4 hc hN hi hj hij hx hy pUA hw hs) ?_
 refine h σ G H _ c g λvs G1 H1 ds M1 s1 k ⟨d1,d2,l,e⟩ => ?_
 subst l
 obtain⟨v,u,rfl,d,f⟩:=dens2 k
 exact⟨v,u,rfl,q.nx _ _ _ _ _ s1 (((c.up s1.gg).set d i).set f j) e⟩
variable {d:D}
theorem bV(i:Nat)(hN:X.N.Nodup)(h:kg (Γ.set i d.3) M)(hi:X.N[i]?=some x:=by rfl)(hx:Loc X.env.scope x:=by first|exact sd rfl|exact JB rfl)(hf:X.fn x=true\/X.env.scope.names.lookup x=some .local:=by first|exact .inl rfl|exact .inr rfl):GG X (.Name x pos) d Γ M kg:=λσ G H v Q a b e q =>
 k5 (vK hN hi hx hf) (q _ _ _ _ _ b.10 (a.set e i) h)
theorem aGH(h:kg Γ M):GGs X [] [] Γ M kg:=λσ G H vs Q en rl e q=>wH aFV ⟨b5 e,q _ _ _ _ _ rl.10 en h⟩
theorem aD3{tgs:List Expr}(h:GG X tg d Γ M λΓ1 M1=>GGs X tgs ds Γ1 M1 kg)(hs:(wh (tg::tgs) X.env).map (·.2)=assign tg X.env::(wh tgs X.env).map (·.2):=by rfl):GGs X (tg::tgs) (d::ds) Γ M kg:=λσ G H vs Q g c e q=>by
 refine wH (aC5 pUG pUGs hs) ?_
 obtain⟨v,r,ev,f,i⟩:=bF e
 refine⟨v,r,ev,h σ G H v _ g c f λσ1 G1 H1 Γ1 M1 s1 a b => ?_⟩
 exact b σ1 G1 H1 r Q a s1.rel (i.up s1.gg) (q.up s1)
theorem aJN{tgs:List Expr}(hl:ds.length=n)(h:GGs X tgs ds Γ M kg)(hc:X.calm=true:=by rfl)(hn:(wh tgs X.env).length=n:=by rfl)(hst:(wh tgs X.env).findIdx? (·.1)=none:=by rfl):
  GG X (.Tuple tgs kk pos) (.tup ds) Γ M kg:=λσ G H v Q d b e q=>by
 refine k5 (aIQ hc pUGs hn hst) ?_
 obtain⟨a,vs,ev,s,c⟩:=e.tup_
 exact⟨a,vs,ev,R.bW b.same s,by rw[<- c.len];exact hl,h σ G H vs Q d b c q⟩
theorem aA4{i:Expr}(h:GE X o Γ M λd1 M1=>GE X i Γ M1 λd2 M2=>∃a n j ds,d1 = .mt a/\d2 = .int n/\M2 a=some '8'/\ixN ds.length n=some j/\kg Γ (aL M2 a (.lst (ds.set j d))))(ha:∀v,assign (.Subscript o i pos) X.env v=(do
   let ov <- yz [v] (eval o X.env)
   let iv <- yz [v,ov] (eval i X.env)
   sf pos
   yz [v,ov,iv] (Jq ov iv v)
   Vg [v,ov,iv] []):=by intro _;rfl):GG X (.Subscript o i pos) d Γ M kg:=λσ G H v Q c k e q=>by
 refine k5 (tQ pU pU set_list ha) ?_
 refine h σ G H _ c k λv1 G1 H1 d1 M1 s1 m g => ?_
 refine g σ G1 H1 _ (c.up s1.gg) s1.rel λv2 G2 H2 d2 M2 s2 s ⟨a,n,j,ds,x1,t,hm,l,r⟩ => ?_
 subst x1 t
 obtain⟨_,vs,p,f⟩:=s2.rel.mem _ _ hm
 have b:=s1.trans s2
 exact⟨a,vs,n,j,(m.up s2.gg).mt_,s.int_,p,by rw[<- f.len];exact l,q _ _ _ _ _ (b.trans (s2.rel.wr hm (f.set (e.up b.gg) j))) (c.up b.gg) r⟩
theorem dC(h:GE X e Γ M λ_ M1=>F.nx Γ M1)(hs:fS e none pos.line X.env=pure false:=by rfl):G1 X (.Expr e pos) Γ M F:=λσ G H E a c q =>
 eN (aG3 pU hs) (h σ G H _ a c λv G1 H1 d M1 s1 f b=>q.nx _ _ _ _ _ s1 (a.up s1.gg) b)
theorem aV(h:GE X e Γ M F.rt):G1 X (.Return e.3 pos) Γ M F:=λσ G H E en rl q=>eN (aJT pU) (h σ G H _ en rl q.rt)
theorem bA{ss1 ss2:List Stmt}(h:GT X c Γ M λt M1=>if t=true then GS X ss1 Γ M1 F else GS X ss2 Γ M1 F):G1 X (.If c ss1 ss2 pos) Γ M F:=λσ G H E b d q=>by
 refine eN (aKQ pUT lK lK) ?_
 refine h σ G H _ b d λt G1 H1 M1 s1 a => ?_
 cases t with
 |true=>rw[if_pos rfl] at a ⊢;exact a σ G1 H1 E (b.up s1.gg) s1.rel (q.up s1)
 |false=>rw[if_neg zBf] at a ⊢;exact a σ G1 H1 E (b.up s1.gg) s1.rel (q.up s1)
theorem sR(P:Gm->Mem->Prop)(h:G1 X st Γ M {F with nx:=P})(h2:∀Γ' M',P Γ' M'->F.nx Γ' M'):G1 X st Γ M F:=λσ G H E d b q=>h σ G H E d b ⟨λσ' G' H' Γ' M' c a e=>q.nx σ' G' H' Γ' M' c a (h2 _ _ e),q.rt,q.bk,q.ct⟩
def Loop(X:Cx)(tg:Expr)(body:List Stmt)(Γ:Gm)(F:Fin)(ds:List D)(M:Mem):Prop:=∃I:Nat->Gm->Mem->Prop,I 0 Γ M /\
 (∀i d Γ' M',ds[i]?=some d->I i Γ' M'->GG X tg d Γ' M' λΓ2 M2=>GS X body Γ2 M2 {F with nx:=I (i+1),ct:=I (i+1),bk:=F.nx})/\∀Γ' M',I ds.length Γ' M'->F.nx Γ' M'
theorem cQ(h:GI X tg iter Γ M (Loop X tg body Γ F))(hp:sj X.w.6 X.A X.env X.xe:=by exact gy)(hc:X.calm=true:=by rfl)(hs:∀x,foldedSetIterable iter X.env x=pure x:=by intro _;rfl):G1 X (.For tg iter body [] pos) Γ M F:=λσ G H E r t q=>by
 refine eN (aBL hp hc pUI pUG lK hs) ?_
 refine h σ G H _ r t λJ G1 H1 ds M1 s1 o ⟨I,h0,b,j⟩ => ?_
 refine⟨λi m σ' H'=>m=ds.length-i/\i<=ds.length/\∃G' Γ' M',Stp X.K G1 H1 M1 G' H' M'/\EnvR X.K G' Γ' σ'/\I i Γ' M',⟨ds.length,by simp,kd _,G1,Γ,M1,Stp.refl s1.rel,r.up s1.gg,h0⟩,?_⟩
 rintro i m σ2 H2 ⟨rfl,u,G2,Γ2,M2,s2,g,p⟩
 by_cases f:i<ds.length
 ·refine .inr ⟨o.go i G2 H2 M2 s2.gg s2.rel f,λσ' H'=>∃G' Γ' M',Stp X.K G1 H1 M1 G' H' M'/\EnvR X.K G' Γ' σ'/\I (i+1) Γ' M',λσ' H' z=>⟨ds.length-(i+1),by omega,rfl,f,z⟩,λx H3 y => ?_⟩
  obtain⟨G3,d,s3,hd,ex⟩:=o.yld i G2 H2 M2 x H3 s2.gg s2.rel f y
  have k:=s2.trans s3
  refine b i d Γ2 M2 hd p σ2 G3 H3 x _ (g.up s3.gg) s3.rel ex λσ4 G4 H4 Γ4 M4 s4 n s => ?_
  have a:=k.trans s4
  refine s σ4 G4 H4 _ n s4.rel ⟨λσ5 G5 H5 Γ5 M5 s5 c l=>⟨G5,Γ5,M5,a.trans s5,c,l⟩,q.rt.up (s1.trans a),q.nx.up (s1.trans a),λσ5 G5 H5 Γ5 M5 s5 c l=>⟨G5,Γ5,M5,a.trans s5,c,l⟩⟩
 ·have e:i=ds.length:=by omega
  subst e
  exact .inl ⟨o.stop _ G2 H2 M2 s2.gg s2.rel rfl,q.nx _ _ _ _ _ (s1.trans s2) g (j _ _ p)⟩
theorem n5(I:Nat->Gm->Mem->Prop)(h0:I n Γ M)(hs:∀m Γ' M',I m Γ' M'->GT X c Γ' M' λt M1=>if t=true then GS X body Γ' M1 {F with nx:=λΓ2 M2=>∃m',m'<m/\I m' Γ2 M2,ct:=λΓ2 M2=>∃m',m'<m/\I m' Γ2 M2,bk:=F.nx} else F.nx Γ' M1)(hp:sj X.w.6 X.A X.env X.xe:=by exact gy):G1 X (.While c body [] pos) Γ M F:=λσ G H E i h q=>by
 refine eN (aCU hp pUT lK) ?_
 refine⟨λm σ' H'=>∃G' Γ' M',Stp X.K G H M G' H' M'/\EnvR X.K G' Γ' σ'/\I m Γ' M',⟨n,G,Γ,M,Stp.refl h,i,h0⟩,?_⟩
 rintro m σ2 H2 ⟨G2,Γ2,M2,s2,d,g⟩
 refine hs m Γ2 M2 g σ2 G2 H2 _ d s2.rel λt G3 H3 M3 s3 e => ?_
 have a:=s2.trans s3
 cases t with
 |true =>
  rw[if_pos rfl] at e ⊢
  refine⟨λσ' H'=>∃m',m'<m/\∃G' Γ' M',Stp X.K G H M G' H' M'/\EnvR X.K G' Γ' σ'/\I m' Γ' M',λσ' H' z=>z,?_⟩
  refine e σ2 G3 H3 _ (d.up s3.gg) s3.rel ⟨λσ5 G5 H5 Γ5 M5 s5 b ⟨m',hm,f⟩=>⟨m',hm,G5,Γ5,M5,a.trans s5,b,f⟩,q.rt.up a,q.nx.up a,λσ5 G5 H5 Γ5 M5 s5 b ⟨m',hm,f⟩=>⟨m',hm,G5,Γ5,M5,a.trans s5,b,f⟩⟩
 |false =>
  rw[if_neg zBf] at e ⊢
  exact q.nx _ _ _ _ _ a (d.up s3.gg) e
end
section
variable {K:Fg}
abbrev cxF(P:Program)(w:World)(K:Fg)(mg:Str->Option Value)(base:Heap)(N:List Str)(x:Str)(st:Stmt)(f:Addr)(cdv:Value)(A:Around)(outer:List Env)(s:Shared)(H:Hp)(E:XK):Cx:=
 (nB CX0 P w K mg base N x (aK st) f cdv A outer s H E).nox
theorem bP{ps:List Str}{F:Ct}(Df:R.Df K mg x st ps f fd)(S:FnScope N ps (aK st))(len:∀ds M k,F ds M k->ds.length=ps.length)(h:∀cdv A outer s H E,Room n (cxF P w K mg base N x st f cdv A outer s H E).A->∀ds M k,F ds M k ->
   GS (cxF P w K mg base N x st f cdv A outer s H E) (cU st) (ds.map some++ku (N.length-ds.length) none) M {nx:=λ_ M'=>k .non M',rt:=k}):FnOk P w K mg base CX0 (n+1) f fd ps (spZ K F):=by
 refine Df.F.ok S (λvs H Q E h => ?_) (λcdv A outer s H vs Q E g c => ?_)
 ·obtain⟨G,M,ds,k,e,b,d,_⟩:=h
  rw[<- b.len];exact len _ _ _ d
 ·obtain⟨G,M,ds,k,e,b,d,q⟩:=c
  refine⟨_,lK,?_⟩
  refine h cdv A outer s H E g ds M k d (start N vs) G H _ (EnvR.start b N.length) e ⟨λσ' G' H' Γ' M' i j a=>q _ _ _ _ _ i mF a,q,λ_ _ _ _ _ _ _ a=>a.elim,λ_ _ _ _ _ _ _ a=>a.elim⟩
end
end Z
namespace Z
open PySem L2
abbrev EvT(α:Type):=Option (α×List Nat×List Prop)
noncomputable def bnd{α β:Type}(o:EvT α)(f:α->List Nat->List Prop->EvT β):EvT β:=match o with
 |some (d,r,c)=>f d r c
 |none=>none
theorem dW{α β:Type}{o:EvT α}{f:α->List Nat->List Prop->EvT β}{z:β×List Nat×List Prop}(h:bnd o f=some z):∃d r c,o=some (d,r,c)/\f d r c=some z:=by
 cases o with
 |none=>cases h
 |some x=>exact⟨x.1,x.2.1,x.2.2,rfl,h⟩
noncomputable def ob{α β:Type}(o:Option α)(f:α->Option β):Option β:=match o with
 |some x=>f x
 |none=>none
theorem cT{α β:Type}{o:Option α}{f:α->Option β}{z:β}(h:ob o f=some z):∃x,o=some x/\f x=some z:=by
 cases o with
 |none=>cases h
 |some x=>exact⟨x,rfl,h⟩
noncomputable def asI:D->Option Int
 |.int i=>some i
 |_=>none
noncomputable def asL:D->Option D.9
 |.tup i=>some i
 |.lst i=>some i
 |.fl i=>some i
 |_=>none
theorem iN{d:D}{i:Int}(h:asI d=some i):d = .int i:=by cases d <;> cases h <;> rfl
theorem aJM{d:D}{i:List D}(h:asL d=some i)(M:Mem):∃t,Seq M d t i:=by
 cases d <;> cases h
 ·exact⟨_, .tup _⟩
 ·exact⟨_, .lst _⟩
 ·exact⟨_, .fl _⟩
noncomputable abbrev on2{α β:Type}(p:D->Option α)(d1 d2:D)(f:α->α->Option β):Option β:=ob (p d1) λi=>ob (p d2) λj=>f i j
noncomputable def opD(op:rk)(d1 d2:D)(r:List Nat)(c:List Prop):EvT D:=match op with
 |.Add=>on2 asI d1 d2 λi j=>some (.int (i+j),r,c)
 |.Sub=>on2 asI d1 d2 λi j=>some (.int (i-j),r,c)
 |.Mult=>on2 asI d1 d2 λi j=>some (.int (i*j),r,(CMul i j\/aEZ i j)::c)
 |.Mod=>on2 asI d1 d2 λi j=>some (.int (i%j),r,(0<j)::c)
 |.FloorDiv=>on2 asI d1 d2 λi j=>some (.int (i/j),r,CDiv i j::c)
 |.Pow=>on2 asI d1 d2 λi j=>some (.int (i^j.toNat),r,CPow i j::c)
 |_=>none
noncomputable def ixD(d1 d2:D):Option D:=ob (asI d2) λi=>ob (asL d1) λds=>atI ds i
abbrev EvF:=Expr->List Nat->List Prop->EvT D
noncomputable def evs(f:EvF):List Expr->List Nat->List Prop->EvT D.9
 |[],r,c=>some ([],r,c)
 |e::es,r,c=>bnd (f e r c) λd r c=>bnd (evs f es r c) λds r c=>some (d::ds,r,c)
noncomputable def evN(Γ:Gm)(r:List Nat)(c:List Prop):EvT D:=match r with
 |[]=>none
 |i::r=>ob (Γ[i]?) λo=>ob o λd=>some (d,r,c)
noncomputable def evC(x:Const)(r:List Nat)(c:List Prop):EvT D:=match x with
 |.int i=>some (.int i,r,c)
 |.bool i=>some (.bl i,r,c)
 |.str i=>some (.str i,r,c)
 |.none=>some (.non,r,c)
 |_=>none
noncomputable def ev(Γ:Gm):Nat->EvF
 |0,_,_,_=>none
 |n+1,e,r,c=>match e with
  |.Name _ _=>evN Γ r c
  |.Constant x _ _=>evC x r c
  |.BinOp a op b _=>bnd (ev Γ n a r c) λd1 r c=>bnd (ev Γ n b r c) λd2 r c=>opD op d1 d2 r c
  |.Subscript a b _=>bnd (ev Γ n a r c) λd1 r c=>bnd (ev Γ n b r c) λd2 r c=>ob (ixD d1 d2) λd=>some (d,r,c)
  |.Tuple es _ _=>bnd (evs (ev Γ n) es r c) λds r c=>some (.tup ds,r,c)
  |.List es _=>bnd (evs (ev Γ n) es r c) λds r c=>some (.lst ds,r,c)
  |_=>none
noncomputable def aDA(sc:Scope)(x:Str):Bool:=sc.names.lookup x==some .local||(sc.names.lookup x==some .cell||sc.names.lookup x==some .free)
noncomputable def aDY(N:List Str)(sc:Scope)(x:Str)(i:Nat):Bool:=(N[i]?==some x)&&aDA sc x && ! '5' && !(x==("__classdict__" : Str))
abbrev ChF:=Expr->List Nat->Option Nat.9
noncomputable def chks(f:ChF):List Expr->List Nat->Option Nat.9
 |[],r=>some r
 |e::es,r=>ob (f e r) λr=>chks f es r
noncomputable def aDU(N:List Str)(sc:Scope)(x:Str)(r:List Nat):Option Nat.9:=match r with
 |[]=>none
 |i::r=>if aDY N sc x i then some r else none
noncomputable def chk(N:List Str)(sc:Scope):Nat->ChF
 |0,_,_=>none
 |n+1,e,r=>match e with
  |.Name x _=>aDU N sc x r
  |.Constant _ _ _=>some r
  |.BinOp a _ b _=>ob (chk N sc n a r) λr=>chk N sc n b r
  |.Subscript a b _=>ob (chk N sc n a r) λr=>chk N sc n b r
  |.Tuple es _ _=>if es.length<=1000 then chks (chk N sc n) es r else none
  |.List es _=>if es.length<=1000 then chks (chk N sc n) es r else none
  |_=>none
@[reducible] def allP:List Prop->Prop
 |[]=>True
 |p::ps=>p/\allP ps
def EvX(c c':List Prop):Prop:=∃l,c'=l++c
theorem EvX.refl(c:List Prop):EvX c c:=⟨[],rfl⟩
theorem EvX.cons(p:Prop)(c:List Prop):EvX c (p::c):=⟨[p],rfl⟩
theorem EvX.trans{a b c:List Prop}(h:EvX a b)(g:EvX b c):EvX a c:=by
 obtain⟨l,rfl⟩:=h
 obtain⟨m,rfl⟩:=g
 exact⟨m++l,(qx ..).symm⟩
theorem sV:∀{l c:List Prop},allP (l++c)->allP c
 |[],_,h=>h
 |_::l,_,h=>sV (l:=l) h.2
theorem EvX.all{c:List Prop}(h:EvX c c')(g:allP c'):allP c:=by
 obtain⟨l,rfl⟩:=h
 exact sV g
theorem aG8(h:aDA sc x=true):Vis sc x:=by
 unfold aDA at h
 rw[y9,y9] at h
 exact h.imp eq_of_beq λh=>h.imp eq_of_beq eq_of_beq
theorem aKL{α:Type}{b:Bool}{x z:α}(h:(if b=true then some x else none)=some z):b=true/\x=z:=by
 cases b
 ·cases h
 ·exact⟨rfl,jc h⟩
theorem nope{α:Type}{z:α}{p:Prop}(h:(none:Option α)=some z):p:=nomatch h
section
theorem tS{op:rk}{r:R2}{g:Int->Int->D}{C:Int->Int->Prop}{d:D}{r0:List Nat}{c:List Prop}(ho:OpR X (wo op) r)(hr:∀{i j:Int}{M:Mem}{k:D->Mem->Prop},C i j->k (g i j) M->Op2 X.K r (.int i) (.int j) M k)(h:(on2 asI d1 d2 λi j=>some (g i j,r0,C i j::c))=some (d,r',c')):r'=r0/\EvX c c'/\(allP c'->∀{M:Mem}{k:D->Mem->Prop},k d M->∃r,OpR X (wo op) r/\Op2 X.K r d1 d2 M k):=by
 obtain⟨i,b,h⟩:=cT h
 obtain⟨j,a,h⟩:=cT h
 cases iN b;cases iN a;cases h
 exact⟨rfl, .cons _ _,λq _ _ h=>⟨_,ho,hr q.1 h⟩⟩
theorem wA{op:rk}{r:R2}{g:Int->Int->D}{d:D}{r0:List Nat}{c:List Prop}(ho:OpR X (wo op) r)(hr:∀{i j:Int}{M:Mem}{k:D->Mem->Prop},k (g i j) M->Op2 X.K r (.int i) (.int j) M k)(h:(on2 asI d1 d2 λi j=>some (g i j,r0,c))=some (d,r',c')):r'=r0/\EvX c c'/\(allP c'->∀{M:Mem}{k:D->Mem->Prop},k d M->∃r,OpR X (wo op) r/\Op2 X.K r d1 d2 M k):=by
 obtain⟨i,b,h⟩:=cT h
 obtain⟨j,a,h⟩:=cT h
 cases iN b;cases iN a;cases h
 exact⟨rfl, .refl _,λq _ _ h=>⟨_,ho,hr h⟩⟩
theorem aKE{op:rk}{d:D}{r:List Nat}{c:List Prop}(h:opD op d1 d2 r c=some (d,r',c')):r'=r/\EvX c c'/\(allP c'->∀{M:Mem}{k:D->Mem->Prop},k d M->∃r,OpR X (wo op) r/\Op2 X.K r d1 d2 M k):=by
 cases op <;> first|exact nope h|skip
 ·exact wA eK dX h
 ·exact wA iR dX h
 ·obtain⟨i,b,h⟩:=cT h
  obtain⟨j,a,h⟩:=cT h
  cases iN b;cases iN a;cases h
  exact⟨rfl, .cons _ _,λq _ _ h=>q.1.elim (λq=>⟨_,aJL,kC q h⟩) (λq=>⟨_,aFP,kC q h⟩)⟩
 ·exact tS tE kC h
 ·exact tS aIT kC h
 ·exact tS wN kC h
theorem aJI{d:D}(h:ixD d1 d2=some d)(hk:k d M):Op2 X.K (rIx X.K) d1 d2 M k:=by
 obtain⟨i,b,a⟩:=cT h
 obtain⟨ds,e,c⟩:=cT a
 obtain⟨t,q⟩:=aJM e M
 rw[iN b]
 exact aW q c hk
structure EvPln(X:Cx)(e:Expr):Prop where
 st:∀es,starEach (e::es) X.env=(false,eval e X.env)::starEach es X.env
 ix:pJ e
def aKB(X:Cx)(Γ:Gm)(e:Expr)(d:D)(c c':List Prop):Prop:=EvPln X e/\EvX c c'/\(allP c'->∀{M:Mem}{k:D->Mem->Prop},k d M->GE X e Γ M k)
def EvOk(X:Cx)(Γ:Gm)(f:EvF)(g:ChF):Prop:=∀{e r c d r1 c1 r2},f e r c=some (d,r1,c1)->g e r=some r2->r1=r2/\aKB X Γ e d c c1
theorem k7{f:EvF}{g:ChF}(hf:EvOk X Γ f g):
  ∀{es:List Expr}{r:List Nat}{c:List Prop}{ds:List D}{r1:List Nat}{c1:List Prop}{r2:List Nat},evs f es r c=some (ds,r1,c1)->chks g es r=some r2->r1=r2/\ds.length=es.length/\EvX c c1/\(allP c1->∀{M:Mem}{ka:List D->Mem->Prop},ka ds M->GA X es Γ M ka)
 |[],r,c,ds,r1,c1,r2,h,g=>by
  cases (show some ([],r,c)=some (ds,r1,c1) from h)
  cases (show some r=some r2 from g)
  exact⟨rfl,rfl, .refl _,λ_ _ _ h=>aJ h⟩
 |e::es,r,c,ds,r1,c1,r2,h,q=>by
  obtain⟨d,r3,s,n,h⟩:=dW (show bnd _ _=_ from h)
  obtain⟨v,o,q⟩:=cT (show ob _ _=_ from q)
  obtain⟨rfl,p,x,j⟩:=hf n o
  obtain⟨k,u,t,m,h⟩:=dW h
  cases h
  obtain⟨rfl,l,i,b⟩:=k7 hf m q
  exact⟨rfl,by rw[qy,qy,l],x.trans i,λa _ _ h=>aC (j (i.all a) (b a h)) (p.st es)⟩
theorem aGU{r r2:List Nat}(h:aDU N sc x r=some r2):∃i,r=i::r2/\N[i]?=some x/\Vis sc x/\ '5'=false/\(x==("__classdict__" : Str))=false:=by
 cases r with
 |nil=>cases h
 |cons i r =>
  obtain⟨q,a⟩:=aKL (b:=aDY N sc x i) h
  clear h
  subst a
  simp only[aDY,jm,g5,beq_iff_eq] at q
  exact⟨i,rfl,q.1.1.1,aG8 q.1.1.2,q.1.2,q.2⟩
theorem f8:∀(n:Nat),EvOk X Γ (ev Γ n) (chk X.N X.env.scope n)
 |0,e,r,c,d,r1,c1,r2,h,g=>nope h
 |n+1,e,r,c,d,r1,c1,r2,h,g=>by
  cases e <;> first|exact nope h|skip
  ·rename_i a op b p
   obtain⟨C,r3,z,f,h⟩:=dW (show bnd _ _=_ from h)
   obtain⟨J,y,g⟩:=cT (show ob _ _=_ from g)
   obtain⟨rfl,D,x1,m⟩:=f8 n f y
   obtain⟨H,G,I,s,h⟩:=dW h
   obtain⟨rfl,A,q,w⟩:=f8 n s g
   obtain⟨rfl,t,K⟩:=aKE (X:=X) h
   refine⟨rfl,'C',(x1.trans q).trans t,λa M k h => ?_⟩
   obtain⟨r,v,u⟩:=K a h
   exact bB v (m ((q.trans t).all a) (w (t.all a) u))
  ·rename_i x j p
   cases (show some r=some r2 from g)
   cases x <;> first|exact nope h|skip
   ·cases h;exact⟨rfl,'C', .refl _,λ_ _ _ h=>jY h⟩
   ·cases h;exact⟨rfl,'C', .refl _,λ_ _ _ h=>eO h⟩
   ·cases h;exact⟨rfl,'C', .refl _,λ_ _ _ h=>z6 h⟩
   ·cases h;exact⟨rfl,'C', .refl _,λ_ _ _ h=>ge_str h⟩
  ·rename_i a b p
   obtain⟨C,r3,z,f,h⟩:=dW (show bnd _ _=_ from h)
   obtain⟨J,y,g⟩:=cT (show ob _ _=_ from g)
   obtain⟨rfl,D,x1,m⟩:=f8 n f y
   obtain⟨H,G,I,s,h⟩:=dW h
   obtain⟨rfl,A,q,w⟩:=f8 n s g
   obtain⟨L,E,h⟩:=cT h
   cases h
   exact⟨rfl,'C',x1.trans q,λa M k h=>aS aM (m (q.all a) (w a (aJI E h))) A.ix⟩
  ·rename_i x p
   obtain⟨i,rfl,v,u,F,B⟩:=aGU (show aDU X.N X.env.scope x r=_ from g)
   obtain⟨o,f,h⟩:=cT (show ob _ _=_ from h)
   obtain⟨O,rfl,h⟩:=cT h
   cases h
   exact⟨rfl,'C', .refl _,λ_ _ _ h=>aB i f h v u F B⟩
  ·rename_i es p
   obtain⟨ds,r3,z,f,h⟩:=dW (show bnd _ _=_ from h)
   by_cases hl:es.length<=1000
   ·cases h
    obtain⟨rfl,l,x1,m⟩:=k7 (f8 n) f ((if_pos hl).symm.trans g)
    exact⟨rfl,'C',x1,λa M k h=>o9 (m a ⟨by rw[l];exact R.bQ (jw hl '$'),h⟩)⟩
   ·exact nope ((if_neg hl).symm.trans g)
  ·rename_i es j p
   obtain⟨ds,r3,z,f,h⟩:=dW (show bnd _ _=_ from h)
   by_cases hl:es.length<=1000
   ·cases h
    obtain⟨rfl,l,x1,m⟩:=k7 (f8 n) f ((if_pos hl).symm.trans g)
    exact⟨rfl,'C',x1,λa M k h=>fE (m a ⟨by rw[l];exact R.bQ (jw hl '$'),h⟩)⟩
   ·exact nope ((if_neg hl).symm.trans g)
end
section
variable {ka:List D->Mem->Prop}{d:D}{c:List Prop}
theorem aN(r:List Nat)(h:ev Γ 40 e r []=some (d,[],[]))(hk:k d M)(g:chk X.N X.env.scope 40 e r=some []:=by kernel_rfl!):GE X e Γ M k:=(f8 40 h g).2.2.2 trivial hk
theorem b6(r:List Nat)(h:ev Γ 40 e r []=some (d,[],c))(hc:allP c)(hk:k d M)(g:chk X.N X.env.scope 40 e r=some []:=by kernel_rfl!):GE X e Γ M k:=(f8 40 h g).2.2.2 hc hk
theorem aO(r:List Nat)(h:evs (ev Γ 40) es r []=some (ds,[],[]))(hk:ka ds M)(g:chks (chk X.N X.env.scope 40) es r=some []:=by kernel_rfl!):GA X es Γ M ka:=(k7 (f8 40) h g).2.2.2 trivial hk
theorem aEN(r:List Nat)(h:evs (ev Γ 40) es r []=some (ds,[],c))(hc:allP c)(hk:ka ds M)(g:chks (chk X.N X.env.scope 40) es r=some []:=by kernel_rfl!):GA X es Γ M ka:=(k7 (f8 40) h g).2.2.2 hc hk
end
noncomputable def evU:Gm->List Expr->List D->List Nat->Option Gm
 |Γ,[],ds,r=>match ds with
  |[]=>match r with
   |[]=>some Γ
   |_=>none
  |_=>none
 |Γ,_::ts,ds,r=>match ds with
  |[]=>none
  |d::ds=>match r with
   |[]=>none
   |i::r=>evU (Γ.set i d.3) ts ds r
noncomputable def nJ(N:List Str)(sc:Scope)(fn:Str->Bool):List Expr->List Nat->Bool
 |[],_=>true
 |t::ts,r=>match t with
  |.Name x _=>match r with
   |[]=>false
   |i::r=>(N[i]?==some x)&&(sc.names.lookup x==some .local||(sc.names.lookup x==some .cell&&fn x))&&nJ N sc fn ts r
  |_=>false
section
theorem vF{t:Expr}{ts:List Expr}{r:List Nat}(h:nJ X.N X.env.scope X.fn (t::ts) r=true):∃x p i q,t = .Name x p/\r=i::q/\X.N[i]?=some x/\(X.env.scope.names.lookup x=some .local\/X.env.scope.names.lookup x=some .cell/\X.fn x=true)/\nJ X.N X.env.scope X.fn ts q=true:=by
 cases t <;> first|exact Ji (show false=true from h)|skip
 cases r with
 |nil=>exact Ji (show false=true from h)
 |cons i q =>
  have h:((X.N[i]?==some _)&&(X.env.scope.names.lookup _==some .local||(X.env.scope.names.lookup _==some .cell&&X.fn _))&&nJ X.N X.env.scope X.fn ts q)=true:=h
  rw[jm,jm,y9,jm] at h
  exact⟨_,_,i,q,rfl,rfl,eq_of_beq h.1.1,h.1.2.imp eq_of_beq λz=>⟨eq_of_beq z.1,z.2⟩,h.2⟩
theorem nH:∀{ts:List Expr}{r:List Nat},nJ X.N X.env.scope X.fn ts r=true->(wh ts X.env).length=ts.length/\(wh ts X.env).findIdx? (·.1)=none
 |[],_,_=>⟨rfl,rfl⟩
 |t::ts,r,h=>by
  obtain⟨x,p,i,q,rfl,rfl,_,_,h⟩:=vF h
  obtain⟨b,a⟩:=nH h
  refine⟨?_,?_⟩
  ·show (wh ts X.env).length+1=_
   rw[b];rfl
  ·show List.findIdx? (·.1) ((false,_)::wh ts X.env)=none
   rw[List.findIdx?_cons,a];rfl
theorem uC(hN:X.N.Nodup):∀{ts:List Expr}{ds:List D}{r:List Nat}{Γ Γ':Gm},evU Γ ts ds r=some Γ'->nJ X.N X.env.scope X.fn ts r=true->kg Γ' M->ds.length=ts.length/\GGs X ts ds Γ M kg
 |[],ds,r,Γ,Γ',h,g,hk=>by
  cases ds with
  |cons=>exact nope h
  |nil =>
   cases r with
   |cons=>exact nope h
   |nil=>cases h;exact⟨rfl,aGH hk⟩
 |t::ts,ds,r,Γ,Γ',h,g,hk=>by
  obtain⟨x,p,i,q,rfl,rfl,g1,g2,g3⟩:=vF g
  cases ds with
  |nil=>exact nope h
  |cons d ds =>
   obtain⟨b,a⟩:=uC hN (show evU _ ts ds q=_ from h) g3 hk
   exact⟨by rw[qy,qy,b],aD3 (bV i hN a g1 (g2.imp id λz=>z.1) (g2.symm.imp (λz=>z.2) id))⟩
theorem pF(r:List Nat){ts:List Expr}{pos:Pos}{Γ':Gm}(hN:X.N.Nodup)(h:evU Γ ts ds r=some Γ')(hk:kg Γ' M)(g:nJ X.N X.env.scope X.fn ts r=true:=by kernel_rfl!)(hc:X.calm=true:=by rfl):GG X (.Tuple ts kk pos) (.tup ds) Γ M kg:=
 aJN (uC hN h g hk).1 (uC hN h g hk).2 hc (nH g).1 (nH g).2
end
end Z
namespace Z
open PySem L2
mutual
noncomputable def eqD:D->D->Bool
 |.non, .non=>true
 |.bl a, .bl b=>a==b
 |.int a, .int b=>a==b
 |.bl a, .int b=>(if a then 1 else 0)==b
 |.int a, .bl b=>a==(if b then 1 else 0)
 |.str a, .str b=>a==b
 |.tup xs, .tup ys=>eqDs xs ys
 |.lst xs, .lst ys=>eqDs xs ys
 |_,_=>false
noncomputable def eqDs:List D->List D->Bool
 |[],[]=>true
 |x::xs,y::ys=>eqD x y&&eqDs xs ys
 |_,_=>false
end
mutual
noncomputable def okD:Nat->D->Bool
 |_, .non|_, .bl _|_, .int _|_, .str _=>true
 |n+1, .tup ds=>okDs n ds
 |n+1, .lst ds=>okDs n ds
 |_,_=>false
noncomputable def okDs:Nat->List D->Bool
 |_,[]=>true
 |n,d::ds=>okD n d&&okDs n ds
end
mutual
theorem eqD_refl:∀(n:Nat) (d:D),okD n d=true->eqD d d=true
 |_, .non,_=>by simp only[eqD]
 |_, .bl _,_=>by simp only[eqD,beq_self_eq_true]
 |_, .int _,_=>by simp only[eqD,beq_self_eq_true]
 |_, .str _,_=>by simp only[eqD,beq_self_eq_true]
 |n+1, .tup ds,h=>by simp only[okD] at h;simp only[eqD];exact eqDs_refl n ds h
 |n+1, .lst ds,h=>by simp only[okD] at h;simp only[eqD];exact eqDs_refl n ds h
 |0, .tup _,h=>by simp[okD] at h
 |0, .lst _,h=>by simp[okD] at h
 |_, .mt _,h=>by simp[okD] at h
 |_, .fl _,h=>by simp[okD] at h
theorem eqDs_refl:∀(n:Nat) (ds:List D),okDs n ds=true->eqDs ds ds=true
 |_,[],_=>by simp only[eqDs]
 |n,d::ds,h=>by
  simp only[okDs,jm] at h
  simp only[eqDs,eqD_refl n d h.1,eqDs_refl n ds h.2,xt]
end
noncomputable def eqJ(xs ys:List D)(j:Nat):Bool:=match xs[j]?,ys[j]? with
 |some x,some y=>eqD x y
 |_,_=>true
theorem dP:∀(xs ys:List D),((qz (min xs.length ys.length)).all (eqJ xs ys)&&xs.length==ys.length)=eqDs xs ys
 |[],[]=>by simp[eqDs]
 |[],_::_=>by simp[eqDs]
 |_::_,[]=>by simp[eqDs]
 |x::xs,y::ys=>by
  have a:=dP xs ys
  simp only[eqDs,<- a,qy]
  rw[show min (xs.length+1) (ys.length+1)=min xs.length ys.length+1 by lia,List.range_succ_eq_map,List.all_cons,JY]
  have b:eqJ (x::xs) (y::ys) 0=eqD x y:=rfl
  have c:(eqJ (x::xs) (y::ys)) ∘ Nat.succ=eqJ xs ys:=by funext j;rfl
  grind
section
mutual
theorem den_inj(I:Inv X pins σ H s):∀(n:Nat) (d e:D) (v:V),okD n d=true->okD n e=true->Den X.K H d v->Den X.K H e v->d=e
 |n, .non,e,v,h1,h2,x,y=>by
  rw[x.non_] at y
  cases e with
  |non=>rfl
  |bl b=>have:=y.bl_;cases this
  |int b=>have:=y.int_;cases this
  |str b=>have:=y.str_;cases this
  |mt b=>have:=y.mt_;cases this
  |tup b=>obtain⟨_,_,q,_⟩:=y.tup_;cases q
  |lst b=>obtain⟨_,_,q,_⟩:=y.lst_;cases q
  |fl b=>obtain⟨_,_,q,_⟩:=y.fl_;cases q
  |st b=>obtain⟨_,_,_,q,_⟩:=y.st_;cases q
 |n, .bl b,e,v,h1,h2,x,y=>by
  rw[x.bl_] at y
  cases e with
  |non=>have:=y.non_;cases this
  |bl b=>have:=y.bl_;cases this;rfl
  |int b=>have:=y.int_;cases this
  |str b=>have:=y.str_;cases this
  |mt b=>have:=y.mt_;cases this
  |tup b=>obtain⟨_,_,q,_⟩:=y.tup_;cases q
  |lst b=>obtain⟨_,_,q,_⟩:=y.lst_;cases q
  |fl b=>obtain⟨_,_,q,_⟩:=y.fl_;cases q
  |st b=>obtain⟨_,_,_,q,_⟩:=y.st_;cases q
 |n, .int b,e,v,h1,h2,x,y=>by
  rw[x.int_] at y
  cases e with
  |non=>have:=y.non_;cases this
  |bl b=>have:=y.bl_;cases this
  |int b=>have:=y.int_;cases this;rfl
  |str b=>have:=y.str_;cases this
  |mt b=>have:=y.mt_;cases this
  |tup b=>obtain⟨_,_,q,_⟩:=y.tup_;cases q
  |lst b=>obtain⟨_,_,q,_⟩:=y.lst_;cases q
  |fl b=>obtain⟨_,_,q,_⟩:=y.fl_;cases q
  |st b=>obtain⟨_,_,_,q,_⟩:=y.st_;cases q
 |n, .str b,e,v,h1,h2,x,y=>by
  rw[x.str_] at y
  cases e with
  |non=>have:=y.non_;cases this
  |bl b=>have:=y.bl_;cases this
  |int b=>have:=y.int_;cases this
  |str b=>have:=y.str_;cases this;rfl
  |mt b=>have:=y.mt_;cases this
  |tup b=>obtain⟨_,_,q,_⟩:=y.tup_;cases q
  |lst b=>obtain⟨_,_,q,_⟩:=y.lst_;cases q
  |fl b=>obtain⟨_,_,q,_⟩:=y.fl_;cases q
  |st b=>obtain⟨_,_,_,q,_⟩:=y.st_;cases q
 |n, .mt _,_,_,h1,_,_,_=>by simp[okD] at h1
 |n, .fl _,_,_,h1,_,_,_=>by simp[okD] at h1
 |0, .tup _,_,_,h1,_,_,_=>by simp[okD] at h1
 |0, .lst _,_,_,h1,_,_,_=>by simp[okD] at h1
 |n+1, .tup ds,e,v,h1,h2,x,y=>by
  obtain⟨a,vs,rfl,sq,j⟩:=x.tup_
  cases e with
  |non=>have:=y.non_;cases this
  |bl b=>have:=y.bl_;cases this
  |int b=>have:=y.int_;cases this
  |str b=>have:=y.str_;cases this
  |mt b=>simp[okD] at h2
  |fl b=>simp[okD] at h2
  |st b=>simp[okD] at h2
  |tup es =>
   obtain⟨b,ws,q,sq2,c⟩:=y.tup_
   cases q
   rw[<- I.tuple_inj sq sq2] at c
   simp only[okD] at h1 h2
   rw[dens_inj I n ds es vs h1 h2 j c]
  |lst es =>
   obtain⟨b,ws,q,sq2,c⟩:=y.lst_
   cases q
   exfalso
   obtain⟨i,_,pt,_⟩:=I.tuple sq
   obtain⟨k,_,m,_⟩:=I.list (SqL.of sq2)
   obtain⟨o,l,h,_⟩:=pt
   obtain⟨p,r,g,f,_⟩:=m
   rw[l] at g;cases g
   rw[h] at f;exact absurd f '*'
 |n+1, .lst ds,e,v,h1,h2,x,y=>by
  obtain⟨a,vs,rfl,sq,j⟩:=x.lst_
  cases e with
  |non=>have:=y.non_;cases this
  |bl b=>have:=y.bl_;cases this
  |int b=>have:=y.int_;cases this
  |str b=>have:=y.str_;cases this
  |mt b=>simp[okD] at h2
  |fl b=>simp[okD] at h2
  |st b=>simp[okD] at h2
  |lst es =>
   obtain⟨b,ws,q,sq2,c⟩:=y.lst_
   cases q
   rw[sq] at sq2;cases sq2
   simp only[okD] at h1 h2
   rw[dens_inj I n ds es vs h1 h2 j c]
  |tup es =>
   obtain⟨b,ws,q,sq2,c⟩:=y.tup_
   cases q
   exfalso
   obtain⟨i,_,pt,_⟩:=I.tuple sq2
   obtain⟨k,_,m,_⟩:=I.list (SqL.of sq)
   obtain⟨o,l,h,_⟩:=pt
   obtain⟨p,r,g,f,_⟩:=m
   rw[l] at g;cases g
   rw[h] at f;exact absurd f '*'
theorem dens_inj(I:Inv X pins σ H s):∀(n:Nat) (ds es:List D) (vs:List V),okDs n ds=true->okDs n es=true->Dens X.K H ds vs->Dens X.K H es vs->ds=es
 |_,[],es,vs,_,_,x,y=>by
  rw[b5 x] at y
  cases es with
  |nil=>rfl
  |cons e es=>obtain⟨_,_,q,_⟩:=bF y;cases q
 |n,d::ds,es,vs,h1,h2,x,y=>by
  obtain⟨v,r,rfl,a,b⟩:=bF x
  cases es with
  |nil=>have:=b5 y;cases this
  |cons e es =>
   obtain⟨_,_,q,a2,c⟩:=bF y
   cases q
   simp only[okDs,jm] at h1 h2
   rw[den_inj I n d e v h1.1 h2.1 a a2,dens_inj I n ds es r h1.2 h2.2 b c]
end
end
end Z
namespace Z
open PySem L2
section
theorem cJ(I:Inv X pins σ H s)(h:Den X.K H (.tup ds) v)(r:RelV v u):∃a its vs,u = .ref a/\s.heap.IsTuple a (JX its)/\Vals vs its/\Dens X.K H ds vs:=by
 obtain⟨a,vs,rfl,sq,b⟩:=h.tup_
 obtain⟨its,c,pt,_⟩:=I.tuple sq
 exact⟨a,its,vs,r,pt,c,b⟩
theorem cG(I:Inv X pins σ H s)(h:Den X.K H '8' v)(r:RelV v u):∃a its vs,u = .ref a/\s.heap.IsList a (JX its)/\Vals vs its/\Dens X.K H ds vs:=by
 obtain⟨a,vs,rfl,sq,b⟩:=h.lst_
 obtain⟨its,c,pt,_⟩:=I.list (SqL.of sq)
 exact⟨a,its,vs,r,pt.isList,c,b⟩
theorem bH:∀{n:Nat}{ds:List D}{j:Nat}{d:D},okDs n ds=true->ds[j]?=some d->okD n d=true
 |_,[],_,_,_,e=>by simp at e
 |n,d0::ds,0,d,h,e=>by simp at e;subst e;simp only[okDs,jm] at h;exact h.1
 |n,d0::ds,j+1,d,h,e=>by simp only[okDs,jm] at h;exact bH (j:=j) h.2 (by simpa using e)
theorem c7{vs:List V}(dn:Dens X.K H ds vs)(rv:Vals vs its)(h:j<its.toArray.size):∃d v,ds[j]?=some d/\Den X.K H d v/\RelV v its.toArray[j]:=by
 obtain⟨v,b,r1⟩:=pL rv h
 obtain⟨d,a,q⟩:=dn.get' b
 exact⟨d,v,a,q,r1⟩
mutual
theorem eqAt_D(I:Inv X pins σ H s):∀(d:D) (n:Nat) (e:D) (v u:V) (v' u':Value) (A:Around),okD n d=true->okD n e=true->Den X.K H d v->Den X.K H e u->RelV v v'->RelV u u'->A.units+n<cLine->nz A s v' u' (eqD d e)
 |.non,n,e,v,u,v',u',A,h1,h2,x,y,rx,ry,hu=>by
  rw[x.non_] at rx;cases (show v'=jt from rx)
  cases e with
  |non=>rw[y.non_] at ry;cases (show u'=jt from ry);simp only[eqD];exact gp _
  |bl b=>rw[y.bl_] at ry;cases (show u'=kz b from ry);simp only[eqD];exact VP b
  |int b=>rw[y.int_] at ry;obtain⟨t,rfl⟩:=ry;simp only[eqD];exact VO b t
  |str b=>rw[y.str_] at ry;obtain⟨t,rfl⟩:=ry;simp only[eqD];exact VM b t
  |mt b=>simp[okD] at h2
  |fl b=>simp[okD] at h2
  |st b=>simp[okD] at h2
  |tup es=>obtain⟨a,f,vs,rfl,it,_⟩:=cJ I y ry;simp only[eqD];exact VL it '#'
  |lst es=>obtain⟨a,f,vs,rfl,it,_⟩:=cG I y ry;simp only[eqD];exact VN it '#'
 |.bl c,n,e,v,u,v',u',A,h1,h2,x,y,rx,ry,hu=>by
  rw[x.bl_] at rx;cases (show v'=kz c from rx)
  cases e with
  |non=>rw[y.non_] at ry;cases (show u'=jt from ry);simp only[eqD];exact V1 c
  |bl b=>rw[y.bl_] at ry;cases (show u'=kz b from ry);simp only[eqD];exact V4 c b
  |int b=>rw[y.int_] at ry;obtain⟨t,rfl⟩:=ry;simp only[eqD];exact V3 c b t
  |str b=>rw[y.str_] at ry;obtain⟨t,rfl⟩:=ry;simp only[eqD];exact V0 c b t
  |mt b=>simp[okD] at h2
  |fl b=>simp[okD] at h2
  |st b=>simp[okD] at h2
  |tup es=>obtain⟨a,f,vs,rfl,it,_⟩:=cJ I y ry;simp only[eqD];exact VZ c it '#'
  |lst es=>obtain⟨a,f,vs,rfl,it,_⟩:=cG I y ry;simp only[eqD];exact V2 c it '#'
 |.int c,n,e,v,u,v',u',A,h1,h2,x,y,rx,ry,hu=>by
  rw[x.int_] at rx;obtain⟨t0,rfl⟩:=rx
  cases e with
  |non=>rw[y.non_] at ry;cases (show u'=jt from ry);simp only[eqD];exact VW c t0
  |bl b=>rw[y.bl_] at ry;cases (show u'=kz b from ry);simp only[eqD];exact VY c t0 b
  |int b=>rw[y.int_] at ry;obtain⟨t,rfl⟩:=ry;simp only[eqD];exact ra c t0 b t
  |str b=>rw[y.str_] at ry;obtain⟨t,rfl⟩:=ry;simp only[eqD];exact p3 c t0 b t
  |mt b=>simp[okD] at h2
  |fl b=>simp[okD] at h2
  |st b=>simp[okD] at h2
  |tup es=>obtain⟨a,f,vs,rfl,it,_⟩:=cJ I y ry;simp only[eqD];exact VV c t0 it '#'
  |lst es=>obtain⟨a,f,vs,rfl,it,_⟩:=cG I y ry;simp only[eqD];exact VX c t0 it '#'
 |.str c,n,e,v,u,v',u',A,h1,h2,x,y,rx,ry,hu=>by
  rw[x.str_] at rx;obtain⟨t0,rfl⟩:=rx
  cases e with
  |non=>rw[y.non_] at ry;cases (show u'=jt from ry);simp only[eqD];exact VH c t0
  |bl b=>rw[y.bl_] at ry;cases (show u'=kz b from ry);simp only[eqD];exact VJ c t0 b
  |int b=>rw[y.int_] at ry;obtain⟨t,rfl⟩:=ry;simp only[eqD];exact pw c t0 b t
  |str b=>rw[y.str_] at ry;obtain⟨t,rfl⟩:=ry;simp only[eqD];exact VG c t0 b t
  |mt b=>simp[okD] at h2
  |fl b=>simp[okD] at h2
  |st b=>simp[okD] at h2
  |tup es=>obtain⟨a,f,vs,rfl,it,_⟩:=cJ I y ry;simp only[eqD];exact VF c t0 it '#'
  |lst es=>obtain⟨a,f,vs,rfl,it,_⟩:=cG I y ry;simp only[eqD];exact VI c t0 it '#'
 |.mt _,n,_,_,_,_,_,_,h1,_,_,_,_,_,_=>by simp[okD] at h1
 |.fl _,n,_,_,_,_,_,_,h1,_,_,_,_,_,_=>by simp[okD] at h1
 |.st _,n,_,_,_,_,_,_,h1,_,_,_,_,_,_=>by simp[okD] at h1
 |.tup ds,0,_,_,_,_,_,_,h1,_,_,_,_,_,_=>by simp[okD] at h1
 |.lst ds,0,_,_,_,_,_,_,h1,_,_,_,_,_,_=>by simp[okD] at h1
 |.tup ds,n+1,e,v,u,v',u',A,h1,h2,x,y,rx,ry,hu=>by
  obtain⟨a,f,vs,rfl,it,r,o⟩:=cJ I x rx
  cases e with
  |non=>rw[y.non_] at ry;cases (show u'=jt from ry);simp only[eqD];exact VB it '#'
  |bl b=>rw[y.bl_] at ry;cases (show u'=kz b from ry);simp only[eqD];exact VE b it '#'
  |int b=>rw[y.int_] at ry;obtain⟨t,rfl⟩:=ry;simp only[eqD];exact VD b t it '#'
  |str b=>rw[y.str_] at ry;obtain⟨t,rfl⟩:=ry;simp only[eqD];exact VA b t it '#'
  |mt b=>simp[okD] at h2
  |fl b=>simp[okD] at h2
  |st b=>simp[okD] at h2
  |lst es=>obtain⟨b,g,w,rfl,h,_⟩:=cG I y ry;simp only[eqD];exact VC it h '#'
  |tup es =>
   obtain⟨b,g,w,rfl,h,k,i⟩:=cJ I y ry
   have L:okDs n ds=true:=by simpa only[okD] using h1
   have F:okDs n es=true:=by simpa only[okD] using h2
   by_cases m:a=b
   ·subst m
    have E:D.tup ds=D.tup es:=den_inj I (n+1) _ _ v h1 h2 x (by
     have:v=u:=by
      obtain⟨_,_,l,_⟩:=x.tup_
      obtain⟨_,_,z,_⟩:=y.tup_
      rw[l] at rx;rw[z] at ry
      cases rx;cases ry;rw[l,z]
     rw[this];exact y)
    rw[<- E,eqD_refl (n+1) _ h1]
    exact gp _
   ·have:=rp (A:=A) (s:=s) (e:=eqJ ds es) it h '#' (λj g1 g2=>by
     obtain⟨c,v1,p,G,r1⟩:=c7 o r g1
     obtain⟨C,v2,B,J,r2⟩:=c7 i k g2
     have:=eqAts_D I ds n j c p C v1 v2 _ _ A.in1 (bH L p) (bH F B) G J r1 r2 (by show A.units+1+n<cLine;lia)
     unfold eqJ;rw[p,B];exact this)
    rw[qc,qc,<- r.length,<- k.length,<- o.len,<- i.len,dP] at this
    simp only[eqD]
    exact pz m this
 |.lst ds,n+1,e,v,u,v',u',A,h1,h2,x,y,rx,ry,hu=>by
  obtain⟨a,f,vs,rfl,it,r,o⟩:=cG I x rx
  cases e with
  |non=>rw[y.non_] at ry;cases (show u'=jt from ry);simp only[eqD];exact VS it '#'
  |bl b=>rw[y.bl_] at ry;cases (show u'=kz b from ry);simp only[eqD];exact VU b it '#'
  |int b=>rw[y.int_] at ry;obtain⟨t,rfl⟩:=ry;simp only[eqD];exact VT b t it '#'
  |str b=>rw[y.str_] at ry;obtain⟨t,rfl⟩:=ry;simp only[eqD];exact VR b t it '#'
  |mt b=>simp[okD] at h2
  |fl b=>simp[okD] at h2
  |st b=>simp[okD] at h2
  |tup es=>obtain⟨b,g,w,rfl,h,_⟩:=cJ I y ry;simp only[eqD];exact VQ it h '#'
  |lst es =>
   obtain⟨b,g,w,rfl,h,k,i⟩:=cG I y ry
   have L:okDs n ds=true:=by simpa only[okD] using h1
   have F:okDs n es=true:=by simpa only[okD] using h2
   by_cases m:a=b
   ·subst m
    have E:D.lst ds=D.lst es:=den_inj I (n+1) _ _ v h1 h2 x (by
     have:v=u:=by
      obtain⟨_,_,l,_⟩:=x.lst_
      obtain⟨_,_,z,_⟩:=y.lst_
      rw[l] at rx;rw[z] at ry
      cases rx;cases ry;rw[l,z]
     rw[this];exact y)
    rw[<- E,eqD_refl (n+1) _ h1]
    exact gp _
   ·simp only[eqD]
    refine pz m ?_
    by_cases hl:ds.length=es.length
    ·have q:f.toArray.size=g.toArray.size:=by rw[qc,qc,<- r.length,<- k.length,<- o.len,<- i.len,hl]
     have:=tf (A:=A) (s:=s) (e:=eqJ ds es) it h q '#' (λj g1 g2=>by
      obtain⟨c,v1,p,G,r1⟩:=c7 o r g1
      obtain⟨C,v2,B,J,r2⟩:=c7 i k g2
      have:=eqAts_D I ds n j c p C v1 v2 _ _ A.in1 (bH L p) (bH F B) G J r1 r2 (by show A.units+1+n<cLine;lia)
      unfold eqJ;rw[p,B];exact this)
     have l:=dP ds es
     rw[<- hl,Qi,beq_self_eq_true,xt] at l
     rw[qc,<- r.length,<- o.len,l] at this
     exact this
    ·have q:(f.toArray.size != g.toArray.size)=true:=by rw[bne_iff_ne,qc,qc,<- r.length,<- k.length,<- o.len,<- i.len];exact hl
     have l:=dP ds es
     rw[beq_eq_false_iff_ne.mpr hl,fv] at l
     rw[<- l]
     exact lh it h q '#'
theorem eqAts_D(I:Inv X pins σ H s):∀(ds:List D) (n j:Nat) (d:D),ds[j]?=some d->∀(e:D) (v u:V) (v' u':Value) (A:Around),okD n d=true->okD n e=true->Den X.K H d v->Den X.K H e u->RelV v v'->RelV u u'->A.units+n<cLine->nz A s v' u' (eqD d e)
 |[],_,_,_,q=>by simp at q
 |d0::ds,n,0,d,q=>by
  simp at q;subst q
  exact λe v u v' u' A=>eqAt_D I d0 n e v u v' u' A
 |d0::ds,n,j+1,d,q=>eqAts_D I ds n j d (by simpa using q)
end
inductive Disp:D->Prop
 |tup (ds:List D):Disp (.tup ds)
 |lst (ds:List D):Disp '8'
inductive Rs(M:Mem):D->D->Prop
 |tup (ds:List D):Rs M (.tup ds) (.tup ds)
 |lst (ds:List D):Rs M '8' '8'
 |mt {a:Addr}{ds:List D} (h:M a=some '8'):Rs M (.mt a) '8'
theorem Rs.disp{d e:D}(h:Rs M d e):Disp e:=by cases h <;> constructor
theorem Rs.den{K:Fg}{H:Hp}{d e:D}(h:Rs M d e)(rl:Rel K G H M)(q:Den K G d v):Den K H e v:=by
 cases h with
 |tup ds=>exact q.up rl.same
 |lst ds=>exact q.up rl.same
 |mt hm =>
  obtain⟨_,vs,a,b⟩:=rl.mem _ _ hm
  rw[q.mt_];exact eW a (b.up rl.same)
def yB(K:Fg)(n:Nat)(neg:Bool):R2:=λx y H Q=>∃d e,Disp d/\Disp e/\okD n d=true/\okD n e=true/\Den K H d x/\Den K H e y/\Q (.bl (if neg then !eqD d e else eqD d e)) H
theorem rc_D(I:Inv X pins σ H s){d e:D}{u:V}{v' u':Value}(A:Around)(g1:Disp d)(g2:Disp e)(h1:okD n d=true)(h2:okD n e=true)(x:Den X.K H d v)(y:Den X.K H e u)(rx:RelV v v')(ry:RelV u u')(hu:A.units+n<cLine):SeqAt.RcAt A s v' u' (eqD d e):=by
 cases g1 with
 |tup ds =>
  obtain⟨a,l,vs,rfl,it,p,m⟩:=cJ I x rx
  cases g2 with
  |lst es=>obtain⟨b,g,k,rfl,f,_⟩:=cG I y ry;simp only[eqD];exact Vy it f '#'
  |tup es =>
   obtain⟨b,g,k,rfl,f,h,i⟩:=cJ I y ry
   cases n with
   |zero=>simp[okD] at h1
   |succ n =>
    have w:okDs n ds=true:=by simpa only[okD] using h1
    have C:okDs n es=true:=by simpa only[okD] using h2
    have:=rp (A:=A) (s:=s) (e:=eqJ ds es) it f '#' (λj g1 g2=>by
     obtain⟨c,v1,r,B,r1⟩:=c7 m p g1
     obtain⟨z,v2,t,E,r2⟩:=c7 i h g2
     show '$'
     unfold eqJ;rw[r,t];exact this)
    rw[qc,qc,<- p.length,<- h.length,<- m.len,<- i.len,dP] at this
    simp only[eqD];exact this
 |lst ds =>
  obtain⟨a,l,vs,rfl,it,p,m⟩:=cG I x rx
  cases g2 with
  |tup es=>obtain⟨b,g,k,rfl,f,_⟩:=cJ I y ry;simp only[eqD];exact Vz it f '#'
  |lst es =>
   obtain⟨b,g,k,rfl,f,h,i⟩:=cG I y ry
   cases n with
   |zero=>simp[okD] at h1
   |succ n =>
    have w:okDs n ds=true:=by simpa only[okD] using h1
    have C:okDs n es=true:=by simpa only[okD] using h2
    simp only[eqD]
    by_cases hl:ds.length=es.length
    ·have o:l.toArray.size=g.toArray.size:=by rw[qc,qc,<- p.length,<- h.length,<- m.len,<- i.len,hl]
     have:=tf (A:=A) (s:=s) (e:=eqJ ds es) it f o '#' (λj g1 g2=>by
      obtain⟨c,v1,r,B,r1⟩:=c7 m p g1
      obtain⟨z,v2,t,E,r2⟩:=c7 i h g2
      show '$'
      unfold eqJ;rw[r,t];exact this)
     have q:=dP ds es
     rw[<- hl,Qi,beq_self_eq_true,xt] at q
     rw[qc,<- p.length,<- m.len,q] at this
     exact this
    ·have o:(l.toArray.size != g.toArray.size)=true:=by rw[bne_iff_ne,qc,qc,<- p.length,<- h.length,<- m.len,<- i.len];exact hl
     have q:=dP ds es
     rw[beq_eq_false_iff_ne.mpr hl,fv] at q
     rw[<- q]
     exact lh it f o '#'
end
section
theorem aAS(hu:X.A.units+n<cLine):OpR X (vc .Eq) (yB X.K n false):=by
 intro pins s σ H x y v u Q I b g h
 obtain⟨d,e,g1,g2,a,i,f,c,q⟩:=h
 exact rc_D I X.A g1 g2 a i f c b g hu X.prog X.w X.xe _ ⟨.bl (eqD d e),H,I,rfl,q⟩
theorem aAY{K:Fg}{e1 e2:D}(r1:Rs M d1 e1)(r2:Rs M d2 e2)(h1:okD n e1=true)(h2:okD n e2=true)(h:k (.bl (eqD e1 e2)) M):Op2 K (yB K n false) d1 d2 M k:=λG H v1 v2 Q a x y q =>
 ⟨e1,e2,r1.disp,r2.disp,h1,h2,r1.den a x,r2.den a y,q _ _ _ _ _ a.10 bN h⟩
end
end Z
namespace Z
open PySem L2
mutual
noncomputable def toPy:D->PyData
 |.non => .none
 |.bl b => .bool b
 |.int i => .int i
 |.str x => .str x
 |.tup ds => .tuple (toPys ds)
 |.lst ds => .list (toPys ds)
 |.mt _ => .none
 |.fl _ => .none
 |.st _ => .none
noncomputable def toPys:List D->List PyData
 |[]=>[]
 |d::ds=>toPy d::toPys ds
end
mutual
theorem depth_le:∀(d:D) (n:Nat),okD n d=true->(toPy d).depth<=n
 |.non,_,_=>by simp[toPy,z9]
 |.bl _,_,_=>by simp[toPy,z9]
 |.int _,_,_=>by simp[toPy,z9]
 |.str _,_,_=>by simp[toPy,z9]
 |.mt _,n,h=>by simp[okD] at h
 |.fl _,n,h=>by simp[okD] at h
 |.st _,n,h=>by simp[okD] at h
 |.tup ds,0,h=>by simp[okD] at h
 |.lst ds,0,h=>by simp[okD] at h
 |.tup ds,n+1,h=>by
  simp only[toPy,z9]
  have:=depths_le ds n (by simpa only[okD] using h)
  lia
 |.lst ds,n+1,h=>by
  simp only[toPy,z9]
  have:=depths_le ds n (by simpa only[okD] using h)
  lia
theorem depths_le:∀(ds:List D) (n:Nat),okDs n ds=true->lr (toPys ds)<=n
 |[],_,_=>by simp[toPys,lr]
 |d::ds,n,h=>by
  simp only[okDs,jm] at h
  simp only[toPys,lr]
  have b:=depth_le d n h.1
  have a:=depths_le ds n h.2
  lia
end
mutual
theorem noDict:∀(d:D),(toPy d).hasDict=false
 |.non=>by simp only[toPy,w3]
 |.bl _=>by simp only[toPy,w3]
 |.int _=>by simp only[toPy,w3]
 |.str _=>by simp only[toPy,w3]
 |.mt _=>by simp only[toPy,w3]
 |.fl _=>by simp only[toPy,w3]
 |.st _=>by simp only[toPy,w3]
 |.tup ds=>by simp only[toPy,w3];exact noDicts ds
 |.lst ds=>by simp only[toPy,w3];exact noDicts ds
theorem noDicts:∀(ds:List D),gq (toPys ds)=false
 |[]=>by simp only[toPys,gq]
 |d::ds=>by simp only[toPys,gq,noDict d,noDicts ds,JL]
end
section
mutual
theorem reads_D(I:Inv X pins σ H s):∀(d:D) (n:Nat) (v:V) (u:Value),okD n d=true->Den X.K H d v->RelV v u->∃as,Reads s.heap u (toPy d) as
 |.non,_,v,u,_,x,r=>by rw[x.non_] at r;cases (show u=jt from r);exact⟨_,by simp only[toPy];exact .none⟩
 |.bl b,_,v,u,_,x,r=>by rw[x.bl_] at r;cases (show u=kz b from r);exact⟨_,by simp only[toPy];exact .bool b⟩
 |.int b,_,v,u,_,x,r=>by rw[x.int_] at r;obtain⟨t,rfl⟩:=r;exact⟨_,by simp only[toPy];exact .int b t⟩
 |.str b,_,v,u,_,x,r=>by rw[x.str_] at r;obtain⟨t,rfl⟩:=r;exact⟨_,by simp only[toPy];exact .str b t⟩
 |.mt _,n,_,_,h,_,_=>by simp[okD] at h
 |.fl _,n,_,_,h,_,_=>by simp[okD] at h
 |.st _,n,_,_,h,_,_=>by simp[okD] at h
 |.tup ds,0,_,_,h,_,_=>by simp[okD] at h
 |.lst ds,0,_,_,h,_,_=>by simp[okD] at h
 |.tup ds,n+1,v,u,h,x,r=>by
  obtain⟨a,c,vs,rfl,⟨o,g,j,m,f⟩,i,e⟩:=cJ I x r
  obtain⟨as,q⟩:=readss_D I ds n vs c (by simpa only[okD] using h) e i
  exact⟨as,by simp only[toPy];exact .tuple g j f (by simpa using q)⟩
 |.lst ds,n+1,v,u,h,x,r=>by
  obtain⟨a,c,vs,rfl,⟨o,g,j,m,f⟩,i,e⟩:=cG I x r
  obtain⟨as,q⟩:=readss_D I ds n vs c (by simpa only[okD] using h) e i
  exact⟨a::as,by simp only[toPy];exact .list g j f (by simpa using q)⟩
theorem readss_D(I:Inv X pins σ H s):∀(ds:List D) (n:Nat) (vs:List V) (us:List Value),okDs n ds=true->Dens X.K H ds vs->Vals vs us->∃as,ReadsAll s.heap us (toPys ds) as
 |[],_,vs,us,_,x,r=>by
  rw[b5 x] at r
  cases r
  exact⟨[],by simp only[toPys];exact .nil⟩
 |d::ds,n,vs,us,h,x,r=>by
  obtain⟨v,t,rfl,a,b⟩:=bF x
  cases r with
  |cons r1 r2 =>
   simp only[okDs,jm] at h
   obtain⟨as,q⟩:=reads_D I d n v _ h.1 a r1
   obtain⟨bs,c⟩:=readss_D I ds n t _ h.2 b r2
   exact⟨as++bs,by simp only[toPys];exact .cons q c⟩
end
end
section
def xL(K:Fg)(n:Nat):List V->Hp->VK->Prop:=λxs H Q=>∃x d,xs=[x]/\Disp d/\okD n d=true/\Den K H d x/\(toPy d).showable=true/\(toPy d).shown.length<=sizeLine/\Q (.str (toPy d).shown) H
theorem qH(hu:X.A.units+(n+1)<cLine)(hg:X.A.guards=some []):dB X (.builtin "repr") (xL X.K n):=by
 show '%'
 obtain⟨x,d,rfl,hd,ok,c,m,j,q⟩:=h
 obtain⟨u,rfl,b⟩:=vals1 r
 obtain⟨as,g⟩:=reads_D I d n x u ok c b
 have k:∃a,u = .ref a:=by
  cases hd with
  |tup ds=>obtain⟨a,_,_,e,_⟩:=cJ I c b;exact⟨a,e⟩
  |lst ds=>obtain⟨a,_,_,e,_⟩:=cG I c b;exact⟨a,e⟩
 obtain⟨a,rfl⟩:=k
 have f:=depth_le d n ok
 refine repr_of_reads' g m (PyData.noDict_hsm (noDict d)) hg '#' (λ_ _ e=>e) (λo t l i => ?_) j
 exact⟨.str _,H,I.kept (t':=l) i,⟨t,rfl⟩,q⟩
theorem aHJ{K:Fg}{d e:D}(r:Rs M d e)(ok:okD n e=true)(hs:(toPy e).showable=true)(hz:(toPy e).shown.length<=sizeLine)(h:k (.str (toPy e).shown) M):OpN K (xL K n) [d] M k:=λG H vs Q a x q=>by
 obtain⟨v,rfl,b⟩:=dens1 x
 exact⟨v,e,rfl,r.disp,ok,r.den a b,hs,hz,q _ _ _ _ _ a.10 fV h⟩
theorem aHU{x y:Value}(h:(x==y)=true):x=y:=eq_of_beq h
noncomputable def eOf(ds:List D)(its:List Value)(c:D)(y:Value):Bool:=match (its.zip ds).find? (λp=>p.1==y) with
 |some p=>eqD p.2 c
 |none=>false
theorem eM(I:Inv X pins σ H s){vs:List V}(ok:okDs n ds=true)(dn:Dens X.K H ds vs)(rv:Vals vs its){c:D}{y:Value}{d:D}(hy:its[j]?=some y)(hd:ds[j]?=some d):eOf ds its c y=eqD d c:=by
 unfold eOf
 have hl:its.length=ds.length:=by rw[dn.len,rv.length]
 have e:(its.zip ds)[j]?=some (y,d):=by rw[pd];exact⟨hy,hd⟩
 cases hf:(its.zip ds).find? (λp=>p.1==y) with
 |none =>
  have:=QQ.mp hf (y,d) e.7
  exact absurd '*' this
 |some p =>
  have b:=List.find?_some hf
  have l:=List.mem_of_find?_eq_some hf
  obtain⟨i,f⟩:=we l
  obtain⟨a1,a2⟩:=pd.mp (show (its.zip ds)[i]?=some (p.1,p.2) from f)
  have h:p.1=y:=aHU b
  rw[h] at a1
  obtain⟨v1,g,m⟩:=dn.get a2
  obtain⟨v2,k,o⟩:=dn.get hd
  obtain⟨r,x1,r1⟩:=rv.get g
  obtain⟨q,a,r2⟩:=rv.get k
  rw[a1] at x1;cases x1
  rw[hy] at a;cases a
  have:v1=v2:=r1.inj r2
  subst this
  show eqD p.2 c=eqD d c
  rw[den_inj I n p.2 d v1 (bH ok a2) (bH ok hd) m o]
theorem vB(I:Inv X pins σ H s){vs:List V}(ok:okDs n ds=true)(dn:Dens X.K H ds vs)(rv:Vals vs its)(c:D):its.toArray.any (eOf ds its c)=ds.any λd=>eqD d c:=by
 have hl:its.length=ds.length:=by rw[dn.len,rv.length]
 rw[List.any_toArray]
 rw[zv,Jh,Jh]
 constructor
 ·rintro⟨y,f,e⟩
  obtain⟨j,b⟩:=we f
  have a:j<ds.length:=by rw[<- hl];exact (b.5).1
  rw[eM I ok dn rv b (zGe a)] at e
  grind
 ·rintro⟨d,hd,e⟩
  obtain⟨j,b⟩:=we hd
  have a:j<its.length:=by rw[hl];exact (b.5).1
  refine⟨its[j],ky a,?_⟩
  rw[eM I ok dn rv (zGe a) b]
  exact e
def rInD(K:Fg)(n:Nat)(neg:Bool):R2:=λx y H Q=>∃c d ds,(d = .tup ds\/d = .lst ds)/\okD n c=true/\okDs n ds=true/\Den K H c x/\Den K H d y/\Q (.bl (if neg then !(ds.any λe=>eqD e c) else ds.any λe=>eqD e c)) H
theorem oR(hu:X.A.units+(n+1)<cLine):OpR X (vc .In) (rInD X.K n false):=by
 intro pins s σ H x y v u Q I z D h
 obtain⟨c,d,ds,hd,k,b,B,C,q⟩:=h
 rcases hd with rfl|rfl
 ·obtain⟨a,f,vs,rfl,it,i,g⟩:=cJ I C D
  refine SeqAt.in_tupleAt (eOf ds f c) it (λy r => ?_) ?_
  ·obtain⟨j,l⟩:=we (show y∈f by simpa using r)
   obtain⟨p,m,r1⟩:∃w,vs[j]?=some w/\RelV w y:=by
    obtain⟨w,m,r1⟩:=pL i (j:=j) (by rw[qc];exact (l.5).1)
    grind
   obtain⟨e,o,t⟩:=g.get' m
   rw[eM I b g i l o]
   exact eqAt_D I e n c p x y v X.A.in1 (bH b o) k t B r1 z (by show X.A.units+1+n<cLine;lia)
  ·rw[vB I b g i]
   exact⟨.bl _,H,I,rfl,q⟩
 ·obtain⟨a,f,vs,rfl,it,i,g⟩:=cG I C D
  refine SeqAt.in_listAt (eOf ds f c) it (λy r => ?_) ?_
  ·obtain⟨j,l⟩:=we (show y∈f by simpa using r)
   obtain⟨p,m,r1⟩:∃w,vs[j]?=some w/\RelV w y:=by
    obtain⟨w,m,r1⟩:=pL i (j:=j) (by rw[qc];exact (l.5).1)
    grind
   obtain⟨e,o,t⟩:=g.get' m
   rw[eM I b g i l o]
   exact eqAt_D I e n c p x y v X.A.in1 (bH b o) k t B r1 z (by show X.A.units+1+n<cLine;lia)
  ·rw[vB I b g i]
   exact⟨.bl _,H,I,rfl,q⟩
end
end Z
namespace R
open PySem L2
theorem j5{z:Str}(h:j<z.length):z.cps.toList[j]?=some (atS z j):=by
 have h':j<z.cps.size:=h
 simp[atS,Ks,h']
theorem wZ{l:List Nat}:atS (ofL l) j=l.getD j 0:=by
 unfold atS ofL
 rw[Array.getD_eq_getD_getElem?,vq,zGd]
def Good(n:Nat)(zs:List Str):Prop:=∀z∈zs,z.length=n/\z.cps.toList.all sgn=true
theorem mE(h:Good n zs){z:Str}(hz:z∈zs)(hj:j<n):atS z j=35\/atS z j=46:=by
 obtain⟨b,a⟩:=h z hz
 have e:=j5 (z:=z) (j:=j) '#'
 have:=yu.mp a _ e.7
 unfold sgn at this
 rw[y9,beq_iff_eq,beq_iff_eq] at this
 exact this
theorem nO(n:Nat):(dots n).length=n:=by unfold dots;rw[fQ,w8]
theorem aHR{z:Str}(hl:z.length=n)(h:∀j,j<n->atS z j=46):z=dots n:=by
 apply fP
 show z.cps.toList=ku n 46
 apply ze
 intro j
 by_cases a:j<n
 ·rw[j5 '#',h j a,x5,if_pos a]
 ·rw[jq (by rw[qt];have:z.cps.size=n:=hl;lia),jq (by simp;lia)]
theorem wC:atS (dots n) j=if j<n then 46 else 0:=by
 unfold dots
 rw[wZ,zGd,x5]
 split <;> rfl
theorem gO{α:Type}(f:Nat->α):∀p,f p≠f 0->∃k,k<p/\f k≠f (k+1)
 |0,h=>absurd rfl h
 |p+1,h=>by
  by_cases e:f p=f 0
  ·exact⟨p,by lia,by rw[e];exact vi h⟩
  ·obtain⟨k,b,a⟩:=gO f p e
   exact⟨k,by lia,a⟩
theorem lJ{α:Type}(f:Nat->α):∀m p,f p≠f (p+m)->∃k,p<=k/\k<p+m/\f k≠f (k+1)
 |0,p,h=>absurd rfl h
 |m+1,p,h=>by
  by_cases e:f p=f (p+m)
  ·exact⟨p+m,by lia,by lia,by rw[<- e];exact h⟩
  ·obtain⟨k,a,c,b⟩:=lJ f m p e
   exact⟨k,a,by lia,b⟩
theorem lF(h:i<zs.length):(framed zs)[i+1]?=zs[i]?:=by
 unfold framed
 rw[qx,zj,kc,qn h]
theorem t9(zs:List Str):(framed zs)[0]?=some (dots '@'):=by simp[framed]
theorem u4(zs:List Str):(framed zs)[zs.length+1]?=some (dots '@'):=by
 unfold framed
 rw[qx,zj,kc,qj (qo _)]
 simp
theorem mD(hz:zs≠[]):i∈chg zs↔i<=zs.length/\(framed zs)[i]?≠(framed zs)[i+1]?:=by
 unfold chg
 have:zs.isEmpty=false:=by cases zs with
  |nil=>exact absurd rfl hz
  |cons _ _=>rfl
 rw[this]
 simp only[vw,if_false,zu,j2,g5,decide_eq_false_iff_not]
 exact⟨λ⟨a,b⟩=>⟨by lia,b⟩,λ⟨a,b⟩=>⟨by lia,b⟩⟩
theorem jD(h:∀z∈zs,z.length=n)(hz:zs≠[]):(zs.head?.map (·.length)).getD 0=n:=by
 cases zs with
 |nil=>exact absurd rfl hz
 |cons z zr=>exact h z '*'
theorem aFA(h:∀z∈zs,z.length=n){z:Str}(hi:zs[i]?=some z)(hz:z≠dots n):2<=(chg zs).length:=by
 have b:i<zs.length:=(hi.5).1
 have a:zs≠[]:=λe=>by rw[e] at b;simp at b
 have hw:=jD h a
 have f0:(framed zs)[0]?=some (dots n):=by rw[t9,hw]
 have fl:(framed zs)[zs.length+1]?=some (dots n):=by rw[u4,hw]
 have f:(framed zs)[i+1]?=some z:=by rw[lF b,hi]
 obtain⟨j,a1,g⟩:=gO (λk=>(framed zs)[k]?) (i+1) (by show (framed zs)[i+1]?≠(framed zs)[0]?;rw[f,f0];exact λe=>hz (jc e))
 obtain⟨m,a2,o,l⟩:=lJ (λk=>(framed zs)[k]?) (zs.length-i) (i+1) (by
  show (framed zs)[i+1]?≠(framed zs)[i+1+(zs.length-i)]?
  rw[show i+1+(zs.length-i)=zs.length+1 by lia,f,fl];exact λe=>hz (jc e))
 have c:j∈chg zs:=(mD a).mpr ⟨by lia,g⟩
 have d:m∈chg zs:=(mD a).mpr ⟨by lia,l⟩
 match hc:chg zs,c,d with
 |[],c,_=>cases c
 |[x],c,d =>
  simp at c d
  lia
 |_::_::_,_,_=>simp
noncomputable def a7(zs:List Str):List Str:=(chg zs).dropLast.map λi=>zs.getD i xm
theorem aB4:∀z∈a7 zs,z∈zs:=λz a=>by
 obtain⟨i,b,rfl⟩:=q0.mp a
 have:=vS (fB zs) (jT zs) i b
 rw[zGd,zGe this]
 exact ky _
theorem fF(h:Good n zs):Good n (a7 zs):=λz hz=>h z (aB4 z hz)
theorem eS(zs:List Str):(a7 zs).length=(chg zs).length-1:=by unfold a7;rw[zLm,Qq]
theorem uU(h:∀z∈zs,z.length=n)(hr:a7 zs≠[]):∃z∈a7 zs,z≠dots n:=by
 have c:2<=(chg zs).length:=by
  have:=zy.mpr hr
  rw[eS] at this
  lia
 have a:zs≠[]:=λe=>by rw[e] at c;simp[chg] at c
 match hc:chg zs,c with
 |k0::k1::r,_ =>
  have m0:k0∈chg zs:=by rw[hc];simp
  have s:=fB zs
  rw[hc] at s
  have f:k1<=zs.length:=jT zs k1 (by rw[hc];simp)
  have i:k0<k1:=(gr.mp s).1 k1 '*'
  have b:k0<zs.length:=by lia
  obtain⟨_,g⟩:=(mD a).mp m0
  have same:∀j,j<=k0->(framed zs)[j]?=(framed zs)[0]?:=λj l=>jf λq=>by
   obtain⟨k,a1,d⟩:=gO (λk=>(framed zs)[k]?) j q
   have:k∈chg zs:=(mD a).mpr ⟨by lia,d⟩
   rw[hc] at this
   rcases jb.mp this with rfl|this
   ·lia
   ·have:=(gr.mp s).1 k this
    lia
  refine⟨zs.getD k0 xm,?_,λq=>g ?_⟩
  ·unfold a7
   rw[hc]
   simp
  ·rw[same k0 (qo _),t9,jD h a,lF b,<- q,zGd,zGe b]
   rfl
theorem aE7(h:∀z∈zs,z.length=n)(hz:zs≠[])(hj:j<n):(a8 zs)[j]?=some (ofL (zs.map (atS · j))):=by
 unfold a8
 rw[jD h hz,qm,zz hj]
 rfl
theorem lB(h:Good n zs):Good zs.length (a8 zs):=λz a=>by
 refine⟨rH z a,?_⟩
 obtain⟨j,b,rfl⟩:=q0.mp a
 rw[j2] at b
 show (zs.map (atS · j)).all sgn=true
 rw[yu]
 intro c f
 obtain⟨z,a,rfl⟩:=q0.mp f
 have d:zs≠[]:=λe=>by rw[e] at a;cases a
 rw[jD (λz a=>(h z a).1) d] at b
 rcases mE h a b with e|e <;> rw[e] <;> rfl
structure Wf(nx ny:Nat)(zs:List Str):Prop where
 rows:zs.length+1=ny\/(nx=0/\ny=0/\zs=[])
 good:Good (nx-1) zs
 wide:0<nx\/(nx=0/\ny=0/\zs=[])
theorem aDT(h:Good n zs){z:Str}(hz:z∈zs)(hd:z≠dots n):∃j,j<n/\atS z j=35:=by
 refine jf λq=>hd (aHR (h z hz).1 λj a => ?_)
 rcases mE h hz a with e|e
 ·exact absurd ⟨j,a,e⟩ q
 ·exact e
theorem aHA(h:Good n zs)(hr:a7 zs≠[]):
  2<=(chg (a8 (a7 zs))).length/\Wf (chg (a8 (a7 zs))).length (chg zs).length (a8 (a7 (a8 (a7 zs))))/\(a8 (a7 (a8 (a7 zs)))).length=(a7 zs).length:=by
 have g1:=fF h
 obtain⟨z,a,hd⟩:=uU (λz a=>(h z a).1) hr
 obtain⟨j,l,b⟩:=aDT g1 a hd
 have gc:=lB g1
 have o:=aE7 (λz a=>(g1 z a).1) hr l
 have c:ofL ((a7 zs).map (atS · j))≠dots (a7 zs).length:=λq=>by
  obtain⟨i,e,k⟩:=yy a
  have f:atS (ofL ((a7 zs).map (atS · j))) i=35:=by
   rw[wZ,zGd,qm,zGe e,k]
   exact b
  rw[q,wC,if_pos e] at f
  cases f
 have m:=aFA (λz a=>(gc z a).1) o c
 have g:a7 (a8 (a7 zs))≠[]:=λq=>by
  have:=eS (a8 (a7 zs))
  rw[q] at this
  simp at this
  lia
 have g2:=fF gc
 have d:=(nC (λz a=>(g2 z a).1)).2 g
 have p:=eS zs
 have pos:=zy.mpr hr
 refine⟨m,⟨.inl (by rw[d];lia),?_, .inl '#'⟩,d⟩
 have g3:=lB g2
 rw[eS] at g3
 exact g3
noncomputable def aH(zs:List Str)(a u:Int):Bool:=decide (0<=u)&&decide (0<=a)&&((zs[u.toNat]?).bind λz=>z.cps.toList[a.toNat]?)==some 35
theorem bR{a u:Int}(h:u<0):aH zs a u=false:=by
 unfold aH;rw[decide_eq_false '#'];rfl
theorem bZ{a u:Int}(h:a<0):aH zs a u=false:=by
 unfold aH;rw[decide_eq_false (show ¬(0:Int)<=a by lia),fv];rfl
theorem b9{a u:Int}(h:(zs.length:Int)<=u):aH zs a u=false:=by
 unfold aH
 rw[jq '#']
 simp
theorem eJ{a u:Int}{z:Str}(e:zs[u.toNat]?=some z)(h:(z.length:Int)<=a):aH zs a u=false:=by
 unfold aH
 rw[e]
 have:z.cps.toList[a.toNat]?=none:=jq (by rw[qt];have:z.cps.size=z.length:=rfl;lia)
 rw[QN,this]
 cases decide (0<=u) <;> cases decide (0<=a) <;> rfl
theorem kG{a u:Int}{z:Str}{c:Nat}(hu:0<=u)(ha:0<=a)(e:zs[u.toNat]?=some z)(ec:z.cps.toList[a.toNat]?=some c):aH zs a u=decide (c=35):=by
 unfold aH
 rw[decide_eq_true hu,decide_eq_true ha,e]
 simp only[QN,ec,xt,JK]
 by_cases h:c=35
 ·subst h;rfl
 ·rw[decide_eq_false h];simp[h]
noncomputable def sg(b:Bool):Nat:=if b then 35 else 46
noncomputable def lW(w:Nat)(zs:List Str):List Str:=[dots (w+2)]++zs.map (λz=>ofL (46::z.cps.toList++[46]))++[dots (w+2)]
theorem wW{w:Nat}(h:Good w zs){k:Nat}(hk:k<w+2)(hj:j<zs.length+2):∃z,(lW w zs)[j]?=some z/\z.length=w+2/\z.cps.toList[k]?=some (sg (aH zs ((k:Int)-1) ((j:Int)-1))):=by
 have hd:(dots (w+2)).cps.toList[k]?=some 46:=by
  rw[j5 (by rw[nO];exact hk),wC,if_pos hk]
 by_cases h0:j=0
 ·subst h0
  refine⟨dots (w+2),by simp[lW],nO _,?_⟩
  rw[hd,bR '#'];rfl
 ·by_cases g:j=zs.length+1
  ·subst g
   refine⟨dots (w+2),by simp[lW],nO _,?_⟩
   rw[hd,b9 '#'];rfl
  ·obtain⟨i,rfl⟩:∃i,j=i+1:=⟨j-1,by lia⟩
   have a:i<zs.length:=by lia
   obtain⟨hl,n⟩:=h zs[i] (ky a)
   have b:zs[i].cps.toList.length=w:=by rw[qt];exact hl
   refine⟨ofL (46::zs[i].cps.toList++[46]),?_,?_,?_⟩
   ·unfold lW
    rw[qx,zj,kc,qn (by rw[zLm];exact a),qm,zGe a]
    rfl
   ·rw[fQ];simp[b]
   ·show (46::zs[i].cps.toList++[46])[k]?=_
    have f:((((i+1:Nat):Int)-1).toNat)=i:=by lia
    by_cases l:k=0
    ·subst l
     rw[bZ '#'];rfl
    ·obtain⟨m,rfl⟩:∃m,k=m+1:=⟨k-1,by lia⟩
     rw[zm,kc]
     by_cases hm:m<w
     ·rw[qn '#']
      have d:zs[i].cps.toList[m]?=some (atS zs[i] m):=j5 '#'
      rw[d,kG (z:=zs[i]) (c:=atS zs[i] m) '#' '#' (by rw[f];simp[a]) (by rw[show ((((m+1:Nat):Int)-1).toNat)=m by lia];exact d)]
      rcases mE h (ky a) hm with e|e <;> rw[e] <;> rfl
     ·have:m=w:=by lia
      subst this
      rw[qj '#',b]
      rw[eJ (z:=zs[i]) (by rw[f];simp[a]) '#']
      simp;rfl
end R
namespace Q
open PySem L2 Z
theorem BMin:ke "min" = some (.builtin "min"):=by decide +kernel
theorem BRepr:ke "repr" = some (.builtin "repr"):=by decide +kernel
theorem BEnum:ke "enumerate" = some (.type "enumerate"):=by decide +kernel
structure Bt(mg:Str->Option Value):Prop where
 len:mg "len" = none
 abs:mg "abs" = none
 int:mg "int" = none
 min:mg "min" = none
 max:mg "max" = none
 range:mg "range" = none
 list:mg "list" = none
 tuple:mg "tuple" = none
 repr:mg "repr" = none
 all:mg "all" = none
 any:mg "any" = none
 enumerate:mg "enumerate" = none
 isi:mg "isinstance" = none
 bool:mg "bool" = none
 str:mg "str" = none
 zip:mg "zip" = none
 reversed:mg "reversed" = none
 sorted:mg "sorted" = none
 dict:mg "dict" = none
def FdM(M:Mem)(p:Addr)(b:Int):Prop:=∃g m st:Int,M p=some (.lst [.int g, .int m, .int st])/\0<=g/\0<=m/\m<2147483399/\0<=st/\st<=b
def cF(p:Addr)(M M':Mem):Prop:=∀a o,a≠p->M a=some o->M' a=some o
theorem cF.refl(p:Addr)(M:Mem):cF p M M:=λ_ _ _ h=>h
theorem cF.trans{p:Addr}{M1 M2:Mem}(a:cF p M M1)(b:cF p M1 M2):cF p M M2:=λc o n h=>b c o n (a c o n h)
theorem cF.upd{p:Addr}{o:MO}(h:cF p M M'):cF p M (aL M' p o):=λa u n e=>by rw[aF n];exact h a u n e
theorem cF.new{p:Addr}{o:MO}(h:cF p M M')(n:M a=none):cF p M (aL M' a o):=λb u nb e=>by
 rw[aF (λz=>by rw[z,n] at e;cases e)];exact h b u nb e
theorem FdM.mono{p:Addr}{b c:Int}(h:FdM M p b)(l:b<=c):FdM M p c:=by
 obtain⟨g,m,st,e,h1,h2,h3,h4,h5⟩:=h
 exact⟨g,m,st,e,h1,h2,h3,h4,by lia⟩
theorem FdM.ne{p:Addr}{b:Int}(h:FdM M p b)(n:M a=none):a≠p:=λz=>by
 obtain⟨g,m,st,e,_⟩:=h
 rw[<- z,n] at e;cases e
theorem FdM.new{p:Addr}{b:Int}{o:MO}(h:FdM M p b)(n:a≠p):FdM (aL M a o) p b:=by
 obtain⟨g,m,st,e,r⟩:=h
 exact⟨g,m,st,by rw[aF (vi n)];exact e,r⟩
def aKR:Ct:=λds M k=>∃(ns:List Int) (i:Int),ds=[.fl (ns.map .int), .int i]/\0<=i/\i<2^40/\∀p M',M p=none->Le M M'->FdM M' p 0->k (.mt p) M'
def aK0:Ct:=λds M k=>∃(p:Addr) (n b:Int),ds=[.mt p, .int n]/\0<n/\n<1073741824/\FdM M p b/\b<=1000000/\∀z M',0<=z->z<n->FdM M' p (b+1)->cF p M M'->(∀a,a≠p->M' a=M a)->k (.int z) M'
def aGK:Ct:=λds M k=>∃a b:Int,ds=[.int a, .int b]/\k (.int ((va a b:Nat):Int)) M
theorem aDX{ns:List Int}{k:Int}(h0:0<=k)(h:k<ns.length):∃z:Int,atI (ns.map D.int) k=some (.int z):=by
 obtain⟨j,rfl⟩:∃j:Nat,k=(j:Int):=⟨k.toNat,by lia⟩
 have a:j<ns.length:=by lia
 exact⟨ns[j],bU (by simp[a])⟩
theorem iW{o:MO}(h:M a=none):dZ (aL M a o) a=M:=by
 funext b
 unfold dZ aL
 by_cases e:b=a
 ·rw[if_pos e,e,h]
 ·rw[if_neg e,if_neg e]
noncomputable def c8(bt at_:Int):D := .tup [.int (at_/((va at_ bt:Nat):Int)), .int (bt/((va at_ bt:Nat):Int))]
structure Ats(bt:Int)(ats:List Int):Prop where
 bt:bt=1\/bt=2\/bt=9
 up:ats.Pairwise (· < ·)
 bd:∀a∈ats, -20<=a/\a<=10^10
def aJE:Ct:=λds M k=>∃(p:Addr) (many b:Int),ds=[.mt p, .int many]/\0<=many/\many<=20/\FdM M p b/\b<=900000 /\
 ∀(a:Addr) (M':Mem) (bt:Int) (ats:List Int),M a=none->M' a=some (.lst (ats.map (c8 bt)))->FdM M' p (b+50)->cF p M M'->ats.length=(many+1).toNat->Ats bt ats->k (.mt a) M'
theorem aG2{z:Int}(h0:0<=z)(h1:z<4):∃bt:Int,atI [D.int 1, .int 1, .int 2, .int 9] z=some (.int bt)/\(bt=1\/bt=2\/bt=9):=by
 have:z=0\/z=1\/z=2\/z=3:=by lia
 rcases this with rfl|rfl|rfl|rfl
 ·exact⟨1,rfl, .inl rfl⟩
 ·exact⟨1,rfl, .inl rfl⟩
 ·exact⟨2,rfl, .inr '1'⟩
 ·exact⟨9,rfl, .inr (.inr rfl)⟩
theorem aBK{z:Int}(h0:0<=z)(h1:z<3):∃m:Int,atI [D.int 1, .int 4, .int (10^(8:Int).toNat)] z=some (.int m)/\1<=m/\m<=100000000:=by
 have:z=0\/z=1\/z=2:=by lia
 rcases this with rfl|rfl|rfl
 ·exact⟨1,rfl,by decide,by decide⟩
 ·exact⟨4,rfl,by decide,by decide⟩
 ·exact⟨_,rfl,by decide,by decide⟩
theorem q8{a bt:Int}(h:bt=1\/bt=2\/bt=9):0<((va a bt:Nat):Int)/\((va a bt:Nat):Int)<1073741824:=by
 have b:bt≠0:=by rcases h with rfl|rfl|rfl <;> decide
 have d:0<va a bt:=nh a b
 have c:va a bt<=bt.natAbs:=Nat.le_of_dvd '#' (Int.gcd_dvd_natAbs_right a bt)
 have:bt.natAbs<=9:=by rcases h with rfl|rfl|rfl <;> decide
 lia
def aLL:Ct:=λds M k=>∃(p:Addr) (b way i j wide high:Int),ds=[.mt p, .int way, .int i, .int j, .int wide, .int high]/\0<=way/\way<9/\FdM M p b/\b<=900000/\0<=i/\i<=1000/\0<=j/\j<=1000/\0<=wide/\wide<=1000 /\
 ∀c M',FdM M' p (b+1)->cF p M M'->k (.bl c) M'
noncomputable def fJ(xs:List D)(js:List Nat):List D:=js.map λj=>xs.getD j .non
def aGA:Ct:=λds M k=>∃(xs:List D) (zs:List Str) (n:Nat),ds=[.lst xs, .lst (zs.map .str)]/\zs.length<=1000/\n<=1000/\(∀z∈zs,z.length=n)/\xs.length=zs.length+1 /\
 k (.tup [.lst (fJ xs (R.chg zs)), .lst ((R.a7 zs).map .str)]) M
def aFI:Ct:=λds M k=>∃(zs:List Str) (n:Nat),ds=[.lst (zs.map .str)]/\zs.length<=1000/\n<=1000/\(∀z∈zs,z.length=n)/\k (.lst ((R.a8 zs).map .str)) M
noncomputable def bL(xs ys:List D)(zs:List Str):D := .tup [.tup xs, .tup ys, .tup (zs.map .str)]
def aLG:Ct:=λds M k=>∃(xs ys:List D) (zs:List Str) (n:Nat),ds=[.lst xs, .lst ys, .lst (zs.map .str)]/\zs.length<=1000/\n<=1000/\R.Good n zs/\xs.length=n+1/\ys.length=zs.length+1 /\
 (R.a7 zs=[]->k (bL [] [] []) M)/\(R.a7 zs≠[]->k (bL (fJ xs (R.chg (R.a8 (R.a7 zs)))) (fJ ys (R.chg zs)) (R.a8 (R.a7 (R.a8 (R.a7 zs))))) M)
structure YardOk(xs ys:List D)(zs:List Str):Prop where
 lx:∃bt ats,xs=ats.map (c8 bt)/\Ats bt ats
 ly:∃bt ats,ys=ats.map (c8 bt)/\Ats bt ats
 wf:R.Wf xs.length ys.length zs
 few:xs.length<=12/\ys.length<=12
 full:zs=[]->xs=[]/\ys=[]
def aLI:Ct:=λds M k=>∃(p:Addr) (b most:Int),ds=[.mt p, .int most]/\1<=most/\most<=11/\FdM M p b/\b<=1000/\∀xs ys zs M',YardOk xs ys zs->FdM M' p (b+1000)->cF p M M'->k (bL xs ys zs) M'
theorem r9(hz:∀z∈zs,z.length=n)(hn:n<=1000):∃z0:Str,atI (zs.map D.str++[.str ""]) 0=some (.str z0)/\(∀z∈zs,z0.length=z.length)/\z0.length<=1000:=by
 cases zs with
 |nil=>exact⟨"", rfl,λz h=>(nomatch h),by decide +kernel⟩
 |cons z zr=>exact⟨z,bU (j:=0) rfl,λy a=>by rw[hz z '*',hz y a],by rw[hz z '*'];exact hn⟩
theorem t6{z0:Str}(h:atI (zs.map D.str++[.str ""]) 0=some (.str z0)):z0.length=(zs.head?.map (·.length)).getD 0:=by
 cases zs with
 |nil =>
  have:D.str "" = D.str z0:=jc h
  injection this with e
  rw[<- e];decide +kernel
 |cons z zr =>
  have:D.str z=D.str z0:=jc ((show some (D.str z)=atI _ 0 from (bU (j:=0) rfl).symm).trans h)
  injection this with e
  rw[<- e];rfl
theorem bK{α β:Type}{f:α->β}{l:List α}{y:β}(h:(f.13)[i]?=some y):∃x,l[i]?=some x/\y=f x:=by
 rw[qm] at h
 cases e:l[i]? with
 |none=>rw[e] at h;cases h
 |some x=>rw[e] at h;exact⟨x,rfl,(jc h).symm⟩
end Q
namespace PySem
open Sem (wp)
open AutoSeq1 (wpAny_loadPart')
section
variable {E:Value->Shared->Prop}
theorem sP{iq:Addr}{its}{x:Value}{Q:Value->Shared->Prop}(hI:s.heap.IsTupleIter iq tu i)(hT:s.heap.IsTuple tu its)(hq:its[i]?=some x)(kQ:∀h',h'.IsTupleIter iq tu (i+1)->vx iq s.heap h'->Q x {s with heap:=h' }):wpAny w.8 A (x8 (.ref iq)) Q E s:=by
 obtain⟨g,b,c,a⟩:=id hI
 obtain⟨f,e,_,h,d⟩:=hT
 unfold x8
 refine qa (QJ (name:=qu "__next__") hI.typeIs ym (ba ym hI.typeIs ri ?_ (ph _)))
 show wpAny _ _ (field (.ref iq) 0 >>= _) _ _ s
 refine qa (sm b a (x := .ref tu) rfl ?_)
 show wpAny _ _ (if (jh tu==jt)=true then _ else _) _ _ s
 rw[if_neg (show ¬((jh tu==jt)=true) from zBf)]
 show wpAny _ _ (field (.ref iq) 1 >>= _) _ _ s
 refine qa (sm b a (x := .int i 0) rfl ?_)
 show wpAny _ _ (dm (.ref tu) >>= _) _ _ s
 refine qa (xo e d ?_)
 simp only[jj,hq]
 refine qa (Vq b a '*' ⟨x,rfl,wpAny_pure (kQ _ ?_ (q4 ..))⟩.14)
 exact⟨_,xb _ b (Obj.isFreed_of_fields (Q0 a _)),(Obj.cls_mapFields ..).trans c,by rw[Q0 a];simp[rawInt]⟩
theorem u0{iq:Addr}{its}{Q:Value->Shared->Prop}(hh:A.handled=none)(hI:s.heap.IsTupleIter iq tu i)(hT:s.heap.IsTuple tu its)(hq:its[i]?=none)(kE:∀h' e,Heap.ExtBut iq s.heap h'->(∃o,h'.get? e=some o/\o.cls = .type "StopIteration")->E (.ref e) {s with heap:=h' }):wpAny w.8 A (x8 (.ref iq)) Q E s:=by
 obtain⟨j,c,g,b⟩:=id hI
 obtain⟨h,f,_,k,d⟩:=hT
 unfold x8
 refine qa (QJ (name:=qu "__next__") hI.typeIs ym (ba ym hI.typeIs ri ?_ (ph _)))
 show wpAny _ _ (field (.ref iq) 0 >>= _) _ _ s
 refine qa (sm c b (x := .ref tu) rfl ?_)
 show wpAny _ _ (if (jh tu==jt)=true then _ else _) _ _ s
 rw[if_neg (show ¬((jh tu==jt)=true) from zBf)]
 show wpAny _ _ (field (.ref iq) 1 >>= _) _ _ s
 refine qa (sm c b (x := .int i 0) rfl ?_)
 show wpAny _ _ (dm (.ref tu) >>= _) _ _ s
 refine qa (xo f d ?_)
 simp only[jj,hq]
 refine qa (zp (qa (Vq c b '*' ?_)))
 show wpAny _ _ ((newExc (.type "StopIteration") []) >>= _) _ _ _
 refine qa ?_
 simp only[newExc,newTuple]
 refine (qa (yq ?_ (by size_fits)))
 refine qa (m:=Vu _ _) (sk (a:=jt) (by first|rfl|(simp only[Vu];rfl)|skip) ?_)
 refine (yq ?_ (by size_fits))
 simp only[raiseNew]
 refine qa (wpAny_handled ?_)
 first|rw[show (A.in1).handled=none from hh]|rw[hh]
 refine (qa (wpAny_throw ?_).14)
 exact kE _ _ (((q4 ..).extBut.push _).push _) ⟨_,qq _ rfl,rfl⟩
end
theorem Draws.tup(hh:A.handled=none)(iq tu:Addr)(hne:tu≠iq)(its:Array Value):
  Draws prog w A iq [iq,tu] its.size (λi v=>its[i]?=some v) (λi h=>h.IsTupleIter iq tu i/\h.IsTuple tu its) where
 live:=λ_ _ q=>let ⟨o,ho,_⟩:=q.1;⟨o,ho⟩
 frame:=λ_ _ _ q c=>⟨let ⟨o,ho,r⟩:=q.1;⟨o,c iq '*' o ho,r⟩,let ⟨o,ho,r⟩:=q.2;⟨o,c tu '*' o ho,r⟩⟩
 item:=λi s Q E d q e=>by
  refine sP q.1 q.2 (x:=its[i]) (by simp[d]) λf a b => ?_
  exact e _ f s.toks (by simp[d]) ⟨a,let ⟨o,ho,r⟩:=q.2;⟨o,(b.2 tu hne).trans ho,r⟩⟩ b
 done:=λs Q E q g=>u0 hh q.1 q.2 '*' g
theorem zH(tu:Addr)(its:Array Value)(n:Nat)(dct:Option Addr)(sl:Array (Option Value)):
  Meets (Builtin.«enumerate.__new__» ⟨[.type "enumerate", .ref tu],[]⟩) (λ_ R s=>s.heap.get? tu=some {cls := .type "tuple", dict:=dct,data := .seq its n,slots:=sl} /\
   R (.ok (.ret (.ref (s.heap.push {cls := .type "tuple_iterator", data := .fields #[.ref tu, .int 0 0]}).objs.size)))
    {s with heap:=(s.heap.push {cls := .type "tuple_iterator", data := .fields #[.ref tu, .int 0 0]}).push {cls := .type "enumerate", data := .fields #[.none, .bool false, .ref s.heap.objs.size,rawInt 0, .none, .none]} }):=
 .of_wp λprog w A R s b=>by
  obtain⟨f,g,d,h,os⟩:=s;obtain⟨hl,b⟩:=b
  have e:=sub_enumerate
  have a:Heap.IsTuple (Shared.heap ⟨f,g,d,h,os⟩) tu its:=⟨_,hl,rfl,n,rfl⟩
  wp_walk using wpAny_loadPart' hl
  refine wpAny_stack_any λst=>wpAny_pure ?_
  split
  ·rename_i c _ _ _ _ _
   cases (c==gv "enumerate")
   ·wp_walk using wpAny_loadPart' hl,wpAny_pyIter_tuple a
    exact⟨_,rfl,b⟩
   ·wp_walk using wpAny_loadPart' hl,wpAny_pyIter_tuple a
    exact⟨_,rfl,b⟩
  ·wp_walk using wpAny_loadPart' hl,wpAny_pyIter_tuple a
   exact⟨_,rfl,b⟩
section
variable {E:Value->Shared->Prop}
theorem xK{its:Array Value}{Q:Value->Shared->Prop}(hT:s.heap.IsTuple tu its)(kQ:∀h',IsEnum h' '2' s.heap.objs.size 0 .none->h'.IsTupleIter s.heap.objs.size tu 0->h'.objs.size=s.heap.objs.size+2 ->
   (∀b o,s.heap.get? b=some o->h'.get? b=some o)->Q (.ref '2') {s with heap:=h' }):wpAny w.8 A (call (.type "enumerate") [.ref tu]) Q E s:=by
 obtain⟨⟨c,f,h,i⟩,hl,g,n,hd⟩:=hT
 have d:c = .type "tuple" := g
 have e:h = .seq its n:=hd
 subst d e
 refine callType_new F.called_enumerate '$' (F.typeCall_enumerate_1 _) (F.newCall_enumerate_1 _) (λobj=>F.args_object_init_2 obj _) F.entry_enumerate_new (zH tu its n f i) ⟨hl,?_⟩
 have a:(s.heap.push {cls := .type "tuple_iterator", data := .fields #[.ref tu, .int 0 0]}).objs.size=s.heap.objs.size+1:=xc ..
 show _/\_
 rw[a]
 have he:IsEnum ((s.heap.push {cls := .type "tuple_iterator", data := .fields #[.ref tu, .int 0 0]}).push {cls := .type "enumerate", data := .fields #[.none, .bool false, .ref s.heap.objs.size,rawInt 0, .none, .none]}) '2' s.heap.objs.size 0 .none:=by
  have q:=qq (s.heap.push {cls := .type "tuple_iterator", data := .fields #[.ref tu, .int 0 0]}) (o:={cls := .type "enumerate", data := .fields #[.none, .bool false, .ref s.heap.objs.size,rawInt 0, .none, .none]}) rfl
  rw[a] at q;exact q
 exact⟨⟨_,he,rfl⟩,kQ _ he ⟨_,qf _ (qq _ rfl),rfl,rfl⟩ (by rw[xc,a]) λb o x=>qf _ (qf _ x)⟩
theorem F.args_min4(a b c d:Value):argsOk "min" ⟨[a,b,c,d],[]⟩:=by unfold argsOk;kernel_rfl
theorem aBP{a b c d:Int}{t u x y:Tok}{Q:Value->Shared->Prop}(hh:A.handled=none)(kQ:∀(m:Int) (q:Tok) h' tk,(∀e o,s.heap.get? e=some o->h'.get? e=some o)->Q (.int m q) {s with heap:=h',toks:=tk}):
  wpAny w.8 A (call (.builtin "min") [.int a t, .int b u, .int c x, .int d y]) Q E s:=by
 have i:(toString "min" ++ toString ".loop" : String) = "min.loop" := by decide
 refine JF F.kind_min F.plain_min F.entry_min (F.args_min4 _ _ _ _) ?_
 show wpAny _ A.in1 (vh "min" ["key", "default"] 0 ⟨[],[]⟩ >>= _) _ _ _
 refine qa (sk (show vh "min" ["key", "default"] 0 ⟨[],[]⟩=pure ([none,none]:List _) from rfl) ?_)
 show wpAny _ A.in1 (newTuple [.int a t, .int b u, .int c x, .int d y] >>= _) _ _ s
 refine qa (yq ?_)
 have D:(s.heap.push {cls := .type "tuple", data := .seq #[.int a t, .int b u, .int c x, .int d y]}).IsTuple s.heap.objs.size (bo #[(a,t),(b,u),(c,x),(d,y)]):=⟨_,qq _ rfl,rfl,0,by simp[bo]⟩
 have f:(s.heap.push {cls := .type "tuple", data := .seq #[.int a t, .int b u, .int c x, .int d y]}).objs.size=s.heap.objs.size+1:=xc ..
 have key:wpAny w.8 A.in1 (Vf (.ref s.heap.objs.size)) (λC s₂=>C = .ref '2'/\s₂.heap.IsTupleIter '2' s.heap.objs.size 0/\s₂.heap.IsTuple s.heap.objs.size (bo #[(a,t),(b,u),(c,x),(d,y)]) /\
   s₂.heap.objs.size=s.heap.objs.size+2/\(∀e o,s.heap.get? e=some o->s₂.heap.get? e=some o)/\∃l k,s₂={s with heap:=l,toks:=k}) E {s with heap:=s.heap.push {cls := .type "tuple", data := .seq #[.int a t, .int b u, .int c x, .int d y]} }:=by
  refine wpAny_pyIter_tuple D ?_
  refine⟨by rw[f],⟨_,by rw[<- f];exact qq _ rfl,rfl,rfl⟩,D.push _,by rw[xc,f],λe o q=>qf _ (qf _ q),_,_,rfl⟩
 refine qa (km key (λC s₂ h₂ => ?_) λ_ _ e=>e)
 obtain⟨rfl,G,p,r,hold,l,k,rfl⟩:=h₂
 refine qa (yq ?_)
 rw[i]
 have W:=JV (prog:=prog) (w:=w) (A:=A.in1) hh '2' s.heap.objs.size (q3 (wd _)) (bo #[(a,t),(b,u),(c,x),(d,y)])
 have z:l.objs.size∉[s.heap.objs.size+1,s.heap.objs.size]:=λhm=>by
  have n:l.objs.size=s.heap.objs.size+2:=r
  rw[n] at hm
  simp at hm
 refine wpAny_pure ⟨plainId_quiet F.plain_min_loop _,codeAny_min_loop_first W _ (Jz (numAt #[(a,t),(b,u),(c,x),(d,y)]) (λ_ _=>Ju)) l.objs.size z (by simp[bo])
  (W.frame _ _ _ ⟨G,p⟩ λb _ o e=>qf _ e) (qq _ rfl) λv h' tk I H => ?_⟩
 obtain⟨m,q,J⟩:∃m q,v=cb m q:=by
  have j:v∈bo #[(a,t),(b,u),(c,x),(d,y)]:=Array.mem_of_getElem? I
  simp[bo] at j
  rcases j with h|h|h|h <;> exact⟨_,_,h⟩
 rw[J]
 refine kQ m q h' tk λe o g=>H e o (λhm => ?_) (q3 (qr (hold e o g))) (qf _ (hold e o g))
 have B:=qr g
 rw[qi] at hm
 exact absurd B (by rw[hm];exact Ja.mpr (zf _))
end
end PySem
namespace L2
open PySem PySem.Spec PyProof.Rows
section
theorem Inv.turnedT{T:Addr}{o:HO}(I:Inv X pins σ H s)(k:∀b ob,b∉ch->s.heap.get? b=some ob->h'.get? b=some ob)(hf:∀b∈ch,eR X pins H b)(hT:s.heap.objs.size<=T)(new:cM X.prog X.w (upd H T o) h' T o):Inv X pins σ (upd H T o) {s with heap:=h',toks:=t' }:=by
 have d:H T=none:=I.hok.fresh hT
 have f:∀b u,H b=some u->b∉ch:=λb u e z=>by rw[(hf b z).1] at e;cases e
 have ne:∀b u,s.heap.get? b=some u->b≠T:=λb u e=>q3 (qw (qr e) hT)
 refine I.step (g':=s.gens) (d':=s.drawn) (ch:=ch) (λb p => ?_) (λb ob _ _ a e _=>k b ob a e) (λb ob _ _ a e _=>⟨ob.slots,k b ob a e⟩) (λb ob _ e n=>by rw[aG (ne b ob e)];exact n)
  (λb ob a e=>⟨ob,k b ob a e⟩) (λb xs e=>by rw[aG (aT e d)];exact e) (λb ob u e=>by rw[aG (aT e d)];exact e) (λb ps e=>⟨#[],by rw[aG (aT e d),e];simp⟩) (λm hm => ?_) (λb u e => ?_) I.bare
 ·obtain⟨f0,f1,f2,h,f4,i⟩:=hf b p
  exact⟨h,f1,f4,i⟩
 ·obtain⟨ob,l,j,g,r⟩:=hm
  exact⟨ob,l,j,k _ ob (λz=>(hf _ z).2.1 rfl) g,r⟩
 ·by_cases z:b=T
  ·subst z;rw[aR] at e;cases e;exact new
  ·rw[aG z] at e
   refine (I.hok b u e).stay (λc v a q=>k c v ?_ q) (λc q=>by rw[aG (aT q d)];exact q) λc xs q=>by rw[aG (aT q d)];exact q
   rcases a with y|y
   ·rw[y];exact f b u e
   ·exact f c _ y
theorem Inv.turnedL(I:Inv X pins σ H s)(k:∀b ob,b∉ch->s.heap.get? b=some ob->h'.get? b=some ob)(hf:∀b∈ch,eR X pins H b):Inv X pins σ H {s with heap:=h',toks:=t' }:=by
 have l:∀b u,H b=some u->b∉ch:=λb u e z=>by rw[(hf b z).1] at e;cases e
 refine I.step (g':=s.gens) (d':=s.drawn) (ch:=ch) (λb j => ?_) (λb ob _ _ a e _=>k b ob a e) (λb ob _ _ a e _=>⟨ob.slots,k b ob a e⟩) (λ_ _ _ _ n=>n)
  (λb ob a e=>⟨ob,k b ob a e⟩) (λ_ _ e=>e) (λ_ _ _ e=>e) (λb ps e=>⟨#[],by rw[e];simp⟩) (λm hm => ?_) (λb u e => ?_) I.bare
 ·obtain⟨f0,f1,f2,f,f4,g⟩:=hf b j
  exact⟨f,f1,f4,g⟩
 ·obtain⟨ob,i,h,d,r⟩:=hm
  exact⟨ob,i,h,k _ ob (λz=>(hf _ z).2.1 rfl) d,r⟩
 ·refine (I.hok b u e).stay (λc v a q=>k c v ?_ q) (λ_ q=>q) λ_ _ q=>q
  grind
def Iet(K:qg)(a:Addr):It:=⟨λi H=>∃xs x,SqT K H a xs/\xs[i]?=some x,
 λi H v H'=>∃T x,H T=none/\v = .ref T/\H'=upd H T (.tup [.int (i:Int),x])/\∀xs,SqT K H a xs->xs[i]?=some x,λi H=>∃xs,SqT K H a xs/\xs.length=i⟩
theorem xY{K:qg}(a e it:Addr)(hei:e≠it):
  Turn P w K (.Tuple elts kk tp) (Iet K a) [e,it] e (λi h=>(∃old,IsEnum h e it (i:Nat) old)/\h.IsTupleIter it a i) where
 mem:=by simp
 obj:=λi h st b f=>by
  obtain⟨⟨old,he⟩,o,t,B,hd⟩:=st
  grind
 keep:=λi h h' st k=>by
  obtain⟨⟨old,he⟩,o,t,r⟩:=st
  exact⟨⟨old,k e '*' _ he⟩,o,k it '*' o t,r⟩
 item:=by
  intro X O hw F B i pins s σ H E I hf st S
  subst O hw F
  obtain⟨⟨old,he⟩,hit⟩:=st
  obtain⟨xs,x,v,n⟩:=S
  obtain⟨c,D,pt,hz⟩:=I.tuple v
  have d:s.heap.IsTuple a c.toArray:=pt
  have l:a≠it:=λz=>by
   obtain⟨o,U,T,_⟩:=d
   obtain⟨o2,e2,Z,_⟩:=hit
   grind
  have N:e∉[it,a]:=λz=>by
   rcases jb.mp z with y|y
   ·exact hei y
   ·rw[qi] at y
    obtain⟨o,U,T,_⟩:=d
    grind
  have Dr:=Draws.tup (prog:=X.prog) (w:=X.w) (A:=X.A.in1) (I.ok.hd B) it a l c.toArray
  have L:i<c.toArray.size:=by rw[qc,<- D.length];exact (n.5).1
  refine QI Dr he ⟨hit,d⟩ L hei N λy h1 C hy t J hT aa Y => ?_
  refine⟨_,rfl,wpAny_letOwnedTupleGo_enum t λp M j => ?_⟩
  obtain⟨u,hu,ru⟩:=D.get n
  have ey:y=u:=by
   grind
  subst ey
  have G:s.heap.objs.size≠e:=y5 (qr he)
  have g:p.get? s.heap.objs.size=some {cls := .type "tuple", data := .seq #[.int (i:Int) C,y]}:=(j.2 _ G).trans hT
  have k2:∀b ob,b∉[e,it]->s.heap.get? b=some ob->p.get? b=some ob:=λb ob f q=>by
   have V:b≠e:=λz=>f (by simp[z])
   have b2:b≠it:=λz=>f (by simp[z])
   exact (j.2 b V).trans (Y b ob V b2 q)
  show '!'
  have R:H s.heap.objs.size=none:=I.hok.fresh (qo _)
  refine⟨.ref s.heap.objs.size,_,I2,rfl,⟨s.heap.objs.size,x,R,rfl,rfl,λab q' => ?_⟩,⟨⟨_,by simpa using M⟩,?_⟩,λb f => ?_⟩
  ·rw[<- I.tuple_inj v q'];exact n
  ·obtain⟨⟨o,m,r3⟩,_⟩:=J
   exact⟨o,(j.2 it (vi hei)).trans m,r3⟩
  ·rw[aG (λz => ?_)]
   ·exact (hf b f).1
   ·rcases jb.mp f with y|y
    ·grind
    ·rw[qi] at y
     obtain⟨o,m,_⟩:=hit
     exact absurd (qr m) (by rw[<- y,z];exact vm _)
 done:=by
  intro X O hw F B i pins s σ H E I hf st S
  subst O hw F
  obtain⟨⟨old,he⟩,hit⟩:=st
  obtain⟨xs,v,hl⟩:=S
  obtain⟨c,D,pt,hz⟩:=I.tuple v
  have d:s.heap.IsTuple a c.toArray:=pt
  have l:a≠it:=λz=>by
   obtain⟨o,U,T,_⟩:=d
   obtain⟨o2,e2,Z,_⟩:=hit
   grind
  have Dr:=Draws.tup (prog:=X.prog) (w:=X.w) (A:=X.A.in1) (I.ok.hd B) it a l c.toArray
  have R:c.toArray.size=i:=by rw[qc,<- D.length];exact hl
  subst R
  refine QV Dr he ⟨hit,d⟩ λp n=>⟨rfl,I.turnedL (t':=s.toks) (ch:=[it]) (λb ob f q=>n b ob (λz=>f (by simp[z])) q) λb f=>hf b ?_⟩
  grind
 self:=λA i s Q E st h=>by
  obtain⟨⟨old,he⟩,_⟩:=st
  exact dr he h
def aJA(K:qg)(ta:TA):TI:=λσ H R=>ta σ H λvs H1=>∃a,vs=[.ref a]/\(∃xs,SqT K H1 a xs)/\R (Iet K a) H1
theorem aEB{a:Expr}{ta:TA}{p pos:Pos}(hg:Gl X "enumerate")(hm:X.mg "enumerate" = none)(hv:ke "enumerate" = some (.type "enumerate"))(ha:PA X [a] ta)(hs:starEach [a] X.env=[(false,eval a X.env)]:=by rfl):
  PI X (.Tuple elts kk tp) (.Call (.Name "enumerate" p) [a] [] pos) (aJA X.K ta):=by
 intro pins s σ H R I h
 refine Call_ (iJ I hg hm hv (x6 (thn (ha pos pins s σ H _ I h) λus s1 ⟨vs,H1,I1,r1,n⟩ => ?_) hs rfl))
 obtain⟨b,e,⟨xs,i⟩,q⟩:=n
 subst e
 obtain⟨u,rfl,l⟩:=vals1 r1
 cases l
 obtain⟨f,r,pt,o⟩:=I1.tuple i
 refine xK (show s1.heap.IsTuple b f.toArray from pt) λm he j k g => ?_
 have I2:Inv X pins σ H1 {s1 with heap:=m}:=I1.kept (t':=s1.toks) g
 refine dr he ?_
 refine⟨_,[s1.heap.objs.size+1,s1.heap.objs.size],_,Iet X.K b,H1,rfl,I2,xY b _ _ (Jm _),⟨⟨_,he⟩,j⟩,λc d => ?_,q⟩
 rcases jb.mp d with rfl|d
 ·exact I1.fpOk (zf _) (I1.hok.fresh (zf _))
 ·rw[qi] at d
  subst d
  exact I1.fpOk (qo _) (I1.hok.fresh (qo _))
theorem aAT(hc:X.calm=true):dB X (.builtin "min") (λxs H Q=>∃a b c d:Int,xs=[.int a, .int b, .int c, .int d]/\∀m:Int,Q (.int m) H):=by
 show '%'
 obtain⟨a,b,c,d,rfl,q⟩:=h
 cases r with
 |cons r1 r =>
  cases r with
  |cons r2 r =>
   cases r with
   |cons r3 r =>
    cases r with
    |cons r4 r =>
     cases r
     obtain⟨t1,rfl⟩:=r1
     obtain⟨t2,rfl⟩:=r2
     obtain⟨t3,rfl⟩:=r3
     obtain⟨i,rfl⟩:=r4
     exact aBP (I.ok.hd hc) λm f j g e=>⟨.int m,H,I.kept (t':=g) e,⟨f,rfl⟩,q m⟩
end
end L2
namespace Z
open PySem L2
section
variable {pos:Pos}{a b:Expr}{rest:List Expr}
theorem GE.mono{k':D->Mem->Prop}(h:GE X e Γ M k)(f:∀d M1,k d M1->k' d M1):GE X e Γ M k':=λσ G H Q en rl q=>h σ G H Q en rl λv G' H' d M' s e hk=>q v G' H' d M' s e (f d M' hk)
theorem aBX(h:GE X a Γ M λd M1=>∃c,d = .bl c/\(c=false->GE X (.BoolOp .Or (b::rest) pos) Γ M1 λd2 M2=>(∃c2,d2 = .bl c2)/\M2=M1)/\∀c',k (.bl c') M1):GE X (.BoolOp .Or (a::b::rest) pos) Γ M k:=by
 refine aLC (h.mono λd M1 ⟨c,g,i,f⟩=>⟨c,g,?_⟩)
 cases c with
 |true=>rw[if_pos rfl];exact f true
 |false=>rw[if_neg zBf];exact (i rfl).mono λd2 M2 ⟨⟨c2,e⟩,em⟩=>by subst e em;exact f c2
theorem aF1{K:Fg}{i1 i2 i3 i4:Int}(h:∀m:Int,k (.int m) M):OpN K (λxs H Q=>∃a b c d:Int,xs=[.int a, .int b, .int c, .int d]/\∀m:Int,Q (.int m) H) [.int i1, .int i2, .int i3, .int i4] M k:=λG H vs Q i e q=>by
 obtain⟨v1,r,rfl,f,e⟩:=bF e
 obtain⟨v2,r,rfl,g,e⟩:=bF e
 obtain⟨n,v4,rfl,j,l⟩:=dens2 e
 exact⟨i1,i2,i3,i4,by rw[f.int_,g.int_,j.int_,l.int_],λm=>q _ _ _ _ _ i.10 cC (h m)⟩
noncomputable def dR(ds:List D):List D:=ds.mapIdx λi d => .tup [.int (i:Int),d]
theorem aDE{K:Fg}{a:Addr}{vs:List V}(s:SqT K G0 a vs)(dn:Dens K G0 ds vs):YD K (Iet K a) (dR ds) G0 where
 go:=λi G H M sg b h=>by
  have g:i<vs.length:=by rw[<- dn.len];simpa[dR] using h
  exact⟨vs,vs[i],R.bW b.same (R.bW sg s),by simp[g]⟩
 yld:=λi G H M x H' sg b h y=>by
  obtain⟨T,v,j,rfl,rfl,f⟩:=y
  have c:=f vs (R.bW b.same (R.bW sg s))
  obtain⟨d,hd,e⟩:=dn.get' c
  have st:=b.new (o := .tup [.int (i:Int),v]) j
  exact⟨_, .tup [.int (i:Int),d],st,by simp[dR,hd],fY (SqT.of aR) (bO cC (bO ((e.up sg).up st.gg) bT))⟩
 stop:=λi G H M sg b h=>⟨vs,R.bW b.same (R.bW sg s),by rw[<- dn.len];simpa[dR] using h.symm⟩
theorem aF0{p:Pos}(hm:X.mg "enumerate" = none)(hv:ke "enumerate" = some (.type "enumerate"))(h:GA X [a] Γ M λds M1=>∃es,ds=[.tup es]/\ki (dR es) M1)(hg:Gl X "enumerate" := by rfl)(hs:starEach [a] X.env=[(false,eval a X.env)]:=by rfl):
  GI X (.Tuple elts kk tp) (.Call (.Name "enumerate" p) [a] [] pos) Γ M ki:=λσ G H Rr i e q=>by
 refine pB (aEB hg hm hv pUA hs) ?_
 refine h σ G H _ i e λvs G1 H1 ds M1 s1 g ⟨es,j,d⟩ => ?_
 subst j
 obtain⟨v,rfl,c⟩:=dens1 g
 obtain⟨b,ws,rfl,sq,f⟩:=c.tup_
 exact⟨b,rfl,⟨ws,R.bW s1.rel.same sq⟩,q _ _ _ _ _ s1 (aDE sq f) d⟩
end
end Z
namespace Z
open PySem L2
def Fo(P:Program)(w:World)(K:qg)(mg:Str->Option Value)(base:Heap)(x:Str)(st:Stmt)(ps:List Str)(n:Nat)(c:Ct):Prop:=∃f fd,R.Df K mg x st ps f fd/\FnOk P w K mg base CX0 n f fd ps (spZ K c)
theorem aU{pos p:Pos}{ps:List Str}{c:Ct}(g:Fo X.prog X.w X.K X.mg X.base x st ps n c)(hr:Room j X.A)(h:GA X (e::es) Γ M λds M1=>c ds M1 k)(hn:n<=j:=by decide)(hg:Gl X x:=by rfl)(hdb: '5'=false:=by decide)(he:starEach (e::es) X.env=(false,eval e X.env)::starEach es X.env:=by rfl)(hpl:(yg pos X.env.28).any (·.1)=false:=by rfl):
  GE X 'A' Γ M k:=by
 obtain⟨f,fd,D,G⟩:=g
 exact aG6 G (hr.mono hn) D.m D.F.kp D.b h hg hdb he hpl
end Z
namespace Q
open PySem L2 Z
section
variable {K:qg}
abbrev zl0:List Str:=["_law_feed_here", "_law_way_here", "_law_k", "_law_j", "_law_wide", "_law_high"]
abbrev zl1:List Str:=["_law_xs", "_law_ys", "_law_rows"]
abbrev zl2:List Str:=["_law_lines_here", "_law_some"]
abbrev zl3:List Str:=["_law_feed_here", "_law_many"]
abbrev zl4:List Str:=["_law_feed_here", "_law_most"]
abbrev zl5:List Str:=["_law_one", "_law_other"]
abbrev zl6:List Str:=["_law_script", "_law_k"]
abbrev zl7:List Str:=["_law_rows"]
theorem zSc{ps:List Str}(h:FnScope N ps sc:=by exact⟨rfl,rfl,rfl,by decide +kernel,rfl,by decide +kernel,by decide +kernel⟩):FnScope N ps sc:=h
theorem jZ:FnScope ["_law_script", "_law_k", "_law_cell", "_law_great"] zl6 (aK oU):=zSc
abbrev aAJ(P w K mg z):=Fo P w K mg z "_law_feed" oU zl6 1 aKR
theorem aFM(Df:R.Df K mg "_law_feed" oU zl6 f fd)(T:Bt mg):aAJ P w K mg z:=by
 refine⟨f,fd,Df,bP Df jZ (λds M k h => ?_) (λq A outer s H E r ds M k h => ?_)⟩
 ·obtain⟨ns,i,rfl,_⟩:=h;rfl
 obtain⟨ns,i,rfl,n,j,e⟩:=h
 refine aA (aI 2 jZ.nd (z6 (aA (sR (λΓ' M'=>M'=M/\∃c:Int,Γ'=[some (.fl (ns.map .int)),some (.int i),some (.int c),none]) ?_ ?_))))
 ·refine bA (aQ gA (aO [0] rfl (cH (.fl _) (eH ⟨_,rfl,(ite2 (λb => ?_) (λb => ?_))⟩))).25.16)
  ·have a:=of_decide_eq_true b
   rw[zLm] at a
   obtain⟨z,m⟩:=aDX (ns:=ns) n a
   exact aE (aI 2 jZ.nd (aW (.fl _) m ⟨rfl,_,rfl⟩).16.15.11)
  ·exact aZ ⟨rfl,_,rfl⟩
 rintro Γ' M' ⟨rfl,c,rfl⟩
 refine aA (aI 3 jZ.nd (aX tV T.abs l0 (aO [2] rfl (aBI (aA (sR (λΓ' M1=>M1=M'/\∃g:Int,0<=g/\Γ'=[some (.fl (ns.map .int)),some (.int i),some (.int c),some (.int g)]) ?_ ?_))))))
 ·refine bA (aQ gA (aB 3 rfl (b6 [] rfl ⟨⟨by decide,by decide,by decide⟩,trivial⟩ (eH ⟨_,rfl,(ite2 (λb => ?_) (λb => ?_))⟩))))
  ·exact aE (aI 3 jZ.nd (z6 ⟨rfl,0,by omega,rfl⟩))
  ·exact aZ ⟨rfl,_,by split <;> omega,rfl⟩
 rintro Γ' M' ⟨rfl,g,o,rfl⟩
 refine aE (aV (eE ?_))
 have hm:=bb c (show (2147483399:Int)≠0 by decide)
 have l:=za c (show (0:Int)<2147483399 by decide)
 refine aEN [3,2,1] rfl ⟨(show (0:Int)<_ by first|decide|omega),(.inl (by first|exact .inl ⟨by omega,by omega⟩|exact .inr ⟨by omega,by omega⟩)),(.inl (by first|exact .inl ⟨by omega,by omega⟩|exact .inr ⟨by omega,by omega⟩)),(show (0:Int)<_ by first|decide|omega),trivial⟩ ⟨(show 3<=sizeLine by decide),λp d=>(e p _ d ((Le.refl _).upd d) ⟨g,_,0,aD,o,?_,?_,by omega,by omega⟩)⟩
 ·exact bb _ '$'
 ·exact za _ '$'
theorem iE:FnScope ["_law_feed_here", "_law_many", "_law_digit", "_law_count", "_law_mixed"] zl3 (aK jL):=zSc
abbrev k6(P w K mg z):=Fo P w K mg z "_law_next" jL zl3 1 aK0
theorem aGC(Df:R.Df K mg "_law_next" jL zl3 f fd):k6 P w K mg z:=by
 refine⟨f,fd,Df,bP Df iE (λds M k h => ?_) (λu A outer s H E x ds M k h => ?_)⟩
 ·obtain⟨p,n,b,rfl,_⟩:=h;rfl
 obtain⟨p,n,b,rfl,e,j,⟨g,m,st,c,q,hm,d,v,r⟩,y,o⟩:=h
 refine aA (bA (aQ aLN (z6 (aW (.mt c) rfl (z6 (eH ⟨_,rfl,(ite2 (λl => ?_) (λl => ?_))⟩)))).15.11))
 ·exact aA (aI 2 iE.nd (bB tE (z6 (aW (.mt c) rfl (kC (show (0:Int)<_ by first|decide|omega) (aA (eA (bB wN (z6 (aW (.mt c) rfl (kC ⟨e,j⟩ (aA4 (z6 ⟨p,0,0,_,rfl,rfl,c,rfl,(aE (aV (o _ _ (bb _ '!') (za _ e) ⟨_,m,st,aD,Int.ediv_nonneg q '!',hm,d,v,by omega⟩ (cF.refl p M).upd (λa i=>aF i)).21))⟩).15)).16)).15.11)))).16)).15.11))
 ·refine aZ (aA (eA (bB eK (z6 (aW (.mt c) rfl (z6 (dX (aA4 (z6 ⟨p,2,2,_,rfl,rfl,c,rfl,(aA (aI 3 iE.nd (z6 (aW (.mt aD) rfl (aA (aI 4 iE.nd ?_)))).15.11))⟩).15))))).15.11)))
  have t : -(2^64)<st+1/\st+1<2^64:=by omega
  exact bB tE (bB eK (bB eK (z6 (aW (.mt aD) rfl (b6 [3,3] rfl ⟨(.inl (.inr t)),(.inl (.inl ⟨by decide,by decide⟩)),trivial⟩ (dX (b6 [3] rfl ⟨(.inl (.inl ⟨by decide,by decide⟩)),trivial⟩ (dX (z6 (kC (show (0:Int)<_ by first|decide|omega) (aA (aI 4 iE.nd (b6 [4,4,4,3] rfl ⟨(show (0:Int)<_ by first|decide|omega),(.inl (.inl ⟨by decide,by decide⟩)),(.inl (.inl (R.qI _ '$' '$'))),trivial⟩ (aA (aI 4 iE.nd (b6 [4,4,4] rfl ⟨(show (0:Int)<_ by first|decide|omega),(.inl (.inl ⟨by decide,by decide⟩)),(.inl (.inl (R.qI _ '$' '$'))),trivial⟩ (aE (aV (b6 [4,1] rfl ⟨e,⟨by decide,by decide⟩,trivial⟩ (o _ _ (bb _ '!') (za _ e) ⟨g,m,st+1,aD,q,hm,d,by omega,by omega⟩ (cF.refl p M).upd (λa i=>aF i))))))))))))))))))).15.11))
theorem rD:FnScope zl5 zl5 (aK kM):=zSc
abbrev tH(P w K mg z):=Fo P w K mg z "_law_shared" kM zl5 1 aGK
theorem aAD(Df:R.Df K mg "_law_shared" kM zl5 f fd)(T:Bt mg):tH P w K mg z:=by
 refine⟨f,fd,Df,bP Df rD (λds M k h => ?_) (λi A outer s H E j ds M k h => ?_)⟩
 ·obtain⟨a,b,rfl,_⟩:=h;rfl
 obtain⟨a,b,rfl,g⟩:=h
 refine aA (n5 (λm Γ' M'=>M'=M/\∃x y:Int,Γ'=[some (.int x),some (.int y)]/\va x y=va a b/\m=y.natAbs) (n:=b.natAbs) ⟨rfl,a,b,rfl,rfl,rfl⟩ ?_)
 rintro m Γ' M' ⟨rfl,x,y,rfl,e,rfl⟩
 refine aQ gY (z6 (jN ⟨_,rfl,(ite2 (λd => ?_) (λd => ?_))⟩)).16
 ·have c:y≠0:=λz=>by subst z;simp at d
  refine aE (aH6 0 1 rD.nd '$' (bB aFF (kC c (aJ ⟨_,_,rfl,_,Num.aF5 x y c,rfl,_,_,rfl,?_,rfl⟩)).16.15).4.16.4)
  rw[Num.aDV];exact e
 ·have c:y=0:=by simpa using d
  subst c
  refine aE (aV (aX tV T.abs l0 (aO [0] rfl (aBI ?_))))
  rw[R.aFU,e]
  exact g
theorem d8:FnScope ["_law_feed_here", "_law_many", "_law_bottom", "_law_most", "_law_at", "_law_found", "_law_k", "_law_by"] zl3 (aK mK):=zSc
abbrev vQ(P w K mg z):=Fo P w K mg z "_law_lines" mK zl3 2 aJE
theorem aCZ(Df:R.Df K mg "_law_lines" mK zl3 f fd)(aL1:k6 P w K mg z)(aL2:tH P w K mg z)(T:Bt mg):vQ P w K mg z:=by
 refine⟨f,fd,Df,bP Df d8 (λds M k h => ?_) (λak A outer s H E v ds M k h => ?_)⟩
 ·obtain⟨p,many,b,rfl,_⟩:=h;rfl
 obtain⟨p,many,b,rfl,ae,aj,ab,hb,hk⟩:=h
 refine aA (aI 2 d8.nd (aN [] rfl (aU aL1 v (aO [0] rfl ⟨p,_,_,rfl,by decide,by decide,ab,by omega,λz1 M1 X S N G af => ?_⟩))).11)
 obtain⟨bt,U,n⟩:=aG2 X S
 refine aW '0' U (aA (aI 3 d8.nd (b6 [] rfl ⟨⟨by decide,by decide,by decide⟩,trivial⟩ (aU aL1 v (aO [0] rfl ⟨p,_,_,rfl,by decide,by decide,N,by omega,λz2 M2 aa Y r l B => ?_⟩))).11))
 obtain⟨most,V,ac,ad⟩:=aBK aa Y
 refine aW '0' V (aA (aI 4 d8.nd (bB iR (aU aL1 v (aO [0] rfl ⟨p,_,_,rfl,by decide,by decide,r,by omega,λz3 M3 ah ai C u ag => ?_⟩)))))
 refine z6 (dX (aA (aI 5 d8.nd (eE (aJ ⟨(show 0<=sizeLine by decide),λa O => ?_⟩)))))
 have g:a≠p:=C.ne O
 have q:M a=none:=by
  cases e:M a with
  |none=>rfl
  |some o=>rw[u a o g (l a o g (G a o g e))] at O;cases O
 refine aA (cQ (cW T.range (aO [1] rfl ⟨_,rfl,by omega,by omega,?_⟩)))
 refine⟨λi Γ' M'=>∃(t:Int) (c:List Int) (W L:Option D),Γ'=[some (.mt p),some (.int many),some (.int bt),some (.int most),some (.int t),some (.mt a),W,L]/\M' a=some (.lst (c.map (c8 bt)))/\FdM M' p (b+3+i)/\cF p M M' /\
  c.length=i/\c.Pairwise (· < ·)/\(∀x∈c, -20<=x/\x<t) /\ -20<=t/\t<=20+100000000*i,?_,?_,?_⟩
 ·refine⟨z3-20,[],none,none,rfl,aD,(C.new g).mono '!',((G.trans l).trans u).new q,rfl, .nil,λx j=>(nomatch j),by omega,by omega⟩
 ·rintro i d Γ' M' hd ⟨t,c,W,L,rfl,I,J,hB,hl,Z,m,t0,t1⟩
  obtain⟨hi,rfl⟩:=bS hd
  have Q:i<=20:=by omega
  refine bV 6 d8.nd (aA (aI 7 d8.nd (aU aL2 v (aO [4,2] rfl ⟨_,_,rfl,?_⟩))))
  have hg:=q8 (a:=t) n
  refine aA (dC (eC jy j1 j0 cS (aB 5 rfl (⟨⟨rfl,_,I⟩,(aEN [4,7,2,7] rfl ⟨hg,hg,trivial⟩ (cZ I (by rw[zLm,hl];exact jg Q '$') (aE (aI 4 d8.nd (bB eK (aN [4] rfl (aU aL1 v (aO [0,3] rfl ⟨p,most,_,rfl,by omega,by omega,J.new g,by omega,λz M2 z0 z1 r l B => ?_⟩))))))))⟩))))
  refine dX ⟨_,c++[t],_,_,rfl,?_,r.mono '!',(hB.new q).trans l,by rw[qe,hl];rfl,?_,?_,by omega,by omega⟩
  ·rw[B a g,aD,qv];rfl
  ·rw[xh]
   exact⟨Z,by simp,λx j y hy=>by rw[qi] at hy;rw[hy];exact (m x j).2⟩
  ·intro x j
   rcases qp.mp j with j|j
   ·have:=m x j;omega
   ·rw[qi] at j;omega
 ·rintro Γ' M' ⟨t,c,W,L,rfl,I,J,hB,hl,Z,m,t0,t1⟩
  rw[bC] at J hl t1
  refine aE (aV (aB 5 rfl (hk a M' bt c q I (J.mono '!') hB hl ⟨n,Z,λx j => ?_⟩)))
  have:=m x j
  omega
end
end Q
namespace Z
open PySem L2
theorem aIP{K:Fg}{i:Int}(q1:Seq M d1 t ds)(h:∃d,atI ds i=some d/\k d M):Op2 K (rIx K) d1 (.int i) M k:=by
 obtain⟨d,e,hk⟩:=h
 exact aW q1 e hk
end Z
namespace Q
open PySem L2 Z
theorem pick5b{a b c d e:Bool}{z:Int}{P:D->Prop}(h0:0<=z)(h1:z<5)(h:∀t,P (.bl t)):∃x,atI ([D.bl a, .bl b, .bl c, .bl d]++[.bl e]) z=some x/\P x:=by
 have:z=0\/z=1\/z=2\/z=3\/z=4:=by lia
 rcases this with rfl|rfl|rfl|rfl|rfl
 ·exact⟨_,rfl,h _⟩
 ·exact⟨_,rfl,h _⟩
 ·exact⟨_,rfl,h _⟩
 ·exact⟨_,rfl,h _⟩
 ·exact⟨_,rfl,h _⟩
theorem aJH{z:Int}(h0:0<=z)(h1:z<5):∃q:Int,atI [D.int 14, .int 14, .int 14, .int 4, .int 14] z=some (.int q)/\0<q/\q<=14:=by
 have:z=0\/z=1\/z=2\/z=3\/z=4:=by lia
 rcases this with rfl|rfl|rfl|rfl|rfl
 ·exact⟨_,rfl,by decide,by decide⟩
 ·exact⟨_,rfl,by decide,by decide⟩
 ·exact⟨_,rfl,by decide,by decide⟩
 ·exact⟨_,rfl,by decide,by decide⟩
 ·exact⟨_,rfl,by decide,by decide⟩
theorem aDG(h:n<=1000):("." : Str).length*((n:Int)).toNat<=sizeLine:=by
 have e:("." : Str).length=1:=by decide +kernel
 rw[e,jj,QH]
 exact R.bQ '#'
theorem oB(h:i<zs.length+2):∃u,(R.framed zs)[i]?=some u:=⟨(R.framed zs)[i]'(by rw[R.oZ];exact h),by simp[R.oZ,h]⟩
theorem qA{z:Str}(h:zs[i]?=some z):atI (zs.map D.str) (0+(i:Int))=some (.str z):=by
 rw[vr];exact bU (by rw[qm,h];rfl)
theorem aCS{z:Str}(h:zs[i+1]?=some z):atI (zs.map D.str) (0+(i:Int)+1)=some (.str z):=by
 rw[vr];exact bU (j:=i+1) (by rw[qm,h];rfl)
noncomputable def iM(l:List Nat):List D:=l.map λ(i:Nat)=>D.int (i:Int)
theorem sZ{l:List Nat}{d:D}(h:(iM l)[i]?=some d):∃j,l[i]?=some j/\d = .int (j:Int):=bK h
theorem sH(l:List Nat):(iM l).length=l.length:=by simp[iM]
theorem aJG:(qz (zs.length+1)).filter (λi => !decide ((R.framed zs)[i]?=(R.framed zs)[i+1]?))=R.chg zs:=by
 unfold R.chg
 cases zs with
 |nil=>rfl
 |cons z zr=>rfl
theorem m6{p:Nat->Bool}:(qz (n+1)).filter p=if p n=true then (qz n).filter p++[n] else (qz n).filter p:=by
 rw[yf,List.filter_append]
 grind
theorem zX{α:Type}(l:List α):cutD l none (-1).3=l.dropLast:=by
 unfold cutD
 have b:HT.sIx l.length 0 none=0:=rfl
 have a:HT.sIx l.length l.length (-1).3=l.length-1:=by
  show (if (-1:Int)<0 then ((-1:Int)+(l.length:Int)).toNat else min (-1:Int).toNat l.length)=l.length-1
  grind
 rw[b,a,n4,Ko,List.dropLast_eq_take]
theorem rP(l:List Nat):(iM l).dropLast=iM l.dropLast:=by simp[iM,List.map_dropLast]
theorem nN{α β:Type}{f:α->β}{l:List α}{x:α}(h:l[i]?=some x):(l.take (i+1)).map f=(l.take i).map f++[f x]:=by
 rw[take_snoc h,qv];rfl
theorem at_D{xs:List D}(h:j<xs.length):atI xs (j:Int)=some (xs.getD j .non):=bU (by simp[h])
theorem vR(l:List Str)(h:∀z∈l,z.length=1):((·.length).13).sum=l.length:=by
 induction l with
 |nil=>rfl
 |cons a l ih =>
  grind
theorem aCT(zs:List Str)(j:Nat):Qw xm (zs.map λz=>(⟨#[R.atS z j]⟩:Str))=R.ofL (zs.map (R.atS · j)):=by
 have:=R.vP (zs.map (R.atS · j))
 rw[wa] at this
 exact this
theorem aFH(h:j<zs.length):atI ((R.framed zs).map D.str) ((j:Int)+1)=some (.str (zs.getD j xm)):=by
 refine bU (j:=j+1) ?_
 rw[qm,R.lF h,zGe h,zGd,zGe h]
 rfl
theorem qF:∀(zs:List Str) (n:Nat),okDs n (zs.map D.str)=true
 |[],_=>rfl
 |z::zs,n=>by rw[jo];simp only[okDs,okD,JK];exact qF zs n
theorem aGB(zs:List Str):okD 2 (.lst (zs.map D.str))=true:=by simp only[okD];exact qF zs 1
theorem eq_nil:eqD '8' (.lst [])=decide (ds=[]):=by
 simp only[eqD]
 cases ds with
 |nil=>simp[eqDs]
 |cons d ds=>simp[eqDs]
theorem map_nil{α β:Type}{f:α->β}{l:List α}(h:decide (l.map f=[])=true):l=[]:=by
 simp_all
end Q
namespace R
open PySem L2
theorem units_le{k:Nat}(hr:Room k A)(h:n<=64:=by decide):A.units+n<cLine:=by have:=hr.units;lia
end R
namespace Q
open PySem L2 Z
section
variable {K:qg}{z:Heap}
theorem nU:FnScope ["_law_feed_here", "_law_way_here", "_law_k", "_law_j", "_law_wide", "_law_high", "_law_edge", "_law_known"] zl0 (aK lX):=zSc
abbrev vD(P w K mg z):=Fo P w K mg z "_law_is_in" lX zl0 2 aLL
theorem aD4(Df:R.Df K mg "_law_is_in" lX zl0 f fd)(aL1:k6 P w K mg z)(T:Bt mg):vD P w K mg z:=by
 refine⟨f,fd,Df,bP Df nU (λds M k h => ?_) (λD A outer s H E u ds M k h => ?_)⟩
 ·obtain⟨p,b,way,i,j,wide,high,rfl,_⟩:=h;rfl
 obtain⟨p,b,way,i,j,wide,high,rfl,O,N,e,V,G,U,L,J,v,B,t⟩:=h
 refine aA (bA (aQ gA (z6 (eH ⟨_,rfl,(ite2 (λhw => ?_) (λhw => ?_))⟩)).16))
 ·refine aE (aV (cR aLO (aU aL1 u (aO [0] rfl ⟨p,_,_,rfl,by decide,by decide,e,by omega,λC M1 r n d g o => ?_⟩))))
  exact aB 1 rfl (eH (t _ _ d g))
 refine aZ ?_
 have y:4<=way:=by
  have:¬way<4:=λz=>hw z.29
  omega
 refine aA (aI 6 nU.nd (aX (aAT rfl) T.min BMin (aO [2,3,4,2,5,3] rfl (aF1 λedge=>(aA (aI 7 nU.nd (eE (cR b7 (b6 [6] rfl ',' (z6 (cY (cR b7 (b6 [2,3] rfl ',' (z6 (cY (aBX (cR b7 (b6 [3] rfl ',' (z6 (cY ⟨_,rfl,λ_ => ?_,λS => ?_⟩))))).4)))).4)))).4)))))))
 ·exact oW (cR b7 (b6 [4,3] rfl ⟨(.inl (.inl ⟨by omega,by omega⟩)),(show (0:Int)<2 by decide),⟨by decide,by decide⟩,trivial⟩ (cY (⟨⟨_,rfl⟩,rfl⟩))).21)
 refine aC (eO (aJ ⟨(show 4<=sizeLine by decide),λa m => ?_⟩))
 have l:a≠p:=e.ne m
 refine aA (dC (eC jy j1 j0 cS (aB 7 rfl (⟨⟨rfl,_,aD⟩,(aBX (cR b7 (aB 6 rfl (z6 (cY ⟨_,rfl,λ_ => ?_,λW => ?_⟩))))).4⟩))))
 ·exact oW (cR b7 (b6 [2,3] rfl ',' (z6 (cY (⟨⟨_,rfl⟩,rfl⟩)))))
 refine aJ (cZ aD (show 4<sizeLine by decide) ?_)
 obtain⟨q,x,I,Q⟩:=aJH (z:=way-4) '!' '!'
 refine aE (aV (cR gY (aB 7 rfl (aN [1] rfl (aIP (.mt aD) (pick5b '!' '!' λc=>(cR b7 (aU aL1 u (aN [] rfl (aN [1] rfl (aW '0' x (aJ ⟨p,q,_,rfl,by omega,by omega,(e.new l).new l,by omega,λC M1 r n d g o => ?_⟩)))).11.4.15.4)))))).11))
 exact z6 (cY (zF (t _ _ d ((((cF.refl p M).new m).new m).trans g))))
theorem zY:FnScope zl7 zl7 (aK kP):=zSc
abbrev nX(P w K mg z):=Fo P w K mg z "_law_across" kP zl7 1 aFI
theorem aA0(Df:R.Df K mg "_law_across" kP zl7 f fd)(T:Bt mg):nX P w K mg z:=by
 refine⟨f,fd,Df,bP Df zY (λds M k h => ?_) (λv A outer s H E B ds M k h => ?_)⟩
 ·obtain⟨zs,n,rfl,_⟩:=h;rfl
 obtain⟨zs,n,rfl,hl,t,c,p⟩:=h
 obtain⟨G,l,u,q⟩:=r9 c t
 refine aE (aV ((fN zl7 [0] (cW T.range (bB iP (aN [] rfl (z6 (aW '0' l (aJ (pY (R.bQ '!') (aJ ⟨_,rfl,by omega,by omega,?_⟩))))).32).15).11.4.25.4))))
 rw[jj]
 refine mV (by rw[bC];exact R.bQ '!') (λi acc M'=>M'=M/\acc=((qz i).map λj=>R.ofL (zs.map (R.atS · j))).map D.str) ⟨rfl,rfl⟩ ?_ ?_
 ·rintro i d acc M' hd ⟨rfl,rfl⟩ cs C s₀ H₀ e
  obtain⟨r,rfl⟩:=bS hd
  refine fW (cP λcs C s₀ H₀ e=>(eC n7 rd rb wG (ge_str ⟨rfl,((fN ["_law_k"] [0] (gH ⟨_, .inr '1',(mV (ds:=zs.map D.str) (by rw[zLm];exact R.bQ '!') (λm a M2=>M2=M'/\a=((zs.take m).map λz=>(⟨#[R.atS z i]⟩:Str)).map D.str) ⟨rfl,rfl⟩ ?_ ?_)⟩.16))).4⟩)))
  ·rintro m x a M2 hd2 ⟨rfl,rfl⟩ cs C s₀ H₀ e
   obtain⟨z,b,rfl⟩:=bK hd2
   have o:=c z b.7
   have g:i<z.length:=by rw[<- u z b.7];exact r
   refine fW (cP λcs C s₀ H₀ e=>(sD (R.bQ '!') (by rw[vr];exact R.aKJ g) ⟨rfl,?_⟩).16.15.11)
   rw[take_snoc b,qv,qv]
   rfl
  ·rintro a M2 ⟨rfl,rfl⟩
   rw[zLm,vk]
   refine aJ (u8 (ys:=zs.map λz=>(⟨#[R.atS z i]⟩:Str)) '0' (by decide +kernel) ?_ ?_)
   ·rw[vR _ (λz c => ?_),zLm]
    ·omega
    ·obtain⟨y,_,rfl⟩:=q0.mp c
     rfl
   ·refine⟨rfl,?_⟩
    rw[R.qV,aCT,yf,qv,qv]
    rfl
 ·rintro acc M' ⟨rfl,rfl⟩
  rw[bC,t6 l]
  exact p
theorem jG:FnScope ["_law_lines_here", "_law_some", "_law_blank", "_law_held", "_law_kept"] zl2 (aK kK):=zSc
abbrev sI(P w K mg z):=Fo P w K mg z "_law_tidied" kK zl2 1 aGA
theorem aBF(Df:R.Df K mg "_law_tidied" kK zl2 f fd)(T:Bt mg):sI P w K mg z:=by
 refine⟨f,fd,Df,bP Df jG (λds M k h => ?_) (λB A outer s H E F ds M k h => ?_)⟩
 ·obtain⟨xs,zs,n,rfl,_⟩:=h;rfl
 obtain⟨xs,zs,n,rfl,hl,x,z,y,r⟩:=h
 obtain⟨G,o,J,g⟩:=r9 z x
 refine aA (aI 2 jG.nd (bB aHC (ge_str (bB iP (aN [] rfl (z6 (aW '0' o (aJ (pY (R.bQ '!') (aGV '!' '!' (aDG g) ?_))))).32).16).11.4.25)))
 rw[jj,R.aBB,t6 o]
 refine aA (aI 3 jG.nd (bB iP (bB iP (aN [2] rfl (aN [2] rfl (jQ '0' '0' (by simp only[qe,zLm,qy,vg];exact R.bQ '!') ?_)).32.16))))
 rw[show [D.str (R.dots '@')]++zs.map D.str++[D.str (R.dots '@')]=(R.framed zs).map D.str from by simp[R.framed]]
 refine aA (kR 4 ["_law_held"] [3] jG.nd (cW T.range (aO [0] rfl (cH '0' (aJ ⟨_,rfl,by omega,by omega,?_⟩))).25.4))
 rw[jj,y]
 refine yS (by rw[bC];exact R.bQ '!') (λi acc M'=>M'=M/\acc=((qz i).filter λi => !decide ((R.framed zs)[i]?=(R.framed zs)[i+1]?)).map λ(j:Nat)=>D.int (j:Int)) ⟨rfl,rfl⟩ ?_ ?_
 ·rintro i d acc M' hd ⟨rfl,rfl⟩ cs C s₀ H₀ b
  obtain⟨I,rfl⟩:=bS hd
  obtain⟨u,p⟩:=oB (zs:=zs) (i:=i) '!'
  obtain⟨v,m⟩:=oB (zs:=zs) (i:=i+1) '!'
  refine wB (aQ gY (aW '0' (qA p) (aN [0] rfl (aW '0' (aCS m) (aIN ⟨_,rfl,?_⟩))).16.11).15.16.11)
  have q:(!decide ((R.framed zs)[i]?=(R.framed zs)[i+1]?))=(!decide (u=v)):=by rw[p,m];congr 1;simp
  refine ite2 (λl=>λcs C s₀ H₀ b => ?_) (λl => ?_)
  ·refine aB 0 rfl ⟨rfl,?_⟩
   rw[m6,if_pos (by rw[q];exact l),qv,vr]
   rfl
  ·refine⟨rfl,?_⟩
   rw[m6,if_neg (by rw[q];exact l)]
 rintro acc M' ⟨rfl,rfl⟩ a t
 rw[bC,aJG]
 refine jR 4 rfl aD ?_
 rw[iW t]
 refine aE (aV (fE ((fN ["_law_lines_here"] [0] (gH ⟨_, .inr '1',(mV (ds:=iM (R.chg zs)) (by unfold iM;rw[zLm];exact R.bQ (by have:=R.iD zs;omega)) (λi acc M1=>M1=M'/\acc=((R.chg zs).take i).map λj=>xs.getD j .non) ⟨rfl,rfl⟩ ?_ ?_)⟩.24))).4))
 ·rintro i d acc M1 hd ⟨rfl,rfl⟩ cs C s₀ H₀ b
  obtain⟨j,e,rfl⟩:=sZ hd
  have c:=R.jT zs j e.7
  exact fW (cP λcs C s₀ H₀ b=>(aW '0' (at_D '!') ⟨rfl,(nN e).symm⟩).15.16.11)
 rintro acc M1 ⟨rfl,rfl⟩
 rw[sH,vk]
 refine aC ((fN ["_law_held"] [3] (gH (dH pH (pV (cK (iY gJ (z6 ⟨_,rfl,⟨_,rfl,(tP '0' ?_)⟩⟩)))).24))))
 rw[show cutD ((R.chg zs).map λ(j:Nat)=>D.int (j:Int)) none (-1).3=iM (R.chg zs).dropLast from (zX _).trans (rP _)]
 refine⟨_, .inr '1',(mV (ds:=iM (R.chg zs).dropLast) (by unfold iM;rw[zLm,Qq];exact R.bQ (by have:=R.iD zs;omega)) (λi acc M2=>M2=M1/\acc=(((R.chg zs).dropLast.take i).map λj=>zs.getD j xm).map D.str) ⟨rfl,rfl⟩ ?_ ?_)⟩
 ·rintro i d acc M2 hd ⟨rfl,rfl⟩ cs C s₀ H₀ b
  obtain⟨j,e,rfl⟩:=sZ hd
  have c:=R.vS (R.fB zs) (R.jT zs) j e.7
  refine fW (cP λcs C s₀ H₀ b=>(aN [0] rfl (aW '0' (aFH c) ⟨rfl,?_⟩)).16.11)
  rw[nN e,qv]
  rfl
 rintro acc M1 ⟨rfl,rfl⟩
 rw[sH,vk]
 exact aJ ⟨(show 2<=sizeLine by decide),r⟩
theorem p8:FnScope ["_law_xs", "_law_ys", "_law_rows", "_law_columns"] zl1 (aK o0):=zSc
abbrev zT(P w K mg z):=Fo P w K mg z "_law_tidy" o0 zl1 2 aLG
theorem aF3(Df:R.Df K mg "_law_tidy" o0 zl1 f fd)(aL3:sI P w K mg z)(aL4:nX P w K mg z)(T:Bt mg):zT P w K mg z:=by
 refine⟨f,fd,Df,bP Df p8 (λds M k h => ?_) (λp A outer s H E b ds M k h => ?_)⟩
 ·obtain⟨xs,i,zs,n,rfl,_⟩:=h;rfl
 obtain⟨xs,i,zs,n,rfl,hl,j,l,r,q,o,m⟩:=h
 refine aA (eA (aU aL3 b (aO [1,2] rfl ⟨i,zs,n,rfl,hl,j,λz a=>(l z a).1,q,(pF [1,2] p8.nd rfl (aA (bA (aQ (aAS (n:=2) b.23) (aN [] rfl (aAY '0' '0' (aGB _) rfl ⟨_,rfl,?_⟩)).21))))⟩)))
 rw[eq_nil]
 refine ite2 (λg => ?_) (λg => ?_)
 ·exact aE (aV (aN [] rfl (o (map_nil g))))
 have c:R.a7 zs≠[]:=λe=>g (by rw[e];rfl)
 refine aZ ?_
 have g1:=R.fF l
 have gl:(R.a7 zs).length<=1000:=by have:=R.eS zs;have:=R.iD zs;omega
 have cl:=(R.nC λz a=>(g1 z a).1).2 c
 refine aA (eA (aU aL3 b (aU aL4 b (aO [2] rfl ⟨R.a7 zs,n,rfl,gl,j,λz a=>(g1 z a).1,(aJ ⟨xs,R.a8 (R.a7 zs),(R.a7 zs).length,rfl,by omega,gl,λz a=>R.rH z a,by omega,?_⟩)⟩)).4.15.4))
 refine pF [0,3] p8.nd rfl ?_
 have g2:=R.fF (R.lB g1)
 have d:(R.a7 (R.a8 (R.a7 zs))).length<=1000:=by have:=R.eS (R.a8 (R.a7 zs));have:=R.iD (R.a8 (R.a7 zs));omega
 exact aE (aV (fE (dF gM T.tuple R.BT (aO [0] rfl (nL '0' (dF gM T.tuple R.BT (aO [1] rfl (nL '0' (dF gM T.tuple R.BT (aU aL4 b (aO [3] rfl ⟨_,_,rfl,d,gl,λz a=>(g2 z a).1,(aJ (nL '0' (aJ ⟨(show 3<=sizeLine by decide),(m c)⟩)))⟩)).4).4))).4))).4))
end
end Q
namespace Q
open PySem L2 Z
theorem FdM.del{p:Addr}{b:Int}(h:FdM M p b)(n:a≠p):FdM (dZ M a) p b:=by
 obtain⟨g,m,st,e,r⟩:=h
 exact⟨g,m,st,by rw[dD (vi n)];exact e,r⟩
theorem cF.del{p:Addr}(h:cF p M M')(n:M a=none):cF p M (dZ M' a):=λb u nb e=>by
 rw[dD (λz=>by rw[z,n] at e;cases e)];exact h b u nb e
theorem zP(M:Mem)(a:Addr):Le (dZ M a) M:=λb o h=>by
 by_cases z:b=a
 ·rw[z,gL] at h;cases h
 ·rw[dD z] at h;exact h
theorem cF.none_of{p:Addr}(h:cF p M M')(n:M' a=none)(np:a≠p):M a=none:=by
 cases e:M a with
 |none=>rfl
 |some o=>rw[h a o np e] at n;cases n
theorem sN{bt:Int}(h:Ats bt ats){js:List Nat}(up:js.Pairwise (· < ·))(lt:∀j∈js,j<ats.length):∃as',fJ (ats.map (c8 bt)) js=as'.map (c8 bt)/\Ats bt as':=by
 refine⟨js.map λj=>ats.getD j 0,?_,h.bt,?_,?_⟩
 ·unfold fJ
  simp_all
 ·rw[zd]
  refine wx (λ{i j} f b c => ?_) up
  have d:=lt i f
  have e:=lt j b
  rw[zGd,zGd,zGe d,zGe e]
  exact jz.mp h.up i j d e c
 ·intro a g
  obtain⟨j,b,rfl⟩:=q0.mp g
  have hl:=lt j b
  rw[zGd,zGe hl]
  exact h.bd _ (ky hl)
theorem jF(xs:List D)(js:List Nat):(fJ xs js).length=js.length:=by simp[fJ]
theorem qJ:YardOk [] [] []:=⟨⟨1,[],rfl, .inl rfl, .nil,λa h=>(nomatch h)⟩,⟨1,[],rfl, .inl rfl, .nil,λa h=>(nomatch h)⟩,⟨.inr ⟨rfl,rfl,rfl⟩,λz h=>(nomatch h), .inr ⟨rfl,rfl,rfl⟩⟩,⟨by decide,by decide⟩,λ_=>⟨rfl,rfl⟩⟩
theorem aAO{bx by_:Int}{ax ay:List Int}(hx:Ats bx ax)(hy:Ats by_ ay)(hg:R.Good n zs)(lx:ax.length=n+1)(ly:ay.length=zs.length+1)(hn:n<=11)(hz:zs.length<=11)(hr:R.a7 zs≠[]):
  YardOk (fJ (ax.map (c8 bx)) (R.chg (R.a8 (R.a7 zs)))) (fJ (ay.map (c8 by_)) (R.chg zs)) (R.a8 (R.a7 (R.a8 (R.a7 zs)))):=by
 obtain⟨_,wf,c⟩:=R.aHA hg hr
 have cl:=(R.nC λz hz=>(R.fF hg z hz).1).2 hr
 have f:=R.iD (R.a8 (R.a7 zs))
 have d:=R.iD zs
 refine⟨?_,?_,by rw[jF,jF];exact wf,⟨by rw[jF];lia,by rw[jF];lia⟩,λe=>absurd (x4.mp (by rw[<- c,e];rfl)) hr⟩
 ·obtain⟨a,e,h⟩:=sN hx (R.fB (R.a8 (R.a7 zs))) (λj b=>by have:=R.jT _ j b;lia)
  exact⟨bx,a,e,h⟩
 ·obtain⟨a,e,h⟩:=sN hy (R.fB zs) (λj b=>by have:=R.jT zs j b;lia)
  exact⟨by_,a,e,h⟩
theorem aDD(c:Bool):atI ((".#" : Str).cps.toList) (if c=true then (1:Int) else 0)=some (if c=true then 35 else 46):=by
 cases c <;> decide +kernel
theorem aAH(h:R.Good n zs){cs:List Nat}(hl:cs.length=n)(hs:∀c∈cs,c=35\/c=46):R.Good n (zs++[R.ofL cs]):=λz a=>by
 rcases qp.mp a with a|a
 ·exact h z a
 ·rw[qi] at a
  subst a
  refine⟨by rw[R.fQ];exact hl,?_⟩
  show cs.all R.sgn=true
  rw[yu]
  intro c b
  rcases hs c b with rfl|rfl <;> rfl
theorem aGF(l:List Nat):((l.map λc=>(⟨#[c]⟩:Str)).map (·.length)).sum=l.length:=by
 rw[vR _ λz hz=>by obtain⟨c,_,rfl⟩:=q0.mp hz;rfl,zLm]
end Q
namespace Q
open PySem L2 Z
section
variable {K:qg}{z:Heap}
theorem fX:FnScope ["_law_feed_here", "_law_most", "_law_xs", "_law_ys", "_law_way_here", "_law_rows", "_law_j", "_law_signs"] zl4 (aK oS):=zSc
abbrev aAG(P w K mg z):=Fo P w K mg z "_law_yard" oS zl4 3 aLI
theorem aGR(Df:R.Df K mg "_law_yard" oS zl4 f fd)(aL5:vQ P w K mg z)(aL1:k6 P w K mg z)(aL6:vD P w K mg z)(aL7:zT P w K mg z)(T:Bt mg):aAG P w K mg z:=by
 refine⟨f,fd,Df,bP Df fX (λds M k h => ?_) (λaW A outer s H E o ds M k h => ?_)⟩
 ·obtain⟨p,b,most,rfl,_⟩:=h;rfl
 obtain⟨p,b,most,rfl,aG,aP,ae,hb,hk⟩:=h
 refine aA (aI 2 fX.nd (lP (aU aL5 o (bB eK (z6 (aU aL1 o (aO [0,1] rfl ⟨p,most,_,rfl,by omega,by omega,ae,by omega,λz1 M1 av aQ J I aK => ?_⟩)))).4.15.4)))
 refine dX (aJ ⟨p,_,_,rfl,by omega,by omega,J,by omega,λZ Nx y a S aa al ap aT ai => ?_⟩)
 refine⟨Z,_,dZ Nx Z,rfl,aa,gL,zP _ _,?_⟩
 have xp:Z≠p:=J.ne S
 have xn:M Z=none:=I.none_of S xp
 have aj:=al.del xp
 have t:=(I.trans ap).del xn
 refine aA (aI 3 fX.nd (lP (aU aL5 o (bB eK (z6 (aU aL1 o (aO [0,1] rfl ⟨p,most,_,rfl,by omega,by omega,aj,by omega,λz3 M3 aN aL U L az => ?_⟩)))).4.15.4)))
 refine dX (aJ ⟨p,_,_,rfl,by omega,by omega,U,by omega,λX Ny u j O ag au am aH ad => ?_⟩)
 refine⟨X,_,dZ Ny X,rfl,ag,gL,zP _ _,?_⟩
 have yp:X≠p:=U.ne O
 have yn:M X=none:=(t.trans L).none_of O yp
 have an:=au.del yp
 have ak:=((t.trans L).trans am).del yn
 refine aA (aI 4 fX.nd (aU aL1 o (aO [0] rfl ⟨p,_,_,rfl,by decide,by decide,an,by omega,λz5 M5 ab ao B ac aR => ?_⟩)))
 have v:=ak.trans ac
 refine aA (aI 5 fX.nd (eE (aJ ⟨(show 0<=sizeLine by decide),λar N => ?_⟩)))
 have V:ar≠p:=B.ne N
 have rn:M ar=none:=v.none_of N V
 have af:(a.map (c8 y)).length=a.length:=zLm ..
 have aq:(j.map (c8 u)).length=j.length:=zLm ..
 refine aA (cQ (cW T.range (bB iR (aO [3] rfl (cH '0' (z6 (dX (aJ ⟨_,rfl,by omega,by omega,?_⟩))))).25).4))
 rw[aq,show ((j.length:Int)-1).toNat=j.length-1 by omega]
 refine⟨λi Γ' M'=>∃(zs:List Str) (vj vs:Option D),Γ'=[some (.mt p),some (.int most),some (.lst (a.map (c8 y))),some (.lst (j.map (c8 u))),some (.int z5),some (.mt ar),vj,vs]/\M' ar=some (.lst (zs.map .str)) /\
  FdM M' p (b+150+20*i)/\cF p M M'/\zs.length=i/\R.Good (a.length-1) zs,?_,?_,?_⟩
 ·exact⟨[],none,none,rfl,aD,(B.new V).mono '!',v.new rn,rfl,λz hz=>(nomatch hz)⟩
 ·rintro i d Γ' M' hd ⟨zs,vj,vs,rfl,hM,W,hB,hl,Y⟩
  obtain⟨hi,rfl⟩:=bS hd
  refine bV 6 fX.nd (aA (kR 7 ["_law_feed_here", "_law_way_here", "_law_j", "_law_xs", "_law_ys"] [0,4,6,2,3] fX.nd (cW T.range (bB iR (aO [2] rfl (cH '0' (z6 (dX (aJ ⟨_,rfl,by omega,by omega,?_⟩))))).25).4)))
  rw[af,show ((a.length:Int)-1).toNat=a.length-1 by omega]
  refine yS (ds:=k4 0 (a.length-1)) (by rw[bC];exact R.bQ '!') (λi2 acc M2=>∃cs:List Nat,acc=(cs.map λc=>(⟨#[c]⟩:Str)).map D.str/\(∀c∈cs,c=35\/c=46)/\cs.length=i2/\FdM M2 p (b+150+20*i+i2)/\cF p M M2/\M2 ar=some (.lst (zs.map .str)))
   ⟨[],rfl,λc hc=>(nomatch hc),rfl,W.mono '!',hB,hM⟩ ?_ ?_
  ·rintro i2 d2 acc M2 hd2 ⟨cs,rfl,n,hl2,e,g,l⟩ ah C s₀ H₀ fp
   obtain⟨aw,rfl⟩:=bS hd2
   refine fW (cP λah C s₀ H₀ fp=>(ge_str (dF k9 T.int R.BI (aU aL6 o (aB 3 rfl (bB iR (aO [4] rfl (cH '0' (z6 (dX (bB iR (aO [5] rfl (cH '0' (z6 (dX (aJ ⟨p,_,z5,_,_,_,_,rfl,ab,ao,e,by omega,by omega,by omega,by omega,by omega,by omega,by omega,λc M3 x m => ?_⟩))))).25).4)))).25).4).4.15.4.21.4.16.4).4)).11)
   refine aJ (pQ (sD (by decide +kernel) (aDD c) ⟨cs++[if c=true then 35 else 46],by simp,λq r => ?_,by simp[hl2],x.mono '!',g.trans m,?_⟩))
   ·rcases qp.mp r with r|r
    ·exact n q r
    ·rw[qi] at r
     rw[r];cases c
     ·exact .inr rfl
     ·exact .inl rfl
   ·exact m ar _ V l
  ·rintro acc M2 ⟨cs,rfl,n,hl2,e,g,l⟩ as has
   rw[bC] at hl2 e
   have sp:as≠p:=e.ne has
   have sr:ar≠as:=λz=>by rw[<- z,l] at has;cases has
   refine aE (dC (eC jy j1 j0 cS (aB 5 rfl (⟨⟨rfl,_,((aF sr).trans l)⟩,(eC n7 rd rb wG (ge_str ⟨rfl,(aO [7] rfl (u8 (.mt aD) (by decide +kernel) (by rw[aGF,zLm];omega) (aJ (cZ ((aF sr).trans l) (by rw[zLm,hl];exact jg (show i<=20 by omega) '$') ?_))))⟩)).4⟩))))
   rw[R.qV,R.vP]
   refine⟨zs++[R.ofL cs],_,_,rfl,by rw[aD,qv];rfl,((e.new sp).new V).mono '!',(g.new (g.none_of has sp)).new rn,by rw[qe,hl];rfl,aAH Y hl2 n⟩
 ·rintro Γ' M' ⟨zs,vj,vs,rfl,hM,W,hB,hl,Y⟩
  rw[bC] at hl W
  refine jR 5 rfl hM ?_
  have G:=W.del V
  have Q:=hB.del rn
  refine aE (aV (aU aL7 o (aO [2,3,5] rfl ⟨_,_,zs,a.length-1,rfl,by omega,by omega,Y,by omega,by omega,λh0 => ?_,λh0 => ?_⟩)))
  ·exact hk _ _ _ _ qJ (G.mono '!') Q
  ·exact hk _ _ _ _ (aAO ai ad Y '!' '!' '!' '!' h0) (G.mono '!') Q
end
end Q
namespace Z
open PySem L2
section
variable {K:Fg}
noncomputable def xR:D->Bool
 |.non=>true
 |_=>false
theorem wF{d:D}(h:Den K G d v):decide (v = .non)=xR d:=by
 cases d with
 |non=>rw[h.non_];rfl
 |bl b=>rw[h.bl_];rfl
 |int b=>rw[h.int_];rfl
 |str b=>rw[h.str_];rfl
 |mt b=>rw[h.mt_];rfl
 |tup b=>obtain⟨_,_,e,_⟩:=h.tup_;rw[e];rfl
 |lst b=>obtain⟨_,_,e,_⟩:=h.lst_;rw[e];rfl
 |fl b=>obtain⟨_,_,e,_⟩:=h.fl_;rw[e];rfl
 |st b=>obtain⟨_,_,_,e,_⟩:=h.st_;rw[e];rfl
theorem zM{d:D}(h:k (.bl (xR d)) M):Op2 K (λx y H Q=>y = .non/\Q (.bl (decide (x = .non))) H) d .non M k:=λG H v1 v2 Q a b c q =>
 ⟨c.non_,by rw[wF b];exact q _ _ _ _ _ a.10 bN h⟩
theorem aGX{d:D}(h:k (.bl (!xR d)) M):Op2 K (λx y H Q=>y = .non/\Q (.bl (!decide (x = .non))) H) d .non M k:=λG H v1 v2 Q a b c q =>
 ⟨c.non_,by rw[wF b];exact q _ _ _ _ _ a.10 bN h⟩
end
theorem rC{es:List D}{d:D}(h:(dR es)[i]?=some d):∃x,es[i]?=some x/\d = .tup [.int (i:Int),x]:=by
 unfold dR at h
 rw[List.getElem?_mapIdx] at h
 cases e:es[i]? with
 |none=>rw[e] at h;cases h
 |some x=>rw[e] at h;exact⟨x,rfl,(jc h).symm⟩
theorem qP(es:List D):(dR es).length=es.length:=by simp[dR]
end Z
namespace L2
open PySem PySem.Spec PyProof.Rows
section
end
end L2
namespace Z
open PySem L2
section
variable {K:Fg}
end
end Z
namespace Q
open PySem L2 Z
def cHas:Ct:=λds M k=>∃(x y:D) (zs:List Str) (a u:Int),ds=[.tup [x,y, .tup (zs.map .str)], .int a, .int u]/\(∀z∈zs,z.length<=1000)/\k (.bl (R.aH zs a u)) M
theorem zL{c:Nat}:decide ((⟨#[c]⟩:Str)=("#" : Str))=decide (c=35):=by
 have e:("#" : Str)=⟨#[35]⟩:=by decide +kernel
 rw[e]
 by_cases h:c=35
 ·rw[h];simp
 ·rw[decide_eq_false h]
  exact decide_eq_false λz=>h (by injection z with z;simpa using z)
theorem cell_in{a u:Int}(h1:¬decide (u<0)=true)(h2:¬decide (((zs.map D.str).length:Int)<=u)=true)(h3:¬decide (a<0)=true):0<=u/\0<=a/\∃z,zs[u.toNat]?=some z/\atI (zs.map D.str) u=some (.str z):=by
 have e:¬u<0:=λz=>h1 z.29
 have c:¬((zs.length:Nat):Int)<=u:=λz=>h2 (by rw[zLm];exact z).29
 have d:¬a<0:=λz=>h3 z.29
 obtain⟨j,rfl⟩:∃j:Nat,u=(j:Int):=⟨u.toNat,by omega⟩
 have b:j<zs.length:=by omega
 refine⟨by omega,by omega,zs[j],by simp[b],bU (by simp[b])⟩
theorem aHD{z:Str}{a:Int}(ha:0<=a)(h:¬((z.length:Nat):Int)<=a):∃c,z.cps.toList[a.toNat]?=some c/\atI z.cps.toList a=some c:=by
 obtain⟨j,rfl⟩:∃j:Nat,a=(j:Int):=⟨a.toNat,by omega⟩
 have b:j<z.cps.toList.length:=by rw[qt];have:z.cps.size=z.length:=rfl;omega
 exact⟨z.cps.toList[j],by simp,bU (zGe b)⟩
end Q
namespace HT
open PySem PySem.Spec PyProof.Rows
section
variable {E:Value->Shared->Prop}
end
end HT
namespace L2
open PySem PySem.Spec PyProof.Rows
section
end
end L2
namespace Z
open PySem L2
section
theorem n6{K:Fg}{c d e:D}(r:Rs M d e)(he:e = .tup ds\/e = .lst ds)(hc:okD n c=true)(hd:okDs n ds=true)(h:k (.bl (ds.any λx=>eqD x c)) M):Op2 K (rInD K n false) c d M k:=λG H v1 v2 Q a b f q =>
 ⟨c,e,ds,he,hc,hd,b.up a.same,r.den a f,q _ _ _ _ _ a.10 bN h⟩
end
end Z
namespace Q
open PySem L2 Z
theorem dotted(z:Str):("." : Str)++z++("." : Str)=R.ofL (46::z.cps.toList++[46]):=by
 apply fP
 have e:("." : Str).cps = #[46]:=by decide +kernel
 show (("." : Str).cps++z.cps++("." : Str).cps).toList=46::z.cps.toList++[46]
 rw[e];simp
theorem oA(z:Str)(h:z.length<=1000):("." : Str).length+z.length<=sizeLine/\(("." : Str)++z).length+("." : Str).length<=sizeLine:=by
 have e:("." : Str).length=1:=by decide +kernel
 have a:(("." : Str)++z).length=1+z.length:=by
  show (("." : Str).cps++z.cps).size=_
  rw[QU]
  have:("." : Str).cps.size=1:=e
  rw[this];rfl
 rw[a,e]
 exact⟨R.bQ '#',R.bQ '#'⟩
end Q
namespace Z
open PySem L2
theorem slen(a b:Str):(a++b).length=a.length+b.length:=by
 show (a.cps++b.cps).size=_
 rw[QU];rfl
theorem m9:∀(ts:List Str) (k:Nat) (acc:Str),(textFrom k acc ts).length<=acc.length+(ts.map (·.length)).sum+2*ts.length
 |[],k,acc=>by simp[textFrom]
 |t::ts,k,acc=>by
  have a:=m9 ts (k+1) (acc++(if k>0 then ", " else "" : String)++t)
  have e:(acc++((if k>0 then ", " else "" : String):Str)++t).length<=acc.length+2+t.length:=by
   rw[slen,slen]
   split
   ·have:((", " : String):Str).length=2:=by decide +kernel
    lia
   ·have:(("" : String):Str).length=0:=by decide +kernel
    lia
  show (textFrom (k+1) (acc++(if k>0 then ", " else "" : String)++t) ts).length<=_
  grind
theorem uQ(ts:List Str):(listText ts).length<=(ts.map (·.length)).sum+2*ts.length+2:=by
 unfold listText
 rw[slen]
 have h:=m9 ts 0 "["
 have b:("[" : Str).length=1:=by decide +kernel
 have a:("]" : Str).length=1:=by decide +kernel
 lia
theorem join_le:∀ts:List Str,(Str.join ", " ts).length<=(ts.map (·.length)).sum+2*ts.length
 |[]=>by show (xm).length<=_;exact kd _
 |[x]=>by show x.length<=_;simp
 |x::y::r=>by
  have a:=join_le (y::r)
  show (x ++ ", " ++ Str.join ", " (y::r)).length<=_
  rw[slen,slen]
  have b:((", " : String):Str).length=2:=by decide +kernel
  grind
theorem tY(ts:List Str):(tupleText ts).length<=(ts.map (·.length)).sum+2*ts.length+3:=by
 unfold tupleText
 rw[slen,slen]
 have h:=join_le ts
 have b:("(" : Str).length=1:=by decide +kernel
 have a:(((if ts.length==1 then ",)" else ")" : String)):Str).length<=2:=by split <;> decide +kernel
 lia
mutual
noncomputable def smD:D->Bool
 |.non|.bl _|.str _=>true
 |.int i=>decide (i.natAbs<10^65)
 |.tup ds=>smDs ds
 |.lst ds=>smDs ds
 |.mt _|.fl _|.st _=>false
noncomputable def smDs:List D->Bool
 |[]=>true
 |d::ds=>smD d&&smDs ds
end
mutual
noncomputable def wt:D->Nat
 |.non=>4
 |.bl _=>5
 |.int _=>66
 |.str x=>(reprText x).length
 |.tup ds=>wts ds+3
 |.lst ds=>wts ds+2
 |.mt _|.fl _|.st _=>0
noncomputable def wts:List D->Nat
 |[]=>0
 |d::ds=>wt d+2+wts ds
end
mutual
theorem shown_le:∀d:D,smD d=true->(toPy d).showable=true/\(toPy d).shown.length<=wt d
 |.non,_=>by simp only[toPy,y8,zc,wt];exact⟨trivial,by decide +kernel⟩
 |.bl b,_=>by simp only[toPy,y8,zc,wt];exact⟨trivial,by cases b <;> decide +kernel⟩
 |.str x,_=>by simp only[toPy,y8,zc,wt];exact⟨trivial,qo _⟩
 |.int i,h=>by
  simp only[smD,decide_eq_true_eq] at h
  simp only[toPy,y8,zc,wt,decide_eq_true_eq]
  refine⟨?_,?_⟩
  ·have c:i.natAbs<2^1920:=qw h '$'
   by_cases h0:i.natAbs=0
   ·rw[h0];decide
   ·exact (Nat.log2_lt h0).mpr c
  ·have:=int_text_length_le10 (a:=i) (k:=65) '$' h
   show (qu (toString i)).length<=66
   rw[ofString_length];exact this
 |.mt _,h=>by simp[smD] at h
 |.fl _,h=>by simp[smD] at h
 |.st _,h=>by simp[smD] at h
 |.tup ds,h=>by
  simp only[smD] at h
  obtain⟨e,c⟩:=showns_le ds h
  simp only[toPy,y8,zc,wt]
  exact⟨e,jw (tY _) '#'⟩
 |.lst ds,h=>by
  simp only[smD] at h
  obtain⟨e,c⟩:=showns_le ds h
  simp only[toPy,y8,zc,wt]
  exact⟨e,jw (uQ _) '#'⟩
theorem showns_le:∀ds:List D,smDs ds=true->fy (toPys ds)=true/\((zt (toPys ds)).map (·.length)).sum+2*(zt (toPys ds)).length<=wts ds
 |[],_=>by simp[toPys,fy,zt,wts]
 |d::ds,h=>by
  simp only[smDs,jm] at h
  obtain⟨a1,a2⟩:=shown_le d h.1
  obtain⟨a,b⟩:=showns_le ds h.2
  simp only[toPys,fy,zt,wts,jo,JI,qy]
  grind
end
theorem pX:∀{ds:List D},(∀d∈ds,okD n d=true)->okDs n ds=true
 |[],_=>by simp only[okDs]
 |d::ds,h=>by
  have a:=pX (ds:=ds) λe he=>h e (jn _ he)
  simp only[okDs,h d '*',a,xt]
theorem sW{K:Fg}{d e:D}(r:Rs M d e)(ok:okD n e=true)(hs:smD e=true)(hz:wt e<=10000000)(h:k (.str (toPy e).shown) M):OpN K (xL K n) [d] M k:=
 aHJ r ok (shown_le e hs).1 (jw (shown_le e hs).2 (jw hz '$')) h
end Z
namespace Q
open PySem L2 Z
noncomputable def pairD(p:Int×Int):D := .tup [.int p.1, .int p.2]
noncomputable def prL(bt at_:Int):Int×Int:=(at_/((va at_ bt:Nat):Int),bt/((va at_ bt:Nat):Int))
def gB(p:Int×Int):Prop:=p.1.natAbs<10^60/\p.2.natAbs<10^60
theorem o8{bt at_:Int}(h:bt=1\/bt=2\/bt=9)(h1 : -20<=at_)(h2:at_<=10^10):gB (prL bt at_):=by
 have e:=q8 (a:=at_) h
 unfold gB prL
 generalize ((va at_ bt:Nat):Int)=g at e
 have a1:(at_/g).natAbs<=at_.natAbs:=rh at_ g
 have a2:(bt/g).natAbs<=bt.natAbs:=rh bt g
 have b:(10:Int)^10=10000000000:=by decide
 have c:at_.natAbs<=10000000000:=by lia
 have d:bt.natAbs<=9:=by rcases h with rfl|rfl|rfl <;> decide
 exact⟨jg (jw a1 c) '$',jg (jw a2 d) '$'⟩
theorem wR{p:Int×Int}(h:gB p):smD (pairD p)=true/\wt (pairD p)=139:=by
 obtain⟨b,a⟩:=h
 have a1:decide (p.1.natAbs<10^65)=true:=decide_eq_true (fg b '$')
 have a2:decide (p.2.natAbs<10^65)=true:=decide_eq_true (fg a '$')
 refine⟨?_,rfl⟩
 simp only[pairD,smD,smDs,a1,a2,xt]
theorem yA{xs:List D}(h:YardOk xs ys zs):∃ps qs:List '%',xs=ps.map pairD/\ys=qs.map pairD/\(∀p∈ps,gB p)/\(∀q∈qs,gB q)/\ps.length<=100/\qs.length<=100:=by
 obtain⟨f,a1,rfl,c⟩:=h.lx
 obtain⟨i,a2,rfl,d⟩:=h.ly
 obtain⟨f1,f2⟩:=h.few
 rw[zLm] at f1 f2
 refine⟨a1.map (prL f),a2.map (prL i),by rw[wa];rfl,by rw[wa];rfl,λp e => ?_,λq g => ?_,by rw[zLm];lia,by rw[zLm];lia⟩
 ·obtain⟨a,b,rfl⟩:=q0.mp e
  exact o8 c.bt (c.bd a b).1 (c.bd a b).2
 ·obtain⟨a,b,rfl⟩:=q0.mp g
  exact o8 d.bt (d.bd a b).1 (d.bd a b).2
theorem aGO{z:Int}(h0:0<=z)(h1:z<3):∃m:Int,atI [D.int 4, .int 6, .int 11] z=some (.int m)/\1<=m/\m<=11:=by
 have:z=0\/z=1\/z=2:=by lia
 rcases this with rfl|rfl|rfl
 ·exact⟨4,rfl,by decide,by decide⟩
 ·exact⟨6,rfl,by decide,by decide⟩
 ·exact⟨11,rfl,by decide,by decide⟩
end Q
namespace L2
open PySem PySem.Spec PyProof.Rows
section
def Iel(K:qg)(a:Addr):It:=⟨λi H=>∃xs x,SqL K H a xs/\xs[i]?=some x,
 λi H v H'=>∃T x,H T=none/\v = .ref T/\H'=upd H T (.tup [.int (i:Int),x])/\∀xs,SqL K H a xs->xs[i]?=some x,λi H=>∃xs,SqL K H a xs/\xs.length=i⟩
theorem yQ{K:qg}(a e it:Addr)(hei:e≠it):
  Turn P w K (.Tuple elts kk tp) (Iel K a) [e,it] e (λi h=>(∃old,IsEnum h e it (i:Nat) old)/\h.IsListIter it a i) where
 mem:=by simp
 obj:=λi h st b f=>by
  obtain⟨⟨old,he⟩,o,t,B,hd⟩:=st
  grind
 keep:=λi h h' st k=>by
  obtain⟨⟨old,he⟩,o,t,r⟩:=st
  exact⟨⟨old,k e '*' _ he⟩,o,k it '*' o t,r⟩
 item:=by
  intro X O hw F B i pins s σ H E I hf st S
  subst O hw F
  obtain⟨⟨old,he⟩,hit⟩:=st
  obtain⟨xs,x,v,n⟩:=S
  obtain⟨c,D,pt,hz⟩:=I.list v
  have d:s.heap.IsList a c.toArray:=pt.isList
  have l:a≠it:=λz=>by
   obtain⟨o,U,T,_⟩:=d
   obtain⟨o2,e2,Z,_⟩:=hit
   grind
  have N:e∉[it,a]:=λz=>by
   rcases jb.mp z with y|y
   ·exact hei y
   ·rw[qi] at y
    obtain⟨o,U,T,_⟩:=d
    grind
  have Dr:=Kq (prog:=X.prog) (w:=X.w) (A:=X.A.in1) (I.ok.hd B) it a l c.toArray
  have L:i<c.toArray.size:=by rw[qc,<- D.length];exact (n.5).1
  refine QI Dr he ⟨hit,d⟩ L hei N λy h1 C hy t J hT aa Y => ?_
  refine⟨_,rfl,wpAny_letOwnedTupleGo_enum t λp M j => ?_⟩
  obtain⟨u,hu,ru⟩:=D.get n
  have ey:y=u:=by
   grind
  subst ey
  have G:s.heap.objs.size≠e:=y5 (qr he)
  have g:p.get? s.heap.objs.size=some {cls := .type "tuple", data := .seq #[.int (i:Int) C,y]}:=(j.2 _ G).trans hT
  have k2:∀b ob,b∉[e,it]->s.heap.get? b=some ob->p.get? b=some ob:=λb ob f q=>by
   have V:b≠e:=λz=>f (by simp[z])
   have b2:b≠it:=λz=>f (by simp[z])
   exact (j.2 b V).trans (Y b ob V b2 q)
  show '!'
  have R:H s.heap.objs.size=none:=I.hok.fresh (qo _)
  refine⟨.ref s.heap.objs.size,_,I2,rfl,⟨s.heap.objs.size,x,R,rfl,rfl,λab q' => ?_⟩,⟨⟨_,by simpa using M⟩,?_⟩,λb f => ?_⟩
  ·rw[I.list_inj q' v];exact n
  ·obtain⟨⟨o,m,r3⟩,_⟩:=J
   exact⟨o,(j.2 it (vi hei)).trans m,r3⟩
  ·rw[aG (λz => ?_)]
   ·exact (hf b f).1
   ·rcases jb.mp f with y|y
    ·grind
    ·rw[qi] at y
     obtain⟨o,m,_⟩:=hit
     exact absurd (qr m) (by rw[<- y,z];exact vm _)
 done:=by
  intro X O hw F B i pins s σ H E I hf st S
  subst O hw F
  obtain⟨⟨old,he⟩,hit⟩:=st
  obtain⟨xs,v,hl⟩:=S
  obtain⟨c,D,pt,hz⟩:=I.list v
  have d:s.heap.IsList a c.toArray:=pt.isList
  have l:a≠it:=λz=>by
   obtain⟨o,U,T,_⟩:=d
   obtain⟨o2,e2,Z,_⟩:=hit
   grind
  have Dr:=Kq (prog:=X.prog) (w:=X.w) (A:=X.A.in1) (I.ok.hd B) it a l c.toArray
  have R:c.toArray.size=i:=by rw[qc,<- D.length];exact hl
  subst R
  refine QV Dr he ⟨hit,d⟩ λp n=>⟨rfl,I.turnedL (t':=s.toks) (ch:=[it]) (λb ob f q=>n b ob (λz=>f (by simp[z])) q) λb f=>hf b ?_⟩
  grind
 self:=λA i s Q E st h=>by
  obtain⟨⟨old,he⟩,_⟩:=st
  exact dr he h
def aJP(K:qg)(ta:TA):TI:=λσ H R=>ta σ H λvs H1=>∃a,vs=[.ref a]/\(∃xs,SqL K H1 a xs)/\R (Iel K a) H1
theorem aD5{a:Expr}{ta:TA}{p pos:Pos}(hg:Gl X "enumerate")(hm:X.mg "enumerate" = none)(hv:ke "enumerate" = some (.type "enumerate"))(ha:PA X [a] ta)(hs:starEach [a] X.env=[(false,eval a X.env)]:=by rfl):
  PI X (.Tuple elts kk tp) (.Call (.Name "enumerate" p) [a] [] pos) (aJP X.K ta):=by
 intro pins s σ H R I h
 refine Call_ (iJ I hg hm hv (x6 (thn (ha pos pins s σ H _ I h) λus s1 ⟨vs,H1,I1,r1,n⟩ => ?_) hs rfl))
 obtain⟨b,e,⟨xs,i⟩,q⟩:=n
 subst e
 obtain⟨u,rfl,l⟩:=vals1 r1
 cases l
 obtain⟨f,r,pt,o⟩:=I1.list i
 refine call_enumerate_list (show s1.heap.IsList b f.toArray from pt.isList) λm he j k g => ?_
 have I2:Inv X pins σ H1 {s1 with heap:=m}:=I1.kept (t':=s1.toks) g
 refine dr he ?_
 refine⟨_,[s1.heap.objs.size+1,s1.heap.objs.size],_,Iel X.K b,H1,rfl,I2,yQ b _ _ (Jm _),⟨⟨_,he⟩,j⟩,λc d => ?_,q⟩
 rcases jb.mp d with rfl|d
 ·exact I1.fpOk (zf _) (I1.hok.fresh (zf _))
 ·rw[qi] at d
  subst d
  exact I1.fpOk (qo _) (I1.hok.fresh (qo _))
end
end L2
namespace Z
open PySem L2
section
variable {pos:Pos}{a b:Expr}{rest:List Expr}
theorem aCB{K:Fg}{a:Addr}{vs:List V}(s:G0 a=some (.lst vs))(dn:Dens K G0 ds vs):YD K (Iel K a) (dR ds) G0 where
 go:=λi G H M sg b h=>by
  have g:i<vs.length:=by rw[<- dn.len];simpa[dR] using h
  exact⟨vs,vs[i],SqL.of (b.same _ _ (sg _ _ s)),by simp[g]⟩
 yld:=λi G H M x H' sg b h y=>by
  obtain⟨T,v,j,rfl,rfl,f⟩:=y
  have c:=f vs (SqL.of (b.same _ _ (sg _ _ s)))
  obtain⟨d,hd,e⟩:=dn.get' c
  have st:=b.new (o := .tup [.int (i:Int),v]) j
  exact⟨_, .tup [.int (i:Int),d],st,by simp[dR,hd],fY (SqT.of aR) (bO cC (bO ((e.up sg).up st.gg) bT))⟩
 stop:=λi G H M sg b h=>⟨vs,SqL.of (b.same _ _ (sg _ _ s)),by rw[<- dn.len];simpa[dR] using h.symm⟩
theorem aCE{p:Pos}(hm:X.mg "enumerate" = none)(hv:ke "enumerate" = some (.type "enumerate"))(h:GA X [a] Γ M λds M1=>∃es,ds=[.lst es]/\ki (dR es) M1)(hg:Gl X "enumerate" := by rfl)(hs:starEach [a] X.env=[(false,eval a X.env)]:=by rfl):
  GI X (.Tuple elts kk tp) (.Call (.Name "enumerate" p) [a] [] pos) Γ M ki:=λσ G H Rr i e q=>by
 refine pB (aD5 hg hm hv pUA hs) ?_
 refine h σ G H _ i e λvs G1 H1 ds M1 s1 g ⟨es,j,d⟩ => ?_
 subst j
 obtain⟨v,rfl,c⟩:=dens1 g
 obtain⟨b,ws,rfl,sq,f⟩:=c.lst_
 exact⟨b,rfl,⟨ws,SqL.of (s1.rel.same _ _ sq)⟩,q _ _ _ _ _ s1 (aCB sq f) d⟩
end
section
theorem aJ5(I:Inv X pins σ H s){d e:D}{u:V}{v' u':Value}(A:Around)(g1:Disp d)(g2:Disp e)(h1:okD n d=true)(h2:okD n e=true)(x:Den X.K H d v)(y:Den X.K H e u)(rx:RelV v v')(ry:RelV u u')(hu:A.units+n<cLine):SeqAt.RcNeAt A s v' u' (!eqD d e):=by
 cases g1 with
 |tup ds =>
  obtain⟨a,l,vs,rfl,it,p,m⟩:=cJ I x rx
  cases g2 with
  |lst es=>obtain⟨b,g,k,rfl,f,_⟩:=cG I y ry;simp only[eqD];exact Ku it f '#'
  |tup es =>
   obtain⟨b,g,k,rfl,f,h,i⟩:=cJ I y ry
   cases n with
   |zero=>simp[okD] at h1
   |succ n =>
    have w:okDs n ds=true:=by simpa only[okD] using h1
    have C:okDs n es=true:=by simpa only[okD] using h2
    have:=Kt (A:=A) (s:=s) (e:=eqJ ds es) it f '#' (λj g1 g2=>by
     obtain⟨c,v1,r,B,r1⟩:=c7 m p g1
     obtain⟨z,v2,t,E,r2⟩:=c7 i h g2
     show '$'
     unfold eqJ;rw[r,t];exact this)
    rw[qc,qc,<- p.length,<- h.length,<- m.len,<- i.len,dP] at this
    simp only[eqD];exact this
 |lst ds =>
  obtain⟨a,l,vs,rfl,it,p,m⟩:=cG I x rx
  cases g2 with
  |tup es=>obtain⟨b,g,k,rfl,f,_⟩:=cJ I y ry;simp only[eqD];exact Kx it f '#'
  |lst es =>
   obtain⟨b,g,k,rfl,f,h,i⟩:=cG I y ry
   cases n with
   |zero=>simp[okD] at h1
   |succ n =>
    have w:okDs n ds=true:=by simpa only[okD] using h1
    have C:okDs n es=true:=by simpa only[okD] using h2
    simp only[eqD]
    by_cases hl:ds.length=es.length
    ·have o:l.toArray.size=g.toArray.size:=by rw[qc,qc,<- p.length,<- h.length,<- m.len,<- i.len,hl]
     have:=Kw (A:=A) (s:=s) (e:=eqJ ds es) it f o '#' (λj g1 g2=>by
      obtain⟨c,v1,r,B,r1⟩:=c7 m p g1
      obtain⟨z,v2,t,E,r2⟩:=c7 i h g2
      show '$'
      unfold eqJ;rw[r,t];exact this)
     have q:=dP ds es
     rw[<- hl,Qi,beq_self_eq_true,xt] at q
     rw[qc,<- p.length,<- m.len,q] at this
     exact this
    ·have o:(l.toArray.size != g.toArray.size)=true:=by rw[bne_iff_ne,qc,qc,<- p.length,<- h.length,<- m.len,<- i.len];exact hl
     have q:=dP ds es
     rw[beq_eq_false_iff_ne.mpr hl,fv] at q
     rw[<- q]
     exact Kv it f o '#'
end
section
theorem r6(hu:X.A.units+n<cLine):OpR X (vc .NotEq) (yB X.K n true):=by
 intro pins s σ H x y v u Q I b g h
 obtain⟨d,e,g1,g2,a,i,f,c,q⟩:=h
 exact aJ5 I X.A g1 g2 a i f c b g hu X.prog X.w X.xe _ ⟨.bl (!eqD d e),H,I,rfl,q⟩
theorem sC{K:Fg}{e1 e2:D}(r1:Rs M d1 e1)(r2:Rs M d2 e2)(h1:okD n e1=true)(h2:okD n e2=true)(h:k (.bl (!eqD e1 e2)) M):Op2 K (yB K n true) d1 d2 M k:=λG H v1 v2 Q a x y q =>
 ⟨e1,e2,r1.disp,r2.disp,h1,h2,r1.den a x,r2.den a y,q _ _ _ _ _ a.10 bN h⟩
end
section
variable {K:Fg}
end
end Z
namespace Z
open PySem L2 PySem.Spec PyProof.Rows
noncomputable def tyN:D->String
 |.non => "NoneType"
 |.bl _ => "bool"
 |.int _ => "int"
 |.str _ => "str"
 |.tup _ => "tuple"
 |.lst _|.fl _|.mt _|.st _ => "list"
noncomputable def isN(T S:String):Bool:=S==T||(S == "bool" && T == "int")
noncomputable def isD(T:String)(d:D):Bool:=isN T (tyN d)
def Plain5(T:String):Prop:=T = "int" \/ T = "bool" \/ T = "str" \/ T = "tuple" \/ T = "list"
theorem aKV{K:Fg}{T S:String}(h:Plain5 T)(h2:S = "NoneType" \/ Plain5 S):yh K (.type S) (.type T)=some (isN T S):=by
 rcases h with rfl|rfl|rfl|rfl|rfl <;> rcases h2 with rfl|rfl|rfl|rfl|rfl|rfl <;> first
  |exact aIO (by decide +kernel) (by decide +kernel) (by decide +kernel)
  | (rw[aCL (by decide +kernel)];decide +kernel)
theorem aHX(d:D):tyN d = "NoneType" \/ Plain5 (tyN d):=by
 cases d with
 |non=>exact .inl rfl
 |bl b=>exact .inr (.inr '1')
 |int b=>exact .inr '1'
 |str b=>exact .inr (.inr (.inr '1'))
 |tup b=>exact .inr (.inr (.inr (.inr '1')))
 |lst b=>exact .inr (.inr (.inr (.inr (.inr rfl))))
 |fl b=>exact .inr (.inr (.inr (.inr (.inr rfl))))
 |mt b=>exact .inr (.inr (.inr (.inr (.inr rfl))))
 |st b=>exact .inr (.inr (.inr (.inr (.inr rfl))))
theorem aLV{K:Fg}{T:String}(h:Plain5 T)(d:D):yh K (.type (tyN d)) (.type T)=some (isD T d):=aKV h (aHX d)
def Slv:D->Prop
 |.mt _|.st _=>False
 |_=>True
theorem aAE{T:String}(hT:Plain5 T):dB X (.builtin "isinstance") (λxs H Q=>∃x d,xs=[x, .ty T]/\Slv d/\Den X.K H d x/\Q (.bl (isD T d)) H):=by
 show '%'
 obtain⟨x,d,rfl,nm,c,q⟩:=h
 obtain⟨u,m,rfl,b,r2⟩:=vals2 r
 cases (show m=gv T from r2)
 have e:=aLV (K:=X.K) hT d
 have fin:∀l,∃v H',Inv X pins σ H' {s with toks:=l}/\RelV v (kz (isD T d))/\Q v H':=λl=>⟨.bl (isD T d),H,I.tok l,rfl,q⟩
 cases d with
 |non=>rw[c.non_] at b;cases (show u=jt from b);exact yc PySem.W.kitx_none I.kIn cm e (λz=>nomatch z) fin
 |bl y=>rw[c.bl_] at b;cases (show u=kz y from b);exact yc PySem.W.kitx_bool I.kIn cm e (λz=>nomatch z) fin
 |int i=>rw[c.int_] at b;obtain⟨t,k⟩:=(show ∃t,u=cb i t from b);cases k;exact yc PySem.W.kitx_int I.kIn cm e (λz=>nomatch z) fin
 |str y=>rw[c.str_] at b;obtain⟨t,k⟩:=(show ∃t,u=Q9 y t from b);cases k;exact yc PySem.W.kitx_str I.kIn cm e (λz=>nomatch z) fin
 |mt a=>exact nm.elim
 |st a=>exact nm.elim
 |tup ds =>
  obtain⟨a,g,vs,rfl,⟨o,f,j,_⟩,_⟩:=cJ I c b
  exact yc PySem.W.kitx_tuple I.kIn ⟨o,f,j⟩ e (λz=>nomatch z) fin
 |lst ds =>
  obtain⟨a,g,vs,rfl,⟨o,f,j,_⟩,_⟩:=cG I c b
  exact yc Qk I.kIn ⟨o,f,j⟩ e (λz=>nomatch z) fin
 |fl ds =>
  obtain⟨a,vs,rfl,sq,n⟩:=c.fl_
  cases (show u=jh a from b)
  obtain⟨g,p,pt,_⟩:=I.list sq
  obtain⟨o,f,j,_⟩:=pt.isList
  exact yc Qk I.kIn ⟨o,f,j⟩ e (λz=>nomatch z) fin
inductive Rz(M:Mem):D->D->Prop
 |self {d:D} (h:Slv d):Rz M d d
 |mt {a:Addr}{ds:List D} (h:M a=some '8'):Rz M (.mt a) '8'
section
variable {pos p1:Pos}
theorem sK{C:Str}{T:String}(hT:Plain5 T)(hm:X.mg "isinstance" = none)(hmT:X.mg C=none)(hvT:ke C=some (.type T))(h:GE X e Γ M λd M1=>∃d',Rz M1 d d'/\k (.bl (isD T d')) M1)(hg:Gl X "isinstance" := by rfl)(hgT:Gl X C:=by rfl)(hn:C ≠ "__name__" := by decide)(hdb:(C==("__debug__" : Str))=false:=by decide)(he:starEach [e, .Name C p2] X.env=(false,eval e X.env)::starEach [.Name C p2] X.env:=by rfl)(hpl:(yg pos (starEach [.Name C p2] X.env)).any (·.1)=false:=by rfl):GE X (.Call (.Name "isinstance" p1) [e, .Name C p2] [] pos) Γ M k:=λσ G H Q i f q=>by
 refine bY (tG (aAE hT) hg hm K7 (lV (hs:=he) pU (lV (aFJ (v := .ty T) hgT hmT hvT rfl hn hdb) sX)) '$' '$' he hpl) ?_
 refine h σ G H _ i f λv G1 H1 d M1 s1 b ⟨d',a,c⟩ => ?_
 refine⟨v,d',rfl,?_,?_,q _ _ _ _ _ s1 bN c⟩
 ·cases a with
  |self h=>exact h
  |mt h=>exact cm
 ·cases a with
  |self h=>exact b.up s1.rel.same
  |mt hm =>
   obtain⟨_,vs,j,g⟩:=s1.rel.mem _ _ hm
   rw[b.mt_];exact eW j (g.up s1.rel.same)
end
end Z
namespace HD
open PySem PySem.Spec PyProof.Rows
section
variable {E:Value->Shared->Prop}{d:Addr}{o:Obj}{es:Array DictEntry}
theorem rG(h1:s.heap.get? d=some o)(h2:o.ExactDict):s.TypeIs (.ref d) "dict" := ⟨o,h1,h2.1⟩
end
end HD
namespace HD
open PySem PySem.Spec PyProof.Rows
section
variable {K:Type}[DecidableEq K]{knd:ro prog w K}{E:Value->Shared->Prop}{d:Addr}{xs:List (K×Addr×Value)}{k:K}{v:Value}
theorem sY{Q:Unit->Shared->Prop}(hr:knd.room A)(hk:knd.is s.heap k a)(hd:kr knd s.heap d xs)(hsz:xs.length<=sizeLine)(h:∀h',kr knd h' d (nk xs k a v)->vx d s.heap h'->Q () {s with heap:=h' }):wpAny w.8 A (dictSetHashed d (.ref a) (knd.hash k) v) Q E s:=by
 obtain⟨o,B,z,g,u,f,l,q,i⟩:=hd
 unfold dictSetHashed
 refine ve (qa (Jv hr hk g f l q i (λm => ?_) (λj p t => ?_)))
 ·refine qa (zp (Jj g f (h _ ?_ (q4 _ _ _)) (by rw[size_of_entries l];exact hsz) (by rw[mx];exact qo _)))
  have r:¬k∈xs.map (·.1):=not_mem_keys_of_get m
  refine⟨_,_,_,xb _ g (bc (xl f _)),u.mapDictKeys _,xl f _,?_,?_,?_⟩
  ·rw[h7 (zq m),cg,qv,l];rfl
  ·intro x c
   rw[h7 (zq m)] at c
   rcases qp.mp c with c|c
   ·exact knd.keeps (q x c) g f (q4 _ _ _)
   ·rw[qi] at c
    subst c
    exact knd.keeps hk g f (q4 _ _ _)
  ·rw[h7 (zq m),qv,xi]
   refine⟨i,by simp,λx c y n e => ?_⟩
   simp at n
   subst n;subst e
   exact r c
 ·have b:=atKey_of_get i t
  refine qa (zp (qa (wpAny_updateDict g f (wpAny_point (h _ ?_ (q4 _ _ _))) (by rw[Array.size_modify];exact qo _))))
  refine⟨_,_,_,xb _ g (bc (Jl f _)),u.mapDict _,Jl f _,?_,?_,?_⟩
  ·rw[su b,<- modify_map_putAt (gk knd) (λe=>{e with val:=v}) k v (λ_ _=>rfl) i t,<- l,Array.toList_modify]
  ·intro x c
   rw[su b] at c
   obtain⟨y,n,e⟩:=q0.mp c
   have:=knd.keeps (q y n) g f (q4 s.heap d (Obj.mapDict λx=>x.modify j λe=>{e with val:=v}))
   rw[putAt.eq_1] at e
   split at e
   ·subst e;exact this
   ·subst e;exact this
  ·rw[su b,keys_map_putAt];exact i
noncomputable def dN(xs ys:List (K×Addr×Value)):List (K×Addr×Value):=ys.foldl (λacc y=>nk acc y.1 y.2.1 y.2.2) xs
theorem p7(xs:List (K×Addr×Value))(k:K)(a:Addr)(v:Value):(nk xs k a v).length<=xs.length+1:=by
 rw[storedH.eq_1]
 grind
theorem jW:∀(ys xs:List (K×Addr×Value)),(dN xs ys).length<=xs.length+ys.length
 |[],xs=>by show xs.length<=xs.length+0;lia
 |y::ys,xs=>by
  have b:=jW ys (nk xs y.1 y.2.1 y.2.2)
  have a:=p7 xs y.1 y.2.1 y.2.2
  show (dN (nk xs y.1 y.2.1 y.2.2) ys).length<=_
  grind
theorem kW{α:Type}{f:α->Int}{c:Int}:∀{l:List α},(f.13).Nodup->(l.filter λx=>f x==c).length<=1
 |[],_=>by simp
 |x::l,h=>by
  rw[jo,vf] at h
  rw[List.filter_cons]
  split
  ·simp_all
  ·exact kW h.2
theorem u3{id:String}{o:Addr}{ob:Obj}{es:Array DictEntry}{Q:Array DictEntry->Shared->Prop}(h1:s.heap.get? o=some ob)(h3:ob.data = .dict es ep)(hty:∀e∈es.toList,s.TypeIs e.key "tuple" /\ ∃a,e.key = .ref a)(hn:(es.toList.map (·.hash)).Nodup)(h:Q es s):wpAny w.8 A (Vd id o) Q E s:=by
 refine qa (vt h1 h3 ?_)
 rw[<- bj]
 refine qa (wpAny_forIn_list _ (λrest _ c=>c=s/\∀e∈rest,e∈es.toList) _ (λe rest b c ⟨d,hm⟩ => ?_) (λb c ⟨d,_⟩ => ?_) es.toList Kl ⟨rfl,λe he=>he⟩)
 ·subst d
  obtain⟨g,a,i⟩:=hty e (hm e (kh ..))
  refine qa ?_
  rw[i] at g ⊢
  refine qa (cf g K3.lookup ?_.14)
  rw[if_pos (by rfl)]
  have hf:(Array.filter (λx=>x.hash==e.hash) es).size<=1:=by
   rw[<- qt,Array.toList_filter]
   exact kW (f:=λe:DictEntry=>e.hash) hn
  rw[if_neg '#']
  exact wpAny_pure ⟨rfl,λe he=>hm e (jn _ he)⟩
 ·subst d
  exact wpAny_pure h
end
end HD
namespace HD
open PySem PySem.Spec PyProof.Rows
section
variable {K:Type}[DecidableEq K]{knd:ro prog w K}{E:Value->Shared->Prop}{d o:Addr}{xs ys:List (K×Addr×Value)}
theorem gN:∀(ys acc:List (K×Addr×Value)),((acc++ys).map (·.1)).Nodup->dN acc ys=acc++ys
 |[],acc,_=>by rw[vv];rfl
 |y::ys,acc,h=>by
  have a:atKey acc y.1=none:=zq λj p b=>by
   grind
  show dN (nk acc y.1 y.2.1 y.2.2) ys=_
  rw[h7 a,gN ys (acc++[(y.1,y.2.1,y.2.2)]) (by rw[qx];exact h),qx];rfl
theorem aD6{nm:String}{Q:Unit->Shared->Prop}(hr:knd.room A)(hne:d≠o)(ho:(o==wg)=false)(hd:kr knd s.heap d xs)(hy:kr knd s.heap o ys)(hsz:xs.length+ys.length<=sizeLine)(hty:∀y∈ys,s.TypeIs (.ref y.2.1) "tuple")(hn:xs=[]->(ys.map λy=>knd.hash y.1).Nodup)(h:∀h',kr knd h' d (dN xs ys)->vx d s.heap h'->Q () {s with heap:=h' }):wpAny w.8 A (lq nm d o) Q E s:=by
 obtain⟨J,a,P,y1,V,t,m,K,L⟩:=id hy
 obtain⟨U,F,S,r,T,n,X,Y,W⟩:=id hd
 unfold lq
 rw[if_neg (by simpa using hne)]
 refine qa ?_
 unfold ma
 rw[if_neg (by rw[ho];exact zBf)]
 refine wpAny_pure (qa (vt y1 t ?_))
 by_cases k:((!(decide (a.size<=8)&&a.all λe=>(keyPart e.key).isSome))=true)/\F.isEmpty=true
 ·obtain⟨c,k⟩:=k
  rw[if_pos c]
  refine qa (vt r n ?_)
  rw[if_pos k]
  have v:xs=[]:=by
   simp_all
  refine qa (u3 y1 t ?_ ?_ ?_)
  ·intro e he
   rw[m] at he
   obtain⟨y,B,rfl⟩:=q0.mp he
   exact⟨hty y B,_,rfl⟩
  ·rw[m,wa]
   exact hn v
  ·have hm:dN xs ys=ys:=by
    subst v
    exact gN ys [] (by rw[dI];exact L)
   by_cases p:(!a.isEmpty)=true
   ·rw[if_pos p]
    refine qa (wpAny_updateDictKeysTo r n ?_ ?_)
    ·refine wpAny_pure (h _ ?_ (q4 _ _ _))
     rw[hm]
     exact⟨_,_,_,xb _ r (bc (xl n _)),T.mapDictKeys _,xl n _,m,λx v=>knd.keeps (K x v) r n (q4 _ _ _),L⟩
    ·rw[size_of_entries m];lia
   ·rw[if_neg p]
    refine wpAny_pure (h s.heap ?_ (pf d s.heap))
    have:a.size=0:=by simpa using p
    rw[size_of_entries m] at this
    have:ys=[]:=x4.mp this
    subst this
    exact hd
 ·by_cases c:((!(decide (a.size<=8)&&a.all λe=>(keyPart e.key).isSome))=true)
  case' pos =>
   rw[if_pos c]
   refine qa (vt r n ?_)
   rw[if_neg (λz=>k ⟨c,z⟩)]
  case' neg=>rw[if_neg c]
  all_goals
   refine qa (td y1 t (qa (vt y1 t (qa ?_))))
   rw[vz]
   refine wpAny_forIn_list _ (λrest _ G=>∃i h',G={s with heap:=h' }/\rest=qh i (a.size-i)/\i<=a.size/\kr knd h' d (dN xs (ys.take i))/\vx d s.heap h') _ (λj rest b G ⟨i,h',I,f,O,l,g⟩ => ?_) (λb G ⟨i,h',I,f,O,l,g⟩ => ?_) _ Kl ⟨0,s.heap,rfl,by simp[z7],kd _,hd,pf d s.heap⟩
   ·subst I
    have N:i<a.size:=by
     rcases wj i a.size with z|z
     all_goals simp_all
    rw[show a.size-i=(a.size-(i+1))+1 by lia,yr] at f
    injection f with e1 e2
    subst e1
    have R:ys.length=a.size:=(size_of_entries m).symm
    obtain⟨y,q⟩:∃y,ys[j]?=some y:=⟨ys[j]' '#',by simp⟩
    have he:a[j]?=some (gk knd y):=by rw[entry_at m,q];rfl
    have D:y∈ys:=zMo q
    have M:h'.get? o=some J:=(g.2 o (vi hne)).trans y1
    refine qa (vt (s:={s with heap:=h' }) M t ?_)
    rw[he]
    refine qa (ve (sY (s:={s with heap:=h' }) hr (knd.keeps (K y D) r n g) l ?_ λC hd2 u => ?_))
    ·have:=jW (ys.take j) xs
     rw[jv] at this
     lia
    ·have H:C.get? o=some J:=(u.2 o (vi hne)).trans M
     refine qa (td (s:={s with heap:=C}) H t ?_)
     rw[if_neg (by rw[bne_self_eq_false];exact zBf)]
     refine wpAny_pure ⟨j+1,C,rfl,e2,by lia,?_,g.trans u⟩
     have:dN xs (ys.take (j+1))=nk (dN xs (ys.take j)) y.1 y.2.1 y.2.2:=by
      rw[List.take_add_one,q]
      unfold dN
      grind
     rw[this];exact hd2
   ·subst I
    refine wpAny_pure ?_
    have:i=a.size:=by
     grind
    rw[this,size_of_entries m,vk] at l
    exact h h' l g
end
end HD
namespace Z
open PySem PySem.Spec PyProof.Rows L2
abbrev kS(P:Program)(w:World):ro P w Int.9:=tupleKind (Jr P w)
noncomputable def xsV(xs:List (List Int×Addr)):List (List Int×Addr×Value):=xs.map λp=>(p.1,p.2,kz true)
theorem aAR(xs:List (List Int×Addr)):(xsV xs).map (gk (kS P w))=xs.map tR:=by
 unfold xsV;rw[wa];rfl
theorem aDF(xs:List (List Int×Addr)):(xsV xs).map (·.1)=xs.map (·.1):=by
 unfold xsV;rw[wa];rfl
noncomputable def jI(ks:List Int.9)(k:List Int):List Int.9:=if k∈ks then ks else ks++[k]
noncomputable def j7(xs:List (List Int×Addr))(k:List Int)(b:Addr):List (List Int×Addr):=if k∈xs.map (·.1) then xs else xs++[(k,b)]
theorem zU(xs:List (List Int×Addr))(k:List Int)(b:Addr):(j7 xs k b).map (·.1)=jI (xs.map (·.1)) k:=by
 unfold j7 jI;split <;> simp
theorem xG(h:ks.Nodup)(k:List Int):(jI ks k).Nodup:=by
 unfold jI;split
 ·exact h
 ·rename_i n
  rw[xi]
  exact⟨h,by simp,λx b y a e=>n (by simp at a;rw[<- a,<- e];exact b)⟩
theorem aC9(ks:List Int.9)(k:List Int):(jI ks k).length<=ks.length+1:=by
 unfold jI;split
 ·omega
 ·simp
theorem aCF{k:List Int}{p:List Int×Addr}(h:p∈j7 xs k b):p∈xs\/p=(k,b):=by
 unfold j7 at h;split at h
 ·exact .inl h
 ·simpa using h
theorem i8{k:List Int}:∀(xs:List (List Int×Addr)),(atKey (xsV xs) k).isSome=decide (k∈xs.map (·.1))
 |[]=>by simp[xsV,atKey]
 |x::xs=>by
  have a:=i8 (k:=k) xs
  rw[atKey.eq_1] at a ⊢
  show (Option.map _ (Vm _ ((x.1,x.2,kz true)::xsV xs))).isSome=_
  rw[List.find?_cons]
  by_cases h:x.1=k
  ·simp[h]
  ·rw[decide_eq_false (show ¬((x.1,x.2,kz true).1=k) from h)]
   rw[Option.isSome_map] at a ⊢
   show (Vm _ (xsV xs)).isSome=_
   rw[a]
   apply decide_eq_decide.mpr
   rw[jo,jb]
   exact⟨.inr,λz=>z.elim (λe=>absurd e.symm h) id⟩
theorem u5(xs:List (List Int×Addr))(k:List Int)(b:Addr):nk (xsV xs) k b (.bool true)=xsV (j7 xs k b):=by
 rw[storedH.eq_1,i8]
 unfold j7
 by_cases h:k∈xs.map (·.1)
 ·rw[if_pos h,if_pos h.29]
  unfold xsV
  rw[wa]
  apply zw
  intro p _
  show putAt k (kz true) (p.1,p.2,kz true)=_
  rw[putAt.eq_1]
  split <;> rfl
 ·rw[if_neg h,if_neg (by rw[decide_eq_false h];exact zBf)]
  unfold xsV
  rw[qv];rfl
end Z
namespace Z
open PySem PySem.Spec PyProof.Rows L2
section
variable {k:List Int}
theorem items_int:∀{ks:List Int}{us:List Value},Vals (ks.map V.int) us->ItemsAre (Jr P w) ks us
 |[],_,r=>by rw[h8] at r;cases r;exact .nil
 |k::ks,_,r=>by
  rw[jo] at r
  cases r with
  |@cons x y l m h t =>
   obtain⟨a,rfl⟩:=(show ∃t,y=cb k t from h)
   exact .cons (by show yo k (cb k a)=true;simp[yo]) (items_int t)
theorem jK(I:Inv X pins σ H s)(h:SqT X.K H b (k.map V.int)):(kS X.prog X.w).is s.heap k b:=by
 obtain⟨its,r,⟨o,e,c,n,d⟩,_⟩:=I.tuple h
 exact⟨o,its.toArray,n,e,c,d,by simpa using items_int r⟩
theorem dM(I:Inv X pins σ H s)(h:StO X.K H (H a) a ks xs ep):(a==wg)=false/\kr (kS X.prog X.w) s.heap a (xsV xs)/\∃o,s.heap.get? a=some o/\o.ExactDict/\o.data = .dict (xs.map tR).toArray ep:=by
 obtain⟨⟨hd,o,b,d,c⟩,_⟩:=(show cM X.prog X.w H s.heap a (.ext (DSt a xs ep)) from I.hok a _ h.ob)
 refine⟨hd,⟨o,_,ep,b,d,c,by rw[aAR],λx f => ?_,by rw[aDF,h.keys];exact h.nd⟩,o,b,d,c⟩
 obtain⟨p,e,rfl⟩:=q0.mp f
 exact jK I (h.at_ p e)
theorem aE3(hd:(a==wg)=false)(d:kr (kS P w) h' a (xsV xs)):∃ep,cM P w H' h' a (.ext (DSt a xs ep)):=by
 obtain⟨o,h,ep,c,k,i,b,_⟩:=d
 have he:h=(xs.map tR).toArray:=by rw[aAR] at b;rw[<- b]
 subst he
 exact⟨ep,⟨hd,o,c,k,i⟩,⟨o,c⟩,λg1 g2 ⟨z,f,j,l,g⟩ e=>⟨z,f,e _ j,l,g⟩⟩
theorem rX{ys:List (List Int×Addr)}(I:Inv X pins σ H s)(h:StO X.K H (H a) a ks xs ep)(d:kr (kS X.prog X.w) h' a (xsV ys))(hs:vx a s.heap h'):∃ep',Inv X pins σ (upd H a (.ext (DSt a ys ep'))) {s with heap:=h',toks:=t' }:=by
 have hd:=(dM I h).1
 obtain⟨ep',ok⟩:=aE3 (H':=H) hd d
 have he:∃q,h'.get? a=some q:=let ⟨q,_,_,hq,_⟩:=d;⟨q,hq⟩
 exact⟨ep',I.write (x:=a) (e:=a) (by rw[h.ob];exact cm) '1' (λb q c z=>(hs.2 b c).trans z) he ok⟩
def yC(K:Fg)(neg:Bool):R2:=λx y H Q=>∃b k a ks xs ep,x = .ref b/\SqT K H b (k.map V.int)/\y = .ref a/\StO K H (H a) a ks xs ep/\Q (.bl (if neg=true then !decide (k∈ks) else decide (k∈ks))) H
theorem aJ9(hu:X.A.units+1<cLine):OpR X (vc .In) (yC X.K false):=by
 intro pins s σ H x y v u Q I e i h
 obtain⟨b,k,a,d,xs,j,rfl,g,rfl,c,q⟩:=h
 cases (show v=jh b from e)
 cases (show u=jh a from i)
 obtain⟨hd,f,_⟩:=dM I c
 refine wpAny_in_heap (cz hu) (jK I g) hd f ?_
 rw[i8,c.keys]
 exact⟨.bl (decide (k∈d)),H,I.tok _,rfl,q⟩
theorem aAK(hu:X.A.units+1<cLine):OpR X (vc .NotIn) (yC X.K true):=by
 intro pins s σ H x y v u Q I e i h
 obtain⟨b,k,a,d,xs,j,rfl,g,rfl,c,q⟩:=h
 cases (show v=jh b from e)
 cases (show u=jh a from i)
 obtain⟨hd,f,_⟩:=dM I c
 refine Ke (cz hu) (jK I g) hd f ?_
 rw[i8,c.keys]
 exact⟨.bl (!decide (k∈d)),H,I.tok _,rfl,q⟩
noncomputable def aKM(K:Fg):TSet:=λx y v H Q=>∃a b k ks xs ep,x = .ref a/\y = .ref b/\v = .bl true/\SqT K H b (k.map V.int)/\StO K H (H a) a ks xs ep/\∀ep',Q (upd H a (.ext (DSt a (j7 xs k b) ep')))
theorem aI2(hu:X.A.units+1<cLine):PSet X (aKM X.K):=by
 intro pins s σ H o i v ov m u Q I l j t h
 obtain⟨a,b,k,w,xs,x,rfl,rfl,rfl,r,d,q⟩:=h
 cases (show ov=jh a from l)
 cases (show m=jh b from j)
 cases (show u=kz true from t)
 obtain⟨hd,p,_⟩:=dM I d
 have n:(xsV xs).length<=sizeLine:=by unfold xsV;rw[zLm,<- zLm (f:=(·.1)) (as:=xs),d.keys];exact d.len
 refine JE (hsz:=n) (cz hu) (jK I r) p λy c g => ?_
 rw[u5] at c
 obtain⟨e,I'⟩:=rX I d c g
 exact⟨_,I',q e⟩
end
end Z
namespace Z
open PySem L2
noncomputable def tupI(k:List Int):D := .tup (k.map D.int)
inductive Stt(M:Mem):D->List Int.9->Prop
 |st (ks:List Int.9):Stt M (.st ks) ks
 |mt {a:Addr}{ks:List Int.9} (h:M a=some (.st ks)):Stt M (.mt a) ks
section
variable {K:Fg}
theorem Stt.sq{d:D}(q:Stt M d ks)(r:Rel K G H M)(h:Den K G d v):∃a xs ep,v = .ref a/\StO K G (H a) a ks xs ep:=by
 cases q with
 |st ks=>obtain⟨a,xs,ep,e,s⟩:=h.st_;exact⟨a,xs,ep,e,s.mv (Same.refl G) ((r.same _ _ s.ob).trans s.ob.symm)⟩
 |mt hm=>obtain⟨_,xs,ep,s⟩:=r.mem _ _ hm;exact⟨_,xs,ep,h.mt_,s⟩
theorem iA{ds:List Int}(h:Den K G (tupI ds) v):∃b,v = .ref b/\SqT K G b (ds.map V.int):=by
 obtain⟨b,vs,e,s,dn⟩:=Den.tup_ h
 rw[gG dn] at s
 exact⟨b,e,s⟩
theorem aH9{d:D}(q1:Stt M d ks)(h:k (.bl (decide (is∈ks))) M):Op2 K (yC K false) (tupI is) d M k:=λG H v1 v2 Q c j l q=>by
 obtain⟨b,g,m⟩:=iA j
 obtain⟨a,xs,i,e,f⟩:=q1.sq c l
 exact⟨b,is,a,ks,xs,i,g,R.bW c.same m,e,f.mv c.same rfl,q _ _ _ _ _ c.10 bN h⟩
theorem zD{d:D}(q1:Stt M d ks)(h:k (.bl (!decide (is∈ks))) M):Op2 K (yC K true) (tupI is) d M k:=λG H v1 v2 Q c j l q=>by
 obtain⟨b,g,m⟩:=iA j
 obtain⟨a,xs,i,e,f⟩:=q1.sq c l
 exact⟨b,is,a,ks,xs,i,g,R.bW c.same m,e,f.mv c.same rfl,q _ _ _ _ _ c.10 bN h⟩
theorem StO.add{o:Option HO}{ep':Nat}(h:StO K G o a ks xs ep)(hl:ks.length<sizeLine)(sb:SqT K G b (is.map V.int)):
  StO K G (.ext (DSt a (j7 xs is b) ep')).3 a (jI ks is) (j7 xs is b) ep':=
 ⟨xG h.nd is,by have:=aC9 ks is;lia,by rw[zU,h.keys],λp c=>by
  rcases aCF c with c|rfl
  ·exact h.at_ p c
  ·exact sb,rfl⟩
end
section
variable {F:Fin}{pos:Pos}{a b:Expr}
theorem mQ{i:Expr}(hu:X.A.units+1<cLine)(h:GE X o Γ M λd1 M1=>GE X i Γ M1 λd2 M2=>∃a is ks,d1 = .mt a/\d2=tupI is/\M2 a=some (.st ks)/\ks.length<sizeLine/\kg Γ (aL M2 a (.st (jI ks is))))(ha:∀v,assign (.Subscript o i pos) X.env v=(do
   let ov <- yz [v] (eval o X.env)
   let iv <- yz [v,ov] (eval i X.env)
   sf pos
   yz [v,ov,iv] (Jq ov iv v)
   Vg [v,ov,iv] []):=by intro _;rfl):GG X (.Subscript o i pos) (.bl true) Γ M kg:=λσ G H v Q d m e q=>by
 refine k5 (tQ pU pU (aI2 hu) ha) ?_
 refine h σ G H _ d m λv1 G1 H1 d1 M1 s1 p j => ?_
 refine j σ G1 H1 _ (d.up s1.gg) s1.rel λv2 G2 H2 d2 M2 s2 s ⟨a,is,ks,x1,t,hm,hl,r⟩ => ?_
 subst x1 t
 obtain⟨_,xs,n,g⟩:=s2.rel.mem _ _ hm
 obtain⟨b,l,f⟩:=iA s
 have c:=s1.trans s2
 refine⟨a,b,is,ks,xs,n,(p.up s2.gg).mt_,l,e.bl_,R.bW s2.rel.same f,g.mv s2.rel.same rfl,λk => ?_⟩
 exact q _ _ _ _ _ (c.trans (s2.rel.wrS hm (g.add hl f))) (d.up c.gg) r
theorem aAM(I:Inv X pins σ H s):Inv X pins σ (upd H s.heap.objs.size (.ext (DSt s.heap.objs.size [] 0))) {s with heap:=s.heap.push {cls := .type "dict", data := .dict #[]} }:=by
 have g:(s.heap.objs.size==wg)=false:=by
  have h:jx<s.heap.objs.size:=(I.mod.glob.keeps I.bk).lt
  exact beq_eq_false_iff_ne.mpr (vi (q3 (fg '$' h)))
 have b:cM X.prog X.w (upd H s.heap.objs.size (.ext (DSt s.heap.objs.size [] 0))) (s.heap.push {cls := .type "dict", data := .dict #[]}) s.heap.objs.size (.ext (DSt s.heap.objs.size [] 0)):=
  ⟨⟨g,_,qq _ rfl,⟨rfl,rfl,rfl⟩,rfl⟩,⟨_,qq _ rfl⟩,λg1 g2 ⟨z,d,f,i,e⟩ c=>⟨z,d,c _ f,i,e⟩⟩
 exact I.laid (a:=s.heap.objs.size) (t':=s.toks) (λ_ _ q=>qf _ q) (qo _) b
theorem aKK{K:Fg}{p:Addr}:StO K G (.ext (DSt p [] 0)).3 p [] [] 0:=⟨.nil,kd _,rfl,λp hp=>(nomatch hp),rfl⟩
theorem wX(h:∀a,M a=none->k (.mt a) (aL M a (.st []))):GE X (.Dict [] [] pos) Γ M k:=λσ G H Q c b q pins s I=>by
 have hf:=I.hok.fresh (qo s.heap.objs.size)
 refine Kh ⟨.ref s.heap.objs.size,_,aAM I,rfl,?_⟩
 exact q _ _ _ _ _ (b.newS hf aKK) iT (h _ (b.free hf).2)
theorem aFL(i:Nat){a:Addr}(hΓ:Γ[i]?=some (.mt a).3)(hM:M a=some (.st ks))(h:GS X ss (Γ.set i (.st ks).3) (dZ M a) F):GS X ss Γ M F:=λσ G H E c f q=>by
 obtain⟨xs,g,d,s1⟩:=f.frzS hM
 obtain⟨v,ev,e⟩:=c.get i _ hΓ
 have dl:Den X.K (upd G a (.ext (DSt a xs g))) (.st ks) v:=by rw[e.mt_];exact aJB (d.mv s1.gg (aR.trans d.ob.symm))
 have b:=(c.up s1.gg).set dl i
 have k:σ.set i v.3=σ:=by
  apply ze
  intro j
  rw[gS]
  by_cases z:i=j
  ·subst z
   rw[if_pos rfl,if_pos (ev.5).1,ev]
  ·rw[if_neg z]
 rw[k] at b
 exact h σ _ H E b s1.rel (q.up s1)
end
end Z
namespace Z
open PySem L2
section
end
end Z
namespace HD
open PySem PySem.Spec PyProof.Rows
theorem gK{α β:Type}(f:α->β):∀(l:List α) (i:Nat),(l.eraseIdx i).map f=(f.13).eraseIdx i
 |[],_=>by simp
 |x::l,0=>by simp
 |x::l,i+1=>by simp only[List.eraseIdx_cons_succ,jo];rw[gK f l i]
section
variable {K:Type}[DecidableEq K]{knd:ro prog w K}{E:Value->Shared->Prop}{d:Addr}{xs:List (K×Addr×Value)}{k:K}
theorem aCO{Q:Value->Shared->Prop}{p:Addr×Value}(hr:knd.room A.in1)(hk:knd.is s.heap k a)(hd:kr knd s.heap d xs)(hsz:xs.length<=sizeLine)(hj:xs[j]?=some (k,p))(h:∀h' t',kr knd h' d (xs.eraseIdx j)->vx d s.heap h'->Q p.2 {s with heap:=h',toks:=t' }):wpAny w.8 A (call (.builtin "dict.pop") [.ref d, .ref a]) Q E s:=by
 have t:s.TypeIs (.ref d) "dict" := hd.typeIs
 obtain⟨o,e,D,f,C,c,g,r,n⟩:=id hd
 have B:j<xs.length:=(hj.5).1
 have v:e.size=xs.length:=size_of_entries g
 refine ba F.slot_dict_pop t F.entry_dict_pop ?_ (F.args_dict_pop_2 _ _)
 refine qa (qa (gi t ?_.14))
 show wpAny w.8 A.in1 (if (keyPart (jh a)).isSome=true then _ else _) _ E s
 rw[if_neg (by show ¬(false=true);exact zBf)]
 refine qa (vt f c (qa ?_.14))
 have m:e.isEmpty=false:=by
  grind
 rw[m]
 dsimp only
 rw[if_neg zBf]
 refine qa ?_
 unfold K9
 refine ve (qa (knd.pyHash hr hk ?_))
 refine qa (Jv (s:={s with toks:=s.toks+knd.draws k}) hr hk f c g r n (λz=>absurd hj (z j p)) (λi q y => ?_))
 have l:i=j:=idxH_unique n y hj
 subst l
 have he:e[i]?=some (gk knd (k,p)):=by rw[entry_at g,hj];rfl
 have b:(e.eraseIdxIfInBounds i).toList=e.toList.eraseIdx i:=by rw[Array.toList_eraseIdxIfInBounds]
 refine qa (vt (s:={s with toks:=s.toks+knd.draws k}) f c ?_)
 rw[he]
 refine qa (Jj (s:={s with toks:=s.toks+knd.draws k}) f c ?_.14 '#' (by rw[<- qt,b,Qp];have:e.toList.length=e.size:=qt;split <;> lia))
 dsimp only
 rw[if_neg (by exact zBf)]
 refine qa (yi ⟨_,rfl,h _ _ ?_ (q4 _ _ _)⟩.14)
 refine⟨_,_,_,xb _ f (bc (xl c _)),C.mapDictKeys _,xl c _,?_,?_,?_⟩
 ·rw[b,g,gK]
 ·exact λx u=>knd.keeps (r x (rf u)) f c (q4 _ _ _)
 ·rw[gK]
  exact dj i n
end
end HD
namespace HD
open PySem PySem.Spec PyProof.Rows
section
variable {K:Type}[DecidableEq K]{knd:ro prog w K}{E:Value->Shared->Prop}{o:Addr}{ys:List (K×Addr×Value)}
theorem aBJ{Q:Value->Shared->Prop}(hr:knd.room A.in1.in1)(ho:(o==wg)=false)(hy:kr knd s.heap o ys)(hy':kr knd (s.heap.push {cls := .type "dict", data := .dict #[]}) o ys)(hsz:ys.length<=sizeLine)(hty:∀y∈ys,nP {s with heap:=s.heap.push {cls := .type "dict", data := .dict #[]} } (.ref y.2.1) "tuple")(hn:(ys.map λy=>knd.hash y.1).Nodup)(h:∀h',kr knd h' s.heap.objs.size ys->vx s.heap.objs.size (s.heap.push {cls := .type "dict", data := .dict #[]}) h'->Q (.ref s.heap.objs.size) {s with heap:=h' }):wpAny w.8 A (call (.type "dict") [.ref o]) Q E s:=by
 refine callType_codes (Q₁:=λobj s1=>obj=jh s.heap.objs.size/\s1={s with heap:=s.heap.push {cls := .type "dict", data := .dict #[]} }) F.kt_called_dict (F.kt_typeCall_dict_1 (jh o)) F.entry_dict_init (kt_code_dict_new (jh o) ⟨rfl,rfl⟩) λobj s1 ⟨k,l⟩ => ?_
 subst k l
 have a:=K8 (knd:=knd) s.heap
 have j:nP {s with heap:=s.heap.push {cls := .type "dict", data := .dict #[]} } (.ref s.heap.objs.size) "dict" := ni (s:={s with heap:=s.heap.push {cls := .type "dict", data := .dict #[]} }) a
 have b:nP {s with heap:=s.heap.push {cls := .type "dict", data := .dict #[]} } (.ref o) "dict" := ni (s:={s with heap:=s.heap.push {cls := .type "dict", data := .dict #[]} }) hy'
 have i:s.heap.objs.size≠o:=λe=>by
  obtain⟨ob,_,_,g,_⟩:=hy
  have:=qr g
  rw[<- e] at this
  exact absurd this (vm _)
 have f:(ys.map (·.1)).Nodup:=let ⟨_,_,_,_,_,_,_,_,z⟩:=hy;z
 refine⟨j,F.args_dict_init_2 _ _,?_⟩
 refine qa (qa (gi j ?_.14))
 refine qa (wpAny_typeOf b ?_)
 rw[if_neg '*']
 refine qa ?_
 unfold Vc
 refine qa ?_
 unfold Vb
 refine qa (fm b Jw ?_)
 rw[if_neg '$']
 refine qa (cf b F.slot_dict_iter.lookup ?_.14)
 rw[if_pos (by rfl)]
 refine qa (aD6 (xs:=[]) hr i ho a hy' (by simpa using hsz) hty (λ_=>hn) λh' c d => ?_).14
 rw[gN ys [] (by rw[dI];exact f),dI] at c
 refine qa ?_.14.14
 exact⟨rfl,h h' c d⟩
end
end HD
namespace HD
open PySem PySem.Spec PyProof.Rows
section
variable {E:Value->Shared->Prop}{d o:Addr}{od oo:Obj}{es eo:Array DictEntry}{e2:Nat}
end
end HD
namespace Z
open PySem L2
theorem aAN(xs:List (List Int×Addr))(i:Nat):(xsV xs).eraseIdx i=xsV (xs.eraseIdx i):=(HD.gK _ xs i).symm
theorem StO.erase{K:Fg}{o:Option HO}{ep':Nat}(h:StO K G o a ks xs ep)(i:Nat):StO K G (.ext (DSt a (xs.eraseIdx i) ep')).3 a (ks.eraseIdx i) (xs.eraseIdx i) ep':=
 ⟨dj i h.nd,jw (by rw[Qp];split <;> lia) h.len,by rw[HD.gK,h.keys],λp b=>h.at_ p (rf b),rfl⟩
section
theorem aHL(hu:X.A.units+1<cLine)(h:GE X o Γ M λd1 M1=>∃a ks,d1 = .mt a/\M1 a=some (.st ks)/\GE X e Γ M1 λd2 M2=>∃(ks:List Int.9) (is:List Int) (i:Nat),M2 a=some (.st ks)/\d2=tupI is/\ks[i]?=some is/\k (.bl true) (aL M2 a (.st (ks.eraseIdx i))))(hbase:ff o "pop" X.env (eval o X.env)=eval o X.env:=by rfl)(hfew:((yg cpos (starEach [e] X.env)).all (λx => !x.1)&&(cw cpos (yj [] X.env)).all (λx=>x.1.isSome)
   && decide (([e]:List Expr).length+([]:List cI).length+(if ([]:List cI).isEmpty then 0 else 1)<30))=true:=by rfl)(hline:(apos.endLine==cpos.line)=true:=by rfl)(htr:yg cpos (starEach [e] X.env)=[(false,eval e X.env)]:=by rfl):
  GE X (.Call (.Attribute o "pop" apos) [e] [] cpos) Γ M k:=λσ G H Q E T q pins s I=>by
 have k1:=h σ G H (λx H1=>∃a ks xs d,x = .ref a/\StO X.K H1 (H1 a) a ks xs d/\tU X e σ H1 λy H2=>∃b is ks xs d i,y = .ref b/\SqT X.K H2 b (is.map V.int)/\StO X.K H2 (H2 a) a ks xs d/\ks[i]?=some is/\∀g,Q (.bl true) (upd H2 a (.ext (DSt a (xs.eraseIdx i) g)))) E T
  (λv1 G1 H1 d1 M1 s1 U ⟨a,ks,D,hm,t⟩=>by
   subst D
   obtain⟨_,xs,d,sa⟩:=s1.rel.mem _ _ hm
   refine⟨a,ks,xs,d,U.mt_,sa.mv s1.rel.same rfl,t σ G1 H1 _ (E.up s1.gg) s1.rel λv2 G2 H2 d2 M2 s2 Y ⟨ks,is,i,n,D,l,J⟩ => ?_⟩
   subst D
   obtain⟨b,P,B⟩:=iA Y
   obtain⟨hG,xs,d,sx⟩:=s2.rel.mem _ _ n
   exact⟨b,is,ks,xs,d,i,P,R.bW s2.rel.same B,sx.mv s2.rel.same rfl,l,λg=>q _ _ _ _ _ ((s1.trans s2).trans (s2.rel.wrS n (sx.erase i))) bN J⟩) pins s I
 refine wpAny_Call_method hbase hfew hline PySem.F.plainAttrs_dict PySem.F.slot_dict_pop PySem.F.type_dict_pop (thn k1 λu s1 ⟨x,H1,I1,rx,a,ks,xs,d,ex,O,Z⟩ => ?_)
 subst ex
 cases (show u=jh a from rx)
 obtain⟨hd,dd,ob,t,N,h3⟩:=dM I1 O
 refine⟨dd.typeIs,λb z=>by cases z;exact⟨ob,t,N.2.1⟩,?_⟩
 rw[htr]
 refine df rfl (fk (QA (thn (Z pins s1 I1) λL s2 ⟨y,H2,I2,W,b,is,ks,xs,d,i,ey,B,c,l,q2⟩=>QT ?_)))
 subst ey
 cases (show L=jh b from W)
 obtain⟨aa,v,_⟩:=dM I2 c
 have S:(xsV xs).length=ks.length:=by unfold xsV;rw[zLm,<- zLm (f:=(·.1)) (as:=xs),c.keys]
 obtain⟨p,hp,r⟩:∃p,xs[i]?=some p/\p.1=is:=by
  rw[<- c.keys,qm] at l
  cases hx:xs[i]? with
  |none=>rw[hx] at l;cases l
  |some p=>rw[hx] at l;exact⟨p,rfl,by injection l⟩
 refine HD.aCO (knd:=kS X.prog X.w) (j:=i) (p:=(p.2,kz true)) (cz hu) (jK I2 B) v (by rw[S];exact c.len) (by unfold xsV;rw[qm,hp,<- r];rfl) λh' t' m C => ?_
 rw[aAN] at m
 obtain⟨g,I3⟩:=rX (t':=t') I2 c m C
 exact⟨.bl true,_,I3,rfl,q2 g⟩
end
end Z
namespace Z
open PySem L2
def aA3(K:Fg):List V->Hp->VK->Prop:=λxs H Q=>∃a ks ys ep,xs=[.ref a]/\StO K H (H a) a ks ys ep/\(ks.map jE).Nodup/\∀p ep',H p=none->Q (.ref p) (upd H p (.ext (DSt p ys ep')))
theorem yT(hu:X.A.units+2<cLine):dB X (.type "dict") (aA3 X.K):=by
 show '%'
 obtain⟨a,i,e,C,rfl,c,B,q⟩:=h
 cases r with
 |cons r0 r1 =>
  cases r1
  rename_i u
  cases (show u=jh a from r0)
  obtain⟨hd,x,_⟩:=dM I c
  have hf:=I.hok.fresh (qo s.heap.objs.size)
  have I1:=aAM I
  have g:StO X.K (upd H s.heap.objs.size (.ext (DSt s.heap.objs.size [] 0))) ((upd H s.heap.objs.size (.ext (DSt s.heap.objs.size [] 0))) a) a i e C:=c.mv (iZ hf) (aG (aT c.ob hf))
  obtain⟨_,j,_⟩:=dM I1 g
  have v:(xsV e).length=i.length:=by unfold xsV;rw[zLm,<- zLm (f:=(·.1)) (as:=e),c.keys]
  refine HD.aBJ (knd:=kS X.prog X.w) (by show X.A.units+1+1<cLine;omega) hd x j (by rw[v];exact c.len) (λy E => ?_) ?_ λF l k => ?_
  ·obtain⟨p,m,rfl⟩:=q0.mp E
   obtain⟨t,_,⟨n,g1,g2,_⟩,_⟩:=I1.tuple (g.at_ p m)
   exact⟨n,g1,g2⟩
  ·have hm:(xsV e).map (λy=>(kS X.prog X.w).hash y.1)=i.map jE:=by
    rw[<- c.keys];unfold xsV;rw[wa,wa];rfl
   rw[hm];exact B
  ·have D:(s.heap.objs.size==wg)=false:=by
    have h:jx<s.heap.objs.size:=(I.mod.glob.keeps I.bk).lt
    exact beq_eq_false_iff_ne.mpr (vi (q3 (fg '$' h)))
   obtain⟨d,ok⟩:=aE3 (H':=H) D l
   refine⟨.ref s.heap.objs.size,_,I.laid (a:=s.heap.objs.size) (o := .ext (DSt s.heap.objs.size e d)) (t':=s.toks) (λb u z => ?_) (qo _) ok,rfl,q _ d hf⟩
   exact (k.2 b (q3 (qr z))).trans (qf _ z)
theorem aDP{K:Fg}{d:D}(q1:Stt M d ks)(hn:(ks.map jE).Nodup)(h:∀a,M a=none->k (.mt a) (aL M a (.st ks))):OpN K (aA3 K) [d] M k:=λG H vs Q c e q=>by
 obtain⟨v,rfl,j⟩:=dens1 e
 obtain⟨a,xs,l,g,b⟩:=q1.sq c j
 refine⟨a,ks,xs,l,by rw[g],b.mv c.same rfl,hn,λp i f => ?_⟩
 exact q _ _ _ _ _ (c.newS f ⟨b.nd,b.len,b.keys,b.at_,rfl⟩) iT (h p (c.free f).2)
end Z
namespace HD
open PySem PySem.Spec PyProof.Rows
noncomputable def SEq(d o:Addr):PySem.Spec:=λ_ R s=>∃od oo es ep e2,s.heap.get? d=some od/\od.ExactDict/\od.data = .dict es ep/\s.heap.get? o=some oo/\oo.ExactDict/\oo.data = .dict #[] e2/\(d==wg)=false/\(o==wg)=false/\R (Except.ok (Flow.ret (.bool es.isEmpty))) s
theorem aCR(d o:Addr):Meets (Builtin.«dict.__eq__» {pos:=[.ref d, .ref o]}) (SEq d o):=by
 refine Meets.of_wp λprog w A R s ⟨p,q,a,r,t,b,m,i,g,k,j,hd,l,h⟩ => ?_
 have n:=rG b m
 have c:=rG g k
 refine qa (qa (gi n ?_.14))
 refine qa (fm c Jw ?_)
 rw[if_neg '$']
 refine qa (qa (qa ?_).14).14
 unfold Va
 unfold ma
 rw[if_neg (by rw[hd];exact zBf),if_neg (by rw[l];exact zBf)]
 refine qa (qa (qa (vt b i (qa (vt g j ?_)))).14).14
 by_cases he:a.size=0
 ·have f:a = #[]:=Array.size_eq_zero_iff.mp he
  subst f
  rw[if_neg '*']
  refine qa (td b i (qa ?_))
  rw[vz]
  refine wpAny_pure ⟨_,rfl,h⟩.14.14
 ·have f:a.isEmpty=false:=by
   cases e:a.isEmpty with
   |false=>rfl
   |true=>exact absurd (by simpa using e) he
  rw[if_pos (by simpa using he)]
  rw[f] at h
  exact qa (zp ⟨_,rfl,h⟩.14.14)
end HD
namespace Z
open PySem L2
def rEqE(K:Fg):R2:=λx y H Q=>∃a ks xs ep b ms ys ep2,x = .ref a/\StO K H (H a) a ks xs ep/\y = .ref b/\StO K H (H b) b ms ys ep2/\ms=[]/\Q (.bl ks.isEmpty) H
theorem aIY(hu:X.A.units<cLine):OpR X (vc .Eq) (rEqE X.K):=by
 intro pins s σ H x y v u Q I k r h
 obtain⟨a,f,xs,C,b,ms,n,w,rfl,i,rfl,g,rfl,q⟩:=h
 cases (show v=jh a from k)
 cases (show u=jh b from r)
 obtain⟨d,c,m,g1,g2,g3⟩:=dM I i
 obtain⟨hd2,e,l,o,t,B⟩:=dM I g
 have p:n=[]:=fz.mp g.keys
 subst p
 have j:(xs.map tR).toArray.isEmpty=f.isEmpty:=by
  rw[<- i.keys]
  cases xs <;> rfl
 refine fx (op := .Eq) c.typeIs e.typeIs PySem.F.slot_dict_eq PySem.F.entry_dict_eq (PySem.F.args_dict_eq_2 _ _) (HD.aCR a b) ⟨m,l,_,_,_,g1,g2,g3,o,t,B,d,hd2,?_⟩ hu
 rw[j]
 exact⟨(λz=>nomatch z), .bl f.isEmpty,H,I,rfl,q⟩
theorem aIR{K:Fg}{d e:D}(q1:Stt M d ks)(q2:Stt M e [])(h:k (.bl ks.isEmpty) M):Op2 K (rEqE K) d e M k:=λG H v1 v2 Q c n o q=>by
 obtain⟨a,xs,l,g,p⟩:=q1.sq c n
 obtain⟨b,j,f,i,m⟩:=q2.sq c o
 exact⟨a,ks,xs,l,b,[],j,f,g,p.mv c.same rfl,i,m.mv c.same rfl,rfl,q _ _ _ _ _ c.10 bN h⟩
end Z
namespace HT
open PySem PyProof.Rows
section
open PySem.SeqAt
open PySem.AutoSeq1 (wpAny_loadPart')
open PySem.MeetsSeq PySem.MeetsSeq2 PySem.MeetsSeq3
theorem uP{vs ws:List Value}{ns:List Int}(hv:IntsAre vs ns)(hw:IntsAre ws ms)(hz:vs.zip ws=[]):(!lexLt ms ns)=decide (ns.length<=ms.length):=by
 cases hv with
 |nil =>
  cases hw with
  |nil=>rfl
  |cons c u hw=>rfl
 |cons a t hv =>
  cases hw with
  |nil=>rfl
  |cons c u hw=>rw[yd] at hz;cases hz
theorem rL(l b:Addr)(items items2:Array Value)(n n2:Nat)(dd dd2:Option Addr)(sl sl2:Array (Option Value))(ns ms:List Int)(hi:IntsAre items.toList ns)(hj:IntsAre items2.toList ms):
  Meets (Builtin.«tuple.__le__» ⟨[.ref l, .ref b],[]⟩)
   (λ_ R s=>s.heap.get? l=some {cls := .type "tuple", dict:=dd,data := .seq items n,slots:=sl}/\s.heap.get? b=some {cls := .type "tuple", dict:=dd2,data := .seq items2 n2,slots:=sl2} /\
    R (.ok (.ret (.bool (!lexLt ms ns)))) s):=
 .of_wp λprog w A R s h=>by
  obtain⟨B,g,d,z,os⟩:=s
  obtain⟨hl,G,h⟩:=h
  have f2:=mz
  have K:items.size=ns.length:=by rw[<- hi.length];simp
  have H:items2.size=ms.length:=by rw[<- hj.length];simp
  wp_walk using wpAny_loadPart' hl,wpAny_loadPart' G,wpAny_forIn_list _ (λrest b D=>b.1=none/\D=⟨B,g,d,z,os⟩/\∃(vs ws:List Value) (i f:List Int),rest=vs.zip ws /\
   IntsAre vs i/\IntsAre ws f/\i.length+items2.size=f.length+items.size/\R (.ok (.ret (.bool (!lexLt f i)))) ⟨B,g,d,z,os⟩) _
  case turn =>
   rintro⟨y,x⟩ rest b D ⟨r,rfl,vs,ws,i,f,m,p,o,hlen,j⟩
   cases p with
   |nil=>rw[Q2] at m;cases m
   |cons a t hvi' =>
    cases o with
    |nil=>rw[QO] at m;cases m
    |cons c u hwi' =>
     rw[yd] at m
     injection m with hyx hrest
     injection hyx with hy hx
     subst hy hx
     rw[fA] at j
     simp only[qy] at hlen
     obtain⟨e,he,k⟩:=sM A.in1 ⟨B,g,d,z,os⟩ a t c u
     refine qa (he prog w _ _ ?_)
     cases e with
     |true =>
      rw[if_pos (k.mp rfl).symm] at j
      wp_walk
      exact⟨rfl,rfl,_,_,_,_,hrest,hvi',hwi',by omega,j⟩
     |false =>
      have F:a≠c:=λq=>absurd (k.mpr q) zBf
      rw[if_neg (vi F),show (!decide (c<a))=decide (a<=c) from by
       by_cases v:c<a
       ·rw[decide_eq_true v,decide_eq_false '!'];rfl
       ·rw[decide_eq_false v,decide_eq_true '!'];rfl] at j
      have C:∀(Q:Value->Shared->Prop) (E:Value->Shared->Prop),Q (.bool (decide (a<=c))) ⟨B,g,d,z,os⟩->wpAny w.8 A.in1 (fc .LtE (.int a t) (.int c u)) Q E ⟨B,g,d,z,os⟩:=
       λQ E h=>(K4 h:wpAny w.8 A.in1 (vc .LtE (.int a t) (.int c u)) Q E _)
      wp_walk using C
      exact⟨_,rfl,by simpa using j⟩
  case fin =>
   rintro⟨J,I⟩ D ⟨r,rfl,vs,ws,i,f,m,p,o,hlen,j⟩
   simp only at r
   subst r
   rw[uP p o m.symm,show decide (i.length<=f.length)=decide (items.size<=items2.size) from by
    by_cases v:i.length<=f.length
    ·rw[decide_eq_true v,decide_eq_true '!']
    ·rw[decide_eq_false v,decide_eq_false '!']] at j
   wp_walk
   exact⟨_,rfl,by simpa[du] using j⟩
  case h =>
   exact⟨rfl,rfl,items.toList,items2.toList,ns,ms,rfl,hi,hj,by omega,h⟩
end
theorem yH{E:Value->Shared->Prop}{l:Addr}{items items2:Array Value}{ns:List Int}{Q:Value->Shared->Prop}(hl:IsTup s.heap l items)(hb:IsTup s.heap b items2)(hi:IntsAre items.toList ns)(hj:IntsAre items2.toList ms)(hu:A.units<cLine)(h:Q (.bool (!lexLt ms ns)) s):wpAny w.8 A (vc .LtE (.ref l) (.ref b)) Q E s:=by
 obtain⟨⟨cls,j,data,k⟩,f,g,n,hd⟩:=id hl
 obtain⟨⟨i,e,data2,d⟩,c,a,m,hd2⟩:=id hb
 simp only at g hd a hd2
 subst g hd a hd2
 exact fx (op := .LtE) ⟨_,f,rfl⟩ ⟨_,c,rfl⟩ PySem.F.slot_tuple_le PySem.F.entry_tuple_le (PySem.F.args_tuple_le_2 _ _) (rL l b items items2 n m j e k d ns ms hi hj)
  ⟨f,c,show kz (!lexLt ms ns)≠Qa/\Q (.bool (!lexLt ms ns)) s from ⟨(λx=>nomatch x),h⟩⟩ hu
end HT
namespace Z
open PySem L2
def rLeT(K:Fg):R2:=λx y H Q=>∃a b ns ms,x = .ref a/\y = .ref b/\SqT K H a (ns.map V.int)/\SqT K H b (ms.map V.int)/\Q (.bl (!HT.lexLt ms ns)) H
theorem aHY(hu:X.A.units<cLine):OpR X (vc .LtE) (rLeT X.K):=by
 intro pins s σ H x y v u Q I f m h
 obtain⟨a,b,ns,ms,rfl,rfl,i,l,q⟩:=h
 cases (show v=jh a from f)
 cases (show u=jh b from m)
 obtain⟨d,r1,e,_⟩:=I.tuple i
 obtain⟨c,r2,g,_⟩:=I.tuple l
 have k:cq d.toArray.toList ns:=intsAre_of r1
 have j:cq c.toArray.toList ms:=intsAre_of r2
 exact HT.yH e g k j hu ⟨.bl (!HT.lexLt ms ns),H,I,rfl,q⟩
theorem aI0{K:Fg}{js:List Int}(h:k (.bl (!HT.lexLt js is)) M):Op2 K (rLeT K) (tupI is) (tupI js) M k:=λG H v1 v2 Q c g i q=>by
 obtain⟨a,d,j⟩:=iA g
 obtain⟨b,e,f⟩:=iA i
 exact⟨a,b,is,js,d,e,R.bW c.same j,R.bW c.same f,q _ _ _ _ _ c.10 bN h⟩
section
variable {F:Fin}{body:List Stmt}{pos:Pos}
theorem p6(h:GE X iter Γ M λd M1=>∃a ds,d = .mt a/\M1 a=some '8'/\∃I:Nat->Gm->Mem->Prop,I 0 Γ M1/\(∀i Γ' M',I i Γ' M'->M' a=some '8') /\
   (∀i d Γ' M',ds[i]?=some d->I i Γ' M'->GG X tg d Γ' M' λΓ2 M2=>GS X body Γ2 M2 {F with nx:=I (i+1),ct:=I (i+1),bk:=F.nx})/\∀Γ' M',I ds.length Γ' M'->F.nx Γ' M')(hp:sj X.w.6 X.A X.env X.xe:=by exact gy)(hc:X.calm=true:=by rfl)(hs:∀x,foldedSetIterable iter X.env x=pure x:=by intro _;rfl):G1 X (.For tg iter body [] pos) Γ M F:=λσ G H E C N q=>by
 refine eN (aBL hp hc (zA pU) pUG lK hs) ?_
 refine h σ G H _ C N λv G1 H1 d M1 s1 O ⟨a,ds,Q,u,I,h0,g,f,l⟩ => ?_
 subst Q
 obtain⟨_,t,s,J⟩:=s1.rel.mem _ _ u
 refine⟨a,O.mt_, .inl ⟨⟨t,SqL.of s⟩,?_⟩⟩
 refine⟨λi m σ' H'=>m=ds.length-i/\i<=ds.length/\∃G' Γ' M',Stp X.K G1 H1 M1 G' H' M'/\EnvR X.K G' Γ' σ'/\I i Γ' M',⟨ds.length,by simp,kd _,G1,Γ,M1,Stp.refl s1.rel,C.up s1.gg,h0⟩,?_⟩
 rintro i m σ2 H2 ⟨rfl,R,G2,Γ2,M2,s2,k,p⟩
 obtain⟨_,vs,sq,n⟩:=s2.rel.mem _ _ (g _ _ _ p)
 have B:SqL X.K H2 a vs:=SqL.of sq
 by_cases c:i<ds.length
 ·refine .inr ⟨hX.go i H2 B (by rw[<- n.len];exact c),λσ' H'=>∃G' Γ' M',Stp X.K G1 H1 M1 G' H' M'/\EnvR X.K G' Γ' σ'/\I (i+1) Γ' M',λσ' H' z=>⟨ds.length-(i+1),by omega,rfl,c,z⟩,λx H3 y => ?_⟩
  obtain⟨L,P⟩:=hX.yld i H2 x H3 B y (by rw[<- n.len];exact c)
  subst L
  obtain⟨d,hd,ex⟩:=n.get' P
  refine f i d Γ2 M2 hd p σ2 G2 _ x _ k s2.rel ex λσ4 G4 H4 Γ4 M4 s4 r D => ?_
  have b:=s2.trans s4
  refine D σ4 G4 H4 _ r s4.rel ⟨λσ5 G5 H5 Γ5 M5 s5 j o=>⟨G5,Γ5,M5,b.trans s5,j,o⟩,q.rt.up (s1.trans b),q.nx.up (s1.trans b),λσ5 G5 H5 Γ5 M5 s5 j o=>⟨G5,Γ5,M5,b.trans s5,j,o⟩⟩
 ·have e:i=ds.length:=by omega
  subst e
  exact .inl ⟨hX.stop _ H2 B (by rw[<- n.len];exact qo _),q.nx _ _ _ _ _ (s1.trans s2) k (l _ _ p)⟩
end
end Z
namespace R
open PySem L2
noncomputable def edge(zs:List Str)(f p b:Nat):Bool:=
 let on:=if f%2=0 then aH zs (p:Int) (b:Int) else aH zs (b:Int) (p:Int)
 let off:=if f%2=0 then aH zs ((p:Int)-1) (b:Int) else aH zs (b:Int) ((p:Int)-1)
 if f<2 then on && !off else off && !on
abbrev RS:=List (Nat×Nat)×Option Nat
noncomputable def rstep(q:RS)(i:Nat)(t:Bool):RS:=match t,q.2 with
 |true,none=>(q.1,some i)
 |true,some b=>(q.1,some b)
 |false,none=>(q.1,none)
 |false,some b=>(q.1++[(b,i)],none)
noncomputable def rto(bs:List Bool):Nat->RS
 |0=>([],none)
 |n+1=>rstep (rto bs n) n (bs.getD n false)
noncomputable def runs(bs:List Bool):List (Nat×Nat):=(rto (bs++[false]) (bs.length+1)).1
structure RInv(bs:List Bool)(n:Nat)(q:RS):Prop where
 bd:∀p∈q.1,p.1<p.2/\p.2<n
 bg:∀b,q.2=some b->b<n
 len:q.1.length<=n
 any:(q.1≠[]\/q.2≠none)↔∃i,i<n/\bs.getD i false=true
theorem any_succ{bs:List Bool}:(∃i,i<n+1/\bs.getD i false=true)↔((∃i,i<n/\bs.getD i false=true)\/bs.getD n false=true):=by
 constructor
 ·rintro⟨i,a,e⟩
  by_cases h:i=n
  ·subst h;exact .inr e
  ·exact .inl ⟨i,by lia,e⟩
 ·rintro (⟨i,a,e⟩|e)
  ·exact⟨i,by lia,e⟩
  ·exact⟨n,by lia,e⟩
theorem lY(bs:List Bool):∀n,RInv bs n (rto bs n)
 |0=>⟨λp h=>(nomatch h),λb h=>(nomatch h),qo _,by simp[rto]⟩
 |n+1=>by
  have I:=lY bs n
  show RInv bs (n+1) (rstep (rto bs n) n (bs.getD n false))
  generalize hq:rto bs n=q at I
  obtain⟨e,bg⟩:=q
  have a:=I.any
  cases ht:bs.getD n false with
  |true =>
   cases bg with
   |none=>exact⟨λp h=>by have:=I.bd p h;lia,λb h=>by cases h;lia,by have:=I.len;simp only[rstep] at *;lia,by rw[any_succ,ht];simp[rstep]⟩
   |some b=>exact⟨λp h=>by have:=I.bd p h;lia,λc h=>by cases h;have:=I.bg b rfl;lia,by have:=I.len;simp only[rstep] at *;lia,by rw[any_succ,ht];simp[rstep]⟩
  |false =>
   cases bg with
   |none=>exact⟨λp h=>by have:=I.bd p h;lia,λb h=>(nomatch h),by have:=I.len;simp only[rstep] at *;lia,by rw[any_succ,ht,<- a];simp[rstep]⟩
   |some b =>
    have d:=I.bg b rfl
    refine⟨λp h => ?_,λc h=>(nomatch h),by have:=I.len;simp only[rstep,qe,qy,vg] at *;lia,by rw[any_succ,ht,<- a];simp[rstep]⟩
    rcases qp.mp h with h|h
    ·have:=I.bd p h;lia
    ·rw[qi] at h;subst h;exact⟨d,wd _⟩
theorem aEC(bs:List Bool)(n:Nat)(h:bs.getD n false=false):(rto bs (n+1)).2=none:=by
 show (rstep (rto bs n) n (bs.getD n false)).2=none
 rw[h]
 generalize rto bs n=q
 obtain⟨b,a⟩:=q
 cases a <;> rfl
theorem aF6{bs:List Bool}{p:Nat×Nat}(h:p∈runs bs):p.1<p.2/\p.2<=bs.length:=by
 have:=(lY (bs++[false]) (bs.length+1)).bd p h
 lia
theorem sS(bs:List Bool):(runs bs).length<=bs.length+1:=(lY (bs++[false]) (bs.length+1)).len
theorem getD_snoc(bs:List Bool)(i:Nat):(bs++[false]).getD i false=bs.getD i false:=by
 rw[zGd,zGd]
 by_cases h:i<bs.length
 ·rw[qn h]
 ·rw[qj '#',jq (l:=bs) '#']
  by_cases a:i-bs.length=0
  ·rw[a];rfl
  ·rw[jq (by simp;lia)]
noncomputable def cX(zs:List Str)(f p n:Nat):List Bool:=(qz n).map (edge zs f p)
end R
namespace Q
open PySem L2 Z
def aLA:Ct:=λds M k=>∃(x y:D) (zs:List Str) (f p b:Nat),ds=[.tup [x,y, .tup (zs.map .str)], .int (f:Int), .int (p:Int), .int (b:Int)]/\(∀z∈zs,z.length<=1000)/\k (.bl (R.edge zs f p b)) M
noncomputable def prD(p:Nat×Nat):D := .tup [.int (p.1:Int), .int (p.2:Int)]
noncomputable def bgD:Option Nat->D
 |some b => .int (b:Int)
 |none => .non
def aL0:Ct:=λds M k=>∃bs:List Bool,ds=[.lst (bs.map .bl)]/\bs.length<=1000/\k (.lst ((R.runs bs).map prD)) M
noncomputable def bI(f:Nat)(xs ys:List D):List D:=if f%2=0 then ys else xs
noncomputable def cA(f:Nat)(xs ys:List D):List D:=if f%2=0 then xs else ys
def aDM:Ct:=λds M k=>∃(xs ys:List D) (zs:List Str) (f p:Nat),ds=[bL xs ys zs, .int (f:Int), .int (p:Int)]/\(∀z∈zs,z.length<=1000)/\xs.length<=100/\ys.length<=100/\k (.lst ((R.runs (R.cX zs f p ((bI f xs ys).length-1))).map prD)) M
noncomputable def mkS(f:Nat)(l:D)(al:List D)(r:Nat×Nat):D := .tup [.int (f:Int),l,al.getD r.1 .non,al.getD r.2 .non]
noncomputable def iH(zs:List Str)(f:Nat)(al:List D)(p:Nat)(l:D):List D:=(R.runs (R.cX zs f p (al.length-1))).map (mkS f l al)
noncomputable def dL(zs:List Str)(f:Nat)(ls al:List D)(n:Nat):List D:=(qz n).flatMap λi=>(ls[i]?.map (iH zs f al i)).getD []
noncomputable def dJ(zs:List Str)(xs ys:List D)(n:Nat):List D:=(qz n).flatMap λf=>dL zs f (cA f xs ys) (bI f xs ys) (cA f xs ys).length
def aH8:Ct:=λds M k=>∃(xs ys:List D) (zs:List Str),ds=[bL xs ys zs]/\(∀z∈zs,z.length<=1000)/\xs.length<=100/\ys.length<=100/\∀a,M a=none->k (.mt a) (aL M a (.lst (dJ zs xs ys 4)))
theorem uV{f:Nat}{ls:List D}{l:D}(h:ls[i]?=some l):dL zs f ls al (i+1)=dL zs f ls al i++iH zs f al i l:=by
 unfold dL
 rw[yf,fI]
 congr 1
 simp[h]
theorem m8{xs:List D}(n:Nat):dJ zs xs ys (n+1)=dJ zs xs ys n++dL zs n (cA n xs ys) (bI n xs ys) (cA n xs ys).length:=by
 unfold dJ
 rw[yf,fI]
 congr 1
 simp
theorem i5(zs:List Str)(f p n:Nat):(R.cX zs f p n).length=n:=by simp[R.cX]
theorem uI{f:Nat}{p:Nat}{l:D}:(iH zs f al p l).length<=al.length-1+1:=by
 unfold iH
 rw[zLm]
 exact jw (R.sS _) (by rw[i5];exact qo _)
theorem kF{zs:List Str}{f:Nat}{ls:List D}(ha:al.length<=100):∀n,(dL zs f ls al n).length<=n*101
 |0=>by simp[dL]
 |n+1=>by
  have a:=kF (zs:=zs) (f:=f) (ls:=ls) ha n
  unfold dL at a ⊢
  rw[yf,fI,qe,Km]
  refine JH a ?_
  simp only[cn,List.flatMap_nil,vv]
  cases ls[n]? with
  |none=>simp
  |some x=>exact jw uI '#'
theorem lA{f:Nat}{xs:List D}(hx:xs.length<=100)(hy:ys.length<=100):(bI f xs ys).length<=100:=by unfold bI;split <;> assumption
theorem qS{f:Nat}{xs:List D}(hx:xs.length<=100)(hy:ys.length<=100):(cA f xs ys).length<=100:=by unfold cA;split <;> assumption
theorem oO{zs:List Str}{xs:List D}(hx:xs.length<=100)(hy:ys.length<=100):∀n,(dJ zs xs ys n).length<=n*10100
 |0=>by simp[dJ]
 |n+1=>by
  have a:=oO (zs:=zs) hx hy n
  rw[m8,qe,Km]
  refine JH a (jw (kF (lA hx hy) _) ?_)
  have:=qS (f:=n) hx hy
  lia
theorem sJ{xs:List D}(f:Nat):atI [D.tup xs, .tup ys, .tup (zs.map .str)] (1-(f:Int)%2)=some (.tup (bI f xs ys)):=by
 rcases pb f with h|h
 ·have:(f:Int)%2=0:=by lia
  rw[this];unfold bI;rw[if_pos h];rfl
 ·have:(f:Int)%2=1:=by lia
  rw[this];unfold bI;rw[if_neg '#'];rfl
theorem aCM{xs:List D}(f:Nat):atI [D.tup xs, .tup ys, .tup (zs.map .str)] ((f:Int)%2)=some (.tup (cA f xs ys)):=by
 rcases pb f with h|h
 ·have:(f:Int)%2=0:=by lia
  rw[this];unfold cA;rw[if_pos h];rfl
 ·have:(f:Int)%2=1:=by lia
  rw[this];unfold cA;rw[if_neg '#'];rfl
theorem aDW(bs:List Bool):bs.map D.bl++[D.bl false]=(bs++[false]).map D.bl:=by simp
theorem aG0{bs:List Bool}(h:bs[i]?=some t):bs.getD i false=t:=by rw[zGd,h];rfl
theorem at_getD(h:i<al.length):atI al (i:Int)=some (al.getD i .non):=by
 rw[zGd,zGe h]
 exact bU (zGe h)
def Diff(ls:List D):Prop:=(∀l∈ls,okD 1 l=true)/\∀(i j:Nat) (l m:D),i<j->ls[i]?=some l->ls[j]?=some m->eqD l m=false
theorem aHN{bt a b:Int}(hb:bt=1\/bt=2\/bt=9)(h:a<b):eqD (c8 bt a) (c8 bt b)=false:=by
 simp only[c8,eqD,eqDs,xt]
 cases e:(a/((va a bt:Nat):Int)==b/((va b bt:Nat):Int))&&(bt/((va a bt:Nat):Int)==bt/((va b bt:Nat):Int)) with
 |false=>rfl
 |true =>
  exfalso
  rw[jm,beq_iff_eq,beq_iff_eq] at e
  obtain⟨m,o⟩:=e
  have n:0<bt:=by omega
  have i:((va a bt:Nat):Int)∣a:=dg ..
  have j:((va a bt:Nat):Int)∣bt:=cu ..
  have k:((va b bt:Nat):Int)∣b:=dg ..
  have l:((va b bt:Nat):Int)∣bt:=cu ..
  have p:=bf i
  have g:=bf j
  have f:=bf k
  have d:=bf l
  rw[<- o] at d
  rw[<- m] at f
  have c:bt/((va a bt:Nat):Int)≠0:=λz=>by rw[z] at g;omega
  have:((va a bt:Nat):Int)=((va b bt:Nat):Int):=Int.eq_of_mul_eq_mul_left c (g.trans d.symm)
  rw[<- this] at f
  omega
theorem aCC{bt:Int}(h:Ats bt ats):Diff (ats.map (c8 bt)):=by
 refine⟨λl hl => ?_,λi j l m c hl hm => ?_⟩
 ·obtain⟨a,_,rfl⟩:=q0.mp hl;rfl
 ·obtain⟨a,e,rfl⟩:=bK hl
  obtain⟨b,d,rfl⟩:=bK hm
  obtain⟨g1,rfl⟩:=zGs e
  obtain⟨g2,rfl⟩:=zGs d
  exact aHN h.bt (jz.mp h.up i j g1 g2 c)
end Q
namespace R
open PySem L2
noncomputable def gQ(w:Nat)(zs:List Str):List Str:=(qz w).map λi=>ofL (zs.map (atS · i))
theorem sL(w:Nat)(zs:List Str):(gQ w zs).length=w:=by simp[gQ]
theorem vV{w:Nat}(h:i<w):(gQ w zs)[i]?=some (ofL (zs.map (atS · i))):=by simp[gQ,h]
theorem aBN{w:Nat}(h:Good w zs):Good zs.length (gQ w zs):=λz a=>by
 unfold gQ at a
 obtain⟨i,b,rfl⟩:=q0.mp a
 rw[j2] at b
 refine⟨by rw[fQ,zLm],?_⟩
 show (zs.map (atS · i)).all sgn=true
 rw[JY,yu]
 intro y c
 rcases mE h c b with e|e <;> simp only[Function.comp,e] <;> rfl
theorem aG4{w:Nat}(h:Good w zs)(a u:Int):aH (gQ w zs) a u=aH zs u a:=by
 by_cases d:a<0
 ·rw[bZ d,bR d]
 by_cases f:u<0
 ·rw[bR f,bZ f]
 obtain⟨i,rfl⟩:∃i:Nat,u=(i:Int):=⟨u.toNat,by lia⟩
 obtain⟨j,rfl⟩:∃j:Nat,a=(j:Int):=⟨a.toNat,by lia⟩
 by_cases g:w<=i
 ·rw[b9 (by rw[sL];lia)]
  by_cases b:j<zs.length
  ·rw[eJ (z:=zs[j]) (by simp[b]) (by rw[(h zs[j] (ky b)).1];lia)]
  ·rw[b9 '#']
 ·have e:(gQ w zs)[((i:Nat):Int).toNat]?=some (ofL (zs.map (atS · i))):=by rw[jj];exact vV '#'
  by_cases b:j<zs.length
  ·have hlen:=(h zs[j] (ky b)).1
   rw[kG (z:=ofL (zs.map (atS · i))) (c:=atS zs[j] i) '#' '#' e (by rw[jj];show (zs.map (atS · i))[j]?=_;simp[b]),
    kG (z:=zs[j]) (c:=atS zs[j] i) '#' '#' (by simp[b]) (by rw[jj];exact j5 '#')]
  ·rw[eJ e (by rw[fQ,zLm];lia),b9 '#']
theorem wL{w:Nat}(h:Good w zs){k:Nat}{z:Str}(hz:zs[j]?=some z)(hk:k<=w):
  (ofL (46::z.cps.toList++[46])).cps.toList[k]?=some (sg (aH zs ((k:Int)-1) (j:Int)))/\(ofL (46::z.cps.toList++[46])).cps.toList[k+1]?=some (sg (aH zs (k:Int) (j:Int))):=by
 have d:j<zs.length:=(hz.5).1
 have f:(lW w zs)[j+1]?=some (ofL (46::z.cps.toList++[46])):=by
  unfold lW
  rw[qx,zj,kc,qn (by rw[zLm];exact d),qm,hz]
  rfl
 obtain⟨i,a,_,c⟩:=wW h (k:=k) (j:=j+1) '#' '#'
 obtain⟨g,b,_,e⟩:=wW h (k:=k+1) (j:=j+1) '#' '#'
 rw[f] at a b
 cases a;cases b
 rw[c,e]
 constructor
 ·congr 3;lia
 ·congr 3 <;> lia
end R
namespace Q
open PySem L2 Z
end Q
namespace R
open PySem L2
abbrev Cell:=List Int
noncomputable def jM(zs:List Str)(inside:Bool)(nx ny:Nat):List Cell:=(qz (ny+1)).flatMap λ(u:Nat)=>(qz (nx+1)).filterMap λ(a:Nat)=>if aH zs ((a:Int)-1) ((u:Int)-1)=inside then some [(a:Int)-1,(u:Int)-1] else none
theorem g9{w:Nat}(h:Good w zs){a u:Int}(ha:(w:Int)<=a):aH zs a u=false:=by
 by_cases c:u<0
 ·exact bR c
 by_cases b:(zs.length:Int)<=u
 ·exact b9 b
 have hl:u.toNat<zs.length:=by lia
 exact eJ (zGe hl) (by rw[(h _ (ky hl)).1];exact ha)
inductive Rch(cells:List Cell)(st:List '%')(s:Cell):Cell->Prop
 |refl:Rch cells st s s
 |step {x y:Int}{d:Int×Int}:Rch cells st s [x,y]->d∈st->[x+d.1,y+d.2]∈cells->Rch cells st s [x+d.1,y+d.2]
open Classical in
noncomputable def starts(cells:List Cell)(st:List '%'):Nat->List Cell
 |0=>[]
 |i+1=>match cells[i]? with
  |some c=>if ∃s∈starts cells st i,Rch cells st s c then starts cells st i else starts cells st i++[c]
  |none=>starts cells st i
theorem gU(cells:List Cell)(st:List '%'):∀i,(starts cells st i).length<=i
 |0=>qo _
 |i+1=>by
  have a:=gU cells st i
  simp only[starts]
  split
  ·split
   ·lia
   ·rw[qe,vp];lia
  ·lia
noncomputable def rowsOf(f:Int->Int->Bool)(w h:Nat):List Str:=(qz h).map λ(u:Nat)=>ofL ((qz w).map λ(a:Nat)=>sg (f (a:Int) (u:Int)))
end R
namespace R
structure Gth(cells:List Cell)(st:List '%')(s:Cell)(ks ws:List Cell)(busy:Option (Int×Int×List '%')):Prop where
 s0:s∈ks
 all:∀c∈ks,Rch cells st s c
 sub:∀c∈ks,c∈cells
 nd:ks.Nodup
 ww:∀c∈ws,c∈ks
 cl:∀x y,[x,y]∈ks->[x,y]∈ws\/(∃dn,busy=some (x,y,dn))\/∀d∈st,[x+d.1,y+d.2]∈cells->[x+d.1,y+d.2]∈ks
 bz:∀x y dn,busy=some (x,y,dn)->[x,y]∈ks/\∀d∈dn,[x+d.1,y+d.2]∈cells->[x+d.1,y+d.2]∈ks
section
variable {cells:List Cell}{st:List (Int×Int)}{s:Cell}{ks ws:List Cell}{x y:Int}{dn:List (Int×Int)}{d:Int×Int}
end
theorem lG{α:Type}{f:α->Int}:∀{l:List α},(f.13).Nodup->∀x∈l,∀y∈l,f x=f y->x=y
 |[],_,_,h,_,_,_=>nomatch h
 |z::l,h,x,a,y,b,e=>by
  rw[jo,vf] at h
  rcases jb.mp a with ex|a <;> rcases jb.mp b with c|b
  ·rw[ex,c]
  ·exact absurd (q0.mpr ⟨y,b,by rw[<- e,ex]⟩) h.1
  ·exact absurd (q0.mpr ⟨x,a,by rw[e,c]⟩) h.1
  ·exact lG h.2 x a y b e
theorem rZ{α:Type}{f:α->Int}:∀{l:List α},l.Nodup->(∀x∈l,∀y∈l,f x=f y->x=y)->(f.13).Nodup
 |[],_,_ => .nil
 |z::l,h,hi=>by
  rw[vf] at h
  rw[jo,vf]
  refine⟨λm => ?_,rZ h.2 λx b y a=>hi x (jn _ b) y (jn _ a)⟩
  obtain⟨y,a,e⟩:=q0.mp m
  exact h.1 (hi y (jn _ a) z (kh ..) e▸a)
end R
namespace Q
open PySem L2 Z
end Q
namespace R
open PySem L2
structure RFull(bs:List Bool)(n:Nat)(q:RS):Prop where
 run:∀r∈q.1,r.1<r.2/\r.2<n/\(∀a,r.1<=a->a<r.2->bs.getD a false=true)/\bs.getD r.2 false=false/\∀a,a+1=r.1->bs.getD a false=false
 opn:∀b,q.2=some b->b<n/\(∀a,b<=a->a<n->bs.getD a false=true)/\∀a,a+1=b->bs.getD a false=false
 non:q.2=none->∀a,a+1=n->bs.getD a false=false
 cov:∀a,a<n->bs.getD a false=true->(∃r∈q.1,r.1<=a/\a<r.2)\/∃b,q.2=some b/\b<=a
 ord:q.1.Pairwise λr s=>r.2<=s.1
 bef:∀r∈q.1,∀b,q.2=some b->r.2<=b
theorem j8(bs:List Bool):∀n,RFull bs n (rto bs n)
 |0=>⟨λr h=>(nomatch h),λb h=>(nomatch h),λ_ a h=>by lia,λa h=>by lia, .nil,λr h=>(nomatch h)⟩
 |n+1=>by
  have I:=j8 bs n
  show RFull bs (n+1) (rstep (rto bs n) n (bs.getD n false))
  generalize hq:rto bs n=q at I
  obtain⟨v,l⟩:=q
  cases ht:bs.getD n false with
  |true =>
   cases l with
   |none =>
    refine⟨λr h => ?_,λb h => ?_,λh=>(nomatch h),λa h e => ?_,I.ord,λr h b k => ?_⟩
    ·obtain⟨c,f,g,i,j⟩:=I.run r h
     exact⟨c,by lia,g,i,j⟩
    ·cases h
     exact⟨by lia,λa c f=>by rw[show a=n by lia];exact ht,I.non rfl⟩
    ·by_cases d:a=n
     ·exact .inr ⟨n,rfl,by lia⟩
     ·rcases I.cov a '#' e with c|⟨b,c,f⟩
      ·exact .inl c
      ·cases c
    ·cases k
     have:=(I.run r h).2.1
     exact fh this
   |some b0 =>
    refine⟨λr h => ?_,λb h => ?_,λh=>(nomatch h),λa h e => ?_,I.ord,λr h b k=>I.bef r h b k⟩
    ·obtain⟨c,f,g,i,j⟩:=I.run r h
     exact⟨c,by lia,g,i,j⟩
    ·cases h
     obtain⟨c,f,g⟩:=I.opn b0 rfl
     exact⟨by lia,λa g1 g2=>by
      by_cases d:a=n
      ·rw[d];exact ht
      ·exact f a g1 '#',g⟩
    ·by_cases d:a=n
     ·exact .inr ⟨b0,rfl,by have:=(I.opn b0 rfl).1;lia⟩
     ·exact I.cov a '#' e
  |false =>
   cases l with
   |none =>
    refine⟨λr h => ?_,λb h=>(nomatch h),λ_ a d=>by rw[show a=n by lia];exact ht,λa h e => ?_,I.ord,λr h b k=>(nomatch k)⟩
    ·obtain⟨c,f,g,i,j⟩:=I.run r h
     exact⟨c,by lia,g,i,j⟩
    ·refine I.cov a ?_ e
     by_cases d:a=n
     ·rw[d,ht] at e;cases e
     ·lia
   |some b0 =>
    obtain⟨p,t,o⟩:=I.opn b0 rfl
    refine⟨λr h => ?_,λb h=>(nomatch h),λ_ a d=>by rw[show a=n by lia];exact ht,λa h e => ?_,?_,λr h b k=>(nomatch k)⟩
    ·rcases qp.mp h with h|h
     ·obtain⟨c,f,g,i,j⟩:=I.run r h
      exact⟨c,by lia,g,i,j⟩
     ·rw[qi] at h
      subst h
      exact⟨p,by show n<n+1;lia,t,ht,o⟩
    ·have d:a<n:=by
      by_cases d:a=n
      ·rw[d,ht] at e;cases e
      ·lia
     rcases I.cov a d e with ⟨r,c,f⟩|⟨b,c,f⟩
     ·exact .inl ⟨r,q7 _ c,f⟩
     ·cases c
      exact .inl ⟨(b0,n),qb _ (qi.mpr rfl),f,d⟩
    ·show (v++[(b0,n)]).Pairwise _
     rw[xh]
     refine⟨I.ord,x3 _ _,λr u s m => ?_⟩
     rw[qi] at m
     subst m
     exact I.bef r u b0 rfl
theorem aDQ{bs:List Bool}{r:Nat×Nat}(h:r∈runs bs):r.1<r.2/\r.2<=bs.length/\(∀a,r.1<=a->a<r.2->bs.getD a false=true)/\bs.getD r.2 false=false/\∀a,a+1=r.1->bs.getD a false=false:=by
 obtain⟨e,f,d,b,c⟩:=(j8 (bs++[false]) (bs.length+1)).run r h
 simp only[getD_snoc] at d b c
 exact⟨e,by lia,d,b,c⟩
theorem aEF{bs:List Bool}{a:Nat}(h:bs.getD a false=true):∃r∈runs bs,r.1<=a/\a<r.2:=by
 have I:=j8 (bs++[false]) (bs.length+1)
 have d:a<bs.length:=by
  by_cases d:a<bs.length
  ·exact d
  ·rw[zGd,jq '#'] at h;cases h
 rcases I.cov a '#' (by rw[getD_snoc];exact h) with c|⟨b,c,_⟩
 ·exact c
 ·rw[aEC (bs++[false]) bs.length (by rw[getD_snoc,zGd,jq '#'];rfl)] at c
  cases c
theorem aB8(bs:List Bool):(runs bs).Pairwise λr s=>r.2<=s.1:=(j8 (bs++[false]) (bs.length+1)).ord
structure Qd where
 f:Nat
 p:Nat
 b:Nat
 e:Nat
noncomputable def qsP(zs:List Str)(f n p:Nat):List Qd:=(runs (cX zs f p n)).map λr=>⟨f,p,r.1,r.2⟩
noncomputable def qsF(zs:List Str)(f n m:Nat):List Qd:=(qz m).flatMap (qsP zs f n)
noncomputable def Lf(nx ny f:Nat):Nat:=if f%2=0 then nx else ny
noncomputable def Nf(nx ny f:Nat):Nat:=(if f%2=0 then ny else nx)-1
noncomputable def qsN(zs:List Str)(nx ny k:Nat):List Qd:=(qz k).flatMap λf=>qsF zs f (Nf nx ny f) (Lf nx ny f)
def Bef(q r:Qd):Prop:=q.f<r.f\/q.f=r.f/\(q.p<r.p\/q.p=r.p/\q.e<=r.b)
theorem jP{f p:Nat}{q:Qd}:q∈qsP zs f n p↔q.f=f/\q.p=p/\(q.b,q.e)∈runs (cX zs f p n):=by
 unfold qsP
 rw[q0]
 constructor
 ·rintro⟨r,a,rfl⟩;exact⟨rfl,rfl,a⟩
 ·rintro⟨rfl,rfl,h⟩;exact⟨_,h,rfl⟩
theorem xF{k:Nat}{q:Qd}:q∈qsN zs nx ny k↔q.f<k/\q.p<Lf nx ny q.f/\(q.b,q.e)∈runs (cX zs q.f q.p (Nf nx ny q.f)):=by
 unfold qsN qsF
 simp only[wb,j2,jP]
 constructor
 ·rintro⟨f,hf,p,a,rfl,rfl,h⟩;exact⟨hf,a,h⟩
 ·rintro⟨hf,a,h⟩;exact⟨_,hf,_,a,rfl,rfl,h⟩
theorem aA9(zs:List Str)(nx ny k:Nat):(qsN zs nx ny k).Pairwise Bef:=by
 unfold qsN qsF
 rw[Qe]
 refine⟨λf _ => ?_,dh.imp λ{f g} e x a y b => ?_⟩
 ·rw[Qe]
  refine⟨λp _ => ?_,dh.imp λ{p q} c x a y b => ?_⟩
  ·unfold qsP
   rw[zd]
   exact (aB8 _).imp λ{r s} h => .inr ⟨rfl, .inr ⟨rfl,h⟩⟩
  ·obtain⟨i,l,_⟩:=jP.mp a
   obtain⟨d,j,_⟩:=jP.mp b
   exact .inr ⟨by rw[i,d], .inl (by rw[l,j];exact c)⟩
 ·obtain⟨p,_,a⟩:=wb.mp a
  obtain⟨q,_,b⟩:=wb.mp b
  obtain⟨i,_⟩:=jP.mp a
  obtain⟨d,_⟩:=jP.mp b
  exact .inl (by rw[i,d];exact e)
def oY(zs:List Str)(nx ny f p a:Nat):Prop:=f<4/\p<Lf nx ny f/\a<Nf nx ny f/\edge zs f p a=true
theorem o7(zs:List Str)(f p n a:Nat):(cX zs f p n).getD a false=(decide (a<n)&&edge zs f p a):=by
 unfold cX
 rw[zGd,qm]
 by_cases h:a<n
 ·rw[zz h,decide_eq_true h];simp
 ·rw[jq (by rw[xk];lia),decide_eq_false h];rfl
theorem gE{q:Qd}(h:q∈qsN zs nx ny 4):q.f<4/\q.p<Lf nx ny q.f/\q.b<q.e/\q.e<=Nf nx ny q.f/\(∀a,q.b<=a->a<q.e->oY zs nx ny q.f q.p a)/\¬oY zs nx ny q.f q.p q.e/\∀a,a+1=q.b->¬oY zs nx ny q.f q.p a:=by
 obtain⟨d,i,j⟩:=xF.mp h
 obtain⟨r1,r2,r3,c,g⟩:=aDQ j
 simp only[o7] at r3 c g
 have len:(cX zs q.f q.p (Nf nx ny q.f)).length=Nf nx ny q.f:=by simp[cX]
 rw[len] at r2
 refine⟨d,i,r1,r2,λa g1 g2 => ?_,λe => ?_,λa g1 e => ?_⟩
 ·have:=r3 a g1 g2
  rw[jm,decide_eq_true_eq] at this
  exact⟨d,i,this.1,this.2⟩
 ·rw[e.2.2.2,decide_eq_true e.2.2.1] at c;cases c
 ·have:=g a g1
  rw[e.2.2.2,decide_eq_true e.2.2.1] at this;cases this
structure Keys(P:Nat->Nat->Nat->Prop)(ks:List Int.9):Prop where
 nd:ks.Nodup
 iff:∀x,x∈ks↔∃f p a:Nat,x=[(f:Int),(p:Int),(a:Int)]/\P f p a
theorem Keys.mem{P:Nat->Nat->Nat->Prop}(h:Keys P ks){f p a:Nat}:[(f:Int),(p:Int),(a:Int)]∈ks↔P f p a:=by
 rw[h.iff]
 constructor
 ·rintro⟨g,c,d,e,b⟩
  simp only[yt,and_true,fj] at e
  obtain⟨rfl,rfl,rfl⟩:=e
  exact b
 ·exact λb=>⟨f,p,a,rfl,b⟩
theorem Keys.nil{P:Nat->Nat->Nat->Prop}(h:∀f p a,¬P f p a):Keys P []:=⟨.nil,λx=>⟨λz=>(nomatch z),λ⟨f,p,a,_,hp⟩=>absurd hp (h f p a)⟩⟩
theorem Keys.congr{P P':Nat->Nat->Nat->Prop}(h:Keys P ks)(e:∀f p a,P f p a↔P' f p a):Keys P' ks:=⟨h.nd,λx=>by
 rw[h.iff]
 exact exists_congr λf=>exists_congr λp=>exists_congr λa=>and_congr_right λ_=>e f p a⟩
theorem Keys.erase{P:Nat->Nat->Nat->Prop}(h:Keys P ks){f0 p0 a0:Nat}(hi:ks[i]?=some [(f0:Int),(p0:Int),(a0:Int)]):Keys (λf p a=>P f p a/\¬(f=f0/\p=p0/\a=a0)) (ks.eraseIdx i):=by
 refine⟨dj i h.nd,λx => ?_⟩
 rw[List.mem_eraseIdx_iff_getElem?]
 constructor
 ·rintro⟨j,b,e⟩
  obtain⟨f,p,a,rfl,c⟩:=(h.iff x).mp e.7
  refine⟨f,p,a,rfl,c,λ⟨l,m,d⟩=>b ?_⟩
  subst l m d
  obtain⟨g,n⟩:=zGs e
  exact (v9 g h.nd).mp (e.trans hi.symm)
 ·rintro⟨f,p,a,rfl,c,k⟩
  obtain⟨j,b,e⟩:=yy (h.mem.mpr c)
  refine⟨j,λz=>k ?_,by rw[zGe b,e]⟩
  subst z
  rw[zGe b,e] at hi
  simp only[Vp,yt,and_true,fj] at hi
  exact hi
theorem Keys.empty{P:Nat->Nat->Nat->Prop}(h:Keys P ks)(e:∀f p a,¬P f p a):ks=[]:=by
 cases ks with
 |nil=>rfl
 |cons x xs =>
  obtain⟨f,p,a,_,b⟩:=(h.iff x).mp (kh)
  exact absurd b (e f p a)
end R
variable {l kl:List R.Qd}{q:R.Qd}{ls:List (List R.Qd)}
namespace R
open PySem
noncomputable def itx(i:Int):List Nat:=(qu (toString i)).cps.toList
theorem sO(i:Int):itx i=(toString i).toList.map Char.toNat:=by
 unfold itx;rw[Str.ofString_eq_toList]
theorem n0(i:Int):(toString i).toList=if 0<=i then y4 10 i.toNat else '-'::y4 10 (-i).toNat:=by
 rw[Int.toString_eq_repr,Int.repr_eq_if]
 split <;> simp
theorem nQ{c:Char}(h:c∈y4 10 n):48<=c.toNat/\c.toNat<=57:=by
 have:=Nat.isDigit_of_mem_toDigits '$' '$' h
 simp only[Char.isDigit,jm,decide_eq_true_eq,ge_iff_le] at this
 have b:=this.1
 have a:=this.2
 rw[UInt32.le_iff_toNat_le] at b a
 exact⟨b,a⟩
theorem aC1{a b:Char}(h:a.toNat=b.toNat):a=b:=Char.ext (UInt32.toNat_inj.mp h)
theorem digits_inj{m:Nat}(h:y4 10 n=y4 10 m):n=m:=by
 have h1 := @Nat.ofDigitChars_ten_toDigits n
 simp_all
theorem wM{i j:Int}(h:itx i=itx j):i=j:=by
 rw[sO,sO] at h
 have c:(toString i).toList=(toString j).toList:=by
  generalize (toString i).toList=a at h
  generalize (toString j).toList=b at h
  induction a generalizing b with
  |nil=>cases b with
   |nil=>rfl
   |cons y ys=>cases h
  |cons x xs ih=>cases b with
   |nil=>cases h
   |cons y ys =>
    rw[jo,jo] at h
    injection h with h1 c
    rw[aC1 h1,ih _ c]
 rw[n0,n0] at c
 have hd:∀n m:Nat,y4 10 n ≠ '-'::y4 10 m:=λn m e=>by
  have : '-'∈y4 10 n:=by rw[e];simp
  have:=(nQ this).1
  exact absurd this '$'
 by_cases f:0<=i
 ·by_cases d:0<=j
  ·rw[if_pos f,if_pos d] at c
   have:=digits_inj c
   lia
  ·rw[if_pos f,if_neg d] at c
   exact absurd c (hd _ _)
 ·by_cases d:0<=j
  ·rw[if_neg f,if_pos d] at c
   exact absurd c.symm (hd _ _)
  ·rw[if_neg f,if_neg d] at c
   injection c with _ h3
   have:=digits_inj h3
   lia
theorem qQ(i:Int):44∉itx i:=by
 rw[sO,n0]
 intro h
 obtain⟨c,a,e⟩:=q0.mp h
 split at a
 ·have:=(nQ a).1;lia
 ·rcases jb.mp a with rfl|a
  ·exact absurd e '$'
  ·have:=(nQ a).1;lia
theorem uG{x:Nat}:∀{a b s t:List Nat},x∉a->x∉b->a++x::s=b++x::t->a=b/\s=t
 |[],[],_,_,_,_,h=>⟨rfl,by injection h⟩
 |[],y::b,_,_,_,hb,h=>by injection h with h1;exact absurd (by rw[h1];exact kh) hb
 |y::a,[],_,_,ha,_,h=>by injection h with h1;exact absurd (by rw[<- h1];exact kh) ha
 |y::a,z::b,s,t,ha,hb,h=>by
  injection h with h1 h2
  obtain⟨d,c⟩:=uG (λm=>ha (jn _ m)) (λm=>hb (jn _ m)) h2
  grind
inductive Tr where
 |lf:Tr
 |nd:Tr->Int->Tr->Tr
def Tr.has:Tr->Int->Prop
 |.lf,_=>False
 |.nd l x r,y=>y=x\/l.has y\/r.has y
def Tr.ok:Tr->Prop
 |.lf=>True
 |.nd l x r=>(∀y,l.has y->y<x)/\(∀y,r.has y->x<y)/\l.ok/\r.ok
noncomputable def Tr.ins(x:Int):Tr->Option Tr
 |.lf=>some (.nd .lf x .lf)
 |.nd l y r=>if x<y then (l.ins x).map (λt => .nd t y r) else if y<x then (r.ins x).map (λt => .nd l y t) else none
theorem Tr.ins_ok{x:Int}:∀{t u:Tr},t.ok->t.ins x=some u->u.ok/\¬t.has x/\∀y,u.has y↔y=x\/t.has y
 |.lf,u,_,h=>by
  cases h
  exact⟨⟨λy h=>h.elim,λy h=>h.elim,trivial,trivial⟩,λh=>h,λy=>by simp[Tr.has]⟩
 |.nd l z r,u,⟨o1,o2,o3,o4⟩,h=>by
  unfold Tr.ins at h
  by_cases c:x<z
  ·rw[if_pos c] at h
   cases e:l.ins x with
   |none=>rw[e] at h;cases h
   |some t =>
    rw[e] at h
    cases h
    obtain⟨a,f,b⟩:=Tr.ins_ok o3 e
    refine⟨⟨λy g => ?_,o2,a,o4⟩,?_,λy => ?_⟩
    ·grind
    ·rintro (h|h|h)
     all_goals grind
    ·simp only[Tr.has,b]
     grind
  ·rw[if_neg c] at h
   by_cases d:z<x
   ·rw[if_pos d] at h
    cases e:r.ins x with
    |none=>rw[e] at h;cases h
    |some t =>
     rw[e] at h
     cases h
     obtain⟨a,f,b⟩:=Tr.ins_ok o4 e
     refine⟨⟨o1,λy g => ?_,o3,a⟩,?_,λy => ?_⟩
     ·grind
     ·rintro (h|h|h)
      all_goals grind
     ·simp only[Tr.has,b]
      grind
   grind
noncomputable def oH:List Int->Tr->Bool
 |[],_=>true
 |x::xs,t=>match t.ins x with
  |none=>false
  |some u=>oH xs u
theorem q5:∀{l:List Int}{t:Tr},t.ok->oH l t=true->l.Nodup/\∀x∈l,¬t.has x
 |[],_,_,_=>⟨.nil,λx h=>(nomatch h)⟩
 |x::l,t,o,h=>by
  unfold oH at h
  cases e:t.ins x with
  |none=>rw[e] at h;cases h
  |some u =>
   rw[e] at h
   obtain⟨a,b,d⟩:=Tr.ins_ok o e
   obtain⟨c,f⟩:=q5 a h
   grind
theorem vG{l:List Int}(h:oH l .lf=true):l.Nodup:=(q5 (t := .lf) trivial h).1
end R
namespace R
open PySem L2
noncomputable def grid3:List Int.9:=(qz 4).flatMap λ(f:Nat)=>(qz 21).flatMap λ(p:Nat)=>(qz 21).map λ(a:Nat)=>[(f:Int),(p:Int),(a:Int)]
theorem aA7{f p a:Nat}(h1:f<4)(h2:p<21)(h3:a<21):[(f:Int),(p:Int),(a:Int)]∈grid3:=
 wb.mpr ⟨f,j2.mpr h1,wb.mpr ⟨p,j2.mpr h2,q0.mpr ⟨a,j2.mpr h3,rfl⟩⟩⟩
theorem Keys.add{P:Nat->Nat->Nat->Prop}(h:Keys P ks)(f0 p0 a0:Nat):Keys (λf p a=>P f p a\/(f=f0/\p=p0/\a=a0)) (Z.jI ks [(f0:Int),(p0:Int),(a0:Int)]):=by
 refine⟨Z.xG h.nd _,λx => ?_⟩
 unfold Z.jI
 split
 ·rename_i hm
  rw[h.iff]
  constructor
  ·rintro⟨f,p,a,e,b⟩;exact⟨f,p,a,e, .inl b⟩
  ·rintro⟨f,p,a,e,b|⟨rfl,rfl,rfl⟩⟩
   ·exact⟨f,p,a,e,b⟩
   ·exact⟨f,p,a,e,h.mem.mp hm⟩
 ·rw[qp,h.iff,qi]
  constructor
  ·rintro (⟨f,p,a,e,b⟩|e)
   ·exact⟨f,p,a,e, .inl b⟩
   ·exact⟨f0,p0,a0,e, .inr ⟨rfl,rfl,rfl⟩⟩
  ·rintro⟨f,p,a,e,b|⟨rfl,rfl,rfl⟩⟩
   ·exact .inl ⟨f,p,a,e,b⟩
   ·exact .inr e
end R
namespace Q
open PySem L2 Z
theorem xV:(R.grid3.map jE).Nodup:=R.vG (by decide +kernel)
theorem keys_hash{P:Nat->Nat->Nat->Prop}(h:R.Keys P ks)(hs:∀f p a,P f p a->f<4/\p<21/\a<21):(ks.map jE).Nodup:=by
 have b:∀c∈ks,c∈R.grid3:=λc j=>by
  obtain⟨f,p,a,rfl,d⟩:=(h.iff c).mp j
  obtain⟨i,l,k⟩:=hs f p a d
  exact R.aA7 i l k
 exact R.rZ h.nd λx g y m e=>R.lG xV x (b x g) y (b y m) e
theorem xS(p:Int×Int):(toPy (pairD p)).shown.cps.toList=40::(R.itx p.1++44::(32::(R.itx p.2++[41]))):=by
 have c:("(" : Str).cps = #[40]:=by decide +kernel
 have b:(", " : Str).cps = #[44,32]:=by decide +kernel
 have a:(")" : Str).cps = #[41]:=by decide +kernel
 have:(toPy (pairD p)).shown=("(" : Str)++(qu (toString p.1)++(", " : Str)++qu (toString p.2))++(")" : Str):=by
  simp only[pairD,toPy,toPys,zc,zt]
  rfl
 rw[this]
 show ((("(" : Str).cps++((qu (toString p.1)).cps++(", " : Str).cps++(qu (toString p.2)).cps))++(")" : Str).cps).toList=_
 rw[c,b,a]
 unfold R.itx
 simp
theorem aAB{p q:Int×Int}(h:(toPy (pairD p)).shown=(toPy (pairD q)).shown):p=q:=by
 have e:=congrArg (λz:Str=>z.cps.toList) h
 simp only[xS] at e
 injection e with _ e
 obtain⟨a1,a2⟩:=R.uG (R.qQ _) (R.qQ _) e
 injection a2 with _ a2
 have a:=List.append_cancel_right a2
 exact Prod.ext (R.wM a1) (R.wM a)
noncomputable def sdQ(xs ys:List D)(q:R.Qd):D:=mkS q.f ((cA q.f xs ys).getD q.p .non) (bI q.f xs ys) (q.b,q.e)
theorem fU{α β:Type}{f g:α->List β}:∀{l:List α},(∀x∈l,f x=g x)->l.flatMap f=l.flatMap g
 |[],_=>rfl
 |x::l,h=>by rw[cn,cn,h x kh,fU λy a=>h y (jn _ a)]
theorem nV(xs ys:List D)(f:Nat):(cA f xs ys).length=R.Lf xs.length ys.length f:=by unfold cA R.Lf;split <;> rfl
theorem uB(xs ys:List D)(f:Nat):(bI f xs ys).length-1=R.Nf xs.length ys.length f:=by unfold bI R.Nf;split <;> rfl
theorem aDN(zs:List Str)(xs ys:List D)(n:Nat):dJ zs xs ys n=(R.qsN zs xs.length ys.length n).map (sdQ xs ys):=by
 unfold dJ R.qsN
 rw[Jg]
 refine fU λf _ => ?_
 unfold dL R.qsF
 rw[Jg,nV]
 refine fU λp b => ?_
 have a:p<(cA f xs ys).length:=by rw[nV];exact j2.mp b
 rw[zGe a]
 show iH zs f (bI f xs ys) p (cA f xs ys)[p]=_
 unfold iH R.qsP
 rw[wa,uB]
 refine zw λr _ => ?_
 show mkS f _ _ r=mkS f _ _ (r.1,r.2)
 rw[zGd,zGe a]
 rfl
def aJQ:Ct:=λds M k=>∃(ls:List '%') (i:Nat) (t:Int×Int),ds=[.tup (ls.map pairD),pairD t]/\(∀p∈ls,gB p)/\ls.length<=100/\ls.Nodup/\ls[i]?=some t/\k (.int (i:Int)) M
theorem aBS{xs:List D}(wf:R.Wf xs.length ys.length zs)(full:zs=[]->xs=[]/\ys=[]):R.a8 zs=R.gQ (xs.length-1) zs:=by
 unfold R.a8 R.gQ
 cases zs with
 |nil=>obtain⟨e,_⟩:=full rfl;subst e;rfl
 |cons z zr =>
  have:=(wf.good z kh).1
  show (qz z.length).map _=_
  rw[this]
theorem aGJ(wf:R.Wf nx ny zs):zs.length=ny-1:=by rcases wf.rows with e|⟨e,e2,e3⟩;(· lia);(· rw[e3];simp;lia)
theorem wT{bt:Int}(h:Ats bt ats){ps:List '%'}(e:ats.map (c8 bt)=ps.map pairD):ps.Nodup:=by
 have hd:=(aCC h).2
 rw[List.nodup_iff_pairwise_ne,jz]
 intro i j b c a z
 have:=hd i j (pairD ps[i]) (pairD ps[j]) a (by rw[e];simp[b]) (by rw[e];simp[c])
 rw[z] at this
 simp[pairD,eqD,eqDs] at this
theorem aFT{ps:List '%'}(h:YardOk pairD.19 (qs.map pairD) zs):ps.Nodup/\qs.Nodup:=by
 obtain⟨bt,f,e,d⟩:=h.lx
 obtain⟨c,b,g,a⟩:=h.ly
 exact⟨wT d e.symm,wT a g.symm⟩
theorem iK{ls:List '%'}(h:i<ls.length):(ls.map pairD).getD i .non=pairD ls[i]:=by
 rw[zGd,qm,zGe h];rfl
noncomputable def alP(f:Nat)(ps qs:List '%'):List '%':=if f%2=0 then qs else ps
noncomputable def lnP(f:Nat)(ps qs:List '%'):List '%':=if f%2=0 then ps else qs
theorem vN(f:Nat)(ps qs:List '%'):bI f pairD.19 (qs.map pairD)=(alP f ps qs).map pairD:=by unfold bI alP;split <;> rfl
theorem vT(f:Nat)(ps qs:List '%'):cA f pairD.19 (qs.map pairD)=(lnP f ps qs).map pairD:=by unfold cA lnP;split <;> rfl
theorem aC0{ps:List '%'}(h1:q.p<R.Lf (pairD.19).length (qs.map pairD).length q.f)(h2:q.b<q.e)(h3:q.e<=R.Nf (pairD.19).length (qs.map pairD).length q.f):
  ∃l u v,(lnP q.f ps qs)[q.p]?=some l/\(alP q.f ps qs)[q.b]?=some u/\(alP q.f ps qs)[q.e]?=some v/\sdQ pairD.19 (qs.map pairD) q = .tup [.int (q.f:Int),pairD l,pairD u,pairD v]:=by
 rw[<- nV,vT,zLm] at h1
 rw[<- uB,vN,zLm] at h3
 have a:q.b<(alP q.f ps qs).length:=by lia
 have he:q.e<(alP q.f ps qs).length:=by lia
 refine⟨(lnP q.f ps qs)[q.p],(alP q.f ps qs)[q.b],(alP q.f ps qs)[q.e],zGe h1,zGe a,zGe he,?_⟩
 unfold sdQ mkS
 rw[vT,vN,iK h1,iK a,iK he]
theorem isLL(ds:List D):isD "list" '8'=true:=rfl
theorem BDict:ke "dict" = some (.type "dict"):=by decide +kernel
theorem wO(z:Str)(h:z.length<=1000):(R.ofL (46::z.cps.toList++[46])).length<=sizeLine:=by
 rw[R.fQ]
 simp only[qe,qy,vg,qt]
 have:z.cps.size=z.length:=rfl
 exact R.bQ '#'
end Q
namespace R
open PySem L2
noncomputable def cV(f:Nat)(sw se nw ne:Bool):Bool:=if f=0 then se && !sw else if f=1 then ne && !se else if f=2 then nw && !ne else sw && !nw
noncomputable def inB(f:Nat)(sw se nw ne:Bool):Bool:=if f=0 then ne && !nw else if f=1 then nw && !sw else if f=2 then sw && !se else se && !ne
noncomputable def b8(zs:List Str)(f:Nat)(i j:Int):Bool:=cV f (aH zs (i-1) (j-1)) (aH zs i (j-1)) (aH zs (i-1) j) (aH zs i j)
noncomputable def inV(zs:List Str)(f:Nat)(i j:Int):Bool:=inB f (aH zs (i-1) (j-1)) (aH zs i (j-1)) (aH zs (i-1) j) (aH zs i j)
noncomputable def eB(zs:List Str)(f:Nat)(i j:Int):Bool:=b8 zs f i j && !inV zs f i j
noncomputable def yO(zs:List Str)(f:Nat)(i j:Int):Bool:=inV zs f i j && !b8 zs f i j
noncomputable def Qd.x0(q:Qd):Nat:=if q.f%2=0 then q.p else if q.f=1 then q.b else q.e
noncomputable def Qd.y0(q:Qd):Nat:=if q.f%2=0 then (if q.f=2 then q.b else q.e) else q.p
noncomputable def Qd.x1(q:Qd):Nat:=if q.f%2=0 then q.p else if q.f=1 then q.e else q.b
noncomputable def Qd.y1(q:Qd):Nat:=if q.f%2=0 then (if q.f=2 then q.e else q.b) else q.p
theorem four{f:Nat}(h:f<4):f=0\/f=1\/f=2\/f=3:=by omega
theorem tT{f p a:Nat}(wf:Wf nx ny zs)(h4:f<4)(h:edge zs f p a=true):oY zs nx ny f p a:=by
 have cr:∀{i j:Int},aH zs i j=true->0<=i/\i<((nx-1:Nat):Int)/\0<=j/\j<(zs.length:Int):=λ{i j} h=>by
  refine⟨?_,?_,?_,?_⟩ <;> apply jf <;> intro z
  ·rw[bZ '!'] at h;cases h
  ·rw[g9 wf.good '!'] at h;cases h
  ·rw[bR '!'] at h;cases h
  ·rw[b9 '!'] at h;cases h
 have b:=wf.rows
 refine⟨h4,?_,?_,h⟩ <;> rcases four h4 with rfl|rfl|rfl|rfl <;> simp only[edge,Nf,Lf] at h ⊢ <;> simp at h ⊢ <;> (have c:=cr h.1;omega)
theorem edge0(zs:List Str)(p b:Nat):edge zs 0 p b=inV zs 0 p b/\edge zs 0 p b=b8 zs 0 p ((b:Int)+1):=by
 simp[edge,inV,b8,inB,cV]
theorem edge1(zs:List Str)(p b:Nat):edge zs 1 p b=b8 zs 1 b p/\edge zs 1 p b=inV zs 1 ((b:Int)+1) p:=by
 simp[edge,inV,b8,inB,cV]
theorem edge2(zs:List Str)(p b:Nat):edge zs 2 p b=b8 zs 2 p b/\edge zs 2 p b=inV zs 2 p ((b:Int)+1):=by
 simp[edge,inV,b8,inB,cV]
theorem edge3(zs:List Str)(p b:Nat):edge zs 3 p b=inV zs 3 b p/\edge zs 3 p b=b8 zs 3 ((b:Int)+1) p:=by
 simp[edge,inV,b8,inB,cV]
section
variable (wf:Wf nx ny zs)
include wf
theorem bM(h:q∈qsN zs nx ny 4):q.f<4/\q.b<q.e/\edge zs q.f q.p q.b=true/\(∀a,a+1=q.b->edge zs q.f q.p a=false)/\(∃a,a+1=q.e/\edge zs q.f q.p a=true)/\edge zs q.f q.p q.e=false:=by
 obtain⟨c,m,g,l,d,j,k⟩:=gE h
 have no:∀{a},¬oY zs nx ny q.f q.p a->edge zs q.f q.p a=false:=λ{a} z=>by
  cases e:edge zs q.f q.p a with
  |false=>rfl
  |true=>exact (z (tT wf c e)).elim
 exact⟨c,g,(d q.b (qo _) g).2.2.2,λa i=>no (k a i),⟨q.e-1,by omega,(d (q.e-1) '!' '!').2.2.2⟩,no j⟩
theorem oJ(h:q∈qsN zs nx ny 4):eB zs q.f q.x0 q.y0=true:=by
 obtain⟨o,r,m,d,⟨a,k,j⟩,n⟩:=bM wf h
 obtain⟨f,p,b,e⟩:=q
 dsimp only at *
 have low:∀{c:Nat->Bool}{g:Int->Bool},(∀a:Nat,c a=g ((a:Int)+1))->(b=0->g 0=false)->(∀a,a+1=b->c a=false)->g b=false:=λ{c g} e z l=>by
  cases b with
  |zero=>exact z rfl
  |succ b=>have:=l b rfl;rw[e] at this;exact_mod_cast this
 rcases four o with rfl|rfl|rfl|rfl <;> unfold eB <;> simp only[Qd.x0,Qd.y0] <;> simp
 ·subst k
  have:=(edge0 zs p a).2;rw[j] at this
  have t:=(edge0 zs p (a+1)).1;rw[n] at t
  exact 'B'
 ·refine⟨by rw[<- (edge1 zs p b).1];exact m,low (c:=λa=>edge zs 1 p a) (g:=λi=>inV zs 1 i p) (λa=>(edge1 zs p a).2) (λ_ => ?_) d⟩
  simp[inV,inB,bZ]
 ·refine⟨by rw[<- (edge2 zs p b).1];exact m,low (c:=λa=>edge zs 2 p a) (g:=λi=>inV zs 2 p i) (λa=>(edge2 zs p a).2) (λ_ => ?_) d⟩
  simp[inV,inB,bR]
 ·subst k
  have:=(edge3 zs p a).2;rw[j] at this
  have t:=(edge3 zs p (a+1)).1;rw[n] at t
  exact 'B'
theorem j3(h:q∈qsN zs nx ny 4):yO zs q.f q.x1 q.y1=true:=by
 obtain⟨o,r,m,d,⟨a,k,j⟩,n⟩:=bM wf h
 obtain⟨f,p,b,e⟩:=q
 dsimp only at *
 have low:∀{c:Nat->Bool}{g:Int->Bool},(∀a:Nat,c a=g ((a:Int)+1))->(b=0->g 0=false)->(∀a,a+1=b->c a=false)->g b=false:=λ{c g} e z l=>by
  cases b with
  |zero=>exact z rfl
  |succ b=>have:=l b rfl;rw[e] at this;exact_mod_cast this
 rcases four o with rfl|rfl|rfl|rfl <;> unfold yO <;> simp only[Qd.x1,Qd.y1] <;> simp
 ·refine⟨by rw[<- (edge0 zs p b).1];exact m,low (c:=λa=>edge zs 0 p a) (g:=λi=>b8 zs 0 p i) (λa=>(edge0 zs p a).2) (λ_ => ?_) d⟩
  simp[b8,cV,bR]
 ·subst k
  have:=(edge1 zs p a).2;rw[j] at this
  have t:=(edge1 zs p (a+1)).1;rw[n] at t
  exact 'B'
 ·subst k
  have:=(edge2 zs p a).2;rw[j] at this
  have t:=(edge2 zs p (a+1)).1;rw[n] at t
  exact 'B'
 ·refine⟨by rw[<- (edge3 zs p b).1];exact m,low (c:=λa=>edge zs 3 p a) (g:=λi=>b8 zs 3 i p) (λa=>(edge3 zs p a).2) (λ_ => ?_) d⟩
  simp[b8,cV,bZ]
end
end R
namespace R
open PySem L2
section
variable (wf:Wf nx ny zs)
include wf
theorem j4{f p a:Nat}(h4:f<4)(h:edge zs f p a=true):∃q∈qsN zs nx ny 4,q.f=f/\q.p=p/\q.b<=a/\a<q.e:=by
 obtain⟨_,c,d,_⟩:=tT wf h4 h
 obtain⟨r,g,r1,r2⟩:=aEF (bs:=cX zs f p (Nf nx ny f)) (a:=a) (by rw[o7,decide_eq_true d,h];rfl)
 exact⟨⟨f,p,r.1,r.2⟩,xF.mpr ⟨h4,c,g⟩,rfl,rfl,r1,r2⟩
theorem tW{f p a:Nat}(h4:f<4)(h:edge zs f p a=true)(h2:∀c,c+1=a->edge zs f p c=false):∃q∈qsN zs nx ny 4,q.f=f/\q.p=p/\q.b=a:=by
 obtain⟨q,d,rfl,rfl,g,i⟩:=j4 wf h4 h
 refine⟨q,d,rfl,rfl,?_⟩
 obtain⟨_,_,_,_,e,_,_⟩:=gE d
 apply jf
 intro z
 have:=(e (a-1) '!' '!').2.2.2
 rw[h2 (a-1) '!'] at this
 cases this
theorem aBV{f p a:Nat}(h4:f<4)(h:edge zs f p a=true)(h2:edge zs f p (a+1)=false):∃q∈qsN zs nx ny 4,q.f=f/\q.p=p/\q.e=a+1:=by
 obtain⟨q,b,rfl,rfl,d,g⟩:=j4 wf h4 h
 refine⟨q,b,rfl,rfl,?_⟩
 obtain⟨_,_,_,_,c,_,_⟩:=gE b
 apply jf
 intro z
 have:=(c (a+1) '!' '!').2.2.2
 rw[h2] at this
 cases this
theorem sU{f:Nat}(h4:f<4)(h:eB zs f i j=true):∃q∈qsN zs nx ny 4,q.f=f/\q.x0=i/\q.y0=j:=by
 unfold eB at h
 rw[jm,g5] at h
 obtain⟨k,l⟩:=h
 rcases four h4 with rfl|rfl|rfl|rfl
 ·cases j with
  |zero=>simp[b8,cV,bR] at k
  |succ j =>
   obtain⟨q,e,b,d,g⟩:=aBV wf (f:=0) (p:=i) (a:=j) '$' (by rw[(edge0 zs i j).2];exact_mod_cast k) (by rw[(edge0 zs i (j+1)).1];exact_mod_cast l)
   exact⟨q,e,b,by simp[Qd.x0,b,d],by simp[Qd.y0,b,g]⟩
 ·obtain⟨q,e,b,d,g⟩:=tW wf (f:=1) (p:=j) (a:=i) '$' (by rw[(edge1 zs j i).1];exact k) (λc m=>by subst m;rw[(edge1 zs j c).2];exact_mod_cast l)
  exact⟨q,e,b,by simp[Qd.x0,b,g],by simp[Qd.y0,b,d]⟩
 ·obtain⟨q,e,b,d,g⟩:=tW wf (f:=2) (p:=i) (a:=j) '$' (by rw[(edge2 zs i j).1];exact k) (λc m=>by subst m;rw[(edge2 zs i c).2];exact_mod_cast l)
  exact⟨q,e,b,by simp[Qd.x0,b,d],by simp[Qd.y0,b,g]⟩
 ·cases i with
  |zero=>simp[b8,cV,bZ] at k
  |succ i =>
   obtain⟨q,e,b,d,g⟩:=aBV wf (f:=3) (p:=j) (a:=i) '$' (by rw[(edge3 zs j i).2];exact_mod_cast k) (by rw[(edge3 zs j (i+1)).1];exact_mod_cast l)
   exact⟨q,e,b,by simp[Qd.x0,b,g],by simp[Qd.y0,b,d]⟩
omit wf in
theorem nR{r:Qd}(hq:q∈qsN zs nx ny 4)(hr:r∈qsN zs nx ny 4)(hf:q.f=r.f)(hp:q.p=r.p)(h:q.b<r.e)(h':r.b<q.e):q=r:=by
 apply jf
 intro ne
 have o:=aA9 zs nx ny 4
 obtain⟨i,d,a⟩:=ft.mp hq
 obtain⟨j,g,c⟩:=ft.mp hr
 rcases lg i j with z|z|z
 ·have:=jz.mp o i j d g z
  rw[a,c] at this
  unfold Bef at this
  omega
 ·subst z;exact ne (a.symm.trans c)
 ·have:=jz.mp o j i g d z
  rw[a,c] at this
  unfold Bef at this
  omega
theorem oQ(h:q∈qsN zs nx ny 4):q.b<q.e:=(bM wf h).2.1
theorem jV{r:Qd}(hq:q∈qsN zs nx ny 4)(hr:r∈qsN zs nx ny 4)(hf:q.f=r.f)(hx:q.x0=r.x0)(hy:q.y0=r.y0):q=r:=by
 have c:=oQ wf hq
 have a:=oQ wf hr
 have f4:=(bM wf hq).1
 have key:q.p=r.p/\(q.b=r.b\/q.e=r.e):=by
  unfold Qd.x0 at hx
  unfold Qd.y0 at hy
  rw[<- hf] at hx hy
  rcases four f4 with e|e|e|e <;> simp only[e] at hx hy <;> simp at hx hy <;> omega
 exact nR hq hr hf key.1 '!' '!'
theorem aFO{r:Qd}(hq:q∈qsN zs nx ny 4)(hr:r∈qsN zs nx ny 4)(hf:q.f=r.f)(hx:q.x1=r.x1)(hy:q.y1=r.y1):q=r:=by
 have c:=oQ wf hq
 have a:=oQ wf hr
 have f4:=(bM wf hq).1
 have key:q.p=r.p/\(q.b=r.b\/q.e=r.e):=by
  unfold Qd.x1 at hx
  unfold Qd.y1 at hy
  rw[<- hf] at hx hy
  rcases four f4 with e|e|e|e <;> simp only[e] at hx hy <;> simp at hx hy <;> omega
 exact nR hq hr hf key.1 '!' '!'
end
def Nx(zs:List Str)(nx ny:Nat)(q r:Qd):Prop:=r∈qsN zs nx ny 4/\r.x0=q.x1/\r.y0=q.y1/\r.f=if eB zs ((q.f+1)%4) q.x1 q.y1=true then (q.f+1)%4 else (q.f+3)%4
theorem aE9:∀f,f<4->∀sw se nw ne:Bool,(inB f sw se nw ne && !cV f sw se nw ne)=true->(cV ((f+1)%4) sw se nw ne && !inB ((f+1)%4) sw se nw ne)=false->(cV ((f+3)%4) sw se nw ne && !inB ((f+3)%4) sw se nw ne)=true:=by decide
theorem aDB:∀f,f<4->∀g,g<4->∀sw se nw ne:Bool,(inB f sw se nw ne && !cV f sw se nw ne)=true->(inB g sw se nw ne && !cV g sw se nw ne)=true ->
  (if (cV ((f+1)%4) sw se nw ne && !inB ((f+1)%4) sw se nw ne)=true then (f+1)%4 else (f+3)%4)=(if (cV ((g+1)%4) sw se nw ne && !inB ((g+1)%4) sw se nw ne)=true then (g+1)%4 else (g+3)%4)->f=g:=by decide
section
variable (wf:Wf nx ny zs)
include wf
theorem aE1(h:q∈qsN zs nx ny 4):∃r,Nx zs nx ny q r:=by
 have e:=j3 wf h
 have f4:=(bM wf h).1
 by_cases c:eB zs ((q.f+1)%4) q.x1 q.y1=true
 ·obtain⟨r,b,a,g,d⟩:=sU wf (f:=(q.f+1)%4) '!' c
  exact⟨r,b,g,d,by rw[if_pos c];exact a⟩
 ·have k:=aE9 q.f f4 _ _ _ _ e (by rw[Bool.not_eq_true] at c;exact c)
  obtain⟨r,b,a,g,d⟩:=sU wf (f:=(q.f+3)%4) (i:=q.x1) (j:=q.y1) '!' k
  exact⟨r,b,g,d,by rw[if_neg c];exact a⟩
theorem aJV{r r':Qd}(h:Nx zs nx ny q r)(h':Nx zs nx ny q r'):r=r':=
 jV wf h.1 h'.1 (h.2.2.2.trans h'.2.2.2.symm) (h.2.1.trans h'.2.1.symm) (h.2.2.1.trans h'.2.2.1.symm)
theorem aJ6{q' r:Qd}(hq:q∈qsN zs nx ny 4)(hq':q'∈qsN zs nx ny 4)(h:Nx zs nx ny q r)(h':Nx zs nx ny q' r):q=q':=by
 obtain⟨_,a1,a2,f⟩:=h
 obtain⟨_,d,g,a⟩:=h'
 have ex:q.x1=q'.x1:=a1.symm.trans d
 have c:q.y1=q'.y1:=a2.symm.trans g
 refine aFO wf hq hq' ?_ ex c
 have e:=j3 wf hq
 have b:=j3 wf hq'
 rw[<- ex,<- c] at b a
 exact aDB _ (bM wf hq).1 _ (bM wf hq').1 _ _ _ _ e b (f.symm.trans a)
end
end R
namespace R
open PySem L2
theorem hV{α:Type}:∀(l S:List α),l.Nodup->(∀x∈l,x∈S)->l.length<=S.length
 |[],_,_,_=>kd _
 |a::l,S,nd,h=>by
  classical
  obtain⟨d,f⟩:=vf.mp nd
  have c:=h a (.head _)
  have:=hV l (S.erase a) f λx b=>(List.mem_erase_of_ne λe:x=a=>d (by rw[<- e];exact b)).mpr (h x (.tail _ b))
  rw[List.length_erase_of_mem c] at this
  have:=tm c
  rw[qy]
  omega
structure Wlk(S:List Qd)(N:Qd->Qd->Prop)(a:Qd)(l:List Qd):Prop where
 hd:l.head?=some a
 mem:∀q∈l,q∈S
 nd:l.Nodup
 st:∀i q r,l[i]?=some q->l[i+1]?=some r->N q r
structure Rng(S:List Qd)(N:Qd->Qd->Prop)(a:Qd)(l:List Qd):Prop extends Wlk S N a l where
 cl:∀z,l.getLast?=some z->N z a
section
variable {S:List Qd}{N:Qd->Qd->Prop}(inj:∀q q' r,q∈S->q'∈S->N q r->N q' r->q=q')
theorem Wlk.one{a:Qd}(h:a∈S):Wlk S N a [a]:=⟨rfl,λq hq=>by rw[qi] at hq;rw[hq];exact h,by simp,λi q r h1 h2=>by simp at h2⟩
theorem Wlk.pos{a:Qd}(w:Wlk S N a l):0<l.length:=by cases l with|nil=>cases w.hd|cons b l=>simp
theorem Wlk.at0{a:Qd}(w:Wlk S N a l):l[0]?=some a:=by rw[<- di];exact w.hd
theorem wQ{z:Qd}(h:l.getLast?=some z):l[l.length-1]?=some z:=by rw[<- xf];exact h
include inj in
theorem Wlk.new{a z s:Qd}(w:Wlk S N a l)(hz:l.getLast?=some z)(hN:N z s)(ne:s≠a):s∉l:=λf=>by
 have d:=wQ hz
 obtain⟨i,b⟩:=jd.mp f
 have g:=(b.5).1
 cases i with
 |zero=>rw[w.at0] at b;exact ne (jc b).symm
 |succ i =>
  have c:l[i]?=some l[i]:=zGe '!'
  have e:=inj z l[i] s (w.mem z d.7) (w.mem _ (ky _)) hN (w.st i _ _ c b)
  rw[<- e,<- d] at c
  have:=(v9 '!' w.nd).mp c
  omega
include inj in
theorem Wlk.go{a z s:Qd}(w:Wlk S N a l)(hz:l.getLast?=some z)(hN:N z s)(hS:s∈S)(ne:s≠a):Wlk S N a (l++[s]):=by
 have d:=w.new inj hz hN ne
 have n:=w.pos
 refine⟨by rw[List.head?_append,w.hd];rfl,λq k => ?_,?_,λi q r c b => ?_⟩
 ·rcases qp.mp k with h|h
  ·exact w.mem q h
  ·rw[qi] at h;rw[h];exact hS
 ·rw[xi]
  exact⟨w.nd,by simp,λx g y f e=>by rw[qi] at f;rw[<- f,<- e] at d;exact d g⟩
 ·by_cases m:i+1<l.length
  ·rw[qn '!'] at c
   rw[qn m] at b
   exact w.st i q r c b
  ·have j:=(b.5).1
   rw[qe,vp] at j
   have e:i=l.length-1:=by omega
   subst e
   rw[qn '!',wQ hz] at c
   rw[show l.length-1+1=l.length by omega,qj (qo _),xr] at b
   cases c;cases b;exact hN
theorem Wlk.len{a:Qd}(w:Wlk S N a l):l.length<=S.length:=hV l S w.nd w.mem
theorem Rng.nxt{a:Qd}(w:Rng S N a l)(h:l[i]?=some q):∃r,N q r/\l[(i+1)%l.length]?=some r:=by
 have c:=(h.5).1
 by_cases b:i+1<l.length
 ·rw[kf b]
  exact⟨l[i+1],w.st i _ _ h (zGe b),zGe b⟩
 ·have e:i+1=l.length:=by omega
  rw[e,Qh]
  exact⟨a,w.cl q (by rw[xf,<- e];exact h),w.at0⟩
variable (fn:∀q r r',N q r->N q r'->r=r')
include fn in
theorem Rng.meet{a b:Qd}{m:List Qd}(w:Rng S N a l)(v:Rng S N b m){x:Qd}(h1:x∈l)(h2:x∈m):b∈l:=by
 obtain⟨i,d⟩:=jd.mp h2
 have q:=(d.5).1
 have key:∀n (i:Nat) (x:Qd),m.length-i=n->m[i]?=some x->x∈l->b∈l:=λn=>by
  induction n with
  |zero=>intro i x e d _;have:=(d.5).1;omega
  |succ n ih =>
   intro i x e d h
   obtain⟨r,o,hm⟩:=v.nxt d
   obtain⟨j,p⟩:=jd.mp h
   obtain⟨k,f,hl⟩:=w.nxt p
   have g:r∈l:=by rw[fn x r k o f];exact zMo hl
   by_cases c:i+1<m.length
   ·rw[kf c] at hm
    exact ih (i+1) r '!' hm g
   ·have ii:=(d.5).1
    rw[show i+1=m.length by omega,Qh,v.at0] at hm
    cases hm;exact g
 exact key _ i x rfl d h1
end
structure Rgs(S:List Qd)(N:Qd->Qd->Prop)(ls:List Qd.9):Prop where
 rg:∀l∈ls,∃a,Rng S N a l
 nd:ls.flatten.Nodup
theorem Rgs.add{S:List Qd}{N:Qd->Qd->Prop}(fn:∀q r r',N q r->N q r'->r=r')(h:Rgs S N ls){a:Qd}(w:Rng S N a l)(ha:a∉ls.flatten):Rgs S N (ls++[l]):=by
 refine⟨λm hm => ?_,?_⟩
 ·rcases qp.mp hm with g|g
  ·exact h.rg m g
  ·rw[qi] at g;rw[g];exact⟨a,w⟩
 ·rw[xx,yb,xi]
  refine⟨h.nd,w.nd,λx d y f e => ?_⟩
  subst e
  obtain⟨m,hm,c⟩:=zl.mp d
  obtain⟨b,v⟩:=h.rg m hm
  exact ha (zl.mpr ⟨m,hm,v.meet fn w c f⟩)
end R
namespace R
open PySem L2
def PLe(q r:Qd):Prop:=q.x0<r.x0\/q.x0=r.x0/\q.y0<=r.y0
def PLt(q r:Qd):Prop:=q.x0<r.x0\/q.x0=r.x0/\q.y0<r.y0
theorem Rng.prv{S:List Qd}{N:Qd->Qd->Prop}{a:Qd}(w:Rng S N a l)(h:q∈l):∃r∈l,N r q:=by
 obtain⟨i,b⟩:=jd.mp h
 have d:=(b.5).1
 cases i with
 |zero =>
  rw[w.at0] at b
  cases b
  have c:l.getLast?=some (l[l.length-1]):=by rw[xf,zGe]
  exact⟨_,ky '!',w.cl _ c⟩
 |succ i=>exact⟨l[i],ky '!',w.st i _ _ (zGe '!') b⟩
theorem Rng.sub{S:List Qd}{N:Qd->Qd->Prop}{a:Qd}(w:Rng S N a l)(h:q∈l):∃r∈l,N q r:=by
 obtain⟨i,b⟩:=jd.mp h
 obtain⟨r,c,hl⟩:=w.nxt b
 exact⟨r,zMo hl,c⟩
theorem Rng.rot{S:List Qd}{N:Qd->Qd->Prop}{a b:Qd}{u v:List Qd}(w:Rng S N a (u++b::v)):Rng S N b (b::v++u):=by
 cases u with
 |nil =>
  have:=w.hd
  simp at this
  subst this
  simpa using w
 |cons c u =>
  have j:c=a:=by have:=w.hd;simpa using this
  subst j
  have m:(c::u++b::v).length=(b::v++c::u).length:=by simp;omega
  refine⟨⟨rfl,λq g=>w.mem q ?_,?_,λi q r d e => ?_⟩,λz f => ?_⟩
  ·simp at g ⊢;grind
  ·exact (d5 (l₁:=c::u) (l₂:=b::v)).nodup_iff.mp w.nd
  ·by_cases h:i+1<(b::v).length
   ·rw[qn '!'] at d
    rw[qn h] at e
    refine w.st ((c::u).length+i) q r ?_ ?_
    ·rw[qj '!',show (c::u).length+i-(c::u).length=i by omega];exact d
    ·rw[qj '!',show (c::u).length+i+1-(c::u).length=i+1 by omega];exact e
   ·by_cases k:i+1=(b::v).length
    ·rw[qn '!'] at d
     rw[qj '!',k,xr] at e
     have:c=r:=by simpa using e
     subst this
     refine w.cl q ?_
     rw[Qr]
     have:(b::v).getLast?=some q:=by rw[xf,<- d];congr 1;omega
     rw[this];rfl
    ·rw[qj '!'] at d e
     refine w.st (i-(b::v).length) q r ?_ ?_
     ·have:=(d.5).1
      rw[qn this];exact d
     ·have:=(e.5).1
      rw[show i+1-(b::v).length=i-(b::v).length+1 by omega] at e this
      rw[qn this];exact e
  ·rw[Qr] at f
   have hl:(c::u).getLast?=some z:=by
    cases h:(c::u).getLast? with
    |none=>simp at h
    |some y=>rw[h] at f;exact f
   have d:(c::u)[u.length]?=some z:=by rw[xf] at hl;simpa using hl
   refine w.st u.length z b ?_ ?_
   ·rw[qn '*'];exact d
   ·rw[qj '*'];simp
section
variable (wf:Wf nx ny zs)
include wf
theorem rA{a:Qd}(w:Rng (qsN zs nx ny 4) (Nx zs nx ny) a l)(h:∀q∈l,PLe a q):∃r∈l,Nx zs nx ny r a/\((a.f=1/\r.f=0)\/(a.f=2/\r.f=3)):=by
 have am:a∈l:=zMo w.at0
 obtain⟨r,d,i⟩:=w.prv am
 obtain⟨s,u,k⟩:=w.sub am
 refine⟨r,d,i,?_⟩
 have c:=h r d
 have b:=h s u
 have g:=bM wf (w.mem a am)
 have j:=bM wf (w.mem r d)
 have be:=g.2.1
 have y:=j.2.1
 obtain⟨_,n,t,m⟩:=i
 obtain⟨_,o,p,_⟩:=k
 unfold PLe at c b
 rw[o,p] at b
 rw[n,t] at c
 have v:a.f=1\/a.f=2:=by
  rcases four g.1 with e|e|e|e <;> simp only[Qd.x0,Qd.y0,Qd.x1,Qd.y1,e] at b <;> simp at b <;> omega
 have x:r.f=0\/r.f=3:=by
  rcases four j.1 with e|e|e|e <;> simp only[Qd.x0,Qd.y0,Qd.x1,Qd.y1,e] at c <;> simp at c <;> omega
 split at m <;> omega
theorem zI{a b:Qd}{m:List Qd}(w:Rng (qsN zs nx ny 4) (Nx zs nx ny) a l)(v:Rng (qsN zs nx ny 4) (Nx zs nx ny) b m)(h:∀q∈l,PLe a q)(g:∀q∈m,PLe b q)(ex:a.x0=b.x0)(ey:a.y0=b.y0):a=b:=by
 have am:a∈l:=zMo w.at0
 have bm:b∈m:=zMo v.at0
 obtain⟨r,p,i,k⟩:=rA wf w h
 obtain⟨s,t,n,j⟩:=rA wf v g
 have o:=oJ wf (w.mem a am)
 have d:=oJ wf (v.mem b bm)
 have f:=j3 wf (w.mem r p)
 have e:=j3 wf (v.mem s t)
 rw[<- i.2.1,<- i.2.2.1] at f
 rw[<- n.2.1,<- n.2.2.1,<- ex,<- ey] at e
 rw[<- ex,<- ey] at d
 rcases k with ⟨a1,r1⟩|⟨a1,r1⟩ <;> rcases j with ⟨c,s1⟩|⟨c,s1⟩
 ·exact jV wf (w.mem a am) (v.mem b bm) (a1.trans c.symm) ex ey
 ·rw[a1] at o;rw[s1] at e
  simp[eB,yO,b8,inV,cV,inB] at o e
  grind
 ·rw[c] at d;rw[r1] at f
  simp[eB,yO,b8,inV,cV,inB] at d f
  grind
 ·exact jV wf (w.mem a am) (v.mem b bm) (a1.trans c.symm) ex ey
omit wf in
theorem kY{r:Qd}(h:Nx zs nx ny q r):r.f%2≠q.f%2:=by
 have:=h.2.2.2
 split at this <;> omega
theorem lR{a:Qd}(w:Rng (qsN zs nx ny 4) (Nx zs nx ny) a l):4<=l.length:=by
 apply jf
 intro z
 have u:=w.pos
 have c:l.length=1\/l.length=2\/l.length=3:=by omega
 have h0:=w.at0
 rcases c with c|c|c
 ·obtain⟨r,b,hl⟩:=w.nxt h0
  rw[c] at hl
  rw[show (0+1)%1=0 from rfl,h0] at hl
  cases hl
  exact kY b rfl
 ·obtain⟨r,b,hl⟩:=w.nxt h0
  rw[c] at hl
  obtain⟨s,d,hm⟩:=w.nxt hl
  rw[c,show ((0+1)%2+1)%2=0 from rfl,h0] at hm
  cases hm
  have j:=bM wf (w.mem a h0.7)
  have k:=bM wf (w.mem r hl.7)
  have p:=kY b
  obtain⟨_,a1,a2,_⟩:=b
  obtain⟨_,f,i,_⟩:=d
  have:=j.2.1
  have:=k.2.1
  rcases four j.1 with e|e|e|e <;> rcases four k.1 with g|g|g|g <;> simp only[Qd.x0,Qd.y0,Qd.x1,Qd.y1,e,g] at a1 a2 f i p <;> simp at a1 a2 f i p <;> omega
 ·obtain⟨r,b,hl⟩:=w.nxt h0
  rw[c] at hl
  obtain⟨s,d,hm⟩:=w.nxt hl
  rw[c,show ((0+1)%3+1)%3=2 from rfl] at hm
  obtain⟨t,m,h⟩:=w.nxt hm
  rw[c,show (2+1)%3=0 from rfl,h0] at h
  cases h
  have o:=kY b
  have q:=kY d
  have n:=kY m
  omega
end
end R
namespace R
open PySem L2
theorem pP{α β:Type}{f:α->List β}{g:α->Nat}:∀{l:List α},(∀x∈l,(f x).length<=g x)->(l.flatMap f).length<=(g.13).sum
 |[],_=>qo _
 |a::l,h=>by
  rw[cn,qe,jo,JI]
  have:=pP (l:=l) λx b=>h x (.tail _ b)
  have:=h a (.head _)
  omega
noncomputable def p4(sw se nw ne:Bool):Nat:=((qz 4).filter λf=>cV f sw se nw ne && !inB f sw se nw ne).length
theorem aFR:∀sw se nw ne:Bool,p4 sw se nw ne<=2:=by decide
theorem mG:∀a b:Bool,p4 false a false b<=1/\p4 a false b false<=1/\p4 false false a b<=1/\p4 a b false false<=1:=by decide
noncomputable def cB(nx ny i j:Nat):Nat:=if i=0\/i+1=nx\/j=0\/j+1=ny then 1 else 2
theorem aKZ:∀nx,nx<13->∀ny,ny<13->((qz nx).map λi=>((qz ny).map λj=>cB nx ny i j).sum).sum<=244:=by decide +kernel
section
variable (wf:Wf nx ny zs)
include wf
theorem aH7(i j:Nat):((qz 4).filter λf=>eB zs f i j).length<=cB nx ny i j:=by
 have b:=wf.rows
 have e:((qz 4).filter λf=>eB zs f i j).length=p4 (aH zs ((i:Int)-1) ((j:Int)-1)) (aH zs (i:Int) ((j:Int)-1)) (aH zs ((i:Int)-1) (j:Int)) (aH zs (i:Int) (j:Int)):=rfl
 rw[e]
 unfold cB
 split
 ·rename_i h
  rcases h with h|h|h|h
  ·subst h
   rw[bZ (a:=((0:Nat):Int)-1) '!',bZ (a:=((0:Nat):Int)-1) '!']
   exact (mG _ _).1
  ·rw[g9 wf.good (a:=(i:Int)) '!',g9 wf.good (a:=(i:Int)) '!']
   exact (mG _ _).2.1
  ·subst h
   rw[bR (u:=((0:Nat):Int)-1) '!',bR (u:=((0:Nat):Int)-1) '!']
   exact (mG _ _).2.2.1
  ·rw[b9 (u:=(j:Int)) '!',b9 (u:=(j:Int)) '!']
   exact (mG _ _).2.2.2
 ·exact aFR _ _ _ _
theorem aEX:(qsN zs nx ny 4).Nodup:=by
 refine wx (λ{a b} ha hb h z => ?_) (aA9 zs nx ny 4)
 subst z
 have:=oQ wf ha
 unfold Bef at h
 omega
theorem aA5(hx:nx<=12)(hy:ny<=12):(qsN zs nx ny 4).length<=244:=by
 have hm:∀k∈(qsN zs nx ny 4).map (λq=>(q.x0,q.y0,q.f)),k∈(qz nx).flatMap λ(i:Nat)=>(qz ny).flatMap λ(j:Nat)=>((qz 4).filter λf=>eB zs f i j).map λf=>((i,j,f):Nat×Nat×Nat):=λk n=>by
  obtain⟨q,m,rfl⟩:=q0.mp n
  obtain⟨h,d,v,c,_⟩:=gE m
  have b:=oJ wf m
  have r:q.x0<nx/\q.y0<ny:=by
   unfold Qd.x0 Qd.y0
   unfold Lf at d
   unfold Nf at c
   rcases four h with e|e|e|e <;> simp only[e] at d c ⊢ <;> simp at d c ⊢ <;> omega
  exact wb.mpr ⟨_,j2.mpr r.1,wb.mpr ⟨_,j2.mpr r.2,q0.mpr ⟨_,zu.mpr ⟨j2.mpr h,b⟩,rfl⟩⟩⟩
 have s:((qsN zs nx ny 4).map (λq=>(q.x0,q.y0,q.f))).Nodup:=by
  unfold pj
  rw[zd]
  refine wx (λ{a b} o t ne e=>ne ?_) (aEX wf)
  simp only[Prod.mk.injEq] at e
  exact jV wf o t e.2.2 e.1 e.2.1
 have p:=hV _ _ s hm
 rw[zLm] at p
 have u:=pP (l:=qz nx) (f:=λ(i:Nat)=>(qz ny).flatMap λ(j:Nat)=>((qz 4).filter λf=>eB zs f i j).map λf=>((i,j,f):Nat×Nat×Nat)) (g:=λ(i:Nat)=>((qz ny).map λ(j:Nat)=>cB nx ny i j).sum) λi _=>pP λj _=>by rw[zLm];exact aH7 wf i j
 have l3:=aKZ nx '!' ny '!'
 omega
end
end R
namespace L2
open PySem PySem.Spec PyProof.Rows PySem.W
noncomputable def cxL(CX:CXT)(P:Program)(w:World)(K:qg)(mg:Str->Option Value)(z:Heap)(N:List Str)(qual:Str)(scope:Scope)(f:Addr)(cd:Value)(cl:List (Str×Addr))(A:Around)(outer:List Env)(s:Shared)(H:Hp)(E:XK):Cx where
 prog:=P
 w:=w
 K:=K
 mg:=mg
 base:=z
 A:=A.deeper (envX qual scope s.heap.objs.size f cd cl)
 N:=N
 s₀:=s
 H₀:=H
 env:=envX qual scope s.heap.objs.size f cd cl
 outer:=outer
 stack:=envX qual scope s.heap.objs.size f cd cl::outer
 ex:=[]
 calm:=true
 fn:=λ_=>false
 pn:=[]
 xe:=λe s'=>wpAny (ja P w) (A.deeper (envX qual scope s.heap.objs.size f cd cl)) (leaving (envX qual scope s.heap.objs.size f cd cl) e) (λ_ s''=>CX outer H s E e s'') (λe' s''=>CX outer H s E e' s'') s'
structure LamScope(x:Str)(fs:List Str)(sc:Scope):Prop where
 kind:sc.kind = .function
 co:sc.isCoroutine=false
 gen:sc.isGenerator=false
 nd:(x::fs).Nodup
 par:sc.names.lookup x=some .local
 fr:∀y∈fs,sc.names.lookup y=some .free
 nocell:∀y∈sc.names,y.2 ≠ .cell
 only:∀y,sc.names.lookup y=some .free->y∈fs
structure Caps(h:Heap)(H:Hp)(cl:List (Str×Addr))(fs:List Str)(ws:List V):Prop where
 len:fs.length=ws.length
 at_:∀(i:Nat) (y:Str) (v:V),fs[i]?=some y->ws[i]?=some v->∃c u,cl.lookup y=some c/\h.IsCell c u.3/\RelV v u
 any:∀y c,cl.lookup y=some c->(∃v,h.IsCell c v)/\H c=none
 inj:∀x y c,cl.lookup x=some c->cl.lookup y=some c->x=y
section
variable {CX:CXT}{K:qg}{z:Heap}{fs:List Str}{params:Arguments}{body:Expr}{c':Addr}{s1:Shared}{E:XK}{ctv:Value}
theorem yM(S:LamScope x fs scope)(hd:A.handled=none)(e0:Env0 P w K mg z A outer s H)(r:RelV v u)(C:Caps s.heap H cl fs ws){h1:Heap}(hns:h1.Ns s.heap.objs.size (λy=>[(x,u)].reverse.lookup y))(hk:∀b o,s.heap.get? b=some o->h1.get? b=some o){tk:Nat}:
  Inv (cxL CX P w K mg z (x::fs) qual scope f (.ref c') cl A outer s H E) [] (some v::ws.map some) H {s with heap:=h1,toks:=tk}:=by
 have g:∀b:Addr,b∉(cxL CX P w K mg z (x::fs) qual scope f (.ref c') cl A outer s H E).ex:=λb z=>absurd (show b∈([]:List Addr) from z) '*'
 have t:∀{c:Addr}{o:Option Value},s.heap.IsCell c o->h1.IsCell c o:=λ{c o} q=>by
  obtain⟨ob,m,n⟩:=q
  exact⟨ob,hk _ _ m,n⟩
 refine⟨⟨e0.mod,S.kind,rfl,rfl,qo _,C.inj,λy j => ?_,λy c hf=>absurd hf zBf,λ_=>hd,tx e0.frames, .inr ⟨rfl,rfl⟩,λb z=>absurd z (g b),e0.bs,e0.bsz,λb _ _=>g b,λb z=>absurd z (g b),e0.funs,e0.frf⟩,
  rfl,e0.bare,Un.kept hk,⟨_,hns,λi y k a B M => ?_⟩,λy c h => ?_,e0.hok.fresh (qo _),λy c h=>(C.any y c h).2,λp D=>absurd (show p∈([]:List '+') from D) '*',e0.hok.kept hk,?_⟩
 ·have j:scope.names.lookup y=some .cell\/scope.names.lookup y=some .free:=j
  rcases j with j|j
  ·exact absurd rfl (S.nocell _ (kj j))
  ·have:=S.only y j
   obtain⟨i,F,e⟩:=ft.mp this
   obtain⟨c,_,q,_⟩:=C.at_ i y (ws[i]'(by have:=C.len;lia)) (by rw[zGe F,e]) (zGe _)
   exact⟨c,q⟩
 ·cases i with
  |zero =>
   have a:(x::fs)[0]?=some y:=a
   have G:x=y:=by simpa using a
   have J:v=k:=by simpa using B
   subst G J
   exact⟨u,r, .inl ⟨S.par,by simp⟩⟩
  |succ i =>
   have a:(x::fs)[i+1]?=some y:=a
   have d:fs[i]?=some y:=by simpa using a
   have l:ws[i]?=some k:=by
    have:(ws.map some)[i]?=some k.3:=by simpa using B
    rw[qm] at this
    cases e:ws[i]? with
    |none=>rw[e] at this;cases this
    |some z=>rw[e] at this;cases this;rfl
   obtain⟨c,L,m,n,I⟩:=C.at_ i y k d l
   exact⟨L,I, .inr ⟨.inr (S.fr y d.7),c,m,t n⟩⟩
 ·obtain⟨⟨v,q⟩,_⟩:=C.any y c h
  exact⟨v,t q⟩
 ·show (some v::ws.map some).length=(x::fs).length
  rw[qy,qy,zLm,C.len]
theorem xD{k:Nat}(S:LamScope x fs scope)(hr:Room (k+1) A)(e0:Env0 P w K mg z A outer s H)(ho:s.heap.get? f=some (kla_obj name qual params body scope cl pm c' ctv))(hcd:s.heap.CodeRec (.ref c') qual)(hbind:bindArgs (kla_fn name qual params body scope cl pm (.ref c') ctv) ⟨[u],[]⟩=pure [(x,u)])(r:RelV v u)(C:Caps s.heap H cl fs ws){t:TE}{Q:VK}(ht:PE (cxL CX P w K mg z (x::fs) qual scope f (.ref c') cl A outer s H E) body t)(hq:t (some v::ws.map some) H Q):
  fb (ja P w) A (.call (.ref f) ⟨[u],[]⟩) (CR CX outer P w H s Q E) s:=by
 have lim:s.heap.NoLimit:=e0.mod.nolimit.keeps λb o e=>(e0.bs b o e).1
 refine kla_callFunE hr.depth ho rfl S.co S.gen rfl hcd ?_
 rw[hbind]
 refine wpAny_pure (wpAny_newFunctionEnv S.nocell (λy i=>by rw[qi] at i;subst i;exact S.par) (λh₁ a c => ?_) S.kind)
 have g₁:∀b o,s.heap.get? b=some o->h₁.get? b=some o:=λb o e=>c.extBut b o (q3 (qr e)) (qf _ e)
 refine⟨lim.keeps g₁,?_⟩
 show fb _ _ (.expr body (envX qual scope s.heap.objs.size f (.ref c') cl)) _ _
 have I:=yM (CX:=CX) (E:=E) (qual:=qual) (f:=f) (c':=c') (tk:=s.toks+1) S hr.hd e0 r C a g₁
 refine kla_codeExpr (km (ht [] _ _ _ _ I hq) (λm j d => ?_) λe j d=>d)
 obtain⟨v2,H',J,l,q⟩:=d
 exact⟨v2,H',J.os,J.bare,J.base,J.hok,l,q⟩
end
end L2
namespace SO
open PySem PyProof.Rows
section
variable {M:Jp}{E:Value->Shared->Prop}{P:Shared->Prop}{σ:Type}
def wpP(M:Jp)(A:Around)(E:Value->Shared->Prop)(P:Shared->Prop){α:Type}(m:StateT σ Sem α)(Q:α->σ->Prop)(st:σ):Prop:=
 ∀s,P s->wpAny M A (m.run st) (λr s'=>P s'/\Q r.1 r.2) E s
theorem bG{α:Type}{a:α}{Q:α->σ->Prop}{st:σ}(h:Q a st):wpP M A E P (pure a:StateT σ Sem α) Q st:=λs hs=>by
 rw[QX];exact wpAny_pure ⟨hs,h⟩
theorem a6{α β:Type}{m:StateT σ Sem α}{f:α->StateT σ Sem β}{Q:β->σ->Prop}{st:σ}(h:wpP M A E P m (λa st'=>wpP M A E P (f a) Q st') st):wpP M A E P (m >>= f) Q st:=λs d=>by
 rw[StateT.run_bind]
 exact qa (km (h s d) (λr c b=>b.2 c b.1) λ_ _ e=>e)
theorem p_mono{α:Type}{m:StateT σ Sem α}{Q Q':α->σ->Prop}{st:σ}(h:wpP M A E P m Q st)(hq:∀a st',Q a st'->Q' a st'):wpP M A E P m Q' st:=
 λs c=>km (h s c) (λr _ b=>⟨b.1,hq _ _ b.2⟩) λ_ _ e=>e
theorem pA{Q:σ->σ->Prop}{st:σ}(h:Q st st):wpP M A E P (get:StateT σ Sem σ) Q st:=λs hs=>by
 rw[StateT.run_get];exact wpAny_pure ⟨hs,h⟩
theorem nF{f:σ->σ}{Q:PUnit->σ->Prop}{st:σ}(h:Q ⟨⟩ (f st)):wpP M A E P (modify f:StateT σ Sem PUnit) Q st:=λs hs=>by
 rw[StateT.run_modify];exact wpAny_pure ⟨hs,h⟩
theorem aB1{α:Type}{m:Sem α}{Q:α->σ->Prop}{st:σ}(h:∀s,P s->wpAny M A m (λa s'=>P s'/\Q a st) E s):wpP M A E P (liftM m:StateT σ Sem α) Q st:=λs c=>by
 show wpAny M A ((StateT.lift m:StateT σ Sem α).run st) _ E s
 rw[StateT.run_lift]
 exact qa (km (h s c) (λa s' b=>wpAny_pure b) λ_ _ e=>e)
theorem zJ{x:String}{Q:Unit->σ->Prop}{st:σ}(h:Q () st):wpP M A E P (liftM (rule x):StateT σ Sem Unit) Q st:=aB1 λs hs=>zp ⟨hs,h⟩
theorem zR{β:Type}(f:Nat->β->StateT σ Sem (ForInStep β))(I:List Nat->β->σ->Prop)(Q:β->σ->Prop)(hstep:∀x rest b st,I (x::rest) b st->wpP M A E P (f x b) (λr st'=>match r with|.done b'=>Q b' st'|.yield b'=>I rest b' st') st)(hend:∀b st,I [] b st->Q b st):∀(l:List Nat) (b:β) (st:σ),I l b st->wpP M A E P (forIn l b f) Q st
 |[],b,st,h=>by rw[Jy];exact bG (hend _ _ h)
 |x::rest,b,st,h=>by
  rw[m4]
  refine a6 (p_mono (hstep x rest b st h) λr st' a => ?_)
  cases r with
  |done b'=>exact bG a
  |yield b'=>exact zR f I Q hstep hend rest b' st' a
theorem iF{β:Type}{a b:Nat}{f:Nat->β->StateT σ Sem (ForInStep β)}(I:Nat->β->σ->Prop){Q:β->σ->Prop}(hstep:∀i c st,a<=i->i<b->I i c st->wpP M A E P (f i c) (λr st'=>match r with|.done c'=>Q c' st'|.yield c'=>I (i+1) c' st') st)(hend:∀c st,I (max a b) c st->Q c st){c:β}{st:σ}(h:I a c st):wpP M A E P (forIn [a:b] c f) Q st:=by
 rw[vz]
 have j:([a:b]:br).size=b-a:=by simp[z7]
 show wpP M A E P (forIn (qh a ([a:b]:br).size 1) c f) Q st
 rw[j]
 refine zR f (λl c st=>∃i,a<=i/\i<=max a b/\l=qh i (max a b-i) 1/\I i c st) Q ?_ ?_ _ c st ⟨a,qo _,by lia,by congr 1;lia,h⟩
 ·rintro x rest c st ⟨i,d,k,hl,g⟩
  have o:i<max a b:=by
   rcases wj i (max a b) with e|e
   all_goals simp_all
  obtain⟨n,m⟩:∃n,max a b-i=n+1:=⟨max a b-i-1,by lia⟩
  rw[m,yr] at hl
  obtain⟨rfl,rfl⟩:=QR hl
  refine p_mono (hstep x c st d '#' g) λr st' e => ?_
  cases r with
  |done c'=>exact e
  |yield c'=>exact⟨x+1,by lia,by lia,by congr 1;lia,e⟩
 ·rintro c st ⟨i,d,k,hl,g⟩
  have:i=max a b:=by
   grind
  subst this;exact hend _ _ g
end
structure Wk(R:Nat->Nat->Bool):Prop where
 asym:∀i j,R i j=true->R j i=false
 ntr:∀i j k,R i j=false->R j k=false->R i k=false
def T(R:Nat->Nat->Bool)(i j:Nat):Prop:=(i<j/\R j i=false)\/(j<i/\R i j=true)
section
variable {R:Nat->Nat->Bool}{k:Nat}
theorem T.ne(h:T R i j):i≠j:=by rcases h with h|h <;> lia
theorem T.irr(h:T R i i):False:=h.ne rfl
theorem T.tr(W:Wk R)(h:T R i j)(g:T R j k):T R i k:=by
 have tr:∀{a b c},R a b=true->R b c=true->R a c=true:=λ{a b c} f d=>by
  cases e:R a c with
  |true=>rfl
  |false=>exact absurd (W.ntr a c b e (W.asym _ _ d)) (by rw[f];decide)
 rcases h with ⟨f,d⟩|⟨f,d⟩ <;> rcases g with ⟨g1,g2⟩|⟨g1,g2⟩
 ·exact .inl ⟨by lia,W.ntr _ _ _ g2 d⟩
 ·rcases lg i k with z|z|z
  ·exact .inl ⟨z,W.ntr _ _ _ (W.asym _ _ g2) d⟩
  ·subst z;rw[d] at g2;cases g2
  ·refine .inr ⟨z,?_⟩
   cases e:R i k with
   |true=>rfl
   |false=>rw[W.ntr _ _ _ d e] at g2;cases g2
 ·rcases lg i k with z|z|z
  ·exact .inl ⟨z,W.ntr _ _ _ g2 (W.asym _ _ d)⟩
  ·subst z;rw[d] at g2;cases g2
  ·refine .inr ⟨z,?_⟩
   cases e:R i k with
   |true=>rfl
   |false=>rw[W.ntr _ _ _ e g2] at d;cases d
 ·exact .inr ⟨by lia,tr d g2⟩
theorem T.asy(W:Wk R)(h:T R i j)(g:T R j i):False:=(h.tr W g).irr
theorem T.tot(h:i≠j):T R i j\/T R j i:=by
 rcases Q1 h with z|z
 ·cases e:R j i with
  |false=>exact .inl (.inl ⟨z,e⟩)
  |true=>exact .inr (.inr ⟨z,e⟩)
 ·cases e:R i j with
  |true=>exact .inl (.inr ⟨z,e⟩)
  |false=>exact .inr (.inl ⟨z,e⟩)
theorem T.yes(h:i<j)(e:R j i=true):T R j i := .inr ⟨h,e⟩
theorem T.no(h:i<j)(e:R j i=false):T R i j := .inl ⟨h,e⟩
theorem T.fwd(h:i<j)(t:T R i j):R j i=false:=by rcases t with t|t;exact t.2;lia
end
end SO
namespace SO
open PySem PyProof.Rows
section
variable {M:Jp}{E:Value->Shared->Prop}{P:Shared->Prop}
end
end SO
namespace SO
open PySem PyProof.Rows
section
variable {E:Value->Shared->Prop}{P:Shared->Prop}{κ:bp}{it:Nat->Keyed}{N:Nat}{R:Nat->Nat->Bool}
structure Cmp(prog:Program)(w:World)(A:Around)(P:Shared->Prop)(κ:bp)(it:Nat->Keyed)(N:Nat)(R:Nat->Nat->Bool):Prop where
 wk:Wk R
 cmp:∀i j,i<N->j<N->∀s,P s->wpAny w.8 A (keyLt' κ (it i).1 (it j).1) (λb s'=>P s'/\b=R i j) (λ_ _=>False) s
theorem p_lt(C:Cmp prog w A P κ it N R){st:SortSt}{Q:Option Bool->SortSt->Prop}(hk:kindOf st=κ)(hi:i<N)(hj:j<N)(h:Q (R i j).3 st):wpP w.8 A E P (lt' (it i) (it j)) Q st:=by
 rw[lt'_eq]
 refine a6 (pA ?_)
 rw[hk]
 refine a6 (aB1 λs c=>wpAny_attempt (km (C.cmp i j hi hj s c) (λb d e => ?_) λ_ _ x=>x.elim))
 obtain⟨a,rfl⟩:=e
 exact⟨a,bG h⟩
theorem aH1{arr:Array Keyed}{x:Keyed}{st:SortSt}{Q:Keyed->SortSt->Prop}(e:arr[i]?=some x)(h:Q x st):wpP w.8 A E P (elem' arr i) Q st:=by
 rw[elem'_eq,e];exact bG h
theorem gmem{xs:List Nat}(h:i<xs.length):xs.getD i 0∈xs:=by simp[h]
noncomputable def ar(it:Nat->Keyed)(xs:List Nat):Array Keyed:=(xs.map it).toArray
theorem aGD(xs:List Nat):(ar it xs).size=xs.length:=by simp[ar]
theorem aJ4{xs:List Nat}(h:i<xs.length):(ar it xs)[i]?=some (it (xs.getD i 0)):=by
 simp[ar,h]
theorem u9{xs:List Nat}{st:SortSt}{Q:Keyed->SortSt->Prop}(e:i<xs.length)(h:Q (it (xs.getD i 0)) st):wpP w.8 A E P (elem' (ar it xs) i) Q st:=aH1 (aJ4 e) h
theorem aJU{q:Nat->Prop}(anti:∀i j,i<=j->j<n->q j->q i):∃c,c<=n/\∀i,i<n->(q i↔i<c):=by
 classical
 induction n with
 |zero=>exact⟨0,qo _,λi h=>by lia⟩
 |succ n ih =>
  obtain⟨c,f,h⟩:=ih λi j d g=>anti i j d '#'
  by_cases b:q n
  ·exact⟨n+1,qo _,λi a=>⟨λ_=>a,λ_=>anti i n '#' '#' b⟩⟩
  ·refine⟨c,by lia,λi a => ?_⟩
   rcases wj i n with z|z
   ·exact h i z
   ·have:i=n:=by lia
    subst this
    exact⟨λe=>absurd e b,λe=>by lia⟩
end
end SO
namespace SO
open PySem PyProof.Rows
structure ML(R:Nat->Nat->Bool)(xs ys os:List Nat)(ia ib:Nat):Prop where
 la:ia<=xs.length
 lb:ib<=ys.length
 len:os.length=ia+ib
 mem:∀o∈os,o∈xs\/o∈ys
 srt:os.Pairwise (T R)
 ox:∀o∈os,∀x∈xs.drop ia,T R o x
 oy:∀o∈os,∀y∈ys.drop ib,T R o y
section
variable {R:Nat->Nat->Bool}{xs ys os:List Nat}{ia ib:Nat}
theorem aEH{l:List Nat}{x:Nat}(h:x∈l.drop i):∃j,i<=j/\j<l.length/\l.getD j 0=x:=by
 obtain⟨j,a,rfl⟩:=yy h
 rw[wz] at a
 refine⟨i+j,by lia,by lia,?_⟩
 rw[List.getElem_drop]
 simp[show i+j<l.length by lia]
theorem tL{l:List Nat}(h:l.Pairwise (T R))(hij:i<j)(hj:j<l.length):T R (l.getD i 0) (l.getD j 0):=by
 have:=jz.mp h i j '#' hj hij
 simpa[hj,show i<l.length by lia] using this
end
section
variable {E:Value->Shared->Prop}{P:Shared->Prop}{κ:bp}{it:Nat->Keyed}{N:Nat}{R:Nat->Nat->Bool}
structure Two(N:Nat)(R:Nat->Nat->Bool)(xs ys:List Nat):Prop where
 nx:∀x∈xs,x<N
 ny:∀y∈ys,y<N
 sx:xs.Pairwise (T R)
 sy:ys.Pairwise (T R)
 lt:∀x∈xs,∀y∈ys,x<y
 px:0<xs.length
 py:0<ys.length
end
end SO
namespace SO
open PySem PyProof.Rows
structure MH(R:Nat->Nat->Bool)(xs ys os:List Nat)(na nb:Nat):Prop where
 la:na<=xs.length
 lb:nb<=ys.length
 len:os.length+na+nb=xs.length+ys.length
 mem:∀o∈os,o∈xs\/o∈ys
 srt:os.Pairwise (λa b=>T R b a)
 ox:∀o∈os,∀x∈xs.take na,T R x o
 oy:∀o∈os,∀y∈ys.take nb,T R y o
section
variable {R:Nat->Nat->Bool}{xs ys os:List Nat}{na nb:Nat}
theorem zS{l:List Nat}{x:Nat}(h:x∈l.take n):∃j,j<n/\j<l.length/\l.getD j 0=x:=by
 obtain⟨j,a,rfl⟩:=yy h
 rw[jv] at a
 refine⟨j,by lia,by lia,?_⟩
 rw[List.getElem_take]
 simp[show j<l.length by lia]
theorem xO(W:Wk R){l:List Nat}(hs:l.Pairwise (T R))(hn:n<=l.length)(h:T R (l.getD (n-1) 0) y):∀x∈l.take n,T R x y:=λx a=>by
 obtain⟨j,b,c,rfl⟩:=zS a
 rcases wj j (n-1) with z|z
 ·exact (tL hs z '#').tr W h
 ·rwa [show j=n-1 by lia]
end
section
variable {E:Value->Shared->Prop}{P:Shared->Prop}{κ:bp}{it:Nat->Keyed}{N:Nat}{R:Nat->Nat->Bool}
end
end SO
namespace SO
open PySem PyProof.Rows
section
variable {E:Value->Shared->Prop}{P:Shared->Prop}{κ:bp}{it:Nat->Keyed}{N:Nat}{R:Nat->Nat->Bool}
theorem gC{u v:List Nat}(h:j<v.length)(e:i=u.length+j){w:List Nat}:(u++(v++w)).getD i 0=v.getD j 0:=by
 subst e
 rw[zGd,zGd,qj '#',de,qn h]
end
end SO
namespace SO
open PySem PyProof.Rows
theorem uT{α:Type}{u v w:List α}(hi:i=u.length)(hj:j=u.length+v.length):mirror (u++(v++w)).toArray i j ((j-i)/2)=(u++(v.reverse++w)).toArray:=by
 subst hi hj
 apply QB
 intro k
 rw[getElem?_mirror_all '*']
 rw[vq,vq,vq]
 by_cases h:u.length<=k/\k<u.length+v.length
 ·rw[if_pos h,qj '#',qn '#',qj '#',qn (by rw[zx];lia),List.getElem?_reverse '#']
  congr 1;lia
 ·rw[if_neg h]
  rcases wj k u.length with z|z
  ·rw[qn z,qn z]
  ·rw[qj z,qj z,qj '#',qj (by rw[zx];lia),zx]
theorem uO{α:Type}{u v w:List α}{z:α}{src:Nat}(hs:src=u.length+v.length)(hd:d=v.length):bubble (u++(v++(z::w))).toArray src d=(u++(z::(v++w))).toArray:=by
 subst hs hd
 apply QB
 intro k
 rw[getElem?_bubble '*' _ '#',vq,vq,vq,vq]
 have c:(u++(v++(z::w)))[u.length+v.length]?=some z:=by simp
 by_cases b:k=u.length+v.length-v.length
 ·rw[if_pos b,c]
  have:k=u.length:=by lia
  subst this
  simp
 ·rw[if_neg b]
  by_cases a:u.length+v.length-v.length<k/\k<=u.length+v.length
  ·rw[if_pos a,qj '#',qn '#',qj '#',show k-u.length=(k-1-u.length)+1 by lia,kc,qn '#']
  ·rw[if_neg a]
   rcases wj k u.length with q|q
   ·rw[qn q,qn q]
   ·rw[qj q,qj '#',qj q,show k-u.length=(k-u.length-1)+1 by lia,kc,qj '#',show k-u.length-1+1-v.length=(k-u.length-1-v.length)+1 by lia,kc]
section
variable {E:Value->Shared->Prop}{P:Shared->Prop}{κ:bp}{it:Nat->Keyed}{N:Nat}{R:Nat->Nat->Bool}
def Arr(it:Nat->Keyed)(st st':SortSt)(ps:List Nat):Prop:=st'=Qv (kindOf st) (ar it ps) (f3 st) (gallopOf st) (rj st)
theorem Arr.kind{st st':SortSt}{ps:List Nat}(h:Arr it st st' ps):kindOf st'=kindOf st:=by rw[h]
theorem Arr.arr{st st':SortSt}{ps:List Nat}(h:Arr it st st' ps):Ve st'=ar it ps:=by rw[h]
theorem Arr.set{st st':SortSt}{ps qs:List Nat}(h:Arr it st st' ps){a:Array Keyed}(e:a=ar it qs):Arr it st (setArr st' a) qs:=by rw[h,e];rfl
theorem kX(C:Cmp prog w A P κ it N R){st st':SortSt}{ps:List Nat}{x:Nat}{Q:Option Bool->SortSt->Prop}(hk:kindOf st=κ)(ha:Arr it st st' ps)(hi:i<ps.length)(hj:j<ps.length)(ex:ps.getD i 0=x)(ey:ps.getD j 0=y)(hx:x<N)(hy:y<N)(h:Q (R x y).3 st'):
  wpP w.8 A E P (ltAt' i j) Q st':=by
 rw[ltAt'_eq]
 refine a6 (pA ?_)
 dsimp only
 rw[ha.arr]
 refine a6 (u9 hi (a6 (u9 hj ?_)))
 rw[ex,ey]
 exact p_lt C (ha.kind.trans hk) hx hy h
theorem aJD{st st':SortSt}{u v w':List Nat}{z src dst:Nat}{Q:Unit->SortSt->Prop}(ha:Arr it st st' (u++(v++(z::w'))))(hs:src=u.length+v.length)(hd:dst=u.length)(h:∀st2,Arr it st st2 (u++(z::(v++w')))->Q () st2):
  wpP w.8 A E P (moveDown' src dst) Q st':=by
 rw[moveDown'_eq]
 refine nF (h _ (ha.set ?_))
 rw[ha.arr]
 unfold ar
 rw[qv,qv,jo,qv,jo,qv]
 exact uO (by simp[hs]) (by simp;lia)
theorem oK{st st':SortSt}{u v w':List Nat}{Q:Unit->SortSt->Prop}(ha:Arr it st st' (u++(v++w')))(hs:i=u.length)(hd:j=u.length+v.length)(h:∀st2,Arr it st st2 (u++(v.reverse++w'))->Q () st2):
  wpP w.8 A E P (reverseSlice' i j) Q st':=by
 rw[reverseSlice'_eq]
 refine nF (h _ (ha.set ?_))
 rw[ha.arr]
 unfold ar
 rw[qv,qv,qv,qv,List.map_reverse]
 exact uT (by simp[hs]) (by simp[hd])
structure Rn(R:Nat->Nat->Bool)(lo:Nat)(g:List Nat):Prop where
 srt:g.Pairwise (T R)
 mem:∀x∈g,lo<=x/\x<lo+g.length
theorem Rn.ins(W:Wk R){g:List Nat}(h:Rn R lo g){c:Nat}(hc:c<=g.length)(hq:∀i,i<g.length->(T R (g.getD i 0) (lo+g.length)↔i<c)):Rn R lo (g.take c++((lo+g.length)::g.drop c)):=by
 have a1:∀x∈g.take c,T R x (lo+g.length):=λx a=>by
  obtain⟨j,e,b,rfl⟩:=zS a
  exact (hq j b).mpr e
 have a2:∀x∈g.drop c,T R (lo+g.length) x:=λx a=>by
  obtain⟨j,e,b,rfl⟩:=aEH a
  rcases T.tot (R:=R) (i:=lo+g.length) (j:=g.getD j 0) (by have:=(h.mem _ (gmem b)).2;lia) with q|q
  ·exact q
  ·exact absurd ((hq j b).mp q) '#'
 refine⟨xh.mpr ⟨h.srt.sublist (Q3 _ _),gr.mpr ⟨a2,h.srt.sublist (List.drop_sublist _ _)⟩,λx a y d => ?_⟩,λx a => ?_⟩
 ·rcases jb.mp d with rfl|d
  ·exact a1 x a
  ·exact (a1 x a).tr W (a2 y d)
 ·have hl:(g.take c++((lo+g.length)::g.drop c)).length=g.length+1:=by rw[qe,qy,jv,wz];lia
  rw[hl]
  have:x∈g\/x=lo+g.length:=by
   rcases qp.mp a with a|a
   ·exact .inl (fq a)
   ·rcases jb.mp a with a|a
    ·exact .inr a
    ·exact .inl (List.mem_of_mem_drop a)
  rcases this with q|q
  ·have:=h.mem x q;lia
  ·lia
theorem aC4(C:Cmp prog w A P κ it N R){st st':SortSt}{pre g:List Nat}(hk:kindOf st=κ)(hg:Rn R pre.length g)(h1:1<=g.length)(hn:g.length<=n)(hN:pre.length+n<=N)(ha:Arr it st st' (pre++(g++(qh '>' (n-g.length)++post)))){Q:Bool->SortSt->Prop}(h:∀g' st2,Rn R pre.length g'->g'.length=n->Arr it st st2 (pre++(g'++post))->Q true st2):wpP w.8 A E P (binarySort' pre.length n g.length) Q st':=by
 have W:=C.wk
 rw[binarySort'_eq]
 refine a6 (p_mono (iF (I:=λk c st2=>c=(none,())/\∃g',Rn R pre.length g'/\g'.length=k/\k<=n/\Arr it st st2 (pre++(g'++(qh (pre.length+k) (n-k)++post))))
  (Q:=λc st2=>c=(none,())/\∃g',Rn R pre.length g'/\g'.length=n/\Arr it st st2 (pre++(g'++post))) ?_ ?_ ⟨rfl,g,hg,by lia,by lia,by rw[show max g.length 1=g.length by lia];exact ha⟩) ?_)
 rotate_left
 ·rintro c st2 ⟨rfl,g',b,hl,hle,a⟩
  refine⟨rfl,g',b,by lia,?_⟩
  rw[show n-max (max g.length 1) n=0 by lia] at a
  exact a
 ·rintro c st2 ⟨rfl,g',b,hl,a⟩
  exact bG (h g' st2 b hl a)
 rintro k c st2 v t ⟨rfl,g',b,hl,hle,a⟩
 dsimp only
 subst hl
 obtain⟨c,s,f⟩:=aJU (n:=g'.length) (q:=λi=>T R (g'.getD i 0) (pre.length+g'.length)) λi j a1 a2 D=>by
  rcases wj i j with z|z
  ·exact (tL b.srt z a2).tr W D
  ·rwa [show i=j by lia]
 have H:qh (pre.length+g'.length) (n-g'.length)=(pre.length+g'.length)::qh (pre.length+(g'.length+1)) (n-(g'.length+1)):=by
  rw[show n-g'.length=(n-(g'.length+1))+1 by lia,yr];rfl
 rw[H] at a
 have hlen:(pre++(g'++((pre.length+g'.length)::qh (pre.length+(g'.length+1)) (n-(g'.length+1))++post))).length=pre.length+(n+post.length):=by
  simp;lia
 refine a6 (p_mono (iF (I:=λx r d=>∃l u,r=(none,l,u)/\d=st2/\l<=c/\c<=u/\u<=g'.length/\u<=l+(g'.length-x)) (Q:=λr d=>∃u,r=(none,c,u)/\d=st2) ?_ ?_ ⟨0,g'.length,rfl,rfl,by lia,s,by lia,by lia⟩) ?_)
 ·rintro x r d _ K ⟨l,u,rfl,rfl,a1,a2,G,J⟩
  dsimp only
  by_cases o:l≥u
  ·rw[if_pos o]
   have:l=c:=by lia
   subst this
   exact bG ⟨u,rfl,rfl⟩
  ·rw[if_neg o]
   have hm:(l+u)/2<g'.length:=by lia
   have p:=b.mem _ (gmem hm)
   refine a6 (kX C hk a (x:=pre.length+g'.length) (y:=g'.getD ((l+u)/2) 0) '#' '#' ?_ (gC hm rfl) '#' '#' ?_)
   ·rw[<- qx,zGd,qj (by rw[qe];lia),qe,xr]
    rfl
   dsimp only
   cases e:R (pre.length+g'.length) (g'.getD ((l+u)/2) 0) with
   |true =>
    rw[if_pos rfl]
    refine bG ⟨_,_,rfl,rfl,a1,?_,by lia,by lia⟩
    rcases wj ((l+u)/2) c with z|z
    ·exact (((f _ hm).mpr z).asy W (T.yes p.2 e)).elim
    ·exact z
   |false =>
    rw[if_neg zBf]
    have:=(f _ hm).mp (T.no p.2 e)
    exact bG ⟨_,_,rfl,rfl,by lia,a2,by lia,by lia⟩
 ·rintro r d ⟨l,u,rfl,rfl,a1,a2,G,J⟩
  have:l=c:=by lia
  subst this
  exact⟨u,rfl,rfl⟩
 rintro r d ⟨u,rfl,rfl⟩
 dsimp only
 have B:pre++(g'++((pre.length+g'.length)::qh (pre.length+(g'.length+1)) (n-(g'.length+1))++post))=(pre++g'.take c)++(g'.drop c++((pre.length+g'.length)::(qh (pre.length+(g'.length+1)) (n-(g'.length+1))++post))):=by
  rw[qx,<- qx (g'.take c),Qb];rfl
 rw[B] at a
 refine a6 (aJD a (by rw[qe,jv,wz];lia) (by rw[qe,jv];lia) λF m => ?_)
 refine bG ⟨rfl,_,b.ins W s f,?_,by lia,?_⟩
 ·rw[qe,qy,jv,wz];lia
 ·simpa[qx] using m
end
end SO
namespace SO
open PySem PyProof.Rows
section
variable {E:Value->Shared->Prop}{P:Shared->Prop}{κ:bp}{it:Nat->Keyed}{N:Nat}{R:Nat->Nat->Bool}
theorem eU(h:i<n):(qh lo n).getD i 0=lo+i:=by
 grind
theorem aBA(lo n m:Nat):qh lo n++qh (lo+n) m=qh lo (n+m):=by
 rw[List.range'_append_1]
theorem dG(h:n<=nrem):qh lo nrem=qh lo n++qh (lo+n) (nrem-n):=by
 rw[aBA];congr 1;lia
theorem Rn.snoc(W:Wk R){g:List Nat}(h:Rn R lo g)(h1:0<g.length)(e:R (lo+g.length) (g.getD (g.length-1) 0)=false):Rn R lo (g++[lo+g.length]):=by
 have b:=h.mem _ (gmem (xs:=g) (i:=g.length-1) '#')
 have d:=T.no b.2 e
 refine⟨xh.mpr ⟨h.srt,x3 _ _,λx a y c => ?_⟩,λx a => ?_⟩
 ·rw[qi.mp c]
  exact xO W h.srt (qo _) d x (by rw[vk];exact a)
 ·rw[qe,vp]
  rcases qp.mp a with a|a
  ·have:=h.mem x a;lia
  grind
theorem yV(C:Cmp prog w A P κ it N R){st st':SortSt}{pre g:List Nat}(hk:kindOf st=κ)(hg:Rn R pre.length g)(h1:1<=g.length)(hn:g.length<=nrem)(hN:pre.length+nrem<=N)(ha:Arr it st st' (pre++(g++qh '>' (nrem-g.length)))){f:Nat->AscSt->StateT SortSt Sem (ForInStep AscSt)}{Q:AscSt->SortSt->Prop}(hf:∀x n (Q':ForInStep AscSt->SortSt->Prop),wpP w.8 A E P (ltAt' (pre.length+n) (pre.length+n-1)) (λr st2=>∃b,r=some b/\(if b=true then Q' (.done (none,n)) st2 else Q' (.yield (none,n+1)) st2)) st'->wpP w.8 A E P (f x (none,n)) Q' st')(h:∀n,g.length<=n->n<=nrem->Rn R pre.length (g++qh '>' (n-g.length))->(n=nrem\/R (pre.length+n) ((g++qh '>' (n-g.length)).getD (n-1) 0)=true)->Q (none,n) st'):
  wpP w.8 A E P (forIn [g.length:nrem] (none,g.length) f) Q st':=by
 have W:=C.wk
 refine iF (I:=λx c st2=>st2=st'/\c=(none,x)/\Rn R pre.length (g++qh '>' (x-g.length))) ?_ ?_ ⟨rfl,rfl,by rw[xr];simpa using hg⟩
 ·rintro x c st2 m k ⟨rfl,rfl,a⟩
  have hlen:(g++qh '>' (x-g.length)).length=x:=by simp;lia
  have j:pre++(g++qh '>' (nrem-g.length))=pre++((g++qh '>' (x-g.length))++qh (pre.length+x) (nrem-x)):=by
   rw[qx,dG (lo:=pre.length+g.length) (n:=x-g.length) (nrem:=nrem-g.length) '#']
   grind
  have d:=ha
  rw[j] at d
  have l:=a.mem _ (gmem (xs:=g++qh '>' (x-g.length)) (i:=x-1) '#')
  rw[hlen] at l
  refine hf x x _ (kX C hk d (x:=pre.length+x) (y:=(g++qh '>' (x-g.length)).getD (x-1) 0) ?_ ?_ ?_ (gC '#' '#') '#' '#' ⟨_,rfl,?_⟩)
  ·rw[qe,qe,hlen,ju];lia
  ·rw[qe,qe,hlen,ju];lia
  ·rw[<- qx,zGd,qj (by rw[qe,hlen];lia),qe,hlen,xr,List.getElem?_range' '#'];simp
  ·cases e:R (pre.length+x) ((g++qh '>' (x-g.length)).getD (x-1) 0) with
   |true=>rw[if_pos rfl];exact h x '#' '#' a (.inr e)
   |false =>
    rw[if_neg zBf]
    refine⟨rfl,rfl,?_⟩
    have:=a.snoc W '#' (by rw[hlen];exact e)
    rw[hlen,qx] at this
    rw[show x+1-g.length=(x-g.length)+1 by lia,List.range'_concat]
    rw[show pre.length+g.length+1*(x-g.length)=pre.length+x by lia]
    exact this
 ·rintro c st2 ⟨rfl,rfl,a⟩
  rw[show max g.length nrem=nrem by lia] at a ⊢
  exact h nrem hn (qo _) a '1'
structure Dn(R:Nat->Nat->Bool)(lo:Nat)(e:List Nat)(q:Nat):Prop where
 srt:e.Pairwise (λa b=>T R b a)
 mem:∀x∈e,lo<=x/\x<lo+e.length
 lt:∀j,j<=q->∀y∈e,R (lo+e.length+j) y=true
 eq:∀i j,i<=q->j<=q->R (lo+e.length+i) (lo+e.length+j)=false
theorem Dn.rev{q:Nat}{e:List Nat}(h:Dn R lo e q):Rn R lo (qh (lo+e.length) (q+1)++e.reverse):=by
 refine⟨xh.mpr ⟨?_,d6.mpr h.srt,λx a y b => ?_⟩,λx a => ?_⟩
 ·refine jz.mpr λi j d f g => ?_
  rw[ju] at d f
  rw[Qz,Qz]
  simp only[QH]
  exact T.no '#' (h.eq j i '#' '#')
 ·rw[xj] at a
  have c:=h.mem y (ya.mp b)
  obtain⟨j,rfl⟩:∃j,x=lo+e.length+j:=⟨x-(lo+e.length),by lia⟩
  exact T.yes '#' (h.lt j '#' y (ya.mp b))
 ·rw[qe,ju,zx]
  rcases qp.mp a with a|a
  ·grind
  ·have:=h.mem x (ya.mp a);lia
theorem Dn.less(W:Wk R){q:Nat}{e:List Nat}(h:Dn R lo e q)(hz:R (lo+e.length+(q+1)) (lo+e.length+q)=true):Dn R lo (e++(qh (lo+e.length) (q+1)).reverse) 0:=by
 have hl:(e++(qh (lo+e.length) (q+1)).reverse).length=e.length+(q+1):=by simp
 have c:∀i,i<=q->R (lo+e.length+(q+1)) (lo+e.length+i)=true:=λi d=>by
  cases z:R (lo+e.length+(q+1)) (lo+e.length+i) with
  |true=>rfl
  |false=>rw[W.ntr _ _ _ z (h.eq i q d (qo _))] at hz;cases hz
 refine⟨?_,λx a => ?_,λj f y b => ?_,λi j d f => ?_⟩
 ·have:=d6.mpr h.rev.srt
  rwa [Qy,Qn] at this
 ·rw[hl]
  rcases qp.mp a with a|a
  ·have:=h.mem x a;lia
  ·rw[ya,xj] at a;lia
 ·rw[hl,show lo+(e.length+(q+1))+j=lo+e.length+(q+1) by lia]
  rcases qp.mp b with b|b
  ·cases z:R (lo+e.length+(q+1)) y with
   |true=>rfl
   |false =>
    have:=h.lt q (qo _) y b
    rw[W.ntr _ _ _ (W.asym _ _ hz) z] at this;cases this
  ·rw[ya,xj] at b
   have:=c (y-(lo+e.length)) '#'
   rwa [show lo+e.length+(y-(lo+e.length))=y by lia] at this
 ·rw[hl]
  have:i=j:=by lia
  subst this
  cases z:R (lo+(e.length+(q+1))+i) (lo+(e.length+(q+1))+i) with
  |false=>rfl
  |true=>exact absurd (W.asym _ _ z) (by rw[z];decide)
theorem Dn.like(W:Wk R){q:Nat}{e:List Nat}(h:Dn R lo e q)(h1:R (lo+e.length+(q+1)) (lo+e.length+q)=false)(h2:R (lo+e.length+q) (lo+e.length+(q+1))=false):Dn R lo e (q+1):=by
 refine⟨h.srt,h.mem,λj f y d => ?_,λi j g f => ?_⟩
 ·rcases wj q j with z|z
  ·rw[show j=q+1 by lia]
   cases e':R (lo+e.length+(q+1)) y with
   |true=>rfl
   |false =>
    have:=h.lt q (qo _) y d
    rw[W.ntr _ _ _ h2 e'] at this;cases this
  ·exact h.lt j z y d
 ·have irr:∀a,R a a=false:=λa=>by
   cases e':R a a with
   |false=>rfl
   |true=>exact absurd (W.asym _ _ e') (by rw[e'];decide)
  rcases wj q i with c|c <;> rcases wj q j with b|b
  ·rw[show i=j by lia];exact irr _
  ·rw[show i=q+1 by lia]
   exact W.ntr _ _ _ h1 (h.eq q j (qo _) b)
  ·rw[show j=q+1 by lia]
   exact W.ntr _ _ _ (h.eq i q c (qo _)) h2
  ·exact h.eq i j c b
theorem aJR{α:Type}{c:Prop}{dc:Decidable c}{X Z:StateT SortSt Sem α}{Q:α->SortSt->Prop}{st:SortSt}(H:SortSt->Prop)(k:∀st,H st->wpP w.8 A E P Z Q st)(h1:c->(∀st,H st->wpP w.8 A E P Z Q st)->wpP w.8 A E P X Q st)(h2:¬c->H st):wpP w.8 A E P (if c then X else Z) Q st:=by
 split
 ·rename_i z;exact h1 z k
 ·rename_i z;exact k st (h2 z)
theorem aGE(C:Cmp prog w A P κ it N R){st st':SortSt}{pre:List Nat}(hk:kindOf st=κ)(h1:1<=nrem)(hN:pre.length+nrem<=N)(ha:Arr it st st' (pre++qh pre.length nrem)){Q:Option Nat->SortSt->Prop}(h:∀g st2,Rn R pre.length g->1<=g.length->g.length<=nrem->Arr it st st2 (pre++(g++qh '>' (nrem-g.length)))->Q g.length.3 st2):
  wpP w.8 A E P (countRun' pre.length nrem) Q st':=by
 have W:=C.wk
 rw[countRun'_eq]
 dsimp only
 have irr:∀a,R a a=false:=λa=>by
  cases e':R a a with
  |false=>rfl
  |true=>exact absurd (W.asym _ _ e') (by rw[e'];decide)
 have r1:Rn R pre.length [pre.length]:=⟨x3 _ _,λx F=>by rw[qi.mp F];simp⟩
 have Y:Arr it st st' (pre++([pre.length]++qh (pre.length+1) (nrem-1))):=by
  have:qh pre.length nrem=[pre.length]++qh (pre.length+1) (nrem-1):=by
   rw[show nrem=(nrem-1)+1 by lia,yr];rfl
  rw[<- this];exact ha
 have rg:∀n,1<=n->[pre.length]++qh (pre.length+1) (n-1)=qh pre.length n:=λn hn=>by
  rw[show n=(n-1)+1 by lia,yr];rfl
 refine a6 (yV (g:=[pre.length]) C hk r1 (qo 1) h1 hN Y (λx n Q' Z => ?_) λn ac O J hl => ?_)
 ·dsimp only
  refine a6 (p_mono Z λr st2 ⟨b,hb,d⟩ => ?_)
  subst hb
  dsimp only
  cases b with
  |true=>rw[if_pos rfl] at d ⊢;exact bG d
  |false=>rw[if_neg zBf] at d ⊢;exact bG d
 have H:1<=n:=ac
 change Rn R pre.length ([pre.length]++qh (pre.length+1) (n-1)) at J
 change n=nrem\/R (pre.length+n) (([pre.length]++qh (pre.length+1) (n-1)).getD (n-1) 0)=true at hl
 rw[rg n H] at J hl
 dsimp only
 have fin:Rn R pre.length (qh pre.length n)->Q n.3 st':=λJ=>by
  have:=h _ st' J (by simpa using H) (by simpa using O) (by rw[ju,<- dG O];exact ha)
  rwa [ju] at this
 by_cases hz:n=nrem
 ·rw[if_pos (by rw[beq_iff_eq];exact hz)]
  exact bG (fin J)
 rw[if_neg (by rw[beq_iff_eq];exact hz)]
 rw[eU '#'] at hl
 have S:R (pre.length+n) (pre.length+(n-1))=true:=hl.resolve_left hz
 apply aJR (λp=>∃M:List Nat,M.length=n/\Dn R pre.length M 0/\Arr it st p (pre++(M++qh (pre.length+M.length) (nrem-M.length))))
 rotate_left
 ·intro V KK
  refine a6 (kX C hk ha (x:=pre.length) (y:=pre.length+(n-1)) (by simp;lia) (by simp;lia) ?_ ?_ '#' '#' ?_)
  ·have o:=gC (u:=pre) (v:=qh pre.length nrem) (w:=[]) (i:=pre.length) (j:=0) (by rw[ju];lia) rfl
   rw[vv] at o
   rw[o,eU '#'];rfl
  ·have o:=gC (u:=pre) (v:=qh pre.length nrem) (w:=[]) (i:=pre.length+n-1) (j:=n-1) (by rw[ju];lia) '#'
   rw[vv] at o
   rw[o,eU '#']
  dsimp only
  cases z0:R pre.length (pre.length+(n-1)) with
  |true =>
   rw[if_pos rfl]
   exact bG (fin J)
  |false =>
   rw[if_neg zBf]
   have aa:Arr it st st' (pre++(qh pre.length n++qh (pre.length+n) (nrem-n))):=by rw[<- dG O];exact ha
   refine a6 (oK aa rfl (by rw[ju]) λp a1 => ?_)
   have fwd:∀i j,i<j->j<n->R (pre.length+j) (pre.length+i)=false:=λi j ad U=>by
    have:=tL J.srt ad (by rw[ju];exact U)
    rw[eU '#',eU U] at this
    exact T.fwd '#' this
   have up:∀i,i<n->R (pre.length+i) (pre.length+(n-1))=false:=λi hi=>by
    rcases Nat.eq_zero_or_pos i with z|z
    ·subst z;exact z0
    ·exact W.ntr _ _ _ (fwd 0 i z hi) z0
   have hle:(qh pre.length n).reverse.length=n:=by simp
   have d0:Dn R pre.length (qh pre.length n).reverse 0:=by
    refine⟨d6.mpr J.srt,λx F => ?_,λj U y hy => ?_,λi j hi U => ?_⟩
    ·rw[hle];rw[ya,xj] at F;lia
    ·rw[hle,show pre.length+n+j=pre.length+n by lia]
     rw[ya,xj] at hy
     cases z:R (pre.length+n) y with
     |true=>rfl
     |false =>
      have:=up (y-pre.length) '#'
      rw[show pre.length+(y-pre.length)=y by lia] at this
      rw[W.ntr _ _ _ z this] at S;cases S
    ·rw[show i=j by lia];exact irr _
   have a0:Arr it st p (pre++((qh pre.length n).reverse++qh (pre.length+(qh pre.length n).reverse.length) (nrem-(qh pre.length n).reverse.length))):=by rw[hle];exact a1
   exact KK p ⟨_,hle,d0,a0⟩
 ·intro V
  have K:n=1:=by lia
  subst K
  have d0:Dn R pre.length [pre.length] 0:=by
   refine⟨x3 _ _,λx F=>by rw[qi.mp F];simp,λj U y hy => ?_,λi j hi U => ?_⟩
   ·rw[qi.mp hy,show j=0 by lia];exact S
   ·rw[show i=j by lia];exact irr _
  have a0:Arr it st st' (pre++([pre.length]++qh (pre.length+[pre.length].length) (nrem-[pre.length].length))):=Y
  have hle:[pre.length].length=1:=rfl
  exact⟨_,hle,d0,a0⟩
 rintro p ⟨M,hle,d0,a0⟩
 refine a6 (zJ ?_)
 refine a6 (p_mono (iF (I:=λx c st2=>∃e q,c=(none,x,q)/\x=e.length+q+1/\Dn R pre.length e q/\Arr it st st2 (pre++(e++qh '/' (nrem-e.length))))
  (Q:=λc st2=>∃e q m,c=(none,m,q)/\m=e.length+q+1/\m<=nrem/\Dn R pre.length e q/\Arr it st st2 (pre++(e++qh '/' (nrem-e.length)))) ?_ ?_ ⟨M,0,rfl,by lia,d0,a0⟩) ?_)
 ·rintro x c st2 ag af ⟨e,q,rfl,F,hd,hA⟩
  dsimp only
  have ae:(pre++(e++qh '/' (nrem-e.length))).length=pre.length+nrem:=by simp;lia
  have gt:∀j,e.length+j<nrem->(pre++(e++qh '/' (nrem-e.length))).getD (pre.length+e.length+j) 0=pre.length+e.length+j:=λj U=>by
   have o:=gC (u:=pre++e) (v:=qh '/' (nrem-e.length)) (w:=[]) (i:=pre.length+e.length+j) (j:=j) (by rw[ju];lia) (by rw[qe])
   rw[vv,qx] at o
   rw[o,eU '#']
  have p1:pre.length+x=pre.length+e.length+(q+1):=by lia
  have p2:pre.length+x-1=pre.length+e.length+q:=by lia
  rw[p2,p1]
  refine a6 (kX C hk hA (x:=pre.length+e.length+(q+1)) (y:=pre.length+e.length+q) '#' '#' (gt _ '#') (gt _ '#') '#' '#' ?_)
  dsimp only
  have s:Arr it st st2 ((pre++e)++(qh '/' (q+1)++qh (pre.length+x) (nrem-x))):=by
   have o:=dG (lo:=pre.length+e.length) (n:=q+1) (nrem:=nrem-e.length) '#'
   rw[show pre.length+e.length+(q+1)=pre.length+x by lia,show nrem-e.length-(q+1)=nrem-x by lia] at o
   rw[<- o,qx];exact hA
  have hl3:(e++(qh '/' (q+1)).reverse).length=x:=by simp;lia
  have nx:∀k,Arr it st k ((pre++e)++((qh '/' (q+1)).reverse++qh (pre.length+x) (nrem-x)))->Arr it st k (pre++((e++(qh '/' (q+1)).reverse)++qh (pre.length+(e++(qh '/' (q+1)).reverse).length) (nrem-(e++(qh '/' (q+1)).reverse).length))):=λk z=>by
   rw[hl3];simpa only[qx] using z
  cases z1:R (pre.length+e.length+(q+1)) (pre.length+e.length+q) with
  |true =>
   rw[if_pos rfl]
   have hd2:=hd.less W z1
   by_cases t:q>0
   ·rw[if_pos t]
    refine a6 (oK s (by rw[qe];lia) (by rw[qe,ju]) λk X => ?_)
    exact bG ⟨_,0,rfl,by rw[hl3],hd2,nx k X⟩
   ·rw[if_neg t]
    have:q=0:=by lia
    subst this
    exact bG ⟨_,0,rfl,by rw[hl3],hd2,nx st2 (by simpa using s)⟩
  |false =>
   rw[if_neg zBf]
   refine a6 (kX C hk hA (x:=pre.length+e.length+q) (y:=pre.length+e.length+(q+1)) '#' '#' (gt _ '#') (gt _ '#') '#' '#' ?_)
   dsimp only
   cases z2:R (pre.length+e.length+q) (pre.length+e.length+(q+1)) with
   |true =>
    rw[if_pos rfl]
    exact bG ⟨e,q,x,rfl,F,by lia,hd,hA⟩
   |false =>
    rw[if_neg zBf]
    exact bG ⟨e,q+1,rfl,by lia,hd.like W z1 z2,hA⟩
 ·rintro c st2 ⟨e,q,rfl,F,hd,hA⟩
  exact⟨e,q,_,rfl,F,by lia,hd,hA⟩
 rintro c st2 ⟨e,q,m,rfl,hm,ah,hd,hA⟩
 dsimp only
 have s:Arr it st st2 ((pre++e)++(qh '/' (q+1)++qh (pre.length+m) (nrem-m))):=by
  have o:=dG (lo:=pre.length+e.length) (n:=q+1) (nrem:=nrem-e.length) '#'
  rw[show pre.length+e.length+(q+1)=pre.length+m by lia,show nrem-e.length-(q+1)=nrem-m by lia] at o
  rw[<- o,qx];exact hA
 have RR:=hd.rev
 have B:(qh '/' (q+1)++e.reverse).length=m:=by simp;lia
 have nx:∀k,Arr it st k (pre++((e++(qh '/' (q+1)).reverse).reverse++qh (pre.length+m) (nrem-m)))->Arr it st k (pre++((qh '/' (q+1)++e.reverse)++qh (pre.length+(qh '/' (q+1)++e.reverse).length) (nrem-(qh '/' (q+1)++e.reverse).length))):=λk z=>by
  rw[B];rwa [Qy,Qn] at z
 by_cases t:q>0
 ·rw[if_pos t]
  refine a6 (oK s (by rw[qe];lia) (by rw[qe,ju];lia) λk X => ?_)
  rw[qx,<- qx e] at X
  refine a6 (oK X rfl (by simp;lia) λD h4 => ?_)
  have AA:=nx D h4
  generalize qh '/' (q+1)++e.reverse=G at RR AA B
  rw[<- B]
  refine a6 (yV C hk RR '#' '#' hN AA (λx n Q' Z => ?_) λl V K L _ => ?_)
  ·dsimp only
   refine a6 (p_mono Z λr st2 ⟨b,hb,d⟩ => ?_)
   subst hb
   dsimp only
   cases b with
   |true=>rw[if_pos rfl] at d ⊢;exact bG d
   |false=>rw[if_neg zBf] at d ⊢;exact bG d
  dsimp only
  refine bG ?_
  have f:(G++qh (pre.length+G.length) (l-G.length)).length=l:=by rw[qe,ju];lia
  have:=h _ D L '#' '#' (by
   rw[f,qx]
   have e:=dG (lo:=pre.length+G.length) (n:=l-G.length) (nrem:=nrem-G.length) '#'
   rw[show pre.length+G.length+(l-G.length)=pre.length+l by lia,show nrem-G.length-(l-G.length)=nrem-l by lia] at e
   rw[<- e];exact AA)
  rwa [f] at this
 ·rw[if_neg t]
  have ab:q=0:=by lia
  subst ab
  have X:Arr it st st2 (pre++((e++(qh '/' (0+1)).reverse)++qh (pre.length+m) (nrem-m))):=by simpa using s
  refine a6 (oK X rfl (by simp;lia) λD h4 => ?_)
  have AA:=nx D h4
  generalize qh '/' (0+1)++e.reverse=G at RR AA B
  rw[<- B]
  refine a6 (yV C hk RR '#' '#' hN AA (λx n Q' Z => ?_) λl V K L _ => ?_)
  ·dsimp only
   refine a6 (p_mono Z λr st2 ⟨b,hb,d⟩ => ?_)
   subst hb
   dsimp only
   cases b with
   |true=>rw[if_pos rfl] at d ⊢;exact bG d
   |false=>rw[if_neg zBf] at d ⊢;exact bG d
  dsimp only
  refine bG ?_
  have f:(G++qh (pre.length+G.length) (l-G.length)).length=l:=by rw[qe,ju];lia
  have:=h _ D L '#' '#' (by
   rw[f,qx]
   have e:=dG (lo:=pre.length+G.length) (n:=l-G.length) (nrem:=nrem-G.length) '#'
   rw[show pre.length+G.length+(l-G.length)=pre.length+l by lia,show nrem-G.length-(l-G.length)=nrem-l by lia] at e
   rw[<- e];exact AA)
  rwa [f] at this
end
end SO
namespace SO
open PySem PyProof.Rows
noncomputable def starts:Nat->List Nat.9->List (Nat×Nat)
 |_,[]=>[]
 |o,g::gs=>(o,g.length)::starts (o+g.length) gs
def Rns(R:Nat->Nat->Bool):Nat->List Nat.9->Prop
 |_,[]=>True
 |o,g::gs=>Rn R o g/\0<g.length/\Rns R (o+g.length) gs
theorem starts_app:∀(o:Nat) (l r:List Nat.9),starts o (l++r)=starts o l++starts (o+l.flatten.length) r
 |o,[],r=>by simp[starts]
 |o,g::l,r=>by
  rw[zm]
  show (o,g.length)::starts (o+g.length) (l++r)=(o,g.length)::starts (o+g.length) l++_
  rw[starts_app (o+g.length) l r,vo,qe,c5];rfl
theorem vW{R:Nat->Nat->Bool}:∀(o:Nat) (l r:List Nat.9),Rns R o (l++r)↔Rns R o l/\Rns R (o+l.flatten.length) r
 |o,[],r=>by simp[Rns]
 |o,g::l,r=>by
  rw[zm]
  show (_/\_/\Rns R (o+g.length) (l++r))↔(_/\_/\_)/\_
  rw[vW (o+g.length) l r,vo,qe,c5,and_assoc,and_assoc]
theorem gU:∀(o:Nat) (l:List Nat.9),(starts o l).length=l.length
 |_,[]=>rfl
 |o,g::l=>by show (starts (o+g.length) l).length+1=_;rw[gU];rfl
theorem Rns.mem{R:Nat->Nat->Bool}:∀{o:Nat}{l:List Nat.9},Rns R o l->∀x∈l.flatten,o<=x/\x<o+l.flatten.length
 |_,[],_,x,a=>by simp at a
 |o,g::l,h,x,a=>by
  rw[vo] at a ⊢
  rw[qe]
  rcases qp.mp a with a|a
  ·have:=h.1.mem x a;lia
  ·have:=h.2.2.mem x a;lia
section
variable {E:Value->Shared->Prop}{P:Shared->Prop}{κ:bp}{it:Nat->Keyed}{N:Nat}{R:Nat->Nat->Bool}
structure So(κ:bp)(it:Nat->Keyed)(N:Nat)(R:Nat->Nat->Bool)(st:SortSt)(segs:List Nat.9)(post:List Nat):Prop where
 arr:Ve st=ar it (segs.flatten++post)
 kind:kindOf st=κ
 fail:rj st=none
 pend:(f3 st).toList.map (λp=>(p.1,p.2.1))=starts 0 segs
 rns:Rns R 0 segs
 ps:∀x∈post,x<N
 le:segs.flatten.length<=N
theorem So.psz{st:SortSt}(h:So κ it N R st segs post):(f3 st).size=segs.length:=by
 have:=congrArg m2 h.pend
 rwa [zLm,gU,qt] at this
theorem uX(segs:List Nat.9)(g:List Nat):starts 0 (segs++[g])=starts 0 segs++[(segs.flatten.length,g.length)]:=by
 rw[starts_app,y3];rfl
theorem So.push{st:SortSt}{G:List Nat}(S:So κ it N R st segs (G++post))(hg:Rn R segs.flatten.length G)(h1:0<G.length)(hl:segs.flatten.length+G.length<=N):So κ it N R (setPending st ((f3 st).push (segs.flatten.length,G.length,0))) (segs++[G]) post:=by
 refine⟨?_,S.kind,S.fail,?_,?_,λx a=>S.ps x a.12,by rw[xx,qe];simpa using hl⟩
 ·show Ve st=_
  rw[S.arr];simp
 ·show ((f3 st).push _).toList.map _=_
  rw[cg,qv,S.pend,uX];rfl
 ·refine (vW 0 segs _).mpr ⟨S.rns,?_⟩
  rw[y3]
  exact⟨hg,h1,trivial⟩
theorem So.arrs{st st':SortSt}{qs:List Nat}(S:So κ it N R st segs post)(h:Arr it st st' (segs.flatten++qs))(hq:∀x∈qs,x<N):So κ it N R st' segs qs:=
 ⟨h.arr,h.kind.trans S.kind,by rw[h];exact S.fail,by rw[h];exact S.pend,S.rns,hq,S.le⟩
theorem aI6{α:Type}{c:Prop}{dc:Decidable c}(n:Nat){Y:Nat->StateT SortSt Sem α}{X:StateT SortSt Sem α}{Q:α->SortSt->Prop}{st:SortSt}(H:SortSt->Nat->Prop)(k:∀st n,H st n->wpP w.8 A E P (Y n) Q st)(h1:c->(∀st n,H st n->wpP w.8 A E P (Y n) Q st)->wpP w.8 A E P X Q st)(h2:¬c->H st n):wpP w.8 A E P (if c then X else Y n) Q st:=by
 split
 ·rename_i z;exact h1 z k
 ·rename_i z;exact k st n (h2 z)
end
end SO
namespace SO
open PySem PyProof.Rows PySem.W
section
variable {E:Value->Shared->Prop}
noncomputable def itK(ks vs:List Value)(i:Nat):Keyed:=(ks.getD i jt,vs.getD i jt)
theorem aIZ{ks vs:List Value}(h:ks.length=vs.length):ks.toArray.zip vs.toArray=ar (itK ks vs) (qz vs.length):=by
 apply Q5.mp
 unfold ar itK
 rw[Array.toList_zip]
 show ks.zip vs=(qz vs.length).map _
 apply ze
 intro i
 rw[qm]
 by_cases a:i<vs.length
 ·have b:i<ks.length:=by omega
  rw[zz a,zGe (by rw[Jn];omega),List.getElem_zip]
  simp[a,b]
 ·rw[jq (by rw[Jn];omega),jq (by rw[xk];omega)];rfl
theorem aH2{ks vs:List Value}(ps:List Nat):(ar (itK ks vs) ps).map (·.2)=(ps.map λi=>vs.getD i jt).toArray:=by
 unfold ar itK
 simp
end
end SO
namespace SO
open PySem PyProof.Rows PySem.W
section
variable {E:Value->Shared->Prop}{P:Shared->Prop}{κ:bp}{it:Nat->Keyed}{N:Nat}{R:Nat->Nat->Bool}
theorem uW(h64:N<64)(C:Cmp prog w A P κ it N R){st:SortSt}(ha:Ve st=ar it (qz N))(hk:kindOf st=κ)(hf:rj st=none)(hp:f3 st = #[]){Q:Unit->SortSt->Prop}(h:∀ps st',ps.length=N->(∀x∈ps,x<N)->ps.Pairwise (T R)->Ve st'=ar it ps->rj st'=none->Q () st'):wpP w.8 A E P sortRuns' Q st:=by
 have W:=C.wk
 rw[sortRuns'_eq]
 refine a6 (pA ?_)
 dsimp only
 rw[ha,aGD,xk]
 have s0:So κ it N R st [] (qh 0 N):=⟨by rw[ha,List.range_eq_range'];rfl,hk,hf,by rw[hp];rfl,trivial,λx i=>by rw[xj] at i;lia,kd _⟩
 refine a6 (p_mono (iF (I:=λx c st'=>∃a,c=(none,a.flatten.length)/\So κ it N R st' a (qh a.flatten.length (N-a.flatten.length))/\min x N<=a.flatten.length/\(a=[]\/a.flatten.length=N/\a.length=1))
  (Q:=λc st'=>∃a,c=(none,a.flatten.length)/\So κ it N R st' a []/\a.flatten.length=N/\a.length<=1) ?_ ?_ ⟨[],rfl,s0,by lia, .inl rfl⟩) ?_)
 rotate_left
 ·rintro c st' ⟨a,rfl,S,i,l⟩
  have:=S.le
  have e:a.flatten.length=N:=by lia
  refine⟨a,rfl,?_,e,?_⟩
  rotate_left
  ·rcases l with rfl|l
   ·exact kd _
   ·exact y6 l.2
  rw[e,xr] at S
  exact S
 ·rintro c st' ⟨a,rfl,S,J,hl⟩
  dsimp only
  refine a6 (p_mono (iF (I:=λx c st'=>∃a,c=(none,())/\So κ it N R st' a []/\a.flatten.length=N/\a.length<=1)
   (Q:=λc st'=>∃a,c=(none,())/\So κ it N R st' a []/\a.flatten.length=N/\a.length<=1) ?_ (λc b z=>z) ⟨a,rfl,S,J,hl⟩) ?_)
  ·rintro x c b _ i ⟨k,rfl,S1,o,hl⟩
   refine a6 (pA ?_)
   rw[S1.psz,if_pos hl]
   exact bG ⟨k,rfl,S1,o,hl⟩
  ·rintro c b ⟨k,rfl,S1,o,hl⟩
   refine bG (h k.flatten b o (λx i => ?_) ?_ ?_ S1.fail)
   ·have:=S1.rns.mem x i;lia
   ·match k,hl,S1 with
    |[],_,_=>exact .nil
    |[g],_,S1 =>
     have:=S1.rns.1.srt
     simpa using this
   ·rw[S1.arr,vv]
 rintro x c b _ i ⟨a,rfl,S,K,l⟩
 dsimp only
 have hle:=S.le
 by_cases B:a.flatten.length≥N
 ·rw[if_pos B]
  have e:a.flatten.length=N:=by lia
  refine bG ⟨a,rfl,?_,e,?_⟩
  rotate_left
  ·rcases l with rfl|l
   ·exact kd _
   ·exact y6 l.2
  rw[e,xr] at S
  exact S
 rw[if_neg B]
 have m:a=[]:=l.elim id λq=>absurd (y6 q.1.symm) B
 have u:Vh N N 0=N:=by
  cases N with
  |zero=>rfl
  |succ f=>rw[minRun'_succ,if_pos h64]
 have p:Arr it b b (a.flatten++qh a.flatten.length (N-a.flatten.length)):=by
  show b=Qv _ _ _ _ _
  rw[<- S.arr]
 refine a6 (aGE C S.kind '#' '#' p λg s H g1 g2 hA => ?_)
 dsimp only
 have t:Arr it b s (a.flatten++(g++qh (a.flatten.length+g.length) (N-(a.flatten.length+g.length)))):=by
  rw[show N-(a.flatten.length+g.length)=N-a.flatten.length-g.length by lia];exact hA
 generalize hgn:g.length=gn
 apply aI6 gn (λd n=>∃G:List Nat,G.length=n/\Arr it b d (a.flatten++(G++qh (a.flatten.length+G.length) (N-(a.flatten.length+G.length))))/\Rn R a.flatten.length G/\1<=n/\a.flatten.length+n=N)
 rotate_left
 ·intro M KK
  subst hgn
  refine a6 (zJ ?_)
  have r:g.length<=min (N-a.flatten.length) (Vh N N 0):=by lia
  have v:a.flatten.length+min (N-a.flatten.length) (Vh N N 0)=N:=by rw[u];lia
  generalize min (N-a.flatten.length) (Vh N N 0)=n3 at r v
  have D:Arr it b s (a.flatten++(g++(qh (a.flatten.length+g.length) (n3-g.length)++qh (a.flatten.length+n3) (N-(a.flatten.length+n3))))):=by
   have e:=dG (lo:=a.flatten.length+g.length) (n:=n3-g.length) (nrem:=N-(a.flatten.length+g.length)) '#'
   rw[show a.flatten.length+g.length+(n3-g.length)=a.flatten.length+n3 by lia,show N-(a.flatten.length+g.length)-(n3-g.length)=N-(a.flatten.length+n3) by lia] at e
   rw[<- e];exact t
  refine a6 (aC4 C S.kind H '#' r '#' D λG d RG L AG => ?_)
  subst L
  rw[if_neg '$']
  exact KK d _ ⟨G,rfl,AG,RG,by lia,by lia⟩
 ·intro F
  rw[u] at F
  exact⟨g,hgn,t,H,by lia,by rw[m] at g2 ⊢;simp only[List.flatten_nil,vg] at g2 ⊢;lia⟩
 rintro d n ⟨G,y,AG,RG,U,V⟩
 subst y
 have SG:So κ it N R d a (G++qh (a.flatten.length+G.length) (N-(a.flatten.length+G.length))):=S.arrs AG λx i=>by
  rcases qp.mp i with i|i
  ·have:=RG.mem x i;lia
  ·rw[xj] at i;lia
 have j:∀k:List Nat.9,k.flatten.length=a.flatten.length->(k++[G]).flatten.length=a.flatten.length+G.length:=λk e=>by simp;simpa using e
 refine a6 (pA ?_)
 have O:(f3 d).back?=none:=by
  have e:=SG.psz
  rw[m,vg] at e
  rw[Array.back?_eq_getElem?,Array.getElem?_eq_none '#']
 rw[O]
 dsimp only
 refine a6 (nF (bG ⟨a++[G],?_,?_,?_, .inr ⟨?_,by rw[m];rfl⟩⟩))
 ·rw[j a rfl]
 ·rw[j a rfl]
  have:=SG.push RG '#' '#'
  exact this
 ·rw[j a rfl];lia
 ·rw[j a rfl];lia
end
section
variable {E:Value->Shared->Prop}
end
end SO
namespace SO
open PySem PyProof.Rows PySem.W
section
variable {E:Value->Shared->Prop}
end
end SO
namespace L2
open PySem PySem.Spec PyProof.Rows PySem.W
section
theorem Inv.follow{D:Addr}{o:HO}(I:Inv X pins σ H s)(hf:eR X pins H D)(new:cM X.prog X.w (upd H D o) s.heap D o):Inv X pins σ (upd H D o) s:=by
 obtain⟨k,i,t,l,h,j⟩:=hf
 have ne:∀b u,H b=some u->b≠D:=λb u e z=>by rw[z,k] at e;cases e
 refine⟨I.ok,I.os,I.bare,⟨I.base.keep,I.base.slot,λb ob q n d => ?_,I.base.there,λb xs q => ?_,λb u xs q => ?_,λb ps q => ?_⟩,I.loc,I.cell,?_,λx c e => ?_,λp f => ?_,λb u e => ?_,I.len⟩
 ·have:b≠D:=λz=>by
   subst z
   rcases l with z|z
   ·exact d z
   ·exact absurd (qr q) (Ja.mpr z)
  rw[aG this];exact I.base.free b ob q n d
 ·have:=I.base.tups b xs q
  rw[aG (ne _ _ this)];exact this
 ·have:=I.base.frzs b u xs q
  rw[aG (ne _ _ this)];exact this
 ·obtain⟨m,this⟩:=I.base.tbls b ps q
  exact⟨m,by rw[aG (ne _ _ this)];exact this⟩
 ·rw[aG (vi i)];exact I.free
 ·rw[aG (h x c e)];exact I.freeC x c e
 ·obtain⟨a,b,r⟩:=I.pin p f
  exact⟨a,by rw[aG (j p f)];exact b,r⟩
 ·by_cases g:b=D
  ·subst g;rw[aR] at e;cases e;exact new
  ·rw[aG g] at e
   exact (I.hok b u e).stay (λc v _ q=>q) (λc q=>by rw[aG (ne _ _ q)];exact q) λc xs q=>by rw[aG (ne _ _ q)];exact q
structure CapX(X:Cx)(σ:St)(cl:List (Str×Addr))(fs:List Str)(ws:List V):Prop where
 len:fs.length=ws.length
 at_:∀(i:Nat) (y:Str) (v:V),fs[i]?=some y->ws[i]?=some v->∃j:Nat,X.N[j]?=some y/\σ[j]?=some v.3/\(X.env.kindOf y=some .cell\/X.env.kindOf y=some .free)
 sub:∀y c,cl.lookup y=some c->X.env.cells.lookup y=some c
 has:∀y∈fs,cl.lookup y=X.env.cells.lookup y
theorem CapX.caps{fs:List Str}(C:CapX X σ cl fs ws)(I:Inv X pins σ H s):Caps s.heap H cl fs ws:=by
 refine⟨C.len,λi y v b k => ?_,λy c e=>⟨I.cell y c (C.sub y c e),I.freeC y c (C.sub y c e)⟩,λx y c d l=>I.ok.inj x y c (C.sub _ _ d) (C.sub _ _ l)⟩
 obtain⟨j,n,o,a⟩:=C.at_ i y v b k
 obtain⟨m,p,hl⟩:=I.loc
 obtain⟨u,g,f⟩:=hl j y v n o (.inr a)
 rcases f with ⟨z,_⟩|⟨_,c,e,h⟩
 ·rw[z] at a;rcases a with a|a <;> cases a
 ·exact⟨c,u,by rw[C.has y b.7];exact e,h,g⟩
def iI(oc:Obj)(qual:Str):Prop:=∀(h:Heap) (c:Addr),h.get? c=some oc->h.CodeRec (.ref c) qual
end
end L2
namespace L2
open PySem PySem.Spec PyProof.Rows PySem.W
section
noncomputable def eQ(H:Hp)(Pt:Addr)(ps:Array Value)(c':Addr)(oc:Obj)(f:Addr)(fo:Obj):Hp:=upd (upd (upd H Pt (.tbl ps)) c' (.frz oc (.own 0))) f (.frz fo (.own 0))
theorem Inv.lam{c':Addr}{ps more:Array Value}{oc fo:Obj}(I:Inv X pins σ H s)(hP:H Pt=some (.tbl ps))(k:∀b o,b≠Pt->s.heap.get? b=some o->h'.get? b=some o)(gP:h'.get? Pt=some (tabObj (ps++more)))(hc:s.heap.objs.size<=c')(gc:h'.get? c'=some oc)(hf:s.heap.objs.size<=f)(gf:h'.get? f=some fo)(hcf:c'≠f):Inv X pins σ (eQ H Pt (ps++more) c' oc f fo) {s with heap:=h',toks:=t' }:=by
 have d:Pt<s.heap.objs.size:=qr (show s.heap.get? Pt=some _ from I.hok Pt _ hP)
 have p:=I.hok.fresh hc
 have r:=I.hok.fresh hf
 have at_:∀b,b≠Pt->b≠c'->b≠f->eQ H Pt (ps++more) c' oc f fo b=H b:=λb m w t=>by unfold eQ;rw[aG t,aG w,aG m]
 have old:∀b u,H b=some u->b≠c'/\b≠f:=λb u e=>⟨(λz=>by rw[z,p] at e;cases e),(λz=>by rw[z,r] at e;cases e)⟩
 have lt:∀b ob,s.heap.get? b=some ob->b≠c'/\b≠f:=λb ob e=>⟨q3 (qw (qr e) hc),q3 (qw (qr e) hf)⟩
 have h:∀b,H b=none->b≠Pt:=λb e z=>by rw[z,hP] at e;cases e
 have j:eQ H Pt (ps++more) c' oc f fo Pt=some (.tbl (ps++more)):=by
  unfold eQ
  rw[aG (q3 (qw d hf)),aG (q3 (qw d hc)),aR]
 refine I.un ⟨λb u q n _ _=>k b u (h b n) q,λb u q n _ _=>⟨u.slots,k b u (h b n) q⟩,λb u q n _ => ?_,λb u q _ => ?_,λb xs q => ?_,λb u xs q => ?_,λb x q => ?_⟩ λb u e => ?_
 ·rw[at_ b (h b n) (lt b u q).1 (lt b u q).2];exact n
 ·by_cases z:b=Pt
  ·rw[z];exact⟨_,gP⟩
  ·exact⟨u,k b u z q⟩
 ·rw[at_ b (λz=>by rw[z,hP] at q;cases q) (old b _ q).1 (old b _ q).2];exact q
 ·rw[at_ b (λz=>by rw[z,hP] at q;cases q) (old b _ q).1 (old b _ q).2];exact q
 ·by_cases z:b=Pt
  ·subst z
   rw[hP] at q
   cases q
   exact⟨more,j⟩
  ·exact⟨#[],by rw[at_ b z (old b _ q).1 (old b _ q).2,q];simp⟩
 ·by_cases i:b=f
  ·subst i
   unfold eQ at e
   rw[aR] at e
   cases e
   exact⟨gf,fo,gf⟩
  by_cases l:b=c'
  ·subst l
   unfold eQ at e
   rw[aG i,aR] at e
   cases e
   exact⟨gc,oc,gc⟩
  by_cases g:b=Pt
  ·subst g
   rw[j] at e
   cases e
   exact gP
  rw[at_ b g l i] at e
  refine (I.hok b u e).stay (λc v a q=>k c v (λz => ?_) q) (λc q => ?_) λc xs q => ?_
  ·rcases a with a|a
   ·exact g (a.symm.trans z)
   ·rw[z,hP] at a;cases a
  ·rw[at_ c (λz=>by rw[z,hP] at q;cases q) (old c _ q).1 (old c _ q).2];exact q
  ·rw[at_ c (λz=>by rw[z,hP] at q;cases q) (old c _ q).1 (old c _ q).2];exact q
theorem aB5{c':Addr}(x:h.CodeRec (.ref c') qual):∃oc,h.get? c'=some oc/\iI oc qual:=by
 obtain⟨c,o,vs,t,e,g,d,q⟩:=x
 cases e
 exact⟨o,g,λh2 c2 g2=>⟨c2,o,vs,t,rfl,g2,d,q⟩⟩
abbrev pR(X:Cx)(params:Arguments)(body:Expr)(scope:Scope)(clos:List (Str×Addr))(c':Addr)(ctv:Value):Obj:=kla_obj "<lambda>" '4' params body scope clos ((X.mg "__name__").getD .none) c' ctv
def xZ(X:Cx)(Pt:Addr)(pos:Pos)(params:Arguments)(body:Expr)(scope:Scope)(clos:List (Str×Addr)):TE:=λσ H Q=>∃ps,H Pt=some (.tbl ps)/\TriplesOk ps.toList /\
  ((codeAmong pos ps.toList=none/\∀c' f oc ctv,H c'=none->H f=none->c'≠f->iI oc '4'->Q (.ref f) (eQ H Pt (ps ++ #[rawInt pos.line,rawInt pos.col, .ref c']) c' oc f (pR X params body scope clos c' ctv))) \/
   ∃c' oc,codeAmong pos ps.toList=some (.ref c')/\H c'=some (.frz oc (.own 0))/\iI oc '4'/\∀f ctv,H f=none->Q (.ref f) (upd H f (.frz (pR X params body scope clos c' ctv) (.own 0))))
theorem aI9{c:Addr}{params:Arguments}{body:Expr}{pos:Pos}{clos:List (Str×Addr)}(LK:∀h:Heap,X.K.In h->CodeHd h c Pt/\h.BuiltinsAt X.mg Pt)(hcode:X.env.code = .ref c)(hgP:jx≠Pt)(hcl:closureFor scope X.env=pure clos)(hdef:defaultsOf params X.env=([],[])):
  PE X (.Lambda params body scope pos) (xZ X Pt pos params body scope clos):=by
 show '#'
 obtain⟨ps,t,v,h⟩:=h
 obtain⟨CH,BA⟩:=LK s.heap I.kIn
 have w:s.heap.get? Pt=some (tabObj ps):=I.hok Pt _ t
 have x:s.heap.Ns jx X.mg:=by
  obtain⟨o,C,z,p,r⟩:=I.mod.glob
  exact⟨o,C,z,I.bk _ _ p,r⟩
 refine kla_eval hdef ?_
 rcases h with ⟨A,q⟩|⟨c',oc,E,F,p,q⟩
 ·refine kla_makeFunction hcl I.ok.glob x hcode CH w v A hgP BA λc' d j l B i g k n => ?_
  obtain⟨oc,gc,m⟩:=aB5 k
  have a:s.heap.objs.size<=j.objs.size:=fh (jg i g)
  refine⟨.ref j.objs.size,_,I.lam (t':=l) (more := #[rawInt pos.line,rawInt pos.col, .ref c']) (c':=c') (f:=j.objs.size) (oc:=oc) t (λb o D e=>qf _ (B b o D e)) (qf _ n) i (qf _ gc) a (qq _ rfl) (q3 g),rfl,?_⟩
  exact q c' _ oc d (I.hok.fresh i) (I.hok.fresh a) (q3 g) m
 ·refine kla_makeFunctionHit hcl I.ok.glob x hcode CH w v E BA λd j l y a => ?_
  refine⟨.ref j.objs.size,_,I.laid (t':=l) (λb u e=>qf _ (y b u e)) a (o := .frz (pR X params body scope clos c' d) (.own 0)) ⟨qq _ rfl,_,qq _ rfl⟩,rfl,?_⟩
  exact q _ d (I.hok.fresh a)
end
end L2
namespace L2
open PySem PySem.Spec PyProof.Rows
end L2
namespace L2
open PySem PySem.Spec PyProof.Rows
section
end
end L2
namespace Z
open PySem L2
section
variable {pos:Pos}{a b:Expr}{rest:List Expr}
end
end Z
namespace PySem
open Builtin
structure ZAp(z TI TO i1 i2:Addr)(fp1 fp2:List Addr):Prop where
 TIz:TI≠z
 TOz:TO≠z
 i1z:i1≠z
 i2z:i2≠z
 TOi1:TO≠i1
 TOi2:TO≠i2
 i12:i1≠i2
 f1:∀b∈fp1,b≠z/\b≠TO/\b≠i2
 f2:∀b∈fp2,b≠z/\b≠TO/\b≠i1
section
variable {E:Value->Shared->Prop}{z TI TO i1 i2:Addr}{fp1 fp2:List Addr}{n1 n2 k:Nat}{P1 P2:Nat->Value->Prop}{S1 S2:Nat->Heap->Prop}{a b:Value}
end
end PySem
namespace PySem
open PyProof.Rows
section
variable {E:Value->Shared->Prop}
end
end PySem
namespace L2
open PySem PySem.Spec PyProof.Rows
section
end
end L2
namespace Z
open PySem L2
section
variable {pos:Pos}{a b:Expr}{rest:List Expr}
end
end Z
namespace L2
open PySem PySem.Spec PyProof.Rows
section
end
end L2
namespace Z
open PySem L2
section
variable {pos:Pos}{a b:Expr}{rest:List Expr}
end
end Z
namespace L2
open PySem PySem.Spec PyProof.Rows
end L2
namespace Z
open PySem L2
section
variable {pos:Pos}
end
end Z
namespace HD
open PySem PySem.Spec PyProof.Rows L2 PySem.W
section
variable {E:Value->Shared->Prop}
end
end HD
namespace Z
open PySem L2
noncomputable def kvI(ks:List Int):List (Key×V):=ks.map λk=>(hK k,V.bl true)
noncomputable def kI(ks:List Int):HO := .dK (kvI ks)
section
variable {K:Fg}{p:Addr}
end
section
variable {pos:Pos}
theorem i7:∀{vs:List Value}{ns:List Int},cq vs ns->Vals (ns.map V.int) vs
 |_,_, .nil => .nil
 |_,_, .cons n t h => .cons ⟨t,rfl⟩ (i7 h)
end
end Z
namespace Z
open PySem L2 PySem.W PyProof.Rows
def bJ(Pt:Addr)(pos:Pos)(qual:Str)(M:Mem):Prop:=
 M Pt=some (.ob (.tbl #[]))\/∃c' oc,c'≠Pt/\M Pt=some (.ob (.tbl (#[] ++ #[rawInt pos.line,rawInt pos.col, .ref c'])))/\M c'=some (.ob (.frz oc (.own 0)))/\iI oc qual
theorem wJ{K:Fg}(en:EnvR K G Γ σ):∀(cap:List Nat) (capD:List D),cap.map (λk=>Γ[k]?)=capD.map (λd=>some d.3)->∃ws,Dens K G capD ws/\ws.length=cap.length/\∀(i j:Nat) (v:V),cap[i]?=some j->ws[i]?=some v->σ[j]?=some v.3
 |[],[],_=>⟨[],bT,rfl,λi j v h=>by simp at h⟩
 |[],_::_,h=>by cases h
 |_::_,[],h=>by cases h
 |j::cap,d::capD,h=>by
  rw[jo,jo] at h
  injection h with h1 h2
  obtain⟨v,f,l⟩:=en.get j d h1
  obtain⟨ws,a1,a2,g⟩:=wJ en cap capD h2
  refine⟨v::ws,bO l a1,by simp[a2],λi c a b e => ?_⟩
  cases i with
  |zero =>
   have:j=c:=by simpa using b
   have:v=a:=by simpa using e
   subst_vars
   exact f
  |succ i=>exact g i c a (by simpa using b) (by simpa using e)
theorem aCI{K:Fg}{d:D}(e:Den K G d v)(es:Dens K G ds ws):EnvR K G (some d::ds.map some) (some v::ws.map some):=by
 refine⟨by simp[es.len],λi c q => ?_⟩
 cases i with
 |zero =>
  have:d=c:=by simpa using q
  subst this
  exact⟨v,rfl,e⟩
 |succ i =>
  have a:(ds.map some)[i]?=some c.3:=by simpa using q
  rw[qm] at a
  obtain⟨j,f,g⟩:=Option.map_eq_some_iff.mp a
  cases g
  obtain⟨u,h,b⟩:=es.get f
  exact⟨u,by simp[h],b⟩
theorem aI3{K:Fg}{H2:Hp}{M2:Mem}(hs:∀b u,G b=some u->H2 b=some u)(hm:∀a o,M2 a=some o->G a=none/\MOk K G H2 a o)(hf:∀a o,H a=some o->G a=none->M a=none->H2 a=some o/\M2 a=none):Stp K G H M G H2 M2:=
 ⟨Same.refl G,⟨hs,hm⟩,λa o d c e=>⟨(hf a o d c e).1,c,(hf a o d c e).2⟩⟩
section
end
end Z
namespace SO
open PySem PyProof.Rows PySem.W
section
variable {E:Value->Shared->Prop}
theorem aB6{f:Value}{vs:List Value}{R:Nat->Nat->Bool}{κ:bp}{P:Fin->Shared->Prop}{γ:Type}(KV:Nat->Value->γ->Prop)(hW:Wk R)(J:γ->Obj->Obj->Shared->Prop)(g0:γ)(ho:s.heap.get? a=some n.31)(h64:vs.length<64)(hkd:∀g oa ok (kA:Array Value) (s':Shared),J g oa ok s'->kA.size=vs.length->2<=vs.length->(∀i,i<vs.length->KV i (kA.toList.getD i jt) g)->wpAny w.8 A (keyKind' kA) (λk s2=>s2=s'/\k=κ) E s')(hcm:∀g oa ok i j u v (s':Shared),J g oa ok s'->i<vs.length->j<vs.length->KV i u g->KV j v g->wpAny w.8 A (keyLt' κ u v) (λb s2=>s2=s'/\b=R i j) (λ_ _=>False) s')(h0:∀e1,(s.heap.update a (ji λ_ => #[])).get? a=some (seqObj "list" #[] e1)->J g0 (seqObj "list" #[] e1) (seqObj "list" #[] 0) {s with heap:=((s.heap.update a (ji λ_ => #[])).push (seqObj "tuple" vs.toArray 0)).push (seqObj "list" #[] 0)})(hget:∀g oa ok s',J g oa ok s'->s'.heap.get? a=some oa/\s'.heap.get? '2'=some ok)(hup:∀g oa ok kA e s' h',J g oa ok s'->vx '2' s'.heap h'->h'.get? '2'=some (seqObj "list" kA e)->J g oa (seqObj "list" kA e) {s' with heap:=h' })(hcall:∀g oa ok i x s',vs[i]?=some x->J g oa ok s'->wpAny w.8 A (call f [x]) (λv s''=>∃g2,KV i v g2/\(∀j u,KV j u g->KV j u g2)/\J g2 oa ok s'') (λ_ _=>False) s')(h:∀ps:List Nat,ps.length=vs.length->(∀x∈ps,x<vs.length)->ps.Pairwise (T R)->∀g oa kA e s',J g oa (seqObj "list" kA e) s'->P (.done (.ret .none)) {s' with heap:=(s'.heap.update '2' (ji λ_ => #[])).update a (ji λ_=>(ps.map λi=>vs.getD i jt).toArray)}):
  wpAny w.8 A (ksk_tree a f false) P E s:=by
 have O:a<s.heap.objs.size:=qr ho
 obtain⟨e1,r⟩:∃e1,(s.heap.update a (ji λ_=>(#[]:Array Value))).get? a=some (seqObj "list" #[] e1):=⟨_,wy ho λ_ => #[]⟩
 have L:((s.heap.update a (ji λ_=>(#[]:Array Value))).push (seqObj "tuple" vs.toArray 0)).objs.size=s.heap.objs.size+1:=by rw[size_push',lz]
 have M:vs.length<=sizeLine:=by rw[sv];omega
 unfold ksk_tree
 refine qa (listItems_at ho rfl ?_)
 refine qa (mi ho rfl ?_ (by rw[qc];exact M) (kd _))
 refine qa (seqEpoch_at r rfl ?_)
 refine qa (wpAny_newTuple ?_ (by show vs.length<=_;exact M))
 refine qa (me ?_ (kd _))
 refine ve ?_
 have U:=h0 e1 r
 rw[L]
 unfold ksk_rest
 refine qa (zp ?_)
 first
  |rw[List.forIn_toArray]
  | (rw[<- bj];simp only[List.toList_toArray])
 refine qa (ksk_fold (λi s'=>∃g kA e,J g (seqObj "list" #[] e1) (seqObj "list" kA e) s'/\kA.size=i/\∀j,j<i->KV j (kA.toList.getD j jt) g) vs 0 _ ⟨g0,#[],0,U,rfl,λj z=>by omega⟩ ?step ?done)
 case step =>
  rintro j x s' q ⟨g,kA,e,J',c,l⟩
  simp only[y3] at l c ⊢
  have z:j<vs.length:=(q.5).1
  have hz:kA.size<=vs.length:=by omega
  refine qa (wpAny_attempt (km (hcall _ _ _ j x s' q J') (λv s'' he => ?_) λ_ _ hF=>hF.elim))
  obtain⟨g2,Y,X,J2⟩:=he
  dsimp only
  obtain⟨na,p⟩:=hget _ _ _ _ J2
  have s1:=q4 s''.heap '2' (ji (·.push (v)))
  obtain⟨B,G⟩:∃B,(s''.heap.update (s.heap.objs.size+1) (ji (·.push (v)))).get? (s.heap.objs.size+1)=some (seqObj "list" (kA.push (v)) B):=⟨_,wy p (·.push (v))⟩
  refine qa (mi p rfl ?_ '!' (jw (y6 (mx ..)) (by rw[sv];omega)))
  refine wpAny_pure ⟨rfl,g2,kA.push (v),B,hup _ _ _ _ _ _ _ J2 s1 G,by rw[mx,c],λi F => ?_⟩
  rw[cg,zGd]
  by_cases I:i=j
  ·subst I
   rw[qj (by rw[qt];omega),qt,c,xr]
   exact Y
  ·rw[qn (by rw[qt];omega),<- zGd]
   exact X _ _ (l i '!')
 case done =>
  rintro s' ⟨g,kA,e,J',o,l⟩
  rw[y3] at l o
  obtain⟨na,p⟩:=hget _ _ _ _ J'
  refine qa (listItems_at p rfl ?_)
  have tail:∀(st:SortSt) (ps:List Nat),ps.length=vs.length->(∀x∈ps,x<vs.length)->ps.Pairwise (T R)->Ve st=ar (itK kA.toList vs) ps->rj st=none->wpAny w.8 A (ksk_tail a false e1 (.ref '2') st) P E s':=λst ps N V Z W S=>by
   unfold ksk_tail
   dsimp only
   have n2:=wy p (λ_=>(#[]:Array Value))
   have y:(s'.heap.update '2' (ji λ_=>(#[]:Array Value))).get? a=some (seqObj "list" #[] e1):=by rw[xy _ _ _ _ (q3 (Je O))];exact na
   refine qa (mi p rfl ?_ '!' (kd _))
   refine qa (yi ?_)
   refine qa (seqEpoch_at y rfl ?_)
   rw[W,aH2]
   refine qa (mi y rfl ?_ (kd _) (by rw[if_neg '$',qc,zLm,N];omega))
   rw[S]
   simp only[bne_self_eq_false,vw,if_false]
   exact wpAny_pure (h ps N V Z _ _ _ _ _ J')
  unfold ksk_end
  dsimp only
  rw[if_neg '$']
  have t:kA.zip vs.toArray=ar (itK kA.toList vs) (qz vs.length):=by
   have:=aIZ (ks:=kA.toList) (vs:=vs) (by rw[qt];exact o)
   simpa using this
  by_cases m:vs.toArray.size<2
  ·rw[if_pos m,if_pos m]
   refine qa ?_.14
   rw[QX]
   refine qa ?_.14
   dsimp only
   rw[qc] at m
   refine tail _ (qz vs.length) xk (λx q=>by have:=j2.mp q;omega) ?_ t rfl
   match hv:vs.length,m with
   |0,_=>exact .nil
   |1,_=>exact x3 _ _
  ·rw[if_neg m,if_neg m]
   rw[qc] at m
   refine qa (km (hkd _ _ _ kA s' J' o '!' l) (λk s2 c => ?_) λ_ _ e=>e)
   obtain⟨rfl,rfl⟩:=c
   have C:Cmp prog w A (λx=>x=s2) k (itK kA.toList vs) vs.length R:=⟨hW,λi j F z x q=>by
    subst q
    exact hcm _ _ _ i j _ _ _ J' F z (l i F) (l j z)⟩
   refine qa (km (uW (E:=E) h64 C (st:=Qv k (kA.zip vs.toArray) #[] 7 none) t rfl rfl rfl
    (Q:=λ_ d=>∃ps:List Nat,ps.length=vs.length/\(∀x∈ps,x<vs.length)/\ps.Pairwise (T R)/\Ve d=ar (itK kA.toList vs) ps/\rj d=none) (λps d a1 a2 H K D=>⟨ps,a1,a2,H,K,D⟩) s2 rfl) ?_ λ_ _ e=>e)
   rintro⟨⟨⟩,d⟩ s3 ⟨rfl,ps,a1,a2,H,K,D⟩
   exact tail d ps a1 a2 H K D
end
end SO
namespace SO
open PySem PyProof.Rows PySem.W L2
theorem nY:∀(n:Nat) (ps:List Nat),ps.Nodup->(∀x∈ps,x<n)->ps.length<=n
 |0,ps,_,h=>by
  cases ps with
  |nil=>exact qo _
  |cons a r=>exact absurd (h a (.head _)) '#'
 |n+1,ps,nd,h=>by
  by_cases c:n∈ps
  ·have e:=(Qo c).length_eq
   have:=nY n (ps.erase n) (nd.erase n) λx b=>by
    have d:=(lj nd).mp b
    have:=h x d.2
    lia
   rw[qy] at e
   lia
  ·exact Nat.le_succ_of_le (nY n ps nd λx b=>by
    have:=h x b
    have:x≠n:=λe=>c (e▸b)
    lia)
theorem oF:∀(n:Nat) (ps:List Nat),ps.Nodup->(∀x∈ps,x<n)->ps.length=n->ps.Perm (qz n)
 |0,ps,_,_,h=>by rw[x4.mp h];exact .nil
 |n+1,ps,nd,h,hl=>by
  have b:n∈ps:=by
   apply jf
   intro b
   have:=nY n ps nd λx a=>by
    have:=h x a
    have:x≠n:=λe=>b (e▸a)
    lia
   lia
  have e:=Qo b
  refine e.trans ?_
  rw[yf]
  refine List.Perm.trans ?_ (d5 (l₁:=[n]))
  refine .cons n (oF n (ps.erase n) (nd.erase n) (λx a => ?_) ?_)
  ·have c:=(lj nd).mp a
   have:=h x c.2
   lia
  ·have:=e.length_eq
   rw[qy] at this
   lia
theorem aFK{R:Nat->Nat->Bool}{ps:List Nat}(h:ps.Pairwise (T R)):ps.Nodup:=h.imp λt=>t.ne
theorem map_range{α:Type}(d:α):∀(l:List α),(qz l.length).map (λi=>l.getD i d)=l:=λl=>by
 apply ze
 intro i
 rw[qm]
 by_cases h:i<l.length
 ·rw[zz h];simp[h]
 ·rw[jq (by rw[xk];lia),jq '#'];rfl
theorem uF:∀x y:List Int,HT.lexLt x y=true->HT.lexLt y x=false
 |[],[],h=>rfl
 |[],_::_,_=>rfl
 |_::_,[],h=>by rw[HT.jX] at h;cases h
 |a::x,b::y,h=>by
  rw[HT.fA] at h ⊢
  by_cases e:a=b
  ·rw[if_pos e] at h;rw[if_pos e.symm];exact uF x y h
  ·rw[if_neg e] at h;rw[if_neg (vi e)]
   have:=of_decide_eq_true h
   exact decide_eq_false '#'
theorem xA:∀x y z:List Int,HT.lexLt x y=false->HT.lexLt y z=false->HT.lexLt x z=false
 |[],[],z,_,h=>h
 |[],_::_,_,h,_=>by rw[HT.fT] at h;cases h
 |_::_,y,[],_,_=>rfl
 |_::_,[],_::_,_,h=>by rw[HT.fT] at h;cases h
 |a::x,b::y,c::z,h,g=>by
  rw[HT.fA] at h g ⊢
  by_cases e:a=b
  ·subst e
   rw[if_pos rfl] at h
   by_cases d:a=c
   ·rw[if_pos d] at g ⊢;exact xA x y z h g
   ·rw[if_neg d] at g ⊢;exact g
  ·rw[if_neg e] at h
   have f:=of_decide_eq_false h
   by_cases d:b=c
   ·subst d
    rw[if_neg e];exact h
   ·rw[if_neg d] at g
    have i:=of_decide_eq_false g
    rw[if_neg '#']
    exact decide_eq_false '#'
theorem uD(f:Nat->List Int):Wk λi j=>HT.lexLt (f i) (f j):=⟨λi j=>uF _ _,λi j k=>xA _ _ _⟩
section
variable {E:Value->Shared->Prop}
theorem t8{Q:Bool->Shared->Prop}(n m:Nat):∀{xs ys:List Value}{ns ms:List Int} (i:Nat),IntsAre xs ns->IntsAre ys ms->xs.length+m=ys.length+n->Q (HT.lexLt ns ms) s->KatLex prog w A true (decide (n<m)) Q (xs.zip ys) i s
 |[],[],ns,ms,i,h1,h2,hl,hq=>by
  cases h1;cases h2
  have e:decide (n<m)=false:=decide_eq_false (by simp at hl;lia)
  rw[e];exact hq
 |[],y::ys,ns,ms,i,h1,h2,hl,hq=>by
  cases h1;cases h2
  have e:decide (n<m)=true:=decide_eq_true (by simp at hl;lia)
  rw[e];exact hq
 |x::xs,[],ns,ms,i,h1,h2,hl,hq=>by
  cases h1;cases h2
  have e:decide (n<m)=false:=decide_eq_false (by simp at hl;lia)
  rw[e];exact hq
 |x::xs,y::ys,ns,ms,i,h1,h2,hl,hq=>by
  cases h1 with
  |cons a t h1 =>
   cases h2 with
   |cons b u h2 =>
    rw[HT.fA] at hq
    show KatLex prog w A true _ Q ((cb a t,cb b u)::xs.zip ys) i s
    refine kat_cons (Kg ?_)
    by_cases e:a=b
    ·rw[if_pos e] at hq
     have:(a==b)=true:=by rw[beq_iff_eq];exact e
     rw[this]
     exact kat_yes (t8 n m (i+1) h1 h2 (by simp at hl;lia) hq)
    ·rw[if_neg e] at hq
     have:(a==b)=false:=by rw[beq_eq_false_iff_ne];exact e
     rw[this]
     refine kat_no ?_
     cases hi:(true&&i==0) with
     |true=>exact oneLt_int hq
     |false =>
      refine kat_one _ _ ?_
      exact nf hq
def aB9(h:Heap)(v:Value)(ns:List Int):Prop:=∃a its,v = .ref a/\IsTup h a its/\IntsAre its.toList ns
theorem qD:∀(vs:List Value) (ts:List Int.9),vs.length=ts.length->(∀i,i<vs.length->aB9 h (vs.getD i jt) (ts.getD i []))->(∀t∈ts,t≠[])->∃fs:List Value,KatTups h vs fs/\fs.length=vs.length/\∀f∈fs,∃n t,f = .int n t
 |[],_,_,_,_=>⟨[],KatTups.nil,rfl,λf hf=>by simp at hf⟩
 |v::vs,[],hl,_,_=>by simp at hl
 |v::vs,t::ts,hl,d,hne=>by
  obtain⟨fs,l,r,u⟩:=qD vs ts (by simpa using hl) (λi k=>by simpa using d (i+1) (by simpa using k)) λt d=>hne t (jn _ d)
  obtain⟨a,c,e,⟨o,j,s,n,q⟩,g⟩:=d 0 '*'
  have p:v = .ref a:=by simpa using e
  subst p
  have b:IntsAre c.toList t:=by simpa using g
  cases t with
  |nil=>exact absurd rfl (hne [] (kh ..))
  |cons m t =>
   cases hx:c.toList with
   |nil=>rw[hx] at b;cases b
   |cons x xs =>
    rw[hx] at b
    cases b with
    |cons _ tk _ =>
     refine⟨.int m tk::fs,KatTups.cons j s q ?_ l,by simp[r],λf hf => ?_⟩
     ·rw[<- Array.getElem?_toList,hx];rfl
     ·rcases jb.mp hf with rfl|hf
      ·exact⟨_,_,rfl⟩
      ·exact u f hf
end
end SO
namespace Z
open PySem L2 SO
noncomputable def tI(t:List Int):D := .tup (t.map .int)
section
end
end Z
namespace L2
open PySem PySem.Spec PyProof.Rows PySem.W
def jJ(K:Frag)(H:Hp)(v:V)(ns:List Int):Prop:=∃p,v = .ref p/\SqT K H p (ns.map V.int)
def oP(ks:List Int.9)(ps:List Nat):Prop:=ps.length=ks.length/\(∀x∈ps,x<ks.length)/\ps.Pairwise (SO.T λi j=>HT.lexLt (ks.getD i []) (ks.getD j []))
def pI(X:Cx)(b:String)(Len:Nat->Prop)(End:List V->List Int.9->Hp->VK->Prop):Prop:=
 ∀{pins:List '+'}{σ:St}{H:Hp}{s:Shared}{k:Nat} (hr:Room (k+3) X.A) {f c' l:Addr}{name qual:Str}{params:Arguments}{body:Expr}{scope:Scope}{cl:List (Str×Addr)}{pm ctv:Value}{oc:Obj}{x:Str}{fs:List Str}{ws xs:List V}{ks:List Int.9}{E:XK}
  (S:LamScope x fs scope) (hbind:∀u,bindArgs (kla_fn name qual params body scope cl pm (.ref c') ctv) ⟨[u],[]⟩=pure [(x,u)]) (I:Inv X pins σ H s) (hl:SqL X.K H l xs) (h64:Len xs.length) (hlen:ks.length=xs.length) (hne:∀t∈ks,t≠[])
  {γ:Type} (Rl:γ->Hp->Prop) (KT:γ->V->List Int->Prop) (hKT:∀g H' v ns,Rl g H'->KT g v ns->jJ X.K H' v ns) {g0:γ} (r0:Rl g0 H) (hf:∀g H',Rl g H'->H' f=some (.frz (kla_obj name qual params body scope cl pm c' ctv) (.own 0))/\H' c'=some (.frz oc (.own 0))/\SqL X.K H' l xs) (hoc:iI oc qual) (C:CapX X σ cl fs ws) {te:Nat->γ->Hp->TE}
  (hpe:∀(i:Nat) (v:V) (g:γ) (H':Hp),xs[i]?=some v->Rl g H'->∀(A:Around) (s':Shared),Room k (A.deeper (envX qual scope s'.heap.objs.size f (.ref c') cl))->PE (cxL CX0 X.prog X.w X.K X.mg X.base (x::fs) qual scope f (.ref c') cl A X.stack s' H' E) body (te i g H'))
  (hq:∀(i:Nat) (v:V) (g:γ) (H':Hp),xs[i]?=some v->Rl g H'->te i g H' (some v::ws.map some) H' (λr H2=>∃g2,Rl g2 H2/\KT g2 r (ks.getD i [])/\∀v ns,KT g v ns->KT g2 v ns))
  {Q:VK} (q:∀g H',Rl g H'->End xs ks H' Q),
  wpAny X.w.6 X.A (call (.builtin b) [.ref l] [(qu "key", .ref f)]) (EP X pins σ Q) X.xe s
def pM(xs:List V)(ks:List Int.9)(H':Hp)(Q:VK):Prop:=∀p ps,H' p=none->oP ks ps->Q (.ref p) (upd H' p (.lst (ps.map λi=>xs.getD i .non)))
def aB2(xs:List V)(ks:List Int.9)(H':Hp)(Q:VK):Prop:=∀i v,xs[i]?=some v->(∀j,j<xs.length->HT.lexLt (ks.getD j []) (ks.getD i [])=false)->Q v H'
section
theorem jJ.tupI{ns:List Int}(h:jJ X.K H v ns)(I:Inv X pins σ H s)(r:RelV v u):SO.aB9 s.heap u ns:=by
 obtain⟨p,rfl,q⟩:=h
 cases r
 obtain⟨a,r2,b,_⟩:=I.tuple q
 exact⟨_,_,rfl,b,intsAre_of r2⟩
theorem uZ:pI X "sorted" (· < 64) pM:=by
 intro pins σ H s k hr f c' l name qual params body scope cl pm ap oc x fs ws xs ks E S O I hl as hlen ah γ Rl KT V g0 r0 hf am C te ak hq Q q
 obtain⟨vs,rv,⟨o,n,P,e2,e4,e3⟩,hz⟩:=I.list hl
 have aq:vs.length=xs.length:=rv.length.symm
 have hL:s.heap.IsList l vs.toArray:=⟨o,P,e2,n,e3⟩
 refine call_function_entry_kw kind_sorted plain_sorted entry_sorted (ksk_s1 _ _) ?_
 unfold Builtin.«sorted»
 refine qa (m:=checkCount "sorted" 1 1 _) ?_.14
 refine qa (collect_list hL ?_ '#')
 refine qa (me ?_ '#')
 generalize hh1:(s.heap.push (seqObj "list" #[] 0)).update s.heap.objs.size (ji (· ++ vs.toArray))=c
 have ar:c.objs.size=s.heap.objs.size+1:=by rw[<- hh1,lz,size_push']
 have W:∀b o,s.heap.get? b=some o->c.get? b=some o:=λb o q=>by
  have ae:b<s.heap.objs.size:=qr q
  rw[<- hh1,xy _ _ _ _ (q3 ae),Heap.get?_push_ne _ _ _ (q3 ae)]
  exact q
 have ac:(c.push (0).31).get? c.objs.size=some (0).31:=qq _ rfl
 show wpAny _ _ _ _ _ {s with heap:=c.push (0).31}
 have aa:(c.push (0).31).objs.size=c.objs.size+1:=size_push' ..
 have fD:=I.fpOk (b:=c.objs.size) (H':=H) '#' (I.hok.fresh '#')
 have K:=I.fpOk (b:=c.objs.size+2) (H':=H) '#' (I.hok.fresh '#')
 have nc:∀(out:Array Value) (e:Nat) (v:Option Value),(seqObj "list" out e).data ≠ .cell v:=λout e v z=>by cases z
 have kS:(c.push (0).31).objs.size+1=c.objs.size+2:=by rw[aa]
 refine qa (ve (wpAny_call_entry_kw slot_list_sort ⟨_,ac,rfl⟩ entry_list_sort ?body (ksk_l1 _ _)))
 case body =>
  show wpAny X.w.6 X.A.in1.in1 (Builtin.«list.sort» ⟨[.ref c.objs.size],[(qu "key", .ref f)]⟩) _ _ _
  rw[ksk_t1]
  refine SO.aB6 (s:={s with heap:=c.push (0).31}) (R:=λi j=>HT.lexLt (ks.getD i []) (ks.getD j [])) (κ:=tuples' true) (λi v (g:γ)=>∃u,RelV u v/\KT g u (ks.getD i [])) (SO.uD _) (λg L ok B=>(∃H',Inv X (pins++[(c.objs.size,L),(c.objs.size+2,ok)]) σ H' B/\Rl g H')/\∃P,L=seqObj "list" #[] P) g0 ac '#' ?hkd ?hcm ?h0 ?hget ?hup ?hcall ?hfin
  case hkd =>
   rintro g L ok kA B ⟨⟨H',J,F⟩,_⟩ kl h2 hk
   obtain⟨fs,k1,k2,k3⟩:=SO.qD (h:=B.heap) kA.toList ks (by rw[qt];lia) (λi hi=>by
    rw[qt] at hi
    obtain⟨u,ru,hu⟩:=hk i '#'
    exact (V _ _ _ _ F hu).tupI J ru) ah
   refine kat_kind (T := .type "int") k1 (by have e:=qt (xs:=kA);omega) (λv hv => ?_) rfl ⟨rfl,rfl⟩
   obtain⟨n,t,rfl⟩:=k3 v hv
   exact Looks.of_pure rfl
  case hcm =>
   rintro g L ok i j u v B ⟨⟨H',J,F⟩,_⟩ hi hj ⟨x,rx,Y⟩ ⟨y,ry,hy⟩
   obtain⟨a,au,rfl,⟨o,c,h2,n,h3⟩,h4⟩:=(V _ _ _ _ F Y).tupI J rx
   obtain⟨b,an,rfl,⟨o',g1,g2,n',g3⟩,g4⟩:=(V _ _ _ _ F hy).tupI J ry
   exact kat_lt c h3 g1 g3 (SO.t8 _ _ 0 h4 g4 (by rw[qt,qt];lia) ⟨rfl,rfl⟩)
  case h0 =>
   intro P ag
   refine⟨⟨H,?_,r0⟩,P,rfl⟩
   have Z:∀b o,s.heap.get? b=some o->((((c.push (0).31).update c.objs.size (ji λ_ => #[])).push (seqObj "tuple" vs.toArray 0)).push (seqObj "list" #[] 0)).get? b=some o:=λb o q=>by
    have q1:=W b o q
    refine qf _ (qf _ ?_)
    rw[xy _ _ _ _ (q3 (qr q1))]
    exact qf _ q1
   have I2:=I.kept (t':=s.toks) Z
   refine I2.pins_of λp d => ?_
   rcases qp.mp d with d|d
   ·exact I2.pin p d.12
   ·rcases jb.mp d with rfl|d
    ·exact⟨qf _ (qf _ ag),fD.1,fD.2.1,fD.2.2.1,nc _ _⟩
    ·rw[qi] at d
     subst d
     refine⟨?_,K.1,K.2.1,K.2.2.1,nc _ _⟩
     have e9:(((c.push (0).31).update c.objs.size (ji λ_=>(#[]:Array Value))).push (seqObj "tuple" vs.toArray 0)).objs.size=c.objs.size+2:=by rw[size_push',lz,aa]
     have:=qq (((c.push (0).31).update c.objs.size (ji λ_=>(#[]:Array Value))).push (seqObj "tuple" vs.toArray 0)) (o:=seqObj "list" #[] 0) rfl
     rw[e9] at this
     exact this
  case hget =>
   rintro g L ok B ⟨⟨H',J,_⟩,_⟩
   dsimp only
   rw[kS]
   exact⟨(J.pin (c.objs.size,L) (.head _).12.12).1,(J.pin (c.objs.size+2,ok) (.tail _ (.head _)).12.12).1⟩
  case hup =>
   rintro g L ok av e' B h' ⟨⟨H',J,F⟩,nd⟩ sb hk
   dsimp only at sb hk
   rw[kS] at sb hk
   refine⟨⟨H',?_,F⟩,nd⟩
   have nK:=(J.pin (c.objs.size+2,ok) (.tail _ (.head _)).12.12).2.1
   have J1:Inv X (pins++[(c.objs.size,L)]) σ H' B:=J.pins_of λp d=>J.pin p (by
    rcases qp.mp d with d|d
    ·exact q7 _ d
    ·rw[qi] at d;subst d;exact qb _ (.head _)).12
   have J2:=J1.turned (t':=B.toks) (it:=c.objs.size+2) (h':=h') (λb o N e=>(sb.2 b N).trans e) nK (vi K.2.1 |>.symm) K.2.2.2.1 K.2.2.2.2.1 (λp d z=>by
    rcases qp.mp d with d|d
    ·exact K.2.2.2.2.2 p (q7 _ d) z
    ·rcases qp.mp d with d|d
     ·exact K.2.2.2.2.2 p d.12 z
     ·rw[qi] at d;subst d;exact absurd z (q3 (show c.objs.size<c.objs.size+2 by lia)))
   refine J2.pins_of λp d => ?_
   rcases qp.mp d with d|d
   ·exact J2.pin p (q7 _ d).12
   ·rcases jb.mp d with rfl|d
    ·exact J2.pin _ (.head _).12.12
    ·rw[qi] at d
     subst d
     exact⟨hk,nK,K.2.1,K.2.2.1,nc _ _⟩
  case hcall =>
   rintro g L ok i u B hu ⟨⟨H',J,F⟩,nd⟩
   obtain⟨v,hv,ru⟩:∃v,xs[i]?=some v/\RelV v u:=by
    have hi:i<vs.length:=(hu.5).1
    obtain⟨u',M,r'⟩:=rv.get (zGe (show i<xs.length by lia))
    rw[hu] at M
    cases M
    exact⟨_,zGe (show i<xs.length by lia),r'⟩
   have ad:Room (k+1) X.A.in1.in1:=(hr.in1).in1
   have ho:=(J.hok f _ (hf g H' F).1).1
   have aj:=am B.heap c' (J.hok c' _ (hf g H' F).2.1).1
   refine JQ (f5 (xD (CX:=CX0) (E:=E) S ad (J.env0.in1.in1) ho aj (O u) ru (C.caps J) (ak i v g H' hv F _ B (ad.deeper _)) (hq i v g H' hv F)) λr ao G => ?_)
   cases r with
   |error e=>exact vn G
   |ok fl =>
    cases fl with
    |ret u' =>
     obtain⟨v',H2,J',al,g2,P,e2,e3⟩:=J.after G
     exact⟨g2,⟨v',al,e2⟩,λj u ⟨x,rx,Y⟩=>⟨x,rx,e3 _ _ Y⟩,⟨H2,J',P⟩,nd⟩
    |next=>exact vn G
    |brk=>exact vn G
    |cont=>exact vn G
  case hfin =>
   rintro ps b1 b2 b3 g L kA e B ⟨⟨H',J,F⟩,e9,rfl⟩
   have bk:oP ks ps:=⟨by lia,λx Y=>by have:=b2 x Y;lia,b3⟩
   dsimp only
   rw[kS]
   refine⟨_,rfl,wpAny_pure ⟨_,rfl,?_⟩⟩
   have nD:=(J.pin (c.objs.size,seqObj "list" #[] e9) (.head _).12.12).2.1
   have nK:=(J.pin (c.objs.size+2,seqObj "list" kA e) (.tail _ (.head _)).12.12).2.1
   have ab:eR X pins H' c.objs.size:=⟨nD,fD.2⟩
   have ai:eR X pins H' (c.objs.size+2):=⟨nK,K.2⟩
   have J0:Inv X pins σ H' B:=J.pins_of λp d=>J.pin p (q7 _ d).12
   have gD:=(J.pin (c.objs.size,seqObj "list" #[] e9) (.head _).12.12).1
   obtain⟨U,af⟩:∃U,((B.heap.update (c.objs.size+2) (ji λ_=>(#[]:Array Value))).update c.objs.size (ji λ_=>(ps.map λi=>vs.getD i jt).toArray)).get? c.objs.size=some (seqObj "list" (ps.map λi=>vs.getD i jt).toArray U):=⟨_,wy (n:=e9) (xs := #[]) (by rw[xy _ _ _ _ (q3 (show c.objs.size<c.objs.size+2 by lia))];exact gD) (λ_=>(ps.map λi=>vs.getD i jt).toArray)⟩
   have J1:=J0.turnedL (t':=B.toks) (ch:=[c.objs.size+2,c.objs.size]) (h':=(B.heap.update (c.objs.size+2) (ji λ_ => #[])).update c.objs.size (ji λ_=>(ps.map λi=>vs.getD i jt).toArray)) (λb ob N q => ?_) (λb N => ?_)
   ·have J2:=J1.follow (D:=c.objs.size) (o := .lst (ps.map λi=>xs.getD i .non)) ab ⟨?_,ps.map λi=>vs.getD i jt,?_,?_,?_⟩
    ·exact⟨.ref c.objs.size,_,J2,rfl,q g H' F _ ps nD bk⟩
    ·rw[zLm,bk.1];lia
    ·exact U
    ·have:∀m:List Nat,(∀x∈m,x<xs.length)->Vals (m.map λi=>xs.getD i .non) (m.map λi=>vs.getD i jt):=λm=>by
      induction m with
      |nil=>exact λ_ => .nil
      |cons j m ih =>
       intro hm
       have hj:j<xs.length:=hm j (.head _)
       obtain⟨u',M,r'⟩:=rv.get (zGe hj)
       refine .cons ?_ (ih λy hy=>hm y (.tail _ hy))
       show RelV (xs.getD j .non) (vs.getD j jt)
       rw[show xs.getD j .non=xs[j] by simp[hj],show vs.getD j jt=u' by rw[zGd,M];rfl]
       exact r'
     exact this ps λx Y=>by have:=bk.2.1 x Y;lia
    ·exact af
   ·simp only[jb,Jf,or_false,not_or] at N
    rw[xy _ _ _ _ N.2,xy _ _ _ _ N.1]
    exact q
   ·simp only[jb,Jf,or_false] at N
    rcases N with rfl|rfl
    ·exact ai
    ·exact ab
end
end L2
namespace SO
open PySem PyProof.Rows PySem.W
structure MinK(prog:Program)(w:World)(A:Around)(l I S:Addr)(f:Value)(n:Nat)(IV:Nat->Value->Prop)(R:Nat->Nat->Bool){γ:Type}(KV:Nat->Value->γ->Prop)(J:γ->Option Obj->Obj->Shared->Prop):Prop where
 wk:Wk R
 lI:l≠I
 SI:S≠I
 get:∀g oi os s',J g oi os s'->(∀o,oi=some o->s'.heap.get? I=some o)/\s'.heap.get? S=some os/\∃vs:List Value,s'.heap.IsList l vs.toArray/\vs.length=n/\∀i v,vs[i]?=some v->IV i v
 turn:∀g oi os s' h' tk oi' i,J g oi.3 os s'->(∀b o,b∉[I]->s'.heap.get? b=some o->h'.get? b=some o)->h'.get? I=some oi'->h'.IsListIter I l i->J g oi'.3 os {s' with heap:=h',toks:=tk}
 stop:∀g oi os s' h' tk,J g oi.3 os s'->(∀b o,b∉[I]->s'.heap.get? b=some o->h'.get? b=some o)->J g none os {s' with heap:=h',toks:=tk}
 put:∀g oi os s' h' its c,J g oi os s'->vx S s'.heap h'->h'.get? S=some (seqObj "list" its c)->J g oi (seqObj "list" its c) {s' with heap:=h' }
 cmp:∀g oi os i j u v (s':Shared) (Q:Value->Shared->Prop),J g oi os s'->i<n->j<n->KV i u g->KV j v g->Q (.bool (R i j)) s'->wpAny w.8 A.in1 (fc .Lt u v) Q (λ_ _=>False) s'
 call:∀g oi os i x s',i<n->IV i x->J g oi os s'->wpAny w.8 A.in1 (call f [x]) (λv s''=>∃g2,KV i v g2/\(∀j u,KV j u g->KV j u g2)/\J g2 oi os s'') (λ_ _=>False) s'
section
variable {E:Value->Shared->Prop}{l I S q:Addr}{IV:Nat->Value->Prop}{R:Nat->Nat->Bool}{γ:Type}{KV:Nat->Value->γ->Prop}{J:γ->Option Obj->Obj->Shared->Prop}{Q:Value->Shared->Prop}{P:Result->Shared->Prop}
theorem aBU(hh:A.handled=none)(M:MinK prog w A l I S (.ref q) n IV R KV J)(hR:∀i v g oi os s',i<n->IV i v->(∀j,j<n->R j i=false)->J g oi os s'->P (.ok (.ret v)) s'):
  ∀(r j i:Nat) (g:γ) (s:Shared) (vb kb:Value) (c:Nat) (oI:Obj),n-(j+1)=r->j+1<=n->J g oI.3 (seqObj "list" #[vb,kb] c) s->KV i kb g->s.heap.IsListIter I l (j+1)->IV i vb->i<=j->(∀j',j'<=j->R j' i=false) ->
   fb w.8 A (.builtin "min.loop" ⟨[.ref I, .ref q, .ref S],[]⟩) P s:=by
 have h:(toString "min" ++ toString ".loop" : String) = "min.loop" := by decide
 intro r
 induction r with
 |zero =>
  intro j i g s vb kb c oI hr hj O hk hit y Y a
  have T:j+1=n:=by omega
  obtain⟨gI,V,vs,gl,U,_⟩:=M.get _ _ _ _ O
  have W:=gu (prog:=prog) (w:=w) (A:=A.in1) hh I l M.lI vs.toArray
  have u:vs.toArray.size=vs.length:=qc ..
  refine zh wm ?_
  rw[xg je _]
  show wpAny _ A.in1 (dm (.ref S) >>= _) _ _ _
  refine qa (xo V rfl ?_)
  show '&'
  refine qa (wq (W.done _ _ _ ⟨by rw[u,U,<- T];exact hit,gl⟩ λQ p o => ?_))
  have k:=M.stop _ _ _ _ Q p O o
  obtain⟨_,D,_⟩:=M.get _ _ _ _ k
  have s1:=q4 Q S (ji λ_=>(#[]:Array Value))
  obtain⟨z,t⟩:∃z,(Q.update S (ji λ_=>(#[]:Array Value))).get? S=some (seqObj "list" #[] z):=⟨_,wy D λ_ => #[]⟩
  show wpAny _ A.in1 (Q6 S (λ_ => #[]) >>= _) _ _ _
  refine qa ?_
  refine zg D rfl (qa (yi ?_.14))
  exact hR i vb _ _ _ _ '!' y (λj' C=>a j' '!') (M.put _ _ _ _ _ _ _ k s1 t)
 |succ r ih =>
  intro j i g s vb kb c oI hr hj O hk hit y Y a
  have d:j+1<n:=by omega
  obtain⟨gI,V,vs,gl,U,X⟩:=M.get _ _ _ _ O
  have W:=gu (prog:=prog) (w:=w) (A:=A.in1) hh I l M.lI vs.toArray
  have u:vs.toArray.size=vs.length:=qc ..
  refine zh wm ?_
  rw[xg je _]
  show wpAny _ A.in1 (dm (.ref S) >>= _) _ _ _
  refine qa (xo V rfl ?_)
  show '&'
  refine qa (wq (W.item (j+1) _ _ _ (by rw[u,U];exact d) ⟨hit,gl⟩ λv Q p hP m o => ?_))
  have hv:IV (j+1) v:=X _ _ (by simpa using hP)
  obtain⟨f,N,G,L⟩:=id m.1
  have k:=M.turn _ _ _ _ Q p f _ O o N m.1
  show wpAny _ A.in1 (tryCatch (yz [v] (call (.ref q) [v])) _ >>= _) _ _ _
  refine qa (wq (ve (km (M.call _ _ _ (j+1) v _ d hv k) (λx B he => ?_) λ_ _ Z=>Z.elim)))
  obtain⟨g2,kv,kk,J2⟩:=he
  have kb2:=kk i kb hk
  obtain⟨E,K,_⟩:=M.get _ _ _ _ J2
  have H:B.heap.IsListIter I l (j+1+1):=⟨f,E _ rfl,G,L⟩
  have il:i<n:=by omega
  show wpAny _ A.in1 (tryCatch (yz [v,x] (fc .Lt x kb >>= _)) _ >>= _) _ _ _
  refine qa (wq (ve (qa (km (M.cmp _ _ _ (j+1) i x kb _ (λb s2=>b = .bool (R (j+1) i)/\s2=B) J2 d il kv kb2 ⟨rfl,rfl⟩) (λb s2 hb => ?_) λ_ _ Z=>Z.elim))))
  obtain⟨rfl,rfl⟩:=hb
  refine qa (ve (wpAny_truthy_bool ?_))
  refine qa (yi ?_.14)
  cases hb':R (j+1) i with
  |true =>
   have s1:=q4 s2.heap S (ji λ_ => #[v,x])
   obtain⟨z,t⟩:∃z,(s2.heap.update S (ji λ_ => #[v,x])).get? S=some (seqObj "list" #[v,x] z):=⟨_,wy K λ_ => #[v,x]⟩
   have J3:=M.put _ _ _ _ _ _ _ J2 s1 t
   simp only[if_true]
   refine qa ?_
   refine zg K rfl (qa (yi ?_))
   rw[h]
   refine wpAny_pure ⟨plainId_quiet je _,ih (j+1) (j+1) _ _ v x z f '!' d J3 kv ⟨f,(s1.2 I M.SI.symm).trans (E _ rfl),G,L⟩ hv (qo _) λj' C => ?_⟩
   by_cases e:j'=j+1
   ·subst e
    cases hz:R (j+1) (j+1) with
    |false=>rfl
    |true=>exact hz.symm.trans (M.wk.asym _ _ hz)
   ·exact M.wk.ntr _ _ _ (a j' '!') (M.wk.asym _ _ hb')
  |false =>
   simp only[vw,if_false]
   refine qa (yi ?_)
   rw[h]
   refine wpAny_pure ⟨plainId_quiet je _,ih (j+1) i _ _ vb kb c f '!' d J2 kb2 H y '!' λj' C => ?_⟩
   by_cases e:j'=j+1
   ·subst e;exact hb'
   ·exact a j' '!'
theorem aC2(hh:A.handled=none){vs0:Array Value}(hls:s.heap.IsList l vs0)(hne:0<n)(hI:I=s.heap.objs.size)(hS:S=s.heap.objs.size+1)(M:MinK prog w A l I S (.ref q) n IV R KV J)(g0:γ)(h0:∀h,h=(s.heap.push {cls := .type "list_iterator", data := .fields #[.ref l, .int 0 0]}).push (seqObj "list" #[] 0)->J g0 (some {cls := .type "list_iterator", data := .fields #[.ref l, .int 0 0]}) (seqObj "list" #[] 0) {s with heap:=h})(hQ:∀i v g oi os s',i<n->IV i v->(∀j,j<n->R j i=false)->J g oi os s'->Q v s'):
  wpAny w.8 A (call (.builtin "min") [.ref l] [(qu "key", .ref q)]) Q E s:=by
 have a:(toString "min" ++ toString ".loop" : String) = "min.loop" := by decide
 refine kmk_tree Qx Ql Qm (kmk_min_key _ _) ?_
 show wpAny _ A.in1 (vh "min" ["key", "default"] 0 ⟨[],[(qu "key", .ref q)]⟩ >>= _) _ _ s
 refine qa (sk (show vh "min" ["key", "default"] 0 ⟨[],[(qu "key", .ref q)]⟩=pure [some (.ref q),none] from rfl) ?_)
 refine qa ?_.14
 refine qa (nt hls ?_)
 refine qa (me ?_ (kd _))
 rw[a]
 have t:(s.heap.push {cls := .type "list_iterator", data := .fields #[.ref l, .int 0 0]}).objs.size=S:=by rw[hS];exact size_push' ..
 rw[t,<- hI]
 have H:=h0 _ rfl
 obtain⟨U,N,vs,gl,L,r⟩:=M.get _ _ _ _ H
 refine wpAny_pure ⟨plainId_quiet je _,?_⟩
 have W:=gu (prog:=prog) (w:=w) (A:=A.in1) hh I l M.lI vs.toArray
 have B:vs.toArray.size=vs.length:=qc ..
 refine zh wm ?_
 rw[xg je _]
 show wpAny _ A.in1 (dm (.ref _) >>= _) _ _ _
 refine qa (xo N rfl ?_)
 show '&'
 refine qa (wq (W.item 0 _ _ _ (by rw[B,L];exact hne) ⟨⟨_,U _ rfl,rfl,rfl⟩,gl⟩ λv V p P b m => ?_))
 have G:IV 0 v:=r _ _ (by simpa using P)
 obtain⟨c,k,C,D⟩:=id b.1
 have u:=M.turn _ _ _ _ V p c _ H m k b.1
 show wpAny _ A.in1 (tryCatch (yz [v] (call (.ref q) [v])) _ >>= _) _ _ _
 refine qa (wq (ve (km (M.call _ _ _ 0 v _ hne G u) (λx d he => ?_) λ_ _ X=>X.elim)))
 obtain⟨g2,T,_,J2⟩:=he
 obtain⟨y,f,_⟩:=M.get _ _ _ _ J2
 have s1:=q4 d.heap S (ji λ_ => #[v,x])
 obtain⟨o,z⟩:∃o,(d.heap.update S (ji λ_ => #[v,x])).get? S=some (seqObj "list" #[v,x] o):=⟨_,wy f λ_ => #[v,x]⟩
 have J3:=M.put _ _ _ _ _ _ _ J2 s1 z
 show wpAny _ A.in1 (Q6 S (λ_ => #[v,x]) >>= _) _ _ _
 refine qa ?_
 refine zg f rfl ?_
 rw[a]
 refine wpAny_pure ⟨plainId_quiet je _,aBU hh M hQ _ 0 0 _ _ v x o c rfl hne J3 T ⟨c,(s1.2 _ M.SI.symm).trans (y _ rfl),C,D⟩ G (qo _) λK O => ?_⟩
 have e:K=0:=by omega
 subst e
 cases hz:R 0 0 with
 |false=>rfl
 |true=>exact hz.symm.trans (M.wk.asym _ _ hz)
end
end SO
namespace L2
open PySem PySem.Spec PyProof.Rows PySem.W
section
theorem Inv.swap{o o':Obj}{rest:List '+'}(J:Inv X (pins++((it,o)::rest)) σ H s)(f:eR X pins H it)(hr:∀p∈rest,p.1≠it)(k:∀b u,b≠it->s.heap.get? b=some u->h'.get? b=some u)(hk:h'.get? it=some o')(nc:∀v,o'.data ≠ .cell v):Inv X (pins++((it,o')::rest)) σ H {s with heap:=h',toks:=t' }:=by
 have J1:Inv X (pins++rest) σ H s:=J.pins_of λp a=>J.pin p (by
  rcases qp.mp a with a|a
  ·exact q7 _ a
  ·exact qb _ (.tail _ a)).12
 have J2:=J1.turned (t':=t') (it:=it) (h':=h') k f.1 f.2.1 f.2.2.2.1 f.2.2.2.2.1 (λp a z=>by
  rcases qp.mp a with a|a
  ·exact f.2.2.2.2.2 p (q7 _ a) z
  ·rcases qp.mp a with a|a
   ·exact f.2.2.2.2.2 p a.12 z
   ·exact hr p a z)
 refine J2.pins_of λp a => ?_
 rcases qp.mp a with a|a
 ·exact J2.pin p (q7 _ a).12
 ·rcases jb.mp a with rfl|a
  ·exact⟨hk,f.1,f.2.1,f.2.2.1,nc⟩
  ·exact J2.pin p a.12.12
theorem Inv.unpin{ps qs:List '+'}(J:Inv X ps σ H s)(h:∀p∈qs,p∈ps):Inv X qs σ H s:=J.pins_of λp hp=>J.pin p (h p hp).12
theorem xQ:pI X "min" (0 < ·) aB2:=by
 intro pins σ H s k hr f c' l name qual params body scope cl pm ak oc x fs ws xs ks E S G I hl ad hlen al γ Rl KT V g0 r0 hf ah C te ab hq Q q
 obtain⟨vs,rv,⟨o,n,Y,e2,e4,e3⟩,hz⟩:=I.list hl
 have hL:s.heap.IsList l vs.toArray:=⟨o,Y,e2,n,e3⟩
 have ll:l<s.heap.objs.size:=qr Y
 have t:=I.fpOk (b:=s.heap.objs.size) (H':=H) (qo _) (I.hok.fresh (qo _))
 have Z:=I.fpOk (b:=s.heap.objs.size+1) (H':=H) (zf _) (I.hok.fresh (zf _))
 have nc:∀(out:Array Value) (e:Nat) (v:Option Value),(seqObj "list" out e).data ≠ .cell v:=λout e v z=>by cases z
 refine SO.aC2 (vs0:=vs.toArray) (n:=xs.length) (IV:=λi v=>∃u,xs[i]?=some u/\RelV u v) (R:=λi j=>HT.lexLt (ks.getD i []) (ks.getD j [])) (KV:=λi v (g:γ)=>∃u,RelV u v/\KT g u (ks.getD i []))
  (J:=λg w os B=>∃H',Inv X (pins++((s.heap.objs.size+1,os)::(w.map λo=>(s.heap.objs.size,o)).toList)) σ H' B/\Rl g H') (g0:=g0) hr.hd hL ad rfl rfl ?M ?h0 ?hQ
 case M =>
  refine⟨SO.uD _,q3 ll,y5 (wd _),?_,?_,?_,?_,?_,?_⟩
  ·rintro g w os B ⟨H',J,m⟩
   refine⟨λo e => ?_,(J.pin (s.heap.objs.size+1,os) (.head _).12.12).1,?_⟩
   ·subst e
    exact (J.pin (s.heap.objs.size,o) (.tail _ (.head _)).12.12).1
   ·obtain⟨af,D,⟨o',n',a1,a2,_,a3⟩,_⟩:=J.list (hf g H' m).2.2
    refine⟨af,⟨o',a1,a2,n',a3⟩,D.length.symm,λi v P => ?_⟩
    have U:i<xs.length:=by rw[D.length];exact (P.5).1
    obtain⟨u',N,r'⟩:=D.get (zGe U)
    rw[P] at N
    cases N
    exact⟨_,zGe U,r'⟩
  ·rintro g w os B h' tk ag i ⟨H',J,m⟩ hk O ⟨o2,b1,b2,b3⟩
   refine⟨H',?_,m⟩
   have nI:=(J.pin (s.heap.objs.size,w) (.tail _ (.head _)).12.12).2.1
   rw[O] at b1
   cases b1
   have J':Inv X ((pins++[(s.heap.objs.size+1,os)])++((s.heap.objs.size,w)::[])) σ H' B:=J.unpin λp d=>by simpa using d
   have ae:eR X (pins++[(s.heap.objs.size+1,os)]) H' s.heap.objs.size:=⟨nI,t.2.1,t.2.2.1,t.2.2.2.1,t.2.2.2.2.1,λp d=>by
    rcases qp.mp d with d|d
    ·exact t.2.2.2.2.2 p (q7 _ d)
    ·rcases qp.mp d with d|d
     ·exact t.2.2.2.2.2 p d.12
     ·rw[qi] at d;subst d;exact y5 (wd _)⟩
   exact (J'.swap (o':=ag) (h':=h') (t':=tk) ae (λp d=>nomatch d) (λb u L e=>hk b u (by simpa using L) e) O (λv z=>by rw[b3] at z;cases z)).unpin λp d=>by simpa using d
  ·rintro g w os B h' tk ⟨H',J,m⟩ hk
   refine⟨H',?_,m⟩
   have nI:=(J.pin (s.heap.objs.size,w) (.tail _ (.head _)).12.12).2.1
   have J1:Inv X (pins++[(s.heap.objs.size+1,os)]) σ H' B:=J.unpin λp d=>by
    rcases qp.mp d with d|d
    ·exact q7 _ d
    ·rw[qi] at d;subst d;exact qb _ (.head _)
   show Inv X (pins++[(s.heap.objs.size+1,os)]) σ H' _
   exact J1.turned (t':=tk) (it:=s.heap.objs.size) (h':=h') (λb u L e=>hk b u (by simpa using L) e) nI t.2.1 t.2.2.2.1 t.2.2.2.2.1 (λp d=>by
    rcases qp.mp d with d|d
    ·exact t.2.2.2.2.2 p (q7 _ d)
    ·rcases qp.mp d with d|d
     ·exact t.2.2.2.2.2 p d.12
     ·rw[qi] at d;subst d;exact y5 (wd _))
  ·rintro g w os B h' T c ⟨H',J,m⟩ sb hS
   refine⟨H',?_,m⟩
   have nS:=(J.pin (s.heap.objs.size+1,os) (.head _).12.12).2.1
   exact J.swap (o':=seqObj "list" T c) (h':=h') (t':=B.toks) ⟨nS,Z.2⟩ (λp d=>by
    obtain⟨o,_,rfl⟩:∃o,w=some o/\p=(s.heap.objs.size,o):=by
     cases w with
     |none=>simp at d
     |some o=>exact⟨o,rfl,by simpa using d⟩
    exact q3 (wd _)) (λb u L e=>(sb.2 b L).trans e) hS (nc _ _)
  ·rintro g w os i j u v B Q' ⟨H',J,m⟩ U hj ⟨x,rx,hx⟩ ⟨y,ry,hy⟩ hQ
   obtain⟨a,T,rfl,p1,i1⟩:=(V _ _ _ _ m hx).tupI J rx
   obtain⟨b,ai,rfl,p2,i2⟩:=(V _ _ _ _ m hy).tupI J ry
   exact HT.n9 p1 p2 i1 i2 (by have:=hr.in1.un;omega) hQ
  ·rintro g w os i u B U ⟨v,P,ru⟩ ⟨H',J,m⟩
   have W:Room (k+1) X.A.in1:=(hr.in1).mono '!'
   have ho:=(J.hok f _ (hf g H' m).1).1
   have aa:=ah B.heap c' (J.hok c' _ (hf g H' m).2.1).1
   refine JQ (f5 (xD (CX:=CX0) (E:=E) S W (J.env0.in1) ho aa (G u) ru (C.caps J) (ab i v g H' P m _ B (W.deeper _)) (hq i v g H' P m)) λr aj F => ?_)
   cases r with
   |error e=>exact vn F
   |ok fl =>
    cases fl with
    |ret u' =>
     obtain⟨v',H2,J',D,g2,Y,e2,e3⟩:=J.after F
     exact⟨g2,⟨v',D,e2⟩,λj u ⟨x,rx,hx⟩=>⟨x,rx,e3 _ _ hx⟩,H2,J',Y⟩
    |next=>exact vn F
    |brk=>exact vn F
    |cont=>exact vn F
 case h0 =>
  intro h e
  subst e
  refine⟨H,?_,r0⟩
  have K:∀b o,s.heap.get? b=some o->((s.heap.push {cls := .type "list_iterator", data := .fields #[.ref l, .int 0 0]}).push (seqObj "list" #[] 0)).get? b=some o:=λb o q=>qf _ (qf _ q)
  have I2:=I.kept (t':=s.toks) K
  refine I2.pins_of λp d => ?_
  rcases qp.mp d with d|d
  ·exact I2.pin p d.12
  ·rcases jb.mp d with rfl|d
   ·refine⟨?_,Z.1,Z.2.1,Z.2.2.1,nc _ _⟩
    have e9:(s.heap.push {cls := .type "list_iterator", data := .fields #[.ref l, .int 0 0]}).objs.size=s.heap.objs.size+1:=size_push' ..
    have:=qq (s.heap.push {cls := .type "list_iterator", data := .fields #[.ref l, .int 0 0]}) (o:=seqObj "list" #[] 0) rfl
    rw[e9] at this
    exact this
   ·have ac:p=(s.heap.objs.size,({cls := .type "list_iterator", data := .fields #[.ref l, .int 0 0]}:Obj)):=by simpa using d
    subst ac
    exact⟨qf _ (qq _ rfl),t.1,t.2.1,t.2.2.1,λv z=>by cases z⟩
 case hQ =>
  rintro i v g w os B U ⟨u,hu,ru⟩ L ⟨H',J,m⟩
  exact⟨u,H',J.unpin λp d=>q7 _ d,ru,q g H' m i u hu L⟩
end
end L2
namespace Z
open PySem L2 PySem.W PyProof.Rows
def OpK(K:Fg)(End:List V->List Int.9->Hp->VK->Prop)(ds:List D)(ks:List Int.9)(M:Mem)(k:D->Mem->Prop):Prop:=
 ∀(G H:Hp) (xs:List V) (Q:VK),Rel K G H M->Dens K G ds xs->Cont K M k G H Q->End xs ks H Q
def sB(b:String):Prop:=ke (qu b)=some (.builtin b)/\qu b ≠ "__name__" /\ (qu b==("__debug__" : Str))=false
theorem aGN:sB "sorted" := ⟨K6,by decide,by decide⟩
section
theorem qL{b:String}{Len:Nat->Prop}{End:List V->List Int.9->Hp->VK->Prop}(ck:pI X b Len End)(hbt:sB b){p pos lpos kpos:Pos}{params:Arguments}{body:Expr}{c:Addr}(fs:List Str)(cap:List Nat)(capD:List D)(S:LamScope x fs scope)(hr:Room (n+3) X.A)(hm:X.mg (qu b)=none)(LK:∀h:Heap,X.K.In h->CodeHd h c Pt/\h.BuiltinsAt X.mg Pt)(hcode:X.env.code = .ref c)(hgP:jx≠Pt)(h:GE X e Γ M λd M1=>∃(ds:List D) (ks:List Int.9),d = .lst ds/\Len ds.length/\ks.length=ds.length/\(∀t∈ks,t≠[])/\bJ Pt lpos '4' M1/\∀M2,bJ Pt lpos '4' M2->(∀a o,a≠Pt->M1 a=some o->M2 a=some o) ->
   (∀i d,ds[i]?=some d->∀f c' cl A s' H',Room n (A.deeper (envX '4' scope s'.heap.objs.size f (.ref c') cl)) ->
    GE (cxL CX0 X.prog X.w X.K X.mg X.base (x::fs) '4' scope f (.ref c') cl A X.stack s' H' E0) body (some d::capD.map some) M2 (λr M3=>r=tI (ks.getD i [])/\M3=M2)) /\
   OpK X.K End ds ks M2 k)(hcap:cap.map (λk=>Γ[k]?)=capD.map λd=>some d.3)(hN:cap.map (λk=>X.N[k]?)=fs.map some)(hkd:∀y∈fs,X.env.kindOf y=some .cell\/X.env.kindOf y=some .free)(hfr:∀y,(y,jr)∈scope.names->y∈fs)(hmem:∀y∈fs,(y,jr)∈scope.names)(hbind:∀cl pm c' ctv u,bindArgs (kla_fn "<lambda>" '4' params body scope cl pm (.ref c') ctv) ⟨[u],[]⟩=pure [(x,u)])(hdef:defaultsOf params X.env=([],[]))(hg:Gl X (qu b):=by rfl)(he:starEach [e] X.env=(false,eval e X.env)::starEach [] X.env:=by rfl)(hb1:yg pos (starEach [e] X.env)=(false,eval e X.env)::yg pos (starEach [] X.env):=by rfl)(hb2:(yg pos (starEach [e] X.env)).any (·.1)=false:=by rfl)(hb3:(cw pos (yj ['<'] X.env)).all (·.1.isSome)=true:=by rfl)(hb4:(cw pos (yj ['<'] X.env)).any (·.1.isNone)=false:=by rfl)(hb5:(cw pos (yj ['<'] X.env)).filterMap (·.1)=[qu "key"]:=by rfl):
  GE X (.Call (.Name (qu b) p) [e] ['<'] pos) Γ M k:=λσ G H Q en rl q pins s I=>by
 obtain⟨cl,ai,af,ap⟩:=kU (scope:=scope) (env:=X.env) λy hy=>I.ok.has y (hkd y (hfr y hy))
 have pa:PA X [e] (lT (tU X e) pT):=lV pU sX he
 have pk:PK X ['<'] (lT (xZ X Pt lpos params body scope cl) pT):=aHB (aI9 LK hcode hgP ai hdef) aJ2
 -- what stands behind the arguments
 let Fin:List V->List V->Hp->Prop:=λvs zs H2=>∃(a f c':Addr) (xs ws:List V) (ks:List Int.9) (l:Obj) (ctv:Value) (Rl:Hp->Hp->Prop) (g0:Hp),vs=[.ref a]/\zs=[.ref f]/\SqL X.K H2 a xs/\Len xs.length/\ks.length=xs.length/\(∀t∈ks,t≠[])/\Rl g0 H2/\(∀g H' v ns,Rl g H'->jJ X.K g v ns->jJ X.K H' v ns) /\
  (∀g H',Rl g H'->H' f=some (.frz (pR X params body scope cl c' ctv) (.own 0))/\H' c'=some (.frz l (.own 0))/\SqL X.K H' a xs)/\iI l '4'/\CapX X σ cl fs ws /\
  (∀(i:Nat) (v:V) (g H':Hp),xs[i]?=some v->Rl g H'->∀A s' H0,Room n (A.deeper (envX '4' scope s'.heap.objs.size f (.ref c') cl))->tU (cxL CX0 X.prog X.w X.K X.mg X.base (x::fs) '4' scope f (.ref c') cl A X.stack s' H0 E0) body (some v::ws.map some) H' (λr H3=>∃g2,Rl g2 H3/\jJ X.K g2 r (ks.getD i [])/\∀v ns,jJ X.K g v ns->jJ X.K g2 v ns)) /\
  ∀g H',Rl g H'->End xs ks H' Q
 have key:tU X e σ H λv H1=>lT (xZ X Pt lpos params body scope cl) pT σ H1 λzs H2=>Fin [v] zs H2:=by
  refine h σ G H _ en rl λv G1 H1 d M1 s1 e1 ⟨ds,ks,ed,J,hlen,B,hS,hk⟩ => ?_
  subst ed
  obtain⟨a,xs,rfl,sq,dn⟩:=e1.lst_
  obtain⟨ws,dw,lw,hw⟩:=wJ (en.up s1.gg) cap capD hcap
  have an:=dn.len
  have lN:cap.length=fs.length:=by have:=congrArg m2 hN;simpa using this
  have CX:CapX X σ cl fs ws:=by
   refine⟨by omega,λi y v h1 h2 => ?_,af,λy hy => ?_⟩
   ·have hi:i<fs.length:=(h1.5).1
    have hj:cap[i]?=some cap[i]:=zGe '!'
    have e2:(cap.map λk=>X.N[k]?)[i]?=(fs.map some)[i]?:=by rw[hN]
    rw[qm,qm,hj,h1] at e2
    exact⟨cap[i],by simpa using e2,hw i _ v hj h2,hkd y h1.7⟩
   ·obtain⟨c0,e0⟩:=ap y (hmem y hy)
    rw[e0,af y c0 e0]
  -- from a state with the lambda made
  have rest:∀(H2:Hp) (M2:Mem) (f c':Addr) (l:Obj) (ctv:Value),Stp X.K G1 H1 M1 G1 H2 M2->bJ Pt lpos '4' M2->(∀a o,a≠Pt->M1 a=some o->M2 a=some o)->M2 c'=some (.ob (.frz l (.own 0)))->iI l '4' ->
    H2 f=some (.frz (pR X params body scope cl c' ctv) (.own 0))->G1 f=none->M2 f=none->Fin [.ref a] [.ref f] H2:=λH2 M2 f c' l ctv st ao hle E m hf ar ah=>by
   obtain⟨O,ab⟩:=hk M2 ao hle
   refine⟨a,f,c',xs,ws,ks,l,ctv,λG' H'=>Stp X.K G1 H2 M2 G' H' M2,G1,rfl,rfl,sd (sd (st.rel.same _ _ sq)),by rw[<- an];exact J,by omega,B,Stp.refl st.rel,λg H' v ns r ⟨pk,ek,qk⟩=>⟨pk,ek,R.bW r.rel.same qk⟩,λG' H' r=>⟨(r.fr f _ hf ar ah).1,(r.rel.mem c' _ E).2,sd (sd (r.rel.same _ _ (r.gg _ _ sq)))⟩,m,CX,λi v G' H' hv r A s' H0 hA => ?_,λG' H' r=>ab G' H' xs Q r.rel (dn.up r.gg) λv G3 H3 d3 M3 s3 e3 h3=>q _ _ _ _ _ ((s1.trans st).trans (r.trans s3)) e3 h3⟩
   have hi:i<xs.length:=(hv.5).1
   obtain⟨d,hd⟩:∃d,ds[i]?=some d:=⟨_,zGe '!'⟩
   obtain⟨v',ad,dv⟩:=dn.get hd
   rw[hv] at ad
   cases ad
   refine O i d hd f c' cl A s' H0 hA (some v::ws.map some) G' H' _ (aCI (dv.up r.gg) (dw.up r.gg)) r.rel λu G3 H3 d3 M3 s3 e3 ⟨j,q2⟩ => ?_
   subst j q2
   obtain⟨a3,au,rfl,W,am⟩:=Den.tup_ (ds:=(ks.getD i []).map .int) e3
   rw[gG am] at W
   exact⟨G3,r.trans s3,⟨a3,rfl,W⟩,λv ns ⟨pk,ek,qk⟩=>⟨pk,ek,R.bW s3.gg qk⟩⟩
  have ae:∀o,M1 Pt=some (.ob o)->H1 Pt=some o/\G1 Pt=none:=λo e=>⟨(s1.rel.mem Pt _ e).2,(s1.rel.mem Pt _ e).1⟩
  rcases hS with hP|⟨c',l,B,hP,E,m⟩
  ·obtain⟨L,p2⟩:=ae _ hP
   refine⟨#[],L,trivial, .inl ⟨rfl,λc' f l ctv E hf Y m => ?_⟩⟩
   have T:Pt≠c':=λz=>by rw[z,E] at L;cases L
   have ac:Pt≠f:=λz=>by rw[z,hf] at L;cases L
   obtain⟨gc,mc⟩:=s1.rel.free E
   obtain⟨gf,Z⟩:=s1.rel.free hf
   have at_:∀b,b≠Pt->b≠c'->b≠f->eQ H1 Pt (#[] ++ #[rawInt lpos.line,rawInt lpos.col, .ref c']) c' l f (pR X params body scope cl c' ctv) b=H1 b:=λb h1 h2 h3=>by unfold eQ;rw[aG h3,aG h2,aG h1]
   refine rest _ (aL (aL M1 Pt (.ob (.tbl (#[] ++ #[rawInt lpos.line,rawInt lpos.col, .ref c'])))) c' (.ob (.frz l (.own 0)))) f c' l ctv (aI3 (λb u j => ?_) (λb o j => ?_) λb o j q2 W => ?_) (.inr ⟨c',l,vi T,by rw[aF T,aD],aD,m⟩) (λb o hb j => ?_) aD m (by unfold eQ;rw[aR]) gf (by rw[aF (vi Y),aF (vi ac)];exact Z)
   ·rw[at_ b (λz=>by rw[z,p2] at j;cases j) (λz=>by rw[z,gc] at j;cases j) (λz=>by rw[z,gf] at j;cases j)]
    exact s1.rel.same b u j
   ·by_cases F:b=c'
    ·subst F
     rw[aD] at j
     cases j
     exact⟨gc,by show eQ _ _ _ _ _ _ _ _=_;unfold eQ;rw[aG Y,aR]⟩
    rw[aF F] at j
    by_cases U:b=Pt
    ·subst U
     rw[aD] at j
     cases j
     exact⟨p2,by show eQ _ _ _ _ _ _ _ _=_;unfold eQ;rw[aG ac,aG T,aR]⟩
    rw[aF U] at j
    have z3:b≠f:=λz=>by rw[z,Z] at j;cases j
    exact⟨(s1.rel.mem b o j).1,(s1.rel.mem b o j).2.mv (Same.refl G1) (at_ b U F z3)⟩
   ·have F:b≠c':=λz=>by rw[z,E] at j;cases j
    have z3:b≠f:=λz=>by rw[z,hf] at j;cases j
    have U:b≠Pt:=λz=>by rw[z,hP] at W;cases W
    exact⟨by rw[at_ b U F z3];exact j,by rw[aF F,aF U];exact W⟩
   ·have F:b≠c':=λz=>by rw[z,mc] at j;cases j
    rw[aF F,aF hb];exact j
  ·obtain⟨L,p2⟩:=ae _ hP
   obtain⟨c2,c1⟩:=s1.rel.mem c' _ E
   refine⟨_,L,?_, .inr ⟨c',l,?_,c1,m,λf ctv hf => ?_⟩⟩
   ·simp[TriplesOk,rawInt]
   ·have:=codeAmong_snoc (pos:=lpos) (c := .ref c') [] trivial rfl
    simpa using this
   ·obtain⟨gf,Z⟩:=s1.rel.free hf
    exact rest _ M1 f c' l ctv ((s1.rel.10).aside hf gf Z) (.inr ⟨c',l,B,hP,E,m⟩) (λb o _ j=>j) E m aR gf Z
 refine cy (iJ I hg hm hbt.1 ?_ hbt.2.1 hbt.2.2)
 refine callWith_kw (thn (pa pos pins s σ H (λvs H1=>lT (xZ X Pt lpos params body scope cl) pT σ H1 λzs H2=>Fin vs zs H2) I key) λus s1 ⟨vs,H1,I1,r1,j⟩ => ?_) hb1 hb2 hb3 hb4
 refine thn (pk pos pins s1 σ H1 _ I1 j) λas s2 ⟨zs,H2,I2,rz,q2⟩ => ?_
 obtain⟨a,f,c',xs,ws,ks,l,ctv,Rl,g0,rfl,rfl,al,J,hlen,B,r0,aj,hf,aq,C,hq,hQ⟩:=q2
 obtain⟨u,rfl,ru⟩:=vals1 r1
 obtain⟨u2,rfl,ak⟩:=vals1 rz
 cases ru
 cases ak
 rw[hb5]
 exact ck hr S (λu=>hbind cl _ c' ctv u) I2 al J hlen B Rl (jJ X.K) aj r0 hf aq C (te:=λi g H0 σ' H' Q'=>∀A s',Room n (A.deeper (envX '4' scope s'.heap.objs.size f (.ref c') cl))->tU (cxL CX0 X.prog X.w X.K X.mg X.base (x::fs) '4' scope f (.ref c') cl A X.stack s' H0 E0) body σ' H' Q')
  (λi v g H' hv aa A s' hA P ag σ' H2' Q' I' hh=>hh A s' hA P ag I') (λi v g H' hv aa A s' hA=>hq i v g H' hv aa A s' H' hA) hQ
end
end Z
namespace Z
open PySem L2 PySem.W PyProof.Rows
section
variable {K:Fg}
theorem aCJ(hlen:ks.length=ds.length)(h:∀ps,oP ks ps->∀q,M q=none->k (.mt q) (aL M q (.lst (ps.map λi=>ds.getD i .non)))):OpK K pM ds ks M k:=λG H xs Q g l q p ps f bk=>by
 have o:=l.len
 have a:∀m:List Nat,(∀x∈m,x<xs.length)->Dens K G (m.map λi=>ds.getD i .non) (m.map λi=>xs.getD i .non):=λm=>by
  induction m with
  |nil=>exact λ_=>bT
  |cons j m ih =>
   intro b
   have s:j<xs.length:=b j (.head _)
   have c:j<ds.length:=by omega
   obtain⟨r,d,n⟩:=l.get (zGe c)
   refine bO ?_ (ih λy e=>b y (.tail _ e))
   show Den K G (ds.getD j .non) (xs.getD j .non)
   rw[show ds.getD j .non=ds[j] by simp[c],show xs.getD j .non=r by rw[zGd,d];rfl]
   exact n
 have nm:=g.newM f (a ps λy e=>by have:=bk.2.1 y e;omega)
 exact q _ _ _ _ _ nm iT (h ps bk p (g.free f).2)
theorem aGL(h:∀(i:Nat) (d:D),ds[i]?=some d->(∀j,j<ds.length->HT.lexLt (ks.getD j []) (ks.getD i [])=false)->k d M):OpK K aB2 ds ks M k:=λG H xs Q l e q i v f m=>by
 have b:=e.len
 have c:i<ds.length:=by rw[b];exact (f.5).1
 obtain⟨o,a,g⟩:=e.get (zGe c)
 rw[f] at a
 cases a
 exact q _ _ _ _ _ l.10 g (h i _ (zGe c) λj n=>m j '!')
end
end Z
namespace HK
open PySem PySem.Spec PyProof.Rows
section
def o6(P:Program)(w:World)(h:Heap)(A:Around)(v:Value)(i:Int)(n:Nat):Prop:=
 ∀{E:Value->Shared->Prop}{s:Shared}{Q:Int->Shared->Prop},s.heap=h->Q i {s with toks:=s.toks+n}->wpAny (ja P w) A (pyHash v) Q E s
def xX(P:Program)(w:World)(h:Heap)(A:Around)(v u:Value)(b:Bool):Prop:=
 ∀{E:Value->Shared->Prop}{s:Shared}{Q:Bool->Shared->Prop},s.heap=h->Q b s->wpAny (ja P w) A (eqBool v u) Q E s
def mH(P:Program)(w:World)(h:Heap)(A:Around)(n:Nat)(v:Value):Prop:=
 ∀{E:Value->Shared->Prop}{s:Shared}{Q:Bool->Shared->Prop},s.heap=h->Q true s->wpAny (ja P w) A (eqIsQuiet n v) Q E s
inductive HashAll(P:Program)(w:World)(h:Heap)(A:Around):List Value->List Int->Nat->Prop
 |nil:HashAll P w h A [] [] 0
 |cons {v:Value}{i:Int}{n m:Nat}{vs:List Value}{is:List Int}:o6 P w h A v i n->HashAll P w h A vs is m->HashAll P w h A (v::vs) (i::is) (n+m)
structure TupAt(h:Heap)(a:Addr)(its:List Value):Prop where
 mk::ex:∃o n,h.get? a=some o/\o.cls = .type "tuple" /\ o.data = .seq its.toArray n
theorem TupAt.ty(t:TupAt h a its)(e:s.heap=h):s.TypeIs (.ref a) "tuple" := by
 obtain⟨o,n,h1,h2,_⟩:=t.ex
 exact⟨o,by rw[e];exact h1,h2⟩
theorem aD2(hu:A.units<cLine)(t:TupAt h a its)(hs:HashAll P w h A.in1 its is n):
  o6 P w h A (.ref a) (Qt (zk is)) (n+1):=by
 intro E s Q e q
 have ty:=t.ty e
 obtain⟨o,m,g1,_,g3⟩:=t.ex
 rw[<- e] at g1
 unfold pyHash
 try unfold pyHashByItsType
 try refine qa (wpAny_cRoomFor_or (.inr hu) ?_)
 refine qa (cf ty da.lookup ?_)
 dsimp only
 rw[if_neg (by rw[beq_builtin_none];exact zBf)]
 refine qa (cf ty da.lookup ?_)
 refine qa (wpAny_callSpecialIfBoundUnlessNone?_slot ty da (ba da ty F.entry_tuple_hash ?_ (F.args_tuple_hash_1 _)))
 show wpAny _ _ (Kc (.ref a) >>= _) _ _ s
 refine qa (mm g1 g3 (qa ?_))
 rw[<- bj]
 refine wpAny_forIn_list _ (λrest (b:Array Int) d=>∃g k,HashAll P w h A.in1 rest g k/\b.toList++g=is/\d.heap=h/\{d with toks:=d.toks+k}={s with toks:=s.toks+n}) _ ?_ ?_ _ _ ⟨is,n,hs,rfl,e,rfl⟩
 ·rintro x rest b d ⟨g,k,p,j,u,r⟩
  cases p with
  |@cons _ i n1 m1 _ js' h1 h2 =>
   refine qa (h1 u ⟨js',m1,h2,by rw[cg,qx];exact j,u,?_⟩.14)
   rw[<- r]
   simp[c5]
 ·rintro b d ⟨g,k,p,j,u,r⟩
  cases p
  rw[vv] at j
  subst j
  have l:d={s with toks:=s.toks+n}:=r
  subst l
  refine wpAny_ret_mkInt ?_
  dsimp only
  unfold JA
  unfold Qt at q
  have f:=q
  split at f
  ·rename_i c
   rw[if_pos c]
   rw[<- c5] at f
   exact wpAny_pure f
  ·rename_i c
   rw[if_neg c]
   rw[<- c5] at f
   exact qa (zp f.14)
theorem aEI{i:Int}{t:Tok}:o6 P w h A (.int i t) (Vi i) 1:=λe q=>(Jr P w).pyHash (k:=i) (show yo i (.int i t)=true by simp[yo]) q
theorem eq_int{i j:Int}{t u:Tok}:xX P w h A (.int i t) (.int j u) (decide (i=j)):=λe q =>
 (Jr P w).eqBool (a:=i) (b:=j) (show yo i (.int i t)=true by simp[yo]) (show yo j (.int j u)=true by simp[yo]) q
inductive EqAll(P:Program)(w:World)(h:Heap)(A:Around):List Value->List Value->Bool->Prop
 |nil:EqAll P w h A [] [] true
 |left {v:Value}{vs:List Value}:EqAll P w h A (v::vs) [] false
 |right {v:Value}{vs:List Value}:EqAll P w h A [] (v::vs) false
 |cons {v u:Value}{b c:Bool}{vs us:List Value}:xX P w h A v u b->EqAll P w h A vs us c->EqAll P w h A (v::vs) (u::us) (b&&c)
theorem aHZ{jts:List Value}{c:Bool}(hu:A.units<cLine)(ta:TupAt h a its)(tb:TupAt h b jts)(hc:EqAll P w h A.in1 its jts c)(hab:a=b->c=true):xX P w h A (.ref a) (.ref b) c:=by
 intro E s Q e q
 have p:=ta.ty e
 have o:=tb.ty e
 obtain⟨y,z,a1,_,x⟩:=ta.ex
 obtain⟨ob,B,j,_,t⟩:=tb.ex
 rw[<- e] at a1 j
 unfold eqBool
 try with_reducible refine ve ?_
 by_cases m:(jh a==jh b)=true
 ·have:a=b:=by have:=eq_of_beq m;injection this
  rw[hab this] at q
  show wpAny _ _ (if (jh a==jh b)=true then _ else _) Q E s
  rw[if_pos m]
  exact qa (zp q.14)
 show wpAny _ _ (if (jh a==jh b)=true then _ else _) Q E s
 rw[if_neg m]
 refine qa (wpAny_richCompare_same_room (op := .Eq) p o pv (ba pv p F.entry_tuple_eq ?_ (F.args_tuple_eq_2 _ _)) hu)
 show wpAny _ _ (isInstance (.ref b) (.type "tuple") >>= _) _ _ s
 refine qa (fm o Jc ?_)
 simp only[gm,vw,if_false]
 refine qa (mm a1 x (qa (mm j t (qa ?_))))
 refine wpAny_forIn_list _ (λrest r l=>r.1=none/\l=s/\∃xs g i,rest=List.zip xs g/\EqAll P w h A.in1 xs g i/\i=c/\(xs.length==g.length)=(its.length==jts.length)) _ ?_ ?_ _ _ ⟨rfl,rfl,its,jts,c,rfl,hc,rfl,rfl⟩
 ·rintro⟨u,v⟩ rest r l ⟨n,rfl,xs,g,i,d,f,rfl,hl⟩
  cases f with
  |nil=>cases d
  |left=>cases d
  |right=>cases d
  |@cons v1 u1 j c1 vs us k1 k2 =>
   rw[yd] at d
   injection d with z1 z2
   injection z1 with z3 z4
   subst z3 z4 z2
   refine qa (k1 e ?_)
   cases j with
   |true =>
    simp only[gm,vw,if_false]
    exact wpAny_pure ⟨rfl,rfl,vs,us,c1,rfl,k2,by simp,by simpa using hl⟩
   |false =>
    simp only[Bool.not_false,if_true]
    exact qa ⟨_,rfl,(λe=>nomatch e),wpAny_truthy_bool (by simpa using q)⟩.14.14.14
 ·rintro⟨r1,r2⟩ l ⟨n,rfl,xs,g,i,d,f,rfl,hl⟩
  have k:r1=none:=n
  subst k
  have hf:(its.length==jts.length)=i:=by
   rw[<- hl]
   cases f with
   |nil=>rfl
   |left=>rfl
   |right=>rfl
   |cons=>rw[yd] at d;cases d
  refine wpAny_pure ⟨.bool (its.length==jts.length),?_,(λe=>nomatch e),wpAny_truthy_bool (by rw[hf];exact q)⟩
  simp
  rfl
inductive QuietAll(P:Program)(w:World)(h:Heap)(A:Around)(n:Nat):List Value->Prop
 |nil:QuietAll P w h A n []
 |cons {v:Value}{vs:List Value}:mH P w h A n v->QuietAll P w h A n vs->QuietAll P w h A n (v::vs)
theorem yX{i:Int}{t:Tok}:mH P w h A n (.int i t):=λe q=>by
 rw[eqIsQuiet_byValue n (show carriedByValue (.int i t)=true from rfl)]
 exact wpAny_pure q
theorem aAL(t:TupAt h a its)(hq:QuietAll P w h A n its):mH P w h A (n+1) (.ref a):=by
 intro E s Q e q
 have ty:=t.ty e
 obtain⟨o,m,g1,_,g3⟩:=t.ex
 rw[<- e] at g1
 unfold eqIsQuiet
 refine qa (cf ty pv.lookup ?_)
 show wpAny _ _ (isInstance (.ref a) (.type "tuple") >>= _) _ _ s
 refine qa (fm ty Jc ?_)
 simp only[gm,vw,if_false]
 refine qa (xo g1 g3 (qa ?_))
 show wpAny _ _ (forIn its.toArray _ _) _ _ s
 rw[<- bj]
 refine wpAny_forIn_list _ (λrest r c=>r.1=none/\c=s/\QuietAll P w h A n rest) _ ?_ ?_ _ _ ⟨rfl,rfl,hq⟩
 ·rintro v rest r c ⟨d,rfl,f⟩
  cases f with
  |cons h1 h2 =>
   refine qa (h1 e ?_)
   simp only[gm,vw,if_false]
   exact wpAny_pure ⟨rfl,rfl,h2⟩
 ·rintro⟨r1,r2⟩ c ⟨d,rfl,_⟩
  have b:r1=none:=d
  subst b
  exact wpAny_pure q
end
end HK
namespace Z
open PySem PySem.Spec PyProof.Rows L2 HK
mutual
def KeyAt(h:Heap):Nat->D->Value->Prop
 |_, .int i,v=>∃t,v = .int i t
 |n+1, .tup ds,v=>∃a its,v = .ref a/\TupAt h a its/\KeysAt h n ds its
 |_,_,_=>False
def KeysAt(h:Heap):Nat->List D->List Value->Prop
 |_,[],vs=>vs=[]
 |n,d::ds,vs=>∃v r,vs=v::r/\KeyAt h n d v/\KeysAt h n ds r
end
theorem TupAt.one{x y:List Value}(hx:TupAt h a x)(hy:TupAt h a y):x=y:=by
 obtain⟨o,n,e1,_,e2⟩:=hx.ex
 obtain⟨o',n',f1,_,f2⟩:=hy.ex
 grind
mutual
theorem keyAt_inj:∀(n:Nat) (d e:D) (v:Value),KeyAt h n d v->KeyAt h n e v->d=e
 |n, .int i,e,v,x,y=>by
  simp only[KeyAt] at x
  obtain⟨t,rfl⟩:=x
  cases e with
  |int j=>simp only[KeyAt] at y;obtain⟨u,q⟩:=y;cases q;rfl
  |tup es=>cases n with
   |zero=>simp only[KeyAt] at y
   |succ n=>simp only[KeyAt] at y;obtain⟨_,_,q,_⟩:=y;cases q
  |_=>cases n <;> simp only[KeyAt] at y
 |0, .tup _,_,_,x,_=>by simp only[KeyAt] at x
 |n+1, .tup ds,e,v,x,y=>by
  simp only[KeyAt] at x
  obtain⟨a,c,rfl,m,l⟩:=x
  cases e with
  |int j=>simp only[KeyAt] at y;obtain⟨u,q⟩:=y;cases q
  |tup es =>
   simp only[KeyAt] at y
   obtain⟨b,k,q,g,f⟩:=y
   cases q
   rw[<- TupAt.one m g] at f
   rw[keysAt_inj n ds es c l f]
  |_=>simp only[KeyAt] at y
 |n, .non,_,_,x,_=>by cases n <;> simp only[KeyAt] at x
 |n, .bl _,_,_,x,_=>by cases n <;> simp only[KeyAt] at x
 |n, .str _,_,_,x,_=>by cases n <;> simp only[KeyAt] at x
 |n, .mt _,_,_,x,_=>by cases n <;> simp only[KeyAt] at x
 |n, .lst _,_,_,x,_=>by cases n <;> simp only[KeyAt] at x
 |n, .fl _,_,_,x,_=>by cases n <;> simp only[KeyAt] at x
 |n, .st _,_,_,x,_=>by cases n <;> simp only[KeyAt] at x
theorem keysAt_inj:∀(n:Nat) (ds es:List D) (vs:List Value),KeysAt h n ds vs->KeysAt h n es vs->ds=es
 |_,[],[],_,_,_=>rfl
 |_,[],_::_,_,x,y=>by
  simp only[KeysAt] at x y
  grind
 |_,_::_,[],_,x,y=>by
  simp only[KeysAt] at x y
  grind
 |n,d::ds,e::es,vs,x,y=>by
  simp only[KeysAt] at x y
  obtain⟨v,r,rfl,a,b⟩:=x
  obtain⟨g,i,q,c,f⟩:=y
  cases q
  rw[keyAt_inj n d e v a c,keysAt_inj n ds es r b f]
end
mutual
theorem keyAt_mv(k:∀a its,TupAt h a its->TupAt h' a its):∀(n:Nat) (d:D) (v:Value),KeyAt h n d v->KeyAt h' n d v
 |n, .int i,v,x=>by simp only[KeyAt] at x ⊢;exact x
 |0, .tup _,_,x=>by simp only[KeyAt] at x
 |n+1, .tup ds,v,x=>by
  simp only[KeyAt] at x ⊢
  obtain⟨a,its,e,b,c⟩:=x
  exact⟨a,its,e,k a its b,keysAt_mv k n ds its c⟩
 |n, .non,_,x=>by cases n <;> simp only[KeyAt] at x
 |n, .bl _,_,x=>by cases n <;> simp only[KeyAt] at x
 |n, .str _,_,x=>by cases n <;> simp only[KeyAt] at x
 |n, .mt _,_,x=>by cases n <;> simp only[KeyAt] at x
 |n, .lst _,_,x=>by cases n <;> simp only[KeyAt] at x
 |n, .fl _,_,x=>by cases n <;> simp only[KeyAt] at x
 |n, .st _,_,x=>by cases n <;> simp only[KeyAt] at x
theorem keysAt_mv(k:∀a its,TupAt h a its->TupAt h' a its):∀(n:Nat) (ds:List D) (vs:List Value),KeysAt h n ds vs->KeysAt h' n ds vs
 |_,[],_,x=>by simp only[KeysAt] at x ⊢;exact x
 |n,d::ds,vs,x=>by
  simp only[KeysAt] at x ⊢
  obtain⟨v,r,e,a,b⟩:=x
  exact⟨v,r,e,keyAt_mv k n d v a,keysAt_mv k n ds r b⟩
end
mutual
noncomputable def drK:D->Nat
 |.tup ds=>drKs ds+1
 |_=>1
noncomputable def drKs:List D->Nat
 |[]=>0
 |d::ds=>drK d+drKs ds
end
section
theorem in1_units(A:Around):A.in1.units=A.units+1:=rfl
mutual
theorem key_hash:∀(n:Nat) (A:Around) (d:D) (v:Value),A.units+n<cLine->KeyAt h n d v->o6 P w h A v (hashK hf d) (drK d)
 |n,A, .int i,v,hu,x=>by
  simp only[KeyAt] at x
  obtain⟨t,rfl⟩:=x
  simp only[hashK,drK]
  exact aEI
 |0,_, .tup _,_,_,x=>by simp only[KeyAt] at x
 |n+1,A, .tup ds,v,hu,x=>by
  simp only[KeyAt] at x
  obtain⟨a,b,rfl,c,e⟩:=x
  simp only[hashK,drK]
  exact aD2 '#' c (keys_hash n A.in1 ds b (by rw[in1_units];lia) e)
 |n,_, .non,_,_,x=>by cases n <;> simp only[KeyAt] at x
 |n,_, .bl _,_,_,x=>by cases n <;> simp only[KeyAt] at x
 |n,_, .str _,_,_,x=>by cases n <;> simp only[KeyAt] at x
 |n,_, .mt _,_,_,x=>by cases n <;> simp only[KeyAt] at x
 |n,_, .lst _,_,_,x=>by cases n <;> simp only[KeyAt] at x
 |n,_, .fl _,_,_,x=>by cases n <;> simp only[KeyAt] at x
 |n,_, .st _,_,_,x=>by cases n <;> simp only[KeyAt] at x
theorem keys_hash:∀(n:Nat) (A:Around) (ds:List D) (vs:List Value),A.units+n<cLine->KeysAt h n ds vs->HashAll P w h A vs (hashKs hf ds) (drKs ds)
 |_,_,[],_,_,x=>by
  simp only[KeysAt] at x
  subst x
  simp only[hashKs,drKs]
  exact .nil
 |n,A,d::ds,vs,hu,x=>by
  simp only[KeysAt] at x
  obtain⟨v,r,rfl,a,b⟩:=x
  simp only[hashKs,drKs]
  exact .cons (key_hash n A d v hu a) (keys_hash n A ds r hu b)
end
inductive Sh where
 |i
 |t (ss:List Sh)
mutual
noncomputable def shp:D->Sh
 |.tup ds => .t (shps ds)
 |_ => .i
noncomputable def shps:List D->List Sh
 |[]=>[]
 |d::ds=>shp d::shps ds
end
noncomputable instance decD:DecidableEq D:=λa b=>my (a=b)
theorem aG1{p q r:Prop}[Decidable p][Decidable q][Decidable r](h:r↔p/\q):decide r=(decide p&&decide q):=by
 grind
mutual
theorem key_eq:∀(n:Nat) (A:Around) (d e:D) (v u:Value),A.units+n<cLine->shp d=shp e->KeyAt h n d v->KeyAt h n e u->xX P w h A v u (decide (d=e))
 |n,A, .int i,e,v,u,hu,hs,x,y=>by
  simp only[KeyAt] at x
  obtain⟨t,rfl⟩:=x
  cases e with
  |int j =>
   simp only[KeyAt] at y
   obtain⟨o,rfl⟩:=y
   have e:decide (D.int i=D.int j)=decide (i=j):=decide_eq_decide.mpr ⟨λz=>by injection z,λz=>by rw[z]⟩
   rw[e]
   exact eq_int
  |tup es=>simp only[shp] at hs;cases hs
  |_=>cases n <;> simp only[KeyAt] at y
 |0,_, .tup _,_,_,_,_,_,x,_=>by simp only[KeyAt] at x
 |n+1,A, .tup ds,e,v,u,hu,hs,x,y=>by
  have x0:=x
  simp only[KeyAt] at x
  obtain⟨a,c,rfl,m,k⟩:=x
  cases e with
  |tup es =>
   have y0:=y
   simp only[KeyAt] at y
   obtain⟨b,f,rfl,g,l⟩:=y
   simp only[shp] at hs
   injection hs with hs
   have e:decide (D.tup ds=D.tup es)=decide (ds=es):=decide_eq_decide.mpr ⟨λz=>by injection z,λz=>by rw[z]⟩
   rw[e]
   refine aHZ '#' m g (keys_eq n A.in1 ds es c f (by rw[in1_units];lia) hs k l) λz => ?_
   subst z
   have:=keyAt_inj (n+1) _ _ _ x0 y0
   injection this with this
   exact decide_eq_true this
  |int j=>simp only[shp] at hs;cases hs
  |_=>simp only[KeyAt] at y
 |n,_, .non,_,_,_,_,_,x,_=>by cases n <;> simp only[KeyAt] at x
 |n,_, .bl _,_,_,_,_,_,x,_=>by cases n <;> simp only[KeyAt] at x
 |n,_, .str _,_,_,_,_,_,x,_=>by cases n <;> simp only[KeyAt] at x
 |n,_, .mt _,_,_,_,_,_,x,_=>by cases n <;> simp only[KeyAt] at x
 |n,_, .lst _,_,_,_,_,_,x,_=>by cases n <;> simp only[KeyAt] at x
 |n,_, .fl _,_,_,_,_,_,x,_=>by cases n <;> simp only[KeyAt] at x
 |n,_, .st _,_,_,_,_,_,x,_=>by cases n <;> simp only[KeyAt] at x
theorem keys_eq:∀(n:Nat) (A:Around) (ds es:List D) (vs us:List Value),A.units+n<cLine->shps ds=shps es->KeysAt h n ds vs->KeysAt h n es us->EqAll P w h A vs us (decide (ds=es))
 |_,_,[],[],_,_,_,_,x,y=>by
  simp only[KeysAt] at x y
  subst x y
  rw[decide_eq_true rfl]
  exact .nil
 |_,_,[],_::_,_,_,_,hs,_,_=>by simp only[shps] at hs;cases hs
 |_,_,_::_,[],_,_,_,hs,_,_=>by simp only[shps] at hs;cases hs
 |n,A,d::ds,e::es,_,_,hu,hs,x,y=>by
  simp only[KeysAt] at x y
  obtain⟨v,r,rfl,a,b⟩:=x
  obtain⟨g,i,rfl,c,f⟩:=y
  simp only[shps] at hs
  injection hs with h1 h2
  rw[aG1 (p:=d=e) (q:=ds=es) ⟨λz=>by injection z with z1 z2;exact⟨z1,z2⟩,λz=>by rw[z.1,z.2]⟩]
  exact .cons (key_eq n A d e v g hu h1 a c) (keys_eq n A ds es r i hu h2 b f)
end
mutual
theorem key_quiet:∀(n:Nat) (d:D) (v:Value),KeyAt h n d v->mH P w h A n v
 |n, .int i,v,x=>by
  simp only[KeyAt] at x
  obtain⟨t,rfl⟩:=x
  exact yX
 |0, .tup _,_,x=>by simp only[KeyAt] at x
 |n+1, .tup ds,v,x=>by
  simp only[KeyAt] at x
  obtain⟨a,b,rfl,c,e⟩:=x
  exact aAL c (keys_quiet n ds b e)
 |n, .non,_,x=>by cases n <;> simp only[KeyAt] at x
 |n, .bl _,_,x=>by cases n <;> simp only[KeyAt] at x
 |n, .str _,_,x=>by cases n <;> simp only[KeyAt] at x
 |n, .mt _,_,x=>by cases n <;> simp only[KeyAt] at x
 |n, .lst _,_,x=>by cases n <;> simp only[KeyAt] at x
 |n, .fl _,_,x=>by cases n <;> simp only[KeyAt] at x
 |n, .st _,_,x=>by cases n <;> simp only[KeyAt] at x
theorem keys_quiet:∀(n:Nat) (ds:List D) (vs:List Value),KeysAt h n ds vs->QuietAll P w h A n vs
 |_,[],_,x=>by simp only[KeysAt] at x;subst x;exact .nil
 |n,d::ds,_,x=>by
  simp only[KeysAt] at x
  obtain⟨v,r,rfl,a,b⟩:=x
  exact .cons (key_quiet n d v a) (keys_quiet n ds r b)
end
end
theorem TupAt.kept{d:Addr}{o:Obj}{es:Array DictEntry}(ho:h.get? d=some o)(hd:o.data = .dict es ep)(hs:vx d h h')(a:Addr)(its:List Value)(t:TupAt h a its):TupAt h' a its:=by
 obtain⟨f,n,e,c,b⟩:=t.ex
 refine⟨f,n,(hs.2 a λz => ?_).trans e,c,b⟩
 grind
noncomputable def kD(P:Program)(w:World)(hf:Str->Int)(sh:Sh):ro P w D where
 is h k a:=KeyAt h 8 k (.ref a)/\shp k=sh
 hash:=hashK hf
 draws:=drK
 room A:=A.units+8<cLine
 inj:=λhx hy=>keyAt_inj _ _ _ _ hx.1 hy.1
 keeps:=λx ho hd hs=>⟨keyAt_mv (TupAt.kept ho hd hs) _ _ _ x.1,x.2⟩
 pyHash:=λhu x q=>key_hash 8 _ _ _ hu x.1 rfl q
 eqBool:=λhu x y q=>key_eq 8 _ _ _ _ _ hu (x.2.trans y.2.symm) x.1 y.1 rfl (by
  refine Eq.mp ?_ q
  congr 1)
 quiet:=λx q=>key_quiet 8 _ _ x.1 rfl q
end Z
namespace Z
open PySem PySem.Spec PyProof.Rows L2 HK
section
mutual
theorem keyAt_of(I:Inv X pins σ H s):∀(n m:Nat) (d:D) (v:V) (u:Value),n<=m->okK n d=true->Den X.K H d v->RelV v u->KeyAt s.heap m d u
 |n,m, .int i,v,u,_,_,x,r=>by
  rw[x.int_] at r
  simp only[KeyAt]
  exact r
 |0,_, .tup _,_,_,_,h,_,_=>by simp[okK] at h
 |n+1,0, .tup _,_,_,l,_,_,_=>by omega
 |n+1,m+1, .tup ds,v,u,l,h,x,r=>by
  obtain⟨a,vs,rfl,sq,f⟩:=x.tup_
  cases (show u=jh a from r)
  obtain⟨b,g,⟨o,e,c,k,d⟩,_⟩:=I.tuple sq
  simp only[KeyAt]
  exact⟨a,b,rfl,⟨o,k,e,c,d⟩,keysAt_of I n m ds vs b '!' (by simpa only[okK] using h) f g⟩
 |n,_, .non,_,_,_,h,_,_=>by cases n <;> simp[okK] at h
 |n,_, .bl _,_,_,_,h,_,_=>by cases n <;> simp[okK] at h
 |n,_, .str _,_,_,_,h,_,_=>by cases n <;> simp[okK] at h
 |n,_, .mt _,_,_,_,h,_,_=>by cases n <;> simp[okK] at h
 |n,_, .lst _,_,_,_,h,_,_=>by cases n <;> simp[okK] at h
 |n,_, .fl _,_,_,_,h,_,_=>by cases n <;> simp[okK] at h
 |n,_, .st _,_,_,_,h,_,_=>by cases n <;> simp[okK] at h
theorem keysAt_of(I:Inv X pins σ H s):∀(n m:Nat) (ds:List D) (vs:List V) (us:List Value),n<=m->okKs n ds=true->Dens X.K H ds vs->Vals vs us->KeysAt s.heap m ds us
 |_,_,[],vs,us,_,_,x,r=>by
  rw[b5 x] at r
  cases r
  simp only[KeysAt]
 |n,m,d::ds,vs,us,l,h,x,r=>by
  obtain⟨v,t,rfl,x1,a⟩:=bF x
  cases r with
  |cons r1 r2 =>
   simp only[okKs,jm] at h
   simp only[KeysAt]
   exact⟨_,_,rfl,keyAt_of I n m d v _ l h.1 x1 r1,keysAt_of I n m ds t _ l h.2 a r2⟩
end
noncomputable def xsD:List D->List Addr->List Value->List (D×Addr×Value)
 |k::ks,a::as,u::us=>(k,a,u)::xsD ks as us
 |_,_,_=>[]
theorem p9{hf:Str->Int}{sh:Sh}:∀(ks:List D) (as:List Addr) (us:List Value),(xsD ks as us).map (gk (kD P w hf sh))=lE hf ks as us
 |[],_,_=>by simp[xsD,lE]
 |_::_,[],_=>by simp[xsD,lE]
 |_::_,_::_,[]=>by simp[xsD,lE]
 |k::ks,a::as,u::us=>by
  simp only[xsD,lE,jo]
  rw[p9 ks as us]
  rfl
theorem kL:∀(ks:List D) (as:List Addr) (us:List Value),as.length=ks.length->us.length=ks.length->(xsD ks as us).map (·.1)=ks
 |[],_,_,_,_=>by simp[xsD]
 |_::_,[],_,h,_=>by simp at h
 |_::_,_::_,[],_,h=>by simp at h
 |k::ks,a::as,u::us,h1,h2=>by
  simp only[xsD,jo]
  rw[kL ks as us (by simpa using h1) (by simpa using h2)]
theorem qB:∀(ks:List D) (as:List Addr) (us:List Value) (i:Nat) (k:D) (a:Addr) (u:Value),ks[i]?=some k->as[i]?=some a->us[i]?=some u->(xsD ks as us)[i]?=some (k,a,u)
 |[],_,_,i,_,_,_,h,_,_=>by simp at h
 |_::_,[],_,i,_,_,_,_,h,_=>by simp at h
 |_::_,_::_,[],i,_,_,_,_,_,h=>by simp at h
 |k::ks,a::as,u::us,0,_,_,_,h1,h2,h3=>by
  simp at h1 h2 h3
  subst h1 h2 h3
  rfl
 |k::ks,a::as,u::us,i+1,_,_,_,h1,h2,h3=>by
  simp only[xsD,kc]
  exact qB ks as us i _ _ _ (by simpa using h1) (by simpa using h2) (by simpa using h3)
theorem lU:∀(ks:List D) (as:List Addr) (us:List Value) (x:D×Addr×Value),x∈xsD ks as us->∃i:Nat,ks[i]?=some x.1/\as[i]?=some x.2.1
 |[],_,_,_,h=>by simp[xsD] at h
 |_::_,[],_,_,h=>by simp[xsD] at h
 |_::_,_::_,[],_,h=>by simp[xsD] at h
 |k::ks,a::as,u::us,x,h=>by
  simp only[xsD,jb] at h
  rcases h with rfl|h
  ·exact⟨0,rfl,rfl⟩
  ·obtain⟨i,c,b⟩:=lU ks as us x h
   exact⟨i+1,by simpa using c,by simpa using b⟩
theorem wK:∀(ks:List D) (as:List Addr) (us:List Value) (k:D) (a:Addr) (u:Value),as.length=ks.length->us.length=ks.length->xsD (ks++[k]) (as++[a]) (us++[u])=xsD ks as us++[(k,a,u)]
 |[],[],[],_,_,_,_,_=>rfl
 |[],_::_,_,_,_,_,h,_=>by simp at h
 |[],[],_::_,_,_,_,_,h=>by simp at h
 |_::_,[],_,_,_,_,h,_=>by simp at h
 |_::_,_::_,[],_,_,_,_,h=>by simp at h
 |k::ks,a::as,u::us,k',a',u',h1,h2=>by
  simp only[zm,xsD]
  rw[wK ks as us k' a' u' (by simpa using h1) (by simpa using h2)]
theorem wV:∀(ks:List D) (as:List Addr) (us:List Value) (i:Nat) (k:D) (u:Value),ks.Nodup->ks[i]?=some k->(xsD ks as us).map (putAt k u)=xsD ks as (us.set i u)
 |[],_,_,i,_,_,_,h=>by simp at h
 |_::_,[],_,i,_,_,_,_=>by simp[xsD]
 |_::_,_::_,[],i,_,_,_,_=>by simp[xsD]
 |k::ks,a::as,v::us,0,k',u,nd,h=>by
  simp at h
  subst h
  simp only[xsD,jo,List.set_cons_zero]
  rw[map_putAt_of_not_mem _ _ _ λz => ?_]
  ·rw[putAt,if_pos rfl]
  ·obtain⟨x,d,e⟩:=q0.mp z
   obtain⟨i,b,_⟩:=lU ks as us x d
   rw[e] at b
   exact (vf.mp nd).1 b.7
 |k::ks,a::as,v::us,i+1,k',u,nd,h=>by
  have c:ks[i]?=some k':=by simpa using h
  simp only[xsD,jo,List.set_cons_succ]
  rw[wV ks as us i k' u (vf.mp nd).2 c,putAt,if_neg λz=>(vf.mp nd).1 (by rw[show k=k' from z];exact zMo c)]
variable {ks:List D}{as:List Addr}{vs:List V}{sh:Sh}
theorem DiO.la{K:Fg}{o:Option HO}(h:DiO K G o a hf ks ds as vs ep):as.length=ks.length:=by
 have:=h.keys.len
 simpa using this.symm
theorem mU(I:Inv X pins σ H s)(h:DiO X.K H (H a) a hf ks ds as vs ep)(hs:∀k∈ks,shp k=sh):(a==wg)=false/\∃us,Vals vs us/\us.length=ks.length/\kr (kD X.prog X.w hf sh) s.heap a (xsD ks as us):=by
 obtain⟨⟨hd,o,us,r,f,l,j⟩,_⟩:=(show cM X.prog X.w H s.heap a (.ext (DDt hf a ks as vs ep)) from I.hok a _ h.ob)
 have b:us.length=ks.length:=by rw[<- r.length,<- h.vals.len,h.dl]
 refine⟨hd,us,r,b,o,_,ep,f,l,j,by rw[p9],λx e => ?_,by rw[kL _ _ _ h.la b];exact h.nd⟩
 obtain⟨i,d,m⟩:=lU ks as us x e
 have hm:=zMo d
 obtain⟨v,c,g⟩:=h.keys.get d
 rw[qm,m] at c
 cases c
 exact⟨keyAt_of I 6 8 _ _ _ '!' (h.ok _ hm) g rfl,hs _ hm⟩
theorem oC(I:Inv X pins σ H s){k:D}(ok:okK 6 k=true)(dk:Den X.K H k v)(r:RelV v u)(ht:∃es,k = .tup es)(hs:shp k=sh):∃b,u = .ref b/\(kD X.prog X.w hf sh).is s.heap k b:=by
 obtain⟨es,rfl⟩:=ht
 obtain⟨b,ws,rfl,_⟩:=dk.tup_
 cases (show u=jh b from r)
 exact⟨b,rfl,keyAt_of I 6 8 _ _ _ '!' ok dk rfl,hs⟩
theorem qX{k:D}{a:Addr}(nd:ks.Nodup)(la:as.length=ks.length)(lu:us.length=ks.length)(h1:ks[i]?=some k)(h2:as[i]?=some a)(h3:us[i]?=some u):atKey (xsD ks as us) k=some (a,u):=
 atKey_of_get (by rw[kL _ _ _ la lu];exact nd) (qB ks as us i k a u h1 h2 h3)
theorem rF{k:D}(h:k∉ks):atKey (xsD ks as us) k=none:=
 zq λj p e=>by
  obtain⟨i,a,_⟩:=lU ks as us _ e.7
  exact h a.7
theorem qM{k:D}(la:as.length=ks.length)(lu:us.length=ks.length):(atKey (xsD ks as us) k).isSome=decide (k∈ks):=by
 by_cases h:k∈ks
 ·rw[decide_eq_true h]
  obtain⟨i,b⟩:=jd.mp h
  have d:=(b.5).1
  cases hn:atKey (xsD ks as us) k with
  |some p=>rfl
  |none =>
   exfalso
   have c:=qB ks as us i k as[i] us[i] b (zGe '!') (zGe '!')
   have a:(xsD ks as us).find? (λx=>decide (x.1=k))=none:=by
    cases hq:(xsD ks as us).find? (λx=>decide (x.1=k)) with
    |none=>rfl
    |some p=>unfold atKey at hn;rw[hq] at hn;cases hn
   have:=QQ.mp a _ c.7
   simp at this
 ·rw[decide_eq_false h,rF h]
  rfl
theorem room8(hu:X.A.units+9<cLine):(kD X.prog X.w hf sh).room X.A.in1:=by
 show X.A.in1.units+8<cLine
 rw[in1_units];omega
def yE(K:Fg)(neg:Bool):R2:=λx y H Q=>∃k a hf ks ds as vs ep,(∃es,k = .tup es)/\okK 6 k=true/\Den K H k x/\y = .ref a/\DiO K H (H a) a hf ks ds as vs ep/\(∀k'∈ks,shp k'=shp k)/\Q (.bl (if neg=true then !decide (k∈ks) else decide (k∈ks))) H
theorem aJ7(hu:X.A.units+9<cLine):OpR X (vc .In) (yE X.K false):=by
 intro pins s σ H x y v u Q I d j h
 obtain⟨k,a,hf,c,ds,as,vs,n,g,ok,i,rfl,hd,m,q⟩:=h
 cases (show u=jh a from j)
 obtain⟨hm,us,_,e,f⟩:=mU I hd m
 obtain⟨b,rfl,l⟩:=oC (hf:=hf) I ok i d g rfl
 refine wpAny_in_heap (room8 hu) l hm f ?_
 rw[qM hd.la e]
 exact⟨.bl (decide (k∈c)),H,I.tok _,rfl,q⟩
theorem aBM(hu:X.A.units+9<cLine):OpR X (vc .NotIn) (yE X.K true):=by
 intro pins s σ H x y v u Q I d j h
 obtain⟨k,a,hf,c,ds,as,vs,n,g,ok,i,rfl,hd,m,q⟩:=h
 cases (show u=jh a from j)
 obtain⟨hm,us,_,e,f⟩:=mU I hd m
 obtain⟨b,rfl,l⟩:=oC (hf:=hf) I ok i d g rfl
 refine Ke (room8 hu) l hm f ?_
 rw[qM hd.la e]
 exact⟨.bl (!decide (k∈c)),H,I.tok _,rfl,q⟩
def aES(K:Fg):R2:=λx y H Q=>∃k a hf ks ds as vs ep,∃(i:Nat) (v:V),(∃es,k = .tup es)/\okK 6 k=true/\Den K H k y/\x = .ref a/\DiO K H (H a) a hf ks ds as vs ep/\(∀k'∈ks,shp k'=shp k)/\ks[i]?=some k/\vs[i]?=some v/\Q v H
theorem zZ(hu:X.A.units+9<cLine):IxR X (aES X.K):=by
 intro value slice pins s σ H x y v u Q I p o h d
 obtain⟨k,a,hf,G,ds,as,vs,E,i,C,w,ok,l,rfl,hd,D,e,m,q⟩:=h
 cases (show v=jh a from p)
 obtain⟨hm,us,r,t,f⟩:=mU I hd D
 obtain⟨b,rfl,B⟩:=oC (hf:=hf) I ok l o w rfl
 obtain⟨g,c,n⟩:=r.get m
 have F:=(e.5).1
 have la:=hd.la
 have j:as[i]?=some as[i]:=zGe '!'
 exact fw (x:=g) f.typeIs slot_dict_getitem.lookup
  (wpAny_getItem_heap (Q:=λr z=>r=g/\EP X pins σ Q r z) (room8 hu) B f (qX hd.nd la t e j c) ⟨rfl,C,H,I.tok _,n,q⟩) d
theorem aKT(hd:(a==wg)=false)(r:Vals vs us)(d:kr (kD P w hf sh) h' a (xsD ks as us)):∃ep,cM P w H' h' a (.ext (DDt hf a ks as vs ep)):=by
 obtain⟨o,l,ep,e,m,j,c,_⟩:=d
 have he:l=(lE hf ks as us).toArray:=by rw[p9] at c;rw[<- c]
 subst he
 exact⟨ep,⟨hd,o,us,r,e,m,j⟩,⟨o,e⟩,λg1 g2 ⟨z,h,b,f,k,n,i⟩ g=>⟨z,h,b,f,g _ k,n,i⟩⟩
theorem sA{ks' ds':List D}{as':List Addr}{vs':List V}{us':List Value}(I:Inv X pins σ H s)(h:DiO X.K H (H a) a hf ks ds as vs ep)(hm:(a==wg)=false)(r:Vals vs' us')(d:kr (kD X.prog X.w hf sh) h' a (xsD ks' as' us'))(hs:vx a s.heap h'):
  ∃ep',Inv X pins σ (upd H a (.ext (DDt hf a ks' as' vs' ep'))) {s with heap:=h',toks:=t' }:=by
 obtain⟨ep',ok⟩:=aKT (H':=H) hm r d
 have he:∃q,h'.get? a=some q:=let ⟨q,_,_,hq,_⟩:=d;⟨q,hq⟩
 exact⟨ep',I.write (x:=a) (e:=a) (by rw[h.ob];exact cm) '1' (λb q c z=>(hs.2 b c).trans z) he ok⟩
noncomputable def aLJ(K:Fg):TSet:=λx y v H Q=>∃a b k hf ks ds as vs ep,x = .ref a/\y = .ref b/\(∃es,k = .tup es)/\okK 6 k=true/\Den K H k (.ref b)/\DiO K H (H a) a hf ks ds as vs ep/\(∀k'∈ks,shp k'=shp k) /\
 ((k∉ks/\∀ep',Q (upd H a (.ext (DDt hf a (ks++[k]) (as++[b]) (vs++[v]) ep'))))\/∃i:Nat,ks[i]?=some k/\∀ep',Q (upd H a (.ext (DDt hf a ks as (vs.set i v) ep'))))
theorem tM:∀{vs:List V}{us:List Value}{v:V}{u:Value},Vals vs us->RelV v u->Vals (vs++[v]) (us++[u])
 |[],_,_,_,h,r=>by cases h;exact .cons r .nil
 |_::_,_,_,_,h,r=>by
  cases h with
  |cons h1 h2=>exact .cons h1 (tM h2 r)
theorem tX:∀{vs:List V}{us:List Value}{v:V}{u:Value} (i:Nat),Vals vs us->RelV v u->Vals (vs.set i v) (us.set i u)
 |[],_,_,_,_,h,r=>by cases h;exact .nil
 |_::_,_,_,_,0,h,r=>by
  cases h with
  |cons h1 h2=>exact .cons r h2
 |_::_,_,_,_,i+1,h,r=>by
  cases h with
  |cons h1 h2=>exact .cons h1 (tX i h2 r)
theorem aKF(hu:X.A.units+9<cLine):PSet X (aLJ X.K):=by
 intro pins s σ H o i v ov t u Q I w E p h
 obtain⟨a,b,k,hf,n,ds,as,vs,G,rfl,rfl,B,ok,y,hd,F,q⟩:=h
 cases (show ov=jh a from w)
 cases (show t=jh b from E)
 obtain⟨hm,us,r,l,z⟩:=mU I hd F
 obtain⟨L,e,D⟩:=oC (hf:=hf) I ok y (show RelV (.ref b) (jh b) from rfl) B rfl
 cases e
 have la:=hd.la
 have g:(xsD n as us).length<=sizeLine:=by
  have g:=congrArg m2 (kL n as us la l)
  rw[zLm] at g
  rw[g];exact hd.len
 refine JE (hsz:=g) (room8 hu) D z λM c f => ?_
 rcases q with ⟨C,q⟩|⟨i,m,q⟩
 ·rw[h7 (rF C),<- wK _ _ _ _ _ _ la l] at c
  obtain⟨d,I'⟩:=sA (ds':=ds) I hd hm (tM r p) c f
  exact⟨_,I',q d⟩
 ·have J:=(m.5).1
  have x:as[i]?=some as[i]:=zGe '!'
  have j:us[i]?=some us[i]:=zGe '!'
  rw[su (qX hd.nd la l m x j),wV _ _ _ _ _ _ hd.nd m] at c
  obtain⟨d,I'⟩:=sA (ds':=ds) I hd hm (tX i r p) c f
  exact⟨_,I',q d⟩
end
end Z
namespace Z
open PySem PySem.Spec PyProof.Rows L2 HK
mutual
noncomputable def flatD:D->List Int
 |.int i=>[i]
 |.tup ds=>flatDs ds
 |_=>[]
noncomputable def flatDs:List D->List Int
 |[]=>[]
 |d::ds=>flatD d++flatDs ds
end
mutual
theorem flat_len:∀(n:Nat) (d e:D),shp d=shp e->okK n d=true->okK n e=true->(flatD d).length=(flatD e).length/\(flatD d=flatD e->d=e)
 |n, .int i,e,hs,_,h2=>by
  cases e with
  |int j=>exact⟨rfl,λz=>by simp only[flatD] at z;injection z with z;rw[z]⟩
  |tup es=>simp only[shp] at hs;cases hs
  |_=>cases n <;> simp[okK] at h2
 |0, .tup _,_,_,h,_=>by simp[okK] at h
 |n+1, .tup ds,e,hs,h1,h2=>by
  cases e with
  |tup es =>
   simp only[shp] at hs
   injection hs with hs
   simp only[okK] at h1 h2
   obtain⟨a,b⟩:=flats_len n ds es hs h1 h2
   simp only[flatD]
   exact⟨a,λz=>by rw[b z]⟩
  |int j=>simp only[shp] at hs;cases hs
  |_=>simp[okK] at h2
 |n, .non,_,_,h,_=>by cases n <;> simp[okK] at h
 |n, .bl _,_,_,h,_=>by cases n <;> simp[okK] at h
 |n, .str _,_,_,h,_=>by cases n <;> simp[okK] at h
 |n, .mt _,_,_,h,_=>by cases n <;> simp[okK] at h
 |n, .lst _,_,_,h,_=>by cases n <;> simp[okK] at h
 |n, .fl _,_,_,h,_=>by cases n <;> simp[okK] at h
 |n, .st _,_,_,h,_=>by cases n <;> simp[okK] at h
theorem flats_len:∀(n:Nat) (ds es:List D),shps ds=shps es->okKs n ds=true->okKs n es=true->(flatDs ds).length=(flatDs es).length/\(flatDs ds=flatDs es->ds=es)
 |_,[],[],_,_,_=>⟨rfl,λ_=>rfl⟩
 |_,[],_::_,hs,_,_=>by simp only[shps] at hs;cases hs
 |_,_::_,[],hs,_,_=>by simp only[shps] at hs;cases hs
 |n,d::ds,e::es,hs,h1,h2=>by
  simp only[shps] at hs
  injection hs with s1 s2
  simp only[okKs,jm] at h1 h2
  obtain⟨a1,a2⟩:=flat_len n d e s1 h1.1 h2.1
  obtain⟨a,b⟩:=flats_len n ds es s2 h1.2 h2.2
  simp only[flatDs]
  refine⟨by rw[qe,qe,a1,a],λz => ?_⟩
  obtain⟨f,c⟩:=List.append_inj z a1
  rw[a2 f,b c]
end
section
open SO PySem.W
variable {E:Value->Shared->Prop}
end
section
open SO
end
end Z
namespace HD
open PySem PySem.Spec PyProof.Rows PySem.W
section
variable {d:Addr}{es:Array DictEntry}
end
end HD
namespace Z
open PySem PySem.Spec PyProof.Rows L2 HK
section
variable {ks:List D}{as:List Addr}{vs:List V}
theorem aIL{P:Program}{w:World}(I:Inv X pins σ H s):Inv X pins σ (upd H s.heap.objs.size (.ext (DDt hf s.heap.objs.size [] [] [] 0))) {s with heap:=s.heap.push {cls := .type "dict", data := .dict #[]} }:=by
 have i:(s.heap.objs.size==wg)=false:=by
  have h:jx<s.heap.objs.size:=(I.mod.glob.keeps I.bk).lt
  exact beq_eq_false_iff_ne.mpr (vi (q3 (fg '$' h)))
 refine I.laid (a:=s.heap.objs.size) (t':=s.toks) (λ_ _ q=>qf _ q) (qo _) ?_
 exact⟨⟨i,_,[], .nil,qq _ rfl,⟨rfl,rfl,rfl⟩,rfl⟩,⟨_,qq _ rfl⟩,λg1 g2 ⟨z,e,b,c,g,j,f⟩ d=>⟨z,e,b,c,d _ g,j,f⟩⟩
end
section
variable {K:Fg}{ks:List D}{x:D}
structure KeyOk(ks:List D)(x:D):Prop where
 tup:∃es,x = .tup es
 ok:okK 6 x=true
 same:∀k'∈ks,shp k'=shp x
theorem aIK(hm:M a=some (.dic hf ks ds))(kx:KeyOk ks x)(h:k (.bl (decide (x∈ks))) M):Op2 K (yE K false) x (.mt a) M k:=λG H v1 v2 Q b e d q=>by
 obtain⟨_,as,vs,c,hd⟩:=b.mem _ _ hm
 exact⟨x,a,hf,ks,ds,as,vs,c,kx.tup,kx.ok,e.up b.same,d.mt_,hd.mv b.same rfl,kx.same,q _ _ _ _ _ b.10 bN h⟩
theorem aAI(hm:M a=some (.dic hf ks ds))(kx:KeyOk ks x)(h:k (.bl (!decide (x∈ks))) M):Op2 K (yE K true) x (.mt a) M k:=λG H v1 v2 Q b e d q=>by
 obtain⟨_,as,vs,c,hd⟩:=b.mem _ _ hm
 exact⟨x,a,hf,ks,ds,as,vs,c,kx.tup,kx.ok,e.up b.same,d.mt_,hd.mv b.same rfl,kx.same,q _ _ _ _ _ b.10 bN h⟩
theorem vL{d:D}(i:Nat)(hm:M a=some (.dic hf ks ds))(kx:KeyOk ks x)(hi:ks[i]?=some x)(hd:ds[i]?=some d)(h:k d M):Op2 K (aES K) (.mt a) x M k:=λG H v1 v2 Q b g l q=>by
 obtain⟨_,as,vs,f,c⟩:=b.mem _ _ hm
 obtain⟨v,j,e⟩:=c.vals.get hd
 exact⟨x,a,hf,ks,ds,as,vs,f,i,v,kx.tup,kx.ok,l.up b.same,g.mt_,c.mv b.same rfl,kx.same,hi,j,q _ _ _ _ _ b.10 e h⟩
end
section
variable {F:Fin}{pos:Pos}{a b:Expr}
theorem tN(hf:Str->Int)(h:∀a,M a=none->k (.mt a) (aL M a (.dic hf [] []))):GE X (.Dict [] [] pos) Γ M k:=λσ G H Q d c q pins s I=>by
 have b:=I.hok.fresh (qo s.heap.objs.size)
 refine Kh ⟨.ref s.heap.objs.size,_,aIL (P:=X.prog) (w:=X.w) (hf:=hf) I,rfl,?_⟩
 exact q _ _ _ _ _ (c.newX (m := .dic hf [] []) b ⟨[],[],0, .nil,kd _,λ_ h=>(nomatch h),rfl,bT,bT,aR⟩) iT (h _ (c.free b).2)
theorem tZ{i:Expr}{dv:D}(hu:X.A.units+9<cLine)(h:GE X o Γ M λd1 M1=>GE X i Γ M1 λd2 M2=>∃a hf ks ds,d1 = .mt a/\M2 a=some (.dic hf ks ds)/\KeyOk ks d2/\ks.length<sizeLine /\
   ((d2∉ks/\kg Γ (aL M2 a (.dic hf (ks++[d2]) (ds++[dv]))))\/∃j:Nat,ks[j]?=some d2/\kg Γ (aL M2 a (.dic hf ks (ds.set j dv)))))(ha:∀v,assign (.Subscript o i pos) X.env v=(do
   let ov <- yz [v] (eval o X.env)
   let iv <- yz [v,ov] (eval i X.env)
   sf pos
   yz [v,ov,iv] (Jq ov iv v)
   Vg [v,ov,iv] []):=by intro _;rfl):GG X (.Subscript o i pos) dv Γ M kg:=λσ G H v Q n B e q=>by
 refine k5 (tQ pU pU (aKF hu) ha) ?_
 refine h σ G H _ n B λv1 G1 H1 d1 M1 s1 F w => ?_
 refine w σ G1 H1 _ (n.up s1.gg) s1.rel λv2 G2 H2 d2 M2 s2 r ⟨a,hf,ks,ds,x1,hm,l,hl,k⟩ => ?_
 subst x1
 obtain⟨_,as,vs,E,c⟩:=s2.rel.mem _ _ hm
 obtain⟨p,rfl⟩:=l.tup
 obtain⟨b,ws,rfl,I,_⟩:=r.tup_
 have d:=s1.trans s2
 have ev:=e.up d.gg
 refine⟨a,b, .tup p,hf,ks,ds,as,vs,E,(F.up s2.gg).mt_,rfl,⟨p,rfl⟩,l.ok,r.up s2.rel.same,c.mv s2.rel.same rfl,l.same,?_⟩
 rcases k with ⟨s,k⟩|⟨j,C,k⟩
 ·refine .inl ⟨s,λf => ?_⟩
  refine q _ _ _ _ _ (d.trans (s2.rel.wrX (m := .dic hf (ks++[.tup p]) (ds++[dv])) hm ⟨as++[b],vs++[v],f,?_,by rw[qe];exact hl,λz g => ?_,by rw[qe,qe,c.dl];rfl,by rw[qv];exact c.keys.append (bO r bT),c.vals.append (bO ev bT),aR⟩)) (n.up d.gg) k
  ·rw[xi]
   exact⟨c.nd,by simp,λx u y t ex=>s (by simp at t;rw[<- t,<- ex];exact u)⟩
  ·rcases qp.mp g with g|g
   ·exact c.ok z g
   ·rw[qi.mp g];exact l.ok
 ·refine .inr ⟨j,C,λf => ?_⟩
  exact q _ _ _ _ _ (d.trans (s2.rel.wrX (m := .dic hf ks (ds.set j dv)) hm ⟨as,vs.set j v,f,c.nd,c.len,c.ok,by rw[d4];exact c.dl,c.keys,c.vals.set ev j,aR⟩)) (n.up d.gg) k
end
end Z
namespace Z
open PySem L2
section
variable {K:qg}{z:Heap}
theorem aBO{ps:List Str}{c:Addr}{F:Ct}(Df:R.Df K mg x st ps f fd)(hc:fd.code = .ref c)(S:FnScope N ps (aK st))(len:∀ds M k,F ds M k->ds.length=ps.length)(h:∀A outer s H E,Room n (cxF P w K mg z N x st f (.ref c) A outer s H E).A->∀ds M k,F ds M k ->
   GS (cxF P w K mg z N x st f (.ref c) A outer s H E) (cU st) (ds.map some++ku (N.length-ds.length) none) M {nx:=λ_ M'=>k .non M',rt:=k}):FnOk P w K mg z CX0 (n+1) f fd ps (spZ K F):=by
 obtain⟨v,u,kV,doc,pm,an,i,y,t,rfl,p,b⟩:=Df.F.ex
 have e:i = .ref c:=hc
 subst e
 refine aEL p b S (λvs H Q E h => ?_) λA outer s H vs Q E m g => ?_
 ·obtain⟨G,M,ds,k,l,d,j,_⟩:=h
  rw[<- d.len];exact len _ _ _ j
 ·obtain⟨G,M,ds,k,l,d,j,q⟩:=g
  refine⟨_,lK.nox,?_⟩
  exact h A outer s H E m ds M k j (start N vs) G H _ (EnvR.start d N.length) l ⟨λσ' G' H' Γ' M' o r a=>q _ _ _ _ _ o mF a,q,λ_ _ _ _ _ _ _ a=>a.elim,λ_ _ _ _ _ _ _ a=>a.elim⟩
end
noncomputable def hf0:Str->Int:=λ_=>0
structure KeysOk(xs:List D):Prop where
 nd:xs.Nodup
 all:∀x∈xs,KeyOk xs x
theorem KeysOk.take{xs:List D}(h:KeysOk xs){x:D}(hi:xs[i]?=some x):KeyOk (xs.take i) x/\x∉xs.take i:=by
 have a:=h.all x hi.7
 refine⟨⟨a.tup,a.ok,λe b=>a.same e (fq b)⟩,λz => ?_⟩
 obtain⟨j,c⟩:=jd.mp z
 have hl:=(hi.5).1
 have d:=(c.5).1
 rw[jv] at d
 rw[y2 '!'] at c
 have:=(v9 '!' h.nd).mp (c.trans hi.symm)
 omega
end Z
namespace Z
open PySem L2
section
def vY(K:Fg)(n:Nat):V->List V->Hp->VK->Prop:=λx vs H Q=>∃(c d:D) (ds:List D) (v:V) (j:Nat),vs=[v]/\okD n c=true/\okDs n ds=true/\Den K H c v/\Den K H '8' x/\ds[j]?=some d/\eqD d c=true/\(∀m e,m<j->ds[m]?=some e->eqD e c=false)/\ds.length<=100000/\Q (.int (j:Int)) H
theorem zQ(hu:X.A.units+(n+1)<cLine):MtR X "list.index" (vY X.K n):=by
 intro pins s σ H x vs v us Q I M O h
 obtain⟨c,d,ds,u,j,rfl,o,g,E,D,k,he,z,hl,q⟩:=h
 obtain⟨w,rfl,B⟩:=vals1 O
 obtain⟨a,b,ws,rfl,it,rs,l⟩:=cG I D M
 obtain⟨⟨cls,N,data,P⟩,C,J,nn,hd⟩:=id it
 have r:cls = .type "list" := J
 have p:data = .seq b.toArray nn:=hd
 subst r p
 have le:ds.length=b.length:=by rw[l.len,rs.length]
 have G:j<ds.length:=(k.5).1
 refine QY nv ⟨_,C,rfl⟩ PySem.F.entry_list_index (PySem.F.args_list_index_2 _ _) (SeqAt.list_indexAt a b.toArray nn N P w (eOf ds b c) j (by simp;lia) '#' ?_ ?_) ⟨C,λy R => ?_,?_⟩
 ·have t:b[j]?=some (b[j]' '#'):=zGe '#'
  exact (eM I g l rs t k).trans he
 ·intro m hm f
  have t:b[m]?=some (b[m]' '#'):=zGe '#'
  have i:ds[m]?=some (ds[m]' '#'):=zGe '#'
  exact (eM I g l rs t i).trans (z m _ f i)
 ·obtain⟨j,k⟩:=we (show y∈b by simpa using R)
  have f:j<ws.length:=by rw[rs.length];exact (k.5).1
  obtain⟨S,i,r1⟩:=rs.get (zGe f)
  rw[k] at i;cases i
  obtain⟨e,i,L⟩:=l.get' (zGe f)
  rw[eM I g l rs k i]
  exact eqAt_D I e n c _ u y w X.A.in1 (bH g i) o L E r1 B (by show X.A.units+1+n<cLine;lia)
 ·exact⟨.int _,H,I.tok _,⟨_,rfl⟩,q⟩
theorem aBD{K:Fg}{c d:D}(okc:okD n c=true)(okd:okDs n ds=true)(hj:ds[j]?=some d)(he:eqD d c=true)(hno:∀m e,m<j->ds[m]?=some e->eqD e c=false)(hl:ds.length<=100000)(h:k (.int (j:Int)) M):OpM K (vY K n) '8' [c] M k:=λG H v vs Q a e f q=>by
 obtain⟨u,rfl,b⟩:=dens1 f
 exact⟨c,d,ds,u,j,rfl,okc,okd,b.up a.same,e.up a.same,hj,he,hno,hl,q _ _ _ _ _ a.10 cC h⟩
end
end Z
namespace Z
open PySem L2
theorem oV{M:Jp}{E:Value->Shared->Prop}{β:Type}{b:Nat}(f:Nat->β->Sem (ForInStep β))(I:Nat->β->Shared->Prop)(Q:β->Shared->Prop)(turn:∀i c s,i<b->I i c s->wpAny M A (f i c) (λr s'=>match r with|.yield c'=>I (i+1) c' s'|.done c'=>Q c' s') E s)(fin:∀c s,I b c s->Q c s)(c:β)(h:I 0 c s):wpAny M A (forIn [0:b] c f) Q E s:=by
 rw[vz]
 have e:([0:b]:br).size=b:=by simp[z7]
 show wpAny M A (forIn (qh 0 ([0:b]:br).size 1) c f) Q E s
 rw[e]
 refine wpAny_forIn_list f (λl c s=>∃i,i<=b/\l=qh i (b-i) 1/\I i c s) Q ?_ ?_ _ c ⟨0,kd _,rfl,h⟩
 ·rintro x rest c s ⟨i,j,hl,d⟩
  have g:i<b:=by
   rcases wj i b with a|a
   all_goals simp_all
  obtain⟨n,k⟩:∃n,b-i=n+1:=⟨b-i-1,by lia⟩
  rw[k,yr] at hl
  obtain⟨rfl,rfl⟩:=QR hl
  refine km (turn x c s g d) (λr s' a => ?_) λ_ _ h=>h
  cases r with
  |done c'=>exact a
  |yield c'=>exact⟨x+1,by lia,by congr 1;lia,a⟩
 ·rintro c s ⟨i,j,hl,d⟩
  have:i=b:=by
   grind
  subst this;exact fin _ _ d
theorem rJ(l:Addr)(items:Array Value)(n:Nat)(dd:Option Addr)(sl:Array (Option Value))(x:Value)(e:Value->Bool)(j:Nat)(hj:j<items.size)(hit:e items[j]=true)(hno:∀m (hm:m<items.size),m<j->e items[m]=false):
  Meets (Builtin.«tuple.index» ⟨[.ref l,x],[]⟩)
   (λA R s=>s.heap.get? l=some {cls := .type "tuple", dict:=dd,data := .seq items n,slots:=sl}/\(∀y,y∈items->nz A.in1 s y x (e y))/\R (.ok (.ret (.int j s.toks))) {s with toks:=s.toks+1}):=
 .of_wp λprog w A R s h=>by
  obtain⟨k,g,d,p,os⟩:=s;obtain⟨hl,he,h⟩:=h
  wp_walk using wpAny_loadPart' hl,oV _ (λi b c=>b.1=none/\c=⟨k,g,d,p,os⟩/\i<=j) _
  case turn =>
   rintro i b c t ⟨o,rfl,f⟩
   have a:i<items.size:=by lia
   rw[Array.getElem?_eq_getElem a]
   dsimp only
   refine qa (he _ (Array.getElem_mem a) prog w _ _ ?_)
   by_cases q:i=j
   ·subst q
    rw[hit]
    wp_walk
    exact⟨_,rfl,by simpa using h⟩
   ·rw[hno i a '#']
    wp_walk
    exact⟨rfl,rfl,by lia⟩
  case fin =>
   rintro⟨r,u⟩ c ⟨o,rfl,f⟩
   lia
  case h =>
   exact⟨rfl,rfl,kd _⟩
section
def xE(K:Fg)(n:Nat):V->List V->Hp->VK->Prop:=λx vs H Q=>∃(c d:D) (ds:List D) (v:V) (j:Nat),vs=[v]/\okD n c=true/\okDs n ds=true/\Den K H c v/\Den K H (.tup ds) x/\ds[j]?=some d/\eqD d c=true/\(∀m e,m<j->ds[m]?=some e->eqD e c=false)/\Q (.int (j:Int)) H
theorem qK(hu:X.A.units+(n+1)<cLine):MtR X "tuple.index" (xE X.K n):=by
 intro pins s σ H x vs v us Q I M O h
 obtain⟨c,d,ds,u,j,rfl,o,g,E,D,k,he,z,q⟩:=h
 obtain⟨w,rfl,B⟩:=vals1 O
 obtain⟨a,b,ws,rfl,it,rs,l⟩:=cJ I D M
 obtain⟨⟨cls,N,data,P⟩,C,J,nn,hd⟩:=id it
 have r:cls = .type "tuple" := J
 have p:data = .seq b.toArray nn:=hd
 subst r p
 have le:ds.length=b.length:=by rw[l.len,rs.length]
 have G:j<ds.length:=(k.5).1
 refine QY bu ⟨_,C,rfl⟩ PySem.F.entry_tuple_index (PySem.F.args_tuple_index_2 _ _) (rJ a b.toArray nn N P w (eOf ds b c) j (by simp;lia) ?_ ?_) ⟨C,λy R => ?_,?_⟩
 ·have t:b[j]?=some (b[j]' '#'):=zGe '#'
  exact (eM I g l rs t k).trans he
 ·intro m hm f
  have t:b[m]?=some (b[m]' '#'):=zGe '#'
  have i:ds[m]?=some (ds[m]' '#'):=zGe '#'
  exact (eM I g l rs t i).trans (z m _ f i)
 ·obtain⟨j,k⟩:=we (show y∈b by simpa using R)
  have f:j<ws.length:=by rw[rs.length];exact (k.5).1
  obtain⟨S,i,r1⟩:=rs.get (zGe f)
  rw[k] at i;cases i
  obtain⟨e,i,L⟩:=l.get' (zGe f)
  rw[eM I g l rs k i]
  exact eqAt_D I e n c _ u y w X.A.in1 (bH g i) o L E r1 B (by show X.A.units+1+n<cLine;lia)
 ·exact⟨.int _,H,I.tok _,⟨_,rfl⟩,q⟩
theorem qU{K:Fg}{c d:D}(okc:okD n c=true)(okd:okDs n ds=true)(hj:ds[j]?=some d)(he:eqD d c=true)(hno:∀m e,m<j->ds[m]?=some e->eqD e c=false)(h:k (.int (j:Int)) M):OpM K (xE K n) (.tup ds) [c] M k:=λG H v vs Q a e f q=>by
 obtain⟨u,rfl,b⟩:=dens1 f
 exact⟨c,d,ds,u,j,rfl,okc,okd,b.up a.same,e.up a.same,hj,he,hno,q _ _ _ _ _ a.10 cC h⟩
def tBMU(K:Fg)(r:V->List V->Hp->VK->Prop)(to:TE)(t:TA):TE:=λσ H Q=>to σ H λx H1=>(∃p xs,x = .ref p/\SqT K H1 p xs)/\t σ H1 λxs H2=>r x xs H2 Q
theorem aIH{to:TE}{t:TA}{id:String}(slot:Slot "tuple" name id)(hty:typeOf (.builtin id)=pure (.type "method_descriptor"))(hm:MtR X id r)(ho:PE X o to)(ha:PA X (e::es) t)(hbase:ff o name X.env (eval o X.env)=eval o X.env)(hfew:((yg cpos (starEach (e::es) X.env)).all (λx => !x.1)&&(cw cpos (yj [] X.env)).all (λx=>x.1.isSome)
   && decide '7')=true)(hline:(apos.endLine==cpos.line)=true)(hs:starEach (e::es) X.env=(false,eval e X.env)::starEach es X.env)(hplain:(yg cpos X.env.28).any (·.1)=false):
  PE X (.Call (.Attribute o name apos) (e::es) [] cpos) (tBMU X.K r to t):=by
 show '#'
 refine QW hbase hfew hline rfl (thn (ho pins s σ H _ I h) λv s1 ⟨x,H1,I1,r1,ty,c⟩ => ?_)
 obtain⟨p,xs,rfl,sq⟩:=ty
 cases (show v = .ref p from r1)
 obtain⟨b,_,pt,_⟩:=I1.tuple sq
 refine⟨"tuple", id,PySem.F.plainAttrs_tuple,slot,hty,pt.typeIs,λa e=>by cases e;exact I1.tupD sq,?_⟩
 have hA:=ha cpos pins s1 σ H1 _ I1 c
 rw[hs] at hA ⊢
 refine df (by show (false||(yg cpos X.env.28).any (·.1))=false;rw[hplain] <;> rfl) (fk ?_)
 exact thn hA λus s2 ⟨vs,H2,I2,r2,d⟩=>hm pins s2 σ H2 _ vs _ us Q I2 r1 r2 d
theorem aAA{id:String}(slot:Slot "tuple" name id)(hty:typeOf (.builtin id)=pure (.type "method_descriptor"))(hm:MtR X id r)(h:GE X o Γ M λd M1=>∃ds,d = .tup ds/\GA X (e::es) Γ M1 λes M2=>OpM X.K r (.tup ds) es M2 k)(hbase:ff o name X.env (eval o X.env)=eval o X.env:=by rfl)(hfew:((yg cpos (starEach (e::es) X.env)).all (λx => !x.1)&&(cw cpos (yj [] X.env)).all (λx=>x.1.isSome)
   && decide '7')=true:=by rfl)(hline:(apos.endLine==cpos.line)=true:=by rfl)(hs:starEach (e::es) X.env=(false,eval e X.env)::starEach es X.env:=by rfl)(hplain:(yg cpos X.env.28).any (·.1)=false:=by rfl):
  GE X (.Call (.Attribute o name apos) (e::es) [] cpos) Γ M k:=λσ G H Q c g q=>by
 refine bY (aIH slot hty hm pU pUA hbase hfew hline hs hplain) ?_
 refine h σ G H _ c g λv G1 H1 d M1 s1 b ⟨ds,i,f⟩ => ?_
 subst i
 obtain⟨a,vs,ev,sq,_⟩:=b.tup_
 refine⟨⟨a,vs,ev,R.bW s1.rel.same sq⟩,?_⟩
 exact f σ G1 H1 _ (c.up s1.gg) s1.rel λvs G2 H2 ds M2 s2 l j=>j G2 H2 v vs Q s2.rel (b.up s2.gg) l (q.up (s1.trans s2))
end
end Z
namespace SO
open PySem PyProof.Rows PySem.W
def Kp(h0 h:Heap):Prop:=∀b o,h0.get? b=some o->h.get? b=some o
structure MinH(prog:Program)(w:World)(A:Around)(h0:Heap)(l I S:Addr)(vs:List Value)(R:Nat->Nat->Bool):Prop where
 wk:Wk R
 lI:l≠I
 SI:S≠I
 nI:h0.get? I=none
 nS:h0.get? S=none
 ls:h0.IsList l vs.toArray
 cmp:∀i j u v (s':Shared) (Q:Value->Shared->Prop),Kp h0 s'.heap->vs[i]?=some u->vs[j]?=some v->Q (.bool (R i j)) s'->wpAny w.8 A.in1 (fc .Lt u v) Q (λ_ _=>False) s'
section
variable {E:Value->Shared->Prop}{l I S:Addr}{vs:List Value}{R:Nat->Nat->Bool}{h0:Heap}{Q:Value->Shared->Prop}{P:Result->Shared->Prop}
theorem aBW(hh:A.handled=none)(M:MinH prog w A h0 l I S vs R):
  ∀(r j i:Nat) (s:Shared) (vb:Value) (c:Nat),vs.length-(j+1)=r->j+1<=vs.length->Kp h0 s.heap->s.heap.IsListIter I l (j+1)->s.heap.get? S=some (seqObj "list" #[vb,vb] c)->vs[i]?=some vb->i<=j->(∀j',j'<=j->R j' i=false) ->
   (∀i v h' tk,vs[i]?=some v->(∀j,j<vs.length->R j i=false)->Kp h0 h'->P (.ok (.ret v)) {s with heap:=h',toks:=tk}) ->
   fb w.8 A (.builtin "min.loop" ⟨[.ref I, .none, .ref S],[]⟩) P s:=by
 have g:(toString "min" ++ toString ".loop" : String) = "min.loop" := by decide
 have W:=gu (prog:=prog) (w:=w) (A:=A.in1) hh I l M.lI vs.toArray
 have B:vs.toArray.size=vs.length:=qc ..
 have t:∀{h:Heap},Kp h0 h->h.IsList l vs.toArray:=λk=>by obtain⟨o,T,U⟩:=M.ls;exact⟨o,k _ _ T,U⟩
 have kI:∀{h h':Heap},Kp h0 h->(∀b o,b∉[I]->h.get? b=some o->h'.get? b=some o)->Kp h0 h':=λk G b o e=>G b o (λz=>by rw[qi.mp z,M.nI] at e;cases e) (k b o e)
 have kS:∀{h h':Heap},Kp h0 h->vx S h h'->Kp h0 h':=λk G b o e=>(G.2 b λz=>by rw[z,M.nS] at e;cases e).trans (k b o e)
 intro r
 induction r with
 |zero =>
  intro j i s vb c Q X q hit x m K a C
  have E:j+1=vs.length:=by omega
  refine zh wm ?_
  rw[xg je _]
  show wpAny _ A.in1 (dm (.ref S) >>= _) _ _ _
  refine qa (xo x rfl ?_)
  show '&'
  refine qa (wq (W.done _ _ _ ⟨by rw[B,<- E];exact hit,t q⟩ λh' u d => ?_))
  have f:=d S _ (by simp[M.SI]) x
  have s1:=q4 h' S (ji λ_=>(#[]:Array Value))
  show wpAny _ A.in1 (Q6 S (λ_ => #[]) >>= _) _ _ _
  refine qa ?_
  refine zg f rfl (qa (yi ?_.14))
  exact C i vb _ _ m (λj' y=>a j' '!') (kS (kI q d) s1)
 |succ r ih =>
  intro j i s vb c Q X q hit x m K a C
  have p:j+1<vs.length:=by omega
  refine zh wm ?_
  rw[xg je _]
  show wpAny _ A.in1 (dm (.ref S) >>= _) _ _ _
  refine qa (xo x rfl ?_)
  show '&'
  refine qa (wq (W.item (j+1) _ _ _ (by rw[B];exact p) ⟨hit,t q⟩ λv h' u V n d => ?_))
  have O:vs[j+1]?=some v:=by simpa using V
  have f:=d S _ (by simp[M.SI]) x
  have N:=kI q d
  show wpAny _ A.in1 (tryCatch (yz [v,v] (fc .Lt v vb >>= _)) _ >>= _) _ _ _
  refine qa (wq (ve (qa (km (M.cmp (j+1) i v vb _ (λb s2=>b = .bool (R (j+1) i)/\s2={s with heap:=h',toks:=u}) N O m ⟨rfl,rfl⟩) (λb s2 hb => ?_) λ_ _ hF=>hF.elim))))
  obtain⟨rfl,rfl⟩:=hb
  refine qa (ve (wpAny_truthy_bool ?_))
  refine qa (yi ?_.14)
  cases hb':R (j+1) i with
  |true =>
   have s1:=q4 h' S (ji λ_ => #[v,v])
   obtain⟨D,H⟩:∃D,(h'.update S (ji λ_ => #[v,v])).get? S=some (seqObj "list" #[v,v] D):=⟨_,wy f λ_ => #[v,v]⟩
   simp only[if_true]
   refine qa ?_
   refine zg f rfl (qa (yi ?_))
   rw[g]
   obtain⟨Z,Y,J,L⟩:=n.1
   refine wpAny_pure ⟨plainId_quiet je _,ih (j+1) (j+1) _ v D '!' p (kS N s1) ⟨Z,(s1.2 I M.SI.symm).trans Y,J,L⟩ H O (qo _) (λj' y => ?_) C⟩
   by_cases e:j'=j+1
   ·subst e
    cases hz:R (j+1) (j+1) with
    |false=>rfl
    |true=>exact hz.symm.trans (M.wk.asym _ _ hz)
   ·exact M.wk.ntr _ _ _ (a j' '!') (M.wk.asym _ _ hb')
  |false =>
   simp only[vw,if_false]
   refine qa (yi ?_)
   rw[g]
   refine wpAny_pure ⟨plainId_quiet je _,ih (j+1) i _ vb c '!' p N n.1 f m '!' (λj' y => ?_) C⟩
   by_cases e:j'=j+1
   ·subst e;exact hb'
   ·exact a j' '!'
theorem aA8(hh:A.handled=none)(hne:0<vs.length)(M:MinH prog w A s.heap l s.heap.objs.size '2' vs R)(hQ:∀i v h' tk,vs[i]?=some v->(∀j,j<vs.length->R j i=false)->Kp s.heap h'->Q v {s with heap:=h',toks:=tk}):
  wpAny w.8 A (call (.builtin "min") [.ref l]) Q E s:=by
 have d:(toString "min" ++ toString ".loop" : String) = "min.loop" := by decide
 refine JF Qx Ql Qm (PySem.F.args_min1 _) ?_
 show wpAny _ A.in1 (vh "min" ["key", "default"] 0 ⟨[],[]⟩ >>= _) _ _ s
 refine qa (sk (show vh "min" ["key", "default"] 0 ⟨[],[]⟩=pure [none,none] from rfl) ?_)
 refine qa ?_.14
 refine qa (nt M.ls ?_)
 refine qa (me ?_ (kd _))
 rw[d]
 have h:(s.heap.push {cls := .type "list_iterator", data := .fields #[.ref l, .int 0 0]}).objs.size=s.heap.objs.size+1:=size_push' ..
 rw[h]
 have t:((s.heap.push {cls := .type "list_iterator", data := .fields #[.ref l, .int 0 0]}).push (seqObj "list" #[] 0)).get? '2'=some (seqObj "list" #[] 0):=by rw[<- h];exact qq _ rfl
 have W:=gu (prog:=prog) (w:=w) (A:=A.in1) hh s.heap.objs.size l M.lI vs.toArray
 have p:vs.toArray.size=vs.length:=qc ..
 refine wpAny_pure ⟨plainId_quiet je _,?_⟩
 refine zh wm ?_
 rw[xg je _]
 show wpAny _ A.in1 (dm (.ref _) >>= _) _ _ _
 refine qa (xo t rfl ?_)
 show wpAny _ A.in1 (tryCatch (rq (.ref _)) _ >>= _) _ _ _
 refine qa (wq (W.item 0 _ _ _ (by rw[p];exact hne) ⟨⟨_,qf _ (qq _ rfl),rfl,rfl⟩,(M.ls.push _).push _⟩ λv h' y C k f => ?_))
 have u:vs[0]?=some v:=by simpa using C
 have g:=f _ _ '*' t
 have H:Kp s.heap h':=λb o e=>f b o (λz=>by rw[qi.mp z] at e;exact vm _ (qr e)) (qf _ (qf _ e))
 have s1:=q4 h' '2' (ji λ_ => #[v,v])
 obtain⟨m,n⟩:∃m,(h'.update (s.heap.objs.size+1) (ji λ_ => #[v,v])).get? '2'=some (seqObj "list" #[v,v] m):=⟨_,wy g λ_ => #[v,v]⟩
 show wpAny _ A.in1 (Q6 _ (λ_ => #[v,v]) >>= _) _ _ _
 refine qa ?_
 refine zg g rfl ?_
 rw[d]
 obtain⟨G,D,q,r⟩:=k.1
 refine wpAny_pure ⟨plainId_quiet je _,aBW hh M _ 0 0 _ v m rfl hne (λb o e=>(s1.2 b λz=>by rw[z,M.nS] at e;cases e).trans (H b o e)) ⟨G,(s1.2 _ M.SI.symm).trans D,q,r⟩ n u (qo _) (λx B => ?_) λi v h' tk a b c=>hQ i v h' tk a b c⟩
 have e:x=0:=by omega
 subst e
 cases hz:R 0 0 with
 |false=>rfl
 |true=>exact hz.symm.trans (M.wk.asym _ _ hz)
end
end SO
namespace L2
open PySem PySem.Spec PyProof.Rows PySem.W
section
def xM(K:qg):List V->Hp->VK->Prop:=λxs H Q=>∃(l:Addr) (us:List V) (ns:List Int.9),xs=[.ref l]/\SqL K H l us/\0<ns.length/\us.length=ns.length/\(∀i v,us[i]?=some v->jJ K H v (ns.getD i []))/\∀i v,us[i]?=some v->(∀j,j<ns.length->HT.lexLt (ns.getD j []) (ns.getD i [])=false)->Q v H
theorem aBE(hh:X.A.handled=none)(hu:X.A.in1.units<cLine):dB X (.builtin "min") (xM X.K):=by
 show '%'
 obtain⟨l,vs,ns,rfl,hl,S,hlen,z,q⟩:=h
 obtain⟨u,rfl,M⟩:=vals1 r
 cases M
 obtain⟨ws,m,⟨o,n,w,J,W,B⟩,Z⟩:=I.list hl
 have D:s.heap.IsList l ws.toArray:=⟨o,w,J,n,B⟩
 have C:l<s.heap.objs.size:=qr w
 have wl:=m.length
 have nw:∀n,s.heap.objs.size<=n->s.heap.get? n=none:=λn P=>by
  cases e:s.heap.get? n with
  |none=>rfl
  |some o=>exact absurd (qr e) (Ja.mpr P)
 have t:∀(i:Nat) (u:Value) (f:Heap),SO.Kp s.heap f->ws[i]?=some u->SO.aB9 f u (ns.getD i []):=λi u f k hu=>by
  have d:i<vs.length:=by rw[wl];exact (hu.5).1
  obtain⟨T,c,g⟩:=m.get (zGe d)
  rw[hu] at c
  cases c
  exact (z i _ (zGe d)).tupI (I.kept (t':=s.toks) k) g
 refine SO.aA8 (R:=λi j=>HT.lexLt (ns.getD i []) (ns.getD j [])) hh '!' ⟨SO.uD _,q3 C,y5 (wd _),nw _ (qo _),nw _ (zf _),D,λi j u v Y Q' k d y N => ?_⟩ λi v f L p V k => ?_
 ·obtain⟨a,F,rfl,E,U⟩:=t i u _ k d
  obtain⟨b,x,rfl,O,G⟩:=t j v _ k y
  exact HT.n9 E O U G hu N
 ·have d:i<vs.length:=by rw[wl];exact (p.5).1
  obtain⟨T,c,g⟩:=m.get (zGe d)
  rw[p] at c
  cases c
  exact⟨_,H,I.kept (t':=L) k,g,q i _ (zGe d) λj y=>V j '!'⟩
def aE5(K:qg):List V->Hp->VK->Prop:=λxs H Q=>∃(l:Addr) (ns:List Int),xs=[.ref l]/\SqT K H l (ns.map V.int)/\0<ns.length/\∀m,m∈ns->(∀a,a∈ns->m<=a)->Q (.int m) H
theorem zB(hh:X.A.handled=none):dB X (.builtin "min") (aE5 X.K):=by
 show '%'
 obtain⟨l,ns,rfl,B,J,q⟩:=h
 obtain⟨u,rfl,D⟩:=vals1 r
 cases D
 obtain⟨y,E,f,M⟩:=I.tuple B
 have p:=intsAre_of E
 obtain⟨c,e⟩:=p.allInts.items
 have d:ns=c.toList.map (·.1):=by rw[<- p.numsOf,<- nums_intItems,<- e]
 have g:0<c.size:=by
  have:ns.length=c.size:=by rw[d];simp
  omega
 rw[e] at f
 have n:l<s.heap.objs.size:=f.lt
 have ls:l≠s.heap.objs.size:=q3 n
 refine call_min_walk (wpAny_pyIter_tuple f ⟨_,[s.heap.objs.size,l],[s.heap.objs.size],_,_,_,_,rfl,JV (A:=X.A.in1) hh _ l ls (bo c),⟨⟨_,qq _ rfl,rfl,rfl⟩,f.push _⟩,λb k => ?_,by simpa[bo] using g,Jz (numAt c) (λ_ _=>Ju),λv N C F w => ?_⟩)
 ·show b<(s.heap.push _).objs.size
  rw[xc]
  rcases jb.mp k with e|k
  ·exact e▸wd _
  ·exact (qi.mp k)▸Je n
 ·obtain⟨t,rfl⟩:=Ju (show (bo c)[argBest (λi j=>decide (numAt c i<numAt c j)) (c.size-1)]?=some v by simpa[bo] using F)
  obtain⟨L,x⟩:=argBest_lt (numAt c) (c.size-1)
  refine⟨.int _,H,I.kept (t':=C) λb o e=>w b o (λz=>by rw[qi.mp z] at e;exact vm _ (qr e)) (qf _ e),⟨t,rfl⟩,q _ ?_ λa m => ?_⟩
  ·rw[d,numAt_eq];exact getD_mem (by rw[zLm,qt];omega)
  ·rw[d] at m
   obtain⟨j,G,rfl⟩:=mem_getD m
   rw[zLm,qt] at G
   rw[<- numAt_eq];exact x j '!'
end
end L2
namespace Z
open PySem L2
section
theorem aGG{K:Fg}{ns:List Int}(hne:0<ns.length)(h:∀m,m∈ns->(∀a,a∈ns->m<=a)->k (.int m) M):OpN K (aE5 K) [.tup (ns.map .int)] M k:=λG H vs Q b e q=>by
 obtain⟨v,rfl,c⟩:=dens1 e
 obtain⟨a,ws,rfl,s,f⟩:=Den.tup_ c
 rw[gG f] at s
 exact⟨a,ns,rfl,R.bW b.same s,hne,λm d g=>q _ _ _ _ _ b.10 cC (h m d g)⟩
theorem aFN{K:Fg}{ns:List Int.9}(hne:0<ns.length)(h:∀(i:Nat) (t:List Int),ns[i]?=some t->(∀j,j<ns.length->HT.lexLt (ns.getD j []) t=false)->k (tI t) M):OpN K (xM K) [.lst (ns.map tI)] M k:=λG H vs Q l e q=>by
 obtain⟨v,rfl,f⟩:=dens1 e
 obtain⟨a,ws,ev,s,m⟩:=f.lst_
 subst ev
 have hl:=m.len
 rw[zLm] at hl
 refine⟨a,ws,ns,rfl,SqL.of (l.same _ _ s),hne,hl.symm,λi v g => ?_,λi v g w => ?_⟩
 ·have c:i<ns.length:=by rw[hl];exact (g.5).1
  obtain⟨r,b,f⟩:=m.get (i:=i) (d:=tI ns[i]) (by simp[c])
  rw[g] at b
  cases b
  obtain⟨u,x,rfl,o,n⟩:=Den.tup_ (ds:=(ns[i]).map .int) f
  rw[gG n] at o
  rw[show ns.getD i []=ns[i] by simp[c]]
  exact⟨u,rfl,R.bW l.same o⟩
 ·have c:i<ns.length:=by rw[hl];exact (g.5).1
  obtain⟨r,b,f⟩:=m.get (i:=i) (d:=tI ns[i]) (by simp[c])
  rw[g] at b
  cases b
  exact q _ _ _ _ _ l.10 f (h i _ (zGe c) λj p=>by have:=w j p;rwa [show ns.getD i []=ns[i] by simp[c]] at this)
end
end Z
namespace Q
open PySem L2 Z
noncomputable def ptP(ps qs:List '%')(i j:Nat):D := .tup [pairD (ps.getD i (0,0)),pairD (qs.getD j (0,0))]
noncomputable def sdP(ps qs:List '%')(q:R.Qd):D := .tup [.int (q.f:Int),pairD ((lnP q.f ps qs).getD q.p (0,0)),pairD ((alP q.f ps qs).getD q.b (0,0)),pairD ((alP q.f ps qs).getD q.e (0,0))]
noncomputable def kyP(ps qs:List '%')(f i j:Nat):D := .tup [.int (f:Int),ptP ps qs i j]
noncomputable def bgP(ps qs:List '%')(q:R.Qd):D:=kyP ps qs q.f q.x0 q.y0
noncomputable def p0(ps qs:List '%')(q:R.Qd):D:=ptP ps qs q.x0 q.y0
abbrev Sx(ps qs:List '%')(zs:List Str):List R.Qd:=R.qsN zs ps.length qs.length 4
abbrev Nxt(ps qs:List '%')(zs:List Str):R.Qd->R.Qd->Prop:=R.Nx zs ps.length qs.length
structure Rm(ps qs:List '%')(zs:List Str):Prop where
 wf:R.Wf ps.length qs.length zs
 lx:ps.length<=12
 ly:qs.length<=12
 dx:ps.Nodup
 dy:qs.Nodup
instance decQd:DecidableEq R.Qd:=λa b=>if h:a.f=b.f/\a.p=b.p/\a.b=b.b/\a.e=b.e then isTrue (by cases a;cases b;simp_all) else isFalse (by rintro rfl;simp at h)
theorem l6(p q:Int×Int):eqD (pairD p) (pairD q)=decide (p=q):=by
 show (p.1==q.1&&(p.2==q.2&&true))=_
 obtain⟨a,b⟩:=p
 obtain⟨c,d⟩:=q
 by_cases h:a=c <;> by_cases g:b=d <;> simp[h,g]
theorem getD_at{l:List '%'}(h:i<l.length):l[i]?=some (l.getD i (0,0)):=by simp[h]
theorem getD_inj{l:List '%'}(nd:l.Nodup)(hi:i<l.length)(hj:j<l.length)(h:l.getD i (0,0)=l.getD j (0,0)):i=j:=by
 refine (v9 hi nd).mp ?_
 rw[getD_at hi,getD_at hj,h]
theorem nZ{l:List '%'}(nd:l.Nodup)(hi:i<l.length)(hj:j<l.length):decide (l.getD i (0,0)=l.getD j (0,0))=decide (i=j):=by
 by_cases h:i=j
 ·subst h;simp
 ·rw[decide_eq_false h,decide_eq_false λz=>h (getD_inj nd hi hj z)]
theorem qT{p q:Int×Int}(h:pairD p=pairD q):p=q:=by
 unfold pairD at h
 simp only[D.tup.injEq,yt,D.int.injEq,and_true] at h
 exact Prod.ext h.1 h.2
section
variable {ps:List (Int×Int)}(rm:Rm ps qs zs)
include rm
theorem Rm.rng(h:q∈Sx ps qs zs):q.f<4/\q.x0<ps.length/\q.y0<qs.length/\q.x1<ps.length/\q.y1<qs.length:=by
 obtain⟨c,b,d,a,_⟩:=R.gE h
 refine⟨c,?_⟩
 unfold R.Qd.x0 R.Qd.y0 R.Qd.x1 R.Qd.y1
 unfold R.Lf at b
 unfold R.Nf at a
 rcases R.four c with e|e|e|e <;> simp only[e] at b a ⊢ <;> simp at b a ⊢ <;> omega
theorem Rm.pt{i' j':Nat}(a:i<ps.length)(b:j<qs.length)(c:i'<ps.length)(d:j'<qs.length):ptP ps qs i j=ptP ps qs i' j'↔i=i'/\j=j':=by
 constructor
 ·intro h
  unfold ptP at h
  simp only[D.tup.injEq,yt,and_true] at h
  exact⟨getD_inj rm.dx a c (qT h.1),getD_inj rm.dy b d (qT h.2)⟩
 ·rintro⟨rfl,rfl⟩;rfl
theorem Rm.eqpt{i' j':Nat}(a:i<ps.length)(b:j<qs.length)(c:i'<ps.length)(d:j'<qs.length):eqD (ptP ps qs i j) (ptP ps qs i' j')=decide (i=i'/\j=j'):=by
 show (eqD (pairD _) (pairD _)&&(eqD (pairD _) (pairD _)&&true))=_
 rw[l6,l6,xt,<- Bool.decide_and]
 exact decide_eq_decide.mpr ⟨λh=>⟨getD_inj rm.dx a c h.1,getD_inj rm.dy b d h.2⟩,λh=>by rw[h.1,h.2];exact⟨rfl,rfl⟩⟩
theorem Rm.few:(zs.20).length<=244:=R.aA5 rm.wf rm.lx rm.ly
theorem Rm.own(h:q∈Sx ps qs zs):q.p<(lnP q.f ps qs).length/\q.b<(alP q.f ps qs).length/\q.e<(alP q.f ps qs).length:=by
 obtain⟨d,a,g,c,_⟩:=R.gE h
 unfold lnP alP
 unfold R.Lf at a
 unfold R.Nf at c
 split at a <;> simp_all <;> omega
theorem Rm.eqsd{r:R.Qd}(h:q∈Sx ps qs zs)(g:r∈Sx ps qs zs):eqD (sdP ps qs q) (sdP ps qs r)=decide (q=r):=by
 show ((q.f:Int)==(r.f:Int)&&(eqD (pairD _) (pairD _)&&(eqD (pairD _) (pairD _)&&(eqD (pairD _) (pairD _)&&true))))=_
 rw[l6,l6,l6]
 obtain⟨a1,a2,m⟩:=rm.own h
 obtain⟨d,s,i⟩:=rm.own g
 obtain⟨f,p,b,e⟩:=q
 obtain⟨a,l,o,j⟩:=r
 dsimp only at *
 by_cases hf:f=a
 ·subst hf
  have nl:(lnP f ps qs).Nodup:=by unfold lnP;split;(· exact rm.dx);(· exact rm.dy)
  have na:(alP f ps qs).Nodup:=by unfold alP;split;(· exact rm.dy);(· exact rm.dx)
  rw[nZ nl a1 d,nZ na a2 s,nZ na m i]
  by_cases c:p=l <;> by_cases n:b=o <;> by_cases k:e=j <;> simp[c,n,k]
 ·have:((f:Int)==(a:Int))=false:=by simp;omega
  rw[this]
  simp[hf]
theorem Rm.sds:dJ zs pairD.19 (qs.map pairD) 4=(zs.20).map (sdP ps qs):=by
 rw[aDN,zLm,zLm]
 refine zw λq a => ?_
 obtain⟨a1,a2,h⟩:=rm.own a
 obtain⟨j,i,g,f,_⟩:=R.gE a
 obtain⟨l,u,v,c,d,b,e⟩:=aC0 (ps:=ps) (qs:=qs) (q:=q) (by rw[zLm,zLm];exact i) g (by rw[zLm,zLm];exact f)
 rw[e]
 unfold sdP
 rw[getD_at a1] at c
 rw[getD_at a2] at d
 rw[getD_at h] at b
 cases c;cases d;cases b
 rfl
theorem Rm.sd_inj{r:R.Qd}(h:q∈Sx ps qs zs)(g:r∈Sx ps qs zs)(e:sdP ps qs q=sdP ps qs r):q=r:=by
 have:=rm.eqsd h g
 rw[e,eqD_refl 2 _ rfl] at this
 exact of_decide_eq_true this.symm
end
theorem aBZ(ps qs:List '%')(f i j:Nat){ks:List D}(h:∀k∈ks,∃f i j,k=kyP ps qs f i j):KeyOk ks (kyP ps qs f i j):=⟨⟨_,rfl⟩,rfl,λk hk=>by obtain⟨_,_,_,rfl⟩:=h k hk;rfl⟩
theorem aA1(ps qs:List '%')(q:R.Qd){ks:List D}(h:∀k∈ks,∃q,k=sdP ps qs q):KeyOk ks (sdP ps qs q):=⟨⟨_,rfl⟩,rfl,λk hk=>by obtain⟨_,rfl⟩:=h k hk;rfl⟩
section
variable {ps:List (Int×Int)}(rm:Rm ps qs zs)
include rm
theorem Rm.keys:KeysOk ((zs.20).map (bgP ps qs)):=by
 refine⟨?_,λx f => ?_⟩
 ·unfold pj
  rw[zd]
  refine wx (λ{a b} c d ne e=>ne ?_) (R.aEX rm.wf)
  unfold bgP kyP at e
  simp only[D.tup.injEq,yt,D.int.injEq,and_true,fj] at e
  obtain⟨_,a1,a2,_⟩:=rm.rng c
  obtain⟨_,i,l,_⟩:=rm.rng d
  obtain⟨h,j⟩:=(rm.pt a1 a2 i l).mp e.2
  exact R.jV rm.wf c d e.1 h j
 ·obtain⟨q,_,rfl⟩:=q0.mp f
  exact aBZ ps qs _ _ _ λk g=>by obtain⟨r,_,rfl⟩:=q0.mp g;exact⟨_,_,_,rfl⟩
theorem Rm.key_mem{f:Nat}(hf:f<4)(hi:i<ps.length)(hj:j<qs.length):decide (kyP ps qs f i j∈(zs.20).map (bgP ps qs))=R.eB zs f i j:=by
 cases h:R.eB zs f i j with
 |true =>
  obtain⟨q,a,rfl,rfl,rfl⟩:=R.sU rm.wf hf h
  exact decide_eq_true (q0.mpr ⟨q,a,rfl⟩)
 |false =>
  refine decide_eq_false λz => ?_
  obtain⟨q,a,e⟩:=q0.mp z
  unfold bgP kyP at e
  simp only[D.tup.injEq,yt,D.int.injEq,and_true,fj] at e
  obtain⟨_,a1,a2,_⟩:=rm.rng a
  obtain⟨b,c⟩:=(rm.pt a1 a2 hi hj).mp e.2
  have:=R.oJ rm.wf a
  rw[e.1,b,c,h] at this
  cases this
end
def cBE:Ct:=λds M k=>∃(ps qs:List '%') (q:R.Qd),ds=[sdP ps qs q]/\q.f<4/\k (.tup [ptP ps qs q.x0 q.y0,ptP ps qs q.x1 q.y1]) M
def aKI:Ct:=λds M k=>∃(ps qs:List '%') (S:List R.Qd),ds=[.lst (S.map (sdP ps qs))]/\(∀q∈S,q.f<4)/\KeysOk (S.map (bgP ps qs))/\S.length<=1000/\∀a,M a=none->k (.mt a) (aL M a (.dic hf0 (S.map (bgP ps qs)) (S.map (sdP ps qs))))
def BgS(ps qs:List '%')(zs:List Str)(M:Mem)(a:Addr):Prop:=M a=some '9'
def cNxt:Ct:=λds M k=>∃(ps qs:List '%') (zs:List Str) (q r:R.Qd) (a:Addr),ds=[sdP ps qs q, .mt a]/\Rm ps qs zs/\q∈Sx ps qs zs/\Nxt ps qs zs q r/\BgS ps qs zs M a/\k (sdP ps qs r) M
def aLK:Ct:=λds M k=>∃(ps qs:List '%') (zs:List Str) (q:R.Qd) (a:Addr),ds=[sdP ps qs q, .mt a]/\Rm ps qs zs/\q∈Sx ps qs zs/\BgS ps qs zs M a/\∀l b,R.Rng zs.20 (Nxt ps qs zs) q l->M b=none->k (.mt b) (aL M b (.lst (sdP ps qs).13))
def aC6:Ct:=λds M k=>∃(ps qs:List '%') (zs:List Str) (i j:Nat),ds=[bL pairD.19 (qs.map pairD) zs,ptP ps qs i j]/\Rm ps qs zs/\i<ps.length/\j<qs.length/\k (tI [(i:Int),(j:Int)]) M
def aJW(Pt:Addr)(pos:Pos)(ql:Str):Ct:=λds M k=>∃(ps qs:List '%') (zs:List Str) (l:List R.Qd),ds=[bL pairD.19 (qs.map pairD) zs, .lst (p0 ps qs).13]/\Rm ps qs zs/\l≠[]/\l.length<=244/\(∀q∈l,q∈Sx ps qs zs)/\bJ Pt pos ql M /\
 ∀u b v M' a,l=u++b::v->(∀r∈l,R.PLe b r)->bJ Pt pos ql M'->(∀x o,x≠Pt->M x=some o->M' x=some o)->M' a=none->k (.mt a) (aL M' a (.lst ((b::v++u).map (p0 ps qs))))
structure RimsOk(ps qs:List '%')(zs:List Str)(ls:List R.Qd.9):Prop where
 rg:∀l∈ls,∃a,R.Rng zs.20 (Nxt ps qs zs) a l/\∀r∈l,R.PLe a r
 nd:ls.flatten.Nodup
 all:∀q∈Sx ps qs zs,q∈ls.flatten
 up:ls.Pairwise λl m=>∀a b,l.head?=some a->m.head?=some b->R.PLt a b
def iB(ps qs:List '%')(M:Mem)(as:List Addr)(ls:List R.Qd.9):Prop:=as.length=ls.length/\as.Nodup/\∀(i:Nat) (a:Addr) (l:List R.Qd),as[i]?=some a->ls[i]?=some l->M a=some (.lst (p0 ps qs).13)
def aK9(P1 P2:Addr)(o1 o2:Pos)(q1 q2:Str):Ct:=λds M k=>∃(ps qs:List '%') (zs:List Str),ds=[bL pairD.19 (qs.map pairD) zs]/\Rm ps qs zs/\bJ P1 o1 q1 M/\bJ P2 o2 q2 M /\
 ∀(ls:List R.Qd.9) (as:List Addr) M' a,RimsOk ps qs zs ls->iB ps qs M' as ls->(∀x∈as,M x=none)->bJ P1 o1 q1 M'->bJ P2 o2 q2 M'->(∀x o,x≠P1->x≠P2->M x=some o->M' x=some o)->M' a=none->k (.mt a) (aL M' a (.lst (as.map .mt)))
end Q
namespace Q
open PySem L2 Z
theorem boot_min:sB "min" := ⟨BMin,by decide,by decide⟩
theorem room9{k:Nat}(hr:Room k A):A.units+9<cLine:=by have:=hr.un;omega
theorem aKW{α:Type}(l:List α)(n:Nat)(h:n<=l.length):cutD l none (n:Int).3=l.take n:=by
 unfold cutD
 rw[show HT.sIx l.length 0 none=0 from rfl,show HT.sIx l.length l.length (n:Int).3=min n l.length from HT.mC _ _ n,fi h,n4,Ko]
theorem aFC{α:Type}(l:List α)(n:Nat)(h:n<=l.length):cutD l (n:Int).3 none=l.drop n:=by
 unfold cutD
 rw[HT.aDZ,show HT.sIx l.length 0 (n:Int).3=min n l.length from HT.mC _ _ n,fi h]
 exact tj (by rw[wz];exact qo _)
theorem vA{a b c:Str}(hab:a≠b)(y:Str)(h:cx y [(a,NameKind.local),(b,jr),(c,ng)]=some .free):y∈[b]:=by
 grind
theorem aE4{a b c:Str}(y:Str)(h:(y,jr)∈[(a,NameKind.local),(b,jr),(c,ng)]):y∈[b]:=by
 grind
section
variable {pos:Pos}{ql:Str}
theorem l7(h:bJ Pt pos ql M):∃o,M Pt=some (.ob o):=by
 rcases h with h|⟨_,_,_,h,_⟩
 ·exact⟨_,h⟩
 ·exact⟨_,h⟩
theorem nG(h:bJ Pt pos ql M)(k:∀a o,M a=some (.ob o)->M' a=some (.ob o)):bJ Pt pos ql M':=by
 rcases h with h|⟨c,d,ne,b,f,e⟩
 ·exact .inl (k _ _ h)
 ·exact .inr ⟨c,d,ne,k _ _ b,k _ _ f,e⟩
theorem eG{m:MO}(h:bJ Pt pos ql M)(n:∀o,M a≠some (.ob o)):bJ Pt pos ql (aL M a m):=nG h λb o e=>by rw[aF λz=>n o (by rw[<- z];exact e)];exact e
theorem aC7(h:bJ Pt pos ql M)(n:∀o,M a≠some (.ob o)):bJ Pt pos ql (dZ M a):=nG h λb o e=>by rw[dD λz=>n o (by rw[<- z];exact e)];exact e
theorem aBG(h:bJ P2 o2 q2 M)(g:bJ Pt pos ql M)(ne:P2≠Pt)(k:∀x o,x≠Pt->M x=some o->M' x=some o):bJ P2 o2 q2 M':=by
 rcases h with h|⟨c,d,ne',b,a,e⟩
 ·exact .inl (k _ _ ne h)
 ·refine .inr ⟨c,d,ne',k _ _ ne b,k _ _ (λz => ?_) a,e⟩
  subst z
  rcases g with g|⟨_,_,_,g,_⟩ <;> rw[a] at g <;> cases g
end
theorem tJ{ps:List '%'}(rm:Rm ps qs zs)(hk:∀r∈kl,r∈Sx ps qs zs)(hq:q∈Sx ps qs zs):sdP ps qs q∈kl.map (sdP ps qs)↔q∈kl:=by
 constructor
 ·intro h
  obtain⟨r,a,e⟩:=q0.mp h
  rw[<- rm.sd_inj (hk r a) hq e];exact a
 ·exact λh=>q0.mpr ⟨q,h,rfl⟩
structure RmI(ps qs:List '%')(zs:List Str)(P1 P2:Addr)(o1 o2:Pos)(q1 q2:Str)(M:Mem)(ab ap ar:Addr)(i:Nat)(ls:List R.Qd.9)(as:List Addr)(kl:List R.Qd)(M':Mem):Prop where
 n1:ab≠ap
 np:M ap=none
 nr:M ar=none
 bg:BgS ps qs zs M' ab
 pa:M' ap=some (.dic hf0 (kl.map (sdP ps qs)) (kl.map λ_ => .bl true))
 rs:M' ar=some (.lst (as.map .mt))
 at_:iB ps qs M' as ls
 fr:∀x∈as,M x=none/\x≠ab/\x≠ap/\x≠ar
 l1:bJ P1 o1 q1 M'
 l2:bJ P2 o2 q2 M'
 kp:∀x o,x≠P1->M x=some o->M' x=some o
 rg:∀l∈ls,∃a,R.Rng zs.20 (Nxt ps qs zs) a l/\∀r∈l,R.PLe a r
 pm:kl.Perm ls.flatten
 nd:ls.flatten.Nodup
 dn:∀(j:Nat) (q:R.Qd),j<i->(zs.20)[j]?=some q->q∈kl
section
variable {ps:List (Int×Int)}{ar:Addr}{as:List Addr}
theorem RmI.sub(h:RmI ps qs zs P1 P2 o1 o2 q1 q2 M ab ap ar i ls as kl M'):∀q∈kl,q∈Sx ps qs zs:=λq c=>by
 obtain⟨l,hl,b⟩:=zl.mp (h.pm.mem_iff.mp c)
 obtain⟨a,w,_⟩:=h.rg l hl
 exact w.mem q b
theorem RmI.len(rm:Rm ps qs zs)(h:RmI ps qs zs P1 P2 o1 o2 q1 q2 M ab ap ar i ls as kl M'):kl.length<=244/\ls.length<64:=by
 have c:kl.Nodup:=h.pm.nodup_iff.mpr h.nd
 have d:=R.hV kl zs.20 c h.sub
 have:=rm.few
 refine⟨by omega,?_⟩
 have four:∀ls:List R.Qd.9,(∀l∈ls,4<=l.length)->4*ls.length<=ls.flatten.length:=λls=>by
  induction ls with
  |nil=>intro _;simp
  |cons l ls ih =>
   intro hl
   have a:=hl l (.head _)
   have b:=ih λm hm=>hl m (.tail _ hm)
   rw[vo,qe,qy]
   omega
 have a:=four ls λl hl=>by obtain⟨a,w,_⟩:=h.rg l hl;exact R.lR rm.wf w
 have b:=h.pm.length_eq
 omega
theorem RmI.skip(h:RmI ps qs zs P1 P2 o1 o2 q1 q2 M ab ap ar i ls as kl M')(hq:(zs.20)[i]?=some q)(c:q∈kl):RmI ps qs zs P1 P2 o1 o2 q1 q2 M ab ap ar (i+1) ls as kl M':=by
 refine {h with dn:=λj r b a => ?_}
 by_cases e:j=i
 ·subst e;rw[hq] at a;cases a;exact c
 ·exact h.dn j r '!' a
theorem RmI.more(rm:Rm ps qs zs)(h:RmI ps qs zs P1 P2 o1 o2 q1 q2 M ab ap ar i ls as kl M')(c:q∉kl)(w:R.Rng zs.20 (Nxt ps qs zs) q l):(ls.flatten++l).Nodup/\(kl++l).Nodup:=by
 have r:=R.Rgs.add (N:=Nxt ps qs zs) (λ_ _ _=>R.aJV rm.wf) ⟨λl hl=>by obtain⟨a,w,_⟩:=h.rg l hl;exact⟨a,w⟩,h.nd⟩ w λz=>c (h.pm.mem_iff.mpr z)
 have:=r.nd
 rw[xx,yb] at this
 exact⟨this,(h.pm.append_right l).nodup_iff.mpr this⟩
theorem RmI.add(rm:Rm ps qs zs)(h:RmI ps qs zs P1 P2 o1 o2 q1 q2 M ab ap ar i ls as kl M')(hP:P2≠P1)(hq:(zs.20)[i]?=some q)(c:q∉kl){u v:List R.Qd}{b:R.Qd}(w:R.Rng zs.20 (Nxt ps qs zs) q l)(hu:l=u++b::v)(hb:∀r∈l,R.PLe b r){M3:Mem}(l3:bJ P1 o1 q1 M3)(k3:∀x o,x≠P1->aL M' ap (.dic hf0 ((kl++l).map (sdP ps qs)) ((kl++l).map λ_ => .bl true)) x=some o->M3 x=some o)(ha:M3 a=none):
  RmI ps qs zs P1 P2 o1 o2 q1 q2 M ab ap ar (i+1) (ls++[b::v++u]) (as++[a]) (kl++l) (aL (aL M3 a (.lst ((b::v++u).map (p0 ps qs)))) ar (.lst ((as++[a]).map .mt))):=by
 obtain⟨I,U⟩:=h.more rm c w
 obtain⟨Z,g⟩:=l7 h.l1
 obtain⟨Y,H⟩:=l7 l3
 have pap:ap≠P1:=λz=>by have:=h.pa;rw[z,g] at this;cases this
 have L:ab≠P1:=λz=>by have:=h.bg;unfold BgS at this;rw[z,g] at this;cases this
 have par:ar≠P1:=λz=>by have:=h.rs;rw[z,g] at this;cases this
 have N:ab≠ar:=λz=>by have:=h.bg;unfold BgS at this;rw[z,h.rs] at this;cases this
 have P:ap≠ar:=λz=>by have:=h.pa;rw[z,h.rs] at this;cases this
 have S:M3 ab=_:=k3 ab _ L ((aF h.n1).trans h.bg)
 have K:M3 ap=_:=k3 ap _ pap aD
 have r3:M3 ar=_:=k3 ar _ par ((aF (vi P)).trans h.rs)
 have E:a≠P1:=λz=>by rw[z,H] at ha;cases ha
 have B:a≠ab:=λz=>by rw[z,S] at ha;cases ha
 have C:a≠ap:=λz=>by rw[z,K] at ha;cases ha
 have n:a≠ar:=λz=>by rw[z,r3] at ha;cases ha
 have new:∀x,M3 x=none->x≠P1->M' x=none:=λx d F=>by
  cases e:M' x with
  |none=>rfl
  |some o =>
   by_cases z:x=ap
   ·rw[z,K] at d;cases d
   ·rw[k3 x o F ((aF z).trans e)] at d;cases d
 have newM:M a=none:=by
  cases e:M a with
  |none=>rfl
  |some o=>have:=new a ha E;rw[h.kp a o E e] at this;cases this
 have p:∀x o,M' x=some o->x≠ap->x≠P1->M3 x=some o:=λx o e n1 N=>k3 x o N ((aF n1).trans e)
 obtain⟨Q,X,O⟩:=h.at_
 have k:(b::v++u).Perm l:=by rw[hu];exact d5
 have D:bJ P2 o2 q2 (aL M' ap (.dic hf0 ((kl++l).map (sdP ps qs)) ((kl++l).map λ_ => .bl true))):=eG h.l2 λo z=>by rw[h.pa] at z;cases z
 have t:bJ P1 o1 q1 (aL M' ap (.dic hf0 ((kl++l).map (sdP ps qs)) ((kl++l).map λ_ => .bl true))):=eG h.l1 λo z=>by rw[h.pa] at z;cases z
 have nb:∀o:HO,aL M3 a (.lst ((b::v++u).map (p0 ps qs))) ar≠some (.ob o):=λo z=>by rw[aF (vi n),r3] at z;cases z
 refine⟨h.n1,h.np,h.nr,?_,?_,aD,⟨by simp[Q],?_,λj x m d hm => ?_⟩,λx d => ?_,eG (eG l3 λo z=>by rw[ha] at z;cases z) nb,eG (eG (aBG D t hP k3) λo z=>by rw[ha] at z;cases z) nb,λx o F e => ?_,λm hm => ?_,?_,?_,λj r A s => ?_⟩
 ·show _=_
  rw[aF N,aF (vi B)]
  exact S
 ·rw[aF P,aF (vi C)]
  exact K
 ·rw[xi]
  refine⟨X,by simp,λx d y T e => ?_⟩
  rw[qi] at T
  subst T;subst e
  obtain⟨j,A⟩:=jd.mp d
  have jl:=(A.5).1
  have e:=O j _ _ A (zGe '!')
  have:=new _ ha E
  rw[e] at this;cases this
 ·by_cases A:j<as.length
  ·rw[qn A] at d
   rw[qn '!'] at hm
   have f:=h.fr x d.7
   have e:=O j x m d hm
   have J:x≠a:=λz=>by have:=new _ ha E;rw[<- z,e] at this;cases this
   rw[aF f.2.2.2,aF J]
   exact p _ _ e f.2.2.1 λz=>by rw[z,g] at e;cases e
  ·have W:j=as.length:=by
    have:=(d.5).1
    rw[qe,vp] at this
    omega
   subst W
   rw[qj (qo _),xr] at d
   rw[Q,qj (qo _),xr] at hm
   cases d;cases hm
   rw[aF n,aD]
 ·rcases qp.mp d with d|d
  ·exact h.fr x d
  ·rw[qi] at d;subst d
   exact⟨newM,B,C,n⟩
 ·have G:x≠ar:=λz=>by rw[z,h.nr] at e;cases e
  have J:x≠a:=λz=>by rw[z,newM] at e;cases e
  have V:x≠ap:=λz=>by rw[z,h.np] at e;cases e
  rw[aF G,aF J]
  exact p _ _ (h.kp x o F e) V F
 ·rcases qp.mp hm with hm|hm
  ·exact h.rg m hm
  ·rw[qi] at hm;subst hm
   exact⟨b,(hu▸w).rot,λr s=>hb r (k.mem_iff.mp s)⟩
 ·rw[xx,yb]
  exact h.pm.append k.symm
 ·rw[xx,yb]
  exact (k.append_left _).nodup_iff.mpr I
 ·by_cases e:j=i
  ·subst e;rw[hq] at s;cases s
   exact qb _ w.at0.7
  ·exact q7 _ (h.dn j r '!' s)
end
noncomputable def hdK(l:List R.Qd):List Int:=[((l.headD ⟨0,0,0,0⟩).x0:Int),((l.headD ⟨0,0,0,0⟩).y0:Int)]
theorem jS{a b c d:Int}:HT.lexLt [a,b] [c,d]=true↔a<c\/a=c/\b<d:=by
 simp only[HT.lexLt]
 by_cases h:a=c
 ·subst h
  by_cases g:b=d
  ·subst g;simp[HT.lexLt]
  ·simp[g,HT.lexLt]
 ·simp[h]
section
variable {ps:List (Int×Int)}{ar:Addr}{as:List Addr}
theorem RmI.ok(rm:Rm ps qs zs)(h:RmI ps qs zs P1 P2 o1 o2 q1 q2 M ab ap ar i ls as kl M')(hi:i=(zs.20).length){js:List Nat}(bk:oP (ls.map hdK) js){M2:Mem}(k:∀x∈as,M2 x=M' x):
  RimsOk ps qs zs (js.map λj=>ls.getD j [])/\iB ps qs M2 (js.map λj=>as.getD j 0) (js.map λj=>ls.getD j []):=by
 obtain⟨I,s,J⟩:=bk
 rw[zLm] at I s
 have F:=SO.aFK J
 have pr:=SO.oF ls.length js F (λx V=>s x V) I
 have C:(js.map λj=>ls.getD j []).Perm ls:=by
  have:=pr.map λj=>ls.getD j []
  rwa [SO.map_range] at this
 have gl:∀j∈js,ls[j]?=some (ls.getD j []):=λj d=>by simp[s j d]
 have rng:∀l∈ls,∃b v,l=b::v/\R.Rng zs.20 (Nxt ps qs zs) b l/\∀r∈l,R.PLe b r:=λl hl=>by
  obtain⟨a,w,g⟩:=h.rg l hl
  cases l with
  |nil=>cases w.hd
  |cons b v=>have:b=a:=jc w.hd;subst this;exact⟨b,v,rfl,w,g⟩
 refine⟨⟨λl hl => ?_,?_,λq O => ?_,?_⟩,?_⟩
 ·obtain⟨b,v,_,w,g⟩:=rng l (C.mem_iff.mp hl)
  exact⟨b,w,g⟩
 ·exact (C.flatten).nodup_iff.mpr h.nd
 ·refine (C.flatten).mem_iff.mpr (h.pm.mem_iff.mp ?_)
  obtain⟨j,d⟩:=jd.mp O
  exact h.dn j q (by rw[hi];exact (d.5).1) d
 ·rw[zd]
  refine wx (λ{i j} f d t => ?_) (J.and F)
  obtain⟨t,ne⟩:=t
  intro a c n y
  obtain⟨b,v,e,w,g⟩:=rng _ (gl i f).7
  obtain⟨m,p,u,Q,S⟩:=rng _ (gl j d).7
  have H:(ls.map hdK).getD i []=[(b.x0:Int),(b.y0:Int)]:=by rw[zGd,qm,gl i f,e];rfl
  have G:(ls.map hdK).getD j []=[(m.x0:Int),(m.y0:Int)]:=by rw[zGd,qm,gl j d,u];rfl
  rw[e] at n
  rw[u] at y
  have n:=jc n
  have y:=jc y
  subst n y
  have un:¬(b.x0=m.x0/\b.y0=m.y0):=λ⟨Y,L⟩=>by
   have:=R.zI rm.wf w Q g S Y L
   subst this
   refine ne ?_
   apply jf
   intro E
   have lt:∀(i j:Nat) (v p:List R.Qd),i<j->ls[i]?=some (b::v)->ls[j]?=some (b::p)->False:=λi j v p B A D=>by
    have nd:=h.nd
    unfold pj at nd
    rw[Qc] at nd
    obtain⟨X,x1⟩:=zGs A
    obtain⟨P,U⟩:=zGs D
    have:=jz.mp nd.2 i j X P B
    rw[x1,U] at this
    exact this b (.head _) b (.head _) rfl
   rcases Q1 E with z|z
   ·exact lt i j v p z (e▸gl i f) (u▸gl j d)
   ·exact lt j i p v z (u▸gl j d) (e▸gl i f)
  unfold R.PLt
  unfold SO.T at t
  rcases t with ⟨_,t⟩|⟨_,t⟩
  ·dsimp only at t
   rw[H,G] at t
   have:¬((m.x0:Int)<b.x0\/(m.x0:Int)=b.x0/\(m.y0:Int)<b.y0):=λz=>zBf (t.symm.trans (jS.mpr z))
   omega
  ·dsimp only at t
   rw[H,G] at t
   have:=jS.mp t
   omega
 ·obtain⟨A,D,K⟩:=h.at_
  refine⟨by simp,?_,λi a l n hl => ?_⟩
  ·have N:(js.map λj=>as.getD j 0).Perm as:=by
    have:=(A▸pr).map λj=>as.getD j 0
    rwa [SO.map_range] at this
   exact N.nodup_iff.mpr D
  ·obtain⟨j,d,rfl⟩:=bK n
   obtain⟨Z,o,rfl⟩:=bK hl
   rw[d] at o;cases o
   have W:=s j d.7
   have ga:as[j]?=some (as.getD j 0):=by simp[A,W]
   rw[k _ ga.7]
   exact K j _ _ ga (gl j d.7)
end
end Q
namespace Q
open PySem L2 Z
theorem vC(l:List '%'):okDs 1 pairD.13=true:=pX λd hd=>by obtain⟨z,_,rfl⟩:=q0.mp hd;rfl
theorem aF8(ps qs:List '%')(l:List R.Qd):okDs 2 (p0 ps qs).13=true:=pX λd hd=>by obtain⟨z,_,rfl⟩:=q0.mp hd;rfl
theorem sF{l:List '%'}(nd:l.Nodup)(hi:i<l.length)(m:Nat)(e:D)(hm:m<i)(he:(pairD.13)[m]?=some e):eqD e (pairD (l.getD i (0,0)))=false:=by
 obtain⟨p,a,rfl⟩:=bK he
 rw[l6]
 refine decide_eq_false λz => ?_
 rw[z] at a
 have:=(v9 '!' nd).mp (a.trans (getD_at hi).symm)
 omega
theorem aD8{ps:List '%'}(rm:Rm ps qs zs)(hl:∀q∈l,q∈Sx ps qs zs)(hq:l[i]?=some q):
  ∃(j:Nat) (b:R.Qd),l[j]?=some b/\eqD (p0 ps qs b) (p0 ps qs q)=true/\(b.x0=q.x0/\b.y0=q.y0)/\∀(m:Nat) (e:D),m<j->((p0 ps qs).13)[m]?=some e->eqD e (p0 ps qs q)=false:=by
 obtain⟨_,a1,a2,_⟩:=rm.rng (hl q hq.7)
 have g:∀r∈l,eqD (p0 ps qs r) (p0 ps qs q)=decide (r.x0=q.x0/\r.y0=q.y0):=λr a=>by
  obtain⟨_,o,t,_⟩:=rm.rng (hl r a)
  exact rm.eqpt o t a1 a2
 have key:∀(n j:Nat),n=i-j->j<=i->(∀(m:Nat) (r:R.Qd),m<j->l[m]?=some r->¬(r.x0=q.x0/\r.y0=q.y0))->∃(j:Nat) (b:R.Qd),l[j]?=some b/\(b.x0=q.x0/\b.y0=q.y0)/\∀(m:Nat) (r:R.Qd),m<j->l[m]?=some r->¬(r.x0=q.x0/\r.y0=q.y0):=λn=>by
  induction n with
  |zero =>
   intro j e p h
   have:j=i:=by omega
   subst this
   exact⟨j,q,hq,⟨rfl,rfl⟩,h⟩
  |succ n ih =>
   intro j e p h
   have u:=(hq.5).1
   have f:l[j]?=some l[j]:=zGe '!'
   by_cases c:l[j].x0=q.x0/\l[j].y0=q.y0
   ·exact⟨j,_,f,c,h⟩
   ·refine ih (j+1) '!' '!' λm r hm a => ?_
    by_cases z:m=j
    ·subst z;rw[f] at a;cases a;exact c
    ·exact h m r '!' a
 obtain⟨j,b,d,k,s⟩:=key i 0 rfl (kd _) λm r hm=>by omega
 refine⟨j,b,d,by rw[g b d.7];exact decide_eq_true k,k,λm e hm he => ?_⟩
 obtain⟨r,a,rfl⟩:=bK he
 rw[g r a.7]
 exact decide_eq_false (s m r hm a)
theorem zC(ps qs:List '%')(kl:List R.Qd):∀k∈kl.map (sdP ps qs),∃q,k=sdP ps qs q:=λk hk=>by obtain⟨r,_,rfl⟩:=q0.mp hk;exact⟨_,rfl⟩
theorem vU{o:MO}(h:M a=some o):aL M a o=M:=by
 funext b
 unfold aL
 split
 ·rename_i e;rw[e,h]
 ·rfl
theorem zN(nd:(kl++l).Nodup){r:R.Qd}(h:l[j]?=some r):r∉kl++l.take j:=λz=>by
 rw[xi] at nd
 obtain⟨_,c,a⟩:=nd
 rcases qp.mp z with z|z
 ·exact a r z r h.7 rfl
 ·obtain⟨m,hm⟩:=jd.mp z
  have d:=(h.5).1
  have b:=(hm.5).1
  rw[jv] at b
  rw[y2 '!'] at hm
  have:=(v9 '!' c).mp (hm.trans h.symm)
  omega
theorem aD0{r:R.Qd}(h:r∈kl++l.take j):r∈kl++l:=(qp.mp h).elim (λz=>q7 _ z) λz=>qb _ (fq z)
theorem aEQ(ps qs:List '%'){b:R.Qd}(h:l.head?=some b):atI (p0 ps qs).13 0=some (p0 ps qs b):=by
 cases l with
 |nil=>cases h
 |cons a l=>cases h;exact bU (j:=0) rfl
theorem aHO{ps:List '%'}{ar:Addr}(hab:M ab=none)(hap:aL M ab '9' ap=none)(har:aL M ab '9' ar=none)(n1:ab≠ap)(np:M ap=none)(nr:M ar=none)(h1:bJ P1 o1 q1 M)(h2:bJ P2 o2 q2 M)(n2:ar≠ap)(n3:ar≠ab):
  RmI ps qs zs P1 P2 o1 o2 q1 q2 M ab ap ar 0 [] [] [] (aL (aL (aL M ab '9') ap (.dic hf0 [] [])) ar (.lst [])):=by
 have lam:∀{Pt:Addr}{pos:Pos}{ql:Str},bJ Pt pos ql M->bJ Pt pos ql (aL (aL (aL M ab '9') ap (.dic hf0 [] [])) ar (.lst [])):=λh=>by
  refine eG (eG (eG h λo z => ?_) λo z => ?_) λo z => ?_
  ·rw[hab] at z;cases z
  ·rw[hap] at z;cases z
  ·rw[aF n2,har] at z;cases z
 refine⟨n1,np,nr,?_,?_,aD,⟨rfl,fu,λi a l h=>by simp at h⟩,λx b=>(nomatch b),lam h1,lam h2,λx o _ e => ?_,λl hl=>(nomatch hl), .refl _,fu,λj q c=>by omega⟩
 ·show _=_
  rw[aF (vi n3),aF n1,aD]
 ·rw[aF (vi n2),aD];rfl
 ·rw[aF λz => ?_,aF λz => ?_,aF λz => ?_]
  ·exact e
  ·rw[z,hab] at e;cases e
  ·rw[z,np] at e;cases e
  ·rw[z,nr] at e;cases e
end Q
namespace Q
open PySem L2 Z
section
variable {K:qg}{z:Heap}
theorem uK:FnScope ["yard", "point"] ["yard", "point"] (aK g7):=zSc
abbrev j9(P w K mg z):=Fo P w K mg z "place_of" g7 ["yard", "point"] 2 aC6
theorem uL(Df:R.Df K mg "place_of" g7 ["yard", "point"] f fd):j9 P w K mg z:=by
 refine⟨f,fd,Df,bP Df uK (λds M k h => ?_) (λl A outer s H E b ds M k h => ?_)⟩
 ·obtain⟨ps,g,zs,i,j,rfl,_⟩:=h;rfl
 obtain⟨ps,g,zs,i,j,rfl,d,a,c,e⟩:=h
 refine aE (aV (fE (aAA bu m5 (qK (n:=1) b.23) (aN [0] rfl ⟨_,rfl,aC (aN [1] rfl (aJ (qU rfl (vC _) (by rw[qm,getD_at a];rfl) (eqD_refl 1 _ rfl) (sF d.dx a) ?_)))⟩)).4))
 refine aC (aAA bu m5 (qK (n:=1) b.23) (aN [0] rfl ⟨_,rfl,aC (aN [1] rfl (aJ (qU rfl (vC _) (by rw[qm,getD_at c];rfl) (eqD_refl 1 _ rfl) (sF d.dy c) ?_)))⟩))
 exact aJ ⟨(show 2<=sizeLine by decide),e⟩
noncomputable def f7:Pos:=⟨65,41,65,76⟩
noncomputable def f9:Str := "from_least" ++ ".<locals>." ++ "<lambda>"
theorem kT:FnScope ["yard", "points", "least"] ["yard", "points"] (aK eY):=zSc
abbrev lM(P w K mg z)(Pt:Addr):=Fo P w K mg z "from_least" eY ["yard", "points"] 8 (aJW Pt f7 f9)
theorem rM{c:Addr}(Df:R.Df K mg "from_least" eY ["yard", "points"] f fd)(hc:fd.code = .ref c)(LK:∀h:Heap,K.In h->dz h c Pt/\h.BuiltinsAt mg Pt)(hgP:jx≠Pt)(aL8:j9 P w K mg z)(T:Bt mg):lM P w K mg z Pt:=by
 refine⟨f,fd,Df,aBO Df hc kT (λds M k h => ?_) (λA outer s H E v ds M k h => ?_)⟩
 ·obtain⟨ps,o,zs,l,rfl,_⟩:=h;rfl
 obtain⟨ps,o,zs,l,rfl,G,ne,ll,hl,Q,N⟩:=h
 have lp:0<l.length:=zy.mpr ne
 refine aA (aI 2 kT.nd (eC jy nv PySem.F.type_list_index (zQ (n:=2) v.23) ⟨rfl,aC (qL xQ boot_min (n:=3) (x := "point") ["yard"] [0] [bL pairD.19 (o.map pairD) zs] ⟨rfl,rfl,rfl,by decide +kernel,rfl,λy g=>by rw[qi] at g;subst g;rfl,by decide +kernel,λy g=>vA (a := "point") (by decide +kernel) y g⟩ (v.mono '$') T.min LK rfl hgP (⟨l.map (p0 ps o),l.map λq=>[(q.x0:Int),(q.y0:Int)],rfl,by rw[zLm];exact lp,by simp,λt Z=>by obtain⟨q,_,rfl⟩:=q0.mp Z;simp,Q,λM2 U C=>⟨?_,?_⟩⟩).16 rfl rfl (λy g=>by rw[qi] at g;subst g;exact .inl rfl) (λy g=>aE4 y g) (λy g=>by rw[qi] at g;subst g;decide +kernel) (λcl pm X aa u=>rfl) rfl)⟩.16))
 ·rintro i d hd f' X cl A' s' H' I
  obtain⟨q,p,rfl⟩:=bK hd
  have v:=I
  obtain⟨_,a1,a2,_⟩:=G.rng (hl q p.7)
  exact aU aL8 v (aO [1,0] rfl ⟨ps,o,zs,q.x0,q.y0,rfl,G,a1,a2,⟨by rw[zGd,qm,p];rfl,rfl⟩⟩)
 ·refine aGL λi d hd hb => ?_
  obtain⟨q,p,rfl⟩:=bK hd
  have V:=hl q p.7
  obtain⟨j,b,B,S,⟨ex,ey⟩,D⟩:=aD8 G hl p
  have least:∀r∈l,R.PLe b r:=λr J=>by
   obtain⟨m,hm⟩:=jd.mp J
   have:=hb m (by rw[zLm];exact (hm.5).1)
   rw[zGd,qm,hm,zGd,qm,p] at this
   have n:=λz=>zBf (this.symm.trans (jS.mpr z))
   have n2:¬((r.x0:Int)<q.x0\/(r.x0:Int)=q.x0/\(r.y0:Int)<q.y0):=n
   unfold R.PLe
   omega
  have L:=(B.5).1
  have sp:l=l.take j++b::l.drop (j+1):=by
   have e:=(B.5).2
   rw[<- e,<- yl L,Qb]
  refine aJ (aBD (d:=p0 ps o b) (j:=j) rfl (aF8 ps o l) (by rw[qm,B];rfl) S D (by rw[zLm];omega) ?_)
  refine aE (aV (bB iP (dH pH (cK ⟨_,rfl,(pV (tP '0' ?_))⟩.21).16)))
  rw[aFC _ _ (by rw[zLm];omega)]
  refine dH pH (pV (cK ⟨_,rfl,(tP '0' ?_)⟩.21)).16
  rw[aKW _ _ (by rw[zLm];omega)]
  refine aGM '0' '0' (by rw[wz,jv,zLm];exact R.bQ '!') λa O => ?_
  have k:=N (l.take j) b (l.drop (j+1)) M2 a sp least U C O
  have Y:(b::l.drop (j+1)++l.take j).map (p0 ps o)=((p0 ps o).13).drop j++((p0 ps o).13).take j:=by
   rw[<- List.map_drop,<- JJ,<- qv]
   congr 2
   have e:=(B.5).2
   rw[<- e,<- yl L]
  rw[Y] at k
  exact k
theorem c6:FnScope ["side", "way"] ["side"] (aK dU):=zSc
abbrev dS(P w K mg z):=Fo P w K mg z "begin_and_end" dU ["side"] 2 cBE
theorem nA(Df:R.Df K mg "begin_and_end" dU ["side"] f fd):dS P w K mg z:=by
 refine⟨f,fd,Df,bP Df c6 (λds M k h => ?_) (λj A outer s H E g ds M k h => ?_)⟩
 ·obtain⟨ps,a,q,rfl,_⟩:=h;rfl
 obtain⟨ps,a,⟨f,p,b,e⟩,rfl,i,c⟩:=h
 rcases R.four i with rfl|rfl|rfl|rfl
 ·rw[show sdP ps a ⟨0,p,b,e⟩ = .tup [.int 0,pairD (ps.getD p (0,0)),pairD (a.getD b (0,0)),pairD (a.getD e (0,0))] by simp[sdP,lnP,alP]]
  replace c:k (.tup [.tup [pairD (ps.getD p (0,0)),pairD (a.getD e (0,0))], .tup [pairD (ps.getD p (0,0)),pairD (a.getD b (0,0))]]) M:=by simpa[ptP,R.Qd.x0,R.Qd.y0,R.Qd.x1,R.Qd.y1] using c
  exact aA (aI 1 c6.nd (lO (aQ (oR (n:=0) g.23) (aN [0] rfl (aN [] rfl (n6 (.tup _) '1' rfl rfl ⟨_,rfl,b4 (aN [0,0] rfl (aA (bA (aQ b7 (z6 (cY ⟨_,rfl,(ite2 (λ_=>aE (aV (aN [0,1,0,1] rfl c))) (λd=>by simp at d))⟩)).33))))⟩))))))
 ·rw[show sdP ps a ⟨1,p,b,e⟩ = .tup [.int 1,pairD (a.getD p (0,0)),pairD (ps.getD b (0,0)),pairD (ps.getD e (0,0))] by simp[sdP,lnP,alP]]
  replace c:k (.tup [.tup [pairD (ps.getD b (0,0)),pairD (a.getD p (0,0))], .tup [pairD (ps.getD e (0,0)),pairD (a.getD p (0,0))]]) M:=by simpa[ptP,R.Qd.x0,R.Qd.y0,R.Qd.x1,R.Qd.y1] using c
  exact aA (aI 1 c6.nd (lO (aQ (oR (n:=0) g.23) (aN [0] rfl (aN [] rfl (n6 (.tup _) '1' rfl rfl ⟨_,rfl,cP (aN [0,0] rfl (aA (bA (aQ b7 (z6 (cY ⟨_,rfl,(ite2 (λd=>by simp at d) (λ_=>aZ (aE (aV (aN [1,0,1,0] rfl c)))))⟩)).33))))⟩))))))
 ·rw[show sdP ps a ⟨2,p,b,e⟩ = .tup [.int 2,pairD (ps.getD p (0,0)),pairD (a.getD b (0,0)),pairD (a.getD e (0,0))] by simp[sdP,lnP,alP]]
  replace c:k (.tup [.tup [pairD (ps.getD p (0,0)),pairD (a.getD b (0,0))], .tup [pairD (ps.getD p (0,0)),pairD (a.getD e (0,0))]]) M:=by simpa[ptP,R.Qd.x0,R.Qd.y0,R.Qd.x1,R.Qd.y1] using c
  exact aA (aI 1 c6.nd (lO (aQ (oR (n:=0) g.23) (aN [0] rfl (aN [] rfl (n6 (.tup _) '1' rfl rfl ⟨_,rfl,cP (aN [0,0] rfl (aA (bA (aQ b7 (z6 (cY ⟨_,rfl,(ite2 (λ_=>aE (aV (aN [0,1,0,1] rfl c))) (λd=>by simp at d))⟩)).33))))⟩))))))
 ·rw[show sdP ps a ⟨3,p,b,e⟩ = .tup [.int 3,pairD (a.getD p (0,0)),pairD (ps.getD b (0,0)),pairD (ps.getD e (0,0))] by simp[sdP,lnP,alP]]
  replace c:k (.tup [.tup [pairD (ps.getD e (0,0)),pairD (a.getD p (0,0))], .tup [pairD (ps.getD b (0,0)),pairD (a.getD p (0,0))]]) M:=by simpa[ptP,R.Qd.x0,R.Qd.y0,R.Qd.x1,R.Qd.y1] using c
  exact aA (aI 1 c6.nd (lO (aQ (oR (n:=0) g.23) (aN [0] rfl (aN [] rfl (n6 (.tup _) '1' rfl rfl ⟨_,rfl,b4 (aN [0,0] rfl (aA (bA (aQ b7 (z6 (cY ⟨_,rfl,(ite2 (λd=>by simp at d) (λ_=>aZ (aE (aV (aN [1,0,1,0] rfl c)))))⟩)).33))))⟩))))))
theorem jH:FnScope ["all_sides", "told", "side"] ["all_sides"] (aK gX):=zSc
abbrev oN(P w K mg z):=Fo P w K mg z "by_begin" gX ["all_sides"] 3 aKI
theorem uJ(Df:R.Df K mg "by_begin" gX ["all_sides"] f fd)(aL9:dS P w K mg z):oN P w K mg z:=by
 refine⟨f,fd,Df,bP Df jH (λds M k h => ?_) (λp A outer s H E e ds M k h => ?_)⟩
 ·obtain⟨ps,b,S,rfl,_⟩:=h;rfl
 obtain⟨ps,b,S,rfl,l,n,r,m⟩:=h
 refine aA (aI 1 jH.nd (tN hf0 λa o=>(aA (cQ (gH ⟨_, .inr '1',(⟨λi Γ' M'=>M'=aL M a (.dic hf0 ((S.take i).map (bgP ps b)) ((S.take i).map (sdP ps b)))/\∃v2,Γ'=[some (.lst (S.map (sdP ps b))),some (.mt a),v2],⟨rfl,_,rfl⟩,?_,?_⟩)⟩.15)))))
 ·rintro i d Γ' M' hd ⟨rfl,v2,rfl⟩
  obtain⟨q,c,rfl⟩:=bK hd
  obtain⟨g,j⟩:=n.take (i:=i) (x:=bgP ps b q) (by rw[qm,c];rfl)
  rw[<- JJ] at g j
  refine bV 2 jH.nd (aE (eA (tZ (room9 e) (fE (aN [2] rfl (aU aL9 e (aO [2] rfl ⟨ps,b,q,rfl,l q c.7,(z6 (aW (.tup _) rfl (aJ ⟨(show 2<=sizeLine by decide),(⟨a,hf0,_,_,rfl,aD,g,by rw[zLm,jv];exact jg (show min i S.length<=1000 by omega) '$', .inl ⟨j,?_⟩⟩)⟩)))⟩)).11.4).4).16).21))
  dsimp only
  rw[cD,take_snoc c,qv,qv]
  exact⟨rfl,_,rfl⟩
 ·rintro Γ' M' ⟨rfl,v2,rfl⟩
  rw[zLm,vk]
  exact aE (aV (m a o).16)
theorem fL:FnScope ["side", "begun", "end", "left", "right"] ["side", "begun"] (aK f6):=zSc
abbrev mZ(P w K mg z):=Fo P w K mg z "next_side" f6 ["side", "begun"] 3 cNxt
theorem rW(Df:R.Df K mg "next_side" f6 ["side", "begun"] f fd)(aL9:dS P w K mg z):mZ P w K mg z:=by
 refine⟨f,fd,Df,bP Df fL (λds M k h => ?_) (λy A outer s H E i ds M k h => ?_)⟩
 ·obtain⟨ps,b,zs,q,r,a,rfl,_⟩:=h;rfl
 obtain⟨ps,b,zs,q,r,a,rfl,t,v,⟨n,x,z,l⟩,m,g⟩:=h
 obtain⟨u,_,_,x1,y1⟩:=t.rng v
 obtain⟨j,p⟩:=jd.mp n
 have get:∀f,r.f=f->((Sx ps b zs).map (bgP ps b))[j]?=some (kyP ps b f q.x1 q.y1):=λf e=>by
  rw[qm,p]
  show some (kyP ps b r.f r.x0 r.y0)=_
  rw[e,x,z]
 have d:∀f,KeyOk ((Sx ps b zs).map (bgP ps b)) (kyP ps b f q.x1 q.y1):=λf=>aBZ ps b _ _ _ λk g=>by obtain⟨r,_,rfl⟩:=q0.mp g;exact⟨_,_,_,rfl⟩
 have o:((Sx ps b zs).map (sdP ps b))[j]?=some (sdP ps b r):=by rw[qm,p];rfl
 refine aA (aI 2 fL.nd (aU aL9 i (aO [0] rfl ⟨ps,b,q,rfl,u,(z6 (aW (.tup _) rfl (aA (aI 3 fL.nd (b6 [0,2] rfl ',' (aA (aI 4 fL.nd (b6 [0,2] rfl ',' ?_))))))))⟩)).11)
 rw[show ((q.f:Int)+1)%4=(((q.f+1)%4:Nat):Int) by omega,show ((q.f:Int)+3)%4=(((q.f+3)%4:Nat):Int) by omega]
 refine aE (aV (lO (aQ (aJ7 (room9 i)) (aB 3 rfl (aIK m (d _) ⟨_,rfl,?_⟩).16))))
 rw[show decide (D.tup [.int (((q.f+1)%4:Nat):Int),ptP ps b q.x1 q.y1]∈(Sx ps b zs).map (bgP ps b))=R.eB zs ((q.f+1)%4) q.x1 q.y1 from t.key_mem '!' x1 y1]
 cases c:R.eB zs ((q.f+1)%4) q.x1 q.y1 with
 |true =>
  rw[c,if_pos rfl] at l
  exact cP (aS (zZ (room9 i)) (aB 3 rfl (vL j m (d _) (get _ l) o g)).16)
 |false =>
  rw[c,if_neg zBf] at l
  exact b4 (aS (zZ (room9 i)) (vL j m (d _) (get _ l) o g).24.16)
theorem hE:FnScope ["first", "begun", "told", "side"] ["first", "begun"] (aK jC):=zSc
abbrev qR(P w K mg z):=Fo P w K mg z "ring_of" jC ["first", "begun"] 4 aLK
theorem xU(Df:R.Df K mg "ring_of" jC ["first", "begun"] f fd)(aMA:mZ P w K mg z):qR P w K mg z:=by
 refine⟨f,fd,Df,bP Df hE (λds M k h => ?_) (λN A outer s H E p ds M k h => ?_)⟩
 ·obtain⟨ps,d,zs,q,a,rfl,_⟩:=h;rfl
 obtain⟨ps,d,zs,q,a,rfl,j,g,o,J⟩:=h
 have wf:=j.wf
 have few:=j.few
 obtain⟨r,i⟩:=R.aE1 wf g
 refine aA (aI 2 hE.nd (eE (aO [0] rfl ⟨(show 1<=sizeLine by decide),λb D => ?_⟩)))
 have u:a≠b:=λz=>by unfold BgS at o;rw[z,D] at o;cases o
 have v:∀x,BgS ps d zs (aL M b x) a:=λx=>(aF u).trans o
 refine aA (aI 3 hE.nd (aU aMA p (aO [0,1] rfl ⟨ps,d,zs,q,r,a,rfl,j,g,i,v _,(aA (n5 (λm Γ' M'=>∃(l:List R.Qd) (z s:R.Qd),m+l.length=(Sx ps d zs).length/\R.Wlk (Sx ps d zs) (Nxt ps d zs) q l/\l.getLast?=some z/\Nxt ps d zs z s/\M'=aL M b (.lst (sdP ps d).13)/\Γ'=[some (sdP ps d q),some (.mt a),some (.mt b),some (sdP ps d s)]) (n:=(Sx ps d zs).length-1) ⟨[q],q,r,by have:=tm g;simp;omega, .one g,rfl,i,rfl,rfl⟩ ?_))⟩)))
 rintro m Γ' M' ⟨l,z,s,hm,w,B,e,rfl,rfl⟩
 have inj:∀q q' r,q∈Sx ps d zs->q'∈Sx ps d zs->Nxt ps d zs q r->Nxt ps d zs q' r->q=q':=λ_ _ _=>R.aJ6 wf
 refine aQ (r6 (n:=2) p.23) (aB 3 rfl (sC (.tup _) (.tup _) rfl rfl ⟨_,rfl,?_⟩).15)
 show ite ((!eqD (sdP ps d s) (sdP ps d q))=true) _ _
 rw[j.eqsd e.1 g]
 by_cases c:s=q
 ·rw[decide_eq_true c]
  exact b4 (aE (aV (J l b ⟨w,λy I=>by rw[B] at I;cases I;rw[<- c];exact e⟩ D).21))
 ·rw[decide_eq_false c]
  have G:=w.go inj B e e.1 c
  have L:=G.len
  rw[qe,vp] at L
  refine cP (aA (dC (eC jy j1 j0 cS (⟨⟨rfl,_,aD⟩,(aO [3] rfl (cZ aD (by rw[zLm];exact jg (show l.length<=244 by omega) '$') ?_))⟩).21)))
  rw[cD]
  obtain⟨t,C⟩:=R.aE1 wf e.1
  exact aE (aI 3 hE.nd (aU aMA p (aO [3,1] rfl ⟨ps,d,zs,s,t,a,rfl,j,e.1,C,v _,⟨m-1,by omega,l++[s],s,t,by rw[qe,vp];omega,G,by simp,C,by rw[qv];rfl,rfl⟩⟩)))
theorem mX:FnScope ["yard", "across", "up", "rows"] ["yard", "across", "up"] (aK gR):=zSc
abbrev oD(P w K mg z):=Fo P w K mg z "has_cell" gR ["yard", "across", "up"] 1 cHas
theorem uY(Df:R.Df K mg "has_cell" gR ["yard", "across", "up"] f fd)(T:Bt mg):oD P w K mg z:=by
 refine⟨f,fd,Df,bP Df mX (λds M k h => ?_) (λB A outer s H E D ds M k h => ?_)⟩
 ·obtain⟨x,y,zs,a,u,rfl,_⟩:=h;rfl
 obtain⟨x,y,zs,a,u,rfl,o,l⟩:=h
 have d:R.aH zs a u=false->k (.bl false) M:=λe=>by rw[e] at l;exact l
 refine aA (aI 3 mX.nd (aN [0] rfl (aA (bA (fG (iX (aQ gA (z6 (eH ⟨_,rfl,(ite2 (λj=>cP (aE (aV (eO (d (R.bR (of_decide_eq_true j))))))) (λj=>(iX (aQ rQ (aO [3] rfl (cH (.tup _) (eH ⟨_,rfl,(ite2 (λn=>cP (aE (aV (eO (d (R.b9 (by have:=of_decide_eq_true n;rw[zLm] at this;exact this))))))) (λn=>(iX (aQ gA (z6 (eH ⟨_,rfl,(ite2 (λm=>cP (aE (aV (eO (d (R.bZ (of_decide_eq_true m))))))) (λm => ?_))⟩)).16))))⟩))).25.21))))⟩)).21)))))))
 obtain⟨C,p,z,b,r⟩:=cell_in j n m
 refine lC (aQ rQ (aB 3 rfl (aW (.tup _) r (aJ (pY (R.bQ (by have:=o z b.7;omega)) (eH ⟨_,rfl,?_⟩)))).21).11.4.25.16)
 have v:=o z b.7
 refine ite2 (λg=>aE (aV (eO (d (R.eJ b (of_decide_eq_true g)))))) (λg=>aZ ?_)
 obtain⟨c,t,i⟩:=aHD p (λq=>g q.29)
 refine aE (aV (cR b7 (aB 3 rfl (aW (.tup _) r (sD (R.bQ '!') i (ge_str (gF ?_))).16).21).11.11))
 rw[zL,<- R.kG C p b t]
 exact l
theorem fH:FnScope ["yard", "facing", "place", "band", "beyond", "before"] ["yard", "facing", "place", "band"] (aK i6):=zSc
abbrev qN(P w K mg z):=Fo P w K mg z "is_edge" i6 ["yard", "facing", "place", "band"] 2 aLA
theorem yN(Df:R.Df K mg "is_edge" i6 ["yard", "facing", "place", "band"] f fd)(aMB:oD P w K mg z):qN P w K mg z:=by
 refine⟨f,fd,Df,bP Df fH (λds M k h => ?_) (λi A outer s H E g ds M k h => ?_)⟩
 ·obtain⟨x,y,zs,f,p,b,rfl,_⟩:=h;rfl
 obtain⟨x,y,zs,f,p,b,rfl,d,a⟩:=h
 refine aA (sR (λΓ' M'=>M'=M/\Γ'=[some (.tup [x,y, .tup (zs.map .str)]),some (.int (f:Int)),some (.int (p:Int)),some (.int (b:Int)),some (.bl (if f%2=0 then R.aH zs (p:Int) (b:Int) else R.aH zs (b:Int) (p:Int))),some (.bl (if f%2=0 then R.aH zs ((p:Int)-1) (b:Int) else R.aH zs (b:Int) ((p:Int)-1)))]) ?_ ?_)
 ·refine bA (aQ b7 (b6 [1] rfl ',' (z6 (cY ⟨_,rfl,(ite2 (λc => ?_) (λc => ?_))⟩))))
  ·have e:f%2=0:=by have:=of_decide_eq_true c;omega
   refine aA (aI 4 fH.nd (aU aMB g (aO [0,2,3] rfl ⟨x,y,zs,_,_,rfl,d,(aE (aI 5 fH.nd (aU aMB g (aO [0,2,3] rfl ⟨x,y,zs,_,_,rfl,d,?_⟩))))⟩)))
   rw[if_pos e,if_pos e]
   exact⟨rfl,rfl⟩
  ·have e:¬f%2=0:=λz=>c (by omega).29
   refine aA (aI 4 fH.nd (aU aMB g (aO [0,3,2] rfl ⟨x,y,zs,_,_,rfl,d,(aE (aI 5 fH.nd (aU aMB g (aO [0,3,2] rfl ⟨x,y,zs,_,_,rfl,d,?_⟩))))⟩)))
   rw[if_neg e,if_neg e]
   exact⟨rfl,rfl⟩
 rintro Γ' M' ⟨rfl,rfl⟩
 unfold R.edge at a
 dsimp only at a
 generalize (if f%2=0 then R.aH zs (p:Int) (b:Int) else R.aH zs (b:Int) (p:Int))=c1 at a ⊢
 generalize (if f%2=0 then R.aH zs ((p:Int)-1) (b:Int) else R.aH zs (b:Int) ((p:Int)-1))=c2 at a ⊢
 refine aA (bA (aQ gA (z6 (eH ⟨_,rfl,(ite2 (λc => ?_) (λc => ?_))⟩)).16))
 ·rw[if_pos (by have:=of_decide_eq_true c;omega)] at a
  refine aE (aV (aAV ⟨_,rfl,?_⟩.24))
  cases c1 with
  |false=>exact b4 a
  |true =>
   exact cP (oW (aA2 (aB 5 rfl ⟨_,rfl,a⟩)))
 ·rw[if_neg (λz=>c (by omega).29)] at a
  refine aZ (aE (aV (aAV (aB 5 rfl ⟨_,rfl,?_⟩))))
  cases c2 with
  |false=>exact b4 a
  |true =>
   exact cP (oW (aA2 ⟨_,rfl,a⟩.24))
theorem hU:FnScope ["truths", "told", "begin", "place", "truth"] ["truths"] (aK oM):=zSc
abbrev aAF(P w K mg z):=Fo P w K mg z "runs" oM ["truths"] 1 aL0
theorem aHM(Df:R.Df K mg "runs" oM ["truths"] f fd)(T:Bt mg):aAF P w K mg z:=by
 refine⟨f,fd,Df,bP Df hU (λds M k h => ?_) (λr A outer s H E v ds M k h => ?_)⟩
 ·obtain⟨bs,rfl,_⟩:=h;rfl
 obtain⟨bs,rfl,hl,o⟩:=h
 refine aA (aI 1 hU.nd (eE (aJ ⟨(show 0<=sizeLine by decide),λa p=>(aA (aI 2 hU.nd (jY (aA (cQ (aCE T.enumerate BEnum (bB iP (aN [] rfl (aJ ⟨_,rfl,?_⟩).32).15).4))))))⟩)))
 rw[aDW]
 refine⟨λi Γ' M'=>M'=aL M a (.lst ((R.rto (bs++[false]) i).1.map prD))/\∃g v4,Γ'=[some (.lst (bs.map .bl)),some (.mt a),some (bgD (R.rto (bs++[false]) i).2),g,v4],⟨rfl,_,_,rfl⟩,?_,?_⟩
 ·rintro i d Γ' M' hd ⟨rfl,g,v4,rfl⟩
  obtain⟨x,m,rfl⟩:=rC hd
  obtain⟨t,l,rfl⟩:=bK m
  have u:i<bs.length+1:=by have:=(l.5).1;simpa using this
  have c:R.rto (bs++[false]) (i+1)=R.rstep (R.rto (bs++[false]) i) i t:=by
   show R.rstep _ _ ((bs++[false]).getD i false)=_
   rw[aG0 l]
  have ln:=(R.lY (bs++[false]) i).len
  generalize R.rto (bs++[false]) i=q at ln c ⊢
  obtain⟨e,j⟩:=q
  refine pF [3,4] hU.nd rfl ?_
  have bnd:(e.map prD).length<sizeLine:=by rw[zLm];exact R.bQ (n:=e.length+1) (by simp only at ln;omega)
  cases t with
  |true =>
   refine aA (bA (fG (eZ (d9 ⟨_,rfl,(cP (iC (aQ aBR (jY (zM ⟨_,rfl,?_⟩)).21)))⟩.24))))
   cases j with
   |none =>
    refine cP (aE (aI 2 hU.nd (aB 3 rfl (aE (bA (fG (eZ (fC (d9 ⟨_,rfl,(b4 (b4 (aZ ?_)))⟩.24)))))))))
    dsimp only
    rw[c]
    exact⟨rfl,_,_,rfl⟩
   |some b =>
    refine b4 (aZ (aE (bA (fG (eZ (fC (d9 ⟨_,rfl,(b4 (b4 (aZ ?_)))⟩.24)))))))
    dsimp only
    rw[c]
    exact⟨rfl,_,_,rfl⟩
  |false =>
   refine aA (bA (fG (eZ (d9 ⟨_,rfl,(b4 (b4 (aZ (aE (bA (fG (eZ (fC (d9 ⟨_,rfl,(cP (iC (aQ aFX (jY (aGX ⟨_,rfl,?_⟩)).21)))⟩.24)))))))))⟩.24))))
   cases j with
   |none =>
    refine b4 (aZ ?_)
    dsimp only
    rw[c]
    exact⟨rfl,_,_,rfl⟩
   |some b =>
    refine cP (aA (dC (eC jy j1 j0 cS (⟨⟨rfl,_,aD⟩,(aO [2,3] rfl (cZ aD bnd ?_))⟩).16)))
    rw[cD]
    refine aE (aI 2 hU.nd (jY ?_))
    dsimp only
    rw[c]
    refine⟨?_,_,_,rfl⟩
    rw[show (R.rstep (e,some b) i false).1=e++[(b,i)] from rfl,qv]
    rfl
 ·rintro Γ' M' ⟨rfl,g,v4,rfl⟩
  rw[qP,zLm,qe]
  refine jR 1 rfl aD ?_
  rw[iW p]
  exact aE (aV o.16)
theorem lQ:FnScope ["yard", "facing", "place", "bands"] ["yard", "facing", "place"] (aK fZ):=zSc
abbrev m7(P w K mg z):=Fo P w K mg z "stretches" fZ ["yard", "facing", "place"] 3 aDM
theorem t7(Df:R.Df K mg "stretches" fZ ["yard", "facing", "place"] f fd)(aMC:aAF P w K mg z)(aMD:qN P w K mg z)(T:Bt mg):m7 P w K mg z:=by
 refine⟨f,fd,Df,bP Df lQ (λds M k h => ?_) (λm A outer s H E b ds M k h => ?_)⟩
 ·obtain⟨xs,a,zs,f,p,rfl,_⟩:=h;rfl
 obtain⟨xs,a,zs,f,p,rfl,j,g,l,e⟩:=h
 have la:=lA (f:=f) g l
 refine aA (aI 3 lQ.nd (bB iR (b6 [1] rfl ⟨'$',trivial⟩ (aW (.tup _) (sJ f) (aJ (cH (.tup _) (z6 (dX (aE (aV (aU aMC b (fN ["yard", "facing", "place"] [0,1,2] (cW T.range (aO [3] rfl ⟨_,rfl,by omega,by omega,?_⟩))).4))))))))).15.11.4.25))
 rw[show (((bI f xs a).length:Int)-1).toNat=(bI f xs a).length-1 by omega]
 refine mV (by rw[bC];exact R.bQ '!') (λi acc M'=>M'=M/\acc=((qz i).map (R.edge zs f p)).map D.bl) ⟨rfl,rfl⟩ ?_ ?_
 ·rintro i d acc M' hd ⟨rfl,rfl⟩ cs C s₀ H₀ c
  obtain⟨n,rfl⟩:=bS hd
  rw[vr]
  refine fW (cP λcs C s₀ H₀ c=>(aU aMD b (aO [1,2,3,0] rfl ⟨_,_,zs,f,p,i,rfl,j,⟨rfl,?_⟩⟩)))
  rw[yf,qv,qv]
  rfl
 rintro acc M' ⟨rfl,rfl⟩
 rw[bC]
 exact aJ ⟨R.cX zs f p ((bI f xs a).length-1),rfl,by rw[i5];omega,e⟩
theorem fR:FnScope ["yard", "told", "facing", "along", "place", "line", "begin", "end"] ["yard"] (aK mS):=zSc
abbrev vZ(P w K mg z):=Fo P w K mg z "sides" mS ["yard"] 4 aH8
theorem aCD(Df:R.Df K mg "sides" mS ["yard"] f fd)(aME:m7 P w K mg z)(T:Bt mg):vZ P w K mg z:=by
 refine⟨f,fd,Df,bP Df fR (λds M k h => ?_) (λN A outer s H E z ds M k h => ?_)⟩
 ·obtain⟨xs,b,zs,rfl,_⟩:=h;rfl
 obtain⟨xs,b,zs,rfl,I,n,o,t⟩:=h
 refine aA (aI 1 fR.nd (eE (aJ ⟨(show 0<=sizeLine by decide),λa u=>(aA (cQ (cW T.range (aO [] rfl ⟨_,rfl,by decide,by decide,?_⟩))))⟩)))
 refine⟨λf Γ' M'=>M'=aL M a (.lst (dJ zs xs b f))/\∃v2 p v4 g v6 e,Γ'=[some (bL xs b zs),some (.mt a),v2,p,v4,g,v6,e],⟨rfl,_,_,_,_,_,_,rfl⟩,?_,?_⟩
 ·rintro f d Γ' M' hd ⟨rfl,v2,p,v4,g,v6,e,rfl⟩
  obtain⟨hf,rfl⟩:=bS hd
  have x:f<4:=hf
  rw[vr]
  have la:=lA (f:=f) n o
  have S:=qS (f:=f) n o
  have Q:=oO (zs:=zs) n o f
  refine bV 2 fR.nd (aA (aI 3 fR.nd (b6 [2] rfl ⟨'$',trivial⟩ (aW (.tup _) (sJ f) (aE (cQ (aF0 T.enumerate BEnum (b6 [2] rfl ⟨'$',trivial⟩ (aW (.tup _) (aCM f) (aJ ⟨_,rfl,(⟨λi Γ' M'=>M'=aL M a (.lst (dJ zs xs b f++dL zs f (cA f xs b) (bI f xs b) i))/\∃v4 g v6 e,Γ'=[some (bL xs b zs),some (.mt a),some (.int (f:Int)),some (.tup (bI f xs b)),v4,g,v6,e],⟨by simp[dL],_,_,_,_,rfl⟩,?_,?_⟩)⟩))).15.11.4))))).15.11))
  ·rintro i d Γ' M' hd ⟨rfl,B,J,y,D,rfl⟩
   obtain⟨l,m,rfl⟩:=rC hd
   have v:=(m.5).1
   have O:=kF (zs:=zs) (f:=f) (ls:=cA f xs b) la i
   refine pF [4,5] fR.nd rfl (aE (cQ (gH (aU aME z (aO [0,2,4] rfl ⟨xs,b,zs,f,i,rfl,I,n,o,⟨_, .inr '1',(⟨λj Γ' M'=>M'=aL M a (.lst (dJ zs xs b f++dL zs f (cA f xs b) (bI f xs b) i++((R.runs (R.cX zs f i ((bI f xs b).length-1))).take j).map (mkS f l (bI f xs b))))/\∃v6 e,Γ'=[some (bL xs b zs),some (.mt a),some (.int (f:Int)),some (.tup (bI f xs b)),some (.int (i:Int)),some l,v6,e],⟨by simp,_,_,rfl⟩,?_,?_⟩)⟩⟩)))))
   ·rintro j d Γ' M' hd ⟨rfl,G,C,rfl⟩
    obtain⟨r,c,rfl⟩:=bK hd
    have L:=R.aF6 c.7
    rw[i5] at L
    have U:j<(R.runs (R.cX zs f i ((bI f xs b).length-1))).length:=(c.5).1
    have q:=R.sS (R.cX zs f i ((bI f xs b).length-1))
    rw[i5] at q
    refine pF [6,7] fR.nd rfl (aE (dC (eC jy j1 j0 cS (⟨⟨rfl,_,aD⟩,(fE (aB 5 rfl (aB 3 rfl (aB 6 rfl (aW (.tup _) (at_getD '!') (aB 3 rfl (aB 7 rfl (aW (.tup _) (at_getD '!') (aJ ⟨(show 4<=sizeLine by decide),(aJ (cZ aD (by simp only[qe,zLm,jv];exact jg (show _<=60000 by omega) '$') ⟨?_,_,_,rfl⟩))⟩)))).11.4))).11.4).4.21.4).4⟩).16)))
    rw[cD,nN c,<- qx]
    rfl
   ·rintro Γ' M' ⟨rfl,G,C,rfl⟩
    rw[zLm,vk]
    exact⟨by rw[uV m,<- qx];rfl,_,_,_,_,rfl⟩
  ·rintro Γ' M' ⟨rfl,B,J,y,D,rfl⟩
   rw[qP]
   exact⟨by rw[m8],_,_,_,_,_,_,rfl⟩
 ·rintro Γ' M' ⟨rfl,v2,p,v4,g,v6,e,rfl⟩
  exact aE (aV (t a u).16)
noncomputable def g6:Pos:=⟨78,29,78,69⟩
noncomputable def gW:Str := "rims" ++ ".<locals>." ++ "<lambda>"
theorem eV:FnScope ["yard", "all_sides", "begun", "passed", "rings", "side", "ring", "one"] ["yard"] (aK o5):=zSc
abbrev aAC(P w K mg z)(P1 P2:Addr):=Fo P w K mg z "rims" o5 ["yard"] 10 (aK9 P1 P2 f7 g6 f9 gW)
theorem aHT{c:Addr}(Df:R.Df K mg "rims" o5 ["yard"] f fd)(hc:fd.code = .ref c)(LK:∀h:Heap,K.In h->dz h c P2/\h.BuiltinsAt mg P2)(hgP:jx≠P2)(hP:P2≠P1)(aMF:vZ P w K mg z)(aMG:oN P w K mg z)(aMH:qR P w K mg z)(aMI:lM P w K mg z P1)(aL8:j9 P w K mg z)(aL9:dS P w K mg z)(T:Bt mg):aAC P w K mg z P1 P2:=by
 refine⟨f,fd,Df,aBO Df hc eV (λds M k h => ?_) (λA outer s H E O ds M k h => ?_)⟩
 ·obtain⟨ps,g,zs,rfl,_⟩:=h;rfl
 obtain⟨ps,g,zs,rfl,p,aa,ac,hk⟩:=h
 have wf:=p.wf
 have few:=p.few
 have lx:=p.lx
 have ly:=p.ly
 obtain⟨p1,ao⟩:=l7 aa
 obtain⟨p2,an⟩:=l7 ac
 refine aA (aI 1 eV.nd (lP (aU aMF O (aO [0] rfl (⟨_,_,zs,rfl,λz hz=>by have:=(wf.good z hz).1;omega,by rw[zLm];omega,by rw[zLm];omega,λa J=>⟨a,_,M,rfl,aD,J,(Le.refl M).upd J,?_⟩⟩)))))
 rw[p.sds]
 refine aA (aI 2 eV.nd (aU aMG O (aO [1] rfl ⟨ps,g,Sx ps g zs,rfl,λq hq=>(p.rng hq).1,p.keys,by omega,λZ al => ?_⟩)))
 refine aA (aI 3 eV.nd (tN hf0 λap S => ?_))
 have n1:Z≠ap:=λz=>by rw[z,aD] at S;cases S
 have np:=S
 rw[aF (vi n1)] at np
 refine aA (aI 4 eV.nd (eE (aJ ⟨(show 0<=sizeLine by decide),λar B => ?_⟩)))
 have n2:ar≠ap:=λz=>by rw[z,aD] at B;cases B
 rw[aF n2] at B
 have n3:ar≠Z:=λz=>by rw[z,aD] at B;cases B
 have nr:=B
 rw[aF n3] at nr
 refine aA (cQ (gH ⟨_, .inr '1',(⟨λi Γ' M'=>(∃ls as L,RmI ps g zs P1 P2 f7 g6 f9 gW M Z ap ar i ls as L M')/\∃v5 v6 X,Γ'=[some (bL pairD.19 (g.map pairD) zs),some (.lst ((Sx ps g zs).map (sdP ps g))),some (.mt Z),some (.mt ap),some (.mt ar),v5,v6,X],⟨⟨[],[],[],aHO al S B n1 np nr aa ac n2 n3⟩,_,_,_,rfl⟩,?_,?_⟩)⟩.16))
 ·rintro i d Γ' M' hd ⟨⟨ls,as,L,I⟩,v5,v6,X,rfl⟩
  obtain⟨q,hq,rfl⟩:=bK hd
  have V:=zMo hq
  obtain⟨kn,_⟩:=I.len p
  refine bV 5 eV.nd (aE (bA (aQ (aBM (room9 O)) (aB 5 rfl (aB 3 rfl (aAI I.pa (aA1 ps g q (zC ps g L)) ⟨_,rfl,?_⟩))))))
  by_cases c:q∈L
  ·rw[decide_eq_true ((tJ p I.sub V).mpr c)]
   exact b4 (aZ ⟨⟨ls,as,L,I.skip hq c⟩,_,_,_,rfl⟩)
  rw[decide_eq_false λz=>c ((tJ p I.sub V).mp z)]
  refine cP (aA (aI 6 eV.nd (lP (aU aMH O (aO [5,2] rfl (⟨ps,g,zs,q,Z,rfl,p,V,I.bg,λl b w Y=>⟨b,_,M',rfl,aD,Y,(Le.refl M').upd Y,?_⟩⟩))))))
  obtain⟨_,af⟩:=I.more p c w
  have lw:=w.len
  have lp:=w.pos
  have ae:∀r∈L++l,r∈Sx ps g zs:=λr ag=>(qp.mp ag).elim (I.sub r) (w.mem r)
  refine aA (cQ (gH (aB 6 rfl ⟨_, .inr '1',(⟨λj Γ' M1=>M1=aL M' ap (.dic hf0 ((L++l.take j).map (sdP ps g)) ((L++l.take j).map λ_ => .bl true))/\∃X,Γ'=[some (bL pairD.19 (g.map pairD) zs),some (.lst ((Sx ps g zs).map (sdP ps g))),some (.mt Z),some (.mt ap),some (.mt ar),some (sdP ps g q),some (.lst (sdP ps g).13),X],⟨by rw[Jx,vv,vU I.pa],_,rfl⟩,?_,?_⟩)⟩)))
  ·rintro j d Γ' M1 hd ⟨rfl,X,rfl⟩
   obtain⟨r,Q,rfl⟩:=bK hd
   have new:r∉L++l.take j:=zN af Q
   refine bV 7 eV.nd (aE (eA (eO (tZ (room9 O) (aB 3 rfl (aB 7 rfl (⟨ap,hf0,_,_,rfl,aD,aA1 ps g r (zC ps g _),by rw[zLm,qe,jv];exact jg (show _<=488 by omega) '$', .inl ⟨λz=>new ((tJ p (λy G=>ae y (aD0 G)) (w.mem r Q.7)).mp z),?_⟩⟩)))))))
   dsimp only
   refine⟨?_,_,rfl⟩
   rw[cD,take_snoc Q]
   simp only[qv,jo,h8,qx]
  rintro Γ' M1 ⟨rfl,X,rfl⟩
  rw[zLm,vk]
  have N:∀o,M' ap≠some (.ob o):=λo z=>by rw[I.pa] at z;cases z
  have am:ar≠P1:=λz=>by obtain⟨o,e⟩:=l7 I.l1;rw[<- z,I.rs] at e;cases e
  refine aE (dC (eC jy j1 j0 cS (⟨⟨rfl,_,(aF n2).trans I.rs⟩,aC (aU aMI O (fN [] [] (gH (aB 6 rfl ⟨_, .inr '1',(mV (ds:=l.map (sdP ps g)) (by rw[zLm];exact R.bQ '!') (λm acc M2=>M2=aL M' ap (.dic hf0 ((L++l).map (sdP ps g)) ((L++l).map λ_ => .bl true))/\acc=(l.take m).map (p0 ps g)) ⟨rfl,rfl⟩ ?_ ?_)⟩))).4.15.4)⟩).24))
  ·rintro m d acc M2 hd ⟨rfl,rfl⟩ _ _ _ _ _
   obtain⟨r,hm,rfl⟩:=bK hd
   exact fW (cP λ_ _ _ _ _=>(aU aL9 O (aO [0] rfl ⟨ps,g,r,rfl,(p.rng (w.mem r hm.7)).1,(z6 (aW (.tup _) rfl ⟨rfl,by rw[take_snoc hm,qv];rfl⟩))⟩)).11)
  rintro acc M2 ⟨rfl,rfl⟩
  rw[zLm,vk]
  refine aJ ⟨ps,g,zs,l,rfl,p,zy.mp lp,by omega,w.mem,eG I.l1 N,λu b v M3 a hu Y l3 k3 J => ?_⟩
  have r3:M3 ar=some (.lst (as.map .mt)):=k3 ar _ am ((aF n2).trans I.rs)
  have ah:ar≠a:=λz=>by rw[<- z,r3] at J;cases J
  have I2:=I.add p hP hq c w hu Y l3 k3 J
  refine aJ (cZ ((aF ah).trans r3) ?_ ?_)
  ·rw[zLm,I.at_.1]
   have:=(I.len p).2
   exact qw this '$'
  ·rw[show as.map D.mt++[D.mt a]=(as++[a]).map D.mt by rw[qv];rfl]
   exact⟨⟨_,_,_,I2⟩,_,_,_,rfl⟩
 rintro Γ' M' ⟨⟨ls,as,L,I⟩,v5,v6,X,rfl⟩
 rw[zLm] at I
 have lt:=(I.len p).2
 obtain⟨e1,e2,e3⟩:=I.at_
 refine jR 4 rfl I.rs (aE (aV (qL (Len:=(· < 64)) (End:=pM) uZ aGN (n:=3) (x := "points") ["yard"] [0] [bL pairD.19 (g.map pairD) zs] ⟨rfl,rfl,rfl,by decide +kernel,rfl,λy G=>by rw[qi] at G;subst G;rfl,by decide +kernel,λy G=>vA (a := "points") (by decide +kernel) y G⟩ (O.mono '$') T.sorted LK rfl hgP ?_.24 rfl rfl (λy G=>by rw[qi] at G;subst G;exact .inl rfl) (λy G=>aE4 y G) (λy G=>by rw[qi] at G;subst G;decide +kernel) (λcl pm c' aq u=>rfl) rfl)))
 have N:∀o,M' ar≠some (.ob o):=λo z=>by rw[I.rs] at z;cases z
 refine⟨as.map .mt,ls.map hdK,rfl,by rw[zLm];omega,by rw[zLm,zLm,e1],λt ht=>by obtain⟨l,_,rfl⟩:=q0.mp ht;unfold hdK;simp,aC7 I.l2 N,λM2 l2 U => ?_⟩
 have ad:∀x∈as,M2 x=M' x:=λx hx=>by
  obtain⟨m,hm⟩:=jd.mp hx
  have ml:=(hm.5).1
  have e:=e3 m x _ hm (zGe '!')
  rw[e]
  refine U x _ (λz => ?_) ((dD (I.fr x hx).2.2.2).trans e)
  obtain⟨o,ho⟩:=l7 I.l2
  rw[<- z,e] at ho;cases ho
 refine⟨?_,?_⟩
 ·rintro i d hd f' c' cl A' s' H' ai
  obtain⟨a,J,rfl⟩:=bK hd
  have O:=ai
  have il:=(J.5).1
  have hl:ls[i]?=some ls[i]:=zGe '!'
  generalize ls[i]=l at hl
  have ak:M2 a=some (.lst (p0 ps g).13):=(ad a J.7).trans (e3 i a l J hl)
  obtain⟨b,w,_⟩:=I.rg l hl.7
  obtain⟨_,a1,a2,_⟩:=p.rng (w.mem b w.at0.7)
  have Y:=w.hd
  refine aU aL8 O (z6 (aW (.mt ak) (aEQ ps g Y) (aJ ⟨ps,g,zs,b.x0,b.y0,rfl,p,a1,a2,⟨?_,rfl⟩⟩))).15.11.4.16.4
  rw[zGd,qm,hl]
  show _=tI (hdK l)
  unfold hdK
  rw[List.headD_eq_head?_getD,Y]
  rfl
 ·refine aCJ (by rw[zLm,zLm,e1]) λjs bk a J => ?_
  obtain⟨ok,at2⟩:=I.ok p rfl bk (M2:=M2) ad
  have jl:∀j∈js,j<as.length:=λj Q=>by have:=bk.2.1 j Q;rw[zLm] at this;omega
  have em:(js.map λi=>(as.map D.mt).getD i .non)=(js.map λj=>as.getD j 0).map D.mt:=by
   rw[wa]
   refine zw λj Q => ?_
   rw[zGd,qm,zGe (jl j Q)]
   show _=D.mt (as.getD j 0)
   rw[zGd,zGe (jl j Q)]
   rfl
  rw[em]
  have aj:∀x o,M' x=some o->x≠ar->x≠P2->M2 x=some o:=λx o e n n'=>U x o n' ((dD n).trans e)
  refine hk _ _ M2 a ok at2 (λx hx => ?_) ?_ l2 (λx o n n' e => ?_) J
  ·obtain⟨j,Q,rfl⟩:=q0.mp hx
   exact (I.fr _ (by rw[zGd,zGe (jl j Q)];exact ky _)).1
  ·exact aBG (aC7 I.l1 N) (aC7 I.l2 N) (vi hP) U
  ·exact aj x o (I.kp x o n e) (λz=>by rw[z,nr] at e;cases e) n'
end
end Q
namespace R
open PySem L2
noncomputable def bX(q:Qd):Nat:=(q.f+3)%4
noncomputable def sx(q:Qd)(n:Nat):Nat:=if q.f%2=0 then q.p else if q.f=1 then q.b+n else q.e-n
noncomputable def sy(q:Qd)(n:Nat):Nat:=if q.f%2=0 then (if q.f=2 then q.b+n else q.e-n) else q.p
def rT(zs:List Str)(nx ny x y d:Nat):Prop:=x<nx/\y<ny/\d<4/\b8 zs ((d+1)%4) x y=true
def d7(q:Qd)(x y d:Nat):Prop:=d=bX q/\∃n,n<q.e-q.b/\x=sx q n/\y=sy q n
section
variable (wf:Wf nx ny zs)
include wf
theorem aHS(h:q∈qsN zs nx ny 4)(hn:n<q.e-q.b):rT zs nx ny (sx q n) (sy q n) (bX q):=by
 obtain⟨g,i,k,d,j,_⟩:=gE h
 obtain⟨f,p,b,e⟩:=q
 unfold Lf at i
 unfold Nf at d
 dsimp only at *
 have c:∀a,b<=a->a<e->edge zs f p a=true:=λa g1 g2=>(j a g1 g2).2.2.2
 refine⟨?_,?_,?_,?_⟩
 ·unfold sx
  rcases four g with rfl|rfl|rfl|rfl <;> simp at i d ⊢ <;> omega
 ·unfold sy
  rcases four g with rfl|rfl|rfl|rfl <;> simp at i d ⊢ <;> omega
 ·unfold bX;omega
 ·rcases four g with rfl|rfl|rfl|rfl <;> simp only[bX,sx,sy] <;> simp
  ·have:=(edge0 zs p (e-n-1)).2
   rw[c _ '!' '!'] at this
   rw[show ((e-n:Nat):Int)=((e-n-1:Nat):Int)+1 by omega]
   exact this.symm
  ·have:=(edge1 zs p (b+n)).1
   rw[c _ '!' '!'] at this
   exact_mod_cast this.symm
  ·have:=(edge2 zs p (b+n)).1
   rw[c _ '!' '!'] at this
   exact_mod_cast this.symm
  ·have:=(edge3 zs p (e-n-1)).2
   rw[c _ '!' '!'] at this
   rw[show ((e-n:Nat):Int)=((e-n-1:Nat):Int)+1 by omega]
   exact this.symm
theorem aDJ{x:Nat}(h:rT zs nx ny x y d):∃q∈qsN zs nx ny 4,d7 q x y d:=by
 obtain⟨m,n,hd,j⟩:=h
 rcases four hd with rfl|rfl|rfl|rfl
 ·obtain⟨q,i,c,g,k,l⟩:=j4 wf (f:=1) (p:=y) (a:=x) '$' (by rw[(edge1 zs y x).1];exact j)
  exact⟨q,i,by unfold bX;rw[c],x-q.b,by omega,by unfold sx;simp[c];omega,by unfold sy;simp[c,g]⟩
 ·obtain⟨q,i,c,g,k,l⟩:=j4 wf (f:=2) (p:=x) (a:=y) '$' (by rw[(edge2 zs x y).1];exact j)
  exact⟨q,i,by unfold bX;rw[c],y-q.b,by omega,by unfold sx;simp[c,g],by unfold sy;simp[c];omega⟩
 ·cases x with
  |zero=>simp[b8,cV,bZ] at j
  |succ x =>
   obtain⟨q,i,c,g,k,l⟩:=j4 wf (f:=3) (p:=y) (a:=x) '$' (by rw[(edge3 zs y x).2];exact_mod_cast j)
   exact⟨q,i,by unfold bX;rw[c],q.e-(x+1),by omega,by unfold sx;simp[c];omega,by unfold sy;simp[c,g]⟩
 ·cases y with
  |zero=>simp[b8,cV,bR] at j
  |succ y =>
   obtain⟨q,i,c,g,k,l⟩:=j4 wf (f:=0) (p:=x) (a:=y) '$' (by rw[(edge0 zs x y).2];exact_mod_cast j)
   exact⟨q,i,by unfold bX;rw[c],q.e-(y+1),by omega,by unfold sx;simp[c,g],by unfold sy;simp[c];omega⟩
theorem vX{r:Qd}(hq:q∈qsN zs nx ny 4)(hr:r∈qsN zs nx ny 4){x:Nat}(h:d7 q x y d)(g:d7 r x y d):q=r:=by
 obtain⟨j,n,o,i,c⟩:=h
 obtain⟨g1,m,g2,g3,a⟩:=g
 have k:=(bM wf hq).1
 have l:=(bM wf hr).1
 have hf:q.f=r.f:=by unfold bX at j g1;omega
 have key:q.p=r.p/\q.b<r.e/\r.b<q.e:=by
  unfold sx at i g3
  unfold sy at c a
  rw[<- hf] at g3 a
  rcases four k with e|e|e|e <;> simp only[e] at i c g3 a <;> simp at i c g3 a <;> omega
 exact nR hq hr hf key.1 key.2.1 key.2.2
end
theorem aCH:∀f,f<4->∀sw se nw ne:Bool,(inB f sw se nw ne && !cV f sw se nw ne)=true->cV ((f+1)%4) sw se nw ne=(cV ((f+1)%4) sw se nw ne && !inB ((f+1)%4) sw se nw ne):=by decide
theorem sx0(q:Qd):sx q 0=q.x0:=by unfold sx Qd.x0;rfl
theorem sy0(q:Qd):sy q 0=q.y0:=by unfold sy Qd.y0;rfl
theorem sx1(h:q.b<q.e):sx q (q.e-q.b)=q.x1:=by unfold sx Qd.x1;split <;> (try split) <;> omega
theorem sy1(h:q.b<q.e):sy q (q.e-q.b)=q.y1:=by unfold sy Qd.y1;split <;> (try split) <;> omega
theorem s_ne(h4:q.f<4)(hn:n<q.e-q.b):¬(sx q n=q.x1/\sy q n=q.y1):=by
 unfold sx sy Qd.x1 Qd.y1
 rcases four h4 with e|e|e|e <;> simp only[e] <;> simp <;> omega
noncomputable def yK(i j i' j':Nat):Int:=if j=j'/\i≠i' then (if i<i' then 0 else 2) else if i=i'/\j≠j' then (if j<j' then 1 else 3) else -1
theorem nE(h4:q.f<4)(h:q.b<q.e):yK q.x0 q.y0 q.x1 q.y1=(bX q:Int):=by
 unfold yK Qd.x0 Qd.y0 Qd.x1 Qd.y1 bX
 rcases four h4 with e|e|e|e <;> simp only[e] <;> simp <;> (try split) <;> omega
theorem jL(h4:q.f<4)(hn:n<q.e-q.b):∃dx dy:Int,atI [Z.D.int 1, .int 0, .int (-1), .int 0] (bX q:Int)=some (.int dx)/\atI [Z.D.int 0, .int 1, .int 0, .int (-1)] (bX q:Int)=some (.int dy)/\(sx q n:Int)+dx=(sx q (n+1):Int)/\(sy q n:Int)+dy=(sy q (n+1):Int):=by
 unfold sx sy bX
 rcases four h4 with e|e|e|e <;> simp only[e] <;> refine⟨_,_,rfl,rfl,?_,?_⟩ <;> simp <;> omega
end R
namespace Q
open PySem L2 Z
noncomputable def ijI(q:R.Qd):List Int:=[(q.x0:Int),(q.y0:Int)]
noncomputable def ijD(q:R.Qd):D:=tI (ijI q)
abbrev Stp2(ps qs:List '%')(zs:List Str):Nat->Nat->Nat->Prop:=R.rT zs ps.length qs.length
structure RmS(ps qs:List '%')(zs:List Str):Prop extends Rm ps qs zs where
 sp:∀p∈ps,gB p
 sq:∀p∈qs,gB p
def aIF:Ct:=λds M k=>∃(ps qs:List '%') (zs:List Str),ds=[bL pairD.19 (qs.map pairD) zs]/\Rm ps qs zs/\(zs=[]->ps=[]/\qs=[])/\∀a ks,M a=none->R.Keys (Stp2 ps qs zs) ks->k (.mt a) (aL M a (.st ks))
def aAP:Ct:=λds M k=>∃(ps qs:List '%') (zs:List Str) (a:Addr) (l:List R.Qd),ds=[.mt a,bL pairD.19 (qs.map pairD) zs]/\RmS ps qs zs/\M a=some (.lst (p0 ps qs).13)/\4<=l.length/\l.length<=244/\(∀q∈l,q∈Sx ps qs zs)/\k (.lst ijD.13) M
def aH0:Ct:=λds M k=>∃i j i' j':Nat,ds=[tI [(i:Int),(j:Int)],tI [(i':Int),(j':Int)]]/\k (.int (R.yK i j i' j')) M
def aFS:Ct:=λds M k=>∃(q:R.Qd) (c:Addr) (ks:List Int.9) (P:Nat->Nat->Nat->Prop),ds=[tI [(q.x0:Int),(q.y0:Int)],tI [(q.x1:Int),(q.y1:Int)], .mt c]/\q.f<4/\q.b<q.e/\M c=some (.st ks)/\R.Keys P ks/\(∀n,n<q.e-q.b->P (R.sx q n) (R.sy q n) (R.bX q))/\∀ks',R.Keys (λx y d=>P x y d/\¬R.d7 q x y d) ks'->k (.bl true) (aL M c (.st ks'))
def aCG:Ct:=λds M k=>∃(ps qs:List '%') (zs:List Str) (a:R.Qd) (l:List R.Qd) (ks:List Int.9),ds=[.lst ijD.13, .st ks]/\Rm ps qs zs/\R.Rng zs.20 (Nxt ps qs zs) a l/\R.Keys (Stp2 ps qs zs) ks/\k (.bl true) M
def aDL:Ct:=λds M k=>∃(ps qs:List '%') (zs:List Str) (q:Addr) (as:List Addr) (ls:List R.Qd.9),ds=[.mt q,bL pairD.19 (qs.map pairD) zs]/\RmS ps qs zs/\(zs=[]->ps=[]/\qs=[])/\M q=some (.lst (as.map .mt))/\RimsOk ps qs zs ls/\iB ps qs M as ls/\∀M',Le M M'->k (.bl true) M'
def kZ(P1 P2:Addr)(o1 o2:Pos)(q1 q2:Str):Ct:=λds M k=>∃ns:List Int,ds=[.fl (ns.map .int)]/\ns.length<=63/\bJ P1 o1 q1 M/\bJ P2 o2 q2 M/\∀M',k (.bl true) M'
noncomputable def oX:List Int.9:=(qz 12).flatMap λ(x:Nat)=>(qz 12).flatMap λ(y:Nat)=>(qz 4).map λ(d:Nat)=>[(x:Int),(y:Int),(d:Int)]
theorem zK{x:Nat}(h1:x<12)(h2:y<12)(h3:d<4):[(x:Int),(y:Int),(d:Int)]∈oX:=
 wb.mpr ⟨x,j2.mpr h1,wb.mpr ⟨y,j2.mpr h2,q0.mpr ⟨d,j2.mpr h3,rfl⟩⟩⟩
theorem yU:(oX.map jE).Nodup:=R.vG (by decide +kernel)
theorem yR{P:Nat->Nat->Nat->Prop}(h:R.Keys P ks)(hs:∀x y d,P x y d->x<12/\y<12/\d<4):(ks.map jE).Nodup/\ks.length<=576:=by
 have a:∀c∈ks,c∈oX:=λc i=>by
  obtain⟨x,y,d,rfl,b⟩:=(h.iff c).mp i
  obtain⟨g,k,j⟩:=hs x y d b
  exact zK g k j
 refine⟨R.rZ h.nd λx f y l e=>R.lG yU x (a x f) y (a y l) e,?_⟩
 have:=R.hV ks oX h.nd a
 rwa [show oX.length=576 by decide +kernel] at this
def Lr(zs:List Str)(nx j i x y d:Nat):Prop:=x<nx/\d<4/\R.b8 zs ((d+1)%4) x y=true/\(d=1/\(y<j\/y=j/\x<i)\/d=3/\0<y/\(y<=j\/y=j+1/\x<i))
def Lc(zs:List Str)(nx ny h j i x y d:Nat):Prop:=Lr zs nx h 0 x y d\/y<ny/\d<4/\R.b8 zs ((d+1)%4) x y=true/\(d=0/\(x<j\/x=j/\y<i)\/d=2/\0<x/\(x<=j\/x=j+1/\y<i))
theorem aEP{x:Nat}(hx:nx<=12)(hj:j<11\/j=11/\i=0)(h:Lr zs nx j i x y d):x<12/\y<12/\d<4:=by
 obtain⟨h1,h2,_,h3⟩:=h
 omega
theorem aLT{h x:Nat}(hx:nx<=12)(hy:ny<=12)(hh:h<=11)(hj:j<11\/j=11/\i=0)(g:Lc zs nx ny h j i x y d):x<12/\y<12/\d<4:=by
 rcases g with g|⟨b,a,_,c⟩
 ·exact aEP hx '!' g
 ·omega
theorem aGT{x:Nat}:¬Lr zs nx 0 0 x y d:=λ⟨_,_,_,h⟩=>by omega
theorem aI4{x:Nat}:Lr zs nx j nx x y d↔Lr zs nx (j+1) 0 x y d:=by
 constructor <;> (rintro⟨h1,h2,h3,h4⟩;exact⟨h1,h2,h3,by omega⟩)
theorem aIE{h x:Nat}:Lc zs nx ny h j ny x y d↔Lc zs nx ny h (j+1) 0 x y d:=by
 constructor <;> (rintro (g|⟨h1,h2,h3,h4⟩);exact .inl g;exact .inr ⟨h1,h2,h3,by omega⟩)
theorem aGW{h x:Nat}:Lr zs nx h 0 x y d↔Lc zs nx ny h 0 0 x y d:=by
 constructor
 ·exact .inl
 ·rintro (g|⟨h1,h2,h3,h4⟩)
  ·exact g
  ·omega
theorem aE0(zs:List Str)(k j:Nat):R.b8 zs ((1+1)%4) k j=(R.aH zs ((k:Int)-1) j && !R.aH zs k j):=rfl
theorem aER(zs:List Str)(k j:Nat):R.b8 zs ((3+1)%4) k ((j+1:Nat):Int)=(R.aH zs k j && !R.aH zs ((k:Int)-1) j):=by
 show (R.aH zs k (((j+1:Nat):Int)-1) && !R.aH zs ((k:Int)-1) (((j+1:Nat):Int)-1))=_
 rw[show ((j+1:Nat):Int)-1=(j:Int) by omega]
theorem aEV(zs:List Str)(k j:Nat):R.b8 zs ((0+1)%4) k j=(R.aH zs k j && !R.aH zs k ((j:Int)-1)):=rfl
theorem aEU(zs:List Str)(k j:Nat):R.b8 zs ((2+1)%4) ((k+1:Nat):Int) j=(R.aH zs k ((j:Int)-1) && !R.aH zs k j):=by
 show (R.aH zs (((k+1:Nat):Int)-1) ((j:Int)-1) && !R.aH zs (((k+1:Nat):Int)-1) (j:Int))=_
 rw[show ((k+1:Nat):Int)-1=(k:Int) by omega]
theorem pE{x:Nat}(hi:i<nx):Lr zs nx j (i+1) x y d↔Lr zs nx j i x y d\/(x=i/\y=j/\d=1/\(R.aH zs ((i:Int)-1) j && !R.aH zs i j)=true)\/(x=i/\y=j+1/\d=3/\(R.aH zs i j && !R.aH zs ((i:Int)-1) j)=true):=by
 constructor
 ·rintro⟨b,c,a,e⟩
  by_cases g:x=i/\y=j/\d=1
  ·obtain⟨rfl,rfl,rfl⟩:=g
   exact .inr (.inl ⟨rfl,rfl,rfl,by rw[<- aE0];exact a⟩)
  by_cases f:x=i/\y=j+1/\d=3
  ·obtain⟨rfl,rfl,rfl⟩:=f
   exact .inr (.inr ⟨rfl,rfl,rfl,by rw[<- aER];exact a⟩)
  ·exact .inl ⟨b,c,a,by omega⟩
 ·rintro (⟨b,c,a,e⟩|⟨rfl,rfl,rfl,h⟩|⟨rfl,rfl,rfl,h⟩)
  ·exact⟨b,c,a,by omega⟩
  ·exact⟨hi,by decide,by rw[aE0];exact h,by omega⟩
  ·exact⟨hi,by decide,by rw[aER];exact h,by omega⟩
theorem pS{h x:Nat}(hi:i<ny):Lc zs nx ny h j (i+1) x y d↔Lc zs nx ny h j i x y d\/(x=j/\y=i/\d=0/\(R.aH zs j i && !R.aH zs j ((i:Int)-1))=true)\/(x=j+1/\y=i/\d=2/\(R.aH zs j ((i:Int)-1) && !R.aH zs j i)=true):=by
 constructor
 ·rintro (g|⟨b,c,a,e⟩)
  ·exact .inl (.inl g)
  by_cases k:x=j/\y=i/\d=0
  ·obtain⟨rfl,rfl,rfl⟩:=k
   exact .inr (.inl ⟨rfl,rfl,rfl,by rw[<- aEV];exact a⟩)
  by_cases f:x=j+1/\y=i/\d=2
  ·obtain⟨rfl,rfl,rfl⟩:=f
   exact .inr (.inr ⟨rfl,rfl,rfl,by rw[<- aEU];exact a⟩)
  ·exact .inl (.inr ⟨b,c,a,by omega⟩)
 ·rintro ((g|⟨b,c,a,e⟩)|⟨rfl,rfl,rfl,h⟩|⟨rfl,rfl,rfl,h⟩)
  ·exact .inl g
  ·exact .inr ⟨b,c,a,by omega⟩
  ·exact .inr ⟨hi,by decide,by rw[aEV];exact h,by omega⟩
  ·exact .inr ⟨hi,by decide,by rw[aEU];exact h,by omega⟩
theorem aHV{ps:List '%'}(rm:Rm ps qs zs){h w x:Nat}(e1:h=qs.length-1)(e2:w=ps.length-1)(hr:zs.length=h):Lc zs ps.length qs.length h w 0 x y d↔Stp2 ps qs zs x y d:=by
 have wf:=rm.wf
 have cr:∀{i j:Int},R.aH zs i j=true->0<=i/\i<((ps.length-1:Nat):Int)/\0<=j/\j<(zs.length:Int):=λ{i j} h=>by
  refine⟨?_,?_,?_,?_⟩ <;> apply jf <;> intro z
  ·rw[R.bZ '!'] at h;cases h
  ·rw[R.g9 wf.good '!'] at h;cases h
  ·rw[R.bR '!'] at h;cases h
  ·rw[R.b9 '!'] at h;cases h
 have k:∀d,d<4->R.b8 zs ((d+1)%4) x y=true->(d=0->x<ps.length-1/\y<h)/\(d=1->0<x/\x<=ps.length-1/\y<h)/\(d=2->0<x/\x<=ps.length-1/\0<y/\y<=h)/\(d=3->x<ps.length-1/\0<y/\y<=h):=λd hd l=>by
  rcases R.four hd with rfl|rfl|rfl|rfl <;> simp[R.b8,R.cV] at l <;> (have c:=cr l.1;refine⟨?_,?_,?_,?_⟩ <;> intro z <;> (try cases z) <;> omega)
 constructor
 ·rintro (⟨g,b,a,f⟩|⟨g,b,a,f⟩)
  ·have o:=k d b a
   exact⟨g,by omega,b,a⟩
  ·have o:=k d b a
   exact⟨by omega,g,b,a⟩
 ·rintro⟨g,b,a,f⟩
  have o:=k d a f
  by_cases e:d=1\/d=3
  ·exact .inl ⟨g,a,f,by omega⟩
  ·exact .inr ⟨b,a,f,by omega⟩
theorem iG{z:Str}{k a b:Nat}(h1:z.cps.toList[k]?=some a)(h2:z.cps.toList[k+1]?=some b):pN z (k:Int).3 ((k:Int)+2).3=R.ofL [a,b]:=by
 obtain⟨d,f⟩:=zGs h1
 obtain⟨c,e⟩:=zGs h2
 unfold pN j6 R.ofL
 congr 2
 rw[show HT.sIx z.cps.toList.length 0 (k:Int).3=min k z.cps.toList.length from HT.mC _ _ k,show HT.sIx z.cps.toList.length z.cps.toList.length ((k:Int)+2).3=min (k+2) z.cps.toList.length from HT.mC _ _ (k+2),fi '!',fi '!',show k+2-k=2 by omega]
 rw[yl d,yl c,f,e]
 rfl
theorem nM(a b:Bool):decide ((R.ofL [R.sg a,R.sg b])=("#." : Str))=(a && !b):=by cases a <;> cases b <;> decide +kernel
theorem pW(a b:Bool):decide ((R.ofL [R.sg a,R.sg b])=(".#" : Str))=(b && !a):=by cases a <;> cases b <;> decide +kernel
theorem aIG(h:R.Keys (Lr zs nx j i) ks)(hx:nx<=12)(hj:j<11\/j=11/\i=0):ks.length<=576:=(yR h λ_ _ _=>aEP hx hj).2
theorem aJF{h:Nat}(g:R.Keys (Lc zs nx ny h j i) ks)(hx:nx<=12)(hy:ny<=12)(hh:h<=11)(hj:j<11\/j=11/\i=0):ks.length<=576:=(yR g λ_ _ _=>aLT hx hy hh hj).2
theorem fM{a b:Bool}(h:(a && !b)=true):(b && !a)=false:=by cases a <;> cases b <;> simp_all
theorem lr_a{x:Nat}(hi:i<nx)(c:(R.aH zs ((i:Int)-1) j && !R.aH zs i j)=true):(Lr zs nx j i x y d\/(x=i/\y=j/\d=1))↔Lr zs nx j (i+1) x y d:=by
 rw[pE hi,c,fM c];simp
theorem lr_b{x:Nat}(hi:i<nx)(c:(R.aH zs i j && !R.aH zs ((i:Int)-1) j)=true):(Lr zs nx j i x y d\/(x=i/\y=j+1/\d=3))↔Lr zs nx j (i+1) x y d:=by
 rw[pE hi,c,fM c];simp
theorem lr_c{x:Nat}(hi:i<nx)(c:(R.aH zs ((i:Int)-1) j && !R.aH zs i j)=false)(c':(R.aH zs i j && !R.aH zs ((i:Int)-1) j)=false):Lr zs nx j i x y d↔Lr zs nx j (i+1) x y d:=by
 rw[pE hi,c,c'];simp
theorem lc_a{h x:Nat}(hi:i<ny)(c:(R.aH zs j i && !R.aH zs j ((i:Int)-1))=true):(Lc zs nx ny h j i x y d\/(x=j/\y=i/\d=0))↔Lc zs nx ny h j (i+1) x y d:=by
 rw[pS hi,c,fM c];simp
theorem lc_b{h x:Nat}(hi:i<ny)(c:(R.aH zs j ((i:Int)-1) && !R.aH zs j i)=true):(Lc zs nx ny h j i x y d\/(x=j+1/\y=i/\d=2))↔Lc zs nx ny h j (i+1) x y d:=by
 rw[pS hi,c,fM c];simp
theorem lc_c{h x:Nat}(hi:i<ny)(c:(R.aH zs j i && !R.aH zs j ((i:Int)-1))=false)(c':(R.aH zs j ((i:Int)-1) && !R.aH zs j i)=false):Lc zs nx ny h j i x y d↔Lc zs nx ny h j (i+1) x y d:=by
 rw[pS hi,c,c'];simp
theorem aLS(b:Bool):atI [D.int 2, .int 0] (if b=true then 1 else 0)=some (.int (if b=true then 0 else 2)):=by cases b <;> rfl
theorem aLM(b:Bool):atI [D.int 3, .int 1] (if b=true then 1 else 0)=some (.int (if b=true then 1 else 3)):=by cases b <;> rfl
theorem room0{k:Nat}(hr:Room k A):A.in1.units<cLine:=by have:=hr.un;show A.units+1<_;omega
theorem wY{α:Type}{f:R.Qd->α}{k:Nat}(hk:k<l.length){r:R.Qd}(h:l[(k+l.length-1)%l.length]?=some r):atI f.13 ((k:Int)-1)=some (f r):=by
 cases k with
 |zero =>
  rw[show (0+l.length-1)%l.length=l.length-1 by rw[y3];exact kf '!'] at h
  unfold atI ixN
  rw[if_neg '!',if_pos (by rw[zLm];omega),zLm]
  show (f.13)[((((0:Nat):Int)-1)+(l.length:Int)).toNat]?=_
  rw[show ((((0:Nat):Int)-1)+(l.length:Int)).toNat=l.length-1 by omega,qm,h];rfl
 |succ k =>
  rw[show (k+1+l.length-1)%l.length=k by rw[show k+1+l.length-1=k+l.length by omega,xq];exact kf '!'] at h
  rw[show ((k+1:Nat):Int)-1=(k:Int) by omega]
  exact bU (by rw[qm,h];rfl)
theorem aED{α:Type}{f:R.Qd->α}{k:Nat}(hk:k<l.length)(h2:2<=l.length){r:R.Qd}(h:l[(k+l.length-2)%l.length]?=some r):atI f.13 ((k:Int)-2)=some (f r):=by
 by_cases c:k<2
 ·rw[show (k+l.length-2)%l.length=k+l.length-2 from kf '!'] at h
  unfold atI ixN
  rw[if_neg '!',if_pos (by rw[zLm];omega),zLm]
  show (f.13)[(((k:Int)-2)+(l.length:Int)).toNat]?=_
  rw[show (((k:Int)-2)+(l.length:Int)).toNat=k+l.length-2 by omega,qm,h];rfl
 ·rw[show (k+l.length-2)%l.length=k-2 by rw[show k+l.length-2=k-2+l.length by omega,xq];exact kf '!'] at h
  rw[show (k:Int)-2=((k-2:Nat):Int) by omega]
  exact bU (by rw[qm,h];rfl)
theorem k8{S:List R.Qd}{N:R.Qd->R.Qd->Prop}{a:R.Qd}(w:R.Rng S N a l){k:Nat}{t:R.Qd}(ht:l[k]?=some t):∃r,l[(k+l.length-1)%l.length]?=some r/\N r t:=by
 have c:=w.pos
 have b:=(ht.5).1
 have hm:(k+l.length-1)%l.length<l.length:=Jb _ c
 obtain⟨s,d,hl⟩:=w.nxt (zGe hm)
 have e:((k+l.length-1)%l.length+1)%l.length=k:=by
  rw[Nat.mod_add_mod,show k+l.length-1+1=k+l.length by omega,xq];exact kf b
 rw[e,ht] at hl
 cases hl
 exact⟨_,zGe hm,d⟩
theorem xT{S:List R.Qd}{N:R.Qd->R.Qd->Prop}{a:R.Qd}(w:R.Rng S N a l)(h2:2<=l.length){k:Nat}{t:R.Qd}(ht:l[k]?=some t):∃q r,l[(k+l.length-2)%l.length]?=some q/\l[(k+l.length-1)%l.length]?=some r/\N q r/\N r t:=by
 have g:=(ht.5).1
 obtain⟨r,b,e⟩:=k8 w ht
 obtain⟨q,d,f⟩:=k8 w b
 refine⟨q,r,?_,b,f,e⟩
 rw[<- d]
 congr 1
 by_cases c:k=0
 ·subst c
  rw[show (0+l.length-1)%l.length=l.length-1 by rw[y3];exact kf '!']
  rw[show l.length-1+l.length-1=0+l.length-2+l.length by omega,xq]
 ·rw[show (k+l.length-1)%l.length=k-1 by rw[show k+l.length-1=k-1+l.length by omega,xq];exact kf '!']
  congr 1
  omega
end Q
namespace R
open PySem L2
theorem aKY(h4:q.f<4)(be:q.b<q.e){t:Nat}(hn:n<q.e-q.b)(ht:t<q.e-q.b)(e1:sx q n=sx q t)(e2:sy q n=sy q t):n=t:=by
 unfold sx at e1
 unfold sy at e2
 rcases four h4 with e|e|e|e <;> simp only[e] at e1 e2 <;> simp at e1 e2 <;> omega
end R
namespace Q
open PySem L2 Z
theorem aKU{b:Bool}{P Q:Prop}(h:b=true)(p:P):if b=true then P else Q:=by rw[if_pos h];exact p
theorem xH{b:Bool}{P Q:Prop}(h:b=false)(p:Q):if b=true then P else Q:=by rw[if_neg (by rw[h];exact zBf)];exact p
theorem aKP{i' j':Nat}(h:¬(i=i'/\j=j')):(!eqD (tI [(i:Int),(j:Int)]) (tI [(i':Int),(j':Int)]))=true:=by
 show (!((i:Int)==(i':Int)&&((j:Int)==(j':Int)&&true)))=true
 by_cases a:i=i' <;> by_cases b:j=j' <;> simp[a,b] <;> simp_all <;> omega
theorem aCA{ps:List '%'}(rm:Rm ps qs zs){r:R.Qd}(hq:q∈Sx ps qs zs)(n:Nxt ps qs zs q r)(hks:R.Keys (Stp2 ps qs zs) ks):
  ((R.bX q:Int)+1)%4=(q.f:Int)/\((R.bX r:Int)-(R.bX q:Int))%2=1/\decide ([(r.x0:Int),(r.y0:Int),(q.f:Int)]∈ks)=decide ((R.bX r:Int)=(q.f:Int)):=by
 obtain⟨b,_,_,x1,y1⟩:=rm.rng hq
 obtain⟨h,_⟩:=rm.rng n.1
 have e:=R.j3 rm.wf hq
 obtain⟨_,d,g,a⟩:=n
 have to:R.b8 zs ((q.f+1)%4) q.x1 q.y1=R.eB zs ((q.f+1)%4) q.x1 q.y1:=R.aCH q.f b _ _ _ _ e
 refine⟨by unfold R.bX;omega,?_,?_⟩
 ·unfold R.bX
  split at a <;> omega
 ·refine decide_eq_decide.mpr (hks.mem.trans ?_)
  rw[d,g]
  unfold Stp2 R.rT R.bX
  rw[to]
  split at a
  ·rename_i c;rw[c];exact⟨λ_=>by omega,λ_=>⟨x1,y1,b,rfl⟩⟩
  ·rename_i c;exact⟨λz=>absurd z.2.2.2 c,λz=>by omega⟩
theorem aKC{ps:List '%'}(rm:Rm ps qs zs)(x y d:Nat)(h:Stp2 ps qs zs x y d):x<12/\y<12/\d<4:=by
 have:=rm.lx
 have:=rm.ly
 obtain⟨h1,h2,h3,_⟩:=h
 omega
theorem aK5{b:R.Qd}(h:l.head?=some b):atI ijD.13 0=some (ijD b):=by
 cases l with
 |nil=>cases h
 |cons a l=>cases h;exact bU (j:=0) rfl
theorem aIV{K:Fg}{b:R.Qd}(hb:l.head?=some b)(h:∀r∈l,R.PLe b r)(hk:k (ijD b) M):OpN K (xM K) [.lst ijD.13] M k:=by
 have e:l.map ijD=(ijI.13).map tI:=by rw[wa];rfl
 have a:0<l.length:=by cases l with|nil=>cases hb|cons _ _=>simp
 rw[e]
 refine aFN (by rw[zLm];exact a) λi t d f => ?_
 obtain⟨q,c,rfl⟩:=bK d
 have h0:=f 0 (by rw[zLm];exact a)
 have j:l[0]?=some b:=by rw[<- di];exact hb
 rw[zGd,qm,j] at h0
 have n:¬((b.x0:Int)<q.x0\/(b.x0:Int)=q.x0/\(b.y0:Int)<q.y0):=λz=>zBf (h0.symm.trans (jS.mpr z))
 have g:=h q c.7
 unfold R.PLe at g
 have m:ijI q=ijI b:=by unfold ijI;rw[show q.x0=b.x0 by omega,show q.y0=b.y0 by omega]
 rw[m]
 exact hk
theorem yF{p:Addr}{pos:Pos}{ql:Str}{b:Int}(h:bJ Pt pos ql M)(hF:FdM M p b)(hB:cF p M M'):bJ Pt pos ql M':=nG h λa o e=>hB a _ (λz=>by obtain⟨_,_,_,f,_⟩:=hF;rw[<- z,e] at f;cases f) e
theorem aFE{xs:List D}(h:YardOk xs ys zs):∃ps qs:List '%',xs=ps.map pairD/\ys=qs.map pairD/\RmS ps qs zs/\(zs=[]->ps=[]/\qs=[]):=by
 have wf:=h.wf
 have few:=h.few
 have full:=h.full
 obtain⟨ps,qs,rfl,rfl,f,d,_,_⟩:=yA h
 obtain⟨c,g⟩:=aFT h
 rw[zLm,zLm] at wf few
 exact⟨ps,qs,rfl,rfl,⟨⟨wf,few.1,few.2,c,g⟩,f,d⟩,λe=>by obtain⟨a,b⟩:=full e;exact⟨fz.mp a,fz.mp b⟩⟩
theorem nest{N:Mem}{x:Addr}{ps:List '%'}{as:List Addr}{m:Nat}{b:R.Qd}(h1:N a=some (.lst (p0 ps qs).13))(h2:N a=some (.lst (as.map .mt)))(hx:as[m]?=some x)(hb:l.head?=some b):False:=by
 rw[h1] at h2
 have e:l.map (p0 ps qs)=as.map D.mt:=by injection h2 with h2;injection h2
 have c:=congrArg (λz=>z[0]?) e
 have d:l[0]?=some b:=by rw[<- di];exact hb
 rw[qm,qm,d] at c
 cases q:as[0]? with
 |none=>rw[q] at c;cases c
 |some y=>rw[q] at c;injection c with c;cases c
theorem RimsOk.fewer{ps:List '%'}(rm:Rm ps qs zs)(ok:RimsOk ps qs zs ls):ls.length<=244:=by
 have e:=R.hV ls.flatten zs.20 ok.nd λq d=>by
  obtain⟨l,hl,c⟩:=zl.mp d
  obtain⟨a,w,_⟩:=ok.rg l hl
  exact w.mem q c
 have:=rm.few
 have one:∀ls:List R.Qd.9,(∀l∈ls,0<l.length)->ls.length<=ls.flatten.length:=λls=>by
  induction ls with
  |nil=>intro _;simp
  |cons l ls ih =>
   intro hl
   have a:=hl l (.head _)
   have b:=ih λm hm=>hl m (.tail _ hm)
   rw[vo,qe,qy]
   omega
 have:=one ls λl hl=>by obtain⟨a,w,_⟩:=ok.rg l hl;exact w.pos
 omega
theorem aB0{as:List Addr}(ok:RimsOk [] [] [] ls)(h:iB [] [] M as ls):as.map D.mt=[]:=by
 cases ls with
 |nil=>have:=h.1;simp at this;subst this;rfl
 |cons l ls =>
  obtain⟨a,w,_⟩:=ok.rg l (.head _)
  have:=w.mem a w.at0.7
  rw[show Sx [] [] []=[] from rfl] at this
  cases this
section
variable {ps:List (Int×Int)}{m:Nat}{a r:R.Qd}{x:Nat}
theorem aDS{P:Nat->Nat->Nat->Prop}(hr:l[(m+l.length-1)%l.length]?=some r):((P x y d/\¬ ∃t,t<m/\∃r,l[(t+l.length-1)%l.length]?=some r/\R.d7 r x y d)/\¬R.d7 r x y d)↔(P x y d/\¬ ∃t,t<m+1/\∃r,l[(t+l.length-1)%l.length]?=some r/\R.d7 r x y d):=by
 constructor
 ·rintro⟨⟨b,a⟩,h⟩
  refine⟨b,λ⟨t,g,s,c,f⟩ => ?_⟩
  by_cases e:t=m
  ·subst e;rw[hr] at c;cases c;exact h f
  ·exact a ⟨t,by omega,s,c,f⟩
 ·rintro⟨b,a⟩
  exact⟨⟨b,λ⟨t,g,z⟩=>a ⟨t,by omega,z⟩⟩,λz=>a ⟨m,by omega,r,hr,z⟩⟩
theorem aHE(lp:0<l.length):r∈l↔∃t,t<l.length/\l[(t+l.length-1)%l.length]?=some r:=by
 constructor
 ·intro h
  obtain⟨j,a⟩:=jd.mp h
  have b:=(a.5).1
  refine⟨(j+1)%l.length,Jb _ lp,?_⟩
  by_cases c:j+1<l.length
  ·rw[kf c,show j+1+l.length-1=j+l.length by omega,xq,kf b];exact a
  ·rw[show j+1=l.length by omega,Qh,y3,kf '!',show l.length-1=j by omega];exact a
 ·rintro⟨t,_,h⟩
  exact zMo h
theorem aEE{P:Nat->Nat->Nat->Prop}(hl:ls[i]?=some l){S:List R.Qd}{N:R.Qd->R.Qd->Prop}(w:R.Rng S N a l):((P x y d/\¬ ∃r∈(ls.take i).flatten,R.d7 r x y d)/\¬ ∃t,t<l.length/\∃r,l[(t+l.length-1)%l.length]?=some r/\R.d7 r x y d)↔(P x y d/\¬ ∃r∈(ls.take (i+1)).flatten,R.d7 r x y d):=by
 have k:=w.pos
 rw[take_snoc hl,xx,yb]
 constructor
 ·rintro⟨⟨h,f⟩,m⟩
  refine⟨h,λ⟨s,c,b⟩ => ?_⟩
  rcases qp.mp c with g|g
  ·exact f ⟨s,g,b⟩
  ·obtain⟨t,j,e⟩:=(aHE k).mp g
   exact m ⟨t,j,s,e,b⟩
 ·rintro⟨h,f⟩
  exact⟨⟨h,λ⟨s,c,b⟩=>f ⟨s,q7 _ c,b⟩⟩,λ⟨t,j,s,c,b⟩=>f ⟨s,qb _ c.7,b⟩⟩
theorem zV(rm:Rm ps qs zs)(ok:RimsOk ps qs zs ls)(hl:ls[i]?=some l)(w:R.Rng zs.20 (Nxt ps qs zs) a l)(hm:m<l.length)(hr:l[(m+l.length-1)%l.length]?=some r)(n:Nat)(hn:n<r.e-r.b):
  (Stp2 ps qs zs (R.sx r n) (R.sy r n) (R.bX r)/\¬ ∃s∈(ls.take i).flatten,R.d7 s (R.sx r n) (R.sy r n) (R.bX r))/\¬ ∃t,t<m/\∃s,l[(t+l.length-1)%l.length]?=some s/\R.d7 s (R.sx r n) (R.sy r n) (R.bX r):=by
 have wf:=rm.wf
 have h:=w.mem r hr.7
 have own:R.d7 r (R.sx r n) (R.sy r n) (R.bX r):=⟨rfl,n,hn,rfl,rfl⟩
 refine⟨⟨R.aHS wf h hn,λ⟨s,g,o⟩ => ?_⟩,λ⟨t,C,s,g,o⟩ => ?_⟩
 ·obtain⟨q,hl2,c⟩:=zl.mp g
  obtain⟨j,d⟩:=jd.mp hl2
  have u:=(d.5).1
  rw[jv] at u
  rw[y2 '!'] at d
  obtain⟨b,y,_⟩:=ok.rg q d.7
  have e:=R.vX wf (y.mem s c) h o own
  subst e
  have nd:=ok.nd
  unfold pj at nd
  rw[Qc] at nd
  obtain⟨x,x1⟩:=zGs d
  obtain⟨v,A⟩:=zGs hl
  have:=jz.mp nd.2 j i x v '!'
  rw[x1,A] at this
  exact this s c s hr.7 rfl
 ·have e:=R.vX wf (w.mem s g.7) h o own
  subst e
  have p:(t+l.length-1)%l.length<l.length:=Jb _ w.pos
  have:=(v9 p w.nd).mp (g.trans hr.symm)
  have f:∀k,k<l.length->(k+l.length-1)%l.length=if k=0 then l.length-1 else k-1:=λk B=>by
   split
   ·rename_i z;subst z;rw[y3];exact kf '!'
   ·rw[show k+l.length-1=k-1+l.length by omega,xq];exact kf '!'
  rw[f t '!',f m hm] at this
  split at this <;> split at this <;> omega
end
end Q
namespace Q
open PySem L2 Z
section
variable {K:qg}{z:Heap}
theorem c9:FnScope ["_law_yard_here", "_law_xs", "_law_ys", "_law_rows", "_law_found", "_law_j", "_law_row", "_law_k", "_law_columns", "_law_column"] ["_law_yard_here"] (aK mL):=zSc
abbrev vH(P w K mg z):=Fo P w K mg z "_law_steps" mL ["_law_yard_here"] 2 aIF
theorem aDR(Df:R.Df K mg "_law_steps" mL ["_law_yard_here"] f fd)(aL4:nX P w K mg z)(T:Bt mg):vH P w K mg z:=by
 refine⟨f,fd,Df,bP Df c9 (λds M k h => ?_) (λV A outer s H E u ds M k h => ?_)⟩
 ·obtain⟨ps,l,zs,rfl,_⟩:=h;rfl
 obtain⟨ps,l,zs,rfl,x,full,C⟩:=h
 have wf:=x.wf
 have lx:=x.lx
 have ly:=x.ly
 have J:=aGJ wf
 have r:=aBS (xs:=ps.map pairD) (ys:=l.map pairD) (by rw[zLm,zLm];exact wf) (λe=>by obtain⟨G,L⟩:=full e;subst G L;exact⟨rfl,rfl⟩)
 rw[zLm] at r
 have v:=wf.good
 have gc:=R.aBN v
 refine aA (eA (pF [1,2,3] c9.nd rfl (aA (aI 4 c9.nd (wX λa D=>(aA (cQ (cW T.range (aO [3] rfl (cH (.tup _) (aJ ?_))).25.4))))))).15)
 rw[zLm]
 refine⟨_,rfl,by omega,by omega,?_⟩
 rw[jj]
 refine⟨λj Γ' M'=>(∃c,M'=aL M a (.st c)/\R.Keys (Lr zs ps.length j 0) c)/\∃p v6 q t o,Γ'=[some (bL pairD.19 pairD.13 zs),some (.tup pairD.19),some (.tup pairD.13),some (.tup (zs.map .str)),some (.mt a),p,v6,q,t,o],⟨⟨[],rfl, .nil λ_ _ _=>aGT⟩,_,_,_,_,_,rfl⟩,?_,?_⟩
 ·rintro j d Γ' M' hd ⟨⟨c,rfl,b⟩,p,v6,q,t,o,rfl⟩
  obtain⟨B,rfl⟩:=bS hd
  rw[vr]
  obtain⟨z,n⟩:∃z,zs[j]?=some z:=⟨zs[j],by simp[B]⟩
  have y:=(v z n.7).1
  have m:=oA z '!'
  have g:(R.ofL (46::z.cps.toList++[46])).length<=sizeLine:=wO z '!'
  refine bV 5 c9.nd (aA (aI 6 c9.nd (bB g8 (bB g8 (ge_str (aB 3 rfl (aB 5 rfl (aW (.tup _) (by have:=qA n;rw[vr] at this;exact this) (lS m.1 (ge_str (lS m.2 ?_)))))).11)))))
  rw[dotted]
  refine aE (cQ (cW T.range (aO [1] rfl (cH (.tup _) (aJ ?_))).25.4))
  rw[zLm]
  refine⟨_,rfl,by omega,by omega,?_⟩
  rw[jj]
  refine⟨λi Γ' M'=>(∃c,M'=aL M a (.st c)/\R.Keys (Lr zs ps.length j i) c)/\∃q t o,Γ'=[some (bL pairD.19 pairD.13 zs),some (.tup pairD.19),some (.tup pairD.13),some (.tup (zs.map .str)),some (.mt a),some (.int (j:Int)),some (.str (R.ofL (46::z.cps.toList++[46]))),q,t,o],⟨⟨c,rfl,b⟩,_,_,_,rfl⟩,?_,?_⟩
  ·rintro i d Γ' M' hd ⟨⟨c,rfl,b⟩,S,N,I,rfl⟩
   obtain⟨O,rfl⟩:=bS hd
   rw[vr]
   obtain⟨r1,r2⟩:=R.wL v n (k:=i) '!'
   have Q:=aIG b lx '!'
   refine bV 7 c9.nd (aA (bA (aQ b7 (dH jU (aB 6 rfl (cK (aB 7 rfl ⟨_,rfl,(cK (aN [7] rfl ⟨_,rfl,(jO g (ge_str (gF ⟨_,rfl,?_⟩)))⟩))⟩)))))))
   rw[iG r1 r2,nM]
   cases c1:(R.aH zs ((i:Int)-1) (j:Int) && !R.aH zs (i:Int) (j:Int)) with
   |true =>
    refine cP (aE (eA (eO (mQ u.23 (aN [7,5] rfl ⟨a,[(i:Int),(j:Int),((1:Nat):Int)],c,rfl,rfl,aD,jg (show _<=600 by omega) '$',(aE (bA (aQ b7 (dH jU (aB 6 rfl (cK (aB 7 rfl ⟨_,rfl,(cK (aN [7] rfl ⟨_,rfl,(jO g (ge_str (gF ⟨_,rfl,?_⟩)))⟩))⟩)))))))⟩).24))))
    rw[iG r1 r2,pW,fM c1]
    exact b4 (aZ ⟨⟨_,by rw[cD],(b.add _ _ _).congr λ_ _ _=>lr_a '!' c1⟩,_,_,_,rfl⟩)
   |false =>
    refine b4 (aZ (aE (bA (aQ b7 (dH jU (aB 6 rfl (cK (aB 7 rfl ⟨_,rfl,(cK (aN [7] rfl ⟨_,rfl,(jO g (ge_str (gF ⟨_,rfl,?_⟩)))⟩))⟩))))))))
    rw[iG r1 r2,pW]
    cases c2:(R.aH zs (i:Int) (j:Int) && !R.aH zs ((i:Int)-1) (j:Int)) with
    |true =>
     exact cP (aE (eA (eO (mQ u.23 (aN [7,5] rfl ⟨a,[(i:Int),((j+1:Nat):Int),((3:Nat):Int)],c,rfl,rfl,aD,jg (show _<=600 by omega) '$',(⟨⟨_,by rw[cD],(b.add _ _ _).congr λ_ _ _=>lr_b '!' c2⟩,_,_,_,rfl⟩)⟩).24))))
    |false=>exact b4 (aZ ⟨⟨c,rfl,b.congr λ_ _ _=>lr_c '!' c1 c2⟩,_,_,_,rfl⟩)
  ·rintro Γ' M' ⟨⟨c,rfl,b⟩,S,N,I,rfl⟩
   rw[bC] at b
   exact⟨⟨c,rfl,b.congr λ_ _ _=>aI4⟩,_,_,_,_,_,rfl⟩
 rintro Γ' M' ⟨⟨c,rfl,b⟩,p,v6,q,t,o,rfl⟩
 rw[bC] at b
 replace b:=b.congr λ_ _ _=>aGW (ny:=l.length)
 refine aA (aI 8 c9.nd (aU aL4 u (dF sG T.list R.BL (aO [3] rfl (aF7 (.tup _) (aJ ⟨zs,ps.length-1,rfl,by omega,by omega,λz n=>(v z n).1,?_⟩)))).4))
 rw[r]
 refine aA (cQ (cW T.range (aO [8] rfl (cH '0' (aJ ?_))).25.4))
 rw[zLm,R.sL]
 refine⟨_,rfl,by omega,by omega,?_⟩
 rw[jj]
 refine⟨λj Γ' M'=>(∃c,M'=aL M a (.st c)/\R.Keys (Lc zs ps.length l.length zs.length j 0) c)/\∃p v6 q o,Γ'=[some (bL pairD.19 pairD.13 zs),some (.tup pairD.19),some (.tup pairD.13),some (.tup (zs.map .str)),some (.mt a),p,v6,q,some (.lst ((R.gQ (ps.length-1) zs).map .str)),o],⟨⟨c,rfl,b⟩,_,_,_,_,rfl⟩,?_,?_⟩
 ·rintro j d Γ' M' hd ⟨⟨c,rfl,b⟩,p,v6,q,o,rfl⟩
  obtain⟨B,rfl⟩:=bS hd
  rw[vr]
  have n:=R.vV (zs:=zs) B
  generalize hzd:R.ofL (zs.map (R.atS · j))=z at n
  have y:=(gc z n.7).1
  have m:=oA z '!'
  have g:(R.ofL (46::z.cps.toList++[46])).length<=sizeLine:=wO z '!'
  refine bV 7 c9.nd (aA (aI 9 c9.nd (bB g8 (bB g8 (ge_str (aB 8 rfl (aB 7 rfl (aW '0' (by have:=qA n;rw[vr] at this;exact this) (lS m.1 (ge_str (lS m.2 ?_)))))).11)))))
  rw[dotted]
  refine aE (cQ (cW T.range (aO [2] rfl (cH (.tup _) (aJ ?_))).25.4))
  rw[zLm]
  refine⟨_,rfl,by omega,by omega,?_⟩
  rw[jj]
  refine⟨λi Γ' M'=>(∃c,M'=aL M a (.st c)/\R.Keys (Lc zs ps.length l.length zs.length j i) c)/\∃p v6,Γ'=[some (bL pairD.19 pairD.13 zs),some (.tup pairD.19),some (.tup pairD.13),some (.tup (zs.map .str)),some (.mt a),p,v6,some (.int (j:Int)),some (.lst ((R.gQ (ps.length-1) zs).map .str)),some (.str (R.ofL (46::z.cps.toList++[46])))],⟨⟨c,rfl,b⟩,_,_,rfl⟩,?_,?_⟩
  ·rintro i d Γ' M' hd ⟨⟨c,rfl,b⟩,U,F,rfl⟩
   obtain⟨O,rfl⟩:=bS hd
   rw[vr]
   obtain⟨r1,r2⟩:=R.wL gc n (k:=i) '!'
   rw[R.aG4 v] at r1 r2
   have Q:=aJF b lx ly '!' '!'
   refine bV 5 c9.nd (aA (bA (aQ b7 (dH jU (aB 9 rfl (cK (aB 5 rfl ⟨_,rfl,(cK (aN [5] rfl ⟨_,rfl,(jO g (ge_str (gF ⟨_,rfl,?_⟩)))⟩))⟩)))))))
   rw[iG r1 r2,pW]
   cases c1:(R.aH zs (j:Int) (i:Int) && !R.aH zs (j:Int) ((i:Int)-1)) with
   |true =>
    refine cP (aE (eA (eO (mQ u.23 (aN [7,5] rfl ⟨a,[(j:Int),(i:Int),((0:Nat):Int)],c,rfl,rfl,aD,jg (show _<=600 by omega) '$',(aE (bA (aQ b7 (dH jU (aB 9 rfl (cK (aB 5 rfl ⟨_,rfl,(cK (aN [5] rfl ⟨_,rfl,(jO g (ge_str (gF ⟨_,rfl,?_⟩)))⟩))⟩)))))))⟩).24))))
    rw[iG r1 r2,nM,fM c1]
    exact b4 (aZ ⟨⟨_,by rw[cD],(b.add _ _ _).congr λ_ _ _=>lc_a '!' c1⟩,_,_,rfl⟩)
   |false =>
    refine b4 (aZ (aE (bA (aQ b7 (dH jU (aB 9 rfl (cK (aB 5 rfl ⟨_,rfl,(cK (aN [5] rfl ⟨_,rfl,(jO g (ge_str (gF ⟨_,rfl,?_⟩)))⟩))⟩))))))))
    rw[iG r1 r2,nM]
    cases c2:(R.aH zs (j:Int) ((i:Int)-1) && !R.aH zs (j:Int) (i:Int)) with
    |true =>
     exact cP (aE (eA (eO (mQ u.23 (aN [7,5] rfl ⟨a,[((j+1:Nat):Int),(i:Int),((2:Nat):Int)],c,rfl,rfl,aD,jg (show _<=600 by omega) '$',(⟨⟨_,by rw[cD],(b.add _ _ _).congr λ_ _ _=>lc_b '!' c2⟩,_,_,rfl⟩)⟩).24))))
    |false=>exact b4 (aZ ⟨⟨c,rfl,b.congr λ_ _ _=>lc_c '!' c1 c2⟩,_,_,rfl⟩)
  ·rintro Γ' M' ⟨⟨c,rfl,b⟩,U,F,rfl⟩
   rw[bC] at b
   exact⟨⟨c,rfl,b.congr λ_ _ _=>aIE⟩,_,_,_,_,rfl⟩
 rintro Γ' M' ⟨⟨c,rfl,b⟩,p,v6,q,o,rfl⟩
 rw[bC] at b
 exact aE (aV (C a c D (b.congr λ_ _ _=>aHV x J rfl rfl)).24)
theorem tD:FnScope ["_law_lines_here", "_law_thing", "_law_places"] ["_law_lines_here", "_law_thing"] (aK l9):=zSc
abbrev vM(P w K mg z):=Fo P w K mg z "_law_place" l9 ["_law_lines_here", "_law_thing"] 1 aJQ
theorem aDO(Df:R.Df K mg "_law_place" l9 ["_law_lines_here", "_law_thing"] f fd)(T:Bt mg):vM P w K mg z:=by
 refine⟨f,fd,Df,bP Df tD (λds M k h => ?_) (λx A outer s H E c ds M k h => ?_)⟩
 ·obtain⟨ls,i,t,rfl,_⟩:=h;rfl
 obtain⟨ls,i,t,rfl,o,hl,nd,g,q⟩:=h
 have r:=(g.5).1
 refine aA (kR 2 ["_law_lines_here", "_law_thing"] [0,1] tD.nd (cW T.range (aO [0] rfl (cH (.tup _) (aJ ?_))).25.4))
 rw[zLm]
 refine⟨_,rfl,by omega,by omega,?_⟩
 rw[jj]
 refine yS (by rw[bC];exact R.bQ '!') (λm acc M'=>M'=M/\acc=if i<m then [D.int (i:Int)] else []) ⟨rfl,rfl⟩ ?_ ?_
 ·rintro m d acc M' hd ⟨rfl,rfl⟩ cs C s₀ H₀ p
  obtain⟨hm,rfl⟩:=bS hd
  rw[vr]
  obtain⟨u,b⟩:∃u,ls[m]?=some u:=⟨ls[m],by simp[hm]⟩
  have l:=wR (o u b.7)
  have st:=wR (o t g.7)
  refine wB (aQ b7 (aX (qH (n:=1) c.23 c.gd) T.repr BRepr (aW (.tup _) (bU (by rw[qm,b];rfl)) ?_).15.16.11.4))
  refine aJ (sW (e:=pairD u) (.tup _) rfl l.1 (by rw[l.2];decide) (aX (qH (n:=1) c.23 c.gd) T.repr BRepr (aO [2] rfl (sW (e:=pairD t) (.tup _) rfl st.1 (by rw[st.2];decide) (gF ⟨_,rfl,?_⟩)))))
  by_cases e:m=i
  ·subst e
   rw[g] at b
   cases b
   rw[decide_eq_true rfl]
   refine cP λcs C s₀ H₀ p=>⟨rfl,?_⟩.15
   rw[if_neg '!',if_pos '!']
   rfl
  ·rw[decide_eq_false λz=>e ((v9 hm nd).mp (by rw[b,g,aAB z]))]
   refine b4 ⟨rfl,?_⟩
   by_cases j:i<m
   ·rw[if_pos j,if_pos '!']
   ·rw[if_neg j,if_neg '!']
 rintro acc M' ⟨rfl,rfl⟩ a v
 rw[bC,if_pos r]
 refine jR 2 rfl aD ?_
 rw[iW v]
 exact aE (aV (bB iP (o9 (iY gJ (z6 ⟨_,rfl,(aJ ⟨(show 1<=sizeLine by decide),(jQ '0' '0' (show 2<=sizeLine by decide) (z6 (aW '0' rfl q)))⟩)⟩)).4).21).11)
theorem i9:FnScope ["_law_ring", "_law_yard_here", "_law_found", "_law_point", "_law_place_here"] ["_law_ring", "_law_yard_here"] (aK kJ):=zSc
abbrev tF(P w K mg z):=Fo P w K mg z "_law_placed" kJ ["_law_ring", "_law_yard_here"] 2 aAP
theorem aAW(Df:R.Df K mg "_law_placed" kJ ["_law_ring", "_law_yard_here"] f fd)(aMJ:vM P w K mg z)(T:Bt mg):tF P w K mg z:=by
 refine⟨f,fd,Df,bP Df i9 (λds M k h => ?_) (λu A outer s H E p ds M k h => ?_)⟩
 ·obtain⟨ps,g,zs,a,l,rfl,_⟩:=h;rfl
 obtain⟨ps,g,zs,a,l,rfl,rs,e,v,x,hl,t⟩:=h
 have n:=rs.toRm
 have lx:=n.lx
 have ly:=n.ly
 refine aA (bA (fG (iX (fC (d9 (sK (.inr (.inr (.inr (.inr rfl)))) T.isi T.list R.BL ⟨_, .mt e,⟨_,rfl,?_⟩⟩.15))))))
 rw[isLL]
 refine b4 (lC (aQ gA (aO [0] rfl (cH (.mt e) (z6 (eH ⟨_,rfl,(ite2 (λc=>absurd (of_decide_eq_true c) (by rw[zLm];omega)) (λ_=>aZ (aA (aI 2 i9.nd (eE (aJ ⟨(show 0<=sizeLine by decide),λb c => ?_⟩))))))⟩)))).25))
 have j:a≠b:=λz=>by rw[z,c] at e;cases e
 refine aA (p6 (⟨a,_,rfl,(aF j).trans e,λi Γ' M'=>M'=aL M b (.lst ((l.take i).map ijD))/\∃o v4,Γ'=[some (.mt a),some (bL pairD.19 (g.map pairD) zs),some (.mt b),o,v4],⟨rfl,_,_,rfl⟩,?_,?_,?_⟩).15)
 ·rintro i Γ' M' ⟨rfl,_⟩;exact (aF j).trans e
 ·rintro i d Γ' M' hd ⟨rfl,o,v4,rfl⟩
  obtain⟨q,r,rfl⟩:=bK hd
  obtain⟨_,a1,a2,_⟩:=n.rng (hl q r.7)
  refine bV 3 i9.nd (aA (bA (fG (iX (fC (d9 (sK (.inr (.inr (.inr '1'))) T.isi T.tuple R.BT (aB 3 rfl ⟨_, .self trivial,⟨_,rfl,?_⟩⟩))))))))
  rw[show isD "tuple" (p0 ps g q)=true from rfl]
  refine b4 (lC (aQ gY (aO [3] rfl (cH (.tup _) (z6 (jN ⟨_,rfl,(ite2 (λc=>absurd c '*') (λ_=>aZ (aA (aI 4 i9.nd (fE (aU aMJ p (aO [1,3] rfl ⟨ps,q.x0,ps.getD q.x0 (0,0),rfl,rs.sp,by omega,n.dx,getD_at a1,?_⟩)).4)))))⟩)))).25))
  refine aC (aU aMJ p (aO [1,3] rfl ⟨g,q.y0,g.getD q.y0 (0,0),rfl,rs.sq,by omega,n.dy,getD_at a2,?_⟩))
  refine aJ ⟨(show 2<=sizeLine by decide),(aA (bA (aQ gA (aX (zB p.hd) T.min BMin (aO [4] rfl (aGG (ns:=ijI q) (show 0<2 by decide) λm hm _=>(z6 ?_)))))))⟩
  have m0:0<=m:=by simp[ijI] at hm;omega
  refine eH ⟨_,rfl,ite2 (λc=>absurd (of_decide_eq_true c) '!') (λ_=>aZ (aE (dC (eC jy j1 j0 cS (⟨⟨rfl,_,aD⟩,(aO [4] rfl (cZ aD (by rw[zLm,jv];exact jg (show _<=244 by omega) '$') ?_))⟩).21))))⟩
  rw[cD]
  exact⟨by rw[take_snoc r,qv];rfl,_,_,rfl⟩
 ·rintro Γ' M' ⟨rfl,o,v4,rfl⟩
  rw[zLm,vk]
  refine jR 2 rfl aD ?_
  rw[iW c]
  exact aE (aV t.21)
theorem aH5:FnScope ["_law_one", "_law_other"] ["_law_one", "_law_other"] (aK rS):=zSc
abbrev yG(P w K mg z):=Fo P w K mg z "_law_way" rS ["_law_one", "_law_other"] 1 aH0
theorem aIM(Df:R.Df K mg "_law_way" rS ["_law_one", "_law_other"] f fd)(T:Bt mg):yG P w K mg z:=by
 refine⟨f,fd,Df,bP Df aH5 (λds M k h => ?_) (λm A outer s H E n ds M k h => ?_)⟩
 ·obtain⟨i,j,d,l,rfl,_⟩:=h;rfl
 obtain⟨i,j,d,l,rfl,a⟩:=h
 unfold R.yK at a
 refine aA (bA (fG (eZ (aQ b7 (aN [0] rfl (aN [1] rfl (cY ⟨_,rfl,(ite2 (λc=>iC ?_) (λc=>aZ ?_))⟩)))))))
 ·have c:=of_decide_eq_true c
  refine aQ gY (aN [0] rfl (aN [1] rfl (jN ⟨_,rfl,(ite2 (λe=>aE (aV ?_)) (λe=>aZ ?_))⟩)))
  ·have e:i≠d:=λz=>by subst z;simp at e
   rw[if_pos ⟨by omega,e⟩] at a
   refine aS aM (aN [] rfl (dF k9 T.int R.BI (cR gA (aN [0] rfl (aN [1] rfl (eH (aJ (pQ (aW '0' (aLS _) ?_))))))).4))
   rw[show decide ((i:Int)<(d:Int))=decide (i<d) from decide_eq_decide.mpr '!']
   simpa using a
  ·have e:i=d:=by
    apply jf
    intro z
    exact e (by simp;omega)
   rw[if_neg '!',if_neg '!'] at a
   exact aA (bA (fG (eZ (aQ b7 (aN [0] rfl (aN [1] rfl (cY ⟨_,rfl,(ite2 (λb=>iC (aQ gY (aN [0] rfl (aN [1] rfl (jN ⟨_,rfl,(ite2 (λg=>by simp at g;omega) (λg=>aZ (aE (aV (iY gJ (z6 ⟨_,rfl,a⟩))))))⟩))))) (λb=>absurd (by omega).29 b))⟩)))))))
 ·have c:j≠l:=λz=>c (by omega).29
  rw[if_neg '!'] at a
  refine aA (bA (fG (eZ (aQ b7 (aN [0] rfl (aN [1] rfl (cY ⟨_,rfl,(ite2 (λb=>iC ?_) (λb=>aZ (aE (aV ?_))))⟩)))))))
  ·have b:=of_decide_eq_true b
   rw[if_pos ⟨by omega,c⟩] at a
   refine aQ gY (aN [0] rfl (aN [1] rfl (jN ⟨_,rfl,(ite2 (λg=>aE (aV (aN [] rfl (dF k9 T.int R.BI (cR gA (aN [0] rfl (aN [1] rfl (eH (aJ (pQ (aW '0' (aLM _) ?_))))))).4)).11)) (λg=>absurd (by simp;omega) g))⟩)))
   rw[show decide ((j:Int)<(l:Int))=decide (j<l) from decide_eq_decide.mpr '!']
   simpa using a
  ·have b:i≠d:=λz=>b (by omega).29
   rw[if_neg '!'] at a
   exact iY gJ (z6 ⟨_,rfl,a⟩)
end
end Q
namespace Q
open PySem L2 Z
noncomputable def aLU(xs ys:List D)(zs:List Str):D:=bL (fJ xs (R.chg (R.a8 zs))) (fJ ys (R.chg zs)) (R.aK6 zs)
def Two(cells:List R.Cell):Prop:=∀c∈cells,∃a b:Int,c=[a,b]
structure Grp(cells:List R.Cell)(st:List '%')(n:Nat)(gs:List R.Cell.9):Prop where
 len:gs.length=(R.starts cells st n).length
 at_:∀(j:Nat) s,(R.starts cells st n)[j]?=some s->∃ks,gs[j]?=some ks/\∀c,c∈ks↔R.Rch cells st s c
noncomputable def aLH(cells:List R.Cell)(st:List '%')(s:R.Cell)(w h:Nat):List Str:=R.rowsOf (λa u => @decide (R.Rch cells st s [a,u]) (my _)) w h
noncomputable def xB(xs ys:List D)(cells:List R.Cell)(st:List '%')(ss:List R.Cell):List D:=ss.map λs=>aLU xs ys (aLH cells st s (xs.length-1) (ys.length-1))
noncomputable def straight:List '%':=[(1,0),(0,1),(-1,0),(0, -1)]
noncomputable def r8:List '%':=[(1,0),(1,1),(0,1),(-1,1),(-1,0),(-1, -1),(0, -1),(1, -1)]
noncomputable def pcs(xs ys:List D)(zs:List Str):List D:=xB xs ys (R.jM zs true xs.length ys.length) straight (R.starts (R.jM zs true xs.length ys.length) straight (R.jM zs true xs.length ys.length).length)
noncomputable def al9(all:Bool)(r u:Int):Bool:=all||r*u==0
noncomputable def st9(all:Bool):List '%':=[(-1, -1),(-1,0),(-1,1),(0, -1),(0,0),(0,1),(1, -1),(1,0),(1,1)].filter λd=>al9 all d.1 d.2
noncomputable def l3:List Int:=[-1,0,1]
noncomputable def hls(xs ys:List D)(zs:List Str):List D:=xB xs ys (R.jM zs false xs.length ys.length) r8 ((R.starts (R.jM zs false xs.length ys.length) r8 (R.jM zs false xs.length ys.length).length).drop 1)
end Q
namespace HT
open PySem PySem.Spec PyProof.Rows
section
variable {E:Value->Shared->Prop}
end
end HT
namespace L2
open PySem PySem.Spec PyProof.Rows
section
end
end L2
namespace Z
open PySem L2
end Z
namespace Q
open PySem L2 Z
end Q
namespace Z
open PySem L2 PySem.Spec PyProof.Rows
def aEW(K:Fg):R2:=λx y H Q=>∃a b xs ys,x = .ref a/\y = .ref b/\SqT K H a xs/\SqT K H b ys/\xs.length+ys.length<=sizeLine/\(xs=[]->Q (.ref b) H)/\(xs≠[]->ys=[]->Q (.ref a) H)/\(xs≠[]->ys≠[]->∀p,H p=none->Q (.ref p) (upd H p (.tup (xs++ys))))
theorem pG:OpR X (wo .Add) (aEW X.K):=by
 intro pins s σ H x y v u Q I r p h
 obtain⟨a,b,xs,D,o,q,k,w,L,z,B,C⟩:=h
 by_cases g:xs=[]
 ·subst o q
  cases r
  cases p
  obtain⟨d,r1,A,_⟩:=I.tuple k
  obtain⟨c,r2,E,_⟩:=I.tuple w
  have G:d=[]:=r1.nil_iff.mpr g
  obtain⟨⟨cls,J,data,M⟩,l,m,n,hd⟩:=id A
  obtain⟨⟨t,j,data2,i⟩,f,e,N,hd2⟩:=id E
  simp only at m hd e hd2
  subst m hd e hd2
  exact Q8 ⟨_,l,rfl⟩ ⟨_,f,rfl⟩ pq QE cv cj (bw _ _)
   (tuple_addW0 a b d.toArray c.toArray n N J j M i (by simp[G])) ⟨l,f, .ref b,H,I,rfl,z g⟩
 ·exact aHP pins s σ H x y v u Q I r p ⟨a,b,xs,D,o,q,k,w,g,L,B g,C g⟩
section
variable {K:Fg}{es:List D}
theorem pZ(hz:ds.length+es.length<=sizeLine)(h:k (.tup (ds++es)) M):Op2 K (aEW K) (.tup ds) (.tup es) M k:=λG H v1 v2 Q c l i q=>by
 obtain⟨a,vs,ev,s,j⟩:=l.tup_
 obtain⟨b,ws,m,s2,d⟩:=i.tup_
 have f:=j.len
 have e:=d.len
 refine⟨a,b,vs,ws,ev,m,R.bW c.same s,R.bW c.same s2,by rw[<- f,<- e];exact hz,λz => ?_,λ_ z => ?_,λ_ _ p n => ?_⟩
 ·have g:ds=[]:=by rw[z] at f;exact x4.mp f
  rw[g,dI] at h
  rw[<- m]
  exact q _ _ _ _ _ c.10 i h
 ·have g:es=[]:=by rw[z] at e;exact x4.mp e
  rw[g,vv] at h
  rw[<- ev]
  exact q _ _ _ _ _ c.10 l h
 ·have st:=c.new (o := .tup (vs++ws)) n
  exact q _ _ _ _ _ st (fY (SqT.of aR) ((j.append d).up st.gg)) h
end
end Z
namespace Q
open PySem L2 Z
section
variable {K:qg}{z:Heap}
theorem l8:FnScope ["_law_one", "_law_other", "_law_left", "_law_way_here", "_law_at"] ["_law_one", "_law_other", "_law_left"] (aK oG):=zSc
abbrev aA6(P w K mg z):=Fo P w K mg z "_law_gone" oG ["_law_one", "_law_other", "_law_left"] 3 aFS
theorem aF9(Df:R.Df K mg "_law_gone" oG ["_law_one", "_law_other", "_law_left"] f fd)(aMK:yG P w K mg z)(T:Bt mg):aA6 P w K mg z:=by
 refine⟨f,fd,Df,bP Df l8 (λds M k h => ?_) (λW A outer s H E z ds M k h => ?_)⟩
 ·obtain⟨q,c,G,P,rfl,_⟩:=h;rfl
 obtain⟨q,c,G,P,rfl,v,be,Q,S,p,I⟩:=h
 refine aA (aI 3 l8.nd (aU aMK z (aO [0,1] rfl ⟨q.x0,q.y0,q.x1,q.y1,rfl,?_⟩)))
 rw[R.nE v be]
 refine aA (aI 4 l8.nd (aA (n5 (λm Γ' M'=>∃(n:Nat) (a:List Int.9),m+n=q.e-q.b/\M'=aL M c (.st a)/\R.Keys (λx y d=>P x y d/\¬(d=R.bX q/\∃t,t<n/\x=R.sx q t/\y=R.sy q t)) a/\Γ'=[some (ijD q),some (tI [(q.x1:Int),(q.y1:Int)]),some (.mt c),some (.int (R.bX q:Int)),some (tI [(R.sx q n:Int),(R.sy q n:Int)])]) (n:=q.e-q.b) ⟨0,G,rfl,(vU Q).symm,S.congr λx y d=>⟨λh=>⟨h,λ⟨_,t,F,_⟩=>by omega⟩,λh=>h.1⟩,by rw[R.sx0,R.sy0];rfl⟩ ?_)).15)
 rintro m Γ' M' ⟨n,a,hm,rfl,g,rfl⟩
 refine fG (eZ (aQ rQ (aB 3 rfl (z6 (eH ⟨_,rfl,(ite2 (λ_=>iC (aQ (r6 (n:=1) z.23) (sC (.tup _) (.tup _) rfl rfl ⟨_,rfl,?_⟩).16.24)) (λV=>absurd (by omega).29 V))⟩)))))
 by_cases B:n<q.e-q.b
 ·refine aKU (aKP (R.s_ne v B)) ?_
  have r:[(R.sx q n:Int),(R.sy q n:Int),(R.bX q:Int)]∈a:=g.mem.mpr ⟨p n B,λ⟨_,t,F,C,D⟩=>by have:=R.aKY v be B (show t<q.e-q.b by omega) C D;omega⟩
  obtain⟨j,U,N⟩:=yy r
  have u:a[j]?=some [(R.sx q n:Int),(R.sy q n:Int),(R.bX q:Int)]:=by rw[zGe U,N]
  refine aA (bA (aQ (aAK z.23) (bB pG (aN [3] rfl (pZ (show 3<=sizeLine by decide) (zD (is:=[(R.sx q n:Int),(R.sy q n:Int),(R.bX q:Int)]) (.mt aD) ⟨_,rfl,?_⟩).21)).24)))
  rw[decide_eq_true r]
  refine b4 (aZ (aA (dC (aHL z.23 ⟨c,a,rfl,aD,(bB pG (aN [3] rfl (pZ (show 3<=sizeLine by decide) ⟨a,[(R.sx q n:Int),(R.sy q n:Int),(R.bX q:Int)],j,aD,rfl,u,?_⟩)).24)⟩.21))))
  obtain⟨X,Y,C,D,J,O⟩:=R.jL v B
  refine aE (aI 4 l8.nd (fE (bB eK (aN [4] rfl (o9 (z6 (z6 (iY gJ (z6 ⟨_,rfl,(z6 (aJ ⟨(show 4<=sizeLine by decide),(aB 3 rfl (aW '0' C (dX (bB eK (aN [4] rfl (o9 (z6 (z6 ?_).4).4).11)).4)))⟩)).4⟩)).4).4).4).11)).4))
  refine aC (z6 (iY gJ (z6 ⟨_,rfl,(aJ ⟨(show 4<=sizeLine by decide),(aB 3 rfl (aW '0' D (dX (aJ ⟨(show 2<=sizeLine by decide),?_⟩))))⟩)⟩)).4)
  rw[J,O,cD]
  refine⟨m-1,by omega,n+1,_,by omega,rfl,(g.erase u).congr λx y d => ?_,rfl⟩
  constructor
  ·rintro⟨⟨g1,g2⟩,g3⟩
   refine⟨g1,λ⟨o,t,F,i,l⟩ => ?_⟩
   by_cases e:t=n
   ·subst e;exact g3 ⟨i,l,o⟩
   ·exact g2 ⟨o,t,by omega,i,l⟩
  ·rintro⟨g1,g2⟩
   exact⟨⟨g1,λ⟨o,t,F,i,l⟩=>g2 ⟨o,t,by omega,i,l⟩⟩,λ⟨i,l,o⟩=>g2 ⟨o,n,by omega,i,l⟩⟩
 ·have L:n=q.e-q.b:=by omega
  subst L
  refine xH (by rw[R.sx1 be,R.sy1 be];exact congrArg (! ·) (eqD_refl 1 (tI _) rfl)) (aE (aV (cR rQ (aB 3 rfl (z6 (eH ?_))))))
  rw[decide_eq_true '!']
  exact I a g
theorem iS:FnScope ["_law_places", "_law_there", "_law_k", "_law_come", "_law_goes", "_law_to_left"] ["_law_places", "_law_there"] (aK mI):=zSc
abbrev wI(P w K mg z):=Fo P w K mg z "_law_turns" mI ["_law_places", "_law_there"] 3 aCG
theorem aDC(Df:R.Df K mg "_law_turns" mI ["_law_places", "_law_there"] f fd)(aMK:yG P w K mg z)(T:Bt mg):wI P w K mg z:=by
 refine⟨f,fd,Df,bP Df iS (λds M k h => ?_) (λL A outer s H E m ds M k h => ?_)⟩
 ·obtain⟨ps,D,zs,a,l,y,rfl,_⟩:=h;rfl
 obtain⟨ps,D,zs,a,l,y,rfl,n,w,e,B⟩:=h
 have wf:=n.wf
 have Q:=R.lR wf w
 have N:=w.len
 have few:=n.few
 refine aA (cQ (cW T.range (aO [0] rfl (cH '0' (aJ ?_))).25.4))
 rw[zLm]
 refine⟨_,rfl,by omega,by omega,?_⟩
 rw[jj]
 refine⟨λi Γ' M'=>M'=M/\∃v2 j v4 g,Γ'=[some (.lst ijD.13),some (.st y),v2,j,v4,g],⟨rfl,_,_,_,_,rfl⟩,?_,?_⟩
 ·rintro i d Γ' M' hd ⟨rfl,v2,j,v4,g,rfl⟩
  obtain⟨o,rfl⟩:=bS hd
  rw[vr]
  have p:l[i]?=some l[i]:=zGe o
  generalize l[i]=t at p
  obtain⟨q,r,v,b,c,z⟩:=xT w '!' p
  have F:=aED (f:=ijD) o '!' v
  have r1:=wY (f:=ijD) o b
  have t1:atI ijD.13 (i:Int)=some (ijD t):=bU (by rw[qm,p];rfl)
  have u:=w.mem q v.7
  have C:=w.mem r b.7
  have eq:=R.bM wf u
  have x:=R.bM wf C
  refine bV 2 iS.nd (aA (aI 3 iS.nd (aU aMK m (aN [2] rfl (aW '0' F (aN [2] rfl (aW '0' r1 (aJ ⟨q.x0,q.y0,r.x0,r.y0,rfl,?_⟩))).15.11.4)).15.11.4)))
  rw[c.2.1,c.2.2.1,R.nE eq.1 eq.2.1]
  refine aA (aI 4 iS.nd (aU aMK m (aN [2] rfl (aW '0' r1 (aW '0' t1 (aJ ⟨r.x0,r.y0,t.x0,t.y0,rfl,?_⟩)).21.15.11.4)).15.11.4))
  rw[z.2.1,z.2.2.1,R.nE x.1 x.2.1]
  refine aA (aI 5 iS.nd (b6 [3] rfl ',' ?_))
  obtain⟨G,O,J⟩:=aCA n u c e
  rw[G]
  refine aE (bA (fG (iX (aQ gY (b6 [4,3] rfl ',' (z6 (jN ⟨_,rfl,(ite2 (λI=>absurd I (by simp;omega)) (λ_=>lC (aQ gY (cR (aJ9 m.23) (bB pG (aN [2] rfl (aW '0' r1 (aN [5] rfl (pZ (show 3<=sizeLine by decide) (aH9 (is:=[(r.x0:Int),(r.y0:Int),(q.f:Int)]) (.st _) (cR b7 (aB 5 rfl (cY (zF ⟨_,rfl,?_⟩))).24)).16)))).15.11)))))⟩)))))))
  rw[J]
  exact xH '*' (aZ ⟨rfl,_,_,_,_,rfl⟩)
 ·rintro Γ' M' ⟨rfl,v2,j,v4,g,rfl⟩
  exact aE (aV (eO B))
theorem dY:FnScope ["_law_found", "_law_yard_here", "_law_there", "_law_left", "_law_ahead", "_law_ring", "_law_places", "_law_k"] ["_law_found", "_law_yard_here"] (aK mJ):=zSc
abbrev wP(P w K mg z):=Fo P w K mg z "_law_right" mJ ["_law_found", "_law_yard_here"] 4 aDL
theorem aCP(Df:R.Df K mg "_law_right" mJ ["_law_found", "_law_yard_here"] f fd)(aML:vH P w K mg z)(aMM:tF P w K mg z)(aMN:aA6 P w K mg z)(aMO:wI P w K mg z)(T:Bt mg):wP P w K mg z:=by
 refine⟨f,fd,Df,bP Df dY (λds M k h => ?_) (λad A outer s H E p ds M k h => ?_)⟩
 ·obtain⟨ps,B,zs,q,as,ls,rfl,_⟩:=h;rfl
 obtain⟨ps,B,zs,q,as,ls,rfl,rs,full,O,ok,⟨e1,e2,e3⟩,hk⟩:=h
 have J:=rs.toRm
 have wf:=J.wf
 have few:=J.few
 refine aA (bA (fC (d9 (sK (.inr (.inr (.inr (.inr rfl)))) T.isi T.list R.BL ⟨_, .mt O,⟨_,rfl,?_⟩⟩.15))))
 rw[isLL]
 refine b4 (aZ (aA (aI 2 dY.nd (aU aML p (aO [1] rfl ⟨ps,B,zs,rfl,J,full,λb ks hb F=>(aFL 2 rfl aD ?_)⟩)))))
 rw[iW hb]
 refine aA (aI 3 dY.nd (dF (yT p.23) T.dict BDict (aO [2] rfl (aDP (.st _) (yR F (aKC J)).1 λc hc => ?_))))
 have Z:∀x o,M x=some o->x≠c:=λx o e z=>by rw[z,hc] at e;cases e
 refine aA (aI 4 dY.nd (fE (iY gJ (z6 ⟨_,rfl,(iY gJ (z6 ⟨_,rfl,(aJ ⟨(show 2<=sizeLine by decide),(aA (p6 ⟨q,_,rfl,(aF (Z _ _ O)).trans O,λi Γ' M'=>∃g L,M'=aL M c (.st g)/\R.Keys (λx y d=>Stp2 ps B zs x y d/\¬ ∃r∈(ls.take i).flatten,R.d7 r x y d) g/\(∀l b,ls[i]?=some l->l.head?=some b->HT.lexLt L (ijI b)=true)/\∃Y v6 U,Γ'=[some (.mt q),some (bL pairD.19 (B.map pairD) zs),some (.st ks),some (.mt c),some (tupI L),Y,v6,U],?_,?_,?_,?_⟩.15))⟩)⟩)).4⟩)).4))
 ·exact⟨ks,[-1, -1],rfl,F.congr λ_ _ _=>⟨λh=>⟨h,λ⟨r,D,_⟩=>by simp at D⟩,λh=>h.1⟩,λl b _ _=>jS.mpr '!',_,_,_,rfl⟩
 ·rintro i Γ' M' ⟨g,L,rfl,_⟩
  exact (aF (Z _ _ O)).trans O
 ·rintro i d Γ' M' hd ⟨g,L,rfl,j,Q,Y,v6,U,rfl⟩
  obtain⟨a,ha,rfl⟩:=bK hd
  have il:=(ha.5).1
  have hl:ls[i]?=some ls[i]:=zGe '!'
  generalize ls[i]=l at hl
  have lm:=zMo hl
  obtain⟨b,w,lst⟩:=ok.rg l lm
  have N:=e3 i a l ha hl
  have l4:=R.lR wf w
  have ll:=w.len
  have I:atI ijD.13 0=some (ijD b):=aK5 w.hd
  refine bV 5 dY.nd (aA (aI 6 dY.nd (aU aMM p (aO [5,1] rfl ⟨ps,B,zs,a,l,rfl,rs,(aF (Z _ _ N)).trans N,l4,by omega,w.mem,?_⟩))))
  refine aA (bA (fG (iX (aQ aBR (aB 6 rfl (jY (zM ⟨_,rfl,(b4 (iX (aQ (r6 (n:=1) p.23) (aX (aBE p.hd (room0 p)) T.min BMin (aO [6] rfl (aIV w.hd lst (aB 6 rfl (z6 (aW '0' I (sC (.tup _) (.tup _) rfl rfl ⟨_,rfl,xH (congrArg (! ·) (eqD_refl 1 (ijD b) rfl)) (lC (aQ (aHY (R.units_le (n:=0) p)) (aB 6 rfl (z6 (aW '0' I (aI0 (is:=ijI b) ⟨_,rfl,?_⟩).24))).11))⟩)))).11))))))⟩)))))))
  rw[Q l b hl w.hd]
  refine b4 (aZ (aA (cQ (cW T.range (aO [6] rfl (cH '0' (aJ ?_))).25.4))))
  rw[zLm]
  refine⟨_,rfl,by omega,by omega,?_⟩
  rw[jj]
  refine⟨λm Γ' M'=>(∃g,M'=aL M c (.st g)/\R.Keys (λx y d=>(Stp2 ps B zs x y d/\¬ ∃r∈(ls.take i).flatten,R.d7 r x y d)/\¬ ∃t,t<m/\∃r,l[(t+l.length-1)%l.length]?=some r/\R.d7 r x y d) g)/\∃U,Γ'=[some (.mt q),some (bL pairD.19 (B.map pairD) zs),some (.st ks),some (.mt c),some (tupI L),some (.mt a),some (.lst ijD.13),U],⟨⟨g,rfl,j.congr λ_ _ _=>⟨λh=>⟨h,λ⟨t,V,_⟩=>by omega⟩,λh=>h.1⟩⟩,_,rfl⟩,?_,?_⟩
  ·rintro m d Γ' M' hd ⟨⟨G,rfl,v⟩,w7,rfl⟩
   obtain⟨hm,rfl⟩:=bS hd
   rw[vr]
   have V:l[m]?=some l[m]:=zGe hm
   generalize l[m]=t at V
   obtain⟨r,C,n1⟩:=k8 w V
   have mr:=w.mem r C.7
   have er:=R.bM wf mr
   have r1:=wY (f:=ijD) hm C
   have t1:atI ijD.13 (m:Int)=some (tI [(r.x1:Int),(r.y1:Int)]):=bU (by rw[qm,V,<- n1.2.1,<- n1.2.2.1];rfl)
   refine bV 7 dY.nd (aE (bA (fC (d9 (aU aMN p (aB 6 rfl (aN [7] rfl (aW '0' r1 (aB 6 rfl (aB 7 rfl (aW '0' t1 (aB 3 rfl (aJ ⟨r,c,G,_,rfl,er.1,er.2.1,aD,v,zV J ok hl w hm C,λac aa=>⟨_,rfl,(b4 (aZ ⟨⟨ac,by rw[cD],aa.congr λx y d => ?_⟩,_,rfl⟩))⟩⟩)).4))).11.4))).11.4)))))
   exact aDS (P:=λx y d=>Stp2 ps B zs x y d/\¬ ∃r∈(ls.take i).flatten,R.d7 r x y d) C
  ·rintro Γ' M' ⟨⟨G,rfl,v⟩,w7,rfl⟩
   rw[bC] at v
   refine aA (bA (fC (d9 (aU aMO p (aO [6,2] rfl ⟨ps,B,zs,b,l,ks,rfl,J,w,F,⟨_,rfl,(b4 (aZ (aE (aI 4 dY.nd (aB 6 rfl (z6 (aW '0' I ⟨G,ijI b,rfl,v.congr λx y d=>aEE hl w,λl2 b2 X g2=>jS.mpr ?_,_,_,_,rfl⟩))).11))))⟩⟩)))))
   obtain⟨i1,x1⟩:=zGs hl
   obtain⟨i2,x2⟩:=zGs X
   have u:=jz.mp ok.up i (i+1) i1 i2 (wd i)
   rw[x1,x2] at u
   have:=u b b2 w.hd g2
   unfold R.PLt at this
   omega
 ·rintro Γ' M' ⟨g,L,rfl,j,Q,Y,v6,U,rfl⟩
  rw[zLm,e1,vk] at j
  have S:g=[]:=j.empty λx y d ⟨h1,X⟩=>by
   obtain⟨r,D,ab⟩:=R.aDJ wf h1
   exact X ⟨r,ok.all r D,ab⟩
  subst S
  refine aE (aV (cR (aIY (R.units_le (n:=0) p)) (aB 3 rfl (wX λe he => ?_))))
  have W:c≠e:=λz=>by rw[<- z,aD] at he;cases he
  exact aIR (.mt (ks:=[]) (by rw[aF W];exact aD)) (.mt aD) (hk _ (((Le.refl M).upd hc).trans ((Le.refl _).upd he)))
theorem iU:FnScope ["_law_script", "_law_k", "_law_feed_here", "_law_yard_here", "_law_again", "_law_found", "_law_ring"] ["_law_script"] (aK mO):=zSc
theorem aIC(Df:R.Df K mg "law" mO ["_law_script"] f fd)(aMP:aAJ P w K mg z)(aL1:k6 P w K mg z)(aMQ:aAG P w K mg z)(aMR:aAC P w K mg z P1 P2)(aMS:wP P w K mg z)(T:Bt mg):FnOk P w K mg z CX0 12 f fd ["_law_script"] (spZ K (kZ P1 P2 f7 g6 f9 gW)):=by
 refine bP Df iU (λds M k h => ?_) (λaj A outer s H E v ds M k h => ?_)
 ·obtain⟨ns,rfl,_⟩:=h;rfl
 obtain⟨ns,rfl,ai,Z,ab,hk⟩:=h
 refine aA (cQ (cW T.range (bB eK (z6 (aX (aAQ rfl) T.min BMin (z6 (aO [0] rfl (cH (.fl _) (aJ (aI1 (dX (aJ ⟨_,rfl,by split <;> omega,by split <;> omega,?_⟩)))))).25.4).4))).4))
 refine⟨λi Γ' M'=>(∃v1 v2 v3 v4 I v6,Γ'=[some (.fl (ns.map .int)),v1,v2,v3,v4,I,v6])/\bJ P1 f7 f9 M'/\bJ P2 g6 gW M',⟨⟨_,_,_,_,_,_,rfl⟩,Z,ab⟩,?_,?_⟩
 ·rintro i d Γ' M1 hd ⟨⟨v1,v2,v3,v4,I,v6,rfl⟩,S1,S2⟩
  obtain⟨hi,rfl⟩:=bS hd
  have ae:i<4:=by
   refine qw hi ?_
   split <;> omega
  refine bV 1 iU.nd (aA (aI 2 iU.nd (aU aMP v (aO [0,1] rfl ⟨ns,_,rfl,by omega,by omega,λp M2 hp G C => ?_⟩))))
  refine aA (aI 3 iU.nd (aU aMQ v (aN [] rfl (aU aL1 v (aO [2] rfl ⟨p,_,_,rfl,by decide,by decide,C,by omega,λz1 M3 ad aa r U af => ?_⟩))).11.4.21.4))
  obtain⟨most,ac,O,Q⟩:=aGO ad aa
  refine aW '0' ac (aJ ⟨p,_,most,rfl,O,Q,r,by omega,λxs ys zs M4 hY ah D => ?_⟩)
  replace S1:=yF (yF (nG S1 λa o e=>G a _ e) C U) r D
  replace S2:=yF (yF (nG S2 λa o e=>G a _ e) C U) r D
  obtain⟨ps,u,rfl,rfl,rs,full⟩:=aFE hY
  refine aE (cQ (cW T.range (aO [] rfl ⟨_,rfl,by decide,by decide,?_⟩)))
  refine⟨λj Γ' M'=>(∃v4 I v6,Γ'=[some (.fl (ns.map .int)),some (.int (0+(i:Int))),some (.mt p),some (bL pairD.19 (u.map pairD) zs),v4,I,v6])/\bJ P1 f7 f9 M'/\bJ P2 g6 gW M',⟨⟨_,_,_,rfl⟩,S1,S2⟩,?_,?_⟩
  ·rintro j d Γ' M5 hd ⟨⟨w4,w5,w6,rfl⟩,S1,S2⟩
   obtain⟨hj,rfl⟩:=bS hd
   refine bV 4 iU.nd (aA (aI 5 iU.nd (aU aMR v (aO [3] rfl ⟨ps,u,zs,rfl,rs.toRm,S1,S2,λls as M6 a ok B _ l1 V _ W => ?_⟩))))
   obtain⟨e1,e2,e3⟩:=B
   have S:iB ps u (aL M6 a (.lst (as.map .mt))) as ls:=⟨e1,e2,λm x l q hl=>by
    have e:=e3 m x l q hl
    rw[aF λz=>by rw[z,W] at e;cases e];exact e⟩
   refine aA (bA (fC (d9 (aU aMS v (aO [5,3] rfl ⟨ps,u,zs,a,as,ls,rfl,rs,full,aD,ok,S,λM7 c=>⟨_,rfl,(b4 (aZ ?_))⟩⟩)))))
   have na:∀o,M6 a≠some (.ob o):=λo z=>by rw[W] at z;cases z
   have ag:as.length<=244:=by rw[e1];exact ok.fewer rs.toRm
   refine aA (p6 (aB 5 rfl ⟨a,_,rfl,c a _ aD,λm Γ' N=>(N a=some (.lst (as.map .mt))/\(∀(t:Nat) (x:Addr) (l:List R.Qd),m<=t->as[t]?=some x->ls[t]?=some l->N x=some (.lst (p0 ps u).13))/\bJ P1 f7 f9 N/\bJ P2 g6 gW N)/\∃v6,Γ'=[some (.fl (ns.map .int)),some (.int (0+(i:Int))),some (.mt p),some (bL pairD.19 (u.map pairD) zs),some (.int (0+(j:Int))),some (.mt a),v6],?_,?_,?_,?_⟩))
   ·exact⟨⟨c a _ aD,λt x l _ q hl=>c _ _ (S.2.2 t x l q hl),nG (eG l1 na) λb o e=>c _ _ e,nG (eG V na) λb o e=>c _ _ e⟩,_,rfl⟩
   ·rintro m Γ' N ⟨⟨g,_⟩,_⟩;exact g
   ·rintro m d Γ' N hd ⟨⟨g,n2,X,Y⟩,v6,rfl⟩
    obtain⟨x,q,rfl⟩:=bK hd
    have il:=(q.5).1
    have hl:ls[m]?=some ls[m]:=zGe '!'
    generalize ls[m]=l at hl
    obtain⟨b,w,_⟩:=ok.rg l hl.7
    have few:=rs.toRm.few
    have ll:=w.len
    have J:=n2 m x l (qo _) q hl
    have L:∀o,N x≠some (.ob o):=λo z=>by rw[J] at z;cases z
    refine bV 6 iU.nd (aE (dC (eC jy j1 j0 cS (aB 6 rfl (⟨⟨rfl,_,J⟩,(aB 6 rfl (z6 (aW (.mt J) (aEQ ps u w.hd) (aJ (cZ J (by rw[zLm];exact jg (show _<=244 by omega) '$') ?_))))).11.4⟩)))))
    have xa:x≠a:=λz=>nest (z▸J) g q w.hd
    refine⟨⟨(aF (vi xa)).trans g,λt y V ht hy hl2 => ?_,eG X L,eG Y L⟩,_,rfl⟩
    rw[aF λz=>by
     rw[z] at hy
     have:=(v9 il e2).mp (q.trans hy.symm)
     omega]
    exact n2 t y V '!' hy hl2
   ·rintro Γ' N ⟨⟨g,_,X,Y⟩,v6,rfl⟩
    refine aE (dC (eC jy j1 j0 cS (aB 5 rfl (⟨⟨rfl,_,g⟩,(aO [] rfl (cZ g (by rw[zLm];exact jg (show _<=244 by omega) '$') ?_))⟩))))
    have L:∀o,N a≠some (.ob o):=λo z=>by rw[g] at z;cases z
    exact⟨⟨_,_,_,rfl⟩,eG X L,eG Y L⟩
  ·rintro Γ' M5 ⟨⟨w4,w5,w6,rfl⟩,S1,S2⟩
   exact⟨⟨_,_,_,_,_,_,rfl⟩,S1,S2⟩
 ·rintro Γ' M1 ⟨⟨v1,v2,v3,v4,I,v6,rfl⟩,S1,S2⟩
  refine aE (aV (cR (aAS (n:=1) v.23) (aU aMR v (aO [] rfl (⟨[],[],[],rfl,⟨qJ.wf,by decide,by decide,fu,fu⟩,S1,S2,λls as M6 a ok B _ l1 V _ W => ?_⟩)))))
  rw[aB0 ok B]
  exact aN [] rfl (aAY (.mt aD) '0' rfl rfl (hk _))
end
end Q
namespace L2
open PySem PySem.Spec PyProof.Rows
def rR(tabs:List Addr)(a:Addr)(H:Hp):Prop:=∀b,(b∈tabs->H b=some (.tbl #[]))/\(b∉tabs->H b=none\/∃o xs,H b=some (.frz o (.lst xs)))
theorem zG{tabs:List Addr}{K:qg}{mb:Str->Option Value}{CX:CXT}{k:Nat}{fa:Addr}{sp:Sp}{s₁:Shared}{vs:List Value}{ns:List Int}(KX:K.In s₁.heap)(hns:s₁.heap.Ns jx mg)(hb:s₁.heap.Ns Qu mb)(hbb:∀x:Str,x ≠ "__name__" -> mb x=ke x)(hlim:s₁.heap.NoLimit)(hg:s₁.gens = #[])(ha:s₁.heap.get? a=some {cls := .type "list", data := .seq vs.toArray})(hi:IntsAre vs ns)(hl:ns.length<=sizeLine)(hr:Room k si)(ht:∀p∈tabs,s₁.heap.get? p=some (mq #[])/\Jt s₁.heap p/\K.lookup p=none)(F:∀z:Heap,K.In z->z.Ns jx mg->FnOk P w K mg z CX k fa fd [x] sp)(hbind:∀(s:Shared) (u:Value),BindsTo s fd ⟨[u],[]⟩ [(x,u)])(hsp:∀H:Hp,rR tabs a H->SqL K H a (ns.map V.int)->sp [.ref a] H (λv _=>v = .bl true) λ_ _ _=>False)(hCX:∀H e s',CX [] H s₁ (λ_ _ _=>False) e s'->False):
    fb (ja P w) si (.call (.ref fa) ⟨[.ref a],[]⟩) '=' s₁:=by
  have Q:=i7 hi
  have E:=hi.length
  -- from an abstract heap in which nothing but the script may be tracked
  have core:∀H:Hp,rR tabs a H->SqL K H a (ns.map V.int)->HOk P w H s₁.heap->(∀b,H b≠none->b=a\/b∈tabs)->(H a≠none->K.lookup a=none) ->
      fb (ja P w) si (.call (.ref fa) ⟨[.ref a],[]⟩) '=' s₁:=by
    intro H M S G hA R
    have c:∀{b:Addr}{o:Obj},s₁.heap.get? b=some o->H b=none->(kO s₁.heap H).get? b=some o:=λe n=>aCN e n
    have I:∀{b:Addr}{o:Obj}{B:Array DictEntry}{A:Nat},s₁.heap.get? b=some o->o.data = .dict B A->H b=none:=λ{b o B A} e d=>by
      cases q:H b with
      |none=>rfl
      |some u =>
        rcases hA b (by rw[q];simp) with y|y
        · subst y
          rw[ha] at e;cases e
          have N:Data.seq vs.toArray _=Vx B A:=d
          cases N
        · rw[(ht b y).1] at e;cases e
          have N:Kr #[]=Vx B A:=d
          cases N
    have i:∀{b:Addr}{m:Str->Option Value},s₁.heap.Ns b m->(kO s₁.heap H).Ns b m:=λ{b m} ⟨o,B,A,e,d,r⟩=>⟨o,B,A,c e (I e d),d,r⟩
    have D:K.In (kO s₁.heap H):=λb o e=>c (KX b o e) (by
      cases q:H b with
      |none=>rfl
      |some u =>
        rcases hA b (by rw[q];simp) with y|y
        · subst y
          rw[R (by rw[q];simp)] at e;cases e
        · rw[(ht b y).2.2] at e;cases e)
    have U:Mod K mg (kO s₁.heap H):=⟨D,i hns,⟨mb,i hb,hbb⟩,let ⟨mc,L,f⟩:=hlim;⟨mc,i L,f⟩⟩
    have T:Env0 P w K mg (kO s₁.heap H) si [] s₁ H:=⟨rfl,U,λb o e=>aG5 e,y6 (aBT _ _),trivial,λb hb=>absurd (show b∈([]:List Addr) from hb) '*',G, .of_eq hg⟩
    refine f5 ((F _ D (i hns)).run si [] s₁ H ⟨[.ref a],[]⟩ [.ref a] [.ref a] _ _ hr T (hbind s₁ (.ref a)) (.cons rfl .nil) (hsp H M S)) λr s' h => ?_
    cases r with
    |error e=>exact (hCX H e s' h).elim
    |ok fl =>
      cases fl with
      |next=>exact vn h
      |brk=>exact vn h
      |cont=>exact vn h
      |ret u =>
        obtain⟨v,H',os,bare,un,t,Z,q⟩:=h
        have q':v = .bl true:=q
        subst q'
        obtain rfl:u=kz true:=Z
        have old:∀b o,s₁.heap.get? b=some o->asItWas s₁.heap s'.heap b o:=λb o e=>by
         by_cases j:b∈tabs
         · obtain⟨more,J⟩:=un.tbls b _ ((M b).1 j)
           have g:=t b _ J
           rw[(ht b j).1] at e
           cases e
           exact .inr (.inl ⟨(ht b j).2.1,rfl,#[],more,rfl,g⟩)
         refine .inl ?_
         cases q:H b with
         |none=>exact un.keep b o e q (by intro z;exact absurd (show b∈([]:List Addr) from z) '*') '*'
         |some u =>
          rcases (M b).2 j with z|⟨ob,xs,z⟩
          · rw[q] at z;cases z
          · have J:=un.frzs b ob _ z
            obtain⟨O,_⟩:=G b _ z
            obtain⟨Y,_⟩:=t b _ J
            rw[e] at O;cases O
            exact Y
        exact⟨rfl,⟨old,λb o e=>un.there b o e '*'⟩,os,bare⟩
  have nat:a∉tabs:=λz=>by
    have:=(ht a z).1
    rw[ha] at this
    cases this
  have C:∀(H:Hp),(∀b u,H b=some u->(b∈tabs/\u = .tbl #[])\/(b=a/\u = .frz {cls := .type "list", data := .seq vs.toArray} (.lst (ns.map V.int))))->HOk P w H s₁.heap:=λH X b u z=>by
    rcases X b u z with ⟨L,rfl⟩|⟨rfl,rfl⟩
    · exact (ht b L).1
    · exact⟨ha,by rw[zLm];exact hl,vs,_,Q,ha⟩
  cases hk:K.lookup a with
  |some o =>
    have e:=KX a o hk
    rw[ha] at e
    cases e
    refine core (λb=>if b∈tabs then some (.tbl #[]) else none) (λb=>⟨λhb=>if_pos hb,λhb => .inl (if_neg hb)⟩) (.inr ⟨_,vs.toArray,_,hk,rfl,rfl,rfl,by rw[qc,E];exact hl,by simpa using Q⟩) (C _ λb u z => ?_) (λb z => ?_) λz=>absurd (if_neg nat) z
    · by_cases hb:b∈tabs
      · have l:=(if_pos hb).symm.trans z
        cases l
        exact .inl ⟨hb,rfl⟩
      · have l:=(if_neg hb).symm.trans z
        cases l
    · by_cases hb:b∈tabs
      · exact .inr hb
      · exact absurd (if_neg hb) z
  |none =>
    refine core (λb=>if b∈tabs then some (.tbl #[]) else if b=a then some (.frz {cls := .type "list", data := .seq vs.toArray} (.lst (ns.map V.int))) else none) (λb=>⟨λhb=>if_pos hb,λhb => ?_⟩) (.inl (.inr ⟨{cls := .type "list", data := .seq vs.toArray},(if_neg nat).trans (if_pos rfl)⟩)) (C _ λb u z => ?_) (λb z => ?_) λ_=>hk
    · by_cases f:b=a
      · exact .inr ⟨_,_,(if_neg hb).trans (if_pos f)⟩
      · exact .inl ((if_neg hb).trans (if_neg f))
    · by_cases hb:b∈tabs
      · have l:=(if_pos hb).symm.trans z
        cases l
        exact .inl ⟨hb,rfl⟩
      · by_cases f:b=a
        · have l:=((if_neg hb).trans (if_pos f)).symm.trans z
          cases l
          exact .inr ⟨f,rfl⟩
        · have l:=((if_neg hb).trans (if_neg f)).symm.trans z
          cases l
    · by_cases hb:b∈tabs
      · exact .inr hb
      · by_cases f:b=a
        · exact .inl f
        · exact absurd ((if_neg hb).trans (if_neg f)) z
theorem aCX{tabs:List Addr}{l:h9}{k:Nat}{q:Program}{XP:(Str->Option Value)->Heap->Prop}{d:DefRec}{K:yx->qg}{CX:World->CXT}{sp:World->Sp}(hn:l.most=some n)(hn2:n<=sizeLine)(hdf:d.params.defaults=[])(hr:Room k si)(hY:∀(w:World) (h:Heap),YP w h->(K w.params).In h)(hT:∀(w:World) (h:Heap),YP w h->∀p∈tabs,h.get? p=some (mq #[])/\Jt h p/\(K w.params).lookup p=none)(F:∀(w:World) (mg:Str->Option Value) (fa:Addr) (h:Heap),(K w.params).In h->h.Ns jx mg->mg d.name=some (.ref fa) ->
   ∃fd:FuncData,(∀(s:Shared) (u:Value),BindsTo s fd ⟨[u],[]⟩ [(x,u)]) /\
    ∀z:Heap,(K w.params).In z->z.Ns jx mg->FnOk l.prog w (K w.params) mg z (CX w) k fa fd [x] (sp w))(hsp:∀(w:World) (H:Hp) (a:Addr) (ns:List Int),ns.length<=n->rR tabs a H->SqL (K w.params) H a (ns.map V.int)->sp w [.ref a] H (λv _=>v = .bl true) λ_ _ _=>False)(hCX:∀(w:World) (H:Hp) (s:Shared) (e:Value) (s':Shared),CX w [] H s (λ_ _ _=>False) e s'->False):
  Jd q loose XP YP l.row.toRowW d [] (λf vs=>QG f vs):=by
 refine Att.uM hn hdf λw s₀ s₁ mg B fa o pm cd doc a vs ns G Y A hd j i c hints hlen t => ?_
 have KX:=hY w _ Y
 obtain⟨fd,r,z⟩:=F w mg fa _ KX G.T.g i
 exact zG (tabs:=tabs) KX G.T.g G.T.b G.T.builtins G.T.nolimit t c hints (jw hlen hn2) hr (hT w _ Y) z r (λH m y=>hsp w H a ns hlen m y) λH e s'=>hCX w H s₁ e s'
end L2
namespace Q
open PySem L2 Z
theorem aEY{K:qg}{o:Obj}(X:Ky ((a,o)::K) h)(hn:K.lookup a=none):K.In h:=λb u e=>X b u (by
 rw[vy]
 split
 ·rename_i q
  have:=eq_of_beq q
  subst this
  rw[hn] at e
  cases e
 ·exact e)
theorem sE{K:Fg}:∀ns:List Int,Dens K G (ns.map D.int) (ns.map V.int)
 |[]=>by simp only[List.map,Dens]
 |n::ns=>by simp only[List.map,Dens];exact⟨_,_,rfl,by simp only[Den],sE ns⟩
theorem aBH{K:Fg}{ns:List Int}{E:XK}(hl:ns.length<=63)(hO:rR [P1,P2] a H)(hS:SqL K H a (ns.map V.int)):spZ K (kZ P1 P2 o1 o2 q1 q2) [.ref a] H (λv _=>v = .bl true) E:=by
 have f:∀p,p=P1\/p=P2->H p=some (.tbl #[]):=λp g=>(hO p).1 (by simpa using g)
 have c:SqL K (λb=>if b=P1\/b=P2 then none else H b) a (ns.map V.int):=by
  rcases hS with h|h
  ·refine .inl ?_
   have ne:¬(a=P1\/a=P2):=λz=>by
    rcases h with h|⟨o,h⟩ <;> rw[f a z] at h <;> cases h
   rcases h with h|⟨o,h⟩
   ·exact .inl ((if_neg ne).trans h)
   ·exact .inr ⟨o,(if_neg ne).trans h⟩
  ·exact .inr h
 refine⟨_,λb=>if b=P1\/b=P2 then some (.ob (.tbl #[])) else none,[.fl (ns.map .int)],λd _=>d = .bl true,⟨λb o e => ?_,λb m e => ?_⟩,⟨_,_,rfl,aKD c (sE ns),by simp only[Dens]⟩,⟨ns,rfl,hl, .inl (if_pos '1'), .inl (if_pos (.inr rfl)),λ_=>rfl⟩,λv G' H' d M' _ hd e=>by subst e;simpa only[Den] using hd⟩
 ·split at e
  ·cases e
  ·exact e
 ·split at e
  ·rename_i z
   cases e
   exact⟨if_pos z,f b z⟩
  ·cases e
end Q
namespace HB
open PySem PySem.W L2
theorem mkD{K:qg}(X:K.In h)(G:h.Ns jx mg)(n:String)(st:Stmt)(ps:List Str)(f cd:Addr)(pm:Value)(a:nsIn K jx (qu n)=some (.ref f).3)(l:K.lookup f=some (fO n st pm cd))(c:codeIn K (.ref cd) (qu n)=true)(k:keepIn K (.ref f)=true)(b:∀(kV doc pm:Value) (an:Option Addr) (cdv ct:Value) (us:List Value),us.length=ps.length->bindArgs (wu (qu n) (qu n) (dE st) (cU st) (aK st) .none kV doc pm an cdv ct) ⟨us,[]⟩=pure (ps.zip us)):
  R.Df K mg (qu n) st ps f (wu (qu n) (qu n) (dE st) (cU st) (aK st) .none .none .none pm none (.ref cd) .none):=
 have F:Fun K (qu n) (qu n) st f _:=aJZ l c k
 ⟨F,F.binds b,mg_of X G a⟩
theorem mkE{K:qg}(X:K.In h)(G:h.Ns jx mg)(n:String)(st:Stmt)(ps:List Str)(f cd:Addr)(pm:Value)(b:∀(kV doc pm:Value) (an:Option Addr) (cdv ct:Value) (us:List Value),us.length=ps.length->bindArgs (wu (qu n) (qu n) (dE st) (cU st) (aK st) .none kV doc pm an cdv ct) ⟨us,[]⟩=pure (ps.zip us))(a:nsIn K jx (qu n)=some (.ref f).3:=by kernel_rfl!)(l:K.lookup f=some (fO n st pm cd):=by kernel_rfl!)(c:codeIn K (.ref cd) (qu n)=true:=by kernel_rfl!)(k:keepIn K (.ref f)=true:=by kernel_rfl!):
  R.Df K mg (qu n) st ps f (wu (qu n) (qu n) (dE st) (cU st) (aK st) .none .none .none pm none (.ref cd) .none):=mkD X G n st ps f cd pm a l c k b
noncomputable def dA:List Str:=["len", "abs", "int", "min", "max", "range", "list", "tuple", "repr", "all", "any", "enumerate", "isinstance", "bool", "str", "zip", "reversed", "sorted", "dict"]
theorem mkB{K:qg}(X:K.In h)(G:h.Ns jx mg)(e:(dA.all λn=>nsIn K jx n==some none)=true):Q.Bt mg:=
 have z:∀n∈dA,mg n=none:=λn a=>mg_none_of X G (eq_of_beq (yu.mp e n a))
 ⟨z _ '?',z _ '?',z _ '?',z _ '?',z _ '?',z _ '?',z _ '?',z _ '?',z _ '?',z _ '?',z _ '?',z _ '?',z _ '?',z _ '?',z _ '?',z _ '?',z _ '?',z _ '?',z _ '?'⟩
theorem ln1{α:Type}{l:List α}(z:l.length=1):∃a,l=[a]:=List.length_eq_one_iff.mp z
theorem ln2{α:Type}{l:List α}(z:l.length=2):∃a b,l=[a,b]:=by
 cases l with
 |nil=>cases z
 |cons a l=>obtain⟨b,rfl⟩:=ln1 (l:=l) (by simpa using z);exact⟨a,b,rfl⟩
theorem ln3{α:Type}{l:List α}(z:l.length=3):∃a b c,l=[a,b,c]:=by
 cases l with
 |nil=>cases z
 |cons a l=>obtain⟨b,c,rfl⟩:=ln2 (l:=l) (by simpa using z);exact⟨a,b,c,rfl⟩
theorem ln4{α:Type}{l:List α}(z:l.length=4):∃a b c d,l=[a,b,c,d]:=by
 cases l with
 |nil=>cases z
 |cons a l=>obtain⟨b,c,d,rfl⟩:=ln3 (l:=l) (by simpa using z);exact⟨a,b,c,d,rfl⟩
theorem ln5{α:Type}{l:List α}(z:l.length=5):∃a b c d e,l=[a,b,c,d,e]:=by
 cases l with
 |nil=>cases z
 |cons a l=>obtain⟨b,c,d,e,rfl⟩:=ln4 (l:=l) (by simpa using z);exact⟨a,b,c,d,e,rfl⟩
theorem ln6{α:Type}{l:List α}(z:l.length=6):∃a b c d e f,l=[a,b,c,d,e,f]:=by
 cases l with
 |nil=>cases z
 |cons a l=>obtain⟨b,c,d,e,f,rfl⟩:=ln5 (l:=l) (by simpa using z);exact⟨a,b,c,d,e,f,rfl⟩
end HB
namespace Q
open PySem L2 Z
open HB in
theorem all_mk{l:h9}{fa:Addr}(X:(HD.K w.params).In h)(G:h.Ns jx mg)(hfa:mg "law" = some (.ref fa)):
  ∃fd:FuncData,(∀(s:Shared) (v:Value),BindsTo s fd ⟨[v],[]⟩ [("_law_script", v)])/\∀z:Heap,(HD.K w.params).In z->z.Ns jx mg->FnOk l.prog w (HD.K w.params) mg z CX0 12 fa fd ["_law_script"] (spZ (HD.K w.params) (kZ 84 91 f7 g6 f9 gW)):=by
 have T:Bt mg:=mkB X G (by kernel_rfl!)
 have C_bi:=PySem.W.mg_of X G (by kernel_rfl!:PySem.W.nsIn (HD.K w.params) jx "__builtins__" = some (R 4).3)
 have LK1:∀h:Heap,(HD.K w.params).In h->dz h 88 84/\h.BuiltinsAt mg 84:=λh X=>⟨⟨_,_,_,_,_,_,_,_,_,X 88 _ (by kernel_rfl!:cx 88 (HD.K w.params)=some (⟨.type "code", none, .fields #[(S "from_least" 292),(S "from_least" 293),(294).26,(I 64),(I 2),(I 0),(I 0),(I 3),(R 83),(.bool true),(I 181),(R 84), .none,(R 85),(R 86),(R 87),(I 299),(I 64),(300).26],#[]⟩:Obj)),rfl,rfl,rfl,rfl,rfl,rfl,rfl,rfl,by decide⟩,⟨4,_,C_bi,by decide,by decide,by decide,X 4 _ (by kernel_rfl!:cx 4 (HD.K w.params)=some (⟨.type "module", some 0, .plain,#[]⟩:Obj)),rfl,rfl,rfl⟩⟩
 have LK2:∀h:Heap,(HD.K w.params).In h->dz h 93 91/\h.BuiltinsAt mg 91:=λh X=>⟨⟨_,_,_,_,_,_,_,_,_,X 93 _ (by kernel_rfl!:cx 93 (HD.K w.params)=some ('3':Obj)),rfl,rfl,rfl,rfl,rfl,rfl,rfl,rfl,by decide⟩,⟨4,_,C_bi,by decide,by decide,by decide,X 4 _ (by kernel_rfl!:cx 4 (HD.K w.params)=some (⟨.type "module", some 0, .plain,#[]⟩:Obj)),rfl,rfl,rfl⟩⟩
 have D1:=mkE X G "_law_feed" oU ["_law_script", "_law_k"] 101 100 HD.zS0 (λ_ _ _ _ _ _ us hl=>by obtain⟨_,_,rfl⟩:=HB.ln2 hl;rfl)
 have D2:=mkE X G "_law_next" jL ["_law_feed_here", "_law_many"] 108 107 HD.zS0 (λ_ _ _ _ _ _ us hl=>by obtain⟨_,_,rfl⟩:=HB.ln2 hl;rfl)
 have D3:=mkE X G "_law_shared" kM ["_law_one", "_law_other"] 115 114 HD.zS0 (λ_ _ _ _ _ _ us hl=>by obtain⟨_,_,rfl⟩:=HB.ln2 hl;rfl)
 have D4:=mkE X G "_law_lines" mK ["_law_feed_here", "_law_many"] 122 121 HD.zS0 (λ_ _ _ _ _ _ us hl=>by obtain⟨_,_,rfl⟩:=HB.ln2 hl;rfl)
 have D5:=mkE X G "_law_is_in" lX ["_law_feed_here", "_law_way_here", "_law_k", "_law_j", "_law_wide", "_law_high"] 129 128 HD.zS0 (λ_ _ _ _ _ _ us hl=>by obtain⟨_,_,_,_,_,_,rfl⟩:=HB.ln6 hl;rfl)
 have D6:=mkE X G "_law_across" kP ["_law_rows"] 139 138 HD.zS0 (λ_ _ _ _ _ _ us hl=>by obtain⟨_,rfl⟩:=HB.ln1 hl;rfl)
 have D7:=mkE X G "_law_tidied" kK ["_law_lines_here", "_law_some"] 134 133 HD.zS0 (λ_ _ _ _ _ _ us hl=>by obtain⟨_,_,rfl⟩:=HB.ln2 hl;rfl)
 have D8:=mkE X G "_law_tidy" o0 ["_law_xs", "_law_ys", "_law_rows"] 146 145 HD.zS0 (λ_ _ _ _ _ _ us hl=>by obtain⟨_,_,_,rfl⟩:=HB.ln3 hl;rfl)
 have D9:=mkE X G "_law_yard" oS ["_law_feed_here", "_law_most"] 151 150 HD.zS0 (λ_ _ _ _ _ _ us hl=>by obtain⟨_,_,rfl⟩:=HB.ln2 hl;rfl)
 have D10:=mkE X G "has_cell" gR ["yard", "across", "up"] 21 20 (S "roofridges.yards" 187) (λ_ _ _ _ _ _ us hl=>by obtain⟨_,_,_,rfl⟩:=HB.ln3 hl;rfl)
 have D11:=mkE X G "is_edge" i6 ["yard", "facing", "place", "band"] 28 27 HD.zS2 (λ_ _ _ _ _ _ us hl=>by obtain⟨_,_,_,_,rfl⟩:=HB.ln4 hl;rfl)
 have D12:=mkE X G "runs" oM ["truths"] 35 34 HD.zS2 (λ_ _ _ _ _ _ us hl=>by obtain⟨_,rfl⟩:=HB.ln1 hl;rfl)
 have D13:=mkE X G "stretches" fZ ["yard", "facing", "place"] 40 39 HD.zS2 (λ_ _ _ _ _ _ us hl=>by obtain⟨_,_,_,rfl⟩:=HB.ln3 hl;rfl)
 have D14:=mkE X G "sides" mS ["yard"] 47 46 HD.zS2 (λ_ _ _ _ _ _ us hl=>by obtain⟨_,rfl⟩:=HB.ln1 hl;rfl)
 have D15:=mkE X G "begin_and_end" dU ["side"] 54 53 HD.zS1 (λ_ _ _ _ _ _ us hl=>by obtain⟨_,rfl⟩:=HB.ln1 hl;rfl)
 have D16:=mkE X G "by_begin" gX ["all_sides"] 61 60 HD.zS1 (λ_ _ _ _ _ _ us hl=>by obtain⟨_,rfl⟩:=HB.ln1 hl;rfl)
 have D17:=mkE X G "next_side" f6 ["side", "begun"] 68 67 HD.zS1 (λ_ _ _ _ _ _ us hl=>by obtain⟨_,_,rfl⟩:=HB.ln2 hl;rfl)
 have D18:=mkE X G "ring_of" jC ["first", "begun"] 75 74 HD.zS1 (λ_ _ _ _ _ _ us hl=>by obtain⟨_,_,rfl⟩:=HB.ln2 hl;rfl)
 have D19:=mkE X G "place_of" g7 ["yard", "point"] 82 81 HD.zS1 (λ_ _ _ _ _ _ us hl=>by obtain⟨_,_,rfl⟩:=HB.ln2 hl;rfl)
 have D20:=mkE X G "from_least" eY ["yard", "points"] 89 88 HD.zS1 (λ_ _ _ _ _ _ us hl=>by obtain⟨_,_,rfl⟩:=HB.ln2 hl;rfl)
 have D21:=mkE X G "rims" o5 ["yard"] 94 93 HD.zS1 (λ_ _ _ _ _ _ us hl=>by obtain⟨_,rfl⟩:=HB.ln1 hl;rfl)
 have D22:=mkE X G "_law_steps" mL ["_law_yard_here"] 158 157 HD.zS0 (λ_ _ _ _ _ _ us hl=>by obtain⟨_,rfl⟩:=HB.ln1 hl;rfl)
 have D23:=mkE X G "_law_place" l9 ["_law_lines_here", "_law_thing"] 163 162 HD.zS0 (λ_ _ _ _ _ _ us hl=>by obtain⟨_,_,rfl⟩:=HB.ln2 hl;rfl)
 have D24:=mkE X G "_law_placed" kJ ["_law_ring", "_law_yard_here"] 170 169 HD.zS0 (λ_ _ _ _ _ _ us hl=>by obtain⟨_,_,rfl⟩:=HB.ln2 hl;rfl)
 have D25:=mkE X G "_law_way" rS ["_law_one", "_law_other"] 177 176 HD.zS0 (λ_ _ _ _ _ _ us hl=>by obtain⟨_,_,rfl⟩:=HB.ln2 hl;rfl)
 have D26:=mkE X G "_law_gone" oG ["_law_one", "_law_other", "_law_left"] 184 183 HD.zS0 (λ_ _ _ _ _ _ us hl=>by obtain⟨_,_,_,rfl⟩:=HB.ln3 hl;rfl)
 have D27:=mkE X G "_law_turns" mI ["_law_places", "_law_there"] 191 190 HD.zS0 (λ_ _ _ _ _ _ us hl=>by obtain⟨_,_,rfl⟩:=HB.ln2 hl;rfl)
 have D28:=mkE X G "_law_right" mJ ["_law_found", "_law_yard_here"] 198 197 HD.zS0 (λ_ _ _ _ _ _ us hl=>by obtain⟨_,_,rfl⟩:=HB.ln2 hl;rfl)
 have D29:=mkE X G "law" mO ["_law_script"] 205 204 HD.zS0 (λ_ _ _ _ _ _ us hl=>by obtain⟨_,rfl⟩:=HB.ln1 hl;rfl)
 cases hfa.symm.trans D29.m
 refine⟨wu "law" "law" (dE mO) (cU mO) (aK mO) .none .none .none HD.zS0 none (.ref 204) .none,λs v => .of_eq rfl,λz _ _ => ?_⟩
 have G1:=aFM (P:=l.prog) (w:=w) (z:=z) D1 T
 have G2:=aGC (P:=l.prog) (w:=w) (z:=z) D2
 have G3:=aAD (P:=l.prog) (w:=w) (z:=z) D3 T
 have G4:=aCZ D4 G2 G3 T
 have G5:=aD4 D5 G2 T
 have G6:=aA0 (P:=l.prog) (w:=w) (z:=z) D6 T
 have G7:=aBF (P:=l.prog) (w:=w) (z:=z) D7 T
 have G8:=aF3 D8 G7 G6 T
 have G9:=aGR D9 G4 G2 G5 G8 T
 have G10:=uY (P:=l.prog) (w:=w) (z:=z) D10 T
 have G11:=yN D11 G10
 have G12:=aHM (P:=l.prog) (w:=w) (z:=z) D12 T
 have G13:=t7 D13 G12 G11 T
 have G14:=aCD D14 G13 T
 have G15:=nA (P:=l.prog) (w:=w) (z:=z) D15
 have G16:=uJ D16 G15
 have G17:=rW D17 G15
 have G18:=xU D18 G17
 have G19:=uL (P:=l.prog) (w:=w) (z:=z) D19
 have G20:=rM D20 rfl LK1 '$' G19 T
 have G21:=aHT D21 rfl LK2 '$' '$' G14 G16 G18 G20 G19 G15 T
 have G22:=aDR D22 G6 T
 have G23:=aDO (P:=l.prog) (w:=w) (z:=z) D23 T
 have G24:=aAW D24 G23 T
 have G25:=aIM (P:=l.prog) (w:=w) (z:=z) D25 T
 have G26:=aF9 D26 G25 T
 have G27:=aDC D27 G25 T
 have G28:=aCP D28 G22 G24 G26 G27 T
 have G29:=aIC D29 G1 G2 G9 G21 G28 T
 exact G29
theorem walk{l:h9}{q:Program}{XP:(Str->Option Value)->Heap->Prop}{d:DefRec}{K:yx->qg}(hn:l.most=some 63)(hdf:d.params.defaults=[])(hY:∀(w:World) (h:Heap),YP w h->(K w.params).In h)(hT:∀(w:World) (h:Heap),YP w h->∀p∈[84,91],h.get? p=some (mq #[])/\Jt h p/\(K w.params).lookup p=none)(F:∀(w:World) (mg:Str->Option Value) (fa:Addr) (h:Heap),(K w.params).In h->h.Ns jx mg->mg d.name=some (.ref fa) ->
   ∃fd:FuncData,(∀(s:Shared) (u:Value),BindsTo s fd ⟨[u],[]⟩ [("_law_script", u)])/\∀z:Heap,(K w.params).In z->z.Ns jx mg->FnOk l.prog w (K w.params) mg z CX0 12 fa fd ["_law_script"] (spZ (K w.params) (kZ 84 91 f7 g6 f9 gW))):
  Jd q loose XP YP l.row.toRowW d [] (λf vs=>QG f vs):=
 L2.aCX (tabs:=[84,91]) (n:=63) (k:=12) (x := "_law_script") (CX:=λ_=>CX0) (sp:=λw=>spZ (K w.params) (kZ 84 91 f7 g6 f9 gW)) hn '$' hdf ⟨rfl,by decide,by decide,rfl⟩ hY hT F
  (λw H a ns hl b c=>aBH hl b c) λ_ _ _ _ _ z=>z
end Q
open PySem PySem.W PyProof.Rows HB
set_option maxRecDepth 100000 in
set_option maxHeartbeats 0 in
theorem PySem.Challenge.cw_roofridges_k20_rims_told_holds : PySem.Challenge.rw_roofridges_k20_rims_told.Holds := by
 w_on
 refine holds_law HD.said fun said => ?_
 refine holds_open (q:=HD.view) (loose:=[]) (Xt:=HD.Xt) (XP:=XL HD.view []) (Yf:=HD.Hk.obs) (Ya:=HD.Hk.val) (YP:=HD.Hk.says) HD.left (Hook.of HD.Hk) (Hook.keeps HD.Hk) (fun s e=>xl_of s (Bool.and_eq_true_iff.mp e).1) XL.keeps (by rfl) (by rfl) (by rfl) (fun s e=>recFacts_of (Bool.and_eq_true_iff.mp e).2) (by rfl) (by first | assumption | decide +kernel) (by decide +kernel) ⟨rfl,rfl,rfl,rfl,rfl,by decide +kernel⟩ ?hw ?hc
 case hw=>w_witness2
 exact Q.walk (l:=PySem.Challenge.rw_roofridges_k20_rims_told) (K:=HD.K) rfl rfl (fun w h Y=>Q.aEY (Q.aEY (PySem.W.kIn_of Y) (by kernel_rfl!)) (by kernel_rfl!)) (fun w h Y p a=>by
  have X:=PySem.W.kIn_of Y
  rcases List.mem_cons.mp a with rfl | a
  ·exact ⟨X 84 _ (by kernel_rfl!),⟨88,_,_,X 88 _ (by kernel_rfl!:List.lookup 88 (HD.KT w.params)=some (⟨.type "code", none, .fields #[(S "from_least" 292),(S "from_least" 293),(S "/claim/cut.py" 294),(I 64),(I 2),(I 0),(I 0),(I 3),(R 83),(.bool true),(I 181),(R 84), .none,(R 85),(R 86),(R 87),(I 299),(I 64),(S "/claim/cut.py" 300)],#[]⟩:Obj)),rfl,rfl,rfl⟩,by kernel_rfl!⟩
  ·rw [List.mem_singleton] at a
   subst a
   exact ⟨X 91 _ (by kernel_rfl!),⟨93,_,_,X 93 _ (by kernel_rfl!:List.lookup 93 (HD.KT w.params)=some (⟨.type "code", none, .fields #[(S "rims" 302),(S "rims" 303),(S "/claim/cut.py" 304),(I 67),(I 1),(I 0),(I 0),(I 3),(R 90),(.bool true),(I 181),(R 91), .none, .none, .none,(R 92),(I 305),(I 67),(S "/claim/cut.py" 306)],#[]⟩:Obj)),rfl,rfl,rfl⟩,by kernel_rfl!⟩) fun w d c h KX G b=>Q.all_mk KX G b
