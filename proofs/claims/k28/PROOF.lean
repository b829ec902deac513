import PyProof.Rows.All
import Wide.All
import OpenK.AllK
import Wide.FinOn
import PyProof.EqAt
import PyProof.EqKinds
import PyProof.TupleCall
import PySem.Challenge.RW_raisedsums_k28_settled_by_any_exchanges
set_option Elab.async false
set_option linter.all false
set_option maxRecDepth 100000
namespace PySem.W.Fast
theorem tw921670814624187453:True:=⟨⟩
theorem tw888738446628786095:True:=⟨⟩
theorem tw10937635821392966556:True:=⟨⟩
theorem tw6242544953327747831:True:=⟨⟩
theorem tw2601238754332661518:True:=⟨⟩
theorem tw16832409425485179015:True:=⟨⟩
theorem tw9356203054241209871:True:=⟨⟩
theorem tw14656110541765790139:True:=⟨⟩
theorem tw7447965986154889385:True:=⟨⟩
theorem tw17463483780562062969:True:=⟨⟩
theorem tw5426706818691909343:True:=⟨⟩
theorem tw14430781101470739287:True:=⟨⟩
theorem tw9897643468523927267:True:=⟨⟩
theorem tw17279335842866870759:True:=⟨⟩
theorem tw1095780807623935664:True:=⟨⟩
theorem tw1764985700872778807:True:=⟨⟩
theorem tw3651692883463454669:True:=⟨⟩
theorem tw12026394409597085292:True:=⟨⟩
theorem tw2714170943148658495:True:=⟨⟩
theorem tw2442561253288595846:True:=⟨⟩
theorem tw17271429920084044245:True:=⟨⟩
theorem tw3065276664359126399:True:=⟨⟩
theorem tw11783430820085007522:True:=⟨⟩
theorem tw16914949403759839338:True:=⟨⟩
theorem tw2043506809969363779:True:=⟨⟩
theorem tw323682428396796054:True:=⟨⟩
theorem tw16045067252307536055:True:=⟨⟩
theorem tw7452328496085078747:True:=⟨⟩
theorem tw13573056913412472053:True:=⟨⟩
theorem tw18235573055705436334:True:=⟨⟩
theorem tw9113060116862032274:True:=⟨⟩
theorem tw18413886813013454880:True:=⟨⟩
theorem tw4023929964029530721:True:=⟨⟩
theorem tw16390882396556932617:True:=⟨⟩
theorem tw4815714604403606890:True:=⟨⟩
theorem tw163442996556342323:True:=⟨⟩
theorem tw11541968806651169527:True:=⟨⟩
theorem tw7348613619546853103:True:=⟨⟩
theorem tw15859529559494663661:True:=⟨⟩
theorem tw9117316776696200691:True:=⟨⟩
theorem tw10055109110722585607:True:=⟨⟩
theorem tw16975531212652542563:True:=⟨⟩
theorem tw6452806197463178571:True:=⟨⟩
theorem tw2814678717484491922:True:=⟨⟩
theorem tw10418013316541597683:True:=⟨⟩
theorem tw9092285986973758354:True:=⟨⟩
theorem tw17594486696458330924:True:=⟨⟩
theorem tw6477432529937534287:True:=⟨⟩
theorem tw11474152746211382668:True:=⟨⟩
theorem tw15932951140511589223:True:=⟨⟩
theorem tw1066592061288319089:True:=⟨⟩
theorem tw8074541604912760534:True:=⟨⟩
theorem tw9836791158810504331:True:=⟨⟩
theorem tw8643794542246548328:True:=⟨⟩
theorem tw11236173662050730916:True:=⟨⟩
theorem tw11711102046418827730:True:=⟨⟩
theorem tw9078066575624418176:True:=⟨⟩
theorem tw13181916345352900510:True:=⟨⟩
theorem tw2197964817576729061:True:=⟨⟩
theorem tw7307970169883411642:True:=⟨⟩
theorem tw3385770615285132187:True:=⟨⟩
theorem tw5128793139018301611:True:=⟨⟩
theorem tw4794165170124783945:True:=⟨⟩
theorem tw10370201106228679624:True:=⟨⟩
theorem tw10851689349029207740:True:=⟨⟩
theorem tw361275343045724868:True:=⟨⟩
theorem tw5064974970345899725:True:=⟨⟩
theorem tw8838980847724032728:True:=⟨⟩
theorem tw16784008903445732179:True:=⟨⟩
theorem tw15380871685118932887:True:=⟨⟩
theorem tw2132924722733971115:True:=⟨⟩
theorem tw16711132352245935624:True:=⟨⟩
end PySem.W.Fast
set_option genSizeOfSpec false
set_option genInjectivity false
abbrev Fg:=PySem.W.Frag
abbrev xba:=@PySem.wpAny_bind
abbrev xbb:=@Nat.le_trans
abbrev xbc:=@List.getElem?_eq_some_iff
abbrev xbd:=@List.length_map
abbrev xbe:=@List.getElem?_eq_getElem
abbrev xbf:=@Nat.le_refl
abbrev xbg:=@List.getD_eq_getElem?_getD
abbrev xbh:=@Nat.lt_of_lt_of_le
abbrev xbi:=@List.mem_cons_of_mem
abbrev xbj:=@PyProof.Rows.wpS_bind
abbrev xbk:=@PySem.wpAny_pure
abbrev xbl:=@List.getElem?_set_ne
abbrev xbm:=@PySem.Heap.get?_push_of_some
abbrev xbn:=@PyProof.Rows.wpS_pure
abbrev xbo:=@List.mem_of_getElem?
abbrev xbp:=@List.map_cons
abbrev xbq:=@List.length_append
abbrev xbr:=@List.mem_cons
abbrev xbs:=@List.getElem?_append_left
abbrev xbt:=@PySem.Heap.lt_size
abbrev xbu:=@decide_eq_false
abbrev xbv:=@List.length_cons
abbrev xbw:=@decide_eq_true
abbrev xbx:=@Nat.le_of_lt
abbrev xby:=@Array.length_toList
abbrev xbz:=@Nat.le_add_right
abbrev xca:=@Nat.le_of_not_lt
abbrev xcb:=@List.mem_map
abbrev xcc:=@List.size_toArray
abbrev xcd:=@List.getElem?_map
abbrev xce:=@Nat.ne_of_lt
abbrev xcf:=@List.mem_range
abbrev xcg:=@List.mem_append
abbrev xch:=@PySem.Heap.get?_push_size
abbrev xci:=@Nat.add_le_add_left
abbrev xcj:=@Array.getElem?_toList
abbrev xck:=@List.append_assoc
abbrev xcl:=@Option.some.inj
abbrev xcm:=@Nat.add_sub_cancel'
abbrev xcn:=@List.mem_singleton
abbrev xco:=@List.getElem?_append_right
abbrev xcp:=@List.length_set
abbrev xcq:=@List.mem_filter
abbrev xcr:=@List.mem_cons_self
abbrev xcs:=@PySem.PassesOwn.never
abbrev xct:=@List.take_length
abbrev xcu:=@Nat.add_sub_cancel_left
abbrev xcv:=@Option.map_eq_some_iff
abbrev xcw:=@List.drop_eq_getElem_cons
abbrev xcx:=@List.length_take
abbrev xcy:=@Nat.le_of_lt_succ
abbrev xcz:=@Nat.lt_of_le_of_lt
abbrev xda:=@Nat.lt_of_le_of_ne
abbrev xdb:=@PySem.W.mg_none_of
abbrev xdc:=@Nat.le_sub_one_of_lt
abbrev xdd:=@Nat.xor_assoc
abbrev xde:=@Nat.le_of_succ_le
abbrev xdf:=@List.filter_cons_of_neg
abbrev xdg:=@List.filter_cons_of_pos
abbrev xdh:=@List.mem_append_right
abbrev xdi:=@Nat.le_of_eq
abbrev xdj:=@Bool.false_eq_true
abbrev xdk:=@Nat.le_of_add_left_le
abbrev xdl:=@List.map_map
abbrev xdm:=@Array.toList_append
abbrev xdn:=@PyProof.Rows.wpS_forRange
abbrev xdo:=@List.nodup_cons
abbrev xdp:=@Nat.sub_lt_left_of_lt_add
abbrev xdq:=@List.filter_append
abbrev xdr:=@Nat.le_antisymm
abbrev xds:=@Nat.add_lt_of_lt_sub'
abbrev xdt:=@List.map_append
abbrev xdu:=@of_decide_eq_true
abbrev xdv:=@Ne.symm
abbrev xdw:=@List.getElem?_set_self
abbrev xdx:=@Nat.min_eq_left
abbrev xdy:=@List.all_eq_true
abbrev xdz:=@List.getElem_mem
abbrev xea:=@List.getElem_of_mem
abbrev xeb:=@Nat.add_lt_add_left
abbrev xec:=@PySem.wpAny_mono
abbrev xed:=@List.find?_cons
abbrev xee:=@Nat.sub_lt_sub_right
abbrev xef:=@Nat.zero_add
abbrev xeg:=@Nat.zero_le
abbrev xeh:=@Nat.not_lt_of_le
abbrev xei:=@PySem.wpAny_truthy_bool
abbrev xej:=@List.nodup_nil
abbrev xek:=@Nat.le_sub_of_add_le'
abbrev xel:=@List.take_append_drop
abbrev xem:=@List.getElem?_eq_none
abbrev xen:=@PySem.W.kia_one
abbrev xeo:=@Bool.eq_iff_iff
abbrev xep:=@Bool.and_eq_true
abbrev xeq:=@PySem.wpAny_holding
abbrev xer:=@Nat.lt_of_succ_lt
abbrev xes:=@List.map_congr_left
abbrev xet:=@List.append_nil
abbrev xeu:=@List.length_filter_le
abbrev xev:=@List.length_drop
abbrev xew:=@List.lookup_cons
abbrev xex:=@Nat.succ_le_succ
abbrev xey:=@List.getElem?_drop
abbrev xez:=@PyProof.Rows.wpS_mono
abbrev xfa:=@PySem.F.slot_dict_keyiterator_next
abbrev xfb:=@Nat.sub_le_sub_right
abbrev xfc:=@Option.bind_eq_some_iff
abbrev xfd:=@Int.eq_ofNat_of_zero_le
abbrev xfe:=@Nat.sub_pos_of_lt
abbrev xff:=@Nat.le_succ_of_le
abbrev xfg:=@Array.toList_push
abbrev xfh:=@if_false
abbrev xfi:=@PySem.wpAny_newObj_type
abbrev xfj:=@decide_eq_true_eq
abbrev xfk:=@Array.perm_iff_toList_perm
abbrev xfl:=@List.filter_cons
abbrev xfm:=@Nat.lt_of_not_le
abbrev xfn:=@PySem.wpAny_call_entry
abbrev xfo:=@Bool.false_ne_true
abbrev xfp:=@List.length_replicate
abbrev xfq:=@Nat.lt_of_lt_of_eq
abbrev xfr:=@List.pairwise_append
abbrev xfs:=@List.sum_append
abbrev xft:=@Int.natCast_add
abbrev xfu:=@beq_iff_eq
abbrev xfv:=@List.ext_getElem?
abbrev xfw:=@if_true
abbrev xfx:=@PySem.wpAny_typeNameOfWhole_keyiter
abbrev xfy:=@PySem.mem_of_lookup
abbrev xfz:=@beq_eq_false_iff_ne
abbrev xga:=@Nat.sub_le
abbrev xgb:=@List.take_of_length_le
abbrev xgc:=@PyProof.Rows.wpS_modify
abbrev xgd:=@PyProof.Rows.callWith_type1
abbrev xge:=@Nat.lt_or_ge
abbrev xgf:=@Nat.sub_add_cancel
abbrev xgg:=@Nat.xor_zero
abbrev xgh:=@List.length_singleton
abbrev xgi:=@List.Perm.append_left
abbrev xgj:=@List.perm_append_comm
abbrev xgk:=@Nat.eq_of_beq_eq_true
abbrev xgl:=@PySem.wpAny_passesOwn
abbrev xgm:=@Nat.lt_irrefl
abbrev xgn:=@List.sum_cons
abbrev xgo:=@Int.toNat_natCast
abbrev xgp:=@List.length_range
abbrev xgq:=@List.nodup_append
abbrev xgr:=@List.mem_of_mem_drop
abbrev xgs:=@List.mem_of_mem_take
abbrev xgt:=@List.take_succ_eq_append_getElem
abbrev xgu:=@Int.zero_add
abbrev xgv:=@beq_self_eq_true
abbrev xgw:=@PySem.Heap.SameBut.update
abbrev xgx:=@Nat.sub_le_sub_left
abbrev xgy:=@PyProof.Rows.slot_tuple_getitem
abbrev xgz:=@PySem.F.plainAttrs_dict
abbrev xha:=@List.countP_cons_of_pos
abbrev xhb:=@Nat.lt_add_of_pos_right
abbrev xhc:=@List.getElem?_cons_succ
abbrev xhd:=@PySem.Paired.length
abbrev xhe:=@List.any_cons
abbrev xhf:=@PyProof.Rows.wpS_get
abbrev xhg:=@PySem.Calls.spliced_cons
abbrev xhh:=@List.length_nil
abbrev xhi:=@List.range_succ
abbrev xhj:=@Nat.sub_lt
abbrev xhk:=@Nat.min_le_left
abbrev xhl:=@List.pairwise_cons
abbrev xhm:=@PySem.tupleKind_room_in1
abbrev xhn:=@List.Perm.append_right
abbrev xho:=@List.drop_eq_nil_of_le
abbrev xhp:=@PySem.sizeLine_eq
abbrev xhq:=@decide_true
abbrev xhr:=@List.foldl_append
abbrev xhs:=@PySem.wpAny_dictEntries
abbrev xht:=@PySem.Heap.get?_update_self
abbrev xhu:=@Nat.lt_trans
abbrev xhv:=@PySem.F.slot_dict_pop
abbrev xhw:=@Array.extract_eq_empty_of_le
abbrev xhx:=@decide_false
abbrev xhy:=@List.mem_append_left
abbrev xhz:=@Nat.min_le_right
abbrev xia:=@Nat.min_eq_right
abbrev xib:=@Array.toList_reverse
abbrev xic:=@List.reverse_reverse
abbrev xid:=@PySem.wpAny_rule
abbrev xie:=@Int.add_mul
abbrev xif:=@List.filter_sublist
abbrev xig:=@List.getElem?_range
abbrev xih:=@Array.getElem?_eq_getElem
abbrev xii:=@List.pairwise_iff_getElem
abbrev xij:=@List.foldl_cons
abbrev xik:=@Int.emod_nonneg
abbrev xil:=@PySem.F.args_tuple_add_2
abbrev xim:=@PySem.Obj.data_mapFields
abbrev xin:=@Nat.sub_self
abbrev xio:=@PySem.AutoSeq1.wpAny_loadPart'
abbrev xip:=@List.count_eq_zero
abbrev xiq:=@Nat.xor_comm
abbrev xir:=@Nat.zero_xor
abbrev xis:=@PySem.wpAny_pyIter_tuple
abbrev xit:=@PySem.wpAny_Call_Name_kw
abbrev xiu:=@PyProof.Rows.slot_tuple_getitem
abbrev xiv:=@List.getElem?_replicate
abbrev xiw:=@PySem.F.entry_tuple_add
abbrev xix:=@List.countP_cons_of_neg
abbrev xiy:=@List.pairwise_singleton
abbrev xiz:=@List.getElem?_cons_zero
abbrev xja:=@List.length_eq_zero_iff
abbrev xjb:=@List.eraseIdx_cons_succ
abbrev xjc:=@PySem.Calls.spliced_nil
abbrev xjd:=@Nat.zero_lt_of_lt
abbrev xje:=@Nat.lt_succ_of_lt
abbrev xjf:=@List.count_append
abbrev xjg:=@PySem.F.slot_tuple_add
abbrev xjh:=@PySem.Calls.callWith_builtin
abbrev xji:=@Array.getElem?_eq_none
abbrev xjj:=@List.mem_reverse
abbrev xjk:=@Nat.lt_succ_self
abbrev xjl:=@PyProof.Rows.wpS_lift
abbrev xjm:=@PySem.F.slot_tuple_lt
abbrev xjn:=@PySem.F.slot_dict_get
abbrev xjo:=@Nat.ble_eq_true_of_le
abbrev xjp:=@PySem.Calls.evalArgs_plain
abbrev xjq:=@Nat.add_zero
abbrev xjr:=@Int.mul_le_mul_of_nonneg_right
abbrev xjs:=@List.filter_nil
abbrev xjt:=@PySem.wpAny_execs_nil
abbrev xju:=@PySem.codeAny_mono
abbrev xjv:=@PySem.call_meetsIn
abbrev xjw:=@List.filterMap_cons
abbrev xjx:=@List.filter_eq_self
abbrev xjy:=@PySem.F.slot_dict_setdefault
abbrev xjz:=@Int.mul_nonneg
abbrev xka:=@PySem.wpAny_setField
abbrev xkb:=@Int.mul_add
abbrev xkc:=@PySem.wpAny_field
abbrev xkd:=@Array.append_empty
abbrev xke:=@Nat.pos_of_ne_zero
abbrev xkf:=@Nat.eq_zero_or_pos
abbrev xkg:=@Int.lt_of_le_of_lt
abbrev xkh:=@PySem.wpAny_standAt
abbrev xki:=@List.take_sublist
abbrev xkj:=@List.mapM_toArray
abbrev xkk:=@PySem.wpAny_pyIter_list
abbrev xkl:=@List.mem_of_find?_eq_some
abbrev xkm:=@Classical.byContradiction
abbrev xkn:=@List.getElem_inj
abbrev xko:=@Nat.ne_of_gt
abbrev xkp:=@List.map_nil
abbrev xkq:=@List.any_eq_true
abbrev xkr:=@Nat.max_eq_right
abbrev xks:=@Int.le_trans
abbrev xkt:=@List.not_mem_nil
abbrev xku:=@Option.getD_some
abbrev xkv:=@Nat.xor_self
abbrev xkw:=@List.Nodup.count
abbrev xkx:=@map_eq_pure_bind
abbrev xky:=@List.of_mem_zip
abbrev xkz:=@Nat.le_add_left
abbrev xla:=@List.filter_map
abbrev xlb:=@Nat.two_pos
abbrev xlc:=@Nat.le_succ
abbrev xld:=@List.drop_drop
set_option maxHeartbeats 0
namespace L2
open PySem PySem.Spec PyProof.Rows
noncomputable abbrev Key:=Sum Int Str
noncomputable def keyIs:Key->Value->Bool
 | .inl k,v=>Value.isInt k v
 | .inr x,v=>Value.isStrOf x v
noncomputable def keyH (w:World):Key->Int
 | .inl k=>hashInt k
 | .inr x=>hashStr w x
theorem zbj:∀{k:Key} {v:Value},keyIs k v=true->(∃i t,k=Sum.inl i/\v=Value.int i t)\/(∃x t,k=Sum.inr x/\v=Value.str x t)
 | .inl i,v,h=>by
  obtain⟨t,e⟩:=Value.isInt_shape (k:=i) (v:=v) h;exact .inl ⟨i,t,rfl,e⟩
 | .inr x,v,h=>by
  obtain⟨t,e⟩:=Value.isStrOf_shape (x:=x) (v:=v) h;exact .inr ⟨x,t,rfl,e⟩
theorem zvx (i:Int)(t:Tok):keyIs (.inl i) (.int i t)=true:=by simp[keyIs,Value.isInt]
theorem zvw (x:Str)(t:Tok):keyIs (.inr x) (.str x t)=true:=by simp[keyIs,Value.isStrOf]
theorem zbjv (a b:Int):decide ((Sum.inl a:Key)=Sum.inl b)=(a==b):=by
 by_cases e:a=b
 ·subst e;simp
 ·have h:¬ (Sum.inl a:Key)=Sum.inl b:=fun q=>e (Sum.inl.inj q)
  rw[xbu h];exact(xfz.mpr e).symm
theorem zbjs (a b:Str):decide ((Sum.inr a:Key)=Sum.inr b)=decide (a=b):=by
 by_cases e:a=b
 ·subst e;simp
 ·have h:¬ (Sum.inr a:Key)=Sum.inr b:=fun q=>e (Sum.inr.inj q)
  rw[xbu h,xbu e]
theorem zbju (a:Int)(b:Str):decide ((Sum.inl a:Key)=Sum.inr b)=false:=xbu (fun q=>nomatch q)
theorem zbjt (a:Str)(b:Int):decide ((Sum.inr a:Key)=Sum.inl b)=false:=xbu (fun q=>nomatch q)
noncomputable def mixKind (prog:Program) (w:World):PySem.KeyKind prog w Key where
 is:=keyIs
 hash:=keyH w
 inj:=fun v a b ha hb=>by
  rcases zbj ha with⟨i,t,rfl,rfl⟩ | ⟨x,t,rfl,rfl⟩
  ·rcases zbj hb with⟨j,u,rfl,e⟩ | ⟨y,u,rfl,e⟩
   ·injection e with e1 _;rw[e1]
   ·exact nomatch e
  ·rcases zbj hb with⟨j,u,rfl,e⟩ | ⟨y,u,rfl,e⟩
   ·exact nomatch e
   ·injection e with e1 _;rw[e1]
 byValue:=fun k v h=>by
  rcases zbj h with⟨i,t,rfl,rfl⟩ | ⟨x,t,rfl,rfl⟩<;>rfl
 pyHash:=fun hv h=>by
  rcases zbj hv with⟨i,t,rfl,rfl⟩ | ⟨x,t,rfl,rfl⟩
  ·exact wpAny_pyHash_int h
  ·exact wpAny_pyHash_str h
 eqBool:=fun hu hv h=>by
  rcases zbj hu with⟨i,t,rfl,rfl⟩ | ⟨x,t,rfl,rfl⟩
  ·rcases zbj hv with⟨j,u,rfl,rfl⟩ | ⟨y,u,rfl,rfl⟩
   ·rw[zbjv] at h;exact wpAny_eqBool_int h
   ·rw[zbju] at h;exact SeqAt.EqAt.int_str i t y u _ _ _ _ h
  ·rcases zbj hv with⟨j,u,rfl,rfl⟩ | ⟨y,u,rfl,rfl⟩
   ·rw[zbjt] at h;exact SeqAt.EqAt.str_int x t j u _ _ _ _ h
   ·rw[zbjs] at h;exact wpAny_eqBool_str h
 «strs»:=fun k x t v h=>by
  rcases zbj h with⟨i,u,rfl,e⟩ | ⟨y,u,rfl,e⟩
  ·exact nomatch e
  ·injection e with e1 _
   subst e1;cases v<;>rfl
theorem zqo (prog:Program)(w:World)(i:Int)(t:Tok):(mixKind prog w).is (.inl i) (.int i t)=true:=zvx i t
theorem zqn (prog:Program)(w:World)(x:Str)(t:Tok):(mixKind prog w).is (.inr x) (.str x t)=true:=zvw x t
set_option genInjectivity true in
inductive V where
 | non | bl (b:Bool) | int (i:Int) | str (x:Str) | byt (b:Array UInt8) | flt (b:UInt64) | ref (a:Addr) | ty (n:String)
 deriving DecidableEq
noncomputable def RelV:V->Value->Prop
 | .non,u=>u=Value.none
 | .bl b,u=>u=Value.bool b
 | .int i,u=>∃t,u=Value.int i t
 | .str x,u=>∃t,u=Value.str x t
 | .byt b,u=>∃t,u=Value.bytes b t
 | .flt b,u=>∃t,u=Value.float b t
 | .ref a,u=>u=Value.ref a
 | .ty n,u=>u=Value.type n
noncomputable abbrev Vals:List V->List Value->Prop:=Paired RelV
theorem Vals.length {xs:List V}{us:List Value}(r:Vals xs us):xs.length=us.length:=xhd r
theorem Vals.get:∀{xs:List V} {us:List Value} {i:Nat} {x:V},Vals xs us->xs[i]?=some x->∃u,us[i]?=some u/\RelV x u
 | _,_,_,_,.nil,e=>by simp at e
 | _,_,0,_,.cons r _,e=>by simp at e;subst e;exact⟨_,rfl,r⟩
 | _,_,i+1,x,.cons _ t,e=>by
  obtain⟨u,h1,h2⟩:=Vals.get (i:=i) (x:=x) t (by simpa using e);exact⟨u,by simpa using h1,h2⟩
theorem Vals.set {x:V}{u:Value}(r:RelV x u):∀{xs:List V} {us:List Value} (i:Nat),Vals xs us->Vals (xs.set i x) (us.set i u)
 | _,_,_,.nil=>.nil
 | _,_,0,.cons _ t=>.cons r t
 | _,_,i+1,.cons q t=>.cons q (Vals.set r i t)
theorem Vals.append:∀{xs ys:List V} {us ws:List Value},Vals xs us->Vals ys ws->Vals (xs++ys) (us++ws)
 | _,_,_,_,.nil,s=>s
 | _,_,_,_,.cons r t,s=>.cons r (Vals.append t s)
theorem Vals.take:∀{xs:List V} {us:List Value} (n:Nat),Vals xs us->Vals (xs.take n) (us.take n)
 | _,_,0,_=>.nil
 | _,_,_+1,.nil=>.nil
 | _,_,n+1,.cons r t=>.cons r (Vals.take n t)
theorem Vals.drop:∀{xs:List V} {us:List Value} (n:Nat),Vals xs us->Vals (xs.drop n) (us.drop n)
 | _,_,0,r=>r
 | _,_,_+1,.nil=>.nil
 | _,_,n+1,.cons _ t=>Vals.drop n t
noncomputable def RelO:Option V->Option Value->Prop
 | some v,some u=>RelV v u
 | none,none=>True
 | _,_=>False
noncomputable def KV {κ:Type}:List (κ×V)->List (κ×Value)->Prop:=Paired fun(p:κ×V) (q:κ×Value)=>p.1=q.1/\RelV p.2 q.2
noncomputable def kV:Key->V
 | .inl i=>.int i
 | .inr x=>.str x
set_option genInjectivity true in
inductive HO where
 /-- a list -/
 | lst (xs:List V)
 /-- a tuple (never changes) -/
 | tup (xs:List V)
 /-- a dict whose keys are ints and texts;one whose keys are tuples of ints and texts (the empty one is both) -/
 | dK (kvs:List (Key×V)) | dT (kvs:List (List Key×V))
 /-- a set of ints: its members,its size -/
 | set (S:Int->Bool) (n:Nat)
 /-- an instance of the class at C,its dict at dx,its attributes -/
 | ins (C dx:Addr) (fs:List (Str×V))
 /-- the dict of the instance at x -/
 | own (x:Addr)
 /-- the dict of an exception -/
 | xd (fs:List (Str×V))
 /-- a bound method,f of x -/
 | met (f x:Addr)
 /-- a range object lo,lo+1,.. below hi -/
 | rng (lo hi:Int)
 /-- a thing that is known to the object (the script;a dict while a loop walks it): read,never written while it is so -/
 | frz (o:Obj) (u:HO)
 /-- a code object's table -/
 | tbl (ps:Array Value)
 /-- any other thing,by what is true of its one object (a def of one's own: SetO a S n:=HO.ext fun h=>..) -/
 | ext (φ:Heap->Prop)
noncomputable abbrev Hp:=Addr->Option HO
noncomputable def upd (H:Hp) (a:Addr) (o:HO):Hp:=fun b=>if b=a then some o else H b
theorem zbc {H:Hp}{a:Addr}{o:HO}:upd H a o a=some o:=by unfold upd;rw[if_pos rfl]
theorem zr {H:Hp}{a b:Addr}{o:HO}(h:b≠a):upd H a o b=H b:=by unfold upd;rw[if_neg h]
theorem zbme {H:Hp}{a b:Addr}{o u:HO}(h:H a=some o)(h':H b=some u)(d:o≠u):a≠b:=by
 intro e;subst e;rw[h] at h';exact d (xcl h')
theorem zq {H:Hp}{a b:Addr}{o:HO}(h:H a=some o)(h':H b=none):a≠b:=by
 intro e;subst e;rw[h] at h';cases h'
section
variable (P:Program)(w:World)
noncomputable def ObjOk (H:Hp) (h:Heap) (a:Addr):HO->Prop
 | .lst xs=>xs.length<=sizeLine/\∃(its:List Value) (n:Nat), Vals xs its/\h.get? a=some { cls:=.type "list", data:=.seq its.toArray n }
 | .tup xs=>xs.length<=sizeLine/\∃its:List Value,Vals xs its/\IsTup h a its.toArray
 | .dK kvs=>kvs.length<=sizeLine/\(a==sysModules)=false/\∃vs,KV kvs vs/\h.DictOf (mixKind P w) a vs
 | .dT kvs=>kvs.length<=sizeLine/\(a==sysModules)=false/\∃xs:List (List Key×Addr×Value),
  Paired (fun(p:List Key×V) (q:List Key×Addr×Value)=>p.1=q.1/\H q.2.1=some (.tup (p.1.map kV))/\RelV p.2 q.2.2) kvs xs /\
  ∃o es ep,h.get? a=some o/\o.ExactDict/\o.data=.dict es ep/\es.toList=xs.map (entryOfKey (tupleKind (mixKind P w)))/\(xs.map (·.1)).Nodup
 | .set S n=>h.SetOf (intKind P w) a S n
 | .ins C dx fs=>H dx=some (.own a)/\fs.length<=1000/\dx≠a/\h.get? a=some (W.instObj C dx) /\
  ∃mA,h.Ns1 dx mA/\(∀f,RelO (fs.lookup f) (mA f))/\PySem.Within mA (fs.map (·.1))
 | .own _=>∃o,h.get? a=some o
 | .xd fs=>∃mA,h.Ns1 a mA/\∀f,RelO (fs.lookup f) (mA f)
 | .rng lo hi=>∃ t u v, h.get? a=some { cls:=.type "range", data:=.fields #[.int lo t, .int hi u, .int 1 v] }
 | .frz o u=>h.get? a=some o/\ObjOk H h a u
 | .tbl ps=>h.get? a=some {cls:=.none,data:=.fields ps}
 | .met f x=>h.get? a=some (W.methodObj (.ref f) (.ref x))
 | .ext φ=>φ h/\(∃o,h.get? a=some o)/\∀h1 h2:Heap,φ h1->(∀o,h1.get? a=some o->h2.get? a=some o)->φ h2
noncomputable def HOk (H:Hp) (h:Heap):Prop:=∀a o,H a=some o->ObjOk P w H h a o
end
section
variable {P:Program}{w:World}{H H':Hp}{h h':Heap}{a:Addr}{o:HO}
theorem ObjOk.lt (x:ObjOk P w H h a o):a < h.objs.size:=by
 cases o with
 | lst xs=>obtain⟨_,_,_,_,e⟩:=x;exact xbt e
 | tup xs=>obtain⟨_,_,_,p⟩:=x;exact p.lt
 | dK kvs=>obtain⟨_,_,_,_,o,_,_,e,_⟩:=x;exact xbt e
 | dT kvs=>obtain⟨_,_,_,_,o,_,_,e,_⟩:=x;exact xbt e
 | set S n=>obtain⟨o,_,_,_,e,_⟩:=x;exact xbt e
 | ins C dx fs=>obtain⟨_,_,_,e,_⟩:=x;exact xbt e
 | own y=>obtain⟨_,e⟩:=x;exact xbt e
 | xd fs=>obtain⟨_,⟨_,_,_,e,_⟩,_⟩:=x;exact xbt e
 | rng lo hi=>obtain⟨_,_,_,e⟩:=x;exact xbt e
 | frz ob u=>obtain⟨e,_⟩:=x;exact xbt e
 | tbl ps=>exact xbt (show h.get? a=some _ from x)
 | met f y=>exact xbt (show h.get? a=some _ from x)
 | ext φ=>obtain⟨_,⟨_,e⟩,_⟩:=x;exact xbt e
theorem Paired.mapP {α β:Type}{F G:α->β->Prop}:∀{l₁:List α} {l₂:List β},Paired F l₁ l₂->(∀a b,F a b->G a b)->Paired G l₁ l₂
 | _,_,.nil,_=>.nil
 | _,_,.cons r t,f=>.cons (f _ _ r) (Paired.mapP t f)
theorem ObjOk.stay (x:ObjOk P w H h a o)(k:∀b u,(b=a\/H b=some (.own a))->h.get? b=some u->h'.get? b=some u)
  (ho:∀b,H b=some (.own a)->H' b=some (.own a))(ht:∀b xs,H b=some (.tup xs)->H' b=some (.tup xs)):ObjOk P w H' h' a o:=by
 induction o with
 | lst xs=>obtain⟨z,its,n,r,e⟩:=x;exact⟨z,its,n,r,k _ _ (.inl rfl) e⟩
 | tup xs=>obtain⟨z,its,r,ob,e,c⟩:=x;exact⟨z,its,r,ob,k _ _ (.inl rfl) e,c⟩
 | dK kvs=>obtain⟨z,y,vs,r,ob,es,ep,e,c⟩:=x;exact⟨z,y,vs,r,ob,es,ep,k _ _ (.inl rfl) e,c⟩
 | dT kvs =>
  obtain⟨z,y,xs,r,ob,es,ep,e,c⟩:=x;exact⟨z,y,xs,Paired.mapP r fun p q z=>⟨z.1,ht _ _ z.2.1,z.2.2⟩,ob,es,ep,k _ _ (.inl rfl) e,c⟩
 | set S n=>obtain⟨ob,es,ep,t,e,c⟩:=x;exact⟨ob,es,ep,t,k _ _ (.inl rfl) e,c⟩
 | ins C dx fs =>
  obtain⟨d,z,ne,e,mA,⟨od,es,ep,e2,c⟩,r⟩:=x;exact⟨ho _ d,z,ne,k _ _ (.inl rfl) e,mA,⟨od,es,ep,k _ _ (.inr d) e2,c⟩,r⟩
 | own y=>obtain⟨ob,e⟩:=x;exact⟨ob,k _ _ (.inl rfl) e⟩
 | xd fs=>obtain⟨mA,⟨od,es,ep,e,c⟩,r⟩:=x;exact⟨mA,⟨od,es,ep,k _ _ (.inl rfl) e,c⟩,r⟩
 | rng lo hi=>obtain⟨t,u,v,e⟩:=x;exact⟨t,u,v,k _ _ (.inl rfl) e⟩
 | frz ob u ih=>obtain⟨e,q⟩:=x;exact⟨k _ _ (.inl rfl) e,ih q⟩
 | tbl ps =>
  have e:h.get? a=some {cls:=.none,data:=.fields ps}:=x;show h'.get? a=some {cls:=.none,data:=.fields ps};exact k a _ (.inl rfl) e
 | met f y =>
  have e:h.get? a=some (W.methodObj (.ref f) (.ref y)):=x;show h'.get? a=some (W.methodObj (.ref f) (.ref y));exact k a _ (.inl rfl) e
 | ext φ=>obtain⟨p,⟨o,e⟩,st⟩:=x;exact⟨st _ _ p fun o q=>k _ _ (.inl rfl) q,⟨o,k _ _ (.inl rfl) e⟩,st⟩
theorem HOk.lt (x:HOk P w H h)(e:H a=some o):a < h.objs.size:=(x a o e).lt
theorem HOk.fresh (x:HOk P w H h)(e:h.objs.size<=a):H a=none:=by
 cases q:H a with
 | none=>rfl
 | some u=>exact absurd (xbh (x.lt q) e) (xgm _)
theorem HOk.kept (x:HOk P w H h)(k:∀b u,h.get? b=some u->h'.get? b=some u):HOk P w H h':=fun a o e =>
 (x a o e).stay (fun b u _ q=>k b u q) (fun _ q=>q) fun _ _ q=>q
theorem HOk.laid (x:HOk P w H h)(k:∀b u,h.get? b=some u->h'.get? b=some u)(hp:h.objs.size<=a)(new:ObjOk P w (upd H a o) h' a o):HOk P w (upd H a o) h':=fun b u e=>by
 have hn:=x.fresh hp;by_cases hb:b=a
 ·subst hb;rw[zbc] at e;cases e;exact new
 ·rw[zr hb] at e;exact(x b u e).stay (fun c v _ q=>k c v q) (fun c q=>by rw[zr (zq q hn)];exact q) fun c xs q=>by rw[zr (zq q hn)];exact q
end
noncomputable def Rd (H:Hp) (a:Addr) (u:HO):Prop:=H a=some u\/∃o,H a=some (.frz o u)
theorem Rd.ok {P:Program}{w:World}{H:Hp}{h:Heap}{a:Addr}{u:HO}(r:Rd H a u)(x:HOk P w H h):ObjOk P w H h a u:=by
 rcases r with r | ⟨o,r⟩
 ·exact x a u r
 ·obtain⟨_,q⟩:=x a _ r;exact q
noncomputable def Mut:Option HO->Prop
 | some (.lst _)=>True
 | some (.dK _)=>True
 | some (.dT _)=>True
 | some (.set _ _)=>True
 | some (.ins _ _ _)=>True
 | some (.ext _)=>True
 | _=>False
section
variable {P:Program}{w:World}{H:Hp}{h h':Heap}{x e:Addr}{o':HO}
theorem HOk.write (ok:HOk P w H h)(mu:Mut (H x))(he:e=x\/H e=some (.own x))(k:∀b u,b≠e->h.get? b=some u->h'.get? b=some u)(heo:∃u,h'.get? e=some u)
  (new:ObjOk P w (upd H x o') h' x o'):HOk P w (upd H x o') h':=fun b u q=>by
 have nown:∀c y,H c=some (.own y)->c≠x:=fun c y r z=>by subst z;rw[r] at mu;exact mu
 have ntup:∀c xs,H c=some (.tup xs)->c≠x:=fun c xs r z=>by subst z;rw[r] at mu;exact mu
 by_cases hb:b=x
 ·subst hb;rw[zbc] at q;cases q;exact new
 ·rw[zr hb] at q;by_cases hbe:b=e
  ·have q':H b=some (.own x):=by
    rcases he with z | z
    ·exact absurd (hbe.trans z) hb
    ·rw[hbe];exact z
   rw[q] at q';cases q'
   obtain⟨v,hv⟩:=heo;exact⟨v,by rw[hbe];exact hv⟩
  ·refine(ok b u q).stay (fun c v hc r=>k c v ?_ r) (fun c r=>by rw[zr (nown c b r)];exact r) fun c xs r=>by rw[zr (ntup c xs r)];exact r
   rcases hc with rfl | hc
   ·exact hbe
   ·rintro rfl;rcases he with z | z
    ·exact nown c b hc z
    ·rw[hc] at z;cases z;exact hb rfl
end
structure Un (fs ex:List Addr) (H H':Hp) (h h':Heap):Prop where
 keep:∀b o,h.get? b=some o->H b=none->b∉fs->b∉ex->h'.get? b=some o
 slot:∀b o,h.get? b=some o->H b=none->b∈fs->b∉ex->∃sl,h'.get? b=some {o with slots:=sl}
 free:∀b o,h.get? b=some o->H b=none->b∉ex->H' b=none
 there:∀b o,h.get? b=some o->b∉ex->∃o',h'.get? b=some o'
 tups:∀b xs,H b=some (.tup xs)->H' b=some (.tup xs)
 frzs:∀b o u,H b=some (.frz o u)->H' b=some (.frz o u)
 tbls:∀b ps,H b=some (.tbl ps)->∃more,H' b=some (.tbl (ps++more))
section
variable {fs fs' ex ex':List Addr}{H H1 H2:Hp}{h h1 h2 h':Heap}{a x e:Addr}{o:HO}
theorem Un.any (u:Un fs ex H H1 h h1){b:Addr}{ob:Obj}(q:h.get? b=some ob)(n:H b=none)(hx:b∉ex):∃sl,h1.get? b=some {ob with slots:=sl}:=by
 by_cases hb:b∈fs
 ·exact u.slot b ob q n hb hx
 ·exact⟨ob.slots,u.keep b ob q n hb hx⟩
theorem Un.kept (k:∀b u,h.get? b=some u->h'.get? b=some u):Un fs ex H H h h' :=
 ⟨fun b ob q _ _ _=>k b ob q,fun b ob q _ _ _=>⟨ob.slots,k b ob q⟩,fun _ _ _ n _=>n,fun b ob q _=>⟨ob,k b ob q⟩,fun _ _ q=>q,fun _ _ _ q=>q,fun _ ps q=>⟨#[],by rw[q];simp⟩⟩
theorem Un.refl:Un fs ex H H h h:=Un.kept fun _ _ q=>q
theorem Un.laid (k:∀b u,h.get? b=some u->h'.get? b=some u)(hp:h.objs.size<=a)(hn:H a=none):Un fs ex H (upd H a o) h h' where
 keep:=fun b u q _ _ _=>k b u q
 slot:=fun b u q _ _ _=>⟨u.slots,k b u q⟩
 free:=fun b u q n _=>by rw[zr (xce (xbh (xbt q) hp))];exact n
 there:=fun b u q _=>⟨u,k b u q⟩
 tups:=fun b xs q=>by rw[zr (zq q hn)];exact q
 frzs:=fun b u xs q=>by rw[zr (zq q hn)];exact q
 tbls:=fun b ps q=>⟨#[],by rw[zr (zq q hn),q];simp⟩
theorem Un.write (mu:Mut (H x))(he:e=x\/H e=some (.own x))(k:∀b u,b≠e->h.get? b=some u->h'.get? b=some u)(heo:∃u,h'.get? e=some u):Un fs ex H (upd H x o) h h':=by
 have hx:∀b,H b=none->b≠x:=fun b n z=>by subst z;rw[n] at mu;exact mu
 have hb:∀b,H b=none->b≠e:=fun b n z=>by
  subst z;rcases he with r | r
  ·exact hx b n r
  ·rw[n] at r;cases r
 have hm:∀b u,H b=some u->¬ Mut (some u)->b≠x:=fun b u q nm z=>by subst z;rw[q] at mu;exact nm mu
 refine⟨fun b u q n _ _=>k b u (hb b n) q,fun b u q n _ _=>⟨u.slots,k b u (hb b n) q⟩,fun b u q n _=>by rw[zr (hx b n)];exact n,fun b u q _=>?_,
  fun b xs q=>by rw[zr (hm b _ q fun z=>z)];exact q,fun b u xs q=>by rw[zr (hm b _ q fun z=>z)];exact q,fun b ps q=>⟨#[],by rw[zr (hm b _ q fun z=>z),q];simp⟩⟩
 by_cases hbe:b=e
 ·subst hbe;exact heo
 ·exact⟨u,k b u hbe q⟩
end
noncomputable def trk (h:Heap) (H:Hp):List Addr:=(List.range h.objs.size).filter fun a=>(H a).isSome
noncomputable def hidT (h:Heap) (H:Hp):Heap:=W.hideAll h (trk h H)
theorem zwb (h:Heap)(H:Hp):(hidT h H).objs.size=h.objs.size:=W.hideAll_size _ _
theorem zbae {h:Heap}{H:Hp}{b:Addr}{o:Obj}(e:h.get? b=some o)(n:H b=none):(hidT h H).get? b=some o :=
 W.hideAll_get _ e fun hm=>by
  have q:(H b).isSome=true:=(xcq.mp hm).2;rw[n] at q;simp at q
theorem zbdz {h:Heap}{H:Hp}{b:Addr}{o:Obj}(e:(hidT h H).get? b=some o):h.get? b=some o/\H b=none:=by
 have e':h.get? b=some o:=W.of_hideAll (trk h H) e;refine⟨e',?_⟩;cases q:H b with
 | none=>rfl
 | some x =>
  have hm:b∈trk h H:=xcq.mpr ⟨xcf.mpr (xbt e'),by simp[q]⟩;have z:(hidT h H).get? b=none:=W.hideAll_none (trk h H) hm;rw[z] at e;cases e
structure Mod (K:Fg) (mg:Str->Option Value) (base:Heap):Prop where
 kin:K.In base
 glob:base.Ns mainGlobals mg
 blt:∃ mb, base.Ns builtinsNs mb/\∀ x:Str, x≠"__name__"->mb x=bootBuiltins x
 nolimit:base.NoLimit
structure Cx where
 prog:Program
 w:World
 K:Fg
 mg:Str->Option Value
 base:Heap
 A:Around
 N:List Str
 s₀:Shared
 H₀:Hp
 env:Env
 outer:List Env
 stack:List Env
 ex:List Addr
 fn:Str->Bool
 calm:Bool
 pn:List (Addr×Obj)
 xe:Value->Shared->Prop
noncomputable def frs (l:List Env):List Addr:=l.filterMap (·.frame)
noncomputable abbrev Cx.fs (X:Cx):List Addr:=frs X.outer
noncomputable def Vis (sc:Scope) (x:Str):Prop:=sc.names.lookup x=some .local\/sc.names.lookup x=some .cell\/sc.names.lookup x=some .free
noncomputable def Loc (sc:Scope) (x:Str):Prop:=sc.names.lookup x=some .local\/sc.names.lookup x=some .cell
noncomputable def Look (env:Env) (h:Heap) (m:Str->Option Value) (x:Str) (u:Value):Prop :=
 (env.kindOf x=some .local/\m x=some u)\/((env.kindOf x=some .cell\/env.kindOf x=some .free)/\∃c,env.cells.lookup x=some c/\h.IsCell c (some u))
structure Cx.Ok (X:Cx):Prop where
 mod:Mod X.K X.mg X.base
 kind:X.env.scope.kind=.function
 glob:X.env.globals=mainGlobals
 blt:X.env.builtins=builtinsNs
 above:X.s₀.heap.objs.size<=X.env.locals
 inj:∀x y c,X.env.cells.lookup x=some c->X.env.cells.lookup y=some c->x=y
 has:∀x,(X.env.kindOf x=some .cell\/X.env.kindOf x=some .free)->∃c,X.env.cells.lookup x=some c
 cab:∀x c,X.fn x=true->X.env.cells.lookup x=some c->X.s₀.heap.objs.size<=c
 hd:X.calm=true->X.A.handled=none
 frames:X.A.frames=some X.stack
 stk:X.stack=X.outer\/(X.stack=X.env::X.outer/\X.env.frame=some X.env.locals)
 exf:∀b∈X.ex,b≠X.env.locals/\∀x c,X.env.cells.lookup x=some c->c≠b
 bs:∀b o,X.base.get? b=some o->X.s₀.heap.get? b=some o/\X.H₀ b=none
 bsz:X.base.objs.size<=X.s₀.heap.objs.size
 noex:∀b o,X.base.get? b=some o->b∉X.ex
 exfs:∀b∈X.ex,b∉X.fs
 funs:X.s₀.heap.FunFrames X.base X.outer
 frf:∀b∈X.fs,X.H₀ b=none
noncomputable def Hnd (A:Around) (H:Hp):Prop:=∀v,A.handled=some v->∃a o,v=.ref a/\H a=some (.frz o (.ext fun _=>True))/\∃vs,o.data=.fields vs/\vs[2]?=some .none
theorem Hnd.map {A:Around}{H H':Hp}(h:Hnd A H)(f:∀b o u,H b=some (.frz o u)->H' b=some (.frz o u)):Hnd A H':=fun v e=>let ⟨a,o,h1,h2,h3⟩:=h v e;⟨a,o,h1,f _ _ _ h2,h3⟩
theorem Hnd.none {A:Around}{H:Hp}(h:A.handled=.none):Hnd A H:=fun v e=>by rw[h] at e;cases e
structure Inv (X:Cx) (aU:List (Addr×Obj)) (σ:List (Option V)) (H:Hp) (s:Shared):Prop where
 ok:X.Ok
 os:s.os=X.s₀.os
 bare:AllBare s.gens
 base:Un X.fs X.ex X.H₀ H X.s₀.heap s.heap
 loc:∃m,s.heap.Ns X.env.locals m/\∀(i:Nat) (x:Str) (v:V),X.N[i]?=some x->σ[i]?=some (some v)->Vis X.env.scope x->∃u,RelV v u/\Look X.env s.heap m x u
 cell:∀x c,X.env.cells.lookup x=some c->∃v,s.heap.IsCell c v
 free:H X.env.locals=none
 freeC:∀x c,X.env.cells.lookup x=some c->H c=none
 pin:∀p∈X.pn++aU,s.heap.get? p.1=some p.2/\H p.1=none/\p.1≠X.env.locals/\p.1∉X.fs/\∀v,p.2.data≠.cell v
 hok:HOk X.prog X.w H s.heap
 len:σ.length=X.N.length
 hnd:Hnd X.A H
section
variable {X:Cx}{aU:List (Addr×Obj)}{σ:List (Option V)}{H H':Hp}{s:Shared}{h':Heap}
theorem Cx.Ok.nofr (ok:X.Ok){b:Addr}{o:Obj}(e:X.base.get? b=some o):b∉X.fs:=fun hb=>by
 have:=(ok.funs.mem hb).1;rw[e] at this;cases this
theorem Inv.bs (I:Inv X aU σ H s):∀b o,X.base.get? b=some o->s.heap.get? b=some o/\H b=none:=fun b o e =>
 ⟨I.base.keep b o (I.ok.bs b o e).1 (I.ok.bs b o e).2 (I.ok.nofr e) (I.ok.noex b o e),I.base.free b o (I.ok.bs b o e).1 (I.ok.bs b o e).2 (I.ok.noex b o e)⟩
theorem Inv.bk (I:Inv X aU σ H s):∀b o,X.base.get? b=some o->s.heap.get? b=some o:=fun b o e=>(I.bs b o e).1
theorem Inv.mod (I:Inv X aU σ H s):Mod X.K X.mg X.base:=I.ok.mod
theorem Inv.kIn (I:Inv X aU σ H s):X.K.In s.heap:=I.ok.mod.kin.keeps I.bk
theorem Inv.lt (I:Inv X aU σ H s):X.env.locals < s.heap.objs.size:=let ⟨_,hn,_⟩:=I.loc;hn.lt
theorem Inv.sz (I:Inv X aU σ H s):X.s₀.heap.objs.size<=s.heap.objs.size:=xbb I.ok.above (xbx I.lt)
theorem Inv.nofs (I:Inv X aU σ H s){a:Addr}(h:s.heap.objs.size<=a):a∉X.fs:=fun hb=>by
 obtain⟨_,o,ho,_⟩:=I.ok.funs.mem hb;exact absurd (xbh (xbt ho) (xbb I.sz h)) (xgm _)
theorem Inv.cne (I:Inv X aU σ H s):∀x c,X.env.cells.lookup x=some c->c≠X.env.locals:=fun x c e z=>by
 obtain⟨v,o,ho,hd⟩:=I.cell x c e;obtain⟨m,⟨o',es,ep,ho',hd',_⟩,_⟩:=I.loc;rw[z,ho'] at ho;cases ho;rw[hd'] at hd;cases hd
theorem Inv.funs (I:Inv X aU σ H s):s.heap.FunFrames X.base X.outer:=by
 have all:∀(l:List Env),(∀b∈frs l,b∈X.fs)->X.s₀.heap.FunFrames X.base l->s.heap.FunFrames X.base l:=by
  intro l
  induction l with
  | nil=>intro _ _;trivial
  | cons env r ih =>
   intro hs hl;obtain⟨hk,⟨L,o,hf,hn,ho,hd⟩,hr⟩:=hl;have hL:L∈X.fs:=hs L (by unfold frs;rw[xjw,hf];exact xcr);obtain⟨sl,e⟩:=I.base.slot L o ho (I.ok.frf L hL) hL fun z=>I.ok.exfs L z hL
   exact⟨hk,⟨L,_,hf,hn,e,hd⟩,ih (fun b hb=>hs b (by unfold frs;rw[xjw,hf];exact xbi _ hb)) hr⟩
 exact all X.outer (fun _ hb=>hb) I.ok.funs
theorem Inv.stack (I:Inv X aU σ H s):s.heap.FunFrames X.base X.stack:=by
 rcases I.ok.stk with e | ⟨e,hf⟩
 ·rw[e];exact I.funs
 ·rw[e];obtain⟨m,hn,_⟩:=I.loc;refine .cons (by rw[I.ok.kind];decide) hf hn ?_ I.funs;exact Heap.get?_none_of_le (xbb I.ok.bsz I.ok.above)
theorem Inv.stkSub (I:Inv X aU σ H s):∀b∈frs X.stack,b∈X.env.locals::X.fs:=fun b hb=>by
 rcases I.ok.stk with e | ⟨e,hf⟩
 ·rw[e] at hb;exact xbi _ hb
 ·rw[e] at hb;unfold frs at hb;rw[xjw,hf] at hb;exact hb
theorem Inv.stkFree (I:Inv X aU σ H s):∀b∈frs X.stack,H b=none:=fun b hb=>by
 rcases xbr.mp (I.stkSub b hb) with e | hb
 ·rw[e];exact I.free
 ·obtain⟨_,o,ho,_⟩:=I.ok.funs.mem hb;exact I.base.free b o ho (I.ok.frf b hb) fun z=>I.ok.exfs b z hb
theorem Inv.step {g':Array GenState}{t':Nat}{d':Drawn}{ch:List Addr}(I:Inv X aU σ H s)
  (hch:∀b∈ch,(b∈X.ex\/X.s₀.heap.objs.size<=b)/\b≠X.env.locals/\(∀x c,X.env.cells.lookup x=some c->c≠b)/\∀p∈X.pn++aU,p.1≠b)
  (keep:∀b o,b≠X.env.locals->b∉X.fs->b∉ch->s.heap.get? b=some o->H b=none->h'.get? b=some o)
  (slot:∀b o,b≠X.env.locals->b∈X.fs->b∉ch->s.heap.get? b=some o->H b=none->∃sl,h'.get? b=some {o with slots:=sl})(free:∀b o,b∉ch->s.heap.get? b=some o->H b=none->H' b=none)
  (there:∀b o,b∉ch->s.heap.get? b=some o->∃o',h'.get? b=some o')
  (tups:∀b xs,H b=some (.tup xs)->H' b=some (.tup xs))(frzs:∀b o u,H b=some (.frz o u)->H' b=some (.frz o u))(tbls:∀b ps,H b=some (.tbl ps)->∃more,H' b=some (.tbl (ps++more)))
  (ns:∀m,s.heap.Ns X.env.locals m->h'.Ns X.env.locals m)(hok:HOk X.prog X.w H' h')(hg:AllBare g') :
  Inv X aU σ H' {s with heap:=h',gens:=g',drawn:=d',toks:=t'}:=by
 have neL:∀b o,X.s₀.heap.get? b=some o->b≠X.env.locals:=fun b o e=>xce (xbh (xbt e) I.ok.above)
 have neC:∀b o,X.s₀.heap.get? b=some o->b∉X.ex->b∉ch:=fun b o e hx hb=>by
  rcases(hch b hb).1 with z | z
  ·exact hx z
  ·exact absurd (xbh (xbt e) z) (xgm _)
 have cellK:∀x c,X.env.cells.lookup x=some c->∀v,s.heap.IsCell c v->h'.IsCell c v:=fun x c e v hq0=>by
  obtain⟨o,ho,hd⟩:=hq0;have nch:c∉ch:=fun z=>(hch c z).2.2.1 x c e rfl
  by_cases hc:c∈X.fs
  ·obtain⟨sl,q⟩:=slot c o (I.cne x c e) hc nch ho (I.freeC x c e);exact⟨_,q,hd⟩
  ·exact⟨o,keep c o (I.cne x c e) hc nch ho (I.freeC x c e),hd⟩
 refine⟨I.ok,I.os,hg,⟨fun b o e n hb hx=>?_,fun b o e n hb hx=>?_,fun b o e n hx=>?_,fun b o e hx=>?_,fun b xs e=>tups b xs (I.base.tups b xs e),fun b o xs e=>frzs b o xs (I.base.frzs b o xs e),fun b ps e=>?_⟩,?_,fun x c e=>?_,?_,fun x c e=>?_,fun p hp=>?_,hok,I.len,I.hnd.map frzs⟩
 ·exact keep b o (neL b o e) hb (neC b o e hx) (I.base.keep b o e n hb hx) (I.base.free b o e n hx)
 ·obtain⟨sl,e1⟩:=I.base.slot b o e n hb hx;obtain⟨sl',e2⟩:=slot b _ (neL b o e) hb (neC b o e hx) e1 (I.base.free b o e n hx);exact⟨sl',e2⟩
 ·obtain⟨o',e1⟩:=I.base.there b o e hx;exact free b o' (neC b o e hx) e1 (I.base.free b o e n hx)
 ·obtain⟨o',e1⟩:=I.base.there b o e hx;exact there b o' (neC b o e hx) e1
 ·obtain⟨m1,e1⟩:=I.base.tbls b ps e;obtain⟨m2,e2⟩:=tbls b _ e1;exact⟨m1++m2,by rw[e2,Array.append_assoc]⟩
 ·obtain⟨m,hn,hl⟩:=I.loc;refine⟨m,ns m hn,fun i x v e1 e2 e3=>?_⟩;obtain⟨u,r,l⟩:=hl i x v e1 e2 e3;refine⟨u,r,?_⟩;rcases l with l | ⟨k,c,e,z⟩
  ·exact .inl l
  ·exact .inr ⟨k,c,e,cellK x c e _ z⟩
 ·obtain⟨v,z⟩:=I.cell x c e;exact⟨v,cellK x c e v z⟩
 ·obtain⟨m,⟨o,_,_,ho,_⟩,_⟩:=I.loc;exact free _ o (fun z=>(hch _ z).2.1 rfl) ho I.free
 ·obtain⟨v,o,ho,hd⟩:=I.cell x c e;exact free c o (fun z=>(hch c z).2.2.1 x c e rfl) ho (I.freeC x c e)
 ·obtain⟨e,n,ne,nf,d⟩:=I.pin p hp;have nch:p.1∉ch:=fun z=>(hch p.1 z).2.2.2 p hp rfl
  exact⟨keep p.1 p.2 ne nf nch e n,free p.1 p.2 nch e n,ne,nf,d⟩
theorem Inv.un {t':Nat}(I:Inv X aU σ H s)(u:Un X.fs [] H H' s.heap h')(hok:HOk X.prog X.w H' h'):Inv X aU σ H' {s with heap:=h',toks:=t'}:=by
 obtain⟨m,⟨o,es,ep,ho,r⟩,_⟩:=id I.loc;obtain⟨sl,hL⟩:=u.any ho I.free (by simp)
 exact I.step (g':=s.gens) (d':=s.drawn) (ch:=[]) (fun _ z=>nomatch z) (fun b o _ hb _ e n=>u.keep b o e n hb (by simp)) (fun b o _ hb _ e n=>u.slot b o e n hb (by simp)) (fun b o _ e n=>u.free b o e n (by simp)) (fun b o _ e=>u.there b o e (by simp)) u.tups u.frzs u.tbls (fun m' hm=>by
  obtain⟨o',es',ep',ho',r'⟩:=hm;rw[ho] at ho';cases ho'
  exact⟨_,es',ep',hL,r'⟩) hok I.bare
theorem Inv.call {g':Array GenState}{t':Nat}{d':Drawn}{ch:List Addr}(I:Inv X aU σ H s)(u:Un (frs X.stack) ch H H' s.heap h')(hok:HOk X.prog X.w H' h')(hg:AllBare g')
  (hch:∀b∈ch,(b∈X.ex\/X.s₀.heap.objs.size<=b)/\b≠X.env.locals/\(∀x c,X.env.cells.lookup x=some c->c≠b)/\∀p∈X.pn++aU,p.1≠b) :
  Inv X aU σ H' {s with heap:=h',gens:=g',drawn:=d',toks:=t'}:=by
 obtain⟨m,⟨o,es,ep,ho,r⟩,_⟩:=id I.loc;obtain⟨sl,hL⟩:=u.any ho I.free fun z=>(hch _ z).2.1 rfl
 exact I.step (ch:=ch) hch (fun b o hL hb hc e n=>u.keep b o e n (fun z=>(xbr.mp (I.stkSub b z)).elim hL hb) hc) (fun b o _ _ hc e n=>u.any e n hc) (fun b o hc e n=>u.free b o e n hc) (fun b o hc e=>u.there b o e hc) u.tups u.frzs u.tbls (fun m' hm=>by
  obtain⟨o',es',ep',ho',r'⟩:=hm;rw[ho] at ho';cases ho'
  exact⟨_,es',ep',hL,r'⟩) hok hg
theorem Inv.turned {t':Nat}{it:Addr}(I:Inv X aU σ H s)(k:∀b o,b≠it->s.heap.get? b=some o->h'.get? b=some o)(hn:H it=none)(hL:it≠X.env.locals)
  (h1:it∈X.ex\/X.s₀.heap.objs.size<=it)(h2:∀x c,X.env.cells.lookup x=some c->c≠it)(h3:∀p∈X.pn++aU,p.1≠it):Inv X aU σ H {s with heap:=h',toks:=t'}:=by
 have nit:∀b u,H b=some u->b≠it:=fun b u e z=>by rw[z,hn] at e;cases e
 refine I.step (g':=s.gens) (d':=s.drawn) (ch:=[it]) (fun b hb=>?_) (fun b o _ _ hc e _=>k b o (fun z=>hc (by simp[z])) e) (fun b o _ _ hc e _=>⟨o.slots,k b o (fun z=>hc (by simp[z])) e⟩) (fun _ _ _ _ n=>n)
  (fun b o hc e=>⟨o,k b o (fun z=>hc (by simp[z])) e⟩) (fun _ _ e=>e) (fun _ _ _ e=>e) (fun b ps e=>⟨#[],by rw[e];simp⟩) (fun m hm=>?_) (fun b u e=>?_) I.bare
 ·have e:b=it:=by simpa using hb
  subst e;exact⟨h1,hL,h2,h3⟩
 ·obtain⟨o,es,ep,ho,r⟩:=hm;exact⟨o,es,ep,k _ o (xdv hL) ho,r⟩
 ·refine(I.hok b u e).stay (fun c v hc q=>k c v ?_ q) (fun _ q=>q) fun _ _ q=>q
  rcases hc with z | z
  ·rw[z];exact nit b u e
  ·exact nit c _ z
theorem Inv.tok (I:Inv X aU σ H s)(t:Nat):Inv X aU σ H {s with toks:=t}:=I.un (h':=s.heap) (t':=t) Un.refl I.hok
theorem Inv.kept {t':Nat}(I:Inv X aU σ H s)(k:∀b u,s.heap.get? b=some u->h'.get? b=some u):Inv X aU σ H {s with heap:=h',toks:=t'}:=I.un (Un.kept k) (I.hok.kept k)
theorem Inv.laid {a:Addr}{o:HO}{t':Nat}(I:Inv X aU σ H s)(k:∀b u,s.heap.get? b=some u->h'.get? b=some u)(hp:s.heap.objs.size<=a)(new:ObjOk X.prog X.w (upd H a o) h' a o) :
 Inv X aU σ (upd H a o) {s with heap:=h',toks:=t'}:=I.un (Un.laid k hp (I.hok.fresh hp)) (I.hok.laid k hp new)
theorem Inv.write {x e:Addr}{o:HO}{t':Nat}(I:Inv X aU σ H s)(mu:Mut (H x))(he:e=x\/H e=some (.own x))(k:∀b u,b≠e->s.heap.get? b=some u->h'.get? b=some u)(heo:∃u,h'.get? e=some u)
 (new:ObjOk X.prog X.w (upd H x o) h' x o):Inv X aU σ (upd H x o) {s with heap:=h',toks:=t'}:=I.un (Un.write mu he k heo) (I.hok.write mu he k heo new)
theorem Inv.pins_of {pins':List (Addr×Obj)}(I:Inv X aU σ H s)(h:∀p∈pins',s.heap.get? p.1=some p.2/\H p.1=none/\p.1≠X.env.locals/\p.1∉X.fs/\∀v,p.2.data≠.cell v):Inv X pins' σ H s :=
 ⟨I.ok,I.os,I.bare,I.base,I.loc,I.cell,I.free,I.freeC,fun p hp=>(xcg.mp hp).elim (fun z=>I.pin p (xhy _ z)) (h p),I.hok,I.len,I.hnd⟩
theorem zsn {N:List Str}(hN:N.Nodup){i j:Nat}{x:Str}(a:N[i]?=some x)(b:N[j]?=some x):i=j:=by
 obtain⟨h1,e1⟩:=xbc.mp a;obtain⟨h2,e2⟩:=xbc.mp b;exact(xkn hN).mp (e1.trans e2.symm)
theorem zok {M:Model}{A:Around}{E:Value->Shared->Prop}{i:Nat}{x:Str}{v:V}{u:Value}{Q:Unit->Shared->Prop}(I:Inv X aU σ H s)(hN:X.N.Nodup)(hi:X.N[i]?=some x)(hx:Loc X.env.scope x)(r:RelV v u)
  (h:∀s',Inv X aU (σ.set i (some v)) H s'->(∃a,Heap.SameBut a s.heap s'.heap/\(a=X.env.locals\/X.env.cells.lookup x=some a))->Q () s')(hf:X.fn x=true\/X.env.scope.names.lookup x=some .local:=by first | exact .inl rfl | exact .inr rfl | assumption):wpAny M A (storeName X.env x u) Q E s:=by
 obtain⟨m,hn,hl⟩:=id I.loc;have hcls:(X.env.scope.kind==.class||(X.env.scope.kind==.module&&X.env.locals != X.env.globals))=false:=by rw[I.ok.kind];rfl
 have hiσ:i < σ.length:=by rw[I.len];exact(xbc.mp hi).1
 have cne:=I.cne;have tracked:∀{a:Addr} {h':Heap},(∃o,s.heap.get? a=some o/\H a=none)->Heap.SameBut a s.heap h'->HOk X.prog X.w H h':=fun {a h'} ha hs b ob e=>by
  obtain⟨_,_,hfree⟩:=ha;refine(I.hok b ob e).stay (fun c w' hc q=>(hs.2 c ?_).trans q) (fun _ q=>q) fun _ _ q=>q
  rintro rfl;rcases hc with rfl | hc
  ·rw[hfree] at e;cases e
  ·rw[hfree] at hc;cases hc
 rcases hx with hk | hk
 ·refine wpAny_storeName_local hk hn (fun h' hn' hs=>?_) hcls;obtain⟨oL,_,_,hoL,_⟩:=id hn;refine h _ ⟨I.ok,I.os,I.bare,⟨fun b o e n hb hx=>?_,fun b o e n hb hx=>?_,I.base.free,fun b o e hx=>?_,I.base.tups,I.base.frzs,I.base.tbls⟩,⟨_,hn',fun j y v' e1 e2 e3=>?_⟩,fun y c e=>?_,I.free,I.freeC,fun p hp=>?_,tracked ⟨oL,hoL,I.free⟩ hs,by simpa using I.len,I.hnd⟩ ⟨_,hs,.inl rfl⟩
  ·exact(hs.2 b (xce (xbh (xbt e) I.ok.above))).trans (I.base.keep b o e n hb hx)
  ·obtain⟨sl,e1⟩:=I.base.slot b o e n hb hx;exact⟨sl,(hs.2 b (xce (xbh (xbt e) I.ok.above))).trans e1⟩
  ·obtain⟨o',e1⟩:=I.base.there b o e hx;exact⟨o',(hs.2 b (xce (xbh (xbt e) I.ok.above))).trans e1⟩
  ·by_cases hj:j=i
   ·subst hj;rw[hi] at e1;cases e1
    rw[xdw hiσ] at e2;cases e2;exact⟨u,r,.inl ⟨hk,by simp⟩⟩
   ·rw[xbl (xdv hj)] at e2;obtain⟨u',r',q⟩:=hl j y v' e1 e2 e3;refine⟨u',r',?_⟩;rcases q with⟨k,e⟩ | ⟨k,c,e,z⟩
    ·refine .inl ⟨k,?_⟩;have:y≠x:=fun e=>hj (zsn hN e1 (e ▸ hi))
     simp[this,e]
    ·exact .inr ⟨k,c,e,z.sameBut hs (cne y c e)⟩
  ·obtain⟨w',z⟩:=I.cell y c e;exact⟨w',z.sameBut hs (cne y c e)⟩
  ·obtain⟨e,n,ne,nf,d⟩:=I.pin p hp;exact⟨(hs.2 p.1 ne).trans e,n,ne,nf,d⟩
 ·have hfn:X.fn x=true:=by
   rcases hf with z | z
   ·exact z
   ·rw[z] at hk;cases hk
  obtain⟨c,hc⟩:=I.ok.has x (.inl hk);obtain⟨w',z⟩:=I.cell x c hc;refine wpAny_storeName_cell I.ok.kind hk hc z (fun h' hc' hs=>?_);obtain⟨oc,hoc,hocd⟩:=id z;refine h {s with heap:=h'} ⟨I.ok,I.os,I.bare,⟨fun b o e n hb hx=>?_,fun b o e n hb hx=>?_,I.base.free,fun b o e hx=>?_,I.base.tups,I.base.frzs,I.base.tbls⟩,⟨m,hn.sameBut hs (xdv (cne x c hc)),fun j y v' e1 e2 e3=>?_⟩,fun y c' e=>?_,I.free,I.freeC,fun p hp=>?_,tracked ⟨oc,hoc,I.freeC x c hc⟩ hs,by simpa using I.len,I.hnd⟩ ⟨c,hs,.inr hc⟩
  ·exact(hs.2 b (xce (xbh (xbt e) (I.ok.cab x c hfn hc)))).trans (I.base.keep b o e n hb hx)
  ·obtain⟨sl,e1⟩:=I.base.slot b o e n hb hx;exact⟨sl,(hs.2 b (xce (xbh (xbt e) (I.ok.cab x c hfn hc)))).trans e1⟩
  ·obtain⟨o',e1⟩:=I.base.there b o e hx;exact⟨o',(hs.2 b (xce (xbh (xbt e) (I.ok.cab x c hfn hc)))).trans e1⟩
  ·by_cases hj:j=i
   ·subst hj;rw[hi] at e1;cases e1
    rw[xdw hiσ] at e2;cases e2;exact⟨u,r,.inr ⟨.inl hk,c,hc,hc'⟩⟩
   ·rw[xbl (xdv hj)] at e2;obtain⟨u',r',q⟩:=hl j y v' e1 e2 e3;refine⟨u',r',?_⟩;rcases q with q | ⟨k,c',e,z'⟩
    ·exact .inl q
    ·refine .inr ⟨k,c',e,z'.sameBut hs ?_⟩;rintro rfl;exact hj (zsn hN e1 (I.ok.inj _ _ _ e hc ▸ hi))
  ·by_cases hcc:c'=c
   ·subst hcc;exact⟨_,hc'⟩
   ·obtain⟨w2,z2⟩:=I.cell y c' e;exact⟨w2,z2.sameBut hs hcc⟩
  ·obtain⟨e,n,ne,nf,d⟩:=I.pin p hp;refine⟨(hs.2 p.1 ?_).trans e,n,ne,nf,d⟩;intro q;rw[q,hoc] at e;have q':oc=p.2:=xcl e;exact d w' (by rw[← q'];exact hocd)
theorem zrf {M:Model}{A:Around}{E:Value->Shared->Prop}{i:Nat}{x:Str}{v:V}{u:Value}{Q:Unit->Shared->Prop}(I:Inv X aU σ H s)(hN:X.N.Nodup)(hi:X.N[i]?=some x)(hx:Loc X.env.scope x)(r:RelV v u)
  (h:∀s',Inv X aU (σ.set i (some v)) H s'->Q () s')(hf:X.fn x=true\/X.env.scope.names.lookup x=some .local:=by first | exact .inl rfl | exact .inr rfl | assumption):wpAny M A (storeName X.env x u) Q E s :=
 zok I hN hi hx r (fun s' I' _=>h s' I') hf
theorem Inv.call' {s':Shared}{ch:List Addr}(I:Inv X aU σ H s)(ho:s'.os=s.os)(u:Un (frs X.stack) ch H H' s.heap s'.heap)(hok:HOk X.prog X.w H' s'.heap)(hg:AllBare s'.gens)
  (hch:∀b∈ch,(b∈X.ex\/X.s₀.heap.objs.size<=b)/\b≠X.env.locals/\(∀x c,X.env.cells.lookup x=some c->c≠b)/\∀p∈X.pn++aU,p.1≠b):Inv X aU σ H' s':=by
 obtain⟨h',g',d',t',o'⟩:=s';have e:o'=s.os:=ho;subst e;exact I.call (g':=g') (t':=t') (d':=d') u hok hg hch
end
noncomputable abbrev XK:=Value->Option Addr->Hp->Prop
noncomputable abbrev St:=List (Option V)
noncomputable abbrev VK:=V->Hp->Prop
noncomputable abbrev TE:=St->Hp->VK->Prop
noncomputable abbrev TT:=St->Hp->(Bool->Hp->Prop)->Prop
noncomputable abbrev TA:=St->Hp->(List V->Hp->Prop)->Prop
structure Ends where
 nx:St->Hp->Prop
 rt:VK
 bk:St->Hp->Prop:=fun _ _=>False
 ct:St->Hp->Prop:=fun _ _=>False
noncomputable abbrev TS:=Ends->St->Hp->Prop
noncomputable def EP (X:Cx) (aU:List (Addr×Obj)) (σ:St) (Q:VK) (u:Value) (s':Shared):Prop:=∃v H',Inv X aU σ H' s'/\RelV v u/\Q v H'
noncomputable def TP (X:Cx) (aU:List (Addr×Obj)) (σ:St) (Q:Bool->Hp->Prop) (b:Bool) (s':Shared):Prop:=∃H',Inv X aU σ H' s'/\Q b H'
noncomputable def AP (X:Cx) (aU:List (Addr×Obj)) (σ:St) (Q:List V->Hp->Prop) (us:List Value) (s':Shared):Prop:=∃vs H',Inv X aU σ H' s'/\Vals vs us/\Q vs H'
noncomputable def SP (X:Cx) (aU:List (Addr×Obj)) (D:Ends) (f:Flow) (s':Shared):Prop :=
 match f with
 | .next=>∃σ' H',Inv X aU σ' H' s'/\D.nx σ' H'
 | .brk=>∃σ' H',Inv X aU σ' H' s'/\D.bk σ' H'
 | .cont=>∃σ' H',Inv X aU σ' H' s'/\D.ct σ' H'
 | .ret u=>∃v σ' H',Inv X aU σ' H' s'/\RelV v u/\D.rt v H'
noncomputable def PE (X:Cx) (e:Expr) (t:TE):Prop :=
 ∀(aU:List (Addr×Obj)) (s:Shared) (σ:St) (H:Hp) (Q:VK),Inv X aU σ H s->t σ H Q->wpAny (model X.prog X.w) X.A (eval e X.env) (EP X aU σ Q) X.xe s
noncomputable def PT (X:Cx) (e:Expr) (t:TT):Prop :=
 ∀(aU:List (Addr×Obj)) (s:Shared) (σ:St) (H:Hp) (Q:Bool->Hp->Prop),Inv X aU σ H s->t σ H Q->wpAny (model X.prog X.w) X.A (isTrue e X.env (eval e X.env)) (TP X aU σ Q) X.xe s
noncomputable def PW (X:Cx) (e:Expr) (t:TT):Prop :=
 ∀(whole:Sem Value) (aU:List (Addr×Obj)) (s:Shared) (σ:St) (H:Hp) (Q:Bool->Hp->Prop),Inv X aU σ H s->t σ H Q->wpAny (model X.prog X.w) X.A (isTrue e X.env whole) (TP X aU σ Q) X.xe s
theorem PW.pt {X:Cx}{e:Expr}{t:TT}(h:PW X e t):PT X e t:=h _
noncomputable def PA (X:Cx) (es:List Expr) (t:TA):Prop :=
 ∀(pos:Pos) (aU:List (Addr×Obj)) (s:Shared) (σ:St) (H:Hp) (Q:List V->Hp->Prop),Inv X aU σ H s->t σ H Q->wpAny (model X.prog X.w) X.A (spliced (backTo pos (starEach es X.env))) (AP X aU σ Q) X.xe s
noncomputable def PS (X:Cx) (st:Stmt) (t:TS):Prop :=
 ∀(aU:List (Addr×Obj)) (s:Shared) (σ:St) (H:Hp) (D:Ends),Inv X aU σ H s->t D σ H->wpAny (model X.prog X.w) X.A (exec st X.env) (SP X aU D) X.xe s
noncomputable def PSs (X:Cx) (st:List Stmt) (t:TS):Prop :=
 ∀(aU:List (Addr×Obj)) (s:Shared) (σ:St) (H:Hp) (D:Ends),Inv X aU σ H s->t D σ H->wpAny (model X.prog X.w) X.A (execs st X.env) (SP X aU D) X.xe s
theorem thn {α:Type}{t:Sem α}{Q Q':α->Shared->Prop}{M:Model}{A:Around}{E:Value->Shared->Prop}{s:Shared}(h:wpAny M A t Q E s)(hQ:∀a s,Q a s->Q' a s):wpAny M A t Q' E s:=xec h hQ fun _ _ x=>x
section
variable {X:Cx}
noncomputable def tVar (i:Nat):TE:=fun σ H Q=>∃v,σ[i]?=some (some v)/\Q v H
noncomputable def tC (v:V):TE:=fun _ H Q=>Q v H
theorem zbir {i:Nat}{x:Str}{pos:Pos}(hN:X.N[i]?=some x)(hv:Vis X.env.scope x)(hd:(x==("__debug__" : Str))=false:=by decide)(hcd:(x==("__classdict__" : Str))=false:=by decide):PE X (.Name x pos) (tVar i):=by
 intro aU s σ H Q I h;obtain⟨v,e,h⟩:=h;obtain⟨m,hn,hl⟩:=I.loc;obtain⟨u,r,l⟩:=hl i x v hN e hv;have fin:EP X aU σ Q u s:=⟨v,H,I,r,h⟩
 rcases l with⟨hk,hm⟩ | ⟨hk,c,hc,hcell⟩
 ·exact wpAny_Name (wpAny_loadName_local I.ok.kind hk hn hm fin) hd
 ·rcases hk with hk | hk
  ·exact wpAny_Name (wpAny_loadName_cell I.ok.kind hk hc hcell fin) hd
  ·exact wpAny_Name (wpAny_loadName_free I.ok.kind hk hc hcell fin hcd) hd
theorem zbiw {i j pos}:PE X (.Constant (.int i) j pos) (tC (.int i)):=fun _ _ _ H _ I h=>wpAny_Constant_int ⟨.int i,H,I.tok _,⟨_,rfl⟩,h⟩
theorem zbmx {b j pos}:PE X (.Constant (.bool b) j pos) (tC (.bl b)):=fun _ _ _ H _ I h=>Constant_bool ⟨.bl b,H,I,rfl,h⟩
theorem zbiv {j pos}:PE X (.Constant .none j pos) (tC .non):=fun _ _ _ H _ I h=>Constant_none ⟨.non,H,I,rfl,h⟩
noncomputable def Gl (X:Cx) (x:Str):Prop:=X.env.kindOf x=some .globalImplicit
theorem zbew {E:Value->Shared->Prop}{aU:List (Addr×Obj)}{s:Shared}{σ:St}{H:Hp}{x:Str}{u:Value}{pos:Pos}{Q:Value->Shared->Prop}(I:Inv X aU σ H s)(hg:Gl X x)(hm:X.mg x=some u)(h:Q u s)
  (hd:(x==("__debug__" : Str))=false:=by decide):wpAny (model X.prog X.w) X.A (eval (.Name x pos) X.env) Q E s :=
 Calls.Name_function_global I.ok.kind hg (Calls.loadGlobal_global (by rw[I.ok.glob];exact I.mod.glob.keeps I.bk) hm h) hd
theorem zns {E:Value->Shared->Prop}{aU:List (Addr×Obj)}{s:Shared}{σ:St}{H:Hp}{x:Str}{u:Value}{pos:Pos}{Q:Value->Shared->Prop}(I:Inv X aU σ H s)(hg:Gl X x)(hm:X.mg x=none)(hv:bootBuiltins x=some u)(h:Q u s)
  (hn:x≠"__name__":=by decide)(hd:(x==("__debug__" : Str))=false:=by decide):wpAny (model X.prog X.w) X.A (eval (.Name x pos) X.env) Q E s:=by
 obtain⟨mb,h1,h2⟩:=I.mod.blt;exact Calls.Name_function_global I.ok.kind hg (Calls.loadGlobal_builtin (by rw[I.ok.glob];exact I.mod.glob.keeps I.bk) hm (by rw[I.ok.blt];exact h1.keeps I.bk) ((h2 x hn).trans hv) h) hd
theorem zid {x:Str}{v:V}{u:Value}{pos:Pos}(hg:Gl X x)(hm:X.mg x=none)(hv:bootBuiltins x=some u)(r:RelV v u)(hn:x≠"__name__":=by decide)(hd:(x==("__debug__" : Str))=false:=by decide):PE X (.Name x pos) (tC v) :=
 fun _ _ _ H _ I h=>zns I hg hm hv ⟨v,H,I,r,h⟩ hn hd
variable {a b:Expr}{ta tb:TE}{pos:Pos}
noncomputable def PC (X:Cx) (op:CmpOp) (a b:Expr) (t:TE):Prop :=
 ∀(aU:List (Addr×Obj)) (s:Shared) (σ:St) (H:Hp) (Q:VK),Inv X aU σ H s->t σ H Q ->
  wpAny (model X.prog X.w) X.A (eval a X.env) (fun v s₁=>wpAny (model X.prog X.w) X.A (eval b X.env) (fun u s₂=>wpAny (model X.prog X.w) X.A (compareOp op v u) (EP X aU σ Q) X.xe s₂) X.xe s₁) X.xe s
noncomputable def tB (t:TE):TT:=fun σ H Q=>t σ H fun x H1=>∃c,x=.bl c/\Q c H1
theorem zbix {op:CmpOp}{t:TE}(h:PC X op a b t)(h1:behindInMarks op b=false:=by first | exact nobehind _ (by decide) (by decide) | rfl):PE X (.Compare a [op] [b] pos) t:=fun aU s σ H Q I hw=>wpAny_Compare1 (h aU s σ H Q I hw) h1
theorem zbij {op:CmpOp}{t:TE}(h:PC X op a b t)(h1:behindInMarks op b=false:=by first | exact nobehind _ (by decide) (by decide) | rfl):PT X (.Compare a [op] [b] pos) (tB t):=by
 intro aU s σ H Q I hw;refine wpAny_isTrue_Compare1 (thn (h aU s σ H _ I hw) fun v s1 h1=>thn h1 fun u s2 h2=>thn h2 fun c s3 hq0=>?_) h1;obtain⟨x,H1,I1,r1,q1⟩:=hq0;obtain⟨d,rfl,q⟩:=q1;cases r1;exact xei ⟨H1,I1,q⟩
variable {tA tB':TT}{rest:List Expr}
noncomputable def tAnd (t u:TT):TT:=fun σ H Q=>t σ H fun c H1=>if c=true then u σ H1 Q else Q false H1
noncomputable def tOr (t u:TT):TT:=fun σ H Q=>t σ H fun c H1=>if c=true then Q true H1 else u σ H1 Q
noncomputable def tNot (t:TT):TT:=fun σ H Q=>t σ H fun c H1=>Q (!c) H1
theorem pw_and1 (ha:PT X a tA):PW X (.BoolOp .And [a] pos) tA:=by
 intro wh aU s σ H Q I h;refine isTrue_and (thn (ha aU s σ H Q I h) fun c s1 e=>?_);cases c with
 | true=>exact isTrue_and_nil e
 | false=>exact e
theorem pw_or1 (ha:PT X a tA):PW X (.BoolOp .Or [a] pos) tA:=by
 intro wh aU s σ H Q I h;refine isTrue_or (thn (ha aU s σ H Q I h) fun c s1 e=>?_);cases c with
 | false=>exact isTrue_or_nil e
 | true=>exact e
theorem pw_and (ha:PT X a tA)(hb:PW X (.BoolOp .And (b::rest) pos) tB'):PW X (.BoolOp .And (a::b::rest) pos) (tAnd tA tB'):=by
 intro wh aU s σ H Q I h;refine isTrue_and (thn (ha aU s σ H _ I h) fun c s1 hq0=>?_);obtain⟨H1,I1,q1⟩:=hq0;cases c with
 | true=>exact hb wh aU s1 σ H1 Q I1 q1
 | false=>exact⟨H1,I1,q1⟩
theorem pw_or (ha:PT X a tA)(hb:PW X (.BoolOp .Or (b::rest) pos) tB'):PW X (.BoolOp .Or (a::b::rest) pos) (tOr tA tB'):=by
 intro wh aU s σ H Q I h;refine isTrue_or (thn (ha aU s σ H _ I h) fun c s1 hq0=>?_);obtain⟨H1,I1,q1⟩:=hq0;cases c with
 | true=>exact⟨H1,I1,q1⟩
 | false=>exact hb wh aU s1 σ H1 Q I1 q1
theorem zbii (ha:PT X a tA):PT X (.UnaryOp .Not a pos) (tNot tA):=by
 intro aU s σ H Q I h;exact isTrue_not (ha aU s σ H (fun c H1=>Q (!c) H1) I h)
noncomputable def tAndV (ta tb:TE):TE:=fun σ H Q=>ta σ H fun x H1=>∃c,x=.bl c/\if c=true then tb σ H1 Q else Q (.bl false) H1
noncomputable def tOrV (ta tb:TE):TE:=fun σ H Q=>ta σ H fun x H1=>∃c,x=.bl c/\if c=true then Q (.bl true) H1 else tb σ H1 Q
noncomputable def tNotV (ta:TE):TE:=fun σ H Q=>ta σ H fun x H1=>∃c,x=.bl c/\Q (.bl (!c)) H1
theorem zbit {op}{t:TE}(h:PE X a t):PE X (.BoolOp op [a] pos) t:=fun aU s σ H Q I hw=>BoolOp_one (h aU s σ H Q I hw)
theorem zbiz (ha:PE X a ta)(hb:PE X (.BoolOp .And (b::rest) pos) tb):PE X (.BoolOp .And (a::b::rest) pos) (tAndV ta tb):=by
 intro aU s σ H Q I h;refine BoolOp_and (thn (ha aU s σ H _ I h) fun v s1 hq0=>?_);obtain⟨x,H1,I1,r1,q1⟩:=hq0;obtain⟨c,rfl,q1⟩:=q1;cases r1;refine xei ?_;cases c with
 | true=>exact hb aU s1 σ H1 Q I1 q1
 | false=>exact⟨.bl false,H1,I1,rfl,q1⟩
theorem zbmu (ha:PE X a ta)(hb:PE X (.BoolOp .Or (b::rest) pos) tb):PE X (.BoolOp .Or (a::b::rest) pos) (tOrV ta tb):=by
 intro aU s σ H Q I h;refine BoolOp_or (thn (ha aU s σ H _ I h) fun v s1 hq0=>?_);obtain⟨x,H1,I1,r1,q1⟩:=hq0;obtain⟨c,rfl,q1⟩:=q1;cases r1;refine xei ?_;cases c with
 | false=>exact hb aU s1 σ H1 Q I1 q1
 | true=>exact⟨.bl true,H1,I1,rfl,q1⟩
theorem zbiu (ha:PE X a ta):PE X (.UnaryOp .Not a pos) (tNotV ta):=by
 intro aU s σ H Q I h;refine UnaryOp_ (thn (ha aU s σ H _ I h) fun v s1 hq0=>?_);obtain⟨x,H1,I1,r1,q1⟩:=hq0;obtain⟨c,rfl,q1⟩:=q1;cases r1;exact not_of (xei ⟨.bl (!c),H1,I1,rfl,q1⟩)
noncomputable def tIf (t:TT) (ta tb:TE):TE:=fun σ H Q=>t σ H fun c H1=>if c=true then ta σ H1 Q else tb σ H1 Q
theorem zzc {c:Expr}(hc:PT X c tA)(ha:PE X a ta)(hb:PE X b tb):PE X (.IfExp c a b pos) (tIf tA ta tb):=by
 intro aU s σ H Q I h;refine wpAny_IfExp (thn (hc aU s σ H _ I h) fun d s1 hq0=>?_);obtain⟨H1,I1,q1⟩:=hq0;cases d with
 | true=>exact ha aU s1 σ H1 Q I1 q1
 | false=>exact hb aU s1 σ H1 Q I1 q1
end
noncomputable def SqL (K:Fg) (H:Hp) (a:Addr) (xs:List V):Prop :=
 Rd H a (.lst xs) \/
  ∃(o:Obj) (its:Array Value) (n:Nat), K.lookup a=some o/\o.cls=.type "list"/\o.dict=none/\o.data=.seq its n/\its.size<=sizeLine/\Vals xs its.toList
noncomputable def SqT (K:Fg) (H:Hp) (a:Addr) (xs:List V):Prop :=
 Rd H a (.tup xs) \/
  ∃(o:Obj) (its:Array Value) (n:Nat), K.lookup a=some o/\o.cls=.type "tuple"/\o.data=.seq its n/\its.size<=sizeLine/\Vals xs its.toList
noncomputable def absV:Value->Option V
 | .none=>some .non
 | .bool b=>some (.bl b)
 | .int i _=>some (.int i)
 | .str x _=>some (.str x)
 | .bytes b _=>some (.byt b)
 | .float b _=>some (.flt b)
 | .ref a=>some (.ref a)
 | .type n=>some (.ty n)
 | _=>none
theorem RelV.abs {x:V}{u:Value}(r:RelV x u):absV u=some x:=by
 cases x with
 | non=>cases r;rfl
 | bl _=>cases r;rfl
 | int _=>obtain⟨t,rfl⟩:=r;rfl
 | str _=>obtain⟨t,rfl⟩:=r;rfl
 | byt _=>obtain⟨t,rfl⟩:=r;rfl
 | flt _=>obtain⟨t,rfl⟩:=r;rfl
 | ref _=>cases r;rfl
 | ty _=>cases r;rfl
theorem RelV.inj {x y:V}{u:Value}(r:RelV x u)(q:RelV y u):x=y:=xcl (r.abs.symm.trans q.abs)
theorem Vals.inj:∀{xs ys:List V} {us:List Value},Vals xs us->Vals ys us->xs=ys
 | _,_,_,.nil,.nil=>rfl
 | _,_,_,.cons r t,.cons r' t'=>by rw[r.inj r',Vals.inj t t']
section
variable {X:Cx}{aU:List (Addr×Obj)}{σ:St}{H:Hp}{s:Shared}{a:Addr}{xs ys:List V}
theorem SqL.of {K:Fg}(h:H a=some (.lst xs)):SqL K H a xs:=.inl (.inl h)
theorem SqT.of {K:Fg}(h:H a=some (.tup xs)):SqT K H a xs:=.inl (.inl h)
theorem Inv.list (I:Inv X aU σ H s)(h:SqL X.K H a xs):∃its:List Value,Vals xs its/\PlainL s.heap a its.toArray/\xs.length<=sizeLine:=by
 rcases h with h | ⟨o,its,n,hk,hc,hd,hs,hz,r⟩
 ·obtain⟨z,its,n,r,e⟩:=h.ok I.hok;exact⟨its,r,⟨_,n,e,rfl,rfl,rfl⟩,z⟩
 ·refine⟨its.toList,r,⟨o,n,I.kIn a o hk,hc,hd,by simpa using hs⟩,?_⟩;have e:=r.length;simp only[xby] at e;lia
theorem Inv.tuple (I:Inv X aU σ H s)(h:SqT X.K H a xs):∃its:List Value,Vals xs its/\IsTup s.heap a its.toArray/\xs.length<=sizeLine:=by
 rcases h with h | ⟨o,its,n,hk,hc,hs,hz,r⟩
 ·obtain⟨z,its,r,p⟩:=h.ok I.hok;exact⟨its,r,p,z⟩
 ·refine⟨its.toList,r,⟨o,I.kIn a o hk,hc,n,by simpa using hs⟩,?_⟩;have e:=r.length;simp only[xby] at e;lia
theorem Inv.list_inj (I:Inv X aU σ H s)(h:SqL X.K H a xs)(h':SqL X.K H a ys):xs=ys:=by
 obtain⟨its,r,⟨o,n,e,_,_,d⟩,_⟩:=I.list h;obtain⟨its',r',⟨o',n',e',_,_,d'⟩,_⟩:=I.list h';rw[e] at e';cases e'
 rw[d] at d';injection d' with d1 _
 have:its=its':=by simpa using congrArg Array.toList d1
 subst this;exact r.inj r'
theorem Inv.tuple_inj (I:Inv X aU σ H s)(h:SqT X.K H a xs)(h':SqT X.K H a ys):xs=ys:=by
 obtain⟨its,r,⟨o,e,_,n,d⟩,_⟩:=I.tuple h;obtain⟨its',r',⟨o',e',_,n',d'⟩,_⟩:=I.tuple h';rw[e] at e';cases e'
 rw[d] at d';injection d' with d1 _
 have:its=its':=by simpa using congrArg Array.toList d1
 subst this;exact r.inj r'
end
noncomputable abbrev Cx.wish (X:Cx) (E:Value->Shared->Prop):Cx:={X with xe:=E}
noncomputable abbrev Cx.nox (X:Cx):Cx:=X.wish fun _ _=>False
theorem Cx.Ok.wish {X:Cx}(ok:X.Ok)(E:Value->Shared->Prop):(X.wish E).Ok :=
 ⟨ok.mod,ok.kind,ok.glob,ok.blt,ok.above,ok.inj,ok.has,ok.cab,ok.hd,ok.frames,ok.stk,ok.exf,ok.bs,ok.bsz,ok.noex,ok.exfs,ok.funs,ok.frf⟩
theorem Cx.Ok.unwish {X:Cx}{E:Value->Shared->Prop}(ok:(X.wish E).Ok):X.Ok :=
 ⟨ok.mod,ok.kind,ok.glob,ok.blt,ok.above,ok.inj,ok.has,ok.cab,ok.hd,ok.frames,ok.stk,ok.exf,ok.bs,ok.bsz,ok.noex,ok.exfs,ok.funs,ok.frf⟩
section
variable {X:Cx}{aU:List (Addr×Obj)}{σ:St}{H:Hp}{s:Shared}{E:Value->Shared->Prop}
theorem Inv.wish (I:Inv X aU σ H s)(E:Value->Shared->Prop):Inv (X.wish E) aU σ H s:=⟨I.ok.wish E,I.os,I.bare,I.base,I.loc,I.cell,I.free,I.freeC,I.pin,I.hok,I.len,I.hnd⟩
theorem Inv.unwish (I:Inv (X.wish E) aU σ H s):Inv X aU σ H s:=⟨I.ok.unwish,I.os,I.bare,I.base,I.loc,I.cell,I.free,I.freeC,I.pin,I.hok,I.len,I.hnd⟩
theorem SP.unwish {D:Ends}{f:Flow}{s':Shared}(h:SP (X.wish E) aU D f s'):SP X aU D f s':=by
 cases f with
 | next=>obtain⟨σ',H',I,q⟩:=h;exact⟨σ',H',I.unwish,q⟩
 | brk=>obtain⟨σ',H',I,q⟩:=h;exact⟨σ',H',I.unwish,q⟩
 | cont=>obtain⟨σ',H',I,q⟩:=h;exact⟨σ',H',I.unwish,q⟩
 | ret u=>obtain⟨v,σ',H',I,r,q⟩:=h;exact⟨v,σ',H',I.unwish,r,q⟩
theorem PSs.nox {st:List Stmt}{t:TS}(h:PSs X.nox st t):PSs X st t:=fun aU s σ H D I hw =>
 xec (h aU s σ H D (I.wish _) hw) (fun _ _ q=>q.unwish) fun _ _ z=>False.elim z
end
section
variable {X:Cx}{st:Stmt}{rest:List Stmt}{t u:TS}{e:Expr}{te:TE}{pos:Pos}
noncomputable def tNext:TS:=fun D σ H=>D.nx σ H
noncomputable def tSeq (t u:TS):TS:=fun D σ H=>t {D with nx:=u D} σ H
theorem zbcx:PSs X [] tNext:=fun _ _ σ H _ I h=>xjt ⟨σ,H,I,h⟩
theorem zyu (h1:PS X st t)(h2:PSs X rest u):PSs X (st::rest) (tSeq t u):=by
 intro aU s σ H D I h;refine wpAny_execs_cons (thn (h1 aU s σ H {D with nx:=u D} I h) fun f s1 q=>?_);cases f with
 | next =>
  obtain⟨σ',H',I',q⟩:=q;exact h2 aU s1 σ' H' D I' q
 | ret v=>exact q
 | brk=>exact q
 | cont=>exact q
theorem zbcw (h1:PS X st t):PSs X [st] t:=by
 intro aU s σ H D I h;refine wpAny_execs_cons (thn (h1 aU s σ H D I h) fun f s1 q=>?_);cases f with
 | next=>exact xjt q
 | ret v=>exact q
 | brk=>exact q
 | cont=>exact q
theorem Inv.quiet {aU:List (Addr×Obj)}{σ:St}{H:Hp}{s:Shared}(I:Inv X aU σ H s):interactive X.env=false:=by simp[interactive,I.ok.kind]
noncomputable def tDrop (te:TE):TS:=fun D σ H=>te σ H fun _ H1=>D.nx σ H1
theorem zbcz (he:PE X e te)(hs:swapsWith e none pos.line X.env=pure false:=by rfl):PS X (.Expr e pos) (tDrop te):=by
 intro aU s σ H D I h;exact wpAny_Expr_any (thn (he aU s σ H _ I h) fun v s1 ⟨x,H1,I1,r1,q1⟩=>⟨σ,H1,I1,q1⟩) I.quiet hs
noncomputable def tRet (te:TE):TS:=fun D σ H=>te σ H D.rt
theorem zbil (he:PE X e te):PS X (.Return (some e) pos) (tRet te):=by
 intro aU s σ H D I h;exact wpAny_Return_some (thn (he aU s σ H _ I h) fun v s1 ⟨x,H1,I1,r1,q1⟩=>⟨x,σ,H1,I1,r1,q1⟩)
noncomputable def tIfS (c:TT) (t u:TS):TS:=fun D σ H=>c σ H fun b H1=>if b=true then t D σ H1 else u D σ H1
theorem zbmr {c:Expr}{a b:List Stmt}{tc:TT}(hc:PT X c tc)(ha:PSs X a t)(hb:PSs X b u):PS X (.If c a b pos) (tIfS tc t u):=by
 intro aU s σ H D I h;refine wpAny_If (thn (hc aU s σ H _ I h) fun d s1 hq0=>?_);obtain⟨H1,I1,q1⟩:=hq0;cases d with
 | true=>exact ha aU s1 σ H1 D I1 q1
 | false=>exact hb aU s1 σ H1 D I1 q1
end
noncomputable abbrev TG:=V->St->Hp->(St->Hp->Prop)->Prop
noncomputable abbrev TGs:=List V->St->Hp->(St->Hp->Prop)->Prop
noncomputable def PG (X:Cx) (target:Expr) (t:TG):Prop :=
 ∀(aU:List (Addr×Obj)) (s:Shared) (σ:St) (H:Hp) (v:V) (u:Value) (Q:St->Hp->Prop),Inv X aU σ H s->RelV v u->t v σ H Q ->
  wpAny (model X.prog X.w) X.A (assign target X.env u) (fun _ s'=>∃σ' H',Inv X aU σ' H' s'/\Q σ' H') X.xe s
noncomputable def PGs (X:Cx) (ts:List Expr) (t:TGs):Prop :=
 ∀(aU:List (Addr×Obj)) (s:Shared) (σ:St) (H:Hp) (vs:List V) (us:List Value) (Q:St->Hp->Prop),Inv X aU σ H s->Vals vs us->t vs σ H Q ->
  wpAny (model X.prog X.w) X.A (assignInOrder ((assignEach ts X.env).map (·.2)) us) (fun _ s'=>∃σ' H',Inv X aU σ' H' s'/\Q σ' H') X.xe s
noncomputable abbrev TSet:=V->V->V->Hp->(Hp->Prop)->Prop
noncomputable def PSet (X:Cx) (t:TSet):Prop :=
 ∀(aU:List (Addr×Obj)) (s:Shared) (σ:St) (H:Hp) (o i v:V) (ov iv u:Value) (Q:Hp->Prop),Inv X aU σ H s->RelV o ov->RelV i iv->RelV v u->t o i v H Q ->
  wpAny (model X.prog X.w) X.A (setItem ov iv u) (fun _ s'=>∃H',Inv X aU σ H' s'/\Q H') X.xe s
section
variable {X:Cx}{pos:Pos}
noncomputable def gName (i:Nat):TG:=fun v σ H Q=>Q (σ.set i (some v)) H
theorem zbdk {i:Nat}{x:Str}(hN:X.N.Nodup)(hi:X.N[i]?=some x)(hx:Loc X.env.scope x)(hf:X.fn x=true\/X.env.scope.names.lookup x=some .local:=by first | exact .inl rfl | exact .inr rfl | assumption):PG X (.Name x pos) (gName i):=by
 intro aU s σ H v u Q I r h;exact wpAny_assign_Name (zrf I hN hi hx r (fun s' I'=>⟨_,H,I',h⟩) hf)
noncomputable def gNil:TGs:=fun vs σ H Q=>vs=[]/\Q σ H
noncomputable def gCons (t:TG) (u:TGs):TGs:=fun vs σ H Q=>∃v r,vs=v::r/\t v σ H fun σ' H'=>u r σ' H' Q
theorem zbdj:PGs X [] gNil:=by
 intro aU s σ H vs us Q I r h;obtain⟨e,h⟩:=h;subst e;cases r;exact assignInOrder_nil ⟨σ,H,I,h⟩
theorem zza {e:Expr}{es:List Expr}{t:TG}{u:TGs}(h1:PG X e t)(h2:PGs X es u)
  (hs:(assignEach (e::es) X.env).map (·.2)=assign e X.env::(assignEach es X.env).map (·.2):=by rfl):PGs X (e::es) (gCons t u):=by
 intro aU s σ H vs us Q I r h;obtain⟨v,vr,e1,h⟩:=h;subst e1;cases r with
 | cons r rr =>
  rw[hs];refine assignInOrder_cons (thn (h1 aU s σ H _ _ _ I r h) fun _ s1 hq0=>?_);obtain⟨σ1,H1,I1,q1⟩:=hq0;exact h2 aU s1 σ1 H1 _ _ Q I1 rr q1
noncomputable def gTup (K:Fg) (n:Nat) (t:TGs):TG:=fun v σ H Q=>∃a xs,v=.ref a/\SqT K H a xs/\xs.length=n/\t xs σ H Q
theorem zbip {es:List Expr}{k:Nat}{t:TGs}{n:Nat}(hc:X.calm=true)(h:PGs X es t)
  (hn:(assignEach es X.env).length=n:=by rfl)(hst:(assignEach es X.env).findIdx? (·.1)=none:=by rfl):PG X (.Tuple es k pos) (gTup X.K n t):=by
 intro aU s σ H v u Q I r hw;obtain⟨a,xs,e1,hq,hl,hw⟩:=hw;subst e1;cases r;obtain⟨its,rv,ht,hz⟩:=I.tuple hq;refine assign_Tuple_tuple (I.ok.hd hc) ht (by simp[hn,← hl,rv.length]) hst fun h' hx=>?_
 have I1:Inv X aU σ H {s with heap:=h'}:=I.kept (t':=s.toks) fun b o e=>hx b o (xce (xbt e)) e
 exact h aU _ σ H xs _ Q I1 (by simpa using rv) hw
noncomputable def gSub (to ti:TE) (t:TSet):TG:=fun v σ H Q=>to σ H fun o H1=>ti σ H1 fun i H2=>t o i v H2 fun H3=>Q σ H3
theorem zbiq {o i:Expr}{to ti:TE}{t:TSet}(ho:PE X o to)(hi:PE X i ti)(hs:PSet X t)
  (ha:∀v,assign (.Subscript o i pos) X.env v=(do
   let ov ← holding [v] (eval o X.env)
   let iv ← holding [v,ov] (eval i X.env)
   standAt pos
   holding [v,ov,iv] (setItem ov iv v)
   release [v,ov,iv] []):=by intro _;rfl):PG X (.Subscript o i pos) (gSub to ti t):=by
 intro aU s σ H v u Q I r h;rw[ha];refine xba (xeq (thn (ho aU s σ H _ I h) fun ov s1 hq0=>?_));obtain⟨x,H1,I1,r1,q1⟩:=hq0;refine xba (xeq (thn (hi aU s1 σ H1 _ I1 q1) fun iv s2 hq0=>?_));obtain⟨y,H2,I2,r2,q2⟩:=hq0;refine xba (xkh (xba (xeq (thn (hs aU s2 σ H2 x y v ov iv u _ I2 r1 r2 r q2) fun _ s3 hq0=>?_))));obtain⟨H3,I3,q3⟩:=hq0;exact wpAny_release ⟨σ,H3,I3,q3⟩
noncomputable def tAsg (te:TE) (g:TG):TS:=fun D σ H=>te σ H fun x H1=>g x σ H1 D.nx
theorem zbin {tg e:Expr}{te:TE}{g:TG}(he:PE X e te)(hg:PG X tg g)(hs:swapsWithSole [tg] e pos.line X.env=pure false:=by rfl)(hw:swappedStores [tg] e X.env=pure none:=by rfl)
  (h1:(assignEach [tg] X.env).map (·.2)=[assign tg X.env]:=by rfl):PS X (.Assign [tg] e pos) (tAsg te g):=by
 intro aU s σ H D I h;refine wpAny_Assign_stores (thn (he aU s σ H _ I h) fun v s1 hq0=>?_) hs hw;obtain⟨x,H1,I1,r1,q1⟩:=hq0;rw[h1];exact thn (hg aU s1 σ H1 x v _ I1 r1 q1) fun _ s2 q=>q
theorem zbik {i:Nat}{x:Str}{e:Expr}{te:TE}{pos':Pos}(hN:X.N.Nodup)(hi:X.N[i]?=some x)(hx:Loc X.env.scope x)(he:PE X e te)(hs:swapsWith e (some (.Name x pos')) pos.line X.env=pure false:=by rfl)(hf:X.fn x=true\/X.env.scope.names.lookup x=some .local:=by first | exact .inl rfl | exact .inr rfl | assumption) :
  PS X (.Assign [.Name x pos'] e pos) (tAsg te (gName i)):=by
 intro aU s σ H D I h;refine wpAny_Assign_Name (thn (he aU s σ H _ I h) fun v s1 hq0=>?_) hs;obtain⟨y,H1,I1,r1,q1⟩:=hq0;exact zrf I1 hN hi hx r1 (fun s2 I2=>⟨_,H1,I2,q1⟩) hf
noncomputable def tWhile (c:TT) (tb:TS):TS:=fun D σ H=>∃W:Nat->St->Hp->Prop,(∃m,W m σ H)/\∀m σ H,W m σ H ->
 c σ H fun b H1=>if b=true then ∃N:St->Hp->Prop,(∀σ' H',N σ' H'->∃m',m' < m/\W m' σ' H')/\tb {D with nx:=N,ct:=N,bk:=D.nx} σ H1 else D.nx σ H1
theorem zyv {c:Expr}{body:List Stmt}{tc:TT}{tb:TS}(hp:PassesOwn (model X.prog X.w) X.A X.env X.xe)(hc:PT X c tc)(hb:PSs X body tb):PS X (.While c body [] pos) (tWhile tc tb):=by
 intro aU s σ H D I h;obtain⟨W,⟨m0,w0⟩,turn⟩:=h;refine wpAny_While (codeAny_whileLoop (fun n s'=>∃σ' H',Inv X aU σ' H' s'/\W n σ' H') ?_ m0 ⟨σ,H,I,w0⟩);rintro n s1 ⟨σ1,H1,I1,w1⟩;refine xgl hp (thn (hc aU s1 σ1 H1 _ I1 (turn n σ1 H1 w1)) fun b s2 hq0=>?_);obtain⟨H2,I2,q2⟩:=hq0;cases b with
 | true =>
  obtain⟨N,hN,q2⟩:=q2;rw[if_pos rfl];refine xgl hp (thn (hb aU s2 σ1 H2 _ I2 q2) fun f s3 q3=>?_);cases f with
  | next =>
   obtain⟨σ3,H3,I3,n3⟩:=q3;obtain⟨m',hm,w3⟩:=hN σ3 H3 n3;exact⟨m',hm,σ3,H3,I3,w3⟩
  | cont =>
   obtain⟨σ3,H3,I3,n3⟩:=q3;obtain⟨m',hm,w3⟩:=hN σ3 H3 n3;exact⟨m',hm,σ3,H3,I3,w3⟩
  | brk=>exact q3
  | ret v=>exact q3
 | false =>
  rw[if_neg xfo];exact xjt ⟨σ1,H2,I2,q2⟩
end
structure It where
 go:Nat->Hp->Prop
 yld:Nat->Hp->V->Hp->Prop
 stop:Nat->Hp->Prop
noncomputable def FpOk (X:Cx) (aU:List (Addr×Obj)) (H:Hp) (b:Addr):Prop :=
 H b=none/\b≠X.env.locals/\b∉X.fs/\(b∈X.ex\/X.s₀.heap.objs.size<=b)/\(∀x c,X.env.cells.lookup x=some c->c≠b)/\∀p∈X.pn++aU,p.1≠b
theorem Inv.fpOk {X:Cx}{aU:List (Addr×Obj)}{σ:St}{H H':Hp}{s:Shared}{b:Addr}(I:Inv X aU σ H s)(hb:s.heap.objs.size<=b)(hn:H' b=none):FpOk X aU H' b:=by
 refine⟨hn,xko (xbh I.lt hb),I.nofs hb,.inr (xbb I.sz hb),fun x c e z=>?_,fun p hp z=>?_⟩
 ·obtain⟨v,q⟩:=I.cell x c e;exact absurd (xbh q.lt (by rw[z];exact hb)) (xgm _)
 ·exact absurd (xbh (xbt (I.pin p hp).1) (by rw[z];exact hb)) (xgm _)
structure Turn (P:Program) (w:World) (K:Fg) (tg:Expr) (J:It) (fp:List Addr) (it:Addr) (tn:Nat->Heap->Prop):Prop where
 mem:it∈fp
 obj:∀i h,tn i h->∀b∈fp,∃o,h.get? b=some o/\∀v,o.data≠.cell v
 keep:∀i h h',tn i h->(∀b∈fp,∀o,h.get? b=some o->h'.get? b=some o)->tn i h'
 item:∀(X:Cx),X.prog=P->X.w=w->X.K=K->X.calm=true->∀(i:Nat) (aU:List (Addr×Obj)) (s:Shared) (σ:St) (H:Hp) (E:Value->Shared->Prop),Inv X aU σ H s->(∀b∈fp,FpOk X aU H b)->tn i s.heap->J.go i H ->
  wpAny (model P w) X.A (pyNext (.ref it)) (fun r s1=>∃u,r=some u /\
   wpAny (model P w) X.A (letOwnedTupleGo tg (.ref it) u) (fun _ s2=>∃x H',Inv X aU σ H' s2/\RelV x u/\J.yld i H x H'/\tn (i+1) s2.heap/\∀b∈fp,H' b=none) E s1) E s
 done:∀(X:Cx),X.prog=P->X.w=w->X.K=K->X.calm=true->∀(i:Nat) (aU:List (Addr×Obj)) (s:Shared) (σ:St) (H:Hp) (E:Value->Shared->Prop),Inv X aU σ H s->(∀b∈fp,FpOk X aU H b)->tn i s.heap->J.stop i H ->
  wpAny (model P w) X.A (pyNext (.ref it)) (fun r s1=>r=none/\Inv X aU σ H s1) E s
 self:∀(A:Around) (i:Nat) (s:Shared) (Q:Value->Shared->Prop) (E:Value->Shared->Prop),tn i s.heap->Q (.ref it) s->wpAny (model P w) A (pyIter (.ref it)) Q E s
noncomputable abbrev TI:=St->Hp->(It->Hp->Prop)->Prop
noncomputable def PIE (X:Cx) (aU:List (Addr×Obj)) (σ:St) (tg:Expr) (R:It->Hp->Prop) (itv:Value) (s2:Shared):Prop :=
 ∃(it:Addr) (fp:List Addr) (tn:Nat->Heap->Prop) (J:It) (H':Hp),itv=.ref it/\Inv X aU σ H' s2/\Turn X.prog X.w X.K tg J fp it tn/\tn 0 s2.heap/\(∀b∈fp,FpOk X aU H' b)/\R J H'
noncomputable def PI (X:Cx) (tg iter:Expr) (wi:TI):Prop :=
 ∀(aU:List (Addr×Obj)) (s:Shared) (σ:St) (H:Hp) (R:It->Hp->Prop),Inv X aU σ H s->wi σ H R ->
  wpAny (model X.prog X.w) X.A (eval iter X.env) (fun v s1=>wpAny (model X.prog X.w) X.A (pyIter v) (PIE X aU σ tg R) X.xe s1) X.xe s
theorem zbfg {M:Model}{A:Around}{E:Value->Shared->Prop}{s:Shared}{tg:Expr}{it:Addr}{u:Value}{o:Obj}{n:String}{vs:Array Value}{Q:Unit->Shared->Prop}(ho:s.heap.get? it=some o)(hc:o.cls=.type n)(hd:o.data=.fields vs)
    (hn:["enumerate", "zip", "dict_itemiterator", "dict_reverseitemiterator", "odict_iterator", "itertools.zip_longest", "itertools.pairwise"].contains n=false)(hQ:Q () s):wpAny M A (letOwnedTupleGo tg (.ref it) u) Q E s:=by
  unfold letOwnedTupleGo;cases tg <;> first
    | exact xbk hQ
    | (cases u <;> first
        | exact xbk hQ
        | (refine xba (wpAny_load ho ?_)
           rw[hc, hd];show wpAny M A (if(["enumerate", "zip", "dict_itemiterator", "dict_reverseitemiterator", "odict_iterator", "itertools.zip_longest", "itertools.pairwise"].contains n&&vs[0]?==some (rawInt _))=true then _ else _) Q E s
           rw[if_neg (by intro h; rw[hn, Bool.false_and] at h; cases h)]
           exact xbk hQ))
noncomputable def Itl (K:Fg) (a:Addr):It :=
 ⟨fun i H=>∃xs x,SqL K H a xs/\xs[i]?=some x,fun i H x H'=>H'=H/\∀xs,SqL K H a xs->xs[i]?=some x,fun i H=>∃xs,SqL K H a xs/\xs.length<=i⟩
noncomputable def Itt (K:Fg) (a:Addr):It :=
 ⟨fun i H=>∃xs x,SqT K H a xs/\xs[i]?=some x,fun i H x H'=>H'=H/\∀xs,SqT K H a xs->xs[i]?=some x,fun i H=>∃xs,SqT K H a xs/\xs.length<=i⟩
noncomputable def Itr (lo:Int) (n:Nat):It:=⟨fun i _=>i < n,fun i H x H'=>H'=H/\x=.int (lo+i),fun i _=>n<=i⟩
theorem zup {P:Program}{w:World}{K:Fg}{tg:Expr}(a it:Addr):Turn P w K tg (Itl K a) [it] it (fun i h=>h.IsListIter it a i) where
 mem:=by simp
 obj:=fun i h st b hb=>by
  have e:b=it:=by simpa using hb
  subst e;obtain⟨o,e,c,d⟩:=st;exact⟨o,e,fun v z=>by rw[d] at z;cases z⟩
 keep:=fun i h h' st k=>st.at fun o e=>k it (by simp) o e
 item:=by
  intro X hP hw hK hc i aU s σ H E I hf st hg;subst hP hw hK;obtain⟨xs,x,hq,hx⟩:=hg;obtain⟨its,rv,p,hz⟩:=I.list hq;obtain⟨u,hu,ru⟩:=rv.get hx;obtain⟨f0,f1,f2,f3,f4,f5⟩:=hf it (by simp);refine wpAny_pyNext_list_item st p.isList (x:=u) (by simpa using hu) fun h' st' sb=>?_
  have I1:Inv X aU σ H {s with heap:=h'}:=I.turned (t':=s.toks) (fun b o hb e=>(sb.2 b hb).trans e) f0 f1 f3 f4 f5;obtain⟨o,e,c,d⟩:=id st';exact⟨u,rfl,zbfg (s:={s with heap:=h'}) e c d (by decide) ⟨x,H,I1,ru,⟨rfl,fun ys hy=>by rw[I.list_inj hy hq];exact hx⟩,st',fun b hb=>(hf b hb).1⟩⟩
 done:=by
  intro X hP hw hK hc i aU s σ H E I hf st hg;subst hP hw hK;obtain⟨xs,hq,hx⟩:=hg;obtain⟨its,rv,p,hz⟩:=I.list hq;obtain⟨f0,f1,f2,f3,f4,f5⟩:=hf it (by simp);have hl:=rv.length;exact wpAny_pyNext_list_end (I.ok.hd hc) st p.isList (by simp;lia) fun h' eb=>⟨rfl,I.turned (t':=s.toks) (fun b o hb e=>eb b o hb e) f0 f1 f3 f4 f5⟩
 self:=fun _ _ _ _ _ st h=>wpAny_pyIter_listiter st h
theorem zrc {P:Program}{w:World}{K:Fg}{tg:Expr}(a it:Addr):Turn P w K tg (Itt K a) [it] it (fun i h=>h.IsTupleIter it a i) where
 mem:=by simp
 obj:=fun i h st b hb=>by
  have e:b=it:=by simpa using hb
  subst e;obtain⟨o,e,c,d⟩:=st;exact⟨o,e,fun v z=>by rw[d] at z;cases z⟩
 keep:=fun i h h' st k=>st.at fun o e=>k it (by simp) o e
 item:=by
  intro X hP hw hK hc i aU s σ H E I hf st hg;subst hP hw hK;obtain⟨xs,x,hq,hx⟩:=hg;obtain⟨its,rv,p,hz⟩:=I.tuple hq;obtain⟨u,hu,ru⟩:=rv.get hx;obtain⟨f0,f1,f2,f3,f4,f5⟩:=hf it (by simp);refine wpAny_pyNext_tuple_item st (show s.heap.IsTuple a its.toArray from p) (x:=u) (by simpa using hu) fun h' st' sb=>?_
  have I1:Inv X aU σ H {s with heap:=h'}:=I.turned (t':=s.toks) (fun b o hb e=>(sb.2 b hb).trans e) f0 f1 f3 f4 f5;obtain⟨o,e,c,d⟩:=id st';exact⟨u,rfl,zbfg (s:={s with heap:=h'}) e c d (by decide) ⟨x,H,I1,ru,⟨rfl,fun ys hy=>by rw[I.tuple_inj hy hq];exact hx⟩,st',fun b hb=>(hf b hb).1⟩⟩
 done:=by
  intro X hP hw hK hc i aU s σ H E I hf st hg;subst hP hw hK;obtain⟨xs,hq,hx⟩:=hg;obtain⟨its,rv,p,hz⟩:=I.tuple hq;obtain⟨f0,f1,f2,f3,f4,f5⟩:=hf it (by simp);have hl:=rv.length;exact wpAny_pyNext_tuple_end (I.ok.hd hc) st (show s.heap.IsTuple a its.toArray from p) (by simp;lia) fun h' eb=>⟨rfl,I.turned (t':=s.toks) (fun b o hb e=>eb b o hb e) f0 f1 f3 f4 f5⟩
 self:=fun _ _ _ _ _ st h=>wpAny_pyIter_tupleiter st h
theorem zrd {P:Program}{w:World}{K:Fg}{tg:Expr}(it:Addr)(lo:Int)(n:Nat):Turn P w K tg (Itr lo n) [it] it (fun i h=>IsRangeIter h it (lo+(i:Nat) * 1) ((n:Int) - (i:Nat)) 1) where
 mem:=by simp
 obj:=fun i h st b hb=>by
  have e:b=it:=by simpa using hb
  subst e
  exact⟨_,st,fun v z=>by
   have z':Data.fields _=Data.cell v:=z
   cases z'⟩
 keep:=fun i h h' st k=>k it (by simp) _ st
 item:=by
  intro X hP hw hK hc i aU s σ H E I hf st hg;subst hP hw hK;obtain⟨f0,f1,f2,f3,f4,f5⟩:=hf it (by simp);have W:=Walks.range (prog:=X.prog) (w:=X.w) (I.ok.hd hc) it lo 1 n;refine W.item i s _ _ hg st fun v h' tk hv st' kk=>?_
  obtain⟨t,rfl⟩:=hv;have I1:Inv X aU σ H {s with heap:=h',toks:=tk}:=I.turned (fun b o hb e=>kk b o (by simpa using hb) e) f0 f1 f3 f4 f5;refine⟨_, rfl, zbfg (s:={ s with heap:=h', toks:=tk }) (n:="range_iterator") st' rfl rfl (by decide) ⟨.int (lo + i), H, I1,⟨t, ?_⟩,⟨rfl, rfl⟩, st', fun b hb=>(hf b hb).1⟩⟩
  rw[Int.mul_one]
 done:=by
  intro X hP hw hK hc i aU s σ H E I hf st hg;subst hP hw hK;obtain⟨f0,f1,f2,f3,f4,f5⟩:=hf it (by simp);exact wpAny_pyNext_range_end (I.ok.hd hc) st (by have:n<=i:=hg;lia) fun h' eb=>⟨rfl,I.turned (t':=s.toks) (fun b o hb e=>eb b o hb e) f0 f1 f3 f4 f5⟩
 self:=fun _ _ _ _ _ st h=>wpAny_pyIter_rangeiter st h
section
variable {X:Cx}{tg:Expr}
noncomputable def iList (K:Fg) (tl:TE):TI:=fun σ H R=>tl σ H fun x H1=>∃a,x=.ref a/\(∃xs,SqL K H1 a xs)/\R (Itl K a) H1
noncomputable def iTup (K:Fg) (tl:TE):TI:=fun σ H R=>tl σ H fun x H1=>∃a,x=.ref a/\(∃xs,SqT K H1 a xs)/\R (Itt K a) H1
theorem zbdg {l:Expr}{tl:TE}(hl:PE X l tl):PI X tg l (iList X.K tl):=by
 intro aU s σ H R I h;refine thn (hl aU s σ H _ I h) fun v s1 hq0=>?_
 obtain⟨x,H1,I1,r1,q1⟩:=hq0;obtain⟨a,e,⟨xs,hq⟩,q⟩:=q1;subst e;cases r1;obtain⟨its,rv,p,hz⟩:=I1.list hq;refine xkk p.isList ?_;refine⟨s1.heap.objs.size,[s1.heap.objs.size],_,_,H1,rfl,I1.kept (t':=s1.toks) fun b o e=>xbm _ e,zup a _,⟨_,xch _ rfl,rfl,rfl⟩,fun b hb=>?_,q⟩;have e:b=s1.heap.objs.size:=by simpa using hb
 subst e;exact I1.fpOk (xbf _) (I1.hok.fresh (xbf _))
theorem zbio {l:Expr}{tl:TE}(hl:PE X l tl):PI X tg l (iTup X.K tl):=by
 intro aU s σ H R I h;refine thn (hl aU s σ H _ I h) fun v s1 hq0=>?_
 obtain⟨x,H1,I1,r1,q1⟩:=hq0;obtain⟨a,e,⟨xs,hq⟩,q⟩:=q1;subst e;cases r1;obtain⟨its,rv,p,hz⟩:=I1.tuple hq;refine xis (show s1.heap.IsTuple a its.toArray from p) ?_;refine⟨s1.heap.objs.size,[s1.heap.objs.size],_,_,H1,rfl,I1.kept (t':=s1.toks) fun b o e=>xbm _ e,zrc a _,⟨_,xch _ rfl,rfl,rfl⟩,fun b hb=>?_,q⟩;have e:b=s1.heap.objs.size:=by simpa using hb
 subst e;exact I1.fpOk (xbf _) (I1.hok.fresh (xbf _))
theorem zrw {aU:List (Addr×Obj)}{σ:St}{H:Hp}{s:Shared}{R:It->Hp->Prop}{E:Value->Shared->Prop}{lo hi:Int}{t u v:Tok}{tk:Nat}(I:Inv X aU σ H s)(h1:-(2 ^ 62)<=lo)(h2:lo < 2 ^ 62)(h3:-(2 ^ 62)<=hi)(h4:hi < 2 ^ 62)
  (q:R (Itr lo (hi - lo).toNat) H):wpAny (model X.prog X.w) X.A (pyIter (.ref s.heap.objs.size)) (PIE X aU σ tg R) E { s with heap:=s.heap.push { cls:=.type "range", data:=.fields #[.int lo t, .int hi u, .int 1 v] }, toks:=tk }:=by
 refine wpAny_pyIter_range (IsRange.new ..) (small_one h1 h2 h3 h4) ?_;have I1:Inv X aU σ H { s with heap:=s.heap.push { cls:=.type "range", data:=.fields #[.int lo t, .int hi u, .int 1 v] }, toks:=tk }:=I.kept fun b o e=>xbm _ e
 refine⟨(s.heap.push { cls:=.type "range", data:=.fields #[.int lo t, .int hi u, .int 1 v] }).objs.size,[(s.heap.push { cls:=.type "range", data:=.fields #[.int lo t, .int hi u, .int 1 v] }).objs.size], _, _, H, rfl,
  I1.kept (t':=tk) fun b o e=>xbm _ e,zrd _ lo (hi - lo).toNat,?_,fun b hb=>?_,q⟩
 ·have e1:lo+((0:Nat):Int) * 1=lo:=by simp
  have e2:(((hi - lo).toNat:Nat):Int) - ((0:Nat):Int)=Builtin.Range.rangeSize lo hi 1:=by rw[rangeSize_one];split<;>lia
  show IsRangeIter _ _ (lo+((0:Nat):Int) * 1) ((((hi - lo).toNat:Nat):Int) - ((0:Nat):Int)) 1;rw[e1,e2];exact xch _ rfl
 ·have e:b=(s.heap.push { cls:=.type "range", data:=.fields #[.int lo t, .int hi u, .int 1 v] }).objs.size:=by simpa using hb
  subst e;exact I1.fpOk (xbf _) (I1.hok.fresh (xbf _))
noncomputable def iRng1 (ta:TA):TI:=fun σ H R=>ta σ H fun vs H1=>∃j:Int,vs=[.int j]/\-(2 ^ 62)<=j/\j < 2 ^ 62/\R (Itr 0 j.toNat) H1
noncomputable def iRng2 (ta:TA):TI:=fun σ H R=>ta σ H fun vs H1=>∃i j:Int,vs=[.int i,.int j]/\(-(2 ^ 62)<=i/\i < 2 ^ 62/\-(2 ^ 62)<=j/\j < 2 ^ 62)/\R (Itr i (j - i).toNat) H1
theorem zvh {a:Expr}{ta:TA}{p pos:Pos}(hg:Gl X "range")(hm:X.mg "range"=none)(ha:PA X [a] ta)(hs:starEach [a] X.env=[(false, eval a X.env)]:=by rfl):PI X tg (.Call (.Name "range" p) [a] [] pos) (iRng1 ta):=by
 intro aU s σ H R I h;refine Call_ (zns I hg hm boot_range (xgd (thn (ha pos aU s σ H _ I h) fun us s1 hq0=>?_) hs rfl));obtain⟨vs,H1,I1,r1,q1⟩:=hq0;obtain⟨j,e,q1,q2,q⟩:=q1;subst e;cases r1 with
 | cons r rr =>
  cases rr;obtain⟨t,rfl⟩:=r;exact call_range_1 (zrw I1 (by lia) (by lia) q1 q2 (by simpa using q))
theorem zvg {a b:Expr}{ta:TA}{p pos:Pos}(hg:Gl X "range")(hm:X.mg "range"=none)(ha:PA X [a, b] ta)(hs:starEach [a, b] X.env=[(false, eval a X.env),(false, eval b X.env)]:=by rfl)(hs2:starEach [b] X.env=[(false, eval b X.env)]:=by rfl) :
  PI X tg (.Call (.Name "range" p) [a, b] [] pos) (iRng2 ta):=by
 intro aU s σ H R I h;refine Call_ (zns I hg hm boot_range (xgd (thn (ha pos aU s σ H _ I h) fun us s1 ⟨vs,H1,I1,r1,q1⟩=>?_) (by rw[hs,hs2]) (by rw[hs2];rfl)));obtain⟨i,j,e,⟨q1,q2,q3,q4⟩,q⟩:=q1;subst e;cases r1 with
 | cons r rr =>
  cases rr with
  | cons r' rr =>
   cases rr;obtain⟨t,rfl⟩:=r;obtain⟨t',rfl⟩:=r';exact call_range_2 (zrw I1 q1 q2 q3 q4 q)
noncomputable def tFor (wi:TI) (g:TG) (tb:TS):TS:=fun D σ H=>wi σ H fun J H1=>∃W:Nat->Nat->St->Hp->Prop,(∃m,W 0 m σ H1)/\∀i m σ H,W i m σ H ->
 (J.stop i H/\D.nx σ H)\/(J.go i H/\∃N:St->Hp->Prop,(∀σ' H',N σ' H'->∃m',m' < m/\W (i+1) m' σ' H')/\∀x H',J.yld i H x H'->g x σ H' fun σ2 H2=>tb {D with nx:=N,ct:=N,bk:=D.nx} σ2 H2)
noncomputable def pinsAt (fp:List Addr) (h:Heap):List (Addr×Obj):=fp.filterMap fun b=>(h.get? b).map fun o=>(b,o)
theorem zfz {fp:List Addr}{h:Heap}{b:Addr}{o:Obj}(hb:b∈fp)(e:h.get? b=some o):(b,o)∈pinsAt fp h:=List.mem_filterMap.mpr ⟨b,hb,by rw[e];rfl⟩
theorem zvo {fp:List Addr}{h:Heap}{p:Addr×Obj}(hp:p∈pinsAt fp h):p.1∈fp/\h.get? p.1=some p.2:=by
 obtain⟨b,hb,e⟩:=List.mem_filterMap.mp hp;cases q:h.get? b with
 | none=>rw[q] at e;cases e
 | some o =>
  rw[q] at e;have e':(b,o)=p:=xcl e;subst e';exact⟨hb,q⟩
theorem Inv.pinned {aU:List (Addr×Obj)}{σ:St}{H:Hp}{s:Shared}{fp:List Addr}(I:Inv X aU σ H s)(hf:∀b∈fp,FpOk X aU H b)(ho:∀b∈fp,∃o,s.heap.get? b=some o/\∀v,o.data≠.cell v):Inv X (aU++pinsAt fp s.heap) σ H s :=
 I.pins_of fun p hp=>(xcg.mp hp).elim (fun z=>I.pin p (xdh _ z)) fun z=>by
  obtain⟨hb,e⟩:=zvo z;obtain⟨f0,f1,f2,_⟩:=hf p.1 hb;obtain⟨o,e',d⟩:=ho p.1 hb;rw[e] at e';cases e'
  exact⟨e,f0,f1,f2,d⟩
theorem Inv.unpinned {aU pl:List (Addr×Obj)}{σ:St}{H:Hp}{s:Shared}(I:Inv X (aU++pl) σ H s):Inv X aU σ H s:=I.pins_of fun p hp=>I.pin p (xdh _ (xhy _ hp))
theorem zbim {iter:Expr}{body:List Stmt}{wi:TI}{g:TG}{tb:TS}{pos:Pos}(hp:PassesOwn (model X.prog X.w) X.A X.env X.xe)(hc:X.calm=true)(hi:PI X tg iter wi)(hg:PG X tg g)(hb:PSs X body tb)
  (hs:∀x,foldedSetIterable iter X.env x=pure x:=by intro _;rfl):PS X (.For tg iter body [] pos) (tFor wi g tb):=by
 intro aU s σ H D I h;refine wpAny_For (thn (hi aU s σ H _ I h) fun v s1 h1=>thn h1 fun itv s2 h2=>?_) hs;obtain⟨it,fp,tn,J,H2,e,I2,T,st2,f2,W,⟨m0,w0⟩,turn⟩:=h2;subst e;have stat:∀{H':Hp},(∀b∈fp,H' b=none)->∀b∈fp,FpOk X aU H' b:=fun hn b hb=>⟨hn b hb,(f2 b hb).2⟩
 refine codeAny_forLoop_any (fun n s'=>∃i σ' H',Inv X aU σ' H' s'/\tn i s'.heap/\(∀b∈fp,H' b=none)/\W i n σ' H') ?_ m0 ⟨0,σ,H2,I2,st2,fun b hb=>(f2 b hb).1,w0⟩;rintro n s3 ⟨i,σ3,H3,I3,st3,fr3,w3⟩;rcases turn i n σ3 H3 w3 with⟨stop,qn⟩ | ⟨go,N,hN,step⟩
 ·refine xgl hp (thn (T.done X rfl rfl rfl hc i aU s3 σ3 H3 X.xe I3 (stat fr3) st3 stop) fun r s4 hq0=>?_);obtain⟨hr,I4⟩:=hq0;subst hr;exact xjt ⟨σ3,H3,I4,qn⟩
 ·refine xgl hp (thn (T.item X rfl rfl rfl hc i aU s3 σ3 H3 X.xe I3 (stat fr3) st3 go) fun r s4 hq0=>?_);obtain⟨u,hr,h4⟩:=hq0;subst hr;refine xgl hp (thn h4 fun _ s5 hq0=>?_);obtain⟨x,H5,I5,r5,y5,st5,fr5⟩:=hq0;have I5':=I5.pinned (stat fr5) (T.obj _ _ st5);refine xgl hp (thn (hg _ s5 σ3 H5 x u _ I5' r5 (step x H5 y5)) fun _ s6 hq0=>?_);obtain⟨σ6,H6,I6,q6⟩:=hq0;refine xgl hp (thn (hb _ s6 σ6 H6 _ I6 q6) fun f s7 q7=>?_);have again:∀{σ7:St} {H7:Hp},Inv X (aU++pinsAt fp s5.heap) σ7 H7 s7->N σ7 H7->∃m,m < n/\∃i σ' H',Inv X aU σ' H' s7/\tn i s7.heap/\(∀b∈fp,H' b=none)/\W i m σ' H':=fun {σ7 H7} I7 n7=>by
   obtain⟨m',hm,w7⟩:=hN σ7 H7 n7;refine⟨m',hm,i+1,σ7,H7,I7.unpinned,T.keep _ _ _ st5 fun b hb o e=>(I7.pin (b,o) (xdh _ (xdh _ (zfz hb e)))).1,fun b hb=>?_,w7⟩;obtain⟨o,e,d⟩:=T.obj _ _ st5 b hb;exact(I7.pin (b,o) (xdh _ (xdh _ (zfz hb e)))).2.1
  cases f with
  | next=>obtain⟨σ7,H7,I7,n7⟩:=q7;exact again I7 n7
  | cont=>obtain⟨σ7,H7,I7,n7⟩:=q7;exact again I7 n7
  | brk=>obtain⟨σ7,H7,I7,q7⟩:=q7;exact⟨σ7,H7,I7.unpinned,q7⟩
  | ret v=>obtain⟨x7,σ7,H7,I7,r7,q7⟩:=q7;exact⟨x7,σ7,H7,I7.unpinned,r7,q7⟩
end
noncomputable abbrev R2:=V->V->Hp->VK->Prop
noncomputable def OpR (X:Cx) (f:Value->Value->Sem Value) (r:R2):Prop :=
 ∀(aU:List (Addr×Obj)) (s:Shared) (σ:St) (H:Hp) (x y:V) (v u:Value) (Q:VK),Inv X aU σ H s->RelV x v->RelV y u->r x y H Q ->
  wpAny (model X.prog X.w) X.A (f v u) (EP X aU σ Q) X.xe s
noncomputable def UnR (X:Cx) (f:Value->Sem Value) (r:V->Hp->VK->Prop):Prop :=
 ∀(aU:List (Addr×Obj)) (s:Shared) (σ:St) (H:Hp) (x:V) (v:Value) (Q:VK),Inv X aU σ H s->RelV x v->r x H Q ->
  wpAny (model X.prog X.w) X.A (f v) (EP X aU σ Q) X.xe s
noncomputable def CallR (X:Cx) (f:Value) (r:List V->Hp->VK->Prop):Prop :=
 ∀(aU:List (Addr×Obj)) (s:Shared) (σ:St) (H:Hp) (xs:List V) (us:List Value) (Q:VK),Inv X aU σ H s->Vals xs us->r xs H Q ->
  wpAny (model X.prog X.w) X.A (call f us) (EP X aU σ Q) X.xe s
noncomputable def TruR (X:Cx) (r:V->Hp->(Bool->Hp->Prop)->Prop):Prop :=
 ∀(aU:List (Addr×Obj)) (s:Shared) (σ:St) (H:Hp) (x:V) (v:Value) (Q:Bool->Hp->Prop),Inv X aU σ H s->RelV x v->r x H Q ->
  wpAny (model X.prog X.w) X.A (truthy v) (TP X aU σ Q) X.xe s
noncomputable def tOp (r:R2) (ta tb:TE):TE:=fun σ H Q=>ta σ H fun x H1=>tb σ H1 fun y H2=>r x y H2 Q
noncomputable def tUn (r:V->Hp->VK->Prop) (ta:TE):TE:=fun σ H Q=>ta σ H fun x H1=>r x H1 Q
noncomputable def rI (C:Int->Int->Prop) (g:Int->Int->V):R2:=fun x y H Q=>∃i j,x=.int i/\y=.int j/\C i j/\Q (g i j) H
noncomputable def rI0 (g:Int->Int->V):R2:=fun x y H Q=>∃i j,x=.int i/\y=.int j/\Q (g i j) H
noncomputable def rU (g:Int->V):V->Hp->VK->Prop:=fun x H Q=>∃i,x=.int i/\Q (g i) H
section
variable {X:Cx}{a b c:Expr}{ta tb tc:TE}{pos:Pos}
theorem binT (ha:PE X a ta)(hb:PE X b tb){aU:List (Addr×Obj)}{s:Shared}{σ:St}{H:Hp}{R:V->V->Hp->Prop}(I:Inv X aU σ H s)
  (h:ta σ H fun x H1=>tb σ H1 fun y H2=>R x y H2){Q:Value->Shared->Prop}{f:Value->Value->Sem Value}
  (hf:∀v u s2 x y H2,Inv X aU σ H2 s2->RelV x v->RelV y u->R x y H2->wpAny (model X.prog X.w) X.A (f v u) Q X.xe s2) :
  wpAny (model X.prog X.w) X.A (eval a X.env) (fun v s₁=>wpAny (model X.prog X.w) X.A (eval b X.env) (fun u s₂=>wpAny (model X.prog X.w) X.A (f v u) Q X.xe s₂) X.xe s₁) X.xe s:=by
 refine thn (ha aU s σ H _ I h) fun v s1 hq0=>?_
 obtain⟨x,H1,I1,r1,q1⟩:=hq0;refine thn (hb aU s1 σ H1 _ I1 q1) fun u s2 hq0=>?_
 obtain⟨y,H2,I2,r2,q2⟩:=hq0;exact hf v u s2 x y H2 I2 r1 r2 q2
theorem zbmv {op:Operator}{r:R2}(ho:OpR X (binaryOp op) r)(ha:PE X a ta)(hb:PE X b tb):PE X (.BinOp a op b pos) (tOp r ta tb):=by
 intro aU s σ H Q I h;exact wpAny_BinOp (binT ha hb I h fun v u s2 x y H2 I2 rx ry q=>ho aU s2 σ H2 x y v u Q I2 rx ry q)
theorem zbmt {op:UnaryOp}{r:V->Hp->VK->Prop}(ho:UnR X (unaryOp op) r)(ha:PE X a ta):PE X (.UnaryOp op a pos) (tUn r ta):=by
 intro aU s σ H Q I h;exact UnaryOp_ (thn (ha aU s σ H _ I h) fun v s1 ⟨x,H1,I1,r1,q1⟩=>ho aU s1 σ H1 x v Q I1 r1 q1)
theorem opI {f:Value->Value->Sem Value}{C:Int->Int->Prop}{g:Int->Int->Int}
  (rule:∀(i j:Int) (t u:Tok) (s:Shared) (Q:Value->Shared->Prop) (E:Value->Shared->Prop),C i j->Q (.int (g i j) s.toks) {s with toks:=s.toks+1}->wpAny (model X.prog X.w) X.A (f (.int i t) (.int j u)) Q E s) :
  OpR X f (rI C fun i j=>.int (g i j)):=by
 intro aU s σ H x y v u Q I rx ry h;obtain⟨i,j,rfl,rfl,hc,q⟩:=h;obtain⟨t,rfl⟩:=rx;obtain⟨t',rfl⟩:=ry;exact rule i j t t' s _ _ hc ⟨.int (g i j),H,I.tok _,⟨_,rfl⟩,q⟩
theorem opI0 {f:Value->Value->Sem Value}{g:Int->Int->Int}
  (rule:∀(i j:Int) (t u:Tok) (s:Shared) (Q:Value->Shared->Prop) (E:Value->Shared->Prop),Q (.int (g i j) s.toks) {s with toks:=s.toks+1}->wpAny (model X.prog X.w) X.A (f (.int i t) (.int j u)) Q E s) :
  OpR X f (rI0 fun i j=>.int (g i j)):=by
 intro aU s σ H x y v u Q I rx ry h;obtain⟨i,j,rfl,rfl,q⟩:=h;obtain⟨t,rfl⟩:=rx;obtain⟨t',rfl⟩:=ry;exact rule i j t t' s _ _ ⟨.int (g i j),H,I.tok _,⟨_,rfl⟩,q⟩
theorem opB0 {f:Value->Value->Sem Value}{g:Int->Int->Bool}
  (rule:∀(i j:Int) (t u:Tok) (s:Shared) (Q:Value->Shared->Prop) (E:Value->Shared->Prop),Q (.bool (g i j)) s->wpAny (model X.prog X.w) X.A (f (.int i t) (.int j u)) Q E s) :
  OpR X f (rI0 fun i j=>.bl (g i j)):=by
 intro aU s σ H x y v u Q I rx ry h;obtain⟨i,j,rfl,rfl,q⟩:=h;obtain⟨t,rfl⟩:=rx;obtain⟨t',rfl⟩:=ry;exact rule i j t t' s _ _ ⟨.bl (g i j),H,I,rfl,q⟩
noncomputable def CPow (i j:Int):Prop:=0<=j/\j<=1000000/\i.natAbs < 2 ^ 64
noncomputable def CMul (i j:Int):Prop:=(-(2 ^ 64) < i/\i < 2 ^ 64)\/(-(2 ^ 64) < j/\j < 2 ^ 64)
theorem CMul.ok {i j:Int}(h:CMul i j):IntMulOk i j:=by
 rcases h with⟨h1,h2⟩ | ⟨h1,h2⟩
 ·exact .of_left (intBits_le_64 h1 h2)
 ·exact .of_right (intBits_le_64 h1 h2)
theorem zbji:OpR X (binaryOp .Add) (rI0 fun i j=>.int (i+j)):=opI0 fun _ _ _ _ _ _ _ q=>add_int q
theorem zgv:OpR X (binaryOp .Sub) (rI0 fun i j=>.int (i - j)):=opI0 fun _ _ _ _ _ _ _ q=>sub_int q
theorem zgw:OpR X (binaryOp .Mult) (rI CMul fun i j=>.int (i * j)):=opI fun _ _ _ _ _ _ _ hc q=>mul_int q hc.ok
theorem zng:OpR X (binaryOp .Mod) (rI (fun _ j=>0 < j) fun i j=>.int (i % j)):=opI fun i j _ _ _ _ _ hc q=>by
 have h1:(0:Int) < j:=hc;exact mod_int' (by lia) (by rw[Int.fmod_eq_emod_of_nonneg i (by lia)];exact q)
theorem zbjd:OpR X (binaryOp .Pow) (rI CPow fun i j=>.int (i ^ j.toNat)):=opI fun _ _ _ _ _ _ _ hc q=>pow_int_small hc.1 hc.2.1 hc.2.2 q
theorem zbjh:OpR X (binaryOp .BitAnd) (rI0 fun i j=>.int (Builtin.bitAnd i j)):=opI0 fun _ _ _ _ _ _ _ q=>and_int q
theorem unI {f:Value->Sem Value}{g:Int->Int}
  (rule:∀(i:Int) (t:Tok) (s:Shared) (Q:Value->Shared->Prop) (E:Value->Shared->Prop),Q (.int (g i) s.toks) {s with toks:=s.toks+1}->wpAny (model X.prog X.w) X.A (f (.int i t)) Q E s) :
  UnR X f (rU fun i=>.int (g i)):=by
 intro aU s σ H x v Q I rx h;obtain⟨i,rfl,q⟩:=h;obtain⟨t,rfl⟩:=rx;exact rule i t s _ _ ⟨.int (g i),H,I.tok _,⟨_,rfl⟩,q⟩
theorem zbht:UnR X (unaryOp .USub) (rU fun i=>.int (-i)):=unI fun _ _ _ _ _ q=>neg_int q
theorem zbkc {aU:List (Addr×Obj)}{σ:St}{H:Hp}{s:Shared}{Q:VK}{k k':Bool}(I:Inv X aU σ H s)(q:Q (.bl k) H)(e:k=k'):EP X aU σ Q (.bool k') s:=by
 subst e;exact⟨.bl k,H,I,rfl,q⟩
theorem zbmz:OpR X (compareOp .Lt) (rI0 fun i j=>.bl (decide (i < j))):=opB0 fun _ _ _ _ _ _ _ q=>lt_int q
theorem zbna:OpR X (compareOp .LtE) (rI0 fun i j=>.bl (decide (i<=j))):=opB0 fun _ _ _ _ _ _ _ q=>le_int q
theorem zbdt:OpR X (compareOp .Gt) (rI0 fun i j=>.bl (decide (j < i))):=opB0 fun _ _ _ _ _ _ _ q=>gt_int q
theorem zbds:OpR X (compareOp .IsNot) (fun x y H Q=>y=.non/\Q (.bl (!decide (x=.non))) H):=by
 intro aU s σ H x y v u Q I rx ry h;obtain⟨rfl,q⟩:=h;cases ry;refine isnot_none_gen (zbkc I q ?_);cases x<;>first
  | (cases rx;rfl)
  | (obtain⟨t,rfl⟩:=rx;rfl)
theorem OpR.or {f:Value->Value->Sem Value}{r r':R2}(h:OpR X f r)(h':OpR X f r'):OpR X f (fun x y H Q=>r x y H Q\/r' x y H Q):=by
 intro aU s σ H x y v u Q I rx ry q;rcases q with q | q
 ·exact h aU s σ H x y v u Q I rx ry q
 ·exact h' aU s σ H x y v u Q I rx ry q
theorem nomark (b:Expr){op:CmpOp}(h:op≠.In:=by decide)(h2:op≠.NotIn:=by decide):behindInMarks op b=false:=by
 have e1:(op==CmpOp.In)=false:=by cases op<;>first | rfl | exact absurd rfl h
 have e2:(op==CmpOp.NotIn)=false:=by cases op<;>first | rfl | exact absurd rfl h2
 cases b<;>simp[behindInMarks,e1,e2]
theorem zbdo {op:CmpOp}{r:R2}(ho:OpR X (compareOp op) r)(ha:PE X a ta)(hb:PE X b tb)(hm:behindInMarks op b=false):PE X (.Compare a [op] [b] pos) (tOp r ta tb):=by
 intro aU s σ H Q I h;exact wpAny_Compare1 (binT ha hb I h fun v u s2 x y H2 I2 rx ry q=>ho aU s2 σ H2 x y v u Q I2 rx ry q) hm
noncomputable def tTest (t:TE):TT:=fun σ H Q=>t σ H fun x H'=>∃k,x=.bl k/\Q k H'
theorem zbcu {op:CmpOp}{r:R2}(ho:OpR X (compareOp op) r)(ha:PE X a ta)(hb:PE X b tb)(hm:behindInMarks op b=false):PT X (.Compare a [op] [b] pos) (tTest (tOp r ta tb)):=by
 intro aU s σ H Q I h
 refine wpAny_isTrue_Compare1 (thn (ha aU s σ H _ I h) fun v s1 ⟨x,H1,I1,r1,q1⟩=>thn (hb aU s1 σ H1 _ I1 q1) fun u s2 ⟨y,H2,I2,r2,q2⟩ =>
  thn (ho aU s2 σ H2 x y v u _ I2 r1 r2 q2) fun c s3 ⟨z,H3,I3,r3,k,e,q3⟩=>?_) hm
 subst e;cases r3;exact xei ⟨H3,I3,q3⟩
noncomputable def tChain (r r':R2) (ta tb tc:TE):TE:=fun σ H Q=>ta σ H fun x H1=>tb σ H1 fun y H2=>r x y H2 fun z H3=>∃k,z=.bl k /\
 (if k=true then tc σ H3 fun w' H4=>r' y w' H4 Q else Q (.bl false) H3)
theorem zyt {op op':CmpOp}{r r':R2}(ho:OpR X (compareOp op) r)(ho':OpR X (compareOp op') r')(ha:PE X a ta)(hb:PE X b tb)(hc:PE X c tc)
  (hm:lastMarks [op,op'] [b,c]=false:=by with_unfolding_all rfl):PT X (.Compare a [op,op'] [b,c] pos) (tTest (tChain r r' ta tb tc)):=by
 intro aU s σ H Q I h
 refine isTrue_chain (thn (ha aU s σ H _ I h) fun v s1 ⟨x,H1,I1,r1,q1⟩=>test_link (thn (hb aU s1 σ H1 _ I1 q1) fun u s2 ⟨y,H2,I2,r2,q2⟩ =>
  thn (ho aU s2 σ H2 x y v u _ I2 r1 r2 q2) fun d s3 ⟨z,H3,I3,r3,k,e,q3⟩=>?_)) hm
 subst e;cases r3;refine xei ?_;cases k with
 | false =>
  obtain⟨k',e',q'⟩:=q3;cases e';exact ite_ff ⟨H3,I3,q'⟩
 | true =>
  refine ite_tt (test_last (thn (hc aU s3 σ H3 _ I3 q3) fun w' s4 ⟨z',H4,I4,r4,q4⟩=>thn (ho' aU s4 σ H4 y z' u w' _ I4 r2 r4 q4) fun d' s5 hq0=>?_));obtain⟨z2,H5,I5,r5,k2,e2,q5⟩:=hq0;subst e2;cases r5;exact xei ⟨H5,I5,q5⟩
noncomputable def TruV (K:Fg) (x:V) (H:Hp) (k:Bool):Prop :=
 match x with
 | .non=>k=false
 | .bl b=>k=b
 | .int i=>k=(i != 0)
 | .str y=>y.length<=sizeLine/\k=((y.length:Int) != 0)
 | .byt y=>y.size<=sizeLine/\k=((y.size:Int) != 0)
 | .ref p=>(∃xs,SqL K H p xs/\k=!xs.isEmpty)\/(∃xs,SqT K H p xs/\k=!xs.isEmpty)\/∃kvs,H p=some (.dK kvs)/\k=!kvs.isEmpty
 | _=>False
theorem zsx {κ:Type}{kvs:List (κ×V)}{vs:List (κ×Value)}(r:KV kvs vs):(!vs.isEmpty)=!kvs.isEmpty:=by
 cases r<;>rfl
theorem zmc {xs:List V}{its:List Value}(r:Vals xs its):(!its.toArray.isEmpty)=!xs.isEmpty:=by
 cases r<;>simp
theorem line63:(sizeLine:Nat) < 2 ^ 63:=by rw[xhp];decide
theorem zbhv:TruR X (fun x H Q=>∃k,TruV X.K x H k/\Q k H):=by
 intro aU s σ H x v Q I rx h;obtain⟨k,e,q⟩:=h;have hl:=line63;have hs:sizeLine=16777216:=xhp;cases x with
 | non =>
  cases rx;have e':k=false:=e;subst e';exact truthy_none ⟨H,I,q⟩
 | bl b =>
  cases rx;have e':k=b:=e;subst e';exact xei ⟨H,I,q⟩
 | int i =>
  obtain⟨t,rfl⟩:=rx;have e':k=(i != 0):=e;subst e';exact PySem.P.truthy_int ⟨H,I,q⟩
 | str y =>
  obtain⟨t,rfl⟩:=rx;obtain⟨hy,e'⟩:y.length<=sizeLine/\k=((y.length:Int) != 0):=e;subst e';exact PySem.P.truthy_str (by lia) ⟨H,I.tok _,q⟩
 | byt y =>
  obtain⟨t,rfl⟩:=rx;obtain⟨hy,e'⟩:y.size<=sizeLine/\k=((y.size:Int) != 0):=e;subst e';exact W.truthy_bytes (by lia) ⟨H,I.tok _,q⟩
 | ref p =>
  cases rx;have e':(∃xs,SqL X.K H p xs/\k=!xs.isEmpty)\/(∃xs,SqT X.K H p xs/\k=!xs.isEmpty)\/∃kvs,H p=some (.dK kvs)/\k=!kvs.isEmpty:=e
  rcases e' with⟨xs,hx,e'⟩ | ⟨xs,hx,e'⟩ | ⟨kvs,hx,e'⟩
  ·subst e';obtain⟨its,r,pl,hz⟩:=I.list hx;have hlen:=r.length;exact wpAny_truthy_list pl.isList (by simp only[xcc];lia) ⟨H,I.tok _,by rw[zmc r];exact q⟩
  ·subst e';obtain⟨its,r,pl,hz⟩:=I.tuple hx;have hlen:=r.length;exact truthy_tuple pl (by simp only[xcc];lia) ⟨H,I.tok _,by rw[zmc r];exact q⟩
  ·subst e';obtain⟨hz,hS,vs,r,m⟩:kvs.length<=sizeLine/\(p==sysModules)=false/\∃vs,KV kvs vs/\s.heap.DictOf (mixKind X.prog X.w) p vs:=I.hok p _ hx
   have hlen:kvs.length=vs.length:=xhd r;exact wpAny_truthy_dict hS m (by lia) ⟨H,I.tok _,by rw[zsx r];exact q⟩
 | _=>exact(show False from e).elim
theorem zrz (ha:PE X a ta)(he:∀whole,isTrue a X.env whole=(do let v ← whole;standAt a.pos;holding [v] (truthy v))) :
  PT X a (fun σ H Q=>ta σ H fun x H'=>∃k,TruV X.K x H' k/\Q k H'):=by
 intro aU s σ H Q I h;exact isTrue_plain (thn (ha aU s σ H _ I h) fun v s1 ⟨x,H1,I1,r1,q1⟩=>zbhv aU s1 σ H1 x v Q I1 r1 q1) (he _)
theorem zsd:OpR X (binaryOp .Add) (fun x y H Q=>∃i j,x=.str i/\y=.str j/\i.length+j.length<=sizeLine/\Q (.str (i++j)) H):=by
 intro aU s σ H x y v u Q I rx ry h;obtain⟨i,j,rfl,rfl,hz,q⟩:=h;obtain⟨t,rfl⟩:=rx;obtain⟨t',rfl⟩:=ry;exact add_str (fun t' tk=>⟨.str (i++j),H,I.tok _,⟨_,rfl⟩,q⟩) hz
theorem vals1 {x:V}{us:List Value}(r:Vals [x] us):∃u,us=[u]/\RelV x u:=by
 cases r with
 | cons r1 r2=>cases r2;exact⟨_,rfl,r1⟩
theorem vals2 {x y:V}{us:List Value}(r:Vals [x,y] us):∃u w',us=[u,w']/\RelV x u/\RelV y w':=by
 cases r with
 | cons r1 r2 =>
  cases r2 with
  | cons r3 r4=>cases r4;exact⟨_,_,rfl,r1,r3⟩
theorem zbbo:CallR X (.builtin "abs") (fun xs H Q=>∃ i, xs=[.int i]/\Q (.int (if i < 0 then -i else i)) H):=by
 intro aU s σ H xs us Q I r h;obtain⟨i,rfl,q⟩:=h;obtain⟨u,rfl,t,rfl⟩:=vals1 r;exact call_abs_int fun u tk=>⟨.int (if i < 0 then -i else i),H,I.tok _,⟨_,rfl⟩,q⟩
theorem zlm (hc:X.calm=true):CallR X (.builtin "min") (fun xs H Q=>∃ i j, xs=[.int i, .int j]/\Q (.int (if j < i then j else i)) H):=by
 intro aU s σ H xs us Q I r h;obtain⟨i,j,rfl,q⟩:=h;obtain⟨u,w',rfl,⟨t,rfl⟩,⟨t',rfl⟩⟩:=vals2 r;refine min_two_ints (I.ok.hd hc) fun h' tk k=>⟨_,H,I.kept k,?_,q⟩
 by_cases hj:j < i
 ·rw[if_pos hj,if_pos hj];exact⟨_,rfl⟩
 ·rw[if_neg hj,if_neg hj];exact⟨_,rfl⟩
end
structure ObjM (h:Heap) (x dx C:Addr) (mA:Str->Option Value):Prop where
 obj:h.get? x=some (W.instObj C dx)
 ns:h.Ns1 dx mA
 ne:dx≠x
theorem zvu {h:Heap}{dx:Addr}{mA:Str->Option Value}(n:h.Ns1 dx mA):∃od,h.get? dx=some od/\∀name,W.lookIn name od=some (mA name):=by
 obtain⟨o,es,ep,ho,hd,hk,_,hm⟩:=n;refine⟨o,ho,fun name=>?_⟩;have e:=hm name;unfold nsFind findBy at e;rw[← Array.find?_toList] at e;unfold W.lookIn;rw[hd];dsimp only;split
 ·rename_i y q;rw[q] at e;exact congrArg some e
 ·rename_i q;rw[q] at e;have a:es.toList.any (·.refKey)=false:=by
   rw[List.any_eq_false];intro y hy;obtain⟨z,t,hkey⟩:=hk y (Array.mem_toList_iff.mp hy);simp[DictEntry.refKey,hkey]
  have a':¬ es.toList.any (·.refKey)=true:=by rw[a];exact xfo
  rw[if_neg a'];exact congrArg some e
theorem ObjM.look {h:Heap}{x dx C:Addr}{mA:Str->Option Value}(I:ObjM h x dx C mA):∃od,W.InstAt h x (W.instObj C dx) C (some od)/\∀name,W.lookIn name od=some (mA name) :=
 let ⟨od,ho,hl⟩:=zvu I.ns
 ⟨od,⟨I.obj,rfl,rfl,ho⟩,hl⟩
section
variable {prog:Program}{w:World}{A:Around}{E:Value->Shared->Prop}{s:Shared}{K:Fg}{x dx C f:Addr}{mA:Str->Option Value}{name:Str}{v:Value}
end
theorem RelO.some_of {v:V}{o:Option Value}(r:RelO (some v) o):∃u,o=some u/\RelV v u:=by
 cases o with
 | none=>exact(show False from r).elim
 | some u=>exact⟨u,rfl,r⟩
section
variable {P:Program}{w:World}{H H':Hp}{h h':Heap}{a C dx:Addr}{fs fs':List (Str×V)}
theorem zbfd (hok:HOk P w H h)(e:H a=some (.ins C dx fs)):∃mA,ObjM h a dx C mA/\(∀f,RelO (fs.lookup f) (mA f))/\PySem.Within mA (fs.map (·.1))/\fs.length<=1000/\H dx=some (.own a):=by
 obtain⟨d,z,ne,ob,mA,n,r,q⟩:=(show ObjOk P w H h a (.ins C dx fs) from hok a _ e)
 exact⟨mA,⟨ob,n,ne⟩,r,q,z,d⟩
end
structure Cls (K:Fg) (C:Addr):Prop where
 pg:W.plainGet K C Str.empty=true
 hd:W.hasDictIn K C=true
 po:W.plainOver K C=true
 sa:W.findIn K (.ref C) "__setattr__"=some (some (.builtin "object.__setattr__"))
theorem Cls.get {K:Fg}{C:Addr}(c:Cls K C)(f:Str):W.plainGet K C f=true:=c.pg
section
variable {X:Cx}{aU:List (Addr×Obj)}{σ:St}{H:Hp}{s:Shared}{a C dx:Addr}{fs:List (Str×V)}{f:Str}{v:V}{A:Around}{E:Value->Shared->Prop}
end
section
variable {X:Cx}{o e value:Expr}{f:Str}{pos pos' tpos:Pos}{ta tv:TE}
end
section
variable {X:Cx}{aU:List (Addr×Obj)}{σ:St}{H:Hp}{s:Shared}{A:Around}{E:Value->Shared->Prop}{Q:Value->Shared->Prop}{c:Value}{b:Bool}
inductive TyOf (K:Fg) (H:Hp):V->Value->Prop where
 | non:TyOf K H .non (.type "NoneType")
 | bl (x:Bool):TyOf K H (.bl x) (.type "bool")
 | int (i:Int):TyOf K H (.int i) (.type "int")
 | str (x:Str):TyOf K H (.str x) (.type "str")
 | flt (x:UInt64):TyOf K H (.flt x) (.type "float")
 | lst {a:Addr} {xs:List V} (e:H a=some (.lst xs)):TyOf K H (.ref a) (.type "list")
 | frz {a:Addr} {o:Obj} {xs:List V} (e:H a=some (.frz o (.lst xs))):TyOf K H (.ref a) (.type "list")
 | tup {a:Addr} {xs:List V} (e:H a=some (.tup xs)):TyOf K H (.ref a) (.type "tuple")
 | dK {a:Addr} {kvs:List (Key×V)} (e:H a=some (.dK kvs)):TyOf K H (.ref a) (.type "dict")
 | dT {a:Addr} {kvs:List (List Key×V)} (e:H a=some (.dT kvs)):TyOf K H (.ref a) (.type "dict")
 | ins {a C dx:Addr} {fs:List (Str×V)} (e:H a=some (.ins C dx fs)) (cl:Cls K C) (ha:W.findIn K (.ref C) "__class__"=some (some (.builtin "object.__class__")))
  (hn:W.specialIn K (.builtin "object.__class__") "__get__"=some (some (.builtin "getset_descriptor.__get__")))(htk:W.takesIn K (.builtin "object.__class__")=some true)
  (hm:W.mroIn K C (.type "object")=some true):TyOf K H (.ref a) (.ref C)
theorem zvz {x:V}{u t:Value}(I:Inv X aU σ H s)(rx:RelV x u)(ty:TyOf X.K H x t)(e:W.kitOne X.K t c=some b)(h:∀tk,Q (.bool b) {s with toks:=tk}) :
  wpAny (model X.prog X.w) A (call (.builtin "isinstance") [u, c]) Q E s:=by
 cases ty with
 | non=>cases(show u=Value.none from rx);exact xen W.kitx_none I.kIn True.intro e (fun z=>nomatch z) h
 | bl y=>cases(show u=Value.bool y from rx);exact xen W.kitx_bool I.kIn True.intro e (fun z=>nomatch z) h
 | int i=>obtain⟨t,q⟩:=(show ∃t,u=Value.int i t from rx);cases q;exact xen W.kitx_int I.kIn True.intro e (fun z=>nomatch z) h
 | str y=>obtain⟨t,q⟩:=(show ∃t,u=Value.str y t from rx);cases q;exact xen W.kitx_str I.kIn True.intro e (fun z=>nomatch z) h
 | flt y=>obtain⟨t,q⟩:=(show ∃t,u=Value.float y t from rx);cases q;exact xen W.kitx_float I.kIn True.intro e (fun z=>nomatch z) h
 | @lst a xs ea =>
  cases(show u=Value.ref a from rx);obtain⟨_,_,n,_,h1⟩:=(show ObjOk X.prog X.w H s.heap a (.lst xs) from I.hok a _ ea)
  exact xen W.kitx_list I.kIn ⟨_,h1,rfl⟩ e (fun z=>nomatch z) h
 | @frz a ob xs ea =>
  cases(show u=Value.ref a from rx);obtain⟨_,_,_,n,_,h1⟩:=(show ObjOk X.prog X.w H s.heap a (.frz ob (.lst xs)) from I.hok a _ ea)
  exact xen W.kitx_list I.kIn ⟨_,h1,rfl⟩ e (fun z=>nomatch z) h
 | @tup a xs ea =>
  cases(show u=Value.ref a from rx);obtain⟨_,_,_,p⟩:=(show ObjOk X.prog X.w H s.heap a (.tup xs) from I.hok a _ ea)
  obtain⟨o,h1,h2,_⟩:=p;exact xen W.kitx_tuple I.kIn ⟨o,h1,h2⟩ e (fun z=>nomatch z) h
 | @dK a kvs ea =>
  cases(show u=Value.ref a from rx);obtain⟨_,_,vs,_,p⟩:=(show ObjOk X.prog X.w H s.heap a (.dK kvs) from I.hok a _ ea)
  obtain⟨o,es,ep,h1,h2,_⟩:=p;exact xen W.kitx_dict I.kIn ⟨o,h1,h2.1⟩ e (fun z=>nomatch z) h
 | @dT a kvs ea =>
  cases(show u=Value.ref a from rx);obtain⟨_,_,xs,_,o,es,ep,h1,h2,_⟩:=(show ObjOk X.prog X.w H s.heap a (.dT kvs) from I.hok a _ ea)
  exact xen W.kitx_dict I.kIn ⟨o,h1,h2.1⟩ e (fun z=>nomatch z) h
 | @ins a C dx fs ea cl ha hn htk hm =>
  cases(show u=Value.ref a from rx);obtain⟨mA,O,_⟩:=zbfd I.hok ea;obtain⟨od,J,_⟩:=O.look;exact xen (W.kitx_own (cl.get _) cl.hd ha hn htk hm) I.kIn J e (fun z=>nomatch z) h
end
structure Room (k:Nat) (A:Around):Prop where
 hd:A.handled=none
 dp:A.depth+3 * k+5 < recursionLimit
 un:A.units+16 * k+200 < cLine
theorem Room.mono {j k:Nat}{A:Around}(r:Room k A)(h:j<=k):Room j A:=⟨r.hd,by have:=r.dp;lia,by have:=r.un;lia⟩
theorem Room.deeper {k:Nat}{A:Around}(r:Room (k+1) A)(env:Env):Room k (A.deeper env) :=
 ⟨r.hd,by have:=r.dp;show A.depth+1+3 * k+5 < _;lia,by have:=r.un;show A.units+3+16 * k+200 < _;lia⟩
theorem Room.depth {k:Nat}{A:Around}(r:Room k A):A.depth < recursionLimit:=by have:=r.dp;lia
theorem Room.units {k:Nat}{A:Around}(r:Room k A):A.units+64 < cLine:=by have:=r.un;lia
theorem Room.units0 {k:Nat}{A:Around}(r:Room k A):A.units < cLine:=by have:=r.un;lia
noncomputable def tNil:TA:=fun _ H Q=>Q [] H
noncomputable def tCons (ta:TE) (tr:TA):TA:=fun σ H Q=>ta σ H fun x H1=>tr σ H1 fun xs H2=>Q (x::xs) H2
section
variable {X:Cx}{e:Expr}{es:List Expr}{te:TE}{t:TA}{pos:Pos}
theorem zbjc:PA X [] tNil:=fun _ _ _ _ H Q I h=>xjc ⟨[],H,I,.nil,h⟩
theorem zbdq (ha:PE X e te)(hr:PA X es t)(hs:starEach (e::es) X.env=(false,eval e X.env)::starEach es X.env:=by rfl):PA X (e::es) (tCons te t):=by
 intro pos aU s σ H Q I h;rw[hs];show wpAny _ _ (spliced ((false,eval e X.env)::backTo pos (starEach es X.env))) _ _ s;refine xhg (thn (ha aU s σ H _ I h) fun u s1 hq0=>?_);obtain⟨x,H1,I1,r1,q1⟩:=hq0;exact thn (hr pos aU s1 σ H1 _ I1 q1) fun us s2 ⟨xs,H2,I2,r2,q2⟩=>⟨x::xs,H2,I2,.cons r1 r2,q2⟩
noncomputable def tTup (t:TA):TE:=fun σ H Q=>t σ H fun xs H1=>xs.length<=sizeLine/\∀p,H1 p=none->Q (.ref p) (upd H1 p (.tup xs))
noncomputable def tLst (t:TA):TE:=fun σ H Q=>t σ H fun xs H1=>xs.length<=sizeLine/\∀p,H1 p=none->Q (.ref p) (upd H1 p (.lst xs))
theorem zbis {x1}(h:PA X es t):PE X (.Tuple es x1 pos) (tTup t):=by
 intro aU s σ H Q I hq;refine wpAny_Tuple_spliced (thn (h pos aU s σ H _ I hq) fun us s1 ⟨xs,H1,I1,r,z,q⟩=>⟨by rw[← r.length];exact z,?_⟩);have hf:H1 s1.heap.objs.size=none:=I1.hok.fresh (xbf _);refine⟨.ref s1.heap.objs.size,upd H1 s1.heap.objs.size (.tup xs),I1.laid (t':=s1.toks) (fun b u e=>xbm _ e) (xbf _) ?_,rfl,q _ hf⟩;exact⟨z,us,r,⟨_,xch _ rfl,rfl,_,rfl⟩⟩
theorem zbdl (h:PA X es t):PE X (.List es pos) (tLst t):=by
 intro aU s σ H Q I hq;refine wpAny_List_spliced (thn (h pos aU s σ H _ I hq) fun us s1 ⟨xs,H1,I1,r,z,q⟩=>⟨by rw[← r.length];exact z,?_⟩);have hf:H1 s1.heap.objs.size=none:=I1.hok.fresh (xbf _);refine⟨.ref s1.heap.objs.size,upd H1 s1.heap.objs.size (.lst xs),I1.laid (t':=s1.toks) (fun b u e=>xbm _ e) (xbf _) ?_,rfl,q _ hf⟩;exact⟨z,us,0,r,xch _ rfl⟩
end
noncomputable abbrev Sp:=List V->Hp->VK->XK->Prop
noncomputable abbrev CXT:=List Env->Hp->Shared->XK->Value->Shared->Prop
structure Env0 (P:Program) (w:World) (K:Fg) (mg:Str->Option Value) (base:Heap) (A:Around) (outer:List Env) (s:Shared) (H:Hp):Prop where
 frames:A.frames=some outer
 mod:Mod K mg base
 bs:∀b o,base.get? b=some o->s.heap.get? b=some o/\H b=none
 bsz:base.objs.size<=s.heap.objs.size
 funs:s.heap.FunFrames base outer
 frf:∀b∈frs outer,H b=none
 hok:HOk P w H s.heap
 bare:AllBare s.gens
noncomputable def CE (outer:List Env) (P:Program) (w:World) (H:Hp) (s:Shared) (Q:VK) (u:Value) (s':Shared):Prop :=
 ∃v H',s'.os=s.os/\AllBare s'.gens/\Un (frs outer) [] H H' s.heap s'.heap/\HOk P w H' s'.heap/\RelV v u/\Q v H'
noncomputable def CR (CX:CXT) (outer:List Env) (P:Program) (w:World) (H:Hp) (s:Shared) (Q:VK) (E:XK) (r:Result) (s':Shared):Prop :=
 match r with
 | .ok (.ret u)=>CE outer P w H s Q u s'
 | .ok _=>False
 | .error e=>CX outer H s E e s'
structure FnOk (P:Program) (w:World) (K:Fg) (mg:Str->Option Value) (base:Heap) (CX:CXT) (k:Nat) (f:Addr) (fd:FuncData) (ps:List Str) (sp:Sp):Prop where
 len:∀vs H Q E,sp vs H Q E->vs.length=ps.length
 run:∀(A:Around) (outer:List Env) (s:Shared) (H:Hp) (args:Args) (us:List Value) (vs:List V) (Q:VK) (E:XK),Room k A->Env0 P w K mg base A outer s H->BindsTo s fd args (ps.zip us)->Vals vs us->sp vs H Q E ->
  codeAny (model P w) A (.call (.ref f) args) (CR CX outer P w H s Q E) s
section
variable {X:Cx}{aU:List (Addr×Obj)}{σ:St}{H:Hp}{s s':Shared}
theorem Inv.env0 (I:Inv X aU σ H s):Env0 X.prog X.w X.K X.mg X.base X.A X.stack s H :=
 ⟨I.ok.frames,I.ok.mod,I.bs,xbb I.ok.bsz I.sz,I.stack,I.stkFree,I.hok,I.bare⟩
theorem Inv.after {Q:VK}{u:Value}(I:Inv X aU σ H s)(h:CE X.stack X.prog X.w H s Q u s'):EP X aU σ Q u s':=by
 obtain⟨v,H',os,bare,un,hok,r,q⟩:=h;obtain⟨hh,g,d,t,os'⟩:=s';obtain rfl:os'=s.os:=os;exact⟨v,H',I.call (h':=hh) (g':=g) (d':=d) (t':=t) (ch:=[]) un hok bare (fun b z=>absurd z (by simp)),r,q⟩
end
noncomputable def tCall (sp:Sp) (dvs:List V) (E:XK) (t:TA):TE:=fun σ H Q=>t σ H fun vs H1=>sp (vs++dvs) H1 Q E
noncomputable def Binds (K:Fg) (fd:FuncData) (ps:List Str) (ds:List Value):Prop :=
 ∀(s:Shared) (us:List Value),K.In s.heap->(us++ds).length=ps.length->BindsTo s fd ⟨us,[]⟩ (ps.zip (us++ds))
theorem Binds.all {K:Fg}{fd:FuncData}{ps:List Str}(h:∀us:List Value,us.length=ps.length->bindArgs fd ⟨us,[]⟩=pure (ps.zip us)):Binds K fd ps []:=fun s us _ hl=>by
 rw[xet] at hl ⊢;exact .of_eq (h us hl)
noncomputable def Passes (CX:CXT) (X:Cx) (E:XK):Prop:=∀(aU:List (Addr×Obj)) (σ:St) (H:Hp) (s:Shared) (e:Value) (s':Shared),Inv X aU σ H s->CX X.stack H s E e s'->X.xe e s'
section
variable {X:Cx}{CX:CXT}{k:Nat}{f C:Addr}{fd:FuncData}{ps:List Str}{sp:Sp}{dvs:List V}{ds:List Value}{E:XK}{x m:Str}{p pos apos:Pos}{e o:Expr}{es:List Expr}{ta:TE}{t:TA}
theorem zbih {aU:List (Addr×Obj)}{σ:St}{H:Hp}{s:Shared}{Q:VK}{us:List Value}{vs:List V}(F:FnOk X.prog X.w X.K X.mg X.base CX k f fd ps sp)(hr:Room k X.A)(hb:Binds X.K fd ps ds)(hd:Vals dvs ds)(hx:Passes CX X E)
  (I:Inv X aU σ H s)(r:Vals vs us)(h:sp (vs++dvs) H Q E):wpAny (model X.prog X.w) X.A (call (.ref f) us) (EP X aU σ Q) X.xe s:=by
 have r2:Vals (vs++dvs) (us++ds):=r.append hd;have hl:(us++ds).length=ps.length:=by rw[← r2.length];exact F.len _ _ _ _ h
 refine wpAny_call (xju (F.run X.A X.stack s H ⟨us,[]⟩ (us++ds) (vs++dvs) Q E hr I.env0 (hb s us I.kIn hl) r2 h) fun r s' hq=>?_);cases r with
 | error e=>exact hx aU σ H s e s' I hq
 | ok fl =>
  cases fl with
  | ret u=>exact I.after hq
  | next=>exact False.elim hq
  | brk=>exact False.elim hq
  | cont=>exact False.elim hq
theorem zbdp (F:FnOk X.prog X.w X.K X.mg X.base CX k f fd ps sp)(hr:Room k X.A)(hg:Gl X x)(hm:X.mg x=some (.ref f))(hk:W.keepIn X.K (.ref f)=true)(hb:Binds X.K fd ps ds)(hd:Vals dvs ds)(hx:Passes CX X E)
  (ha:PA X (e::es) t)(hdb:(x==("__debug__" : Str))=false:=by decide)(he:starEach (e::es) X.env=(false, eval e X.env)::starEach es X.env:=by rfl)(hpl:(backTo pos (starEach es X.env)).any (·.1)=false:=by rfl) :
  PE X (.Call (.Name x p) (e::es) [] pos) (tCall sp dvs E t):=by
 intro aU s σ H Q I h;refine xit (zbew I hg hm ?_ hdb);refine W.callWith_K (h₀:=X.base) I.ok.mod.kin hk (thn (ha pos aU s σ H _ I h) fun us s1 ⟨vs,H1,I1,r,q⟩=>⟨I1.kIn,?_⟩) he hpl;exact zbih F hr hb hd hx I1 r q
end
section
variable {X:Cx}{CX:CXT}{k:Nat}{f C:Addr}{fd:FuncData}{ps ks:List Str}{sp:Sp}{E:XK}{x m:Str}{p pos apos kpos:Pos}{e o:Expr}{es:List Expr}{kws:List Keyword}{te ta:TE}{t tk:TA}{nm:Option Str}
variable {g:List Value->List Value->List Value}{gV:List V->List V->List V}
end
structure FnScope (N P:List Str) (sc:Scope):Prop where
 kind:sc.kind=.function
 co:sc.isCoroutine=false
 gen:sc.isGenerator=false
 nd:N.Nodup
 pre:N.take P.length=P
 par:∀x∈P,sc.names.lookup x=some .local\/sc.names.lookup x=some .cell
 nofree:∀y∈sc.names,y.2≠.free
theorem zpt {kindOf:Str->Option NameKind}{x:Str}:∀{binds:List (Str×Value)} {m:Str->Option Value},(∀v,(x,v)∉binds)->bindL kindOf binds m x=m x
 | [],_,_=>rfl
 | (n,v)::r,m,h=>by
  unfold bindL;rw[zpt fun w hw=>h w (xbi _ hw)];split
  ·have:x≠n:=by rintro rfl;exact h v xcr
   simp[this]
  ·rfl
theorem zpv {kindOf:Str->Option NameKind}{x:Str}:∀{binds:List (Str×Value)} {m:Str->Option Value},(∀v,(x,v)∉binds)->bindC kindOf binds m x=m x
 | [],_,_=>rfl
 | (n,v)::r,m,h=>by
  unfold bindC;rw[zpv fun w hw=>h w (xbi _ hw)];split
  ·rfl
  ·have:x≠n:=by rintro rfl;exact h v xcr
   simp[this]
theorem zpu {kindOf:Str->Option NameKind}{x:Str}{v:Value}:∀{P:List Str} {vs:List Value} {i:Nat} {m:Str->Option Value},P.Nodup->P[i]?=some x->vs[i]?=some v->kindOf x=some .local ->
  bindL kindOf (P.zip vs) m x=some v
 | [],_,_,_,_,h,_,_=>by simp at h
 | _::_,[],_,_,_,_,h,_=>by simp at h
 | p::P,w::vs,0,m,nd,h1,h2,hk=>by
  simp at h1 h2;subst h1;subst h2
  show bindL kindOf ((p,w)::P.zip vs) m p=_;unfold bindL;rw[zpt fun v hv=>(xdo.mp nd).1 (xky hv).1,if_pos hk];simp
 | p::P,w::vs,i+1,m,nd,h1,h2,hk=>by
  show bindL kindOf ((p,w)::P.zip vs) m x=_;unfold bindL;exact zpu (i:=i) (xdo.mp nd).2 (by simpa using h1) (by simpa using h2) hk
theorem zpw {kindOf:Str->Option NameKind}{x:Str}{v:Value}:∀{P:List Str} {vs:List Value} {i:Nat} {m:Str->Option Value},P.Nodup->P[i]?=some x->vs[i]?=some v->kindOf x≠some .local ->
  bindC kindOf (P.zip vs) m x=some v
 | [],_,_,_,_,h,_,_=>by simp at h
 | _::_,[],_,_,_,_,h,_=>by simp at h
 | p::P,w::vs,0,m,nd,h1,h2,hk=>by
  simp at h1 h2;subst h1;subst h2
  show bindC kindOf ((p,w)::P.zip vs) m p=_;unfold bindC;rw[zpv fun v hv=>(xdo.mp nd).1 (xky hv).1,if_neg hk];simp
 | p::P,w::vs,i+1,m,nd,h1,h2,hk=>by
  show bindC kindOf ((p,w)::P.zip vs) m x=_;unfold bindC;exact zpw (i:=i) (xdo.mp nd).2 (by simpa using h1) (by simpa using h2) hk
noncomputable def start (N:List Str) (vs:List V):St:=vs.map some++List.replicate (N.length - vs.length) none
noncomputable def cxOf (CX:CXT) (P:Program) (w:World) (K:Fg) (mg:Str->Option Value) (base:Heap) (N:List Str) (qual:Str) (scope:Scope) (f:Addr) (cd:Value) (A:Around) (outer:List Env) (s:Shared) (H:Hp) (E:XK):Cx where
 prog:=P
 w:=w
 K:=K
 mg:=mg
 base:=base
 A:=A.deeper (envOfC qual scope s.heap.objs.size f cd)
 N:=N
 s₀:=s
 H₀:=H
 env:=envOfC qual scope s.heap.objs.size f cd
 outer:=outer
 stack:=envOfC qual scope s.heap.objs.size f cd::outer
 ex:=[]
 calm:=true
 fn:=fun _=>true
 pn:=[]
 xe:=fun e s'=>wpAny (model P w) (A.deeper (envOfC qual scope s.heap.objs.size f cd)) (leaving (envOfC qual scope s.heap.objs.size f cd) e) (fun _ s''=>CX outer H s E e s'') (fun e' s''=>CX outer H s E e' s'') s'
theorem ztn {sc:Scope}{n:Nat}{x:Str}(h:sc.names.lookup x=some .cell):∃c,(cellsFrom n sc.names []).lookup x=some c:=by
 have q:=W.cellsFrom_some sc.names n [] (.inl h);exact Option.isSome_iff_exists.mp q
theorem zwa {CX:CXT}{P:Program}{w:World}{K:Fg}{mg:Str->Option Value}{base:Heap}{N ps:List Str}{qual:Str}{scope:Scope}{f:Addr}{cd:Value}{A:Around}{outer:List Env}{s s1:Shared}{H:Hp}{E:XK}{us:List Value}{vs:List V}
  (S:FnScope N ps scope)(hd:A.handled=none)(e0:Env0 P w K mg base A outer s H)(hl:vs.length=ps.length)(r:Vals vs us)
  (x:InCallC s s.heap.objs.size (bindL (envOfC qual scope s.heap.objs.size f cd).kindOf (ps.zip us) fun _=>none) (cellsFrom (s.heap.objs.size+1) scope.names []) (bindC (envOfC qual scope s.heap.objs.size f cd).kindOf (ps.zip us) fun _=>none) s1) :
  Inv (cxOf CX P w K mg base N qual scope f cd A outer s H E) [] (start N vs) H s1:=by
 have hpl:ps.length<=N.length:=by have:=congrArg List.length S.pre;rw[xcx] at this;lia
 obtain⟨h1,tk,rfl,hk⟩:=x.done;have noA:∀b:Addr,b∉(cxOf CX P w K mg base N qual scope f cd A outer s H E).ex:=fun b z=>absurd (show b∈([]:List Addr) from z) (by simp)
 refine⟨⟨e0.mod,S.kind,rfl,rfl,xbf _,fun y z c h1 h2=>?_,fun y hy=>?_,fun y c _ h=>?_,fun _=>hd,Around.frames_deeper e0.frames,.inr ⟨rfl,rfl⟩,fun b z=>absurd z (noA b),e0.bs,e0.bsz,fun b _ _=>noA b,fun b z=>absurd z (noA b),e0.funs,e0.frf⟩,
  rfl,e0.bare,Un.kept hk,⟨_,x.toInCall.ns,fun i y v h1 h2 h3=>?_⟩,fun y c h=>⟨_,x.cell y c h⟩,e0.hok.fresh (xbf _),fun y c h=>?_,fun p hp=>absurd (show p∈([]:List (Addr×Obj)) from hp) (by simp),e0.hok.kept hk,?_,Hnd.none hd⟩
 ·exact name_of_addr x.apart (xfy h1) (xfy h2)
 ·have hy:scope.names.lookup y=some .cell\/scope.names.lookup y=some .free:=hy;rcases hy with hy | hy
  ·exact ztn hy
  ·exact absurd rfl (S.nofree _ (xfy hy))
 ·exact xbx (x.above y c (xfy h))
 ·have hi:i < vs.length:=by
   unfold start at h2;by_cases hi:i < vs.length
   ·exact hi
   ·rw[xco (by simpa using hi)] at h2;rw[xiv] at h2;split at h2<;>cases h2
  have ha:vs[i]?=some v:=by
   unfold start at h2;rw[xbs (by simpa using hi),xcd] at h2;cases e:vs[i]? with
   | none=>rw[e] at h2;cases h2
   | some a=>rw[e] at h2;cases h2;rfl
  obtain⟨u,hu,rv⟩:=r.get ha;have hp:ps[i]?=some y:=by
   rw[← S.pre,List.getElem?_take_of_lt (by lia)];exact h1
  have ndP:ps.Nodup:=by rw[← S.pre];exact S.nd.sublist (xki _ _)
  refine⟨u,rv,?_⟩;rcases S.par y (xbo hp) with k | k
  ·exact .inl ⟨k,zpu ndP hp hu k⟩
  ·obtain⟨c,e⟩:=ztn (n:=s.heap.objs.size+1) k;refine .inr ⟨.inl k,c,e,?_⟩;have q:=x.cell y c e;rw[zpw ndP hp hu (by show scope.names.lookup y≠_;rw[k];decide)] at q;exact q
 ·exact e0.hok.fresh (xbx (x.above y c (xfy h)))
 ·unfold start;show _=N.length;rw[xbq,xbd,xfp];lia
theorem zbnj {CX:CXT}{P:Program}{w:World}{K:Fg}{mg:Str->Option Value}{base:Heap}{k:Nat}{f:Addr}{name qual:Str}{params:Arguments}{body:List Stmt}{scope:Scope}{dV kV doc pm cdv ct oc:Value}{an od:Option Addr}
  {osl:Array (Option Value)}{N ps:List Str}{sp:Sp}(lk:K.lookup f=some ⟨oc,od,.func (W.fnOf name qual params body scope dV kV doc pm an cdv ct),osl⟩)(hcd:W.codeIn K cdv qual=true)(S:FnScope N ps scope)
  (len:∀vs H Q E,sp vs H Q E->vs.length=ps.length)
  (hbody:∀(A:Around) (outer:List Env) (s:Shared) (H:Hp) (vs:List V) (Q:VK) (E:XK),Room k (A.deeper (envOfC qual scope s.heap.objs.size f cdv))->sp vs H Q E ->
   ∃t,PSs (cxOf CX P w K mg base N qual scope f cdv A outer s H E) body t/\t {nx:=fun _ H'=>Q .non H',rt:=Q} (start N vs) H) :
  FnOk P w K mg base CX (k+1) f (W.fnOf name qual params body scope dV kV doc pm an cdv ct) ps sp:=by
 refine⟨len,fun A outer s H args us vs Q E hr e0 hb r hsp=>?_⟩;have hl:=len _ _ _ _ hsp;have KX:K.In s.heap:=e0.mod.kin.keeps fun b o e=>(e0.bs b o e).1
 have lim:s.heap.NoLimit:=e0.mod.nolimit.keeps fun b o e=>(e0.bs b o e).1
 have hkind:∀y∈ps.zip us,scope.names.lookup y.1=some .local\/(scope.names.lookup y.1=some .cell/\((cellsFrom (s.heap.objs.size+1) scope.names []).lookup y.1).isSome=true):=fun hq0 hy=>by
  obtain⟨n,v⟩:=hq0;rcases S.par n (xky hy).1 with q | q
  ·exact .inl q
  ·exact .inr ⟨q,W.cellsFrom_some _ _ _ (.inl q)⟩
 refine codeAny_call_function hr.depth (KX _ _ lk) rfl S.co S.gen rfl (W.codeRec_of KX hcd) (hb _ _ _ _ ?_);refine wpAny_newFunctionEnv_cells S.kind hkind fun env he s1 x=>?_
 subst he;refine⟨lim.keeps x.toInCall.keep,codeAny_func ?_⟩;obtain⟨t,ht,hq⟩:=hbody A outer s H vs Q E (hr.deeper _) hsp;have I:Inv (cxOf CX P w K mg base N qual scope f cdv A outer s H E) [] (start N vs) H s1:=zwa S hr.hd e0 hl r x;refine xec (ht [] s1 (start N vs) H _ I hq) (fun fl s' hs=>?_) fun e s' hs=>hs
 have fin:∀{σ':St} {H':Hp} {v:V} {u:Value},Inv (cxOf CX P w K mg base N qual scope f cdv A outer s H E) [] σ' H' s'->RelV v u->Q v H'->CE outer P w H s Q u s' :=
  fun {σ' H' v u} J rv q=>⟨v,H',J.os,J.bare,J.base,J.hok,rv,q⟩
 cases fl with
 | ret u =>
  obtain⟨v,σ',H',J,rv,q⟩:=hs;exact fin J rv q
 | next =>
  obtain⟨σ',H',J,q⟩:=hs;exact fin (v:=V.non) (u:=Value.none) J rfl q
 | brk =>
  obtain⟨_,_,_,q⟩:=hs;exact False.elim q
 | cont =>
  obtain⟨_,_,_,q⟩:=hs;exact False.elim q
section
variable {X:Cx}{x:Str}{p pos:Pos}{e:Expr}{es:List Expr}{t:TA}{id T:String}{r:List V->Hp->VK->Prop}
noncomputable def tCB (r:List V->Hp->VK->Prop) (t:TA):TE:=fun σ H Q=>t σ H fun vs H1=>r vs H1 Q
theorem zzi (hc:CallR X (.builtin id) r)(hg:Gl X x)(hm:X.mg x=none)(hv:bootBuiltins x=some (.builtin id))(ha:PA X (e::es) t)(hn:x≠"__name__":=by decide)(hdb:(x==("__debug__" : Str))=false:=by decide)
  (he:starEach (e::es) X.env=(false,eval e X.env)::starEach es X.env:=by rfl)(hpl:(backTo pos (starEach es X.env)).any (·.1)=false:=by rfl):PE X (.Call (.Name x p) (e::es) [] pos) (tCB r t):=by
 intro aU s σ H Q I h;refine xit (zns I hg hm hv ?_ hn hdb);exact PyProof.Rows.callWith_builtin1 (thn (ha pos aU s σ H _ I h) fun us s1 ⟨vs,H1,I1,r1,q1⟩=>hc aU s1 σ H1 vs us Q I1 r1 q1) he hpl
theorem zvi (hc:CallR X (.type T) r)(hg:Gl X x)(hm:X.mg x=none)(hv:bootBuiltins x=some (.type T))(ha:PA X (e::es) t)(hn:x≠"__name__":=by decide)(hdb:(x==("__debug__" : Str))=false:=by decide)
  (he:starEach (e::es) X.env=(false,eval e X.env)::starEach es X.env:=by rfl)(hpl:(backTo pos (starEach es X.env)).any (·.1)=false:=by rfl):PE X (.Call (.Name x p) (e::es) [] pos) (tCB r t):=by
 intro aU s σ H Q I h;refine xit (zns I hg hm hv ?_ hn hdb);exact xgd (thn (ha pos aU s σ H _ I h) fun us s1 ⟨vs,H1,I1,r1,q1⟩=>hc aU s1 σ H1 vs us Q I1 r1 q1) he hpl
end
end L2
namespace HT
open PySem PyProof.Rows
noncomputable def lexLt:List Int->List Int->Bool
 | [],[]=>false
 | [],_::_=>true
 | _::_,[]=>false
 | x::xs,y::ys=>if x=y then lexLt xs ys else decide (x < y)
theorem zdp (x y:Int)(xs ys:List Int):lexLt (x::xs) (y::ys)=if x=y then lexLt xs ys else decide (x < y):=rfl
theorem zet:lexLt [] []=false:=rfl
theorem zcs (y:Int)(ys:List Int):lexLt [] (y::ys)=true:=rfl
theorem zeb (x:Int)(xs:List Int):lexLt (x::xs) []=false:=rfl
theorem zbah (A:Around)(s:Shared)(a:Int)(t:Tok)(c:Int)(u:Tok):∃e,SeqAt.EqAt A s (.int a t) (.int c u) e/\(e=true↔a=c) :=
 ⟨(a==c),SeqAt.EqAt.int_int a t c u,by simp⟩
theorem zyr (A:Around)(s:Shared)(a:Int)(t:Tok)(c:Int)(u:Tok)(prog:Program)(w:World)(E:Value->Shared->Prop)(Q:Value->Shared->Prop)(h:Q (.bool (decide (a < c))) s) :
  wpAny (model prog w) A (richCompare .Lt (.int a t) (.int c u)) Q E s :=
 (PyProof.Rows.lt_int h:wpAny (model prog w) A (compareOp .Lt (.int a t) (.int c u)) Q E s)
section
open PySem.SeqAt
open PySem.AutoSeq1 (wpAny_loadPart')
open PySem.MeetsSeq PySem.MeetsSeq2 PySem.MeetsSeq3
theorem zha (l b:Addr)(items items2:Array Value)(n n2:Nat)(dd dd2:Option Addr)(sl sl2:Array (Option Value))(ns ms:List Int)(hi:IntsAre items.toList ns)(hj:IntsAre items2.toList ms) :
  Meets (Builtin.«tuple.__lt__» ⟨[.ref l,.ref b],[]⟩)
   (fun _ R s=>s.heap.get? l=some { cls:=.type "tuple", dict:=dd, data:=.seq items n, slots:=sl }/\s.heap.get? b=some { cls:=.type "tuple", dict:=dd2, data:=.seq items2 n2, slots:=sl2 } /\
    R (.ok (.ret (.bool (lexLt ns ms)))) s) :=
 .of_wp fun prog w A R s h=>by
  obtain⟨hp,g,d,tk,os⟩:=s;obtain⟨hl,hb,h⟩:=h
  have f2:=AutoSeq1.sub_tuple_tuple;have z1:items.size=ns.length:=by rw[← hi.length];simp
  have z2:items2.size=ms.length:=by rw[← hj.length];simp
  wp_walk using wpAny_loadPart' hl,wpAny_loadPart' hb,wpAny_forIn_list _ (fun rest b s'=>b.1=none/\s'=⟨hp,g,d,tk,os⟩/\∃(vs ws:List Value) (ns' ms':List Int),rest=vs.zip ws /\
   IntsAre vs ns'/\IntsAre ws ms'/\ns'.length+items2.size=ms'.length+items.size/\R (.ok (.ret (.bool (lexLt ns' ms')))) ⟨hp,g,d,tk,os⟩) _
  case turn =>
   rintro⟨y,x⟩ rest b s' ⟨hb',rfl,vs,ws,ns',ms',hz,hvi,hwi,hlen,hR⟩;cases hvi with
   | nil=>rw[List.zip_nil_left] at hz;cases hz
   | cons a t hvi' =>
    cases hwi with
    | nil=>rw[List.zip_nil_right] at hz;cases hz
    | cons c u hwi' =>
     rw[List.zip_cons_cons] at hz;injection hz with hyx hrest
     injection hyx with hy hx
     subst hy hx;rw[zdp] at hR;simp only[xbv] at hlen;obtain⟨e,he,hiff⟩:=zbah A.in1 ⟨hp,g,d,tk,os⟩ a t c u;refine xba (he prog w _ _ ?_);cases e with
     | true =>
      rw[if_pos (hiff.mp rfl)] at hR
      wp_walk
      exact⟨rfl,rfl,_,_,_,_,hrest,hvi',hwi',by lia,hR⟩
     | false =>
      rw[if_neg (fun q=>absurd (hiff.mpr q) xfo)] at hR;have hri:=zyr A.in1 ⟨hp,g,d,tk,os⟩ a t c u prog w
      wp_walk using hri
      exact⟨_,rfl,by simpa using hR⟩
  case fin =>
   rintro⟨b1,b2⟩ s' ⟨hb',rfl,vs,ws,ns',ms',hz,hvi,hwi,hlen,hR⟩;simp only at hb';subst hb';have hv:lexLt ns' ms'=decide (items.size < items2.size):=by
    cases hvi with
    | nil =>
     cases hwi with
     | nil =>
      simp only[xhh] at hlen;rw[zet];exact(xbu (by lia)).symm
     | cons c u hw =>
      simp only[xhh,xbv] at hlen;rw[zcs];exact(xbw (by lia)).symm
    | cons a t hv =>
     cases hwi with
     | nil =>
      simp only[xhh,xbv] at hlen;rw[zeb];exact(xbu (by lia)).symm
     | cons c u hw =>
      rw[List.zip_cons_cons] at hz;cases hz
   rw[hv] at hR
   wp_walk
   exact⟨_,rfl,by simpa [Builtin.Tuple.tupleCompareSizes] using hR⟩
  case h =>
   exact⟨rfl,rfl,items.toList,items2.toList,ns,ms,rfl,hi,hj,by lia,h⟩
end
section
variable {prog:Program}{w:World}{A:Around}{E:Value->Shared->Prop}{s:Shared}
theorem zmb {l b:Addr}{items items2:Array Value}{ns ms:List Int}{Q:Value->Shared->Prop}(hl:IsTup s.heap l items)(hb:IsTup s.heap b items2)(hi:IntsAre items.toList ns)(hj:IntsAre items2.toList ms)
  (hu:A.units < cLine)(h:Q (.bool (lexLt ns ms)) s):wpAny (model prog w) A (compareOp .Lt (.ref l) (.ref b)) Q E s:=by
 obtain⟨⟨cls,dd,data,sl⟩,ho,hc,n,hd⟩:=id hl;obtain⟨⟨cls2,dd2,data2,sl2⟩,ho2,hc2,n2,hd2⟩:=id hb;simp only at hc hd hc2 hd2;subst hc hd hc2 hd2;exact richCompare_meets_room (op:=.Lt) ⟨_,ho,rfl⟩ ⟨_,ho2,rfl⟩ xjm F.entry_tuple_lt (F.args_tuple_lt_2 _ _) (zha l b items items2 n n2 dd dd2 sl sl2 ns ms hi hj)
  ⟨ho,ho2,show Value.bool (lexLt ns ms)≠Value.notImplemented/\Q (.bool (lexLt ns ms)) s from⟨(fun x=>nomatch x),h⟩⟩ hu
theorem zbgr {t b:Addr}{vs ws:List Value}{Q:Value->Shared->Prop}(ht:IsTup s.heap t vs.toArray)(hb:IsTup s.heap b ws.toArray)(hv:vs≠[])
  (h1:ws=[]->Q (.ref t) s)(h2:ws≠[]->Q (.ref s.heap.objs.size) { s with heap:=s.heap.push { cls:=.type "tuple", data:=.seq (vs++ws).toArray } })
  (hsz:vs.length+ws.length<=sizeLine):wpAny (model prog w) A (binaryOp .Add (.ref t) (.ref b)) Q E s:=by
 obtain⟨⟨cls,dd,data,sl⟩,ho,hc,n,hd⟩:=id ht;obtain⟨⟨cls2,dd2,data2,sl2⟩,ho2,hc2,n2,hd2⟩:=id hb;simp only at hc hd hc2 hd2;subst hc hd hc2 hd2;have e:vs.toArray++ws.toArray=(vs++ws).toArray:=by simp
 by_cases hw:ws=[]
 ·exact concat_meets ⟨_,ho,rfl⟩ ⟨_,ho2,rfl⟩ noFill_tuple_add seq_tuple_add xjg xiw (xil _ _)
   (tuple_addW1 t b vs.toArray ws.toArray n n2 dd dd2 sl sl2 (by simpa using hv) (by simp[hw])) ⟨ho,ho2,h1 hw⟩
 ·refine concat_meets ⟨_,ho,rfl⟩ ⟨_,ho2,rfl⟩ noFill_tuple_add seq_tuple_add xjg xiw (xil _ _)
   (tuple_addW2 t b vs.toArray ws.toArray n n2 dd dd2 sl sl2 (by simpa using hv) (by simpa using hw) (by rw[xcc,xcc];exact hsz)) ⟨ho,ho2,?_⟩
  rw[e];exact h2 hw
noncomputable def sIx (n d:Nat):Option Int->Nat
 | none=>d
 | some v=>if v < 0 then(v+(n:Int)).toNat else min v.toNat n
theorem zrn (n d:Nat):sIx n d none=d:=rfl
theorem zww (n d k:Nat):sIx n d (some (k:Int))=min k n:=by
 show(if(k:Int) < 0 then((k:Int)+(n:Int)).toNat else min (k:Int).toNat n)=min k n;rw[if_neg (by lia),xgo]
theorem zbif (n d:Nat)(hd:d<=n)(o:Option Int):sIx n d o<=n:=by
 cases o with
 | none=>exact hd
 | some v =>
  show(if v < 0 then(v+(n:Int)).toNat else min v.toNat n)<=n;by_cases hv:v < 0
  ·rw[if_pos hv];lia
  ·rw[if_neg hv];exact xhz _ _
theorem zxy (v:Int)(n d:Nat):(if v < 0 then max (v+(n:Int)) 0 else min v (n:Int))=((sIx n d (some v):Nat):Int):=by
 show(if v < 0 then max (v+(n:Int)) 0 else min v (n:Int))=(((if v < 0 then(v+(n:Int)).toNat else min v.toNat n):Nat):Int)
 by_cases hv:v < 0
 ·simp only[if_pos hv];lia
 ·simp only[if_neg hv];lia
theorem zuc (lo hi:Option Int)(n:Nat):Builtin.Slice.sliceAdjust lo hi 1 (n:Int)=(((sIx n 0 lo:Nat):Int),((sIx n n hi:Nat):Int)):=by
 have h1:¬ ((1:Int) < 0):=by lia
 unfold Builtin.Slice.sliceAdjust;simp only[h1,xfh];refine Prod.ext ?_ ?_
 ·cases lo with
  | none=>rfl
  | some v=>exact zxy v n 0
 ·cases hi with
  | none=>rfl
  | some v=>exact zxy v n n
theorem zsa (i j:Nat):Builtin.Slice.slicePlaces (i:Int) (j:Int) 1=j - i:=by
 unfold Builtin.Slice.slicePlaces;have h1:(1:Int) > 0:=by lia
 simp only[h1,xfw,Int.ediv_one];split<;>lia
theorem zlv {v:Value}{o:Option Int}{Q:Option Int->Shared->Prop}(p:IsPart v o)(h:Q o s):wpAny (model prog w) A (Builtin.Slice.slicePartIndex v) Q E s:=by
 cases p with
 | none=>exact slicePart_none h
 | int i t=>exact slicePart_int h
theorem zel {sl:Addr}{vl vu:Value}{lo hi:Option Int}{n:Nat}{Q:Int×Int×Nat->Shared->Prop}(hs:s.heap.IsSliceOf sl vl vu .none)(pl:IsPart vl lo)(pu:IsPart vu hi)
  (h:Q (((sIx n 0 lo:Nat):Int),1,sIx n n hi - sIx n 0 lo) s):wpAny (model prog w) A (Builtin.Slice.sliceApplied (.ref sl) (pure (n:Int))) Q E s:=by
 obtain⟨os,hos,hcs,hds⟩:=id hs;unfold Builtin.Slice.sliceApplied Builtin.Slice.sliceFields;refine xba (xba (xkc hos hds (x:=vl) rfl (xba (xkc hos hds (x:=vu) rfl (xba (xkc hos hds (x:=.none) rfl (xbk ?_)))))));refine xba (slicePart_none ?_);show wpAny _ _ (if((1:Int)==0)=true then _ else _) _ _ s;rw[if_neg (by decide)];refine xba (zlv pl (xba (zlv pu (xba (xbk ?_)))));show wpAny _ _ (match Builtin.Slice.sliceAdjust lo hi 1 (n:Int) with | (lo,hi)=>pure (lo,(1:Int),Builtin.Slice.slicePlaces lo hi 1)) _ _ s;rw[zuc lo hi n];show wpAny _ _ (pure (((sIx n 0 lo:Nat):Int),(1:Int),Builtin.Slice.slicePlaces ((sIx n 0 lo:Nat):Int) ((sIx n n hi:Nat):Int) 1)) _ _ s;rw[zsa];exact xbk h
theorem zyy (xs:Array Value)(i k:Nat):((List.range k).filterMap fun(m:Nat)=>xs[((i:Int)+(m:Int) * 1).toNat]?).toArray=((xs.toList.drop i).take k).toArray:=by
 have e:(fun(m:Nat)=>xs[((i:Int)+(m:Int) * 1).toNat]?)=fun m=>xs[i+m]?:=by
  funext m
  have:((i:Int)+(m:Int) * 1).toNat=i+m:=by lia
  rw[this]
 rw[e];have:=pick_run xs i k;rw[List.filterMap_map] at this;have e2:((fun x=>xs[x]?) ∘ fun x=>i+x)=fun m=>xs[i+m]?:=rfl
 rw[e2] at this;rw[this]
theorem zhh {t sl:Addr}{items:Array Value}{vl vu:Value}{lo hi:Option Int}{Q:Value->Shared->Prop}(ht:IsTup s.heap t items)(hs:s.heap.IsSliceOf sl vl vu .none)(pl:IsPart vl lo)(pu:IsPart vu hi)
  (hw:¬ (sIx items.size 0 lo=0/\sIx items.size items.size hi=items.size))
  (h:Q (.ref s.heap.objs.size) { s with heap:=s.heap.push { cls:=.type "tuple", data:=.seq ((items.toList.drop (sIx items.size 0 lo)).take (sIx items.size items.size hi - sIx items.size 0 lo)).toArray } })
  (hsz:items.size<=sizeLine):wpAny (model prog w) A (getItem (.ref t) (.ref sl)) Q E s:=by
 have htake:sizeOk (.seq ((items.toList.drop (sIx items.size 0 lo)).take (sIx items.size items.size hi - sIx items.size 0 lo)).toArray):=by
  show((items.toList.drop (sIx items.size 0 lo)).take (sIx items.size items.size hi - sIx items.size 0 lo)).toArray.size<=sizeLine;rw[xcc,xcx,xev,xby];lia
 have hj:sIx items.size items.size hi<=items.size:=zbif _ _ (xbf _) hi;obtain⟨os,hos,hcs,hds⟩:=id hs;have hTs:s.TypeIs (.ref sl) "slice":=⟨os, hos, hcs⟩
 unfold getItem
 try with_reducible refine xeq ?_
 first | refine xba (xbk ?_) | skip
 refine xba (wpAny_sequenceKey ht.typeIs (by decide) ?_)
 refine xba (wpAny_callSpecial?_slot (name:=Str.ofString "__getitem__") ht.typeIs xgy
  (xfn xgy ht.typeIs entry_tuple_getitem ?_ (args_tuple_getitem _ _)))
 show wpAny _ _ (Builtin.Tuple.tupleItemsOf (.ref t) >>= _) _ _ s;refine xba (tupleItemsOf_ ht ?_);refine xba (wpAny_typeOf hTs ?_);rw[if_pos (by decide)];refine xba (zel hs pl pu ?_);have hno:¬ ((((sIx items.size 0 lo:Nat):Int)==0&&(1:Int)==1&&(sIx items.size items.size hi - sIx items.size 0 lo)==items.size)=true):=by
  intro q;rw[xep,xep] at q;have q1:((sIx items.size 0 lo:Nat):Int)=0:=eq_of_beq q.1.1;have q2:sIx items.size items.size hi - sIx items.size 0 lo=items.size:=eq_of_beq q.2;exact hw ⟨by lia,by lia⟩
 show wpAny _ _ (if(((sIx items.size 0 lo:Nat):Int)==0&&(1:Int)==1&&(sIx items.size items.size hi - sIx items.size 0 lo)==items.size)=true then _ else _) _ _ s;rw[if_neg hno,zyy]
 first
  | exact xba (m:=Builtin.Tuple.tupleExact _) (xfi (xbk ⟨_,rfl,xbk h⟩) htake)
  | exact xba (m:=Builtin.Tuple.tupleExact _) (xfi (xba (xbk (xbk ⟨_,rfl,xbk h⟩))) htake)
  | exact xba (xba (m:=Builtin.Tuple.tupleExact _) (xfi (xbk (xbk ⟨_,rfl,xbk h⟩)) htake))
  | exact xba (xba (m:=Builtin.Tuple.tupleExact _) (xfi (xbk ⟨_,rfl,xbk h⟩) htake))
end
end HT
namespace L2
open PySem PySem.Spec PyProof.Rows
noncomputable abbrev TO:=St->Hp->(Option Int->Hp->Prop)->Prop
noncomputable def PO (X:Cx) (e:Option Expr) (t:TO):Prop :=
 ∀(aU:List (Addr×Obj)) (s:Shared) (σ:St) (H:Hp) (Q:Option Int->Hp->Prop),Inv X aU σ H s->t σ H Q ->
  wpAny (model X.prog X.w) X.A (evalPart e X.env) (fun u s'=>∃o H',Inv X aU σ H' s'/\IsPart u o/\Q o H') X.xe s
noncomputable def tNoPart:TO:=fun _ H Q=>Q none H
noncomputable def tPart (t:TE):TO:=fun σ H Q=>t σ H fun x H1=>∃i,x=.int i/\Q (some i) H1
theorem zgb {ns:List Int}:∀{us:List Value},Vals (ns.map V.int) us->IntsAre us ns:=by
 induction ns with
 | nil=>intro us r;rw[xkp] at r;cases r;exact .nil
 | cons n ns ih =>
  intro us r;rw[xbp] at r;cases r with
  | cons r1 r2 =>
   obtain⟨t,e⟩:=r1;subst e;exact .cons n t (ih r2)
section
variable {X:Cx}{e:Expr}{te:TE}{lo hi:Option Expr}{tl th:TO}{pos p2:Pos}
theorem zbdd:PO X none tNoPart:=by
 intro aU s σ H Q I h;rw[evalPart_none];exact xbk ⟨none,H,I,.none,h⟩
theorem zbdc (h:PE X e te):PO X (some e) (tPart te):=by
 intro aU s σ H Q I hw;rw[evalPart_some];refine thn (h aU s σ H _ I hw) fun u s1 hq0=>?_
 obtain⟨x,H1,I1,r1,q1⟩:=hq0;obtain⟨i,rfl,q⟩:=q1;obtain⟨t,rfl⟩:=r1;exact⟨some i,H1,I1,.int i t,q⟩
noncomputable def SlR (X:Cx) (r:V->Option Int->Option Int->Hp->VK->Prop):Prop :=
 ∀(aU:List (Addr×Obj)) (s:Shared) (σ:St) (H:Hp) (x:V) (v vl vu:Value) (lo hi:Option Int) (sl:Addr) (Q:VK),Inv X aU σ H s->RelV x v->s.heap.IsSliceOf sl vl vu .none->IsPart vl lo->IsPart vu hi->r x lo hi H Q ->
  ∃ T id, typeLookup (.type T) "__getitem__"=pure (some (.builtin id))/\s.TypeIs v T/\wpAny (model X.prog X.w) X.A (getItem v (.ref sl)) (EP X aU σ Q) X.xe s
theorem SlR.or {r r':V->Option Int->Option Int->Hp->VK->Prop}(h:SlR X r)(h':SlR X r'):SlR X (fun x lo hi H Q=>r x lo hi H Q\/r' x lo hi H Q):=by
 intro aU s σ H x v vl vu lo hi sl Q I rx hs pl pu q;rcases q with q | q
 ·exact h aU s σ H x v vl vu lo hi sl Q I rx hs pl pu q
 ·exact h' aU s σ H x v vl vu lo hi sl Q I rx hs pl pu q
noncomputable def tSl (r:V->Option Int->Option Int->Hp->VK->Prop) (te:TE) (tl th:TO):TE:=fun σ H Q=>te σ H fun x H1=>tl σ H1 fun l H2=>th σ H2 fun u H3=>r x l u H3 Q
theorem zzb {r:V->Option Int->Option Int->Hp->VK->Prop}(hr:SlR X r)(he:PE X e te)(hl:PO X lo tl)(hu:PO X hi th):PE X (.Subscript e (.Slice lo hi none p2) pos) (tSl r te tl th):=by
 intro aU s σ H Q I h;refine Subscript_ (thn (he aU s σ H _ I h) fun v s1 hq0=>?_);obtain⟨x,H1,I1,r1,q1⟩:=hq0;refine wpAny_Slice (thn (hl aU s1 σ H1 _ I1 q1) fun vl s2 ⟨l,H2,I2,pl,q2⟩=>thn (hu aU s2 σ H2 _ I2 q2) fun vu s3 hq0=>?_);obtain⟨u,H3,I3,pu,q3⟩:=hq0;rw[evalPart_none];refine xbk ?_;have I4:Inv X aU σ H3 { s3 with heap:=s3.heap.push { cls:=.type "slice", data:=.fields #[vl, vu, .none] } }:=I3.kept (t':=s3.toks) fun b ob q=>xbm _ q
 obtain⟨T, id, hT, ht, hg⟩:=hr aU { s3 with heap:=s3.heap.push { cls:=.type "slice", data:=.fields #[vl, vu, .none] } } σ H3 x v vl vu l u s3.heap.objs.size Q I4 r1 (Heap.IsSliceOf.new ..) pl pu q3
 show wpAny (model X.prog X.w) X.A (subscriptTail e (.Slice lo hi none p2) v (.ref s3.heap.objs.size)) (EP X aU σ Q) X.xe { s3 with heap:=s3.heap.push { cls:=.type "slice", data:=.fields #[vl, vu, .none] } }
 exact tail_any (ops:=[.ref s3.heap.objs.size,v]) ht hT hg (by with_unfolding_all rfl)
noncomputable def cutV (xs:List V) (lo hi:Option Int):List V:=(xs.drop (HT.sIx xs.length 0 lo)).take (HT.sIx xs.length xs.length hi - HT.sIx xs.length 0 lo)
theorem zkc (xs:List V)(lo hi:Option Int):(cutV xs lo hi).length<=xs.length:=by
 unfold cutV;rw[xcx,xev];lia
noncomputable def rSlT (K:Fg):V->Option Int->Option Int->Hp->VK->Prop:=fun x lo hi H Q=>∃a xs,x=.ref a/\SqT K H a xs /\
 ¬ (HT.sIx xs.length 0 lo=0/\HT.sIx xs.length xs.length hi=xs.length)/\∀p,H p=none->Q (.ref p) (upd H p (.tup (cutV xs lo hi)))
theorem zbhx:SlR X (rSlT X.K):=by
 intro aU s σ H x v vl vu lo hi sl Q I rx hs pl pu h;obtain⟨a,xs,rfl,hx,hw,q⟩:=h;cases rx;obtain⟨its,r,ht,hz⟩:=I.tuple hx;have hlen:its.toArray.size=xs.length:=by rw[xcc];exact r.length.symm
 refine⟨"tuple", _, xgy.lookup, ht.typeIs, ?_⟩
 refine HT.zhh ht hs pl pu (by rw[hlen];exact hw) ?_ (by rw[hlen];exact hz);rw[hlen];refine⟨.ref s.heap.objs.size,_,I.laid (t':=s.toks) (o:=.tup (cutV xs lo hi)) (fun b ob q=>xbm _ q) (xbf _) ?_,rfl,q _ (I.hok.fresh (xbf _))⟩;exact⟨xbb (zkc xs lo hi) hz,_,(r.drop (HT.sIx xs.length 0 lo)).take (HT.sIx xs.length xs.length hi - HT.sIx xs.length 0 lo),IsTup.new _ _⟩
noncomputable def rLtT (K:Fg):R2:=fun x y H Q=>∃a b ns ms,x=.ref a/\y=.ref b/\SqT K H a (ns.map V.int)/\SqT K H b (ms.map V.int)/\Q (.bl (HT.lexLt ns ms)) H
theorem zbjf (hu:X.A.units < cLine):OpR X (compareOp .Lt) (rLtT X.K):=by
 intro aU s σ H x y v u Q I rx ry h;obtain⟨a,b,ns,ms,rfl,rfl,ha,hb,q⟩:=h;cases rx;cases ry;obtain⟨its,r1,p1,_⟩:=I.tuple ha;obtain⟨its2,r2,p2,_⟩:=I.tuple hb;have i1:IntsAre its.toArray.toList ns:=zgb r1;have i2:IntsAre its2.toArray.toList ms:=zgb r2;exact HT.zmb p1 p2 i1 i2 hu ⟨.bl (HT.lexLt ns ms),H,I,rfl,q⟩
noncomputable def rCatT (K:Fg):R2:=fun x y H Q=>∃a b xs ys,x=.ref a/\y=.ref b/\SqT K H a xs/\SqT K H b ys/\xs≠[]/\xs.length+ys.length<=sizeLine /\
 (ys=[]->Q (.ref a) H)/\(ys≠[]->∀p,H p=none->Q (.ref p) (upd H p (.tup (xs++ys))))
theorem Vals.nil_iff {xs:List V}{us:List Value}(r:Vals xs us):us=[]↔xs=[]:=by
 cases r with
 | nil=>simp
 | cons _ _=>simp
theorem zbdu:OpR X (binaryOp .Add) (rCatT X.K):=by
 intro aU s σ H x y v u Q I rx ry h;obtain⟨a,b,xs,ys,rfl,rfl,ha,hb,hx,hz,q1,q2⟩:=h;cases rx;cases ry;obtain⟨its,r1,p1,_⟩:=I.tuple ha;obtain⟨its2,r2,p2,_⟩:=I.tuple hb;refine HT.zbgr p1 p2 (fun z=>hx (r1.nil_iff.mp z)) (fun z=>⟨.ref a,H,I,rfl,q1 (r2.nil_iff.mp z)⟩) (fun z=>?_) (by rw[← r1.length,← r2.length];exact hz);refine⟨.ref s.heap.objs.size,_,I.laid (t':=s.toks) (o:=.tup (xs++ys)) (fun b ob q=>xbm _ q) (xbf _) ?_,rfl,q2 (fun w=>z (r2.nil_iff.mpr w)) _ (I.hok.fresh (xbf _))⟩;exact⟨by rw[xbq];exact hz,_,r1.append r2,IsTup.new _ _⟩
end
noncomputable def ixN (n:Nat) (i:Int):Option Nat:=if 0<=i then(if i < n then some i.toNat else none) else if -(n:Int)<=i then some (i+n).toNat else none
noncomputable def atI {α:Type} (xs:List α) (i:Int):Option α:=(ixN xs.length i).bind fun j=>xs[j]?
theorem zxo {n:Nat}{i:Int}{j:Nat}(h:ixN n i=some j):seqIndex? i n=some j/\j < n/\-(n:Int)<=i/\i < n:=by
 unfold ixN at h;by_cases h0:0<=i
 ·rw[if_pos h0] at h;by_cases h1:i < n
  ·rw[if_pos h1] at h;have e:i.toNat=j:=xcl h;exact⟨by rw[seqIndex_of h0 h1,e],by lia,by lia,h1⟩
  ·rw[if_neg h1] at h;cases h
 ·rw[if_neg h0] at h;by_cases h1:-(n:Int)<=i
  ·rw[if_pos h1] at h;have e:(i+n).toNat=j:=xcl h;exact⟨by rw[seqIndex_neg (by lia) h1,e],by lia,h1,by lia⟩
  ·rw[if_neg h1] at h;cases h
theorem ztw {α:Type}{xs:List α}{i:Int}{v:α}(h:atI xs i=some v):∃j,seqIndex? i xs.length=some j/\xs[j]?=some v/\j < xs.length/\-(xs.length:Int)<=i/\i < xs.length:=by
 unfold atI at h;cases e:ixN xs.length i with
 | none=>rw[e] at h;cases h
 | some j =>
  rw[e] at h;obtain⟨h1,h2,h3,h4⟩:=zxo e;exact⟨j,h1,h,h2,h3,h4⟩
theorem ztv {α:Type}{xs:List α}{j:Nat}{v:α}(h:xs[j]?=some v):atI xs (j:Int)=some v:=by
 have hj:j < xs.length:=(xbc.mp h).1;have e:ixN xs.length (j:Int)=some j:=by
  unfold ixN;rw[if_pos (by lia),if_pos (by lia)];simp
 unfold atI;rw[e];exact h
noncomputable def PlainIx (b:Expr):Prop:=∀o i,subscripted b false o i=operate [o,i] (getItem o i)
noncomputable def IxR (X:Cx) (r:R2):Prop :=
 ∀(value slice:Expr) (aU:List (Addr×Obj)) (s:Shared) (σ:St) (H:Hp) (x y:V) (v u:Value) (Q:VK),Inv X aU σ H s->RelV x v->RelV y u->r x y H Q ->
  subscripted slice false v u=operate [v,u] (getItem v u)->wpAny (model X.prog X.w) X.A (subscriptTail value slice v u) (EP X aU σ Q) X.xe s
noncomputable def MtR (X:Cx) (id:String) (r:V->List V->Hp->VK->Prop):Prop :=
 ∀(aU:List (Addr×Obj)) (s:Shared) (σ:St) (H:Hp) (x:V) (xs:List V) (v:Value) (us:List Value) (Q:VK),Inv X aU σ H s->RelV x v->Vals xs us->r x xs H Q ->
  wpAny (model X.prog X.w) X.A (call (.builtin id) (v::us)) (EP X aU σ Q) X.xe s
section
variable {X:Cx}{a b:Expr}{ta tb:TE}{pos:Pos}
theorem IxR.or {r r':R2}(h:IxR X r)(h':IxR X r'):IxR X (fun x y H Q=>r x y H Q\/r' x y H Q):=by
 intro value slice aU s σ H x y v u Q I rx ry q hs;rcases q with q | q
 ·exact h value slice aU s σ H x y v u Q I rx ry q hs
 ·exact h' value slice aU s σ H x y v u Q I rx ry q hs
theorem zbmw {r:R2}(hr:IxR X r)(ha:PE X a ta)(hb:PE X b tb)(hs:PlainIx b):PE X (.Subscript a b pos) (tOp r ta tb):=by
 intro aU s σ H Q I h;exact Subscript_ (binT ha hb I h fun v u s2 x y H2 I2 rx ry q=>hr a b aU s2 σ H2 x y v u Q I2 rx ry q (hs _ _))
noncomputable def rIxL (K:Fg):R2:=fun x y H Q=>∃p xs i v,x=.ref p/\y=.int i/\SqL K H p xs/\atI xs i=some v/\Q v H
noncomputable def rIxT (K:Fg):R2:=fun x y H Q=>∃p xs i v,x=.ref p/\y=.int i/\SqT K H p xs/\atI xs i=some v/\Q v H
noncomputable def rIxS:R2:=fun x y H Q=>∃z i c,x=.str z/\y=.int i/\z.length<=sizeLine/\atI z.cps.toList i=some c/\Q (.str ⟨#[c]⟩) H
theorem zbey:IxR X (rIxL X.K):=by
 intro value slice aU s σ H x y v u Q I rx ry h hs;obtain⟨p,xs,i,z,rfl,rfl,hq,he,q⟩:=h;cases rx;obtain⟨t,rfl⟩:=ry;obtain⟨its,r,pl,hz⟩:=I.list hq;obtain⟨j,h1,h2,h3,h4,h5⟩:=ztw he;obtain⟨w,ew,rw'⟩:=r.get h2;have hl:=r.length;have hn:=line63;have fin:EP X aU σ Q w s:=⟨z,H,I,rw',q⟩
 by_cases h0:0<=i
 ·have hj:i.toNat=j:=by
   rw[seqIndex_of h0 h5] at h1;exact xcl h1
  exact item_listR pl.isList h0 (by lia) (by rw[hj];simpa using ew) fin hs
 ·have hj:(i+(its.toArray.size:Int)).toNat=j:=by
   rw[seqIndex_neg (by lia) h4] at h1;rw[xcc,← hl];exact xcl h1
  exact subscriptTail_builtinR (x:=w) pl.isList.typeIs slot_list_getitem.lookup
   (wpAny_getItem_list_neg (Q:=fun r s'=>r=w/\EP X aU σ Q r s') pl.isList (by lia) (by rw[xcc]<;>lia) (by lia) (by rw[hj];simpa using ew) ⟨rfl,fin⟩) hs
theorem zbjw:IxR X (rIxT X.K):=by
 intro value slice aU s σ H x y v u Q I rx ry h hs;obtain⟨p,xs,i,z,rfl,rfl,hq,he,q⟩:=h;cases rx;obtain⟨t,rfl⟩:=ry;obtain⟨its,r,pl,hz⟩:=I.tuple hq;obtain⟨j,h1,h2,h3,h4,h5⟩:=ztw he;obtain⟨w,ew,rw'⟩:=r.get h2;have hl:=r.length;have hn:=line63;have fin:EP X aU σ Q w s:=⟨z,H,I,rw',q⟩
 exact subscriptTail_builtinR (x:=w) pl.typeIs xiu.lookup
  (getItem_tuple (j:=j) (Q:=fun r s'=>r=w/\EP X aU σ Q r s') pl (by lia) (by lia) (by rw[xcc,← hl];exact h1) (by simpa using ew) ⟨rfl,fin⟩) hs
theorem zbjx:IxR X rIxS:=by
 intro value slice aU s σ H x y v u Q I rx ry h hs;obtain⟨z,i,c,rfl,rfl,hz,he,q⟩:=h;obtain⟨t,rfl⟩:=rx;obtain⟨t',rfl⟩:=ry;obtain⟨j,h1,h2,h3,h4,h5⟩:=ztw he;have hl:z.cps.toList.length=z.length:=by simp[Str.length]
 rw[hl] at h1 h4 h5;have hn:=line63
 exact tail_any (typeIs_str s z t) slot_str_getitem.lookup (getItem_str (c:=c) (by
  have e1:decide (i < -(2 ^ 63:Int))=false:=xbu (by lia);have e2:decide (i ≥ 2 ^ 63)=false:=xbu (by lia)
  rw[e1,e2,Bool.or_false]) (by rw[h1];simpa using h2) ⟨.str ⟨#[c]⟩,H,I.tok _,⟨_,rfl⟩,q⟩) hs
noncomputable def rIx (K:Fg):R2:=fun x y H Q=>rIxL K x y H Q\/rIxT K x y H Q\/rIxS x y H Q
theorem zbjy:IxR X (rIx X.K):=zbey.or (zbjw.or zbjx)
theorem zsr (its:List Value)(n j:Nat)(u:Value):Obj.mapSeq (·.setIfInBounds j u) { cls:=.type "list", data:=.seq its.toArray n }={ cls:=.type "list", data:=.seq (its.set j u).toArray n }:=by
 simp[Obj.mapSeq]
theorem Inv.lst {aU:List (Addr×Obj)}{σ:St}{H:Hp}{s:Shared}{p:Addr}{xs:List V}(I:Inv X aU σ H s)(h:H p=some (.lst xs)) :
  ∃(its:List Value) (n:Nat), Vals xs its/\s.heap.get? p=some { cls:=.type "list", data:=.seq its.toArray n }/\xs.length<=sizeLine:=by
 obtain⟨z,its,n,r,e⟩:=I.hok p _ h;exact⟨its,n,r,e,z⟩
theorem Inv.lstUpd {aU:List (Addr×Obj)}{σ:St}{H:Hp}{s:Shared}{p:Addr}{xs ys:List V}{its its':List Value}{n n':Nat}{f:Obj->Obj}(I:Inv X aU σ H s)(h:H p=some (.lst xs))
  (ho:s.heap.get? p=some { cls:=.type "list", data:=.seq its.toArray n })(hf:f { cls:=.type "list", data:=.seq its.toArray n }={ cls:=.type "list", data:=.seq its'.toArray n' })(r:Vals ys its')(hz:ys.length<=sizeLine)(t:Nat) :
  Inv X aU σ (upd H p (.lst ys)) {s with heap:=s.heap.update p f,toks:=t}:=by
 have e:(s.heap.update p f).get? p=some { cls:=.type "list", data:=.seq its'.toArray n' }:=by
  rw[xht f ho (by rw[hf]<;>rfl),hf]
 refine I.write (x:=p) (e:=p) (by rw[h];trivial) (.inl rfl) (fun b u hb q=>(Heap.get?_update_other _ _ (xdv hb)).trans q) ⟨_,e⟩ ?_;exact⟨hz,its',n',r,e⟩
noncomputable def rSetL:V->V->V->Hp->(Hp->Prop)->Prop:=fun o i v H Q=>∃p xs k j,o=.ref p/\i=.int k/\H p=some (.lst xs)/\ixN xs.length k=some j/\Q (upd H p (.lst (xs.set j v)))
theorem zym:PSet X rSetL:=by
 intro aU s σ H o i v ov iv u Q I ro ri rv h;obtain⟨p,xs,k,j,rfl,rfl,hp,hj,q⟩:=h;cases ro;obtain⟨t,rfl⟩:=ri;obtain⟨its,n,r,ho,hz⟩:=I.lst hp;obtain⟨h1,h2,h3,h4⟩:=zxo hj;have hl:=r.length;have hn:=line63;have I':Inv X aU σ (upd H p (.lst (xs.set j v))) {s with heap:=s.heap.update p (Obj.mapSeq (·.setIfInBounds j u))} :=
  I.lstUpd hp ho (zsr its n j u) (r.set rv j) (by rw[xcp];exact hz) s.toks
 by_cases h0:0<=k
 ·have hk:k.toNat=j:=by
   rw[seqIndex_of h0 h4] at h1;exact xcl h1
  exact W.ki_setAt ho h0 (by lia) (by rw[xcc,← hl];exact h4) (by rw[hk];exact⟨_,I',q⟩)
 ·have hk:(k+(its.toArray.size:Int)).toNat=j:=by
   rw[seqIndex_neg (by lia) h3] at h1;rw[xcc,← hl];exact xcl h1
  exact W.ki_setBack ho (by lia) (by rw[xcc,← hl];exact h3) (by lia) (by rw[hk];exact⟨_,I',q⟩)
theorem zmw (lo hi:Option Int)(n:Nat):(sliceBounds lo hi none n).1=((HT.sIx n 0 lo:Nat):Int)/\(sliceBounds lo hi none n).2.1=((HT.sIx n n hi:Nat):Int)/\(sliceBounds lo hi none n).2.2=1:=by
 refine⟨?_,?_,rfl⟩
 ·cases lo with
  | none=>simp[sliceBounds,HT.sIx]
  | some i =>
   simp only[sliceBounds,HT.sIx,Option.getD_none,show(1:Int) > 0 by decide,xfw];by_cases h:i < 0
   ·simp only[h,xfw]<;>lia
   ·simp only[h,xfh]<;>lia
 ·cases hi with
  | none=>simp[sliceBounds,HT.sIx]
  | some i =>
   simp only[sliceBounds,HT.sIx,Option.getD_none,show(1:Int) > 0 by decide,xfw];by_cases h:i < 0
   ·simp only[h,xfw]<;>lia
   ·simp only[h,xfh]<;>lia
theorem zlu (its:List Value)(lo hi:Option Int):slicePick its.toArray lo hi none=((its.drop (HT.sIx its.length 0 lo)).take (HT.sIx its.length its.length hi - HT.sIx its.length 0 lo)).toArray:=by
 obtain⟨h1,h2,h3⟩:=zmw lo hi its.toArray.size;unfold slicePick;rw[h1,h2,h3];simp only[sliceRange_one,pick_run,xcc]<;>rfl
noncomputable def rSlL (K:Fg):V->Option Int->Option Int->Hp->VK->Prop:=fun x lo hi H Q=>∃a xs,x=.ref a/\SqL K H a xs/\∀p,H p=none->Q (.ref p) (upd H p (.lst (cutV xs lo hi)))
theorem zbcq:SlR X (rSlL X.K):=by
 intro aU s σ H x v vl vu lo hi sl Q I rx hs pl pu h;obtain⟨a,xs,rfl,hx,q⟩:=h;cases rx;obtain⟨its,r,ht,hz⟩:=I.list hx;have hlen:=r.length;refine⟨"list", _, slot_list_getitem.lookup, ht.isList.typeIs, ?_⟩
 refine wpAny_getItem_list_slice ht.isList hs pl pu .none (by simp) ?_ (by rw[xcc]<;>lia);rw[zlu,← hlen];refine⟨.ref s.heap.objs.size,_,I.laid (t':=s.toks) (o:=.lst (cutV xs lo hi)) (fun b ob q=>xbm _ q) (xbf _) ?_,rfl,q _ (I.hok.fresh (xbf _))⟩;exact⟨xbb (zkc xs lo hi) hz,_,0,(r.drop (HT.sIx xs.length 0 lo)).take (HT.sIx xs.length xs.length hi - HT.sIx xs.length 0 lo),xch _ rfl⟩
theorem zbd:CallR X (.builtin "len") (fun xs H Q=>∃ p ys, xs=[.ref p]/\(SqL X.K H p ys\/SqT X.K H p ys)/\Q (.int ys.length) H):=by
 intro aU s σ H xs us Q I r h;obtain⟨p,ys,rfl,hq,q⟩:=h;obtain⟨u,rfl,rx⟩:=vals1 r;cases rx;have hn:=line63;rcases hq with hq | hq
 ·obtain⟨its,r',pl,hz⟩:=I.list hq;have hlen:=r'.length;exact Calls.call_len_list pl.isList (by simp only[xcc]<;>lia) ⟨.int ys.length,H,I.tok _,⟨s.toks+1,by rw[xcc,hlen]⟩,q⟩
 ·obtain⟨its,r',pl,hz⟩:=I.tuple hq;have hlen:=r'.length;exact len_tuple pl (by simp only[xcc]<;>lia) ⟨.int ys.length,H,I.tok _,⟨s.toks+1,by rw[xcc,hlen]⟩,q⟩
theorem CallR.or {f:Value}{r r':List V->Hp->VK->Prop}(h:CallR X f r)(h':CallR X f r'):CallR X f (fun xs H Q=>r xs H Q\/r' xs H Q):=by
 intro aU s σ H xs us Q I rs q;rcases q with q | q
 ·exact h aU s σ H xs us Q I rs q
 ·exact h' aU s σ H xs us Q I rs q
theorem zbn:CallR X (.type "tuple") (fun xs H Q=>∃ p ys, xs=[.ref p]/\((SqL X.K H p ys/\∀ l, H l=none->Q (.ref l) (upd H l (.tup ys)))\/(SqT X.K H p ys/\Q (.ref p) H))):=by
 intro aU s σ H xs us Q I r h;obtain⟨p,ys,rfl,h⟩:=h;obtain⟨u,rfl,rx⟩:=vals1 r;cases rx;rcases h with⟨hq,q⟩ | ⟨hq,q⟩
 ·obtain⟨its,r',pl,hz⟩:=I.list hq;have hlen:=r'.length;refine call_tuple_list pl.isList (fun h' kp=>?_) (by simp only[xcc]<;>lia);have I1:Inv X aU σ H {s with heap:=h'}:=I.kept (t':=s.toks) kp;have I2:Inv X aU σ (upd H h'.objs.size (.tup ys)) { s with heap:=h'.push { cls:=.type "tuple", data:=.seq its.toArray } } :=
   I1.laid (t':=s.toks) (fun b o e=>xbm _ e) (xbf _) (show ObjOk X.prog X.w _ _ _ (.tup ys) from⟨hz,its,r',IsTup.new _ _⟩)
  exact⟨.ref h'.objs.size,_,I2,rfl,q _ (I1.hok.fresh (xbf _))⟩
 ·obtain⟨its,r',pl,hz⟩:=I.tuple hq;exact call_tuple_same pl ⟨.ref p,H,I,rfl,q⟩
noncomputable def tyV (K:Fg) (T:String) (x:V) (H:Hp):Prop:=match x with
 | .str _=>T="str"
 | .int _=>T="int"
 | .ref p=>(T="list"/\∃ xs, SqL K H p xs)\/(T="tuple"/\∃ o, K.lookup p=some o/\o.cls=.type "tuple"/\o.dict=none) \/
  (T="dict"/\((∃ kvs, H p=some (.dK kvs))\/∃ kvs, H p=some (.dT kvs)))\/(T="set"/\∃ S n, H p=some (.set S n))
 | _=>False
theorem zbhu {aU:List (Addr×Obj)}{σ:St}{H:Hp}{s:Shared}{T:String}{x:V}{v:Value}(I:Inv X aU σ H s)(r:RelV x v)(ty:tyV X.K T x H) :
  s.TypeIs v T/\∀a,v=.ref a->∃ob,s.heap.get? a=some ob/\ob.dict=none:=by
 cases x with
 | str z =>
  obtain⟨t,rfl⟩:=r;cases(show T="str" from ty)
  exact⟨typeIs_str s z t,fun _ e=>nomatch e⟩
 | int i =>
  obtain⟨t,rfl⟩:=r;cases(show T="int" from ty)
  exact⟨typeIs_int s i t,fun _ e=>nomatch e⟩
 | ref p =>
  cases r;rcases ty with⟨rfl,xs,hq⟩ | ⟨rfl,o,hk,hc,hd⟩ | ⟨rfl,hk⟩ | ⟨rfl,S,n,hk⟩
  ·obtain⟨its,_,pl,_⟩:=I.list hq;refine⟨pl.isList.typeIs,fun a e=>?_⟩;cases e;obtain⟨o,n,e,c,hd,_⟩:=pl;exact⟨o,e,hd⟩
  ·refine⟨⟨o,I.kIn p o hk,hc⟩,fun a e=>?_⟩;cases e;exact⟨o,I.kIn _ o hk,hd⟩
  ·have z:∃o,s.heap.get? p=some o/\o.ExactDict:=by
    rcases hk with⟨kvs,hk⟩ | ⟨kvs,hk⟩
    ·obtain⟨_,_,_,_,o,_,_,e,ex,_⟩:=I.hok p _ hk;exact⟨o,e,ex⟩
    ·obtain⟨_,_,_,_,o,_,_,e,ex,_⟩:=I.hok p _ hk;exact⟨o,e,ex⟩
   obtain⟨o,e,ex⟩:=z;refine⟨⟨o,e,ex.1⟩,fun a e2=>?_⟩;cases e2;exact⟨o,e,ex.2.1⟩
  ·obtain⟨o,_,_,_,e,ex,_⟩:=I.hok p _ hk;refine⟨⟨o,e,ex.1⟩,fun a e2=>?_⟩;cases e2;exact⟨o,e,ex.2.1⟩
 | _=>exact False.elim ty
noncomputable def tBM (K:Fg) (T:String) (r:V->List V->Hp->VK->Prop) (to:TE) (t:TA):TE:=fun σ H Q=>to σ H fun x H1=>tyV K T x H1/\t σ H1 fun xs H2=>r x xs H2 Q
variable {o e:Expr}{es:List Expr}{to:TE}{t:TA}{name:Str}{apos cpos:Pos}{T id:String}{r:V->List V->Hp->VK->Prop}
theorem zbiy (pa:PlainAttrs T)(slot:Slot T name id)(hty:typeOf (.builtin id)=pure (.type "method_descriptor"))(hm:MtR X id r)(ho:PE X o to)(ha:PA X (e::es) t)
  (hbase:attributeBase o name X.env (eval o X.env)=eval o X.env:=by rfl)
  (hfew:((backTo cpos (starEach (e::es) X.env)).all (fun x=>!x.1)&&(backToKw cpos (keywordEach [] X.env)).all (fun x=>x.1.isSome)
   && decide ((e::es).length+([]:List Keyword).length+(if([]:List Keyword).isEmpty then 0 else 1) < 30))=true:=by rfl)
  (hline:(apos.endLine==cpos.line)=true:=by rfl)(hs:starEach (e::es) X.env=(false,eval e X.env)::starEach es X.env:=by rfl)(hplain:(backTo cpos (starEach es X.env)).any (·.1)=false:=by rfl) :
  PE X (.Call (.Attribute o name apos) (e::es) [] cpos) (tBM X.K T r to t):=by
 intro aU s σ H Q I h;refine wpAny_Call_method_late hbase hfew hline rfl (thn (ho aU s σ H _ I h) fun v s1 hq0=>?_);obtain⟨x,H1,I1,r1,ty,q1⟩:=hq0;obtain⟨h1,h2⟩:=zbhu I1 r1 ty;refine⟨T,id,pa,slot,hty,h1,h2,?_⟩;have hA:=ha cpos aU s1 σ H1 _ I1 q1;rw[hs] at hA ⊢;refine xjh (by show(false||(backTo cpos (starEach es X.env)).any (·.1))=false;rw[hplain]<;>rfl) (xjp ?_);exact thn hA fun us s2 ⟨vs,H2,I2,r2,q2⟩=>hm aU s2 σ H2 x vs v us Q I2 r1 r2 q2
/- xs.append(e),list.index on a module's tuple .. are MtR facts of 06m -/
end
noncomputable def MtM (X:Cx) (id:String) (r:V->List V->Hp->VK->Prop):Prop :=
 ∀(aU:List (Addr×Obj)) (s:Shared) (σ:St) (H:Hp) (x:V) (xs:List V) (v:Value) (us:List Value) (Q:VK),Inv X aU σ H s->RelV x v->Vals xs us->r x xs H Q ->
  wpAny (model X.prog X.w) X.A (call (.builtin id) (v::us)) (EP X aU σ Q) X.xe s
theorem Vals.one:∀{x:V} {us:List Value},Vals [x] us->∃u,us=[u]/\RelV x u
 | _,_,.cons r .nil=>⟨_,rfl,r⟩
section
variable {X:Cx}{aU:List (Addr×Obj)}{σ:St}{H:Hp}{s:Shared}{l b:Addr}{xs ys zs:List V}
theorem Inv.lset {its its':List Value}{n:Nat}{f:Array Value->Array Value}{t':Nat}(I:Inv X aU σ H s)(hH:H l=some (.lst xs))
  (e:s.heap.get? l=some { cls:=.type "list", data:=.seq its.toArray n })(hf:f its.toArray=its'.toArray)(hv:Vals ys its')(hz:ys.length<=sizeLine) :
  Inv X aU σ (upd H l (.lst ys)) {s with heap:=s.heap.update l (Obj.mapSeq f),toks:=t'}:=by
 have q:=PySem.IsL.update e f;rw[hf] at q;refine I.write (x:=l) (e:=l) (by rw[hH];exact trivial) (.inl rfl) (fun b' u hb hu=>(Heap.get?_update_other s.heap (Obj.mapSeq f) (xdv hb)).trans hu) ⟨_,q⟩ ?_;exact⟨hz,its',_,hv,q⟩
theorem Inv.lnew {its:List Value}{t':Nat}(I:Inv X aU σ H s)(hv:Vals ys its)(hz:ys.length<=sizeLine) :
  Inv X aU σ (upd H s.heap.objs.size (.lst ys)) { s with heap:=s.heap.push { cls:=.type "list", data:=.seq its.toArray }, toks:=t' } :=
 I.laid (fun _ _ q=>xbm _ q) (xbf _) ⟨hz,its,0,hv,xch _ rfl⟩
theorem Inv.fresh (I:Inv X aU σ H s):H s.heap.objs.size=none:=I.hok.fresh (xbf _)
theorem Inv.lstM (I:Inv X aU σ H s)(hH:H l=some (.lst xs)):xs.length<=sizeLine/\∃(its:List Value) (n:Nat), Vals xs its/\xs.length=its.length/\s.heap.get? l=some { cls:=.type "list", data:=.seq its.toArray n }:=by
 obtain⟨z,its,n,r,e⟩:=I.hok l _ hH;exact⟨z,its,n,r,r.length,e⟩
end
section
variable {X:Cx}
noncomputable def rAppend:V->List V->Hp->VK->Prop:=fun x vs H Q=>∃l xs y,x=.ref l/\vs=[y]/\H l=some (.lst xs)/\xs.length < sizeLine/\Q .non (upd H l (.lst (xs++[y])))
theorem zov:MtM X "list.append" rAppend:=by
 intro aU s σ H x vs v us Q I rx rv h;obtain⟨l,xs,y,rfl,rfl,hH,hz,q⟩:=h;cases rx;obtain⟨u,rfl,ru⟩:=rv.one;obtain⟨z,its,n,r,hl,e⟩:=I.lstM hH;refine call_meets F.slot_list_append ⟨_,e,rfl⟩ F.entry_list_append (F.args_list_append_2 _ _) (PySem.list_append l its.toArray n u (by rw[xcc];lia)) ⟨e,?_⟩;refine⟨.non,_,I.lset (its':=its++[u]) hH e (by simp) (r.append (.cons ru .nil)) ?_,rfl,q⟩;rw[xbq,xgh];lia
noncomputable def rCat:R2:=fun x y H Q=>∃l b xs zs,x=.ref l/\y=.ref b/\H l=some (.lst xs)/\H b=some (.lst zs)/\xs.length+zs.length<=sizeLine/\∀p,H p=none->Q (.ref p) (upd H p (.lst (xs++zs)))
theorem zbjg:OpR X (binaryOp .Add) rCat:=by
 intro aU s σ H x y v u Q I rx ry h;obtain⟨l,b,xs,zs,rfl,rfl,hH,hB,hz,q⟩:=h;cases rx;cases ry;obtain⟨z,its,n,r,hl,e⟩:=I.lstM hH;obtain⟨z2,its2,n2,r2,hl2,e2⟩:=I.lstM hB;refine PySem.P.add_list e e2 ?_ (by rw[xcc,xcc];lia);have ea:its.toArray++its2.toArray=(its++its2).toArray:=by simp
 rw[ea];exact⟨.ref _,_,I.lnew (t':=s.toks) (r.append r2) (by rw[xbq];lia),rfl,q _ I.fresh⟩
end
section
variable {prog:Program}{w:World}{A:Around}{E:Value->Shared->Prop}{s:Shared}
end
section
variable {X:Cx}
end
section
variable {κ:Type}[DecidableEq κ]
noncomputable def valV (kvs:List (κ×V)) (k:κ):Option V:=(kvs.find? fun kv=>decide (kv.1=k)).map (·.2)
noncomputable def putK (kvs:List (κ×V)) (k:κ) (v:V):List (κ×V) :=
 if(kvs.any fun kv=>decide (kv.1=k))=true then kvs.map (fun kv=>if kv.1=k then(kv.1,v) else kv) else kvs++[(k,v)]
noncomputable def dropK (kvs:List (κ×V)) (k:κ):List (κ×V):=kvs.filter fun kv=>decide (kv.1≠k)
theorem zhm {p:κ×V}{r:List (κ×V)}{k:κ}(e:p.1=k):valV (p::r) k=some p.2:=by simp[valV,xed,e]
theorem zhn {p:κ×V}{r:List (κ×V)}{k:κ}(e:¬ p.1=k):valV (p::r) k=valV r k:=by simp[valV,xed,e]
theorem zra (k:κ):∀kvs:List (κ×V),(kvs.any fun kv=>decide (kv.1=k))=(valV kvs k).isSome
 | []=>rfl
 | p::r=>by
  rw[xhe];by_cases e:p.1=k
  ·simp only[zhm e,xbw e,Bool.true_or,Option.isSome_some]
  ·rw[zhn e,xbu e,Bool.false_or];exact zra k r
theorem zgz (kvs:List (κ×V))(k:κ)(v:V):(putK kvs k v).length<=kvs.length+1:=by
 unfold putK;split
 ·rw[xbd];lia
 ·rw[xbq,xbv,xhh];lia
theorem RelO.isSome_eq {o:Option V}{u:Option Value}(r:RelO o u):o.isSome=u.isSome:=by
 cases o with
 | none=>cases u with
  | none=>rfl
  | some _=>exact(show False from r).elim
 | some _=>cases u with
  | none=>exact(show False from r).elim
  | some _=>rfl
theorem RelO.getD {o:Option V}{u:Option Value}{d:V}{d':Value}(r:RelO o u)(rd:RelV d d'):RelV (o.getD d) (u.getD d'):=by
 cases o with
 | none=>cases u with
  | none=>exact rd
  | some _=>exact(show False from r).elim
 | some _=>cases u with
  | none=>exact(show False from r).elim
  | some _=>exact r
theorem KV.val {kvs:List (κ×V)}{vs:List (κ×Value)}(r:KV kvs vs)(k:κ):RelO (valV kvs k) (valueAt vs k):=by
 unfold KV at r
 induction r with
 | nil=>exact True.intro
 | @cons p q ps qs h t ih =>
  obtain⟨h1,h2⟩:=h;by_cases e:p.1=k
  ·have e':q.1=k:=h1.symm.trans e;have b:valueAt (q::qs) k=some q.2:=by simp[valueAt,xed,e']
   rw[zhm e,b];exact h2
  ·have e':¬ q.1=k:=fun z=>e (h1.trans z)
   have b:valueAt (q::qs) k=valueAt qs k:=by simp[valueAt,xed,e']
   rw[zhn e,b];exact ih
theorem KV.any {kvs:List (κ×V)}{vs:List (κ×Value)}(r:KV kvs vs)(k:κ):(kvs.any fun kv=>decide (kv.1=k))=vs.any fun kv=>decide (kv.1=k):=by
 unfold KV at r
 induction r with
 | nil=>rfl
 | cons h t ih=>rw[xhe,xhe,ih,h.1]
theorem KV.repl {kvs:List (κ×V)}{vs:List (κ×Value)}(r:KV kvs vs)(k:κ){y:V}{u:Value}(ry:RelV y u) :
  KV (kvs.map fun kv=>if kv.1=k then(kv.1,y) else kv) (vs.map fun kv=>if kv.1=k then(kv.1,u) else kv):=by
 unfold KV at r ⊢
 induction r with
 | nil=>exact .nil
 | @cons p q ps qs h t ih =>
  rw[xbp,xbp];refine .cons ?_ ih;obtain⟨h1,h2⟩:=h;by_cases e:p.1=k
  ·rw[if_pos e,if_pos (h1.symm.trans e)];exact⟨h1,ry⟩
  ·rw[if_neg e,if_neg (fun z=>e (h1.trans z))];exact⟨h1,h2⟩
theorem KV.put {kvs:List (κ×V)}{vs:List (κ×Value)}(r:KV kvs vs)(k:κ){y:V}{u:Value}(ry:RelV y u):KV (putK kvs k y) (stored vs k u):=by
 unfold putK stored;rw[r.any k];by_cases e:(vs.any fun kv=>decide (kv.1=k))=true
 ·rw[if_pos e,if_pos e];exact r.repl k ry
 ·rw[if_neg e,if_neg e];exact Paired.snoc r ⟨rfl,ry⟩
theorem KV.drop {kvs:List (κ×V)}{vs:List (κ×Value)}(r:KV kvs vs)(k:κ):KV (dropK kvs k) (without vs k):=by
 unfold KV at r ⊢;unfold dropK without
 induction r with
 | nil=>exact .nil
 | @cons p q ps qs h t ih =>
  obtain⟨h1,h2⟩:=h;rw[xfl,xfl];by_cases e:p.1=k
  ·have a:¬ decide (p.1≠k)=true:=by simp[e]
   have b:¬ decide (q.1≠k)=true:=by simp[h1.symm.trans e]
   rw[if_neg a,if_neg b];exact ih
  ·have e':¬ q.1=k:=fun z=>e (h1.trans z)
   have a:decide (p.1≠k)=true:=by simp[e]
   have b:decide (q.1≠k)=true:=by simp[e']
   rw[if_pos a,if_pos b];exact .cons ⟨h1,h2⟩ ih
theorem KV.keys {kvs:List (κ×V)}{vs:List (κ×Value)}(r:KV kvs vs):kvs.map (·.1)=vs.map (·.1):=by
 unfold KV at r
 induction r with
 | nil=>rfl
 | cons h t ih=>rw[xbp,xbp,ih,h.1]
theorem KV.length {kvs:List (κ×V)}{vs:List (κ×Value)}(r:KV kvs vs):kvs.length=vs.length:=xhd r
theorem zbar (kvs:List (κ×V))(k:κ):(dropK kvs k).length<=kvs.length:=xeu _ _
end
theorem zzy {P:Program}{w:World}{k:Key}{u:Value}(r:RelV (kV k) u):(mixKind P w).is k u=true:=by
 cases k with
 | inl i=>obtain⟨t,e⟩:=(show ∃t,u=Value.int i t from r);subst e;exact zqo P w i t
 | inr x=>obtain⟨t,e⟩:=(show ∃t,u=Value.str x t from r);subst e;exact zqn P w x t
theorem zpa {P:Program}{w:World}:∀{ks:List Key} {us:List Value},Vals (ks.map kV) us->ItemsAre (mixKind P w) ks us
 | [],_,r=>by rw[xkp] at r;cases r;exact .nil
 | k::ks,_,r=>by
  rw[xbp] at r;cases r with
  | cons h t=>exact .cons (zzy h) (zpa t)
noncomputable abbrev KT (H:Hp):List (List Key×V)->List (List Key×Addr×Value)->Prop:=Paired fun p q=>p.1=q.1/\H q.2.1=some (.tup (p.1.map kV))/\RelV p.2 q.2.2
theorem KT.val {H:Hp}{kvs:List (List Key×V)}{xs:List (List Key×Addr×Value)}(r:KT H kvs xs)(k:List Key):RelO (valV kvs k) ((atKey xs k).map (·.2)):=by
 induction r with
 | nil=>exact True.intro
 | @cons p q ps qs h t ih =>
  obtain⟨h1,_,h2⟩:=h;by_cases e:p.1=k
  ·have e':q.1=k:=h1.symm.trans e;have b:atKey (q::qs) k=some q.2:=by simp[atKey,xed,e']
   rw[zhm e,b];exact h2
  ·have e':¬ q.1=k:=fun z=>e (h1.trans z)
   have b:atKey (q::qs) k=atKey qs k:=by simp[atKey,xed,e']
   rw[zhn e,b];exact ih
theorem KT.repl {H:Hp}{kvs:List (List Key×V)}{xs:List (List Key×Addr×Value)}(r:KT H kvs xs)(k:List Key){y:V}{u:Value}(ry:RelV y u) :
  KT H (kvs.map fun kv=>if kv.1=k then(kv.1,y) else kv) (xs.map (putAt k u)):=by
 induction r with
 | nil=>exact .nil
 | @cons p q ps qs h t ih =>
  rw[xbp,xbp];refine .cons ?_ ih;obtain⟨h1,h2,h3⟩:=h;unfold putAt;by_cases e:p.1=k
  ·rw[if_pos e,if_pos (h1.symm.trans e)];exact⟨h1,h2,ry⟩
  ·rw[if_neg e,if_neg (fun z=>e (h1.trans z))];exact⟨h1,h2,h3⟩
theorem KT.put {H:Hp}{kvs:List (List Key×V)}{xs:List (List Key×Addr×Value)}(r:KT H kvs xs)(k:List Key){b:Addr}{y:V}{u:Value}(hb:H b=some (.tup (k.map kV)))(ry:RelV y u) :
  KT H (putK kvs k y) (storedH xs k b u):=by
 have e:(kvs.any fun kv=>decide (kv.1=k))=(atKey xs k).isSome:=by
  rw[zra,(r.val k).isSome_eq,Option.isSome_map]
 unfold putK storedH;rw[e];by_cases q:(atKey xs k).isSome=true
 ·rw[if_pos q,if_pos q];exact r.repl k ry
 ·rw[if_neg q,if_neg q];exact Paired.snoc r ⟨rfl,hb,ry⟩
theorem KT.keeps {H H':Hp}{kvs:List (List Key×V)}{xs:List (List Key×Addr×Value)}(r:KT H kvs xs)(ht:∀b ys,H b=some (.tup ys)->H' b=some (.tup ys)):KT H' kvs xs :=
 Paired.mapP r fun _ _ z=>⟨z.1,ht _ _ z.2.1,z.2.2⟩
section
variable {P:Program}{w:World}{H:Hp}{h:Heap}{a:Addr}
theorem zblz {u:HO}(ok:HOk P w H h)(e:Rd H a u):ObjOk P w H h a u:=e.ok ok
theorem zbas {kvs:List (Key×V)}(ok:HOk P w H h)(e:Rd H a (.dK kvs)):kvs.length<=sizeLine/\(a==sysModules)=false/\∃vs,KV kvs vs/\h.DictOf (mixKind P w) a vs :=
 show ObjOk P w H h a (.dK kvs) from zblz ok e
theorem zbkq {kvs:List (Key×V)}(ok:HOk P w H h)(e:H a=some (.dK kvs)):kvs.length<=sizeLine/\(a==sysModules)=false/\∃vs,KV kvs vs/\h.DictOf (mixKind P w) a vs:=zbas ok (.inl e)
theorem zqs {ks:List Key}(ok:HOk P w H h)(e:H a=some (.tup (ks.map kV))):(tupleKind (mixKind P w)).is h ks a:=by
 obtain⟨_,its,r,o,h1,h2,n,h3⟩:=(show ObjOk P w H h a (.tup (ks.map kV)) from ok a _ e)
 exact⟨o,its.toArray,n,h1,h2,h3,by simpa using zpa r⟩
theorem zbca {kvs:List (List Key×V)}(ok:HOk P w H h)(e:Rd H a (.dT kvs)):kvs.length<=sizeLine/\(a==sysModules)=false /\
  ∃xs,KT H kvs xs/\h.DictOfH (tupleKind (mixKind P w)) a xs:=by
 obtain⟨z,y,xs,r,o,es,ep,h1,h2,h3,h4,h5⟩:=(show ObjOk P w H h a (.dT kvs) from zblz ok e)
 refine⟨z,y,xs,r,o,es,ep,h1,h2,h3,h4,fun x hx=>?_,h5⟩;have all:∀{l:List (List Key×V)} {m:List (List Key×Addr×Value)},KT H l m->∀x∈m,(tupleKind (mixKind P w)).is h x.1 x.2.1:=by
  intro l m q
  induction q with
  | nil=>intro x hx;exact nomatch hx
  | @cons p q ps qs hq t ih =>
   intro x hx;rcases xbr.mp hx with e | hx
   ·subst e;exact zqs ok (by rw[← hq.1];exact hq.2.1)
   ·exact ih x hx
 exact all r x hx
theorem zbmj {kvs:List (List Key×V)}(ok:HOk P w H h)(e:H a=some (.dT kvs)):kvs.length<=sizeLine/\(a==sysModules)=false /\
 ∃xs,KT H kvs xs/\h.DictOfH (tupleKind (mixKind P w)) a xs:=zbca ok (.inl e)
end
noncomputable def DGet (H:Hp) (a:Addr) (y:V) (r:Option V):Prop :=
 (∃kvs k,Rd H a (.dK kvs)/\y=kV k/\r=valV kvs k)\/∃kvs k b,Rd H a (.dT kvs)/\y=.ref b/\H b=some (.tup (k.map kV))/\r=valV kvs k
noncomputable def DPut (H:Hp) (a:Addr) (y v:V) (H':Hp):Prop :=
 (∃kvs k,H a=some (.dK kvs)/\y=kV k/\kvs.length < sizeLine/\H'=upd H a (.dK (putK kvs k v))) \/
 ∃kvs k b,H a=some (.dT kvs)/\y=.ref b/\H b=some (.tup (k.map kV))/\kvs.length < sizeLine/\H'=upd H a (.dT (putK kvs k v))
theorem DPut.t {H:Hp}{a b:Addr}{kvs:List (List Key×V)}{k:List Key}{v:V}(e:H a=some (.dT kvs))(eb:H b=some (.tup (k.map kV)))(hl:kvs.length < sizeLine) :
 DPut H a (.ref b) v (upd H a (.dT (putK kvs k v))):=.inr ⟨kvs,k,b,e,rfl,eb,hl,rfl⟩
section
variable {X:Cx}{aU:List (Addr×Obj)}{σ:St}{H:Hp}{s:Shared}{a:Addr}{y v:V}{u r:Value}{o:Option V}{A:Around}{E:Value->Shared->Prop}
theorem Inv.big (I:Inv X aU σ H s):sysModules < s.heap.objs.size:=by
 have h:mainGlobals < s.heap.objs.size:=(I.mod.glob.keeps I.bk).lt;exact xhu (by decide) h
theorem zwm {Q:Value->Shared->Prop}(hu:A.units+1 < cLine)(I:Inv X aU σ H s)(g:DGet H a y (some v))(ry:RelV y u)(h:∀w' s',Inv X aU σ H s'->RelV v w'->Q w' s') :
  wpAny (model X.prog X.w) A (getItem (.ref a) u) Q E s:=by
 rcases g with⟨kvs,k,e,ey,l⟩ | ⟨kvs,k,b,e,ey,eb,l⟩
 ·subst ey;obtain⟨z,hd,vs,rel,dd⟩:=zbas I.hok e;obtain⟨w',hw,rw'⟩:=RelO.some_of (v:=v) (o:=valueAt vs k) (by rw[l];exact rel.val k);exact wpAny_getItem_of (zzy ry) dd.mapOf hw (h w' _ (I.tok _) rw')
 ·subst ey;cases(show u=Value.ref b from ry);obtain⟨z,hd,xs,rel,dd⟩:=zbca I.hok e;obtain⟨w',hw,rw'⟩:=RelO.some_of (v:=v) (o:=(atKey xs k).map (·.2)) (by rw[l];exact rel.val k);obtain⟨p,hp,hp2⟩:=xcv.mp hw;refine wpAny_getItem_heap (xhm hu) (zqs I.hok eb) dd hp ?_;rw[hp2];exact h w' _ (I.tok _) rw'
theorem d_in {Q:Value->Shared->Prop}(hu:A.units+1 < cLine)(I:Inv X aU σ H s)(g:DGet H a y o)(ry:RelV y u)(h:∀s',Inv X aU σ H s'->Q (.bool o.isSome) s') :
  wpAny (model X.prog X.w) A (compareOp .In u (.ref a)) Q E s:=by
 rcases g with⟨kvs,k,e,ey,l⟩ | ⟨kvs,k,b,e,ey,eb,l⟩
 ·subst ey;obtain⟨z,hd,vs,rel,dd⟩:=zbas I.hok e;refine wpAny_in_of (zzy ry) hd dd.mapOf ?_;rw[← (rel.val k).isSome_eq,← l];exact h _ (I.tok _)
 ·subst ey;cases(show u=Value.ref b from ry);obtain⟨z,hd,xs,rel,dd⟩:=zbca I.hok e;refine wpAny_in_heap (xhm hu) (zqs I.hok eb) hd dd ?_;have q:=(rel.val k).isSome_eq;rw[Option.isSome_map] at q;rw[← q,← l];exact h _ (I.tok _)
theorem zmi {h':Heap}{t':Nat}{ob:HO}(I:Inv X aU σ H s)(mu:Mut (H a))(hs:Heap.SameBut a s.heap h')(he:∃q,h'.get? a=some q)(new:ObjOk X.prog X.w (upd H a ob) h' a ob) :
  Inv X aU σ (upd H a ob) {s with heap:=h',toks:=t'} :=
 I.write (x:=a) (e:=a) mu (.inl rfl) (fun b q hb z=>(hs.2 b hb).trans z) he new
theorem zbat {P:Program}{w:World}{H':Hp}{h':Heap}{kvs:List (Key×V)}{vs:List (Key×Value)}(z:kvs.length<=sizeLine)(hd:(a==sysModules)=false)(rel:KV kvs vs)(dd:h'.DictOf (mixKind P w) a vs) :
 ObjOk P w H' h' a (.dK kvs):=⟨z,hd,vs,rel,dd⟩
theorem zwk {H':Hp}{Q:Unit->Shared->Prop}(hu:A.units+1 < cLine)(I:Inv X aU σ H s)(g:DPut H a y v H')(ry:RelV y u)(rv:RelV v r)(h:∀s',Inv X aU σ H' s'->Q () s') :
  wpAny (model X.prog X.w) A (setItem (.ref a) u r) Q E s:=by
 rcases g with⟨kvs,k,e,ey,l,eH⟩ | ⟨kvs,k,b,e,ey,eb,l,eH⟩
 ·subst ey eH;obtain⟨z,hd,vs,rel,dd⟩:=zbkq I.hok e;have hz:vs.length<=sizeLine:=by rw[← rel.length];exact z
  have hl:(putK kvs k v).length<=sizeLine:=by have:=zgz kvs k v;lia
  refine wpAny_setItem_pairs (hsz:=hz) (zzy ry) dd fun h' dd' hs=>h _ ?_
  have he:∃q,h'.get? a=some q:=let ⟨q,_,_,hq,_⟩:=dd';⟨q,hq⟩
  exact zmi I (by rw[e];exact True.intro) hs he (zbat hl hd (rel.put k rv) dd')
 ·subst ey eH;cases(show u=Value.ref b from ry);obtain⟨z,hd,xs,rel,dd⟩:=zbmj I.hok e;have hz:xs.length<=sizeLine:=by rw[← xhd rel];exact z
  have hl:(putK kvs k v).length<=sizeLine:=by have:=zgz kvs k v;lia
  refine wpAny_setItem_heap (hsz:=hz) (xhm hu) (zqs I.hok eb) dd fun h' dd' hs=>h _ ?_
  obtain⟨q,es,ep,hq,h2,h3,h4,_,h5⟩:=dd';refine zmi I (by rw[e];exact True.intro) hs ⟨q,hq⟩ ⟨hl,hd,_,(rel.put k eb rv).keeps fun c ys ec=>?_,q,es,ep,hq,h2,h3,h4,h5⟩;rw[zr (zbme ec e (fun z=>nomatch z))];exact ec
end
section
variable {X:Cx}{aU:List (Addr×Obj)}{σ:St}{H:Hp}{s:Shared}{a:Addr}{kvs:List (Key×V)}{k:Key}{u:Value}{A:Around}{E:Value->Shared->Prop}
theorem zbnt {v:V}{more:List Value}{Q:Value->Shared->Prop}(I:Inv X aU σ H s)(e:H a=some (.dK kvs))(ry:RelV (kV k) u)(l:valV kvs k=some v)(hm:more=[]\/∃x,more=[x])
  (h:∀ w' s', Inv X aU σ (upd H a (.dK (dropK kvs k))) s'->RelV v w'->Q w' s'):wpAny (model X.prog X.w) A (call (.builtin "dict.pop") (.ref a::u::more)) Q E s:=by
 obtain⟨z,hd,vs,rel,dd⟩:=zbkq I.hok e;obtain⟨w',hw,rw'⟩:=RelO.some_of (v:=v) (o:=valueAt vs k) (by rw[← l];exact rel.val k);have hp:(keyPart u).isSome=true:=by
  cases k with
  | inl i=>obtain⟨t,q⟩:=(show ∃t,u=Value.int i t from ry);subst q;rfl
  | inr x=>obtain⟨t,q⟩:=(show ∃t,u=Value.str x t from ry);subst q;rfl
 have ha:argsOk "dict.pop" ⟨.ref a::u::more,[]⟩:=by
  rcases hm with q | ⟨x,q⟩
  ·subst q;exact F.args_dict_pop_2 _ _
  ·subst q;exact F.args_dict_pop_3 _ _ _
 refine xjv xhv dd.typeIs F.entry_dict_pop ha (meets_dict_pop_there (mixKind X.prog X.w) a (zzy ry) more hm hp)
  ⟨vs,w',dd,by rw[← rel.length];exact z,hw,fun h' dd' hs=>h w' _ ?_ rw'⟩
 have he:∃q,h'.get? a=some q:=let ⟨q,_,_,hq,_⟩:=dd';⟨q,hq⟩
 exact zmi I (by rw[e];exact True.intro) hs he (zbat (xbb (zbar kvs k) z) hd (rel.drop k) dd')
end
noncomputable def NoSl (i:Expr):Prop:=∀ov iv,subscripted i false ov iv=operate [ov,iv] (getItem ov iv)
theorem zbco {prog:Program}{w:World}{A:Around}{E:Value->Shared->Prop}{s:Shared}{env:Env}{value slice:Expr}{pos:Pos}{T id:String}{Q:Value->Shared->Prop}
  (hl:typeLookup (.type T) "__getitem__"=pure (some (.builtin id)))(hs:NoSl slice)
  (h:wpAny (model prog w) A (eval value env) (fun o s₁=>wpAny (model prog w) A (eval slice env) (fun i s₂=>s₂.TypeIs o T/\wpAny (model prog w) A (getItem o i) Q E s₂) E s₁) E s) :
  wpAny (model prog w) A (eval (.Subscript value slice pos) env) Q E s:=by
 refine Subscript_ (xec h (fun o s₁ h₁=>xec h₁ (fun i s₂ h₂=>?_) fun _ _ x=>x) fun _ _ x=>x);obtain⟨hT,h₂⟩:=h₂;unfold subscriptTail;refine xba ?_;rw[getitemInPython_of_ne hT.not_modules];refine xba (wpAny_specialOf hT hl ?_);have fin:wpAny (model prog w) A (subscripted slice false o i) (fun r s₃=>wpAny (model prog w) A (letTemporaryGo value o r >>= fun _=>pure r) Q E s₃) E s₂:=by
  rw[hs o i];exact wpAny_operating (xec h₂ (fun r s₃ h₃=>xba (wpAny_letTemporaryGo (xbk h₃))) fun _ _ x=>x)
 first
  | exact xbk (xba fin)
  | exact xba (xbk (xba fin))
  | exact xba fin
theorem zqv {X:Cx}{aU:List (Addr×Obj)}{σ:St}{H:Hp}{s:Shared}{a:Addr}{y:V}{o:Option V}(I:Inv X aU σ H s)(g:DGet H a y o):s.TypeIs (.ref a) "dict":=by
 rcases g with⟨kvs,k,e,_,_⟩ | ⟨kvs,k,b,e,_,_,_⟩
 ·obtain⟨_,_,vs,_,dd⟩:=zbas I.hok e;exact dd.typeIs
 ·obtain⟨_,_,xs,_,dd⟩:=zbca I.hok e;exact dd.typeIs
noncomputable def tDGet (td ty:TE):TE:=fun σ H Q=>td σ H fun x H1=>ty σ H1 fun y H2=>∃a v,x=.ref a/\DGet H2 a y (some v)/\Q v H2
noncomputable def tDIn (ty td:TE):TE:=fun σ H Q=>ty σ H fun y H1=>td σ H1 fun x H2=>∃a o,x=.ref a/\DGet H2 a y o/\Q (.bl o.isSome) H2
noncomputable def sDPut (td ty tv:TE):TS:=fun D σ H=>tv σ H fun v H1=>td σ H1 fun x H2=>ty σ H2 fun y H3=>∃a H4,x=.ref a/\DPut H3 a y v H4/\D.nx σ H4
section
variable {X:Cx}{o i e value:Expr}{pos pos' tpos:Pos}{td ty tv:TE}
theorem zbdm (hu:X.A.units+1 < cLine)(ho:PE X o td)(hi:PE X i ty)(hs:NoSl i):PE X (.Subscript o i pos) (tDGet td ty):=by
 intro aU s σ H Q I h;refine zbco F.slot_dict_getitem.lookup hs (thn (ho aU s σ H _ I h) fun u s1 ⟨x,H1,I1,rx,q1⟩=>thn (hi aU s1 σ H1 _ I1 q1) fun iv s2 hq0=>?_);obtain⟨y,H2,I2,ry,a,v,ex,g,q2⟩:=hq0;subst ex;obtain rfl:u=Value.ref a:=rx;exact⟨zqv I2 g,zwm hu I2 g ry fun w' s3 I3 rw'=>⟨v,H2,I3,rw',q2⟩⟩
theorem zbja (hu:X.A.units+1 < cLine)(hi:PE X i ty)(ho:PE X o td):PC X .In i o (tDIn ty td):=by
 intro aU s σ H Q I h;refine thn (hi aU s σ H _ I h) fun iv s1 ⟨y,H1,I1,ry,q1⟩=>thn (ho aU s1 σ H1 _ I1 q1) fun u s2 hq0=>?_
 obtain⟨x,H2,I2,rx,a,ov,ex,g,q2⟩:=hq0;subst ex;obtain rfl:u=Value.ref a:=rx;exact d_in hu I2 g ry fun s3 I3=>⟨.bl ov.isSome,H2,I3,rfl,q2⟩
theorem zbda (hu:X.A.units+1 < cLine)(ho:PE X o td)(hi:PE X i ty)(hv:PE X value tv)(hs:swapsWith value (some (.Subscript o i pos')) pos.line X.env=pure false) :
  PS X (.Assign [.Subscript o i pos'] value pos) (sDPut td ty tv):=by
 intro aU s σ H D I h;refine wpAny_Assign_Subscript (thn (hv aU s σ H _ I h) fun r s1 ⟨v,H1,I1,rv,q1⟩=>thn (ho aU s1 σ H1 _ I1 q1) fun u s2 ⟨x,H2,I2,rx,q2⟩=>thn (hi aU s2 σ H2 _ I2 q2) fun iv s3 hq0=>?_) hs;obtain⟨y,H3,I3,ry,a,H4,ex,g,q3⟩:=hq0;subst ex;obtain rfl:u=Value.ref a:=rx;exact zwk hu I3 g ry rv fun s4 I4=>⟨σ,H4,I4,q3⟩
end
theorem zbau {P:Program}{w:World}{H:Hp}(h:Heap)(hb:sysModules < h.objs.size):ObjOk P w H (h.push { cls:=.type "dict", data:=.dict #[] }) h.objs.size (.dK []) :=
 ⟨xeg _,xfz.mpr (xdv (xce hb)),[],.nil,Heap.DictOf.new h⟩
theorem zbal {P:Program}{w:World}{H:Hp}(h:Heap)(hb:sysModules < h.objs.size):ObjOk P w H (h.push { cls:=.type "dict", data:=.dict #[] }) h.objs.size (.dT []) :=
 ⟨xeg _,xfz.mpr (xdv (xce hb)),[],.nil,_,#[],0,xch _ rfl,⟨rfl,rfl,rfl⟩,rfl,rfl,xej⟩
noncomputable def tDNewK:TE:=fun _ H Q=>∀p,H p=none->Q (.ref p) (upd H p (.dK []))
noncomputable def tDNewT:TE:=fun _ H Q=>∀p,H p=none->Q (.ref p) (upd H p (.dT []))
section
variable {X:Cx}{pos:Pos}
theorem zzf:PE X (.Dict [] [] pos) tDNewK:=fun aU s σ H Q I h =>
 wpAny_Dict_empty ⟨.ref s.heap.objs.size,_,I.laid (a:=s.heap.objs.size) (o:=.dK []) (t':=s.toks) (fun _ _ q=>xbm _ q) (xbf _) (zbau s.heap I.big),rfl,h _ (I.hok.fresh (xbf _))⟩
theorem zze:PE X (.Dict [] [] pos) tDNewT:=fun aU s σ H Q I h =>
 wpAny_Dict_empty ⟨.ref s.heap.objs.size,_,I.laid (a:=s.heap.objs.size) (o:=.dT []) (t':=s.toks) (fun _ _ q=>xbm _ q) (xbf _) (zbal s.heap I.big),rfl,h _ (I.hok.fresh (xbf _))⟩
end
structure M1 (X:Cx) (o:Expr) (m:Str) (apos:Pos) (e:Expr) (cpos:Pos):Prop where
 base:attributeBase o m X.env (eval o X.env)=eval o X.env
 few:((backTo cpos (starEach [e] X.env)).all (fun x=>!x.1)&&(backToKw cpos (keywordEach [] X.env)).all (fun x=>x.1.isSome)
  && decide (([e]:List Expr).length+([]:List Keyword).length+(if([]:List Keyword).isEmpty then 0 else 1) < 30))=true
 line:(apos.endLine==cpos.line)=true
 trees:backTo cpos (starEach [e] X.env)=[(false,eval e X.env)]
structure M2 (X:Cx) (o:Expr) (m:Str) (apos:Pos) (e f:Expr) (cpos:Pos):Prop where
 base:attributeBase o m X.env (eval o X.env)=eval o X.env
 few:((backTo cpos (starEach [e,f] X.env)).all (fun x=>!x.1)&&(backToKw cpos (keywordEach [] X.env)).all (fun x=>x.1.isSome)
  && decide (([e,f]:List Expr).length+([]:List Keyword).length+(if([]:List Keyword).isEmpty then 0 else 1) < 30))=true
 line:(apos.endLine==cpos.line)=true
 trees:backTo cpos (starEach [e,f] X.env)=[(false,eval e X.env),(false,eval f X.env)]
noncomputable def IsD (H:Hp) (a:Addr):Prop:=(∃kvs,Rd H a (.dK kvs))\/∃kvs,Rd H a (.dT kvs)
theorem zbfc {X:Cx}{aU:List (Addr×Obj)}{σ:St}{H:Hp}{s:Shared}{a:Addr}(I:Inv X aU σ H s)(d:IsD H a) :
  s.TypeIs (.ref a) "dict"/\(∀ b, Value.ref a=.ref b->∃ ob, s.heap.get? b=some ob/\ob.dict=none)/\(a==sysModules)=false:=by
 rcases d with⟨kvs,e⟩ | ⟨kvs,e⟩
 ·obtain⟨_,hd,vs,_,dd⟩:=zbas I.hok e;refine⟨dd.typeIs,fun b q=>?_,hd⟩;cases q;obtain⟨ob,_,_,h1,h2,_⟩:=dd;exact⟨ob,h1,h2.2.1⟩
 ·obtain⟨_,hd,xs,_,dd⟩:=zbca I.hok e;refine⟨dd.typeIs,fun b q=>?_,hd⟩;cases q;obtain⟨ob,_,_,h1,h2,_⟩:=dd;exact⟨ob,h1,h2.2.1⟩
section
variable {X:Cx}{aU:List (Addr×Obj)}{σ:St}{H:Hp}{s:Shared}{a:Addr}{y d:V}{u r:Value}{o:Option V}{A:Around}{E:Value->Shared->Prop}
theorem zbkw {Q:Value->Shared->Prop}(hu:A.units+1 < cLine)(I:Inv X aU σ H s)(g:DGet H a y o)(ry:RelV y u)(rd:RelV d r)(h:∀w' s',Inv X aU σ H s'->RelV (o.getD d) w'->Q w' s') :
  wpAny (model X.prog X.w) A (call (.builtin "dict.get") [.ref a, u, r]) Q E s:=by
 rcases g with⟨kvs,k,e,ey,l⟩ | ⟨kvs,k,b,e,ey,eb,l⟩
 ·subst ey;obtain⟨z,hd,vs,rel,dd⟩:=zbas I.hok e;refine xjv xjn dd.typeIs F.entry_dict_get (F.args_dict_get_3 _ _ _) (meets_dict_get_default (mixKind X.prog X.w) a (zzy ry) hd r) ⟨_,dd.mapOf,h _ _ (I.tok _) ?_⟩;rw[l];exact(rel.val k).getD rd
 ·subst ey;cases(show u=Value.ref b from ry);obtain⟨z,hd,xs,rel,dd⟩:=zbca I.hok e;refine xjv xjn dd.typeIs F.entry_dict_get (F.args_dict_get_3 _ _ _) (meetsH_dict_get_default (tupleKind (mixKind X.prog X.w)) a b hd r) ⟨xhm hu,k,xs,zqs I.hok eb,dd,h _ _ (I.tok _) ?_⟩;rw[l];exact(rel.val k).getD rd
end
noncomputable def tDGet2 (td ty tx:TE):TE:=fun σ H Q=>td σ H fun x H1=>∃a,x=.ref a/\IsD H1 a/\ty σ H1 fun y H2=>tx σ H2 fun z H3=>∃o,DGet H3 a y o/\Q (o.getD z) H3
section
variable {X:Cx}{o e f:Expr}{apos cpos:Pos}{td ty tx:TE}
theorem zzg (hu:X.A.units + 1 < cLine)(ho:PE X o td)(he:PE X e ty)(hf:PE X f tx)(m:M2 X o "get" apos e f cpos):PE X (.Call (.Attribute o "get" apos) [e, f] [] cpos) (tDGet2 td ty tx):=by
 intro aU s σ H Q I h;refine wpAny_Call_method m.base m.few m.line xgz xjn F.type_dict_get (thn (ho aU s σ H _ I h) fun u s1 hq0=>?_);obtain⟨x,H1,I1,rx,a,ex,d,q1⟩:=hq0;subst ex;obtain rfl:u=Value.ref a:=rx;obtain⟨t1,t2,_⟩:=zbfc I1 d;refine⟨t1,t2,?_⟩;rw[m.trees]
 refine xjh rfl (xjp (xhg (thn (he aU s1 σ H1 _ I1 q1) fun iv s2 ⟨y,H2,I2,ry,q2⟩ =>
  xhg (thn (hf aU s2 σ H2 _ I2 q2) fun fv s3 ⟨z,H3,I3,rz,ov,g,q3⟩=>xjc ?_))))
 exact zbkw hu I3 g ry rz fun w' s4 I4 rw'=>⟨_,H3,I4,rw',q3⟩
end
section
variable {X:Cx}{aU:List (Addr×Obj)}{σ:St}{H:Hp}{s:Shared}{a:Addr}{kvs:List (Key×V)}{A:Around}{E:Value->Shared->Prop}
end
section
variable {X:Cx}{aU:List (Addr×Obj)}{σ:St}{H:Hp}{s:Shared}{a:Addr}{y:V}{u:Value}{A:Around}{E:Value->Shared->Prop}
end
end L2
namespace Att
open PySem PySem.W PySem.Calls PyProof.Rows
theorem zjb {P:Params}{h:Heap}:∀(ns:List Int) (vs:List Value),WellAll P h vs (ns.map WData.int)->IntsAre vs ns:=by
 intro ns
 induction ns with
 | nil =>
  intro vs w;rw[xkp] at w;cases w;exact .nil
 | cons n ns ih =>
  intro vs w;rw[xbp] at w;cases w with
  | cons a b =>
   cases a;exact .cons _ _ (ih _ b)
theorem zuw {l:OpenLaw}{n:Nat}(hn:l.most=some n){P:Params}{h:Heap}{args:List WData}{vals:List Value}
  (hpre:l.row.toRowW.claim.pre args=true)(hwl:WellAll P h vals args) :
  ∃ a vs ns, vals=[Value.ref a]/\args=[WData.list (ns.map WData.int)]/\h.get? a=some { cls:=.type "list", data:=.seq vs.toArray }/\IntsAre vs ns/\ns.length<=n:=by
 have hsh:WShape.hasAll [] args [.list .int]=true:=(pre_splitW hpre).1;have hc:l.pre.holds [] {args:=args}=true:=(pre_splitW hpre).2;obtain⟨d,r,rfl,h1,h2⟩:=hasAllW_cons hsh;obtain rfl:=hasAllW_nil h2;obtain⟨xs,rfl,h3⟩:=hasW_list h1;obtain⟨ns,rfl⟩:=items_int h3;have hlen:ns.length<=n:=by
  unfold OpenLaw.pre at hc;have h4:(WTm.not (.lt (.lit (.int (n:Int))) (.len (.arg 0)))).holds [] {args:=[.list (ns.map .int)]}=true:=by
   have h4:=(holds_andW hc).1;rw[hn] at h4;exact h4
  have h5:=condW_of h4 (w_not (w_lt w_lit (w_len_list (w_arg rfl))));rw[xbd] at h5;refine xca fun q=>?_
  have q':(n:Int) < ((ns.length:Nat):Int):=by lia
  first
   | (rw[xbw q'] at h5;exact absurd h5 (by decide))
   | (simp at h5;lia)
 cases hwl with
 | cons w1 w2 =>
  cases w2;cases w1 with
  | list ho hall=>exact⟨_,_,ns,rfl,rfl,ho,zjb ns _ hall,hlen⟩
theorem zvd (l:OpenLaw)(args:List WData):l.row.toRowW.claim.post args (.bool true) args=true :=
 postW_of (r:=l.row.toRowW) (X:=(true==true))
  (show WShape.has [] (.bool true) .bool=true by first | rfl | decide | simp[WShape.has,WShape.arms,WShape.armsAll])
  (show(WTm.eq .res (.lit (.bool true))).value [] {args:=args,res:=some (.bool true),after:=args}=some (.bool (true==true)) from w_eq_bool (w_res rfl) w_lit) rfl
theorem attach_call {l:OpenLaw}{n:Nat}{q:Program}{loose:List Str}{XP:(Str->Option Value)->Heap->Prop}{YP:World->Heap->Prop}{d:DefRec}
  (hn:l.most=some n)(hdf:d.params.defaults=[])
  (call:∀(w:World) (s₀ s₁:Shared) (mg mb:Str->Option Value) (fa:Addr) (o:Obj) (pm cd doc:Value) (a:Addr) (vs:List Value) (ns:List Int),
   Ground q loose [] XP w s₀ mg mb s₁.heap->YP w s₁.heap ->
   s₁.heap.get? fa=some o->o.data=.func (docDef d.name d.params d.body d.scope pm cd doc)->s₁.heap.CodeRec cd d.name->mg d.name=some (.ref fa) ->
   s₁.heap.get? a=some { cls:=.type "list", data:=.seq vs.toArray }->IntsAre vs ns->ns.length<=n->s₁.gens=#[] ->
   codeAny (model l.prog w) callerA (.call (.ref fa) ⟨[.ref a],[]⟩) (fun r s'=>r=.ok (.ret (.bool true))/\OldK s₁.heap s'.heap/\s'.os=s₁.os/\AllBare s'.gens) s₁) :
  WalkO q loose XP YP l.row.toRowW d [] (fun f vs=>PySem.call f vs):=by
 intro w s₀ s₁ mg mb G Y fa o pm cd doc dV kV ho hd hcd hD hmg hg args vals as hpre hlay hrd hwl hlo;obtain rfl:dV=.none:=Dflts.none hD hdf;obtain rfl:kV=.none:=Dflts.noKw hD;obtain⟨a,vs,ns,rfl,rfl,hobj,hints,hlen⟩:=zuw hn hpre hwl;refine enter_call (xju (call w s₀ s₁ mg mb fa o pm cd doc a vs ns G Y ho (fd_plain hd) hcd hmg hobj hints hlen hg) fun r s' hq=>?_);obtain⟨rfl,h2,h3,h4⟩:=hq;exact⟨.inl ⟨.bool true,.bool true,[],rfl,fun _=>rfl,.bool true,zvd l _,fun _=>⟨List.Pairwise.nil,fun _ hm=>(nomatch hm)⟩⟩,h2,h3,h4⟩
section
variable {prog:Program}{w:World}{A:Around}{E:Value->Shared->Prop}{s:Shared}{K:Frag}
end
end Att
namespace L2
open PySem PySem.Spec PyProof.Rows
theorem zoi:∀{vs:List Value} {ns:List Int},IntsAre vs ns->Vals (ns.map V.int) vs
 | _,_,.nil=>.nil
 | _,_,.cons n t h=>.cons ⟨t,rfl⟩ (zoi h)
noncomputable def Only (H:Hp):Prop:=∀b,H b=none\/∃o xs,H b=some (.frz o (.lst xs))
theorem zzw {P:Program}{w:World}{K:Fg}{mg mb:Str->Option Value}{CX:CXT}{k:Nat}{fa a:Addr}{fd:FuncData}{x:Str}{sp:Sp}{s₁:Shared}{vs:List Value}{ns:List Int}
  (KX:K.In s₁.heap)(hns:s₁.heap.Ns mainGlobals mg)(hb:s₁.heap.Ns builtinsNs mb)(hbb:∀ x:Str, x≠"__name__"->mb x=bootBuiltins x)(hlim:s₁.heap.NoLimit)(hg:s₁.gens=#[])
  (ha:s₁.heap.get? a=some { cls:=.type "list", data:=.seq vs.toArray })(hi:IntsAre vs ns)(hl:ns.length<=sizeLine)(hr:Room k callerA)
  (F:∀base:Heap,K.In base->base.Ns mainGlobals mg->FnOk P w K mg base CX k fa fd [x] sp)(hbind:∀(s:Shared) (u:Value),BindsTo s fd ⟨[u],[]⟩ [(x,u)])
  (hsp:∀H:Hp,Only H->SqL K H a (ns.map V.int)->sp [.ref a] H (fun v _=>v=.bl true) fun _ _ _=>False)
  (hCX:∀H e s',CX [] H s₁ (fun _ _ _=>False) e s'->False) :
  codeAny (model P w) callerA (.call (.ref fa) ⟨[.ref a],[]⟩) (fun r s'=>r=.ok (.ret (.bool true))/\OldK s₁.heap s'.heap/\s'.os=s₁.os/\AllBare s'.gens) s₁:=by
 have rv:=zoi hi;have lenV:=hi.length;have core:∀H:Hp,Only H->SqL K H a (ns.map V.int)->HOk P w H s₁.heap->(∀b,H b≠none->b=a)->(H a≠none->K.lookup a=none) ->
   codeAny (model P w) callerA (.call (.ref fa) ⟨[.ref a],[]⟩) (fun r s'=>r=.ok (.ret (.bool true))/\OldK s₁.heap s'.heap/\s'.os=s₁.os/\AllBare s'.gens) s₁:=by
  intro H hO hS hok hA hK;have base_of:∀{b:Addr} {o:Obj},s₁.heap.get? b=some o->H b=none->(hidT s₁.heap H).get? b=some o:=fun e n=>zbae e n
  have noA:∀{b:Addr} {o:Obj} {es:Array DictEntry} {ep:Nat},s₁.heap.get? b=some o->o.data=.dict es ep->H b=none:=fun {b o es ep} e d=>by
   cases q:H b with
   | none=>rfl
   | some u =>
    have e':b=a:=hA b (by rw[q];simp);subst e';rw[ha] at e;cases e
    have d':Data.seq vs.toArray _=Data.dict es ep:=d;cases d'
  have nsK:∀{b:Addr} {m:Str->Option Value},s₁.heap.Ns b m->(hidT s₁.heap H).Ns b m:=fun {b m} ⟨o,es,ep,e,d,r⟩=>⟨o,es,ep,base_of e (noA e d),d,r⟩
  have hKb:K.In (hidT s₁.heap H):=fun b o e=>base_of (KX b o e) (by
   cases q:H b with
   | none=>rfl
   | some u =>
    have e':b=a:=hA b (by rw[q];simp);subst e'
    rw[hK (by rw[q];simp)] at e;cases e)
  have hM:Mod K mg (hidT s₁.heap H):=⟨hKb,nsK hns,⟨mb,nsK hb,hbb⟩,let ⟨mc,h1,h2⟩:=hlim;⟨mc,nsK h1,h2⟩⟩
  have e0:Env0 P w K mg (hidT s₁.heap H) callerA [] s₁ H:=⟨rfl,hM,fun b o e=>zbdz e,xdi (zwb _ _),trivial,fun b hb=>absurd (show b∈([]:List Addr) from hb) (by simp),hok,.of_eq hg⟩
  refine xju ((F _ hKb (nsK hns)).run callerA [] s₁ H ⟨[.ref a],[]⟩ [.ref a] [.ref a] _ _ hr e0 (hbind s₁ (.ref a)) (.cons rfl .nil) (hsp H hO hS)) fun r s' h=>?_
  cases r with
  | error e=>exact(hCX H e s' h).elim
  | ok fl =>
   cases fl with
   | next=>exact False.elim h
   | brk=>exact False.elim h
   | cont=>exact False.elim h
   | ret u =>
    obtain⟨v,H',os,bare,un,hok',r',q⟩:=h;have q':v=.bl true:=q;subst q';obtain rfl:u=Value.bool true:=r';refine⟨rfl,OldK.of_keep fun b o e=>?_,os,bare⟩;cases q:H b with
    | none=>exact un.keep b o e q (by intro z;exact absurd (show b∈([]:List Addr) from z) (by simp)) (by simp)
    | some u =>
     rcases hO b with z | ⟨ob,xs,z⟩
     ·rw[q] at z;cases z
     ·have z2:=un.frzs b ob _ z;obtain⟨e1,_⟩:=hok b _ z;obtain⟨e2,_⟩:=hok' b _ z2;rw[e] at e1;cases e1
      exact e2
 cases hk:K.lookup a with
 | some o =>
  have e:=KX a o hk;rw[ha] at e;cases e;refine core (fun _=>none) (fun _=>.inl rfl) (.inr ⟨_,vs.toArray,_,hk,rfl,rfl,rfl,by rw[xcc,lenV];exact hl,by simpa using rv⟩) (fun b u z=>by have z':(none:Option HO)=some u:=z;cases z') (fun b z=>absurd rfl z) fun z=>absurd rfl z
 | none =>
  refine core (fun b=>if b=a then some (.frz { cls:=.type "list", data:=.seq vs.toArray } (.lst (ns.map V.int))) else none) (fun b=>?_) (.inl (.inr ⟨{ cls:=.type "list", data:=.seq vs.toArray }, if_pos rfl⟩)) (fun b u z=>?_) (fun b z=>?_) fun _=>hk
  ·by_cases hb:b=a
   ·exact .inr ⟨_,_,if_pos hb⟩
   ·exact .inl (if_neg hb)
  ·by_cases hb:b=a
   ·have z':=(if_pos hb).symm.trans z;cases z';subst hb;exact⟨ha,by rw[xbd];exact hl,vs,_,rv,ha⟩
   ·have z':=(if_neg hb).symm.trans z;cases z'
  ·by_cases hb:b=a
   ·exact hb
   ·exact absurd (if_neg hb) z
theorem zbcf {l:W.OpenLaw}{n k:Nat}{q:Program}{loose:List Str}{XP:(Str->Option Value)->Heap->Prop}{YP:World->Heap->Prop}{d:DefRec}{K:Params->Fg}{CX:World->CXT}{sp:World->Sp}{x:Str}
  (hn:l.most=some n)(hn2:n<=sizeLine)(hdf:d.params.defaults=[])(hr:Room k callerA)
  (hY:∀(w:World) (h:Heap),YP w h->(K w.params).In h)
  (F:∀(w:World) (mg:Str->Option Value) (fa:Addr) (h:Heap),(K w.params).In h->h.Ns mainGlobals mg->mg d.name=some (.ref fa) ->
   ∃fd:FuncData,(∀(s:Shared) (u:Value),BindsTo s fd ⟨[u],[]⟩ [(x,u)]) /\
    ∀base:Heap,(K w.params).In base->base.Ns mainGlobals mg->FnOk l.prog w (K w.params) mg base (CX w) k fa fd [x] (sp w))
  (hsp:∀(w:World) (H:Hp) (a:Addr) (ns:List Int),ns.length<=n->Only H->SqL (K w.params) H a (ns.map V.int)->sp w [.ref a] H (fun v _=>v=.bl true) fun _ _ _=>False)
  (hCX:∀(w:World) (H:Hp) (s:Shared) (e:Value) (s':Shared),CX w [] H s (fun _ _ _=>False) e s'->False) :
  W.WalkO q loose XP YP l.row.toRowW d [] (fun f vs=>PySem.call f vs):=by
 refine Att.attach_call hn hdf fun w s₀ s₁ mg mb fa o pm cd doc a vs ns G Y ho hd hcd hmg hobj hints hlen hg=>?_
 have KX:=hY w _ Y;obtain⟨fd,hb,hF⟩:=F w mg fa _ KX G.T.g hmg;exact zzw KX G.T.g G.T.b G.T.builtins G.T.nolimit hg hobj hints (xbb hlen hn2) hr hF hb (fun H hO hS=>hsp w H a ns hlen hO hS) fun H e s'=>hCX w H s₁ e s'
end L2
/- THE LAST THEOREM (shape;LID,My.* are yours):
 My.Adr: a structure of the addresses that your layer names (classes,functions);My.Txt K t: a structure (Prop) of the equations over K;
 My.txt_mk:{K} {implicit addresses ..} (e1:nsIn K mainGlobals "law"=some (some (.ref f))) (e2:K.lookup f=some ⟨oc, od, .func (fnOf "law" "law" params body scope dV kV doc pm an cdv ct), sl⟩) (e3:codeIn K cdv "law"=true) ..:∃ t, My.Txt K t
(the tactic k_is has no namespace: write k_is) -/
namespace L2
open PySem PySem.Spec PyProof.Rows
noncomputable def defArgs (s:Stmt):Arguments:=match s with
 | .FunctionDef _ a _ _ _ _ _ _ _ _=>a
 | _=>{posonlyargs:=[],args:=[],vararg:=none,kwonlyargs:=[],kw_defaults:=[],kwarg:=none,defaults:=[]}
noncomputable def defBody (s:Stmt):List Stmt:=match s with
 | .FunctionDef _ _ b _ _ _ _ _ _ _=>b
 | _=>[]
noncomputable def defScope (s:Stmt):Scope:=match s with
 | .FunctionDef _ _ _ _ _ _ sc _ _ _=>sc
 | _=>{kind:=.function,names:=[],isGenerator:=false,isCoroutine:=false}
noncomputable abbrev CX0:CXT:=fun _ _ _ _ _ _=>False
noncomputable abbrev E0:XK:=fun _ _ _=>False
theorem pass0 {X:Cx}:Passes CX0 X E0:=fun _ _ _ _ _ _ _ h=>h.elim
structure Fun (K:Fg) (x qual:Str) (st:Stmt) (f:Addr) (fd:FuncData):Prop where
 ex:∃(oc:Value) (od:Option Addr) (kV doc pm:Value) (an:Option Addr) (cdv ct:Value) (osl:Array (Option Value)),
  fd=W.fnOf x qual (defArgs st) (defBody st) (defScope st) .none kV doc pm an cdv ct/\K.lookup f=some ⟨oc,od,.func fd,osl⟩/\W.codeIn K cdv qual=true
 kp:W.keepIn K (.ref f)=true
section
variable {P:Program}{w:World}{K:Fg}{mg:Str->Option Value}{base:Heap}
theorem Fun.ok {x qual:Str}{st:Stmt}{f:Addr}{fd:FuncData}{N ps:List Str}{k:Nat}{sp:Sp}(F:Fun K x qual st f fd)(S:FnScope N ps (defScope st))(len:∀vs H Q E,sp vs H Q E->vs.length=ps.length)
  (hbody:∀(cdv:Value) (A:Around) (outer:List Env) (s:Shared) (H:Hp) (vs:List V) (Q:VK) (E:XK),Room k (A.deeper (envOfC qual (defScope st) s.heap.objs.size f cdv))->sp vs H Q E ->
   ∃t,PSs (cxOf CX0 P w K mg base N qual (defScope st) f cdv A outer s H E).nox (defBody st) t/\t {nx:=fun _ H'=>Q .non H',rt:=Q} (start N vs) H):FnOk P w K mg base CX0 (k+1) f fd ps sp:=by
 obtain⟨oc,od,kV,doc,pm,an,cdv,ct,osl,rfl,lk,hcd⟩:=F.ex;refine zbnj lk hcd S len fun A outer s H vs Q E hr hsp=>?_
 obtain⟨t,h,q⟩:=hbody cdv A outer s H vs Q E hr hsp;exact⟨t,h.nox,q⟩
theorem Fun.binds {x qual:Str}{st:Stmt}{f:Addr}{fd:FuncData}{ps:List Str}(F:Fun K x qual st f fd)
  (h:∀(kV doc pm:Value) (an:Option Addr) (cdv ct:Value) (us:List Value),us.length=ps.length->bindArgs (W.fnOf x qual (defArgs st) (defBody st) (defScope st) .none kV doc pm an cdv ct) ⟨us,[]⟩=pure (ps.zip us)):Binds K fd ps []:=by
 obtain⟨oc,od,kV,doc,pm,an,cdv,ct,osl,rfl,lk,hcd⟩:=F.ex;exact .all (h kV doc pm an cdv ct)
theorem zbka {x qual:Str}{st:Stmt}{f:Addr}{oc:Value}{od an:Option Addr}{osl:Array (Option Value)}{kV doc pm cdv ct:Value}(l:K.lookup f=some ⟨oc,od,.func (W.fnOf x qual (defArgs st) (defBody st) (defScope st) .none kV doc pm an cdv ct),osl⟩)
 (c:W.codeIn K cdv qual=true)(k:W.keepIn K (.ref f)=true):Fun K x qual st f (W.fnOf x qual (defArgs st) (defBody st) (defScope st) .none kV doc pm an cdv ct):=⟨⟨oc,od,kV,doc,pm,an,cdv,ct,osl,rfl,l,c⟩,k⟩
end
theorem zqw {A:Around}{k:Nat}(hr:Room k A):A.units+1 < cLine:=xcz (xci (by decide:1<=64) _) hr.units
section
variable {X:Cx}
theorem pv (i:Nat){x:Str}{pos:Pos}(hN:X.N[i]?=some x:=by rfl)(hv:Vis X.env.scope x:=by first | exact Or.inl rfl | exact Or.inr (Or.inl rfl) | exact Or.inr (Or.inr rfl))(hd:(x==("__debug__" : Str))=false:=by decide)
 (hcd:(x==("__classdict__" : Str))=false:=by decide):PE X (.Name x pos) (tVar i):=zbir hN hv hd hcd
end
theorem iteF {A B:Prop}(h:B):if false=true then A else B:=by
 rw[if_neg xfo];exact h
theorem iteT {A B:Prop}(h:A):if true=true then A else B:=by
 rw[if_pos rfl];exact h
section
variable {X:Cx}
end
section
variable {κ:Type}[DecidableEq κ]
end
section
variable {P:Program}{w:World}{B:Around}{R:Result->Shared->Prop}{sh:Shared}
noncomputable abbrev NoX:Value->Shared->Prop:=fun _ _=>False
noncomputable abbrev testsOf (cs:List Expr) (ev:Env):Sem Bool :=
 forIn cs true fun d b=>if b=true then do let z ← isTrue d ev (eval d ev);pure (ForInStep.yield z) else pure (ForInStep.yield b)
noncomputable def CompStep (P:Program) (w:World) (B:Around) (tg x:Expr) (cs:List Expr) (ev:Env) (i l:Value) (K:Shared->Prop) (v:Value) (sa:Shared):Prop :=
 wpAny (model P w) B (letOwnedTupleGo tg i v) (fun _ sb=>wpAny (model P w) B (assign tg ev v) (fun _ sc=>wpAny (model P w) B (testsOf cs ev) (fun ok sd =>
  if ok=true then wpAny (model P w) B (eval x ev) (fun y se=>wpAny (model P w) B (call (.builtin "list.append") [l, y]) (fun _ sf=>K sf) NoX se) NoX sd else K sd) NoX sc) NoX sb) NoX sa
theorem zwo {tg it x:Expr}{cs:List Expr}{sc:Scope}{ps:Pos}{i l:Value}{ev:Env}(J:Nat->Shared->Prop)
  (go:∀k sk,J k sk->wpAny (model P w) B (pyNext i) (fun o sa=>match o with
   | none=>R (.ok .next) sa
   | some v=>CompStep P w B tg x cs ev i l (fun sf=>∃k',k' < k/\J k' sf) v sa) NoX sk)
  (k:Nat)(hJ:J k sh):codeAny (model P w) B (.compLoop (.ListComp x [⟨tg,it,cs,0⟩] sc ps) 0 i l ev) R sh:=by
 have none_:∀{E:Value->Shared->Prop} (e:Value) (z:Shared),NoX e z->E e z:=fun _ _ z=>z.elim
 refine codeAny_loop rfl J (fun k sk hk=>wpAny_noted (by
  rw[compTurn_list];refine xba (xkh (xba (xec (go k sk hk) (fun o sa ho=>?_) none_)))
  match o,ho with
  | none,ho=>exact xbk ho
  | some v,ho =>
   refine xba (xec ho (fun _ sb hb=>xba (xec hb (fun _ sc' hc=>xba (xec hc (fun ok sd hd=>?_) none_)) none_)) none_)
   match ok,hd with
   | false,hd=>exact xbk (And.intro rfl hd)
   | true,hd=>exact xba (xba (xec hd (fun y se he=>xba (xec he (fun _ sf hf=>xbk (xbk (And.intro rfl hf))) none_)) none_)))) k hJ
end
theorem znx {env:Env}:∀(names:List (Str×NameKind)) (acc:List (Str×Addr)),(∀y∈names,y.2=.free->∃c,env.cells.lookup y.1=some c)->(∀x c,acc.lookup x=some c->env.cells.lookup x=some c) ->
  ∃cl:List (Str×Addr),(forIn names acc (fun x r=>if(x.2==NameKind.free)=true then do let a ← cellOf env x.1;pure (ForInStep.yield ((x.1,a)::r)) else pure (ForInStep.yield r)):Sem (List (Str×Addr)))=pure cl /\
   (∀x c,cl.lookup x=some c->env.cells.lookup x=some c)/\(∀x c,acc.lookup x=some c->∃c',cl.lookup x=some c')/\∀x,(x,NameKind.free)∈names->∃c,cl.lookup x=some c:=by
 intro names
 induction names with
 | nil=>intro acc _ ha;exact⟨acc,rfl,ha,fun x c e=>⟨c,e⟩,fun x z=>(nomatch z)⟩
 | cons y r ih =>
  intro acc hf ha;obtain⟨n,k⟩:=y;by_cases hk:k=.free
  ·subst hk;obtain⟨c,hc⟩:=hf (n,.free) xcr rfl
   obtain⟨cl,e,h1,h2,h3⟩:=ih ((n,c)::acc) (fun y hy=>hf y (xbi _ hy)) (fun x c' e=>by
    rw[xew] at e;by_cases hx:x=n
    ·subst hx;rw[xgv] at e;cases e;exact hc
    ·rw[xfz.mpr hx] at e
     exact ha x c' e)
   refine⟨cl,?_,h1,fun x c' e'=>?_,fun x hx=>?_⟩
   ·rw[List.forIn_cons];simp only[xgv,ite_true];have q:cellOf env n=pure c:=by unfold cellOf;rw[hc]
    rw[q];simp only[pure_bind];exact e
   ·by_cases hx:x=n
    ·subst hx;exact h2 x c (by rw[xew,xgv])
    ·exact h2 x c' (by rw[xew,xfz.mpr hx];exact e')
   ·rcases xbr.mp hx with z | z
    ·cases z;exact h2 n c (by rw[xew,xgv])
    ·exact h3 x z
  ·obtain⟨cl,e,h1,h2,h3⟩:=ih acc (fun y hy=>hf y (xbi _ hy)) ha;refine⟨cl,?_,h1,h2,fun x hx=>?_⟩
   ·rw[List.forIn_cons];have hb:(k==NameKind.free)=false:=by simpa using hk
    simp only[hb,xdj,xfh,pure_bind];exact e
   ·rcases xbr.mp hx with z | z
    ·cases z;exact absurd rfl hk
    ·exact h3 x z
theorem ztm {scope:Scope}{env:Env}(h:∀y∈scope.names,y.2=.free->∃c,env.cells.lookup y.1=some c) :
  ∃cl,closureFor scope env=pure cl/\(∀x c,cl.lookup x=some c->env.cells.lookup x=some c)/\∀x,(x,NameKind.free)∈scope.names->∃c,cl.lookup x=some c:=by
 obtain⟨cl,e,h1,_,h3⟩:=znx (env:=env) scope.names [] h (fun x c e=>(nomatch e));refine⟨cl,?_,h1,h3⟩;unfold closureFor;have e':=congrArg (fun m=>m >>= fun r=>(pure r:Sem (List (Str×Addr)))) e;simp only[pure_bind] at e';exact e'
theorem zbt {env:Env}:∀{names:List (Str×NameKind)} {x:Str} {k:NameKind},(names.map fun(n,k)=>if(k==NameKind.free&&env.scope.kind==.function&&env.kindOf n==some .cell) then(n,NameKind.cell) else(n,k)).lookup x=some k ->
  names.lookup x=some k\/(k=.cell/\names.lookup x=some .free)
 | [],_,_,h=>by simp at h
 | (n,k')::r,x,k,h=>by
  have ih:=@zbt env r x k;have h':List.lookup x ((if(k'==NameKind.free&&env.scope.kind==.function&&env.kindOf n==some .cell)=true then(n,NameKind.cell) else(n,k'))::_)=_:=h;cases hx:x==n with
  | true =>
   by_cases hc:(k'==NameKind.free&&env.scope.kind==.function&&env.kindOf n==some .cell)=true
   ·rw[if_pos hc] at h';simp only[xew,hx] at h' ⊢;cases h';rw[xep,xep] at hc;exact .inr ⟨rfl,by rw[eq_of_beq hc.1.1]⟩
   ·rw[if_neg hc] at h';simp only[xew,hx] at h' ⊢;exact .inl h'
  | false =>
   have h2:(r.map fun(n,k)=>if(k==NameKind.free&&env.scope.kind==.function&&env.kindOf n==some .cell) then(n,NameKind.cell) else(n,k)).lookup x=some k:=by
    by_cases hc:(k'==NameKind.free&&env.scope.kind==.function&&env.kindOf n==some .cell)=true
    ·rw[if_pos hc] at h';simp only[xew,hx] at h';exact h'
    ·rw[if_neg hc] at h';simp only[xew,hx] at h';exact h'
   simp only[xew,hx];exact ih h2
noncomputable def cxC (X:Cx) (N:List Str) (scope:Scope) (cl:List (Str×Addr)) (C:Addr) (fp:List Addr) (s:Shared) (H:Hp):Cx :=
 {X with N:=N,s₀:=s,H₀:=H,env:=compEnvC scope cl C X.env,outer:=X.stack,ex:=fp,fn:=fun _=>false,pn:=[],xe:=fun _ _=>False}
noncomputable def startC (k:Nat) (is:List Nat) (σ:St):St:=List.replicate k none++is.map fun i=>(σ[i]?).getD none
structure CompScope (X:Cx) (N:List Str) (k:Nat) (is:List Nat) (scope:Scope):Prop where
 kind:scope.kind=.function
 nocell:∀y∈scope.names,y.2≠.cell
 names:∀y∈scope.names,y.2=.local->scope.names.lookup y.1=some .local
 frees:∀y∈scope.names,y.2=.free->X.env.kindOf y.1=some .cell\/X.env.kindOf y.1=some .free
 len:N.length=k+is.length
 own:∀j i,is[j]?=some i->∃x,N[k+j]?=some x/\X.N[i]?=some x/\scope.names.lookup x=some .free
theorem zga {x:Str}{k:NameKind}{l:List (Str×NameKind)}(h:l.lookup x=some k):(x,k)∈l:=xfy h
section
variable {X:Cx}{aU:List (Addr×Obj)}{σ:St}{H:Hp}{s:Shared}
theorem zbaa {N:List Str}{k:Nat}{is:List Nat}{scope:Scope}{cl:List (Str×Addr)}{fp:List Addr}{h1:Heap}{tk:Nat}(S:CompScope X N k is scope)(I:Inv X aU σ H s)
  (c1:∀x c,cl.lookup x=some c->X.env.cells.lookup x=some c)(c2:∀x,(x,NameKind.free)∈scope.names->∃c,cl.lookup x=some c)
  (hf:∀b∈fp,FpOk X aU H b)(hfo:∀b∈fp,∃o,s.heap.get? b=some o)(hn:h1.Ns s.heap.objs.size (fun _=>none))(hk:∀b o,s.heap.get? b=some o->h1.get? b=some o) :
  Inv (cxC X N scope cl s.heap.objs.size fp s H) [] (startC k is σ) H {s with heap:=h1,toks:=tk}:=by
 have hC:∀b o,s.heap.get? b=some o->b≠s.heap.objs.size:=fun b o e=>xce (xbt e)
 have nfs:∀b∈fp,b∉frs X.stack:=fun b hb z=>by
  rcases xbr.mp (I.stkSub b z) with e | e
  ·exact(hf b hb).2.1 e
  ·exact(hf b hb).2.2.1 e
 refine⟨⟨I.ok.mod,S.kind,I.ok.glob,I.ok.blt,xbf _,fun x y c e1 e2=>I.ok.inj x y c (c1 x c e1) (c1 y c e2),fun x hx=>?_,fun x c z=>?_,I.ok.hd,I.ok.frames,.inl rfl,fun b hb=>⟨?_,fun x c e=>?_⟩,I.bs,xbb I.ok.bsz I.sz,fun b o e hb=>?_,nfs,I.stack,I.stkFree⟩,
  rfl,I.bare,Un.kept hk,⟨_,hn,fun i x v e1 e2 e3=>?_⟩,fun x c e=>?_,I.hok.fresh (xbf _),fun x c e=>I.freeC x c (c1 x c e),fun p hp=>(nomatch hp),I.hok.kept hk,?_,I.hnd⟩
 ·have hx':(scope.names.map fun(n,k)=>if(k==NameKind.free&&X.env.scope.kind==.function&&X.env.kindOf n==some .cell) then(n,NameKind.cell) else(n,k)).lookup x=some .cell\/(scope.names.map fun(n,k)=>if(k==NameKind.free&&X.env.scope.kind==.function&&X.env.kindOf n==some .cell) then(n,NameKind.cell) else(n,k)).lookup x=some .free:=hx;have q:scope.names.lookup x=some .free:=by
   rcases hx' with z | z
   ·rcases zbt z with q | ⟨_,q⟩
    ·exact absurd rfl (S.nocell _ (zga q))
    ·exact q
   ·rcases zbt z with q | ⟨q,_⟩
    ·exact q
    ·cases q
  exact c2 x (zga q)
 ·cases z
 ·obtain⟨o,e⟩:=hfo b hb;exact hC b o e
 ·exact(hf b hb).2.2.2.2.1 x c (c1 x c e)
 ·rcases(hf b hb).2.2.2.1 with z | z
  ·exact I.ok.noex b o e z
  ·exact absurd (xbh (xbt (I.ok.bs b o e).1) z) (xgm _)
 ·-- a name of the def around
  unfold startC at e2;have hi:k<=i:=by
   rcases xge i k with z | z
   ·rw[xbs (by rw[xfp];exact z),xiv,if_pos z] at e2;cases e2
   ·exact z
  rw[xco (by rw[xfp];exact hi),xfp,xcd] at e2;cases ej:is[i - k]? with
  | none=>rw[ej] at e2;cases e2
  | some j =>
   rw[ej] at e2;have e2':(σ[j]?).getD none=some v:=xcl e2;obtain⟨y,y1,y2,y3⟩:=S.own (i - k) j ej;have ey:y=x:=by
    have z:N[i]?=some y:=by rw[← y1];congr 1;lia
    have e1':N[i]?=some x:=e1;rw[z] at e1';exact xcl e1'
   subst ey;have e4:σ[j]?=some (some v):=by
    cases q:σ[j]? with
    | none=>rw[q] at e2';cases e2'
    | some o=>rw[q] at e2';exact congrArg some e2'
   have kd:=S.frees _ (zga y3) rfl;have vis:Vis X.env.scope y:=.inr kd;obtain⟨m,_,hl⟩:=I.loc;obtain⟨u,r,lk⟩:=hl j y v y2 e4 vis;refine⟨u,r,?_⟩;rcases lk with⟨z,_⟩ | ⟨_,c,e5,cc⟩
   ·rcases kd with q | q<;>(rw[q] at z;cases z)
   ·obtain⟨c',e6⟩:=c2 y (zga y3);have:c'=c:=by
     have z:=c1 y c' e6;rw[e5] at z;exact(xcl z).symm
    subst this;refine .inr ⟨?_,c',e6,?_⟩
    ·rcases e3 with z | z | z
     ·exact absurd (zbt z) (by
       rw[y3];rintro(q | ⟨q,_⟩)
       ·cases q
       ·cases q)
     ·exact .inl z
     ·exact .inr z
    ·obtain⟨o,ho,hd⟩:=cc;exact⟨o,hk _ o ho,hd⟩
 ·obtain⟨v,o,ho,hd⟩:=I.cell x c (c1 x c e);exact⟨v,o,hk _ o ho,hd⟩
 ·unfold startC;rw[xbq,xfp,xbd];exact S.len.symm
theorem zbab {N:List Str}{scope:Scope}{cl:List (Str×Addr)}{fp:List Addr}{σ':St}{H':Hp}{s':Shared}{h':Heap}(I:Inv X aU σ H s)(hf:∀b∈fp,FpOk X aU H b)(J:Inv (cxC X N scope cl s.heap.objs.size fp s H) [] σ' H' s')
  (hs:Heap.SameBut s.heap.objs.size s'.heap h'):Inv X aU σ H' {s' with heap:=h'}:=by
 have hC:∀b o,s.heap.get? b=some o->b≠s.heap.objs.size:=fun b o e=>xce (xbt e)
 have hH:H' s.heap.objs.size=none:=J.free;have B:Un (frs X.stack) fp H H' s.heap s'.heap:=J.base
 have U:Un (frs X.stack) fp H H' s.heap h':=⟨fun b o e n h1 h2=>hs.extBut b o (hC b o e) (B.keep b o e n h1 h2),fun b o e n h1 h2=>by
   obtain⟨sl,q⟩:=B.slot b o e n h1 h2;exact⟨sl,hs.extBut b _ (hC b o e) q⟩,B.free,fun b o e hx=>by
   obtain⟨o',q⟩:=B.there b o e hx
   exact⟨o',hs.extBut b o' (hC b o e) q⟩,B.tups,B.frzs,B.tbls⟩
 refine I.call' (s':={s' with heap:=h'}) J.os U (fun a o e=>?_) J.bare (fun b hb=>⟨(hf b hb).2.2.2.1,(hf b hb).2.1,(hf b hb).2.2.2.2.1,(hf b hb).2.2.2.2.2⟩);refine(J.hok a o e).stay (fun b u hb q=>hs.extBut b u ?_ q) (fun _ q=>q) fun _ _ q=>q
 rcases hb with z | z
 ·intro y;rw[z] at y;rw[y,hH] at e;cases e
 ·intro y;rw[y,hH] at z;cases z
end
structure OffC (X:Cx) (aU:List (Addr×Obj)) (H:Hp) (C:Addr):Prop where
 free:H C=none
 loc:C≠X.env.locals
 young:X.s₀.heap.objs.size<=C
 cell:∀x c,X.env.cells.lookup x=some c->c≠C
 pin:∀p∈X.pn++aU,p.1≠C
theorem OffC.back {X:Cx}{aU:List (Addr×Obj)}{σ:St}{H:Hp}{C:Addr}{s:Shared}{h':Heap}(o:OffC X aU H C)(I:Inv X aU σ H s)(hs:Heap.SameBut C s.heap h'):Inv X aU σ H {s with heap:=h'} :=
 I.turned (t':=s.toks) (fun b u hb e=>hs.extBut b u hb e) o.free o.loc (.inr o.young) o.cell o.pin
noncomputable def nxC (p:Addr) (te:TE) (tc:TT) (N:St->Hp->Prop):St->Hp->Prop:=fun σ2 H3=>tc σ2 H3 fun b H4 =>
 if b=true then te σ2 H4 fun y H5=>∃xs,H5 p=some (.lst xs)/\xs.length < sizeLine/\N σ2 (upd H5 p (.lst (xs++[y]))) else N σ2 H4
noncomputable def CompG (J:It) (g:TG) (tc:TT) (te:TE) (Q:VK) (p:Addr) (σ:St) (H:Hp):Prop:=∃W:Nat->Nat->St->Hp->Prop,(∃m,W 0 m σ H) /\
 ∀i m σ' H',W i m σ' H'->(J.stop i H'/\Q (.ref p) H')\/(J.go i H'/\∃N:St->Hp->Prop,(∀σ2 H2,N σ2 H2->∃m',m' < m/\W (i+1) m' σ2 H2)/\∀x H2,J.yld i H' x H2->g x σ' H2 (nxC p te tc N))
noncomputable def tComp (wi:TI) (k:Nat) (is:List Nat) (g:TG) (tc:TT) (te:TE):TE:=fun σ H Q=>wi σ H fun J H1=>∀p,H1 p=none->CompG J g tc te Q p (startC k is σ) (upd H1 p (.lst []))
noncomputable def tYes:TT:=fun _ H Q=>Q true H
section
variable {X:Cx}{tg iter elt:Expr}{ifs:List Expr}{wi:TI}{g:TG}{tc:TT}{te:TE}{N:List Str}{k:Nat}{is:List Nat}{scope:Scope}{pos:Pos}
noncomputable def PIf (X:Cx) (ifs:List Expr) (t:TT):Prop :=
 ∀(aU:List (Addr×Obj)) (s:Shared) (σ:St) (H:Hp) (Q:Bool->Hp->Prop),Inv X aU σ H s->t σ H Q ->
  wpAny (model X.prog X.w) X.A (forIn ifs true fun c r=>if r=true then do let ok ← isTrue c X.env (eval c X.env);pure (ForInStep.yield ok) else pure (ForInStep.yield r)) (TP X aU σ Q) X.xe s
theorem zbdf:PIf X [] tYes:=fun aU s σ H Q I h=>wpAny_tests_nil ⟨H,I,h⟩
theorem zbde {c:Expr}{t:TT}(h:PT X c t):PIf X [c] t:=fun aU s σ H Q I hq=>wpAny_tests_one (h aU s σ H Q I hq)
theorem zmk (hcalm:X.calm=true)(hg:∀cl C fp s H,PG (cxC X N scope cl C fp s H) tg g)(hc:∀cl C fp s H,PIf (cxC X N scope cl C fp s H) ifs tc)(he:∀cl C fp s H,PE (cxC X N scope cl C fp s H) elt te)
  (S:CompScope X N k is scope){aU:List (Addr×Obj)}{σ:St}{H2:Hp}{s2:Shared}{cl:List (Str×Addr)}{it:Addr}{fp:List Addr}{tn:Nat->Heap->Prop}{J:It}{Q:VK}{E:Value->Shared->Prop}{RR:Value->Addr->Result->Shared->Prop}
  (I2:Inv X aU σ H2 s2)(T:Turn X.prog X.w X.K tg J fp it tn)(st2:tn 0 s2.heap)(f2:∀b∈fp,FpOk X aU H2 b)
  (c1:∀x c,cl.lookup x=some c->X.env.cells.lookup x=some c)(c2:∀x,(x,NameKind.free)∈scope.names->∃c,cl.lookup x=some c)
  (h:∀p,H2 p=none->∃W:Nat->Nat->St->Hp->Prop,(∃m,W 0 m (startC k is σ) (upd H2 p (.lst []))) /\
   ∀i m σ' H',W i m σ' H'->(J.stop i H'/\Q (.ref p) H')\/(J.go i H'/\∃N:St->Hp->Prop,(∀σ2 H2,N σ2 H2->∃m',m' < m/\W (i+1) m' σ2 H2)/\∀x H2,J.yld i H' x H2->g x σ' H2 (nxC p te tc N)))
  (hR:∀(p C:Addr) (s':Shared) (H':Hp) (m:Str->Option Value),OffC X aU H' C->s'.heap.Ns C m->Inv X aU σ H' s'->Q (.ref p) H'->RR (.ref p) C (.ok .next) s') :
  wpAny (model X.prog X.w) X.A (newList []) (fun acc s₃=>wpAny (model X.prog X.w) X.A (newFunctionEnv scope X.env.globals cl [] X.env.qual none .none (some X.env)) (fun cenv s₄ =>
   codeAny (model X.prog X.w) X.A (.compStart (.ListComp elt [⟨tg,iter,ifs,0⟩] scope pos) 0 (.ref it) acc {cenv with scope:=relabel scope X.env}) (RR acc cenv.locals) s₄) E s₃) E s2:=by
 refine xfi ?_;have fresh:H2 s2.heap.objs.size=none:=I2.fresh;have I3:Inv X aU σ (upd H2 s2.heap.objs.size (.lst [])) { s2 with heap:=s2.heap.push { cls:=.type "list", dict:=none, data:=.seq ([]:List Value).toArray } }:=I2.lnew (t':=s2.toks) (.nil) (by decide)
 generalize hs3:({ s2 with heap:=s2.heap.push { cls:=.type "list", dict:=none, data:=.seq ([]:List Value).toArray } }:Shared)=s3 at I3
 have k3:∀b o,s2.heap.get? b=some o->s3.heap.get? b=some o:=fun b o e=>by rw[← hs3];exact xbm _ e
 refine wpAny_newFunctionEnv S.nocell (by intro y hy;simp at hy) (fun h₁ hns₁ hsb₁=>?_) S.kind;have st3:tn 0 s3.heap:=T.keep _ _ _ st2 fun b _ o e=>k3 b o e
 have f3:∀b∈fp,FpOk X aU (upd H2 s2.heap.objs.size (.lst [])) b:=fun b hb=>by
  obtain⟨o,e,_⟩:=T.obj _ _ st2 b hb;exact⟨by rw[zr (xce (xbt e))];exact(f2 b hb).1,(f2 b hb).2⟩
 have k4:∀b o,s3.heap.get? b=some o->h₁.get? b=some o:=fun b o e=>hsb₁.extBut b o (xce (xbt e)) (xbm _ e)
 have J4:=zbaa (tk:=s3.toks+([]:List (Str×Value)).length) S I3 c1 c2 f3 (fun b hb=>let ⟨o,e,_⟩:=T.obj _ _ st3 b hb;⟨o,e⟩) hns₁ k4;obtain⟨W,⟨m0,w0⟩,turn⟩:=h s2.heap.objs.size fresh;have st4:tn 0 h₁:=T.keep _ _ _ st3 fun b _ o e=>k4 b o e
 have loop:codeAny (model X.prog X.w) X.A (.compLoop (.ListComp elt [⟨tg,iter,ifs,0⟩] scope pos) 0 (.ref it) (.ref s2.heap.objs.size) (compEnvC scope cl s3.heap.objs.size X.env)) (RR (.ref s2.heap.objs.size) s3.heap.objs.size) {s3 with heap:=h₁,toks:=s3.toks+([]:List (Str×Value)).length}:=by
  have stat:∀{H':Hp},(∀b∈fp,H' b=none)->∀b∈fp,FpOk (cxC X N scope cl s3.heap.objs.size fp s3 (upd H2 s2.heap.objs.size (.lst []))) [] H' b:=fun {H'} hn b hb=>by
   obtain⟨o,e,_⟩:=T.obj _ _ st3 b hb;refine⟨hn b hb,xce (xbt e),J4.ok.exfs b hb,.inl hb,fun x c e'=>(f3 b hb).2.2.2.2.1 x c (c1 x c e'),fun p hp=>(nomatch hp)⟩
  refine zwo (fun n s'=>∃i σ' H',Inv (cxC X N scope cl s3.heap.objs.size fp s3 (upd H2 s2.heap.objs.size (.lst []))) [] σ' H' s'/\tn i s'.heap/\(∀b∈fp,H' b=none)/\W i n σ' H') ?_ m0
   ⟨0,_,_,J4,st4,fun b hb=>(f3 b hb).1,w0⟩
  rintro n s5 ⟨i,σ5,H5,I5,st5,fr5,w5⟩;rcases turn i n σ5 H5 w5 with⟨stop,q⟩ | ⟨go,N',hN',step⟩
  ·refine thn (T.done (cxC X N scope cl s3.heap.objs.size fp s3 (upd H2 s2.heap.objs.size (.lst []))) rfl rfl rfl hcalm i [] s5 σ5 H5 _ I5 (stat fr5) st5 stop) fun r s6 hq0=>?_
   obtain⟨hr,I6⟩:=hq0;subst hr;obtain⟨m,hm,_⟩:=I6.loc;refine hR _ _ s6 H5 m ⟨I6.free,xko I3.lt,I3.sz,fun x c e=>?_,fun p hp=>xce (xbt (I3.pin p hp).1)⟩ hm (zbab (h':=s6.heap) I3 f3 I6 (.refl ..)) q;obtain⟨v,o,ho,_⟩:=I3.cell x c e;exact xce (xbt ho)
  ·refine thn (T.item (cxC X N scope cl s3.heap.objs.size fp s3 (upd H2 s2.heap.objs.size (.lst []))) rfl rfl rfl hcalm i [] s5 σ5 H5 _ I5 (stat fr5) st5 go) fun r s6 hq0=>?_
   obtain⟨u,hr,h6⟩:=hq0;subst hr;refine thn h6 fun _ s7 hq0=>?_
   obtain⟨x,H7,I7,r7,y7,st7,fr7⟩:=hq0;have I7':=I7.pinned (stat fr7) (T.obj _ _ st7);refine thn (hg cl s3.heap.objs.size fp s3 _ _ s7 σ5 H7 x u _ I7' r7 (step x H7 y7)) fun _ s8 hq0=>?_
   obtain⟨σ8,H8,I8,q8⟩:=hq0;refine thn (hc cl s3.heap.objs.size fp s3 _ _ s8 σ8 H8 _ I8 q8) fun b s9 hq0=>?_
   obtain⟨H9,I9,q9⟩:=hq0;have again:∀{σ':St} {H':Hp} {s':Shared} {m':Nat},Inv (cxC X N scope cl s3.heap.objs.size fp s3 (upd H2 s2.heap.objs.size (.lst []))) ([]++pinsAt fp s7.heap) σ' H' s'->m' < n->W (i+1) m' σ' H' ->
     ∃m,m < n/\∃i σ' H',Inv (cxC X N scope cl s3.heap.objs.size fp s3 (upd H2 s2.heap.objs.size (.lst []))) [] σ' H' s'/\tn i s'.heap/\(∀b∈fp,H' b=none)/\W i m σ' H':=fun {σ' H' s' m'} I' hm w'=>by
    refine⟨m',hm,i+1,σ',H',I'.unpinned,T.keep _ _ _ st7 fun b hb o e=>(I'.pin (b,o) (xdh _ (xdh _ (zfz hb e)))).1,fun b hb=>?_,w'⟩;obtain⟨o,e,d⟩:=T.obj _ _ st7 b hb;exact(I'.pin (b,o) (xdh _ (xdh _ (zfz hb e)))).2.1
   cases b with
   | false =>
    obtain⟨m',hm,w'⟩:=hN' _ _ q9;exact again I9 hm w'
   | true =>
    refine thn (he cl s3.heap.objs.size fp s3 _ _ s9 σ8 H9 _ I9 q9) fun v s10 hq0=>?_
    obtain⟨y,H10,I10,r10,xs,hxs,hz,n10⟩:=hq0;obtain⟨m',hm,w'⟩:=hN' _ _ n10;refine thn (zov (X:=cxC X N scope cl s3.heap.objs.size fp s3 (upd H2 s2.heap.objs.size (.lst []))) _ s10 σ8 H10 (.ref s2.heap.objs.size) [y] _ [v] (fun _ H'=>H'=upd H10 s2.heap.objs.size (.lst (xs++[y]))) I10 rfl (.cons r10 .nil) ⟨_,xs,y,rfl,rfl,hxs,hz,rfl⟩) fun _ s11 hq0=>?_
    obtain⟨_,H11,I11,_,e11⟩:=hq0;subst e11;exact again I11 hm w'
 have hs3':s2.heap.push { cls:=.type "list", dict:=none, data:=.seq ([]:List Value).toArray }=s3.heap:=by rw[← hs3]
 have fin:=codeAny_compStart_list (elt:=elt) (target:=tg) (iter:=iter) (ifs:=ifs) (rest:=[]) (scope:=scope) (pos:=pos) loop (T.self X.A 0 _ _ _ st4 loop);exact fin
theorem zis (S:CompScope X N k is scope){aU:List (Addr×Obj)}{σ:St}{H:Hp}{s:Shared}(I:Inv X aU σ H s) :
  ∃cl,closureFor scope X.env=pure cl/\(∀x c,cl.lookup x=some c->X.env.cells.lookup x=some c)/\∀x,(x,NameKind.free)∈scope.names->∃c,cl.lookup x=some c :=
 ztm fun y hy hf=>I.ok.has y.1 (S.frees y hy hf)
theorem zbdn (hcalm:X.calm=true)(hi:PI X tg iter wi)(hg:∀cl C fp s H,PG (cxC X N scope cl C fp s H) tg g)(hc:∀cl C fp s H,PIf (cxC X N scope cl C fp s H) ifs tc)(he:∀cl C fp s H,PE (cxC X N scope cl C fp s H) elt te)
  (S:CompScope X N k is scope)(hs:∀x,foldedSetIterable iter X.env x=pure x:=by intro _;rfl):PE X (.ListComp elt [⟨tg,iter,ifs,0⟩] scope pos) (tComp wi k is g tc te):=by
 intro aU s σ H Q I h;obtain⟨cl,e,c1,c2⟩:=zis S I;rw[eval_ListComp];refine wpAny_comprehension_free (use:=none) rfl hs e S.kind S.names (thn (hi aU s σ H _ I h) fun xv s1 h1=>thn h1 fun itv s2 h2=>?_);obtain⟨it,fp,tn,J,H2,e2,I2,T,st2,f2,h3⟩:=h2;subst e2;refine zmk (Q:=Q) (RR:=fun acc C=>compPost (model X.prog X.w) X.A X.xe none (EP X aU σ Q) acc C) hcalm hg hc he S I2 T st2 f2 c1 c2 h3 ?_;intro p C s' H' m off hm I' q;exact⟨m,hm,fun h' hs'=>⟨.ref p,H',off.back I' hs',rfl,q⟩⟩
theorem zbcy {i:Nat}{x:Str}{pos':Pos}(hcalm:X.calm=true)(hN:X.N.Nodup)(hxi:X.N[i]?=some x)(hx:Loc X.env.scope x)(hi:PI X tg iter wi)(hg:∀cl C fp s H,PG (cxC X N scope cl C fp s H) tg g)(hc:∀cl C fp s H,PIf (cxC X N scope cl C fp s H) ifs tc)
  (he:∀cl C fp s H,PE (cxC X N scope cl C fp s H) elt te)(S:CompScope X N k is scope){spos:Pos}(hsw:swapsWith (.ListComp elt [⟨tg,iter,ifs,0⟩] scope pos) (some (.Name x pos')) spos.line X.env=pure true:=by rfl)
  (hf:X.fn x=true\/X.env.scope.names.lookup x=some .local:=by first | exact .inl rfl | exact .inr rfl | assumption)
  (hs:∀x,foldedSetIterable iter X.env x=pure x:=by intro _;rfl):PS X (.Assign [.Name x pos'] (.ListComp elt [⟨tg,iter,ifs,0⟩] scope pos) spos) (tAsg (tComp wi k is g tc te) (gName i)):=by
 intro aU s σ H D I h;obtain⟨cl,e,c1,c2⟩:=zis S I;rw[exec_Assign_Name_used (hs:=hsw)];refine xba (xkh (xba (?_:wpAny _ X.A _ _ _ s)));show wpAny _ X.A (do let _ ← comprehension (.ListComp elt [⟨tg,iter,ifs,0⟩] scope pos) scope X.env _ (newList []) false (eval iter X.env) (some (assign (.Name x pos') X.env))) _ _ s
 refine xba (xec (wpAny_comprehension_free (use:=some (assign (.Name x pos') X.env)) (Q:=fun _ s'=>SP X aU D .next s') rfl hs e S.kind S.names
  (thn (hi aU s σ H _ I h) fun xv s1 h1=>thn h1 fun itv s2 h2=>?_)) (fun _ s' hq=>xbk (xbk hq)) fun _ _ e=>e)
 obtain⟨it,fp,tn,J,H2,e2,I2,T,st2,f2,h3⟩:=h2;subst e2;refine zmk (Q:=fun v H'=>gName i v σ H' D.nx) (RR:=fun acc C=>compPost (model X.prog X.w) X.A X.xe (some (assign (.Name x pos') X.env)) (fun _ s'=>SP X aU D .next s') acc C) hcalm hg hc he S I2 T st2 f2 c1 c2 h3 ?_;intro p C s' H' m off hm I' q;show wpAny _ X.A (assign (.Name x pos') X.env (.ref p)) _ _ _;refine wpAny_assign_Name (zok (v:=.ref p) I' hN hxi hx rfl (fun s'' I'' hq0=>?_) hf);obtain⟨a,hsb,ha⟩:=hq0;have hCa:C≠a:=by
  rcases ha with z | z
  ·rw[z];exact off.loc
  ·exact(off.cell x a z).symm
 exact⟨m,hm.sameBut hsb hCa,fun h' hs'=>⟨_,H',off.back I'' hs',q⟩⟩
end
section
variable {g:TG}{tc:TT}{te:TE}{Q:VK}{σ:St}{H:Hp}{p:Addr}
end
noncomputable def Callee (P:Program) (w:World) (K:Fg) (mg:Str->Option Value) (base:Heap) (x:Str) (k:Nat) (ps:List Str) (sp:Sp):Prop :=
 ∃f fd,FnOk P w K mg base CX0 k f fd ps sp/\Binds K fd ps []/\W.keepIn K (.ref f)=true/\mg x=some (.ref f)
section
variable {X:Cx}{x:Str}{k:Nat}{ps:List Str}{sp:Sp}{p pos:Pos}{e:Expr}{es:List Expr}{t:TA}
theorem zzh (c:Callee X.prog X.w X.K X.mg X.base x k ps sp)(hr:Room k X.A)(hg:Gl X x)(ha:PA X (e::es) t)(hdb:(x==("__debug__" : Str))=false:=by decide)
  (he:starEach (e::es) X.env=(false,eval e X.env)::starEach es X.env:=by rfl)(hpl:(backTo pos (starEach es X.env)).any (·.1)=false:=by rfl) :
  PE X (.Call (.Name x p) (e::es) [] pos) (tCall sp [] E0 t):=by
 obtain⟨f,fd,F,b,kp,m⟩:=c;exact zbdp F hr hg m kp b .nil pass0 ha hdb he hpl
end
noncomputable def TopF (K:Fg) (x:Str) (st:Stmt):Prop :=
 ∃f fd,W.nsIn K mainGlobals x=some (some (.ref f))/\Fun K x x st f fd
theorem zby {K:Fg}{x:Str}{st:Stmt}{f:Addr}{od an:Option Addr}{sl:Array (Option Value)}{oc kV dc pm cd ct:Value}
  (a:W.nsIn K mainGlobals x=some (some (.ref f)))(l:K.lookup f=some ⟨oc,od,.func (W.fnOf x x (defArgs st) (defBody st) (defScope st) .none kV dc pm an cd ct),sl⟩)(c:W.codeIn K cd x=true)(k:W.keepIn K (.ref f)=true):TopF K x st :=
 ⟨f,_,a,zbka l c k⟩
theorem zwp {P:Program}{w:World}{K:Fg}{mg:Str->Option Value}{base h:Heap}{x:Str}{st:Stmt}{N ps:List Str}{k:Nat}{sp:Sp}(T:TopF K x st)(X:K.In h)(G:h.Ns mainGlobals mg)(S:FnScope N ps (defScope st))
  (bd:∀(kV doc pm:Value) (an:Option Addr) (cdv ct:Value) (us:List Value),us.length=ps.length->bindArgs (W.fnOf x x (defArgs st) (defBody st) (defScope st) .none kV doc pm an cdv ct) ⟨us,[]⟩=pure (ps.zip us))
  (len:∀vs H Q E,sp vs H Q E->vs.length=ps.length)
  (hbody:∀(f:Addr) (cdv:Value) (A:Around) (outer:List Env) (s:Shared) (H:Hp) (vs:List V) (Q:VK) (E:XK),Room k (A.deeper (envOfC x (defScope st) s.heap.objs.size f cdv))->sp vs H Q E ->
   ∃t,PSs (cxOf CX0 P w K mg base N x (defScope st) f cdv A outer s H E).nox (defBody st) t/\t {nx:=fun _ H'=>Q .non H',rt:=Q} (start N vs) H):Callee P w K mg base x (k+1) ps sp:=by
 obtain⟨f,fd,a,F⟩:=T;exact⟨f,fd,F.ok S len (hbody f),F.binds bd,F.kp,W.mg_of X G a⟩
section
variable {X:Cx}
theorem zcj:CallR X (.builtin "isinstance") (fun xs H Q=>∃ x T t b, xs=[x, .ty T]/\TyOf X.K H x t/\W.kitOne X.K t (.type T)=some b/\Q (.bl b) H):=by
 intro aU s σ H xs us Q I r h;obtain⟨x,T,t,b,rfl,ty,e,q⟩:=h;obtain⟨u,w',rfl,ru,rw'⟩:=vals2 r;cases(show w'=Value.type T from rw');exact zvz I ru ty e fun tk=>⟨.bl b,H,I.tok tk,rfl,q⟩
noncomputable def CDivP (i j:Int):Prop:=0 < j/\j < 2 ^ 1000
theorem zie:OpR X (binaryOp .FloorDiv) (rI CDivP fun i j=>.int (i / j)):=opI fun i j _ _ _ _ _ hc q=>by
 have e:i.fdiv j=i / j:=Int.fdiv_eq_ediv_of_nonneg i (by have:=hc.1;lia);refine floordiv_int (by have:=hc.1;lia) (by rw[e];exact q) (.inl (PyProof.noPylong_of_log2 ?_));have h1:j.natAbs < 2 ^ 1000:=by
  have h2:=hc.1;have h3:=hc.2;have h4:(j.natAbs:Int)=j:=by lia
  have h5:(j.natAbs:Int) < ((2 ^ 1000:Nat):Int):=by
   rw[h4];exact_mod_cast h3
  exact_mod_cast h5
 have h0:j.natAbs≠0:=by have:=hc.1;lia
 have:=(Nat.log2_lt h0).mpr h1;lia
end
section
variable {X:Cx}{st:Stmt}{t:TS}
end
noncomputable def compLook (XN:List Str) (xs:List (Str×NameKind)) (N:List Str) (k:Nat) (is:List Nat) (scope:Scope):Bool :=
 (scope.kind==.function)&&scope.names.all (fun y=>y.2 != .cell)&&scope.names.all (fun y=>y.2 != .local||scope.names.lookup y.1==some .local) &&
 scope.names.all (fun y=>y.2 != .free||(xs.lookup y.1==some .cell||xs.lookup y.1==some .free))&&(N.length==k+is.length) &&
 (List.range is.length).all (fun j=>match is[j]?,N[k+j]? with
  | some i,some x=>XN[i]?==some x&&scope.names.lookup x==some .free
  | _,_=>false)
theorem zds {X:Cx}{N:List Str}{k:Nat}{is:List Nat}{scope:Scope}(h:compLook X.N X.env.scope.names N k is scope=true):CompScope X N k is scope:=by
 unfold compLook at h;simp only[xep,xdy] at h;obtain⟨⟨⟨⟨⟨h1,h2⟩,h3⟩,h4⟩,h5⟩,h6⟩:=h;refine⟨eq_of_beq h1,fun y hy e=>?_,fun y hy e=>?_,fun y hy e=>?_,eq_of_beq h5,fun j i e=>?_⟩
 ·have:=h2 y hy;rw[e] at this;simp at this
 ·have:=h3 y hy;rw[e] at this;simp at this;exact this
 ·have:=h4 y hy;rw[e] at this;simp at this;exact this
 ·have hj:j < is.length:=(xbc.mp e).1;have:=h6 j (xcf.mpr hj);rw[e] at this;cases e2:N[k+j]? with
  | none=>rw[e2] at this;cases this
  | some x =>
   rw[e2] at this;simp only[xep,xfu] at this;exact⟨x,rfl,this.1,this.2⟩
theorem zit:bootBuiltins "len"=some (.builtin "len"):=by decide +kernel
theorem zbli:bootBuiltins "abs"=some (.builtin "abs"):=by decide +kernel
theorem zbbp:bootBuiltins "min"=some (.builtin "min"):=by decide +kernel
theorem zblf:bootBuiltins "max"=some (.builtin "max"):=by decide +kernel
theorem zbgt:bootBuiltins "sum"=some (.builtin "sum"):=by decide +kernel
theorem zed:bootBuiltins "sorted"=some (.builtin "sorted"):=by decide +kernel
theorem zblg:bootBuiltins "any"=some (.builtin "any"):=by decide +kernel
theorem zblh:bootBuiltins "all"=some (.builtin "all"):=by decide +kernel
theorem zbo:bootBuiltins "isinstance"=some (.builtin "isinstance"):=by decide +kernel
theorem zbgv:bootBuiltins "int"=some (.type "int"):=by decide +kernel
theorem zya:bootBuiltins "bool"=some (.type "bool"):=by decide +kernel
theorem zdm:bootBuiltins "tuple"=some (.type "tuple"):=by decide +kernel
theorem zbgu:bootBuiltins "list"=some (.type "list"):=by decide +kernel
theorem zyh {H:Hp}{p:Addr}{o:HO}(h:H p=some o):upd H p o=H:=by
 funext b
 unfold upd;split
 ·subst b;exact h.symm
 ·rfl
section
variable {X:Cx}{K:Fg}
end
end L2
namespace Srt
open PySem PySem.W PyProof.Rows
section
variable (r:Nat->Nat)
noncomputable def lt (i j:Nat):Bool:=decide (r i < r j)
noncomputable def At (p:Array Nat) (i:Nat):Nat:=r (p.getD i 0)
noncomputable def Up (p:Array Nat) (n:Nat):Prop:=∀i j,i<=j->j < n->At r p i<=At r p j
end
section
variable {r:Nat->Nat}{p:Array Nat}{n:Nat}
end
section
variable {n:Nat}
end
section
variable {P:Program}{w:World}{B:Around}{E:Value->Shared->Prop}{st:Shared}
noncomputable def midHeap (h:Heap) (d:Addr) (xs:List Value):Heap:=((h.update d (Obj.mapSeq fun _=>(#[]:Array Value))).push (seqObj "tuple" xs.toArray 0)).push (seqObj "list" #[] 0)
theorem zju {h:Heap}{d b:Addr}{xs:List Value}{ob:Obj}(ne:b≠d)(e:h.get? b=some ob):(midHeap h d xs).get? b=some ob :=
 xbm _ (xbm _ ((Heap.get?_update_ne _ _ _ _ ne).trans e))
noncomputable def Answers (P:Program) (w:World) (B:Around) (r:Nat->Nat) (xs:List Value) (sg:Shared):Prop :=
 ∃κ,(∀R:SortKind->Shared->Prop,R κ sg->wpAny (model P w) B (keyKind' xs.toArray) R (fun _ _=>False) sg) /\
  ∀i j C,i < xs.length->j < xs.length->C (lt r i j) sg->kas_ask P w B κ xs i j C sg
noncomputable def outOf (xs:List Value) (p:Array Nat):Array Value:=List.toArray (p.toList.map fun i=>xs.getD i Value.none)
theorem zuv {xs:List Value}(h:xs.length < 2):(xs.toArray.zip xs.toArray).map (·.2)=outOf xs (List.toArray (List.range xs.length)):=by
 unfold outOf
 match xs,h with
 | [],_=>simp
 | [_],_=>simp[xhi]
 | _::_::_,h=>exact absurd h (by simp)
end
end Srt
namespace Srt
open PySem PySem.W PyProof.Rows HT
theorem zih:∀a:List Int,lexLt a a=false
 | []=>rfl
 | x::a=>by rw[zdp,if_pos rfl];exact zih a
theorem zhj:∀{a b c:List Int},lexLt a b=true->lexLt b c=true->lexLt a c=true
 | _,[],[],_,h=>by rw[zet] at h;cases h
 | _,_::_,[],_,h=>by rw[zeb] at h;cases h
 | [],[],_::_,h,_=>by rw[zet] at h;cases h
 | _::_,[],_::_,h,_=>by rw[zeb] at h;cases h
 | [],_::_,_::_,_,_=>zcs _ _
 | x::a,y::b,z::c,h1,h2=>by
  rw[zdp] at h1 h2 ⊢;by_cases e1:x=y
  ·rw[if_pos e1] at h1;subst e1;by_cases e2:x=z
   ·rw[if_pos e2] at h2 ⊢;exact zhj h1 h2
   ·rw[if_neg e2] at h2 ⊢;exact h2
  ·rw[if_neg e1] at h1;have h1':=xdu h1;by_cases e2:y=z
   ·subst e2;rw[if_neg e1];exact h1
   ·rw[if_neg e2] at h2;have h2':=xdu h2;rw[if_neg (by lia)];exact xbw (by lia)
theorem zow:∀a b:List Int,lexLt a b=true\/a=b\/lexLt b a=true
 | [],[]=>.inr (.inl rfl)
 | [],_::_=>.inl (zcs _ _)
 | _::_,[]=>.inr (.inr (zcs _ _))
 | x::a,y::b=>by
  rw[zdp,zdp];by_cases e:x=y
  ·subst e;rw[if_pos rfl,if_pos rfl];rcases zow a b with h | h | h
   ·exact .inl h
   ·exact .inr (.inl (by rw[h]))
   ·exact .inr (.inr h)
  ·rw[if_neg e,if_neg (fun z=>e z.symm)];rcases Int.lt_or_gt_of_ne e with h | h
   ·exact .inl (xbw h)
   ·exact .inr (.inr (xbw h))
theorem zvv {a b:List Int}(h:lexLt a b=true):lexLt b a=false:=by
 cases e:lexLt b a with
 | false=>rfl
 | true=>have:=zhj h e;rw[zih] at this;cases this
theorem ztk {p q:Nat->Bool}(hpq:∀x,p x=true->q x=true):∀{l:List Nat} {y:Nat},y∈l->q y=true->p y=false->l.countP p < l.countP q
 | [],_,h,_,_=>nomatch h
 | x::l,y,h,h1,h2=>by
  have mono:∀l:List Nat,l.countP p<=l.countP q:=fun l=>List.countP_mono_left fun x _=>hpq x
  rcases xbr.mp h with rfl | h
  ·rw[xha h1,xix (by rw[h2];decide)];exact Nat.lt_succ_of_le (mono l)
  ·have ih:=ztk hpq h h1 h2;by_cases c:p x=true
   ·rw[xha c,xha (hpq x c)];lia
   ·rw[xix c];by_cases d:q x=true
    ·rw[xha d];lia
    ·rw[xix d];exact ih
noncomputable def rank (ks:List (List Int)) (i:Nat):Nat:=(List.range ks.length).countP fun k=>lexLt (ks.getD k []) (ks.getD i [])
theorem zrv {ks:List (List Int)}{i j:Nat}(hi:i < ks.length)(hj:j < ks.length):lt (rank ks) i j=lexLt (ks.getD i []) (ks.getD j []):=by
 have up:∀{a b:Nat},a < ks.length->lexLt (ks.getD a []) (ks.getD b [])=true->rank ks a < rank ks b:=fun {a b} ha h =>
  ztk (fun x hx=>zhj hx h) (xcf.mpr ha) h (zih _)
 cases e:lexLt (ks.getD i []) (ks.getD j []) with
 | true=>exact xbw (up hi e)
 | false =>
  refine xbu fun h=>?_
  rcases zow (ks.getD i []) (ks.getD j []) with z | z | z
  ·rw[e] at z;cases z
  ·unfold rank at h;rw[z] at h;exact absurd h (xgm _)
  ·have:=up hj z;lia
section
variable {prog:Program}{w:World}{A:Around}{s:Shared}{b:Bool}{Q:Bool->Shared->Prop}
theorem zst:∀{us ws:List Value} {ns ms:List Int} (i:Nat),IntsAre us ns->IntsAre ws ms->Q (lexLt ns ms) s->KatLex prog w A b (decide (us.length < ws.length)) Q (us.zip ws) i s
 | _,_,_,_,_,.nil,.nil,h=>h
 | _,_,_,_,_,.nil,.cons _ _ _,h=>h
 | _,_,_,_,_,.cons _ _ _,.nil,h=>h
 | _,_,_,_,i,.cons x t (vs:=us) (ns:=ns) r1,.cons y u (vs:=ws) (ns:=ms) r2,h=>by
  rw[zdp] at h;refine kat_cons (wpAny_eqBool_int (kat_go (fun e=>kat_yes ?_) fun e=>kat_no ?_))
  ·rw[if_pos (eq_of_beq e)] at h;have q:=zst (i+1) r1 r2 h;have ee:decide ((Value.int x t::us).length < (Value.int y u::ws).length)=decide (us.length < ws.length):=by
    rw[xbv,xbv,xeo];simp
   rw[ee];exact q
  ·rw[if_neg (xfz.mp e)] at h;cases hb:(b&&i==0) with
   | true=>exact oneLt_int h
   | false=>exact kat_one _ _ (PyProof.Rows.lt_int h)
end
end Srt
namespace L2
open PySem PySem.Spec PyProof.Rows PySem.W
theorem zoh:∀{as:List Addr} {us:List Value},Vals (as.map V.ref) us->us=as.map Value.ref
 | [],_,.nil=>rfl
 | a::as,_,.cons r t=>by
  rw[show _=Value.ref a from r,zoh t]
  rfl
noncomputable def TupsAt (K:Fg) (H:Hp) (ps:List (Addr×List Int)):Prop:=∀p∈ps,SqT K H p.1 (p.2.map V.int)
theorem zp {α β:Type}(f:α->β)(d:β){l:List α}{i:Nat}{x:α}(h:l[i]?=some x):(l.map f).getD i d=f x:=by
 rw[xbg,xcd,h]
 rfl
section
variable {X:Cx}
end
end L2
namespace L2
open PySem PySem.Spec PyProof.Rows
mutual
inductive DAt (K:Fg) (H:Hp):V->PyData->Prop
 | non:DAt K H .non .none
 | bl (b:Bool):DAt K H (.bl b) (.bool b)
 | int (i:Int):DAt K H (.int i) (.int i)
 | str (x:Str):DAt K H (.str x) (.str x)
 | lst {a:Addr} {xs:List V} {ds:List PyData}:SqL K H a xs->DAll K H xs ds->DAt K H (.ref a) (.list ds)
 | tup {a:Addr} {xs:List V} {ds:List PyData}:SqT K H a xs->DAll K H xs ds->DAt K H (.ref a) (.tuple ds)
inductive DAll (K:Fg) (H:Hp):List V->List PyData->Prop
 | nil:DAll K H [] []
 | cons {x:V} {xs:List V} {d:PyData} {ds:List PyData}:DAt K H x d->DAll K H xs ds->DAll K H (x::xs) (d::ds)
end
section
variable {X:Cx}{aU:List (Addr×Obj)}{σ:St}{H:Hp}{s:Shared}
mutual
theorem zic (I:Inv X aU σ H s):∀{v:V} {d:PyData} {u:Value},DAt X.K H v d->RelV v u->∃as,Reads s.heap u d as
 | _,_,_,.non,r=>by cases r;exact⟨_,.none⟩
 | _,_,_,.bl b,r=>by cases r;exact⟨_,.bool b⟩
 | _,_,_,.int i,r=>by obtain⟨t,rfl⟩:=r;exact⟨_,.int i t⟩
 | _,_,_,.str x,r=>by obtain⟨t,rfl⟩:=r;exact⟨_,.str x t⟩
 | _,_,_,.lst h all,r=>by
  cases r;obtain⟨its,rv,⟨o,n,e,c,_,dd⟩,_⟩:=I.list h;obtain⟨as,q⟩:=zgr I all rv;exact⟨_,.list e c dd q⟩
 | _,_,_,.tup h all,r=>by
  cases r;obtain⟨its,rv,⟨o,e,c,n,dd⟩,_⟩:=I.tuple h;obtain⟨as,q⟩:=zgr I all rv;exact⟨_,.tuple e c dd q⟩
theorem zgr (I:Inv X aU σ H s):∀{vs:List V} {ds:List PyData} {us:List Value},DAll X.K H vs ds->Vals vs us->∃as,ReadsAll s.heap us ds as
 | _,_,_,.nil,.nil=>⟨_,.nil⟩
 | _,_,_,.cons h t,.cons r rs=>by
  obtain⟨as,q⟩:=zic I h r;obtain⟨bs,q'⟩:=zgr I t rs;exact⟨_,.cons q q'⟩
end
end
noncomputable def rEqX (K:Fg) (neg:Bool):R2:=fun x y H Q=>∃dx dy,DAt K H x dx/\DAt K H y dy/\PySem.SeqAt.shaped dx=true/\PySem.SeqAt.shaped dy=true/\Q (.bl (if neg then !PyData.eqv dx dy else PyData.eqv dx dy)) H
section
variable {X:Cx}
theorem zvk (hu:X.A.units+64 < cLine):OpR X (compareOp .Eq) (rEqX X.K false):=by
 intro aU s σ H x y v u Q I r1 r2 h;obtain⟨dx,dy,a1,a2,a3,a4,q⟩:=h;obtain⟨as,ra⟩:=zic I a1 r1;obtain⟨bs,rb⟩:=zic I a2 r2;exact eq_dataH ra rb a3 a4 hu ⟨.bl (PyData.eqv dx dy),H,I,rfl,q⟩
theorem zbje (hu:X.A.units+64 < cLine):OpR X (compareOp .NotEq) (rEqX X.K true):=by
 intro aU s σ H x y v u Q I r1 r2 h;obtain⟨dx,dy,a1,a2,a3,a4,q⟩:=h;obtain⟨as,ra⟩:=zic I a1 r1;obtain⟨bs,rb⟩:=zic I a2 r2;exact ne_dataH ra rb a3 a4 hu ⟨.bl (!PyData.eqv dx dy),H,I,rfl,q⟩
end
noncomputable def dI (ns:List Int):List PyData:=ns.map PyData.int
noncomputable def dRow (ns:List Int):PyData:=.tuple (dI ns)
theorem zbgn:∀a b:List Int,PyData.eqvAll (dI a) (dI b)=decide (a=b)
 | [],[]=>by rfl
 | [],_::_=>by rfl
 | _::_,[]=>by rfl
 | x::a,y::b=>by
  show(x==y&&PyData.eqvAll (dI a) (dI b))=_;rw[zbgn a b,xeo];simp
theorem zbbk (a b:List Int):PyData.eqv (dRow a) (dRow b)=decide (a=b):=zbgn a b
theorem zpp:∀a b:List (List Int),PyData.eqvAll (a.map dRow) (b.map dRow)=decide (a=b)
 | [],[]=>by rfl
 | [],_::_=>by rfl
 | _::_,[]=>by rfl
 | x::a,y::b=>by
  show(PyData.eqv (dRow x) (dRow y)&&PyData.eqvAll (a.map dRow) (b.map dRow))=_;rw[zpp a b,zbbk,xeo];simp
theorem zbgm:∀a:List Int,PyData.canLayAll0 (dI a)=true/\PyData.depthAll (dI a)=0
 | []=>⟨rfl,rfl⟩
 | x::a=>by
  obtain⟨h1,h2⟩:=zbgm a;refine⟨?_,?_⟩
  ·show(true&&PyData.canLayAll0 (dI a))=true;rw[h1];rfl
  ·show max 0 (PyData.depthAll (dI a))=0;rw[h2];rfl
theorem zpo:∀a:List (List Int),PyData.canLayAll0 (a.map dRow)=true/\PyData.depthAll (a.map dRow)<=1
 | []=>⟨rfl,xeg _⟩
 | x::a=>by
  obtain⟨h1,h2⟩:=zpo a;obtain⟨h3,h4⟩:=zbgm x;refine⟨?_,?_⟩
  ·show(PyData.canLayAll0 (dI x)&&PyData.canLayAll0 (a.map dRow))=true;rw[h1,h3];rfl
  ·show max (PyData.depthAll (dI x)+1) (PyData.depthAll (a.map dRow))<=1;rw[h4];lia
theorem zir (a:List (List Int)):PySem.SeqAt.shaped (.tuple (a.map dRow))=true:=by
 obtain⟨h1,h2⟩:=zpo a;show(PyData.canLayAll0 (a.map dRow)&&decide (PyData.depthAll (a.map dRow)+1<=64))=true;rw[h1,xbw (by lia)];rfl
section
variable {X:Cx}
theorem zlr:∀{bs:List Bool} {us:List Value},Vals (bs.map V.bl) us->us=bs.map Value.bool
 | [],_,.nil=>rfl
 | b::bs,_,.cons r t=>by
  rw[show _=Value.bool b from r,zlr t]
  rfl
theorem zva (bs:List Bool):((List.range bs.length).any fun i=>bs.getD i false)=bs.any id:=by
 rw[xeo];simp only[xkq,xcf];constructor
 ·rintro⟨i,hi,h⟩;rw[xbg,xbe hi] at h;exact⟨bs[i],xdz hi,h⟩
 ·rintro⟨b,hb,h⟩;obtain⟨i,hi,rfl⟩:=xea hb;exact⟨i,hi,by rw[xbg,xbe hi];exact h⟩
theorem zvb (bs:List Bool):((List.range bs.length).all fun i=>bs.getD i false)=bs.all id:=by
 rw[xeo];simp only[xdy,xcf];constructor
 ·intro h b hb;obtain⟨i,hi,rfl⟩:=xea hb;have:=h i hi;rw[xbg,xbe hi] at this;exact this
 ·intro h i hi;rw[xbg,xbe hi];exact h _ (xdz hi)
noncomputable def rAny (K:Fg) (al:Bool):List V->Hp->VK->Prop:=fun xs H Q=>∃(l:Addr) (bs:List Bool),xs=[.ref l]/\SqL K H l (bs.map V.bl)/\Q (.bl (if al then bs.all id else bs.any id)) H
theorem zpz {prog:Program}{w:World}{A:Around}(bs:List Bool):TruthOf prog w A (fun i v=>(bs.map Value.bool).toArray[i]?=some v) (fun i=>bs.getD i false):=fun i v s Q E hP hQ=>by
 have hP':(bs.map Value.bool)[i]?=some v:=by simpa using hP
 rw[xcd] at hP';cases e:bs[i]? with
 | none=>rw[e] at hP';cases hP'
 | some b =>
  rw[e] at hP';cases hP';dsimp only at hQ;rw[xbg,e] at hQ;exact xei hQ
theorem zty (hc:X.calm=true){aU:List (Addr×Obj)}{σ:St}{H:Hp}{s:Shared}{l:Addr}{bs:List Bool}{R:Bool->Prop}(I:Inv X aU σ H s)(hl:SqL X.K H l (bs.map V.bl)){Q:Value->Shared->Prop}{F:(Nat->Bool)->Nat->Bool}
  (hQ:∀s',Inv X aU σ H s'->Q (.bool (F (fun i=>bs.getD i false) bs.length)) s') :
  wpAny (model X.prog X.w) X.A.in1 (pyIter (.ref l)) (fun it s₂=>∃I fp wr n P St tr,it=.ref I/\Walks X.prog X.w X.A.in1 I fp wr n P St/\St 0 s₂.heap/\TruthOf X.prog X.w X.A.in1 P tr /\
   ∀h' tk,(∀b o,b∉wr->s₂.heap.get? b=some o->h'.get? b=some o)->Q (.bool (F tr n)) {s₂ with heap:=h',toks:=tk}) X.xe s:=by
 obtain⟨its,rv,pl,hz⟩:=I.list hl;have e:=zlr rv;subst e;have hlt:l < s.heap.objs.size:=by obtain⟨o,n,e,_⟩:=pl;exact xbt e
 refine xkk pl.isList ?_;refine⟨s.heap.objs.size,_,[s.heap.objs.size],_,_,_,_,rfl,Walks.list (A:=X.A.in1) (I.ok.hd hc) _ l (xce hlt) (bs.map Value.bool).toArray,⟨⟨_,xch _ rfl,rfl,rfl⟩,pl.isList.push _⟩,zpz bs,fun h' tk hk=>?_⟩;have e2:(bs.map Value.bool).toArray.size=bs.length:=by simp
 rw[e2];refine hQ _ ?_;refine I.kept (t':=tk) fun b o e=>hk b o ?_ (xbm _ e)
 intro z;have z':b=s.heap.objs.size:=by simpa using z
 have z2:=xbt e;rw[z'] at z2;exact absurd z2 (xgm _)
theorem zbbm (hc:X.calm=true):CallR X (.builtin "any") (rAny X.K false):=by
 intro aU s σ H xs us Q I r h;obtain⟨l,bs,rfl,hl,q⟩:=h;obtain⟨u,rfl,ru⟩:=vals1 r;cases ru;refine call_any_walk (zty (R:=fun _=>True) hc I hl (F:=fun tr n=>(List.range n).any tr) fun s' I'=>⟨.bl ((List.range bs.length).any fun i=>bs.getD i false),H,I',rfl,?_⟩);rw[zva];exact q
theorem zbbn (hc:X.calm=true):CallR X (.builtin "all") (rAny X.K true):=by
 intro aU s σ H xs us Q I r h;obtain⟨l,bs,rfl,hl,q⟩:=h;obtain⟨u,rfl,ru⟩:=vals1 r;cases ru;refine call_all_walk (zty (R:=fun _=>True) hc I hl (F:=fun tr n=>(List.range n).all tr) fun s' I'=>⟨.bl ((List.range bs.length).all fun i=>bs.getD i false),H,I',rfl,?_⟩);rw[zvb];exact q
end
end L2
namespace Dct
open PySem PySem.W PyProof.Rows
noncomputable def Raw (h:Heap) (d:Addr) (es:Array DictEntry) (ep:Nat):Prop:=∃ob,h.get? d=some ob/\ob.ExactDict/\ob.data=.dict es ep
theorem Raw.kept {h h':Heap}{d:Addr}{es:Array DictEntry}{ep:Nat}(x:Raw h d es ep)(k:∀ob,h.get? d=some ob->h'.get? d=some ob):Raw h' d es ep :=
 let ⟨ob,e,r⟩:=x;⟨ob,k ob e,r⟩
theorem Raw.lt {h:Heap}{d:Addr}{es:Array DictEntry}{ep:Nat}(x:Raw h d es ep):d < h.objs.size:=let ⟨_,e,_⟩:=x;xbt e
theorem Raw.is {st:Shared}{d:Addr}{es:Array DictEntry}{ep:Nat}(x:Raw st.heap d es ep):st.TypeIs (.ref d) "dict":=let ⟨ob, e, c, _⟩:=x; ⟨ob, e, c.1⟩
section
variable {P:Program}{w:World}{B:Around}{E:Value->Shared->Prop}{st:Shared}{d it:Addr}{es:Array DictEntry}{ep k:Nat}
noncomputable def iterObj (d:Addr) (n ep:Nat):Obj:={ cls:=.type "dict_keyiterator", data:=.fields #[.ref d, .int 0 0, .int n 0, .int ep 0] }
theorem zru {W:Value->Shared->Prop}(ns:(d==sysModules)=false)(x:Raw st.heap d es ep)(fin:W (.ref st.heap.objs.size) {st with heap:=st.heap.push (iterObj d es.size ep)}):wpAny (model P w) B (pyIter (.ref d)) W E st:=by
 obtain⟨ob,e,c,dt⟩:=id x;have ty:=x.is;refine wpAny_pyIter_slot ty F.slot_dict_iter (xfn F.slot_dict_iter ty F.entry_dict_iter ?body (F.args_dict_iter_1 _))
 case body =>
  unfold Builtin.«dict.__iter__» Builtin.Dict.dictSlotNone Builtin.Dict.showsAll;refine xba (xba (wpAny_notOrdered_dict ty (xbk ?_)));show wpAny _ _ ((if(d==sysModules)=true then _ else _) >>= _) _ _ st;rw[if_neg (fun z=>xfo (ns.symm.trans z))];refine xba (xbk (xba (xhs e dt (xba (wpAny_dictEpoch e dt (xba (xfi (xbk ⟨_, rfl, "dict_keyiterator", _,⟨_, xch _ rfl, rfl⟩, xfa.lookup, ?_⟩))))))))
  exact fin
theorem zrt {W:Option Value->Shared->Prop}{en:DictEntry}(hi:st.heap.IsKeyIter it d k es.size ep)(x:Raw st.heap d es ep)(hk:es[k]?=some en)
  (fin:∀g:Heap,g.IsKeyIter it d (k+1) es.size ep->Heap.SameBut it st.heap g->W (some en.key) {st with heap:=g}):wpAny (model P w) B (pyNext (.ref it)) W E st:=by
 obtain⟨oi,ei,ci,di⟩:=id hi;obtain⟨ob,e,c,dt⟩:=id x;have lt:k < es.size:=(Array.getElem?_eq_some_iff.mp hk).1;unfold pyNext;refine xba (wpAny_attempt (wpAny_callSpecial?_slot (name:=Str.ofString "__next__") hi.typeIs xfa (xfn xfa hi.typeIs F.entry_dict_keyiterator_next ?body (F.args_dict_keyiterator_next_1 _))))
 case body =>
  refine xba (xbk (xba (xba (xba (xfx hi.typeIs (xbk (xba (wpAny_fieldsOf ei di ?_))))))));simp only[show Builtin.Dict_items.ownsTuple "dict_keyiterator"=false from by decide, xdj, ite_false]
  show wpAny _ _ (if(Value.ref d==Value.none)=true then _ else _) _ _ st;have nn:¬ (Value.ref d==Value.none)=true:=xfo;rw[if_neg nn];refine xba (xbk (xba (xhs e dt ?_)));rw[if_neg (by simp)];refine xba (xbk (xba (wpAny_dictEpoch e dt ?_)));rw[if_neg (by simp)];refine xbk ?_;simp only[show ¬ ((k:Int) < 0) from by lia,ite_false,xgo,hk];refine xba (xba (xfx hi.typeIs (xbk (xba (wpAny_isOneOf_keyiter hi.typeIs ?_)))));show wpAny _ _ (setField (.ref it) 1 (rawInt ((k:Int)+1)) >>= _) _ _ st;refine xba (xka ei di (by simp) ?_);have hi':(st.heap.update it (Obj.mapFields (·.setIfInBounds 1 (rawInt ((k:Int)+1))))).IsKeyIter it d (k+1) es.size ep :=
   ⟨_,xht _ ei (Obj.isFreed_of_fields (xim di _)),(Obj.cls_mapFields ..).trans ci,by rw[xim di];simp[rawInt]⟩
  refine xba (xeq (xba (wpAny_isOneOf_keyiter (s:={st with heap:=st.heap.update it (Obj.mapFields (·.setIfInBounds 1 (rawInt ((k:Int)+1))))}) hi'.typeIs ?_)));show wpAny _ _ (pure en.key) _ _ _;exact xbk (xbk ⟨_,rfl,xbk (fin _ hi' (xgw ..))⟩)
theorem zwz {W:Option Value->Shared->Prop}(hh:B.handled=none)(hi:st.heap.IsKeyIter it d k es.size ep)(x:Raw st.heap d es ep)(hk:es.size<=k)
  (fin:∀g:Heap,Heap.ExtBut it st.heap g->W none {st with heap:=g}):wpAny (model P w) B (pyNext (.ref it)) W E st:=by
 obtain⟨oi,ei,ci,di⟩:=id hi;obtain⟨ob,e,c,dt⟩:=id x;unfold pyNext;refine xba (wpAny_attempt (wpAny_callSpecial?_slot (name:=Str.ofString "__next__") hi.typeIs xfa (xfn xfa hi.typeIs F.entry_dict_keyiterator_next ?body (F.args_dict_keyiterator_next_1 _))))
 case body =>
  refine xba (xbk (xba (xba (xba (xfx hi.typeIs (xbk (xba (wpAny_fieldsOf ei di ?_))))))));simp only[show Builtin.Dict_items.ownsTuple "dict_keyiterator"=false from by decide, xdj, ite_false]
  show wpAny _ _ (if(Value.ref d==Value.none)=true then _ else _) _ _ st;have nn:¬ (Value.ref d==Value.none)=true:=xfo;rw[if_neg nn];refine xba (xbk (xba (xhs e dt ?_)));rw[if_neg (by simp)];refine xba (xbk (xba (wpAny_dictEpoch e dt ?_)));rw[if_neg (by simp)];refine xbk ?_;simp only[show ¬ ((k:Int) < 0) from by lia,ite_false,xgo,xji hk];refine xba (xba (xfx hi.typeIs (xbk ?_)));show wpAny _ _ (setField (.ref it) 0 .none >>= _) _ _ st;refine xba (xka ei di (by simp) ?_);show wpAny _ _ (newExc (.type "StopIteration") [] >>= _) _ _ _
  refine xba ?_;simp only[newExc,newTuple];refine xba (xfi (xba (m:=firstArgMember _ _) (wpAny_of_eq (a:=Value.none) (by first | rfl | (simp only[firstArgMember];rfl)) (xfi ?_ (by size_fits)))) (by size_fits));simp only[raiseNew];refine xba (wpAny_handled ?_);rw[show B.in1.handled=none from hh];refine xba (xbk (wpAny_throw ?_));refine xba (wpAny_isInstance (T:="StopIteration") (b:=true) ?_ isSubtype_stop (xbk (fin _ (((xgw ..).extBut.push _).push _))))
  exact⟨_,xch _ rfl,rfl⟩
theorem zuz (hh:B.handled=none)(ne:d≠it)(es:Array DictEntry)(ep:Nat) :
  Walks P w B it [it,d] [it] es.size (fun i v=>∃en,es[i]?=some en/\v=en.key) (fun i h=>h.IsKeyIter it d i es.size ep/\Raw h d es ep) where
 sub:=fun b hb=>xbr.mpr (.inl (xcn.mp hb))
 frame:=fun _ _ _ z hk=>⟨z.1.at fun o e=>hk it xcr o e,z.2.kept fun o e=>hk d (xbi _ (xcn.mpr rfl)) o e⟩
 item:=fun i sh W' E' hi z hQ=>by
  have hx:es[i]?=some es[i]:=xih hi;exact zrt z.1 z.2 hx fun g a b=>hQ es[i].key g sh.toks ⟨_,hx,rfl⟩ ⟨a,z.2.kept fun o e=>b.extBut d o ne e⟩ fun c o hc e=>b.extBut c o (fun q=>hc (xcn.mpr q)) e
 done:=fun sh W' E' z hQ=>zwz hh z.1 z.2 (xbf _) fun g b=>hQ g sh.toks fun c o hc e=>b c o (fun q=>hc (xcn.mpr q)) e
 self:=fun _ _ _ _ z hQ=>wpAny_pyIter_keyiter z.1 hQ
theorem zwy (ns:(d==sysModules)=false)(es:Array DictEntry)(ep:Nat):KdlSrc P w "dict" d d es.size (fun i v=>∃ en, es[i]?=some en/\v=en.key) (fun h=>Raw h d es ep) where
 type:=fun _ x=>x.is
 there:=fun _ x=>⟨x.lt,x.lt⟩
 keep:=fun _ _ x hk=>x.kept fun o e=>hk d (.inl rfl) o e
 notList:=by decide
 notTuple:=by decide
 hint:=fun _ _ _ _ x hq=>kdl_hint_dict x.is hq
 iter:=fun _ sh hh x=>⟨_,_,fun _ _ hq=>zru ns x hq,zuz hh (xce x.lt) es ep,⟨⟨_,xch _ rfl,rfl,rfl⟩,x.kept fun o e=>xbm _ e⟩⟩
end
end Dct
namespace Srt
open PySem PySem.W PyProof.Rows
section
variable {P:Program}{w:World}{B:Around}{E:Value->Shared->Prop}{st:Shared}
end
end Srt
namespace L2
open PySem PySem.Spec PyProof.Rows
theorem ObjOk.ob {P:Program}{w:World}{H:Hp}{h:Heap}{a:Addr}{o:HO}(x:ObjOk P w H h a o):∃ob,h.get? a=some ob:=by
 cases o with
 | lst xs=>obtain⟨_,_,_,_,e⟩:=x;exact⟨_,e⟩
 | tup xs=>obtain⟨_,_,_,ob,e,_⟩:=x;exact⟨_,e⟩
 | dK kvs=>obtain⟨_,_,_,_,ob,_,_,e,_⟩:=x;exact⟨_,e⟩
 | dT kvs=>obtain⟨_,_,_,_,ob,_,_,e,_⟩:=x;exact⟨_,e⟩
 | set S n=>obtain⟨ob,_,_,_,e,_⟩:=x;exact⟨_,e⟩
 | ins C dx fs=>obtain⟨_,_,_,e,_⟩:=x;exact⟨_,e⟩
 | own y=>obtain⟨_,e⟩:=x;exact⟨_,e⟩
 | xd fs=>obtain⟨_,⟨_,_,_,e,_⟩,_⟩:=x;exact⟨_,e⟩
 | rng lo hi=>obtain⟨_,_,_,e⟩:=x;exact⟨_,e⟩
 | frz ob u=>obtain⟨e,_⟩:=x;exact⟨_,e⟩
 | tbl ps=>exact⟨_,(show h.get? a=some _ from x)⟩
 | met f y=>exact⟨_,(show h.get? a=some _ from x)⟩
 | ext φ=>obtain⟨_,⟨_,e⟩,_⟩:=x;exact⟨_,e⟩
section
variable {X:Cx}{aU:List (Addr×Obj)}{σ:St}{H:Hp}{s:Shared}
theorem Inv.away (I:Inv X aU σ H s){q:Addr}(ne:∀b ob,s.heap.get? b=some ob->b≠q):H q=none:=by
 cases e:H q with
 | none=>rfl
 | some o =>
  obtain⟨ob,z⟩:=(I.hok q o e).ob;exact absurd rfl (ne q ob z)
theorem Inv.laidN {q:Addr}{o:HO}{g:Heap}{t':Nat}(I:Inv X aU σ H s)(k:∀b u,s.heap.get? b=some u->g.get? b=some u)(ne:∀b ob,s.heap.get? b=some ob->b≠q)(new:ObjOk X.prog X.w (upd H q o) g q o) :
  Inv X aU σ (upd H q o) {s with heap:=g,toks:=t'}:=by
 have hn:=I.away ne;have off:∀{b:Addr} {u:HO},H b=some u->upd H q o b=some u:=fun {b u} e=>by rw[zr (zq e hn)];exact e
 refine I.un ⟨fun b u e _ _ _=>k b u e,fun b u e _ _ _=>⟨u.slots,k b u e⟩,fun b u e n _=>by rw[zr (ne b u e)];exact n,fun b u e _=>⟨u,k b u e⟩,fun b xs e=>off e,fun b ob u e=>off e,fun b ps e=>⟨#[],by rw[off e];simp⟩⟩ fun b u e=>?_
 by_cases hb:b=q
 ·subst hb;rw[zbc] at e;cases e;exact new
 ·rw[zr hb] at e;exact(I.hok b u e).stay (fun c v _ z=>k c v z) (fun c z=>off z) fun c xs z=>off z
end
theorem zxn (ns:List Int):(ns.map (Sum.inl:Int->Key)).map kV=ns.map V.int:=by rw[xdl];rfl
theorem ziq {P:Program}{w:World}{H:Hp}{kvs:List (List Key×V)}:∀{ks:List (List Int)} {xs:List (List Key×Addr×Value)},
  Paired (fun(p:List Key×V) (q:List Key×Addr×Value)=>p.1=q.1/\H q.2.1=some (.tup (p.1.map kV))/\RelV p.2 q.2.2) kvs xs->kvs.map (·.1)=ks.map (fun ns=>ns.map Sum.inl) ->
   ∃ps:List (Addr×List Int),ps.map (·.2)=ks/\(∀p∈ps,H p.1=some (.tup (p.2.map V.int)))/\xs.map (fun q=>(entryOfKey (tupleKind (mixKind P w)) q).key)=ps.map fun p=>Value.ref p.1:=by
 induction kvs with
 | nil =>
  intro ks xs r e;cases r;cases ks with
  | nil=>exact⟨[],rfl,fun p hp=>(nomatch hp),rfl⟩
  | cons x ks=>cases e
 | cons kv kvs ih =>
  intro ks xs r e;cases r with
  | cons r rs =>
   cases ks with
   | nil=>cases e
   | cons ns ks =>
    rw[xbp,xbp] at e;injection e with e1 e2
    obtain⟨ps,a1,a2,a3⟩:=ih rs e2;rename_i b _;obtain⟨r1,r2,r3⟩:=r;refine⟨(b.2.1,ns)::ps,by rw[xbp,a1],fun p hp=>?_,by rw[xbp,xbp,a3];rfl⟩;rcases xbr.mp hp with z | z
    ·subst z;rw[e1,zxn] at r2;exact r2
    ·exact a2 p z
open PySem.W in
theorem zbbu {P:Program}{w:World}{B:Around}{sg:Shared}{ps:List (Addr×List Int)}(h2:2<=ps.length)
  (tup:∀(i:Nat) (p:Addr×List Int), ps[i]?=some p->∃(us:List Value) (o:Obj) (n:Nat), IntsAre us p.2/\sg.heap.get? p.1=some o/\o.cls=.type "tuple"/\o.data=.seq us.toArray n/\p.2≠[]) :
  Srt.Answers P w B (Srt.rank (ps.map (·.2))) (ps.map fun p=>Value.ref p.1) sg:=by
 refine⟨tuples' true,fun R hq=>?_,fun i j C hi hj hC=>?_⟩
 ·have kt:∀(l:List (Addr×List Int)),(∀p∈l,∃i:Nat,ps[i]?=some p)->∃fs:List Value,KatTups sg.heap (l.map fun p=>Value.ref p.1) fs/\fs.length=l.length/\∀v∈fs,∃i t,v=Value.int i t:=fun l=>by
   induction l with
   | nil=>intro _;exact⟨[],KatTups.nil,rfl,fun v hv=>(nomatch hv)⟩
   | cons p l ih =>
    intro hp;obtain⟨fs,b1,b2,b3⟩:=ih fun p' hp'=>hp p' (xbi _ hp')
    obtain⟨i,hi⟩:=hp p xcr;obtain⟨us,o,n,a1,a2,a3,a4,a5⟩:=tup i p hi;obtain⟨pa,pn⟩:=p;dsimp only at a1 a2 a3 a4 a5;cases a1 with
    | nil=>exact absurd rfl a5
    | cons x t r=>exact⟨Value.int x t::fs,KatTups.cons a2 a3 a4 rfl b1,by rw[xbv,xbv,b2],fun v hv=>(xbr.mp hv).elim (fun z=>⟨x,t,z⟩) (b3 v)⟩
  obtain⟨fs,b1,b2,b3⟩:=kt ps fun p hp=>List.mem_iff_getElem?.mp hp
  exact kat_kind (T:=.type "int") b1 (by lia) (fun v hv=>by
   obtain⟨i,t,rfl⟩:=b3 v hv
   exact Looks.of_pure rfl) rfl hq
 ·rw[xbd] at hi hj;have ei:ps[i]?=some ps[i]:=xbe hi;have ej:ps[j]?=some ps[j]:=xbe hj;obtain⟨us,o,n,a1,a2,a3,a4,a5⟩:=tup i _ ei;obtain⟨us2,o2,n2,c1,c2,c3,c4,c5⟩:=tup j _ ej;unfold kas_ask;rw[zp (fun p:Addr×List Int=>Value.ref p.1) _ ei,zp (fun p:Addr×List Int=>Value.ref p.1) _ ej];refine kat_lt a2 a4 c2 c4 (Srt.zst 0 a1 c1 ?_);rw[Srt.zrv (by rw[xbd];exact hi) (by rw[xbd];exact hj),zp (fun p:Addr×List Int=>p.2) _ ei,zp (fun p:Addr×List Int=>p.2) _ ej] at hC;exact hC
theorem zsc {ps:List (Addr×List Int)}{p:Array Nat}(p1:p.Perm (List.toArray (List.range ps.length)))(p2:Srt.Up (Srt.rank (ps.map (·.2))) p ps.length) :
  ∃qs:List (Addr×List Int),qs.Perm ps/\(qs.map (·.2)).Pairwise (fun x y=>HT.lexLt y x=false)/\Srt.outOf (ps.map fun p=>Value.ref p.1) p=(qs.map fun p=>Value.ref p.1).toArray:=by
 have hps:p.size=ps.length:=by rw[p1.size_eq];simp
 have sm:∀i∈p.toList,i < ps.length:=fun i hi=>by
  have h3:=(p1.mem_iff (a:=i)).mp (by rw[← Array.mem_toList_iff];exact hi);exact xcf.mp (List.mem_toArray.mp h3)
 refine⟨p.toList.map fun i=>ps.getD i (0,[]),?_,?_,?_⟩
 ·have e1:p.toList.Perm (List.range ps.length):=by
   have:=xfk.mp p1
   simpa using this
  have e2:=e1.map fun i=>ps.getD i (0,[])
  have e3:((List.range ps.length).map fun i=>ps.getD i (0,[]))=ps:=by
   apply List.ext_getElem
   ·simp
   ·intro i h1 h2;simp[xbg,h2]
  rw[e3] at e2;exact e2
 ·rw[xdl,xii];intro i j hi hj hij;rw[List.getElem_map,List.getElem_map];rw[xbd] at hi hj;have hi':i < p.size:=by simpa using hi
  have hj':j < p.size:=by simpa using hj
  have hu:=p2 i j (xbx hij) (by lia);have g:∀k,(hk:k < p.toList.length)->p.getD k 0=p.toList[k]:=fun k hk=>by
   have hk':k < p.size:=by simpa using hk
   rw[Array.getD_eq_getD_getElem?,xih hk'];simp
  have si:=sm _ (xdz hi);have sj:=sm _ (xdz hj);have lk:=Srt.zrv (ks:=ps.map (·.2)) (i:=p.toList[j]) (j:=p.toList[i]) (by rw[xbd];exact sj) (by rw[xbd];exact si);have hno:Srt.lt (Srt.rank (ps.map (·.2))) p.toList[j] p.toList[i]=false:=by
   refine xbu fun z=>?_
   unfold Srt.At at hu;rw[g i hi,g j hj] at hu;lia
  rw[hno] at lk;have v:∀k,k < ps.length->(ps.map (·.2)).getD k []=(ps.getD k (0,[])).2:=fun k hk=>by
   have ek:ps[k]?=some ps[k]:=xbe hk;rw[zp (fun p:Addr×List Int=>p.2) _ ek,xbg,ek]
   rfl
  rw[v _ sj,v _ si] at lk;exact lk.symm
 ·unfold Srt.outOf;rw[xdl]
  congr 1
  refine xes fun i hi=>?_
  have hi2:=sm i hi;have ei:ps[i]?=some ps[i]:=xbe hi2;rw[zp (fun p:Addr×List Int=>Value.ref p.1) _ ei];show _=Value.ref (ps.getD i (0,[])).1;rw[xbg,ei]
  rfl
section
variable {X:Cx}
end
section
variable {X:Cx}{aU:List (Addr×Obj)}{σ:St}{H:Hp}{s:Shared}
theorem Inv.freeze {a:Addr}{kvs:List (List Key×V)}{ob:Obj}(I:Inv X aU σ H s)(h:H a=some (.dT kvs))(e:s.heap.get? a=some ob):Inv X aU σ (upd H a (.frz ob (.dT kvs))) s:=by
 have off:∀{b:Addr} {u:HO},H b=some u->(∀l,u≠.dT l)->upd H a (.frz ob (.dT kvs)) b=some u:=fun {b u} q n=>by
  rw[zr (by rintro rfl;rw[h] at q;cases q;exact n _ rfl)];exact q
 have z:=I.un (h':=s.heap) (t':=s.toks) (H':=upd H a (.frz ob (.dT kvs))) ⟨fun b u q _ _ _=>q,fun b u q _ _ _=>⟨u.slots,q⟩,fun b u q n _=>by
   rw[zr (by rintro rfl;rw[h] at n;cases n)];exact n,fun b u q _=>⟨u,q⟩,fun b xs q=>off q (fun l z=>by cases z),fun b o u q=>off q (fun l z=>by cases z),fun b ps q=>⟨#[],by rw[off q (fun l z=>by cases z)];simp⟩⟩ (fun b u q=>by
   by_cases hb:b=a
   ·subst hb;rw[zbc] at q;cases q;exact⟨e,(I.hok b _ h).stay (fun c v _ r=>r) (fun c r=>off r (fun l z=>by cases z)) fun c xs r=>off r (fun l z=>by cases z)⟩
   ·rw[zr hb] at q
    exact(I.hok b u q).stay (fun c v _ r=>r) (fun c r=>off r (fun l z=>by cases z)) fun c xs r=>off r (fun l z=>by cases z))
 exact z
end
noncomputable def Itd (a:Addr) (ob:Obj) (kvs:List (List Key×V)) (ps:List (Addr×List Int)):It :=
 ⟨fun i H=>i < ps.length/\H a=some (.frz ob (.dT kvs)),fun i H x H'=>H'=H/\∃p,ps[i]?=some p/\x=.ref p.1,fun i H=>ps.length<=i/\H a=some (.frz ob (.dT kvs))⟩
theorem zur {P:Program}{w:World}{K:Fg}{tg:Expr}{a it:Addr}{ob:Obj}{kvs:List (List Key×V)}{ps:List (Addr×List Int)}{es:Array DictEntry}{ep:Nat}(ex:ob.ExactDict)(dt:ob.data=.dict es ep)
  (hk:es.toList.map (·.key)=ps.map fun p=>Value.ref p.1):Turn P w K tg (Itd a ob kvs ps) [it] it (fun i h=>h.IsKeyIter it a i es.size ep) where
 mem:=xcn.mpr rfl
 obj:=fun i h st b hb=>by
  have e:b=it:=xcn.mp hb;subst e;obtain⟨o,e,c,d⟩:=st;exact⟨o,e,fun v z=>by rw[d] at z;cases z⟩
 keep:=fun i h h' st k=>st.at fun o e=>k it (xcn.mpr rfl) o e
 item:=by
  intro Y hP hw hK hc i aU s σ H E I hf st hg;subst hP hw hK;obtain⟨hi,hz⟩:=hg;have hsz:es.size=ps.length:=by
   have:=congrArg List.length hk
   rwa [xbd,xbd,xby] at this
  obtain⟨eo,_⟩:=(show ObjOk Y.prog Y.w H s.heap a (.frz ob (.dT kvs)) from I.hok a _ hz)
  obtain⟨f0,f1,f2,f3,f4,f5⟩:=hf it (xcn.mpr rfl);have hen:es[i]?=some es[i]:=xih (by lia);have hpi:ps[i]?=some ps[i]:=xbe hi;have hkey:es[i].key=Value.ref ps[i].1:=by
   have q:=congrArg (fun l=>l[i]?) hk;simp only[xcd,xcj,hen,hpi] at q;exact xcl q
  refine Dct.zrt st ⟨ob,eo,ex,dt⟩ hen fun g st' sb=>?_
  have I1:Inv Y aU σ H {s with heap:=g}:=I.turned (t':=s.toks) (fun b o hb e=>sb.extBut b o hb e) f0 f1 f3 f4 f5;obtain⟨o,e,c,d⟩:=id st';exact⟨_,rfl,zbfg (s:={s with heap:=g}) e c d (by decide) ⟨.ref ps[i].1,H,I1,hkey,⟨rfl,ps[i],hpi,rfl⟩,st',fun b hb=>(hf b hb).1⟩⟩
 done:=by
  intro Y hP hw hK hc i aU s σ H E I hf st hg;subst hP hw hK;obtain⟨hi,hz⟩:=hg;have hsz:es.size=ps.length:=by
   have:=congrArg List.length hk
   rwa [xbd,xbd,xby] at this
  obtain⟨eo,_⟩:=(show ObjOk Y.prog Y.w H s.heap a (.frz ob (.dT kvs)) from I.hok a _ hz)
  obtain⟨f0,f1,f2,f3,f4,f5⟩:=hf it (xcn.mpr rfl);exact Dct.zwz (I.ok.hd hc) st ⟨ob,eo,ex,dt⟩ (by lia) fun g eb=>⟨rfl,I.turned (t':=s.toks) (fun b o hb e=>eb b o hb e) f0 f1 f3 f4 f5⟩
 self:=fun _ _ _ _ _ st h=>wpAny_pyIter_keyiter st h
noncomputable def iDct (td:TE):TI:=fun σ H R=>td σ H fun x H1=>∃(a:Addr) (kvs:List (List Key×V)) (ks:List (List Int)),x=.ref a/\H1 a=some (.dT kvs)/\kvs.map (·.1)=ks.map (fun ns=>ns.map Sum.inl) /\
 ∀(ob:Obj) (ps:List (Addr×List Int)),ps.map (·.2)=ks->(∀p∈ps,H1 p.1=some (.tup (p.2.map V.int)))->R (Itd a ob kvs ps) (upd H1 a (.frz ob (.dT kvs)))
theorem zbdh {X:Cx}{tg l:Expr}{td:TE}(hl:PE X l td):PI X tg l (iDct td):=by
 intro aU s σ H R I h;refine thn (hl aU s σ H _ I h) fun v s1 hq0=>?_
 obtain⟨x,H1,I1,r1,q1⟩:=hq0;obtain⟨a,kvs,ks,rfl,hd,ek,q⟩:=q1;cases r1;obtain⟨z,ns,ys,rel,ob,es,ep,e1,e2,e3,e4,e5⟩:=(show ObjOk X.prog X.w H1 s1.heap a (.dT kvs) from I1.hok a _ hd)
 obtain⟨ps,a1,a2,a3⟩:=ziq (P:=X.prog) (w:=X.w) rel ek;have hes:es.toList.map (·.key)=ps.map fun p=>Value.ref p.1:=by rw[e4,xdl];exact a3
 refine Dct.zru ns ⟨ob,e1,e2,e3⟩ ?_;have I2:=I1.freeze hd e1;refine⟨s1.heap.objs.size,[s1.heap.objs.size],_,_,_,rfl,I2.kept (t':=s1.toks) fun b o e=>xbm _ e,zur e2 e3 hes,⟨_,xch _ rfl,rfl,rfl⟩,fun b hb=>?_,q ob ps a1 a2⟩;have e:b=s1.heap.objs.size:=xcn.mp hb;subst e;exact I2.fpOk (xbf _) (I2.hok.fresh (xbf _))
section
variable {g:TG}{tc:TT}{te:TE}{Q:VK}{σ:St}{H:Hp}{p:Addr}
end
end L2
namespace L2
open PySem PySem.Spec PyProof.Rows PySem.W
noncomputable def TupsG (g:Heap) (ps:List (Addr×List Int)):Prop:=∀ p∈ps, ∃(us:List Value) (o:Obj) (n:Nat), IntsAre us p.2/\g.get? p.1=some o/\o.cls=.type "tuple"/\o.data=.seq us.toArray n
section
variable {P:Program}{w:World}{B:Around}{E:Value->Shared->Prop}{sg:Shared}
theorem zpf:∀{ps:List (Addr×List Int)},TupsG sg.heap ps->∃fs:List (Option Value),fs.map Option.isSome=ps.map (fun p=>!p.2.isEmpty)/\∀(W:List (Option Value)->Shared->Prop),W fs sg->wpAny (model P w) B ((ps.map fun p=>Value.ref p.1).mapM firstOfTuple') W E sg
 | [],_=>⟨[],rfl,fun W h=>by rw[xkp,List.mapM_nil];exact xbk h⟩
 | p::ps,h=>by
  obtain⟨fs,f1,f2⟩:=zpf (ps:=ps) fun q hq=>h q (xbi _ hq)
  obtain⟨us,o,n,a1,a2,a3,a4⟩:=h p xcr;refine⟨us.toArray[0]?::fs,?_,fun W hW=>?_⟩
  ·rw[xbp,xbp,f1]
   congr 1
   obtain⟨pa,pn⟩:=p;dsimp only at a1 ⊢;cases a1 with
   | nil=>rfl
   | cons x t r=>rfl
  ·rw[xbp,List.mapM_cons];have ty:Looks (model P w) sg.heap (typeOf (.ref p.1)) o.cls:=(Looks.ld a2).andThen .now;refine xba ?_;rw[kas_first_eq];refine xba (Looks.here ty ?_);rw[a3,if_neg (by first | decide | simp)];exact xba (listItems_at a2 a4 (xbk (xba (f2 _ (xbk hW)))))
theorem zss (x y:Value):keyLt' general' x y=oneLt' false x y:=rfl
theorem zbbt {κ:SortKind}(hκ:κ=general'\/κ=oneType')(hu:B.units < cLine){a b:Addr×List Int}(ha:TupsG sg.heap [a])(hb:TupsG sg.heap [b]){C:Bool->Shared->Prop}(hC:C (HT.lexLt a.2 b.2) sg) :
  wpAny (model P w) B (keyLt' κ (.ref a.1) (.ref b.1)) C E sg:=by
 obtain⟨us,o,n,a1,a2,a3,a4⟩:=ha a xcr;obtain⟨us2,o2,n2,b1,b2,b3,b4⟩:=hb b xcr;rcases hκ with rfl | rfl
 ·rw[zss];exact kat_one _ _ (HT.zmb (items:=us.toArray) (items2:=us2.toArray) ⟨o,a2,a3,n,a4⟩ ⟨o2,b2,b3,n2,b4⟩ a1 b1 hu hC)
 ·rw[keyLt'_oneType,oneLt'_eq];simp only[ite_true];refine xba (wpAny_cRoomFor hu (xba (wpAny_callSpecialIfBound?_slot (T:="tuple") ⟨o, a2, a3⟩ xjm ?_)))
  obtain⟨cls,dd,data,sl⟩:=o;obtain⟨cls2,dd2,data2,sl2⟩:=o2;dsimp only at a3 a4 b3 b4;subst a3 a4 b3 b4;exact call_meets xjm ⟨_,a2,rfl⟩ F.entry_tuple_lt (F.args_tuple_lt_2 _ _) (HT.zha a.1 b.1 us.toArray us2.toArray n n2 dd dd2 sl sl2 a.2 b.2 a1 b1) ⟨a2,b2,xei hC⟩
theorem zbbv {ps:List (Addr×List Int)}(hu:B.units < cLine)(tup:TupsG sg.heap ps)(emp:∃p∈ps,p.2=[]):Srt.Answers P w B (Srt.rank (ps.map (·.2))) (ps.map fun p=>Value.ref p.1) sg:=by
 obtain⟨fs,f1,f2⟩:=zpf (P:=P) (w:=w) (B:=B) (E:=fun _ _=>False) tup;have notAll:¬ (fs.toArray.all fun x=>x.isSome)=true:=fun z=>by
  have z':fs.all (fun x=>x.isSome)=true:=by simpa using z
  obtain⟨p,hp,he⟩:=emp;have m:(!p.2.isEmpty)∈fs.map Option.isSome:=by rw[f1];exact List.mem_map_of_mem (f:=fun p:Addr×List Int=>!p.2.isEmpty) hp
  obtain⟨o,ho,e⟩:=xcb.mp m;have:=xdy.mp z' o ho;rw[e,he] at this;cases this
 have cmp:∀{κ:SortKind},κ=general'\/κ=oneType'->∀i j C,i < (ps.map fun p=>Value.ref p.1).length->j < (ps.map fun p=>Value.ref p.1).length->C (Srt.lt (Srt.rank (ps.map (·.2))) i j) sg->kas_ask P w B κ (ps.map fun p=>Value.ref p.1) i j C sg:=fun {κ} hκ i j C hi hj hC=>by
  rw[xbd] at hi hj;have ei:ps[i]?=some ps[i]:=xbe hi;have ej:ps[j]?=some ps[j]:=xbe hj;unfold kas_ask;rw[zp (fun p:Addr×List Int=>Value.ref p.1) _ ei,zp (fun p:Addr×List Int=>Value.ref p.1) _ ej];rw[Srt.zrv (by rw[xbd];exact hi) (by rw[xbd];exact hj),zp (fun p:Addr×List Int=>p.2) _ ei,zp (fun p:Addr×List Int=>p.2) _ ej] at hC;have one:∀k,(hk:k < ps.length)->TupsG sg.heap [ps[k]]:=fun k hk q hq=>by
   rw[xcn.mp hq];exact tup _ (xdz hk)
  exact zbbt hκ hu (one i hi) (one j hj) hC
 by_cases fst:(fs.toArray[0]?.bind id).isSome=true
 ·refine⟨general',fun R hR=>?_,cmp (.inl rfl)⟩;rw[kat_kind_eq,xkj,xkx];refine xba (xba (f2 _ (xbk ?_)));rw[if_neg notAll,if_pos fst];exact xbk hR
 ·refine⟨oneType',fun R hR=>?_,cmp (.inr rfl)⟩;rw[kat_kind_eq,xkj,xkx];refine xba (xba (f2 _ (xbk ?_)));rw[if_neg notAll,if_neg fst,oneTypeOnly'_eq,xkj,xkx];have ty:∀ v∈(ps.map fun p=>Value.ref p.1), ∀ W:Value->Shared->Prop, W (.type "tuple") sg->wpAny (model P w) B (typeOf v) W (fun _ _=>False) sg:=fun v hv W hW=>by
   obtain⟨p,hp,rfl⟩:=xcb.mp hv;obtain⟨us,o,n,a1,a2,a3,a4⟩:=tup p hp;have lk:Looks (model P w) sg.heap (typeOf (.ref p.1)) o.cls:=(Looks.ld a2).andThen .now;rw[a3] at lk;exact lk.here hW
  refine xba (xba (xba (kas_mapM (r:=Value.type "tuple") _ ty (xbk ?_))))
  obtain⟨p,hp,_⟩:=emp;obtain⟨p0,rest,rfl⟩:∃p0 rest,ps=p0::rest:=by
   cases ps with
   | nil=>exact nomatch hp
   | cons p0 rest=>exact⟨p0,rest,rfl⟩
  have all:((List.map (fun _=>Value.type "tuple") ((p0::rest).map fun p=>Value.ref p.1)).toArray.all fun x=>x==Value.type "tuple")=true:=by
   rw[List.all_toArray,xdy];intro x hx;obtain⟨_,_,rfl⟩:=xcb.mp hx
   rfl
  have zero:(List.map (fun _=>Value.type "tuple") ((p0::rest).map fun p=>Value.ref p.1)).toArray[0]?=some (Value.type "tuple"):=by simp
  rw[zero];simp only[all,ite_true];exact xbk (xbk hR)
theorem zyb {ps:List (Addr×List Int)}(hu:B.units < cLine)(h2:2<=ps.length)(tup:TupsG sg.heap ps):Srt.Answers P w B (Srt.rank (ps.map (·.2))) (ps.map fun p=>Value.ref p.1) sg:=by
 by_cases c:∃p∈ps,p.2=[]
 ·exact zbbv hu tup c
 ·refine zbbu h2 fun i p hi=>?_
  have hp:=xbo hi;obtain⟨us,o,n,a1,a2,a3,a4⟩:=tup p hp;exact⟨us,o,n,a1,a2,a3,a4,fun z=>c ⟨p,hp,z⟩⟩
end
theorem zfk (z:List (Addr×List Int)):Vals (z.map fun p=>V.ref p.1) (z.map fun p=>Value.ref p.1):=by
 induction z with
 | nil=>exact .nil
 | cons x z ih=>exact .cons rfl ih
section
variable {X:Cx}
end
end L2
namespace TS
open PySem PyProof.Rows
noncomputable def kA (R:Keyed->Nat) (xs:Array Keyed) (i:Nat):Nat:=match xs[i]? with
 | some p=>R p
 | none=>0
theorem zec {R:Keyed->Nat}{xs ys:Array Keyed}{i j:Nat}(h:xs[i]?=ys[j]?):kA R xs i=kA R ys j:=by unfold kA;rw[h]
theorem zej {R:Keyed->Nat}{xs:Array Keyed}{i:Nat}{x:Keyed}(h:xs[i]?=some x):kA R xs i=R x:=by unfold kA;rw[h]
noncomputable def UpA (R:Keyed->Nat) (xs:Array Keyed) (a b:Nat):Prop:=∀i j,a<=i->i<=j->j < b->kA R xs i<=kA R xs j
noncomputable def DnA (R:Keyed->Nat) (xs:Array Keyed) (a b:Nat):Prop:=∀i j,a<=i->i<=j->j < b->kA R xs j<=kA R xs i
section
variable {prog:Program}{w:World}{A:Around}{E:Value->Shared->Prop}{s:Shared}{κ:SortKind}{a₀:Array Keyed}{R:Keyed->Nat}
noncomputable def Orc (prog:Program) (w:World) (A:Around) (s:Shared) (κ:SortKind) (a₀:Array Keyed) (R:Keyed->Nat):Prop :=
 ∀x,x∈a₀.toList->∀y,y∈a₀.toList->∀(C:Bool->Shared->Prop),C (decide (R x < R y)) s->wpAny (model prog w) A (keyLt' κ x.1 y.1) C (fun _ _=>False) s
structure B (κ:SortKind) (a₀:Array Keyed) (st:SortSt):Prop where
 perm:(arrOf st).Perm a₀
 kind:kindOf st=κ
 failed:failedOf st=none
theorem B.size {st:SortSt}(h:B κ a₀ st):(arrOf st).size=a₀.size:=h.perm.size_eq
theorem B.set {st:SortSt}(h:B κ a₀ st){xs:Array Keyed}(hp:xs.Perm (arrOf st)):B κ a₀ (setArr st xs):=⟨hp.trans h.perm,h.kind,h.failed⟩
theorem B.mem {st:SortSt}(h:B κ a₀ st){i:Nat}(hi:i < a₀.size):∃x,(arrOf st)[i]?=some x/\x∈a₀.toList:=by
 have hi':i < (arrOf st).size:=by rw[h.size];exact hi
 exact⟨_,getElem?_pos _ i hi',(xfk.mp h.perm).mem_iff.mp (by simp)⟩
theorem w_lt {x y:Keyed}{st:SortSt}{Q:Option Bool->SortSt->Prop}(O:Orc prog w A s κ a₀ R)(hk:kindOf st=κ)(hx:x∈a₀.toList)(hy:y∈a₀.toList)(h:Q (some (decide (R x < R y))) st):wpS (model prog w) A E s (lt' x y) Q st:=by
 rw[lt'_eq];refine xbj (xhf ?_);rw[hk];refine xbj (xjl (wpAny_attempt (xec (O x hx y hy (fun b s'=>s'=s/\b=decide (R x < R y)) ⟨rfl,rfl⟩) (fun b s' hb=>?_) fun _ _ f=>f.elim)));obtain⟨rfl,rfl⟩:=hb;exact⟨rfl,xbn h⟩
theorem zlp {arr:Array Keyed}{i:Nat}{x:Keyed}{st:SortSt}{Q:Keyed->SortSt->Prop}(e:arr[i]?=some x)(h:Q x st):wpS (model prog w) A E s (elem' arr i) Q st:=by
 rw[elem'_eq,e];exact xbn h
theorem zmr {i j:Nat}{st:SortSt}{Q:Option Bool->SortSt->Prop}(O:Orc prog w A s κ a₀ R)(b:B κ a₀ st)(hi:i < a₀.size)(hj:j < a₀.size)(h:Q (some (decide (kA R (arrOf st) i < kA R (arrOf st) j))) st):wpS (model prog w) A E s (ltAt' i j) Q st:=by
 obtain⟨x,e1,m1⟩:=b.mem hi;obtain⟨y,e2,m2⟩:=b.mem hj;rw[zej e1,zej e2] at h;rw[ltAt'_eq];exact xbj (xhf (xbj (zlp e1 (xbj (zlp e2 (w_lt O b.kind m1 m2 h))))))
theorem zuj {i j:Nat}{st:SortSt}{Q:Unit->SortSt->Prop}(h:Q () (setArr st (mirror (arrOf st) i j ((j - i) / 2)))):wpS (model prog w) A E s (reverseSlice' i j) Q st:=by
 rw[reverseSlice'_eq];exact xgc h
theorem zbhs {i j:Nat}{st:SortSt}{Q:Unit->SortSt->Prop}(h:Q () (setArr st (bubble (arrOf st) i (i - j)))):wpS (model prog w) A E s (moveDown' i j) Q st:=by
 rw[moveDown'_eq];exact xgc h
theorem zbcc {lo x n N:Nat}(h:x < n)(hn:lo+n<=N):lo+x < N:=xbh (xeb h lo) hn
theorem zbcb {lo x n N:Nat}(h:x < n)(hn:lo+n<=N):lo+x - 1 < N:=xcz (xga _ _) (zbcc h hn)
theorem zsw {lo n:Nat}(h:1<=n):lo+n - 1 < lo+n:=xhj (xbh h (xkz _ _)) Nat.one_pos
theorem zbhk {j lo n:Nat}(h:j < lo+(n+1))(e:¬j=lo+n):j < lo+n:=xda (xcy h) e
theorem zbeo {i j k:Nat}(c2:k < j):i<=i+j - 1 - k:=Nat.le_sub_of_add_le (xdc (xeb c2 i))
theorem zbep {i j k:Nat}(c1:i<=k)(c2:k < j):i+j - 1 - k < j:=xcz (xgx c1 _) (by rw[Nat.sub_right_comm,xcu];exact xhj (xjd c2) Nat.one_pos)
theorem zky {xs:Array Keyed}{i j:Nat}(hj:j<=xs.size)(k:Nat):kA R (mirror xs i j ((j - i) / 2)) k=if i<=k/\k < j then kA R xs (i+j - 1 - k) else kA R xs k:=by
 have e:=getElem?_mirror_all (i:=i) hj k;split
 ·rename_i c;rw[if_pos c] at e;exact zec e
 ·rename_i c;rw[if_neg c] at e;exact zec e
noncomputable def Out (xs ys:Array Keyed) (a b:Nat):Prop:=∀k,k < a\/b<=k->xs[k]?=ys[k]?
theorem Out.refl (xs:Array Keyed)(a b:Nat):Out xs xs a b:=fun _ _=>rfl
theorem Out.trans {xs ys zs:Array Keyed}{a b:Nat}(h1:Out xs ys a b)(h2:Out ys zs a b):Out xs zs a b:=fun k hk=>(h1 k hk).trans (h2 k hk)
theorem Out.mirror {xs:Array Keyed}{i j a b:Nat}(hj:j<=xs.size)(hi:a<=i)(hb:j<=b):Out (mirror xs i j ((j - i) / 2)) xs a b:=fun k hk=>by
 rw[getElem?_mirror_all (i:=i) hj k,if_neg fun z=>hk.elim (fun h=>xeh (xbb hi z.1) h) fun h=>xeh (xbb hb h) z.2]
theorem Out.bubble {xs:Array Keyed}{src d a b:Nat}(hs:src < xs.size)(hd:d<=src)(ha:a<=src - d)(hb:src < b):Out (bubble xs src d) xs a b:=fun k hk=>by
 rw[getElem?_bubble hs d hd k,if_neg fun z=>hk.elim (fun h=>xeh (xbb ha (xdi z.symm)) h) fun h=>xeh h (xcz (xbb (xdi z) (xga _ _)) hb),if_neg fun z=>hk.elim (fun h=>xeh (xbb ha (xbx z.1)) h) fun h=>xeh h (xcz z.2 hb)]
structure Sm (st st':SortSt) (a b:Nat):Prop where
 out:Out (arrOf st') (arrOf st) a b
 pend:pendingOf st'=pendingOf st
theorem zbcj {lo a nrem:Nat}{st:SortSt}{Q:Option (Option Nat)×Nat->SortSt->Prop}(O:Orc prog w A s κ a₀ R)(b:B κ a₀ st)(hn:lo+nrem<=a₀.size)(ha:1<=a)(han:a<=nrem)(hs:UpA R (arrOf st) lo (lo+a))
  (h:∀n,a<=n->n<=nrem->UpA R (arrOf st) lo (lo+n)->(n=nrem\/kA R (arrOf st) (lo+n) < kA R (arrOf st) (lo+n - 1))->Q (none,n) st) :
  wpS (model prog w) A E s (forIn [a:nrem] ((none,a):Option (Option Nat)×Nat) fun _ r=>do
   let x ← ltAt' (lo+r.2) (lo+r.2 - 1)
   match x with
   | some smaller=>if smaller=true then pure (ForInStep.done (none,r.2)) else pure (ForInStep.yield (none,r.2+1))
   | _=>pure (ForInStep.done (some none,r.2))) Q st:=by
 refine xdn (I:=fun x c st'=>st'=st/\c=(none,x)/\UpA R (arrOf st) lo (lo+x)) ?_ ?_ ⟨rfl,rfl,hs⟩
 ·rintro x c st' h1 h2 ⟨rfl,rfl,h3⟩;dsimp only;refine xbj (zmr O b (zbcc h2 hn) (zbcb h2 hn) ?_);by_cases c:kA R (arrOf st') (lo+x) < kA R (arrOf st') (lo+x - 1)
  ·simp only[c,xhq,xfw];exact xbn (h x h1 (xbx h2) h3 (.inr c))
  ·simp only[c,xhx,xdj,xfh];refine xbn ⟨rfl,rfl,fun i j hi hij hj=>?_⟩;by_cases e:j=lo+x
   ·subst e;by_cases e2:i=lo+x
    ·rw[e2];exact xbf _
    ·exact xbb (h3 i (lo+x - 1) hi (xdc (xda hij e2)) (zsw (xbb ha h1))) (xca c)
   ·exact h3 i j hi hij (zbhk hj e)
 ·rintro c st' ⟨rfl,rfl,h3⟩;rw[xkr han] at h3 ⊢;exact h nrem han (xbf _) h3 (.inl rfl)
theorem zij {xs:Array Keyed}{i j:Nat}(hj:j<=xs.size)(he:∀k,i<=k->k < j->kA R xs k=kA R xs (j - 1))(k:Nat):kA R (mirror xs i j ((j - i) / 2)) k=kA R xs k:=by
 rw[zky hj];split
 ·rename_i c;rw[he _ (zbeo c.2) (zbep c.1 c.2),he k c.1 c.2]
 ·rfl
structure Fl (κ:SortKind) (a₀:Array Keyed) (R:Keyed->Nat) (st₀ st:SortSt) (lo n neq b:Nat):Prop where
 base:B κ a₀ st
 same:Sm st₀ st lo b
 dn:DnA R (arrOf st) lo (lo+n)
 hq:neq+1<=n
 eqs:∀i,lo+n - (neq+1)<=i->i < lo+n->kA R (arrOf st) i=kA R (arrOf st) (lo+n - 1)
theorem Fl.turn {st₀ st:SortSt}{lo n neq b:Nat}(h:Fl κ a₀ R st₀ st lo n neq b)(hb:lo+n<=b)(hs:b<=a₀.size) :
  Fl κ a₀ R st₀ (setArr st (mirror (arrOf st) (lo+n - (neq+1)) (lo+n) ((lo+n - (lo+n - (neq+1))) / 2))) lo n neq b/\∀k,kA R (mirror (arrOf st) (lo+n - (neq+1)) (lo+n) ((lo+n - (lo+n - (neq+1))) / 2)) k=kA R (arrOf st) k:=by
 have hz:=h.base.size;have hq:=h.hq;have hle:lo+n<=(arrOf st).size:=by rw[hz];exact xbb hb hs
 have e:=zij (R:=R) (xs:=arrOf st) (i:=lo+n - (neq+1)) (j:=lo+n) hle h.eqs;refine⟨⟨h.base.set (mirror_perm _ _ _ _),⟨(Out.mirror hle (Nat.le_sub_of_add_le (xci hq lo)) hb).trans h.same.out,h.same.pend⟩,fun i j a1 a2 a3=>?_,h.hq,fun i a1 a2=>?_⟩,e⟩
 ·show kA R (mirror _ _ _ _) j<=kA R (mirror _ _ _ _) i;rw[e,e];exact h.dn i j a1 a2 a3
 ·show kA R (mirror _ _ _ _) i=kA R (mirror _ _ _ _) _;rw[e,e];exact h.eqs i a1 a2
theorem Fl.less {st₀ st:SortSt}{lo n neq b:Nat}(h:Fl κ a₀ R st₀ st lo n neq b)(c:kA R (arrOf st) (lo+n)<=kA R (arrOf st) (lo+n - 1)):DnA R (arrOf st) lo (lo+(n+1)):=fun i j a1 a2 a3=>by
 have hq:=h.hq;by_cases e:j=lo+n
 ·subst e;by_cases e2:i=lo+n
  ·rw[e2];exact xbf _
  ·exact xbb c (h.dn i (lo+n - 1) a1 (xdc (xda a2 e2)) (zsw (xbb (xkz 1 neq) hq)))
 ·exact h.dn i j a1 a2 (zbhk a3 e)
theorem Fl.fresh {st₀ st:SortSt}{lo n neq b:Nat}(h:Fl κ a₀ R st₀ st lo n neq b)(c:kA R (arrOf st) (lo+n)<=kA R (arrOf st) (lo+n - 1)):Fl κ a₀ R st₀ st lo (n+1) 0 b:=⟨h.base,h.same,h.less c,xex (xeg _),fun i g1 g2=>by
 have:i=lo+(n+1) - 1:=xdr (xcy g2) g1
 rw[this]⟩
theorem Fl.more {st₀ st:SortSt}{lo n neq b:Nat}(h:Fl κ a₀ R st₀ st lo n neq b)(c:kA R (arrOf st) (lo+n)=kA R (arrOf st) (lo+n - 1)):Fl κ a₀ R st₀ st lo (n+1) (neq+1) b:=by
 have hq:=h.hq;refine⟨h.base,h.same,h.less (xdi c),xex hq,fun i g1 g2=>?_⟩;rw[show lo+(n+1) - 1=lo+n from rfl];by_cases e:i=lo+n
 ·rw[e]
 ·rw[c];exact h.eqs i (xbb (xdi (Nat.succ_sub_succ (lo+n) (neq+1)).symm) g1) (zbhk g2 e)
theorem zbci {lo nrem:Nat}{st:SortSt}{Q:Option Nat->SortSt->Prop}(O:Orc prog w A s κ a₀ R)(b:B κ a₀ st)(hn:lo+nrem<=a₀.size)(h1:1<=nrem)
  (h:∀m st',1<=m->m<=nrem->B κ a₀ st'->Sm st st' lo (lo+nrem)->UpA R (arrOf st') lo (lo+m)->Q (some m) st'):wpS (model prog w) A E s (countRun' lo nrem) Q st:=by
 have sm0:Sm st st lo (lo+nrem):=⟨Out.refl _ _ _,rfl⟩
 have one:∀xs:Array Keyed,UpA R xs lo (lo+1):=fun xs i j a1 a2 a3=>by
  have:i=j:=xdr a2 (xbb (xcy a3) a1);subst this;exact xbf _
 have oneD:∀xs:Array Keyed,DnA R xs lo (lo+1):=fun xs i j a1 a2 a3=>by
  have:i=j:=xdr a2 (xbb (xcy a3) a1);subst this;exact xbf _
 rw[countRun'_eq];dsimp only;refine xbj (zbcj O b hn (xbf _) h1 (one _) fun n n1 n2 hu hlast=>?_);dsimp only;split
 ·exact xbn (h n st n1 n2 b sm0 hu)
 rename_i hne;have hne':n≠nrem:=fun z=>hne (by simp[z])
 have hlt:n < nrem:=xda n2 hne';have hl:kA R (arrOf st) (lo+n) < kA R (arrOf st) (lo+n - 1):=by
  rcases hlast with z | z
  ·exact absurd z hne'
  ·exact z
 have hz:=b.size;have fin:∀(n:Nat) (st1:SortSt),B κ a₀ st1->Sm st st1 lo (lo+nrem)->1<=n->n<=nrem->DnA R (arrOf st1) lo (lo+n) ->
   B κ a₀ (setArr st1 (mirror (arrOf st1) lo (lo+n) ((lo+n - lo) / 2)))/\Sm st (setArr st1 (mirror (arrOf st1) lo (lo+n) ((lo+n - lo) / 2))) lo (lo+nrem)/\UpA R (mirror (arrOf st1) lo (lo+n) ((lo+n - lo) / 2)) lo (lo+n):=fun n st1 b1 sm1 m1 m2 dn1=>by
  have hz:=b1.size;have hm:=xci m2 lo;have hle:lo+n<=(arrOf st1).size:=by rw[hz];exact xbb hm hn
  refine⟨b1.set (mirror_perm _ _ _ _),⟨(Out.mirror hle (xbf _) hm).trans sm1.out,sm1.pend⟩,fun i j a1 a2 a3=>?_⟩;have hi:=xcz a2 a3;rw[zky hle,zky hle,if_pos ⟨a1,hi⟩,if_pos ⟨xbb a1 a2,a3⟩];exact dn1 _ _ (zbeo a3) (xgx a2 _) (zbep a1 hi)
 have eqs:¬ kA R (arrOf st) lo < kA R (arrOf st) (lo+n - 1)->∀k,lo<=k->k < lo+n->kA R (arrOf st) k=kA R (arrOf st) (lo+n - 1):=fun c k k1 k2=>by
  have g1:=hu lo k (xbf _) k1 k2;have g2:=hu k (lo+n - 1) k1 (xdc k2) (zsw n1);exact xdr g2 (xbb (xca c) g1)
 have dnx:∀xs:Array Keyed,(∀k,kA R xs k=kA R (arrOf st) k)->¬ kA R (arrOf st) lo < kA R (arrOf st) (lo+n - 1)->DnA R xs lo (lo+(n+1)):=fun xs e c i j a1 a2 a3=>by
  rw[e,e];by_cases e2:j=lo+n
  ·subst e2;by_cases e3:i=lo+n
   ·rw[e3];exact xbf _
   ·rw[eqs c i a1 (xda a2 e3)];exact xbx hl
  ·have jn:=zbhk a3 e2;rw[eqs c i a1 (xcz a2 jn),eqs c j (xbb a1 a2) jn];exact xbf _
 split
 ·have hle:lo+n<=(arrOf st).size:=by rw[hz];exact xbb (xci n2 lo) hn
  refine xbj (zmr O b (xbh (xhb h1) hn) (zbcb hlt hn) ?_);by_cases c:kA R (arrOf st) lo < kA R (arrOf st) (lo+n - 1)
  ·simp only[c,xhq,xfw];exact xbn (h n st n1 n2 b sm0 hu)
  ·simp only[c,xhx,xdj,xfh];refine xbj (zuj ?_);have b1:B κ a₀ (setArr st (mirror (arrOf st) lo (lo+n) ((lo+n - lo) / 2))):=b.set (mirror_perm _ _ _ _);have sm1:Sm st (setArr st (mirror (arrOf st) lo (lo+n) ((lo+n - lo) / 2))) lo (lo+nrem):=⟨Out.mirror hle (xbf _) (xci n2 lo),rfl⟩
   have dn1:DnA R (arrOf (setArr st (mirror (arrOf st) lo (lo+n) ((lo+n - lo) / 2)))) lo (lo+(n+1)):=dnx _ (zij hle (eqs c)) c;generalize (setArr st (mirror (arrOf st) lo (lo+n) ((lo+n - lo) / 2)))=st1 at b1 sm1 dn1 ⊢;refine xbj (xjl (xid ⟨rfl,?_⟩));refine xbj (xez (xdn (I:=fun x c st'=>∃neq,c=(none,x,neq)/\Fl κ a₀ R st st' lo x neq (lo+nrem)) (Q:=fun c st'=>∃m neq,c=(none,m,neq)/\n+1<=m/\m<=nrem/\Fl κ a₀ R st st' lo m neq (lo+nrem)) ?_ ?_ ?_) ?_)
   ·rintro x c st' a1 a2 ⟨neq,rfl,f⟩;dsimp only;refine xbj (zmr O f.base (zbcc a2 hn) (zbcb a2 hn) ?_);by_cases c:kA R (arrOf st') (lo+x) < kA R (arrOf st') (lo+x - 1)
    ·simp only[c,xhq,xfw];split
     ·obtain⟨f2,e⟩:=f.turn (xci (xbx a2) lo) hn;refine xbj (zuj (xbn ⟨0,rfl,f2.fresh ?_⟩));refine xbx (?_:kA R (mirror _ _ _ _) _ < kA R (mirror _ _ _ _) _);rw[e,e];exact c
     ·exact xbn ⟨0,rfl,f.fresh (xbx c)⟩
    ·simp only[c,xhx,xdj,xfh];refine xbj (zmr O f.base (zbcb a2 hn) (zbcc a2 hn) ?_);by_cases c2:kA R (arrOf st') (lo+x - 1) < kA R (arrOf st') (lo+x)
     ·simp only[c2,xhq,xfw];exact xbn ⟨x,neq,rfl,a1,xbx a2,f⟩
     ·simp only[c2,xhx,xdj,xfh];exact xbn ⟨neq+1,rfl,f.more (xdr (xca c2) (xca c))⟩
   ·rintro c st' ⟨neq,rfl,f⟩;rw[xkr hlt] at f ⊢;exact⟨nrem,neq,rfl,hlt,xbf _,f⟩
   ·exact⟨0,rfl,b1,sm1,dn1,xex (xeg _),fun i g1 g2=>by
     have:i=lo+(n+1) - 1:=xdr (xcy g2) g1
     rw[this]⟩
   ·rintro c st' ⟨m,neq,rfl,a1,a2,f⟩;dsimp only;split
    ·obtain⟨f2,e⟩:=f.turn (xci a2 lo) hn;refine xbj (zuj (xbj (zuj ?_)));obtain⟨b3,s3,u3⟩:=fin m _ f2.base f2.same (xdk a1) a2 f2.dn;exact xbj (zbcj O b3 hn (xdk a1) a2 u3 fun m' m1 m2 hu' _=>xbn (h m' _ (xbb (xdk a1) m1) m2 b3 s3 hu'))
    ·refine xbj (zuj ?_);obtain⟨b3,s3,u3⟩:=fin m _ f.base f.same (xdk a1) a2 f.dn;exact xbj (zbcj O b3 hn (xdk a1) a2 u3 fun m' m1 m2 hu' _=>xbn (h m' _ (xbb (xdk a1) m1) m2 b3 s3 hu'))
 ·rename_i hn1;have b1:=b;have sm1:=sm0
  have dn1:DnA R (arrOf st) lo (lo+(n+1)):=dnx _ (fun _=>rfl) (by
   have:n=1:=xdr (xca hn1) n1;subst this
   simp)
  refine xbj (xjl (xid ⟨rfl,?_⟩));refine xbj (xez (xdn (I:=fun x c st'=>∃neq,c=(none,x,neq)/\Fl κ a₀ R st st' lo x neq (lo+nrem)) (Q:=fun c st'=>∃m neq,c=(none,m,neq)/\n+1<=m/\m<=nrem/\Fl κ a₀ R st st' lo m neq (lo+nrem)) ?_ ?_ ?_) ?_)
  ·rintro x c st' a1 a2 ⟨neq,rfl,f⟩;dsimp only;refine xbj (zmr O f.base (zbcc a2 hn) (zbcb a2 hn) ?_);by_cases c:kA R (arrOf st') (lo+x) < kA R (arrOf st') (lo+x - 1)
   ·simp only[c,xhq,xfw];split
    ·obtain⟨f2,e⟩:=f.turn (xci (xbx a2) lo) hn;refine xbj (zuj (xbn ⟨0,rfl,f2.fresh ?_⟩));refine xbx (?_:kA R (mirror _ _ _ _) _ < kA R (mirror _ _ _ _) _);rw[e,e];exact c
    ·exact xbn ⟨0,rfl,f.fresh (xbx c)⟩
   ·simp only[c,xhx,xdj,xfh];refine xbj (zmr O f.base (zbcb a2 hn) (zbcc a2 hn) ?_);by_cases c2:kA R (arrOf st') (lo+x - 1) < kA R (arrOf st') (lo+x)
    ·simp only[c2,xhq,xfw];exact xbn ⟨x,neq,rfl,a1,xbx a2,f⟩
    ·simp only[c2,xhx,xdj,xfh];exact xbn ⟨neq+1,rfl,f.more (xdr (xca c2) (xca c))⟩
  ·rintro c st' ⟨neq,rfl,f⟩;rw[xkr hlt] at f ⊢;exact⟨nrem,neq,rfl,hlt,xbf _,f⟩
  ·exact⟨0,rfl,b1,sm1,dn1,xex (xeg _),fun i g1 g2=>by
    have:i=lo+(n+1) - 1:=xdr (xcy g2) g1
    rw[this]⟩
  ·rintro c st' ⟨m,neq,rfl,a1,a2,f⟩;dsimp only;split
   ·obtain⟨f2,e⟩:=f.turn (xci a2 lo) hn;refine xbj (zuj (xbj (zuj ?_)));obtain⟨b3,s3,u3⟩:=fin m _ f2.base f2.same (xdk a1) a2 f2.dn;exact xbj (zbcj O b3 hn (xdk a1) a2 u3 fun m' m1 m2 hu' _=>xbn (h m' _ (xbb (xdk a1) m1) m2 b3 s3 hu'))
   ·refine xbj (zuj ?_);obtain⟨b3,s3,u3⟩:=fin m _ f.base f.same (xdk a1) a2 f.dn;exact xbj (zbcj O b3 hn (xdk a1) a2 u3 fun m' m1 m2 hu' _=>xbn (h m' _ (xbb (xdk a1) m1) m2 b3 s3 hu'))
end
section
variable {prog:Program}{w:World}{A:Around}{E:Value->Shared->Prop}{s:Shared}{κ:SortKind}{a₀:Array Keyed}{R:Keyed->Nat}
theorem zoz {xs:Array Keyed}{src d:Nat}(hs:src < xs.size)(hd:d<=src)(k:Nat):kA R (bubble xs src d) k=if k=src - d then kA R xs src else if src - d < k/\k<=src then kA R xs (k - 1) else kA R xs k:=by
 have e:=getElem?_bubble hs d hd k;split
 ·rename_i c;rw[if_pos c] at e;exact zec e
 ·rename_i c;rw[if_neg c] at e;split
  ·rename_i c2;rw[if_pos c2] at e;exact zec e
  ·rename_i c2;rw[if_neg c2] at e;exact zec e
theorem zkv {a b n:Nat}(h1:a<=b)(h:b - a<=n - max 0 n):b=a:=by
 rw[Nat.zero_max,xin] at h;exact xdr (Nat.le_of_sub_eq_zero (Nat.le_zero.mp h)) h1
theorem zbjz {l r:Nat}(h:¬l ≥ r):l<=(l+r) / 2:=(Nat.le_div_iff_mul_le xlb).mpr (by rw[Nat.mul_two];exact xci (xbx (xfm h)) l)
theorem zbhl {l r:Nat}(h:¬l ≥ r):(l+r) / 2 < r:=(Nat.div_lt_iff_lt_mul xlb).mpr (by rw[Nat.mul_two];exact Nat.add_lt_add_right (xfm h) r)
theorem hf_l {l r k x:Nat}(h:¬l ≥ r)(g:r - l<=k - x):(l+r) / 2 - l<=k - (x+1):=xbb (xdc (xee (zbjz h) (zbhl h))) (xfb g 1)
theorem hf_r {l r k x:Nat}(h:¬l ≥ r)(g:r - l<=k - x):r - ((l+r) / 2+1)<=k - (x+1):=xbb (xgx (xex (zbjz h)) r) (xfb g 1)
theorem zyw {p j q:Nat}(h:p < j)(h2:j<=q):j - 1 < q:=xbh (xhj (xjd h) Nat.one_pos) h2
theorem zbmo {lo n ok:Nat}{st:SortSt}{Q:Bool->SortSt->Prop}(O:Orc prog w A s κ a₀ R)(b:B κ a₀ st)(hn:lo+n<=a₀.size)(h1:1<=ok)(h2:ok<=n)(up:UpA R (arrOf st) lo (lo+ok))
  (h:∀st',B κ a₀ st'->Sm st st' lo (lo+n)->UpA R (arrOf st') lo (lo+n)->Q true st'):wpS (model prog w) A E s (binarySort' lo n ok) Q st:=by
 rw[binarySort'_eq]
 refine xbj (xez (xdn (I:=fun k c st'=>c=(none,())/\B κ a₀ st'/\Sm st st' lo (lo+n)/\UpA R (arrOf st') lo (lo+min k n))
  (Q:=fun c st'=>c=(none,())/\B κ a₀ st'/\Sm st st' lo (lo+n)/\UpA R (arrOf st') lo (lo+n)) ?_ ?_ ?_) ?_)
 ·rintro k c st' k1 k2 ⟨rfl,b1,sm1,up1⟩;rw[xdx (xbx k2)] at up1;have hz:=b1.size;have hk:lo+k < a₀.size:=xbh (xeb k2 lo) hn
  refine xbj (xez (xdn (I:=fun x c st2=>st2=st'/\∃l r,c=(none,l,r)/\l<=r/\r<=k/\r - l<=k - x/\(∀i,i < l->kA R (arrOf st') (lo+i)<=kA R (arrOf st') (lo+k))/\(∀i,r<=i->i < k->kA R (arrOf st') (lo+k)<=kA R (arrOf st') (lo+i)))
   (Q:=fun c st2=>st2=st'/\∃l r,c=(none,l,r)/\l<=k/\(∀i,i < l->kA R (arrOf st') (lo+i)<=kA R (arrOf st') (lo+k))/\(∀i,l<=i->i < k->kA R (arrOf st') (lo+k)<=kA R (arrOf st') (lo+i))) ?_ ?_ ?_) ?_)
  ·rintro x c st2 x1 x2 ⟨rfl,l,r,rfl,g1,g2,g3,g4,g5⟩;dsimp only;by_cases hge:l ≥ r
   ·rw[if_pos hge];have e:l=r:=xdr g1 hge;subst e;exact xbn ⟨rfl,l,l,rfl,g2,g4,g5⟩
   ·have hm:lo+(l+r) / 2 < lo+k:=xeb (xbh (zbhl hge) g2) lo;rw[if_neg hge];refine xbj (zmr O b1 hk (xhu hm hk) ?_);by_cases c:kA R (arrOf st2) (lo+k) < kA R (arrOf st2) (lo+(l+r) / 2)
    ·simp only[c,xhq,xfw];exact xbn ⟨rfl,l,(l+r) / 2,rfl,zbjz hge,xbb (xbx (zbhl hge)) g2,hf_l hge g3,g4,fun i a1 a2=>xbb (xbx c) (up1 _ _ (xbz _ _) (xci a1 lo) (xeb a2 lo))⟩
    ·simp only[c,xhx,xdj,xfh];exact xbn ⟨rfl,(l+r) / 2+1,r,rfl,zbhl hge,g2,hf_r hge g3,fun i a1=>xbb (up1 (lo+i) (lo+(l+r) / 2) (xbz _ _) (xci (xcy a1) lo) hm) (xca c),g5⟩
  ·rintro c st2 ⟨rfl,l,r,rfl,g1,g2,g3,g4,g5⟩;have e:=zkv g1 g3;subst e;exact⟨rfl,_,_,rfl,g2,g4,g5⟩
  ·exact⟨rfl,0,k,rfl,xeg _,xbf _,xbf _,fun i hi=>absurd hi (Nat.not_lt_zero _),fun i a1 a2=>absurd a2 (xeh a1)⟩
  ·rintro c st2 ⟨rfl,l,r,rfl,g1,g2,g3⟩;dsimp only;have hd:lo+k - (lo+k - (lo+l))=lo+l:=Nat.sub_sub_self (xci g1 lo);have hs:lo+k < (arrOf st2).size:=by rw[hz];exact hk
   refine xbj (zbhs (xbn ⟨rfl,b1.set (bubble_perm _ _ _),⟨(Out.bubble hs (xga _ _) (by rw[hd];exact xbz _ _) (xeb k2 lo)).trans sm1.out,sm1.pend⟩,fun i j a1 a2 a3=>?_⟩));show kA R (bubble (arrOf st2) (lo+k) (lo+k - (lo+l))) i<=kA R (bubble (arrOf st2) (lo+k) (lo+k - (lo+l))) j;rw[zoz hs (xga _ _),zoz hs (xga _ _),hd];rw[xdx k2] at a3;have hj:j<=lo+k:=xcy a3;have low:∀q,lo<=q->q < lo+l->kA R (arrOf st2) q<=kA R (arrOf st2) (lo+k):=fun q q1 q2=>by
    have:=g2 (q - lo) (xdp q1 q2);rw[xcm q1] at this;exact this
   have hig:∀q,lo+l<=q->q < lo+k->kA R (arrOf st2) (lo+k)<=kA R (arrOf st2) q:=fun q q1 q2=>by
    have q0:=xbb (xbz _ _) q1;have:=g3 (q - lo) (xek q1) (xdp q0 q2);rw[xcm q0] at this;exact this
   by_cases i1:i=lo+l
   ·rw[if_pos i1];by_cases j1:j=lo+l
    ·rw[if_pos j1];exact xbf _
    ·have jj:=xda (i1 ▸ a2) (xdv j1);rw[if_neg j1,if_pos ⟨jj,hj⟩];exact hig _ (xdc jj) (zyw jj hj)
   ·rw[if_neg i1];by_cases i2:lo+l < i/\i<=lo+k
    ·have jj:=xbh i2.1 a2;rw[if_pos i2,if_neg (xko jj),if_pos ⟨jj,hj⟩];exact up1 _ _ (xbb (xbz lo l) (xdc i2.1)) (xfb a2 1) (zyw jj hj)
    ·have il:i < lo+l:=xda (xca fun z=>i2 ⟨z,xbb a2 hj⟩) i1;rw[if_neg i2];by_cases j1:j=lo+l
     ·rw[if_pos j1];exact low i a1 il
     ·rw[if_neg j1];by_cases j2:lo+l < j/\j<=lo+k
      ·rw[if_pos j2];exact up1 _ _ a1 (xdc (xhu il j2.1)) (zyw j2.1 hj)
      ·rw[if_neg j2];exact up1 _ _ a1 a2 (xbh (xda (xca fun z=>j2 ⟨z,hj⟩) j1) (xci g1 lo))
 ·rintro c st' ⟨rfl,b1,sm1,up1⟩;rw[xia (Nat.le_max_right _ _)] at up1;exact⟨rfl,b1,sm1,up1⟩
 ·refine⟨rfl,b,⟨Out.refl _ _ _,rfl⟩,fun i j a1 a2 a3=>up i j a1 a2 (xbh a3 (xci (xbb (xhk _ _) (xdi (Nat.max_eq_left h1))) lo))⟩
 ·rintro c st' ⟨rfl,b1,sm1,up1⟩;exact xbn (h st' b1 sm1 up1)
noncomputable def gallop':Bool->Keyed->Array Keyed->Nat->Nat->Nat->StateT SortSt Sem (Option Nat):=sortPriv% PySem.Builtin.gallop
noncomputable def Cut (left:Bool) (R:Keyed->Nat) (key:Keyed) (arr:Array Keyed) (base n h:Nat):Prop:=h<=n/\(∀i,i < h->if left then kA R arr (base+i) < R key else kA R arr (base+i)<=R key)/\(∀i,h<=i->i < n->if left then R key<=kA R arr (base+i) else R key < kA R arr (base+i))
noncomputable def ahead (left:Bool) (R:Keyed->Nat) (key:Keyed) (arr:Array Keyed) (base i:Nat):Bool:=if left then decide (kA R arr (base+i) < R key) else decide (kA R arr (base+i)<=R key)
theorem zlq {left:Bool}{key:Keyed}{arr:Array Keyed}{base i:Nat}{st:SortSt}{Q:Option Bool->SortSt->Prop}(O:Orc prog w A s κ a₀ R)(hk:kindOf st=κ)(mk:key∈a₀.toList)(ma:∃x,arr[base+i]?=some x/\x∈a₀.toList)(h:Q (some (ahead left R key arr base i)) st) :
  wpS (model prog w) A E s (do
   let x ← elem' arr (base+i)
   if left=true then lt' x key else do
    let y ← lt' key x
    pure (Option.map (fun x=>!x) y)) Q st:=by
 obtain⟨x,e,m⟩:=ma;refine xbj (zlp e ?_);unfold ahead at h;rw[zej e] at h;cases left with
 | true =>
  rw[if_pos rfl] at h ⊢;exact w_lt O hk m mk h
 | false =>
  rw[if_neg (by decide)] at h ⊢;refine xbj (w_lt O hk mk m (xbn ?_));have q:(!decide (R key < R x))=decide (R x<=R key):=by
   by_cases c:R key < R x
   ·rw[xbw c,xbu (Nat.not_le_of_lt c)];rfl
   ·rw[xbu c,xbw (xca c)];rfl
  show Q (some (!decide (R key < R x))) st;rw[q];exact h
theorem zub {left:Bool}{key:Keyed}{arr:Array Keyed}{base n i j:Nat}(up:UpA R arr base (base+n))(hij:i<=j)(hj:j < n)(h:ahead left R key arr base j=true):ahead left R key arr base i=true:=by
 have:=up (base+i) (base+j) (xbz _ _) (xci hij _) (xeb hj _);unfold ahead at h ⊢;cases left with
 | true=>rw[if_pos rfl] at h ⊢;exact xbw (xcz this (xdu h))
 | false=>rw[if_neg (by decide)] at h ⊢;exact xbw (xbb this (xdu h))
theorem zbgo {left:Bool}{key:Keyed}{arr:Array Keyed}{base n h:Nat}(h0:h<=n)(h1:∀i,i < h->ahead left R key arr base i=true)(h2:∀i,h<=i->i < n->ahead left R key arr base i=false):Cut left R key arr base n h:=by
 refine⟨h0,fun i hi=>?_,fun i a1 a2=>?_⟩
 ·have:=h1 i hi;unfold ahead at this;cases left with
  | true=>rw[if_pos rfl] at this ⊢;exact xdu this
  | false=>rw[if_neg (by decide)] at this ⊢;exact xdu this
 ·have:=h2 i a1 a2;unfold ahead at this;cases left with
  | true=>rw[if_pos rfl] at this ⊢;exact xca (of_decide_eq_false this)
  | false=>rw[if_neg (by decide)] at this ⊢;exact xfm (of_decide_eq_false this)
theorem zxq {a b:Nat}(c:¬a ≥ b):(b - a) / 2 < b - a:=Nat.div_lt_self (xfe (xfm c)) (xbf 2)
theorem zbjo {a b:Nat}(c:¬a ≥ b):a+(b - a) / 2 < b:=xds (zxq c)
theorem zbbz {a b n:Nat}(c:¬a ≥ b)(h:b<=n):a+(b - a) / 2 < n:=xbh (zbjo c) h
theorem zber {a b n x:Nat}(h:b - a<=n - x):b - (a+(b - a) / 2+1)<=n - (x+1):=xbb (xgx (xex (xbz a _)) b) (xfb h 1)
theorem zbeq {a b n x:Nat}(c:¬a ≥ b)(h:b - a<=n - x):a+(b - a) / 2 - a<=n - (x+1):=by
 rw[xcu];exact xbb (xdc (zxq c)) (xfb h 1)
theorem zbgd (o:Nat):o < 2 * o+1:=Nat.lt_succ_of_le (Nat.le_mul_of_pos_left o xlb)
theorem zbge {x o:Nat}(h:x+1<=o):x+1+1<=2 * o+1:=xex (xbb h (Nat.le_mul_of_pos_left o xlb))
theorem zbcn {a b n:Nat}(h:a+b < n):b < n - a:=Nat.lt_sub_of_add_lt (Nat.add_comm a b ▸ h)
inductive GI (f:Nat->Bool) (n:Nat) (st:SortSt) (x:Nat):Option (Option Nat)×Nat×Nat->SortSt->Prop where
 | mk {a b:Nat} (q1:a<=b) (q2:b<=n) (q3:b - a<=n - x) (q4:∀i,i < a->f i=true) (q5:∀i,b<=i->i < n->f i=false):GI f n st x (none,a,b) st
inductive GE (f:Nat->Bool) (n:Nat) (st:SortSt):Option (Option Nat)×Nat×Nat->SortSt->Prop where
 | mk {b:Nat} (q2:b<=n) (q4:∀i,i < b->f i=true) (q5:∀i,b<=i->i < n->f i=false):GE f n st (none,b,b) st
inductive GU (f:Nat->Bool) (n hint:Nat) (P:Nat->Prop) (st:SortSt):Option (Option Nat)×Nat×Nat->SortSt->Prop where
 | mk {l o:Nat} (g1:l < o) (g2:hint+l < n) (g3:f (hint+l)=true) (g4:P o):GU f n hint P st (none,l,o) st
inductive GD (f:Nat->Bool) (hint:Nat) (P:Nat->Prop) (st:SortSt):Option (Option Nat)×Nat×Nat->SortSt->Prop where
 | mk {l o:Nat} (g1:l < o) (g2:l<=hint) (g3:f (hint - l)=false) (g4:P o):GD f hint P st (none,l,o) st
theorem zgi {left:Bool}{key:Keyed}{arr:Array Keyed}{base n hint:Nat}{st:SortSt}{Q:Option Nat->SortSt->Prop}(O:Orc prog w A s κ a₀ R)(hk:kindOf st=κ)(mk:key∈a₀.toList)(ma:∀i,i < n->∃x,arr[base+i]?=some x/\x∈a₀.toList)(hh:hint < n)
  (up:UpA R arr base (base+n))(h:∀k,Cut left R key arr base n k->Q (some k) st):wpS (model prog w) A E s (gallop' left key arr base n hint) Q st:=by
 have mono:∀i j,i<=j->j < n->ahead left R key arr base j=true->ahead left R key arr base i=true:=fun i j a1 a2=>zub up a1 a2
 have monoF:∀i j,i<=j->j < n->ahead left R key arr base i=false->ahead left R key arr base j=false:=fun i j a1 a2 e=>by
  cases c:ahead left R key arr base j with
  | false=>rfl
  | true=>rw[mono i j a1 a2 c] at e;cases e
 refine xbj (zlq O hk mk (ma hint hh) ?_);dsimp only;cases hr:ahead left R key arr base hint with
 | true =>
  rw[if_pos rfl];refine xbj (xez (xdn (I:=fun x=>GU (ahead left R key arr base) n hint (x+1<=·) st) (Q:=GU (ahead left R key arr base) n hint (fun o=>n - hint<=o\/(hint+o < n/\ahead left R key arr base (hint+o)=false)) st) ?_ ?_ ?_) ?_)
  ·rintro x c st' x1 x2 @⟨l,o,g1,g2,g3,g4⟩;dsimp only;by_cases c:o ≥ n - hint
   ·rw[if_pos c];exact xbn (.mk g1 g2 g3 (.inl c))
   ·have c3:hint+o < n:=xds (xfm c);rw[if_neg c];refine xbj (zlq O hk mk (ma (hint+o) c3) ?_);dsimp only;cases c2:ahead left R key arr base (hint+o) with
    | true=>exact xbn (.mk (zbgd o) c3 c2 (zbge g4))
    | false=>exact xbn (.mk g1 g2 g3 (.inr ⟨c3,c2⟩))
  ·rintro c st' @⟨l,o,g1,g2,g3,g4⟩;rw[Nat.zero_max] at g4;exact .mk g1 g2 g3 (.inl (xbb (xga _ _) (xde g4)))
  ·exact .mk Nat.one_pos hh hr (xbf _)
  ·rintro c st' @⟨l,o,g1,g2,g3,g4⟩;dsimp only;have f1:∀i,i < hint+l+1->ahead left R key arr base i=true:=fun i hi=>mono i (hint+l) (xcy hi) g2 g3
   have f2:∀i,hint+min o (n - hint)<=i->i < n->ahead left R key arr base i=false:=fun i a1 a2=>by
    rcases g4 with g | ⟨ga,gb⟩
    ·rw[xia g,xcm (xbx hh)] at a1;exact absurd a2 (xeh a1)
    ·rw[xdx (xbx (zbcn ga))] at a1;exact monoF (hint+o) i a1 a2 gb
   have f3:hint+l+1<=hint+min o (n - hint):=xci (Nat.le_min.mpr ⟨g1,zbcn g2⟩) hint;have f4:hint+min o (n - hint)<=n:=xbb (xci (xhz _ _) hint) (xdi (xcm (xbx hh)));generalize hint+l+1=lo at f1 f3 ⊢;generalize hint+min o (n - hint)=hi at f2 f3 f4 ⊢;refine xbj (xez (xdn (I:=GI (ahead left R key arr base) n st) (Q:=GE (ahead left R key arr base) n st) ?_ ?_ (.mk f3 f4 (xbb (xga _ _) f4) f1 f2)) ?_)
   ·rintro x c st2 x1 x2 @⟨a,b,q1,q2,q3,q4,q5⟩;dsimp only;by_cases c:a ≥ b
    ·rw[if_pos c];have e:b=a:=xdr c q1;subst e;exact xbn (.mk q2 q4 q5)
    ·rw[if_neg c];refine xbj (zlq O hk mk (ma (a+(b - a) / 2) (zbbz c q2)) ?_);dsimp only;cases c2:ahead left R key arr base (a+(b - a) / 2) with
     | true=>exact xbn (.mk (zbjo c) q2 (zber q3) (fun i hi=>mono i (a+(b - a) / 2) (xcy hi) (zbbz c q2) c2) q5)
     | false=>exact xbn (.mk (xbz _ _) (xbx (zbbz c q2)) (zbeq c q3) q4 fun i a1 a2=>monoF (a+(b - a) / 2) i a1 a2 c2)
   ·rintro c st2 @⟨a,b,q1,q2,q3,q4,q5⟩;have e:=zkv q1 q3;subst e;exact .mk q2 q4 q5
   ·rintro c st2 @⟨b,q2,q4,q5⟩;exact xbn (h b (zbgo q2 q4 q5))
 | false =>
  rw[if_neg (by decide)];refine xbj (xez (xdn (I:=fun x=>GD (ahead left R key arr base) hint (x+1<=·) st) (Q:=GD (ahead left R key arr base) hint (fun o=>hint+1<=o\/(o<=hint/\ahead left R key arr base (hint - o)=true)) st) ?_ ?_ ?_) ?_)
  ·rintro x c st' x1 x2 @⟨l,o,g1,g2,g3,g4⟩;dsimp only;by_cases c:o ≥ hint+1
   ·rw[if_pos c];exact xbn (.mk g1 g2 g3 (.inl c))
   ·rw[if_neg c];refine xbj (zlq O hk mk (ma (hint - o) (xcz (xga _ _) hh)) ?_);dsimp only;cases c2:ahead left R key arr base (hint - o) with
    | true=>exact xbn (.mk g1 g2 g3 (.inr ⟨xcy (xfm c),c2⟩))
    | false=>exact xbn (.mk (zbgd o) (xcy (xfm c)) c2 (zbge g4))
  ·rintro c st' @⟨l,o,g1,g2,g3,g4⟩;rw[Nat.zero_max] at g4;exact .mk g1 g2 g3 (.inl (xbb hh (xde g4)))
  ·exact .mk Nat.one_pos (xeg _) hr (xbf _)
  ·rintro c st' @⟨l,o,g1,g2,g3,g4⟩;dsimp only;have f1:∀i,i < hint+1 - min o (hint+1)->ahead left R key arr base i=true:=fun i hi=>by
    rcases g4 with g | ⟨ga,gb⟩
    ·rw[xia g,xin] at hi;exact absurd hi (Nat.not_lt_zero _)
    ·rw[xdx (xff ga),Nat.succ_sub ga] at hi;exact mono i (hint - o) (xcy hi) (xcz (xga _ _) hh) gb
   have f2:∀i,hint - l<=i->i < n->ahead left R key arr base i=false:=fun i a1 a2=>monoF (hint - l) i a1 a2 g3
   have f3:hint+1 - min o (hint+1)<=hint - l:=xbb (xgx (Nat.le_min.mpr ⟨g1,xex g2⟩) _) (xdi (Nat.succ_sub_succ hint l));have f4:hint - l<=n:=xbb (xga _ _) (xbx hh);generalize hint+1 - min o (hint+1)=lo at f1 f3 ⊢;generalize hint - l=hi at f2 f3 f4 ⊢;refine xbj (xez (xdn (I:=GI (ahead left R key arr base) n st) (Q:=GE (ahead left R key arr base) n st) ?_ ?_ (.mk f3 f4 (xbb (xga _ _) f4) f1 f2)) ?_)
   ·rintro x c st2 x1 x2 @⟨a,b,q1,q2,q3,q4,q5⟩;dsimp only;by_cases c:a ≥ b
    ·rw[if_pos c];have e:b=a:=xdr c q1;subst e;exact xbn (.mk q2 q4 q5)
    ·rw[if_neg c];refine xbj (zlq O hk mk (ma (a+(b - a) / 2) (zbbz c q2)) ?_);dsimp only;cases c2:ahead left R key arr base (a+(b - a) / 2) with
     | true=>exact xbn (.mk (zbjo c) q2 (zber q3) (fun i hi=>mono i (a+(b - a) / 2) (xcy hi) (zbbz c q2) c2) q5)
     | false=>exact xbn (.mk (xbz _ _) (xbx (zbbz c q2)) (zbeq c q3) q4 fun i a1 a2=>monoF (a+(b - a) / 2) i a1 a2 c2)
   ·rintro c st2 @⟨a,b,q1,q2,q3,q4,q5⟩;have e:=zkv q1 q3;subst e;exact .mk q2 q4 q5
   ·rintro c st2 @⟨b,q2,q4,q5⟩;exact xbn (h b (zbgo q2 q4 q5))
end
section
variable {prog:Program}{w:World}{A:Around}{E:Value->Shared->Prop}{s:Shared}{κ:SortKind}{a₀:Array Keyed}{R:Keyed->Nat}
noncomputable abbrev Ord (R:Keyed->Nat) (l:List Keyed):Prop:=l.Pairwise fun x y=>R x<=R y
structure SmG (st st':SortSt):Prop where
 arr:arrOf st'=arrOf st
 pend:pendingOf st'=pendingOf st
 kind:kindOf st'=kindOf st
 failed:failedOf st'=failedOf st
theorem SmG.refl (st:SortSt):SmG st st:=⟨rfl,rfl,rfl,rfl⟩
theorem SmG.trans {a b c:SortSt}(x:SmG a b)(y:SmG b c):SmG a c:=⟨y.arr.trans x.arr,y.pend.trans x.pend,y.kind.trans x.kind,y.failed.trans x.failed⟩
noncomputable def mergeLo':Array Keyed->Array Keyed->StateT SortSt Sem (Array Keyed):=sortPriv% PySem.Builtin.mergeLo
noncomputable def mergeHi':Array Keyed->Array Keyed->StateT SortSt Sem (Array Keyed):=sortPriv% PySem.Builtin.mergeHi
structure ML (R:Keyed->Nat) (all out rest:List Keyed):Prop where
 perm:(out++rest).Perm all
 ord:Ord R out
 le:∀x∈out,∀y∈rest,R x<=R y
theorem ML.grow {all out rest xs rest':List Keyed}(m:ML R all out rest)(p:rest.Perm (xs++rest'))(o:Ord R xs)(h:∀x∈xs,∀y∈rest',R x<=R y):ML R all (out++xs) rest':=by
 refine⟨?_,xfr.mpr ⟨m.ord,o,fun x hx y hy=>m.le x hx y (p.mem_iff.mpr (xhy _ hy))⟩,fun x hx y hy=>?_⟩
 ·rw[xck];exact(xgi out p.symm).trans m.perm
 ·rcases xcg.mp hx with hx | hx
  ·exact m.le x hx y (p.mem_iff.mpr (xdh _ hy))
  ·exact h x hx y hy
theorem ML.fin {all out rest rest':List Keyed}(m:ML R all out rest)(p:rest'.Perm rest)(o:Ord R rest'):(out++rest').Perm all/\Ord R (out++rest') :=
 ⟨(xgi out p).trans m.perm,xfr.mpr ⟨m.ord,o,fun x hx y hy=>m.le x hx y (p.mem_iff.mp hy)⟩⟩
theorem Ord.at {l:List Keyed}(h:Ord R l){i j:Nat}{x y:Keyed}(hi:l[i]?=some x)(hj:l[j]?=some y)(hij:i<=j):R x<=R y:=by
 obtain⟨h1,e1⟩:=xbc.mp hi;obtain⟨h2,e2⟩:=xbc.mp hj;by_cases c:i=j
 ·subst c;rw[← e1,← e2];exact xbf _
 ·rw[← e1,← e2];exact xii.mp h i j h1 h2 (xda hij c)
theorem Ord.drop {l:List Keyed}(h:Ord R l)(n:Nat):Ord R (l.drop n):=List.Pairwise.sublist (List.drop_sublist _ _) h
theorem Ord.take {l:List Keyed}(h:Ord R l)(n:Nat):Ord R (l.take n):=List.Pairwise.sublist (xki _ _) h
theorem zbs {l:List Keyed}{n:Nat}{y:Keyed}(h:y∈l.drop n):∃j,n<=j/\l[j]?=some y:=by
 obtain⟨i,hi,e⟩:=xea h;refine⟨n+i,xbz _ _,?_⟩;rw[← e,List.getElem_drop];exact xbe _
theorem zy {l:List Keyed}{n:Nat}{y:Keyed}(h:y∈l.take n):∃j,j < n/\l[j]?=some y:=by
 obtain⟨i,hi,e⟩:=xea h;have hi2:i < n/\i < l.length:=by rw[xcx] at hi;exact Nat.lt_min.mp hi
 refine⟨i,hi2.1,?_⟩;rw[← e,List.getElem_take];exact xbe _
theorem zin {l:List Keyed}{i:Nat}{x:Keyed}(h:l[i]?=some x):l.drop i=x::l.drop (i+1):=by
 obtain⟨h1,rfl⟩:=xbc.mp h;exact xcw h1
theorem zmg (l:List Keyed)(i k:Nat):l.drop i=(l.drop i).take k++l.drop (i+k):=by
 rw[← xld,xel]
structure Two (R:Keyed->Nat) (la lb:List Keyed):Prop where
 oa:Ord R la
 ob:Ord R lb
 last:∀x,la[la.length - 1]?=some x->∀y∈lb,R y<=R x
noncomputable def Fin (R:Keyed->Nat) (la lb:List Keyed) (r:Array Keyed):Prop:=r.toList.Perm (la++lb)/\Ord R r.toList
variable {la lb:List Keyed}{out:Array Keyed}{ia ib:Nat}
theorem ML.pushB {R:Keyed->Nat}{all:List Keyed}(T:Two R la lb)(m:ML R all out.toList (la.drop ia++lb.drop ib)){y:Keyed}(hy:lb[ib]?=some y)(h:∀z∈la.drop ia,R y<=R z):ML R all (out.push y).toList (la.drop ia++lb.drop (ib+1)):=by
 rw[xfg];refine m.grow ?_ (xiy _ _) fun x hx z hz=>?_
 ·rw[zin hy];exact List.perm_middle
 ·simp at hx;subst hx
  rcases xcg.mp hz with hz | hz
  ·exact h z hz
  ·obtain⟨j,hj,e⟩:=zbs hz;exact T.ob.at hy e (xde hj)
theorem ML.pushA {R:Keyed->Nat}{all:List Keyed}(T:Two R la lb)(m:ML R all out.toList (la.drop ia++lb.drop ib)){x:Keyed}(hx:la[ia]?=some x)(h:∀z∈lb.drop ib,R x<=R z):ML R all (out.push x).toList (la.drop (ia+1)++lb.drop ib):=by
 rw[xfg];refine m.grow ?_ (xiy _ _) fun w hw z hz=>?_
 ·rw[zin hx];exact .refl _
 ·simp at hw;subst hw
  rcases xcg.mp hz with hz | hz
  ·obtain⟨j,hj,e⟩:=zbs hz;exact T.oa.at hx e (xde hj)
  ·exact h z hz
theorem zci (xs:Array Keyed)(i j:Nat):(xs.extract i j).toList=(xs.toList.drop i).take (j - i):=by
 rw[Array.toList_extract,List.extract_eq_take_drop]
theorem zph (xs:Array Keyed)(i:Nat):(xs.extract i).toList=xs.toList.drop i:=by
 rw[zci];exact xgb (by simp)
theorem zce {xs:Array Keyed}{i:Nat}{x:Keyed}(h:xs.toList[i]?=some x):kA R xs i=R x:=zej (by rw[← xcj];exact h)
end
section
variable {prog:Program}{w:World}{A:Around}{E:Value->Shared->Prop}{s:Shared}{κ:SortKind}{a₀:Array Keyed}{R:Keyed->Nat}{a b out:Array Keyed}{ia ib k:Nat}{y x:Keyed}{all:List Keyed}
theorem ML.galA (T:Two R a.toList b.toList)(m:ML R all out.toList (a.toList.drop ia++b.toList.drop ib))(hy:b.toList[ib]?=some y)(c:Cut false R y a ia (a.size - ia) k):ML R all (out++a.extract ia (ia+k)).toList (a.toList.drop (ia+k)++b.toList.drop ib)/\∀z∈a.toList.drop (ia+k),R y<=R z:=by
 have up:∀z∈a.toList.drop (ia+k),R y<=R z:=fun z hz=>by
  obtain⟨j,hj,e⟩:=zbs hz;have hj2:j < a.size:=by have:=(xbc.mp e).1;simpa using this
  have h0:=xbb (xbz _ _) hj;have:=c.2.2 (j - ia) (xek hj) (xee h0 hj2);rw[xcm h0,zce e] at this;exact xbx this
 have low:∀z∈(a.toList.drop ia).take k,R z<=R y:=fun z hz=>by
  obtain⟨j,hj,e⟩:=zy hz;rw[xey] at e;have:=c.2.1 j hj;rw[zce e] at this;exact this
 refine⟨?_,up⟩;rw[xdm,zci,xcu];refine m.grow ?_ ((T.oa.drop ia).take k) fun z hz v hv=>?_
 ·conv=>lhs;rw[zmg a.toList ia k]
  rw[xck]
 ·rcases xcg.mp hv with hv | hv
  ·exact xbb (low z hz) (up v hv)
  ·obtain⟨j,hj,e⟩:=zbs hv;exact xbb (low z hz) (T.ob.at hy e hj)
theorem ML.galB (T:Two R a.toList b.toList)(m:ML R all out.toList (a.toList.drop ia++b.toList.drop ib))(hx:a.toList[ia]?=some x)(c:Cut true R x b ib (b.size - ib) k):ML R all (out++b.extract ib (ib+k)).toList (a.toList.drop ia++b.toList.drop (ib+k))/\∀z∈b.toList.drop (ib+k),R x<=R z:=by
 have up:∀z∈b.toList.drop (ib+k),R x<=R z:=fun z hz=>by
  obtain⟨j,hj,e⟩:=zbs hz;have hj2:j < b.size:=by have:=(xbc.mp e).1;simpa using this
  have h0:=xbb (xbz _ _) hj;have:=c.2.2 (j - ib) (xek hj) (xee h0 hj2);rw[xcm h0,zce e] at this;exact this
 have low:∀z∈(b.toList.drop ib).take k,R z<=R x:=fun z hz=>by
  obtain⟨j,hj,e⟩:=zy hz;rw[xey] at e;have:=c.2.1 j hj;rw[zce e] at this;exact xbx this
 refine⟨?_,up⟩;rw[xdm,zci,xcu];refine m.grow ?_ ((T.ob.drop ib).take k) fun z hz v hv=>?_
 ·conv=>lhs;rw[zmg b.toList ib k]
  rw[← xck,← xck];exact xhn _ xgj
 ·rcases xcg.mp hv with hv | hv
  ·obtain⟨j,hj,e⟩:=zbs hv;exact xbb (low z hz) (T.oa.at hx e hj)
  ·exact xbb (low z hz) (up v hv)
theorem ML.done (T:Two R a.toList b.toList)(m:ML R (a.toList++b.toList) out.toList (a.toList.drop ia++b.toList.drop ib))(h:ia=a.size\/ib=b.size):Fin R a.toList b.toList (out++a.extract ia++b.extract ib):=by
 unfold Fin;rw[xdm,xdm,zph,zph,xck];refine m.fin (.refl _) ?_;rcases h with rfl | rfl
 ·rw[xho (by simp),List.nil_append];exact T.ob.drop _
 ·rw[xho (as:=b.toList) (by simp),xet];exact T.oa.drop _
theorem ML.lastA (T:Two R a.toList b.toList)(m:ML R (a.toList++b.toList) out.toList (a.toList.drop ia++b.toList.drop ib))(h:ia+1=a.size):Fin R a.toList b.toList (out++b.extract ib++a.extract ia):=by
 unfold Fin;rw[xdm,xdm,zph,zph,xck];refine m.fin xgj (xfr.mpr ⟨T.ob.drop _,T.oa.drop _,fun v hv z hz=>?_⟩);obtain⟨j,hj,e⟩:=zbs hz;have hj2:j < a.size:=by have:=(xbc.mp e).1;simpa using this
 have:j=a.toList.length - 1:=xdr (xdc (by rw[xby];exact hj2)) (by rw[xby,← h];exact hj);subst this;exact T.last z e v (xgr hv)
noncomputable def setG':Nat->StateT SortSt Sem Unit:=sortPriv% PySem.Builtin.setMinGallop
theorem zui {g:Nat}{st:SortSt}{Q:Unit->SortSt->Prop}(h:∀st',SmG st st'->Q () st'):wpS (model prog w) A E s (setG' g) Q st :=
 xgc (h _ ⟨rfl,rfl,rfl,rfl⟩)
theorem zblv {α:Type}{K:Nat->StateT SortSt Sem α}{Q:α->SortSt->Prop}{st:SortSt}(h:∀v,wpS (model prog w) A E s (K v) Q st):∀y x:Nat,wpS (model prog w) A E s (if y > 1 then K x else K y) Q st:=fun y x=>by
 by_cases e:y > 1
 ·rw[if_pos e];exact h x
 ·rw[if_neg e];exact h y
theorem zblx {α:Type}{c c2:Prop}[Decidable c][Decidable c2]{X Y Y':StateT SortSt Sem α}{Q:α->SortSt->Prop}{st:SortSt}(hY:¬c->Y'=Y)(h1:c->c2->wpS (model prog w) A E s X Q st)(h2:(c->¬c2)->wpS (model prog w) A E s Y Q st):wpS (model prog w) A E s (if c then(if c2 then X else Y) else Y') Q st:=by
 by_cases e:c
 ·rw[if_pos e];by_cases e2:c2
  ·rw[if_pos e2];exact h1 e e2
  ·rw[if_neg e2];exact h2 fun _=>e2
 ·rw[if_neg e,hY e];exact h2 fun z=>absurd z e
theorem zbch {α:Type}{c c2 c3:Prop}[Decidable c][Decidable c2][Decidable c3]{X X3 Y Y':StateT SortSt Sem α}{Q:α->SortSt->Prop}{st:SortSt}(hY:¬c->Y'=Y)(h1:c->c2->wpS (model prog w) A E s X Q st)(h3:c->c3->wpS (model prog w) A E s X3 Q st)(h2:(c->¬c2/\¬c3)->wpS (model prog w) A E s Y Q st):wpS (model prog w) A E s (if c then(if c2 then X else if c3 then X3 else Y) else Y') Q st:=by
 by_cases e:c
 ·rw[if_pos e];by_cases e2:c2
  ·rw[if_pos e2];exact h1 e e2
  ·rw[if_neg e2];by_cases e3:c3
   ·rw[if_pos e3];exact h3 e e3
   ·rw[if_neg e3];exact h2 fun _=>⟨e2,e3⟩
 ·rw[if_neg e,hY e];exact h2 fun z=>absurd z e
theorem zblw {α:Type}{c c2:Prop}[Decidable c][Decidable c2]{X X2 Y:StateT SortSt Sem α}{Q:α->SortSt->Prop}{st:SortSt}(h1:c->wpS (model prog w) A E s X Q st)(h2:c2->wpS (model prog w) A E s X2 Q st)(h3:¬c->¬c2->wpS (model prog w) A E s Y Q st):wpS (model prog w) A E s (if c then X else if c2 then X2 else Y) Q st:=by
 by_cases e:c
 ·rw[if_pos e];exact h1 e
 ·rw[if_neg e];by_cases e2:c2
  ·rw[if_pos e2];exact h2 e2
  ·rw[if_neg e2];exact h3 e e2
theorem w_if {α:Type}{c:Prop}[Decidable c]{X Y:StateT SortSt Sem α}{Q:α->SortSt->Prop}{st:SortSt}(h1:c->wpS (model prog w) A E s X Q st)(h2:¬c->wpS (model prog w) A E s Y Q st):wpS (model prog w) A E s (if c then X else Y) Q st:=by
 by_cases e:c
 ·rw[if_pos e];exact h1 e
 ·rw[if_neg e];exact h2 e
theorem w_el {α:Type}{arr:Array Keyed}{i:Nat}{x:Keyed}{f:Keyed->StateT SortSt Sem α}{Q:α->SortSt->Prop}{st:SortSt}(e:arr[i]?=some x)(h:wpS (model prog w) A E s (f x) Q st):wpS (model prog w) A E s (elem' arr i >>= f) Q st:=xbj (zlp e h)
theorem zbcg {α:Type}{x y:Keyed}{f:Option Bool->StateT SortSt Sem α}{Q:α->SortSt->Prop}{st:SortSt}(O:Orc prog w A s κ a₀ R)(hk:kindOf st=κ)(hx:x∈a₀.toList)(hy:y∈a₀.toList)(h1:R x < R y->wpS (model prog w) A E s (f (some true)) Q st)(h2:R y<=R x->wpS (model prog w) A E s (f (some false)) Q st):wpS (model prog w) A E s (lt' x y >>= f) Q st:=by
 refine xbj (w_lt O hk hx hy ?_);by_cases c:R x < R y
 ·rw[xbw c];exact h1 c
 ·rw[xbu c];exact h2 (xca c)
inductive Dn {β:Type} (R:Keyed->Nat) (a b:Array Keyed) (st:SortSt):Option (Array Keyed)×β->SortSt->Prop where
 | mk {r:Array Keyed} {z:β} {st':SortSt} (sm:SmG st st') (f:Fin R a.toList b.toList r):Dn R a b st (some r,z) st'
inductive L1 (R:Keyed->Nat) (a b:Array Keyed) (st:SortSt) (x:Nat):Option (Array Keyed)×Array Keyed×Nat×Nat×Nat->SortSt->Prop where
 | mk {out:Array Keyed} {ia ib g:Nat} {st':SortSt} (sm:SmG st st') (m:ML R (a.toList++b.toList) out.toList (a.toList.drop ia++b.toList.drop ib)) (ha:ia+1 < a.size) (hb:ib < b.size) (hx:x < ia+ib):L1 R a b st x (none,out,ia,ib,g) st'
inductive L2' (R:Keyed->Nat) (a b:Array Keyed) (st:SortSt) (x:Nat):Option (Array Keyed)×Array Keyed×Nat×Nat×Nat×Nat->SortSt->Prop where
 | mk {out:Array Keyed} {ia ib ac bc:Nat} {st':SortSt} (sm:SmG st st') (m:ML R (a.toList++b.toList) out.toList (a.toList.drop ia++b.toList.drop ib)) (ha:ia+1 < a.size) (hb:ib < b.size) (hx:x<=ia+ib):L2' R a b st x (none,out,ia,ib,ac,bc) st'
inductive L3 (R:Keyed->Nat) (a b:Array Keyed) (st:SortSt) (x:Nat):Option (Array Keyed)×Array Keyed×Nat×Nat×Nat×Nat×Nat->SortSt->Prop where
 | mk {out:Array Keyed} {ia ib g ac bc:Nat} {st':SortSt} (sm:SmG st st') (m:ML R (a.toList++b.toList) out.toList (a.toList.drop ia++b.toList.drop ib)) (ha:ia+1 < a.size) (hb:ib < b.size) (hx:x<=ia+ib):L3 R a b st x (none,out,ia,ib,g,ac,bc) st'
theorem zuk {st:SortSt}{Q:Array Keyed->SortSt->Prop}(O:Orc prog w A s κ a₀ R)(hk:kindOf st=κ)(ma:∀x∈a.toList,x∈a₀.toList)(mb:∀x∈b.toList,x∈a₀.toList)(T:Two R a.toList b.toList)(ha:1<=a.size)(hb:1<=b.size)
  (fst:∀y,b.toList[0]?=some y->∀x∈a.toList,R y<=R x)(h:∀r st',SmG st st'->Fin R a.toList b.toList r->Q r st'):wpS (model prog w) A E s (mergeLo' a b) Q st:=by
 have atA:∀(i:Nat) (hi:i < a.size),a[i]?=some a[i]/\a.toList[i]?=some a[i]/\a[i]∈a₀.toList:=fun i hi=>⟨getElem?_pos a i hi,by rw[xcj];exact getElem?_pos a i hi,ma _ (by simp)⟩
 have atB:∀(i:Nat) (hi:i < b.size),b[i]?=some b[i]/\b.toList[i]?=some b[i]/\b[i]∈a₀.toList:=fun i hi=>⟨getElem?_pos b i hi,by rw[xcj];exact getElem?_pos b i hi,mb _ (by simp)⟩
 have upA:∀i,UpA R a i (i+(a.size - i)):=fun i p q a1 a2 a3=>by
  have hq:q < a.size:=by lia
  have e1:=(atA p (by lia)).2.1;have e2:=(atA q hq).2.1;rw[zce e1,zce e2];exact T.oa.at e1 e2 a2
 have upB:∀i,UpA R b i (i+(b.size - i)):=fun i p q a1 a2 a3=>by
  have hq:q < b.size:=by lia
  have e1:=(atB p (by lia)).2.1;have e2:=(atB q hq).2.1;rw[zce e1,zce e2];exact T.ob.at e1 e2 a2
 obtain⟨y0,f0,f1⟩:∃x,b[0]?=some x/\b.toList[0]?=some x:=⟨_,(atB 0 hb).1,(atB 0 hb).2.1⟩
 have start:ML R (a.toList++b.toList) (#[y0]:Array Keyed).toList (a.toList.drop 0++b.toList.drop 1):=by
  have z:ML R (a.toList++b.toList) (#[]:Array Keyed).toList (a.toList.drop 0++b.toList.drop 0):=⟨by simp,List.Pairwise.nil,by simp⟩
  exact z.pushB T f1 fun x hx=>fst y0 f1 x (xgr hx)
 refine xbj (xjl (xid ⟨rfl,xbj (zlp f0 (zblw (fun c1=>?_) (fun c2=>?_) fun c1 c2=>?_))⟩))
 ·exact xbn (h _ _ (.refl _) (start.done T (.inr (by simpa using c1))))
 ·exact xbn (h _ _ (.refl _) (start.lastA T (by simpa using c2)))
 simp only[xfu] at c1 c2;refine xbj (xhf ?_);refine xbj (xez (xdn (I:=L1 R a b st) (Q:=Dn R a b st) ?_ ?_ (.mk (.refl _) start (by lia) (by lia) (by lia))) ?_)
 ·rintro x c st1 x1 x2 @⟨out,ia,ib,g,st1,sm1,m,ha1,hb1,hx⟩;dsimp only;refine xbj (xez (xdn (I:=fun _=>L2' R a b st (ia+ib)) (Q:=fun c st'=>Dn R a b st c st'\/L2' R a b st (ia+ib) c st') ?_ ?_ (.mk sm1 m ha1 hb1 (xbf _))) ?_)
  ·rintro x' c st2 _ _ @⟨out,ia',ib',ac,bc,st2,sm2,m,ha2,hb2,hp⟩;dsimp only;have ea:=(atA ia' (xer ha2)).1;have ela:=(atA ia' (xer ha2)).2.1;have mea:=(atA ia' (xer ha2)).2.2;have eb:=(atB ib' hb2).1;have elb:=(atB ib' hb2).2.1;have meb:=(atB ib' hb2).2.2;refine w_el eb (w_el ea (zbcg O (sm2.kind.trans hk) meb mea (fun cw=>w_el eb ?_) fun cw=>w_el ea ?_))
   ·skip
    have m2:=m.pushB T elb fun z hz=>by
     obtain⟨j,hj,e⟩:=zbs hz;exact xbb (xbx cw) (T.oa.at ela e hj)
    refine w_if (fun c5=>xbn (.inl (.mk sm2 (m2.done T (.inr (eq_of_beq c5)))))) fun c5=>?_
    rw[xfu] at c5;have hb3:ib'+1 < b.size:=xda hb2 c5;have hp3:ia+ib<=ia'+(ib'+1):=xff hp;exact w_if (fun _=>xbn (.inr (.mk sm2 m2 ha2 hb3 hp3))) fun _=>xbn (.mk sm2 m2 ha2 hb3 hp3)
   ·skip
    have m2:=m.pushA T ela fun z hz=>by
     obtain⟨j,hj,e⟩:=zbs hz;exact xbb cw (T.ob.at elb e hj)
    refine w_if (fun c5=>xbn (.inl (.mk sm2 (m2.lastA T (eq_of_beq c5))))) fun c5=>?_
    rw[xfu] at c5;have ha3:ia'+1+1 < a.size:=xda ha2 c5;have hp3:ia+ib<=ia'+1+ib':=Nat.succ_add ia' ib' ▸ xff hp
    exact w_if (fun _=>xbn (.inr (.mk sm2 m2 ha3 hb2 hp3))) fun _=>xbn (.mk sm2 m2 ha3 hb2 hp3)
  ·exact fun c st2 k=>.inr k
  ·rintro c st2 (⟨sm2,f⟩ | @⟨out,ia',ib',ac,bc,st2,sm2,m,ha2,hb2,hp⟩)
   ·exact xbn (.mk sm2 f)
   ·dsimp only;refine xbj (xjl (xid ⟨rfl,?_⟩));refine xbj (xez (xdn (I:=fun x'=>L3 R a b st (ia+ib+x')) (Q:=fun c st'=>Dn R a b st c st'\/L3 R a b st (ia+ib+1) c st') ?_ ?_ (.mk sm2 m ha2 hb2 hp)) ?_)
    ·rintro x' c st3 _ x2' @⟨out,ia',ib',g',ac,bc,st3,sm3,m,ha2,hb2,hp⟩;dsimp only;have eb:=(atB ib' hb2).1;have elb:=(atB ib' hb2).2.1;have meb:=(atB ib' hb2).2.2;generalize g' - 1=g1;generalize g'=y;revert g1;revert y
     refine zblv ?_;intro gg;refine xbj (zui fun st4 sg=>?_);have sm4:=sm3.trans sg;refine w_el eb (xbj (zgi O (sm4.kind.trans hk) meb (fun i hi=>⟨_,(atA (ia'+i) (xds hi)).1,(atA (ia'+i) (xds hi)).2.2⟩) (xfe (xer ha2)) (upA ia') fun k1 cut1=>?_));have m5:=(m.galA T elb cut1).1;have u5:=(m.galA T elb cut1).2;have hk1:=cut1.1;dsimp only;refine zbch (fun c6=>?_) (fun c6 c7=>?_) (fun c6 c8=>?_) fun hh=>?_
     ·have z:k1=0:=Nat.le_zero.mp (xca c6);subst z;simp only[xjq,xhw (xhk _ _),xkd]
     ·exact xbn (.inl (.mk sm4 (m5.lastA T (eq_of_beq c7))))
     ·exact xbn (.inl (.mk sm4 (m5.done T (.inl (eq_of_beq c8)))))
     have ha5:ia'+k1+1 < a.size:=by
      by_cases c6:k1 > 0
      ·have:=hh c6;simp at this;lia
      ·lia
     have hp5:ia+ib+x'<=ia'+k1+ib':=xbb hp (Nat.add_le_add_right (xbz _ _) _);clear hh;generalize ia'+k1=ia5 at m5 u5 ha5 hp5 ⊢;generalize out++a.extract ia' ia5=out5 at m5 ⊢;have m6:=m5.pushB T elb u5;have ea:=(atA _ (xer ha5)).1;have ela:=(atA _ (xer ha5)).2.1;have mea:=(atA _ (xer ha5)).2.2;refine w_el eb (w_if (fun c9=>xbn (.inl (.mk sm4 (m6.done T (.inr (eq_of_beq c9)))))) fun c9=>w_el ea ?_);rw[xfu] at c9;refine xbj (zgi O (sm4.kind.trans hk) mea (fun i hi=>⟨_,(atB (ib'+1+i) (xds hi)).1,(atB (ib'+1+i) (xds hi)).2.2⟩) (xfe (xda hb2 c9)) (upB (ib'+1)) fun k2 cut2=>?_);have m7:=(m6.galB T ela cut2).1;have u7:=(m6.galB T ela cut2).2;have hk2:=cut2.1;dsimp only;refine zblx (fun d6=>?_) (fun d6 d7=>?_) fun hh=>?_
     ·have z2:k2=0:=Nat.le_zero.mp (xca d6);subst z2;simp only[xjq,xhw (xhk _ _),xkd]
     ·exact xbn (.inl (.mk sm4 (m7.done T (.inr (eq_of_beq d7)))))
     have h20:ib'+1+k2≠b.size:=by
      by_cases d6:k2 > 0
      ·have:=hh d6;simp at this;lia
      ·lia
     have m8:=m7.pushA T ela u7;refine w_el ea (w_if (fun d8=>xbn (.inl (.mk sm4 (m8.lastA T (eq_of_beq d8))))) fun d8=>?_);rw[xfu] at d8;have ha9:ia5+1+1 < a.size:=xda ha5 d8;have hb9:ib'+1+k2 < b.size:=by lia
     have hp9:ia+ib+(x'+1)<=ia5+1+(ib'+1+k2):=by lia
     exact w_if (fun _=>xbn (.inr (.mk sm4 m8 ha9 hb9 (xbb (xci (xkz 1 x') _) hp9)))) fun _=>xbn (.mk sm4 m8 ha9 hb9 hp9)
    ·rintro c st3 ⟨sm3,m,ha2,hb2,hp⟩;exact .inr (.mk sm3 m ha2 hb2 (by lia))
    ·rintro c st3 (⟨sm3,f⟩ | ⟨sm3,m,ha2,hb2,hp⟩)
     ·exact xbn (.mk sm3 f)
     ·exact xbj (zui fun st4 sg=>xbn (.mk (sm3.trans sg) m ha2 hb2 (xbh (Nat.succ_lt_succ hx) hp)))
 ·rintro c st1 ⟨sm1,m,ha1,hb1,hx⟩;lia
 ·rintro c st1 ⟨sm1,f⟩;exact xbn (h _ st1 sm1 f)
end
structure MH (R:Keyed->Nat) (all out rest:List Keyed):Prop where
 perm:(rest++out.reverse).Perm all
 ord:Ord R out.reverse
 le:∀x∈rest,∀y∈out,R x<=R y
section
variable {R:Keyed->Nat}
theorem MH.grow {all out rest xs rest':List Keyed}(m:MH R all out rest)(p:rest.Perm (rest'++xs.reverse))(o:Ord R xs.reverse)(h:∀x∈rest',∀y∈xs,R x<=R y):MH R all (out++xs) rest':=by
 refine⟨?_,?_,fun x hx y hy=>?_⟩
 ·rw[List.reverse_append,← xck];exact(xhn _ p.symm).trans m.perm
 ·rw[List.reverse_append];exact xfr.mpr ⟨o,m.ord,fun x hx y hy=>m.le x (p.mem_iff.mpr (xdh _ hx)) y (xjj.mp hy)⟩
 ·rcases xcg.mp hy with hy | hy
  ·exact m.le x (p.mem_iff.mpr (xhy _ hx)) y hy
  ·exact h x hx y hy
theorem MH.fin {all out rest rest':List Keyed}(m:MH R all out rest)(p:rest'.Perm rest)(o:Ord R rest'):(rest'++out.reverse).Perm all/\Ord R (rest'++out.reverse) :=
 ⟨(xhn _ p).trans m.perm,xfr.mpr ⟨o,m.ord,fun x hx y hy=>m.le x (p.mem_iff.mp hx) y (xjj.mp hy)⟩⟩
theorem zho {l:List Keyed}{i:Nat}{x:Keyed}(h:l[i]?=some x):l.take (i+1)=l.take i++[x]:=by
 obtain⟨h1,rfl⟩:=xbc.mp h;exact xgt h1
structure TwoH (R:Keyed->Nat) (la lb:List Keyed):Prop where
 oa:Ord R la
 ob:Ord R lb
 first:∀y,lb[0]?=some y->∀x∈la,R y<=R x
variable {la lb all:List Keyed}{out:Array Keyed}{na nb:Nat}
theorem MH.pushB (T:TwoH R la lb)(m:MH R all out.toList (la.take na++lb.take (nb+1))){y:Keyed}(hy:lb[nb]?=some y)(h:∀z∈la.take na,R z<=R y):MH R all (out.push y).toList (la.take na++lb.take nb):=by
 rw[xfg];refine m.grow ?_ (by simp) fun z hz w hw=>?_
 ·rw[zho hy];simp
 ·simp at hw;subst hw
  rcases xcg.mp hz with hz | hz
  ·exact h z hz
  ·obtain⟨j,hj,e⟩:=zy hz;exact T.ob.at e hy (by lia)
theorem MH.pushA (T:TwoH R la lb)(m:MH R all out.toList (la.take (na+1)++lb.take nb)){x:Keyed}(hx:la[na]?=some x)(h:∀z∈lb.take nb,R z<=R x):MH R all (out.push x).toList (la.take na++lb.take nb):=by
 rw[xfg];refine m.grow ?_ (by simp) fun z hz w hw=>?_
 ·rw[zho hx];simp only[List.reverse_singleton,xck];exact xgi _ xgj
 ·simp at hw;subst hw
  rcases xcg.mp hz with hz | hz
  ·obtain⟨j,hj,e⟩:=zy hz;exact T.oa.at e hx (by lia)
  ·exact h z hz
end
section
variable {prog:Program}{w:World}{A:Around}{E:Value->Shared->Prop}{s:Shared}{κ:SortKind}{a₀:Array Keyed}{R:Keyed->Nat}{a b out:Array Keyed}{na nb k:Nat}{y x:Keyed}{all:List Keyed}
theorem ztj (l:List Keyed){k n:Nat}(h:k<=n):l.take n=l.take k++(l.drop k).take (n - k):=by
 conv=>lhs;rw[show n=k+(n - k) by lia,List.take_add]
theorem MH.galA (T:TwoH R a.toList b.toList)(m:MH R all out.toList (a.toList.take na++b.toList.take (nb+1)))(hy:b.toList[nb]?=some y)(hn:na<=a.size)(c:Cut false R y a 0 na k):MH R all (out++(a.extract k na).reverse).toList (a.toList.take k++b.toList.take (nb+1))/\∀z∈a.toList.take k,R z<=R y:=by
 have low:∀z∈a.toList.take k,R z<=R y:=fun z hz=>by
  obtain⟨j,hj,e⟩:=zy hz;have:=c.2.1 j hj;rw[xef,zce e] at this;exact this
 have up:∀z∈(a.toList.drop k).take (na - k),R y<=R z:=fun z hz=>by
  obtain⟨j,hj,e⟩:=zy hz;rw[xey] at e;have:=c.2.2 (k+j) (by lia) (by lia);rw[xef,zce e] at this;exact xbx this
 refine⟨?_,low⟩;rw[xdm,xib,zci];refine m.grow ?_ (by rw[xic];exact(T.oa.drop k).take _) fun v hv z hz=>?_
 ·rw[xic,ztj a.toList c.1,xck,xck];exact xgi _ xgj
 ·have hz:=up z (xjj.mp hz);rcases xcg.mp hv with hv | hv
  ·exact xbb (low v hv) hz
  ·obtain⟨j,hj,e⟩:=zy hv;exact xbb (T.ob.at e hy (by lia)) hz
theorem MH.galB (T:TwoH R a.toList b.toList)(m:MH R all out.toList (a.toList.take (na+1)++b.toList.take nb))(hx:a.toList[na]?=some x)(hn:nb<=b.size)(c:Cut true R x b 0 nb k):MH R all (out++(b.extract k nb).reverse).toList (a.toList.take (na+1)++b.toList.take k)/\∀z∈b.toList.take k,R z<=R x:=by
 have low:∀z∈b.toList.take k,R z<=R x:=fun z hz=>by
  obtain⟨j,hj,e⟩:=zy hz;have:=c.2.1 j hj;rw[xef,zce e] at this;exact xbx this
 have up:∀z∈(b.toList.drop k).take (nb - k),R x<=R z:=fun z hz=>by
  obtain⟨j,hj,e⟩:=zy hz;rw[xey] at e;have:=c.2.2 (k+j) (by lia) (by lia);rw[xef,zce e] at this;exact this
 refine⟨?_,low⟩;rw[xdm,xib,zci];refine m.grow ?_ (by rw[xic];exact(T.ob.drop k).take _) fun v hv z hz=>?_
 ·rw[xic,ztj b.toList c.1,xck]
 ·have hz:=up z (xjj.mp hz);rcases xcg.mp hv with hv | hv
  ·obtain⟨j,hj,e⟩:=zy hv;exact xbb (T.oa.at e hx (by lia)) hz
  ·exact xbb (low v hv) hz
theorem zle (xs:Array Keyed)(n:Nat):(xs.extract 0 n).toList=xs.toList.take n:=by
 rw[zci,List.drop_zero,Nat.sub_zero]
theorem MH.done (T:TwoH R a.toList b.toList)(m:MH R (a.toList++b.toList) out.toList (a.toList.take na++b.toList.take nb))(h:na=0\/nb=0):Fin R a.toList b.toList (a.extract 0 na++b.extract 0 nb++out.reverse):=by
 unfold Fin;rw[xdm,xdm,zle,zle,xib];refine m.fin (.refl _) ?_;rcases h with rfl | rfl
 ·rw[List.take_zero,List.nil_append];exact T.ob.take _
 ·rw[List.take_zero,xet];exact T.oa.take _
theorem MH.firstB (T:TwoH R a.toList b.toList)(m:MH R (a.toList++b.toList) out.toList (a.toList.take na++b.toList.take nb))(h:nb=1):Fin R a.toList b.toList (b.extract 0 nb++a.extract 0 na++out.reverse):=by
 unfold Fin;rw[xdm,xdm,zle,zle,xib];refine m.fin xgj (xfr.mpr ⟨T.ob.take _,T.oa.take _,fun v hv z hz=>?_⟩);obtain⟨j,hj,e⟩:=zy hv;have:j=0:=by lia
 subst this;exact T.first v e z (xgs hz)
inductive H1 (R:Keyed->Nat) (a b:Array Keyed) (st:SortSt) (x:Nat):Option (Array Keyed)×Nat×Nat×Array Keyed×Nat->SortSt->Prop where
 | mk {na nb:Nat} {out:Array Keyed} {g:Nat} {st':SortSt} (sm:SmG st st') (m:MH R (a.toList++b.toList) out.toList (a.toList.take na++b.toList.take nb)) (a1:1<=na) (a2:na<=a.size) (b1:2<=nb) (b2:nb<=b.size) (hx:x+na+nb < a.size+b.size):H1 R a b st x (none,na,nb,out,g) st'
inductive H2 (R:Keyed->Nat) (a b:Array Keyed) (st:SortSt) (x:Nat):Option (Array Keyed)×Nat×Nat×Array Keyed×Nat×Nat->SortSt->Prop where
 | mk {na nb:Nat} {out:Array Keyed} {ac bc:Nat} {st':SortSt} (sm:SmG st st') (m:MH R (a.toList++b.toList) out.toList (a.toList.take na++b.toList.take nb)) (a1:1<=na) (a2:na<=a.size) (b1:2<=nb) (b2:nb<=b.size) (hx:na+nb<=x):H2 R a b st x (none,na,nb,out,ac,bc) st'
inductive H3 (R:Keyed->Nat) (a b:Array Keyed) (st:SortSt) (x y:Nat):Option (Array Keyed)×Nat×Nat×Array Keyed×Nat×Nat×Nat->SortSt->Prop where
 | mk {na nb:Nat} {out:Array Keyed} {g ac bc:Nat} {st':SortSt} (sm:SmG st st') (m:MH R (a.toList++b.toList) out.toList (a.toList.take na++b.toList.take nb)) (a1:1<=na) (a2:na<=a.size) (b1:2<=nb) (b2:nb<=b.size) (hx:y+na+nb<=x):H3 R a b st x y (none,na,nb,out,g,ac,bc) st'
theorem zul {st:SortSt}{Q:Array Keyed->SortSt->Prop}(O:Orc prog w A s κ a₀ R)(hk:kindOf st=κ)(ma:∀x∈a.toList,x∈a₀.toList)(mb:∀x∈b.toList,x∈a₀.toList)(T:TwoH R a.toList b.toList)(ha:1<=a.size)(hb:1<=b.size)
  (lst:∀x,a.toList[a.size - 1]?=some x->∀y∈b.toList,R y<=R x)(h:∀r st',SmG st st'->Fin R a.toList b.toList r->Q r st'):wpS (model prog w) A E s (mergeHi' a b) Q st:=by
 have atA:∀(i:Nat) (hi:i < a.size),a[i]?=some a[i]/\a.toList[i]?=some a[i]/\a[i]∈a₀.toList:=fun i hi=>⟨getElem?_pos a i hi,by rw[xcj];exact getElem?_pos a i hi,ma _ (by simp)⟩
 have atB:∀(i:Nat) (hi:i < b.size),b[i]?=some b[i]/\b.toList[i]?=some b[i]/\b[i]∈a₀.toList:=fun i hi=>⟨getElem?_pos b i hi,by rw[xcj];exact getElem?_pos b i hi,mb _ (by simp)⟩
 have upA:∀n,n<=a.size->UpA R a 0 (0+n):=fun n hn p q a1 a2 a3=>by
  have hq:q < a.size:=xbh a3 (xbb (xdi (xef n)) hn);have e1:=(atA p (xcz a2 hq)).2.1;have e2:=(atA q hq).2.1;rw[zce e1,zce e2];exact T.oa.at e1 e2 a2
 have upB:∀n,n<=b.size->UpA R b 0 (0+n):=fun n hn p q a1 a2 a3=>by
  have hq:q < b.size:=xbh a3 (xbb (xdi (xef n)) hn);have e1:=(atB p (xcz a2 hq)).2.1;have e2:=(atB q hq).2.1;rw[zce e1,zce e2];exact T.ob.at e1 e2 a2
 obtain⟨x0,f0,f1⟩:∃x,a[a.size - 1]?=some x/\a.toList[a.size - 1]?=some x:=⟨_,(atA (a.size - 1) (xhj ha Nat.one_pos)).1,(atA (a.size - 1) (xhj ha Nat.one_pos)).2.1⟩
 have start:MH R (a.toList++b.toList) (#[x0]:Array Keyed).toList (a.toList.take (a.size - 1)++b.toList.take b.size):=by
  have z:MH R (a.toList++b.toList) (#[]:Array Keyed).toList (a.toList.take (a.size - 1+1)++b.toList.take b.size):=by
   refine⟨?_,List.Pairwise.nil,by simp⟩;rw[xgf ha,xgb (by simp),xgb (by simp)];simp
  exact z.pushA T f1 fun y hy=>lst x0 f1 y (xgs hy)
 refine xbj (xjl (xid ⟨rfl,xbj (zlp f0 (zblw (fun c1=>?_) (fun c2=>?_) fun c1 c2=>?_))⟩))
 ·exact xbn (h _ _ (.refl _) (start.done T (.inl (by simpa using c1))))
 ·exact xbn (h _ _ (.refl _) (start.firstB T (by simpa using c2)))
 simp only[xfu] at c1 c2;refine xbj (xhf ?_);refine xbj (xez (xdn (I:=H1 R a b st) (Q:=Dn R a b st) ?_ ?_ (.mk (.refl _) start (by lia) (by lia) (by lia) (xbf _) (by lia))) ?_)
 ·rintro x c st1 x1 x2 @⟨na,nb,out,g,st1,sm1,m,a1,a2,b1,b2,hx⟩;dsimp only;refine xbj (xez (xdn (I:=fun _=>H2 R a b st (na+nb)) (Q:=fun c st'=>Dn R a b st c st'\/H2 R a b st (na+nb) c st') ?_ ?_ (.mk sm1 m a1 a2 b1 b2 (xbf _))) ?_)
  ·rintro x' c st2 _ _ @⟨na',nb',out,ac,bc,st2,sm2,m,g1,g2,g3,g4,hp⟩;obtain⟨p,rfl⟩:∃p,na'=p+1:=⟨na' - 1,(xgf g1).symm⟩
   obtain⟨q,rfl⟩:∃q,nb'=q+1:=⟨nb' - 1,(xgf (xde g3)).symm⟩
   dsimp only;have ea:=(atA p g2).1;have ela:=(atA p g2).2.1;have mea:=(atA p g2).2.2;have eb:=(atB q g4).1;have elb:=(atB q g4).2.1;have meb:=(atB q g4).2.2;refine w_el eb (w_el ea (zbcg O (sm2.kind.trans hk) meb mea (fun cw=>w_el ea ?_) fun cw=>w_el eb ?_))
   ·skip
    have m2:=m.pushA T ela fun z hz=>by
     obtain⟨j,hj,e⟩:=zy hz;exact xbb (T.ob.at e elb (xcy hj)) (xbx cw)
    refine w_if (fun c5=>xbn (.inl (.mk sm2 (m2.done T (.inl (eq_of_beq c5)))))) fun c5=>?_
    rw[xfu] at c5;have a3:1<=p:=xke c5;have a4:p<=a.size:=xde g2;have a5:p+(q+1)<=na+nb:=xbb (Nat.add_le_add_right (xlc p) _) hp;exact w_if (fun _=>xbn (.inr (.mk sm2 m2 a3 a4 g3 g4 a5))) fun _=>xbn (.mk sm2 m2 a3 a4 g3 g4 a5)
   ·skip
    have m2:=m.pushB T elb fun z hz=>by
     obtain⟨j,hj,e⟩:=zy hz;exact xbb (T.oa.at e ela (xcy hj)) cw
    refine w_if (fun c5=>xbn (.inl (.mk sm2 (m2.firstB T (eq_of_beq c5))))) fun c5=>?_
    rw[xfu] at c5;have a3:2<=q:=xda (Nat.le_of_succ_le_succ g3) (xdv c5);have a4:q<=b.size:=xde g4;have a5:p+1+q<=na+nb:=xde hp;exact w_if (fun _=>xbn (.inr (.mk sm2 m2 g1 g2 a3 a4 a5))) fun _=>xbn (.mk sm2 m2 g1 g2 a3 a4 a5)
  ·exact fun c st2 k=>.inr k
  ·rintro c st2 (⟨sm2,f⟩ | @⟨na',nb',out,ac,bc,st2,sm2,m,g1,g2,g3,g4,hp⟩)
   ·exact xbn (.mk sm2 f)
   ·dsimp only;refine xbj (xjl (xid ⟨rfl,?_⟩));refine xbj (xez (xdn (I:=H3 R a b st (na+nb)) (Q:=fun c st'=>Dn R a b st c st'\/H3 R a b st (na+nb) 1 c st') ?_ ?_ (.mk sm2 m g1 g2 g3 g4 (by rw[xef];exact hp))) ?_)
    ·rintro x' c st3 _ x2' @⟨na',nb',out,g',ac,bc,st3,sm3,m,g1,g2,g3,g4,hp⟩;obtain⟨q,rfl⟩:∃q,nb'=q+1:=⟨nb' - 1,(xgf (xde g3)).symm⟩
     dsimp only;have eb:=(atB q g4).1;have elb:=(atB q g4).2.1;have meb:=(atB q g4).2.2;generalize g' - 1=g1;generalize g'=y;revert g1;revert y
     refine zblv ?_;intro gg;refine xbj (zui fun st4 sg=>?_);have sm4:=sm3.trans sg;refine w_el eb (xbj (zgi O (sm4.kind.trans hk) meb (fun i hi=>⟨_,(atA (0+i) (by lia)).1,(atA (0+i) (by lia)).2.2⟩) (by lia) (upA na' g2) fun k1 cut1=>?_));have m5:=(m.galA T elb g2 cut1).1;have u5:=(m.galA T elb g2 cut1).2;have hk1:=cut1.1;dsimp only;refine zblx (fun c6=>?_) (fun c6 c7=>?_) fun hh=>?_
     ·have z:k1=na':=by lia
      subst z;rw[show out++(a.extract k1 k1).reverse=out by simp[xhk]]
     ·exact xbn (.inl (.mk sm4 (m5.done T (.inl (eq_of_beq c7)))))
     have g5:1<=k1:=by
      by_cases c6:na' - k1 > 0
      ·have:=hh c6;simp at this;lia
      ·lia
     have g6:k1<=a.size:=xbb hk1 g2;have hp5:x'+k1+(q+1)<=na+nb:=by lia
     clear hh hk1 cut1;generalize out++(a.extract k1 na').reverse=out5 at m5 ⊢;obtain⟨p,rfl⟩:∃p,k1=p+1:=⟨k1 - 1,(xgf g5).symm⟩
     simp only[Nat.add_sub_cancel];have m6:=m5.pushB T elb u5;have ea:=(atA p g6).1;have ela:=(atA p g6).2.1;have mea:=(atA p g6).2.2;refine w_el eb (w_if (fun c9=>xbn (.inl (.mk sm4 (m6.firstB T (eq_of_beq c9))))) fun c9=>w_el ea ?_);rw[xfu] at c9;refine xbj (zgi O (sm4.kind.trans hk) mea (fun i hi=>⟨_,(atB (0+i) (by lia)).1,(atB (0+i) (by lia)).2.2⟩) (by lia) (upB q (xde g4)) fun k2 cut2=>?_);have m7:=(m6.galB T ela (xde g4) cut2).1;have u7:=(m6.galB T ela (xde g4) cut2).2;have hk2:=cut2.1;dsimp only;refine zbch (fun d6=>?_) (fun d6 d7=>?_) (fun d6 d9=>?_) fun hh=>?_
     ·have z2:k2=q:=by lia
      subst z2;simp only[xhw (xbb (xhk _ _) (xbf _)),Array.reverse_empty,xkd]
     ·exact xbn (.inl (.mk sm4 (m7.firstB T (eq_of_beq d7))))
     ·exact xbn (.inl (.mk sm4 (m7.done T (.inr (eq_of_beq d9)))))
     have h20:2<=k2:=by
      by_cases d6:q - k2 > 0
      ·have:=hh d6;simp at this;lia
      ·lia
     have m8:=m7.pushA T ela u7;refine w_el ea (w_if (fun d8=>xbn (.inl (.mk sm4 (m8.done T (.inl (eq_of_beq d8)))))) fun d8=>?_);rw[xfu] at d8;have a3:1<=p:=xke d8;have a4:p<=a.size:=xde g6;have a5:k2<=b.size:=xbb hk2 (xde g4);have a6:x'+1+p+k2<=na+nb:=by lia
     exact w_if (fun _=>xbn (.inr (.mk sm4 m8 a3 a4 h20 a5 (by lia)))) fun _=>xbn (.mk sm4 m8 a3 a4 h20 a5 a6)
    ·rintro c st3 ⟨sm3,m,g1,g2,g3,g4,hp⟩;exact .inr (.mk sm3 m g1 g2 g3 g4 (by lia))
    ·rintro c st3 (⟨sm3,f⟩ | @⟨na',nb',out,g',ac,bc,st3,sm3,m,g1,g2,g3,g4,hp⟩)
     ·exact xbn (.mk sm3 f)
     ·have h9:x+1+na'+nb' < a.size+b.size:=by lia
      exact xbj (zui fun st4 sg=>xbn (.mk (sm3.trans sg) m g1 g2 g3 g4 h9))
 ·rintro c st1 ⟨sm1,m,a1,a2,b1,b2,hx⟩;lia
 ·rintro c st1 ⟨sm1,f⟩;exact xbn (h _ st1 sm1 f)
end
theorem zrx:∀(l:List Keyed) (n off:Nat) (xs:Array Keyed),off+n+l.length<=xs.size->∀i,((l.zipIdx n).foldl (fun a p=>a.setIfInBounds (off+p.2) p.1) xs)[i]?=if off+n<=i/\i < off+n+l.length then l[i - (off+n)]? else xs[i]?
 | [],n,off,xs,h,i=>by
  rw[if_neg (by simp)]
  rfl
 | x::l,n,off,xs,h,i=>by
  rw[List.zipIdx_cons,xij];rw[xbv] at h;have e1:off+(n+1)+l.length=off+n+(l.length+1):=Nat.succ_add_eq_add_succ (off+n) l.length;rw[zrx l (n+1) off _ (by rw[Array.size_setIfInBounds];exact xbb (xdi e1) h) i];rw[xbv];by_cases c:off+(n+1)<=i/\i < off+(n+1)+l.length
  ·rw[if_pos c,if_pos ⟨xde c.1,xfq c.2 e1⟩,show i - (off+n)=i - (off+(n+1))+1 from(xgf (xfe c.1)).symm,xhc]
  ·rw[if_neg c];by_cases c2:i=off+n
   ·rw[if_pos ⟨xdi c2.symm,xcz (xdi c2) (xhb (Nat.succ_pos _))⟩,c2,xin,xiz];exact Array.getElem?_setIfInBounds_self_of_lt (xbh (xhb (Nat.succ_pos l.length)) h)
   ·rw[if_neg fun z=>c ⟨xda z.1 (xdv c2),xfq z.2 e1.symm⟩];exact Array.getElem?_setIfInBounds_ne (fun z=>c2 z.symm)
theorem zys {m xs:Array Keyed}{off:Nat}(h:off+m.size<=xs.size):(m.toList.zipIdx.foldl (fun a p=>a.setIfInBounds (off+p.2) p.1) xs).toList=xs.toList.take off++m.toList++xs.toList.drop (off+m.size):=by
 apply xfv;intro i;rw[xcj,zrx m.toList 0 off xs (by simpa using h) i];simp only[xjq,xby];have l1:(xs.toList.take off).length=off:=by rw[xcx,xby];exact xdx (xbb (xbz _ _) h)
 by_cases c:off<=i/\i < off+m.size
 ·rw[if_pos c,xck,xco (xbb (xdi l1) c.1),l1,xbs (by rw[xby];exact xdp c.1 c.2)]
 ·rw[if_neg c];by_cases c2:i < off
  ·rw[xck,xbs (xfq c2 l1.symm),List.getElem?_take,if_pos c2,xcj]
  ·have h3:off+m.size<=i:=xca fun z=>c ⟨xca c2,z⟩
   rw[xco (by rw[xbq,l1,xby];exact h3),xey];simp only[xbq,l1,xby];rw[xcm h3,xcj]
section
variable {prog:Program}{w:World}{A:Around}{E:Value->Shared->Prop}{s:Shared}{κ:SortKind}{a₀:Array Keyed}{R:Keyed->Nat}
theorem zxa {xs:Array Keyed}{i j:Nat}(up:UpA R xs i j)(hj:j<=xs.size):Ord R (xs.extract i j).toList:=by
 rw[zci];refine xii.mpr fun p q hp hq hpq=>?_
 simp only[xcx,xev,xby] at hp hq;simp only[List.getElem_take,List.getElem_drop,Array.getElem_toList];have:=up (i+p) (i+q) (xbz _ _) (xci (xbx hpq) i) (xds (xbh hq (xhk _ _)));rw[zej (getElem?_pos xs (i+p) (xds (xbh hp (xhz _ _)))),zej (getElem?_pos xs (i+q) (xds (xbh hq (xhz _ _))))] at this;exact this
theorem zjv {xs:Array Keyed}{i j:Nat}{x:Keyed}(h:x∈(xs.extract i j).toList):∃q,i<=q/\q < j/\xs[q]?=some x:=by
 rw[zci] at h;obtain⟨q,hq,e⟩:=zy h;rw[xey,xcj] at e;exact⟨i+q,xbz _ _,xds hq,e⟩
theorem zbfi {xs:Array Keyed}{i j q:Nat}(h:q < j - i):(xs.extract i j).toList[q]?=xs[i+q]?:=by
 rw[zci,List.getElem?_take,if_pos h,xey,xcj]
structure Mg (R:Keyed->Nat) (xs ys:Array Keyed) (lo hi:Nat):Prop where
 perm:ys.Perm xs
 out:Out ys xs lo hi
 up:UpA R ys lo hi
theorem zvs {xs m:Array Keyed}{sa sb ea k nb':Nat}{y0 xl:Keyed}(hsb:sb<=ea)(hea:ea<=xs.size)(hk:sa+k < sb)(hnb:sb+nb'<=ea)(hnb1:1<=nb')(upA:UpA R xs sa sb)(upB:UpA R xs sb ea)
  (e0:xs[sb]?=some y0)(el:xs[sb - 1]?=some xl)(c1:Cut false R y0 xs sa (sb - sa) k)(c2:Cut true R xl xs sb (ea - sb) nb')
  (f:Fin R (xs.extract (sa+k) sb).toList (xs.extract sb (sb+nb')).toList m):Mg R xs (m.toList.zipIdx.foldl (fun a p=>a.setIfInBounds (sa+k+p.2) p.1) xs) sa ea:=by
 have lx:(xs.extract (sa+k) sb).toList.length=sb - (sa+k):=by rw[zci,xcx,xev,xby];exact xdx (xfb (xbb hsb hea) _)
 have ly:(xs.extract sb (sb+nb')).toList.length=nb':=by rw[zci,xcx,xev,xby,xcu];exact xdx (xek (xbb hnb hea))
 have lm:m.size=sb+nb' - (sa+k):=by
  have:=f.1.length_eq;rw[xbq,lx,ly,xby] at this;exact this.trans (Nat.sub_add_comm (xbx hk)).symm
 have he:sa+k+m.size=sb+nb':=by rw[lm];exact xcm (xbb (xbx hk) (xbz _ _))
 have hsz:sa+k+m.size<=xs.size:=by rw[he];exact xbb hnb hea
 have hs1:=xdc hk;have s1:sb - 1 < sb:=xhj (xjd hk) Nat.one_pos;have g:∀i,(m.toList.zipIdx.foldl (fun a p=>a.setIfInBounds (sa+k+p.2) p.1) xs)[i]?=if sa+k<=i/\i < sb+nb' then m.toList[i - (sa+k)]? else xs[i]?:=fun i=>by
  have:=zrx m.toList 0 (sa+k) xs (by simpa using hsz) i;simp only[xjq,xby] at this;rw[he] at this;exact this
 have mid:∀v∈m.toList,R y0<=R v/\R v<=R xl:=fun v hv=>by
  rcases xcg.mp (f.1.mem_iff.mp hv) with hv | hv
  ·obtain⟨q,q1,q2,e⟩:=zjv hv;have q0:=xbb (xbz _ _) q1;have h1:=c1.2.2 (q - sa) (xek q1) (xee q0 q2);rw[xcm q0,zej e] at h1;have h2:=upA q (sb - 1) q0 (xdc q2) s1;rw[zej e,zej el] at h2;have h1':R y0 < R v:=h1;exact⟨xbx h1',h2⟩
  ·obtain⟨q,q1,q2,e⟩:=zjv hv;have h1:=upB sb q (xbf _) q1 (xbh q2 hnb);rw[zej e,zej e0] at h1;have h2:=c2.2.1 (q - sb) (xdp q1 q2);rw[xcm q1,zej e] at h2;have h2':R v < R xl:=h2;exact⟨h1,xbx h2'⟩
 have low:∀i,sa<=i->i < sa+k->kA R xs i<=R y0:=fun i a1 a2=>by
  have:=c1.2.1 (i - sa) (xdp a1 a2);rw[xcm a1] at this;exact this
 have hig:∀i,sb+nb'<=i->i < ea->R xl<=kA R xs i:=fun i a1 a2=>by
  have i0:=xbb (xbz _ _) a1;have:=c2.2.2 (i - sb) (xek a1) (xee i0 a2);rw[xcm i0] at this;exact this
 have kk:∀i,kA R (m.toList.zipIdx.foldl (fun a p=>a.setIfInBounds (sa+k+p.2) p.1) xs) i=if sa+k<=i/\i < sb+nb' then kA R m (i - (sa+k)) else kA R xs i:=fun i=>by
  have:=g i;split
  ·rename_i c;rw[if_pos c,xcj] at this;exact zec this
  ·rename_i c;rw[if_neg c] at this;exact zec this
 have mm:∀i,i < m.size->∃v,m.toList[i]?=some v/\v∈m.toList:=fun i hi=>⟨m.toList[i]'(by simpa using hi),xbe _,xdz _⟩
 refine⟨?_,fun i hi=>?_,fun i j a1 a2 a3=>?_⟩
 ·refine xfk.mpr ?_;rw[zys hsz,he];have split:xs.toList=xs.toList.take (sa+k)++((xs.extract (sa+k) sb).toList++(xs.extract sb (sb+nb')).toList)++xs.toList.drop (sb+nb'):=by
   rw[zci,zci];rw[xcu]
   conv=>lhs;rw[← xel (sa+k) xs.toList,← xel (sb - (sa+k)) (xs.toList.drop (sa+k)),xld,xcm (xbx hk),← xel nb' (xs.toList.drop sb),xld]
   simp only[xck]
  conv=>rhs;rw[split]
  exact xhn _ (xgi _ f.1)
 ·rw[g i,if_neg fun z=>hi.elim (fun h=>xeh (xbb (xbz sa k) z.1) h) fun h=>xeh h (xbh z.2 hnb)]
 ·rw[kk,kk];by_cases ci:sa+k<=i/\i < sb+nb'
  ·rw[if_pos ci];obtain⟨v,ev,mv⟩:=mm (i - (sa+k)) (by rw[lm];exact xee ci.1 ci.2);rw[zce ev];by_cases cj:sa+k<=j/\j < sb+nb'
   ·rw[if_pos cj];obtain⟨u,eu,mu⟩:=mm (j - (sa+k)) (by rw[lm];exact xee cj.1 cj.2);rw[zce eu];exact f.2.at ev eu (xfb a2 _)
   ·rw[if_neg cj];exact xbb (mid v mv).2 (hig j (xca fun z=>cj ⟨xbb ci.1 a2,z⟩) a3)
  ·rw[if_neg ci];by_cases ci2:i < sa+k
   ·have h1:=low i a1 ci2;by_cases cj:sa+k<=j/\j < sb+nb'
    ·rw[if_pos cj];obtain⟨u,eu,mu⟩:=mm (j - (sa+k)) (by rw[lm];exact xee cj.1 cj.2);rw[zce eu];exact xbb h1 (mid u mu).1
    ·rw[if_neg cj];by_cases cj2:j < sa+k
     ·exact upA i j a1 a2 (xhu cj2 hk)
     ·have h2:=hig j (xca fun z=>cj ⟨xca cj2,z⟩) a3;have h3:R y0<=R xl:=by
       have s0:=xbb (xbz _ _) hs1;have h4:=c1.2.2 (sb - 1 - sa) (xek hs1) (xee s0 s1);rw[xcm s0,zej el] at h4;exact xbx h4
      exact xbb h1 (xbb h3 h2)
   ·have hi2:sb+nb'<=i:=xca fun z=>ci ⟨xca ci2,z⟩
    rw[if_neg fun z=>xeh (xbb hi2 a2) z.2];exact upB i j (xbb (xbz _ _) hi2) a2 a3
end
section
variable {prog:Program}{w:World}{A:Around}{E:Value->Shared->Prop}{s:Shared}{κ:SortKind}{a₀:Array Keyed}{R:Keyed->Nat}
theorem zbmn {x st:SortSt}{Q:Unit->SortSt->Prop}(h:Q () x):wpS (model prog w) A E s (set x:StateT SortSt Sem PUnit) Q st:=by
 unfold wpS;rw[StateT.run_set];exact xbk ⟨rfl,h⟩
theorem zum {i sa na pw sb nb pw':Nat}{st:SortSt}{Q:Bool->SortSt->Prop}(O:Orc prog w A s κ a₀ R)(b:B κ a₀ st)(p1:(pendingOf st)[i]?=some (sa,na,pw))(p2:(pendingOf st)[i+1]?=some (sb,nb,pw'))(hsb:sb=sa+na)(hna:1<=na)(hnb:1<=nb)(hz:sb+nb<=a₀.size)
  (upA:UpA R (arrOf st) sa sb)(upB:UpA R (arrOf st) sb (sb+nb))
  (h:∀st',B κ a₀ st'->pendingOf st'=((pendingOf st).setIfInBounds i (sa,na+nb,pw)).eraseIdxIfInBounds (i+1)->Out (arrOf st') (arrOf st) sa (sb+nb)->UpA R (arrOf st') sa (sb+nb)->Q true st'):wpS (model prog w) A E s (mergeAt' i) Q st:=by
 have hsz:=b.size;have bs:sb < a₀.size:=xbh (xhb hnb) hz;refine xbj (xhf ?_);dsimp only;have q1:(sortPriv% PySem.Builtin.SortState.pending) st=pendingOf st:=rfl;rw[q1,p1,p2];dsimp only;refine xbj (zbmn ?_);obtain⟨y0,e0,my0⟩:=b.mem (i:=sb) bs;have inA:∀q,q < a₀.size->∃x,(arrOf st)[q]?=some x/\x∈a₀.toList:=fun q hq=>b.mem hq
 refine xbj (zlp e0 ?_);refine xbj (zgi O b.kind my0 (fun q hq=>inA (sa+q) (xhu (xfq (xeb hq sa) hsb.symm) bs)) hna (by rw[← hsb];exact upA) fun k c1=>?_);dsimp only;have hk:=c1.1;have c1':Cut false R y0 (arrOf st) sa (sb - sa) k:=by rw[show sb - sa=na from by rw[hsb,xcu]];exact c1
 by_cases d1:na - k=0
 ·rw[if_pos (by simpa using d1)];refine xbn (h _ ⟨b.perm,b.kind,b.failed⟩ rfl (Out.refl _ _ _) fun p q a1 a2 a3=>?_);by_cases z1:q < sb
  ·exact upA p q a1 a2 z1
  ·by_cases z2:p < sb
   ·have h1:=c1.2.1 (p - sa) (xbh (xdp a1 (xfq z2 hsb)) (Nat.le_of_sub_eq_zero d1));rw[xcm a1] at h1;have h2:=upB sb q (xbf _) (xca z1) a3;rw[zej e0] at h2;exact xbb h1 h2
   ·exact upB p q (xca z2) a2 a3
 ·rw[if_neg (by simpa using d1)];have hk2:sa+k < sb:=xfq (xeb (xfm fun z=>d1 (Nat.sub_eq_zero_of_le z)) sa) hsb.symm;have s1:sb - 1 < sb:=xhj (xjd hk2) Nat.one_pos;obtain⟨xl,el,mxl⟩:=inA (sb - 1) (xhu s1 bs);have el':(arrOf st)[sa+k+(na - k) - 1]?=some xl:=by rw[Nat.add_assoc,xcm hk,← hsb];exact el
  refine xbj (zlp el' ?_);refine xbj (zgi O b.kind mxl (fun q hq=>inA (sb+q) (xbh (xeb hq sb) hz)) (xhj hnb Nat.one_pos) upB fun nb' c2=>?_);dsimp only;have hn2:=c2.1;have c2':Cut true R xl (arrOf st) sb (sb+nb - sb) nb':=by rw[xcu];exact c2
  by_cases d2:nb'=0
  ·rw[if_pos (by simpa using d2)];refine xbn (h _ ⟨b.perm,b.kind,b.failed⟩ rfl (Out.refl _ _ _) fun p q a1 a2 a3=>?_);subst d2;by_cases z1:q < sb
   ·exact upA p q a1 a2 z1
   ·by_cases z2:p < sb
    ·have h1:=upA p (sb - 1) a1 (xdc z2) s1;rw[zej el] at h1;have h2:=c2.2.2 (q - sb) (xeg _) (xdp (xca z1) a3);rw[xcm (xca z1)] at h2;exact xbb h1 h2
    ·exact upB p q (xca z2) a2 a3
  ·rw[if_neg (by simpa using d2)];have hn1:1<=nb':=xke d2;have hez:sb<=(arrOf st).size:=by rw[hsz];exact xbx bs
   have hbz:sb+nb<=(arrOf st).size:=by rw[hsz];exact hz
   have hb2:sb+nb'<=sb+nb:=xci hn2 sb;have oa:Ord R ((arrOf st).extract (sa+k) sb).toList:=zxa (fun p q a1 a2 a3=>upA p q (xbb (xbz _ _) a1) a2 a3) hez;have ob:Ord R ((arrOf st).extract sb (sb+nb')).toList:=zxa (fun p q a1 a2 a3=>upB p q a1 a2 (xbh a3 hb2)) (xbb hb2 hbz);have ma:∀x∈((arrOf st).extract (sa+k) sb).toList,x∈a₀.toList:=fun x hx=>by
    obtain⟨q,q1,q2,e⟩:=zjv hx;obtain⟨x',e',m'⟩:=inA q (xhu q2 bs);rw[e] at e';cases e';exact m'
   have mb:∀x∈((arrOf st).extract sb (sb+nb')).toList,x∈a₀.toList:=fun x hx=>by
    obtain⟨q,q1,q2,e⟩:=zjv hx;obtain⟨x',e',m'⟩:=inA q (xbh q2 (xbb hb2 hz));rw[e] at e';cases e';exact m'
   have sx:((arrOf st).extract (sa+k) sb).size=sb - (sa+k):=by rw[Array.size_extract,xdx hez]
   have sy:((arrOf st).extract sb (sb+nb')).size=nb':=by rw[Array.size_extract,xdx (xbb hb2 hbz),xcu]
   have fst:∀y,((arrOf st).extract sb (sb+nb')).toList[0]?=some y->∀x∈((arrOf st).extract (sa+k) sb).toList,R y<=R x:=fun y hy x hx=>by
    rw[zbfi (by rw[xcu];exact hn1),xjq,e0] at hy;cases hy;obtain⟨q,q1,q2,e⟩:=zjv hx;have q0:=xbb (xbz _ _) q1;have:=c1.2.2 (q - sa) (xek q1) (xdp q0 (xfq q2 hsb));rw[xcm q0,zej e] at this;exact xbx this
   have lst:∀x,((arrOf st).extract (sa+k) sb).toList[sb - (sa+k) - 1]?=some x->∀y∈((arrOf st).extract sb (sb+nb')).toList,R y<=R x:=fun x hx y hy=>by
    rw[zbfi (xhj (xfe hk2) Nat.one_pos),show sa+k+(sb - (sa+k) - 1)=sb - 1 from by rw[← Nat.add_sub_assoc (xfe hk2),xcm (xbx hk2)],el] at hx;cases hx;obtain⟨q,q1,q2,e⟩:=zjv hy;have:=c2.2.1 (q - sb) (xdp q1 q2);rw[xcm q1,zej e] at this;exact xbx this
   have post:∀m st2,SmG st st2\/True->Fin R ((arrOf st).extract (sa+k) sb).toList ((arrOf st).extract sb (sb+nb')).toList m->Mg R (arrOf st) (m.toList.zipIdx.foldl (fun a p=>a.setIfInBounds (sa+k+p.2) p.1) (arrOf st)) sa (sb+nb):=fun m _ _ f =>
    zvs (xbz _ _) hbz hk2 hb2 hn1 upA upB e0 el c1' c2' f
   by_cases d3:na - k<=nb'
   ·rw[if_pos d3];refine xbj (zuk O b.kind ma mb ⟨oa,ob,fun x hx=>lst x (by rw[xby,sx] at hx;exact hx)⟩ (by show 1<=((arrOf st).extract (sa+k) sb).size;rw[sx];exact xfe hk2) (by show 1<=((arrOf st).extract sb (sb+nb')).size;rw[sy];exact hn1) fst fun m st2 sg f=>?_);have mg:=post m st2 (.inr trivial) f;refine xbj (xgc (xbj (xhf ?_)));have a2:arrOf st2=arrOf st:=sg.arr;have f2:failedOf st2=none:=sg.failed.trans b.failed;refine xbn (?_:Q ((failedOf st2).isNone) (setArr st2 (m.toList.zipIdx.foldl (fun a p=>a.setIfInBounds (sa+k+p.2) p.1) (arrOf st2))));rw[f2,a2];exact h _ ⟨mg.perm.trans b.perm,sg.kind.trans b.kind,f2⟩ sg.pend mg.out mg.up
   ·rw[if_neg d3];refine xbj (zul O b.kind ma mb ⟨oa,ob,fst⟩ (by show 1<=((arrOf st).extract (sa+k) sb).size;rw[sx];exact xfe hk2) (by show 1<=((arrOf st).extract sb (sb+nb')).size;rw[sy];exact hn1) (fun x hx=>lst x (by rw[sx] at hx;exact hx)) fun m st2 sg f=>?_);have mg:=post m st2 (.inr trivial) f;refine xbj (xgc (xbj (xhf ?_)));have a2:arrOf st2=arrOf st:=sg.arr;have f2:failedOf st2=none:=sg.failed.trans b.failed;refine xbn (?_:Q ((failedOf st2).isNone) (setArr st2 (m.toList.zipIdx.foldl (fun a p=>a.setIfInBounds (sa+k+p.2) p.1) (arrOf st2))));rw[f2,a2];exact h _ ⟨mg.perm.trans b.perm,sg.kind.trans b.kind,f2⟩ sg.pend mg.out mg.up
end
noncomputable def Segs (R:Keyed->Nat) (xs:Array Keyed):Nat->List (Nat×Nat×Nat)->Nat->Prop
 | s,[],e=>s=e
 | s,p::r,e=>p.1=s/\1<=p.2.1/\UpA R xs s (s+p.2.1)/\Segs R xs (s+p.2.1) r e
section
variable {R:Keyed->Nat}{xs ys:Array Keyed}
theorem Segs.le:∀{l:List (Nat×Nat×Nat)} {s e:Nat},Segs R xs s l e->s+l.length<=e
 | [],s,e,h=>by cases h;simp
 | p::r,s,e,h=>by
  have:=Segs.le h.2.2.2;have:=h.2.1;simp;lia
theorem Segs.append:∀{l m:List (Nat×Nat×Nat)} {s e:Nat},Segs R xs s (l++m) e↔∃k,Segs R xs s l k/\Segs R xs k m e
 | [],m,s,e=>⟨fun h=>⟨s,rfl,h⟩,fun⟨k,h1,h2⟩=>by cases h1;exact h2⟩
 | p::r,m,s,e=>by
  constructor
  ·rintro⟨h1,h2,h3,h4⟩;obtain⟨k,g1,g2⟩:=Segs.append.mp h4;exact⟨k,⟨h1,h2,h3,g1⟩,g2⟩
  ·rintro⟨k,⟨h1,h2,h3,h4⟩,g2⟩;exact⟨h1,h2,h3,Segs.append.mpr ⟨k,h4,g2⟩⟩
theorem UpA.same {a b:Nat}(h:UpA R xs a b)(e:∀i,a<=i->i < b->ys[i]?=xs[i]?):UpA R ys a b:=fun i j a1 a2 a3=>by
 rw[zec (e i a1 (xcz a2 a3)),zec (e j (xbb a1 a2) a3)];exact h i j a1 a2 a3
theorem Segs.same:∀{l:List (Nat×Nat×Nat)} {s e:Nat},Segs R xs s l e->(∀i,s<=i->i < e->ys[i]?=xs[i]?)->Segs R ys s l e
 | [],s,e,h,_=>h
 | p::r,s,e,h,k=>by
  have:=Segs.le h.2.2.2;exact⟨h.1,h.2.1,h.2.2.1.same fun i a1 a2=>k i a1 (xbh a2 (xbb (xbz _ _) this)),Segs.same h.2.2.2 fun i a1 a2=>k i (xbb (xbz _ _) a1) a2⟩
theorem Segs.power {s e:Nat}:∀{l m:List (Nat×Nat×Nat)},l.map (fun p=>(p.1,p.2.1))=m.map (fun p=>(p.1,p.2.1))->Segs R xs s l e->Segs R xs s m e:=by
 intro l
 induction l generalizing s with
 | nil=>intro m h k;cases m with
  | nil=>exact k
  | cons=>cases h
 | cons p r ih=>intro m h k;cases m with
  | nil=>cases h
  | cons q t =>
   rw[xbp,xbp] at h;obtain⟨h1,h2⟩:=List.cons.inj h;obtain⟨g1,g2⟩:=Prod.mk.inj h1;obtain⟨k1,k2,k3,k4⟩:=k;rw[g2] at k2 k3 k4;exact⟨g1.symm.trans k1,k2,k3,ih h2 k4⟩
end
section
variable {prog:Program}{w:World}{A:Around}{E:Value->Shared->Prop}{s:Shared}{κ:SortKind}{a₀:Array Keyed}{R:Keyed->Nat}
theorem zzu {l:List (Nat×Nat×Nat)}{i:Nat}(h:i+1 < l.length):∃pre p q post,l=pre++p::q::post/\pre.length=i:=by
 refine⟨l.take i,l[i],l[i+1],l.drop (i+2),?_,by rw[xcx];exact xdx (xbx (xer h))⟩
 conv=>lhs;rw[← xel i l,xcw (xer h),xcw h]
theorem w_at {i e:Nat}{st:SortSt}{Q:Bool->SortSt->Prop}(O:Orc prog w A s κ a₀ R)(b:B κ a₀ st)(sg:Segs R (arrOf st) 0 (pendingOf st).toList e)(he:e<=a₀.size)(hi:i+1 < (pendingOf st).size)
  (h:∀st',B κ a₀ st'->Segs R (arrOf st') 0 (pendingOf st').toList e->(pendingOf st').size+1=(pendingOf st).size->(∀k,e<=k->(arrOf st')[k]?=(arrOf st)[k]?)->Q true st'):wpS (model prog w) A E s (mergeAt' i) Q st:=by
 obtain⟨pre,p,q,post,el,hl⟩:=zzu (l:=(pendingOf st).toList) (i:=i) (by simpa using hi);obtain⟨sa,na,pw⟩:=p;obtain⟨sb,nb,pw'⟩:=q;rw[el] at sg;obtain⟨k,g1,g2⟩:=Segs.append.mp sg;obtain⟨h1,h2,h3,h4,h5,h6,h7⟩:=g2;dsimp only at h1 h2 h3 h4 h5 h6 h7;subst h1;have l7:=Segs.le h7;have l1:=Segs.le g1;have p1:(pendingOf st)[i]?=some (sa,na,pw):=by rw[← xcj,el,xco (xdi hl),hl,xin];rfl
 have p2:(pendingOf st)[i+1]?=some (sb,nb,pw'):=by rw[← xcj,el,xco (xbb (xdi hl) (xbz i 1)),hl,xcu];rfl
 refine zum O b p1 p2 h4 h2 h5 (by lia) (by rw[h4];exact h3) (by rw[h4];exact h6) fun st' b' pe ou up=>?_
 have pl:(pendingOf st').toList=pre++(sa,na+nb,pw)::post:=by
  rw[pe];rw[Array.toList_eraseIdxIfInBounds,Array.toList_setIfInBounds,el];rw[List.set_append_right _ _ (xdi hl),hl,xin,List.set_cons_zero,List.eraseIdx_append_of_length_le (xbb (xdi hl) (xbz i 1)),hl,xcu]
  rfl
 have keep:∀j,j < sa\/sb+nb<=j->(arrOf st')[j]?=(arrOf st)[j]?:=ou
 refine h st' b' ?_ ?_ fun j hj=>keep j (.inr (by lia))
 ·rw[pl];refine Segs.append.mpr ⟨sa,g1.same fun j a1 a2=>keep j (.inl a2),rfl,by show 1<=na+nb;lia,?_,?_⟩
  ·show UpA R (arrOf st') sa (sa+(na+nb));rw[show sa+(na+nb)=sb+nb by lia];exact up
  ·show Segs R (arrOf st') (sa+(na+nb)) post e;rw[show sa+(na+nb)=sa+na+nb by lia];exact h7.same fun j a1 a2=>keep j (.inr (by lia))
 ·have e1:(pendingOf st').size=(pendingOf st').toList.length:=by simp
  have e2:(pendingOf st).size=(pendingOf st).toList.length:=by simp
  rw[e1,e2,pl,el];simp only[xbq,xbv];lia
theorem zbjp {c:Prop}[Decidable c]{a b n:Nat}(h1:a+1 < n)(h2:b+1 < n):(if c then a else b)+1 < n:=by split<;>assumption
theorem zxl {g:Nat×Nat×Nat->Nat×Nat}{f:Nat×Nat×Nat->Nat×Nat×Nat}(h:∀x,g (f x)=g x):∀(l:List (Nat×Nat×Nat)) (i:Nat),(l.modify i f).map g=l.map g
 | [],i=>by simp
 | x::l,0=>by simp[h]
 | x::l,i+1=>by simp[zxl h l i]
theorem Segs.mod {xs:Array Keyed}{s e:Nat}{l:List (Nat×Nat×Nat)}(h:Segs R xs s l e)(i c:Nat):Segs R xs s (l.modify i fun x=>(x.1,x.2.1,c)) e :=
 h.power (zxl (g:=fun p=>(p.1,p.2.1)) (f:=fun x=>(x.1,x.2.1,c)) (fun _=>rfl) l i).symm
theorem zbhr {st:SortSt}{Q:Unit->SortSt->Prop}(O:Orc prog w A s κ a₀ R)(b:B κ a₀ st)(pe:pendingOf st=#[])(h2:2<=a₀.size)
  (h:∀st',B κ a₀ st'->UpA R (arrOf st') 0 a₀.size->Q () st'):wpS (model prog w) A E s sortRuns' Q st:=by
 have hz:=b.size;rw[sortRuns'_eq];refine xbj (xhf ?_);dsimp only;rw[hz]
 refine xbj (xez (xdn (I:=fun x c st'=>∃lo,c=(none,lo)/\B κ a₀ st'/\Segs R (arrOf st') 0 (pendingOf st').toList lo/\lo<=a₀.size/\x<=lo)
  (Q:=fun c st'=>c=(none,a₀.size)/\B κ a₀ st'/\Segs R (arrOf st') 0 (pendingOf st').toList a₀.size) ?_ ?_ ⟨0,rfl,b,by rw[pe];rfl,by lia,by lia⟩) ?_)
 ·rintro x c st1 x1 x2 ⟨lo,rfl,b1,sg1,hlo,hx⟩;dsimp only;by_cases c1:lo ≥ a₀.size
  ·rw[if_pos c1];have:lo=a₀.size:=by lia
   subst this;exact xbn ⟨rfl,b1,sg1⟩
  rw[if_neg c1];refine xbj (zbci O b1 (by lia) (by lia) fun m st2 m1 m2 b2 sm2 up2=>?_);dsimp only;have sg2:Segs R (arrOf st2) 0 (pendingOf st2).toList lo:=by
   rw[sm2.pend];exact sg1.same fun i a1 a2=>sm2.out i (.inl a2)
  by_cases c2:m < minRun' a₀.size a₀.size 0
  ·rw[if_pos c2];refine xbj (xjl (xid ⟨rfl,?_⟩));refine xbj (zbmo O b2 (by lia) m1 (by lia) up2 fun st3 b3 sm3 up3=>?_);have sg3:Segs R (arrOf st3) 0 (pendingOf st3).toList lo:=by
    rw[sm3.pend];exact sg2.same fun i a1 a2=>sm3.out i (.inl a2)
   have hn1:1<=min (a₀.size - lo) (minRun' a₀.size a₀.size 0):=by lia
   have hn2:lo+min (a₀.size - lo) (minRun' a₀.size a₀.size 0)<=a₀.size:=by lia
   simp only[Bool.not_true,xdj,xfh];generalize min (a₀.size - lo) (minRun' a₀.size a₀.size 0)=n at up3 hn1 hn2 sm3 ⊢;refine xbj (xhf ?_);cases hb:(pendingOf st3).back? with
   | none =>
    dsimp only;refine xbj (xgc (xbn ⟨lo+n,rfl,⟨b3.perm,b3.kind,b3.failed⟩,?_,hn2,by lia⟩));show Segs R (arrOf st3) 0 ((pendingOf st3).push (lo,n,0)).toList (lo+n);rw[xfg];exact Segs.append.mpr ⟨lo,sg3,rfl,hn1,up3,rfl⟩
   | some p =>
    obtain⟨s1,n1,p1⟩:=p;dsimp only;refine xbj (xez (xdn (I:=fun _ c st'=>c=(none,())/\B κ a₀ st'/\Segs R (arrOf st') 0 (pendingOf st').toList lo/\UpA R (arrOf st') lo (lo+n)) (Q:=fun c st'=>c=(none,())/\B κ a₀ st'/\Segs R (arrOf st') 0 (pendingOf st').toList lo/\UpA R (arrOf st') lo (lo+n)) ?_ (fun _ _ hh=>hh) ⟨rfl,b3,sg3,up3⟩) ?_)
    ·rintro x' c st4 _ _ ⟨rfl,b4,sg4,up4⟩;refine xbj (xhf ?_);by_cases hs:(pendingOf st4).size > 1
     ·rw[if_pos hs,getElem?_pos (pendingOf st4) ((pendingOf st4).size - 2) (by lia)];obtain⟨s2,n2,p2⟩:=(pendingOf st4)[(pendingOf st4).size - 2]'(by lia);dsimp only;split
      ·exact xbn ⟨rfl,b4,sg4,up4⟩
      ·refine xbj (w_at O b4 sg4 hlo (by lia) fun st5 b5 sg5 _ k5=>?_);exact xbn ⟨rfl,b5,sg5,up4.same fun i a1 a2=>k5 i a1⟩
     ·rw[if_neg hs];exact xbn ⟨rfl,b4,sg4,up4⟩
    ·rintro c st4 ⟨rfl,b4,sg4,up4⟩;dsimp only;refine xbj (xgc (xbj (xgc (xbn ⟨lo+n,rfl,⟨b4.perm,b4.kind,b4.failed⟩,?_,hn2,by lia⟩))));refine(?_:Segs R (arrOf st4) 0 (((pendingOf st4).modify ((pendingOf st4).size - 1) fun x=>(x.1,x.2.1,_)).push (lo,n,0)).toList (lo+n));rw[xfg,Array.toList_modify];exact Segs.append.mpr ⟨lo,sg4.mod _ _,rfl,hn1,up4,rfl⟩
  ·rw[if_neg c2];have b3:=b2;have sg3:=sg2;have up3:=up2;have hn1:=m1;have hn2:lo+m<=a₀.size:=by lia
   generalize st2=st3 at b3 sg3 up3 ⊢;generalize m=n at up3 hn1 hn2 ⊢;refine xbj (xhf ?_);cases hb:(pendingOf st3).back? with
   | none =>
    dsimp only;refine xbj (xgc (xbn ⟨lo+n,rfl,⟨b3.perm,b3.kind,b3.failed⟩,?_,hn2,by lia⟩));show Segs R (arrOf st3) 0 ((pendingOf st3).push (lo,n,0)).toList (lo+n);rw[xfg];exact Segs.append.mpr ⟨lo,sg3,rfl,hn1,up3,rfl⟩
   | some p =>
    obtain⟨s1,n1,p1⟩:=p;dsimp only;refine xbj (xez (xdn (I:=fun _ c st'=>c=(none,())/\B κ a₀ st'/\Segs R (arrOf st') 0 (pendingOf st').toList lo/\UpA R (arrOf st') lo (lo+n)) (Q:=fun c st'=>c=(none,())/\B κ a₀ st'/\Segs R (arrOf st') 0 (pendingOf st').toList lo/\UpA R (arrOf st') lo (lo+n)) ?_ (fun _ _ hh=>hh) ⟨rfl,b3,sg3,up3⟩) ?_)
    ·rintro x' c st4 _ _ ⟨rfl,b4,sg4,up4⟩;refine xbj (xhf ?_);by_cases hs:(pendingOf st4).size > 1
     ·rw[if_pos hs,getElem?_pos (pendingOf st4) ((pendingOf st4).size - 2) (by lia)];obtain⟨s2,n2,p2⟩:=(pendingOf st4)[(pendingOf st4).size - 2]'(by lia);dsimp only;split
      ·exact xbn ⟨rfl,b4,sg4,up4⟩
      ·refine xbj (w_at O b4 sg4 hlo (by lia) fun st5 b5 sg5 _ k5=>?_);exact xbn ⟨rfl,b5,sg5,up4.same fun i a1 a2=>k5 i a1⟩
     ·rw[if_neg hs];exact xbn ⟨rfl,b4,sg4,up4⟩
    ·rintro c st4 ⟨rfl,b4,sg4,up4⟩;dsimp only;refine xbj (xgc (xbj (xgc (xbn ⟨lo+n,rfl,⟨b4.perm,b4.kind,b4.failed⟩,?_,hn2,by lia⟩))));refine(?_:Segs R (arrOf st4) 0 (((pendingOf st4).modify ((pendingOf st4).size - 1) fun x=>(x.1,x.2.1,_)).push (lo,n,0)).toList (lo+n));rw[xfg,Array.toList_modify];exact Segs.append.mpr ⟨lo,sg4.mod _ _,rfl,hn1,up4,rfl⟩
 ·rintro c st1 ⟨lo,rfl,b1,sg1,hlo,hx⟩;have:lo=a₀.size:=by lia
  subst this;exact⟨rfl,b1,sg1⟩
 ·rintro c st1 ⟨rfl,b1,sg1⟩;dsimp only
  refine xbj (xez (xdn (I:=fun x c st'=>c=(none,())/\B κ a₀ st'/\Segs R (arrOf st') 0 (pendingOf st').toList a₀.size/\(pendingOf st').size+x<=a₀.size)
   (Q:=fun c st'=>c=(none,())/\B κ a₀ st'/\Segs R (arrOf st') 0 (pendingOf st').toList a₀.size/\(pendingOf st').size<=1) ?_ ?_ ⟨rfl,b1,sg1,by have:=sg1.le;simp at this;lia⟩) ?_)
  ·rintro x c st2 x1 x2 ⟨rfl,b2,sg2,hp⟩;refine xbj (xhf ?_);by_cases c1:(pendingOf st2).size<=1
   ·rw[if_pos c1];exact xbn ⟨rfl,b2,sg2,c1⟩
   rw[if_neg c1];refine xbj (w_at O b2 sg2 (xbf _) ?_ fun st3 b3 sg3 p3 _=>xbn ⟨rfl,b3,sg3,by lia⟩);exact zbjp (by lia) (by lia)
  ·rintro c st2 ⟨rfl,b2,sg2,hp⟩;exact⟨rfl,b2,sg2,by lia⟩
  ·rintro c st2 ⟨rfl,b2,sg2,hp⟩;refine xbn (h st2 b2 ?_);cases hl:(pendingOf st2).toList with
   | nil=>rw[hl] at sg2;have:0=a₀.size:=sg2;lia
   | cons p r =>
    have:r=[]:=by
     have e2:(pendingOf st2).size=(pendingOf st2).toList.length:=by simp
     rw[e2,hl,xbv] at hp;exact xja.mp (by lia)
    subst this;rw[hl] at sg2;obtain⟨_,_,g3,g4⟩:=sg2;have g4':0+p.2.1=a₀.size:=g4;rw[g4'] at g3;exact g3
end
end TS
namespace Srt
open PySem PySem.W PyProof.Rows
theorem zqc {α β:Type}(f:α->β):∀{l m':List β},l.Perm m'->∀m:List α,m'=m.map f->∃p:List α,p.Perm m/\l=p.map f:=by
 intro l m' h
 induction h with
 | nil=>exact fun m e=>⟨[],by rw[List.map_eq_nil_iff.mp e.symm],rfl⟩
 | cons x _ ih =>
  intro m e;cases m with
  | nil=>cases e
  | cons y m =>
   rw[xbp] at e;injection e with e1 e2
   obtain⟨p,p1,p2⟩:=ih m e2;exact⟨y::p,p1.cons y,by rw[xbp,← p2,e1]⟩
 | swap x y l =>
  intro m e
  match m,e with
  | a::b::m,e =>
   rw[xbp,xbp] at e;injection e with e1 e2
   injection e2 with e2 e3
   exact⟨b::a::m,.swap _ _ _,by rw[xbp,xbp,e1,e2,e3]⟩
 | trans _ _ ih1 ih2 =>
  intro m e;obtain⟨p,p1,p2⟩:=ih2 m e;obtain⟨q,q1,q2⟩:=ih1 p p2;exact⟨q,q1.trans p1,q2⟩
noncomputable def Coh (r:Nat->Nat) (xs:List Value):Prop:=∀i j,i < xs.length->j < xs.length->xs.getD i Value.none=xs.getD j Value.none->r i=r j
open Classical in
noncomputable def rankV (r:Nat->Nat) (xs:List Value) (x:Keyed):Nat:=if h:∃i,i < xs.length/\xs.getD i Value.none=x.1 then r h.choose else 0
theorem znf {r:Nat->Nat}{xs:List Value}(coh:Coh r xs){x:Keyed}{i:Nat}(hi:i < xs.length)(e:xs.getD i Value.none=x.1):rankV r xs x=r i:=by
 have h:∃i,i < xs.length/\xs.getD i Value.none=x.1:=⟨i,hi,e⟩
 unfold rankV;rw[dif_pos h];exact coh _ _ h.choose_spec.1 hi (h.choose_spec.2.trans e.symm)
theorem zqx (xs:List Value):(xs.toArray.zip xs.toArray).toList=(List.range xs.length).map fun i=>((xs.getD i Value.none,xs.getD i Value.none):Keyed):=by
 rw[Array.toList_zip];apply List.ext_getElem
 ·simp
 ·intro i h1 h2;have h3:i < xs.length:=by simpa using h2
  simp[xbg,h3]
section
variable {P:Program}{w:World}{B:Around}{E:Value->Shared->Prop}{st:Shared}
theorem zzt {r:Nat->Nat}{xs:List Value}{κ:SortKind}{sg:Shared}(h2:2<=xs.length)(coh:Coh r xs)
  (cmp:∀i j C,i < xs.length->j < xs.length->C (lt r i j) sg->kas_ask P w B κ xs i j C sg) :
  wpAny (model P w) B ((sortRuns').run (SortSt.mk' κ (xs.toArray.zip xs.toArray) #[] 7 none)) (fun y z=>∃p:Array Nat,(p.Perm (List.toArray (List.range xs.length))/\Up r p xs.length)/\(arrOf y.2).map (·.2)=outOf xs p/\failedOf y.2=none/\z=sg) E sg:=by
 have sz:(xs.toArray.zip xs.toArray).size=xs.length:=by simp
 have O:TS.Orc P w B sg κ (xs.toArray.zip xs.toArray) (rankV r xs):=fun x hx y hy C hC=>by
  rw[zqx] at hx hy;obtain⟨i,hi,rfl⟩:=xcb.mp hx;obtain⟨j,hj,rfl⟩:=xcb.mp hy;rw[xcf] at hi hj;rw[znf coh hi rfl,znf coh hj rfl] at hC;exact cmp i j C hi hj hC
 have run:=TS.zbhr (E:=E) (Q:=fun _ y=>∃p:Array Nat,(p.Perm (List.toArray (List.range xs.length))/\Up r p xs.length)/\(arrOf y).map (·.2)=outOf xs p/\failedOf y=none) O (st:=SortSt.mk' κ (xs.toArray.zip xs.toArray) #[] 7 none) ⟨.refl _,rfl,rfl⟩ rfl (by rw[sz];exact h2) fun y b up=>by
  obtain⟨l,l1,l2⟩:=zqc (fun i=>((xs.getD i Value.none,xs.getD i Value.none):Keyed)) (xfk.mp b.perm) _ (zqx xs);have ll:l.length=xs.length:=by rw[l1.length_eq,xgp]
  have mem:∀k,(hk:k < l.length)->l[k] < xs.length:=fun k hk=>xcf.mp (l1.mem_iff.mp (xdz hk))
  have key:∀k,k < xs.length->TS.kA (rankV r xs) (arrOf y) k=At r l.toArray k:=fun k hk=>by
   have hk':k < l.length:=by lia
   have e:(arrOf y)[k]?=some (xs.getD l[k] Value.none,xs.getD l[k] Value.none):=by
    rw[← xcj,l2,xcd,xbe hk']
    rfl
   rw[TS.zej e,znf coh (mem k hk') rfl];unfold At;simp[hk']
  refine⟨l.toArray,⟨?_,fun i j hij hj=>?_⟩,?_,b.failed⟩
  ·exact xfk.mpr (by simpa using l1)
  ·rw[← key i (by lia),← key j hj];exact up i j (xeg _) hij (by rw[sz];exact hj)
  ·unfold outOf;apply Array.toList_inj.mp;rw[Array.toList_map,l2,xdl]
   rfl
 exact xec run (fun y z hz=>by
  obtain⟨rfl,p,a,b,c⟩:=hz
  exact⟨p,a,b,c,rfl⟩) fun _ _ x=>x
theorem zlt (r:Nat->Nat){d:Addr}{xs:List Value}{k:Nat}{W:Fin->Shared->Prop}(e0:st.heap.get? d=some (seqObj "list" xs.toArray k))(few:xs.length<=sizeLine)(coh:Coh r xs)
  (ask:2<=xs.length->Answers P w B r xs {st with heap:=midHeap st.heap d xs})
  (fin:∀p:Array Nat,p.Perm (List.toArray (List.range xs.length))->Up r p xs.length->W (.done (.ret .none)) {st with heap:=sortedHeap st.heap d xs (outOf xs p)}) :
  wpAny (model P w) B (Builtin.«list.sort» ⟨[.ref d],[]⟩) W E st:=by
 obtain⟨c, ec⟩:∃ c,(st.heap.update d (Obj.mapSeq fun _=>(#[]:Array Value))).get? d=some (seqObj "list" #[] c):=⟨_, get?_update_seq e0 fun _=>#[]⟩
 have em:(midHeap st.heap d xs).get? d=some (seqObj "list" #[] c):=xbm _ (xbm _ ec)
 have szs:xs.toArray.size=xs.length:=xcc;rw[list_sort_plain];refine xba (listItems_at e0 rfl (xba (listUpdate_at e0 rfl (xba (seqEpoch_at ec rfl (xba (wpAny_newTuple (xba (wpAny_newList (xeq ?_) (xeg _))) (few))))) (by rw[szs];exact few) (xeg _))));show wpAny (model P w) B _ W E {st with heap:=midHeap st.heap d xs};dsimp only;by_cases two:xs.toArray.size < 2
 ·rw[if_pos two,if_pos two];rw[szs] at two;have eo:((arrOf (SortSt.mk' general' (xs.toArray.zip xs.toArray) #[] 7 none)).map (·.2))=outOf xs (List.toArray (List.range xs.length)):=zuv two
  refine xba (xbk (by
   rw[StateT.run_pure];refine xba (xbk (xba (seqEpoch_at em rfl (xba (listUpdate_at em rfl ?_ (xeg _) ?_)))))
   ·rw[if_neg (by simp)];refine xbk ?_;rw[eo];exact fin _ (.refl _) fun i j hij hj=>xdi (congrArg (At r _) (by lia))
   ·rw[eo];refine xff (xbb (xdi ?_) (few));unfold outOf
    simp))
 ·rw[if_neg two,if_neg two];rw[szs] at two;obtain⟨κ,kd,cmp⟩:=ask (by lia);refine xba (xec (kd (fun κ' z=>κ'=κ/\z={st with heap:=midHeap st.heap d xs}) ⟨rfl,rfl⟩) (fun κ' z hz=>?_) fun _ _ x=>x.elim);obtain⟨rfl,rfl⟩:=hz;have run:=zzt (E:=E) (r:=r) (xs:=xs) (κ:=κ') (sg:={st with heap:=midHeap st.heap d xs}) (by lia) coh cmp;refine xba (xec run (fun yy z hz=>?_) fun _ _ x=>x);obtain⟨⟨⟩,y⟩:=yy;obtain⟨p,hp,ho,hf,rfl⟩:=hz;dsimp only at ho hf ⊢;refine xba (seqEpoch_at em rfl (xba (listUpdate_at em rfl ?_ (xeg _) ?_)))
  ·rw[hf,if_neg (by simp),ho];exact xbk (fin p hp.1 hp.2)
  ·rw[ho];refine xff (xbb (xdi ?_) (few));unfold outOf;rw[xcc,xbd,xby,hp.1.size_eq];simp
theorem zmt (r:Nat->Nat){d:Addr}{xs:List Value}{W:Value->Shared->Prop}(isl:st.heap.IsList d xs.toArray)(few:xs.length<=sizeLine)(coh:Coh r xs)
  (ask:2<=xs.length->∀g:Heap,(∀b ob,st.heap.get? b=some ob->g.get? b=some ob)->Answers P w B.in1.in1 r xs {st with heap:=g})
  (fin:∀p:Array Nat,p.Perm (List.toArray (List.range xs.length))->Up r p xs.length->W (.ref (st.heap.objs.size+1)) {st with heap:=sortedAll st.heap xs (outOf xs p)}) :
  wpAny (model P w) B (call (.builtin "sorted") [.ref d]) W E st:=by
 let g0:Heap:=(st.heap.push (seqObj "list" #[] 0)).update st.heap.objs.size (Obj.mapSeq (·++xs.toArray))
 have sz:g0.objs.size=st.heap.objs.size+1:=(Heap.size_update ..).trans (size_push' _ _);have new:(g0.push (seqObj "list" xs.toArray 0)).get? (st.heap.objs.size + 1)=some (seqObj "list" xs.toArray 0):=by
  have z:=xch g0 (o:=seqObj "list" xs.toArray 0) rfl
  rw[sz] at z;exact z
 have old:∀ b ob, st.heap.get? b=some ob->(g0.push (seqObj "list" xs.toArray 0)).get? b=some ob:=fun b ob e=>by
  have lt:=xbt e;exact xbm _ ((Heap.get?_update_ne _ _ _ _ (xce lt)).trans (xbm _ e))
 have ar:argsOk "sorted" ⟨[.ref d],[]⟩:=args_sorted1 _
 refine Calls.call_function_entry kind_sorted plain_sorted entry_sorted ar ?_;unfold Builtin.«sorted»;refine xba (m:=checkCount "sorted" 1 1 _) (xbk (xba (collect_list isl (xba (wpAny_newList ?_ (few))) (few))))
 show wpAny _ _ _ _ _ { st with heap:=g0.push (seqObj "list" xs.toArray 0) }
 have esz:(Value.ref g0.objs.size)=Value.ref (st.heap.objs.size+1):=by rw[sz]
 rw[show((st.heap.push (seqObj "list" #[] 0)).update st.heap.objs.size (Obj.mapSeq (·++xs.toArray))).objs.size=st.heap.objs.size + 1 from sz]
 refine xba (xeq (xfn slot_list_sort ⟨_, new, rfl⟩ entry_list_sort (zlt r (st:={ st with heap:=g0.push (seqObj "list" xs.toArray 0) }) new few coh (fun two=>?_) fun p p1 p2=>⟨_, rfl, xbk ⟨_, rfl, fin p p1 p2⟩⟩) (args_list_sort _)))
 exact ask two _ fun b ob e=>zju (xce (xje (xbt e))) (old b ob e)
theorem zqa {T:String}{a d:Addr}{n:Nat}{It:Nat->Value->Prop}{OK:Heap->Prop}(S:KdlSrc P w T a d n It OK)(hh:B.handled=none)(ok:OK st.heap)(few:n<=sizeLine){W:Value->Shared->Prop}
  (ask:∀xs:List Value,xs.length=n->(∀(j:Nat) (v:Value),xs[j]?=some v->It j v)->∃r:Nat->Nat,Coh r xs/\(2<=n->∀(g:Heap) (tk:Nat),(∀b ob,st.heap.get? b=some ob->g.get? b=some ob)->Answers P w B.in1.in1 r xs {st with heap:=g,toks:=tk}) /\
   ∀(p:Array Nat) (q:Addr) (g:Heap) (tk c:Nat), p.Perm (List.toArray (List.range xs.length))->Up r p xs.length->(∀ b ob, st.heap.get? b=some ob->g.get? b=some ob)->(∀ b ob, st.heap.get? b=some ob->b≠q)->g.get? q=some (seqObj "list" (outOf xs p) c)->W (.ref q) { st with heap:=g, toks:=tk }) :
  wpAny (model P w) B (call (.builtin "sorted") [.ref a]) W E st:=by
 have ar:argsOk "sorted" ⟨[.ref a],[]⟩:=args_sorted1 _
 refine Calls.call_function_entry kind_sorted plain_sorted entry_sorted ar ?_;unfold Builtin.«sorted»;refine xba (m:=checkCount "sorted" 1 1 _) (xbk (xba (kdu_collect (A:=B.in1) S hh ok (few) fun g tk acc keep items=>?_)))
 have len:acc.toList.length=n:=by rw[xby];exact items.1
 obtain⟨r,coh,an,fin⟩:=ask acc.toList len (fun j v e=>items.2 j v (by rw[← xcj];exact e));refine xba (wpAny_newList ?_ (by rw[len];exact few));have new:(g.push (seqObj "list" acc.toList.toArray 0)).get? g.objs.size=some (seqObj "list" acc.toList.toArray 0):=xch g rfl
 have old:∀ b ob, st.heap.get? b=some ob->(g.push (seqObj "list" acc.toList.toArray 0)).get? b=some ob:=fun b ob e=>xbm _ (keep b ob e)
 have lt:∀b ob,st.heap.get? b=some ob->b≠g.objs.size:=fun b ob e=>xce (xbt (keep b ob e))
 show wpAny _ _ _ _ _ { st with heap:=g.push (seqObj "list" acc.toList.toArray 0), toks:=tk }
 refine xba (xeq (xfn slot_list_sort ⟨_, new, rfl⟩ entry_list_sort (zlt r (st:={ st with heap:=g.push (seqObj "list" acc.toList.toArray 0), toks:=tk }) new (by rw[len]; exact few) coh (fun two=>?_) fun p p1 p2=>⟨_, rfl, xbk ⟨_, rfl, ?_⟩⟩) (args_list_sort _)))
 ·exact an (by lia) _ tk fun b ob e=>zju (lt b ob e) (old b ob e)
 ·obtain⟨c,ec⟩:=sortedHeap_at (n:=0) (vs:=acc.toList) (out:=outOf acc.toList p) new;refine fin p g.objs.size _ tk c p1 p2 (fun b ob e=>?_) ?_ ec
  ·rw[sortedHeap_old (lt b ob e) (xbt (old b ob e))];exact old b ob e
  ·exact lt
end
end Srt
namespace L2
open PySem PySem.Spec PyProof.Rows PySem.W
theorem small10000 {n:Nat}(h:n<=1000000):n<=sizeLine:=xbb h (by rw[xhp];lia)
theorem zjy:∀{us:List Value} {a b:List Int},IntsAre us a->IntsAre us b->a=b
 | _,_,_,.nil,.nil=>rfl
 | _,_,_,.cons x t r,.cons _ _ r'=>by rw[zjy r r']
theorem ztl {g:Heap}{ps:List (Addr×List Int)}(tup:TupsG g ps):Srt.Coh (Srt.rank (ps.map (·.2))) (ps.map fun p=>Value.ref p.1):=fun i j hi hj e=>by
 rw[xbd] at hi hj;have ei:ps[i]?=some ps[i]:=xbe hi;have ej:ps[j]?=some ps[j]:=xbe hj;rw[zp (fun p:Addr×List Int=>Value.ref p.1) _ ei,zp (fun p:Addr×List Int=>Value.ref p.1) _ ej] at e;injection e with e
 obtain⟨us,o,n,a1,a2,a3,a4⟩:=tup _ (xdz hi);obtain⟨us2,o2,n2,b1,b2,b3,b4⟩:=tup _ (xdz hj);rw[e,b2] at a2;injection a2 with a2
 subst a2;rw[b4] at a4;injection a4 with a4 _
 have a5:us2=us:=by simpa using a4
 subst a5;have d:=zjy a1 b1;unfold Srt.rank;rw[zp (fun p:Addr×List Int=>p.2) _ ei,zp (fun p:Addr×List Int=>p.2) _ ej,d]
noncomputable def rSortedAL (K:Fg):List V->Hp->VK->Prop:=fun xs H Q=>∃(l:Addr) (ps:List (Addr×List Int)),xs=[.ref l]/\SqL K H l (ps.map fun p=>V.ref p.1)/\ps.length<=1000000/\TupsAt K H ps /\
 ∀(q:Addr) (qs:List (Addr×List Int)),H q=none->qs.Perm ps->(qs.map (·.2)).Pairwise (fun a b=>HT.lexLt b a=false)->Q (.ref q) (upd H q (.lst (qs.map fun p=>V.ref p.1)))
noncomputable def rSortedDAL:List V->Hp->VK->Prop:=fun xs H Q=>∃(a:Addr) (kvs:List (List Key×V)) (ks:List (List Int)),xs=[.ref a]/\Rd H a (.dT kvs)/\kvs.map (·.1)=ks.map (fun ns=>ns.map Sum.inl)/\ks.length<=1000000 /\
 ∀(q:Addr) (qs:List (Addr×List Int)),H q=none->(qs.map (·.2)).Perm ks->(qs.map (·.2)).Pairwise (fun x y=>HT.lexLt y x=false)->(∀p∈qs,H p.1=some (.tup (p.2.map V.int)))->Q (.ref q) (upd H q (.lst (qs.map fun p=>V.ref p.1)))
section
variable {X:Cx}
theorem zmn (hu:X.A.units + 64 < cLine):CallR X (.builtin "sorted") (rSortedAL X.K):=by
 intro aU s σ H xs us Q I r h;obtain⟨l,ps,rfl,hl,h64,ht,q⟩:=h;obtain⟨u,rfl,ru⟩:=vals1 r;cases ru;obtain⟨its,rv,pl,hz⟩:=I.list hl;have eits:its=ps.map fun p=>Value.ref p.1:=by
  have e:(ps.map fun p=>V.ref p.1)=(ps.map (·.1)).map V.ref:=by rw[xdl];rfl
  rw[e] at rv;rw[zoh rv,xdl]
  rfl
 subst eits;have tup:∀g:Heap,(∀b o,s.heap.get? b=some o->g.get? b=some o)->TupsG g ps:=fun g keep p hp=>by
  obtain⟨us,rv',⟨o,b2,b3,n,b4⟩,_⟩:=I.tuple (ht p hp);exact⟨us,o,n,zgb rv',keep _ _ b2,b3,b4⟩
 refine Srt.zmt (Srt.rank (ps.map (·.2))) pl.isList (by rw[xbd];exact small10000 h64) (ztl (tup s.heap fun _ _ z=>z)) (fun h2 g keep=>zyb (by show X.A.units+1+1 < cLine;lia) (by rw[xbd] at h2;exact h2) (tup g keep)) (fun p p1 p2=>?_);rw[xbd] at p1 p2;obtain⟨qs,q1,q2,q3⟩:=zsc p1 p2;obtain⟨e,he⟩:=sortedAll_at s.heap (ps.map fun p=>Value.ref p.1) (Srt.outOf (ps.map fun p=>Value.ref p.1) p);rw[q3] at he ⊢;refine⟨.ref (s.heap.objs.size+1),_,I.laid (a:=s.heap.objs.size+1) (o:=.lst (qs.map fun p=>V.ref p.1)) (t':=s.toks) (fun _ _ z=>sortedAll_old z) (xlc _) ⟨?_,_,e,zfk qs,he⟩,rfl,q _ _ (I.hok.fresh (xlc _)) q1 q2⟩;rw[xbd,q1.length_eq];exact small10000 (by lia)
theorem zll (hc:X.calm=true)(hu:X.A.units + 64 < cLine):CallR X (.builtin "sorted") rSortedDAL:=by
 intro aU s σ H xs us Q I r h;obtain⟨a,kvs,ks,rfl,hd,ek,few,q⟩:=h;obtain⟨u,rfl,ru⟩:=vals1 r;cases ru;obtain⟨z,ns,ys,rel,ob,es,ep,e1,e2,e3,e4,e5⟩:=(show ObjOk X.prog X.w H s.heap a (.dT kvs) from hd.ok I.hok)
 obtain⟨ps,a1,a2,a3⟩:=ziq (P:=X.prog) (w:=X.w) rel ek;have hpl:ps.length=ks.length:=by rw[← a1,xbd]
 have hes:es.toList.map (·.key)=ps.map fun p=>Value.ref p.1:=by rw[e4,xdl];exact a3
 have hsz:es.size=ps.length:=by
  have:=congrArg List.length hes;rw[xbd,xbd,xby] at this;exact this
 have tup:∀g:Heap,(∀b o,s.heap.get? b=some o->g.get? b=some o)->TupsG g ps:=fun g keep p hp=>by
  obtain⟨us,rv,⟨o,b2,b3,n,b4⟩,_⟩:=I.tuple (SqT.of (a2 p hp));exact⟨us,o,n,zgb rv,keep _ _ b2,b3,b4⟩
 refine Srt.zqa (Dct.zwy ns es ep) (I.ok.hd hc) ⟨ob,e1,e2,e3⟩ (small10000 (by lia)) fun vs hl hv=>?_
 have evs:vs=ps.map fun p=>Value.ref p.1:=by
  rw[← hes];apply xfv;intro i;by_cases hi:i < es.size
  ·have h1:vs[i]?=some vs[i]:=xbe (by lia);obtain⟨en,h2,h3⟩:=hv i _ h1;rw[h1,h3,xcd,xcj,h2]
   rfl
  ·rw[xem (by lia),xem (by rw[xbd,xby];lia)]
 subst evs;refine⟨Srt.rank (ps.map (·.2)),ztl (tup s.heap fun _ _ z=>z),fun h2 g tk keep=>zyb (by show X.A.units+1+1 < cLine;lia) (by lia) (tup g keep),fun p t g tk c p1 p2 keep ne eg=>?_⟩;rw[xbd] at p1 p2;obtain⟨qs,q1,q2,q3⟩:=zsc p1 p2;rw[q3] at eg;refine⟨.ref t,_,I.laidN (o:=.lst (qs.map fun p=>V.ref p.1)) keep ne ⟨?_,_,c,zfk qs,eg⟩,rfl,q t qs (I.away ne) ((q1.map _).trans (by rw[a1])) q2 fun p hp=>a2 p (q1.mem_iff.mp hp)⟩;rw[xbd,q1.length_eq];exact small10000 (by lia)
end
end L2
namespace L2
open PySem PySem.Spec PyProof.Rows
theorem zim {κ β:Type}[DecidableEq κ]{k:κ}:∀{xs:List (κ×β)} {j:Nat} {p:β},(xs.map (·.1)).Nodup->xs[j]?=some (k,p)->xs.eraseIdx j=xs.filter fun x=>decide (x.1≠k)
 | [],_,_,_,e=>by simp at e
 | x::r,0,p,nd,e=>by
  simp at e;subst e;rw[xbp,xdo] at nd;rw[List.eraseIdx_cons_zero,xdf (by simp)]
  symm
  rw[xjx];intro y hy;refine xbw fun z=>nd.1 ?_
  rw[← z];exact xcb.mpr ⟨y,hy,rfl⟩
 | x::r,j+1,p,nd,e=>by
  rw[xbp,xdo] at nd;have e':r[j]?=some (k,p):=by simpa using e
  have hx:x.1≠k:=fun z=>nd.1 (by rw[z];exact xcb.mpr ⟨_,xbo e',rfl⟩)
  rw[xjb,xdg (by simpa using hx),zim nd.2 e']
theorem zpi {α β:Type}(f:α->β):∀(l:List α) (j:Nat),(l.map f).eraseIdx j=(l.eraseIdx j).map f
 | [],_=>rfl
 | _::_,0=>rfl
 | x::l,j+1=>by rw[xbp,xjb,xjb,xbp,zpi f l j]
section
variable {prog:Program}{w:World}{κ:Type}[DecidableEq κ]{knd:HeapKind prog w κ}{A:Around}{E:Value->Shared->Prop}{s:Shared}{d a:Addr}{k:κ}{xs:List (κ×Addr×Value)}{p:Addr×Value}
theorem zus {W:Option DictEntry->Shared->Prop}(hu:knd.room A)(hkey:knd.is s.heap k a)(hm:s.heap.DictOfH knd d xs)(hp:atKey xs k=some p)(hsz:xs.length<=sizeLine)
  (fin:∀e h',e.val=p.2->h'.DictOfH knd d (xs.filter fun x=>decide (x.1≠k))->Heap.SameBut d s.heap h'->W (some e) {s with heap:=h',toks:=s.toks+knd.draws k}) :
  wpAny (model prog w) A (Builtin.Dict.takeOut d (.ref a)) W E s:=by
 obtain⟨o,es,ep,ho,hc,hd,he,his,hn⟩:=hm;unfold Builtin.Dict.takeOut;refine xeq ?_;refine xba (knd.pyHash hu hkey ?_);refine xba (wpAny_dictFind_heap (s:={s with toks:=s.toks+knd.draws k}) hu hkey ho hd he his hn (fun z=>?_) fun j q hj=>?_)
 ·rw[atKey_none_of_get z] at hp;cases hp
 ·have hq:q=p:=by
   have z:=atKey_of_get hn hj;rw[hp] at z;exact(xcl z).symm
  subst hq;refine xba (xhs (s:={s with toks:=s.toks+knd.draws k}) ho hd ?_);rw[entry_at he j,hj];have big:es.size<=sizeLine:=by have:=size_of_entries he;lia
  refine xba (wpAny_updateDictKeys (hz:=big) (s:={s with toks:=s.toks+knd.draws k}) ho hd (xbk (fin _ _ rfl ⟨_,_,ep+1,xht _ ho (Obj.isFreed_of_dict (Obj.data_mapDictKeys hd _)),hc.mapDictKeys _,Obj.data_mapDictKeys hd _,?_,fun x hx=>?_,?_⟩ (xgw ..))))
  ·rw[← zim hn hj];obtain⟨l⟩:=es;have he':l=xs.map (entryOfKey knd):=he;subst he';simp[zpi]
  ·exact knd.keeps (his x (xcq.mp hx).1) ho hd (xgw ..)
  ·exact List.Sublist.nodup (List.Sublist.map (fun x:κ×Addr×Value=>x.1) xif) hn
theorem zyx {W:Value->Shared->Prop}(hu:knd.room A.in1)(hkey:knd.is s.heap k a)(hm:s.heap.DictOfH knd d xs)(hp:atKey xs k=some p)(hsz:xs.length<=sizeLine)
  (fin:∀h',h'.DictOfH knd d (xs.filter fun x=>decide (x.1≠k))->Heap.SameBut d s.heap h'->W p.2 {s with heap:=h',toks:=s.toks+knd.draws k}) :
  wpAny (model prog w) A (call (.builtin "dict.pop") [.ref d, .ref a]) W E s:=by
 have M:MeetsIn prog w (Builtin.«dict.pop» ⟨[.ref d,.ref a],[]⟩) (fun B R g=>B=A/\g=s/\∀h',h'.DictOfH knd d (xs.filter fun x=>decide (x.1≠k))->Heap.SameBut d s.heap h'->R (.ok (.ret p.2)) {s with heap:=h',toks:=s.toks+knd.draws k}) :=
  .of_wp fun B R g hq0=>by
   obtain⟨hB,hg,q⟩:=hq0;subst hB hg;unfold Builtin.«dict.pop» Builtin.Dict.keyAndDefault;refine xba (xba (wpAny_notOrdered_dict hm.typeIs (xbk ?_)));obtain⟨o,es,ep,ho,hc,hd,he,his,hn⟩:=id hm;have ne:es.isEmpty=false:=by
    have:=size_of_entries he;cases xs with
    | nil=>cases hp
    | cons x r =>
     rw[xbv] at this;rw[Array.isEmpty_eq_false_iff];intro z;rw[z] at this;simp at this
   simp only[keyPart,Option.isSome_none,xdj,xfh];refine xba (xhs ho hd (xba (xbk ?_)));rw[ne];simp only[xdj,xfh];refine xba (zus hu hkey hm hp hsz fun e h' hv dd hs=>?_);simp only[Option.isNone_some,xdj,xfh];exact xba (wpAny_letGo (xbk ⟨e.val,rfl,by rw[hv];exact q h' dd hs⟩))
 exact xjv xhv hm.typeIs F.entry_dict_pop (F.args_dict_pop_2 _ _) M ⟨rfl,rfl,fin⟩
end
theorem KT.drop {H:Hp}{kvs:List (List Key×V)}{xs:List (List Key×Addr×Value)}(r:KT H kvs xs)(k:List Key):KT H (dropK kvs k) (xs.filter fun x=>decide (x.1≠k)):=by
 unfold dropK
 induction r with
 | nil=>exact .nil
 | @cons p q ps qs h t ih =>
  by_cases e:p.1=k
  ·rw[xdf (by simp[e]),xdf (by simp[← h.1,e])];exact ih
  ·rw[xdg (by simp[e]),xdg (by simp[← h.1,e])];exact .cons h ih
section
variable {X:Cx}{aU:List (Addr×Obj)}{σ:St}{H:Hp}{s:Shared}{a b:Addr}{kvs:List (List Key×V)}{k:List Key}
theorem zbku {v:V}{Q:Value->Shared->Prop}{E:Value->Shared->Prop}(hu:X.A.units+1 < cLine)(I:Inv X aU σ H s)(e:H a=some (.dT kvs))(eb:H b=some (.tup (k.map kV)))(l:valV kvs k=some v)
  (h:∀ w' s', Inv X aU σ (upd H a (.dT (dropK kvs k))) s'->RelV v w'->Q w' s'):wpAny (model X.prog X.w) X.A (call (.builtin "dict.pop") [.ref a, .ref b]) Q E s:=by
 obtain⟨z,hd,xs,rel,dd⟩:=zbmj I.hok e;obtain⟨w',hw,rw'⟩:=RelO.some_of (v:=v) (o:=(atKey xs k).map (·.2)) (by rw[← l];exact rel.val k);cases hp:atKey xs k with
 | none=>rw[hp] at hw;cases hw
 | some p =>
  rw[hp] at hw;have hw':p.2=w':=xcl hw;subst hw';refine zyx (xhm hu) (zqs I.hok eb) dd hp (by rw[← xhd rel];exact z) fun h' dd' hs=>h _ _ ?_ rw'
  obtain⟨q,es,ep,hq,h2,h3,h4,_,h5⟩:=dd';refine zmi I (by rw[e];exact True.intro) hs ⟨q,hq⟩ ⟨xbb (xeu _ _) z,hd,_,(rel.drop k).keeps fun c ys ec=>?_,q,es,ep,hq,h2,h3,h4,h5⟩;rw[zr (zbme ec e (fun z=>nomatch z))];exact ec
end
noncomputable def tDPopT (td ty:TE):TE:=fun σ H Q=>td σ H fun x H1=>∃a,x=.ref a/\IsD H1 a/\ty σ H1 fun y H2=>∃kvs k v b,H2 a=some (.dT kvs)/\y=.ref b/\H2 b=some (.tup (k.map kV))/\valV kvs k=some v/\Q v (upd H2 a (.dT (dropK kvs k)))
section
variable {X:Cx}{o e:Expr}{apos cpos:Pos}{td ty:TE}
theorem zzd (hu:X.A.units + 1 < cLine)(ho:PE X o td)(he:PE X e ty)(m:M1 X o "pop" apos e cpos):PE X (.Call (.Attribute o "pop" apos) [e] [] cpos) (tDPopT td ty):=by
 intro aU s σ H Q I h;refine wpAny_Call_method m.base m.few m.line xgz xhv F.type_dict_pop (thn (ho aU s σ H _ I h) fun u s1 hq0=>?_);obtain⟨x,H1,I1,rx,a,ex,d,q1⟩:=hq0;subst ex;obtain rfl:u=Value.ref a:=rx;obtain⟨t1,t2,_⟩:=zbfc I1 d;refine⟨t1,t2,?_⟩;rw[m.trees];refine xjh rfl (xjp (xhg (thn (he aU s1 σ H1 _ I1 q1) fun iv s2 ⟨y,H2,I2,ry,kvs,k,v,b,ea,ey,eb,l,q2⟩=>xjc ?_)));subst ey;cases(show iv=Value.ref b from ry);exact zbku hu I2 ea eb l fun w' s3 I3 rw'=>⟨v,_,I3,rw',q2⟩
end
noncomputable def rCatA (K:Fg):R2:=fun x y H Q=>∃a b xs ys,x=.ref a/\y=.ref b/\SqT K H a xs/\SqT K H b ys/\xs.length+ys.length<=sizeLine /\
 (xs=[]->Q (.ref b) H)/\(xs≠[]->ys=[]->Q (.ref a) H)/\(xs≠[]->ys≠[]->∀p,H p=none->Q (.ref p) (upd H p (.tup (xs++ys))))
section
variable {X:Cx}
theorem zbdv:OpR X (binaryOp .Add) (rCatA X.K):=by
 intro aU s σ H x y v u Q I rx ry h;obtain⟨a,b,xs,ys,rfl,rfl,ha,hb,hz,q0,q1,q2⟩:=h;by_cases hx:xs=[]
 ·cases rx;cases ry;obtain⟨its,r1,p1,_⟩:=I.tuple ha;obtain⟨its2,r2,p2,_⟩:=I.tuple hb;obtain⟨⟨cls,dd,data,sl⟩,ho,hc,n,hd⟩:=id p1;obtain⟨⟨cls2,dd2,data2,sl2⟩,ho2,hc2,n2,hd2⟩:=id p2;simp only at hc hd hc2 hd2;subst hc hd hc2 hd2;have e:its=[]:=r1.nil_iff.mpr hx;exact concat_meets ⟨_,ho,rfl⟩ ⟨_,ho2,rfl⟩ noFill_tuple_add seq_tuple_add xjg xiw (xil _ _)
   (tuple_addW0 a b its.toArray its2.toArray n n2 dd dd2 sl sl2 (by simp[e])) ⟨ho,ho2,⟨.ref b,H,I,rfl,q0 hx⟩⟩
 ·exact zbdu aU s σ H _ _ v u Q I rx ry ⟨a,b,xs,ys,rfl,rfl,ha,hb,hx,hz,fun z=>q1 hx z,fun z=>q2 hx z⟩
end
section
variable {prog:Program}{w:World}{A:Around}{E:Value->Shared->Prop}{s:Shared}
theorem zwn {t sl:Addr}{its:Array Value}{vl vu:Value}{lo hi:Option Int}{W:Value->Shared->Prop}(ht:IsTup s.heap t its)(hs:s.heap.IsSliceOf sl vl vu .none)(pl:IsPart vl lo)(pu:IsPart vu hi)
  (h0:HT.sIx its.size 0 lo=0)(h1:HT.sIx its.size its.size hi=its.size)(fin:W (.ref t) s):wpAny (model prog w) A (getItem (.ref t) (.ref sl)) W E s:=by
 obtain⟨os,hos,hcs,hds⟩:=id hs;unfold getItem
 try with_reducible refine xeq ?_
 first | refine xba (xbk ?_) | skip
 refine xba (wpAny_sequenceKey ht.typeIs (by decide) ?_);refine xba (wpAny_callSpecial?_slot (name:=Str.ofString "__getitem__") ht.typeIs xiu (xfn xiu ht.typeIs entry_tuple_getitem ?_ (args_tuple_getitem _ _)))
 show wpAny _ _ (Builtin.Tuple.tupleItemsOf (.ref t) >>= _) _ _ s;refine xba (tupleItemsOf_ ht ?_);have hTs:s.TypeIs (.ref sl) "slice":=⟨os, hos, hcs⟩
 refine xba (wpAny_typeOf hTs ?_);rw[if_pos (by decide)];refine xba (HT.zel hs pl pu ?_);have yes:(((HT.sIx its.size 0 lo:Nat):Int)==0&&(1:Int)==1&&(HT.sIx its.size its.size hi - HT.sIx its.size 0 lo)==its.size)=true:=by
  rw[h0,h1];simp
 show wpAny _ _ (if(((HT.sIx its.size 0 lo:Nat):Int)==0&&(1:Int)==1&&(HT.sIx its.size its.size hi - HT.sIx its.size 0 lo)==its.size)=true then _ else _) _ _ s;rw[if_pos yes];refine xba (?_:wpAny _ _ (Builtin.Tuple.tupleIsExact (.ref t)) _ _ s);unfold Builtin.Tuple.tupleIsExact;refine xba (wpAny_typeOf ht.typeIs (xbk ?_));rw[if_pos (by decide)];exact xba (xid (xbk ⟨_,rfl,xbk fin⟩))
end
noncomputable def rSlA (K:Fg):V->Option Int->Option Int->Hp->VK->Prop:=fun x lo hi H Q=>∃a xs,x=.ref a/\SqT K H a xs/\(cutV xs lo hi=xs->Q (.ref a) H)/\∀p,H p=none->Q (.ref p) (upd H p (.tup (cutV xs lo hi)))
theorem zbcp {X:Cx}:SlR X (rSlA X.K):=by
 intro aU s σ H x v vl vu lo hi sl Q I rx hs pl pu h;obtain⟨a,xs,rfl,hx,q1,q2⟩:=h;by_cases hw:HT.sIx xs.length 0 lo=0/\HT.sIx xs.length xs.length hi=xs.length
 ·cases rx;obtain⟨its,r,ht,hz⟩:=I.tuple hx;have hlen:its.toArray.size=xs.length:=by rw[xcc];exact r.length.symm
  refine⟨"tuple", _, xiu.lookup, ht.typeIs, ?_⟩
  refine zwn ht hs pl pu (by rw[hlen];exact hw.1) (by rw[hlen];exact hw.2) ⟨.ref a,H,I,rfl,q1 ?_⟩;unfold cutV;rw[hw.1,hw.2];simp
 ·exact zbhx aU s σ H _ v vl vu lo hi sl Q I rx hs pl pu ⟨a,xs,rfl,hx,hw,q2⟩
theorem zjp (ns:List Int):∀k,k<=ns.length->preSum (fun i=>ns.getD i 0) k=(ns.take k).sum
 | 0,_=>rfl
 | k+1,h=>by
  show preSum (fun i=>ns.getD i 0) k+ns.getD k 0=_;rw[zjp ns k (by lia),xgt (by lia),xfs,xbg,xbe (by lia)];simp
theorem zsy:∀{ns:List Int} {us:List Value} {i:Nat} {v:Value},Vals (ns.map V.int) us->us[i]?=some v->∃t,v=.int (ns.getD i 0) t
 | [],_,_,_,.nil,e=>by simp at e
 | n::ns,_,0,_,.cons r _,e=>by
  simp at e;subst e
  obtain⟨t,rfl⟩:=r;exact⟨t,rfl⟩
 | n::ns,_,i+1,v,.cons _ t,e=>by
  have:=zsy (i:=i) t (by simpa using e)
  simpa using this
noncomputable def rSum (K:Fg):List V->Hp->VK->Prop:=fun xs H Q=>∃(a:Addr) (ns:List Int),xs=[.ref a]/\(SqL K H a (ns.map V.int)\/SqT K H a (ns.map V.int))/\Q (.int ns.sum) H
theorem zps {X:Cx}(hc:X.calm=true):CallR X (.builtin "sum") (rSum X.K):=by
 intro aU s σ H xs us Q I r h;obtain⟨a,ns,rfl,hs,q⟩:=h;obtain⟨u,rfl,ru⟩:=vals1 r;cases ru;have key:∀{its:List Value} (h':Heap) (tk:Nat) (t':Tok) (nn:Nat),nn=ns.length->(∀b o,b≠s.heap.objs.size->s.heap.get? b=some o->h'.get? b=some o) ->
   EP X aU σ Q (.int (preSum (fun i=>ns.getD i 0) nn) t') {s with heap:=h',toks:=tk}:=fun h' tk t' nn hn hk=>by
  subst hn;rw[zjp ns _ (xbf _),xct];exact⟨.int ns.sum,H,I.kept (t':=tk) fun b o e=>hk b o (xce (xbt e)) e,⟨_,rfl⟩,q⟩
 refine call_sum_walkG ?_;rcases hs with hs | hs
 ·obtain⟨its,rv,pl,hz⟩:=I.list hs;have hlt:a < s.heap.objs.size:=by obtain⟨o,n,e,_⟩:=pl;exact xbt e
  have hl:=rv.length;rw[xbd] at hl;refine xkk pl.isList ?_;refine⟨s.heap.objs.size,_,[s.heap.objs.size],_,_,_,fun i=>ns.getD i 0,rfl,Walks.list (A:=X.A.in1) (I.ok.hd hc) _ a (xce hlt) its.toArray,⟨⟨_,xch _ rfl,rfl,rfl⟩,pl.isList.push _⟩,?_,fun i v e=>zsy rv (by simpa using e),fun h' tk t' hk=>?_⟩
  ·intro b hb;show b < (s.heap.push _).objs.size;rw[show ∀o:Obj,(s.heap.push o).objs.size=s.heap.objs.size+1 from fun o=>by simp[Heap.push]];rcases xbr.mp hb with rfl | hb
   ·exact xjk _
   ·rcases xbr.mp hb with rfl | hb
    ·exact xje hlt
    ·cases hb
  ·exact key (its:=its) h' tk t' _ (by simp[hl]) fun b o hb e=>hk b o (by simpa using hb) (xbm _ e)
 ·obtain⟨its,rv,pl,hz⟩:=I.tuple hs;have hlt:a < s.heap.objs.size:=pl.lt;have hl:=rv.length;rw[xbd] at hl;have pt:s.heap.IsTuple a its.toArray:=pl;refine xis pt ?_;refine⟨s.heap.objs.size,_,[s.heap.objs.size],_,_,_,fun i=>ns.getD i 0,rfl,Walks.tuple (A:=X.A.in1) (I.ok.hd hc) _ a (xce hlt) its.toArray,⟨⟨_,xch _ rfl,rfl,rfl⟩,pt.push _⟩,?_,fun i v e=>zsy rv (by simpa using e),fun h' tk t' hk=>?_⟩
  ·intro b hb;show b < (s.heap.push _).objs.size;rw[show ∀o:Obj,(s.heap.push o).objs.size=s.heap.objs.size+1 from fun o=>by simp[Heap.push]];rcases xbr.mp hb with rfl | hb
   ·exact xjk _
   ·rcases xbr.mp hb with rfl | hb
    ·exact xje hlt
    ·cases hb
  ·exact key (its:=its) h' tk t' _ (by simp[hl]) fun b o hb e=>hk b o (by simpa using hb) (xbm _ e)
theorem zne {prog:Program}{w:World}{A:Around}{E:Value->Shared->Prop}{s:Shared}{it t:Addr}{i:Nat}{items:Array Value}{Q:Value->Shared->Prop}(hh:A.handled=none)(hit:s.heap.IsTupleIter it t i)(ht:s.heap.IsTuple t items)
  (hQ:∀x,items[i]?=some x->∀h',h'.IsTupleIter it t (i+1)->Heap.SameBut it s.heap h'->Q x {s with heap:=h'})
  (hE:items[i]?=none->∀ h' e, Heap.ExtBut it s.heap h'->(∃ o, h'.get? e=some o/\o.cls=.type "StopIteration")->E (.ref e) { s with heap:=h' }):wpAny (model prog w) A (Builtin.SmallTypes.nextOf (.ref it)) Q E s:=by
 rcases hit with⟨o,ho,hc,hd⟩
 rcases ht with⟨u,hu,_,n,hs⟩
 refine xba (wpAny_callSpecial?_slot (name:=Str.ofString "__next__") ⟨o, ho, hc⟩ F.slot_tuple_iterator_next (xfn F.slot_tuple_iterator_next ⟨o, ho, hc⟩ F.entry_tuple_iterator_next ?_ (F.args_tuple_iterator_next_1 _)))
 have f0:(#[Value.ref t,.int i 0]:Array Value)[0]?=some (.ref t):=rfl;have f1:(#[Value.ref t,.int i 0]:Array Value)[1]?=some (.int i 0):=rfl
 wp_walk using xkc ho hd f0,xkc ho hd f1,wpAny_seqItems hu hs
 rw[xgo];cases hx:items[i]? with
 | some x =>
  exact xba (xka ho hd (by simp) (xbk ⟨x,rfl,xbk (hQ x hx _ ⟨_,xht _ ho (Obj.isFreed_of_fields (xim hd _)),(Obj.cls_mapFields ..).trans hc,by rw[xim hd];simp[rawInt]⟩ (.update ..))⟩))
 | none =>
  have hh':A.in1.handled=none:=hh
  wp_walk using xka ho hd (by simp)
  unfold raiseNew;refine xba (wpAny_handled ?_);rw[hh'];exact xba (xbk (wpAny_throw (hE hx _ _ ((xgw ..).extBut.push _ |>.push _) ⟨_,xch _ rfl,rfl⟩)))
theorem draws1 {prog:Program}{w:World}{A:Around}(hh:A.handled=none)(it t:Addr)(hne:t≠it)(items:Array Value) :
  Draws prog w A it [it,t] (items.size+1) (fun j v=>∃i,j=i+1/\items[i]?=some v) (fun j h=>∃i,j=i+1/\h.IsTupleIter it t i/\h.IsTuple t items) where
 live:=fun _ _ ⟨_,_,⟨o,ho,_⟩,_⟩=>⟨o,ho⟩
 frame:=fun _ _ _ ⟨i,e,a,b⟩ hk=>⟨i,e,a.at fun o e=>hk it (by simp) o e,b.at fun o e=>hk t (by simp) o e⟩
 item:=fun j s Q E hj hq0 hQ=>by
  obtain⟨i,e,a,b⟩:=hq0;have hi:i < items.size:=by lia
  refine zne hh a b (fun x hx h' hit' hs'=>?_) fun z=>absurd z (by simp;lia)
  exact hQ _ h' s.toks ⟨i,e,hx⟩ ⟨i+1,by lia,hit',b.extBut hs'.extBut hne⟩ hs'
 done:=fun s Q E ⟨i,e,a,b⟩ hE=>zne hh a b (fun x hx=>absurd hx (by rw[xji (by lia)];simp)) fun _=>hE
theorem draws0 {prog:Program}{w:World}{A:Around}(hh:A.handled=none)(it t:Addr)(items:Array Value)(i:Nat)(hi:items.size<=i) :
  Draws prog w A it [it,t] (i+1) (fun _ _=>False) (fun j h=>j=i+1/\h.IsTupleIter it t i/\h.IsTuple t items) where
 live:=fun _ _ ⟨_,⟨o,ho,_⟩,_⟩=>⟨o,ho⟩
 frame:=fun _ _ _ ⟨e,a,b⟩ hk=>⟨e,a.at fun o e=>hk it (by simp) o e,b.at fun o e=>hk t (by simp) o e⟩
 item:=fun j s Q E hj ⟨e,_⟩ _=>absurd e (by lia)
 done:=fun s Q E ⟨_,a,b⟩ hE=>zne hh a b (fun x hx=>absurd hx (by rw[xji hi];simp)) fun _=>hE
section
variable {X:Cx}{aU:List (Addr×Obj)}{σ:St}{H:Hp}{s:Shared}{h':Heap}
theorem Inv.turned2 {t':Nat}{e it:Addr}(I:Inv X aU σ H s)(k:∀b o,b≠e->b≠it->s.heap.get? b=some o->h'.get? b=some o)(hn:H it=none)(hL:it≠X.env.locals)
  (h1:it∈X.ex\/X.s₀.heap.objs.size<=it)(h2:∀x c,X.env.cells.lookup x=some c->c≠it)(h3:∀p∈X.pn++aU,p.1≠it)(gn:H e=none)(gL:e≠X.env.locals)
  (g1:e∈X.ex\/X.s₀.heap.objs.size<=e)(g2:∀x c,X.env.cells.lookup x=some c->c≠e)(g3:∀p∈X.pn++aU,p.1≠e):Inv X aU σ H {s with heap:=h',toks:=t'}:=by
 have nit:∀b u,H b=some u->b≠it:=fun b u e z=>by rw[z,hn] at e;cases e
 have nie:∀b u,H b=some u->b≠e:=fun b u q z=>by rw[z,gn] at q;cases q
 refine I.step (g':=s.gens) (d':=s.drawn) (ch:=[e,it]) (fun b hb=>?_) (fun b o _ _ hc e _=>k b o (fun z=>hc (by simp[z])) (fun z=>hc (by simp[z])) e) (fun b o _ _ hc e _=>⟨o.slots,k b o (fun z=>hc (by simp[z])) (fun z=>hc (by simp[z])) e⟩) (fun _ _ _ _ n=>n)
  (fun b o hc e=>⟨o,k b o (fun z=>hc (by simp[z])) (fun z=>hc (by simp[z])) e⟩) (fun _ _ e=>e) (fun _ _ _ e=>e) (fun b ps e=>⟨#[],by rw[e];simp⟩) (fun m hm=>?_) (fun b u e=>?_) I.bare
 ·rcases xbr.mp hb with z | z
  ·subst z;exact⟨g1,gL,g2,g3⟩
  ·have z':b=it:=by simpa using z
   subst z';exact⟨h1,hL,h2,h3⟩
 ·obtain⟨o,es,ep,ho,r⟩:=hm;exact⟨o,es,ep,k _ o (xdv gL) (xdv hL) ho,r⟩
 ·refine(I.hok b u e).stay (fun c v hc q=>k c v ?_ ?_ q) (fun _ q=>q) fun _ _ q=>q
  ·rcases hc with z | z
   ·rw[z];exact nie b u e
   ·exact nie c _ z
  ·rcases hc with z | z
   ·rw[z];exact nit b u e
   ·exact nit c _ z
end
noncomputable def Ite (K:Fg) (a:Addr):It :=
 ⟨fun i H=>∃xs x,SqT K H a xs/\xs[i]?=some x,fun i H y H'=>∃p,H p=none/\y=.ref p/\∀xs x,SqT K H a xs->xs[i]?=some x->H'=upd H p (.tup [.int ((i+1:Nat):Int),x]),fun i H=>∃xs,SqT K H a xs/\xs.length<=i⟩
theorem zre {P:Program}{w:World}{K:Fg}{elts:List Expr}{k:Nat}{tpos:Pos}(e it a:Addr)(hei:e≠it) :
  Turn P w K (.Tuple elts k tpos) (Ite K a) [e,it] e (fun i h=>(∃old,IsEnum h e it ((i+1:Nat):Int) old)/\h.IsTupleIter it a i) where
 mem:=by simp
 obj:=fun i h st b hb=>by
  obtain⟨⟨old,he⟩,o,e',c,d⟩:=st;rcases xbr.mp hb with rfl | hb
  ·exact⟨_,he,fun v z=>by
    have z':Data.fields _=Data.cell v:=z
    cases z'⟩
  ·have:b=it:=by simpa using hb
   subst this;exact⟨o,e',fun v z=>by rw[d] at z;cases z⟩
 keep:=fun i h h' st k=>⟨let ⟨old,he⟩:=st.1;⟨old,k e (by simp) _ he⟩,st.2.at fun o z=>k it (by simp) o z⟩
 item:=by
  intro X hP hw hK hc i aU s σ H E I hf st hg;subst hP hw hK;obtain⟨xs,x,hq,hx⟩:=hg;obtain⟨⟨old,he⟩,hit⟩:=st;obtain⟨its,rv,p,hz⟩:=I.tuple hq;have ht:s.heap.IsTuple a its.toArray:=p;obtain⟨u,hu,ru⟩:=rv.get hx;have hae:a≠e:=fun z=>by
   obtain⟨o,ho,hcl,_⟩:=ht;rw[z,he] at ho;cases ho;simp at hcl
  have hai:a≠it:=fun z=>by
   obtain⟨o,ho,hcl,_⟩:=ht;obtain⟨o',ho',hcl',_⟩:=hit;rw[z,ho'] at ho;cases ho;rw[hcl'] at hcl;simp at hcl
  have hi:i < its.length:=(xbc.mp hu).1;have D:=draws1 (prog:=X.prog) (w:=X.w) (A:=X.A.in1) (I.ok.hd hc) it a hai its.toArray;refine wpAny_pyNext_enum_itemD D (i:=i+1) he ⟨i,rfl,hit,ht⟩ (by simp;lia) hei (by simp;exact⟨hei,fun z=>hae z.symm⟩) fun x' h' tk hP ho hs' hT hsz hk=>?_
  obtain⟨i',e1,e2⟩:=hP;cases(show i'=i by lia);have eu:x'=u:=by
   rw[List.getElem?_toArray,hu] at e2;exact(xcl e2).symm
  subst eu;refine⟨_,rfl,wpAny_letOwnedTupleGo_enum ho fun h2 he2 hs2=>?_⟩;obtain⟨f0,f1,f2,f3,f4,f5⟩:=hf e (by simp);obtain⟨g0,g1,g2,g3,g4,g5⟩:=hf it (by simp);have hel:e < s.heap.objs.size:=xbt he;have hil:it < s.heap.objs.size:=by obtain⟨o',ho',_⟩:=hit;exact xbt ho'
  have I1:Inv X aU σ (upd H s.heap.objs.size (.tup [.int ((i + 1:Nat):Int), x])) { s with heap:=s.heap.push { cls:=.type "tuple", data:=.seq #[.int ((i + 1:Nat):Int) tk, x'] }, toks:=s.toks } :=
   I.laid (fun _ _ q=>xbm _ q) (xbf _) ⟨by simp;decide,[.int ((i+1:Nat):Int) tk,x'],.cons ⟨tk,rfl⟩ (.cons ru .nil),⟨_,xch _ rfl,rfl,_,rfl⟩⟩
  have T2:h2.get? s.heap.objs.size=some { cls:=.type "tuple", data:=.seq #[.int ((i + 1:Nat):Int) tk, x'] }:=(hs2.2 _ (xko hel)).trans hT
  have I2:Inv X aU σ (upd H s.heap.objs.size (.tup [.int ((i+1:Nat):Int),x])) {s with heap:=h2,toks:=tk+1}:=by
   refine Inv.turned2 (s:={ s with heap:=s.heap.push { cls:=.type "tuple", data:=.seq #[.int ((i + 1:Nat):Int) tk, x'] }, toks:=s.toks }) (h':=h2) (t':=tk + 1) (e:=e) (it:=it) I1 (fun b o hbe hbi q=>?_) (by rw[zr (xce hil)]; exact g0) g1 g3 g4 g5 (by rw[zr (xce hel)]; exact f0) f1 f3 f4 f5
   have q':(s.heap.push { cls:=.type "tuple", data:=.seq #[.int ((i + 1:Nat):Int) tk, x'] }).get? b=some o:=q
   rcases Heap.get?_push_cases q' with⟨z,z2⟩ | z
   ·rw[z,z2];exact T2
   ·exact(hs2.2 _ hbe).trans (hk b o hbe hbi z)
  refine⟨.ref s.heap.objs.size,_,I2,rfl,⟨s.heap.objs.size,I.fresh,rfl,fun ys y hy e'=>?_⟩,⟨⟨x',?_⟩,?_⟩,fun b hb=>?_⟩
  ·rw[I.tuple_inj hy hq,hx] at e';cases e'
   rfl
  ·have:(((i+1+1:Nat)):Int)=(((i+1:Nat)):Int)+1:=by push_cast;rfl
   rw[this];exact he2
  ·obtain⟨i',e3,e4,_⟩:=hs';cases(show i'=i+1 by lia);exact e4.at fun o q=>(hs2.2 it (xdv hei)).trans q
  ·rcases xbr.mp hb with rfl | hb
   ·rw[zr (xce hel)];exact f0
   ·have:b=it:=by simpa using hb
    subst this;rw[zr (xce hil)];exact g0
 done:=by
  intro X hP hw hK hc i aU s σ H E I hf st hg;subst hP hw hK;obtain⟨xs,hq,hx⟩:=hg;obtain⟨⟨old,he⟩,hit⟩:=st;obtain⟨its,rv,p,hz⟩:=I.tuple hq;have ht:s.heap.IsTuple a its.toArray:=p;have hl:=rv.length;obtain⟨g0,g1,g2,g3,g4,g5⟩:=hf it (by simp);have D:=draws0 (prog:=X.prog) (w:=X.w) (A:=X.A.in1) (I.ok.hd hc) it a its.toArray i (by simp;lia);exact wpAny_pyNext_enum_endD D he ⟨rfl,hit,ht⟩ fun h' he'=>⟨rfl,I.turned (t':=s.toks) (fun b o hb e=>he' b o hb e) g0 g1 g3 g4 g5⟩
 self:=fun A i s Q E st h=>let ⟨old,he⟩:=st.1;wpAny_pyIter_enum he h
theorem zwc (a:Addr)(items:Array Value)(ob:Obj)(t:Tok) :
  Meets (Builtin.«enumerate.__new__» ⟨[.type "enumerate", .ref a],[(Str.ofString "start", .int 1 t)]⟩) (fun _ R s=>s.heap.get? a=some ob/\s.heap.IsTuple a items /\
   R (.ok (.ret (.ref (s.heap.objs.size+1))))
    { s with heap:=(s.heap.push { cls:=.type "tuple_iterator", data:=.fields #[.ref a, .int 0 0] }).push { cls:=.type "enumerate", data:=.fields #[.none, .bool false, .ref s.heap.objs.size, rawInt 1, .none, .none] } }):=by
 refine Meets.of_wp ?_;rintro prog w A R ⟨hp,g,d,tk,os⟩ ⟨h1,h2,h3⟩;have known:=sub_enumerate;have size:(hp.push { cls:=.type "tuple_iterator", data:=.fields #[.ref a, .int 0 0] }).objs.size=hp.objs.size + 1:=Heap.size_push ..
 rw[← size] at h3
 wp_walk using xio h1
 refine wpAny_stack_any fun _=>xbk ?_
 split
 ·rename_i c _ _ _ _ _;generalize (c==Value.type "enumerate")=b
  cases b<;>(wp_walk using xio h1,xis h2;exact⟨_,rfl,h3⟩)
 ·wp_walk using xio h1,xis h2
  exact⟨_,rfl,h3⟩
theorem zbfe {T nw:String}{self a:Value}{rest:List Value}{k:Str×Value}{kw:List (Str×Value)}(h1:typeLookup (.type T) "__init__"=pure (some (.builtin "object.__init__")))(h2:Bind.madeBy (.type T)=pure (some nw))
  (h3:(some nw != some "object.__new__")=true):Meets (Builtin.«object.__init__» ⟨self::a::rest, k::kw⟩) (fun _ R s=>s.TypeIs self T/\R (.ok (.ret .none)) s) :=
 .of_wp fun _ _ _ _ _ hq0=>by
  obtain⟨h4,h5⟩:=hq0
  repeat any_goals first | assumption | wp_step
  exact⟨_,rfl,h5⟩
theorem zzr (a:Value)(t:Tok):checkBuiltinCall "enumerate.__new__" ⟨[.type "enumerate", a],[(Str.ofString "start", .int 1 t)]⟩=pure ():=by kernel_rfl
theorem zzm (o a:Value)(t:Tok):argsOk "object.__init__" ⟨[o, a],[(Str.ofString "start", .int 1 t)]⟩:=by kernel_rfl
theorem ztq {prog:Program}{w:World}{A:Around}{E:Value->Shared->Prop}{s:Shared}{a:Addr}{items:Array Value}{t:Tok}{Q:Value->Shared->Prop}(hL:s.heap.IsTuple a items)
  (h:∀h',IsEnum h' (s.heap.objs.size+1) s.heap.objs.size 1 .none->h'.IsTupleIter s.heap.objs.size a 0->(∀b o,s.heap.get? b=some o->h'.get? b=some o)->Q (.ref (s.heap.objs.size+1)) {s with heap:=h'}) :
  wpAny (model prog w) A (call (.type "enumerate") [.ref a] [(Str.ofString "start", .int 1 t)]) Q E s:=by
 rcases id hL with⟨ob,hob,_⟩
 have ft:=F.called_enumerate;rcases ft.mro with⟨c,tl,m1⟩
 have m2:=ft.made;have m3:=ft.sub;have m4:=ft.notType;have m5:=ft.canCreate;have m6:=ft.init.lookup;have size:(s.heap.push { cls:=.type "tuple_iterator", data:=.fields #[.ref a, .int 0 0] }).objs.size=s.heap.objs.size + 1:=Heap.size_push ..
 have he:IsEnum ((s.heap.push { cls:=.type "tuple_iterator", data:=.fields #[.ref a, .int 0 0] }).push { cls:=.type "enumerate", data:=.fields #[.none, .bool false, .ref s.heap.objs.size, rawInt 1, .none, .none] }) (s.heap.objs.size + 1) s.heap.objs.size 1 .none:=by
  rw[← size];exact xch _ rfl
 have done:=h _ he ⟨_,xbm _ (xch _ rfl),rfl,rfl⟩ fun b o x=>xbm _ (xbm _ x)
 refine wpAny_call (codeAny_of_tree (xbk ⟨Code.quiet_builtin _ (by decide +kernel),codeAny_builtin F.entry_type_call ?_⟩));rw[Around.under_plain (weight_type_call_type _ _ _) (units_type_call_type _ _ _)]
 repeat any_goals first | assumption | wp_step
 refine xju (codeAny_call_builtin ft.plain F.entry_enumerate_new (wpAny_of_eq (zzr _ t) (zwc a items ob t prog w A.in1 (wants (fun x s1=>s1.TypeIs x "enumerate"/\Q x s1) E) s ⟨hob, hL,⟨_, he, rfl⟩, done⟩))) ?_
 clear done he size h hL hob;rintro(e | _ | _ | _ | x) s1 hr
 case ok.ret =>
  obtain⟨T,q⟩:=hr;have m7:=ft.init.bind x
  repeat any_goals first | assumption | wp_step
  refine xju (codeAny_call_builtin ft.init.plain F.entry_object_init (ft.init.check _ _ _ _ _ _ _ _ T (zzm _ _ t) (zbfe m6 m2 (by decide) prog w A.in1 (wants (fun y s2=>y=.none/\Q x s2) E) _ ⟨T,rfl,q⟩))) ?_;rintro(e | _ | _ | _ | y) s2 hr
  case ok.ret =>
   obtain⟨rfl,q⟩:=hr
   repeat any_goals first | assumption | wp_step
  all_goals first | exact hr | exact hr.elim
 all_goals first | exact hr | exact hr.elim
theorem cw_kw {M:Model}{A:Around}{E:Value->Shared->Prop}{s:Shared}{pos:Pos}{T:String}{first:List Value}{args:List (Bool×Sem Value)}{kws:List (Option Str×Sem Value)}{Q:Value->Shared->Prop}(h1:args.any (·.1)=false)(h2:kws.any (·.1.isNone)=false)
  (h:wpAny M A (evalArgs (.type T) true args kws) (fun a s1=>wpAny M A (call (.type T) (first++a.pos) a.kw) Q E s1) E s):wpAny M A (callWith pos (.type T) first args kws) Q E s:=by
 unfold callWith;refine xba (xeq (xec h ?_ fun _ _=>id));intro a s1 k;rw[h1,h2];exact xba (xkh (xba (xbk (xba (xec k (fun _ _ q=>xba (xeq (wpAny_point (xbk q)))) fun _ _=>id)))))
section
variable {X:Cx}
noncomputable def iEnum1 (K:Fg) (tl:TE):TI:=fun σ H R=>tl σ H fun x H1=>∃a,x=.ref a/\(∃xs,SqT K H1 a xs)/\R (Ite K a) H1
theorem zyz {elts:List Expr}{k j:Nat}{tpos p pos kpos cpos:Pos}{l:Expr}{tl:TE}(hg:Gl X "enumerate")(hm:X.mg "enumerate"=none)(hl:PE X l tl)
  (he:starEach [l] X.env=[(false,eval l X.env)]:=by rfl) :
  PI X (.Tuple elts k tpos) (.Call (.Name "enumerate" p) [l] [⟨some "start", .Constant (.int 1) j cpos, kpos⟩] pos) (iEnum1 X.K tl):=by
 intro aU s σ H R I h;refine xit (zns I hg hm PyProof.Rows.boot_enumerate ?_);refine cw_kw (by rw[he];rfl) rfl ?_;rw[he];refine evalArgs_kwB rfl ?_;refine xhg (thn (hl aU s σ H _ I h) fun v s1 hq0=>?_);obtain⟨x,H1,I1,r1,q1⟩:=hq0;refine xjc ?_;refine kws_cons ?_;refine wpAny_Constant_int (kws_nil ?_);obtain⟨a,rfl,⟨xs,hq⟩,q⟩:=q1;cases r1;have I2:=I1.tok (s1.toks+1);obtain⟨its,rv,pp,hz⟩:=I2.tuple hq;refine ztq (show _ from pp) fun h' he' hit hk=>?_
 refine wpAny_pyIter_enum he' ?_;have I3:=I2.kept (h':=h') (t':=s1.toks+1) hk;refine⟨s1.heap.objs.size+1,[s1.heap.objs.size+1,s1.heap.objs.size],_,_,H1,rfl,I3,zre _ s1.heap.objs.size a (Nat.succ_ne_self _),⟨⟨_,he'⟩,hit⟩,fun b hb=>?_,q⟩;have hb':s1.heap.objs.size<=b:=by
  have hb2:b=s1.heap.objs.size+1\/b=s1.heap.objs.size:=by simpa using hb
  cases hb2 with
  | inl z=>exact z ▸ xlc _
  | inr z=>exact z ▸ xbf _
 exact I1.fpOk hb' (I1.hok.fresh hb')
end
noncomputable def bestI (gt:Bool) (n:Int) (ns:List Int):Int:=ns.foldl (fun i j=>if(if gt then decide (j > i) else decide (j < i))=true then j else i) n
theorem zny:∀(ns:List Int) (n:Int),bestI true n ns∈n::ns/\∀a∈n::ns,a<=bestI true n ns
 | [],n=>⟨by simp[bestI],by simp[bestI]⟩
 | m::ns,n=>by
  have e:bestI true n (m::ns)=bestI true (if m > n then m else n) ns:=by simp[bestI]
  obtain⟨h1,h2⟩:=zny ns (if m > n then m else n);rw[e];refine⟨?_,fun a ha=>?_⟩
  ·rcases xbr.mp h1 with z | z
   ·rw[z];split<;>simp
   ·simp[z]
  ·have h3:=h2 _ xcr;rcases xbr.mp ha with rfl | ha
   ·refine xks ?_ h3;split<;>lia
   ·rcases xbr.mp ha with rfl | ha
    ·refine xks ?_ h3;split<;>lia
    ·exact h2 a (xbi _ ha)
theorem zts {n:Int}{ns:List Int}{k:Nat}(hk:k=ns.length):(n::ns).getD (argBest (fun i j=>decide ((n::ns).getD i 0 >(n::ns).getD j 0)) k) 0=bestI true n ns:=by
 subst hk;obtain⟨h1,h2⟩:=argBest_gt (fun i=>(n::ns).getD i 0) ns.length;obtain⟨g1,g2⟩:=zny ns n;have hl:argBest (fun i j=>decide ((n::ns).getD i 0 >(n::ns).getD j 0)) ns.length < (n::ns).length:=by rw[xbv];lia
 obtain⟨j,hj,ej⟩:=xea g1;have a1:=h2 j (by simp at hj;lia);have a2:=g2 ((n::ns).getD (argBest (fun i j=>decide ((n::ns).getD i 0 >(n::ns).getD j 0)) ns.length) 0) (by rw[xbg,xbe hl];exact xdz hl);have e:(n::ns).getD j 0=bestI true n ns:=by rw[xbg,xbe hj,ej];rfl
 rw[e] at a1;lia
section
variable {X:Cx}
end
section
variable {prog:Program}{w:World}{A:Around}{E:Value->Shared->Prop}{s:Shared}{z TI TO i1 i2 t1 t2:Addr}{xs ys:Array Value}{j:Nat}
end
section
variable {prog:Program}{w:World}{A:Around}{E:Value->Shared->Prop}{s:Shared}{z TI TO i1 i2 t1 t2:Addr}{xs ys:Array Value}{j:Nat}
end
section
variable {prog:Program}{w:World}{A:Around}{E:Value->Shared->Prop}{s:Shared}
end
section
variable {X:Cx}
end
end L2
namespace Dd
open PySem L2
set_option genInjectivity true in
inductive D where
 | non | bl (b:Bool) | int (i:Int) | str (x:Str) | ty (n:String) | ref (n:Nat) | tup (ds:List D) | lst (ds:List D) | scr (ds:List D) | exn (c:Str) (l:List Int)
set_option genInjectivity true in
inductive O where
 /-- a list that may change;a dict by tuples of ints;one that is only read;gone -/
 | lst (xs:List D) | dT (kvs:List (List Int×D)) | fT (kvs:List (List Int×D)) | dead
 /-- a dict by ints -/
 | dI (kvs:List (Int×D))
 /-- the law's table of codes -/
 | tab
noncomputable abbrev Store:=List O
structure Exc where
 cls:Str
 at_:List Int
set_option genInjectivity true in
inductive Res (α:Type) where
 | ok (a:α) (st:Store) | exc (x:Exc) (st:Store) | stuck
noncomputable def Res.bind {α β:Type}:Res α->(α->Store->Res β)->Res β
 | .ok a st,f=>f a st
 | .exc x st,_=>.exc x st
 | .stuck,_=>.stuck
@[simp] theorem zl {α β:Type} (a:α) (st:Store) (f:α->Store->Res β):(Res.ok a st).bind f=f a st:=rfl
@[simp] theorem zblj {α β:Type} (x:Exc) (st:Store) (f:α->Store->Res β):(Res.exc x st:Res α).bind f=.exc x st:=rfl
@[simp] theorem zbgx {α β:Type} (f:α->Store->Res β):(Res.stuck:Res α).bind f=.stuck:=rfl
theorem zc {α β:Type}{r:Res α}{f:α->Store->Res β}{b:β}{st':Store}(h:r.bind f=.ok b st'):∃a st,r=.ok a st/\f a st=.ok b st':=by
 cases r with
 | ok a st=>exact⟨a,st,rfl,h⟩
 | exc x st=>cases h
 | stuck=>cases h
noncomputable abbrev DS:=List (Option D)
noncomputable abbrev SE:=DS->Store->Res D
noncomputable abbrev ST:=DS->Store->Res Bool
noncomputable abbrev SA:=DS->Store->Res (List D)
set_option genInjectivity true in
inductive Fl where
 | nx (σ:DS) | ret (v:D) | brk (σ:DS) | ct (σ:DS)
noncomputable abbrev SS:=DS->Store->Res Fl
noncomputable abbrev DFn:=List D->Store->Res D
structure Loc where
 m:List (Option Addr)
 g:List Addr
noncomputable def Out (ρ:Loc) (a:Addr):Prop:=some a∉ρ.m/\a∉ρ.g
noncomputable def Ls (K:Fg) (ρ:Loc) (H:Hp) (a:Addr) (vs:List V):Prop:=(Rd H a (.lst vs)/\Out ρ a)\/∀H':Hp,SqL K H' a vs
noncomputable def XAt (K:Fg) (ρ:Loc) (H:Hp) (c:Str) (l:List Int) (a:Addr):Prop:=∃C o,W.nsIn K mainGlobals c=some (some (.ref C))/\(H a=some (.frz o (.ext fun _=>True))/\Out ρ a)/\o.cls=.ref C/\(∃vs,o.data=.fields vs/\vs[2]?=some .none) /\
 ((l=[]/\o.dict=none)\/∃ i dx od, l=[i]/\o.dict=some dx/\H dx=some (.frz od (.xd [("at", .int i)]))/\Out ρ dx)
theorem XAt.map {K:Fg}{ρ ρ':Loc}{H H':Hp}{c:Str}{l:List Int}{a:Addr}(h:XAt K ρ H c l a)(f:∀b ob u,H b=some (.frz ob u)->Out ρ b->H' b=some (.frz ob u)/\Out ρ' b):XAt K ρ' H' c l a:=by
 obtain⟨C,o,h1,h2,h3,h4,h5⟩:=h;refine⟨C,o,h1,f _ _ _ h2.1 h2.2,h3,h4,?_⟩;rcases h5 with h5 | ⟨i,dx,od,h6,h7,h8,h9⟩
 ·exact .inl h5
 ·exact .inr ⟨i,dx,od,h6,h7,(f _ _ _ h8 h9).1,(f _ _ _ h8 h9).2⟩
mutual
inductive At (K:Fg) (ρ:Loc) (H:Hp):D->V->Prop
 | non:At K ρ H .non .non
 | bl (b:Bool):At K ρ H (.bl b) (.bl b)
 | int (i:Int):At K ρ H (.int i) (.int i)
 | str (x:Str):At K ρ H (.str x) (.str x)
 | ty (n:String):At K ρ H (.ty n) (.ty n)
 | ref {n:Nat} {v:V}:n < ρ.m.length->(∀a,ρ.m[n]?=some (some a)->v=.ref a)->At K ρ H (.ref n) v
 | tup {a:Addr} {ds:List D} {vs:List V}:H a=some (.tup vs)->Out ρ a->AtAll K ρ H ds vs->At K ρ H (.tup ds) (.ref a)
 | lst {a:Addr} {ds:List D} {vs:List V}:H a=some (.lst vs)->Out ρ a->AtAll K ρ H ds vs->At K ρ H (.lst ds) (.ref a)
 | scr {a:Addr} {ds:List D} {vs:List V}:Ls K ρ H a vs->AtAll K ρ H ds vs->At K ρ H (.scr ds) (.ref a)
 | exn {c:Str} {l:List Int} {a:Addr}:XAt K ρ H c l a->At K ρ H (.exn c l) (.ref a)
inductive AtAll (K:Fg) (ρ:Loc) (H:Hp):List D->List V->Prop
 | nil:AtAll K ρ H [] []
 | cons {d:D} {ds:List D} {v:V} {vs:List V}:At K ρ H d v->AtAll K ρ H ds vs->AtAll K ρ H (d::ds) (v::vs)
end
structure Mv (ρ:Loc) (H:Hp) (ρ':Loc) (H':Hp):Prop where
 out:∀{a:Addr} {o:HO},H a=some o->Out ρ a->H' a=some o/\Out ρ' a
 len:ρ.m.length<=ρ'.m.length
 old:∀(n:Nat) (a:Addr),n < ρ.m.length->ρ'.m[n]?=some (some a)->ρ.m[n]?=some (some a)
theorem Ls.mv {K:Fg}{ρ ρ':Loc}{H H':Hp}{a:Addr}{vs:List V}(x:Mv ρ H ρ' H')(h:Ls K ρ H a vs):Ls K ρ' H' a vs:=by
 rcases h with⟨h | ⟨o,h⟩,n⟩ | h
 ·exact .inl ⟨.inl (x.out h n).1,(x.out h n).2⟩
 ·exact .inl ⟨.inr ⟨o,(x.out h n).1⟩,(x.out h n).2⟩
 ·exact .inr h
theorem At.mv {K:Fg}{ρ ρ':Loc}{H H':Hp}(x:Mv ρ H ρ' H'){d:D}{v:V}(h:At K ρ H d v):At K ρ' H' d v :=
 At.rec (motive_1:=fun d v _=>At K ρ' H' d v) (motive_2:=fun d v _=>AtAll K ρ' H' d v) .non .bl .int .str .ty (fun h e=>.ref (xbh h x.len) fun a q=>e a (x.old _ a h q)) (fun h n _ ih=>.tup (x.out h n).1 (x.out h n).2 ih) (fun h n _ ih=>.lst (x.out h n).1 (x.out h n).2 ih) (fun h _ ih=>.scr (h.mv x) ih) (fun h=>.exn (h.map fun _ _ _ e n=>x.out e n)) .nil (fun _ _ a b=>.cons a b) h
theorem AtAll.mv {K:Fg}{ρ ρ':Loc}{H H':Hp}(x:Mv ρ H ρ' H'){d:List D}{v:List V}(h:AtAll K ρ H d v):AtAll K ρ' H' d v :=
 AtAll.rec (motive_1:=fun _ _ _=>True) (motive_2:=fun d v _=>AtAll K ρ' H' d v) trivial (fun _=>trivial) (fun _=>trivial) (fun _=>trivial) (fun _=>trivial) (fun _ _=>trivial) (fun _ _ _ _=>trivial) (fun _ _ _ _=>trivial) (fun _ _ _=>trivial) (fun _=>trivial) .nil (fun a _ _ b=>.cons (a.mv x) b) h
structure Ext (ρ:Loc) (H:Hp) (ρ':Loc) (H':Hp):Prop where
 len:ρ.m.length<=ρ'.m.length
 old:∀(n:Nat) (a:Addr),n < ρ.m.length->ρ'.m[n]?=some (some a)->ρ.m[n]?=some (some a)
 keep:∀a o,H a=some o->some a∉ρ.m->H' a=some o/\some a∉ρ'.m
 gho:ρ'.g=ρ.g
 frz:∀a ob u,H a=some (.frz ob u)->H' a=some (.frz ob u)
theorem Ext.out {ρ ρ':Loc}{H H':Hp}(x:Ext ρ H ρ' H'){a:Addr}{o:HO}(h:H a=some o)(n:Out ρ a):H' a=some o/\Out ρ' a :=
 ⟨(x.keep a o h n.1).1,(x.keep a o h n.1).2,by rw[x.gho];exact n.2⟩
theorem Ext.mv {ρ ρ':Loc}{H H':Hp}(x:Ext ρ H ρ' H'):Mv ρ H ρ' H':=⟨fun h n=>x.out h n,x.len,x.old⟩
theorem Ls.sq {K:Fg}{ρ:Loc}{H:Hp}{a:Addr}{vs:List V}(h:Ls K ρ H a vs):SqL K H a vs:=by
 rcases h with h | h
 ·exact .inl h.1
 ·exact h H
section
variable {K:Fg}
theorem Ext.refl (ρ:Loc)(H:Hp):Ext ρ H ρ H:=⟨xbf _,fun _ _ _ e=>e,fun _ _ e n=>⟨e,n⟩,rfl,fun _ _ _ e=>e⟩
theorem Ext.trans {ρ ρ1 ρ2:Loc}{H H1 H2:Hp}(a:Ext ρ H ρ1 H1)(b:Ext ρ1 H1 ρ2 H2):Ext ρ H ρ2 H2 :=
 ⟨xbb a.len b.len,fun n c h e=>a.old n c h (b.old n c (xbh h a.len) e),fun c o e n=>by
  obtain⟨e1,n1⟩:=a.keep c o e n
  exact b.keep c o e1 n1,b.gho.trans a.gho,fun c ob u e=>b.frz c ob u (a.frz c ob u e)⟩
theorem At.ext {ρ ρ':Loc}{H H':Hp}(x:Ext ρ H ρ' H'){d:D}{v:V}(h:At K ρ H d v):At K ρ' H' d v:=h.mv x.mv
theorem AtAll.ext {ρ ρ':Loc}{H H':Hp}(x:Ext ρ H ρ' H'){d:List D}{v:List V}(h:AtAll K ρ H d v):AtAll K ρ' H' d v:=h.mv x.mv
theorem AtAll.length {ρ:Loc}{H:Hp}:∀{ds:List D} {vs:List V},AtAll K ρ H ds vs->vs.length=ds.length
 | _,_,.nil=>rfl
 | _,_,.cons _ t=>by rw[xbv,xbv,AtAll.length t]
theorem AtAll.get {ρ:Loc}{H:Hp}:∀{ds:List D} {vs:List V} {i:Nat} {d:D},AtAll K ρ H ds vs->ds[i]?=some d->∃v,vs[i]?=some v/\At K ρ H d v
 | _,_,_,_,.nil,e=>by simp at e
 | _,_,0,_,.cons a _,e=>by simp at e;subst e;exact⟨_,rfl,a⟩
 | _,_,i+1,d,.cons _ t,e=>by
  obtain⟨u,h1,h2⟩:=AtAll.get (i:=i) (d:=d) t (by simpa using e);exact⟨u,by simpa using h1,h2⟩
theorem AtAll.append {ρ:Loc}{H:Hp}:∀{ds es:List D} {vs us:List V},AtAll K ρ H ds vs->AtAll K ρ H es us->AtAll K ρ H (ds++es) (vs++us)
 | _,_,_,_,.nil,b=>b
 | _,_,_,_,.cons a t,b=>.cons a (AtAll.append t b)
theorem AtAll.take {ρ:Loc}{H:Hp}:∀{ds:List D} {vs:List V} (n:Nat),AtAll K ρ H ds vs->AtAll K ρ H (ds.take n) (vs.take n)
 | _,_,0,_=>.nil
 | _,_,_+1,.nil=>.nil
 | _,_,n+1,.cons a t=>.cons a (AtAll.take n t)
theorem AtAll.drop {ρ:Loc}{H:Hp}:∀{ds:List D} {vs:List V} (n:Nat),AtAll K ρ H ds vs->AtAll K ρ H (ds.drop n) (vs.drop n)
 | _,_,0,h=>h
 | _,_,_+1,.nil=>.nil
 | _,_,n+1,.cons a t=>AtAll.drop n t
theorem AtAll.set {ρ:Loc}{H:Hp}{d:D}{v:V}(a:At K ρ H d v):∀{ds:List D} {vs:List V} (n:Nat),AtAll K ρ H ds vs->AtAll K ρ H (ds.set n d) (vs.set n v)
 | _,_,_,.nil=>.nil
 | _,_,0,.cons _ t=>.cons a t
 | _,_,n+1,.cons b t=>.cons b (AtAll.set a n t)
noncomputable def KvAt (K:Fg) (ρ:Loc) (H:Hp):List (List Int×D)->List (List Key×V)->Prop:=Paired fun p q=>q.1=p.1.map Sum.inl/\At K ρ H p.2 q.2
theorem KvAt.ext {ρ ρ':Loc}{H H':Hp}(x:Ext ρ H ρ' H'){a:List (List Int×D)}{b:List (List Key×V)}(h:KvAt K ρ H a b):KvAt K ρ' H' a b:=Paired.mapP h fun p q z=>⟨z.1,z.2.ext x⟩
noncomputable abbrev lamQ:Str:=(("law" : Str)++".<locals>.")++"<lambda>"
noncomputable def TabOk (H:Hp) (ps:Array Value):Prop:=TriplesOk ps.toList/\∀pos cv,codeAmong pos ps.toList=some cv->∃c oc vs t,cv=.ref c/\H c=some (.frz oc (.ext fun _=>True))/\oc.data=.fields vs/\vs[1]?=some (.str lamQ t)
theorem TabOk.map {H H':Hp}{ps:Array Value}(h:TabOk H ps)(f:∀b ob u,H b=some (.frz ob u)->H' b=some (.frz ob u)):TabOk H' ps :=
 ⟨h.1,fun pos cv e=>by obtain⟨c,oc,vs,t,e1,e2,e3⟩:=h.2 pos cv e;exact⟨c,oc,vs,t,e1,f _ _ _ e2,e3⟩⟩
noncomputable def KiAt (K:Fg) (ρ:Loc) (H:Hp):List (Int×D)->List (Key×V)->Prop:=Paired fun p q=>q.1=Sum.inl p.1/\At K ρ H p.2 q.2
theorem KiAt.ext {K:Fg}{ρ ρ':Loc}{H H':Hp}(x:Ext ρ H ρ' H'){a:List (Int×D)}{b:List (Key×V)}(h:KiAt K ρ H a b):KiAt K ρ' H' a b:=Paired.mapP h fun p q z=>⟨z.1,z.2.ext x⟩
noncomputable def OAt (K:Fg) (ρ:Loc) (H:Hp):O->Addr->Prop
 | .lst xs,a=>∃vs,H a=some (.lst vs)/\AtAll K ρ H xs vs
 | .dT kvs,a=>∃vs,H a=some (.dT vs)/\KvAt K ρ H kvs vs
 | .fT kvs,a=>∃vs ob,H a=some (.frz ob (.dT vs))/\KvAt K ρ H kvs vs
 | .dI kvs,a=>∃vs,H a=some (.dK vs)/\KiAt K ρ H kvs vs
 | .dead,_=>False
 | .tab, a=>(∃ c, W.tabIn K "law"=some (c, a))/\∃ ps, H a=some (.tbl ps)/\TabOk H ps
structure Rep (K:Fg) (ρ:Loc) (st:Store) (H:Hp):Prop where
 len:ρ.m.length=st.length
 inj:∀(n m:Nat) (a:Addr),ρ.m[n]?=some (some a)->ρ.m[m]?=some (some a)->n=m
 obj:∀(n:Nat) (a:Addr) (o:O),ρ.m[n]?=some (some a)->st[n]?=some o->OAt K ρ H o a
 gh:∀a∈ρ.g,(∃vs,H a=some (.lst vs))/\some a∉ρ.m
 live:∀(n:Nat) (o:O),st[n]?=some o->o≠.dead->∃a,ρ.m[n]?=some (some a)
noncomputable def AtO (K:Fg) (ρ:Loc) (H:Hp) (o:Option D) (v:Option V):Prop:=∀d,o=some d->∃u,v=some u/\At K ρ H d u
noncomputable abbrev AtS (K:Fg) (ρ:Loc) (H:Hp):DS->St->Prop:=Paired (AtO K ρ H)
theorem AtS.ext {ρ ρ':Loc}{H H':Hp}(x:Ext ρ H ρ' H'){σ:DS}{τ:St}(h:AtS K ρ H σ τ):AtS K ρ' H' σ τ:=Paired.mapP h fun o v z d e=>by
 obtain⟨u,e1,a⟩:=z d e;exact⟨u,e1,a.ext x⟩
theorem AtS.get {ρ:Loc}{H:Hp}:∀{σ:DS} {τ:St} {i:Nat} {d:D},AtS K ρ H σ τ->σ[i]?=some (some d)->∃u,τ[i]?=some (some u)/\At K ρ H d u
 | _,_,_,_,.nil,e=>by simp at e
 | _,_,0,_,.cons a _,e=>by
  simp at e;subst e
  obtain⟨u,e1,h⟩:=a _ rfl;exact⟨u,by simp[e1],h⟩
 | _,_,i+1,d,.cons _ t,e=>by
  obtain⟨u,h1,h2⟩:=AtS.get (i:=i) (d:=d) t (by simpa using e);exact⟨u,by simpa using h1,h2⟩
theorem AtS.set {ρ:Loc}{H:Hp}{d:D}{v:V}(a:At K ρ H d v):∀{σ:DS} {τ:St} (i:Nat),AtS K ρ H σ τ->AtS K ρ H (σ.set i (some d)) (τ.set i (some v))
 | _,_,_,.nil=>.nil
 | _,_,0,.cons _ t=>.cons (fun d' e=>by cases e;exact⟨v,rfl,a⟩) t
 | _,_,i+1,.cons q t=>.cons q (AtS.set a i t)
end
noncomputable def tD (K:Fg) (f:SE):TE:=fun τ H Q=>∃ρ σ st v st',AtS K ρ H σ τ/\Rep K ρ st H/\f σ st=.ok v st'/\∀ρ' H' u,Ext ρ H ρ' H'->Rep K ρ' st' H'->At K ρ' H' v u->Q u H'
noncomputable def tDT (K:Fg) (f:ST):TT:=fun τ H Q=>∃ρ σ st v st',AtS K ρ H σ τ/\Rep K ρ st H/\f σ st=.ok v st'/\∀ρ' H',Ext ρ H ρ' H'->Rep K ρ' st' H'->Q v H'
noncomputable def tDA (K:Fg) (f:SA):TA:=fun τ H Q=>∃ρ σ st v st',AtS K ρ H σ τ/\Rep K ρ st H/\f σ st=.ok v st'/\∀ρ' H' u,Ext ρ H ρ' H'->Rep K ρ' st' H'->AtAll K ρ' H' v u->Q u H'
noncomputable def FlOk (K:Fg) (ρ:Loc) (H:Hp) (st':Store) (E:Ends):Fl->Prop
 | .nx σ=>∀ρ' H' τ,Ext ρ H ρ' H'->Rep K ρ' st' H'->AtS K ρ' H' σ τ->E.nx τ H'
 | .brk σ=>∀ρ' H' τ,Ext ρ H ρ' H'->Rep K ρ' st' H'->AtS K ρ' H' σ τ->E.bk τ H'
 | .ct σ=>∀ρ' H' τ,Ext ρ H ρ' H'->Rep K ρ' st' H'->AtS K ρ' H' σ τ->E.ct τ H'
 | .ret v=>∀ρ' H' u,Ext ρ H ρ' H'->Rep K ρ' st' H'->At K ρ' H' v u->E.rt u H'
theorem FlOk.ext {K:Fg}{ρ ρ1:Loc}{H H1:Hp}{st':Store}{E:Ends}{fl:Fl}(x:Ext ρ H ρ1 H1)(h:FlOk K ρ H st' E fl):FlOk K ρ1 H1 st' E fl:=by
 cases fl with
 | nx σ=>exact fun ρ' H' τ e=>h ρ' H' τ (x.trans e)
 | brk σ=>exact fun ρ' H' τ e=>h ρ' H' τ (x.trans e)
 | ct σ=>exact fun ρ' H' τ e=>h ρ' H' τ (x.trans e)
 | ret v=>exact fun ρ' H' τ e=>h ρ' H' τ (x.trans e)
noncomputable def tDS (K:Fg) (f:SS):TS:=fun E τ H=>∃ρ σ st fl st',AtS K ρ H σ τ/\Rep K ρ st H/\f σ st=.ok fl st'/\FlOk K ρ H st' E fl
noncomputable abbrev DE (X:Cx) (e:Expr) (f:SE):Prop:=PE X e (tD X.K f)
noncomputable abbrev DT (X:Cx) (e:Expr) (f:ST):Prop:=PT X e (tDT X.K f)
noncomputable abbrev DW (X:Cx) (e:Expr) (f:ST):Prop:=PW X e (tDT X.K f)
noncomputable abbrev DA (X:Cx) (es:List Expr) (f:SA):Prop:=PA X es (tDA X.K f)
noncomputable abbrev DSt (X:Cx) (s:Stmt) (f:SS):Prop:=PS X s (tDS X.K f)
noncomputable abbrev DSs (X:Cx) (s:List Stmt) (f:SS):Prop:=PSs X s (tDS X.K f)
section
variable {X:Cx}{e:Expr}{es:List Expr}{s:Stmt}{ss:List Stmt}
theorem zgt {t t':TE}(h:PE X e t)(k:∀σ H Q,t' σ H Q->t σ H Q):PE X e t':=fun aU s σ H Q I q=>h aU s σ H Q I (k _ _ _ q)
theorem zbbx {t t':TT}(h:PT X e t)(k:∀σ H Q,t' σ H Q->t σ H Q):PT X e t':=fun aU s σ H Q I q=>h aU s σ H Q I (k _ _ _ q)
theorem pw_to {t t':TT}(h:PW X e t)(k:∀σ H Q,t' σ H Q->t σ H Q):PW X e t':=fun wh aU s σ H Q I q=>h wh aU s σ H Q I (k _ _ _ q)
theorem zbmc {t t':TA}(h:PA X es t)(k:∀σ H Q,t' σ H Q->t σ H Q):PA X es t':=fun pos aU s σ H Q I q=>h pos aU s σ H Q I (k _ _ _ q)
theorem zvc {t t':TS}(h:PS X s t)(k:∀E σ H,t' E σ H->t E σ H):PS X s t':=fun aU z σ H E I q=>h aU z σ H E I (k _ _ _ q)
theorem zbcv {t t':TS}(h:PSs X ss t)(k:∀E σ H,t' E σ H->t E σ H):PSs X ss t':=fun aU z σ H E I q=>h aU z σ H E I (k _ _ _ q)
end
noncomputable def aA (i:Nat):SE:=fun σ st=>match σ[i]? with
 | some (some d)=>.ok d st
 | _=>.stuck
noncomputable def eC (d:D):SE:=fun _ st=>.ok d st
section
variable {X:Cx}
theorem zbnr {e:Expr}{i:Nat}(h:PE X e (tVar i)):DE X e (aA i):=zgt h fun τ H Q hq0=>by
 obtain⟨ρ,σ,st,v,st',a,r,e,q⟩:=hq0;unfold aA at e;split at e
 ·rename_i d hd;cases e;obtain⟨u,e1,e2⟩:=a.get hd;exact⟨u,e1,q ρ H u (.refl _ _) r e2⟩
 ·cases e
theorem zbhp {e:Expr}{v:V}{d:D}(h:PE X e (tC v))(k:∀ρ H,At X.K ρ H d v):DE X e (eC d):=zgt h fun τ H Q hq0=>by
 obtain⟨ρ,σ,st,v,st',a,r,e,q⟩:=hq0;cases e;exact q ρ H _ (.refl _ _) r (k _ _)
theorem zboa {i j pos}:DE X (.Constant (.int i) j pos) (eC (.int i)):=zbhp zbiw fun _ _=>.int i
theorem d_bl {b j pos}:DE X (.Constant (.bool b) j pos) (eC (.bl b)):=zbhp zbmx fun _ _=>.bl b
theorem zbnx {j pos}:DE X (.Constant .none j pos) (eC .non):=zbhp zbiv fun _ _=>.non
end
noncomputable def aS (g:D->D->Store->Res D) (f f':SE):SE:=fun σ st=>(f σ st).bind fun x st1=>(f' σ st1).bind fun y st2=>g x y st2
noncomputable def eUn (g:D->Store->Res D) (f:SE):SE:=fun σ st=>(f σ st).bind fun x st1=>g x st1
noncomputable def OpD (K:Fg) (g:D->D->Store->Res D) (r:R2):Prop :=
 ∀ρ H st x y u v z st' (Q:VK),Rep K ρ st H->At K ρ H x u->At K ρ H y v->g x y st=.ok z st'->(∀ρ' H' w,Ext ρ H ρ' H'->Rep K ρ' st' H'->At K ρ' H' z w->Q w H')->r u v H Q
theorem zbhj {K:Fg}{g:D->D->Store->Res D}{r:R2}(hr:OpD K g r){f f':SE}:∀τ H Q,tD K (aS g f f') τ H Q->tOp r (tD K f) (tD K f') τ H Q:=fun τ H Q hq0=>by
 obtain⟨ρ,σ,st,v,st',a,rp,e,q⟩:=hq0;obtain⟨x,st1,e1,e⟩:=zc e;obtain⟨y,st2,e2,e⟩:=zc e;refine⟨ρ,σ,st,x,st1,a,rp,e1,fun ρ1 H1 u x1 rp1 a1=>?_⟩;refine⟨ρ1,σ,st1,y,st2,a.ext x1,rp1,e2,fun ρ2 H2 w x2 rp2 a2=>?_⟩;exact hr ρ2 H2 st2 x y u w v st' Q rp2 (a1.ext x2) a2 e fun ρ' H' z x3 rp3 a3=>q ρ' H' z (x1.trans (x2.trans x3)) rp3 a3
section
variable {X:Cx}{a b c:Expr}{f f' f'':SE}{pos:Pos}
theorem d_op {op:Operator}{r:R2}{g:D->D->Store->Res D}(ho:OpR X (binaryOp op) r)(hr:OpD X.K g r)(ha:DE X a f)(hb:DE X b f'):DE X (.BinOp a op b pos) (aS g f f'):=zgt (zbmv ho ha hb) (zbhj hr)
theorem zboe {op:CmpOp}{r:R2}{g:D->D->Store->Res D}(ho:OpR X (compareOp op) r)(hr:OpD X.K g r)(ha:DE X a f)(hb:DE X b f')(hm:behindInMarks op b=false):DE X (.Compare a [op] [b] pos) (aS g f f'):=zgt (zbdo ho ha hb hm) (zbhj hr)
noncomputable def eB (f:SE):ST:=fun σ st=>(f σ st).bind fun v st1=>match v with
 | .bl b=>.ok b st1
 | _=>.stuck
theorem eB_t {K:Fg}{f:SE}:∀τ H Q,tDT K (eB f) τ H Q->tD K f τ H fun x H1=>∃c,x=.bl c/\Q c H1:=fun τ H Q hq0=>by
 obtain⟨ρ,σ,st,v,st',a,rp,e,q⟩:=hq0;obtain⟨x,st1,e1,e⟩:=zc e;refine⟨ρ,σ,st,x,st1,a,rp,e1,fun ρ1 H1 u x1 rp1 a1=>?_⟩;cases x<;>try (cases e;done)
 cases e;cases a1;exact⟨_,rfl,q _ _ x1 rp1⟩
theorem zbkk {op:CmpOp}{r:R2}{g:D->D->Store->Res D}(ho:OpR X (compareOp op) r)(hr:OpD X.K g r)(ha:DE X a f)(hb:DE X b f')(hm:behindInMarks op b=false):DT X (.Compare a [op] [b] pos) (eB (aS g f f')) :=
 zbbx (zbcu ho ha hb hm) fun τ H Q h=>zbhj hr _ _ _ (eB_t _ _ _ h)
noncomputable def eChain (g g':D->D->Store->Res D) (f f' f'':SE):SE:=fun σ st=>(f σ st).bind fun x st1=>(f' σ st1).bind fun y st2=>(g x y st2).bind fun z st3=>match z with
 | .bl true=>(f'' σ st3).bind fun w st4=>g' y w st4
 | .bl false=>.ok (.bl false) st3
 | _=>.stuck
theorem zbgq {K:Fg}{g g':D->D->Store->Res D}{r r':R2}(hr:OpD K g r)(hr':OpD K g' r'){f f' f'':SE}:∀τ H Q,tD K (eChain g g' f f' f'') τ H Q->tChain r r' (tD K f) (tD K f') (tD K f'') τ H Q:=fun τ H Q hq0=>by
 obtain⟨ρ,σ,st,v,st',a,rp,e,q⟩:=hq0;obtain⟨x,st1,e1,e⟩:=zc e;obtain⟨y,st2,e2,e⟩:=zc e;obtain⟨z,st3,e3,e⟩:=zc e;refine⟨ρ,σ,st,x,st1,a,rp,e1,fun ρ1 H1 u x1 rp1 a1=>?_⟩;refine⟨ρ1,σ,st1,y,st2,a.ext x1,rp1,e2,fun ρ2 H2 w x2 rp2 a2=>?_⟩;refine hr ρ2 H2 st2 x y u w z st3 _ rp2 (a1.ext x2) a2 e3 fun ρ3 H3 zz x3 rp3 a3=>?_
 have X3:=x1.trans (x2.trans x3);cases z<;>try (cases e;done)
 rename_i b;cases a3;refine⟨b,rfl,?_⟩;cases b with
 | true =>
  obtain⟨t,st4,e4,e⟩:=zc e;rw[if_pos rfl];refine⟨ρ3,σ,st3,t,st4,a.ext X3,rp3,e4,fun ρ4 H4 tt x4 rp4 a4=>?_⟩;exact hr' ρ4 H4 st4 y t w tt v st' Q rp4 (a2.ext (x3.trans x4)) a4 e fun ρ' H' zz x5 rp5 a5=>q ρ' H' zz (X3.trans (x4.trans x5)) rp5 a5
 | false =>
  cases e;rw[if_neg (by decide)];exact q ρ3 H3 _ X3 rp3 (.bl false)
end
end Dd
namespace Dd
open PySem L2
section
variable {K:Fg}{ρ:Loc}{st:Store}{H:Hp}{p a:Addr}{o:HO}{n:Nat}
theorem Ext.new (hp:H p=none)(o:HO):Ext ρ H ρ (upd H p o):=⟨xbf _,fun _ _ _ e=>e,fun b u e m=>⟨by rw[zr (zq e hp)];exact e,m⟩,rfl,fun b ob u e=>by rw[zr (zq e hp)];exact e⟩
theorem zkw {vs:List V}(h:H a=some (.lst vs)):∀ob u,H a≠some (.frz ob u):=fun ob u z=>by rw[h] at z;cases z
theorem zjt {vs:List (List Key×V)}(h:H a=some (.dT vs)):∀ob u,H a≠some (.frz ob u):=fun ob u z=>by rw[h] at z;cases z
theorem Ext.wr (h:ρ.m[n]?=some (some a))(hz:∀ob u,H a≠some (.frz ob u))(o:HO):Ext ρ H ρ (upd H a o):=⟨xbf _,fun _ _ _ e=>e,fun b u e m=>⟨by
 rw[zr]
 ·exact e
 ·rintro rfl
  exact m (xbo h),m⟩,rfl,fun b ob u e=>by
 rw[zr]
 ·exact e
 ·rintro rfl
  exact hz _ _ e⟩
theorem OAt.has {x:O}(h:OAt K ρ H x a):∃u,H a=some u:=by
 cases x with
 | lst xs=>obtain⟨vs,e,_⟩:=h;exact⟨_,e⟩
 | dT kvs=>obtain⟨vs,e,_⟩:=h;exact⟨_,e⟩
 | fT kvs=>obtain⟨vs,ob,e,_⟩:=h;exact⟨_,e⟩
 | dI kvs=>obtain⟨vs,e,_⟩:=h;exact⟨_,e⟩
 | dead=>exact h.elim
 | tab=>obtain⟨_,ps,e,_⟩:=h;exact⟨_,e⟩
theorem OAt.ext {ρ':Loc}{H':Hp}{x:O}(e:Ext ρ H ρ' H')(same:H' a=H a)(h:OAt K ρ H x a):OAt K ρ' H' x a:=by
 cases x with
 | lst xs=>obtain⟨vs,q,r⟩:=h;exact⟨vs,by rw[same];exact q,r.ext e⟩
 | dT kvs=>obtain⟨vs,q,r⟩:=h;exact⟨vs,by rw[same];exact q,r.ext e⟩
 | fT kvs=>obtain⟨vs,ob,q,r⟩:=h;exact⟨vs,ob,by rw[same];exact q,r.ext e⟩
 | dI kvs=>obtain⟨vs,q,r⟩:=h;exact⟨vs,by rw[same];exact q,r.ext e⟩
 | dead=>exact h.elim
 | tab=>obtain⟨c,ps,q,r⟩:=h;exact⟨c,ps,by rw[same];exact q,r.map e.frz⟩
theorem Rep.has (r:Rep K ρ st H)(h:ρ.m[n]?=some (some a)):∃x,st[n]?=some x/\OAt K ρ H x a:=by
 have hn:n < st.length:=by rw[← r.len];exact(xbc.mp h).1
 exact⟨st[n],xbe hn,r.obj n a _ h (xbe hn)⟩
theorem Rep.new (r:Rep K ρ st H)(hp:H p=none)(o:HO):Rep K ρ st (upd H p o):=⟨r.len,r.inj,fun m b x e1 e2=>by
 have q:=r.obj m b x e1 e2;obtain⟨u,hu⟩:=q.has;exact q.ext (Ext.new hp o) (zr (zq hu hp)),fun b hb=>by
 obtain⟨⟨u,hu⟩,n⟩:=r.gh b hb
 exact⟨⟨u,by rw[zr (zq hu hp)];exact hu⟩,n⟩,r.live⟩
theorem Rep.wr (r:Rep K ρ st H)(h:ρ.m[n]?=some (some a))(hz:∀ob u,H a≠some (.frz ob u)){x:O}{o:HO}(q:OAt K ρ (upd H a o) x a):Rep K ρ (st.set n x) (upd H a o):=⟨by rw[r.len,xcp],r.inj,fun m b y e1 e2=>by
 by_cases hm:m=n
 ·subst hm;have hb:b=a:=by rw[h] at e1;exact(xcl (xcl e1)).symm
  subst hb;have hl:m < st.length:=by rw[← r.len];exact(xbc.mp h).1
  rw[xdw hl] at e2;cases e2;exact q
 ·rw[xbl (xdv hm)] at e2;refine(r.obj m b y e1 e2).ext (Ext.wr h hz o) (zr fun z=>hm ?_);subst z;exact r.inj m n b e1 h,fun b hb=>by
 obtain⟨⟨u,hu⟩,n1⟩:=r.gh b hb;refine⟨⟨u,?_⟩,n1⟩;rw[zr]
 ·exact hu
 ·rintro rfl;exact n1 (xbo h),fun m y e ne=>by
 by_cases hm:m=n
 ·subst hm;exact⟨a,h⟩
 ·rw[xbl (xdv hm)] at e
  exact r.live m y e ne⟩
theorem Rep.alloc (r:Rep K ρ st H)(hp:H p=none){x:O}{o:HO}(q:Ext ρ H ⟨ρ.m++[some p],ρ.g⟩ (upd H p o)->OAt K ⟨ρ.m++[some p],ρ.g⟩ (upd H p o) x p):Ext ρ H ⟨ρ.m++[some p],ρ.g⟩ (upd H p o)/\Rep K ⟨ρ.m++[some p],ρ.g⟩ (st++[x]) (upd H p o):=by
 have hn:∀(m:Nat) (b:Addr),(ρ.m++[some p])[m]?=some (some b)->(m < ρ.m.length/\ρ.m[m]?=some (some b))\/(m=ρ.m.length/\b=p):=fun m b e=>by
  rcases xge m ρ.m.length with z | z
  ·rw[xbs z] at e;exact .inl ⟨z,e⟩
  ·rw[xco z] at e;have z2:m - ρ.m.length=0:=by
    have:=(xbc.mp e).1;simp at this;lia
   rw[z2] at e;simp at e;exact .inr ⟨by lia,e.symm⟩
 have nl:∀(m:Nat),ρ.m[m]?≠some (some p):=fun m e=>by
  obtain⟨x,_,q⟩:=r.has e;obtain⟨u,hu⟩:=q.has;rw[hp] at hu;cases hu
 have E:Ext ρ H ⟨ρ.m++[some p],ρ.g⟩ (upd H p o):=⟨by rw[xbq];lia,fun m b h e=>by
   rw[xbs h] at e;exact e,fun b u e m=>⟨by rw[zr (zq e hp)];exact e,fun z=>by
   rcases xcg.mp z with z | z
   ·exact m z
   ·simp at z;subst z;rw[hp] at e;cases e⟩,rfl,fun b ob u e=>by rw[zr (zq e hp)];exact e⟩
 refine⟨E,⟨by rw[xbq,xbq,r.len];rfl,fun m k b e1 e2=>?_,fun m b y e1 e2=>?_,fun b hb=>?_,fun m y e ne=>?_⟩⟩
 ·rcases hn m b e1 with⟨h1,q1⟩ | ⟨h1,rfl⟩
  ·rcases hn k b e2 with⟨h2,q2⟩ | ⟨h2,rfl⟩
   ·exact r.inj m k b q1 q2
   ·exact absurd q1 (nl m)
  ·rcases hn k b e2 with⟨h2,q2⟩ | ⟨h2,_⟩
   ·exact absurd q2 (nl k)
   ·lia
 ·rcases hn m b e1 with⟨h1,q1⟩ | ⟨h1,rfl⟩
  ·rw[xbs (by rw[← r.len];exact h1)] at e2;have q:=r.obj m b y q1 e2;obtain⟨u,hu⟩:=q.has;exact q.ext E (zr (zq hu hp))
  ·rw[h1,r.len,xco (xbf _)] at e2;simp at e2;subst e2;exact q E
 ·obtain⟨⟨u,hu⟩,n1⟩:=r.gh b hb;refine⟨⟨u,by rw[zr (zq hu hp)];exact hu⟩,fun z=>?_⟩;rcases xcg.mp z with z | z
  ·exact n1 z
  ·simp at z;subst z;rw[hp] at hu;cases hu
 ·rcases xge m st.length with z | z
  ·rw[xbs z] at e;obtain⟨b,hb⟩:=r.live m y e ne;exact⟨b,by rw[xbs (by rw[r.len];exact z)];exact hb⟩
  ·have z2:=(xbc.mp e).1;simp at z2;have z3:m=ρ.m.length:=by rw[r.len];lia
   exact⟨p,by rw[z3,xco (xbf _)];simp⟩
theorem Rep.kill (r:Rep K ρ st H)(h:n < ρ.m.length):Ext ρ H ⟨ρ.m.set n none,ρ.g⟩ H/\Rep K ⟨ρ.m.set n none,ρ.g⟩ (st.set n .dead) H:=by
 have hn:∀(m:Nat) (b:Addr),(ρ.m.set n none)[m]?=some (some b)->m≠n/\ρ.m[m]?=some (some b):=fun m b e=>by
  by_cases z:m=n
  ·subst z;rw[xdw h] at e;simp at e
  ·rw[xbl (xdv z)] at e;exact⟨z,e⟩
 have E:Ext ρ H ⟨ρ.m.set n none,ρ.g⟩ H:=⟨by rw[xcp];exact xbf _,fun m b _ e=>(hn m b e).2,fun b o e m=>⟨e,fun z=>by
  obtain⟨i,hi,e2⟩:=xea z;have:(ρ.m.set n none)[i]?=some (some b):=by rw[xbe hi,e2]
  exact m (xbo (hn i b this).2)⟩,rfl,fun _ _ _ e=>e⟩
 refine⟨E,⟨by rw[xcp,xcp,r.len],fun m k b e1 e2=>r.inj m k b (hn m b e1).2 (hn k b e2).2,fun m b y e1 e2=>?_,fun b hb=>⟨(r.gh b hb).1,fun z=>?_⟩,fun m y e ne=>?_⟩⟩
 rotate_left
 ·obtain⟨i,hi,e2⟩:=xea z;have:(ρ.m.set n none)[i]?=some (some b):=by rw[xbe hi,e2]
  exact(r.gh b hb).2 (xbo (hn i b this).2)
 ·have z:m≠n:=by
   rintro rfl;rw[xdw (by rw[← r.len];exact h)] at e;cases e;exact ne rfl
  rw[xbl (xdv z)] at e;obtain⟨b,hb⟩:=r.live m y e ne;exact⟨b,by rw[xbl (xdv z)];exact hb⟩
 obtain⟨z,q⟩:=hn m b e1;rw[xbl (xdv z)] at e2;exact(r.obj m b y q e2).ext E rfl
theorem zku (r:Rep K ρ st H)(hp:H p=none):Out ρ p:=by
 refine⟨fun z=>?_,fun z=>?_⟩
 ·obtain⟨i,hi,e⟩:=xea z;obtain⟨x,_,q⟩:=r.has (n:=i) (a:=p) (by rw[xbe hi,e]);obtain⟨u,hu⟩:=q.has;rw[hp] at hu;cases hu
 ·obtain⟨⟨u,hu⟩,_⟩:=r.gh p z;rw[hp] at hu;cases hu
theorem At.newT (r:Rep K ρ st H)(hp:H p=none){ds:List D}{vs:List V}(h:AtAll K ρ H ds vs):At K ρ (upd H p (.tup vs)) (.tup ds) (.ref p):=.tup zbc (zku r hp) (h.ext (Ext.new hp _))
theorem At.newL (r:Rep K ρ st H)(hp:H p=none){ds:List D}{vs:List V}(h:AtAll K ρ H ds vs):At K ρ (upd H p (.lst vs)) (.lst ds) (.ref p):=.lst zbc (zku r hp) (h.ext (Ext.new hp _))
end
noncomputable def eAnd (f f':SE):SE:=fun σ st=>(f σ st).bind fun v st1=>match v with
 | .bl true=>f' σ st1
 | .bl false=>.ok (.bl false) st1
 | _=>.stuck
noncomputable def eOr (f f':SE):SE:=fun σ st=>(f σ st).bind fun v st1=>match v with
 | .bl true=>.ok (.bl true) st1
 | .bl false=>f' σ st1
 | _=>.stuck
noncomputable def eNot (f:SE):SE:=fun σ st=>(f σ st).bind fun v st1=>match v with
 | .bl b=>.ok (.bl (!b)) st1
 | _=>.stuck
noncomputable def bAnd (f f':ST):ST:=fun σ st=>(f σ st).bind fun b st1=>if b=true then f' σ st1 else .ok false st1
noncomputable def bOr (f f':ST):ST:=fun σ st=>(f σ st).bind fun b st1=>if b=true then .ok true st1 else f' σ st1
noncomputable def bNot (f:ST):ST:=fun σ st=>(f σ st).bind fun b st1=>.ok (!b) st1
noncomputable def eIf (c:ST) (f f':SE):SE:=fun σ st=>(c σ st).bind fun b st1=>if b=true then f σ st1 else f' σ st1
section
variable {X:Cx}{a b:Expr}{rest:List Expr}{f f':SE}{t t':ST}{pos:Pos}
theorem zbnv {op}(h:DE X a f):DE X (.BoolOp op [a] pos) f:=zbit h
theorem zbof (ha:DE X a f)(hb:DE X (.BoolOp .And (b::rest) pos) f'):DE X (.BoolOp .And (a::b::rest) pos) (eAnd f f'):=zgt (zbiz ha hb) fun τ H Q hq0=>by
 obtain⟨ρ,σ,st,v,st',at',rp,e,q⟩:=hq0;obtain⟨x,st1,e1,e⟩:=zc e;refine⟨ρ,σ,st,x,st1,at',rp,e1,fun ρ1 H1 u x1 rp1 a1=>?_⟩;cases x<;>try (cases e;done)
 rename_i bb;cases a1;refine⟨bb,rfl,?_⟩;cases bb with
 | true =>
  rw[if_pos rfl];exact⟨ρ1,σ,st1,v,st',at'.ext x1,rp1,e,fun ρ' H' u x2=>q ρ' H' u (x1.trans x2)⟩
 | false =>
  rw[if_neg (by decide)];cases e;exact q _ _ _ x1 rp1 (.bl false)
theorem d_or (ha:DE X a f)(hb:DE X (.BoolOp .Or (b::rest) pos) f'):DE X (.BoolOp .Or (a::b::rest) pos) (eOr f f'):=zgt (zbmu ha hb) fun τ H Q hq0=>by
 obtain⟨ρ,σ,st,v,st',at',rp,e,q⟩:=hq0;obtain⟨x,st1,e1,e⟩:=zc e;refine⟨ρ,σ,st,x,st1,at',rp,e1,fun ρ1 H1 u x1 rp1 a1=>?_⟩;cases x<;>try (cases e;done)
 rename_i bb;cases a1;refine⟨bb,rfl,?_⟩;cases bb with
 | false =>
  rw[if_neg (by decide)];exact⟨ρ1,σ,st1,v,st',at'.ext x1,rp1,e,fun ρ' H' u x2=>q ρ' H' u (x1.trans x2)⟩
 | true =>
  rw[if_pos rfl];cases e;exact q _ _ _ x1 rp1 (.bl true)
theorem zbnw (ha:DE X a f):DE X (.UnaryOp .Not a pos) (eNot f):=zgt (zbiu ha) fun τ H Q hq0=>by
 obtain⟨ρ,σ,st,v,st',at',rp,e,q⟩:=hq0;obtain⟨x,st1,e1,e⟩:=zc e;refine⟨ρ,σ,st,x,st1,at',rp,e1,fun ρ1 H1 u x1 rp1 a1=>?_⟩;cases x<;>try (cases e;done)
 rename_i bb;cases a1;cases e;exact⟨bb,rfl,q _ _ _ x1 rp1 (.bl _)⟩
theorem zbkg {op}(h:DT X a t)(hop:op=.And\/op=.Or):DW X (.BoolOp op [a] pos) t:=by
 rcases hop with rfl | rfl
 ·exact pw_and1 h
 ·exact pw_or1 h
theorem zbkh (ha:DT X a t)(hb:DW X (.BoolOp .And (b::rest) pos) t'):DW X (.BoolOp .And (a::b::rest) pos) (bAnd t t'):=pw_to (pw_and ha hb) fun τ H Q hq0=>by
 obtain⟨ρ,σ,st,v,st',at',rp,e,q⟩:=hq0;obtain⟨x,st1,e1,e⟩:=zc e;refine⟨ρ,σ,st,x,st1,at',rp,e1,fun ρ1 H1 x1 rp1=>?_⟩;cases x with
 | true=>exact iteT ⟨ρ1,σ,st1,v,st',at'.ext x1,rp1,e,fun ρ' H' x2=>q ρ' H' (x1.trans x2)⟩
 | false=>cases e;exact iteF (q _ _ x1 rp1)
theorem zbno (ha:DT X a t)(hb:DW X (.BoolOp .Or (b::rest) pos) t'):DW X (.BoolOp .Or (a::b::rest) pos) (bOr t t'):=pw_to (pw_or ha hb) fun τ H Q hq0=>by
 obtain⟨ρ,σ,st,v,st',at',rp,e,q⟩:=hq0;obtain⟨x,st1,e1,e⟩:=zc e;refine⟨ρ,σ,st,x,st1,at',rp,e1,fun ρ1 H1 x1 rp1=>?_⟩;cases x with
 | false=>exact iteF ⟨ρ1,σ,st1,v,st',at'.ext x1,rp1,e,fun ρ' H' x2=>q ρ' H' (x1.trans x2)⟩
 | true=>cases e;exact iteT (q _ _ x1 rp1)
theorem zbkj (ha:DT X a t):DT X (.UnaryOp .Not a pos) (bNot t):=zbbx (zbii ha) fun τ H Q hq0=>by
 obtain⟨ρ,σ,st,v,st',at',rp,e,q⟩:=hq0;obtain⟨x,st1,e1,e⟩:=zc e;cases e;exact⟨ρ,σ,st,x,_,at',rp,e1,fun ρ1 H1 x1 rp1=>q _ _ x1 rp1⟩
theorem d_if {c:Expr}(hc:DT X c t)(ha:DE X a f)(hb:DE X b f'):DE X (.IfExp c a b pos) (eIf t f f'):=zgt (zzc hc ha hb) fun τ H Q hq0=>by
 obtain⟨ρ,σ,st,v,st',at',rp,e,q⟩:=hq0;obtain⟨x,st1,e1,e⟩:=zc e;refine⟨ρ,σ,st,x,st1,at',rp,e1,fun ρ1 H1 x1 rp1=>?_⟩;cases x with
 | true=>exact iteT ⟨ρ1,σ,st1,v,st',at'.ext x1,rp1,e,fun ρ' H' u x2=>q ρ' H' u (x1.trans x2)⟩
 | false=>exact iteF ⟨ρ1,σ,st1,v,st',at'.ext x1,rp1,e,fun ρ' H' u x2=>q ρ' H' u (x1.trans x2)⟩
end
noncomputable def aC:SA:=fun _ st=>.ok [] st
noncomputable def aB (f:SE) (g:SA):SA:=fun σ st=>(f σ st).bind fun x st1=>(g σ st1).bind fun xs st2=>.ok (x::xs) st2
noncomputable def aR (g:SA):SE:=fun σ st=>(g σ st).bind fun xs st1=>if xs.length<=sizeLine then .ok (.tup xs) st1 else .stuck
noncomputable def eLst (g:SA):SE:=fun σ st=>(g σ st).bind fun xs st1=>if xs.length<=sizeLine then .ok (.lst xs) st1 else .stuck
noncomputable def eLstM (g:SA):SE:=fun σ st=>(g σ st).bind fun xs st1=>if xs.length<=sizeLine then .ok (.ref st1.length) (st1++[.lst xs]) else .stuck
section
variable {X:Cx}{e:Expr}{es:List Expr}{f:SE}{g:SA}{pos:Pos}
theorem zbkt:DA X [] aC:=zbmc zbjc fun τ H Q hq0=>by
 obtain⟨ρ,σ,st,v,st',a,rp,e,q⟩:=hq0;cases e;exact q _ _ _ (.refl _ _) rp .nil
theorem zbgf (ha:DE X e f)(hr:DA X es g)(hs:starEach (e::es) X.env=(false,eval e X.env)::starEach es X.env:=by rfl):DA X (e::es) (aB f g):=zbmc (zbdq ha hr hs) fun τ H Q hq0=>by
 obtain⟨ρ,σ,st,v,st',a,rp,e,q⟩:=hq0;obtain⟨x,st1,e1,e⟩:=zc e;obtain⟨y,st2,e2,e⟩:=zc e;cases e;refine⟨ρ,σ,st,x,st1,a,rp,e1,fun ρ1 H1 u x1 rp1 a1=>?_⟩;exact⟨ρ1,σ,st1,y,_,a.ext x1,rp1,e2,fun ρ2 H2 w x2 rp2 a2=>q _ _ _ (x1.trans x2) rp2 (.cons (a1.ext x2) a2)⟩
theorem zbns {x1}(h:DA X es g):DE X (.Tuple es x1 pos) (aR g):=zgt (zbis h) fun τ H Q hq0=>by
 obtain⟨ρ,σ,st,v,st',a,rp,e,q⟩:=hq0;obtain⟨x,st1,e1,e⟩:=zc e;split at e
 ·rename_i hl;cases e;refine⟨ρ,σ,st,x,_,a,rp,e1,fun ρ1 H1 u x1 rp1 a1=>⟨by rw[a1.length];exact hl,fun p hp=>?_⟩⟩;exact q ρ1 _ _ (x1.trans (Ext.new hp _)) (rp1.new hp _) (.newT rp1 hp a1)
 ·cases e
theorem zbnz (h:DA X es g):DE X (.List es pos) (eLst g):=zgt (zbdl h) fun τ H Q hq0=>by
 obtain⟨ρ,σ,st,v,st',a,rp,e,q⟩:=hq0;obtain⟨x,st1,e1,e⟩:=zc e;split at e
 ·rename_i hl;cases e;refine⟨ρ,σ,st,x,_,a,rp,e1,fun ρ1 H1 u x1 rp1 a1=>⟨by rw[a1.length];exact hl,fun p hp=>?_⟩⟩;exact q ρ1 _ _ (x1.trans (Ext.new hp _)) (rp1.new hp _) (.newL rp1 hp a1)
 ·cases e
theorem At.last {K:Fg}{ρ:Loc}{H:Hp}{p:Addr}{n:Nat}(h:n=ρ.m.length):At K ⟨ρ.m++[some p],ρ.g⟩ H (.ref n) (.ref p):=by
 subst h;refine .ref (by simp) fun a e=>?_
 simp at e;rw[e]
theorem zbkv (h:DA X es g):DE X (.List es pos) (eLstM g):=zgt (zbdl h) fun τ H Q hq0=>by
 obtain⟨ρ,σ,st,v,st',a,rp,e,q⟩:=hq0;obtain⟨x,st1,e1,e⟩:=zc e;split at e
 ·rename_i hl;cases e;refine⟨ρ,σ,st,x,_,a,rp,e1,fun ρ1 H1 u x1 rp1 a1=>⟨by rw[a1.length];exact hl,fun p hp=>?_⟩⟩;obtain⟨E,R⟩:=rp1.alloc hp (x:=.lst x) (o:=.lst u) fun E=>⟨u,zbc,a1.ext E⟩
  exact q _ _ _ (x1.trans E) R (.last rp1.len.symm)
 ·cases e
end
noncomputable def asL (st:Store):D->Option (List D)
 | .lst xs=>some xs
 | .ref n=>match st[n]? with
  | some (.lst xs)=>some xs
  | _=>none
 | _=>none
section
variable {K:Fg}{ρ:Loc}{st:Store}{H:Hp}{d:D}{u:V}{xs:List D}
theorem zes (rp:Rep K ρ st H){n:Nat}{o:O}(a:At K ρ H (.ref n) u)(e:st[n]?=some o)(hd:o≠.dead):∃p,u=.ref p/\ρ.m[n]?=some (some p)/\OAt K ρ H o p:=by
 cases a with
 | ref h1 h2 =>
  obtain⟨p,hp⟩:=rp.live n o e hd;exact⟨p,h2 p hp,hp,rp.obj n p o hp e⟩
theorem zjc (rp:Rep K ρ st H)(a:At K ρ H d u)(e:asL st d=some xs):∃p vs,u=.ref p/\H p=some (.lst vs)/\AtAll K ρ H xs vs:=by
 cases d<;>try (cases e;done)
 ·rename_i n;unfold asL at e;dsimp only at e;split at e
  ·rename_i ys hys;cases e;obtain⟨p,rfl,hp,vs,q1,q2⟩:=zes rp a hys (by intro z;cases z);exact⟨p,vs,rfl,q1,q2⟩
  ·cases e
 ·cases e;cases a with
  | lst h1 h2 h3=>exact⟨_,_,rfl,h1,h3⟩
end
noncomputable def oI (C:Int->Int->Prop) [DecidableRel C] (h:Int->Int->D) (x y:D) (st:Store):Res D:=match x,y with
 | .int i,.int j=>if C i j then .ok (h i j) st else .stuck
 | _,_=>.stuck
theorem oI_D {K:Fg}{C:Int->Int->Prop}[DecidableRel C]{h:Int->Int->D}{g:Int->Int->V}(k:∀i j ρ H,At K ρ H (h i j) (g i j)):OpD K (oI C h) (rI C g):=fun ρ H st x y u v z st' Q rp a b e q=>by
 unfold oI at e;split at e
 ·cases a;cases b;split at e
  ·rename_i hc;cases e;exact⟨_,_,rfl,rfl,hc,q _ _ _ (.refl _ _) rp (k _ _ _ _)⟩
  ·cases e
 ·cases e
theorem zjs {K:Fg}{h:Int->Int->D}{g:Int->Int->V}(k:∀i j ρ H,At K ρ H (h i j) (g i j)):OpD K (oI (fun _ _=>True) h) (rI0 g):=fun ρ H st x y u v z st' Q rp a b e q=>by
 obtain⟨i,j,e1,e2,_,e3⟩:=oI_D (C:=fun _ _=>True) k ρ H st x y u v z st' Q rp a b e q;exact⟨i,j,e1,e2,e3⟩
noncomputable instance:DecidableRel CMul:=fun i j=>by unfold CMul;infer_instance
noncomputable instance:DecidableRel CDivP:=fun i j=>by unfold CDivP;infer_instance
noncomputable instance:DecidableRel CPow:=fun i j=>by unfold CPow;infer_instance
noncomputable abbrev oSub:=oI (fun _ _=>True) fun i j=>.int (i - j)
noncomputable abbrev oFdiv:=oI CDivP fun i j=>.int (i / j)
noncomputable abbrev oMod:=oI (fun _ j=>0 < j) fun i j=>.int (i % j)
noncomputable abbrev oAndI:=oI (fun _ _=>True) fun i j=>.int (Builtin.bitAnd i j)
noncomputable abbrev oPow:=oI CPow fun i j=>.int (i ^ j.toNat)
noncomputable abbrev oMulI:=oI CMul fun i j=>.int (i * j)
noncomputable def aM (x y:D) (st:Store):Res D:=match x,y with
 | .int i,.int j=>.ok (.int (i+j)) st
 | .tup a,.tup b=>if a.length+b.length<=sizeLine then .ok (.tup (a++b)) st else .stuck
 | .str a,.str b=>if a.length+b.length<=sizeLine then .ok (.str (a++b)) st else .stuck
 | x,y=>match asL st x,asL st y with
  | some a,some b=>if a.length+b.length<=sizeLine then .ok (.lst (a++b)) st else .stuck
  | _,_=>.stuck
noncomputable abbrev rAddA (K:Fg):R2:=fun x y H Q=>rI0 (fun i j=>.int (i+j)) x y H Q\/rCatA K x y H Q\/(∃i j,x=.str i/\y=.str j/\i.length+j.length<=sizeLine/\Q (.str (i++j)) H)\/rCat x y H Q
section
variable {X:Cx}
theorem zbi:OpR X (binaryOp .Add) (rAddA X.K):=zbji.or (zbdv.or (zsd.or zbjg))
theorem zcp {K:Fg}:OpD K aM (rAddA K):=fun ρ H st x y u v z st' Q rp a b e q=>by
 unfold aM at e;split at e
 ·cases a;cases b;cases e;exact .inl ⟨_,_,rfl,rfl,q _ _ _ (.refl _ _) rp (.int _)⟩
 ·rename_i ds es;split at e
  ·rename_i hl;cases e;refine .inr (.inl ?_);cases a with
   | tup h1 h2 h3 =>
    cases b with
    | tup k1 k2 k3 =>
     refine⟨_,_,_,_,rfl,rfl,SqT.of h1,SqT.of k1,by rw[h3.length,k3.length];exact hl,fun z=>?_,fun z1 z2=>?_,fun z1 z2 p hp=>?_⟩
     ·subst z;cases h3;exact q _ _ _ (.refl _ _) rp (.tup k1 k2 k3)
     ·subst z2;cases k3;rw[xet] at q;exact q _ _ _ (.refl _ _) rp (.tup h1 h2 h3)
     ·exact q _ _ _ (Ext.new hp _) (rp.new hp _) (.newT rp hp (h3.append k3))
  ·cases e
 ·split at e
  ·rename_i hl;cases a;cases b;cases e;exact .inr (.inr (.inl ⟨_,_,rfl,rfl,hl,q _ _ _ (.refl _ _) rp (.str _)⟩))
  ·cases e
 ·split at e
  ·rename_i h1 h2;split at e
   ·rename_i hl;cases e;obtain⟨p,vs,rfl,g1,g2⟩:=zjc rp a h1;obtain⟨p',ws,rfl,k1,k2⟩:=zjc rp b h2;exact .inr (.inr (.inr ⟨_,_,_,_,rfl,rfl,g1,k1,by rw[g2.length,k2.length];exact hl,fun t ht=>q _ _ _ (Ext.new ht _) (rp.new ht _) (.newL rp ht (g2.append k2))⟩))
   ·cases e
  ·cases e
end
noncomputable abbrev oLe:=oI (fun _ _=>True) fun i j=>.bl (decide (i<=j))
noncomputable abbrev oGt:=oI (fun _ _=>True) fun i j=>.bl (decide (j < i))
mutual
noncomputable def toData:D->Option PyData
 | .non=>some .none
 | .bl b=>some (.bool b)
 | .int i=>some (.int i)
 | .str x=>some (.str x)
 | .tup ds=>(toDatas ds).map .tuple
 | .lst ds=>(toDatas ds).map .list
 | _=>none
noncomputable def toDatas:List D->Option (List PyData)
 | []=>some []
 | d::ds=>(toData d).bind fun x=>(toDatas ds).map fun xs=>x::xs
end
mutual
theorem zxw {K:Fg}{ρ:Loc}{H:Hp}:∀{d:D} {v:V} {p:PyData},At K ρ H d v->toData d=some p->DAt K H v p
 | _,_,_,.non,e=>by cases e;exact .non
 | _,_,_,.bl b,e=>by cases e;exact .bl b
 | _,_,_,.int i,e=>by cases e;exact .int i
 | _,_,_,.str x,e=>by cases e;exact .str x
 | _,_,_,.ty n,e=>by cases e
 | _,_,_,.exn _,e=>by cases e
 | _,_,_,.ref _ _,e=>by cases e
 | _,_,_,.tup h _ al,e=>by
  rw[toData] at e;obtain⟨ps,e1,rfl⟩:=xcv.mp e;exact .tup (SqT.of h) (zlj al e1)
 | _,_,_,.lst h _ al,e=>by
  rw[toData] at e;obtain⟨ps,e1,rfl⟩:=xcv.mp e;exact .lst (SqL.of h) (zlj al e1)
 | _,_,_,.scr _ _,e=>by cases e
theorem zlj {K:Fg}{ρ:Loc}{H:Hp}:∀{d:List D} {v:List V} {p:List PyData},AtAll K ρ H d v->toDatas d=some p->DAll K H v p
 | _,_,_,.nil,e=>by cases e;exact .nil
 | _,_,_,.cons a b,e=>by
  rw[toDatas] at e;obtain⟨x,e1,e⟩:=xfc.mp e;obtain⟨xs,e2,rfl⟩:=xcv.mp e;exact .cons (zxw a e1) (zlj b e2)
end
noncomputable def now (st:Store) (d:D):D:=match asL st d with
 | some xs=>.lst xs
 | none=>d
noncomputable def dataOf (st:Store) (d:D):Option PyData:=toData (now st d)
theorem zpn {K:Fg}{ρ:Loc}{st:Store}{H:Hp}(rp:Rep K ρ st H){d:D}{u:V}{p:PyData}(a:At K ρ H d u)(e:dataOf st d=some p):DAt K H u p:=by
 unfold dataOf now at e;split at e
 ·rename_i xs hx;obtain⟨q,vs,rfl,h1,h2⟩:=zjc rp a hx;rw[toData] at e;obtain⟨ps,e1,rfl⟩:=xcv.mp e;exact .lst (SqL.of h1) (zlj h2 e1)
 ·exact zxw a e
noncomputable def oEqG (neg:Bool) (x y:D) (st:Store):Res D:=match dataOf st x,dataOf st y with
 | some a,some b=>if PySem.SeqAt.shaped a=true/\PySem.SeqAt.shaped b=true then .ok (.bl (if neg then !PyData.eqv a b else PyData.eqv a b)) st else .stuck
 | _,_=>.stuck
theorem zbed {K:Fg}{neg:Bool}:OpD K (oEqG neg) (rEqX K neg):=fun ρ H st x y u v z st' Q rp a b e q=>by
 unfold oEqG at e;split at e
 ·rename_i p1 p2 h1 h2;split at e
  ·rename_i hs;cases e;exact⟨_,_,zpn rp a h1,zpn rp b h2,hs.1,hs.2,q _ _ _ (.refl _ _) rp (.bl _)⟩
  ·cases e
 ·cases e
noncomputable abbrev oEq:=oEqG false
noncomputable abbrev oNe:=oEqG true
noncomputable def oIsN (neg:Bool) (x y:D) (st:Store):Res D:=match x,y with
 | .ref _,_=>.stuck
 | .non,.non=>.ok (.bl (!neg)) st
 | _,.non=>.ok (.bl neg) st
 | _,_=>.stuck
theorem zbeb {K:Fg}:OpD K (oIsN true) (fun x y H Q=>y=.non/\Q (.bl (!decide (x=.non))) H):=fun ρ H st x y u v z st' Q rp a b e q=>by
 unfold oIsN at e;split at e<;>try (cases e;done)
 ·cases a;cases b;cases e
  exact⟨rfl,q _ _ _ (.refl _ _) rp (by simp;exact .bl _)⟩
 ·rename_i h1 h2;cases b;cases e
  refine⟨rfl,q _ _ _ (.refl _ _) rp ?_⟩;have:u≠.non:=by
   rintro rfl;cases a<;>first | exact h2 rfl | exact h1 _ rfl
  rw[xbu this];exact .bl _
noncomputable def asInts:List D->Option (List Int)
 | []=>some []
 | .int i::r=>(asInts r).map (i::·)
 | _::_=>none
theorem zfc {K:Fg}{ρ:Loc}{H:Hp}:∀{ds:List D} {vs:List V} {ns:List Int},AtAll K ρ H ds vs->asInts ds=some ns->vs=ns.map V.int
 | _,_,_,.nil,e=>by cases e;rfl
 | _,_,_,.cons (d:=d) a b,e=>by
  cases d<;>try (cases e;done)
  rw[asInts] at e;obtain⟨ms,e1,rfl⟩:=xcv.mp e;cases a;rw[zfc b e1]
  rfl
noncomputable def oLtT (x y:D) (st:Store):Res D:=match x,y with
 | .int i,.int j=>.ok (.bl (decide (i < j))) st
 | .tup a,.tup b=>match asInts a,asInts b with
  | some ns,some ms=>.ok (.bl (HT.lexLt ns ms)) st
  | _,_=>.stuck
 | _,_=>.stuck
noncomputable abbrev rLtA (K:Fg):R2:=fun x y H Q=>rI0 (fun i j=>.bl (decide (i < j))) x y H Q\/rLtT K x y H Q
theorem zqd {X:Cx}(hu:X.A.units < cLine):OpR X (compareOp .Lt) (rLtA X.K):=zbmz.or (zbjf hu)
theorem zqm {K:Fg}:OpD K oLtT (rLtA K):=fun ρ H st x y u v z st' Q rp a b e q=>by
 unfold oLtT at e;split at e
 ·cases a;cases b;cases e
  exact .inl ⟨_,_,rfl,rfl,q _ _ _ (.refl _ _) rp (.bl _)⟩
 ·split at e
  ·rename_i h1 h2;cases e;cases a with
   | tup g1 g2 g3 =>
    cases b with
    | tup k1 k2 k3 =>
     have e1:=zfc g3 h1;have e2:=zfc k3 h2;subst e1 e2;exact .inr ⟨_,_,_,_,rfl,rfl,SqT.of g1,SqT.of k1,q _ _ _ (.refl _ _) rp (.bl _)⟩
  ·cases e
 ·cases e
noncomputable def seqOf (st:Store):D->Option (List D)
 | .tup xs=>some xs
 | .scr xs=>some xs
 | d=>asL st d
theorem zmx {K:Fg}{ρ:Loc}{st:Store}{H:Hp}(rp:Rep K ρ st H){d:D}{u:V}{xs:List D}(a:At K ρ H d u)(e:seqOf st d=some xs) :
  ∃p vs,u=.ref p/\(SqL K H p vs\/SqT K H p vs)/\AtAll K ρ H xs vs:=by
 unfold seqOf at e;split at e
 ·cases e;cases a with
  | tup h1 h2 h3=>exact⟨_,_,rfl,.inr (SqT.of h1),h3⟩
 ·cases e;cases a with
  | scr h1 h3=>exact⟨_,_,rfl,.inl h1.sq,h3⟩
 ·obtain⟨p,vs,rfl,h1,h2⟩:=zjc rp a e;exact⟨p,vs,rfl,.inl (SqL.of h1),h2⟩
theorem AtAll.atI {K:Fg}{ρ:Loc}{H:Hp}{ds:List D}{vs:List V}{i:Int}{d:D}(h:AtAll K ρ H ds vs)(e:L2.atI ds i=some d):∃v,L2.atI vs i=some v/\At K ρ H d v:=by
 unfold L2.atI at e ⊢;rw[h.length];cases hi:ixN ds.length i with
 | none=>rw[hi] at e;cases e
 | some j =>
  rw[hi] at e;obtain⟨v,e1,e2⟩:=h.get (i:=j) e;exact⟨v,e1,e2⟩
noncomputable def oIx (x y:D) (st:Store):Res D:=match seqOf st x,y with
 | some xs,.int i=>match L2.atI xs i with
  | some v=>.ok v st
  | none=>.stuck
 | _,_=>.stuck
theorem zbne {K:Fg}:OpD K oIx (rIx K):=fun ρ H st x y u v z st' Q rp a b e q=>by
 unfold oIx at e;split at e
 ·rename_i h1;split at e
  ·rename_i w hw;cases e;cases b;obtain⟨p,vs,rfl,h2,h3⟩:=zmx rp a h1;obtain⟨w',e2,a2⟩:=h3.atI hw;rcases h2 with h2 | h2
   ·exact .inl ⟨_,_,_,_,rfl,rfl,h2,e2,q _ _ _ (.refl _ _) rp a2⟩
   ·exact .inr (.inl ⟨_,_,_,_,rfl,rfl,h2,e2,q _ _ _ (.refl _ _) rp a2⟩)
  ·cases e
 ·cases e
noncomputable def cutD (xs:List D) (lo hi:Option Int):List D:=(xs.drop (HT.sIx xs.length 0 lo)).take (HT.sIx xs.length xs.length hi - HT.sIx xs.length 0 lo)
theorem AtAll.cut {K:Fg}{ρ:Loc}{H:Hp}{ds:List D}{vs:List V}(h:AtAll K ρ H ds vs)(lo hi:Option Int):AtAll K ρ H (cutD ds lo hi) (cutV vs lo hi):=by
 unfold cutD cutV;rw[h.length];exact(h.drop _).take _
noncomputable def pNone:DS->Store->Res (Option Int):=fun _ st=>.ok none st
noncomputable def pSome (f:SE):DS->Store->Res (Option Int):=fun σ st=>(f σ st).bind fun v st1=>match v with
 | .int i=>.ok (some i) st1
 | _=>.stuck
noncomputable def eSl (f:SE) (lo hi:DS->Store->Res (Option Int)):SE:=fun σ st=>(f σ st).bind fun x st1=>(lo σ st1).bind fun l st2=>(hi σ st2).bind fun h st3=>match x with
 | .tup xs=>.ok (.tup (cutD xs l h)) st3
 | x=>match asL st3 x with
  | some xs=>.ok (.lst (cutD xs l h)) st3
  | none=>.stuck
noncomputable def tDO (K:Fg) (f:DS->Store->Res (Option Int)):TO:=fun τ H Q=>∃ρ σ st v st',AtS K ρ H σ τ/\Rep K ρ st H/\f σ st=.ok v st'/\∀ρ' H',Ext ρ H ρ' H'->Rep K ρ' st' H'->Q v H'
noncomputable abbrev DO (X:Cx) (e:Option Expr) (f:DS->Store->Res (Option Int)):Prop:=PO X e (tDO X.K f)
section
variable {X:Cx}{a b e:Expr}{f f':SE}{pos:Pos}{lo hi:Option Expr}{l h:DS->Store->Res (Option Int)}
theorem zbma {t t':TO}{e:Option Expr}(h:PO X e t)(k:∀σ H Q,t' σ H Q->t σ H Q):PO X e t':=fun aU s σ H Q I q=>h aU s σ H Q I (k _ _ _ q)
theorem zbfw:DO X none pNone:=zbma zbdd fun τ H Q hq0=>by
 obtain⟨ρ,σ,st,v,st',a,rp,e,q⟩:=hq0;cases e;exact q _ _ (.refl _ _) rp
theorem zbfv (he:DE X e f):DO X (some e) (pSome f):=zbma (zbdc he) fun τ H Q hq0=>by
 obtain⟨ρ,σ,st,v,st',a,rp,e,q⟩:=hq0;obtain⟨x,st1,e1,e⟩:=zc e;refine⟨ρ,σ,st,x,st1,a,rp,e1,fun ρ1 H1 u x1 rp1 a1=>?_⟩;cases x<;>try (cases e;done)
 cases e;cases a1;exact⟨_,rfl,q _ _ x1 rp1⟩
theorem d_ix (ha:DE X a f)(hb:DE X b f')(hs:PlainIx b):DE X (.Subscript a b pos) (aS oIx f f'):=zgt (zbmw zbjy ha hb hs) (zbhj zbne)
theorem d_sl {p2:Pos}(he:DE X e f)(hl:DO X lo l)(hu:DO X hi h):DE X (.Subscript e (.Slice lo hi none p2) pos) (eSl f l h):=zgt (zzb (zbcp.or zbcq) he hl hu) fun τ H Q hq0=>by
 obtain⟨ρ,σ,st,v,st',a,rp,e,q⟩:=hq0;obtain⟨x,st1,e1,e⟩:=zc e;obtain⟨y,st2,e2,e⟩:=zc e;obtain⟨z,st3,e3,e⟩:=zc e;refine⟨ρ,σ,st,x,st1,a,rp,e1,fun ρ1 H1 u x1 rp1 a1=>?_⟩;refine⟨ρ1,σ,st1,y,st2,a.ext x1,rp1,e2,fun ρ2 H2 x2 rp2=>?_⟩;refine⟨ρ2,σ,st2,z,st3,a.ext (x1.trans x2),rp2,e3,fun ρ3 H3 x3 rp3=>?_⟩;have a3:=a1.ext (x2.trans x3);have X3:=x1.trans (x2.trans x3);split at e
 ·cases e;refine .inl ?_;cases a3 with
  | tup h1 h2 h3 =>
   refine⟨_,_,rfl,SqT.of h1,fun ec=>?_,fun p hp=>?_⟩
   ·refine q _ _ _ X3 rp3 (.tup h1 h2 ?_);have:=h3.cut y z;rw[ec] at this;exact this
   ·exact q _ _ _ (X3.trans (Ext.new hp _)) (rp3.new hp _) (.newT rp3 hp (h3.cut y z))
 ·split at e
  ·rename_i xs hx;cases e;obtain⟨p,vs,rfl,g1,g2⟩:=zjc rp3 a3 hx;exact .inr ⟨_,_,rfl,SqL.of g1,fun p hp=>q _ _ _ (X3.trans (Ext.new hp _)) (rp3.new hp _) (.newL rp3 hp (g2.cut y z))⟩
  ·cases e
end
end Dd
namespace Dd
open PySem L2
noncomputable def aE (g:List D->Store->Res D) (f:SA):SE:=fun σ st=>(f σ st).bind fun xs st1=>g xs st1
noncomputable def CaD (K:Fg) (g:List D->Store->Res D) (r:List V->Hp->VK->Prop):Prop :=
 ∀ρ H st xs us z st' (Q:VK),Rep K ρ st H->AtAll K ρ H xs us->g xs st=.ok z st'->(∀ρ' H' w,Ext ρ H ρ' H'->Rep K ρ' st' H'->At K ρ' H' z w->Q w H')->r us H Q
theorem zbmk {K:Fg}{g:List D->Store->Res D}{r:List V->Hp->VK->Prop}(hr:CaD K g r){f:SA}:∀τ H Q,tD K (aE g f) τ H Q->tCB r (tDA K f) τ H Q:=fun τ H Q hq0=>by
 obtain⟨ρ,σ,st,v,st',a,rp,e,q⟩:=hq0;obtain⟨x,st1,e1,e⟩:=zc e;exact⟨ρ,σ,st,x,st1,a,rp,e1,fun ρ1 H1 u x1 rp1 a1=>hr ρ1 H1 st1 x u v st' Q rp1 a1 e fun ρ' H' w x2=>q ρ' H' w (x1.trans x2)⟩
section
variable {X:Cx}{x:Str}{p pos:Pos}{e:Expr}{es:List Expr}{f:SA}{id T:String}{r:List V->Hp->VK->Prop}{g:List D->Store->Res D}
theorem zbgl (hc:CallR X (.builtin id) r)(hr:CaD X.K g r)(hg:Gl X x)(hm:X.mg x=none)(hv:bootBuiltins x=some (.builtin id))(ha:DA X (e::es) f)(hn:x≠"__name__":=by decide)(hdb:(x==("__debug__" : Str))=false:=by decide)
 (he:starEach (e::es) X.env=(false,eval e X.env)::starEach es X.env:=by rfl)(hpl:(backTo pos (starEach es X.env)).any (·.1)=false:=by rfl):DE X (.Call (.Name x p) (e::es) [] pos) (aE g f):=zgt (zzi hc hg hm hv ha hn hdb he hpl) (zbmk hr)
theorem zbbh (hc:CallR X (.type T) r)(hr:CaD X.K g r)(hg:Gl X x)(hm:X.mg x=none)(hv:bootBuiltins x=some (.type T))(ha:DA X (e::es) f)(hn:x≠"__name__":=by decide)(hdb:(x==("__debug__" : Str))=false:=by decide)
 (he:starEach (e::es) X.env=(false,eval e X.env)::starEach es X.env:=by rfl)(hpl:(backTo pos (starEach es X.env)).any (·.1)=false:=by rfl):DE X (.Call (.Name x p) (e::es) [] pos) (aE g f):=zgt (zvi hc hg hm hv ha hn hdb he hpl) (zbmk hr)
end
theorem AtAll.one {K:Fg}{ρ:Loc}{H:Hp}{d:D}{us:List V}(h:AtAll K ρ H [d] us):∃u,us=[u]/\At K ρ H d u:=by
 cases h with
 | cons a b=>cases b;exact⟨_,rfl,a⟩
theorem AtAll.two {K:Fg}{ρ:Loc}{H:Hp}{d e:D}{us:List V}(h:AtAll K ρ H [d,e] us):∃u v,us=[u,v]/\At K ρ H d u/\At K ρ H e v:=by
 cases h with
 | cons a b =>
  obtain⟨v,rfl,c⟩:=b.one;exact⟨_,_,rfl,a,c⟩
noncomputable def bLen:List D->Store->Res D:=fun xs st=>match xs with
 | [x]=>match seqOf st x with
  | some ys=>.ok (.int ys.length) st
  | none=>.stuck
 | _=>.stuck
theorem ziv {K:Fg}:CaD K bLen (fun xs H Q=>∃p ys,xs=[.ref p]/\(SqL K H p ys\/SqT K H p ys)/\Q (.int ys.length) H):=fun ρ H st xs us z st' Q rp aa e q=>by
 unfold bLen at e;split at e
 ·split at e
  ·rename_i h;cases e;obtain⟨u,rfl,a⟩:=aa.one;obtain⟨p,vs,rfl,h1,h2⟩:=zmx rp a h;refine⟨p,vs,rfl,h1,?_⟩;rw[h2.length];exact q _ _ _ (.refl _ _) rp (.int _)
  ·cases e
 ·cases e
noncomputable def bAbs:List D->Store->Res D:=fun xs st=>match xs with
 | [.int i]=>.ok (.int (if i < 0 then -i else i)) st
 | _=>.stuck
theorem zblr {K:Fg}:CaD K bAbs (fun xs H Q=>∃i,xs=[.int i]/\Q (.int (if i < 0 then -i else i)) H):=fun ρ H st xs us z st' Q rp aa e q=>by
 unfold bAbs at e;split at e
 ·cases e;obtain⟨u,rfl,a⟩:=aa.one;cases a;exact⟨_,rfl,q _ _ _ (.refl _ _) rp (.int _)⟩
 ·cases e
noncomputable def b2I (g:Int->Int->Int):List D->Store->Res D:=fun xs st=>match xs with
 | [.int i,.int j]=>.ok (.int (g i j)) st
 | _=>.stuck
theorem zbls {K:Fg}{g:Int->Int->Int}:CaD K (b2I g) (fun xs H Q=>∃i j,xs=[.int i,.int j]/\Q (.int (g i j)) H):=fun ρ H st xs us z st' Q rp aa e q=>by
 unfold b2I at e;split at e
 ·cases e;obtain⟨u,v,rfl,a,b⟩:=aa.two;cases a;cases b;exact⟨_,_,rfl,q _ _ _ (.refl _ _) rp (.int _)⟩
 ·cases e
noncomputable abbrev bMin2:=b2I fun i j=>if j < i then j else i
noncomputable def bSum:List D->Store->Res D:=fun xs st=>match xs with
 | [x]=>match (seqOf st x).bind asInts with
  | some ns=>.ok (.int ns.sum) st
  | none=>.stuck
 | _=>.stuck
theorem zbha {K:Fg}:CaD K bSum (rSum K):=fun ρ H st xs us z st' Q rp aa e q=>by
 unfold bSum at e;split at e
 ·split at e
  ·rename_i ns h;cases e;obtain⟨ys,h0,h⟩:=xfc.mp h;obtain⟨u,rfl,a⟩:=aa.one;obtain⟨p,vs,rfl,h1,h2⟩:=zmx rp a h0;have e:=zfc h2 h;subst e;exact⟨p,ns,rfl,h1,q _ _ _ (.refl _ _) rp (.int _)⟩
  ·cases e
 ·cases e
noncomputable def asBools:List D->Option (List Bool)
 | []=>some []
 | .bl i::r=>(asBools r).map (i::·)
 | _::_=>none
theorem zmp {K:Fg}{ρ:Loc}{H:Hp}:∀{ds:List D} {vs:List V} {ns:List Bool},AtAll K ρ H ds vs->asBools ds=some ns->vs=ns.map V.bl
 | _,_,_,.nil,e=>by cases e;rfl
 | _,_,_,.cons (d:=d) a b,e=>by
  cases d<;>try (cases e;done)
  rw[asBools] at e;obtain⟨ms,e1,rfl⟩:=xcv.mp e;cases a;rw[zmp b e1]
  rfl
noncomputable def bAny (al:Bool):List D->Store->Res D:=fun xs st=>match xs with
 | [x]=>match (asL st x).bind asBools with
  | some bs=>.ok (.bl (if al then bs.all id else bs.any id)) st
  | none=>.stuck
 | _=>.stuck
theorem zbhd {K:Fg}{al:Bool}:CaD K (bAny al) (rAny K al):=fun ρ H st xs us z st' Q rp aa e q=>by
 unfold bAny at e;split at e
 ·split at e
  ·rename_i ns h;cases e;obtain⟨ys,h0,h⟩:=xfc.mp h;obtain⟨u,rfl,a⟩:=aa.one;obtain⟨p,vs,rfl,h1,h2⟩:=zjc rp a h0;have e:=zmp h2 h;subst e;exact⟨p,ns,rfl,SqL.of h1,q _ _ _ (.refl _ _) rp (.bl _)⟩
  ·cases e
 ·cases e
noncomputable def tyName (st:Store):D->Option String
 | .non=>some "NoneType"
 | .bl _=>some "bool"
 | .int _=>some "int"
 | .str _=>some "str"
 | .tup _=>some "tuple"
 | .lst _=>some "list"
 | .ref n=>match st[n]? with
  | some (.lst _)=>some "list"
  | some (.dT _)=>some "dict"
  | _=>none
 | _=>none
noncomputable def isTy (t T:String):Bool:=t==T||(t=="bool"&&T=="int")
noncomputable def bIsinst:List D->Store->Res D:=fun xs st=>match xs with
 | [x,.ty T]=>match tyName st x with
  | some t=>if["int", "bool", "str", "tuple", "list", "dict"].contains T=true then .ok (.bl (isTy t T)) st else .stuck
  | none=>.stuck
 | _=>.stuck
theorem zun {K:Fg}{ρ:Loc}{st:Store}{H:Hp}(rp:Rep K ρ st H){d:D}{u:V}{t:String}(a:At K ρ H d u)(e:tyName st d=some t):TyOf K H u (.type t)/\t∈["NoneType", "bool", "int", "str", "tuple", "list", "dict"]:=by
 cases d<;>try (cases e;done)
 ·cases e;cases a;exact⟨.non,by simp⟩
 ·cases e;cases a;exact⟨.bl _,by simp⟩
 ·cases e;cases a;exact⟨.int _,by simp⟩
 ·cases e;cases a;exact⟨.str _,by simp⟩
 ·unfold tyName at e;dsimp only at e;split at e
  ·rename_i h;cases e;obtain⟨p,rfl,hp,vs,q1,q2⟩:=zes rp a h (by intro z;cases z);exact⟨.lst q1,by simp⟩
  ·rename_i h;cases e;obtain⟨p,rfl,hp,vs,q1,q2⟩:=zes rp a h (by intro z;cases z);exact⟨.dT q1,by simp⟩
  ·cases e
 ·cases e;cases a with
  | tup h1 h2 h3=>exact⟨.tup h1,by simp⟩
 ·cases e;cases a with
  | lst h1 h2 h3=>exact⟨.lst h1,by simp⟩
theorem zbjr {K:Fg}{t T:String}(ht:t∈["NoneType", "bool", "int", "str", "tuple", "list", "dict"])(hT:T∈["int", "bool", "str", "tuple", "list", "dict"]):W.kitOne K (.type t) (.type T)=some (isTy t T):=by
 simp only[xbr,xkt,or_false] at ht hT;rcases ht with rfl | rfl | rfl | rfl | rfl | rfl | rfl<;>rcases hT with rfl | rfl | rfl | rfl | rfl | rfl<;>rfl
theorem zef {K:Fg}:CaD K bIsinst (fun xs H Q=>∃x T t b,xs=[x,.ty T]/\TyOf K H x t/\W.kitOne K t (.type T)=some b/\Q (.bl b) H):=fun ρ H st xs us z st' Q rp aa e q=>by
 unfold bIsinst at e;split at e
 ·split at e
  ·rename_i h;split at e
   ·rename_i hT;cases e;obtain⟨u,v,rfl,a,b⟩:=aa.two;cases b;obtain⟨h1,h2⟩:=zun rp a h;exact⟨_,_,_,_,rfl,h1,zbjr h2 (by simpa using hT),q _ _ _ (.refl _ _) rp (.bl _)⟩
   ·cases e
  ·cases e
 ·cases e
noncomputable def bTuple:List D->Store->Res D:=fun xs st=>match xs with
 | [.tup ys]=>.ok (.tup ys) st
 | [x]=>match asL st x with
  | some ys=>.ok (.tup ys) st
  | none=>.stuck
 | _=>.stuck
theorem zfn {K:Fg}:CaD K bTuple (fun xs H Q=>∃p ys,xs=[.ref p]/\((SqL K H p ys/\∀l,H l=none->Q (.ref l) (upd H l (.tup ys)))\/(SqT K H p ys/\Q (.ref p) H))):=fun ρ H st xs us z st' Q rp aa e q=>by
 unfold bTuple at e;split at e
 ·cases e;obtain⟨u,rfl,a⟩:=aa.one;cases a with
  | tup h1 h2 h3=>exact⟨_,_,rfl,.inr ⟨SqT.of h1,q _ _ _ (.refl _ _) rp (.tup h1 h2 h3)⟩⟩
 ·split at e
  ·rename_i h;cases e;obtain⟨u,rfl,a⟩:=aa.one;obtain⟨p,vs,rfl,h1,h2⟩:=zjc rp a h;exact⟨_,_,rfl,.inl ⟨SqL.of h1,fun l hl=>q _ _ _ (Ext.new hl _) (rp.new hl _) (.newT rp hl h2)⟩⟩
  ·cases e
 ·cases e
noncomputable def bList:List D->Store->Res D:=fun xs st=>match xs with
 | [x]=>match seqOf st x with
  | some ys=>.ok (.lst ys) st
  | none=>.stuck
 | _=>.stuck
noncomputable abbrev aL (ns:List Int):D:=.tup (ns.map .int)
noncomputable abbrev aJ (l:List (List Int)):List D:=l.map aL
noncomputable def insR (a:List Int):List (List Int)->List (List Int)
 | []=>[a]
 | b::r=>if HT.lexLt b a=true then b::insR a r else a::b::r
noncomputable def sortR:List (List Int)->List (List Int)
 | []=>[]
 | a::r=>insR a (sortR r)
noncomputable abbrev UpR (l:List (List Int)):Prop:=l.Pairwise fun a b=>HT.lexLt b a=false
theorem zla (a:List Int):∀l,(insR a l).Perm (a::l)
 | []=>.refl _
 | b::r=>by
  unfold insR;split
  ·exact(List.Perm.cons b (zla a r)).trans (.swap a b r)
  ·exact .refl _
theorem zbb:∀l,(sortR l).Perm l
 | []=>.refl _
 | a::r=>(zla a _).trans (.cons a (zbb r))
theorem znr {a b c:List Int}(h1:HT.lexLt b a=false)(h2:HT.lexLt c b=false):HT.lexLt c a=false:=by
 cases h:HT.lexLt c a with
 | false=>rfl
 | true =>
  rcases Srt.zow a b with z | z | z
  ·have:=Srt.zhj h z;rw[h2] at this;cases this
  ·subst z;rw[h2] at h;cases h
  ·rw[h1] at z;cases z
theorem zxp (a:List Int):∀l,UpR l->UpR (insR a l)
 | [],_=>xiy _ _
 | b::r,h=>by
  obtain⟨h1,h2⟩:=xhl.mp h;unfold insR;split
  ·rename_i c;refine xhl.mpr ⟨fun x hx=>?_,zxp a r h2⟩;rcases xbr.mp ((zla a r).mem_iff.mp hx) with rfl | hx
   ·exact Srt.zvv c
   ·exact h1 x hx
  ·rename_i c;have c':HT.lexLt b a=false:=by simpa using c
   refine xhl.mpr ⟨fun x hx=>?_,h⟩;rcases xbr.mp hx with rfl | hx
   ·exact c'
   ·exact znr c' (h1 x hx)
theorem zkd:∀l,UpR (sortR l)
 | []=>.nil
 | a::r=>zxp a _ (zkd r)
theorem zoj:∀{l m:List (List Int)},l.Perm m->UpR l->UpR m->l=m
 | [],m,p,_,_=>by rw[List.nil_perm.mp p]
 | a::l,[],p,_,_=>by cases List.perm_nil.mp p
 | a::l,b::m,p,h1,h2=>by
  obtain⟨p1,p2⟩:=xhl.mp h1;obtain⟨q1,q2⟩:=xhl.mp h2;have e:a=b:=by
   rcases xbr.mp (p.mem_iff.mp xcr) with z | z
   ·exact z
   ·rcases xbr.mp (p.mem_iff.mpr (xcr (a:=b) (l:=m))) with y | y
    ·exact y.symm
    ·have e1:=q1 a z;have e2:=p1 b y;rcases Srt.zow a b with w | w | w
     ·rw[e1] at w;cases w
     ·exact w
     ·rw[e2] at w;cases w
  subst e;rw[zoj (List.Perm.cons_inv p) p2 q2]
theorem zmv {l m:List (List Int)}(p:m.Perm l)(h:UpR m):m=sortR l:=zoj (p.trans (zbb l).symm) h (zkd l)
theorem zcu (l:List (List Int)):(sortR l).length=l.length:=(zbb l).length_eq
noncomputable def asRows:List D->Option (List (List Int))
 | []=>some []
 | .tup ds::r=>(asInts ds).bind fun ns=>(asRows r).map (ns::·)
 | _::_=>none
theorem zpx {K:Fg}{ρ:Loc}{H:Hp}:∀{ds:List D} {vs:List V} {l:List (List Int)},AtAll K ρ H ds vs->asRows ds=some l ->
  ∃ps:List (Addr×List Int),vs=ps.map (fun p=>V.ref p.1)/\ps.map (·.2)=l/\∀p∈ps,H p.1=some (.tup (p.2.map V.int))/\Out ρ p.1
 | _,_,_,.nil,e=>by cases e;exact⟨[],rfl,rfl,fun _ h=>nomatch h⟩
 | _,_,_,.cons (d:=d) a b,e=>by
  cases d<;>try (cases e;done)
  rw[asRows] at e;obtain⟨ns,e1,e⟩:=xfc.mp e;obtain⟨l,e2,rfl⟩:=xcv.mp e;obtain⟨ps,h1,h2,h3⟩:=zpx b e2;cases a with
  | tup g1 g2 g3 =>
   rename_i ad ws;have ew:=zfc g3 e1;subst ew;refine⟨(ad,ns)::ps,by rw[h1];rfl,by rw[← h2];rfl,fun p hp=>?_⟩;rcases xbr.mp hp with rfl | hp
   ·exact⟨g1,g2⟩
   ·exact h3 p hp
theorem zkz {K:Fg}{ρ:Loc}{H:Hp}:∀ns:List Int,AtAll K ρ H (ns.map .int) (ns.map V.int)
 | []=>.nil
 | n::ns=>.cons (.int n) (zkz ns)
theorem zkh {K:Fg}{ρ:Loc}{H:Hp}:∀ps:List (Addr×List Int),(∀p∈ps,H p.1=some (.tup (p.2.map V.int))/\Out ρ p.1)->AtAll K ρ H (aJ (ps.map (·.2))) (ps.map fun p=>V.ref p.1)
 | [],_=>.nil
 | p::ps,h=>.cons (.tup (h p xcr).1 (h p xcr).2 (zkz _)) (zkh ps fun q hq=>h q (xbi _ hq))
theorem zkt {K:Fg}{ρ:Loc}{st:Store}{H:Hp}(r:Rep K ρ st H){p:Addr}{vs:List V}(hp:H p=some (.tup vs)):Out ρ p:=by
 refine⟨fun z=>?_,fun z=>?_⟩
 ·obtain⟨i,hi,e⟩:=xea z;obtain⟨x,_,q⟩:=r.has (n:=i) (a:=p) (by rw[xbe hi,e]);cases x with
  | lst xs=>obtain⟨_,e,_⟩:=q;rw[hp] at e;cases e
  | dT kvs=>obtain⟨_,e,_⟩:=q;rw[hp] at e;cases e
  | fT kvs=>obtain⟨_,_,e,_⟩:=q;rw[hp] at e;cases e
  | dI kvs=>obtain⟨_,e,_⟩:=q;rw[hp] at e;cases e
  | dead=>exact q
  | tab=>obtain⟨_,_,e,_⟩:=q;rw[hp] at e;cases e
 ·obtain⟨⟨u,hu⟩,_⟩:=r.gh p z;rw[hp] at hu;cases hu
noncomputable def valD (kvs:List (List Int×D)) (k:List Int):Option D:=(kvs.find? fun kv=>decide (kv.1=k)).map (·.2)
noncomputable def putD (kvs:List (List Int×D)) (k:List Int) (v:D):List (List Int×D) :=
 if(kvs.any fun kv=>decide (kv.1=k))=true then kvs.map (fun kv=>if kv.1=k then(kv.1,v) else kv) else kvs++[(k,v)]
noncomputable def dropD (kvs:List (List Int×D)) (k:List Int):List (List Int×D):=kvs.filter fun kv=>decide (kv.1≠k)
theorem zpb {a b:List Int}:a.map (Sum.inl:Int->Key)=b.map Sum.inl↔a=b:=by
 constructor
 ·intro h;exact(List.map_inj_right (f:=(Sum.inl:Int->Key)) fun x y e=>Sum.inl.inj e).mp h
 ·rintro rfl;rfl
section
variable {K:Fg}{ρ:Loc}{H:Hp}{kvs:List (List Int×D)}{vs:List (List Key×V)}
theorem KvAt.val (h:KvAt K ρ H kvs vs)(k:List Int):match valD kvs k with
  | some d=>∃v,valV vs (k.map Sum.inl)=some v/\At K ρ H d v
  | none=>valV vs (k.map Sum.inl)=none:=by
 induction h with
 | nil=>rfl
 | @cons p q ps qs h t ih =>
  obtain⟨h1,h2⟩:=h;by_cases e:p.1=k
  ·have e1:valD (p::ps) k=some p.2:=by simp[valD,xed,e]
   rw[e1];exact⟨q.2,zhm (by rw[h1,e]),h2⟩
  ·have e1:valD (p::ps) k=valD ps k:=by simp[valD,xed,e]
   have e2:valV (q::qs) (k.map Sum.inl)=valV qs (k.map Sum.inl):=zhn (by rw[h1,zpb];exact e);rw[e1,e2];exact ih
theorem KvAt.keys (h:KvAt K ρ H kvs vs):vs.map (·.1)=(kvs.map (·.1)).map fun ns=>ns.map Sum.inl:=by
 induction h with
 | nil=>rfl
 | @cons p q ps qs h t ih=>rw[xbp,xbp,xbp,ih,h.1]
theorem KvAt.put (h:KvAt K ρ H kvs vs)(k:List Int){d:D}{v:V}(a:At K ρ H d v):KvAt K ρ H (putD kvs k d) (putK vs (k.map Sum.inl) v):=by
 have any:∀{kvs:List (List Int×D)} {vs:List (List Key×V)},KvAt K ρ H kvs vs->(kvs.any fun kv=>decide (kv.1=k))=(vs.any fun kv=>decide (kv.1=k.map Sum.inl)):=fun h=>by
  induction h with
  | nil=>rfl
  | @cons p q ps qs h t ih =>
   rw[xhe,xhe,ih,h.1]
   congr 1
   simp only[zpb]
 unfold putD putK;rw[any h];split
 ·rename_i hh;clear hh any
  induction h with
  | nil=>exact .nil
  | @cons p q ps qs h t ih =>
   refine .cons ?_ ih;obtain⟨h1,h2⟩:=h;dsimp only;by_cases e:p.1=k
   ·rw[if_pos e,if_pos (by rw[h1,e])];exact⟨h1,a⟩
   ·rw[if_neg e,if_neg (by rw[h1,zpb];exact e)];exact⟨h1,h2⟩
 ·have app:∀{kvs:List (List Int×D)} {vs:List (List Key×V)},KvAt K ρ H kvs vs->KvAt K ρ H (kvs++[(k,d)]) (vs++[(k.map Sum.inl,v)]):=fun h=>by
   induction h with
   | nil=>exact .cons ⟨rfl,a⟩ .nil
   | cons h t ih=>exact .cons h ih
  exact app h
theorem KvAt.drop (h:KvAt K ρ H kvs vs)(k:List Int):KvAt K ρ H (dropD kvs k) (dropK vs (k.map Sum.inl)):=by
 unfold dropD dropK
 induction h with
 | nil=>exact .nil
 | @cons p q ps qs h t ih =>
  by_cases e:p.1=k
  ·rw[xdf (by simp[e]),xdf (by simp[h.1,e])];exact ih
  ·rw[xdg (by simp[e]),xdg (by simp[h.1,zpb,e])];exact .cons h ih
theorem KvAt.length (h:KvAt K ρ H kvs vs):kvs.length=vs.length:=xhd h
end
noncomputable def pairsOf (st:Store):D->Option (List (List Int×D))
 | .ref n=>match st[n]? with
  | some (.dT kvs)=>some kvs
  | some (.fT kvs)=>some kvs
  | _=>none
 | _=>none
theorem zkk {K:Fg}{ρ:Loc}{st:Store}{H:Hp}(rp:Rep K ρ st H){d:D}{u:V}{kvs:List (List Int×D)}(a:At K ρ H d u)(e:pairsOf st d=some kvs):∃p vs,u=.ref p/\Rd H p (.dT vs)/\KvAt K ρ H kvs vs:=by
 unfold pairsOf at e;split at e
 ·split at e
  ·rename_i h;cases e;obtain⟨p,rfl,hp,vs,q1,q2⟩:=zes rp a h (by intro z;cases z);exact⟨p,vs,rfl,.inl q1,q2⟩
  ·rename_i h;cases e;obtain⟨p,rfl,hp,vs,ob,q1,q2⟩:=zes rp a h (by intro z;cases z);exact⟨p,vs,rfl,.inr ⟨ob,q1⟩,q2⟩
  ·cases e
 ·cases e
noncomputable def keyOf:D->Option (List Int)
 | .tup ds=>asInts ds
 | _=>none
theorem zzx {K:Fg}{ρ:Loc}{H:Hp}{d:D}{u:V}{k:List Int}(a:At K ρ H d u)(e:keyOf d=some k):∃p,u=.ref p/\H p=some (.tup ((k.map (Sum.inl:Int->Key)).map kV)):=by
 unfold keyOf at e;split at e
 ·cases a with
  | tup h1 h2 h3 =>
   have:=zfc h3 e;subst this;exact⟨_,rfl,by rw[zxn];exact h1⟩
 ·cases e
theorem ztf {K:Fg}{ρ:Loc}{st:Store}{H:Hp}(rp:Rep K ρ st H){d y:D}{u w:V}{kvs:List (List Int×D)}{k:List Int}(a:At K ρ H d u)(b:At K ρ H y w)(e:pairsOf st d=some kvs)(e2:keyOf y=some k) :
  ∃p o,u=.ref p/\DGet H p w o/\match valD kvs k with
   | some z=>∃v,o=some v/\At K ρ H z v
   | none=>o=none:=by
 obtain⟨p,vs,rfl,h1,h2⟩:=zkk rp a e;obtain⟨q,rfl,h3⟩:=zzx b e2;refine⟨p,valV vs (k.map Sum.inl),rfl,.inr ⟨vs,_,q,h1,rfl,h3,rfl⟩,?_⟩;have:=h2.val k;cases hv:valD kvs k with
 | none=>rw[hv] at this;exact this
 | some z=>rw[hv] at this;exact this
noncomputable def oDIn (neg:Bool) (y x:D) (st:Store):Res D:=match keyOf y,pairsOf st x with
 | some k,some kvs=>.ok (.bl (if neg then !(valD kvs k).isSome else(valD kvs k).isSome)) st
 | _,_=>.stuck
noncomputable def oDGet (x y:D) (st:Store):Res D:=match pairsOf st x,keyOf y with
 | some kvs,some k=>match valD kvs k with
  | some v=>.ok v st
  | none=>.stuck
 | _,_=>.stuck
noncomputable def eDGet2 (f g h:SE):SE:=fun σ st=>(f σ st).bind fun x st1=>match pairsOf st1 x with
 | some _=>(g σ st1).bind fun y st2=>(h σ st2).bind fun z st3=>match pairsOf st3 x,keyOf y with
  | some kvs,some k=>.ok ((valD kvs k).getD z) st3
  | _,_=>.stuck
 | none=>.stuck
noncomputable def eDPop (f g:SE):SE:=fun σ st=>(f σ st).bind fun x st1=>match pairsOf st1 x with
 | some _=>(g σ st1).bind fun y st2=>match x,keyOf y with
  | .ref n,some k=>match st2[n]? with
   | some (.dT kvs)=>match valD kvs k with
    | some v=>.ok v (st2.set n (.dT (dropD kvs k)))
    | none=>.stuck
   | _=>.stuck
  | _,_=>.stuck
 | none=>.stuck
noncomputable def sDPut (f g h:SE):SS:=fun σ st=>(h σ st).bind fun v st1=>(f σ st1).bind fun x st2=>(g σ st2).bind fun y st3=>match x,keyOf y with
 | .ref n,some k=>match st3[n]? with
  | some (.dT kvs)=>if kvs.length < sizeLine then .ok (.nx σ) (st3.set n (.dT (putD kvs k v))) else .stuck
  | _=>.stuck
 | _,_=>.stuck
noncomputable def eDNew:SE:=fun _ st=>.ok (.ref st.length) (st++[.dT []])
section
variable {X:Cx}{a b c o i e value f':Expr}{f g h:SE}{pos pos' apos cpos:Pos}
theorem zbfb {K:Fg}{ρ:Loc}{st:Store}{H:Hp}(rp:Rep K ρ st H){d:D}{u:V}{kvs:List (List Int×D)}(a:At K ρ H d u)(e:pairsOf st d=some kvs):∃p,u=.ref p/\IsD H p:=by
 obtain⟨p,vs,rfl,h1,_⟩:=zkk rp a e;exact⟨p,rfl,.inr ⟨vs,h1⟩⟩
theorem zbky:DE X (.Dict [] [] pos) eDNew:=zgt zze fun τ H Q hq0 p hp=>by
 obtain⟨ρ,σ,st,v,st',a,rp,e,q⟩:=hq0;cases e;obtain⟨E,R⟩:=rp.alloc hp (x:=.dT []) (o:=.dT []) fun E=>⟨[],zbc,.nil⟩
 exact q _ _ _ E R (.last rp.len.symm)
theorem zbmy (hu:X.A.units+1 < cLine)(hi:DE X i g)(ho:DE X o f):PC X .In i o (tD X.K (aS (oDIn false) g f)):=fun aU s σ H Q I hq=>by
 refine zbja hu hi ho aU s σ H Q I ?_;obtain⟨ρ,σ',st,v,st',a,rp,e,q⟩:=hq;obtain⟨x,st1,e1,e⟩:=zc e;obtain⟨y,st2,e2,e⟩:=zc e;refine⟨ρ,σ',st,x,st1,a,rp,e1,fun ρ1 H1 u x1 rp1 a1=>?_⟩;refine⟨ρ1,σ',st1,y,st2,a.ext x1,rp1,e2,fun ρ2 H2 w x2 rp2 a2=>?_⟩;unfold oDIn at e;split at e
 ·rename_i kk vv h1 h2;cases e;obtain⟨p,oo,rfl,g1,g2⟩:=ztf rp2 a2 (a1.ext x2) h2 h1;refine⟨p,oo,rfl,g1,?_⟩;have:oo.isSome=(valD vv kk).isSome:=by
   revert g2;split
   ·rename_i hv;rintro⟨v,rfl,_⟩;rw[hv];rfl
   ·rename_i hv;rintro rfl;rw[hv];rfl
  rw[this];exact q _ _ _ (x1.trans x2) rp2 (.bl _)
 ·cases e
theorem d_in {op:CmpOp}{t:SE}(h:PC X op a b (tD X.K t))(h1:behindInMarks op b=false:=by first | exact nobehind _ (by decide) (by decide) | rfl):DE X (.Compare a [op] [b] pos) t:=zbix h h1
theorem zbnp {op:CmpOp}{t:SE}(h:PC X op a b (tD X.K t))(h1:behindInMarks op b=false:=by first | exact nobehind _ (by decide) (by decide) | rfl):DT X (.Compare a [op] [b] pos) (eB t):=zbbx (zbij h h1) fun τ H Q hh=>eB_t _ _ _ hh
theorem zbkz (hu:X.A.units+1 < cLine)(ho:DE X o f)(hi:DE X i g)(hs:NoSl i):DE X (.Subscript o i pos) (aS oDGet f g):=zgt (zbdm hu ho hi hs) fun τ H Q hq0=>by
 obtain⟨ρ,σ,st,v,st',a,rp,e,q⟩:=hq0;obtain⟨x,st1,e1,e⟩:=zc e;obtain⟨y,st2,e2,e⟩:=zc e;refine⟨ρ,σ,st,x,st1,a,rp,e1,fun ρ1 H1 u x1 rp1 a1=>?_⟩;refine⟨ρ1,σ,st1,y,st2,a.ext x1,rp1,e2,fun ρ2 H2 w x2 rp2 a2=>?_⟩;unfold oDGet at e;split at e
 ·rename_i h1 h2;split at e
  ·rename_i z hv;cases e;obtain⟨p,oo,rfl,g1,g2⟩:=ztf rp2 (a1.ext x2) a2 h1 h2;rw[hv] at g2;obtain⟨vv,rfl,g3⟩:=g2;exact⟨p,vv,rfl,g1,q _ _ _ (x1.trans x2) rp2 g3⟩
  ·cases e
 ·cases e
theorem zbgj (hu:X.A.units + 1 < cLine)(ho:DE X o f)(he:DE X e g)(hf:DE X f' h)(m:M2 X o "get" apos e f' cpos):DE X (.Call (.Attribute o "get" apos) [e, f'] [] cpos) (eDGet2 f g h):=zgt (zzg hu ho he hf m) fun τ H Q hq0=>by
 obtain⟨ρ,σ,st,v,st',a,rp,e,q⟩:=hq0;obtain⟨x,st1,e1,e⟩:=zc e;refine⟨ρ,σ,st,x,st1,a,rp,e1,fun ρ1 H1 u x1 rp1 a1=>?_⟩;split at e
 ·rename_i h0;obtain⟨p,rfl,hd⟩:=zbfb rp1 a1 h0;obtain⟨y,st2,e2,e⟩:=zc e;obtain⟨z,st3,e3,e⟩:=zc e;refine⟨p,rfl,hd,?_⟩;refine⟨ρ1,σ,st1,y,st2,a.ext x1,rp1,e2,fun ρ2 H2 w x2 rp2 a2=>?_⟩;refine⟨ρ2,σ,st2,z,st3,a.ext (x1.trans x2),rp2,e3,fun ρ3 H3 t x3 rp3 a3=>?_⟩;split at e
  ·rename_i h1 h2;cases e;obtain⟨p',oo,ep,g1,g2⟩:=ztf rp3 (a1.ext (x2.trans x3)) (a2.ext x3) h1 h2;cases ep;refine⟨oo,g1,q _ _ _ (x1.trans (x2.trans x3)) rp3 ?_⟩;revert g2;split
   ·rename_i hv;rintro⟨vv,rfl,g3⟩;rw[hv];exact g3
   ·rename_i hv;rintro rfl;rw[hv];exact a3
  ·cases e
 ·cases e
theorem zbkx (hu:X.A.units + 1 < cLine)(ho:DE X o f)(he:DE X e g)(m:M1 X o "pop" apos e cpos):DE X (.Call (.Attribute o "pop" apos) [e] [] cpos) (eDPop f g):=zgt (zzd hu ho he m) fun τ H Q hq0=>by
 obtain⟨ρ,σ,st,v,st',a,rp,e,q⟩:=hq0;obtain⟨x,st1,e1,e⟩:=zc e;refine⟨ρ,σ,st,x,st1,a,rp,e1,fun ρ1 H1 u x1 rp1 a1=>?_⟩;split at e
 ·rename_i h0;obtain⟨p,rfl,hd⟩:=zbfb rp1 a1 h0;obtain⟨y,st2,e2,e⟩:=zc e;refine⟨p,rfl,hd,?_⟩;refine⟨ρ1,σ,st1,y,st2,a.ext x1,rp1,e2,fun ρ2 H2 w x2 rp2 a2=>?_⟩;split at e
  ·rename_i n k hk _;split at e
   ·rename_i kvs hn;split at e
    ·rename_i z hv;cases e;obtain⟨p',ep,hp,vs,g1,g2⟩:=zes rp2 (a1.ext x2) hn (by intro z;cases z);cases ep;obtain⟨b,rfl,g3⟩:=zzx a2 hk;have g4:=g2.val k;rw[hv] at g4;obtain⟨vv,g5,g6⟩:=g4;have E:Ext ρ2 H2 ρ2 (upd H2 p (.dT (dropK vs (k.map Sum.inl)))):=Ext.wr hp (zjt g1) _;exact⟨vs,_,vv,b,g1,rfl,g3,g5,q _ _ _ ((x1.trans x2).trans E) (rp2.wr hp (zjt g1) ⟨_,zbc,(g2.drop k).ext E⟩) (g6.ext E)⟩
    ·cases e
   ·cases e
  ·cases e
 ·cases e
theorem zbfs (hu:X.A.units+1 < cLine)(ho:DE X o f)(hi:DE X i g)(hv:DE X value h)(hs:swapsWith value (some (.Subscript o i pos')) pos.line X.env=pure false) :
  DSt X (.Assign [.Subscript o i pos'] value pos) (sDPut f g h):=zvc (zbda hu ho hi hv hs) fun E τ H hq0=>by
 obtain⟨ρ,σ,st,fl,st',a,rp,e,q⟩:=hq0;obtain⟨v,st1,e1,e⟩:=zc e;obtain⟨x,st2,e2,e⟩:=zc e;obtain⟨y,st3,e3,e⟩:=zc e;refine⟨ρ,σ,st,v,st1,a,rp,e1,fun ρ1 H1 u x1 rp1 a1=>?_⟩;refine⟨ρ1,σ,st1,x,st2,a.ext x1,rp1,e2,fun ρ2 H2 w x2 rp2 a2=>?_⟩;refine⟨ρ2,σ,st2,y,st3,a.ext (x1.trans x2),rp2,e3,fun ρ3 H3 t x3 rp3 a3=>?_⟩;split at e
 ·rename_i n k hk _;split at e
  ·rename_i kvs hn;split at e
   ·rename_i hl;cases e;obtain⟨p,rfl,hp,vs,g1,g2⟩:=zes rp3 (a2.ext x3) hn (by intro z;cases z);obtain⟨b,rfl,g3⟩:=zzx a3 hk;have E:Ext ρ3 H3 ρ3 (upd H3 p (.dT (putK vs (k.map Sum.inl) u))):=Ext.wr hp (zjt g1) _;refine⟨p,_,rfl,DPut.t g1 g3 (by rw[← g2.length];exact hl),?_⟩;exact q _ _ _ ((x1.trans (x2.trans x3)).trans E) (rp3.wr hp (zjt g1) ⟨_,zbc,(g2.put k (a1.ext (x2.trans x3))).ext E⟩) (a.ext ((x1.trans (x2.trans x3)).trans E))
   ·cases e
  ·cases e
 ·cases e
end
noncomputable def bSorted:List D->Store->Res D:=fun xs st=>match xs with
 | [x]=>match (asL st x).bind asRows with
  | some l=>if l.length<=1000000 then .ok (.lst (aJ (sortR l))) st else .stuck
  | none=>match pairsOf st x with
   | some kvs=>if kvs.length<=1000000 then .ok (.lst (aJ (sortR (kvs.map (·.1))))) st else .stuck
   | none=>.stuck
 | _=>.stuck
theorem zee {K:Fg}:CaD K bSorted (fun xs H Q=>rSortedAL K xs H Q\/rSortedDAL xs H Q):=fun ρ H st xs us z st' Q rp aa e q=>by
 unfold bSorted at e;split at e
 ·obtain⟨u,rfl,a⟩:=aa.one;split at e
  ·rename_i l hl;obtain⟨ys,h0,hl⟩:=xfc.mp hl;split at e
   ·rename_i few;cases e;obtain⟨p,vs,rfl,h1,h2⟩:=zjc rp a h0;obtain⟨ps,rfl,rfl,h3⟩:=zpx h2 hl;rw[xbd] at few;refine .inl ⟨p,ps,rfl,SqL.of h1,few,fun x hx=>SqT.of (h3 x hx).1,fun t qs ht hp hs=>?_⟩;have e2:qs.map (·.2)=sortR (ps.map (·.2)):=zmv (hp.map _) hs;refine q _ _ _ (Ext.new ht _) (rp.new ht _) (.newL rp ht ?_);rw[← e2];exact zkh qs fun x hx=>h3 x (hp.mem_iff.mp hx)
   ·cases e
  ·split at e
   ·rename_i kvs hk;split at e
    ·rename_i few;cases e;obtain⟨p,vs,rfl,h1,h2⟩:=zkk rp a hk;refine .inr ⟨p,vs,kvs.map (·.1),rfl,h1,h2.keys,by rw[xbd];exact few,fun t qs ht hp hs hq=>?_⟩;have e2:qs.map (·.2)=sortR (kvs.map (·.1)):=zmv hp hs;refine q _ _ _ (Ext.new ht _) (rp.new ht _) (.newL rp ht ?_);rw[← e2];exact zkh qs fun x hx=>⟨hq x hx,zkt rp (hq x hx)⟩
    ·cases e
   ·cases e
 ·cases e
theorem zbz {X:Cx}(hc:X.calm=true)(hu:X.A.units + 64 < cLine):CallR X (.builtin "sorted") (fun xs H Q=>rSortedAL X.K xs H Q\/rSortedDAL xs H Q):=(zmn hu).or (zll hc hu)
noncomputable def eAppend (f:SE) (g:SA):SE:=fun σ st=>(f σ st).bind fun x st1=>match x,asL st1 x with
 | .ref n,some _=>(g σ st1).bind fun ys st2=>match ys,st2[n]? with
  | [y],some (.lst xs)=>if xs.length < sizeLine then .ok .non (st2.set n (.lst (xs++[y]))) else .stuck
  | _,_=>.stuck
 | _,_=>.stuck
noncomputable def eExtend (f:SE) (g:SA):SE:=fun σ st=>(f σ st).bind fun x st1=>match x,asL st1 x with
 | .ref n,some _=>(g σ st1).bind fun ys st2=>match ys,st2[n]? with
  | [y],some (.lst xs)=>match asL st2 y with
   | some zs=>if xs.length+zs.length<=sizeLine then .ok .non (st2.set n (.lst (xs++zs))) else .stuck
   | none=>.stuck
  | _,_=>.stuck
 | _,_=>.stuck
section
variable {X:Cx}{o e i value:Expr}{es:List Expr}{f g h:SE}{ga:SA}{pos apos cpos:Pos}
theorem zbbi (ho:DE X o f)(ha:DA X (e::es) ga)(hbase:attributeBase o "append" X.env (eval o X.env)=eval o X.env:=by rfl)
  (hfew:((backTo cpos (starEach (e::es) X.env)).all (fun x=>!x.1)&&(backToKw cpos (keywordEach [] X.env)).all (fun x=>x.1.isSome)
   && decide ((e::es).length+([]:List Keyword).length+(if([]:List Keyword).isEmpty then 0 else 1) < 30))=true:=by rfl)
  (hline:(apos.endLine==cpos.line)=true:=by rfl)(hs:starEach (e::es) X.env=(false,eval e X.env)::starEach es X.env:=by rfl)(hplain:(backTo cpos (starEach es X.env)).any (·.1)=false:=by rfl) :
  DE X (.Call (.Attribute o "append" apos) (e::es) [] cpos) (eAppend f ga):=zgt (zbiy F.plainAttrs_list F.slot_list_append F.type_list_append zov ho ha hbase hfew hline hs hplain) fun τ H Q hq0=>by
 obtain⟨ρ,σ,st,v,st',a,rp,e,q⟩:=hq0;obtain⟨x,st1,e1,e⟩:=zc e;refine⟨ρ,σ,st,x,st1,a,rp,e1,fun ρ1 H1 u x1 rp1 a1=>?_⟩;split at e
 ·rename_i n _ hL;obtain⟨ys,st2,e2,e⟩:=zc e;obtain⟨p,vs,rfl,g1,g2⟩:=zjc rp1 a1 hL;refine⟨.inl ⟨rfl,_,SqL.of g1⟩,ρ1,σ,st1,ys,st2,a.ext x1,rp1,e2,fun ρ2 H2 ws x2 rp2 a2=>?_⟩;split at e
  ·rename_i y xs hn;split at e
   ·rename_i hl;cases e;obtain⟨w,rfl,a3⟩:=a2.one;obtain⟨p',ep,hp,vs2,k1,k2⟩:=zes rp2 (a1.ext x2) hn (by intro z;cases z);cases ep;have E:Ext ρ2 H2 ρ2 (upd H2 p (.lst (vs2++[w]))):=Ext.wr hp (zkw k1) _;exact⟨p,vs2,w,rfl,rfl,k1,by rw[k2.length];exact hl,q _ _ _ ((x1.trans x2).trans E) (rp2.wr hp (zkw k1) ⟨_,zbc,(k2.append (.cons a3 .nil)).ext E⟩) .non⟩
   ·cases e
  ·cases e
 ·cases e
noncomputable def eFz (f:SE):SE:=fun σ st=>(f σ st).bind fun x st1=>match x with
 | .ref n=>match st1[n]? with
  | some (.lst xs)=>.ok (.lst xs) (st1.set n .dead)
  | _=>.stuck
 | _=>.stuck
theorem d_fz (ho:DE X o f):DE X o (eFz f):=zgt ho fun τ H Q hq0=>by
 obtain⟨ρ,σ,st,v,st',a,rp,e,q⟩:=hq0;obtain⟨x,st1,e1,e⟩:=zc e;refine⟨ρ,σ,st,x,st1,a,rp,e1,fun ρ1 H1 u x1 rp1 a1=>?_⟩;split at e
 ·rename_i n;split at e
  ·rename_i xs hn;cases e;obtain⟨p,rfl,hp,vs2,k1,k2⟩:=zes rp1 a1 hn (by intro z;cases z);have hlen:=(xbc.mp hp).1;obtain⟨E,R⟩:=rp1.kill hlen;refine q _ _ _ (x1.trans E) R (.lst k1 ⟨fun z=>?_,fun z=>(rp1.gh p z).2 (xbo hp)⟩ (k2.ext E));obtain⟨i,hi,e2⟩:=xea z;have e3:(ρ1.m.set n none)[i]?=some (some p):=by rw[xbe hi,e2]
   by_cases hin:i=n
   ·subst hin;rw[xdw hlen] at e3;simp at e3
   ·rw[xbl (xdv hin)] at e3;exact hin (rp1.inj i n p e3 hp)
  ·cases e
 ·cases e
end
noncomputable def sNx:SS:=fun σ st=>.ok (.nx σ) st
noncomputable def sBrk:SS:=fun σ st=>.ok (.brk σ) st
noncomputable def sCt:SS:=fun σ st=>.ok (.ct σ) st
noncomputable def sRet (f:SE):SS:=fun σ st=>(f σ st).bind fun v st1=>.ok (.ret v) st1
noncomputable def sRetN:SS:=fun _ st=>.ok (.ret .non) st
noncomputable def sDrop (f:SE):SS:=fun σ st=>(f σ st).bind fun _ st1=>.ok (.nx σ) st1
noncomputable def aF (i:Nat) (f:SE):SS:=fun σ st=>(f σ st).bind fun v st1=>.ok (.nx (σ.set i (some v))) st1
noncomputable def aD (s t:SS):SS:=fun σ st=>match s σ st with
 | .ok (.nx σ1) st1=>t σ1 st1
 | r=>r
noncomputable def sIf (c:ST) (s t:SS):SS:=fun σ st=>(c σ st).bind fun b st1=>if b=true then s σ st1 else t σ st1
noncomputable def sAug (i:Nat) (g:D->D->Store->Res D) (f:SE):SS:=fun σ st=>match σ[i]? with
 | some (some x)=>(f σ st).bind fun y st1=>(g x y st1).bind fun z st2=>.ok (.nx (σ.set i (some z))) st2
 | _=>.stuck
noncomputable def sSetIx (f g h:SE):SS:=fun σ st=>(h σ st).bind fun v st1=>(f σ st1).bind fun x st2=>(g σ st2).bind fun y st3=>match x,y with
 | .ref n,.int k=>match st3[n]? with
  | some (.lst xs)=>match ixN xs.length k with
   | some j=>.ok (.nx σ) (st3.set n (.lst (xs.set j v)))
   | none=>.stuck
  | _=>.stuck
 | _,_=>.stuck
section
variable {X:Cx}{e c o i value:Expr}{sm:Stmt}{rest:List Stmt}{f g h:SE}{s t:SS}{b:ST}{pos pos':Pos}
theorem zbko:DSs X [] sNx:=zbcv zbcx fun E τ H hq0=>by
 obtain⟨ρ,σ,st,fl,st',a,rp,e,q⟩:=hq0;cases e;exact q _ _ _ (.refl _ _) rp a
theorem zbkm (he:DE X e f):DSt X (.Return (some e) pos) (sRet f):=zvc (zbil he) fun E τ H hq0=>by
 obtain⟨ρ,σ,st,fl,st',a,rp,e,q⟩:=hq0;obtain⟨x,st1,e1,e⟩:=zc e;cases e;exact⟨ρ,σ,st,x,_,a,rp,e1,fun ρ1 H1 u x1 rp1 a1=>q _ _ _ x1 rp1 a1⟩
theorem zbfr (he:DE X e f)(hs:swapsWith e none pos.line X.env=pure false:=by rfl):DSt X (.Expr e pos) (sDrop f):=zvc (zbcz he hs) fun E τ H hq0=>by
 obtain⟨ρ,σ,st,fl,st',a,rp,e,q⟩:=hq0;obtain⟨x,st1,e1,e⟩:=zc e;cases e;exact⟨ρ,σ,st,x,_,a,rp,e1,fun ρ1 H1 u x1 rp1 a1=>q _ _ _ x1 rp1 (a.ext x1)⟩
theorem zbmp {K:Fg}{i:Nat}{f:SE}:∀E τ H,tDS K (aF i f) E τ H->tAsg (tD K f) (gName i) E τ H:=fun E τ H hq0=>by
 obtain⟨ρ,σ,st,fl,st',a,rp,e,q⟩:=hq0;obtain⟨x,st1,e1,e⟩:=zc e;cases e;exact⟨ρ,σ,st,x,_,a,rp,e1,fun ρ1 H1 u x1 rp1 a1=>q _ _ _ x1 rp1 ((a.ext x1).set a1 i)⟩
theorem zbkl {i:Nat}{x:Str}(hN:X.N.Nodup)(hi:X.N[i]?=some x)(hx:L2.Loc X.env.scope x)(he:DE X e f)(hs:swapsWith e (some (.Name x pos')) pos.line X.env=pure false:=by rfl)(hf:X.fn x=true\/X.env.scope.names.lookup x=some .local:=by first | exact .inl rfl | exact .inr rfl | assumption) :
 DSt X (.Assign [.Name x pos'] e pos) (aF i f):=zvc (zbik hN hi hx he hs hf) zbmp
theorem zbkn (h1:DSt X sm s):DSs X [sm] s:=zbcw h1
theorem zbft (h1:DSt X sm s)(h2:DSs X rest t):DSs X (sm::rest) (aD s t):=zbcv (zyu h1 h2) fun E τ H hq0=>by
 obtain⟨ρ,σ,st,fl,st',a,rp,e,q⟩:=hq0;unfold aD at e;split at e
 ·rename_i σ1 st1 e1;exact⟨ρ,σ,st,_,st1,a,rp,e1,fun ρ1 H1 τ1 x1 rp1 a1=>⟨ρ1,σ1,st1,fl,st',a1,rp1,e,q.ext x1⟩⟩
 ·rename_i hne;refine⟨ρ,σ,st,fl,st',a,rp,e,?_⟩;cases fl with
  | nx σ'=>exact absurd e (hne σ' st')
  | brk σ'=>exact q
  | ct σ'=>exact q
  | ret v=>exact q
theorem zbnq {a' b':List Stmt}(hc:DT X c b)(ha:DSs X a' s)(hb:DSs X b' t):DSt X (.If c a' b' pos) (sIf b s t):=zvc (zbmr hc ha hb) fun E τ H hq0=>by
 obtain⟨ρ,σ,st,fl,st',a,rp,e,q⟩:=hq0;obtain⟨x,st1,e1,e⟩:=zc e;refine⟨ρ,σ,st,x,st1,a,rp,e1,fun ρ1 H1 x1 rp1=>?_⟩;cases x with
 | true=>exact iteT ⟨ρ1,σ,st1,fl,st',a.ext x1,rp1,e,q.ext x1⟩
 | false=>exact iteF ⟨ρ1,σ,st1,fl,st',a.ext x1,rp1,e,q.ext x1⟩
theorem zbap (he:DE X value h)(ho:DE X o f)(hi:DE X i g)(ha:∀v,assign (.Subscript o i pos') X.env v=(do
   let ov ← holding [v] (eval o X.env)
   let iv ← holding [v,ov] (eval i X.env)
   standAt pos'
   holding [v,ov,iv] (setItem ov iv v)
   release [v,ov,iv] []):=by intro _;rfl)
  (hs:swapsWithSole [.Subscript o i pos'] value pos.line X.env=pure false:=by rfl)(hw:swappedStores [.Subscript o i pos'] value X.env=pure none:=by rfl)
  (h1:(assignEach [.Subscript o i pos'] X.env).map (·.2)=[assign (.Subscript o i pos') X.env]:=by rfl):DSt X (.Assign [.Subscript o i pos'] value pos) (sSetIx f g h) :=
 zvc (zbin he (zbiq ho hi zym ha) hs hw h1) fun E τ H hq0=>by
 obtain⟨ρ,σ,st,fl,st',a,rp,e,q⟩:=hq0;obtain⟨v,st1,e1,e⟩:=zc e;obtain⟨x,st2,e2,e⟩:=zc e;obtain⟨y,st3,e3,e⟩:=zc e;refine⟨ρ,σ,st,v,st1,a,rp,e1,fun ρ1 H1 u x1 rp1 a1=>?_⟩;refine⟨ρ1,σ,st1,x,st2,a.ext x1,rp1,e2,fun ρ2 H2 w x2 rp2 a2=>?_⟩;refine⟨ρ2,σ,st2,y,st3,a.ext (x1.trans x2),rp2,e3,fun ρ3 H3 t x3 rp3 a3=>?_⟩;split at e
 ·rename_i n k _;split at e
  ·rename_i xs hn;split at e
   ·rename_i j hj;cases e;cases a3;obtain⟨p,rfl,hp,vs,g1,g2⟩:=zes rp3 (a2.ext x3) hn (by intro z;cases z);have E:Ext ρ3 H3 ρ3 (upd H3 p (.lst (vs.set j u))):=Ext.wr hp (zkw g1) _;refine⟨p,vs,k,j,rfl,rfl,g1,by rw[g2.length];exact hj,?_⟩;exact q _ _ _ ((x1.trans (x2.trans x3)).trans E) (rp3.wr hp (zkw g1) ⟨_,zbc,(g2.set (a1.ext (x2.trans x3)) j).ext E⟩) (a.ext ((x1.trans (x2.trans x3)).trans E))
   ·cases e
  ·cases e
 ·cases e
end
noncomputable abbrev SG:=D->DS->Option DS
noncomputable def gN (i:Nat):SG:=fun d σ=>some (σ.set i (some d))
noncomputable def gsNil:List D->DS->Option DS:=fun ds σ=>match ds with
 | []=>some σ
 | _=>none
noncomputable def gsCons (t:SG) (u:List D->DS->Option DS):List D->DS->Option DS:=fun ds σ=>match ds with
 | d::r=>(t d σ).bind fun σ1=>u r σ1
 | _=>none
noncomputable def gT (n:Nat) (u:List D->DS->Option DS):SG:=fun d σ=>match d with
 | .tup ds=>if ds.length=n then u ds σ else none
 | _=>none
noncomputable def gD (K:Fg) (b:SG):TG:=fun v τ H Q=>∃ρ σ d σ',AtS K ρ H σ τ/\At K ρ H d v/\b d σ=some σ'/\∀τ',AtS K ρ H σ' τ'->Q τ' H
noncomputable def gDs (K:Fg) (b:List D->DS->Option DS):TGs:=fun vs τ H Q=>∃ρ σ ds σ',AtS K ρ H σ τ/\AtAll K ρ H ds vs/\b ds σ=some σ'/\∀τ',AtS K ρ H σ' τ'->Q τ' H
noncomputable abbrev DG (X:Cx) (tg:Expr) (b:SG):Prop:=PG X tg (gD X.K b)
noncomputable abbrev DGs (X:Cx) (ts:List Expr) (b:List D->DS->Option DS):Prop:=PGs X ts (gDs X.K b)
section
variable {X:Cx}{pos:Pos}{e:Expr}{es:List Expr}{t:SG}{u:List D->DS->Option DS}
theorem zbmb {g g':TG}(h:PG X e g)(k:∀v τ H Q,g' v τ H Q->g v τ H Q):PG X e g':=fun aU s σ H v u Q I r q=>h aU s σ H v u Q I r (k _ _ _ _ q)
theorem zbdi {g g':TGs}(h:PGs X es g)(k:∀v τ H Q,g' v τ H Q->g v τ H Q):PGs X es g':=fun aU s σ H v u Q I r q=>h aU s σ H v u Q I r (k _ _ _ _ q)
theorem zbgc {i:Nat}{x:Str}(hN:X.N.Nodup)(hi:X.N[i]?=some x)(hx:L2.Loc X.env.scope x)(hf:X.fn x=true\/X.env.scope.names.lookup x=some .local:=by first | exact .inl rfl | exact .inr rfl | assumption):DG X (.Name x pos) (gN i) :=
 zbmb (zbdk hN hi hx hf) fun v τ H Q hq0=>by
 obtain⟨ρ,σ,d,σ',a,b,e,q⟩:=hq0;cases e;exact q _ (a.set b i)
theorem zbgb:DGs X [] gsNil:=zbdi zbdj fun v τ H Q hq0=>by
 obtain⟨ρ,σ,d,σ',a,b,e,q⟩:=hq0;unfold gsNil at e;split at e
 ·cases e;cases b;exact⟨rfl,q _ a⟩
 ·cases e
theorem zbax (h1:DG X e t)(h2:DGs X es u)(hs:(assignEach (e::es) X.env).map (·.2)=assign e X.env::(assignEach es X.env).map (·.2):=by rfl):DGs X (e::es) (gsCons t u) :=
 zbdi (zza h1 h2 hs) fun v τ H Q hq0=>by
 obtain⟨ρ,σ,d,σ',a,b,e,q⟩:=hq0;unfold gsCons at e;split at e
 ·obtain⟨σ1,e1,e2⟩:=xfc.mp e;cases b with
  | cons b1 b2=>exact⟨_,_,rfl,ρ,σ,_,σ1,a,b1,e1,fun τ1 a1=>⟨ρ,σ1,_,σ',a1,b2,e2,q⟩⟩
 ·cases e
theorem zbks {k:Nat}{n:Nat}(hc:X.calm=true)(h:DGs X es u)(hn:(assignEach es X.env).length=n:=by rfl)(hst:(assignEach es X.env).findIdx? (·.1)=none:=by rfl):DG X (.Tuple es k pos) (gT n u) :=
 zbmb (zbip hc h hn hst) fun v τ H Q hq0=>by
 obtain⟨ρ,σ,d,σ',a,b,e,q⟩:=hq0;unfold gT at e;split at e
 ·split at e
  ·rename_i hl;cases b with
   | tup h1 h2 h3=>exact⟨_,_,rfl,SqT.of h1,by rw[h3.length];exact hl,ρ,σ,_,σ',a,h3,e,q⟩
  ·cases e
 ·cases e
end
structure ExtG (ρ:Loc) (H:Hp) (ρ':Loc) (H':Hp):Prop where
 len:ρ.m.length<=ρ'.m.length
 old:∀(n:Nat) (a:Addr),n < ρ.m.length->ρ'.m[n]?=some (some a)->ρ.m[n]?=some (some a)
 keep:∀a o,H a=some o->some a∉ρ.m->H' a=some o/\some a∉ρ'.m
 gho:∀a∈ρ'.g,a∈ρ.g\/H a=none
 frz:∀a ob u,H a=some (.frz ob u)->H' a=some (.frz ob u)
theorem Ext.toG {ρ ρ':Loc}{H H':Hp}(x:Ext ρ H ρ' H'):ExtG ρ H ρ' H':=⟨x.len,x.old,x.keep,fun a h=>.inl (by rw[← x.gho];exact h),x.frz⟩
theorem ExtG.then {ρ ρ1 ρ2:Loc}{H H1 H2:Hp}(a:ExtG ρ H ρ1 H1)(b:Ext ρ1 H1 ρ2 H2):ExtG ρ H ρ2 H2 :=
 ⟨xbb a.len b.len,fun n c h e=>a.old n c h (b.old n c (xbh h a.len) e),fun c o e n=>by
  obtain⟨e1,n1⟩:=a.keep c o e n
  exact b.keep c o e1 n1,fun c h=>a.gho c (by rw[← b.gho];exact h),fun c ob u e=>b.frz c ob u (a.frz c ob u e)⟩
theorem ExtG.out {ρ ρ':Loc}{H H':Hp}(x:ExtG ρ H ρ' H'){a:Addr}{o:HO}(h:H a=some o)(n:Out ρ a):H' a=some o/\Out ρ' a :=
 ⟨(x.keep a o h n.1).1,(x.keep a o h n.1).2,fun z=>by
  rcases x.gho a z with q | q
  ·exact n.2 q
  ·rw[h] at q;cases q⟩
theorem ExtG.mv {ρ ρ':Loc}{H H':Hp}(x:ExtG ρ H ρ' H'):Mv ρ H ρ' H':=⟨fun h n=>x.out h n,x.len,x.old⟩
theorem At.extG {K:Fg}{ρ ρ':Loc}{H H':Hp}(x:ExtG ρ H ρ' H'){d:D}{v:V}(h:At K ρ H d v):At K ρ' H' d v:=h.mv x.mv
theorem Ls.extG {K:Fg}{ρ ρ':Loc}{H H':Hp}{a:Addr}{vs:List V}(x:ExtG ρ H ρ' H')(h:Ls K ρ H a vs):Ls K ρ' H' a vs:=h.mv x.mv
structure ItOk (K:Fg) (ρ:Loc) (H:Hp) (J:It) (xs:List D):Prop where
 item:∀ρ2 H2,ExtG ρ H ρ2 H2->∀(i:Nat) (x:D),xs[i]?=some x->J.go i H2/\∀y H3,J.yld i H2 y H3->Ext ρ2 H2 ρ2 H3/\∀st,Rep K ρ2 st H2->Rep K ρ2 st H3/\At K ρ2 H3 x y
 done:∀ρ2 H2,ExtG ρ H ρ2 H2->∀i:Nat,xs.length<=i->J.stop i H2
noncomputable def iD (K:Fg) (f:SA):TI:=fun τ H R=>∃ρ σ st xs st',AtS K ρ H σ τ/\Rep K ρ st H/\f σ st=.ok xs st'/\∀ρ' H' J,Ext ρ H ρ' H'->Rep K ρ' st' H'->ItOk K ρ' H' J xs->R J H'
noncomputable abbrev DI (X:Cx) (tg iter:Expr) (f:SA):Prop:=PI X tg iter (iD X.K f)
noncomputable def seqV:D->Option (List D)
 | .tup xs=>some xs
 | .lst xs=>some xs
 | .scr xs=>some xs
 | _=>none
noncomputable def aH (f:SE):SA:=fun σ st=>(f σ st).bind fun x st1=>match seqV x with
 | some xs=>.ok xs st1
 | none=>.stuck
noncomputable def rng (lo:Int) (n:Nat):List D:=(List.range n).map fun(i:Nat)=>D.int (lo+i)
noncomputable def iR1 (g:SA):SA:=fun σ st=>(g σ st).bind fun xs st1=>match xs with
 | [.int j]=>if -(2 ^ 62)<=j/\j < 2 ^ 62 then .ok (rng 0 j.toNat) st1 else .stuck
 | _=>.stuck
noncomputable def iR2 (g:SA):SA:=fun σ st=>(g σ st).bind fun xs st1=>match xs with
 | [.int i,.int j]=>if -(2 ^ 62)<=i/\i < 2 ^ 62/\-(2 ^ 62)<=j/\j < 2 ^ 62 then .ok (rng i (j - i).toNat) st1 else .stuck
 | _=>.stuck
theorem zrr {lo:Int}{n i:Nat}{x:D}(h:(rng lo n)[i]?=some x):i < n/\x=.int (lo+i):=by
 unfold rng at h;rw[xcd] at h;rcases xge i n with z | z
 ·rw[xig z] at h;exact⟨z,(xcl h).symm⟩
 ·rw[xem (by rw[xgp];exact z)] at h;cases h
theorem zbfa {K:Fg}{ρ:Loc}{H:Hp}{lo:Int}{n:Nat}:ItOk K ρ H (Itr lo n) (rng lo n) where
 item:=fun ρ2 H2 x i d e=>by
  obtain⟨h1,rfl⟩:=zrr e;refine⟨h1,fun y H3 hy=>?_⟩;obtain⟨rfl,rfl⟩:=hy;exact⟨.refl _ _,fun _ r=>⟨r,.int _⟩⟩
 done:=fun ρ2 H2 x i h=>by
  unfold rng at h;rw[xbd,xgp] at h;exact h
section
variable {X:Cx}{tg l a b:Expr}{f:SE}{g:SA}{p pos:Pos}
theorem zbby {t t':TI}(h:PI X tg l t)(k:∀τ H R,t' τ H R->t τ H R):PI X tg l t':=fun aU s σ H R I q=>h aU s σ H R I (k _ _ _ q)
theorem zbms {t t':TI}(h:PI X tg l t)(h':PI X tg l t'):PI X tg l (fun τ H R=>t τ H R\/t' τ H R):=fun aU s σ H R I q=>by
 rcases q with q | q
 ·exact h aU s σ H R I q
 ·exact h' aU s σ H R I q
theorem zyc {K:Fg}{ρ:Loc}{H:Hp}{p:Addr}{xs:List D}{vs:List V}(hs:∀ρ2 H2,ExtG ρ H ρ2 H2->SqL K H2 p vs)(al:AtAll K ρ H xs vs):ItOk K ρ H (Itl K p) xs where
 item:=fun ρ2 H2 x i d e=>by
  obtain⟨v,hv,a⟩:=al.get e;refine⟨⟨vs,v,hs _ _ x,hv⟩,fun y H3 hy=>?_⟩;obtain⟨rfl,h2⟩:=hy;have:=h2 vs (hs _ _ x);rw[hv] at this;cases this;exact⟨.refl _ _,fun _ r=>⟨r,a.extG x⟩⟩
 done:=fun ρ2 H2 x i h=>⟨vs,hs _ _ x,by rw[al.length];exact h⟩
theorem zblt {K:Fg}{ρ:Loc}{H:Hp}{p:Addr}{xs:List D}{vs:List V}(hs:∀ρ2 H2,ExtG ρ H ρ2 H2->SqT K H2 p vs)(al:AtAll K ρ H xs vs):ItOk K ρ H (Itt K p) xs where
 item:=fun ρ2 H2 x i d e=>by
  obtain⟨v,hv,a⟩:=al.get e;refine⟨⟨vs,v,hs _ _ x,hv⟩,fun y H3 hy=>?_⟩;obtain⟨rfl,h2⟩:=hy;have:=h2 vs (hs _ _ x);rw[hv] at this;cases this;exact⟨.refl _ _,fun _ r=>⟨r,a.extG x⟩⟩
 done:=fun ρ2 H2 x i h=>⟨vs,hs _ _ x,by rw[al.length];exact h⟩
theorem zbkr (hl:DE X l f):DI X tg l (aH f):=zbby (zbms (zbdg hl) (zbio hl)) fun τ H R hq0=>by
 obtain⟨ρ,σ,st,xs,st',a,rp,e,q⟩:=hq0;obtain⟨x,st1,e1,e⟩:=zc e;cases x with
 | tup ys =>
  cases e;refine .inr ⟨ρ,σ,st,_,_,a,rp,e1,fun ρ1 H1 u x1 rp1 a1=>?_⟩;cases a1 with
  | tup h1 h2 h3=>exact⟨_,rfl,⟨_,SqT.of h1⟩,q _ _ _ x1 rp1 (zblt (fun ρ2 H2 x2=>SqT.of (x2.out h1 h2).1) h3)⟩
 | lst ys =>
  cases e;refine .inl ⟨ρ,σ,st,_,_,a,rp,e1,fun ρ1 H1 u x1 rp1 a1=>?_⟩;cases a1 with
  | lst h1 h2 h3=>exact⟨_,rfl,⟨_,SqL.of h1⟩,q _ _ _ x1 rp1 (zyc (fun ρ2 H2 x2=>SqL.of (x2.out h1 h2).1) h3)⟩
 | scr ys =>
  cases e;refine .inl ⟨ρ,σ,st,_,_,a,rp,e1,fun ρ1 H1 u x1 rp1 a1=>?_⟩;cases a1 with
  | scr h1 h3=>exact⟨_,rfl,⟨_,h1.sq⟩,q _ _ _ x1 rp1 (zyc (fun ρ2 H2 x2=>(h1.extG x2).sq) h3)⟩
 | _=>cases e
theorem zwg (hg:Gl X "range")(hm:X.mg "range"=none)(ha:DA X [a] g)(hs:starEach [a] X.env=[(false, eval a X.env)]:=by rfl):DI X tg (.Call (.Name "range" p) [a] [] pos) (iR1 g) :=
 zbby (zvh hg hm ha hs) fun τ H R hq0=>by
 obtain⟨ρ,σ,st,xs,st',a,rp,e,q⟩:=hq0;obtain⟨x,st1,e1,e⟩:=zc e;split at e
 ·split at e
  ·rename_i hj;cases e;refine⟨ρ,σ,st,_,_,a,rp,e1,fun ρ1 H1 u x1 rp1 a1=>?_⟩;obtain⟨w,rfl,a2⟩:=a1.one;cases a2;exact⟨_,rfl,hj.1,hj.2,q _ _ _ x1 rp1 zbfa⟩
  ·cases e
 ·cases e
theorem zwf (hg:Gl X "range")(hm:X.mg "range"=none)(ha:DA X [a, b] g)(hs:starEach [a, b] X.env=[(false, eval a X.env),(false, eval b X.env)]:=by rfl)(hs2:starEach [b] X.env=[(false, eval b X.env)]:=by rfl):DI X tg (.Call (.Name "range" p) [a, b] [] pos) (iR2 g) :=
 zbby (zvg hg hm ha hs hs2) fun τ H R hq0=>by
 obtain⟨ρ,σ,st,xs,st',a,rp,e,q⟩:=hq0;obtain⟨x,st1,e1,e⟩:=zc e;split at e
 ·split at e
  ·rename_i hj;cases e;refine⟨ρ,σ,st,_,_,a,rp,e1,fun ρ1 H1 u x1 rp1 a1=>?_⟩;obtain⟨w,w2,rfl,a2,a3⟩:=a1.two;cases a2;cases a3;exact⟨_,_,rfl,hj,q _ _ _ x1 rp1 zbfa⟩
  ·cases e
 ·cases e
end
noncomputable def iDict (f:SE):SA:=fun σ st=>(f σ st).bind fun x st1=>match x with
 | .ref n=>match st1[n]? with
  | some (.dT kvs)=>.ok (aJ (kvs.map (·.1))) (st1.set n (.fT kvs))
  | _=>.stuck
 | _=>.stuck
section
variable {X:Cx}{tg l:Expr}{f:SE}
theorem zbga (hl:DE X l f):DI X tg l (iDict f):=zbby (zbdh hl) fun τ H R hq0=>by
 obtain⟨ρ,σ,st,xs,st',a,rp,e,q⟩:=hq0;obtain⟨x,st1,e1,e⟩:=zc e;refine⟨ρ,σ,st,x,st1,a,rp,e1,fun ρ1 H1 u x1 rp1 a1=>?_⟩;split at e
 ·rename_i n;split at e
  ·rename_i kvs hn;cases e;obtain⟨p,rfl,hp,vs,g1,g2⟩:=zes rp1 a1 hn (by intro z;cases z);refine⟨p,vs,kvs.map (·.1),rfl,g1,g2.keys,fun ob ps h1 h2=>?_⟩;have E:Ext ρ1 H1 ρ1 (upd H1 p (.frz ob (.dT vs))):=Ext.wr hp (zjt g1) _;have R:Rep X.K ρ1 (st1.set n (.fT kvs)) (upd H1 p (.frz ob (.dT vs))):=rp1.wr hp (zjt g1) ⟨vs,ob,zbc,g2.ext E⟩;refine q _ _ _ (x1.trans E) R ⟨fun ρ2 H2 x2 i d e=>?_,fun ρ2 H2 x2 i h=>?_⟩
   ·have e2:(ps.map (·.2))[i]?=(kvs.map (·.1))[i]?:=by rw[h1]
    unfold aJ at e;rw[xcd,← e2,xcd] at e;cases hi:ps[i]? with
    | none=>rw[hi] at e;cases e
    | some x =>
     rw[hi] at e;cases e;refine⟨⟨(xbc.mp hi).1,x2.frz _ _ _ zbc⟩,fun y H3 hy=>?_⟩;obtain⟨rfl,x',hx',rfl⟩:=hy;rw[hi] at hx';cases hx';have ht:=h2 x (xbo hi);have a3:At X.K ρ1 H1 (aL x.2) (.ref x.1):=.tup ht (zkt rp1 ht) (zkz _);exact⟨.refl _ _,fun _ r=>⟨r,(a3.ext E).extG x2⟩⟩
   ·have e2:=congrArg List.length h1;rw[xbd] at e2;unfold aJ at h;rw[xbd,← e2] at h;exact⟨h,x2.frz _ _ _ zbc⟩
  ·cases e
 ·cases e
end
noncomputable def forF (bd:SG) (body:SS):List D->SS
 | [],σ,st=>.ok (.nx σ) st
 | x::xs,σ,st=>match bd x σ with
  | none=>.stuck
  | some σ1=>match body σ1 st with
   | .ok (.nx σ2) st2=>forF bd body xs σ2 st2
   | .ok (.ct σ2) st2=>forF bd body xs σ2 st2
   | .ok (.brk σ2) st2=>.ok (.nx σ2) st2
   | r=>r
noncomputable def sFor (it:SA) (bd:SG) (body:SS):SS:=fun σ st=>(it σ st).bind fun xs st1=>forF bd body xs σ st1
noncomputable def whileF (c:ST) (body:SS):Nat->SS
 | 0,_,_=>.stuck
 | n+1,σ,st=>(c σ st).bind fun b st1=>if b=true then(match body σ st1 with
  | .ok (.nx σ2) st2=>whileF c body n σ2 st2
  | .ok (.ct σ2) st2=>whileF c body n σ2 st2
  | .ok (.brk σ2) st2=>.ok (.nx σ2) st2
  | r=>r) else .ok (.nx σ) st1
noncomputable def wCap:Nat:=1000000
noncomputable def sWhile (c:ST) (body:SS):SS:=whileF c body wCap
theorem zxt {α:Type}{xs:List α}{i:Nat}(h:i < xs.length):∃x,xs[i]?=some x/\xs.drop i=x::xs.drop (i+1):=⟨xs[i],xbe h,xcw h⟩
section
variable {X:Cx}{tg iter c:Expr}{body:List Stmt}{it:SA}{bd:SG}{b:SS}{t:ST}{pos:Pos}
theorem zbkp (hp:PassesOwn (model X.prog X.w) X.A X.env X.xe)(hc:X.calm=true)(hi:DI X tg iter it)(hg:DG X tg bd)(hb:DSs X body b)(hs:∀x,foldedSetIterable iter X.env x=pure x:=by intro _;rfl) :
  DSt X (.For tg iter body [] pos) (sFor it bd b):=zvc (zbim hp hc hi hg hb hs) fun E τ H hq0=>by
 obtain⟨ρ,σ,st,fl,st',a,rp,e,q⟩:=hq0;obtain⟨xs,st1,e1,e⟩:=zc e;refine⟨ρ,σ,st,xs,st1,a,rp,e1,fun ρ1 H1 J x1 rp1 ok=>?_⟩;have q1:=q.ext x1;refine⟨fun i m τ' H'=>i+m=xs.length/\∃ρ2 σ2 st2,Ext ρ1 H1 ρ2 H'/\AtS X.K ρ2 H' σ2 τ'/\Rep X.K ρ2 st2 H'/\forF bd b (xs.drop i) σ2 st2=.ok fl st',⟨xs.length,by lia,ρ1,σ,st1,.refl _ _,a.ext x1,rp1,e⟩,?_⟩;rintro i m τ' H' ⟨him,ρ2,σ2,st2,x2,a2,rp2,e2⟩;rcases xge i xs.length with hlt | hge
 ·obtain⟨x,hx,hd⟩:=zxt hlt;rw[hd] at e2;obtain⟨go,yl⟩:=ok.item ρ2 H' x2.toG i x hx;refine .inr ⟨go,fun τ3 H3=>∃ρ3 σ3 st3,Ext ρ1 H1 ρ3 H3/\AtS X.K ρ3 H3 σ3 τ3/\Rep X.K ρ3 st3 H3/\forF bd b (xs.drop (i+1)) σ3 st3=.ok fl st',fun τ3 H3 ⟨ρ3,σ3,st3,n1,n2,n3,n4⟩=>⟨m - 1,by lia,by lia,ρ3,σ3,st3,n1,n2,n3,n4⟩,fun y H3 hy=>?_⟩;obtain⟨y1,y4⟩:=yl y H3 hy;obtain⟨y2,y3⟩:=y4 _ rp2;unfold forF at e2;cases hbd:bd x σ2 with
  | none=>rw[hbd] at e2;cases e2
  | some σ1 =>
   rw[hbd] at e2;dsimp only at e2;have X3:=x2.trans y1;refine⟨ρ2,σ2,x,σ1,a2.ext y1,y3,hbd,fun τ4 a4=>?_⟩;cases hr:b σ1 st2 with
   | stuck=>rw[hr] at e2;cases e2
   | exc z w=>rw[hr] at e2;cases e2
   | ok fb st3 =>
    rw[hr] at e2;refine⟨ρ2,σ1,st2,fb,st3,a4,y2,hr,?_⟩;cases fb with
    | nx σ3=>exact fun ρ' H'' τ5 x5 rp5 a5=>⟨ρ',σ3,st3,X3.trans x5,a5,rp5,e2⟩
    | ct σ3=>exact fun ρ' H'' τ5 x5 rp5 a5=>⟨ρ',σ3,st3,X3.trans x5,a5,rp5,e2⟩
    | brk σ3 =>
     dsimp only at e2;cases e2;exact fun ρ' H'' τ5 x5 rp5 a5=>q1 _ _ _ (X3.trans x5) rp5 a5
    | ret v =>
     dsimp only at e2;cases e2;exact fun ρ' H'' u x5 rp5 a5=>q1 _ _ _ (X3.trans x5) rp5 a5
 ·rw[xho hge] at e2;unfold forF at e2;cases e2;exact .inl ⟨ok.done ρ2 H' x2.toG i hge,q1 _ _ _ x2 rp2 a2⟩
theorem zban (hp:PassesOwn (model X.prog X.w) X.A X.env X.xe)(hc:DT X c t)(hb:DSs X body b):DSt X (.While c body [] pos) (sWhile t b):=zvc (zyv hp hc hb) fun E τ H hq0=>by
 obtain⟨ρ,σ,st,fl,st',a,rp,e,q⟩:=hq0;unfold sWhile at e;generalize wCap=n at e;refine⟨fun m τ' H'=>∃ρ2 σ2 st2,Ext ρ H ρ2 H'/\AtS X.K ρ2 H' σ2 τ'/\Rep X.K ρ2 st2 H'/\whileF t b m σ2 st2=.ok fl st',⟨n,ρ,σ,st,.refl _ _,a,rp,e⟩,?_⟩;rintro m τ' H' ⟨ρ2,σ2,st2,x2,a2,rp2,e2⟩;cases m with
 | zero=>unfold whileF at e2;cases e2
 | succ m =>
  unfold whileF at e2;obtain⟨x,st3,e3,e4⟩:=zc e2;refine⟨ρ2,σ2,st2,x,st3,a2,rp2,e3,fun ρ3 H3 x3 rp3=>?_⟩;have X3:=x2.trans x3;cases x with
  | false =>
   rw[if_neg (by decide)] at e4;cases e4;exact iteF (q _ _ _ X3 rp3 (a2.ext x3))
  | true =>
   rw[if_pos rfl] at e4;refine iteT ⟨fun τ4 H4=>∃ρ4 σ4 st4,Ext ρ H ρ4 H4/\AtS X.K ρ4 H4 σ4 τ4/\Rep X.K ρ4 st4 H4/\whileF t b m σ4 st4=.ok fl st',fun τ4 H4 hh=>⟨m,xjk m,hh⟩,?_⟩;cases hr:b σ2 st3 with
   | stuck=>rw[hr] at e4;cases e4
   | exc z w=>rw[hr] at e4;cases e4
   | ok fb st5 =>
    rw[hr] at e4;refine⟨ρ3,σ2,st3,fb,st5,a2.ext x3,rp3,hr,?_⟩;cases fb with
    | nx σ3=>exact fun ρ' H'' τ5 x5 rp5 a5=>⟨ρ',σ3,st5,X3.trans x5,a5,rp5,e4⟩
    | ct σ3=>exact fun ρ' H'' τ5 x5 rp5 a5=>⟨ρ',σ3,st5,X3.trans x5,a5,rp5,e4⟩
    | brk σ3 =>
     dsimp only at e4;cases e4;exact fun ρ' H'' τ5 x5 rp5 a5=>q _ _ _ (X3.trans x5) rp5 a5
    | ret v =>
     dsimp only at e4;cases e4;exact fun ρ' H'' u x5 rp5 a5=>q _ _ _ (X3.trans x5) rp5 a5
end
noncomputable def compF (bd:SG) (c:ST) (f:SE):List D->DS->Store->Res (List D)
 | [],_,st=>.ok [] st
 | x::xs,σ,st=>match bd x σ with
  | none=>.stuck
  | some σ1=>(c σ1 st).bind fun b st1=>if b=true then(f σ1 st1).bind fun y st2=>(compF bd c f xs σ1 st2).bind fun ys st3=>.ok (y::ys) st3 else compF bd c f xs σ1 st1
noncomputable def aT (k:Nat) (is:List Nat) (σ:DS):DS:=List.replicate k none++is.map fun i=>(σ[i]?).getD none
noncomputable def aG (it:SA) (k:Nat) (is:List Nat) (bd:SG) (c:ST) (f:SE):SE:=fun σ st=>(it σ st).bind fun xs st1=>if xs.length<=sizeLine then(compF bd c f xs (aT k is σ) st1).bind fun ys st2=>.ok (.lst ys) st2 else .stuck
noncomputable def aI:ST:=fun _ st=>.ok true st
theorem AtS.start {K:Fg}{ρ:Loc}{H:Hp}{σ:DS}{τ:St}(h:AtS K ρ H σ τ)(k:Nat)(is:List Nat):AtS K ρ H (aT k is σ) (startC k is τ):=by
 have app:∀{a c:DS} {b d:St},AtS K ρ H a b->AtS K ρ H c d->AtS K ρ H (a++c) (b++d):=fun h1 h2=>by
  induction h1 with
  | nil=>exact h2
  | cons r t ih=>exact .cons r ih
 refine app ?_ ?_
 ·induction k with
  | zero=>exact .nil
  | succ k ih=>exact .cons (fun d e=>nomatch e) ih
 ·induction is with
  | nil=>exact .nil
  | cons i is ih =>
   refine .cons (fun d e=>?_) ih;have e:(σ[i]?).getD none=some d:=e;have e':σ[i]?=some (some d):=by
    cases q:σ[i]? with
    | none=>rw[q] at e;cases e
    | some o=>rw[q] at e;exact congrArg some e
   obtain⟨u,hu,a⟩:=h.get e';exact⟨u,by show(τ[i]?).getD none=some u;rw[hu];rfl,a⟩
noncomputable def Loc.with (ρ:Loc) (p:Addr):Loc:=⟨ρ.m,p::ρ.g⟩
theorem zbce {ρ:Loc}{H:Hp}{p:Addr}{o:HO}(hp:H p=none):Mv ρ H (ρ.with p) (upd H p o):=⟨fun e n=>⟨by rw[zr (zq e hp)];exact e,n.1,fun z=>by
 rcases xbr.mp z with z | z
 ·exact zq e hp z
 ·exact n.2 z⟩,xbf _,fun _ _ _ e=>e⟩
theorem At.with {K:Fg}{ρ:Loc}{H:Hp}{p:Addr}{o:HO}(hp:H p=none){d:D}{v:V}(h:At K ρ H d v):At K (ρ.with p) (upd H p o) d v:=h.mv (zbce hp)
theorem zxr {ρ ρ':Loc}{H:Hp}{p:Addr}{o:HO}(hm:ρ'.m=ρ.m)(hg:p∈ρ.g)(hs:∀a,a∈ρ'.g->a∈ρ.g):Mv ρ H ρ' (upd H p o):=⟨fun e n=>⟨by rw[zr (by rintro rfl;exact n.2 hg)];exact e,by rw[hm];exact n.1,fun z=>n.2 (hs _ z)⟩,by rw[hm];exact xbf _,fun _ _ _ e=>by rw[hm] at e;exact e⟩
theorem At.grow {K:Fg}{ρ ρ':Loc}{H:Hp}{p:Addr}{o:HO}(hm:ρ'.m=ρ.m)(hg:p∈ρ.g)(hs:∀a,a∈ρ'.g->a∈ρ.g){d:D}{v:V}(h:At K ρ H d v):At K ρ' (upd H p o) d v:=h.mv (zxr hm hg hs)
theorem AtAll.grow {K:Fg}{ρ ρ':Loc}{H:Hp}{p:Addr}{o:HO}(hm:ρ'.m=ρ.m)(hg:p∈ρ.g)(hs:∀a,a∈ρ'.g->a∈ρ.g){d:List D}{v:List V}(h:AtAll K ρ H d v):AtAll K ρ' (upd H p o) d v:=h.mv (zxr hm hg hs)
theorem OAt.map {K:Fg}{ρ ρ':Loc}{H H':Hp}{a:Addr}{x:O}(k:∀d v,At K ρ H d v->At K ρ' H' d v)(fz:∀b ob u,H b=some (.frz ob u)->H' b=some (.frz ob u))(same:H' a=H a)(h:OAt K ρ H x a):OAt K ρ' H' x a:=by
 have ka:∀{d:List D} {v:List V},AtAll K ρ H d v->AtAll K ρ' H' d v:=fun {d v} h=>by
  induction d generalizing v with
  | nil=>cases h;exact .nil
  | cons x xs ih=>cases h with | cons a b=>exact .cons (k _ _ a) (ih b)
 cases x with
 | lst xs=>obtain⟨vs,q,r⟩:=h;exact⟨vs,by rw[same];exact q,ka r⟩
 | dT kvs=>obtain⟨vs,q,r⟩:=h;exact⟨vs,by rw[same];exact q,Paired.mapP r fun p q z=>⟨z.1,k _ _ z.2⟩⟩
 | fT kvs=>obtain⟨vs,ob,q,r⟩:=h;exact⟨vs,ob,by rw[same];exact q,Paired.mapP r fun p q z=>⟨z.1,k _ _ z.2⟩⟩
 | dI kvs=>obtain⟨vs,q,r⟩:=h;exact⟨vs,by rw[same];exact q,Paired.mapP r fun p q z=>⟨z.1,k _ _ z.2⟩⟩
 | dead=>exact h.elim
 | tab=>obtain⟨c,ps,q,r⟩:=h;exact⟨c,ps,by rw[same];exact q,r.map fz⟩
theorem Rep.with {K:Fg}{ρ:Loc}{st:Store}{H:Hp}{p:Addr}(r:Rep K ρ st H)(hp:H p=none)(vs:List V):Rep K (ρ.with p) st (upd H p (.lst vs)) :=
 ⟨r.len,r.inj,fun m b y e1 e2=>by
  have q:=r.obj m b y e1 e2;obtain⟨u,hu⟩:=q.has;exact q.map (fun d v h=>h.with hp) (fun b ob u e=>by rw[zr (zq e hp)];exact e) (zr (zq hu hp)),fun a ha=>by
  rcases xbr.mp ha with rfl | ha
  ·exact⟨⟨vs,zbc⟩,(zku r hp).1⟩
  ·obtain⟨⟨ws,h1⟩,h2⟩:=r.gh a ha
   exact⟨⟨ws,by rw[zr (zq h1 hp)];exact h1⟩,h2⟩,r.live⟩
theorem Rep.grow {K:Fg}{ρ ρ':Loc}{st:Store}{H:Hp}{p:Addr}(r:Rep K ρ st H)(hm:ρ'.m=ρ.m)(hg:p∈ρ.g)(hs:∀a,a∈ρ'.g->a∈ρ.g)(vs:List V):Rep K ρ' st (upd H p (.lst vs)) :=
 ⟨by rw[hm];exact r.len,by rw[hm];exact r.inj,fun m b y e1 e2=>by
  rw[hm] at e1;refine(r.obj m b y e1 e2).map (fun d v h=>h.grow hm hg hs) (fun b ob u e=>by rw[zr (by rintro rfl;obtain⟨⟨_,z⟩,_⟩:=r.gh _ hg;rw[e] at z;cases z)];exact e) (zr ?_);rintro rfl;exact(r.gh b hg).2 (xbo e1),fun a ha=>by
  obtain⟨⟨ws,h1⟩,h2⟩:=r.gh a (hs a ha);refine⟨?_,by rw[hm];exact h2⟩;by_cases e:a=p
  ·subst e;exact⟨vs,zbc⟩
  ·exact⟨ws,by rw[zr e];exact h1⟩,by rw[hm];exact r.live⟩
theorem AtS.map {K:Fg}{ρ ρ':Loc}{H H':Hp}{σ:DS}{τ:St}(k:∀d v,At K ρ H d v->At K ρ' H' d v)(h:AtS K ρ H σ τ):AtS K ρ' H' σ τ:=Paired.mapP h fun o v z d e=>by
 obtain⟨u,e1,a⟩:=z d e;exact⟨u,e1,k _ _ a⟩
section
variable {X:Cx}{tg iter elt:Expr}{ifs:List Expr}{it:SA}{bd:SG}{c:ST}{f:SE}{N:List Str}{k:Nat}{is:List Nat}{scope:Scope}{pos:Pos}
inductive CI (K:Fg) (bd:SG) (c:ST) (f:SE) (xs ys:List D) (st2:Store) (ρ1:Loc) (H1:Hp) (p:Addr) (i:Nat) (τ:St) (H':Hp):Prop where
 | mk {ρ2:Loc} {σ2:DS} {st3:Store} {acc:List D} {accV:List V} {zs:List D} (x2:ExtG ρ1 H1 ρ2 H') (hg:ρ2.g=p::ρ1.g) (hpp:H' p=some (.lst accV)) (hal:AtAll K ρ2 H' acc accV) (hli:acc.length<=i) (a2:AtS K ρ2 H' σ2 τ) (rp2:Rep K ρ2 st3 H') (e3:compF bd c f (xs.drop i) σ2 st3=.ok zs st2) (hac:acc++zs=ys):CI K bd c f xs ys st2 ρ1 H1 p i τ H'
theorem zbld {K:Fg}{τ:St}{H:Hp}{Q:V->Hp->Prop}{ρ:Loc}{σ:DS}{st st1 st2:Store}{xs ys:List D}(a:AtS K ρ H σ τ)(rp:Rep K ρ st H)(e1:it σ st=.ok xs st1)(hlen:xs.length<=sizeLine)(e2:compF bd c f xs (aT k is σ) st1=.ok ys st2)
 (fin:∀ρ1 H1 p ρ2 H' accV,Ext ρ H ρ1 H1->Rep K ρ1 st1 H1->H1 p=none->ExtG ρ1 H1 ρ2 H'->ρ2.g=p::ρ1.g->H' p=some (.lst accV)->AtAll K ρ2 H' ys accV->Rep K ρ2 st2 H'->Q (.ref p) H'):tComp (iD K it) k is (gD K bd) (tDT K c) (tD K f) τ H Q:=by
 refine⟨ρ,σ,st,xs,st1,a,rp,e1,fun ρ1 H1 J x1 rp1 ok p hp=>?_⟩
 refine⟨fun i m τ' H'=>i+m=xs.length/\CI K bd c f xs ys st2 ρ1 H1 p i τ' H',
  ⟨xs.length,by lia,.mk ?_ rfl zbc .nil (xeg _) (((a.ext x1).start k is).map fun d v h=>h.with hp) (rp1.with hp []) e2 rfl⟩,?_⟩
 ·have E:Ext ρ1 H1 ρ1 (upd H1 p (.lst [])):=Ext.new hp _
  exact⟨E.len,E.old,E.keep,fun a h=>by
   rcases xbr.mp h with rfl | h
   ·exact .inr hp
   ·exact .inl h,E.frz⟩
 rintro i m τ' H' ⟨him,@⟨ρ2,σ2,st3,acc,accV,zs,x2,hg,hpp,hal,hli,a2,rp2,e3,hac⟩⟩;have hpg:p∈ρ2.g:=by rw[hg];exact xcr
 rcases xge i xs.length with hlt | hge
 ·obtain⟨x,hx,hd⟩:=zxt hlt;rw[hd] at e3;obtain⟨go,yl⟩:=ok.item ρ2 H' x2 i x hx
  refine .inr ⟨go,CI K bd c f xs ys st2 ρ1 H1 p (i+1),
   fun τ4 H4 hh=>⟨m - 1,by lia,by lia,hh⟩,fun y H3 hy=>?_⟩
  obtain⟨y1,y4⟩:=yl y H3 hy;obtain⟨y2,y3⟩:=y4 _ rp2;unfold compF at e3;cases hbd:bd x σ2 with
  | none=>rw[hbd] at e3;cases e3
  | some σ1 =>
   rw[hbd] at e3;dsimp only at e3;obtain⟨bb,st4,e4,e5⟩:=zc e3;refine⟨ρ2,σ2,x,σ1,a2.ext y1,y3,hbd,fun τ4 a4=>?_⟩;have hpm:some p∉ρ2.m:=(rp2.gh p hpg).2;have hpp3:=(y1.keep p _ hpp hpm).1;refine⟨ρ2,σ1,st3,bb,st4,a4,y2,e4,fun ρ5 H5 x5 rp5=>?_⟩;have hpp5:=(x5.keep p _ hpp3 hpm).1;have hal5:=(hal.ext y1).ext x5;have g5:ρ5.g=p::ρ1.g:=x5.gho.trans hg;cases bb with
   | false =>
    rw[if_neg (by decide)] at e5;exact iteF (.mk ((x2.then y1).then x5) g5 hpp5 hal5 (xff hli) (a4.ext x5) rp5 e5 hac)
   | true =>
    rw[if_pos rfl] at e5;obtain⟨w,st6,e6,e7⟩:=zc e5;obtain⟨zs',st7,e8,e9⟩:=zc e7;cases e9;refine iteT ⟨ρ5,σ1,st4,w,st6,a4.ext x5,rp5,e6,fun ρ6 H6 u x6 rp6 a6=>?_⟩;have hpm5:some p∉ρ5.m:=(x5.keep p _ hpp3 hpm).2;have hpp6:=(x6.keep p _ hpp5 hpm5).1;have g6:ρ6.g=p::ρ1.g:=x6.gho.trans g5;have hp6:p∈ρ6.g:=by rw[g6];exact xcr
    have hl6:accV.length<=i:=by rw[hal.length];exact hli
    refine⟨accV,hpp6,xcz hl6 (xbh hlt hlen),.mk (acc:=acc++[w]) (accV:=accV++[u]) ?_ g6 zbc ?_ (by rw[xbq];exact xex hli) ?_ (rp6.grow rfl hp6 (fun _ h=>h) _) e8 (by rw[← hac,xck];rfl)⟩
    ·have G:=((x2.then y1).then x5).then x6;refine⟨G.len,G.old,fun b o e n=>?_,G.gho,fun b ob uu e=>?_⟩
     ·rw[zr (zq e hp)];exact G.keep b o e n
     ·rw[zr (zq e hp)];exact G.frz b ob uu e
    ·exact((hal5.ext x6).append (.cons a6 .nil)).grow rfl hp6 (fun _ h=>h)
    ·exact(a4.ext (x5.trans x6)).map fun d v h=>h.grow rfl hp6 (fun _ h=>h)
 ·rw[xho hge] at e3;unfold compF at e3;cases e3;rw[xet] at hac;subst hac;exact .inl ⟨ok.done _ _ x2 i hge,fin _ _ _ _ _ _ x1 rp1 hp x2 hg hpp hal rp2⟩
theorem zbgp {K:Fg}:∀τ H Q,tD K (aG it k is bd c f) τ H Q->tComp (iD K it) k is (gD K bd) (tDT K c) (tD K f) τ H Q:=fun τ H Q hq0=>by
 obtain⟨ρ,σ,st,v,st',a,rp,e,q⟩:=hq0;obtain⟨xs,st1,e1,e⟩:=zc e;split at e
 ·rename_i hlen;obtain⟨ys,st2,e2,e⟩:=zc e;cases e;refine zbld a rp e1 hlen e2 fun ρ1 H1 p ρ2 H' accV x1 rp1 hp x2 hg hpp hal rp2=>?_
  have hpg:p∈ρ2.g:=by rw[hg];exact xcr
  have hpm:some p∉ρ2.m:=(rp2.gh p hpg).2;have self:upd H' p (.lst accV)=H':=zyh hpp;have sub:∀a,a∈(⟨ρ2.m,ρ1.g⟩:Loc).g->a∈ρ2.g:=fun b hb=>by rw[hg];exact xbi _ hb
  have E:Ext ρ1 H1 ⟨ρ2.m,ρ1.g⟩ H':=⟨x2.len,x2.old,x2.keep,rfl,x2.frz⟩
  have R:=rp2.grow (ρ':=⟨ρ2.m,ρ1.g⟩) rfl hpg sub accV;have L:=AtAll.grow (ρ:=ρ2) (ρ':=⟨ρ2.m,ρ1.g⟩) (o:=.lst accV) rfl hpg sub hal;rw[self] at R L;refine q _ _ _ (x1.trans E) R (.lst hpp ⟨hpm,fun z=>?_⟩ L);obtain⟨⟨ws,h1⟩,_⟩:=rp1.gh p z;rw[hp] at h1;cases h1
 ·cases e
theorem zbla (hcalm:X.calm=true)(hi:DI X tg iter it)(hg:∀cl C fp s H,DG (cxC X N scope cl C fp s H) tg bd)(hc:∀cl C fp s H,PIf (cxC X N scope cl C fp s H) ifs (tDT X.K c))(he:∀cl C fp s H,DE (cxC X N scope cl C fp s H) elt f)
 (S:CompScope X N k is scope)(hs:∀x,foldedSetIterable iter X.env x=pure x:=by intro _;rfl):DE X (.ListComp elt [⟨tg,iter,ifs,0⟩] scope pos) (aG it k is bd c f):=zgt (zbdn hcalm hi hg hc he S hs) zbgp
theorem zbfq {i:Nat}{x:Str}{pos' spos:Pos}(hcalm:X.calm=true)(hN:X.N.Nodup)(hxi:X.N[i]?=some x)(hx:L2.Loc X.env.scope x)(hi:DI X tg iter it)(hg:∀cl C fp s H,DG (cxC X N scope cl C fp s H) tg bd)
  (hc:∀cl C fp s H,PIf (cxC X N scope cl C fp s H) ifs (tDT X.K c))(he:∀cl C fp s H,DE (cxC X N scope cl C fp s H) elt f)(S:CompScope X N k is scope)
  (hsw:swapsWith (.ListComp elt [⟨tg,iter,ifs,0⟩] scope pos) (some (.Name x pos')) spos.line X.env=pure true:=by rfl)
  (hf:X.fn x=true\/X.env.scope.names.lookup x=some .local:=by first | exact .inl rfl | exact .inr rfl | assumption)
  (hs:∀x,foldedSetIterable iter X.env x=pure x:=by intro _;rfl):DSt X (.Assign [.Name x pos'] (.ListComp elt [⟨tg,iter,ifs,0⟩] scope pos) spos) (aF i (aG it k is bd c f)) :=
 zvc (zbcy hcalm hN hxi hx hi hg hc he S hsw hf hs) fun E τ H h=>by
  obtain⟨ρ,σ,st,fl,st',a,rp,e,q⟩:=h;obtain⟨v,st1,e1,e⟩:=zc e;cases e;exact zbgp τ H _ ⟨ρ,σ,st,v,_,a,rp,e1,fun ρ' H' u x r t=>q _ _ _ x r ((a.ext x).set t i)⟩
theorem zbfz {X:Cx}:PIf X [] (tDT X.K aI):=fun aU s σ H Q I hq0=>by
 obtain⟨ρ,σ',st,v,st',a,rp,e,q⟩:=hq0;cases e;exact zbdf aU s σ H Q I (q _ _ (.refl _ _) rp)
theorem zbfy {X:Cx}{c:Expr}{t:ST}(h:DT X c t):PIf X [c] (tDT X.K t):=zbde h
end
end Dd
namespace Dd
open PySem L2 PyProof.Rows
noncomputable def spD (K:Fg) (np:Nat) (F:DFn):Sp:=fun vs H Q _=>∃ρ ds st v st',AtAll K ρ H ds vs/\Rep K ρ st H/\F ds st=.ok v st'/\vs.length=np/\∀ρ' H' u,Ext ρ H ρ' H'->Rep K ρ' st' H'->At K ρ' H' v u->Q u H'
noncomputable def CalD (P:Program) (w:World) (K:Fg) (mg:Str->Option Value) (base:Heap) (x:Str) (k:Nat) (ps:List Str) (F:DFn):Prop:=Callee P w K mg base x k ps (spD K ps.length F)
noncomputable def fnD (n np:Nat) (body:SS):DFn:=fun ds st=>if ds.length=np then(match body (ds.map some++List.replicate (n - np) none) st with
 | .ok (.ret v) st'=>.ok v st'
 | .ok (.nx _) st'=>.ok .non st'
 | .exc x st'=>.exc x st'
 | _=>.stuck) else .stuck
section
variable {X:Cx}{x:Str}{k:Nat}{ps:List Str}{F:DFn}{p pos:Pos}{e:Expr}{es:List Expr}{g:SA}
theorem zble {K:Fg}{np:Nat}{f:SA}(hn:∀ds st v st',F ds st=.ok v st'->ds.length=np):∀τ H Q,tD K (aE F f) τ H Q->tCall (spD K np F) [] E0 (tDA K f) τ H Q:=fun τ H Q hq0=>by
 obtain⟨ρ,σ,st,v,st',a,rp,e,q⟩:=hq0;obtain⟨x,st1,e1,e⟩:=zc e;refine⟨ρ,σ,st,x,st1,a,rp,e1,fun ρ1 H1 u x1 rp1 a1=>?_⟩;show spD K np F (u++[]) H1 Q E0;rw[xet];exact⟨ρ1,x,st1,v,st',a1,rp1,e,by rw[a1.length];exact hn _ _ _ _ e,fun ρ' H' w x2=>q ρ' H' w (x1.trans x2)⟩
theorem zblb (c:CalD X.prog X.w X.K X.mg X.base x k ps F)(hn:∀ ds st v st', F ds st=.ok v st'->ds.length=ps.length)(hr:Room k X.A)(hg:Gl X x)(ha:DA X (e::es) g)(hdb:(x==("__debug__" : Str))=false:=by decide)
 (he:starEach (e::es) X.env=(false,eval e X.env)::starEach es X.env:=by rfl)(hpl:(backTo pos (starEach es X.env)).any (·.1)=false:=by rfl) :
 DE X (.Call (.Name x p) (e::es) [] pos) (aE F g):=zgt (zzh c hr hg ha hdb he hpl) (zble hn)
theorem zi {n np:Nat}{b:SS}{ds:List D}{st st':Store}{v:D}(h:fnD n np b ds st=.ok v st'):ds.length=np:=by
 unfold fnD at h;split at h
 ·assumption
 ·cases h
end
theorem AtAll.some {K:Fg}{ρ:Loc}{H:Hp}:∀{ds:List D} {vs:List V},AtAll K ρ H ds vs->AtS K ρ H (ds.map Option.some) (vs.map Option.some)
 | _,_,.nil=>.nil
 | _,_,.cons a b=>.cons (fun d e=>by cases e;exact⟨_,rfl,a⟩) (AtAll.some b)
theorem AtS.append {K:Fg}{ρ:Loc}{H:Hp}:∀{a c:DS} {b d:L2.St},AtS K ρ H a b->AtS K ρ H c d->AtS K ρ H (a++c) (b++d)
 | _,_,_,_,.nil,h=>h
 | _,_,_,_,.cons r t,h=>.cons r (AtS.append t h)
theorem AtS.nones {K:Fg}{ρ:Loc}{H:Hp}:∀n,AtS K ρ H (List.replicate n none) (List.replicate n none)
 | 0=>.nil
 | n+1=>.cons (fun d e=>nomatch e) (AtS.nones n)
theorem zbgw {K:Fg}{N:List Str}{np:Nat}{b:SS}{vs:List V}{H:Hp}{Q:VK}{E:XK}(h:spD K np (fnD N.length np b) vs H Q E):tDS K b {nx:=fun _ H'=>Q .non H',rt:=Q} (L2.start N vs) H:=by
 obtain⟨ρ,ds,st,v,st',a,rp,e,hl,q⟩:=h;have hd:ds.length=np:=by rw[← a.length];exact hl
 unfold fnD at e;rw[if_pos hd] at e;have as:AtS K ρ H (ds.map Option.some++List.replicate (N.length - np) none) (L2.start N vs):=by
  unfold L2.start;rw[hl];exact a.some.append (.nones _)
 refine⟨ρ,ds.map Option.some++List.replicate (N.length - np) none,st,?_⟩;cases hr:b (ds.map Option.some++List.replicate (N.length - np) none) st with
 | stuck=>rw[hr] at e;cases e
 | exc z w=>rw[hr] at e;cases e
 | ok fl st1 =>
  rw[hr] at e;cases fl with
  | ret w =>
   dsimp only at e;cases e;exact⟨.ret v,st',as,rp,rfl,fun ρ' H' u x r t=>q ρ' H' u x r t⟩
  | nx σ =>
   dsimp only at e;cases e;exact⟨.nx σ,st',as,rp,rfl,fun ρ' H' τ x r t=>q ρ' H' .non x r .non⟩
  | brk σ=>cases e
  | ct σ=>cases e
theorem zbgs {P:Program}{w:World}{K:Fg}{mg:Str->Option Value}{base h:Heap}{x:Str}{st:Stmt}{N ps:List Str}{k:Nat}{b:SS}(T:TopF K x st)(X:K.In h)(G:h.Ns mainGlobals mg)(S:FnScope N ps (defScope st))
  (bd:∀(kV doc pm:Value) (an:Option Addr) (cdv ct:Value) (us:List Value),us.length=ps.length->bindArgs (W.fnOf x x (defArgs st) (defBody st) (defScope st) .none kV doc pm an cdv ct) ⟨us,[]⟩=pure (ps.zip us))
  (hbody:∀(f:Addr) (cdv:Value) (A:Around) (outer:List Env) (s:Shared) (H:Hp) (E:XK),Room k (A.deeper (envOfC x (defScope st) s.heap.objs.size f cdv)) ->
   DSs (cxOf CX0 P w K mg base N x (defScope st) f cdv A outer s H E).nox (defBody st) b):CalD P w K mg base x (k+1) ps (fnD N.length ps.length b) :=
 zwp T X G S bd (fun vs H Q E hh=>by obtain⟨ρ,ds,st,v,st',a,rp,e,hl,q⟩:=hh;exact hl) fun f cdv A outer s H vs Q E hr hh=>⟨_,hbody f cdv A outer s H E hr,zbgw hh⟩
noncomputable def spLaw (K:Fg):Sp:=fun vs H Q _=>∃(a:Addr) (ns:List Int),vs=[.ref a]/\SqL K H a (ns.map V.int)/\ns.length<=63/\∀H',Q (.bl true) H'
theorem zbjq {P:Program}{w:World}{K:Fg}{mg:Str->Option Value}{base:Heap}{st:Stmt}{N ps:List Str}{k:Nat}{b:SS}{f:Addr}{fd:FuncData}(F:Fun K "law" "law" st f fd)(S:FnScope N ps (defScope st))(hp:ps.length=1)
  (hbody:∀(cdv:Value) (A:Around) (outer:List Env) (s:Shared) (H:Hp) (E:XK), Room k (A.deeper (envOfC "law" (defScope st) s.heap.objs.size f cdv)) ->
   DSs (cxOf CX0 P w K mg base N "law" (defScope st) f cdv A outer s H E).nox (defBody st) b)
  (holds:∀ns:List Int,ns.length<=63->∃st',fnD N.length 1 b [.scr (ns.map .int)] []=.ok (.bl true) st'):FnOk P w K mg base CX0 (k+1) f fd ps (spLaw K):=by
 refine F.ok S (fun vs H Q E hh=>?_) (fun cdv A outer s H vs Q E hr hh=>⟨_,hbody cdv A outer s H E hr,?_⟩)
 ·obtain⟨a,ns,rfl,_⟩:=hh;exact hp.symm
 ·obtain⟨a,ns,rfl,hS,hl,q⟩:=hh;obtain⟨st',e⟩:=holds ns hl;refine zbgw (np:=1) (E:=E) ⟨⟨[],[]⟩,[.scr (ns.map .int)],[],_,st',.cons (.scr ?_ (zkz ns)) .nil,⟨rfl,fun n m a e _=>by simp at e,fun n a o e _=>by simp at e,fun a h=>(by cases h),fun n o e _=>by simp at e⟩,e,rfl,fun ρ' H' u x r t=>?_⟩
  ·rcases hS with h | h
   ·exact .inl ⟨h,by simp[Out]⟩
   ·exact .inr fun H'=>.inr h
  ·cases t;exact q H'
end Dd
namespace Dd
open PySem L2
noncomputable def oNeg:D->Store->Res D:=fun x st=>match x with
 | .int i=>.ok (.int (-i)) st
 | _=>.stuck
noncomputable def sStuck:SS:=fun _ _=>.stuck
noncomputable def tru (st:Store):D->Option Bool
 | .non=>some false
 | .bl b=>some b
 | .int i=>some (i != 0)
 | .tup xs=>some !xs.isEmpty
 | d=>(asL st d).map fun xs=>!xs.isEmpty
noncomputable def eTru (f:SE):ST:=fun σ st=>(f σ st).bind fun v st1=>match tru st1 v with
 | some b=>.ok b st1
 | none=>.stuck
theorem zmd {K:Fg}{ρ:Loc}{H:Hp}{ds:List D}{vs:List V}(h:AtAll K ρ H ds vs):ds.isEmpty=vs.isEmpty:=by
 cases h<;>rfl
theorem zbhw {K:Fg}{ρ:Loc}{st:Store}{H:Hp}(rp:Rep K ρ st H){d:D}{u:V}{b:Bool}(a:At K ρ H d u)(e:tru st d=some b):TruV K u H b:=by
 unfold tru at e;split at e
 ·cases a;cases e;exact rfl
 ·cases a;cases e;exact rfl
 ·cases a;cases e;exact rfl
 ·cases e;cases a with
  | tup h1 h2 h3=>exact .inr (.inl ⟨_,SqT.of h1,by rw[zmd h3]⟩)
 ·obtain⟨xs,h0,rfl⟩:=xcv.mp e;obtain⟨p,vs,rfl,h1,h2⟩:=zjc rp a h0;exact .inl ⟨_,SqL.of h1,by rw[zmd h2]⟩
section
variable {X:Cx}{a b c e:Expr}{f f' f'':SE}{pos:Pos}{sm:Stmt}
theorem zbny (h:DE X a f):DE X (.UnaryOp .USub a pos) (eUn oNeg f):=zgt (zbmt zbht h) fun τ H Q hq0=>by
 obtain⟨ρ,σ,st,v,st',at',rp,e,q⟩:=hq0;obtain⟨x,st1,e1,e⟩:=zc e;refine⟨ρ,σ,st,x,st1,at',rp,e1,fun ρ1 H1 u x1 rp1 a1=>?_⟩;cases x<;>try (cases e;done)
 cases e;cases a1;exact⟨_,rfl,q _ _ _ x1 rp1 (.int _)⟩
theorem zbam {op op':CmpOp}{r r':R2}{g g':D->D->Store->Res D}(ho:OpR X (compareOp op) r)(ho':OpR X (compareOp op') r')(hr:OpD X.K g r)(hr':OpD X.K g' r')(ha:DE X a f)(hb:DE X b f')(hc:DE X c f'')
 (hm:lastMarks [op,op'] [b,c]=false:=by with_unfolding_all rfl):DT X (.Compare a [op,op'] [b,c] pos) (eB (eChain g g' f f' f'')):=zbbx (zyt ho ho' ha hb hc hm) fun τ H Q h=>zbgq hr hr' _ _ _ (eB_t _ _ _ h)
theorem zbaq:DSt X sm sStuck:=fun aU s σ H E I ⟨ρ,σ',st,fl,st',a,rp,e,q⟩=>by cases e
theorem zbki (h:DE X a f)(he:∀whole,isTrue a X.env whole=(do let v ← whole;standAt a.pos;holding [v] (truthy v)):=by intro _;rfl):DT X a (eTru f):=zbbx (zrz h he) fun τ H Q hq0=>by
 obtain⟨ρ,σ,st,v,st',at',rp,e,q⟩:=hq0;obtain⟨x,st1,e1,e⟩:=zc e;refine⟨ρ,σ,st,x,st1,at',rp,e1,fun ρ1 H1 u x1 rp1 a1=>?_⟩;split at e
 ·rename_i bb hb;cases e;exact⟨_,zbhw rp1 a1 hb,q _ _ x1 rp1⟩
 ·cases e
end
end Dd
namespace Dd
open PySem PySem.Spec PyProof.Rows L2
noncomputable def numF:Int->List D->List D
 | _,[]=>[]
 | n,x::xs=>.tup [.int n,x]::numF (n+1) xs
noncomputable def iEnum (f:SE):SA:=fun σ st=>(f σ st).bind fun x st1=>match x with
 | .tup xs=>.ok (numF 1 xs) st1
 | _=>.stuck
theorem znp:∀{xs:List D} {n:Int} {i:Nat} {d:D},(numF n xs)[i]?=some d->∃x,xs[i]?=some x/\d=.tup [.int (n+i),x]
 | [],_,_,_,h=>by simp[numF] at h
 | x::xs,n,0,d,h=>by
  simp[numF] at h;exact⟨x,rfl,by rw[← h];simp⟩
 | x::xs,n,i+1,d,h=>by
  simp only[numF,xhc] at h;obtain⟨y,h1,h2⟩:=znp h;exact⟨y,by simpa using h1,by rw[h2];congr 3;push_cast;lia⟩
theorem zfb:∀{xs:List D} {n:Int},(numF n xs).length=xs.length
 | [],_=>rfl
 | _::xs,n=>by simp[numF,zfb (xs:=xs)]
section
variable {X:Cx}{l:Expr}{f:SE}{elts:List Expr}{k j:Nat}{tpos p pos kpos cpos:Pos}
theorem zbaw (hg:Gl X "enumerate")(hm:X.mg "enumerate"=none)(hl:DE X l f)(he:starEach [l] X.env=[(false, eval l X.env)]:=by rfl) :
  DI X (.Tuple elts k tpos) (.Call (.Name "enumerate" p) [l] [⟨some "start", .Constant (.int 1) j cpos, kpos⟩] pos) (iEnum f):=zbby (zyz hg hm hl he) fun τ H R hq0=>by
 obtain⟨ρ,σ,st,xs,st',a,rp,e,q⟩:=hq0;obtain⟨x,st1,e1,e⟩:=zc e;refine⟨ρ,σ,st,x,st1,a,rp,e1,fun ρ1 H1 u x1 rp1 a1=>?_⟩;split at e
 ·rename_i ys;cases e;cases a1 with
  | tup h1 h2 h3 =>
   refine⟨_,rfl,⟨_,SqT.of h1⟩,q _ _ _ x1 rp1 ⟨fun ρ2 H2 x2 i d e=>?_,fun ρ2 H2 x2 i h=>?_⟩⟩
   ·obtain⟨z,hz,rfl⟩:=znp e;obtain⟨v,hv,av⟩:=h3.get hz;refine⟨⟨_,v,SqT.of (x2.out h1 h2).1,hv⟩,fun y H3 hy=>?_⟩;obtain⟨p,hp,rfl,hH⟩:=hy;rw[hH _ _ (SqT.of (x2.out h1 h2).1) hv];refine⟨Ext.new hp _,fun st rp2=>⟨rp2.new hp _,?_⟩⟩;have e3:(1:Int)+(i:Int)=((i+1:Nat):Int):=by push_cast;lia
    rw[e3];exact At.newT rp2 hp (.cons (.int _) (.cons (av.extG x2) .nil))
   ·rw[zfb] at h;exact⟨_,SqT.of (x2.out h1 h2).1,by rw[h3.length];exact h⟩
 ·cases e
end
end Dd
namespace Dd
open PySem L2
noncomputable def bInt:List D->Store->Res D:=fun xs st=>match xs with
 | [.int i]=>.ok (.int i) st
 | [.bl k]=>.ok (.int (if k then 1 else 0)) st
 | _=>.stuck
noncomputable def eCompM (it:SA) (k:Nat) (is:List Nat) (bd:SG) (c:ST) (f:SE):SE:=fun σ st=>(it σ st).bind fun xs st1=>if xs.length<=sizeLine then(compF bd c f xs (aT k is σ) st1).bind fun ys st2=>.ok (.ref st2.length) (st2++[.lst ys]) else .stuck
section
variable {X:Cx}{tg iter elt:Expr}{ifs:List Expr}{it:SA}{bd:SG}{c:ST}{f:SE}{N:List Str}{k:Nat}{is:List Nat}{scope:Scope}{pos:Pos}
end
noncomputable def plainE:Expr->Bool
 | .Starred _ _=>false
 | _=>true
theorem zrg {e:Expr}{es:List Expr}{env:Env}(h:plainE e=true):starEach (e::es) env=(false,eval e env)::starEach es env:=by
 cases e<;>first | rfl | cases h
theorem zbaz {X:Cx}{e:Expr}{es:List Expr}{f:SE}{g:SA}(ha:DE X e f)(hr:DA X es g)(hp:plainE e=true:=by rfl):DA X (e::es) (aB f g):=zbgf ha hr (zrg hp)
noncomputable def bBest (gt:Bool):List D->Store->Res D:=fun xs st=>match xs with
 | [x]=>match (seqOf st x).bind asInts with
  | some (n::ns)=>.ok (.int (bestI gt n ns)) st
  | _=>.stuck
 | _=>.stuck
noncomputable def pairsF:List D->List D->List D
 | x::xs,y::ys=>.tup [x,y]::pairsF xs ys
 | _,_=>[]
noncomputable def iZipT (g:SA):SA:=fun σ st=>(g σ st).bind fun xs st1=>match xs with
 | [.tup a,.tup b]=>.ok (pairsF a b) st1
 | _=>.stuck
section
variable {X:Cx}{a b:Expr}{g:SA}{elts:List Expr}{k:Nat}{tpos p pos:Pos}
end
noncomputable def sSetG (bd:SG) (f:SE):SS:=fun σ st=>(f σ st).bind fun v st1=>match bd v σ with
 | some σ1=>.ok (.nx σ1) st1
 | none=>.stuck
end Dd
namespace Dd
open PySem L2 PyProof.Rows
structure JE (X:Cx) (e:Expr) (f:SE):Prop where out:DE X e f
structure JT (X:Cx) (e:Expr) (f:ST):Prop where out:DT X e f
structure JW (X:Cx) (e:Expr) (f:ST):Prop where out:DW X e f
structure JA (X:Cx) (e:List Expr) (f:SA):Prop where out:DA X e f
structure JS (X:Cx) (s:Stmt) (f:SS):Prop where out:DSt X s f
structure JB (X:Cx) (s:List Stmt) (f:SS):Prop where out:DSs X s f
structure JO (X:Cx) (e:Option Expr) (f:DS->Store->Res (Option Int)):Prop where out:DO X e f
structure JG (X:Cx) (e:Expr) (b:SG):Prop where out:DG X e b
structure JGs (X:Cx) (e:List Expr) (b:List D->DS->Option DS):Prop where out:DGs X e b
structure JI (X:Cx) (tg iter:Expr) (f:SA):Prop where out:DI X tg iter f
structure JIf (X:Cx) (ifs:List Expr) (c:ST):Prop where out:PIf X ifs (tDT X.K c)
structure JC (X:Cx) (op:CmpOp) (a b:Expr) (f:SE):Prop where out:PC X op a b (tD X.K f)
theorem JW.pt {X:Cx}{e:Expr}{t:ST}(h:JW X e t):JT X e t:=⟨PW.pt h.out⟩
section
variable {X:Cx}
theorem zb {e:Expr}{i:Nat}(h:PE X e (tVar i)):JE X e (aA i):=⟨zbnr h⟩
theorem znv {e:Expr}{v:V}{d:D}(h:PE X e (tC v))(k:∀ρ H,At X.K ρ H d v):JE X e (eC d):=⟨zbhp h k⟩
theorem zk {i j pos}:JE X (.Constant (.int i) j pos) (eC (.int i)):=⟨zboa⟩
theorem zti {b j pos}:JE X (.Constant (.bool b) j pos) (eC (.bl b)):=⟨d_bl⟩
theorem zbgh {j pos}:JE X (.Constant .none j pos) (eC .non):=⟨zbnx⟩
end
section
variable {X:Cx}{a b c:Expr}{f f' f'':SE}{pos:Pos}
theorem zbv {op:Operator}{r:R2}{g:D->D->Store->Res D}(ho:OpR X (binaryOp op) r)(hr:OpD X.K g r)(ha:JE X a f)(hb:JE X b f'):JE X (.BinOp a op b pos) (aS g f f'):=⟨d_op ho hr ha.out hb.out⟩
theorem zbgk {op:CmpOp}{r:R2}{g:D->D->Store->Res D}(ho:OpR X (compareOp op) r)(hr:OpD X.K g r)(ha:JE X a f)(hb:JE X b f')(hm:behindInMarks op b=false):JE X (.Compare a [op] [b] pos) (aS g f f'):=⟨zboe ho hr ha.out hb.out hm⟩
theorem zdf {op:CmpOp}{r:R2}{g:D->D->Store->Res D}(ho:OpR X (compareOp op) r)(hr:OpD X.K g r)(ha:JE X a f)(hb:JE X b f')(hm:behindInMarks op b=false):JT X (.Compare a [op] [b] pos) (eB (aS g f f')):=⟨zbkk ho hr ha.out hb.out hm⟩
end
section
variable {X:Cx}{a b:Expr}{rest:List Expr}{f f':SE}{t t':ST}{pos:Pos}
theorem zbbc {op}(h:JE X a f):JE X (.BoolOp op [a] pos) f:=⟨zbnv h.out⟩
theorem zbbj (ha:JE X a f)(hb:JE X (.BoolOp .And (b::rest) pos) f'):JE X (.BoolOp .And (a::b::rest) pos) (eAnd f f'):=⟨zbof ha.out hb.out⟩
theorem zbnu (ha:JE X a f)(hb:JE X (.BoolOp .Or (b::rest) pos) f'):JE X (.BoolOp .Or (a::b::rest) pos) (eOr f f'):=⟨d_or ha.out hb.out⟩
theorem zbbd (ha:JE X a f):JE X (.UnaryOp .Not a pos) (eNot f):=⟨zbnw ha.out⟩
theorem zmf {op}(h:JT X a t)(hop:op=.And\/op=.Or):JW X (.BoolOp op [a] pos) t:=⟨zbkg h.out hop⟩
theorem zbfn (ha:JT X a t)(hb:JW X (.BoolOp .And (b::rest) pos) t'):JW X (.BoolOp .And (a::b::rest) pos) (bAnd t t'):=⟨zbkh ha.out hb.out⟩
theorem zwd (ha:JT X a t)(hb:JW X (.BoolOp .Or (b::rest) pos) t'):JW X (.BoolOp .Or (a::b::rest) pos) (bOr t t'):=⟨zbno ha.out hb.out⟩
theorem zge (ha:JT X a t):JT X (.UnaryOp .Not a pos) (bNot t):=⟨zbkj ha.out⟩
theorem zboc {c:Expr}(hc:JT X c t)(ha:JE X a f)(hb:JE X b f'):JE X (.IfExp c a b pos) (eIf t f f'):=⟨d_if hc.out ha.out hb.out⟩
end
section
variable {X:Cx}{e:Expr}{es:List Expr}{f:SE}{g:SA}{pos:Pos}
theorem zd :JA X [] aC:=⟨zbkt⟩
theorem zbba {x1}(h:JA X es g):JE X (.Tuple es x1 pos) (aR g):=⟨zbns h.out⟩
theorem zwl (h:JA X es g):JE X (.List es pos) (eLst g):=⟨zbnz h.out⟩
theorem zkb (h:JA X es g):JE X (.List es pos) (eLstM g):=⟨zbkv h.out⟩
end
section
variable {X:Cx}{a b e:Expr}{f f':SE}{pos:Pos}{lo hi:Option Expr}{l h:DS->Store->Res (Option Int)}
theorem zli :JO X none pNone:=⟨zbfw⟩
theorem zlh (he:JE X e f):JO X (some e) (pSome f):=⟨zbfv he.out⟩
theorem zhi (ha:JE X a f)(hb:JE X b f')(hs:PlainIx b):JE X (.Subscript a b pos) (aS oIx f f'):=⟨d_ix ha.out hb.out hs⟩
theorem zbho {p2:Pos}(he:JE X e f)(hl:JO X lo l)(hu:JO X hi h):JE X (.Subscript e (.Slice lo hi none p2) pos) (eSl f l h):=⟨d_sl he.out hl.out hu.out⟩
end
section
variable {X:Cx}{x:Str}{p pos:Pos}{e:Expr}{es:List Expr}{f:SA}{id T:String}{r:List V->Hp->VK->Prop}{g:List D->Store->Res D}
theorem zo (hc:CallR X (.builtin id) r)(hr:CaD X.K g r)(hg:Gl X x)(hm:X.mg x=none)(hv:bootBuiltins x=some (.builtin id))(ha:JA X (e::es) f)(hn:x≠"__name__":=by decide)(hdb:(x==("__debug__" : Str))=false:=by decide)(he:starEach (e::es) X.env=(false, eval e X.env)::starEach es X.env:=by rfl)(hpl:(backTo pos (starEach es X.env)).any (·.1)=false:=by rfl):JE X (.Call (.Name x p) (e::es) [] pos) (aE g f):=⟨zbgl hc hr hg hm hv ha.out hn hdb he hpl⟩
theorem zdg (hc:CallR X (.type T) r)(hr:CaD X.K g r)(hg:Gl X x)(hm:X.mg x=none)(hv:bootBuiltins x=some (.type T))(ha:JA X (e::es) f)(hn:x≠"__name__":=by decide)(hdb:(x==("__debug__" : Str))=false:=by decide)(he:starEach (e::es) X.env=(false, eval e X.env)::starEach es X.env:=by rfl)(hpl:(backTo pos (starEach es X.env)).any (·.1)=false:=by rfl):JE X (.Call (.Name x p) (e::es) [] pos) (aE g f):=⟨zbbh hc hr hg hm hv ha.out hn hdb he hpl⟩
end
section
variable {X:Cx}{a b c o i e value f':Expr}{f g h:SE}{pos pos' apos cpos:Pos}
theorem zmj :JE X (.Dict [] [] pos) eDNew:=⟨zbky⟩
theorem zzj (hu:X.A.units+1 < cLine)(hi:JE X i g)(ho:JE X o f):JC X .In i o (aS (oDIn false) g f):=⟨zbmy hu hi.out ho.out⟩
theorem zbob {op:CmpOp}{t:SE}(h:JC X op a b t)(h1:behindInMarks op b=false:=by first | exact nobehind _ (by decide) (by decide) | rfl):JE X (.Compare a [op] [b] pos) t:=⟨d_in h.out h1⟩
theorem zbfo {op:CmpOp}{t:SE}(h:JC X op a b t)(h1:behindInMarks op b=false:=by first | exact nobehind _ (by decide) (by decide) | rfl):JT X (.Compare a [op] [b] pos) (eB t):=⟨zbnp h.out h1⟩
theorem zbgi (hu:X.A.units+1 < cLine)(ho:JE X o f)(hi:JE X i g)(hs:NoSl i):JE X (.Subscript o i pos) (aS oDGet f g):=⟨zbkz hu ho.out hi.out hs⟩
theorem zbbg (hu:X.A.units + 1 < cLine)(ho:JE X o f)(he:JE X e g)(hf:JE X f' h)(m:M2 X o "get" apos e f' cpos):JE X (.Call (.Attribute o "get" apos) [e, f'] [] cpos) (eDGet2 f g h):=⟨zbgj hu ho.out he.out hf.out m⟩
theorem zth (hu:X.A.units + 1 < cLine)(ho:JE X o f)(he:JE X e g)(m:M1 X o "pop" apos e cpos):JE X (.Call (.Attribute o "pop" apos) [e] [] cpos) (eDPop f g):=⟨zbkx hu ho.out he.out m⟩
theorem zlg (hu:X.A.units+1 < cLine)(ho:JE X o f)(hi:JE X i g)(hv:JE X value h)(hs:swapsWith value (some (.Subscript o i pos')) pos.line X.env=pure false):JS X (.Assign [.Subscript o i pos'] value pos) (sDPut f g h):=⟨zbfs hu ho.out hi.out hv.out hs⟩
end
section
variable {X:Cx}{o e i value:Expr}{es:List Expr}{f g h:SE}{ga:SA}{pos apos cpos:Pos}
theorem zgf (ho:JE X o f)(ha:JA X (e::es) ga)(hbase:attributeBase o "append" X.env (eval o X.env)=eval o X.env:=by rfl)(hfew:((backTo cpos (starEach (e::es) X.env)).all (fun x=>!x.1)&&(backToKw cpos (keywordEach [] X.env)).all (fun x=>x.1.isSome)
 && decide ((e::es).length + ([]:List Keyword).length + (if([]:List Keyword).isEmpty then 0 else 1) < 30))=true:=by rfl) (hline:(apos.endLine==cpos.line)=true:=by rfl) (hs:starEach (e::es) X.env=(false, eval e X.env)::starEach es X.env:=by rfl) (hplain:(backTo cpos (starEach es X.env)).any (·.1)=false:=by rfl):JE X (.Call (.Attribute o "append" apos) (e::es) [] cpos) (eAppend f ga):=⟨zbbi ho.out ha.out hbase hfew hline hs hplain⟩
theorem zbod (ho:JE X o f):JE X o (eFz f):=⟨d_fz ho.out⟩
end
section
variable {X:Cx}{e c o i value:Expr}{sm:Stmt}{rest:List Stmt}{f g h:SE}{s t:SS}{b:ST}{pos pos':Pos}
theorem zcx :JB X [] sNx:=⟨zbko⟩
theorem zba (he:JE X e f):JS X (.Return (some e) pos) (sRet f):=⟨zbkm he.out⟩
theorem zbk (he:JE X e f)(hs:swapsWith e none pos.line X.env=pure false:=by rfl):JS X (.Expr e pos) (sDrop f):=⟨zbfr he.out hs⟩
theorem zx {i:Nat}{x:Str}(hN:X.N.Nodup)(hi:X.N[i]?=some x)(hx:L2.Loc X.env.scope x)(he:JE X e f)(hs:swapsWith e (some (.Name x pos')) pos.line X.env=pure false:=by rfl)(hf:X.fn x=true\/X.env.scope.names.lookup x=some .local:=by first | exact .inl rfl | exact .inr rfl | assumption):JS X (.Assign [.Name x pos'] e pos) (aF i f):=⟨zbkl hN hi hx he.out hs hf⟩
theorem zf (h1:JS X sm s):JB X [sm] s:=⟨zbkn h1.out⟩
theorem ze (h1:JS X sm s)(h2:JB X rest t):JB X (sm::rest) (aD s t):=⟨zbft h1.out h2.out⟩
theorem zek {a' b':List Stmt}(hc:JT X c b)(ha:JB X a' s)(hb:JB X b' t):JS X (.If c a' b' pos) (sIf b s t):=⟨zbnq hc.out ha.out hb.out⟩
theorem zpl (he:JE X value h)(ho:JE X o f)(hi:JE X i g)(ha:∀v,assign (.Subscript o i pos') X.env v=(do
 let ov ← holding [v] (eval o X.env)
 let iv ← holding [v,ov] (eval i X.env)
 standAt pos'
 holding [v,ov,iv] (setItem ov iv v)
 release [v,ov,iv] []):=by intro _;rfl) (hs:swapsWithSole [.Subscript o i pos'] value pos.line X.env=pure false:=by rfl) (hw:swappedStores [.Subscript o i pos'] value X.env=pure none:=by rfl) (h1:(assignEach [.Subscript o i pos'] X.env).map (·.2)=[assign (.Subscript o i pos') X.env]:=by rfl):JS X (.Assign [.Subscript o i pos'] value pos) (sSetIx f g h):=⟨zbap he.out ho.out hi.out ha hs hw h1⟩
end
section
variable {X:Cx}{pos:Pos}{e:Expr}{es:List Expr}{t:SG}{u:List D->DS->Option DS}
theorem zn {i:Nat}{x:Str}(hN:X.N.Nodup)(hi:X.N[i]?=some x)(hx:L2.Loc X.env.scope x)(hf:X.fn x=true\/X.env.scope.names.lookup x=some .local:=by first | exact .inl rfl | exact .inr rfl | assumption):JG X (.Name x pos) (gN i):=⟨zbgc hN hi hx hf⟩
theorem zte :JGs X [] gsNil:=⟨zbgb⟩
theorem zhk (h1:JG X e t)(h2:JGs X es u)(hs:(assignEach (e::es) X.env).map (·.2)=assign e X.env::(assignEach es X.env).map (·.2):=by rfl):JGs X (e::es) (gsCons t u):=⟨zbax h1.out h2.out hs⟩
theorem zxv {k:Nat}{n:Nat}(hc:X.calm=true)(h:JGs X es u)(hn:(assignEach es X.env).length=n:=by rfl)(hst:(assignEach es X.env).findIdx? (·.1)=none:=by rfl):JG X (.Tuple es k pos) (gT n u):=⟨zbks hc h.out hn hst⟩
end
section
variable {X:Cx}{tg l a b:Expr}{f:SE}{g:SA}{p pos:Pos}
theorem zcm (hl:JE X l f):JI X tg l (aH f):=⟨zbkr hl.out⟩
theorem zbm (hg:Gl X "range")(hm:X.mg "range"=none)(ha:JA X [a] g)(hs:starEach [a] X.env=[(false, eval a X.env)]:=by rfl):JI X tg (.Call (.Name "range" p) [a] [] pos) (iR1 g):=⟨zwg hg hm ha.out hs⟩
theorem ztc (hg:Gl X "range")(hm:X.mg "range"=none)(ha:JA X [a, b] g)(hs:starEach [a, b] X.env=[(false, eval a X.env),(false, eval b X.env)]:=by rfl)(hs2:starEach [b] X.env=[(false, eval b X.env)]:=by rfl):JI X tg (.Call (.Name "range" p) [a, b] [] pos) (iR2 g):=⟨zwf hg hm ha.out hs hs2⟩
end
section
variable {X:Cx}{tg l:Expr}{f:SE}
theorem ztd (hl:JE X l f):JI X tg l (iDict f):=⟨zbga hl.out⟩
end
section
variable {X:Cx}{tg iter c:Expr}{body:List Stmt}{it:SA}{bd:SG}{b:SS}{t:ST}{pos:Pos}
theorem zcc (hp:PassesOwn (model X.prog X.w) X.A X.env X.xe)(hc:X.calm=true)(hi:JI X tg iter it)(hg:JG X tg bd)(hb:JB X body b)(hs:∀x,foldedSetIterable iter X.env x=pure x:=by intro _;rfl):JS X (.For tg iter body [] pos) (sFor it bd b):=⟨zbkp hp hc hi.out hg.out hb.out hs⟩
theorem zpk (hp:PassesOwn (model X.prog X.w) X.A X.env X.xe)(hc:JT X c t)(hb:JB X body b):JS X (.While c body [] pos) (sWhile t b):=⟨zban hp hc.out hb.out⟩
end
section
variable {X:Cx}{tg iter elt:Expr}{ifs:List Expr}{it:SA}{bd:SG}{c:ST}{f:SE}{N:List Str}{k:Nat}{is:List Nat}{scope:Scope}{pos:Pos}
theorem zev (hcalm:X.calm=true)(hi:JI X tg iter it)(hg:∀cl C fp s H,JG (cxC X N scope cl C fp s H) tg bd)(hc:∀cl C fp s H,JIf (cxC X N scope cl C fp s H) ifs c)(he:∀cl C fp s H,JE (cxC X N scope cl C fp s H) elt f)(S:CompScope X N k is scope)(hs:∀x,foldedSetIterable iter X.env x=pure x:=by intro _;rfl):JE X (.ListComp elt [⟨tg,iter,ifs,0⟩] scope pos) (aG it k is bd c f):=⟨zbla hcalm hi.out (fun cl C fp s H=>(hg cl C fp s H).out) (fun cl C fp s H=>(hc cl C fp s H).out) (fun cl C fp s H=>(he cl C fp s H).out) S hs⟩
theorem zta {i:Nat}{x:Str}{pos' spos:Pos}(hcalm:X.calm=true)(hN:X.N.Nodup)(hxi:X.N[i]?=some x)(hx:L2.Loc X.env.scope x)(hi:JI X tg iter it)(hg:∀cl C fp s H,JG (cxC X N scope cl C fp s H) tg bd)(hc:∀cl C fp s H,JIf (cxC X N scope cl C fp s H) ifs c)(he:∀cl C fp s H,JE (cxC X N scope cl C fp s H) elt f)(S:CompScope X N k is scope)(hsw:swapsWith (.ListComp elt [⟨tg,iter,ifs,0⟩] scope pos) (some (.Name x pos')) spos.line X.env=pure true:=by rfl)(hf:X.fn x=true\/X.env.scope.names.lookup x=some .local:=by first | exact .inl rfl | exact .inr rfl | assumption)(hs:∀x,foldedSetIterable iter X.env x=pure x:=by intro _;rfl):JS X (.Assign [.Name x pos'] (.ListComp elt [⟨tg,iter,ifs,0⟩] scope pos) spos) (aF i (aG it k is bd c f)):=⟨zbfq hcalm hN hxi hx hi.out (fun cl C fp s H=>(hg cl C fp s H).out) (fun cl C fp s H=>(hc cl C fp s H).out) (fun cl C fp s H=>(he cl C fp s H).out) S hsw hf hs⟩
theorem zeu {X:Cx}:JIf X [] aI:=⟨zbfz⟩
theorem zio {X:Cx}{c:Expr}{t:ST}(h:JT X c t):JIf X [c] t:=⟨zbfy h.out⟩
end
section
variable {X:Cx}{x:Str}{k:Nat}{ps:List Str}{F:DFn}{p pos:Pos}{e:Expr}{es:List Expr}{g:SA}
theorem zj (c:CalD X.prog X.w X.K X.mg X.base x k ps F)(hn:∀ ds st v st', F ds st=.ok v st'->ds.length=ps.length)(hr:Room k X.A)(hg:Gl X x)(ha:JA X (e::es) g)(hdb:(x==("__debug__" : Str))=false:=by decide)(he:starEach (e::es) X.env=(false, eval e X.env)::starEach es X.env:=by rfl)(hpl:(backTo pos (starEach es X.env)).any (·.1)=false:=by rfl):JE X (.Call (.Name x p) (e::es) [] pos) (aE F g):=⟨zblb c hn hr hg ha.out hdb he hpl⟩
end
section
theorem zt {P:Program}{w:World}{K:Fg}{mg:Str->Option Value}{base h:Heap}{x:Str}{st:Stmt}{N ps:List Str}{k:Nat}{b:SS}(T:TopF K x st)(X:K.In h)(G:h.Ns mainGlobals mg)(S:FnScope N ps (defScope st))(bd:∀(kV doc pm:Value) (an:Option Addr) (cdv ct:Value) (us:List Value),us.length=ps.length->bindArgs (W.fnOf x x (defArgs st) (defBody st) (defScope st) .none kV doc pm an cdv ct) ⟨us,[]⟩=pure (ps.zip us))(hbody:∀(f:Addr) (cdv:Value) (A:Around) (outer:List Env) (s:Shared) (H:Hp) (E:XK),Room k (A.deeper (envOfC x (defScope st) s.heap.objs.size f cdv)) ->
 JB (cxOf CX0 P w K mg base N x (defScope st) f cdv A outer s H E).nox (defBody st) b):CalD P w K mg base x (k+1) ps (fnD N.length ps.length b):=zbgs T X G S bd (fun f cdv A outer s H E rr=>(hbody f cdv A outer s H E rr).out)
end
section
theorem zbex {P:Program}{w:World}{K:Fg}{mg:Str->Option Value}{base:Heap}{st:Stmt}{N ps:List Str}{k:Nat}{b:SS}{f:Addr}{fd:FuncData}(F:Fun K "law" "law" st f fd)(S:FnScope N ps (defScope st))(hp:ps.length=1)(hbody:∀(cdv:Value) (A:Around) (outer:List Env) (s:Shared) (H:Hp) (E:XK), Room k (A.deeper (envOfC "law" (defScope st) s.heap.objs.size f cdv)) ->
 JB (cxOf CX0 P w K mg base N "law" (defScope st) f cdv A outer s H E).nox (defBody st) b) (holds:∀ ns:List Int, ns.length<=63->∃ st', fnD N.length 1 b [.scr (ns.map .int)] []=.ok (.bl true) st'):FnOk P w K mg base CX0 (k + 1) f fd ps (spLaw K):=zbjq F S hp (fun cdv A outer s H E rr=>(hbody cdv A outer s H E rr).out) holds
end
section
variable {X:Cx}{a b c e:Expr}{f f' f'':SE}{pos:Pos}{sm:Stmt}
theorem zbbe (h:JE X a f):JE X (.UnaryOp .USub a pos) (eUn oNeg f):=⟨zbny h.out⟩
theorem zwe {op op':CmpOp}{r r':R2}{g g':D->D->Store->Res D}(ho:OpR X (compareOp op) r)(ho':OpR X (compareOp op') r')(hr:OpD X.K g r)(hr':OpD X.K g' r')(ha:JE X a f)(hb:JE X b f')(hc:JE X c f'')(hm:lastMarks [op,op'] [b,c]=false:=by with_unfolding_all rfl):JT X (.Compare a [op,op'] [b,c] pos) (eB (eChain g g' f f' f'')):=⟨zbam ho ho' hr hr' ha.out hb.out hc.out hm⟩
theorem zpm :JS X sm sStuck:=⟨zbaq⟩
theorem zdr (h:JE X a f)(he:∀whole,isTrue a X.env whole=(do let v ← whole;standAt a.pos;holding [v] (truthy v)):=by intro _;rfl):JT X a (eTru f):=⟨zbki h.out he⟩
end
section
variable {X:Cx}{l:Expr}{f:SE}{elts:List Expr}{k j:Nat}{tpos p pos kpos cpos:Pos}
theorem zwh (hg:Gl X "enumerate")(hm:X.mg "enumerate"=none)(hl:JE X l f)(he:starEach [l] X.env=[(false, eval l X.env)]:=by rfl):JI X (.Tuple elts k tpos) (.Call (.Name "enumerate" p) [l] [⟨some "start", .Constant (.int 1) j cpos, kpos⟩] pos) (iEnum f):=⟨zbaw hg hm hl.out he⟩
end
section
variable {X:Cx}{tg iter elt:Expr}{ifs:List Expr}{it:SA}{bd:SG}{c:ST}{f:SE}{N:List Str}{k:Nat}{is:List Nat}{scope:Scope}{pos:Pos}
end
section
theorem za {X:Cx}{e:Expr}{es:List Expr}{f:SE}{g:SA}(ha:JE X e f)(hr:JA X es g)(hp:plainE e=true:=by rfl):JA X (e::es) (aB f g):=⟨zbaz ha.out hr.out hp⟩
end
section
variable {X:Cx}{a b:Expr}{g:SA}{elts:List Expr}{k:Nat}{tpos p pos:Pos}
end
section
end
end Dd
namespace L2
open PySem PySem.Spec PyProof.Rows
section
variable {prog:Program}{w:World}{A:Around}{R:Result->Shared->Prop}{I:Addr}{fp wr:List Addr}{n:Nat}{P:Nat->Value->Prop}{St:Nat->Heap->Prop}
end
section
variable {prog:Program}{w:World}{A:Around}{E:Value->Shared->Prop}{s:Shared}
end
section
variable {X:Cx}{p pos cpos kpos:Pos}{l:Expr}{t:TA}{d:Int}{j:Nat}
end
section
open PySem.AutoSeq1
end
end L2
namespace Dd
open PySem L2
section
variable {X:Cx}{p pos cpos kpos:Pos}{l:Expr}{f:SA}{d:Int}{j:Nat}
end
section
variable {X:Cx}{o e:Expr}{es:List Expr}{f:SE}{ga:SA}{apos cpos:Pos}
end
end Dd
namespace L2
open PySem PySem.Spec PyProof.Rows
section
variable {X:Cx}{p pos cpos kpos upos:Pos}{l:Expr}{t:TA}{d:Int}{j:Nat}
end
end L2
namespace Dd
open PySem L2 PyProof.Rows
section
variable {X:Cx}{p pos cpos kpos upos:Pos}{l:Expr}{f:SA}{d:Int}{j:Nat}
end
end Dd
namespace L2
open PySem PySem.Spec PyProof.Rows
section
variable {X:Cx}
end
section
open PySem.AutoSeq1
variable (l:Addr)(items:Array Value)(n:Nat)(dd:Option Addr)(sl:Array (Option Value))(x:Int)(u:Tok)
end
end L2
namespace Dd
open PySem L2 PyProof.Rows
end Dd
namespace L2
open PySem PySem.Spec PyProof.Rows PySem.W
section
variable {P:Program}{w:World}{B:Around}{sg:Shared}
end
end L2
namespace Dd
open PySem L2 PyProof.Rows
end Dd
namespace L2
open PySem PySem.Spec PyProof.Rows
end L2
namespace Dd
open PySem L2 PyProof.Rows
section
variable {X:Cx}{o e:Expr}{es:List Expr}{f:SE}{ga:SA}{apos cpos:Pos}
end
end Dd
namespace Dd
variable {α:Type}{motive:List α->Prop}
@[elab_as_elim] theorem len0 (us:List α) (hl:us.length=0) (h:motive []):motive us:=by rw[List.eq_nil_of_length_eq_zero hl];exact h
@[elab_as_elim] theorem lenS {n:Nat} (us:List α) (hl:us.length=n+1) (h:∀a us,us.length=n->motive (a::us)):motive us:=by
 cases us with
 | nil=>cases hl
 | cons a us=>exact h a us (Nat.succ.inj hl)
@[elab_as_elim] theorem len1 (us:List α) (hl:us.length=1) (h:∀a,motive [a]):motive us:=lenS us hl fun a us hl=>len0 us hl (h a)
@[elab_as_elim] theorem len2 (us:List α) (hl:us.length=2) (h:∀a b,motive [a,b]):motive us:=lenS us hl fun a us hl=>len1 us hl (h a)
@[elab_as_elim] theorem len3 (us:List α) (hl:us.length=3) (h:∀a b c,motive [a,b,c]):motive us:=lenS us hl fun a us hl=>len2 us hl (h a)
@[elab_as_elim] theorem len4 (us:List α) (hl:us.length=4) (h:∀a b c d,motive [a,b,c,d]):motive us:=lenS us hl fun a us hl=>len3 us hl (h a)
end Dd
namespace Dd
open PySem L2
end Dd
namespace L2
open PySem PySem.Spec PyProof.Rows
end L2
namespace Dd
open PySem L2 PyProof.Rows
end Dd
namespace L2
open PySem PySem.Spec PyProof.Rows
noncomputable def ItrD (hi:Int) (n:Nat):It where
 go:=fun i _=>i < n
 yld:=fun i H x H'=>H'=H/\x=.int (hi - i)
 stop:=fun i _=>n<=i
theorem zol (a b:Int):Builtin.Range.rangeSize a b (-1)=((a - b).toNat:Int):=by
 unfold Builtin.Range.rangeSize;rw[if_neg (by decide)];simp only[Int.neg_neg,Int.ediv_one];split<;>lia
theorem zrh {a b:Int}(ha:-(2 ^ 60)<=a)(ha':a < 2 ^ 60)(hb:-(2 ^ 60)<=b)(hb':b < 2 ^ 60):Builtin.Range.small a b (-1)=true:=by
 unfold Builtin.Range.small;rw[zol];simp only[Builtin.Range.rangeFitsLong,xep,Bool.or_eq_true,xfj,xfu];refine⟨by lia,Or.inr ?_⟩;rw[if_neg (by decide),xep,decide_eq_true_iff,decide_eq_true_iff];lia
theorem zuq {P:Program}{w:World}{K:Fg}{tg:Expr}(it:Addr)(hi:Int)(n:Nat):Turn P w K tg (ItrD hi n) [it] it (fun i h=>IsRangeIter h it (hi+(i:Nat) * (-1)) ((n:Int) - (i:Nat)) (-1)) where
 mem:=xcn.mpr rfl
 obj:=fun i h st b hb=>by
  cases xcn.mp hb;exact⟨_,st,fun v z=>by cases(show Data.fields _=Data.cell v from z)⟩
 keep:=fun i h h' st k=>k it (xcn.mpr rfl) _ st
 item:=by
  intro X hP hw hK hc i aU s σ H E I hf st hg;subst hP hw hK;obtain⟨f0,f1,f2,f3,f4,f5⟩:=hf it (xcn.mpr rfl);refine(Walks.range (prog:=X.prog) (w:=X.w) (I.ok.hd hc) it hi (-1) n).item i s _ _ hg st fun v h' tk hv st' kk=>?_
  obtain⟨t,rfl⟩:=hv;have J:Inv X aU σ H {s with heap:=h',toks:=tk}:=I.turned (fun b o hb e=>kk b o (by simpa using hb) e) f0 f1 f3 f4 f5;exact⟨_, rfl, zbfg (s:={ s with heap:=h', toks:=tk }) (n:="range_iterator") st' rfl rfl (by decide) ⟨.int (hi - i), H, J,⟨t, by rw[Int.mul_neg, Int.mul_one]; rfl⟩,⟨rfl, rfl⟩, st', fun b hb=>(hf b hb).1⟩⟩
 done:=by
  intro X hP hw hK hc i aU s σ H E I hf st hg;subst hP hw hK;obtain⟨f0,f1,f2,f3,f4,f5⟩:=hf it (xcn.mpr rfl);have hg:n<=i:=hg;exact wpAny_pyNext_range_end (I.ok.hd hc) st (by lia) fun h' eb=>⟨rfl,I.turned (t':=s.toks) (fun b o hb e=>eb b o hb e) f0 f1 f3 f4 f5⟩
 self:=fun _ _ _ _ _ st h=>wpAny_pyIter_rangeiter st h
noncomputable def iRngD (ta:TA):TI:=fun σ H R=>ta σ H fun vs H1=>∃i j:Int,vs=[.int i,.int j,.int (-1)]/\(-(2 ^ 60)<=i/\i < 2 ^ 60/\-(2 ^ 60)<=j/\j < 2 ^ 60)/\R (ItrD i (i - j).toNat) H1
section
variable {X:Cx}{tg:Expr}
theorem zbfu {aU:List (Addr×Obj)}{σ:St}{H:Hp}{s:Shared}{R:It->Hp->Prop}{E:Value->Shared->Prop}{a b:Int}{t u v:Tok}{tk:Nat}(I:Inv X aU σ H s)(h:-(2 ^ 60)<=a/\a < 2 ^ 60/\-(2 ^ 60)<=b/\b < 2 ^ 60)
  (q:R (ItrD a (a - b).toNat) H):wpAny (model X.prog X.w) X.A (pyIter (.ref s.heap.objs.size)) (PIE X aU σ tg R) E { s with heap:=s.heap.push { cls:=.type "range", data:=.fields #[.int a t, .int b u, .int (-1) v] }, toks:=tk }:=by
 refine wpAny_pyIter_range (IsRange.new ..) (zrh h.1 h.2.1 h.2.2.1 h.2.2.2) ?_;have J:Inv X aU σ H { s with heap:=s.heap.push { cls:=.type "range", data:=.fields #[.int a t, .int b u, .int (-1) v] }, toks:=tk }:=I.kept fun b o e=>xbm _ e
 refine⟨_,[_],_,_,H,rfl,J.kept (t':=tk) fun b o e=>xbm _ e,zuq _ a (a - b).toNat,?_,fun c hc=>?_,q⟩
 ·show IsRangeIter _ _ (a+((0:Nat):Int) * (-1)) ((((a - b).toNat:Nat):Int) - ((0:Nat):Int)) (-1);rw[show a+((0:Nat):Int) * (-1)=a by simp,show(((a - b).toNat:Nat):Int) - ((0:Nat):Int)=Builtin.Range.rangeSize a b (-1) by rw[zol];lia];exact xch _ rfl
 ·cases xcn.mp hc;exact J.fpOk (xbf _) (J.hok.fresh (xbf _))
theorem zvf {a b c:Expr}{ta:TA}{p pos:Pos}(hg:Gl X "range")(hm:X.mg "range"=none)(ha:PA X [a, b, c] ta)(hs:starEach [a, b, c] X.env=[(false, eval a X.env),(false, eval b X.env),(false, eval c X.env)]:=by rfl)(hs2:starEach [b, c] X.env=[(false, eval b X.env),(false, eval c X.env)]:=by rfl) :
  PI X tg (.Call (.Name "range" p) [a, b, c] [] pos) (iRngD ta):=by
 intro aU s σ H R I h;refine Call_ (zns I hg hm boot_range (xgd (thn (ha pos aU s σ H _ I h) fun us s1 hq=>?_) (by rw[hs,hs2]) (by rw[hs2];rfl)));obtain⟨vs,H1,I1,r1,i,j,e,hb,q⟩:=hq;subst e;cases r1 with
 | cons r1 rr =>
  cases rr with
  | cons r2 rr =>
   cases rr with
   | cons r3 rr =>
    cases rr;obtain⟨t,rfl⟩:=r1;obtain⟨t',rfl⟩:=r2;obtain⟨t'',rfl⟩:=r3;refine call_range_3 (by decide) (zbfu I1 hb q) (Or.inl (PyProof.noPylong_small ?_))
    decide
end
end L2
namespace Dd
open PySem L2
noncomputable def rngD (hi:Int) (n:Nat):List D:=(List.range n).map fun(i:Nat)=>D.int (hi - i)
noncomputable def iRD (g:SA):SA:=fun σ st=>(g σ st).bind fun xs st1=>match xs with
 | [.int i,.int j,.int k]=>if k=-1/\-(2 ^ 60)<=i/\i < 2 ^ 60/\-(2 ^ 60)<=j/\j < 2 ^ 60 then .ok (rngD i (i - j).toNat) st1 else .stuck
 | _=>.stuck
theorem zrs {hi:Int}{n i:Nat}{x:D}(h:(rngD hi n)[i]?=some x):i < n/\x=.int (hi - i):=by
 unfold rngD at h;rw[xcd] at h;rcases xge i n with z | z
 ·rw[xig z] at h;exact⟨z,(xcl h).symm⟩
 ·rw[xem (by rw[xgp];exact z)] at h;cases h
theorem zbez {K:Fg}{ρ:Loc}{H:Hp}{hi:Int}{n:Nat}:ItOk K ρ H (ItrD hi n) (rngD hi n) where
 item:=fun ρ2 H2 x i d e=>by
  obtain⟨h1,rfl⟩:=zrs e;refine⟨h1,fun y H3 hy=>?_⟩;obtain⟨rfl,rfl⟩:=hy;exact⟨.refl _ _,fun _ r=>⟨r,.int _⟩⟩
 done:=fun ρ2 H2 x i h=>by
  unfold rngD at h;rw[xbd,xgp] at h;exact h
section
variable {X:Cx}{tg a b c:Expr}{g:SA}{p pos:Pos}
theorem ztb (hg:Gl X "range")(hm:X.mg "range"=none)(ha:JA X [a, b, c] g)(hs:starEach [a, b, c] X.env=[(false, eval a X.env),(false, eval b X.env),(false, eval c X.env)]:=by rfl)(hs2:starEach [b, c] X.env=[(false, eval b X.env),(false, eval c X.env)]:=by rfl):JI X tg (.Call (.Name "range" p) [a, b, c] [] pos) (iRD g) :=
 ⟨zbby (zvf hg hm ha.out hs hs2) fun τ H R hq=>by
 obtain⟨ρ,σ,st,xs,st',a,rp,e,q⟩:=hq;obtain⟨x,st1,e1,e⟩:=zc e;split at e
 ·split at e
  ·rename_i hj;cases e;obtain⟨rfl,hj⟩:=hj;refine⟨ρ,σ,st,_,_,a,rp,e1,fun ρ1 H1 u x1 rp1 a1=>?_⟩;cases a1 with
   | cons b1 r1 =>
    obtain⟨w,w2,rfl,b2,b3⟩:=r1.two;cases b1;cases b2;cases b3;exact⟨_,_,rfl,hj,q _ _ _ x1 rp1 zbez⟩
  ·cases e
 ·cases e⟩
end
end Dd
namespace Dd
open PySem L2 PyProof.Rows
section
variable {X:Cx}{o e:Expr}{es:List Expr}{f:SE}{ga:SA}{apos cpos:Pos}
end
end Dd
namespace L2
open PySem PySem.Spec PyProof.Rows
variable {X:Cx}{e es:Expr}{te ts:TE}{pos p2:Pos}
end L2
namespace Dd
open PySem L2
section
variable {X:Cx}{e es:Expr}{f g:SE}{pos p2:Pos}
end
end Dd
namespace L2
open PySem PySem.Spec PyProof.Rows
section
variable {prog:Program}{w:World}{A:Around}{E:Value->Shared->Prop}{s:Shared}
end
variable {X:Cx}{e es:Expr}{te ts:TE}{pos p2:Pos}
end L2
namespace Dd
open PySem L2
section
variable {X:Cx}{e es:Expr}{f g:SE}{pos p2:Pos}
end
end Dd
namespace L2
open PySem PySem.Spec PyProof.Rows
end L2
namespace Dd
open PySem L2
end Dd
namespace L2
open PySem PySem.Spec PyProof.Rows
section
variable {X:Cx}{x:Str}{C:Addr}{bmB bmN:List Value}{newId nid initId inN B Bn:String}{e:Expr}{es:List Expr}{ta:TA}{np cpos pos:Pos}
end
section
variable {M:Model}{A:Around}{E:Value->Shared->Prop}{s:Shared}
end
section
variable {P:Program}{w:World}{K:Fg}{mg:Str->Option Value}{base:Heap}{N:List Str}{qual:Str}{scope:Scope}{f:Addr}{cd:Value}{A:Around}{outer:List Env}{s₀:Shared}{H₀:Hp}{E:XK}
end
section
variable {X:Cx}
end
section
variable {X:Cx}{aU pins':List (Addr×Obj)}{σ:St}{H:Hp}{s:Shared}{E:Value->Shared->Prop}{e:Value}
end
section
variable {X:Cx}{body:List Stmt}{x n:Str}{B:Addr}{i:Nat}{b0:Stmt}{suite:List Stmt}{xp hp pos:Pos}{tb:(St->Value->Option Addr->Hp->Prop)->TS}{ts:TS}
end
section
variable {prog:Program}{w:World}{A:Around}{E:Value->Shared->Prop}
end
section
variable {X:Cx}{pos:Pos}
end
section
variable {P:Program}{w:World}{K:Fg}{mg:Str->Option Value}{base:Heap}{N:List Str}{name qual:Str}{params:Arguments}{body:Expr}{scope:Scope}{f:Addr}{cd pm ct:Value}{cl:List (Str×Addr)}{A:Around}{outer:List Env}{s:Shared}{H:Hp}{E:XK}{τ:St}
end
section
variable {X:Cx}{aU:List (Addr×Obj)}{τ:St}{H:Hp}{s:Shared}{c T:Addr}{ps:Array Value}{params:Arguments}{body:Expr}{scope:Scope}{cl:List (Str×Addr)}{pos:Pos}{Q:Value->Shared->Prop}
end
section
variable {X:Cx}
end
section
variable {X:Cx}
end
end L2
namespace L2
open PySem
namespace St
end St
namespace St
/- the leaps meet all places -/
end St
namespace St
/- laid anew -/
end St
namespace St
end St
end L2
namespace L2
open PySem PySem.W PyProof.Rows PySem.Spec
namespace St
section
variable {P:Program}{w:World}{B:Around}{E:Value->Shared->Prop}{s:Shared}{a:Addr}
end
end St
namespace St
section
variable {P:Program}{w:World}{B:Around}{R:Result->Shared->Prop}{it:Addr}{fp wr:List Addr}{G:Array GenState->Array GenState->Prop}{N:Nat}{It:Nat->Value->Prop}{St:Nat->Shared->Prop}
end
section
variable {P:Program}{w:World}{B:Around}{E:Value->Shared->Prop}{s:Shared}
end
end St
namespace St
section
variable {P:Program}{w:World}{B:Around}{E:Value->Shared->Prop}{s:Shared}{a it:Addr}{es:Array (Int×Value)}{ep:Nat}{t:SetTable}{ks:List Nat}
end
end St
end L2
namespace L2
open PySem PySem.Spec PyProof.Rows PySem.W
end L2
namespace Dd
open PySem L2 PyProof.Rows
section
variable {X:Cx}{x y:Str}{p p2 pos pos2:Pos}{e:Expr}{f:SA}{g:List D->Store->Res D}
end
end Dd
namespace L2
open PySem PySem.Spec PyProof.Rows PySem.W
end L2
namespace Dd
open PySem L2 PyProof.Rows
section
variable {X:Cx}{p p2 pos pos2 cpos apos:Pos}{e o:Expr}{f:SA}{g:SE}
end
section
variable {X:Cx}{R:RXT}{e:Expr}{es:List Expr}{f:SE}{g:SA}{sm:Stmt}{rest body:List Stmt}{s t:SS}{pos p:Pos}{x:Str}{k:Nat}{ps:List Str}{F:DFn}
end
section
variable {P:Program}{w:World}{K:Fg}{mg:Str->Option Value}{base h:Heap}{x:Str}{st:Stmt}{N ps:List Str}{k:Nat}{b:SS}
end
section
variable {X:Cx}{R:RXT}{f:Addr}{σL:DS}{τL:L2.St}{g:SE}{x n y:Str}{p pos pos2 xp hp:Pos}{B:Addr}{i:Nat}{cs:List Str}{b0:Stmt}{suite rest:List Stmt}{u t:SS}
end
section
variable {X:Cx}{y:Str}{p pos lp:Pos}{params:Arguments}{body:Expr}{scope stS:Scope}{N NL:List Str}{is:List Nat}{c T fr:Addr}{fdR:FuncData}{stR:Stmt}{x:Str}{k:Nat}{lam:SE}{b:(Store->Res D)->SS}
end
end Dd
namespace L2
open PySem PySem.Spec PyProof.Rows
end L2
namespace Dd
open PySem L2 PyProof.Rows
section
variable {X:Cx}{o e:Expr}{es:List Expr}{f:SE}{ga:SA}{apos cpos:Pos}
end
end Dd
namespace L2
open PySem PySem.Spec PyProof.Rows
end L2
namespace Dd
open PySem L2 PyProof.Rows
section
variable {X:Cx}{R:RXT}{f:Addr}{σL:DS}{τL:L2.St}{g:SE}{x n y:Str}{p pos pos2 xp hp:Pos}{B:Addr}{i:Nat}{cs:List Str}{b0:Stmt}{suite rest:List Stmt}{u t:SS}
end
section
variable {K:Fg}{cv:Value}
end
section
variable {X:Cx}{pos:Pos}{es:List Expr}{u:List D->DS->Option DS}
end
end Dd
namespace L2
open PySem PySem.Spec PyProof.Rows
section
variable {prog:Program}{w:World}{A:Around}{R:Result->Shared->Prop}{I:Addr}{fp wr:List Addr}{n:Nat}{P:Nat->Value->Prop}{St:Nat->Heap->Prop}
end
section
variable {prog:Program}{w:World}{A:Around}{E:Value->Shared->Prop}{s:Shared}
end
section
variable {X:Cx}{p pos cpos kpos:Pos}{l:Expr}{t:TA}{d:Int}{j:Nat}
end
section
variable {X:Cx}
end
end L2
namespace Dd
open PySem L2 PyProof.Rows
section
variable {X:Cx}{p pos cpos kpos:Pos}{l:Expr}{f:SA}{j:Nat}
end
end Dd
namespace L2
open PySem PySem.Spec PyProof.Rows
section
variable {P:Program}{w:World}{A:Around}{E:Value->Shared->Prop}{s:Shared}{K:Fg}{C fI:Addr}{us:List Value}
end
section
variable {X:Cx}{C f:Addr}{fd:FuncData}{ps:List Str}{sp:Sp}{k:Nat}{x:Str}{p pos:Pos}{e:Expr}{es:List Expr}{t:TA}
end
section
variable {X:Cx}{aU:List (Addr×Obj)}{σ:St}{H:Hp}{s:Shared}
end
end L2
namespace L2
open PySem PySem.Spec PyProof.Rows Builtin Builtin.ObjectAttr
section
variable {P:Program}{w:World}{A:Around}{E:Value->Shared->Prop}{s:Shared}{K:Fg}{C fI ea:Addr}{v:Value}
end
end L2
namespace L2
open PySem PySem.Spec PyProof.Rows
section
variable {X:Cx}{aU:List (Addr×Obj)}{σ:St}{H:Hp}{s:Shared}
end
section
variable {P:Program}{w:World}{K:Fg}{mg:Str->Option Value}{base h:Heap}{C fI R:Addr}{xR qual:Str}{st:Stmt}{fd:FuncData}
end
section
variable {X:Cx}
end
section
variable {X:Cx}{e:Expr}{pos:Pos}{te:TE}
end
section
variable {P:Program}{w:World}{K:Fg}{mg:Str->Option Value}{base:Heap}{N:List Str}{qual:Str}{scope:Scope}{f:Addr}{cd:Value}{A:Around}{outer:List Env}{s₀:Shared}{H₀:Hp}{E:XK}
end
end L2
namespace Dd
open PySem L2 PyProof.Rows
section
variable {X:Cx}{R:RXT}{e:Expr}{es:List Expr}{f:SE}{g:SA}{sm:Stmt}{rest body:List Stmt}{s t:SS}{pos p:Pos}{x:Str}
end
section
variable {X:Cx}{R:RXT}{e:Expr}{es:List Expr}{f:SE}{g:SA}{sm:Stmt}{rest body:List Stmt}{s t:SS}{pos p:Pos}{x:Str}
end
end Dd
namespace L2
open PySem PySem.Spec PyProof.Rows
end L2
namespace Dd
open PySem L2 PyProof.Rows
section
variable {X:Cx}{R:RXT}{e:Expr}{es:List Expr}{f:SE}{g:SA}{pos p:Pos}{x:Str}
end
end Dd
namespace L2
open PySem PySem.Spec PyProof.Rows
section
variable {X:Cx}
end
end L2
namespace Dd
open PySem L2 PyProof.Rows
end Dd
namespace L2
open PySem PySem.Spec PyProof.Rows
end L2
namespace Dd
open PySem L2 PyProof.Rows
section
variable {X:Cx}{o e:Expr}{es:List Expr}{f:SE}{ga:SA}{apos cpos:Pos}
end
end Dd
namespace L2
open PySem PySem.Spec PyProof.Rows
noncomputable def rSetD (_K:Fg):V->List V->Hp->VK->Prop:=fun x vs H Q=>∃(a:Addr) (k:Key) (v:V) (kvs:List (Key×V)),x=.ref a/\vs=[kV k,v]/\H a=some (.dK kvs)/\kvs.length < sizeLine /\
 (∀u,valV kvs k=some u->Q u H)/\(valV kvs k=none->Q v (upd H a (.dK (putK kvs k v))))
theorem zbei {X:Cx}:MtR X "dict.setdefault" (rSetD X.K):=by
 intro aU s σ H x xs v us Q I rx rv h;obtain⟨a,k,d,kvs,rfl,rfl,e,hl,q1,q2⟩:=h;cases rx;obtain⟨u,r,rfl,ry,rd⟩:=vals2 rv;obtain⟨z,hd,vs,rel,dd⟩:=zbkq I.hok e;have hz:vs.length<=sizeLine:=by rw[← rel.length];exact z
 have hl2:(putK kvs k d).length<=sizeLine:=by have:=zgz kvs k d;lia
 refine xjv xjy dd.typeIs F.entry_dict_setdefault (F.args_dict_setdefault_3 _ _ _) (kt_meets_setdefault (mixKind X.prog X.w) a (zzy ry) hd r) ⟨vs,dd,hz,fun w hw=>?_,fun hn h' dd' hs=>?_⟩
 ·have rr:=rel.val k;rw[hw] at rr;cases hk:valV kvs k with
  | none=>rw[hk] at rr;exact rr.elim
  | some y=>rw[hk] at rr;exact⟨y,H,I.tok _,rr,q1 y hk⟩
 ·have hk:valV kvs k=none:=by
   have rr:=rel.val k;rw[hn] at rr;cases hk:valV kvs k with
   | none=>rfl
   | some y=>rw[hk] at rr;exact rr.elim
  have he:∃q,h'.get? a=some q:=let ⟨q,_,_,hq,_⟩:=dd';⟨q,hq⟩
  exact⟨d,_,zmi I (by rw[e];exact True.intro) hs he (zbat hl2 hd (rel.put k rd) dd'),rd,q2 hk⟩
noncomputable def rMaxDI (xs:List V) (H:Hp) (Q:VK):Prop:=∃(a:Addr) (n:Int) (ns:List Int) (kvs:List (Key×V)),xs=[.ref a]/\Rd H a (.dK kvs)/\kvs.map (·.1)=(n::ns).map Sum.inl/\Q (.int (bestI true n ns)) H
theorem zto {X:Cx}(hc:X.calm=true):CallR X (.builtin "max") rMaxDI:=by
 intro aU s σ H xs us Q I r h;obtain⟨a,n,ns,kvs,rfl,e,ek,q⟩:=h;obtain⟨u,rfl,ru⟩:=vals1 r;cases ru;obtain⟨z,hd,vs,rel,dd⟩:=zbas I.hok e;obtain⟨ep,da⟩:∃ep,s.heap.DictAt (mixKind X.prog X.w) a vs ep:=by
  obtain⟨o,es,ep,h⟩:=dd;exact⟨ep,o,es,h⟩
 obtain⟨oI,St,hit,W,st⟩:=(W.kdl_dict (prog:=X.prog) (w:=X.w) (knd:=mixKind X.prog X.w) (kvs:=vs) (ep:=ep) hd).iter X.A.in1 s (I.ok.hd hc) da;have kk:vs.map (·.1)=(n::ns).map Sum.inl:=rel.keys.symm.trans ek;have hln:vs.length=(n::ns).length:=by have:=congrArg List.length kk;simpa using this
 have val:∀i v,(∃k x,vs[i]?=some (k,x)/\(mixKind X.prog X.w).is k v=true)->∃t,v=.int ((n::ns).getD i 0) t:=fun i v hq0=>by
  obtain⟨k,x,hi,hk⟩:=hq0;have h1:(vs.map (·.1))[i]?=some k:=by rw[xcd,hi];rfl
  rw[kk,xcd] at h1;obtain⟨y,hy,rfl⟩:=xcv.mp h1;rw[xbg,hy];rcases zbj (show keyIs (Sum.inl y) v=true from hk) with⟨i,t,e1,rfl⟩ | ⟨x,t,e1,rfl⟩
  ·cases e1;exact⟨t,rfl⟩
  ·cases e1
 have hlt:a < s.heap.objs.size:=da.lt_size;refine call_max_walk (hit _ _ ⟨s.heap.objs.size,_,_,_,_,St,_,rfl,W,st,fun b hb=>?_,by rw[hln];simp,CmpOf.ints_gt (fun i=>(n::ns).getD i 0) val,fun v h' tk hP hk=>?_⟩)
 ·rw[Heap.size_push];have hb':b=s.heap.objs.size\/b=a:=by simpa using hb
  rcases hb' with z | z
  ·rw[z];exact xjk _
  ·rw[z];exact xje hlt
 ·obtain⟨t,rfl⟩:=val _ _ hP;rw[hln,zts (by simp)];exact⟨.int (bestI true n ns),H,I.kept (t':=tk) fun b u e=>hk b u (by simp;exact xce (xbt e)) (xbm _ e),⟨_,rfl⟩,q⟩
noncomputable def rPopI (_K:Fg):V->List V->Hp->VK->Prop:=fun x vs H Q=>∃(a:Addr) (k:Key) (v:V) (kvs:List (Key×V)),x=.ref a/\vs=[kV k]/\H a=some (.dK kvs)/\valV kvs k=some v/\Q v (upd H a (.dK (dropK kvs k)))
theorem zbej {X:Cx}:MtR X "dict.pop" (rPopI X.K):=by
 intro aU s σ H x xs v us Q I rx rv h;obtain⟨a,k,d,kvs,rfl,rfl,e,l,q⟩:=h;cases rx;obtain⟨u,rfl,ry⟩:=rv.one;exact zbnt I e ry l (.inl rfl) fun w' s' I' r=>⟨d,_,I',r,q⟩
end L2
namespace Dd
open PySem L2 PyProof.Rows
noncomputable def valI (kvs:List (Int×D)) (k:Int):Option D:=(kvs.find? fun kv=>decide (kv.1=k)).map (·.2)
noncomputable def putI (kvs:List (Int×D)) (k:Int) (v:D):List (Int×D) :=
 if(kvs.any fun kv=>decide (kv.1=k))=true then kvs.map (fun kv=>if kv.1=k then(kv.1,v) else kv) else kvs++[(k,v)]
noncomputable def dropI (kvs:List (Int×D)) (k:Int):List (Int×D):=kvs.filter fun kv=>decide (kv.1≠k)
theorem inlI {a b:Int}:(Sum.inl a:Key)=Sum.inl b↔a=b:=⟨fun e=>Sum.inl.inj e,fun e=>by rw[e]⟩
section
variable {K:Fg}{ρ:Loc}{H:Hp}{kvs:List (Int×D)}{vs:List (Key×V)}
theorem KiAt.val (h:KiAt K ρ H kvs vs)(k:Int):match valI kvs k with
  | some d=>∃v,valV vs (Sum.inl k)=some v/\At K ρ H d v
  | none=>valV vs (Sum.inl k)=none:=by
 induction h with
 | nil=>rfl
 | @cons p q ps qs h t ih =>
  obtain⟨h1,h2⟩:=h;by_cases e:p.1=k
  ·have e1:valI (p::ps) k=some p.2:=by simp[valI,xed,e]
   rw[e1];exact⟨q.2,zhm (by rw[h1,e]),h2⟩
  ·have e1:valI (p::ps) k=valI ps k:=by simp[valI,xed,e]
   have e2:valV (q::qs) (Sum.inl k)=valV qs (Sum.inl k):=zhn (by rw[h1,inlI];exact e);rw[e1,e2];exact ih
theorem KiAt.keys (h:KiAt K ρ H kvs vs):vs.map (·.1)=(kvs.map (·.1)).map Sum.inl:=by
 induction h with
 | nil=>rfl
 | @cons p q ps qs h t ih=>rw[xbp,xbp,xbp,ih,h.1]
theorem KiAt.put (h:KiAt K ρ H kvs vs)(k:Int){d:D}{v:V}(a:At K ρ H d v):KiAt K ρ H (putI kvs k d) (putK vs (Sum.inl k) v):=by
 have any:∀{kvs:List (Int×D)} {vs:List (Key×V)},KiAt K ρ H kvs vs->(kvs.any fun kv=>decide (kv.1=k))=(vs.any fun kv=>decide (kv.1=Sum.inl k)):=fun h=>by
  induction h with
  | nil=>rfl
  | @cons p q ps qs h t ih =>
   rw[xhe,xhe,ih,h.1]
   congr 1
   simp only[inlI]
 unfold putI putK;rw[any h];split
 ·rename_i hh;clear hh any
  induction h with
  | nil=>exact .nil
  | @cons p q ps qs h t ih =>
   refine .cons ?_ ih;obtain⟨h1,h2⟩:=h;dsimp only;by_cases e:p.1=k
   ·rw[if_pos e,if_pos (by rw[h1,e])];exact⟨h1,a⟩
   ·rw[if_neg e,if_neg (by rw[h1,inlI];exact e)];exact⟨h1,h2⟩
 ·have app:∀{kvs:List (Int×D)} {vs:List (Key×V)},KiAt K ρ H kvs vs->KiAt K ρ H (kvs++[(k,d)]) (vs++[(Sum.inl k,v)]):=fun h=>by
   induction h with
   | nil=>exact .cons ⟨rfl,a⟩ .nil
   | cons h t ih=>exact .cons h ih
  exact app h
theorem KiAt.drop (h:KiAt K ρ H kvs vs)(k:Int):KiAt K ρ H (dropI kvs k) (dropK vs (Sum.inl k)):=by
 unfold dropI dropK
 induction h with
 | nil=>exact .nil
 | @cons p q ps qs h t ih =>
  by_cases e:p.1=k
  ·rw[xdf (by simp[e]),xdf (by simp[h.1,e])];exact ih
  ·rw[xdg (by simp[e]),xdg (by simp[h.1,e])];exact .cons h ih
theorem KiAt.length (h:KiAt K ρ H kvs vs):kvs.length=vs.length:=xhd h
theorem zou {p:Addr}(g:H p=some (.dK vs)):∀ob u,H p≠some (.frz ob u):=fun ob u z=>by rw[g] at z;cases z
end
noncomputable def eDNewI:SE:=fun _ st=>.ok (.ref st.length) (st++[.dI []])
noncomputable def ePopI (f:SE) (g:SA):SE:=fun σ st=>(f σ st).bind fun x st1=>match x with
 | .ref n=>match st1[n]? with
  | some (.dI _)=>(g σ st1).bind fun ys st2=>match ys,st2[n]? with
   | [.int k],some (.dI kvs)=>match valI kvs k with
    | some v=>.ok v (st2.set n (.dI (dropI kvs k)))
    | none=>.stuck
   | _,_=>.stuck
  | _=>.stuck
 | _=>.stuck
noncomputable def eSetDI (f:SE) (g:SA):SE:=fun σ st=>(f σ st).bind fun x st1=>match x with
 | .ref n=>match st1[n]? with
  | some (.dI _)=>(g σ st1).bind fun ys st2=>match ys,st2[n]? with
   | [.int k,d],some (.dI kvs)=>if kvs.length < sizeLine then(match valI kvs k with
    | some v=>.ok v st2
    | none=>.ok d (st2.set n (.dI (putI kvs k d)))) else .stuck
   | _,_=>.stuck
  | _=>.stuck
 | _=>.stuck
noncomputable def bMaxI:List D->Store->Res D:=fun xs st=>match xs with
 | [.ref n]=>match st[n]? with
  | some (.dI kvs)=>match kvs.map (·.1) with
   | k::ks=>.ok (.int (bestI true k ks)) st
   | []=>.stuck
  | _=>.stuck
 | _=>.stuck
noncomputable def bTruI (f:SE):ST:=fun σ st=>(f σ st).bind fun v st1=>match v with
 | .ref n=>match st1[n]? with
  | some (.dI kvs)=>.ok (!kvs.isEmpty) st1
  | _=>.stuck
 | _=>.stuck
section
variable {X:Cx}{o e a:Expr}{es:List Expr}{f:SE}{ga:SA}{apos cpos pos:Pos}
theorem zbbf:JE X (.Dict [] [] pos) eDNewI:=⟨zgt zzf fun τ H Q hq0 p hp=>by
 obtain⟨ρ,σ,st,v,st',a,rp,e,q⟩:=hq0;cases e;obtain⟨E,R⟩:=rp.alloc hp (x:=.dI []) (o:=.dK []) fun E=>⟨[],zbc,.nil⟩
 exact q _ _ _ E R (.last rp.len.symm)⟩
theorem zbgg (ho:JE X o f)(ha:JA X (e::es) ga)(hbase:attributeBase o "pop" X.env (eval o X.env)=eval o X.env:=by rfl)
  (hfew:((backTo cpos (starEach (e::es) X.env)).all (fun x=>!x.1)&&(backToKw cpos (keywordEach [] X.env)).all (fun x=>x.1.isSome)
   && decide ((e::es).length+([]:List Keyword).length+(if([]:List Keyword).isEmpty then 0 else 1) < 30))=true:=by rfl)
  (hline:(apos.endLine==cpos.line)=true:=by rfl)(hs:starEach (e::es) X.env=(false,eval e X.env)::starEach es X.env:=by rfl)(hplain:(backTo cpos (starEach es X.env)).any (·.1)=false:=by rfl) :
  JE X (.Call (.Attribute o "pop" apos) (e::es) [] cpos) (ePopI f ga):=⟨zgt (zbiy xgz xhv F.type_dict_pop zbej ho.out ha.out hbase hfew hline hs hplain) fun τ H Q hq0=>by
 obtain⟨ρ,σ,st,v,st',a,rp,e,q⟩:=hq0;obtain⟨x,st1,e1,e⟩:=zc e;refine⟨ρ,σ,st,x,st1,a,rp,e1,fun ρ1 H1 u x1 rp1 a1=>?_⟩;split at e
 ·rename_i n;split at e
  ·rename_i kv0 h0;obtain⟨p,rfl,hp,vs0,g0,_⟩:=zes rp1 a1 h0 (by intro z;cases z);obtain⟨ys,st2,e2,e⟩:=zc e;refine⟨.inr (.inr (.inl ⟨rfl,.inl ⟨_,g0⟩⟩)),ρ1,σ,st1,ys,st2,a.ext x1,rp1,e2,fun ρ2 H2 ws x2 rp2 a2=>?_⟩;split at e
   ·rename_i k kvs hn;split at e
    ·rename_i z hv;cases e;obtain⟨w,rfl,a3⟩:=a2.one;cases a3;obtain⟨p',ep,hp2,vs,g1,g2⟩:=zes rp2 (a1.ext x2) hn (by intro z;cases z);cases ep;have g4:=g2.val k;rw[hv] at g4;obtain⟨vv,g5,g6⟩:=g4;have E:Ext ρ2 H2 ρ2 (upd H2 p (.dK (dropK vs (Sum.inl k)))):=Ext.wr hp2 (zou g1) _;exact⟨p,Sum.inl k,vv,vs,rfl,rfl,g1,g5,q _ _ _ ((x1.trans x2).trans E) (rp2.wr hp2 (zou g1) ⟨_,zbc,(g2.drop k).ext E⟩) (g6.ext E)⟩
    ·cases e
   ·cases e
  ·cases e
 ·cases e⟩
theorem zbbb (ho:JE X o f)(ha:JA X (e::es) ga)(hbase:attributeBase o "setdefault" X.env (eval o X.env)=eval o X.env:=by rfl)
  (hfew:((backTo cpos (starEach (e::es) X.env)).all (fun x=>!x.1)&&(backToKw cpos (keywordEach [] X.env)).all (fun x=>x.1.isSome)
   && decide ((e::es).length+([]:List Keyword).length+(if([]:List Keyword).isEmpty then 0 else 1) < 30))=true:=by rfl)
  (hline:(apos.endLine==cpos.line)=true:=by rfl)(hs:starEach (e::es) X.env=(false,eval e X.env)::starEach es X.env:=by rfl)(hplain:(backTo cpos (starEach es X.env)).any (·.1)=false:=by rfl) :
  JE X (.Call (.Attribute o "setdefault" apos) (e::es) [] cpos) (eSetDI f ga):=⟨zgt (zbiy xgz xjy F.type_dict_setdefault zbei ho.out ha.out hbase hfew hline hs hplain) fun τ H Q hq0=>by
 obtain⟨ρ,σ,st,v,st',a,rp,e,q⟩:=hq0;obtain⟨x,st1,e1,e⟩:=zc e;refine⟨ρ,σ,st,x,st1,a,rp,e1,fun ρ1 H1 u x1 rp1 a1=>?_⟩;split at e
 ·rename_i n;split at e
  ·rename_i kv0 h0;obtain⟨p,rfl,hp,vs0,g0,_⟩:=zes rp1 a1 h0 (by intro z;cases z);obtain⟨ys,st2,e2,e⟩:=zc e;refine⟨.inr (.inr (.inl ⟨rfl,.inl ⟨_,g0⟩⟩)),ρ1,σ,st1,ys,st2,a.ext x1,rp1,e2,fun ρ2 H2 ws x2 rp2 a2=>?_⟩;split at e
   ·rename_i k d kvs hn;split at e
    ·rename_i hlen;obtain⟨w,w2,rfl,a3,a4⟩:=a2.two;cases a3;obtain⟨p',ep,hp2,vs,g1,g2⟩:=zes rp2 (a1.ext x2) hn (by intro z;cases z);cases ep;have g4:=g2.val k;refine⟨p,Sum.inl k,w2,vs,rfl,rfl,g1,by rw[← g2.length];exact hlen,fun y hy=>?_,fun hy=>?_⟩
     ·split at e
      ·rename_i z hv;cases e;rw[hv] at g4;obtain⟨vv,g5,g6⟩:=g4;rw[g5] at hy;cases hy;exact q _ _ _ (x1.trans x2) rp2 g6
      ·rename_i hv;rw[hv] at g4;rw[show valV vs (Sum.inl k)=none from g4] at hy;cases hy
     ·split at e
      ·rename_i z hv;rw[hv] at g4;obtain⟨vv,g5,g6⟩:=g4;rw[g5] at hy;cases hy
      ·rename_i hv;cases e;have E:Ext ρ2 H2 ρ2 (upd H2 p (.dK (putK vs (Sum.inl k) w2))):=Ext.wr hp2 (zou g1) _;exact q _ _ _ ((x1.trans x2).trans E) (rp2.wr hp2 (zou g1) ⟨_,zbc,(g2.put k a4).ext E⟩) (a4.ext E)
    ·cases e
   ·cases e
  ·cases e
 ·cases e⟩
theorem zbhc {K:Fg}:CaD K bMaxI rMaxDI:=fun ρ H st xs us z st' Q rp aa e q=>by
 unfold bMaxI at e;split at e
 ·split at e
  ·rename_i n kvs hn;split at e
   ·rename_i k ks hk;cases e;obtain⟨u,rfl,a⟩:=aa.one;obtain⟨p,rfl,hp,vs,g1,g2⟩:=zes rp a hn (by intro z;cases z);exact⟨p,k,ks,vs,rfl,.inl g1,by rw[g2.keys,hk],q _ _ _ (.refl _ _) rp (.int _)⟩
   ·cases e
  ·cases e
 ·cases e
theorem zbak (h:JE X a f)(he:∀whole,isTrue a X.env whole=(do let v ← whole;standAt a.pos;holding [v] (truthy v)):=by intro _;rfl):JT X a (bTruI f):=⟨zbbx (zrz h.out he) fun τ H Q hq0=>by
 obtain⟨ρ,σ,st,v,st',at',rp,e,q⟩:=hq0;obtain⟨x,st1,e1,e⟩:=zc e;refine⟨ρ,σ,st,x,st1,at',rp,e1,fun ρ1 H1 u x1 rp1 a1=>?_⟩;split at e
 ·rename_i n;split at e
  ·rename_i kvs hn;cases e;obtain⟨p,rfl,hp,vs,g1,g2⟩:=zes rp1 a1 hn (by intro z;cases z);have ee:kvs.isEmpty=vs.isEmpty:=by
    have:=g2.length;cases kvs<;>cases vs<;>simp at this ⊢
   exact⟨_,.inr (.inr ⟨vs,g1,by rw[ee]⟩),q _ _ x1 rp1⟩
  ·cases e
 ·cases e⟩
end
end Dd
namespace L2
open PySem PySem.Spec PyProof.Rows
end L2
namespace Dd
open PySem L2 PyProof.Rows
end Dd
namespace L2
open PySem PySem.Spec PyProof.Rows
section
variable {X:Cx}{tg:Expr}
end
end L2
namespace Dd
open PySem PySem.Spec PyProof.Rows L2
section
variable {X:Cx}{tg l:Expr}{f:SE}{p pos:Pos}
end
end Dd
namespace L2
open PySem PySem.Spec PyProof.Rows PySem.W
section
variable {X:Cx}{aU:List (Addr×Obj)}{σ:St}{H:Hp}{s:Shared}
theorem Inv.thaw {a:Addr}{kvs:List (List Key×V)}{ob:Obj}(I:Inv X aU σ H s)(h:H a=some (.frz ob (.dT kvs)))(h0:∀o u,X.H₀ a≠some (.frz o u)):Inv X aU σ (upd H a (.dT kvs)) s:=by
 have off:∀{b:Addr} {u:HO},H b=some u->(∀o l,u≠.frz o (.dT l))->upd H a (.dT kvs) b=some u:=fun {b u} q n=>by
  rw[zr (by rintro rfl;rw[h] at q;cases q;exact n _ _ rfl)];exact q
 have non:∀{b:Addr},H b=none->upd H a (.dT kvs) b=none:=fun {b} q=>by
  rw[zr (by rintro rfl;rw[h] at q;cases q)];exact q
 refine⟨I.ok,I.os,I.bare,⟨I.base.keep,I.base.slot,fun b o q n x=>non (I.base.free b o q n x),I.base.there,fun b xs q=>off (I.base.tups b xs q) (fun o l z=>by cases z),fun b o u q=>?_,fun b ps q=>?_⟩,I.loc,I.cell,non I.free,fun x c e=>non (I.freeC x c e),fun p hp=>?_,fun b u q=>?_,I.len,fun v e=>?_⟩
 ·have q1:=I.base.frzs b o u q;by_cases hb:b=a
  ·subst hb;exact absurd q (h0 o u)
  ·rw[zr hb];exact q1
 ·obtain⟨more,q1⟩:=I.base.tbls b ps q;exact⟨more,off q1 fun o l z=>by cases z⟩
 ·obtain⟨p1,p2,p3⟩:=I.pin p hp;exact⟨p1,non p2,p3⟩
 ·by_cases hb:b=a
  ·subst hb;rw[zbc] at q;cases q;exact(I.hok b _ h).2.stay (fun c v _ r=>r) (fun c r=>off r (fun o l z=>by cases z)) fun c xs r=>off r (fun o l z=>by cases z)
  ·rw[zr hb] at q;exact(I.hok b u q).stay (fun c v _ r=>r) (fun c r=>off r (fun o l z=>by cases z)) fun c xs r=>off r (fun o l z=>by cases z)
 ·obtain⟨c,o,e1,e2,e3⟩:=I.hnd v e;exact⟨c,o,e1,off e2 (fun o l z=>by cases z),e3⟩
end
noncomputable def rListD:List V->Hp->VK->Prop:=fun xs H Q=>∃(a:Addr) (kvs:List (List Key×V)) (ks:List (List Int)),xs=[.ref a]/\Rd H a (.dT kvs)/\kvs.map (·.1)=ks.map (fun ns=>ns.map Sum.inl)/\ks.length<=1000000 /\
 ∀t (qs:List (Addr×List Int)),H t=none->qs.map (·.2)=ks->(∀p∈qs,H p.1=some (.tup (p.2.map V.int)))->Q (.ref t) (upd H t (.lst (qs.map fun p=>V.ref p.1)))
theorem ztp {X:Cx}(hc:X.calm=true):CallR X (.type "list") rListD:=by
 intro aU s σ H xs us Q I r h;obtain⟨a,kvs,ks,rfl,hd,ek,few,q⟩:=h;obtain⟨u,rfl,ru⟩:=vals1 r;cases ru;obtain⟨z,ns,ys,rel,ob,es,ep,e1,e2,e3,e4,e5⟩:=(show ObjOk X.prog X.w H s.heap a (.dT kvs) from hd.ok I.hok)
 obtain⟨ps,a1,a2,a3⟩:=ziq (P:=X.prog) (w:=X.w) rel ek;have hpl:ps.length=ks.length:=by rw[← a1,xbd]
 have hes:es.toList.map (·.key)=ps.map fun p=>Value.ref p.1:=by rw[e4,xdl];exact a3
 have hsz:es.size=ps.length:=by
  have:=congrArg List.length hes;rw[xbd,xbd,xby] at this;exact this
 refine kdl_call (Dct.zwy ns es ep) (I.ok.hd hc) ⟨ob,e1,e2,e3⟩ ((by rw[xhp];lia)) fun h' tk acc c keep new it=>?_
 have ln:acc.toList.length=es.size:=by rw[xby];exact it.1
 have evs:acc.toList=ps.map fun p=>Value.ref p.1:=by
  rw[← hes];apply xfv;intro i;by_cases hi:i < es.size
  ·have h1:acc.toList[i]?=some acc.toList[i]:=xbe (by lia);obtain⟨en,h2,h3⟩:=it.2 i _ (by rw[← xcj];exact h1);rw[h1,h3,xcd,xcj,h2]
   rfl
  ·rw[xem (by lia),xem (by rw[xbd,xby];lia)]
 refine⟨.ref s.heap.objs.size,_,I.laid (a:=s.heap.objs.size) (o:=.lst (ps.map fun p=>V.ref p.1)) keep (xbf _) ⟨?_,ps.map fun p=>Value.ref p.1,c,zfk ps,by rw[← evs];simpa using new⟩,rfl,q _ ps (I.hok.fresh (xbf _)) a1 a2⟩;rw[xbd];exact(by rw[xhp];lia)
end L2
namespace Dd
open PySem PySem.Spec PyProof.Rows L2
noncomputable def bListD:List D->Store->Res D:=fun xs st=>match xs with
 | [.ref n]=>match st[n]? with
  | some (.dT kvs)=>if kvs.length<=1000000 then .ok (.lst (aJ (kvs.map (·.1)))) st else .stuck
  | _=>.stuck
 | _=>.stuck
theorem zbbr {K:Fg}:CaD K bListD rListD:=fun ρ H st xs us z st' Q rp aa e q=>by
 unfold bListD at e;split at e
 ·rename_i n;obtain⟨u,rfl,a⟩:=aa.one;split at e
  ·rename_i kvs hk;split at e
   ·rename_i few;cases e;obtain⟨p,vs,rfl,h1,h2⟩:=zkk rp a (show pairsOf st (.ref n)=some kvs from by unfold pairsOf;dsimp only;rw[hk]);refine⟨p,vs,kvs.map (·.1),rfl,h1,h2.keys,by rw[xbd];exact few,fun t qs ht hp hq=>?_⟩;refine q _ _ _ (Ext.new ht _) (rp.new ht _) (.newL rp ht ?_);rw[← hp];exact zkh qs fun x hx=>⟨hq x hx,zkt rp (hq x hx)⟩
   ·cases e
  ·cases e
 ·cases e
theorem zyi {X:Cx}{aU:List (Addr×Obj)}{s:Shared}{τ:L2.St}{ρ ρ1:Loc}{H H1:Hp}{st st1:Store}{n:Nat}{kv0 kvs:List (List Int×D)}(I:Inv X aU τ H s)(rp:Rep X.K ρ st H)(hn:st[n]?=some (.dT kv0))(x1:Ext ρ H ρ1 H1)(rp1:Rep X.K ρ1 st1 H1)(h1:st1[n]?=some (.fT kvs)) :
  ∃p vs ob,H1 p=some (.frz ob (.dT vs))/\(∀o u,X.H₀ p≠some (.frz o u))/\Ext ρ H ρ1 (upd H1 p (.dT vs))/\Rep X.K ρ1 (st1.set n (.dT kvs)) (upd H1 p (.dT vs))/\Mv ρ1 H1 ρ1 (upd H1 p (.dT vs)):=by
 obtain⟨p,hp⟩:=rp.live n _ hn (by intro z;cases z);obtain⟨vs0,hd0,_⟩:=rp.obj n p _ hp hn;have H0:∀o u,X.H₀ p≠some (.frz o u):=fun o u z=>by
  have:=I.base.frzs p o u z;rw[hd0] at this;cases this
 obtain⟨p',hp'⟩:=rp1.live n _ h1 (by intro z;cases z);have hn':n < ρ.m.length:=(xbc.mp hp).1;have pp:p'=p:=by
  have:=x1.old n p' hn' hp';rw[hp] at this;exact(xcl (xcl this)).symm
 subst pp;obtain⟨vs,ob,hf,kv⟩:=rp1.obj n p' _ hp' h1;have off:∀{b:Addr} {u:HO},H1 b=some u->(∀o l,u≠.frz o (.dT l))->upd H1 p' (.dT vs) b=some u:=fun {b u} q n=>by
  rw[zr (by rintro rfl;rw[hf] at q;cases q;exact n _ _ rfl)];exact q
 have mv:Mv ρ1 H1 ρ1 (upd H1 p' (.dT vs)):=⟨fun {b o} hb ho=>⟨by
  rw[zr (by rintro rfl;exact ho.1 (xbo hp'))];exact hb,ho⟩,xbf _,fun _ _ _ e=>e⟩
 refine⟨p',vs,ob,hf,H0,⟨x1.len,x1.old,fun b o hb hm=>?_,x1.gho,fun b o u hb=>?_⟩,⟨by rw[rp1.len,xcp],rp1.inj,fun m b y e1 e2=>?_,fun b hb=>?_,fun m y e ne=>?_⟩,mv⟩
 ·obtain⟨k1,k2⟩:=x1.keep b o hb hm;refine⟨?_,k2⟩;rw[zr (by rintro rfl;exact hm (xbo hp))];exact k1
 ·have k1:=x1.frz b o u hb;rw[zr (by rintro rfl;rw[hd0] at hb;cases hb)];exact k1
 ·by_cases hm:m=n
  ·subst hm;have hb:b=p':=by rw[hp'] at e1;exact(xcl (xcl e1)).symm
   subst hb;have hl:m < st1.length:=by rw[← rp1.len];exact(xbc.mp hp').1
   rw[xdw hl] at e2;cases e2;exact⟨vs,zbc,Paired.mapP kv fun p q z=>⟨z.1,z.2.mv mv⟩⟩
  ·rw[xbl (xdv hm)] at e2;have nb:b≠p':=fun z=>by subst z;exact hm (rp1.inj m n b e1 hp')
   have o:=rp1.obj m b y e1 e2;cases y with
   | lst xs=>obtain⟨vs',q1,r1⟩:=o;exact⟨vs',by rw[zr nb];exact q1,r1.mv mv⟩
   | dT kv'=>obtain⟨vs',q1,r1⟩:=o;exact⟨vs',by rw[zr nb];exact q1,Paired.mapP r1 fun p q z=>⟨z.1,z.2.mv mv⟩⟩
   | fT kv'=>obtain⟨vs',ob',q1,r1⟩:=o;exact⟨vs',ob',by rw[zr nb];exact q1,Paired.mapP r1 fun p q z=>⟨z.1,z.2.mv mv⟩⟩
   | dI kv'=>obtain⟨vs',q1,r1⟩:=o;exact⟨vs',by rw[zr nb];exact q1,Paired.mapP r1 fun p q z=>⟨z.1,z.2.mv mv⟩⟩
   | dead=>exact o.elim
   | tab =>
    obtain⟨c,ps,q1,r1⟩:=o;refine⟨c,ps,by rw[zr nb];exact q1,r1.1,fun pos cv e=>?_⟩;obtain⟨c',oc,vs',t,k1,k2,k3⟩:=r1.2 pos cv e;exact⟨c',oc,vs',t,k1,off k2 (fun o l z=>by cases z),k3⟩
 ·obtain⟨⟨u,hu⟩,n1⟩:=rp1.gh b hb;refine⟨⟨u,?_⟩,n1⟩;rw[zr (by rintro rfl;exact n1 (xbo hp'))];exact hu
 ·by_cases hm:m=n
  ·subst hm;exact⟨p',hp'⟩
  ·rw[xbl (xdv hm)] at e;exact rp1.live m y e ne
noncomputable def sThaw (i:Nat) (f:SS):SS:=fun σ st=>match σ[i]? with
 | some (some (.ref n))=>match st[n]? with
  | some (.dT _)=>(f σ st).bind fun fl st1=>match fl,st1[n]? with
   | .nx σ1,some (.fT kvs)=>.ok (.nx σ1) (st1.set n (.dT kvs))
   | _,_=>.stuck
  | _=>.stuck
 | _=>.stuck
theorem zbfp {X:Cx}{c:Stmt}{f:SS}{i:Nat}(h:DSt X c f):DSt X c (sThaw i f):=by
 rintro aU s τ H E I ⟨ρ,σ,st,fl,st',a,rp,e,q⟩;unfold sThaw at e;split at e
 ·rename_i n hi;split at e
  ·rename_i kv0 hn;obtain⟨w,st1,e1,e⟩:=zc e;split at e
   ·rename_i σ1 kvs h1;cases e;refine thn (h aU s τ H {nx:=fun τ' H'=>∃ρ',Ext ρ H ρ' H'/\Rep X.K ρ' st1 H'/\AtS X.K ρ' H' σ1 τ',rt:=fun _ _=>False} I ⟨ρ,σ,st,.nx σ1,st1,a,rp,e1,fun ρ' H' τ' x r t=>⟨ρ',x,r,t⟩⟩) fun w s1 z=>?_
    cases w with
    | next =>
     obtain⟨τ1,H1,I1,ρ1,x1,rp1,a1⟩:=z;obtain⟨p,vs,ob,hf,H0,E1,R,mv⟩:=zyi I rp hn x1 rp1 h1
     exact⟨τ1,_,I1.thaw hf H0,q ρ1 _ τ1 E1 R (Paired.mapP a1 fun o v z d e=>by
      obtain⟨u,e1,t⟩:=z d e
      exact⟨u,e1,t.mv mv⟩)⟩
    | brk=>obtain⟨_,_,_,z⟩:=z;exact z.elim
    | cont=>obtain⟨_,_,_,z⟩:=z;exact z.elim
    | ret u=>obtain⟨_,_,_,_,_,z⟩:=z;exact z.elim
   ·cases e
  ·cases e
 ·cases e
theorem zbao {X:Cx}{c:Stmt}{f:SS}{i:Nat}(h:JS X c f):JS X c (sThaw i f):=⟨zbfp h.out⟩
end Dd
namespace Dd
open PySem L2
noncomputable def zeh:DFn:=fnD 5 2 (aD (aF 2 (eC (.int 0)))
 (aD (sIf (eB (aS oLtT (aA 1) (aE bLen (aB (aA 0) aC)))) (aF 2 (aE bAbs (aB (aS oIx (aA 0) (aA 1)) aC))) sNx)
 (aD (aF 3 (aS aM (aS oMulI (eC (.int 7919)) (aA 1)) (eC (.int 17))))
 (aD (sFor (iR1 (aB (aE bMin2 (aB (aE bLen (aB (aA 0) aC)) (aB (eC (.int 60)) aC))) aC)) (gN 4) (aF 3 (aS oMod (aS aM (aS aM (aS oMulI (aA 3) (eC (.int 48271))) (aS oMod (aS oIx (aA 0) (aA 4)) (eC (.int 2147483647)))) (aA 4)) (eC (.int 2147483629)))))
 (aD (sIf (eB (aS oLtT (aA 2) (aS oPow (eC (.int 10)) (eC (.int 18))))) (aF 2 (eC (.int 0))) sNx)
 (sRet (eLstM (aB (aA 2) (aB (aA 3) aC)))))))))
noncomputable def zw:DFn:=fnD 5 2 (aD (sIf (eB (aS oGt (aS oIx (aA 0) (eC (.int 0))) (eC (.int 0)))) (aD (aF 2 (aS oMod (aS oIx (aA 0) (eC (.int 0))) (aA 1)))
 (aD (sSetIx (aA 0) (eC (.int 0)) (aS oFdiv (aS oIx (aA 0) (eC (.int 0))) (aA 1)))
 (sRet (aA 2)))) sNx)
 (aD (aF 3 (eC (.int 0)))
 (aD (aF 4 (eC (.int 1)))
 (aD (sWhile (eB (aS oLtT (aA 4) (aA 1))) (aD (sSetIx (aA 0) (eC (.int 1)) (aS oMod (aS aM (aS oMulI (aS oIx (aA 0) (eC (.int 1))) (eC (.int 48271))) (eC (.int 7919))) (eC (.int 2147483647))))
 (aD (aF 3 (aS aM (aS oMulI (aA 3) (eC (.int 1073741789))) (aS oMod (aS oMulI (aS oFdiv (aS oIx (aA 0) (eC (.int 1))) (eC (.int 8))) (eC (.int 69621))) (eC (.int 1073741789)))))
 (aF 4 (aS oMulI (aA 4) (eC (.int 1073741789)))))))
 (sRet (aS oMod (aA 3) (aA 1)))))))
noncomputable def zjd:DFn:=fnD 2 2 (sIf (eB (aS (oDIn false) (aA 1) (aA 0))) (sDrop (eDPop (aA 0) (aA 1))) (sDPut (aA 0) (aA 1) (eC (.bl true))))
noncomputable def zfq:SS:=(sDPut (aA 1) (aA 2) (eNot (eDGet2 (aA 1) (aA 2) (eC (.bl false)))))
noncomputable def zdw:DFn:=fnD 3 1 (aD (aF 1 eDNew)
 (aD (sFor (aH (aA 0)) (gN 2) zfq)
 (sRet (aE bTuple (aB (aE bSorted (aB (aG (iDict (aA 1)) 1 [1] (gN 0) (eTru (aS oDGet (aA 1) (aA 0))) (aA 0)) aC)) aC)))))
noncomputable def zey:SS:=(aF 2 (aS oFdiv (aS oMulI (aA 2) (aS oSub (aA 0) (aA 3))) (aS aM (aA 3) (eC (.int 1)))))
noncomputable def zcy:DFn:=fnD 4 2 (aD (aF 2 (eC (.int 1)))
 (aD (sFor (iR1 (aB (aA 1) aC)) (gN 3) zey)
 (sRet (aA 2))))
noncomputable def zez:SS:=(sIf (eB (aS oEq (aS oMod (aE zcy (aB (aS oSub (aS oSub (aA 1) (aA 3)) (eC (.int 1))) (aB (aS oSub (aA 0) (aS oMulI (eC (.int 2)) (aA 3))) aC))) (eC (.int 2))) (eC (.int 1)))) (sDrop (eAppend (aA 2) (aB (aE bTuple (aB (aG (aH (eLst (aB (aS oSub (aS aM (aA 0) (aA 1)) (aA 3)) (aB (aA 3) aC)))) 1 [] (gN 0) (eB (aS oGt (aA 0) (eC (.int 0)))) (aA 0)) aC)) aC))) sNx)
noncomputable def zfa:DFn:=fnD 4 2 (aD (aF 2 (eLstM aC))
 (aD (sFor (iR1 (aB (aS aM (aS oFdiv (aA 0) (eC (.int 2))) (eC (.int 1))) aC)) (gN 3) zez)
 (sRet (aE bTuple (aB (aE bSorted (aB (aA 2) aC)) aC)))))
noncomputable def zbe:DFn:=fnD 1 1 (sRet (aG (iR1 (aB (aS oSub (aE bLen (aB (aA 0) aC)) (eC (.int 1))) aC)) 1 [0] (gN 0) (eB (aS oLtT (aS oIx (aA 1) (aA 0)) (aS oMulI (eC (.int 2)) (aS oIx (aA 1) (aS aM (aA 0) (eC (.int 1))))))) (aA 0)))
noncomputable def zcr:SS:=(sIf (bOr (bNot (eTru (aE bIsinst (aB (aA 2) (aB (eC (.ty "tuple")) aC))))) (eTru (aE (bAny false) (aB (aG (aH (aA 2)) 1 [] (gN 0) aI (eOr (eNot (aE bIsinst (aB (aA 0) (aB (eC (.ty "int")) aC)))) (aE bIsinst (aB (aA 0) (aB (eC (.ty "bool")) aC))))) aC)))) (sRet (eC (.bl false))) sNx)
noncomputable def zbg:DFn:=fnD 3 2 (aD (sIf (bOr (bNot (eTru (aE bIsinst (aB (aA 0) (aB (eC (.ty "tuple")) aC))))) (eB (aS oNe (aA 0) (aA 1)))) (sRet (eC (.bl false))) sNx)
 (aD (sFor (aH (aA 0)) (gN 2) zcr)
 (sRet (eC (.bl true)))))
noncomputable def zfp:SS:=(sIf (eB (aS oGt (aA 4) (eC (.int 0)))) (aD (sDrop (eAppend (aA 3) (aB (aS aM (eC (.int 1)) (aE zw (aB (aA 0) (aB (aS oIx (eLst (aB (aA 4) (aB (aE bMin2 (aB (aA 4) (aB (eC (.int 5)) aC))) (aB (aE bMin2 (aB (aA 4) (aB (eC (.int 2)) aC))) aC)))) (aE zw (aB (aA 0) (aB (eC (.int 3)) aC)))) aC)))) aC)))
 (aF 4 (aS oSub (aA 4) (aS oIx (aA 3) (eUn oNeg (eC (.int 1))))))) sNx)
noncomputable def zfd:DFn:=fnD 6 3 (aD (aF 3 (eLstM aC))
 (aD (aF 4 (aA 1))
 (aD (sFor (iR1 (aB (aE zw (aB (aA 0) (aB (aS aM (aA 2) (eC (.int 1))) aC))) aC)) (gN 5) zfp)
 (sRet (aE bTuple (aB (aA 3) aC))))))
noncomputable def zdv:DFn:=fnD 4 4 (sRet (aE zdw (aB (aG (iR1 (aB (aE zw (aB (aA 0) (aB (aS aM (aA 1) (eC (.int 1))) aC))) aC)) 1 [0,2,3] (gN 0) aI (aE zfd (aB (aA 1) (aB (aA 2) (aB (aA 3) aC))))) aC)))
noncomputable def zeg:SS:=(sDPut (aA 1) (aA 2) (eC (.bl true)))
noncomputable def zdt:DFn:=fnD 3 1 (aD (aF 1 eDNew)
 (aD (sFor (aH (aA 0)) (gN 2) zeg)
 (sRet (aA 1))))
noncomputable def zex:DFn:=fnD 2 2 (sRet (aS oEq (aS oAndI (aA 0) (aA 1)) (aA 1)))
noncomputable def zcq:SS:=(sIf (eTru (aE zex (aB (aS oSub (aS oSub (aA 1) (aA 3)) (eC (.int 1))) (aB (aS oSub (aA 0) (aS oMulI (eC (.int 2)) (aA 3))) aC)))) (sDrop (eAppend (aA 2) (aB (eIf (eB (aS oGt (aA 3) (eC (.int 0)))) (aR (aB (aS oSub (aS aM (aA 0) (aA 1)) (aA 3)) (aB (aA 3) aC))) (aR (aB (aS aM (aA 0) (aA 1)) aC))) aC))) sNx)
noncomputable def zbu:DFn:=fnD 4 2 (aD (aF 2 (eLstM aC))
 (aD (sFor (iR1 (aB (aS aM (aS oFdiv (aA 0) (eC (.int 2))) (eC (.int 1))) aC)) (gN 3) zcq)
 (sRet (aE bSorted (aB (aA 2) aC)))))
noncomputable def zbf:DFn:=fnD 4 2 (aD (aF 2 (eSl (aA 0) pNone (pSome (aA 1))))
 (aD (aF 3 (eSl (aA 0) (pSome (aS aM (aA 1) (eC (.int 2)))) pNone))
 (sRet (aG (aH (aE zbu (aB (aS oIx (aA 0) (aA 1)) (aB (aS oIx (aA 0) (aS aM (aA 1) (eC (.int 1)))) aC)))) 1 [3,2] (gN 0) aI (aS aM (aS aM (aA 2) (aA 0)) (aA 1))))))
noncomputable def zbw:DFn:=fnD 1 1 (sRet (eAnd (aE bIsinst (aB (aA 0) (aB (eC (.ty "int")) aC))) (eNot (aE bIsinst (aB (aA 0) (aB (eC (.ty "bool")) aC))))))
noncomputable def zct:DFn:=fnD 2 2 (sRet (eAnd (aE bIsinst (aB (aA 1) (aB (eC (.ty "tuple")) aC))) (eAnd (aE (bAny true) (aB (aG (aH (aA 1)) 1 [] (gN 0) aI (aE zbw (aB (aA 0) aC))) aC)) (aS (oDIn false) (aA 1) (aA 0)))))
noncomputable def zch:DFn:=fnD 2 2 (sRet (aS oLtT (aA 0) (aS oMulI (eC (.int 2)) (aA 1))))
noncomputable def zbx:DFn:=fnD 2 2 (aD (sIf (bOr (bNot (eTru (aE zbw (aB (aA 1) aC)))) (bNot (eB (eChain oLe oLtT (eC (.int 0)) (aA 1) (aS oSub (aE bLen (aB (aA 0) aC)) (eC (.int 1))))))) (sRet (eC (.bl false))) sNx)
 (sRet (aE zch (aB (aS oIx (aA 0) (aA 1)) (aB (aS oIx (aA 0) (aS aM (aA 1) (eC (.int 1)))) aC)))))
noncomputable def zdb:SS:=(sDrop (aE zjd (aB (aA 0) (aB (aA 3) aC))))
noncomputable def zcn:DFn:=fnD 4 3 (aD (sIf (bNot (eTru (aE zct (aB (aA 0) (aB (aA 1) aC))))) sStuck sNx)
 (aD (sIf (bNot (eTru (aE zbx (aB (aA 1) (aB (aA 2) aC))))) sStuck sNx)
 (aD (sDrop (aE zjd (aB (aA 0) (aB (aA 1) aC))))
 (sFor (aH (aE zbf (aB (aA 1) (aB (aA 2) aC)))) (gN 3) zdb))))
noncomputable def ziw:DFn:=fnD 1 1 (sRet (aG (iR1 (aB (aS oSub (aE bLen (aB (aA 0) aC)) (eC (.int 1))) aC)) 1 [0] (gN 0) (eTru (aE zbx (aB (aA 1) (aB (aA 0) aC)))) (aA 0)))
noncomputable def zfo:DFn:=fnD 1 1 (sRet (aE bSum (aB (aG (iEnum (aA 0)) 2 [] (gT 2 (gsCons (gN 0) (gsCons (gN 1) gsNil))) aI (aS oMulI (aA 0) (aA 1))) aC)))
noncomputable def zhf:SS:=(sDrop (aE zcn (aB (aA 2) (aB (aA 3) (aB (aA 4) aC)))))
noncomputable def zgh:DFn:=fnD 5 2 (aD (aF 2 (aE zdt (aB (aA 0) aC)))
 (aD (sFor (aH (aA 1)) (gT 2 (gsCons (gN 3) (gsCons (gN 4) gsNil))) zhf)
 (sRet (aE bTuple (aB (aE bSorted (aB (aA 2) aC)) aC)))))
noncomputable def zck:DFn:=fnD 2 2 (sDrop (aE zjd (aB (eSetDI (aA 0) (aB (aE zfo (aB (aA 1) aC)) (aB eDNew aC))) (aB (aA 1) aC))))
noncomputable def zlo:SS:=(sDrop (aE zck (aB (aA 1) (aB (aA 2) aC))))
noncomputable def zof:SS:=(sDrop (aE zck (aB (aA 1) (aB (aA 6) aC))))
noncomputable def zoe:SS:=(aD (aF 5 (aE ziw (aB (aA 2) aC)))
 (sIf (eTru (aA 5)) (aD (sDrop (eAppend (aA 3) (aB (aR (aB (aA 2) (aB (aS oIx (aA 5) (eC (.int 0))) aC))) aC)))
 (sFor (aH (aE zbf (aB (aA 2) (aB (aS oIx (aA 5) (eC (.int 0))) aC)))) (gN 6) zof)) sNx))
noncomputable def zod:SS:=(aD (aF 4 (ePopI (aA 1) (aB (aE bMaxI (aB (aA 1) aC)) aC)))
 (sFor (aH (aE bSorted (aB (aA 4) aC))) (gN 2) zoe))
noncomputable def zbhf:DFn:=fnD 7 1 (aD (aF 1 eDNewI)
 (aD (sFor (aH (aA 0)) (gN 2) zlo)
 (aD (aF 3 (eLstM aC))
 (aD (sWhile (bTruI (aA 1)) zod)
 (sRet (eFz (aA 3)))))))
noncomputable def zdh:DFn:=fnD 1 1 (sRet (aE zgh (aB (aA 0) (aB (aE zbhf (aB (aA 0) aC)) aC))))
noncomputable def zdu:SS:=(sIf (eB (aS (oDIn false) (aA 2) (aA 0))) (sDrop (eDPop (aA 0) (aA 2))) (sDPut (aA 0) (aA 2) (eC (.bl true))))
noncomputable def zu:DFn:=fnD 3 2 (sFor (aH (aA 1)) (gN 2) zdu)
noncomputable def zbp:DFn:=fnD 1 1 (sRet (aE bSum (aB (aG (iR1 (aB (aE bLen (aB (aA 0) aC)) aC)) 1 [0] (gN 0) aI (aS oMulI (aS aM (aA 0) (eC (.int 1))) (aS oIx (aA 1) (aA 0)))) aC)))
noncomputable def zcz:DFn:=fnD 3 2 (aD (aF 2 (aS oIx (aE zbe (aB (aA 1) aC)) (aE zw (aB (aA 0) (aB (aE bLen (aB (aE zbe (aB (aA 1) aC)) aC)) aC)))))
 (sRet (aG (aH (aE zfa (aB (aS oIx (aA 1) (aA 2)) (aB (aS oIx (aA 1) (aS aM (aA 2) (eC (.int 1)))) aC)))) 1 [1,2] (gN 0) aI (aS aM (aS aM (eSl (aA 1) pNone (pSome (aA 2))) (aA 0)) (eSl (aA 1) (pSome (aS aM (aA 2) (eC (.int 2)))) pNone)))))
noncomputable def zdj:SS:=(sDrop (aE zu (aB (aS oIx (aA 2) (aE zbp (aB (aA 3) aC))) (aB (eLst (aB (aA 3) aC)) aC))))
noncomputable def zcg:SS:=(sDrop (aE zu (aB (aS oIx (aA 2) (aE zbp (aB (aA 6) aC))) (aB (eLst (aB (aA 6) aC)) aC))))
noncomputable def zcf:SS:=(sIf (eB (aS oEq (aE bLen (aB (aE zbe (aB (aA 3) aC)) aC)) (eC (.int 0)))) (sDrop (eAppend (aA 4) (aB (aA 3) aC))) (sFor (aH (aE zcz (aB (aA 0) (aB (aA 3) aC)))) (gN 6) zcg))
noncomputable def zdi:SS:=(sFor (aH (aE bListD (aB (aS oIx (aA 2) (aA 5)) aC))) (gN 3) zcf)
noncomputable def zbq:DFn:=fnD 7 2 (aD (aF 2 (aG (iR1 (aB (eC (.int 97)) aC)) 1 [] (gN 0) aI eDNew))
 (aD (sFor (aH (aA 1)) (gN 3) zdj)
 (aD (aF 4 (eLstM aC))
 (aD (sFor (iRD (aB (eC (.int 96)) (aB (eUn oNeg (eC (.int 1))) (aB (eUn oNeg (eC (.int 1))) aC)))) (gN 5) zdi)
 (sRet (aE bTuple (aB (aE bSorted (aB (aA 4) aC)) aC)))))))
noncomputable def zfi:SS:=(aD (sThaw 2 (aF 4 (aG (iDict (aA 2)) 1 [] (gN 0) (eB (aS oGt (aE bLen (aB (aE zbe (aB (aA 0) aC)) aC)) (eC (.int 0)))) (aA 0))))
 (aD (sIf (eB (aS oEq (aE bLen (aB (aA 4) aC)) (eC (.int 0)))) (sRet (aE bTuple (aB (aE bSorted (aB (aA 2) aC)) aC))) sNx)
 (aD (aF 5 (aS oIx (aA 4) (aE zw (aB (aA 0) (aB (aE bLen (aB (aA 4) aC)) aC)))))
 (aD (sDrop (eDPop (aA 2) (aA 5)))
 (sDrop (aE zu (aB (aA 2) (aB (aE zcz (aB (aA 0) (aB (aA 5) aC))) aC))))))))
noncomputable def zda:DFn:=fnD 6 2 (aD (aF 2 eDNew)
 (aD (sDrop (aE zu (aB (aA 2) (aB (aA 1) aC))))
 (aD (sFor (iR1 (aB (eC (.int 1000)) aC)) (gN 3) zfi)
 (sRet (eC .non)))))
noncomputable def zog:SS:=(aD (aF 1 (aE zeh (aB (aA 0) (aB (aA 4) aC))))
 (aD (aF 2 (aE zdv (aB (aA 1) (aB (eC (.int 12)) (aB (eC (.int 7)) (aB (eC (.int 6)) aC))))))
 (aD (aF 3 (aE zda (aB (aA 1) (aB (aA 2) aC))))
 (sIf (bAnd (eB (aS (oIsN true) (aA 3) (eC .non))) (bNot (eTru (aE zbg (aB (aE zdh (aB (aA 2) aC)) (aB (aA 3) aC)))))) (sRet (eC (.bl false))) sNx))))
noncomputable def zblu:DFn:=fnD 5 1 (aD (aF 1 (aE zeh (aB (aA 0) (aB (eC (.int 0)) aC))))
 (aD (aF 2 (aE zdv (aB (aA 1) (aB (eC (.int 12)) (aB (eC (.int 16)) (aB (eC (.int 6)) aC))))))
 (aD (aF 3 (aE zbq (aB (aA 1) (aB (aA 2) aC))))
 (aD (sIf (bOr (bNot (eTru (aE zbg (aB (aE zdh (aB (aA 2) aC)) (aB (aA 3) aC))))) (bNot (eTru (aE zbg (aB (aE zdh (aB (aA 2) aC)) (aB (aA 3) aC)))))) (sRet (eC (.bl false))) sNx)
 (aD (sFor (iR2 (aB (eC (.int 1)) (aB (eC (.int 3)) aC))) (gN 4) zog)
 (sRet (eC (.bl true))))))))
noncomputable def RngOk (j:Int):Prop:=-(2 ^ 62)<=j/\j < 2 ^ 62
noncomputable instance (j:Int):Decidable (RngOk j):=by unfold RngOk;infer_instance
theorem rngOk {j:Int}(h1:-1000000000000<=j)(h2:j<=1000000000000):RngOk j:=⟨by lia,by lia⟩
section
variable {σ:DS}{st:Store}
@[simp] theorem eC_v {d:D}:eC d σ st=.ok d st:=rfl
@[simp] theorem zbfj {i:Nat}:aA i σ st=(match σ[i]? with
 | some (some d)=>.ok d st
 | _=>.stuck):=rfl
@[simp] theorem zbhm {g:D->D->Store->Res D} {f f':SE}:aS g f f' σ st=(f σ st).bind fun x st1=>(f' σ st1).bind fun y st2=>g x y st2:=rfl
@[simp] theorem zboj {g:D->Store->Res D} {f:SE}:eUn g f σ st=(f σ st).bind fun x st1=>g x st1:=rfl
@[simp] theorem zde {g:List D->Store->Res D} {f:SA}:aE g f σ st=(f σ st).bind fun xs st1=>g xs st1:=rfl
@[simp] theorem zbhe:aC σ st=.ok [] st:=rfl
@[simp] theorem zew {f:SE} {g:SA}:aB f g σ st=(f σ st).bind fun x st1=>(g σ st1).bind fun xs st2=>.ok (x::xs) st2:=rfl
@[simp] theorem eB_v {f:SE}:eB f σ st=(f σ st).bind fun v st1=>(match v with
 | .bl b=>.ok b st1
 | _=>.stuck):=rfl
@[simp] theorem zqu {f:SE}:eTru f σ st=(f σ st).bind fun v st1=>(match tru st1 v with
 | some b=>.ok b st1
 | none=>.stuck):=rfl
@[simp] theorem zbaj {f f':SE}:eAnd f f' σ st=(f σ st).bind fun v st1=>(match v with
 | .bl true=>f' σ st1
 | .bl false=>.ok (.bl false) st1
 | _=>.stuck):=rfl
@[simp] theorem zbnl {f f':SE}:eOr f f' σ st=(f σ st).bind fun v st1=>(match v with
 | .bl true=>.ok (.bl true) st1
 | .bl false=>f' σ st1
 | _=>.stuck):=rfl
@[simp] theorem zbfk {f:SE}:eNot f σ st=(f σ st).bind fun v st1=>(match v with
 | .bl b=>.ok (.bl (!b)) st1
 | _=>.stuck):=rfl
@[simp] theorem zblq {f f':ST}:bAnd f f' σ st=(f σ st).bind fun b st1=>if b=true then f' σ st1 else .ok false st1:=rfl
@[simp] theorem zblm {f f':ST}:bOr f f' σ st=(f σ st).bind fun b st1=>if b=true then .ok true st1 else f' σ st1:=rfl
@[simp] theorem zbhb {f:ST}:bNot f σ st=(f σ st).bind fun b st1=>.ok (!b) st1:=rfl
@[simp] theorem zbog:aI σ st=.ok true st:=rfl
@[simp] theorem zbnm {c:ST} {f f':SE}:eIf c f f' σ st=(c σ st).bind fun b st1=>if b=true then f σ st1 else f' σ st1:=rfl
@[simp] theorem zbkd {g:SA}:aR g σ st=(g σ st).bind fun xs st1=>if xs.length<=sizeLine then .ok (.tup xs) st1 else .stuck:=rfl
@[simp] theorem zbke {g:SA}:eLst g σ st=(g σ st).bind fun xs st1=>if xs.length<=sizeLine then .ok (.lst xs) st1 else .stuck:=rfl
@[simp] theorem zbfl {g:SA}:eLstM g σ st=(g σ st).bind fun xs st1=>if xs.length<=sizeLine then .ok (.ref st1.length) (st1++[.lst xs]) else .stuck:=rfl
@[simp] theorem zbkf {g g':D->D->Store->Res D} {f f' f'':SE}:eChain g g' f f' f'' σ st=(f σ st).bind fun x st1=>(f' σ st1).bind fun y st2=>(g x y st2).bind fun z st3=>(match z with
 | .bl true=>(f'' σ st3).bind fun w st4=>g' y w st4
 | .bl false=>.ok (.bl false) st3
 | _=>.stuck):=rfl
@[simp] theorem zbmi:eDNew σ st=.ok (.ref st.length) (st++[.dT []]):=rfl
@[simp] theorem zboi:sNx σ st=.ok (.nx σ) st:=rfl
@[simp] theorem zbmq:sBrk σ st=.ok (.brk σ) st:=rfl
@[simp] theorem zlx {f:SE}:sRet f σ st=(f σ st).bind fun v st1=>.ok (.ret v) st1:=rfl
@[simp] theorem zbly:sRetN σ st=.ok (.ret .non) st:=rfl
@[simp] theorem zly {f:SE}:sDrop f σ st=(f σ st).bind fun _ st1=>.ok (.nx σ) st1:=rfl
@[simp] theorem zbid {i:Nat} {f:SE}:aF i f σ st=(f σ st).bind fun v st1=>.ok (.nx (σ.set i (some v))) st1:=rfl
@[simp] theorem zbie {s t:SS}:aD s t σ st=(match s σ st with
 | .ok (.nx σ1) st1=>t σ1 st1
 | r=>r):=rfl
@[simp] theorem zro {c:ST} {s t:SS}:sIf c s t σ st=(c σ st).bind fun b st1=>if b=true then s σ st1 else t σ st1:=rfl
@[simp] theorem zbig {i:Nat} {g:D->D->Store->Res D} {f:SE}:sAug i g f σ st=(match σ[i]? with
 | some (some x)=>(f σ st).bind fun y st1=>(g x y st1).bind fun z st2=>.ok (.nx (σ.set i (some z))) st2
 | _=>.stuck):=rfl
@[simp] theorem zux {it:SA} {bd:SG} {body:SS}:sFor it bd body σ st=(it σ st).bind fun xs st1=>forF bd body xs σ st1:=rfl
@[simp] theorem zbff {f:SE}:aH f σ st=(f σ st).bind fun x st1=>(match seqV x with
 | some xs=>.ok xs st1
 | none=>.stuck):=rfl
@[simp] theorem zbni {g:SA}:iR1 g σ st=(g σ st).bind fun xs st1=>(match xs with
 | [.int j]=>if RngOk j then .ok (rng 0 j.toNat) st1 else .stuck
 | _=>.stuck):=rfl
@[simp] theorem zbnh {g:SA}:iR2 g σ st=(g σ st).bind fun xs st1=>(match xs with
  | [.int i, .int j]=>if RngOk i/\RngOk j then .ok (rng i (j - i).toNat) st1 else .stuck
  | _=>.stuck):=by
  show(g σ st).bind _=_
  congr 1
  funext xs st1
  split
  · unfold RngOk
    simp only[and_assoc]
  · rename_i h
    first
      | rfl
      | (split
         · rename_i i j
           exact absurd rfl (h i j)
         · rfl)
@[simp] theorem zbmg {f:SE}:iDict f σ st=(f σ st).bind fun x st1=>(match x with
 | .ref n=>(match st1[n]? with
  | some (.dT kvs)=>.ok (aJ (kvs.map (·.1))) (st1.set n (.fT kvs))
  | _=>.stuck)
 | _=>.stuck):=rfl
@[simp] theorem zgd {it:SA} {k:Nat} {is:List Nat} {bd:SG} {c:ST} {f:SE}:aG it k is bd c f σ st=(it σ st).bind fun xs st1=>if xs.length<=sizeLine then(compF bd c f xs (aT k is σ) st1).bind fun ys st2=>.ok (.lst ys) st2 else .stuck:=rfl
@[simp] theorem zbnn {f:SE}:eFz f σ st=(f σ st).bind fun x st1=>(match x with
 | .ref n=>(match st1[n]? with
  | some (.lst xs)=>.ok (.lst xs) (st1.set n .dead)
  | _=>.stuck)
 | _=>.stuck):=rfl
@[simp] theorem zbmd:pNone σ st=.ok none st:=rfl
@[simp] theorem zbdr {f:SE}:pSome f σ st=(f σ st).bind fun v st1=>(match v with
 | .int i=>.ok (some i) st1
 | _=>.stuck):=rfl
@[simp] theorem zbnk {f:SE} {lo hi:DS->Store->Res (Option Int)}:eSl f lo hi σ st=(f σ st).bind fun x st1=>(lo σ st1).bind fun l st2=>(hi σ st2).bind fun h st3=>(match x with
 | .tup xs=>.ok (.tup (cutD xs l h)) st3
 | x=>match asL st3 x with
  | some xs=>.ok (.lst (cutD xs l h)) st3
  | none=>.stuck):=rfl
@[simp] theorem zpj {f:SE} {g:SA}:eAppend f g σ st=(f σ st).bind fun x st1=>(match x,asL st1 x with
 | .ref n,some _=>(g σ st1).bind fun ys st2=>(match ys,st2[n]? with
  | [y],some (.lst xs)=>if xs.length < sizeLine then .ok .non (st2.set n (.lst (xs++[y]))) else .stuck
  | _,_=>.stuck)
 | _,_=>.stuck):=rfl
@[simp] theorem zbhn {f:SE} {g:SA}:eExtend f g σ st=(f σ st).bind fun x st1=>(match x,asL st1 x with
 | .ref n,some _=>(g σ st1).bind fun ys st2=>(match ys,st2[n]? with
  | [y],some (.lst xs)=>(match asL st2 y with
   | some zs=>if xs.length+zs.length<=sizeLine then .ok .non (st2.set n (.lst (xs++zs))) else .stuck
   | none=>.stuck)
  | _,_=>.stuck)
 | _,_=>.stuck):=rfl
@[simp] theorem zyo {f g h:SE}:sSetIx f g h σ st=(h σ st).bind fun v st1=>(f σ st1).bind fun x st2=>(g σ st2).bind fun y st3=>(match x,y with
 | .ref n,.int k=>(match st3[n]? with
  | some (.lst xs)=>(match ixN xs.length k with
   | some j=>.ok (.nx σ) (st3.set n (.lst (xs.set j v)))
   | none=>.stuck)
  | _=>.stuck)
 | _,_=>.stuck):=rfl
@[simp] theorem zbai {f g h:SE}:eDGet2 f g h σ st=(f σ st).bind fun x st1=>(match pairsOf st1 x with
 | some _=>(g σ st1).bind fun y st2=>(h σ st2).bind fun z st3=>(match pairsOf st3 x,keyOf y with
  | some kvs,some k=>.ok ((valD kvs k).getD z) st3
  | _,_=>.stuck)
 | none=>.stuck):=rfl
@[simp] theorem zbfm {f g:SE}:eDPop f g σ st=(f σ st).bind fun x st1=>(match pairsOf st1 x with
 | some _=>(g σ st1).bind fun y st2=>(match x,keyOf y with
  | .ref n,some k=>(match st2[n]? with
   | some (.dT kvs)=>(match valD kvs k with
    | some v=>.ok v (st2.set n (.dT (dropD kvs k)))
    | none=>.stuck)
   | _=>.stuck)
  | _,_=>.stuck)
 | none=>.stuck):=rfl
@[simp] theorem zwx {f g h:SE}:sDPut f g h σ st=(h σ st).bind fun v st1=>(f σ st1).bind fun x st2=>(g σ st2).bind fun y st3=>(match x,keyOf y with
 | .ref n,some k=>(match st3[n]? with
  | some (.dT kvs)=>if kvs.length < sizeLine then .ok (.nx σ) (st3.set n (.dT (putD kvs k v))) else .stuck
  | _=>.stuck)
 | _,_=>.stuck):=rfl
theorem zbmh {n np:Nat}{b:SS}{ds:List D}:fnD n np b ds st=if ds.length=np then(match b (ds.map some++List.replicate (n - np) none) st with
 | .ok (.ret v) st'=>.ok v st'
 | .ok (.nx _) st'=>.ok .non st'
 | .exc x st'=>.exc x st'
 | _=>.stuck) else .stuck:=rfl
end
section
variable {st:Store}{i j:Int}
@[simp] theorem oI_v {C:Int->Int->Prop} [DecidableRel C] {h:Int->Int->D}:oI C h (.int i) (.int j) st=if C i j then .ok (h i j) st else .stuck:=rfl
@[simp] theorem zbng:aM (.int i) (.int j) st=.ok (.int (i+j)) st:=rfl
@[simp] theorem zbee {a b:List D}:aM (.tup a) (.tup b) st=if a.length+b.length<=sizeLine then .ok (.tup (a++b)) st else .stuck:=rfl
@[simp] theorem zbnd:oLtT (.int i) (.int j) st=.ok (.bl (decide (i < j))) st:=rfl
@[simp] theorem zbnb:oNeg (.int i) st=.ok (.int (-i)) st:=rfl
@[simp] theorem zgg (ns:List Int):asInts (ns.map .int)=some ns:=by
 induction ns with
 | nil=>rfl
 | cons n ns ih=>rw[xbp,asInts,ih];rfl
@[simp] theorem ztx (l:List (List Int)):asRows (aJ l)=some l:=by
 induction l with
 | nil=>rfl
 | cons n ns ih =>
  unfold aJ at ih ⊢;rw[xbp,asRows,zgg,ih];rfl
@[simp] theorem zdd (ns:List Int):keyOf (aL ns)=some ns:=zgg ns
theorem zlk:dataOf st (.int i)=some (.int i):=rfl
@[simp] theorem zbnf:oEq (.int i) (.int j) st=.ok (.bl (decide (i=j))) st:=by
 show oEqG false (.int i) (.int j) st=_;unfold oEqG;rw[zlk,zlk];dsimp only;rw[if_pos ⟨rfl,rfl⟩];show Res.ok (D.bl (i==j)) st=_;rw[show(i==j)=decide (i=j) from by rw[xeo];simp]
@[simp] theorem zbnc:oNe (.int i) (.int j) st=.ok (.bl (!decide (i=j))) st:=by
 show oEqG true (.int i) (.int j) st=_;unfold oEqG;rw[zlk,zlk];dsimp only;rw[if_pos ⟨rfl,rfl⟩];show Res.ok (D.bl (!(i==j))) st=_;rw[show(i==j)=decide (i=j) from by rw[xeo];simp]
theorem zwj (ns:List Int):toDatas (ns.map .int)=some (dI ns):=by
 induction ns with
 | nil=>rfl
 | cons n ns ih=>rw[xbp,toDatas,ih];rfl
theorem zwi (l:List (List Int)):toDatas (aJ l)=some (l.map dRow):=by
 induction l with
 | nil=>rfl
 | cons n ns ih =>
  unfold aJ at ih ⊢;rw[xbp,toDatas,ih,toData,zwj];rfl
noncomputable abbrev aK (l:List (List Int)):D:=.tup (aJ l)
theorem ztg (l:List (List Int)):dataOf st (aK l)=some (.tuple (l.map dRow)):=by
 show(toDatas (aJ l)).map PyData.tuple=_;rw[zwi];rfl
theorem zbec {neg:Bool}(a b:List (List Int)):oEqG neg (aK a) (aK b) st=.ok (.bl (if neg then !decide (a=b) else decide (a=b))) st:=by
 unfold oEqG;rw[ztg,ztg];dsimp only;rw[if_pos ⟨zir a,zir b⟩];have e:PyData.eqv (.tuple (a.map dRow)) (.tuple (b.map dRow))=decide (a=b):=zpp a b;rw[e]
theorem small (n:Nat)(h:n<=1000000):n<=sizeLine:=by rw[xhp];lia
theorem smallT (n:Nat)(h:n<=1000000):n < sizeLine:=by rw[xhp];lia
end
theorem zxs {bd:SG}{body:SS}(I:Nat->DS->Store->Prop):∀(xs:List D) (k:Nat) (σ:DS) (st:Store),I k σ st ->
  (∀i x σ st,xs[i]?=some x->I (k+i) σ st->∃σ1 σ2 st2,bd x σ=some σ1/\body σ1 st=.ok (.nx σ2) st2/\I (k+i+1) σ2 st2)->∃σ' st',forF bd body xs σ st=.ok (.nx σ') st'/\I (k+xs.length) σ' st'
 | [],k,σ,st,h,_=>⟨σ,st,rfl,h⟩
 | x::xs,k,σ,st,h,s=>by
  obtain⟨σ1,σ2,st2,e1,e2,h2⟩:=s 0 x σ st rfl h;obtain⟨σ',st',e3,h3⟩:=zxs I xs (k+1) σ2 st2 h2 fun i y σ st hy hi=>by
   have:=s (i+1) y σ st (by simpa using hy) (by rw[show k+(i+1)=k+1+i by lia];exact hi);rw[show k+(i+1)+1=k+1+i+1 by lia] at this;exact this
  refine⟨σ',st',?_,by rw[xbv,show k+(xs.length+1)=k+1+xs.length by lia];exact h3⟩;unfold forF;rw[e1];dsimp only;rw[e2];exact e3
theorem zlb {bd:SG}{body:SS}(I:Nat->DS->Store->Prop){xs:List D}{σ:DS}{st:Store}(h0:I 0 σ st)
  (s:∀i x σ st,xs[i]?=some x->I i σ st->∃σ1 σ2 st2,bd x σ=some σ1/\body σ1 st=.ok (.nx σ2) st2/\I (i+1) σ2 st2):∃σ' st',forF bd body xs σ st=.ok (.nx σ') st'/\I xs.length σ' st':=by
 have:=zxs I xs 0 σ st h0 fun i x σ st hx hi=>by
  rw[xef] at hi ⊢;exact s i x σ st hx hi
 rw[xef] at this;exact this
theorem znd {lo:Int}{n i:Nat}{x:D}(h:(rng lo n)[i]?=some x):i < n/\x=.int (lo+i):=zrr h
theorem zbh (lo:Int)(n:Nat):(rng lo n).length=n:=by simp[rng]
theorem znw {bd:SG}{c:ST}{f:SE}(I:Nat->List D->DS->Store->Prop):∀(xs:List D) (k:Nat) (acc:List D) (σ:DS) (st:Store),I k acc σ st ->
  (∀i x acc σ st,xs[i]?=some x->I (k+i) acc σ st->∃σ1 b st1,bd x σ=some σ1/\c σ1 st=.ok b st1/\((b=false/\I (k+i+1) acc σ1 st1)\/(b=true/\∃y st2,f σ1 st1=.ok y st2/\I (k+i+1) (acc++[y]) σ1 st2))) ->
  ∃ys σ' st',compF bd c f xs σ st=.ok ys st'/\I (k+xs.length) (acc++ys) σ' st'
 | [],k,acc,σ,st,h,_=>⟨[],σ,st,rfl,by rw[xet];exact h⟩
 | x::xs,k,acc,σ,st,h,s=>by
  have s':∀i y acc σ st,xs[i]?=some y->I (k+1+i) acc σ st->∃σ1 b st1,bd y σ=some σ1/\c σ1 st=.ok b st1/\((b=false/\I (k+1+i+1) acc σ1 st1)\/(b=true/\∃z st2,f σ1 st1=.ok z st2/\I (k+1+i+1) (acc++[z]) σ1 st2)):=fun i y acc σ st hy hi=>by
   have:=s (i+1) y acc σ st (by simpa using hy) (by rw[show k+(i+1)=k+1+i by lia];exact hi);rw[show k+(i+1)+1=k+1+i+1 by lia] at this;exact this
  obtain⟨σ1,b,st1,e1,e2,h2⟩:=s 0 x acc σ st rfl h;rcases h2 with⟨rfl,h2⟩ | ⟨rfl,y,st2,e3,h2⟩
  ·obtain⟨ys,σ',st',e4,h3⟩:=znw I xs (k+1) acc σ1 st1 h2 s';refine⟨ys,σ',st',?_,by rw[xbv,show k+(xs.length+1)=k+1+xs.length by lia];exact h3⟩;unfold compF;rw[e1];dsimp only;rw[e2];exact e4
  ·obtain⟨ys,σ',st',e4,h3⟩:=znw I xs (k+1) (acc++[y]) σ1 st2 h2 s';refine⟨y::ys,σ',st',?_,by rw[xbv,show k+(xs.length+1)=k+1+xs.length by lia];rw[xck] at h3;exact h3⟩;unfold compF;rw[e1];dsimp only;rw[e2];dsimp only[zl];rw[if_pos rfl,e3];dsimp only[zl];rw[e4]
   rfl
theorem zhd {bd:SG}{c:ST}{f:SE}(I:Nat->List D->DS->Store->Prop){xs:List D}{σ:DS}{st:Store}(h0:I 0 [] σ st)
  (s:∀i x acc σ st,xs[i]?=some x->I i acc σ st->∃σ1 b st1,bd x σ=some σ1/\c σ1 st=.ok b st1/\((b=false/\I (i+1) acc σ1 st1)\/(b=true/\∃y st2,f σ1 st1=.ok y st2/\I (i+1) (acc++[y]) σ1 st2))) :
  ∃ys σ' st',compF bd c f xs σ st=.ok ys st'/\I xs.length ys σ' st':=by
 have:=znw I xs 0 [] σ st h0 fun i x acc σ st hx hi=>by
  rw[xef] at hi ⊢;exact s i x acc σ st hx hi
 rw[xef] at this
 simpa using this
theorem zuh {c:ST}{body:SS}(I:Nat->DS->Store->Prop)(post:DS->Store->Prop){σ:DS}{st:Store}{k:Nat}(h0:I k σ st)(hm:k < wCap)
  (s:∀j σ st,I j σ st->∃b st1,c σ st=.ok b st1/\((b=false/\post σ st1)\/(b=true/\∃i σ2 st2,body σ st1=.ok (.nx σ2) st2/\I i σ2 st2/\i < j))):∃σ' st',sWhile c body σ st=.ok (.nx σ') st'/\post σ' st':=by
 have main:∀n j σ st,I j σ st->j < n->∃σ' st',whileF c body n σ st=.ok (.nx σ') st'/\post σ' st':=by
  intro n
  induction n with
  | zero=>intro j σ st _ h;lia
  | succ n ih =>
   intro j σ st hI hlt;obtain⟨b,st1,e1,h⟩:=s j σ st hI;unfold whileF;rw[e1];dsimp only[zl];rcases h with⟨rfl,h⟩ | ⟨rfl,i,σ2,st2,e2,h2,h3⟩
   ·exact⟨σ,st1,by rw[if_neg (by decide)],h⟩
   ·obtain⟨σ',st',e3,h4⟩:=ih i σ2 st2 h2 (by lia);refine⟨σ',st',?_,h4⟩;rw[if_pos rfl,e2];exact e3
 exact main wCap k σ st h0 hm
section
variable {st:Store}{n:Nat}{xs:List D}{i:Int}
@[simp] theorem zbhg:seqOf st (.tup xs)=some xs:=rfl
@[simp] theorem zbhh:seqOf st (.scr xs)=some xs:=rfl
@[simp] theorem zbhi:seqOf st (.lst xs)=some xs:=rfl
@[simp] theorem zbhz:seqV (.tup xs)=some xs:=rfl
@[simp] theorem zbib:seqV (.lst xs)=some xs:=rfl
@[simp] theorem zbia:seqV (.scr xs)=some xs:=rfl
@[simp] theorem zbmm:asL st (.lst xs)=some xs:=rfl
theorem zhe (h:st[n]?=some (.lst xs)):asL st (.ref n)=some xs:=by
 unfold asL;dsimp only;rw[h]
theorem zke (h:st[n]?=some (.lst xs)):seqOf st (.ref n)=some xs:=zhe h
theorem zkp {x:D}{d:D}(h:seqOf st x=some xs)(h2:L2.atI xs i=some d):oIx x (.int i) st=.ok d st:=by
 unfold oIx;rw[h];dsimp only;rw[h2]
@[simp] theorem zbln:bLen [.tup xs] st=.ok (.int xs.length) st:=rfl
@[simp] theorem zblp:bLen [.lst xs] st=.ok (.int xs.length) st:=rfl
@[simp] theorem zblo:bLen [.scr xs] st=.ok (.int xs.length) st:=rfl
@[simp] theorem zboh:bAbs [.int i] st=.ok (.int (if i < 0 then -i else i)) st:=rfl
@[simp] theorem zbok {g:Int->Int->Int} {j:Int}:b2I g [.int i,.int j] st=.ok (.int (g i j)) st:=rfl
@[simp] theorem zbll {ns:List Int}:bSum [aL ns] st=.ok (.int ns.sum) st:=by
 unfold bSum;simp
@[simp] theorem zbgz:bTuple [.tup xs] st=.ok (.tup xs) st:=rfl
@[simp] theorem ztu:bTuple [.lst xs] st=.ok (.tup xs) st:=rfl
theorem ztt (h:st[n]?=some (.lst xs)):bTuple [.ref n] st=.ok (.tup xs) st:=by
 unfold bTuple;dsimp only;rw[zhe h]
theorem znz {l:List (List Int)}(h:l.length<=1000000):bSorted [.lst (aJ l)] st=.ok (.lst (aJ (sortR l))) st:=by
 unfold bSorted;simp[h]
theorem zoa {kvs:List (List Int×D)}(h:st[n]?=some (.dT kvs))(hl:kvs.length<=1000000):bSorted [.ref n] st=.ok (.lst (aJ (sortR (kvs.map (·.1))))) st:=by
 unfold bSorted asL pairsOf;simp[h,hl]
theorem zln {j:Nat}{d:D}(h:xs[j]?=some d):L2.atI xs (j:Int)=some d:=ztv h
theorem zca {o:O}(h:n < st.length):(st.set n o)[n]?=some o:=xdw h
theorem zh {o:O}(h:st[n]?=some o):n < st.length:=(xbc.mp h).1
theorem zyl {o p:O}:(st.set n o).set n p=st.set n p:=List.set_set _
theorem zbhy {o:O}(h:st[n]?=some o):st.set n o=st:=by
 apply xfv;intro i;by_cases e:i=n
 ·subst e;rw[xdw (zh h),h]
 ·rw[xbl (xdv e)]
end
theorem zdl {n np:Nat}{b:SS}{ds:List D}{st st':Store}{v:D}(h:ds.length=np)(e:b (ds.map some++List.replicate (n - np) none) st=.ok (.ret v) st'):fnD n np b ds st=.ok v st':=by
 rw[zbmh,if_pos h,e]
theorem zbkb {n np:Nat}{b:SS}{ds:List D}{st st':Store}{σ:DS}(h:ds.length=np)(e:b (ds.map some++List.replicate (n - np) none) st=.ok (.nx σ) st'):fnD n np b ds st=.ok .non st':=by
 rw[zbmh,if_pos h,e]
noncomputable abbrev bagO (c x:Int):O:=.lst [.int c,.int x]
noncomputable def BagAt (st:Store) (n:Nat):Prop:=∃c x:Int,st[n]?=some (bagO c x)/\0<=c/\0<=x
structure Drew (st st':Store) (n:Nat):Prop where
 len:st.length<=st'.length
 keep:∀ i, i < st.length->i≠n->st'[i]?=st[i]?
 bag:BagAt st' n
theorem Drew.trans {st st1 st2:Store}{n:Nat}(a:Drew st st1 n)(b:Drew st1 st2 n):Drew st st2 n :=
 ⟨xbb a.len b.len,fun i h1 h2=>(b.keep i (xbh h1 a.len) h2).trans (a.keep i h1 h2),b.bag⟩
theorem Drew.set {st:Store}{n:Nat}{c x:Int}(h:BagAt st n)(hc:0<=c)(hx:0<=x):Drew st (st.set n (bagO c x)) n:=by
 obtain⟨_,_,e,_⟩:=h;exact⟨by rw[xcp];exact xbf _,fun i _ h2=>xbl (xdv h2),c,x,zca (zh e),hc,hx⟩
theorem Drew.more {st:Store}{n:Nat}(h:BagAt st n)(g:Store):Drew st (st++g) n:=by
 obtain⟨c,x,e,h1,h2⟩:=h;exact⟨by rw[xbq];lia,fun i h _=>xbs h,c,x,by rw[xbs (zh e)];exact e,h1,h2⟩
theorem zls {st:Store}{n:Nat}{m:Int}(hb:BagAt st n)(h1:1<=m)(h2:m < 2 ^ 1000) :
  ∃r st',zw [.ref n,.int m] st=.ok (.int r) st'/\0<=r/\r < m/\Drew st st' n/\st'.length=st.length:=by
 obtain⟨c,x,hn,hc,hx⟩:=id hb;have s0:∀{c x:Int} {st:Store},st[n]?=some (bagO c x)->oIx (.ref n) (.int 0) st=.ok (.int c) st:=fun h=>zkp (zke h) rfl
 have s1:∀{c x:Int} {st:Store},st[n]?=some (bagO c x)->oIx (.ref n) (.int 1) st=.ok (.int x) st:=fun h=>zkp (zke h) rfl
 by_cases h0:0 < c
 ·have d1:CDivP c m:=⟨by lia,h2⟩
  have e0:ixN 2 0=some 0:=rfl;refine⟨c % m,st.set n (bagO (c / m) x),zdl rfl ?_,xik _ (by lia),Int.emod_lt_of_pos _ (by lia),Drew.set hb (Int.ediv_nonneg hc (by lia)) hx,xcp⟩;simp[s0 hn,h0,hn,e0,show(0:Int) < m by lia,d1]
 ·have hlen:=zh hn
  have W:=zuh (c:=eB (aS oLtT (aA 4) (aA 1))) (body:=aD (sSetIx (aA 0) (eC (.int 1)) (aS oMod (aS aM (aS oMulI (aS oIx (aA 0) (eC (.int 1))) (eC (.int 48271))) (eC (.int 7919))) (eC (.int 2147483647))))
   (aD (aF 3 (aS aM (aS oMulI (aA 3) (eC (.int 1073741789))) (aS oMod (aS oMulI (aS oFdiv (aS oIx (aA 0) (eC (.int 1))) (eC (.int 8))) (eC (.int 69621))) (eC (.int 1073741789)))))
   (aF 4 (aS oMulI (aA 4) (eC (.int 1073741789)))))) (k:=1000) (σ:=[some (.ref n),some (.int m),none,some (.int 0),some (.int 1)]) (st:=st)
   (fun j σ s=>∃c' x' nn rr:Int,σ=[some (.ref n),some (.int m),none,some (.int nn),some (.int rr)]/\s=st.set n (bagO c' x')/\0<=c'/\0<=x'/\0<=nn/\j<=1000/\2 ^ (1000 - j)<=rr)
   (fun σ s=>∃c' x' nn:Int,(∃rr,σ=[some (.ref n),some (.int m),none,some (.int nn),some (.int rr)])/\s=st.set n (bagO c' x')/\0<=c'/\0<=x'/\0<=nn)
   ⟨c,x,0,1,rfl,(zbhy hn).symm,hc,hx,by lia,by lia,by decide⟩ (by decide) (by
    rintro j σ s ⟨c',x',nn,rr,rfl,rfl,a1,a2,a3,a4,a5⟩;have g1:(st.set n (bagO c' x'))[n]?=some (bagO c' x'):=zca hlen;by_cases hlt:rr < m
    ·have hj:1<=j:=by
      rcases xkf j with z | z
      ·subst z;have a5':(2:Int) ^ 1000<=rr:=a5;lia
      ·exact z
     have e1:ixN 2 1=some 1:=rfl;have m1:CMul x' 48271:=.inr ⟨by decide,by decide⟩;have m2:CMul nn 1073741789:=.inr ⟨by decide,by decide⟩;have m3:CMul rr 1073741789:=.inr ⟨by decide,by decide⟩;have g2:∀y:Int,(st.set n (bagO c' y))[n]?=some (bagO c' y):=fun y=>zca hlen
     have m4:∀y:Int,CMul y 69621:=fun y=>.inr ⟨by decide,by decide⟩
     have d8:∀y:Int,CDivP y 8:=fun y=>⟨by decide,by decide +kernel⟩
     refine⟨true,st.set n (bagO c' x'),by simp[hlt],.inr ⟨rfl,j - 1,_,st.set n (bagO c' ((x' * 48271+7919) % 2147483647)),?_,⟨c',(x' * 48271+7919) % 2147483647,nn * 1073741789+(x' * 48271+7919) % 2147483647 / 8 * 69621 % 1073741789,rr * 1073741789,rfl,rfl,a1,?_,?_,by lia,?_⟩,by lia⟩⟩
     ·simp[s1 g1,g1,e1,m1,m2,m3,m4,d8,s1 (g2 _)]
     ·exact xik _ (by lia)
     ·have a1:0<=nn * 1073741789:=xjz a3 (by lia);have a2:=xik ((x' * 48271+7919) % 2147483647 / 8 * 69621) (show(1073741789:Int)≠0 by lia);lia
     ·have e:(2:Int) ^ (1000 - (j - 1))=2 ^ (1000 - j) * 2:=by
       rw[← Int.pow_succ];congr 1;lia
      rw[e];have hp:(0:Int)<=2 ^ (1000 - j):=Int.pow_nonneg (by decide);lia
    ·exact⟨false,_,by simp[hlt],.inl ⟨rfl,c',x',nn,⟨rr,rfl⟩,rfl,a1,a2,a3⟩⟩)
  obtain⟨σ',st',e,c',x',nn,hσ,hst,k1,k2,k3⟩:=W;obtain⟨rr,rfl⟩:=hσ;subst hst;refine⟨nn % m,st.set n (bagO c' x'),zdl rfl ?_,xik _ (by lia),Int.emod_lt_of_pos _ (by lia),Drew.set hb k1 k2,xcp⟩;simp[s0 hn,h0,e,show(0:Int) < m by lia]
theorem zmo {ns:List Int}{j:Nat}(h:j < ns.length):L2.atI (ns.map D.int) (j:Int)=some (.int ns[j]):=ztv (by rw[xcd,xbe h];rfl)
theorem zblk {st:Store}{ns:List Int}{i:Nat}(hl:ns.length<=63)(hi:i<=100000):∃c x:Int,0<=c/\0<=x/\zeh [.scr (ns.map .int),.int i] st=.ok (.ref st.length) (st++[bagO c x]):=by
 have cell:∃c:Int,0<=c/\sIf (eB (aS oLtT (aA 1) (aE bLen (aB (aA 0) aC)))) (aF 2 (aE bAbs (aB (aS oIx (aA 0) (aA 1)) aC))) sNx [some (.scr (ns.map .int)),some (.int i),some (.int 0),none,none] st
   = .ok (.nx [some (.scr (ns.map .int)),some (.int i),some (.int c),none,none]) st:=by
  by_cases h:i < ns.length
  ·have e:oIx (.scr (ns.map .int)) (.int i) st=.ok (.int ns[i]) st:=zkp rfl (zmo h);refine⟨if ns[i] < 0 then -ns[i] else ns[i],by split<;>lia,?_⟩;simp[h,e]
  ·exact⟨0,by lia,by simp[h]⟩
 obtain⟨c,hc,ec⟩:=cell;have hmin:(if(60:Int) < (ns.length:Int) then(60:Int) else ns.length).toNat<=ns.length:=by split<;>lia
 have W:=zlb (bd:=gN 4) (body:=aF 3 (aS oMod (aS aM (aS aM (aS oMulI (aA 3) (eC (.int 48271))) (aS oMod (aS oIx (aA 0) (aA 4)) (eC (.int 2147483647)))) (aA 4)) (eC (.int 2147483629))))
  (xs:=rng 0 (if(60:Int) < (ns.length:Int) then(60:Int) else ns.length).toNat) (σ:=[some (.scr (ns.map .int)),some (.int i),some (.int c),some (.int (7919 * i+17)),none]) (st:=st)
  (fun j σ s=>s=st/\∃(mix:Int) (v:Option D),σ=[some (.scr (ns.map .int)),some (.int i),some (.int c),some (.int mix),v]/\0<=mix) ⟨rfl,_,none,rfl,by lia⟩ (by
   rintro j x σ s hx ⟨rfl,mix,v,rfl,hm⟩;obtain⟨hj,rfl⟩:=znd hx;have hj2:j < ns.length:=by lia
   have e:oIx (.scr (ns.map .int)) (.int (0+j)) s=.ok (.int ns[j]) s:=zkp rfl (by rw[xgu];exact zmo hj2);rw[xgu] at e;have m1:CMul mix 48271:=.inr ⟨by decide,by decide⟩;refine⟨_,[some (.scr (ns.map .int)),some (.int i),some (.int c),some (.int ((mix * 48271+ns[j] % 2147483647+j) % 2147483629)),some (.int (0+j))],s,rfl,?_,rfl,_,_,rfl,xik _ (by lia)⟩
   simp[e,m1])
 obtain⟨σ',st',e,rfl,mix,v,rfl,hm⟩:=W;have m0:CMul 7919 (i:Int):=.inl ⟨by decide,by decide⟩;have p0:CPow 10 18:=⟨by decide,by decide,by decide⟩
 have hr:RngOk (if(60:Int) < (ns.length:Int) then(60:Int) else ns.length):=by
  split<;>exact rngOk (by lia) (by lia)
 by_cases hlt:c < 1000000000000000000
 ·refine⟨0,mix,by lia,hm,zdl rfl ?_⟩;have hs:=small 2 (by lia);simp at ec;simp[ec,m0,hr,e,p0,hlt,hs]
 ·refine⟨c,mix,hc,hm,zdl rfl ?_⟩;have hs:=small 2 (by lia);simp at ec;simp[ec,m0,hr,e,p0,hlt,hs]
theorem seqN {s t:SS}{σ σ1:DS}{st st1:Store}{r:Res Fl}(h:s σ st=.ok (.nx σ1) st1)(k:t σ1 st1=r):aD s t σ st=r:=by
 rw[zbie,h];exact k
noncomputable def aP (ks:List (List Int)) (k:List Int):List (List Int):=if k∈ks then ks.filter (fun x=>decide (x≠k)) else ks++[k]
noncomputable def aN (l:List (List Int)):List (List Int):=l.foldl aP []
theorem zbl {ks:List (List Int)}{k x:List Int}:x∈aP ks k↔(x∈ks/\x≠k)\/(x=k/\k∉ks):=by
 unfold aP;split
 ·rename_i h;simp[xcq,h]
 ·rename_i h;simp only[xcg,xcn];constructor
  ·rintro(z | rfl)
   ·exact .inl ⟨z,fun e=>h (e ▸ z)⟩
   ·exact .inr ⟨rfl,h⟩
  ·rintro(⟨z,_⟩ | ⟨z,_⟩)
   ·exact .inl z
   ·exact .inr z
theorem zcb {ks:List (List Int)}{k:List Int}(h:ks.Nodup):(aP ks k).Nodup:=by
 unfold aP;split
 ·exact h.filter _
 ·rename_i hk;rw[xgq];exact⟨h,by simp,fun a ha b hb=>by simp at hb;subst hb;exact fun e=>hk (e ▸ ha)⟩
theorem zik (ks:List (List Int))(k:List Int):(aP ks k).length<=ks.length+1:=by
 unfold aP;split
 ·exact xff (xeu _ _)
 ·simp
theorem zjq:∀(l ks:List (List Int)),ks.Nodup->(l.foldl aP ks).Nodup/\(l.foldl aP ks).length<=ks.length+l.length/\∀x,x∈l.foldl aP ks↔(l.count x+if x∈ks then 1 else 0) % 2=1
 | [],ks,h=>⟨h,by simp,fun x=>by by_cases e:x∈ks<;>simp[e]⟩
 | a::l,ks,h=>by
  obtain⟨h1,h2,h3⟩:=zjq l (aP ks a) (zcb h);refine⟨h1,?_,fun x=>?_⟩
  ·have:=zik ks a;rw[xij,xbv];lia
  ·rw[xij,h3 x,List.count_cons];by_cases e:x=a
   ·subst e;by_cases k:x∈ks
    ·have q:x∉aP ks x:=by rw[zbl];simp[k]
     simp only[q,k,xfw,xfh,xgv]<;>lia
    ·have q:x∈aP ks x:=by rw[zbl];simp[k]
     simp only[q,k,xfw,xfh,xgv]<;>lia
   ·have e':(a==x)=false:=by simpa using fun z:a=x=>e z.symm
    by_cases k:x∈ks
    ·have q:x∈aP ks a:=by rw[zbl];simp[k,e]
     simp[q,k,e']
    ·have q:x∉aP ks a:=by rw[zbl];simp[k,e]
     simp[q,k,e']
theorem zig (l:List (List Int)):(aN l).Nodup:=(zjq l [] xej).1
theorem zjr (l:List (List Int)):(aN l).length<=l.length:=by have:=(zjq l [] xej).2.1;simpa [aN] using this
theorem zno {l:List (List Int)}{x:List Int}:x∈aN l↔l.count x % 2=1:=by have:=(zjq l [] xej).2.2 x;simpa [aN] using this
theorem zgs {a b:List (List Int)}(h1:a.Nodup)(h2:b.Nodup)(h:∀x,x∈a↔x∈b):a.Perm b:=(List.perm_ext_iff_of_nodup h1 h2).mpr h
theorem zjg {a b:List (List Int)}(h:a.Perm b):sortR a=sortR b:=zmv ((zbb a).trans h) (zkd a)
noncomputable def aO (l:List (List Int)):List (List Int):=sortR (aN l)
theorem zbea {l m:List (List Int)}(h1:m.Nodup)(h:∀x,x∈m↔l.count x % 2=1):sortR m=aO l:=zjg (zgs h1 (zig l) fun x=>by rw[h,zno])
theorem zzo {l:List (List Int)}{x:List Int}:x∈aO l↔l.count x % 2=1:=by unfold aO;rw[(zbb _).mem_iff,zno]
theorem zzn {l:List (List Int)}{x:List Int}(h:x∈aO l):x∈l:=by
 rw[zzo] at h;rcases xkf (l.count x) with z | z
 ·rw[z] at h;cases h
 ·exact List.count_pos_iff.mp z
theorem zql (l:List (List Int)):(aO l).length<=l.length:=by unfold aO;rw[zcu];exact zjr l
theorem zsg (l:List (List Int)):(aO l).Nodup:=(zbb _).nodup_iff.mpr (zig l)
noncomputable abbrev aQ (ks:List (List Int)):List (List Int×D):=ks.map fun k=>(k,.bl true)
theorem zfr {ks:List (List Int)}{k:List Int}:valD (aQ ks) k=if k∈ks then some (.bl true) else none:=by
 induction ks with
 | nil=>rfl
 | cons a ks ih =>
  unfold valD aQ at ih ⊢;rw[xbp,xed];by_cases e:a=k
  ·simp[e]
  ·simp only[xbu e];rw[ih];simp[xbr,show ¬ k=a from fun z=>e z.symm]
theorem zmh {ks:List (List Int)}{k:List Int}:dropD (aQ ks) k=aQ (ks.filter fun x=>decide (x≠k)):=by
 unfold dropD aQ;rw[xla]
 rfl
theorem zki {ks:List (List Int)}{k:List Int}(h:k∉ks):putD (aQ ks) k (.bl true)=aQ (ks++[k]):=by
 unfold putD;rw[if_neg]
 ·simp[aQ]
 ·simp only[List.any_map,xkq,not_exists,not_and];intro x hx e;have:x=k:=by simpa using e
  exact h (this ▸ hx)
theorem zgu {st:Store}{n:Nat}{kvs:List (List Int×D)}(h:st[n]?=some (.dT kvs)):pairsOf st (.ref n)=some kvs:=by
 unfold pairsOf;dsimp only;rw[h]
theorem zzl {st:Store}{n:Nat}{kvs:List (List Int×D)}(h:st[n]?=some (.fT kvs)):pairsOf st (.ref n)=some kvs:=by
 unfold pairsOf;dsimp only;rw[h]
theorem zsh {st:Store}{n:Nat}{kvs:List (List Int×D)}{k:List Int}(h:pairsOf st (.ref n)=some kvs):oDIn false (aL k) (.ref n) st=.ok (.bl (valD kvs k).isSome) st:=by
 unfold oDIn;rw[zdd,h]
 rfl
theorem zzp {st:Store}{n:Nat}{kvs:List (List Int×D)}{k:List Int}{v:D}(h:pairsOf st (.ref n)=some kvs)(hv:valD kvs k=some v):oDGet (.ref n) (aL k) st=.ok v st:=by
 unfold oDGet;rw[zdd,h];dsimp only;rw[hv]
theorem zpd {st:Store}{n:Nat}{ks:List (List Int)}{k:List Int}(h:st[n]?=some (.dT (aQ ks)))(hl:ks.length<=1000000):zjd [.ref n,aL k] st=.ok .non (st.set n (.dT (aQ (aP ks k)))):=by
 have e1:=zsh (k:=k) (zgu h);rw[zfr] at e1;by_cases hk:k∈ks
 ·refine zbkb (σ:=[some (.ref n),some (aL k)]) rfl ?_;rw[if_pos hk] at e1;have e2:valD (aQ ks) k=some (.bl true):=by rw[zfr,if_pos hk]
  have e3:aP ks k=ks.filter fun x=>decide (x≠k):=by unfold aP;rw[if_pos hk]
  rw[e3,← zmh];have e4:=zgu h;have e5:=zdd k;simp only[aL,aQ] at *
  simp[e1,e4,e5,h,e2]
 ·refine zbkb (σ:=[some (.ref n),some (aL k)]) rfl ?_;rw[if_neg hk] at e1;have e3:aP ks k=ks++[k]:=by unfold aP;rw[if_neg hk]
  rw[e3,← zki hk];have e5:=zdd k;have e6:(aQ ks).length < sizeLine:=by rw[xbd];exact smallT _ hl
  simp only[aL,aQ] at *
  simp[e1,e5,h,e6];rw[xbd] at e6;exact e6
theorem zbr {l:List (List Int)}{i:Nat}{x:D}(h:(aJ l)[i]?=some x):∃k,l[i]?=some k/\x=aL k:=by
 unfold aJ at h;rw[xcd] at h;cases e:l[i]? with
 | none=>rw[e] at h;cases h
 | some k=>rw[e] at h;exact⟨k,rfl,(xcl h).symm⟩
theorem zg (l:List (List Int)):(aJ l).length=l.length:=xbd _
theorem zv {α:Type}{l:List α}{i:Nat}{k:α}(h:l[i]?=some k):l.take (i+1)=l.take i++[k]:=by
 obtain⟨hi,e⟩:=xbc.mp h;rw[xgt hi,e]
theorem zblc (xs:List D)(k:Nat):cutD xs none (some (k:Int))=xs.take k:=by
 unfold cutD;rw[HT.zrn,HT.zww,List.drop_zero,Nat.sub_zero];rcases Nat.le_total k xs.length with h | h
 ·rw[xdx h]
 ·rw[xia h,xct,xgb h]
theorem zbbl (xs:List D)(k:Nat):cutD xs (some (k:Int)) none=xs.drop k:=by
 unfold cutD;rw[HT.zrn,HT.zww];rcases Nat.le_total k xs.length with h | h
 ·rw[xdx h,xgb (by rw[xev];exact xbf _)]
 ·rw[xia h,List.drop_length,List.drop_of_length_le h];simp
theorem zlc (l ks:List (List Int))(h:ks.Nodup):(l.foldl aP ks).length<=ks.length+l.length:=(zjq l ks h).2.1
theorem zbct {a b:List Int}:(a.map D.int)++(b.map D.int)=(a++b).map D.int:=xdt.symm
theorem zgj {st:Store}{n:Nat}{ks:List (List Int)}(h:st[n]?=some (.dT (aQ ks)))(hl:ks.length<=1000000):bSorted [.ref n] st=.ok (.lst (aJ (sortR ks))) st:=by
 rw[zoa h (by rw[xbd];exact hl),xdl]
 congr 2
 exact congrArg (fun l=>aJ (sortR l)) (List.map_id ks)
end Dd
namespace K07
open PySem L2
noncomputable def oddW (e k:Int):Bool:=decide (V.int (Builtin.bitAnd e k)=V.int k)
theorem ztr (a b:Nat):Builtin.bitAnd (a:Int) (b:Int)=((a &&& b:Nat):Int):=rfl
theorem zsf (a b:Nat):oddW a b=decide (a &&& b=b):=by
 unfold oddW;rw[ztr];by_cases h:a &&& b=b
 ·rw[h];simp
 ·rw[xbu h];refine xbu fun e=>h ?_
  injection e with e
  exact_mod_cast e
noncomputable def nextR (l:List Nat) (e:Nat):List Nat:=[1]++((List.range e).map fun k=>(l.getD k 0+l.getD (k+1) 0) % 2)++[1]
noncomputable def pas:Nat->List Nat
 | 0=>[1]
 | e+1=>nextR (pas e) e
noncomputable def pasOk (e k:Nat):Bool:=decide (e &&& k=k)==(decide (k<=e)&&decide ((pas e).getD (k % (e+1)) 0=1))
theorem zzk:(List.range 61).all (fun e=>(List.range 62).all (pasOk e))=true:=by decide +kernel
theorem zbjb {e k:Nat}(he:e < 61)(hk:k < 62):oddW e k=(decide (k<=e)&&decide ((pas e).getD (k % (e+1)) 0=1)):=by
 have h:=zzk;rw[xdy] at h;have h1:=h e (xcf.mpr he);rw[xdy] at h1;have h2:=h1 k (xcf.mpr hk);rw[zsf];exact eq_of_beq h2
end K07
namespace K23
open PySem L2 K07
noncomputable def ch:Nat->Nat->Nat
 | _,0=>1
 | 0,_+1=>0
 | n+1,k+1=>ch n k+ch n (k+1)
theorem zml (n:Nat):ch n 0=1:=by cases n<;>rfl
theorem zmm:∀n k,n < k->ch n k=0
 | 0,_+1,_=>rfl
 | n+1,k+1,h=>by
  show ch n k+ch n (k+1)=0;rw[zmm n k (by lia),zmm n (k+1) (by lia)]
theorem zxz:∀n,ch n n=1
 | 0=>rfl
 | n+1=>by
  show ch n n+ch n (n+1)=1;rw[zxz n,zmm n (n+1) (by lia)]
theorem zpr:∀(n k:Nat),(ch n (k+1):Int) * ((k:Int)+1)=(ch n k:Int) * ((n:Int) - (k:Int))
 | 0,0=>by decide
 | 0,k+1=>by
  show((0:Nat):Int) * _=((0:Nat):Int) * _;simp
 | n+1,0=>by
  have h:=zpr n 0;have e1:ch (n+1) 1=ch n 0+ch n 1:=rfl;rw[e1,zml,zml];rw[zml] at h;simp only[xft] at h ⊢;simp at h ⊢;lia
 | n+1,k+1=>by
  have h1:=zpr n k;have h2:=zpr n (k+1);have e1:ch (n+1) (k+1+1)=ch n (k+1)+ch n (k+1+1):=rfl;have e2:ch (n+1) (k+1)=ch n k+ch n (k+1):=rfl;rw[e1,e2];generalize ch n k=A at h1 h2 ⊢;generalize ch n (k+1)=B at h1 h2 ⊢;generalize ch n (k+1+1)=C at h1 h2 ⊢;simp only[xft,xie,xkb,Int.mul_sub,Int.mul_one,Int.natCast_one] at h1 h2 ⊢;lia
theorem zsb:∀n k,k<=n->ch n k % 2=(pas n).getD k 0
 | 0,0,_=>rfl
 | n+1,0,_=>by rw[zml];rfl
 | n+1,k+1,h=>by
  have e:(pas (n+1))=[1]++((List.range n).map fun k=>((pas n).getD k 0+(pas n).getD (k+1) 0) % 2)++[1]:=rfl;rw[e,xbg,xck,xco (by simp)];simp only[xgh,Nat.add_sub_cancel];show(ch n k+ch n (k+1)) % 2=_;by_cases c:k < n
  ·rw[xbs (by simpa using c),xcd,xig c];have h1:=zsb n k (by lia);have h2:=zsb n (k+1) (by lia);show _=((pas n).getD k 0+(pas n).getD (k+1) 0) % 2;lia
  ·have e2:k=n:=by lia
   subst e2;rw[xco (by simp),zxz,zmm k (k+1) (by lia)];simp
theorem zbjl {m k:Nat}(hm:m < 61)(hk:k < 62):oddW m k=decide (ch m k % 2=1):=by
 rw[zbjb hm hk];by_cases c:k<=m
 ·rw[xbw c,Bool.true_and,Nat.mod_eq_of_lt (by lia:k < m+1),zsb m k c]
 ·rw[xbu c,Bool.false_and,zmm m k (by lia)]
  rfl
noncomputable def rowC (a b c:Int):List Int:=if 0 < c then[a+b - c,c] else[a+b]
noncomputable def rowsL (a b:Int) (n:Nat):List (List Int):=((List.range n).filter fun(c:Nat)=>oddW (b - c - 1) (a - 2 * c)).map fun(c:Nat)=>rowC a b c
theorem zoq {a b:Int}{n:Nat}(h:oddW (b - n - 1) (a - 2 * n)=true):rowsL a b (n+1)=rowsL a b n++[rowC a b n]:=by
 unfold rowsL;rw[xhi,xdq,xdt];simp[xfl,h]
theorem zrp {a b:Int}{n:Nat}(h:¬ oddW (b - n - 1) (a - 2 * n)=true):rowsL a b (n+1)=rowsL a b n:=by
 unfold rowsL;rw[xhi,xdq];simp[xfl,h]
theorem zea (a b:Int)(n:Nat):(rowsL a b n).length<=n:=by
 unfold rowsL;rw[xbd];exact xbb (xeu _ _) (by simp)
theorem zrq {a b:Int}{i:Nat}(h:0 < a+b - (i:Int)):(([a+b - (i:Int),(i:Int)].take 2).filter fun x=>decide (0 < x))=rowC a b i:=by
 unfold rowC;have e:[a+b - (i:Int),(i:Int)].take 2=[a+b - (i:Int),(i:Int)]:=rfl;rw[e,xfl,if_pos (xbw h),xfl];by_cases c:0 < (i:Int)
 ·rw[if_pos c,if_pos (xbw c)]
  rfl
 ·have c4:(i:Int)=0:=by lia
  rw[if_neg c,if_neg (by rw[xbu c];decide),c4,Int.sub_zero]
  rfl
end K23
namespace Dd
open PySem L2 K07 K23
theorem zqk {st:Store}{e k:Int}:zex [.int e,.int k] st=.ok (.bl (oddW e k)) st:=by
 refine zdl rfl ?_;have:decide (Builtin.bitAnd e k=k)=oddW e k:=by
  unfold oddW;rw[xeo];simp
 simp[this]
theorem zqt {st:Store}{i:Int}:zbw [.int i] st=.ok (.bl true) st:=rfl
theorem zbag {st:Store}{a b:Int}:zch [.int a,.int b] st=.ok (.bl (decide (a < 2 * b))) st:=by
 refine zdl rfl ?_;have m:CMul 2 b:=.inl ⟨by decide,by decide⟩;simp[m]
theorem zer (r:List Int):(r.map D.int).length=r.length:=xbd _
theorem zfw {st:Store}{r:List Int}{i:Nat}{x:Int}(h:r[i]?=some x):oIx (aL r) (.int i) st=.ok (.int x) st:=zkp rfl (ztv (by rw[xcd,h];rfl))
theorem zob {st:Store}{r:List Int}:bLen [aL r] st=.ok (.int r.length) st:=by show Res.ok (D.int ((r.map D.int).length:Nat)) st=_;rw[xbd]
theorem zix {st:Store}{a b:Int}(ha:1<=a)(ha2:a<=60)(hb:-1000<=b)(hb2:b<=1000):∃g,zbu [.int a,.int b] st=.ok (.lst (aJ (sortR (rowsL a b (a / 2+1).toNat)))) (st++g):=by
 have W:=zlb (bd:=gN 3) (body:=zcq) (xs:=rng 0 (a / 2+1).toNat) (σ:=[some (.int a),some (.int b),some (.ref st.length),none]) (st:=st++[.lst []])
  (fun i σ s=>(∃v,σ=[some (.int a),some (.int b),some (.ref st.length),v])/\s=st++[.lst (aJ (rowsL a b i))]) ⟨⟨none,rfl⟩,rfl⟩ (by
   rintro i y σ s hy ⟨⟨v,rfl⟩,rfl⟩;obtain⟨hi,rfl⟩:=znd hy;have hi2:i<=60:=by lia
   have hl:=zea a b i;have m:CMul 2 (0+(i:Int)):=.inl ⟨by decide,by decide⟩;have e1:=zqk (st:=st++[.lst (aJ (rowsL a b i))]) (e:=b - (0+(i:Int)) - 1) (k:=a - 2 * (0+(i:Int)));have hn:(st++[O.lst (aJ (rowsL a b i))])[st.length]?=some (.lst (aJ (rowsL a b i))):=by simp
   have hL:=zhe hn;have hsz:(aJ (rowsL a b i)).length < sizeLine:=by rw[zg];exact smallT _ (by lia)
   have s1:=small 1 (by lia);have s2:=small 2 (by lia);refine⟨[some (.int a),some (.int b),some (.ref st.length),some (.int (0+i))],[some (.int a),some (.int b),some (.ref st.length),some (.int (0+i))],st++[.lst (aJ (rowsL a b (i+1)))],rfl,?_,⟨_,rfl⟩,rfl⟩;unfold zcq;rw[xgu] at *
   by_cases c:oddW (b - i - 1) (a - 2 * i)=true
   ·rw[zoq c];rw[c] at e1;by_cases c2:0 < i
    ·have e3:rowC a b i=[a+b - i,(i:Int)]:=by unfold rowC;rw[if_pos (by lia)]
     have hsz':(rowsL a b i).length < sizeLine:=by rw[zg] at hsz;exact hsz
     simp[e1,m,hL,hsz',c2,s2,e3,tru,aJ]
    ·have c3:i=0:=by lia
     subst c3;have e3:rowC a b 0=[a+b]:=by unfold rowC;rw[if_neg (by lia)]
     have hsz':(rowsL a b 0).length < sizeLine:=by rw[zg] at hsz;exact hsz
     simp at e1 m;simp[e1,m,hL,hsz',s1,e3,tru,aJ]
   ·have c':oddW (b - i - 1) (a - 2 * i)=false:=by simpa using c
    rw[zrp c];rw[c'] at e1
    simp[e1,m,tru])
 obtain⟨σ',st',e,⟨v,rfl⟩,rfl⟩:=W;rw[zbh] at e;refine⟨[.lst (aJ (rowsL a b (a / 2+1).toNat))],zdl rfl ?_⟩;have d2:CDivP a 2:=⟨by decide,by decide +kernel⟩
 have hr:RngOk (a / 2+1):=rngOk (by lia) (by lia);have few:(rowsL a b (a / 2+1).toNat).length<=1000000:=by have:=zea a b (a / 2+1).toNat;lia
 have hn:(st++[O.lst (aJ (rowsL a b (a / 2+1).toNat))])[st.length]?=some (.lst (aJ (rowsL a b (a / 2+1).toNat))):=by simp
 have es:bSorted [.ref st.length] (st++[.lst (aJ (rowsL a b (a / 2+1).toNat))])=.ok (.lst (aJ (sortR (rowsL a b (a / 2+1).toNat)))) (st++[.lst (aJ (rowsL a b (a / 2+1).toNat))]):=by
  unfold bSorted;simp[zhe hn,few]
 simp[d2,hr,e,es]
noncomputable def slowAt (r:List Int) (p:Nat):Prop:=∃a b:Int,r[p]?=some a/\r[p+1]?=some b/\a < 2 * b
noncomputable instance (r:List Int) (p:Nat):Decidable (slowAt r p) :=
 match h1:r[p]?,h2:r[p+1]? with
 | some a,some b=>if h:a < 2 * b then .isTrue ⟨a,b,h1,h2,h⟩ else .isFalse fun⟨x,y,e1,e2,e3⟩=>by rw[h1] at e1;rw[h2] at e2;cases e1;cases e2;exact h e3
 | none,_=>.isFalse fun⟨x,y,e1,_⟩=>by rw[h1] at e1;cases e1
 | some _,none=>.isFalse fun⟨x,y,_,e2,_⟩=>by rw[h2] at e2;cases e2
theorem zjx {st:Store}{r:List Int}{p:Int}:zbx [aL r,.int p] st=.ok (.bl (decide (0<=p/\slowAt r p.toNat))) st:=by
 have e1:=zqt (st:=st) (i:=p);have e2:=zob (st:=st) (r:=r);by_cases h:0<=p/\p < r.length - 1
 ·obtain⟨k,rfl⟩:∃k:Nat,p=k:=⟨p.toNat,by lia⟩
  have h1:k < r.length:=by lia
  have h2:k+1 < r.length:=by lia
  have g1:r[k]?=some r[k]:=xbe h1;have g2:r[k+1]?=some r[k+1]:=xbe h2;have e3:=zfw (st:=st) g1;have e4:=zfw (st:=st) g2;rw[xft] at e4;have e5:=zbag (st:=st) (a:=r[k]) (b:=r[k+1]);have e6:(r[k] < 2 * r[k+1])↔slowAt r k:=⟨fun z=>⟨_,_,g1,g2,z⟩,fun⟨a,b,z1,z2,z⟩=>by rw[g1] at z1;rw[g2] at z2;cases z1;cases z2;exact z⟩
  refine zdl rfl ?_;have h3:(k:Int) < r.length - 1:=h.2;simp only[aL] at *
  generalize D.tup (r.map D.int)=R at *
  simp[e1,e2,e3,h3,tru];simp at e4;simp[e4,e5,e6]
 ·have ns:¬ (0<=p/\slowAt r p.toNat):=fun hq0=>by
   obtain⟨z,a,b,z1,z2,_⟩:=hq0;have:=(xbc.mp z2).1;exact h ⟨z,by lia⟩
  refine zdl rfl ?_;rw[xbu ns];simp only[aL] at *
  generalize D.tup (r.map D.int)=R at *
  by_cases z:0<=p
  ·have z2:¬ p < (r.length:Int) - 1:=fun y=>h ⟨z,y⟩
   simp[e1,e2,z,z2,tru]
  ·simp[e1,e2,z,tru]
noncomputable def exRow (r:List Int) (p:Nat):List (List Int):=(sortR (rowsL (r.getD p 0) (r.getD (p+1) 0) (r.getD p 0 / 2+1).toNat)).map fun two=>r.take p++two++r.drop (p+2)
theorem zil (r:List Int)(p:Nat):(exRow r p).length<=(r.getD p 0 / 2+1).toNat:=by
 unfold exRow;rw[xbd,zcu];exact zea _ _ _
theorem zjn {a b:Int}{n:Nat}:∀r∈rowsL a b n,r.length<=2:=fun r hr=>by
 unfold rowsL at hr;obtain⟨c,_,rfl⟩:=xcb.mp hr;show(rowC a b c).length<=2;unfold rowC;split<;>simp
theorem zos {st:Store}{a b:List Int}(h:a.length+b.length<=1000000):aM (aL a) (aL b) st=.ok (aL (a++b)) st:=by
 rw[zbee,if_pos (by rw[xbd,xbd];exact small _ h),zbct]
theorem zxx (r:List Int)(k:Nat):cutD (r.map .int) none (some (k:Int))=(r.take k).map .int:=by rw[zblc,List.map_take]
theorem zpq (r:List Int)(k:Nat):cutD (r.map .int) (some (k:Int)) none=(r.drop k).map .int:=by rw[zbbl,List.map_drop]
theorem zfh {st:Store}{r:List Int}{p:Nat}(hp:p+1 < r.length)(hl:r.length<=100)(ha:1<=r.getD p 0)(ha2:r.getD p 0<=60)(hb:-1000<=r.getD (p+1) 0)(hb2:r.getD (p+1) 0<=1000) :
  ∃g,zbf [aL r,.int p] st=.ok (.lst (aJ (exRow r p))) (st++g):=by
 have g1:r[p]?=some (r.getD p 0):=by rw[xbg,xbe (by lia)];rfl
 have g2:r[p+1]?=some (r.getD (p+1) 0):=by rw[xbg,xbe (by lia)];rfl
 generalize hA:r.getD p 0=a at *
 generalize hB:r.getD (p+1) 0=b at *
 obtain⟨g,e⟩:=zix (st:=st) ha ha2 hb hb2;have hL:(sortR (rowsL a b (a / 2+1).toNat)).length<=100:=by
  rw[zcu];have:=zea a b (a / 2+1).toNat;lia
 have W:=zhd (bd:=gN 0) (c:=aI) (f:=aS aM (aS aM (aA 2) (aA 0)) (aA 1)) (xs:=aJ (sortR (rowsL a b (a / 2+1).toNat))) (σ:=[none,some (aL (r.drop (p+2))),some (aL (r.take p))]) (st:=st++g)
  (fun i acc σ s=>s=st++g/\(∃v,σ=[v,some (aL (r.drop (p+2))),some (aL (r.take p))])/\acc=aJ (((sortR (rowsL a b (a / 2+1).toNat)).take i).map fun two=>r.take p++two++r.drop (p+2))) ⟨rfl,⟨none,rfl⟩,rfl⟩ (by
   rintro i y acc σ s hy ⟨rfl,⟨v,rfl⟩,rfl⟩;obtain⟨two,ht,rfl⟩:=zbr hy;have h2:two.length<=2:=zjn two ((zbb _).mem_iff.mp (xbo ht));have l1:(r.take p).length<=100:=by rw[xcx];lia
   have l2:(r.drop (p+2)).length<=100:=by rw[xev];lia
   have e1:=zos (st:=st++g) (a:=r.take p) (b:=two) (by lia);have e2:=zos (st:=st++g) (a:=r.take p++two) (b:=r.drop (p+2)) (by rw[xbq];lia);refine⟨[some (aL two),some (aL (r.drop (p+2))),some (aL (r.take p))],true,st++g,rfl,rfl,.inr ⟨rfl,aL (r.take p++two++r.drop (p+2)),st++g,?_,rfl,⟨_,rfl⟩,?_⟩⟩
   ·show(aM (aL (r.take p)) (aL two) (st++g)).bind _=_;rw[e1];exact e2
   ·rw[zv ht,xdt]
    simp[aJ])
 obtain⟨ys,σ',st',e2,rfl,_,rfl⟩:=W;rw[zg,xct] at e2;refine⟨g,zdl rfl ?_⟩;have hlen:(aJ (sortR (rowsL a b (a / 2+1).toNat))).length<=sizeLine:=by rw[zg];exact small _ (by lia)
 have e3:=zfw (st:=st) g1;have e4:=zfw (st:=st) g2;rw[xft] at e4;have c1:=zxx r p;have c2:=zpq r (p+2);rw[xft] at c2;refine seqN (σ1:=[some (aL r),some (.int p),some (aL (r.take p)),none]) (st1:=st) (by simp[c1]) ?_;refine seqN (σ1:=[some (aL r),some (.int p),some (aL (r.take p)),some (aL (r.drop (p+2)))]) (st1:=st) ?_ ?_
 ·simp at c2;simp[c2]
 ·have ei:aH (aE zbu (aB (aS oIx (aA 0) (aA 1)) (aB (aS oIx (aA 0) (aS aM (aA 1) (eC (.int 1)))) aC))) [some (aL r),some (.int p),some (aL (r.take p)),some (aL (r.drop (p+2)))] st=.ok (aJ (sortR (rowsL a b (a / 2+1).toNat))) (st++g):=by
   simp only[aL] at *
   generalize D.tup (r.map D.int)=R at *
   simp at e4;simp[e3,e4,e]
  rw[zlx,zgd,ei,zl,if_pos hlen];show((compF _ _ _ _ [none,some (aL (r.drop (p+2))),some (aL (r.take p))] _).bind _).bind _=_;rw[e2];unfold exRow;rw[hA,hB]
  rfl
theorem znb {st:Store}{l:List (List Int)}(nd:l.Nodup)(hl:l.length<=1000000):zdt [aK l] st=.ok (.ref st.length) (st++[.dT (aQ l)]):=by
 have W:=zlb (bd:=gN 2) (body:=zeg) (xs:=aJ l) (σ:=[some (aK l),some (.ref st.length),none]) (st:=st++[.dT []])
  (fun i σ s=>(∃v,σ=[some (aK l),some (.ref st.length),v])/\s=st++[.dT (aQ (l.take i))]) ⟨⟨none,rfl⟩,rfl⟩ (by
   rintro i y σ s hy ⟨⟨v,rfl⟩,rfl⟩;obtain⟨k,hk,rfl⟩:=zbr hy;have hn:(st++[O.dT (aQ (l.take i))])[st.length]?=some (.dT (aQ (l.take i))):=by simp
   have hi:=(xbc.mp hk).1;have nk:k∉l.take i:=fun z=>by
    have e:(l.take (i+1)).Nodup:=(xki (i+1) l).nodup nd;rw[zv hk,xgq] at e;exact e.2.2 k z k (by simp) rfl
   have hsz:(aQ (l.take i)).length < sizeLine:=by
    rw[xbd,xcx];exact smallT _ (by lia)
   have e5:=zdd k;have e6:=zki nk;refine⟨[some (aK l),some (.ref st.length),some (aL k)],[some (aK l),some (.ref st.length),some (aL k)],st++[.dT (aQ (l.take (i+1)))],rfl,?_,⟨_,rfl⟩,rfl⟩;rw[zv hk,← e6];unfold zeg;simp only[aL] at *
   rw[zwx];simp only[eC_v,zl,zbfj,xhc,xiz,e5,hn,hsz,xfw]
   simp)
 obtain⟨σ',st',e,⟨v,rfl⟩,rfl⟩:=W;rw[zg,xct] at e;refine zdl rfl ?_;refine seqN (σ1:=[some (aK l),some (.ref st.length),none]) (st1:=st++[.dT []]) (by simp) ?_;refine seqN (σ1:=[some (aK l),some (.ref st.length),v]) (st1:=st++[.dT (aQ l)]) (by rw[zux];exact e) rfl
theorem zws {st:Store}{r:List Int}(hl:r.length<=1000000)(τ:DS):aG (aH (aA 1)) 1 [] (gN 0) aI (aE zbw (aB (aA 0) aC)) [some τ0,some (aL r)] st=.ok (.lst (r.map fun _=>D.bl true)) st:=by
 have W:=zhd (bd:=gN 0) (c:=aI) (f:=aE zbw (aB (aA 0) aC)) (xs:=r.map D.int) (σ:=[none]) (st:=st)
  (fun i acc σ s=>s=st/\(∃v,σ=[v])/\acc=(r.take i).map fun _=>D.bl true) ⟨rfl,⟨none,rfl⟩,rfl⟩ (by
   rintro i y acc σ s hy ⟨rfl,⟨v,rfl⟩,rfl⟩;rw[xcd] at hy;cases hx:r[i]? with
   | none=>rw[hx] at hy;cases hy
   | some x =>
    rw[hx] at hy;cases hy;refine⟨[some (.int x)],true,s,rfl,rfl,.inr ⟨rfl,.bl true,s,rfl,rfl,⟨_,rfl⟩,?_⟩⟩;rw[zv hx]
    simp)
 obtain⟨ys,σ',st',e,rfl,_,rfl⟩:=W;rw[zer,xct] at e;rw[zgd];show(if(r.map D.int).length<=sizeLine then _ else _)=_;rw[if_pos (by rw[zer];exact small _ hl)];show((compF _ _ _ _ [none] _).bind _)=_;rw[e]
 rfl
theorem zoc (r:List Int):asBools (r.map fun _=>D.bl true)=some (r.map fun _=>true):=by
 induction r with
 | nil=>rfl
 | cons a r ih=>rw[xbp,asBools,ih];rfl
theorem zms {st:Store}{n:Nat}{ks:List (List Int)}{r:List Int}(h:st[n]?=some (.dT (aQ ks)))(hr:r∈ks)(hl:r.length<=1000000):zct [.ref n,aL r] st=.ok (.bl true) st:=by
 refine zdl rfl ?_;have e1:=zws (st:=st) (τ0:=.ref n) hl [];have e2:=zsh (k:=r) (zgu h);rw[zfr,if_pos hr] at e2;have e3:bAny true [.lst (r.map fun _=>D.bl true)] st=.ok (.bl true) st:=by
  unfold bAny;simp[zoc]
 have e0:aE bIsinst (aB (aA 1) (aB (eC (.ty "tuple")) aC)) [some (.ref n), some (aL r)] st=.ok (.bl true) st:=rfl
 have e4:aE (bAny true) (aB (aG (aH (aA 1)) 1 [] (gN 0) aI (aE zbw (aB (aA 0) aC))) aC) [some (.ref n),some (aL r)] st=.ok (.bl true) st:=by
  rw[zde,zew,e1];exact e3
 have e5:aS (oDIn false) (aA 1) (aA 0) [some (.ref n),some (aL r)] st=.ok (.bl true) st:=e2;show sRet _ [some (.ref n),some (aL r)] st=_;rw[zlx,zbaj,e0,zl];show(eAnd _ _ [some (.ref n),some (aL r)] st).bind _=_;rw[zbaj,e4,zl];show(aS (oDIn false) (aA 1) (aA 0) [some (.ref n),some (aL r)] st).bind _=_;rw[e5]
 rfl
theorem zlf {st:Store}{n:Nat}{ks:List (List Int)}{r:List Int}{p:Nat}(h:st[n]?=some (.dT (aQ ks)))(nd:ks.Nodup)(hk:ks.length<=500000)(hr:r∈ks)(hl:r.length<=100)(hs:slowAt r p)
  (ha:1<=r.getD p 0)(ha2:r.getD p 0<=60)(hb:-1000<=r.getD (p+1) 0)(hb2:r.getD (p+1) 0<=1000) :
  ∃g,zcn [.ref n,aL r,.int p] st=.ok .non ((st.set n (.dT (aQ ((r::exRow r p).foldl aP ks))))++g):=by
 have hp:p+1 < r.length:=by
  obtain⟨a,b,_,z,_⟩:=hs;exact(xbc.mp z).1
 have hn:=zh h;have e1:=zms h hr (by lia);have e2:=zjx (st:=st) (r:=r) (p:=p);rw[xbw (p:=0<=(p:Int)/\slowAt r (p:Int).toNat) ⟨by lia,by rw[xgo];exact hs⟩] at e2;have e3:=zpd (k:=r) h (by lia);obtain⟨g,e4⟩:=zfh (st:=st.set n (.dT (aQ (aP ks r)))) hp hl ha ha2 hb hb2;have hx:=zil r p;have nd1:=zcb (k:=r) nd;have hk1:=zik ks r;have W:=zlb (bd:=gN 3) (body:=zdb) (xs:=aJ (exRow r p)) (σ:=[some (.ref n),some (aL r),some (.int p),none]) (st:=st.set n (.dT (aQ (aP ks r)))++g)
  (fun i σ s=>(∃v,σ=[some (.ref n),some (aL r),some (.int p),v])/\s=st.set n (.dT (aQ (((exRow r p).take i).foldl aP (aP ks r))))++g) ⟨⟨none,rfl⟩,rfl⟩ (by
   rintro i y σ s hy ⟨⟨v,rfl⟩,rfl⟩;obtain⟨k,hk',rfl⟩:=zbr hy;have hn':(st.set n (.dT (aQ (((exRow r p).take i).foldl aP (aP ks r))))++g)[n]?=some (.dT (aQ (((exRow r p).take i).foldl aP (aP ks r)))):=by
    rw[xbs (by rw[xcp];exact hn),zca hn]
   have hlen:(((exRow r p).take i).foldl aP (aP ks r)).length<=1000000:=by
    have:=zlc ((exRow r p).take i) (aP ks r) nd1;rw[xcx] at this;lia
   have e5:=zpd (k:=k) hn' hlen;have e6:(st.set n (.dT (aQ (((exRow r p).take i).foldl aP (aP ks r))))++g).set n (.dT (aQ (aP (((exRow r p).take i).foldl aP (aP ks r)) k)))=st.set n (.dT (aQ (((exRow r p).take (i+1)).foldl aP (aP ks r))))++g:=by
    rw[zv hk',xhr,List.set_append_left _ _ (by rw[xcp];exact hn),zyl]
    rfl
   rw[e6] at e5;refine⟨[some (.ref n),some (aL r),some (.int p),some (aL k)],[some (.ref n),some (aL r),some (.int p),some (aL k)],_,rfl,?_,⟨_,rfl⟩,rfl⟩;unfold zdb;rw[zly,zde];show((zjd [.ref n,aL k] _).bind _)=_;rw[e5]
   rfl)
 obtain⟨σ',st',e,⟨v,rfl⟩,rfl⟩:=W;rw[zg,xct] at e;refine⟨g,zbkb (σ:=[some (.ref n),some (aL r),some (.int p),v]) rfl ?_⟩;refine seqN (σ1:=[some (.ref n),some (aL r),some (.int p),none]) (st1:=st) ?_ ?_
 ·rw[zro,zbhb,zqu,zde];show((((zct [.ref n,aL r] st).bind _).bind _).bind _)=_;rw[e1]
  rfl
 refine seqN (σ1:=[some (.ref n),some (aL r),some (.int p),none]) (st1:=st) ?_ ?_
 ·rw[zro,zbhb,zqu,zde];show((((zbx [aL r,.int p] st).bind _).bind _).bind _)=_;rw[e2]
  rfl
 refine seqN (σ1:=[some (.ref n),some (aL r),some (.int p),none]) (st1:=st.set n (.dT (aQ (aP ks r)))) ?_ ?_
 ·rw[zly,zde];show((zjd [.ref n,aL r] st).bind _)=_;rw[e3]
  rfl
 ·rw[zux,zbff,zde];show((((zbf [aL r,.int p] _).bind _)).bind _)=_;rw[e4];exact e
structure CntG (f:Nat->D) (kvs:List (List Int×D)) (l:List (List Int)):Prop where
 nd:(kvs.map (·.1)).Nodup
 mem:∀k,k∈kvs.map (·.1)↔k∈l
 val:∀p∈kvs,p.2=f (l.count p.1)
 len:kvs.length<=l.length
theorem CntG.nil (f:Nat->D):CntG f [] []:=⟨xej,fun k=>by simp,fun p h=>(by cases h),by simp⟩
theorem CntG.at {f:Nat->D}{kvs:List (List Int×D)}{l:List (List Int)}(h:CntG f kvs l)(k:List Int):valD kvs k=if k∈l then some (f (l.count k)) else none:=by
 have gen:∀kvs:List (List Int×D),(∀p∈kvs,p.2=f (l.count p.1))->valD kvs k=if k∈kvs.map (·.1) then some (f (l.count k)) else none:=by
  intro kvs
  induction kvs with
  | nil=>intro _;rfl
  | cons a kvs ih =>
   intro hv;have ih:=ih fun p hp=>hv p (xbi _ hp)
   unfold valD at ih ⊢;rw[xed];by_cases e:a.1=k
   ·have:=hv a xcr;simp only[e,xhq,Option.map_some,xbp,xbr,true_or,xfw];rw[this,e]
   ·simp only[xbu e];rw[ih];simp only[xbp,xbr,show ¬ k=a.1 from fun z=>e z.symm,false_or]
 rw[gen kvs h.val];simp only[h.mem]
theorem CntG.put {f:Nat->D}{kvs:List (List Int×D)}{l:List (List Int)}(h:CntG f kvs l)(k:List Int):CntG f (putD kvs k (f (l.count k+1))) (l++[k]):=by
 have any:(kvs.any fun kv=>decide (kv.1=k))=decide (k∈l):=by
  rw[xeo,xfj,← h.mem,xkq,xcb];constructor
  ·rintro⟨x,hx,e⟩;exact⟨x,hx,by simpa using e⟩
  ·rintro⟨p,hp,e⟩;exact⟨p,hp,by simpa using e⟩
 unfold putD;rw[any];by_cases hk:k∈l
 ·rw[if_pos (by simpa using hk)];have keys:(kvs.map fun kv=>if kv.1=k then(kv.1,f (l.count k+1)) else kv).map (·.1)=kvs.map (·.1):=by
   rw[xdl]
   congr 1
   funext p
   dsimp only[Function.comp];split<;>rfl
  refine⟨by rw[keys];exact h.nd,fun x=>?_,fun p hp=>?_,?_⟩
  ·rw[keys,h.mem,xcg,xcn];exact⟨.inl,fun z=>z.elim id fun e=>e ▸ hk⟩
  ·obtain⟨q,hq,rfl⟩:=xcb.mp hp;have:=h.val q hq;by_cases e:q.1=k
   ·rw[if_pos e];dsimp only;rw[e,xjf];simp
   ·rw[if_neg e,this,xjf];have:List.count q.1 [k]=0:=by rw[xip];simpa using e
    rw[this];rfl
  ·rw[xbd,xbq];have:=h.len;lia
 ·rw[if_neg (by simpa using hk)];refine⟨?_,fun x=>?_,fun p hp=>?_,?_⟩
  ·rw[xdt,xgq];refine⟨h.nd,by simp,fun a ha b hb=>?_⟩;simp at hb;subst hb;exact fun e=>hk ((h.mem _).mp (e ▸ ha))
  ·rw[xdt,xcg,h.mem,xcg];simp
  ·rcases xcg.mp hp with hp | hp
   ·have e1:=h.val p hp;have e2:p.1≠k:=fun e=>hk ((h.mem _).mp (e ▸ xcb.mpr ⟨p,hp,rfl⟩))
    rw[e1,xjf];have:List.count p.1 [k]=0:=by rw[xip];simpa using e2
    rw[this];rfl
   ·simp at hp;subst hp;rw[xjf,xip.mpr hk];simp
  ·rw[xbq,xbq];have:=h.len;simp;exact this
noncomputable def oddB (n:Nat):D:=.bl (decide (n % 2=1))
theorem zvp (n:Nat):oddB (n+1)=.bl (!decide (n % 2=1)):=by
 unfold oddB
 congr 1
 by_cases h:n % 2=1
 ·rw[xbw h,xbu (by lia)];rfl
 ·rw[xbu h,xbw (by lia)];rfl
theorem zqr {st:Store}{x:D}{l:List (List Int)}(hx:seqV x=some (aJ l))(hl:l.length<=1000000)(ho:(aN l).length<=1000000):∃g,zdw [x] st=.ok (aK (aO l)) (st++g):=by
 have W:=zlb (bd:=gN 2) (body:=zfq) (xs:=aJ l) (σ:=[some x,some (.ref st.length),none]) (st:=st++[.dT []])
  (fun i σ s=>∃(v:Option D) (kvs:List (List Int×D)),σ=[some x,some (.ref st.length),v]/\s=st++[.dT kvs]/\CntG oddB kvs (l.take i)) ⟨none,[],rfl,rfl,CntG.nil _⟩ (by
   rintro i y σ s hy ⟨v,kvs,rfl,rfl,hc⟩;obtain⟨k,hk,rfl⟩:=zbr hy;have hc':=hc.put k;have hn:(st++[O.dT kvs])[st.length]?=some (.dT kvs):=by simp
   have e2:(valD kvs k).getD (.bl false)=.bl (decide ((l.take i).count k % 2=1)):=by
    rw[hc.at];split
    ·rfl
    ·rename_i z;rw[xip.mpr z];rfl
   have e3:=zdd k;have e4:=zgu hn;have e5:kvs.length < sizeLine:=by
    have h1:=hc.len;have h2:(l.take i).length<=l.length:=by rw[xcx];exact xhz _ _
    exact smallT _ (by lia)
   refine⟨[some x,some (.ref st.length),some (aL k)],[some x,some (.ref st.length),some (aL k)],st++[.dT (putD kvs k (oddB ((l.take i).count k+1)))],rfl,?_,some (aL k),_,rfl,rfl,by rw[zv hk];exact hc'⟩;rw[zvp];unfold zfq;simp only[aL] at *
   simp only[zwx,zbfk,zbai,zbfj,eC_v,xhc,xiz,zl,e4,e3,e2,hn,e5,xfw]
   simp)
 obtain⟨σ',st',e,v,kvs,rfl,rfl,hc⟩:=W;rw[zg,xct] at hc;have V:=zhd (bd:=gN 0) (c:=eTru (aS oDGet (aA 1) (aA 0))) (f:=aA 0) (xs:=aJ (kvs.map (·.1))) (σ:=[none,some (.ref st.length)]) (st:=st++[.fT kvs])
  (fun i acc σ s=>s=st++[.fT kvs]/\(∃w:Option D,σ=[w,some (.ref st.length)])/\acc=aJ (((kvs.map (·.1)).take i).filter fun k=>decide (l.count k % 2=1))) ⟨rfl,⟨none,rfl⟩,rfl⟩ (by
   rintro i y acc σ s hy ⟨rfl,⟨w,rfl⟩,rfl⟩;obtain⟨k,hk,rfl⟩:=zbr hy;have hn:(st++[O.fT kvs])[st.length]?=some (.fT kvs):=by simp
   have hkl:k∈l:=(hc.mem k).mp (xbo hk);have e2:valD kvs k=some (oddB (l.count k)):=by rw[hc.at,if_pos hkl]
   have e3:oDGet (.ref st.length) (aL k) (st++[O.fT kvs])=.ok (oddB (l.count k)) _:=zzp (zzl hn) e2;refine⟨[some (aL k),some (.ref st.length)],decide (l.count k % 2=1),st++[.fT kvs],rfl,?_,?_⟩
   ·rw[zqu];show((oDGet (.ref st.length) (aL k) (st++[O.fT kvs])).bind _)=_;rw[e3]
    rfl
   ·by_cases ho:l.count k % 2=1
    ·refine .inr ⟨xbw ho,aL k,_,rfl,rfl,⟨_,rfl⟩,?_⟩;rw[zv hk,xdq];simp[ho,aJ]
    ·refine .inl ⟨xbu ho,rfl,⟨_,rfl⟩,?_⟩;rw[zv hk,xdq]
     simp[ho,aJ])
 obtain⟨ys,σ2,st2,e2,rfl,⟨w,rfl⟩,rfl⟩:=V;rw[zg,xct] at e2;refine⟨[.fT kvs],zdl rfl ?_⟩;have nd:((kvs.map (·.1)).filter fun k=>decide (l.count k % 2=1)).Nodup:=hc.nd.filter _;have mm:∀k,k∈((kvs.map (·.1)).filter fun k=>decide (l.count k % 2=1))↔l.count k % 2=1:=fun k=>by
  rw[xcq,hc.mem,xfj];refine⟨fun h=>h.2,fun h=>⟨?_,h⟩⟩;rcases xkf (l.count k) with z | z
  ·rw[z] at h;cases h
  ·exact List.count_pos_iff.mp z
 have e5:sortR ((kvs.map (·.1)).filter fun k=>decide (l.count k % 2=1))=aO l:=zbea nd mm;have few:((kvs.map (·.1)).filter fun k=>decide (l.count k % 2=1)).length<=1000000:=by
  have p:=zgs nd (zig l) fun k=>by rw[mm,zno]
  rw[p.length_eq];exact ho
 have e6:=znz (st:=st++[.fT kvs]) few;rw[e5] at e6;have hlen:(aJ (kvs.map (·.1))).length<=sizeLine:=by
  rw[zg,xbd];exact small _ (by have:=hc.len;lia)
 refine seqN (σ1:=[some x,some (.ref st.length),none]) (st1:=st++[.dT []]) (by simp) ?_;refine seqN (σ1:=[some x,some (.ref st.length),v]) (st1:=st++[.dT kvs]) (by simp[hx,e]) ?_;have e7:aG (iDict (aA 1)) 1 [1] (gN 0) (eTru (aS oDGet (aA 1) (aA 0))) (aA 0) [some x,some (.ref st.length),v] (st++[.dT kvs])=.ok (.lst (aJ ((kvs.map (·.1)).filter fun k=>decide (l.count k % 2=1)))) (st++[.fT kvs]):=by
  rw[zgd];have e8:iDict (aA 1) [some x,some (.ref st.length),v] (st++[.dT kvs])=.ok (aJ (kvs.map (·.1))) (st++[.fT kvs]):=by
   simp
  rw[e8,zl,if_pos hlen];show(compF _ _ _ _ [none,some (.ref st.length)] _).bind _=_;rw[e2]
  rfl
 rw[zlx,zde,zew,zde,zew,e7];simp only[zl,zbhe,e6,ztu]
theorem zor {m:Int}(h:m<=1000):m < 2 ^ 1000:=xkg h (by decide +kernel)
theorem zbfx {i j:Int}(h0:0 < j)(h1:j<=1000):CDivP i j:=⟨h0,xkg h1 (by decide +kernel)⟩
theorem zbfh {i j:Int}{st:Store}(h:CDivP i j):oFdiv (.int i) (.int j) st=.ok (.int (i / j)) st:=by
 show oI CDivP (fun i j=>D.int (i / j)) (.int i) (.int j) st=_;rw[oI_v,if_pos h]
theorem mulR {i j:Int}(h1:-10000<=j)(h2:j<=10000):CMul i j:=.inr ⟨by lia,by lia⟩
theorem rngN {j:Int}(h1:-10000<=j)(h2:j<=10000):RngOk j:=rngOk (by lia) (by lia)
theorem zpy {f:SE}{g:SA}{σ:DS}{st st1 st2:Store}{n:Nat}{xs0 xs:List D}{y:D}(hf:f σ st=.ok (.ref n) st1)(h1:st1[n]?=some (.lst xs0))(hg:g σ st1=.ok [y] st2)(h2:st2[n]?=some (.lst xs))(hl:xs.length < sizeLine) :
  eAppend f g σ st=.ok .non (st2.set n (.lst (xs++[y]))):=by
 rw[zpj,hf,zl,zhe h1];dsimp only;rw[hg,zl,h2];dsimp only;rw[if_pos hl]
theorem zqp {st:Store}{M K:Int}{m k:Nat}(eM:M=m)(eK:K=k)(hm:m<=100)(hk:k<=100):zcy [.int M,.int K] st=.ok (.int (ch m k:Nat)) st:=by
 have W:=zlb (bd:=gN 3) (body:=zey) (xs:=rng 0 K.toNat) (σ:=[some (.int M),some (.int K),some (.int 1),none]) (st:=st)
  (fun i σ s=>s=st/\∃v C,σ=[some (.int M),some (.int K),some (.int C),v]/\C=(ch m i:Nat)) ⟨rfl,none,1,rfl,by rw[zml];rfl⟩ (by
   rintro i y σ s hy ⟨rfl,v,C,rfl,hC⟩;obtain⟨hi,rfl⟩:=znd hy;generalize hI:(0:Int)+(i:Int)=I;have e:=zpr m i;have e2:C * (M - I) / (I+1)=((ch m (i+1):Nat):Int):=by
    rw[hC,eM,← hI,xgu,← e];exact Int.mul_ediv_cancel _ (by lia)
   have m1:CMul C (M - I):=mulR (by lia) (by lia);have d1:CDivP (C * (M - I)) (I+1):=zbfx (by lia) (by lia);clear hC eM eK hm hk e hy;refine⟨[some (.int M),some (.int K),some (.int C),some (.int I)],[some (.int M),some (.int K),some (.int (C * (M - I) / (I+1))),some (.int I)],s,rfl,?_,rfl,_,_,rfl,e2⟩;unfold zey;have e3:aS oMulI (aA 2) (aS oSub (aA 0) (aA 3)) [some (.int M),some (.int K),some (.int C),some (.int I)] s=.ok (.int (C * (M - I))) s:=by simp[m1]
   have e4:aS aM (aA 3) (eC (.int 1)) [some (.int M),some (.int K),some (.int C),some (.int I)] s=.ok (.int (I+1)) s:=by simp
   rw[zbid,zbhm,e3,zl,e4,zl,zbfh d1,zl]
   rfl)
 obtain⟨σ',st',e,rfl,v,C,rfl,hC⟩:=W;rw[zbh] at hC;have hC':C=(ch m k:Nat):=by rw[hC,eK];rfl
 have hr:RngOk K:=rngN (by lia) (by lia);rw[← hC'];clear hC hC' eM eK hm hk;refine zdl rfl ?_;simp[hr,e]
theorem zqb {a b:Int}{i:Nat}(h:0 < a+b - (i:Int)):([a+b - (i:Int),(i:Int)].filter fun x=>decide (0 < x))=rowC a b i:=by
 have:=zrq h;exact this
theorem zqq {st:Store}{a b:Int}(ha:1<=a)(ha2:a<=40)(hb:1<=b)(hb2:b<=40)(hab:a < 2 * b):∃g,zfa [.int a,.int b] st=.ok (aK (sortR (rowsL a b (a / 2+1).toNat))) (st++g):=by
 have W:=zlb (bd:=gN 3) (body:=zez) (xs:=rng 0 (a / 2+1).toNat) (σ:=[some (.int a),some (.int b),some (.ref st.length),none]) (st:=st++[.lst []])
  (fun i σ s=>(∃v,σ=[some (.int a),some (.int b),some (.ref st.length),v])/\s=st++[.lst (aJ (rowsL a b i))]) ⟨⟨none,rfl⟩,rfl⟩ (by
   rintro i y σ s hy ⟨⟨v,rfl⟩,rfl⟩;obtain⟨hi,rfl⟩:=znd hy;have hi2:2 * (i:Int)<=a:=by lia
   have hl:=zea a b i;have m:CMul 2 (i:Int):=.inl ⟨by decide,by decide⟩;have e1:=zqp (st:=st++[.lst (aJ (rowsL a b i))]) (M:=b - i - 1) (K:=a - 2 * i) (m:=(b - i - 1).toNat) (k:=(a - 2 * i).toNat) (by lia) (by lia) (by lia) (by lia);have e1a:(((b - i - 1).toNat:Nat):Int)=b - i - 1:=by lia
   have e1b:(((a - 2 * i).toNat:Nat):Int)=a - 2 * i:=by lia
   have hn:(st++[O.lst (aJ (rowsL a b i))])[st.length]?=some (.lst (aJ (rowsL a b i))):=by simp
   have hL:=zhe hn;have hsz':(rowsL a b i).length < sizeLine:=smallT _ (by lia);have s2:=small 2 (by lia);have odd:oddW (b - i - 1) (a - 2 * i)=decide (((ch (b - i - 1).toNat (a - 2 * i).toNat:Nat):Int) % 2=1):=by
    have e:=zbjl (m:=(b - i - 1).toNat) (k:=(a - 2 * i).toNat) (by lia) (by lia);rw[e1a,e1b] at e;rw[e,xeo];simp only[xfj];lia
   generalize ch (b - i - 1).toNat (a - 2 * i).toNat=W at e1 odd;clear e1a e1b;refine⟨[some (.int a),some (.int b),some (.ref st.length),some (.int (0+i))],[some (.int a),some (.int b),some (.ref st.length),some (.int (0+i))],st++[.lst (aJ (rowsL a b (i+1)))],rfl,?_,⟨_,rfl⟩,rfl⟩;rw[xgu];unfold zez;have ec:aG (aH (eLst (aB (aS oSub (aS aM (aA 0) (aA 1)) (aA 3)) (aB (aA 3) aC)))) 1 [] (gN 0) (eB (aS oGt (aA 0) (eC (.int 0)))) (aA 0) [some (.int a),some (.int b),some (.ref st.length),some (.int i)] (st++[.lst (aJ (rowsL a b i))])
     = .ok (.lst ((rowC a b i).map D.int)) (st++[.lst (aJ (rowsL a b i))]):=by
    have h1:0 < a+b - (i:Int):=by lia
    rw[← zqb h1];have h2:(i:Int) < a+b:=by lia
    by_cases c2:0 < i
    ·simp[s2,compF,gN,aT,h2,c2,xfl]
    ·have c3:i=0:=by lia
     subst c3;simp at h2;simp[s2,compF,gN,aT,h2,xfl]
   by_cases c:oddW (b - i - 1) (a - 2 * i)=true
   ·rw[zoq c];have c':(W:Int) % 2=1:=by rw[odd] at c;exact xdu c
    rw[zro];have et:eB (aS oEq (aS oMod (aE zcy (aB (aS oSub (aS oSub (aA 1) (aA 3)) (eC (.int 1))) (aB (aS oSub (aA 0) (aS oMulI (eC (.int 2)) (aA 3))) aC))) (eC (.int 2))) (eC (.int 1))) [some (.int a),some (.int b),some (.ref st.length),some (.int i)] (st++[.lst (aJ (rowsL a b i))])=.ok true (st++[.lst (aJ (rowsL a b i))]):=by
     simp[m,e1,c']
    rw[et,zl,if_pos rfl,zly];have ea:aB (aE bTuple (aB (aG (aH (eLst (aB (aS oSub (aS aM (aA 0) (aA 1)) (aA 3)) (aB (aA 3) aC)))) 1 [] (gN 0) (eB (aS oGt (aA 0) (eC (.int 0)))) (aA 0)) aC)) aC [some (.int a),some (.int b),some (.ref st.length),some (.int i)] (st++[.lst (aJ (rowsL a b i))])=.ok [aL (rowC a b i)] (st++[.lst (aJ (rowsL a b i))]):=by
     rw[zew,zde,zew,ec]
     rfl
    rw[zpy (n:=st.length) rfl hn ea hn (by rw[zg];exact hsz'),zl];simp[aJ]
   ·have c':¬ (W:Int) % 2=1:=fun z=>c (by rw[odd];exact xbw z)
    rw[zrp c];have et:eB (aS oEq (aS oMod (aE zcy (aB (aS oSub (aS oSub (aA 1) (aA 3)) (eC (.int 1))) (aB (aS oSub (aA 0) (aS oMulI (eC (.int 2)) (aA 3))) aC))) (eC (.int 2))) (eC (.int 1))) [some (.int a),some (.int b),some (.ref st.length),some (.int i)] (st++[.lst (aJ (rowsL a b i))])=.ok false (st++[.lst (aJ (rowsL a b i))]):=by
     simp[m,e1,c']
    rw[zro,et,zl,if_neg (by decide)]
    rfl)
 obtain⟨σ',st',e,⟨v,rfl⟩,rfl⟩:=W;rw[zbh] at e;refine⟨[.lst (aJ (rowsL a b (a / 2+1).toNat))],zdl rfl ?_⟩;have d2:CDivP a 2:=⟨by decide,by decide +kernel⟩
 have hr:RngOk (a / 2+1):=rngOk (by lia) (by lia);have few:(rowsL a b (a / 2+1).toNat).length<=1000000:=by have:=zea a b (a / 2+1).toNat;lia
 have hn:(st++[O.lst (aJ (rowsL a b (a / 2+1).toNat))])[st.length]?=some (.lst (aJ (rowsL a b (a / 2+1).toNat))):=by simp
 have es:bSorted [.ref st.length] (st++[.lst (aJ (rowsL a b (a / 2+1).toNat))])=.ok (.lst (aJ (sortR (rowsL a b (a / 2+1).toNat)))) (st++[.lst (aJ (rowsL a b (a / 2+1).toNat))]):=by
  unfold bSorted;simp[zhe hn,few]
 simp[d2,hr,e,es]
structure RowOk (r:List Int) (most:Int) (long:Nat):Prop where
 pos:∀p∈r,1<=p
 sum:r.sum<=most
 len:r.length<=long
theorem zcd {r:List Int}(h:∀p∈r,1<=p):0<=r.sum:=by
 induction r with
 | nil=>simp
 | cons a r ih =>
  rw[xgn];have:=h a xcr;have:=ih fun p hp=>h p (xbi _ hp)
  lia
theorem Drew.over {st s:Store}{n k:Nat}{o:O}(d:Drew st s n)(hn:n < st.length)(hk:st.length<=k):Drew st (s.set k o) n:=by
 obtain⟨c,x,eb,c0,x0⟩:=d.bag;exact⟨by rw[xcp];exact d.len,fun i h1 h2=>by rw[xbl (by lia)];exact d.keep i h1 h2,c,x,by rw[xbl (by lia)];exact eb,c0,x0⟩
theorem zbbs (xs:List D)(y:D):L2.atI (xs++[y]) (-1)=some y:=by
 unfold L2.atI ixN;rw[xbq];have e:((-1:Int)+((xs.length+[y].length:Nat):Int)).toNat=xs.length:=by simp;lia
 rw[if_neg (by lia),if_pos (by simp;lia),e];simp
theorem zsv {st:Store}{n:Nat}{m L:Int}{lg:Nat}(eL:L=lg)(hlg:lg<=100)(hb:BagAt st n)(h0:0<=m)(h1:m<=900):∃r st',zfd [.ref n,.int m,.int L] st=.ok (aL r) st'/\RowOk r m lg/\Drew st st' n:=by
 have hn0:n < st.length:=by obtain⟨_,_,e,_⟩:=hb;exact zh e
 have B0:BagAt (st++[.lst []]) n:=(Drew.more hb [.lst []]).bag;obtain⟨t,st1,e1,t0,t1,D1,hl1⟩:=zls B0 (m:=L+1) (by lia) (zor (by lia));have k1:st1[st.length]?=some (.lst []):=by rw[D1.keep st.length (by simp) (by lia)];simp
 have W:=zlb (bd:=gN 5) (body:=zfp) (xs:=rng 0 t.toNat) (σ:=[some (.ref n),some (.int m),some (.int L),some (.ref st.length),some (.int m),none]) (st:=st1)
  (fun i σ s=>Drew st s n/\st.length < s.length/\∃(r:List Int) (left:Int) (v:Option D),σ=[some (.ref n),some (.int m),some (.int L),some (.ref st.length),some (.int left),v]/\left=m - r.sum/\s[st.length]?=some (.lst (r.map .int))/\RowOk r m i)
  ⟨(Drew.more hb _).trans D1,by rw[hl1];simp,[],m,none,rfl,by simp,k1,⟨fun p h=>(by cases h),by simpa using h0,by simp⟩⟩ (by
   rintro i x σ s hx ⟨Ds,hsl,r,left,v,rfl,hleft,ks,hr⟩;obtain⟨hi,rfl⟩:=znd hx;generalize hI:(0:Int)+(i:Int)=I;unfold zfp;have rs:=zcd hr.pos;have hil:i < 200:=by lia
   by_cases hpos:0 < left
   ·obtain⟨t2,s2,e2,a0,a1,D2,l2⟩:=zls Ds.bag (m:=3) (by lia) (zor (by lia));have pick:∃q:Int,1<=q/\q<=left/\oIx (.lst [.int left,.int (if 5 < left then 5 else left),.int (if 2 < left then 2 else left)]) (.int t2) s2=.ok (.int q) s2:=by
     rcases(show t2=0\/t2=1\/t2=2 by lia) with rfl | rfl | rfl
     ·exact⟨left,by lia,by lia,rfl⟩
     ·exact⟨if 5 < left then 5 else left,by split<;>lia,by split<;>lia,rfl⟩
     ·exact⟨if 2 < left then 2 else left,by split<;>lia,by split<;>lia,rfl⟩
    obtain⟨q,q1,q2,e3⟩:=pick;obtain⟨p,s3,e4,b0,b1,D3,l3⟩:=zls D2.bag (m:=q) q1 (zor (by lia));have ks2:s2[st.length]?=some (.lst (r.map .int)):=by rw[D2.keep st.length hsl (by lia)];exact ks
    have ks3:s3[st.length]?=some (.lst (r.map .int)):=by rw[D3.keep st.length (by lia) (by lia)];exact ks2
    have hs3:=small 3 (by lia);have hsz:(r.map D.int).length < sizeLine:=by rw[zer];exact smallT _ (by have:=hr.len;lia)
    have hlt3:st.length < s3.length:=by lia
    have earg:aB (aS aM (eC (.int 1)) (aE zw (aB (aA 0) (aB (aS oIx (eLst (aB (aA 4) (aB (aE bMin2 (aB (aA 4) (aB (eC (.int 5)) aC))) (aB (aE bMin2 (aB (aA 4) (aB (eC (.int 2)) aC))) aC)))) (aE zw (aB (aA 0) (aB (eC (.int 3)) aC)))) aC)))) aC
      [some (.ref n),some (.int m),some (.int L),some (.ref st.length),some (.int left),some (.int I)] s=.ok [.int (1+p)] s3:=by
     simp[e2,e3,e4,hs3]
    have eapp:=zpy (f:=aA 3) (σ:=[some (.ref n),some (.int m),some (.int L),some (.ref st.length),some (.int left),some (.int I)]) rfl ks earg ks3 hsz;have ks4:(s3.set st.length (.lst (r.map D.int++[D.int (1+p)])))[st.length]?=some (.lst ((r++[1+p]).map .int)):=by
     rw[zca hlt3,xdt];rfl
    have elast:oIx (.ref st.length) (.int (-1)) (s3.set st.length (.lst (r.map D.int++[D.int (1+p)])))=.ok (.int (1+p)) (s3.set st.length (.lst (r.map D.int++[D.int (1+p)]))):=by
     refine zkp (zke ks4) ?_;rw[xdt];exact zbbs _ _
    refine⟨[some (.ref n),some (.int m),some (.int L),some (.ref st.length),some (.int left),some (.int I)],[some (.ref n),some (.int m),some (.int L),some (.ref st.length),some (.int (left - (1+p))),some (.int I)],s3.set st.length (.lst (r.map D.int++[D.int (1+p)])),rfl,?_,?_,by rw[xcp];exact hlt3,r++[1+p],_,_,rfl,?_,ks4,?_⟩
    ·rw[zro];show(if decide (0 < left)=true then _ else _)=_;rw[if_pos (xbw hpos)];refine seqN (σ1:=[some (.ref n),some (.int m),some (.int L),some (.ref st.length),some (.int left),some (.int I)]) (st1:=s3.set st.length (.lst (r.map D.int++[D.int (1+p)]))) ?_ ?_
     ·rw[zly,eapp]
      rfl
     ·simp[elast]
    ·exact((Ds.trans D2).trans D3).over hn0 (xbf _)
    ·rw[hleft,xfs];simp;lia
    ·refine⟨fun z hz=>?_,?_,?_⟩
     ·rcases xcg.mp hz with hz | hz
      ·exact hr.pos z hz
      ·simp at hz;lia
     ·rw[xfs];simp;lia
     ·rw[xbq];have:=hr.len;simp;lia
   ·refine⟨[some (.ref n),some (.int m),some (.int L),some (.ref st.length),some (.int left),some (.int I)],[some (.ref n),some (.int m),some (.int L),some (.ref st.length),some (.int left),some (.int I)],s,rfl,?_,Ds,hsl,r,left,_,rfl,hleft,ks,⟨hr.pos,hr.sum,xff hr.len⟩⟩;rw[zro];show(if decide (0 < left)=true then _ else _)=_;rw[if_neg (by rw[xbu hpos];decide)]
    rfl)
 obtain⟨σ',st',e,Ds,hsl,r,left,v,rfl,hleft,ks,hr⟩:=W;rw[zbh] at hr;refine⟨r,st',zdl rfl ?_,⟨hr.pos,hr.sum,by have:=hr.len;lia⟩,Ds⟩;have hs0:=small 0 (by lia);have hrg:RngOk t:=rngN (by lia) (by lia);refine seqN (σ1:=[some (.ref n),some (.int m),some (.int L),some (.ref st.length),none,none]) (st1:=st++[.lst []]) (by simp) ?_;refine seqN (σ1:=[some (.ref n),some (.int m),some (.int L),some (.ref st.length),some (.int m),none]) (st1:=st++[.lst []]) (by simp) ?_;refine seqN (σ1:=[some (.ref n),some (.int m),some (.int L),some (.ref st.length),some (.int left),v]) (st1:=st') ?_ ?_
 ·have e4:iR1 (aB (aE zw (aB (aA 0) (aB (aS aM (aA 2) (eC (.int 1))) aC))) aC) [some (.ref n),some (.int m),some (.int L),some (.ref st.length),some (.int m),none] (st++[.lst []])=.ok (rng 0 t.toNat) st1:=by
   simp[e1,hrg]
  rw[zux,e4];exact e
 ·rw[zlx,zde];show((bTuple [.ref st.length] st').bind _)=_;rw[ztt ks]
  rfl
theorem zjw {st:Store}{n:Nat}{A m L:Int}{lg:Nat}(eL:L=lg)(hlg:lg<=100)(hA:0<=A)(hA2:A<=60)(hb:BagAt st n)(h0:0<=m)(h1:m<=900) :
  ∃l st',zdv [.ref n,.int A,.int m,.int L] st=.ok (aK l) st'/\(∀r∈l,RowOk r m lg)/\l.Nodup/\(l.length:Int)<=A/\UpR l/\Drew st st' n:=by
 obtain⟨t,st1,e1,t0,t1,D1,_⟩:=zls hb (m:=A+1) (by lia) (zor (by lia));have W:=zhd (bd:=gN 0) (c:=aI) (f:=aE zfd (aB (aA 1) (aB (aA 2) (aB (aA 3) aC)))) (xs:=rng 0 t.toNat) (σ:=[none,some (.ref n),some (.int m),some (.int L)]) (st:=st1)
  (fun i acc σ s=>Drew st s n/\(∃w:Option D,σ=[w,some (.ref n),some (.int m),some (.int L)])/\∃l:List (List Int),acc=aJ l/\(∀r∈l,RowOk r m lg)/\l.length=i) ⟨D1,⟨none,rfl⟩,[],rfl,fun r h=>(by cases h),rfl⟩ (by
   rintro i y acc σ s hy ⟨Ds,⟨w,rfl⟩,l,rfl,hr,hl⟩;obtain⟨r,s2,e2,r1,D2⟩:=zsv eL hlg Ds.bag h0 h1;refine⟨[some y,some (.ref n),some (.int m),some (.int L)],true,s,rfl,rfl,.inr ⟨rfl,aL r,s2,?_,Ds.trans D2,⟨_,rfl⟩,l++[r],by simp[aJ],fun z hz=>?_,by simp[hl]⟩⟩
   ·simp[e2]
   ·rcases xcg.mp hz with hz | hz
    ·exact hr z hz
    ·simp at hz;subst hz
     exact r1)
 obtain⟨ys,σ',st2,e2,Ds,_,l,rfl,hr,hl⟩:=W;rw[zbh] at hl;obtain⟨g,e3⟩:=zqr (st:=st2) (x:=.lst (aJ l)) (l:=l) rfl (by lia) (by have:=zjr l;lia);refine⟨aO l,st2++g,zdl rfl ?_,fun r h=>hr r (zzn h),zsg l,by have:=zql l;lia,zkd _,Ds.trans (.more Ds.bag g)⟩;have hrg:RngOk t:=rngN (by lia) (by lia);have hln:(rng 0 t.toNat).length<=sizeLine:=by rw[zbh];exact small _ (by lia)
 have e4:iR1 (aB (aE zw (aB (aA 0) (aB (aS aM (aA 1) (eC (.int 1))) aC))) aC) [some (.ref n),some (.int A),some (.int m),some (.int L)] st=.ok (rng 0 t.toNat) st1:=by
  simp[e1,hrg]
 show sRet _ [some (.ref n),some (.int A),some (.int m),some (.int L)] st=_;rw[zlx,zde,zew,zgd,e4,zl,if_pos hln];show(((((compF _ _ _ _ [none,some (.ref n),some (.int m),some (.int L)] st1).bind _).bind _).bind _).bind _)=_;rw[e2];show((zdw [.lst (aJ l)] st2).bind _)=_;rw[e3]
 rfl
end Dd
namespace Dd
open PySem L2
noncomputable def WP {α:Type} (r:Res α) (Q:α->Store->Prop):Prop:=match r with
 | .ok a st=>Q a st
 | _=>False
theorem WP.get {α:Type}{r:Res α}{Q:α->Store->Prop}(h:WP r Q):∃a st,r=.ok a st/\Q a st:=by
 cases r with
 | ok a st=>exact⟨a,st,rfl,h⟩
 | exc x st=>exact h.elim
 | stuck=>exact h.elim
theorem WP.of {α:Type}{r:Res α}{Q:α->Store->Prop}{a:α}{st:Store}(e:r=.ok a st)(h:Q a st):WP r Q:=by rw[e];exact h
theorem WP.mono {α:Type}{r:Res α}{Q Q':α->Store->Prop}(h:WP r Q)(k:∀a st,Q a st->Q' a st):WP r Q':=by
 obtain⟨a,st,rfl,q⟩:=h.get;exact k a st q
theorem zm {α β:Type}{r:Res α}{f:α->Store->Res β}{Q:β->Store->Prop}:WP (r.bind f) Q=WP r (fun a st=>WP (f a st) Q):=by
 cases r<;>rfl
noncomputable def seqK (t:SS) (Q:Fl->Store->Prop):Fl->Store->Prop:=fun fl st=>match fl with
 | .nx σ=>WP (t σ st) Q
 | fl=>Q fl st
theorem zue {s t:SS}{σ:DS}{st:Store}{Q:Fl->Store->Prop}:WP (aD s t σ st) Q=WP (s σ st) (seqK t Q):=by
 unfold aD;cases s σ st with
 | ok fl st1=>cases fl<;>rfl
 | exc x st=>rfl
 | stuck=>rfl
theorem zuf {α:Type}{c:Prop}[Decidable c]{a b:Res α}{Q:α->Store->Prop}:WP (if c then a else b) Q=if c then WP a Q else WP b Q:=by
 split<;>rfl
theorem zmq {α:Type}{c:Prop}[Decidable c]{a:Res α}{Q:α->Store->Prop}:WP (if c then a else .stuck) Q=(c/\WP a Q):=by
 by_cases h:c
 ·rw[if_pos h];simp[h]
 ·rw[if_neg h];simp[h,WP]
noncomputable def retK (Q:D->Store->Prop):Fl->Store->Prop:=fun fl st=>match fl with
 | .ret v=>Q v st
 | .nx _=>Q .non st
 | _=>False
theorem zud {n np:Nat}{b:SS}{ds:List D}{st:Store}{Q:D->Store->Prop}(h:ds.length=np)(k:WP (b (ds.map some++List.replicate (n - np) none) st) (retK Q)):WP (fnD n np b ds st) Q:=by
 obtain⟨fl,st',e,q⟩:=k.get;unfold fnD;rw[if_pos h,e];cases fl<;>first | exact q | exact q.elim
noncomputable def bK (Q:Bool->Store->Prop):D->Store->Prop:=fun v st=>match v with
 | .bl b=>Q b st
 | _=>False
noncomputable def gK (bd:SG) (Q:Fl->Store->Prop) (σ:DS):D->Store->Prop:=fun v st=>match bd v σ with
 | some σ1=>Q (.nx σ1) st
 | none=>False
theorem W:(∀{α:Type} {a:α} {st:Store} {Q:α->Store->Prop},WP (.ok a st) Q=Q a st)
 /\ (∀{s t:SS} {σ:DS} {st:Store} {Q:Fl->Store->Prop},WP (aD s t σ st) Q=WP (s σ st) (seqK t Q))
 /\ (∀{t:SS} {σ:DS} {st:Store} {Q:Fl->Store->Prop},seqK t Q (.nx σ) st=WP (t σ st) Q)
 /\ (∀{t:SS} {v:D} {st:Store} {Q:Fl->Store->Prop},seqK t Q (.ret v) st=Q (.ret v) st)
 /\ (∀{t:SS} {σ:DS} {st:Store} {Q:Fl->Store->Prop},seqK t Q (.brk σ) st=Q (.brk σ) st)
 /\ (∀{t:SS} {σ:DS} {st:Store} {Q:Fl->Store->Prop},seqK t Q (.ct σ) st=Q (.ct σ) st)
 /\ (∀{v:D} {st:Store} {Q:D->Store->Prop},retK Q (.ret v) st=Q v st)
 /\ (∀{σ:DS} {st:Store} {Q:D->Store->Prop},retK Q (.nx σ) st=Q .non st)
 /\ (∀{b:Bool} {st:Store} {Q:Bool->Store->Prop},bK Q (.bl b) st=Q b st)
 /\ (∀{d:D} {σ:DS} {st:Store} {Q:D->Store->Prop},WP (eC d σ st) Q=Q d st)
 /\ (∀{g:D->D->Store->Res D} {f f':SE} {σ:DS} {st:Store} {Q:D->Store->Prop},WP (aS g f f' σ st) Q=WP (f σ st) (fun x st1=>WP (f' σ st1) (fun y st2=>WP (g x y st2) Q)))
 /\ (∀{g:D->Store->Res D} {f:SE} {σ:DS} {st:Store} {Q:D->Store->Prop},WP (eUn g f σ st) Q=WP (f σ st) (fun x st1=>WP (g x st1) Q))
 /\ (∀{g:List D->Store->Res D} {f:SA} {σ:DS} {st:Store} {Q:D->Store->Prop},WP (aE g f σ st) Q=WP (f σ st) (fun x st1=>WP (g x st1) Q))
 /\ (∀{σ:DS} {st:Store} {Q:List D->Store->Prop},WP (aC σ st) Q=Q [] st)
 /\ (∀{f:SE} {g:SA} {σ:DS} {st:Store} {Q:List D->Store->Prop},WP (aB f g σ st) Q=WP (f σ st) (fun x st1=>WP (g σ st1) (fun xs st2=>Q (x::xs) st2)))
 /\ (∀{f:SE} {σ:DS} {st:Store} {Q:Bool->Store->Prop},WP (eB f σ st) Q=WP (f σ st) (bK Q))
 /\ (∀{f f':ST} {σ:DS} {st:Store} {Q:Bool->Store->Prop},WP (bAnd f f' σ st) Q=WP (f σ st) (fun b st1=>if b=true then WP (f' σ st1) Q else Q false st1))
 /\ (∀{f f':ST} {σ:DS} {st:Store} {Q:Bool->Store->Prop},WP (bOr f f' σ st) Q=WP (f σ st) (fun b st1=>if b=true then Q true st1 else WP (f' σ st1) Q))
 /\ (∀{f:ST} {σ:DS} {st:Store} {Q:Bool->Store->Prop},WP (bNot f σ st) Q=WP (f σ st) (fun b st1=>Q (!b) st1))
 /\ (∀{σ:DS} {st:Store} {Q:Bool->Store->Prop},WP (aI σ st) Q=Q true st)
 /\ (∀{f f':SE} {σ:DS} {st:Store} {Q:D->Store->Prop},WP (eAnd f f' σ st) Q=WP (f σ st) (bK fun b st1=>if b=true then WP (f' σ st1) Q else Q (.bl false) st1))
 /\ (∀{f f':SE} {σ:DS} {st:Store} {Q:D->Store->Prop},WP (eOr f f' σ st) Q=WP (f σ st) (bK fun b st1=>if b=true then Q (.bl true) st1 else WP (f' σ st1) Q))
 /\ (∀{f:SE} {σ:DS} {st:Store} {Q:D->Store->Prop},WP (eNot f σ st) Q=WP (f σ st) (bK fun b st1=>Q (.bl (!b)) st1))
 /\ (∀{c:ST} {f f':SE} {σ:DS} {st:Store} {Q:D->Store->Prop},WP (eIf c f f' σ st) Q=WP (c σ st) (fun b st1=>if b=true then WP (f σ st1) Q else WP (f' σ st1) Q))
 /\ (∀{g:SA} {σ:DS} {st:Store} {Q:D->Store->Prop},WP (aR g σ st) Q=WP (g σ st) (fun xs st1=>xs.length<=sizeLine/\Q (.tup xs) st1))
 /\ (∀{g:SA} {σ:DS} {st:Store} {Q:D->Store->Prop},WP (eLst g σ st) Q=WP (g σ st) (fun xs st1=>xs.length<=sizeLine/\Q (.lst xs) st1))
 /\ (∀{g:SA} {σ:DS} {st:Store} {Q:D->Store->Prop},WP (eLstM g σ st) Q=WP (g σ st) (fun xs st1=>xs.length<=sizeLine/\Q (.ref st1.length) (st1++[.lst xs])))
 /\ (∀{σ:DS} {st:Store} {Q:D->Store->Prop},WP (eDNew σ st) Q=Q (.ref st.length) (st++[.dT []]))
 /\ (∀{σ:DS} {st:Store} {Q:Fl->Store->Prop},WP (sNx σ st) Q=Q (.nx σ) st)
 /\ (∀{σ:DS} {st:Store} {Q:Fl->Store->Prop},WP (sBrk σ st) Q=Q (.brk σ) st)
 /\ (∀{σ:DS} {st:Store} {Q:Fl->Store->Prop},WP (sCt σ st) Q=Q (.ct σ) st)
 /\ (∀{σ:DS} {st:Store} {Q:Fl->Store->Prop},WP (sRetN σ st) Q=Q (.ret .non) st)
 /\ (∀{f:SE} {σ:DS} {st:Store} {Q:Fl->Store->Prop},WP (sRet f σ st) Q=WP (f σ st) (fun v st1=>Q (.ret v) st1))
 /\ (∀{f:SE} {σ:DS} {st:Store} {Q:Fl->Store->Prop},WP (sDrop f σ st) Q=WP (f σ st) (fun _ st1=>Q (.nx σ) st1))
 /\ (∀{i:Nat} {f:SE} {σ:DS} {st:Store} {Q:Fl->Store->Prop},WP (aF i f σ st) Q=WP (f σ st) (fun v st1=>Q (.nx (σ.set i (some v))) st1))
 /\ (∀{bd:SG} {f:SE} {σ:DS} {st:Store} {Q:Fl->Store->Prop},WP (sSetG bd f σ st) Q=WP (f σ st) (gK bd Q σ))
 /\ (∀{c:ST} {s t:SS} {σ:DS} {st:Store} {Q:Fl->Store->Prop},WP (sIf c s t σ st) Q=WP (c σ st) (fun b st1=>if b=true then WP (s σ st1) Q else WP (t σ st1) Q))
 /\ (∀{it:SA} {bd:SG} {body:SS} {σ:DS} {st:Store} {Q:Fl->Store->Prop},WP (sFor it bd body σ st) Q=WP (it σ st) (fun xs st1=>WP (forF bd body xs σ st1) Q))
 /\ (∀{it:SA} {k:Nat} {is:List Nat} {bd:SG} {c:ST} {f:SE} {σ:DS} {st:Store} {Q:D->Store->Prop},WP (aG it k is bd c f σ st) Q=WP (it σ st) (fun xs st1=>xs.length<=sizeLine/\WP (compF bd c f xs (aT k is σ) st1) (fun ys st2=>Q (.lst ys) st2)))
 /\ (∀{it:SA} {k:Nat} {is:List Nat} {bd:SG} {c:ST} {f:SE} {σ:DS} {st:Store} {Q:D->Store->Prop},WP (eCompM it k is bd c f σ st) Q=WP (it σ st) (fun xs st1=>xs.length<=sizeLine/\WP (compF bd c f xs (aT k is σ) st1) (fun ys st2=>Q (.ref st2.length) (st2++[.lst ys]))))
 /\ (∀{C:Int->Int->Prop} [DecidableRel C] {h:Int->Int->D} {i j:Int} {st:Store} {Q:D->Store->Prop},WP (oI C h (.int i) (.int j) st) Q=(C i j/\Q (h i j) st))
 /\ (∀{i j:Int} {st:Store} {Q:D->Store->Prop},WP (aM (.int i) (.int j) st) Q=Q (.int (i+j)) st)
 /\ (∀{a b:List D} {st:Store} {Q:D->Store->Prop},WP (aM (.tup a) (.tup b) st) Q=(a.length+b.length<=sizeLine/\Q (.tup (a++b)) st))
 /\ (∀{i j:Int} {st:Store} {Q:D->Store->Prop},WP (oLtT (.int i) (.int j) st) Q=Q (.bl (decide (i < j))) st)
 /\ (∀{i j:Int} {st:Store} {Q:D->Store->Prop},WP (oEqG false (.int i) (.int j) st) Q=Q (.bl (decide (i=j))) st)
 /\ (∀{i j:Int} {st:Store} {Q:D->Store->Prop},WP (oEqG true (.int i) (.int j) st) Q=Q (.bl (!decide (i=j))) st)
 /\ (∀{i:Int} {st:Store} {Q:D->Store->Prop},WP (oNeg (.int i) st) Q=Q (.int (-i)) st)
 /\ (∀{i j:Int} {g:Int->Int->Int} {st:Store} {Q:D->Store->Prop},WP (b2I g [.int i,.int j] st) Q=Q (.int (g i j)) st)
 /\ (∀{i:Int} {st:Store} {Q:D->Store->Prop},WP (bAbs [.int i] st) Q=Q (.int (if i < 0 then -i else i)) st)
 /\ (∀{b:Bool} {st:Store} {Q:D->Store->Prop},WP (bInt [.bl b] st) Q=Q (.int (if b=true then 1 else 0)) st)
 /\ (∀{xs:List D} {st:Store} {Q:D->Store->Prop},WP (bLen [.tup xs] st) Q=Q (.int xs.length) st)
 /\ (∀{xs:List D} {st:Store} {Q:D->Store->Prop},WP (bLen [.lst xs] st) Q=Q (.int xs.length) st)
 /\ (∀{xs:List D} {st:Store} {Q:D->Store->Prop},WP (bLen [.scr xs] st) Q=Q (.int xs.length) st)
 /\ (∀{xs:List D} {st:Store} {Q:D->Store->Prop},WP (bTuple [.tup xs] st) Q=Q (.tup xs) st)
 /\ (∀{xs:List D} {st:Store} {Q:D->Store->Prop},WP (bTuple [.lst xs] st) Q=Q (.tup xs) st)
 /\ (∀{xs:List D} {st:Store} {Q:D->Store->Prop},WP (bList [.tup xs] st) Q=Q (.lst xs) st)
 /\ (∀{xs:List D} {st:Store} {Q:D->Store->Prop},WP (bList [.lst xs] st) Q=Q (.lst xs) st)
 /\ (∀{d:D} {σ:DS} {st:Store} {Q:D->Store->Prop},WP (aA 0 (some d::σ) st) Q=Q d st)
 /\ (∀{i:Nat} {σ:DS} {st:Store} {Q:D->Store->Prop} {o:Option D},WP (aA (i+1) (o::σ) st) Q=WP (aA i σ st) Q)
 /\ (∀{f:SE} {σ:DS} {st:Store} {Q:List D->Store->Prop},WP (aH f σ st) Q=WP (f σ st) (fun x st1=>∃xs,seqV x=some xs/\Q xs st1))
 /\ (∀{f:SE} {σ:DS} {st:Store} {Q:Bool->Store->Prop},WP (eTru f σ st) Q=WP (f σ st) (fun x st1=>∃b,tru st1 x=some b/\Q b st1))
 /\ (∀{g:SA} {σ:DS} {st:Store} {Q:List D->Store->Prop},WP (iR1 g σ st) Q=WP (g σ st) (fun xs st1=>∃j,xs=[.int j]/\RngOk j/\Q (rng 0 j.toNat) st1))
 /\ (∀{g:SA} {σ:DS} {st:Store} {Q:List D->Store->Prop},WP (iR2 g σ st) Q=WP (g σ st) (fun xs st1=>∃i j,xs=[.int i,.int j]/\RngOk i/\RngOk j/\Q (rng i (j - i).toNat) st1)):=by
 have g2:∀{α:Type} {c:Prop} [Decidable c] {a:α} {st:Store} {Q:α->Store->Prop},WP (if c then .ok a st else .stuck) Q=(c/\Q a st):=fun {α c _ a st Q}=>zmq
 refine⟨rfl,zue,rfl,rfl,rfl,rfl,rfl,rfl,rfl,rfl,?_⟩;refine⟨?_,?_⟩
 ·intros;rw[zbhm,zm];congr;funext x st1;rw[zm]
 refine⟨zm,zm,rfl,?_⟩;refine⟨?_,?_⟩
 ·intros;rw[zew,zm];congr;funext x st1;rw[zm];rfl
 refine⟨?_,?_⟩
 ·intros;rw[eB_v,zm];congr;funext x st1;cases x<;>rfl
 refine⟨?_,?_⟩
 ·intros;rw[zblq,zm];congr;funext x st1;rw[zuf];rfl
 refine⟨?_,?_⟩
 ·intros;rw[zblm,zm];congr;funext x st1;rw[zuf];rfl
 refine⟨zm,rfl,?_⟩;refine⟨?_,?_⟩
 ·intros;rw[zbaj,zm];congr;funext x st1;cases x<;>try rfl
  rename_i b;cases b<;>rfl
 refine⟨?_,?_⟩
 ·intros;rw[zbnl,zm];congr;funext x st1;cases x<;>try rfl
  rename_i b;cases b<;>rfl
 refine⟨?_,?_⟩
 ·intros;rw[zbfk,zm];congr;funext x st1;cases x<;>rfl
 refine⟨?_,?_⟩
 ·intros;rw[zbnm,zm];congr;funext x st1;rw[zuf]
 refine⟨?_,?_⟩
 ·intros;rw[zbkd,zm];congr;funext x st1;rw[g2]
 refine⟨?_,?_⟩
 ·intros;rw[zbke,zm];congr;funext x st1;rw[g2]
 refine⟨?_,?_⟩
 ·intros;rw[zbfl,zm];congr;funext x st1;rw[g2]
 refine⟨rfl,rfl,rfl,rfl,rfl,zm,zm,zm,?_⟩;refine⟨?_,?_⟩
 ·intro bd f σ st Q;unfold sSetG;rw[zm];congr;funext x st1;unfold gK;cases bd x σ<;>rfl
 refine⟨?_,?_⟩
 ·intros;rw[zro,zm];congr;funext x st1;rw[zuf]
 refine⟨zm,?_⟩;refine⟨?_,?_⟩
 ·intros;rw[zgd,zm];congr;funext x st1;rw[zmq,zm];rfl
 refine⟨?_,?_⟩
 ·intros;unfold eCompM;rw[zm];congr;funext x st1;rw[zmq,zm];rfl
 refine⟨?_,?_⟩
 ·intros;rw[oI_v,g2]
 refine⟨rfl,?_⟩;refine⟨?_,?_⟩
 ·intros;rw[zbee,g2]
 refine⟨rfl,?_⟩;refine⟨?_,?_⟩
 ·intros;rw[show ∀i j st,oEqG false (.int i) (.int j) st=_ from fun i j st=>zbnf];rfl
 refine⟨?_,?_⟩
 ·intros;rw[show ∀i j st,oEqG true (.int i) (.int j) st=_ from fun i j st=>zbnc];rfl
 refine⟨rfl,rfl,rfl,rfl,rfl,rfl,rfl,rfl,rfl,rfl,rfl,fun {d σ st Q}=>rfl,fun {i σ st Q o}=>rfl,?_⟩;refine⟨?_,?_⟩
 ·intros;rw[zbff,zm];congr;funext x st1
  cases h:seqV x with
  | none=>simp[WP]
  | some xs=>simp[WP]
 refine⟨?_,?_⟩
 ·intros;rw[zqu,zm];congr;funext x st1
  cases h:tru st1 x with
  | none=>simp[WP]
  | some xs=>simp[WP]
 refine⟨?_,?_⟩
 ·intros;rw[zbni,zm];congr;funext x st1
  split
  ·rw[g2];simp[RngOk]
  ·rename_i hne;have:∀j,x≠[D.int j]:=fun j h=>hne j h
   simp[WP,this]
 ·intros;rw[zbnh,zm];congr;funext x st1
  split
  ·rw[g2];simp only[RngOk,List.cons.injEq,D.int.injEq,and_true];apply propext;constructor
   ·rintro⟨h,q⟩;exact⟨_,_,⟨rfl,rfl⟩,h.1,h.2,q⟩
   ·rintro⟨i',j',⟨rfl,rfl⟩,h1,h2,q⟩;exact⟨⟨h1,h2⟩,q⟩
  ·rename_i hne;have:∀i j,x≠[D.int i,D.int j]:=fun i j h=>hne i j h
   simp[WP,this]
noncomputable def loopK (I:DS->Store->Prop) (Q:Fl->Store->Prop):Fl->Store->Prop:=fun fl st=>match fl with
 | .nx σ=>I σ st
 | .ct σ=>I σ st
 | .brk σ=>Q (.nx σ) st
 | .ret v=>Q (.ret v) st
theorem zje {bd:SG}{body:SS}{Q:Fl->Store->Prop}(I:Nat->DS->Store->Prop):∀(xs:List D) (k:Nat) (σ:DS) (st:Store),I k σ st ->
  (∀i x σ st,xs[i]?=some x->I (k+i) σ st->∃σ1,bd x σ=some σ1/\WP (body σ1 st) (loopK (I (k+i+1)) Q))->(∀σ st,I (k+xs.length) σ st->Q (.nx σ) st)->WP (forF bd body xs σ st) Q
 | [],k,σ,st,h,_,q=>q σ st h
 | x::xs,k,σ,st,h,s,q=>by
  obtain⟨σ1,e1,w⟩:=s 0 x σ st rfl h;obtain⟨fl,st2,e2,w⟩:=w.get;unfold forF;rw[e1];dsimp only;rw[e2]
  have go:∀σ2,I (k+0+1) σ2 st2->WP (forF bd body xs σ2 st2) Q:=fun σ2 h2=>zje I xs (k+1) σ2 st2 h2 (fun i y σ st hy hi=>by
   have:=s (i+1) y σ st (by simpa using hy) (by rw[show k+(i+1)=k+1+i by lia];exact hi);rw[show k+(i+1)+1=k+1+i+1 by lia] at this
   exact this) (fun σ st h=>q σ st (by rw[xbv,show k+(xs.length+1)=k+1+xs.length by lia];exact h))
  cases fl with
  | nx σ2=>exact go σ2 w
  | ct σ2=>exact go σ2 w
  | brk σ2=>exact w
  | ret v=>exact w
theorem zhl {bd:SG}{body:SS}{Q:Fl->Store->Prop}(I:Nat->DS->Store->Prop){xs:List D}{σ:DS}{st:Store}(h0:I 0 σ st)
  (s:∀i x σ st,xs[i]?=some x->I i σ st->∃σ1,bd x σ=some σ1/\WP (body σ1 st) (loopK (I (i+1)) Q))(q:∀σ st,I xs.length σ st->Q (.nx σ) st):WP (forF bd body xs σ st) Q :=
 zje I xs 0 σ st h0 (fun i x σ st hx hi=>by rw[xef] at hi ⊢;exact s i x σ st hx hi) fun σ st h=>q σ st (by rw[xef] at h;exact h)
theorem L:(∀{I:DS->Store->Prop} {Q:Fl->Store->Prop} {σ:DS} {st:Store},loopK I Q (.nx σ) st=I σ st)
 /\ (∀{I:DS->Store->Prop} {Q:Fl->Store->Prop} {σ:DS} {st:Store},loopK I Q (.ct σ) st=I σ st)
 /\ (∀{I:DS->Store->Prop} {Q:Fl->Store->Prop} {σ:DS} {st:Store},loopK I Q (.brk σ) st=Q (.nx σ) st)
 /\ (∀{I:DS->Store->Prop} {Q:Fl->Store->Prop} {v:D} {st:Store},loopK I Q (.ret v) st=Q (.ret v) st):=⟨rfl,rfl,rfl,rfl⟩
theorem zfj {bd:SG}{c:ST}{f:SE}(I:Nat->List D->DS->Store->Prop):∀(xs:List D) (k:Nat) (acc:List D) (σ:DS) (st:Store) (Q:List D->Store->Prop),I k acc σ st ->
  (∀i x acc σ st,xs[i]?=some x->I (k+i) acc σ st->∃σ1,bd x σ=some σ1/\WP (c σ1 st) (fun b st1=>if b=true then WP (f σ1 st1) (fun y st2=>I (k+i+1) (acc++[y]) σ1 st2) else I (k+i+1) acc σ1 st1)) ->
  (∀ys σ st,I (k+xs.length) (acc++ys) σ st->Q ys st)->WP (compF bd c f xs σ st) Q
 | [],k,acc,σ,st,Q,h,_,q=>q [] σ st (by rw[xet];exact h)
 | x::xs,k,acc,σ,st,Q,h,s,q=>by
  obtain⟨σ1,e1,w⟩:=s 0 x acc σ st rfl h;obtain⟨b,st1,e2,w⟩:=w.get;have s':∀i y acc σ st,xs[i]?=some y->I (k+1+i) acc σ st->∃σ1,bd y σ=some σ1/\WP (c σ1 st) (fun b st1=>if b=true then WP (f σ1 st1) (fun y st2=>I (k+1+i+1) (acc++[y]) σ1 st2) else I (k+1+i+1) acc σ1 st1):=fun i y acc σ st hy hi=>by
   have:=s (i+1) y acc σ st (by simpa using hy) (by rw[show k+(i+1)=k+1+i by lia];exact hi);rw[show k+(i+1)+1=k+1+i+1 by lia] at this;exact this
  have ln:∀(zs:List D) σ st,I (k+1+xs.length) zs σ st->I (k+(x::xs).length) zs σ st:=fun zs σ st h=>by rw[xbv,show k+(xs.length+1)=k+1+xs.length by lia];exact h
  unfold compF;rw[e1];dsimp only;rw[e2];dsimp only[zl];cases b with
  | false =>
   rw[if_neg (by decide)] at w ⊢;exact zfj I xs (k+1) acc σ1 st1 Q w s' fun ys σ st h=>q ys σ st (ln _ _ _ h)
  | true =>
   rw[if_pos rfl] at w ⊢;obtain⟨y,st2,e3,w⟩:=w.get;rw[e3];dsimp only[zl];rw[zm];exact zfj I xs (k+1) (acc++[y]) σ1 st2 _ w s' fun ys σ st h=>q (y::ys) σ st (ln _ _ _ (by rw[xck] at h;exact h))
theorem zwt {bd:SG}{c:ST}{f:SE}{Q:List D->Store->Prop}(I:Nat->List D->DS->Store->Prop){xs:List D}{σ:DS}{st:Store}(h0:I 0 [] σ st)
  (s:∀i x acc σ st,xs[i]?=some x->I i acc σ st->∃σ1,bd x σ=some σ1/\WP (c σ1 st) (fun b st1=>if b=true then WP (f σ1 st1) (fun y st2=>I (i+1) (acc++[y]) σ1 st2) else I (i+1) acc σ1 st1))
  (q:∀ys σ st,I xs.length ys σ st->Q ys st):WP (compF bd c f xs σ st) Q :=
 zfj I xs 0 [] σ st Q h0 (fun i x acc σ st hx hi=>by rw[xef] at hi ⊢;exact s i x acc σ st hx hi) fun ys σ st h=>q ys σ st (by rw[xef] at h;simpa using h)
theorem zye {bd:SG}{c:ST}{f:SE}{α:Type}(S:DS->Prop)(P:α->Bool)(G:α->D)(E:α->D){as:List α}{σ:DS}{st:Store}{Q:List D->Store->Prop}(h0:S σ)
  (s:∀x∈as,∀σ,S σ->∃σ1,bd (E x) σ=some σ1/\S σ1/\WP (c σ1 st) (fun b st1=>st1=st/\b=P x)/\(P x=true->WP (f σ1 st) (fun y st1=>st1=st/\y=G x)))
  (q:Q ((as.filter P).map G) st):WP (compF bd c f (as.map E) σ st) Q:=by
 refine zwt (fun i acc σ s'=>S σ/\s'=st/\acc=((as.take i).filter P).map G) ⟨h0,rfl,rfl⟩ (fun i x acc σ s' hx hI=>?_) fun ys σ s' hI=>?_
 ·obtain⟨hS,rfl,rfl⟩:=hI;rw[xcd] at hx;obtain⟨z,hz,rfl⟩:=xcv.mp hx;obtain⟨σ1,e1,hS1,w1,w2⟩:=s z (xbo hz) σ hS;refine⟨σ1,e1,w1.mono fun b st1 hb=>?_⟩;obtain⟨rfl,rfl⟩:=hb;cases hP:P z with
  | false =>
   rw[if_neg (by decide)];refine⟨hS1,rfl,?_⟩;rw[zv hz,xdq,xdf (by rw[hP];decide)];simp
  | true =>
   rw[if_pos rfl];refine(w2 hP).mono fun y st2 hy=>?_
   obtain⟨rfl,rfl⟩:=hy;refine⟨hS1,rfl,?_⟩;rw[zv hz,xdq,xdg hP,xdt];simp
 ·obtain⟨_,rfl,rfl⟩:=hI;rw[xbd,xct];exact q
theorem V:(∀{α:Type} {a b:α} {l:List α},(a::l).set 0 b=b::l)
 /\ (∀{α:Type} {a b:α} {l:List α} {i:Nat},(a::l).set (i+1) b=a::l.set i b)
 /\ (∀{σ:DS} {k:Nat} {is:List Nat},aT k is σ=List.replicate k none++is.map fun i=>(σ[i]?).getD none)
 /\ (∀{α:Type} {a:α} {k:Nat},List.replicate (k+1) a=a::List.replicate k a)
 /\ (∀{α:Type} {a:α},List.replicate 0 a=[])
 /\ (∀{α β:Type} {f:α->β} {a:α} {l:List α},(a::l).map f=f a::l.map f)
 /\ (∀{α β:Type} {f:α->β},([]:List α).map f=[])
 /\ (∀{α:Type} {a:α} {l m:List α},(a::l)++m=a::(l++m))
 /\ (∀{α:Type} {l:List α},[]++l=l)
 /\ (∀{α:Type} {a:α} {l:List α},(a::l)[0]?=some a)
 /\ (∀{α:Type} {a:α} {l:List α} {i:Nat},(a::l)[i+1]?=l[i]?)
 /\ (∀{α:Type} {a:α} {d:α},(some a).getD d=a)
 /\ (∀{i:Nat} {d:D} {σ:DS},gN i d σ=some (σ.set i (some d)))
 /\ (∀{p:Prop} [Decidable p],(decide p=true)=p)
 /\ (∀{p:Prop} [Decidable p],((!decide p)=true)=¬ p)
 /\ (∀{b:Bool},((!b)=true)=(b=false))
 /\ (∀{a b:Prop},(if True then a else b)=a)
 /\ (∀{a b:Prop},(if False then a else b)=b)
 /\ (∀{a b:Prop},(if true=true then a else b)=a)
 /\ (∀{a b:Prop},(if false=true then a else b)=b)
 /\ (∀{α:Type} {a b:α},(if True then a else b)=a)
 /\ (∀{α:Type} {a b:α},(if False then a else b)=b)
 /\ ((true=false)=False)/\((false=true)=False)/\((true=true)=True)/\((false=false)=True)/\((¬ True)=False)/\((¬ False)=True):=by
 refine⟨rfl,rfl,rfl,rfl,rfl,rfl,rfl,rfl,rfl,rfl,?_,rfl,rfl,?_,?_,?_,rfl,rfl,rfl,rfl,rfl,rfl,by simp,by simp,by simp,by simp,by simp,by simp⟩
 ·intros;rfl
 ·intro p _;simp
 ·intro p _;simp
 ·intro b;simp
theorem M:(∀{f:SE} {σ:DS} {st:Store} {Q:Option Int->Store->Prop},WP (pSome f σ st) Q=WP (f σ st) (fun v st1=>∃i,v=.int i/\Q (some i) st1))
 /\ (∀{σ:DS} {st:Store} {Q:Option Int->Store->Prop},WP (pNone σ st) Q=Q none st)
 /\ (∀{f:SE} {lo hi:DS->Store->Res (Option Int)} {σ:DS} {st:Store} {Q:D->Store->Prop},WP (eSl f lo hi σ st) Q=WP (f σ st) (fun x st1=>WP (lo σ st1) (fun l st2=>WP (hi σ st2) (fun h st3=>(∃xs,x=.tup xs/\Q (.tup (cutD xs l h)) st3)\/(∃xs,asL st3 x=some xs/\Q (.lst (cutD xs l h)) st3)))))
 /\ (∀{f:SE} {σ:DS} {st:Store} {Q:D->Store->Prop},WP (eFz f σ st) Q=WP (f σ st) (fun x st1=>∃n xs,x=.ref n/\st1[n]?=some (.lst xs)/\Q (.lst xs) (st1.set n .dead)))
 /\ (∀{f g h:SE} {σ:DS} {st:Store} {Q:Fl->Store->Prop},WP (sSetIx f g h σ st) Q=WP (h σ st) (fun v st1=>WP (f σ st1) (fun x st2=>WP (g σ st2) (fun y st3=>∃n k xs j,x=.ref n/\y=.int k/\st3[n]?=some (.lst xs)/\ixN xs.length k=some j/\Q (.nx σ) (st3.set n (.lst (xs.set j v)))))))
 /\ (∀{f:SE} {g:SA} {σ:DS} {st:Store} {Q:D->Store->Prop},WP (eAppend f g σ st) Q=WP (f σ st) (fun x st1=>∃n xs0,x=.ref n/\st1[n]?=some (.lst xs0)/\WP (g σ st1) (fun ys st2=>∃y xs,ys=[y]/\st2[n]?=some (.lst xs)/\xs.length < sizeLine/\Q .non (st2.set n (.lst (xs++[y]))))))
 /\ (∀{x:D} {st:Store} {Q:D->Store->Prop},WP (bSum [x] st) Q=∃ns,(seqOf st x).bind asInts=some ns/\Q (.int ns.sum) st)
 /\ (∀{x:D} {al:Bool} {st:Store} {Q:D->Store->Prop},WP (bAny al [x] st) Q=∃bs,(asL st x).bind asBools=some bs/\Q (.bl (if al then bs.all id else bs.any id)) st)
 /\ (∀{x:D} {gt:Bool} {st:Store} {Q:D->Store->Prop},WP (bBest gt [x] st) Q=∃n ns,(seqOf st x).bind asInts=some (n::ns)/\Q (.int (bestI gt n ns)) st)
 /\ (∀{g:SA} {σ:DS} {st:Store} {Q:List D->Store->Prop},WP (iZipT g σ st) Q=WP (g σ st) (fun xs st1=>∃a b,xs=[.tup a,.tup b]/\Q (pairsF a b) st1))
 /\ (∀{i:Nat} {g:D->D->Store->Res D} {f:SE} {σ:DS} {st:Store} {Q:Fl->Store->Prop},WP (sAug i g f σ st) Q=∃x,σ[i]?=some (some x)/\WP (f σ st) (fun y st1=>WP (g x y st1) (fun z st2=>Q (.nx (σ.set i (some z))) st2))):=by
 refine⟨?_,rfl,?_,?_,?_,?_,?_,?_,?_,?_,?_⟩
 ·intros;rw[zbdr,zm];congr;funext x st1
  cases x<;>simp[WP]
 ·intros;rw[zbnk,zm];congr;funext x st1;rw[zm];congr;funext l st2;rw[zm];congr;funext h st3
  apply propext;split
  ·constructor
   ·intro q;exact .inl ⟨_,rfl,q⟩
   ·rintro(⟨xs,e,q⟩ | ⟨xs,e,q⟩)
    ·cases e;exact q
    ·cases e
  ·rename_i hne;constructor
   ·intro q;split at q
    ·rename_i xs e;exact .inr ⟨xs,e,q⟩
    ·exact q.elim
   ·rintro(⟨xs,e,q⟩ | ⟨xs,e,q⟩)
    ·exact absurd e (hne xs)
    ·rw[e];exact q
 ·intros;rw[zbnn,zm];congr;funext x st1
  apply propext;constructor
  ·intro q;split at q
   ·split at q
    ·rename_i xs e;exact⟨_,xs,rfl,e,q⟩
    ·exact q.elim
   ·exact q.elim
  ·rintro⟨n,xs,rfl,e,q⟩;dsimp only;rw[e];exact q
 ·intros;rw[zyo,zm];congr;funext v st1;rw[zm];congr;funext x st2;rw[zm];congr;funext y st3
  apply propext;constructor
  ·intro q;split at q
   ·split at q
    ·split at q
     ·exact⟨_,_,_,_,rfl,rfl,by assumption,by assumption,q⟩
     ·exact q.elim
    ·exact q.elim
   ·exact q.elim
  ·rintro⟨n,k,xs,j,rfl,rfl,e1,e2,q⟩;dsimp only;rw[e1];dsimp only;rw[e2];exact q
 ·intros;rw[zpj,zm];congr;funext x st1
  apply propext;constructor
  ·intro q;split at q
   ·rename_i n xs0 e;rw[zm] at q;have e':st1[n]?=some (.lst xs0):=by
     unfold asL at e;dsimp only at e;split at e
     ·cases e;assumption
     ·cases e
    refine⟨n,xs0,rfl,e',q.mono fun ys st2 h=>?_⟩;split at h
    ·split at h
     ·exact⟨_,_,rfl,by assumption,by assumption,h⟩
     ·exact h.elim
    ·exact h.elim
   ·exact q.elim
  ·rintro⟨n,xs0,rfl,e,q⟩;rw[zhe e];dsimp only;rw[zm];refine q.mono fun ys st2 h=>?_
   obtain⟨y,xs,rfl,e2,hl,h⟩:=h;rw[e2];dsimp only;rw[if_pos hl];exact h
 ·intro x st Q;unfold bSum;dsimp only;cases h:(seqOf st x).bind asInts with
  | none=>simp[WP]
  | some ns=>simp[WP]
 ·intro x al st Q;unfold bAny;dsimp only;cases h:(asL st x).bind asBools with
  | none=>simp[WP]
  | some ns=>simp[WP]
 ·intro x gt st Q;unfold bBest;dsimp only;cases h:(seqOf st x).bind asInts with
  | none=>simp[WP]
  | some ns =>
   cases ns with
   | nil=>simp[WP]
   | cons n ns =>
    apply propext;constructor
    ·intro q;exact⟨_,_,rfl,q⟩
    ·rintro⟨a,b,e,q⟩;cases e;exact q
 ·intro g σ st Q;unfold iZipT;rw[zm];congr;funext x st1
  apply propext;constructor
  ·intro q;split at q
   ·exact⟨_,_,rfl,q⟩
   ·exact q.elim
  ·rintro⟨a,b,rfl,q⟩;exact q
 ·intro i g f σ st Q;rw[zbig];apply propext;constructor
  ·intro q;split at q
   ·rename_i x e;rw[zm] at q;exact⟨x,e,q.mono fun y st1 h=>by rw[zm] at h;exact h⟩
   ·exact q.elim
  ·rintro⟨x,e,q⟩;rw[e];dsimp only;rw[zm];exact q.mono fun y st1 h=>by rw[zm];exact h
section
variable {st:Store}{n:Nat}{Q:D->Store->Prop}
theorem zwu {m:Int}(hb:BagAt st n)(h1:1<=m)(h2:m<=1000000)(k:∀r st',0<=r->r < m->Drew st st' n->Q (.int r) st'):WP (zw [.ref n,.int m] st) Q:=by
 obtain⟨r,st',e,a1,a2,a3,_⟩:=zls hb h1 (xkg h2 (by decide +kernel));exact WP.of e (k r st' a1 a2 a3)
theorem zbmf {x:D}{xs:List D}{i:Int}{d:D}(h:seqOf st x=some xs)(h2:L2.atI xs i=some d)(q:Q d st):WP (oIx x (.int i) st) Q:=WP.of (zkp h h2) q
theorem zbgy {ns:List Int}{i:Nat}(hl:ns.length<=63)(hi:i<=100000)(k:∀g,BagAt (st++g) st.length->Q (.ref st.length) (st++g)):WP (zeh [.scr (ns.map .int),.int i] st) Q:=by
 obtain⟨c,x,hc,hx,e⟩:=zblk (st:=st) hl hi;exact WP.of e (k _ ⟨c,x,by simp,hc,hx⟩)
end
end Dd
namespace Dd
open PySem L2 K07 K23
noncomputable def placesL (r:List Int):List Nat:=(List.range (r.length - 1)).filter fun p=>decide (slowAt r p)
noncomputable abbrev plD (l:List Nat):List D:=l.map fun(p:Nat)=>D.int (p:Int)
theorem zfy {r:List Int}{p:Nat}:p∈placesL r↔slowAt r p:=by
 unfold placesL;rw[xcq,xcf,xfj];refine⟨fun h=>h.2,fun h=>⟨?_,h⟩⟩;obtain⟨a,b,_,e,_⟩:=h;have:=(xbc.mp e).1;lia
theorem zdc {st:Store}{r:List Int}(hl:r.length<=1000):zbe [aL r] st=.ok (.lst (plD (placesL r))) st:=by
 have W:=zhd (bd:=gN 0) (c:=eB (aS oLtT (aS oIx (aA 1) (aA 0)) (aS oMulI (eC (.int 2)) (aS oIx (aA 1) (aS aM (aA 0) (eC (.int 1))))))) (f:=aA 0) (xs:=rng 0 (r.length - 1)) (σ:=[none,some (aL r)]) (st:=st)
  (fun i acc σ s=>s=st/\(∃w:Option D,σ=[w,some (aL r)])/\acc=plD ((List.range i).filter fun p=>decide (slowAt r p))) ⟨rfl,⟨none,rfl⟩,rfl⟩ (by
   rintro i y acc σ s hy ⟨rfl,⟨w,rfl⟩,rfl⟩;obtain⟨hi,rfl⟩:=znd hy;have g1:r[i]?=some r[i]:=xbe (by lia);have g2:r[i+1]?=some r[i+1]:=xbe (by lia);have e3:=zfw (st:=s) g1;have e4:=zfw (st:=s) g2;rw[xft] at e4;generalize hA:r[i]=a at *
   generalize hB:r[i+1]=b at *
   have e6:decide (a < 2 * b)=decide (slowAt r i):=by
    rw[xeo,xfj,xfj];exact⟨fun z=>⟨_,_,g1,g2,z⟩,fun⟨x,y,z1,z2,z⟩=>by rw[g1] at z1;rw[g2] at z2;cases z1;cases z2;exact z⟩
   have m:CMul 2 b:=.inl ⟨by decide,by decide⟩;refine⟨[some (.int (0+i)),some (aL r)],decide (slowAt r i),s,rfl,?_,?_⟩
   ·rw[← e6,xgu];generalize hI:(i:Int)=I at *
    simp at e4;clear g1 g2 hA hB e6 hi hy hl hI;simp only[aL] at *
    generalize D.tup (r.map D.int)=R at *
    simp[e3,e4,m]
   ·rw[xhi,xdq];by_cases c:slowAt r i
    ·refine .inr ⟨xbw c,.int (0+i),s,rfl,rfl,⟨_,rfl⟩,?_⟩;simp[plD,c]
    ·refine .inl ⟨xbu c,rfl,⟨_,rfl⟩,?_⟩
     simp[plD,c])
 obtain⟨ys,σ',st',e,rfl,_,rfl⟩:=W;rw[zbh] at e;refine zdl rfl ?_;have hr:RngOk ((r.length:Int) - 1):=rngN (by lia) (by lia);have hln:(rng 0 (r.length - 1)).length<=sizeLine:=by rw[zbh];exact small _ (by lia)
 have e1:iR1 (aB (aS oSub (aE bLen (aB (aA 0) aC)) (eC (.int 1))) aC) [some (aL r)] st'=.ok (rng 0 (r.length - 1)) st':=by
  have e2:=zob (st:=st') (r:=r);have e3:((r.length:Int) - 1).toNat=r.length - 1:=by lia
  generalize (r.length:Int)=N at *
  simp only[aL] at *
  generalize D.tup (r.map D.int)=R at *
  simp[e2,hr,e3]
 show sRet _ [some (aL r)] st'=_;rw[zlx,zgd,e1,zl,if_pos hln];show((compF _ _ _ _ [none,some (aL r)] st').bind _).bind _=_;rw[e]
 rfl
theorem zii {st:Store}{l:List (List Int)}(hr:∀r∈l,r.length<=1000):zbg [aK l,aK l] st=.ok (.bl true) st:=by
 have W:=zlb (bd:=gN 2) (body:=zcr) (xs:=aJ l) (σ:=[some (aK l),some (aK l),none]) (st:=st) (fun i σ s=>s=st/\∃v,σ=[some (aK l),some (aK l),v]) ⟨rfl,none,rfl⟩ (by
   rintro i y σ s hy ⟨rfl,v,rfl⟩;obtain⟨r,hk,rfl⟩:=zbr hy;have hrl:=hr r (xbo hk);have V:=zhd (bd:=gN 0) (c:=aI) (f:=eOr (eNot (aE bIsinst (aB (aA 0) (aB (eC (.ty "int")) aC)))) (aE bIsinst (aB (aA 0) (aB (eC (.ty "bool")) aC)))) (xs:=r.map D.int) (σ:=[none]) (st:=s)
    (fun i acc σ s'=>s'=s/\(∃v,σ=[v])/\acc=(r.take i).map fun _=>D.bl false) ⟨rfl,⟨none,rfl⟩,rfl⟩ (by
     rintro i y acc σ s' hy ⟨rfl,⟨v,rfl⟩,rfl⟩;rw[xcd] at hy;cases hx:r[i]? with
     | none=>rw[hx] at hy;cases hy
     | some x =>
      rw[hx] at hy;cases hy;refine⟨[some (.int x)],true,s',rfl,rfl,.inr ⟨rfl,.bl false,s',rfl,rfl,⟨_,rfl⟩,?_⟩⟩;rw[zv hx]
      simp)
   obtain⟨ys,σ',st',e,rfl,_,rfl⟩:=V;rw[zer,xct] at e;have ec:aG (aH (aA 2)) 1 [] (gN 0) aI (eOr (eNot (aE bIsinst (aB (aA 0) (aB (eC (.ty "int")) aC)))) (aE bIsinst (aB (aA 0) (aB (eC (.ty "bool")) aC)))) [some (aK l), some (aK l), some (aL r)] st'=.ok (.lst (r.map fun _=>D.bl false)) st':=by
    rw[zgd];show(if(r.map D.int).length<=sizeLine then _ else _)=_;rw[if_pos (by rw[zer];exact small _ (by lia))];show((compF _ _ _ _ [none] _).bind _)=_;rw[e]
    rfl
   have eb:bAny false [.lst (r.map fun _=>D.bl false)] st'=.ok (.bl false) st':=by
    have:asBools (r.map fun _=>D.bl false)=some (r.map fun _=>false):=by
     clear e ec hrl hk hy
     induction r with
     | nil=>rfl
     | cons a r ih=>rw[xbp,asBools,ih];rfl
    unfold bAny;simp[this]
   refine⟨[some (aK l),some (aK l),some (aL r)],[some (aK l),some (aK l),some (aL r)],st',rfl,?_,rfl,_,rfl⟩;unfold zcr;have t1:bNot (eTru (aE bIsinst (aB (aA 2) (aB (eC (.ty "tuple")) aC)))) [some (aK l), some (aK l), some (aL r)] st'=.ok false st':=rfl
   have t2:eTru (aE (bAny false) (aB (aG (aH (aA 2)) 1 [] (gN 0) aI (eOr (eNot (aE bIsinst (aB (aA 0) (aB (eC (.ty "int")) aC)))) (aE bIsinst (aB (aA 0) (aB (eC (.ty "bool")) aC))))) aC)) [some (aK l), some (aK l), some (aL r)] st'=.ok false st':=by
    rw[zqu,zde,zew,ec];show((bAny false [.lst (r.map fun _=>D.bl false)] st').bind _)=_;rw[eb]
    rfl
   rw[zro,zblm,t1,zl,if_neg (by decide),t2]
   rfl)
 obtain⟨σ',st',e,rfl,v,rfl⟩:=W;refine zdl rfl ?_;refine seqN (σ1:=[some (aK l),some (aK l),none]) (st1:=st') ?_ ?_
 ·have t1:bNot (eTru (aE bIsinst (aB (aA 0) (aB (eC (.ty "tuple")) aC)))) [some (aK l), some (aK l), none] st'=.ok false st':=rfl
  have t2:eB (aS oNe (aA 0) (aA 1)) [some (aK l),some (aK l),none] st'=.ok false st':=by
   rw[eB_v,zbhm];show((oNe (aK l) (aK l) st').bind _)=_;rw[show oNe (aK l) (aK l) st'=_ from zbec l l];simp
  show sIf _ _ _ [some (aK l),some (aK l),none] st'=_;rw[zro,zblm,t1,zl,if_neg (by decide),t2]
  rfl
 refine seqN (σ1:=[some (aK l),some (aK l),v]) (st1:=st') ?_ rfl;rw[zux];exact e
noncomputable def momR:Int->List Int->Int
 | _,[]=>0
 | n,x::xs=>n * x+momR (n+1) xs
theorem zdo:∀(a b:List Int) (n:Int),momR n (a++b)=momR n a+momR (n+a.length) b
 | [],b,n=>by simp[momR]
 | x::a,b,n=>by
  rw[List.cons_append,momR,momR,zdo a b (n+1),xbv,show n+1+(a.length:Int)=n+((a.length+1:Nat):Int) by push_cast;lia];lia
theorem zxk:∀(a:List Int) (n:Int),momR (n+1) a=momR n a+a.sum
 | [],n=>by simp[momR]
 | x::a,n=>by
  rw[momR,momR,zxk a (n+1),xgn,xie];lia
noncomputable def prodL:Int->List Int->List Int
 | _,[]=>[]
 | n,x::xs=>n * x::prodL (n+1) xs
theorem zkj:∀(a:List Int) (n:Int),(prodL n a).sum=momR n a
 | [],n=>rfl
 | x::a,n=>by rw[prodL,xgn,zkj a,momR]
theorem zlz:∀(a:List Int) (x n:Int),prodL n (a++[x])=prodL n a++[(n+a.length) * x]
 | [],x,n=>by simp[prodL]
 | y::a,x,n=>by
  rw[List.cons_append,prodL,prodL,zlz a x (n+1),xbv,show n+1+(a.length:Int)=n+((a.length+1:Nat):Int) by push_cast;lia]
  rfl
theorem zbbq {st:Store}{ns:List Int}:bSum [.lst (ns.map .int)] st=.ok (.int ns.sum) st:=by
 unfold bSum
 show(match ((some (ns.map D.int)).bind asInts) with
  | some ns=>Res.ok (D.int ns.sum) st
  | none=>.stuck)=_
 rw[Option.bind_some,zgg]
theorem zbem {s:Store}{I x:Int}(m:CMul I x):aS oMulI (aA 0) (aA 1) [some (.int I),some (.int x)] s=.ok (.int (I * x)) s:=by simp[m]
theorem mo_g {I x:Int}{v w:Option D}:gT 2 (gsCons (gN 0) (gsCons (gN 1) gsNil)) (.tup [.int I,.int x]) [v,w]=some [some (.int I),some (.int x)]:=rfl
theorem zben {st:Store}{r:List Int}(hr:∀x∈r,-10000<=x/\x<=10000):compF (gT 2 (gsCons (gN 0) (gsCons (gN 1) gsNil))) aI (aS oMulI (aA 0) (aA 1)) (numF 1 (r.map .int)) [none,none] st=.ok ((prodL 1 r).map D.int) st:=by
 have W:=zhd (bd:=gT 2 (gsCons (gN 0) (gsCons (gN 1) gsNil))) (c:=aI) (f:=aS oMulI (aA 0) (aA 1)) (xs:=numF 1 (r.map .int)) (σ:=[none,none]) (st:=st)
  (fun i acc σ s=>s=st/\(∃v w:Option D,σ=[v,w])/\acc=(prodL 1 (r.take i)).map D.int) ⟨rfl,⟨none,none,rfl⟩,rfl⟩ (by
   rintro i y acc σ s hy ⟨rfl,⟨v,w,rfl⟩,rfl⟩;obtain⟨d,h1,rfl⟩:=znp hy;rw[xcd] at h1;obtain⟨x,hx,rfl⟩:=xcv.mp h1;have hb:=hr x (xbo hx);have hi:=(xbc.mp hx).1;have m:CMul (1+(i:Int)) x:=mulR hb.1 hb.2;refine⟨[some (.int (1+(i:Int))),some (.int x)],true,s,mo_g,rfl,.inr ⟨rfl,.int ((1+(i:Int)) * x),s,zbem m,rfl,⟨_,_,rfl⟩,?_⟩⟩;rw[zv hx,zlz,xdt,xcx,xdx (by lia)]
   simp)
 obtain⟨ys,σ',st',e,rfl,_,rfl⟩:=W;rw[zfb,xbd,xct] at e;exact e
theorem zvr {st:Store}{r:List Int}(hl:r.length<=1000)(hr:∀x∈r,-10000<=x/\x<=10000):zfo [aL r] st=.ok (.int (momR 1 r)) st:=by
 have e:=zben (st:=st) hr;refine zdl rfl ?_;have hln:(numF 1 (r.map D.int)).length<=sizeLine:=by rw[zfb,xbd];exact small _ (by lia)
 have e1:iEnum (aA 0) [some (aL r)] st=.ok (numF 1 (r.map D.int)) st:=rfl;have e2:aG (iEnum (aA 0)) 2 [] (gT 2 (gsCons (gN 0) (gsCons (gN 1) gsNil))) aI (aS oMulI (aA 0) (aA 1)) [some (aL r)] st=.ok (.lst ((prodL 1 r).map D.int)) st:=by
  rw[zgd,e1,zl,if_pos hln];show((compF _ _ _ _ [none,none] st).bind _)=_;rw[e]
  rfl
 show sRet _ [some (aL r)] st=_;rw[zlx,zde,zew,e2,zl,zbhe,zl,zl,zbbq,zl,zkj]
theorem zve {st:Store}{r:List Int}(hl:r.length<=1000):ziw [aL r] st=.ok (.lst (plD (placesL r))) st:=by
 have W:=zhd (bd:=gN 0) (c:=eTru (aE zbx (aB (aA 1) (aB (aA 0) aC)))) (f:=aA 0) (xs:=rng 0 (r.length - 1)) (σ:=[none,some (aL r)]) (st:=st)
  (fun i acc σ s=>s=st/\(∃w:Option D,σ=[w,some (aL r)])/\acc=plD ((List.range i).filter fun p=>decide (slowAt r p))) ⟨rfl,⟨none,rfl⟩,rfl⟩ (by
   rintro i y acc σ s hy ⟨rfl,⟨w,rfl⟩,rfl⟩;obtain⟨hi,rfl⟩:=znd hy;rw[xgu];refine⟨[some (.int i),some (aL r)],decide (slowAt r i),s,rfl,?_,?_⟩
   ·rw[zqu,zde];show((zbx [aL r,.int i] s).bind _)=_;rw[zjx,xgo,show decide (0<=(i:Int)/\slowAt r i)=decide (slowAt r i) by simp]
    rfl
   ·rw[xhi,xdq];by_cases c:slowAt r i
    ·refine .inr ⟨xbw c,.int i,s,rfl,rfl,⟨_,rfl⟩,?_⟩;simp[plD,c]
    ·refine .inl ⟨xbu c,rfl,⟨_,rfl⟩,?_⟩
     simp[plD,c])
 obtain⟨ys,σ',st',e,rfl,_,rfl⟩:=W;rw[zbh] at e;refine zdl rfl ?_;have hr:RngOk ((r.length:Int) - 1):=rngN (by lia) (by lia);have hln:(rng 0 (r.length - 1)).length<=sizeLine:=by rw[zbh];exact small _ (by lia)
 have e1:iR1 (aB (aS oSub (aE bLen (aB (aA 0) aC)) (eC (.int 1))) aC) [some (aL r)] st'=.ok (rng 0 (r.length - 1)) st':=by
  have e2:=zob (st:=st') (r:=r);have e3:((r.length:Int) - 1).toNat=r.length - 1:=by lia
  generalize (r.length:Int)=N at *
  simp only[aL] at *
  generalize D.tup (r.map D.int)=R at *
  simp[e2,hr,e3]
 show sRet _ [some (aL r)] st'=_;rw[zlx,zgd,e1,zl,if_pos hln];show((compF _ _ _ _ [none,some (aL r)] st').bind _).bind _=_;rw[e]
 rfl
theorem zsq {r z:List Int}{p:Nat}(hp:∀x∈r,1<=x)(hs:slowAt r p)(hz:z∈exRow r p):momR 1 z < momR 1 r:=by
 obtain⟨a,b,g1,g2,hab⟩:=hs;have l1:p+1 < r.length:=(xbc.mp g2).1;have hb:=hp b (xbo g2);have ha:=hp a (xbo g1);unfold exRow at hz;obtain⟨two,h2,rfl⟩:=xcb.mp hz;have h3:=(zbb _).mem_iff.mp h2;rw[xbg,g1,xbg,g2] at h3;simp only[xku] at h3;unfold rowsL at h3;obtain⟨c,h4,h5⟩:=xcb.mp h3;have h6:c < (a / 2+1).toNat:=xcf.mp (xcq.mp h4).1;have hr:r=r.take p++[a,b]++r.drop (p+2):=by
  have e1:r.drop p=a::r.drop (p+1):=by
   rw[xcw (by lia)]
   congr 1
   exact(xbc.mp g1).2
  have e2:r.drop (p+1)=b::r.drop (p+2):=by
   rw[xcw (by lia)]
   congr 1
   exact(xbc.mp g2).2
  calc r=r.take p++r.drop p:=(xel p r).symm
   _=_:=by rw[e1,e2];simp
 have hd:0<=(r.drop (p+2)).sum:=zcd fun x hx=>hp x (xgr hx)
 have key:momR 1 (r.take p++two++r.drop (p+2)) < momR 1 (r.take p++[a,b]++r.drop (p+2)):=by
  rw[xck,xck,zdo,zdo (r.take p)];generalize (1:Int)+((r.take p).length:Int)=N;rw[zdo,zdo];generalize r.drop (p+2)=d at hd;rw[← h5];unfold rowC;split
  ·rename_i hc;simp only[momR,xbv,xhh];rw[Int.mul_sub,xkb,xie,xie];lia
  ·rename_i hc;have:(c:Int)=0:=by lia
   simp only[momR,xbv,xhh];have e:=zxk d (N+1);rw[show N+((0+1+1:Nat):Int)=N+1+1 by push_cast;lia,show N+((0+1:Nat):Int)=N+1 by push_cast;lia,e,xkb,xie];lia
 rw[← hr] at key;exact key
end Dd
namespace Dd
open PySem L2
theorem zpg {α:Type}(l:List α):(l.filter fun _=>true)=l:=xjx.mpr (by simp)
section
variable {st:Store}{n:Nat}{Q:D->Store->Prop}
end
section
variable {k:Nat}{d:D}{st:Store}
end
section
variable {k:Nat}{d:D}{st:Store}{Q:D->Store->Prop}
end
section
variable {k:Nat}{d:D}{st:Store}{Q:D->Store->Prop}
end
section
variable {st:Store}{n:Nat}{Q:D->Store->Prop}
end
section
variable {st:Store}{n:Nat}{Q:D->Store->Prop}
end
section
variable {k:Nat}{d:D}{st:Store}
end
section
variable {st:Store}{Q:D->Store->Prop}
end
section
variable {st:Store}{k:Nat}{d:D}{m:Int}{Q:D->Store->Prop}
end
end Dd
namespace Dd
open PySem L2 K07 K23
theorem zgc {r:List Int}{p:Nat}{m:Int}{L:Nat}(h:RowOk r m L)(hs:slowAt r p):∀z∈exRow r p,RowOk z m L:=fun z hz=>by
 obtain⟨a,b,g1,g2,hab⟩:=hs;have l1:p+1 < r.length:=(xbc.mp g2).1;have hb:=h.pos b (xbo g2);have ha:=h.pos a (xbo g1);unfold exRow at hz;obtain⟨two,h2,rfl⟩:=xcb.mp hz;have h3:=(zbb _).mem_iff.mp h2;rw[xbg,g1,xbg,g2] at h3;simp only[xku] at h3;unfold rowsL at h3;obtain⟨c,h4,h5⟩:=xcb.mp h3;have h6:c < (a / 2+1).toNat:=xcf.mp (xcq.mp h4).1;have hr:r=r.take p++[a,b]++r.drop (p+2):=by
  have e1:r.drop p=a::r.drop (p+1):=by
   rw[xcw (by lia)]
   congr 1
   exact(xbc.mp g1).2
  have e2:r.drop (p+1)=b::r.drop (p+2):=by
   rw[xcw (by lia)]
   congr 1
   exact(xbc.mp g2).2
  calc r=r.take p++r.drop p:=(xel p r).symm
   _=_:=by rw[e1,e2];simp
 have t1:two.sum=a+b/\(∀x∈two,1<=x)/\two.length<=2:=by
  rw[← h5];unfold rowC;split
  ·rename_i hc;refine⟨by simp<;>lia,fun x hx=>?_,by simp⟩;simp only[xbr,xkt,or_false] at hx;rcases hx with rfl | rfl<;>lia
  ·rename_i hc;refine⟨by simp<;>lia,fun x hx=>?_,by simp⟩;simp only[xbr,xkt,or_false] at hx;subst hx;lia
 have hsum:r.sum=(r.take p).sum+(a+b)+(r.drop (p+2)).sum:=by
  conv=>lhs;rw[hr]
  simp[xfs];lia
 refine⟨fun x hx=>?_,?_,?_⟩
 ·rcases xcg.mp hx with hx | hx
  ·rcases xcg.mp hx with hx | hx
   ·exact h.pos x (xgs hx)
   ·exact t1.2.1 x hx
  ·exact h.pos x (xgr hx)
 ·have:=h.sum;rw[xfs,xfs,t1.1];lia
 ·have h7:=h.len;rw[xbq,xbq,xcx,xev];have:=t1.2.2;lia
theorem zyq {r:List Int}{m:Int}{L:Nat}(h:RowOk r m L):∀x∈r,1<=x/\x<=m:=fun x hx=>by
 refine⟨h.pos x hx,?_⟩;have:∀{r:List Int},(∀y∈r,1<=y)->∀x∈r,x<=r.sum:=fun {r}=>by
  induction r with
  | nil=>intro _ x hx;cases hx
  | cons a r ih =>
   intro h x hx;have h1:=h a (by simp);have h2:0<=r.sum:=zcd fun y hy=>h y (xbi _ hy)
   rw[xgn];rcases xbr.mp hx with rfl | hx
   ·lia
   ·have:=ih (fun y hy=>h y (xbi _ hy)) x hx;lia
 exact xks (this h.pos x hx) h.sum
theorem zri {r:List Int}{m:Int}{L p:Nat}(h:RowOk r m L)(hs:slowAt r p):(1<=r.getD p 0/\r.getD p 0<=m)/\(1<=r.getD (p+1) 0/\r.getD (p+1) 0<=m):=by
 obtain⟨a,b,g1,g2,_⟩:=hs;rw[xbg,g1,xbg,g2];exact⟨zyq h a (xbo g1),zyq h b (xbo g2)⟩
noncomputable abbrev Lv:=List (Int×Nat×List (List Int))
noncomputable def lvD (lv:Lv):List (Int×D):=lv.map fun q=>(q.1,.ref q.2.1)
structure LvAt (st:Store) (L:Nat) (lv:Lv):Prop where
 at_:st[L]?=some (.dI (lvD lv))
 in_:∀q∈lv,st[q.2.1]?=some (.dT (aQ q.2.2))
 nd:(lv.map (·.1)).Nodup
 ix:(lv.map (·.2.1)).Nodup
 rows:∀q∈lv,q.2.2.Nodup
noncomputable def flipLv (n:Nat) (r:List Int):Lv->Lv
 | []=>[(momR 1 r,n,[r])]
 | q::lv=>if q.1=momR 1 r then(q.1,q.2.1,aP q.2.2 r)::lv else q::flipLv n r lv
theorem zrb {lv:Lv}{m:Int}:valI (lvD lv) m=(lv.find? fun q=>decide (q.1=m)).map fun q=>D.ref q.2.1:=by
 induction lv with
 | nil=>rfl
 | cons q lv ih =>
  by_cases e:q.1=m
  ·simp[valI,lvD,e]
  ·have e1:valI (lvD (q::lv)) m=valI (lvD lv) m:=by simp[valI,lvD,e]
   rw[e1,ih,List.find?_cons_of_neg (by simpa using e)]
theorem zka {n:Nat}{r:List Int}:∀{lv:Lv},(∀q∈lv,q.1≠momR 1 r)->flipLv n r lv=lv++[(momR 1 r,n,[r])]
 | [],_=>rfl
 | q::lv,h=>by
  unfold flipLv;rw[if_neg (h q (by simp)),zka fun x hx=>h x (xbi _ hx)]
  rfl
theorem zjz {n:Nat}{r:List Int}:∀{lv:Lv} {q:Int×Nat×List (List Int)},(lv.map (·.1)).Nodup->q∈lv->q.1=momR 1 r->flipLv n r lv=lv.map fun x=>if x.1=momR 1 r then(x.1,x.2.1,aP x.2.2 r) else x
 | [],q,_,h,_=>by cases h
 | x::lv,q,nd,h,e=>by
  rw[xbp,xdo] at nd;unfold flipLv;rw[xbp];by_cases c:x.1=momR 1 r
  ·rw[if_pos c,if_pos c]
   congr 1
   symm
   refine(xes (g:=id) fun y hy=>?_).trans (List.map_id _);rw[if_neg fun z=>nd.1 (xcb.mpr ⟨y,hy,z.trans c.symm⟩)]
   rfl
  ·rw[if_neg c,if_neg c];rcases xbr.mp h with rfl | h
   ·exact absurd e c
   ·rw[zjz nd.2 h e]
section
variable {σ:DS}{st st2:Store}{f:SE}{g:SA}{L:Nat}{k:Int}{d v:D}{kv0 kvs:List (Int×D)}
theorem zrl (hf:f σ st=.ok (.ref L) st)(h0:st[L]?=some (.dI kv0))(hg:g σ st=.ok [.int k,d] st2)(h1:st2[L]?=some (.dI kvs))(hl:kvs.length < sizeLine)(hv:valI kvs k=some v):eSetDI f g σ st=.ok v st2:=by
 unfold eSetDI;rw[hf,zl];dsimp only;rw[h0];dsimp only;rw[hg,zl]
 try dsimp only
 rw[h1]
 try dsimp only
 rw[if_pos hl,hv]
theorem zrm (hf:f σ st=.ok (.ref L) st)(h0:st[L]?=some (.dI kv0))(hg:g σ st=.ok [.int k,d] st2)(h1:st2[L]?=some (.dI kvs))(hl:kvs.length < sizeLine)(hv:valI kvs k=none):eSetDI f g σ st=.ok d (st2.set L (.dI (putI kvs k d))):=by
 unfold eSetDI;rw[hf,zl];dsimp only;rw[h0];dsimp only;rw[hg,zl]
 try dsimp only
 rw[h1]
 try dsimp only
 rw[if_pos hl,hv]
end
theorem zso {α β:Type}{f:α->β}:∀{l:List α},(l.map f).Nodup->∀{x y:α},x∈l->y∈l->f x=f y->x=y
 | [],_,x,y,hx,_,_=>by cases hx
 | a::l,nd,x,y,hx,hy,e=>by
  rw[xbp,xdo] at nd;rcases xbr.mp hx with h1 | h1
  ·rcases xbr.mp hy with h2 | h2
   ·rw[h1,h2]
   ·exact absurd (xcb.mpr ⟨y,h2,by rw[← e,h1]⟩) nd.1
  ·rcases xbr.mp hy with h2 | h2
   ·exact absurd (xcb.mpr ⟨x,h1,by rw[e,h2]⟩) nd.1
   ·exact zso nd.2 h1 h2 e
theorem zhc {st:Store}{L:Nat}{lv:Lv}{r:List Int}{Q:D->Store->Prop}(h:LvAt st L lv)(hl:r.length<=1000)(hr:∀x∈r,-10000<=x/\x<=10000)(hz:lv.length<=10000)(hk:∀q∈lv,q.2.2.length<=100000)
  (k:∀s,LvAt s L (flipLv st.length r lv)->(∀i,i < st.length->i≠L->(∀q∈lv,q.2.1≠i)->s[i]?=st[i]?)->st.length<=s.length->Q .non s):WP (zck [.ref L,aL r] st) Q:=by
 refine zud rfl ?_;simp only[W,V,M];have em:=zvr (st:=st) hl hr;have eg:aB (aE zfo (aB (aA 1) aC)) (aB eDNew aC) [some (.ref L),some (aL r)] st=.ok [.int (momR 1 r),.ref st.length] (st++[.dT []]):=by
  rw[zew,show aE zfo (aB (aA 1) aC) [some (.ref L),some (aL r)] st=.ok (.int (momR 1 r)) st from em]
  rfl
 have hL:=zh h.at_;have keep:∀{i:Nat} {o:O},st[i]?=some o->(st++[O.dT []])[i]?=some o:=fun e=>by rw[xbs (zh e)];exact e
 have hlen:(lvD lv).length < sizeLine:=by unfold lvD;rw[xbd];exact smallT _ (by lia)
 cases hf:lv.find? fun q=>decide (q.1=momR 1 r) with
 | some q =>
  have hq:=xkl hf;have hqm:q.1=momR 1 r:=by simpa using List.find?_some hf
  have hqL:q.2.1≠L:=fun z=>by have:=h.in_ q hq;rw[z,h.at_] at this;cases this
  refine WP.of (zrl rfl h.at_ eg (keep h.at_) hlen (by rw[zrb,hf];rfl)) ?_;refine WP.of (zpd (keep (h.in_ q hq)) (by have:=hk q hq;lia)) (k _ ?_ (fun i hi hiL hiq=>?_) (by rw[xcp,xbq];lia))
  ·rw[zjz h.nd hq hqm];refine⟨?_,fun x hx=>?_,?_,?_,fun x hx=>?_⟩
   ·rw[xbl hqL,keep h.at_]
    congr 2
    unfold lvD;rw[xdl];refine(xes fun y hy=>?_).symm;simp only[Function.comp];split<;>rfl
   ·obtain⟨y,hy,rfl⟩:=xcb.mp hx;by_cases c:y.1=momR 1 r
    ·have hyq:y=q:=zso h.nd hy hq (c.trans hqm.symm);subst hyq;rw[if_pos c];exact zca (zh (keep (h.in_ y hy)))
    ·rw[if_neg c];have hne:q.2.1≠y.2.1:=fun z=>c (by rw[← zso h.ix hq hy z];exact hqm)
     rw[xbl hne];exact keep (h.in_ y hy)
   ·rw[xdl];have:(lv.map ((fun x=>x.1) ∘ fun x=>if x.1=momR 1 r then(x.1,x.2.1,aP x.2.2 r) else x))=lv.map (·.1):=xes fun y _=>by simp only[Function.comp];split<;>rfl
    rw[this];exact h.nd
   ·rw[xdl];have:(lv.map ((fun x=>x.2.1) ∘ fun x=>if x.1=momR 1 r then(x.1,x.2.1,aP x.2.2 r) else x))=lv.map (·.2.1):=xes fun y _=>by simp only[Function.comp];split<;>rfl
    rw[this];exact h.ix
   ·obtain⟨y,hy,rfl⟩:=xcb.mp hx;split
    ·exact zcb (h.rows y hy)
    ·exact h.rows y hy
  ·rw[xbl (hiq q hq),xbs hi]
 | none =>
  have hn:∀q∈lv,q.1≠momR 1 r:=fun q hq=>by simpa using List.find?_eq_none.mp hf q hq
  have hp:putI (lvD lv) (momR 1 r) (.ref st.length)=lvD (lv++[(momR 1 r,st.length,[r])]):=by
   unfold putI;rw[if_neg]
   ·unfold lvD;rw[xdt];rfl
   ·rw[Bool.not_eq_true,List.any_eq_false];intro x hx;obtain⟨y,hy,rfl⟩:=xcb.mp hx
    simpa using hn y hy
  have hLn:L≠st.length:=xce hL;refine WP.of (zrm rfl h.at_ eg (keep h.at_) hlen (by rw[zrb,hf];rfl)) ?_;rw[hp];have h3:((st++[O.dT []]).set L (.dI (lvD (lv++[(momR 1 r,st.length,[r])]))))[st.length]?=some (.dT (aQ [])):=by
   rw[xbl hLn,xco (xbf _),xin];rfl
  refine WP.of (zpd h3 (by simp)) (k _ ?_ (fun i hi hiL hiq=>?_) (by rw[xcp,xcp,xbq];lia))
  ·rw[zka hn,show aP [] r=[r] from rfl];have lt2:∀q∈lv,q.2.1 < st.length:=fun q hq=>zh (h.in_ q hq)
   refine⟨?_,fun x hx=>?_,?_,?_,fun x hx=>?_⟩
   ·rw[xbl hLn.symm,zca (by rw[xbq];lia)]
   ·rcases xcg.mp hx with hx | hx
    ·have h1:st.length≠x.2.1:=(xce (lt2 x hx)).symm;have h2:L≠x.2.1:=fun z=>by have:=h.in_ x hx;rw[← z,h.at_] at this;cases this
     rw[xbl h1,xbl h2];exact keep (h.in_ x hx)
    ·simp at hx;subst hx
     exact zca (zh h3)
   ·rw[xdt,xgq];refine⟨h.nd,by simp,fun a ha b hb=>?_⟩;obtain⟨y,hy,rfl⟩:=xcb.mp ha;simp at hb;subst hb
    exact hn y hy
   ·rw[xdt,xgq];refine⟨h.ix,by simp,fun a ha b hb=>?_⟩;obtain⟨y,hy,rfl⟩:=xcb.mp ha;simp at hb;subst hb
    exact xce (lt2 y hy)
   ·rcases xcg.mp hx with hx | hx
    ·exact h.rows x hx
    ·simp at hx;subst hx;simp
  ·rw[xbl (xce hi).symm,xbl hiL.symm,xbs hi]
noncomputable abbrev Lr:=List (Int×List (List Int))
noncomputable def lvR (lv:Lv):Lr:=lv.map fun q=>(q.1,q.2.2)
noncomputable def flipR (r:List Int):Lr->Lr
 | []=>[(momR 1 r,[r])]
 | q::lr=>if q.1=momR 1 r then(q.1,aP q.2 r)::lr else q::flipR r lr
theorem zkx {n:Nat}{r:List Int}:∀{lv:Lv},lvR (flipLv n r lv)=flipR r (lvR lv)
 | []=>rfl
 | q::lv=>by
  unfold flipLv;show _=flipR r ((q.1,q.2.2)::lvR lv);unfold flipR;dsimp only;split
  ·rfl
  ·show(q.1,q.2.2)::lvR (flipLv n r lv)=_;rw[zkx]
noncomputable def nuM:List Nat->Nat->Nat
 | [],_=>0
 | t::ts,v=>bif Nat.beq v 0 then 0 else Nat.xor (bif Nat.beq (v % 2) 1 then t else 0) (nuM ts (v / 2))
noncomputable def nuT:List (List Nat):=[[],[2,0,16,32,0,0,256,1024,0,8192,0,32768,65536,0,262144,0,0,4194304,0,16777216,67108864,134217728,0,536870912,0,2147483648,0,0,17179869184,0,68719476736,0,549755813888,1099511627776,0,4398046511104,0,35184372088832,70368744177664,0,0,562949953421312,0,2251799813685248,9007199254740992,0,0,72057594037927936,144115188075855872,0,576460752303423488,0,4611686018427387904,0,36893488147419103232,73786976294838206464,0,0,590295810358705651712,0,2361183241434822606848,4722366482869645213696,0,37778931862957161709568,75557863725914323419136,0,0,604462909807314587353088,1208925819614629174706176,0,4835703278458516698824704,0,0,0,0,0,0,0,0,0,0,0,0,0],[4,8,32,0,384,1024,3072,16384,16384,131072,0,262144,1048576,2097152,0,25165824,33554432,134217728,536870912,1610612736,2147483648,0,25769803776,34359738368,34359738368,0,687194767360,1099511627776,3298534883328,0,4398046511104,35184372088832,175921860444160,281474976710656,281474976710656,0,3377699720527872,18014398509481984,36028797018963968,18014398509481984,0,144115188075855872,576460752303423488,1729382256910270464,9223372036854775808,0,18446744073709551616,36893488147419103232,0,885443715538058477568,1180591620717411303424,1180591620717411303424,9444732965739290427392,18889465931478580854784,0,75557863725914323419136,755578637259143234191360,1208925819614629174706176,3626777458843887524118528,0,4835703278458516698824704,0,0,0,0,0,0,0,0,0,0,0,0,0,0,0,0,0,0,0,0,0,0,0],[16,32,0,0,1024,0,32768,262144,262144,4194304,0,0,67108864,134217728,0,536870912,2147483648,0,0,68719476736,0,0,1099511627776,4398046511104,4398046511104,0,35184372088832,0,562949953421312,0,0,0,72057594037927936,144115188075855872,144115188075855872,0,576460752303423488,36893488147419103232,73786976294838206464,36893488147419103232,0,0,0,2361183241434822606848,37778931862957161709568,0,75557863725914323419136,0,0,1208925819614629174706176,4835703278458516698824704,4835703278458516698824704,0,0,0,0,0,0,0,0,0,0,0,0,0,0,0,0,0,0,0,0,0,0,0,0,0,0,0,0,0,0,0,0],[64,128,512,4096,8192,65536,393216,1048576,29360128,167772160,603979776,1342177280,2147483648,27917287424,38654705664,85899345920,687194767360,2336462209024,4947802324992,15393162788864,140737488355328,369435906932736,598134325510144,1266637395197952,1688849860263936,27021597764222976,72057594037927936,153122387330596864,450359962737049600,72057594037927936,288230376151711744,36893488147419103232,184467440737095516160,322818021289917153280,332041393326771929088,147573952589676412928,590295810358705651712,170005193383307227693056,321120920835135874531328,151115727451828646838272,113336795588871485128704,151115727451828646838272,604462909807314587353088,7253554917687775048237056,0,0,0,0,0,0,0,0,0,0,0,0,0,0,0,0,0,0,0,0,0,0,0,0,0,0,0,0,0,0,0,0,0,0,0,0,0,0,0,0],[256,1024,8192,65536,0,0,4194304,67108864,536870912,2147483648,0,85899345920,0,1099511627776,4947802324992,0,35184372088832,598134325510144,0,2814749767106560,72057594037927936,153122387330596864,0,648518346341351424,576460752303423488,36893488147419103232,0,0,627189298506124754944,0,590295810358705651712,0,604462909807314587353088,1322262615203500659834880,1208925819614629174706176,604462909807314587353088,0,0,0,0,0,0,0,0,0,0,0,0,0,0,0,0,0,0,0,0,0,0,0,0,0,0,0,0,0,0,0,0,0,0,0,0,0,0,0,0,0,0,0,0,0,0,0,0],[2048,16384,131072,1048576,2097152,33554432,134217728,2147483648,25769803776,0,687194767360,7696581394432,0,35184372088832,175921860444160,3659174697238528,0,162129586585337856,594475150812905472,1873497444986126336,36893488147419103232,27670116110564327424,885443715538058477568,1217485108864830406656,2066035336255469780992,18889465931478580854784,755578637259143234191360,1227815285546107755560960,3626777458843887524118528,755578637259143234191360,3626777458843887524118528,0,0,0,0,0,0,0,0,0,0,0,0,0,0,0,0,0,0,0,0,0,0,0,0,0,0,0,0,0,0,0,0,0,0,0,0,0,0,0,0,0,0,0,0,0,0,0,0,0,0,0,0,0],[32768,262144,4194304,67108864,134217728,2147483648,0,0,1099511627776,0,35184372088832,562949953421312,0,0,72057594037927936,720575940379279360,0,36893488147419103232,36893488147419103232,2361183241434822606848,0,113336795588871485128704,1208925819614629174706176,4835703278458516698824704,6044629098073145873530880,0,0,0,0,0,0,0,0,0,0,0,0,0,0,0,0,0,0,0,0,0,0,0,0,0,0,0,0,0,0,0,0,0,0,0,0,0,0,0,0,0,0,0,0,0,0,0,0,0,0,0,0,0,0,0,0,0,0,0],[524288,8388608,268435456,4294967296,8589934592,137438953472,274877906944,17592186044416,70368744177664,4503599627370496,9007199254740992,180143985094819840,2305843009213693952,4611686018427387904,46116860184273879040,959230691832896684032,4722366482869645213696,9444732965739290427392,793357569122100395900928,7555786372591432341913600,0,0,0,0,0,0,0,0,0,0,0,0,0,0,0,0,0,0,0,0,0,0,0,0,0,0,0,0,0,0,0,0,0,0,0,0,0,0,0,0,0,0,0,0,0,0,0,0,0,0,0,0,0,0,0,0,0,0,0,0,0,0,0,0],[16777216,536870912,17179869184,549755813888,1099511627776,35184372088832,70368744177664,9007199254740992,0,4611686018427387904,0,73786976294838206464,4722366482869645213696,0,37778931862957161709568,1208925819614629174706176,0,0,0,0,0,0,0,0,0,0,0,0,0,0,0,0,0,0,0,0,0,0,0,0,0,0,0,0,0,0,0,0,0,0,0,0,0,0,0,0,0,0,0,0,0,0,0,0,0,0,0,0,0,0,0,0,0,0,0,0,0,0,0,0,0,0,0,0],[1073741824,34359738368,2199023255552,140737488355328,281474976710656,18014398509481984,36028797018963968,9223372036854775808,18446744073709551616,9444732965739290427392,18889465931478580854784,75557863725914323419136,0,0,0,0,0,0,0,0,0,0,0,0,0,0,0,0,0,0,0,0,0,0,0,0,0,0,0,0,0,0,0,0,0,0,0,0,0,0,0,0,0,0,0,0,0,0,0,0,0,0,0,0,0,0,0,0,0,0,0,0,0,0,0,0,0,0,0,0,0,0,0,0],[68719476736,4398046511104,562949953421312,72057594037927936,144115188075855872,36893488147419103232,73786976294838206464,37778931862957161709568,75557863725914323419136,0,0,0,0,0,0,0,0,0,0,0,0,0,0,0,0,0,0,0,0,0,0,0,0,0,0,0,0,0,0,0,0,0,0,0,0,0,0,0,0,0,0,0,0,0,0,0,0,0,0,0,0,0,0,0,0,0,0,0,0,0,0,0,0,0,0,0,0,0,0,0,0,0,0,0],[8796093022208,1125899906842624,288230376151711744,147573952589676412928,295147905179352825856,151115727451828646838272,302231454903657293676544,0,0,0,0,0,0,0,0,0,0,0,0,0,0,0,0,0,0,0,0,0,0,0,0,0,0,0,0,0,0,0,0,0,0,0,0,0,0,0,0,0,0,0,0,0,0,0,0,0,0,0,0,0,0,0,0,0,0,0,0,0,0,0,0,0,0,0,0,0,0,0,0,0,0,0,0,0],[2251799813685248,576460752303423488,590295810358705651712,604462909807314587353088,1208925819614629174706176,0,0,0,0,0,0,0,0,0,0,0,0,0,0,0,0,0,0,0,0,0,0,0,0,0,0,0,0,0,0,0,0,0,0,0,0,0,0,0,0,0,0,0,0,0,0,0,0,0,0,0,0,0,0,0,0,0,0,0,0,0,0,0,0,0,0,0,0,0,0,0,0,0,0,0,0,0,0,0],[1152921504606846976,1180591620717411303424,2417851639229258349412352,0,0,0,0,0,0,0,0,0,0,0,0,0,0,0,0,0,0,0,0,0,0,0,0,0,0,0,0,0,0,0,0,0,0,0,0,0,0,0,0,0,0,0,0,0,0,0,0,0,0,0,0,0,0,0,0,0,0,0,0,0,0,0,0,0,0,0,0,0,0,0,0,0,0,0,0,0,0,0,0,0],[2361183241434822606848,4835703278458516698824704,0,0,0,0,0,0,0,0,0,0,0,0,0,0,0,0,0,0,0,0,0,0,0,0,0,0,0,0,0,0,0,0,0,0,0,0,0,0,0,0,0,0,0,0,0,0,0,0,0,0,0,0,0,0,0,0,0,0,0,0,0,0,0,0,0,0,0,0,0,0,0,0,0,0,0,0,0,0,0,0,0,0],[9671406556917033397649408,0,0,0,0,0,0,0,0,0,0,0,0,0,0,0,0,0,0,0,0,0,0,0,0,0,0,0,0,0,0,0,0,0,0,0,0,0,0,0,0,0,0,0,0,0,0,0,0,0,0,0,0,0,0,0,0,0,0,0,0,0,0,0,0,0,0,0,0,0,0,0,0,0,0,0,0,0,0,0,0,0,0,0]]
noncomputable def nuSt:List (List Int):=[[],[1],[2],[2,1],[3],[3,1],[4],[4,1],[5],[4,2],[5,1],[6],[4,2,1],[5,2],[6,1],[7],[5,2,1],[6,2],[7,1],[8],[6,2,1],[6,3],[7,2],[8,1],[9],[6,3,1],[7,2,1],[7,3],[8,2],[9,1],[10],[7,3,1],[8,2,1],[8,3],[9,2],[10,1],[11],[8,3,1],[8,4],[9,2,1],[9,3],[10,2],[11,1],[12],[8,4,1],[9,3,1],[9,4],[10,2,1],[10,3],[11,2],[12,1],[13],[8,4,2],[9,4,1],[10,3,1],[10,4],[11,2,1],[11,3],[12,2],[13,1],[14],[8,4,2,1],[9,4,2],[10,4,1],[10,5],[11,3,1],[11,4],[12,2,1],[12,3],[13,2],[14,1],[15],[9,4,2,1],[10,4,2],[10,5,1],[11,4,1],[11,5],[12,3,1],[12,4],[13,2,1],[13,3],[14,2],[15,1],[16]]
noncomputable def nuA (a v:Nat):Nat:=nuM (nuT.getD a []) v
theorem zks:∀ts,nuM ts 0=0
 | []=>rfl
 | _::_=>rfl
theorem zcw (t:Nat)(ts:List Nat)(v:Nat):nuM (t::ts) v=(if v % 2=1 then t else 0) ^^^ nuM ts (v / 2):=by
 by_cases c:v=0
 ·subst c;rw[zks,if_neg (by decide),Nat.zero_div,zks];rfl
 ·have h1:Nat.beq v 0=false:=by
   cases h:Nat.beq v 0 with
   | false=>rfl
   | true=>exact absurd (xgk h) c
  have h2:(bif Nat.beq (v % 2) 1 then t else 0)=if v % 2=1 then t else 0:=by
   by_cases d:v % 2=1
   ·rw[if_pos d,d];rfl
   ·have:v % 2=0:=by lia
    rw[if_neg d,this];rfl
  show(bif Nat.beq v 0 then 0 else Nat.xor (bif Nat.beq (v % 2) 1 then t else 0) (nuM ts (v / 2)))=_;rw[h1,h2];rfl
theorem xor4 (a b c d:Nat):(a ^^^ b) ^^^ (c ^^^ d)=(a ^^^ c) ^^^ (b ^^^ d):=by
 rw[xdd,xdd,← xdd b,← xdd c,xiq b c]
theorem zxf:∀(ts:List Nat) (v w:Nat),nuM ts (v ^^^ w)=nuM ts v ^^^ nuM ts w
 | [],v,w=>by show 0=0 ^^^ 0;rw[xkv]
 | t::ts,v,w=>by
  rw[zcw,zcw,zcw,Nat.xor_div_two,zxf ts,xor4]
  congr 1
  have:=Nat.xor_mod_two_eq_one (a:=v) (b:=w);by_cases c1:v % 2=1<;>by_cases c2:w % 2=1<;>simp[c1,c2,this]
theorem zsk {f:Nat->Nat}(h0:f 0=0)(hx:∀v w,f (v ^^^ w)=f v ^^^ f w):∀(ts:List Nat) (v:Nat),nuM (ts.map f) v=f (nuM ts v)
 | [],v=>h0.symm
 | t::ts,v=>by
  rw[xbp,zcw,zcw,hx,zsk h0 hx ts]
  congr 1
  split
  ·rfl
  ·exact h0.symm
theorem zxe:∀(ts us:List Nat) (v:Nat),ts.length=us.length->nuM (List.zipWith Nat.xor ts us) v=nuM ts v ^^^ nuM us v
 | [],[],v,_=>by show 0=0 ^^^ 0;rw[xkv]
 | [],_::_,v,h=>by cases h
 | _::_,[],v,h=>by cases h
 | t::ts,u::us,v,h=>by
  show nuM (Nat.xor t u::List.zipWith Nat.xor ts us) v=_;rw[zcw,zcw,zcw,zxe ts us _ (by simpa using h),xor4]
  congr 1
  split
  ·rfl
  ·rfl
theorem zxg:∀(ts:List Nat) (i:Nat),nuM ts (2 ^ i)=ts.getD i 0
 | [],i=>by simp[nuM]
 | t::ts,0=>by rw[zcw];simp[zks]
 | t::ts,i+1=>by
  rw[zcw,if_neg (by rw[Nat.pow_succ];lia),show 2 ^ (i+1) / 2=2 ^ i by rw[Nat.pow_succ];lia,zxg ts i,xir]
  rfl
theorem znq (a:Nat):nuA a 0=0:=zks _
theorem zsm (a v w:Nat):nuA a (v ^^^ w)=nuA a v ^^^ nuA a w:=zxf _ _ _
noncomputable def nuF (r:List Int) (v:Nat):Nat:=r.foldr (fun a v=>nuA a.toNat v) v
noncomputable def nu (r:List Int):Nat:=nuF r 1
noncomputable def nuS (l:List (List Int)):Nat:=l.foldr (fun r x=>nu r ^^^ x) 0
theorem zfx (r s:List Int)(v:Nat):nuF (r++s) v=nuF r (nuF s v):=by unfold nuF;rw[List.foldr_append]
theorem zsl:∀r,nuF r 0=0
 | []=>rfl
 | a::r=>by show nuA _ (nuF r 0)=0;rw[zsl r,znq]
theorem zxh:∀r v w,nuF r (v ^^^ w)=nuF r v ^^^ nuF r w
 | [],_,_=>rfl
 | a::r,v,w=>by show nuA _ (nuF r _)=nuA _ (nuF r v) ^^^ nuA _ (nuF r w);rw[zxh r,zsm]
theorem zcl:∀l m,nuS (l++m)=nuS l ^^^ nuS m
 | [],m=>(xir _).symm
 | r::l,m=>by show nu r ^^^ nuS (l++m)=(nu r ^^^ nuS l) ^^^ nuS m;rw[zcl l m,xdd]
theorem zzq {l m:List (List Int)}(h:l.Perm m):nuS l=nuS m:=by
 induction h with
 | nil=>rfl
 | @cons x a b _ ih=>show nu x ^^^ nuS a=nu x ^^^ nuS b;rw[ih]
 | swap x y l=>show nu y ^^^ (nu x ^^^ nuS l)=nu x ^^^ (nu y ^^^ nuS l);rw[← xdd,← xdd,xiq (nu y)]
 | trans _ _ a b=>exact a.trans b
theorem zsj {l:List (List Int)}{r:List Int}(nd:l.Nodup):nuS (aP l r)=nuS l ^^^ nu r:=by
 unfold aP;split
 ·rename_i h;have:∀{l:List (List Int)},l.Nodup->r∈l->nuS (l.filter fun x=>decide (x≠r))=nuS l ^^^ nu r:=fun {l}=>by
   induction l with
   | nil=>intro _ h;cases h
   | cons a l ih =>
    intro nd h;rw[xdo] at nd;by_cases c:a=r
    ·subst c;have e:l.filter (fun x=>decide (x≠a))=l:=xjx.mpr fun x hx=>by
      rw[xfj];intro z;subst z;exact nd.1 hx
     rw[xdf (by simp),e];show nuS l=(nu a ^^^ nuS l) ^^^ nu a;rw[xiq,← xdd,xkv,xir]
    ·rw[xdg (by simpa using c)];show nu a ^^^ nuS (l.filter fun x=>decide (x≠r))=(nu a ^^^ nuS l) ^^^ nu r;rw[ih nd.2 (by rcases xbr.mp h with z | z;exact absurd z.symm c;exact z),xdd]
  exact this nd h
 ·rw[zcl];show nuS l ^^^ (nu r ^^^ 0)=_;rw[xgg]
theorem zkr:∀(m l:List (List Int)),l.Nodup->nuS (m.foldl aP l)=nuS l ^^^ nuS m
 | [],l,_=>(xgg _).symm
 | r::m,l,nd=>by
  rw[xij,zkr m _ (zcb nd),zsj nd];show _=nuS l ^^^ (nu r ^^^ nuS m);rw[xdd]
noncomputable def mt2:List Int->List Nat
 | [x]=>nuT.getD x.toNat []
 | [x,y]=>(nuT.getD y.toNat []).map (nuA x.toNat)
 | _=>[]
noncomputable def twosN (a b n:Nat):List (List Int):=((List.range n).filter fun c=>Nat.beq (Nat.land (b - c - 1) (a - 2 * c)) (a - 2 * c)).map fun c=>if c=0 then[((a+b:Nat):Int)] else[((a+b - c:Nat):Int),(c:Int)]
noncomputable def nuChk (a b:Nat):Bool:=bif Nat.blt a (2 * b) then decide ((nuT.getD b []).map (nuA a)=(twosN a b (a / 2+1)).foldr (fun two m=>List.zipWith Nat.xor (mt2 two) m) (List.replicate 84 0)) else true
theorem zvq:((List.range 17).all fun a=>(List.range (17 - a)).all fun b=>bif Nat.blt 0 a&&Nat.blt 0 b then nuChk a b else true)=true:=by decide +kernel
theorem zbef:(nuT.all fun t=>Nat.beq t.length 84||Nat.beq t.length 0)=true/\((List.range 16).all fun i=>Nat.beq (nuT.getD (i+1) []).length 84)=true:=by decide +kernel
theorem zbeg {a:Nat}(h:1<=a)(h2:a<=16):(nuT.getD a []).length=84:=by
 have:=xdy.mp zbef.2 (a - 1) (xcf.mpr (by lia));rw[show a - 1+1=a by lia] at this;exact xgk this
theorem zot:∀n v,nuM (List.replicate n 0) v=0
 | 0,_=>rfl
 | n+1,v=>by
  rw[List.replicate_succ,zcw,zot n];split<;>rfl
theorem zuo {a b n:Nat}{two:List Int}(h:two∈twosN a b n):(two=[((a+b:Nat):Int)])\/∃c:Nat,0 < c/\c < n/\two=[((a+b - c:Nat):Int),(c:Int)]:=by
 unfold twosN at h;obtain⟨c,hc,rfl⟩:=xcb.mp h;have hc:=xcf.mp (xcq.mp hc).1;by_cases z:c=0
 ·rw[if_pos z];exact .inl rfl
 ·rw[if_neg z];exact .inr ⟨c,by lia,hc,rfl⟩
theorem zbjm {a b:Nat}(ha:1<=a)(hb:1<=b)(hs:a+b<=16)(hab:a < 2 * b)(v:Nat):(twosN a b (a / 2+1)).foldr (fun two x=>nuF two v ^^^ x) 0=nuA a (nuA b v):=by
 have h:=zvq;have h:=xdy.mp h a (xcf.mpr (by lia));have h:=xdy.mp h b (xcf.mpr (by lia));rw[show(Nat.blt 0 a&&Nat.blt 0 b)=true by rw[xep];exact⟨xjo (by lia),xjo (by lia)⟩] at h;have h:nuChk a b=true:=h;unfold nuChk at h;rw[show Nat.blt a (2 * b)=true from xjo (by lia)] at h;have h:=xdu h;have h2:=congrArg (fun m=>nuM m v) h;simp only[zsk (znq a) (zsm a)] at h2;show _=nuA a (nuM (nuT.getD b []) v);rw[h2];have key:∀(tw:List (List Int)),(∀two∈tw,two∈twosN a b (a / 2+1))->nuM (tw.foldr (fun two m=>List.zipWith Nat.xor (mt2 two) m) (List.replicate 84 0)) v=tw.foldr (fun two x=>nuF two v ^^^ x) 0/\(tw.foldr (fun two m=>List.zipWith Nat.xor (mt2 two) m) (List.replicate 84 0)).length=84:=fun tw=>by
  induction tw with
  | nil=>intro _;exact⟨zot _ _,by simp⟩
  | cons two tw ih =>
   intro hm;obtain⟨i1,i2⟩:=ih fun t ht=>hm t (xbi _ ht)
   have e:(mt2 two).length=84/\nuM (mt2 two) v=nuF two v:=by
    rcases zuo (hm two (by simp)) with rfl | ⟨c,c0,c1,rfl⟩
    ·exact⟨zbeg (by simp;lia) (by simp;lia),rfl⟩
    ·refine⟨?_,?_⟩
     ·show((nuT.getD (c:Int).toNat []).map _).length=_;rw[xbd];exact zbeg (by simp;lia) (by simp;lia)
     ·show nuM ((nuT.getD (c:Int).toNat []).map _) v=_;rw[zsk (znq _) (zsm _)];rfl
   rw[List.foldr_cons,List.foldr_cons];refine⟨?_,by rw[List.length_zipWith,e.1,i2];rfl⟩;rw[zxe _ _ _ (by rw[e.1,i2]),e.2,i1]
 exact(key _ fun _ h=>h).1.symm
theorem zuy {a b:Nat}(ha:1<=a)(hb:1<=b)(hab:a < 2 * b):∀{n:Nat},n<=a / 2+1->rowsL a b n=twosN a b n:=fun {n} hn=>by
 unfold rowsL twosN;have e1:((List.range n).filter fun(c:Nat)=>oddW ((b:Int) - c - 1) ((a:Int) - 2 * c))=(List.range n).filter fun c=>Nat.beq (Nat.land (b - c - 1) (a - 2 * c)) (a - 2 * c):=by
  refine List.filter_congr fun c hc=>?_
  have hc:=xcf.mp hc;rw[show(b:Int) - c - 1=((b - c - 1:Nat):Int) by lia,show(a:Int) - 2 * c=((a - 2 * c:Nat):Int) by lia,zsf];generalize b - c - 1=x;generalize a - 2 * c=y;show decide (Nat.land x y=y)=_;cases h:Nat.beq (Nat.land x y) y with
  | true=>exact xbw (xgk h)
  | false=>exact xbu (Nat.ne_of_beq_eq_false h)
 rw[e1];refine xes fun c hc=>?_
 have hc:=xcf.mp (xcq.mp hc).1;unfold rowC;by_cases z:c=0
 ·subst z;rw[if_pos rfl,if_neg (by lia)];rfl
 ·rw[if_neg z,if_pos (by lia)]
  congr 1
  lia
theorem zxc {f:List Int->List Int}{g:List Int->Nat}(w:Nat)(r:List Int)(h:∀two,nu (f two)=nuF r (g two)):∀l:List (List Int),nuS (l.map f)=nuF r (l.foldr (fun two x=>g two ^^^ x) 0)
 | []=>(zsl r).symm
 | two::l=>by
  show nu (f two) ^^^ nuS (l.map f)=nuF r (g two ^^^ l.foldr (fun two x=>g two ^^^ x) 0);rw[zxc w r h l,zxh,h]
theorem zbeh {r:List Int}{p:Nat}{L:Nat}(h:RowOk r 16 L)(hs:slowAt r p):nuS (exRow r p)=nu r:=by
 obtain⟨a,b,g1,g2,hab⟩:=hs;have l1:p+1 < r.length:=(xbc.mp g2).1;have ha:=h.pos a (xbo g1);have hb:=h.pos b (xbo g2);have hr:r=r.take p++([a,b]++r.drop (p+2)):=by
  have e1:r.drop p=a::r.drop (p+1):=by
   rw[xcw (by lia)]
   congr 1
   exact(xbc.mp g1).2
  have e2:r.drop (p+1)=b::r.drop (p+2):=by
   rw[xcw (by lia)]
   congr 1
   exact(xbc.mp g2).2
  calc r=r.take p++r.drop p:=(xel p r).symm
   _=_:=by rw[e1,e2];simp
 have hab16:a+b<=16:=by
  have h1:r.sum=(r.take p).sum+(a+(b+(r.drop (p+2)).sum)):=by
   conv=>lhs;rw[hr]
   rw[xfs,xfs];simp;lia
  have h2:=h.sum;have h3:0<=(r.take p).sum:=zcd fun x hx=>h.pos x (xgs hx)
  have h4:0<=(r.drop (p+2)).sum:=zcd fun x hx=>h.pos x (xgr hx)
  lia
 obtain⟨a,rfl⟩:=xfd (show 0<=a by lia);obtain⟨b,rfl⟩:=xfd (show 0<=b by lia);unfold exRow;rw[xbg,g1,xbg,g2];simp only[xku];rw[zzq ((zbb _).map _),show((a:Int) / 2+1).toNat=a / 2+1 by lia,zuy (by lia) (by lia) (by lia) (xbf _)];rw[zxc (g:=fun two=>nuF two (nuF (r.drop (p+2)) 1)) 0 (r.take p) fun two=>by unfold nu;rw[zfx,zfx]];rw[zbjm (by lia) (by lia) (by lia) (by lia)]
 conv=>rhs;rw[hr]
 unfold nu;rw[zfx,zfx];rfl
noncomputable def nuStep (i a:Nat):Bool:=match nuSt[i]? with
 | none=>true
 | some r=>bif decide ((a:Int)+r.sum<=16)&&decide (2 * r.headD 0<=(a:Int)) then(match nuSt[nuSt.idxOf ((a:Int)::r)]? with | some r'=>decide (r'=(a:Int)::r) | none=>false)&&Nat.beq ((nuT.getD a []).getD i 0) (2 ^ nuSt.idxOf ((a:Int)::r)) else true
theorem zsi:((List.range 84).all fun i=>(List.range 17).all fun a=>bif Nat.beq a 0 then true else nuStep i a)=true:=by decide +kernel
theorem zxb:nuSt.Nodup:=by decide +kernel
theorem zgy:nuSt.length=84:=by decide +kernel
noncomputable def Stp (r:List Int):Prop:=∀p,¬ slowAt r p
theorem zyj {r:List Int}(h:placesL r=[]):Stp r:=fun p hp=>by
 have:=zfy.mpr hp;rw[h] at this;cases this
theorem Stp.tail {a:Int}{r:List Int}(h:Stp (a::r)):Stp r:=fun p ⟨x,y,e1,e2,q⟩=>h (p+1) ⟨x,y,by simpa using e1,by simpa using e2,q⟩
theorem Stp.head {a:Int}{r:List Int}(h:Stp (a::r))(ha:1<=a):2 * r.headD 0<=a:=by
 cases r with
 | nil=>simp;lia
 | cons b r =>
  have:=h 0;refine xkm fun c=>this ⟨a,b,rfl,rfl,?_⟩
  simp at c;lia
theorem zkq {L:Nat}:∀{r:List Int},RowOk r 16 L->Stp r->∃i,nuSt[i]?=some r/\nu r=2 ^ i
 | [],_,_=>⟨0,by decide +kernel,rfl⟩
 | a::r,h,hs=>by
  have ha:=h.pos a (by simp);have hsum:=h.sum;rw[xgn] at hsum;have h2:0<=r.sum:=zcd fun x hx=>h.pos x (xbi _ hx)
  obtain⟨i,e1,e2⟩:=zkq (L:=L) (r:=r) ⟨fun x hx=>h.pos x (xbi _ hx),by lia,by have:=h.len;rw[xbv] at this;lia⟩ hs.tail;have hi:i < 84:=by have:=(xbc.mp e1).1;rw[zgy] at this;exact this
  have hh:=hs.head ha;obtain⟨a,rfl⟩:=xfd (show 0<=a by lia);have k:=xdy.mp (xdy.mp zsi i (xcf.mpr hi)) a (xcf.mpr (by lia));rw[show Nat.beq a 0=false by cases z:Nat.beq a 0 with | false=>rfl | true=>have:=xgk z;lia] at k;have k:nuStep i a=true:=k;unfold nuStep at k;rw[e1] at k;have k:(bif decide ((a:Int)+r.sum<=16)&&decide (2 * r.headD 0<=(a:Int)) then(match nuSt[nuSt.idxOf ((a:Int)::r)]? with | some r'=>decide (r'=(a:Int)::r) | none=>false)&&Nat.beq ((nuT.getD a []).getD i 0) (2 ^ nuSt.idxOf ((a:Int)::r)) else true)=true:=k;rw[xbw (show(a:Int)+r.sum<=16 by lia),xbw hh] at k;simp only[Bool.and_true,cond_true] at k;rw[xep] at k;obtain⟨k1,k2⟩:=k;refine⟨nuSt.idxOf ((a:Int)::r),?_,?_⟩
  ·cases z:nuSt[nuSt.idxOf ((a:Int)::r)]? with
   | none=>rw[z] at k1;cases k1
   | some r' =>
    rw[z] at k1;rw[xdu k1]
  ·show nuA _ (nu r)=_;rw[e2];show nuM (nuT.getD a []) (2 ^ i)=_;rw[zxg];exact xgk k2
noncomputable def StOk16 (l:List (List Int)):Prop:=∀r∈l,RowOk r 16 6/\Stp r
theorem zxd {l:List (List Int)}(h:StOk16 l){i:Nat}{x:List Int}(hx:nuSt[i]?=some x):(nuS l).testBit i=decide (l.count x % 2=1):=by
 induction l with
 | nil=>simp[nuS]
 | cons r l ih =>
  have ih:=ih fun y hy=>h y (xbi _ hy)
  obtain⟨j,e1,e2⟩:=zkq (h r (by simp)).1 (h r (by simp)).2;show(nu r ^^^ nuS l).testBit i=_;rw[Nat.testBit_xor,ih,e2,Nat.testBit_two_pow,List.count_cons];by_cases c:j=i
  ·subst c;rw[hx] at e1;cases e1;rw[xbw rfl,if_pos (by simp)];rcases Nat.mod_two_eq_zero_or_one (l.count x) with z | z
   ·rw[xbu (by lia),xbw (by lia)];rfl
   ·rw[xbw z,xbu (by lia)];rfl
  ·have:¬ r=x:=fun z=>by
    subst z;obtain⟨a1,a2⟩:=xbc.mp e1;obtain⟨b1,b2⟩:=xbc.mp hx;exact c ((xkn zxb).mp (a2.trans b2.symm))
   simp[c,this]
noncomputable def stl (v:Nat):List (List Int):=sortR (((List.range 84).filter fun i=>v.testBit i).map fun i=>nuSt.getD i [])
theorem zyk {l:List (List Int)}(h:StOk16 l)(nd:l.Nodup):sortR l=stl (nuS l):=by
 unfold stl;refine zjg (zgs nd ?_ fun x=>?_)
 ·refine List.Pairwise.map _ (R:=fun i j=>i≠j/\i < 84/\j < 84) ?_ ?_
  ·rintro i j ⟨h1,h2,h3⟩ e;rw[xbg,xbg,xbe (by rw[zgy];exact h2),xbe (by rw[zgy];exact h3)] at e;exact h1 ((xkn zxb).mp e)
  ·refine List.Pairwise.imp_of_mem (R:=(·≠·)) (fun {a b} ha hb h=>⟨h,xcf.mp (xcq.mp ha).1,xcf.mp (xcq.mp hb).1⟩) (List.nodup_range.filter _)
 ·constructor
  ·intro hx;obtain⟨i,e1,e2⟩:=zkq (h x hx).1 (h x hx).2;have hi:i < 84:=by have:=(xbc.mp e1).1;rw[zgy] at this;exact this
   refine xcb.mpr ⟨i,xcq.mpr ⟨xcf.mpr hi,?_⟩,by rw[xbg,e1];rfl⟩;rw[zxd h e1,xkw nd,if_pos hx];rfl
  ·intro hx;obtain⟨i,hi,rfl⟩:=xcb.mp hx;obtain⟨hi,hb⟩:=xcq.mp hi;have hi:=xcf.mp hi;have e:nuSt[i]?=some (nuSt.getD i []):=by rw[xbg,xbe (by rw[zgy];exact hi)];rfl
   rw[zxd h e,xkw nd] at hb;by_cases c:nuSt.getD i []∈l
   ·exact c
   ·rw[if_neg c] at hb;simp at hb
theorem zox {α:Type}[DecidableEq α]:∀{l m:List α},l.Nodup->(∀x∈l,x∈m)->l.length<=m.length
 | [],m,_,_=>xeg _
 | a::l,m,nd,h=>by
  rw[xdo] at nd;have h1:a∈m:=h a (by simp);have h2:=zox (l:=l) (m:=m.erase a) nd.2 fun x hx=>by
   refine(List.mem_erase_of_ne fun e=>?_).mpr (h x (xbi _ hx));subst e;exact nd.1 hx
  rw[List.length_erase_of_mem h1] at h2;have:0 < m.length:=List.length_pos_of_mem h1;rw[xbv];lia
noncomputable def allR:Nat->Nat->List (List Int)
 | 0,_=>[[]]
 | k+1,s=>[]::(List.range s).flatMap fun a=>(allR k (s - 1 - a)).map fun r=>((a+1:Nat):Int)::r
noncomputable def cntR:Nat->Nat->Nat
 | 0,_=>1
 | k+1,s=>1+((List.range s).map fun a=>cntR k (s - 1 - a)).sum
theorem zua:∀k s,(allR k s).length=cntR k s
 | 0,_=>rfl
 | k+1,s=>by
  unfold allR cntR;rw[xbv,List.length_flatMap,Nat.add_comm]
  congr 2
  refine xes fun a _=>?_
  rw[xbd,zua k]
theorem ztz:∀(k s:Nat) (r:List Int),RowOk r s k->r∈allR k s
 | 0,s,r,h=>by
  have:=h.len;have:r=[]:=xja.mp (by lia);subst this;simp[allR]
 | k+1,s,[],_=>by simp[allR]
 | k+1,s,a::r,h=>by
  have ha:=h.pos a (by simp);have hs:=h.sum;rw[xgn] at hs;have hr:0<=r.sum:=zcd fun x hx=>h.pos x (xbi _ hx)
  obtain⟨a,rfl⟩:=xfd (show 0<=a by lia);unfold allR;refine xbi _ (List.mem_flatMap.mpr ⟨a - 1,xcf.mpr (by lia),xcb.mpr ⟨r,ztz k _ r ⟨fun x hx=>h.pos x (xbi _ hx),?_,?_⟩,?_⟩⟩)
  ·lia
  ·have:=h.len;rw[xbv] at this;lia
  ·rw[show a - 1+1=a by lia]
theorem znc {l:List (List Int)}(nd:l.Nodup)(h:∀r∈l,RowOk r 16 6):l.length<=15000:=by
 have h1:=zox nd fun r hr=>ztz 6 16 r (h r hr)
 rw[zua] at h1;have h2:Nat.ble (cntR 6 16) 15000=true:=by decide +kernel
 have h2:=Nat.le_of_ble_eq_true h2;lia
theorem zbek:∀{r:List Int} {k:Int},0<=k->(∀x∈r,1<=x)->0<=momR k r
 | [],k,_,_=>by simp[momR]
 | x::r,k,hk,h=>by
  have h1:=zbek (r:=r) (k:=k+1) (by lia) fun y hy=>h y (xbi _ hy)
  have h2:=h x (by simp);have h3:0<=k * x:=xjz hk (by lia);unfold momR;lia
theorem zbel:∀{r:List Int} {k:Int},0<=k->(∀x∈r,1<=x)->momR k r<=(k+r.length) * r.sum
 | [],k,_,_=>by simp[momR]
 | x::r,k,hk,h=>by
  have h1:=zbel (r:=r) (k:=k+1) (by lia) fun y hy=>h y (xbi _ hy)
  have h2:=h x (by simp);have h3:0<=((r.length:Int)+1) * x:=xjz (by lia) (by lia);rw[xgn,xbv,xkb];unfold momR;have e1:(k+((r.length+1:Nat):Int)) * x=k * x+((r.length:Int)+1) * x:=by rw[← xie];congr 1;try lia
  have e2:(k+1+(r.length:Int)) * r.sum=(k+((r.length+1:Nat):Int)) * r.sum:=by congr 1;push_cast;lia
  rw[e1];rw[e2] at h1
  lia
theorem zzs {r:List Int}(h:RowOk r 16 6):0<=momR 1 r/\momR 1 r<=112:=by
 refine⟨zbek (by lia) h.pos,xks (zbel (by lia) h.pos) ?_⟩;have h1:=h.len;have h2:=h.sum;have h3:0<=r.sum:=zcd h.pos
 calc (1+(r.length:Int)) * r.sum<=7 * r.sum:=xjr (by lia) h3
  _<=112:=by lia
structure LvG (lr:Lr):Prop where
 nd:(lr.map (·.1)).Nodup
 row:∀q∈lr,∀r∈q.2,RowOk r 16 6/\momR 1 r=q.1
 key:∀q∈lr,0<=q.1/\q.1<=112
 rnd:∀q∈lr,q.2.Nodup
theorem LvG.few {lr:Lr}(h:LvG lr):lr.length<=113/\∀q∈lr,q.2.length<=15000:=by
 refine⟨?_,fun q hq=>znc (h.rnd q hq) fun r hr=>(h.row q hq r hr).1⟩;have:=zox (m:=(List.range 113).map fun(i:Nat)=>(i:Int)) h.nd fun x hx=>by
  obtain⟨q,hq,rfl⟩:=xcb.mp hx;have:=h.key q hq;exact xcb.mpr ⟨q.1.toNat,xcf.mpr (by lia),by lia⟩
 simpa using this
theorem zdq {r:List Int}:∀{lr:Lr} (q:Int×List (List Int)),q∈flipR r lr->q∈lr\/(q.1=momR 1 r/\((q.2=[r]/\∀x∈lr,x.1≠momR 1 r)\/∃l,(q.1,l)∈lr/\q.2=aP l r))
 | [],q,h=>by
  unfold flipR at h;simp at h;subst h;exact .inr ⟨rfl,.inl ⟨rfl,fun x hx=>by cases hx⟩⟩
 | x::lr,q,h=>by
  unfold flipR at h;split at h
  ·rename_i c;rcases xbr.mp h with rfl | h
   ·exact .inr ⟨c,.inr ⟨x.2,by simp,rfl⟩⟩
   ·exact .inl (xbi _ h)
  ·rename_i c;rcases xbr.mp h with rfl | h
   ·exact .inl (by simp)
   ·rcases zdq q h with h | ⟨h1,⟨h2,h3⟩ | ⟨l,h2,h3⟩⟩
    ·exact .inl (xbi _ h)
    ·refine .inr ⟨h1,.inl ⟨h2,fun y hy=>?_⟩⟩;rcases xbr.mp hy with rfl | hy
     ·exact c
     ·exact h3 y hy
    ·exact .inr ⟨h1,.inr ⟨l,xbi _ h2,h3⟩⟩
theorem zsz {r:List Int}:∀{lr:Lr},(lr.map (·.1)).Nodup->((flipR r lr).map (·.1)).Nodup
 | [],_=>by simp[flipR]
 | x::lr,nd=>by
  rw[xbp,xdo] at nd;unfold flipR;split
  ·rw[xbp,xdo];exact nd
  ·rename_i c;rw[xbp,xdo];refine⟨fun z=>?_,zsz nd.2⟩;obtain⟨q,hq,e⟩:=xcb.mp z;rcases zdq q hq with h | ⟨h,_⟩
   ·exact nd.1 (xcb.mpr ⟨q,h,e⟩)
   ·exact c (e.symm.trans h)
theorem LvG.flip {lr:Lr}{r:List Int}(h:LvG lr)(hr:RowOk r 16 6):LvG (flipR r lr):=by
 refine⟨zsz h.nd,fun q hq x hx=>?_,fun q hq=>?_,fun q hq=>?_⟩
 ·rcases zdq q hq with h1 | ⟨h1,⟨h2,h3⟩ | ⟨l,h2,h3⟩⟩
  ·exact h.row q h1 x hx
  ·rw[h2,xcn] at hx;subst hx;exact⟨hr,h1.symm⟩
  ·rw[h3,zbl] at hx;rcases hx with⟨hx,_⟩ | ⟨rfl,_⟩
   ·exact h.row _ h2 x hx
   ·exact⟨hr,h1.symm⟩
 ·rcases zdq q hq with h1 | ⟨h1,_⟩
  ·exact h.key q h1
  ·rw[h1];exact zzs hr
 ·rcases zdq q hq with h1 | ⟨h1,⟨h2,h3⟩ | ⟨l,h2,h3⟩⟩
  ·exact h.rnd q h1
  ·rw[h2];simp
  ·rw[h3];exact zcb (h.rnd _ h2)
noncomputable def inM (lr:Lr) (x:List Int):Prop:=∃q∈lr,x∈q.2
theorem zbac {lr:Lr}{r x:List Int}(h:LvG lr)(hr:RowOk r 16 6):inM (flipR r lr) x↔(inM lr x/\x≠r)\/(x=r/\¬ inM lr r):=by
 have key:∀{lr:Lr},(lr.map (·.1)).Nodup->(∀q∈lr,∀r∈q.2,momR 1 r=q.1)->(inM (flipR r lr) x↔(inM lr x/\x≠r)\/(x=r/\¬ inM lr r)):=fun {lr}=>by
  induction lr with
  | nil =>
   intro _ _;unfold flipR inM;simp
  | cons a lr ih =>
   intro nd hh;rw[xbp,xdo] at nd;have c1:∀y,inM (a::lr) y↔y∈a.2\/inM lr y:=fun y=>by unfold inM;simp
   unfold flipR;split
   ·rename_i c;have no:¬ inM lr r:=fun⟨q,hq,hx⟩=>nd.1 (xcb.mpr ⟨q,hq,by rw[c];exact(hh q (xbi _ hq) r hx).symm⟩)
    have c2:inM ((a.1,aP a.2 r)::lr) x↔x∈aP a.2 r\/inM lr x:=by unfold inM;simp
    rw[c2,zbl,c1,c1];by_cases e:x=r
    ·subst e;simp[no]
    ·simp[e]
   ·rename_i c;have c2:inM (a::flipR r lr) x↔x∈a.2\/inM (flipR r lr) x:=by unfold inM;simp
    have na:r∉a.2:=fun z=>c (hh a (by simp) r z).symm
    rw[c2,ih nd.2 fun q hq=>hh q (xbi _ hq),c1,c1];by_cases e:x=r
    ·subst e;simp[na]
    ·simp[e]
 exact key h.nd fun q hq x hx=>(h.row q hq x hx).2
noncomputable def stepK (ks:List (List Int)) (z:List Int×Nat):List (List Int):=(z.1::exRow z.1 z.2).foldl aP ks
noncomputable def Wke (ks:List (List Int)) (q:List (List Int×Nat)):List (List Int):=q.foldl stepK ks
noncomputable def Wkd:List (List Int)->List (List Int×Nat)->Prop
 | _,[]=>True
 | ks,z::q=>z.1∈ks/\slowAt z.1 z.2/\Wkd (stepK ks z) q
theorem Wkd.snoc:∀{q:List (List Int×Nat)} {ks:List (List Int)} {z:List Int×Nat},Wkd ks q->z.1∈Wke ks q->slowAt z.1 z.2->Wkd ks (q++[z])
 | [],ks,z,_,h1,h2=>⟨h1,h2,trivial⟩
 | a::q,ks,z,h,h1,h2=>⟨h.1,h.2.1,Wkd.snoc h.2.2 h1 h2⟩
theorem Wke.snoc {q:List (List Int×Nat)}{ks:List (List Int)}{z:List Int×Nat}:Wke ks (q++[z])=stepK (Wke ks q) z:=by unfold Wke;rw[xhr];rfl
theorem zld {m ks:List (List Int)}{x:List Int}(h:x∈m.foldl aP ks):x∈ks\/x∈m:=by
 induction m generalizing ks with
 | nil=>exact .inl h
 | cons a m ih =>
  rcases ih h with h | h
  ·rw[zbl] at h;rcases h with⟨h,_⟩ | ⟨rfl,_⟩
   ·exact .inl h
   ·exact .inr (by simp)
  ·exact .inr (xbi _ h)
theorem znu {m ks:List (List Int)}(h:ks.Nodup):(m.foldl aP ks).Nodup:=by
 induction m generalizing ks with
 | nil=>exact h
 | cons a m ih=>exact ih (zcb h)
structure RwsOk (ks:List (List Int)):Prop where
 nd:ks.Nodup
 row:∀r∈ks,RowOk r 16 6
theorem RwsOk.few {ks:List (List Int)}(h:RwsOk ks):ks.length<=15000:=znc h.nd h.row
theorem RwsOk.step {ks:List (List Int)}{z:List Int×Nat}(h:RwsOk ks)(h1:z.1∈ks)(h2:slowAt z.1 z.2):RwsOk (stepK ks z)/\nuS (stepK ks z)=nuS ks:=by
 refine⟨⟨znu h.nd,fun r hr=>?_⟩,?_⟩
 ·rcases zld hr with hr | hr
  ·exact h.row r hr
  ·rcases xbr.mp hr with rfl | hr
   ·exact h.row _ h1
   ·exact zgc (h.row _ h1) h2 r hr
 ·unfold stepK;rw[zkr _ _ h.nd];show nuS ks ^^^ (nu z.1 ^^^ nuS (exRow z.1 z.2))=_;rw[zbeh (h.row _ h1) h2,xkv,xgg]
theorem RwsOk.walk:∀{q:List (List Int×Nat)} {ks:List (List Int)},RwsOk ks->Wkd ks q->RwsOk (Wke ks q)/\nuS (Wke ks q)=nuS ks
 | [],ks,h,_=>⟨h,rfl⟩
 | z::q,ks,h,w=>by
  obtain⟨a,b⟩:=h.step w.1 w.2.1;obtain⟨c,d⟩:=RwsOk.walk a w.2.2;exact⟨c,d.trans b⟩
theorem zyg {q:List (List Int×Nat)}{ks:List (List Int)}(h:RwsOk ks)(w:Wkd ks q)(s:∀x∈Wke ks q,Stp x):sortR (Wke ks q)=stl (nuS ks):=by
 obtain⟨a,b⟩:=h.walk w;rw[zyk (fun r hr=>⟨a.row r hr,s r hr⟩) a.nd,b]
noncomputable def foldR (ms:List (List Int)) (lr:Lr):Lr:=ms.foldl (fun a r=>flipR r a) lr
structure LvTo (st:Store) (L:Nat) (lv:Lv) (ms:List (List Int)) (s:Store) (lv':Lv):Prop where
 at_:LvAt s L lv'
 eq:lvR lv'=foldR ms (lvR lv)
 keep:∀i,i < st.length->i≠L->(∀q∈lv,q.2.1≠i)->s[i]?=st[i]?
 len:st.length<=s.length
 ix:∀q∈lv',st.length<=q.2.1\/∃q0∈lv,q0.2.1=q.2.1
theorem LvTo.refl {st:Store}{L:Nat}{lv:Lv}(h:LvAt st L lv):LvTo st L lv [] st lv:=⟨h,rfl,fun _ _ _ _=>rfl,xbf _,fun q hq=>.inr ⟨q,hq,rfl⟩⟩
theorem zpe {n:Nat}{r:List Int}:∀{lv:Lv},∀q∈flipLv n r lv,q.2.1=n\/∃q0∈lv,q0.2.1=q.2.1
 | [],q,hq=>by
  unfold flipLv at hq;simp at hq;subst hq;exact .inl rfl
 | x::lv,q,hq=>by
  unfold flipLv at hq;split at hq
  ·rcases xbr.mp hq with rfl | hq
   ·exact .inr ⟨x,by simp,rfl⟩
   ·exact .inr ⟨q,xbi _ hq,rfl⟩
  ·rcases xbr.mp hq with rfl | hq
   ·exact .inr ⟨q,by simp,rfl⟩
   ·rcases zpe q hq with h | ⟨q0,h1,h2⟩
    ·exact .inl h
    ·exact .inr ⟨q0,xbi _ h1,h2⟩
theorem LvTo.snoc {st s s2:Store}{L:Nat}{lv lv':Lv}{ms:List (List Int)}{r:List Int}(a:LvTo st L lv ms s lv')(h:LvAt s2 L (flipLv s.length r lv'))(k:∀i,i < s.length->i≠L->(∀q∈lv',q.2.1≠i)->s2[i]?=s[i]?)(l:s.length<=s2.length) :
  LvTo st L lv (ms++[r]) s2 (flipLv s.length r lv'):=by
 refine⟨h,?_,fun i hi hL hq=>?_,xbb a.len l,fun q hq=>?_⟩
 ·rw[zkx,a.eq];unfold foldR;rw[xhr];rfl
 ·have hl:=a.len;rw[k i (by lia) hL fun q hq'=>?_,a.keep i hi hL hq];rcases a.ix q hq' with h1 | ⟨q0,h1,h2⟩
  ·lia
  ·rw[← h2];exact hq q0 h1
 ·rcases zpe q hq with h1 | ⟨q0,h1,h2⟩
  ·exact .inl (by rw[h1];exact a.len)
  ·rcases a.ix q0 h1 with h3 | ⟨q1,h3,h4⟩
   ·exact .inl (by rw[← h2];exact h3)
   ·exact .inr ⟨q1,h3,h4.trans h2⟩
theorem zxm {lv:Lv}(h:LvG (lvR lv)):lv.length<=113/\∀q∈lv,q.2.2.length<=15000:=by
 refine⟨by have:=h.few.1;unfold lvR at this;rwa [xbd] at this,fun q hq=>h.few.2 (q.1,q.2.2) (xcb.mpr ⟨q,hq,rfl⟩)⟩
theorem zyp {r:List Int}(h:RowOk r 16 6):r.length<=1000/\∀x∈r,-10000<=x/\x<=10000:=⟨by have:=h.len;lia,fun x hx=>by have:=zyq h x hx;lia⟩
theorem zbet {S0 S2 S3 S4 S5 v6:Option D}{st:Store}{L:Nat}{lv:Lv}{ms:List (List Int)}{Q:Fl->Store->Prop}(h:LvAt st L lv)(sm:LvG (lvR lv))(hm:∀r∈ms,RowOk r 16 6)
  (k:∀s lv' w6,LvTo st L lv ms s lv'->LvG (lvR lv')->Q (.nx [S0,some (.ref L),S2,S3,S4,S5,w6]) s):WP (forF (gN 6) zof (aJ ms) [S0,some (.ref L),S2,S3,S4,S5,v6] st) Q:=by
 refine zhl (fun i σ s=>∃lv' w6,σ=[S0,some (.ref L),S2,S3,S4,S5,w6]/\LvTo st L lv (ms.take i) s lv'/\LvG (lvR lv')) ⟨lv,v6,rfl,.refl h,sm⟩ ?_ ?_
 ·rintro i x σ s hx ⟨lv',w6,rfl,t,sm'⟩;obtain⟨r,hr,rfl⟩:=zbr hx;have hi:=(xbc.mp hr).1;have b:=zyp (hm r (xbo hr));have z:=zxm sm';have rk:=hm r (xbo hr);refine⟨[S0,some (.ref L),S2,S3,S4,S5,some (aL r)],rfl,?_⟩;unfold zof;simp only[W,V,M];refine zhc t.at_ b.1 b.2 (by lia) (fun q hq=>by have:=z.2 q hq;lia) fun s2 h2 k2 l2=>?_
  simp only[W,V,Dd.L];refine⟨flipLv s.length r lv',_,rfl,?_,?_⟩
  ·rw[zv hr];exact t.snoc h2 k2 l2
  ·rw[zkx];exact sm'.flip rk
 ·rintro σ s ⟨lv',w6,rfl,t,sm'⟩;rw[zg] at t;rw[xct] at t;exact k s lv' w6 t sm'
theorem zbaf {S0 S3 S4 S5 S6 v2:Option D}{st:Store}{L:Nat}{lv:Lv}{ms:List (List Int)}{Q:Fl->Store->Prop}(h:LvAt st L lv)(sm:LvG (lvR lv))(hm:∀r∈ms,RowOk r 16 6)
  (k:∀s lv' w2,LvTo st L lv ms s lv'->LvG (lvR lv')->Q (.nx [S0,some (.ref L),w2,S3,S4,S5,S6]) s):WP (forF (gN 2) zlo (aJ ms) [S0,some (.ref L),v2,S3,S4,S5,S6] st) Q:=by
 refine zhl (fun i σ s=>∃lv' w2,σ=[S0,some (.ref L),w2,S3,S4,S5,S6]/\LvTo st L lv (ms.take i) s lv'/\LvG (lvR lv')) ⟨lv,v2,rfl,.refl h,sm⟩ ?_ ?_
 ·rintro i x σ s hx ⟨lv',w2,rfl,t,sm'⟩;obtain⟨r,hr,rfl⟩:=zbr hx;have hi:=(xbc.mp hr).1;have b:=zyp (hm r (xbo hr));have z:=zxm sm';have rk:=hm r (xbo hr);refine⟨[S0,some (.ref L),some (aL r),S3,S4,S5,S6],rfl,?_⟩;unfold zlo;simp only[W,V,M];refine zhc t.at_ b.1 b.2 (by lia) (fun q hq=>by have:=z.2 q hq;lia) fun s2 h2 k2 l2=>?_
  simp only[W,V,Dd.L];refine⟨flipLv s.length r lv',_,rfl,?_,?_⟩
  ·rw[zv hr];exact t.snoc h2 k2 l2
  ·rw[zkx];exact sm'.flip rk
 ·rintro σ s ⟨lv',w2,rfl,t,sm'⟩;rw[zg] at t;rw[xct] at t;exact k s lv' w2 t sm'
noncomputable def stpD (q:List (List Int×Nat)):List D:=q.map fun z=>.tup [aL z.1,.int z.2]
noncomputable def rowW (a:Lr×List (List Int×Nat)) (r:List Int):Lr×List (List Int×Nat):=match placesL r with
 | []=>a
 | p::_=>(foldR (exRow r p) a.1,a.2++[(r,p)])
structure Wy (s0:Store) (b:Nat) (L M:Nat) (s:Store) (lv:Lv) (q:List (List Int×Nat)):Prop where
 at_:LvAt s L lv
 stp:s[M]?=some (.lst (stpD q))
 ne:M≠L
 ni:∀x∈lv,x.2.1≠M
 bL:b<=L
 bM:b<=M
 bI:∀x∈lv,b<=x.2.1
 low:∀i,i < b->s[i]?=s0[i]?
 bs:b<=s.length
theorem LvAt.more {s:Store}{L:Nat}{lv:Lv}(h:LvAt s L lv)(g:Store):LvAt (s++g) L lv :=
 ⟨by rw[xbs (zh h.at_)];exact h.at_,fun q hq=>by rw[xbs (zh (h.in_ q hq))];exact h.in_ q hq,h.nd,h.ix,h.rows⟩
theorem Wy.more {s0 s:Store}{b L M:Nat}{lv:Lv}{q:List (List Int×Nat)}(h:Wy s0 b L M s lv q)(g:Store):Wy s0 b L M (s++g) lv q :=
 ⟨h.at_.more g,by rw[xbs (zh h.stp)];exact h.stp,h.ne,h.ni,h.bL,h.bM,h.bI,fun i hi=>by rw[xbs (xbh hi h.bs)];exact h.low i hi,by rw[xbq];have:=h.bs;lia⟩
theorem Wy.put {s0 s:Store}{b L M:Nat}{lv:Lv}{q:List (List Int×Nat)}{z:List Int×Nat}(h:Wy s0 b L M s lv q):Wy s0 b L M (s.set M (.lst (stpD q++[.tup [aL z.1,.int z.2]]))) lv (q++[z]):=by
 refine⟨⟨?_,fun x hx=>?_,h.at_.nd,h.at_.ix,h.at_.rows⟩,?_,h.ne,h.ni,h.bL,h.bM,h.bI,fun i hi=>?_,by rw[xcp];exact h.bs⟩
 ·rw[xbl h.ne];exact h.at_.at_
 ·rw[xbl (h.ni x hx).symm];exact h.at_.in_ x hx
 ·rw[zca (zh h.stp)];unfold stpD;rw[xdt];rfl
 ·have:=h.bM;rw[xbl (by lia)];exact h.low i hi
theorem Wy.to {s0 s s2:Store}{b L M:Nat}{lv lv':Lv}{q:List (List Int×Nat)}{ms:List (List Int)}(h:Wy s0 b L M s lv q)(t:LvTo s L lv ms s2 lv'):Wy s0 b L M s2 lv' q:=by
 have hM:=zh h.stp;refine⟨t.at_,?_,h.ne,fun x hx=>?_,h.bL,h.bM,fun x hx=>?_,fun i hi=>?_,xbb h.bs t.len⟩
 ·rw[t.keep M hM h.ne h.ni];exact h.stp
 ·rcases t.ix x hx with h1 | ⟨y,h1,h2⟩
  ·lia
  ·rw[← h2];exact h.ni y h1
 ·rcases t.ix x hx with h1 | ⟨y,h1,h2⟩
  ·exact xbb h.bs h1
  ·rw[← h2];exact h.bI y h1
 ·have h1:=h.bs;have h2:=h.bL;rw[t.keep i (by lia) (by lia) fun x hx=>by have:=h.bI x hx;lia];exact h.low i hi
theorem zzv {S0 S4 v2 v5 v6:Option D}{s0 st:Store}{b L M:Nat}{lv:Lv}{q:List (List Int×Nat)}{rs:List (List Int)}{Q:Fl->Store->Prop}(h:Wy s0 b L M st lv q)(sm:LvG (lvR lv))(hq:q.length+rs.length<=10000000)(hr:∀r∈rs,RowOk r 16 6)
  (k:∀s lv' q' w2 w5 w6,Wy s0 b L M s lv' q'->(lvR lv',q')=rs.foldl rowW (lvR lv,q)->LvG (lvR lv')->q'.length<=q.length+rs.length->Q (.nx [S0,some (.ref L),w2,some (.ref M),S4,w5,w6]) s) :
  WP (forF (gN 2) zoe (aJ rs) [S0,some (.ref L),v2,some (.ref M),S4,v5,v6] st) Q:=by
 refine zhl (fun i σ s=>∃lv' q' w2 w5 w6,σ=[S0,some (.ref L),w2,some (.ref M),S4,w5,w6]/\Wy s0 b L M s lv' q'/\(lvR lv',q')=(rs.take i).foldl rowW (lvR lv,q)/\LvG (lvR lv')/\q'.length<=q.length+i) ⟨lv,q,v2,v5,v6,rfl,h,rfl,sm,xbf _⟩ ?_ ?_
 ·rintro i x σ s hx ⟨lv',q',w2,w5,w6,rfl,wy,ee,sm',ql⟩;obtain⟨r,hg,rfl⟩:=zbr hx;have hi:=(xbc.mp hg).1;have rok:=hr r (xbo hg);have rl:=rok.len;refine⟨[S0,some (.ref L),some (aL r),some (.ref M),S4,w5,w6],rfl,?_⟩;have ef:(rs.take (i+1)).foldl rowW (lvR lv,q)=rowW (lvR lv',q') r:=by rw[zv hg,xhr,← ee];rfl
  unfold zoe;simp only[W,V,Dd.M];refine WP.of (zve (by lia)) ?_
  try simp only[W,V,Dd.M]
  cases hp:placesL r with
  | nil =>
   refine⟨false,rfl,?_⟩;rw[if_neg (by decide)];refine⟨lv',q',_,_,_,rfl,wy,?_,sm',by lia⟩;rw[ef];unfold rowW;rw[hp]
  | cons p ps =>
   refine⟨true,rfl,?_⟩;rw[if_pos rfl];have hs:slowAt r p:=zfy.mp (by rw[hp];simp);have hgd:=zri rok hs;have hpl:p+1 < r.length:=by obtain⟨a,b,_,z,_⟩:=hs;exact(xbc.mp z).1
   have hex:=zil r p;have e0:∀s:Store,oIx (.lst (plD (p::ps))) (.int 0) s=.ok (.int p) s:=fun s=>zkp rfl (zln (j:=0) rfl)
   refine⟨_,_,rfl,wy.stp,WP.of (e0 s) ⟨small _ (by simp),_,_,rfl,wy.stp,by unfold stpD;rw[xbd,xhp];lia,WP.of (e0 _) ?_⟩⟩;have wy2:=wy.put (z:=(r,p));obtain⟨g,e⟩:=zfh (st:=s.set M (.lst (stpD q'++[.tup [aL r,.int p]]))) (r:=r) (p:=p) hpl (by lia) hgd.1.1 (by lia) (by lia) (by lia);refine WP.of e ⟨_,rfl,?_⟩;have wy3:=wy2.more g;refine zbet wy3.at_ sm' (zgc rok hs) fun s2 lv2 w6' t2 sm2=>?_
   refine⟨lv2,q'++[(r,p)],_,_,_,rfl,wy3.to t2,?_,sm2,by rw[xbq,xgh];lia⟩;rw[ef];unfold rowW;rw[hp]
   show _=(foldR (exRow r p) (lvR lv'),q'++[(r,p)])
   rw[t2.eq]
 ·rintro σ s ⟨lv',q',w2,w5,w6,rfl,wy,ee,sm',ql⟩;rw[zg] at ee ql;rw[xct] at ee;exact k s lv' q' w2 w5 w6 wy ee sm' ql
noncomputable def topL (lr:Lr):Int:=match lr.map (·.1) with
 | []=>0
 | k::ks=>bestI true k ks
noncomputable def lessR (lr:Lr) (m:Int):Lr:=lr.filter fun q=>decide (q.1≠m)
noncomputable def lessV (lv:Lv) (m:Int):Lv:=lv.filter fun q=>decide (q.1≠m)
theorem zbeu {lv:Lv}{m:Int}:lvR (lessV lv m)=lessR (lvR lv) m:=by
 unfold lvR lessV lessR;rw[xla];rfl
theorem zbev {lv:Lv}{m:Int}:dropI (lvD lv) m=lvD (lessV lv m):=by
 unfold dropI lvD lessV;rw[xla];rfl
theorem Wy.less {s0 s:Store}{b L M:Nat}{lv:Lv}{q:List (List Int×Nat)}{m:Int}(h:Wy s0 b L M s lv q):Wy s0 b L M (s.set L (.dI (lvD (lessV lv m)))) (lessV lv m) q:=by
 have sub:∀x∈lessV lv m,x∈lv:=fun x hx=>(xcq.mp hx).1
 have iL:∀x∈lv,x.2.1≠L:=fun x hx z=>by have:=h.at_.in_ x hx;rw[z,h.at_.at_] at this;cases this
 refine⟨⟨zca (zh h.at_.at_),fun x hx=>?_,?_,?_,fun x hx=>h.at_.rows x (sub x hx)⟩,?_,h.ne,fun x hx=>h.ni x (sub x hx),h.bL,h.bM,fun x hx=>h.bI x (sub x hx),fun i hi=>?_,by rw[xcp];exact h.bs⟩
 ·rw[xbl (iL x (sub x hx)).symm];exact h.at_.in_ x (sub x hx)
 ·exact h.at_.nd.sublist (xif.map _)
 ·exact h.at_.ix.sublist (xif.map _)
 ·rw[xbl h.ne.symm];exact h.stp
 ·have:=h.bL;rw[xbl (by lia)];exact h.low i hi
end Dd
namespace Dd
open PySem L2
section
variable {st:Store}{n:Nat}{Q:D->Store->Prop}
end
end Dd
namespace K03
end K03
namespace K13
open PySem PyProof.Rows
end K13
namespace Dd
open PySem L2 K13
theorem zyd {c:ST}{body:SS}{Q:Fl->Store->Prop}(I:Nat->DS->Store->Prop){k:Nat}{σ:DS}{st:Store}(h0:I k σ st)(hm:k < 1000000)
  (s:∀j σ st,I j σ st->WP (c σ st) (fun b st1=>if b=true then WP (body σ st1) (loopK (fun σ2 st2=>∃i,i < j/\I i σ2 st2) Q) else Q (.nx σ) st1)):WP (sWhile c body σ st) Q:=by
 have main:∀n j σ st,I j σ st->j < n->WP (whileF c body n σ st) Q:=by
  intro n
  induction n with
  | zero=>intro j σ st _ h;lia
  | succ n ih =>
   intro j σ st hI hlt;obtain⟨b,st1,e1,w⟩:=(s j σ st hI).get;unfold whileF;rw[e1];dsimp only[zl];cases b with
   | false=>exact w
   | true =>
    rw[if_pos rfl] at w ⊢;obtain⟨fl,st2,e2,w⟩:=w.get;rw[e2];cases fl with
    | nx σ2=>obtain⟨i,hi,h⟩:=w;exact ih i σ2 st2 h (by lia)
    | ct σ2=>obtain⟨i,hi,h⟩:=w;exact ih i σ2 st2 h (by lia)
    | brk σ2=>exact w
    | ret v=>exact w
 exact main wCap k σ st h0 hm
section
variable {st:Store}{n:Nat}{Q:D->Store->Prop}
end
end Dd
namespace Dd
open PySem L2 K07 K23
structure Iv (k0:List (List Int)) (m:Int) (lr:Lr) (rs:List (List Int)) (q:List (List Int×Nat)):Prop where
 wk:Wkd k0 q
 g:LvG lr
 lt:∀x∈lr,x.1 < m
 low:∀x,momR 1 x < m->(x∈Wke k0 q↔inM lr x)
 rs_:∀x∈rs,momR 1 x=m/\x∈Wke k0 q
 rn:rs.Nodup
 high:∀x∈Wke k0 q,m<=momR 1 x->x∈rs\/Stp x
theorem zwq {lr:Lr}{ks:List (List Int)}{r:List Int}{m:Int}(G:LvG lr)(hr:RowOk r 16 6)(hm:momR 1 r < m)(h:∀x,momR 1 x < m->(x∈ks↔inM lr x)):∀x,momR 1 x < m->(x∈aP ks r↔inM (flipR r lr) x):=fun x hx=>by
 rw[zbl,zbac G hr,h x hx,h r hm]
theorem ziu {m:Int}:∀{ms:List (List Int)} {lr:Lr} {ks:List (List Int)},LvG lr->(∀r∈ms,RowOk r 16 6/\momR 1 r < m)->(∀x,momR 1 x < m->(x∈ks↔inM lr x))->LvG (foldR ms lr)/\∀x,momR 1 x < m->(x∈ms.foldl aP ks↔inM (foldR ms lr) x)
 | [],lr,ks,G,_,h=>⟨G,h⟩
 | r::ms,lr,ks,G,hm,h=>ziu (ms:=ms) (G.flip (hm r (by simp)).1) (fun x hx=>hm x (xbi _ hx)) (zwq G (hm r (by simp)).1 (hm r (by simp)).2 h)
theorem zpc {x:List Int}:∀{ms ks:List (List Int)},(∀r∈ms,x≠r)->(x∈ms.foldl aP ks↔x∈ks)
 | [],ks,_=>Iff.rfl
 | r::ms,ks,h=>by
  rw[xij,zpc (ms:=ms) fun y hy=>h y (xbi _ hy),zbl];have:=h r (by simp);simp[this]
theorem znt {m:Int}:∀{ms:List (List Int)} {lr:Lr},(∀r∈ms,momR 1 r < m)->(∀x∈lr,x.1 < m)->∀x∈foldR ms lr,x.1 < m
 | [],lr,_,h=>h
 | r::ms,lr,hm,h=>znt (ms:=ms) (fun x hx=>hm x (xbi _ hx)) fun x hx=>by
  rcases zdq x hx with h1 | ⟨h1,_⟩
  ·exact h x h1
  ·rw[h1];exact hm r (by simp)
theorem Iv.row {k0:List (List Int)}{m:Int}{lr:Lr}{rs:List (List Int)}{q:List (List Int×Nat)}{r:List Int}(K:RwsOk k0)(h:Iv k0 m lr (r::rs) q):Iv k0 m (rowW (lr,q) r).1 rs (rowW (lr,q) r).2:=by
 obtain⟨kk,_⟩:=K.walk h.wk;have hr:=h.rs_ r (by simp);have nd:=xdo.mp h.rn;unfold rowW;cases hp:placesL r with
 | nil =>
  refine⟨h.wk,h.g,h.lt,h.low,fun x hx=>h.rs_ x (xbi _ hx),nd.2,fun x hx hm=>?_⟩;rcases h.high x hx hm with z | z
  ·rcases xbr.mp z with rfl | z
   ·exact .inr (zyj hp)
   ·exact .inl z
  ·exact .inr z
 | cons p ps =>
  have hs:slowAt r p:=zfy.mp (by rw[hp];simp);have rok:=kk.row r hr.2;have ml:∀z∈exRow r p,RowOk z 16 6/\momR 1 z < m:=fun z hz=>⟨zgc rok hs z hz,by rw[← hr.1];exact zsq rok.pos hs hz⟩
  have b0:∀x,momR 1 x < m->(x∈aP (Wke k0 q) r↔inM lr x):=fun x hx=>by
   rw[zbl,← h.low x hx];have:x≠r:=fun e=>by rw[e,hr.1] at hx;lia
   simp[this]
  obtain⟨g2,b2⟩:=ziu h.g ml b0;have far:∀x,m<=momR 1 x->(x∈stepK (Wke k0 q) (r,p)↔x∈Wke k0 q/\x≠r):=fun x hx=>by
   show x∈(exRow r p).foldl aP (aP (Wke k0 q) r)↔_;rw[zpc fun y hy e=>by have:=(ml y hy).2;rw[← e] at this;lia,zbl];have:=hr.2;constructor
   ·rintro(z | ⟨rfl,z⟩)
    ·exact z
    ·exact absurd this z
   ·exact fun z=>.inl z
  refine⟨h.wk.snoc hr.2 hs,g2,znt (fun z hz=>(ml z hz).2) h.lt,fun x hx=>?_,fun x hx=>?_,nd.2,fun x hx hm=>?_⟩
  ·rw[Wke.snoc];exact b2 x hx
  ·have hx':=h.rs_ x (xbi _ hx);rw[Wke.snoc];refine⟨hx'.1,(far x (by rw[hx'.1];exact Int.le_refl _)).mpr ⟨hx'.2,fun e=>?_⟩⟩;subst e;exact nd.1 hx
  ·rw[Wke.snoc] at hx;obtain⟨hx,hne⟩:=(far x hm).mp hx;rcases h.high x hx hm with z | z
   ·rcases xbr.mp z with e | z
    ·exact absurd e hne
    ·exact .inl z
   ·exact .inr z
theorem Iv.rows {k0:List (List Int)}{m:Int}(K:RwsOk k0):∀{rs:List (List Int)} {lr:Lr} {q:List (List Int×Nat)},Iv k0 m lr rs q->Iv k0 m (rs.foldl rowW (lr,q)).1 [] (rs.foldl rowW (lr,q)).2
 | [],lr,q,h=>h
 | r::rs,lr,q,h=>Iv.rows (rs:=rs) K (h.row K)
theorem zbcl:∀{lr:Lr},lr≠[]->(∃l,(topL lr,l)∈lr)/\∀x∈lr,x.1<=topL lr
 | [],h=>absurd rfl h
 | a::lr,_=>by
  obtain⟨h1,h2⟩:=zny (lr.map (·.1)) a.1;have e:topL (a::lr)=bestI true a.1 (lr.map (·.1)):=rfl;rw[e];refine⟨?_,fun x hx=>h2 _ (by rw[← xbp (f:=fun q:Int×List (List Int)=>q.1)];exact xcb.mpr ⟨x,hx,rfl⟩)⟩;rw[← xbp (f:=fun q:Int×List (List Int)=>q.1)] at h1;obtain⟨q,hq,e⟩:=xcb.mp h1;exact⟨q.2,by rw[← e];exact hq⟩
theorem Iv.next {k0:List (List Int)}{m:Int}{lr:Lr}{q:List (List Int×Nat)}{l:List (List Int)}(h:Iv k0 m lr [] q)(hl:(topL lr,l)∈lr):Iv k0 (topL lr) (lessR lr (topL lr)) (sortR l) q:=by
 have hn:lr≠[]:=fun e=>by rw[e] at hl;cases hl
 have top:=(zbcl hn).2;have tm:topL lr < m:=h.lt _ hl;have sub:∀x∈lessR lr (topL lr),x∈lr/\x.1≠topL lr:=fun x hx=>by
  obtain⟨h1,h2⟩:=xcq.mp hx;exact⟨h1,xdu h2⟩
 have uq:∀x∈lr,x.1=topL lr->x.2=l:=fun x hx e=>by
  have:=zso h.g.nd hx hl e;rw[this]
 refine⟨h.wk,⟨h.g.nd.sublist (xif.map _),fun x hx=>h.g.row x (sub x hx).1,fun x hx=>h.g.key x (sub x hx).1,fun x hx=>h.g.rnd x (sub x hx).1⟩,fun x hx=>?_,fun x hx=>?_,fun x hx=>?_,?_,fun x hx hm=>?_⟩
 ·have h1:=sub x hx;have h2:=top x h1.1;have h3:=h1.2;lia
 ·rw[h.low x (by lia)];constructor
  ·rintro⟨y,hy,hxy⟩;refine⟨y,xcq.mpr ⟨hy,xbw fun e=>?_⟩,hxy⟩;have:=(h.g.row y hy x hxy).2;lia
  ·rintro⟨y,hy,hxy⟩;exact⟨y,(sub y hy).1,hxy⟩
 ·have hx:=(zbb l).mem_iff.mp hx;have e:=(h.g.row _ hl x hx).2;have e:momR 1 x=topL lr:=e;exact⟨e,(h.low x (by lia)).mpr ⟨_,hl,hx⟩⟩
 ·exact(zbb l).nodup_iff.mpr (h.g.rnd _ hl)
 ·rcases Int.lt_or_le (momR 1 x) m with z | z
  ·obtain⟨y,hy,hxy⟩:=(h.low x z).mp hx;have e:=(h.g.row y hy x hxy).2;have e2:=top y hy;exact .inl ((zbb l).mem_iff.mpr (by rw[← uq y hy (by lia)];exact hxy))
  ·rcases h.high x hx z with z | z
   ·cases z
   ·exact .inr z
theorem Iv.end_ {k0:List (List Int)}{m:Int}{q:List (List Int×Nat)}(h:Iv k0 m [] [] q):∀x∈Wke k0 q,Stp x:=fun x hx=>by
 rcases Int.lt_or_le (momR 1 x) m with z | z
 ·obtain⟨y,hy,_⟩:=(h.low x z).mp hx;cases hy
 ·rcases h.high x hx z with z | z
  ·cases z
  ·exact z
theorem Iv.start {k0:List (List Int)}(K:RwsOk k0):Iv k0 113 (foldR k0 []) [] []:=by
 have hb:∀r∈k0,RowOk r 16 6/\momR 1 r < 113:=fun r hr=>⟨K.row r hr,by have:=zzs (K.row r hr);lia⟩
 obtain⟨g,h⟩:=ziu (m:=113) (ms:=k0) (lr:=[]) (ks:=[]) ⟨by simp,fun q hq=>(by cases hq),fun q hq=>(by cases hq),fun q hq=>(by cases hq)⟩ hb fun x _=>by unfold inM;simp
 have e:∀x,x∈k0.foldl aP []↔x∈k0:=fun x=>by
  have:=(zjq k0 [] xej).2.2 x;rw[this,xkw K.nd];by_cases c:x∈k0<;>simp[c]
 refine⟨trivial,g,znt (fun z hz=>(hb z hz).2) (fun x hx=>(by cases hx)),fun x hx=>?_,fun x hx=>(by cases hx),xej,fun x hx hm=>?_⟩
 ·rw[← h x hx,e];rfl
 ·have:=(hb x hx).2;lia
theorem zbck {f:SE}{σ:DS}{st:Store}{L:Nat}{kvs:List (Int×D)}(hf:f σ st=.ok (.ref L) st)(h:st[L]?=some (.dI kvs)):bTruI f σ st=.ok (!kvs.isEmpty) st:=by
 unfold bTruI;rw[hf,zl];dsimp only;rw[h]
theorem zbes {st:Store}{L:Nat}{lv:Lv}(h:st[L]?=some (.dI (lvD lv)))(hn:lv≠[]):bMaxI [.ref L] st=.ok (.int (topL (lvR lv))) st:=by
 unfold bMaxI;dsimp only;rw[h];cases lv with
 | nil=>exact absurd rfl hn
 | cons a lv =>
  show Res.ok (D.int (bestI true a.1 ((lvD lv).map (·.1)))) st=.ok (D.int (bestI true a.1 ((lvR lv).map (·.1)))) st
  congr 3
  unfold lvD lvR;rw[xdl,xdl];rfl
theorem zbdb {f:SE}{g:SA}{σ:DS}{st:Store}{L:Nat}{kvs:List (Int×D)}{k:Int}{v:D}(hf:f σ st=.ok (.ref L) st)(h:st[L]?=some (.dI kvs))(hg:g σ st=.ok [.int k] st)(hv:valI kvs k=some v):ePopI f g σ st=.ok v (st.set L (.dI (dropI kvs k))):=by
 unfold ePopI;rw[hf,zl];dsimp only
 rw[h];dsimp only
 rw[hg,zl];try dsimp only
 rw[h];try dsimp only
 rw[hv]
theorem zut {s st:Store}(h:∀i,i < st.length->s[i]?=st[i]?)(hl:st.length<=s.length):s=st++s.drop st.length:=by
 refine xfv fun i=>?_
 rcases xge i st.length with z | z
 ·rw[h i z,xbs z]
 ·rw[xco z,xey];congr 1;lia
structure Way (ks:List (List Int)) (q:List (List Int×Nat)):Prop where
 wk:Wkd ks q
 fin:∀x∈Wke ks q,Stp x
 len:q.length<=2000000
theorem zyf {st:Store}{ks:List (List Int)}{T:SS}{QQ:Fl->Store->Prop}(K:RwsOk ks)(k:∀q M s w2 w4 w5 w6,Way ks q->s[M]?=some (.lst (stpD q))->st.length<=M->(∀i,i < st.length->s[i]?=st[i]?)->WP (T [some (aK ks),some (.ref st.length),w2,some (.ref M),w4,w5,w6] s) QQ) :
  WP (aD (aF 1 eDNewI) (aD (sFor (aH (aA 0)) (gN 2) zlo) (aD (aF 3 (eLstM aC)) (aD (sWhile (bTruI (aA 1)) zod) T))) [some (aK ks),none,none,none,none,none,none] st) QQ:=by
 simp only[W,V];refine WP.of (show eDNewI _ st=.ok (.ref st.length) (st++[.dI []]) from rfl) ?_
 try simp only[W,V]
 refine⟨_,rfl,?_⟩;have a0:LvAt (st++[O.dI []]) st.length []:=⟨by simp;rfl,fun q hq=>(by cases hq),by simp,by simp,fun q hq=>(by cases hq)⟩
 refine zbaf (lv:=[]) a0 ⟨by simp[lvR],fun q hq=>(by cases hq),fun q hq=>(by cases hq),fun q hq=>(by cases hq)⟩ K.row fun s lv w2 t G=>?_
 simp only[W,V];refine⟨small _ (by simp),?_⟩;have hlen:=t.len;rw[xbq,xgh] at hlen;have ixl:∀x∈lv,st.length+1<=x.2.1:=fun x hx=>by
  rcases t.ix x hx with z | ⟨y,hy,_⟩
  ·rw[xbq,xgh] at z;exact z
  ·cases hy
 have wy:Wy st st.length st.length s.length (s++[.lst []]) lv []:=by
  refine⟨t.at_.more _,by simp;rfl,by lia,fun x hx=>xce (zh (t.at_.in_ x hx)),xbf _,by lia,fun x hx=>by have:=ixl x hx;lia,fun i hi=>?_,by rw[xbq];lia⟩;rw[xbs (by lia),t.keep i (by rw[xbq];lia) (by lia) fun q hq=>(by cases hq),xbs hi]
 have iv:Iv ks (113:Nat) (lvR lv) [] []:=by
  rw[t.eq];exact Iv.start K
 generalize s.length=M at wy;refine zyd (fun j σ s=>∃lv q w2 w4 w5 w6,σ=[some (aK ks),some (.ref st.length),w2,some (.ref M),w4,w5,w6]/\Wy st st.length st.length M s lv q/\Iv ks (j:Int) (lvR lv) [] q/\q.length+15000 * j<=15000 * 113) (k:=113) ⟨lv,[],_,_,_,_,rfl,wy,iv,by simp⟩ (by lia) ?_;rintro j σ s ⟨lv,q,w2,w4,w5,w6,rfl,wy,iv,ql⟩;refine WP.of (zbck rfl wy.at_.at_) ?_;cases lv with
 | nil =>
  rw[if_neg (by simp[lvD])];simp only[W];exact k q M s _ _ _ _ ⟨iv.wk,iv.end_,by lia⟩ wy.stp wy.bM wy.low
 | cons a lv0 =>
  rw[if_pos (by simp[lvD])];generalize hlv:a::lv0=lv at *
  have hne:lv≠[]:=by rw[← hlv];simp
  have hneR:lvR lv≠[]:=by rw[← hlv];simp[lvR]
  clear hlv a lv0;obtain⟨⟨l,hl⟩,_⟩:=zbcl hneR;obtain⟨y,hy,ey⟩:=xcb.mp (show(topL (lvR lv),l)∈lv.map fun q=>(q.1,q.2.2) from hl);have e1:y.1=topL (lvR lv):=congrArg Prod.fst ey;have e2:y.2.2=l:=congrArg Prod.snd ey;have ev:valI (lvD lv) (topL (lvR lv))=some (.ref y.2.1):=by
   rw[zrb];cases hf:lv.find? fun q=>decide (q.1=topL (lvR lv)) with
   | none=>exact absurd e1 (by simpa using List.find?_eq_none.mp hf y hy)
   | some z =>
    have h1:z.1=topL (lvR lv):=by simpa using List.find?_some hf
    rw[zso wy.at_.nd (xkl hf) hy (h1.trans e1.symm)];rfl
  have eg:aB (aE bMaxI (aB (aA 1) aC)) aC [some (aK ks),some (.ref st.length),w2,some (.ref M),w4,w5,w6] s=.ok [.int (topL (lvR lv))] s:=by
   rw[zew,show aE bMaxI (aB (aA 1) aC) [some (aK ks),some (.ref st.length),w2,some (.ref M),w4,w5,w6] s=_ from zbes wy.at_.at_ hne]
   rfl
  unfold zod;simp only[W,V];refine WP.of (zbdb rfl wy.at_.at_ eg ev) ?_;rw[zbev]
  try simp only[W,V]
  have ynL:y.2.1≠st.length:=fun z=>by have:=wy.at_.in_ y hy;rw[z,wy.at_.at_] at this;cases this
  have in2:(s.set st.length (.dI (lvD (lessV lv (topL (lvR lv))))))[y.2.1]?=some (.dT (aQ l)):=by
   rw[xbl ynL.symm,← e2];exact wy.at_.in_ y hy
  have fl:=iv.g.few.2 _ hl;have fl:l.length<=15000:=fl;refine WP.of (zgj in2 (by lia)) ⟨_,rfl,?_⟩;have iv2:=iv.next hl;have wy2:=wy.less (m:=topL (lvR lv));rw[← zbeu] at iv2;have sl:(sortR l).length=l.length:=zcu l;have tj:topL (lvR lv) < j:=iv.lt _ hl;have t0:0<=topL (lvR lv):=(iv.g.key _ hl).1;refine zzv wy2 iv2.g (by lia) (fun r hr=>(iv.g.row _ hl r ((zbb l).mem_iff.mp hr)).1) fun s3 lv3 q3 x2 x5 x6 wy3 ee g3 ql3=>?_
  refine⟨(topL (lvR lv)).toNat,by lia,lv3,q3,_,_,_,_,rfl,wy3,?_,by lia⟩;have iv3:=iv2.rows K;rw[← ee] at iv3;rw[Int.toNat_of_nonneg t0];exact iv3
theorem zbhq {st:Store}{ks:List (List Int)}{Q:D->Store->Prop}(K:RwsOk ks)(k:∀q g,Way ks q->Q (.lst (stpD q)) (st++g)):WP (zbhf [aK ks] st) Q:=by
 refine zud rfl ?_;refine zyf K fun q M s w2 w4 w5 w6 w hM hb low=>?_
 simp only[W,V,Dd.M];refine⟨_,_,rfl,hM,?_⟩;have e:=zut (s:=s.set M .dead) (st:=st) (fun i hi=>by rw[xbl (by lia)];exact low i hi) (by rw[xcp];have:=zh hM;lia);rw[e];exact k q _ w
theorem zqz {st:Store}{ks:List (List Int)}{q:List (List Int×Nat)}{Q:D->Store->Prop}(K:RwsOk ks)(w:Wkd ks q)(k:∀g,Q (aK (sortR (Wke ks q))) (st++g)):WP (zgh [aK ks,.lst (stpD q)] st) Q:=by
 refine zud rfl ?_;simp only[W,V];refine WP.of (znb K.nd (by have:=K.few;lia)) ?_
 try simp only[W,V]
 refine⟨_,rfl,?_⟩;refine zhl (fun i σ s=>∃v3 v4 g,σ=[some (aK ks),some (.lst (stpD q)),some (.ref st.length),v3,v4]/\s=st++.dT (aQ (Wke ks (q.take i)))::g/\RwsOk (Wke ks (q.take i))/\Wkd (Wke ks (q.take i)) (q.drop i)) ⟨_,_,[],rfl,rfl,K,w⟩ ?_ ?_
 ·rintro i x σ s hx ⟨v3,v4,g,rfl,rfl,K',w'⟩;unfold stpD at hx;rw[xcd] at hx;obtain⟨z,hz,rfl⟩:=xcv.mp hx;have hi:=(xbc.mp hz).1;have hd:q.drop i=z::q.drop (i+1):=by
   rw[xcw hi];congr 1;exact(xbc.mp hz).2
  have ht:q.take (i+1)=q.take i++[z]:=zv hz;rw[hd] at w';obtain⟨m1,m2,m3⟩:=w';have rok:=K'.row _ m1;have hg:=zri rok m2;refine⟨[some (aK ks),some (.lst (stpD q)),some (.ref st.length),some (aL z.1),some (.int z.2)],rfl,?_⟩;unfold zhf;simp only[W,V];obtain⟨g2,e⟩:=zlf (st:=st++.dT (aQ (Wke ks (q.take i)))::g) (n:=st.length) (p:=z.2) (by simp) K'.nd (by have:=K'.few;lia) m1 (by have:=rok.len;lia) m2 hg.1.1 (by lia) (by lia) (by lia);refine WP.of e ?_;simp only[L];refine⟨_,_,g++g2,rfl,?_,?_,?_⟩
  ·rw[ht,Wke.snoc];unfold stepK;simp
  ·rw[ht,Wke.snoc];exact(K'.step m1 m2).1
  ·rw[ht,Wke.snoc];exact m3
 ·rintro σ s ⟨v3,v4,g,rfl,rfl,K',w'⟩;rw[show(stpD q).length=q.length from xbd ..,xct] at *
  simp only[W,V];refine WP.of (zgj (n:=st.length) (ks:=Wke ks q) (by simp) (by have:=K'.few;lia)) ?_;exact WP.of (show bTuple [.lst (aJ (sortR (Wke ks q)))] _=.ok (aK (sortR (Wke ks q))) _ from rfl) (k _)
theorem zrj {st:Store}{ks:List (List Int)}{Q:D->Store->Prop}(K:RwsOk ks)(k:∀g,Q (aK (stl (nuS ks))) (st++g)):WP (zdh [aK ks] st) Q:=by
 refine zud rfl ?_;simp only[W,V];refine zbhq K fun q g w=>?_
 refine zqz K w.wk fun g2=>?_
 rw[zyg K w.wk w.fin,xck];exact k _
section
variable {st:Store}{n:Nat}{Q:D->Store->Prop}
theorem zxu {f g:SE}{σ:DS}{ks:List (List Int)}{r:List Int}(hf:f σ st=.ok (.ref n) st)(hg:g σ st=.ok (aL r) st)(h:st[n]?=some (.dT (aQ ks)))(hr:r∈ks):eDPop f g σ st=.ok (.bl true) (st.set n (.dT (aQ (aP ks r)))):=by
 have e2:valD (aQ ks) r=some (.bl true):=by rw[zfr,if_pos hr]
 have e3:aP ks r=ks.filter fun x=>decide (x≠r):=by unfold aP;rw[if_pos hr]
 have e4:=zgu h;have e5:=zdd r;rw[e3,← zmh];rw[zbfm,hf,zl,e4];dsimp only;rw[hg,zl,e5];dsimp only;rw[h];dsimp only;rw[e2]
theorem zbay {f g:SE}{σ:DS}{ks:List (List Int)}{r:List Int}{QQ:Fl->Store->Prop}(hf:∀s,f σ s=.ok (.ref n) s)(hg:∀s,g σ s=.ok (aL r) s)(h:st[n]?=some (.dT (aQ ks)))(hl:ks.length<=1000000)(q:QQ (.nx σ) (st.set n (.dT (aQ (aP ks r))))) :
  WP (sIf (eB (aS (oDIn false) g f)) (sDrop (eDPop f g)) (sDPut f g (eC (.bl true))) σ st) QQ:=by
 have e1:=zsh (k:=r) (zgu h);rw[zfr] at e1;have e0:eB (aS (oDIn false) g f) σ st=.ok (decide (r∈ks)) st:=by
  rw[eB_v,zbhm,hg,zl,hf,zl,e1];by_cases c:r∈ks
  ·rw[if_pos c,xbw c];rfl
  ·rw[if_neg c,xbu c];rfl
 by_cases c:r∈ks
 ·rw[xbw c] at e0;rw[zro,e0,zl,if_pos rfl,zly,zxu (hf _) (hg _) h c];exact q
 ·rw[xbu c] at e0;rw[zro,e0,zl,if_neg (by decide)];have e3:aP ks r=ks++[r]:=by unfold aP;rw[if_neg c]
  have e5:=zdd r;have e6:(aQ ks).length < sizeLine:=by rw[xbd];exact smallT _ hl
  rw[e3,← zki c] at q;refine WP.of (st:=st.set n (.dT (putD (aQ ks) r (.bl true)))) ?_ q;unfold sDPut;rw[show eC (.bl true) σ st=.ok (.bl true) st from rfl,zl,hf,zl,hg,zl,e5];dsimp only;rw[h];dsimp only;rw[if_pos e6]
end
end Dd
namespace K29
end K29
namespace Dd
open PySem L2 K13
section
variable {st:Store}{n:Nat}{Q:D->Store->Prop}
end
section
variable {st:Store}{n:Nat}{Q:D->Store->Prop}
end
end Dd
namespace K13
end K13
namespace Dd
open PySem L2 K13
section
variable {st:Store}{n:Nat}{Q:D->Store->Prop}
end
end Dd
namespace Dd
open PySem L2 K07 K23
section
variable {st:Store}{n:Nat}{Q:D->Store->Prop}
end
section
variable {st:Store}{n:Nat}{Q:D->Store->Prop}
theorem zom {s:Store}{N:Nat}{x y:O}:(s.set N x).set N y=s.set N y:=by
 refine xfv fun i=>?_
 by_cases h:i=N
 ·subst h;rcases xge i s.length with z | z
  ·rw[zca (by rw[xcp];exact z),zca z]
  ·rw[xem (by rw[xcp,xcp];exact z),xem (by rw[xcp];exact z)]
 ·rw[xbl (xdv h),xbl (xdv h),xbl (xdv h)]
theorem zrk {s:Store}{N:Nat}{x:O}(h:s[N]?=some x):s.set N x=s:=by
 refine xfv fun i=>?_
 by_cases e:i=N
 ·subst e;rw[zca (zh h),h]
 ·rw[xbl (xdv e)]
theorem zfl {N:Nat}{x:D}{ks ms:List (List Int)}(hx:seqV x=some (aJ ms))(h:st[N]?=some (.dT (aQ ks)))(K:RwsOk ks)(hm:∀r∈ms,RowOk r 16 6)(k:Q .non (st.set N (.dT (aQ (ms.foldl aP ks))))):WP (zu [.ref N,x] st) Q:=by
 refine zud rfl ?_;simp only[W,V];refine⟨_,hx,?_⟩;refine zhl (fun i σ s=>∃v2,σ=[some (.ref N),some x,v2]/\s=st.set N (.dT (aQ ((ms.take i).foldl aP ks)))) ⟨_,rfl,(zrk h).symm⟩ ?_ ?_
 ·rintro i y σ s hy ⟨v2,rfl,rfl⟩;obtain⟨r,hr,rfl⟩:=zbr hy;refine⟨[some (.ref N),some x,some (aL r)],rfl,?_⟩;unfold zdu;have nd:=znu (m:=ms.take i) K.nd;have few:=znc nd fun z hz=>by
   rcases zld hz with hz | hz
   ·exact K.row z hz
   ·exact hm z (xgs hz)
  refine zbay (n:=N) (r:=r) (fun _=>rfl) (fun _=>rfl) (zca (zh h)) (by lia) ?_;simp only[L];refine⟨_,rfl,?_⟩;rw[zom,zv hr,xhr]
  rfl
 ·rintro σ s ⟨v2,rfl,rfl⟩;rw[zg,xct];simp only[W,V];exact k
theorem zjo:∀(r:List Int) (m:Int),((List.range r.length).map fun k:Nat=>(m+k) * r.getD k 0)=prodL m r
 | [],m=>rfl
 | x::r,m=>by
  rw[xbv,List.range_succ_eq_map,xbp,xdl,prodL,← zjo r (m+1)]
  congr 1
  ·simp
  ·refine xes fun k _=>?_
   simp only[Function.comp];rw[show m+((k+1:Nat):Int)=m+1+(k:Int) by lia]
   rfl
theorem zsp {r:List Int}{d:D}(hd:d=aL r)(hl:r.length<=1000)(hr:∀x∈r,-10000<=x/\x<=10000)(k:Q (.int (momR 1 r)) st):WP (zbp [d] st) Q:=by
 refine zud rfl ?_;subst hd;simp only[W,V];rw[show(((r.map D.int).length:Nat):Int)=(r.length:Int) by simp];refine⟨_,rfl,rngN (by lia) (by lia),by rw[zbh];exact small _ (by lia),?_⟩;rw[show((r.length:Int)).toNat=r.length by lia];unfold rng;refine zye (as:=List.range r.length) (fun σ=>∃v,σ=[v,some (aL r)]) (fun _=>true) (fun k:Nat=>D.int ((1+(k:Int)) * r.getD k 0)) (fun k:Nat=>D.int (0+k)) ⟨_,rfl⟩ ?_ ?_
 ·rintro p hp σ ⟨v,rfl⟩;have hp:=xcf.mp hp;have g1:r[p]?=some (r.getD p 0):=by rw[xbg,xbe hp];rfl
  have b:=hr _ (xbo g1);refine⟨_,rfl,⟨_,rfl⟩,by simp only[W,and_self],fun _=>?_⟩;rw[xgu];simp only[W,V];refine WP.of (zfw g1) ?_;simp only[W];refine⟨mulR b.1 b.2,trivial,?_⟩;rw[Int.add_comm]
 ·rw[zpg];simp only[M];refine⟨prodL 1 r,?_,?_⟩
  ·show asInts _=_;rw[← zjo r 1,show((List.range r.length).map fun k:Nat=>D.int ((1+(k:Int)) * r.getD k 0))=((List.range r.length).map fun k:Nat=>(1+(k:Int)) * r.getD k 0).map D.int by rw[xdl];rfl];exact zgg _
  ·rw[zkj];exact k
theorem zxi {r:List Int}(rok:RowOk r 16 6)(hp:placesL r≠[])(hb:BagAt st n)(k:∀p s,slowAt r p->Drew st s n->Q (.lst (aJ (exRow r p))) s):WP (zcz [.ref n,aL r] st) Q:=by
 have rl:=rok.len;have pl:(placesL r).length<=6:=by
  unfold placesL;have:=xeu (fun p=>decide (slowAt r p)) (List.range (r.length - 1));rw[xgp] at this;lia
 have pp:0 < (placesL r).length:=List.length_pos_iff.mpr hp;refine zud rfl ?_;simp only[W,V];refine WP.of (zdc (by lia)) (WP.of (zdc (by lia)) ?_);simp only[W];rw[show(((plD (placesL r)).length:Nat):Int)=((placesL r).length:Int) by simp];refine zwu hb (by lia) (by lia) fun t s1 t0 t1 d1=>?_
 obtain⟨t,rfl⟩:=xfd t0;have ht:t < (placesL r).length:=by lia
 have hsl:slowAt r (placesL r)[t]:=zfy.mp (xdz ht);refine zbmf (xs:=plD (placesL r)) (d:=.int ((placesL r)[t]:Nat)) rfl (zln (by rw[xcd,xbe ht];rfl)) ?_;generalize (placesL r)[t]=p at hsl;have hgd:=zri rok hsl;have hpl:p+1 < r.length:=by obtain⟨a,b,_,z,_⟩:=hsl;exact(xbc.mp z).1
 have hab:r.getD p 0 < 2 * r.getD (p+1) 0:=by
  obtain⟨a,b,e1,e2,h⟩:=hsl;rw[xbg,e1,xbg,e2];exact h
 have g1:r[p]?=some (r.getD p 0):=by rw[xbg,xbe (by lia)];rfl
 have g2:r[p+1]?=some (r.getD (p+1) 0):=by rw[xbg,xbe (by lia)];rfl
 have e3:=fun s=>zfw (st:=s) g1
 have e4:=fun s=>zfw (st:=s) g2
 rw[xft] at e4;have kk:=k p;unfold exRow at kk;generalize r.getD p 0=a at *
 generalize r.getD (p+1) 0=b at *
 simp only[W,V];refine WP.of (e3 _) (WP.of (e4 _) ?_);obtain⟨g,e⟩:=zqq (st:=s1) (a:=a) (b:=b) (by lia) (by lia) (by lia) (by lia) hab;have few:(sortR (rowsL a b (a / 2+1).toNat)).length<=100:=by
  rw[zcu];have:=zea a b (a / 2+1).toNat;lia
 refine WP.of e ⟨_,rfl,by rw[zg];exact small _ (by lia),?_⟩;have c1:=zxx r p;have c2:=zpq r (p+2);rw[xft] at c2;refine zye (as:=sortR (rowsL a b (a / 2+1).toNat)) (fun σ=>∃v,σ=[v,some (aL r),some (.int p)]) (fun _=>true) (fun two=>aL (r.take p++two++r.drop (p+2))) aL ⟨_,rfl⟩ ?_ ?_
 ·rintro two ht σ ⟨v,rfl⟩;have h2:two.length<=2:=zjn two ((zbb _).mem_iff.mp ht);refine⟨_,rfl,⟨_,rfl⟩,by simp only[W,and_self],fun _=>?_⟩;simp only[W,V,M];refine⟨_,rfl,.inl ⟨_,rfl,?_⟩⟩;rw[c1];have l1:(r.take p).length<=100:=by rw[xcx];lia
  have l2:(r.drop (p+2)).length<=100:=by rw[xev];lia
  refine⟨by rw[xbd,xbd];exact small _ (by lia),_,rfl,.inl ⟨_,rfl,?_⟩⟩;rw[show(p:Int)+2=(p:Int)+(2:Nat) from rfl,c2];refine⟨by rw[xbq,xbd,xbd,xbd];exact small _ (by lia),trivial,?_⟩;simp[aL]
 ·rw[zpg];have:=kk (s1++g) hsl (d1.trans (.more d1.bag g));rw[show aJ ((sortR (rowsL a b (a / 2+1).toNat)).map fun two=>r.take p++two++r.drop (p+2))=(sortR (rowsL a b (a / 2+1).toNat)).map fun two=>aL (r.take p++two++r.drop (p+2)) from by unfold aJ;rw[xdl];rfl] at this;exact this
end
section
variable {st:Store}{n:Nat}{Q:D->Store->Prop}
theorem zbcm {i N:Nat}{f:SS}{σ:DS}{kv0:List (List Int×D)}{QQ:Fl->Store->Prop}(hi:σ[i]?=some (some (.ref N)))(hN:st[N]?=some (.dT kv0))(w:WP (f σ st) (fun fl s=>∃σ1 kvs,fl=.nx σ1/\s[N]?=some (.fT kvs)/\QQ (.nx σ1) (s.set N (.dT kvs)))):WP (sThaw i f σ st) QQ:=by
 obtain⟨fl,s,e,σ1,kvs,rfl,h1,q⟩:=w.get;unfold sThaw;rw[hi];dsimp only;rw[hN];dsimp only;rw[e,zl,h1];exact q
theorem zoy (ks:List (List Int)):(aQ ks).map (·.1)=ks:=by
 unfold aQ;rw[xdl];exact List.map_id ks
theorem zbad {f:SE}{σ:DS}{N:Nat}{ks:List (List Int)}{Q:List D->Store->Prop}(hf:f σ st=.ok (.ref N) st)(hN:st[N]?=some (.dT (aQ ks)))(q:Q (aJ ks) (st.set N (.fT (aQ ks)))):WP (iDict f σ st) Q:=by
 unfold iDict;rw[hf,zl];dsimp only;rw[hN];dsimp only;rw[zoy];exact q
noncomputable def opL (ks:List (List Int)):List (List Int):=ks.filter fun r=>!stB28 r
where stB28 (r:List Int):Bool:=decide (placesL r=[])
theorem zbdw {ks:List (List Int)}(h:opL ks=[]):∀r∈ks,Stp r:=fun r hr=>by
 refine zyj (xkm fun c=>?_);have:r∈opL ks:=xcq.mpr ⟨hr,by show(!decide (placesL r=[]))=true;rw[xbu c];rfl⟩;rw[h] at this;cases this
theorem zbdx {ks:List (List Int)}{r:List Int}(h:r∈opL ks):r∈ks/\placesL r≠[]:=by
 obtain⟨h1,h2⟩:=xcq.mp h;refine⟨h1,fun c=>?_⟩;have h2:(!decide (placesL r=[]))=true:=h2;rw[xbw c] at h2;cases h2
theorem zvj {a0 a1 a3 a4 a5:Option D}{N:Nat}{ks:List (List Int)}(K:RwsOk ks)(hN:st[N]?=some (.dT (aQ ks))){QQ:Fl->Store->Prop}(k:QQ (.nx [a0,a1,some (.ref N),a3,some (.lst (aJ (opL ks))),a5]) st) :
  WP (sThaw 2 (aF 4 (aG (iDict (aA 2)) 1 [] (gN 0) (eB (aS oGt (aE bLen (aB (aE zbe (aB (aA 0) aC)) aC)) (eC (.int 0)))) (aA 0))) [a0,a1,some (.ref N),a3,a4,a5] st) QQ:=by
 refine zbcm (i:=2) rfl hN ?_;have few:=K.few;simp only[W,V];refine zbad (N:=N) rfl hN ⟨by rw[zg];exact small _ (by lia),?_⟩;refine zye (as:=ks) (fun σ=>∃v,σ=[v]) (fun r=>!opL.stB28 r) aL aL ⟨_,rfl⟩ ?_ ?_
 ·rintro r hx σ ⟨v,rfl⟩;have:=(K.row r hx).len;refine⟨_,rfl,⟨_,rfl⟩,?_,fun _=>by simp only[W,V,and_self]⟩;simp only[W,V];refine WP.of (zdc (by lia)) ?_;simp only[W];refine⟨trivial,by first | rfl | trivial,?_⟩;show decide _=!decide (placesL r=[]);cases hp:placesL r with
  | nil=>rfl
  | cons p ps =>
   rw[xbw (by simp),xbu (by simp)]
   rfl
 ·refine⟨_,_,rfl,zca (zh hN),?_⟩;rw[zom,zrk hN];exact k
theorem zwr {rows:List (List Int)}(K:RwsOk rows)(hb:BagAt st n)(hn:n < st.length)(kn:∀s,Drew st s n->Q .non s)(kr:∀s,Drew st s n->Q (aK (stl (nuS rows))) s):WP (zda [.ref n,aK rows] st) Q:=by
 refine zud rfl ?_;simp only[W,V];have hN0:(st++[O.dT []])[st.length]?=some (.dT (aQ [])):=by simp[aQ]
 refine zfl (ks:=[]) (ms:=rows) rfl hN0 ⟨xej,fun r hr=>(by cases hr)⟩ K.row ?_
 have K0:RwsOk (rows.foldl aP []):=⟨znu xej,fun r hr=>by
  rcases zld hr with hr | hr
  ·cases hr
  ·exact K.row r hr⟩
 have v0:nuS (rows.foldl aP [])=nuS rows:=by rw[zkr rows [] xej];exact xir _
 have D0:Drew st ((st++[O.dT []]).set st.length (.dT (aQ (rows.foldl aP [])))) n:=(Drew.more hb _).over hn (xbf _);refine⟨_,rfl,rngN (by lia) (by lia),?_⟩;refine zhl (fun i σ s=>∃ks v3 v4 v5,σ=[some (.ref n),some (aK rows),some (.ref st.length),v3,v4,v5]/\s[st.length]?=some (.dT (aQ ks))/\RwsOk ks/\nuS ks=nuS rows/\Drew st s n) ⟨rows.foldl aP [],_,_,_,rfl,zca (by simp),K0,v0,D0⟩ ?_ ?_
 ·rintro i x σ s hx ⟨ks,v3,v4,v5,rfl,hN,Kk,vk,dk⟩;refine⟨_,rfl,?_⟩;unfold zfi;rw[zue];simp only[V];refine zvj Kk hN ?_;have few:=Kk.few;simp only[W,V];rw[show(((aJ (opL ks)).length:Nat):Int)=((opL ks).length:Int) by rw[zg]];have ol:(opL ks).length<=ks.length:=xeu _ _;by_cases c:(opL ks).length=0
  ·rw[if_pos (by lia)];refine WP.of (zgj hN (by lia)) ?_;refine WP.of (show bTuple [.lst (aJ (sortR ks))] _=.ok (aK (sortR ks)) _ from rfl) ?_;simp only[L,W];rw[zyk (fun r hr=>⟨Kk.row r hr,zbdw (xja.mp c) r hr⟩) Kk.nd,vk];exact kr s dk
  ·rw[if_neg (by lia)];refine zwu dk.bag (by lia) (by lia) fun t s1 t0 t1 d1=>?_
   obtain⟨t,rfl⟩:=xfd t0;have ht:t < (opL ks).length:=by lia
   obtain⟨m1,m2⟩:=zbdx (xdz ht);refine zbmf (xs:=aJ (opL ks)) (d:=aL (opL ks)[t]) rfl (zln (by unfold aJ;rw[xcd,xbe ht];rfl)) ?_;generalize (opL ks)[t]=r at m1 m2;have hNl:=zh hN;have hN1:s1[st.length]?=some (.dT (aQ ks)):=by rw[d1.keep st.length hNl (by lia)];exact hN
   refine WP.of (zxu rfl rfl hN1 m1) ?_;have d2:Drew st (s1.set st.length (.dT (aQ (aP ks r)))) n:=(dk.trans d1).over hn (xbf _);refine zxi (Kk.row r m1) m2 d2.bag fun p s3 hsl d3=>?_
   have hN3:s3[st.length]?=some (.dT (aQ (aP ks r))):=by
    rw[d3.keep st.length (by rw[xcp];exact zh hN1) (by lia)];exact zca (zh hN1)
   have Kf:RwsOk (aP ks r):=⟨zcb Kk.nd,fun x hx=>by
    rw[zbl] at hx;rcases hx with⟨hx,_⟩ | ⟨rfl,_⟩
    ·exact Kk.row x hx
    ·exact Kk.row _ m1⟩
   refine zfl (ks:=aP ks r) (ms:=exRow r p) rfl hN3 Kf (zgc (Kk.row r m1) hsl) ?_;obtain⟨Ks,vs⟩:=Kk.step (z:=(r,p)) m1 hsl;simp only[L];refine⟨stepK ks (r,p),_,_,_,rfl,zca (zh hN3),Ks,vs.trans vk,(d2.trans d3).over hn (xbf _)⟩
 ·rintro σ s ⟨ks,v3,v4,v5,rfl,hN,Kk,vk,dk⟩;simp only[W,V];exact kn s dk
end
theorem zxj:∀{r:List Int} {k:Int},1<=k->(∀x∈r,1<=x)->momR k r<=(k - 1+r.length) * r.sum
 | [],k,_,_=>by simp[momR]
 | x::r,k,hk,h=>by
  have h1:=zxj (r:=r) (k:=k+1) (by lia) fun y hy=>h y (xbi _ hy)
  have h2:=h x (by simp);have h3:0<=(r.length:Int) * x:=xjz (by lia) (by lia);rw[xgn,xbv,xkb];unfold momR;have e1:(k - 1+((r.length+1:Nat):Int)) * x=k * x+(r.length:Int) * x:=by rw[← xie];congr 1;push_cast;lia
  have e2:(k+1 - 1+(r.length:Int)) * r.sum=(k - 1+((r.length+1:Nat):Int)) * r.sum:=by congr 1;push_cast;lia
  rw[e1];rw[e2] at h1
  lia
theorem zbjn {r:List Int}(h:RowOk r 16 6):∃m:Nat,momR 1 r=m/\m < 97:=by
 have h0:=(zzs h).1;have h1:=h.len;have h2:=h.sum;have h3:0<=r.sum:=zcd h.pos;have h4:=zxj (k:=1) (by lia) h.pos;have h5:(1 - 1+(r.length:Int)) * r.sum<=6 * r.sum:=xjr (by lia) h3;exact⟨(momR 1 r).toNat,by lia,by lia⟩
noncomputable def byD (L:Nat):List D:=(List.range 97).map fun i=>D.ref (L+i)
noncomputable def LvF (s:Store) (L:Nat) (f:Nat->List (List Int)):Prop:=∀i,i < 97->s[L+i]?=some (.dT (aQ (f i)))
noncomputable def LvO (f:Nat->List (List Int)):Prop:=∀i,RwsOk (f i)/\∀r∈f i,momR 1 r=(i:Int)
noncomputable def updF (f:Nat->List (List Int)) (m:Nat) (x:List (List Int)):Nat->List (List Int):=fun i=>if i=m then x else f i
noncomputable def xs28 (f:Nat->List (List Int)):Nat->Nat
 | 0=>0
 | h+1=>nuS (f h) ^^^ xs28 f h
theorem zbcd {f:Nat->List (List Int)}{m:Nat}{x:List (List Int)}:∀{h:Nat},h<=m->xs28 (updF f m x) h=xs28 f h
 | 0,_=>rfl
 | h+1,hm=>by
  show nuS (updF f m x h) ^^^ xs28 (updF f m x) h=nuS (f h) ^^^ xs28 f h;rw[zbcd (by lia),show updF f m x h=f h from if_neg (by lia)]
theorem zqy {f:Nat->List (List Int)}{m:Nat}{r:List Int}(nd:(f m).Nodup):∀{h:Nat},m < h->xs28 (updF f m (aP (f m) r)) h=xs28 f h ^^^ nu r
 | 0,hm=>by lia
 | h+1,hm=>by
  show nuS (updF f m (aP (f m) r) h) ^^^ xs28 (updF f m (aP (f m) r)) h=(nuS (f h) ^^^ xs28 f h) ^^^ nu r;by_cases c:h=m
  ·subst c;rw[show updF f h (aP (f h) r) h=aP (f h) r from if_pos rfl,zsj nd,zbcd (xbf _),xdd,xdd,xiq (nu r)]
  ·rw[show updF f m (aP (f m) r) h=f h from if_neg c,zqy nd (by lia),xdd]
theorem LvO.flip {f:Nat->List (List Int)}{m:Nat}{r:List Int}(h:LvO f)(rok:RowOk r 16 6)(hm:momR 1 r=m):LvO (updF f m (aP (f m) r)):=fun i=>by
 unfold updF;split
 ·rename_i c;subst c;refine⟨⟨zcb (h i).1.nd,fun x hx=>?_⟩,fun x hx=>?_⟩
  ·rw[zbl] at hx;rcases hx with⟨hx,_⟩ | ⟨rfl,_⟩
   ·exact(h i).1.row x hx
   ·exact rok
  ·rw[zbl] at hx;rcases hx with⟨hx,_⟩ | ⟨rfl,_⟩
   ·exact(h i).2 x hx
   ·exact hm
 ·exact h i
theorem LvF.put {s:Store}{L m:Nat}{f:Nat->List (List Int)}{x:List (List Int)}(h:LvF s L f)(hm:m < 97):LvF (s.set (L+m) (.dT (aQ x))) L (updF f m x):=fun i hi=>by
 unfold updF;by_cases c:i=m
 ·subst c;rw[if_pos rfl];exact zca (zh (h i hi))
 ·rw[if_neg c,xbl (by lia)];exact h i hi
theorem zjf {l:List (List Int)}(nd:l.Nodup)(h:StOk16 l):l.length<=84:=by
 have:=zox nd fun r hr=>by
  obtain⟨i,e,_⟩:=zkq (h r hr).1 (h r hr).2;exact xbo e
 rwa [zgy] at this
section
variable {st:Store}{n:Nat}{Q:D->Store->Prop}
theorem zug {E:SE}{bd:SG}{body:SS}{σ:DS}{xs:List D}{x:D}{Q:Fl->Store->Prop}(hE:E σ st=.ok x st:=by rfl)(hx:seqV x=some xs:=by rfl)(h:WP (forF bd body xs σ st) Q):WP (sFor (aH E) bd body σ st) Q:=by
 simp only[W];exact WP.of hE ⟨_,hx,h⟩
theorem zmu {l:List (List Int)}{n:Nat}(h:st[n]?=some (.lst (aJ l)))(hl:l.length<=1000000):bSorted [.ref n] st=.ok (.lst (aJ (sortR l))) st:=by
 unfold bSorted;dsimp only
 rw[show(asL st (.ref n)).bind asRows=some l from by
  rw[show asL st (.ref n)=some (aJ l) from by unfold asL;dsimp only;rw[h]]
  exact ztx l]
 dsimp only;rw[if_pos hl]
theorem zbml {L m:Nat}(hm:m < 97){e:Int}(ee:e=m){s:Store}:oIx (.lst (byD L)) (.int e) s=.ok (.ref (L+m)) s:=by
 subst ee;refine zkp rfl (zln ?_);unfold byD;rw[xcd,xig hm];rfl
theorem zry {L:Nat}{f:Nat->List (List Int)}{r:List Int}(h:LvF st L f)(o:LvO f)(rok:RowOk r 16 6){d:D}(hd:d=aL r)(k:∀m:Nat,momR 1 r=m->m < 97->Q .non (st.set (L+m) (.dT (aQ (aP (f m) r))))) :
  WP (zbp [d] st) (fun x st1=>WP (oIx (.lst (byD L)) x st1) fun x st1=>[d].length<=sizeLine/\WP (zu [x,.lst [d]] st1) Q):=by
 obtain⟨m,em,hm⟩:=zbjn rok;have b:=zyp rok;refine zsp hd b.1 b.2 ?_;refine WP.of (zbml hm em) ⟨small _ (by simp),?_⟩;refine zfl (ks:=f m) (ms:=[r]) (by rw[hd];rfl) (h m hm) (o m).1 (fun x hx=>by rw[xcn] at hx;rw[hx];exact rok) ?_;exact k m em hm
structure Fa (st:Store) (n L A:Nat) (f:Nat->List (List Int)) (fin:List (List Int)) (s:Store):Prop where
 lv:LvF s L f
 o:LvO f
 fn:s[A]?=some (.lst (aJ fin))
 far:L+97<=A
 low:st.length<=L
 dr:Drew st s n
theorem Fa.put {L A m:Nat}{f:Nat->List (List Int)}{fin:List (List Int)}{s:Store}{r:List Int}(h:Fa st n L A f fin s)(hn:n < st.length)(rok:RowOk r 16 6)(em:momR 1 r=m)(hm:m < 97):Fa st n L A (updF f m (aP (f m) r)) fin (s.set (L+m) (.dT (aQ (aP (f m) r)))):=by
 have:=h.far;have:=h.low;exact⟨h.lv.put hm,h.o.flip rok em,by rw[xbl (by lia)];exact h.fn,h.far,h.low,h.dr.over hn (by lia)⟩
theorem Fa.drew {L A:Nat}{f:Nat->List (List Int)}{fin:List (List Int)}{s s2:Store}(h:Fa st n L A f fin s)(hn:n < st.length)(d:Drew s s2 n):Fa st n L A f fin s2:=by
 have h1:=h.low;have h2:=h.far;exact⟨fun i hi=>by rw[d.keep (L+i) (zh (h.lv i hi)) (by lia)];exact h.lv i hi,h.o,by rw[d.keep A (zh h.fn) (by lia)];exact h.fn,h.far,h.low,h.dr.trans d⟩
theorem Fa.add {L A:Nat}{f:Nat->List (List Int)}{fin fin':List (List Int)}{s:Store}(h:Fa st n L A f fin s)(hn:n < st.length):Fa st n L A f fin' (s.set A (.lst (aJ fin'))):=by
 have h1:=h.low;have h2:=h.far;exact⟨fun i hi=>by rw[xbl (by lia)];exact h.lv i hi,h.o,zca (zh h.fn),h.far,h.low,h.dr.over hn (by lia)⟩
theorem zvt {a1 a3 a5 v6:Option D}{L A c:Nat}{f:Nat->List (List Int)}{fin ms:List (List Int)}{s:Store}{QQ:Fl->Store->Prop}(hn:n < st.length)(h:Fa st n L A f fin s)(hc:c<=97)(hm:∀r∈ms,RowOk r 16 6/\momR 1 r < c)
  (k:∀f' s' w6,Fa st n L A f' fin s'->xs28 f' c=xs28 f c ^^^ nuS ms->QQ (.nx [some (.ref n),a1,some (.lst (byD L)),a3,some (.ref A),a5,w6]) s') :
  WP (forF (gN 6) zcg (aJ ms) [some (.ref n),a1,some (.lst (byD L)),a3,some (.ref A),a5,v6] s) QQ:=by
 refine zhl (fun i σ s=>∃f' w6,σ=[some (.ref n),a1,some (.lst (byD L)),a3,some (.ref A),a5,w6]/\Fa st n L A f' fin s/\xs28 f' c=xs28 f c ^^^ nuS (ms.take i)) ⟨f,_,rfl,h,(xgg _).symm⟩ ?_ ?_
 ·rintro i x σ s hx ⟨f',w6,rfl,h,e⟩;obtain⟨r,hr,rfl⟩:=zbr hx;obtain⟨rok,hlt⟩:=hm r (xbo hr);refine⟨_,rfl,?_⟩;unfold zcg;simp only[W,V];generalize ed:aL r=d;refine zry h.lv h.o rok ed.symm fun m em hm97=>?_
  simp only[Dd.L];refine⟨_,_,rfl,h.put hn rok em hm97,?_⟩;rw[zqy (h.o m).1.nd (by lia),e,zv hr,zcl,xdd]
  congr 2
  exact(xgg _).symm
 ·rintro σ s ⟨f',w6,rfl,h,e⟩;rw[zg,xct] at e;exact k f' s w6 h e
theorem zsu {a1 a5 v3 v6:Option D}{L A c:Nat}{f:Nat->List (List Int)}{fin ks:List (List Int)}{s:Store}{QQ:Fl->Store->Prop}(hn:n < st.length)(h:Fa st n L A f fin s)(hc:c<=97)(K:RwsOk ks)(hk:∀r∈ks,momR 1 r=(c:Int))(hfl:fin.length<=100000)
  (k:∀f' s' w3 w6,Fa st n L A f' (fin++ks.filter opL.stB28) s'->nuS (ks.filter opL.stB28) ^^^ xs28 f' c=xs28 f c ^^^ nuS ks->QQ (.nx [some (.ref n),a1,some (.lst (byD L)),w3,some (.ref A),a5,w6]) s') :
  WP (forF (gN 3) zcf (aJ ks) [some (.ref n),a1,some (.lst (byD L)),v3,some (.ref A),a5,v6] s) QQ:=by
 have few:=K.few;refine zhl (fun i σ s=>∃f' w3 w6,σ=[some (.ref n),a1,some (.lst (byD L)),w3,some (.ref A),a5,w6]/\Fa st n L A f' (fin++(ks.take i).filter opL.stB28) s/\nuS ((ks.take i).filter opL.stB28) ^^^ xs28 f' c=xs28 f c ^^^ nuS (ks.take i)) ⟨f,_,_,rfl,by simpa using h,?_⟩ ?_ ?_
 ·show(0:Nat) ^^^ xs28 f c=xs28 f c ^^^ 0;rw[xir,xgg]
 ·rintro i x σ s hx ⟨f',w3,w6,rfl,h,e⟩;obtain⟨r,hr,rfl⟩:=zbr hx;have hrm:=xbo hr;have rok:=K.row r hrm;have rl:=rok.len;refine⟨_,rfl,?_⟩;unfold zcf;simp only[W,V];refine WP.of (zdc (by lia)) ?_;simp only[W,V];rw[show(((plD (placesL r)).length:Nat):Int)=((placesL r).length:Int) by simp];have lf:=xeu opL.stB28 (ks.take i);rw[xcx] at lf;by_cases hp:placesL r=[]
  ·have hb:opL.stB28 r=true:=xbw hp;rw[if_pos (by rw[hp];rfl)];simp only[M];simp only[W,V];refine⟨_,_,rfl,h.fn,_,_,rfl,h.fn,by rw[zg,xbq];exact smallT _ (by lia),?_⟩;simp only[Dd.L];refine⟨f',_,_,rfl,?_,?_⟩
   ·have:=h.add hn (fin':=fin++(ks.take i).filter opL.stB28++[r]);rw[zv hr,xdq,xdg hb,xjs,← xck];rw[show aJ (fin++(ks.take i).filter opL.stB28)++[aL r]=aJ (fin++(ks.take i).filter opL.stB28++[r]) from by simp[aJ]];exact this
   ·rw[zv hr,xdq,xdg hb,xjs,zcl,zcl,← xdd,← e,xdd,xiq (nuS [r]),← xdd]
  ·have hb:¬ opL.stB28 r=true:=fun z=>hp (xdu z)
   rw[if_neg (by have:=List.length_pos_iff.mpr hp;lia)];refine zxi rok hp h.dr.bag fun p s2 hsl d2=>⟨_,rfl,?_⟩
   have h2:=h.drew hn d2;have ml:∀z∈exRow r p,RowOk z 16 6/\momR 1 z < (c:Int):=fun z hz=>⟨zgc rok hsl z hz,by rw[← hk r hrm];exact zsq rok.pos hsl hz⟩
   refine zvt hn h2 hc ml fun f2 s3 x6 h3 e3=>?_
   simp only[Dd.L];refine⟨f2,_,_,rfl,?_,?_⟩
   ·rw[zv hr,xdq,xdf hb,xjs,xet];exact h3
   ·rw[zv hr,xdq,xdf hb,xjs,xet,zcl,e3,zbeh rok hsl,← xdd,e,xdd]
    congr 2
    exact(xgg _).symm
 ·rintro σ s ⟨f',w3,w6,rfl,h,e⟩;rw[zg,xct] at h e;exact k f' s w3 w6 h e
theorem zbav {a0 a1 a3 a4 a5 a6:Option D}{QQ:Fl->Store->Prop}(k:QQ (.nx [a0,a1,some (.lst (byD st.length)),a3,a4,a5,a6]) (st++List.replicate 97 (.dT []))) :
  WP (aF 2 (aG (iR1 (aB (eC (.int 97)) aC)) 1 [] (gN 0) aI eDNew) [a0,a1,none,a3,a4,a5,a6] st) QQ:=by
 simp only[W,V];refine⟨_,rfl,rngN (by lia) (by lia),by rw[zbh];exact small _ (by decide),?_⟩;refine zwt (fun i acc σ s=>(∃v,σ=[v])/\s=st++List.replicate i (.dT [])/\acc=(List.range i).map fun i=>D.ref (st.length+i)) ⟨⟨_,rfl⟩,by simp,rfl⟩ ?_ ?_
 ·rintro i x acc σ s hx ⟨⟨v,rfl⟩,rfl,rfl⟩;refine⟨_,rfl,?_⟩;simp only[W,V];refine⟨⟨_,rfl⟩,?_,?_⟩
  ·rw[← List.replicate_succ,List.replicate_succ',xck]
  ·rw[xbq,xfp,xhi,xdt];rfl
 ·rintro ys σ s ⟨_,rfl,rfl⟩;rw[zbh];exact k
theorem zme {rows:List (List Int)}(K:RwsOk rows)(hb:BagAt st n)(hn:n < st.length)(k:∀s,Drew st s n->Q (aK (stl (nuS rows))) s):WP (zbq [.ref n,aK rows] st) Q:=by
 refine zud rfl ?_;rw[zue];refine zbav ?_;show WP (aD _ _ _ _) _;rw[zue];refine zug rfl rfl ?_;refine zhl (fun i σ s=>∃f v3,σ=[some (.ref n),some (aK rows),some (.lst (byD st.length)),v3,none,none,none]/\LvF s st.length f/\LvO f/\xs28 f 97=nuS (rows.take i)/\Drew st s n) ⟨fun _=>[],_,rfl,fun i hi=>?_,fun i=>⟨⟨xej,fun r hr=>(by cases hr)⟩,fun r hr=>(by cases hr)⟩,?_,.more hb _⟩ ?_ ?_
 ·rw[xco (by lia),xcu,xiv,if_pos hi];rfl
 ·show xs28 (fun _=>[]) 97=0
  decide +kernel
 ·rintro i x σ s hx ⟨f,v3,rfl,h,o,e,d⟩;obtain⟨r,hr,rfl⟩:=zbr hx;have rok:=K.row r (xbo hr);refine⟨_,rfl,?_⟩;unfold zdj;simp only[W,V];generalize ed:aL r=dd;refine zry h o rok ed.symm fun m em hm97=>?_
  simp only[Dd.L];refine⟨_,_,rfl,h.put hm97,o.flip rok em,?_,d.over hn (by lia)⟩;rw[zqy (o m).1.nd (by lia),e,zv hr,zcl]
  congr 1
  exact(xgg _).symm
 ·rintro σ s ⟨f,v3,rfl,h,o,e,d⟩;rw[zg,xct] at e;simp only[W,V];refine⟨small _ (by simp),?_⟩;have hl:st.length+97<=s.length:=by have:=zh (h 96 (by lia));lia
  have fa:Fa st n st.length s.length f [] (s++[.lst []]):=⟨fun i hi=>by rw[xbs (by lia)];exact h i hi,o,by simp[aJ],hl,xbf _,d.trans (.more d.bag _)⟩
  generalize s.length=A at fa;have eR:iRD (aB (eC (.int 96)) (aB (eUn oNeg (eC (.int 1))) (aB (eUn oNeg (eC (.int 1))) aC))) [some (.ref n),some (aK rows),some (.lst (byD st.length)),v3,some (.ref A),none,none] (s++[O.lst []])=.ok (rngD 96 97) (s++[O.lst []]):=by
   unfold iRD;show(if((-1:Int)=-1/\-(2 ^ 60)<=(96:Int)/\(96:Int) < 2 ^ 60/\-(2 ^ 60)<=(-1:Int)/\(-1:Int) < 2 ^ 60) then Res.ok (rngD 96 ((96:Int) - -1).toNat) (s++[O.lst []]) else Res.stuck)=_;rw[if_pos (by decide)]
   rfl
  refine WP.of eR ?_;refine zhl (fun i σ s=>∃f fin v3 v5 v6,σ=[some (.ref n),some (aK rows),some (.lst (byD st.length)),v3,some (.ref A),v5,v6]/\Fa st n st.length A f fin s/\fin.Nodup/\StOk16 fin/\(∀r∈fin,(97:Int) - i<=momR 1 r)/\nuS fin ^^^ xs28 f (97 - i)=nuS rows) ⟨f,[],_,_,_,rfl,fa,xej,fun r hr=>(by cases hr),fun r hr=>(by cases hr),by rw[Nat.sub_zero,e];exact xir _⟩ ?_ ?_
  ·rintro i x σ s hx ⟨f,fin,v3,v5,v6,rfl,fa,nd,so,hm,e⟩;obtain⟨hi,rfl⟩:=zrs hx;have ec:(96:Int) - i=((96 - i:Nat):Int):=by lia
   have eh:97 - i=(96 - i)+1:=by lia
   have hc:96 - i < 97:=by lia
   generalize hcc:96 - i=c at ec eh hc;refine⟨_,rfl,?_⟩;unfold zdi;simp only[W,V];refine WP.of (zbml (L:=st.length) hc ec) ?_;have Kc:=(fa.o c).1;have few:=Kc.few;have el:bListD [.ref (st.length+c)] s=.ok (.lst (aJ (f c))) s:=by
    unfold bListD;dsimp only;rw[fa.lv c hc];dsimp only;rw[if_pos (by unfold aQ;rw[xbd];lia),zoy]
   refine WP.of el ⟨_,rfl,?_⟩;have fl:=zjf nd so;refine zsu hn fa (by lia) Kc (fa.o c).2 (by lia) fun f' s' w3 w6 fa' e'=>?_
   simp only[Dd.L];have sf:StOk16 ((f c).filter opL.stB28):=fun r h=>by
    obtain⟨h1,h2⟩:=xcq.mp h;exact⟨Kc.row r h1,zyj (xdu h2)⟩
   refine⟨f',fin++(f c).filter opL.stB28,_,_,_,rfl,fa',?_,fun r h=>?_,fun r h=>?_,?_⟩
   ·rw[xgq];refine⟨nd,Kc.nd.filter _,fun a ha b hb=>?_⟩;have h1:=hm a ha;have h2:=(fa.o c).2 b (xcq.mp hb).1;rintro rfl;lia
   ·rcases xcg.mp h with h | h
    ·exact so r h
    ·exact sf r h
   ·rcases xcg.mp h with h | h
    ·have:=hm r h;push_cast;lia
    ·have:=(fa.o c).2 r (xcq.mp h).1;push_cast;lia
   ·rw[show 97 - (i+1)=c by lia,zcl,xdd,e',← e,eh];show nuS fin ^^^ (xs28 f c ^^^ nuS (f c))=nuS fin ^^^ (nuS (f c) ^^^ xs28 f c);rw[xiq (xs28 f c)]
  ·rintro σ s ⟨f,fin,v3,v5,v6,rfl,fa,nd,so,hm,e⟩;rw[show(rngD 96 97).length=97 from by unfold rngD;simp] at e;have e:nuS fin=nuS rows:=by rw[← e];exact(xgg _).symm
   have fl:=zjf nd so;simp only[W,V];refine WP.of (zmu fa.fn (by lia)) ?_;refine WP.of (show bTuple [.lst (aJ (sortR fin))] _=.ok (aK (sortR fin)) _ from rfl) ?_;rw[zyk so nd,e];exact k s fa.dr
end
theorem zuu (v:Nat):∀r∈stl v,r.length<=1000:=fun r h=>by
 unfold stl at h;have h:=(zbb _).mem_iff.mp h;obtain⟨i,hi,rfl⟩:=xcb.mp h;have hi:=xcf.mp (xcq.mp hi).1;have look:(List.range 84).all (fun i=>Nat.ble (nuSt.getD i []).length 1000)=true:=by decide +kernel
 exact Nat.le_of_ble_eq_true (xdy.mp look i (xcf.mpr hi))
section
variable {st:Store}{Q:D->Store->Prop}
theorem zkf {rows:List (List Int)}(K:RwsOk rows)(k:∀s,Q (.bl true) s):WP (zdh [aK rows] st) (fun x st1=>WP (zbg [x,aK (stl (nuS rows))] st1) Q):=by
 refine zrj K fun g=>?_
 exact WP.of (zii (zuu _)) (k _)
theorem zzz {ns:List Int}(hl:ns.length<=63){v1 v2 v3 v4:Option D}{QQ:Fl->Store->Prop}(k:∀σ s,QQ (.nx σ) s) :
  WP (forF (gN 4) zog (rng 1 2) [some (.scr (ns.map .int)),v1,v2,v3,v4] st) QQ:=by
 refine zhl (fun i σ s=>∃v1 v2 v3 v4:Option D,σ=[some (.scr (ns.map .int)),v1,v2,v3,v4]) ⟨_,_,_,_,rfl⟩ ?_ fun σ s _=>k σ s
 rintro i x σ s hx ⟨v1,v2,v3,v4,rfl⟩;obtain⟨hi,rfl⟩:=zrr hx;refine⟨_,rfl,?_⟩;unfold zog;simp only[W,V];rw[show(1:Int)+i=((i+1:Nat):Int) by lia];refine zbgy hl (by lia) fun g hb=>?_
 obtain⟨l,s2,e,hr,nd,_,_,d2⟩:=zjw (L:=6) (lg:=6) rfl (by lia) (by lia:(0:Int)<=12) (by lia) hb (by lia:(0:Int)<=7) (by lia);refine WP.of e ?_;have K:RwsOk l:=⟨nd,fun r h=>⟨(hr r h).pos,by have:=(hr r h).sum;lia,(hr r h).len⟩⟩
 have hn:s.length < s2.length:=by
  have:=d2.len;have:s.length < (s++g).length:=by obtain⟨_,_,e,_⟩:=hb;exact zh e
  lia
 refine zwr K d2.bag hn (fun s3 d3=>?_) fun s3 d3=>?_
 ·refine WP.of (show oIsN true .non .non s3=.ok (.bl false) s3 from rfl) ?_;dsimp only[bK];rw[if_neg (by decide)];simp only[W,V,Dd.L];exact⟨_,_,_,_,rfl⟩
 ·refine WP.of (show oIsN true (aK (stl (nuS l))) .non s3=.ok (.bl true) s3 from rfl) ?_;dsimp only[bK];rw[if_pos rfl];refine zkf K fun s4=>⟨true,rfl,?_⟩
  rw[if_neg (by decide)];simp only[W,V,Dd.L];exact⟨_,_,_,_,rfl⟩
theorem zvy (ns:List Int)(hl:ns.length<=63)(st:Store):∃st',zblu [.scr (ns.map .int)] st=.ok (.bl true) st':=by
 have:WP (zblu [.scr (ns.map .int)] st) (fun v _=>v=.bl true):=by
  refine zud rfl ?_;simp only[W,V];refine zbgy (i:=0) hl (by lia) fun g hb=>?_
  obtain⟨l,s2,e,hr,nd,_,_,d2⟩:=zjw (L:=6) (lg:=6) rfl (by lia) (by lia:(0:Int)<=12) (by lia) hb (by lia:(0:Int)<=16) (by lia);refine WP.of e ?_;have K:RwsOk l:=⟨nd,fun r h=>⟨(hr r h).pos,by have:=(hr r h).sum;lia,(hr r h).len⟩⟩
  have hn:st.length < s2.length:=by
   have:=d2.len;have:st.length < (st++g).length:=by obtain⟨_,_,e,_⟩:=hb;exact zh e
   lia
  refine zme K d2.bag hn fun s3 d3=>?_
  refine zkf K fun s4=>⟨true,rfl,?_⟩
  rw[if_neg (by decide)];refine zkf K fun s5=>⟨true,rfl,?_⟩
  rw[if_neg (by decide)];refine⟨_,_,rfl,rngN (by lia) (by lia),rngN (by lia) (by lia),?_⟩;refine zzz hl fun σ s=>?_
  simp only[W,V]
 obtain⟨a,st',e,rfl⟩:=this.get;exact⟨st',e⟩
end
end Dd
namespace K28
theorem holds:∀ns:List Int,ns.length<=63->∃st',Dd.zblu [.scr (ns.map .int)] []=.ok (.bl true) st':=fun ns hl=>Dd.zvy ns hl _
end K28
namespace K28
open PySem L2 Dd
noncomputable def top (i:Nat):Stmt:=PySem.Challenge.pw_raisedsums_k28_settled_by_any_exchanges.main.body.getD i (.Pass ⟨0,0,0,0⟩)
noncomputable abbrev zib:Stmt:=top 25
noncomputable abbrev zia:Stmt:=top 27
noncomputable abbrev zgn:Stmt:=top 26
noncomputable abbrev zhz:Stmt:=top 28
noncomputable abbrev zgo:Stmt:=top 29
noncomputable abbrev zcv:Stmt:=top 36
noncomputable abbrev zep:Stmt:=top 35
noncomputable abbrev zeo:Stmt:=top 32
noncomputable abbrev zgm:Stmt:=top 30
noncomputable abbrev zgp:Stmt:=top 31
noncomputable abbrev zgq:Stmt:=top 37
noncomputable abbrev zco:Stmt:=top 38
noncomputable abbrev zeq:Stmt:=top 39
noncomputable abbrev zdk:Stmt:=top 34
noncomputable abbrev zgl:Stmt:=top 16
noncomputable abbrev zyn:Stmt:=top 6
noncomputable abbrev zhw:Stmt:=top 8
noncomputable abbrev zdx:Stmt:=top 11
noncomputable abbrev zdy:Stmt:=top 12
noncomputable abbrev zhx:Stmt:=top 5
noncomputable abbrev zgk:Stmt:=top 13
noncomputable abbrev zdz:Stmt:=top 10
noncomputable abbrev zhy:Stmt:=top 14
noncomputable abbrev zen:Stmt:=top 15
noncomputable abbrev zmy:Stmt:=top 22
noncomputable abbrev zna:Stmt:=top 19
noncomputable abbrev zfm:Stmt:=top 20
noncomputable abbrev zmz:Stmt:=top 18
noncomputable abbrev zbic:Stmt:=top 21
noncomputable abbrev zkg:Stmt:=top 23
noncomputable abbrev zbbw:Stmt:=top 40
section
variable {P:Program}{w:World}{K:Fg}{mg:Str->Option Value}{base h:Heap}
theorem zjm:FnScope ["_law_script", "_law_at", "_law_cell", "_law_mix", "_law_k"] ["_law_script", "_law_at"] (defScope zib):=⟨rfl, rfl, rfl, by decide +kernel, rfl, by decide +kernel, by decide +kernel⟩
theorem zqj (T:TopF K "_law_bag" zib)(XX:K.In h)(G:h.Ns mainGlobals mg)(Ab:mg "len"=none)(z_abs:mg "abs"=none)(z_min:mg "min"=none)(Aa:mg "range"=none):CalD P w K mg base "_law_bag" 1 ["_law_script", "_law_at"] zeh :=
 have nd:=zjm.nd
 zt (k:=0) T XX G zjm (fun _ _ _ _ _ _ us hl=>len2 us hl fun _ _=>rfl) fun f cdv A outer s H E hr=>(ze (zx (i:=2) nd rfl (Or.inl rfl) zk)
 (ze (zek (zdf (zqd hr.units0) zqm (zb (pv 1)) (zo zbd ziv rfl Ab zit (za (zb (pv 0)) zd)) (nomark _)) (zf (zx (i:=2) nd rfl (Or.inl rfl) (zo zbbo zblr rfl z_abs zbli (za (zhi (zb (pv 0)) (zb (pv 1)) (fun _ _=>rfl)) zd)))) zcx)
 (ze (zx (i:=3) nd rfl (Or.inl rfl) (zbv zbi zcp (zbv zgw (oI_D fun _ _ _ _=>.int _) zk (zb (pv 1))) zk))
 (ze (zcc xcs rfl (zbm rfl Aa (za (zo (zlm rfl) zbls rfl z_min zbbp (za (zo zbd ziv rfl Ab zit (za (zb (pv 0)) zd)) (za zk zd))) zd)) (zn (i:=4) nd rfl (Or.inl rfl))
 (zf (zx (i:=3) nd rfl (Or.inl rfl) (zbv zng (oI_D fun _ _ _ _=>.int _) (zbv zbi zcp (zbv zbi zcp (zbv zgw (oI_D fun _ _ _ _=>.int _) (zb (pv 3)) zk) (zbv zng (oI_D fun _ _ _ _=>.int _) (zhi (zb (pv 0)) (zb (pv 4)) (fun _ _=>rfl)) zk)) (zb (pv 4))) zk))))
 (ze (zek (zdf (zqd hr.units0) zqm (zb (pv 2)) (zbv zbjd (oI_D fun _ _ _ _=>.int _) zk zk) (nomark _)) (zf (zx (i:=2) nd rfl (Or.inl rfl) zk)) zcx)
 (zf (zba (zkb (za (zb (pv 2)) (za (zb (pv 3)) zd))))))))))
theorem zjl:FnScope ["_law_things", "_law_odd_here", "_law_thing"] ["_law_things"] (defScope zia):=⟨rfl, rfl, rfl, by decide +kernel, rfl, by decide +kernel, by decide +kernel⟩
theorem zqi (T:TopF K "_law_odd" zia)(XX:K.In h)(G:h.Ns mainGlobals mg)(Ad:mg "sorted"=none)(Ac:mg "tuple"=none):CalD P w K mg base "_law_odd" 1 ["_law_things"] zdw :=
 have nd:=zjl.nd
 zt (k:=0) T XX G zjl (fun _ _ _ _ _ _ us hl=>len1 us hl fun _=>rfl) fun f cdv A outer s H E hr=>(ze (zx (i:=1) nd rfl (Or.inr rfl) zmj)
 (ze (zcc xcs rfl (zcm (zb (pv 0))) (zn (i:=2) nd rfl (Or.inl rfl))
 (zf (zlg (zqw hr) (zb (pv 1)) (zb (pv 2)) (zbbd (zbbg (zqw hr) (zb (pv 1)) (zb (pv 2)) zti ⟨rfl,rfl,rfl,rfl⟩)) rfl)))
 (zf (zba (zdg zbn zfn rfl Ac zdm (za (zo (zbz rfl hr.units) zee rfl Ad zed (za (zev rfl (ztd (zb (pv 1))) (fun _ _ _ _ _=>(zn (i:=0) (show(["_law_thing", "_law_odd_here"]:List Str).Nodup from by decide +kernel) rfl (Or.inl rfl))) (fun _ _ _ _ _=>(zio (zdr (zbgi (zqw hr) (zb (pv 1)) (zb (pv 0)) (fun _ _=>rfl))))) (fun _ _ _ _ _=>(zb (pv 0))) (N:=["_law_thing", "_law_odd_here"]) (k:=1) (is:=[1]) (zds (by rfl))) zd)) zd))))))
theorem zhs:FnScope ["_law_bag_here", "_law_many", "_law_digit", "_law_number", "_law_room"] ["_law_bag_here", "_law_many"] (defScope zgn):=⟨rfl, rfl, rfl, by decide +kernel, rfl, by decide +kernel, by decide +kernel⟩
theorem znk (T:TopF K "_law_take" zgn)(XX:K.In h)(G:h.Ns mainGlobals mg)  : CalD P w K mg base "_law_take" 1 ["_law_bag_here", "_law_many"] zw :=
 have nd:=zhs.nd
 zt (k:=0) T XX G zhs (fun _ _ _ _ _ _ us hl=>len2 us hl fun _ _=>rfl) fun f cdv A outer s H E hr=>(ze (zek (zdf zbdt (zjs fun _ _ _ _=>.bl _) (zhi (zb (pv 0)) zk (fun _ _=>rfl)) zk (nomark _)) (ze (zx (i:=2) nd rfl (Or.inl rfl) (zbv zng (oI_D fun _ _ _ _=>.int _) (zhi (zb (pv 0)) zk (fun _ _=>rfl)) (zb (pv 1))))
 (ze (zpl (zbv zie (oI_D fun _ _ _ _=>.int _) (zhi (zb (pv 0)) zk (fun _ _=>rfl)) (zb (pv 1))) (zb (pv 0)) zk)
 (zf (zba (zb (pv 2)))))) zcx)
 (ze (zx (i:=3) nd rfl (Or.inl rfl) zk)
 (ze (zx (i:=4) nd rfl (Or.inl rfl) zk)
 (ze (zpk xcs (zdf (zqd hr.units0) zqm (zb (pv 4)) (zb (pv 1)) (nomark _)) (ze (zpl (zbv zng (oI_D fun _ _ _ _=>.int _) (zbv zbi zcp (zbv zgw (oI_D fun _ _ _ _=>.int _) (zhi (zb (pv 0)) zk (fun _ _=>rfl)) zk) zk) zk) (zb (pv 0)) zk)
 (ze (zx (i:=3) nd rfl (Or.inl rfl) (zbv zbi zcp (zbv zgw (oI_D fun _ _ _ _=>.int _) (zb (pv 3)) zk) (zbv zng (oI_D fun _ _ _ _=>.int _) (zbv zgw (oI_D fun _ _ _ _=>.int _) (zbv zie (oI_D fun _ _ _ _=>.int _) (zhi (zb (pv 0)) zk (fun _ _=>rfl)) zk) zk) zk)))
 (zf (zx (i:=4) nd rfl (Or.inl rfl) (zbv zgw (oI_D fun _ _ _ _=>.int _) (zb (pv 4)) zk))))))
 (zf (zba (zbv zng (oI_D fun _ _ _ _=>.int _) (zb (pv 3)) (zb (pv 1)))))))))
theorem zjk:FnScope ["_law_bag_here", "_law_most", "_law_long", "_law_row_here", "_law_left", "_law_k"] ["_law_bag_here", "_law_most", "_law_long"] (defScope zhz):=⟨rfl, rfl, rfl, by decide +kernel, rfl, by decide +kernel, by decide +kernel⟩
theorem zqh (T:TopF K "_law_row" zhz)(XX:K.In h)(G:h.Ns mainGlobals mg)(Aa:mg "range"=none)(z_min:mg "min"=none)(Ac:mg "tuple"=none)(Ae:CalD P w K mg base "_law_take" 1 ["_law_bag_here", "_law_many"] zw):CalD P w K mg base "_law_row" 2 ["_law_bag_here", "_law_most", "_law_long"] zfd :=
 have nd:=zjk.nd
 zt (k:=1) T XX G zjk (fun _ _ _ _ _ _ us hl=>len3 us hl fun _ _ _=>rfl) fun f cdv A outer s H E hr=>(ze (zx (i:=3) nd rfl (Or.inl rfl) (zkb zd))
 (ze (zx (i:=4) nd rfl (Or.inl rfl) (zb (pv 1)))
 (ze (zcc xcs rfl (zbm rfl Aa (za (zj Ae (fun _ _ _ _ h=>zi h) (hr.mono (by decide)) rfl (za (zb (pv 0)) (za (zbv zbi zcp (zb (pv 2)) zk) zd))) zd)) (zn (i:=5) nd rfl (Or.inl rfl))
 (zf (zek (zdf zbdt (zjs fun _ _ _ _=>.bl _) (zb (pv 4)) zk (nomark _)) (ze (zbk (zgf (zb (pv 3)) (za (zbv zbi zcp zk (zj Ae (fun _ _ _ _ h=>zi h) (hr.mono (by decide)) rfl (za (zb (pv 0)) (za (zhi (zwl (za (zb (pv 4)) (za (zo (zlm rfl) zbls rfl z_min zbbp (za (zb (pv 4)) (za zk zd))) (za (zo (zlm rfl) zbls rfl z_min zbbp (za (zb (pv 4)) (za zk zd))) zd)))) (zj Ae (fun _ _ _ _ h=>zi h) (hr.mono (by decide)) rfl (za (zb (pv 0)) (za zk zd))) (fun _ _=>rfl)) zd)))) zd)))
 (zf (zx (i:=4) nd rfl (Or.inl rfl) (zbv zgv (zjs fun _ _ _ _=>.int _) (zb (pv 4)) (zhi (zb (pv 3)) (zbbe zk) (fun _ _=>rfl)))))) zcx)))
 (zf (zba (zdg zbn zfn rfl Ac zdm (za (zb (pv 3)) zd)))))))
theorem zht:FnScope ["_law_bag_here", "_law_many", "_law_most", "_law_long"] ["_law_bag_here", "_law_many", "_law_most", "_law_long"] (defScope zgo):=⟨rfl, rfl, rfl, by decide +kernel, rfl, by decide +kernel, by decide +kernel⟩
theorem znl (T:TopF K "_law_rows" zgo)(XX:K.In h)(G:h.Ns mainGlobals mg)(Aa:mg "range"=none)(c__law_odd:CalD P w K mg base "_law_odd" 1 ["_law_things"] zdw)(Ae:CalD P w K mg base "_law_take" 1 ["_law_bag_here", "_law_many"] zw)(c__law_row:CalD P w K mg base "_law_row" 2 ["_law_bag_here", "_law_most", "_law_long"] zfd):CalD P w K mg base "_law_rows" 3 ["_law_bag_here", "_law_many", "_law_most", "_law_long"] zdv :=
 have nd:=zht.nd
 zt (k:=2) T XX G zht (fun _ _ _ _ _ _ us hl=>len4 us hl fun _ _ _ _=>rfl) fun f cdv A outer s H E hr=>(zf (zba (zj c__law_odd (fun _ _ _ _ h=>zi h) (hr.mono (by decide)) rfl (za (zev rfl (zbm rfl Aa (za (zj Ae (fun _ _ _ _ h=>zi h) (hr.mono (by decide)) rfl (za (zb (pv 0)) (za (zbv zbi zcp (zb (pv 1)) zk) zd))) zd)) (fun _ _ _ _ _=>(zn (i:=0) (show(["_law_k", "_law_bag_here", "_law_most", "_law_long"]:List Str).Nodup from by decide +kernel) rfl (Or.inl rfl))) (fun _ _ _ _ _=>zeu) (fun _ _ _ _ _=>(zj c__law_row (fun _ _ _ _ h=>zi h) (hr.mono (by decide)) rfl (za (zb (pv 1)) (za (zb (pv 2)) (za (zb (pv 3)) zd))))) (N:=["_law_k", "_law_bag_here", "_law_most", "_law_long"]) (k:=1) (is:=[0, 2, 3]) (zds (by rfl))) zd))))
theorem zei:FnScope ["_law_rows_here", "_law_more_here", "_law_row_here"] ["_law_rows_here", "_law_more_here"] (defScope zcv):=⟨rfl, rfl, rfl, by decide +kernel, rfl, by decide +kernel, by decide +kernel⟩
theorem zhg (T:TopF K "_law_turn_over" zcv)(XX:K.In h)(G:h.Ns mainGlobals mg)  : CalD P w K mg base "_law_turn_over" 1 ["_law_rows_here", "_law_more_here"] zu :=
 have nd:=zei.nd
 zt (k:=0) T XX G zei (fun _ _ _ _ _ _ us hl=>len2 us hl fun _ _=>rfl) fun f cdv A outer s H E hr=>(zf (zcc xcs rfl (zcm (zb (pv 1))) (zn (i:=2) nd rfl (Or.inl rfl))
 (zf (zek (zbfo (zzj (zqw hr) (zb (pv 2)) (zb (pv 0)))) (zf (zbk (zth (zqw hr) (zb (pv 0)) (zb (pv 2)) ⟨rfl,rfl,rfl,rfl⟩))) (zf (zlg (zqw hr) (zb (pv 0)) (zb (pv 2)) zti rfl))))))
theorem zfu:FnScope ["_law_row_here"] ["_law_row_here"] (defScope zep):=⟨rfl, rfl, rfl, by decide +kernel, rfl, by decide +kernel, by decide +kernel⟩
theorem zkn (T:TopF K "_law_moment" zep)(XX:K.In h)(G:h.Ns mainGlobals mg)(Ab:mg "len"=none)(Aa:mg "range"=none)(z_sum:mg "sum"=none):CalD P w K mg base "_law_moment" 1 ["_law_row_here"] zbp :=
 have nd:=zfu.nd
 zt (k:=0) T XX G zfu (fun _ _ _ _ _ _ us hl=>len1 us hl fun _=>rfl) fun f cdv A outer s H E hr=>(zf (zba (zo (zps rfl) zbha rfl z_sum zbgt (za (zev rfl (zbm rfl Aa (za (zo zbd ziv rfl Ab zit (za (zb (pv 0)) zd)) zd)) (fun _ _ _ _ _=>(zn (i:=0) (show(["_law_k", "_law_row_here"]:List Str).Nodup from by decide +kernel) rfl (Or.inl rfl))) (fun _ _ _ _ _=>zeu) (fun _ _ _ _ _=>(zbv zgw (oI_D fun _ _ _ _=>.int _) (zbv zbi zcp (zb (pv 0)) zk) (zhi (zb (pv 1)) (zb (pv 0)) (fun _ _=>rfl)))) (N:=["_law_k", "_law_row_here"]) (k:=1) (is:=[0]) (zds (by rfl))) zd))))
theorem zft:FnScope ["_law_row_here"] ["_law_row_here"] (defScope zeo):=⟨rfl, rfl, rfl, by decide +kernel, rfl, by decide +kernel, by decide +kernel⟩
theorem zkm (T:TopF K "_law_places" zeo)(XX:K.In h)(G:h.Ns mainGlobals mg)(Ab:mg "len"=none)(Aa:mg "range"=none):CalD P w K mg base "_law_places" 1 ["_law_row_here"] zbe :=
 have nd:=zft.nd
 zt (k:=0) T XX G zft (fun _ _ _ _ _ _ us hl=>len1 us hl fun _=>rfl) fun f cdv A outer s H E hr=>(zf (zba (zev rfl (zbm rfl Aa (za (zbv zgv (zjs fun _ _ _ _=>.int _) (zo zbd ziv rfl Ab zit (za (zb (pv 0)) zd)) zk) zd)) (fun _ _ _ _ _=>(zn (i:=0) (show(["_law_k", "_law_row_here"]:List Str).Nodup from by decide +kernel) rfl (Or.inl rfl))) (fun _ _ _ _ _=>(zio (zdf (zqd hr.units0) zqm (zhi (zb (pv 1)) (zb (pv 0)) (fun _ _=>rfl)) (zbv zgw (oI_D fun _ _ _ _=>.int _) zk (zhi (zb (pv 1)) (zbv zbi zcp (zb (pv 0)) zk) (fun _ _=>rfl))) (nomark _)))) (fun _ _ _ _ _=>(zb (pv 0))) (N:=["_law_k", "_law_row_here"]) (k:=1) (is:=[0]) (zds (by rfl)))))
theorem zhr:FnScope ["_law_m", "_law_k", "_law_found", "_law_i"] ["_law_m", "_law_k"] (defScope zgm):=⟨rfl, rfl, rfl, by decide +kernel, rfl, by decide +kernel, by decide +kernel⟩
theorem znj (T:TopF K "_law_ways" zgm)(XX:K.In h)(G:h.Ns mainGlobals mg)(Aa:mg "range"=none):CalD P w K mg base "_law_ways" 1 ["_law_m", "_law_k"] zcy :=
 have nd:=zhr.nd
 zt (k:=0) T XX G zhr (fun _ _ _ _ _ _ us hl=>len2 us hl fun _ _=>rfl) fun f cdv A outer s H E hr=>(ze (zx (i:=2) nd rfl (Or.inl rfl) zk)
 (ze (zcc xcs rfl (zbm rfl Aa (za (zb (pv 1)) zd)) (zn (i:=3) nd rfl (Or.inl rfl))
 (zf (zx (i:=2) nd rfl (Or.inl rfl) (zbv zie (oI_D fun _ _ _ _=>.int _) (zbv zgw (oI_D fun _ _ _ _=>.int _) (zb (pv 2)) (zbv zgv (zjs fun _ _ _ _=>.int _) (zb (pv 0)) (zb (pv 3)))) (zbv zbi zcp (zb (pv 3)) zk)))))
 (zf (zba (zb (pv 2))))))
theorem zhu:FnScope ["_law_a", "_law_b", "_law_found", "_law_c"] ["_law_a", "_law_b"] (defScope zgp):=⟨rfl, rfl, rfl, by decide +kernel, rfl, by decide +kernel, by decide +kernel⟩
theorem znm (T:TopF K "_law_pair" zgp)(XX:K.In h)(G:h.Ns mainGlobals mg)(Aa:mg "range"=none)(Ac:mg "tuple"=none)(Ad:mg "sorted"=none)(c__law_ways:CalD P w K mg base "_law_ways" 1 ["_law_m", "_law_k"] zcy):CalD P w K mg base "_law_pair" 2 ["_law_a", "_law_b"] zfa :=
 have nd:=zhu.nd
 zt (k:=1) T XX G zhu (fun _ _ _ _ _ _ us hl=>len2 us hl fun _ _=>rfl) fun f cdv A outer s H E hr=>(ze (zx (i:=2) nd rfl (Or.inl rfl) (zkb zd))
 (ze (zcc xcs rfl (zbm rfl Aa (za (zbv zbi zcp (zbv zie (oI_D fun _ _ _ _=>.int _) (zb (pv 0)) zk) zk) zd)) (zn (i:=3) nd rfl (Or.inl rfl))
 (zf (zek (zdf (zvk hr.units) zbed (zbv zng (oI_D fun _ _ _ _=>.int _) (zj c__law_ways (fun _ _ _ _ h=>zi h) (hr.mono (by decide)) rfl (za (zbv zgv (zjs fun _ _ _ _=>.int _) (zbv zgv (zjs fun _ _ _ _=>.int _) (zb (pv 1)) (zb (pv 3))) zk) (za (zbv zgv (zjs fun _ _ _ _=>.int _) (zb (pv 0)) (zbv zgw (oI_D fun _ _ _ _=>.int _) zk (zb (pv 3)))) zd))) zk) zk (nomark _)) (zf (zbk (zgf (zb (pv 2)) (za (zdg zbn zfn rfl Ac zdm (za (zev rfl (zcm (zwl (za (zbv zgv (zjs fun _ _ _ _=>.int _) (zbv zbi zcp (zb (pv 0)) (zb (pv 1))) (zb (pv 3))) (za (zb (pv 3)) zd)))) (fun _ _ _ _ _=>(zn (i:=0) (show(["_law_part"]:List Str).Nodup from by decide +kernel) rfl (Or.inl rfl))) (fun _ _ _ _ _=>(zio (zdf zbdt (zjs fun _ _ _ _=>.bl _) (zb (pv 0)) zk (nomark _)))) (fun _ _ _ _ _=>(zb (pv 0))) (N:=["_law_part"]) (k:=1) (is:=[]) (zds (by rfl))) zd)) zd)))) zcx)))
 (zf (zba (zdg zbn zfn rfl Ac zdm (za (zo (zbz rfl hr.units) zee rfl Ad zed (za (zb (pv 2)) zd)) zd))))))
theorem zhv:FnScope ["_law_bag_here", "_law_row_here", "_law_place"] ["_law_bag_here", "_law_row_here"] (defScope zgq):=⟨rfl, rfl, rfl, by decide +kernel, rfl, by decide +kernel, by decide +kernel⟩
theorem znn (T:TopF K "_law_more" zgq)(XX:K.In h)(G:h.Ns mainGlobals mg)(Ab:mg "len"=none)(Ag:CalD P w K mg base "_law_places" 1 ["_law_row_here"] zbe)(Ae:CalD P w K mg base "_law_take" 1 ["_law_bag_here", "_law_many"] zw)(c__law_pair:CalD P w K mg base "_law_pair" 2 ["_law_a", "_law_b"] zfa):CalD P w K mg base "_law_more" 3 ["_law_bag_here", "_law_row_here"] zcz :=
 have nd:=zhv.nd
 zt (k:=2) T XX G zhv (fun _ _ _ _ _ _ us hl=>len2 us hl fun _ _=>rfl) fun f cdv A outer s H E hr=>(ze (zx (i:=2) nd rfl (Or.inr rfl) (zhi (zj Ag (fun _ _ _ _ h=>zi h) (hr.mono (by decide)) rfl (za (zb (pv 1)) zd)) (zj Ae (fun _ _ _ _ h=>zi h) (hr.mono (by decide)) rfl (za (zb (pv 0)) (za (zo zbd ziv rfl Ab zit (za (zj Ag (fun _ _ _ _ h=>zi h) (hr.mono (by decide)) rfl (za (zb (pv 1)) zd)) zd)) zd))) (fun _ _=>rfl)))
 (zf (zba (zev rfl (zcm (zj c__law_pair (fun _ _ _ _ h=>zi h) (hr.mono (by decide)) rfl (za (zhi (zb (pv 1)) (zb (pv 2)) (fun _ _=>rfl)) (za (zhi (zb (pv 1)) (zbv zbi zcp (zb (pv 2)) zk) (fun _ _=>rfl)) zd)))) (fun _ _ _ _ _=>(zn (i:=0) (show(["_law_two", "_law_row_here", "_law_place"]:List Str).Nodup from by decide +kernel) rfl (Or.inl rfl))) (fun _ _ _ _ _=>zeu) (fun _ _ _ _ _=>(zbv zbi zcp (zbv zbi zcp (zbho (zb (pv 1)) zli (zlh (zb (pv 2)))) (zb (pv 0))) (zbho (zb (pv 1)) (zlh (zbv zbi zcp (zb (pv 2)) zk)) zli))) (N:=["_law_two", "_law_row_here", "_law_place"]) (k:=1) (is:=[1, 2]) (zds (by rfl))))))
theorem zdn:FnScope ["_law_bag_here", "_law_rows_here", "_law_by_moments", "_law_row_here", "_law_end", "_law_high", "_law_one"] ["_law_bag_here", "_law_rows_here"] (defScope zco):=⟨rfl, rfl, rfl, by decide +kernel, rfl, by decide +kernel, by decide +kernel⟩
theorem zgx (T:TopF K "_law_from_above" zco)(XX:K.In h)(G:h.Ns mainGlobals mg)(Aa:mg "range"=none)(z_list:mg "list"=none)(Ab:mg "len"=none)(Ad:mg "sorted"=none)(Ac:mg "tuple"=none)(Ah:CalD P w K mg base "_law_turn_over" 1 ["_law_rows_here", "_law_more_here"] zu)(Ar:CalD P w K mg base "_law_moment" 1 ["_law_row_here"] zbp)(Ag:CalD P w K mg base "_law_places" 1 ["_law_row_here"] zbe)(Ak:CalD P w K mg base "_law_more" 3 ["_law_bag_here", "_law_row_here"] zcz):CalD P w K mg base "_law_from_above" 4 ["_law_bag_here", "_law_rows_here"] zbq :=
  have nd:=zdn.nd
  zt (k:=3) T XX G zdn (fun _ _ _ _ _ _ us hl=>len2 us hl fun _ _=>rfl) fun f cdv A outer s H E hr=>(ze (zta (i:=2) rfl nd rfl (Or.inl rfl) (zbm rfl Aa (za zk zd)) (fun _ _ _ _ _=>(zn (i:=0) (show(["_law_k"]:List Str).Nodup from by decide +kernel) rfl (Or.inl rfl))) (fun _ _ _ _ _=>zeu) (fun _ _ _ _ _=>zmj) (N:=["_law_k"]) (k:=1) (is:=[]) (zds (by rfl)))
  (ze (zcc xcs rfl (zcm (zb (pv 1))) (zn (i:=3) nd rfl (Or.inl rfl))
  (zf (zbk (zj Ah (fun _ _ _ _ h=>zi h) (hr.mono (by decide)) rfl (za (zhi (zb (pv 2)) (zj Ar (fun _ _ _ _ h=>zi h) (hr.mono (by decide)) rfl (za (zb (pv 3)) zd)) (fun _ _=>rfl)) (za (zwl (za (zb (pv 3)) zd)) zd))))))
  (ze (zx (i:=4) nd rfl (Or.inl rfl) (zkb zd))
  (ze (zcc xcs rfl (ztb rfl Aa (za zk (za (zbbe zk) (za (zbbe zk) zd)))) (zn (i:=5) nd rfl (Or.inl rfl))
  (zf (zcc xcs rfl (zcm (zdg (ztp rfl) zbbr rfl z_list zbgu (za (zhi (zb (pv 2)) (zb (pv 5)) (fun _ _=>rfl)) zd))) (zn (i:=3) nd rfl (Or.inl rfl))
  (zf (zek (zdf (zvk hr.units) zbed (zo zbd ziv rfl Ab zit (za (zj Ag (fun _ _ _ _ h=>zi h) (hr.mono (by decide)) rfl (za (zb (pv 3)) zd)) zd)) zk (nomark _)) (zf (zbk (zgf (zb (pv 4)) (za (zb (pv 3)) zd)))) (zf (zcc xcs rfl (zcm (zj Ak (fun _ _ _ _ h=>zi h) (hr.mono (by decide)) rfl (za (zb (pv 0)) (za (zb (pv 3)) zd)))) (zn (i:=6) nd rfl (Or.inl rfl))
  (zf (zbk (zj Ah (fun _ _ _ _ h=>zi h) (hr.mono (by decide)) rfl (za (zhi (zb (pv 2)) (zj Ar (fun _ _ _ _ h=>zi h) (hr.mono (by decide)) rfl (za (zb (pv 6)) zd)) (fun _ _=>rfl)) (za (zwl (za (zb (pv 6)) zd)) zd))))))))))))
  (zf (zba (zdg zbn zfn rfl Ac zdm (za (zo (zbz rfl hr.units) zee rfl Ad zed (za (zb (pv 4)) zd)) zd))))))))
theorem zfv:FnScope ["_law_bag_here", "_law_rows_here", "_law_now", "_law_turn", "_law_opened", "_law_row_here"] ["_law_bag_here", "_law_rows_here"] (defScope zeq):=⟨rfl, rfl, rfl, by decide +kernel, rfl, by decide +kernel, by decide +kernel⟩
theorem zko (T:TopF K "_law_anyhow" zeq)(XX:K.In h)(G:h.Ns mainGlobals mg)(Aa:mg "range"=none)(Ab:mg "len"=none)(Ad:mg "sorted"=none)(Ac:mg "tuple"=none)(Ah:CalD P w K mg base "_law_turn_over" 1 ["_law_rows_here", "_law_more_here"] zu)(Ag:CalD P w K mg base "_law_places" 1 ["_law_row_here"] zbe)(Ae:CalD P w K mg base "_law_take" 1 ["_law_bag_here", "_law_many"] zw)(Ak:CalD P w K mg base "_law_more" 3 ["_law_bag_here", "_law_row_here"] zcz):CalD P w K mg base "_law_anyhow" 4 ["_law_bag_here", "_law_rows_here"] zda :=
  have nd:=zfv.nd
  zt (k:=3) T XX G zfv (fun _ _ _ _ _ _ us hl=>len2 us hl fun _ _=>rfl) fun f cdv A outer s H E hr=>(ze (zx (i:=2) nd rfl (Or.inl rfl) zmj)
  (ze (zbk (zj Ah (fun _ _ _ _ h=>zi h) (hr.mono (by decide)) rfl (za (zb (pv 2)) (za (zb (pv 1)) zd))))
  (ze (zcc xcs rfl (zbm rfl Aa (za zk zd)) (zn (i:=3) nd rfl (Or.inl rfl))
  (ze (zbao (i:=2) (zta (i:=4) rfl nd rfl (Or.inl rfl) (ztd (zb (pv 2))) (fun _ _ _ _ _=>(zn (i:=0) (show(["_law_row_here"]:List Str).Nodup from by decide +kernel) rfl (Or.inl rfl))) (fun _ _ _ _ _=>(zio (zdf zbdt (zjs fun _ _ _ _=>.bl _) (zo zbd ziv rfl Ab zit (za (zj Ag (fun _ _ _ _ h=>zi h) (hr.mono (by decide)) rfl (za (zb (pv 0)) zd)) zd)) zk (nomark _)))) (fun _ _ _ _ _=>(zb (pv 0))) (N:=["_law_row_here"]) (k:=1) (is:=[]) (zds (by rfl))))
  (ze (zek (zdf (zvk hr.units) zbed (zo zbd ziv rfl Ab zit (za (zb (pv 4)) zd)) zk (nomark _)) (zf (zba (zdg zbn zfn rfl Ac zdm (za (zo (zbz rfl hr.units) zee rfl Ad zed (za (zb (pv 2)) zd)) zd)))) zcx)
  (ze (zx (i:=5) nd rfl (Or.inl rfl) (zhi (zb (pv 4)) (zj Ae (fun _ _ _ _ h=>zi h) (hr.mono (by decide)) rfl (za (zb (pv 0)) (za (zo zbd ziv rfl Ab zit (za (zb (pv 4)) zd)) zd))) (fun _ _=>rfl)))
  (ze (zbk (zth (zqw hr) (zb (pv 2)) (zb (pv 5)) ⟨rfl, rfl, rfl, rfl⟩))
  (zf (zbk (zj Ah (fun _ _ _ _ h=>zi h) (hr.mono (by decide)) rfl (za (zb (pv 2)) (za (zj Ak (fun _ _ _ _ h=>zi h) (hr.mono (by decide)) rfl (za (zb (pv 0)) (za (zb (pv 5)) zd))) zd))))))))))
  (zf (zba zbgh)))))
theorem zem:FnScope ["_law_found", "_law_due", "_law_row_here"] ["_law_found", "_law_due"] (defScope zdk):=⟨rfl, rfl, rfl, by decide +kernel, rfl, by decide +kernel, by decide +kernel⟩
theorem zif (T:TopF K "_law_are_rows" zdk)(XX:K.In h)(G:h.Ns mainGlobals mg)(Ac:mg "tuple"=none)(Af:mg "isinstance"=none)(z_bool:mg "bool"=none)(z_int:mg "int"=none)(z_any:mg "any"=none):CalD P w K mg base "_law_are_rows" 1 ["_law_found", "_law_due"] zbg :=
 have nd:=zem.nd
 zt (k:=0) T XX G zem (fun _ _ _ _ _ _ us hl=>len2 us hl fun _ _=>rfl) fun f cdv A outer s H E hr=>(ze (zek (JW.pt (zwd (zge (zdr (zo zcj zef rfl Af zbo (za (zb (pv 0)) (za (znv (zid (v:=.ty "tuple") rfl Ac zdm rfl) (fun _ _=>.ty _)) zd))))) (zmf (zdf (zbje hr.units) zbed (zb (pv 0)) (zb (pv 1)) (nomark _)) (by first | exact Or.inl rfl | exact Or.inr rfl)))) (zf (zba zti)) zcx)
 (ze (zcc xcs rfl (zcm (zb (pv 0))) (zn (i:=2) nd rfl (Or.inl rfl))
 (zf (zek (JW.pt (zwd (zge (zdr (zo zcj zef rfl Af zbo (za (zb (pv 2)) (za (znv (zid (v:=.ty "tuple") rfl Ac zdm rfl) (fun _ _=>.ty _)) zd))))) (zmf (zdr (zo (zbbm rfl) zbhd rfl z_any zblg (za (zev rfl (zcm (zb (pv 2))) (fun _ _ _ _ _=>(zn (i:=0) (show(["_law_x"]:List Str).Nodup from by decide +kernel) rfl (Or.inl rfl))) (fun _ _ _ _ _=>zeu) (fun _ _ _ _ _=>(zbnu (zbbd (zo zcj zef rfl Af zbo (za (zb (pv 0)) (za (znv (zid (v:=.ty "int") rfl z_int zbgv rfl) (fun _ _=>.ty _)) zd)))) (zbbc (zo zcj zef rfl Af zbo (za (zb (pv 0)) (za (znv (zid (v:=.ty "bool") rfl z_bool zya rfl) (fun _ _=>.ty _)) zd)))))) (N:=["_law_x"]) (k:=1) (is:=[]) (zds (by rfl))) zd))) (by first | exact Or.inl rfl | exact Or.inr rfl)))) (zf (zba zti)) zcx)))
 (zf (zba zti))))
theorem zhq:FnScope ["rows", "kept", "row"] ["rows"] (defScope zgl):=⟨rfl, rfl, rfl, by decide +kernel, rfl, by decide +kernel, by decide +kernel⟩
theorem zni (T:TopF K "rows_kept" zgl)(XX:K.In h)(G:h.Ns mainGlobals mg)  : CalD P w K mg base "rows_kept" 1 ["rows"] zdt :=
 have nd:=zhq.nd
 zt (k:=0) T XX G zhq (fun _ _ _ _ _ _ us hl=>len1 us hl fun _=>rfl) fun f cdv A outer s H E hr=>(ze (zx (i:=1) nd rfl (Or.inl rfl) zmj)
 (ze (zcc xcs rfl (zcm (zb (pv 0))) (zn (i:=2) nd rfl (Or.inl rfl))
 (zf (zlg (zqw hr) (zb (pv 1)) (zb (pv 2)) zti rfl)))
 (zf (zba (zb (pv 1))))))
theorem zwv:FnScope ["kept", "thing"] ["kept", "thing"] (defScope zyn):=⟨rfl, rfl, rfl, by decide +kernel, rfl, by decide +kernel, by decide +kernel⟩
theorem zbdy (T:TopF K "flip" zyn)(XX:K.In h)(G:h.Ns mainGlobals mg)  : CalD P w K mg base "flip" 1 ["kept", "thing"] zjd :=
 have nd:=zwv.nd
 zt (k:=0) T XX G zwv (fun _ _ _ _ _ _ us hl=>len2 us hl fun _ _=>rfl) fun f cdv A outer s H E hr=>(zf (zek (zbfo (zzj (zqw hr) (zb (pv 1)) (zb (pv 0)))) (zf (zbk (zth (zqw hr) (zb (pv 0)) (zb (pv 1)) ⟨rfl,rfl,rfl,rfl⟩))) (zf (zlg (zqw hr) (zb (pv 0)) (zb (pv 1)) zti rfl))))
theorem zjh:FnScope ["e", "k"] ["e", "k"] (defScope zhw):=⟨rfl, rfl, rfl, by decide +kernel, rfl, by decide +kernel, by decide +kernel⟩
theorem zqe (T:TopF K "odd_ways" zhw)(XX:K.In h)(G:h.Ns mainGlobals mg)  : CalD P w K mg base "odd_ways" 1 ["e", "k"] zex :=
 have nd:=zjh.nd
 zt (k:=0) T XX G zjh (fun _ _ _ _ _ _ us hl=>len2 us hl fun _ _=>rfl) fun f cdv A outer s H E hr=>(zf (zba (zbgk (zvk hr.units) zbed (zbv zbjh (zjs fun _ _ _ _=>.int _) (zb (pv 0)) (zb (pv 1))) (zb (pv 1)) (nomark _))))
theorem zfe:FnScope ["a", "b", "told", "c"] ["a", "b"] (defScope zdx):=⟨rfl, rfl, rfl, by decide +kernel, rfl, by decide +kernel, by decide +kernel⟩
theorem ziy (T:TopF K "rows_for_two" zdx)(XX:K.In h)(G:h.Ns mainGlobals mg)(Aa:mg "range"=none)(Ad:mg "sorted"=none)(c_odd_ways:CalD P w K mg base "odd_ways" 1 ["e", "k"] zex):CalD P w K mg base "rows_for_two" 2 ["a", "b"] zbu :=
 have nd:=zfe.nd
 zt (k:=1) T XX G zfe (fun _ _ _ _ _ _ us hl=>len2 us hl fun _ _=>rfl) fun f cdv A outer s H E hr=>(ze (zx (i:=2) nd rfl (Or.inl rfl) (zkb zd))
 (ze (zcc xcs rfl (zbm rfl Aa (za (zbv zbi zcp (zbv zie (oI_D fun _ _ _ _=>.int _) (zb (pv 0)) zk) zk) zd)) (zn (i:=3) nd rfl (Or.inl rfl))
 (zf (zek (zdr (zj c_odd_ways (fun _ _ _ _ h=>zi h) (hr.mono (by decide)) rfl (za (zbv zgv (zjs fun _ _ _ _=>.int _) (zbv zgv (zjs fun _ _ _ _=>.int _) (zb (pv 1)) (zb (pv 3))) zk) (za (zbv zgv (zjs fun _ _ _ _=>.int _) (zb (pv 0)) (zbv zgw (oI_D fun _ _ _ _=>.int _) zk (zb (pv 3)))) zd)))) (zf (zbk (zgf (zb (pv 2)) (za (zboc (zdf zbdt (zjs fun _ _ _ _=>.bl _) (zb (pv 3)) zk (nomark _)) (zbba (za (zbv zgv (zjs fun _ _ _ _=>.int _) (zbv zbi zcp (zb (pv 0)) (zb (pv 1))) (zb (pv 3))) (za (zb (pv 3)) zd))) (zbba (za (zbv zbi zcp (zb (pv 0)) (zb (pv 1))) zd))) zd)))) zcx)))
 (zf (zba (zo (zbz rfl hr.units) zee rfl Ad zed (za (zb (pv 2)) zd))))))
theorem zff:FnScope ["row", "place", "ahead", "rest"] ["row", "place"] (defScope zdy):=⟨rfl, rfl, rfl, by decide +kernel, rfl, by decide +kernel, by decide +kernel⟩
theorem ziz (T:TopF K "rows_for_row" zdy)(XX:K.In h)(G:h.Ns mainGlobals mg)(A1:CalD P w K mg base "rows_for_two" 2 ["a", "b"] zbu):CalD P w K mg base "rows_for_row" 3 ["row", "place"] zbf :=
 have nd:=zff.nd
 zt (k:=2) T XX G zff (fun _ _ _ _ _ _ us hl=>len2 us hl fun _ _=>rfl) fun f cdv A outer s H E hr=>(ze (zx (i:=2) nd rfl (Or.inr rfl) (zbho (zb (pv 0)) zli (zlh (zb (pv 1)))))
 (ze (zx (i:=3) nd rfl (Or.inr rfl) (zbho (zb (pv 0)) (zlh (zbv zbi zcp (zb (pv 1)) zk)) zli))
 (zf (zba (zev rfl (zcm (zj A1 (fun _ _ _ _ h=>zi h) (hr.mono (by decide)) rfl (za (zhi (zb (pv 0)) (zb (pv 1)) (fun _ _=>rfl)) (za (zhi (zb (pv 0)) (zbv zbi zcp (zb (pv 1)) zk) (fun _ _=>rfl)) zd)))) (fun _ _ _ _ _=>(zn (i:=0) (show(["two", "rest", "ahead"]:List Str).Nodup from by decide +kernel) rfl (Or.inl rfl))) (fun _ _ _ _ _=>zeu) (fun _ _ _ _ _=>(zbv zbi zcp (zbv zbi zcp (zb (pv 2)) (zb (pv 0))) (zb (pv 1)))) (N:=["two", "rest", "ahead"]) (k:=1) (is:=[3, 2]) (zds (by rfl)))))))
theorem zji:FnScope ["thing"] ["thing"] (defScope zhx):=⟨rfl, rfl, rfl, by decide +kernel, rfl, by decide +kernel, by decide +kernel⟩
theorem zqf (T:TopF K "is_whole" zhx)(XX:K.In h)(G:h.Ns mainGlobals mg)(z_bool:mg "bool"=none)(Af:mg "isinstance"=none)(z_int:mg "int"=none):CalD P w K mg base "is_whole" 1 ["thing"] zbw :=
 have nd:=zji.nd
 zt (k:=0) T XX G zji (fun _ _ _ _ _ _ us hl=>len1 us hl fun _=>rfl) fun f cdv A outer s H E hr=>(zf (zba (zbbj (zo zcj zef rfl Af zbo (za (zb (pv 0)) (za (znv (zid (v:=.ty "int") rfl z_int zbgv rfl) (fun _ _=>.ty _)) zd))) (zbbc (zbbd (zo zcj zef rfl Af zbo (za (zb (pv 0)) (za (znv (zid (v:=.ty "bool") rfl z_bool zya rfl) (fun _ _=>.ty _)) zd))))))))
theorem zhp:FnScope ["kept", "row"] ["kept", "row"] (defScope zgk):=⟨rfl, rfl, rfl, by decide +kernel, rfl, by decide +kernel, by decide +kernel⟩
theorem znh (T:TopF K "stands_in" zgk)(XX:K.In h)(G:h.Ns mainGlobals mg)(z_all:mg "all"=none)(Ac:mg "tuple"=none)(Af:mg "isinstance"=none)(Al:CalD P w K mg base "is_whole" 1 ["thing"] zbw):CalD P w K mg base "stands_in" 2 ["kept", "row"] zct :=
 have nd:=zhp.nd
 zt (k:=1) T XX G zhp (fun _ _ _ _ _ _ us hl=>len2 us hl fun _ _=>rfl) fun f cdv A outer s H E hr=>(zf (zba (zbbj (zo zcj zef rfl Af zbo (za (zb (pv 1)) (za (znv (zid (v:=.ty "tuple") rfl Ac zdm rfl) (fun _ _=>.ty _)) zd))) (zbbj (zo (zbbn rfl) zbhd rfl z_all zblh (za (zev rfl (zcm (zb (pv 1))) (fun _ _ _ _ _=>(zn (i:=0) (show(["part"]:List Str).Nodup from by decide +kernel) rfl (Or.inl rfl))) (fun _ _ _ _ _=>zeu) (fun _ _ _ _ _=>(zj Al (fun _ _ _ _ h=>zi h) (hr.mono (by decide)) rfl (za (zb (pv 0)) zd))) (N:=["part"]) (k:=1) (is:=[]) (zds (by rfl))) zd)) (zbbc (zbob (zzj (zqw hr) (zb (pv 1)) (zb (pv 0)))))))))
theorem zfg:FnScope ["a", "b"] ["a", "b"] (defScope zdz):=⟨rfl, rfl, rfl, by decide +kernel, rfl, by decide +kernel, by decide +kernel⟩
theorem zja (T:TopF K "falls_slowly" zdz)(XX:K.In h)(G:h.Ns mainGlobals mg)  : CalD P w K mg base "falls_slowly" 1 ["a", "b"] zch :=
 have nd:=zfg.nd
 zt (k:=0) T XX G zfg (fun _ _ _ _ _ _ us hl=>len2 us hl fun _ _=>rfl) fun f cdv A outer s H E hr=>(zf (zba (zbgk (zqd hr.units0) zqm (zb (pv 0)) (zbv zgw (oI_D fun _ _ _ _=>.int _) zk (zb (pv 1))) (nomark _))))
theorem zjj:FnScope ["row", "place"] ["row", "place"] (defScope zhy):=⟨rfl, rfl, rfl, by decide +kernel, rfl, by decide +kernel, by decide +kernel⟩
theorem zqg (T:TopF K "is_place" zhy)(XX:K.In h)(G:h.Ns mainGlobals mg)(Ab:mg "len"=none)(Al:CalD P w K mg base "is_whole" 1 ["thing"] zbw)(A2:CalD P w K mg base "falls_slowly" 1 ["a", "b"] zch):CalD P w K mg base "is_place" 2 ["row", "place"] zbx :=
 have nd:=zjj.nd
 zt (k:=1) T XX G zjj (fun _ _ _ _ _ _ us hl=>len2 us hl fun _ _=>rfl) fun f cdv A outer s H E hr=>(ze (zek (JW.pt (zwd (zge (zdr (zj Al (fun _ _ _ _ h=>zi h) (hr.mono (by decide)) rfl (za (zb (pv 1)) zd)))) (zmf (zge (zwe zbna (zqd hr.units0) (zjs fun _ _ _ _=>.bl _) zqm zk (zb (pv 1)) (zbv zgv (zjs fun _ _ _ _=>.int _) (zo zbd ziv rfl Ab zit (za (zb (pv 0)) zd)) zk))) (by first | exact Or.inl rfl | exact Or.inr rfl)))) (zf (zba zti)) zcx)
 (zf (zba (zj A2 (fun _ _ _ _ h=>zi h) (hr.mono (by decide)) rfl (za (zhi (zb (pv 0)) (zb (pv 1)) (fun _ _=>rfl)) (za (zhi (zb (pv 0)) (zbv zbi zcp (zb (pv 1)) zk) (fun _ _=>rfl)) zd))))))
theorem zfs:FnScope ["kept", "row", "place", "made"] ["kept", "row", "place"] (defScope zen):=⟨rfl, rfl, rfl, by decide +kernel, rfl, by decide +kernel, by decide +kernel⟩
theorem zkl (T:TopF K "exchange_in" zen)(XX:K.In h)(G:h.Ns mainGlobals mg)(c_stands_in:CalD P w K mg base "stands_in" 2 ["kept", "row"] zct)(Am:CalD P w K mg base "is_place" 2 ["row", "place"] zbx)(Ai:CalD P w K mg base "flip" 1 ["kept", "thing"] zjd)(An:CalD P w K mg base "rows_for_row" 3 ["row", "place"] zbf):CalD P w K mg base "exchange_in" 4 ["kept", "row", "place"] zcn :=
 have nd:=zfs.nd
 zt (k:=3) T XX G zfs (fun _ _ _ _ _ _ us hl=>len3 us hl fun _ _ _=>rfl) fun f cdv A outer s H E hr=>(ze (zek (zge (zdr (zj c_stands_in (fun _ _ _ _ h=>zi h) (hr.mono (by decide)) rfl (za (zb (pv 0)) (za (zb (pv 1)) zd))))) (zf zpm) zcx)
 (ze (zek (zge (zdr (zj Am (fun _ _ _ _ h=>zi h) (hr.mono (by decide)) rfl (za (zb (pv 1)) (za (zb (pv 2)) zd))))) (zf zpm) zcx)
 (ze (zbk (zj Ai (fun _ _ _ _ h=>zi h) (hr.mono (by decide)) rfl (za (zb (pv 0)) (za (zb (pv 1)) zd))))
 (zf (zcc xcs rfl (zcm (zj An (fun _ _ _ _ h=>zi h) (hr.mono (by decide)) rfl (za (zb (pv 1)) (za (zb (pv 2)) zd)))) (zn (i:=3) nd rfl (Or.inl rfl))
 (zf (zbk (zj Ai (fun _ _ _ _ h=>zi h) (hr.mono (by decide)) rfl (za (zb (pv 0)) (za (zb (pv 3)) zd))))))))))
theorem zon:FnScope ["rows", "steps", "kept", "row", "place"] ["rows", "steps"] (defScope zmy):=⟨rfl, rfl, rfl, by decide +kernel, rfl, by decide +kernel, by decide +kernel⟩
theorem zvl (T:TopF K "walked" zmy)(XX:K.In h)(G:h.Ns mainGlobals mg)(Ad:mg "sorted"=none)(Ac:mg "tuple"=none)(c_rows_kept:CalD P w K mg base "rows_kept" 1 ["rows"] zdt)(A3:CalD P w K mg base "exchange_in" 4 ["kept", "row", "place"] zcn):CalD P w K mg base "walked" 5 ["rows", "steps"] zgh :=
 have nd:=zon.nd
 zt (k:=4) T XX G zon (fun _ _ _ _ _ _ us hl=>len2 us hl fun _ _=>rfl) fun f cdv A outer s H E hr=>(ze (zx (i:=2) nd rfl (Or.inl rfl) (zj c_rows_kept (fun _ _ _ _ h=>zi h) (hr.mono (by decide)) rfl (za (zb (pv 0)) zd)))
 (ze (zcc xcs rfl (zcm (zb (pv 1))) (zxv rfl (zhk (zn (i:=3) nd rfl (Or.inl rfl)) (zhk (zn (i:=4) nd rfl (Or.inl rfl)) zte)))
 (zf (zbk (zj A3 (fun _ _ _ _ h=>zi h) (hr.mono (by decide)) rfl (za (zb (pv 2)) (za (zb (pv 3)) (za (zb (pv 4)) zd)))))))
 (zf (zba (zdg zbn zfn rfl Ac zdm (za (zo (zbz rfl hr.units) zee rfl Ad zed (za (zb (pv 2)) zd)) zd))))))
theorem zop:FnScope ["row"] ["row"] (defScope zna):=⟨rfl, rfl, rfl, by decide +kernel, rfl, by decide +kernel, by decide +kernel⟩
theorem zvn (T:TopF K "moment" zna)(XX:K.In h)(G:h.Ns mainGlobals mg)(z_enumerate:mg "enumerate"=none)(z_sum:mg "sum"=none):CalD P w K mg base "moment" 1 ["row"] zfo :=
 have nd:=zop.nd
 zt (k:=0) T XX G zop (fun _ _ _ _ _ _ us hl=>len1 us hl fun _=>rfl) fun f cdv A outer s H E hr=>(zf (zba (zo (zps rfl) zbha rfl z_sum zbgt (za (zev rfl (zwh rfl z_enumerate (zb (pv 0))) (fun _ _ _ _ _=>(zxv rfl (zhk (zn (i:=0) (show(["number", "part"]:List Str).Nodup from by decide +kernel) rfl (Or.inl rfl)) (zhk (zn (i:=1) (show(["number", "part"]:List Str).Nodup from by decide +kernel) rfl (Or.inl rfl)) zte)))) (fun _ _ _ _ _=>zeu) (fun _ _ _ _ _=>(zbv zgw (oI_D fun _ _ _ _=>.int _) (zb (pv 0)) (zb (pv 1)))) (N:=["number", "part"]) (k:=2) (is:=[]) (zds (by rfl))) zd))))
theorem zhb:FnScope ["levels", "row"] ["levels", "row"] (defScope zfm):=⟨rfl, rfl, rfl, by decide +kernel, rfl, by decide +kernel, by decide +kernel⟩
theorem zma (T:TopF K "flip_level" zfm)(XX:K.In h)(G:h.Ns mainGlobals mg)(Ai:CalD P w K mg base "flip" 1 ["kept", "thing"] zjd)(c_moment:CalD P w K mg base "moment" 1 ["row"] zfo):CalD P w K mg base "flip_level" 2 ["levels", "row"] zck :=
 have nd:=zhb.nd
 zt (k:=1) T XX G zhb (fun _ _ _ _ _ _ us hl=>len2 us hl fun _ _=>rfl) fun f cdv A outer s H E hr=>(zf (zbk (zj Ai (fun _ _ _ _ h=>zi h) (hr.mono (by decide)) rfl (za (zbbb (zb (pv 0)) (za (zj c_moment (fun _ _ _ _ h=>zi h) (hr.mono (by decide)) rfl (za (zb (pv 1)) zd)) (za zmj zd))) (za (zb (pv 1)) zd)))))
theorem zoo:FnScope ["row"] ["row"] (defScope zmz):=⟨rfl, rfl, rfl, by decide +kernel, rfl, by decide +kernel, by decide +kernel⟩
theorem zvm (T:TopF K "places" zmz)(XX:K.In h)(G:h.Ns mainGlobals mg)(Ab:mg "len"=none)(Aa:mg "range"=none)(Am:CalD P w K mg base "is_place" 2 ["row", "place"] zbx):CalD P w K mg base "places" 3 ["row"] ziw :=
 have nd:=zoo.nd
 zt (k:=2) T XX G zoo (fun _ _ _ _ _ _ us hl=>len1 us hl fun _=>rfl) fun f cdv A outer s H E hr=>(zf (zba (zev rfl (zbm rfl Aa (za (zbv zgv (zjs fun _ _ _ _=>.int _) (zo zbd ziv rfl Ab zit (za (zb (pv 0)) zd)) zk) zd)) (fun _ _ _ _ _=>(zn (i:=0) (show(["place", "row"]:List Str).Nodup from by decide +kernel) rfl (Or.inl rfl))) (fun _ _ _ _ _=>(zio (zdr (zj Am (fun _ _ _ _ h=>zi h) (hr.mono (by decide)) rfl (za (zb (pv 1)) (za (zb (pv 0)) zd)))))) (fun _ _ _ _ _=>(zb (pv 0))) (N:=["place", "row"]) (k:=1) (is:=[0]) (zds (by rfl)))))
theorem zbcr:FnScope ["rows", "levels", "row", "steps", "level", "slow", "made"] ["rows"] (defScope zbic):=⟨rfl, rfl, rfl, by decide +kernel, rfl, by decide +kernel, by decide +kernel⟩
theorem zbjj (T:TopF K "way" zbic)(XX:K.In h)(G:h.Ns mainGlobals mg)(z_max:mg "max"=none)(Ad:mg "sorted"=none)(As:CalD P w K mg base "flip_level" 2 ["levels", "row"] zck)(c_places:CalD P w K mg base "places" 3 ["row"] ziw)(An:CalD P w K mg base "rows_for_row" 3 ["row", "place"] zbf):CalD P w K mg base "way" 4 ["rows"] zbhf :=
 have nd:=zbcr.nd
 zt (k:=3) T XX G zbcr (fun _ _ _ _ _ _ us hl=>len1 us hl fun _=>rfl) fun f cdv A outer s H E hr=>(ze (zx (i:=1) nd rfl (Or.inl rfl) zbbf)
 (ze (zcc xcs rfl (zcm (zb (pv 0))) (zn (i:=2) nd rfl (Or.inl rfl))
 (zf (zbk (zj As (fun _ _ _ _ h=>zi h) (hr.mono (by decide)) rfl (za (zb (pv 1)) (za (zb (pv 2)) zd))))))
 (ze (zx (i:=3) nd rfl (Or.inl rfl) (zkb zd))
 (ze (zpk xcs (zbak (zb (pv 1))) (ze (zx (i:=4) nd rfl (Or.inl rfl) (zbgg (zb (pv 1)) (za (zo (zto rfl) zbhc rfl z_max zblf (za (zb (pv 1)) zd)) zd)))
 (zf (zcc xcs rfl (zcm (zo (zbz rfl hr.units) zee rfl Ad zed (za (zb (pv 4)) zd))) (zn (i:=2) nd rfl (Or.inl rfl))
 (ze (zx (i:=5) nd rfl (Or.inl rfl) (zj c_places (fun _ _ _ _ h=>zi h) (hr.mono (by decide)) rfl (za (zb (pv 2)) zd)))
 (zf (zek (zdr (zb (pv 5))) (ze (zbk (zgf (zb (pv 3)) (za (zbba (za (zb (pv 2)) (za (zhi (zb (pv 5)) zk (fun _ _=>rfl)) zd))) zd)))
 (zf (zcc xcs rfl (zcm (zj An (fun _ _ _ _ h=>zi h) (hr.mono (by decide)) rfl (za (zb (pv 2)) (za (zhi (zb (pv 5)) zk (fun _ _=>rfl)) zd)))) (zn (i:=6) nd rfl (Or.inl rfl))
 (zf (zbk (zj As (fun _ _ _ _ h=>zi h) (hr.mono (by decide)) rfl (za (zb (pv 1)) (za (zb (pv 6)) zd)))))))) zcx)))))))
 (zf (zba (zbod (zb (pv 3)))))))))
theorem zlw:FnScope ["rows"] ["rows"] (defScope zkg):=⟨rfl, rfl, rfl, by decide +kernel, rfl, by decide +kernel, by decide +kernel⟩
theorem zse (T:TopF K "settled" zkg)(XX:K.In h)(G:h.Ns mainGlobals mg)(c_walked:CalD P w K mg base "walked" 5 ["rows", "steps"] zgh)(c_way:CalD P w K mg base "way" 4 ["rows"] zbhf):CalD P w K mg base "settled" 6 ["rows"] zdh :=
 have nd:=zlw.nd
 zt (k:=5) T XX G zlw (fun _ _ _ _ _ _ us hl=>len1 us hl fun _=>rfl) fun f cdv A outer s H E hr=>(zf (zba (zj c_walked (fun _ _ _ _ h=>zi h) (hr.mono (by decide)) rfl (za (zb (pv 0)) (za (zj c_way (fun _ _ _ _ h=>zi h) (hr.mono (by decide)) rfl (za (zb (pv 0)) zd)) zd)))))
theorem zbcs:FnScope ["_law_script", "_law_bag_here", "_law_rows_here", "_law_due", "_law_k"] ["_law_script"] (defScope zbbw):=⟨rfl, rfl, rfl, by decide +kernel, rfl, by decide +kernel, by decide +kernel⟩
theorem zbjk {f:Addr}{fd:FuncData}(F:Fun K "law" "law" zbbw f fd)(Aa:mg "range"=none)(Au:CalD P w K mg base "_law_bag" 1 ["_law_script", "_law_at"] zeh)(Av:CalD P w K mg base "_law_rows" 3 ["_law_bag_here", "_law_many", "_law_most", "_law_long"] zdv)(A4:CalD P w K mg base "_law_from_above" 4 ["_law_bag_here", "_law_rows_here"] zbq)(Ao:CalD P w K mg base "_law_are_rows" 1 ["_law_found", "_law_due"] zbg)(Ap:CalD P w K mg base "settled" 6 ["rows"] zdh)(A5:CalD P w K mg base "_law_anyhow" 4 ["_law_bag_here", "_law_rows_here"] zda):FnOk P w K mg base CX0 7 f fd ["_law_script"] (spLaw K) :=
 have nd:=zbcs.nd
 zbex (k:=6) F zbcs rfl (fun cdv A outer s H E hr=>(ze (zx (i:=1) nd rfl (Or.inl rfl) (zj Au (fun _ _ _ _ h=>zi h) (hr.mono (by decide)) rfl (za (zb (pv 0)) (za zk zd))))
 (ze (zx (i:=2) nd rfl (Or.inl rfl) (zj Av (fun _ _ _ _ h=>zi h) (hr.mono (by decide)) rfl (za (zb (pv 1)) (za zk (za zk (za zk zd))))))
 (ze (zx (i:=3) nd rfl (Or.inl rfl) (zj A4 (fun _ _ _ _ h=>zi h) (hr.mono (by decide)) rfl (za (zb (pv 1)) (za (zb (pv 2)) zd))))
 (ze (zek (JW.pt (zwd (zge (zdr (zj Ao (fun _ _ _ _ h=>zi h) (hr.mono (by decide)) rfl (za (zj Ap (fun _ _ _ _ h=>zi h) (hr.mono (by decide)) rfl (za (zb (pv 2)) zd)) (za (zb (pv 3)) zd))))) (zmf (zge (zdr (zj Ao (fun _ _ _ _ h=>zi h) (hr.mono (by decide)) rfl (za (zj Ap (fun _ _ _ _ h=>zi h) (hr.mono (by decide)) rfl (za (zb (pv 2)) zd)) (za (zb (pv 3)) zd))))) (by first | exact Or.inl rfl | exact Or.inr rfl)))) (zf (zba zti)) zcx)
 (ze (zcc xcs rfl (ztc rfl Aa (za zk (za zk zd))) (zn (i:=4) nd rfl (Or.inl rfl))
 (ze (zx (i:=1) nd rfl (Or.inl rfl) (zj Au (fun _ _ _ _ h=>zi h) (hr.mono (by decide)) rfl (za (zb (pv 0)) (za (zb (pv 4)) zd))))
 (ze (zx (i:=2) nd rfl (Or.inl rfl) (zj Av (fun _ _ _ _ h=>zi h) (hr.mono (by decide)) rfl (za (zb (pv 1)) (za zk (za zk (za zk zd))))))
 (ze (zx (i:=3) nd rfl (Or.inl rfl) (zj A5 (fun _ _ _ _ h=>zi h) (hr.mono (by decide)) rfl (za (zb (pv 1)) (za (zb (pv 2)) zd))))
 (zf (zek (JW.pt (zbfn (zdf zbds zbeb (zb (pv 3)) zbgh (nomark _)) (zmf (zge (zdr (zj Ao (fun _ _ _ _ h=>zi h) (hr.mono (by decide)) rfl (za (zj Ap (fun _ _ _ _ h=>zi h) (hr.mono (by decide)) rfl (za (zb (pv 2)) zd)) (za (zb (pv 3)) zd))))) (by first | exact Or.inl rfl | exact Or.inr rfl)))) (zf (zba zti)) zcx))))))
 (zf (zba zti)))))))) K28.holds
end
theorem all_mk {l:W.OpenLaw}{w:World}{K:Fg}{h:Heap}{mg:Str->Option Value}{fa:Addr}(X:K.In h)(G:h.Ns mainGlobals mg)(hfa:mg "law"=some (.ref fa))
  (t1:TopF K "_law_bag" zib)(t2:TopF K "_law_odd" zia)(t3:TopF K "_law_take" zgn)(t4:TopF K "_law_row" zhz)(t5:TopF K "_law_rows" zgo)(t6:TopF K "_law_turn_over" zcv)(t7:TopF K "_law_moment" zep)(t8:TopF K "_law_places" zeo)(t9:TopF K "_law_ways" zgm)(t10:TopF K "_law_pair" zgp)(t11:TopF K "_law_more" zgq)(t12:TopF K "_law_from_above" zco)(t13:TopF K "_law_anyhow" zeq)(t14:TopF K "_law_are_rows" zdk)(t15:TopF K "rows_kept" zgl)(t16:TopF K "flip" zyn)(t17:TopF K "odd_ways" zhw)(t18:TopF K "rows_for_two" zdx)(t19:TopF K "rows_for_row" zdy)(t20:TopF K "is_whole" zhx)(t21:TopF K "stands_in" zgk)(t22:TopF K "falls_slowly" zdz)(t23:TopF K "is_place" zhy)(t24:TopF K "exchange_in" zen)(t25:TopF K "walked" zmy)(t26:TopF K "moment" zna)(t27:TopF K "flip_level" zfm)(t28:TopF K "places" zmz)(t29:TopF K "way" zbic)(t30:TopF K "settled" zkg)(t31:TopF K "law" zbbw)  (z0:W.nsIn K mainGlobals "len"=some none)(z1:W.nsIn K mainGlobals "abs"=some none)(z2:W.nsIn K mainGlobals "min"=some none)(z3:W.nsIn K mainGlobals "range"=some none)(z4:W.nsIn K mainGlobals "sorted"=some none)(z5:W.nsIn K mainGlobals "tuple"=some none)(z6:W.nsIn K mainGlobals "sum"=some none)(z7:W.nsIn K mainGlobals "list"=some none)(z8:W.nsIn K mainGlobals "isinstance"=some none)(z9:W.nsIn K mainGlobals "bool"=some none)(z10:W.nsIn K mainGlobals "int"=some none)(z11:W.nsIn K mainGlobals "any"=some none)(z12:W.nsIn K mainGlobals "all"=some none)(z13:W.nsIn K mainGlobals "enumerate"=some none)(z14:W.nsIn K mainGlobals "max"=some none)   :
  ∃ fd:FuncData,(∀(s:Shared) (v:Value), BindsTo s fd ⟨[v],[]⟩ [("_law_script", v)])/\∀ base:Heap, K.In base->base.Ns mainGlobals mg->FnOk l.prog w K mg base CX0 7 fa fd ["_law_script"] (spLaw K):=by
 have x0:=xdb X G z0;have x1:=xdb X G z1;have x2:=xdb X G z2;have x3:=xdb X G z3;have x4:=xdb X G z4;have x5:=xdb X G z5;have x6:=xdb X G z6;have x7:=xdb X G z7;have x8:=xdb X G z8;have x9:=xdb X G z9;have x10:=xdb X G z10;have x11:=xdb X G z11;have x12:=xdb X G z12;have x13:=xdb X G z13;have x14:=xdb X G z14;obtain⟨f,fd,a,F⟩:=t31;have e:=hfa.symm.trans (W.mg_of X G a);cases e;obtain⟨oc,od,kV,doc,pm,an,cdv,ct,osl,rfl,lk,hcd⟩:=id F.ex;refine⟨W.fnOf "law" "law" (defArgs zbbw) (defBody zbbw) (defScope zbbw) .none kV doc pm an cdv ct, fun s v=>.of_eq rfl, fun base _ _=>?_⟩
 have k__law_bag:CalD l.prog w K mg base _ _ _ _:=zqj t1 X G x0 x1 x2 x3
 have k__law_odd:CalD l.prog w K mg base _ _ _ _:=zqi t2 X G x4 x5
 have Aj:CalD l.prog w K mg base _ _ _ _:=znk t3 X G 
 have k__law_row:CalD l.prog w K mg base _ _ _ _:=zqh t4 X G x3 x2 x5 Aj
 have k__law_rows:CalD l.prog w K mg base _ _ _ _:=znl t5 X G x3 k__law_odd Aj k__law_row
 have Aw:CalD l.prog w K mg base _ _ _ _:=zhg t6 X G 
 have A6:CalD l.prog w K mg base _ _ _ _:=zkn t7 X G x0 x3 x6
 have Aq:CalD l.prog w K mg base _ _ _ _:=zkm t8 X G x0 x3
 have k__law_ways:CalD l.prog w K mg base _ _ _ _:=znj t9 X G x3
 have k__law_pair:CalD l.prog w K mg base _ _ _ _:=znm t10 X G x3 x5 x4 k__law_ways
 have Ax:CalD l.prog w K mg base _ _ _ _:=znn t11 X G x0 Aq Aj k__law_pair
 have A7:CalD l.prog w K mg base _ _ _ _:=zgx t12 X G x3 x7 x0 x4 x5 Aw A6 Aq Ax
 have A8:CalD l.prog w K mg base _ _ _ _:=zko t13 X G x3 x0 x4 x5 Aw Aq Aj Ax
 have A9:CalD l.prog w K mg base _ _ _ _:=zif t14 X G x5 x8 x9 x10 x11
 have k_rows_kept:CalD l.prog w K mg base _ _ _ _:=zni t15 X G 
 have k_flip:CalD l.prog w K mg base _ _ _ _:=zbdy t16 X G 
 have k_odd_ways:CalD l.prog w K mg base _ _ _ _:=zqe t17 X G 
 have Ba:CalD l.prog w K mg base _ _ _ _:=ziy t18 X G x3 x4 k_odd_ways
 have Ay:CalD l.prog w K mg base _ _ _ _:=ziz t19 X G Ba
 have Az:CalD l.prog w K mg base _ _ _ _:=zqf t20 X G x9 x8 x10
 have k_stands_in:CalD l.prog w K mg base _ _ _ _:=znh t21 X G x12 x5 x8 Az
 have Bb:CalD l.prog w K mg base _ _ _ _:=zja t22 X G 
 have A0:CalD l.prog w K mg base _ _ _ _:=zqg t23 X G x0 Az Bb
 have Bc:CalD l.prog w K mg base _ _ _ _:=zkl t24 X G k_stands_in A0 k_flip Ay
 have k_walked:CalD l.prog w K mg base _ _ _ _:=zvl t25 X G x4 x5 k_rows_kept Bc
 have k_moment:CalD l.prog w K mg base _ _ _ _:=zvn t26 X G x13 x6
 have Bd:CalD l.prog w K mg base _ _ _ _:=zma t27 X G k_flip k_moment
 have k_places:CalD l.prog w K mg base _ _ _ _:=zvm t28 X G x0 x3 A0
 have k_way:CalD l.prog w K mg base _ _ _ _:=zbjj t29 X G x14 x4 Bd k_places Ay
 have k_settled:CalD l.prog w K mg base _ _ _ _:=zse t30 X G k_walked k_way
 exact zbjk F x3 k__law_bag k__law_rows A7 A9 k_settled A8
end K28
open PySem PySem.W PyProof.Rows
set_option maxRecDepth 100000 in
set_option maxHeartbeats 0 in
theorem PySem.Challenge.cw_raisedsums_k28_settled_by_any_exchanges_holds : PySem.Challenge.rw_raisedsums_k28_settled_by_any_exchanges.Holds := by
  w_on; o_law; k_head; (case hw => w_witness2)
  k_fill
  refine L2.zbcf (l := PySem.Challenge.rw_raisedsums_k28_settled_by_any_exchanges) (n := 63) (k := 7) (x := "_law_script") (CX := fun _ => L2.CX0) (sp := fun w => Dd.spLaw _) rfl (by decide) rfl ⟨rfl, by decide, by decide⟩ (fun w h Y => PySem.W.kIn_of Y) ?F (fun _ _ a ns hl _ hS => ⟨a, ns, rfl, hS, hl, fun _ => rfl⟩) (fun _ _ _ _ _ z => z)
  case F =>
    intro w mg fa h KX G hmg
    refine' K28.all_mk KX G hmg ?t1 ?t2 ?t3 ?t4 ?t5 ?t6 ?t7 ?t8 ?t9 ?t10 ?t11 ?t12 ?t13 ?t14 ?t15 ?t16 ?t17 ?t18 ?t19 ?t20 ?t21 ?t22 ?t23 ?t24 ?t25 ?t26 ?t27 ?t28 ?t29 ?t30 ?t31  ?z0 ?z1 ?z2 ?z3 ?z4 ?z5 ?z6 ?z7 ?z8 ?z9 ?z10 ?z11 ?z12 ?z13 ?z14  
    all_goals first|k_is|kernel_rfl|(refine' L2.zby ?a ?l ?c ?k;(case a=>k_is);(case l=>k_is);(case c=>k_is);(case k=>k_is))|skip
#print axioms PySem.Challenge.cw_raisedsums_k28_settled_by_any_exchanges_holds
