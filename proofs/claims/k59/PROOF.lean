import PyProof.Rows.All
import Wide.All
import OpenK.AllK
import Wide.FinOn
import PyProof.EqAt
import PyProof.EqKinds
import PyProof.TupleCall
import PySem.Challenge.RW_raisedsums_k59_products_that_stand
set_option Elab.async false
set_option linter.all false
set_option maxRecDepth 100000
namespace PySem.W.Fast
theorem tw10365048062213443106:True:=⟨⟩
theorem tw8971759101106414954:True:=⟨⟩
theorem tw9093984067689652877:True:=⟨⟩
theorem tw14095291726856257643:True:=⟨⟩
theorem tw3612788727965497483:True:=⟨⟩
theorem tw3149318523975466206:True:=⟨⟩
theorem tw14869171001500464494:True:=⟨⟩
theorem tw17579975381713962168:True:=⟨⟩
theorem tw14191187746549138869:True:=⟨⟩
theorem tw7488723549011264149:True:=⟨⟩
theorem tw4568159955189304124:True:=⟨⟩
theorem tw16752248867900785763:True:=⟨⟩
theorem tw3755585182873423466:True:=⟨⟩
theorem tw4457241244113783331:True:=⟨⟩
theorem tw14991342579003424818:True:=⟨⟩
theorem tw4779622993081324431:True:=⟨⟩
theorem tw3796839099173971139:True:=⟨⟩
theorem tw9162265663212752332:True:=⟨⟩
theorem tw15495430204201436434:True:=⟨⟩
theorem tw14942245178877649578:True:=⟨⟩
theorem tw4526348881413236782:True:=⟨⟩
theorem tw8216026204098449699:True:=⟨⟩
theorem tw10873265826428593173:True:=⟨⟩
theorem tw5720879786261629874:True:=⟨⟩
theorem tw11772431235134007890:True:=⟨⟩
theorem tw8293851259242723983:True:=⟨⟩
theorem tw11340613039032939791:True:=⟨⟩
theorem tw9782870847391581201:True:=⟨⟩
theorem tw11189608038813380405:True:=⟨⟩
theorem tw16650911697865071917:True:=⟨⟩
theorem tw17592993341237053200:True:=⟨⟩
theorem tw782662587203658198:True:=⟨⟩
theorem tw2792074935222536728:True:=⟨⟩
theorem tw8484807059272068211:True:=⟨⟩
theorem tw12291702728700363812:True:=⟨⟩
theorem tw16668961472308761109:True:=⟨⟩
theorem tw9432045669602761168:True:=⟨⟩
theorem tw10909868293526605435:True:=⟨⟩
theorem tw4481037688075856929:True:=⟨⟩
theorem tw17703539165463685001:True:=⟨⟩
theorem tw13300326666820906404:True:=⟨⟩
theorem tw6252125502060634060:True:=⟨⟩
theorem tw111760129310707594:True:=⟨⟩
theorem tw8798566775075260198:True:=⟨⟩
theorem tw7242471131898097858:True:=⟨⟩
theorem tw7538523069353270926:True:=⟨⟩
theorem tw6719252296282472833:True:=⟨⟩
theorem tw10272632458412884772:True:=⟨⟩
theorem tw10449899868088840060:True:=⟨⟩
theorem tw17666166636847583683:True:=⟨⟩
theorem tw14899760576461294886:True:=⟨⟩
theorem tw6930884801597871787:True:=⟨⟩
theorem tw4389173280730320120:True:=⟨⟩
theorem tw14344299644676303761:True:=⟨⟩
theorem tw15665832864312134989:True:=⟨⟩
theorem tw14208578128854999399:True:=⟨⟩
theorem tw13460158414685641394:True:=⟨⟩
theorem tw7338077955890128765:True:=⟨⟩
theorem tw13009857068455266599:True:=⟨⟩
theorem tw5901320542998723469:True:=⟨⟩
theorem tw14555403654223503133:True:=⟨⟩
end PySem.W.Fast
set_option genSizeOfSpec false
set_option genInjectivity false
abbrev Fg:=PySem.W.Frag
abbrev xba:=@PySem.wpAny_bind
abbrev xbb:=@Nat.le_trans
abbrev xbc:=@List.length_map
abbrev xbd:=@PySem.Heap.get?_push_of_some
abbrev xbe:=@Nat.le_refl
abbrev xbf:=@List.getElem?_eq_some_iff
abbrev xbg:=@Nat.lt_of_lt_of_le
abbrev xbh:=@PySem.wpAny_pure
abbrev xbi:=@List.getElem?_eq_getElem
abbrev xbj:=@PyProof.Rows.wpS_bind
abbrev xbk:=@PyProof.Rows.wpS_pure
abbrev xbl:=@List.length_append
abbrev xbm:=@PySem.Heap.lt_size
abbrev xbn:=@List.mem_cons_self
abbrev xbo:=@Nat.le_add_right
abbrev xbp:=@List.mem_cons_of_mem
abbrev xbq:=@List.mem_of_getElem?
abbrev xbr:=@Nat.le_of_lt
abbrev xbs:=@List.size_toArray
abbrev xbt:=@List.map_cons
abbrev xbu:=@decide_eq_true
abbrev xbv:=@decide_eq_false
abbrev xbw:=@PySem.Heap.get?_push_size
abbrev xbx:=@List.mem_cons
abbrev xby:=@List.take_length
abbrev xbz:=@List.getElem?_append_left
abbrev xca:=@List.mem_append
abbrev xcb:=@List.length_cons
abbrev xcc:=@Nat.le_of_not_lt
abbrev xcd:=@PySem.PassesOwn.never
abbrev xce:=@List.mem_map
abbrev xcf:=@Array.length_toList
abbrev xcg:=@Nat.add_sub_cancel'
abbrev xch:=@Bool.false_eq_true
abbrev xci:=@List.append_assoc
abbrev xcj:=@Nat.add_le_add_left
abbrev xck:=@List.mem_singleton
abbrev xcl:=@Nat.ne_of_lt
abbrev xcm:=@Array.getElem?_toList
abbrev xcn:=@Option.some.inj
abbrev xco:=@List.getElem?_append_right
abbrev xcp:=@List.mem_range
abbrev xcq:=@List.length_take
abbrev xcr:=@List.map_map
abbrev xcs:=@Ne.symm
abbrev xct:=@Nat.add_sub_cancel_left
abbrev xcu:=@List.filter_cons_of_pos
abbrev xcv:=@List.getElem?_map
abbrev xcw:=@Nat.le_of_lt_succ
abbrev xcx:=@Nat.lt_of_le_of_lt
abbrev xcy:=@Nat.lt_of_le_of_ne
abbrev xcz:=@Option.map_eq_some_iff
abbrev xda:=@List.getD_eq_getElem?_getD
abbrev xdb:=@Nat.le_sub_one_of_lt
abbrev xdc:=@Nat.le_of_succ_le
abbrev xdd:=@List.filter_cons_of_neg
abbrev xde:=@List.mem_append_right
abbrev xdf:=@Nat.le_of_eq
abbrev xdg:=@Nat.le_of_add_left_le
abbrev xdh:=@PySem.W.mg_none_of
abbrev xdi:=@Array.toList_append
abbrev xdj:=@PyProof.Rows.wpS_forRange
abbrev xdk:=@List.find?_cons
abbrev xdl:=@Nat.sub_lt_left_of_lt_add
abbrev xdm:=@List.getElem?_set_ne
abbrev xdn:=@List.take_of_length_le
abbrev xdo:=@if_false
abbrev xdp:=@List.append_nil
abbrev xdq:=@Nat.le_antisymm
abbrev xdr:=@Nat.add_lt_of_lt_sub'
abbrev xds:=@List.getElem_mem
abbrev xdt:=@Nat.xor_assoc
abbrev xdu:=@Int.toNat_natCast
abbrev xdv:=@Nat.zero_le
abbrev xdw:=@Nat.zero_add
abbrev xdx:=@List.mem_flatMap
abbrev xdy:=@Nat.add_lt_add_left
abbrev xdz:=@if_true
abbrev xea:=@Nat.mod_two_eq_zero_or_one
abbrev xeb:=@Nat.sub_lt_sub_right
abbrev xec:=@List.getElem?_set_self
abbrev xed:=@Nat.not_lt_of_le
abbrev xee:=@Nat.succ_le_succ
abbrev xef:=@PySem.wpAny_mono
abbrev xeg:=@of_decide_eq_true
abbrev xeh:=@Nat.le_sub_of_add_le'
abbrev xei:=@List.take_append_drop
abbrev xej:=@PySem.W.kia_one
abbrev xek:=@Nat.min_eq_left
abbrev xel:=@List.idxOf_lt_length_of_mem
abbrev xem:=@List.mem_append_left
abbrev xen:=@Nat.mul_le_mul_right
abbrev xeo:=@Nat.lt_of_succ_lt
abbrev xep:=@List.getElem_of_mem
abbrev xeq:=@Bool.false_ne_true
abbrev xer:=@List.lookup_cons
abbrev xes:=@Nat.lt_or_ge
abbrev xet:=@List.all_eq_true
abbrev xeu:=@List.pairwise_cons
abbrev xev:=@Nat.xor_zero
abbrev xew:=@PySem.wpAny_call_entry
abbrev xex:=@PyProof.Rows.wpS_mono
abbrev xey:=@decide_true
abbrev xez:=@PySem.F.slot_dict_keyiterator_next
abbrev xfa:=@Nat.sub_le_sub_right
abbrev xfb:=@List.mem_of_mem_take
abbrev xfc:=@Nat.pow_le_pow_right
abbrev xfd:=@Option.bind_eq_some_iff
abbrev xfe:=@Nat.sub_pos_of_lt
abbrev xff:=@Nat.le_succ_of_le
abbrev xfg:=@Array.toList_push
abbrev xfh:=@PySem.wpAny_newObj_type
abbrev xfi:=@PyProof.Rows.callWith_type1
abbrev xfj:=@List.sum_append
abbrev xfk:=@decide_false
abbrev xfl:=@Array.perm_iff_toList_perm
abbrev xfm:=@PySem.wpAny_holding
abbrev xfn:=@Nat.min_le_right
abbrev xfo:=@Nat.lt_of_not_le
abbrev xfp:=@List.getElem?_drop
abbrev xfq:=@Nat.lt_of_lt_of_eq
abbrev xfr:=@List.getElem?_toArray
abbrev xfs:=@List.filter_append
abbrev xft:=@List.length_set
abbrev xfu:=@Nat.sub_le
abbrev xfv:=@List.pairwise_append
abbrev xfw:=@Int.zero_add
abbrev xfx:=@List.map_append
abbrev xfy:=@List.length_range
abbrev xfz:=@PySem.wpAny_truthy_bool
abbrev xga:=@PySem.wpAny_typeNameOfWhole_keyiter
abbrev xgb:=@Int.eq_ofNat_of_zero_le
abbrev xgc:=@PySem.mem_of_lookup
abbrev xgd:=@Nat.sub_le_sub_left
abbrev xge:=@List.flatMap_append
abbrev xgf:=@beq_eq_false_iff_ne
abbrev xgg:=@Bool.and_eq_true
abbrev xgh:=@List.not_mem_nil
abbrev xgi:=@decide_eq_decide
abbrev xgj:=@beq_iff_eq
abbrev xgk:=@PyProof.Rows.wpS_modify
abbrev xgl:=@Nat.sub_add_cancel
abbrev xgm:=@Nat.xor_self
abbrev xgn:=@PySem.tupleKind_room_in1
abbrev xgo:=@List.mem_filter
abbrev xgp:=@List.length_replicate
abbrev xgq:=@Bool.eq_iff_iff
abbrev xgr:=@List.Perm.append_left
abbrev xgs:=@List.perm_append_comm
abbrev xgt:=@PySem.wpAny_passesOwn
abbrev xgu:=@Nat.lt_irrefl
abbrev xgv:=@List.any_cons
abbrev xgw:=@List.sum_cons
abbrev xgx:=@and_self
abbrev xgy:=@List.filter_congr
abbrev xgz:=@List.drop_eq_getElem_cons
abbrev xha:=@PySem.wpAny_field
abbrev xhb:=@List.length_drop
abbrev xhc:=@List.take_succ_eq_append_getElem
abbrev xhd:=@beq_self_eq_true
abbrev xhe:=@PySem.Heap.SameBut.update
abbrev xhf:=@PyProof.Rows.slot_tuple_getitem
abbrev xhg:=@List.countP_cons_of_pos
abbrev xhh:=@Nat.lt_add_of_pos_right
abbrev xhi:=@List.pairwise_singleton
abbrev xhj:=@List.getElem?_cons_succ
abbrev xhk:=@PySem.Paired.length
abbrev xhl:=@PyProof.Rows.wpS_get
abbrev xhm:=@PySem.Calls.spliced_cons
abbrev xhn:=@List.nodup_cons
abbrev xho:=@Nat.sub_lt
abbrev xhp:=@Nat.min_le_left
abbrev xhq:=@List.foldl_cons
abbrev xhr:=@List.count_eq_zero
abbrev xhs:=@PySem.wpAny_rule
abbrev xht:=@PySem.wpAny_setField_rec
abbrev xhu:=@PySem.Calls.callWith_builtin
abbrev xhv:=@List.Perm.append_right
abbrev xhw:=@List.drop_eq_nil_of_le
abbrev xhx:=@List.count_append
abbrev xhy:=@List.foldl_append
abbrev xhz:=@PySem.wpAny_dictEntries
abbrev xia:=@Nat.ne_of_gt
abbrev xib:=@PySem.Heap.get?_update_self
abbrev xic:=@Nat.lt_trans
abbrev xid:=@Array.extract_eq_empty_of_le
abbrev xie:=@Nat.zero_xor
abbrev xig:=@Array.toList_reverse
abbrev xih:=@List.reverse_reverse
abbrev xii:=@Bool.not_true
abbrev xij:=@List.range_succ
abbrev xik:=@Array.getElem?_eq_getElem
abbrev xil:=@List.pairwise_iff_getElem
abbrev xim:=@Int.emod_nonneg
abbrev xin:=@PySem.F.args_tuple_add_2
abbrev xio:=@PySem.Obj.data_mapFields
abbrev xip:=@List.count_pos_iff
abbrev xiq:=@Nat.succ_mul
abbrev xir:=@PySem.wpAny_pyIter_tuple
abbrev xis:=@PySem.wpAny_Call_Name_kw
abbrev xit:=@PyProof.Rows.slot_tuple_getitem
abbrev xiu:=@List.nodup_nil
abbrev xiv:=@PySem.Heap.size_push
abbrev xiw:=@PySem.wpAny_seqItems
abbrev xix:=@PySem.F.entry_tuple_add
abbrev xiy:=@List.countP_cons_of_neg
abbrev xiz:=@List.eraseIdx_cons_succ
abbrev xja:=@PySem.F.plainAttrs_list
abbrev xjb:=@PySem.Calls.spliced_nil
abbrev xjc:=@Nat.zero_lt_of_lt
abbrev xjd:=@PySem.F.slot_tuple_add
abbrev xje:=@Nat.le_mul_of_pos_left
abbrev xjf:=@Nat.testBit_lt_two_pow
abbrev xjg:=@PySem.sizeLine_eq
abbrev xjh:=@Nat.min_eq_right
abbrev xji:=@List.mem_reverse
abbrev xjj:=@List.any_eq_true
abbrev xjk:=@List.cons_append
abbrev xjl:=@List.map_flatMap
abbrev xjm:=@PyProof.Rows.wpS_lift
abbrev xjn:=@PySem.F.slot_tuple_lt
abbrev xjo:=@PySem.F.slot_dict_get
abbrev xjp:=@List.getElem?_eq_none
abbrev xjq:=@List.length_filter_le
abbrev xjr:=@List.length_nil
abbrev xjs:=@List.map_nil
abbrev xjt:=@PySem.Calls.evalArgs_plain
abbrev xju:=@Nat.sub_self
abbrev xjv:=@List.nil_append
abbrev xjw:=@Nat.add_zero
abbrev xjx:=@List.filter_map
abbrev xjy:=@Nat.and_div_two
abbrev xjz:=@Bool.decide_and
abbrev xka:=@List.eq_nil_iff_forall_not_mem
abbrev xkb:=@Nat.testBit_xor
abbrev xkc:=@PySem.wpAny_execs_nil
abbrev xkd:=@List.filterMap_cons
abbrev xke:=@List.map_congr_left
abbrev xkf:=@Nat.pow_le_pow_left
abbrev xkg:=@List.dropLast_concat_getLast
abbrev xkh:=@PySem.wpAny_setField
abbrev xki:=@or_false
abbrev xkj:=@List.zip_cons_cons
abbrev xkk:=@Option.isSome_some
abbrev xkl:=@Array.append_empty
abbrev xkm:=@Nat.pos_of_ne_zero
abbrev xkn:=@Option.isSome_none
abbrev xko:=@Nat.eq_zero_or_pos
abbrev xkp:=@List.filter_filter
abbrev xkq:=@Nat.one_le_two_pow
abbrev xkr:=@List.sum_singleton
abbrev xks:=@List.getElem_idxOf
abbrev xkt:=@PySem.W.mg_of
abbrev xku:=@PySem.wpAny_attempt
abbrev xkv:=@List.take_sublist
abbrev xkw:=@Option.isSome_map
abbrev xkx:=@Nat.lt_succ_of_le
abbrev xky:=@List.mapM_toArray
abbrev xkz:=@List.ext_getElem?
abbrev xla:=@Nat.lt_succ_of_lt
abbrev xlb:=@List.nodup_append
abbrev xlc:=@List.flatMap_cons
abbrev xld:=@PySem.wpAny_pyIter_list
abbrev xle:=@decide_eq_true_eq
abbrev xlf:=@Option.getD_none
abbrev xlg:=@Nat.max_eq_right
abbrev xlh:=@Nat.lt_succ_self
abbrev xli:=@Nat.pow_succ
abbrev xlj:=@map_eq_pure_bind
abbrev xlk:=@List.of_mem_zip
abbrev xll:=@List.forIn_cons
abbrev xlm:=@Nat.le_add_left
abbrev xln:=@List.count_cons
abbrev xlo:=@Nat.two_pos
abbrev xlp:=@Nat.le_succ
abbrev xlq:=@Bool.and_false
abbrev xlr:=@List.drop_drop
abbrev xls:=@List.take_zero
set_option maxHeartbeats 0
namespace L2
open PySem PySem.Spec PyProof.Rows
noncomputable abbrev Key:=Sum Int Str
noncomputable def keyIs:Key->Value->Bool
 | .inl k,v=>Value.isInt k v
 | .inr x,v=>Value.isStrOf x v
noncomputable def keyH (w:World):Key->Int
 | .inl k=>hashInt k
 | .inr x=>hashStr w x
theorem zbn:∀{k:Key} {v:Value},keyIs k v=true->(∃i t,k=Sum.inl i/\v=Value.int i t)\/(∃x t,k=Sum.inr x/\v=Value.str x t)
 | .inl i,v,h=>by
  obtain⟨t,e⟩:=Value.isInt_shape (k:=i) (v:=v) h;exact .inl ⟨i,t,rfl,e⟩
 | .inr x,v,h=>by
  obtain⟨t,e⟩:=Value.isStrOf_shape (x:=x) (v:=v) h;exact .inr ⟨x,t,rfl,e⟩
theorem zxg (i:Int)(t:Tok):keyIs (.inl i) (.int i t)=true:=by simp[keyIs,Value.isInt]
theorem zxf (x:Str)(t:Tok):keyIs (.inr x) (.str x t)=true:=by simp[keyIs,Value.isStrOf]
theorem zblf (a b:Int):decide ((Sum.inl a:Key)=Sum.inl b)=(a==b):=by
 by_cases e:a=b
 ·subst e;simp
 ·have h:¬ (Sum.inl a:Key)=Sum.inl b:=fun q=>e (Sum.inl.inj q)
  rw[xbv h];exact(xgf.mpr e).symm
theorem zblc (a b:Str):decide ((Sum.inr a:Key)=Sum.inr b)=decide (a=b):=by
 by_cases e:a=b
 ·subst e;simp
 ·have h:¬ (Sum.inr a:Key)=Sum.inr b:=fun q=>e (Sum.inr.inj q)
  rw[xbv h,xbv e]
theorem zble (a:Int)(b:Str):decide ((Sum.inl a:Key)=Sum.inr b)=false:=xbv (fun q=>nomatch q)
theorem zbld (a:Str)(b:Int):decide ((Sum.inr a:Key)=Sum.inl b)=false:=xbv (fun q=>nomatch q)
noncomputable def mixKind (prog:Program) (w:World):PySem.KeyKind prog w Key where
 is:=keyIs
 hash:=keyH w
 inj:=fun v a b ha hb=>by
  rcases zbn ha with⟨i,t,rfl,rfl⟩ | ⟨x,t,rfl,rfl⟩
  ·rcases zbn hb with⟨j,u,rfl,e⟩ | ⟨y,u,rfl,e⟩
   ·injection e with e1 _;rw[e1]
   ·exact nomatch e
  ·rcases zbn hb with⟨j,u,rfl,e⟩ | ⟨y,u,rfl,e⟩
   ·exact nomatch e
   ·injection e with e1 _;rw[e1]
 byValue:=fun k v h=>by
  rcases zbn h with⟨i,t,rfl,rfl⟩ | ⟨x,t,rfl,rfl⟩<;>rfl
 pyHash:=fun hv h=>by
  rcases zbn hv with⟨i,t,rfl,rfl⟩ | ⟨x,t,rfl,rfl⟩
  ·exact wpAny_pyHash_int h
  ·exact wpAny_pyHash_str h
 eqBool:=fun hu hv h=>by
  rcases zbn hu with⟨i,t,rfl,rfl⟩ | ⟨x,t,rfl,rfl⟩
  ·rcases zbn hv with⟨j,u,rfl,rfl⟩ | ⟨y,u,rfl,rfl⟩
   ·rw[zblf] at h;exact wpAny_eqBool_int h
   ·rw[zble] at h;exact SeqAt.EqAt.int_str i t y u _ _ _ _ h
  ·rcases zbn hv with⟨j,u,rfl,rfl⟩ | ⟨y,u,rfl,rfl⟩
   ·rw[zbld] at h;exact SeqAt.EqAt.str_int x t j u _ _ _ _ h
   ·rw[zblc] at h;exact wpAny_eqBool_str h
 «strs»:=fun k x t v h=>by
  rcases zbn h with⟨i,u,rfl,e⟩ | ⟨y,u,rfl,e⟩
  ·exact nomatch e
  ·injection e with e1 _
   subst e1;cases v<;>rfl
theorem zrn (prog:Program)(w:World)(i:Int)(t:Tok):(mixKind prog w).is (.inl i) (.int i t)=true:=zxg i t
theorem zrm (prog:Program)(w:World)(x:Str)(t:Tok):(mixKind prog w).is (.inr x) (.str x t)=true:=zxf x t
set_option genInjectivity true in
inductive V where
 | non | bl (b:Bool) | int (i:Int) | str (x:Str) | byt (b:Array UInt8) | flt (b:UInt64) | ref (a:Addr) | ty (n:String)
 deriving DecidableEq
noncomputable def RelV:V->Value->Prop
 | .non,u=>u=Value.none
 | .bl b,u=>u=Value.bool b
 | .int i,u=>∃t,u=Value.int i t
 | .str x,u=>∃t,u=Value.str x t
 | .byt b,u=>∃t,u=Value.bytes b t
 | .flt b,u=>∃t,u=Value.float b t
 | .ref a,u=>u=Value.ref a
 | .ty n,u=>u=Value.type n
noncomputable abbrev Vals:List V->List Value->Prop:=Paired RelV
theorem Vals.length {xs:List V}{us:List Value}(r:Vals xs us):xs.length=us.length:=xhk r
theorem Vals.get:∀{xs:List V} {us:List Value} {i:Nat} {x:V},Vals xs us->xs[i]?=some x->∃u,us[i]?=some u/\RelV x u
 | _,_,_,_,.nil,e=>by simp at e
 | _,_,0,_,.cons r _,e=>by simp at e;subst e;exact⟨_,rfl,r⟩
 | _,_,i+1,x,.cons _ t,e=>by
  obtain⟨u,h1,h2⟩:=Vals.get (i:=i) (x:=x) t (by simpa using e);exact⟨u,by simpa using h1,h2⟩
theorem Vals.set {x:V}{u:Value}(r:RelV x u):∀{xs:List V} {us:List Value} (i:Nat),Vals xs us->Vals (xs.set i x) (us.set i u)
 | _,_,_,.nil=>.nil
 | _,_,0,.cons _ t=>.cons r t
 | _,_,i+1,.cons q t=>.cons q (Vals.set r i t)
theorem Vals.append:∀{xs ys:List V} {us ws:List Value},Vals xs us->Vals ys ws->Vals (xs++ys) (us++ws)
 | _,_,_,_,.nil,s=>s
 | _,_,_,_,.cons r t,s=>.cons r (Vals.append t s)
theorem Vals.take:∀{xs:List V} {us:List Value} (n:Nat),Vals xs us->Vals (xs.take n) (us.take n)
 | _,_,0,_=>.nil
 | _,_,_+1,.nil=>.nil
 | _,_,n+1,.cons r t=>.cons r (Vals.take n t)
theorem Vals.drop:∀{xs:List V} {us:List Value} (n:Nat),Vals xs us->Vals (xs.drop n) (us.drop n)
 | _,_,0,r=>r
 | _,_,_+1,.nil=>.nil
 | _,_,n+1,.cons _ t=>Vals.drop n t
noncomputable def RelO:Option V->Option Value->Prop
 | some v,some u=>RelV v u
 | none,none=>True
 | _,_=>False
noncomputable def KV {κ:Type}:List (κ×V)->List (κ×Value)->Prop:=Paired fun(p:κ×V) (q:κ×Value)=>p.1=q.1/\RelV p.2 q.2
noncomputable def kV:Key->V
 | .inl i=>.int i
 | .inr x=>.str x
set_option genInjectivity true in
inductive HO where
 /-- a list -/
 | lst (xs:List V)
 /-- a tuple (never changes) -/
 | tup (xs:List V)
 /-- a dict whose keys are ints and texts;one whose keys are tuples of ints and texts (the empty one is both) -/
 | dK (kvs:List (Key×V)) | dT (kvs:List (List Key×V))
 /-- a set of ints: its members,its size -/
 | set (S:Int->Bool) (n:Nat)
 /-- an instance of the class at C,its dict at dx,its attributes -/
 | ins (C dx:Addr) (fs:List (Str×V))
 /-- the dict of the instance at x -/
 | own (x:Addr)
 /-- the dict of an exception -/
 | xd (fs:List (Str×V))
 /-- a bound method,f of x -/
 | met (f x:Addr)
 /-- a range object lo,lo+1,.. below hi -/
 | rng (lo hi:Int)
 /-- a thing that is known to the object (the script;a dict while a loop walks it): read,never written while it is so -/
 | frz (o:Obj) (u:HO)
 /-- a code object's table -/
 | tbl (ps:Array Value)
 /-- any other thing,by what is true of its one object (a def of one's own: SetO a S n:=HO.ext fun h=>..) -/
 | ext (φ:Heap->Prop)
noncomputable abbrev Hp:=Addr->Option HO
noncomputable def upd (H:Hp) (a:Addr) (o:HO):Hp:=fun b=>if b=a then some o else H b
theorem zbb {H:Hp}{a:Addr}{o:HO}:upd H a o a=some o:=by unfold upd;rw[if_pos rfl]
theorem zy {H:Hp}{a b:Addr}{o:HO}(h:b≠a):upd H a o b=H b:=by unfold upd;rw[if_neg h]
theorem zboa {H:Hp}{a b:Addr}{o u:HO}(h:H a=some o)(h':H b=some u)(d:o≠u):a≠b:=by
 intro e;subst e;rw[h] at h';exact d (xcn h')
theorem zp {H:Hp}{a b:Addr}{o:HO}(h:H a=some o)(h':H b=none):a≠b:=by
 intro e;subst e;rw[h] at h';cases h'
section
variable (P:Program)(w:World)
noncomputable def ObjOk (H:Hp) (h:Heap) (a:Addr):HO->Prop
 | .lst xs=>xs.length<=sizeLine/\∃(its:List Value) (n:Nat), Vals xs its/\h.get? a=some { cls:=.type "list", data:=.seq its.toArray n }
 | .tup xs=>xs.length<=sizeLine/\∃its:List Value,Vals xs its/\IsTup h a its.toArray
 | .dK kvs=>kvs.length<=sizeLine/\(a==sysModules)=false/\∃vs,KV kvs vs/\h.DictOf (mixKind P w) a vs
 | .dT kvs=>kvs.length<=sizeLine/\(a==sysModules)=false/\∃xs:List (List Key×Addr×Value),
  Paired (fun(p:List Key×V) (q:List Key×Addr×Value)=>p.1=q.1/\H q.2.1=some (.tup (p.1.map kV))/\RelV p.2 q.2.2) kvs xs /\
  ∃o es ep,h.get? a=some o/\o.ExactDict/\o.data=.dict es ep/\es.toList=xs.map (entryOfKey (tupleKind (mixKind P w)))/\(xs.map (·.1)).Nodup
 | .set S n=>h.SetOf (intKind P w) a S n
 | .ins C dx fs=>H dx=some (.own a)/\fs.length<=1000/\dx≠a/\h.get? a=some (W.instObj C dx) /\
  ∃mA,h.Ns1 dx mA/\(∀f,RelO (fs.lookup f) (mA f))/\PySem.Within mA (fs.map (·.1))
 | .own _=>∃o,h.get? a=some o
 | .xd fs=>∃mA,h.Ns1 a mA/\∀f,RelO (fs.lookup f) (mA f)
 | .rng lo hi=>∃ t u v, h.get? a=some { cls:=.type "range", data:=.fields #[.int lo t, .int hi u, .int 1 v] }
 | .frz o u=>h.get? a=some o/\ObjOk H h a u
 | .tbl ps=>h.get? a=some {cls:=.none,data:=.fields ps}
 | .met f x=>h.get? a=some (W.methodObj (.ref f) (.ref x))
 | .ext φ=>φ h/\(∃o,h.get? a=some o)/\∀h1 h2:Heap,φ h1->(∀o,h1.get? a=some o->h2.get? a=some o)->φ h2
noncomputable def HOk (H:Hp) (h:Heap):Prop:=∀a o,H a=some o->ObjOk P w H h a o
end
section
variable {P:Program}{w:World}{H H':Hp}{h h':Heap}{a:Addr}{o:HO}
theorem ObjOk.lt (x:ObjOk P w H h a o):a < h.objs.size:=by
 cases o with
 | lst xs=>obtain⟨_,_,_,_,e⟩:=x;exact xbm e
 | tup xs=>obtain⟨_,_,_,p⟩:=x;exact p.lt
 | dK kvs=>obtain⟨_,_,_,_,o,_,_,e,_⟩:=x;exact xbm e
 | dT kvs=>obtain⟨_,_,_,_,o,_,_,e,_⟩:=x;exact xbm e
 | set S n=>obtain⟨o,_,_,_,e,_⟩:=x;exact xbm e
 | ins C dx fs=>obtain⟨_,_,_,e,_⟩:=x;exact xbm e
 | own y=>obtain⟨_,e⟩:=x;exact xbm e
 | xd fs=>obtain⟨_,⟨_,_,_,e,_⟩,_⟩:=x;exact xbm e
 | rng lo hi=>obtain⟨_,_,_,e⟩:=x;exact xbm e
 | frz ob u=>obtain⟨e,_⟩:=x;exact xbm e
 | tbl ps=>exact xbm (show h.get? a=some _ from x)
 | met f y=>exact xbm (show h.get? a=some _ from x)
 | ext φ=>obtain⟨_,⟨_,e⟩,_⟩:=x;exact xbm e
theorem Paired.mapP {α β:Type}{F G:α->β->Prop}:∀{l₁:List α} {l₂:List β},Paired F l₁ l₂->(∀a b,F a b->G a b)->Paired G l₁ l₂
 | _,_,.nil,_=>.nil
 | _,_,.cons r t,f=>.cons (f _ _ r) (Paired.mapP t f)
theorem ObjOk.stay (x:ObjOk P w H h a o)(k:∀b u,(b=a\/H b=some (.own a))->h.get? b=some u->h'.get? b=some u)
  (ho:∀b,H b=some (.own a)->H' b=some (.own a))(ht:∀b xs,H b=some (.tup xs)->H' b=some (.tup xs)):ObjOk P w H' h' a o:=by
 induction o with
 | lst xs=>obtain⟨z,its,n,r,e⟩:=x;exact⟨z,its,n,r,k _ _ (.inl rfl) e⟩
 | tup xs=>obtain⟨z,its,r,ob,e,c⟩:=x;exact⟨z,its,r,ob,k _ _ (.inl rfl) e,c⟩
 | dK kvs=>obtain⟨z,y,vs,r,ob,es,ep,e,c⟩:=x;exact⟨z,y,vs,r,ob,es,ep,k _ _ (.inl rfl) e,c⟩
 | dT kvs =>
  obtain⟨z,y,xs,r,ob,es,ep,e,c⟩:=x;exact⟨z,y,xs,Paired.mapP r fun p q z=>⟨z.1,ht _ _ z.2.1,z.2.2⟩,ob,es,ep,k _ _ (.inl rfl) e,c⟩
 | set S n=>obtain⟨ob,es,ep,t,e,c⟩:=x;exact⟨ob,es,ep,t,k _ _ (.inl rfl) e,c⟩
 | ins C dx fs =>
  obtain⟨d,z,ne,e,mA,⟨od,es,ep,e2,c⟩,r⟩:=x;exact⟨ho _ d,z,ne,k _ _ (.inl rfl) e,mA,⟨od,es,ep,k _ _ (.inr d) e2,c⟩,r⟩
 | own y=>obtain⟨ob,e⟩:=x;exact⟨ob,k _ _ (.inl rfl) e⟩
 | xd fs=>obtain⟨mA,⟨od,es,ep,e,c⟩,r⟩:=x;exact⟨mA,⟨od,es,ep,k _ _ (.inl rfl) e,c⟩,r⟩
 | rng lo hi=>obtain⟨t,u,v,e⟩:=x;exact⟨t,u,v,k _ _ (.inl rfl) e⟩
 | frz ob u ih=>obtain⟨e,q⟩:=x;exact⟨k _ _ (.inl rfl) e,ih q⟩
 | tbl ps =>
  have e:h.get? a=some {cls:=.none,data:=.fields ps}:=x;show h'.get? a=some {cls:=.none,data:=.fields ps};exact k a _ (.inl rfl) e
 | met f y =>
  have e:h.get? a=some (W.methodObj (.ref f) (.ref y)):=x;show h'.get? a=some (W.methodObj (.ref f) (.ref y));exact k a _ (.inl rfl) e
 | ext φ=>obtain⟨p,⟨o,e⟩,st⟩:=x;exact⟨st _ _ p fun o q=>k _ _ (.inl rfl) q,⟨o,k _ _ (.inl rfl) e⟩,st⟩
theorem HOk.lt (x:HOk P w H h)(e:H a=some o):a < h.objs.size:=(x a o e).lt
theorem HOk.fresh (x:HOk P w H h)(e:h.objs.size<=a):H a=none:=by
 cases q:H a with
 | none=>rfl
 | some u=>exact absurd (xbg (x.lt q) e) (xgu _)
theorem HOk.kept (x:HOk P w H h)(k:∀b u,h.get? b=some u->h'.get? b=some u):HOk P w H h':=fun a o e =>
 (x a o e).stay (fun b u _ q=>k b u q) (fun _ q=>q) fun _ _ q=>q
theorem HOk.laid (x:HOk P w H h)(k:∀b u,h.get? b=some u->h'.get? b=some u)(hp:h.objs.size<=a)(new:ObjOk P w (upd H a o) h' a o):HOk P w (upd H a o) h':=fun b u e=>by
 have hn:=x.fresh hp;by_cases hb:b=a
 ·subst hb;rw[zbb] at e;cases e;exact new
 ·rw[zy hb] at e;exact(x b u e).stay (fun c v _ q=>k c v q) (fun c q=>by rw[zy (zp q hn)];exact q) fun c xs q=>by rw[zy (zp q hn)];exact q
end
noncomputable def Rd (H:Hp) (a:Addr) (u:HO):Prop:=H a=some u\/∃o,H a=some (.frz o u)
theorem Rd.ok {P:Program}{w:World}{H:Hp}{h:Heap}{a:Addr}{u:HO}(r:Rd H a u)(x:HOk P w H h):ObjOk P w H h a u:=by
 rcases r with r | ⟨o,r⟩
 ·exact x a u r
 ·obtain⟨_,q⟩:=x a _ r;exact q
noncomputable def Mut:Option HO->Prop
 | some (.lst _)=>True
 | some (.dK _)=>True
 | some (.dT _)=>True
 | some (.set _ _)=>True
 | some (.ins _ _ _)=>True
 | some (.ext _)=>True
 | _=>False
section
variable {P:Program}{w:World}{H:Hp}{h h':Heap}{x e:Addr}{o':HO}
theorem HOk.write (ok:HOk P w H h)(mu:Mut (H x))(he:e=x\/H e=some (.own x))(k:∀b u,b≠e->h.get? b=some u->h'.get? b=some u)(heo:∃u,h'.get? e=some u)
  (new:ObjOk P w (upd H x o') h' x o'):HOk P w (upd H x o') h':=fun b u q=>by
 have nown:∀c y,H c=some (.own y)->c≠x:=fun c y r z=>by subst z;rw[r] at mu;exact mu
 have ntup:∀c xs,H c=some (.tup xs)->c≠x:=fun c xs r z=>by subst z;rw[r] at mu;exact mu
 by_cases hb:b=x
 ·subst hb;rw[zbb] at q;cases q;exact new
 ·rw[zy hb] at q;by_cases hbe:b=e
  ·have q':H b=some (.own x):=by
    rcases he with z | z
    ·exact absurd (hbe.trans z) hb
    ·rw[hbe];exact z
   rw[q] at q';cases q'
   obtain⟨v,hv⟩:=heo;exact⟨v,by rw[hbe];exact hv⟩
  ·refine(ok b u q).stay (fun c v hc r=>k c v ?_ r) (fun c r=>by rw[zy (nown c b r)];exact r) fun c xs r=>by rw[zy (ntup c xs r)];exact r
   rcases hc with rfl | hc
   ·exact hbe
   ·rintro rfl;rcases he with z | z
    ·exact nown c b hc z
    ·rw[hc] at z;cases z;exact hb rfl
end
structure Un (fs ex:List Addr) (H H':Hp) (h h':Heap):Prop where
 keep:∀b o,h.get? b=some o->H b=none->b∉fs->b∉ex->h'.get? b=some o
 slot:∀b o,h.get? b=some o->H b=none->b∈fs->b∉ex->∃sl,h'.get? b=some {o with slots:=sl}
 free:∀b o,h.get? b=some o->H b=none->b∉ex->H' b=none
 there:∀b o,h.get? b=some o->b∉ex->∃o',h'.get? b=some o'
 tups:∀b xs,H b=some (.tup xs)->H' b=some (.tup xs)
 frzs:∀b o u,H b=some (.frz o u)->H' b=some (.frz o u)
 tbls:∀b ps,H b=some (.tbl ps)->∃more,H' b=some (.tbl (ps++more))
section
variable {fs fs' ex ex':List Addr}{H H1 H2:Hp}{h h1 h2 h':Heap}{a x e:Addr}{o:HO}
theorem Un.any (u:Un fs ex H H1 h h1){b:Addr}{ob:Obj}(q:h.get? b=some ob)(n:H b=none)(hx:b∉ex):∃sl,h1.get? b=some {ob with slots:=sl}:=by
 by_cases hb:b∈fs
 ·exact u.slot b ob q n hb hx
 ·exact⟨ob.slots,u.keep b ob q n hb hx⟩
theorem Un.kept (k:∀b u,h.get? b=some u->h'.get? b=some u):Un fs ex H H h h' :=
 ⟨fun b ob q _ _ _=>k b ob q,fun b ob q _ _ _=>⟨ob.slots,k b ob q⟩,fun _ _ _ n _=>n,fun b ob q _=>⟨ob,k b ob q⟩,fun _ _ q=>q,fun _ _ _ q=>q,fun _ ps q=>⟨#[],by rw[q];simp⟩⟩
theorem Un.refl:Un fs ex H H h h:=Un.kept fun _ _ q=>q
theorem Un.laid (k:∀b u,h.get? b=some u->h'.get? b=some u)(hp:h.objs.size<=a)(hn:H a=none):Un fs ex H (upd H a o) h h' where
 keep:=fun b u q _ _ _=>k b u q
 slot:=fun b u q _ _ _=>⟨u.slots,k b u q⟩
 free:=fun b u q n _=>by rw[zy (xcl (xbg (xbm q) hp))];exact n
 there:=fun b u q _=>⟨u,k b u q⟩
 tups:=fun b xs q=>by rw[zy (zp q hn)];exact q
 frzs:=fun b u xs q=>by rw[zy (zp q hn)];exact q
 tbls:=fun b ps q=>⟨#[],by rw[zy (zp q hn),q];simp⟩
theorem Un.write (mu:Mut (H x))(he:e=x\/H e=some (.own x))(k:∀b u,b≠e->h.get? b=some u->h'.get? b=some u)(heo:∃u,h'.get? e=some u):Un fs ex H (upd H x o) h h':=by
 have hx:∀b,H b=none->b≠x:=fun b n z=>by subst z;rw[n] at mu;exact mu
 have hb:∀b,H b=none->b≠e:=fun b n z=>by
  subst z;rcases he with r | r
  ·exact hx b n r
  ·rw[n] at r;cases r
 have hm:∀b u,H b=some u->¬ Mut (some u)->b≠x:=fun b u q nm z=>by subst z;rw[q] at mu;exact nm mu
 refine⟨fun b u q n _ _=>k b u (hb b n) q,fun b u q n _ _=>⟨u.slots,k b u (hb b n) q⟩,fun b u q n _=>by rw[zy (hx b n)];exact n,fun b u q _=>?_,
  fun b xs q=>by rw[zy (hm b _ q fun z=>z)];exact q,fun b u xs q=>by rw[zy (hm b _ q fun z=>z)];exact q,fun b ps q=>⟨#[],by rw[zy (hm b _ q fun z=>z),q];simp⟩⟩
 by_cases hbe:b=e
 ·subst hbe;exact heo
 ·exact⟨u,k b u hbe q⟩
end
noncomputable def trk (h:Heap) (H:Hp):List Addr:=(List.range h.objs.size).filter fun a=>(H a).isSome
noncomputable def hidT (h:Heap) (H:Hp):Heap:=W.hideAll h (trk h H)
theorem zxm (h:Heap)(H:Hp):(hidT h H).objs.size=h.objs.size:=W.hideAll_size _ _
theorem zbce {h:Heap}{H:Hp}{b:Addr}{o:Obj}(e:h.get? b=some o)(n:H b=none):(hidT h H).get? b=some o :=
 W.hideAll_get _ e fun hm=>by
  have q:(H b).isSome=true:=(xgo.mp hm).2;rw[n] at q;simp at q
theorem zbfv {h:Heap}{H:Hp}{b:Addr}{o:Obj}(e:(hidT h H).get? b=some o):h.get? b=some o/\H b=none:=by
 have e':h.get? b=some o:=W.of_hideAll (trk h H) e;refine⟨e',?_⟩;cases q:H b with
 | none=>rfl
 | some x =>
  have hm:b∈trk h H:=xgo.mpr ⟨xcp.mpr (xbm e'),by simp[q]⟩;have z:(hidT h H).get? b=none:=W.hideAll_none (trk h H) hm;rw[z] at e;cases e
structure Mod (K:Fg) (mg:Str->Option Value) (base:Heap):Prop where
 kin:K.In base
 glob:base.Ns mainGlobals mg
 blt:∃ mb, base.Ns builtinsNs mb/\∀ x:Str, x≠"__name__"->mb x=bootBuiltins x
 nolimit:base.NoLimit
structure Cx where
 prog:Program
 w:World
 K:Fg
 mg:Str->Option Value
 base:Heap
 A:Around
 N:List Str
 s₀:Shared
 H₀:Hp
 env:Env
 outer:List Env
 stack:List Env
 ex:List Addr
 fn:Str->Bool
 calm:Bool
 pn:List (Addr×Obj)
 xe:Value->Shared->Prop
noncomputable def frs (l:List Env):List Addr:=l.filterMap (·.frame)
noncomputable abbrev Cx.fs (X:Cx):List Addr:=frs X.outer
noncomputable def Vis (sc:Scope) (x:Str):Prop:=sc.names.lookup x=some .local\/sc.names.lookup x=some .cell\/sc.names.lookup x=some .free
noncomputable def Loc (sc:Scope) (x:Str):Prop:=sc.names.lookup x=some .local\/sc.names.lookup x=some .cell
noncomputable def Look (env:Env) (h:Heap) (m:Str->Option Value) (x:Str) (u:Value):Prop :=
 (env.kindOf x=some .local/\m x=some u)\/((env.kindOf x=some .cell\/env.kindOf x=some .free)/\∃c,env.cells.lookup x=some c/\h.IsCell c (some u))
structure Cx.Ok (X:Cx):Prop where
 mod:Mod X.K X.mg X.base
 kind:X.env.scope.kind=.function
 glob:X.env.globals=mainGlobals
 blt:X.env.builtins=builtinsNs
 above:X.s₀.heap.objs.size<=X.env.locals
 inj:∀x y c,X.env.cells.lookup x=some c->X.env.cells.lookup y=some c->x=y
 has:∀x,(X.env.kindOf x=some .cell\/X.env.kindOf x=some .free)->∃c,X.env.cells.lookup x=some c
 cab:∀x c,X.fn x=true->X.env.cells.lookup x=some c->X.s₀.heap.objs.size<=c
 hd:X.calm=true->X.A.handled=none
 frames:X.A.frames=some X.stack
 stk:X.stack=X.outer\/(X.stack=X.env::X.outer/\X.env.frame=some X.env.locals)
 exf:∀b∈X.ex,b≠X.env.locals/\∀x c,X.env.cells.lookup x=some c->c≠b
 bs:∀b o,X.base.get? b=some o->X.s₀.heap.get? b=some o/\X.H₀ b=none
 bsz:X.base.objs.size<=X.s₀.heap.objs.size
 noex:∀b o,X.base.get? b=some o->b∉X.ex
 exfs:∀b∈X.ex,b∉X.fs
 funs:X.s₀.heap.FunFrames X.base X.outer
 frf:∀b∈X.fs,X.H₀ b=none
noncomputable def Hnd (A:Around) (H:Hp):Prop:=∀v,A.handled=some v->∃a o,v=.ref a/\H a=some (.frz o (.ext fun _=>True))/\∃vs,o.data=.fields vs/\vs[2]?=some .none
theorem Hnd.map {A:Around}{H H':Hp}(h:Hnd A H)(f:∀b o u,H b=some (.frz o u)->H' b=some (.frz o u)):Hnd A H':=fun v e=>let ⟨a,o,h1,h2,h3⟩:=h v e;⟨a,o,h1,f _ _ _ h2,h3⟩
theorem Hnd.none {A:Around}{H:Hp}(h:A.handled=.none):Hnd A H:=fun v e=>by rw[h] at e;cases e
structure Inv (X:Cx) (aU:List (Addr×Obj)) (σ:List (Option V)) (H:Hp) (s:Shared):Prop where
 ok:X.Ok
 os:s.os=X.s₀.os
 bare:AllBare s.gens
 base:Un X.fs X.ex X.H₀ H X.s₀.heap s.heap
 loc:∃m,s.heap.Ns X.env.locals m/\∀(i:Nat) (x:Str) (v:V),X.N[i]?=some x->σ[i]?=some (some v)->Vis X.env.scope x->∃u,RelV v u/\Look X.env s.heap m x u
 cell:∀x c,X.env.cells.lookup x=some c->∃v,s.heap.IsCell c v
 free:H X.env.locals=none
 freeC:∀x c,X.env.cells.lookup x=some c->H c=none
 pin:∀p∈X.pn++aU,s.heap.get? p.1=some p.2/\H p.1=none/\p.1≠X.env.locals/\p.1∉X.fs/\∀v,p.2.data≠.cell v
 hok:HOk X.prog X.w H s.heap
 len:σ.length=X.N.length
 hnd:Hnd X.A H
section
variable {X:Cx}{aU:List (Addr×Obj)}{σ:List (Option V)}{H H':Hp}{s:Shared}{h':Heap}
theorem Cx.Ok.nofr (ok:X.Ok){b:Addr}{o:Obj}(e:X.base.get? b=some o):b∉X.fs:=fun hb=>by
 have:=(ok.funs.mem hb).1;rw[e] at this;cases this
theorem Inv.bs (I:Inv X aU σ H s):∀b o,X.base.get? b=some o->s.heap.get? b=some o/\H b=none:=fun b o e =>
 ⟨I.base.keep b o (I.ok.bs b o e).1 (I.ok.bs b o e).2 (I.ok.nofr e) (I.ok.noex b o e),I.base.free b o (I.ok.bs b o e).1 (I.ok.bs b o e).2 (I.ok.noex b o e)⟩
theorem Inv.bk (I:Inv X aU σ H s):∀b o,X.base.get? b=some o->s.heap.get? b=some o:=fun b o e=>(I.bs b o e).1
theorem Inv.mod (I:Inv X aU σ H s):Mod X.K X.mg X.base:=I.ok.mod
theorem Inv.kIn (I:Inv X aU σ H s):X.K.In s.heap:=I.ok.mod.kin.keeps I.bk
theorem Inv.lt (I:Inv X aU σ H s):X.env.locals < s.heap.objs.size:=let ⟨_,hn,_⟩:=I.loc;hn.lt
theorem Inv.sz (I:Inv X aU σ H s):X.s₀.heap.objs.size<=s.heap.objs.size:=xbb I.ok.above (xbr I.lt)
theorem Inv.nofs (I:Inv X aU σ H s){a:Addr}(h:s.heap.objs.size<=a):a∉X.fs:=fun hb=>by
 obtain⟨_,o,ho,_⟩:=I.ok.funs.mem hb;exact absurd (xbg (xbm ho) (xbb I.sz h)) (xgu _)
theorem Inv.cne (I:Inv X aU σ H s):∀x c,X.env.cells.lookup x=some c->c≠X.env.locals:=fun x c e z=>by
 obtain⟨v,o,ho,hd⟩:=I.cell x c e;obtain⟨m,⟨o',es,ep,ho',hd',_⟩,_⟩:=I.loc;rw[z,ho'] at ho;cases ho;rw[hd'] at hd;cases hd
theorem Inv.funs (I:Inv X aU σ H s):s.heap.FunFrames X.base X.outer:=by
 have all:∀(l:List Env),(∀b∈frs l,b∈X.fs)->X.s₀.heap.FunFrames X.base l->s.heap.FunFrames X.base l:=by
  intro l
  induction l with
  | nil=>intro _ _;trivial
  | cons env r ih =>
   intro hs hl;obtain⟨hk,⟨L,o,hf,hn,ho,hd⟩,hr⟩:=hl;have hL:L∈X.fs:=hs L (by unfold frs;rw[xkd,hf];exact xbn);obtain⟨sl,e⟩:=I.base.slot L o ho (I.ok.frf L hL) hL fun z=>I.ok.exfs L z hL
   exact⟨hk,⟨L,_,hf,hn,e,hd⟩,ih (fun b hb=>hs b (by unfold frs;rw[xkd,hf];exact xbp _ hb)) hr⟩
 exact all X.outer (fun _ hb=>hb) I.ok.funs
theorem Inv.stack (I:Inv X aU σ H s):s.heap.FunFrames X.base X.stack:=by
 rcases I.ok.stk with e | ⟨e,hf⟩
 ·rw[e];exact I.funs
 ·rw[e];obtain⟨m,hn,_⟩:=I.loc;refine .cons (by rw[I.ok.kind];decide) hf hn ?_ I.funs;exact Heap.get?_none_of_le (xbb I.ok.bsz I.ok.above)
theorem Inv.stkSub (I:Inv X aU σ H s):∀b∈frs X.stack,b∈X.env.locals::X.fs:=fun b hb=>by
 rcases I.ok.stk with e | ⟨e,hf⟩
 ·rw[e] at hb;exact xbp _ hb
 ·rw[e] at hb;unfold frs at hb;rw[xkd,hf] at hb;exact hb
theorem Inv.stkFree (I:Inv X aU σ H s):∀b∈frs X.stack,H b=none:=fun b hb=>by
 rcases xbx.mp (I.stkSub b hb) with e | hb
 ·rw[e];exact I.free
 ·obtain⟨_,o,ho,_⟩:=I.ok.funs.mem hb;exact I.base.free b o ho (I.ok.frf b hb) fun z=>I.ok.exfs b z hb
theorem Inv.step {g':Array GenState}{t':Nat}{d':Drawn}{ch:List Addr}(I:Inv X aU σ H s)
  (hch:∀b∈ch,(b∈X.ex\/X.s₀.heap.objs.size<=b)/\b≠X.env.locals/\(∀x c,X.env.cells.lookup x=some c->c≠b)/\∀p∈X.pn++aU,p.1≠b)
  (keep:∀b o,b≠X.env.locals->b∉X.fs->b∉ch->s.heap.get? b=some o->H b=none->h'.get? b=some o)
  (slot:∀b o,b≠X.env.locals->b∈X.fs->b∉ch->s.heap.get? b=some o->H b=none->∃sl,h'.get? b=some {o with slots:=sl})(free:∀b o,b∉ch->s.heap.get? b=some o->H b=none->H' b=none)
  (there:∀b o,b∉ch->s.heap.get? b=some o->∃o',h'.get? b=some o')
  (tups:∀b xs,H b=some (.tup xs)->H' b=some (.tup xs))(frzs:∀b o u,H b=some (.frz o u)->H' b=some (.frz o u))(tbls:∀b ps,H b=some (.tbl ps)->∃more,H' b=some (.tbl (ps++more)))
  (ns:∀m,s.heap.Ns X.env.locals m->h'.Ns X.env.locals m)(hok:HOk X.prog X.w H' h')(hg:AllBare g') :
  Inv X aU σ H' {s with heap:=h',gens:=g',drawn:=d',toks:=t'}:=by
 have neL:∀b o,X.s₀.heap.get? b=some o->b≠X.env.locals:=fun b o e=>xcl (xbg (xbm e) I.ok.above)
 have neC:∀b o,X.s₀.heap.get? b=some o->b∉X.ex->b∉ch:=fun b o e hx hb=>by
  rcases(hch b hb).1 with z | z
  ·exact hx z
  ·exact absurd (xbg (xbm e) z) (xgu _)
 have cellK:∀x c,X.env.cells.lookup x=some c->∀v,s.heap.IsCell c v->h'.IsCell c v:=fun x c e v hq0=>by
  obtain⟨o,ho,hd⟩:=hq0;have nch:c∉ch:=fun z=>(hch c z).2.2.1 x c e rfl
  by_cases hc:c∈X.fs
  ·obtain⟨sl,q⟩:=slot c o (I.cne x c e) hc nch ho (I.freeC x c e);exact⟨_,q,hd⟩
  ·exact⟨o,keep c o (I.cne x c e) hc nch ho (I.freeC x c e),hd⟩
 refine⟨I.ok,I.os,hg,⟨fun b o e n hb hx=>?_,fun b o e n hb hx=>?_,fun b o e n hx=>?_,fun b o e hx=>?_,fun b xs e=>tups b xs (I.base.tups b xs e),fun b o xs e=>frzs b o xs (I.base.frzs b o xs e),fun b ps e=>?_⟩,?_,fun x c e=>?_,?_,fun x c e=>?_,fun p hp=>?_,hok,I.len,I.hnd.map frzs⟩
 ·exact keep b o (neL b o e) hb (neC b o e hx) (I.base.keep b o e n hb hx) (I.base.free b o e n hx)
 ·obtain⟨sl,e1⟩:=I.base.slot b o e n hb hx;obtain⟨sl',e2⟩:=slot b _ (neL b o e) hb (neC b o e hx) e1 (I.base.free b o e n hx);exact⟨sl',e2⟩
 ·obtain⟨o',e1⟩:=I.base.there b o e hx;exact free b o' (neC b o e hx) e1 (I.base.free b o e n hx)
 ·obtain⟨o',e1⟩:=I.base.there b o e hx;exact there b o' (neC b o e hx) e1
 ·obtain⟨m1,e1⟩:=I.base.tbls b ps e;obtain⟨m2,e2⟩:=tbls b _ e1;exact⟨m1++m2,by rw[e2,Array.append_assoc]⟩
 ·obtain⟨m,hn,hl⟩:=I.loc;refine⟨m,ns m hn,fun i x v e1 e2 e3=>?_⟩;obtain⟨u,r,l⟩:=hl i x v e1 e2 e3;refine⟨u,r,?_⟩;rcases l with l | ⟨k,c,e,z⟩
  ·exact .inl l
  ·exact .inr ⟨k,c,e,cellK x c e _ z⟩
 ·obtain⟨v,z⟩:=I.cell x c e;exact⟨v,cellK x c e v z⟩
 ·obtain⟨m,⟨o,_,_,ho,_⟩,_⟩:=I.loc;exact free _ o (fun z=>(hch _ z).2.1 rfl) ho I.free
 ·obtain⟨v,o,ho,hd⟩:=I.cell x c e;exact free c o (fun z=>(hch c z).2.2.1 x c e rfl) ho (I.freeC x c e)
 ·obtain⟨e,n,ne,nf,d⟩:=I.pin p hp;have nch:p.1∉ch:=fun z=>(hch p.1 z).2.2.2 p hp rfl
  exact⟨keep p.1 p.2 ne nf nch e n,free p.1 p.2 nch e n,ne,nf,d⟩
theorem Inv.un {t':Nat}(I:Inv X aU σ H s)(u:Un X.fs [] H H' s.heap h')(hok:HOk X.prog X.w H' h'):Inv X aU σ H' {s with heap:=h',toks:=t'}:=by
 obtain⟨m,⟨o,es,ep,ho,r⟩,_⟩:=id I.loc;obtain⟨sl,hL⟩:=u.any ho I.free (by simp)
 exact I.step (g':=s.gens) (d':=s.drawn) (ch:=[]) (fun _ z=>nomatch z) (fun b o _ hb _ e n=>u.keep b o e n hb (by simp)) (fun b o _ hb _ e n=>u.slot b o e n hb (by simp)) (fun b o _ e n=>u.free b o e n (by simp)) (fun b o _ e=>u.there b o e (by simp)) u.tups u.frzs u.tbls (fun m' hm=>by
  obtain⟨o',es',ep',ho',r'⟩:=hm;rw[ho] at ho';cases ho'
  exact⟨_,es',ep',hL,r'⟩) hok I.bare
theorem Inv.call {g':Array GenState}{t':Nat}{d':Drawn}{ch:List Addr}(I:Inv X aU σ H s)(u:Un (frs X.stack) ch H H' s.heap h')(hok:HOk X.prog X.w H' h')(hg:AllBare g')
  (hch:∀b∈ch,(b∈X.ex\/X.s₀.heap.objs.size<=b)/\b≠X.env.locals/\(∀x c,X.env.cells.lookup x=some c->c≠b)/\∀p∈X.pn++aU,p.1≠b) :
  Inv X aU σ H' {s with heap:=h',gens:=g',drawn:=d',toks:=t'}:=by
 obtain⟨m,⟨o,es,ep,ho,r⟩,_⟩:=id I.loc;obtain⟨sl,hL⟩:=u.any ho I.free fun z=>(hch _ z).2.1 rfl
 exact I.step (ch:=ch) hch (fun b o hL hb hc e n=>u.keep b o e n (fun z=>(xbx.mp (I.stkSub b z)).elim hL hb) hc) (fun b o _ _ hc e n=>u.any e n hc) (fun b o hc e n=>u.free b o e n hc) (fun b o hc e=>u.there b o e hc) u.tups u.frzs u.tbls (fun m' hm=>by
  obtain⟨o',es',ep',ho',r'⟩:=hm;rw[ho] at ho';cases ho'
  exact⟨_,es',ep',hL,r'⟩) hok hg
theorem Inv.turned {t':Nat}{it:Addr}(I:Inv X aU σ H s)(k:∀b o,b≠it->s.heap.get? b=some o->h'.get? b=some o)(hn:H it=none)(hL:it≠X.env.locals)
  (h1:it∈X.ex\/X.s₀.heap.objs.size<=it)(h2:∀x c,X.env.cells.lookup x=some c->c≠it)(h3:∀p∈X.pn++aU,p.1≠it):Inv X aU σ H {s with heap:=h',toks:=t'}:=by
 have nit:∀b u,H b=some u->b≠it:=fun b u e z=>by rw[z,hn] at e;cases e
 refine I.step (g':=s.gens) (d':=s.drawn) (ch:=[it]) (fun b hb=>?_) (fun b o _ _ hc e _=>k b o (fun z=>hc (by simp[z])) e) (fun b o _ _ hc e _=>⟨o.slots,k b o (fun z=>hc (by simp[z])) e⟩) (fun _ _ _ _ n=>n)
  (fun b o hc e=>⟨o,k b o (fun z=>hc (by simp[z])) e⟩) (fun _ _ e=>e) (fun _ _ _ e=>e) (fun b ps e=>⟨#[],by rw[e];simp⟩) (fun m hm=>?_) (fun b u e=>?_) I.bare
 ·have e:b=it:=by simpa using hb
  subst e;exact⟨h1,hL,h2,h3⟩
 ·obtain⟨o,es,ep,ho,r⟩:=hm;exact⟨o,es,ep,k _ o (xcs hL) ho,r⟩
 ·refine(I.hok b u e).stay (fun c v hc q=>k c v ?_ q) (fun _ q=>q) fun _ _ q=>q
  rcases hc with z | z
  ·rw[z];exact nit b u e
  ·exact nit c _ z
theorem Inv.tok (I:Inv X aU σ H s)(t:Nat):Inv X aU σ H {s with toks:=t}:=I.un (h':=s.heap) (t':=t) Un.refl I.hok
theorem Inv.kept {t':Nat}(I:Inv X aU σ H s)(k:∀b u,s.heap.get? b=some u->h'.get? b=some u):Inv X aU σ H {s with heap:=h',toks:=t'}:=I.un (Un.kept k) (I.hok.kept k)
theorem Inv.laid {a:Addr}{o:HO}{t':Nat}(I:Inv X aU σ H s)(k:∀b u,s.heap.get? b=some u->h'.get? b=some u)(hp:s.heap.objs.size<=a)(new:ObjOk X.prog X.w (upd H a o) h' a o) :
 Inv X aU σ (upd H a o) {s with heap:=h',toks:=t'}:=I.un (Un.laid k hp (I.hok.fresh hp)) (I.hok.laid k hp new)
theorem Inv.write {x e:Addr}{o:HO}{t':Nat}(I:Inv X aU σ H s)(mu:Mut (H x))(he:e=x\/H e=some (.own x))(k:∀b u,b≠e->s.heap.get? b=some u->h'.get? b=some u)(heo:∃u,h'.get? e=some u)
 (new:ObjOk X.prog X.w (upd H x o) h' x o):Inv X aU σ (upd H x o) {s with heap:=h',toks:=t'}:=I.un (Un.write mu he k heo) (I.hok.write mu he k heo new)
theorem Inv.pins_of {pins':List (Addr×Obj)}(I:Inv X aU σ H s)(h:∀p∈pins',s.heap.get? p.1=some p.2/\H p.1=none/\p.1≠X.env.locals/\p.1∉X.fs/\∀v,p.2.data≠.cell v):Inv X pins' σ H s :=
 ⟨I.ok,I.os,I.bare,I.base,I.loc,I.cell,I.free,I.freeC,fun p hp=>(xca.mp hp).elim (fun z=>I.pin p (xem _ z)) (h p),I.hok,I.len,I.hnd⟩
theorem ztf {N:List Str}(hN:N.Nodup){i j:Nat}{x:Str}(a:N[i]?=some x)(b:N[j]?=some x):i=j:=by
 obtain⟨h1,e1⟩:=xbf.mp a;obtain⟨h2,e2⟩:=xbf.mp b;exact(List.getElem_inj hN).mp (e1.trans e2.symm)
theorem zpo {M:Model}{A:Around}{E:Value->Shared->Prop}{i:Nat}{x:Str}{v:V}{u:Value}{Q:Unit->Shared->Prop}(I:Inv X aU σ H s)(hN:X.N.Nodup)(hi:X.N[i]?=some x)(hx:Loc X.env.scope x)(r:RelV v u)
  (h:∀s',Inv X aU (σ.set i (some v)) H s'->(∃a,Heap.SameBut a s.heap s'.heap/\(a=X.env.locals\/X.env.cells.lookup x=some a))->Q () s')(hf:X.fn x=true\/X.env.scope.names.lookup x=some .local:=by first | exact .inl rfl | exact .inr rfl | assumption):wpAny M A (storeName X.env x u) Q E s:=by
 obtain⟨m,hn,hl⟩:=id I.loc;have hcls:(X.env.scope.kind==.class||(X.env.scope.kind==.module&&X.env.locals != X.env.globals))=false:=by rw[I.ok.kind];rfl
 have hiσ:i < σ.length:=by rw[I.len];exact(xbf.mp hi).1
 have cne:=I.cne;have tracked:∀{a:Addr} {h':Heap},(∃o,s.heap.get? a=some o/\H a=none)->Heap.SameBut a s.heap h'->HOk X.prog X.w H h':=fun {a h'} ha hs b ob e=>by
  obtain⟨_,_,hfree⟩:=ha;refine(I.hok b ob e).stay (fun c w' hc q=>(hs.2 c ?_).trans q) (fun _ q=>q) fun _ _ q=>q
  rintro rfl;rcases hc with rfl | hc
  ·rw[hfree] at e;cases e
  ·rw[hfree] at hc;cases hc
 rcases hx with hk | hk
 ·refine wpAny_storeName_local hk hn (fun h' hn' hs=>?_) hcls;obtain⟨oL,_,_,hoL,_⟩:=id hn;refine h _ ⟨I.ok,I.os,I.bare,⟨fun b o e n hb hx=>?_,fun b o e n hb hx=>?_,I.base.free,fun b o e hx=>?_,I.base.tups,I.base.frzs,I.base.tbls⟩,⟨_,hn',fun j y v' e1 e2 e3=>?_⟩,fun y c e=>?_,I.free,I.freeC,fun p hp=>?_,tracked ⟨oL,hoL,I.free⟩ hs,by simpa using I.len,I.hnd⟩ ⟨_,hs,.inl rfl⟩
  ·exact(hs.2 b (xcl (xbg (xbm e) I.ok.above))).trans (I.base.keep b o e n hb hx)
  ·obtain⟨sl,e1⟩:=I.base.slot b o e n hb hx;exact⟨sl,(hs.2 b (xcl (xbg (xbm e) I.ok.above))).trans e1⟩
  ·obtain⟨o',e1⟩:=I.base.there b o e hx;exact⟨o',(hs.2 b (xcl (xbg (xbm e) I.ok.above))).trans e1⟩
  ·by_cases hj:j=i
   ·subst hj;rw[hi] at e1;cases e1
    rw[xec hiσ] at e2;cases e2;exact⟨u,r,.inl ⟨hk,by simp⟩⟩
   ·rw[xdm (xcs hj)] at e2;obtain⟨u',r',q⟩:=hl j y v' e1 e2 e3;refine⟨u',r',?_⟩;rcases q with⟨k,e⟩ | ⟨k,c,e,z⟩
    ·refine .inl ⟨k,?_⟩;have:y≠x:=fun e=>hj (ztf hN e1 (e ▸ hi))
     simp[this,e]
    ·exact .inr ⟨k,c,e,z.sameBut hs (cne y c e)⟩
  ·obtain⟨w',z⟩:=I.cell y c e;exact⟨w',z.sameBut hs (cne y c e)⟩
  ·obtain⟨e,n,ne,nf,d⟩:=I.pin p hp;exact⟨(hs.2 p.1 ne).trans e,n,ne,nf,d⟩
 ·have hfn:X.fn x=true:=by
   rcases hf with z | z
   ·exact z
   ·rw[z] at hk;cases hk
  obtain⟨c,hc⟩:=I.ok.has x (.inl hk);obtain⟨w',z⟩:=I.cell x c hc;refine wpAny_storeName_cell I.ok.kind hk hc z (fun h' hc' hs=>?_);obtain⟨oc,hoc,hocd⟩:=id z;refine h {s with heap:=h'} ⟨I.ok,I.os,I.bare,⟨fun b o e n hb hx=>?_,fun b o e n hb hx=>?_,I.base.free,fun b o e hx=>?_,I.base.tups,I.base.frzs,I.base.tbls⟩,⟨m,hn.sameBut hs (xcs (cne x c hc)),fun j y v' e1 e2 e3=>?_⟩,fun y c' e=>?_,I.free,I.freeC,fun p hp=>?_,tracked ⟨oc,hoc,I.freeC x c hc⟩ hs,by simpa using I.len,I.hnd⟩ ⟨c,hs,.inr hc⟩
  ·exact(hs.2 b (xcl (xbg (xbm e) (I.ok.cab x c hfn hc)))).trans (I.base.keep b o e n hb hx)
  ·obtain⟨sl,e1⟩:=I.base.slot b o e n hb hx;exact⟨sl,(hs.2 b (xcl (xbg (xbm e) (I.ok.cab x c hfn hc)))).trans e1⟩
  ·obtain⟨o',e1⟩:=I.base.there b o e hx;exact⟨o',(hs.2 b (xcl (xbg (xbm e) (I.ok.cab x c hfn hc)))).trans e1⟩
  ·by_cases hj:j=i
   ·subst hj;rw[hi] at e1;cases e1
    rw[xec hiσ] at e2;cases e2;exact⟨u,r,.inr ⟨.inl hk,c,hc,hc'⟩⟩
   ·rw[xdm (xcs hj)] at e2;obtain⟨u',r',q⟩:=hl j y v' e1 e2 e3;refine⟨u',r',?_⟩;rcases q with q | ⟨k,c',e,z'⟩
    ·exact .inl q
    ·refine .inr ⟨k,c',e,z'.sameBut hs ?_⟩;rintro rfl;exact hj (ztf hN e1 (I.ok.inj _ _ _ e hc ▸ hi))
  ·by_cases hcc:c'=c
   ·subst hcc;exact⟨_,hc'⟩
   ·obtain⟨w2,z2⟩:=I.cell y c' e;exact⟨w2,z2.sameBut hs hcc⟩
  ·obtain⟨e,n,ne,nf,d⟩:=I.pin p hp;refine⟨(hs.2 p.1 ?_).trans e,n,ne,nf,d⟩;intro q;rw[q,hoc] at e;have q':oc=p.2:=xcn e;exact d w' (by rw[← q'];exact hocd)
theorem znv {M:Model}{A:Around}{E:Value->Shared->Prop}{i:Nat}{x:Str}{v:V}{u:Value}{Q:Unit->Shared->Prop}(I:Inv X aU σ H s)(hN:X.N.Nodup)(hi:X.N[i]?=some x)(hx:Loc X.env.scope x)(r:RelV v u)
  (h:∀s',Inv X aU (σ.set i (some v)) H s'->Q () s')(hf:X.fn x=true\/X.env.scope.names.lookup x=some .local:=by first | exact .inl rfl | exact .inr rfl | assumption):wpAny M A (storeName X.env x u) Q E s :=
 zpo I hN hi hx r (fun s' I' _=>h s' I') hf
theorem Inv.call' {s':Shared}{ch:List Addr}(I:Inv X aU σ H s)(ho:s'.os=s.os)(u:Un (frs X.stack) ch H H' s.heap s'.heap)(hok:HOk X.prog X.w H' s'.heap)(hg:AllBare s'.gens)
  (hch:∀b∈ch,(b∈X.ex\/X.s₀.heap.objs.size<=b)/\b≠X.env.locals/\(∀x c,X.env.cells.lookup x=some c->c≠b)/\∀p∈X.pn++aU,p.1≠b):Inv X aU σ H' s':=by
 obtain⟨h',g',d',t',o'⟩:=s';have e:o'=s.os:=ho;subst e;exact I.call (g':=g') (t':=t') (d':=d') u hok hg hch
end
noncomputable abbrev XK:=Value->Option Addr->Hp->Prop
noncomputable abbrev St:=List (Option V)
noncomputable abbrev VK:=V->Hp->Prop
noncomputable abbrev TE:=St->Hp->VK->Prop
noncomputable abbrev TT:=St->Hp->(Bool->Hp->Prop)->Prop
noncomputable abbrev TA:=St->Hp->(List V->Hp->Prop)->Prop
structure Ends where
 nx:St->Hp->Prop
 rt:VK
 bk:St->Hp->Prop:=fun _ _=>False
 ct:St->Hp->Prop:=fun _ _=>False
noncomputable abbrev TS:=Ends->St->Hp->Prop
noncomputable def EP (X:Cx) (aU:List (Addr×Obj)) (σ:St) (Q:VK) (u:Value) (s':Shared):Prop:=∃v H',Inv X aU σ H' s'/\RelV v u/\Q v H'
noncomputable def TP (X:Cx) (aU:List (Addr×Obj)) (σ:St) (Q:Bool->Hp->Prop) (b:Bool) (s':Shared):Prop:=∃H',Inv X aU σ H' s'/\Q b H'
noncomputable def AP (X:Cx) (aU:List (Addr×Obj)) (σ:St) (Q:List V->Hp->Prop) (us:List Value) (s':Shared):Prop:=∃vs H',Inv X aU σ H' s'/\Vals vs us/\Q vs H'
noncomputable def SP (X:Cx) (aU:List (Addr×Obj)) (D:Ends) (f:Flow) (s':Shared):Prop :=
 match f with
 | .next=>∃σ' H',Inv X aU σ' H' s'/\D.nx σ' H'
 | .brk=>∃σ' H',Inv X aU σ' H' s'/\D.bk σ' H'
 | .cont=>∃σ' H',Inv X aU σ' H' s'/\D.ct σ' H'
 | .ret u=>∃v σ' H',Inv X aU σ' H' s'/\RelV v u/\D.rt v H'
noncomputable def PE (X:Cx) (e:Expr) (t:TE):Prop :=
 ∀(aU:List (Addr×Obj)) (s:Shared) (σ:St) (H:Hp) (Q:VK),Inv X aU σ H s->t σ H Q->wpAny (model X.prog X.w) X.A (eval e X.env) (EP X aU σ Q) X.xe s
noncomputable def PT (X:Cx) (e:Expr) (t:TT):Prop :=
 ∀(aU:List (Addr×Obj)) (s:Shared) (σ:St) (H:Hp) (Q:Bool->Hp->Prop),Inv X aU σ H s->t σ H Q->wpAny (model X.prog X.w) X.A (isTrue e X.env (eval e X.env)) (TP X aU σ Q) X.xe s
noncomputable def PW (X:Cx) (e:Expr) (t:TT):Prop :=
 ∀(whole:Sem Value) (aU:List (Addr×Obj)) (s:Shared) (σ:St) (H:Hp) (Q:Bool->Hp->Prop),Inv X aU σ H s->t σ H Q->wpAny (model X.prog X.w) X.A (isTrue e X.env whole) (TP X aU σ Q) X.xe s
theorem PW.pt {X:Cx}{e:Expr}{t:TT}(h:PW X e t):PT X e t:=h _
noncomputable def PA (X:Cx) (es:List Expr) (t:TA):Prop :=
 ∀(pos:Pos) (aU:List (Addr×Obj)) (s:Shared) (σ:St) (H:Hp) (Q:List V->Hp->Prop),Inv X aU σ H s->t σ H Q->wpAny (model X.prog X.w) X.A (spliced (backTo pos (starEach es X.env))) (AP X aU σ Q) X.xe s
noncomputable def PS (X:Cx) (st:Stmt) (t:TS):Prop :=
 ∀(aU:List (Addr×Obj)) (s:Shared) (σ:St) (H:Hp) (D:Ends),Inv X aU σ H s->t D σ H->wpAny (model X.prog X.w) X.A (exec st X.env) (SP X aU D) X.xe s
noncomputable def PSs (X:Cx) (st:List Stmt) (t:TS):Prop :=
 ∀(aU:List (Addr×Obj)) (s:Shared) (σ:St) (H:Hp) (D:Ends),Inv X aU σ H s->t D σ H->wpAny (model X.prog X.w) X.A (execs st X.env) (SP X aU D) X.xe s
theorem thn {α:Type}{t:Sem α}{Q Q':α->Shared->Prop}{M:Model}{A:Around}{E:Value->Shared->Prop}{s:Shared}(h:wpAny M A t Q E s)(hQ:∀a s,Q a s->Q' a s):wpAny M A t Q' E s:=xef h hQ fun _ _ x=>x
section
variable {X:Cx}
noncomputable def tVar (i:Nat):TE:=fun σ H Q=>∃v,σ[i]?=some (some v)/\Q v H
noncomputable def tC (v:V):TE:=fun _ H Q=>Q v H
theorem zbkh {i:Nat}{x:Str}{pos:Pos}(hN:X.N[i]?=some x)(hv:Vis X.env.scope x)(hd:(x==("__debug__" : Str))=false:=by decide)(hcd:(x==("__classdict__" : Str))=false:=by decide):PE X (.Name x pos) (tVar i):=by
 intro aU s σ H Q I h;obtain⟨v,e,h⟩:=h;obtain⟨m,hn,hl⟩:=I.loc;obtain⟨u,r,l⟩:=hl i x v hN e hv;have fin:EP X aU σ Q u s:=⟨v,H,I,r,h⟩
 rcases l with⟨hk,hm⟩ | ⟨hk,c,hc,hcell⟩
 ·exact wpAny_Name (wpAny_loadName_local I.ok.kind hk hn hm fin) hd
 ·rcases hk with hk | hk
  ·exact wpAny_Name (wpAny_loadName_cell I.ok.kind hk hc hcell fin) hd
  ·exact wpAny_Name (wpAny_loadName_free I.ok.kind hk hc hcell fin hcd) hd
theorem zbkl {i j pos}:PE X (.Constant (.int i) j pos) (tC (.int i)):=fun _ _ _ H _ I h=>wpAny_Constant_int ⟨.int i,H,I.tok _,⟨_,rfl⟩,h⟩
theorem zbox {b j pos}:PE X (.Constant (.bool b) j pos) (tC (.bl b)):=fun _ _ _ H _ I h=>Constant_bool ⟨.bl b,H,I,rfl,h⟩
noncomputable def Gl (X:Cx) (x:Str):Prop:=X.env.kindOf x=some .globalImplicit
theorem zza {E:Value->Shared->Prop}{aU:List (Addr×Obj)}{s:Shared}{σ:St}{H:Hp}{x:Str}{u:Value}{pos:Pos}{Q:Value->Shared->Prop}(I:Inv X aU σ H s)(hg:Gl X x)(hm:X.mg x=some u)(h:Q u s)
  (hd:(x==("__debug__" : Str))=false:=by decide):wpAny (model X.prog X.w) X.A (eval (.Name x pos) X.env) Q E s :=
 Calls.Name_function_global I.ok.kind hg (Calls.loadGlobal_global (by rw[I.ok.glob];exact I.mod.glob.keeps I.bk) hm h) hd
theorem zoq {E:Value->Shared->Prop}{aU:List (Addr×Obj)}{s:Shared}{σ:St}{H:Hp}{x:Str}{u:Value}{pos:Pos}{Q:Value->Shared->Prop}(I:Inv X aU σ H s)(hg:Gl X x)(hm:X.mg x=none)(hv:bootBuiltins x=some u)(h:Q u s)
  (hn:x≠"__name__":=by decide)(hd:(x==("__debug__" : Str))=false:=by decide):wpAny (model X.prog X.w) X.A (eval (.Name x pos) X.env) Q E s:=by
 obtain⟨mb,h1,h2⟩:=I.mod.blt;exact Calls.Name_function_global I.ok.kind hg (Calls.loadGlobal_builtin (by rw[I.ok.glob];exact I.mod.glob.keeps I.bk) hm (by rw[I.ok.blt];exact h1.keeps I.bk) ((h2 x hn).trans hv) h) hd
theorem zyq {x:Str}{v:V}{u:Value}{pos:Pos}(hg:Gl X x)(hm:X.mg x=some u)(r:RelV v u)(hd:(x==("__debug__" : Str))=false:=by decide):PE X (.Name x pos) (tC v) :=
 fun _ _ _ H _ I h=>zza I hg hm ⟨v,H,I,r,h⟩ hd
theorem ziz {x:Str}{v:V}{u:Value}{pos:Pos}(hg:Gl X x)(hm:X.mg x=none)(hv:bootBuiltins x=some u)(r:RelV v u)(hn:x≠"__name__":=by decide)(hd:(x==("__debug__" : Str))=false:=by decide):PE X (.Name x pos) (tC v) :=
 fun _ _ _ H _ I h=>zoq I hg hm hv ⟨v,H,I,r,h⟩ hn hd
variable {a b:Expr}{ta tb:TE}{pos:Pos}
noncomputable def PC (X:Cx) (op:CmpOp) (a b:Expr) (t:TE):Prop :=
 ∀(aU:List (Addr×Obj)) (s:Shared) (σ:St) (H:Hp) (Q:VK),Inv X aU σ H s->t σ H Q ->
  wpAny (model X.prog X.w) X.A (eval a X.env) (fun v s₁=>wpAny (model X.prog X.w) X.A (eval b X.env) (fun u s₂=>wpAny (model X.prog X.w) X.A (compareOp op v u) (EP X aU σ Q) X.xe s₂) X.xe s₁) X.xe s
noncomputable def tB (t:TE):TT:=fun σ H Q=>t σ H fun x H1=>∃c,x=.bl c/\Q c H1
theorem zbjx {op:CmpOp}{t:TE}(h:PC X op a b t)(h1:behindInMarks op b=false:=by first | exact nobehind _ (by decide) (by decide) | rfl):PT X (.Compare a [op] [b] pos) (tB t):=by
 intro aU s σ H Q I hw;refine wpAny_isTrue_Compare1 (thn (h aU s σ H _ I hw) fun v s1 h1=>thn h1 fun u s2 h2=>thn h2 fun c s3 hq0=>?_) h1;obtain⟨x,H1,I1,r1,q1⟩:=hq0;obtain⟨d,rfl,q⟩:=q1;cases r1;exact xfz ⟨H1,I1,q⟩
variable {tA tB':TT}{rest:List Expr}
noncomputable def tAnd (t u:TT):TT:=fun σ H Q=>t σ H fun c H1=>if c=true then u σ H1 Q else Q false H1
noncomputable def tOr (t u:TT):TT:=fun σ H Q=>t σ H fun c H1=>if c=true then Q true H1 else u σ H1 Q
noncomputable def tNot (t:TT):TT:=fun σ H Q=>t σ H fun c H1=>Q (!c) H1
theorem pw_and1 (ha:PT X a tA):PW X (.BoolOp .And [a] pos) tA:=by
 intro wh aU s σ H Q I h;refine isTrue_and (thn (ha aU s σ H Q I h) fun c s1 e=>?_);cases c with
 | true=>exact isTrue_and_nil e
 | false=>exact e
theorem pw_or1 (ha:PT X a tA):PW X (.BoolOp .Or [a] pos) tA:=by
 intro wh aU s σ H Q I h;refine isTrue_or (thn (ha aU s σ H Q I h) fun c s1 e=>?_);cases c with
 | false=>exact isTrue_or_nil e
 | true=>exact e
theorem pw_and (ha:PT X a tA)(hb:PW X (.BoolOp .And (b::rest) pos) tB'):PW X (.BoolOp .And (a::b::rest) pos) (tAnd tA tB'):=by
 intro wh aU s σ H Q I h;refine isTrue_and (thn (ha aU s σ H _ I h) fun c s1 hq0=>?_);obtain⟨H1,I1,q1⟩:=hq0;cases c with
 | true=>exact hb wh aU s1 σ H1 Q I1 q1
 | false=>exact⟨H1,I1,q1⟩
theorem pw_or (ha:PT X a tA)(hb:PW X (.BoolOp .Or (b::rest) pos) tB'):PW X (.BoolOp .Or (a::b::rest) pos) (tOr tA tB'):=by
 intro wh aU s σ H Q I h;refine isTrue_or (thn (ha aU s σ H _ I h) fun c s1 hq0=>?_);obtain⟨H1,I1,q1⟩:=hq0;cases c with
 | true=>exact⟨H1,I1,q1⟩
 | false=>exact hb wh aU s1 σ H1 Q I1 q1
theorem zbjw (ha:PT X a tA):PT X (.UnaryOp .Not a pos) (tNot tA):=by
 intro aU s σ H Q I h;exact isTrue_not (ha aU s σ H (fun c H1=>Q (!c) H1) I h)
noncomputable def tAndV (ta tb:TE):TE:=fun σ H Q=>ta σ H fun x H1=>∃c,x=.bl c/\if c=true then tb σ H1 Q else Q (.bl false) H1
noncomputable def tNotV (ta:TE):TE:=fun σ H Q=>ta σ H fun x H1=>∃c,x=.bl c/\Q (.bl (!c)) H1
theorem zbkj {op}{t:TE}(h:PE X a t):PE X (.BoolOp op [a] pos) t:=fun aU s σ H Q I hw=>BoolOp_one (h aU s σ H Q I hw)
theorem zbkm (ha:PE X a ta)(hb:PE X (.BoolOp .And (b::rest) pos) tb):PE X (.BoolOp .And (a::b::rest) pos) (tAndV ta tb):=by
 intro aU s σ H Q I h;refine BoolOp_and (thn (ha aU s σ H _ I h) fun v s1 hq0=>?_);obtain⟨x,H1,I1,r1,q1⟩:=hq0;obtain⟨c,rfl,q1⟩:=q1;cases r1;refine xfz ?_;cases c with
 | true=>exact hb aU s1 σ H1 Q I1 q1
 | false=>exact⟨.bl false,H1,I1,rfl,q1⟩
theorem zbkk (ha:PE X a ta):PE X (.UnaryOp .Not a pos) (tNotV ta):=by
 intro aU s σ H Q I h;refine UnaryOp_ (thn (ha aU s σ H _ I h) fun v s1 hq0=>?_);obtain⟨x,H1,I1,r1,q1⟩:=hq0;obtain⟨c,rfl,q1⟩:=q1;cases r1;exact not_of (xfz ⟨.bl (!c),H1,I1,rfl,q1⟩)
noncomputable def tIf (t:TT) (ta tb:TE):TE:=fun σ H Q=>t σ H fun c H1=>if c=true then ta σ H1 Q else tb σ H1 Q
theorem zbba {c:Expr}(hc:PT X c tA)(ha:PE X a ta)(hb:PE X b tb):PE X (.IfExp c a b pos) (tIf tA ta tb):=by
 intro aU s σ H Q I h;refine wpAny_IfExp (thn (hc aU s σ H _ I h) fun d s1 hq0=>?_);obtain⟨H1,I1,q1⟩:=hq0;cases d with
 | true=>exact ha aU s1 σ H1 Q I1 q1
 | false=>exact hb aU s1 σ H1 Q I1 q1
end
noncomputable def SqL (K:Fg) (H:Hp) (a:Addr) (xs:List V):Prop :=
 Rd H a (.lst xs) \/
  ∃(o:Obj) (its:Array Value) (n:Nat), K.lookup a=some o/\o.cls=.type "list"/\o.dict=none/\o.data=.seq its n/\its.size<=sizeLine/\Vals xs its.toList
noncomputable def SqT (K:Fg) (H:Hp) (a:Addr) (xs:List V):Prop :=
 Rd H a (.tup xs) \/
  ∃(o:Obj) (its:Array Value) (n:Nat), K.lookup a=some o/\o.cls=.type "tuple"/\o.data=.seq its n/\its.size<=sizeLine/\Vals xs its.toList
noncomputable def absV:Value->Option V
 | .none=>some .non
 | .bool b=>some (.bl b)
 | .int i _=>some (.int i)
 | .str x _=>some (.str x)
 | .bytes b _=>some (.byt b)
 | .float b _=>some (.flt b)
 | .ref a=>some (.ref a)
 | .type n=>some (.ty n)
 | _=>none
theorem RelV.abs {x:V}{u:Value}(r:RelV x u):absV u=some x:=by
 cases x with
 | non=>cases r;rfl
 | bl _=>cases r;rfl
 | int _=>obtain⟨t,rfl⟩:=r;rfl
 | str _=>obtain⟨t,rfl⟩:=r;rfl
 | byt _=>obtain⟨t,rfl⟩:=r;rfl
 | flt _=>obtain⟨t,rfl⟩:=r;rfl
 | ref _=>cases r;rfl
 | ty _=>cases r;rfl
theorem RelV.inj {x y:V}{u:Value}(r:RelV x u)(q:RelV y u):x=y:=xcn (r.abs.symm.trans q.abs)
theorem Vals.inj:∀{xs ys:List V} {us:List Value},Vals xs us->Vals ys us->xs=ys
 | _,_,_,.nil,.nil=>rfl
 | _,_,_,.cons r t,.cons r' t'=>by rw[r.inj r',Vals.inj t t']
section
variable {X:Cx}{aU:List (Addr×Obj)}{σ:St}{H:Hp}{s:Shared}{a:Addr}{xs ys:List V}
theorem SqL.of {K:Fg}(h:H a=some (.lst xs)):SqL K H a xs:=.inl (.inl h)
theorem SqT.of {K:Fg}(h:H a=some (.tup xs)):SqT K H a xs:=.inl (.inl h)
theorem Inv.list (I:Inv X aU σ H s)(h:SqL X.K H a xs):∃its:List Value,Vals xs its/\PlainL s.heap a its.toArray/\xs.length<=sizeLine:=by
 rcases h with h | ⟨o,its,n,hk,hc,hd,hs,hz,r⟩
 ·obtain⟨z,its,n,r,e⟩:=h.ok I.hok;exact⟨its,r,⟨_,n,e,rfl,rfl,rfl⟩,z⟩
 ·refine⟨its.toList,r,⟨o,n,I.kIn a o hk,hc,hd,by simpa using hs⟩,?_⟩;have e:=r.length;simp only[xcf] at e;lia
theorem Inv.tuple (I:Inv X aU σ H s)(h:SqT X.K H a xs):∃its:List Value,Vals xs its/\IsTup s.heap a its.toArray/\xs.length<=sizeLine:=by
 rcases h with h | ⟨o,its,n,hk,hc,hs,hz,r⟩
 ·obtain⟨z,its,r,p⟩:=h.ok I.hok;exact⟨its,r,p,z⟩
 ·refine⟨its.toList,r,⟨o,I.kIn a o hk,hc,n,by simpa using hs⟩,?_⟩;have e:=r.length;simp only[xcf] at e;lia
theorem Inv.list_inj (I:Inv X aU σ H s)(h:SqL X.K H a xs)(h':SqL X.K H a ys):xs=ys:=by
 obtain⟨its,r,⟨o,n,e,_,_,d⟩,_⟩:=I.list h;obtain⟨its',r',⟨o',n',e',_,_,d'⟩,_⟩:=I.list h';rw[e] at e';cases e'
 rw[d] at d';injection d' with d1 _
 have:its=its':=by simpa using congrArg Array.toList d1
 subst this;exact r.inj r'
theorem Inv.tuple_inj (I:Inv X aU σ H s)(h:SqT X.K H a xs)(h':SqT X.K H a ys):xs=ys:=by
 obtain⟨its,r,⟨o,e,_,n,d⟩,_⟩:=I.tuple h;obtain⟨its',r',⟨o',e',_,n',d'⟩,_⟩:=I.tuple h';rw[e] at e';cases e'
 rw[d] at d';injection d' with d1 _
 have:its=its':=by simpa using congrArg Array.toList d1
 subst this;exact r.inj r'
end
noncomputable abbrev Cx.wish (X:Cx) (E:Value->Shared->Prop):Cx:={X with xe:=E}
noncomputable abbrev Cx.nox (X:Cx):Cx:=X.wish fun _ _=>False
theorem Cx.Ok.wish {X:Cx}(ok:X.Ok)(E:Value->Shared->Prop):(X.wish E).Ok :=
 ⟨ok.mod,ok.kind,ok.glob,ok.blt,ok.above,ok.inj,ok.has,ok.cab,ok.hd,ok.frames,ok.stk,ok.exf,ok.bs,ok.bsz,ok.noex,ok.exfs,ok.funs,ok.frf⟩
theorem Cx.Ok.unwish {X:Cx}{E:Value->Shared->Prop}(ok:(X.wish E).Ok):X.Ok :=
 ⟨ok.mod,ok.kind,ok.glob,ok.blt,ok.above,ok.inj,ok.has,ok.cab,ok.hd,ok.frames,ok.stk,ok.exf,ok.bs,ok.bsz,ok.noex,ok.exfs,ok.funs,ok.frf⟩
section
variable {X:Cx}{aU:List (Addr×Obj)}{σ:St}{H:Hp}{s:Shared}{E:Value->Shared->Prop}
theorem Inv.wish (I:Inv X aU σ H s)(E:Value->Shared->Prop):Inv (X.wish E) aU σ H s:=⟨I.ok.wish E,I.os,I.bare,I.base,I.loc,I.cell,I.free,I.freeC,I.pin,I.hok,I.len,I.hnd⟩
theorem Inv.unwish (I:Inv (X.wish E) aU σ H s):Inv X aU σ H s:=⟨I.ok.unwish,I.os,I.bare,I.base,I.loc,I.cell,I.free,I.freeC,I.pin,I.hok,I.len,I.hnd⟩
theorem SP.unwish {D:Ends}{f:Flow}{s':Shared}(h:SP (X.wish E) aU D f s'):SP X aU D f s':=by
 cases f with
 | next=>obtain⟨σ',H',I,q⟩:=h;exact⟨σ',H',I.unwish,q⟩
 | brk=>obtain⟨σ',H',I,q⟩:=h;exact⟨σ',H',I.unwish,q⟩
 | cont=>obtain⟨σ',H',I,q⟩:=h;exact⟨σ',H',I.unwish,q⟩
 | ret u=>obtain⟨v,σ',H',I,r,q⟩:=h;exact⟨v,σ',H',I.unwish,r,q⟩
theorem PSs.nox {st:List Stmt}{t:TS}(h:PSs X.nox st t):PSs X st t:=fun aU s σ H D I hw =>
 xef (h aU s σ H D (I.wish _) hw) (fun _ _ q=>q.unwish) fun _ _ z=>False.elim z
end
section
variable {X:Cx}{st:Stmt}{rest:List Stmt}{t u:TS}{e:Expr}{te:TE}{pos:Pos}
noncomputable def tNext:TS:=fun D σ H=>D.nx σ H
noncomputable def tSeq (t u:TS):TS:=fun D σ H=>t {D with nx:=u D} σ H
theorem zbev:PSs X [] tNext:=fun _ _ σ H _ I h=>xkc ⟨σ,H,I,h⟩
theorem zbar (h1:PS X st t)(h2:PSs X rest u):PSs X (st::rest) (tSeq t u):=by
 intro aU s σ H D I h;refine wpAny_execs_cons (thn (h1 aU s σ H {D with nx:=u D} I h) fun f s1 q=>?_);cases f with
 | next =>
  obtain⟨σ',H',I',q⟩:=q;exact h2 aU s1 σ' H' D I' q
 | ret v=>exact q
 | brk=>exact q
 | cont=>exact q
theorem zbeu (h1:PS X st t):PSs X [st] t:=by
 intro aU s σ H D I h;refine wpAny_execs_cons (thn (h1 aU s σ H D I h) fun f s1 q=>?_);cases f with
 | next=>exact xkc q
 | ret v=>exact q
 | brk=>exact q
 | cont=>exact q
noncomputable def tBreak:TS:=fun D σ H=>D.bk σ H
theorem zbat:PS X (.Break pos) tBreak:=fun _ _ σ H _ I h=>wpAny_Break ⟨σ,H,I,h⟩
theorem Inv.quiet {aU:List (Addr×Obj)}{σ:St}{H:Hp}{s:Shared}(I:Inv X aU σ H s):interactive X.env=false:=by simp[interactive,I.ok.kind]
noncomputable def tDrop (te:TE):TS:=fun D σ H=>te σ H fun _ H1=>D.nx σ H1
theorem zbex (he:PE X e te)(hs:swapsWith e none pos.line X.env=pure false:=by rfl):PS X (.Expr e pos) (tDrop te):=by
 intro aU s σ H D I h;exact wpAny_Expr_any (thn (he aU s σ H _ I h) fun v s1 ⟨x,H1,I1,r1,q1⟩=>⟨σ,H1,I1,q1⟩) I.quiet hs
noncomputable def tRet (te:TE):TS:=fun D σ H=>te σ H D.rt
theorem zbjz (he:PE X e te):PS X (.Return (some e) pos) (tRet te):=by
 intro aU s σ H D I h;exact wpAny_Return_some (thn (he aU s σ H _ I h) fun v s1 ⟨x,H1,I1,r1,q1⟩=>⟨x,σ,H1,I1,r1,q1⟩)
noncomputable def tIfS (c:TT) (t u:TS):TS:=fun D σ H=>c σ H fun b H1=>if b=true then t D σ H1 else u D σ H1
theorem zbot {c:Expr}{a b:List Stmt}{tc:TT}(hc:PT X c tc)(ha:PSs X a t)(hb:PSs X b u):PS X (.If c a b pos) (tIfS tc t u):=by
 intro aU s σ H D I h;refine wpAny_If (thn (hc aU s σ H _ I h) fun d s1 hq0=>?_);obtain⟨H1,I1,q1⟩:=hq0;cases d with
 | true=>exact ha aU s1 σ H1 D I1 q1
 | false=>exact hb aU s1 σ H1 D I1 q1
end
noncomputable abbrev TG:=V->St->Hp->(St->Hp->Prop)->Prop
noncomputable abbrev TGs:=List V->St->Hp->(St->Hp->Prop)->Prop
noncomputable def PG (X:Cx) (target:Expr) (t:TG):Prop :=
 ∀(aU:List (Addr×Obj)) (s:Shared) (σ:St) (H:Hp) (v:V) (u:Value) (Q:St->Hp->Prop),Inv X aU σ H s->RelV v u->t v σ H Q ->
  wpAny (model X.prog X.w) X.A (assign target X.env u) (fun _ s'=>∃σ' H',Inv X aU σ' H' s'/\Q σ' H') X.xe s
noncomputable def PGs (X:Cx) (ts:List Expr) (t:TGs):Prop :=
 ∀(aU:List (Addr×Obj)) (s:Shared) (σ:St) (H:Hp) (vs:List V) (us:List Value) (Q:St->Hp->Prop),Inv X aU σ H s->Vals vs us->t vs σ H Q ->
  wpAny (model X.prog X.w) X.A (assignInOrder ((assignEach ts X.env).map (·.2)) us) (fun _ s'=>∃σ' H',Inv X aU σ' H' s'/\Q σ' H') X.xe s
noncomputable abbrev TSet:=V->V->V->Hp->(Hp->Prop)->Prop
noncomputable def PSet (X:Cx) (t:TSet):Prop :=
 ∀(aU:List (Addr×Obj)) (s:Shared) (σ:St) (H:Hp) (o i v:V) (ov iv u:Value) (Q:Hp->Prop),Inv X aU σ H s->RelV o ov->RelV i iv->RelV v u->t o i v H Q ->
  wpAny (model X.prog X.w) X.A (setItem ov iv u) (fun _ s'=>∃H',Inv X aU σ H' s'/\Q H') X.xe s
noncomputable abbrev TIp:=V->V->Hp->VK->Prop
noncomputable def PIp (X:Cx) (op:Operator) (t:TIp):Prop :=
 ∀(aU:List (Addr×Obj)) (s:Shared) (σ:St) (H:Hp) (x y:V) (v u:Value) (Q:VK),Inv X aU σ H s->RelV x v->RelV y u->t x y H Q ->
  wpAny (model X.prog X.w) X.A (inplaceOp op v u) (EP X aU σ Q) X.xe s
section
variable {X:Cx}{pos:Pos}
noncomputable def gName (i:Nat):TG:=fun v σ H Q=>Q (σ.set i (some v)) H
theorem zbfi {i:Nat}{x:Str}(hN:X.N.Nodup)(hi:X.N[i]?=some x)(hx:Loc X.env.scope x)(hf:X.fn x=true\/X.env.scope.names.lookup x=some .local:=by first | exact .inl rfl | exact .inr rfl | assumption):PG X (.Name x pos) (gName i):=by
 intro aU s σ H v u Q I r h;exact wpAny_assign_Name (znv I hN hi hx r (fun s' I'=>⟨_,H,I',h⟩) hf)
noncomputable def gNil:TGs:=fun vs σ H Q=>vs=[]/\Q σ H
noncomputable def gCons (t:TG) (u:TGs):TGs:=fun vs σ H Q=>∃v r,vs=v::r/\t v σ H fun σ' H'=>u r σ' H' Q
theorem zbfh:PGs X [] gNil:=by
 intro aU s σ H vs us Q I r h;obtain⟨e,h⟩:=h;subst e;cases r;exact assignInOrder_nil ⟨σ,H,I,h⟩
theorem zbay {e:Expr}{es:List Expr}{t:TG}{u:TGs}(h1:PG X e t)(h2:PGs X es u)
  (hs:(assignEach (e::es) X.env).map (·.2)=assign e X.env::(assignEach es X.env).map (·.2):=by rfl):PGs X (e::es) (gCons t u):=by
 intro aU s σ H vs us Q I r h;obtain⟨v,vr,e1,h⟩:=h;subst e1;cases r with
 | cons r rr =>
  rw[hs];refine assignInOrder_cons (thn (h1 aU s σ H _ _ _ I r h) fun _ s1 hq0=>?_);obtain⟨σ1,H1,I1,q1⟩:=hq0;exact h2 aU s1 σ1 H1 _ _ Q I1 rr q1
noncomputable def gTup (K:Fg) (n:Nat) (t:TGs):TG:=fun v σ H Q=>∃a xs,v=.ref a/\SqT K H a xs/\xs.length=n/\t xs σ H Q
theorem zbkf {es:List Expr}{k:Nat}{t:TGs}{n:Nat}(hc:X.calm=true)(h:PGs X es t)
  (hn:(assignEach es X.env).length=n:=by rfl)(hst:(assignEach es X.env).findIdx? (·.1)=none:=by rfl):PG X (.Tuple es k pos) (gTup X.K n t):=by
 intro aU s σ H v u Q I r hw;obtain⟨a,xs,e1,hq,hl,hw⟩:=hw;subst e1;cases r;obtain⟨its,rv,ht,hz⟩:=I.tuple hq;refine assign_Tuple_tuple (I.ok.hd hc) ht (by simp[hn,← hl,rv.length]) hst fun h' hx=>?_
 have I1:Inv X aU σ H {s with heap:=h'}:=I.kept (t':=s.toks) fun b o e=>hx b o (xcl (xbm e)) e
 exact h aU _ σ H xs _ Q I1 (by simpa using rv) hw
noncomputable def gSub (to ti:TE) (t:TSet):TG:=fun v σ H Q=>to σ H fun o H1=>ti σ H1 fun i H2=>t o i v H2 fun H3=>Q σ H3
theorem zbkg {o i:Expr}{to ti:TE}{t:TSet}(ho:PE X o to)(hi:PE X i ti)(hs:PSet X t)
  (ha:∀v,assign (.Subscript o i pos) X.env v=(do
   let ov ← holding [v] (eval o X.env)
   let iv ← holding [v,ov] (eval i X.env)
   standAt pos
   holding [v,ov,iv] (setItem ov iv v)
   release [v,ov,iv] []):=by intro _;rfl):PG X (.Subscript o i pos) (gSub to ti t):=by
 intro aU s σ H v u Q I r h;rw[ha];refine xba (xfm (thn (ho aU s σ H _ I h) fun ov s1 hq0=>?_));obtain⟨x,H1,I1,r1,q1⟩:=hq0;refine xba (xfm (thn (hi aU s1 σ H1 _ I1 q1) fun iv s2 hq0=>?_));obtain⟨y,H2,I2,r2,q2⟩:=hq0;refine xba (wpAny_standAt (xba (xfm (thn (hs aU s2 σ H2 x y v ov iv u _ I2 r1 r2 r q2) fun _ s3 hq0=>?_))));obtain⟨H3,I3,q3⟩:=hq0;exact wpAny_release ⟨σ,H3,I3,q3⟩
noncomputable def tAsg (te:TE) (g:TG):TS:=fun D σ H=>te σ H fun x H1=>g x σ H1 D.nx
theorem zbkc {tg e:Expr}{te:TE}{g:TG}(he:PE X e te)(hg:PG X tg g)(hs:swapsWithSole [tg] e pos.line X.env=pure false:=by rfl)(hw:swappedStores [tg] e X.env=pure none:=by rfl)
  (h1:(assignEach [tg] X.env).map (·.2)=[assign tg X.env]:=by rfl):PS X (.Assign [tg] e pos) (tAsg te g):=by
 intro aU s σ H D I h;refine wpAny_Assign_stores (thn (he aU s σ H _ I h) fun v s1 hq0=>?_) hs hw;obtain⟨x,H1,I1,r1,q1⟩:=hq0;rw[h1];exact thn (hg aU s1 σ H1 x v _ I1 r1 q1) fun _ s2 q=>q
theorem zbjy {i:Nat}{x:Str}{e:Expr}{te:TE}{pos':Pos}(hN:X.N.Nodup)(hi:X.N[i]?=some x)(hx:Loc X.env.scope x)(he:PE X e te)(hs:swapsWith e (some (.Name x pos')) pos.line X.env=pure false:=by rfl)(hf:X.fn x=true\/X.env.scope.names.lookup x=some .local:=by first | exact .inl rfl | exact .inr rfl | assumption) :
  PS X (.Assign [.Name x pos'] e pos) (tAsg te (gName i)):=by
 intro aU s σ H D I h;refine wpAny_Assign_Name (thn (he aU s σ H _ I h) fun v s1 hq0=>?_) hs;obtain⟨y,H1,I1,r1,q1⟩:=hq0;exact znv I1 hN hi hx r1 (fun s2 I2=>⟨_,H1,I2,q1⟩) hf
noncomputable def tAug (i:Nat) (te:TE) (ti:TIp):TS:=fun D σ H=>∃x,σ[i]?=some (some x)/\te σ H fun y H1=>ti x y H1 fun z H2=>D.nx (σ.set i (some z)) H2
theorem zbkb {i:Nat}{x:Str}{e:Expr}{te:TE}{op:Operator}{ti:TIp}{pos':Pos}(hN:X.N.Nodup)(hi:X.N[i]?=some x)(hx:Loc X.env.scope x)(he:PE X e te)(ho:PIp X op ti)(hf:X.fn x=true\/X.env.scope.names.lookup x=some .local:=by first | exact .inl rfl | exact .inr rfl | assumption) :
  PS X (.AugAssign (.Name x pos') op e pos) (tAug i te ti):=by
 intro aU s σ H D I h;obtain⟨v,e1,h⟩:=h;obtain⟨m,hn,hl⟩:=I.loc;have vis:Vis X.env.scope x:=by rcases hx with k | k;exact .inl k;exact .inr (.inl k)
 obtain⟨u,r,l⟩:=hl i x v hi e1 vis;refine wpAny_AugAssign_Name ?_;have go:wpAny (model X.prog X.w) X.A (eval e X.env) (fun w s₂=>wpAny (model X.prog X.w) X.A (inplaceOp op u w) (fun r s₃=>wpAny (model X.prog X.w) X.A (storeName X.env x r) (fun _=>SP X aU D .next) X.xe s₃) X.xe s₂) X.xe s:=by
  refine thn (he aU s σ H _ I h) fun w s1 hq0=>?_
  obtain⟨y,H1,I1,r1,q1⟩:=hq0;refine thn (ho aU s1 σ H1 v y u w _ I1 r r1 q1) fun z s2 hq0=>?_
  obtain⟨zv,H2,I2,r2,q2⟩:=hq0;exact znv I2 hN hi hx r2 (fun s3 I3=>⟨_,H2,I3,q2⟩) hf
 rcases l with⟨hk,hm⟩ | ⟨hk,c,hc,hcell⟩
 ·exact wpAny_loadName_local I.ok.kind hk hn hm go
 ·rcases hk with hk | hk
  ·exact wpAny_loadName_cell I.ok.kind hk hc hcell go
  ·rcases hx with k | k
   ·have:X.env.scope.names.lookup x=some .free:=hk;rw[k] at this;cases this
   ·have:X.env.scope.names.lookup x=some .free:=hk;rw[k] at this;cases this
noncomputable def ipI (f:Int->Int->Int):TIp:=fun x y H Q=>∃i j,x=.int i/\y=.int j/\Q (.int (f i j)) H
theorem zblj:PIp X .Sub (ipI fun i j=>i - j):=by
 intro aU s σ H x y v u Q I r1 r2 h;obtain⟨i,j,e1,e2,q⟩:=h;subst e1;subst e2
 obtain⟨t,rfl⟩:=r1;obtain⟨t',rfl⟩:=r2;exact isub_int ⟨.int _,H,I.tok _,⟨_,rfl⟩,q⟩
noncomputable def tWhile (c:TT) (tb:TS):TS:=fun D σ H=>∃W:Nat->St->Hp->Prop,(∃m,W m σ H)/\∀m σ H,W m σ H ->
 c σ H fun b H1=>if b=true then ∃N:St->Hp->Prop,(∀σ' H',N σ' H'->∃m',m' < m/\W m' σ' H')/\tb {D with nx:=N,ct:=N,bk:=D.nx} σ H1 else D.nx σ H1
theorem zbas {c:Expr}{body:List Stmt}{tc:TT}{tb:TS}(hp:PassesOwn (model X.prog X.w) X.A X.env X.xe)(hc:PT X c tc)(hb:PSs X body tb):PS X (.While c body [] pos) (tWhile tc tb):=by
 intro aU s σ H D I h;obtain⟨W,⟨m0,w0⟩,turn⟩:=h;refine wpAny_While (codeAny_whileLoop (fun n s'=>∃σ' H',Inv X aU σ' H' s'/\W n σ' H') ?_ m0 ⟨σ,H,I,w0⟩);rintro n s1 ⟨σ1,H1,I1,w1⟩;refine xgt hp (thn (hc aU s1 σ1 H1 _ I1 (turn n σ1 H1 w1)) fun b s2 hq0=>?_);obtain⟨H2,I2,q2⟩:=hq0;cases b with
 | true =>
  obtain⟨N,hN,q2⟩:=q2;rw[if_pos rfl];refine xgt hp (thn (hb aU s2 σ1 H2 _ I2 q2) fun f s3 q3=>?_);cases f with
  | next =>
   obtain⟨σ3,H3,I3,n3⟩:=q3;obtain⟨m',hm,w3⟩:=hN σ3 H3 n3;exact⟨m',hm,σ3,H3,I3,w3⟩
  | cont =>
   obtain⟨σ3,H3,I3,n3⟩:=q3;obtain⟨m',hm,w3⟩:=hN σ3 H3 n3;exact⟨m',hm,σ3,H3,I3,w3⟩
  | brk=>exact q3
  | ret v=>exact q3
 | false =>
  rw[if_neg xeq];exact xkc ⟨σ1,H2,I2,q2⟩
end
structure It where
 go:Nat->Hp->Prop
 yld:Nat->Hp->V->Hp->Prop
 stop:Nat->Hp->Prop
noncomputable def FpOk (X:Cx) (aU:List (Addr×Obj)) (H:Hp) (b:Addr):Prop :=
 H b=none/\b≠X.env.locals/\b∉X.fs/\(b∈X.ex\/X.s₀.heap.objs.size<=b)/\(∀x c,X.env.cells.lookup x=some c->c≠b)/\∀p∈X.pn++aU,p.1≠b
theorem Inv.fpOk {X:Cx}{aU:List (Addr×Obj)}{σ:St}{H H':Hp}{s:Shared}{b:Addr}(I:Inv X aU σ H s)(hb:s.heap.objs.size<=b)(hn:H' b=none):FpOk X aU H' b:=by
 refine⟨hn,xia (xbg I.lt hb),I.nofs hb,.inr (xbb I.sz hb),fun x c e z=>?_,fun p hp z=>?_⟩
 ·obtain⟨v,q⟩:=I.cell x c e;exact absurd (xbg q.lt (by rw[z];exact hb)) (xgu _)
 ·exact absurd (xbg (xbm (I.pin p hp).1) (by rw[z];exact hb)) (xgu _)
structure Turn (P:Program) (w:World) (K:Fg) (tg:Expr) (J:It) (fp:List Addr) (it:Addr) (tn:Nat->Heap->Prop):Prop where
 mem:it∈fp
 obj:∀i h,tn i h->∀b∈fp,∃o,h.get? b=some o/\∀v,o.data≠.cell v
 keep:∀i h h',tn i h->(∀b∈fp,∀o,h.get? b=some o->h'.get? b=some o)->tn i h'
 item:∀(X:Cx),X.prog=P->X.w=w->X.K=K->X.calm=true->∀(i:Nat) (aU:List (Addr×Obj)) (s:Shared) (σ:St) (H:Hp) (E:Value->Shared->Prop),Inv X aU σ H s->(∀b∈fp,FpOk X aU H b)->tn i s.heap->J.go i H ->
  wpAny (model P w) X.A (pyNext (.ref it)) (fun r s1=>∃u,r=some u /\
   wpAny (model P w) X.A (letOwnedTupleGo tg (.ref it) u) (fun _ s2=>∃x H',Inv X aU σ H' s2/\RelV x u/\J.yld i H x H'/\tn (i+1) s2.heap/\∀b∈fp,H' b=none) E s1) E s
 done:∀(X:Cx),X.prog=P->X.w=w->X.K=K->X.calm=true->∀(i:Nat) (aU:List (Addr×Obj)) (s:Shared) (σ:St) (H:Hp) (E:Value->Shared->Prop),Inv X aU σ H s->(∀b∈fp,FpOk X aU H b)->tn i s.heap->J.stop i H ->
  wpAny (model P w) X.A (pyNext (.ref it)) (fun r s1=>r=none/\Inv X aU σ H s1) E s
 self:∀(A:Around) (i:Nat) (s:Shared) (Q:Value->Shared->Prop) (E:Value->Shared->Prop),tn i s.heap->Q (.ref it) s->wpAny (model P w) A (pyIter (.ref it)) Q E s
noncomputable abbrev TI:=St->Hp->(It->Hp->Prop)->Prop
noncomputable def PIE (X:Cx) (aU:List (Addr×Obj)) (σ:St) (tg:Expr) (R:It->Hp->Prop) (itv:Value) (s2:Shared):Prop :=
 ∃(it:Addr) (fp:List Addr) (tn:Nat->Heap->Prop) (J:It) (H':Hp),itv=.ref it/\Inv X aU σ H' s2/\Turn X.prog X.w X.K tg J fp it tn/\tn 0 s2.heap/\(∀b∈fp,FpOk X aU H' b)/\R J H'
noncomputable def PI (X:Cx) (tg iter:Expr) (wi:TI):Prop :=
 ∀(aU:List (Addr×Obj)) (s:Shared) (σ:St) (H:Hp) (R:It->Hp->Prop),Inv X aU σ H s->wi σ H R ->
  wpAny (model X.prog X.w) X.A (eval iter X.env) (fun v s1=>wpAny (model X.prog X.w) X.A (pyIter v) (PIE X aU σ tg R) X.xe s1) X.xe s
theorem zbjd {M:Model}{A:Around}{E:Value->Shared->Prop}{s:Shared}{tg:Expr}{it:Addr}{u:Value}{o:Obj}{n:String}{vs:Array Value}{Q:Unit->Shared->Prop}(ho:s.heap.get? it=some o)(hc:o.cls=.type n)(hd:o.data=.fields vs)
    (hn:["enumerate", "zip", "dict_itemiterator", "dict_reverseitemiterator", "odict_iterator", "itertools.zip_longest", "itertools.pairwise"].contains n=false)(hQ:Q () s):wpAny M A (letOwnedTupleGo tg (.ref it) u) Q E s:=by
  unfold letOwnedTupleGo;cases tg <;> first
    | exact xbh hQ
    | (cases u <;> first
        | exact xbh hQ
        | (refine xba (wpAny_load ho ?_)
           rw[hc, hd];show wpAny M A (if(["enumerate", "zip", "dict_itemiterator", "dict_reverseitemiterator", "odict_iterator", "itertools.zip_longest", "itertools.pairwise"].contains n&&vs[0]?==some (rawInt _))=true then _ else _) Q E s
           rw[if_neg (by intro h; rw[hn, Bool.false_and] at h; cases h)]
           exact xbh hQ))
noncomputable def Itl (K:Fg) (a:Addr):It :=
 ⟨fun i H=>∃xs x,SqL K H a xs/\xs[i]?=some x,fun i H x H'=>H'=H/\∀xs,SqL K H a xs->xs[i]?=some x,fun i H=>∃xs,SqL K H a xs/\xs.length<=i⟩
noncomputable def Itt (K:Fg) (a:Addr):It :=
 ⟨fun i H=>∃xs x,SqT K H a xs/\xs[i]?=some x,fun i H x H'=>H'=H/\∀xs,SqT K H a xs->xs[i]?=some x,fun i H=>∃xs,SqT K H a xs/\xs.length<=i⟩
noncomputable def Itr (lo:Int) (n:Nat):It:=⟨fun i _=>i < n,fun i H x H'=>H'=H/\x=.int (lo+i),fun i _=>n<=i⟩
theorem zvs {P:Program}{w:World}{K:Fg}{tg:Expr}(a it:Addr):Turn P w K tg (Itl K a) [it] it (fun i h=>h.IsListIter it a i) where
 mem:=by simp
 obj:=fun i h st b hb=>by
  have e:b=it:=by simpa using hb
  subst e;obtain⟨o,e,c,d⟩:=st;exact⟨o,e,fun v z=>by rw[d] at z;cases z⟩
 keep:=fun i h h' st k=>st.at fun o e=>k it (by simp) o e
 item:=by
  intro X hP hw hK hc i aU s σ H E I hf st hg;subst hP hw hK;obtain⟨xs,x,hq,hx⟩:=hg;obtain⟨its,rv,p,hz⟩:=I.list hq;obtain⟨u,hu,ru⟩:=rv.get hx;obtain⟨f0,f1,f2,f3,f4,f5⟩:=hf it (by simp);refine wpAny_pyNext_list_item st p.isList (x:=u) (by simpa using hu) fun h' st' sb=>?_
  have I1:Inv X aU σ H {s with heap:=h'}:=I.turned (t':=s.toks) (fun b o hb e=>(sb.2 b hb).trans e) f0 f1 f3 f4 f5;obtain⟨o,e,c,d⟩:=id st';exact⟨u,rfl,zbjd (s:={s with heap:=h'}) e c d (by decide) ⟨x,H,I1,ru,⟨rfl,fun ys hy=>by rw[I.list_inj hy hq];exact hx⟩,st',fun b hb=>(hf b hb).1⟩⟩
 done:=by
  intro X hP hw hK hc i aU s σ H E I hf st hg;subst hP hw hK;obtain⟨xs,hq,hx⟩:=hg;obtain⟨its,rv,p,hz⟩:=I.list hq;obtain⟨f0,f1,f2,f3,f4,f5⟩:=hf it (by simp);have hl:=rv.length;exact wpAny_pyNext_list_end (I.ok.hd hc) st p.isList (by simp;lia) fun h' eb=>⟨rfl,I.turned (t':=s.toks) (fun b o hb e=>eb b o hb e) f0 f1 f3 f4 f5⟩
 self:=fun _ _ _ _ _ st h=>wpAny_pyIter_listiter st h
theorem zse {P:Program}{w:World}{K:Fg}{tg:Expr}(a it:Addr):Turn P w K tg (Itt K a) [it] it (fun i h=>h.IsTupleIter it a i) where
 mem:=by simp
 obj:=fun i h st b hb=>by
  have e:b=it:=by simpa using hb
  subst e;obtain⟨o,e,c,d⟩:=st;exact⟨o,e,fun v z=>by rw[d] at z;cases z⟩
 keep:=fun i h h' st k=>st.at fun o e=>k it (by simp) o e
 item:=by
  intro X hP hw hK hc i aU s σ H E I hf st hg;subst hP hw hK;obtain⟨xs,x,hq,hx⟩:=hg;obtain⟨its,rv,p,hz⟩:=I.tuple hq;obtain⟨u,hu,ru⟩:=rv.get hx;obtain⟨f0,f1,f2,f3,f4,f5⟩:=hf it (by simp);refine wpAny_pyNext_tuple_item st (show s.heap.IsTuple a its.toArray from p) (x:=u) (by simpa using hu) fun h' st' sb=>?_
  have I1:Inv X aU σ H {s with heap:=h'}:=I.turned (t':=s.toks) (fun b o hb e=>(sb.2 b hb).trans e) f0 f1 f3 f4 f5;obtain⟨o,e,c,d⟩:=id st';exact⟨u,rfl,zbjd (s:={s with heap:=h'}) e c d (by decide) ⟨x,H,I1,ru,⟨rfl,fun ys hy=>by rw[I.tuple_inj hy hq];exact hx⟩,st',fun b hb=>(hf b hb).1⟩⟩
 done:=by
  intro X hP hw hK hc i aU s σ H E I hf st hg;subst hP hw hK;obtain⟨xs,hq,hx⟩:=hg;obtain⟨its,rv,p,hz⟩:=I.tuple hq;obtain⟨f0,f1,f2,f3,f4,f5⟩:=hf it (by simp);have hl:=rv.length;exact wpAny_pyNext_tuple_end (I.ok.hd hc) st (show s.heap.IsTuple a its.toArray from p) (by simp;lia) fun h' eb=>⟨rfl,I.turned (t':=s.toks) (fun b o hb e=>eb b o hb e) f0 f1 f3 f4 f5⟩
 self:=fun _ _ _ _ _ st h=>wpAny_pyIter_tupleiter st h
theorem zsf {P:Program}{w:World}{K:Fg}{tg:Expr}(it:Addr)(lo:Int)(n:Nat):Turn P w K tg (Itr lo n) [it] it (fun i h=>IsRangeIter h it (lo+(i:Nat) * 1) ((n:Int) - (i:Nat)) 1) where
 mem:=by simp
 obj:=fun i h st b hb=>by
  have e:b=it:=by simpa using hb
  subst e
  exact⟨_,st,fun v z=>by
   have z':Data.fields _=Data.cell v:=z
   cases z'⟩
 keep:=fun i h h' st k=>k it (by simp) _ st
 item:=by
  intro X hP hw hK hc i aU s σ H E I hf st hg;subst hP hw hK;obtain⟨f0,f1,f2,f3,f4,f5⟩:=hf it (by simp);have W:=Walks.range (prog:=X.prog) (w:=X.w) (I.ok.hd hc) it lo 1 n;refine W.item i s _ _ hg st fun v h' tk hv st' kk=>?_
  obtain⟨t,rfl⟩:=hv;have I1:Inv X aU σ H {s with heap:=h',toks:=tk}:=I.turned (fun b o hb e=>kk b o (by simpa using hb) e) f0 f1 f3 f4 f5;refine⟨_, rfl, zbjd (s:={ s with heap:=h', toks:=tk }) (n:="range_iterator") st' rfl rfl (by decide) ⟨.int (lo + i), H, I1,⟨t, ?_⟩,⟨rfl, rfl⟩, st', fun b hb=>(hf b hb).1⟩⟩
  rw[Int.mul_one]
 done:=by
  intro X hP hw hK hc i aU s σ H E I hf st hg;subst hP hw hK;obtain⟨f0,f1,f2,f3,f4,f5⟩:=hf it (by simp);exact wpAny_pyNext_range_end (I.ok.hd hc) st (by have:n<=i:=hg;lia) fun h' eb=>⟨rfl,I.turned (t':=s.toks) (fun b o hb e=>eb b o hb e) f0 f1 f3 f4 f5⟩
 self:=fun _ _ _ _ _ st h=>wpAny_pyIter_rangeiter st h
section
variable {X:Cx}{tg:Expr}
noncomputable def iList (K:Fg) (tl:TE):TI:=fun σ H R=>tl σ H fun x H1=>∃a,x=.ref a/\(∃xs,SqL K H1 a xs)/\R (Itl K a) H1
noncomputable def iTup (K:Fg) (tl:TE):TI:=fun σ H R=>tl σ H fun x H1=>∃a,x=.ref a/\(∃xs,SqT K H1 a xs)/\R (Itt K a) H1
theorem zbfe {l:Expr}{tl:TE}(hl:PE X l tl):PI X tg l (iList X.K tl):=by
 intro aU s σ H R I h;refine thn (hl aU s σ H _ I h) fun v s1 hq0=>?_
 obtain⟨x,H1,I1,r1,q1⟩:=hq0;obtain⟨a,e,⟨xs,hq⟩,q⟩:=q1;subst e;cases r1;obtain⟨its,rv,p,hz⟩:=I1.list hq;refine xld p.isList ?_;refine⟨s1.heap.objs.size,[s1.heap.objs.size],_,_,H1,rfl,I1.kept (t':=s1.toks) fun b o e=>xbd _ e,zvs a _,⟨_,xbw _ rfl,rfl,rfl⟩,fun b hb=>?_,q⟩;have e:b=s1.heap.objs.size:=by simpa using hb
 subst e;exact I1.fpOk (xbe _) (I1.hok.fresh (xbe _))
theorem zbke {l:Expr}{tl:TE}(hl:PE X l tl):PI X tg l (iTup X.K tl):=by
 intro aU s σ H R I h;refine thn (hl aU s σ H _ I h) fun v s1 hq0=>?_
 obtain⟨x,H1,I1,r1,q1⟩:=hq0;obtain⟨a,e,⟨xs,hq⟩,q⟩:=q1;subst e;cases r1;obtain⟨its,rv,p,hz⟩:=I1.tuple hq;refine xir (show s1.heap.IsTuple a its.toArray from p) ?_;refine⟨s1.heap.objs.size,[s1.heap.objs.size],_,_,H1,rfl,I1.kept (t':=s1.toks) fun b o e=>xbd _ e,zse a _,⟨_,xbw _ rfl,rfl,rfl⟩,fun b hb=>?_,q⟩;have e:b=s1.heap.objs.size:=by simpa using hb
 subst e;exact I1.fpOk (xbe _) (I1.hok.fresh (xbe _))
theorem zsv {aU:List (Addr×Obj)}{σ:St}{H:Hp}{s:Shared}{R:It->Hp->Prop}{E:Value->Shared->Prop}{lo hi:Int}{t u v:Tok}{tk:Nat}(I:Inv X aU σ H s)(h1:-(2 ^ 62)<=lo)(h2:lo < 2 ^ 62)(h3:-(2 ^ 62)<=hi)(h4:hi < 2 ^ 62)
  (q:R (Itr lo (hi - lo).toNat) H):wpAny (model X.prog X.w) X.A (pyIter (.ref s.heap.objs.size)) (PIE X aU σ tg R) E { s with heap:=s.heap.push { cls:=.type "range", data:=.fields #[.int lo t, .int hi u, .int 1 v] }, toks:=tk }:=by
 refine wpAny_pyIter_range (IsRange.new ..) (small_one h1 h2 h3 h4) ?_;have I1:Inv X aU σ H { s with heap:=s.heap.push { cls:=.type "range", data:=.fields #[.int lo t, .int hi u, .int 1 v] }, toks:=tk }:=I.kept fun b o e=>xbd _ e
 refine⟨(s.heap.push { cls:=.type "range", data:=.fields #[.int lo t, .int hi u, .int 1 v] }).objs.size,[(s.heap.push { cls:=.type "range", data:=.fields #[.int lo t, .int hi u, .int 1 v] }).objs.size], _, _, H, rfl,
  I1.kept (t':=tk) fun b o e=>xbd _ e,zsf _ lo (hi - lo).toNat,?_,fun b hb=>?_,q⟩
 ·have e1:lo+((0:Nat):Int) * 1=lo:=by simp
  have e2:(((hi - lo).toNat:Nat):Int) - ((0:Nat):Int)=Builtin.Range.rangeSize lo hi 1:=by rw[rangeSize_one];split<;>lia
  show IsRangeIter _ _ (lo+((0:Nat):Int) * 1) ((((hi - lo).toNat:Nat):Int) - ((0:Nat):Int)) 1;rw[e1,e2];exact xbw _ rfl
 ·have e:b=(s.heap.push { cls:=.type "range", data:=.fields #[.int lo t, .int hi u, .int 1 v] }).objs.size:=by simpa using hb
  subst e;exact I1.fpOk (xbe _) (I1.hok.fresh (xbe _))
noncomputable def iRng1 (ta:TA):TI:=fun σ H R=>ta σ H fun vs H1=>∃j:Int,vs=[.int j]/\-(2 ^ 62)<=j/\j < 2 ^ 62/\R (Itr 0 j.toNat) H1
noncomputable def iRng2 (ta:TA):TI:=fun σ H R=>ta σ H fun vs H1=>∃i j:Int,vs=[.int i,.int j]/\(-(2 ^ 62)<=i/\i < 2 ^ 62/\-(2 ^ 62)<=j/\j < 2 ^ 62)/\R (Itr i (j - i).toNat) H1
theorem zwl {a:Expr}{ta:TA}{p pos:Pos}(hg:Gl X "range")(hm:X.mg "range"=none)(ha:PA X [a] ta)(hs:starEach [a] X.env=[(false, eval a X.env)]:=by rfl):PI X tg (.Call (.Name "range" p) [a] [] pos) (iRng1 ta):=by
 intro aU s σ H R I h;refine Call_ (zoq I hg hm boot_range (xfi (thn (ha pos aU s σ H _ I h) fun us s1 hq0=>?_) hs rfl));obtain⟨vs,H1,I1,r1,q1⟩:=hq0;obtain⟨j,e,q1,q2,q⟩:=q1;subst e;cases r1 with
 | cons r rr =>
  cases rr;obtain⟨t,rfl⟩:=r;exact call_range_1 (zsv I1 (by lia) (by lia) q1 q2 (by simpa using q))
theorem zwk {a b:Expr}{ta:TA}{p pos:Pos}(hg:Gl X "range")(hm:X.mg "range"=none)(ha:PA X [a, b] ta)(hs:starEach [a, b] X.env=[(false, eval a X.env),(false, eval b X.env)]:=by rfl)(hs2:starEach [b] X.env=[(false, eval b X.env)]:=by rfl) :
  PI X tg (.Call (.Name "range" p) [a, b] [] pos) (iRng2 ta):=by
 intro aU s σ H R I h;refine Call_ (zoq I hg hm boot_range (xfi (thn (ha pos aU s σ H _ I h) fun us s1 ⟨vs,H1,I1,r1,q1⟩=>?_) (by rw[hs,hs2]) (by rw[hs2];rfl)));obtain⟨i,j,e,⟨q1,q2,q3,q4⟩,q⟩:=q1;subst e;cases r1 with
 | cons r rr =>
  cases rr with
  | cons r' rr =>
   cases rr;obtain⟨t,rfl⟩:=r;obtain⟨t',rfl⟩:=r';exact call_range_2 (zsv I1 q1 q2 q3 q4 q)
noncomputable def tFor (wi:TI) (g:TG) (tb:TS):TS:=fun D σ H=>wi σ H fun J H1=>∃W:Nat->Nat->St->Hp->Prop,(∃m,W 0 m σ H1)/\∀i m σ H,W i m σ H ->
 (J.stop i H/\D.nx σ H)\/(J.go i H/\∃N:St->Hp->Prop,(∀σ' H',N σ' H'->∃m',m' < m/\W (i+1) m' σ' H')/\∀x H',J.yld i H x H'->g x σ H' fun σ2 H2=>tb {D with nx:=N,ct:=N,bk:=D.nx} σ2 H2)
noncomputable def pinsAt (fp:List Addr) (h:Heap):List (Addr×Obj):=fp.filterMap fun b=>(h.get? b).map fun o=>(b,o)
theorem zgi {fp:List Addr}{h:Heap}{b:Addr}{o:Obj}(hb:b∈fp)(e:h.get? b=some o):(b,o)∈pinsAt fp h:=List.mem_filterMap.mpr ⟨b,hb,by rw[e];rfl⟩
theorem zwr {fp:List Addr}{h:Heap}{p:Addr×Obj}(hp:p∈pinsAt fp h):p.1∈fp/\h.get? p.1=some p.2:=by
 obtain⟨b,hb,e⟩:=List.mem_filterMap.mp hp;cases q:h.get? b with
 | none=>rw[q] at e;cases e
 | some o =>
  rw[q] at e;have e':(b,o)=p:=xcn e;subst e';exact⟨hb,q⟩
theorem Inv.pinned {aU:List (Addr×Obj)}{σ:St}{H:Hp}{s:Shared}{fp:List Addr}(I:Inv X aU σ H s)(hf:∀b∈fp,FpOk X aU H b)(ho:∀b∈fp,∃o,s.heap.get? b=some o/\∀v,o.data≠.cell v):Inv X (aU++pinsAt fp s.heap) σ H s :=
 I.pins_of fun p hp=>(xca.mp hp).elim (fun z=>I.pin p (xde _ z)) fun z=>by
  obtain⟨hb,e⟩:=zwr z;obtain⟨f0,f1,f2,_⟩:=hf p.1 hb;obtain⟨o,e',d⟩:=ho p.1 hb;rw[e] at e';cases e'
  exact⟨e,f0,f1,f2,d⟩
theorem Inv.unpinned {aU pl:List (Addr×Obj)}{σ:St}{H:Hp}{s:Shared}(I:Inv X (aU++pl) σ H s):Inv X aU σ H s:=I.pins_of fun p hp=>I.pin p (xde _ (xem _ hp))
theorem zbka {iter:Expr}{body:List Stmt}{wi:TI}{g:TG}{tb:TS}{pos:Pos}(hp:PassesOwn (model X.prog X.w) X.A X.env X.xe)(hc:X.calm=true)(hi:PI X tg iter wi)(hg:PG X tg g)(hb:PSs X body tb)
  (hs:∀x,foldedSetIterable iter X.env x=pure x:=by intro _;rfl):PS X (.For tg iter body [] pos) (tFor wi g tb):=by
 intro aU s σ H D I h;refine wpAny_For (thn (hi aU s σ H _ I h) fun v s1 h1=>thn h1 fun itv s2 h2=>?_) hs;obtain⟨it,fp,tn,J,H2,e,I2,T,st2,f2,W,⟨m0,w0⟩,turn⟩:=h2;subst e;have stat:∀{H':Hp},(∀b∈fp,H' b=none)->∀b∈fp,FpOk X aU H' b:=fun hn b hb=>⟨hn b hb,(f2 b hb).2⟩
 refine codeAny_forLoop_any (fun n s'=>∃i σ' H',Inv X aU σ' H' s'/\tn i s'.heap/\(∀b∈fp,H' b=none)/\W i n σ' H') ?_ m0 ⟨0,σ,H2,I2,st2,fun b hb=>(f2 b hb).1,w0⟩;rintro n s3 ⟨i,σ3,H3,I3,st3,fr3,w3⟩;rcases turn i n σ3 H3 w3 with⟨stop,qn⟩ | ⟨go,N,hN,step⟩
 ·refine xgt hp (thn (T.done X rfl rfl rfl hc i aU s3 σ3 H3 X.xe I3 (stat fr3) st3 stop) fun r s4 hq0=>?_);obtain⟨hr,I4⟩:=hq0;subst hr;exact xkc ⟨σ3,H3,I4,qn⟩
 ·refine xgt hp (thn (T.item X rfl rfl rfl hc i aU s3 σ3 H3 X.xe I3 (stat fr3) st3 go) fun r s4 hq0=>?_);obtain⟨u,hr,h4⟩:=hq0;subst hr;refine xgt hp (thn h4 fun _ s5 hq0=>?_);obtain⟨x,H5,I5,r5,y5,st5,fr5⟩:=hq0;have I5':=I5.pinned (stat fr5) (T.obj _ _ st5);refine xgt hp (thn (hg _ s5 σ3 H5 x u _ I5' r5 (step x H5 y5)) fun _ s6 hq0=>?_);obtain⟨σ6,H6,I6,q6⟩:=hq0;refine xgt hp (thn (hb _ s6 σ6 H6 _ I6 q6) fun f s7 q7=>?_);have again:∀{σ7:St} {H7:Hp},Inv X (aU++pinsAt fp s5.heap) σ7 H7 s7->N σ7 H7->∃m,m < n/\∃i σ' H',Inv X aU σ' H' s7/\tn i s7.heap/\(∀b∈fp,H' b=none)/\W i m σ' H':=fun {σ7 H7} I7 n7=>by
   obtain⟨m',hm,w7⟩:=hN σ7 H7 n7;refine⟨m',hm,i+1,σ7,H7,I7.unpinned,T.keep _ _ _ st5 fun b hb o e=>(I7.pin (b,o) (xde _ (xde _ (zgi hb e)))).1,fun b hb=>?_,w7⟩;obtain⟨o,e,d⟩:=T.obj _ _ st5 b hb;exact(I7.pin (b,o) (xde _ (xde _ (zgi hb e)))).2.1
  cases f with
  | next=>obtain⟨σ7,H7,I7,n7⟩:=q7;exact again I7 n7
  | cont=>obtain⟨σ7,H7,I7,n7⟩:=q7;exact again I7 n7
  | brk=>obtain⟨σ7,H7,I7,q7⟩:=q7;exact⟨σ7,H7,I7.unpinned,q7⟩
  | ret v=>obtain⟨x7,σ7,H7,I7,r7,q7⟩:=q7;exact⟨x7,σ7,H7,I7.unpinned,r7,q7⟩
end
noncomputable abbrev R2:=V->V->Hp->VK->Prop
noncomputable def OpR (X:Cx) (f:Value->Value->Sem Value) (r:R2):Prop :=
 ∀(aU:List (Addr×Obj)) (s:Shared) (σ:St) (H:Hp) (x y:V) (v u:Value) (Q:VK),Inv X aU σ H s->RelV x v->RelV y u->r x y H Q ->
  wpAny (model X.prog X.w) X.A (f v u) (EP X aU σ Q) X.xe s
noncomputable def CallR (X:Cx) (f:Value) (r:List V->Hp->VK->Prop):Prop :=
 ∀(aU:List (Addr×Obj)) (s:Shared) (σ:St) (H:Hp) (xs:List V) (us:List Value) (Q:VK),Inv X aU σ H s->Vals xs us->r xs H Q ->
  wpAny (model X.prog X.w) X.A (call f us) (EP X aU σ Q) X.xe s
noncomputable def TruR (X:Cx) (r:V->Hp->(Bool->Hp->Prop)->Prop):Prop :=
 ∀(aU:List (Addr×Obj)) (s:Shared) (σ:St) (H:Hp) (x:V) (v:Value) (Q:Bool->Hp->Prop),Inv X aU σ H s->RelV x v->r x H Q ->
  wpAny (model X.prog X.w) X.A (truthy v) (TP X aU σ Q) X.xe s
noncomputable def tOp (r:R2) (ta tb:TE):TE:=fun σ H Q=>ta σ H fun x H1=>tb σ H1 fun y H2=>r x y H2 Q
noncomputable def rI (C:Int->Int->Prop) (g:Int->Int->V):R2:=fun x y H Q=>∃i j,x=.int i/\y=.int j/\C i j/\Q (g i j) H
noncomputable def rI0 (g:Int->Int->V):R2:=fun x y H Q=>∃i j,x=.int i/\y=.int j/\Q (g i j) H
section
variable {X:Cx}{a b c:Expr}{ta tb tc:TE}{pos:Pos}
theorem binT (ha:PE X a ta)(hb:PE X b tb){aU:List (Addr×Obj)}{s:Shared}{σ:St}{H:Hp}{R:V->V->Hp->Prop}(I:Inv X aU σ H s)
  (h:ta σ H fun x H1=>tb σ H1 fun y H2=>R x y H2){Q:Value->Shared->Prop}{f:Value->Value->Sem Value}
  (hf:∀v u s2 x y H2,Inv X aU σ H2 s2->RelV x v->RelV y u->R x y H2->wpAny (model X.prog X.w) X.A (f v u) Q X.xe s2) :
  wpAny (model X.prog X.w) X.A (eval a X.env) (fun v s₁=>wpAny (model X.prog X.w) X.A (eval b X.env) (fun u s₂=>wpAny (model X.prog X.w) X.A (f v u) Q X.xe s₂) X.xe s₁) X.xe s:=by
 refine thn (ha aU s σ H _ I h) fun v s1 hq0=>?_
 obtain⟨x,H1,I1,r1,q1⟩:=hq0;refine thn (hb aU s1 σ H1 _ I1 q1) fun u s2 hq0=>?_
 obtain⟨y,H2,I2,r2,q2⟩:=hq0;exact hf v u s2 x y H2 I2 r1 r2 q2
theorem zbov {op:Operator}{r:R2}(ho:OpR X (binaryOp op) r)(ha:PE X a ta)(hb:PE X b tb):PE X (.BinOp a op b pos) (tOp r ta tb):=by
 intro aU s σ H Q I h;exact wpAny_BinOp (binT ha hb I h fun v u s2 x y H2 I2 rx ry q=>ho aU s2 σ H2 x y v u Q I2 rx ry q)
theorem opI {f:Value->Value->Sem Value}{C:Int->Int->Prop}{g:Int->Int->Int}
  (rule:∀(i j:Int) (t u:Tok) (s:Shared) (Q:Value->Shared->Prop) (E:Value->Shared->Prop),C i j->Q (.int (g i j) s.toks) {s with toks:=s.toks+1}->wpAny (model X.prog X.w) X.A (f (.int i t) (.int j u)) Q E s) :
  OpR X f (rI C fun i j=>.int (g i j)):=by
 intro aU s σ H x y v u Q I rx ry h;obtain⟨i,j,rfl,rfl,hc,q⟩:=h;obtain⟨t,rfl⟩:=rx;obtain⟨t',rfl⟩:=ry;exact rule i j t t' s _ _ hc ⟨.int (g i j),H,I.tok _,⟨_,rfl⟩,q⟩
theorem opI0 {f:Value->Value->Sem Value}{g:Int->Int->Int}
  (rule:∀(i j:Int) (t u:Tok) (s:Shared) (Q:Value->Shared->Prop) (E:Value->Shared->Prop),Q (.int (g i j) s.toks) {s with toks:=s.toks+1}->wpAny (model X.prog X.w) X.A (f (.int i t) (.int j u)) Q E s) :
  OpR X f (rI0 fun i j=>.int (g i j)):=by
 intro aU s σ H x y v u Q I rx ry h;obtain⟨i,j,rfl,rfl,q⟩:=h;obtain⟨t,rfl⟩:=rx;obtain⟨t',rfl⟩:=ry;exact rule i j t t' s _ _ ⟨.int (g i j),H,I.tok _,⟨_,rfl⟩,q⟩
theorem opB0 {f:Value->Value->Sem Value}{g:Int->Int->Bool}
  (rule:∀(i j:Int) (t u:Tok) (s:Shared) (Q:Value->Shared->Prop) (E:Value->Shared->Prop),Q (.bool (g i j)) s->wpAny (model X.prog X.w) X.A (f (.int i t) (.int j u)) Q E s) :
  OpR X f (rI0 fun i j=>.bl (g i j)):=by
 intro aU s σ H x y v u Q I rx ry h;obtain⟨i,j,rfl,rfl,q⟩:=h;obtain⟨t,rfl⟩:=rx;obtain⟨t',rfl⟩:=ry;exact rule i j t t' s _ _ ⟨.bl (g i j),H,I,rfl,q⟩
noncomputable def CPow (i j:Int):Prop:=0<=j/\j<=1000000/\i.natAbs < 2 ^ 64
noncomputable def CMul (i j:Int):Prop:=(-(2 ^ 64) < i/\i < 2 ^ 64)\/(-(2 ^ 64) < j/\j < 2 ^ 64)
theorem CMul.ok {i j:Int}(h:CMul i j):IntMulOk i j:=by
 rcases h with⟨h1,h2⟩ | ⟨h1,h2⟩
 ·exact .of_left (intBits_le_64 h1 h2)
 ·exact .of_right (intBits_le_64 h1 h2)
theorem zbkt:OpR X (binaryOp .Add) (rI0 fun i j=>.int (i+j)):=opI0 fun _ _ _ _ _ _ _ q=>add_int q
theorem zgf:OpR X (binaryOp .Sub) (rI0 fun i j=>.int (i - j)):=opI0 fun _ _ _ _ _ _ _ q=>sub_int q
theorem znb:OpR X (binaryOp .Mult) (rI CMul fun i j=>.int (i * j)):=opI fun _ _ _ _ _ _ _ hc q=>mul_int q hc.ok
theorem zrd:OpR X (binaryOp .Mod) (rI (fun _ j=>0 < j) fun i j=>.int (i % j)):=opI fun i j _ _ _ _ _ hc q=>by
 have h1:(0:Int) < j:=hc;exact mod_int' (by lia) (by rw[Int.fmod_eq_emod_of_nonneg i (by lia)];exact q)
theorem zbkq:OpR X (binaryOp .Pow) (rI CPow fun i j=>.int (i ^ j.toNat)):=opI fun _ _ _ _ _ _ _ hc q=>pow_int_small hc.1 hc.2.1 hc.2.2 q
theorem zbbl:OpR X (binaryOp .LShift) (rI CPow fun i j=>.int (i * 2 ^ j.toNat)):=opI fun _ _ _ _ _ _ _ hc q=>lshift_int_small hc.1 hc.2.1 hc.2.2 q
theorem zbft:OpR X (binaryOp .BitAnd) (rI0 fun i j=>.int (Builtin.bitAnd i j)):=opI0 fun _ _ _ _ _ _ _ q=>and_int q
theorem zbny:OpR X (binaryOp .BitOr) (rI0 fun i j=>.int (Builtin.bitOr i j)):=opI0 fun _ _ _ _ _ _ _ q=>or_int q
theorem zbbk:OpR X (binaryOp .BitXor) (rI0 fun i j=>.int (Builtin.bitXor i j)):=opI0 fun _ _ _ _ _ _ _ q=>xor_int q
theorem zboz:OpR X (compareOp .Lt) (rI0 fun i j=>.bl (decide (i < j))):=opB0 fun _ _ _ _ _ _ _ q=>lt_int q
theorem zbdr:OpR X (compareOp .LtE) (rI0 fun i j=>.bl (decide (i<=j))):=opB0 fun _ _ _ _ _ _ _ q=>le_int q
theorem zbiz:OpR X (compareOp .Gt) (rI0 fun i j=>.bl (decide (j < i))):=opB0 fun _ _ _ _ _ _ _ q=>gt_int q
theorem zbnz:OpR X (compareOp .GtE) (rI0 fun i j=>.bl (decide (j<=i))):=opB0 fun _ _ _ _ _ _ _ q=>ge_int q
theorem OpR.or {f:Value->Value->Sem Value}{r r':R2}(h:OpR X f r)(h':OpR X f r'):OpR X f (fun x y H Q=>r x y H Q\/r' x y H Q):=by
 intro aU s σ H x y v u Q I rx ry q;rcases q with q | q
 ·exact h aU s σ H x y v u Q I rx ry q
 ·exact h' aU s σ H x y v u Q I rx ry q
theorem nomark (b:Expr){op:CmpOp}(h:op≠.In:=by decide)(h2:op≠.NotIn:=by decide):behindInMarks op b=false:=by
 have e1:(op==CmpOp.In)=false:=by cases op<;>first | rfl | exact absurd rfl h
 have e2:(op==CmpOp.NotIn)=false:=by cases op<;>first | rfl | exact absurd rfl h2
 cases b<;>simp[behindInMarks,e1,e2]
theorem zbfk {op:CmpOp}{r:R2}(ho:OpR X (compareOp op) r)(ha:PE X a ta)(hb:PE X b tb)(hm:behindInMarks op b=false):PE X (.Compare a [op] [b] pos) (tOp r ta tb):=by
 intro aU s σ H Q I h;exact wpAny_Compare1 (binT ha hb I h fun v u s2 x y H2 I2 rx ry q=>ho aU s2 σ H2 x y v u Q I2 rx ry q) hm
noncomputable def tTest (t:TE):TT:=fun σ H Q=>t σ H fun x H'=>∃k,x=.bl k/\Q k H'
theorem zbes {op:CmpOp}{r:R2}(ho:OpR X (compareOp op) r)(ha:PE X a ta)(hb:PE X b tb)(hm:behindInMarks op b=false):PT X (.Compare a [op] [b] pos) (tTest (tOp r ta tb)):=by
 intro aU s σ H Q I h
 refine wpAny_isTrue_Compare1 (thn (ha aU s σ H _ I h) fun v s1 ⟨x,H1,I1,r1,q1⟩=>thn (hb aU s1 σ H1 _ I1 q1) fun u s2 ⟨y,H2,I2,r2,q2⟩ =>
  thn (ho aU s2 σ H2 x y v u _ I2 r1 r2 q2) fun c s3 ⟨z,H3,I3,r3,k,e,q3⟩=>?_) hm
 subst e;cases r3;exact xfz ⟨H3,I3,q3⟩
noncomputable def TruV (K:Fg) (x:V) (H:Hp) (k:Bool):Prop :=
 match x with
 | .non=>k=false
 | .bl b=>k=b
 | .int i=>k=(i != 0)
 | .str y=>y.length<=sizeLine/\k=((y.length:Int) != 0)
 | .byt y=>y.size<=sizeLine/\k=((y.size:Int) != 0)
 | .ref p=>(∃xs,SqL K H p xs/\k=!xs.isEmpty)\/(∃xs,SqT K H p xs/\k=!xs.isEmpty)\/∃kvs,H p=some (.dK kvs)/\k=!kvs.isEmpty
 | _=>False
theorem ztu {κ:Type}{kvs:List (κ×V)}{vs:List (κ×Value)}(r:KV kvs vs):(!vs.isEmpty)=!kvs.isEmpty:=by
 cases r<;>rfl
theorem zng {xs:List V}{its:List Value}(r:Vals xs its):(!its.toArray.isEmpty)=!xs.isEmpty:=by
 cases r<;>simp
theorem line63:(sizeLine:Nat) < 2 ^ 63:=by rw[xjg];decide
theorem zbjj:TruR X (fun x H Q=>∃k,TruV X.K x H k/\Q k H):=by
 intro aU s σ H x v Q I rx h;obtain⟨k,e,q⟩:=h;have hl:=line63;have hs:sizeLine=16777216:=xjg;cases x with
 | non =>
  cases rx;have e':k=false:=e;subst e';exact truthy_none ⟨H,I,q⟩
 | bl b =>
  cases rx;have e':k=b:=e;subst e';exact xfz ⟨H,I,q⟩
 | int i =>
  obtain⟨t,rfl⟩:=rx;have e':k=(i != 0):=e;subst e';exact PySem.P.truthy_int ⟨H,I,q⟩
 | str y =>
  obtain⟨t,rfl⟩:=rx;obtain⟨hy,e'⟩:y.length<=sizeLine/\k=((y.length:Int) != 0):=e;subst e';exact PySem.P.truthy_str (by lia) ⟨H,I.tok _,q⟩
 | byt y =>
  obtain⟨t,rfl⟩:=rx;obtain⟨hy,e'⟩:y.size<=sizeLine/\k=((y.size:Int) != 0):=e;subst e';exact W.truthy_bytes (by lia) ⟨H,I.tok _,q⟩
 | ref p =>
  cases rx;have e':(∃xs,SqL X.K H p xs/\k=!xs.isEmpty)\/(∃xs,SqT X.K H p xs/\k=!xs.isEmpty)\/∃kvs,H p=some (.dK kvs)/\k=!kvs.isEmpty:=e
  rcases e' with⟨xs,hx,e'⟩ | ⟨xs,hx,e'⟩ | ⟨kvs,hx,e'⟩
  ·subst e';obtain⟨its,r,pl,hz⟩:=I.list hx;have hlen:=r.length;exact wpAny_truthy_list pl.isList (by simp only[xbs];lia) ⟨H,I.tok _,by rw[zng r];exact q⟩
  ·subst e';obtain⟨its,r,pl,hz⟩:=I.tuple hx;have hlen:=r.length;exact truthy_tuple pl (by simp only[xbs];lia) ⟨H,I.tok _,by rw[zng r];exact q⟩
  ·subst e';obtain⟨hz,hS,vs,r,m⟩:kvs.length<=sizeLine/\(p==sysModules)=false/\∃vs,KV kvs vs/\s.heap.DictOf (mixKind X.prog X.w) p vs:=I.hok p _ hx
   have hlen:kvs.length=vs.length:=xhk r;exact wpAny_truthy_dict hS m (by lia) ⟨H,I.tok _,by rw[ztu r];exact q⟩
 | _=>exact(show False from e).elim
theorem zbaq (ha:PE X a ta)(he:∀whole,isTrue a X.env whole=(do let v ← whole;standAt a.pos;holding [v] (truthy v))) :
  PT X a (fun σ H Q=>ta σ H fun x H'=>∃k,TruV X.K x H' k/\Q k H'):=by
 intro aU s σ H Q I h;exact isTrue_plain (thn (ha aU s σ H _ I h) fun v s1 ⟨x,H1,I1,r1,q1⟩=>zbjj aU s1 σ H1 x v Q I1 r1 q1) (he _)
theorem ztc:OpR X (binaryOp .Add) (fun x y H Q=>∃i j,x=.str i/\y=.str j/\i.length+j.length<=sizeLine/\Q (.str (i++j)) H):=by
 intro aU s σ H x y v u Q I rx ry h;obtain⟨i,j,rfl,rfl,hz,q⟩:=h;obtain⟨t,rfl⟩:=rx;obtain⟨t',rfl⟩:=ry;exact add_str (fun t' tk=>⟨.str (i++j),H,I.tok _,⟨_,rfl⟩,q⟩) hz
theorem vals1 {x:V}{us:List Value}(r:Vals [x] us):∃u,us=[u]/\RelV x u:=by
 cases r with
 | cons r1 r2=>cases r2;exact⟨_,rfl,r1⟩
theorem vals2 {x y:V}{us:List Value}(r:Vals [x,y] us):∃u w',us=[u,w']/\RelV x u/\RelV y w':=by
 cases r with
 | cons r1 r2 =>
  cases r2 with
  | cons r3 r4=>cases r4;exact⟨_,_,rfl,r1,r3⟩
theorem zbde:CallR X (.builtin "abs") (fun xs H Q=>∃ i, xs=[.int i]/\Q (.int (if i < 0 then -i else i)) H):=by
 intro aU s σ H xs us Q I r h;obtain⟨i,rfl,q⟩:=h;obtain⟨u,rfl,t,rfl⟩:=vals1 r;exact call_abs_int fun u tk=>⟨.int (if i < 0 then -i else i),H,I.tok _,⟨_,rfl⟩,q⟩
theorem zmh (hc:X.calm=true):CallR X (.builtin "min") (fun xs H Q=>∃ i j, xs=[.int i, .int j]/\Q (.int (if j < i then j else i)) H):=by
 intro aU s σ H xs us Q I r h;obtain⟨i,j,rfl,q⟩:=h;obtain⟨u,w',rfl,⟨t,rfl⟩,⟨t',rfl⟩⟩:=vals2 r;refine min_two_ints (I.ok.hd hc) fun h' tk k=>⟨_,H,I.kept k,?_,q⟩
 by_cases hj:j < i
 ·rw[if_pos hj,if_pos hj];exact⟨_,rfl⟩
 ·rw[if_neg hj,if_neg hj];exact⟨_,rfl⟩
theorem zyd:CallR X (.type "int") (fun xs H Q=>(∃ i, xs=[.int i]/\Q (.int i) H)\/∃ k, xs=[.bl k]/\Q (.int (if k then 1 else 0)) H):=by
 intro aU s σ H xs us Q I r h;rcases h with⟨i,rfl,q⟩ | ⟨k,rfl,q⟩
 ·obtain⟨u,rfl,t,rfl⟩:=vals1 r;exact call_int_int ⟨.int i,H,I,⟨_,rfl⟩,q⟩
 ·obtain⟨u,rfl,r1⟩:=vals1 r;cases r1;exact call_int_bool ⟨.int (if k then 1 else 0),H,I.tok _,⟨_,rfl⟩,q⟩
end
structure ObjM (h:Heap) (x dx C:Addr) (mA:Str->Option Value):Prop where
 obj:h.get? x=some (W.instObj C dx)
 ns:h.Ns1 dx mA
 ne:dx≠x
theorem zwz {h:Heap}{dx:Addr}{mA:Str->Option Value}(n:h.Ns1 dx mA):∃od,h.get? dx=some od/\∀name,W.lookIn name od=some (mA name):=by
 obtain⟨o,es,ep,ho,hd,hk,_,hm⟩:=n;refine⟨o,ho,fun name=>?_⟩;have e:=hm name;unfold nsFind findBy at e;rw[← Array.find?_toList] at e;unfold W.lookIn;rw[hd];dsimp only;split
 ·rename_i y q;rw[q] at e;exact congrArg some e
 ·rename_i q;rw[q] at e;have a:es.toList.any (·.refKey)=false:=by
   rw[List.any_eq_false];intro y hy;obtain⟨z,t,hkey⟩:=hk y (Array.mem_toList_iff.mp hy);simp[DictEntry.refKey,hkey]
  have a':¬ es.toList.any (·.refKey)=true:=by rw[a];exact xeq
  rw[if_neg a'];exact congrArg some e
theorem ObjM.look {h:Heap}{x dx C:Addr}{mA:Str->Option Value}(I:ObjM h x dx C mA):∃od,W.InstAt h x (W.instObj C dx) C (some od)/\∀name,W.lookIn name od=some (mA name) :=
 let ⟨od,ho,hl⟩:=zwz I.ns
 ⟨od,⟨I.obj,rfl,rfl,ho⟩,hl⟩
section
variable {prog:Program}{w:World}{A:Around}{E:Value->Shared->Prop}{s:Shared}{K:Fg}{x dx C f:Addr}{mA:Str->Option Value}{name:Str}{v:Value}
end
theorem RelO.some_of {v:V}{o:Option Value}(r:RelO (some v) o):∃u,o=some u/\RelV v u:=by
 cases o with
 | none=>exact(show False from r).elim
 | some u=>exact⟨u,rfl,r⟩
section
variable {P:Program}{w:World}{H H':Hp}{h h':Heap}{a C dx:Addr}{fs fs':List (Str×V)}
theorem zbgn (hok:HOk P w H h)(e:H a=some (.ins C dx fs)):∃mA,ObjM h a dx C mA/\(∀f,RelO (fs.lookup f) (mA f))/\PySem.Within mA (fs.map (·.1))/\fs.length<=1000/\H dx=some (.own a):=by
 obtain⟨d,z,ne,ob,mA,n,r,q⟩:=(show ObjOk P w H h a (.ins C dx fs) from hok a _ e)
 exact⟨mA,⟨ob,n,ne⟩,r,q,z,d⟩
end
structure Cls (K:Fg) (C:Addr):Prop where
 pg:W.plainGet K C Str.empty=true
 hd:W.hasDictIn K C=true
 po:W.plainOver K C=true
 sa:W.findIn K (.ref C) "__setattr__"=some (some (.builtin "object.__setattr__"))
theorem Cls.get {K:Fg}{C:Addr}(c:Cls K C)(f:Str):W.plainGet K C f=true:=c.pg
section
variable {X:Cx}{aU:List (Addr×Obj)}{σ:St}{H:Hp}{s:Shared}{a C dx:Addr}{fs:List (Str×V)}{f:Str}{v:V}{A:Around}{E:Value->Shared->Prop}
end
section
variable {X:Cx}{o e value:Expr}{f:Str}{pos pos' tpos:Pos}{ta tv:TE}
end
section
variable {X:Cx}{aU:List (Addr×Obj)}{σ:St}{H:Hp}{s:Shared}{A:Around}{E:Value->Shared->Prop}{Q:Value->Shared->Prop}{c:Value}{b:Bool}
inductive TyOf (K:Fg) (H:Hp):V->Value->Prop where
 | non:TyOf K H .non (.type "NoneType")
 | bl (x:Bool):TyOf K H (.bl x) (.type "bool")
 | int (i:Int):TyOf K H (.int i) (.type "int")
 | str (x:Str):TyOf K H (.str x) (.type "str")
 | flt (x:UInt64):TyOf K H (.flt x) (.type "float")
 | lst {a:Addr} {xs:List V} (e:H a=some (.lst xs)):TyOf K H (.ref a) (.type "list")
 | frz {a:Addr} {o:Obj} {xs:List V} (e:H a=some (.frz o (.lst xs))):TyOf K H (.ref a) (.type "list")
 | tup {a:Addr} {xs:List V} (e:H a=some (.tup xs)):TyOf K H (.ref a) (.type "tuple")
 | dK {a:Addr} {kvs:List (Key×V)} (e:H a=some (.dK kvs)):TyOf K H (.ref a) (.type "dict")
 | dT {a:Addr} {kvs:List (List Key×V)} (e:H a=some (.dT kvs)):TyOf K H (.ref a) (.type "dict")
 | ins {a C dx:Addr} {fs:List (Str×V)} (e:H a=some (.ins C dx fs)) (cl:Cls K C) (ha:W.findIn K (.ref C) "__class__"=some (some (.builtin "object.__class__")))
  (hn:W.specialIn K (.builtin "object.__class__") "__get__"=some (some (.builtin "getset_descriptor.__get__")))(htk:W.takesIn K (.builtin "object.__class__")=some true)
  (hm:W.mroIn K C (.type "object")=some true):TyOf K H (.ref a) (.ref C)
theorem zxj {x:V}{u t:Value}(I:Inv X aU σ H s)(rx:RelV x u)(ty:TyOf X.K H x t)(e:W.kitOne X.K t c=some b)(h:∀tk,Q (.bool b) {s with toks:=tk}) :
  wpAny (model X.prog X.w) A (call (.builtin "isinstance") [u, c]) Q E s:=by
 cases ty with
 | non=>cases(show u=Value.none from rx);exact xej W.kitx_none I.kIn True.intro e (fun z=>nomatch z) h
 | bl y=>cases(show u=Value.bool y from rx);exact xej W.kitx_bool I.kIn True.intro e (fun z=>nomatch z) h
 | int i=>obtain⟨t,q⟩:=(show ∃t,u=Value.int i t from rx);cases q;exact xej W.kitx_int I.kIn True.intro e (fun z=>nomatch z) h
 | str y=>obtain⟨t,q⟩:=(show ∃t,u=Value.str y t from rx);cases q;exact xej W.kitx_str I.kIn True.intro e (fun z=>nomatch z) h
 | flt y=>obtain⟨t,q⟩:=(show ∃t,u=Value.float y t from rx);cases q;exact xej W.kitx_float I.kIn True.intro e (fun z=>nomatch z) h
 | @lst a xs ea =>
  cases(show u=Value.ref a from rx);obtain⟨_,_,n,_,h1⟩:=(show ObjOk X.prog X.w H s.heap a (.lst xs) from I.hok a _ ea)
  exact xej W.kitx_list I.kIn ⟨_,h1,rfl⟩ e (fun z=>nomatch z) h
 | @frz a ob xs ea =>
  cases(show u=Value.ref a from rx);obtain⟨_,_,_,n,_,h1⟩:=(show ObjOk X.prog X.w H s.heap a (.frz ob (.lst xs)) from I.hok a _ ea)
  exact xej W.kitx_list I.kIn ⟨_,h1,rfl⟩ e (fun z=>nomatch z) h
 | @tup a xs ea =>
  cases(show u=Value.ref a from rx);obtain⟨_,_,_,p⟩:=(show ObjOk X.prog X.w H s.heap a (.tup xs) from I.hok a _ ea)
  obtain⟨o,h1,h2,_⟩:=p;exact xej W.kitx_tuple I.kIn ⟨o,h1,h2⟩ e (fun z=>nomatch z) h
 | @dK a kvs ea =>
  cases(show u=Value.ref a from rx);obtain⟨_,_,vs,_,p⟩:=(show ObjOk X.prog X.w H s.heap a (.dK kvs) from I.hok a _ ea)
  obtain⟨o,es,ep,h1,h2,_⟩:=p;exact xej W.kitx_dict I.kIn ⟨o,h1,h2.1⟩ e (fun z=>nomatch z) h
 | @dT a kvs ea =>
  cases(show u=Value.ref a from rx);obtain⟨_,_,xs,_,o,es,ep,h1,h2,_⟩:=(show ObjOk X.prog X.w H s.heap a (.dT kvs) from I.hok a _ ea)
  exact xej W.kitx_dict I.kIn ⟨o,h1,h2.1⟩ e (fun z=>nomatch z) h
 | @ins a C dx fs ea cl ha hn htk hm =>
  cases(show u=Value.ref a from rx);obtain⟨mA,O,_⟩:=zbgn I.hok ea;obtain⟨od,J,_⟩:=O.look;exact xej (W.kitx_own (cl.get _) cl.hd ha hn htk hm) I.kIn J e (fun z=>nomatch z) h
end
structure Room (k:Nat) (A:Around):Prop where
 hd:A.handled=none
 dp:A.depth+3 * k+5 < recursionLimit
 un:A.units+16 * k+200 < cLine
theorem Room.mono {j k:Nat}{A:Around}(r:Room k A)(h:j<=k):Room j A:=⟨r.hd,by have:=r.dp;lia,by have:=r.un;lia⟩
theorem Room.deeper {k:Nat}{A:Around}(r:Room (k+1) A)(env:Env):Room k (A.deeper env) :=
 ⟨r.hd,by have:=r.dp;show A.depth+1+3 * k+5 < _;lia,by have:=r.un;show A.units+3+16 * k+200 < _;lia⟩
theorem Room.depth {k:Nat}{A:Around}(r:Room k A):A.depth < recursionLimit:=by have:=r.dp;lia
theorem Room.units {k:Nat}{A:Around}(r:Room k A):A.units+64 < cLine:=by have:=r.un;lia
theorem Room.units0 {k:Nat}{A:Around}(r:Room k A):A.units < cLine:=by have:=r.un;lia
noncomputable def tNil:TA:=fun _ H Q=>Q [] H
noncomputable def tCons (ta:TE) (tr:TA):TA:=fun σ H Q=>ta σ H fun x H1=>tr σ H1 fun xs H2=>Q (x::xs) H2
section
variable {X:Cx}{e:Expr}{es:List Expr}{te:TE}{t:TA}{pos:Pos}
theorem zbko:PA X [] tNil:=fun _ _ _ _ H Q I h=>xjb ⟨[],H,I,.nil,h⟩
theorem zbfo (ha:PE X e te)(hr:PA X es t)(hs:starEach (e::es) X.env=(false,eval e X.env)::starEach es X.env:=by rfl):PA X (e::es) (tCons te t):=by
 intro pos aU s σ H Q I h;rw[hs];show wpAny _ _ (spliced ((false,eval e X.env)::backTo pos (starEach es X.env))) _ _ s;refine xhm (thn (ha aU s σ H _ I h) fun u s1 hq0=>?_);obtain⟨x,H1,I1,r1,q1⟩:=hq0;exact thn (hr pos aU s1 σ H1 _ I1 q1) fun us s2 ⟨xs,H2,I2,r2,q2⟩=>⟨x::xs,H2,I2,.cons r1 r2,q2⟩
noncomputable def tTup (t:TA):TE:=fun σ H Q=>t σ H fun xs H1=>xs.length<=sizeLine/\∀p,H1 p=none->Q (.ref p) (upd H1 p (.tup xs))
noncomputable def tLst (t:TA):TE:=fun σ H Q=>t σ H fun xs H1=>xs.length<=sizeLine/\∀p,H1 p=none->Q (.ref p) (upd H1 p (.lst xs))
theorem zbki {x1}(h:PA X es t):PE X (.Tuple es x1 pos) (tTup t):=by
 intro aU s σ H Q I hq;refine wpAny_Tuple_spliced (thn (h pos aU s σ H _ I hq) fun us s1 ⟨xs,H1,I1,r,z,q⟩=>⟨by rw[← r.length];exact z,?_⟩);have hf:H1 s1.heap.objs.size=none:=I1.hok.fresh (xbe _);refine⟨.ref s1.heap.objs.size,upd H1 s1.heap.objs.size (.tup xs),I1.laid (t':=s1.toks) (fun b u e=>xbd _ e) (xbe _) ?_,rfl,q _ hf⟩;exact⟨z,us,r,⟨_,xbw _ rfl,rfl,_,rfl⟩⟩
theorem zbfj (h:PA X es t):PE X (.List es pos) (tLst t):=by
 intro aU s σ H Q I hq;refine wpAny_List_spliced (thn (h pos aU s σ H _ I hq) fun us s1 ⟨xs,H1,I1,r,z,q⟩=>⟨by rw[← r.length];exact z,?_⟩);have hf:H1 s1.heap.objs.size=none:=I1.hok.fresh (xbe _);refine⟨.ref s1.heap.objs.size,upd H1 s1.heap.objs.size (.lst xs),I1.laid (t':=s1.toks) (fun b u e=>xbd _ e) (xbe _) ?_,rfl,q _ hf⟩;exact⟨z,us,0,r,xbw _ rfl⟩
end
noncomputable abbrev Sp:=List V->Hp->VK->XK->Prop
noncomputable abbrev CXT:=List Env->Hp->Shared->XK->Value->Shared->Prop
structure Env0 (P:Program) (w:World) (K:Fg) (mg:Str->Option Value) (base:Heap) (A:Around) (outer:List Env) (s:Shared) (H:Hp):Prop where
 frames:A.frames=some outer
 mod:Mod K mg base
 bs:∀b o,base.get? b=some o->s.heap.get? b=some o/\H b=none
 bsz:base.objs.size<=s.heap.objs.size
 funs:s.heap.FunFrames base outer
 frf:∀b∈frs outer,H b=none
 hok:HOk P w H s.heap
 bare:AllBare s.gens
noncomputable def CE (outer:List Env) (P:Program) (w:World) (H:Hp) (s:Shared) (Q:VK) (u:Value) (s':Shared):Prop :=
 ∃v H',s'.os=s.os/\AllBare s'.gens/\Un (frs outer) [] H H' s.heap s'.heap/\HOk P w H' s'.heap/\RelV v u/\Q v H'
noncomputable def CR (CX:CXT) (outer:List Env) (P:Program) (w:World) (H:Hp) (s:Shared) (Q:VK) (E:XK) (r:Result) (s':Shared):Prop :=
 match r with
 | .ok (.ret u)=>CE outer P w H s Q u s'
 | .ok _=>False
 | .error e=>CX outer H s E e s'
structure FnOk (P:Program) (w:World) (K:Fg) (mg:Str->Option Value) (base:Heap) (CX:CXT) (k:Nat) (f:Addr) (fd:FuncData) (ps:List Str) (sp:Sp):Prop where
 len:∀vs H Q E,sp vs H Q E->vs.length=ps.length
 run:∀(A:Around) (outer:List Env) (s:Shared) (H:Hp) (args:Args) (us:List Value) (vs:List V) (Q:VK) (E:XK),Room k A->Env0 P w K mg base A outer s H->BindsTo s fd args (ps.zip us)->Vals vs us->sp vs H Q E ->
  codeAny (model P w) A (.call (.ref f) args) (CR CX outer P w H s Q E) s
section
variable {X:Cx}{aU:List (Addr×Obj)}{σ:St}{H:Hp}{s s':Shared}
theorem Inv.env0 (I:Inv X aU σ H s):Env0 X.prog X.w X.K X.mg X.base X.A X.stack s H :=
 ⟨I.ok.frames,I.ok.mod,I.bs,xbb I.ok.bsz I.sz,I.stack,I.stkFree,I.hok,I.bare⟩
theorem Inv.after {Q:VK}{u:Value}(I:Inv X aU σ H s)(h:CE X.stack X.prog X.w H s Q u s'):EP X aU σ Q u s':=by
 obtain⟨v,H',os,bare,un,hok,r,q⟩:=h;obtain⟨hh,g,d,t,os'⟩:=s';obtain rfl:os'=s.os:=os;exact⟨v,H',I.call (h':=hh) (g':=g) (d':=d) (t':=t) (ch:=[]) un hok bare (fun b z=>absurd z (by simp)),r,q⟩
end
noncomputable def tCall (sp:Sp) (dvs:List V) (E:XK) (t:TA):TE:=fun σ H Q=>t σ H fun vs H1=>sp (vs++dvs) H1 Q E
noncomputable def Binds (K:Fg) (fd:FuncData) (ps:List Str) (ds:List Value):Prop :=
 ∀(s:Shared) (us:List Value),K.In s.heap->(us++ds).length=ps.length->BindsTo s fd ⟨us,[]⟩ (ps.zip (us++ds))
theorem Binds.all {K:Fg}{fd:FuncData}{ps:List Str}(h:∀us:List Value,us.length=ps.length->bindArgs fd ⟨us,[]⟩=pure (ps.zip us)):Binds K fd ps []:=fun s us _ hl=>by
 rw[xdp] at hl ⊢;exact .of_eq (h us hl)
noncomputable def Passes (CX:CXT) (X:Cx) (E:XK):Prop:=∀(aU:List (Addr×Obj)) (σ:St) (H:Hp) (s:Shared) (e:Value) (s':Shared),Inv X aU σ H s->CX X.stack H s E e s'->X.xe e s'
section
variable {X:Cx}{CX:CXT}{k:Nat}{f C:Addr}{fd:FuncData}{ps:List Str}{sp:Sp}{dvs:List V}{ds:List Value}{E:XK}{x m:Str}{p pos apos:Pos}{e o:Expr}{es:List Expr}{ta:TE}{t:TA}
theorem zbju {aU:List (Addr×Obj)}{σ:St}{H:Hp}{s:Shared}{Q:VK}{us:List Value}{vs:List V}(F:FnOk X.prog X.w X.K X.mg X.base CX k f fd ps sp)(hr:Room k X.A)(hb:Binds X.K fd ps ds)(hd:Vals dvs ds)(hx:Passes CX X E)
  (I:Inv X aU σ H s)(r:Vals vs us)(h:sp (vs++dvs) H Q E):wpAny (model X.prog X.w) X.A (call (.ref f) us) (EP X aU σ Q) X.xe s:=by
 have r2:Vals (vs++dvs) (us++ds):=r.append hd;have hl:(us++ds).length=ps.length:=by rw[← r2.length];exact F.len _ _ _ _ h
 refine wpAny_call (codeAny_mono (F.run X.A X.stack s H ⟨us,[]⟩ (us++ds) (vs++dvs) Q E hr I.env0 (hb s us I.kIn hl) r2 h) fun r s' hq=>?_);cases r with
 | error e=>exact hx aU σ H s e s' I hq
 | ok fl =>
  cases fl with
  | ret u=>exact I.after hq
  | next=>exact False.elim hq
  | brk=>exact False.elim hq
  | cont=>exact False.elim hq
theorem zbfl (F:FnOk X.prog X.w X.K X.mg X.base CX k f fd ps sp)(hr:Room k X.A)(hg:Gl X x)(hm:X.mg x=some (.ref f))(hk:W.keepIn X.K (.ref f)=true)(hb:Binds X.K fd ps ds)(hd:Vals dvs ds)(hx:Passes CX X E)
  (ha:PA X (e::es) t)(hdb:(x==("__debug__" : Str))=false:=by decide)(he:starEach (e::es) X.env=(false, eval e X.env)::starEach es X.env:=by rfl)(hpl:(backTo pos (starEach es X.env)).any (·.1)=false:=by rfl) :
  PE X (.Call (.Name x p) (e::es) [] pos) (tCall sp dvs E t):=by
 intro aU s σ H Q I h;refine xis (zza I hg hm ?_ hdb);refine W.callWith_K (h₀:=X.base) I.ok.mod.kin hk (thn (ha pos aU s σ H _ I h) fun us s1 ⟨vs,H1,I1,r,q⟩=>⟨I1.kIn,?_⟩) he hpl;exact zbju F hr hb hd hx I1 r q
end
section
variable {X:Cx}{CX:CXT}{k:Nat}{f C:Addr}{fd:FuncData}{ps ks:List Str}{sp:Sp}{E:XK}{x m:Str}{p pos apos kpos:Pos}{e o:Expr}{es:List Expr}{kws:List Keyword}{te ta:TE}{t tk:TA}{nm:Option Str}
variable {g:List Value->List Value->List Value}{gV:List V->List V->List V}
end
structure FnScope (N P:List Str) (sc:Scope):Prop where
 kind:sc.kind=.function
 co:sc.isCoroutine=false
 gen:sc.isGenerator=false
 nd:N.Nodup
 pre:N.take P.length=P
 par:∀x∈P,sc.names.lookup x=some .local\/sc.names.lookup x=some .cell
 nofree:∀y∈sc.names,y.2≠.free
theorem zqo {kindOf:Str->Option NameKind}{x:Str}:∀{binds:List (Str×Value)} {m:Str->Option Value},(∀v,(x,v)∉binds)->bindL kindOf binds m x=m x
 | [],_,_=>rfl
 | (n,v)::r,m,h=>by
  unfold bindL;rw[zqo fun w hw=>h w (xbp _ hw)];split
  ·have:x≠n:=by rintro rfl;exact h v xbn
   simp[this]
  ·rfl
theorem zqq {kindOf:Str->Option NameKind}{x:Str}:∀{binds:List (Str×Value)} {m:Str->Option Value},(∀v,(x,v)∉binds)->bindC kindOf binds m x=m x
 | [],_,_=>rfl
 | (n,v)::r,m,h=>by
  unfold bindC;rw[zqq fun w hw=>h w (xbp _ hw)];split
  ·rfl
  ·have:x≠n:=by rintro rfl;exact h v xbn
   simp[this]
theorem zqp {kindOf:Str->Option NameKind}{x:Str}{v:Value}:∀{P:List Str} {vs:List Value} {i:Nat} {m:Str->Option Value},P.Nodup->P[i]?=some x->vs[i]?=some v->kindOf x=some .local ->
  bindL kindOf (P.zip vs) m x=some v
 | [],_,_,_,_,h,_,_=>by simp at h
 | _::_,[],_,_,_,_,h,_=>by simp at h
 | p::P,w::vs,0,m,nd,h1,h2,hk=>by
  simp at h1 h2;subst h1;subst h2
  show bindL kindOf ((p,w)::P.zip vs) m p=_;unfold bindL;rw[zqo fun v hv=>(xhn.mp nd).1 (xlk hv).1,if_pos hk];simp
 | p::P,w::vs,i+1,m,nd,h1,h2,hk=>by
  show bindL kindOf ((p,w)::P.zip vs) m x=_;unfold bindL;exact zqp (i:=i) (xhn.mp nd).2 (by simpa using h1) (by simpa using h2) hk
theorem zqr {kindOf:Str->Option NameKind}{x:Str}{v:Value}:∀{P:List Str} {vs:List Value} {i:Nat} {m:Str->Option Value},P.Nodup->P[i]?=some x->vs[i]?=some v->kindOf x≠some .local ->
  bindC kindOf (P.zip vs) m x=some v
 | [],_,_,_,_,h,_,_=>by simp at h
 | _::_,[],_,_,_,_,h,_=>by simp at h
 | p::P,w::vs,0,m,nd,h1,h2,hk=>by
  simp at h1 h2;subst h1;subst h2
  show bindC kindOf ((p,w)::P.zip vs) m p=_;unfold bindC;rw[zqq fun v hv=>(xhn.mp nd).1 (xlk hv).1,if_neg hk];simp
 | p::P,w::vs,i+1,m,nd,h1,h2,hk=>by
  show bindC kindOf ((p,w)::P.zip vs) m x=_;unfold bindC;exact zqr (i:=i) (xhn.mp nd).2 (by simpa using h1) (by simpa using h2) hk
noncomputable def start (N:List Str) (vs:List V):St:=vs.map some++List.replicate (N.length - vs.length) none
noncomputable def cxOf (CX:CXT) (P:Program) (w:World) (K:Fg) (mg:Str->Option Value) (base:Heap) (N:List Str) (qual:Str) (scope:Scope) (f:Addr) (cd:Value) (A:Around) (outer:List Env) (s:Shared) (H:Hp) (E:XK):Cx where
 prog:=P
 w:=w
 K:=K
 mg:=mg
 base:=base
 A:=A.deeper (envOfC qual scope s.heap.objs.size f cd)
 N:=N
 s₀:=s
 H₀:=H
 env:=envOfC qual scope s.heap.objs.size f cd
 outer:=outer
 stack:=envOfC qual scope s.heap.objs.size f cd::outer
 ex:=[]
 calm:=true
 fn:=fun _=>true
 pn:=[]
 xe:=fun e s'=>wpAny (model P w) (A.deeper (envOfC qual scope s.heap.objs.size f cd)) (leaving (envOfC qual scope s.heap.objs.size f cd) e) (fun _ s''=>CX outer H s E e s'') (fun e' s''=>CX outer H s E e' s'') s'
theorem zuq {sc:Scope}{n:Nat}{x:Str}(h:sc.names.lookup x=some .cell):∃c,(cellsFrom n sc.names []).lookup x=some c:=by
 have q:=W.cellsFrom_some sc.names n [] (.inl h);exact Option.isSome_iff_exists.mp q
theorem zxl {CX:CXT}{P:Program}{w:World}{K:Fg}{mg:Str->Option Value}{base:Heap}{N ps:List Str}{qual:Str}{scope:Scope}{f:Addr}{cd:Value}{A:Around}{outer:List Env}{s s1:Shared}{H:Hp}{E:XK}{us:List Value}{vs:List V}
  (S:FnScope N ps scope)(hd:A.handled=none)(e0:Env0 P w K mg base A outer s H)(hl:vs.length=ps.length)(r:Vals vs us)
  (x:InCallC s s.heap.objs.size (bindL (envOfC qual scope s.heap.objs.size f cd).kindOf (ps.zip us) fun _=>none) (cellsFrom (s.heap.objs.size+1) scope.names []) (bindC (envOfC qual scope s.heap.objs.size f cd).kindOf (ps.zip us) fun _=>none) s1) :
  Inv (cxOf CX P w K mg base N qual scope f cd A outer s H E) [] (start N vs) H s1:=by
 have hpl:ps.length<=N.length:=by have:=congrArg List.length S.pre;rw[xcq] at this;lia
 obtain⟨h1,tk,rfl,hk⟩:=x.done;have noA:∀b:Addr,b∉(cxOf CX P w K mg base N qual scope f cd A outer s H E).ex:=fun b z=>absurd (show b∈([]:List Addr) from z) (by simp)
 refine⟨⟨e0.mod,S.kind,rfl,rfl,xbe _,fun y z c h1 h2=>?_,fun y hy=>?_,fun y c _ h=>?_,fun _=>hd,Around.frames_deeper e0.frames,.inr ⟨rfl,rfl⟩,fun b z=>absurd z (noA b),e0.bs,e0.bsz,fun b _ _=>noA b,fun b z=>absurd z (noA b),e0.funs,e0.frf⟩,
  rfl,e0.bare,Un.kept hk,⟨_,x.toInCall.ns,fun i y v h1 h2 h3=>?_⟩,fun y c h=>⟨_,x.cell y c h⟩,e0.hok.fresh (xbe _),fun y c h=>?_,fun p hp=>absurd (show p∈([]:List (Addr×Obj)) from hp) (by simp),e0.hok.kept hk,?_,Hnd.none hd⟩
 ·exact name_of_addr x.apart (xgc h1) (xgc h2)
 ·have hy:scope.names.lookup y=some .cell\/scope.names.lookup y=some .free:=hy;rcases hy with hy | hy
  ·exact zuq hy
  ·exact absurd rfl (S.nofree _ (xgc hy))
 ·exact xbr (x.above y c (xgc h))
 ·have hi:i < vs.length:=by
   unfold start at h2;by_cases hi:i < vs.length
   ·exact hi
   ·rw[xco (by simpa using hi)] at h2;rw[List.getElem?_replicate] at h2;split at h2<;>cases h2
  have ha:vs[i]?=some v:=by
   unfold start at h2;rw[xbz (by simpa using hi),xcv] at h2;cases e:vs[i]? with
   | none=>rw[e] at h2;cases h2
   | some a=>rw[e] at h2;cases h2;rfl
  obtain⟨u,hu,rv⟩:=r.get ha;have hp:ps[i]?=some y:=by
   rw[← S.pre,List.getElem?_take_of_lt (by lia)];exact h1
  have ndP:ps.Nodup:=by rw[← S.pre];exact S.nd.sublist (xkv _ _)
  refine⟨u,rv,?_⟩;rcases S.par y (xbq hp) with k | k
  ·exact .inl ⟨k,zqp ndP hp hu k⟩
  ·obtain⟨c,e⟩:=zuq (n:=s.heap.objs.size+1) k;refine .inr ⟨.inl k,c,e,?_⟩;have q:=x.cell y c e;rw[zqr ndP hp hu (by show scope.names.lookup y≠_;rw[k];decide)] at q;exact q
 ·exact e0.hok.fresh (xbr (x.above y c (xgc h)))
 ·unfold start;show _=N.length;rw[xbl,xbc,xgp];lia
theorem zbpi {CX:CXT}{P:Program}{w:World}{K:Fg}{mg:Str->Option Value}{base:Heap}{k:Nat}{f:Addr}{name qual:Str}{params:Arguments}{body:List Stmt}{scope:Scope}{dV kV doc pm cdv ct oc:Value}{an od:Option Addr}
  {osl:Array (Option Value)}{N ps:List Str}{sp:Sp}(lk:K.lookup f=some ⟨oc,od,.func (W.fnOf name qual params body scope dV kV doc pm an cdv ct),osl⟩)(hcd:W.codeIn K cdv qual=true)(S:FnScope N ps scope)
  (len:∀vs H Q E,sp vs H Q E->vs.length=ps.length)
  (hbody:∀(A:Around) (outer:List Env) (s:Shared) (H:Hp) (vs:List V) (Q:VK) (E:XK),Room k (A.deeper (envOfC qual scope s.heap.objs.size f cdv))->sp vs H Q E ->
   ∃t,PSs (cxOf CX P w K mg base N qual scope f cdv A outer s H E) body t/\t {nx:=fun _ H'=>Q .non H',rt:=Q} (start N vs) H) :
  FnOk P w K mg base CX (k+1) f (W.fnOf name qual params body scope dV kV doc pm an cdv ct) ps sp:=by
 refine⟨len,fun A outer s H args us vs Q E hr e0 hb r hsp=>?_⟩;have hl:=len _ _ _ _ hsp;have KX:K.In s.heap:=e0.mod.kin.keeps fun b o e=>(e0.bs b o e).1
 have lim:s.heap.NoLimit:=e0.mod.nolimit.keeps fun b o e=>(e0.bs b o e).1
 have hkind:∀y∈ps.zip us,scope.names.lookup y.1=some .local\/(scope.names.lookup y.1=some .cell/\((cellsFrom (s.heap.objs.size+1) scope.names []).lookup y.1).isSome=true):=fun hq0 hy=>by
  obtain⟨n,v⟩:=hq0;rcases S.par n (xlk hy).1 with q | q
  ·exact .inl q
  ·exact .inr ⟨q,W.cellsFrom_some _ _ _ (.inl q)⟩
 refine codeAny_call_function hr.depth (KX _ _ lk) rfl S.co S.gen rfl (W.codeRec_of KX hcd) (hb _ _ _ _ ?_);refine wpAny_newFunctionEnv_cells S.kind hkind fun env he s1 x=>?_
 subst he;refine⟨lim.keeps x.toInCall.keep,codeAny_func ?_⟩;obtain⟨t,ht,hq⟩:=hbody A outer s H vs Q E (hr.deeper _) hsp;have I:Inv (cxOf CX P w K mg base N qual scope f cdv A outer s H E) [] (start N vs) H s1:=zxl S hr.hd e0 hl r x;refine xef (ht [] s1 (start N vs) H _ I hq) (fun fl s' hs=>?_) fun e s' hs=>hs
 have fin:∀{σ':St} {H':Hp} {v:V} {u:Value},Inv (cxOf CX P w K mg base N qual scope f cdv A outer s H E) [] σ' H' s'->RelV v u->Q v H'->CE outer P w H s Q u s' :=
  fun {σ' H' v u} J rv q=>⟨v,H',J.os,J.bare,J.base,J.hok,rv,q⟩
 cases fl with
 | ret u =>
  obtain⟨v,σ',H',J,rv,q⟩:=hs;exact fin J rv q
 | next =>
  obtain⟨σ',H',J,q⟩:=hs;exact fin (v:=V.non) (u:=Value.none) J rfl q
 | brk =>
  obtain⟨_,_,_,q⟩:=hs;exact False.elim q
 | cont =>
  obtain⟨_,_,_,q⟩:=hs;exact False.elim q
section
variable {X:Cx}{x:Str}{p pos:Pos}{e:Expr}{es:List Expr}{t:TA}{id T:String}{r:List V->Hp->VK->Prop}
noncomputable def tCB (r:List V->Hp->VK->Prop) (t:TA):TE:=fun σ H Q=>t σ H fun vs H1=>r vs H1 Q
theorem zbbg (hc:CallR X (.builtin id) r)(hg:Gl X x)(hm:X.mg x=none)(hv:bootBuiltins x=some (.builtin id))(ha:PA X (e::es) t)(hn:x≠"__name__":=by decide)(hdb:(x==("__debug__" : Str))=false:=by decide)
  (he:starEach (e::es) X.env=(false,eval e X.env)::starEach es X.env:=by rfl)(hpl:(backTo pos (starEach es X.env)).any (·.1)=false:=by rfl):PE X (.Call (.Name x p) (e::es) [] pos) (tCB r t):=by
 intro aU s σ H Q I h;refine xis (zoq I hg hm hv ?_ hn hdb);exact PyProof.Rows.callWith_builtin1 (thn (ha pos aU s σ H _ I h) fun us s1 ⟨vs,H1,I1,r1,q1⟩=>hc aU s1 σ H1 vs us Q I1 r1 q1) he hpl
theorem zwm (hc:CallR X (.type T) r)(hg:Gl X x)(hm:X.mg x=none)(hv:bootBuiltins x=some (.type T))(ha:PA X (e::es) t)(hn:x≠"__name__":=by decide)(hdb:(x==("__debug__" : Str))=false:=by decide)
  (he:starEach (e::es) X.env=(false,eval e X.env)::starEach es X.env:=by rfl)(hpl:(backTo pos (starEach es X.env)).any (·.1)=false:=by rfl):PE X (.Call (.Name x p) (e::es) [] pos) (tCB r t):=by
 intro aU s σ H Q I h;refine xis (zoq I hg hm hv ?_ hn hdb);exact xfi (thn (ha pos aU s σ H _ I h) fun us s1 ⟨vs,H1,I1,r1,q1⟩=>hc aU s1 σ H1 vs us Q I1 r1 q1) he hpl
end
end L2
namespace HT
open PySem PyProof.Rows
noncomputable def lexLt:List Int->List Int->Bool
 | [],[]=>false
 | [],_::_=>true
 | _::_,[]=>false
 | x::xs,y::ys=>if x=y then lexLt xs ys else decide (x < y)
theorem zdl (x y:Int)(xs ys:List Int):lexLt (x::xs) (y::ys)=if x=y then lexLt xs ys else decide (x < y):=rfl
theorem zey:lexLt [] []=false:=rfl
theorem zcq (y:Int)(ys:List Int):lexLt [] (y::ys)=true:=rfl
theorem zea (x:Int)(xs:List Int):lexLt (x::xs) []=false:=rfl
theorem zbcg (A:Around)(s:Shared)(a:Int)(t:Tok)(c:Int)(u:Tok):∃e,SeqAt.EqAt A s (.int a t) (.int c u) e/\(e=true↔a=c) :=
 ⟨(a==c),SeqAt.EqAt.int_int a t c u,by simp⟩
theorem zban (A:Around)(s:Shared)(a:Int)(t:Tok)(c:Int)(u:Tok)(prog:Program)(w:World)(E:Value->Shared->Prop)(Q:Value->Shared->Prop)(h:Q (.bool (decide (a < c))) s) :
  wpAny (model prog w) A (richCompare .Lt (.int a t) (.int c u)) Q E s :=
 (PyProof.Rows.lt_int h:wpAny (model prog w) A (compareOp .Lt (.int a t) (.int c u)) Q E s)
section
open PySem.SeqAt
open PySem.AutoSeq1 (wpAny_loadPart')
open PySem.MeetsSeq PySem.MeetsSeq2 PySem.MeetsSeq3
theorem zhp (l b:Addr)(items items2:Array Value)(n n2:Nat)(dd dd2:Option Addr)(sl sl2:Array (Option Value))(ns ms:List Int)(hi:IntsAre items.toList ns)(hj:IntsAre items2.toList ms) :
  Meets (Builtin.«tuple.__lt__» ⟨[.ref l,.ref b],[]⟩)
   (fun _ R s=>s.heap.get? l=some { cls:=.type "tuple", dict:=dd, data:=.seq items n, slots:=sl }/\s.heap.get? b=some { cls:=.type "tuple", dict:=dd2, data:=.seq items2 n2, slots:=sl2 } /\
    R (.ok (.ret (.bool (lexLt ns ms)))) s) :=
 .of_wp fun prog w A R s h=>by
  obtain⟨hp,g,d,tk,os⟩:=s;obtain⟨hl,hb,h⟩:=h
  have f2:=AutoSeq1.sub_tuple_tuple;have z1:items.size=ns.length:=by rw[← hi.length];simp
  have z2:items2.size=ms.length:=by rw[← hj.length];simp
  wp_walk using wpAny_loadPart' hl,wpAny_loadPart' hb,wpAny_forIn_list _ (fun rest b s'=>b.1=none/\s'=⟨hp,g,d,tk,os⟩/\∃(vs ws:List Value) (ns' ms':List Int),rest=vs.zip ws /\
   IntsAre vs ns'/\IntsAre ws ms'/\ns'.length+items2.size=ms'.length+items.size/\R (.ok (.ret (.bool (lexLt ns' ms')))) ⟨hp,g,d,tk,os⟩) _
  case turn =>
   rintro⟨y,x⟩ rest b s' ⟨hb',rfl,vs,ws,ns',ms',hz,hvi,hwi,hlen,hR⟩;cases hvi with
   | nil=>rw[List.zip_nil_left] at hz;cases hz
   | cons a t hvi' =>
    cases hwi with
    | nil=>rw[List.zip_nil_right] at hz;cases hz
    | cons c u hwi' =>
     rw[xkj] at hz;injection hz with hyx hrest
     injection hyx with hy hx
     subst hy hx;rw[zdl] at hR;simp only[xcb] at hlen;obtain⟨e,he,hiff⟩:=zbcg A.in1 ⟨hp,g,d,tk,os⟩ a t c u;refine xba (he prog w _ _ ?_);cases e with
     | true =>
      rw[if_pos (hiff.mp rfl)] at hR
      wp_walk
      exact⟨rfl,rfl,_,_,_,_,hrest,hvi',hwi',by lia,hR⟩
     | false =>
      rw[if_neg (fun q=>absurd (hiff.mpr q) xeq)] at hR;have hri:=zban A.in1 ⟨hp,g,d,tk,os⟩ a t c u prog w
      wp_walk using hri
      exact⟨_,rfl,by simpa using hR⟩
  case fin =>
   rintro⟨b1,b2⟩ s' ⟨hb',rfl,vs,ws,ns',ms',hz,hvi,hwi,hlen,hR⟩;simp only at hb';subst hb';have hv:lexLt ns' ms'=decide (items.size < items2.size):=by
    cases hvi with
    | nil =>
     cases hwi with
     | nil =>
      simp only[xjr] at hlen;rw[zey];exact(xbv (by lia)).symm
     | cons c u hw =>
      simp only[xjr,xcb] at hlen;rw[zcq];exact(xbu (by lia)).symm
    | cons a t hv =>
     cases hwi with
     | nil =>
      simp only[xjr,xcb] at hlen;rw[zea];exact(xbv (by lia)).symm
     | cons c u hw =>
      rw[xkj] at hz;cases hz
   rw[hv] at hR
   wp_walk
   exact⟨_,rfl,by simpa [Builtin.Tuple.tupleCompareSizes] using hR⟩
  case h =>
   exact⟨rfl,rfl,items.toList,items2.toList,ns,ms,rfl,hi,hj,by lia,h⟩
end
section
variable {prog:Program}{w:World}{A:Around}{E:Value->Shared->Prop}{s:Shared}
theorem zne {l b:Addr}{items items2:Array Value}{ns ms:List Int}{Q:Value->Shared->Prop}(hl:IsTup s.heap l items)(hb:IsTup s.heap b items2)(hi:IntsAre items.toList ns)(hj:IntsAre items2.toList ms)
  (hu:A.units < cLine)(h:Q (.bool (lexLt ns ms)) s):wpAny (model prog w) A (compareOp .Lt (.ref l) (.ref b)) Q E s:=by
 obtain⟨⟨cls,dd,data,sl⟩,ho,hc,n,hd⟩:=id hl;obtain⟨⟨cls2,dd2,data2,sl2⟩,ho2,hc2,n2,hd2⟩:=id hb;simp only at hc hd hc2 hd2;subst hc hd hc2 hd2;exact richCompare_meets_room (op:=.Lt) ⟨_,ho,rfl⟩ ⟨_,ho2,rfl⟩ xjn F.entry_tuple_lt (F.args_tuple_lt_2 _ _) (zhp l b items items2 n n2 dd dd2 sl sl2 ns ms hi hj)
  ⟨ho,ho2,show Value.bool (lexLt ns ms)≠Value.notImplemented/\Q (.bool (lexLt ns ms)) s from⟨(fun x=>nomatch x),h⟩⟩ hu
theorem zbig {t b:Addr}{vs ws:List Value}{Q:Value->Shared->Prop}(ht:IsTup s.heap t vs.toArray)(hb:IsTup s.heap b ws.toArray)(hv:vs≠[])
  (h1:ws=[]->Q (.ref t) s)(h2:ws≠[]->Q (.ref s.heap.objs.size) { s with heap:=s.heap.push { cls:=.type "tuple", data:=.seq (vs++ws).toArray } })
  (hsz:vs.length+ws.length<=sizeLine):wpAny (model prog w) A (binaryOp .Add (.ref t) (.ref b)) Q E s:=by
 obtain⟨⟨cls,dd,data,sl⟩,ho,hc,n,hd⟩:=id ht;obtain⟨⟨cls2,dd2,data2,sl2⟩,ho2,hc2,n2,hd2⟩:=id hb;simp only at hc hd hc2 hd2;subst hc hd hc2 hd2;have e:vs.toArray++ws.toArray=(vs++ws).toArray:=by simp
 by_cases hw:ws=[]
 ·exact concat_meets ⟨_,ho,rfl⟩ ⟨_,ho2,rfl⟩ noFill_tuple_add seq_tuple_add xjd xix (xin _ _)
   (tuple_addW1 t b vs.toArray ws.toArray n n2 dd dd2 sl sl2 (by simpa using hv) (by simp[hw])) ⟨ho,ho2,h1 hw⟩
 ·refine concat_meets ⟨_,ho,rfl⟩ ⟨_,ho2,rfl⟩ noFill_tuple_add seq_tuple_add xjd xix (xin _ _)
   (tuple_addW2 t b vs.toArray ws.toArray n n2 dd dd2 sl sl2 (by simpa using hv) (by simpa using hw) (by rw[xbs,xbs];exact hsz)) ⟨ho,ho2,?_⟩
  rw[e];exact h2 hw
noncomputable def sIx (n d:Nat):Option Int->Nat
 | none=>d
 | some v=>if v < 0 then(v+(n:Int)).toNat else min v.toNat n
theorem zbam (n d:Nat):sIx n d none=d:=rfl
theorem zbep (n d k:Nat):sIx n d (some (k:Int))=min k n:=by
 show(if(k:Int) < 0 then((k:Int)+(n:Int)).toNat else min (k:Int).toNat n)=min k n;rw[if_neg (by lia),xdu]
theorem zbjs (n d:Nat)(hd:d<=n)(o:Option Int):sIx n d o<=n:=by
 cases o with
 | none=>exact hd
 | some v =>
  show(if v < 0 then(v+(n:Int)).toNat else min v.toNat n)<=n;by_cases hv:v < 0
  ·rw[if_pos hv];lia
  ·rw[if_neg hv];exact xfn _ _
theorem zzr (v:Int)(n d:Nat):(if v < 0 then max (v+(n:Int)) 0 else min v (n:Int))=((sIx n d (some v):Nat):Int):=by
 show(if v < 0 then max (v+(n:Int)) 0 else min v (n:Int))=(((if v < 0 then(v+(n:Int)).toNat else min v.toNat n):Nat):Int)
 by_cases hv:v < 0
 ·simp only[if_pos hv];lia
 ·simp only[if_neg hv];lia
theorem zva (lo hi:Option Int)(n:Nat):Builtin.Slice.sliceAdjust lo hi 1 (n:Int)=(((sIx n 0 lo:Nat):Int),((sIx n n hi:Nat):Int)):=by
 have h1:¬ ((1:Int) < 0):=by lia
 unfold Builtin.Slice.sliceAdjust;simp only[h1,xdo];refine Prod.ext ?_ ?_
 ·cases lo with
  | none=>rfl
  | some v=>exact zzr v n 0
 ·cases hi with
  | none=>rfl
  | some v=>exact zzr v n n
theorem zsz (i j:Nat):Builtin.Slice.slicePlaces (i:Int) (j:Int) 1=j - i:=by
 unfold Builtin.Slice.slicePlaces;have h1:(1:Int) > 0:=by lia
 simp only[h1,xdz,Int.ediv_one];split<;>lia
theorem zms {v:Value}{o:Option Int}{Q:Option Int->Shared->Prop}(p:IsPart v o)(h:Q o s):wpAny (model prog w) A (Builtin.Slice.slicePartIndex v) Q E s:=by
 cases p with
 | none=>exact slicePart_none h
 | int i t=>exact slicePart_int h
theorem zen {sl:Addr}{vl vu:Value}{lo hi:Option Int}{n:Nat}{Q:Int×Int×Nat->Shared->Prop}(hs:s.heap.IsSliceOf sl vl vu .none)(pl:IsPart vl lo)(pu:IsPart vu hi)
  (h:Q (((sIx n 0 lo:Nat):Int),1,sIx n n hi - sIx n 0 lo) s):wpAny (model prog w) A (Builtin.Slice.sliceApplied (.ref sl) (pure (n:Int))) Q E s:=by
 obtain⟨os,hos,hcs,hds⟩:=id hs;unfold Builtin.Slice.sliceApplied Builtin.Slice.sliceFields;refine xba (xba (xha hos hds (x:=vl) rfl (xba (xha hos hds (x:=vu) rfl (xba (xha hos hds (x:=.none) rfl (xbh ?_)))))));refine xba (slicePart_none ?_);show wpAny _ _ (if((1:Int)==0)=true then _ else _) _ _ s;rw[if_neg (by decide)];refine xba (zms pl (xba (zms pu (xba (xbh ?_)))));show wpAny _ _ (match Builtin.Slice.sliceAdjust lo hi 1 (n:Int) with | (lo,hi)=>pure (lo,(1:Int),Builtin.Slice.slicePlaces lo hi 1)) _ _ s;rw[zva lo hi n];show wpAny _ _ (pure (((sIx n 0 lo:Nat):Int),(1:Int),Builtin.Slice.slicePlaces ((sIx n 0 lo:Nat):Int) ((sIx n n hi:Nat):Int) 1)) _ _ s;rw[zsz];exact xbh h
theorem zbaw (xs:Array Value)(i k:Nat):((List.range k).filterMap fun(m:Nat)=>xs[((i:Int)+(m:Int) * 1).toNat]?).toArray=((xs.toList.drop i).take k).toArray:=by
 have e:(fun(m:Nat)=>xs[((i:Int)+(m:Int) * 1).toNat]?)=fun m=>xs[i+m]?:=by
  funext m
  have:((i:Int)+(m:Int) * 1).toNat=i+m:=by lia
  rw[this]
 rw[e];have:=pick_run xs i k;rw[List.filterMap_map] at this;have e2:((fun x=>xs[x]?) ∘ fun x=>i+x)=fun m=>xs[i+m]?:=rfl
 rw[e2] at this;rw[this]
theorem zhw {t sl:Addr}{items:Array Value}{vl vu:Value}{lo hi:Option Int}{Q:Value->Shared->Prop}(ht:IsTup s.heap t items)(hs:s.heap.IsSliceOf sl vl vu .none)(pl:IsPart vl lo)(pu:IsPart vu hi)
  (hw:¬ (sIx items.size 0 lo=0/\sIx items.size items.size hi=items.size))
  (h:Q (.ref s.heap.objs.size) { s with heap:=s.heap.push { cls:=.type "tuple", data:=.seq ((items.toList.drop (sIx items.size 0 lo)).take (sIx items.size items.size hi - sIx items.size 0 lo)).toArray } })
  (hsz:items.size<=sizeLine):wpAny (model prog w) A (getItem (.ref t) (.ref sl)) Q E s:=by
 have htake:sizeOk (.seq ((items.toList.drop (sIx items.size 0 lo)).take (sIx items.size items.size hi - sIx items.size 0 lo)).toArray):=by
  show((items.toList.drop (sIx items.size 0 lo)).take (sIx items.size items.size hi - sIx items.size 0 lo)).toArray.size<=sizeLine;rw[xbs,xcq,xhb,xcf];lia
 have hj:sIx items.size items.size hi<=items.size:=zbjs _ _ (xbe _) hi;obtain⟨os,hos,hcs,hds⟩:=id hs;have hTs:s.TypeIs (.ref sl) "slice":=⟨os, hos, hcs⟩
 unfold getItem
 try with_reducible refine xfm ?_
 first | refine xba (xbh ?_) | skip
 refine xba (wpAny_sequenceKey ht.typeIs (by decide) ?_)
 refine xba (wpAny_callSpecial?_slot (name:=Str.ofString "__getitem__") ht.typeIs xhf
  (xew xhf ht.typeIs entry_tuple_getitem ?_ (args_tuple_getitem _ _)))
 show wpAny _ _ (Builtin.Tuple.tupleItemsOf (.ref t) >>= _) _ _ s;refine xba (tupleItemsOf_ ht ?_);refine xba (wpAny_typeOf hTs ?_);rw[if_pos (by decide)];refine xba (zen hs pl pu ?_);have hno:¬ ((((sIx items.size 0 lo:Nat):Int)==0&&(1:Int)==1&&(sIx items.size items.size hi - sIx items.size 0 lo)==items.size)=true):=by
  intro q;rw[xgg,xgg] at q;have q1:((sIx items.size 0 lo:Nat):Int)=0:=eq_of_beq q.1.1;have q2:sIx items.size items.size hi - sIx items.size 0 lo=items.size:=eq_of_beq q.2;exact hw ⟨by lia,by lia⟩
 show wpAny _ _ (if(((sIx items.size 0 lo:Nat):Int)==0&&(1:Int)==1&&(sIx items.size items.size hi - sIx items.size 0 lo)==items.size)=true then _ else _) _ _ s;rw[if_neg hno,zbaw]
 first
  | exact xba (m:=Builtin.Tuple.tupleExact _) (xfh (xbh ⟨_,rfl,xbh h⟩) htake)
  | exact xba (m:=Builtin.Tuple.tupleExact _) (xfh (xba (xbh (xbh ⟨_,rfl,xbh h⟩))) htake)
  | exact xba (xba (m:=Builtin.Tuple.tupleExact _) (xfh (xbh (xbh ⟨_,rfl,xbh h⟩)) htake))
  | exact xba (xba (m:=Builtin.Tuple.tupleExact _) (xfh (xbh ⟨_,rfl,xbh h⟩) htake))
end
end HT
namespace L2
open PySem PySem.Spec PyProof.Rows
noncomputable abbrev TO:=St->Hp->(Option Int->Hp->Prop)->Prop
noncomputable def PO (X:Cx) (e:Option Expr) (t:TO):Prop :=
 ∀(aU:List (Addr×Obj)) (s:Shared) (σ:St) (H:Hp) (Q:Option Int->Hp->Prop),Inv X aU σ H s->t σ H Q ->
  wpAny (model X.prog X.w) X.A (evalPart e X.env) (fun u s'=>∃o H',Inv X aU σ H' s'/\IsPart u o/\Q o H') X.xe s
noncomputable def tNoPart:TO:=fun _ H Q=>Q none H
noncomputable def tPart (t:TE):TO:=fun σ H Q=>t σ H fun x H1=>∃i,x=.int i/\Q (some i) H1
theorem zgl {ns:List Int}:∀{us:List Value},Vals (ns.map V.int) us->IntsAre us ns:=by
 induction ns with
 | nil=>intro us r;rw[xjs] at r;cases r;exact .nil
 | cons n ns ih =>
  intro us r;rw[xbt] at r;cases r with
  | cons r1 r2 =>
   obtain⟨t,e⟩:=r1;subst e;exact .cons n t (ih r2)
section
variable {X:Cx}{e:Expr}{te:TE}{lo hi:Option Expr}{tl th:TO}{pos p2:Pos}
theorem zbfa:PO X none tNoPart:=by
 intro aU s σ H Q I h;rw[evalPart_none];exact xbh ⟨none,H,I,.none,h⟩
theorem zbez (h:PE X e te):PO X (some e) (tPart te):=by
 intro aU s σ H Q I hw;rw[evalPart_some];refine thn (h aU s σ H _ I hw) fun u s1 hq0=>?_
 obtain⟨x,H1,I1,r1,q1⟩:=hq0;obtain⟨i,rfl,q⟩:=q1;obtain⟨t,rfl⟩:=r1;exact⟨some i,H1,I1,.int i t,q⟩
noncomputable def SlR (X:Cx) (r:V->Option Int->Option Int->Hp->VK->Prop):Prop :=
 ∀(aU:List (Addr×Obj)) (s:Shared) (σ:St) (H:Hp) (x:V) (v vl vu:Value) (lo hi:Option Int) (sl:Addr) (Q:VK),Inv X aU σ H s->RelV x v->s.heap.IsSliceOf sl vl vu .none->IsPart vl lo->IsPart vu hi->r x lo hi H Q ->
  ∃ T id, typeLookup (.type T) "__getitem__"=pure (some (.builtin id))/\s.TypeIs v T/\wpAny (model X.prog X.w) X.A (getItem v (.ref sl)) (EP X aU σ Q) X.xe s
theorem SlR.or {r r':V->Option Int->Option Int->Hp->VK->Prop}(h:SlR X r)(h':SlR X r'):SlR X (fun x lo hi H Q=>r x lo hi H Q\/r' x lo hi H Q):=by
 intro aU s σ H x v vl vu lo hi sl Q I rx hs pl pu q;rcases q with q | q
 ·exact h aU s σ H x v vl vu lo hi sl Q I rx hs pl pu q
 ·exact h' aU s σ H x v vl vu lo hi sl Q I rx hs pl pu q
noncomputable def tSl (r:V->Option Int->Option Int->Hp->VK->Prop) (te:TE) (tl th:TO):TE:=fun σ H Q=>te σ H fun x H1=>tl σ H1 fun l H2=>th σ H2 fun u H3=>r x l u H3 Q
theorem zbaz {r:V->Option Int->Option Int->Hp->VK->Prop}(hr:SlR X r)(he:PE X e te)(hl:PO X lo tl)(hu:PO X hi th):PE X (.Subscript e (.Slice lo hi none p2) pos) (tSl r te tl th):=by
 intro aU s σ H Q I h;refine Subscript_ (thn (he aU s σ H _ I h) fun v s1 hq0=>?_);obtain⟨x,H1,I1,r1,q1⟩:=hq0;refine wpAny_Slice (thn (hl aU s1 σ H1 _ I1 q1) fun vl s2 ⟨l,H2,I2,pl,q2⟩=>thn (hu aU s2 σ H2 _ I2 q2) fun vu s3 hq0=>?_);obtain⟨u,H3,I3,pu,q3⟩:=hq0;rw[evalPart_none];refine xbh ?_;have I4:Inv X aU σ H3 { s3 with heap:=s3.heap.push { cls:=.type "slice", data:=.fields #[vl, vu, .none] } }:=I3.kept (t':=s3.toks) fun b ob q=>xbd _ q
 obtain⟨T, id, hT, ht, hg⟩:=hr aU { s3 with heap:=s3.heap.push { cls:=.type "slice", data:=.fields #[vl, vu, .none] } } σ H3 x v vl vu l u s3.heap.objs.size Q I4 r1 (Heap.IsSliceOf.new ..) pl pu q3
 show wpAny (model X.prog X.w) X.A (subscriptTail e (.Slice lo hi none p2) v (.ref s3.heap.objs.size)) (EP X aU σ Q) X.xe { s3 with heap:=s3.heap.push { cls:=.type "slice", data:=.fields #[vl, vu, .none] } }
 exact tail_any (ops:=[.ref s3.heap.objs.size,v]) ht hT hg (by with_unfolding_all rfl)
noncomputable def cutV (xs:List V) (lo hi:Option Int):List V:=(xs.drop (HT.sIx xs.length 0 lo)).take (HT.sIx xs.length xs.length hi - HT.sIx xs.length 0 lo)
theorem zky (xs:List V)(lo hi:Option Int):(cutV xs lo hi).length<=xs.length:=by
 unfold cutV;rw[xcq,xhb];lia
noncomputable def rSlT (K:Fg):V->Option Int->Option Int->Hp->VK->Prop:=fun x lo hi H Q=>∃a xs,x=.ref a/\SqT K H a xs /\
 ¬ (HT.sIx xs.length 0 lo=0/\HT.sIx xs.length xs.length hi=xs.length)/\∀p,H p=none->Q (.ref p) (upd H p (.tup (cutV xs lo hi)))
theorem zbjl:SlR X (rSlT X.K):=by
 intro aU s σ H x v vl vu lo hi sl Q I rx hs pl pu h;obtain⟨a,xs,rfl,hx,hw,q⟩:=h;cases rx;obtain⟨its,r,ht,hz⟩:=I.tuple hx;have hlen:its.toArray.size=xs.length:=by rw[xbs];exact r.length.symm
 refine⟨"tuple", _, xhf.lookup, ht.typeIs, ?_⟩
 refine HT.zhw ht hs pl pu (by rw[hlen];exact hw) ?_ (by rw[hlen];exact hz);rw[hlen];refine⟨.ref s.heap.objs.size,_,I.laid (t':=s.toks) (o:=.tup (cutV xs lo hi)) (fun b ob q=>xbd _ q) (xbe _) ?_,rfl,q _ (I.hok.fresh (xbe _))⟩;exact⟨xbb (zky xs lo hi) hz,_,(r.drop (HT.sIx xs.length 0 lo)).take (HT.sIx xs.length xs.length hi - HT.sIx xs.length 0 lo),IsTup.new _ _⟩
noncomputable def rLtT (K:Fg):R2:=fun x y H Q=>∃a b ns ms,x=.ref a/\y=.ref b/\SqT K H a (ns.map V.int)/\SqT K H b (ms.map V.int)/\Q (.bl (HT.lexLt ns ms)) H
theorem zbkr (hu:X.A.units < cLine):OpR X (compareOp .Lt) (rLtT X.K):=by
 intro aU s σ H x y v u Q I rx ry h;obtain⟨a,b,ns,ms,rfl,rfl,ha,hb,q⟩:=h;cases rx;cases ry;obtain⟨its,r1,p1,_⟩:=I.tuple ha;obtain⟨its2,r2,p2,_⟩:=I.tuple hb;have i1:IntsAre its.toArray.toList ns:=zgl r1;have i2:IntsAre its2.toArray.toList ms:=zgl r2;exact HT.zne p1 p2 i1 i2 hu ⟨.bl (HT.lexLt ns ms),H,I,rfl,q⟩
noncomputable def rCatT (K:Fg):R2:=fun x y H Q=>∃a b xs ys,x=.ref a/\y=.ref b/\SqT K H a xs/\SqT K H b ys/\xs≠[]/\xs.length+ys.length<=sizeLine /\
 (ys=[]->Q (.ref a) H)/\(ys≠[]->∀p,H p=none->Q (.ref p) (upd H p (.tup (xs++ys))))
theorem Vals.nil_iff {xs:List V}{us:List Value}(r:Vals xs us):us=[]↔xs=[]:=by
 cases r with
 | nil=>simp
 | cons _ _=>simp
theorem zbfr:OpR X (binaryOp .Add) (rCatT X.K):=by
 intro aU s σ H x y v u Q I rx ry h;obtain⟨a,b,xs,ys,rfl,rfl,ha,hb,hx,hz,q1,q2⟩:=h;cases rx;cases ry;obtain⟨its,r1,p1,_⟩:=I.tuple ha;obtain⟨its2,r2,p2,_⟩:=I.tuple hb;refine HT.zbig p1 p2 (fun z=>hx (r1.nil_iff.mp z)) (fun z=>⟨.ref a,H,I,rfl,q1 (r2.nil_iff.mp z)⟩) (fun z=>?_) (by rw[← r1.length,← r2.length];exact hz);refine⟨.ref s.heap.objs.size,_,I.laid (t':=s.toks) (o:=.tup (xs++ys)) (fun b ob q=>xbd _ q) (xbe _) ?_,rfl,q2 (fun w=>z (r2.nil_iff.mpr w)) _ (I.hok.fresh (xbe _))⟩;exact⟨by rw[xbl];exact hz,_,r1.append r2,IsTup.new _ _⟩
end
noncomputable def ixN (n:Nat) (i:Int):Option Nat:=if 0<=i then(if i < n then some i.toNat else none) else if -(n:Int)<=i then some (i+n).toNat else none
noncomputable def atI {α:Type} (xs:List α) (i:Int):Option α:=(ixN xs.length i).bind fun j=>xs[j]?
theorem zzd {n:Nat}{i:Int}{j:Nat}(h:ixN n i=some j):seqIndex? i n=some j/\j < n/\-(n:Int)<=i/\i < n:=by
 unfold ixN at h;by_cases h0:0<=i
 ·rw[if_pos h0] at h;by_cases h1:i < n
  ·rw[if_pos h1] at h;have e:i.toNat=j:=xcn h;exact⟨by rw[seqIndex_of h0 h1,e],by lia,by lia,h1⟩
  ·rw[if_neg h1] at h;cases h
 ·rw[if_neg h0] at h;by_cases h1:-(n:Int)<=i
  ·rw[if_pos h1] at h;have e:(i+n).toNat=j:=xcn h;exact⟨by rw[seqIndex_neg (by lia) h1,e],by lia,h1,by lia⟩
  ·rw[if_neg h1] at h;cases h
theorem zuw {α:Type}{xs:List α}{i:Int}{v:α}(h:atI xs i=some v):∃j,seqIndex? i xs.length=some j/\xs[j]?=some v/\j < xs.length/\-(xs.length:Int)<=i/\i < xs.length:=by
 unfold atI at h;cases e:ixN xs.length i with
 | none=>rw[e] at h;cases h
 | some j =>
  rw[e] at h;obtain⟨h1,h2,h3,h4⟩:=zzd e;exact⟨j,h1,h,h2,h3,h4⟩
theorem zzw {α:Type}{xs:List α}{j:Nat}{v:α}(h:xs[j]?=some v):atI xs (j:Int)=some v:=by
 have hj:j < xs.length:=(xbf.mp h).1;have e:ixN xs.length (j:Int)=some j:=by
  unfold ixN;rw[if_pos (by lia),if_pos (by lia)];simp
 unfold atI;rw[e];exact h
noncomputable def PlainIx (b:Expr):Prop:=∀o i,subscripted b false o i=operate [o,i] (getItem o i)
noncomputable def IxR (X:Cx) (r:R2):Prop :=
 ∀(value slice:Expr) (aU:List (Addr×Obj)) (s:Shared) (σ:St) (H:Hp) (x y:V) (v u:Value) (Q:VK),Inv X aU σ H s->RelV x v->RelV y u->r x y H Q ->
  subscripted slice false v u=operate [v,u] (getItem v u)->wpAny (model X.prog X.w) X.A (subscriptTail value slice v u) (EP X aU σ Q) X.xe s
noncomputable def MtR (X:Cx) (id:String) (r:V->List V->Hp->VK->Prop):Prop :=
 ∀(aU:List (Addr×Obj)) (s:Shared) (σ:St) (H:Hp) (x:V) (xs:List V) (v:Value) (us:List Value) (Q:VK),Inv X aU σ H s->RelV x v->Vals xs us->r x xs H Q ->
  wpAny (model X.prog X.w) X.A (call (.builtin id) (v::us)) (EP X aU σ Q) X.xe s
section
variable {X:Cx}{a b:Expr}{ta tb:TE}{pos:Pos}
theorem IxR.or {r r':R2}(h:IxR X r)(h':IxR X r'):IxR X (fun x y H Q=>r x y H Q\/r' x y H Q):=by
 intro value slice aU s σ H x y v u Q I rx ry q hs;rcases q with q | q
 ·exact h value slice aU s σ H x y v u Q I rx ry q hs
 ·exact h' value slice aU s σ H x y v u Q I rx ry q hs
theorem zbow {r:R2}(hr:IxR X r)(ha:PE X a ta)(hb:PE X b tb)(hs:PlainIx b):PE X (.Subscript a b pos) (tOp r ta tb):=by
 intro aU s σ H Q I h;exact Subscript_ (binT ha hb I h fun v u s2 x y H2 I2 rx ry q=>hr a b aU s2 σ H2 x y v u Q I2 rx ry q (hs _ _))
noncomputable def rIxL (K:Fg):R2:=fun x y H Q=>∃p xs i v,x=.ref p/\y=.int i/\SqL K H p xs/\atI xs i=some v/\Q v H
noncomputable def rIxT (K:Fg):R2:=fun x y H Q=>∃p xs i v,x=.ref p/\y=.int i/\SqT K H p xs/\atI xs i=some v/\Q v H
noncomputable def rIxS:R2:=fun x y H Q=>∃z i c,x=.str z/\y=.int i/\z.length<=sizeLine/\atI z.cps.toList i=some c/\Q (.str ⟨#[c]⟩) H
theorem zbgj:IxR X (rIxL X.K):=by
 intro value slice aU s σ H x y v u Q I rx ry h hs;obtain⟨p,xs,i,z,rfl,rfl,hq,he,q⟩:=h;cases rx;obtain⟨t,rfl⟩:=ry;obtain⟨its,r,pl,hz⟩:=I.list hq;obtain⟨j,h1,h2,h3,h4,h5⟩:=zuw he;obtain⟨w,ew,rw'⟩:=r.get h2;have hl:=r.length;have hn:=line63;have fin:EP X aU σ Q w s:=⟨z,H,I,rw',q⟩
 by_cases h0:0<=i
 ·have hj:i.toNat=j:=by
   rw[seqIndex_of h0 h5] at h1;exact xcn h1
  exact item_listR pl.isList h0 (by lia) (by rw[hj];simpa using ew) fin hs
 ·have hj:(i+(its.toArray.size:Int)).toNat=j:=by
   rw[seqIndex_neg (by lia) h4] at h1;rw[xbs,← hl];exact xcn h1
  exact subscriptTail_builtinR (x:=w) pl.isList.typeIs slot_list_getitem.lookup
   (wpAny_getItem_list_neg (Q:=fun r s'=>r=w/\EP X aU σ Q r s') pl.isList (by lia) (by rw[xbs]<;>lia) (by lia) (by rw[hj];simpa using ew) ⟨rfl,fin⟩) hs
theorem zblg:IxR X (rIxT X.K):=by
 intro value slice aU s σ H x y v u Q I rx ry h hs;obtain⟨p,xs,i,z,rfl,rfl,hq,he,q⟩:=h;cases rx;obtain⟨t,rfl⟩:=ry;obtain⟨its,r,pl,hz⟩:=I.tuple hq;obtain⟨j,h1,h2,h3,h4,h5⟩:=zuw he;obtain⟨w,ew,rw'⟩:=r.get h2;have hl:=r.length;have hn:=line63;have fin:EP X aU σ Q w s:=⟨z,H,I,rw',q⟩
 exact subscriptTail_builtinR (x:=w) pl.typeIs xit.lookup
  (getItem_tuple (j:=j) (Q:=fun r s'=>r=w/\EP X aU σ Q r s') pl (by lia) (by lia) (by rw[xbs,← hl];exact h1) (by simpa using ew) ⟨rfl,fin⟩) hs
theorem zblh:IxR X rIxS:=by
 intro value slice aU s σ H x y v u Q I rx ry h hs;obtain⟨z,i,c,rfl,rfl,hz,he,q⟩:=h;obtain⟨t,rfl⟩:=rx;obtain⟨t',rfl⟩:=ry;obtain⟨j,h1,h2,h3,h4,h5⟩:=zuw he;have hl:z.cps.toList.length=z.length:=by simp[Str.length]
 rw[hl] at h1 h4 h5;have hn:=line63
 exact tail_any (typeIs_str s z t) slot_str_getitem.lookup (getItem_str (c:=c) (by
  have e1:decide (i < -(2 ^ 63:Int))=false:=xbv (by lia);have e2:decide (i ≥ 2 ^ 63)=false:=xbv (by lia)
  rw[e1,e2,Bool.or_false]) (by rw[h1];simpa using h2) ⟨.str ⟨#[c]⟩,H,I.tok _,⟨_,rfl⟩,q⟩) hs
noncomputable def rIx (K:Fg):R2:=fun x y H Q=>rIxL K x y H Q\/rIxT K x y H Q\/rIxS x y H Q
theorem zbli:IxR X (rIx X.K):=zbgj.or (zblg.or zblh)
theorem zti (its:List Value)(n j:Nat)(u:Value):Obj.mapSeq (·.setIfInBounds j u) { cls:=.type "list", data:=.seq its.toArray n }={ cls:=.type "list", data:=.seq (its.set j u).toArray n }:=by
 simp[Obj.mapSeq]
theorem Inv.lst {aU:List (Addr×Obj)}{σ:St}{H:Hp}{s:Shared}{p:Addr}{xs:List V}(I:Inv X aU σ H s)(h:H p=some (.lst xs)) :
  ∃(its:List Value) (n:Nat), Vals xs its/\s.heap.get? p=some { cls:=.type "list", data:=.seq its.toArray n }/\xs.length<=sizeLine:=by
 obtain⟨z,its,n,r,e⟩:=I.hok p _ h;exact⟨its,n,r,e,z⟩
theorem Inv.lstUpd {aU:List (Addr×Obj)}{σ:St}{H:Hp}{s:Shared}{p:Addr}{xs ys:List V}{its its':List Value}{n n':Nat}{f:Obj->Obj}(I:Inv X aU σ H s)(h:H p=some (.lst xs))
  (ho:s.heap.get? p=some { cls:=.type "list", data:=.seq its.toArray n })(hf:f { cls:=.type "list", data:=.seq its.toArray n }={ cls:=.type "list", data:=.seq its'.toArray n' })(r:Vals ys its')(hz:ys.length<=sizeLine)(t:Nat) :
  Inv X aU σ (upd H p (.lst ys)) {s with heap:=s.heap.update p f,toks:=t}:=by
 have e:(s.heap.update p f).get? p=some { cls:=.type "list", data:=.seq its'.toArray n' }:=by
  rw[xib f ho (by rw[hf]<;>rfl),hf]
 refine I.write (x:=p) (e:=p) (by rw[h];trivial) (.inl rfl) (fun b u hb q=>(Heap.get?_update_other _ _ (xcs hb)).trans q) ⟨_,e⟩ ?_;exact⟨hz,its',n',r,e⟩
noncomputable def rSetL:V->V->V->Hp->(Hp->Prop)->Prop:=fun o i v H Q=>∃p xs k j,o=.ref p/\i=.int k/\H p=some (.lst xs)/\ixN xs.length k=some j/\Q (upd H p (.lst (xs.set j v)))
theorem zbaj:PSet X rSetL:=by
 intro aU s σ H o i v ov iv u Q I ro ri rv h;obtain⟨p,xs,k,j,rfl,rfl,hp,hj,q⟩:=h;cases ro;obtain⟨t,rfl⟩:=ri;obtain⟨its,n,r,ho,hz⟩:=I.lst hp;obtain⟨h1,h2,h3,h4⟩:=zzd hj;have hl:=r.length;have hn:=line63;have I':Inv X aU σ (upd H p (.lst (xs.set j v))) {s with heap:=s.heap.update p (Obj.mapSeq (·.setIfInBounds j u))} :=
  I.lstUpd hp ho (zti its n j u) (r.set rv j) (by rw[xft];exact hz) s.toks
 by_cases h0:0<=k
 ·have hk:k.toNat=j:=by
   rw[seqIndex_of h0 h4] at h1;exact xcn h1
  exact W.ki_setAt ho h0 (by lia) (by rw[xbs,← hl];exact h4) (by rw[hk];exact⟨_,I',q⟩)
 ·have hk:(k+(its.toArray.size:Int)).toNat=j:=by
   rw[seqIndex_neg (by lia) h3] at h1;rw[xbs,← hl];exact xcn h1
  exact W.ki_setBack ho (by lia) (by rw[xbs,← hl];exact h3) (by lia) (by rw[hk];exact⟨_,I',q⟩)
theorem zoa (lo hi:Option Int)(n:Nat):(sliceBounds lo hi none n).1=((HT.sIx n 0 lo:Nat):Int)/\(sliceBounds lo hi none n).2.1=((HT.sIx n n hi:Nat):Int)/\(sliceBounds lo hi none n).2.2=1:=by
 refine⟨?_,?_,rfl⟩
 ·cases lo with
  | none=>simp[sliceBounds,HT.sIx]
  | some i =>
   simp only[sliceBounds,HT.sIx,xlf,show(1:Int) > 0 by decide,xdz];by_cases h:i < 0
   ·simp only[h,xdz]<;>lia
   ·simp only[h,xdo]<;>lia
 ·cases hi with
  | none=>simp[sliceBounds,HT.sIx]
  | some i =>
   simp only[sliceBounds,HT.sIx,xlf,show(1:Int) > 0 by decide,xdz];by_cases h:i < 0
   ·simp only[h,xdz]<;>lia
   ·simp only[h,xdo]<;>lia
theorem zmr (its:List Value)(lo hi:Option Int):slicePick its.toArray lo hi none=((its.drop (HT.sIx its.length 0 lo)).take (HT.sIx its.length its.length hi - HT.sIx its.length 0 lo)).toArray:=by
 obtain⟨h1,h2,h3⟩:=zoa lo hi its.toArray.size;unfold slicePick;rw[h1,h2,h3];simp only[sliceRange_one,pick_run,xbs]<;>rfl
noncomputable def rSlL (K:Fg):V->Option Int->Option Int->Hp->VK->Prop:=fun x lo hi H Q=>∃a xs,x=.ref a/\SqL K H a xs/\∀p,H p=none->Q (.ref p) (upd H p (.lst (cutV xs lo hi)))
theorem zbem:SlR X (rSlL X.K):=by
 intro aU s σ H x v vl vu lo hi sl Q I rx hs pl pu h;obtain⟨a,xs,rfl,hx,q⟩:=h;cases rx;obtain⟨its,r,ht,hz⟩:=I.list hx;have hlen:=r.length;refine⟨"list", _, slot_list_getitem.lookup, ht.isList.typeIs, ?_⟩
 refine wpAny_getItem_list_slice ht.isList hs pl pu .none (by simp) ?_ (by rw[xbs]<;>lia);rw[zmr,← hlen];refine⟨.ref s.heap.objs.size,_,I.laid (t':=s.toks) (o:=.lst (cutV xs lo hi)) (fun b ob q=>xbd _ q) (xbe _) ?_,rfl,q _ (I.hok.fresh (xbe _))⟩;exact⟨xbb (zky xs lo hi) hz,_,0,(r.drop (HT.sIx xs.length 0 lo)).take (HT.sIx xs.length xs.length hi - HT.sIx xs.length 0 lo),xbw _ rfl⟩
theorem zca:CallR X (.builtin "len") (fun xs H Q=>∃ p ys, xs=[.ref p]/\(SqL X.K H p ys\/SqT X.K H p ys)/\Q (.int ys.length) H):=by
 intro aU s σ H xs us Q I r h;obtain⟨p,ys,rfl,hq,q⟩:=h;obtain⟨u,rfl,rx⟩:=vals1 r;cases rx;have hn:=line63;rcases hq with hq | hq
 ·obtain⟨its,r',pl,hz⟩:=I.list hq;have hlen:=r'.length;exact Calls.call_len_list pl.isList (by simp only[xbs]<;>lia) ⟨.int ys.length,H,I.tok _,⟨s.toks+1,by rw[xbs,hlen]⟩,q⟩
 ·obtain⟨its,r',pl,hz⟩:=I.tuple hq;have hlen:=r'.length;exact len_tuple pl (by simp only[xbs]<;>lia) ⟨.int ys.length,H,I.tok _,⟨s.toks+1,by rw[xbs,hlen]⟩,q⟩
theorem CallR.or {f:Value}{r r':List V->Hp->VK->Prop}(h:CallR X f r)(h':CallR X f r'):CallR X f (fun xs H Q=>r xs H Q\/r' xs H Q):=by
 intro aU s σ H xs us Q I rs q;rcases q with q | q
 ·exact h aU s σ H xs us Q I rs q
 ·exact h' aU s σ H xs us Q I rs q
theorem zez:CallR X (.type "tuple") (fun xs H Q=>∃ p ys, xs=[.ref p]/\((SqL X.K H p ys/\∀ l, H l=none->Q (.ref l) (upd H l (.tup ys)))\/(SqT X.K H p ys/\Q (.ref p) H))):=by
 intro aU s σ H xs us Q I r h;obtain⟨p,ys,rfl,h⟩:=h;obtain⟨u,rfl,rx⟩:=vals1 r;cases rx;rcases h with⟨hq,q⟩ | ⟨hq,q⟩
 ·obtain⟨its,r',pl,hz⟩:=I.list hq;have hlen:=r'.length;refine call_tuple_list pl.isList (fun h' kp=>?_) (by simp only[xbs]<;>lia);have I1:Inv X aU σ H {s with heap:=h'}:=I.kept (t':=s.toks) kp;have I2:Inv X aU σ (upd H h'.objs.size (.tup ys)) { s with heap:=h'.push { cls:=.type "tuple", data:=.seq its.toArray } } :=
   I1.laid (t':=s.toks) (fun b o e=>xbd _ e) (xbe _) (show ObjOk X.prog X.w _ _ _ (.tup ys) from⟨hz,its,r',IsTup.new _ _⟩)
  exact⟨.ref h'.objs.size,_,I2,rfl,q _ (I1.hok.fresh (xbe _))⟩
 ·obtain⟨its,r',pl,hz⟩:=I.tuple hq;exact call_tuple_same pl ⟨.ref p,H,I,rfl,q⟩
noncomputable def tyV (K:Fg) (T:String) (x:V) (H:Hp):Prop:=match x with
 | .str _=>T="str"
 | .int _=>T="int"
 | .ref p=>(T="list"/\∃ xs, SqL K H p xs)\/(T="tuple"/\∃ o, K.lookup p=some o/\o.cls=.type "tuple"/\o.dict=none) \/
  (T="dict"/\((∃ kvs, H p=some (.dK kvs))\/∃ kvs, H p=some (.dT kvs)))\/(T="set"/\∃ S n, H p=some (.set S n))
 | _=>False
theorem zbeg {aU:List (Addr×Obj)}{σ:St}{H:Hp}{s:Shared}{T:String}{x:V}{v:Value}(I:Inv X aU σ H s)(r:RelV x v)(ty:tyV X.K T x H) :
  s.TypeIs v T/\∀a,v=.ref a->∃ob,s.heap.get? a=some ob/\ob.dict=none:=by
 cases x with
 | str z =>
  obtain⟨t,rfl⟩:=r;cases(show T="str" from ty)
  exact⟨typeIs_str s z t,fun _ e=>nomatch e⟩
 | int i =>
  obtain⟨t,rfl⟩:=r;cases(show T="int" from ty)
  exact⟨typeIs_int s i t,fun _ e=>nomatch e⟩
 | ref p =>
  cases r;rcases ty with⟨rfl,xs,hq⟩ | ⟨rfl,o,hk,hc,hd⟩ | ⟨rfl,hk⟩ | ⟨rfl,S,n,hk⟩
  ·obtain⟨its,_,pl,_⟩:=I.list hq;refine⟨pl.isList.typeIs,fun a e=>?_⟩;cases e;obtain⟨o,n,e,c,hd,_⟩:=pl;exact⟨o,e,hd⟩
  ·refine⟨⟨o,I.kIn p o hk,hc⟩,fun a e=>?_⟩;cases e;exact⟨o,I.kIn _ o hk,hd⟩
  ·have z:∃o,s.heap.get? p=some o/\o.ExactDict:=by
    rcases hk with⟨kvs,hk⟩ | ⟨kvs,hk⟩
    ·obtain⟨_,_,_,_,o,_,_,e,ex,_⟩:=I.hok p _ hk;exact⟨o,e,ex⟩
    ·obtain⟨_,_,_,_,o,_,_,e,ex,_⟩:=I.hok p _ hk;exact⟨o,e,ex⟩
   obtain⟨o,e,ex⟩:=z;refine⟨⟨o,e,ex.1⟩,fun a e2=>?_⟩;cases e2;exact⟨o,e,ex.2.1⟩
  ·obtain⟨o,_,_,_,e,ex,_⟩:=I.hok p _ hk;refine⟨⟨o,e,ex.1⟩,fun a e2=>?_⟩;cases e2;exact⟨o,e,ex.2.1⟩
 | _=>exact False.elim ty
noncomputable def tBM0 (K:Fg) (T:String) (r:V->List V->Hp->VK->Prop) (to:TE):TE:=fun σ H Q=>to σ H fun x H1=>tyV K T x H1/\r x [] H1 Q
noncomputable def tBM (K:Fg) (T:String) (r:V->List V->Hp->VK->Prop) (to:TE) (t:TA):TE:=fun σ H Q=>to σ H fun x H1=>tyV K T x H1/\t σ H1 fun xs H2=>r x xs H2 Q
variable {o e:Expr}{es:List Expr}{to:TE}{t:TA}{name:Str}{apos cpos:Pos}{T id:String}{r:V->List V->Hp->VK->Prop}
theorem zbfm (pa:PlainAttrs T)(slot:Slot T name id)(hty:typeOf (.builtin id)=pure (.type "method_descriptor"))(hm:MtR X id r)(ho:PE X o to)
  (hbase:attributeBase o name X.env (eval o X.env)=eval o X.env:=by rfl)(hline:(apos.endLine==cpos.line)=true:=by rfl):PE X (.Call (.Attribute o name apos) [] [] cpos) (tBM0 X.K T r to):=by
 intro aU s σ H Q I h;refine wpAny_Call_method0_late hbase hline (thn (ho aU s σ H _ I h) fun v s1 hq0=>?_);obtain⟨x,H1,I1,r1,ty,q1⟩:=hq0;obtain⟨h1,h2⟩:=zbeg I1 r1 ty;exact⟨T,id,pa,slot,hty,h1,h2,xhu rfl (PySem.evalArgs_none (hm aU s1 σ H1 x [] v [] Q I1 r1 .nil q1))⟩
theorem zbnv (pa:PlainAttrs T)(slot:Slot T name id)(hty:typeOf (.builtin id)=pure (.type "method_descriptor"))(hm:MtR X id r)(ho:PE X o to)(ha:PA X (e::es) t)
  (hbase:attributeBase o name X.env (eval o X.env)=eval o X.env:=by rfl)
  (hfew:((backTo cpos (starEach (e::es) X.env)).all (fun x=>!x.1)&&(backToKw cpos (keywordEach [] X.env)).all (fun x=>x.1.isSome)
   && decide ((e::es).length+([]:List Keyword).length+(if([]:List Keyword).isEmpty then 0 else 1) < 30))=true:=by rfl)
  (hline:(apos.endLine==cpos.line)=true:=by rfl)(hs:starEach (e::es) X.env=(false,eval e X.env)::starEach es X.env:=by rfl)(hplain:(backTo cpos (starEach es X.env)).any (·.1)=false:=by rfl) :
  PE X (.Call (.Attribute o name apos) (e::es) [] cpos) (tBM X.K T r to t):=by
 intro aU s σ H Q I h;refine wpAny_Call_method_late hbase hfew hline rfl (thn (ho aU s σ H _ I h) fun v s1 hq0=>?_);obtain⟨x,H1,I1,r1,ty,q1⟩:=hq0;obtain⟨h1,h2⟩:=zbeg I1 r1 ty;refine⟨T,id,pa,slot,hty,h1,h2,?_⟩;have hA:=ha cpos aU s1 σ H1 _ I1 q1;rw[hs] at hA ⊢;refine xhu (by show(false||(backTo cpos (starEach es X.env)).any (·.1))=false;rw[hplain]<;>rfl) (xjt ?_);exact thn hA fun us s2 ⟨vs,H2,I2,r2,q2⟩=>hm aU s2 σ H2 x vs v us Q I2 r1 r2 q2
/- xs.append(e),list.index on a module's tuple .. are MtR facts of 06m -/
end
noncomputable def MtM (X:Cx) (id:String) (r:V->List V->Hp->VK->Prop):Prop :=
 ∀(aU:List (Addr×Obj)) (s:Shared) (σ:St) (H:Hp) (x:V) (xs:List V) (v:Value) (us:List Value) (Q:VK),Inv X aU σ H s->RelV x v->Vals xs us->r x xs H Q ->
  wpAny (model X.prog X.w) X.A (call (.builtin id) (v::us)) (EP X aU σ Q) X.xe s
theorem Vals.one:∀{x:V} {us:List Value},Vals [x] us->∃u,us=[u]/\RelV x u
 | _,_,.cons r .nil=>⟨_,rfl,r⟩
theorem Vals.zero:∀{us:List Value},Vals [] us->us=[]
 | _,.nil=>rfl
section
variable {X:Cx}{aU:List (Addr×Obj)}{σ:St}{H:Hp}{s:Shared}{l b:Addr}{xs ys zs:List V}
theorem Inv.lset {its its':List Value}{n:Nat}{f:Array Value->Array Value}{t':Nat}(I:Inv X aU σ H s)(hH:H l=some (.lst xs))
  (e:s.heap.get? l=some { cls:=.type "list", data:=.seq its.toArray n })(hf:f its.toArray=its'.toArray)(hv:Vals ys its')(hz:ys.length<=sizeLine) :
  Inv X aU σ (upd H l (.lst ys)) {s with heap:=s.heap.update l (Obj.mapSeq f),toks:=t'}:=by
 have q:=PySem.IsL.update e f;rw[hf] at q;refine I.write (x:=l) (e:=l) (by rw[hH];exact trivial) (.inl rfl) (fun b' u hb hu=>(Heap.get?_update_other s.heap (Obj.mapSeq f) (xcs hb)).trans hu) ⟨_,q⟩ ?_;exact⟨hz,its',_,hv,q⟩
theorem Inv.lnew {its:List Value}{t':Nat}(I:Inv X aU σ H s)(hv:Vals ys its)(hz:ys.length<=sizeLine) :
  Inv X aU σ (upd H s.heap.objs.size (.lst ys)) { s with heap:=s.heap.push { cls:=.type "list", data:=.seq its.toArray }, toks:=t' } :=
 I.laid (fun _ _ q=>xbd _ q) (xbe _) ⟨hz,its,0,hv,xbw _ rfl⟩
theorem Inv.fresh (I:Inv X aU σ H s):H s.heap.objs.size=none:=I.hok.fresh (xbe _)
theorem Inv.lstM (I:Inv X aU σ H s)(hH:H l=some (.lst xs)):xs.length<=sizeLine/\∃(its:List Value) (n:Nat), Vals xs its/\xs.length=its.length/\s.heap.get? l=some { cls:=.type "list", data:=.seq its.toArray n }:=by
 obtain⟨z,its,n,r,e⟩:=I.hok l _ hH;exact⟨z,its,n,r,r.length,e⟩
theorem notLongL {n:Nat}(h:n<=sizeLine):Builtin.List.listTooLong n=false:=by
 unfold Builtin.List.listTooLong;exact xbv (by lia)
end
section
variable {X:Cx}
noncomputable def rAppend:V->List V->Hp->VK->Prop:=fun x vs H Q=>∃l xs y,x=.ref l/\vs=[y]/\H l=some (.lst xs)/\xs.length < sizeLine/\Q .non (upd H l (.lst (xs++[y])))
theorem zpx:MtM X "list.append" rAppend:=by
 intro aU s σ H x vs v us Q I rx rv h;obtain⟨l,xs,y,rfl,rfl,hH,hz,q⟩:=h;cases rx;obtain⟨u,rfl,ru⟩:=rv.one;obtain⟨z,its,n,r,hl,e⟩:=I.lstM hH;refine call_meets F.slot_list_append ⟨_,e,rfl⟩ F.entry_list_append (F.args_list_append_2 _ _) (PySem.list_append l its.toArray n u (by rw[xbs];lia)) ⟨e,?_⟩;refine⟨.non,_,I.lset (its':=its++[u]) hH e (by simp) (r.append (.cons ru .nil)) ?_,rfl,q⟩;rw[xbl,List.length_singleton];lia
noncomputable def rExtend:V->List V->Hp->VK->Prop:=fun x vs H Q=>∃l b xs zs,x=.ref l/\vs=[.ref b]/\H l=some (.lst xs)/\H b=some (.lst zs)/\xs.length+zs.length<=sizeLine/\Q .non (upd H l (.lst (xs++zs)))
theorem zww:MtM X "list.extend" rExtend:=by
 intro aU s σ H x vs v us Q I rx rv h;obtain⟨l,b,xs,zs,rfl,rfl,hH,hB,hz,q⟩:=h;cases rx;obtain⟨u,rfl,ru⟩:=rv.one;cases ru;obtain⟨z,its,n,r,hl,e⟩:=I.lstM hH;obtain⟨z2,its2,n2,r2,hl2,e2⟩:=I.lstM hB;have hsz:its.toArray.size+its2.toArray.size<=sizeLine:=by rw[xbs,xbs];lia
 have hlong:¬ (!its.toArray.isEmpty&&Builtin.List.listTooLong (its.toArray.size+its2.toArray.size))=true:=by
  rw[notLongL hsz,xlq];exact xeq
 refine call_meets F.slot_list_extend ⟨_,e,rfl⟩ F.entry_list_extend (F.args_list_extend_2 _ _)
  (AutoSeq1.list_extend_list_list_0 l its.toArray n b its2.toArray n2 hlong (by rw[xbs];lia) (by lia)) ⟨e,e2,?_⟩
 refine⟨.non,_,I.lset (its':=its++its2) hH e (by simp) (r.append r2) ?_,rfl,q⟩;rw[xbl];lia
noncomputable def rClear:V->List V->Hp->VK->Prop:=fun x vs H Q=>∃l xs,x=.ref l/\vs=[]/\H l=some (.lst xs)/\Q .non (upd H l (.lst []))
theorem zbbo:MtM X "list.clear" rClear:=by
 intro aU s σ H x vs v us Q I rx rv h;obtain⟨l,xs,rfl,rfl,hH,q⟩:=h;cases rx;have hus:=rv.zero;subst hus;obtain⟨z,its,n,r,hl,e⟩:=I.lstM hH;refine call_meets F.slot_list_clear ⟨_,e,rfl⟩ F.entry_list_clear (F.args_list_clear_1 _) (AutoSeq1.list_clear_list_0 l its.toArray n (by rw[xbs];lia)) ⟨e,?_⟩;exact⟨.non,_,I.lset (its':=[]) (ys:=[]) hH e rfl .nil (xdv _),rfl,q⟩
noncomputable def rCat:R2:=fun x y H Q=>∃l b xs zs,x=.ref l/\y=.ref b/\H l=some (.lst xs)/\H b=some (.lst zs)/\xs.length+zs.length<=sizeLine/\∀p,H p=none->Q (.ref p) (upd H p (.lst (xs++zs)))
theorem zbks:OpR X (binaryOp .Add) rCat:=by
 intro aU s σ H x y v u Q I rx ry h;obtain⟨l,b,xs,zs,rfl,rfl,hH,hB,hz,q⟩:=h;cases rx;cases ry;obtain⟨z,its,n,r,hl,e⟩:=I.lstM hH;obtain⟨z2,its2,n2,r2,hl2,e2⟩:=I.lstM hB;refine PySem.P.add_list e e2 ?_ (by rw[xbs,xbs];lia);have ea:its.toArray++its2.toArray=(its++its2).toArray:=by simp
 rw[ea];exact⟨.ref _,_,I.lnew (t':=s.toks) (r.append r2) (by rw[xbl];lia),rfl,q _ I.fresh⟩
end
section
variable {prog:Program}{w:World}{A:Around}{E:Value->Shared->Prop}{s:Shared}
end
section
variable {X:Cx}
end
section
variable {κ:Type}[DecidableEq κ]
noncomputable def valV (kvs:List (κ×V)) (k:κ):Option V:=(kvs.find? fun kv=>decide (kv.1=k)).map (·.2)
noncomputable def putK (kvs:List (κ×V)) (k:κ) (v:V):List (κ×V) :=
 if(kvs.any fun kv=>decide (kv.1=k))=true then kvs.map (fun kv=>if kv.1=k then(kv.1,v) else kv) else kvs++[(k,v)]
noncomputable def dropK (kvs:List (κ×V)) (k:κ):List (κ×V):=kvs.filter fun kv=>decide (kv.1≠k)
theorem zig {p:κ×V}{r:List (κ×V)}{k:κ}(e:p.1=k):valV (p::r) k=some p.2:=by simp[valV,xdk,e]
theorem zih {p:κ×V}{r:List (κ×V)}{k:κ}(e:¬ p.1=k):valV (p::r) k=valV r k:=by simp[valV,xdk,e]
theorem zsd (k:κ):∀kvs:List (κ×V),(kvs.any fun kv=>decide (kv.1=k))=(valV kvs k).isSome
 | []=>rfl
 | p::r=>by
  rw[xgv];by_cases e:p.1=k
  ·simp only[zig e,xbu e,Bool.true_or,xkk]
  ·rw[zih e,xbv e,Bool.false_or];exact zsd k r
theorem zkv (kvs:List (κ×V))(k:κ)(v:V):(putK kvs k v).length<=kvs.length+1:=by
 unfold putK;split
 ·rw[xbc];lia
 ·rw[xbl,xcb,xjr];lia
theorem RelO.isSome_eq {o:Option V}{u:Option Value}(r:RelO o u):o.isSome=u.isSome:=by
 cases o with
 | none=>cases u with
  | none=>rfl
  | some _=>exact(show False from r).elim
 | some _=>cases u with
  | none=>exact(show False from r).elim
  | some _=>rfl
theorem RelO.getD {o:Option V}{u:Option Value}{d:V}{d':Value}(r:RelO o u)(rd:RelV d d'):RelV (o.getD d) (u.getD d'):=by
 cases o with
 | none=>cases u with
  | none=>exact rd
  | some _=>exact(show False from r).elim
 | some _=>cases u with
  | none=>exact(show False from r).elim
  | some _=>exact r
theorem KV.val {kvs:List (κ×V)}{vs:List (κ×Value)}(r:KV kvs vs)(k:κ):RelO (valV kvs k) (valueAt vs k):=by
 unfold KV at r
 induction r with
 | nil=>exact True.intro
 | @cons p q ps qs h t ih =>
  obtain⟨h1,h2⟩:=h;by_cases e:p.1=k
  ·have e':q.1=k:=h1.symm.trans e;have b:valueAt (q::qs) k=some q.2:=by simp[valueAt,xdk,e']
   rw[zig e,b];exact h2
  ·have e':¬ q.1=k:=fun z=>e (h1.trans z)
   have b:valueAt (q::qs) k=valueAt qs k:=by simp[valueAt,xdk,e']
   rw[zih e,b];exact ih
theorem KV.any {kvs:List (κ×V)}{vs:List (κ×Value)}(r:KV kvs vs)(k:κ):(kvs.any fun kv=>decide (kv.1=k))=vs.any fun kv=>decide (kv.1=k):=by
 unfold KV at r
 induction r with
 | nil=>rfl
 | cons h t ih=>rw[xgv,xgv,ih,h.1]
theorem KV.repl {kvs:List (κ×V)}{vs:List (κ×Value)}(r:KV kvs vs)(k:κ){y:V}{u:Value}(ry:RelV y u) :
  KV (kvs.map fun kv=>if kv.1=k then(kv.1,y) else kv) (vs.map fun kv=>if kv.1=k then(kv.1,u) else kv):=by
 unfold KV at r ⊢
 induction r with
 | nil=>exact .nil
 | @cons p q ps qs h t ih =>
  rw[xbt,xbt];refine .cons ?_ ih;obtain⟨h1,h2⟩:=h;by_cases e:p.1=k
  ·rw[if_pos e,if_pos (h1.symm.trans e)];exact⟨h1,ry⟩
  ·rw[if_neg e,if_neg (fun z=>e (h1.trans z))];exact⟨h1,h2⟩
theorem KV.put {kvs:List (κ×V)}{vs:List (κ×Value)}(r:KV kvs vs)(k:κ){y:V}{u:Value}(ry:RelV y u):KV (putK kvs k y) (stored vs k u):=by
 unfold putK stored;rw[r.any k];by_cases e:(vs.any fun kv=>decide (kv.1=k))=true
 ·rw[if_pos e,if_pos e];exact r.repl k ry
 ·rw[if_neg e,if_neg e];exact Paired.snoc r ⟨rfl,ry⟩
theorem KV.length {kvs:List (κ×V)}{vs:List (κ×Value)}(r:KV kvs vs):kvs.length=vs.length:=xhk r
end
theorem zbdt {P:Program}{w:World}{k:Key}{u:Value}(r:RelV (kV k) u):(mixKind P w).is k u=true:=by
 cases k with
 | inl i=>obtain⟨t,e⟩:=(show ∃t,u=Value.int i t from r);subst e;exact zrn P w i t
 | inr x=>obtain⟨t,e⟩:=(show ∃t,u=Value.str x t from r);subst e;exact zrm P w x t
theorem zqa {P:Program}{w:World}:∀{ks:List Key} {us:List Value},Vals (ks.map kV) us->ItemsAre (mixKind P w) ks us
 | [],_,r=>by rw[xjs] at r;cases r;exact .nil
 | k::ks,_,r=>by
  rw[xbt] at r;cases r with
  | cons h t=>exact .cons (zbdt h) (zqa t)
noncomputable abbrev KT (H:Hp):List (List Key×V)->List (List Key×Addr×Value)->Prop:=Paired fun p q=>p.1=q.1/\H q.2.1=some (.tup (p.1.map kV))/\RelV p.2 q.2.2
theorem KT.val {H:Hp}{kvs:List (List Key×V)}{xs:List (List Key×Addr×Value)}(r:KT H kvs xs)(k:List Key):RelO (valV kvs k) ((atKey xs k).map (·.2)):=by
 induction r with
 | nil=>exact True.intro
 | @cons p q ps qs h t ih =>
  obtain⟨h1,_,h2⟩:=h;by_cases e:p.1=k
  ·have e':q.1=k:=h1.symm.trans e;have b:atKey (q::qs) k=some q.2:=by simp[atKey,xdk,e']
   rw[zig e,b];exact h2
  ·have e':¬ q.1=k:=fun z=>e (h1.trans z)
   have b:atKey (q::qs) k=atKey qs k:=by simp[atKey,xdk,e']
   rw[zih e,b];exact ih
theorem KT.repl {H:Hp}{kvs:List (List Key×V)}{xs:List (List Key×Addr×Value)}(r:KT H kvs xs)(k:List Key){y:V}{u:Value}(ry:RelV y u) :
  KT H (kvs.map fun kv=>if kv.1=k then(kv.1,y) else kv) (xs.map (putAt k u)):=by
 induction r with
 | nil=>exact .nil
 | @cons p q ps qs h t ih =>
  rw[xbt,xbt];refine .cons ?_ ih;obtain⟨h1,h2,h3⟩:=h;unfold putAt;by_cases e:p.1=k
  ·rw[if_pos e,if_pos (h1.symm.trans e)];exact⟨h1,h2,ry⟩
  ·rw[if_neg e,if_neg (fun z=>e (h1.trans z))];exact⟨h1,h2,h3⟩
theorem KT.put {H:Hp}{kvs:List (List Key×V)}{xs:List (List Key×Addr×Value)}(r:KT H kvs xs)(k:List Key){b:Addr}{y:V}{u:Value}(hb:H b=some (.tup (k.map kV)))(ry:RelV y u) :
  KT H (putK kvs k y) (storedH xs k b u):=by
 have e:(kvs.any fun kv=>decide (kv.1=k))=(atKey xs k).isSome:=by
  rw[zsd,(r.val k).isSome_eq,xkw]
 unfold putK storedH;rw[e];by_cases q:(atKey xs k).isSome=true
 ·rw[if_pos q,if_pos q];exact r.repl k ry
 ·rw[if_neg q,if_neg q];exact Paired.snoc r ⟨rfl,hb,ry⟩
theorem KT.keeps {H H':Hp}{kvs:List (List Key×V)}{xs:List (List Key×Addr×Value)}(r:KT H kvs xs)(ht:∀b ys,H b=some (.tup ys)->H' b=some (.tup ys)):KT H' kvs xs :=
 Paired.mapP r fun _ _ z=>⟨z.1,ht _ _ z.2.1,z.2.2⟩
section
variable {P:Program}{w:World}{H:Hp}{h:Heap}{a:Addr}
theorem zbns {u:HO}(ok:HOk P w H h)(e:Rd H a u):ObjOk P w H h a u:=e.ok ok
theorem zbcr {kvs:List (Key×V)}(ok:HOk P w H h)(e:Rd H a (.dK kvs)):kvs.length<=sizeLine/\(a==sysModules)=false/\∃vs,KV kvs vs/\h.DictOf (mixKind P w) a vs :=
 show ObjOk P w H h a (.dK kvs) from zbns ok e
theorem zbpr {kvs:List (Key×V)}(ok:HOk P w H h)(e:H a=some (.dK kvs)):kvs.length<=sizeLine/\(a==sysModules)=false/\∃vs,KV kvs vs/\h.DictOf (mixKind P w) a vs:=zbcr ok (.inl e)
theorem zot {ks:List Key}(ok:HOk P w H h)(e:H a=some (.tup (ks.map kV))):(tupleKind (mixKind P w)).is h ks a:=by
 obtain⟨_,its,r,o,h1,h2,n,h3⟩:=(show ObjOk P w H h a (.tup (ks.map kV)) from ok a _ e)
 exact⟨o,its.toArray,n,h1,h2,h3,by simpa using zqa r⟩
theorem zbci {kvs:List (List Key×V)}(ok:HOk P w H h)(e:Rd H a (.dT kvs)):kvs.length<=sizeLine/\(a==sysModules)=false /\
  ∃xs,KT H kvs xs/\h.DictOfH (tupleKind (mixKind P w)) a xs:=by
 obtain⟨z,y,xs,r,o,es,ep,h1,h2,h3,h4,h5⟩:=(show ObjOk P w H h a (.dT kvs) from zbns ok e)
 refine⟨z,y,xs,r,o,es,ep,h1,h2,h3,h4,fun x hx=>?_,h5⟩;have all:∀{l:List (List Key×V)} {m:List (List Key×Addr×Value)},KT H l m->∀x∈m,(tupleKind (mixKind P w)).is h x.1 x.2.1:=by
  intro l m q
  induction q with
  | nil=>intro x hx;exact nomatch hx
  | @cons p q ps qs hq t ih =>
   intro x hx;rcases xbx.mp hx with e | hx
   ·subst e;exact zot ok (by rw[← hq.1];exact hq.2.1)
   ·exact ih x hx
 exact all r x hx
theorem zbog {kvs:List (List Key×V)}(ok:HOk P w H h)(e:H a=some (.dT kvs)):kvs.length<=sizeLine/\(a==sysModules)=false /\
 ∃xs,KT H kvs xs/\h.DictOfH (tupleKind (mixKind P w)) a xs:=zbci ok (.inl e)
end
noncomputable def DGet (H:Hp) (a:Addr) (y:V) (r:Option V):Prop :=
 (∃kvs k,Rd H a (.dK kvs)/\y=kV k/\r=valV kvs k)\/∃kvs k b,Rd H a (.dT kvs)/\y=.ref b/\H b=some (.tup (k.map kV))/\r=valV kvs k
noncomputable def DPut (H:Hp) (a:Addr) (y v:V) (H':Hp):Prop :=
 (∃kvs k,H a=some (.dK kvs)/\y=kV k/\kvs.length < sizeLine/\H'=upd H a (.dK (putK kvs k v))) \/
 ∃kvs k b,H a=some (.dT kvs)/\y=.ref b/\H b=some (.tup (k.map kV))/\kvs.length < sizeLine/\H'=upd H a (.dT (putK kvs k v))
theorem DPut.k {H:Hp}{a:Addr}{kvs:List (Key×V)}{k:Key}{v:V}(e:H a=some (.dK kvs))(hl:kvs.length < sizeLine):DPut H a (kV k) v (upd H a (.dK (putK kvs k v))):=.inl ⟨kvs,k,e,rfl,hl,rfl⟩
theorem DPut.t {H:Hp}{a b:Addr}{kvs:List (List Key×V)}{k:List Key}{v:V}(e:H a=some (.dT kvs))(eb:H b=some (.tup (k.map kV)))(hl:kvs.length < sizeLine) :
 DPut H a (.ref b) v (upd H a (.dT (putK kvs k v))):=.inr ⟨kvs,k,b,e,rfl,eb,hl,rfl⟩
section
variable {X:Cx}{aU:List (Addr×Obj)}{σ:St}{H:Hp}{s:Shared}{a:Addr}{y v:V}{u r:Value}{o:Option V}{A:Around}{E:Value->Shared->Prop}
theorem Inv.big (I:Inv X aU σ H s):sysModules < s.heap.objs.size:=by
 have h:mainGlobals < s.heap.objs.size:=(I.mod.glob.keeps I.bk).lt;exact xic (by decide) h
theorem zxv {Q:Value->Shared->Prop}(hu:A.units+1 < cLine)(I:Inv X aU σ H s)(g:DGet H a y (some v))(ry:RelV y u)(h:∀w' s',Inv X aU σ H s'->RelV v w'->Q w' s') :
  wpAny (model X.prog X.w) A (getItem (.ref a) u) Q E s:=by
 rcases g with⟨kvs,k,e,ey,l⟩ | ⟨kvs,k,b,e,ey,eb,l⟩
 ·subst ey;obtain⟨z,hd,vs,rel,dd⟩:=zbcr I.hok e;obtain⟨w',hw,rw'⟩:=RelO.some_of (v:=v) (o:=valueAt vs k) (by rw[l];exact rel.val k);exact wpAny_getItem_of (zbdt ry) dd.mapOf hw (h w' _ (I.tok _) rw')
 ·subst ey;cases(show u=Value.ref b from ry);obtain⟨z,hd,xs,rel,dd⟩:=zbci I.hok e;obtain⟨w',hw,rw'⟩:=RelO.some_of (v:=v) (o:=(atKey xs k).map (·.2)) (by rw[l];exact rel.val k);obtain⟨p,hp,hp2⟩:=xcz.mp hw;refine wpAny_getItem_heap (xgn hu) (zot I.hok eb) dd hp ?_;rw[hp2];exact h w' _ (I.tok _) rw'
theorem d_in {Q:Value->Shared->Prop}(hu:A.units+1 < cLine)(I:Inv X aU σ H s)(g:DGet H a y o)(ry:RelV y u)(h:∀s',Inv X aU σ H s'->Q (.bool o.isSome) s') :
  wpAny (model X.prog X.w) A (compareOp .In u (.ref a)) Q E s:=by
 rcases g with⟨kvs,k,e,ey,l⟩ | ⟨kvs,k,b,e,ey,eb,l⟩
 ·subst ey;obtain⟨z,hd,vs,rel,dd⟩:=zbcr I.hok e;refine wpAny_in_of (zbdt ry) hd dd.mapOf ?_;rw[← (rel.val k).isSome_eq,← l];exact h _ (I.tok _)
 ·subst ey;cases(show u=Value.ref b from ry);obtain⟨z,hd,xs,rel,dd⟩:=zbci I.hok e;refine wpAny_in_heap (xgn hu) (zot I.hok eb) hd dd ?_;have q:=(rel.val k).isSome_eq;rw[xkw] at q;rw[← q,← l];exact h _ (I.tok _)
theorem zbhr {Q:Value->Shared->Prop}(hu:A.units+1 < cLine)(I:Inv X aU σ H s)(g:DGet H a y o)(ry:RelV y u)(h:∀s',Inv X aU σ H s'->Q (.bool (!o.isSome)) s') :
  wpAny (model X.prog X.w) A (compareOp .NotIn u (.ref a)) Q E s:=by
 rcases g with⟨kvs,k,e,ey,l⟩ | ⟨kvs,k,b,e,ey,eb,l⟩
 ·subst ey;obtain⟨z,hd,vs,rel,dd⟩:=zbcr I.hok e;refine wpAny_notIn_of (zbdt ry) hd dd.mapOf ?_;rw[← (rel.val k).isSome_eq,← l];exact h _ (I.tok _)
 ·subst ey;cases(show u=Value.ref b from ry);obtain⟨z,hd,xs,rel,dd⟩:=zbci I.hok e;refine wpAny_notIn_heap (xgn hu) (zot I.hok eb) hd dd ?_;have q:=(rel.val k).isSome_eq;rw[xkw] at q;rw[← q,← l];exact h _ (I.tok _)
theorem zug {h':Heap}{t':Nat}{ob:HO}(I:Inv X aU σ H s)(mu:Mut (H a))(hs:Heap.SameBut a s.heap h')(he:∃q,h'.get? a=some q)(new:ObjOk X.prog X.w (upd H a ob) h' a ob) :
  Inv X aU σ (upd H a ob) {s with heap:=h',toks:=t'} :=
 I.write (x:=a) (e:=a) mu (.inl rfl) (fun b q hb z=>(hs.2 b hb).trans z) he new
theorem zbme {P:Program}{w:World}{H':Hp}{h':Heap}{kvs:List (Key×V)}{vs:List (Key×Value)}(z:kvs.length<=sizeLine)(hd:(a==sysModules)=false)(rel:KV kvs vs)(dd:h'.DictOf (mixKind P w) a vs) :
 ObjOk P w H' h' a (.dK kvs):=⟨z,hd,vs,rel,dd⟩
theorem zxt {H':Hp}{Q:Unit->Shared->Prop}(hu:A.units+1 < cLine)(I:Inv X aU σ H s)(g:DPut H a y v H')(ry:RelV y u)(rv:RelV v r)(h:∀s',Inv X aU σ H' s'->Q () s') :
  wpAny (model X.prog X.w) A (setItem (.ref a) u r) Q E s:=by
 rcases g with⟨kvs,k,e,ey,l,eH⟩ | ⟨kvs,k,b,e,ey,eb,l,eH⟩
 ·subst ey eH;obtain⟨z,hd,vs,rel,dd⟩:=zbpr I.hok e;have hz:vs.length<=sizeLine:=by rw[← rel.length];exact z
  have hl:(putK kvs k v).length<=sizeLine:=by have:=zkv kvs k v;lia
  refine wpAny_setItem_pairs (hsz:=hz) (zbdt ry) dd fun h' dd' hs=>h _ ?_
  have he:∃q,h'.get? a=some q:=let ⟨q,_,_,hq,_⟩:=dd';⟨q,hq⟩
  exact zug I (by rw[e];exact True.intro) hs he (zbme hl hd (rel.put k rv) dd')
 ·subst ey eH;cases(show u=Value.ref b from ry);obtain⟨z,hd,xs,rel,dd⟩:=zbog I.hok e;have hz:xs.length<=sizeLine:=by rw[← xhk rel];exact z
  have hl:(putK kvs k v).length<=sizeLine:=by have:=zkv kvs k v;lia
  refine wpAny_setItem_heap (hsz:=hz) (xgn hu) (zot I.hok eb) dd fun h' dd' hs=>h _ ?_
  obtain⟨q,es,ep,hq,h2,h3,h4,_,h5⟩:=dd';refine zug I (by rw[e];exact True.intro) hs ⟨q,hq⟩ ⟨hl,hd,_,(rel.put k eb rv).keeps fun c ys ec=>?_,q,es,ep,hq,h2,h3,h4,h5⟩;rw[zy (zboa ec e (fun z=>nomatch z))];exact ec
end
section
variable {X:Cx}{aU:List (Addr×Obj)}{σ:St}{H:Hp}{s:Shared}{a:Addr}{kvs:List (Key×V)}{k:Key}{u:Value}{A:Around}{E:Value->Shared->Prop}
end
noncomputable def NoSl (i:Expr):Prop:=∀ov iv,subscripted i false ov iv=operate [ov,iv] (getItem ov iv)
theorem zbek {prog:Program}{w:World}{A:Around}{E:Value->Shared->Prop}{s:Shared}{env:Env}{value slice:Expr}{pos:Pos}{T id:String}{Q:Value->Shared->Prop}
  (hl:typeLookup (.type T) "__getitem__"=pure (some (.builtin id)))(hs:NoSl slice)
  (h:wpAny (model prog w) A (eval value env) (fun o s₁=>wpAny (model prog w) A (eval slice env) (fun i s₂=>s₂.TypeIs o T/\wpAny (model prog w) A (getItem o i) Q E s₂) E s₁) E s) :
  wpAny (model prog w) A (eval (.Subscript value slice pos) env) Q E s:=by
 refine Subscript_ (xef h (fun o s₁ h₁=>xef h₁ (fun i s₂ h₂=>?_) fun _ _ x=>x) fun _ _ x=>x);obtain⟨hT,h₂⟩:=h₂;unfold subscriptTail;refine xba ?_;rw[getitemInPython_of_ne hT.not_modules];refine xba (wpAny_specialOf hT hl ?_);have fin:wpAny (model prog w) A (subscripted slice false o i) (fun r s₃=>wpAny (model prog w) A (letTemporaryGo value o r >>= fun _=>pure r) Q E s₃) E s₂:=by
  rw[hs o i];exact wpAny_operating (xef h₂ (fun r s₃ h₃=>xba (wpAny_letTemporaryGo (xbh h₃))) fun _ _ x=>x)
 first
  | exact xbh (xba fin)
  | exact xba (xbh (xba fin))
  | exact xba fin
theorem zrs {X:Cx}{aU:List (Addr×Obj)}{σ:St}{H:Hp}{s:Shared}{a:Addr}{y:V}{o:Option V}(I:Inv X aU σ H s)(g:DGet H a y o):s.TypeIs (.ref a) "dict":=by
 rcases g with⟨kvs,k,e,_,_⟩ | ⟨kvs,k,b,e,_,_,_⟩
 ·obtain⟨_,_,vs,_,dd⟩:=zbcr I.hok e;exact dd.typeIs
 ·obtain⟨_,_,xs,_,dd⟩:=zbci I.hok e;exact dd.typeIs
noncomputable def tDGet (td ty:TE):TE:=fun σ H Q=>td σ H fun x H1=>ty σ H1 fun y H2=>∃a v,x=.ref a/\DGet H2 a y (some v)/\Q v H2
noncomputable def tDIn (ty td:TE):TE:=fun σ H Q=>ty σ H fun y H1=>td σ H1 fun x H2=>∃a o,x=.ref a/\DGet H2 a y o/\Q (.bl o.isSome) H2
noncomputable def tDNotIn (ty td:TE):TE:=fun σ H Q=>ty σ H fun y H1=>td σ H1 fun x H2=>∃a o,x=.ref a/\DGet H2 a y o/\Q (.bl (!o.isSome)) H2
noncomputable def sDPut (td ty tv:TE):TS:=fun D σ H=>tv σ H fun v H1=>td σ H1 fun x H2=>ty σ H2 fun y H3=>∃a H4,x=.ref a/\DPut H3 a y v H4/\D.nx σ H4
section
variable {X:Cx}{o i e value:Expr}{pos pos' tpos:Pos}{td ty tv:TE}
theorem zyr (hu:X.A.units+1 < cLine)(ho:PE X o td)(hi:PE X i ty)(hs:NoSl i):PE X (.Subscript o i pos) (tDGet td ty):=by
 intro aU s σ H Q I h;refine zbek F.slot_dict_getitem.lookup hs (thn (ho aU s σ H _ I h) fun u s1 ⟨x,H1,I1,rx,q1⟩=>thn (hi aU s1 σ H1 _ I1 q1) fun iv s2 hq0=>?_);obtain⟨y,H2,I2,ry,a,v,ex,g,q2⟩:=hq0;subst ex;obtain rfl:u=Value.ref a:=rx;exact⟨zrs I2 g,zxv hu I2 g ry fun w' s3 I3 rw'=>⟨v,H2,I3,rw',q2⟩⟩
theorem zbfn (hu:X.A.units+1 < cLine)(hi:PE X i ty)(ho:PE X o td):PC X .In i o (tDIn ty td):=by
 intro aU s σ H Q I h;refine thn (hi aU s σ H _ I h) fun iv s1 ⟨y,H1,I1,ry,q1⟩=>thn (ho aU s1 σ H1 _ I1 q1) fun u s2 hq0=>?_
 obtain⟨x,H2,I2,rx,a,ov,ex,g,q2⟩:=hq0;subst ex;obtain rfl:u=Value.ref a:=rx;exact d_in hu I2 g ry fun s3 I3=>⟨.bl ov.isSome,H2,I3,rfl,q2⟩
theorem zwn (hu:X.A.units+1 < cLine)(hi:PE X i ty)(ho:PE X o td):PC X .NotIn i o (tDNotIn ty td):=by
 intro aU s σ H Q I h;refine thn (hi aU s σ H _ I h) fun iv s1 ⟨y,H1,I1,ry,q1⟩=>thn (ho aU s1 σ H1 _ I1 q1) fun u s2 hq0=>?_
 obtain⟨x,H2,I2,rx,a,ov,ex,g,q2⟩:=hq0;subst ex;obtain rfl:u=Value.ref a:=rx;exact zbhr hu I2 g ry fun s3 I3=>⟨.bl (!ov.isSome),H2,I3,rfl,q2⟩
theorem zyp (hu:X.A.units+1 < cLine)(ho:PE X o td)(hi:PE X i ty)(hv:PE X value tv)(hs:swapsWith value (some (.Subscript o i pos')) pos.line X.env=pure false) :
  PS X (.Assign [.Subscript o i pos'] value pos) (sDPut td ty tv):=by
 intro aU s σ H D I h;refine wpAny_Assign_Subscript (thn (hv aU s σ H _ I h) fun r s1 ⟨v,H1,I1,rv,q1⟩=>thn (ho aU s1 σ H1 _ I1 q1) fun u s2 ⟨x,H2,I2,rx,q2⟩=>thn (hi aU s2 σ H2 _ I2 q2) fun iv s3 hq0=>?_) hs;obtain⟨y,H3,I3,ry,a,H4,ex,g,q3⟩:=hq0;subst ex;obtain rfl:u=Value.ref a:=rx;exact zxt hu I3 g ry rv fun s4 I4=>⟨σ,H4,I4,q3⟩
end
theorem zbcs {P:Program}{w:World}{H:Hp}(h:Heap)(hb:sysModules < h.objs.size):ObjOk P w H (h.push { cls:=.type "dict", data:=.dict #[] }) h.objs.size (.dK []) :=
 ⟨xdv _,xgf.mpr (xcs (xcl hb)),[],.nil,Heap.DictOf.new h⟩
theorem zbcj {P:Program}{w:World}{H:Hp}(h:Heap)(hb:sysModules < h.objs.size):ObjOk P w H (h.push { cls:=.type "dict", data:=.dict #[] }) h.objs.size (.dT []) :=
 ⟨xdv _,xgf.mpr (xcs (xcl hb)),[],.nil,_,#[],0,xbw _ rfl,⟨rfl,rfl,rfl⟩,rfl,rfl,xiu⟩
noncomputable def tDNewK:TE:=fun _ H Q=>∀p,H p=none->Q (.ref p) (upd H p (.dK []))
noncomputable def tDNewT:TE:=fun _ H Q=>∀p,H p=none->Q (.ref p) (upd H p (.dT []))
section
variable {X:Cx}{pos:Pos}
theorem zbbd:PE X (.Dict [] [] pos) tDNewK:=fun aU s σ H Q I h =>
 wpAny_Dict_empty ⟨.ref s.heap.objs.size,_,I.laid (a:=s.heap.objs.size) (o:=.dK []) (t':=s.toks) (fun _ _ q=>xbd _ q) (xbe _) (zbcs s.heap I.big),rfl,h _ (I.hok.fresh (xbe _))⟩
theorem zbbc:PE X (.Dict [] [] pos) tDNewT:=fun aU s σ H Q I h =>
 wpAny_Dict_empty ⟨.ref s.heap.objs.size,_,I.laid (a:=s.heap.objs.size) (o:=.dT []) (t':=s.toks) (fun _ _ q=>xbd _ q) (xbe _) (zbcj s.heap I.big),rfl,h _ (I.hok.fresh (xbe _))⟩
end
structure M1 (X:Cx) (o:Expr) (m:Str) (apos:Pos) (e:Expr) (cpos:Pos):Prop where
 base:attributeBase o m X.env (eval o X.env)=eval o X.env
 few:((backTo cpos (starEach [e] X.env)).all (fun x=>!x.1)&&(backToKw cpos (keywordEach [] X.env)).all (fun x=>x.1.isSome)
  && decide (([e]:List Expr).length+([]:List Keyword).length+(if([]:List Keyword).isEmpty then 0 else 1) < 30))=true
 line:(apos.endLine==cpos.line)=true
 trees:backTo cpos (starEach [e] X.env)=[(false,eval e X.env)]
structure M2 (X:Cx) (o:Expr) (m:Str) (apos:Pos) (e f:Expr) (cpos:Pos):Prop where
 base:attributeBase o m X.env (eval o X.env)=eval o X.env
 few:((backTo cpos (starEach [e,f] X.env)).all (fun x=>!x.1)&&(backToKw cpos (keywordEach [] X.env)).all (fun x=>x.1.isSome)
  && decide (([e,f]:List Expr).length+([]:List Keyword).length+(if([]:List Keyword).isEmpty then 0 else 1) < 30))=true
 line:(apos.endLine==cpos.line)=true
 trees:backTo cpos (starEach [e,f] X.env)=[(false,eval e X.env),(false,eval f X.env)]
noncomputable def IsD (H:Hp) (a:Addr):Prop:=(∃kvs,Rd H a (.dK kvs))\/∃kvs,Rd H a (.dT kvs)
theorem zbgm {X:Cx}{aU:List (Addr×Obj)}{σ:St}{H:Hp}{s:Shared}{a:Addr}(I:Inv X aU σ H s)(d:IsD H a) :
  s.TypeIs (.ref a) "dict"/\(∀ b, Value.ref a=.ref b->∃ ob, s.heap.get? b=some ob/\ob.dict=none)/\(a==sysModules)=false:=by
 rcases d with⟨kvs,e⟩ | ⟨kvs,e⟩
 ·obtain⟨_,hd,vs,_,dd⟩:=zbcr I.hok e;refine⟨dd.typeIs,fun b q=>?_,hd⟩;cases q;obtain⟨ob,_,_,h1,h2,_⟩:=dd;exact⟨ob,h1,h2.2.1⟩
 ·obtain⟨_,hd,xs,_,dd⟩:=zbci I.hok e;refine⟨dd.typeIs,fun b q=>?_,hd⟩;cases q;obtain⟨ob,_,_,h1,h2,_⟩:=dd;exact⟨ob,h1,h2.2.1⟩
section
variable {X:Cx}{aU:List (Addr×Obj)}{σ:St}{H:Hp}{s:Shared}{a:Addr}{y d:V}{u r:Value}{o:Option V}{A:Around}{E:Value->Shared->Prop}
theorem zbml {Q:Value->Shared->Prop}(hu:A.units+1 < cLine)(I:Inv X aU σ H s)(g:DGet H a y o)(ry:RelV y u)(rd:RelV d r)(h:∀w' s',Inv X aU σ H s'->RelV (o.getD d) w'->Q w' s') :
  wpAny (model X.prog X.w) A (call (.builtin "dict.get") [.ref a, u, r]) Q E s:=by
 rcases g with⟨kvs,k,e,ey,l⟩ | ⟨kvs,k,b,e,ey,eb,l⟩
 ·subst ey;obtain⟨z,hd,vs,rel,dd⟩:=zbcr I.hok e;refine call_meetsIn xjo dd.typeIs F.entry_dict_get (F.args_dict_get_3 _ _ _) (meets_dict_get_default (mixKind X.prog X.w) a (zbdt ry) hd r) ⟨_,dd.mapOf,h _ _ (I.tok _) ?_⟩;rw[l];exact(rel.val k).getD rd
 ·subst ey;cases(show u=Value.ref b from ry);obtain⟨z,hd,xs,rel,dd⟩:=zbci I.hok e;refine call_meetsIn xjo dd.typeIs F.entry_dict_get (F.args_dict_get_3 _ _ _) (meetsH_dict_get_default (tupleKind (mixKind X.prog X.w)) a b hd r) ⟨xgn hu,k,xs,zot I.hok eb,dd,h _ _ (I.tok _) ?_⟩;rw[l];exact(rel.val k).getD rd
end
noncomputable def tDGet2 (td ty tx:TE):TE:=fun σ H Q=>td σ H fun x H1=>∃a,x=.ref a/\IsD H1 a/\ty σ H1 fun y H2=>tx σ H2 fun z H3=>∃o,DGet H3 a y o/\Q (o.getD z) H3
section
variable {X:Cx}{o e f:Expr}{apos cpos:Pos}{td ty tx:TE}
theorem zbbe (hu:X.A.units + 1 < cLine)(ho:PE X o td)(he:PE X e ty)(hf:PE X f tx)(m:M2 X o "get" apos e f cpos):PE X (.Call (.Attribute o "get" apos) [e, f] [] cpos) (tDGet2 td ty tx):=by
 intro aU s σ H Q I h;refine wpAny_Call_method m.base m.few m.line F.plainAttrs_dict xjo F.type_dict_get (thn (ho aU s σ H _ I h) fun u s1 hq0=>?_);obtain⟨x,H1,I1,rx,a,ex,d,q1⟩:=hq0;subst ex;obtain rfl:u=Value.ref a:=rx;obtain⟨t1,t2,_⟩:=zbgm I1 d;refine⟨t1,t2,?_⟩;rw[m.trees]
 refine xhu rfl (xjt (xhm (thn (he aU s1 σ H1 _ I1 q1) fun iv s2 ⟨y,H2,I2,ry,q2⟩ =>
  xhm (thn (hf aU s2 σ H2 _ I2 q2) fun fv s3 ⟨z,H3,I3,rz,ov,g,q3⟩=>xjb ?_))))
 exact zbml hu I3 g ry rz fun w' s4 I4 rw'=>⟨_,H3,I4,rw',q3⟩
end
section
variable {X:Cx}{aU:List (Addr×Obj)}{σ:St}{H:Hp}{s:Shared}{a:Addr}{kvs:List (Key×V)}{A:Around}{E:Value->Shared->Prop}
end
section
variable {X:Cx}{aU:List (Addr×Obj)}{σ:St}{H:Hp}{s:Shared}{a:Addr}{y:V}{u:Value}{A:Around}{E:Value->Shared->Prop}
end
end L2
namespace Att
open PySem PySem.W PySem.Calls PyProof.Rows
theorem zkb {P:Params}{h:Heap}:∀(ns:List Int) (vs:List Value),WellAll P h vs (ns.map WData.int)->IntsAre vs ns:=by
 intro ns
 induction ns with
 | nil =>
  intro vs w;rw[xjs] at w;cases w;exact .nil
 | cons n ns ih =>
  intro vs w;rw[xbt] at w;cases w with
  | cons a b =>
   cases a;exact .cons _ _ (ih _ b)
theorem zwb {l:OpenLaw}{n:Nat}(hn:l.most=some n){P:Params}{h:Heap}{args:List WData}{vals:List Value}
  (hpre:l.row.toRowW.claim.pre args=true)(hwl:WellAll P h vals args) :
  ∃ a vs ns, vals=[Value.ref a]/\args=[WData.list (ns.map WData.int)]/\h.get? a=some { cls:=.type "list", data:=.seq vs.toArray }/\IntsAre vs ns/\ns.length<=n:=by
 have hsh:WShape.hasAll [] args [.list .int]=true:=(pre_splitW hpre).1;have hc:l.pre.holds [] {args:=args}=true:=(pre_splitW hpre).2;obtain⟨d,r,rfl,h1,h2⟩:=hasAllW_cons hsh;obtain rfl:=hasAllW_nil h2;obtain⟨xs,rfl,h3⟩:=hasW_list h1;obtain⟨ns,rfl⟩:=items_int h3;have hlen:ns.length<=n:=by
  unfold OpenLaw.pre at hc;have h4:(WTm.not (.lt (.lit (.int (n:Int))) (.len (.arg 0)))).holds [] {args:=[.list (ns.map .int)]}=true:=by
   have h4:=(holds_andW hc).1;rw[hn] at h4;exact h4
  have h5:=condW_of h4 (w_not (w_lt w_lit (w_len_list (w_arg rfl))));rw[xbc] at h5;refine xcc fun q=>?_
  have q':(n:Int) < ((ns.length:Nat):Int):=by lia
  first
   | (rw[xbu q'] at h5;exact absurd h5 (by decide))
   | (simp at h5;lia)
 cases hwl with
 | cons w1 w2 =>
  cases w2;cases w1 with
  | list ho hall=>exact⟨_,_,ns,rfl,rfl,ho,zkb ns _ hall,hlen⟩
theorem zwi (l:OpenLaw)(args:List WData):l.row.toRowW.claim.post args (.bool true) args=true :=
 postW_of (r:=l.row.toRowW) (X:=(true==true))
  (show WShape.has [] (.bool true) .bool=true by first | rfl | decide | simp[WShape.has,WShape.arms,WShape.armsAll])
  (show(WTm.eq .res (.lit (.bool true))).value [] {args:=args,res:=some (.bool true),after:=args}=some (.bool (true==true)) from w_eq_bool (w_res rfl) w_lit) rfl
theorem attach_call {l:OpenLaw}{n:Nat}{q:Program}{loose:List Str}{XP:(Str->Option Value)->Heap->Prop}{YP:World->Heap->Prop}{d:DefRec}
  (hn:l.most=some n)(hdf:d.params.defaults=[])
  (call:∀(w:World) (s₀ s₁:Shared) (mg mb:Str->Option Value) (fa:Addr) (o:Obj) (pm cd doc:Value) (a:Addr) (vs:List Value) (ns:List Int),
   Ground q loose [] XP w s₀ mg mb s₁.heap->YP w s₁.heap ->
   s₁.heap.get? fa=some o->o.data=.func (docDef d.name d.params d.body d.scope pm cd doc)->s₁.heap.CodeRec cd d.name->mg d.name=some (.ref fa) ->
   s₁.heap.get? a=some { cls:=.type "list", data:=.seq vs.toArray }->IntsAre vs ns->ns.length<=n->s₁.gens=#[] ->
   codeAny (model l.prog w) callerA (.call (.ref fa) ⟨[.ref a],[]⟩) (fun r s'=>r=.ok (.ret (.bool true))/\OldK s₁.heap s'.heap/\s'.os=s₁.os/\AllBare s'.gens) s₁) :
  WalkO q loose XP YP l.row.toRowW d [] (fun f vs=>PySem.call f vs):=by
 intro w s₀ s₁ mg mb G Y fa o pm cd doc dV kV ho hd hcd hD hmg hg args vals as hpre hlay hrd hwl hlo;obtain rfl:dV=.none:=Dflts.none hD hdf;obtain rfl:kV=.none:=Dflts.noKw hD;obtain⟨a,vs,ns,rfl,rfl,hobj,hints,hlen⟩:=zwb hn hpre hwl;refine enter_call (codeAny_mono (call w s₀ s₁ mg mb fa o pm cd doc a vs ns G Y ho (fd_plain hd) hcd hmg hobj hints hlen hg) fun r s' hq=>?_);obtain⟨rfl,h2,h3,h4⟩:=hq;exact⟨.inl ⟨.bool true,.bool true,[],rfl,fun _=>rfl,.bool true,zwi l _,fun _=>⟨List.Pairwise.nil,fun _ hm=>(nomatch hm)⟩⟩,h2,h3,h4⟩
section
variable {prog:Program}{w:World}{A:Around}{E:Value->Shared->Prop}{s:Shared}{K:Frag}
end
end Att
namespace L2
open PySem PySem.Spec PyProof.Rows
theorem zpk:∀{vs:List Value} {ns:List Int},IntsAre vs ns->Vals (ns.map V.int) vs
 | _,_,.nil=>.nil
 | _,_,.cons n t h=>.cons ⟨t,rfl⟩ (zpk h)
noncomputable def Only (H:Hp):Prop:=∀b,H b=none\/∃o xs,H b=some (.frz o (.lst xs))
theorem zbbt {P:Program}{w:World}{K:Fg}{mg mb:Str->Option Value}{CX:CXT}{k:Nat}{fa a:Addr}{fd:FuncData}{x:Str}{sp:Sp}{s₁:Shared}{vs:List Value}{ns:List Int}
  (KX:K.In s₁.heap)(hns:s₁.heap.Ns mainGlobals mg)(hb:s₁.heap.Ns builtinsNs mb)(hbb:∀ x:Str, x≠"__name__"->mb x=bootBuiltins x)(hlim:s₁.heap.NoLimit)(hg:s₁.gens=#[])
  (ha:s₁.heap.get? a=some { cls:=.type "list", data:=.seq vs.toArray })(hi:IntsAre vs ns)(hl:ns.length<=sizeLine)(hr:Room k callerA)
  (F:∀base:Heap,K.In base->base.Ns mainGlobals mg->FnOk P w K mg base CX k fa fd [x] sp)(hbind:∀(s:Shared) (u:Value),BindsTo s fd ⟨[u],[]⟩ [(x,u)])
  (hsp:∀H:Hp,Only H->SqL K H a (ns.map V.int)->sp [.ref a] H (fun v _=>v=.bl true) fun _ _ _=>False)
  (hCX:∀H e s',CX [] H s₁ (fun _ _ _=>False) e s'->False) :
  codeAny (model P w) callerA (.call (.ref fa) ⟨[.ref a],[]⟩) (fun r s'=>r=.ok (.ret (.bool true))/\OldK s₁.heap s'.heap/\s'.os=s₁.os/\AllBare s'.gens) s₁:=by
 have rv:=zpk hi;have lenV:=hi.length;have core:∀H:Hp,Only H->SqL K H a (ns.map V.int)->HOk P w H s₁.heap->(∀b,H b≠none->b=a)->(H a≠none->K.lookup a=none) ->
   codeAny (model P w) callerA (.call (.ref fa) ⟨[.ref a],[]⟩) (fun r s'=>r=.ok (.ret (.bool true))/\OldK s₁.heap s'.heap/\s'.os=s₁.os/\AllBare s'.gens) s₁:=by
  intro H hO hS hok hA hK;have base_of:∀{b:Addr} {o:Obj},s₁.heap.get? b=some o->H b=none->(hidT s₁.heap H).get? b=some o:=fun e n=>zbce e n
  have noA:∀{b:Addr} {o:Obj} {es:Array DictEntry} {ep:Nat},s₁.heap.get? b=some o->o.data=.dict es ep->H b=none:=fun {b o es ep} e d=>by
   cases q:H b with
   | none=>rfl
   | some u =>
    have e':b=a:=hA b (by rw[q];simp);subst e';rw[ha] at e;cases e
    have d':Data.seq vs.toArray _=Data.dict es ep:=d;cases d'
  have nsK:∀{b:Addr} {m:Str->Option Value},s₁.heap.Ns b m->(hidT s₁.heap H).Ns b m:=fun {b m} ⟨o,es,ep,e,d,r⟩=>⟨o,es,ep,base_of e (noA e d),d,r⟩
  have hKb:K.In (hidT s₁.heap H):=fun b o e=>base_of (KX b o e) (by
   cases q:H b with
   | none=>rfl
   | some u =>
    have e':b=a:=hA b (by rw[q];simp);subst e'
    rw[hK (by rw[q];simp)] at e;cases e)
  have hM:Mod K mg (hidT s₁.heap H):=⟨hKb,nsK hns,⟨mb,nsK hb,hbb⟩,let ⟨mc,h1,h2⟩:=hlim;⟨mc,nsK h1,h2⟩⟩
  have e0:Env0 P w K mg (hidT s₁.heap H) callerA [] s₁ H:=⟨rfl,hM,fun b o e=>zbfv e,xdf (zxm _ _),trivial,fun b hb=>absurd (show b∈([]:List Addr) from hb) (by simp),hok,.of_eq hg⟩
  refine codeAny_mono ((F _ hKb (nsK hns)).run callerA [] s₁ H ⟨[.ref a],[]⟩ [.ref a] [.ref a] _ _ hr e0 (hbind s₁ (.ref a)) (.cons rfl .nil) (hsp H hO hS)) fun r s' h=>?_
  cases r with
  | error e=>exact(hCX H e s' h).elim
  | ok fl =>
   cases fl with
   | next=>exact False.elim h
   | brk=>exact False.elim h
   | cont=>exact False.elim h
   | ret u =>
    obtain⟨v,H',os,bare,un,hok',r',q⟩:=h;have q':v=.bl true:=q;subst q';obtain rfl:u=Value.bool true:=r';refine⟨rfl,OldK.of_keep fun b o e=>?_,os,bare⟩;cases q:H b with
    | none=>exact un.keep b o e q (by intro z;exact absurd (show b∈([]:List Addr) from z) (by simp)) (by simp)
    | some u =>
     rcases hO b with z | ⟨ob,xs,z⟩
     ·rw[q] at z;cases z
     ·have z2:=un.frzs b ob _ z;obtain⟨e1,_⟩:=hok b _ z;obtain⟨e2,_⟩:=hok' b _ z2;rw[e] at e1;cases e1
      exact e2
 cases hk:K.lookup a with
 | some o =>
  have e:=KX a o hk;rw[ha] at e;cases e;refine core (fun _=>none) (fun _=>.inl rfl) (.inr ⟨_,vs.toArray,_,hk,rfl,rfl,rfl,by rw[xbs,lenV];exact hl,by simpa using rv⟩) (fun b u z=>by have z':(none:Option HO)=some u:=z;cases z') (fun b z=>absurd rfl z) fun z=>absurd rfl z
 | none =>
  refine core (fun b=>if b=a then some (.frz { cls:=.type "list", data:=.seq vs.toArray } (.lst (ns.map V.int))) else none) (fun b=>?_) (.inl (.inr ⟨{ cls:=.type "list", data:=.seq vs.toArray }, if_pos rfl⟩)) (fun b u z=>?_) (fun b z=>?_) fun _=>hk
  ·by_cases hb:b=a
   ·exact .inr ⟨_,_,if_pos hb⟩
   ·exact .inl (if_neg hb)
  ·by_cases hb:b=a
   ·have z':=(if_pos hb).symm.trans z;cases z';subst hb;exact⟨ha,by rw[xbc];exact hl,vs,_,rv,ha⟩
   ·have z':=(if_neg hb).symm.trans z;cases z'
  ·by_cases hb:b=a
   ·exact hb
   ·exact absurd (if_neg hb) z
theorem zbeb {l:W.OpenLaw}{n k:Nat}{q:Program}{loose:List Str}{XP:(Str->Option Value)->Heap->Prop}{YP:World->Heap->Prop}{d:DefRec}{K:Params->Fg}{CX:World->CXT}{sp:World->Sp}{x:Str}
  (hn:l.most=some n)(hn2:n<=sizeLine)(hdf:d.params.defaults=[])(hr:Room k callerA)
  (hY:∀(w:World) (h:Heap),YP w h->(K w.params).In h)
  (F:∀(w:World) (mg:Str->Option Value) (fa:Addr) (h:Heap),(K w.params).In h->h.Ns mainGlobals mg->mg d.name=some (.ref fa) ->
   ∃fd:FuncData,(∀(s:Shared) (u:Value),BindsTo s fd ⟨[u],[]⟩ [(x,u)]) /\
    ∀base:Heap,(K w.params).In base->base.Ns mainGlobals mg->FnOk l.prog w (K w.params) mg base (CX w) k fa fd [x] (sp w))
  (hsp:∀(w:World) (H:Hp) (a:Addr) (ns:List Int),ns.length<=n->Only H->SqL (K w.params) H a (ns.map V.int)->sp w [.ref a] H (fun v _=>v=.bl true) fun _ _ _=>False)
  (hCX:∀(w:World) (H:Hp) (s:Shared) (e:Value) (s':Shared),CX w [] H s (fun _ _ _=>False) e s'->False) :
  W.WalkO q loose XP YP l.row.toRowW d [] (fun f vs=>PySem.call f vs):=by
 refine Att.attach_call hn hdf fun w s₀ s₁ mg mb fa o pm cd doc a vs ns G Y ho hd hcd hmg hobj hints hlen hg=>?_
 have KX:=hY w _ Y;obtain⟨fd,hb,hF⟩:=F w mg fa _ KX G.T.g hmg;exact zbbt KX G.T.g G.T.b G.T.builtins G.T.nolimit hg hobj hints (xbb hlen hn2) hr hF hb (fun H hO hS=>hsp w H a ns hlen hO hS) fun H e s'=>hCX w H s₁ e s'
end L2
/- THE LAST THEOREM (shape;LID,My.* are yours):
 My.Adr: a structure of the addresses that your layer names (classes,functions);My.Txt K t: a structure (Prop) of the equations over K;
 My.txt_mk:{K} {implicit addresses ..} (e1:nsIn K mainGlobals "law"=some (some (.ref f))) (e2:K.lookup f=some ⟨oc, od, .func (fnOf "law" "law" params body scope dV kV doc pm an cdv ct), sl⟩) (e3:codeIn K cdv "law"=true) ..:∃ t, My.Txt K t
(the tactic k_is has no namespace: write k_is) -/
namespace L2
open PySem PySem.Spec PyProof.Rows
noncomputable def defArgs (s:Stmt):Arguments:=match s with
 | .FunctionDef _ a _ _ _ _ _ _ _ _=>a
 | _=>{posonlyargs:=[],args:=[],vararg:=none,kwonlyargs:=[],kw_defaults:=[],kwarg:=none,defaults:=[]}
noncomputable def defBody (s:Stmt):List Stmt:=match s with
 | .FunctionDef _ _ b _ _ _ _ _ _ _=>b
 | _=>[]
noncomputable def defScope (s:Stmt):Scope:=match s with
 | .FunctionDef _ _ _ _ _ _ sc _ _ _=>sc
 | _=>{kind:=.function,names:=[],isGenerator:=false,isCoroutine:=false}
noncomputable abbrev CX0:CXT:=fun _ _ _ _ _ _=>False
noncomputable abbrev E0:XK:=fun _ _ _=>False
theorem pass0 {X:Cx}:Passes CX0 X E0:=fun _ _ _ _ _ _ _ h=>h.elim
structure Fun (K:Fg) (x qual:Str) (st:Stmt) (f:Addr) (fd:FuncData):Prop where
 ex:∃(oc:Value) (od:Option Addr) (kV doc pm:Value) (an:Option Addr) (cdv ct:Value) (osl:Array (Option Value)),
  fd=W.fnOf x qual (defArgs st) (defBody st) (defScope st) .none kV doc pm an cdv ct/\K.lookup f=some ⟨oc,od,.func fd,osl⟩/\W.codeIn K cdv qual=true
 kp:W.keepIn K (.ref f)=true
section
variable {P:Program}{w:World}{K:Fg}{mg:Str->Option Value}{base:Heap}
theorem Fun.ok {x qual:Str}{st:Stmt}{f:Addr}{fd:FuncData}{N ps:List Str}{k:Nat}{sp:Sp}(F:Fun K x qual st f fd)(S:FnScope N ps (defScope st))(len:∀vs H Q E,sp vs H Q E->vs.length=ps.length)
  (hbody:∀(cdv:Value) (A:Around) (outer:List Env) (s:Shared) (H:Hp) (vs:List V) (Q:VK) (E:XK),Room k (A.deeper (envOfC qual (defScope st) s.heap.objs.size f cdv))->sp vs H Q E ->
   ∃t,PSs (cxOf CX0 P w K mg base N qual (defScope st) f cdv A outer s H E).nox (defBody st) t/\t {nx:=fun _ H'=>Q .non H',rt:=Q} (start N vs) H):FnOk P w K mg base CX0 (k+1) f fd ps sp:=by
 obtain⟨oc,od,kV,doc,pm,an,cdv,ct,osl,rfl,lk,hcd⟩:=F.ex;refine zbpi lk hcd S len fun A outer s H vs Q E hr hsp=>?_
 obtain⟨t,h,q⟩:=hbody cdv A outer s H vs Q E hr hsp;exact⟨t,h.nox,q⟩
theorem Fun.binds {x qual:Str}{st:Stmt}{f:Addr}{fd:FuncData}{ps:List Str}(F:Fun K x qual st f fd)
  (h:∀(kV doc pm:Value) (an:Option Addr) (cdv ct:Value) (us:List Value),us.length=ps.length->bindArgs (W.fnOf x qual (defArgs st) (defBody st) (defScope st) .none kV doc pm an cdv ct) ⟨us,[]⟩=pure (ps.zip us)):Binds K fd ps []:=by
 obtain⟨oc,od,kV,doc,pm,an,cdv,ct,osl,rfl,lk,hcd⟩:=F.ex;exact .all (h kV doc pm an cdv ct)
theorem zbln {x qual:Str}{st:Stmt}{f:Addr}{oc:Value}{od an:Option Addr}{osl:Array (Option Value)}{kV doc pm cdv ct:Value}(l:K.lookup f=some ⟨oc,od,.func (W.fnOf x qual (defArgs st) (defBody st) (defScope st) .none kV doc pm an cdv ct),osl⟩)
 (c:W.codeIn K cdv qual=true)(k:W.keepIn K (.ref f)=true):Fun K x qual st f (W.fnOf x qual (defArgs st) (defBody st) (defScope st) .none kV doc pm an cdv ct):=⟨⟨oc,od,kV,doc,pm,an,cdv,ct,osl,rfl,l,c⟩,k⟩
end
theorem zmk {A:Around}{k:Nat}(hr:Room k A):A.units+1 < cLine:=xcx (xcj (by decide:1<=64) _) hr.units
section
variable {X:Cx}
theorem pv (i:Nat){x:Str}{pos:Pos}(hN:X.N[i]?=some x:=by rfl)(hv:Vis X.env.scope x:=by first | exact Or.inl rfl | exact Or.inr (Or.inl rfl) | exact Or.inr (Or.inr rfl))(hd:(x==("__debug__" : Str))=false:=by decide)
 (hcd:(x==("__classdict__" : Str))=false:=by decide):PE X (.Name x pos) (tVar i):=zbkh hN hv hd hcd
end
theorem iteF {A B:Prop}(h:B):if false=true then A else B:=by
 rw[if_neg xeq];exact h
theorem iteT {A B:Prop}(h:A):if true=true then A else B:=by
 rw[if_pos rfl];exact h
section
variable {X:Cx}
end
section
variable {κ:Type}[DecidableEq κ]
end
section
variable {P:Program}{w:World}{B:Around}{R:Result->Shared->Prop}{sh:Shared}
noncomputable abbrev NoX:Value->Shared->Prop:=fun _ _=>False
noncomputable abbrev testsOf (cs:List Expr) (ev:Env):Sem Bool :=
 forIn cs true fun d b=>if b=true then do let z ← isTrue d ev (eval d ev);pure (ForInStep.yield z) else pure (ForInStep.yield b)
noncomputable def CompStep (P:Program) (w:World) (B:Around) (tg x:Expr) (cs:List Expr) (ev:Env) (i l:Value) (K:Shared->Prop) (v:Value) (sa:Shared):Prop :=
 wpAny (model P w) B (letOwnedTupleGo tg i v) (fun _ sb=>wpAny (model P w) B (assign tg ev v) (fun _ sc=>wpAny (model P w) B (testsOf cs ev) (fun ok sd =>
  if ok=true then wpAny (model P w) B (eval x ev) (fun y se=>wpAny (model P w) B (call (.builtin "list.append") [l, y]) (fun _ sf=>K sf) NoX se) NoX sd else K sd) NoX sc) NoX sb) NoX sa
theorem zya {tg it x:Expr}{cs:List Expr}{sc:Scope}{ps:Pos}{i l:Value}{ev:Env}(J:Nat->Shared->Prop)
  (go:∀k sk,J k sk->wpAny (model P w) B (pyNext i) (fun o sa=>match o with
   | none=>R (.ok .next) sa
   | some v=>CompStep P w B tg x cs ev i l (fun sf=>∃k',k' < k/\J k' sf) v sa) NoX sk)
  (k:Nat)(hJ:J k sh):codeAny (model P w) B (.compLoop (.ListComp x [⟨tg,it,cs,0⟩] sc ps) 0 i l ev) R sh:=by
 have none_:∀{E:Value->Shared->Prop} (e:Value) (z:Shared),NoX e z->E e z:=fun _ _ z=>z.elim
 refine codeAny_loop rfl J (fun k sk hk=>wpAny_noted (by
  rw[compTurn_list];refine xba (wpAny_standAt (xba (xef (go k sk hk) (fun o sa ho=>?_) none_)))
  match o,ho with
  | none,ho=>exact xbh ho
  | some v,ho =>
   refine xba (xef ho (fun _ sb hb=>xba (xef hb (fun _ sc' hc=>xba (xef hc (fun ok sd hd=>?_) none_)) none_)) none_)
   match ok,hd with
   | false,hd=>exact xbh (And.intro rfl hd)
   | true,hd=>exact xba (xba (xef hd (fun y se he=>xba (xef he (fun _ sf hf=>xbh (xbh (And.intro rfl hf))) none_)) none_)))) k hJ
end
theorem zox {env:Env}:∀(names:List (Str×NameKind)) (acc:List (Str×Addr)),(∀y∈names,y.2=.free->∃c,env.cells.lookup y.1=some c)->(∀x c,acc.lookup x=some c->env.cells.lookup x=some c) ->
  ∃cl:List (Str×Addr),(forIn names acc (fun x r=>if(x.2==NameKind.free)=true then do let a ← cellOf env x.1;pure (ForInStep.yield ((x.1,a)::r)) else pure (ForInStep.yield r)):Sem (List (Str×Addr)))=pure cl /\
   (∀x c,cl.lookup x=some c->env.cells.lookup x=some c)/\(∀x c,acc.lookup x=some c->∃c',cl.lookup x=some c')/\∀x,(x,NameKind.free)∈names->∃c,cl.lookup x=some c:=by
 intro names
 induction names with
 | nil=>intro acc _ ha;exact⟨acc,rfl,ha,fun x c e=>⟨c,e⟩,fun x z=>(nomatch z)⟩
 | cons y r ih =>
  intro acc hf ha;obtain⟨n,k⟩:=y;by_cases hk:k=.free
  ·subst hk;obtain⟨c,hc⟩:=hf (n,.free) xbn rfl
   obtain⟨cl,e,h1,h2,h3⟩:=ih ((n,c)::acc) (fun y hy=>hf y (xbp _ hy)) (fun x c' e=>by
    rw[xer] at e;by_cases hx:x=n
    ·subst hx;rw[xhd] at e;cases e;exact hc
    ·rw[xgf.mpr hx] at e
     exact ha x c' e)
   refine⟨cl,?_,h1,fun x c' e'=>?_,fun x hx=>?_⟩
   ·rw[xll];simp only[xhd,ite_true];have q:cellOf env n=pure c:=by unfold cellOf;rw[hc]
    rw[q];simp only[pure_bind];exact e
   ·by_cases hx:x=n
    ·subst hx;exact h2 x c (by rw[xer,xhd])
    ·exact h2 x c' (by rw[xer,xgf.mpr hx];exact e')
   ·rcases xbx.mp hx with z | z
    ·cases z;exact h2 n c (by rw[xer,xhd])
    ·exact h3 x z
  ·obtain⟨cl,e,h1,h2,h3⟩:=ih acc (fun y hy=>hf y (xbp _ hy)) ha;refine⟨cl,?_,h1,h2,fun x hx=>?_⟩
   ·rw[xll];have hb:(k==NameKind.free)=false:=by simpa using hk
    simp only[hb,xch,xdo,pure_bind];exact e
   ·rcases xbx.mp hx with z | z
    ·cases z;exact absurd rfl hk
    ·exact h3 x z
theorem zup {scope:Scope}{env:Env}(h:∀y∈scope.names,y.2=.free->∃c,env.cells.lookup y.1=some c) :
  ∃cl,closureFor scope env=pure cl/\(∀x c,cl.lookup x=some c->env.cells.lookup x=some c)/\∀x,(x,NameKind.free)∈scope.names->∃c,cl.lookup x=some c:=by
 obtain⟨cl,e,h1,_,h3⟩:=zox (env:=env) scope.names [] h (fun x c e=>(nomatch e));refine⟨cl,?_,h1,h3⟩;unfold closureFor;have e':=congrArg (fun m=>m >>= fun r=>(pure r:Sem (List (Str×Addr)))) e;simp only[pure_bind] at e';exact e'
theorem zbm {env:Env}:∀{names:List (Str×NameKind)} {x:Str} {k:NameKind},(names.map fun(n,k)=>if(k==NameKind.free&&env.scope.kind==.function&&env.kindOf n==some .cell) then(n,NameKind.cell) else(n,k)).lookup x=some k ->
  names.lookup x=some k\/(k=.cell/\names.lookup x=some .free)
 | [],_,_,h=>by simp at h
 | (n,k')::r,x,k,h=>by
  have ih:=@zbm env r x k;have h':List.lookup x ((if(k'==NameKind.free&&env.scope.kind==.function&&env.kindOf n==some .cell)=true then(n,NameKind.cell) else(n,k'))::_)=_:=h;cases hx:x==n with
  | true =>
   by_cases hc:(k'==NameKind.free&&env.scope.kind==.function&&env.kindOf n==some .cell)=true
   ·rw[if_pos hc] at h';simp only[xer,hx] at h' ⊢;cases h';rw[xgg,xgg] at hc;exact .inr ⟨rfl,by rw[eq_of_beq hc.1.1]⟩
   ·rw[if_neg hc] at h';simp only[xer,hx] at h' ⊢;exact .inl h'
  | false =>
   have h2:(r.map fun(n,k)=>if(k==NameKind.free&&env.scope.kind==.function&&env.kindOf n==some .cell) then(n,NameKind.cell) else(n,k)).lookup x=some k:=by
    by_cases hc:(k'==NameKind.free&&env.scope.kind==.function&&env.kindOf n==some .cell)=true
    ·rw[if_pos hc] at h';simp only[xer,hx] at h';exact h'
    ·rw[if_neg hc] at h';simp only[xer,hx] at h';exact h'
   simp only[xer,hx];exact ih h2
noncomputable def cxC (X:Cx) (N:List Str) (scope:Scope) (cl:List (Str×Addr)) (C:Addr) (fp:List Addr) (s:Shared) (H:Hp):Cx :=
 {X with N:=N,s₀:=s,H₀:=H,env:=compEnvC scope cl C X.env,outer:=X.stack,ex:=fp,fn:=fun _=>false,pn:=[],xe:=fun _ _=>False}
noncomputable def startC (k:Nat) (is:List Nat) (σ:St):St:=List.replicate k none++is.map fun i=>(σ[i]?).getD none
structure CompScope (X:Cx) (N:List Str) (k:Nat) (is:List Nat) (scope:Scope):Prop where
 kind:scope.kind=.function
 nocell:∀y∈scope.names,y.2≠.cell
 names:∀y∈scope.names,y.2=.local->scope.names.lookup y.1=some .local
 frees:∀y∈scope.names,y.2=.free->X.env.kindOf y.1=some .cell\/X.env.kindOf y.1=some .free
 len:N.length=k+is.length
 own:∀j i,is[j]?=some i->∃x,N[k+j]?=some x/\X.N[i]?=some x/\scope.names.lookup x=some .free
theorem zgj {x:Str}{k:NameKind}{l:List (Str×NameKind)}(h:l.lookup x=some k):(x,k)∈l:=xgc h
section
variable {X:Cx}{aU:List (Addr×Obj)}{σ:St}{H:Hp}{s:Shared}
theorem zbca {N:List Str}{k:Nat}{is:List Nat}{scope:Scope}{cl:List (Str×Addr)}{fp:List Addr}{h1:Heap}{tk:Nat}(S:CompScope X N k is scope)(I:Inv X aU σ H s)
  (c1:∀x c,cl.lookup x=some c->X.env.cells.lookup x=some c)(c2:∀x,(x,NameKind.free)∈scope.names->∃c,cl.lookup x=some c)
  (hf:∀b∈fp,FpOk X aU H b)(hfo:∀b∈fp,∃o,s.heap.get? b=some o)(hn:h1.Ns s.heap.objs.size (fun _=>none))(hk:∀b o,s.heap.get? b=some o->h1.get? b=some o) :
  Inv (cxC X N scope cl s.heap.objs.size fp s H) [] (startC k is σ) H {s with heap:=h1,toks:=tk}:=by
 have hC:∀b o,s.heap.get? b=some o->b≠s.heap.objs.size:=fun b o e=>xcl (xbm e)
 have nfs:∀b∈fp,b∉frs X.stack:=fun b hb z=>by
  rcases xbx.mp (I.stkSub b z) with e | e
  ·exact(hf b hb).2.1 e
  ·exact(hf b hb).2.2.1 e
 refine⟨⟨I.ok.mod,S.kind,I.ok.glob,I.ok.blt,xbe _,fun x y c e1 e2=>I.ok.inj x y c (c1 x c e1) (c1 y c e2),fun x hx=>?_,fun x c z=>?_,I.ok.hd,I.ok.frames,.inl rfl,fun b hb=>⟨?_,fun x c e=>?_⟩,I.bs,xbb I.ok.bsz I.sz,fun b o e hb=>?_,nfs,I.stack,I.stkFree⟩,
  rfl,I.bare,Un.kept hk,⟨_,hn,fun i x v e1 e2 e3=>?_⟩,fun x c e=>?_,I.hok.fresh (xbe _),fun x c e=>I.freeC x c (c1 x c e),fun p hp=>(nomatch hp),I.hok.kept hk,?_,I.hnd⟩
 ·have hx':(scope.names.map fun(n,k)=>if(k==NameKind.free&&X.env.scope.kind==.function&&X.env.kindOf n==some .cell) then(n,NameKind.cell) else(n,k)).lookup x=some .cell\/(scope.names.map fun(n,k)=>if(k==NameKind.free&&X.env.scope.kind==.function&&X.env.kindOf n==some .cell) then(n,NameKind.cell) else(n,k)).lookup x=some .free:=hx;have q:scope.names.lookup x=some .free:=by
   rcases hx' with z | z
   ·rcases zbm z with q | ⟨_,q⟩
    ·exact absurd rfl (S.nocell _ (zgj q))
    ·exact q
   ·rcases zbm z with q | ⟨q,_⟩
    ·exact q
    ·cases q
  exact c2 x (zgj q)
 ·cases z
 ·obtain⟨o,e⟩:=hfo b hb;exact hC b o e
 ·exact(hf b hb).2.2.2.2.1 x c (c1 x c e)
 ·rcases(hf b hb).2.2.2.1 with z | z
  ·exact I.ok.noex b o e z
  ·exact absurd (xbg (xbm (I.ok.bs b o e).1) z) (xgu _)
 ·-- a name of the def around
  unfold startC at e2;have hi:k<=i:=by
   rcases xes i k with z | z
   ·rw[xbz (by rw[xgp];exact z),List.getElem?_replicate,if_pos z] at e2;cases e2
   ·exact z
  rw[xco (by rw[xgp];exact hi),xgp,xcv] at e2;cases ej:is[i - k]? with
  | none=>rw[ej] at e2;cases e2
  | some j =>
   rw[ej] at e2;have e2':(σ[j]?).getD none=some v:=xcn e2;obtain⟨y,y1,y2,y3⟩:=S.own (i - k) j ej;have ey:y=x:=by
    have z:N[i]?=some y:=by rw[← y1];congr 1;lia
    have e1':N[i]?=some x:=e1;rw[z] at e1';exact xcn e1'
   subst ey;have e4:σ[j]?=some (some v):=by
    cases q:σ[j]? with
    | none=>rw[q] at e2';cases e2'
    | some o=>rw[q] at e2';exact congrArg some e2'
   have kd:=S.frees _ (zgj y3) rfl;have vis:Vis X.env.scope y:=.inr kd;obtain⟨m,_,hl⟩:=I.loc;obtain⟨u,r,lk⟩:=hl j y v y2 e4 vis;refine⟨u,r,?_⟩;rcases lk with⟨z,_⟩ | ⟨_,c,e5,cc⟩
   ·rcases kd with q | q<;>(rw[q] at z;cases z)
   ·obtain⟨c',e6⟩:=c2 y (zgj y3);have:c'=c:=by
     have z:=c1 y c' e6;rw[e5] at z;exact(xcn z).symm
    subst this;refine .inr ⟨?_,c',e6,?_⟩
    ·rcases e3 with z | z | z
     ·exact absurd (zbm z) (by
       rw[y3];rintro(q | ⟨q,_⟩)
       ·cases q
       ·cases q)
     ·exact .inl z
     ·exact .inr z
    ·obtain⟨o,ho,hd⟩:=cc;exact⟨o,hk _ o ho,hd⟩
 ·obtain⟨v,o,ho,hd⟩:=I.cell x c (c1 x c e);exact⟨v,o,hk _ o ho,hd⟩
 ·unfold startC;rw[xbl,xgp,xbc];exact S.len.symm
theorem zbcb {N:List Str}{scope:Scope}{cl:List (Str×Addr)}{fp:List Addr}{σ':St}{H':Hp}{s':Shared}{h':Heap}(I:Inv X aU σ H s)(hf:∀b∈fp,FpOk X aU H b)(J:Inv (cxC X N scope cl s.heap.objs.size fp s H) [] σ' H' s')
  (hs:Heap.SameBut s.heap.objs.size s'.heap h'):Inv X aU σ H' {s' with heap:=h'}:=by
 have hC:∀b o,s.heap.get? b=some o->b≠s.heap.objs.size:=fun b o e=>xcl (xbm e)
 have hH:H' s.heap.objs.size=none:=J.free;have B:Un (frs X.stack) fp H H' s.heap s'.heap:=J.base
 have U:Un (frs X.stack) fp H H' s.heap h':=⟨fun b o e n h1 h2=>hs.extBut b o (hC b o e) (B.keep b o e n h1 h2),fun b o e n h1 h2=>by
   obtain⟨sl,q⟩:=B.slot b o e n h1 h2;exact⟨sl,hs.extBut b _ (hC b o e) q⟩,B.free,fun b o e hx=>by
   obtain⟨o',q⟩:=B.there b o e hx
   exact⟨o',hs.extBut b o' (hC b o e) q⟩,B.tups,B.frzs,B.tbls⟩
 refine I.call' (s':={s' with heap:=h'}) J.os U (fun a o e=>?_) J.bare (fun b hb=>⟨(hf b hb).2.2.2.1,(hf b hb).2.1,(hf b hb).2.2.2.2.1,(hf b hb).2.2.2.2.2⟩);refine(J.hok a o e).stay (fun b u hb q=>hs.extBut b u ?_ q) (fun _ q=>q) fun _ _ q=>q
 rcases hb with z | z
 ·intro y;rw[z] at y;rw[y,hH] at e;cases e
 ·intro y;rw[y,hH] at z;cases z
end
structure OffC (X:Cx) (aU:List (Addr×Obj)) (H:Hp) (C:Addr):Prop where
 free:H C=none
 loc:C≠X.env.locals
 young:X.s₀.heap.objs.size<=C
 cell:∀x c,X.env.cells.lookup x=some c->c≠C
 pin:∀p∈X.pn++aU,p.1≠C
theorem OffC.back {X:Cx}{aU:List (Addr×Obj)}{σ:St}{H:Hp}{C:Addr}{s:Shared}{h':Heap}(o:OffC X aU H C)(I:Inv X aU σ H s)(hs:Heap.SameBut C s.heap h'):Inv X aU σ H {s with heap:=h'} :=
 I.turned (t':=s.toks) (fun b u hb e=>hs.extBut b u hb e) o.free o.loc (.inr o.young) o.cell o.pin
noncomputable def nxC (p:Addr) (te:TE) (tc:TT) (N:St->Hp->Prop):St->Hp->Prop:=fun σ2 H3=>tc σ2 H3 fun b H4 =>
 if b=true then te σ2 H4 fun y H5=>∃xs,H5 p=some (.lst xs)/\xs.length < sizeLine/\N σ2 (upd H5 p (.lst (xs++[y]))) else N σ2 H4
noncomputable def CompG (J:It) (g:TG) (tc:TT) (te:TE) (Q:VK) (p:Addr) (σ:St) (H:Hp):Prop:=∃W:Nat->Nat->St->Hp->Prop,(∃m,W 0 m σ H) /\
 ∀i m σ' H',W i m σ' H'->(J.stop i H'/\Q (.ref p) H')\/(J.go i H'/\∃N:St->Hp->Prop,(∀σ2 H2,N σ2 H2->∃m',m' < m/\W (i+1) m' σ2 H2)/\∀x H2,J.yld i H' x H2->g x σ' H2 (nxC p te tc N))
noncomputable def tComp (wi:TI) (k:Nat) (is:List Nat) (g:TG) (tc:TT) (te:TE):TE:=fun σ H Q=>wi σ H fun J H1=>∀p,H1 p=none->CompG J g tc te Q p (startC k is σ) (upd H1 p (.lst []))
noncomputable def tYes:TT:=fun _ H Q=>Q true H
section
variable {X:Cx}{tg iter elt:Expr}{ifs:List Expr}{wi:TI}{g:TG}{tc:TT}{te:TE}{N:List Str}{k:Nat}{is:List Nat}{scope:Scope}{pos:Pos}
noncomputable def PIf (X:Cx) (ifs:List Expr) (t:TT):Prop :=
 ∀(aU:List (Addr×Obj)) (s:Shared) (σ:St) (H:Hp) (Q:Bool->Hp->Prop),Inv X aU σ H s->t σ H Q ->
  wpAny (model X.prog X.w) X.A (forIn ifs true fun c r=>if r=true then do let ok ← isTrue c X.env (eval c X.env);pure (ForInStep.yield ok) else pure (ForInStep.yield r)) (TP X aU σ Q) X.xe s
theorem zbfc:PIf X [] tYes:=fun aU s σ H Q I h=>wpAny_tests_nil ⟨H,I,h⟩
theorem zbfb {c:Expr}{t:TT}(h:PT X c t):PIf X [c] t:=fun aU s σ H Q I hq=>wpAny_tests_one (h aU s σ H Q I hq)
theorem znm (hcalm:X.calm=true)(hg:∀cl C fp s H,PG (cxC X N scope cl C fp s H) tg g)(hc:∀cl C fp s H,PIf (cxC X N scope cl C fp s H) ifs tc)(he:∀cl C fp s H,PE (cxC X N scope cl C fp s H) elt te)
  (S:CompScope X N k is scope){aU:List (Addr×Obj)}{σ:St}{H2:Hp}{s2:Shared}{cl:List (Str×Addr)}{it:Addr}{fp:List Addr}{tn:Nat->Heap->Prop}{J:It}{Q:VK}{E:Value->Shared->Prop}{RR:Value->Addr->Result->Shared->Prop}
  (I2:Inv X aU σ H2 s2)(T:Turn X.prog X.w X.K tg J fp it tn)(st2:tn 0 s2.heap)(f2:∀b∈fp,FpOk X aU H2 b)
  (c1:∀x c,cl.lookup x=some c->X.env.cells.lookup x=some c)(c2:∀x,(x,NameKind.free)∈scope.names->∃c,cl.lookup x=some c)
  (h:∀p,H2 p=none->∃W:Nat->Nat->St->Hp->Prop,(∃m,W 0 m (startC k is σ) (upd H2 p (.lst []))) /\
   ∀i m σ' H',W i m σ' H'->(J.stop i H'/\Q (.ref p) H')\/(J.go i H'/\∃N:St->Hp->Prop,(∀σ2 H2,N σ2 H2->∃m',m' < m/\W (i+1) m' σ2 H2)/\∀x H2,J.yld i H' x H2->g x σ' H2 (nxC p te tc N)))
  (hR:∀(p C:Addr) (s':Shared) (H':Hp) (m:Str->Option Value),OffC X aU H' C->s'.heap.Ns C m->Inv X aU σ H' s'->Q (.ref p) H'->RR (.ref p) C (.ok .next) s') :
  wpAny (model X.prog X.w) X.A (newList []) (fun acc s₃=>wpAny (model X.prog X.w) X.A (newFunctionEnv scope X.env.globals cl [] X.env.qual none .none (some X.env)) (fun cenv s₄ =>
   codeAny (model X.prog X.w) X.A (.compStart (.ListComp elt [⟨tg,iter,ifs,0⟩] scope pos) 0 (.ref it) acc {cenv with scope:=relabel scope X.env}) (RR acc cenv.locals) s₄) E s₃) E s2:=by
 refine xfh ?_;have fresh:H2 s2.heap.objs.size=none:=I2.fresh;have I3:Inv X aU σ (upd H2 s2.heap.objs.size (.lst [])) { s2 with heap:=s2.heap.push { cls:=.type "list", dict:=none, data:=.seq ([]:List Value).toArray } }:=I2.lnew (t':=s2.toks) (.nil) (by decide)
 generalize hs3:({ s2 with heap:=s2.heap.push { cls:=.type "list", dict:=none, data:=.seq ([]:List Value).toArray } }:Shared)=s3 at I3
 have k3:∀b o,s2.heap.get? b=some o->s3.heap.get? b=some o:=fun b o e=>by rw[← hs3];exact xbd _ e
 refine wpAny_newFunctionEnv S.nocell (by intro y hy;simp at hy) (fun h₁ hns₁ hsb₁=>?_) S.kind;have st3:tn 0 s3.heap:=T.keep _ _ _ st2 fun b _ o e=>k3 b o e
 have f3:∀b∈fp,FpOk X aU (upd H2 s2.heap.objs.size (.lst [])) b:=fun b hb=>by
  obtain⟨o,e,_⟩:=T.obj _ _ st2 b hb;exact⟨by rw[zy (xcl (xbm e))];exact(f2 b hb).1,(f2 b hb).2⟩
 have k4:∀b o,s3.heap.get? b=some o->h₁.get? b=some o:=fun b o e=>hsb₁.extBut b o (xcl (xbm e)) (xbd _ e)
 have J4:=zbca (tk:=s3.toks+([]:List (Str×Value)).length) S I3 c1 c2 f3 (fun b hb=>let ⟨o,e,_⟩:=T.obj _ _ st3 b hb;⟨o,e⟩) hns₁ k4;obtain⟨W,⟨m0,w0⟩,turn⟩:=h s2.heap.objs.size fresh;have st4:tn 0 h₁:=T.keep _ _ _ st3 fun b _ o e=>k4 b o e
 have loop:codeAny (model X.prog X.w) X.A (.compLoop (.ListComp elt [⟨tg,iter,ifs,0⟩] scope pos) 0 (.ref it) (.ref s2.heap.objs.size) (compEnvC scope cl s3.heap.objs.size X.env)) (RR (.ref s2.heap.objs.size) s3.heap.objs.size) {s3 with heap:=h₁,toks:=s3.toks+([]:List (Str×Value)).length}:=by
  have stat:∀{H':Hp},(∀b∈fp,H' b=none)->∀b∈fp,FpOk (cxC X N scope cl s3.heap.objs.size fp s3 (upd H2 s2.heap.objs.size (.lst []))) [] H' b:=fun {H'} hn b hb=>by
   obtain⟨o,e,_⟩:=T.obj _ _ st3 b hb;refine⟨hn b hb,xcl (xbm e),J4.ok.exfs b hb,.inl hb,fun x c e'=>(f3 b hb).2.2.2.2.1 x c (c1 x c e'),fun p hp=>(nomatch hp)⟩
  refine zya (fun n s'=>∃i σ' H',Inv (cxC X N scope cl s3.heap.objs.size fp s3 (upd H2 s2.heap.objs.size (.lst []))) [] σ' H' s'/\tn i s'.heap/\(∀b∈fp,H' b=none)/\W i n σ' H') ?_ m0
   ⟨0,_,_,J4,st4,fun b hb=>(f3 b hb).1,w0⟩
  rintro n s5 ⟨i,σ5,H5,I5,st5,fr5,w5⟩;rcases turn i n σ5 H5 w5 with⟨stop,q⟩ | ⟨go,N',hN',step⟩
  ·refine thn (T.done (cxC X N scope cl s3.heap.objs.size fp s3 (upd H2 s2.heap.objs.size (.lst []))) rfl rfl rfl hcalm i [] s5 σ5 H5 _ I5 (stat fr5) st5 stop) fun r s6 hq0=>?_
   obtain⟨hr,I6⟩:=hq0;subst hr;obtain⟨m,hm,_⟩:=I6.loc;refine hR _ _ s6 H5 m ⟨I6.free,xia I3.lt,I3.sz,fun x c e=>?_,fun p hp=>xcl (xbm (I3.pin p hp).1)⟩ hm (zbcb (h':=s6.heap) I3 f3 I6 (.refl ..)) q;obtain⟨v,o,ho,_⟩:=I3.cell x c e;exact xcl (xbm ho)
  ·refine thn (T.item (cxC X N scope cl s3.heap.objs.size fp s3 (upd H2 s2.heap.objs.size (.lst []))) rfl rfl rfl hcalm i [] s5 σ5 H5 _ I5 (stat fr5) st5 go) fun r s6 hq0=>?_
   obtain⟨u,hr,h6⟩:=hq0;subst hr;refine thn h6 fun _ s7 hq0=>?_
   obtain⟨x,H7,I7,r7,y7,st7,fr7⟩:=hq0;have I7':=I7.pinned (stat fr7) (T.obj _ _ st7);refine thn (hg cl s3.heap.objs.size fp s3 _ _ s7 σ5 H7 x u _ I7' r7 (step x H7 y7)) fun _ s8 hq0=>?_
   obtain⟨σ8,H8,I8,q8⟩:=hq0;refine thn (hc cl s3.heap.objs.size fp s3 _ _ s8 σ8 H8 _ I8 q8) fun b s9 hq0=>?_
   obtain⟨H9,I9,q9⟩:=hq0;have again:∀{σ':St} {H':Hp} {s':Shared} {m':Nat},Inv (cxC X N scope cl s3.heap.objs.size fp s3 (upd H2 s2.heap.objs.size (.lst []))) ([]++pinsAt fp s7.heap) σ' H' s'->m' < n->W (i+1) m' σ' H' ->
     ∃m,m < n/\∃i σ' H',Inv (cxC X N scope cl s3.heap.objs.size fp s3 (upd H2 s2.heap.objs.size (.lst []))) [] σ' H' s'/\tn i s'.heap/\(∀b∈fp,H' b=none)/\W i m σ' H':=fun {σ' H' s' m'} I' hm w'=>by
    refine⟨m',hm,i+1,σ',H',I'.unpinned,T.keep _ _ _ st7 fun b hb o e=>(I'.pin (b,o) (xde _ (xde _ (zgi hb e)))).1,fun b hb=>?_,w'⟩;obtain⟨o,e,d⟩:=T.obj _ _ st7 b hb;exact(I'.pin (b,o) (xde _ (xde _ (zgi hb e)))).2.1
   cases b with
   | false =>
    obtain⟨m',hm,w'⟩:=hN' _ _ q9;exact again I9 hm w'
   | true =>
    refine thn (he cl s3.heap.objs.size fp s3 _ _ s9 σ8 H9 _ I9 q9) fun v s10 hq0=>?_
    obtain⟨y,H10,I10,r10,xs,hxs,hz,n10⟩:=hq0;obtain⟨m',hm,w'⟩:=hN' _ _ n10;refine thn (zpx (X:=cxC X N scope cl s3.heap.objs.size fp s3 (upd H2 s2.heap.objs.size (.lst []))) _ s10 σ8 H10 (.ref s2.heap.objs.size) [y] _ [v] (fun _ H'=>H'=upd H10 s2.heap.objs.size (.lst (xs++[y]))) I10 rfl (.cons r10 .nil) ⟨_,xs,y,rfl,rfl,hxs,hz,rfl⟩) fun _ s11 hq0=>?_
    obtain⟨_,H11,I11,_,e11⟩:=hq0;subst e11;exact again I11 hm w'
 have hs3':s2.heap.push { cls:=.type "list", dict:=none, data:=.seq ([]:List Value).toArray }=s3.heap:=by rw[← hs3]
 have fin:=codeAny_compStart_list (elt:=elt) (target:=tg) (iter:=iter) (ifs:=ifs) (rest:=[]) (scope:=scope) (pos:=pos) loop (T.self X.A 0 _ _ _ st4 loop);exact fin
theorem zjn (S:CompScope X N k is scope){aU:List (Addr×Obj)}{σ:St}{H:Hp}{s:Shared}(I:Inv X aU σ H s) :
  ∃cl,closureFor scope X.env=pure cl/\(∀x c,cl.lookup x=some c->X.env.cells.lookup x=some c)/\∀x,(x,NameKind.free)∈scope.names->∃c,cl.lookup x=some c :=
 zup fun y hy hf=>I.ok.has y.1 (S.frees y hy hf)
theorem zys (hcalm:X.calm=true)(hi:PI X tg iter wi)(hg:∀cl C fp s H,PG (cxC X N scope cl C fp s H) tg g)(hc:∀cl C fp s H,PIf (cxC X N scope cl C fp s H) ifs tc)(he:∀cl C fp s H,PE (cxC X N scope cl C fp s H) elt te)
  (S:CompScope X N k is scope)(hs:∀x,foldedSetIterable iter X.env x=pure x:=by intro _;rfl):PE X (.ListComp elt [⟨tg,iter,ifs,0⟩] scope pos) (tComp wi k is g tc te):=by
 intro aU s σ H Q I h;obtain⟨cl,e,c1,c2⟩:=zjn S I;rw[eval_ListComp];refine wpAny_comprehension_free (use:=none) rfl hs e S.kind S.names (thn (hi aU s σ H _ I h) fun xv s1 h1=>thn h1 fun itv s2 h2=>?_);obtain⟨it,fp,tn,J,H2,e2,I2,T,st2,f2,h3⟩:=h2;subst e2;refine znm (Q:=Q) (RR:=fun acc C=>compPost (model X.prog X.w) X.A X.xe none (EP X aU σ Q) acc C) hcalm hg hc he S I2 T st2 f2 c1 c2 h3 ?_;intro p C s' H' m off hm I' q;exact⟨m,hm,fun h' hs'=>⟨.ref p,H',off.back I' hs',rfl,q⟩⟩
theorem zbew {i:Nat}{x:Str}{pos':Pos}(hcalm:X.calm=true)(hN:X.N.Nodup)(hxi:X.N[i]?=some x)(hx:Loc X.env.scope x)(hi:PI X tg iter wi)(hg:∀cl C fp s H,PG (cxC X N scope cl C fp s H) tg g)(hc:∀cl C fp s H,PIf (cxC X N scope cl C fp s H) ifs tc)
  (he:∀cl C fp s H,PE (cxC X N scope cl C fp s H) elt te)(S:CompScope X N k is scope){spos:Pos}(hsw:swapsWith (.ListComp elt [⟨tg,iter,ifs,0⟩] scope pos) (some (.Name x pos')) spos.line X.env=pure true:=by rfl)
  (hf:X.fn x=true\/X.env.scope.names.lookup x=some .local:=by first | exact .inl rfl | exact .inr rfl | assumption)
  (hs:∀x,foldedSetIterable iter X.env x=pure x:=by intro _;rfl):PS X (.Assign [.Name x pos'] (.ListComp elt [⟨tg,iter,ifs,0⟩] scope pos) spos) (tAsg (tComp wi k is g tc te) (gName i)):=by
 intro aU s σ H D I h;obtain⟨cl,e,c1,c2⟩:=zjn S I;rw[exec_Assign_Name_used (hs:=hsw)];refine xba (wpAny_standAt (xba (?_:wpAny _ X.A _ _ _ s)));show wpAny _ X.A (do let _ ← comprehension (.ListComp elt [⟨tg,iter,ifs,0⟩] scope pos) scope X.env _ (newList []) false (eval iter X.env) (some (assign (.Name x pos') X.env))) _ _ s
 refine xba (xef (wpAny_comprehension_free (use:=some (assign (.Name x pos') X.env)) (Q:=fun _ s'=>SP X aU D .next s') rfl hs e S.kind S.names
  (thn (hi aU s σ H _ I h) fun xv s1 h1=>thn h1 fun itv s2 h2=>?_)) (fun _ s' hq=>xbh (xbh hq)) fun _ _ e=>e)
 obtain⟨it,fp,tn,J,H2,e2,I2,T,st2,f2,h3⟩:=h2;subst e2;refine znm (Q:=fun v H'=>gName i v σ H' D.nx) (RR:=fun acc C=>compPost (model X.prog X.w) X.A X.xe (some (assign (.Name x pos') X.env)) (fun _ s'=>SP X aU D .next s') acc C) hcalm hg hc he S I2 T st2 f2 c1 c2 h3 ?_;intro p C s' H' m off hm I' q;show wpAny _ X.A (assign (.Name x pos') X.env (.ref p)) _ _ _;refine wpAny_assign_Name (zpo (v:=.ref p) I' hN hxi hx rfl (fun s'' I'' hq0=>?_) hf);obtain⟨a,hsb,ha⟩:=hq0;have hCa:C≠a:=by
  rcases ha with z | z
  ·rw[z];exact off.loc
  ·exact(off.cell x a z).symm
 exact⟨m,hm.sameBut hsb hCa,fun h' hs'=>⟨_,H',off.back I'' hs',q⟩⟩
end
section
variable {g:TG}{tc:TT}{te:TE}{Q:VK}{σ:St}{H:Hp}{p:Addr}
end
noncomputable def Callee (P:Program) (w:World) (K:Fg) (mg:Str->Option Value) (base:Heap) (x:Str) (k:Nat) (ps:List Str) (sp:Sp):Prop :=
 ∃f fd,FnOk P w K mg base CX0 k f fd ps sp/\Binds K fd ps []/\W.keepIn K (.ref f)=true/\mg x=some (.ref f)
section
variable {X:Cx}{x:Str}{k:Nat}{ps:List Str}{sp:Sp}{p pos:Pos}{e:Expr}{es:List Expr}{t:TA}
theorem zbbf (c:Callee X.prog X.w X.K X.mg X.base x k ps sp)(hr:Room k X.A)(hg:Gl X x)(ha:PA X (e::es) t)(hdb:(x==("__debug__" : Str))=false:=by decide)
  (he:starEach (e::es) X.env=(false,eval e X.env)::starEach es X.env:=by rfl)(hpl:(backTo pos (starEach es X.env)).any (·.1)=false:=by rfl) :
  PE X (.Call (.Name x p) (e::es) [] pos) (tCall sp [] E0 t):=by
 obtain⟨f,fd,F,b,kp,m⟩:=c;exact zbfl F hr hg m kp b .nil pass0 ha hdb he hpl
end
noncomputable def TopF (K:Fg) (x:Str) (st:Stmt):Prop :=
 ∃f fd,W.nsIn K mainGlobals x=some (some (.ref f))/\Fun K x x st f fd
theorem zby {K:Fg}{x:Str}{st:Stmt}{f:Addr}{od an:Option Addr}{sl:Array (Option Value)}{oc kV dc pm cd ct:Value}
  (a:W.nsIn K mainGlobals x=some (some (.ref f)))(l:K.lookup f=some ⟨oc,od,.func (W.fnOf x x (defArgs st) (defBody st) (defScope st) .none kV dc pm an cd ct),sl⟩)(c:W.codeIn K cd x=true)(k:W.keepIn K (.ref f)=true):TopF K x st :=
 ⟨f,_,a,zbln l c k⟩
theorem zqk {P:Program}{w:World}{K:Fg}{mg:Str->Option Value}{base h:Heap}{x:Str}{st:Stmt}{N ps:List Str}{k:Nat}{sp:Sp}(T:TopF K x st)(X:K.In h)(G:h.Ns mainGlobals mg)(S:FnScope N ps (defScope st))
  (bd:∀(kV doc pm:Value) (an:Option Addr) (cdv ct:Value) (us:List Value),us.length=ps.length->bindArgs (W.fnOf x x (defArgs st) (defBody st) (defScope st) .none kV doc pm an cdv ct) ⟨us,[]⟩=pure (ps.zip us))
  (len:∀vs H Q E,sp vs H Q E->vs.length=ps.length)
  (hbody:∀(f:Addr) (cdv:Value) (A:Around) (outer:List Env) (s:Shared) (H:Hp) (vs:List V) (Q:VK) (E:XK),Room k (A.deeper (envOfC x (defScope st) s.heap.objs.size f cdv))->sp vs H Q E ->
   ∃t,PSs (cxOf CX0 P w K mg base N x (defScope st) f cdv A outer s H E).nox (defBody st) t/\t {nx:=fun _ H'=>Q .non H',rt:=Q} (start N vs) H):Callee P w K mg base x (k+1) ps sp:=by
 obtain⟨f,fd,a,F⟩:=T;exact⟨f,fd,F.ok S len (hbody f),F.binds bd,F.kp,xkt X G a⟩
section
variable {X:Cx}
theorem zcj:CallR X (.builtin "isinstance") (fun xs H Q=>∃ x T t b, xs=[x, .ty T]/\TyOf X.K H x t/\W.kitOne X.K t (.type T)=some b/\Q (.bl b) H):=by
 intro aU s σ H xs us Q I r h;obtain⟨x,T,t,b,rfl,ty,e,q⟩:=h;obtain⟨u,w',rfl,ru,rw'⟩:=vals2 r;cases(show w'=Value.type T from rw');exact zxj I ru ty e fun tk=>⟨.bl b,H,I.tok tk,rfl,q⟩
noncomputable def CDivP (i j:Int):Prop:=0 < j/\j < 2 ^ 1000
theorem zoi:OpR X (binaryOp .FloorDiv) (rI CDivP fun i j=>.int (i / j)):=opI fun i j _ _ _ _ _ hc q=>by
 have e:i.fdiv j=i / j:=Int.fdiv_eq_ediv_of_nonneg i (by have:=hc.1;lia);refine floordiv_int (by have:=hc.1;lia) (by rw[e];exact q) (.inl (PyProof.noPylong_of_log2 ?_));have h1:j.natAbs < 2 ^ 1000:=by
  have h2:=hc.1;have h3:=hc.2;have h4:(j.natAbs:Int)=j:=by lia
  have h5:(j.natAbs:Int) < ((2 ^ 1000:Nat):Int):=by
   rw[h4];exact_mod_cast h3
  exact_mod_cast h5
 have h0:j.natAbs≠0:=by have:=hc.1;lia
 have:=(Nat.log2_lt h0).mpr h1;lia
end
section
variable {X:Cx}{st:Stmt}{t:TS}
end
noncomputable def compLook (XN:List Str) (xs:List (Str×NameKind)) (N:List Str) (k:Nat) (is:List Nat) (scope:Scope):Bool :=
 (scope.kind==.function)&&scope.names.all (fun y=>y.2 != .cell)&&scope.names.all (fun y=>y.2 != .local||scope.names.lookup y.1==some .local) &&
 scope.names.all (fun y=>y.2 != .free||(xs.lookup y.1==some .cell||xs.lookup y.1==some .free))&&(N.length==k+is.length) &&
 (List.range is.length).all (fun j=>match is[j]?,N[k+j]? with
  | some i,some x=>XN[i]?==some x&&scope.names.lookup x==some .free
  | _,_=>false)
theorem zej {X:Cx}{N:List Str}{k:Nat}{is:List Nat}{scope:Scope}(h:compLook X.N X.env.scope.names N k is scope=true):CompScope X N k is scope:=by
 unfold compLook at h;simp only[xgg,xet] at h;obtain⟨⟨⟨⟨⟨h1,h2⟩,h3⟩,h4⟩,h5⟩,h6⟩:=h;refine⟨eq_of_beq h1,fun y hy e=>?_,fun y hy e=>?_,fun y hy e=>?_,eq_of_beq h5,fun j i e=>?_⟩
 ·have:=h2 y hy;rw[e] at this;simp at this
 ·have:=h3 y hy;rw[e] at this;simp at this;exact this
 ·have:=h4 y hy;rw[e] at this;simp at this;exact this
 ·have hj:j < is.length:=(xbf.mp e).1;have:=h6 j (xcp.mpr hj);rw[e] at this;cases e2:N[k+j]? with
  | none=>rw[e2] at this;cases this
  | some x =>
   rw[e2] at this;simp only[xgg,xgj] at this;exact⟨x,rfl,this.1,this.2⟩
theorem zoy:bootBuiltins "len"=some (.builtin "len"):=by decide +kernel
theorem zbmu:bootBuiltins "abs"=some (.builtin "abs"):=by decide +kernel
theorem zbdf:bootBuiltins "min"=some (.builtin "min"):=by decide +kernel
theorem zbii:bootBuiltins "sum"=some (.builtin "sum"):=by decide +kernel
theorem zqm:bootBuiltins "sorted"=some (.builtin "sorted"):=by decide +kernel
theorem zbik:bootBuiltins "all"=some (.builtin "all"):=by decide +kernel
theorem zbj:bootBuiltins "isinstance"=some (.builtin "isinstance"):=by decide +kernel
theorem zbdg:bootBuiltins "int"=some (.type "int"):=by decide +kernel
theorem zzs:bootBuiltins "bool"=some (.type "bool"):=by decide +kernel
theorem zjq:bootBuiltins "tuple"=some (.type "tuple"):=by decide +kernel
theorem zbij:bootBuiltins "list"=some (.type "list"):=by decide +kernel
theorem zbaf {H:Hp}{p:Addr}{o:HO}(h:H p=some o):upd H p o=H:=by
 funext b
 unfold upd;split
 ·subst b;exact h.symm
 ·rfl
section
variable {X:Cx}{K:Fg}
end
end L2
namespace Srt
open PySem PySem.W PyProof.Rows
section
variable (r:Nat->Nat)
noncomputable def lt (i j:Nat):Bool:=decide (r i < r j)
noncomputable def At (p:Array Nat) (i:Nat):Nat:=r (p.getD i 0)
noncomputable def Up (p:Array Nat) (n:Nat):Prop:=∀i j,i<=j->j < n->At r p i<=At r p j
end
section
variable {r:Nat->Nat}{p:Array Nat}{n:Nat}
end
section
variable {n:Nat}
end
section
variable {P:Program}{w:World}{B:Around}{E:Value->Shared->Prop}{st:Shared}
noncomputable def midHeap (h:Heap) (d:Addr) (xs:List Value):Heap:=((h.update d (Obj.mapSeq fun _=>(#[]:Array Value))).push (seqObj "tuple" xs.toArray 0)).push (seqObj "list" #[] 0)
theorem zkt {h:Heap}{d b:Addr}{xs:List Value}{ob:Obj}(ne:b≠d)(e:h.get? b=some ob):(midHeap h d xs).get? b=some ob :=
 xbd _ (xbd _ ((Heap.get?_update_ne _ _ _ _ ne).trans e))
noncomputable def Answers (P:Program) (w:World) (B:Around) (r:Nat->Nat) (xs:List Value) (sg:Shared):Prop :=
 ∃κ,(∀R:SortKind->Shared->Prop,R κ sg->wpAny (model P w) B (keyKind' xs.toArray) R (fun _ _=>False) sg) /\
  ∀i j C,i < xs.length->j < xs.length->C (lt r i j) sg->kas_ask P w B κ xs i j C sg
noncomputable def outOf (xs:List Value) (p:Array Nat):Array Value:=List.toArray (p.toList.map fun i=>xs.getD i Value.none)
theorem zvz {xs:List Value}(h:xs.length < 2):(xs.toArray.zip xs.toArray).map (·.2)=outOf xs (List.toArray (List.range xs.length)):=by
 unfold outOf
 match xs,h with
 | [],_=>simp
 | [_],_=>simp[xij]
 | _::_::_,h=>exact absurd h (by simp)
end
end Srt
namespace Srt
open PySem PySem.W PyProof.Rows HT
theorem zjh:∀a:List Int,lexLt a a=false
 | []=>rfl
 | x::a=>by rw[zdl,if_pos rfl];exact zjh a
theorem zgk:∀{a b c:List Int},lexLt a b=true->lexLt b c=true->lexLt a c=true
 | _,[],[],_,h=>by rw[zey] at h;cases h
 | _,_::_,[],_,h=>by rw[zea] at h;cases h
 | [],[],_::_,h,_=>by rw[zey] at h;cases h
 | _::_,[],_::_,h,_=>by rw[zea] at h;cases h
 | [],_::_,_::_,_,_=>zcq _ _
 | x::a,y::b,z::c,h1,h2=>by
  rw[zdl] at h1 h2 ⊢;by_cases e1:x=y
  ·rw[if_pos e1] at h1;subst e1;by_cases e2:x=z
   ·rw[if_pos e2] at h2 ⊢;exact zgk h1 h2
   ·rw[if_neg e2] at h2 ⊢;exact h2
  ·rw[if_neg e1] at h1;have h1':=xeg h1;by_cases e2:y=z
   ·subst e2;rw[if_neg e1];exact h1
   ·rw[if_neg e2] at h2;have h2':=xeg h2;rw[if_neg (by lia)];exact xbu (by lia)
theorem zpy:∀a b:List Int,lexLt a b=true\/a=b\/lexLt b a=true
 | [],[]=>.inr (.inl rfl)
 | [],_::_=>.inl (zcq _ _)
 | _::_,[]=>.inr (.inr (zcq _ _))
 | x::a,y::b=>by
  rw[zdl,zdl];by_cases e:x=y
  ·subst e;rw[if_pos rfl,if_pos rfl];rcases zpy a b with h | h | h
   ·exact .inl h
   ·exact .inr (.inl (by rw[h]))
   ·exact .inr (.inr h)
  ·rw[if_neg e,if_neg (fun z=>e z.symm)];rcases Int.lt_or_gt_of_ne e with h | h
   ·exact .inl (xbu h)
   ·exact .inr (.inr (xbu h))
theorem zxa {a b:List Int}(h:lexLt a b=true):lexLt b a=false:=by
 cases e:lexLt b a with
 | false=>rfl
 | true=>have:=zgk h e;rw[zjh] at this;cases this
theorem zun {p q:Nat->Bool}(hpq:∀x,p x=true->q x=true):∀{l:List Nat} {y:Nat},y∈l->q y=true->p y=false->l.countP p < l.countP q
 | [],_,h,_,_=>nomatch h
 | x::l,y,h,h1,h2=>by
  have mono:∀l:List Nat,l.countP p<=l.countP q:=fun l=>List.countP_mono_left fun x _=>hpq x
  rcases xbx.mp h with rfl | h
  ·rw[xhg h1,xiy (by rw[h2];decide)];exact xkx (mono l)
  ·have ih:=zun hpq h h1 h2;by_cases c:p x=true
   ·rw[xhg c,xhg (hpq x c)];lia
   ·rw[xiy c];by_cases d:q x=true
    ·rw[xhg d];lia
    ·rw[xiy d];exact ih
noncomputable def rank (ks:List (List Int)) (i:Nat):Nat:=(List.range ks.length).countP fun k=>lexLt (ks.getD k []) (ks.getD i [])
theorem zsu {ks:List (List Int)}{i j:Nat}(hi:i < ks.length)(hj:j < ks.length):lt (rank ks) i j=lexLt (ks.getD i []) (ks.getD j []):=by
 have up:∀{a b:Nat},a < ks.length->lexLt (ks.getD a []) (ks.getD b [])=true->rank ks a < rank ks b:=fun {a b} ha h =>
  zun (fun x hx=>zgk hx h) (xcp.mpr ha) h (zjh _)
 cases e:lexLt (ks.getD i []) (ks.getD j []) with
 | true=>exact xbu (up hi e)
 | false =>
  refine xbv fun h=>?_
  rcases zpy (ks.getD i []) (ks.getD j []) with z | z | z
  ·rw[e] at z;cases z
  ·unfold rank at h;rw[z] at h;exact absurd h (xgu _)
  ·have:=up hj z;lia
section
variable {prog:Program}{w:World}{A:Around}{s:Shared}{b:Bool}{Q:Bool->Shared->Prop}
theorem ztk:∀{us ws:List Value} {ns ms:List Int} (i:Nat),IntsAre us ns->IntsAre ws ms->Q (lexLt ns ms) s->KatLex prog w A b (decide (us.length < ws.length)) Q (us.zip ws) i s
 | _,_,_,_,_,.nil,.nil,h=>h
 | _,_,_,_,_,.nil,.cons _ _ _,h=>h
 | _,_,_,_,_,.cons _ _ _,.nil,h=>h
 | _,_,_,_,i,.cons x t (vs:=us) (ns:=ns) r1,.cons y u (vs:=ws) (ns:=ms) r2,h=>by
  rw[zdl] at h;refine kat_cons (wpAny_eqBool_int (kat_go (fun e=>kat_yes ?_) fun e=>kat_no ?_))
  ·rw[if_pos (eq_of_beq e)] at h;have q:=ztk (i+1) r1 r2 h;have ee:decide ((Value.int x t::us).length < (Value.int y u::ws).length)=decide (us.length < ws.length):=by
    rw[xcb,xcb,xgq];simp
   rw[ee];exact q
  ·rw[if_neg (xgf.mp e)] at h;cases hb:(b&&i==0) with
   | true=>exact oneLt_int h
   | false=>exact kat_one _ _ (PyProof.Rows.lt_int h)
end
end Srt
namespace L2
open PySem PySem.Spec PyProof.Rows PySem.W
theorem zpj:∀{as:List Addr} {us:List Value},Vals (as.map V.ref) us->us=as.map Value.ref
 | [],_,.nil=>rfl
 | a::as,_,.cons r t=>by
  rw[show _=Value.ref a from r,zpj t]
  rfl
noncomputable def TupsAt (K:Fg) (H:Hp) (ps:List (Addr×List Int)):Prop:=∀p∈ps,SqT K H p.1 (p.2.map V.int)
theorem zo {α β:Type}(f:α->β)(d:β){l:List α}{i:Nat}{x:α}(h:l[i]?=some x):(l.map f).getD i d=f x:=by
 rw[xda,xcv,h]
 rfl
section
variable {X:Cx}
end
end L2
namespace L2
open PySem PySem.Spec PyProof.Rows
mutual
inductive DAt (K:Fg) (H:Hp):V->PyData->Prop
 | non:DAt K H .non .none
 | bl (b:Bool):DAt K H (.bl b) (.bool b)
 | int (i:Int):DAt K H (.int i) (.int i)
 | str (x:Str):DAt K H (.str x) (.str x)
 | lst {a:Addr} {xs:List V} {ds:List PyData}:SqL K H a xs->DAll K H xs ds->DAt K H (.ref a) (.list ds)
 | tup {a:Addr} {xs:List V} {ds:List PyData}:SqT K H a xs->DAll K H xs ds->DAt K H (.ref a) (.tuple ds)
inductive DAll (K:Fg) (H:Hp):List V->List PyData->Prop
 | nil:DAll K H [] []
 | cons {x:V} {xs:List V} {d:PyData} {ds:List PyData}:DAt K H x d->DAll K H xs ds->DAll K H (x::xs) (d::ds)
end
section
variable {X:Cx}{aU:List (Addr×Obj)}{σ:St}{H:Hp}{s:Shared}
mutual
theorem ziy (I:Inv X aU σ H s):∀{v:V} {d:PyData} {u:Value},DAt X.K H v d->RelV v u->∃as,Reads s.heap u d as
 | _,_,_,.non,r=>by cases r;exact⟨_,.none⟩
 | _,_,_,.bl b,r=>by cases r;exact⟨_,.bool b⟩
 | _,_,_,.int i,r=>by obtain⟨t,rfl⟩:=r;exact⟨_,.int i t⟩
 | _,_,_,.str x,r=>by obtain⟨t,rfl⟩:=r;exact⟨_,.str x t⟩
 | _,_,_,.lst h all,r=>by
  cases r;obtain⟨its,rv,⟨o,n,e,c,_,dd⟩,_⟩:=I.list h;obtain⟨as,q⟩:=zhh I all rv;exact⟨_,.list e c dd q⟩
 | _,_,_,.tup h all,r=>by
  cases r;obtain⟨its,rv,⟨o,e,c,n,dd⟩,_⟩:=I.tuple h;obtain⟨as,q⟩:=zhh I all rv;exact⟨_,.tuple e c dd q⟩
theorem zhh (I:Inv X aU σ H s):∀{vs:List V} {ds:List PyData} {us:List Value},DAll X.K H vs ds->Vals vs us->∃as,ReadsAll s.heap us ds as
 | _,_,_,.nil,.nil=>⟨_,.nil⟩
 | _,_,_,.cons h t,.cons r rs=>by
  obtain⟨as,q⟩:=ziy I h r;obtain⟨bs,q'⟩:=zhh I t rs;exact⟨_,.cons q q'⟩
end
end
noncomputable def rEqX (K:Fg) (neg:Bool):R2:=fun x y H Q=>∃dx dy,DAt K H x dx/\DAt K H y dy/\PySem.SeqAt.shaped dx=true/\PySem.SeqAt.shaped dy=true/\Q (.bl (if neg then !PyData.eqv dx dy else PyData.eqv dx dy)) H
section
variable {X:Cx}
theorem ztb (hu:X.A.units+64 < cLine):OpR X (compareOp .Eq) (rEqX X.K false):=by
 intro aU s σ H x y v u Q I r1 r2 h;obtain⟨dx,dy,a1,a2,a3,a4,q⟩:=h;obtain⟨as,ra⟩:=ziy I a1 r1;obtain⟨bs,rb⟩:=ziy I a2 r2;exact eq_dataH ra rb a3 a4 hu ⟨.bl (PyData.eqv dx dy),H,I,rfl,q⟩
theorem zwo (hu:X.A.units+64 < cLine):OpR X (compareOp .NotEq) (rEqX X.K true):=by
 intro aU s σ H x y v u Q I r1 r2 h;obtain⟨dx,dy,a1,a2,a3,a4,q⟩:=h;obtain⟨as,ra⟩:=ziy I a1 r1;obtain⟨bs,rb⟩:=ziy I a2 r2;exact ne_dataH ra rb a3 a4 hu ⟨.bl (!PyData.eqv dx dy),H,I,rfl,q⟩
theorem zmo:∀{bs:List Bool} {us:List Value},Vals (bs.map V.bl) us->us=bs.map Value.bool
 | [],_,.nil=>rfl
 | b::bs,_,.cons r t=>by
  rw[show _=Value.bool b from r,zmo t]
  rfl
theorem zwe (bs:List Bool):((List.range bs.length).all fun i=>bs.getD i false)=bs.all id:=by
 rw[xgq];simp only[xet,xcp];constructor
 ·intro h b hb;obtain⟨i,hi,rfl⟩:=xep hb;have:=h i hi;rw[xda,xbi hi] at this;exact this
 ·intro h i hi;rw[xda,xbi hi];exact h _ (xds hi)
noncomputable def rAny (K:Fg) (al:Bool):List V->Hp->VK->Prop:=fun xs H Q=>∃(l:Addr) (bs:List Bool),xs=[.ref l]/\SqL K H l (bs.map V.bl)/\Q (.bl (if al then bs.all id else bs.any id)) H
theorem zqw {prog:Program}{w:World}{A:Around}(bs:List Bool):TruthOf prog w A (fun i v=>(bs.map Value.bool).toArray[i]?=some v) (fun i=>bs.getD i false):=fun i v s Q E hP hQ=>by
 have hP':(bs.map Value.bool)[i]?=some v:=by simpa using hP
 rw[xcv] at hP';cases e:bs[i]? with
 | none=>rw[e] at hP';cases hP'
 | some b =>
  rw[e] at hP';cases hP';dsimp only at hQ;rw[xda,e] at hQ;exact xfz hQ
theorem zbdj (hc:X.calm=true){aU:List (Addr×Obj)}{σ:St}{H:Hp}{s:Shared}{l:Addr}{bs:List Bool}{R:Bool->Prop}(I:Inv X aU σ H s)(hl:SqL X.K H l (bs.map V.bl)){Q:Value->Shared->Prop}{F:(Nat->Bool)->Nat->Bool}
  (hQ:∀s',Inv X aU σ H s'->Q (.bool (F (fun i=>bs.getD i false) bs.length)) s') :
  wpAny (model X.prog X.w) X.A.in1 (pyIter (.ref l)) (fun it s₂=>∃I fp wr n P St tr,it=.ref I/\Walks X.prog X.w X.A.in1 I fp wr n P St/\St 0 s₂.heap/\TruthOf X.prog X.w X.A.in1 P tr /\
   ∀h' tk,(∀b o,b∉wr->s₂.heap.get? b=some o->h'.get? b=some o)->Q (.bool (F tr n)) {s₂ with heap:=h',toks:=tk}) X.xe s:=by
 obtain⟨its,rv,pl,hz⟩:=I.list hl;have e:=zmo rv;subst e;have hlt:l < s.heap.objs.size:=by obtain⟨o,n,e,_⟩:=pl;exact xbm e
 refine xld pl.isList ?_;refine⟨s.heap.objs.size,_,[s.heap.objs.size],_,_,_,_,rfl,Walks.list (A:=X.A.in1) (I.ok.hd hc) _ l (xcl hlt) (bs.map Value.bool).toArray,⟨⟨_,xbw _ rfl,rfl,rfl⟩,pl.isList.push _⟩,zqw bs,fun h' tk hk=>?_⟩;have e2:(bs.map Value.bool).toArray.size=bs.length:=by simp
 rw[e2];refine hQ _ ?_;refine I.kept (t':=tk) fun b o e=>hk b o ?_ (xbd _ e)
 intro z;have z':b=s.heap.objs.size:=by simpa using z
 have z2:=xbm e;rw[z'] at z2;exact absurd z2 (xgu _)
theorem zur (hc:X.calm=true):CallR X (.builtin "all") (rAny X.K true):=by
 intro aU s σ H xs us Q I r h;obtain⟨l,bs,rfl,hl,q⟩:=h;obtain⟨u,rfl,ru⟩:=vals1 r;cases ru;refine call_all_walk (zbdj (R:=fun _=>True) hc I hl (F:=fun tr n=>(List.range n).all tr) fun s' I'=>⟨.bl ((List.range bs.length).all fun i=>bs.getD i false),H,I',rfl,?_⟩);rw[zwe];exact q
end
end L2
namespace Dct
open PySem PySem.W PyProof.Rows
noncomputable def Raw (h:Heap) (d:Addr) (es:Array DictEntry) (ep:Nat):Prop:=∃ob,h.get? d=some ob/\ob.ExactDict/\ob.data=.dict es ep
theorem Raw.kept {h h':Heap}{d:Addr}{es:Array DictEntry}{ep:Nat}(x:Raw h d es ep)(k:∀ob,h.get? d=some ob->h'.get? d=some ob):Raw h' d es ep :=
 let ⟨ob,e,r⟩:=x;⟨ob,k ob e,r⟩
theorem Raw.lt {h:Heap}{d:Addr}{es:Array DictEntry}{ep:Nat}(x:Raw h d es ep):d < h.objs.size:=let ⟨_,e,_⟩:=x;xbm e
theorem Raw.is {st:Shared}{d:Addr}{es:Array DictEntry}{ep:Nat}(x:Raw st.heap d es ep):st.TypeIs (.ref d) "dict":=let ⟨ob, e, c, _⟩:=x; ⟨ob, e, c.1⟩
section
variable {P:Program}{w:World}{B:Around}{E:Value->Shared->Prop}{st:Shared}{d it:Addr}{es:Array DictEntry}{ep k:Nat}
noncomputable def iterObj (d:Addr) (n ep:Nat):Obj:={ cls:=.type "dict_keyiterator", data:=.fields #[.ref d, .int 0 0, .int n 0, .int ep 0] }
theorem zst {W:Value->Shared->Prop}(ns:(d==sysModules)=false)(x:Raw st.heap d es ep)(fin:W (.ref st.heap.objs.size) {st with heap:=st.heap.push (iterObj d es.size ep)}):wpAny (model P w) B (pyIter (.ref d)) W E st:=by
 obtain⟨ob,e,c,dt⟩:=id x;have ty:=x.is;refine wpAny_pyIter_slot ty F.slot_dict_iter (xew F.slot_dict_iter ty F.entry_dict_iter ?body (F.args_dict_iter_1 _))
 case body =>
  unfold Builtin.«dict.__iter__» Builtin.Dict.dictSlotNone Builtin.Dict.showsAll;refine xba (xba (wpAny_notOrdered_dict ty (xbh ?_)));show wpAny _ _ ((if(d==sysModules)=true then _ else _) >>= _) _ _ st;rw[if_neg (fun z=>xeq (ns.symm.trans z))];refine xba (xbh (xba (xhz e dt (xba (wpAny_dictEpoch e dt (xba (xfh (xbh ⟨_, rfl, "dict_keyiterator", _,⟨_, xbw _ rfl, rfl⟩, xez.lookup, ?_⟩))))))))
  exact fin
theorem zss {W:Option Value->Shared->Prop}{en:DictEntry}(hi:st.heap.IsKeyIter it d k es.size ep)(x:Raw st.heap d es ep)(hk:es[k]?=some en)
  (fin:∀g:Heap,g.IsKeyIter it d (k+1) es.size ep->Heap.SameBut it st.heap g->W (some en.key) {st with heap:=g}):wpAny (model P w) B (pyNext (.ref it)) W E st:=by
 obtain⟨oi,ei,ci,di⟩:=id hi;obtain⟨ob,e,c,dt⟩:=id x;have lt:k < es.size:=(Array.getElem?_eq_some_iff.mp hk).1;unfold pyNext;refine xba (xku (wpAny_callSpecial?_slot (name:=Str.ofString "__next__") hi.typeIs xez (xew xez hi.typeIs F.entry_dict_keyiterator_next ?body (F.args_dict_keyiterator_next_1 _))))
 case body =>
  refine xba (xbh (xba (xba (xba (xga hi.typeIs (xbh (xba (wpAny_fieldsOf ei di ?_))))))));simp only[show Builtin.Dict_items.ownsTuple "dict_keyiterator"=false from by decide, xch, ite_false]
  show wpAny _ _ (if(Value.ref d==Value.none)=true then _ else _) _ _ st;have nn:¬ (Value.ref d==Value.none)=true:=xeq;rw[if_neg nn];refine xba (xbh (xba (xhz e dt ?_)));rw[if_neg (by simp)];refine xba (xbh (xba (wpAny_dictEpoch e dt ?_)));rw[if_neg (by simp)];refine xbh ?_;simp only[show ¬ ((k:Int) < 0) from by lia,ite_false,xdu,hk];refine xba (xba (xga hi.typeIs (xbh (xba (wpAny_isOneOf_keyiter hi.typeIs ?_)))));show wpAny _ _ (setField (.ref it) 1 (rawInt ((k:Int)+1)) >>= _) _ _ st;refine xba (xkh ei di (by simp) ?_);have hi':(st.heap.update it (Obj.mapFields (·.setIfInBounds 1 (rawInt ((k:Int)+1))))).IsKeyIter it d (k+1) es.size ep :=
   ⟨_,xib _ ei (Obj.isFreed_of_fields (xio di _)),(Obj.cls_mapFields ..).trans ci,by rw[xio di];simp[rawInt]⟩
  refine xba (xfm (xba (wpAny_isOneOf_keyiter (s:={st with heap:=st.heap.update it (Obj.mapFields (·.setIfInBounds 1 (rawInt ((k:Int)+1))))}) hi'.typeIs ?_)));show wpAny _ _ (pure en.key) _ _ _;exact xbh (xbh ⟨_,rfl,xbh (fin _ hi' (xhe ..))⟩)
theorem zyo {W:Option Value->Shared->Prop}(hh:B.handled=none)(hi:st.heap.IsKeyIter it d k es.size ep)(x:Raw st.heap d es ep)(hk:es.size<=k)
  (fin:∀g:Heap,Heap.ExtBut it st.heap g->W none {st with heap:=g}):wpAny (model P w) B (pyNext (.ref it)) W E st:=by
 obtain⟨oi,ei,ci,di⟩:=id hi;obtain⟨ob,e,c,dt⟩:=id x;unfold pyNext;refine xba (xku (wpAny_callSpecial?_slot (name:=Str.ofString "__next__") hi.typeIs xez (xew xez hi.typeIs F.entry_dict_keyiterator_next ?body (F.args_dict_keyiterator_next_1 _))))
 case body =>
  refine xba (xbh (xba (xba (xba (xga hi.typeIs (xbh (xba (wpAny_fieldsOf ei di ?_))))))));simp only[show Builtin.Dict_items.ownsTuple "dict_keyiterator"=false from by decide, xch, ite_false]
  show wpAny _ _ (if(Value.ref d==Value.none)=true then _ else _) _ _ st;have nn:¬ (Value.ref d==Value.none)=true:=xeq;rw[if_neg nn];refine xba (xbh (xba (xhz e dt ?_)));rw[if_neg (by simp)];refine xba (xbh (xba (wpAny_dictEpoch e dt ?_)));rw[if_neg (by simp)];refine xbh ?_;simp only[show ¬ ((k:Int) < 0) from by lia,ite_false,xdu,Array.getElem?_eq_none hk];refine xba (xba (xga hi.typeIs (xbh ?_)));show wpAny _ _ (setField (.ref it) 0 .none >>= _) _ _ st;refine xba (xkh ei di (by simp) ?_);show wpAny _ _ (newExc (.type "StopIteration") [] >>= _) _ _ _
  refine xba ?_;simp only[newExc,newTuple];refine xba (xfh (xba (m:=firstArgMember _ _) (wpAny_of_eq (a:=Value.none) (by first | rfl | (simp only[firstArgMember];rfl)) (xfh ?_ (by size_fits)))) (by size_fits));simp only[raiseNew];refine xba (wpAny_handled ?_);rw[show B.in1.handled=none from hh];refine xba (xbh (wpAny_throw ?_));refine xba (wpAny_isInstance (T:="StopIteration") (b:=true) ?_ isSubtype_stop (xbh (fin _ (((xhe ..).extBut.push _).push _))))
  exact⟨_,xbw _ rfl,rfl⟩
theorem zwd (hh:B.handled=none)(ne:d≠it)(es:Array DictEntry)(ep:Nat) :
  Walks P w B it [it,d] [it] es.size (fun i v=>∃en,es[i]?=some en/\v=en.key) (fun i h=>h.IsKeyIter it d i es.size ep/\Raw h d es ep) where
 sub:=fun b hb=>xbx.mpr (.inl (xck.mp hb))
 frame:=fun _ _ _ z hk=>⟨z.1.at fun o e=>hk it xbn o e,z.2.kept fun o e=>hk d (xbp _ (xck.mpr rfl)) o e⟩
 item:=fun i sh W' E' hi z hQ=>by
  have hx:es[i]?=some es[i]:=xik hi;exact zss z.1 z.2 hx fun g a b=>hQ es[i].key g sh.toks ⟨_,hx,rfl⟩ ⟨a,z.2.kept fun o e=>b.extBut d o ne e⟩ fun c o hc e=>b.extBut c o (fun q=>hc (xck.mpr q)) e
 done:=fun sh W' E' z hQ=>zyo hh z.1 z.2 (xbe _) fun g b=>hQ g sh.toks fun c o hc e=>b c o (fun q=>hc (xck.mpr q)) e
 self:=fun _ _ _ _ z hQ=>wpAny_pyIter_keyiter z.1 hQ
theorem zber (ns:(d==sysModules)=false)(es:Array DictEntry)(ep:Nat):KdlSrc P w "dict" d d es.size (fun i v=>∃ en, es[i]?=some en/\v=en.key) (fun h=>Raw h d es ep) where
 type:=fun _ x=>x.is
 there:=fun _ x=>⟨x.lt,x.lt⟩
 keep:=fun _ _ x hk=>x.kept fun o e=>hk d (.inl rfl) o e
 notList:=by decide
 notTuple:=by decide
 hint:=fun _ _ _ _ x hq=>kdl_hint_dict x.is hq
 iter:=fun _ sh hh x=>⟨_,_,fun _ _ hq=>zst ns x hq,zwd hh (xcl x.lt) es ep,⟨⟨_,xbw _ rfl,rfl,rfl⟩,x.kept fun o e=>xbd _ e⟩⟩
end
end Dct
namespace Srt
open PySem PySem.W PyProof.Rows
section
variable {P:Program}{w:World}{B:Around}{E:Value->Shared->Prop}{st:Shared}
end
end Srt
namespace L2
open PySem PySem.Spec PyProof.Rows
theorem ObjOk.ob {P:Program}{w:World}{H:Hp}{h:Heap}{a:Addr}{o:HO}(x:ObjOk P w H h a o):∃ob,h.get? a=some ob:=by
 cases o with
 | lst xs=>obtain⟨_,_,_,_,e⟩:=x;exact⟨_,e⟩
 | tup xs=>obtain⟨_,_,_,ob,e,_⟩:=x;exact⟨_,e⟩
 | dK kvs=>obtain⟨_,_,_,_,ob,_,_,e,_⟩:=x;exact⟨_,e⟩
 | dT kvs=>obtain⟨_,_,_,_,ob,_,_,e,_⟩:=x;exact⟨_,e⟩
 | set S n=>obtain⟨ob,_,_,_,e,_⟩:=x;exact⟨_,e⟩
 | ins C dx fs=>obtain⟨_,_,_,e,_⟩:=x;exact⟨_,e⟩
 | own y=>obtain⟨_,e⟩:=x;exact⟨_,e⟩
 | xd fs=>obtain⟨_,⟨_,_,_,e,_⟩,_⟩:=x;exact⟨_,e⟩
 | rng lo hi=>obtain⟨_,_,_,e⟩:=x;exact⟨_,e⟩
 | frz ob u=>obtain⟨e,_⟩:=x;exact⟨_,e⟩
 | tbl ps=>exact⟨_,(show h.get? a=some _ from x)⟩
 | met f y=>exact⟨_,(show h.get? a=some _ from x)⟩
 | ext φ=>obtain⟨_,⟨_,e⟩,_⟩:=x;exact⟨_,e⟩
section
variable {X:Cx}{aU:List (Addr×Obj)}{σ:St}{H:Hp}{s:Shared}
theorem Inv.away (I:Inv X aU σ H s){q:Addr}(ne:∀b ob,s.heap.get? b=some ob->b≠q):H q=none:=by
 cases e:H q with
 | none=>rfl
 | some o =>
  obtain⟨ob,z⟩:=(I.hok q o e).ob;exact absurd rfl (ne q ob z)
theorem Inv.laidN {q:Addr}{o:HO}{g:Heap}{t':Nat}(I:Inv X aU σ H s)(k:∀b u,s.heap.get? b=some u->g.get? b=some u)(ne:∀b ob,s.heap.get? b=some ob->b≠q)(new:ObjOk X.prog X.w (upd H q o) g q o) :
  Inv X aU σ (upd H q o) {s with heap:=g,toks:=t'}:=by
 have hn:=I.away ne;have off:∀{b:Addr} {u:HO},H b=some u->upd H q o b=some u:=fun {b u} e=>by rw[zy (zp e hn)];exact e
 refine I.un ⟨fun b u e _ _ _=>k b u e,fun b u e _ _ _=>⟨u.slots,k b u e⟩,fun b u e n _=>by rw[zy (ne b u e)];exact n,fun b u e _=>⟨u,k b u e⟩,fun b xs e=>off e,fun b ob u e=>off e,fun b ps e=>⟨#[],by rw[off e];simp⟩⟩ fun b u e=>?_
 by_cases hb:b=q
 ·subst hb;rw[zbb] at e;cases e;exact new
 ·rw[zy hb] at e;exact(I.hok b u e).stay (fun c v _ z=>k c v z) (fun c z=>off z) fun c xs z=>off z
end
theorem zzc (ns:List Int):(ns.map (Sum.inl:Int->Key)).map kV=ns.map V.int:=by rw[xcr];rfl
theorem znl {P:Program}{w:World}{H:Hp}{kvs:List (List Key×V)}:∀{ks:List (List Int)} {xs:List (List Key×Addr×Value)},
  Paired (fun(p:List Key×V) (q:List Key×Addr×Value)=>p.1=q.1/\H q.2.1=some (.tup (p.1.map kV))/\RelV p.2 q.2.2) kvs xs->kvs.map (·.1)=ks.map (fun ns=>ns.map Sum.inl) ->
   ∃ps:List (Addr×List Int),ps.map (·.2)=ks/\(∀p∈ps,H p.1=some (.tup (p.2.map V.int)))/\xs.map (fun q=>(entryOfKey (tupleKind (mixKind P w)) q).key)=ps.map fun p=>Value.ref p.1:=by
 induction kvs with
 | nil =>
  intro ks xs r e;cases r;cases ks with
  | nil=>exact⟨[],rfl,fun p hp=>(nomatch hp),rfl⟩
  | cons x ks=>cases e
 | cons kv kvs ih =>
  intro ks xs r e;cases r with
  | cons r rs =>
   cases ks with
   | nil=>cases e
   | cons ns ks =>
    rw[xbt,xbt] at e;injection e with e1 e2
    obtain⟨ps,a1,a2,a3⟩:=ih rs e2;rename_i b _;obtain⟨r1,r2,r3⟩:=r;refine⟨(b.2.1,ns)::ps,by rw[xbt,a1],fun p hp=>?_,by rw[xbt,xbt,a3];rfl⟩;rcases xbx.mp hp with z | z
    ·subst z;rw[e1,zzc] at r2;exact r2
    ·exact a2 p z
open PySem.W in
theorem zbdk {P:Program}{w:World}{B:Around}{sg:Shared}{ps:List (Addr×List Int)}(h2:2<=ps.length)
  (tup:∀(i:Nat) (p:Addr×List Int), ps[i]?=some p->∃(us:List Value) (o:Obj) (n:Nat), IntsAre us p.2/\sg.heap.get? p.1=some o/\o.cls=.type "tuple"/\o.data=.seq us.toArray n/\p.2≠[]) :
  Srt.Answers P w B (Srt.rank (ps.map (·.2))) (ps.map fun p=>Value.ref p.1) sg:=by
 refine⟨tuples' true,fun R hq=>?_,fun i j C hi hj hC=>?_⟩
 ·have kt:∀(l:List (Addr×List Int)),(∀p∈l,∃i:Nat,ps[i]?=some p)->∃fs:List Value,KatTups sg.heap (l.map fun p=>Value.ref p.1) fs/\fs.length=l.length/\∀v∈fs,∃i t,v=Value.int i t:=fun l=>by
   induction l with
   | nil=>intro _;exact⟨[],KatTups.nil,rfl,fun v hv=>(nomatch hv)⟩
   | cons p l ih =>
    intro hp;obtain⟨fs,b1,b2,b3⟩:=ih fun p' hp'=>hp p' (xbp _ hp')
    obtain⟨i,hi⟩:=hp p xbn;obtain⟨us,o,n,a1,a2,a3,a4,a5⟩:=tup i p hi;obtain⟨pa,pn⟩:=p;dsimp only at a1 a2 a3 a4 a5;cases a1 with
    | nil=>exact absurd rfl a5
    | cons x t r=>exact⟨Value.int x t::fs,KatTups.cons a2 a3 a4 rfl b1,by rw[xcb,xcb,b2],fun v hv=>(xbx.mp hv).elim (fun z=>⟨x,t,z⟩) (b3 v)⟩
  obtain⟨fs,b1,b2,b3⟩:=kt ps fun p hp=>List.mem_iff_getElem?.mp hp
  exact kat_kind (T:=.type "int") b1 (by lia) (fun v hv=>by
   obtain⟨i,t,rfl⟩:=b3 v hv
   exact Looks.of_pure rfl) rfl hq
 ·rw[xbc] at hi hj;have ei:ps[i]?=some ps[i]:=xbi hi;have ej:ps[j]?=some ps[j]:=xbi hj;obtain⟨us,o,n,a1,a2,a3,a4,a5⟩:=tup i _ ei;obtain⟨us2,o2,n2,c1,c2,c3,c4,c5⟩:=tup j _ ej;unfold kas_ask;rw[zo (fun p:Addr×List Int=>Value.ref p.1) _ ei,zo (fun p:Addr×List Int=>Value.ref p.1) _ ej];refine kat_lt a2 a4 c2 c4 (Srt.ztk 0 a1 c1 ?_);rw[Srt.zsu (by rw[xbc];exact hi) (by rw[xbc];exact hj),zo (fun p:Addr×List Int=>p.2) _ ei,zo (fun p:Addr×List Int=>p.2) _ ej] at hC;exact hC
theorem zta {ps:List (Addr×List Int)}{p:Array Nat}(p1:p.Perm (List.toArray (List.range ps.length)))(p2:Srt.Up (Srt.rank (ps.map (·.2))) p ps.length) :
  ∃qs:List (Addr×List Int),qs.Perm ps/\(qs.map (·.2)).Pairwise (fun x y=>HT.lexLt y x=false)/\Srt.outOf (ps.map fun p=>Value.ref p.1) p=(qs.map fun p=>Value.ref p.1).toArray:=by
 have hps:p.size=ps.length:=by rw[p1.size_eq];simp
 have sm:∀i∈p.toList,i < ps.length:=fun i hi=>by
  have h3:=(p1.mem_iff (a:=i)).mp (by rw[← Array.mem_toList_iff];exact hi);exact xcp.mp (List.mem_toArray.mp h3)
 refine⟨p.toList.map fun i=>ps.getD i (0,[]),?_,?_,?_⟩
 ·have e1:p.toList.Perm (List.range ps.length):=by
   have:=xfl.mp p1
   simpa using this
  have e2:=e1.map fun i=>ps.getD i (0,[])
  have e3:((List.range ps.length).map fun i=>ps.getD i (0,[]))=ps:=by
   apply List.ext_getElem
   ·simp
   ·intro i h1 h2;simp[xda,h2]
  rw[e3] at e2;exact e2
 ·rw[xcr,xil];intro i j hi hj hij;rw[List.getElem_map,List.getElem_map];rw[xbc] at hi hj;have hi':i < p.size:=by simpa using hi
  have hj':j < p.size:=by simpa using hj
  have hu:=p2 i j (xbr hij) (by lia);have g:∀k,(hk:k < p.toList.length)->p.getD k 0=p.toList[k]:=fun k hk=>by
   have hk':k < p.size:=by simpa using hk
   rw[Array.getD_eq_getD_getElem?,xik hk'];simp
  have si:=sm _ (xds hi);have sj:=sm _ (xds hj);have lk:=Srt.zsu (ks:=ps.map (·.2)) (i:=p.toList[j]) (j:=p.toList[i]) (by rw[xbc];exact sj) (by rw[xbc];exact si);have hno:Srt.lt (Srt.rank (ps.map (·.2))) p.toList[j] p.toList[i]=false:=by
   refine xbv fun z=>?_
   unfold Srt.At at hu;rw[g i hi,g j hj] at hu;lia
  rw[hno] at lk;have v:∀k,k < ps.length->(ps.map (·.2)).getD k []=(ps.getD k (0,[])).2:=fun k hk=>by
   have ek:ps[k]?=some ps[k]:=xbi hk;rw[zo (fun p:Addr×List Int=>p.2) _ ek,xda,ek]
   rfl
  rw[v _ sj,v _ si] at lk;exact lk.symm
 ·unfold Srt.outOf;rw[xcr]
  congr 1
  refine xke fun i hi=>?_
  have hi2:=sm i hi;have ei:ps[i]?=some ps[i]:=xbi hi2;rw[zo (fun p:Addr×List Int=>Value.ref p.1) _ ei];show _=Value.ref (ps.getD i (0,[])).1;rw[xda,ei]
  rfl
section
variable {X:Cx}
end
section
variable {X:Cx}{aU:List (Addr×Obj)}{σ:St}{H:Hp}{s:Shared}
theorem Inv.freeze {a:Addr}{kvs:List (List Key×V)}{ob:Obj}(I:Inv X aU σ H s)(h:H a=some (.dT kvs))(e:s.heap.get? a=some ob):Inv X aU σ (upd H a (.frz ob (.dT kvs))) s:=by
 have off:∀{b:Addr} {u:HO},H b=some u->(∀l,u≠.dT l)->upd H a (.frz ob (.dT kvs)) b=some u:=fun {b u} q n=>by
  rw[zy (by rintro rfl;rw[h] at q;cases q;exact n _ rfl)];exact q
 have z:=I.un (h':=s.heap) (t':=s.toks) (H':=upd H a (.frz ob (.dT kvs))) ⟨fun b u q _ _ _=>q,fun b u q _ _ _=>⟨u.slots,q⟩,fun b u q n _=>by
   rw[zy (by rintro rfl;rw[h] at n;cases n)];exact n,fun b u q _=>⟨u,q⟩,fun b xs q=>off q (fun l z=>by cases z),fun b o u q=>off q (fun l z=>by cases z),fun b ps q=>⟨#[],by rw[off q (fun l z=>by cases z)];simp⟩⟩ (fun b u q=>by
   by_cases hb:b=a
   ·subst hb;rw[zbb] at q;cases q;exact⟨e,(I.hok b _ h).stay (fun c v _ r=>r) (fun c r=>off r (fun l z=>by cases z)) fun c xs r=>off r (fun l z=>by cases z)⟩
   ·rw[zy hb] at q
    exact(I.hok b u q).stay (fun c v _ r=>r) (fun c r=>off r (fun l z=>by cases z)) fun c xs r=>off r (fun l z=>by cases z))
 exact z
end
noncomputable def Itd (a:Addr) (ob:Obj) (kvs:List (List Key×V)) (ps:List (Addr×List Int)):It :=
 ⟨fun i H=>i < ps.length/\H a=some (.frz ob (.dT kvs)),fun i H x H'=>H'=H/\∃p,ps[i]?=some p/\x=.ref p.1,fun i H=>ps.length<=i/\H a=some (.frz ob (.dT kvs))⟩
theorem zvt {P:Program}{w:World}{K:Fg}{tg:Expr}{a it:Addr}{ob:Obj}{kvs:List (List Key×V)}{ps:List (Addr×List Int)}{es:Array DictEntry}{ep:Nat}(ex:ob.ExactDict)(dt:ob.data=.dict es ep)
  (hk:es.toList.map (·.key)=ps.map fun p=>Value.ref p.1):Turn P w K tg (Itd a ob kvs ps) [it] it (fun i h=>h.IsKeyIter it a i es.size ep) where
 mem:=xck.mpr rfl
 obj:=fun i h st b hb=>by
  have e:b=it:=xck.mp hb;subst e;obtain⟨o,e,c,d⟩:=st;exact⟨o,e,fun v z=>by rw[d] at z;cases z⟩
 keep:=fun i h h' st k=>st.at fun o e=>k it (xck.mpr rfl) o e
 item:=by
  intro Y hP hw hK hc i aU s σ H E I hf st hg;subst hP hw hK;obtain⟨hi,hz⟩:=hg;have hsz:es.size=ps.length:=by
   have:=congrArg List.length hk
   rwa [xbc,xbc,xcf] at this
  obtain⟨eo,_⟩:=(show ObjOk Y.prog Y.w H s.heap a (.frz ob (.dT kvs)) from I.hok a _ hz)
  obtain⟨f0,f1,f2,f3,f4,f5⟩:=hf it (xck.mpr rfl);have hen:es[i]?=some es[i]:=xik (by lia);have hpi:ps[i]?=some ps[i]:=xbi hi;have hkey:es[i].key=Value.ref ps[i].1:=by
   have q:=congrArg (fun l=>l[i]?) hk;simp only[xcv,xcm,hen,hpi] at q;exact xcn q
  refine Dct.zss st ⟨ob,eo,ex,dt⟩ hen fun g st' sb=>?_
  have I1:Inv Y aU σ H {s with heap:=g}:=I.turned (t':=s.toks) (fun b o hb e=>sb.extBut b o hb e) f0 f1 f3 f4 f5;obtain⟨o,e,c,d⟩:=id st';exact⟨_,rfl,zbjd (s:={s with heap:=g}) e c d (by decide) ⟨.ref ps[i].1,H,I1,hkey,⟨rfl,ps[i],hpi,rfl⟩,st',fun b hb=>(hf b hb).1⟩⟩
 done:=by
  intro Y hP hw hK hc i aU s σ H E I hf st hg;subst hP hw hK;obtain⟨hi,hz⟩:=hg;have hsz:es.size=ps.length:=by
   have:=congrArg List.length hk
   rwa [xbc,xbc,xcf] at this
  obtain⟨eo,_⟩:=(show ObjOk Y.prog Y.w H s.heap a (.frz ob (.dT kvs)) from I.hok a _ hz)
  obtain⟨f0,f1,f2,f3,f4,f5⟩:=hf it (xck.mpr rfl);exact Dct.zyo (I.ok.hd hc) st ⟨ob,eo,ex,dt⟩ (by lia) fun g eb=>⟨rfl,I.turned (t':=s.toks) (fun b o hb e=>eb b o hb e) f0 f1 f3 f4 f5⟩
 self:=fun _ _ _ _ _ st h=>wpAny_pyIter_keyiter st h
noncomputable def iDct (td:TE):TI:=fun σ H R=>td σ H fun x H1=>∃(a:Addr) (kvs:List (List Key×V)) (ks:List (List Int)),x=.ref a/\H1 a=some (.dT kvs)/\kvs.map (·.1)=ks.map (fun ns=>ns.map Sum.inl) /\
 ∀(ob:Obj) (ps:List (Addr×List Int)),ps.map (·.2)=ks->(∀p∈ps,H1 p.1=some (.tup (p.2.map V.int)))->R (Itd a ob kvs ps) (upd H1 a (.frz ob (.dT kvs)))
theorem zbff {X:Cx}{tg l:Expr}{td:TE}(hl:PE X l td):PI X tg l (iDct td):=by
 intro aU s σ H R I h;refine thn (hl aU s σ H _ I h) fun v s1 hq0=>?_
 obtain⟨x,H1,I1,r1,q1⟩:=hq0;obtain⟨a,kvs,ks,rfl,hd,ek,q⟩:=q1;cases r1;obtain⟨z,ns,ys,rel,ob,es,ep,e1,e2,e3,e4,e5⟩:=(show ObjOk X.prog X.w H1 s1.heap a (.dT kvs) from I1.hok a _ hd)
 obtain⟨ps,a1,a2,a3⟩:=znl (P:=X.prog) (w:=X.w) rel ek;have hes:es.toList.map (·.key)=ps.map fun p=>Value.ref p.1:=by rw[e4,xcr];exact a3
 refine Dct.zst ns ⟨ob,e1,e2,e3⟩ ?_;have I2:=I1.freeze hd e1;refine⟨s1.heap.objs.size,[s1.heap.objs.size],_,_,_,rfl,I2.kept (t':=s1.toks) fun b o e=>xbd _ e,zvt e2 e3 hes,⟨_,xbw _ rfl,rfl,rfl⟩,fun b hb=>?_,q ob ps a1 a2⟩;have e:b=s1.heap.objs.size:=xck.mp hb;subst e;exact I2.fpOk (xbe _) (I2.hok.fresh (xbe _))
section
variable {g:TG}{tc:TT}{te:TE}{Q:VK}{σ:St}{H:Hp}{p:Addr}
end
end L2
namespace L2
open PySem PySem.Spec PyProof.Rows PySem.W
noncomputable def TupsG (g:Heap) (ps:List (Addr×List Int)):Prop:=∀ p∈ps, ∃(us:List Value) (o:Obj) (n:Nat), IntsAre us p.2/\g.get? p.1=some o/\o.cls=.type "tuple"/\o.data=.seq us.toArray n
section
variable {P:Program}{w:World}{B:Around}{E:Value->Shared->Prop}{sg:Shared}
theorem zqd:∀{ps:List (Addr×List Int)},TupsG sg.heap ps->∃fs:List (Option Value),fs.map Option.isSome=ps.map (fun p=>!p.2.isEmpty)/\∀(W:List (Option Value)->Shared->Prop),W fs sg->wpAny (model P w) B ((ps.map fun p=>Value.ref p.1).mapM firstOfTuple') W E sg
 | [],_=>⟨[],rfl,fun W h=>by rw[xjs,List.mapM_nil];exact xbh h⟩
 | p::ps,h=>by
  obtain⟨fs,f1,f2⟩:=zqd (ps:=ps) fun q hq=>h q (xbp _ hq)
  obtain⟨us,o,n,a1,a2,a3,a4⟩:=h p xbn;refine⟨us.toArray[0]?::fs,?_,fun W hW=>?_⟩
  ·rw[xbt,xbt,f1]
   congr 1
   obtain⟨pa,pn⟩:=p;dsimp only at a1 ⊢;cases a1 with
   | nil=>rfl
   | cons x t r=>rfl
  ·rw[xbt,List.mapM_cons];have ty:Looks (model P w) sg.heap (typeOf (.ref p.1)) o.cls:=(Looks.ld a2).andThen .now;refine xba ?_;rw[kas_first_eq];refine xba (Looks.here ty ?_);rw[a3,if_neg (by first | decide | simp)];exact xba (listItems_at a2 a4 (xbh (xba (f2 _ (xbh hW)))))
theorem ztj (x y:Value):keyLt' general' x y=oneLt' false x y:=rfl
theorem zbdi {κ:SortKind}(hκ:κ=general'\/κ=oneType')(hu:B.units < cLine){a b:Addr×List Int}(ha:TupsG sg.heap [a])(hb:TupsG sg.heap [b]){C:Bool->Shared->Prop}(hC:C (HT.lexLt a.2 b.2) sg) :
  wpAny (model P w) B (keyLt' κ (.ref a.1) (.ref b.1)) C E sg:=by
 obtain⟨us,o,n,a1,a2,a3,a4⟩:=ha a xbn;obtain⟨us2,o2,n2,b1,b2,b3,b4⟩:=hb b xbn;rcases hκ with rfl | rfl
 ·rw[ztj];exact kat_one _ _ (HT.zne (items:=us.toArray) (items2:=us2.toArray) ⟨o,a2,a3,n,a4⟩ ⟨o2,b2,b3,n2,b4⟩ a1 b1 hu hC)
 ·rw[keyLt'_oneType,oneLt'_eq];simp only[ite_true];refine xba (wpAny_cRoomFor hu (xba (wpAny_callSpecialIfBound?_slot (T:="tuple") ⟨o, a2, a3⟩ xjn ?_)))
  obtain⟨cls,dd,data,sl⟩:=o;obtain⟨cls2,dd2,data2,sl2⟩:=o2;dsimp only at a3 a4 b3 b4;subst a3 a4 b3 b4;exact call_meets xjn ⟨_,a2,rfl⟩ F.entry_tuple_lt (F.args_tuple_lt_2 _ _) (HT.zhp a.1 b.1 us.toArray us2.toArray n n2 dd dd2 sl sl2 a.2 b.2 a1 b1) ⟨a2,b2,xfz hC⟩
theorem zbdl {ps:List (Addr×List Int)}(hu:B.units < cLine)(tup:TupsG sg.heap ps)(emp:∃p∈ps,p.2=[]):Srt.Answers P w B (Srt.rank (ps.map (·.2))) (ps.map fun p=>Value.ref p.1) sg:=by
 obtain⟨fs,f1,f2⟩:=zqd (P:=P) (w:=w) (B:=B) (E:=fun _ _=>False) tup;have notAll:¬ (fs.toArray.all fun x=>x.isSome)=true:=fun z=>by
  have z':fs.all (fun x=>x.isSome)=true:=by simpa using z
  obtain⟨p,hp,he⟩:=emp;have m:(!p.2.isEmpty)∈fs.map Option.isSome:=by rw[f1];exact List.mem_map_of_mem (f:=fun p:Addr×List Int=>!p.2.isEmpty) hp
  obtain⟨o,ho,e⟩:=xce.mp m;have:=xet.mp z' o ho;rw[e,he] at this;cases this
 have cmp:∀{κ:SortKind},κ=general'\/κ=oneType'->∀i j C,i < (ps.map fun p=>Value.ref p.1).length->j < (ps.map fun p=>Value.ref p.1).length->C (Srt.lt (Srt.rank (ps.map (·.2))) i j) sg->kas_ask P w B κ (ps.map fun p=>Value.ref p.1) i j C sg:=fun {κ} hκ i j C hi hj hC=>by
  rw[xbc] at hi hj;have ei:ps[i]?=some ps[i]:=xbi hi;have ej:ps[j]?=some ps[j]:=xbi hj;unfold kas_ask;rw[zo (fun p:Addr×List Int=>Value.ref p.1) _ ei,zo (fun p:Addr×List Int=>Value.ref p.1) _ ej];rw[Srt.zsu (by rw[xbc];exact hi) (by rw[xbc];exact hj),zo (fun p:Addr×List Int=>p.2) _ ei,zo (fun p:Addr×List Int=>p.2) _ ej] at hC;have one:∀k,(hk:k < ps.length)->TupsG sg.heap [ps[k]]:=fun k hk q hq=>by
   rw[xck.mp hq];exact tup _ (xds hk)
  exact zbdi hκ hu (one i hi) (one j hj) hC
 by_cases fst:(fs.toArray[0]?.bind id).isSome=true
 ·refine⟨general',fun R hR=>?_,cmp (.inl rfl)⟩;rw[kat_kind_eq,xky,xlj];refine xba (xba (f2 _ (xbh ?_)));rw[if_neg notAll,if_pos fst];exact xbh hR
 ·refine⟨oneType',fun R hR=>?_,cmp (.inr rfl)⟩;rw[kat_kind_eq,xky,xlj];refine xba (xba (f2 _ (xbh ?_)));rw[if_neg notAll,if_neg fst,oneTypeOnly'_eq,xky,xlj];have ty:∀ v∈(ps.map fun p=>Value.ref p.1), ∀ W:Value->Shared->Prop, W (.type "tuple") sg->wpAny (model P w) B (typeOf v) W (fun _ _=>False) sg:=fun v hv W hW=>by
   obtain⟨p,hp,rfl⟩:=xce.mp hv;obtain⟨us,o,n,a1,a2,a3,a4⟩:=tup p hp;have lk:Looks (model P w) sg.heap (typeOf (.ref p.1)) o.cls:=(Looks.ld a2).andThen .now;rw[a3] at lk;exact lk.here hW
  refine xba (xba (xba (kas_mapM (r:=Value.type "tuple") _ ty (xbh ?_))))
  obtain⟨p,hp,_⟩:=emp;obtain⟨p0,rest,rfl⟩:∃p0 rest,ps=p0::rest:=by
   cases ps with
   | nil=>exact nomatch hp
   | cons p0 rest=>exact⟨p0,rest,rfl⟩
  have all:((List.map (fun _=>Value.type "tuple") ((p0::rest).map fun p=>Value.ref p.1)).toArray.all fun x=>x==Value.type "tuple")=true:=by
   rw[List.all_toArray,xet];intro x hx;obtain⟨_,_,rfl⟩:=xce.mp hx
   rfl
  have zero:(List.map (fun _=>Value.type "tuple") ((p0::rest).map fun p=>Value.ref p.1)).toArray[0]?=some (Value.type "tuple"):=by simp
  rw[zero];simp only[all,ite_true];exact xbh (xbh hR)
theorem zzx {ps:List (Addr×List Int)}(hu:B.units < cLine)(h2:2<=ps.length)(tup:TupsG sg.heap ps):Srt.Answers P w B (Srt.rank (ps.map (·.2))) (ps.map fun p=>Value.ref p.1) sg:=by
 by_cases c:∃p∈ps,p.2=[]
 ·exact zbdl hu tup c
 ·refine zbdk h2 fun i p hi=>?_
  have hp:=xbq hi;obtain⟨us,o,n,a1,a2,a3,a4⟩:=tup p hp;exact⟨us,o,n,a1,a2,a3,a4,fun z=>c ⟨p,hp,z⟩⟩
end
theorem zif (z:List (Addr×List Int)):Vals (z.map fun p=>V.ref p.1) (z.map fun p=>Value.ref p.1):=by
 induction z with
 | nil=>exact .nil
 | cons x z ih=>exact .cons rfl ih
section
variable {X:Cx}
end
end L2
namespace TS
open PySem PyProof.Rows
noncomputable def kA (R:Keyed->Nat) (xs:Array Keyed) (i:Nat):Nat:=match xs[i]? with
 | some p=>R p
 | none=>0
theorem zeb {R:Keyed->Nat}{xs ys:Array Keyed}{i j:Nat}(h:xs[i]?=ys[j]?):kA R xs i=kA R ys j:=by unfold kA;rw[h]
theorem zem {R:Keyed->Nat}{xs:Array Keyed}{i:Nat}{x:Keyed}(h:xs[i]?=some x):kA R xs i=R x:=by unfold kA;rw[h]
noncomputable def UpA (R:Keyed->Nat) (xs:Array Keyed) (a b:Nat):Prop:=∀i j,a<=i->i<=j->j < b->kA R xs i<=kA R xs j
noncomputable def DnA (R:Keyed->Nat) (xs:Array Keyed) (a b:Nat):Prop:=∀i j,a<=i->i<=j->j < b->kA R xs j<=kA R xs i
section
variable {prog:Program}{w:World}{A:Around}{E:Value->Shared->Prop}{s:Shared}{κ:SortKind}{a₀:Array Keyed}{R:Keyed->Nat}
noncomputable def Orc (prog:Program) (w:World) (A:Around) (s:Shared) (κ:SortKind) (a₀:Array Keyed) (R:Keyed->Nat):Prop :=
 ∀x,x∈a₀.toList->∀y,y∈a₀.toList->∀(C:Bool->Shared->Prop),C (decide (R x < R y)) s->wpAny (model prog w) A (keyLt' κ x.1 y.1) C (fun _ _=>False) s
structure B (κ:SortKind) (a₀:Array Keyed) (st:SortSt):Prop where
 perm:(arrOf st).Perm a₀
 kind:kindOf st=κ
 failed:failedOf st=none
theorem B.size {st:SortSt}(h:B κ a₀ st):(arrOf st).size=a₀.size:=h.perm.size_eq
theorem B.set {st:SortSt}(h:B κ a₀ st){xs:Array Keyed}(hp:xs.Perm (arrOf st)):B κ a₀ (setArr st xs):=⟨hp.trans h.perm,h.kind,h.failed⟩
theorem B.mem {st:SortSt}(h:B κ a₀ st){i:Nat}(hi:i < a₀.size):∃x,(arrOf st)[i]?=some x/\x∈a₀.toList:=by
 have hi':i < (arrOf st).size:=by rw[h.size];exact hi
 exact⟨_,getElem?_pos _ i hi',(xfl.mp h.perm).mem_iff.mp (by simp)⟩
theorem w_lt {x y:Keyed}{st:SortSt}{Q:Option Bool->SortSt->Prop}(O:Orc prog w A s κ a₀ R)(hk:kindOf st=κ)(hx:x∈a₀.toList)(hy:y∈a₀.toList)(h:Q (some (decide (R x < R y))) st):wpS (model prog w) A E s (lt' x y) Q st:=by
 rw[lt'_eq];refine xbj (xhl ?_);rw[hk];refine xbj (xjm (xku (xef (O x hx y hy (fun b s'=>s'=s/\b=decide (R x < R y)) ⟨rfl,rfl⟩) (fun b s' hb=>?_) fun _ _ f=>f.elim)));obtain⟨rfl,rfl⟩:=hb;exact⟨rfl,xbk h⟩
theorem zmm {arr:Array Keyed}{i:Nat}{x:Keyed}{st:SortSt}{Q:Keyed->SortSt->Prop}(e:arr[i]?=some x)(h:Q x st):wpS (model prog w) A E s (elem' arr i) Q st:=by
 rw[elem'_eq,e];exact xbk h
theorem znt {i j:Nat}{st:SortSt}{Q:Option Bool->SortSt->Prop}(O:Orc prog w A s κ a₀ R)(b:B κ a₀ st)(hi:i < a₀.size)(hj:j < a₀.size)(h:Q (some (decide (kA R (arrOf st) i < kA R (arrOf st) j))) st):wpS (model prog w) A E s (ltAt' i j) Q st:=by
 obtain⟨x,e1,m1⟩:=b.mem hi;obtain⟨y,e2,m2⟩:=b.mem hj;rw[zem e1,zem e2] at h;rw[ltAt'_eq];exact xbj (xhl (xbj (zmm e1 (xbj (zmm e2 (w_lt O b.kind m1 m2 h))))))
theorem zvn {i j:Nat}{st:SortSt}{Q:Unit->SortSt->Prop}(h:Q () (setArr st (mirror (arrOf st) i j ((j - i) / 2)))):wpS (model prog w) A E s (reverseSlice' i j) Q st:=by
 rw[reverseSlice'_eq];exact xgk h
theorem zbji {i j:Nat}{st:SortSt}{Q:Unit->SortSt->Prop}(h:Q () (setArr st (bubble (arrOf st) i (i - j)))):wpS (model prog w) A E s (moveDown' i j) Q st:=by
 rw[moveDown'_eq];exact xgk h
theorem zbdv {lo x n N:Nat}(h:x < n)(hn:lo+n<=N):lo+x < N:=xbg (xdy h lo) hn
theorem zbdu {lo x n N:Nat}(h:x < n)(hn:lo+n<=N):lo+x - 1 < N:=xcx (xfu _ _) (zbdv h hn)
theorem zts {lo n:Nat}(h:1<=n):lo+n - 1 < lo+n:=xho (xbg h (xlm _ _)) Nat.one_pos
theorem zbjb {j lo n:Nat}(h:j < lo+(n+1))(e:¬j=lo+n):j < lo+n:=xcy (xcw h) e
theorem zbgd {i j k:Nat}(c2:k < j):i<=i+j - 1 - k:=Nat.le_sub_of_add_le (xdb (xdy c2 i))
theorem zbge {i j k:Nat}(c1:i<=k)(c2:k < j):i+j - 1 - k < j:=xcx (xgd c1 _) (by rw[Nat.sub_right_comm,xct];exact xho (xjc c2) Nat.one_pos)
theorem zlw {xs:Array Keyed}{i j:Nat}(hj:j<=xs.size)(k:Nat):kA R (mirror xs i j ((j - i) / 2)) k=if i<=k/\k < j then kA R xs (i+j - 1 - k) else kA R xs k:=by
 have e:=getElem?_mirror_all (i:=i) hj k;split
 ·rename_i c;rw[if_pos c] at e;exact zeb e
 ·rename_i c;rw[if_neg c] at e;exact zeb e
noncomputable def Out (xs ys:Array Keyed) (a b:Nat):Prop:=∀k,k < a\/b<=k->xs[k]?=ys[k]?
theorem Out.refl (xs:Array Keyed)(a b:Nat):Out xs xs a b:=fun _ _=>rfl
theorem Out.trans {xs ys zs:Array Keyed}{a b:Nat}(h1:Out xs ys a b)(h2:Out ys zs a b):Out xs zs a b:=fun k hk=>(h1 k hk).trans (h2 k hk)
theorem Out.mirror {xs:Array Keyed}{i j a b:Nat}(hj:j<=xs.size)(hi:a<=i)(hb:j<=b):Out (mirror xs i j ((j - i) / 2)) xs a b:=fun k hk=>by
 rw[getElem?_mirror_all (i:=i) hj k,if_neg fun z=>hk.elim (fun h=>xed (xbb hi z.1) h) fun h=>xed (xbb hb h) z.2]
theorem Out.bubble {xs:Array Keyed}{src d a b:Nat}(hs:src < xs.size)(hd:d<=src)(ha:a<=src - d)(hb:src < b):Out (bubble xs src d) xs a b:=fun k hk=>by
 rw[getElem?_bubble hs d hd k,if_neg fun z=>hk.elim (fun h=>xed (xbb ha (xdf z.symm)) h) fun h=>xed h (xcx (xbb (xdf z) (xfu _ _)) hb),if_neg fun z=>hk.elim (fun h=>xed (xbb ha (xbr z.1)) h) fun h=>xed h (xcx z.2 hb)]
structure Sm (st st':SortSt) (a b:Nat):Prop where
 out:Out (arrOf st') (arrOf st) a b
 pend:pendingOf st'=pendingOf st
theorem zbef {lo a nrem:Nat}{st:SortSt}{Q:Option (Option Nat)×Nat->SortSt->Prop}(O:Orc prog w A s κ a₀ R)(b:B κ a₀ st)(hn:lo+nrem<=a₀.size)(ha:1<=a)(han:a<=nrem)(hs:UpA R (arrOf st) lo (lo+a))
  (h:∀n,a<=n->n<=nrem->UpA R (arrOf st) lo (lo+n)->(n=nrem\/kA R (arrOf st) (lo+n) < kA R (arrOf st) (lo+n - 1))->Q (none,n) st) :
  wpS (model prog w) A E s (forIn [a:nrem] ((none,a):Option (Option Nat)×Nat) fun _ r=>do
   let x ← ltAt' (lo+r.2) (lo+r.2 - 1)
   match x with
   | some smaller=>if smaller=true then pure (ForInStep.done (none,r.2)) else pure (ForInStep.yield (none,r.2+1))
   | _=>pure (ForInStep.done (some none,r.2))) Q st:=by
 refine xdj (I:=fun x c st'=>st'=st/\c=(none,x)/\UpA R (arrOf st) lo (lo+x)) ?_ ?_ ⟨rfl,rfl,hs⟩
 ·rintro x c st' h1 h2 ⟨rfl,rfl,h3⟩;dsimp only;refine xbj (znt O b (zbdv h2 hn) (zbdu h2 hn) ?_);by_cases c:kA R (arrOf st') (lo+x) < kA R (arrOf st') (lo+x - 1)
  ·simp only[c,xey,xdz];exact xbk (h x h1 (xbr h2) h3 (.inr c))
  ·simp only[c,xfk,xch,xdo];refine xbk ⟨rfl,rfl,fun i j hi hij hj=>?_⟩;by_cases e:j=lo+x
   ·subst e;by_cases e2:i=lo+x
    ·rw[e2];exact xbe _
    ·exact xbb (h3 i (lo+x - 1) hi (xdb (xcy hij e2)) (zts (xbb ha h1))) (xcc c)
   ·exact h3 i j hi hij (zbjb hj e)
 ·rintro c st' ⟨rfl,rfl,h3⟩;rw[xlg han] at h3 ⊢;exact h nrem han (xbe _) h3 (.inl rfl)
theorem zjj {xs:Array Keyed}{i j:Nat}(hj:j<=xs.size)(he:∀k,i<=k->k < j->kA R xs k=kA R xs (j - 1))(k:Nat):kA R (mirror xs i j ((j - i) / 2)) k=kA R xs k:=by
 rw[zlw hj];split
 ·rename_i c;rw[he _ (zbgd c.2) (zbge c.1 c.2),he k c.1 c.2]
 ·rfl
structure Fl (κ:SortKind) (a₀:Array Keyed) (R:Keyed->Nat) (st₀ st:SortSt) (lo n neq b:Nat):Prop where
 base:B κ a₀ st
 same:Sm st₀ st lo b
 dn:DnA R (arrOf st) lo (lo+n)
 hq:neq+1<=n
 eqs:∀i,lo+n - (neq+1)<=i->i < lo+n->kA R (arrOf st) i=kA R (arrOf st) (lo+n - 1)
theorem Fl.turn {st₀ st:SortSt}{lo n neq b:Nat}(h:Fl κ a₀ R st₀ st lo n neq b)(hb:lo+n<=b)(hs:b<=a₀.size) :
  Fl κ a₀ R st₀ (setArr st (mirror (arrOf st) (lo+n - (neq+1)) (lo+n) ((lo+n - (lo+n - (neq+1))) / 2))) lo n neq b/\∀k,kA R (mirror (arrOf st) (lo+n - (neq+1)) (lo+n) ((lo+n - (lo+n - (neq+1))) / 2)) k=kA R (arrOf st) k:=by
 have hz:=h.base.size;have hq:=h.hq;have hle:lo+n<=(arrOf st).size:=by rw[hz];exact xbb hb hs
 have e:=zjj (R:=R) (xs:=arrOf st) (i:=lo+n - (neq+1)) (j:=lo+n) hle h.eqs;refine⟨⟨h.base.set (mirror_perm _ _ _ _),⟨(Out.mirror hle (Nat.le_sub_of_add_le (xcj hq lo)) hb).trans h.same.out,h.same.pend⟩,fun i j a1 a2 a3=>?_,h.hq,fun i a1 a2=>?_⟩,e⟩
 ·show kA R (mirror _ _ _ _) j<=kA R (mirror _ _ _ _) i;rw[e,e];exact h.dn i j a1 a2 a3
 ·show kA R (mirror _ _ _ _) i=kA R (mirror _ _ _ _) _;rw[e,e];exact h.eqs i a1 a2
theorem Fl.less {st₀ st:SortSt}{lo n neq b:Nat}(h:Fl κ a₀ R st₀ st lo n neq b)(c:kA R (arrOf st) (lo+n)<=kA R (arrOf st) (lo+n - 1)):DnA R (arrOf st) lo (lo+(n+1)):=fun i j a1 a2 a3=>by
 have hq:=h.hq;by_cases e:j=lo+n
 ·subst e;by_cases e2:i=lo+n
  ·rw[e2];exact xbe _
  ·exact xbb c (h.dn i (lo+n - 1) a1 (xdb (xcy a2 e2)) (zts (xbb (xlm 1 neq) hq)))
 ·exact h.dn i j a1 a2 (zbjb a3 e)
theorem Fl.fresh {st₀ st:SortSt}{lo n neq b:Nat}(h:Fl κ a₀ R st₀ st lo n neq b)(c:kA R (arrOf st) (lo+n)<=kA R (arrOf st) (lo+n - 1)):Fl κ a₀ R st₀ st lo (n+1) 0 b:=⟨h.base,h.same,h.less c,xee (xdv _),fun i g1 g2=>by
 have:i=lo+(n+1) - 1:=xdq (xcw g2) g1
 rw[this]⟩
theorem Fl.more {st₀ st:SortSt}{lo n neq b:Nat}(h:Fl κ a₀ R st₀ st lo n neq b)(c:kA R (arrOf st) (lo+n)=kA R (arrOf st) (lo+n - 1)):Fl κ a₀ R st₀ st lo (n+1) (neq+1) b:=by
 have hq:=h.hq;refine⟨h.base,h.same,h.less (xdf c),xee hq,fun i g1 g2=>?_⟩;rw[show lo+(n+1) - 1=lo+n from rfl];by_cases e:i=lo+n
 ·rw[e]
 ·rw[c];exact h.eqs i (xbb (xdf (Nat.succ_sub_succ (lo+n) (neq+1)).symm) g1) (zbjb g2 e)
theorem zbee {lo nrem:Nat}{st:SortSt}{Q:Option Nat->SortSt->Prop}(O:Orc prog w A s κ a₀ R)(b:B κ a₀ st)(hn:lo+nrem<=a₀.size)(h1:1<=nrem)
  (h:∀m st',1<=m->m<=nrem->B κ a₀ st'->Sm st st' lo (lo+nrem)->UpA R (arrOf st') lo (lo+m)->Q (some m) st'):wpS (model prog w) A E s (countRun' lo nrem) Q st:=by
 have sm0:Sm st st lo (lo+nrem):=⟨Out.refl _ _ _,rfl⟩
 have one:∀xs:Array Keyed,UpA R xs lo (lo+1):=fun xs i j a1 a2 a3=>by
  have:i=j:=xdq a2 (xbb (xcw a3) a1);subst this;exact xbe _
 have oneD:∀xs:Array Keyed,DnA R xs lo (lo+1):=fun xs i j a1 a2 a3=>by
  have:i=j:=xdq a2 (xbb (xcw a3) a1);subst this;exact xbe _
 rw[countRun'_eq];dsimp only;refine xbj (zbef O b hn (xbe _) h1 (one _) fun n n1 n2 hu hlast=>?_);dsimp only;split
 ·exact xbk (h n st n1 n2 b sm0 hu)
 rename_i hne;have hne':n≠nrem:=fun z=>hne (by simp[z])
 have hlt:n < nrem:=xcy n2 hne';have hl:kA R (arrOf st) (lo+n) < kA R (arrOf st) (lo+n - 1):=by
  rcases hlast with z | z
  ·exact absurd z hne'
  ·exact z
 have hz:=b.size;have fin:∀(n:Nat) (st1:SortSt),B κ a₀ st1->Sm st st1 lo (lo+nrem)->1<=n->n<=nrem->DnA R (arrOf st1) lo (lo+n) ->
   B κ a₀ (setArr st1 (mirror (arrOf st1) lo (lo+n) ((lo+n - lo) / 2)))/\Sm st (setArr st1 (mirror (arrOf st1) lo (lo+n) ((lo+n - lo) / 2))) lo (lo+nrem)/\UpA R (mirror (arrOf st1) lo (lo+n) ((lo+n - lo) / 2)) lo (lo+n):=fun n st1 b1 sm1 m1 m2 dn1=>by
  have hz:=b1.size;have hm:=xcj m2 lo;have hle:lo+n<=(arrOf st1).size:=by rw[hz];exact xbb hm hn
  refine⟨b1.set (mirror_perm _ _ _ _),⟨(Out.mirror hle (xbe _) hm).trans sm1.out,sm1.pend⟩,fun i j a1 a2 a3=>?_⟩;have hi:=xcx a2 a3;rw[zlw hle,zlw hle,if_pos ⟨a1,hi⟩,if_pos ⟨xbb a1 a2,a3⟩];exact dn1 _ _ (zbgd a3) (xgd a2 _) (zbge a1 hi)
 have eqs:¬ kA R (arrOf st) lo < kA R (arrOf st) (lo+n - 1)->∀k,lo<=k->k < lo+n->kA R (arrOf st) k=kA R (arrOf st) (lo+n - 1):=fun c k k1 k2=>by
  have g1:=hu lo k (xbe _) k1 k2;have g2:=hu k (lo+n - 1) k1 (xdb k2) (zts n1);exact xdq g2 (xbb (xcc c) g1)
 have dnx:∀xs:Array Keyed,(∀k,kA R xs k=kA R (arrOf st) k)->¬ kA R (arrOf st) lo < kA R (arrOf st) (lo+n - 1)->DnA R xs lo (lo+(n+1)):=fun xs e c i j a1 a2 a3=>by
  rw[e,e];by_cases e2:j=lo+n
  ·subst e2;by_cases e3:i=lo+n
   ·rw[e3];exact xbe _
   ·rw[eqs c i a1 (xcy a2 e3)];exact xbr hl
  ·have jn:=zbjb a3 e2;rw[eqs c i a1 (xcx a2 jn),eqs c j (xbb a1 a2) jn];exact xbe _
 split
 ·have hle:lo+n<=(arrOf st).size:=by rw[hz];exact xbb (xcj n2 lo) hn
  refine xbj (znt O b (xbg (xhh h1) hn) (zbdu hlt hn) ?_);by_cases c:kA R (arrOf st) lo < kA R (arrOf st) (lo+n - 1)
  ·simp only[c,xey,xdz];exact xbk (h n st n1 n2 b sm0 hu)
  ·simp only[c,xfk,xch,xdo];refine xbj (zvn ?_);have b1:B κ a₀ (setArr st (mirror (arrOf st) lo (lo+n) ((lo+n - lo) / 2))):=b.set (mirror_perm _ _ _ _);have sm1:Sm st (setArr st (mirror (arrOf st) lo (lo+n) ((lo+n - lo) / 2))) lo (lo+nrem):=⟨Out.mirror hle (xbe _) (xcj n2 lo),rfl⟩
   have dn1:DnA R (arrOf (setArr st (mirror (arrOf st) lo (lo+n) ((lo+n - lo) / 2)))) lo (lo+(n+1)):=dnx _ (zjj hle (eqs c)) c;generalize (setArr st (mirror (arrOf st) lo (lo+n) ((lo+n - lo) / 2)))=st1 at b1 sm1 dn1 ⊢;refine xbj (xjm (xhs ⟨rfl,?_⟩));refine xbj (xex (xdj (I:=fun x c st'=>∃neq,c=(none,x,neq)/\Fl κ a₀ R st st' lo x neq (lo+nrem)) (Q:=fun c st'=>∃m neq,c=(none,m,neq)/\n+1<=m/\m<=nrem/\Fl κ a₀ R st st' lo m neq (lo+nrem)) ?_ ?_ ?_) ?_)
   ·rintro x c st' a1 a2 ⟨neq,rfl,f⟩;dsimp only;refine xbj (znt O f.base (zbdv a2 hn) (zbdu a2 hn) ?_);by_cases c:kA R (arrOf st') (lo+x) < kA R (arrOf st') (lo+x - 1)
    ·simp only[c,xey,xdz];split
     ·obtain⟨f2,e⟩:=f.turn (xcj (xbr a2) lo) hn;refine xbj (zvn (xbk ⟨0,rfl,f2.fresh ?_⟩));refine xbr (?_:kA R (mirror _ _ _ _) _ < kA R (mirror _ _ _ _) _);rw[e,e];exact c
     ·exact xbk ⟨0,rfl,f.fresh (xbr c)⟩
    ·simp only[c,xfk,xch,xdo];refine xbj (znt O f.base (zbdu a2 hn) (zbdv a2 hn) ?_);by_cases c2:kA R (arrOf st') (lo+x - 1) < kA R (arrOf st') (lo+x)
     ·simp only[c2,xey,xdz];exact xbk ⟨x,neq,rfl,a1,xbr a2,f⟩
     ·simp only[c2,xfk,xch,xdo];exact xbk ⟨neq+1,rfl,f.more (xdq (xcc c2) (xcc c))⟩
   ·rintro c st' ⟨neq,rfl,f⟩;rw[xlg hlt] at f ⊢;exact⟨nrem,neq,rfl,hlt,xbe _,f⟩
   ·exact⟨0,rfl,b1,sm1,dn1,xee (xdv _),fun i g1 g2=>by
     have:i=lo+(n+1) - 1:=xdq (xcw g2) g1
     rw[this]⟩
   ·rintro c st' ⟨m,neq,rfl,a1,a2,f⟩;dsimp only;split
    ·obtain⟨f2,e⟩:=f.turn (xcj a2 lo) hn;refine xbj (zvn (xbj (zvn ?_)));obtain⟨b3,s3,u3⟩:=fin m _ f2.base f2.same (xdg a1) a2 f2.dn;exact xbj (zbef O b3 hn (xdg a1) a2 u3 fun m' m1 m2 hu' _=>xbk (h m' _ (xbb (xdg a1) m1) m2 b3 s3 hu'))
    ·refine xbj (zvn ?_);obtain⟨b3,s3,u3⟩:=fin m _ f.base f.same (xdg a1) a2 f.dn;exact xbj (zbef O b3 hn (xdg a1) a2 u3 fun m' m1 m2 hu' _=>xbk (h m' _ (xbb (xdg a1) m1) m2 b3 s3 hu'))
 ·rename_i hn1;have b1:=b;have sm1:=sm0
  have dn1:DnA R (arrOf st) lo (lo+(n+1)):=dnx _ (fun _=>rfl) (by
   have:n=1:=xdq (xcc hn1) n1;subst this
   simp)
  refine xbj (xjm (xhs ⟨rfl,?_⟩));refine xbj (xex (xdj (I:=fun x c st'=>∃neq,c=(none,x,neq)/\Fl κ a₀ R st st' lo x neq (lo+nrem)) (Q:=fun c st'=>∃m neq,c=(none,m,neq)/\n+1<=m/\m<=nrem/\Fl κ a₀ R st st' lo m neq (lo+nrem)) ?_ ?_ ?_) ?_)
  ·rintro x c st' a1 a2 ⟨neq,rfl,f⟩;dsimp only;refine xbj (znt O f.base (zbdv a2 hn) (zbdu a2 hn) ?_);by_cases c:kA R (arrOf st') (lo+x) < kA R (arrOf st') (lo+x - 1)
   ·simp only[c,xey,xdz];split
    ·obtain⟨f2,e⟩:=f.turn (xcj (xbr a2) lo) hn;refine xbj (zvn (xbk ⟨0,rfl,f2.fresh ?_⟩));refine xbr (?_:kA R (mirror _ _ _ _) _ < kA R (mirror _ _ _ _) _);rw[e,e];exact c
    ·exact xbk ⟨0,rfl,f.fresh (xbr c)⟩
   ·simp only[c,xfk,xch,xdo];refine xbj (znt O f.base (zbdu a2 hn) (zbdv a2 hn) ?_);by_cases c2:kA R (arrOf st') (lo+x - 1) < kA R (arrOf st') (lo+x)
    ·simp only[c2,xey,xdz];exact xbk ⟨x,neq,rfl,a1,xbr a2,f⟩
    ·simp only[c2,xfk,xch,xdo];exact xbk ⟨neq+1,rfl,f.more (xdq (xcc c2) (xcc c))⟩
  ·rintro c st' ⟨neq,rfl,f⟩;rw[xlg hlt] at f ⊢;exact⟨nrem,neq,rfl,hlt,xbe _,f⟩
  ·exact⟨0,rfl,b1,sm1,dn1,xee (xdv _),fun i g1 g2=>by
    have:i=lo+(n+1) - 1:=xdq (xcw g2) g1
    rw[this]⟩
  ·rintro c st' ⟨m,neq,rfl,a1,a2,f⟩;dsimp only;split
   ·obtain⟨f2,e⟩:=f.turn (xcj a2 lo) hn;refine xbj (zvn (xbj (zvn ?_)));obtain⟨b3,s3,u3⟩:=fin m _ f2.base f2.same (xdg a1) a2 f2.dn;exact xbj (zbef O b3 hn (xdg a1) a2 u3 fun m' m1 m2 hu' _=>xbk (h m' _ (xbb (xdg a1) m1) m2 b3 s3 hu'))
   ·refine xbj (zvn ?_);obtain⟨b3,s3,u3⟩:=fin m _ f.base f.same (xdg a1) a2 f.dn;exact xbj (zbef O b3 hn (xdg a1) a2 u3 fun m' m1 m2 hu' _=>xbk (h m' _ (xbb (xdg a1) m1) m2 b3 s3 hu'))
end
section
variable {prog:Program}{w:World}{A:Around}{E:Value->Shared->Prop}{s:Shared}{κ:SortKind}{a₀:Array Keyed}{R:Keyed->Nat}
theorem zpz {xs:Array Keyed}{src d:Nat}(hs:src < xs.size)(hd:d<=src)(k:Nat):kA R (bubble xs src d) k=if k=src - d then kA R xs src else if src - d < k/\k<=src then kA R xs (k - 1) else kA R xs k:=by
 have e:=getElem?_bubble hs d hd k;split
 ·rename_i c;rw[if_pos c] at e;exact zeb e
 ·rename_i c;rw[if_neg c] at e;split
  ·rename_i c2;rw[if_pos c2] at e;exact zeb e
  ·rename_i c2;rw[if_neg c2] at e;exact zeb e
theorem zlr {a b n:Nat}(h1:a<=b)(h:b - a<=n - max 0 n):b=a:=by
 rw[Nat.zero_max,xju] at h;exact xdq (Nat.le_of_sub_eq_zero (Nat.le_zero.mp h)) h1
theorem zblm {l r:Nat}(h:¬l ≥ r):l<=(l+r) / 2:=(Nat.le_div_iff_mul_le xlo).mpr (by rw[Nat.mul_two];exact xcj (xbr (xfo h)) l)
theorem zbjc {l r:Nat}(h:¬l ≥ r):(l+r) / 2 < r:=(Nat.div_lt_iff_lt_mul xlo).mpr (by rw[Nat.mul_two];exact Nat.add_lt_add_right (xfo h) r)
theorem hf_l {l r k x:Nat}(h:¬l ≥ r)(g:r - l<=k - x):(l+r) / 2 - l<=k - (x+1):=xbb (xdb (xeb (zblm h) (zbjc h))) (xfa g 1)
theorem hf_r {l r k x:Nat}(h:¬l ≥ r)(g:r - l<=k - x):r - ((l+r) / 2+1)<=k - (x+1):=xbb (xgd (xee (zblm h)) r) (xfa g 1)
theorem zbau {p j q:Nat}(h:p < j)(h2:j<=q):j - 1 < q:=xbg (xho (xjc h) Nat.one_pos) h2
theorem zbon {lo n ok:Nat}{st:SortSt}{Q:Bool->SortSt->Prop}(O:Orc prog w A s κ a₀ R)(b:B κ a₀ st)(hn:lo+n<=a₀.size)(h1:1<=ok)(h2:ok<=n)(up:UpA R (arrOf st) lo (lo+ok))
  (h:∀st',B κ a₀ st'->Sm st st' lo (lo+n)->UpA R (arrOf st') lo (lo+n)->Q true st'):wpS (model prog w) A E s (binarySort' lo n ok) Q st:=by
 rw[binarySort'_eq]
 refine xbj (xex (xdj (I:=fun k c st'=>c=(none,())/\B κ a₀ st'/\Sm st st' lo (lo+n)/\UpA R (arrOf st') lo (lo+min k n))
  (Q:=fun c st'=>c=(none,())/\B κ a₀ st'/\Sm st st' lo (lo+n)/\UpA R (arrOf st') lo (lo+n)) ?_ ?_ ?_) ?_)
 ·rintro k c st' k1 k2 ⟨rfl,b1,sm1,up1⟩;rw[xek (xbr k2)] at up1;have hz:=b1.size;have hk:lo+k < a₀.size:=xbg (xdy k2 lo) hn
  refine xbj (xex (xdj (I:=fun x c st2=>st2=st'/\∃l r,c=(none,l,r)/\l<=r/\r<=k/\r - l<=k - x/\(∀i,i < l->kA R (arrOf st') (lo+i)<=kA R (arrOf st') (lo+k))/\(∀i,r<=i->i < k->kA R (arrOf st') (lo+k)<=kA R (arrOf st') (lo+i)))
   (Q:=fun c st2=>st2=st'/\∃l r,c=(none,l,r)/\l<=k/\(∀i,i < l->kA R (arrOf st') (lo+i)<=kA R (arrOf st') (lo+k))/\(∀i,l<=i->i < k->kA R (arrOf st') (lo+k)<=kA R (arrOf st') (lo+i))) ?_ ?_ ?_) ?_)
  ·rintro x c st2 x1 x2 ⟨rfl,l,r,rfl,g1,g2,g3,g4,g5⟩;dsimp only;by_cases hge:l ≥ r
   ·rw[if_pos hge];have e:l=r:=xdq g1 hge;subst e;exact xbk ⟨rfl,l,l,rfl,g2,g4,g5⟩
   ·have hm:lo+(l+r) / 2 < lo+k:=xdy (xbg (zbjc hge) g2) lo;rw[if_neg hge];refine xbj (znt O b1 hk (xic hm hk) ?_);by_cases c:kA R (arrOf st2) (lo+k) < kA R (arrOf st2) (lo+(l+r) / 2)
    ·simp only[c,xey,xdz];exact xbk ⟨rfl,l,(l+r) / 2,rfl,zblm hge,xbb (xbr (zbjc hge)) g2,hf_l hge g3,g4,fun i a1 a2=>xbb (xbr c) (up1 _ _ (xbo _ _) (xcj a1 lo) (xdy a2 lo))⟩
    ·simp only[c,xfk,xch,xdo];exact xbk ⟨rfl,(l+r) / 2+1,r,rfl,zbjc hge,g2,hf_r hge g3,fun i a1=>xbb (up1 (lo+i) (lo+(l+r) / 2) (xbo _ _) (xcj (xcw a1) lo) hm) (xcc c),g5⟩
  ·rintro c st2 ⟨rfl,l,r,rfl,g1,g2,g3,g4,g5⟩;have e:=zlr g1 g3;subst e;exact⟨rfl,_,_,rfl,g2,g4,g5⟩
  ·exact⟨rfl,0,k,rfl,xdv _,xbe _,xbe _,fun i hi=>absurd hi (Nat.not_lt_zero _),fun i a1 a2=>absurd a2 (xed a1)⟩
  ·rintro c st2 ⟨rfl,l,r,rfl,g1,g2,g3⟩;dsimp only;have hd:lo+k - (lo+k - (lo+l))=lo+l:=Nat.sub_sub_self (xcj g1 lo);have hs:lo+k < (arrOf st2).size:=by rw[hz];exact hk
   refine xbj (zbji (xbk ⟨rfl,b1.set (bubble_perm _ _ _),⟨(Out.bubble hs (xfu _ _) (by rw[hd];exact xbo _ _) (xdy k2 lo)).trans sm1.out,sm1.pend⟩,fun i j a1 a2 a3=>?_⟩));show kA R (bubble (arrOf st2) (lo+k) (lo+k - (lo+l))) i<=kA R (bubble (arrOf st2) (lo+k) (lo+k - (lo+l))) j;rw[zpz hs (xfu _ _),zpz hs (xfu _ _),hd];rw[xek k2] at a3;have hj:j<=lo+k:=xcw a3;have low:∀q,lo<=q->q < lo+l->kA R (arrOf st2) q<=kA R (arrOf st2) (lo+k):=fun q q1 q2=>by
    have:=g2 (q - lo) (xdl q1 q2);rw[xcg q1] at this;exact this
   have hig:∀q,lo+l<=q->q < lo+k->kA R (arrOf st2) (lo+k)<=kA R (arrOf st2) q:=fun q q1 q2=>by
    have q0:=xbb (xbo _ _) q1;have:=g3 (q - lo) (xeh q1) (xdl q0 q2);rw[xcg q0] at this;exact this
   by_cases i1:i=lo+l
   ·rw[if_pos i1];by_cases j1:j=lo+l
    ·rw[if_pos j1];exact xbe _
    ·have jj:=xcy (i1 ▸ a2) (xcs j1);rw[if_neg j1,if_pos ⟨jj,hj⟩];exact hig _ (xdb jj) (zbau jj hj)
   ·rw[if_neg i1];by_cases i2:lo+l < i/\i<=lo+k
    ·have jj:=xbg i2.1 a2;rw[if_pos i2,if_neg (xia jj),if_pos ⟨jj,hj⟩];exact up1 _ _ (xbb (xbo lo l) (xdb i2.1)) (xfa a2 1) (zbau jj hj)
    ·have il:i < lo+l:=xcy (xcc fun z=>i2 ⟨z,xbb a2 hj⟩) i1;rw[if_neg i2];by_cases j1:j=lo+l
     ·rw[if_pos j1];exact low i a1 il
     ·rw[if_neg j1];by_cases j2:lo+l < j/\j<=lo+k
      ·rw[if_pos j2];exact up1 _ _ a1 (xdb (xic il j2.1)) (zbau j2.1 hj)
      ·rw[if_neg j2];exact up1 _ _ a1 a2 (xbg (xcy (xcc fun z=>j2 ⟨z,hj⟩) j1) (xcj g1 lo))
 ·rintro c st' ⟨rfl,b1,sm1,up1⟩;rw[xjh (Nat.le_max_right _ _)] at up1;exact⟨rfl,b1,sm1,up1⟩
 ·refine⟨rfl,b,⟨Out.refl _ _ _,rfl⟩,fun i j a1 a2 a3=>up i j a1 a2 (xbg a3 (xcj (xbb (xhp _ _) (xdf (Nat.max_eq_left h1))) lo))⟩
 ·rintro c st' ⟨rfl,b1,sm1,up1⟩;exact xbk (h st' b1 sm1 up1)
noncomputable def gallop':Bool->Keyed->Array Keyed->Nat->Nat->Nat->StateT SortSt Sem (Option Nat):=sortPriv% PySem.Builtin.gallop
noncomputable def Cut (left:Bool) (R:Keyed->Nat) (key:Keyed) (arr:Array Keyed) (base n h:Nat):Prop:=h<=n/\(∀i,i < h->if left then kA R arr (base+i) < R key else kA R arr (base+i)<=R key)/\(∀i,h<=i->i < n->if left then R key<=kA R arr (base+i) else R key < kA R arr (base+i))
noncomputable def ahead (left:Bool) (R:Keyed->Nat) (key:Keyed) (arr:Array Keyed) (base i:Nat):Bool:=if left then decide (kA R arr (base+i) < R key) else decide (kA R arr (base+i)<=R key)
theorem zmn {left:Bool}{key:Keyed}{arr:Array Keyed}{base i:Nat}{st:SortSt}{Q:Option Bool->SortSt->Prop}(O:Orc prog w A s κ a₀ R)(hk:kindOf st=κ)(mk:key∈a₀.toList)(ma:∃x,arr[base+i]?=some x/\x∈a₀.toList)(h:Q (some (ahead left R key arr base i)) st) :
  wpS (model prog w) A E s (do
   let x ← elem' arr (base+i)
   if left=true then lt' x key else do
    let y ← lt' key x
    pure (Option.map (fun x=>!x) y)) Q st:=by
 obtain⟨x,e,m⟩:=ma;refine xbj (zmm e ?_);unfold ahead at h;rw[zem e] at h;cases left with
 | true =>
  rw[if_pos rfl] at h ⊢;exact w_lt O hk m mk h
 | false =>
  rw[if_neg (by decide)] at h ⊢;refine xbj (w_lt O hk mk m (xbk ?_));have q:(!decide (R key < R x))=decide (R x<=R key):=by
   by_cases c:R key < R x
   ·rw[xbu c,xbv (Nat.not_le_of_lt c)];rfl
   ·rw[xbv c,xbu (xcc c)];rfl
  show Q (some (!decide (R key < R x))) st;rw[q];exact h
theorem zuy {left:Bool}{key:Keyed}{arr:Array Keyed}{base n i j:Nat}(up:UpA R arr base (base+n))(hij:i<=j)(hj:j < n)(h:ahead left R key arr base j=true):ahead left R key arr base i=true:=by
 have:=up (base+i) (base+j) (xbo _ _) (xcj hij _) (xdy hj _);unfold ahead at h ⊢;cases left with
 | true=>rw[if_pos rfl] at h ⊢;exact xbu (xcx this (xeg h))
 | false=>rw[if_neg (by decide)] at h ⊢;exact xbu (xbb this (xeg h))
theorem zbhx {left:Bool}{key:Keyed}{arr:Array Keyed}{base n h:Nat}(h0:h<=n)(h1:∀i,i < h->ahead left R key arr base i=true)(h2:∀i,h<=i->i < n->ahead left R key arr base i=false):Cut left R key arr base n h:=by
 refine⟨h0,fun i hi=>?_,fun i a1 a2=>?_⟩
 ·have:=h1 i hi;unfold ahead at this;cases left with
  | true=>rw[if_pos rfl] at this ⊢;exact xeg this
  | false=>rw[if_neg (by decide)] at this ⊢;exact xeg this
 ·have:=h2 i a1 a2;unfold ahead at this;cases left with
  | true=>rw[if_pos rfl] at this ⊢;exact xcc (of_decide_eq_false this)
  | false=>rw[if_neg (by decide)] at this ⊢;exact xfo (of_decide_eq_false this)
theorem zzh {a b:Nat}(c:¬a ≥ b):(b - a) / 2 < b - a:=Nat.div_lt_self (xfe (xfo c)) (xbe 2)
theorem zbky {a b:Nat}(c:¬a ≥ b):a+(b - a) / 2 < b:=xdr (zzh c)
theorem zbds {a b n:Nat}(c:¬a ≥ b)(h:b<=n):a+(b - a) / 2 < n:=xbg (zbky c) h
theorem zbgg {a b n x:Nat}(h:b - a<=n - x):b - (a+(b - a) / 2+1)<=n - (x+1):=xbb (xgd (xee (xbo a _)) b) (xfa h 1)
theorem zbgf {a b n x:Nat}(c:¬a ≥ b)(h:b - a<=n - x):a+(b - a) / 2 - a<=n - (x+1):=by
 rw[xct];exact xbb (xdb (zzh c)) (xfa h 1)
theorem zbho (o:Nat):o < 2 * o+1:=xkx (xje o xlo)
theorem zbhp {x o:Nat}(h:x+1<=o):x+1+1<=2 * o+1:=xee (xbb h (xje o xlo))
theorem zbej {a b n:Nat}(h:a+b < n):b < n - a:=Nat.lt_sub_of_add_lt (Nat.add_comm a b ▸ h)
inductive GI (f:Nat->Bool) (n:Nat) (st:SortSt) (x:Nat):Option (Option Nat)×Nat×Nat->SortSt->Prop where
 | mk {a b:Nat} (q1:a<=b) (q2:b<=n) (q3:b - a<=n - x) (q4:∀i,i < a->f i=true) (q5:∀i,b<=i->i < n->f i=false):GI f n st x (none,a,b) st
inductive GE (f:Nat->Bool) (n:Nat) (st:SortSt):Option (Option Nat)×Nat×Nat->SortSt->Prop where
 | mk {b:Nat} (q2:b<=n) (q4:∀i,i < b->f i=true) (q5:∀i,b<=i->i < n->f i=false):GE f n st (none,b,b) st
inductive GU (f:Nat->Bool) (n hint:Nat) (P:Nat->Prop) (st:SortSt):Option (Option Nat)×Nat×Nat->SortSt->Prop where
 | mk {l o:Nat} (g1:l < o) (g2:hint+l < n) (g3:f (hint+l)=true) (g4:P o):GU f n hint P st (none,l,o) st
inductive GD (f:Nat->Bool) (hint:Nat) (P:Nat->Prop) (st:SortSt):Option (Option Nat)×Nat×Nat->SortSt->Prop where
 | mk {l o:Nat} (g1:l < o) (g2:l<=hint) (g3:f (hint - l)=false) (g4:P o):GD f hint P st (none,l,o) st
theorem zhb {left:Bool}{key:Keyed}{arr:Array Keyed}{base n hint:Nat}{st:SortSt}{Q:Option Nat->SortSt->Prop}(O:Orc prog w A s κ a₀ R)(hk:kindOf st=κ)(mk:key∈a₀.toList)(ma:∀i,i < n->∃x,arr[base+i]?=some x/\x∈a₀.toList)(hh:hint < n)
  (up:UpA R arr base (base+n))(h:∀k,Cut left R key arr base n k->Q (some k) st):wpS (model prog w) A E s (gallop' left key arr base n hint) Q st:=by
 have mono:∀i j,i<=j->j < n->ahead left R key arr base j=true->ahead left R key arr base i=true:=fun i j a1 a2=>zuy up a1 a2
 have monoF:∀i j,i<=j->j < n->ahead left R key arr base i=false->ahead left R key arr base j=false:=fun i j a1 a2 e=>by
  cases c:ahead left R key arr base j with
  | false=>rfl
  | true=>rw[mono i j a1 a2 c] at e;cases e
 refine xbj (zmn O hk mk (ma hint hh) ?_);dsimp only;cases hr:ahead left R key arr base hint with
 | true =>
  rw[if_pos rfl];refine xbj (xex (xdj (I:=fun x=>GU (ahead left R key arr base) n hint (x+1<=·) st) (Q:=GU (ahead left R key arr base) n hint (fun o=>n - hint<=o\/(hint+o < n/\ahead left R key arr base (hint+o)=false)) st) ?_ ?_ ?_) ?_)
  ·rintro x c st' x1 x2 @⟨l,o,g1,g2,g3,g4⟩;dsimp only;by_cases c:o ≥ n - hint
   ·rw[if_pos c];exact xbk (.mk g1 g2 g3 (.inl c))
   ·have c3:hint+o < n:=xdr (xfo c);rw[if_neg c];refine xbj (zmn O hk mk (ma (hint+o) c3) ?_);dsimp only;cases c2:ahead left R key arr base (hint+o) with
    | true=>exact xbk (.mk (zbho o) c3 c2 (zbhp g4))
    | false=>exact xbk (.mk g1 g2 g3 (.inr ⟨c3,c2⟩))
  ·rintro c st' @⟨l,o,g1,g2,g3,g4⟩;rw[Nat.zero_max] at g4;exact .mk g1 g2 g3 (.inl (xbb (xfu _ _) (xdc g4)))
  ·exact .mk Nat.one_pos hh hr (xbe _)
  ·rintro c st' @⟨l,o,g1,g2,g3,g4⟩;dsimp only;have f1:∀i,i < hint+l+1->ahead left R key arr base i=true:=fun i hi=>mono i (hint+l) (xcw hi) g2 g3
   have f2:∀i,hint+min o (n - hint)<=i->i < n->ahead left R key arr base i=false:=fun i a1 a2=>by
    rcases g4 with g | ⟨ga,gb⟩
    ·rw[xjh g,xcg (xbr hh)] at a1;exact absurd a2 (xed a1)
    ·rw[xek (xbr (zbej ga))] at a1;exact monoF (hint+o) i a1 a2 gb
   have f3:hint+l+1<=hint+min o (n - hint):=xcj (Nat.le_min.mpr ⟨g1,zbej g2⟩) hint;have f4:hint+min o (n - hint)<=n:=xbb (xcj (xfn _ _) hint) (xdf (xcg (xbr hh)));generalize hint+l+1=lo at f1 f3 ⊢;generalize hint+min o (n - hint)=hi at f2 f3 f4 ⊢;refine xbj (xex (xdj (I:=GI (ahead left R key arr base) n st) (Q:=GE (ahead left R key arr base) n st) ?_ ?_ (.mk f3 f4 (xbb (xfu _ _) f4) f1 f2)) ?_)
   ·rintro x c st2 x1 x2 @⟨a,b,q1,q2,q3,q4,q5⟩;dsimp only;by_cases c:a ≥ b
    ·rw[if_pos c];have e:b=a:=xdq c q1;subst e;exact xbk (.mk q2 q4 q5)
    ·rw[if_neg c];refine xbj (zmn O hk mk (ma (a+(b - a) / 2) (zbds c q2)) ?_);dsimp only;cases c2:ahead left R key arr base (a+(b - a) / 2) with
     | true=>exact xbk (.mk (zbky c) q2 (zbgg q3) (fun i hi=>mono i (a+(b - a) / 2) (xcw hi) (zbds c q2) c2) q5)
     | false=>exact xbk (.mk (xbo _ _) (xbr (zbds c q2)) (zbgf c q3) q4 fun i a1 a2=>monoF (a+(b - a) / 2) i a1 a2 c2)
   ·rintro c st2 @⟨a,b,q1,q2,q3,q4,q5⟩;have e:=zlr q1 q3;subst e;exact .mk q2 q4 q5
   ·rintro c st2 @⟨b,q2,q4,q5⟩;exact xbk (h b (zbhx q2 q4 q5))
 | false =>
  rw[if_neg (by decide)];refine xbj (xex (xdj (I:=fun x=>GD (ahead left R key arr base) hint (x+1<=·) st) (Q:=GD (ahead left R key arr base) hint (fun o=>hint+1<=o\/(o<=hint/\ahead left R key arr base (hint - o)=true)) st) ?_ ?_ ?_) ?_)
  ·rintro x c st' x1 x2 @⟨l,o,g1,g2,g3,g4⟩;dsimp only;by_cases c:o ≥ hint+1
   ·rw[if_pos c];exact xbk (.mk g1 g2 g3 (.inl c))
   ·rw[if_neg c];refine xbj (zmn O hk mk (ma (hint - o) (xcx (xfu _ _) hh)) ?_);dsimp only;cases c2:ahead left R key arr base (hint - o) with
    | true=>exact xbk (.mk g1 g2 g3 (.inr ⟨xcw (xfo c),c2⟩))
    | false=>exact xbk (.mk (zbho o) (xcw (xfo c)) c2 (zbhp g4))
  ·rintro c st' @⟨l,o,g1,g2,g3,g4⟩;rw[Nat.zero_max] at g4;exact .mk g1 g2 g3 (.inl (xbb hh (xdc g4)))
  ·exact .mk Nat.one_pos (xdv _) hr (xbe _)
  ·rintro c st' @⟨l,o,g1,g2,g3,g4⟩;dsimp only;have f1:∀i,i < hint+1 - min o (hint+1)->ahead left R key arr base i=true:=fun i hi=>by
    rcases g4 with g | ⟨ga,gb⟩
    ·rw[xjh g,xju] at hi;exact absurd hi (Nat.not_lt_zero _)
    ·rw[xek (xff ga),Nat.succ_sub ga] at hi;exact mono i (hint - o) (xcw hi) (xcx (xfu _ _) hh) gb
   have f2:∀i,hint - l<=i->i < n->ahead left R key arr base i=false:=fun i a1 a2=>monoF (hint - l) i a1 a2 g3
   have f3:hint+1 - min o (hint+1)<=hint - l:=xbb (xgd (Nat.le_min.mpr ⟨g1,xee g2⟩) _) (xdf (Nat.succ_sub_succ hint l));have f4:hint - l<=n:=xbb (xfu _ _) (xbr hh);generalize hint+1 - min o (hint+1)=lo at f1 f3 ⊢;generalize hint - l=hi at f2 f3 f4 ⊢;refine xbj (xex (xdj (I:=GI (ahead left R key arr base) n st) (Q:=GE (ahead left R key arr base) n st) ?_ ?_ (.mk f3 f4 (xbb (xfu _ _) f4) f1 f2)) ?_)
   ·rintro x c st2 x1 x2 @⟨a,b,q1,q2,q3,q4,q5⟩;dsimp only;by_cases c:a ≥ b
    ·rw[if_pos c];have e:b=a:=xdq c q1;subst e;exact xbk (.mk q2 q4 q5)
    ·rw[if_neg c];refine xbj (zmn O hk mk (ma (a+(b - a) / 2) (zbds c q2)) ?_);dsimp only;cases c2:ahead left R key arr base (a+(b - a) / 2) with
     | true=>exact xbk (.mk (zbky c) q2 (zbgg q3) (fun i hi=>mono i (a+(b - a) / 2) (xcw hi) (zbds c q2) c2) q5)
     | false=>exact xbk (.mk (xbo _ _) (xbr (zbds c q2)) (zbgf c q3) q4 fun i a1 a2=>monoF (a+(b - a) / 2) i a1 a2 c2)
   ·rintro c st2 @⟨a,b,q1,q2,q3,q4,q5⟩;have e:=zlr q1 q3;subst e;exact .mk q2 q4 q5
   ·rintro c st2 @⟨b,q2,q4,q5⟩;exact xbk (h b (zbhx q2 q4 q5))
end
section
variable {prog:Program}{w:World}{A:Around}{E:Value->Shared->Prop}{s:Shared}{κ:SortKind}{a₀:Array Keyed}{R:Keyed->Nat}
noncomputable abbrev Ord (R:Keyed->Nat) (l:List Keyed):Prop:=l.Pairwise fun x y=>R x<=R y
structure SmG (st st':SortSt):Prop where
 arr:arrOf st'=arrOf st
 pend:pendingOf st'=pendingOf st
 kind:kindOf st'=kindOf st
 failed:failedOf st'=failedOf st
theorem SmG.refl (st:SortSt):SmG st st:=⟨rfl,rfl,rfl,rfl⟩
theorem SmG.trans {a b c:SortSt}(x:SmG a b)(y:SmG b c):SmG a c:=⟨y.arr.trans x.arr,y.pend.trans x.pend,y.kind.trans x.kind,y.failed.trans x.failed⟩
noncomputable def mergeLo':Array Keyed->Array Keyed->StateT SortSt Sem (Array Keyed):=sortPriv% PySem.Builtin.mergeLo
noncomputable def mergeHi':Array Keyed->Array Keyed->StateT SortSt Sem (Array Keyed):=sortPriv% PySem.Builtin.mergeHi
structure ML (R:Keyed->Nat) (all out rest:List Keyed):Prop where
 perm:(out++rest).Perm all
 ord:Ord R out
 le:∀x∈out,∀y∈rest,R x<=R y
theorem ML.grow {all out rest xs rest':List Keyed}(m:ML R all out rest)(p:rest.Perm (xs++rest'))(o:Ord R xs)(h:∀x∈xs,∀y∈rest',R x<=R y):ML R all (out++xs) rest':=by
 refine⟨?_,xfv.mpr ⟨m.ord,o,fun x hx y hy=>m.le x hx y (p.mem_iff.mpr (xem _ hy))⟩,fun x hx y hy=>?_⟩
 ·rw[xci];exact(xgr out p.symm).trans m.perm
 ·rcases xca.mp hx with hx | hx
  ·exact m.le x hx y (p.mem_iff.mpr (xde _ hy))
  ·exact h x hx y hy
theorem ML.fin {all out rest rest':List Keyed}(m:ML R all out rest)(p:rest'.Perm rest)(o:Ord R rest'):(out++rest').Perm all/\Ord R (out++rest') :=
 ⟨(xgr out p).trans m.perm,xfv.mpr ⟨m.ord,o,fun x hx y hy=>m.le x hx y (p.mem_iff.mp hy)⟩⟩
theorem Ord.at {l:List Keyed}(h:Ord R l){i j:Nat}{x y:Keyed}(hi:l[i]?=some x)(hj:l[j]?=some y)(hij:i<=j):R x<=R y:=by
 obtain⟨h1,e1⟩:=xbf.mp hi;obtain⟨h2,e2⟩:=xbf.mp hj;by_cases c:i=j
 ·subst c;rw[← e1,← e2];exact xbe _
 ·rw[← e1,← e2];exact xil.mp h i j h1 h2 (xcy hij c)
theorem Ord.drop {l:List Keyed}(h:Ord R l)(n:Nat):Ord R (l.drop n):=List.Pairwise.sublist (List.drop_sublist _ _) h
theorem Ord.take {l:List Keyed}(h:Ord R l)(n:Nat):Ord R (l.take n):=List.Pairwise.sublist (xkv _ _) h
theorem zbl {l:List Keyed}{n:Nat}{y:Keyed}(h:y∈l.drop n):∃j,n<=j/\l[j]?=some y:=by
 obtain⟨i,hi,e⟩:=xep h;refine⟨n+i,xbo _ _,?_⟩;rw[← e,List.getElem_drop];exact xbi _
theorem zx {l:List Keyed}{n:Nat}{y:Keyed}(h:y∈l.take n):∃j,j < n/\l[j]?=some y:=by
 obtain⟨i,hi,e⟩:=xep h;have hi2:i < n/\i < l.length:=by rw[xcq] at hi;exact Nat.lt_min.mp hi
 refine⟨i,hi2.1,?_⟩;rw[← e,List.getElem_take];exact xbi _
theorem zjl {l:List Keyed}{i:Nat}{x:Keyed}(h:l[i]?=some x):l.drop i=x::l.drop (i+1):=by
 obtain⟨h1,rfl⟩:=xbf.mp h;exact xgz h1
theorem zni (l:List Keyed)(i k:Nat):l.drop i=(l.drop i).take k++l.drop (i+k):=by
 rw[← xlr,xei]
structure Two (R:Keyed->Nat) (la lb:List Keyed):Prop where
 oa:Ord R la
 ob:Ord R lb
 last:∀x,la[la.length - 1]?=some x->∀y∈lb,R y<=R x
noncomputable def Fin (R:Keyed->Nat) (la lb:List Keyed) (r:Array Keyed):Prop:=r.toList.Perm (la++lb)/\Ord R r.toList
variable {la lb:List Keyed}{out:Array Keyed}{ia ib:Nat}
theorem ML.pushB {R:Keyed->Nat}{all:List Keyed}(T:Two R la lb)(m:ML R all out.toList (la.drop ia++lb.drop ib)){y:Keyed}(hy:lb[ib]?=some y)(h:∀z∈la.drop ia,R y<=R z):ML R all (out.push y).toList (la.drop ia++lb.drop (ib+1)):=by
 rw[xfg];refine m.grow ?_ (xhi _ _) fun x hx z hz=>?_
 ·rw[zjl hy];exact List.perm_middle
 ·simp at hx;subst hx
  rcases xca.mp hz with hz | hz
  ·exact h z hz
  ·obtain⟨j,hj,e⟩:=zbl hz;exact T.ob.at hy e (xdc hj)
theorem ML.pushA {R:Keyed->Nat}{all:List Keyed}(T:Two R la lb)(m:ML R all out.toList (la.drop ia++lb.drop ib)){x:Keyed}(hx:la[ia]?=some x)(h:∀z∈lb.drop ib,R x<=R z):ML R all (out.push x).toList (la.drop (ia+1)++lb.drop ib):=by
 rw[xfg];refine m.grow ?_ (xhi _ _) fun w hw z hz=>?_
 ·rw[zjl hx];exact .refl _
 ·simp at hw;subst hw
  rcases xca.mp hz with hz | hz
  ·obtain⟨j,hj,e⟩:=zbl hz;exact T.oa.at hx e (xdc hj)
  ·exact h z hz
theorem zci (xs:Array Keyed)(i j:Nat):(xs.extract i j).toList=(xs.toList.drop i).take (j - i):=by
 rw[Array.toList_extract,List.extract_eq_take_drop]
theorem zqe (xs:Array Keyed)(i:Nat):(xs.extract i).toList=xs.toList.drop i:=by
 rw[zci];exact xdn (by simp)
theorem zcc {xs:Array Keyed}{i:Nat}{x:Keyed}(h:xs.toList[i]?=some x):kA R xs i=R x:=zem (by rw[← xcm];exact h)
end
section
variable {prog:Program}{w:World}{A:Around}{E:Value->Shared->Prop}{s:Shared}{κ:SortKind}{a₀:Array Keyed}{R:Keyed->Nat}{a b out:Array Keyed}{ia ib k:Nat}{y x:Keyed}{all:List Keyed}
theorem ML.galA (T:Two R a.toList b.toList)(m:ML R all out.toList (a.toList.drop ia++b.toList.drop ib))(hy:b.toList[ib]?=some y)(c:Cut false R y a ia (a.size - ia) k):ML R all (out++a.extract ia (ia+k)).toList (a.toList.drop (ia+k)++b.toList.drop ib)/\∀z∈a.toList.drop (ia+k),R y<=R z:=by
 have up:∀z∈a.toList.drop (ia+k),R y<=R z:=fun z hz=>by
  obtain⟨j,hj,e⟩:=zbl hz;have hj2:j < a.size:=by have:=(xbf.mp e).1;simpa using this
  have h0:=xbb (xbo _ _) hj;have:=c.2.2 (j - ia) (xeh hj) (xeb h0 hj2);rw[xcg h0,zcc e] at this;exact xbr this
 have low:∀z∈(a.toList.drop ia).take k,R z<=R y:=fun z hz=>by
  obtain⟨j,hj,e⟩:=zx hz;rw[xfp] at e;have:=c.2.1 j hj;rw[zcc e] at this;exact this
 refine⟨?_,up⟩;rw[xdi,zci,xct];refine m.grow ?_ ((T.oa.drop ia).take k) fun z hz v hv=>?_
 ·conv=>lhs;rw[zni a.toList ia k]
  rw[xci]
 ·rcases xca.mp hv with hv | hv
  ·exact xbb (low z hz) (up v hv)
  ·obtain⟨j,hj,e⟩:=zbl hv;exact xbb (low z hz) (T.ob.at hy e hj)
theorem ML.galB (T:Two R a.toList b.toList)(m:ML R all out.toList (a.toList.drop ia++b.toList.drop ib))(hx:a.toList[ia]?=some x)(c:Cut true R x b ib (b.size - ib) k):ML R all (out++b.extract ib (ib+k)).toList (a.toList.drop ia++b.toList.drop (ib+k))/\∀z∈b.toList.drop (ib+k),R x<=R z:=by
 have up:∀z∈b.toList.drop (ib+k),R x<=R z:=fun z hz=>by
  obtain⟨j,hj,e⟩:=zbl hz;have hj2:j < b.size:=by have:=(xbf.mp e).1;simpa using this
  have h0:=xbb (xbo _ _) hj;have:=c.2.2 (j - ib) (xeh hj) (xeb h0 hj2);rw[xcg h0,zcc e] at this;exact this
 have low:∀z∈(b.toList.drop ib).take k,R z<=R x:=fun z hz=>by
  obtain⟨j,hj,e⟩:=zx hz;rw[xfp] at e;have:=c.2.1 j hj;rw[zcc e] at this;exact xbr this
 refine⟨?_,up⟩;rw[xdi,zci,xct];refine m.grow ?_ ((T.ob.drop ib).take k) fun z hz v hv=>?_
 ·conv=>lhs;rw[zni b.toList ib k]
  rw[← xci,← xci];exact xhv _ xgs
 ·rcases xca.mp hv with hv | hv
  ·obtain⟨j,hj,e⟩:=zbl hv;exact xbb (low z hz) (T.oa.at hx e hj)
  ·exact xbb (low z hz) (up v hv)
theorem ML.done (T:Two R a.toList b.toList)(m:ML R (a.toList++b.toList) out.toList (a.toList.drop ia++b.toList.drop ib))(h:ia=a.size\/ib=b.size):Fin R a.toList b.toList (out++a.extract ia++b.extract ib):=by
 unfold Fin;rw[xdi,xdi,zqe,zqe,xci];refine m.fin (.refl _) ?_;rcases h with rfl | rfl
 ·rw[xhw (by simp),xjv];exact T.ob.drop _
 ·rw[xhw (as:=b.toList) (by simp),xdp];exact T.oa.drop _
theorem ML.lastA (T:Two R a.toList b.toList)(m:ML R (a.toList++b.toList) out.toList (a.toList.drop ia++b.toList.drop ib))(h:ia+1=a.size):Fin R a.toList b.toList (out++b.extract ib++a.extract ia):=by
 unfold Fin;rw[xdi,xdi,zqe,zqe,xci];refine m.fin xgs (xfv.mpr ⟨T.ob.drop _,T.oa.drop _,fun v hv z hz=>?_⟩);obtain⟨j,hj,e⟩:=zbl hz;have hj2:j < a.size:=by have:=(xbf.mp e).1;simpa using this
 have:j=a.toList.length - 1:=xdq (xdb (by rw[xcf];exact hj2)) (by rw[xcf,← h];exact hj);subst this;exact T.last z e v (List.mem_of_mem_drop hv)
noncomputable def setG':Nat->StateT SortSt Sem Unit:=sortPriv% PySem.Builtin.setMinGallop
theorem zvm {g:Nat}{st:SortSt}{Q:Unit->SortSt->Prop}(h:∀st',SmG st st'->Q () st'):wpS (model prog w) A E s (setG' g) Q st :=
 xgk (h _ ⟨rfl,rfl,rfl,rfl⟩)
theorem zbnn {α:Type}{K:Nat->StateT SortSt Sem α}{Q:α->SortSt->Prop}{st:SortSt}(h:∀v,wpS (model prog w) A E s (K v) Q st):∀y x:Nat,wpS (model prog w) A E s (if y > 1 then K x else K y) Q st:=fun y x=>by
 by_cases e:y > 1
 ·rw[if_pos e];exact h x
 ·rw[if_neg e];exact h y
theorem zbnp {α:Type}{c c2:Prop}[Decidable c][Decidable c2]{X Y Y':StateT SortSt Sem α}{Q:α->SortSt->Prop}{st:SortSt}(hY:¬c->Y'=Y)(h1:c->c2->wpS (model prog w) A E s X Q st)(h2:(c->¬c2)->wpS (model prog w) A E s Y Q st):wpS (model prog w) A E s (if c then(if c2 then X else Y) else Y') Q st:=by
 by_cases e:c
 ·rw[if_pos e];by_cases e2:c2
  ·rw[if_pos e2];exact h1 e e2
  ·rw[if_neg e2];exact h2 fun _=>e2
 ·rw[if_neg e,hY e];exact h2 fun z=>absurd z e
theorem zbed {α:Type}{c c2 c3:Prop}[Decidable c][Decidable c2][Decidable c3]{X X3 Y Y':StateT SortSt Sem α}{Q:α->SortSt->Prop}{st:SortSt}(hY:¬c->Y'=Y)(h1:c->c2->wpS (model prog w) A E s X Q st)(h3:c->c3->wpS (model prog w) A E s X3 Q st)(h2:(c->¬c2/\¬c3)->wpS (model prog w) A E s Y Q st):wpS (model prog w) A E s (if c then(if c2 then X else if c3 then X3 else Y) else Y') Q st:=by
 by_cases e:c
 ·rw[if_pos e];by_cases e2:c2
  ·rw[if_pos e2];exact h1 e e2
  ·rw[if_neg e2];by_cases e3:c3
   ·rw[if_pos e3];exact h3 e e3
   ·rw[if_neg e3];exact h2 fun _=>⟨e2,e3⟩
 ·rw[if_neg e,hY e];exact h2 fun z=>absurd z e
theorem zbno {α:Type}{c c2:Prop}[Decidable c][Decidable c2]{X X2 Y:StateT SortSt Sem α}{Q:α->SortSt->Prop}{st:SortSt}(h1:c->wpS (model prog w) A E s X Q st)(h2:c2->wpS (model prog w) A E s X2 Q st)(h3:¬c->¬c2->wpS (model prog w) A E s Y Q st):wpS (model prog w) A E s (if c then X else if c2 then X2 else Y) Q st:=by
 by_cases e:c
 ·rw[if_pos e];exact h1 e
 ·rw[if_neg e];by_cases e2:c2
  ·rw[if_pos e2];exact h2 e2
  ·rw[if_neg e2];exact h3 e e2
theorem w_if {α:Type}{c:Prop}[Decidable c]{X Y:StateT SortSt Sem α}{Q:α->SortSt->Prop}{st:SortSt}(h1:c->wpS (model prog w) A E s X Q st)(h2:¬c->wpS (model prog w) A E s Y Q st):wpS (model prog w) A E s (if c then X else Y) Q st:=by
 by_cases e:c
 ·rw[if_pos e];exact h1 e
 ·rw[if_neg e];exact h2 e
theorem w_el {α:Type}{arr:Array Keyed}{i:Nat}{x:Keyed}{f:Keyed->StateT SortSt Sem α}{Q:α->SortSt->Prop}{st:SortSt}(e:arr[i]?=some x)(h:wpS (model prog w) A E s (f x) Q st):wpS (model prog w) A E s (elem' arr i >>= f) Q st:=xbj (zmm e h)
theorem zbec {α:Type}{x y:Keyed}{f:Option Bool->StateT SortSt Sem α}{Q:α->SortSt->Prop}{st:SortSt}(O:Orc prog w A s κ a₀ R)(hk:kindOf st=κ)(hx:x∈a₀.toList)(hy:y∈a₀.toList)(h1:R x < R y->wpS (model prog w) A E s (f (some true)) Q st)(h2:R y<=R x->wpS (model prog w) A E s (f (some false)) Q st):wpS (model prog w) A E s (lt' x y >>= f) Q st:=by
 refine xbj (w_lt O hk hx hy ?_);by_cases c:R x < R y
 ·rw[xbu c];exact h1 c
 ·rw[xbv c];exact h2 (xcc c)
inductive Dn {β:Type} (R:Keyed->Nat) (a b:Array Keyed) (st:SortSt):Option (Array Keyed)×β->SortSt->Prop where
 | mk {r:Array Keyed} {z:β} {st':SortSt} (sm:SmG st st') (f:Fin R a.toList b.toList r):Dn R a b st (some r,z) st'
inductive L1 (R:Keyed->Nat) (a b:Array Keyed) (st:SortSt) (x:Nat):Option (Array Keyed)×Array Keyed×Nat×Nat×Nat->SortSt->Prop where
 | mk {out:Array Keyed} {ia ib g:Nat} {st':SortSt} (sm:SmG st st') (m:ML R (a.toList++b.toList) out.toList (a.toList.drop ia++b.toList.drop ib)) (ha:ia+1 < a.size) (hb:ib < b.size) (hx:x < ia+ib):L1 R a b st x (none,out,ia,ib,g) st'
inductive L2' (R:Keyed->Nat) (a b:Array Keyed) (st:SortSt) (x:Nat):Option (Array Keyed)×Array Keyed×Nat×Nat×Nat×Nat->SortSt->Prop where
 | mk {out:Array Keyed} {ia ib ac bc:Nat} {st':SortSt} (sm:SmG st st') (m:ML R (a.toList++b.toList) out.toList (a.toList.drop ia++b.toList.drop ib)) (ha:ia+1 < a.size) (hb:ib < b.size) (hx:x<=ia+ib):L2' R a b st x (none,out,ia,ib,ac,bc) st'
inductive L3 (R:Keyed->Nat) (a b:Array Keyed) (st:SortSt) (x:Nat):Option (Array Keyed)×Array Keyed×Nat×Nat×Nat×Nat×Nat->SortSt->Prop where
 | mk {out:Array Keyed} {ia ib g ac bc:Nat} {st':SortSt} (sm:SmG st st') (m:ML R (a.toList++b.toList) out.toList (a.toList.drop ia++b.toList.drop ib)) (ha:ia+1 < a.size) (hb:ib < b.size) (hx:x<=ia+ib):L3 R a b st x (none,out,ia,ib,g,ac,bc) st'
theorem zvo {st:SortSt}{Q:Array Keyed->SortSt->Prop}(O:Orc prog w A s κ a₀ R)(hk:kindOf st=κ)(ma:∀x∈a.toList,x∈a₀.toList)(mb:∀x∈b.toList,x∈a₀.toList)(T:Two R a.toList b.toList)(ha:1<=a.size)(hb:1<=b.size)
  (fst:∀y,b.toList[0]?=some y->∀x∈a.toList,R y<=R x)(h:∀r st',SmG st st'->Fin R a.toList b.toList r->Q r st'):wpS (model prog w) A E s (mergeLo' a b) Q st:=by
 have atA:∀(i:Nat) (hi:i < a.size),a[i]?=some a[i]/\a.toList[i]?=some a[i]/\a[i]∈a₀.toList:=fun i hi=>⟨getElem?_pos a i hi,by rw[xcm];exact getElem?_pos a i hi,ma _ (by simp)⟩
 have atB:∀(i:Nat) (hi:i < b.size),b[i]?=some b[i]/\b.toList[i]?=some b[i]/\b[i]∈a₀.toList:=fun i hi=>⟨getElem?_pos b i hi,by rw[xcm];exact getElem?_pos b i hi,mb _ (by simp)⟩
 have upA:∀i,UpA R a i (i+(a.size - i)):=fun i p q a1 a2 a3=>by
  have hq:q < a.size:=by lia
  have e1:=(atA p (by lia)).2.1;have e2:=(atA q hq).2.1;rw[zcc e1,zcc e2];exact T.oa.at e1 e2 a2
 have upB:∀i,UpA R b i (i+(b.size - i)):=fun i p q a1 a2 a3=>by
  have hq:q < b.size:=by lia
  have e1:=(atB p (by lia)).2.1;have e2:=(atB q hq).2.1;rw[zcc e1,zcc e2];exact T.ob.at e1 e2 a2
 obtain⟨y0,f0,f1⟩:∃x,b[0]?=some x/\b.toList[0]?=some x:=⟨_,(atB 0 hb).1,(atB 0 hb).2.1⟩
 have start:ML R (a.toList++b.toList) (#[y0]:Array Keyed).toList (a.toList.drop 0++b.toList.drop 1):=by
  have z:ML R (a.toList++b.toList) (#[]:Array Keyed).toList (a.toList.drop 0++b.toList.drop 0):=⟨by simp,List.Pairwise.nil,by simp⟩
  exact z.pushB T f1 fun x hx=>fst y0 f1 x (List.mem_of_mem_drop hx)
 refine xbj (xjm (xhs ⟨rfl,xbj (zmm f0 (zbno (fun c1=>?_) (fun c2=>?_) fun c1 c2=>?_))⟩))
 ·exact xbk (h _ _ (.refl _) (start.done T (.inr (by simpa using c1))))
 ·exact xbk (h _ _ (.refl _) (start.lastA T (by simpa using c2)))
 simp only[xgj] at c1 c2;refine xbj (xhl ?_);refine xbj (xex (xdj (I:=L1 R a b st) (Q:=Dn R a b st) ?_ ?_ (.mk (.refl _) start (by lia) (by lia) (by lia))) ?_)
 ·rintro x c st1 x1 x2 @⟨out,ia,ib,g,st1,sm1,m,ha1,hb1,hx⟩;dsimp only;refine xbj (xex (xdj (I:=fun _=>L2' R a b st (ia+ib)) (Q:=fun c st'=>Dn R a b st c st'\/L2' R a b st (ia+ib) c st') ?_ ?_ (.mk sm1 m ha1 hb1 (xbe _))) ?_)
  ·rintro x' c st2 _ _ @⟨out,ia',ib',ac,bc,st2,sm2,m,ha2,hb2,hp⟩;dsimp only;have ea:=(atA ia' (xeo ha2)).1;have ela:=(atA ia' (xeo ha2)).2.1;have mea:=(atA ia' (xeo ha2)).2.2;have eb:=(atB ib' hb2).1;have elb:=(atB ib' hb2).2.1;have meb:=(atB ib' hb2).2.2;refine w_el eb (w_el ea (zbec O (sm2.kind.trans hk) meb mea (fun cw=>w_el eb ?_) fun cw=>w_el ea ?_))
   ·skip
    have m2:=m.pushB T elb fun z hz=>by
     obtain⟨j,hj,e⟩:=zbl hz;exact xbb (xbr cw) (T.oa.at ela e hj)
    refine w_if (fun c5=>xbk (.inl (.mk sm2 (m2.done T (.inr (eq_of_beq c5)))))) fun c5=>?_
    rw[xgj] at c5;have hb3:ib'+1 < b.size:=xcy hb2 c5;have hp3:ia+ib<=ia'+(ib'+1):=xff hp;exact w_if (fun _=>xbk (.inr (.mk sm2 m2 ha2 hb3 hp3))) fun _=>xbk (.mk sm2 m2 ha2 hb3 hp3)
   ·skip
    have m2:=m.pushA T ela fun z hz=>by
     obtain⟨j,hj,e⟩:=zbl hz;exact xbb cw (T.ob.at elb e hj)
    refine w_if (fun c5=>xbk (.inl (.mk sm2 (m2.lastA T (eq_of_beq c5))))) fun c5=>?_
    rw[xgj] at c5;have ha3:ia'+1+1 < a.size:=xcy ha2 c5;have hp3:ia+ib<=ia'+1+ib':=Nat.succ_add ia' ib' ▸ xff hp
    exact w_if (fun _=>xbk (.inr (.mk sm2 m2 ha3 hb2 hp3))) fun _=>xbk (.mk sm2 m2 ha3 hb2 hp3)
  ·exact fun c st2 k=>.inr k
  ·rintro c st2 (⟨sm2,f⟩ | @⟨out,ia',ib',ac,bc,st2,sm2,m,ha2,hb2,hp⟩)
   ·exact xbk (.mk sm2 f)
   ·dsimp only;refine xbj (xjm (xhs ⟨rfl,?_⟩));refine xbj (xex (xdj (I:=fun x'=>L3 R a b st (ia+ib+x')) (Q:=fun c st'=>Dn R a b st c st'\/L3 R a b st (ia+ib+1) c st') ?_ ?_ (.mk sm2 m ha2 hb2 hp)) ?_)
    ·rintro x' c st3 _ x2' @⟨out,ia',ib',g',ac,bc,st3,sm3,m,ha2,hb2,hp⟩;dsimp only;have eb:=(atB ib' hb2).1;have elb:=(atB ib' hb2).2.1;have meb:=(atB ib' hb2).2.2;generalize g' - 1=g1;generalize g'=y;revert g1;revert y
     refine zbnn ?_;intro gg;refine xbj (zvm fun st4 sg=>?_);have sm4:=sm3.trans sg;refine w_el eb (xbj (zhb O (sm4.kind.trans hk) meb (fun i hi=>⟨_,(atA (ia'+i) (xdr hi)).1,(atA (ia'+i) (xdr hi)).2.2⟩) (xfe (xeo ha2)) (upA ia') fun k1 cut1=>?_));have m5:=(m.galA T elb cut1).1;have u5:=(m.galA T elb cut1).2;have hk1:=cut1.1;dsimp only;refine zbed (fun c6=>?_) (fun c6 c7=>?_) (fun c6 c8=>?_) fun hh=>?_
     ·have z:k1=0:=Nat.le_zero.mp (xcc c6);subst z;simp only[xjw,xid (xhp _ _),xkl]
     ·exact xbk (.inl (.mk sm4 (m5.lastA T (eq_of_beq c7))))
     ·exact xbk (.inl (.mk sm4 (m5.done T (.inl (eq_of_beq c8)))))
     have ha5:ia'+k1+1 < a.size:=by
      by_cases c6:k1 > 0
      ·have:=hh c6;simp at this;lia
      ·lia
     have hp5:ia+ib+x'<=ia'+k1+ib':=xbb hp (Nat.add_le_add_right (xbo _ _) _);clear hh;generalize ia'+k1=ia5 at m5 u5 ha5 hp5 ⊢;generalize out++a.extract ia' ia5=out5 at m5 ⊢;have m6:=m5.pushB T elb u5;have ea:=(atA _ (xeo ha5)).1;have ela:=(atA _ (xeo ha5)).2.1;have mea:=(atA _ (xeo ha5)).2.2;refine w_el eb (w_if (fun c9=>xbk (.inl (.mk sm4 (m6.done T (.inr (eq_of_beq c9)))))) fun c9=>w_el ea ?_);rw[xgj] at c9;refine xbj (zhb O (sm4.kind.trans hk) mea (fun i hi=>⟨_,(atB (ib'+1+i) (xdr hi)).1,(atB (ib'+1+i) (xdr hi)).2.2⟩) (xfe (xcy hb2 c9)) (upB (ib'+1)) fun k2 cut2=>?_);have m7:=(m6.galB T ela cut2).1;have u7:=(m6.galB T ela cut2).2;have hk2:=cut2.1;dsimp only;refine zbnp (fun d6=>?_) (fun d6 d7=>?_) fun hh=>?_
     ·have z2:k2=0:=Nat.le_zero.mp (xcc d6);subst z2;simp only[xjw,xid (xhp _ _),xkl]
     ·exact xbk (.inl (.mk sm4 (m7.done T (.inr (eq_of_beq d7)))))
     have h20:ib'+1+k2≠b.size:=by
      by_cases d6:k2 > 0
      ·have:=hh d6;simp at this;lia
      ·lia
     have m8:=m7.pushA T ela u7;refine w_el ea (w_if (fun d8=>xbk (.inl (.mk sm4 (m8.lastA T (eq_of_beq d8))))) fun d8=>?_);rw[xgj] at d8;have ha9:ia5+1+1 < a.size:=xcy ha5 d8;have hb9:ib'+1+k2 < b.size:=by lia
     have hp9:ia+ib+(x'+1)<=ia5+1+(ib'+1+k2):=by lia
     exact w_if (fun _=>xbk (.inr (.mk sm4 m8 ha9 hb9 (xbb (xcj (xlm 1 x') _) hp9)))) fun _=>xbk (.mk sm4 m8 ha9 hb9 hp9)
    ·rintro c st3 ⟨sm3,m,ha2,hb2,hp⟩;exact .inr (.mk sm3 m ha2 hb2 (by lia))
    ·rintro c st3 (⟨sm3,f⟩ | ⟨sm3,m,ha2,hb2,hp⟩)
     ·exact xbk (.mk sm3 f)
     ·exact xbj (zvm fun st4 sg=>xbk (.mk (sm3.trans sg) m ha2 hb2 (xbg (Nat.succ_lt_succ hx) hp)))
 ·rintro c st1 ⟨sm1,m,ha1,hb1,hx⟩;lia
 ·rintro c st1 ⟨sm1,f⟩;exact xbk (h _ st1 sm1 f)
end
structure MH (R:Keyed->Nat) (all out rest:List Keyed):Prop where
 perm:(rest++out.reverse).Perm all
 ord:Ord R out.reverse
 le:∀x∈rest,∀y∈out,R x<=R y
section
variable {R:Keyed->Nat}
theorem MH.grow {all out rest xs rest':List Keyed}(m:MH R all out rest)(p:rest.Perm (rest'++xs.reverse))(o:Ord R xs.reverse)(h:∀x∈rest',∀y∈xs,R x<=R y):MH R all (out++xs) rest':=by
 refine⟨?_,?_,fun x hx y hy=>?_⟩
 ·rw[List.reverse_append,← xci];exact(xhv _ p.symm).trans m.perm
 ·rw[List.reverse_append];exact xfv.mpr ⟨o,m.ord,fun x hx y hy=>m.le x (p.mem_iff.mpr (xde _ hx)) y (xji.mp hy)⟩
 ·rcases xca.mp hy with hy | hy
  ·exact m.le x (p.mem_iff.mpr (xem _ hx)) y hy
  ·exact h x hx y hy
theorem MH.fin {all out rest rest':List Keyed}(m:MH R all out rest)(p:rest'.Perm rest)(o:Ord R rest'):(rest'++out.reverse).Perm all/\Ord R (rest'++out.reverse) :=
 ⟨(xhv _ p).trans m.perm,xfv.mpr ⟨o,m.ord,fun x hx y hy=>m.le x (p.mem_iff.mp hx) y (xji.mp hy)⟩⟩
theorem zij {l:List Keyed}{i:Nat}{x:Keyed}(h:l[i]?=some x):l.take (i+1)=l.take i++[x]:=by
 obtain⟨h1,rfl⟩:=xbf.mp h;exact xhc h1
structure TwoH (R:Keyed->Nat) (la lb:List Keyed):Prop where
 oa:Ord R la
 ob:Ord R lb
 first:∀y,lb[0]?=some y->∀x∈la,R y<=R x
variable {la lb all:List Keyed}{out:Array Keyed}{na nb:Nat}
theorem MH.pushB (T:TwoH R la lb)(m:MH R all out.toList (la.take na++lb.take (nb+1))){y:Keyed}(hy:lb[nb]?=some y)(h:∀z∈la.take na,R z<=R y):MH R all (out.push y).toList (la.take na++lb.take nb):=by
 rw[xfg];refine m.grow ?_ (by simp) fun z hz w hw=>?_
 ·rw[zij hy];simp
 ·simp at hw;subst hw
  rcases xca.mp hz with hz | hz
  ·exact h z hz
  ·obtain⟨j,hj,e⟩:=zx hz;exact T.ob.at e hy (by lia)
theorem MH.pushA (T:TwoH R la lb)(m:MH R all out.toList (la.take (na+1)++lb.take nb)){x:Keyed}(hx:la[na]?=some x)(h:∀z∈lb.take nb,R z<=R x):MH R all (out.push x).toList (la.take na++lb.take nb):=by
 rw[xfg];refine m.grow ?_ (by simp) fun z hz w hw=>?_
 ·rw[zij hx];simp only[List.reverse_singleton,xci];exact xgr _ xgs
 ·simp at hw;subst hw
  rcases xca.mp hz with hz | hz
  ·obtain⟨j,hj,e⟩:=zx hz;exact T.oa.at e hx (by lia)
  ·exact h z hz
end
section
variable {prog:Program}{w:World}{A:Around}{E:Value->Shared->Prop}{s:Shared}{κ:SortKind}{a₀:Array Keyed}{R:Keyed->Nat}{a b out:Array Keyed}{na nb k:Nat}{y x:Keyed}{all:List Keyed}
theorem zuk (l:List Keyed){k n:Nat}(h:k<=n):l.take n=l.take k++(l.drop k).take (n - k):=by
 conv=>lhs;rw[show n=k+(n - k) by lia,List.take_add]
theorem MH.galA (T:TwoH R a.toList b.toList)(m:MH R all out.toList (a.toList.take na++b.toList.take (nb+1)))(hy:b.toList[nb]?=some y)(hn:na<=a.size)(c:Cut false R y a 0 na k):MH R all (out++(a.extract k na).reverse).toList (a.toList.take k++b.toList.take (nb+1))/\∀z∈a.toList.take k,R z<=R y:=by
 have low:∀z∈a.toList.take k,R z<=R y:=fun z hz=>by
  obtain⟨j,hj,e⟩:=zx hz;have:=c.2.1 j hj;rw[xdw,zcc e] at this;exact this
 have up:∀z∈(a.toList.drop k).take (na - k),R y<=R z:=fun z hz=>by
  obtain⟨j,hj,e⟩:=zx hz;rw[xfp] at e;have:=c.2.2 (k+j) (by lia) (by lia);rw[xdw,zcc e] at this;exact xbr this
 refine⟨?_,low⟩;rw[xdi,xig,zci];refine m.grow ?_ (by rw[xih];exact(T.oa.drop k).take _) fun v hv z hz=>?_
 ·rw[xih,zuk a.toList c.1,xci,xci];exact xgr _ xgs
 ·have hz:=up z (xji.mp hz);rcases xca.mp hv with hv | hv
  ·exact xbb (low v hv) hz
  ·obtain⟨j,hj,e⟩:=zx hv;exact xbb (T.ob.at e hy (by lia)) hz
theorem MH.galB (T:TwoH R a.toList b.toList)(m:MH R all out.toList (a.toList.take (na+1)++b.toList.take nb))(hx:a.toList[na]?=some x)(hn:nb<=b.size)(c:Cut true R x b 0 nb k):MH R all (out++(b.extract k nb).reverse).toList (a.toList.take (na+1)++b.toList.take k)/\∀z∈b.toList.take k,R z<=R x:=by
 have low:∀z∈b.toList.take k,R z<=R x:=fun z hz=>by
  obtain⟨j,hj,e⟩:=zx hz;have:=c.2.1 j hj;rw[xdw,zcc e] at this;exact xbr this
 have up:∀z∈(b.toList.drop k).take (nb - k),R x<=R z:=fun z hz=>by
  obtain⟨j,hj,e⟩:=zx hz;rw[xfp] at e;have:=c.2.2 (k+j) (by lia) (by lia);rw[xdw,zcc e] at this;exact this
 refine⟨?_,low⟩;rw[xdi,xig,zci];refine m.grow ?_ (by rw[xih];exact(T.ob.drop k).take _) fun v hv z hz=>?_
 ·rw[xih,zuk b.toList c.1,xci]
 ·have hz:=up z (xji.mp hz);rcases xca.mp hv with hv | hv
  ·obtain⟨j,hj,e⟩:=zx hv;exact xbb (T.oa.at e hx (by lia)) hz
  ·exact xbb (low v hv) hz
theorem zma (xs:Array Keyed)(n:Nat):(xs.extract 0 n).toList=xs.toList.take n:=by
 rw[zci,List.drop_zero,Nat.sub_zero]
theorem MH.done (T:TwoH R a.toList b.toList)(m:MH R (a.toList++b.toList) out.toList (a.toList.take na++b.toList.take nb))(h:na=0\/nb=0):Fin R a.toList b.toList (a.extract 0 na++b.extract 0 nb++out.reverse):=by
 unfold Fin;rw[xdi,xdi,zma,zma,xig];refine m.fin (.refl _) ?_;rcases h with rfl | rfl
 ·rw[xls,xjv];exact T.ob.take _
 ·rw[xls,xdp];exact T.oa.take _
theorem MH.firstB (T:TwoH R a.toList b.toList)(m:MH R (a.toList++b.toList) out.toList (a.toList.take na++b.toList.take nb))(h:nb=1):Fin R a.toList b.toList (b.extract 0 nb++a.extract 0 na++out.reverse):=by
 unfold Fin;rw[xdi,xdi,zma,zma,xig];refine m.fin xgs (xfv.mpr ⟨T.ob.take _,T.oa.take _,fun v hv z hz=>?_⟩);obtain⟨j,hj,e⟩:=zx hv;have:j=0:=by lia
 subst this;exact T.first v e z (xfb hz)
inductive H1 (R:Keyed->Nat) (a b:Array Keyed) (st:SortSt) (x:Nat):Option (Array Keyed)×Nat×Nat×Array Keyed×Nat->SortSt->Prop where
 | mk {na nb:Nat} {out:Array Keyed} {g:Nat} {st':SortSt} (sm:SmG st st') (m:MH R (a.toList++b.toList) out.toList (a.toList.take na++b.toList.take nb)) (a1:1<=na) (a2:na<=a.size) (b1:2<=nb) (b2:nb<=b.size) (hx:x+na+nb < a.size+b.size):H1 R a b st x (none,na,nb,out,g) st'
inductive H2 (R:Keyed->Nat) (a b:Array Keyed) (st:SortSt) (x:Nat):Option (Array Keyed)×Nat×Nat×Array Keyed×Nat×Nat->SortSt->Prop where
 | mk {na nb:Nat} {out:Array Keyed} {ac bc:Nat} {st':SortSt} (sm:SmG st st') (m:MH R (a.toList++b.toList) out.toList (a.toList.take na++b.toList.take nb)) (a1:1<=na) (a2:na<=a.size) (b1:2<=nb) (b2:nb<=b.size) (hx:na+nb<=x):H2 R a b st x (none,na,nb,out,ac,bc) st'
inductive H3 (R:Keyed->Nat) (a b:Array Keyed) (st:SortSt) (x y:Nat):Option (Array Keyed)×Nat×Nat×Array Keyed×Nat×Nat×Nat->SortSt->Prop where
 | mk {na nb:Nat} {out:Array Keyed} {g ac bc:Nat} {st':SortSt} (sm:SmG st st') (m:MH R (a.toList++b.toList) out.toList (a.toList.take na++b.toList.take nb)) (a1:1<=na) (a2:na<=a.size) (b1:2<=nb) (b2:nb<=b.size) (hx:y+na+nb<=x):H3 R a b st x y (none,na,nb,out,g,ac,bc) st'
theorem zvp {st:SortSt}{Q:Array Keyed->SortSt->Prop}(O:Orc prog w A s κ a₀ R)(hk:kindOf st=κ)(ma:∀x∈a.toList,x∈a₀.toList)(mb:∀x∈b.toList,x∈a₀.toList)(T:TwoH R a.toList b.toList)(ha:1<=a.size)(hb:1<=b.size)
  (lst:∀x,a.toList[a.size - 1]?=some x->∀y∈b.toList,R y<=R x)(h:∀r st',SmG st st'->Fin R a.toList b.toList r->Q r st'):wpS (model prog w) A E s (mergeHi' a b) Q st:=by
 have atA:∀(i:Nat) (hi:i < a.size),a[i]?=some a[i]/\a.toList[i]?=some a[i]/\a[i]∈a₀.toList:=fun i hi=>⟨getElem?_pos a i hi,by rw[xcm];exact getElem?_pos a i hi,ma _ (by simp)⟩
 have atB:∀(i:Nat) (hi:i < b.size),b[i]?=some b[i]/\b.toList[i]?=some b[i]/\b[i]∈a₀.toList:=fun i hi=>⟨getElem?_pos b i hi,by rw[xcm];exact getElem?_pos b i hi,mb _ (by simp)⟩
 have upA:∀n,n<=a.size->UpA R a 0 (0+n):=fun n hn p q a1 a2 a3=>by
  have hq:q < a.size:=xbg a3 (xbb (xdf (xdw n)) hn);have e1:=(atA p (xcx a2 hq)).2.1;have e2:=(atA q hq).2.1;rw[zcc e1,zcc e2];exact T.oa.at e1 e2 a2
 have upB:∀n,n<=b.size->UpA R b 0 (0+n):=fun n hn p q a1 a2 a3=>by
  have hq:q < b.size:=xbg a3 (xbb (xdf (xdw n)) hn);have e1:=(atB p (xcx a2 hq)).2.1;have e2:=(atB q hq).2.1;rw[zcc e1,zcc e2];exact T.ob.at e1 e2 a2
 obtain⟨x0,f0,f1⟩:∃x,a[a.size - 1]?=some x/\a.toList[a.size - 1]?=some x:=⟨_,(atA (a.size - 1) (xho ha Nat.one_pos)).1,(atA (a.size - 1) (xho ha Nat.one_pos)).2.1⟩
 have start:MH R (a.toList++b.toList) (#[x0]:Array Keyed).toList (a.toList.take (a.size - 1)++b.toList.take b.size):=by
  have z:MH R (a.toList++b.toList) (#[]:Array Keyed).toList (a.toList.take (a.size - 1+1)++b.toList.take b.size):=by
   refine⟨?_,List.Pairwise.nil,by simp⟩;rw[xgl ha,xdn (by simp),xdn (by simp)];simp
  exact z.pushA T f1 fun y hy=>lst x0 f1 y (xfb hy)
 refine xbj (xjm (xhs ⟨rfl,xbj (zmm f0 (zbno (fun c1=>?_) (fun c2=>?_) fun c1 c2=>?_))⟩))
 ·exact xbk (h _ _ (.refl _) (start.done T (.inl (by simpa using c1))))
 ·exact xbk (h _ _ (.refl _) (start.firstB T (by simpa using c2)))
 simp only[xgj] at c1 c2;refine xbj (xhl ?_);refine xbj (xex (xdj (I:=H1 R a b st) (Q:=Dn R a b st) ?_ ?_ (.mk (.refl _) start (by lia) (by lia) (by lia) (xbe _) (by lia))) ?_)
 ·rintro x c st1 x1 x2 @⟨na,nb,out,g,st1,sm1,m,a1,a2,b1,b2,hx⟩;dsimp only;refine xbj (xex (xdj (I:=fun _=>H2 R a b st (na+nb)) (Q:=fun c st'=>Dn R a b st c st'\/H2 R a b st (na+nb) c st') ?_ ?_ (.mk sm1 m a1 a2 b1 b2 (xbe _))) ?_)
  ·rintro x' c st2 _ _ @⟨na',nb',out,ac,bc,st2,sm2,m,g1,g2,g3,g4,hp⟩;obtain⟨p,rfl⟩:∃p,na'=p+1:=⟨na' - 1,(xgl g1).symm⟩
   obtain⟨q,rfl⟩:∃q,nb'=q+1:=⟨nb' - 1,(xgl (xdc g3)).symm⟩
   dsimp only;have ea:=(atA p g2).1;have ela:=(atA p g2).2.1;have mea:=(atA p g2).2.2;have eb:=(atB q g4).1;have elb:=(atB q g4).2.1;have meb:=(atB q g4).2.2;refine w_el eb (w_el ea (zbec O (sm2.kind.trans hk) meb mea (fun cw=>w_el ea ?_) fun cw=>w_el eb ?_))
   ·skip
    have m2:=m.pushA T ela fun z hz=>by
     obtain⟨j,hj,e⟩:=zx hz;exact xbb (T.ob.at e elb (xcw hj)) (xbr cw)
    refine w_if (fun c5=>xbk (.inl (.mk sm2 (m2.done T (.inl (eq_of_beq c5)))))) fun c5=>?_
    rw[xgj] at c5;have a3:1<=p:=xkm c5;have a4:p<=a.size:=xdc g2;have a5:p+(q+1)<=na+nb:=xbb (Nat.add_le_add_right (xlp p) _) hp;exact w_if (fun _=>xbk (.inr (.mk sm2 m2 a3 a4 g3 g4 a5))) fun _=>xbk (.mk sm2 m2 a3 a4 g3 g4 a5)
   ·skip
    have m2:=m.pushB T elb fun z hz=>by
     obtain⟨j,hj,e⟩:=zx hz;exact xbb (T.oa.at e ela (xcw hj)) cw
    refine w_if (fun c5=>xbk (.inl (.mk sm2 (m2.firstB T (eq_of_beq c5))))) fun c5=>?_
    rw[xgj] at c5;have a3:2<=q:=xcy (Nat.le_of_succ_le_succ g3) (xcs c5);have a4:q<=b.size:=xdc g4;have a5:p+1+q<=na+nb:=xdc hp;exact w_if (fun _=>xbk (.inr (.mk sm2 m2 g1 g2 a3 a4 a5))) fun _=>xbk (.mk sm2 m2 g1 g2 a3 a4 a5)
  ·exact fun c st2 k=>.inr k
  ·rintro c st2 (⟨sm2,f⟩ | @⟨na',nb',out,ac,bc,st2,sm2,m,g1,g2,g3,g4,hp⟩)
   ·exact xbk (.mk sm2 f)
   ·dsimp only;refine xbj (xjm (xhs ⟨rfl,?_⟩));refine xbj (xex (xdj (I:=H3 R a b st (na+nb)) (Q:=fun c st'=>Dn R a b st c st'\/H3 R a b st (na+nb) 1 c st') ?_ ?_ (.mk sm2 m g1 g2 g3 g4 (by rw[xdw];exact hp))) ?_)
    ·rintro x' c st3 _ x2' @⟨na',nb',out,g',ac,bc,st3,sm3,m,g1,g2,g3,g4,hp⟩;obtain⟨q,rfl⟩:∃q,nb'=q+1:=⟨nb' - 1,(xgl (xdc g3)).symm⟩
     dsimp only;have eb:=(atB q g4).1;have elb:=(atB q g4).2.1;have meb:=(atB q g4).2.2;generalize g' - 1=g1;generalize g'=y;revert g1;revert y
     refine zbnn ?_;intro gg;refine xbj (zvm fun st4 sg=>?_);have sm4:=sm3.trans sg;refine w_el eb (xbj (zhb O (sm4.kind.trans hk) meb (fun i hi=>⟨_,(atA (0+i) (by lia)).1,(atA (0+i) (by lia)).2.2⟩) (by lia) (upA na' g2) fun k1 cut1=>?_));have m5:=(m.galA T elb g2 cut1).1;have u5:=(m.galA T elb g2 cut1).2;have hk1:=cut1.1;dsimp only;refine zbnp (fun c6=>?_) (fun c6 c7=>?_) fun hh=>?_
     ·have z:k1=na':=by lia
      subst z;rw[show out++(a.extract k1 k1).reverse=out by simp[xhp]]
     ·exact xbk (.inl (.mk sm4 (m5.done T (.inl (eq_of_beq c7)))))
     have g5:1<=k1:=by
      by_cases c6:na' - k1 > 0
      ·have:=hh c6;simp at this;lia
      ·lia
     have g6:k1<=a.size:=xbb hk1 g2;have hp5:x'+k1+(q+1)<=na+nb:=by lia
     clear hh hk1 cut1;generalize out++(a.extract k1 na').reverse=out5 at m5 ⊢;obtain⟨p,rfl⟩:∃p,k1=p+1:=⟨k1 - 1,(xgl g5).symm⟩
     simp only[Nat.add_sub_cancel];have m6:=m5.pushB T elb u5;have ea:=(atA p g6).1;have ela:=(atA p g6).2.1;have mea:=(atA p g6).2.2;refine w_el eb (w_if (fun c9=>xbk (.inl (.mk sm4 (m6.firstB T (eq_of_beq c9))))) fun c9=>w_el ea ?_);rw[xgj] at c9;refine xbj (zhb O (sm4.kind.trans hk) mea (fun i hi=>⟨_,(atB (0+i) (by lia)).1,(atB (0+i) (by lia)).2.2⟩) (by lia) (upB q (xdc g4)) fun k2 cut2=>?_);have m7:=(m6.galB T ela (xdc g4) cut2).1;have u7:=(m6.galB T ela (xdc g4) cut2).2;have hk2:=cut2.1;dsimp only;refine zbed (fun d6=>?_) (fun d6 d7=>?_) (fun d6 d9=>?_) fun hh=>?_
     ·have z2:k2=q:=by lia
      subst z2;simp only[xid (xbb (xhp _ _) (xbe _)),Array.reverse_empty,xkl]
     ·exact xbk (.inl (.mk sm4 (m7.firstB T (eq_of_beq d7))))
     ·exact xbk (.inl (.mk sm4 (m7.done T (.inr (eq_of_beq d9)))))
     have h20:2<=k2:=by
      by_cases d6:q - k2 > 0
      ·have:=hh d6;simp at this;lia
      ·lia
     have m8:=m7.pushA T ela u7;refine w_el ea (w_if (fun d8=>xbk (.inl (.mk sm4 (m8.done T (.inl (eq_of_beq d8)))))) fun d8=>?_);rw[xgj] at d8;have a3:1<=p:=xkm d8;have a4:p<=a.size:=xdc g6;have a5:k2<=b.size:=xbb hk2 (xdc g4);have a6:x'+1+p+k2<=na+nb:=by lia
     exact w_if (fun _=>xbk (.inr (.mk sm4 m8 a3 a4 h20 a5 (by lia)))) fun _=>xbk (.mk sm4 m8 a3 a4 h20 a5 a6)
    ·rintro c st3 ⟨sm3,m,g1,g2,g3,g4,hp⟩;exact .inr (.mk sm3 m g1 g2 g3 g4 (by lia))
    ·rintro c st3 (⟨sm3,f⟩ | @⟨na',nb',out,g',ac,bc,st3,sm3,m,g1,g2,g3,g4,hp⟩)
     ·exact xbk (.mk sm3 f)
     ·have h9:x+1+na'+nb' < a.size+b.size:=by lia
      exact xbj (zvm fun st4 sg=>xbk (.mk (sm3.trans sg) m g1 g2 g3 g4 h9))
 ·rintro c st1 ⟨sm1,m,a1,a2,b1,b2,hx⟩;lia
 ·rintro c st1 ⟨sm1,f⟩;exact xbk (h _ st1 sm1 f)
end
theorem zsx:∀(l:List Keyed) (n off:Nat) (xs:Array Keyed),off+n+l.length<=xs.size->∀i,((l.zipIdx n).foldl (fun a p=>a.setIfInBounds (off+p.2) p.1) xs)[i]?=if off+n<=i/\i < off+n+l.length then l[i - (off+n)]? else xs[i]?
 | [],n,off,xs,h,i=>by
  rw[if_neg (by simp)]
  rfl
 | x::l,n,off,xs,h,i=>by
  rw[List.zipIdx_cons,xhq];rw[xcb] at h;have e1:off+(n+1)+l.length=off+n+(l.length+1):=Nat.succ_add_eq_add_succ (off+n) l.length;rw[zsx l (n+1) off _ (by rw[Array.size_setIfInBounds];exact xbb (xdf e1) h) i];rw[xcb];by_cases c:off+(n+1)<=i/\i < off+(n+1)+l.length
  ·rw[if_pos c,if_pos ⟨xdc c.1,xfq c.2 e1⟩,show i - (off+n)=i - (off+(n+1))+1 from(xgl (xfe c.1)).symm,xhj]
  ·rw[if_neg c];by_cases c2:i=off+n
   ·rw[if_pos ⟨xdf c2.symm,xcx (xdf c2) (xhh (Nat.succ_pos _))⟩,c2,xju,List.getElem?_cons_zero];exact Array.getElem?_setIfInBounds_self_of_lt (xbg (xhh (Nat.succ_pos l.length)) h)
   ·rw[if_neg fun z=>c ⟨xcy z.1 (xcs c2),xfq z.2 e1.symm⟩];exact Array.getElem?_setIfInBounds_ne (fun z=>c2 z.symm)
theorem zbao {m xs:Array Keyed}{off:Nat}(h:off+m.size<=xs.size):(m.toList.zipIdx.foldl (fun a p=>a.setIfInBounds (off+p.2) p.1) xs).toList=xs.toList.take off++m.toList++xs.toList.drop (off+m.size):=by
 apply xkz;intro i;rw[xcm,zsx m.toList 0 off xs (by simpa using h) i];simp only[xjw,xcf];have l1:(xs.toList.take off).length=off:=by rw[xcq,xcf];exact xek (xbb (xbo _ _) h)
 by_cases c:off<=i/\i < off+m.size
 ·rw[if_pos c,xci,xco (xbb (xdf l1) c.1),l1,xbz (by rw[xcf];exact xdl c.1 c.2)]
 ·rw[if_neg c];by_cases c2:i < off
  ·rw[xci,xbz (xfq c2 l1.symm),List.getElem?_take,if_pos c2,xcm]
  ·have h3:off+m.size<=i:=xcc fun z=>c ⟨xcc c2,z⟩
   rw[xco (by rw[xbl,l1,xcf];exact h3),xfp];simp only[xbl,l1,xcf];rw[xcg h3,xcm]
section
variable {prog:Program}{w:World}{A:Around}{E:Value->Shared->Prop}{s:Shared}{κ:SortKind}{a₀:Array Keyed}{R:Keyed->Nat}
theorem zyu {xs:Array Keyed}{i j:Nat}(up:UpA R xs i j)(hj:j<=xs.size):Ord R (xs.extract i j).toList:=by
 rw[zci];refine xil.mpr fun p q hp hq hpq=>?_
 simp only[xcq,xhb,xcf] at hp hq;simp only[List.getElem_take,List.getElem_drop,Array.getElem_toList];have:=up (i+p) (i+q) (xbo _ _) (xcj (xbr hpq) i) (xdr (xbg hq (xhp _ _)));rw[zem (getElem?_pos xs (i+p) (xdr (xbg hp (xfn _ _)))),zem (getElem?_pos xs (i+q) (xdr (xbg hq (xfn _ _))))] at this;exact this
theorem zku {xs:Array Keyed}{i j:Nat}{x:Keyed}(h:x∈(xs.extract i j).toList):∃q,i<=q/\q < j/\xs[q]?=some x:=by
 rw[zci] at h;obtain⟨q,hq,e⟩:=zx h;rw[xfp,xcm] at e;exact⟨i+q,xbo _ _,xdr hq,e⟩
theorem zbgx {xs:Array Keyed}{i j q:Nat}(h:q < j - i):(xs.extract i j).toList[q]?=xs[i+q]?:=by
 rw[zci,List.getElem?_take,if_pos h,xfp,xcm]
structure Mg (R:Keyed->Nat) (xs ys:Array Keyed) (lo hi:Nat):Prop where
 perm:ys.Perm xs
 out:Out ys xs lo hi
 up:UpA R ys lo hi
theorem zwy {xs m:Array Keyed}{sa sb ea k nb':Nat}{y0 xl:Keyed}(hsb:sb<=ea)(hea:ea<=xs.size)(hk:sa+k < sb)(hnb:sb+nb'<=ea)(hnb1:1<=nb')(upA:UpA R xs sa sb)(upB:UpA R xs sb ea)
  (e0:xs[sb]?=some y0)(el:xs[sb - 1]?=some xl)(c1:Cut false R y0 xs sa (sb - sa) k)(c2:Cut true R xl xs sb (ea - sb) nb')
  (f:Fin R (xs.extract (sa+k) sb).toList (xs.extract sb (sb+nb')).toList m):Mg R xs (m.toList.zipIdx.foldl (fun a p=>a.setIfInBounds (sa+k+p.2) p.1) xs) sa ea:=by
 have lx:(xs.extract (sa+k) sb).toList.length=sb - (sa+k):=by rw[zci,xcq,xhb,xcf];exact xek (xfa (xbb hsb hea) _)
 have ly:(xs.extract sb (sb+nb')).toList.length=nb':=by rw[zci,xcq,xhb,xcf,xct];exact xek (xeh (xbb hnb hea))
 have lm:m.size=sb+nb' - (sa+k):=by
  have:=f.1.length_eq;rw[xbl,lx,ly,xcf] at this;exact this.trans (Nat.sub_add_comm (xbr hk)).symm
 have he:sa+k+m.size=sb+nb':=by rw[lm];exact xcg (xbb (xbr hk) (xbo _ _))
 have hsz:sa+k+m.size<=xs.size:=by rw[he];exact xbb hnb hea
 have hs1:=xdb hk;have s1:sb - 1 < sb:=xho (xjc hk) Nat.one_pos;have g:∀i,(m.toList.zipIdx.foldl (fun a p=>a.setIfInBounds (sa+k+p.2) p.1) xs)[i]?=if sa+k<=i/\i < sb+nb' then m.toList[i - (sa+k)]? else xs[i]?:=fun i=>by
  have:=zsx m.toList 0 (sa+k) xs (by simpa using hsz) i;simp only[xjw,xcf] at this;rw[he] at this;exact this
 have mid:∀v∈m.toList,R y0<=R v/\R v<=R xl:=fun v hv=>by
  rcases xca.mp (f.1.mem_iff.mp hv) with hv | hv
  ·obtain⟨q,q1,q2,e⟩:=zku hv;have q0:=xbb (xbo _ _) q1;have h1:=c1.2.2 (q - sa) (xeh q1) (xeb q0 q2);rw[xcg q0,zem e] at h1;have h2:=upA q (sb - 1) q0 (xdb q2) s1;rw[zem e,zem el] at h2;have h1':R y0 < R v:=h1;exact⟨xbr h1',h2⟩
  ·obtain⟨q,q1,q2,e⟩:=zku hv;have h1:=upB sb q (xbe _) q1 (xbg q2 hnb);rw[zem e,zem e0] at h1;have h2:=c2.2.1 (q - sb) (xdl q1 q2);rw[xcg q1,zem e] at h2;have h2':R v < R xl:=h2;exact⟨h1,xbr h2'⟩
 have low:∀i,sa<=i->i < sa+k->kA R xs i<=R y0:=fun i a1 a2=>by
  have:=c1.2.1 (i - sa) (xdl a1 a2);rw[xcg a1] at this;exact this
 have hig:∀i,sb+nb'<=i->i < ea->R xl<=kA R xs i:=fun i a1 a2=>by
  have i0:=xbb (xbo _ _) a1;have:=c2.2.2 (i - sb) (xeh a1) (xeb i0 a2);rw[xcg i0] at this;exact this
 have kk:∀i,kA R (m.toList.zipIdx.foldl (fun a p=>a.setIfInBounds (sa+k+p.2) p.1) xs) i=if sa+k<=i/\i < sb+nb' then kA R m (i - (sa+k)) else kA R xs i:=fun i=>by
  have:=g i;split
  ·rename_i c;rw[if_pos c,xcm] at this;exact zeb this
  ·rename_i c;rw[if_neg c] at this;exact zeb this
 have mm:∀i,i < m.size->∃v,m.toList[i]?=some v/\v∈m.toList:=fun i hi=>⟨m.toList[i]'(by simpa using hi),xbi _,xds _⟩
 refine⟨?_,fun i hi=>?_,fun i j a1 a2 a3=>?_⟩
 ·refine xfl.mpr ?_;rw[zbao hsz,he];have split:xs.toList=xs.toList.take (sa+k)++((xs.extract (sa+k) sb).toList++(xs.extract sb (sb+nb')).toList)++xs.toList.drop (sb+nb'):=by
   rw[zci,zci];rw[xct]
   conv=>lhs;rw[← xei (sa+k) xs.toList,← xei (sb - (sa+k)) (xs.toList.drop (sa+k)),xlr,xcg (xbr hk),← xei nb' (xs.toList.drop sb),xlr]
   simp only[xci]
  conv=>rhs;rw[split]
  exact xhv _ (xgr _ f.1)
 ·rw[g i,if_neg fun z=>hi.elim (fun h=>xed (xbb (xbo sa k) z.1) h) fun h=>xed h (xbg z.2 hnb)]
 ·rw[kk,kk];by_cases ci:sa+k<=i/\i < sb+nb'
  ·rw[if_pos ci];obtain⟨v,ev,mv⟩:=mm (i - (sa+k)) (by rw[lm];exact xeb ci.1 ci.2);rw[zcc ev];by_cases cj:sa+k<=j/\j < sb+nb'
   ·rw[if_pos cj];obtain⟨u,eu,mu⟩:=mm (j - (sa+k)) (by rw[lm];exact xeb cj.1 cj.2);rw[zcc eu];exact f.2.at ev eu (xfa a2 _)
   ·rw[if_neg cj];exact xbb (mid v mv).2 (hig j (xcc fun z=>cj ⟨xbb ci.1 a2,z⟩) a3)
  ·rw[if_neg ci];by_cases ci2:i < sa+k
   ·have h1:=low i a1 ci2;by_cases cj:sa+k<=j/\j < sb+nb'
    ·rw[if_pos cj];obtain⟨u,eu,mu⟩:=mm (j - (sa+k)) (by rw[lm];exact xeb cj.1 cj.2);rw[zcc eu];exact xbb h1 (mid u mu).1
    ·rw[if_neg cj];by_cases cj2:j < sa+k
     ·exact upA i j a1 a2 (xic cj2 hk)
     ·have h2:=hig j (xcc fun z=>cj ⟨xcc cj2,z⟩) a3;have h3:R y0<=R xl:=by
       have s0:=xbb (xbo _ _) hs1;have h4:=c1.2.2 (sb - 1 - sa) (xeh hs1) (xeb s0 s1);rw[xcg s0,zem el] at h4;exact xbr h4
      exact xbb h1 (xbb h3 h2)
   ·have hi2:sb+nb'<=i:=xcc fun z=>ci ⟨xcc ci2,z⟩
    rw[if_neg fun z=>xed (xbb hi2 a2) z.2];exact upB i j (xbb (xbo _ _) hi2) a2 a3
end
section
variable {prog:Program}{w:World}{A:Around}{E:Value->Shared->Prop}{s:Shared}{κ:SortKind}{a₀:Array Keyed}{R:Keyed->Nat}
theorem zbom {x st:SortSt}{Q:Unit->SortSt->Prop}(h:Q () x):wpS (model prog w) A E s (set x:StateT SortSt Sem PUnit) Q st:=by
 unfold wpS;rw[StateT.run_set];exact xbh ⟨rfl,h⟩
theorem zvq {i sa na pw sb nb pw':Nat}{st:SortSt}{Q:Bool->SortSt->Prop}(O:Orc prog w A s κ a₀ R)(b:B κ a₀ st)(p1:(pendingOf st)[i]?=some (sa,na,pw))(p2:(pendingOf st)[i+1]?=some (sb,nb,pw'))(hsb:sb=sa+na)(hna:1<=na)(hnb:1<=nb)(hz:sb+nb<=a₀.size)
  (upA:UpA R (arrOf st) sa sb)(upB:UpA R (arrOf st) sb (sb+nb))
  (h:∀st',B κ a₀ st'->pendingOf st'=((pendingOf st).setIfInBounds i (sa,na+nb,pw)).eraseIdxIfInBounds (i+1)->Out (arrOf st') (arrOf st) sa (sb+nb)->UpA R (arrOf st') sa (sb+nb)->Q true st'):wpS (model prog w) A E s (mergeAt' i) Q st:=by
 have hsz:=b.size;have bs:sb < a₀.size:=xbg (xhh hnb) hz;refine xbj (xhl ?_);dsimp only;have q1:(sortPriv% PySem.Builtin.SortState.pending) st=pendingOf st:=rfl;rw[q1,p1,p2];dsimp only;refine xbj (zbom ?_);obtain⟨y0,e0,my0⟩:=b.mem (i:=sb) bs;have inA:∀q,q < a₀.size->∃x,(arrOf st)[q]?=some x/\x∈a₀.toList:=fun q hq=>b.mem hq
 refine xbj (zmm e0 ?_);refine xbj (zhb O b.kind my0 (fun q hq=>inA (sa+q) (xic (xfq (xdy hq sa) hsb.symm) bs)) hna (by rw[← hsb];exact upA) fun k c1=>?_);dsimp only;have hk:=c1.1;have c1':Cut false R y0 (arrOf st) sa (sb - sa) k:=by rw[show sb - sa=na from by rw[hsb,xct]];exact c1
 by_cases d1:na - k=0
 ·rw[if_pos (by simpa using d1)];refine xbk (h _ ⟨b.perm,b.kind,b.failed⟩ rfl (Out.refl _ _ _) fun p q a1 a2 a3=>?_);by_cases z1:q < sb
  ·exact upA p q a1 a2 z1
  ·by_cases z2:p < sb
   ·have h1:=c1.2.1 (p - sa) (xbg (xdl a1 (xfq z2 hsb)) (Nat.le_of_sub_eq_zero d1));rw[xcg a1] at h1;have h2:=upB sb q (xbe _) (xcc z1) a3;rw[zem e0] at h2;exact xbb h1 h2
   ·exact upB p q (xcc z2) a2 a3
 ·rw[if_neg (by simpa using d1)];have hk2:sa+k < sb:=xfq (xdy (xfo fun z=>d1 (Nat.sub_eq_zero_of_le z)) sa) hsb.symm;have s1:sb - 1 < sb:=xho (xjc hk2) Nat.one_pos;obtain⟨xl,el,mxl⟩:=inA (sb - 1) (xic s1 bs);have el':(arrOf st)[sa+k+(na - k) - 1]?=some xl:=by rw[Nat.add_assoc,xcg hk,← hsb];exact el
  refine xbj (zmm el' ?_);refine xbj (zhb O b.kind mxl (fun q hq=>inA (sb+q) (xbg (xdy hq sb) hz)) (xho hnb Nat.one_pos) upB fun nb' c2=>?_);dsimp only;have hn2:=c2.1;have c2':Cut true R xl (arrOf st) sb (sb+nb - sb) nb':=by rw[xct];exact c2
  by_cases d2:nb'=0
  ·rw[if_pos (by simpa using d2)];refine xbk (h _ ⟨b.perm,b.kind,b.failed⟩ rfl (Out.refl _ _ _) fun p q a1 a2 a3=>?_);subst d2;by_cases z1:q < sb
   ·exact upA p q a1 a2 z1
   ·by_cases z2:p < sb
    ·have h1:=upA p (sb - 1) a1 (xdb z2) s1;rw[zem el] at h1;have h2:=c2.2.2 (q - sb) (xdv _) (xdl (xcc z1) a3);rw[xcg (xcc z1)] at h2;exact xbb h1 h2
    ·exact upB p q (xcc z2) a2 a3
  ·rw[if_neg (by simpa using d2)];have hn1:1<=nb':=xkm d2;have hez:sb<=(arrOf st).size:=by rw[hsz];exact xbr bs
   have hbz:sb+nb<=(arrOf st).size:=by rw[hsz];exact hz
   have hb2:sb+nb'<=sb+nb:=xcj hn2 sb;have oa:Ord R ((arrOf st).extract (sa+k) sb).toList:=zyu (fun p q a1 a2 a3=>upA p q (xbb (xbo _ _) a1) a2 a3) hez;have ob:Ord R ((arrOf st).extract sb (sb+nb')).toList:=zyu (fun p q a1 a2 a3=>upB p q a1 a2 (xbg a3 hb2)) (xbb hb2 hbz);have ma:∀x∈((arrOf st).extract (sa+k) sb).toList,x∈a₀.toList:=fun x hx=>by
    obtain⟨q,q1,q2,e⟩:=zku hx;obtain⟨x',e',m'⟩:=inA q (xic q2 bs);rw[e] at e';cases e';exact m'
   have mb:∀x∈((arrOf st).extract sb (sb+nb')).toList,x∈a₀.toList:=fun x hx=>by
    obtain⟨q,q1,q2,e⟩:=zku hx;obtain⟨x',e',m'⟩:=inA q (xbg q2 (xbb hb2 hz));rw[e] at e';cases e';exact m'
   have sx:((arrOf st).extract (sa+k) sb).size=sb - (sa+k):=by rw[Array.size_extract,xek hez]
   have sy:((arrOf st).extract sb (sb+nb')).size=nb':=by rw[Array.size_extract,xek (xbb hb2 hbz),xct]
   have fst:∀y,((arrOf st).extract sb (sb+nb')).toList[0]?=some y->∀x∈((arrOf st).extract (sa+k) sb).toList,R y<=R x:=fun y hy x hx=>by
    rw[zbgx (by rw[xct];exact hn1),xjw,e0] at hy;cases hy;obtain⟨q,q1,q2,e⟩:=zku hx;have q0:=xbb (xbo _ _) q1;have:=c1.2.2 (q - sa) (xeh q1) (xdl q0 (xfq q2 hsb));rw[xcg q0,zem e] at this;exact xbr this
   have lst:∀x,((arrOf st).extract (sa+k) sb).toList[sb - (sa+k) - 1]?=some x->∀y∈((arrOf st).extract sb (sb+nb')).toList,R y<=R x:=fun x hx y hy=>by
    rw[zbgx (xho (xfe hk2) Nat.one_pos),show sa+k+(sb - (sa+k) - 1)=sb - 1 from by rw[← Nat.add_sub_assoc (xfe hk2),xcg (xbr hk2)],el] at hx;cases hx;obtain⟨q,q1,q2,e⟩:=zku hy;have:=c2.2.1 (q - sb) (xdl q1 q2);rw[xcg q1,zem e] at this;exact xbr this
   have post:∀m st2,SmG st st2\/True->Fin R ((arrOf st).extract (sa+k) sb).toList ((arrOf st).extract sb (sb+nb')).toList m->Mg R (arrOf st) (m.toList.zipIdx.foldl (fun a p=>a.setIfInBounds (sa+k+p.2) p.1) (arrOf st)) sa (sb+nb):=fun m _ _ f =>
    zwy (xbo _ _) hbz hk2 hb2 hn1 upA upB e0 el c1' c2' f
   by_cases d3:na - k<=nb'
   ·rw[if_pos d3];refine xbj (zvo O b.kind ma mb ⟨oa,ob,fun x hx=>lst x (by rw[xcf,sx] at hx;exact hx)⟩ (by show 1<=((arrOf st).extract (sa+k) sb).size;rw[sx];exact xfe hk2) (by show 1<=((arrOf st).extract sb (sb+nb')).size;rw[sy];exact hn1) fst fun m st2 sg f=>?_);have mg:=post m st2 (.inr trivial) f;refine xbj (xgk (xbj (xhl ?_)));have a2:arrOf st2=arrOf st:=sg.arr;have f2:failedOf st2=none:=sg.failed.trans b.failed;refine xbk (?_:Q ((failedOf st2).isNone) (setArr st2 (m.toList.zipIdx.foldl (fun a p=>a.setIfInBounds (sa+k+p.2) p.1) (arrOf st2))));rw[f2,a2];exact h _ ⟨mg.perm.trans b.perm,sg.kind.trans b.kind,f2⟩ sg.pend mg.out mg.up
   ·rw[if_neg d3];refine xbj (zvp O b.kind ma mb ⟨oa,ob,fst⟩ (by show 1<=((arrOf st).extract (sa+k) sb).size;rw[sx];exact xfe hk2) (by show 1<=((arrOf st).extract sb (sb+nb')).size;rw[sy];exact hn1) (fun x hx=>lst x (by rw[sx] at hx;exact hx)) fun m st2 sg f=>?_);have mg:=post m st2 (.inr trivial) f;refine xbj (xgk (xbj (xhl ?_)));have a2:arrOf st2=arrOf st:=sg.arr;have f2:failedOf st2=none:=sg.failed.trans b.failed;refine xbk (?_:Q ((failedOf st2).isNone) (setArr st2 (m.toList.zipIdx.foldl (fun a p=>a.setIfInBounds (sa+k+p.2) p.1) (arrOf st2))));rw[f2,a2];exact h _ ⟨mg.perm.trans b.perm,sg.kind.trans b.kind,f2⟩ sg.pend mg.out mg.up
end
noncomputable def Segs (R:Keyed->Nat) (xs:Array Keyed):Nat->List (Nat×Nat×Nat)->Nat->Prop
 | s,[],e=>s=e
 | s,p::r,e=>p.1=s/\1<=p.2.1/\UpA R xs s (s+p.2.1)/\Segs R xs (s+p.2.1) r e
section
variable {R:Keyed->Nat}{xs ys:Array Keyed}
theorem Segs.le:∀{l:List (Nat×Nat×Nat)} {s e:Nat},Segs R xs s l e->s+l.length<=e
 | [],s,e,h=>by cases h;simp
 | p::r,s,e,h=>by
  have:=Segs.le h.2.2.2;have:=h.2.1;simp;lia
theorem Segs.append:∀{l m:List (Nat×Nat×Nat)} {s e:Nat},Segs R xs s (l++m) e↔∃k,Segs R xs s l k/\Segs R xs k m e
 | [],m,s,e=>⟨fun h=>⟨s,rfl,h⟩,fun⟨k,h1,h2⟩=>by cases h1;exact h2⟩
 | p::r,m,s,e=>by
  constructor
  ·rintro⟨h1,h2,h3,h4⟩;obtain⟨k,g1,g2⟩:=Segs.append.mp h4;exact⟨k,⟨h1,h2,h3,g1⟩,g2⟩
  ·rintro⟨k,⟨h1,h2,h3,h4⟩,g2⟩;exact⟨h1,h2,h3,Segs.append.mpr ⟨k,h4,g2⟩⟩
theorem UpA.same {a b:Nat}(h:UpA R xs a b)(e:∀i,a<=i->i < b->ys[i]?=xs[i]?):UpA R ys a b:=fun i j a1 a2 a3=>by
 rw[zeb (e i a1 (xcx a2 a3)),zeb (e j (xbb a1 a2) a3)];exact h i j a1 a2 a3
theorem Segs.same:∀{l:List (Nat×Nat×Nat)} {s e:Nat},Segs R xs s l e->(∀i,s<=i->i < e->ys[i]?=xs[i]?)->Segs R ys s l e
 | [],s,e,h,_=>h
 | p::r,s,e,h,k=>by
  have:=Segs.le h.2.2.2;exact⟨h.1,h.2.1,h.2.2.1.same fun i a1 a2=>k i a1 (xbg a2 (xbb (xbo _ _) this)),Segs.same h.2.2.2 fun i a1 a2=>k i (xbb (xbo _ _) a1) a2⟩
theorem Segs.power {s e:Nat}:∀{l m:List (Nat×Nat×Nat)},l.map (fun p=>(p.1,p.2.1))=m.map (fun p=>(p.1,p.2.1))->Segs R xs s l e->Segs R xs s m e:=by
 intro l
 induction l generalizing s with
 | nil=>intro m h k;cases m with
  | nil=>exact k
  | cons=>cases h
 | cons p r ih=>intro m h k;cases m with
  | nil=>cases h
  | cons q t =>
   rw[xbt,xbt] at h;obtain⟨h1,h2⟩:=List.cons.inj h;obtain⟨g1,g2⟩:=Prod.mk.inj h1;obtain⟨k1,k2,k3,k4⟩:=k;rw[g2] at k2 k3 k4;exact⟨g1.symm.trans k1,k2,k3,ih h2 k4⟩
end
section
variable {prog:Program}{w:World}{A:Around}{E:Value->Shared->Prop}{s:Shared}{κ:SortKind}{a₀:Array Keyed}{R:Keyed->Nat}
theorem zbbr {l:List (Nat×Nat×Nat)}{i:Nat}(h:i+1 < l.length):∃pre p q post,l=pre++p::q::post/\pre.length=i:=by
 refine⟨l.take i,l[i],l[i+1],l.drop (i+2),?_,by rw[xcq];exact xek (xbr (xeo h))⟩
 conv=>lhs;rw[← xei i l,xgz (xeo h),xgz h]
theorem w_at {i e:Nat}{st:SortSt}{Q:Bool->SortSt->Prop}(O:Orc prog w A s κ a₀ R)(b:B κ a₀ st)(sg:Segs R (arrOf st) 0 (pendingOf st).toList e)(he:e<=a₀.size)(hi:i+1 < (pendingOf st).size)
  (h:∀st',B κ a₀ st'->Segs R (arrOf st') 0 (pendingOf st').toList e->(pendingOf st').size+1=(pendingOf st).size->(∀k,e<=k->(arrOf st')[k]?=(arrOf st)[k]?)->Q true st'):wpS (model prog w) A E s (mergeAt' i) Q st:=by
 obtain⟨pre,p,q,post,el,hl⟩:=zbbr (l:=(pendingOf st).toList) (i:=i) (by simpa using hi);obtain⟨sa,na,pw⟩:=p;obtain⟨sb,nb,pw'⟩:=q;rw[el] at sg;obtain⟨k,g1,g2⟩:=Segs.append.mp sg;obtain⟨h1,h2,h3,h4,h5,h6,h7⟩:=g2;dsimp only at h1 h2 h3 h4 h5 h6 h7;subst h1;have l7:=Segs.le h7;have l1:=Segs.le g1;have p1:(pendingOf st)[i]?=some (sa,na,pw):=by rw[← xcm,el,xco (xdf hl),hl,xju];rfl
 have p2:(pendingOf st)[i+1]?=some (sb,nb,pw'):=by rw[← xcm,el,xco (xbb (xdf hl) (xbo i 1)),hl,xct];rfl
 refine zvq O b p1 p2 h4 h2 h5 (by lia) (by rw[h4];exact h3) (by rw[h4];exact h6) fun st' b' pe ou up=>?_
 have pl:(pendingOf st').toList=pre++(sa,na+nb,pw)::post:=by
  rw[pe];rw[Array.toList_eraseIdxIfInBounds,Array.toList_setIfInBounds,el];rw[List.set_append_right _ _ (xdf hl),hl,xju,List.set_cons_zero,List.eraseIdx_append_of_length_le (xbb (xdf hl) (xbo i 1)),hl,xct]
  rfl
 have keep:∀j,j < sa\/sb+nb<=j->(arrOf st')[j]?=(arrOf st)[j]?:=ou
 refine h st' b' ?_ ?_ fun j hj=>keep j (.inr (by lia))
 ·rw[pl];refine Segs.append.mpr ⟨sa,g1.same fun j a1 a2=>keep j (.inl a2),rfl,by show 1<=na+nb;lia,?_,?_⟩
  ·show UpA R (arrOf st') sa (sa+(na+nb));rw[show sa+(na+nb)=sb+nb by lia];exact up
  ·show Segs R (arrOf st') (sa+(na+nb)) post e;rw[show sa+(na+nb)=sa+na+nb by lia];exact h7.same fun j a1 a2=>keep j (.inr (by lia))
 ·have e1:(pendingOf st').size=(pendingOf st').toList.length:=by simp
  have e2:(pendingOf st).size=(pendingOf st).toList.length:=by simp
  rw[e1,e2,pl,el];simp only[xbl,xcb];lia
theorem zbkz {c:Prop}[Decidable c]{a b n:Nat}(h1:a+1 < n)(h2:b+1 < n):(if c then a else b)+1 < n:=by split<;>assumption
theorem zyy {g:Nat×Nat×Nat->Nat×Nat}{f:Nat×Nat×Nat->Nat×Nat×Nat}(h:∀x,g (f x)=g x):∀(l:List (Nat×Nat×Nat)) (i:Nat),(l.modify i f).map g=l.map g
 | [],i=>by simp
 | x::l,0=>by simp[h]
 | x::l,i+1=>by simp[zyy h l i]
theorem Segs.mod {xs:Array Keyed}{s e:Nat}{l:List (Nat×Nat×Nat)}(h:Segs R xs s l e)(i c:Nat):Segs R xs s (l.modify i fun x=>(x.1,x.2.1,c)) e :=
 h.power (zyy (g:=fun p=>(p.1,p.2.1)) (f:=fun x=>(x.1,x.2.1,c)) (fun _=>rfl) l i).symm
theorem zbjh {st:SortSt}{Q:Unit->SortSt->Prop}(O:Orc prog w A s κ a₀ R)(b:B κ a₀ st)(pe:pendingOf st=#[])(h2:2<=a₀.size)
  (h:∀st',B κ a₀ st'->UpA R (arrOf st') 0 a₀.size->Q () st'):wpS (model prog w) A E s sortRuns' Q st:=by
 have hz:=b.size;rw[sortRuns'_eq];refine xbj (xhl ?_);dsimp only;rw[hz]
 refine xbj (xex (xdj (I:=fun x c st'=>∃lo,c=(none,lo)/\B κ a₀ st'/\Segs R (arrOf st') 0 (pendingOf st').toList lo/\lo<=a₀.size/\x<=lo)
  (Q:=fun c st'=>c=(none,a₀.size)/\B κ a₀ st'/\Segs R (arrOf st') 0 (pendingOf st').toList a₀.size) ?_ ?_ ⟨0,rfl,b,by rw[pe];rfl,by lia,by lia⟩) ?_)
 ·rintro x c st1 x1 x2 ⟨lo,rfl,b1,sg1,hlo,hx⟩;dsimp only;by_cases c1:lo ≥ a₀.size
  ·rw[if_pos c1];have:lo=a₀.size:=by lia
   subst this;exact xbk ⟨rfl,b1,sg1⟩
  rw[if_neg c1];refine xbj (zbee O b1 (by lia) (by lia) fun m st2 m1 m2 b2 sm2 up2=>?_);dsimp only;have sg2:Segs R (arrOf st2) 0 (pendingOf st2).toList lo:=by
   rw[sm2.pend];exact sg1.same fun i a1 a2=>sm2.out i (.inl a2)
  by_cases c2:m < minRun' a₀.size a₀.size 0
  ·rw[if_pos c2];refine xbj (xjm (xhs ⟨rfl,?_⟩));refine xbj (zbon O b2 (by lia) m1 (by lia) up2 fun st3 b3 sm3 up3=>?_);have sg3:Segs R (arrOf st3) 0 (pendingOf st3).toList lo:=by
    rw[sm3.pend];exact sg2.same fun i a1 a2=>sm3.out i (.inl a2)
   have hn1:1<=min (a₀.size - lo) (minRun' a₀.size a₀.size 0):=by lia
   have hn2:lo+min (a₀.size - lo) (minRun' a₀.size a₀.size 0)<=a₀.size:=by lia
   simp only[xii,xch,xdo];generalize min (a₀.size - lo) (minRun' a₀.size a₀.size 0)=n at up3 hn1 hn2 sm3 ⊢;refine xbj (xhl ?_);cases hb:(pendingOf st3).back? with
   | none =>
    dsimp only;refine xbj (xgk (xbk ⟨lo+n,rfl,⟨b3.perm,b3.kind,b3.failed⟩,?_,hn2,by lia⟩));show Segs R (arrOf st3) 0 ((pendingOf st3).push (lo,n,0)).toList (lo+n);rw[xfg];exact Segs.append.mpr ⟨lo,sg3,rfl,hn1,up3,rfl⟩
   | some p =>
    obtain⟨s1,n1,p1⟩:=p;dsimp only;refine xbj (xex (xdj (I:=fun _ c st'=>c=(none,())/\B κ a₀ st'/\Segs R (arrOf st') 0 (pendingOf st').toList lo/\UpA R (arrOf st') lo (lo+n)) (Q:=fun c st'=>c=(none,())/\B κ a₀ st'/\Segs R (arrOf st') 0 (pendingOf st').toList lo/\UpA R (arrOf st') lo (lo+n)) ?_ (fun _ _ hh=>hh) ⟨rfl,b3,sg3,up3⟩) ?_)
    ·rintro x' c st4 _ _ ⟨rfl,b4,sg4,up4⟩;refine xbj (xhl ?_);by_cases hs:(pendingOf st4).size > 1
     ·rw[if_pos hs,getElem?_pos (pendingOf st4) ((pendingOf st4).size - 2) (by lia)];obtain⟨s2,n2,p2⟩:=(pendingOf st4)[(pendingOf st4).size - 2]'(by lia);dsimp only;split
      ·exact xbk ⟨rfl,b4,sg4,up4⟩
      ·refine xbj (w_at O b4 sg4 hlo (by lia) fun st5 b5 sg5 _ k5=>?_);exact xbk ⟨rfl,b5,sg5,up4.same fun i a1 a2=>k5 i a1⟩
     ·rw[if_neg hs];exact xbk ⟨rfl,b4,sg4,up4⟩
    ·rintro c st4 ⟨rfl,b4,sg4,up4⟩;dsimp only;refine xbj (xgk (xbj (xgk (xbk ⟨lo+n,rfl,⟨b4.perm,b4.kind,b4.failed⟩,?_,hn2,by lia⟩))));refine(?_:Segs R (arrOf st4) 0 (((pendingOf st4).modify ((pendingOf st4).size - 1) fun x=>(x.1,x.2.1,_)).push (lo,n,0)).toList (lo+n));rw[xfg,Array.toList_modify];exact Segs.append.mpr ⟨lo,sg4.mod _ _,rfl,hn1,up4,rfl⟩
  ·rw[if_neg c2];have b3:=b2;have sg3:=sg2;have up3:=up2;have hn1:=m1;have hn2:lo+m<=a₀.size:=by lia
   generalize st2=st3 at b3 sg3 up3 ⊢;generalize m=n at up3 hn1 hn2 ⊢;refine xbj (xhl ?_);cases hb:(pendingOf st3).back? with
   | none =>
    dsimp only;refine xbj (xgk (xbk ⟨lo+n,rfl,⟨b3.perm,b3.kind,b3.failed⟩,?_,hn2,by lia⟩));show Segs R (arrOf st3) 0 ((pendingOf st3).push (lo,n,0)).toList (lo+n);rw[xfg];exact Segs.append.mpr ⟨lo,sg3,rfl,hn1,up3,rfl⟩
   | some p =>
    obtain⟨s1,n1,p1⟩:=p;dsimp only;refine xbj (xex (xdj (I:=fun _ c st'=>c=(none,())/\B κ a₀ st'/\Segs R (arrOf st') 0 (pendingOf st').toList lo/\UpA R (arrOf st') lo (lo+n)) (Q:=fun c st'=>c=(none,())/\B κ a₀ st'/\Segs R (arrOf st') 0 (pendingOf st').toList lo/\UpA R (arrOf st') lo (lo+n)) ?_ (fun _ _ hh=>hh) ⟨rfl,b3,sg3,up3⟩) ?_)
    ·rintro x' c st4 _ _ ⟨rfl,b4,sg4,up4⟩;refine xbj (xhl ?_);by_cases hs:(pendingOf st4).size > 1
     ·rw[if_pos hs,getElem?_pos (pendingOf st4) ((pendingOf st4).size - 2) (by lia)];obtain⟨s2,n2,p2⟩:=(pendingOf st4)[(pendingOf st4).size - 2]'(by lia);dsimp only;split
      ·exact xbk ⟨rfl,b4,sg4,up4⟩
      ·refine xbj (w_at O b4 sg4 hlo (by lia) fun st5 b5 sg5 _ k5=>?_);exact xbk ⟨rfl,b5,sg5,up4.same fun i a1 a2=>k5 i a1⟩
     ·rw[if_neg hs];exact xbk ⟨rfl,b4,sg4,up4⟩
    ·rintro c st4 ⟨rfl,b4,sg4,up4⟩;dsimp only;refine xbj (xgk (xbj (xgk (xbk ⟨lo+n,rfl,⟨b4.perm,b4.kind,b4.failed⟩,?_,hn2,by lia⟩))));refine(?_:Segs R (arrOf st4) 0 (((pendingOf st4).modify ((pendingOf st4).size - 1) fun x=>(x.1,x.2.1,_)).push (lo,n,0)).toList (lo+n));rw[xfg,Array.toList_modify];exact Segs.append.mpr ⟨lo,sg4.mod _ _,rfl,hn1,up4,rfl⟩
 ·rintro c st1 ⟨lo,rfl,b1,sg1,hlo,hx⟩;have:lo=a₀.size:=by lia
  subst this;exact⟨rfl,b1,sg1⟩
 ·rintro c st1 ⟨rfl,b1,sg1⟩;dsimp only
  refine xbj (xex (xdj (I:=fun x c st'=>c=(none,())/\B κ a₀ st'/\Segs R (arrOf st') 0 (pendingOf st').toList a₀.size/\(pendingOf st').size+x<=a₀.size)
   (Q:=fun c st'=>c=(none,())/\B κ a₀ st'/\Segs R (arrOf st') 0 (pendingOf st').toList a₀.size/\(pendingOf st').size<=1) ?_ ?_ ⟨rfl,b1,sg1,by have:=sg1.le;simp at this;lia⟩) ?_)
  ·rintro x c st2 x1 x2 ⟨rfl,b2,sg2,hp⟩;refine xbj (xhl ?_);by_cases c1:(pendingOf st2).size<=1
   ·rw[if_pos c1];exact xbk ⟨rfl,b2,sg2,c1⟩
   rw[if_neg c1];refine xbj (w_at O b2 sg2 (xbe _) ?_ fun st3 b3 sg3 p3 _=>xbk ⟨rfl,b3,sg3,by lia⟩);exact zbkz (by lia) (by lia)
  ·rintro c st2 ⟨rfl,b2,sg2,hp⟩;exact⟨rfl,b2,sg2,by lia⟩
  ·rintro c st2 ⟨rfl,b2,sg2,hp⟩;refine xbk (h st2 b2 ?_);cases hl:(pendingOf st2).toList with
   | nil=>rw[hl] at sg2;have:0=a₀.size:=sg2;lia
   | cons p r =>
    have:r=[]:=by
     have e2:(pendingOf st2).size=(pendingOf st2).toList.length:=by simp
     rw[e2,hl,xcb] at hp;exact List.length_eq_zero_iff.mp (by lia)
    subst this;rw[hl] at sg2;obtain⟨_,_,g3,g4⟩:=sg2;have g4':0+p.2.1=a₀.size:=g4;rw[g4'] at g3;exact g3
end
end TS
namespace Srt
open PySem PySem.W PyProof.Rows
theorem zrc {α β:Type}(f:α->β):∀{l m':List β},l.Perm m'->∀m:List α,m'=m.map f->∃p:List α,p.Perm m/\l=p.map f:=by
 intro l m' h
 induction h with
 | nil=>exact fun m e=>⟨[],by rw[List.map_eq_nil_iff.mp e.symm],rfl⟩
 | cons x _ ih =>
  intro m e;cases m with
  | nil=>cases e
  | cons y m =>
   rw[xbt] at e;injection e with e1 e2
   obtain⟨p,p1,p2⟩:=ih m e2;exact⟨y::p,p1.cons y,by rw[xbt,← p2,e1]⟩
 | swap x y l =>
  intro m e
  match m,e with
  | a::b::m,e =>
   rw[xbt,xbt] at e;injection e with e1 e2
   injection e2 with e2 e3
   exact⟨b::a::m,.swap _ _ _,by rw[xbt,xbt,e1,e2,e3]⟩
 | trans _ _ ih1 ih2 =>
  intro m e;obtain⟨p,p1,p2⟩:=ih2 m e;obtain⟨q,q1,q2⟩:=ih1 p p2;exact⟨q,q1.trans p1,q2⟩
noncomputable def Coh (r:Nat->Nat) (xs:List Value):Prop:=∀i j,i < xs.length->j < xs.length->xs.getD i Value.none=xs.getD j Value.none->r i=r j
open Classical in
noncomputable def rankV (r:Nat->Nat) (xs:List Value) (x:Keyed):Nat:=if h:∃i,i < xs.length/\xs.getD i Value.none=x.1 then r h.choose else 0
theorem zog {r:Nat->Nat}{xs:List Value}(coh:Coh r xs){x:Keyed}{i:Nat}(hi:i < xs.length)(e:xs.getD i Value.none=x.1):rankV r xs x=r i:=by
 have h:∃i,i < xs.length/\xs.getD i Value.none=x.1:=⟨i,hi,e⟩
 unfold rankV;rw[dif_pos h];exact coh _ _ h.choose_spec.1 hi (h.choose_spec.2.trans e.symm)
theorem zrz (xs:List Value):(xs.toArray.zip xs.toArray).toList=(List.range xs.length).map fun i=>((xs.getD i Value.none,xs.getD i Value.none):Keyed):=by
 rw[Array.toList_zip];apply List.ext_getElem
 ·simp
 ·intro i h1 h2;have h3:i < xs.length:=by simpa using h2
  simp[xda,h3]
section
variable {P:Program}{w:World}{B:Around}{E:Value->Shared->Prop}{st:Shared}
theorem zbbq {r:Nat->Nat}{xs:List Value}{κ:SortKind}{sg:Shared}(h2:2<=xs.length)(coh:Coh r xs)
  (cmp:∀i j C,i < xs.length->j < xs.length->C (lt r i j) sg->kas_ask P w B κ xs i j C sg) :
  wpAny (model P w) B ((sortRuns').run (SortSt.mk' κ (xs.toArray.zip xs.toArray) #[] 7 none)) (fun y z=>∃p:Array Nat,(p.Perm (List.toArray (List.range xs.length))/\Up r p xs.length)/\(arrOf y.2).map (·.2)=outOf xs p/\failedOf y.2=none/\z=sg) E sg:=by
 have sz:(xs.toArray.zip xs.toArray).size=xs.length:=by simp
 have O:TS.Orc P w B sg κ (xs.toArray.zip xs.toArray) (rankV r xs):=fun x hx y hy C hC=>by
  rw[zrz] at hx hy;obtain⟨i,hi,rfl⟩:=xce.mp hx;obtain⟨j,hj,rfl⟩:=xce.mp hy;rw[xcp] at hi hj;rw[zog coh hi rfl,zog coh hj rfl] at hC;exact cmp i j C hi hj hC
 have run:=TS.zbjh (E:=E) (Q:=fun _ y=>∃p:Array Nat,(p.Perm (List.toArray (List.range xs.length))/\Up r p xs.length)/\(arrOf y).map (·.2)=outOf xs p/\failedOf y=none) O (st:=SortSt.mk' κ (xs.toArray.zip xs.toArray) #[] 7 none) ⟨.refl _,rfl,rfl⟩ rfl (by rw[sz];exact h2) fun y b up=>by
  obtain⟨l,l1,l2⟩:=zrc (fun i=>((xs.getD i Value.none,xs.getD i Value.none):Keyed)) (xfl.mp b.perm) _ (zrz xs);have ll:l.length=xs.length:=by rw[l1.length_eq,xfy]
  have mem:∀k,(hk:k < l.length)->l[k] < xs.length:=fun k hk=>xcp.mp (l1.mem_iff.mp (xds hk))
  have key:∀k,k < xs.length->TS.kA (rankV r xs) (arrOf y) k=At r l.toArray k:=fun k hk=>by
   have hk':k < l.length:=by lia
   have e:(arrOf y)[k]?=some (xs.getD l[k] Value.none,xs.getD l[k] Value.none):=by
    rw[← xcm,l2,xcv,xbi hk']
    rfl
   rw[TS.zem e,zog coh (mem k hk') rfl];unfold At;simp[hk']
  refine⟨l.toArray,⟨?_,fun i j hij hj=>?_⟩,?_,b.failed⟩
  ·exact xfl.mpr (by simpa using l1)
  ·rw[← key i (by lia),← key j hj];exact up i j (xdv _) hij (by rw[sz];exact hj)
  ·unfold outOf;apply Array.toList_inj.mp;rw[Array.toList_map,l2,xcr]
   rfl
 exact xef run (fun y z hz=>by
  obtain⟨rfl,p,a,b,c⟩:=hz
  exact⟨p,a,b,c,rfl⟩) fun _ _ x=>x
theorem zmq (r:Nat->Nat){d:Addr}{xs:List Value}{k:Nat}{W:Fin->Shared->Prop}(e0:st.heap.get? d=some (seqObj "list" xs.toArray k))(few:xs.length<=sizeLine)(coh:Coh r xs)
  (ask:2<=xs.length->Answers P w B r xs {st with heap:=midHeap st.heap d xs})
  (fin:∀p:Array Nat,p.Perm (List.toArray (List.range xs.length))->Up r p xs.length->W (.done (.ret .none)) {st with heap:=sortedHeap st.heap d xs (outOf xs p)}) :
  wpAny (model P w) B (Builtin.«list.sort» ⟨[.ref d],[]⟩) W E st:=by
 obtain⟨c, ec⟩:∃ c,(st.heap.update d (Obj.mapSeq fun _=>(#[]:Array Value))).get? d=some (seqObj "list" #[] c):=⟨_, get?_update_seq e0 fun _=>#[]⟩
 have em:(midHeap st.heap d xs).get? d=some (seqObj "list" #[] c):=xbd _ (xbd _ ec)
 have szs:xs.toArray.size=xs.length:=xbs;rw[list_sort_plain];refine xba (listItems_at e0 rfl (xba (listUpdate_at e0 rfl (xba (seqEpoch_at ec rfl (xba (wpAny_newTuple (xba (wpAny_newList (xfm ?_) (xdv _))) (few))))) (by rw[szs];exact few) (xdv _))));show wpAny (model P w) B _ W E {st with heap:=midHeap st.heap d xs};dsimp only;by_cases two:xs.toArray.size < 2
 ·rw[if_pos two,if_pos two];rw[szs] at two;have eo:((arrOf (SortSt.mk' general' (xs.toArray.zip xs.toArray) #[] 7 none)).map (·.2))=outOf xs (List.toArray (List.range xs.length)):=zvz two
  refine xba (xbh (by
   rw[StateT.run_pure];refine xba (xbh (xba (seqEpoch_at em rfl (xba (listUpdate_at em rfl ?_ (xdv _) ?_)))))
   ·rw[if_neg (by simp)];refine xbh ?_;rw[eo];exact fin _ (.refl _) fun i j hij hj=>xdf (congrArg (At r _) (by lia))
   ·rw[eo];refine xff (xbb (xdf ?_) (few));unfold outOf
    simp))
 ·rw[if_neg two,if_neg two];rw[szs] at two;obtain⟨κ,kd,cmp⟩:=ask (by lia);refine xba (xef (kd (fun κ' z=>κ'=κ/\z={st with heap:=midHeap st.heap d xs}) ⟨rfl,rfl⟩) (fun κ' z hz=>?_) fun _ _ x=>x.elim);obtain⟨rfl,rfl⟩:=hz;have run:=zbbq (E:=E) (r:=r) (xs:=xs) (κ:=κ') (sg:={st with heap:=midHeap st.heap d xs}) (by lia) coh cmp;refine xba (xef run (fun yy z hz=>?_) fun _ _ x=>x);obtain⟨⟨⟩,y⟩:=yy;obtain⟨p,hp,ho,hf,rfl⟩:=hz;dsimp only at ho hf ⊢;refine xba (seqEpoch_at em rfl (xba (listUpdate_at em rfl ?_ (xdv _) ?_)))
  ·rw[hf,if_neg (by simp),ho];exact xbh (fin p hp.1 hp.2)
  ·rw[ho];refine xff (xbb (xdf ?_) (few));unfold outOf;rw[xbs,xbc,xcf,hp.1.size_eq];simp
theorem znx (r:Nat->Nat){d:Addr}{xs:List Value}{W:Value->Shared->Prop}(isl:st.heap.IsList d xs.toArray)(few:xs.length<=sizeLine)(coh:Coh r xs)
  (ask:2<=xs.length->∀g:Heap,(∀b ob,st.heap.get? b=some ob->g.get? b=some ob)->Answers P w B.in1.in1 r xs {st with heap:=g})
  (fin:∀p:Array Nat,p.Perm (List.toArray (List.range xs.length))->Up r p xs.length->W (.ref (st.heap.objs.size+1)) {st with heap:=sortedAll st.heap xs (outOf xs p)}) :
  wpAny (model P w) B (call (.builtin "sorted") [.ref d]) W E st:=by
 let g0:Heap:=(st.heap.push (seqObj "list" #[] 0)).update st.heap.objs.size (Obj.mapSeq (·++xs.toArray))
 have sz:g0.objs.size=st.heap.objs.size+1:=(Heap.size_update ..).trans (size_push' _ _);have new:(g0.push (seqObj "list" xs.toArray 0)).get? (st.heap.objs.size + 1)=some (seqObj "list" xs.toArray 0):=by
  have z:=xbw g0 (o:=seqObj "list" xs.toArray 0) rfl
  rw[sz] at z;exact z
 have old:∀ b ob, st.heap.get? b=some ob->(g0.push (seqObj "list" xs.toArray 0)).get? b=some ob:=fun b ob e=>by
  have lt:=xbm e;exact xbd _ ((Heap.get?_update_ne _ _ _ _ (xcl lt)).trans (xbd _ e))
 have ar:argsOk "sorted" ⟨[.ref d],[]⟩:=args_sorted1 _
 refine Calls.call_function_entry kind_sorted plain_sorted entry_sorted ar ?_;unfold Builtin.«sorted»;refine xba (m:=checkCount "sorted" 1 1 _) (xbh (xba (collect_list isl (xba (wpAny_newList ?_ (few))) (few))))
 show wpAny _ _ _ _ _ { st with heap:=g0.push (seqObj "list" xs.toArray 0) }
 have esz:(Value.ref g0.objs.size)=Value.ref (st.heap.objs.size+1):=by rw[sz]
 rw[show((st.heap.push (seqObj "list" #[] 0)).update st.heap.objs.size (Obj.mapSeq (·++xs.toArray))).objs.size=st.heap.objs.size + 1 from sz]
 refine xba (xfm (xew slot_list_sort ⟨_, new, rfl⟩ entry_list_sort (zmq r (st:={ st with heap:=g0.push (seqObj "list" xs.toArray 0) }) new few coh (fun two=>?_) fun p p1 p2=>⟨_, rfl, xbh ⟨_, rfl, fin p p1 p2⟩⟩) (args_list_sort _)))
 exact ask two _ fun b ob e=>zkt (xcl (xla (xbm e))) (old b ob e)
theorem zqy {T:String}{a d:Addr}{n:Nat}{It:Nat->Value->Prop}{OK:Heap->Prop}(S:KdlSrc P w T a d n It OK)(hh:B.handled=none)(ok:OK st.heap)(few:n<=sizeLine){W:Value->Shared->Prop}
  (ask:∀xs:List Value,xs.length=n->(∀(j:Nat) (v:Value),xs[j]?=some v->It j v)->∃r:Nat->Nat,Coh r xs/\(2<=n->∀(g:Heap) (tk:Nat),(∀b ob,st.heap.get? b=some ob->g.get? b=some ob)->Answers P w B.in1.in1 r xs {st with heap:=g,toks:=tk}) /\
   ∀(p:Array Nat) (q:Addr) (g:Heap) (tk c:Nat), p.Perm (List.toArray (List.range xs.length))->Up r p xs.length->(∀ b ob, st.heap.get? b=some ob->g.get? b=some ob)->(∀ b ob, st.heap.get? b=some ob->b≠q)->g.get? q=some (seqObj "list" (outOf xs p) c)->W (.ref q) { st with heap:=g, toks:=tk }) :
  wpAny (model P w) B (call (.builtin "sorted") [.ref a]) W E st:=by
 have ar:argsOk "sorted" ⟨[.ref a],[]⟩:=args_sorted1 _
 refine Calls.call_function_entry kind_sorted plain_sorted entry_sorted ar ?_;unfold Builtin.«sorted»;refine xba (m:=checkCount "sorted" 1 1 _) (xbh (xba (kdu_collect (A:=B.in1) S hh ok (few) fun g tk acc keep items=>?_)))
 have len:acc.toList.length=n:=by rw[xcf];exact items.1
 obtain⟨r,coh,an,fin⟩:=ask acc.toList len (fun j v e=>items.2 j v (by rw[← xcm];exact e));refine xba (wpAny_newList ?_ (by rw[len];exact few));have new:(g.push (seqObj "list" acc.toList.toArray 0)).get? g.objs.size=some (seqObj "list" acc.toList.toArray 0):=xbw g rfl
 have old:∀ b ob, st.heap.get? b=some ob->(g.push (seqObj "list" acc.toList.toArray 0)).get? b=some ob:=fun b ob e=>xbd _ (keep b ob e)
 have lt:∀b ob,st.heap.get? b=some ob->b≠g.objs.size:=fun b ob e=>xcl (xbm (keep b ob e))
 show wpAny _ _ _ _ _ { st with heap:=g.push (seqObj "list" acc.toList.toArray 0), toks:=tk }
 refine xba (xfm (xew slot_list_sort ⟨_, new, rfl⟩ entry_list_sort (zmq r (st:={ st with heap:=g.push (seqObj "list" acc.toList.toArray 0), toks:=tk }) new (by rw[len]; exact few) coh (fun two=>?_) fun p p1 p2=>⟨_, rfl, xbh ⟨_, rfl, ?_⟩⟩) (args_list_sort _)))
 ·exact an (by lia) _ tk fun b ob e=>zkt (lt b ob e) (old b ob e)
 ·obtain⟨c,ec⟩:=sortedHeap_at (n:=0) (vs:=acc.toList) (out:=outOf acc.toList p) new;refine fin p g.objs.size _ tk c p1 p2 (fun b ob e=>?_) ?_ ec
  ·rw[sortedHeap_old (lt b ob e) (xbm (old b ob e))];exact old b ob e
  ·exact lt
end
end Srt
namespace L2
open PySem PySem.Spec PyProof.Rows PySem.W
theorem small10000 {n:Nat}(h:n<=1000000):n<=sizeLine:=xbb h (by rw[xjg];lia)
theorem zkw:∀{us:List Value} {a b:List Int},IntsAre us a->IntsAre us b->a=b
 | _,_,_,.nil,.nil=>rfl
 | _,_,_,.cons x t r,.cons _ _ r'=>by rw[zkw r r']
theorem zuo {g:Heap}{ps:List (Addr×List Int)}(tup:TupsG g ps):Srt.Coh (Srt.rank (ps.map (·.2))) (ps.map fun p=>Value.ref p.1):=fun i j hi hj e=>by
 rw[xbc] at hi hj;have ei:ps[i]?=some ps[i]:=xbi hi;have ej:ps[j]?=some ps[j]:=xbi hj;rw[zo (fun p:Addr×List Int=>Value.ref p.1) _ ei,zo (fun p:Addr×List Int=>Value.ref p.1) _ ej] at e;injection e with e
 obtain⟨us,o,n,a1,a2,a3,a4⟩:=tup _ (xds hi);obtain⟨us2,o2,n2,b1,b2,b3,b4⟩:=tup _ (xds hj);rw[e,b2] at a2;injection a2 with a2
 subst a2;rw[b4] at a4;injection a4 with a4 _
 have a5:us2=us:=by simpa using a4
 subst a5;have d:=zkw a1 b1;unfold Srt.rank;rw[zo (fun p:Addr×List Int=>p.2) _ ei,zo (fun p:Addr×List Int=>p.2) _ ej,d]
noncomputable def rSortedAL (K:Fg):List V->Hp->VK->Prop:=fun xs H Q=>∃(l:Addr) (ps:List (Addr×List Int)),xs=[.ref l]/\SqL K H l (ps.map fun p=>V.ref p.1)/\ps.length<=1000000/\TupsAt K H ps /\
 ∀(q:Addr) (qs:List (Addr×List Int)),H q=none->qs.Perm ps->(qs.map (·.2)).Pairwise (fun a b=>HT.lexLt b a=false)->Q (.ref q) (upd H q (.lst (qs.map fun p=>V.ref p.1)))
noncomputable def rSortedDAL:List V->Hp->VK->Prop:=fun xs H Q=>∃(a:Addr) (kvs:List (List Key×V)) (ks:List (List Int)),xs=[.ref a]/\Rd H a (.dT kvs)/\kvs.map (·.1)=ks.map (fun ns=>ns.map Sum.inl)/\ks.length<=1000000 /\
 ∀(q:Addr) (qs:List (Addr×List Int)),H q=none->(qs.map (·.2)).Perm ks->(qs.map (·.2)).Pairwise (fun x y=>HT.lexLt y x=false)->(∀p∈qs,H p.1=some (.tup (p.2.map V.int)))->Q (.ref q) (upd H q (.lst (qs.map fun p=>V.ref p.1)))
section
variable {X:Cx}
theorem znn (hu:X.A.units + 64 < cLine):CallR X (.builtin "sorted") (rSortedAL X.K):=by
 intro aU s σ H xs us Q I r h;obtain⟨l,ps,rfl,hl,h64,ht,q⟩:=h;obtain⟨u,rfl,ru⟩:=vals1 r;cases ru;obtain⟨its,rv,pl,hz⟩:=I.list hl;have eits:its=ps.map fun p=>Value.ref p.1:=by
  have e:(ps.map fun p=>V.ref p.1)=(ps.map (·.1)).map V.ref:=by rw[xcr];rfl
  rw[e] at rv;rw[zpj rv,xcr]
  rfl
 subst eits;have tup:∀g:Heap,(∀b o,s.heap.get? b=some o->g.get? b=some o)->TupsG g ps:=fun g keep p hp=>by
  obtain⟨us,rv',⟨o,b2,b3,n,b4⟩,_⟩:=I.tuple (ht p hp);exact⟨us,o,n,zgl rv',keep _ _ b2,b3,b4⟩
 refine Srt.znx (Srt.rank (ps.map (·.2))) pl.isList (by rw[xbc];exact small10000 h64) (zuo (tup s.heap fun _ _ z=>z)) (fun h2 g keep=>zzx (by show X.A.units+1+1 < cLine;lia) (by rw[xbc] at h2;exact h2) (tup g keep)) (fun p p1 p2=>?_);rw[xbc] at p1 p2;obtain⟨qs,q1,q2,q3⟩:=zta p1 p2;obtain⟨e,he⟩:=sortedAll_at s.heap (ps.map fun p=>Value.ref p.1) (Srt.outOf (ps.map fun p=>Value.ref p.1) p);rw[q3] at he ⊢;refine⟨.ref (s.heap.objs.size+1),_,I.laid (a:=s.heap.objs.size+1) (o:=.lst (qs.map fun p=>V.ref p.1)) (t':=s.toks) (fun _ _ z=>sortedAll_old z) (xlp _) ⟨?_,_,e,zif qs,he⟩,rfl,q _ _ (I.hok.fresh (xlp _)) q1 q2⟩;rw[xbc,q1.length_eq];exact small10000 (by lia)
theorem zmg (hc:X.calm=true)(hu:X.A.units + 64 < cLine):CallR X (.builtin "sorted") rSortedDAL:=by
 intro aU s σ H xs us Q I r h;obtain⟨a,kvs,ks,rfl,hd,ek,few,q⟩:=h;obtain⟨u,rfl,ru⟩:=vals1 r;cases ru;obtain⟨z,ns,ys,rel,ob,es,ep,e1,e2,e3,e4,e5⟩:=(show ObjOk X.prog X.w H s.heap a (.dT kvs) from hd.ok I.hok)
 obtain⟨ps,a1,a2,a3⟩:=znl (P:=X.prog) (w:=X.w) rel ek;have hpl:ps.length=ks.length:=by rw[← a1,xbc]
 have hes:es.toList.map (·.key)=ps.map fun p=>Value.ref p.1:=by rw[e4,xcr];exact a3
 have hsz:es.size=ps.length:=by
  have:=congrArg List.length hes;rw[xbc,xbc,xcf] at this;exact this
 have tup:∀g:Heap,(∀b o,s.heap.get? b=some o->g.get? b=some o)->TupsG g ps:=fun g keep p hp=>by
  obtain⟨us,rv,⟨o,b2,b3,n,b4⟩,_⟩:=I.tuple (SqT.of (a2 p hp));exact⟨us,o,n,zgl rv,keep _ _ b2,b3,b4⟩
 refine Srt.zqy (Dct.zber ns es ep) (I.ok.hd hc) ⟨ob,e1,e2,e3⟩ (small10000 (by lia)) fun vs hl hv=>?_
 have evs:vs=ps.map fun p=>Value.ref p.1:=by
  rw[← hes];apply xkz;intro i;by_cases hi:i < es.size
  ·have h1:vs[i]?=some vs[i]:=xbi (by lia);obtain⟨en,h2,h3⟩:=hv i _ h1;rw[h1,h3,xcv,xcm,h2]
   rfl
  ·rw[xjp (by lia),xjp (by rw[xbc,xcf];lia)]
 subst evs;refine⟨Srt.rank (ps.map (·.2)),zuo (tup s.heap fun _ _ z=>z),fun h2 g tk keep=>zzx (by show X.A.units+1+1 < cLine;lia) (by lia) (tup g keep),fun p t g tk c p1 p2 keep ne eg=>?_⟩;rw[xbc] at p1 p2;obtain⟨qs,q1,q2,q3⟩:=zta p1 p2;rw[q3] at eg;refine⟨.ref t,_,I.laidN (o:=.lst (qs.map fun p=>V.ref p.1)) keep ne ⟨?_,_,c,zif qs,eg⟩,rfl,q t qs (I.away ne) ((q1.map _).trans (by rw[a1])) q2 fun p hp=>a2 p (q1.mem_iff.mp hp)⟩;rw[xbc,q1.length_eq];exact small10000 (by lia)
end
end L2
namespace L2
open PySem PySem.Spec PyProof.Rows
theorem zjk {κ β:Type}[DecidableEq κ]{k:κ}:∀{xs:List (κ×β)} {j:Nat} {p:β},(xs.map (·.1)).Nodup->xs[j]?=some (k,p)->xs.eraseIdx j=xs.filter fun x=>decide (x.1≠k)
 | [],_,_,_,e=>by simp at e
 | x::r,0,p,nd,e=>by
  simp at e;subst e;rw[xbt,xhn] at nd;rw[List.eraseIdx_cons_zero,xdd (by simp)]
  symm
  rw[List.filter_eq_self];intro y hy;refine xbu fun z=>nd.1 ?_
  rw[← z];exact xce.mpr ⟨y,hy,rfl⟩
 | x::r,j+1,p,nd,e=>by
  rw[xbt,xhn] at nd;have e':r[j]?=some (k,p):=by simpa using e
  have hx:x.1≠k:=fun z=>nd.1 (by rw[z];exact xce.mpr ⟨_,xbq e',rfl⟩)
  rw[xiz,xcu (by simpa using hx),zjk nd.2 e']
theorem zqf {α β:Type}(f:α->β):∀(l:List α) (j:Nat),(l.map f).eraseIdx j=(l.eraseIdx j).map f
 | [],_=>rfl
 | _::_,0=>rfl
 | x::l,j+1=>by rw[xbt,xiz,xiz,xbt,zqf f l j]
section
variable {prog:Program}{w:World}{κ:Type}[DecidableEq κ]{knd:HeapKind prog w κ}{A:Around}{E:Value->Shared->Prop}{s:Shared}{d a:Addr}{k:κ}{xs:List (κ×Addr×Value)}{p:Addr×Value}
theorem zvu {W:Option DictEntry->Shared->Prop}(hu:knd.room A)(hkey:knd.is s.heap k a)(hm:s.heap.DictOfH knd d xs)(hp:atKey xs k=some p)(hsz:xs.length<=sizeLine)
  (fin:∀e h',e.val=p.2->h'.DictOfH knd d (xs.filter fun x=>decide (x.1≠k))->Heap.SameBut d s.heap h'->W (some e) {s with heap:=h',toks:=s.toks+knd.draws k}) :
  wpAny (model prog w) A (Builtin.Dict.takeOut d (.ref a)) W E s:=by
 obtain⟨o,es,ep,ho,hc,hd,he,his,hn⟩:=hm;unfold Builtin.Dict.takeOut;refine xfm ?_;refine xba (knd.pyHash hu hkey ?_);refine xba (wpAny_dictFind_heap (s:={s with toks:=s.toks+knd.draws k}) hu hkey ho hd he his hn (fun z=>?_) fun j q hj=>?_)
 ·rw[atKey_none_of_get z] at hp;cases hp
 ·have hq:q=p:=by
   have z:=atKey_of_get hn hj;rw[hp] at z;exact(xcn z).symm
  subst hq;refine xba (xhz (s:={s with toks:=s.toks+knd.draws k}) ho hd ?_);rw[entry_at he j,hj];have big:es.size<=sizeLine:=by have:=size_of_entries he;lia
  refine xba (wpAny_updateDictKeys (hz:=big) (s:={s with toks:=s.toks+knd.draws k}) ho hd (xbh (fin _ _ rfl ⟨_,_,ep+1,xib _ ho (Obj.isFreed_of_dict (Obj.data_mapDictKeys hd _)),hc.mapDictKeys _,Obj.data_mapDictKeys hd _,?_,fun x hx=>?_,?_⟩ (xhe ..))))
  ·rw[← zjk hn hj];obtain⟨l⟩:=es;have he':l=xs.map (entryOfKey knd):=he;subst he';simp[zqf]
  ·exact knd.keeps (his x (xgo.mp hx).1) ho hd (xhe ..)
  ·exact List.Sublist.nodup (List.Sublist.map (fun x:κ×Addr×Value=>x.1) List.filter_sublist) hn
theorem zbav {W:Value->Shared->Prop}(hu:knd.room A.in1)(hkey:knd.is s.heap k a)(hm:s.heap.DictOfH knd d xs)(hp:atKey xs k=some p)(hsz:xs.length<=sizeLine)
  (fin:∀h',h'.DictOfH knd d (xs.filter fun x=>decide (x.1≠k))->Heap.SameBut d s.heap h'->W p.2 {s with heap:=h',toks:=s.toks+knd.draws k}) :
  wpAny (model prog w) A (call (.builtin "dict.pop") [.ref d, .ref a]) W E s:=by
 have M:MeetsIn prog w (Builtin.«dict.pop» ⟨[.ref d,.ref a],[]⟩) (fun B R g=>B=A/\g=s/\∀h',h'.DictOfH knd d (xs.filter fun x=>decide (x.1≠k))->Heap.SameBut d s.heap h'->R (.ok (.ret p.2)) {s with heap:=h',toks:=s.toks+knd.draws k}) :=
  .of_wp fun B R g hq0=>by
   obtain⟨hB,hg,q⟩:=hq0;subst hB hg;unfold Builtin.«dict.pop» Builtin.Dict.keyAndDefault;refine xba (xba (wpAny_notOrdered_dict hm.typeIs (xbh ?_)));obtain⟨o,es,ep,ho,hc,hd,he,his,hn⟩:=id hm;have ne:es.isEmpty=false:=by
    have:=size_of_entries he;cases xs with
    | nil=>cases hp
    | cons x r =>
     rw[xcb] at this;rw[Array.isEmpty_eq_false_iff];intro z;rw[z] at this;simp at this
   simp only[keyPart,xkn,xch,xdo];refine xba (xhz ho hd (xba (xbh ?_)));rw[ne];simp only[xch,xdo];refine xba (zvu hu hkey hm hp hsz fun e h' hv dd hs=>?_);simp only[Option.isNone_some,xch,xdo];exact xba (wpAny_letGo (xbh ⟨e.val,rfl,by rw[hv];exact q h' dd hs⟩))
 exact call_meetsIn F.slot_dict_pop hm.typeIs F.entry_dict_pop (F.args_dict_pop_2 _ _) M ⟨rfl,rfl,fin⟩
end
theorem KT.drop {H:Hp}{kvs:List (List Key×V)}{xs:List (List Key×Addr×Value)}(r:KT H kvs xs)(k:List Key):KT H (dropK kvs k) (xs.filter fun x=>decide (x.1≠k)):=by
 unfold dropK
 induction r with
 | nil=>exact .nil
 | @cons p q ps qs h t ih =>
  by_cases e:p.1=k
  ·rw[xdd (by simp[e]),xdd (by simp[← h.1,e])];exact ih
  ·rw[xcu (by simp[e]),xcu (by simp[← h.1,e])];exact .cons h ih
section
variable {X:Cx}{aU:List (Addr×Obj)}{σ:St}{H:Hp}{s:Shared}{a b:Addr}{kvs:List (List Key×V)}{k:List Key}
theorem zbmj {v:V}{Q:Value->Shared->Prop}{E:Value->Shared->Prop}(hu:X.A.units+1 < cLine)(I:Inv X aU σ H s)(e:H a=some (.dT kvs))(eb:H b=some (.tup (k.map kV)))(l:valV kvs k=some v)
  (h:∀ w' s', Inv X aU σ (upd H a (.dT (dropK kvs k))) s'->RelV v w'->Q w' s'):wpAny (model X.prog X.w) X.A (call (.builtin "dict.pop") [.ref a, .ref b]) Q E s:=by
 obtain⟨z,hd,xs,rel,dd⟩:=zbog I.hok e;obtain⟨w',hw,rw'⟩:=RelO.some_of (v:=v) (o:=(atKey xs k).map (·.2)) (by rw[← l];exact rel.val k);cases hp:atKey xs k with
 | none=>rw[hp] at hw;cases hw
 | some p =>
  rw[hp] at hw;have hw':p.2=w':=xcn hw;subst hw';refine zbav (xgn hu) (zot I.hok eb) dd hp (by rw[← xhk rel];exact z) fun h' dd' hs=>h _ _ ?_ rw'
  obtain⟨q,es,ep,hq,h2,h3,h4,_,h5⟩:=dd';refine zug I (by rw[e];exact True.intro) hs ⟨q,hq⟩ ⟨xbb (xjq _ _) z,hd,_,(rel.drop k).keeps fun c ys ec=>?_,q,es,ep,hq,h2,h3,h4,h5⟩;rw[zy (zboa ec e (fun z=>nomatch z))];exact ec
end
noncomputable def tDPopT (td ty:TE):TE:=fun σ H Q=>td σ H fun x H1=>∃a,x=.ref a/\IsD H1 a/\ty σ H1 fun y H2=>∃kvs k v b,H2 a=some (.dT kvs)/\y=.ref b/\H2 b=some (.tup (k.map kV))/\valV kvs k=some v/\Q v (upd H2 a (.dT (dropK kvs k)))
section
variable {X:Cx}{o e:Expr}{apos cpos:Pos}{td ty:TE}
theorem zbbb (hu:X.A.units + 1 < cLine)(ho:PE X o td)(he:PE X e ty)(m:M1 X o "pop" apos e cpos):PE X (.Call (.Attribute o "pop" apos) [e] [] cpos) (tDPopT td ty):=by
 intro aU s σ H Q I h;refine wpAny_Call_method m.base m.few m.line F.plainAttrs_dict F.slot_dict_pop F.type_dict_pop (thn (ho aU s σ H _ I h) fun u s1 hq0=>?_);obtain⟨x,H1,I1,rx,a,ex,d,q1⟩:=hq0;subst ex;obtain rfl:u=Value.ref a:=rx;obtain⟨t1,t2,_⟩:=zbgm I1 d;refine⟨t1,t2,?_⟩;rw[m.trees];refine xhu rfl (xjt (xhm (thn (he aU s1 σ H1 _ I1 q1) fun iv s2 ⟨y,H2,I2,ry,kvs,k,v,b,ea,ey,eb,l,q2⟩=>xjb ?_)));subst ey;cases(show iv=Value.ref b from ry);exact zbmj hu I2 ea eb l fun w' s3 I3 rw'=>⟨v,_,I3,rw',q2⟩
end
noncomputable def rCatA (K:Fg):R2:=fun x y H Q=>∃a b xs ys,x=.ref a/\y=.ref b/\SqT K H a xs/\SqT K H b ys/\xs.length+ys.length<=sizeLine /\
 (xs=[]->Q (.ref b) H)/\(xs≠[]->ys=[]->Q (.ref a) H)/\(xs≠[]->ys≠[]->∀p,H p=none->Q (.ref p) (upd H p (.tup (xs++ys))))
section
variable {X:Cx}
theorem zbfs:OpR X (binaryOp .Add) (rCatA X.K):=by
 intro aU s σ H x y v u Q I rx ry h;obtain⟨a,b,xs,ys,rfl,rfl,ha,hb,hz,q0,q1,q2⟩:=h;by_cases hx:xs=[]
 ·cases rx;cases ry;obtain⟨its,r1,p1,_⟩:=I.tuple ha;obtain⟨its2,r2,p2,_⟩:=I.tuple hb;obtain⟨⟨cls,dd,data,sl⟩,ho,hc,n,hd⟩:=id p1;obtain⟨⟨cls2,dd2,data2,sl2⟩,ho2,hc2,n2,hd2⟩:=id p2;simp only at hc hd hc2 hd2;subst hc hd hc2 hd2;have e:its=[]:=r1.nil_iff.mpr hx;exact concat_meets ⟨_,ho,rfl⟩ ⟨_,ho2,rfl⟩ noFill_tuple_add seq_tuple_add xjd xix (xin _ _)
   (tuple_addW0 a b its.toArray its2.toArray n n2 dd dd2 sl sl2 (by simp[e])) ⟨ho,ho2,⟨.ref b,H,I,rfl,q0 hx⟩⟩
 ·exact zbfr aU s σ H _ _ v u Q I rx ry ⟨a,b,xs,ys,rfl,rfl,ha,hb,hx,hz,fun z=>q1 hx z,fun z=>q2 hx z⟩
end
section
variable {prog:Program}{w:World}{A:Around}{E:Value->Shared->Prop}{s:Shared}
theorem zxz {t sl:Addr}{its:Array Value}{vl vu:Value}{lo hi:Option Int}{W:Value->Shared->Prop}(ht:IsTup s.heap t its)(hs:s.heap.IsSliceOf sl vl vu .none)(pl:IsPart vl lo)(pu:IsPart vu hi)
  (h0:HT.sIx its.size 0 lo=0)(h1:HT.sIx its.size its.size hi=its.size)(fin:W (.ref t) s):wpAny (model prog w) A (getItem (.ref t) (.ref sl)) W E s:=by
 obtain⟨os,hos,hcs,hds⟩:=id hs;unfold getItem
 try with_reducible refine xfm ?_
 first | refine xba (xbh ?_) | skip
 refine xba (wpAny_sequenceKey ht.typeIs (by decide) ?_);refine xba (wpAny_callSpecial?_slot (name:=Str.ofString "__getitem__") ht.typeIs xit (xew xit ht.typeIs entry_tuple_getitem ?_ (args_tuple_getitem _ _)))
 show wpAny _ _ (Builtin.Tuple.tupleItemsOf (.ref t) >>= _) _ _ s;refine xba (tupleItemsOf_ ht ?_);have hTs:s.TypeIs (.ref sl) "slice":=⟨os, hos, hcs⟩
 refine xba (wpAny_typeOf hTs ?_);rw[if_pos (by decide)];refine xba (HT.zen hs pl pu ?_);have yes:(((HT.sIx its.size 0 lo:Nat):Int)==0&&(1:Int)==1&&(HT.sIx its.size its.size hi - HT.sIx its.size 0 lo)==its.size)=true:=by
  rw[h0,h1];simp
 show wpAny _ _ (if(((HT.sIx its.size 0 lo:Nat):Int)==0&&(1:Int)==1&&(HT.sIx its.size its.size hi - HT.sIx its.size 0 lo)==its.size)=true then _ else _) _ _ s;rw[if_pos yes];refine xba (?_:wpAny _ _ (Builtin.Tuple.tupleIsExact (.ref t)) _ _ s);unfold Builtin.Tuple.tupleIsExact;refine xba (wpAny_typeOf ht.typeIs (xbh ?_));rw[if_pos (by decide)];exact xba (xhs (xbh ⟨_,rfl,xbh fin⟩))
end
noncomputable def rSlA (K:Fg):V->Option Int->Option Int->Hp->VK->Prop:=fun x lo hi H Q=>∃a xs,x=.ref a/\SqT K H a xs/\(cutV xs lo hi=xs->Q (.ref a) H)/\∀p,H p=none->Q (.ref p) (upd H p (.tup (cutV xs lo hi)))
theorem zbel {X:Cx}:SlR X (rSlA X.K):=by
 intro aU s σ H x v vl vu lo hi sl Q I rx hs pl pu h;obtain⟨a,xs,rfl,hx,q1,q2⟩:=h;by_cases hw:HT.sIx xs.length 0 lo=0/\HT.sIx xs.length xs.length hi=xs.length
 ·cases rx;obtain⟨its,r,ht,hz⟩:=I.tuple hx;have hlen:its.toArray.size=xs.length:=by rw[xbs];exact r.length.symm
  refine⟨"tuple", _, xit.lookup, ht.typeIs, ?_⟩
  refine zxz ht hs pl pu (by rw[hlen];exact hw.1) (by rw[hlen];exact hw.2) ⟨.ref a,H,I,rfl,q1 ?_⟩;unfold cutV;rw[hw.1,hw.2];simp
 ·exact zbjl aU s σ H _ v vl vu lo hi sl Q I rx hs pl pu ⟨a,xs,rfl,hx,hw,q2⟩
theorem zkp (ns:List Int):∀k,k<=ns.length->preSum (fun i=>ns.getD i 0) k=(ns.take k).sum
 | 0,_=>rfl
 | k+1,h=>by
  show preSum (fun i=>ns.getD i 0) k+ns.getD k 0=_;rw[zkp ns k (by lia),xhc (by lia),xfj,xda,xbi (by lia)];simp
theorem ztv:∀{ns:List Int} {us:List Value} {i:Nat} {v:Value},Vals (ns.map V.int) us->us[i]?=some v->∃t,v=.int (ns.getD i 0) t
 | [],_,_,_,.nil,e=>by simp at e
 | n::ns,_,0,_,.cons r _,e=>by
  simp at e;subst e
  obtain⟨t,rfl⟩:=r;exact⟨t,rfl⟩
 | n::ns,_,i+1,v,.cons _ t,e=>by
  have:=ztv (i:=i) t (by simpa using e)
  simpa using this
noncomputable def rSum (K:Fg):List V->Hp->VK->Prop:=fun xs H Q=>∃(a:Addr) (ns:List Int),xs=[.ref a]/\(SqL K H a (ns.map V.int)\/SqT K H a (ns.map V.int))/\Q (.int ns.sum) H
theorem zql {X:Cx}(hc:X.calm=true):CallR X (.builtin "sum") (rSum X.K):=by
 intro aU s σ H xs us Q I r h;obtain⟨a,ns,rfl,hs,q⟩:=h;obtain⟨u,rfl,ru⟩:=vals1 r;cases ru;have key:∀{its:List Value} (h':Heap) (tk:Nat) (t':Tok) (nn:Nat),nn=ns.length->(∀b o,b≠s.heap.objs.size->s.heap.get? b=some o->h'.get? b=some o) ->
   EP X aU σ Q (.int (preSum (fun i=>ns.getD i 0) nn) t') {s with heap:=h',toks:=tk}:=fun h' tk t' nn hn hk=>by
  subst hn;rw[zkp ns _ (xbe _),xby];exact⟨.int ns.sum,H,I.kept (t':=tk) fun b o e=>hk b o (xcl (xbm e)) e,⟨_,rfl⟩,q⟩
 refine call_sum_walkG ?_;rcases hs with hs | hs
 ·obtain⟨its,rv,pl,hz⟩:=I.list hs;have hlt:a < s.heap.objs.size:=by obtain⟨o,n,e,_⟩:=pl;exact xbm e
  have hl:=rv.length;rw[xbc] at hl;refine xld pl.isList ?_;refine⟨s.heap.objs.size,_,[s.heap.objs.size],_,_,_,fun i=>ns.getD i 0,rfl,Walks.list (A:=X.A.in1) (I.ok.hd hc) _ a (xcl hlt) its.toArray,⟨⟨_,xbw _ rfl,rfl,rfl⟩,pl.isList.push _⟩,?_,fun i v e=>ztv rv (by simpa using e),fun h' tk t' hk=>?_⟩
  ·intro b hb;show b < (s.heap.push _).objs.size;rw[show ∀o:Obj,(s.heap.push o).objs.size=s.heap.objs.size+1 from fun o=>by simp[Heap.push]];rcases xbx.mp hb with rfl | hb
   ·exact xlh _
   ·rcases xbx.mp hb with rfl | hb
    ·exact xla hlt
    ·cases hb
  ·exact key (its:=its) h' tk t' _ (by simp[hl]) fun b o hb e=>hk b o (by simpa using hb) (xbd _ e)
 ·obtain⟨its,rv,pl,hz⟩:=I.tuple hs;have hlt:a < s.heap.objs.size:=pl.lt;have hl:=rv.length;rw[xbc] at hl;have pt:s.heap.IsTuple a its.toArray:=pl;refine xir pt ?_;refine⟨s.heap.objs.size,_,[s.heap.objs.size],_,_,_,fun i=>ns.getD i 0,rfl,Walks.tuple (A:=X.A.in1) (I.ok.hd hc) _ a (xcl hlt) its.toArray,⟨⟨_,xbw _ rfl,rfl,rfl⟩,pt.push _⟩,?_,fun i v e=>ztv rv (by simpa using e),fun h' tk t' hk=>?_⟩
  ·intro b hb;show b < (s.heap.push _).objs.size;rw[show ∀o:Obj,(s.heap.push o).objs.size=s.heap.objs.size+1 from fun o=>by simp[Heap.push]];rcases xbx.mp hb with rfl | hb
   ·exact xlh _
   ·rcases xbx.mp hb with rfl | hb
    ·exact xla hlt
    ·cases hb
  ·exact key (its:=its) h' tk t' _ (by simp[hl]) fun b o hb e=>hk b o (by simpa using hb) (xbd _ e)
theorem zsq {prog:Program}{w:World}{A:Around}{E:Value->Shared->Prop}{s:Shared}{it t:Addr}{i:Nat}{items:Array Value}{Q:Value->Shared->Prop}(hh:A.handled=none)(hit:s.heap.IsTupleIter it t i)(ht:s.heap.IsTuple t items)
  (hQ:∀x,items[i]?=some x->∀h',h'.IsTupleIter it t (i+1)->Heap.SameBut it s.heap h'->Q x {s with heap:=h'})
  (hE:items[i]?=none->∀ h' e, Heap.ExtBut it s.heap h'->(∃ o, h'.get? e=some o/\o.cls=.type "StopIteration")->E (.ref e) { s with heap:=h' }):wpAny (model prog w) A (Builtin.SmallTypes.nextOf (.ref it)) Q E s:=by
 rcases hit with⟨o,ho,hc,hd⟩
 rcases ht with⟨u,hu,_,n,hs⟩
 refine xba (wpAny_callSpecial?_slot (name:=Str.ofString "__next__") ⟨o, ho, hc⟩ F.slot_tuple_iterator_next (xew F.slot_tuple_iterator_next ⟨o, ho, hc⟩ F.entry_tuple_iterator_next ?_ (F.args_tuple_iterator_next_1 _)))
 have f0:(#[Value.ref t,.int i 0]:Array Value)[0]?=some (.ref t):=rfl;have f1:(#[Value.ref t,.int i 0]:Array Value)[1]?=some (.int i 0):=rfl
 wp_walk using xha ho hd f0,xha ho hd f1,xiw hu hs
 rw[xdu];cases hx:items[i]? with
 | some x =>
  exact xba (xkh ho hd (by simp) (xbh ⟨x,rfl,xbh (hQ x hx _ ⟨_,xib _ ho (Obj.isFreed_of_fields (xio hd _)),(Obj.cls_mapFields ..).trans hc,by rw[xio hd];simp[rawInt]⟩ (.update ..))⟩))
 | none =>
  have hh':A.in1.handled=none:=hh
  wp_walk using xkh ho hd (by simp)
  unfold raiseNew;refine xba (wpAny_handled ?_);rw[hh'];exact xba (xbh (wpAny_throw (hE hx _ _ ((xhe ..).extBut.push _ |>.push _) ⟨_,xbw _ rfl,rfl⟩)))
section
variable {X:Cx}{aU:List (Addr×Obj)}{σ:St}{H:Hp}{s:Shared}{h':Heap}
theorem Inv.turned2 {t':Nat}{e it:Addr}(I:Inv X aU σ H s)(k:∀b o,b≠e->b≠it->s.heap.get? b=some o->h'.get? b=some o)(hn:H it=none)(hL:it≠X.env.locals)
  (h1:it∈X.ex\/X.s₀.heap.objs.size<=it)(h2:∀x c,X.env.cells.lookup x=some c->c≠it)(h3:∀p∈X.pn++aU,p.1≠it)(gn:H e=none)(gL:e≠X.env.locals)
  (g1:e∈X.ex\/X.s₀.heap.objs.size<=e)(g2:∀x c,X.env.cells.lookup x=some c->c≠e)(g3:∀p∈X.pn++aU,p.1≠e):Inv X aU σ H {s with heap:=h',toks:=t'}:=by
 have nit:∀b u,H b=some u->b≠it:=fun b u e z=>by rw[z,hn] at e;cases e
 have nie:∀b u,H b=some u->b≠e:=fun b u q z=>by rw[z,gn] at q;cases q
 refine I.step (g':=s.gens) (d':=s.drawn) (ch:=[e,it]) (fun b hb=>?_) (fun b o _ _ hc e _=>k b o (fun z=>hc (by simp[z])) (fun z=>hc (by simp[z])) e) (fun b o _ _ hc e _=>⟨o.slots,k b o (fun z=>hc (by simp[z])) (fun z=>hc (by simp[z])) e⟩) (fun _ _ _ _ n=>n)
  (fun b o hc e=>⟨o,k b o (fun z=>hc (by simp[z])) (fun z=>hc (by simp[z])) e⟩) (fun _ _ e=>e) (fun _ _ _ e=>e) (fun b ps e=>⟨#[],by rw[e];simp⟩) (fun m hm=>?_) (fun b u e=>?_) I.bare
 ·rcases xbx.mp hb with z | z
  ·subst z;exact⟨g1,gL,g2,g3⟩
  ·have z':b=it:=by simpa using z
   subst z';exact⟨h1,hL,h2,h3⟩
 ·obtain⟨o,es,ep,ho,r⟩:=hm;exact⟨o,es,ep,k _ o (xcs gL) (xcs hL) ho,r⟩
 ·refine(I.hok b u e).stay (fun c v hc q=>k c v ?_ ?_ q) (fun _ q=>q) fun _ _ q=>q
  ·rcases hc with z | z
   ·rw[z];exact nie b u e
   ·exact nie c _ z
  ·rcases hc with z | z
   ·rw[z];exact nit b u e
   ·exact nit c _ z
end
section
variable {X:Cx}
end
noncomputable def bestI (gt:Bool) (n:Int) (ns:List Int):Int:=ns.foldl (fun i j=>if(if gt then decide (j > i) else decide (j < i))=true then j else i) n
section
variable {X:Cx}
theorem Inv.turnedL {aU:List (Addr×Obj)}{σ:St}{H:Hp}{s:Shared}{h':Heap}{t':Nat}{ch:List Addr}(I:Inv X aU σ H s)(k:∀b o,b∉ch->s.heap.get? b=some o->h'.get? b=some o)(hf:∀b∈ch,FpOk X aU H b):Inv X aU σ H {s with heap:=h',toks:=t'}:=by
 have nit:∀b u,H b=some u->b∉ch:=fun b u e z=>by have:=(hf b z).1;rw[e] at this;cases this
 have loc:X.env.locals∉ch:=fun z=>(hf _ z).2.1 rfl
 refine I.step (g':=s.gens) (d':=s.drawn) (ch:=ch) (fun b hb=>?_) (fun b o _ _ hc e _=>k b o hc e) (fun b o _ _ hc e _=>⟨o.slots,k b o hc e⟩) (fun _ _ _ _ n=>n)
  (fun b o hc e=>⟨o,k b o hc e⟩) (fun _ _ e=>e) (fun _ _ _ e=>e) (fun b ps e=>⟨#[],by rw[e];simp⟩) (fun m hm=>?_) (fun b u e=>?_) I.bare
 ·obtain⟨f0,f1,f2,f3,f4,f5⟩:=hf b hb;exact⟨f3,f1,f4,f5⟩
 ·obtain⟨o,es,ep,ho,r⟩:=hm;exact⟨o,es,ep,k _ o loc ho,r⟩
 ·refine(I.hok b u e).stay (fun c v hc q=>k c v ?_ q) (fun _ q=>q) fun _ _ q=>q
  rcases hc with z | z
  ·rw[z];exact nit b u e
  ·exact nit c _ z
end
structure ZRec (z TI TO i1 i2 t1 t2:Addr):Prop where
 nd:[z,TI,TO,i1,i2].Nodup
 o1:t1∉[z,TI,TO,i1,i2]
 o2:t2∉[z,TI,TO,i1,i2]
structure ZAt (h:Heap) (z TI TO i1 i2 t1 t2:Addr) (f0:Value) (j:Nat):Prop where
 zip:IsZip h z TI TO f0
 its:IsPair h TI (.ref i1) (.ref i2)
 out:∃a b,IsPair h TO a b
 it1:h.IsTupleIter i1 t1 j
 it2:h.IsTupleIter i2 t2 j
section
variable {prog:Program}{w:World}{A:Around}{E:Value->Shared->Prop}{s:Shared}{z TI TO i1 i2 t1 t2:Addr}{xs ys:Array Value}{j:Nat}
theorem zyi (a b c d e x:Addr)(h:[a,b,c,d,e].Nodup):a≠b/\a≠c/\a≠d/\a≠e/\b≠c/\b≠d/\b≠e/\c≠d/\c≠e/\d≠e:=by
 simp at h;obtain⟨⟨h1,h2,h3,h4⟩,⟨h5,h6,h7⟩,⟨h8,h9⟩,h10⟩:=h;exact⟨h1,h2,h3,h4,h5,h6,h7,h8,h9,h10⟩
theorem zbaa {Q:Fin->Shared->Prop}(hh:A.handled=none)(R:ZRec z TI TO i1 i2 t1 t2)(Z:ZAt s.heap z TI TO i1 i2 t1 t2 .none j)(hx:s.heap.IsTuple t1 xs)(hy:s.heap.IsTuple t2 ys)
  (hQ:∀x y,xs[j]?=some x->ys[j]?=some y->∀g,ZAt g z TI TO i1 i2 t1 t2 (rawInt s.heap.objs.size) (j+1)->IsPair g s.heap.objs.size x y->g.objs.size=s.heap.objs.size+1 ->
   (∀c o,c∉[z,TO,i1,i2]->s.heap.get? c=some o->g.get? c=some o)->Q (.done (.ret (.ref s.heap.objs.size))) {s with heap:=g})
  (hE:xs[j]?=none\/ys[j]?=none->∀ g e,(∀ c o, c∉[z, TO, i1, i2]->s.heap.get? c=some o->g.get? c=some o)->(∃ o, g.get? e=some o/\o.cls=.type "StopIteration")->E (.ref e) { s with heap:=g }):wpAny (model prog w) A (Builtin.«zip.__next__» ⟨[.ref z],[]⟩) Q E s:=by
 obtain⟨n1,n2,n3,n4,n5,n6,n7,n8,n9,n10⟩:=zyi z TI TO i1 i2 0 R.nd;have a1:=R.o1;have a2:=R.o2;simp only[xbx,xgh,xki,not_or] at a1 a2;obtain⟨p1,p2,p3,p4,p5⟩:=a1;obtain⟨q1,q2,q3,q4,q5⟩:=a2;obtain⟨hz,hI,⟨a,b,hO⟩,k1,k2⟩:=Z;refine(?_:wpAny _ _ (field (.ref z) 2 >>= _) Q E s);refine xba (xha hz rfl (x:=.bool false) rfl (?_:wpAny _ _ (field (.ref z) 3 >>= _) _ _ _));refine xba (xha hz rfl (x:=.ref TI) rfl (xba (xiw hI rfl (?_:wpAny _ _ (Builtin.SmallTypes.ownedTupleIsFree (.ref z) >>= _) _ _ _))));refine xba (m:=Builtin.SmallTypes.ownedTupleIsFree (.ref z)) (show wpAny _ _ (field (.ref z) 0 >>= _) _ _ _ from xba (xha hz rfl (x:=.none) rfl (xbh ?_)));simp only[xdz];refine xba (xhs (xba (xha hz rfl (x:=.ref TO) rfl (xba (xht hz (by simp) fun g1 hz1 e1=>?_)))));have hz1':IsZip g1 z TI TO .ellipsis:=hz1;simp only[xll,List.zipIdx_cons,List.forIn_nil,List.zipIdx_nil];refine xba (xba (xba (wpAny_onRaise (?_:wpAny _ _ (Builtin.SmallTypes.nextOf (.ref i1) >>= _) _ _ _))));refine xba (zsq hh (s:={s with heap:=g1}) (k1.extBut e1.extBut (xcs n3)) (hx.extBut e1.extBut p1) (fun x hx1 g2 k3 e2=>xbh ?_) fun hx1 g2 ee eb he=>?_)
 ·have hO2:IsPair g2 TO a b:=e2.extBut _ _ n8 (e1.extBut _ _ (xcs n2) hO);refine xba (xiw hO2 rfl (xba (wpAny_updateSeq_pair (s:={s with heap:=g2}) hO2 fun g3 hO3 e3=>xba (wpAny_letGo (xbh ?_)))));have hO3':IsPair g3 TO x b:=hO3;refine xba (xba (wpAny_onRaise (?_:wpAny _ _ (Builtin.SmallTypes.nextOf (.ref i2) >>= _) _ _ _)));refine xba (zsq hh (s:={s with heap:=g3}) (((k2.extBut e1.extBut (xcs n4)).extBut e2.extBut (xcs n10)).extBut e3.extBut (xcs n9)) (((hy.extBut e1.extBut q1).extBut e2.extBut q4).extBut e3.extBut q3) (fun y hy1 g4 k4 e4=>xbh ?_) fun hy1 g4 ee eb he=>?_)
  ·have hO4:IsPair g4 TO x b:=e4.extBut _ _ n9 hO3';refine xba (xiw hO4 rfl (xba (wpAny_updateSeq_pair (s:={s with heap:=g4}) hO4 fun g5 hO5 e5=>xba (wpAny_letGo (xbh (xbh ?_))))));have hO5':IsPair g5 TO x y:=hO5;refine xba (xiw hO5' rfl (xba (wpAny_newTuple ?_)));have sz:g5.objs.size=s.heap.objs.size:=by rw[e5.1,e4.1,e3.1,e2.1,e1.1]
   have hz5:IsZip g5 z TI TO .ellipsis:=e5.extBut _ _ n2 (e4.extBut _ _ n4 (e3.extBut _ _ n2 (e2.extBut _ _ n3 hz1')));have kp:∀c o,c∉[z,TO,i1,i2]->s.heap.get? c=some o->g5.get? c=some o:=fun c o hc e=>by
    simp only[xbx,xgh,xki,not_or] at hc;exact e5.extBut _ _ hc.2.1 (e4.extBut _ _ hc.2.2.2 (e3.extBut _ _ hc.2.1 (e2.extBut _ _ hc.2.2.1 (e1.extBut _ _ hc.1 e))))
   have m1:g5.IsTupleIter i1 t1 (j+1):=((k3.extBut e3.extBut (xcs n8)).extBut e4.extBut n10).extBut e5.extBut (xcs n8);have m2:g5.IsTupleIter i2 t2 (j+1):=k4.extBut e5.extBut (xcs n9);have lz:z < g5.objs.size:=xbm hz5;have hz6:IsZip (g5.push { cls:=.type "tuple", data:=.seq #[x, y] }) z TI TO .ellipsis:=xbd _ hz5
   refine xba (m:=Builtin.SmallTypes.ownedTupleHandOut (.ref z) (.ref g5.objs.size)) (xba (xht hz6 (by simp) fun g7 hz7 e7=>?_));have hz7':IsZip g7 z TI TO (rawInt g5.objs.size):=hz7;refine xht hz7' (by simp) fun g8 hz8 e8=>xbh ?_
   have hz8':IsZip g8 z TI TO (rawInt g5.objs.size):=hz8;have up:∀c o,c≠z->g5.get? c=some o->g8.get? c=some o:=fun c o hc e=>e8.extBut _ _ hc (e7.extBut _ _ hc (xbd _ e))
   have hT:IsPair g8 g5.objs.size x y:=e8.extBut _ _ (xia lz) (e7.extBut _ _ (xia lz) (xbw _ rfl));have s8:g8.objs.size=g5.objs.size+1:=by rw[e8.1,e7.1,xiv]
   rw[sz] at hz8' hT s8;have hI5:IsPair g5 TI (.ref i1) (.ref i2):=kp _ _ (by simp[xcs n1,n5,n6,n7]) hI;have fin:=hQ x y hx1 hy1 g8 ⟨hz8',up _ _ (xcs n1) hI5,⟨x,y,up _ _ (xcs n2) hO5'⟩,m1.at fun o e=>up _ o (xcs n3) e,m2.at fun o e=>up _ o (xcs n4) e⟩ hT s8 fun c o hc e=>up c o (fun q=>hc (by simp[q])) (kp c o hc e)
   show Q (.done (.ret (.ref g5.objs.size))) _;rw[sz];exact fin
  ·obtain⟨oe,he1,he2⟩:=he;have hz4:IsZip g4 z TI TO .ellipsis:=eb _ _ n4 (e3.extBut _ _ n2 (e2.extBut _ _ n3 hz1'));have nz:ee≠z:=fun q=>by rw[q,hz4] at he1;cases he1;simp at he2
   refine xht hz4 (by simp) fun g5 _ e5=>hE (.inr hy1) g5 ee (fun c o hc e=>?_) ⟨oe,e5.extBut _ _ nz he1,he2⟩
   simp only[xbx,xgh,xki,not_or] at hc;exact e5.extBut _ _ hc.1 (eb _ _ hc.2.2.2 (e3.extBut _ _ hc.2.1 (e2.extBut _ _ hc.2.2.1 (e1.extBut _ _ hc.1 e))))
 ·obtain⟨oe,he1,he2⟩:=he;have hz2:IsZip g2 z TI TO .ellipsis:=eb _ _ n3 hz1';have nz:ee≠z:=fun q=>by rw[q,hz2] at he1;cases he1;simp at he2
  refine xht hz2 (by simp) fun g3 _ e3=>hE (.inl hx1) g3 ee (fun c o hc e=>?_) ⟨oe,e3.extBut _ _ nz he1,he2⟩
  simp only[xbx,xgh,xki,not_or] at hc;exact e3.extBut _ _ hc.1 (eb _ _ hc.2.2.1 (e1.extBut _ _ hc.1 e))
end
section
variable {prog:Program}{w:World}{A:Around}{E:Value->Shared->Prop}{s:Shared}{z TI TO i1 i2 t1 t2:Addr}{xs ys:Array Value}{j:Nat}
theorem zry {Q:Option Value->Shared->Prop}(hh:A.handled=none)(R:ZRec z TI TO i1 i2 t1 t2)(Z:ZAt s.heap z TI TO i1 i2 t1 t2 .none j)(hx:s.heap.IsTuple t1 xs)(hy:s.heap.IsTuple t2 ys)
  (hQ:∀x y,xs[j]?=some x->ys[j]?=some y->∀g,ZAt g z TI TO i1 i2 t1 t2 (rawInt s.heap.objs.size) (j+1)->IsPair g s.heap.objs.size x y->g.objs.size=s.heap.objs.size+1 ->
   (∀c o,c∉[z,TO,i1,i2]->s.heap.get? c=some o->g.get? c=some o)->Q (some (.ref s.heap.objs.size)) {s with heap:=g})
  (hE:xs[j]?=none\/ys[j]?=none->∀g,(∀c o,c∉[z,TO,i1,i2]->s.heap.get? c=some o->g.get? c=some o)->Q none {s with heap:=g}):wpAny (model prog w) A (pyNext (.ref z)) Q E s:=by
 have T:s.TypeIs (.ref z) "zip":=⟨_, Z.zip, rfl⟩
 unfold pyNext;refine xba (xku (wpAny_callSpecial?_slot (name:=Str.ofString "__next__") T F.slot_zip_next (xew F.slot_zip_next T F.entry_zip_next (zbaa hh R Z hx hy (fun x y h1 h2 g k1 k2 k3 k4=>⟨_, rfl, xbh (hQ x y h1 h2 g k1 k2 k3 k4)⟩) fun h1 g e k he=>?_) (F.args_zip_next_1 _))))
 obtain⟨o,ho,hc⟩:=he;exact xba (wpAny_isInstance (T:="StopIteration") (b:=true) ⟨o, ho, hc⟩ isSubtype_stop (xbh (hE h1 g k)))
end
noncomputable def Itz (K:Fg) (a b:Addr):It :=
 ⟨fun i H=>∃xs ys x y,SqT K H a xs/\SqT K H b ys/\xs[i]?=some x/\ys[i]?=some y,
  fun i H u H'=>∃p,H p=none/\u=.ref p/\∀xs ys x y,SqT K H a xs->SqT K H b ys->xs[i]?=some x->ys[i]?=some y->H'=upd H p (.tup [x,y]),
  fun i H=>∃xs ys,SqT K H a xs/\SqT K H b ys/\(xs.length<=i\/ys.length<=i)⟩
theorem zbag {P:Program}{w:World}{K:Fg}{elts:List Expr}{k:Nat}{tpos:Pos}{z TI TO i1 i2 a b:Addr}(R:ZRec z TI TO i1 i2 a b) :
  Turn P w K (.Tuple elts k tpos) (Itz K a b) [z,TI,TO,i1,i2] z (fun i h=>ZAt h z TI TO i1 i2 a b .none i) where
 mem:=by simp
 obj:=fun i h st c hc=>by
  obtain⟨u,v,hO⟩:=st.out;obtain⟨o1,e1,_,d1⟩:=st.it1;obtain⟨o2,e2,_,d2⟩:=st.it2;have hc':c=z\/c=TI\/c=TO\/c=i1\/c=i2:=by simpa using hc
  rcases hc' with rfl | rfl | rfl | rfl | rfl
  ·exact⟨_,st.zip,fun v q=>by cases(show Data.fields _=Data.cell v from q)⟩
  ·exact⟨_,st.its,fun v q=>by cases(show Data.seq _ _=Data.cell v from q)⟩
  ·exact⟨_,hO,fun v q=>by cases(show Data.seq _ _=Data.cell v from q)⟩
  ·exact⟨o1,e1,fun v q=>by rw[d1] at q;cases q⟩
  ·exact⟨o2,e2,fun v q=>by rw[d2] at q;cases q⟩
 keep:=fun i h h' st kk=>by
  obtain⟨u,v,hO⟩:=st.out;exact⟨kk z (by simp) _ st.zip,kk TI (by simp) _ st.its,⟨u,v,kk TO (by simp) _ hO⟩,st.it1.at fun o e=>kk i1 (by simp) o e,st.it2.at fun o e=>kk i2 (by simp) o e⟩
 item:=by
  intro X hP hw hK hc i aU s σ H E I hf st hg;subst hP hw hK;obtain⟨xs,ys,x,y,hq1,hq2,hx,hy⟩:=hg;obtain⟨its1,rv1,p1,hz1⟩:=I.tuple hq1;obtain⟨its2,rv2,p2,hz2⟩:=I.tuple hq2;obtain⟨u1,hu1,ru1⟩:=rv1.get hx;obtain⟨u2,hu2,ru2⟩:=rv2.get hy;refine zry (I.ok.hd hc) R st (show s.heap.IsTuple a its1.toArray from p1) (show s.heap.IsTuple b its2.toArray from p2) (fun v1 v2 e1 e2 g Z hT hsz kp=>?_) fun e=>?_
  ·have f1:v1=u1:=by rw[xfr,hu1] at e1;exact(xcn e1).symm
   have f2:v2=u2:=by rw[xfr,hu2] at e2;exact(xcn e2).symm
   subst f1 f2;refine⟨_,rfl,wpAny_letOwnedTupleGo_zip Z.zip fun g2 hz' e'=>?_⟩;have low:∀c∈[z,TI,TO,i1,i2],c < s.heap.objs.size:=fun c hc'=>by
    obtain⟨uu,vv,hO⟩:=st.out;obtain⟨o1,e1,_⟩:=st.it1;obtain⟨o2,e2,_⟩:=st.it2;have hc'':c=z\/c=TI\/c=TO\/c=i1\/c=i2:=by simpa using hc'
    rcases hc'' with rfl | rfl | rfl | rfl | rfl
    ·exact xbm st.zip
    ·exact xbm st.its
    ·exact xbm hO
    ·exact xbm e1
    ·exact xbm e2
   have hzl:=low z (by simp);have I1:Inv X aU σ (upd H s.heap.objs.size (.tup [x, y])) { s with heap:=s.heap.push { cls:=.type "tuple", data:=.seq #[v1, v2] }, toks:=s.toks } :=
    I.laid (fun _ _ q=>xbd _ q) (xbe _) ⟨by simp;decide,[v1,v2],.cons ru1 (.cons ru2 .nil),⟨_,xbw _ rfl,rfl,_,rfl⟩⟩
   have hf2:∀c∈[z,TI,TO,i1,i2],FpOk X aU (upd H s.heap.objs.size (.tup [x,y])) c:=fun c hc'=>by
    obtain⟨f0,fr⟩:=hf c hc';exact⟨by rw[zy (xcl (low c hc'))];exact f0,fr⟩
   have I2:Inv X aU σ (upd H s.heap.objs.size (.tup [x,y])) {s with heap:=g2,toks:=s.toks}:=by
    refine Inv.turnedL (s:={ s with heap:=s.heap.push { cls:=.type "tuple", data:=.seq #[v1, v2] }, toks:=s.toks }) (h':=g2) (t':=s.toks) (ch:=[z, TI, TO, i1, i2]) I1 (fun c o hc' q=>?_) hf2
    have q':(s.heap.push { cls:=.type "tuple", data:=.seq #[v1, v2] }).get? c=some o:=q
    have cz:c≠z:=fun e=>hc' (by simp[e])
    rcases Heap.get?_push_cases q' with⟨e1,e2⟩ | e1
    ·rw[e1,e2];exact e'.extBut _ _ (xia hzl) hT
    ·exact e'.extBut _ _ cz (kp c o (fun m=>hc' (by simp at m ⊢;rcases m with m | m | m | m<;>simp[m])) e1)
   obtain⟨d1,d2,d3,d4,_⟩:=zyi z TI TO i1 i2 0 R.nd;obtain⟨uu,vv,hO⟩:=Z.out;refine⟨.ref s.heap.objs.size,_,I2,rfl,⟨s.heap.objs.size,I.fresh,rfl,fun as bs x' y' ha hb ex ey=>?_⟩,⟨hz',e'.extBut _ _ (xcs d1) Z.its,⟨uu,vv,e'.extBut _ _ (xcs d2) hO⟩,Z.it1.extBut e'.extBut (xcs d3),Z.it2.extBut e'.extBut (xcs d4)⟩,fun c hc'=>(hf2 c hc').1⟩;rw[I.tuple_inj ha hq1,hx] at ex;rw[I.tuple_inj hb hq2,hy] at ey;cases ex;cases ey
   rfl
  ·rcases e with e | e
   ·rw[xfr,hu1] at e;cases e
   ·rw[xfr,hu2] at e;cases e
 done:=by
  intro X hP hw hK hc i aU s σ H E I hf st hg;subst hP hw hK;obtain⟨xs,ys,hq1,hq2,hl⟩:=hg;obtain⟨its1,rv1,p1,hz1⟩:=I.tuple hq1;obtain⟨its2,rv2,p2,hz2⟩:=I.tuple hq2;have l1:=rv1.length;have l2:=rv2.length;refine zry (I.ok.hd hc) R st (show s.heap.IsTuple a its1.toArray from p1) (show s.heap.IsTuple b its2.toArray from p2) (fun v1 v2 e1 e2 g Z hT hsz kp=>?_) fun _ g kp=>⟨rfl,I.turnedL (t':=s.toks) (ch:=[z,TI,TO,i1,i2]) (fun c o hc' e=>kp c o (fun m=>hc' (by simp at m ⊢;rcases m with m | m | m | m<;>simp[m])) e) hf⟩
  rw[xfr] at e1 e2;have g1:=(xbf.mp e1).1;have g2:=(xbf.mp e2).1;lia
 self:=fun A i s Q E st h=>wpAny_pyIter_zip st.zip h
section
variable {prog:Program}{w:World}{A:Around}{E:Value->Shared->Prop}{s:Shared}
noncomputable abbrev tupIt (l:Addr):Obj:={ cls:=.type "tuple_iterator", data:=.fields #[.ref l, .int 0 0] }
noncomputable abbrev two (a b:Value):Obj:={ cls:=.type "tuple", data:=.seq #[a, b] }
noncomputable abbrev zipOb (a b:Addr):Obj:={ cls:=.type "zip", data:=.fields #[.none, .bool false, .bool false, .ref a, .ref b] }
noncomputable abbrev lay1 (h:Heap) (l1:Addr):Heap:=h.push (tupIt l1)
noncomputable abbrev lay2 (h:Heap) (l1 l2:Addr):Heap:=(lay1 h l1).push (tupIt l2)
noncomputable abbrev lay3 (h:Heap) (l1 l2:Addr):Heap:=(lay2 h l1 l2).push (two (.ref h.objs.size) (.ref (lay1 h l1).objs.size))
noncomputable abbrev lay4 (h:Heap) (l1 l2:Addr):Heap:=(lay3 h l1 l2).push (two .none .none)
noncomputable abbrev lay5 (h:Heap) (l1 l2:Addr):Heap:=(lay4 h l1 l2).push (zipOb (lay2 h l1 l2).objs.size (lay3 h l1 l2).objs.size)
theorem zbab (l1 l2:Addr)(xs ys:Array Value) :
  Meets (Builtin.«zip.__new__» ⟨[.type "zip", .ref l1, .ref l2],[]⟩) (fun _ R s=>s.heap.IsTuple l1 xs/\s.heap.IsTuple l2 ys/\R (.ok (.ret (.ref (lay4 s.heap l1 l2).objs.size))) { s with heap:=lay5 s.heap l1 l2 }) :=
 .of_wp fun prog w A R s h=>by
  obtain⟨hp,g,d,tk,os⟩:=s;obtain⟨k1,k2,h⟩:=h;have sub:=sub_zip;have k1':Heap.IsTuple (Shared.heap ⟨hp,g,d,tk,os⟩) l1 xs:=k1;have k2':Heap.IsTuple (Shared.heap ⟨hp.push (tupIt l1),g,d,tk,os⟩) l2 ys:=k2.push _
  wp_walk using xir k1',xir k2'
  exact⟨_,rfl,h⟩
theorem zsr {n l1 l2:Nat}(h1:l1 < n)(h2:l2 < n):ZRec (n+4) (n+2) (n+3) n (n+1) l1 l2/\∀c∈[n+4,n+2,n+3,n,n+1],n<=c :=
 have q:∀{l:Nat},l < n->l∉[n+4,n+2,n+3,n,n+1]:=fun {l} h m=>by
  simp only[xbx,xgh,xki] at m;lia
 ⟨⟨by simp,q h1,q h2⟩,fun c hc=>by simp at hc;lia⟩
theorem zyc {l1 l2:Addr}{xs ys:Array Value}{Q:Value->Shared->Prop}(k1:s.heap.IsTuple l1 xs)(k2:s.heap.IsTuple l2 ys)
  (h:∀g z TI TO i1 i2,ZRec z TI TO i1 i2 l1 l2->ZAt g z TI TO i1 i2 l1 l2 .none 0->(∀c∈[z,TI,TO,i1,i2],s.heap.objs.size<=c) ->
   (∀ c o, s.heap.get? c=some o->g.get? c=some o)->Q (.ref z) { s with heap:=g }):wpAny (model prog w) A (call (.type "zip") [.ref l1, .ref l2]) Q E s:=by
 have lt1:l1 < s.heap.objs.size:=by obtain⟨_,e,_⟩:=k1;exact xbm e
 have lt2:l2 < s.heap.objs.size:=by obtain⟨_,e,_⟩:=k2;exact xbm e
 refine callType_new F.called_zip (by decide) (F.typeCall_zip_2 _ _) (F.newCall_zip_2 _ _) (fun obj=>F.args_object_init_3 obj _ _) F.entry_zip_new (zbab l1 l2 xs ys) ⟨k1,k2,?_⟩;have z1:(lay1 s.heap l1).objs.size=s.heap.objs.size+1:=xiv ..
 have z2:(lay2 s.heap l1 l2).objs.size=s.heap.objs.size+2:=(xiv ..).trans (by rw[z1]);have z3:(lay3 s.heap l1 l2).objs.size=s.heap.objs.size+3:=(xiv ..).trans (by rw[z2]);have z4:(lay4 s.heap l1 l2).objs.size=s.heap.objs.size+4:=(xiv ..).trans (by rw[z3]);have g5:(lay5 s.heap l1 l2).get? (lay4 s.heap l1 l2).objs.size=some _:=xbw _ rfl;have g4:(lay5 s.heap l1 l2).get? (lay3 s.heap l1 l2).objs.size=some _:=xbd _ (xbw _ rfl);have g3:(lay5 s.heap l1 l2).get? (lay2 s.heap l1 l2).objs.size=some _:=xbd _ (xbd _ (xbw _ rfl));have g2:(lay5 s.heap l1 l2).get? (lay1 s.heap l1).objs.size=some _:=xbd _ (xbd _ (xbd _ (xbw _ rfl)));have g1:(lay5 s.heap l1 l2).get? s.heap.objs.size=some _:=xbd _ (xbd _ (xbd _ (xbd _ (xbw _ rfl))));have fin:=h (lay5 s.heap l1 l2) (lay4 s.heap l1 l2).objs.size (lay2 s.heap l1 l2).objs.size (lay3 s.heap l1 l2).objs.size s.heap.objs.size (lay1 s.heap l1).objs.size
  (by rw[z4,z3,z2,z1];exact(zsr lt1 lt2).1) ⟨g5,g3,⟨_,_,g4⟩,⟨_,g1,rfl,rfl⟩,⟨_,g2,rfl,rfl⟩⟩
  (by rw[z4,z3,z2,z1];exact(zsr lt1 lt2).2) fun c o e=>xbd _ (xbd _ (xbd _ (xbd _ (xbd _ e))))
 exact⟨⟨_,g5,rfl⟩,fin⟩
end
section
variable {X:Cx}
noncomputable def iZip (K:Fg) (ta:TA):TI:=fun σ H R=>ta σ H fun vs H1=>∃a b,vs=[.ref a,.ref b]/\(∃xs,SqT K H1 a xs)/\(∃xs,SqT K H1 b xs)/\R (Itz K a b) H1
theorem zbkd {elts:List Expr}{k:Nat}{tpos p pos:Pos}{a b:Expr}{ta:TA}(hg:Gl X "zip")(hm:X.mg "zip"=none)(ha:PA X [a, b] ta)
  (hs:starEach [a,b] X.env=[(false,eval a X.env),(false,eval b X.env)]:=by rfl)(hs2:starEach [b] X.env=[(false,eval b X.env)]:=by rfl) :
  PI X (.Tuple elts k tpos) (.Call (.Name "zip" p) [a, b] [] pos) (iZip X.K ta):=by
 intro aU s σ H R I h;refine Call_ (zoq I hg hm PyProof.Rows.boot_zip (xfi (thn (ha pos aU s σ H _ I h) fun us s1 ⟨vs,H1,I1,r1,q1⟩=>?_) (by rw[hs,hs2]) (by rw[hs2];rfl)));obtain⟨a,b,e,⟨xs,hx⟩,⟨ys,hy⟩,q⟩:=q1;subst e;obtain⟨u1,u2,rfl,e1,e2⟩:=vals2 r1;cases e1;cases e2;obtain⟨its1,rv1,p1,hz1⟩:=I1.tuple hx;obtain⟨its2,rv2,p2,hz2⟩:=I1.tuple hy;refine zyc (show s1.heap.IsTuple a its1.toArray from p1) (show s1.heap.IsTuple b its2.toArray from p2) fun g z TI TO i1 i2 R Z low kp=>?_
 refine wpAny_pyIter_zip Z.zip ?_;exact⟨z,[z,TI,TO,i1,i2],_,_,H1,rfl,I1.kept (t':=s1.toks) kp,zbag R,Z,fun c hc=>I1.fpOk (low c hc) (I1.hok.fresh (low c hc)),q⟩
end
end L2
namespace Dd
open PySem L2
set_option genInjectivity true in
inductive D where
 | non | bl (b:Bool) | int (i:Int) | str (x:Str) | ty (n:String) | ref (n:Nat) | tup (ds:List D) | lst (ds:List D) | scr (ds:List D) | exn (c:Str) (l:List Int)
set_option genInjectivity true in
inductive O where
 /-- a list that may change;a dict by tuples of ints;one that is only read;gone -/
 | lst (xs:List D) | dT (kvs:List (List Int×D)) | fT (kvs:List (List Int×D)) | dead
 /-- a dict by ints -/
 | dI (kvs:List (Int×D))
 /-- the law's table of codes -/
 | tab
noncomputable abbrev Store:=List O
structure Exc where
 cls:Str
 at_:List Int
set_option genInjectivity true in
inductive Res (α:Type) where
 | ok (a:α) (st:Store) | exc (x:Exc) (st:Store) | stuck
noncomputable def Res.bind {α β:Type}:Res α->(α->Store->Res β)->Res β
 | .ok a st,f=>f a st
 | .exc x st,_=>.exc x st
 | .stuck,_=>.stuck
@[simp] theorem zgq {α β:Type} (a:α) (st:Store) (f:α->Store->Res β):(Res.ok a st).bind f=f a st:=rfl
@[simp] theorem zbmx {α β:Type} (x:Exc) (st:Store) (f:α->Store->Res β):(Res.exc x st:Res α).bind f=.exc x st:=rfl
@[simp] theorem zbim {α β:Type} (f:α->Store->Res β):(Res.stuck:Res α).bind f=.stuck:=rfl
theorem zc {α β:Type}{r:Res α}{f:α->Store->Res β}{b:β}{st':Store}(h:r.bind f=.ok b st'):∃a st,r=.ok a st/\f a st=.ok b st':=by
 cases r with
 | ok a st=>exact⟨a,st,rfl,h⟩
 | exc x st=>cases h
 | stuck=>cases h
noncomputable abbrev DS:=List (Option D)
noncomputable abbrev SE:=DS->Store->Res D
noncomputable abbrev ST:=DS->Store->Res Bool
noncomputable abbrev SA:=DS->Store->Res (List D)
set_option genInjectivity true in
inductive Fl where
 | nx (σ:DS) | ret (v:D) | brk (σ:DS) | ct (σ:DS)
noncomputable abbrev SS:=DS->Store->Res Fl
noncomputable abbrev DFn:=List D->Store->Res D
structure Loc where
 m:List (Option Addr)
 g:List Addr
noncomputable def Out (ρ:Loc) (a:Addr):Prop:=some a∉ρ.m/\a∉ρ.g
noncomputable def Ls (K:Fg) (ρ:Loc) (H:Hp) (a:Addr) (vs:List V):Prop:=(Rd H a (.lst vs)/\Out ρ a)\/∀H':Hp,SqL K H' a vs
noncomputable def XAt (K:Fg) (ρ:Loc) (H:Hp) (c:Str) (l:List Int) (a:Addr):Prop:=∃C o,W.nsIn K mainGlobals c=some (some (.ref C))/\(H a=some (.frz o (.ext fun _=>True))/\Out ρ a)/\o.cls=.ref C/\(∃vs,o.data=.fields vs/\vs[2]?=some .none) /\
 ((l=[]/\o.dict=none)\/∃ i dx od, l=[i]/\o.dict=some dx/\H dx=some (.frz od (.xd [("at", .int i)]))/\Out ρ dx)
theorem XAt.map {K:Fg}{ρ ρ':Loc}{H H':Hp}{c:Str}{l:List Int}{a:Addr}(h:XAt K ρ H c l a)(f:∀b ob u,H b=some (.frz ob u)->Out ρ b->H' b=some (.frz ob u)/\Out ρ' b):XAt K ρ' H' c l a:=by
 obtain⟨C,o,h1,h2,h3,h4,h5⟩:=h;refine⟨C,o,h1,f _ _ _ h2.1 h2.2,h3,h4,?_⟩;rcases h5 with h5 | ⟨i,dx,od,h6,h7,h8,h9⟩
 ·exact .inl h5
 ·exact .inr ⟨i,dx,od,h6,h7,(f _ _ _ h8 h9).1,(f _ _ _ h8 h9).2⟩
mutual
inductive At (K:Fg) (ρ:Loc) (H:Hp):D->V->Prop
 | non:At K ρ H .non .non
 | bl (b:Bool):At K ρ H (.bl b) (.bl b)
 | int (i:Int):At K ρ H (.int i) (.int i)
 | str (x:Str):At K ρ H (.str x) (.str x)
 | ty (n:String):At K ρ H (.ty n) (.ty n)
 | ref {n:Nat} {v:V}:n < ρ.m.length->(∀a,ρ.m[n]?=some (some a)->v=.ref a)->At K ρ H (.ref n) v
 | tup {a:Addr} {ds:List D} {vs:List V}:H a=some (.tup vs)->Out ρ a->AtAll K ρ H ds vs->At K ρ H (.tup ds) (.ref a)
 | lst {a:Addr} {ds:List D} {vs:List V}:H a=some (.lst vs)->Out ρ a->AtAll K ρ H ds vs->At K ρ H (.lst ds) (.ref a)
 | scr {a:Addr} {ds:List D} {vs:List V}:Ls K ρ H a vs->AtAll K ρ H ds vs->At K ρ H (.scr ds) (.ref a)
 | exn {c:Str} {l:List Int} {a:Addr}:XAt K ρ H c l a->At K ρ H (.exn c l) (.ref a)
inductive AtAll (K:Fg) (ρ:Loc) (H:Hp):List D->List V->Prop
 | nil:AtAll K ρ H [] []
 | cons {d:D} {ds:List D} {v:V} {vs:List V}:At K ρ H d v->AtAll K ρ H ds vs->AtAll K ρ H (d::ds) (v::vs)
end
structure Mv (ρ:Loc) (H:Hp) (ρ':Loc) (H':Hp):Prop where
 out:∀{a:Addr} {o:HO},H a=some o->Out ρ a->H' a=some o/\Out ρ' a
 len:ρ.m.length<=ρ'.m.length
 old:∀(n:Nat) (a:Addr),n < ρ.m.length->ρ'.m[n]?=some (some a)->ρ.m[n]?=some (some a)
theorem Ls.mv {K:Fg}{ρ ρ':Loc}{H H':Hp}{a:Addr}{vs:List V}(x:Mv ρ H ρ' H')(h:Ls K ρ H a vs):Ls K ρ' H' a vs:=by
 rcases h with⟨h | ⟨o,h⟩,n⟩ | h
 ·exact .inl ⟨.inl (x.out h n).1,(x.out h n).2⟩
 ·exact .inl ⟨.inr ⟨o,(x.out h n).1⟩,(x.out h n).2⟩
 ·exact .inr h
theorem At.mv {K:Fg}{ρ ρ':Loc}{H H':Hp}(x:Mv ρ H ρ' H'){d:D}{v:V}(h:At K ρ H d v):At K ρ' H' d v :=
 At.rec (motive_1:=fun d v _=>At K ρ' H' d v) (motive_2:=fun d v _=>AtAll K ρ' H' d v) .non .bl .int .str .ty (fun h e=>.ref (xbg h x.len) fun a q=>e a (x.old _ a h q)) (fun h n _ ih=>.tup (x.out h n).1 (x.out h n).2 ih) (fun h n _ ih=>.lst (x.out h n).1 (x.out h n).2 ih) (fun h _ ih=>.scr (h.mv x) ih) (fun h=>.exn (h.map fun _ _ _ e n=>x.out e n)) .nil (fun _ _ a b=>.cons a b) h
theorem AtAll.mv {K:Fg}{ρ ρ':Loc}{H H':Hp}(x:Mv ρ H ρ' H'){d:List D}{v:List V}(h:AtAll K ρ H d v):AtAll K ρ' H' d v :=
 AtAll.rec (motive_1:=fun _ _ _=>True) (motive_2:=fun d v _=>AtAll K ρ' H' d v) trivial (fun _=>trivial) (fun _=>trivial) (fun _=>trivial) (fun _=>trivial) (fun _ _=>trivial) (fun _ _ _ _=>trivial) (fun _ _ _ _=>trivial) (fun _ _ _=>trivial) (fun _=>trivial) .nil (fun a _ _ b=>.cons (a.mv x) b) h
structure Ext (ρ:Loc) (H:Hp) (ρ':Loc) (H':Hp):Prop where
 len:ρ.m.length<=ρ'.m.length
 old:∀(n:Nat) (a:Addr),n < ρ.m.length->ρ'.m[n]?=some (some a)->ρ.m[n]?=some (some a)
 keep:∀a o,H a=some o->some a∉ρ.m->H' a=some o/\some a∉ρ'.m
 gho:ρ'.g=ρ.g
 frz:∀a ob u,H a=some (.frz ob u)->H' a=some (.frz ob u)
theorem Ext.out {ρ ρ':Loc}{H H':Hp}(x:Ext ρ H ρ' H'){a:Addr}{o:HO}(h:H a=some o)(n:Out ρ a):H' a=some o/\Out ρ' a :=
 ⟨(x.keep a o h n.1).1,(x.keep a o h n.1).2,by rw[x.gho];exact n.2⟩
theorem Ext.mv {ρ ρ':Loc}{H H':Hp}(x:Ext ρ H ρ' H'):Mv ρ H ρ' H':=⟨fun h n=>x.out h n,x.len,x.old⟩
theorem Ls.sq {K:Fg}{ρ:Loc}{H:Hp}{a:Addr}{vs:List V}(h:Ls K ρ H a vs):SqL K H a vs:=by
 rcases h with h | h
 ·exact .inl h.1
 ·exact h H
section
variable {K:Fg}
theorem Ext.refl (ρ:Loc)(H:Hp):Ext ρ H ρ H:=⟨xbe _,fun _ _ _ e=>e,fun _ _ e n=>⟨e,n⟩,rfl,fun _ _ _ e=>e⟩
theorem Ext.trans {ρ ρ1 ρ2:Loc}{H H1 H2:Hp}(a:Ext ρ H ρ1 H1)(b:Ext ρ1 H1 ρ2 H2):Ext ρ H ρ2 H2 :=
 ⟨xbb a.len b.len,fun n c h e=>a.old n c h (b.old n c (xbg h a.len) e),fun c o e n=>by
  obtain⟨e1,n1⟩:=a.keep c o e n
  exact b.keep c o e1 n1,b.gho.trans a.gho,fun c ob u e=>b.frz c ob u (a.frz c ob u e)⟩
theorem At.ext {ρ ρ':Loc}{H H':Hp}(x:Ext ρ H ρ' H'){d:D}{v:V}(h:At K ρ H d v):At K ρ' H' d v:=h.mv x.mv
theorem AtAll.ext {ρ ρ':Loc}{H H':Hp}(x:Ext ρ H ρ' H'){d:List D}{v:List V}(h:AtAll K ρ H d v):AtAll K ρ' H' d v:=h.mv x.mv
theorem AtAll.length {ρ:Loc}{H:Hp}:∀{ds:List D} {vs:List V},AtAll K ρ H ds vs->vs.length=ds.length
 | _,_,.nil=>rfl
 | _,_,.cons _ t=>by rw[xcb,xcb,AtAll.length t]
theorem AtAll.get {ρ:Loc}{H:Hp}:∀{ds:List D} {vs:List V} {i:Nat} {d:D},AtAll K ρ H ds vs->ds[i]?=some d->∃v,vs[i]?=some v/\At K ρ H d v
 | _,_,_,_,.nil,e=>by simp at e
 | _,_,0,_,.cons a _,e=>by simp at e;subst e;exact⟨_,rfl,a⟩
 | _,_,i+1,d,.cons _ t,e=>by
  obtain⟨u,h1,h2⟩:=AtAll.get (i:=i) (d:=d) t (by simpa using e);exact⟨u,by simpa using h1,h2⟩
theorem AtAll.append {ρ:Loc}{H:Hp}:∀{ds es:List D} {vs us:List V},AtAll K ρ H ds vs->AtAll K ρ H es us->AtAll K ρ H (ds++es) (vs++us)
 | _,_,_,_,.nil,b=>b
 | _,_,_,_,.cons a t,b=>.cons a (AtAll.append t b)
theorem AtAll.take {ρ:Loc}{H:Hp}:∀{ds:List D} {vs:List V} (n:Nat),AtAll K ρ H ds vs->AtAll K ρ H (ds.take n) (vs.take n)
 | _,_,0,_=>.nil
 | _,_,_+1,.nil=>.nil
 | _,_,n+1,.cons a t=>.cons a (AtAll.take n t)
theorem AtAll.drop {ρ:Loc}{H:Hp}:∀{ds:List D} {vs:List V} (n:Nat),AtAll K ρ H ds vs->AtAll K ρ H (ds.drop n) (vs.drop n)
 | _,_,0,h=>h
 | _,_,_+1,.nil=>.nil
 | _,_,n+1,.cons a t=>AtAll.drop n t
theorem AtAll.set {ρ:Loc}{H:Hp}{d:D}{v:V}(a:At K ρ H d v):∀{ds:List D} {vs:List V} (n:Nat),AtAll K ρ H ds vs->AtAll K ρ H (ds.set n d) (vs.set n v)
 | _,_,_,.nil=>.nil
 | _,_,0,.cons _ t=>.cons a t
 | _,_,n+1,.cons b t=>.cons b (AtAll.set a n t)
noncomputable def KvAt (K:Fg) (ρ:Loc) (H:Hp):List (List Int×D)->List (List Key×V)->Prop:=Paired fun p q=>q.1=p.1.map Sum.inl/\At K ρ H p.2 q.2
theorem KvAt.ext {ρ ρ':Loc}{H H':Hp}(x:Ext ρ H ρ' H'){a:List (List Int×D)}{b:List (List Key×V)}(h:KvAt K ρ H a b):KvAt K ρ' H' a b:=Paired.mapP h fun p q z=>⟨z.1,z.2.ext x⟩
noncomputable abbrev lamQ:Str:=(("law" : Str)++".<locals>.")++"<lambda>"
noncomputable def TabOk (H:Hp) (ps:Array Value):Prop:=TriplesOk ps.toList/\∀pos cv,codeAmong pos ps.toList=some cv->∃c oc vs t,cv=.ref c/\H c=some (.frz oc (.ext fun _=>True))/\oc.data=.fields vs/\vs[1]?=some (.str lamQ t)
theorem TabOk.map {H H':Hp}{ps:Array Value}(h:TabOk H ps)(f:∀b ob u,H b=some (.frz ob u)->H' b=some (.frz ob u)):TabOk H' ps :=
 ⟨h.1,fun pos cv e=>by obtain⟨c,oc,vs,t,e1,e2,e3⟩:=h.2 pos cv e;exact⟨c,oc,vs,t,e1,f _ _ _ e2,e3⟩⟩
noncomputable def KiAt (K:Fg) (ρ:Loc) (H:Hp):List (Int×D)->List (Key×V)->Prop:=Paired fun p q=>q.1=Sum.inl p.1/\At K ρ H p.2 q.2
theorem KiAt.ext {K:Fg}{ρ ρ':Loc}{H H':Hp}(x:Ext ρ H ρ' H'){a:List (Int×D)}{b:List (Key×V)}(h:KiAt K ρ H a b):KiAt K ρ' H' a b:=Paired.mapP h fun p q z=>⟨z.1,z.2.ext x⟩
noncomputable def OAt (K:Fg) (ρ:Loc) (H:Hp):O->Addr->Prop
 | .lst xs,a=>∃vs,H a=some (.lst vs)/\AtAll K ρ H xs vs
 | .dT kvs,a=>∃vs,H a=some (.dT vs)/\KvAt K ρ H kvs vs
 | .fT kvs,a=>∃vs ob,H a=some (.frz ob (.dT vs))/\KvAt K ρ H kvs vs
 | .dI kvs,a=>∃vs,H a=some (.dK vs)/\KiAt K ρ H kvs vs
 | .dead,_=>False
 | .tab, a=>(∃ c, W.tabIn K "law"=some (c, a))/\∃ ps, H a=some (.tbl ps)/\TabOk H ps
structure Rep (K:Fg) (ρ:Loc) (st:Store) (H:Hp):Prop where
 len:ρ.m.length=st.length
 inj:∀(n m:Nat) (a:Addr),ρ.m[n]?=some (some a)->ρ.m[m]?=some (some a)->n=m
 obj:∀(n:Nat) (a:Addr) (o:O),ρ.m[n]?=some (some a)->st[n]?=some o->OAt K ρ H o a
 gh:∀a∈ρ.g,(∃vs,H a=some (.lst vs))/\some a∉ρ.m
 live:∀(n:Nat) (o:O),st[n]?=some o->o≠.dead->∃a,ρ.m[n]?=some (some a)
noncomputable def AtO (K:Fg) (ρ:Loc) (H:Hp) (o:Option D) (v:Option V):Prop:=∀d,o=some d->∃u,v=some u/\At K ρ H d u
noncomputable abbrev AtS (K:Fg) (ρ:Loc) (H:Hp):DS->St->Prop:=Paired (AtO K ρ H)
theorem AtS.ext {ρ ρ':Loc}{H H':Hp}(x:Ext ρ H ρ' H'){σ:DS}{τ:St}(h:AtS K ρ H σ τ):AtS K ρ' H' σ τ:=Paired.mapP h fun o v z d e=>by
 obtain⟨u,e1,a⟩:=z d e;exact⟨u,e1,a.ext x⟩
theorem AtS.get {ρ:Loc}{H:Hp}:∀{σ:DS} {τ:St} {i:Nat} {d:D},AtS K ρ H σ τ->σ[i]?=some (some d)->∃u,τ[i]?=some (some u)/\At K ρ H d u
 | _,_,_,_,.nil,e=>by simp at e
 | _,_,0,_,.cons a _,e=>by
  simp at e;subst e
  obtain⟨u,e1,h⟩:=a _ rfl;exact⟨u,by simp[e1],h⟩
 | _,_,i+1,d,.cons _ t,e=>by
  obtain⟨u,h1,h2⟩:=AtS.get (i:=i) (d:=d) t (by simpa using e);exact⟨u,by simpa using h1,h2⟩
theorem AtS.set {ρ:Loc}{H:Hp}{d:D}{v:V}(a:At K ρ H d v):∀{σ:DS} {τ:St} (i:Nat),AtS K ρ H σ τ->AtS K ρ H (σ.set i (some d)) (τ.set i (some v))
 | _,_,_,.nil=>.nil
 | _,_,0,.cons _ t=>.cons (fun d' e=>by cases e;exact⟨v,rfl,a⟩) t
 | _,_,i+1,.cons q t=>.cons q (AtS.set a i t)
end
noncomputable def tD (K:Fg) (f:SE):TE:=fun τ H Q=>∃ρ σ st v st',AtS K ρ H σ τ/\Rep K ρ st H/\f σ st=.ok v st'/\∀ρ' H' u,Ext ρ H ρ' H'->Rep K ρ' st' H'->At K ρ' H' v u->Q u H'
noncomputable def tDT (K:Fg) (f:ST):TT:=fun τ H Q=>∃ρ σ st v st',AtS K ρ H σ τ/\Rep K ρ st H/\f σ st=.ok v st'/\∀ρ' H',Ext ρ H ρ' H'->Rep K ρ' st' H'->Q v H'
noncomputable def tDA (K:Fg) (f:SA):TA:=fun τ H Q=>∃ρ σ st v st',AtS K ρ H σ τ/\Rep K ρ st H/\f σ st=.ok v st'/\∀ρ' H' u,Ext ρ H ρ' H'->Rep K ρ' st' H'->AtAll K ρ' H' v u->Q u H'
noncomputable def FlOk (K:Fg) (ρ:Loc) (H:Hp) (st':Store) (E:Ends):Fl->Prop
 | .nx σ=>∀ρ' H' τ,Ext ρ H ρ' H'->Rep K ρ' st' H'->AtS K ρ' H' σ τ->E.nx τ H'
 | .brk σ=>∀ρ' H' τ,Ext ρ H ρ' H'->Rep K ρ' st' H'->AtS K ρ' H' σ τ->E.bk τ H'
 | .ct σ=>∀ρ' H' τ,Ext ρ H ρ' H'->Rep K ρ' st' H'->AtS K ρ' H' σ τ->E.ct τ H'
 | .ret v=>∀ρ' H' u,Ext ρ H ρ' H'->Rep K ρ' st' H'->At K ρ' H' v u->E.rt u H'
theorem FlOk.ext {K:Fg}{ρ ρ1:Loc}{H H1:Hp}{st':Store}{E:Ends}{fl:Fl}(x:Ext ρ H ρ1 H1)(h:FlOk K ρ H st' E fl):FlOk K ρ1 H1 st' E fl:=by
 cases fl with
 | nx σ=>exact fun ρ' H' τ e=>h ρ' H' τ (x.trans e)
 | brk σ=>exact fun ρ' H' τ e=>h ρ' H' τ (x.trans e)
 | ct σ=>exact fun ρ' H' τ e=>h ρ' H' τ (x.trans e)
 | ret v=>exact fun ρ' H' τ e=>h ρ' H' τ (x.trans e)
noncomputable def tDS (K:Fg) (f:SS):TS:=fun E τ H=>∃ρ σ st fl st',AtS K ρ H σ τ/\Rep K ρ st H/\f σ st=.ok fl st'/\FlOk K ρ H st' E fl
noncomputable abbrev DE (X:Cx) (e:Expr) (f:SE):Prop:=PE X e (tD X.K f)
noncomputable abbrev DT (X:Cx) (e:Expr) (f:ST):Prop:=PT X e (tDT X.K f)
noncomputable abbrev DW (X:Cx) (e:Expr) (f:ST):Prop:=PW X e (tDT X.K f)
noncomputable abbrev DA (X:Cx) (es:List Expr) (f:SA):Prop:=PA X es (tDA X.K f)
noncomputable abbrev DSt (X:Cx) (s:Stmt) (f:SS):Prop:=PS X s (tDS X.K f)
noncomputable abbrev DSs (X:Cx) (s:List Stmt) (f:SS):Prop:=PSs X s (tDS X.K f)
section
variable {X:Cx}{e:Expr}{es:List Expr}{s:Stmt}{ss:List Stmt}
theorem zha {t t':TE}(h:PE X e t)(k:∀σ H Q,t' σ H Q->t σ H Q):PE X e t':=fun aU s σ H Q I q=>h aU s σ H Q I (k _ _ _ q)
theorem zbix {t t':TT}(h:PT X e t)(k:∀σ H Q,t' σ H Q->t σ H Q):PT X e t':=fun aU s σ H Q I q=>h aU s σ H Q I (k _ _ _ q)
theorem pw_to {t t':TT}(h:PW X e t)(k:∀σ H Q,t' σ H Q->t σ H Q):PW X e t':=fun wh aU s σ H Q I q=>h wh aU s σ H Q I (k _ _ _ q)
theorem zbnw {t t':TA}(h:PA X es t)(k:∀σ H Q,t' σ H Q->t σ H Q):PA X es t':=fun pos aU s σ H Q I q=>h pos aU s σ H Q I (k _ _ _ q)
theorem zrw {t t':TS}(h:PS X s t)(k:∀E σ H,t' E σ H->t E σ H):PS X s t':=fun aU z σ H E I q=>h aU z σ H E I (k _ _ _ q)
theorem zbet {t t':TS}(h:PSs X ss t)(k:∀E σ H,t' E σ H->t E σ H):PSs X ss t':=fun aU z σ H E I q=>h aU z σ H E I (k _ _ _ q)
end
noncomputable def aA (i:Nat):SE:=fun σ st=>match σ[i]? with
 | some (some d)=>.ok d st
 | _=>.stuck
noncomputable def eC (d:D):SE:=fun _ st=>.ok d st
section
variable {X:Cx}
theorem zbps {e:Expr}{i:Nat}(h:PE X e (tVar i)):DE X e (aA i):=zha h fun τ H Q hq0=>by
 obtain⟨ρ,σ,st,v,st',a,r,e,q⟩:=hq0;unfold aA at e;split at e
 ·rename_i d hd;cases e;obtain⟨u,e1,e2⟩:=a.get hd;exact⟨u,e1,q ρ H u (.refl _ _) r e2⟩
 ·cases e
theorem zbmp {e:Expr}{v:V}{d:D}(h:PE X e (tC v))(k:∀ρ H,At X.K ρ H d v):DE X e (eC d):=zha h fun τ H Q hq0=>by
 obtain⟨ρ,σ,st,v,st',a,r,e,q⟩:=hq0;cases e;exact q ρ H _ (.refl _ _) r (k _ _)
theorem zbpy {i j pos}:DE X (.Constant (.int i) j pos) (eC (.int i)):=zbmp zbkl fun _ _=>.int i
theorem d_bl {b j pos}:DE X (.Constant (.bool b) j pos) (eC (.bl b)):=zbmp zbox fun _ _=>.bl b
end
noncomputable def aS (g:D->D->Store->Res D) (f f':SE):SE:=fun σ st=>(f σ st).bind fun x st1=>(f' σ st1).bind fun y st2=>g x y st2
noncomputable def eUn (g:D->Store->Res D) (f:SE):SE:=fun σ st=>(f σ st).bind fun x st1=>g x st1
noncomputable def OpD (K:Fg) (g:D->D->Store->Res D) (r:R2):Prop :=
 ∀ρ H st x y u v z st' (Q:VK),Rep K ρ st H->At K ρ H x u->At K ρ H y v->g x y st=.ok z st'->(∀ρ' H' w,Ext ρ H ρ' H'->Rep K ρ' st' H'->At K ρ' H' z w->Q w H')->r u v H Q
theorem zbiy {K:Fg}{g:D->D->Store->Res D}{r:R2}(hr:OpD K g r){f f':SE}:∀τ H Q,tD K (aS g f f') τ H Q->tOp r (tD K f) (tD K f') τ H Q:=fun τ H Q hq0=>by
 obtain⟨ρ,σ,st,v,st',a,rp,e,q⟩:=hq0;obtain⟨x,st1,e1,e⟩:=zc e;obtain⟨y,st2,e2,e⟩:=zc e;refine⟨ρ,σ,st,x,st1,a,rp,e1,fun ρ1 H1 u x1 rp1 a1=>?_⟩;refine⟨ρ1,σ,st1,y,st2,a.ext x1,rp1,e2,fun ρ2 H2 w x2 rp2 a2=>?_⟩;exact hr ρ2 H2 st2 x y u w v st' Q rp2 (a1.ext x2) a2 e fun ρ' H' z x3 rp3 a3=>q ρ' H' z (x1.trans (x2.trans x3)) rp3 a3
section
variable {X:Cx}{a b c:Expr}{f f' f'':SE}{pos:Pos}
theorem d_op {op:Operator}{r:R2}{g:D->D->Store->Res D}(ho:OpR X (binaryOp op) r)(hr:OpD X.K g r)(ha:DE X a f)(hb:DE X b f'):DE X (.BinOp a op b pos) (aS g f f'):=zha (zbov ho ha hb) (zbiy hr)
theorem zbqa {op:CmpOp}{r:R2}{g:D->D->Store->Res D}(ho:OpR X (compareOp op) r)(hr:OpD X.K g r)(ha:DE X a f)(hb:DE X b f')(hm:behindInMarks op b=false):DE X (.Compare a [op] [b] pos) (aS g f f'):=zha (zbfk ho ha hb hm) (zbiy hr)
noncomputable def eB (f:SE):ST:=fun σ st=>(f σ st).bind fun v st1=>match v with
 | .bl b=>.ok b st1
 | _=>.stuck
theorem eB_t {K:Fg}{f:SE}:∀τ H Q,tDT K (eB f) τ H Q->tD K f τ H fun x H1=>∃c,x=.bl c/\Q c H1:=fun τ H Q hq0=>by
 obtain⟨ρ,σ,st,v,st',a,rp,e,q⟩:=hq0;obtain⟨x,st1,e1,e⟩:=zc e;refine⟨ρ,σ,st,x,st1,a,rp,e1,fun ρ1 H1 u x1 rp1 a1=>?_⟩;cases x<;>try (cases e;done)
 cases e;cases a1;exact⟨_,rfl,q _ _ x1 rp1⟩
theorem zblx {op:CmpOp}{r:R2}{g:D->D->Store->Res D}(ho:OpR X (compareOp op) r)(hr:OpD X.K g r)(ha:DE X a f)(hb:DE X b f')(hm:behindInMarks op b=false):DT X (.Compare a [op] [b] pos) (eB (aS g f f')) :=
 zbix (zbes ho ha hb hm) fun τ H Q h=>zbiy hr _ _ _ (eB_t _ _ _ h)
noncomputable def eChain (g g':D->D->Store->Res D) (f f' f'':SE):SE:=fun σ st=>(f σ st).bind fun x st1=>(f' σ st1).bind fun y st2=>(g x y st2).bind fun z st3=>match z with
 | .bl true=>(f'' σ st3).bind fun w st4=>g' y w st4
 | .bl false=>.ok (.bl false) st3
 | _=>.stuck
end
end Dd
namespace Dd
open PySem L2
section
variable {K:Fg}{ρ:Loc}{st:Store}{H:Hp}{p a:Addr}{o:HO}{n:Nat}
theorem Ext.new (hp:H p=none)(o:HO):Ext ρ H ρ (upd H p o):=⟨xbe _,fun _ _ _ e=>e,fun b u e m=>⟨by rw[zy (zp e hp)];exact e,m⟩,rfl,fun b ob u e=>by rw[zy (zp e hp)];exact e⟩
theorem zex {vs:List V}(h:H a=some (.lst vs)):∀ob u,H a≠some (.frz ob u):=fun ob u z=>by rw[h] at z;cases z
theorem zks {vs:List (List Key×V)}(h:H a=some (.dT vs)):∀ob u,H a≠some (.frz ob u):=fun ob u z=>by rw[h] at z;cases z
theorem Ext.wr (h:ρ.m[n]?=some (some a))(hz:∀ob u,H a≠some (.frz ob u))(o:HO):Ext ρ H ρ (upd H a o):=⟨xbe _,fun _ _ _ e=>e,fun b u e m=>⟨by
 rw[zy]
 ·exact e
 ·rintro rfl
  exact m (xbq h),m⟩,rfl,fun b ob u e=>by
 rw[zy]
 ·exact e
 ·rintro rfl
  exact hz _ _ e⟩
theorem OAt.has {x:O}(h:OAt K ρ H x a):∃u,H a=some u:=by
 cases x with
 | lst xs=>obtain⟨vs,e,_⟩:=h;exact⟨_,e⟩
 | dT kvs=>obtain⟨vs,e,_⟩:=h;exact⟨_,e⟩
 | fT kvs=>obtain⟨vs,ob,e,_⟩:=h;exact⟨_,e⟩
 | dI kvs=>obtain⟨vs,e,_⟩:=h;exact⟨_,e⟩
 | dead=>exact h.elim
 | tab=>obtain⟨_,ps,e,_⟩:=h;exact⟨_,e⟩
theorem OAt.ext {ρ':Loc}{H':Hp}{x:O}(e:Ext ρ H ρ' H')(same:H' a=H a)(h:OAt K ρ H x a):OAt K ρ' H' x a:=by
 cases x with
 | lst xs=>obtain⟨vs,q,r⟩:=h;exact⟨vs,by rw[same];exact q,r.ext e⟩
 | dT kvs=>obtain⟨vs,q,r⟩:=h;exact⟨vs,by rw[same];exact q,r.ext e⟩
 | fT kvs=>obtain⟨vs,ob,q,r⟩:=h;exact⟨vs,ob,by rw[same];exact q,r.ext e⟩
 | dI kvs=>obtain⟨vs,q,r⟩:=h;exact⟨vs,by rw[same];exact q,r.ext e⟩
 | dead=>exact h.elim
 | tab=>obtain⟨c,ps,q,r⟩:=h;exact⟨c,ps,by rw[same];exact q,r.map e.frz⟩
theorem Rep.has (r:Rep K ρ st H)(h:ρ.m[n]?=some (some a)):∃x,st[n]?=some x/\OAt K ρ H x a:=by
 have hn:n < st.length:=by rw[← r.len];exact(xbf.mp h).1
 exact⟨st[n],xbi hn,r.obj n a _ h (xbi hn)⟩
theorem Rep.new (r:Rep K ρ st H)(hp:H p=none)(o:HO):Rep K ρ st (upd H p o):=⟨r.len,r.inj,fun m b x e1 e2=>by
 have q:=r.obj m b x e1 e2;obtain⟨u,hu⟩:=q.has;exact q.ext (Ext.new hp o) (zy (zp hu hp)),fun b hb=>by
 obtain⟨⟨u,hu⟩,n⟩:=r.gh b hb
 exact⟨⟨u,by rw[zy (zp hu hp)];exact hu⟩,n⟩,r.live⟩
theorem Rep.wr (r:Rep K ρ st H)(h:ρ.m[n]?=some (some a))(hz:∀ob u,H a≠some (.frz ob u)){x:O}{o:HO}(q:OAt K ρ (upd H a o) x a):Rep K ρ (st.set n x) (upd H a o):=⟨by rw[r.len,xft],r.inj,fun m b y e1 e2=>by
 by_cases hm:m=n
 ·subst hm;have hb:b=a:=by rw[h] at e1;exact(xcn (xcn e1)).symm
  subst hb;have hl:m < st.length:=by rw[← r.len];exact(xbf.mp h).1
  rw[xec hl] at e2;cases e2;exact q
 ·rw[xdm (xcs hm)] at e2;refine(r.obj m b y e1 e2).ext (Ext.wr h hz o) (zy fun z=>hm ?_);subst z;exact r.inj m n b e1 h,fun b hb=>by
 obtain⟨⟨u,hu⟩,n1⟩:=r.gh b hb;refine⟨⟨u,?_⟩,n1⟩;rw[zy]
 ·exact hu
 ·rintro rfl;exact n1 (xbq h),fun m y e ne=>by
 by_cases hm:m=n
 ·subst hm;exact⟨a,h⟩
 ·rw[xdm (xcs hm)] at e
  exact r.live m y e ne⟩
theorem Rep.alloc (r:Rep K ρ st H)(hp:H p=none){x:O}{o:HO}(q:Ext ρ H ⟨ρ.m++[some p],ρ.g⟩ (upd H p o)->OAt K ⟨ρ.m++[some p],ρ.g⟩ (upd H p o) x p):Ext ρ H ⟨ρ.m++[some p],ρ.g⟩ (upd H p o)/\Rep K ⟨ρ.m++[some p],ρ.g⟩ (st++[x]) (upd H p o):=by
 have hn:∀(m:Nat) (b:Addr),(ρ.m++[some p])[m]?=some (some b)->(m < ρ.m.length/\ρ.m[m]?=some (some b))\/(m=ρ.m.length/\b=p):=fun m b e=>by
  rcases xes m ρ.m.length with z | z
  ·rw[xbz z] at e;exact .inl ⟨z,e⟩
  ·rw[xco z] at e;have z2:m - ρ.m.length=0:=by
    have:=(xbf.mp e).1;simp at this;lia
   rw[z2] at e;simp at e;exact .inr ⟨by lia,e.symm⟩
 have nl:∀(m:Nat),ρ.m[m]?≠some (some p):=fun m e=>by
  obtain⟨x,_,q⟩:=r.has e;obtain⟨u,hu⟩:=q.has;rw[hp] at hu;cases hu
 have E:Ext ρ H ⟨ρ.m++[some p],ρ.g⟩ (upd H p o):=⟨by rw[xbl];lia,fun m b h e=>by
   rw[xbz h] at e;exact e,fun b u e m=>⟨by rw[zy (zp e hp)];exact e,fun z=>by
   rcases xca.mp z with z | z
   ·exact m z
   ·simp at z;subst z;rw[hp] at e;cases e⟩,rfl,fun b ob u e=>by rw[zy (zp e hp)];exact e⟩
 refine⟨E,⟨by rw[xbl,xbl,r.len];rfl,fun m k b e1 e2=>?_,fun m b y e1 e2=>?_,fun b hb=>?_,fun m y e ne=>?_⟩⟩
 ·rcases hn m b e1 with⟨h1,q1⟩ | ⟨h1,rfl⟩
  ·rcases hn k b e2 with⟨h2,q2⟩ | ⟨h2,rfl⟩
   ·exact r.inj m k b q1 q2
   ·exact absurd q1 (nl m)
  ·rcases hn k b e2 with⟨h2,q2⟩ | ⟨h2,_⟩
   ·exact absurd q2 (nl k)
   ·lia
 ·rcases hn m b e1 with⟨h1,q1⟩ | ⟨h1,rfl⟩
  ·rw[xbz (by rw[← r.len];exact h1)] at e2;have q:=r.obj m b y q1 e2;obtain⟨u,hu⟩:=q.has;exact q.ext E (zy (zp hu hp))
  ·rw[h1,r.len,xco (xbe _)] at e2;simp at e2;subst e2;exact q E
 ·obtain⟨⟨u,hu⟩,n1⟩:=r.gh b hb;refine⟨⟨u,by rw[zy (zp hu hp)];exact hu⟩,fun z=>?_⟩;rcases xca.mp z with z | z
  ·exact n1 z
  ·simp at z;subst z;rw[hp] at hu;cases hu
 ·rcases xes m st.length with z | z
  ·rw[xbz z] at e;obtain⟨b,hb⟩:=r.live m y e ne;exact⟨b,by rw[xbz (by rw[r.len];exact z)];exact hb⟩
  ·have z2:=(xbf.mp e).1;simp at z2;have z3:m=ρ.m.length:=by rw[r.len];lia
   exact⟨p,by rw[z3,xco (xbe _)];simp⟩
theorem Rep.kill (r:Rep K ρ st H)(h:n < ρ.m.length):Ext ρ H ⟨ρ.m.set n none,ρ.g⟩ H/\Rep K ⟨ρ.m.set n none,ρ.g⟩ (st.set n .dead) H:=by
 have hn:∀(m:Nat) (b:Addr),(ρ.m.set n none)[m]?=some (some b)->m≠n/\ρ.m[m]?=some (some b):=fun m b e=>by
  by_cases z:m=n
  ·subst z;rw[xec h] at e;simp at e
  ·rw[xdm (xcs z)] at e;exact⟨z,e⟩
 have E:Ext ρ H ⟨ρ.m.set n none,ρ.g⟩ H:=⟨by rw[xft];exact xbe _,fun m b _ e=>(hn m b e).2,fun b o e m=>⟨e,fun z=>by
  obtain⟨i,hi,e2⟩:=xep z;have:(ρ.m.set n none)[i]?=some (some b):=by rw[xbi hi,e2]
  exact m (xbq (hn i b this).2)⟩,rfl,fun _ _ _ e=>e⟩
 refine⟨E,⟨by rw[xft,xft,r.len],fun m k b e1 e2=>r.inj m k b (hn m b e1).2 (hn k b e2).2,fun m b y e1 e2=>?_,fun b hb=>⟨(r.gh b hb).1,fun z=>?_⟩,fun m y e ne=>?_⟩⟩
 rotate_left
 ·obtain⟨i,hi,e2⟩:=xep z;have:(ρ.m.set n none)[i]?=some (some b):=by rw[xbi hi,e2]
  exact(r.gh b hb).2 (xbq (hn i b this).2)
 ·have z:m≠n:=by
   rintro rfl;rw[xec (by rw[← r.len];exact h)] at e;cases e;exact ne rfl
  rw[xdm (xcs z)] at e;obtain⟨b,hb⟩:=r.live m y e ne;exact⟨b,by rw[xdm (xcs z)];exact hb⟩
 obtain⟨z,q⟩:=hn m b e1;rw[xdm (xcs z)] at e2;exact(r.obj m b y q e2).ext E rfl
theorem zlq (r:Rep K ρ st H)(hp:H p=none):Out ρ p:=by
 refine⟨fun z=>?_,fun z=>?_⟩
 ·obtain⟨i,hi,e⟩:=xep z;obtain⟨x,_,q⟩:=r.has (n:=i) (a:=p) (by rw[xbi hi,e]);obtain⟨u,hu⟩:=q.has;rw[hp] at hu;cases hu
 ·obtain⟨⟨u,hu⟩,_⟩:=r.gh p z;rw[hp] at hu;cases hu
theorem At.newT (r:Rep K ρ st H)(hp:H p=none){ds:List D}{vs:List V}(h:AtAll K ρ H ds vs):At K ρ (upd H p (.tup vs)) (.tup ds) (.ref p):=.tup zbb (zlq r hp) (h.ext (Ext.new hp _))
theorem At.newL (r:Rep K ρ st H)(hp:H p=none){ds:List D}{vs:List V}(h:AtAll K ρ H ds vs):At K ρ (upd H p (.lst vs)) (.lst ds) (.ref p):=.lst zbb (zlq r hp) (h.ext (Ext.new hp _))
end
noncomputable def eAnd (f f':SE):SE:=fun σ st=>(f σ st).bind fun v st1=>match v with
 | .bl true=>f' σ st1
 | .bl false=>.ok (.bl false) st1
 | _=>.stuck
noncomputable def eOr (f f':SE):SE:=fun σ st=>(f σ st).bind fun v st1=>match v with
 | .bl true=>.ok (.bl true) st1
 | .bl false=>f' σ st1
 | _=>.stuck
noncomputable def eNot (f:SE):SE:=fun σ st=>(f σ st).bind fun v st1=>match v with
 | .bl b=>.ok (.bl (!b)) st1
 | _=>.stuck
noncomputable def bAnd (f f':ST):ST:=fun σ st=>(f σ st).bind fun b st1=>if b=true then f' σ st1 else .ok false st1
noncomputable def bOr (f f':ST):ST:=fun σ st=>(f σ st).bind fun b st1=>if b=true then .ok true st1 else f' σ st1
noncomputable def bNot (f:ST):ST:=fun σ st=>(f σ st).bind fun b st1=>.ok (!b) st1
noncomputable def eIf (c:ST) (f f':SE):SE:=fun σ st=>(c σ st).bind fun b st1=>if b=true then f σ st1 else f' σ st1
section
variable {X:Cx}{a b:Expr}{rest:List Expr}{f f':SE}{t t':ST}{pos:Pos}
theorem zbpv {op}(h:DE X a f):DE X (.BoolOp op [a] pos) f:=zbkj h
theorem zbqb (ha:DE X a f)(hb:DE X (.BoolOp .And (b::rest) pos) f'):DE X (.BoolOp .And (a::b::rest) pos) (eAnd f f'):=zha (zbkm ha hb) fun τ H Q hq0=>by
 obtain⟨ρ,σ,st,v,st',at',rp,e,q⟩:=hq0;obtain⟨x,st1,e1,e⟩:=zc e;refine⟨ρ,σ,st,x,st1,at',rp,e1,fun ρ1 H1 u x1 rp1 a1=>?_⟩;cases x<;>try (cases e;done)
 rename_i bb;cases a1;refine⟨bb,rfl,?_⟩;cases bb with
 | true =>
  rw[if_pos rfl];exact⟨ρ1,σ,st1,v,st',at'.ext x1,rp1,e,fun ρ' H' u x2=>q ρ' H' u (x1.trans x2)⟩
 | false =>
  rw[if_neg (by decide)];cases e;exact q _ _ _ x1 rp1 (.bl false)
theorem zbpw (ha:DE X a f):DE X (.UnaryOp .Not a pos) (eNot f):=zha (zbkk ha) fun τ H Q hq0=>by
 obtain⟨ρ,σ,st,v,st',at',rp,e,q⟩:=hq0;obtain⟨x,st1,e1,e⟩:=zc e;refine⟨ρ,σ,st,x,st1,at',rp,e1,fun ρ1 H1 u x1 rp1 a1=>?_⟩;cases x<;>try (cases e;done)
 rename_i bb;cases a1;cases e;exact⟨bb,rfl,q _ _ _ x1 rp1 (.bl _)⟩
theorem zblt {op}(h:DT X a t)(hop:op=.And\/op=.Or):DW X (.BoolOp op [a] pos) t:=by
 rcases hop with rfl | rfl
 ·exact pw_and1 h
 ·exact pw_or1 h
theorem zblu (ha:DT X a t)(hb:DW X (.BoolOp .And (b::rest) pos) t'):DW X (.BoolOp .And (a::b::rest) pos) (bAnd t t'):=pw_to (pw_and ha hb) fun τ H Q hq0=>by
 obtain⟨ρ,σ,st,v,st',at',rp,e,q⟩:=hq0;obtain⟨x,st1,e1,e⟩:=zc e;refine⟨ρ,σ,st,x,st1,at',rp,e1,fun ρ1 H1 x1 rp1=>?_⟩;cases x with
 | true=>exact iteT ⟨ρ1,σ,st1,v,st',at'.ext x1,rp1,e,fun ρ' H' x2=>q ρ' H' (x1.trans x2)⟩
 | false=>cases e;exact iteF (q _ _ x1 rp1)
theorem zbpo (ha:DT X a t)(hb:DW X (.BoolOp .Or (b::rest) pos) t'):DW X (.BoolOp .Or (a::b::rest) pos) (bOr t t'):=pw_to (pw_or ha hb) fun τ H Q hq0=>by
 obtain⟨ρ,σ,st,v,st',at',rp,e,q⟩:=hq0;obtain⟨x,st1,e1,e⟩:=zc e;refine⟨ρ,σ,st,x,st1,at',rp,e1,fun ρ1 H1 x1 rp1=>?_⟩;cases x with
 | false=>exact iteF ⟨ρ1,σ,st1,v,st',at'.ext x1,rp1,e,fun ρ' H' x2=>q ρ' H' (x1.trans x2)⟩
 | true=>cases e;exact iteT (q _ _ x1 rp1)
theorem zblw (ha:DT X a t):DT X (.UnaryOp .Not a pos) (bNot t):=zbix (zbjw ha) fun τ H Q hq0=>by
 obtain⟨ρ,σ,st,v,st',at',rp,e,q⟩:=hq0;obtain⟨x,st1,e1,e⟩:=zc e;cases e;exact⟨ρ,σ,st,x,_,at',rp,e1,fun ρ1 H1 x1 rp1=>q _ _ x1 rp1⟩
theorem d_if {c:Expr}(hc:DT X c t)(ha:DE X a f)(hb:DE X b f'):DE X (.IfExp c a b pos) (eIf t f f'):=zha (zbba hc ha hb) fun τ H Q hq0=>by
 obtain⟨ρ,σ,st,v,st',at',rp,e,q⟩:=hq0;obtain⟨x,st1,e1,e⟩:=zc e;refine⟨ρ,σ,st,x,st1,at',rp,e1,fun ρ1 H1 x1 rp1=>?_⟩;cases x with
 | true=>exact iteT ⟨ρ1,σ,st1,v,st',at'.ext x1,rp1,e,fun ρ' H' u x2=>q ρ' H' u (x1.trans x2)⟩
 | false=>exact iteF ⟨ρ1,σ,st1,v,st',at'.ext x1,rp1,e,fun ρ' H' u x2=>q ρ' H' u (x1.trans x2)⟩
end
noncomputable def aC:SA:=fun _ st=>.ok [] st
noncomputable def aB (f:SE) (g:SA):SA:=fun σ st=>(f σ st).bind fun x st1=>(g σ st1).bind fun xs st2=>.ok (x::xs) st2
noncomputable def aR (g:SA):SE:=fun σ st=>(g σ st).bind fun xs st1=>if xs.length<=sizeLine then .ok (.tup xs) st1 else .stuck
noncomputable def eLst (g:SA):SE:=fun σ st=>(g σ st).bind fun xs st1=>if xs.length<=sizeLine then .ok (.lst xs) st1 else .stuck
noncomputable def eLstM (g:SA):SE:=fun σ st=>(g σ st).bind fun xs st1=>if xs.length<=sizeLine then .ok (.ref st1.length) (st1++[.lst xs]) else .stuck
section
variable {X:Cx}{e:Expr}{es:List Expr}{f:SE}{g:SA}{pos:Pos}
theorem zbmi:DA X [] aC:=zbnw zbko fun τ H Q hq0=>by
 obtain⟨ρ,σ,st,v,st',a,rp,e,q⟩:=hq0;cases e;exact q _ _ _ (.refl _ _) rp .nil
theorem zbhq (ha:DE X e f)(hr:DA X es g)(hs:starEach (e::es) X.env=(false,eval e X.env)::starEach es X.env:=by rfl):DA X (e::es) (aB f g):=zbnw (zbfo ha hr hs) fun τ H Q hq0=>by
 obtain⟨ρ,σ,st,v,st',a,rp,e,q⟩:=hq0;obtain⟨x,st1,e1,e⟩:=zc e;obtain⟨y,st2,e2,e⟩:=zc e;cases e;refine⟨ρ,σ,st,x,st1,a,rp,e1,fun ρ1 H1 u x1 rp1 a1=>?_⟩;exact⟨ρ1,σ,st1,y,_,a.ext x1,rp1,e2,fun ρ2 H2 w x2 rp2 a2=>q _ _ _ (x1.trans x2) rp2 (.cons (a1.ext x2) a2)⟩
theorem zbpt {x1}(h:DA X es g):DE X (.Tuple es x1 pos) (aR g):=zha (zbki h) fun τ H Q hq0=>by
 obtain⟨ρ,σ,st,v,st',a,rp,e,q⟩:=hq0;obtain⟨x,st1,e1,e⟩:=zc e;split at e
 ·rename_i hl;cases e;refine⟨ρ,σ,st,x,_,a,rp,e1,fun ρ1 H1 u x1 rp1 a1=>⟨by rw[a1.length];exact hl,fun p hp=>?_⟩⟩;exact q ρ1 _ _ (x1.trans (Ext.new hp _)) (rp1.new hp _) (.newT rp1 hp a1)
 ·cases e
theorem zbpx (h:DA X es g):DE X (.List es pos) (eLst g):=zha (zbfj h) fun τ H Q hq0=>by
 obtain⟨ρ,σ,st,v,st',a,rp,e,q⟩:=hq0;obtain⟨x,st1,e1,e⟩:=zc e;split at e
 ·rename_i hl;cases e;refine⟨ρ,σ,st,x,_,a,rp,e1,fun ρ1 H1 u x1 rp1 a1=>⟨by rw[a1.length];exact hl,fun p hp=>?_⟩⟩;exact q ρ1 _ _ (x1.trans (Ext.new hp _)) (rp1.new hp _) (.newL rp1 hp a1)
 ·cases e
theorem At.last {K:Fg}{ρ:Loc}{H:Hp}{p:Addr}{n:Nat}(h:n=ρ.m.length):At K ⟨ρ.m++[some p],ρ.g⟩ H (.ref n) (.ref p):=by
 subst h;refine .ref (by simp) fun a e=>?_
 simp at e;rw[e]
theorem zbmk (h:DA X es g):DE X (.List es pos) (eLstM g):=zha (zbfj h) fun τ H Q hq0=>by
 obtain⟨ρ,σ,st,v,st',a,rp,e,q⟩:=hq0;obtain⟨x,st1,e1,e⟩:=zc e;split at e
 ·rename_i hl;cases e;refine⟨ρ,σ,st,x,_,a,rp,e1,fun ρ1 H1 u x1 rp1 a1=>⟨by rw[a1.length];exact hl,fun p hp=>?_⟩⟩;obtain⟨E,R⟩:=rp1.alloc hp (x:=.lst x) (o:=.lst u) fun E=>⟨u,zbb,a1.ext E⟩
  exact q _ _ _ (x1.trans E) R (.last rp1.len.symm)
 ·cases e
end
noncomputable def asL (st:Store):D->Option (List D)
 | .lst xs=>some xs
 | .ref n=>match st[n]? with
  | some (.lst xs)=>some xs
  | _=>none
 | _=>none
section
variable {K:Fg}{ρ:Loc}{st:Store}{H:Hp}{d:D}{u:V}{xs:List D}
theorem zfu (rp:Rep K ρ st H){n:Nat}{o:O}(a:At K ρ H (.ref n) u)(e:st[n]?=some o)(hd:o≠.dead):∃p,u=.ref p/\ρ.m[n]?=some (some p)/\OAt K ρ H o p:=by
 cases a with
 | ref h1 h2 =>
  obtain⟨p,hp⟩:=rp.live n o e hd;exact⟨p,h2 p hp,hp,rp.obj n p o hp e⟩
theorem zhx (rp:Rep K ρ st H)(a:At K ρ H d u)(e:asL st d=some xs):∃p vs,u=.ref p/\H p=some (.lst vs)/\AtAll K ρ H xs vs:=by
 cases d<;>try (cases e;done)
 ·rename_i n;unfold asL at e;dsimp only at e;split at e
  ·rename_i ys hys;cases e;obtain⟨p,rfl,hp,vs,q1,q2⟩:=zfu rp a hys (by intro z;cases z);exact⟨p,vs,rfl,q1,q2⟩
  ·cases e
 ·cases e;cases a with
  | lst h1 h2 h3=>exact⟨_,_,rfl,h1,h3⟩
end
noncomputable def oI (C:Int->Int->Prop) [DecidableRel C] (h:Int->Int->D) (x y:D) (st:Store):Res D:=match x,y with
 | .int i,.int j=>if C i j then .ok (h i j) st else .stuck
 | _,_=>.stuck
theorem oI_D {K:Fg}{C:Int->Int->Prop}[DecidableRel C]{h:Int->Int->D}{g:Int->Int->V}(k:∀i j ρ H,At K ρ H (h i j) (g i j)):OpD K (oI C h) (rI C g):=fun ρ H st x y u v z st' Q rp a b e q=>by
 unfold oI at e;split at e
 ·cases a;cases b;split at e
  ·rename_i hc;cases e;exact⟨_,_,rfl,rfl,hc,q _ _ _ (.refl _ _) rp (k _ _ _ _)⟩
  ·cases e
 ·cases e
theorem zfi {K:Fg}{h:Int->Int->D}{g:Int->Int->V}(k:∀i j ρ H,At K ρ H (h i j) (g i j)):OpD K (oI (fun _ _=>True) h) (rI0 g):=fun ρ H st x y u v z st' Q rp a b e q=>by
 obtain⟨i,j,e1,e2,_,e3⟩:=oI_D (C:=fun _ _=>True) k ρ H st x y u v z st' Q rp a b e q;exact⟨i,j,e1,e2,e3⟩
noncomputable instance:DecidableRel CMul:=fun i j=>by unfold CMul;infer_instance
noncomputable instance:DecidableRel CDivP:=fun i j=>by unfold CDivP;infer_instance
noncomputable instance:DecidableRel CPow:=fun i j=>by unfold CPow;infer_instance
noncomputable abbrev oSub:=oI (fun _ _=>True) fun i j=>.int (i - j)
noncomputable abbrev oFdiv:=oI CDivP fun i j=>.int (i / j)
noncomputable abbrev oMod:=oI (fun _ j=>0 < j) fun i j=>.int (i % j)
noncomputable abbrev oAndI:=oI (fun _ _=>True) fun i j=>.int (Builtin.bitAnd i j)
noncomputable abbrev oPow:=oI CPow fun i j=>.int (i ^ j.toNat)
noncomputable abbrev oShl:=oI CPow fun i j=>.int (i * 2 ^ j.toNat)
noncomputable abbrev oMulI:=oI CMul fun i j=>.int (i * j)
noncomputable def aM (x y:D) (st:Store):Res D:=match x,y with
 | .int i,.int j=>.ok (.int (i+j)) st
 | .tup a,.tup b=>if a.length+b.length<=sizeLine then .ok (.tup (a++b)) st else .stuck
 | .str a,.str b=>if a.length+b.length<=sizeLine then .ok (.str (a++b)) st else .stuck
 | x,y=>match asL st x,asL st y with
  | some a,some b=>if a.length+b.length<=sizeLine then .ok (.lst (a++b)) st else .stuck
  | _,_=>.stuck
noncomputable abbrev rAddA (K:Fg):R2:=fun x y H Q=>rI0 (fun i j=>.int (i+j)) x y H Q\/rCatA K x y H Q\/(∃i j,x=.str i/\y=.str j/\i.length+j.length<=sizeLine/\Q (.str (i++j)) H)\/rCat x y H Q
section
variable {X:Cx}
theorem zbo:OpR X (binaryOp .Add) (rAddA X.K):=zbkt.or (zbfs.or (ztc.or zbks))
theorem zcx {K:Fg}:OpD K aM (rAddA K):=fun ρ H st x y u v z st' Q rp a b e q=>by
 unfold aM at e;split at e
 ·cases a;cases b;cases e;exact .inl ⟨_,_,rfl,rfl,q _ _ _ (.refl _ _) rp (.int _)⟩
 ·rename_i ds es;split at e
  ·rename_i hl;cases e;refine .inr (.inl ?_);cases a with
   | tup h1 h2 h3 =>
    cases b with
    | tup k1 k2 k3 =>
     refine⟨_,_,_,_,rfl,rfl,SqT.of h1,SqT.of k1,by rw[h3.length,k3.length];exact hl,fun z=>?_,fun z1 z2=>?_,fun z1 z2 p hp=>?_⟩
     ·subst z;cases h3;exact q _ _ _ (.refl _ _) rp (.tup k1 k2 k3)
     ·subst z2;cases k3;rw[xdp] at q;exact q _ _ _ (.refl _ _) rp (.tup h1 h2 h3)
     ·exact q _ _ _ (Ext.new hp _) (rp.new hp _) (.newT rp hp (h3.append k3))
  ·cases e
 ·split at e
  ·rename_i hl;cases a;cases b;cases e;exact .inr (.inr (.inl ⟨_,_,rfl,rfl,hl,q _ _ _ (.refl _ _) rp (.str _)⟩))
  ·cases e
 ·split at e
  ·rename_i h1 h2;split at e
   ·rename_i hl;cases e;obtain⟨p,vs,rfl,g1,g2⟩:=zhx rp a h1;obtain⟨p',ws,rfl,k1,k2⟩:=zhx rp b h2;exact .inr (.inr (.inr ⟨_,_,_,_,rfl,rfl,g1,k1,by rw[g2.length,k2.length];exact hl,fun t ht=>q _ _ _ (Ext.new ht _) (rp.new ht _) (.newL rp ht (g2.append k2))⟩))
   ·cases e
  ·cases e
end
noncomputable abbrev oLe:=oI (fun _ _=>True) fun i j=>.bl (decide (i<=j))
noncomputable abbrev oGt:=oI (fun _ _=>True) fun i j=>.bl (decide (j < i))
noncomputable abbrev oGe:=oI (fun _ _=>True) fun i j=>.bl (decide (j<=i))
mutual
noncomputable def toData:D->Option PyData
 | .non=>some .none
 | .bl b=>some (.bool b)
 | .int i=>some (.int i)
 | .str x=>some (.str x)
 | .tup ds=>(toDatas ds).map .tuple
 | .lst ds=>(toDatas ds).map .list
 | _=>none
noncomputable def toDatas:List D->Option (List PyData)
 | []=>some []
 | d::ds=>(toData d).bind fun x=>(toDatas ds).map fun xs=>x::xs
end
mutual
theorem zzp {K:Fg}{ρ:Loc}{H:Hp}:∀{d:D} {v:V} {p:PyData},At K ρ H d v->toData d=some p->DAt K H v p
 | _,_,_,.non,e=>by cases e;exact .non
 | _,_,_,.bl b,e=>by cases e;exact .bl b
 | _,_,_,.int i,e=>by cases e;exact .int i
 | _,_,_,.str x,e=>by cases e;exact .str x
 | _,_,_,.ty n,e=>by cases e
 | _,_,_,.exn _,e=>by cases e
 | _,_,_,.ref _ _,e=>by cases e
 | _,_,_,.tup h _ al,e=>by
  rw[toData] at e;obtain⟨ps,e1,rfl⟩:=xcz.mp e;exact .tup (SqT.of h) (zmd al e1)
 | _,_,_,.lst h _ al,e=>by
  rw[toData] at e;obtain⟨ps,e1,rfl⟩:=xcz.mp e;exact .lst (SqL.of h) (zmd al e1)
 | _,_,_,.scr _ _,e=>by cases e
theorem zmd {K:Fg}{ρ:Loc}{H:Hp}:∀{d:List D} {v:List V} {p:List PyData},AtAll K ρ H d v->toDatas d=some p->DAll K H v p
 | _,_,_,.nil,e=>by cases e;exact .nil
 | _,_,_,.cons a b,e=>by
  rw[toDatas] at e;obtain⟨x,e1,e⟩:=xfd.mp e;obtain⟨xs,e2,rfl⟩:=xcz.mp e;exact .cons (zzp a e1) (zmd b e2)
end
noncomputable def now (st:Store) (d:D):D:=match asL st d with
 | some xs=>.lst xs
 | none=>d
noncomputable def dataOf (st:Store) (d:D):Option PyData:=toData (now st d)
theorem zqh {K:Fg}{ρ:Loc}{st:Store}{H:Hp}(rp:Rep K ρ st H){d:D}{u:V}{p:PyData}(a:At K ρ H d u)(e:dataOf st d=some p):DAt K H u p:=by
 unfold dataOf now at e;split at e
 ·rename_i xs hx;obtain⟨q,vs,rfl,h1,h2⟩:=zhx rp a hx;rw[toData] at e;obtain⟨ps,e1,rfl⟩:=xcz.mp e;exact .lst (SqL.of h1) (zmd h2 e1)
 ·exact zzp a e
noncomputable def oEqG (neg:Bool) (x y:D) (st:Store):Res D:=match dataOf st x,dataOf st y with
 | some a,some b=>if PySem.SeqAt.shaped a=true/\PySem.SeqAt.shaped b=true then .ok (.bl (if neg then !PyData.eqv a b else PyData.eqv a b)) st else .stuck
 | _,_=>.stuck
theorem zwt {K:Fg}{neg:Bool}:OpD K (oEqG neg) (rEqX K neg):=fun ρ H st x y u v z st' Q rp a b e q=>by
 unfold oEqG at e;split at e
 ·rename_i p1 p2 h1 h2;split at e
  ·rename_i hs;cases e;exact⟨_,_,zqh rp a h1,zqh rp b h2,hs.1,hs.2,q _ _ _ (.refl _ _) rp (.bl _)⟩
  ·cases e
 ·cases e
noncomputable abbrev oEq:=oEqG false
noncomputable abbrev oNe:=oEqG true
noncomputable def asInts:List D->Option (List Int)
 | []=>some []
 | .int i::r=>(asInts r).map (i::·)
 | _::_=>none
theorem zfe {K:Fg}{ρ:Loc}{H:Hp}:∀{ds:List D} {vs:List V} {ns:List Int},AtAll K ρ H ds vs->asInts ds=some ns->vs=ns.map V.int
 | _,_,_,.nil,e=>by cases e;rfl
 | _,_,_,.cons (d:=d) a b,e=>by
  cases d<;>try (cases e;done)
  rw[asInts] at e;obtain⟨ms,e1,rfl⟩:=xcz.mp e;cases a;rw[zfe b e1]
  rfl
noncomputable def oLtT (x y:D) (st:Store):Res D:=match x,y with
 | .int i,.int j=>.ok (.bl (decide (i < j))) st
 | .tup a,.tup b=>match asInts a,asInts b with
  | some ns,some ms=>.ok (.bl (HT.lexLt ns ms)) st
  | _,_=>.stuck
 | _,_=>.stuck
noncomputable abbrev rLtA (K:Fg):R2:=fun x y H Q=>rI0 (fun i j=>.bl (decide (i < j))) x y H Q\/rLtT K x y H Q
theorem zre {X:Cx}(hu:X.A.units < cLine):OpR X (compareOp .Lt) (rLtA X.K):=zboz.or (zbkr hu)
theorem zrl {K:Fg}:OpD K oLtT (rLtA K):=fun ρ H st x y u v z st' Q rp a b e q=>by
 unfold oLtT at e;split at e
 ·cases a;cases b;cases e
  exact .inl ⟨_,_,rfl,rfl,q _ _ _ (.refl _ _) rp (.bl _)⟩
 ·split at e
  ·rename_i h1 h2;cases e;cases a with
   | tup g1 g2 g3 =>
    cases b with
    | tup k1 k2 k3 =>
     have e1:=zfe g3 h1;have e2:=zfe k3 h2;subst e1 e2;exact .inr ⟨_,_,_,_,rfl,rfl,SqT.of g1,SqT.of k1,q _ _ _ (.refl _ _) rp (.bl _)⟩
  ·cases e
 ·cases e
noncomputable def seqOf (st:Store):D->Option (List D)
 | .tup xs=>some xs
 | .scr xs=>some xs
 | d=>asL st d
theorem zoc {K:Fg}{ρ:Loc}{st:Store}{H:Hp}(rp:Rep K ρ st H){d:D}{u:V}{xs:List D}(a:At K ρ H d u)(e:seqOf st d=some xs) :
  ∃p vs,u=.ref p/\(SqL K H p vs\/SqT K H p vs)/\AtAll K ρ H xs vs:=by
 unfold seqOf at e;split at e
 ·cases e;cases a with
  | tup h1 h2 h3=>exact⟨_,_,rfl,.inr (SqT.of h1),h3⟩
 ·cases e;cases a with
  | scr h1 h3=>exact⟨_,_,rfl,.inl h1.sq,h3⟩
 ·obtain⟨p,vs,rfl,h1,h2⟩:=zhx rp a e;exact⟨p,vs,rfl,.inl (SqL.of h1),h2⟩
theorem AtAll.atI {K:Fg}{ρ:Loc}{H:Hp}{ds:List D}{vs:List V}{i:Int}{d:D}(h:AtAll K ρ H ds vs)(e:L2.atI ds i=some d):∃v,L2.atI vs i=some v/\At K ρ H d v:=by
 unfold L2.atI at e ⊢;rw[h.length];cases hi:ixN ds.length i with
 | none=>rw[hi] at e;cases e
 | some j =>
  rw[hi] at e;obtain⟨v,e1,e2⟩:=h.get (i:=j) e;exact⟨v,e1,e2⟩
noncomputable def oIx (x y:D) (st:Store):Res D:=match seqOf st x,y with
 | some xs,.int i=>match L2.atI xs i with
  | some v=>.ok v st
  | none=>.stuck
 | _,_=>.stuck
theorem zbpd {K:Fg}:OpD K oIx (rIx K):=fun ρ H st x y u v z st' Q rp a b e q=>by
 unfold oIx at e;split at e
 ·rename_i h1;split at e
  ·rename_i w hw;cases e;cases b;obtain⟨p,vs,rfl,h2,h3⟩:=zoc rp a h1;obtain⟨w',e2,a2⟩:=h3.atI hw;rcases h2 with h2 | h2
   ·exact .inl ⟨_,_,_,_,rfl,rfl,h2,e2,q _ _ _ (.refl _ _) rp a2⟩
   ·exact .inr (.inl ⟨_,_,_,_,rfl,rfl,h2,e2,q _ _ _ (.refl _ _) rp a2⟩)
  ·cases e
 ·cases e
noncomputable def cutD (xs:List D) (lo hi:Option Int):List D:=(xs.drop (HT.sIx xs.length 0 lo)).take (HT.sIx xs.length xs.length hi - HT.sIx xs.length 0 lo)
theorem AtAll.cut {K:Fg}{ρ:Loc}{H:Hp}{ds:List D}{vs:List V}(h:AtAll K ρ H ds vs)(lo hi:Option Int):AtAll K ρ H (cutD ds lo hi) (cutV vs lo hi):=by
 unfold cutD cutV;rw[h.length];exact(h.drop _).take _
noncomputable def pNone:DS->Store->Res (Option Int):=fun _ st=>.ok none st
noncomputable def pSome (f:SE):DS->Store->Res (Option Int):=fun σ st=>(f σ st).bind fun v st1=>match v with
 | .int i=>.ok (some i) st1
 | _=>.stuck
noncomputable def eSl (f:SE) (lo hi:DS->Store->Res (Option Int)):SE:=fun σ st=>(f σ st).bind fun x st1=>(lo σ st1).bind fun l st2=>(hi σ st2).bind fun h st3=>match x with
 | .tup xs=>.ok (.tup (cutD xs l h)) st3
 | x=>match asL st3 x with
  | some xs=>.ok (.lst (cutD xs l h)) st3
  | none=>.stuck
noncomputable def tDO (K:Fg) (f:DS->Store->Res (Option Int)):TO:=fun τ H Q=>∃ρ σ st v st',AtS K ρ H σ τ/\Rep K ρ st H/\f σ st=.ok v st'/\∀ρ' H',Ext ρ H ρ' H'->Rep K ρ' st' H'->Q v H'
noncomputable abbrev DO (X:Cx) (e:Option Expr) (f:DS->Store->Res (Option Int)):Prop:=PO X e (tDO X.K f)
section
variable {X:Cx}{a b e:Expr}{f f':SE}{pos:Pos}{lo hi:Option Expr}{l h:DS->Store->Res (Option Int)}
theorem zbnt {t t':TO}{e:Option Expr}(h:PO X e t)(k:∀σ H Q,t' σ H Q->t σ H Q):PO X e t':=fun aU s σ H Q I q=>h aU s σ H Q I (k _ _ _ q)
theorem zbhh:DO X none pNone:=zbnt zbfa fun τ H Q hq0=>by
 obtain⟨ρ,σ,st,v,st',a,rp,e,q⟩:=hq0;cases e;exact q _ _ (.refl _ _) rp
theorem zbhg (he:DE X e f):DO X (some e) (pSome f):=zbnt (zbez he) fun τ H Q hq0=>by
 obtain⟨ρ,σ,st,v,st',a,rp,e,q⟩:=hq0;obtain⟨x,st1,e1,e⟩:=zc e;refine⟨ρ,σ,st,x,st1,a,rp,e1,fun ρ1 H1 u x1 rp1 a1=>?_⟩;cases x<;>try (cases e;done)
 cases e;cases a1;exact⟨_,rfl,q _ _ x1 rp1⟩
theorem d_ix (ha:DE X a f)(hb:DE X b f')(hs:PlainIx b):DE X (.Subscript a b pos) (aS oIx f f'):=zha (zbow zbli ha hb hs) (zbiy zbpd)
theorem d_sl {p2:Pos}(he:DE X e f)(hl:DO X lo l)(hu:DO X hi h):DE X (.Subscript e (.Slice lo hi none p2) pos) (eSl f l h):=zha (zbaz (zbel.or zbem) he hl hu) fun τ H Q hq0=>by
 obtain⟨ρ,σ,st,v,st',a,rp,e,q⟩:=hq0;obtain⟨x,st1,e1,e⟩:=zc e;obtain⟨y,st2,e2,e⟩:=zc e;obtain⟨z,st3,e3,e⟩:=zc e;refine⟨ρ,σ,st,x,st1,a,rp,e1,fun ρ1 H1 u x1 rp1 a1=>?_⟩;refine⟨ρ1,σ,st1,y,st2,a.ext x1,rp1,e2,fun ρ2 H2 x2 rp2=>?_⟩;refine⟨ρ2,σ,st2,z,st3,a.ext (x1.trans x2),rp2,e3,fun ρ3 H3 x3 rp3=>?_⟩;have a3:=a1.ext (x2.trans x3);have X3:=x1.trans (x2.trans x3);split at e
 ·cases e;refine .inl ?_;cases a3 with
  | tup h1 h2 h3 =>
   refine⟨_,_,rfl,SqT.of h1,fun ec=>?_,fun p hp=>?_⟩
   ·refine q _ _ _ X3 rp3 (.tup h1 h2 ?_);have:=h3.cut y z;rw[ec] at this;exact this
   ·exact q _ _ _ (X3.trans (Ext.new hp _)) (rp3.new hp _) (.newT rp3 hp (h3.cut y z))
 ·split at e
  ·rename_i xs hx;cases e;obtain⟨p,vs,rfl,g1,g2⟩:=zhx rp3 a3 hx;exact .inr ⟨_,_,rfl,SqL.of g1,fun p hp=>q _ _ _ (X3.trans (Ext.new hp _)) (rp3.new hp _) (.newL rp3 hp (g2.cut y z))⟩
  ·cases e
end
end Dd
namespace Dd
open PySem L2
noncomputable def aE (g:List D->Store->Res D) (f:SA):SE:=fun σ st=>(f σ st).bind fun xs st1=>g xs st1
noncomputable def CaD (K:Fg) (g:List D->Store->Res D) (r:List V->Hp->VK->Prop):Prop :=
 ∀ρ H st xs us z st' (Q:VK),Rep K ρ st H->AtAll K ρ H xs us->g xs st=.ok z st'->(∀ρ' H' w,Ext ρ H ρ' H'->Rep K ρ' st' H'->At K ρ' H' z w->Q w H')->r us H Q
theorem zboh {K:Fg}{g:List D->Store->Res D}{r:List V->Hp->VK->Prop}(hr:CaD K g r){f:SA}:∀τ H Q,tD K (aE g f) τ H Q->tCB r (tDA K f) τ H Q:=fun τ H Q hq0=>by
 obtain⟨ρ,σ,st,v,st',a,rp,e,q⟩:=hq0;obtain⟨x,st1,e1,e⟩:=zc e;exact⟨ρ,σ,st,x,st1,a,rp,e1,fun ρ1 H1 u x1 rp1 a1=>hr ρ1 H1 st1 x u v st' Q rp1 a1 e fun ρ' H' w x2=>q ρ' H' w (x1.trans x2)⟩
section
variable {X:Cx}{x:Str}{p pos:Pos}{e:Expr}{es:List Expr}{f:SA}{id T:String}{r:List V->Hp->VK->Prop}{g:List D->Store->Res D}
theorem zbhw (hc:CallR X (.builtin id) r)(hr:CaD X.K g r)(hg:Gl X x)(hm:X.mg x=none)(hv:bootBuiltins x=some (.builtin id))(ha:DA X (e::es) f)(hn:x≠"__name__":=by decide)(hdb:(x==("__debug__" : Str))=false:=by decide)
 (he:starEach (e::es) X.env=(false,eval e X.env)::starEach es X.env:=by rfl)(hpl:(backTo pos (starEach es X.env)).any (·.1)=false:=by rfl):DE X (.Call (.Name x p) (e::es) [] pos) (aE g f):=zha (zbbg hc hg hm hv ha hn hdb he hpl) (zboh hr)
theorem zbdb (hc:CallR X (.type T) r)(hr:CaD X.K g r)(hg:Gl X x)(hm:X.mg x=none)(hv:bootBuiltins x=some (.type T))(ha:DA X (e::es) f)(hn:x≠"__name__":=by decide)(hdb:(x==("__debug__" : Str))=false:=by decide)
 (he:starEach (e::es) X.env=(false,eval e X.env)::starEach es X.env:=by rfl)(hpl:(backTo pos (starEach es X.env)).any (·.1)=false:=by rfl):DE X (.Call (.Name x p) (e::es) [] pos) (aE g f):=zha (zwm hc hg hm hv ha hn hdb he hpl) (zboh hr)
end
theorem AtAll.one {K:Fg}{ρ:Loc}{H:Hp}{d:D}{us:List V}(h:AtAll K ρ H [d] us):∃u,us=[u]/\At K ρ H d u:=by
 cases h with
 | cons a b=>cases b;exact⟨_,rfl,a⟩
theorem AtAll.two {K:Fg}{ρ:Loc}{H:Hp}{d e:D}{us:List V}(h:AtAll K ρ H [d,e] us):∃u v,us=[u,v]/\At K ρ H d u/\At K ρ H e v:=by
 cases h with
 | cons a b =>
  obtain⟨v,rfl,c⟩:=b.one;exact⟨_,_,rfl,a,c⟩
noncomputable def bLen:List D->Store->Res D:=fun xs st=>match xs with
 | [x]=>match seqOf st x with
  | some ys=>.ok (.int ys.length) st
  | none=>.stuck
 | _=>.stuck
theorem zpd {K:Fg}:CaD K bLen (fun xs H Q=>∃p ys,xs=[.ref p]/\(SqL K H p ys\/SqT K H p ys)/\Q (.int ys.length) H):=fun ρ H st xs us z st' Q rp aa e q=>by
 unfold bLen at e;split at e
 ·split at e
  ·rename_i h;cases e;obtain⟨u,rfl,a⟩:=aa.one;obtain⟨p,vs,rfl,h1,h2⟩:=zoc rp a h;refine⟨p,vs,rfl,h1,?_⟩;rw[h2.length];exact q _ _ _ (.refl _ _) rp (.int _)
  ·cases e
 ·cases e
noncomputable def bAbs:List D->Store->Res D:=fun xs st=>match xs with
 | [.int i]=>.ok (.int (if i < 0 then -i else i)) st
 | _=>.stuck
theorem zbng {K:Fg}:CaD K bAbs (fun xs H Q=>∃i,xs=[.int i]/\Q (.int (if i < 0 then -i else i)) H):=fun ρ H st xs us z st' Q rp aa e q=>by
 unfold bAbs at e;split at e
 ·cases e;obtain⟨u,rfl,a⟩:=aa.one;cases a;exact⟨_,rfl,q _ _ _ (.refl _ _) rp (.int _)⟩
 ·cases e
noncomputable def b2I (g:Int->Int->Int):List D->Store->Res D:=fun xs st=>match xs with
 | [.int i,.int j]=>.ok (.int (g i j)) st
 | _=>.stuck
theorem zbnh {K:Fg}{g:Int->Int->Int}:CaD K (b2I g) (fun xs H Q=>∃i j,xs=[.int i,.int j]/\Q (.int (g i j)) H):=fun ρ H st xs us z st' Q rp aa e q=>by
 unfold b2I at e;split at e
 ·cases e;obtain⟨u,v,rfl,a,b⟩:=aa.two;cases a;cases b;exact⟨_,_,rfl,q _ _ _ (.refl _ _) rp (.int _)⟩
 ·cases e
noncomputable abbrev bMin2:=b2I fun i j=>if j < i then j else i
noncomputable def bSum:List D->Store->Res D:=fun xs st=>match xs with
 | [x]=>match (seqOf st x).bind asInts with
  | some ns=>.ok (.int ns.sum) st
  | none=>.stuck
 | _=>.stuck
theorem zbio {K:Fg}:CaD K bSum (rSum K):=fun ρ H st xs us z st' Q rp aa e q=>by
 unfold bSum at e;split at e
 ·split at e
  ·rename_i ns h;cases e;obtain⟨ys,h0,h⟩:=xfd.mp h;obtain⟨u,rfl,a⟩:=aa.one;obtain⟨p,vs,rfl,h1,h2⟩:=zoc rp a h0;have e:=zfe h2 h;subst e;exact⟨p,ns,rfl,h1,q _ _ _ (.refl _ _) rp (.int _)⟩
  ·cases e
 ·cases e
noncomputable def asBools:List D->Option (List Bool)
 | []=>some []
 | .bl i::r=>(asBools r).map (i::·)
 | _::_=>none
theorem znq {K:Fg}{ρ:Loc}{H:Hp}:∀{ds:List D} {vs:List V} {ns:List Bool},AtAll K ρ H ds vs->asBools ds=some ns->vs=ns.map V.bl
 | _,_,_,.nil,e=>by cases e;rfl
 | _,_,_,.cons (d:=d) a b,e=>by
  cases d<;>try (cases e;done)
  rw[asBools] at e;obtain⟨ms,e1,rfl⟩:=xcz.mp e;cases a;rw[znq b e1]
  rfl
noncomputable def bAny (al:Bool):List D->Store->Res D:=fun xs st=>match xs with
 | [x]=>match (asL st x).bind asBools with
  | some bs=>.ok (.bl (if al then bs.all id else bs.any id)) st
  | none=>.stuck
 | _=>.stuck
theorem zbip {K:Fg}{al:Bool}:CaD K (bAny al) (rAny K al):=fun ρ H st xs us z st' Q rp aa e q=>by
 unfold bAny at e;split at e
 ·split at e
  ·rename_i ns h;cases e;obtain⟨ys,h0,h⟩:=xfd.mp h;obtain⟨u,rfl,a⟩:=aa.one;obtain⟨p,vs,rfl,h1,h2⟩:=zhx rp a h0;have e:=znq h2 h;subst e;exact⟨p,ns,rfl,SqL.of h1,q _ _ _ (.refl _ _) rp (.bl _)⟩
  ·cases e
 ·cases e
noncomputable def tyName (st:Store):D->Option String
 | .non=>some "NoneType"
 | .bl _=>some "bool"
 | .int _=>some "int"
 | .str _=>some "str"
 | .tup _=>some "tuple"
 | .lst _=>some "list"
 | .ref n=>match st[n]? with
  | some (.lst _)=>some "list"
  | some (.dT _)=>some "dict"
  | _=>none
 | _=>none
noncomputable def isTy (t T:String):Bool:=t==T||(t=="bool"&&T=="int")
noncomputable def bIsinst:List D->Store->Res D:=fun xs st=>match xs with
 | [x,.ty T]=>match tyName st x with
  | some t=>if["int", "bool", "str", "tuple", "list", "dict"].contains T=true then .ok (.bl (isTy t T)) st else .stuck
  | none=>.stuck
 | _=>.stuck
theorem zvr {K:Fg}{ρ:Loc}{st:Store}{H:Hp}(rp:Rep K ρ st H){d:D}{u:V}{t:String}(a:At K ρ H d u)(e:tyName st d=some t):TyOf K H u (.type t)/\t∈["NoneType", "bool", "int", "str", "tuple", "list", "dict"]:=by
 cases d<;>try (cases e;done)
 ·cases e;cases a;exact⟨.non,by simp⟩
 ·cases e;cases a;exact⟨.bl _,by simp⟩
 ·cases e;cases a;exact⟨.int _,by simp⟩
 ·cases e;cases a;exact⟨.str _,by simp⟩
 ·unfold tyName at e;dsimp only at e;split at e
  ·rename_i h;cases e;obtain⟨p,rfl,hp,vs,q1,q2⟩:=zfu rp a h (by intro z;cases z);exact⟨.lst q1,by simp⟩
  ·rename_i h;cases e;obtain⟨p,rfl,hp,vs,q1,q2⟩:=zfu rp a h (by intro z;cases z);exact⟨.dT q1,by simp⟩
  ·cases e
 ·cases e;cases a with
  | tup h1 h2 h3=>exact⟨.tup h1,by simp⟩
 ·cases e;cases a with
  | lst h1 h2 h3=>exact⟨.lst h1,by simp⟩
theorem zblb {K:Fg}{t T:String}(ht:t∈["NoneType", "bool", "int", "str", "tuple", "list", "dict"])(hT:T∈["int", "bool", "str", "tuple", "list", "dict"]):W.kitOne K (.type t) (.type T)=some (isTy t T):=by
 simp only[xbx,xgh,xki] at ht hT;rcases ht with rfl | rfl | rfl | rfl | rfl | rfl | rfl<;>rcases hT with rfl | rfl | rfl | rfl | rfl | rfl<;>rfl
theorem zee {K:Fg}:CaD K bIsinst (fun xs H Q=>∃x T t b,xs=[x,.ty T]/\TyOf K H x t/\W.kitOne K t (.type T)=some b/\Q (.bl b) H):=fun ρ H st xs us z st' Q rp aa e q=>by
 unfold bIsinst at e;split at e
 ·split at e
  ·rename_i h;split at e
   ·rename_i hT;cases e;obtain⟨u,v,rfl,a,b⟩:=aa.two;cases b;obtain⟨h1,h2⟩:=zvr rp a h;exact⟨_,_,_,_,rfl,h1,zblb h2 (by simpa using hT),q _ _ _ (.refl _ _) rp (.bl _)⟩
   ·cases e
  ·cases e
 ·cases e
noncomputable def bTuple:List D->Store->Res D:=fun xs st=>match xs with
 | [.tup ys]=>.ok (.tup ys) st
 | [x]=>match asL st x with
  | some ys=>.ok (.tup ys) st
  | none=>.stuck
 | _=>.stuck
theorem zpa {K:Fg}:CaD K bTuple (fun xs H Q=>∃p ys,xs=[.ref p]/\((SqL K H p ys/\∀l,H l=none->Q (.ref l) (upd H l (.tup ys)))\/(SqT K H p ys/\Q (.ref p) H))):=fun ρ H st xs us z st' Q rp aa e q=>by
 unfold bTuple at e;split at e
 ·cases e;obtain⟨u,rfl,a⟩:=aa.one;cases a with
  | tup h1 h2 h3=>exact⟨_,_,rfl,.inr ⟨SqT.of h1,q _ _ _ (.refl _ _) rp (.tup h1 h2 h3)⟩⟩
 ·split at e
  ·rename_i h;cases e;obtain⟨u,rfl,a⟩:=aa.one;obtain⟨p,vs,rfl,h1,h2⟩:=zhx rp a h;exact⟨_,_,rfl,.inl ⟨SqL.of h1,fun l hl=>q _ _ _ (Ext.new hl _) (rp.new hl _) (.newT rp hl h2)⟩⟩
  ·cases e
 ·cases e
noncomputable def bList:List D->Store->Res D:=fun xs st=>match xs with
 | [x]=>match seqOf st x with
  | some ys=>.ok (.lst ys) st
  | none=>.stuck
 | _=>.stuck
noncomputable abbrev aL (ns:List Int):D:=.tup (ns.map .int)
noncomputable abbrev aJ (l:List (List Int)):List D:=l.map aL
noncomputable def insR (a:List Int):List (List Int)->List (List Int)
 | []=>[a]
 | b::r=>if HT.lexLt b a=true then b::insR a r else a::b::r
noncomputable def sortR:List (List Int)->List (List Int)
 | []=>[]
 | a::r=>insR a (sortR r)
noncomputable abbrev UpR (l:List (List Int)):Prop:=l.Pairwise fun a b=>HT.lexLt b a=false
theorem zly (a:List Int):∀l,(insR a l).Perm (a::l)
 | []=>.refl _
 | b::r=>by
  unfold insR;split
  ·exact(List.Perm.cons b (zly a r)).trans (.swap a b r)
  ·exact .refl _
theorem zdi:∀l,(sortR l).Perm l
 | []=>.refl _
 | a::r=>(zly a _).trans (.cons a (zdi r))
theorem zoo {a b c:List Int}(h1:HT.lexLt b a=false)(h2:HT.lexLt c b=false):HT.lexLt c a=false:=by
 cases h:HT.lexLt c a with
 | false=>rfl
 | true =>
  rcases Srt.zpy a b with z | z | z
  ·have:=Srt.zgk h z;rw[h2] at this;cases this
  ·subst z;rw[h2] at h;cases h
  ·rw[h1] at z;cases z
theorem zze (a:List Int):∀l,UpR l->UpR (insR a l)
 | [],_=>xhi _ _
 | b::r,h=>by
  obtain⟨h1,h2⟩:=xeu.mp h;unfold insR;split
  ·rename_i c;refine xeu.mpr ⟨fun x hx=>?_,zze a r h2⟩;rcases xbx.mp ((zly a r).mem_iff.mp hx) with rfl | hx
   ·exact Srt.zxa c
   ·exact h1 x hx
  ·rename_i c;have c':HT.lexLt b a=false:=by simpa using c
   refine xeu.mpr ⟨fun x hx=>?_,h⟩;rcases xbx.mp hx with rfl | hx
   ·exact c'
   ·exact zoo c' (h1 x hx)
theorem zny:∀l,UpR (sortR l)
 | []=>.nil
 | a::r=>zze a _ (zny r)
theorem zpm:∀{l m:List (List Int)},l.Perm m->UpR l->UpR m->l=m
 | [],m,p,_,_=>by rw[List.nil_perm.mp p]
 | a::l,[],p,_,_=>by cases List.perm_nil.mp p
 | a::l,b::m,p,h1,h2=>by
  obtain⟨p1,p2⟩:=xeu.mp h1;obtain⟨q1,q2⟩:=xeu.mp h2;have e:a=b:=by
   rcases xbx.mp (p.mem_iff.mp xbn) with z | z
   ·exact z
   ·rcases xbx.mp (p.mem_iff.mpr (xbn (a:=b) (l:=m))) with y | y
    ·exact y.symm
    ·have e1:=q1 a z;have e2:=p1 b y;rcases Srt.zpy a b with w | w | w
     ·rw[e1] at w;cases w
     ·exact w
     ·rw[e2] at w;cases w
  subst e;rw[zpm (List.Perm.cons_inv p) p2 q2]
theorem znz {l m:List (List Int)}(p:m.Perm l)(h:UpR m):m=sortR l:=zpm (p.trans (zdi l).symm) h (zny l)
noncomputable def asRows:List D->Option (List (List Int))
 | []=>some []
 | .tup ds::r=>(asInts ds).bind fun ns=>(asRows r).map (ns::·)
 | _::_=>none
theorem zqt {K:Fg}{ρ:Loc}{H:Hp}:∀{ds:List D} {vs:List V} {l:List (List Int)},AtAll K ρ H ds vs->asRows ds=some l ->
  ∃ps:List (Addr×List Int),vs=ps.map (fun p=>V.ref p.1)/\ps.map (·.2)=l/\∀p∈ps,H p.1=some (.tup (p.2.map V.int))/\Out ρ p.1
 | _,_,_,.nil,e=>by cases e;exact⟨[],rfl,rfl,fun _ h=>nomatch h⟩
 | _,_,_,.cons (d:=d) a b,e=>by
  cases d<;>try (cases e;done)
  rw[asRows] at e;obtain⟨ns,e1,e⟩:=xfd.mp e;obtain⟨l,e2,rfl⟩:=xcz.mp e;obtain⟨ps,h1,h2,h3⟩:=zqt b e2;cases a with
  | tup g1 g2 g3 =>
   rename_i ad ws;have ew:=zfe g3 e1;subst ew;refine⟨(ad,ns)::ps,by rw[h1];rfl,by rw[← h2];rfl,fun p hp=>?_⟩;rcases xbx.mp hp with rfl | hp
   ·exact⟨g1,g2⟩
   ·exact h3 p hp
theorem zlx {K:Fg}{ρ:Loc}{H:Hp}:∀ns:List Int,AtAll K ρ H (ns.map .int) (ns.map V.int)
 | []=>.nil
 | n::ns=>.cons (.int n) (zlx ns)
theorem zof {K:Fg}{ρ:Loc}{H:Hp}:∀ps:List (Addr×List Int),(∀p∈ps,H p.1=some (.tup (p.2.map V.int))/\Out ρ p.1)->AtAll K ρ H (aJ (ps.map (·.2))) (ps.map fun p=>V.ref p.1)
 | [],_=>.nil
 | p::ps,h=>.cons (.tup (h p xbn).1 (h p xbn).2 (zlx _)) (zof ps fun q hq=>h q (xbp _ hq))
theorem zpw {K:Fg}{ρ:Loc}{st:Store}{H:Hp}(r:Rep K ρ st H){p:Addr}{vs:List V}(hp:H p=some (.tup vs)):Out ρ p:=by
 refine⟨fun z=>?_,fun z=>?_⟩
 ·obtain⟨i,hi,e⟩:=xep z;obtain⟨x,_,q⟩:=r.has (n:=i) (a:=p) (by rw[xbi hi,e]);cases x with
  | lst xs=>obtain⟨_,e,_⟩:=q;rw[hp] at e;cases e
  | dT kvs=>obtain⟨_,e,_⟩:=q;rw[hp] at e;cases e
  | fT kvs=>obtain⟨_,_,e,_⟩:=q;rw[hp] at e;cases e
  | dI kvs=>obtain⟨_,e,_⟩:=q;rw[hp] at e;cases e
  | dead=>exact q
  | tab=>obtain⟨_,_,e,_⟩:=q;rw[hp] at e;cases e
 ·obtain⟨⟨u,hu⟩,_⟩:=r.gh p z;rw[hp] at hu;cases hu
noncomputable def valD (kvs:List (List Int×D)) (k:List Int):Option D:=(kvs.find? fun kv=>decide (kv.1=k)).map (·.2)
noncomputable def putD (kvs:List (List Int×D)) (k:List Int) (v:D):List (List Int×D) :=
 if(kvs.any fun kv=>decide (kv.1=k))=true then kvs.map (fun kv=>if kv.1=k then(kv.1,v) else kv) else kvs++[(k,v)]
noncomputable def dropD (kvs:List (List Int×D)) (k:List Int):List (List Int×D):=kvs.filter fun kv=>decide (kv.1≠k)
theorem zqb {a b:List Int}:a.map (Sum.inl:Int->Key)=b.map Sum.inl↔a=b:=by
 constructor
 ·intro h;exact(List.map_inj_right (f:=(Sum.inl:Int->Key)) fun x y e=>Sum.inl.inj e).mp h
 ·rintro rfl;rfl
section
variable {K:Fg}{ρ:Loc}{H:Hp}{kvs:List (List Int×D)}{vs:List (List Key×V)}
theorem KvAt.val (h:KvAt K ρ H kvs vs)(k:List Int):match valD kvs k with
  | some d=>∃v,valV vs (k.map Sum.inl)=some v/\At K ρ H d v
  | none=>valV vs (k.map Sum.inl)=none:=by
 induction h with
 | nil=>rfl
 | @cons p q ps qs h t ih =>
  obtain⟨h1,h2⟩:=h;by_cases e:p.1=k
  ·have e1:valD (p::ps) k=some p.2:=by simp[valD,xdk,e]
   rw[e1];exact⟨q.2,zig (by rw[h1,e]),h2⟩
  ·have e1:valD (p::ps) k=valD ps k:=by simp[valD,xdk,e]
   have e2:valV (q::qs) (k.map Sum.inl)=valV qs (k.map Sum.inl):=zih (by rw[h1,zqb];exact e);rw[e1,e2];exact ih
theorem KvAt.keys (h:KvAt K ρ H kvs vs):vs.map (·.1)=(kvs.map (·.1)).map fun ns=>ns.map Sum.inl:=by
 induction h with
 | nil=>rfl
 | @cons p q ps qs h t ih=>rw[xbt,xbt,xbt,ih,h.1]
theorem KvAt.put (h:KvAt K ρ H kvs vs)(k:List Int){d:D}{v:V}(a:At K ρ H d v):KvAt K ρ H (putD kvs k d) (putK vs (k.map Sum.inl) v):=by
 have any:∀{kvs:List (List Int×D)} {vs:List (List Key×V)},KvAt K ρ H kvs vs->(kvs.any fun kv=>decide (kv.1=k))=(vs.any fun kv=>decide (kv.1=k.map Sum.inl)):=fun h=>by
  induction h with
  | nil=>rfl
  | @cons p q ps qs h t ih =>
   rw[xgv,xgv,ih,h.1]
   congr 1
   simp only[zqb]
 unfold putD putK;rw[any h];split
 ·rename_i hh;clear hh any
  induction h with
  | nil=>exact .nil
  | @cons p q ps qs h t ih =>
   refine .cons ?_ ih;obtain⟨h1,h2⟩:=h;dsimp only;by_cases e:p.1=k
   ·rw[if_pos e,if_pos (by rw[h1,e])];exact⟨h1,a⟩
   ·rw[if_neg e,if_neg (by rw[h1,zqb];exact e)];exact⟨h1,h2⟩
 ·have app:∀{kvs:List (List Int×D)} {vs:List (List Key×V)},KvAt K ρ H kvs vs->KvAt K ρ H (kvs++[(k,d)]) (vs++[(k.map Sum.inl,v)]):=fun h=>by
   induction h with
   | nil=>exact .cons ⟨rfl,a⟩ .nil
   | cons h t ih=>exact .cons h ih
  exact app h
theorem KvAt.drop (h:KvAt K ρ H kvs vs)(k:List Int):KvAt K ρ H (dropD kvs k) (dropK vs (k.map Sum.inl)):=by
 unfold dropD dropK
 induction h with
 | nil=>exact .nil
 | @cons p q ps qs h t ih =>
  by_cases e:p.1=k
  ·rw[xdd (by simp[e]),xdd (by simp[h.1,e])];exact ih
  ·rw[xcu (by simp[e]),xcu (by simp[h.1,zqb,e])];exact .cons h ih
theorem KvAt.length (h:KvAt K ρ H kvs vs):kvs.length=vs.length:=xhk h
end
noncomputable def pairsOf (st:Store):D->Option (List (List Int×D))
 | .ref n=>match st[n]? with
  | some (.dT kvs)=>some kvs
  | some (.fT kvs)=>some kvs
  | _=>none
 | _=>none
theorem zoh {K:Fg}{ρ:Loc}{st:Store}{H:Hp}(rp:Rep K ρ st H){d:D}{u:V}{kvs:List (List Int×D)}(a:At K ρ H d u)(e:pairsOf st d=some kvs):∃p vs,u=.ref p/\Rd H p (.dT vs)/\KvAt K ρ H kvs vs:=by
 unfold pairsOf at e;split at e
 ·split at e
  ·rename_i h;cases e;obtain⟨p,rfl,hp,vs,q1,q2⟩:=zfu rp a h (by intro z;cases z);exact⟨p,vs,rfl,.inl q1,q2⟩
  ·rename_i h;cases e;obtain⟨p,rfl,hp,vs,ob,q1,q2⟩:=zfu rp a h (by intro z;cases z);exact⟨p,vs,rfl,.inr ⟨ob,q1⟩,q2⟩
  ·cases e
 ·cases e
noncomputable def keyOf:D->Option (List Int)
 | .tup ds=>asInts ds
 | _=>none
theorem zbbz {K:Fg}{ρ:Loc}{H:Hp}{d:D}{u:V}{k:List Int}(a:At K ρ H d u)(e:keyOf d=some k):∃p,u=.ref p/\H p=some (.tup ((k.map (Sum.inl:Int->Key)).map kV)):=by
 unfold keyOf at e;split at e
 ·cases a with
  | tup h1 h2 h3 =>
   have:=zfe h3 e;subst this;exact⟨_,rfl,by rw[zzc];exact h1⟩
 ·cases e
theorem zuf {K:Fg}{ρ:Loc}{st:Store}{H:Hp}(rp:Rep K ρ st H){d y:D}{u w:V}{kvs:List (List Int×D)}{k:List Int}(a:At K ρ H d u)(b:At K ρ H y w)(e:pairsOf st d=some kvs)(e2:keyOf y=some k) :
  ∃p o,u=.ref p/\DGet H p w o/\match valD kvs k with
   | some z=>∃v,o=some v/\At K ρ H z v
   | none=>o=none:=by
 obtain⟨p,vs,rfl,h1,h2⟩:=zoh rp a e;obtain⟨q,rfl,h3⟩:=zbbz b e2;refine⟨p,valV vs (k.map Sum.inl),rfl,.inr ⟨vs,_,q,h1,rfl,h3,rfl⟩,?_⟩;have:=h2.val k;cases hv:valD kvs k with
 | none=>rw[hv] at this;exact this
 | some z=>rw[hv] at this;exact this
noncomputable def oDIn (neg:Bool) (y x:D) (st:Store):Res D:=match keyOf y,pairsOf st x with
 | some k,some kvs=>.ok (.bl (if neg then !(valD kvs k).isSome else(valD kvs k).isSome)) st
 | _,_=>.stuck
noncomputable def oDGet (x y:D) (st:Store):Res D:=match pairsOf st x,keyOf y with
 | some kvs,some k=>match valD kvs k with
  | some v=>.ok v st
  | none=>.stuck
 | _,_=>.stuck
noncomputable def eDGet2 (f g h:SE):SE:=fun σ st=>(f σ st).bind fun x st1=>match pairsOf st1 x with
 | some _=>(g σ st1).bind fun y st2=>(h σ st2).bind fun z st3=>match pairsOf st3 x,keyOf y with
  | some kvs,some k=>.ok ((valD kvs k).getD z) st3
  | _,_=>.stuck
 | none=>.stuck
noncomputable def eDPop (f g:SE):SE:=fun σ st=>(f σ st).bind fun x st1=>match pairsOf st1 x with
 | some _=>(g σ st1).bind fun y st2=>match x,keyOf y with
  | .ref n,some k=>match st2[n]? with
   | some (.dT kvs)=>match valD kvs k with
    | some v=>.ok v (st2.set n (.dT (dropD kvs k)))
    | none=>.stuck
   | _=>.stuck
  | _,_=>.stuck
 | none=>.stuck
noncomputable def sDPut (f g h:SE):SS:=fun σ st=>(h σ st).bind fun v st1=>(f σ st1).bind fun x st2=>(g σ st2).bind fun y st3=>match x,keyOf y with
 | .ref n,some k=>match st3[n]? with
  | some (.dT kvs)=>if kvs.length < sizeLine then .ok (.nx σ) (st3.set n (.dT (putD kvs k v))) else .stuck
  | _=>.stuck
 | _,_=>.stuck
noncomputable def eDNew:SE:=fun _ st=>.ok (.ref st.length) (st++[.dT []])
section
variable {X:Cx}{a b c o i e value f':Expr}{f g h:SE}{pos pos' apos cpos:Pos}
theorem zbgl {K:Fg}{ρ:Loc}{st:Store}{H:Hp}(rp:Rep K ρ st H){d:D}{u:V}{kvs:List (List Int×D)}(a:At K ρ H d u)(e:pairsOf st d=some kvs):∃p,u=.ref p/\IsD H p:=by
 obtain⟨p,vs,rfl,h1,_⟩:=zoh rp a e;exact⟨p,rfl,.inr ⟨vs,h1⟩⟩
theorem zbmn:DE X (.Dict [] [] pos) eDNew:=zha zbbc fun τ H Q hq0 p hp=>by
 obtain⟨ρ,σ,st,v,st',a,rp,e,q⟩:=hq0;cases e;obtain⟨E,R⟩:=rp.alloc hp (x:=.dT []) (o:=.dT []) fun E=>⟨[],zbb,.nil⟩
 exact q _ _ _ E R (.last rp.len.symm)
theorem zboy (hu:X.A.units+1 < cLine)(hi:DE X i g)(ho:DE X o f):PC X .In i o (tD X.K (aS (oDIn false) g f)):=fun aU s σ H Q I hq=>by
 refine zbfn hu hi ho aU s σ H Q I ?_;obtain⟨ρ,σ',st,v,st',a,rp,e,q⟩:=hq;obtain⟨x,st1,e1,e⟩:=zc e;obtain⟨y,st2,e2,e⟩:=zc e;refine⟨ρ,σ',st,x,st1,a,rp,e1,fun ρ1 H1 u x1 rp1 a1=>?_⟩;refine⟨ρ1,σ',st1,y,st2,a.ext x1,rp1,e2,fun ρ2 H2 w x2 rp2 a2=>?_⟩;unfold oDIn at e;split at e
 ·rename_i kk vv h1 h2;cases e;obtain⟨p,oo,rfl,g1,g2⟩:=zuf rp2 a2 (a1.ext x2) h2 h1;refine⟨p,oo,rfl,g1,?_⟩;have:oo.isSome=(valD vv kk).isSome:=by
   revert g2;split
   ·rename_i hv;rintro⟨v,rfl,_⟩;rw[hv];rfl
   ·rename_i hv;rintro rfl;rw[hv];rfl
  rw[this];exact q _ _ _ (x1.trans x2) rp2 (.bl _)
 ·cases e
theorem zbpp {op:CmpOp}{t:SE}(h:PC X op a b (tD X.K t))(h1:behindInMarks op b=false:=by first | exact nobehind _ (by decide) (by decide) | rfl):DT X (.Compare a [op] [b] pos) (eB t):=zbix (zbjx h h1) fun τ H Q hh=>eB_t _ _ _ hh
theorem zbmo (hu:X.A.units+1 < cLine)(ho:DE X o f)(hi:DE X i g)(hs:NoSl i):DE X (.Subscript o i pos) (aS oDGet f g):=zha (zyr hu ho hi hs) fun τ H Q hq0=>by
 obtain⟨ρ,σ,st,v,st',a,rp,e,q⟩:=hq0;obtain⟨x,st1,e1,e⟩:=zc e;obtain⟨y,st2,e2,e⟩:=zc e;refine⟨ρ,σ,st,x,st1,a,rp,e1,fun ρ1 H1 u x1 rp1 a1=>?_⟩;refine⟨ρ1,σ,st1,y,st2,a.ext x1,rp1,e2,fun ρ2 H2 w x2 rp2 a2=>?_⟩;unfold oDGet at e;split at e
 ·rename_i h1 h2;split at e
  ·rename_i z hv;cases e;obtain⟨p,oo,rfl,g1,g2⟩:=zuf rp2 (a1.ext x2) a2 h1 h2;rw[hv] at g2;obtain⟨vv,rfl,g3⟩:=g2;exact⟨p,vv,rfl,g1,q _ _ _ (x1.trans x2) rp2 g3⟩
  ·cases e
 ·cases e
theorem zbht (hu:X.A.units + 1 < cLine)(ho:DE X o f)(he:DE X e g)(hf:DE X f' h)(m:M2 X o "get" apos e f' cpos):DE X (.Call (.Attribute o "get" apos) [e, f'] [] cpos) (eDGet2 f g h):=zha (zbbe hu ho he hf m) fun τ H Q hq0=>by
 obtain⟨ρ,σ,st,v,st',a,rp,e,q⟩:=hq0;obtain⟨x,st1,e1,e⟩:=zc e;refine⟨ρ,σ,st,x,st1,a,rp,e1,fun ρ1 H1 u x1 rp1 a1=>?_⟩;split at e
 ·rename_i h0;obtain⟨p,rfl,hd⟩:=zbgl rp1 a1 h0;obtain⟨y,st2,e2,e⟩:=zc e;obtain⟨z,st3,e3,e⟩:=zc e;refine⟨p,rfl,hd,?_⟩;refine⟨ρ1,σ,st1,y,st2,a.ext x1,rp1,e2,fun ρ2 H2 w x2 rp2 a2=>?_⟩;refine⟨ρ2,σ,st2,z,st3,a.ext (x1.trans x2),rp2,e3,fun ρ3 H3 t x3 rp3 a3=>?_⟩;split at e
  ·rename_i h1 h2;cases e;obtain⟨p',oo,ep,g1,g2⟩:=zuf rp3 (a1.ext (x2.trans x3)) (a2.ext x3) h1 h2;cases ep;refine⟨oo,g1,q _ _ _ (x1.trans (x2.trans x3)) rp3 ?_⟩;revert g2;split
   ·rename_i hv;rintro⟨vv,rfl,g3⟩;rw[hv];exact g3
   ·rename_i hv;rintro rfl;rw[hv];exact a3
  ·cases e
 ·cases e
theorem zbmm (hu:X.A.units + 1 < cLine)(ho:DE X o f)(he:DE X e g)(m:M1 X o "pop" apos e cpos):DE X (.Call (.Attribute o "pop" apos) [e] [] cpos) (eDPop f g):=zha (zbbb hu ho he m) fun τ H Q hq0=>by
 obtain⟨ρ,σ,st,v,st',a,rp,e,q⟩:=hq0;obtain⟨x,st1,e1,e⟩:=zc e;refine⟨ρ,σ,st,x,st1,a,rp,e1,fun ρ1 H1 u x1 rp1 a1=>?_⟩;split at e
 ·rename_i h0;obtain⟨p,rfl,hd⟩:=zbgl rp1 a1 h0;obtain⟨y,st2,e2,e⟩:=zc e;refine⟨p,rfl,hd,?_⟩;refine⟨ρ1,σ,st1,y,st2,a.ext x1,rp1,e2,fun ρ2 H2 w x2 rp2 a2=>?_⟩;split at e
  ·rename_i n k hk _;split at e
   ·rename_i kvs hn;split at e
    ·rename_i z hv;cases e;obtain⟨p',ep,hp,vs,g1,g2⟩:=zfu rp2 (a1.ext x2) hn (by intro z;cases z);cases ep;obtain⟨b,rfl,g3⟩:=zbbz a2 hk;have g4:=g2.val k;rw[hv] at g4;obtain⟨vv,g5,g6⟩:=g4;have E:Ext ρ2 H2 ρ2 (upd H2 p (.dT (dropK vs (k.map Sum.inl)))):=Ext.wr hp (zks g1) _;exact⟨vs,_,vv,b,g1,rfl,g3,g5,q _ _ _ ((x1.trans x2).trans E) (rp2.wr hp (zks g1) ⟨_,zbb,(g2.drop k).ext E⟩) (g6.ext E)⟩
    ·cases e
   ·cases e
  ·cases e
 ·cases e
theorem zbhd (hu:X.A.units+1 < cLine)(ho:DE X o f)(hi:DE X i g)(hv:DE X value h)(hs:swapsWith value (some (.Subscript o i pos')) pos.line X.env=pure false) :
  DSt X (.Assign [.Subscript o i pos'] value pos) (sDPut f g h):=zrw (zyp hu ho hi hv hs) fun E τ H hq0=>by
 obtain⟨ρ,σ,st,fl,st',a,rp,e,q⟩:=hq0;obtain⟨v,st1,e1,e⟩:=zc e;obtain⟨x,st2,e2,e⟩:=zc e;obtain⟨y,st3,e3,e⟩:=zc e;refine⟨ρ,σ,st,v,st1,a,rp,e1,fun ρ1 H1 u x1 rp1 a1=>?_⟩;refine⟨ρ1,σ,st1,x,st2,a.ext x1,rp1,e2,fun ρ2 H2 w x2 rp2 a2=>?_⟩;refine⟨ρ2,σ,st2,y,st3,a.ext (x1.trans x2),rp2,e3,fun ρ3 H3 t x3 rp3 a3=>?_⟩;split at e
 ·rename_i n k hk _;split at e
  ·rename_i kvs hn;split at e
   ·rename_i hl;cases e;obtain⟨p,rfl,hp,vs,g1,g2⟩:=zfu rp3 (a2.ext x3) hn (by intro z;cases z);obtain⟨b,rfl,g3⟩:=zbbz a3 hk;have E:Ext ρ3 H3 ρ3 (upd H3 p (.dT (putK vs (k.map Sum.inl) u))):=Ext.wr hp (zks g1) _;refine⟨p,_,rfl,DPut.t g1 g3 (by rw[← g2.length];exact hl),?_⟩;exact q _ _ _ ((x1.trans (x2.trans x3)).trans E) (rp3.wr hp (zks g1) ⟨_,zbb,(g2.put k (a1.ext (x2.trans x3))).ext E⟩) (a.ext ((x1.trans (x2.trans x3)).trans E))
   ·cases e
  ·cases e
 ·cases e
end
noncomputable def bSorted:List D->Store->Res D:=fun xs st=>match xs with
 | [x]=>match (asL st x).bind asRows with
  | some l=>if l.length<=1000000 then .ok (.lst (aJ (sortR l))) st else .stuck
  | none=>match pairsOf st x with
   | some kvs=>if kvs.length<=1000000 then .ok (.lst (aJ (sortR (kvs.map (·.1))))) st else .stuck
   | none=>.stuck
 | _=>.stuck
theorem zqs {K:Fg}:CaD K bSorted (fun xs H Q=>rSortedAL K xs H Q\/rSortedDAL xs H Q):=fun ρ H st xs us z st' Q rp aa e q=>by
 unfold bSorted at e;split at e
 ·obtain⟨u,rfl,a⟩:=aa.one;split at e
  ·rename_i l hl;obtain⟨ys,h0,hl⟩:=xfd.mp hl;split at e
   ·rename_i few;cases e;obtain⟨p,vs,rfl,h1,h2⟩:=zhx rp a h0;obtain⟨ps,rfl,rfl,h3⟩:=zqt h2 hl;rw[xbc] at few;refine .inl ⟨p,ps,rfl,SqL.of h1,few,fun x hx=>SqT.of (h3 x hx).1,fun t qs ht hp hs=>?_⟩;have e2:qs.map (·.2)=sortR (ps.map (·.2)):=znz (hp.map _) hs;refine q _ _ _ (Ext.new ht _) (rp.new ht _) (.newL rp ht ?_);rw[← e2];exact zof qs fun x hx=>h3 x (hp.mem_iff.mp hx)
   ·cases e
  ·split at e
   ·rename_i kvs hk;split at e
    ·rename_i few;cases e;obtain⟨p,vs,rfl,h1,h2⟩:=zoh rp a hk;refine .inr ⟨p,vs,kvs.map (·.1),rfl,h1,h2.keys,by rw[xbc];exact few,fun t qs ht hp hs hq=>?_⟩;have e2:qs.map (·.2)=sortR (kvs.map (·.1)):=znz hp hs;refine q _ _ _ (Ext.new ht _) (rp.new ht _) (.newL rp ht ?_);rw[← e2];exact zof qs fun x hx=>⟨hq x hx,zpw rp (hq x hx)⟩
    ·cases e
   ·cases e
 ·cases e
theorem zjp {X:Cx}(hc:X.calm=true)(hu:X.A.units + 64 < cLine):CallR X (.builtin "sorted") (fun xs H Q=>rSortedAL X.K xs H Q\/rSortedDAL xs H Q):=(znn hu).or (zmg hc hu)
noncomputable def eAppend (f:SE) (g:SA):SE:=fun σ st=>(f σ st).bind fun x st1=>match x,asL st1 x with
 | .ref n,some _=>(g σ st1).bind fun ys st2=>match ys,st2[n]? with
  | [y],some (.lst xs)=>if xs.length < sizeLine then .ok .non (st2.set n (.lst (xs++[y]))) else .stuck
  | _,_=>.stuck
 | _,_=>.stuck
noncomputable def eExtend (f:SE) (g:SA):SE:=fun σ st=>(f σ st).bind fun x st1=>match x,asL st1 x with
 | .ref n,some _=>(g σ st1).bind fun ys st2=>match ys,st2[n]? with
  | [y],some (.lst xs)=>match asL st2 y with
   | some zs=>if xs.length+zs.length<=sizeLine then .ok .non (st2.set n (.lst (xs++zs))) else .stuck
   | none=>.stuck
  | _,_=>.stuck
 | _,_=>.stuck
noncomputable def eClear (f:SE):SE:=fun σ st=>(f σ st).bind fun x st1=>match x with
 | .ref n=>match st1[n]? with
  | some (.lst _)=>.ok .non (st1.set n (.lst []))
  | _=>.stuck
 | _=>.stuck
section
variable {X:Cx}{o e i value:Expr}{es:List Expr}{f g h:SE}{ga:SA}{pos apos cpos:Pos}
theorem zbdc (ho:DE X o f)(ha:DA X (e::es) ga)(hbase:attributeBase o "append" X.env (eval o X.env)=eval o X.env:=by rfl)
  (hfew:((backTo cpos (starEach (e::es) X.env)).all (fun x=>!x.1)&&(backToKw cpos (keywordEach [] X.env)).all (fun x=>x.1.isSome)
   && decide ((e::es).length+([]:List Keyword).length+(if([]:List Keyword).isEmpty then 0 else 1) < 30))=true:=by rfl)
  (hline:(apos.endLine==cpos.line)=true:=by rfl)(hs:starEach (e::es) X.env=(false,eval e X.env)::starEach es X.env:=by rfl)(hplain:(backTo cpos (starEach es X.env)).any (·.1)=false:=by rfl) :
  DE X (.Call (.Attribute o "append" apos) (e::es) [] cpos) (eAppend f ga):=zha (zbnv xja F.slot_list_append F.type_list_append zpx ho ha hbase hfew hline hs hplain) fun τ H Q hq0=>by
 obtain⟨ρ,σ,st,v,st',a,rp,e,q⟩:=hq0;obtain⟨x,st1,e1,e⟩:=zc e;refine⟨ρ,σ,st,x,st1,a,rp,e1,fun ρ1 H1 u x1 rp1 a1=>?_⟩;split at e
 ·rename_i n _ hL;obtain⟨ys,st2,e2,e⟩:=zc e;obtain⟨p,vs,rfl,g1,g2⟩:=zhx rp1 a1 hL;refine⟨.inl ⟨rfl,_,SqL.of g1⟩,ρ1,σ,st1,ys,st2,a.ext x1,rp1,e2,fun ρ2 H2 ws x2 rp2 a2=>?_⟩;split at e
  ·rename_i y xs hn;split at e
   ·rename_i hl;cases e;obtain⟨w,rfl,a3⟩:=a2.one;obtain⟨p',ep,hp,vs2,k1,k2⟩:=zfu rp2 (a1.ext x2) hn (by intro z;cases z);cases ep;have E:Ext ρ2 H2 ρ2 (upd H2 p (.lst (vs2++[w]))):=Ext.wr hp (zex k1) _;exact⟨p,vs2,w,rfl,rfl,k1,by rw[k2.length];exact hl,q _ _ _ ((x1.trans x2).trans E) (rp2.wr hp (zex k1) ⟨_,zbb,(k2.append (.cons a3 .nil)).ext E⟩) .non⟩
   ·cases e
  ·cases e
 ·cases e
theorem zbcx (ho:DE X o f)(ha:DA X (e::es) ga)(hbase:attributeBase o "extend" X.env (eval o X.env)=eval o X.env:=by rfl)
  (hfew:((backTo cpos (starEach (e::es) X.env)).all (fun x=>!x.1)&&(backToKw cpos (keywordEach [] X.env)).all (fun x=>x.1.isSome)
   && decide ((e::es).length+([]:List Keyword).length+(if([]:List Keyword).isEmpty then 0 else 1) < 30))=true:=by rfl)
  (hline:(apos.endLine==cpos.line)=true:=by rfl)(hs:starEach (e::es) X.env=(false,eval e X.env)::starEach es X.env:=by rfl)(hplain:(backTo cpos (starEach es X.env)).any (·.1)=false:=by rfl) :
  DE X (.Call (.Attribute o "extend" apos) (e::es) [] cpos) (eExtend f ga):=zha (zbnv xja F.slot_list_extend F.type_list_extend zww ho ha hbase hfew hline hs hplain) fun τ H Q hq0=>by
 obtain⟨ρ,σ,st,v,st',a,rp,e,q⟩:=hq0;obtain⟨x,st1,e1,e⟩:=zc e;refine⟨ρ,σ,st,x,st1,a,rp,e1,fun ρ1 H1 u x1 rp1 a1=>?_⟩;split at e
 ·rename_i n _ hL;obtain⟨ys,st2,e2,e⟩:=zc e;obtain⟨p,vs,rfl,g1,g2⟩:=zhx rp1 a1 hL;refine⟨.inl ⟨rfl,_,SqL.of g1⟩,ρ1,σ,st1,ys,st2,a.ext x1,rp1,e2,fun ρ2 H2 ws x2 rp2 a2=>?_⟩;split at e
  ·rename_i y xs hn;split at e
   ·rename_i zs hz;split at e
    ·rename_i hl;cases e;obtain⟨w,rfl,a3⟩:=a2.one;obtain⟨p',ep,hp,vs2,k1,k2⟩:=zfu rp2 (a1.ext x2) hn (by intro z;cases z);cases ep;obtain⟨b,ws2,rfl,m1,m2⟩:=zhx rp2 a3 hz;have E:Ext ρ2 H2 ρ2 (upd H2 p (.lst (vs2++ws2))):=Ext.wr hp (zex k1) _;exact⟨p,b,vs2,ws2,rfl,rfl,k1,m1,by rw[k2.length,m2.length];exact hl,q _ _ _ ((x1.trans x2).trans E) (rp2.wr hp (zex k1) ⟨_,zbb,(k2.append m2).ext E⟩) .non⟩
    ·cases e
   ·cases e
  ·cases e
 ·cases e
theorem zbhv (ho:DE X o f)(hbase:attributeBase o "clear" X.env (eval o X.env)=eval o X.env:=by rfl)(hline:(apos.endLine==cpos.line)=true:=by rfl):DE X (.Call (.Attribute o "clear" apos) [] [] cpos) (eClear f) :=
 zha (zbfm xja F.slot_list_clear F.type_list_clear zbbo ho hbase hline) fun τ H Q hq0=>by
 obtain⟨ρ,σ,st,v,st',a,rp,e,q⟩:=hq0;obtain⟨x,st1,e1,e⟩:=zc e;refine⟨ρ,σ,st,x,st1,a,rp,e1,fun ρ1 H1 u x1 rp1 a1=>?_⟩;split at e
 ·split at e
  ·rename_i n _ xs hn;cases e;obtain⟨p,rfl,hp,vs2,k1,k2⟩:=zfu rp1 a1 hn (by intro z;cases z);have E:Ext ρ1 H1 ρ1 (upd H1 p (.lst [])):=Ext.wr hp (zex k1) _;exact⟨.inl ⟨rfl,_,SqL.of k1⟩,p,vs2,rfl,rfl,k1,q _ _ _ (x1.trans E) (rp1.wr hp (zex k1) ⟨_,zbb,.nil⟩) .non⟩
  ·cases e
 ·cases e
noncomputable def eFz (f:SE):SE:=fun σ st=>(f σ st).bind fun x st1=>match x with
 | .ref n=>match st1[n]? with
  | some (.lst xs)=>.ok (.lst xs) (st1.set n .dead)
  | _=>.stuck
 | _=>.stuck
theorem d_fz (ho:DE X o f):DE X o (eFz f):=zha ho fun τ H Q hq0=>by
 obtain⟨ρ,σ,st,v,st',a,rp,e,q⟩:=hq0;obtain⟨x,st1,e1,e⟩:=zc e;refine⟨ρ,σ,st,x,st1,a,rp,e1,fun ρ1 H1 u x1 rp1 a1=>?_⟩;split at e
 ·rename_i n;split at e
  ·rename_i xs hn;cases e;obtain⟨p,rfl,hp,vs2,k1,k2⟩:=zfu rp1 a1 hn (by intro z;cases z);have hlen:=(xbf.mp hp).1;obtain⟨E,R⟩:=rp1.kill hlen;refine q _ _ _ (x1.trans E) R (.lst k1 ⟨fun z=>?_,fun z=>(rp1.gh p z).2 (xbq hp)⟩ (k2.ext E));obtain⟨i,hi,e2⟩:=xep z;have e3:(ρ1.m.set n none)[i]?=some (some p):=by rw[xbi hi,e2]
   by_cases hin:i=n
   ·subst hin;rw[xec hlen] at e3;simp at e3
   ·rw[xdm (xcs hin)] at e3;exact hin (rp1.inj i n p e3 hp)
  ·cases e
 ·cases e
end
noncomputable def sNx:SS:=fun σ st=>.ok (.nx σ) st
noncomputable def sBrk:SS:=fun σ st=>.ok (.brk σ) st
noncomputable def sCt:SS:=fun σ st=>.ok (.ct σ) st
noncomputable def sRet (f:SE):SS:=fun σ st=>(f σ st).bind fun v st1=>.ok (.ret v) st1
noncomputable def sRetN:SS:=fun _ st=>.ok (.ret .non) st
noncomputable def sDrop (f:SE):SS:=fun σ st=>(f σ st).bind fun _ st1=>.ok (.nx σ) st1
noncomputable def aF (i:Nat) (f:SE):SS:=fun σ st=>(f σ st).bind fun v st1=>.ok (.nx (σ.set i (some v))) st1
noncomputable def aD (s t:SS):SS:=fun σ st=>match s σ st with
 | .ok (.nx σ1) st1=>t σ1 st1
 | r=>r
noncomputable def sIf (c:ST) (s t:SS):SS:=fun σ st=>(c σ st).bind fun b st1=>if b=true then s σ st1 else t σ st1
noncomputable def sAug (i:Nat) (g:D->D->Store->Res D) (f:SE):SS:=fun σ st=>match σ[i]? with
 | some (some x)=>(f σ st).bind fun y st1=>(g x y st1).bind fun z st2=>.ok (.nx (σ.set i (some z))) st2
 | _=>.stuck
noncomputable def sSetIx (f g h:SE):SS:=fun σ st=>(h σ st).bind fun v st1=>(f σ st1).bind fun x st2=>(g σ st2).bind fun y st3=>match x,y with
 | .ref n,.int k=>match st3[n]? with
  | some (.lst xs)=>match ixN xs.length k with
   | some j=>.ok (.nx σ) (st3.set n (.lst (xs.set j v)))
   | none=>.stuck
  | _=>.stuck
 | _,_=>.stuck
section
variable {X:Cx}{e c o i value:Expr}{sm:Stmt}{rest:List Stmt}{f g h:SE}{s t:SS}{b:ST}{pos pos':Pos}
theorem zbmb:DSs X [] sNx:=zbet zbev fun E τ H hq0=>by
 obtain⟨ρ,σ,st,fl,st',a,rp,e,q⟩:=hq0;cases e;exact q _ _ _ (.refl _ _) rp a
theorem zbco:DSt X (.Break pos) sBrk:=zrw zbat fun E τ H hq0=>by
 obtain⟨ρ,σ,st,fl,st',a,rp,e,q⟩:=hq0;cases e;exact q _ _ _ (.refl _ _) rp a
theorem zblz (he:DE X e f):DSt X (.Return (some e) pos) (sRet f):=zrw (zbjz he) fun E τ H hq0=>by
 obtain⟨ρ,σ,st,fl,st',a,rp,e,q⟩:=hq0;obtain⟨x,st1,e1,e⟩:=zc e;cases e;exact⟨ρ,σ,st,x,_,a,rp,e1,fun ρ1 H1 u x1 rp1 a1=>q _ _ _ x1 rp1 a1⟩
theorem zbhc (he:DE X e f)(hs:swapsWith e none pos.line X.env=pure false:=by rfl):DSt X (.Expr e pos) (sDrop f):=zrw (zbex he hs) fun E τ H hq0=>by
 obtain⟨ρ,σ,st,fl,st',a,rp,e,q⟩:=hq0;obtain⟨x,st1,e1,e⟩:=zc e;cases e;exact⟨ρ,σ,st,x,_,a,rp,e1,fun ρ1 H1 u x1 rp1 a1=>q _ _ _ x1 rp1 (a.ext x1)⟩
theorem zboo {K:Fg}{i:Nat}{f:SE}:∀E τ H,tDS K (aF i f) E τ H->tAsg (tD K f) (gName i) E τ H:=fun E τ H hq0=>by
 obtain⟨ρ,σ,st,fl,st',a,rp,e,q⟩:=hq0;obtain⟨x,st1,e1,e⟩:=zc e;cases e;exact⟨ρ,σ,st,x,_,a,rp,e1,fun ρ1 H1 u x1 rp1 a1=>q _ _ _ x1 rp1 ((a.ext x1).set a1 i)⟩
theorem zbly {i:Nat}{x:Str}(hN:X.N.Nodup)(hi:X.N[i]?=some x)(hx:L2.Loc X.env.scope x)(he:DE X e f)(hs:swapsWith e (some (.Name x pos')) pos.line X.env=pure false:=by rfl)(hf:X.fn x=true\/X.env.scope.names.lookup x=some .local:=by first | exact .inl rfl | exact .inr rfl | assumption) :
 DSt X (.Assign [.Name x pos'] e pos) (aF i f):=zrw (zbjy hN hi hx he hs hf) zboo
theorem zbma (h1:DSt X sm s):DSs X [sm] s:=zbeu h1
theorem zbhe (h1:DSt X sm s)(h2:DSs X rest t):DSs X (sm::rest) (aD s t):=zbet (zbar h1 h2) fun E τ H hq0=>by
 obtain⟨ρ,σ,st,fl,st',a,rp,e,q⟩:=hq0;unfold aD at e;split at e
 ·rename_i σ1 st1 e1;exact⟨ρ,σ,st,_,st1,a,rp,e1,fun ρ1 H1 τ1 x1 rp1 a1=>⟨ρ1,σ1,st1,fl,st',a1,rp1,e,q.ext x1⟩⟩
 ·rename_i hne;refine⟨ρ,σ,st,fl,st',a,rp,e,?_⟩;cases fl with
  | nx σ'=>exact absurd e (hne σ' st')
  | brk σ'=>exact q
  | ct σ'=>exact q
  | ret v=>exact q
theorem zbpq {a' b':List Stmt}(hc:DT X c b)(ha:DSs X a' s)(hb:DSs X b' t):DSt X (.If c a' b' pos) (sIf b s t):=zrw (zbot hc ha hb) fun E τ H hq0=>by
 obtain⟨ρ,σ,st,fl,st',a,rp,e,q⟩:=hq0;obtain⟨x,st1,e1,e⟩:=zc e;refine⟨ρ,σ,st,x,st1,a,rp,e1,fun ρ1 H1 x1 rp1=>?_⟩;cases x with
 | true=>exact iteT ⟨ρ1,σ,st1,fl,st',a.ext x1,rp1,e,q.ext x1⟩
 | false=>exact iteF ⟨ρ1,σ,st1,fl,st',a.ext x1,rp1,e,q.ext x1⟩
noncomputable def IpD (K:Fg) (g:D->D->Store->Res D) (r:TIp):Prop :=
 ∀ρ H st x y u v z st' (Q:VK),Rep K ρ st H->At K ρ H x u->At K ρ H y v->g x y st=.ok z st'->(∀ρ' H' w,Ext ρ H ρ' H'->Rep K ρ' st' H'->At K ρ' H' z w->Q w H')->r u v H Q
theorem zbmd {i:Nat}{x:Str}{op:Operator}{ti:TIp}{g:D->D->Store->Res D}(hN:X.N.Nodup)(hi:X.N[i]?=some x)(hx:L2.Loc X.env.scope x)(he:DE X e f)(ho:PIp X op ti)(hr:IpD X.K g ti)(hf:X.fn x=true\/X.env.scope.names.lookup x=some .local:=by first | exact .inl rfl | exact .inr rfl | assumption) :
  DSt X (.AugAssign (.Name x pos') op e pos) (sAug i g f):=zrw (zbkb hN hi hx he ho hf) fun E τ H hq0=>by
 obtain⟨ρ,σ,st,fl,st',a,rp,e,q⟩:=hq0;unfold sAug at e;split at e
 ·rename_i d hd;obtain⟨y,st1,e1,e⟩:=zc e;obtain⟨z,st2,e2,e⟩:=zc e;cases e;obtain⟨u,hu,a0⟩:=a.get hd;refine⟨u,hu,ρ,σ,st,y,st1,a,rp,e1,fun ρ1 H1 w x1 rp1 a1=>?_⟩;exact hr ρ1 H1 st1 d y u w z st' _ rp1 (a0.ext x1) a1 e2 fun ρ2 H2 zz x2 rp2 a2=>q _ _ _ (x1.trans x2) rp2 ((a.ext (x1.trans x2)).set a2 i)
 ·cases e
theorem ip_D {K:Fg}{p:Int->Int->Int}:IpD K (oI (fun _ _=>True) fun i j=>.int (p i j)) (ipI p):=fun ρ H st x y u v z st' Q rp a b e q=>by
 unfold oI at e;split at e
 ·cases a;cases b;rw[if_pos True.intro] at e;cases e;exact⟨_,_,rfl,rfl,q _ _ _ (.refl _ _) rp (.int _)⟩
 ·cases e
theorem zbcl (he:DE X value h)(ho:DE X o f)(hi:DE X i g)(ha:∀v,assign (.Subscript o i pos') X.env v=(do
   let ov ← holding [v] (eval o X.env)
   let iv ← holding [v,ov] (eval i X.env)
   standAt pos'
   holding [v,ov,iv] (setItem ov iv v)
   release [v,ov,iv] []):=by intro _;rfl)
  (hs:swapsWithSole [.Subscript o i pos'] value pos.line X.env=pure false:=by rfl)(hw:swappedStores [.Subscript o i pos'] value X.env=pure none:=by rfl)
  (h1:(assignEach [.Subscript o i pos'] X.env).map (·.2)=[assign (.Subscript o i pos') X.env]:=by rfl):DSt X (.Assign [.Subscript o i pos'] value pos) (sSetIx f g h) :=
 zrw (zbkc he (zbkg ho hi zbaj ha) hs hw h1) fun E τ H hq0=>by
 obtain⟨ρ,σ,st,fl,st',a,rp,e,q⟩:=hq0;obtain⟨v,st1,e1,e⟩:=zc e;obtain⟨x,st2,e2,e⟩:=zc e;obtain⟨y,st3,e3,e⟩:=zc e;refine⟨ρ,σ,st,v,st1,a,rp,e1,fun ρ1 H1 u x1 rp1 a1=>?_⟩;refine⟨ρ1,σ,st1,x,st2,a.ext x1,rp1,e2,fun ρ2 H2 w x2 rp2 a2=>?_⟩;refine⟨ρ2,σ,st2,y,st3,a.ext (x1.trans x2),rp2,e3,fun ρ3 H3 t x3 rp3 a3=>?_⟩;split at e
 ·rename_i n k _;split at e
  ·rename_i xs hn;split at e
   ·rename_i j hj;cases e;cases a3;obtain⟨p,rfl,hp,vs,g1,g2⟩:=zfu rp3 (a2.ext x3) hn (by intro z;cases z);have E:Ext ρ3 H3 ρ3 (upd H3 p (.lst (vs.set j u))):=Ext.wr hp (zex g1) _;refine⟨p,vs,k,j,rfl,rfl,g1,by rw[g2.length];exact hj,?_⟩;exact q _ _ _ ((x1.trans (x2.trans x3)).trans E) (rp3.wr hp (zex g1) ⟨_,zbb,(g2.set (a1.ext (x2.trans x3)) j).ext E⟩) (a.ext ((x1.trans (x2.trans x3)).trans E))
   ·cases e
  ·cases e
 ·cases e
end
noncomputable abbrev SG:=D->DS->Option DS
noncomputable def gN (i:Nat):SG:=fun d σ=>some (σ.set i (some d))
noncomputable def gsNil:List D->DS->Option DS:=fun ds σ=>match ds with
 | []=>some σ
 | _=>none
noncomputable def gsCons (t:SG) (u:List D->DS->Option DS):List D->DS->Option DS:=fun ds σ=>match ds with
 | d::r=>(t d σ).bind fun σ1=>u r σ1
 | _=>none
noncomputable def gT (n:Nat) (u:List D->DS->Option DS):SG:=fun d σ=>match d with
 | .tup ds=>if ds.length=n then u ds σ else none
 | _=>none
noncomputable def gD (K:Fg) (b:SG):TG:=fun v τ H Q=>∃ρ σ d σ',AtS K ρ H σ τ/\At K ρ H d v/\b d σ=some σ'/\∀τ',AtS K ρ H σ' τ'->Q τ' H
noncomputable def gDs (K:Fg) (b:List D->DS->Option DS):TGs:=fun vs τ H Q=>∃ρ σ ds σ',AtS K ρ H σ τ/\AtAll K ρ H ds vs/\b ds σ=some σ'/\∀τ',AtS K ρ H σ' τ'->Q τ' H
noncomputable abbrev DG (X:Cx) (tg:Expr) (b:SG):Prop:=PG X tg (gD X.K b)
noncomputable abbrev DGs (X:Cx) (ts:List Expr) (b:List D->DS->Option DS):Prop:=PGs X ts (gDs X.K b)
section
variable {X:Cx}{pos:Pos}{e:Expr}{es:List Expr}{t:SG}{u:List D->DS->Option DS}
theorem zbnu {g g':TG}(h:PG X e g)(k:∀v τ H Q,g' v τ H Q->g v τ H Q):PG X e g':=fun aU s σ H v u Q I r q=>h aU s σ H v u Q I r (k _ _ _ _ q)
theorem zbfg {g g':TGs}(h:PGs X es g)(k:∀v τ H Q,g' v τ H Q->g v τ H Q):PGs X es g':=fun aU s σ H v u Q I r q=>h aU s σ H v u Q I r (k _ _ _ _ q)
theorem zbhn {i:Nat}{x:Str}(hN:X.N.Nodup)(hi:X.N[i]?=some x)(hx:L2.Loc X.env.scope x)(hf:X.fn x=true\/X.env.scope.names.lookup x=some .local:=by first | exact .inl rfl | exact .inr rfl | assumption):DG X (.Name x pos) (gN i) :=
 zbnu (zbfi hN hi hx hf) fun v τ H Q hq0=>by
 obtain⟨ρ,σ,d,σ',a,b,e,q⟩:=hq0;cases e;exact q _ (a.set b i)
theorem zbhm:DGs X [] gsNil:=zbfg zbfh fun v τ H Q hq0=>by
 obtain⟨ρ,σ,d,σ',a,b,e,q⟩:=hq0;unfold gsNil at e;split at e
 ·cases e;cases b;exact⟨rfl,q _ a⟩
 ·cases e
theorem zbcu (h1:DG X e t)(h2:DGs X es u)(hs:(assignEach (e::es) X.env).map (·.2)=assign e X.env::(assignEach es X.env).map (·.2):=by rfl):DGs X (e::es) (gsCons t u) :=
 zbfg (zbay h1 h2 hs) fun v τ H Q hq0=>by
 obtain⟨ρ,σ,d,σ',a,b,e,q⟩:=hq0;unfold gsCons at e;split at e
 ·obtain⟨σ1,e1,e2⟩:=xfd.mp e;cases b with
  | cons b1 b2=>exact⟨_,_,rfl,ρ,σ,_,σ1,a,b1,e1,fun τ1 a1=>⟨ρ,σ1,_,σ',a1,b2,e2,q⟩⟩
 ·cases e
theorem zbmh {k:Nat}{n:Nat}(hc:X.calm=true)(h:DGs X es u)(hn:(assignEach es X.env).length=n:=by rfl)(hst:(assignEach es X.env).findIdx? (·.1)=none:=by rfl):DG X (.Tuple es k pos) (gT n u) :=
 zbnu (zbkf hc h hn hst) fun v τ H Q hq0=>by
 obtain⟨ρ,σ,d,σ',a,b,e,q⟩:=hq0;unfold gT at e;split at e
 ·split at e
  ·rename_i hl;cases b with
   | tup h1 h2 h3=>exact⟨_,_,rfl,SqT.of h1,by rw[h3.length];exact hl,ρ,σ,_,σ',a,h3,e,q⟩
  ·cases e
 ·cases e
end
structure ExtG (ρ:Loc) (H:Hp) (ρ':Loc) (H':Hp):Prop where
 len:ρ.m.length<=ρ'.m.length
 old:∀(n:Nat) (a:Addr),n < ρ.m.length->ρ'.m[n]?=some (some a)->ρ.m[n]?=some (some a)
 keep:∀a o,H a=some o->some a∉ρ.m->H' a=some o/\some a∉ρ'.m
 gho:∀a∈ρ'.g,a∈ρ.g\/H a=none
 frz:∀a ob u,H a=some (.frz ob u)->H' a=some (.frz ob u)
theorem Ext.toG {ρ ρ':Loc}{H H':Hp}(x:Ext ρ H ρ' H'):ExtG ρ H ρ' H':=⟨x.len,x.old,x.keep,fun a h=>.inl (by rw[← x.gho];exact h),x.frz⟩
theorem ExtG.then {ρ ρ1 ρ2:Loc}{H H1 H2:Hp}(a:ExtG ρ H ρ1 H1)(b:Ext ρ1 H1 ρ2 H2):ExtG ρ H ρ2 H2 :=
 ⟨xbb a.len b.len,fun n c h e=>a.old n c h (b.old n c (xbg h a.len) e),fun c o e n=>by
  obtain⟨e1,n1⟩:=a.keep c o e n
  exact b.keep c o e1 n1,fun c h=>a.gho c (by rw[← b.gho];exact h),fun c ob u e=>b.frz c ob u (a.frz c ob u e)⟩
theorem ExtG.out {ρ ρ':Loc}{H H':Hp}(x:ExtG ρ H ρ' H'){a:Addr}{o:HO}(h:H a=some o)(n:Out ρ a):H' a=some o/\Out ρ' a :=
 ⟨(x.keep a o h n.1).1,(x.keep a o h n.1).2,fun z=>by
  rcases x.gho a z with q | q
  ·exact n.2 q
  ·rw[h] at q;cases q⟩
theorem ExtG.mv {ρ ρ':Loc}{H H':Hp}(x:ExtG ρ H ρ' H'):Mv ρ H ρ' H':=⟨fun h n=>x.out h n,x.len,x.old⟩
theorem At.extG {K:Fg}{ρ ρ':Loc}{H H':Hp}(x:ExtG ρ H ρ' H'){d:D}{v:V}(h:At K ρ H d v):At K ρ' H' d v:=h.mv x.mv
theorem Ls.extG {K:Fg}{ρ ρ':Loc}{H H':Hp}{a:Addr}{vs:List V}(x:ExtG ρ H ρ' H')(h:Ls K ρ H a vs):Ls K ρ' H' a vs:=h.mv x.mv
structure ItOk (K:Fg) (ρ:Loc) (H:Hp) (J:It) (xs:List D):Prop where
 item:∀ρ2 H2,ExtG ρ H ρ2 H2->∀(i:Nat) (x:D),xs[i]?=some x->J.go i H2/\∀y H3,J.yld i H2 y H3->Ext ρ2 H2 ρ2 H3/\∀st,Rep K ρ2 st H2->Rep K ρ2 st H3/\At K ρ2 H3 x y
 done:∀ρ2 H2,ExtG ρ H ρ2 H2->∀i:Nat,xs.length<=i->J.stop i H2
noncomputable def iD (K:Fg) (f:SA):TI:=fun τ H R=>∃ρ σ st xs st',AtS K ρ H σ τ/\Rep K ρ st H/\f σ st=.ok xs st'/\∀ρ' H' J,Ext ρ H ρ' H'->Rep K ρ' st' H'->ItOk K ρ' H' J xs->R J H'
noncomputable abbrev DI (X:Cx) (tg iter:Expr) (f:SA):Prop:=PI X tg iter (iD X.K f)
noncomputable def seqV:D->Option (List D)
 | .tup xs=>some xs
 | .lst xs=>some xs
 | .scr xs=>some xs
 | _=>none
noncomputable def aH (f:SE):SA:=fun σ st=>(f σ st).bind fun x st1=>match seqV x with
 | some xs=>.ok xs st1
 | none=>.stuck
noncomputable def rng (lo:Int) (n:Nat):List D:=(List.range n).map fun(i:Nat)=>D.int (lo+i)
noncomputable def iR1 (g:SA):SA:=fun σ st=>(g σ st).bind fun xs st1=>match xs with
 | [.int j]=>if -(2 ^ 62)<=j/\j < 2 ^ 62 then .ok (rng 0 j.toNat) st1 else .stuck
 | _=>.stuck
noncomputable def iR2 (g:SA):SA:=fun σ st=>(g σ st).bind fun xs st1=>match xs with
 | [.int i,.int j]=>if -(2 ^ 62)<=i/\i < 2 ^ 62/\-(2 ^ 62)<=j/\j < 2 ^ 62 then .ok (rng i (j - i).toNat) st1 else .stuck
 | _=>.stuck
theorem zkn {lo:Int}{n i:Nat}{x:D}(h:(rng lo n)[i]?=some x):i < n/\x=.int (lo+i):=by
 unfold rng at h;rw[xcv] at h;rcases xes i n with z | z
 ·rw[List.getElem?_range z] at h;exact⟨z,(xcn h).symm⟩
 ·rw[xjp (by rw[xfy];exact z)] at h;cases h
theorem zbgk {K:Fg}{ρ:Loc}{H:Hp}{lo:Int}{n:Nat}:ItOk K ρ H (Itr lo n) (rng lo n) where
 item:=fun ρ2 H2 x i d e=>by
  obtain⟨h1,rfl⟩:=zkn e;refine⟨h1,fun y H3 hy=>?_⟩;obtain⟨rfl,rfl⟩:=hy;exact⟨.refl _ _,fun _ r=>⟨r,.int _⟩⟩
 done:=fun ρ2 H2 x i h=>by
  unfold rng at h;rw[xbc,xfy] at h;exact h
section
variable {X:Cx}{tg l a b:Expr}{f:SE}{g:SA}{p pos:Pos}
theorem zbdq {t t':TI}(h:PI X tg l t)(k:∀τ H R,t' τ H R->t τ H R):PI X tg l t':=fun aU s σ H R I q=>h aU s σ H R I (k _ _ _ q)
theorem zbou {t t':TI}(h:PI X tg l t)(h':PI X tg l t'):PI X tg l (fun τ H R=>t τ H R\/t' τ H R):=fun aU s σ H R I q=>by
 rcases q with q | q
 ·exact h aU s σ H R I q
 ·exact h' aU s σ H R I q
theorem zzz {K:Fg}{ρ:Loc}{H:Hp}{p:Addr}{xs:List D}{vs:List V}(hs:∀ρ2 H2,ExtG ρ H ρ2 H2->SqL K H2 p vs)(al:AtAll K ρ H xs vs):ItOk K ρ H (Itl K p) xs where
 item:=fun ρ2 H2 x i d e=>by
  obtain⟨v,hv,a⟩:=al.get e;refine⟨⟨vs,v,hs _ _ x,hv⟩,fun y H3 hy=>?_⟩;obtain⟨rfl,h2⟩:=hy;have:=h2 vs (hs _ _ x);rw[hv] at this;cases this;exact⟨.refl _ _,fun _ r=>⟨r,a.extG x⟩⟩
 done:=fun ρ2 H2 x i h=>⟨vs,hs _ _ x,by rw[al.length];exact h⟩
theorem zbnl {K:Fg}{ρ:Loc}{H:Hp}{p:Addr}{xs:List D}{vs:List V}(hs:∀ρ2 H2,ExtG ρ H ρ2 H2->SqT K H2 p vs)(al:AtAll K ρ H xs vs):ItOk K ρ H (Itt K p) xs where
 item:=fun ρ2 H2 x i d e=>by
  obtain⟨v,hv,a⟩:=al.get e;refine⟨⟨vs,v,hs _ _ x,hv⟩,fun y H3 hy=>?_⟩;obtain⟨rfl,h2⟩:=hy;have:=h2 vs (hs _ _ x);rw[hv] at this;cases this;exact⟨.refl _ _,fun _ r=>⟨r,a.extG x⟩⟩
 done:=fun ρ2 H2 x i h=>⟨vs,hs _ _ x,by rw[al.length];exact h⟩
theorem zbmg (hl:DE X l f):DI X tg l (aH f):=zbdq (zbou (zbfe hl) (zbke hl)) fun τ H R hq0=>by
 obtain⟨ρ,σ,st,xs,st',a,rp,e,q⟩:=hq0;obtain⟨x,st1,e1,e⟩:=zc e;cases x with
 | tup ys =>
  cases e;refine .inr ⟨ρ,σ,st,_,_,a,rp,e1,fun ρ1 H1 u x1 rp1 a1=>?_⟩;cases a1 with
  | tup h1 h2 h3=>exact⟨_,rfl,⟨_,SqT.of h1⟩,q _ _ _ x1 rp1 (zbnl (fun ρ2 H2 x2=>SqT.of (x2.out h1 h2).1) h3)⟩
 | lst ys =>
  cases e;refine .inl ⟨ρ,σ,st,_,_,a,rp,e1,fun ρ1 H1 u x1 rp1 a1=>?_⟩;cases a1 with
  | lst h1 h2 h3=>exact⟨_,rfl,⟨_,SqL.of h1⟩,q _ _ _ x1 rp1 (zzz (fun ρ2 H2 x2=>SqL.of (x2.out h1 h2).1) h3)⟩
 | scr ys =>
  cases e;refine .inl ⟨ρ,σ,st,_,_,a,rp,e1,fun ρ1 H1 u x1 rp1 a1=>?_⟩;cases a1 with
  | scr h1 h3=>exact⟨_,rfl,⟨_,h1.sq⟩,q _ _ _ x1 rp1 (zzz (fun ρ2 H2 x2=>(h1.extG x2).sq) h3)⟩
 | _=>cases e
theorem zxr (hg:Gl X "range")(hm:X.mg "range"=none)(ha:DA X [a] g)(hs:starEach [a] X.env=[(false, eval a X.env)]:=by rfl):DI X tg (.Call (.Name "range" p) [a] [] pos) (iR1 g) :=
 zbdq (zwl hg hm ha hs) fun τ H R hq0=>by
 obtain⟨ρ,σ,st,xs,st',a,rp,e,q⟩:=hq0;obtain⟨x,st1,e1,e⟩:=zc e;split at e
 ·split at e
  ·rename_i hj;cases e;refine⟨ρ,σ,st,_,_,a,rp,e1,fun ρ1 H1 u x1 rp1 a1=>?_⟩;obtain⟨w,rfl,a2⟩:=a1.one;cases a2;exact⟨_,rfl,hj.1,hj.2,q _ _ _ x1 rp1 zbgk⟩
  ·cases e
 ·cases e
theorem zxq (hg:Gl X "range")(hm:X.mg "range"=none)(ha:DA X [a, b] g)(hs:starEach [a, b] X.env=[(false, eval a X.env),(false, eval b X.env)]:=by rfl)(hs2:starEach [b] X.env=[(false, eval b X.env)]:=by rfl):DI X tg (.Call (.Name "range" p) [a, b] [] pos) (iR2 g) :=
 zbdq (zwk hg hm ha hs hs2) fun τ H R hq0=>by
 obtain⟨ρ,σ,st,xs,st',a,rp,e,q⟩:=hq0;obtain⟨x,st1,e1,e⟩:=zc e;split at e
 ·split at e
  ·rename_i hj;cases e;refine⟨ρ,σ,st,_,_,a,rp,e1,fun ρ1 H1 u x1 rp1 a1=>?_⟩;obtain⟨w,w2,rfl,a2,a3⟩:=a1.two;cases a2;cases a3;exact⟨_,_,rfl,hj,q _ _ _ x1 rp1 zbgk⟩
  ·cases e
 ·cases e
end
noncomputable def iDict (f:SE):SA:=fun σ st=>(f σ st).bind fun x st1=>match x with
 | .ref n=>match st1[n]? with
  | some (.dT kvs)=>.ok (aJ (kvs.map (·.1))) (st1.set n (.fT kvs))
  | _=>.stuck
 | _=>.stuck
section
variable {X:Cx}{tg l:Expr}{f:SE}
theorem zbhl (hl:DE X l f):DI X tg l (iDict f):=zbdq (zbff hl) fun τ H R hq0=>by
 obtain⟨ρ,σ,st,xs,st',a,rp,e,q⟩:=hq0;obtain⟨x,st1,e1,e⟩:=zc e;refine⟨ρ,σ,st,x,st1,a,rp,e1,fun ρ1 H1 u x1 rp1 a1=>?_⟩;split at e
 ·rename_i n;split at e
  ·rename_i kvs hn;cases e;obtain⟨p,rfl,hp,vs,g1,g2⟩:=zfu rp1 a1 hn (by intro z;cases z);refine⟨p,vs,kvs.map (·.1),rfl,g1,g2.keys,fun ob ps h1 h2=>?_⟩;have E:Ext ρ1 H1 ρ1 (upd H1 p (.frz ob (.dT vs))):=Ext.wr hp (zks g1) _;have R:Rep X.K ρ1 (st1.set n (.fT kvs)) (upd H1 p (.frz ob (.dT vs))):=rp1.wr hp (zks g1) ⟨vs,ob,zbb,g2.ext E⟩;refine q _ _ _ (x1.trans E) R ⟨fun ρ2 H2 x2 i d e=>?_,fun ρ2 H2 x2 i h=>?_⟩
   ·have e2:(ps.map (·.2))[i]?=(kvs.map (·.1))[i]?:=by rw[h1]
    unfold aJ at e;rw[xcv,← e2,xcv] at e;cases hi:ps[i]? with
    | none=>rw[hi] at e;cases e
    | some x =>
     rw[hi] at e;cases e;refine⟨⟨(xbf.mp hi).1,x2.frz _ _ _ zbb⟩,fun y H3 hy=>?_⟩;obtain⟨rfl,x',hx',rfl⟩:=hy;rw[hi] at hx';cases hx';have ht:=h2 x (xbq hi);have a3:At X.K ρ1 H1 (aL x.2) (.ref x.1):=.tup ht (zpw rp1 ht) (zlx _);exact⟨.refl _ _,fun _ r=>⟨r,(a3.ext E).extG x2⟩⟩
   ·have e2:=congrArg List.length h1;rw[xbc] at e2;unfold aJ at h;rw[xbc,← e2] at h;exact⟨h,x2.frz _ _ _ zbb⟩
  ·cases e
 ·cases e
end
noncomputable def forF (bd:SG) (body:SS):List D->SS
 | [],σ,st=>.ok (.nx σ) st
 | x::xs,σ,st=>match bd x σ with
  | none=>.stuck
  | some σ1=>match body σ1 st with
   | .ok (.nx σ2) st2=>forF bd body xs σ2 st2
   | .ok (.ct σ2) st2=>forF bd body xs σ2 st2
   | .ok (.brk σ2) st2=>.ok (.nx σ2) st2
   | r=>r
noncomputable def sFor (it:SA) (bd:SG) (body:SS):SS:=fun σ st=>(it σ st).bind fun xs st1=>forF bd body xs σ st1
noncomputable def whileF (c:ST) (body:SS):Nat->SS
 | 0,_,_=>.stuck
 | n+1,σ,st=>(c σ st).bind fun b st1=>if b=true then(match body σ st1 with
  | .ok (.nx σ2) st2=>whileF c body n σ2 st2
  | .ok (.ct σ2) st2=>whileF c body n σ2 st2
  | .ok (.brk σ2) st2=>.ok (.nx σ2) st2
  | r=>r) else .ok (.nx σ) st1
noncomputable def wCap:Nat:=1000000
noncomputable def sWhile (c:ST) (body:SS):SS:=whileF c body wCap
theorem zzo {α:Type}{xs:List α}{i:Nat}(h:i < xs.length):∃x,xs[i]?=some x/\xs.drop i=x::xs.drop (i+1):=⟨xs[i],xbi h,xgz h⟩
section
variable {X:Cx}{tg iter c:Expr}{body:List Stmt}{it:SA}{bd:SG}{b:SS}{t:ST}{pos:Pos}
theorem zbmc (hp:PassesOwn (model X.prog X.w) X.A X.env X.xe)(hc:X.calm=true)(hi:DI X tg iter it)(hg:DG X tg bd)(hb:DSs X body b)(hs:∀x,foldedSetIterable iter X.env x=pure x:=by intro _;rfl) :
  DSt X (.For tg iter body [] pos) (sFor it bd b):=zrw (zbka hp hc hi hg hb hs) fun E τ H hq0=>by
 obtain⟨ρ,σ,st,fl,st',a,rp,e,q⟩:=hq0;obtain⟨xs,st1,e1,e⟩:=zc e;refine⟨ρ,σ,st,xs,st1,a,rp,e1,fun ρ1 H1 J x1 rp1 ok=>?_⟩;have q1:=q.ext x1;refine⟨fun i m τ' H'=>i+m=xs.length/\∃ρ2 σ2 st2,Ext ρ1 H1 ρ2 H'/\AtS X.K ρ2 H' σ2 τ'/\Rep X.K ρ2 st2 H'/\forF bd b (xs.drop i) σ2 st2=.ok fl st',⟨xs.length,by lia,ρ1,σ,st1,.refl _ _,a.ext x1,rp1,e⟩,?_⟩;rintro i m τ' H' ⟨him,ρ2,σ2,st2,x2,a2,rp2,e2⟩;rcases xes i xs.length with hlt | hge
 ·obtain⟨x,hx,hd⟩:=zzo hlt;rw[hd] at e2;obtain⟨go,yl⟩:=ok.item ρ2 H' x2.toG i x hx;refine .inr ⟨go,fun τ3 H3=>∃ρ3 σ3 st3,Ext ρ1 H1 ρ3 H3/\AtS X.K ρ3 H3 σ3 τ3/\Rep X.K ρ3 st3 H3/\forF bd b (xs.drop (i+1)) σ3 st3=.ok fl st',fun τ3 H3 ⟨ρ3,σ3,st3,n1,n2,n3,n4⟩=>⟨m - 1,by lia,by lia,ρ3,σ3,st3,n1,n2,n3,n4⟩,fun y H3 hy=>?_⟩;obtain⟨y1,y4⟩:=yl y H3 hy;obtain⟨y2,y3⟩:=y4 _ rp2;unfold forF at e2;cases hbd:bd x σ2 with
  | none=>rw[hbd] at e2;cases e2
  | some σ1 =>
   rw[hbd] at e2;dsimp only at e2;have X3:=x2.trans y1;refine⟨ρ2,σ2,x,σ1,a2.ext y1,y3,hbd,fun τ4 a4=>?_⟩;cases hr:b σ1 st2 with
   | stuck=>rw[hr] at e2;cases e2
   | exc z w=>rw[hr] at e2;cases e2
   | ok fb st3 =>
    rw[hr] at e2;refine⟨ρ2,σ1,st2,fb,st3,a4,y2,hr,?_⟩;cases fb with
    | nx σ3=>exact fun ρ' H'' τ5 x5 rp5 a5=>⟨ρ',σ3,st3,X3.trans x5,a5,rp5,e2⟩
    | ct σ3=>exact fun ρ' H'' τ5 x5 rp5 a5=>⟨ρ',σ3,st3,X3.trans x5,a5,rp5,e2⟩
    | brk σ3 =>
     dsimp only at e2;cases e2;exact fun ρ' H'' τ5 x5 rp5 a5=>q1 _ _ _ (X3.trans x5) rp5 a5
    | ret v =>
     dsimp only at e2;cases e2;exact fun ρ' H'' u x5 rp5 a5=>q1 _ _ _ (X3.trans x5) rp5 a5
 ·rw[xhw hge] at e2;unfold forF at e2;cases e2;exact .inl ⟨ok.done ρ2 H' x2.toG i hge,q1 _ _ _ x2 rp2 a2⟩
theorem zbck (hp:PassesOwn (model X.prog X.w) X.A X.env X.xe)(hc:DT X c t)(hb:DSs X body b):DSt X (.While c body [] pos) (sWhile t b):=zrw (zbas hp hc hb) fun E τ H hq0=>by
 obtain⟨ρ,σ,st,fl,st',a,rp,e,q⟩:=hq0;unfold sWhile at e;generalize wCap=n at e;refine⟨fun m τ' H'=>∃ρ2 σ2 st2,Ext ρ H ρ2 H'/\AtS X.K ρ2 H' σ2 τ'/\Rep X.K ρ2 st2 H'/\whileF t b m σ2 st2=.ok fl st',⟨n,ρ,σ,st,.refl _ _,a,rp,e⟩,?_⟩;rintro m τ' H' ⟨ρ2,σ2,st2,x2,a2,rp2,e2⟩;cases m with
 | zero=>unfold whileF at e2;cases e2
 | succ m =>
  unfold whileF at e2;obtain⟨x,st3,e3,e4⟩:=zc e2;refine⟨ρ2,σ2,st2,x,st3,a2,rp2,e3,fun ρ3 H3 x3 rp3=>?_⟩;have X3:=x2.trans x3;cases x with
  | false =>
   rw[if_neg (by decide)] at e4;cases e4;exact iteF (q _ _ _ X3 rp3 (a2.ext x3))
  | true =>
   rw[if_pos rfl] at e4;refine iteT ⟨fun τ4 H4=>∃ρ4 σ4 st4,Ext ρ H ρ4 H4/\AtS X.K ρ4 H4 σ4 τ4/\Rep X.K ρ4 st4 H4/\whileF t b m σ4 st4=.ok fl st',fun τ4 H4 hh=>⟨m,xlh m,hh⟩,?_⟩;cases hr:b σ2 st3 with
   | stuck=>rw[hr] at e4;cases e4
   | exc z w=>rw[hr] at e4;cases e4
   | ok fb st5 =>
    rw[hr] at e4;refine⟨ρ3,σ2,st3,fb,st5,a2.ext x3,rp3,hr,?_⟩;cases fb with
    | nx σ3=>exact fun ρ' H'' τ5 x5 rp5 a5=>⟨ρ',σ3,st5,X3.trans x5,a5,rp5,e4⟩
    | ct σ3=>exact fun ρ' H'' τ5 x5 rp5 a5=>⟨ρ',σ3,st5,X3.trans x5,a5,rp5,e4⟩
    | brk σ3 =>
     dsimp only at e4;cases e4;exact fun ρ' H'' τ5 x5 rp5 a5=>q _ _ _ (X3.trans x5) rp5 a5
    | ret v =>
     dsimp only at e4;cases e4;exact fun ρ' H'' u x5 rp5 a5=>q _ _ _ (X3.trans x5) rp5 a5
end
noncomputable def compF (bd:SG) (c:ST) (f:SE):List D->DS->Store->Res (List D)
 | [],_,st=>.ok [] st
 | x::xs,σ,st=>match bd x σ with
  | none=>.stuck
  | some σ1=>(c σ1 st).bind fun b st1=>if b=true then(f σ1 st1).bind fun y st2=>(compF bd c f xs σ1 st2).bind fun ys st3=>.ok (y::ys) st3 else compF bd c f xs σ1 st1
noncomputable def aT (k:Nat) (is:List Nat) (σ:DS):DS:=List.replicate k none++is.map fun i=>(σ[i]?).getD none
noncomputable def aG (it:SA) (k:Nat) (is:List Nat) (bd:SG) (c:ST) (f:SE):SE:=fun σ st=>(it σ st).bind fun xs st1=>if xs.length<=sizeLine then(compF bd c f xs (aT k is σ) st1).bind fun ys st2=>.ok (.lst ys) st2 else .stuck
noncomputable def aI:ST:=fun _ st=>.ok true st
theorem AtS.start {K:Fg}{ρ:Loc}{H:Hp}{σ:DS}{τ:St}(h:AtS K ρ H σ τ)(k:Nat)(is:List Nat):AtS K ρ H (aT k is σ) (startC k is τ):=by
 have app:∀{a c:DS} {b d:St},AtS K ρ H a b->AtS K ρ H c d->AtS K ρ H (a++c) (b++d):=fun h1 h2=>by
  induction h1 with
  | nil=>exact h2
  | cons r t ih=>exact .cons r ih
 refine app ?_ ?_
 ·induction k with
  | zero=>exact .nil
  | succ k ih=>exact .cons (fun d e=>nomatch e) ih
 ·induction is with
  | nil=>exact .nil
  | cons i is ih =>
   refine .cons (fun d e=>?_) ih;have e:(σ[i]?).getD none=some d:=e;have e':σ[i]?=some (some d):=by
    cases q:σ[i]? with
    | none=>rw[q] at e;cases e
    | some o=>rw[q] at e;exact congrArg some e
   obtain⟨u,hu,a⟩:=h.get e';exact⟨u,by show(τ[i]?).getD none=some u;rw[hu];rfl,a⟩
noncomputable def Loc.with (ρ:Loc) (p:Addr):Loc:=⟨ρ.m,p::ρ.g⟩
theorem zbea {ρ:Loc}{H:Hp}{p:Addr}{o:HO}(hp:H p=none):Mv ρ H (ρ.with p) (upd H p o):=⟨fun e n=>⟨by rw[zy (zp e hp)];exact e,n.1,fun z=>by
 rcases xbx.mp z with z | z
 ·exact zp e hp z
 ·exact n.2 z⟩,xbe _,fun _ _ _ e=>e⟩
theorem At.with {K:Fg}{ρ:Loc}{H:Hp}{p:Addr}{o:HO}(hp:H p=none){d:D}{v:V}(h:At K ρ H d v):At K (ρ.with p) (upd H p o) d v:=h.mv (zbea hp)
theorem zzi {ρ ρ':Loc}{H:Hp}{p:Addr}{o:HO}(hm:ρ'.m=ρ.m)(hg:p∈ρ.g)(hs:∀a,a∈ρ'.g->a∈ρ.g):Mv ρ H ρ' (upd H p o):=⟨fun e n=>⟨by rw[zy (by rintro rfl;exact n.2 hg)];exact e,by rw[hm];exact n.1,fun z=>n.2 (hs _ z)⟩,by rw[hm];exact xbe _,fun _ _ _ e=>by rw[hm] at e;exact e⟩
theorem At.grow {K:Fg}{ρ ρ':Loc}{H:Hp}{p:Addr}{o:HO}(hm:ρ'.m=ρ.m)(hg:p∈ρ.g)(hs:∀a,a∈ρ'.g->a∈ρ.g){d:D}{v:V}(h:At K ρ H d v):At K ρ' (upd H p o) d v:=h.mv (zzi hm hg hs)
theorem AtAll.grow {K:Fg}{ρ ρ':Loc}{H:Hp}{p:Addr}{o:HO}(hm:ρ'.m=ρ.m)(hg:p∈ρ.g)(hs:∀a,a∈ρ'.g->a∈ρ.g){d:List D}{v:List V}(h:AtAll K ρ H d v):AtAll K ρ' (upd H p o) d v:=h.mv (zzi hm hg hs)
theorem OAt.map {K:Fg}{ρ ρ':Loc}{H H':Hp}{a:Addr}{x:O}(k:∀d v,At K ρ H d v->At K ρ' H' d v)(fz:∀b ob u,H b=some (.frz ob u)->H' b=some (.frz ob u))(same:H' a=H a)(h:OAt K ρ H x a):OAt K ρ' H' x a:=by
 have ka:∀{d:List D} {v:List V},AtAll K ρ H d v->AtAll K ρ' H' d v:=fun {d v} h=>by
  induction d generalizing v with
  | nil=>cases h;exact .nil
  | cons x xs ih=>cases h with | cons a b=>exact .cons (k _ _ a) (ih b)
 cases x with
 | lst xs=>obtain⟨vs,q,r⟩:=h;exact⟨vs,by rw[same];exact q,ka r⟩
 | dT kvs=>obtain⟨vs,q,r⟩:=h;exact⟨vs,by rw[same];exact q,Paired.mapP r fun p q z=>⟨z.1,k _ _ z.2⟩⟩
 | fT kvs=>obtain⟨vs,ob,q,r⟩:=h;exact⟨vs,ob,by rw[same];exact q,Paired.mapP r fun p q z=>⟨z.1,k _ _ z.2⟩⟩
 | dI kvs=>obtain⟨vs,q,r⟩:=h;exact⟨vs,by rw[same];exact q,Paired.mapP r fun p q z=>⟨z.1,k _ _ z.2⟩⟩
 | dead=>exact h.elim
 | tab=>obtain⟨c,ps,q,r⟩:=h;exact⟨c,ps,by rw[same];exact q,r.map fz⟩
theorem Rep.with {K:Fg}{ρ:Loc}{st:Store}{H:Hp}{p:Addr}(r:Rep K ρ st H)(hp:H p=none)(vs:List V):Rep K (ρ.with p) st (upd H p (.lst vs)) :=
 ⟨r.len,r.inj,fun m b y e1 e2=>by
  have q:=r.obj m b y e1 e2;obtain⟨u,hu⟩:=q.has;exact q.map (fun d v h=>h.with hp) (fun b ob u e=>by rw[zy (zp e hp)];exact e) (zy (zp hu hp)),fun a ha=>by
  rcases xbx.mp ha with rfl | ha
  ·exact⟨⟨vs,zbb⟩,(zlq r hp).1⟩
  ·obtain⟨⟨ws,h1⟩,h2⟩:=r.gh a ha
   exact⟨⟨ws,by rw[zy (zp h1 hp)];exact h1⟩,h2⟩,r.live⟩
theorem Rep.grow {K:Fg}{ρ ρ':Loc}{st:Store}{H:Hp}{p:Addr}(r:Rep K ρ st H)(hm:ρ'.m=ρ.m)(hg:p∈ρ.g)(hs:∀a,a∈ρ'.g->a∈ρ.g)(vs:List V):Rep K ρ' st (upd H p (.lst vs)) :=
 ⟨by rw[hm];exact r.len,by rw[hm];exact r.inj,fun m b y e1 e2=>by
  rw[hm] at e1;refine(r.obj m b y e1 e2).map (fun d v h=>h.grow hm hg hs) (fun b ob u e=>by rw[zy (by rintro rfl;obtain⟨⟨_,z⟩,_⟩:=r.gh _ hg;rw[e] at z;cases z)];exact e) (zy ?_);rintro rfl;exact(r.gh b hg).2 (xbq e1),fun a ha=>by
  obtain⟨⟨ws,h1⟩,h2⟩:=r.gh a (hs a ha);refine⟨?_,by rw[hm];exact h2⟩;by_cases e:a=p
  ·subst e;exact⟨vs,zbb⟩
  ·exact⟨ws,by rw[zy e];exact h1⟩,by rw[hm];exact r.live⟩
theorem AtS.map {K:Fg}{ρ ρ':Loc}{H H':Hp}{σ:DS}{τ:St}(k:∀d v,At K ρ H d v->At K ρ' H' d v)(h:AtS K ρ H σ τ):AtS K ρ' H' σ τ:=Paired.mapP h fun o v z d e=>by
 obtain⟨u,e1,a⟩:=z d e;exact⟨u,e1,k _ _ a⟩
section
variable {X:Cx}{tg iter elt:Expr}{ifs:List Expr}{it:SA}{bd:SG}{c:ST}{f:SE}{N:List Str}{k:Nat}{is:List Nat}{scope:Scope}{pos:Pos}
inductive CI (K:Fg) (bd:SG) (c:ST) (f:SE) (xs ys:List D) (st2:Store) (ρ1:Loc) (H1:Hp) (p:Addr) (i:Nat) (τ:St) (H':Hp):Prop where
 | mk {ρ2:Loc} {σ2:DS} {st3:Store} {acc:List D} {accV:List V} {zs:List D} (x2:ExtG ρ1 H1 ρ2 H') (hg:ρ2.g=p::ρ1.g) (hpp:H' p=some (.lst accV)) (hal:AtAll K ρ2 H' acc accV) (hli:acc.length<=i) (a2:AtS K ρ2 H' σ2 τ) (rp2:Rep K ρ2 st3 H') (e3:compF bd c f (xs.drop i) σ2 st3=.ok zs st2) (hac:acc++zs=ys):CI K bd c f xs ys st2 ρ1 H1 p i τ H'
theorem zbid {K:Fg}{τ:St}{H:Hp}{Q:V->Hp->Prop}{ρ:Loc}{σ:DS}{st st1 st2:Store}{xs ys:List D}(a:AtS K ρ H σ τ)(rp:Rep K ρ st H)(e1:it σ st=.ok xs st1)(hlen:xs.length<=sizeLine)(e2:compF bd c f xs (aT k is σ) st1=.ok ys st2)
 (fin:∀ρ1 H1 p ρ2 H' accV,Ext ρ H ρ1 H1->Rep K ρ1 st1 H1->H1 p=none->ExtG ρ1 H1 ρ2 H'->ρ2.g=p::ρ1.g->H' p=some (.lst accV)->AtAll K ρ2 H' ys accV->Rep K ρ2 st2 H'->Q (.ref p) H'):tComp (iD K it) k is (gD K bd) (tDT K c) (tD K f) τ H Q:=by
 refine⟨ρ,σ,st,xs,st1,a,rp,e1,fun ρ1 H1 J x1 rp1 ok p hp=>?_⟩
 refine⟨fun i m τ' H'=>i+m=xs.length/\CI K bd c f xs ys st2 ρ1 H1 p i τ' H',
  ⟨xs.length,by lia,.mk ?_ rfl zbb .nil (xdv _) (((a.ext x1).start k is).map fun d v h=>h.with hp) (rp1.with hp []) e2 rfl⟩,?_⟩
 ·have E:Ext ρ1 H1 ρ1 (upd H1 p (.lst [])):=Ext.new hp _
  exact⟨E.len,E.old,E.keep,fun a h=>by
   rcases xbx.mp h with rfl | h
   ·exact .inr hp
   ·exact .inl h,E.frz⟩
 rintro i m τ' H' ⟨him,@⟨ρ2,σ2,st3,acc,accV,zs,x2,hg,hpp,hal,hli,a2,rp2,e3,hac⟩⟩;have hpg:p∈ρ2.g:=by rw[hg];exact xbn
 rcases xes i xs.length with hlt | hge
 ·obtain⟨x,hx,hd⟩:=zzo hlt;rw[hd] at e3;obtain⟨go,yl⟩:=ok.item ρ2 H' x2 i x hx
  refine .inr ⟨go,CI K bd c f xs ys st2 ρ1 H1 p (i+1),
   fun τ4 H4 hh=>⟨m - 1,by lia,by lia,hh⟩,fun y H3 hy=>?_⟩
  obtain⟨y1,y4⟩:=yl y H3 hy;obtain⟨y2,y3⟩:=y4 _ rp2;unfold compF at e3;cases hbd:bd x σ2 with
  | none=>rw[hbd] at e3;cases e3
  | some σ1 =>
   rw[hbd] at e3;dsimp only at e3;obtain⟨bb,st4,e4,e5⟩:=zc e3;refine⟨ρ2,σ2,x,σ1,a2.ext y1,y3,hbd,fun τ4 a4=>?_⟩;have hpm:some p∉ρ2.m:=(rp2.gh p hpg).2;have hpp3:=(y1.keep p _ hpp hpm).1;refine⟨ρ2,σ1,st3,bb,st4,a4,y2,e4,fun ρ5 H5 x5 rp5=>?_⟩;have hpp5:=(x5.keep p _ hpp3 hpm).1;have hal5:=(hal.ext y1).ext x5;have g5:ρ5.g=p::ρ1.g:=x5.gho.trans hg;cases bb with
   | false =>
    rw[if_neg (by decide)] at e5;exact iteF (.mk ((x2.then y1).then x5) g5 hpp5 hal5 (xff hli) (a4.ext x5) rp5 e5 hac)
   | true =>
    rw[if_pos rfl] at e5;obtain⟨w,st6,e6,e7⟩:=zc e5;obtain⟨zs',st7,e8,e9⟩:=zc e7;cases e9;refine iteT ⟨ρ5,σ1,st4,w,st6,a4.ext x5,rp5,e6,fun ρ6 H6 u x6 rp6 a6=>?_⟩;have hpm5:some p∉ρ5.m:=(x5.keep p _ hpp3 hpm).2;have hpp6:=(x6.keep p _ hpp5 hpm5).1;have g6:ρ6.g=p::ρ1.g:=x6.gho.trans g5;have hp6:p∈ρ6.g:=by rw[g6];exact xbn
    have hl6:accV.length<=i:=by rw[hal.length];exact hli
    refine⟨accV,hpp6,xcx hl6 (xbg hlt hlen),.mk (acc:=acc++[w]) (accV:=accV++[u]) ?_ g6 zbb ?_ (by rw[xbl];exact xee hli) ?_ (rp6.grow rfl hp6 (fun _ h=>h) _) e8 (by rw[← hac,xci];rfl)⟩
    ·have G:=((x2.then y1).then x5).then x6;refine⟨G.len,G.old,fun b o e n=>?_,G.gho,fun b ob uu e=>?_⟩
     ·rw[zy (zp e hp)];exact G.keep b o e n
     ·rw[zy (zp e hp)];exact G.frz b ob uu e
    ·exact((hal5.ext x6).append (.cons a6 .nil)).grow rfl hp6 (fun _ h=>h)
    ·exact(a4.ext (x5.trans x6)).map fun d v h=>h.grow rfl hp6 (fun _ h=>h)
 ·rw[xhw hge] at e3;unfold compF at e3;cases e3;rw[xdp] at hac;subst hac;exact .inl ⟨ok.done _ _ x2 i hge,fin _ _ _ _ _ _ x1 rp1 hp x2 hg hpp hal rp2⟩
theorem zbib {K:Fg}:∀τ H Q,tD K (aG it k is bd c f) τ H Q->tComp (iD K it) k is (gD K bd) (tDT K c) (tD K f) τ H Q:=fun τ H Q hq0=>by
 obtain⟨ρ,σ,st,v,st',a,rp,e,q⟩:=hq0;obtain⟨xs,st1,e1,e⟩:=zc e;split at e
 ·rename_i hlen;obtain⟨ys,st2,e2,e⟩:=zc e;cases e;refine zbid a rp e1 hlen e2 fun ρ1 H1 p ρ2 H' accV x1 rp1 hp x2 hg hpp hal rp2=>?_
  have hpg:p∈ρ2.g:=by rw[hg];exact xbn
  have hpm:some p∉ρ2.m:=(rp2.gh p hpg).2;have self:upd H' p (.lst accV)=H':=zbaf hpp;have sub:∀a,a∈(⟨ρ2.m,ρ1.g⟩:Loc).g->a∈ρ2.g:=fun b hb=>by rw[hg];exact xbp _ hb
  have E:Ext ρ1 H1 ⟨ρ2.m,ρ1.g⟩ H':=⟨x2.len,x2.old,x2.keep,rfl,x2.frz⟩
  have R:=rp2.grow (ρ':=⟨ρ2.m,ρ1.g⟩) rfl hpg sub accV;have L:=AtAll.grow (ρ:=ρ2) (ρ':=⟨ρ2.m,ρ1.g⟩) (o:=.lst accV) rfl hpg sub hal;rw[self] at R L;refine q _ _ _ (x1.trans E) R (.lst hpp ⟨hpm,fun z=>?_⟩ L);obtain⟨⟨ws,h1⟩,_⟩:=rp1.gh p z;rw[hp] at h1;cases h1
 ·cases e
theorem zbmq (hcalm:X.calm=true)(hi:DI X tg iter it)(hg:∀cl C fp s H,DG (cxC X N scope cl C fp s H) tg bd)(hc:∀cl C fp s H,PIf (cxC X N scope cl C fp s H) ifs (tDT X.K c))(he:∀cl C fp s H,DE (cxC X N scope cl C fp s H) elt f)
 (S:CompScope X N k is scope)(hs:∀x,foldedSetIterable iter X.env x=pure x:=by intro _;rfl):DE X (.ListComp elt [⟨tg,iter,ifs,0⟩] scope pos) (aG it k is bd c f):=zha (zys hcalm hi hg hc he S hs) zbib
theorem zbhb {i:Nat}{x:Str}{pos' spos:Pos}(hcalm:X.calm=true)(hN:X.N.Nodup)(hxi:X.N[i]?=some x)(hx:L2.Loc X.env.scope x)(hi:DI X tg iter it)(hg:∀cl C fp s H,DG (cxC X N scope cl C fp s H) tg bd)
  (hc:∀cl C fp s H,PIf (cxC X N scope cl C fp s H) ifs (tDT X.K c))(he:∀cl C fp s H,DE (cxC X N scope cl C fp s H) elt f)(S:CompScope X N k is scope)
  (hsw:swapsWith (.ListComp elt [⟨tg,iter,ifs,0⟩] scope pos) (some (.Name x pos')) spos.line X.env=pure true:=by rfl)
  (hf:X.fn x=true\/X.env.scope.names.lookup x=some .local:=by first | exact .inl rfl | exact .inr rfl | assumption)
  (hs:∀x,foldedSetIterable iter X.env x=pure x:=by intro _;rfl):DSt X (.Assign [.Name x pos'] (.ListComp elt [⟨tg,iter,ifs,0⟩] scope pos) spos) (aF i (aG it k is bd c f)) :=
 zrw (zbew hcalm hN hxi hx hi hg hc he S hsw hf hs) fun E τ H h=>by
  obtain⟨ρ,σ,st,fl,st',a,rp,e,q⟩:=h;obtain⟨v,st1,e1,e⟩:=zc e;cases e;exact zbib τ H _ ⟨ρ,σ,st,v,_,a,rp,e1,fun ρ' H' u x r t=>q _ _ _ x r ((a.ext x).set t i)⟩
theorem zbhj {X:Cx}:PIf X [] (tDT X.K aI):=fun aU s σ H Q I hq0=>by
 obtain⟨ρ,σ',st,v,st',a,rp,e,q⟩:=hq0;cases e;exact zbfc aU s σ H Q I (q _ _ (.refl _ _) rp)
theorem zbhi {X:Cx}{c:Expr}{t:ST}(h:DT X c t):PIf X [c] (tDT X.K t):=zbfb h
end
end Dd
namespace Dd
open PySem L2 PyProof.Rows
noncomputable def spD (K:Fg) (np:Nat) (F:DFn):Sp:=fun vs H Q _=>∃ρ ds st v st',AtAll K ρ H ds vs/\Rep K ρ st H/\F ds st=.ok v st'/\vs.length=np/\∀ρ' H' u,Ext ρ H ρ' H'->Rep K ρ' st' H'->At K ρ' H' v u->Q u H'
noncomputable def CalD (P:Program) (w:World) (K:Fg) (mg:Str->Option Value) (base:Heap) (x:Str) (k:Nat) (ps:List Str) (F:DFn):Prop:=Callee P w K mg base x k ps (spD K ps.length F)
noncomputable def fnD (n np:Nat) (body:SS):DFn:=fun ds st=>if ds.length=np then(match body (ds.map some++List.replicate (n - np) none) st with
 | .ok (.ret v) st'=>.ok v st'
 | .ok (.nx _) st'=>.ok .non st'
 | .exc x st'=>.exc x st'
 | _=>.stuck) else .stuck
section
variable {X:Cx}{x:Str}{k:Nat}{ps:List Str}{F:DFn}{p pos:Pos}{e:Expr}{es:List Expr}{g:SA}
theorem zbmt {K:Fg}{np:Nat}{f:SA}(hn:∀ds st v st',F ds st=.ok v st'->ds.length=np):∀τ H Q,tD K (aE F f) τ H Q->tCall (spD K np F) [] E0 (tDA K f) τ H Q:=fun τ H Q hq0=>by
 obtain⟨ρ,σ,st,v,st',a,rp,e,q⟩:=hq0;obtain⟨x,st1,e1,e⟩:=zc e;refine⟨ρ,σ,st,x,st1,a,rp,e1,fun ρ1 H1 u x1 rp1 a1=>?_⟩;show spD K np F (u++[]) H1 Q E0;rw[xdp];exact⟨ρ1,x,st1,v,st',a1,rp1,e,by rw[a1.length];exact hn _ _ _ _ e,fun ρ' H' w x2=>q ρ' H' w (x1.trans x2)⟩
theorem zbmr (c:CalD X.prog X.w X.K X.mg X.base x k ps F)(hn:∀ ds st v st', F ds st=.ok v st'->ds.length=ps.length)(hr:Room k X.A)(hg:Gl X x)(ha:DA X (e::es) g)(hdb:(x==("__debug__" : Str))=false:=by decide)
 (he:starEach (e::es) X.env=(false,eval e X.env)::starEach es X.env:=by rfl)(hpl:(backTo pos (starEach es X.env)).any (·.1)=false:=by rfl) :
 DE X (.Call (.Name x p) (e::es) [] pos) (aE F g):=zha (zbbf c hr hg ha hdb he hpl) (zbmt hn)
theorem zq {n np:Nat}{b:SS}{ds:List D}{st st':Store}{v:D}(h:fnD n np b ds st=.ok v st'):ds.length=np:=by
 unfold fnD at h;split at h
 ·assumption
 ·cases h
end
theorem AtAll.some {K:Fg}{ρ:Loc}{H:Hp}:∀{ds:List D} {vs:List V},AtAll K ρ H ds vs->AtS K ρ H (ds.map Option.some) (vs.map Option.some)
 | _,_,.nil=>.nil
 | _,_,.cons a b=>.cons (fun d e=>by cases e;exact⟨_,rfl,a⟩) (AtAll.some b)
theorem AtS.append {K:Fg}{ρ:Loc}{H:Hp}:∀{a c:DS} {b d:L2.St},AtS K ρ H a b->AtS K ρ H c d->AtS K ρ H (a++c) (b++d)
 | _,_,_,_,.nil,h=>h
 | _,_,_,_,.cons r t,h=>.cons r (AtS.append t h)
theorem AtS.nones {K:Fg}{ρ:Loc}{H:Hp}:∀n,AtS K ρ H (List.replicate n none) (List.replicate n none)
 | 0=>.nil
 | n+1=>.cons (fun d e=>nomatch e) (AtS.nones n)
theorem zbil {K:Fg}{N:List Str}{np:Nat}{b:SS}{vs:List V}{H:Hp}{Q:VK}{E:XK}(h:spD K np (fnD N.length np b) vs H Q E):tDS K b {nx:=fun _ H'=>Q .non H',rt:=Q} (L2.start N vs) H:=by
 obtain⟨ρ,ds,st,v,st',a,rp,e,hl,q⟩:=h;have hd:ds.length=np:=by rw[← a.length];exact hl
 unfold fnD at e;rw[if_pos hd] at e;have as:AtS K ρ H (ds.map Option.some++List.replicate (N.length - np) none) (L2.start N vs):=by
  unfold L2.start;rw[hl];exact a.some.append (.nones _)
 refine⟨ρ,ds.map Option.some++List.replicate (N.length - np) none,st,?_⟩;cases hr:b (ds.map Option.some++List.replicate (N.length - np) none) st with
 | stuck=>rw[hr] at e;cases e
 | exc z w=>rw[hr] at e;cases e
 | ok fl st1 =>
  rw[hr] at e;cases fl with
  | ret w =>
   dsimp only at e;cases e;exact⟨.ret v,st',as,rp,rfl,fun ρ' H' u x r t=>q ρ' H' u x r t⟩
  | nx σ =>
   dsimp only at e;cases e;exact⟨.nx σ,st',as,rp,rfl,fun ρ' H' τ x r t=>q ρ' H' .non x r .non⟩
  | brk σ=>cases e
  | ct σ=>cases e
theorem zbih {P:Program}{w:World}{K:Fg}{mg:Str->Option Value}{base h:Heap}{x:Str}{st:Stmt}{N ps:List Str}{k:Nat}{b:SS}(T:TopF K x st)(X:K.In h)(G:h.Ns mainGlobals mg)(S:FnScope N ps (defScope st))
  (bd:∀(kV doc pm:Value) (an:Option Addr) (cdv ct:Value) (us:List Value),us.length=ps.length->bindArgs (W.fnOf x x (defArgs st) (defBody st) (defScope st) .none kV doc pm an cdv ct) ⟨us,[]⟩=pure (ps.zip us))
  (hbody:∀(f:Addr) (cdv:Value) (A:Around) (outer:List Env) (s:Shared) (H:Hp) (E:XK),Room k (A.deeper (envOfC x (defScope st) s.heap.objs.size f cdv)) ->
   DSs (cxOf CX0 P w K mg base N x (defScope st) f cdv A outer s H E).nox (defBody st) b):CalD P w K mg base x (k+1) ps (fnD N.length ps.length b) :=
 zqk T X G S bd (fun vs H Q E hh=>by obtain⟨ρ,ds,st,v,st',a,rp,e,hl,q⟩:=hh;exact hl) fun f cdv A outer s H vs Q E hr hh=>⟨_,hbody f cdv A outer s H E hr,zbil hh⟩
noncomputable def spLaw (K:Fg):Sp:=fun vs H Q _=>∃(a:Addr) (ns:List Int),vs=[.ref a]/\SqL K H a (ns.map V.int)/\ns.length<=63/\∀H',Q (.bl true) H'
theorem zbla {P:Program}{w:World}{K:Fg}{mg:Str->Option Value}{base:Heap}{st:Stmt}{N ps:List Str}{k:Nat}{b:SS}{f:Addr}{fd:FuncData}(F:Fun K "law" "law" st f fd)(S:FnScope N ps (defScope st))(hp:ps.length=1)
  (hbody:∀(cdv:Value) (A:Around) (outer:List Env) (s:Shared) (H:Hp) (E:XK), Room k (A.deeper (envOfC "law" (defScope st) s.heap.objs.size f cdv)) ->
   DSs (cxOf CX0 P w K mg base N "law" (defScope st) f cdv A outer s H E).nox (defBody st) b)
  (holds:∀ns:List Int,ns.length<=63->∃st',fnD N.length 1 b [.scr (ns.map .int)] []=.ok (.bl true) st'):FnOk P w K mg base CX0 (k+1) f fd ps (spLaw K):=by
 refine F.ok S (fun vs H Q E hh=>?_) (fun cdv A outer s H vs Q E hr hh=>⟨_,hbody cdv A outer s H E hr,?_⟩)
 ·obtain⟨a,ns,rfl,_⟩:=hh;exact hp.symm
 ·obtain⟨a,ns,rfl,hS,hl,q⟩:=hh;obtain⟨st',e⟩:=holds ns hl;refine zbil (np:=1) (E:=E) ⟨⟨[],[]⟩,[.scr (ns.map .int)],[],_,st',.cons (.scr ?_ (zlx ns)) .nil,⟨rfl,fun n m a e _=>by simp at e,fun n a o e _=>by simp at e,fun a h=>(by cases h),fun n o e _=>by simp at e⟩,e,rfl,fun ρ' H' u x r t=>?_⟩
  ·rcases hS with h | h
   ·exact .inl ⟨h,by simp[Out]⟩
   ·exact .inr fun H'=>.inr h
  ·cases t;exact q H'
end Dd
namespace Dd
open PySem L2
noncomputable def oNeg:D->Store->Res D:=fun x st=>match x with
 | .int i=>.ok (.int (-i)) st
 | _=>.stuck
noncomputable def sStuck:SS:=fun _ _=>.stuck
noncomputable def tru (st:Store):D->Option Bool
 | .non=>some false
 | .bl b=>some b
 | .int i=>some (i != 0)
 | .tup xs=>some !xs.isEmpty
 | d=>(asL st d).map fun xs=>!xs.isEmpty
noncomputable def eTru (f:SE):ST:=fun σ st=>(f σ st).bind fun v st1=>match tru st1 v with
 | some b=>.ok b st1
 | none=>.stuck
theorem znh {K:Fg}{ρ:Loc}{H:Hp}{ds:List D}{vs:List V}(h:AtAll K ρ H ds vs):ds.isEmpty=vs.isEmpty:=by
 cases h<;>rfl
theorem zbjk {K:Fg}{ρ:Loc}{st:Store}{H:Hp}(rp:Rep K ρ st H){d:D}{u:V}{b:Bool}(a:At K ρ H d u)(e:tru st d=some b):TruV K u H b:=by
 unfold tru at e;split at e
 ·cases a;cases e;exact rfl
 ·cases a;cases e;exact rfl
 ·cases a;cases e;exact rfl
 ·cases e;cases a with
  | tup h1 h2 h3=>exact .inr (.inl ⟨_,SqT.of h1,by rw[znh h3]⟩)
 ·obtain⟨xs,h0,rfl⟩:=xcz.mp e;obtain⟨p,vs,rfl,h1,h2⟩:=zhx rp a h0;exact .inl ⟨_,SqL.of h1,by rw[znh h2]⟩
section
variable {X:Cx}{a b c e:Expr}{f f' f'':SE}{pos:Pos}{sm:Stmt}
theorem zbcn:DSt X sm sStuck:=fun aU s σ H E I ⟨ρ,σ',st,fl,st',a,rp,e,q⟩=>by cases e
theorem zblv (h:DE X a f)(he:∀whole,isTrue a X.env whole=(do let v ← whole;standAt a.pos;holding [v] (truthy v)):=by intro _;rfl):DT X a (eTru f):=zbix (zbaq h he) fun τ H Q hq0=>by
 obtain⟨ρ,σ,st,v,st',at',rp,e,q⟩:=hq0;obtain⟨x,st1,e1,e⟩:=zc e;refine⟨ρ,σ,st,x,st1,at',rp,e1,fun ρ1 H1 u x1 rp1 a1=>?_⟩;split at e
 ·rename_i bb hb;cases e;exact⟨_,zbjk rp1 a1 hb,q _ _ x1 rp1⟩
 ·cases e
end
end Dd
namespace Dd
open PySem PySem.Spec PyProof.Rows L2
noncomputable def numF:Int->List D->List D
 | _,[]=>[]
 | n,x::xs=>.tup [.int n,x]::numF (n+1) xs
theorem zje:∀{xs:List D} {n:Int} {i:Nat} {d:D},(numF n xs)[i]?=some d->∃x,xs[i]?=some x/\d=.tup [.int (n+i),x]
 | [],_,_,_,h=>by simp[numF] at h
 | x::xs,n,0,d,h=>by
  simp[numF] at h;exact⟨x,rfl,by rw[← h];simp⟩
 | x::xs,n,i+1,d,h=>by
  simp only[numF,xhj] at h;obtain⟨y,h1,h2⟩:=zje h;exact⟨y,by simpa using h1,by rw[h2];congr 3;push_cast;lia⟩
theorem zch:∀{xs:List D} {n:Int},(numF n xs).length=xs.length
 | [],_=>rfl
 | _::xs,n=>by simp[numF,zch (xs:=xs)]
section
variable {X:Cx}{l:Expr}{f:SE}{elts:List Expr}{k j:Nat}{tpos p pos kpos cpos:Pos}
end
end Dd
namespace Dd
open PySem L2
noncomputable def bInt:List D->Store->Res D:=fun xs st=>match xs with
 | [.int i]=>.ok (.int i) st
 | [.bl k]=>.ok (.int (if k then 1 else 0)) st
 | _=>.stuck
theorem zbne {K:Fg}:CaD K bInt (fun xs H Q=>(∃i,xs=[.int i]/\Q (.int i) H)\/∃k,xs=[.bl k]/\Q (.int (if k then 1 else 0)) H):=fun ρ H st xs us z st' Q rp aa e q=>by
 unfold bInt at e;split at e
 ·cases e;obtain⟨u,rfl,a⟩:=aa.one;cases a;exact .inl ⟨_,rfl,q _ _ _ (.refl _ _) rp (.int _)⟩
 ·cases e;obtain⟨u,rfl,a⟩:=aa.one;cases a;exact .inr ⟨_,rfl,q _ _ _ (.refl _ _) rp (.int _)⟩
 ·cases e
theorem zyg {ρ:Loc}{g':List Addr}{p a:Addr}(hg:p∈ρ.g)(hs:∀a,a∈g'->a∈ρ.g)(n:Out ρ a):Out ⟨ρ.m++[some p],g'⟩ a :=
 ⟨fun z=>by
  rcases xca.mp z with z | z
  ·exact n.1 z
  ·simp at z;subst z
   exact n.2 hg,fun z=>n.2 (hs _ z)⟩
theorem zuz {ρ:Loc}{g':List Addr}{H:Hp}{p:Addr}(hg:p∈ρ.g)(hs:∀a,a∈g'->a∈ρ.g):Mv ρ H ⟨ρ.m++[some p],g'⟩ H:=⟨fun e n=>⟨e,zyg hg hs n⟩,by
 show ρ.m.length<=(ρ.m++[some p]).length;rw[xbl];exact xbo _ _,fun n a h q=>by
 have q':(ρ.m++[some p])[n]?=some (some a):=q;rw[xbz h] at q'
 exact q'⟩
theorem At.adopt {K:Fg}{ρ:Loc}{g':List Addr}{H:Hp}{p:Addr}(hg:p∈ρ.g)(hs:∀a,a∈g'->a∈ρ.g){d:D}{v:V}(h:At K ρ H d v):At K ⟨ρ.m++[some p],g'⟩ H d v:=h.mv (zuz hg hs)
theorem AtAll.adopt {K:Fg}{ρ:Loc}{g':List Addr}{H:Hp}{p:Addr}(hg:p∈ρ.g)(hs:∀a,a∈g'->a∈ρ.g){d:List D}{v:List V}(h:AtAll K ρ H d v):AtAll K ⟨ρ.m++[Option.some p],g'⟩ H d v:=h.mv (zuz hg hs)
theorem Rep.adopt {K:Fg}{ρ:Loc}{g':List Addr}{st:Store}{H:Hp}{p:Addr}{xs:List D}{vs:List V}(r:Rep K ρ st H)(hg:p∈ρ.g)(hs:∀a,a∈g'->a∈ρ.g)(hn:p∉g')(hp:H p=some (.lst vs))(al:AtAll K ρ H xs vs) :
  Rep K ⟨ρ.m++[some p],g'⟩ (st++[.lst xs]) H:=by
 have hpm:some p∉ρ.m:=(r.gh p hg).2;have nl:∀(m:Nat),ρ.m[m]?≠some (some p):=fun m e=>hpm (xbq e)
 have cs:∀(m:Nat) (b:Addr),(ρ.m++[some p])[m]?=some (some b)->(m < ρ.m.length/\ρ.m[m]?=some (some b))\/(m=ρ.m.length/\b=p):=fun m b e=>by
  rcases xes m ρ.m.length with z | z
  ·rw[xbz z] at e;exact .inl ⟨z,e⟩
  ·rw[xco z] at e;have z2:m - ρ.m.length=0:=by
    have:=(xbf.mp e).1;simp at this;lia
   rw[z2] at e;simp at e;exact .inr ⟨by lia,e.symm⟩
 refine⟨by simp[r.len],fun m k b e1 e2=>?_,fun m b y e1 e2=>?_,fun b hb=>?_,fun m y e ne=>?_⟩
 ·rcases cs m b e1 with⟨h1,q1⟩ | ⟨h1,rfl⟩
  ·rcases cs k b e2 with⟨h2,q2⟩ | ⟨h2,rfl⟩
   ·exact r.inj m k b q1 q2
   ·exact absurd q1 (nl m)
  ·rcases cs k b e2 with⟨h2,q2⟩ | ⟨h2,_⟩
   ·exact absurd q2 (nl k)
   ·lia
 ·rcases cs m b e1 with⟨h1,q1⟩ | ⟨h1,rfl⟩
  ·rw[xbz (by rw[← r.len];exact h1)] at e2;exact(r.obj m b y q1 e2).map (fun d v h=>h.adopt hg hs) (fun _ _ _ e=>e) rfl
  ·rw[h1,r.len,xco (xbe _)] at e2;simp at e2;subst e2;exact⟨vs,hp,al.adopt hg hs⟩
 ·obtain⟨h1,h2⟩:=r.gh b (hs b hb);refine⟨h1,fun z=>?_⟩;rcases xca.mp z with z | z
  ·exact h2 z
  ·simp at z;subst z;exact hn hb
 ·rcases xes m st.length with z | z
  ·rw[xbz z] at e;obtain⟨b,hb⟩:=r.live m y e ne;exact⟨b,by show(ρ.m++[some p])[m]?=_;rw[xbz (by rw[r.len];exact z)];exact hb⟩
  ·have z2:=(xbf.mp e).1;simp at z2;have z3:m=ρ.m.length:=by rw[r.len];lia
   exact⟨p,by show(ρ.m++[some p])[m]?=_;rw[z3,xco (xbe _)];simp⟩
noncomputable def eCompM (it:SA) (k:Nat) (is:List Nat) (bd:SG) (c:ST) (f:SE):SE:=fun σ st=>(it σ st).bind fun xs st1=>if xs.length<=sizeLine then(compF bd c f xs (aT k is σ) st1).bind fun ys st2=>.ok (.ref st2.length) (st2++[.lst ys]) else .stuck
section
variable {X:Cx}{tg iter elt:Expr}{ifs:List Expr}{it:SA}{bd:SG}{c:ST}{f:SE}{N:List Str}{k:Nat}{is:List Nat}{scope:Scope}{pos:Pos}
theorem zbia {K:Fg}:∀τ H Q,tD K (eCompM it k is bd c f) τ H Q->tComp (iD K it) k is (gD K bd) (tDT K c) (tD K f) τ H Q:=fun τ H Q hq0=>by
 obtain⟨ρ,σ,st,v,st',a,rp,e,q⟩:=hq0;obtain⟨xs,st1,e1,e⟩:=zc e;split at e
 ·rename_i hlen;obtain⟨ys,st2,e2,e⟩:=zc e;cases e;refine zbid a rp e1 hlen e2 fun ρ1 H1 p ρ2 H' accV x1 rp1 hp x2 hg hpp hal rp2=>?_
  have hpg:p∈ρ2.g:=by rw[hg];exact xbn
  have hpm:some p∉ρ2.m:=(rp2.gh p hpg).2;have sub:∀a,a∈ρ1.g->a∈ρ2.g:=fun b hb=>by rw[hg];exact xbp _ hb
  have hn1:p∉ρ1.g:=fun z=>by
   obtain⟨⟨ws,h1⟩,_⟩:=rp1.gh p z;rw[hp] at h1;cases h1
  have R:=rp2.adopt hpg sub hn1 hpp hal
  have E:Ext ρ1 H1 ⟨ρ2.m++[some p],ρ1.g⟩ H':=⟨by
    show ρ1.m.length<=(ρ2.m++[some p]).length;rw[xbl];exact xbb x2.len (xbo _ _),fun n b h e=>by
    have e':(ρ2.m++[some p])[n]?=some (some b):=e;rw[xbz (xbg h x2.len)] at e'
    exact x2.old n b h e',fun b o e m=>⟨(x2.keep b o e m).1,fun z=>by
    rcases xca.mp z with z | z
    ·exact(x2.keep b o e m).2 z
    ·simp at z;subst z
     rw[hp] at e;cases e⟩,rfl,x2.frz⟩
  exact q _ _ _ (x1.trans E) R (.last (ρ:=⟨ρ2.m,ρ1.g⟩) rp2.len.symm)
 ·cases e
theorem zbhu (hcalm:X.calm=true)(hi:DI X tg iter it)(hg:∀cl C fp s H,DG (cxC X N scope cl C fp s H) tg bd)(hc:∀cl C fp s H,PIf (cxC X N scope cl C fp s H) ifs (tDT X.K c))(he:∀cl C fp s H,DE (cxC X N scope cl C fp s H) elt f)
 (S:CompScope X N k is scope)(hs:∀x,foldedSetIterable iter X.env x=pure x:=by intro _;rfl):DE X (.ListComp elt [⟨tg,iter,ifs,0⟩] scope pos) (eCompM it k is bd c f):=zha (zys hcalm hi hg hc he S hs) zbia
end
noncomputable def plainE:Expr->Bool
 | .Starred _ _=>false
 | _=>true
theorem zsj {e:Expr}{es:List Expr}{env:Env}(h:plainE e=true):starEach (e::es) env=(false,eval e env)::starEach es env:=by
 cases e<;>first | rfl | cases h
theorem zbcv {X:Cx}{e:Expr}{es:List Expr}{f:SE}{g:SA}(ha:DE X e f)(hr:DA X es g)(hp:plainE e=true:=by rfl):DA X (e::es) (aB f g):=zbhq ha hr (zsj hp)
noncomputable def bBest (gt:Bool):List D->Store->Res D:=fun xs st=>match xs with
 | [x]=>match (seqOf st x).bind asInts with
  | some (n::ns)=>.ok (.int (bestI gt n ns)) st
  | _=>.stuck
 | _=>.stuck
noncomputable def pairsF:List D->List D->List D
 | x::xs,y::ys=>.tup [x,y]::pairsF xs ys
 | _,_=>[]
noncomputable def iZipT (g:SA):SA:=fun σ st=>(g σ st).bind fun xs st1=>match xs with
 | [.tup a,.tup b]=>.ok (pairsF a b) st1
 | _=>.stuck
theorem zna:∀{xs ys:List D} {i:Nat} {d:D},(pairsF xs ys)[i]?=some d->∃x y,xs[i]?=some x/\ys[i]?=some y/\d=.tup [x,y]
 | [],_,_,_,h=>by simp[pairsF] at h
 | _::_,[],_,_,h=>by simp[pairsF] at h
 | x::xs,y::ys,0,d,h=>by
  simp[pairsF] at h;exact⟨x,y,rfl,rfl,h.symm⟩
 | x::xs,y::ys,i+1,d,h=>by
  simp only[pairsF,xhj] at h;obtain⟨x',y',h1,h2,h3⟩:=zna h;exact⟨x',y',by simpa using h1,by simpa using h2,h3⟩
theorem zew:∀{xs ys:List D},(pairsF xs ys).length=min xs.length ys.length
 | [],_=>by simp[pairsF]
 | _::_,[]=>by simp[pairsF]
 | _::xs,_::ys=>by simp[pairsF,zew (xs:=xs) (ys:=ys)]
section
variable {X:Cx}{a b:Expr}{g:SA}{elts:List Expr}{k:Nat}{tpos p pos:Pos}
theorem zbmf (hg:Gl X "zip")(hm:X.mg "zip"=none)(ha:DA X [a, b] g)(hs:starEach [a, b] X.env=[(false, eval a X.env),(false, eval b X.env)]:=by rfl)(hs2:starEach [b] X.env=[(false, eval b X.env)]:=by rfl) :
  DI X (.Tuple elts k tpos) (.Call (.Name "zip" p) [a, b] [] pos) (iZipT g):=zbdq (zbkd hg hm ha hs hs2) fun τ H R hq0=>by
 obtain⟨ρ,σ,st,xs,st',a,rp,e,q⟩:=hq0;obtain⟨x,st1,e1,e⟩:=zc e;refine⟨ρ,σ,st,x,st1,a,rp,e1,fun ρ1 H1 u x1 rp1 a1=>?_⟩;split at e
 ·rename_i as bs;cases e;obtain⟨u1,u2,rfl,b1,b2⟩:=a1.two;cases b1 with
  | tup h1 h2 h3 =>
   cases b2 with
   | tup k1 k2 k3 =>
    refine⟨_,_,rfl,⟨_,SqT.of h1⟩,⟨_,SqT.of k1⟩,q _ _ _ x1 rp1 ⟨fun ρ2 H2 x2 i d e=>?_,fun ρ2 H2 x2 i h=>?_⟩⟩
    ·obtain⟨x',y',ex,ey,rfl⟩:=zna e;obtain⟨v1,hv1,av1⟩:=h3.get ex;obtain⟨v2,hv2,av2⟩:=k3.get ey;refine⟨⟨_,_,v1,v2,SqT.of (x2.out h1 h2).1,SqT.of (x2.out k1 k2).1,hv1,hv2⟩,fun y H3 hy=>?_⟩;obtain⟨p,hp,rfl,hH⟩:=hy;rw[hH _ _ _ _ (SqT.of (x2.out h1 h2).1) (SqT.of (x2.out k1 k2).1) hv1 hv2];exact⟨Ext.new hp _,fun st rp2=>⟨rp2.new hp _,At.newT rp2 hp (.cons (av1.extG x2) (.cons (av2.extG x2) .nil))⟩⟩
    ·rw[zew] at h;exact⟨_,_,SqT.of (x2.out h1 h2).1,SqT.of (x2.out k1 k2).1,by rw[h3.length,k3.length];lia⟩
 ·cases e
end
noncomputable def sSetG (bd:SG) (f:SE):SS:=fun σ st=>(f σ st).bind fun v st1=>match bd v σ with
 | some σ1=>.ok (.nx σ1) st1
 | none=>.stuck
end Dd
namespace Dd
open PySem L2 PyProof.Rows
structure JE (X:Cx) (e:Expr) (f:SE):Prop where out:DE X e f
structure JT (X:Cx) (e:Expr) (f:ST):Prop where out:DT X e f
structure JW (X:Cx) (e:Expr) (f:ST):Prop where out:DW X e f
structure JA (X:Cx) (e:List Expr) (f:SA):Prop where out:DA X e f
structure JS (X:Cx) (s:Stmt) (f:SS):Prop where out:DSt X s f
structure JB (X:Cx) (s:List Stmt) (f:SS):Prop where out:DSs X s f
structure JO (X:Cx) (e:Option Expr) (f:DS->Store->Res (Option Int)):Prop where out:DO X e f
structure JG (X:Cx) (e:Expr) (b:SG):Prop where out:DG X e b
structure JGs (X:Cx) (e:List Expr) (b:List D->DS->Option DS):Prop where out:DGs X e b
structure JI (X:Cx) (tg iter:Expr) (f:SA):Prop where out:DI X tg iter f
structure JIf (X:Cx) (ifs:List Expr) (c:ST):Prop where out:PIf X ifs (tDT X.K c)
structure JC (X:Cx) (op:CmpOp) (a b:Expr) (f:SE):Prop where out:PC X op a b (tD X.K f)
theorem JW.pt {X:Cx}{e:Expr}{t:ST}(h:JW X e t):JT X e t:=⟨PW.pt h.out⟩
section
variable {X:Cx}
theorem zb {e:Expr}{i:Nat}(h:PE X e (tVar i)):JE X e (aA i):=⟨zbps h⟩
theorem zmf {e:Expr}{v:V}{d:D}(h:PE X e (tC v))(k:∀ρ H,At X.K ρ H d v):JE X e (eC d):=⟨zbmp h k⟩
theorem zg {i j pos}:JE X (.Constant (.int i) j pos) (eC (.int i)):=⟨zbpy⟩
theorem zxx {b j pos}:JE X (.Constant (.bool b) j pos) (eC (.bl b)):=⟨d_bl⟩
end
section
variable {X:Cx}{a b c:Expr}{f f' f'':SE}{pos:Pos}
theorem zbs {op:Operator}{r:R2}{g:D->D->Store->Res D}(ho:OpR X (binaryOp op) r)(hr:OpD X.K g r)(ha:JE X a f)(hb:JE X b f'):JE X (.BinOp a op b pos) (aS g f f'):=⟨d_op ho hr ha.out hb.out⟩
theorem zuj {op:CmpOp}{r:R2}{g:D->D->Store->Res D}(ho:OpR X (compareOp op) r)(hr:OpD X.K g r)(ha:JE X a f)(hb:JE X b f')(hm:behindInMarks op b=false):JE X (.Compare a [op] [b] pos) (aS g f f'):=⟨zbqa ho hr ha.out hb.out hm⟩
theorem zbp {op:CmpOp}{r:R2}{g:D->D->Store->Res D}(ho:OpR X (compareOp op) r)(hr:OpD X.K g r)(ha:JE X a f)(hb:JE X b f')(hm:behindInMarks op b=false):JT X (.Compare a [op] [b] pos) (eB (aS g f f')):=⟨zblx ho hr ha.out hb.out hm⟩
end
section
variable {X:Cx}{a b:Expr}{rest:List Expr}{f f':SE}{t t':ST}{pos:Pos}
theorem zxu {op}(h:JE X a f):JE X (.BoolOp op [a] pos) f:=⟨zbpv h.out⟩
theorem zxy (ha:JE X a f)(hb:JE X (.BoolOp .And (b::rest) pos) f'):JE X (.BoolOp .And (a::b::rest) pos) (eAnd f f'):=⟨zbqb ha.out hb.out⟩
theorem zbcw (ha:JE X a f):JE X (.UnaryOp .Not a pos) (eNot f):=⟨zbpw ha.out⟩
theorem zhs {op}(h:JT X a t)(hop:op=.And\/op=.Or):JW X (.BoolOp op [a] pos) t:=⟨zblt h.out hop⟩
theorem zub (ha:JT X a t)(hb:JW X (.BoolOp .And (b::rest) pos) t'):JW X (.BoolOp .And (a::b::rest) pos) (bAnd t t'):=⟨zblu ha.out hb.out⟩
theorem zrr (ha:JT X a t)(hb:JW X (.BoolOp .Or (b::rest) pos) t'):JW X (.BoolOp .Or (a::b::rest) pos) (bOr t t'):=⟨zbpo ha.out hb.out⟩
theorem zgm (ha:JT X a t):JT X (.UnaryOp .Not a pos) (bNot t):=⟨zblw ha.out⟩
theorem zbpz {c:Expr}(hc:JT X c t)(ha:JE X a f)(hb:JE X b f'):JE X (.IfExp c a b pos) (eIf t f f'):=⟨d_if hc.out ha.out hb.out⟩
end
section
variable {X:Cx}{e:Expr}{es:List Expr}{f:SE}{g:SA}{pos:Pos}
theorem zd :JA X [] aC:=⟨zbmi⟩
theorem zcy {x1}(h:JA X es g):JE X (.Tuple es x1 pos) (aR g):=⟨zbpt h.out⟩
theorem zov (h:JA X es g):JE X (.List es pos) (eLst g):=⟨zbpx h.out⟩
theorem zfn (h:JA X es g):JE X (.List es pos) (eLstM g):=⟨zbmk h.out⟩
end
section
variable {X:Cx}{a b e:Expr}{f f':SE}{pos:Pos}{lo hi:Option Expr}{l h:DS->Store->Res (Option Int)}
theorem zbcq :JO X none pNone:=⟨zbhh⟩
theorem zbcp (he:JE X e f):JO X (some e) (pSome f):=⟨zbhg he.out⟩
theorem znk (ha:JE X a f)(hb:JE X b f')(hs:PlainIx b):JE X (.Subscript a b pos) (aS oIx f f'):=⟨d_ix ha.out hb.out hs⟩
theorem zbpu {p2:Pos}(he:JE X e f)(hl:JO X lo l)(hu:JO X hi h):JE X (.Subscript e (.Slice lo hi none p2) pos) (eSl f l h):=⟨d_sl he.out hl.out hu.out⟩
end
section
variable {X:Cx}{x:Str}{p pos:Pos}{e:Expr}{es:List Expr}{f:SA}{id T:String}{r:List V->Hp->VK->Prop}{g:List D->Store->Res D}
theorem zba (hc:CallR X (.builtin id) r)(hr:CaD X.K g r)(hg:Gl X x)(hm:X.mg x=none)(hv:bootBuiltins x=some (.builtin id))(ha:JA X (e::es) f)(hn:x≠"__name__":=by decide)(hdb:(x==("__debug__" : Str))=false:=by decide)(he:starEach (e::es) X.env=(false, eval e X.env)::starEach es X.env:=by rfl)(hpl:(backTo pos (starEach es X.env)).any (·.1)=false:=by rfl):JE X (.Call (.Name x p) (e::es) [] pos) (aE g f):=⟨zbhw hc hr hg hm hv ha.out hn hdb he hpl⟩
theorem zic (hc:CallR X (.type T) r)(hr:CaD X.K g r)(hg:Gl X x)(hm:X.mg x=none)(hv:bootBuiltins x=some (.type T))(ha:JA X (e::es) f)(hn:x≠"__name__":=by decide)(hdb:(x==("__debug__" : Str))=false:=by decide)(he:starEach (e::es) X.env=(false, eval e X.env)::starEach es X.env:=by rfl)(hpl:(backTo pos (starEach es X.env)).any (·.1)=false:=by rfl):JE X (.Call (.Name x p) (e::es) [] pos) (aE g f):=⟨zbdb hc hr hg hm hv ha.out hn hdb he hpl⟩
end
section
variable {X:Cx}{a b c o i e value f':Expr}{f g h:SE}{pos pos' apos cpos:Pos}
theorem zqi :JE X (.Dict [] [] pos) eDNew:=⟨zbmn⟩
theorem zbkn (hu:X.A.units+1 < cLine)(hi:JE X i g)(ho:JE X o f):JC X .In i o (aS (oDIn false) g f):=⟨zboy hu hi.out ho.out⟩
theorem zuc {op:CmpOp}{t:SE}(h:JC X op a b t)(h1:behindInMarks op b=false:=by first | exact nobehind _ (by decide) (by decide) | rfl):JT X (.Compare a [op] [b] pos) (eB t):=⟨zbpp h.out h1⟩
theorem zui (hu:X.A.units+1 < cLine)(ho:JE X o f)(hi:JE X i g)(hs:NoSl i):JE X (.Subscript o i pos) (aS oDGet f g):=⟨zbmo hu ho.out hi.out hs⟩
theorem zbcy (hu:X.A.units + 1 < cLine)(ho:JE X o f)(he:JE X e g)(hf:JE X f' h)(m:M2 X o "get" apos e f' cpos):JE X (.Call (.Attribute o "get" apos) [e, f'] [] cpos) (eDGet2 f g h):=⟨zbht hu ho.out he.out hf.out m⟩
theorem zbhs (hu:X.A.units + 1 < cLine)(ho:JE X o f)(he:JE X e g)(m:M1 X o "pop" apos e cpos):JE X (.Call (.Attribute o "pop" apos) [e] [] cpos) (eDPop f g):=⟨zbmm hu ho.out he.out m⟩
theorem zmc (hu:X.A.units+1 < cLine)(ho:JE X o f)(hi:JE X i g)(hv:JE X value h)(hs:swapsWith value (some (.Subscript o i pos')) pos.line X.env=pure false):JS X (.Assign [.Subscript o i pos'] value pos) (sDPut f g h):=⟨zbhd hu ho.out hi.out hv.out hs⟩
end
section
variable {X:Cx}{o e i value:Expr}{es:List Expr}{f g h:SE}{ga:SA}{pos apos cpos:Pos}
theorem zid (ho:JE X o f)(ha:JA X (e::es) ga)(hbase:attributeBase o "append" X.env (eval o X.env)=eval o X.env:=by rfl)(hfew:((backTo cpos (starEach (e::es) X.env)).all (fun x=>!x.1)&&(backToKw cpos (keywordEach [] X.env)).all (fun x=>x.1.isSome)
 && decide ((e::es).length + ([]:List Keyword).length + (if([]:List Keyword).isEmpty then 0 else 1) < 30))=true:=by rfl) (hline:(apos.endLine==cpos.line)=true:=by rfl) (hs:starEach (e::es) X.env=(false, eval e X.env)::starEach es X.env:=by rfl) (hplain:(backTo cpos (starEach es X.env)).any (·.1)=false:=by rfl):JE X (.Call (.Attribute o "append" apos) (e::es) [] cpos) (eAppend f ga):=⟨zbdc ho.out ha.out hbase hfew hline hs hplain⟩
theorem zgo (ho:JE X o f)(ha:JA X (e::es) ga)(hbase:attributeBase o "extend" X.env (eval o X.env)=eval o X.env:=by rfl)(hfew:((backTo cpos (starEach (e::es) X.env)).all (fun x=>!x.1)&&(backToKw cpos (keywordEach [] X.env)).all (fun x=>x.1.isSome)
 && decide ((e::es).length + ([]:List Keyword).length + (if([]:List Keyword).isEmpty then 0 else 1) < 30))=true:=by rfl) (hline:(apos.endLine==cpos.line)=true:=by rfl) (hs:starEach (e::es) X.env=(false, eval e X.env)::starEach es X.env:=by rfl) (hplain:(backTo cpos (starEach es X.env)).any (·.1)=false:=by rfl):JE X (.Call (.Attribute o "extend" apos) (e::es) [] cpos) (eExtend f ga):=⟨zbcx ho.out ha.out hbase hfew hline hs hplain⟩
theorem zbda (ho:JE X o f)(hbase:attributeBase o "clear" X.env (eval o X.env)=eval o X.env:=by rfl)(hline:(apos.endLine==cpos.line)=true:=by rfl):JE X (.Call (.Attribute o "clear" apos) [] [] cpos) (eClear f):=⟨zbhv ho.out hbase hline⟩
theorem zxw (ho:JE X o f):JE X o (eFz f):=⟨d_fz ho.out⟩
end
section
variable {X:Cx}{e c o i value:Expr}{sm:Stmt}{rest:List Stmt}{f g h:SE}{s t:SS}{b:ST}{pos pos':Pos}
theorem zce :JB X [] sNx:=⟨zbmb⟩
theorem zxp :JS X (.Break pos) sBrk:=⟨zbco⟩
theorem zw (he:JE X e f):JS X (.Return (some e) pos) (sRet f):=⟨zblz he.out⟩
theorem zcm (he:JE X e f)(hs:swapsWith e none pos.line X.env=pure false:=by rfl):JS X (.Expr e pos) (sDrop f):=⟨zbhc he.out hs⟩
theorem zl {i:Nat}{x:Str}(hN:X.N.Nodup)(hi:X.N[i]?=some x)(hx:L2.Loc X.env.scope x)(he:JE X e f)(hs:swapsWith e (some (.Name x pos')) pos.line X.env=pure false:=by rfl)(hf:X.fn x=true\/X.env.scope.names.lookup x=some .local:=by first | exact .inl rfl | exact .inr rfl | assumption):JS X (.Assign [.Name x pos'] e pos) (aF i f):=⟨zbly hN hi hx he.out hs hf⟩
theorem zf (h1:JS X sm s):JB X [sm] s:=⟨zbma h1.out⟩
theorem ze (h1:JS X sm s)(h2:JB X rest t):JB X (sm::rest) (aD s t):=⟨zbhe h1.out h2.out⟩
theorem zed {a' b':List Stmt}(hc:JT X c b)(ha:JB X a' s)(hb:JB X b' t):JS X (.If c a' b' pos) (sIf b s t):=⟨zbpq hc.out ha.out hb.out⟩
theorem zbhf {i:Nat}{x:Str}{op:Operator}{ti:TIp}{g:D->D->Store->Res D}(hN:X.N.Nodup)(hi:X.N[i]?=some x)(hx:L2.Loc X.env.scope x)(he:JE X e f)(ho:PIp X op ti)(hr:IpD X.K g ti)(hf:X.fn x=true\/X.env.scope.names.lookup x=some .local:=by first | exact .inl rfl | exact .inr rfl | assumption):JS X (.AugAssign (.Name x pos') op e pos) (sAug i g f):=⟨zbmd hN hi hx he.out ho hr hf⟩
theorem zqg (he:JE X value h)(ho:JE X o f)(hi:JE X i g)(ha:∀v,assign (.Subscript o i pos') X.env v=(do
 let ov ← holding [v] (eval o X.env)
 let iv ← holding [v,ov] (eval i X.env)
 standAt pos'
 holding [v,ov,iv] (setItem ov iv v)
 release [v,ov,iv] []):=by intro _;rfl) (hs:swapsWithSole [.Subscript o i pos'] value pos.line X.env=pure false:=by rfl) (hw:swappedStores [.Subscript o i pos'] value X.env=pure none:=by rfl) (h1:(assignEach [.Subscript o i pos'] X.env).map (·.2)=[assign (.Subscript o i pos') X.env]:=by rfl):JS X (.Assign [.Subscript o i pos'] value pos) (sSetIx f g h):=⟨zbcl he.out ho.out hi.out ha hs hw h1⟩
end
section
variable {X:Cx}{pos:Pos}{e:Expr}{es:List Expr}{t:SG}{u:List D->DS->Option DS}
theorem zh {i:Nat}{x:Str}(hN:X.N.Nodup)(hi:X.N[i]?=some x)(hx:L2.Loc X.env.scope x)(hf:X.fn x=true\/X.env.scope.names.lookup x=some .local:=by first | exact .inl rfl | exact .inr rfl | assumption):JG X (.Name x pos) (gN i):=⟨zbhn hN hi hx hf⟩
theorem zcn :JGs X [] gsNil:=⟨zbhm⟩
theorem zt (h1:JG X e t)(h2:JGs X es u)(hs:(assignEach (e::es) X.env).map (·.2)=assign e X.env::(assignEach es X.env).map (·.2):=by rfl):JGs X (e::es) (gsCons t u):=⟨zbcu h1.out h2.out hs⟩
theorem zei {k:Nat}{n:Nat}(hc:X.calm=true)(h:JGs X es u)(hn:(assignEach es X.env).length=n:=by rfl)(hst:(assignEach es X.env).findIdx? (·.1)=none:=by rfl):JG X (.Tuple es k pos) (gT n u):=⟨zbmh hc h.out hn hst⟩
end
section
variable {X:Cx}{tg l a b:Expr}{f:SE}{g:SA}{p pos:Pos}
theorem zbq (hl:JE X l f):JI X tg l (aH f):=⟨zbmg hl.out⟩
theorem zdm (hg:Gl X "range")(hm:X.mg "range"=none)(ha:JA X [a] g)(hs:starEach [a] X.env=[(false, eval a X.env)]:=by rfl):JI X tg (.Call (.Name "range" p) [a] [] pos) (iR1 g):=⟨zxr hg hm ha.out hs⟩
theorem znj (hg:Gl X "range")(hm:X.mg "range"=none)(ha:JA X [a, b] g)(hs:starEach [a, b] X.env=[(false, eval a X.env),(false, eval b X.env)]:=by rfl)(hs2:starEach [b] X.env=[(false, eval b X.env)]:=by rfl):JI X tg (.Call (.Name "range" p) [a, b] [] pos) (iR2 g):=⟨zxq hg hm ha.out hs hs2⟩
end
section
variable {X:Cx}{tg l:Expr}{f:SE}
theorem zbct (hl:JE X l f):JI X tg l (iDict f):=⟨zbhl hl.out⟩
end
section
variable {X:Cx}{tg iter c:Expr}{body:List Stmt}{it:SA}{bd:SG}{b:SS}{t:ST}{pos:Pos}
theorem zbi (hp:PassesOwn (model X.prog X.w) X.A X.env X.xe)(hc:X.calm=true)(hi:JI X tg iter it)(hg:JG X tg bd)(hb:JB X body b)(hs:∀x,foldedSetIterable iter X.env x=pure x:=by intro _;rfl):JS X (.For tg iter body [] pos) (sFor it bd b):=⟨zbmc hp hc hi.out hg.out hb.out hs⟩
theorem zgn (hp:PassesOwn (model X.prog X.w) X.A X.env X.xe)(hc:JT X c t)(hb:JB X body b):JS X (.While c body [] pos) (sWhile t b):=⟨zbck hp hc.out hb.out⟩
end
section
variable {X:Cx}{tg iter elt:Expr}{ifs:List Expr}{it:SA}{bd:SG}{c:ST}{f:SE}{N:List Str}{k:Nat}{is:List Nat}{scope:Scope}{pos:Pos}
theorem zfo (hcalm:X.calm=true)(hi:JI X tg iter it)(hg:∀cl C fp s H,JG (cxC X N scope cl C fp s H) tg bd)(hc:∀cl C fp s H,JIf (cxC X N scope cl C fp s H) ifs c)(he:∀cl C fp s H,JE (cxC X N scope cl C fp s H) elt f)(S:CompScope X N k is scope)(hs:∀x,foldedSetIterable iter X.env x=pure x:=by intro _;rfl):JE X (.ListComp elt [⟨tg,iter,ifs,0⟩] scope pos) (aG it k is bd c f):=⟨zbmq hcalm hi.out (fun cl C fp s H=>(hg cl C fp s H).out) (fun cl C fp s H=>(hc cl C fp s H).out) (fun cl C fp s H=>(he cl C fp s H).out) S hs⟩
theorem zbcm {i:Nat}{x:Str}{pos' spos:Pos}(hcalm:X.calm=true)(hN:X.N.Nodup)(hxi:X.N[i]?=some x)(hx:L2.Loc X.env.scope x)(hi:JI X tg iter it)(hg:∀cl C fp s H,JG (cxC X N scope cl C fp s H) tg bd)(hc:∀cl C fp s H,JIf (cxC X N scope cl C fp s H) ifs c)(he:∀cl C fp s H,JE (cxC X N scope cl C fp s H) elt f)(S:CompScope X N k is scope)(hsw:swapsWith (.ListComp elt [⟨tg,iter,ifs,0⟩] scope pos) (some (.Name x pos')) spos.line X.env=pure true:=by rfl)(hf:X.fn x=true\/X.env.scope.names.lookup x=some .local:=by first | exact .inl rfl | exact .inr rfl | assumption)(hs:∀x,foldedSetIterable iter X.env x=pure x:=by intro _;rfl):JS X (.Assign [.Name x pos'] (.ListComp elt [⟨tg,iter,ifs,0⟩] scope pos) spos) (aF i (aG it k is bd c f)):=⟨zbhb hcalm hN hxi hx hi.out (fun cl C fp s H=>(hg cl C fp s H).out) (fun cl C fp s H=>(hc cl C fp s H).out) (fun cl C fp s H=>(he cl C fp s H).out) S hsw hf hs⟩
theorem zfv {X:Cx}:JIf X [] aI:=⟨zbhj⟩
theorem zjm {X:Cx}{c:Expr}{t:ST}(h:JT X c t):JIf X [c] t:=⟨zbhi h.out⟩
end
section
variable {X:Cx}{x:Str}{k:Nat}{ps:List Str}{F:DFn}{p pos:Pos}{e:Expr}{es:List Expr}{g:SA}
theorem zr (c:CalD X.prog X.w X.K X.mg X.base x k ps F)(hn:∀ ds st v st', F ds st=.ok v st'->ds.length=ps.length)(hr:Room k X.A)(hg:Gl X x)(ha:JA X (e::es) g)(hdb:(x==("__debug__" : Str))=false:=by decide)(he:starEach (e::es) X.env=(false, eval e X.env)::starEach es X.env:=by rfl)(hpl:(backTo pos (starEach es X.env)).any (·.1)=false:=by rfl):JE X (.Call (.Name x p) (e::es) [] pos) (aE F g):=⟨zbmr c hn hr hg ha.out hdb he hpl⟩
end
section
theorem zu {P:Program}{w:World}{K:Fg}{mg:Str->Option Value}{base h:Heap}{x:Str}{st:Stmt}{N ps:List Str}{k:Nat}{b:SS}(T:TopF K x st)(X:K.In h)(G:h.Ns mainGlobals mg)(S:FnScope N ps (defScope st))(bd:∀(kV doc pm:Value) (an:Option Addr) (cdv ct:Value) (us:List Value),us.length=ps.length->bindArgs (W.fnOf x x (defArgs st) (defBody st) (defScope st) .none kV doc pm an cdv ct) ⟨us,[]⟩=pure (ps.zip us))(hbody:∀(f:Addr) (cdv:Value) (A:Around) (outer:List Env) (s:Shared) (H:Hp) (E:XK),Room k (A.deeper (envOfC x (defScope st) s.heap.objs.size f cdv)) ->
 JB (cxOf CX0 P w K mg base N x (defScope st) f cdv A outer s H E).nox (defBody st) b):CalD P w K mg base x (k+1) ps (fnD N.length ps.length b):=zbih T X G S bd (fun f cdv A outer s H E rr=>(hbody f cdv A outer s H E rr).out)
end
section
theorem zbgi {P:Program}{w:World}{K:Fg}{mg:Str->Option Value}{base:Heap}{st:Stmt}{N ps:List Str}{k:Nat}{b:SS}{f:Addr}{fd:FuncData}(F:Fun K "law" "law" st f fd)(S:FnScope N ps (defScope st))(hp:ps.length=1)(hbody:∀(cdv:Value) (A:Around) (outer:List Env) (s:Shared) (H:Hp) (E:XK), Room k (A.deeper (envOfC "law" (defScope st) s.heap.objs.size f cdv)) ->
 JB (cxOf CX0 P w K mg base N "law" (defScope st) f cdv A outer s H E).nox (defBody st) b) (holds:∀ ns:List Int, ns.length<=63->∃ st', fnD N.length 1 b [.scr (ns.map .int)] []=.ok (.bl true) st'):FnOk P w K mg base CX0 (k + 1) f fd ps (spLaw K):=zbla F S hp (fun cdv A outer s H E rr=>(hbody cdv A outer s H E rr).out) holds
end
section
variable {X:Cx}{a b c e:Expr}{f f' f'':SE}{pos:Pos}{sm:Stmt}
theorem zmb :JS X sm sStuck:=⟨zbcn⟩
theorem zeh (h:JE X a f)(he:∀whole,isTrue a X.env whole=(do let v ← whole;standAt a.pos;holding [v] (truthy v)):=by intro _;rfl):JT X a (eTru f):=⟨zblv h.out he⟩
end
section
variable {X:Cx}{l:Expr}{f:SE}{elts:List Expr}{k j:Nat}{tpos p pos kpos cpos:Pos}
end
section
variable {X:Cx}{tg iter elt:Expr}{ifs:List Expr}{it:SA}{bd:SG}{c:ST}{f:SE}{N:List Str}{k:Nat}{is:List Nat}{scope:Scope}{pos:Pos}
theorem zbcz (hcalm:X.calm=true)(hi:JI X tg iter it)(hg:∀cl C fp s H,JG (cxC X N scope cl C fp s H) tg bd)(hc:∀cl C fp s H,JIf (cxC X N scope cl C fp s H) ifs c)(he:∀cl C fp s H,JE (cxC X N scope cl C fp s H) elt f)(S:CompScope X N k is scope)(hs:∀x,foldedSetIterable iter X.env x=pure x:=by intro _;rfl):JE X (.ListComp elt [⟨tg,iter,ifs,0⟩] scope pos) (eCompM it k is bd c f):=⟨zbhu hcalm hi.out (fun cl C fp s H=>(hg cl C fp s H).out) (fun cl C fp s H=>(hc cl C fp s H).out) (fun cl C fp s H=>(he cl C fp s H).out) S hs⟩
end
section
theorem za {X:Cx}{e:Expr}{es:List Expr}{f:SE}{g:SA}(ha:JE X e f)(hr:JA X es g)(hp:plainE e=true:=by rfl):JA X (e::es) (aB f g):=⟨zbcv ha.out hr.out hp⟩
end
section
variable {X:Cx}{a b:Expr}{g:SA}{elts:List Expr}{k:Nat}{tpos p pos:Pos}
theorem zbhk (hg:Gl X "zip")(hm:X.mg "zip"=none)(ha:JA X [a, b] g)(hs:starEach [a, b] X.env=[(false, eval a X.env),(false, eval b X.env)]:=by rfl)(hs2:starEach [b] X.env=[(false, eval b X.env)]:=by rfl):JI X (.Tuple elts k tpos) (.Call (.Name "zip" p) [a, b] [] pos) (iZipT g):=⟨zbmf hg hm ha.out hs hs2⟩
end
section
end
end Dd
namespace L2
open PySem PySem.Spec PyProof.Rows
section
variable {prog:Program}{w:World}{A:Around}{R:Result->Shared->Prop}{I:Addr}{fp wr:List Addr}{n:Nat}{P:Nat->Value->Prop}{St:Nat->Heap->Prop}
end
section
variable {prog:Program}{w:World}{A:Around}{E:Value->Shared->Prop}{s:Shared}
end
section
variable {X:Cx}{p pos cpos kpos:Pos}{l:Expr}{t:TA}{d:Int}{j:Nat}
end
section
open PySem.AutoSeq1
end
end L2
namespace Dd
open PySem L2
section
variable {X:Cx}{p pos cpos kpos:Pos}{l:Expr}{f:SA}{d:Int}{j:Nat}
end
section
variable {X:Cx}{o e:Expr}{es:List Expr}{f:SE}{ga:SA}{apos cpos:Pos}
end
end Dd
namespace L2
open PySem PySem.Spec PyProof.Rows
section
variable {X:Cx}{p pos cpos kpos upos:Pos}{l:Expr}{t:TA}{d:Int}{j:Nat}
end
end L2
namespace Dd
open PySem L2 PyProof.Rows
section
variable {X:Cx}{p pos cpos kpos upos:Pos}{l:Expr}{f:SA}{d:Int}{j:Nat}
end
end Dd
namespace L2
open PySem PySem.Spec PyProof.Rows
section
variable {X:Cx}
end
section
open PySem.AutoSeq1
variable (l:Addr)(items:Array Value)(n:Nat)(dd:Option Addr)(sl:Array (Option Value))(x:Int)(u:Tok)
end
end L2
namespace Dd
open PySem L2 PyProof.Rows
noncomputable abbrev oOrI:=oI (fun _ _=>True) fun i j=>.int (Builtin.bitOr i j)
noncomputable abbrev oXorI:=oI (fun _ _=>True) fun i j=>.int (Builtin.bitXor i j)
end Dd
namespace L2
open PySem PySem.Spec PyProof.Rows PySem.W
section
variable {P:Program}{w:World}{B:Around}{sg:Shared}
end
end L2
namespace Dd
open PySem L2 PyProof.Rows
end Dd
namespace L2
open PySem PySem.Spec PyProof.Rows
end L2
namespace Dd
open PySem L2 PyProof.Rows
section
variable {X:Cx}{o e:Expr}{es:List Expr}{f:SE}{ga:SA}{apos cpos:Pos}
end
end Dd
namespace Dd
variable {α:Type}{motive:List α->Prop}
@[elab_as_elim] theorem len0 (us:List α) (hl:us.length=0) (h:motive []):motive us:=by rw[List.eq_nil_of_length_eq_zero hl];exact h
@[elab_as_elim] theorem lenS {n:Nat} (us:List α) (hl:us.length=n+1) (h:∀a us,us.length=n->motive (a::us)):motive us:=by
 cases us with
 | nil=>cases hl
 | cons a us=>exact h a us (Nat.succ.inj hl)
@[elab_as_elim] theorem len1 (us:List α) (hl:us.length=1) (h:∀a,motive [a]):motive us:=lenS us hl fun a us hl=>len0 us hl (h a)
@[elab_as_elim] theorem len2 (us:List α) (hl:us.length=2) (h:∀a b,motive [a,b]):motive us:=lenS us hl fun a us hl=>len1 us hl (h a)
@[elab_as_elim] theorem len3 (us:List α) (hl:us.length=3) (h:∀a b c,motive [a,b,c]):motive us:=lenS us hl fun a us hl=>len2 us hl (h a)
end Dd
namespace Dd
open PySem L2
noncomputable def iterF (s:DFn->DFn):Nat->DFn
 | 0=>fun _ _=>.stuck
 | n+1=>s (iterF s n)
theorem zus {P:Program}{w:World}{K:Fg}{mg:Str->Option Value}{base h:Heap}{x:Str}{st:Stmt}{N ps:List Str}{k:Nat}(T:TopF K x st)(X:K.In h)(G:h.Ns mainGlobals mg)(S:FnScope N ps (defScope st))
  (bd:∀(kV doc pm:Value) (an:Option Addr) (cdv ct:Value) (us:List Value),us.length=ps.length->bindArgs (W.fnOf x x (defArgs st) (defBody st) (defScope st) .none kV doc pm an cdv ct) ⟨us,[]⟩=pure (ps.zip us)):CalD P w K mg base x (k+1) ps (fun _ _=>.stuck) :=
 zqk T X G S bd (fun vs H Q E hh=>by obtain⟨ρ,ds,st,v,st',a,rp,e,hl,q⟩:=hh;exact hl) fun f cdv A outer s H vs Q E hr hh=>by obtain⟨ρ,ds,st,v,st',a,rp,e,hl,q⟩:=hh;cases e
theorem CalD.iter {P:Program}{w:World}{K:Fg}{mg:Str->Option Value}{base:Heap}{x:Str}{ps:List Str}{L:Nat}{s:DFn->DFn}(h0:CalD P w K mg base x L ps (fun _ _=>.stuck))(hl:∀F ds st v st',s F ds st=.ok v st'->ds.length=ps.length)
  (hs:∀F j,L<=j->(∀ds st v st',F ds st=.ok v st'->ds.length=ps.length)->CalD P w K mg base x j ps F->CalD P w K mg base x (j+1) ps (s F)):∀n,CalD P w K mg base x (L+n) ps (iterF s n):=fun n=>by
 have key:∀n,(∀ds st v st',iterF s n ds st=.ok v st'->ds.length=ps.length)/\CalD P w K mg base x (L+n) ps (iterF s n):=fun n=>by
  induction n with
  | zero=>exact⟨fun _ _ _ _ h=>(by cases h),h0⟩
  | succ n ih=>exact⟨hl _,hs _ _ (xbo _ _) ih.1 ih.2⟩
 exact(key n).2
end Dd
namespace L2
open PySem PySem.Spec PyProof.Rows
end L2
namespace Dd
open PySem L2 PyProof.Rows
end Dd
namespace L2
open PySem PySem.Spec PyProof.Rows
section
variable {X:Cx}{tg:Expr}
end
end L2
namespace Dd
open PySem L2
section
variable {X:Cx}{tg a b c:Expr}{g:SA}{p pos:Pos}
end
end Dd
namespace Dd
open PySem L2 PyProof.Rows
section
variable {X:Cx}{o e:Expr}{es:List Expr}{f:SE}{ga:SA}{apos cpos:Pos}
end
end Dd
namespace L2
open PySem PySem.Spec PyProof.Rows
variable {X:Cx}{e es:Expr}{te ts:TE}{pos p2:Pos}
end L2
namespace Dd
open PySem L2
section
variable {X:Cx}{e es:Expr}{f g:SE}{pos p2:Pos}
end
end Dd
namespace L2
open PySem PySem.Spec PyProof.Rows
section
variable {prog:Program}{w:World}{A:Around}{E:Value->Shared->Prop}{s:Shared}
end
variable {X:Cx}{e es:Expr}{te ts:TE}{pos p2:Pos}
end L2
namespace Dd
open PySem L2
section
variable {X:Cx}{e es:Expr}{f g:SE}{pos p2:Pos}
end
end Dd
namespace L2
open PySem PySem.Spec PyProof.Rows
end L2
namespace Dd
open PySem L2
end Dd
namespace L2
open PySem PySem.Spec PyProof.Rows
section
variable {X:Cx}{x:Str}{C:Addr}{bmB bmN:List Value}{newId nid initId inN B Bn:String}{e:Expr}{es:List Expr}{ta:TA}{np cpos pos:Pos}
end
section
variable {M:Model}{A:Around}{E:Value->Shared->Prop}{s:Shared}
end
section
variable {P:Program}{w:World}{K:Fg}{mg:Str->Option Value}{base:Heap}{N:List Str}{qual:Str}{scope:Scope}{f:Addr}{cd:Value}{A:Around}{outer:List Env}{s₀:Shared}{H₀:Hp}{E:XK}
end
section
variable {X:Cx}
end
section
variable {X:Cx}{aU pins':List (Addr×Obj)}{σ:St}{H:Hp}{s:Shared}{E:Value->Shared->Prop}{e:Value}
end
section
variable {X:Cx}{body:List Stmt}{x n:Str}{B:Addr}{i:Nat}{b0:Stmt}{suite:List Stmt}{xp hp pos:Pos}{tb:(St->Value->Option Addr->Hp->Prop)->TS}{ts:TS}
end
section
variable {prog:Program}{w:World}{A:Around}{E:Value->Shared->Prop}
end
section
variable {X:Cx}{pos:Pos}
end
section
variable {P:Program}{w:World}{K:Fg}{mg:Str->Option Value}{base:Heap}{N:List Str}{name qual:Str}{params:Arguments}{body:Expr}{scope:Scope}{f:Addr}{cd pm ct:Value}{cl:List (Str×Addr)}{A:Around}{outer:List Env}{s:Shared}{H:Hp}{E:XK}{τ:St}
end
section
variable {X:Cx}{aU:List (Addr×Obj)}{τ:St}{H:Hp}{s:Shared}{c T:Addr}{ps:Array Value}{params:Arguments}{body:Expr}{scope:Scope}{cl:List (Str×Addr)}{pos:Pos}{Q:Value->Shared->Prop}
end
section
variable {X:Cx}
end
section
variable {X:Cx}
end
end L2
namespace L2
open PySem
namespace St
end St
namespace St
/- the leaps meet all places -/
end St
namespace St
/- laid anew -/
end St
namespace St
end St
end L2
namespace L2
open PySem PySem.W PyProof.Rows PySem.Spec
namespace St
section
variable {P:Program}{w:World}{B:Around}{E:Value->Shared->Prop}{s:Shared}{a:Addr}
end
end St
namespace St
section
variable {P:Program}{w:World}{B:Around}{R:Result->Shared->Prop}{it:Addr}{fp wr:List Addr}{G:Array GenState->Array GenState->Prop}{N:Nat}{It:Nat->Value->Prop}{St:Nat->Shared->Prop}
end
section
variable {P:Program}{w:World}{B:Around}{E:Value->Shared->Prop}{s:Shared}
end
end St
namespace St
section
variable {P:Program}{w:World}{B:Around}{E:Value->Shared->Prop}{s:Shared}{a it:Addr}{es:Array (Int×Value)}{ep:Nat}{t:SetTable}{ks:List Nat}
end
end St
end L2
namespace L2
open PySem PySem.Spec PyProof.Rows PySem.W
end L2
namespace Dd
open PySem L2 PyProof.Rows
section
variable {X:Cx}{x y:Str}{p p2 pos pos2:Pos}{e:Expr}{f:SA}{g:List D->Store->Res D}
end
end Dd
namespace L2
open PySem PySem.Spec PyProof.Rows PySem.W
noncomputable def CMulW (i j:Int):Prop:=PySem.Builtin.Int.intBits i<=60000/\PySem.Builtin.Int.intBits j<=60000
theorem zbfq {X:Cx}:OpR X (binaryOp .Mult) (rI CMulW fun i j=>.int (i * j)):=opI fun _ _ _ _ _ _ _ hc q=>mul_int q (.of_le hc.1 hc.2 (by decide))
end L2
namespace Dd
open PySem L2 PyProof.Rows
noncomputable instance instCMulW:DecidableRel CMulW:=fun i j=>by unfold CMulW;infer_instance
noncomputable abbrev oMulW:=oI CMulW fun i j=>.int (i * j)
section
variable {X:Cx}{p p2 pos pos2 cpos apos:Pos}{e o:Expr}{f:SA}{g:SE}
end
section
variable {X:Cx}{R:RXT}{e:Expr}{es:List Expr}{f:SE}{g:SA}{sm:Stmt}{rest body:List Stmt}{s t:SS}{pos p:Pos}{x:Str}{k:Nat}{ps:List Str}{F:DFn}
end
section
variable {P:Program}{w:World}{K:Fg}{mg:Str->Option Value}{base h:Heap}{x:Str}{st:Stmt}{N ps:List Str}{k:Nat}{b:SS}
end
section
variable {X:Cx}{R:RXT}{f:Addr}{σL:DS}{τL:L2.St}{g:SE}{x n y:Str}{p pos pos2 xp hp:Pos}{B:Addr}{i:Nat}{cs:List Str}{b0:Stmt}{suite rest:List Stmt}{u t:SS}
end
section
variable {X:Cx}{y:Str}{p pos lp:Pos}{params:Arguments}{body:Expr}{scope stS:Scope}{N NL:List Str}{is:List Nat}{c T fr:Addr}{fdR:FuncData}{stR:Stmt}{x:Str}{k:Nat}{lam:SE}{b:(Store->Res D)->SS}
end
end Dd
namespace L2
open PySem PySem.Spec PyProof.Rows
end L2
namespace Dd
open PySem L2 PyProof.Rows
section
variable {X:Cx}{o e:Expr}{es:List Expr}{f:SE}{ga:SA}{apos cpos:Pos}
end
end Dd
namespace L2
open PySem PySem.Spec PyProof.Rows
end L2
namespace Dd
open PySem L2 PyProof.Rows
section
variable {X:Cx}{R:RXT}{f:Addr}{σL:DS}{τL:L2.St}{g:SE}{x n y:Str}{p pos pos2 xp hp:Pos}{B:Addr}{i:Nat}{cs:List Str}{b0:Stmt}{suite rest:List Stmt}{u t:SS}
end
section
variable {K:Fg}{cv:Value}
end
section
variable {X:Cx}{pos:Pos}{es:List Expr}{u:List D->DS->Option DS}
end
end Dd
namespace L2
open PySem PySem.Spec PyProof.Rows
section
variable {prog:Program}{w:World}{A:Around}{R:Result->Shared->Prop}{I:Addr}{fp wr:List Addr}{n:Nat}{P:Nat->Value->Prop}{St:Nat->Heap->Prop}
end
section
variable {prog:Program}{w:World}{A:Around}{E:Value->Shared->Prop}{s:Shared}
end
section
variable {X:Cx}{p pos cpos kpos:Pos}{l:Expr}{t:TA}{d:Int}{j:Nat}
end
section
variable {X:Cx}
end
end L2
namespace Dd
open PySem L2 PyProof.Rows
section
variable {X:Cx}{p pos cpos kpos:Pos}{l:Expr}{f:SA}{j:Nat}
end
end Dd
namespace L2
open PySem PySem.Spec PyProof.Rows
section
variable {P:Program}{w:World}{A:Around}{E:Value->Shared->Prop}{s:Shared}{K:Fg}{C fI:Addr}{us:List Value}
end
section
variable {X:Cx}{C f:Addr}{fd:FuncData}{ps:List Str}{sp:Sp}{k:Nat}{x:Str}{p pos:Pos}{e:Expr}{es:List Expr}{t:TA}
end
section
variable {X:Cx}{aU:List (Addr×Obj)}{σ:St}{H:Hp}{s:Shared}
end
end L2
namespace L2
open PySem PySem.Spec PyProof.Rows Builtin Builtin.ObjectAttr
section
variable {P:Program}{w:World}{A:Around}{E:Value->Shared->Prop}{s:Shared}{K:Fg}{C fI ea:Addr}{v:Value}
end
end L2
namespace L2
open PySem PySem.Spec PyProof.Rows
section
variable {X:Cx}{aU:List (Addr×Obj)}{σ:St}{H:Hp}{s:Shared}
end
section
variable {P:Program}{w:World}{K:Fg}{mg:Str->Option Value}{base h:Heap}{C fI R:Addr}{xR qual:Str}{st:Stmt}{fd:FuncData}
end
noncomputable def ItE0 (K:Fg) (a:Addr):It :=
 ⟨fun i H=>∃xs x,SqL K H a xs/\xs[i]?=some x,fun i H y H'=>∃p,H p=none/\y=.ref p/\∀xs x,SqL K H a xs->xs[i]?=some x->H'=upd H p (.tup [.int (i:Int),x]),fun i H=>∃xs,SqL K H a xs/\xs.length<=i⟩
theorem zsg {P:Program}{w:World}{K:Fg}{elts:List Expr}{k:Nat}{tpos:Pos}(e it a:Addr)(hei:e≠it) :
  Turn P w K (.Tuple elts k tpos) (ItE0 K a) [e,it] e (fun i h=>(∃old,IsEnum h e it (i:Int) old)/\h.IsListIter it a i) where
 mem:=by simp
 obj:=fun i h st b hb=>by
  obtain⟨⟨old,he⟩,o,e',c,d⟩:=st;rcases xbx.mp hb with rfl | hb
  ·exact⟨_,he,fun v z=>nomatch (show Data.fields _=Data.cell v from z)⟩
  ·obtain rfl:b=it:=by simpa using hb
   exact⟨o,e',fun v z=>by rw[d] at z;cases z⟩
 keep:=fun i h h' st k=>⟨let ⟨old,he⟩:=st.1;⟨old,k e (by simp) _ he⟩,let ⟨o,z,r⟩:=st.2;⟨o,k it (by simp) o z,r⟩⟩
 item:=by
  intro X hP hw hK hc i aU s σ H E I hf st hg;subst hP hw hK;obtain⟨xs,x,hq,hx⟩:=hg;obtain⟨⟨old,he⟩,hit⟩:=st;obtain⟨its,rv,p,hz⟩:=I.list hq;obtain⟨u,hu,ru⟩:=rv.get hx;refine wpAny_pyNext_enum_item he hit p.isList (x:=u) (by rw[xfr];exact hu) hei fun h1 ho hit' hT hsz hk=>?_
  refine⟨_,rfl,wpAny_letOwnedTupleGo_enum ho fun h2 he2 hs2=>?_⟩;obtain⟨f0,f1,f2,f3,f4,f5⟩:=hf e (by simp);obtain⟨g0,g1,g2,g3,g4,g5⟩:=hf it (by simp);have hel:e < s.heap.objs.size:=xbm he;have hil:it < s.heap.objs.size:=by obtain⟨o',ho',_⟩:=hit;exact xbm ho'
  have I1:Inv X aU σ (upd H s.heap.objs.size (.tup [.int (i:Int), x])) { s with heap:=s.heap.push { cls:=.type "tuple", data:=.seq #[.int (i:Int) s.toks, u] }, toks:=s.toks } :=
   I.laid (fun _ _ q=>xbd _ q) (xbe _) ⟨by simp;decide,[.int (i:Int) s.toks,u],.cons ⟨_,rfl⟩ (.cons ru .nil),⟨_,xbw _ rfl,rfl,_,rfl⟩⟩
  have I2:Inv X aU σ (upd H s.heap.objs.size (.tup [.int (i:Int),x])) {s with heap:=h2,toks:=s.toks+1}:=by
   refine Inv.turned2 (s:={ s with heap:=s.heap.push { cls:=.type "tuple", data:=.seq #[.int (i:Int) s.toks, u] }, toks:=s.toks }) (h':=h2) (t':=s.toks + 1) (e:=e) (it:=it) I1 (fun b o hbe hbi q=>?_) (by rw[zy (xcl hil)]; exact g0) g1 g3 g4 g5 (by rw[zy (xcl hel)]; exact f0) f1 f3 f4 f5
   rcases Heap.get?_push_cases (show(s.heap.push _).get? b=some o from q) with⟨z,z2⟩ | z
   ·rw[z,z2];exact(hs2.2 _ (xia hel)).trans hT
   ·exact(hs2.2 _ hbe).trans (hk b o hbe hbi z)
  refine⟨.ref s.heap.objs.size,_,I2,rfl,⟨s.heap.objs.size,I.fresh,rfl,fun ys y hy e'=>?_⟩,⟨⟨u,by push_cast;exact he2⟩,?_⟩,fun b hb=>?_⟩
  ·rw[I.list_inj hy hq,hx] at e';cases e'
   rfl
  ·obtain⟨o,z,r⟩:=hit';exact⟨o,(hs2.2 it (xcs hei)).trans z,r⟩
  ·rcases xbx.mp hb with rfl | hb
   ·rw[zy (xcl hel)];exact f0
   ·obtain rfl:b=it:=by simpa using hb
    rw[zy (xcl hil)];exact g0
 done:=by
  intro X hP hw hK hc i aU s σ H E I hf st hg;subst hP hw hK;obtain⟨xs,hq,hx⟩:=hg;obtain⟨⟨old,he⟩,hit⟩:=st;obtain⟨its,rv,p,hz⟩:=I.list hq;have hl:=rv.length;obtain⟨g0,g1,g2,g3,g4,g5⟩:=hf it (by simp);exact wpAny_pyNext_enum_end (I.ok.hd hc) he hit p.isList (by simp;lia) fun h' he'=>⟨rfl,I.turned (t':=s.toks) (fun b o hb e=>he' b o hb e) g0 g1 g3 g4 g5⟩
 self:=fun A i s Q E st h=>let ⟨old,he⟩:=st.1;wpAny_pyIter_enum he h
section
variable {X:Cx}
noncomputable def iEnum0 (K:Fg) (tl:TE):TI:=fun σ H R=>tl σ H fun x H1=>∃a,x=.ref a/\(∃xs,SqL K H1 a xs)/\R (ItE0 K a) H1
theorem zbax {elts:List Expr}{k:Nat}{tpos p pos:Pos}{l:Expr}{tl:TE}(hg:Gl X "enumerate")(hm:X.mg "enumerate"=none)(hl:PE X l tl)
  (he:starEach [l] X.env=[(false, eval l X.env)]:=by rfl):PI X (.Tuple elts k tpos) (.Call (.Name "enumerate" p) [l] [] pos) (iEnum0 X.K tl):=by
 intro aU s σ H R I h;refine xis (zoq I hg hm PyProof.Rows.boot_enumerate ?_);refine xfi (e:=l) (rest:=[]) ?_ he rfl;rw[he];refine xhm (thn (hl aU s σ H _ I h) fun v s1 hq0=>?_);obtain⟨x,H1,I1,r1,q1⟩:=hq0;refine xjb ?_;obtain⟨a,rfl,⟨xs,hq⟩,q⟩:=q1;cases r1;obtain⟨its,rv,pp,hz⟩:=I1.list hq;refine call_enumerate_list pp.isList fun h' he' hit hsz hk=>?_
 refine wpAny_pyIter_enum he' ?_;have I3:=I1.kept (h':=h') (t':=s1.toks) hk;refine⟨s1.heap.objs.size+1,[s1.heap.objs.size+1,s1.heap.objs.size],_,_,H1,rfl,I3,zsg _ s1.heap.objs.size a (Nat.succ_ne_self _),⟨⟨_,he'⟩,hit⟩,fun b hb=>?_,q⟩;have hb':s1.heap.objs.size<=b:=by
  have hb2:b=s1.heap.objs.size+1\/b=s1.heap.objs.size:=by simpa using hb
  cases hb2 with
  | inl z=>exact z ▸ xlp _
  | inr z=>exact z ▸ xbe _
 exact I1.fpOk hb' (I1.hok.fresh hb')
end
section
variable {X:Cx}{e:Expr}{pos:Pos}{te:TE}
end
section
variable {P:Program}{w:World}{K:Fg}{mg:Str->Option Value}{base:Heap}{N:List Str}{qual:Str}{scope:Scope}{f:Addr}{cd:Value}{A:Around}{outer:List Env}{s₀:Shared}{H₀:Hp}{E:XK}
end
end L2
namespace Dd
open PySem L2 PyProof.Rows
section
variable {X:Cx}{R:RXT}{e:Expr}{es:List Expr}{f:SE}{g:SA}{sm:Stmt}{rest body:List Stmt}{s t:SS}{pos p:Pos}{x:Str}
end
section
variable {X:Cx}{R:RXT}{e:Expr}{es:List Expr}{f:SE}{g:SA}{sm:Stmt}{rest body:List Stmt}{s t:SS}{pos p:Pos}{x:Str}
end
end Dd
namespace L2
open PySem PySem.Spec PyProof.Rows
end L2
namespace Dd
open PySem L2 PyProof.Rows
section
variable {X:Cx}{R:RXT}{e:Expr}{es:List Expr}{f:SE}{g:SA}{pos p:Pos}{x:Str}
end
end Dd
namespace L2
open PySem PySem.Spec PyProof.Rows
section
variable {X:Cx}
end
end L2
namespace Dd
open PySem L2 PyProof.Rows
end Dd
namespace L2
open PySem PySem.Spec PyProof.Rows
end L2
namespace Dd
open PySem L2 PyProof.Rows
section
variable {X:Cx}{o e:Expr}{es:List Expr}{f:SE}{ga:SA}{apos cpos:Pos}
end
end Dd
namespace L2
open PySem PySem.Spec PyProof.Rows
end L2
namespace Dd
open PySem L2 PyProof.Rows
noncomputable def valI (kvs:List (Int×D)) (k:Int):Option D:=(kvs.find? fun kv=>decide (kv.1=k)).map (·.2)
noncomputable def putI (kvs:List (Int×D)) (k:Int) (v:D):List (Int×D) :=
 if(kvs.any fun kv=>decide (kv.1=k))=true then kvs.map (fun kv=>if kv.1=k then(kv.1,v) else kv) else kvs++[(k,v)]
theorem inlI {a b:Int}:(Sum.inl a:Key)=Sum.inl b↔a=b:=⟨fun e=>Sum.inl.inj e,fun e=>by rw[e]⟩
section
variable {K:Fg}{ρ:Loc}{H:Hp}{kvs:List (Int×D)}{vs:List (Key×V)}
theorem KiAt.val (h:KiAt K ρ H kvs vs)(k:Int):match valI kvs k with
  | some d=>∃v,valV vs (Sum.inl k)=some v/\At K ρ H d v
  | none=>valV vs (Sum.inl k)=none:=by
 induction h with
 | nil=>rfl
 | @cons p q ps qs h t ih =>
  obtain⟨h1,h2⟩:=h;by_cases e:p.1=k
  ·have e1:valI (p::ps) k=some p.2:=by simp[valI,xdk,e]
   rw[e1];exact⟨q.2,zig (by rw[h1,e]),h2⟩
  ·have e1:valI (p::ps) k=valI ps k:=by simp[valI,xdk,e]
   have e2:valV (q::qs) (Sum.inl k)=valV qs (Sum.inl k):=zih (by rw[h1,inlI];exact e);rw[e1,e2];exact ih
theorem KiAt.put (h:KiAt K ρ H kvs vs)(k:Int){d:D}{v:V}(a:At K ρ H d v):KiAt K ρ H (putI kvs k d) (putK vs (Sum.inl k) v):=by
 have any:∀{kvs:List (Int×D)} {vs:List (Key×V)},KiAt K ρ H kvs vs->(kvs.any fun kv=>decide (kv.1=k))=(vs.any fun kv=>decide (kv.1=Sum.inl k)):=fun h=>by
  induction h with
  | nil=>rfl
  | @cons p q ps qs h t ih =>
   rw[xgv,xgv,ih,h.1]
   congr 1
   simp only[inlI]
 unfold putI putK;rw[any h];split
 ·rename_i hh;clear hh any
  induction h with
  | nil=>exact .nil
  | @cons p q ps qs h t ih =>
   refine .cons ?_ ih;obtain⟨h1,h2⟩:=h;dsimp only;by_cases e:p.1=k
   ·rw[if_pos e,if_pos (by rw[h1,e])];exact⟨h1,a⟩
   ·rw[if_neg e,if_neg (by rw[h1,inlI];exact e)];exact⟨h1,h2⟩
 ·have app:∀{kvs:List (Int×D)} {vs:List (Key×V)},KiAt K ρ H kvs vs->KiAt K ρ H (kvs++[(k,d)]) (vs++[(Sum.inl k,v)]):=fun h=>by
   induction h with
   | nil=>exact .cons ⟨rfl,a⟩ .nil
   | cons h t ih=>exact .cons h ih
  exact app h
theorem KiAt.length (h:KiAt K ρ H kvs vs):kvs.length=vs.length:=xhk h
theorem zyx {p:Addr}(g:H p=some (.dK vs)):∀ob u,H p≠some (.frz ob u):=fun ob u z=>by rw[g] at z;cases z
end
noncomputable def eDNewI:SE:=fun _ st=>.ok (.ref st.length) (st++[.dI []])
section
variable {X:Cx}{o e a:Expr}{es:List Expr}{f:SE}{ga:SA}{apos cpos pos:Pos}
theorem zuh:JE X (.Dict [] [] pos) eDNewI:=⟨zha zbbd fun τ H Q hq0 p hp=>by
 obtain⟨ρ,σ,st,v,st',a,rp,e,q⟩:=hq0;cases e;obtain⟨E,R⟩:=rp.alloc hp (x:=.dI []) (o:=.dK []) fun E=>⟨[],zbb,.nil⟩
 exact q _ _ _ E R (.last rp.len.symm)⟩
end
end Dd
namespace L2
open PySem PySem.Spec PyProof.Rows
noncomputable def rBits:V->List V->Hp->VK->Prop:=fun x vs H Q=>∃i:Int,x=.int i/\vs=[]/\Q (.int (Builtin.Int.intBits i)) H
theorem zbgb {X:Cx}:MtR X "int.bit_length" rBits:=by
 intro aU s σ H x xs v us Q I rx rv h;obtain⟨i,rfl,rfl,q⟩:=h;obtain⟨t,rfl⟩:=rx;cases rv;exact call_int_bit_length ⟨.int _,H,I.tok _,⟨_,rfl⟩,q⟩
end L2
namespace Dd
open PySem L2 PyProof.Rows
noncomputable def eBits (f:SE):SE:=fun σ st=>(f σ st).bind fun x st1=>match x with
 | .int i=>.ok (.int (Builtin.Int.intBits i)) st1
 | _=>.stuck
theorem zkx {X:Cx}{o:Expr}{f:SE}{apos cpos:Pos}(ho:JE X o f)(hbase:attributeBase o "bit_length" X.env (eval o X.env)=eval o X.env:=by rfl)(hline:(apos.endLine==cpos.line)=true:=by rfl):JE X (.Call (.Attribute o "bit_length" apos) [] [] cpos) (eBits f) :=
 ⟨zha (zbfm F.plainAttrs_int F.slot_int_bit_length F.type_int_bit_length zbgb ho.out hbase hline) fun τ H Q hq0=>by
  obtain⟨ρ,σ,st,v,st',a,rp,e,q⟩:=hq0;obtain⟨x,st1,e1,e⟩:=zc e;refine⟨ρ,σ,st,x,st1,a,rp,e1,fun ρ1 H1 u x1 rp1 a1=>?_⟩;split at e
  ·rename_i i;cases e;cases a1;exact⟨rfl,i,rfl,rfl,q _ _ _ x1 rp1 (.int _)⟩
  ·cases e⟩
end Dd
namespace L2
open PySem PySem.Spec PyProof.Rows
section
variable {X:Cx}{tg:Expr}
end
end L2
namespace Dd
open PySem PySem.Spec PyProof.Rows L2
section
variable {X:Cx}{tg l:Expr}{f:SE}{p pos:Pos}
end
end Dd
namespace L2
open PySem PySem.Spec PyProof.Rows PySem.W
section
variable {X:Cx}{aU:List (Addr×Obj)}{σ:St}{H:Hp}{s:Shared}
end
end L2
namespace Dd
open PySem PySem.Spec PyProof.Rows L2
noncomputable def iEn0 (f:SE):SA:=fun σ st=>(f σ st).bind fun x st1=>match x with
 | .lst xs=>.ok (numF 0 xs) st1
 | _=>.stuck
noncomputable def intsOf (st:Store) (x:D):Option (List (Int×D)):=match x with
 | .ref n=>match st[n]? with
  | some (.dI kvs)=>some kvs
  | _=>none
 | _=>none
noncomputable def oIIn (neg:Bool) (y x:D) (st:Store):Res D:=match y,intsOf st x with
 | .int k,some kvs=>.ok (.bl (if neg then !(valI kvs k).isSome else(valI kvs k).isSome)) st
 | _,_=>.stuck
noncomputable def oIGet (x y:D) (st:Store):Res D:=match intsOf st x,y with
 | some kvs,.int k=>match valI kvs k with
  | some v=>.ok v st
  | none=>.stuck
 | _,_=>.stuck
noncomputable def sIPut (f g h:SE):SS:=fun σ st=>(h σ st).bind fun v st1=>(f σ st1).bind fun x st2=>(g σ st2).bind fun y st3=>match x,y with
 | .ref n,.int k=>match st3[n]? with
  | some (.dI kvs)=>if kvs.length < sizeLine then .ok (.nx σ) (st3.set n (.dI (putI kvs k v))) else .stuck
  | _=>.stuck
 | _,_=>.stuck
theorem ztw {K:Fg}{ρ:Loc}{st:Store}{H:Hp}(rp:Rep K ρ st H){d:D}{u w:V}{kvs:List (Int×D)}{k:Int}(a:At K ρ H d u)(b:At K ρ H (.int k) w)(e:intsOf st d=some kvs) :
  ∃p o,u=.ref p/\DGet H p w o/\o.isSome=(valI kvs k).isSome/\∀z,valI kvs k=some z->∃v,o=some v/\At K ρ H z v:=by
 unfold intsOf at e;split at e
 ·split at e
  ·rename_i n kv hn;cases e;obtain⟨p,rfl,hp,vs,g1,g2⟩:=zfu rp a hn (by intro z;cases z);cases b;have g3:=g2.val k;refine⟨p,valV vs (Sum.inl k),rfl,.inl ⟨vs,Sum.inl k,.inl g1,rfl,rfl⟩,?_,fun z hz=>?_⟩
   ·split at g3
    ·rename_i hv;obtain⟨v,e,_⟩:=g3;rw[hv,e]
     rfl
    ·rename_i hv;rw[hv,g3]
     rfl
   ·rw[hz] at g3;exact g3
  ·cases e
 ·cases e
section
variable {X:Cx}{l a b c o i e value:Expr}{f g h:SE}{elts:List Expr}{n:Nat}{tpos p pos pos':Pos}
theorem zib (hg:Gl X "enumerate")(hm:X.mg "enumerate"=none)(hl:JE X l f)(he:starEach [l] X.env=[(false, eval l X.env)]:=by rfl) :
  JI X (.Tuple elts n tpos) (.Call (.Name "enumerate" p) [l] [] pos) (iEn0 f):=⟨zbdq (zbax hg hm hl.out he) fun τ H R hq0=>by
 obtain⟨ρ,σ,st,xs,st',a,rp,e,q⟩:=hq0;obtain⟨x,st1,e1,e⟩:=zc e;refine⟨ρ,σ,st,x,st1,a,rp,e1,fun ρ1 H1 u x1 rp1 a1=>?_⟩;split at e
 ·rename_i ys;cases e;cases a1 with
  | lst h1 h2 h3 =>
   refine⟨_,rfl,⟨_,SqL.of h1⟩,q _ _ _ x1 rp1 ⟨fun ρ2 H2 x2 i d e=>?_,fun ρ2 H2 x2 i h=>?_⟩⟩
   ·obtain⟨z,hz,rfl⟩:=zje e;obtain⟨v,hv,av⟩:=h3.get hz;refine⟨⟨_,v,SqL.of (x2.out h1 h2).1,hv⟩,fun y H3 hy=>?_⟩;obtain⟨p,hp,rfl,hH⟩:=hy;rw[hH _ _ (SqL.of (x2.out h1 h2).1) hv];refine⟨Ext.new hp _,fun st rp2=>⟨rp2.new hp _,?_⟩⟩;rw[xfw];exact At.newT rp2 hp (.cons (.int _) (.cons (av.extG x2) .nil))
   ·rw[zch] at h;exact⟨_,SqL.of (x2.out h1 h2).1,by rw[h3.length];exact h⟩
 ·cases e⟩
theorem zbgr {neg:Bool}{x y v:D}{st st':Store}(e:oIIn neg y x st=.ok v st'):∃k kvs,y=.int k/\intsOf st x=some kvs/\v=.bl (if neg then !(valI kvs k).isSome else(valI kvs k).isSome)/\st'=st:=by
 unfold oIIn at e;split at e
 ·rename_i k kvs h;cases e;exact⟨k,kvs,rfl,h,rfl,rfl⟩
 ·cases e
theorem zyt (hu:X.A.units+1 < cLine)(hi:JE X i g)(ho:JE X o f):JC X .In i o (aS (oIIn false) g f):=⟨fun aU s σ H Q I hq=>by
 refine zbfn hu hi.out ho.out aU s σ H Q I ?_;obtain⟨ρ,σ',st,v,st',a,rp,e,q⟩:=hq;obtain⟨x,st1,e1,e⟩:=zc e;obtain⟨y,st2,e2,e⟩:=zc e;refine⟨ρ,σ',st,x,st1,a,rp,e1,fun ρ1 H1 u x1 rp1 a1=>?_⟩;refine⟨ρ1,σ',st1,y,st2,a.ext x1,rp1,e2,fun ρ2 H2 w x2 rp2 a2=>?_⟩;obtain⟨k,kvs,rfl,h2,rfl,rfl⟩:=zbgr e;obtain⟨p,oo,rfl,g1,g2,_⟩:=ztw rp2 a2 (a1.ext x2) h2;refine⟨p,oo,rfl,g1,?_⟩;rw[g2]
 exact q _ _ _ (x1.trans x2) rp2 (.bl _)⟩
theorem zmz (hu:X.A.units+1 < cLine)(hi:JE X i g)(ho:JE X o f):JC X .NotIn i o (aS (oIIn true) g f):=⟨fun aU s σ H Q I hq=>by
 refine zwn hu hi.out ho.out aU s σ H Q I ?_;obtain⟨ρ,σ',st,v,st',a,rp,e,q⟩:=hq;obtain⟨x,st1,e1,e⟩:=zc e;obtain⟨y,st2,e2,e⟩:=zc e;refine⟨ρ,σ',st,x,st1,a,rp,e1,fun ρ1 H1 u x1 rp1 a1=>?_⟩;refine⟨ρ1,σ',st1,y,st2,a.ext x1,rp1,e2,fun ρ2 H2 w x2 rp2 a2=>?_⟩;obtain⟨k,kvs,rfl,h2,rfl,rfl⟩:=zbgr e;obtain⟨p,oo,rfl,g1,g2,_⟩:=ztw rp2 a2 (a1.ext x2) h2;refine⟨p,oo,rfl,g1,?_⟩;rw[g2]
 exact q _ _ _ (x1.trans x2) rp2 (.bl _)⟩
theorem zzq (hu:X.A.units+1 < cLine)(ho:JE X o f)(hi:JE X i g)(hs:NoSl i):JE X (.Subscript o i pos) (aS oIGet f g):=⟨zha (zyr hu ho.out hi.out hs) fun τ H Q hq0=>by
 obtain⟨ρ,σ,st,v,st',a,rp,e,q⟩:=hq0;obtain⟨x,st1,e1,e⟩:=zc e;obtain⟨y,st2,e2,e⟩:=zc e;refine⟨ρ,σ,st,x,st1,a,rp,e1,fun ρ1 H1 u x1 rp1 a1=>?_⟩;refine⟨ρ1,σ,st1,y,st2,a.ext x1,rp1,e2,fun ρ2 H2 w x2 rp2 a2=>?_⟩;unfold oIGet at e;split at e
 ·rename_i h1;split at e
  ·rename_i z hv;cases e;obtain⟨p,oo,rfl,g1,_,g2⟩:=ztw rp2 (a1.ext x2) a2 h1;obtain⟨vv,rfl,g3⟩:=g2 _ hv;exact⟨p,vv,rfl,g1,q _ _ _ (x1.trans x2) rp2 g3⟩
  ·cases e
 ·cases e⟩
theorem zud (hu:X.A.units+1 < cLine)(ho:JE X o f)(hi:JE X i g)(hv:JE X value h)(hs:swapsWith value (some (.Subscript o i pos')) pos.line X.env=pure false) :
  JS X (.Assign [.Subscript o i pos'] value pos) (sIPut f g h):=⟨zrw (zyp hu ho.out hi.out hv.out hs) fun E τ H hq0=>by
 obtain⟨ρ,σ,st,fl,st',a,rp,e,q⟩:=hq0;obtain⟨v,st1,e1,e⟩:=zc e;obtain⟨x,st2,e2,e⟩:=zc e;obtain⟨y,st3,e3,e⟩:=zc e;refine⟨ρ,σ,st,v,st1,a,rp,e1,fun ρ1 H1 u x1 rp1 a1=>?_⟩;refine⟨ρ1,σ,st1,x,st2,a.ext x1,rp1,e2,fun ρ2 H2 w x2 rp2 a2=>?_⟩;refine⟨ρ2,σ,st2,y,st3,a.ext (x1.trans x2),rp2,e3,fun ρ3 H3 t x3 rp3 a3=>?_⟩;split at e
 ·split at e
  ·rename_i n k _ _ kvs hn;split at e
   ·rename_i hl;cases e;obtain⟨p,rfl,hp,vs,g1,g2⟩:=zfu rp3 (a2.ext x3) hn (by intro z;cases z);cases a3;have E:Ext ρ3 H3 ρ3 (upd H3 p (.dK (putK vs (Sum.inl k) u))):=Ext.wr hp (zyx g1) _;refine⟨p,_,rfl,DPut.k (k:=Sum.inl k) g1 (by rw[← g2.length];exact hl),?_⟩;exact q _ _ _ ((x1.trans (x2.trans x3)).trans E) (rp3.wr hp (zyx g1) ⟨_,zbb,(g2.put k (a1.ext (x2.trans x3))).ext E⟩) (a.ext ((x1.trans (x2.trans x3)).trans E))
   ·cases e
  ·cases e
 ·cases e⟩
end
end Dd
namespace Dd
open PySem L2
noncomputable def zff:DFn:=fnD 5 2 (aD (aF 2 (eC (.int 0)))
 (aD (sIf (eB (aS oLtT (aA 1) (aE bLen (aB (aA 0) aC)))) (aF 2 (aE bAbs (aB (aS oIx (aA 0) (aA 1)) aC))) sNx)
 (aD (aF 3 (aS aM (aS oMulI (eC (.int 7919)) (aA 1)) (eC (.int 17))))
 (aD (sFor (iR1 (aB (aE bMin2 (aB (aE bLen (aB (aA 0) aC)) (aB (eC (.int 60)) aC))) aC)) (gN 4) (aF 3 (aS oMod (aS aM (aS aM (aS oMulI (aA 3) (eC (.int 48271))) (aS oMod (aS oIx (aA 0) (aA 4)) (eC (.int 2147483647)))) (aA 4)) (eC (.int 2147483629)))))
 (aD (sIf (eB (aS oLtT (aA 2) (aS oPow (eC (.int 10)) (eC (.int 18))))) (aF 2 (eC (.int 0))) sNx)
 (sRet (eLstM (aB (aA 2) (aB (aA 3) aC)))))))))
noncomputable def zbv:DFn:=fnD 5 2 (aD (sIf (eB (aS oGt (aS oIx (aA 0) (eC (.int 0))) (eC (.int 0)))) (aD (aF 2 (aS oMod (aS oIx (aA 0) (eC (.int 0))) (aA 1)))
 (aD (sSetIx (aA 0) (eC (.int 0)) (aS oFdiv (aS oIx (aA 0) (eC (.int 0))) (aA 1)))
 (sRet (aA 2)))) sNx)
 (aD (aF 3 (eC (.int 0)))
 (aD (aF 4 (eC (.int 1)))
 (aD (sWhile (eB (aS oLtT (aA 4) (aA 1))) (aD (sSetIx (aA 0) (eC (.int 1)) (aS oMod (aS aM (aS oMulI (aS oIx (aA 0) (eC (.int 1))) (eC (.int 48271))) (eC (.int 7919))) (eC (.int 2147483647))))
 (aD (aF 3 (aS aM (aS oMulI (aA 3) (eC (.int 1073741789))) (aS oMod (aS oMulI (aS oFdiv (aS oIx (aA 0) (eC (.int 1))) (eC (.int 8))) (eC (.int 69621))) (eC (.int 1073741789)))))
 (aF 4 (aS oMulI (aA 4) (eC (.int 1073741789)))))))
 (sRet (aS oMod (aA 3) (aA 1)))))))
noncomputable def zrv:DFn:=fnD 2 2 (sIf (eB (aS (oDIn false) (aA 1) (aA 0))) (sDrop (eDPop (aA 0) (aA 1))) (sDPut (aA 0) (aA 1) (eC (.bl true))))
noncomputable def zfw:SS:=(sDPut (aA 1) (aA 2) (eNot (eDGet2 (aA 1) (aA 2) (eC (.bl false)))))
noncomputable def zds:DFn:=fnD 3 1 (aD (aF 1 eDNew)
 (aD (sFor (aH (aA 0)) (gN 2) zfw)
 (sRet (aE bTuple (aB (aE bSorted (aB (aG (iDict (aA 1)) 1 [1] (gN 0) (eTru (aS oDGet (aA 1) (aA 0))) (aA 0)) aC)) aC)))))
noncomputable def zbe:DFn:=fnD 1 1 (sRet (eAnd (aE bIsinst (aB (aA 0) (aB (eC (.ty "int")) aC))) (eNot (aE bIsinst (aB (aA 0) (aB (eC (.ty "bool")) aC))))))
noncomputable def zck:DFn:=fnD 1 1 (sRet (aS oIx (eLst (aB (eC (.int 1)) (aB (eC (.int 2)) (aB (eC (.int 2)) (aB (eC (.int 2)) (aB (eC (.int 3)) (aB (eC (.int 3)) (aB (eC (.int 3)) (aB (eC (.int 4)) (aB (eC (.int 4)) (aB (eC (.int 5)) (aB (aS aM (eC (.int 5)) (aE zbv (aB (aA 0) (aB (eC (.int 6)) aC)))) aC)))))))))))) (aE zbv (aB (aA 0) (aB (eC (.int 11)) aC)))))
noncomputable def zfr:SS:=(aD (sIf (bOr (bNot (eTru (aE bIsinst (aB (aA 2) (aB (eC (.ty "tuple")) aC))))) (eB (aS oNe (aE bLen (aB (aA 2) aC)) (aA 0)))) (sRet (eC (.bl false))) sNx)
 (sIf (bNot (eTru (aE (bAny true) (aB (aG (aH (aA 2)) 1 [] (gN 0) aI (eAnd (aE zbe (aB (aA 0) aC)) (aS oGe (aA 0) (eC (.int 0))))) aC)))) (sRet (eC (.bl false))) sNx))
noncomputable def zcv:DFn:=fnD 3 2 (aD (sIf (bNot (eTru (aE bIsinst (aB (aA 1) (aB (eC (.ty "tuple")) aC))))) (sRet (eC (.bl false))) sNx)
 (aD (sFor (aH (aA 1)) (gN 2) zfr)
 (sRet (aE (bAny true) (aB (aG (iZipT (aB (aA 1) (aB (eSl (aA 1) (pSome (eC (.int 1))) pNone) aC))) 2 [] (gT 2 (gsCons (gN 0) (gsCons (gN 1) gsNil))) aI (aS oLtT (aA 0) (aA 1))) aC)))))
noncomputable def zkz:SS:=(aD (sIf (eB (aS oGe (aA 4) (aA 1))) (sDrop (eAppend (aA 3) (aB (aA 4) aC))) sNx)
 (aD (sIf (eB (aS oEq (aA 4) (aA 0))) sBrk sNx)
 (aF 4 (aS oAndI (aS oSub (aA 4) (aA 0)) (aA 0)))))
noncomputable def zju:DFn:=fnD 5 3 (aD (aF 3 (eLstM aC))
 (aD (aF 4 (eC (.int 0)))
 (aD (sWhile (eB (aS oLe (aA 4) (aA 2))) zkz)
 (sRet (eFz (aA 3))))))
noncomputable def zdr:SS:=(sDrop (eAppend (aA 3) (aB (aR (aB (aS aM (aA 4) (aR (aB (aS aM (aA 1) (aA 6)) aC))) (aB (aS oSub (aA 5) (aA 6)) aC))) aC)))
noncomputable def zdq:SS:=(sFor (aH (aE zju (aB (aA 1) (aB (aS oSub (aA 5) (aA 2)) (aB (aA 5) aC))))) (gN 6) zdr)
noncomputable def zbu:DFn:=fnD 7 3 (aD (aF 3 (eLstM aC))
 (aD (sFor (aH (aA 0)) (gT 2 (gsCons (gN 4) (gsCons (gN 5) gsNil))) zdq)
 (sRet (eFz (aA 3)))))
noncomputable def zcz:SS:=(aD (sAug 3 (oI (fun _ _=>True) fun i j=>.int (i - j)) (aA 4))
 (aF 2 (aE zbu (aB (aA 2) (aB (aA 4) (aB (aA 3) aC))))))
noncomputable def zbk:DFn:=fnD 5 2 (aD (aF 2 (eLst (aB (aR (aB (aR aC) (aB (aA 1) aC))) aC)))
 (aD (aF 3 (aE bSum (aB (aA 0) aC)))
 (aD (sFor (aH (aA 0)) (gN 4) zcz)
 (sRet (aG (aH (aA 2)) 2 [] (gT 2 (gsCons (gN 0) (gsCons (gN 1) gsNil))) aI (aA 0))))))
noncomputable def zlb:SS:=(sDrop (aE zrv (aB (aA 2) (aB (aA 4) aC))))
noncomputable def zla:SS:=(sIf (eB (aS oLe (aA 1) (aE bSum (aB (aA 3) aC)))) (sFor (aH (aE zbk (aB (aA 3) (aB (aA 1) aC)))) (gN 4) zlb) sNx)
noncomputable def zjv:DFn:=fnD 5 2 (aD (sIf (bOr (bNot (eTru (aE zbe (aB (aA 1) aC)))) (eB (aS oLtT (aA 1) (eC (.int 0))))) sStuck sNx)
 (aD (aF 2 eDNew)
 (aD (sFor (aH (aA 0)) (gN 3) zla)
 (sRet (aE bTuple (aB (aE bSorted (aB (aA 2) aC)) aC))))))
noncomputable def zfq:SS:=(sDrop (eExtend (aA 6) (aB (aG (iR1 (aB (aS aM (aE bMin2 (aB (aA 5) (aB (aA 8) aC))) (eC (.int 1))) aC)) 1 [7,8,5] (gN 0) (eB (aS oEq (aS oAndI (aA 3) (aA 0)) (aA 0))) (aR (aB (aS aM (aA 1) (aR (aB (aS aM (aA 3) (aA 0)) aC))) (aB (aS oSub (aA 2) (aA 0)) aC)))) aC)))
noncomputable def zdf:SS:=(aD (aF 6 (eLstM aC))
 (aD (sFor (aH (aA 4)) (gT 2 (gsCons (gN 7) (gsCons (gN 8) gsNil))) zfq)
 (aF 4 (eFz (aA 6)))))
noncomputable def zfp:SS:=(aD (aF 4 (eLst (aB (aR (aB (aR aC) (aB (aA 1) aC))) aC)))
 (aD (sFor (aH (aA 3)) (gN 5) zdf)
 (sDrop (eExtend (aA 2) (aB (aG (aH (aA 4)) 2 [] (gT 2 (gsCons (gN 0) (gsCons (gN 1) gsNil))) (eB (aS oEq (aA 1) (eC (.int 0)))) (aA 0)) aC)))))
noncomputable def zcu:DFn:=fnD 9 2 (aD (aF 2 (eLstM aC))
 (aD (sFor (aH (aA 0)) (gN 3) zfp)
 (sRet (aE zds (aB (eFz (aA 2)) aC)))))
noncomputable def zcg:SS:=(aF 2 (aS oFdiv (aS oMulW (aA 2) (aS aM (aA 1) (aA 3))) (aA 3)))
noncomputable def zbc:DFn:=fnD 4 2 (aD (aF 2 (eC (.int 1)))
 (aD (sFor (iR2 (aB (eC (.int 1)) (aB (aA 0) aC))) (gN 3) zcg)
 (sRet (aA 2))))
noncomputable def zda:DFn:=fnD 1 1 (sRet (eIf (eB (aS oLe (aA 0) (eC (.int 3)))) (eC (.int 24)) (eC (.int 10))))
noncomputable def zbw:DFn:=fnD 2 2 (sRet (eAnd (aS oLe (aA 1) (aE zda (aB (aA 0) aC))) (aS oLe (aE zbc (aB (aA 0) (aB (aA 1) aC))) (eC (.int 200)))))
noncomputable def zgx:DFn:=fnD 2 2 (aD (sIf (bNot (eTru (aE zbw (aB (aA 0) (aB (aA 1) aC))))) sStuck sNx)
 (sRet (aA 1)))
noncomputable def zcw:DFn:=fnD 3 2 (aD (aF 2 (aS oIx (eLst (aB (eC (.int 24)) (aB (eC (.int 24)) (aB (eC (.int 18)) (aB (eC (.int 8)) (aB (eC (.int 5)) (aB (eC (.int 4)) (aB (eC (.int 3)) (aB (eC (.int 3)) (aB (eC (.int 3)) (aB (eC (.int 2)) aC))))))))))) (aS oSub (aA 1) (eC (.int 1)))))
 (sRet (aS oIx (eLst (aB (aA 2) (aB (aE zbv (aB (aA 0) (aB (aS aM (aA 2) (eC (.int 1))) aC))) aC))) (aE bInt (aB (aS oGt (aE zbv (aB (aA 0) (aB (eC (.int 3)) aC))) (eC (.int 0))) aC)))))
noncomputable def zjw:SS:=(sDrop (eExtend (aA 4) (aB (aG (iR1 (aB (aS aM (aA 6) (eC (.int 1))) aC)) 1 [5,6] (gN 0) aI (aR (aB (aS aM (aA 1) (aR (aB (aA 0) aC))) (aB (aS oSub (aA 2) (aA 0)) aC)))) aC)))
noncomputable def zfx:SS:=(aD (aF 4 (eLstM aC))
 (aD (sFor (aH (aA 2)) (gT 2 (gsCons (gN 5) (gsCons (gN 6) gsNil))) zjw)
 (aF 2 (eFz (aA 4)))))
noncomputable def zdb:DFn:=fnD 7 2 (aD (aF 2 (eLst (aB (aR (aB (aR aC) (aB (aA 1) aC))) aC)))
 (aD (sFor (iR1 (aB (aS oSub (aA 0) (eC (.int 1))) aC)) (gN 3) zfx)
 (sRet (aG (aH (aA 2)) 2 [] (gT 2 (gsCons (gN 0) (gsCons (gN 1) gsNil))) aI (aS aM (aA 0) (aR (aB (aA 1) aC)))))))
noncomputable def zgw:SS:=(sDPut (aA 2) (aA 4) (aA 3))
noncomputable def zgv:SS:=(aF 7 (aS aM (aA 7) (aS oShl (eC (.int 1)) (aS oDGet (aA 2) (aA 8)))))
noncomputable def zgu:SS:=(aF 7 (aS oXorI (aA 7) (aS oIGet (aA 5) (aS oSub (eBits (aA 7)) (eC (.int 1))))))
noncomputable def zef:SS:=(aD (aF 7 (eC (.int 0)))
 (aD (sFor (aH (aE zcu (aB (aR (aB (aA 4) aC)) (aB (aA 6) aC)))) (gN 8) zgv)
 (aD (sWhile (bAnd (eB (aS oGt (aA 7) (eC (.int 0)))) (eB (aS (oIIn false) (aS oSub (eBits (aA 7)) (eC (.int 1))) (aA 5)))) zgu)
 (sIf (eB (aS oGt (aA 7) (eC (.int 0)))) (sIPut (aA 5) (aS oSub (eBits (aA 7)) (eC (.int 1))) (aA 7)) sNx))))
noncomputable def zgt:SS:=(sFor (aH (aE zdb (aB (aA 0) (aB (aS oSub (aA 1) (aA 6)) aC)))) (gN 4) zef)
noncomputable def zdt:DFn:=fnD 9 2 (aD (aF 2 eDNew)
 (aD (sFor (iEn0 (aE zdb (aB (aA 0) (aB (aA 1) aC)))) (gT 2 (gsCons (gN 3) (gsCons (gN 4) gsNil))) zgw)
 (aD (aF 5 eDNewI)
 (aD (sFor (iR2 (aB (eC (.int 1)) (aB (aS aM (aA 1) (eC (.int 1))) aC))) (gN 6) zgt)
 (sRet (aA 5))))))
noncomputable def zcf:DFn->SS:=fun fF=>(sDrop (eExtend (aA 2) (aB (aG (aH (aE fF (aB (aS oSub (aA 0) (eC (.int 1))) (aB (aS oSub (aA 1) (aA 3)) aC)))) 1 [3] (gN 0) aI (aS aM (aR (aB (aA 1) aC)) (aA 0))) aC)))
noncomputable def zn:DFn->DFn:=fun fF=>fnD 4 2 (aD (sIf (eB (aS oEq (aA 0) (eC (.int 1)))) (sRet (eLst (aB (aR (aB (aA 1) aC)) aC))) sNx)
 (aD (aF 2 (eLstM aC))
 (aD (sFor (iR1 (aB (aS aM (aA 1) (eC (.int 1))) aC)) (gN 3) (zcf fF))
 (sRet (eFz (aA 2))))))
noncomputable def zek:SS:=(aD (sDrop (eAppend (aA 1) (aB (aA 2) aC)))
 (aF 2 (aS oMulI (eC (.int 2)) (aA 2))))
noncomputable def zcd:DFn:=fnD 3 1 (aD (aF 1 (eLstM aC))
 (aD (aF 2 (eC (.int 1)))
 (aD (sWhile (eB (aS oLe (aS oMulI (eC (.int 2)) (aA 2)) (aA 0))) zek)
 (sRet (eFz (aA 1))))))
noncomputable def zct:SS:=(sDrop (eExtend (aA 2) (aB (aG (aH (aE (iterF zn 10) (aB (aA 0) (aB (aS oSub (aA 1) (aA 3)) aC)))) 1 [3] (gN 0) aI (aR (aB (aA 1) (aB (aA 0) aC)))) aC)))
noncomputable def zbg:DFn:=fnD 4 2 (aD (aF 2 (eLstM aC))
 (aD (sFor (aH (aE zcd (aB (aA 1) aC))) (gN 3) zct)
 (sRet (eFz (aA 2)))))
noncomputable def zht:SS:=(aD (aF 3 (aS oIGet (aA 0) (eBits (aA 1))))
 (aD (aF 1 (aS oXorI (aA 1) (aS oIx (aA 3) (eC (.int 0)))))
 (aF 2 (aS oXorI (aA 2) (aS oIx (aA 3) (eC (.int 1)))))))
noncomputable def zfb:DFn:=fnD 4 2 (aD (aF 2 (eC (.int 0)))
 (aD (sWhile (bAnd (eTru (aA 1)) (eB (aS (oIIn false) (eBits (aA 1)) (aA 0)))) zht)
 (sRet (aR (aB (aA 1) (aB (aA 2) aC))))))
noncomputable def zgy:SS:=(aF 2 (aS oOrI (aA 2) (aS oShl (eC (.int 1)) (aS oDGet (aA 0) (aA 3)))))
noncomputable def zdu:DFn:=fnD 4 2 (aD (aF 2 (eC (.int 0)))
 (aD (sFor (aH (aA 1)) (gN 3) zgy)
 (sRet (aA 2))))
noncomputable def zgz:SS:=(aD (aF 7 (aE zfb (aB (aA 3) (aB (aE zdu (aB (aA 2) (aB (aE zjv (aB (aR (aB (aA 6) aC)) (aB (aA 5) aC))) aC))) aC))))
 (sIf (eTru (aS oIx (aA 7) (eC (.int 0)))) (aD (sIPut (aA 3) (eBits (aS oIx (aA 7) (eC (.int 0)))) (aR (aB (aS oIx (aA 7) (eC (.int 0))) (aB (aS oOrI (aS oIx (aA 7) (eC (.int 1))) (aS oShl (eC (.int 1)) (aE bLen (aB (aA 4) aC)))) aC))))
 (sDrop (eAppend (aA 4) (aB (aR (aB (aA 5) (aB (aA 6) aC))) aC)))) sNx))
noncomputable def zdv:DFn:=fnD 8 3 (aD (aF 3 eDNewI)
 (aD (aF 4 (eLstM aC))
 (aD (sFor (aH (aE zbg (aB (aA 0) (aB (aA 1) aC)))) (gT 2 (gsCons (gN 5) (gsCons (gN 6) gsNil))) zgz)
 (sRet (aR (aB (aA 3) (aB (eFz (aA 4)) aC)))))))
noncomputable def zbh:DFn:=fnD 1 1 (aD (sIf (bOr (bNot (eTru (aE zbe (aB (aA 0) aC)))) (eB (aS oLtT (aA 0) (eC (.int 0))))) sStuck sNx)
 (sRet (aA 0)))
noncomputable def zgs:SS:=(sDPut (aA 1) (aA 3) (aA 2))
noncomputable def zdp:DFn:=fnD 4 1 (aD (aF 1 eDNew)
 (aD (sFor (iEn0 (aA 0)) (gT 2 (gsCons (gN 2) (gsCons (gN 3) gsNil))) zgs)
 (sRet (aA 1))))
noncomputable def zcb:DFn:=fnD 4 2 (aD (aF 2 (aE (iterF zn 10) (aB (aA 0) (aB (aE zgx (aB (aA 0) (aB (aE zbh (aB (aA 1) aC)) aC))) aC))))
 (aD (aF 3 (aS oIx (aE zdv (aB (aA 0) (aB (aA 1) (aB (aE zdp (aB (aA 2) aC)) aC)))) (eC (.int 0))))
 (sRet (eCompM (iEn0 (aA 2)) 2 [3] (gT 2 (gsCons (gN 0) (gsCons (gN 1) gsNil))) (eB (aS (oIIn true) (aS aM (aA 0) (eC (.int 1))) (aA 2))) (aA 1)))))
noncomputable def zbt:DFn:=fnD 2 2 (sRet (aE bLen (aB (aE zcb (aB (aA 0) (aB (aA 1) aC))) aC)))
noncomputable def zvd:SS:=(aD (aF 2 (aE zff (aB (aA 0) (aB (aA 1) aC))))
 (aD (aF 3 (aE zck (aB (aA 2) aC)))
 (aD (aF 4 (aE zcw (aB (aA 2) (aB (aA 3) aC))))
 (aD (aF 5 (aE zdt (aB (aA 3) (aB (aA 4) aC))))
 (aD (aF 6 (aG (iEn0 (aE zdb (aB (aA 3) (aB (aA 4) aC)))) 2 [5] (gT 2 (gsCons (gN 0) (gsCons (gN 1) gsNil))) (eB (aS (oIIn true) (aA 0) (aA 2))) (aA 1)))
 (aD (aF 7 (aE zcb (aB (aA 3) (aB (aA 4) aC))))
 (aD (sIf (bOr (bNot (eTru (aE bIsinst (aB (aA 7) (aB (eC (.ty "list")) aC))))) (bOr (bNot (eTru (aE zcv (aB (aA 3) (aB (aE bTuple (aB (aA 7) aC)) aC))))) (eB (aS oNe (aA 7) (aA 6))))) (sRet (eC (.bl false))) sNx)
 (aD (aF 8 (aE zbt (aB (aA 3) (aB (aA 4) aC))))
 (aD (sIf (bOr (bNot (eTru (aE zbe (aB (aA 8) aC)))) (eB (aS oNe (aA 8) (aE bLen (aB (aA 6) aC))))) (sRet (eC (.bl false))) sNx)
 (aD (sDrop (eClear (aA 7)))
 (sIf (bAnd (eB (aS oEq (aA 1) (eC (.int 0)))) (eB (aS oNe (aE zcb (aB (aA 3) (aB (aA 4) aC))) (aA 6)))) (sRet (eC (.bl false))) sNx)))))))))))
noncomputable def zbnm:DFn:=fnD 9 1 (aD (sFor (iR1 (aB (aS aM (aE bMin2 (aB (eC (.int 2)) (aB (aE bLen (aB (aA 0) aC)) aC))) (eC (.int 1))) aC)) (gN 1) zvd)
 (sRet (eC (.bl true))))
noncomputable def RngOk (j:Int):Prop:=-(2 ^ 62)<=j/\j < 2 ^ 62
noncomputable instance (j:Int):Decidable (RngOk j):=by unfold RngOk;infer_instance
theorem rngOk {j:Int}(h1:-1000000000000<=j)(h2:j<=1000000000000):RngOk j:=⟨by lia,by lia⟩
section
variable {σ:DS}{st:Store}
@[simp] theorem eC_v {d:D}:eC d σ st=.ok d st:=rfl
@[simp] theorem zblo {i:Nat}:aA i σ st=(match σ[i]? with
 | some (some d)=>.ok d st
 | _=>.stuck):=rfl
@[simp] theorem zbpl {g:D->D->Store->Res D} {f f':SE}:aS g f f' σ st=(f σ st).bind fun x st1=>(f' σ st1).bind fun y st2=>g x y st2:=rfl
@[simp] theorem zbqh {g:D->Store->Res D} {f:SE}:eUn g f σ st=(f σ st).bind fun x st1=>g x st1:=rfl
@[simp] theorem zzn {g:List D->Store->Res D} {f:SA}:aE g f σ st=(f σ st).bind fun xs st1=>g xs st1:=rfl
@[simp] theorem zbni:aC σ st=.ok [] st:=rfl
@[simp] theorem zvb {f:SE} {g:SA}:aB f g σ st=(f σ st).bind fun x st1=>(g σ st1).bind fun xs st2=>.ok (x::xs) st2:=rfl
@[simp] theorem eB_v {f:SE}:eB f σ st=(f σ st).bind fun v st1=>(match v with
 | .bl b=>.ok b st1
 | _=>.stuck):=rfl
@[simp] theorem zbgy {f:SE}:eTru f σ st=(f σ st).bind fun v st1=>(match tru st1 v with
 | some b=>.ok b st1
 | none=>.stuck):=rfl
@[simp] theorem zbls {f f':SE}:eAnd f f' σ st=(f σ st).bind fun v st1=>(match v with
 | .bl true=>f' σ st1
 | .bl false=>.ok (.bl false) st1
 | _=>.stuck):=rfl
@[simp] theorem zbpk {f f':SE}:eOr f f' σ st=(f σ st).bind fun v st1=>(match v with
 | .bl true=>.ok (.bl true) st1
 | .bl false=>f' σ st1
 | _=>.stuck):=rfl
@[simp] theorem zbgz {f:SE}:eNot f σ st=(f σ st).bind fun v st1=>(match v with
 | .bl b=>.ok (.bl (!b)) st1
 | _=>.stuck):=rfl
@[simp] theorem zbnf {f f':ST}:bAnd f f' σ st=(f σ st).bind fun b st1=>if b=true then f' σ st1 else .ok false st1:=rfl
@[simp] theorem zbqd {f f':ST}:bOr f f' σ st=(f σ st).bind fun b st1=>if b=true then .ok true st1 else f' σ st1:=rfl
@[simp] theorem zbqe {f:ST}:bNot f σ st=(f σ st).bind fun b st1=>.ok (!b) st1:=rfl
@[simp] theorem zbqc:aI σ st=.ok true st:=rfl
@[simp] theorem zbpm {c:ST} {f f':SE}:eIf c f f' σ st=(c σ st).bind fun b st1=>if b=true then f σ st1 else f' σ st1:=rfl
@[simp] theorem zblp {g:SA}:aR g σ st=(g σ st).bind fun xs st1=>if xs.length<=sizeLine then .ok (.tup xs) st1 else .stuck:=rfl
@[simp] theorem zblq {g:SA}:eLst g σ st=(g σ st).bind fun xs st1=>if xs.length<=sizeLine then .ok (.lst xs) st1 else .stuck:=rfl
@[simp] theorem zbha {g:SA}:eLstM g σ st=(g σ st).bind fun xs st1=>if xs.length<=sizeLine then .ok (.ref st1.length) (st1++[.lst xs]) else .stuck:=rfl
@[simp] theorem zblr {g g':D->D->Store->Res D} {f f' f'':SE}:eChain g g' f f' f'' σ st=(f σ st).bind fun x st1=>(f' σ st1).bind fun y st2=>(g x y st2).bind fun z st3=>(match z with
 | .bl true=>(f'' σ st3).bind fun w st4=>g' y w st4
 | .bl false=>.ok (.bl false) st3
 | _=>.stuck):=rfl
@[simp] theorem zbof:eDNew σ st=.ok (.ref st.length) (st++[.dT []]):=rfl
@[simp] theorem zbqg:sNx σ st=.ok (.nx σ) st:=rfl
@[simp] theorem zbos:sBrk σ st=.ok (.brk σ) st:=rfl
@[simp] theorem zbjr {f:SE}:sRet f σ st=(f σ st).bind fun v st1=>.ok (.ret v) st1:=rfl
@[simp] theorem zbnq:sRetN σ st=.ok (.ret .non) st:=rfl
@[simp] theorem zbnr {f:SE}:sDrop f σ st=(f σ st).bind fun _ st1=>.ok (.nx σ) st1:=rfl
@[simp] theorem zbop {i:Nat} {f:SE}:aF i f σ st=(f σ st).bind fun v st1=>.ok (.nx (σ.set i (some v))) st1:=rfl
@[simp] theorem zbjq {s t:SS}:aD s t σ st=(match s σ st with
 | .ok (.nx σ1) st1=>t σ1 st1
 | r=>r):=rfl
@[simp] theorem zboq {c:ST} {s t:SS}:sIf c s t σ st=(c σ st).bind fun b st1=>if b=true then s σ st1 else t σ st1:=rfl
@[simp] theorem zbjt {i:Nat} {g:D->D->Store->Res D} {f:SE}:sAug i g f σ st=(match σ[i]? with
 | some (some x)=>(f σ st).bind fun y st1=>(g x y st1).bind fun z st2=>.ok (.nx (σ.set i (some z))) st2
 | _=>.stuck):=rfl
@[simp] theorem zbor {it:SA} {bd:SG} {body:SS}:sFor it bd body σ st=(it σ st).bind fun xs st1=>forF bd body xs σ st1:=rfl
@[simp] theorem zbll {f:SE}:aH f σ st=(f σ st).bind fun x st1=>(match seqV x with
 | some xs=>.ok xs st1
 | none=>.stuck):=rfl
@[simp] theorem zbph {g:SA}:iR1 g σ st=(g σ st).bind fun xs st1=>(match xs with
 | [.int j]=>if RngOk j then .ok (rng 0 j.toNat) st1 else .stuck
 | _=>.stuck):=rfl
@[simp] theorem zbpg {g:SA}:iR2 g σ st=(g σ st).bind fun xs st1=>(match xs with
  | [.int i, .int j]=>if RngOk i/\RngOk j then .ok (rng i (j - i).toNat) st1 else .stuck
  | _=>.stuck):=by
  show(g σ st).bind _=_
  congr 1
  funext xs st1
  split
  · unfold RngOk
    simp only[and_assoc]
  · rename_i h
    first
      | rfl
      | (split
         · rename_i i j
           exact absurd rfl (h i j)
         · rfl)
@[simp] theorem zbob {f:SE}:iDict f σ st=(f σ st).bind fun x st1=>(match x with
 | .ref n=>(match st1[n]? with
  | some (.dT kvs)=>.ok (aJ (kvs.map (·.1))) (st1.set n (.fT kvs))
  | _=>.stuck)
 | _=>.stuck):=rfl
@[simp] theorem zzm {it:SA} {k:Nat} {is:List Nat} {bd:SG} {c:ST} {f:SE}:aG it k is bd c f σ st=(it σ st).bind fun xs st1=>if xs.length<=sizeLine then(compF bd c f xs (aT k is σ) st1).bind fun ys st2=>.ok (.lst ys) st2 else .stuck:=rfl
@[simp] theorem zbpn {f:SE}:eFz f σ st=(f σ st).bind fun x st1=>(match x with
 | .ref n=>(match st1[n]? with
  | some (.lst xs)=>.ok (.lst xs) (st1.set n .dead)
  | _=>.stuck)
 | _=>.stuck):=rfl
@[simp] theorem zbnx:pNone σ st=.ok none st:=rfl
@[simp] theorem zbfp {f:SE}:pSome f σ st=(f σ st).bind fun v st1=>(match v with
 | .int i=>.ok (some i) st1
 | _=>.stuck):=rfl
@[simp] theorem zbpj {f:SE} {lo hi:DS->Store->Res (Option Int)}:eSl f lo hi σ st=(f σ st).bind fun x st1=>(lo σ st1).bind fun l st2=>(hi σ st2).bind fun h st3=>(match x with
 | .tup xs=>.ok (.tup (cutD xs l h)) st3
 | x=>match asL st3 x with
  | some xs=>.ok (.lst (cutD xs l h)) st3
  | none=>.stuck):=rfl
@[simp] theorem zxo {f:SE} {g:SA}:eAppend f g σ st=(f σ st).bind fun x st1=>(match x,asL st1 x with
 | .ref n,some _=>(g σ st1).bind fun ys st2=>(match ys,st2[n]? with
  | [y],some (.lst xs)=>if xs.length < sizeLine then .ok .non (st2.set n (.lst (xs++[y]))) else .stuck
  | _,_=>.stuck)
 | _,_=>.stuck):=rfl
@[simp] theorem zxn {f:SE} {g:SA}:eExtend f g σ st=(f σ st).bind fun x st1=>(match x,asL st1 x with
 | .ref n,some _=>(g σ st1).bind fun ys st2=>(match ys,st2[n]? with
  | [y],some (.lst xs)=>(match asL st2 y with
   | some zs=>if xs.length+zs.length<=sizeLine then .ok .non (st2.set n (.lst (xs++zs))) else .stuck
   | none=>.stuck)
  | _,_=>.stuck)
 | _,_=>.stuck):=rfl
@[simp] theorem zbal {f g h:SE}:sSetIx f g h σ st=(h σ st).bind fun v st1=>(f σ st1).bind fun x st2=>(g σ st2).bind fun y st3=>(match x,y with
 | .ref n,.int k=>(match st3[n]? with
  | some (.lst xs)=>(match ixN xs.length k with
   | some j=>.ok (.nx σ) (st3.set n (.lst (xs.set j v)))
   | none=>.stuck)
  | _=>.stuck)
 | _,_=>.stuck):=rfl
@[simp] theorem zbch {f g h:SE}:eDGet2 f g h σ st=(f σ st).bind fun x st1=>(match pairsOf st1 x with
 | some _=>(g σ st1).bind fun y st2=>(h σ st2).bind fun z st3=>(match pairsOf st3 x,keyOf y with
  | some kvs,some k=>.ok ((valD kvs k).getD z) st3
  | _,_=>.stuck)
 | none=>.stuck):=rfl
@[simp] theorem zboe {f g:SE}:eDPop f g σ st=(f σ st).bind fun x st1=>(match pairsOf st1 x with
 | some _=>(g σ st1).bind fun y st2=>(match x,keyOf y with
  | .ref n,some k=>(match st2[n]? with
   | some (.dT kvs)=>(match valD kvs k with
    | some v=>.ok v (st2.set n (.dT (dropD kvs k)))
    | none=>.stuck)
   | _=>.stuck)
  | _,_=>.stuck)
 | none=>.stuck):=rfl
@[simp] theorem zbeq {f g h:SE}:sDPut f g h σ st=(h σ st).bind fun v st1=>(f σ st1).bind fun x st2=>(g σ st2).bind fun y st3=>(match x,keyOf y with
 | .ref n,some k=>(match st3[n]? with
  | some (.dT kvs)=>if kvs.length < sizeLine then .ok (.nx σ) (st3.set n (.dT (putD kvs k v))) else .stuck
  | _=>.stuck)
 | _,_=>.stuck):=rfl
theorem zbod {n np:Nat}{b:SS}{ds:List D}:fnD n np b ds st=if ds.length=np then(match b (ds.map some++List.replicate (n - np) none) st with
 | .ok (.ret v) st'=>.ok v st'
 | .ok (.nx _) st'=>.ok .non st'
 | .exc x st'=>.exc x st'
 | _=>.stuck) else .stuck:=rfl
end
section
variable {st:Store}{i j:Int}
@[simp] theorem oI_v {C:Int->Int->Prop} [DecidableRel C] {h:Int->Int->D}:oI C h (.int i) (.int j) st=if C i j then .ok (h i j) st else .stuck:=rfl
@[simp] theorem zbpf:aM (.int i) (.int j) st=.ok (.int (i+j)) st:=rfl
@[simp] theorem zbkv {a b:List D}:aM (.tup a) (.tup b) st=if a.length+b.length<=sizeLine then .ok (.tup (a++b)) st else .stuck:=rfl
@[simp] theorem zbpc:oLtT (.int i) (.int j) st=.ok (.bl (decide (i < j))) st:=rfl
@[simp] theorem zbpa:oNeg (.int i) st=.ok (.int (-i)) st:=rfl
@[simp] theorem zdo (ns:List Int):asInts (ns.map .int)=some ns:=by
 induction ns with
 | nil=>rfl
 | cons n ns ih=>rw[xbt,asInts,ih];rfl
@[simp] theorem zbiq (l:List (List Int)):asRows (aJ l)=some l:=by
 induction l with
 | nil=>rfl
 | cons n ns ih =>
  unfold aJ at ih ⊢;rw[xbt,asRows,zdo,ih];rfl
@[simp] theorem zfc (ns:List Int):keyOf (aL ns)=some ns:=zdo ns
theorem zme:dataOf st (.int i)=some (.int i):=rfl
@[simp] theorem zbpe:oEq (.int i) (.int j) st=.ok (.bl (decide (i=j))) st:=by
 show oEqG false (.int i) (.int j) st=_;unfold oEqG;rw[zme,zme];dsimp only;rw[if_pos ⟨rfl,rfl⟩];show Res.ok (D.bl (i==j)) st=_;rw[show(i==j)=decide (i=j) from by rw[xgq];simp]
@[simp] theorem zbpb:oNe (.int i) (.int j) st=.ok (.bl (!decide (i=j))) st:=by
 show oEqG true (.int i) (.int j) st=_;unfold oEqG;rw[zme,zme];dsimp only;rw[if_pos ⟨rfl,rfl⟩];show Res.ok (D.bl (!(i==j))) st=_;rw[show(i==j)=decide (i=j) from by rw[xgq];simp]
noncomputable abbrev aK (l:List (List Int)):D:=.tup (aJ l)
theorem small (n:Nat)(h:n<=1000000):n<=sizeLine:=by rw[xjg];lia
theorem smallT (n:Nat)(h:n<=1000000):n < sizeLine:=by rw[xjg];lia
end
theorem zzj {bd:SG}{body:SS}(I:Nat->DS->Store->Prop):∀(xs:List D) (k:Nat) (σ:DS) (st:Store),I k σ st ->
  (∀i x σ st,xs[i]?=some x->I (k+i) σ st->∃σ1 σ2 st2,bd x σ=some σ1/\body σ1 st=.ok (.nx σ2) st2/\I (k+i+1) σ2 st2)->∃σ' st',forF bd body xs σ st=.ok (.nx σ') st'/\I (k+xs.length) σ' st'
 | [],k,σ,st,h,_=>⟨σ,st,rfl,h⟩
 | x::xs,k,σ,st,h,s=>by
  obtain⟨σ1,σ2,st2,e1,e2,h2⟩:=s 0 x σ st rfl h;obtain⟨σ',st',e3,h3⟩:=zzj I xs (k+1) σ2 st2 h2 fun i y σ st hy hi=>by
   have:=s (i+1) y σ st (by simpa using hy) (by rw[show k+(i+1)=k+1+i by lia];exact hi);rw[show k+(i+1)+1=k+1+i+1 by lia] at this;exact this
  refine⟨σ',st',?_,by rw[xcb,show k+(xs.length+1)=k+1+xs.length by lia];exact h3⟩;unfold forF;rw[e1];dsimp only;rw[e2];exact e3
theorem zbgt {bd:SG}{body:SS}(I:Nat->DS->Store->Prop){xs:List D}{σ:DS}{st:Store}(h0:I 0 σ st)
  (s:∀i x σ st,xs[i]?=some x->I i σ st->∃σ1 σ2 st2,bd x σ=some σ1/\body σ1 st=.ok (.nx σ2) st2/\I (i+1) σ2 st2):∃σ' st',forF bd body xs σ st=.ok (.nx σ') st'/\I xs.length σ' st':=by
 have:=zzj I xs 0 σ st h0 fun i x σ st hx hi=>by
  rw[xdw] at hi ⊢;exact s i x σ st hx hi
 rw[xdw] at this;exact this
theorem zbjv {lo:Int}{n i:Nat}{x:D}(h:(rng lo n)[i]?=some x):i < n/\x=.int (lo+i):=zkn h
theorem zev (lo:Int)(n:Nat):(rng lo n).length=n:=by simp[rng]
theorem zow {bd:SG}{c:ST}{f:SE}(I:Nat->List D->DS->Store->Prop):∀(xs:List D) (k:Nat) (acc:List D) (σ:DS) (st:Store),I k acc σ st ->
  (∀i x acc σ st,xs[i]?=some x->I (k+i) acc σ st->∃σ1 b st1,bd x σ=some σ1/\c σ1 st=.ok b st1/\((b=false/\I (k+i+1) acc σ1 st1)\/(b=true/\∃y st2,f σ1 st1=.ok y st2/\I (k+i+1) (acc++[y]) σ1 st2))) ->
  ∃ys σ' st',compF bd c f xs σ st=.ok ys st'/\I (k+xs.length) (acc++ys) σ' st'
 | [],k,acc,σ,st,h,_=>⟨[],σ,st,rfl,by rw[xdp];exact h⟩
 | x::xs,k,acc,σ,st,h,s=>by
  have s':∀i y acc σ st,xs[i]?=some y->I (k+1+i) acc σ st->∃σ1 b st1,bd y σ=some σ1/\c σ1 st=.ok b st1/\((b=false/\I (k+1+i+1) acc σ1 st1)\/(b=true/\∃z st2,f σ1 st1=.ok z st2/\I (k+1+i+1) (acc++[z]) σ1 st2)):=fun i y acc σ st hy hi=>by
   have:=s (i+1) y acc σ st (by simpa using hy) (by rw[show k+(i+1)=k+1+i by lia];exact hi);rw[show k+(i+1)+1=k+1+i+1 by lia] at this;exact this
  obtain⟨σ1,b,st1,e1,e2,h2⟩:=s 0 x acc σ st rfl h;rcases h2 with⟨rfl,h2⟩ | ⟨rfl,y,st2,e3,h2⟩
  ·obtain⟨ys,σ',st',e4,h3⟩:=zow I xs (k+1) acc σ1 st1 h2 s';refine⟨ys,σ',st',?_,by rw[xcb,show k+(xs.length+1)=k+1+xs.length by lia];exact h3⟩;unfold compF;rw[e1];dsimp only;rw[e2];exact e4
  ·obtain⟨ys,σ',st',e4,h3⟩:=zow I xs (k+1) (acc++[y]) σ1 st2 h2 s';refine⟨y::ys,σ',st',?_,by rw[xcb,show k+(xs.length+1)=k+1+xs.length by lia];rw[xci] at h3;exact h3⟩;unfold compF;rw[e1];dsimp only;rw[e2];dsimp only[zgq];rw[if_pos rfl,e3];dsimp only[zgq];rw[e4]
   rfl
theorem zbic {bd:SG}{c:ST}{f:SE}(I:Nat->List D->DS->Store->Prop){xs:List D}{σ:DS}{st:Store}(h0:I 0 [] σ st)
  (s:∀i x acc σ st,xs[i]?=some x->I i acc σ st->∃σ1 b st1,bd x σ=some σ1/\c σ1 st=.ok b st1/\((b=false/\I (i+1) acc σ1 st1)\/(b=true/\∃y st2,f σ1 st1=.ok y st2/\I (i+1) (acc++[y]) σ1 st2))) :
  ∃ys σ' st',compF bd c f xs σ st=.ok ys st'/\I xs.length ys σ' st':=by
 have:=zow I xs 0 [] σ st h0 fun i x acc σ st hx hi=>by
  rw[xdw] at hi ⊢;exact s i x acc σ st hx hi
 rw[xdw] at this
 simpa using this
theorem zvl {c:ST}{body:SS}(I:Nat->DS->Store->Prop)(post:DS->Store->Prop){σ:DS}{st:Store}{k:Nat}(h0:I k σ st)(hm:k < wCap)
  (s:∀j σ st,I j σ st->∃b st1,c σ st=.ok b st1/\((b=false/\post σ st1)\/(b=true/\∃i σ2 st2,body σ st1=.ok (.nx σ2) st2/\I i σ2 st2/\i < j))):∃σ' st',sWhile c body σ st=.ok (.nx σ') st'/\post σ' st':=by
 have main:∀n j σ st,I j σ st->j < n->∃σ' st',whileF c body n σ st=.ok (.nx σ') st'/\post σ' st':=by
  intro n
  induction n with
  | zero=>intro j σ st _ h;lia
  | succ n ih =>
   intro j σ st hI hlt;obtain⟨b,st1,e1,h⟩:=s j σ st hI;unfold whileF;rw[e1];dsimp only[zgq];rcases h with⟨rfl,h⟩ | ⟨rfl,i,σ2,st2,e2,h2,h3⟩
   ·exact⟨σ,st1,by rw[if_neg (by decide)],h⟩
   ·obtain⟨σ',st',e3,h4⟩:=ih i σ2 st2 h2 (by lia);refine⟨σ',st',?_,h4⟩;rw[if_pos rfl,e2];exact e3
 exact main wCap k σ st h0 hm
section
variable {st:Store}{n:Nat}{xs:List D}{i:Int}
@[simp] theorem zbiu:seqOf st (.tup xs)=some xs:=rfl
@[simp] theorem zbiv:seqOf st (.scr xs)=some xs:=rfl
@[simp] theorem zbiw:seqOf st (.lst xs)=some xs:=rfl
@[simp] theorem zbjn:seqV (.tup xs)=some xs:=rfl
@[simp] theorem zbjp:seqV (.lst xs)=some xs:=rfl
@[simp] theorem zbjo:seqV (.scr xs)=some xs:=rfl
@[simp] theorem zboi:asL st (.lst xs)=some xs:=rfl
theorem znp (h:st[n]?=some (.lst xs)):asL st (.ref n)=some xs:=by
 unfold asL;dsimp only;rw[h]
theorem zpq (h:st[n]?=some (.lst xs)):seqOf st (.ref n)=some xs:=znp h
theorem zte {x:D}{d:D}(h:seqOf st x=some xs)(h2:L2.atI xs i=some d):oIx x (.int i) st=.ok d st:=by
 unfold oIx;rw[h];dsimp only;rw[h2]
@[simp] theorem zbnb:bLen [.tup xs] st=.ok (.int xs.length) st:=rfl
@[simp] theorem zbnd:bLen [.lst xs] st=.ok (.int xs.length) st:=rfl
@[simp] theorem zbnc:bLen [.scr xs] st=.ok (.int xs.length) st:=rfl
@[simp] theorem zbqf:bAbs [.int i] st=.ok (.int (if i < 0 then -i else i)) st:=rfl
@[simp] theorem zbqi {g:Int->Int->Int} {j:Int}:b2I g [.int i,.int j] st=.ok (.int (g i j)) st:=rfl
@[simp] theorem zbna {ns:List Int}:bSum [aL ns] st=.ok (.int ns.sum) st:=by
 unfold bSum;simp
@[simp] theorem zbin:bTuple [.tup xs] st=.ok (.tup xs) st:=rfl
@[simp] theorem zuu:bTuple [.lst xs] st=.ok (.tup xs) st:=rfl
theorem zpb {l:List (List Int)}(h:l.length<=1000000):bSorted [.lst (aJ l)] st=.ok (.lst (aJ (sortR l))) st:=by
 unfold bSorted;simp[h]
theorem zpc {kvs:List (List Int×D)}(h:st[n]?=some (.dT kvs))(hl:kvs.length<=1000000):bSorted [.ref n] st=.ok (.lst (aJ (sortR (kvs.map (·.1))))) st:=by
 unfold bSorted asL pairsOf;simp[h,hl]
theorem zuv {j:Nat}{d:D}(h:xs[j]?=some d):L2.atI xs (j:Int)=some d:=zzw h
theorem zsn {o:O}(h:n < st.length):(st.set n o)[n]?=some o:=xec h
theorem zls {o:O}(h:st[n]?=some o):n < st.length:=(xbf.mp h).1
theorem zbjm {o:O}(h:st[n]?=some o):st.set n o=st:=by
 apply xkz;intro i;by_cases e:i=n
 ·subst e;rw[xec (zls h),h]
 ·rw[xdm (xcs e)]
end
theorem zty {n np:Nat}{b:SS}{ds:List D}{st st':Store}{v:D}(h:ds.length=np)(e:b (ds.map some++List.replicate (n - np) none) st=.ok (.ret v) st'):fnD n np b ds st=.ok v st':=by
 rw[zbod,if_pos h,e]
theorem zboc {n np:Nat}{b:SS}{ds:List D}{st st':Store}{σ:DS}(h:ds.length=np)(e:b (ds.map some++List.replicate (n - np) none) st=.ok (.nx σ) st'):fnD n np b ds st=.ok .non st':=by
 rw[zbod,if_pos h,e]
noncomputable abbrev bagO (c x:Int):O:=.lst [.int c,.int x]
noncomputable def BagAt (st:Store) (n:Nat):Prop:=∃c x:Int,st[n]?=some (bagO c x)/\0<=c/\0<=x
structure Drew (st st':Store) (n:Nat):Prop where
 len:st.length<=st'.length
 keep:∀ i, i < st.length->i≠n->st'[i]?=st[i]?
 bag:BagAt st' n
theorem Drew.trans {st st1 st2:Store}{n:Nat}(a:Drew st st1 n)(b:Drew st1 st2 n):Drew st st2 n :=
 ⟨xbb a.len b.len,fun i h1 h2=>(b.keep i (xbg h1 a.len) h2).trans (a.keep i h1 h2),b.bag⟩
theorem Drew.set {st:Store}{n:Nat}{c x:Int}(h:BagAt st n)(hc:0<=c)(hx:0<=x):Drew st (st.set n (bagO c x)) n:=by
 obtain⟨_,_,e,_⟩:=h;exact⟨by rw[xft];exact xbe _,fun i _ h2=>xdm (xcs h2),c,x,zsn (zls e),hc,hx⟩
theorem zbei {st:Store}{n:Nat}{m:Int}(hb:BagAt st n)(h1:1<=m)(h2:m < 2 ^ 1000) :
  ∃r st',zbv [.ref n,.int m] st=.ok (.int r) st'/\0<=r/\r < m/\Drew st st' n/\st'.length=st.length:=by
 obtain⟨c,x,hn,hc,hx⟩:=id hb;have s0:∀{c x:Int} {st:Store},st[n]?=some (bagO c x)->oIx (.ref n) (.int 0) st=.ok (.int c) st:=fun h=>zte (zpq h) rfl
 have s1:∀{c x:Int} {st:Store},st[n]?=some (bagO c x)->oIx (.ref n) (.int 1) st=.ok (.int x) st:=fun h=>zte (zpq h) rfl
 by_cases h0:0 < c
 ·have d1:CDivP c m:=⟨by lia,h2⟩
  have e0:ixN 2 0=some 0:=rfl;refine⟨c % m,st.set n (bagO (c / m) x),zty rfl ?_,xim _ (by lia),Int.emod_lt_of_pos _ (by lia),Drew.set hb (Int.ediv_nonneg hc (by lia)) hx,xft⟩;simp[s0 hn,h0,hn,e0,show(0:Int) < m by lia,d1]
 ·have hlen:=zls hn
  have W:=zvl (c:=eB (aS oLtT (aA 4) (aA 1))) (body:=aD (sSetIx (aA 0) (eC (.int 1)) (aS oMod (aS aM (aS oMulI (aS oIx (aA 0) (eC (.int 1))) (eC (.int 48271))) (eC (.int 7919))) (eC (.int 2147483647))))
   (aD (aF 3 (aS aM (aS oMulI (aA 3) (eC (.int 1073741789))) (aS oMod (aS oMulI (aS oFdiv (aS oIx (aA 0) (eC (.int 1))) (eC (.int 8))) (eC (.int 69621))) (eC (.int 1073741789)))))
   (aF 4 (aS oMulI (aA 4) (eC (.int 1073741789)))))) (k:=1000) (σ:=[some (.ref n),some (.int m),none,some (.int 0),some (.int 1)]) (st:=st)
   (fun j σ s=>∃c' x' nn rr:Int,σ=[some (.ref n),some (.int m),none,some (.int nn),some (.int rr)]/\s=st.set n (bagO c' x')/\0<=c'/\0<=x'/\0<=nn/\j<=1000/\2 ^ (1000 - j)<=rr)
   (fun σ s=>∃c' x' nn:Int,(∃rr,σ=[some (.ref n),some (.int m),none,some (.int nn),some (.int rr)])/\s=st.set n (bagO c' x')/\0<=c'/\0<=x'/\0<=nn)
   ⟨c,x,0,1,rfl,(zbjm hn).symm,hc,hx,by lia,by lia,by decide⟩ (by decide) (by
    rintro j σ s ⟨c',x',nn,rr,rfl,rfl,a1,a2,a3,a4,a5⟩;have g1:(st.set n (bagO c' x'))[n]?=some (bagO c' x'):=zsn hlen;by_cases hlt:rr < m
    ·have hj:1<=j:=by
      rcases xko j with z | z
      ·subst z;have a5':(2:Int) ^ 1000<=rr:=a5;lia
      ·exact z
     have e1:ixN 2 1=some 1:=rfl;have m1:CMul x' 48271:=.inr ⟨by decide,by decide⟩;have m2:CMul nn 1073741789:=.inr ⟨by decide,by decide⟩;have m3:CMul rr 1073741789:=.inr ⟨by decide,by decide⟩;have g2:∀y:Int,(st.set n (bagO c' y))[n]?=some (bagO c' y):=fun y=>zsn hlen
     have m4:∀y:Int,CMul y 69621:=fun y=>.inr ⟨by decide,by decide⟩
     have d8:∀y:Int,CDivP y 8:=fun y=>⟨by decide,by decide +kernel⟩
     refine⟨true,st.set n (bagO c' x'),by simp[hlt],.inr ⟨rfl,j - 1,_,st.set n (bagO c' ((x' * 48271+7919) % 2147483647)),?_,⟨c',(x' * 48271+7919) % 2147483647,nn * 1073741789+(x' * 48271+7919) % 2147483647 / 8 * 69621 % 1073741789,rr * 1073741789,rfl,rfl,a1,?_,?_,by lia,?_⟩,by lia⟩⟩
     ·simp[s1 g1,g1,e1,m1,m2,m3,m4,d8,s1 (g2 _)]
     ·exact xim _ (by lia)
     ·have a1:0<=nn * 1073741789:=Int.mul_nonneg a3 (by lia);have a2:=xim ((x' * 48271+7919) % 2147483647 / 8 * 69621) (show(1073741789:Int)≠0 by lia);lia
     ·have e:(2:Int) ^ (1000 - (j - 1))=2 ^ (1000 - j) * 2:=by
       rw[← Int.pow_succ];congr 1;lia
      rw[e];have hp:(0:Int)<=2 ^ (1000 - j):=Int.pow_nonneg (by decide);lia
    ·exact⟨false,_,by simp[hlt],.inl ⟨rfl,c',x',nn,⟨rr,rfl⟩,rfl,a1,a2,a3⟩⟩)
  obtain⟨σ',st',e,c',x',nn,hσ,hst,k1,k2,k3⟩:=W;obtain⟨rr,rfl⟩:=hσ;subst hst;refine⟨nn % m,st.set n (bagO c' x'),zty rfl ?_,xim _ (by lia),Int.emod_lt_of_pos _ (by lia),Drew.set hb k1 k2,xft⟩;simp[s0 hn,h0,e,show(0:Int) < m by lia]
theorem zno {ns:List Int}{j:Nat}(h:j < ns.length):L2.atI (ns.map D.int) (j:Int)=some (.int ns[j]):=zzw (by rw[xcv,xbi h];rfl)
theorem zbmz {st:Store}{ns:List Int}{i:Nat}(hl:ns.length<=63)(hi:i<=100000):∃c x:Int,0<=c/\0<=x/\zff [.scr (ns.map .int),.int i] st=.ok (.ref st.length) (st++[bagO c x]):=by
 have cell:∃c:Int,0<=c/\sIf (eB (aS oLtT (aA 1) (aE bLen (aB (aA 0) aC)))) (aF 2 (aE bAbs (aB (aS oIx (aA 0) (aA 1)) aC))) sNx [some (.scr (ns.map .int)),some (.int i),some (.int 0),none,none] st
   = .ok (.nx [some (.scr (ns.map .int)),some (.int i),some (.int c),none,none]) st:=by
  by_cases h:i < ns.length
  ·have e:oIx (.scr (ns.map .int)) (.int i) st=.ok (.int ns[i]) st:=zte rfl (zno h);refine⟨if ns[i] < 0 then -ns[i] else ns[i],by split<;>lia,?_⟩;simp[h,e]
  ·exact⟨0,by lia,by simp[h]⟩
 obtain⟨c,hc,ec⟩:=cell;have hmin:(if(60:Int) < (ns.length:Int) then(60:Int) else ns.length).toNat<=ns.length:=by split<;>lia
 have W:=zbgt (bd:=gN 4) (body:=aF 3 (aS oMod (aS aM (aS aM (aS oMulI (aA 3) (eC (.int 48271))) (aS oMod (aS oIx (aA 0) (aA 4)) (eC (.int 2147483647)))) (aA 4)) (eC (.int 2147483629))))
  (xs:=rng 0 (if(60:Int) < (ns.length:Int) then(60:Int) else ns.length).toNat) (σ:=[some (.scr (ns.map .int)),some (.int i),some (.int c),some (.int (7919 * i+17)),none]) (st:=st)
  (fun j σ s=>s=st/\∃(mix:Int) (v:Option D),σ=[some (.scr (ns.map .int)),some (.int i),some (.int c),some (.int mix),v]/\0<=mix) ⟨rfl,_,none,rfl,by lia⟩ (by
   rintro j x σ s hx ⟨rfl,mix,v,rfl,hm⟩;obtain⟨hj,rfl⟩:=zbjv hx;have hj2:j < ns.length:=by lia
   have e:oIx (.scr (ns.map .int)) (.int (0+j)) s=.ok (.int ns[j]) s:=zte rfl (by rw[xfw];exact zno hj2);rw[xfw] at e;have m1:CMul mix 48271:=.inr ⟨by decide,by decide⟩;refine⟨_,[some (.scr (ns.map .int)),some (.int i),some (.int c),some (.int ((mix * 48271+ns[j] % 2147483647+j) % 2147483629)),some (.int (0+j))],s,rfl,?_,rfl,_,_,rfl,xim _ (by lia)⟩
   simp[e,m1])
 obtain⟨σ',st',e,rfl,mix,v,rfl,hm⟩:=W;have m0:CMul 7919 (i:Int):=.inl ⟨by decide,by decide⟩;have p0:CPow 10 18:=⟨by decide,by decide,by decide⟩
 have hr:RngOk (if(60:Int) < (ns.length:Int) then(60:Int) else ns.length):=by
  split<;>exact rngOk (by lia) (by lia)
 by_cases hlt:c < 1000000000000000000
 ·refine⟨0,mix,by lia,hm,zty rfl ?_⟩;have hs:=small 2 (by lia);simp at ec;simp[ec,m0,hr,e,p0,hlt,hs]
 ·refine⟨c,mix,hc,hm,zty rfl ?_⟩;have hs:=small 2 (by lia);simp at ec;simp[ec,m0,hr,e,p0,hlt,hs]
theorem seqN {s t:SS}{σ σ1:DS}{st st1:Store}{r:Res Fl}(h:s σ st=.ok (.nx σ1) st1)(k:t σ1 st1=r):aD s t σ st=r:=by
 rw[zbjq,h];exact k
noncomputable def aP (ks:List (List Int)) (k:List Int):List (List Int):=if k∈ks then ks.filter (fun x=>decide (x≠k)) else ks++[k]
noncomputable def aN (l:List (List Int)):List (List Int):=l.foldl aP []
theorem zia {ks:List (List Int)}{k x:List Int}:x∈aP ks k↔(x∈ks/\x≠k)\/(x=k/\k∉ks):=by
 unfold aP;split
 ·rename_i h;simp[xgo,h]
 ·rename_i h;simp only[xca,xck];constructor
  ·rintro(z | rfl)
   ·exact .inl ⟨z,fun e=>h (e ▸ z)⟩
   ·exact .inr ⟨rfl,h⟩
  ·rintro(⟨z,_⟩ | ⟨z,_⟩)
   ·exact .inl z
   ·exact .inr z
theorem zrq {ks:List (List Int)}{k:List Int}(h:ks.Nodup):(aP ks k).Nodup:=by
 unfold aP;split
 ·exact h.filter _
 ·rename_i hk;rw[xlb];exact⟨h,by simp,fun a ha b hb=>by simp at hb;subst hb;exact fun e=>hk (e ▸ ha)⟩
theorem zou (ks:List (List Int))(k:List Int):(aP ks k).length<=ks.length+1:=by
 unfold aP;split
 ·exact xff (xjq _ _)
 ·simp
theorem znd:∀(l ks:List (List Int)),ks.Nodup->(l.foldl aP ks).Nodup/\(l.foldl aP ks).length<=ks.length+l.length/\∀x,x∈l.foldl aP ks↔(l.count x+if x∈ks then 1 else 0) % 2=1
 | [],ks,h=>⟨h,by simp,fun x=>by by_cases e:x∈ks<;>simp[e]⟩
 | a::l,ks,h=>by
  obtain⟨h1,h2,h3⟩:=znd l (aP ks a) (zrq h);refine⟨h1,?_,fun x=>?_⟩
  ·have:=zou ks a;rw[xhq,xcb];lia
  ·rw[xhq,h3 x,xln];by_cases e:x=a
   ·subst e;by_cases k:x∈ks
    ·have q:x∉aP ks x:=by rw[zia];simp[k]
     simp only[q,k,xdz,xdo,xhd]<;>lia
    ·have q:x∈aP ks x:=by rw[zia];simp[k]
     simp only[q,k,xdz,xdo,xhd]<;>lia
   ·have e':(a==x)=false:=by simpa using fun z:a=x=>e z.symm
    by_cases k:x∈ks
    ·have q:x∈aP ks a:=by rw[zia];simp[k,e]
     simp[q,k,e']
    ·have q:x∉aP ks a:=by rw[zia];simp[k,e]
     simp[q,k,e']
theorem zgg (l:List (List Int)):(aN l).Nodup:=(znd l [] xiu).1
theorem zhk (l:List (List Int)):(aN l).length<=l.length:=by have:=(znd l [] xiu).2.1;simpa [aN] using this
theorem zlp {l:List (List Int)}{x:List Int}:x∈aN l↔l.count x % 2=1:=by have:=(znd l [] xiu).2.2 x;simpa [aN] using this
theorem zkq {a b:List (List Int)}(h1:a.Nodup)(h2:b.Nodup)(h:∀x,x∈a↔x∈b):a.Perm b:=(List.perm_ext_iff_of_nodup h1 h2).mpr h
theorem zqz {a b:List (List Int)}(h:a.Perm b):sortR a=sortR b:=znz ((zdi a).trans h) (zny a)
noncomputable def aO (l:List (List Int)):List (List Int):=sortR (aN l)
theorem zbfw {l m:List (List Int)}(h1:m.Nodup)(h:∀x,x∈m↔l.count x % 2=1):sortR m=aO l:=zqz (zkq h1 (zgg l) fun x=>by rw[h,zlp])
theorem zbbn {l:List (List Int)}{x:List Int}:x∈aO l↔l.count x % 2=1:=by unfold aO;rw[(zdi _).mem_iff,zlp]
theorem zbbm {l:List (List Int)}{x:List Int}(h:x∈aO l):x∈l:=by
 rw[zbbn] at h;rcases xko (l.count x) with z | z
 ·rw[z] at h;cases h
 ·exact xip.mp z
theorem zjd (l:List (List Int)):(aO l).Nodup:=(zdi _).nodup_iff.mpr (zgg l)
noncomputable abbrev aQ (ks:List (List Int)):List (List Int×D):=ks.map fun k=>(k,.bl true)
theorem zpl {ks:List (List Int)}{k:List Int}:valD (aQ ks) k=if k∈ks then some (.bl true) else none:=by
 induction ks with
 | nil=>rfl
 | cons a ks ih =>
  unfold valD aQ at ih ⊢;rw[xbt,xdk];by_cases e:a=k
  ·simp[e]
  ·simp only[xbv e];rw[ih];simp[xbx,show ¬ k=a from fun z=>e z.symm]
theorem zue {ks:List (List Int)}{k:List Int}:dropD (aQ ks) k=aQ (ks.filter fun x=>decide (x≠k)):=by
 unfold dropD aQ;rw[xjx]
 rfl
theorem zwg {ks:List (List Int)}{k:List Int}(h:k∉ks):putD (aQ ks) k (.bl true)=aQ (ks++[k]):=by
 unfold putD;rw[if_neg]
 ·simp[aQ]
 ·simp only[List.any_map,xjj,not_exists,not_and];intro x hx e;have:x=k:=by simpa using e
  exact h (this ▸ hx)
theorem zja {st:Store}{n:Nat}{kvs:List (List Int×D)}(h:st[n]?=some (.dT kvs)):pairsOf st (.ref n)=some kvs:=by
 unfold pairsOf;dsimp only;rw[h]
theorem zbbi {st:Store}{n:Nat}{kvs:List (List Int×D)}(h:st[n]?=some (.fT kvs)):pairsOf st (.ref n)=some kvs:=by
 unfold pairsOf;dsimp only;rw[h]
theorem zbfy {st:Store}{n:Nat}{kvs:List (List Int×D)}{k:List Int}(h:pairsOf st (.ref n)=some kvs):oDIn false (aL k) (.ref n) st=.ok (.bl (valD kvs k).isSome) st:=by
 unfold oDIn;rw[zfc,h]
 rfl
theorem zon {st:Store}{n:Nat}{kvs:List (List Int×D)}{k:List Int}{v:D}(h:pairsOf st (.ref n)=some kvs)(hv:valD kvs k=some v):oDGet (.ref n) (aL k) st=.ok v st:=by
 unfold oDGet;rw[zfc,h];dsimp only;rw[hv]
theorem zbgv {st:Store}{n:Nat}{ks:List (List Int)}{k:List Int}(h:st[n]?=some (.dT (aQ ks)))(hl:ks.length<=1000000):zrv [.ref n,aL k] st=.ok .non (st.set n (.dT (aQ (aP ks k)))):=by
 have e1:=zbfy (k:=k) (zja h);rw[zpl] at e1;by_cases hk:k∈ks
 ·refine zboc (σ:=[some (.ref n),some (aL k)]) rfl ?_;rw[if_pos hk] at e1;have e2:valD (aQ ks) k=some (.bl true):=by rw[zpl,if_pos hk]
  have e3:aP ks k=ks.filter fun x=>decide (x≠k):=by unfold aP;rw[if_pos hk]
  rw[e3,← zue];have e4:=zja h;have e5:=zfc k;simp only[aL,aQ] at *
  simp[e1,e4,e5,h,e2]
 ·refine zboc (σ:=[some (.ref n),some (aL k)]) rfl ?_;rw[if_neg hk] at e1;have e3:aP ks k=ks++[k]:=by unfold aP;rw[if_neg hk]
  rw[e3,← zwg hk];have e5:=zfc k;have e6:(aQ ks).length < sizeLine:=by rw[xbc];exact smallT _ hl
  simp only[aL,aQ] at *
  simp[e1,e5,h,e6];rw[xbc] at e6;exact e6
theorem zbx {l:List (List Int)}{i:Nat}{x:D}(h:(aJ l)[i]?=some x):∃k,l[i]?=some k/\x=aL k:=by
 unfold aJ at h;rw[xcv] at h;cases e:l[i]? with
 | none=>rw[e] at h;cases h
 | some k=>rw[e] at h;exact⟨k,rfl,(xcn h).symm⟩
theorem zi (l:List (List Int)):(aJ l).length=l.length:=xbc _
theorem zm {α:Type}{l:List α}{i:Nat}{k:α}(h:l[i]?=some k):l.take (i+1)=l.take i++[k]:=by
 obtain⟨hi,e⟩:=xbf.mp h;rw[xhc hi,e]
theorem zbdd (xs:List D)(k:Nat):cutD xs (some (k:Int)) none=xs.drop k:=by
 unfold cutD;rw[HT.zbam,HT.zbep];rcases Nat.le_total k xs.length with h | h
 ·rw[xek h,xdn (by rw[xhb];exact xbe _)]
 ·rw[xjh h,List.drop_length,List.drop_of_length_le h];simp
theorem zlz (l ks:List (List Int))(h:ks.Nodup):(l.foldl aP ks).length<=ks.length+l.length:=(znd l ks h).2.1
theorem zqx {st:Store}{n:Nat}{ks:List (List Int)}(h:st[n]?=some (.dT (aQ ks)))(hl:ks.length<=1000000):bSorted [.ref n] st=.ok (.lst (aJ (sortR ks))) st:=by
 rw[zpc h (by rw[xbc];exact hl),xcr]
 congr 2
 exact congrArg (fun l=>aJ (sortR l)) (List.map_id ks)
end Dd
namespace K07
open PySem L2
theorem zgp (a b:Nat):Builtin.bitAnd (a:Int) (b:Int)=((a &&& b:Nat):Int):=rfl
theorem zxe (a b:Nat):(a &&& b=b)↔((a / 2 &&& b / 2=b / 2)/\¬ (b % 2=1/\a % 2=0)):=by
 have e1:(a &&& b) / 2=a / 2 &&& b / 2:=xjy;have e2:(a &&& b) % 2=(a % 2) * (b % 2):=by
  have q:=@Nat.and_mod_two_eq_one a b;rcases xea a with h | h<;>rcases xea b with h' | h'<;>rw[h,h'] at q ⊢<;>lia
 constructor
 ·intro h;refine⟨by rw[← e1,h],?_⟩;rintro⟨h1,h2⟩;rw[h,h1,h2] at e2;lia
 ·rintro⟨h1,h2⟩;rw[← e1] at h1;have h3:(a &&& b) % 2=b % 2:=by
   rw[e2];rcases xea a with h | h<;>rcases xea b with h' | h'<;>simp[h,h']
   exact h2 ⟨h',h⟩
  lia
end K07
namespace K23
open PySem L2 K07
end K23
namespace Dd
open PySem L2 K07 K23
theorem zfd {st:Store}{i:Int}:zbe [.int i] st=.ok (.bl true) st:=rfl
noncomputable def slowAt (r:List Int) (p:Nat):Prop:=∃a b:Int,r[p]?=some a/\r[p+1]?=some b/\a < 2 * b
noncomputable instance (r:List Int) (p:Nat):Decidable (slowAt r p) :=
 match h1:r[p]?,h2:r[p+1]? with
 | some a,some b=>if h:a < 2 * b then .isTrue ⟨a,b,h1,h2,h⟩ else .isFalse fun⟨x,y,e1,e2,e3⟩=>by rw[h1] at e1;rw[h2] at e2;cases e1;cases e2;exact h e3
 | none,_=>.isFalse fun⟨x,y,e1,_⟩=>by rw[h1] at e1;cases e1
 | some _,none=>.isFalse fun⟨x,y,_,e2,_⟩=>by rw[h2] at e2;cases e2
structure CntG (f:Nat->D) (kvs:List (List Int×D)) (l:List (List Int)):Prop where
 nd:(kvs.map (·.1)).Nodup
 mem:∀k,k∈kvs.map (·.1)↔k∈l
 val:∀p∈kvs,p.2=f (l.count p.1)
 len:kvs.length<=l.length
theorem CntG.nil (f:Nat->D):CntG f [] []:=⟨xiu,fun k=>by simp,fun p h=>(by cases h),by simp⟩
theorem CntG.at {f:Nat->D}{kvs:List (List Int×D)}{l:List (List Int)}(h:CntG f kvs l)(k:List Int):valD kvs k=if k∈l then some (f (l.count k)) else none:=by
 have gen:∀kvs:List (List Int×D),(∀p∈kvs,p.2=f (l.count p.1))->valD kvs k=if k∈kvs.map (·.1) then some (f (l.count k)) else none:=by
  intro kvs
  induction kvs with
  | nil=>intro _;rfl
  | cons a kvs ih =>
   intro hv;have ih:=ih fun p hp=>hv p (xbp _ hp)
   unfold valD at ih ⊢;rw[xdk];by_cases e:a.1=k
   ·have:=hv a xbn;simp only[e,xey,Option.map_some,xbt,xbx,true_or,xdz];rw[this,e]
   ·simp only[xbv e];rw[ih];simp only[xbt,xbx,show ¬ k=a.1 from fun z=>e z.symm,false_or]
 rw[gen kvs h.val];simp only[h.mem]
theorem CntG.put {f:Nat->D}{kvs:List (List Int×D)}{l:List (List Int)}(h:CntG f kvs l)(k:List Int):CntG f (putD kvs k (f (l.count k+1))) (l++[k]):=by
 have any:(kvs.any fun kv=>decide (kv.1=k))=decide (k∈l):=by
  rw[xgq,xle,← h.mem,xjj,xce];constructor
  ·rintro⟨x,hx,e⟩;exact⟨x,hx,by simpa using e⟩
  ·rintro⟨p,hp,e⟩;exact⟨p,hp,by simpa using e⟩
 unfold putD;rw[any];by_cases hk:k∈l
 ·rw[if_pos (by simpa using hk)];have keys:(kvs.map fun kv=>if kv.1=k then(kv.1,f (l.count k+1)) else kv).map (·.1)=kvs.map (·.1):=by
   rw[xcr]
   congr 1
   funext p
   dsimp only[Function.comp];split<;>rfl
  refine⟨by rw[keys];exact h.nd,fun x=>?_,fun p hp=>?_,?_⟩
  ·rw[keys,h.mem,xca,xck];exact⟨.inl,fun z=>z.elim id fun e=>e ▸ hk⟩
  ·obtain⟨q,hq,rfl⟩:=xce.mp hp;have:=h.val q hq;by_cases e:q.1=k
   ·rw[if_pos e];dsimp only;rw[e,xhx];simp
   ·rw[if_neg e,this,xhx];have:List.count q.1 [k]=0:=by rw[xhr];simpa using e
    rw[this];rfl
  ·rw[xbc,xbl];have:=h.len;lia
 ·rw[if_neg (by simpa using hk)];refine⟨?_,fun x=>?_,fun p hp=>?_,?_⟩
  ·rw[xfx,xlb];refine⟨h.nd,by simp,fun a ha b hb=>?_⟩;simp at hb;subst hb;exact fun e=>hk ((h.mem _).mp (e ▸ ha))
  ·rw[xfx,xca,h.mem,xca];simp
  ·rcases xca.mp hp with hp | hp
   ·have e1:=h.val p hp;have e2:p.1≠k:=fun e=>hk ((h.mem _).mp (e ▸ xce.mpr ⟨p,hp,rfl⟩))
    rw[e1,xhx];have:List.count p.1 [k]=0:=by rw[xhr];simpa using e2
    rw[this];rfl
   ·simp at hp;subst hp;rw[xhx,xhr.mpr hk];simp
  ·rw[xbl,xbl];have:=h.len;simp;exact this
noncomputable def oddB (n:Nat):D:=.bl (decide (n % 2=1))
theorem zws (n:Nat):oddB (n+1)=.bl (!decide (n % 2=1)):=by
 unfold oddB
 congr 1
 by_cases h:n % 2=1
 ·rw[xbu h,xbv (by lia)];rfl
 ·rw[xbv h,xbu (by lia)];rfl
theorem zrp {st:Store}{x:D}{l:List (List Int)}(hx:seqV x=some (aJ l))(hl:l.length<=1000000)(ho:(aN l).length<=1000000):∃g,zds [x] st=.ok (aK (aO l)) (st++g):=by
 have W:=zbgt (bd:=gN 2) (body:=zfw) (xs:=aJ l) (σ:=[some x,some (.ref st.length),none]) (st:=st++[.dT []])
  (fun i σ s=>∃(v:Option D) (kvs:List (List Int×D)),σ=[some x,some (.ref st.length),v]/\s=st++[.dT kvs]/\CntG oddB kvs (l.take i)) ⟨none,[],rfl,rfl,CntG.nil _⟩ (by
   rintro i y σ s hy ⟨v,kvs,rfl,rfl,hc⟩;obtain⟨k,hk,rfl⟩:=zbx hy;have hc':=hc.put k;have hn:(st++[O.dT kvs])[st.length]?=some (.dT kvs):=by simp
   have e2:(valD kvs k).getD (.bl false)=.bl (decide ((l.take i).count k % 2=1)):=by
    rw[hc.at];split
    ·rfl
    ·rename_i z;rw[xhr.mpr z];rfl
   have e3:=zfc k;have e4:=zja hn;have e5:kvs.length < sizeLine:=by
    have h1:=hc.len;have h2:(l.take i).length<=l.length:=by rw[xcq];exact xfn _ _
    exact smallT _ (by lia)
   refine⟨[some x,some (.ref st.length),some (aL k)],[some x,some (.ref st.length),some (aL k)],st++[.dT (putD kvs k (oddB ((l.take i).count k+1)))],rfl,?_,some (aL k),_,rfl,rfl,by rw[zm hk];exact hc'⟩;rw[zws];unfold zfw;simp only[aL] at *
   simp only[zbeq,zbgz,zbch,zblo,eC_v,xhj,List.getElem?_cons_zero,zgq,e4,e3,e2,hn,e5,xdz]
   simp)
 obtain⟨σ',st',e,v,kvs,rfl,rfl,hc⟩:=W;rw[zi,xby] at hc;have V:=zbic (bd:=gN 0) (c:=eTru (aS oDGet (aA 1) (aA 0))) (f:=aA 0) (xs:=aJ (kvs.map (·.1))) (σ:=[none,some (.ref st.length)]) (st:=st++[.fT kvs])
  (fun i acc σ s=>s=st++[.fT kvs]/\(∃w:Option D,σ=[w,some (.ref st.length)])/\acc=aJ (((kvs.map (·.1)).take i).filter fun k=>decide (l.count k % 2=1))) ⟨rfl,⟨none,rfl⟩,rfl⟩ (by
   rintro i y acc σ s hy ⟨rfl,⟨w,rfl⟩,rfl⟩;obtain⟨k,hk,rfl⟩:=zbx hy;have hn:(st++[O.fT kvs])[st.length]?=some (.fT kvs):=by simp
   have hkl:k∈l:=(hc.mem k).mp (xbq hk);have e2:valD kvs k=some (oddB (l.count k)):=by rw[hc.at,if_pos hkl]
   have e3:oDGet (.ref st.length) (aL k) (st++[O.fT kvs])=.ok (oddB (l.count k)) _:=zon (zbbi hn) e2;refine⟨[some (aL k),some (.ref st.length)],decide (l.count k % 2=1),st++[.fT kvs],rfl,?_,?_⟩
   ·rw[zbgy];show((oDGet (.ref st.length) (aL k) (st++[O.fT kvs])).bind _)=_;rw[e3]
    rfl
   ·by_cases ho:l.count k % 2=1
    ·refine .inr ⟨xbu ho,aL k,_,rfl,rfl,⟨_,rfl⟩,?_⟩;rw[zm hk,xfs];simp[ho,aJ]
    ·refine .inl ⟨xbv ho,rfl,⟨_,rfl⟩,?_⟩;rw[zm hk,xfs]
     simp[ho,aJ])
 obtain⟨ys,σ2,st2,e2,rfl,⟨w,rfl⟩,rfl⟩:=V;rw[zi,xby] at e2;refine⟨[.fT kvs],zty rfl ?_⟩;have nd:((kvs.map (·.1)).filter fun k=>decide (l.count k % 2=1)).Nodup:=hc.nd.filter _;have mm:∀k,k∈((kvs.map (·.1)).filter fun k=>decide (l.count k % 2=1))↔l.count k % 2=1:=fun k=>by
  rw[xgo,hc.mem,xle];refine⟨fun h=>h.2,fun h=>⟨?_,h⟩⟩;rcases xko (l.count k) with z | z
  ·rw[z] at h;cases h
  ·exact xip.mp z
 have e5:sortR ((kvs.map (·.1)).filter fun k=>decide (l.count k % 2=1))=aO l:=zbfw nd mm;have few:((kvs.map (·.1)).filter fun k=>decide (l.count k % 2=1)).length<=1000000:=by
  have p:=zkq nd (zgg l) fun k=>by rw[mm,zlp]
  rw[p.length_eq];exact ho
 have e6:=zpb (st:=st++[.fT kvs]) few;rw[e5] at e6;have hlen:(aJ (kvs.map (·.1))).length<=sizeLine:=by
  rw[zi,xbc];exact small _ (by have:=hc.len;lia)
 refine seqN (σ1:=[some x,some (.ref st.length),none]) (st1:=st++[.dT []]) (by simp) ?_;refine seqN (σ1:=[some x,some (.ref st.length),v]) (st1:=st++[.dT kvs]) (by simp[hx,e]) ?_;have e7:aG (iDict (aA 1)) 1 [1] (gN 0) (eTru (aS oDGet (aA 1) (aA 0))) (aA 0) [some x,some (.ref st.length),v] (st++[.dT kvs])=.ok (.lst (aJ ((kvs.map (·.1)).filter fun k=>decide (l.count k % 2=1)))) (st++[.fT kvs]):=by
  rw[zzm];have e8:iDict (aA 1) [some x,some (.ref st.length),v] (st++[.dT kvs])=.ok (aJ (kvs.map (·.1))) (st++[.fT kvs]):=by
   simp
  rw[e8,zgq,if_pos hlen];show(compF _ _ _ _ [none,some (.ref st.length)] _).bind _=_;rw[e2]
  rfl
 rw[zbjr,zzn,zvb,zzn,zvb,e7];simp only[zgq,zbni,e6,zuu]
theorem rngN {j:Int}(h1:-10000<=j)(h2:j<=10000):RngOk j:=rngOk (by lia) (by lia)
end Dd
namespace Dd
open PySem L2
noncomputable def WP {α:Type} (r:Res α) (Q:α->Store->Prop):Prop:=match r with
 | .ok a st=>Q a st
 | _=>False
theorem WP.get {α:Type}{r:Res α}{Q:α->Store->Prop}(h:WP r Q):∃a st,r=.ok a st/\Q a st:=by
 cases r with
 | ok a st=>exact⟨a,st,rfl,h⟩
 | exc x st=>exact h.elim
 | stuck=>exact h.elim
theorem WP.of {α:Type}{r:Res α}{Q:α->Store->Prop}{a:α}{st:Store}(e:r=.ok a st)(h:Q a st):WP r Q:=by rw[e];exact h
theorem WP.mono {α:Type}{r:Res α}{Q Q':α->Store->Prop}(h:WP r Q)(k:∀a st,Q a st->Q' a st):WP r Q':=by
 obtain⟨a,st,rfl,q⟩:=h.get;exact k a st q
theorem zj {α β:Type}{r:Res α}{f:α->Store->Res β}{Q:β->Store->Prop}:WP (r.bind f) Q=WP r (fun a st=>WP (f a st) Q):=by
 cases r<;>rfl
noncomputable def seqK (t:SS) (Q:Fl->Store->Prop):Fl->Store->Prop:=fun fl st=>match fl with
 | .nx σ=>WP (t σ st) Q
 | fl=>Q fl st
theorem zbdz {s t:SS}{σ:DS}{st:Store}{Q:Fl->Store->Prop}:WP (aD s t σ st) Q=WP (s σ st) (seqK t Q):=by
 unfold aD;cases s σ st with
 | ok fl st1=>cases fl<;>rfl
 | exc x st=>rfl
 | stuck=>rfl
theorem zvi {α:Type}{c:Prop}[Decidable c]{a b:Res α}{Q:α->Store->Prop}:WP (if c then a else b) Q=if c then WP a Q else WP b Q:=by
 split<;>rfl
theorem znr {α:Type}{c:Prop}[Decidable c]{a:Res α}{Q:α->Store->Prop}:WP (if c then a else .stuck) Q=(c/\WP a Q):=by
 by_cases h:c
 ·rw[if_pos h];simp[h]
 ·rw[if_neg h];simp[h,WP]
noncomputable def retK (Q:D->Store->Prop):Fl->Store->Prop:=fun fl st=>match fl with
 | .ret v=>Q v st
 | .nx _=>Q .non st
 | _=>False
theorem zhn {n np:Nat}{b:SS}{ds:List D}{st:Store}{Q:D->Store->Prop}(h:ds.length=np)(k:WP (b (ds.map some++List.replicate (n - np) none) st) (retK Q)):WP (fnD n np b ds st) Q:=by
 obtain⟨fl,st',e,q⟩:=k.get;unfold fnD;rw[if_pos h,e];cases fl<;>first | exact q | exact q.elim
noncomputable def bK (Q:Bool->Store->Prop):D->Store->Prop:=fun v st=>match v with
 | .bl b=>Q b st
 | _=>False
noncomputable def gK (bd:SG) (Q:Fl->Store->Prop) (σ:DS):D->Store->Prop:=fun v st=>match bd v σ with
 | some σ1=>Q (.nx σ1) st
 | none=>False
theorem W:(∀{α:Type} {a:α} {st:Store} {Q:α->Store->Prop},WP (.ok a st) Q=Q a st)
 /\ (∀{s t:SS} {σ:DS} {st:Store} {Q:Fl->Store->Prop},WP (aD s t σ st) Q=WP (s σ st) (seqK t Q))
 /\ (∀{t:SS} {σ:DS} {st:Store} {Q:Fl->Store->Prop},seqK t Q (.nx σ) st=WP (t σ st) Q)
 /\ (∀{t:SS} {v:D} {st:Store} {Q:Fl->Store->Prop},seqK t Q (.ret v) st=Q (.ret v) st)
 /\ (∀{t:SS} {σ:DS} {st:Store} {Q:Fl->Store->Prop},seqK t Q (.brk σ) st=Q (.brk σ) st)
 /\ (∀{t:SS} {σ:DS} {st:Store} {Q:Fl->Store->Prop},seqK t Q (.ct σ) st=Q (.ct σ) st)
 /\ (∀{v:D} {st:Store} {Q:D->Store->Prop},retK Q (.ret v) st=Q v st)
 /\ (∀{σ:DS} {st:Store} {Q:D->Store->Prop},retK Q (.nx σ) st=Q .non st)
 /\ (∀{b:Bool} {st:Store} {Q:Bool->Store->Prop},bK Q (.bl b) st=Q b st)
 /\ (∀{d:D} {σ:DS} {st:Store} {Q:D->Store->Prop},WP (eC d σ st) Q=Q d st)
 /\ (∀{g:D->D->Store->Res D} {f f':SE} {σ:DS} {st:Store} {Q:D->Store->Prop},WP (aS g f f' σ st) Q=WP (f σ st) (fun x st1=>WP (f' σ st1) (fun y st2=>WP (g x y st2) Q)))
 /\ (∀{g:D->Store->Res D} {f:SE} {σ:DS} {st:Store} {Q:D->Store->Prop},WP (eUn g f σ st) Q=WP (f σ st) (fun x st1=>WP (g x st1) Q))
 /\ (∀{g:List D->Store->Res D} {f:SA} {σ:DS} {st:Store} {Q:D->Store->Prop},WP (aE g f σ st) Q=WP (f σ st) (fun x st1=>WP (g x st1) Q))
 /\ (∀{σ:DS} {st:Store} {Q:List D->Store->Prop},WP (aC σ st) Q=Q [] st)
 /\ (∀{f:SE} {g:SA} {σ:DS} {st:Store} {Q:List D->Store->Prop},WP (aB f g σ st) Q=WP (f σ st) (fun x st1=>WP (g σ st1) (fun xs st2=>Q (x::xs) st2)))
 /\ (∀{f:SE} {σ:DS} {st:Store} {Q:Bool->Store->Prop},WP (eB f σ st) Q=WP (f σ st) (bK Q))
 /\ (∀{f f':ST} {σ:DS} {st:Store} {Q:Bool->Store->Prop},WP (bAnd f f' σ st) Q=WP (f σ st) (fun b st1=>if b=true then WP (f' σ st1) Q else Q false st1))
 /\ (∀{f f':ST} {σ:DS} {st:Store} {Q:Bool->Store->Prop},WP (bOr f f' σ st) Q=WP (f σ st) (fun b st1=>if b=true then Q true st1 else WP (f' σ st1) Q))
 /\ (∀{f:ST} {σ:DS} {st:Store} {Q:Bool->Store->Prop},WP (bNot f σ st) Q=WP (f σ st) (fun b st1=>Q (!b) st1))
 /\ (∀{σ:DS} {st:Store} {Q:Bool->Store->Prop},WP (aI σ st) Q=Q true st)
 /\ (∀{f f':SE} {σ:DS} {st:Store} {Q:D->Store->Prop},WP (eAnd f f' σ st) Q=WP (f σ st) (bK fun b st1=>if b=true then WP (f' σ st1) Q else Q (.bl false) st1))
 /\ (∀{f f':SE} {σ:DS} {st:Store} {Q:D->Store->Prop},WP (eOr f f' σ st) Q=WP (f σ st) (bK fun b st1=>if b=true then Q (.bl true) st1 else WP (f' σ st1) Q))
 /\ (∀{f:SE} {σ:DS} {st:Store} {Q:D->Store->Prop},WP (eNot f σ st) Q=WP (f σ st) (bK fun b st1=>Q (.bl (!b)) st1))
 /\ (∀{c:ST} {f f':SE} {σ:DS} {st:Store} {Q:D->Store->Prop},WP (eIf c f f' σ st) Q=WP (c σ st) (fun b st1=>if b=true then WP (f σ st1) Q else WP (f' σ st1) Q))
 /\ (∀{g:SA} {σ:DS} {st:Store} {Q:D->Store->Prop},WP (aR g σ st) Q=WP (g σ st) (fun xs st1=>xs.length<=sizeLine/\Q (.tup xs) st1))
 /\ (∀{g:SA} {σ:DS} {st:Store} {Q:D->Store->Prop},WP (eLst g σ st) Q=WP (g σ st) (fun xs st1=>xs.length<=sizeLine/\Q (.lst xs) st1))
 /\ (∀{g:SA} {σ:DS} {st:Store} {Q:D->Store->Prop},WP (eLstM g σ st) Q=WP (g σ st) (fun xs st1=>xs.length<=sizeLine/\Q (.ref st1.length) (st1++[.lst xs])))
 /\ (∀{σ:DS} {st:Store} {Q:D->Store->Prop},WP (eDNew σ st) Q=Q (.ref st.length) (st++[.dT []]))
 /\ (∀{σ:DS} {st:Store} {Q:Fl->Store->Prop},WP (sNx σ st) Q=Q (.nx σ) st)
 /\ (∀{σ:DS} {st:Store} {Q:Fl->Store->Prop},WP (sBrk σ st) Q=Q (.brk σ) st)
 /\ (∀{σ:DS} {st:Store} {Q:Fl->Store->Prop},WP (sCt σ st) Q=Q (.ct σ) st)
 /\ (∀{σ:DS} {st:Store} {Q:Fl->Store->Prop},WP (sRetN σ st) Q=Q (.ret .non) st)
 /\ (∀{f:SE} {σ:DS} {st:Store} {Q:Fl->Store->Prop},WP (sRet f σ st) Q=WP (f σ st) (fun v st1=>Q (.ret v) st1))
 /\ (∀{f:SE} {σ:DS} {st:Store} {Q:Fl->Store->Prop},WP (sDrop f σ st) Q=WP (f σ st) (fun _ st1=>Q (.nx σ) st1))
 /\ (∀{i:Nat} {f:SE} {σ:DS} {st:Store} {Q:Fl->Store->Prop},WP (aF i f σ st) Q=WP (f σ st) (fun v st1=>Q (.nx (σ.set i (some v))) st1))
 /\ (∀{bd:SG} {f:SE} {σ:DS} {st:Store} {Q:Fl->Store->Prop},WP (sSetG bd f σ st) Q=WP (f σ st) (gK bd Q σ))
 /\ (∀{c:ST} {s t:SS} {σ:DS} {st:Store} {Q:Fl->Store->Prop},WP (sIf c s t σ st) Q=WP (c σ st) (fun b st1=>if b=true then WP (s σ st1) Q else WP (t σ st1) Q))
 /\ (∀{it:SA} {bd:SG} {body:SS} {σ:DS} {st:Store} {Q:Fl->Store->Prop},WP (sFor it bd body σ st) Q=WP (it σ st) (fun xs st1=>WP (forF bd body xs σ st1) Q))
 /\ (∀{it:SA} {k:Nat} {is:List Nat} {bd:SG} {c:ST} {f:SE} {σ:DS} {st:Store} {Q:D->Store->Prop},WP (aG it k is bd c f σ st) Q=WP (it σ st) (fun xs st1=>xs.length<=sizeLine/\WP (compF bd c f xs (aT k is σ) st1) (fun ys st2=>Q (.lst ys) st2)))
 /\ (∀{it:SA} {k:Nat} {is:List Nat} {bd:SG} {c:ST} {f:SE} {σ:DS} {st:Store} {Q:D->Store->Prop},WP (eCompM it k is bd c f σ st) Q=WP (it σ st) (fun xs st1=>xs.length<=sizeLine/\WP (compF bd c f xs (aT k is σ) st1) (fun ys st2=>Q (.ref st2.length) (st2++[.lst ys]))))
 /\ (∀{C:Int->Int->Prop} [DecidableRel C] {h:Int->Int->D} {i j:Int} {st:Store} {Q:D->Store->Prop},WP (oI C h (.int i) (.int j) st) Q=(C i j/\Q (h i j) st))
 /\ (∀{i j:Int} {st:Store} {Q:D->Store->Prop},WP (aM (.int i) (.int j) st) Q=Q (.int (i+j)) st)
 /\ (∀{a b:List D} {st:Store} {Q:D->Store->Prop},WP (aM (.tup a) (.tup b) st) Q=(a.length+b.length<=sizeLine/\Q (.tup (a++b)) st))
 /\ (∀{i j:Int} {st:Store} {Q:D->Store->Prop},WP (oLtT (.int i) (.int j) st) Q=Q (.bl (decide (i < j))) st)
 /\ (∀{i j:Int} {st:Store} {Q:D->Store->Prop},WP (oEqG false (.int i) (.int j) st) Q=Q (.bl (decide (i=j))) st)
 /\ (∀{i j:Int} {st:Store} {Q:D->Store->Prop},WP (oEqG true (.int i) (.int j) st) Q=Q (.bl (!decide (i=j))) st)
 /\ (∀{i:Int} {st:Store} {Q:D->Store->Prop},WP (oNeg (.int i) st) Q=Q (.int (-i)) st)
 /\ (∀{i j:Int} {g:Int->Int->Int} {st:Store} {Q:D->Store->Prop},WP (b2I g [.int i,.int j] st) Q=Q (.int (g i j)) st)
 /\ (∀{i:Int} {st:Store} {Q:D->Store->Prop},WP (bAbs [.int i] st) Q=Q (.int (if i < 0 then -i else i)) st)
 /\ (∀{b:Bool} {st:Store} {Q:D->Store->Prop},WP (bInt [.bl b] st) Q=Q (.int (if b=true then 1 else 0)) st)
 /\ (∀{xs:List D} {st:Store} {Q:D->Store->Prop},WP (bLen [.tup xs] st) Q=Q (.int xs.length) st)
 /\ (∀{xs:List D} {st:Store} {Q:D->Store->Prop},WP (bLen [.lst xs] st) Q=Q (.int xs.length) st)
 /\ (∀{xs:List D} {st:Store} {Q:D->Store->Prop},WP (bLen [.scr xs] st) Q=Q (.int xs.length) st)
 /\ (∀{xs:List D} {st:Store} {Q:D->Store->Prop},WP (bTuple [.tup xs] st) Q=Q (.tup xs) st)
 /\ (∀{xs:List D} {st:Store} {Q:D->Store->Prop},WP (bTuple [.lst xs] st) Q=Q (.tup xs) st)
 /\ (∀{xs:List D} {st:Store} {Q:D->Store->Prop},WP (bList [.tup xs] st) Q=Q (.lst xs) st)
 /\ (∀{xs:List D} {st:Store} {Q:D->Store->Prop},WP (bList [.lst xs] st) Q=Q (.lst xs) st)
 /\ (∀{d:D} {σ:DS} {st:Store} {Q:D->Store->Prop},WP (aA 0 (some d::σ) st) Q=Q d st)
 /\ (∀{i:Nat} {σ:DS} {st:Store} {Q:D->Store->Prop} {o:Option D},WP (aA (i+1) (o::σ) st) Q=WP (aA i σ st) Q)
 /\ (∀{f:SE} {σ:DS} {st:Store} {Q:List D->Store->Prop},WP (aH f σ st) Q=WP (f σ st) (fun x st1=>∃xs,seqV x=some xs/\Q xs st1))
 /\ (∀{f:SE} {σ:DS} {st:Store} {Q:Bool->Store->Prop},WP (eTru f σ st) Q=WP (f σ st) (fun x st1=>∃b,tru st1 x=some b/\Q b st1))
 /\ (∀{g:SA} {σ:DS} {st:Store} {Q:List D->Store->Prop},WP (iR1 g σ st) Q=WP (g σ st) (fun xs st1=>∃j,xs=[.int j]/\RngOk j/\Q (rng 0 j.toNat) st1))
 /\ (∀{g:SA} {σ:DS} {st:Store} {Q:List D->Store->Prop},WP (iR2 g σ st) Q=WP (g σ st) (fun xs st1=>∃i j,xs=[.int i,.int j]/\RngOk i/\RngOk j/\Q (rng i (j - i).toNat) st1)):=by
 have g2:∀{α:Type} {c:Prop} [Decidable c] {a:α} {st:Store} {Q:α->Store->Prop},WP (if c then .ok a st else .stuck) Q=(c/\Q a st):=fun {α c _ a st Q}=>znr
 refine⟨rfl,zbdz,rfl,rfl,rfl,rfl,rfl,rfl,rfl,rfl,?_⟩;refine⟨?_,?_⟩
 ·intros;rw[zbpl,zj];congr;funext x st1;rw[zj]
 refine⟨zj,zj,rfl,?_⟩;refine⟨?_,?_⟩
 ·intros;rw[zvb,zj];congr;funext x st1;rw[zj];rfl
 refine⟨?_,?_⟩
 ·intros;rw[eB_v,zj];congr;funext x st1;cases x<;>rfl
 refine⟨?_,?_⟩
 ·intros;rw[zbnf,zj];congr;funext x st1;rw[zvi];rfl
 refine⟨?_,?_⟩
 ·intros;rw[zbqd,zj];congr;funext x st1;rw[zvi];rfl
 refine⟨zj,rfl,?_⟩;refine⟨?_,?_⟩
 ·intros;rw[zbls,zj];congr;funext x st1;cases x<;>try rfl
  rename_i b;cases b<;>rfl
 refine⟨?_,?_⟩
 ·intros;rw[zbpk,zj];congr;funext x st1;cases x<;>try rfl
  rename_i b;cases b<;>rfl
 refine⟨?_,?_⟩
 ·intros;rw[zbgz,zj];congr;funext x st1;cases x<;>rfl
 refine⟨?_,?_⟩
 ·intros;rw[zbpm,zj];congr;funext x st1;rw[zvi]
 refine⟨?_,?_⟩
 ·intros;rw[zblp,zj];congr;funext x st1;rw[g2]
 refine⟨?_,?_⟩
 ·intros;rw[zblq,zj];congr;funext x st1;rw[g2]
 refine⟨?_,?_⟩
 ·intros;rw[zbha,zj];congr;funext x st1;rw[g2]
 refine⟨rfl,rfl,rfl,rfl,rfl,zj,zj,zj,?_⟩;refine⟨?_,?_⟩
 ·intro bd f σ st Q;unfold sSetG;rw[zj];congr;funext x st1;unfold gK;cases bd x σ<;>rfl
 refine⟨?_,?_⟩
 ·intros;rw[zboq,zj];congr;funext x st1;rw[zvi]
 refine⟨zj,?_⟩;refine⟨?_,?_⟩
 ·intros;rw[zzm,zj];congr;funext x st1;rw[znr,zj];rfl
 refine⟨?_,?_⟩
 ·intros;unfold eCompM;rw[zj];congr;funext x st1;rw[znr,zj];rfl
 refine⟨?_,?_⟩
 ·intros;rw[oI_v,g2]
 refine⟨rfl,?_⟩;refine⟨?_,?_⟩
 ·intros;rw[zbkv,g2]
 refine⟨rfl,?_⟩;refine⟨?_,?_⟩
 ·intros;rw[show ∀i j st,oEqG false (.int i) (.int j) st=_ from fun i j st=>zbpe];rfl
 refine⟨?_,?_⟩
 ·intros;rw[show ∀i j st,oEqG true (.int i) (.int j) st=_ from fun i j st=>zbpb];rfl
 refine⟨rfl,rfl,rfl,rfl,rfl,rfl,rfl,rfl,rfl,rfl,rfl,fun {d σ st Q}=>rfl,fun {i σ st Q o}=>rfl,?_⟩;refine⟨?_,?_⟩
 ·intros;rw[zbll,zj];congr;funext x st1
  cases h:seqV x with
  | none=>simp[WP]
  | some xs=>simp[WP]
 refine⟨?_,?_⟩
 ·intros;rw[zbgy,zj];congr;funext x st1
  cases h:tru st1 x with
  | none=>simp[WP]
  | some xs=>simp[WP]
 refine⟨?_,?_⟩
 ·intros;rw[zbph,zj];congr;funext x st1
  split
  ·rw[g2];simp[RngOk]
  ·rename_i hne;have:∀j,x≠[D.int j]:=fun j h=>hne j h
   simp[WP,this]
 ·intros;rw[zbpg,zj];congr;funext x st1
  split
  ·rw[g2];simp only[RngOk,List.cons.injEq,D.int.injEq,and_true];apply propext;constructor
   ·rintro⟨h,q⟩;exact⟨_,_,⟨rfl,rfl⟩,h.1,h.2,q⟩
   ·rintro⟨i',j',⟨rfl,rfl⟩,h1,h2,q⟩;exact⟨⟨h1,h2⟩,q⟩
  ·rename_i hne;have:∀i j,x≠[D.int i,D.int j]:=fun i j h=>hne i j h
   simp[WP,this]
noncomputable def loopK (I:DS->Store->Prop) (Q:Fl->Store->Prop):Fl->Store->Prop:=fun fl st=>match fl with
 | .nx σ=>I σ st
 | .ct σ=>I σ st
 | .brk σ=>Q (.nx σ) st
 | .ret v=>Q (.ret v) st
theorem zkd {bd:SG}{body:SS}{Q:Fl->Store->Prop}(I:Nat->DS->Store->Prop):∀(xs:List D) (k:Nat) (σ:DS) (st:Store),I k σ st ->
  (∀i x σ st,xs[i]?=some x->I (k+i) σ st->∃σ1,bd x σ=some σ1/\WP (body σ1 st) (loopK (I (k+i+1)) Q))->(∀σ st,I (k+xs.length) σ st->Q (.nx σ) st)->WP (forF bd body xs σ st) Q
 | [],k,σ,st,h,_,q=>q σ st h
 | x::xs,k,σ,st,h,s,q=>by
  obtain⟨σ1,e1,w⟩:=s 0 x σ st rfl h;obtain⟨fl,st2,e2,w⟩:=w.get;unfold forF;rw[e1];dsimp only;rw[e2]
  have go:∀σ2,I (k+0+1) σ2 st2->WP (forF bd body xs σ2 st2) Q:=fun σ2 h2=>zkd I xs (k+1) σ2 st2 h2 (fun i y σ st hy hi=>by
   have:=s (i+1) y σ st (by simpa using hy) (by rw[show k+(i+1)=k+1+i by lia];exact hi);rw[show k+(i+1)+1=k+1+i+1 by lia] at this
   exact this) (fun σ st h=>q σ st (by rw[xcb,show k+(xs.length+1)=k+1+xs.length by lia];exact h))
  cases fl with
  | nx σ2=>exact go σ2 w
  | ct σ2=>exact go σ2 w
  | brk σ2=>exact w
  | ret v=>exact w
theorem zdc {bd:SG}{body:SS}{Q:Fl->Store->Prop}(I:Nat->DS->Store->Prop){xs:List D}{σ:DS}{st:Store}(h0:I 0 σ st)
  (s:∀i x σ st,xs[i]?=some x->I i σ st->∃σ1,bd x σ=some σ1/\WP (body σ1 st) (loopK (I (i+1)) Q))(q:∀σ st,I xs.length σ st->Q (.nx σ) st):WP (forF bd body xs σ st) Q :=
 zkd I xs 0 σ st h0 (fun i x σ st hx hi=>by rw[xdw] at hi ⊢;exact s i x σ st hx hi) fun σ st h=>q σ st (by rw[xdw] at h;exact h)
theorem L:(∀{I:DS->Store->Prop} {Q:Fl->Store->Prop} {σ:DS} {st:Store},loopK I Q (.nx σ) st=I σ st)
 /\ (∀{I:DS->Store->Prop} {Q:Fl->Store->Prop} {σ:DS} {st:Store},loopK I Q (.ct σ) st=I σ st)
 /\ (∀{I:DS->Store->Prop} {Q:Fl->Store->Prop} {σ:DS} {st:Store},loopK I Q (.brk σ) st=Q (.nx σ) st)
 /\ (∀{I:DS->Store->Prop} {Q:Fl->Store->Prop} {v:D} {st:Store},loopK I Q (.ret v) st=Q (.ret v) st):=⟨rfl,rfl,rfl,rfl⟩
theorem zfs {bd:SG}{c:ST}{f:SE}(I:Nat->List D->DS->Store->Prop):∀(xs:List D) (k:Nat) (acc:List D) (σ:DS) (st:Store) (Q:List D->Store->Prop),I k acc σ st ->
  (∀i x acc σ st,xs[i]?=some x->I (k+i) acc σ st->∃σ1,bd x σ=some σ1/\WP (c σ1 st) (fun b st1=>if b=true then WP (f σ1 st1) (fun y st2=>I (k+i+1) (acc++[y]) σ1 st2) else I (k+i+1) acc σ1 st1)) ->
  (∀ys σ st,I (k+xs.length) (acc++ys) σ st->Q ys st)->WP (compF bd c f xs σ st) Q
 | [],k,acc,σ,st,Q,h,_,q=>q [] σ st (by rw[xdp];exact h)
 | x::xs,k,acc,σ,st,Q,h,s,q=>by
  obtain⟨σ1,e1,w⟩:=s 0 x acc σ st rfl h;obtain⟨b,st1,e2,w⟩:=w.get;have s':∀i y acc σ st,xs[i]?=some y->I (k+1+i) acc σ st->∃σ1,bd y σ=some σ1/\WP (c σ1 st) (fun b st1=>if b=true then WP (f σ1 st1) (fun y st2=>I (k+1+i+1) (acc++[y]) σ1 st2) else I (k+1+i+1) acc σ1 st1):=fun i y acc σ st hy hi=>by
   have:=s (i+1) y acc σ st (by simpa using hy) (by rw[show k+(i+1)=k+1+i by lia];exact hi);rw[show k+(i+1)+1=k+1+i+1 by lia] at this;exact this
  have ln:∀(zs:List D) σ st,I (k+1+xs.length) zs σ st->I (k+(x::xs).length) zs σ st:=fun zs σ st h=>by rw[xcb,show k+(xs.length+1)=k+1+xs.length by lia];exact h
  unfold compF;rw[e1];dsimp only;rw[e2];dsimp only[zgq];cases b with
  | false =>
   rw[if_neg (by decide)] at w ⊢;exact zfs I xs (k+1) acc σ1 st1 Q w s' fun ys σ st h=>q ys σ st (ln _ _ _ h)
  | true =>
   rw[if_pos rfl] at w ⊢;obtain⟨y,st2,e3,w⟩:=w.get;rw[e3];dsimp only[zgq];rw[zj];exact zfs I xs (k+1) (acc++[y]) σ1 st2 _ w s' fun ys σ st h=>q (y::ys) σ st (ln _ _ _ (by rw[xci] at h;exact h))
theorem zym {bd:SG}{c:ST}{f:SE}{Q:List D->Store->Prop}(I:Nat->List D->DS->Store->Prop){xs:List D}{σ:DS}{st:Store}(h0:I 0 [] σ st)
  (s:∀i x acc σ st,xs[i]?=some x->I i acc σ st->∃σ1,bd x σ=some σ1/\WP (c σ1 st) (fun b st1=>if b=true then WP (f σ1 st1) (fun y st2=>I (i+1) (acc++[y]) σ1 st2) else I (i+1) acc σ1 st1))
  (q:∀ys σ st,I xs.length ys σ st->Q ys st):WP (compF bd c f xs σ st) Q :=
 zfs I xs 0 [] σ st Q h0 (fun i x acc σ st hx hi=>by rw[xdw] at hi ⊢;exact s i x acc σ st hx hi) fun ys σ st h=>q ys σ st (by rw[xdw] at h;simpa using h)
theorem zlf {bd:SG}{c:ST}{f:SE}{α:Type}(S:DS->Prop)(P:α->Bool)(G:α->D)(E:α->D){as:List α}{σ:DS}{st:Store}{Q:List D->Store->Prop}(h0:S σ)
  (s:∀x∈as,∀σ,S σ->∃σ1,bd (E x) σ=some σ1/\S σ1/\WP (c σ1 st) (fun b st1=>st1=st/\b=P x)/\(P x=true->WP (f σ1 st) (fun y st1=>st1=st/\y=G x)))
  (q:Q ((as.filter P).map G) st):WP (compF bd c f (as.map E) σ st) Q:=by
 refine zym (fun i acc σ s'=>S σ/\s'=st/\acc=((as.take i).filter P).map G) ⟨h0,rfl,rfl⟩ (fun i x acc σ s' hx hI=>?_) fun ys σ s' hI=>?_
 ·obtain⟨hS,rfl,rfl⟩:=hI;rw[xcv] at hx;obtain⟨z,hz,rfl⟩:=xcz.mp hx;obtain⟨σ1,e1,hS1,w1,w2⟩:=s z (xbq hz) σ hS;refine⟨σ1,e1,w1.mono fun b st1 hb=>?_⟩;obtain⟨rfl,rfl⟩:=hb;cases hP:P z with
  | false =>
   rw[if_neg (by decide)];refine⟨hS1,rfl,?_⟩;rw[zm hz,xfs,xdd (by rw[hP];decide)];simp
  | true =>
   rw[if_pos rfl];refine(w2 hP).mono fun y st2 hy=>?_
   obtain⟨rfl,rfl⟩:=hy;refine⟨hS1,rfl,?_⟩;rw[zm hz,xfs,xcu hP,xfx];simp
 ·obtain⟨_,rfl,rfl⟩:=hI;rw[xbc,xby];exact q
theorem V:(∀{α:Type} {a b:α} {l:List α},(a::l).set 0 b=b::l)
 /\ (∀{α:Type} {a b:α} {l:List α} {i:Nat},(a::l).set (i+1) b=a::l.set i b)
 /\ (∀{σ:DS} {k:Nat} {is:List Nat},aT k is σ=List.replicate k none++is.map fun i=>(σ[i]?).getD none)
 /\ (∀{α:Type} {a:α} {k:Nat},List.replicate (k+1) a=a::List.replicate k a)
 /\ (∀{α:Type} {a:α},List.replicate 0 a=[])
 /\ (∀{α β:Type} {f:α->β} {a:α} {l:List α},(a::l).map f=f a::l.map f)
 /\ (∀{α β:Type} {f:α->β},([]:List α).map f=[])
 /\ (∀{α:Type} {a:α} {l m:List α},(a::l)++m=a::(l++m))
 /\ (∀{α:Type} {l:List α},[]++l=l)
 /\ (∀{α:Type} {a:α} {l:List α},(a::l)[0]?=some a)
 /\ (∀{α:Type} {a:α} {l:List α} {i:Nat},(a::l)[i+1]?=l[i]?)
 /\ (∀{α:Type} {a:α} {d:α},(some a).getD d=a)
 /\ (∀{i:Nat} {d:D} {σ:DS},gN i d σ=some (σ.set i (some d)))
 /\ (∀{p:Prop} [Decidable p],(decide p=true)=p)
 /\ (∀{p:Prop} [Decidable p],((!decide p)=true)=¬ p)
 /\ (∀{b:Bool},((!b)=true)=(b=false))
 /\ (∀{a b:Prop},(if True then a else b)=a)
 /\ (∀{a b:Prop},(if False then a else b)=b)
 /\ (∀{a b:Prop},(if true=true then a else b)=a)
 /\ (∀{a b:Prop},(if false=true then a else b)=b)
 /\ (∀{α:Type} {a b:α},(if True then a else b)=a)
 /\ (∀{α:Type} {a b:α},(if False then a else b)=b)
 /\ ((true=false)=False)/\((false=true)=False)/\((true=true)=True)/\((false=false)=True)/\((¬ True)=False)/\((¬ False)=True):=by
 refine⟨rfl,rfl,rfl,rfl,rfl,rfl,rfl,rfl,rfl,rfl,?_,rfl,rfl,?_,?_,?_,rfl,rfl,rfl,rfl,rfl,rfl,by simp,by simp,by simp,by simp,by simp,by simp⟩
 ·intros;rfl
 ·intro p _;simp
 ·intro p _;simp
 ·intro b;simp
theorem M:(∀{f:SE} {σ:DS} {st:Store} {Q:Option Int->Store->Prop},WP (pSome f σ st) Q=WP (f σ st) (fun v st1=>∃i,v=.int i/\Q (some i) st1))
 /\ (∀{σ:DS} {st:Store} {Q:Option Int->Store->Prop},WP (pNone σ st) Q=Q none st)
 /\ (∀{f:SE} {lo hi:DS->Store->Res (Option Int)} {σ:DS} {st:Store} {Q:D->Store->Prop},WP (eSl f lo hi σ st) Q=WP (f σ st) (fun x st1=>WP (lo σ st1) (fun l st2=>WP (hi σ st2) (fun h st3=>(∃xs,x=.tup xs/\Q (.tup (cutD xs l h)) st3)\/(∃xs,asL st3 x=some xs/\Q (.lst (cutD xs l h)) st3)))))
 /\ (∀{f:SE} {σ:DS} {st:Store} {Q:D->Store->Prop},WP (eFz f σ st) Q=WP (f σ st) (fun x st1=>∃n xs,x=.ref n/\st1[n]?=some (.lst xs)/\Q (.lst xs) (st1.set n .dead)))
 /\ (∀{f g h:SE} {σ:DS} {st:Store} {Q:Fl->Store->Prop},WP (sSetIx f g h σ st) Q=WP (h σ st) (fun v st1=>WP (f σ st1) (fun x st2=>WP (g σ st2) (fun y st3=>∃n k xs j,x=.ref n/\y=.int k/\st3[n]?=some (.lst xs)/\ixN xs.length k=some j/\Q (.nx σ) (st3.set n (.lst (xs.set j v)))))))
 /\ (∀{f:SE} {g:SA} {σ:DS} {st:Store} {Q:D->Store->Prop},WP (eAppend f g σ st) Q=WP (f σ st) (fun x st1=>∃n xs0,x=.ref n/\st1[n]?=some (.lst xs0)/\WP (g σ st1) (fun ys st2=>∃y xs,ys=[y]/\st2[n]?=some (.lst xs)/\xs.length < sizeLine/\Q .non (st2.set n (.lst (xs++[y]))))))
 /\ (∀{x:D} {st:Store} {Q:D->Store->Prop},WP (bSum [x] st) Q=∃ns,(seqOf st x).bind asInts=some ns/\Q (.int ns.sum) st)
 /\ (∀{x:D} {al:Bool} {st:Store} {Q:D->Store->Prop},WP (bAny al [x] st) Q=∃bs,(asL st x).bind asBools=some bs/\Q (.bl (if al then bs.all id else bs.any id)) st)
 /\ (∀{x:D} {gt:Bool} {st:Store} {Q:D->Store->Prop},WP (bBest gt [x] st) Q=∃n ns,(seqOf st x).bind asInts=some (n::ns)/\Q (.int (bestI gt n ns)) st)
 /\ (∀{g:SA} {σ:DS} {st:Store} {Q:List D->Store->Prop},WP (iZipT g σ st) Q=WP (g σ st) (fun xs st1=>∃a b,xs=[.tup a,.tup b]/\Q (pairsF a b) st1))
 /\ (∀{i:Nat} {g:D->D->Store->Res D} {f:SE} {σ:DS} {st:Store} {Q:Fl->Store->Prop},WP (sAug i g f σ st) Q=∃x,σ[i]?=some (some x)/\WP (f σ st) (fun y st1=>WP (g x y st1) (fun z st2=>Q (.nx (σ.set i (some z))) st2))):=by
 refine⟨?_,rfl,?_,?_,?_,?_,?_,?_,?_,?_,?_⟩
 ·intros;rw[zbfp,zj];congr;funext x st1
  cases x<;>simp[WP]
 ·intros;rw[zbpj,zj];congr;funext x st1;rw[zj];congr;funext l st2;rw[zj];congr;funext h st3
  apply propext;split
  ·constructor
   ·intro q;exact .inl ⟨_,rfl,q⟩
   ·rintro(⟨xs,e,q⟩ | ⟨xs,e,q⟩)
    ·cases e;exact q
    ·cases e
  ·rename_i hne;constructor
   ·intro q;split at q
    ·rename_i xs e;exact .inr ⟨xs,e,q⟩
    ·exact q.elim
   ·rintro(⟨xs,e,q⟩ | ⟨xs,e,q⟩)
    ·exact absurd e (hne xs)
    ·rw[e];exact q
 ·intros;rw[zbpn,zj];congr;funext x st1
  apply propext;constructor
  ·intro q;split at q
   ·split at q
    ·rename_i xs e;exact⟨_,xs,rfl,e,q⟩
    ·exact q.elim
   ·exact q.elim
  ·rintro⟨n,xs,rfl,e,q⟩;dsimp only;rw[e];exact q
 ·intros;rw[zbal,zj];congr;funext v st1;rw[zj];congr;funext x st2;rw[zj];congr;funext y st3
  apply propext;constructor
  ·intro q;split at q
   ·split at q
    ·split at q
     ·exact⟨_,_,_,_,rfl,rfl,by assumption,by assumption,q⟩
     ·exact q.elim
    ·exact q.elim
   ·exact q.elim
  ·rintro⟨n,k,xs,j,rfl,rfl,e1,e2,q⟩;dsimp only;rw[e1];dsimp only;rw[e2];exact q
 ·intros;rw[zxo,zj];congr;funext x st1
  apply propext;constructor
  ·intro q;split at q
   ·rename_i n xs0 e;rw[zj] at q;have e':st1[n]?=some (.lst xs0):=by
     unfold asL at e;dsimp only at e;split at e
     ·cases e;assumption
     ·cases e
    refine⟨n,xs0,rfl,e',q.mono fun ys st2 h=>?_⟩;split at h
    ·split at h
     ·exact⟨_,_,rfl,by assumption,by assumption,h⟩
     ·exact h.elim
    ·exact h.elim
   ·exact q.elim
  ·rintro⟨n,xs0,rfl,e,q⟩;rw[znp e];dsimp only;rw[zj];refine q.mono fun ys st2 h=>?_
   obtain⟨y,xs,rfl,e2,hl,h⟩:=h;rw[e2];dsimp only;rw[if_pos hl];exact h
 ·intro x st Q;unfold bSum;dsimp only;cases h:(seqOf st x).bind asInts with
  | none=>simp[WP]
  | some ns=>simp[WP]
 ·intro x al st Q;unfold bAny;dsimp only;cases h:(asL st x).bind asBools with
  | none=>simp[WP]
  | some ns=>simp[WP]
 ·intro x gt st Q;unfold bBest;dsimp only;cases h:(seqOf st x).bind asInts with
  | none=>simp[WP]
  | some ns =>
   cases ns with
   | nil=>simp[WP]
   | cons n ns =>
    apply propext;constructor
    ·intro q;exact⟨_,_,rfl,q⟩
    ·rintro⟨a,b,e,q⟩;cases e;exact q
 ·intro g σ st Q;unfold iZipT;rw[zj];congr;funext x st1
  apply propext;constructor
  ·intro q;split at q
   ·exact⟨_,_,rfl,q⟩
   ·exact q.elim
  ·rintro⟨a,b,rfl,q⟩;exact q
 ·intro i g f σ st Q;rw[zbjt];apply propext;constructor
  ·intro q;split at q
   ·rename_i x e;rw[zj] at q;exact⟨x,e,q.mono fun y st1 h=>by rw[zj] at h;exact h⟩
   ·exact q.elim
  ·rintro⟨x,e,q⟩;rw[e];dsimp only;rw[zj];exact q.mono fun y st1 h=>by rw[zj];exact h
theorem N:(∀{xs:List D} {P:List D->Prop},(∃ys,D.tup xs=D.tup ys/\P ys)=P xs)
 /\ (∀{i:Int} {P:Int->Prop},(∃j,D.int i=D.int j/\P j)=P i)
 /\ (∀{xs:List D} {st:Store} {P:List D->Prop},(∃ys,asL st (.tup xs)=some ys/\P ys)=False)
 /\ (∀{xs:List D} {st:Store} {P:List D->Prop},(∃ys,asL st (.lst xs)=some ys/\P ys)=P xs)
 /\ (∀{xs:List D} {P:List D->Prop},(∃ys,seqV (.tup xs)=some ys/\P ys)=P xs)
 /\ (∀{xs:List D} {P:List D->Prop},(∃ys,seqV (.lst xs)=some ys/\P ys)=P xs)
 /\ (∀{b:Bool} {st:Store} {P:Bool->Prop},(∃c,tru st (.bl b)=some c/\P c)=P b)
 /\ (∀{i:Int} {P:Int->Prop},(∃j,[D.int i]=[D.int j]/\P j)=P i)
 /\ (∀{i j:Int} {P:Int->Int->Prop},(∃k l,[D.int i,D.int j]=[D.int k,D.int l]/\P k l)=P i j)
 /\ (∀{x:D} {P:D->Prop},(∃y,[x]=[y]/\P y)=P x)
 /\ (∀{a b:List D} {P:List D->List D->Prop},(∃c d,[D.tup a,D.tup b]=[.tup c,.tup d]/\P c d)=P a b)
 /\ (∀{p:Prop},(p\/False)=p)/\(∀{p:Prop},(True/\p)=p):=by
 refine⟨?_,?_,?_,?_,?_,?_,?_,?_,?_,?_,?_,by simp,by simp⟩
 ·intros;apply propext;exact⟨fun⟨_,e,p⟩=>by cases e;exact p,fun p=>⟨_,rfl,p⟩⟩
 ·intros;apply propext;exact⟨fun⟨_,e,p⟩=>by cases e;exact p,fun p=>⟨_,rfl,p⟩⟩
 ·intros;apply propext;exact⟨fun⟨_,e,p⟩=>(by cases e),fun p=>p.elim⟩
 ·intros;apply propext;exact⟨fun⟨_,e,p⟩=>by cases e;exact p,fun p=>⟨_,rfl,p⟩⟩
 ·intros;apply propext;exact⟨fun⟨_,e,p⟩=>by cases e;exact p,fun p=>⟨_,rfl,p⟩⟩
 ·intros;apply propext;exact⟨fun⟨_,e,p⟩=>by cases e;exact p,fun p=>⟨_,rfl,p⟩⟩
 ·intros;apply propext;exact⟨fun⟨_,e,p⟩=>by cases e;exact p,fun p=>⟨_,rfl,p⟩⟩
 ·intros;apply propext;exact⟨fun⟨_,e,p⟩=>by cases e;exact p,fun p=>⟨_,rfl,p⟩⟩
 ·intros;apply propext;exact⟨fun⟨_,_,e,p⟩=>by cases e;exact p,fun p=>⟨_,_,rfl,p⟩⟩
 ·intros;apply propext;exact⟨fun⟨_,e,p⟩=>by cases e;exact p,fun p=>⟨_,rfl,p⟩⟩
 ·intros;apply propext;exact⟨fun⟨_,_,e,p⟩=>by cases e;exact p,fun p=>⟨_,_,rfl,p⟩⟩
section
variable {st:Store}{n:Nat}{Q:D->Store->Prop}
theorem zpn {m:Int}(hb:BagAt st n)(h1:1<=m)(h2:m<=1000000)(k:∀r st',0<=r->r < m->Drew st st' n->Q (.int r) st'):WP (zbv [.ref n,.int m] st) Q:=by
 obtain⟨r,st',e,a1,a2,a3,_⟩:=zbei hb h1 (Int.lt_of_le_of_lt h2 (by decide +kernel));exact WP.of e (k r st' a1 a2 a3)
theorem ztt {x:D}{xs:List D}{i:Int}{d:D}(h:seqOf st x=some xs)(h2:L2.atI xs i=some d)(q:Q d st):WP (oIx x (.int i) st) Q:=WP.of (zte h h2) q
theorem zbfd {xs:List D}{i:Int}(h0:0<=i)(h1:i < xs.length)(q:∀d∈xs,Q d st):WP (oIx (.lst xs) (.int i) st) Q:=by
 obtain⟨j,rfl⟩:=xgb h0;have hj:j < xs.length:=by lia
 exact ztt (xs:=xs) (d:=xs[j]) rfl (zuv (xbi hj)) (q _ (xds hj))
theorem zbmy {ns:List Int}{i:Nat}(hl:ns.length<=63)(hi:i<=100000)(k:∀g,BagAt (st++g) st.length->Q (.ref st.length) (st++g)):WP (zff [.scr (ns.map .int),.int i] st) Q:=by
 obtain⟨c,x,hc,hx,e⟩:=zbmz (st:=st) hl hi;exact WP.of e (k _ ⟨c,x,by simp,hc,hx⟩)
end
noncomputable abbrev Rise (l:List (List Int)):Prop:=l.Pairwise fun a b=>HT.lexLt a b=true
structure SumOk (n:Nat) (l:List (List Int)):Prop where
 rise:Rise l
 len:∀r∈l,r.length=n
 pos:∀r∈l,∀x∈r,0<=x
theorem zec {α:Type}(l:List α):(l.filter fun _=>true)=l:=List.filter_eq_self.mpr (by simp)
theorem zhm {α:Type}(P:α->Bool):∀as:List α,asBools (as.map fun x=>.bl (P x))=some (as.map P)
 | []=>rfl
 | x::as=>by rw[xbt,asBools,zhm P as];rfl
noncomputable def riseB (l:List (List Int)):Bool:=(l.zip (l.drop 1)).all fun p=>HT.lexLt p.1 p.2
theorem zpt:∀l:List (List Int),riseB l=true↔Rise l
 | []=>by simp[riseB,Rise]
 | [a]=>by simp[riseB,Rise]
 | a::b::l=>by
  have ih:=zpt (b::l);have e:riseB (a::b::l)=(HT.lexLt a b&&riseB (b::l)):=by simp[riseB]
  rw[e,xgg,ih];constructor
  ·rintro⟨h1,h2⟩;refine xeu.mpr ⟨fun x hx=>?_,h2⟩;rcases xbx.mp hx with rfl | hx
   ·exact h1
   ·exact Srt.zgk h1 ((xeu.mp h2).1 x hx)
  ·intro h;obtain⟨h1,h2⟩:=xeu.mp h;exact⟨h1 b xbn,h2⟩
theorem zkr:∀a b:List (List Int),pairsF (aJ a) (aJ b)=(a.zip b).map fun p=>.tup [aL p.1,aL p.2]
 | [],b=>by simp[pairsF]
 | _::_,[]=>by simp[pairsF]
 | x::a,y::b=>by
  rw[xkj,xbt,← zkr a b]
  rfl
theorem zbgh {a b:List Int}{st:Store}:oLtT (aL a) (aL b) st=.ok (.bl (HT.lexLt a b)) st:=by
 show(match asInts (a.map D.int),asInts (b.map D.int) with
  | some ns,some ms=>Res.ok (D.bl (HT.lexLt ns ms)) st
  | _,_=>Res.stuck)=_
 rw[zdo,zdo]
theorem zwc {l:List (List Int)}{st:Store}{Q:List D->Store->Prop}(q:Q ((l.zip (l.drop 1)).map fun p=>.bl (HT.lexLt p.1 p.2)) st) :
  WP (compF (gT 2 (gsCons (gN 0) (gsCons (gN 1) gsNil))) aI (aS oLtT (aA 0) (aA 1)) (pairsF (aJ l) (cutD (aJ l) (some 1) none)) [none,none] st) Q:=by
 have e:cutD (aJ l) (some 1) none=aJ (l.drop 1):=by
  have:=zbdd (aJ l) 1;rw[show((1:Nat):Int)=1 from rfl] at this;rw[this,aJ,aJ,List.map_drop]
 rw[e,zkr];refine zlf (as:=l.zip (l.drop 1)) (fun σ=>∃v w,σ=[v,w]) (fun _=>true) (fun p=>.bl (HT.lexLt p.1 p.2)) (fun p=>.tup [aL p.1,aL p.2]) ⟨_,_,rfl⟩ ?_ (by rw[zec];exact q);rintro p hp σ ⟨v,w,rfl⟩;refine⟨_,rfl,⟨_,_,rfl⟩,by simp only[W,xgx],fun _=>?_⟩;simp only[W,V];exact WP.of zbgh ⟨rfl,rfl⟩
section
variable {st:Store}{n:Nat}{Q:D->Store->Prop}
theorem ztm (hb:BagAt st n)(k:∀(m:Int) st',1<=m->m<=10->Drew st st' n->Q (.int m) st'):WP (zck [.ref n] st) Q:=by
 refine zhn rfl ?_;simp only[W,V];refine zpn hb (by lia) (by lia) fun r st1 h1 h2 d1=>?_
 simp only[W,V];refine⟨small _ (by simp),?_⟩;refine zpn d1.bag (by lia) (by lia) fun r2 st2 h3 h4 d2=>?_
 refine zbfd h3 (by simp;lia) fun d hd=>?_
 simp only[xbx,xgh,xki] at hd;rcases hd with rfl | rfl | rfl | rfl | rfl | rfl | rfl | rfl | rfl | rfl | rfl<;>exact k _ _ (by lia) (by lia) (d1.trans d2)
theorem zbfx {x:D}{l:List (List Int)}(hx:seqV x=some (aJ l))(hl:l.length<=1000000)(k:∀g,Q (aK (aO l)) (st++g)):WP (zds [x] st) Q:=by
 have h1:=zhk l;obtain⟨g,e⟩:=zrp (st:=st) hx (by lia) (by lia);exact WP.of e (k g)
theorem zxk {N:Int}{l:List (List Int)}(h:SumOk N.toNat l)(hN:0<=N)(hN2:N<=1000)(hl:l.length<=1000000)(q:Q (.bl true) st):WP (zcv [.int N,aK l] st) Q:=by
 refine zhn rfl ?_;have ty:∀ ds:List D, bIsinst [.tup ds, .ty "tuple"] st=.ok (.bl true) st:=fun ds=>rfl
 simp only[W,V];refine WP.of (ty _) ⟨true,rfl,?_⟩;simp only[W,V];refine⟨_,rfl,?_⟩;refine zdc (fun i σ s=>s=st/\∃v,σ=[some (.int N),some (aK l),v]) ⟨rfl,_,rfl⟩ ?_ ?_
 ·rintro i x σ s hx ⟨rfl,v,rfl⟩;obtain⟨r,hr,rfl⟩:=zbx hx;have hm:=xbq hr;refine⟨_,rfl,?_⟩;unfold zfr;simp only[W,V];refine WP.of (ty _) ⟨true,rfl,?_⟩;have e1:((r.map D.int).length:Int)=N:=by rw[xbc,h.len r hm];lia
  simp only[W,V,e1];refine⟨_,rfl,by rw[xbc,h.len r hm];exact small _ (by lia),?_⟩;refine zlf (as:=r) (fun σ=>∃v,σ=[v]) (fun _=>true) (fun x=>.bl (decide (0<=x))) .int ⟨_,rfl⟩ ?_ ?_
  ·rintro x hx σ ⟨v,rfl⟩;refine⟨_,rfl,⟨_,rfl⟩,by simp only[W,xgx],fun _=>?_⟩;simp only[W,V];exact WP.of (zfd (st:=s) (i:=x)) (by simp only[W,V,xgx])
  ·rw[zec];simp only[M,W,V];refine⟨_,zhm _ _,true,?_,?_⟩
   ·rw[List.all_map];show some _=_
    congr 1
    rw[xet];intro x hx;exact xbu (h.pos r hm x hx)
   ·simp only[W,V,L];exact⟨True.intro,_,rfl⟩
 ·rintro σ s ⟨rfl,v,rfl⟩;simp only[W,V,M];refine⟨1,rfl,.inl ⟨_,rfl,?_⟩⟩;refine⟨_,_,rfl,by rw[zew,zi];exact small _ (by lia),zwc ?_⟩;refine⟨_,zhm _ _,?_⟩;rw[List.all_map];have:=(zpt l).mpr h.rise;unfold riseB at this;rw[show((id:Bool->Bool) ∘ fun p:List Int×List Int=>HT.lexLt p.1 p.2)=fun p=>HT.lexLt p.1 p.2 from rfl,this];exact q
end
section
variable {k:Nat}{d:D}{st:Store}
end
section
variable {k:Nat}{d:D}{st:Store}{Q:D->Store->Prop}
end
section
variable {k:Nat}{d:D}{st:Store}{Q:D->Store->Prop}
end
theorem zbdy {s t:SS}{σ:DS}{st:Store}{Q R:Fl->Store->Prop}(h:WP (s σ st) R)(k:∀fl s',R fl s'->seqK t Q fl s'):WP (aD s t σ st) Q:=by
 rw[zbdz];exact h.mono k
section
variable {st:Store}{n:Nat}{Q:D->Store->Prop}
end
section
variable {st:Store}{n:Nat}{Q:D->Store->Prop}
theorem zbgu {ks:List (List Int)}{k:List Int}(h:st[n]?=some (.dT (aQ ks)))(hl:ks.length<=1000000)(q:Q .non (st.set n (.dT (aQ (aP ks k))))):WP (zrv [.ref n,aL k] st) Q:=WP.of (zbgv h hl) q
theorem zvy {ks:List (List Int)}(h:st[n]?=some (.dT (aQ ks)))(hl:ks.length<=1000000)(q:Q (.lst (aJ (sortR ks))) st):WP (bSorted [.ref n] st) Q:=WP.of (zqx h hl) q
end
section
variable {st:Store}{n:Nat}{Q:D->Store->Prop}
end
end Dd
namespace K03
end K03
namespace K13
open PySem PyProof.Rows
theorem zbby (a b:Nat):(a &&& b) / 2=a / 2 &&& b / 2:=xjy
theorem zbbx (a b:Nat):(a &&& b) % 2=(a % 2) * (b % 2):=by
 have q:=@Nat.and_mod_two_eq_one a b;rcases xea a with h | h<;>rcases xea b with h' | h'<;>rw[h,h'] at q ⊢<;>lia
noncomputable abbrev In (e y:Nat):Prop:=e &&& y=y
theorem zqc {a b:Nat}:In a b↔(In (a / 2) (b / 2)/\¬ (b % 2=1/\a % 2=0)):=K07.zxe a b
theorem In.le {e y:Nat}(h:In e y):y<=e:=by rw[← h];exact Nat.and_le_left
theorem zzf (e:Nat):In e 0:=Nat.and_zero e
theorem zbgo (e:Nat):In e e:=Nat.and_self e
theorem zbgq (e x:Nat):In e (e &&& x):=by unfold In;rw[← Nat.and_assoc,Nat.and_self]
theorem zbcc:∀(e y:Nat),In e y->In e (e - y):=fun e=>by
 induction e using Nat.strongRecOn with
 | ind e ih =>
  intro y h;by_cases z:e=0
  ·subst z;rw[Nat.zero_sub];exact zzf 0
  obtain⟨h1,h2⟩:=zqc.mp h;have i:=ih (e / 2) (by lia) (y / 2) h1;have l1:=h1.le;refine zqc.mpr ⟨?_,?_⟩
  ·rw[show(e - y) / 2=e / 2 - y / 2 by lia];exact i
  ·rintro⟨a,b⟩;lia
theorem zbgp:∀(e d q:Nat),In e d->In e q->q < d->q<=e &&& (d - 1):=fun e=>by
 induction e using Nat.strongRecOn with
 | ind e ih =>
  intro d q hd hq lt;by_cases z:e=0
  ·subst z;have:=hd.le;lia
  obtain⟨d1,d2⟩:=zqc.mp hd;obtain⟨q1,q2⟩:=zqc.mp hq;have e1:=zbby e (d - 1);have e2:=zbbx e (d - 1);rcases xea d with c | c
  ·rw[show(d - 1) / 2=d / 2 - 1 by lia] at e1;rw[show(d - 1) % 2=1 by lia,Nat.mul_one] at e2;have i:=ih (e / 2) (by lia) (d / 2) (q / 2) d1 q1 (by lia);have:q % 2<=e % 2:=by lia
   lia
  ·rw[show(d - 1) / 2=d / 2 by lia,d1] at e1;lia
noncomputable def nxt (e j:Nat):Nat:=e - (e &&& (e - j - 1))
theorem zbga {e j:Nat}(h:j < e):j < nxt e j:=by
 have:=xgd (@Nat.and_le_right e (e - (j+1))) e;rw[Nat.sub_sub_self h] at this;exact this
theorem zbkw (e j:Nat):nxt e j<=e:=xfu _ _
theorem zbkx (e j:Nat):In e (nxt e j):=zbcc e _ (zbgq e _)
theorem zwu {e j m:Nat}(hj:In e j)(hm:In e m)(lt:j < m):nxt e j<=m:=by
 have l1:=hm.le;have:=zbgp e (e - j) (e - m) (zbcc e j hj) (zbcc e m hm) (Nat.sub_lt_sub_left (xbg lt l1) lt);exact Nat.sub_le_of_le_add (Nat.add_comm _ m ▸ Nat.sub_le_iff_le_add.mp this)
theorem zbfz {e j:Nat}(h:j < e):Builtin.bitAnd ((j:Int) - (e:Int)) (e:Int)=(nxt e j:Nat):=by
 rw[bitAnd_np (by lia) (by lia)];have e1:(Builtin.bitNot ((j:Int) - (e:Int))).toNat=e - j - 1:=by
  unfold Builtin.bitNot;lia
 rw[e1,xdu];have:=@Nat.and_le_left e (e - j - 1);unfold nxt;lia
noncomputable def subL (e:Nat) (lo hi:Int) (n:Nat):List Nat:=(List.range n).filter fun x=>decide (e &&& x=x/\lo<=x/\(x:Int)<=hi)
theorem zlh (e:Nat)(lo hi:Int)(n:Nat):subL e lo hi (n+1)=subL e lo hi n++(if e &&& n=n/\lo<=n/\(n:Int)<=hi then[n] else[]):=by
 unfold subL;rw[xij,xfs]
 congr 1
 by_cases c:e &&& n=n/\lo<=n/\(n:Int)<=hi
 ·rw[if_pos c];exact xcu (p:=fun x:Nat=>decide (e &&& x=x/\lo<=x/\(x:Int)<=hi)) (xbu c)
 ·rw[if_neg c];exact xdd (p:=fun x:Nat=>decide (e &&& x=x/\lo<=x/\(x:Int)<=hi)) (by rw[xbv c];decide)
theorem zhz {e:Nat}{lo hi:Int}{n:Nat}:∀(k:Nat),(∀x,n<=x->x < n+k->¬ (e &&& x=x/\lo<=x/\(x:Int)<=hi))->subL e lo hi (n+k)=subL e lo hi n
 | 0,_=>rfl
 | k+1,h=>by
  rw[← Nat.add_assoc,zlh,if_neg (h _ (by lia) (by lia)),xdp];exact zhz k fun x h1 h2=>h x h1 (by lia)
theorem zik (e:Nat)(lo hi:Int)(n:Nat):(subL e lo hi n).length<=n:=by
 have:=xjq (fun x=>decide (e &&& x=x/\lo<=x/\(x:Int)<=hi)) (List.range n);rw[xfy] at this;exact this
noncomputable def sharesL (e:Nat) (lo hi:Int):List Nat:=subL e lo hi (e+1)
theorem zdk {e j:Nat}{lo hi:Int}:j∈sharesL e lo hi↔(In e j/\lo<=j/\(j:Int)<=hi):=by
 unfold sharesL subL;rw[xgo,xcp,xle];exact⟨fun h=>h.2,fun h=>⟨xkx h.1.le,h⟩⟩
theorem zvv {e j:Nat}{lo hi:Int}(hj:In e j)(lt:j < e)(hh:(j:Int)<=hi):subL e lo hi (nxt e j)=subL e lo hi j++(if lo<=j then[j] else[]):=by
 have g:=zbga lt;obtain⟨k,hk⟩:∃k,nxt e j=(j+1)+k:=⟨nxt e j - (j+1),(xcg g).symm⟩
 rw[hk,zhz k fun x h1 h2 c=>?_,zlh]
 ·congr 1
  by_cases c:lo<=j
  ·rw[if_pos ⟨hj,c,hh⟩,if_pos c]
  ·rw[if_neg fun z=>c z.2.1,if_neg c]
 ·have:=zwu hj c.1 (by lia);lia
theorem zob {e j:Nat}{lo hi:Int}(hj:In e j)(hh:hi < j):sharesL e lo hi=subL e lo hi j:=by
 have:=hj.le;obtain⟨k,hk⟩:∃k,e+1=j+k:=⟨e+1 - j,(xcg (xff this)).symm⟩
 unfold sharesL;rw[hk];exact zhz k fun x h1 h2 c=>by lia
theorem zrb {e:Nat}{lo hi:Int}(hh:(e:Int)<=hi):sharesL e lo hi=subL e lo hi e++(if lo<=e then[e] else[]):=by
 unfold sharesL;rw[zlh]
 congr 1
 by_cases c:lo<=e
 ·rw[if_pos ⟨zbgo e,c,hh⟩,if_pos c]
 ·rw[if_neg fun z=>c z.2.1,if_neg c]
end K13
namespace Dd
open PySem L2 K13
theorem zle {c:ST}{body:SS}{Q:Fl->Store->Prop}(I:Nat->DS->Store->Prop){k:Nat}{σ:DS}{st:Store}(h0:I k σ st)(hm:k < 1000000)
  (s:∀j σ st,I j σ st->WP (c σ st) (fun b st1=>if b=true then WP (body σ st1) (loopK (fun σ2 st2=>∃i,i < j/\I i σ2 st2) Q) else Q (.nx σ) st1)):WP (sWhile c body σ st) Q:=by
 have main:∀n j σ st,I j σ st->j < n->WP (whileF c body n σ st) Q:=by
  intro n
  induction n with
  | zero=>intro j σ st _ h;lia
  | succ n ih =>
   intro j σ st hI hlt;obtain⟨b,st1,e1,w⟩:=(s j σ st hI).get;unfold whileF;rw[e1];dsimp only[zgq];cases b with
   | false=>exact w
   | true =>
    rw[if_pos rfl] at w ⊢;obtain⟨fl,st2,e2,w⟩:=w.get;rw[e2];cases fl with
    | nx σ2=>obtain⟨i,hi,h⟩:=w;exact ih i σ2 st2 h (by lia)
    | ct σ2=>obtain⟨i,hi,h⟩:=w;exact ih i σ2 st2 h (by lia)
    | brk σ2=>exact w
    | ret v=>exact w
 exact main wCap k σ st h0 hm
noncomputable def dN (j:Nat):D:=.int (j:Int)
section
variable {st:Store}{n:Nat}{Q:D->Store->Prop}
theorem zwa {e:Nat}{lo hi:Int}(he:e<=100000)(k:∀g,Q (.lst ((sharesL e lo hi).map dN)) (st++g)):WP (zju [.int e,.int lo,.int hi] st) Q:=by
 refine zhn rfl ?_;simp only[W,V];refine⟨small _ (by simp),?_⟩;have fin:∀(xs:List Nat) (v:Option D),xs=sharesL e lo hi->WP (sRet (eFz (aA 3)) [some (.int e),some (.int lo),some (.int hi),some (.ref st.length),v] (st++[.lst (xs.map dN)])) (retK Q):=fun xs v h=>by
  subst h;simp only[W,V,M];refine⟨_,_,rfl,by simp;rfl,?_⟩;have:=k [.dead]
  simpa using this
 refine zle (fun m σ s=>∃j:Nat,m=e - j/\σ=[some (.int e),some (.int lo),some (.int hi),some (.ref st.length),some (.int j)]/\In e j/\s=st++[.lst ((subL e lo hi j).map dN)]) (k:=e) ⟨0,rfl,rfl,zzf e,rfl⟩ (by lia) ?_;rintro m σ s ⟨j,rfl,rfl,hj,rfl⟩;simp only[W,V,Dd.N];have hle:=hj.le;split
 ·rename_i hh;unfold zkz;refine zbdy (R:=fun fl s=>fl=.nx [some (.int e),some (.int lo),some (.int hi),some (.ref st.length),some (.int j)]/\s=st++[.lst ((subL e lo hi j++(if lo<=j then[j] else[])).map dN)]) ?_ ?_
  ·simp only[W,V,M,Dd.N];split
   ·rename_i c;have hlen:=zik e lo hi j;refine⟨_,_,rfl,by simp;rfl,_,_,rfl,by simp;rfl,by rw[xbc];exact smallT _ (by lia),?_⟩;simp[dN,c]
   ·rename_i c;simp[c]
  ·rintro fl s ⟨rfl,rfl⟩;simp only[W,V,L];split
   ·rename_i c;have c':j=e:=by lia
    subst c';have:=fin (subL j lo hi j++(if lo<=j then[j] else[])) (some (.int j)) (zrb hh).symm;simp only[W,V] at this;exact this
   ·rename_i c;have lt:j < e:=by lia
    have g:=zbga lt;have g2:=zbkw e j;refine⟨trivial,trivial,e - nxt e j,by lia,nxt e j,rfl,?_,zbkx e j,?_⟩
    ·rw[zbfz lt]
    ·rw[zvv hj lt hh]
 ·rename_i hh;have:=fin (subL e lo hi j) (some (.int j)) (zob hj (by lia)).symm;simp only[W,V] at this;exact this
end
noncomputable abbrev Pt:=List Int×Int
noncomputable def ptD (p:Pt):D:=.tup [aL p.1,.int p.2]
noncomputable def letJ (e:Nat) (rest:Int) (p:Pt):List Pt:=(sharesL e (p.2 - rest) p.2).map fun j:Nat=>(p.1++[(e:Int)+(j:Int)],p.2 - (j:Int))
noncomputable def letL (e:Nat) (rest:Int) (ps:List Pt):List Pt:=ps.flatMap (letJ e rest)
theorem zbbs (e:Nat)(rest:Int)(p:Pt):(letJ e rest p).length<=e+1:=by
 unfold letJ;rw[xbc];exact zik _ _ _ _
theorem zop (e:Nat)(rest:Int):∀ps:List Pt,(letL e rest ps).length<=ps.length * (e+1)
 | []=>by simp[letL]
 | p::ps=>by
  have e1:letL e rest (p::ps)=letJ e rest p++letL e rest ps:=by simp[letL]
  have:=zop e rest ps;have:=zbbs e rest p;rw[e1,xbl,xcb,xiq];lia
theorem zxb (e:Nat)(rest:Int)(ps:List Pt)(p:Pt):letL e rest (ps++[p])=letL e rest ps++letJ e rest p:=by simp[letL]
theorem zbbp {e:Nat}{rest:Int}{ps:List Pt}{q:Pt}:q∈letL e rest ps↔∃p∈ps,∃j:Nat,j∈sharesL e (p.2 - rest) p.2/\q=(p.1++[(e:Int)+(j:Int)],p.2 - (j:Int)):=by
 unfold letL letJ;simp only[xdx,xce];constructor
 ·rintro⟨p,hp,j,hj,rfl⟩;exact⟨p,hp,j,hj,rfl⟩
 ·rintro⟨p,hp,j,hj,rfl⟩;exact⟨p,hp,j,hj,rfl⟩
section
variable {st:Store}{n:Nat}{Q:D->Store->Prop}
theorem zmu (o o':O)(g:Store):(st++o::g).set st.length o'=st++o'::g:=by simp
theorem zhr (o:O)(g:Store):(st++o::g)[st.length]?=some o:=by simp
theorem zjg {α:Type}{f:α->D}{l:List α}{i:Nat}{x:D}(h:(l.map f)[i]?=some x):∃a,l[i]?=some a/\x=f a:=by
 rw[xcv] at h;obtain⟨a,h1,h2⟩:=xcz.mp h;exact⟨a,h1,h2.symm⟩
theorem zji {e:Nat}{rest:Int}{ps:List Pt}(he:e<=1000)(hl:ps.length * (e+1)<=100000)(hr:∀p∈ps,p.1.length<=1000)(k:∀g,Q (.lst ((letL e rest ps).map ptD)) (st++g)):WP (zbu [.lst (ps.map ptD),.int e,.int rest] st) Q:=by
 refine zhn rfl ?_;simp only[W,V,Dd.N];refine⟨small _ (by simp),?_⟩;refine zdc (fun i σ s=>(∃v w z,σ=[some (.lst (ps.map ptD)),some (.int e),some (.int rest),some (.ref st.length),v,w,z])/\∃g,s=st++(.lst ((letL e rest (ps.take i)).map ptD)::g)) ⟨⟨_,_,_,rfl⟩,[],rfl⟩ ?_ ?_
 ·rintro i y σ s hy ⟨⟨v,w,z,rfl⟩,g,rfl⟩;obtain⟨p,hp,rfl⟩:=zjg hy;have hi:i < ps.length:=(xbf.mp hp).1;refine⟨_,rfl,?_⟩;unfold zdq;simp only[W,V,Dd.N];have hlen:(letL e rest (ps.take i)).length+(e+1)<=100000:=by
   have h1:=zop e rest (ps.take i);have h2:(ps.take i).length=i:=by rw[xcq];lia
   rw[h2] at h1;have h3:(i+1) * (e+1)<=ps.length * (e+1):=xen _ hi;rw[xiq] at h3;lia
  refine zwa (by lia) fun g2=>?_
  simp only[W,V,Dd.N];rw[xci,xjk];generalize g++g2=g3;have hsl:(sharesL e (p.2 - rest) p.2).length<=e+1:=zik _ _ _ _;refine zdc (fun j σ s=>(∃z,σ=[some (.lst (ps.map ptD)),some (.int e),some (.int rest),some (.ref st.length),some (aL p.1),some (.int p.2),z])/\s=st++(.lst ((letL e rest (ps.take i)++((sharesL e (p.2 - rest) p.2).take j).map fun j:Nat=>(p.1++[(e:Int)+j],p.2 - (j:Int))).map ptD)::g3)) ⟨⟨_,rfl⟩,by simp⟩ ?_ ?_
  ·rintro j y σ s hy ⟨⟨z,rfl⟩,rfl⟩;obtain⟨a,ha,rfl⟩:=zjg hy;refine⟨_,rfl,?_⟩;unfold zdr dN;simp only[W,V,M,Dd.N,L];have h2:((sharesL e (p.2 - rest) p.2).take j).length<=(sharesL e (p.2 - rest) p.2).length:=by rw[xcq];exact xfn _ _
   have h3:=hr p (xbq hp);refine⟨_,_,rfl,zhr _ _,small _ (by simp),by rw[xbc];exact small _ (by simp;lia),small _ (by simp),_,_,rfl,zhr _ _,by rw[xbc,xbl,xbc];exact smallT _ (by lia),⟨_,rfl⟩,?_⟩;rw[zmu,zm ha];simp[ptD,aL]
  ·rintro σ s ⟨⟨z,rfl⟩,rfl⟩;simp only[L];refine⟨⟨_,_,_,rfl⟩,g3,?_⟩;rw[xbc,xby,zm hp,zxb]
   rfl
 ·rintro σ s ⟨⟨v,w,z,rfl⟩,g,rfl⟩;rw[xbc,xby];simp only[W,V,M,Dd.N];refine⟨_,_,rfl,zhr _ _,?_⟩;rw[zmu];exact k _
noncomputable def stepP (s:Int×List Pt) (e:Int):Int×List Pt:=(s.1 - e,letL e.toNat (s.1 - e) s.2)
noncomputable def prodS (r:List Int) (k:Int) (m:List Int):Int×List Pt:=m.foldl stepP (r.sum,[([],k)])
noncomputable def prodP (r:List Int) (k:Int):List (List Int):=(prodS r k r).2.map (·.1)
noncomputable def box:List Int->Nat
 | []=>1
 | e::r=>(e.toNat+1) * box r
theorem zdn:∀a b:List Int,box (a++b)=box a * box b
 | [],b=>by simp[box]
 | e::a,b=>by rw[xjk,box,box,zdn a b,Nat.mul_assoc]
theorem zzv:∀a:List Int,1<=box a
 | []=>xbe _
 | e::a=>by have:=zzv a;unfold box;exact xbb this (xje _ (by lia))
theorem zut (r:List Int)(i:Nat):box (r.take i)<=box r:=by
 have e:=zdn (r.take i) (r.drop i);rw[xei] at e;rw[e];exact Nat.le_mul_of_pos_right _ (zzv _)
theorem zmy (r:List Int)(k:Int)(m:List Int)(e:Int):prodS r k (m++[e])=stepP (prodS r k m) e:=by unfold prodS;rw[xhy];rfl
theorem zpu {r:List Int}{k:Int}{P:List Int->Int×List Pt->Prop}(h0:P [] (r.sum,[([],k)]))(h:∀m e s,P m s->P (m++[e]) (stepP s e)):∀(i:Nat),P (r.take i) (prodS r k (r.take i)):=fun i=>by
 induction i with
 | zero=>exact h0
 | succ i ih =>
  by_cases c:i < r.length
  ·have g:r[i]?=some r[i]:=xbi c;rw[zm g,zmy];exact h _ _ _ ih
  ·rw[xdn (by lia)] at ih ⊢;exact ih
theorem zlj (r:List Int)(k:Int)(i:Nat):(prodS r k (r.take i)).2.length<=box (r.take i):=by
 refine zpu (P:=fun m s=>s.2.length<=box m) (by simp[box]) (fun m e s hs=>?_) i;have:=zop e.toNat (s.1 - e) s.2;rw[zdn];show(letL e.toNat (s.1 - e) s.2).length<=box m * ((e.toNat+1) * 1)
 rw[Nat.mul_one];exact xbb this (xen _ hs)
theorem zwh (r:List Int)(k:Int)(i:Nat):∀p∈(prodS r k (r.take i)).2,p.1.length=(r.take i).length:=by
 refine zpu (P:=fun m s=>∀p∈s.2,p.1.length=m.length) (by simp) (fun m e s hs=>?_) i;intro q hq;obtain⟨p,hp,j,hj,rfl⟩:=zbbp.mp hq;rw[xbl,xbl,hs p hp]
 rfl
theorem zhu {r:List Int}{t:Int}(hp:∀x∈r,0<=x/\x<=1000)(hl:r.length<=1000)(hb:box r<=20000)(k:∀g,Q (.lst (aJ (prodP r t))) (st++g)):WP (zbk [aL r,.int t] st) Q:=by
 refine zhn rfl ?_;simp only[W,V,M,Dd.N];refine⟨small _ (by simp),small _ (by simp),small _ (by simp),r,zdo r,?_⟩;refine zdc (fun i σ s=>(∃v,σ=[some (aL r),some (.int t),some (.lst ((prodS r t (r.take i)).2.map ptD)),some (.int (prodS r t (r.take i)).1),v])/\∃g,s=st++g) ⟨⟨_,rfl⟩,[],by simp⟩ ?_ ?_
 ·rintro i y σ s hy ⟨⟨v,rfl⟩,g,rfl⟩;obtain⟨e,he,rfl⟩:=zjg hy;refine⟨_,rfl,?_⟩;unfold zcz;obtain⟨h1,h2⟩:=hp e (xbq he);simp only[W,V,M,Dd.N,L];refine⟨_,rfl,?_⟩;have hlen:=zlj r t i;have hbx:=zut r (i+1);rw[zm he,zdn,show box [e]=e.toNat+1 by simp[box]] at hbx;have hm:(prodS r t (r.take i)).2.length * (e.toNat+1)<=20000:=xbb (xen _ hlen) (xbb hbx hb);have hrow:=zwh r t i;rw[zm he,zmy];generalize prodS r t (r.take i)=s at hm hrow ⊢;obtain⟨a,rfl⟩:=xgb h1;refine zji (e:=a) (by lia) (by rw[xdu] at hm;lia) (fun p hp=>?_) fun g2=>?_
  ·rw[hrow p hp,xcq];lia
  ·simp only[W,V,L];exact⟨⟨_,rfl⟩,g++g2,by simp⟩
 ·rintro σ s ⟨⟨v,rfl⟩,g,rfl⟩;rw[xbc,xby];simp only[W,V,M,Dd.N];have hlen:=zlj r t r.length;rw[xby] at hlen;refine⟨by rw[xbc];exact small _ (by lia),?_⟩;refine zlf (as:=(prodS r t r).2) (fun σ=>∃v w,σ=[v,w]) (fun _=>true) (fun p=>aL p.1) ptD ⟨_,_,rfl⟩ ?_ ?_
  ·rintro p hp σ ⟨v,w,rfl⟩;exact⟨_,rfl,⟨_,_,rfl⟩,by simp only[W,xgx],fun _=>by simp only[W,V,xgx]⟩
  ·rw[zec];have:=k g;unfold prodP aJ at this;rw[xcr] at this;exact this
theorem zpv (r:List Int)(k:Int):(prodP r k).length<=box r:=by
 have:=zlj r k r.length;rw[xby] at this;unfold prodP;rw[xbc];exact this
noncomputable def raiseR (k:Int) (r:List Int):List (List Int):=if k<=r.sum then prodP r k else[]
noncomputable def raiseL (k:Int) (l:List (List Int)):List (List Int):=l.flatMap (raiseR k)
theorem zmw {k:Int}{r:List Int}{B:Nat}(h:box r<=B):(raiseR k r).length<=B:=by
 unfold raiseR;split
 ·exact xbb (zpv r k) h
 ·simp
theorem zge {k:Int}{B:Nat}:∀{l:List (List Int)},(∀r∈l,box r<=B)->(raiseL k l).length<=l.length * B
 | [],_=>by simp[raiseL]
 | r::l,h=>by
  have e:raiseL k (r::l)=raiseR k r++raiseL k l:=by simp[raiseL]
  have h1:=zmw (k:=k) (h r xbn);have h2:=zge (k:=k) (l:=l) fun x hx=>h x (xbp _ hx)
  rw[e,xbl,xcb,xiq];lia
theorem zko (k:Int)(l:List (List Int))(r:List Int):raiseL k (l++[r])=raiseL k l++raiseR k r:=by simp[raiseL]
theorem zwf {l:List (List Int)}{t:Int}(ht:0<=t)(hp:∀r∈l,∀x∈r,0<=x/\x<=1000)(hr:∀r∈l,r.length<=1000)(hb:∀r∈l,box r<=20000)(hl:l.length<=45)(k:∀g,Q (aK (aO (raiseL t l))) (st++g)):WP (zjv [aK l,.int t] st) Q:=by
 refine zhn rfl ?_;simp only[W,V,Dd.N];refine WP.of (zfd (st:=st) (i:=t)) ⟨true,rfl,?_⟩;have tn:¬ t < 0:=by lia
 simp only[W,V,Dd.N,tn,xfk];have total:(raiseL t l).length<=900000:=by
  have:=zge (k:=t) hb;lia
 refine zdc (fun i σ s=>(∃v w,σ=[some (aK l),some (.int t),some (.ref st.length),v,w])/\∃g,s=st++(.dT (aQ (aN (raiseL t (l.take i))))::g)) ⟨⟨_,_,rfl⟩,[],rfl⟩ ?_ ?_
 ·rintro i y σ s hy ⟨⟨v,w,rfl⟩,g,rfl⟩;obtain⟨r,hrr,rfl⟩:=zbx hy;have hm:=xbq hrr;have hi:i < l.length:=(xbf.mp hrr).1;refine⟨_,rfl,?_⟩;unfold zla;simp only[W,V,M,Dd.N,L];refine⟨r,zdo r,?_⟩;rw[zm hrr,zko];have hlen:(aN (raiseL t (l.take i))).length<=900000:=by
   have h1:=zhk (raiseL t (l.take i));have h2:=zge (k:=t) (l:=l.take i) (B:=20000) fun x hx=>hb x (xfb hx)
   have h3:(l.take i).length=i:=by rw[xcq];lia
   rw[h3] at h2;lia
  split
  ·rename_i c;have er:raiseR t r=prodP r t:=by unfold raiseR;rw[if_pos c]
   rw[er];refine zhu (hp r hm) (hr r hm) (hb r hm) fun g2=>?_
   simp only[W,V,Dd.N];rw[xci,xjk];generalize g++g2=g3;have hpl:=xbb (zpv r t) (hb r hm);refine zdc (fun j σ s=>(∃w,σ=[some (aK l),some (.int t),some (.ref st.length),some (aL r),w])/\s=st++(.dT (aQ (((prodP r t).take j).foldl aP (aN (raiseL t (l.take i)))))::g3)) ⟨⟨_,rfl⟩,rfl⟩ ?_ ?_
   ·rintro j y σ s hy ⟨⟨w,rfl⟩,rfl⟩;obtain⟨b,hb',rfl⟩:=zbx hy;refine⟨_,rfl,?_⟩;unfold zlb;simp only[W,V,L];have h1:=zlz ((prodP r t).take j) (aN (raiseL t (l.take i))) (zgg _);have h2:((prodP r t).take j).length<=(prodP r t).length:=by rw[xcq];exact xfn _ _
    refine zbgu (ks:=((prodP r t).take j).foldl aP (aN (raiseL t (l.take i)))) (zhr _ _) (by lia) ⟨⟨_,rfl⟩,?_⟩;rw[zmu,zm hb',xhy]
    rfl
   ·rintro σ s ⟨⟨w,rfl⟩,rfl⟩;simp only[L];refine⟨⟨_,_,rfl⟩,g3,?_⟩;rw[zi,xby];unfold aN;rw[xhy]
  ·rename_i c;have er:raiseR t r=[]:=by unfold raiseR;rw[if_neg c]
   rw[er,xdp]
   try simp only[L]
   exact⟨⟨_,_,rfl⟩,g,rfl⟩
 ·rintro σ s ⟨⟨v,w,rfl⟩,g,rfl⟩;rw[zi,xby];simp only[W,V];have h1:=zhk (raiseL t l);refine zvy (ks:=aN (raiseL t l)) (zhr _ _) (by lia) ?_;simp only[W,V];exact k _
end
theorem ztg:∀{r:List Int},(∀x∈r,0<=x)->0<=r.sum
 | [],_=>by simp
 | x::r,h=>by
  have:=ztg (r:=r) fun y hy=>h y (xbp _ hy)
  have:=h x xbn;rw[xgw];lia
theorem zbja:∀{r:List Int},(∀x∈r,0<=x)->∀x∈r,x<=r.sum
 | [],_,_,h=>nomatch h
 | y::r,h,x,hx=>by
  have h1:=fun z hz=>h z (xbp y hz)
  have h2:=ztg h1;have h3:=h y xbn;rw[xgw];rcases xbx.mp hx with rfl | hx
  ·lia
  ·have:=zbja h1 x hx;lia
theorem zvw (e:Int)(suf:List Int)(ps:List Pt):(e::suf).foldl stepP ((e::suf).sum,ps)=suf.foldl stepP (suf.sum,letL e.toNat suf.sum ps):=by
 rw[xhq,xgw];unfold stepP;dsimp only;rw[show e+suf.sum - e=suf.sum by lia]
theorem zzu:∀{r:List Int},(∀x∈r,x<=24)->box r<=25 ^ r.length
 | [],_=>xbe _
 | e::r,h=>by
  have h1:=h e xbn;have h2:=zzu (r:=r) fun x hx=>h x (xbp _ hx)
  rw[xcb,xli,Nat.mul_comm];exact Nat.mul_le_mul (by lia) h2
theorem zzt:∀{r:List Int},(∀x∈r,0<=x)->box r<=2 ^ r.sum.toNat
 | [],_=>by simp[box]
 | e::r,h=>by
  have h1:=h e xbn;have h1':=fun x hx=>h x (xbp e hx)
  have h2:=zzt h1';have h3:=ztg h1';rw[xgw,show(e+r.sum).toNat=e.toNat+r.sum.toNat by lia,Nat.pow_add];exact Nat.mul_le_mul (Nat.succ_le_of_lt Nat.lt_two_pow_self) h2
section
variable {st:Store}{n:Nat}{Q:D->Store->Prop}
end
end Dd
namespace K13
end K13
namespace Dd
open PySem L2 K13
theorem zfy {f:SE}{g:SA}{σ:DS}{st:Store}{Q:D->Store->Prop}:WP (eExtend f g σ st) Q=WP (f σ st) (fun x st1=>∃n xs0,x=.ref n/\st1[n]?=some (.lst xs0)/\WP (g σ st1) (fun ys st2=>∃y xs zs,ys=[y]/\st2[n]?=some (.lst xs)/\asL st2 y=some zs/\xs.length+zs.length<=sizeLine/\Q .non (st2.set n (.lst (xs++zs))))):=by
 rw[zxn,zj]
 congr
 funext x st1
 apply propext;constructor
 ·intro q;split at q
  ·rename_i n xs0 e;rw[zj] at q;have e':st1[n]?=some (.lst xs0):=by
    unfold asL at e;dsimp only at e;split at e
    ·cases e;assumption
    ·cases e
   refine⟨n,xs0,rfl,e',q.mono fun ys st2 h=>?_⟩;split at h
   ·split at h
    ·split at h
     ·exact⟨_,_,_,rfl,by assumption,by assumption,by assumption,h⟩
     ·exact h.elim
    ·exact h.elim
   ·exact h.elim
  ·exact q.elim
 ·rintro⟨n,xs0,rfl,e,q⟩;rw[znp e];dsimp only;rw[zj];refine q.mono fun ys st2 h=>?_
  obtain⟨y,xs,zs,rfl,e2,e3,hl,h⟩:=h;rw[e2];dsimp only;rw[e3];dsimp only;rw[if_pos hl];exact h
section
variable {st:Store}{n:Nat}{Q:D->Store->Prop}
noncomputable def lawJ (e:Nat) (p:Pt):List Pt:=(sharesL e 0 p.2).map fun j:Nat=>(p.1++[(e:Int)+(j:Int)],p.2 - (j:Int))
noncomputable def lawL (e:Nat) (ps:List Pt):List Pt:=ps.flatMap (lawJ e)
theorem ztr (e:Nat)(p:Pt):(lawJ e p).length<=e+1:=by
 unfold lawJ;rw[xbc];exact zik _ _ _ _
theorem zxd (e:Nat)(ps:List Pt)(p:Pt):lawL e (ps++[p])=lawL e ps++lawJ e p:=by simp[lawL]
theorem zos (e:Nat):∀ps:List Pt,(lawL e ps).length<=ps.length * (e+1)
 | []=>by simp[lawL]
 | p::ps=>by
  have e1:lawL e (p::ps)=lawJ e p++lawL e ps:=by simp[lawL]
  have:=zos e ps;have:=ztr e p;rw[e1,xbl,xcb,xiq];lia
theorem zth {e:Nat}{ps:List Pt}{q:Pt}:q∈lawL e ps↔∃p∈ps,∃j:Nat,j∈sharesL e 0 p.2/\q=(p.1++[(e:Int)+(j:Int)],p.2 - (j:Int)):=by
 unfold lawL lawJ;simp only[xdx,xce];constructor
 ·rintro⟨p,hp,j,hj,rfl⟩;exact⟨p,hp,j,hj,rfl⟩
 ·rintro⟨p,hp,j,hj,rfl⟩;exact⟨p,hp,j,hj,rfl⟩
theorem zmt {e:Nat}{left:Int}(h:0<=left):(List.range ((if left < (e:Int) then left else(e:Int))+1).toNat).filter (fun x=>decide (e &&& x=x))=sharesL e 0 left:=by
 have key:∀n:Nat,(n:Int)<=left+1->subL e 0 left n=(List.range n).filter (fun x=>decide (e &&& x=x)):=fun n hn=>by
  unfold subL;refine xgy fun x hx=>?_
  have:=xcp.mp hx;have h1:(0:Int)<=(x:Int):=by lia
  have h2:(x:Int)<=left:=by lia
  simp[h1,h2]
 rw[← key _ (by split<;>lia)];unfold sharesL;split
 ·rename_i c;obtain⟨k,hk⟩:∃k,e+1=(left+1).toNat+k:=⟨e+1 - (left+1).toNat,by lia⟩
  rw[hk];exact(zhz k fun x h1 h2 z=>by lia).symm
 ·rw[show((e:Int)+1).toNat=e+1 by lia]
end
noncomputable def lawStep (ps:List Pt) (e:Int):List Pt:=lawL e.toNat ps
noncomputable def lawS (k:Int) (m:List Int):List Pt:=m.foldl lawStep [([],k)]
noncomputable def lawP (k:Int) (r:List Int):List (List Int):=((lawS k r).filter fun p=>decide (p.2=0)).map (·.1)
theorem zsl {e:Nat}{left S:Int}(h:0<=left):(sharesL e 0 left).filter (fun j:Nat=>decide (left - (j:Int)<=S))=sharesL e (left - S) left:=by
 unfold sharesL subL;rw[xkp];refine xgy fun x _=>?_
 rw[← xjz];exact xgi.mpr ⟨fun h=>⟨h.2.1,by lia,h.2.2.2⟩,fun h=>⟨by lia,h.1,by lia,h.2.2⟩⟩
theorem zxc {e:Nat}{S:Int}{p:Pt}(h:¬ p.2<=e+S):letJ e S p=[]:=by
 unfold letJ;have:sharesL e (p.2 - S) p.2=[]:=by
  refine xka.mpr fun j hj=>?_
  obtain⟨h1,h2,h3⟩:=zdk.mp hj;have:=h1.le;lia
 rw[this]
 rfl
theorem zbbw {e:Nat}{S:Int}{p:Pt}(h:0<=p.2):(lawJ e p).filter (fun q=>decide (q.2<=S))=letJ e S p:=by
 unfold lawJ letJ;rw[xjx,← zsl h]
 rfl
theorem ztq {e:Nat}{S:Int}:∀{ps:List Pt},(∀p∈ps,0<=p.2)->(lawL e ps).filter (fun q=>decide (q.2<=S))=letL e S (ps.filter fun p=>decide (p.2<=e+S))
 | [],_=>rfl
 | p::ps,h=>by
  have ih:=ztq (e:=e) (S:=S) (ps:=ps) fun q hq=>h q (xbp _ hq)
  have e1:lawL e (p::ps)=lawJ e p++lawL e ps:=by simp[lawL]
  rw[e1,xfs,ih,zbbw (h p xbn)];by_cases c:p.2<=e+S
  ·rw[xcu (by simpa using c)];simp[letL]
  ·rw[xdd (by simpa using c),zxc c]
   rfl
theorem zqn:∀(suf:List Int) (ps:List Pt),(∀x∈suf,0<=x)->(∀p∈ps,0<=p.2)->(suf.foldl lawStep ps).filter (fun p=>decide (p.2=0))=(suf.foldl stepP (suf.sum,ps.filter fun p=>decide (p.2<=suf.sum))).2
 | [],ps,_,h=>by
  show ps.filter _=ps.filter _;refine xgy fun p hp=>?_
  have:=h p hp;exact xgi.mpr ⟨fun z=>by simp;lia,fun z=>by simp at z;lia⟩
 | e::suf,ps,hs,h=>by
  have h1:=fun z hz=>hs z (xbp e hz)
  have h3:=hs e xbn;rw[zvw,xhq,zqn suf (lawStep ps e) h1 (fun q hq=>?_)]
  ·unfold lawStep;rw[ztq h,xgw,show((e.toNat:Nat):Int)=e by lia]
  ·obtain⟨p,hp,j,hj,rfl⟩:=zth.mp hq;obtain⟨j1,j2,j3⟩:=zdk.mp hj;dsimp only;lia
theorem zpp:∀(suf:List Int) (t:Int),(suf.foldl stepP (t,[])).2=[]
 | [],_=>rfl
 | e::suf,t=>by
  rw[xhq];exact zpp suf (t - e)
theorem zzb {r:List Int}{k:Int}(h:∀x∈r,0<=x)(hk:0<=k):lawP k r=raiseR k r:=by
 unfold lawP lawS;rw[zqn r [([],k)] h (fun p hp=>by rw[xck.mp hp];exact hk)];unfold raiseR;by_cases c:k<=r.sum
 ·rw[if_pos c,xcu (by simpa using c)]
  rfl
 ·rw[if_neg c,xdd (by simpa using c)];show(r.foldl stepP (r.sum,[])).2.map _=[]
  rw[zpp]
  rfl
theorem zlv (k:Int)(m:List Int)(e:Int):lawS k (m++[e])=lawStep (lawS k m) e:=by unfold lawS;rw[xhy];rfl
theorem ztp {k:Int}{P:List Int->List Pt->Prop}(h0:P [] [([],k)])(h:∀m e s,P m s->P (m++[e]) (lawStep s e))(r:List Int):∀(i:Nat),P (r.take i) (lawS k (r.take i)):=fun i=>by
 induction i with
 | zero=>exact h0
 | succ i ih =>
  by_cases c:i < r.length
  ·have g:r[i]?=some r[i]:=xbi c;rw[zm g,zlv];exact h _ _ _ ih
  ·rw[xdn (by lia)] at ih ⊢;exact ih
theorem zto (r:List Int)(k:Int)(i:Nat):(lawS k (r.take i)).length<=box (r.take i):=by
 refine ztp (P:=fun m s=>s.length<=box m) (by simp[box]) (fun m e s hs=>?_) r i;have:=zos e.toNat s;rw[zdn];show(lawL e.toNat s).length<=box m * ((e.toNat+1) * 1)
 rw[Nat.mul_one];exact xbb this (xen _ hs)
theorem zbbu (r:List Int){k:Int}(hk:0<=k)(i:Nat):∀p∈lawS k (r.take i),p.1.length=(r.take i).length/\0<=p.2:=by
 refine ztp (P:=fun m s=>∀p∈s,p.1.length=m.length/\0<=p.2) (by simpa using hk) (fun m e s hs=>?_) r i;intro q hq;obtain⟨p,hp,j,hj,rfl⟩:=zth.mp hq;obtain⟨j1,j2,j3⟩:=zdk.mp hj;obtain⟨h1,h2⟩:=hs p hp;dsimp only;rw[xbl,xbl,h1];exact⟨rfl,by lia⟩
section
variable {st:Store}{n:Nat}{Q:D->Store->Prop}
end
end Dd
namespace K08
end K08
namespace Dd
open PySem L2 K13
noncomputable def outL (e:Nat):List Int:=(sharesL e 0 e).map fun j:Nat=>(e:Int)+(j:Int)
noncomputable def longL (rows:List (List Int)) (xs:List Int):List (List Int):=rows.flatMap fun row=>xs.map fun x=>row++[x]
noncomputable def wholeStep (rows:List (List Int)) (e:Int):List (List Int):=longL rows (outL e.toNat)
noncomputable def wholeS (m:List Int):List (List Int):=m.foldl wholeStep [[]]
theorem zdg (m:List Int)(e:Int):wholeS (m++[e])=wholeStep (wholeS m) e:=by unfold wholeS;rw[xhy];rfl
theorem zra {e:Nat}{left:Int}:(sharesL e 0 e).filter (fun j:Nat=>decide ((j:Int)<=left))=sharesL e 0 left:=by
 unfold sharesL subL;rw[xkp];refine xgy fun x hx=>?_
 have:=xcp.mp hx;rw[← xjz];exact xgi.mpr ⟨fun h=>⟨h.2.1,h.2.2.1,h.1⟩,fun h=>⟨h.2.2,h.1,h.2.1,by lia⟩⟩
noncomputable def fitP (k M:Int) (rows:List (List Int)):List Pt:=(rows.filter fun row=>decide (row.sum - M<=k)).map fun row=>(row,k - (row.sum - M))
theorem ztz {k M:Int}{e:Nat}:∀rows:List (List Int),fitP k (M+e) (longL rows (outL e))=lawL e (fitP k M rows)
 | []=>rfl
 | row::rows=>by
  have ih:=ztz (k:=k) (M:=M) (e:=e) rows;have e1:longL (row::rows) (outL e)=((outL e).map fun x=>row++[x])++longL rows (outL e):=by simp[longL]
  have e2:fitP k (M+e) (longL (row::rows) (outL e))=fitP k (M+e) ((outL e).map fun x=>row++[x])++fitP k (M+e) (longL rows (outL e)):=by
   rw[e1];unfold fitP;rw[xfs,xfx]
  have e3:fitP k (M+e) ((outL e).map fun x=>row++[x])=(sharesL e 0 (k - (row.sum - M))).map fun j:Nat=>(row++[(e:Int)+(j:Int)],k - (row.sum - M) - (j:Int)):=by
   unfold fitP outL;rw[xcr,xjx,xcr,show sharesL e 0 (k - (row.sum - M))=_ from zra.symm];have e4:∀j:Nat,(row++[(e:Int)+(j:Int)]).sum - (M+e)=row.sum - M+j:=fun j=>by rw[xfj];simp;lia
   have e5:(sharesL e 0 e).filter ((fun r:List Int=>decide (r.sum - (M+e)<=k)) ∘ ((fun x=>row++[x]) ∘ fun j:Nat=>(e:Int)+(j:Int)))=(sharesL e 0 e).filter fun j:Nat=>decide ((j:Int)<=k - (row.sum - M)) :=
    xgy fun j _=>by
     show decide ((row++[(e:Int)+(j:Int)]).sum - (M+e)<=k)=_;rw[e4];exact xgi.mpr ⟨fun h=>by lia,fun h=>by lia⟩
   rw[e5];refine xke fun j _=>?_
   show(row++[(e:Int)+(j:Int)],k - ((row++[(e:Int)+(j:Int)]).sum - (M+e)))=_;rw[e4]
   congr 1
   lia
  rw[e2,ih,e3];by_cases c:row.sum - M<=k
  ·have e6:fitP k M (row::rows)=(row,k - (row.sum - M))::fitP k M rows:=by
    unfold fitP;rw[xcu (by simpa using c)]
    rfl
   rw[e6];simp[lawL,lawJ]
  ·have e6:fitP k M (row::rows)=fitP k M rows:=by
    unfold fitP;rw[xdd (by simpa using c)]
   have e7:sharesL e 0 (k - (row.sum - M))=[]:=xka.mpr fun j hj=>by
    obtain⟨_,h2,h3⟩:=zdk.mp hj;lia
   rw[e6,e7]
   rfl
theorem zbbv {r:List Int}{k:Int}(h:∀x∈r,0<=x)(hk:0<=k):∀i:Nat,lawS k (r.take i)=fitP k (r.take i).sum (wholeS (r.take i)):=fun i=>by
 induction i with
 | zero =>
  show[([],k)]=fitP k 0 [[]];unfold fitP;rw[xcu (by simpa using hk)];simp
 | succ i ih =>
  by_cases c:i < r.length
  ·have g:r[i]?=some r[i]:=xbi c;have h0:=h r[i] (xds c);rw[zm g,zlv,zdg,ih];unfold lawStep wholeStep;rw[← ztz,xfj,show(r.take i).sum+[r[i]].sum=(r.take i).sum+(r[i].toNat:Int) by simp;lia]
  ·rw[xdn (by lia)] at ih ⊢;exact ih
theorem zmx {r:List Int}{k:Int}(h:∀x∈r,0<=x)(hk:0<=k):raiseR k r=(wholeS r).filter fun m=>decide (m.sum=r.sum+k):=by
 have e:=zbbv h hk r.length;rw[xby] at e;rw[← zzb h hk];unfold lawP;rw[e];unfold fitP;rw[xjx,xcr,xkp];have:∀l:List (List Int),l.map ((fun p:Pt=>p.1) ∘ fun row=>(row,k - (row.sum - r.sum)))=l:=fun l=>by
  show l.map (fun row=>row)=l;exact List.map_id l
 rw[this];refine xgy fun m _=>?_
 show(decide (k - (m.sum - r.sum)=0)&&decide (m.sum - r.sum<=k))=_;rw[← xjz];exact xgi.mpr ⟨fun h=>by lia,fun h=>by lia⟩
theorem zml {r:List Int}(h:∀x∈r,0<=x):∀(i:Nat),∀m∈wholeS (r.take i),(r.take i).sum<=m.sum/\m.sum<=2 * (r.take i).sum:=fun i=>by
 induction i with
 | zero=>intro m hm;rw[xck.mp (show m∈[[]] from hm)];simp
 | succ i ih =>
  by_cases c:i < r.length
  ·have g:r[i]?=some r[i]:=xbi c;have h0:=h r[i] (xds c);intro m hm;rw[zm g,zdg] at hm;unfold wholeStep longL outL at hm;obtain⟨row,hrow,hm⟩:=xdx.mp hm;rw[xcr] at hm;obtain⟨j,hj,rfl⟩:=xce.mp hm;obtain⟨j1,j2,j3⟩:=zdk.mp hj;obtain⟨a,b⟩:=ih row hrow;rw[zm g];simp only[Function.comp,xfj,xgw,List.sum_nil];lia
  ·rw[xdn (by lia)] at ih ⊢;exact ih
theorem zum (a:List (List Int))(x:List Int):(aO a).count x % 2=a.count x % 2:=by
 have nd:=zjd a;have mm:x∈aO a↔a.count x % 2=1:=by unfold aO;rw[(zdi _).mem_iff,zlp]
 by_cases c:x∈aO a
 ·have h1:(aO a).count x<=1:=List.nodup_iff_count.mp nd x;have h2:0 < (aO a).count x:=xip.mpr c;have:=mm.mp c;lia
 ·have h1:(aO a).count x=0:=xhr.mpr c;have:¬ a.count x % 2=1:=fun z=>c (mm.mpr z)
  lia
theorem zvk {P:List Int->List (List Int)->Prop}(h0:P [] [[]])(h:∀m e s,P m s->P (m++[e]) (wholeStep s e))(r:List Int):∀(i:Nat),P (r.take i) (wholeS (r.take i)):=fun i=>by
 induction i with
 | zero=>exact h0
 | succ i ih =>
  by_cases c:i < r.length
  ·have g:r[i]?=some r[i]:=xbi c;rw[zm g,zdg];exact h _ _ _ ih
  ·rw[xdn (by lia)] at ih ⊢;exact ih
theorem zsc (r:List Int)(i:Nat):∀m∈wholeS (r.take i),m.length=(r.take i).length:=by
 refine zvk (P:=fun m s=>∀x∈s,x.length=m.length) (by simp) (fun m e s hs=>?_) r i;intro x hx;unfold wholeStep longL at hx;obtain⟨row,h1,hx⟩:=xdx.mp hx;obtain⟨y,h2,rfl⟩:=xce.mp hx;rw[xbl,xbl,hs row h1]
 rfl
section
variable {st:Store}{n:Nat}{Q:D->Store->Prop}
end
noncomputable abbrev Row:=List Int
noncomputable def tot {α:Type} (l:List α) (c:α->Nat):Nat:=(l.map c).sum
theorem znu {α:Type}(a:α)(l:List α)(c:α->Nat):tot (a::l) c=c a+tot l c:=by simp[tot]
theorem zsi {α:Type}(a b:List α)(c:α->Nat):tot (a++b) c=tot a c+tot b c:=by simp[tot]
theorem zbah {α:Type}{a b:List α}(h:a.Perm b)(c:α->Nat):tot a c=tot b c:=(h.map c).sum_nat
theorem zsh (c:Row->Nat):∀(n:Nat) (l:List Row),l.length<=n->(∀x,l.count x % 2=0)->tot l c % 2=0
 | _,[],_,_=>rfl
 | 0,_::_,h,_=>by simp at h
 | n+1,y::l,hn,h=>by
  have h1:=h y;rw[List.count_cons_self] at h1;have hy:y∈l:=xip.mp (by lia);have p:=List.perm_cons_erase hy;have ih:=zsh c n (l.erase y) (by rw[List.length_erase_of_mem hy];simp at hn;lia) fun x=>by
   have h2:=h x;rw[xln,p.count_eq,xln] at h2;split at h2<;>lia
  rw[znu,zbah p,znu];lia
theorem zbeh {a b:List Row}(c:Row->Nat)(h:∀x,a.count x % 2=b.count x % 2):tot a c % 2=tot b c % 2:=by
 have:=zsh c _ (a++b) (xbe _) fun x=>by rw[xhx];have:=h x;lia
 rw[zsi] at this;lia
theorem zkf {r:Row}(h:∀x∈r,0<=x):∀m∈wholeS r,r.sum<=m.sum/\m.length=r.length:=fun m hm=>by
 have h1:=zml h r.length m (by rw[xby];exact hm);have h2:=zsc r r.length m (by rw[xby];exact hm);rw[xby] at h1 h2;exact⟨h1.1,h2⟩
noncomputable def xr {α:Type} (l:List α) (f:α->Nat):Nat:=l.foldr (fun x b=>f x ^^^ b) 0
section
variable {α β:Type}{f g:α->Nat}{l:List α}
theorem zco (x:α):xr (x::l) f=f x ^^^ xr l f:=rfl
theorem zhy:∀(l m:List α),xr (l++m) f=xr l f ^^^ xr m f
 | [],m=>(xie _).symm
 | x::l,m=>by rw[xjk,zco,zco,zhy l m,xdt]
theorem zvh (h:β->α):∀l:List β,xr (l.map h) f=xr l fun x=>f (h x)
 | []=>rfl
 | x::l=>by rw[xbt,zco,zco,zvh h l]
theorem zyj (h:β->List α):∀l:List β,xr (l.flatMap h) f=xr l fun x=>xr (h x) f
 | []=>rfl
 | x::l=>by rw[xlc,zhy,zco,zyj h l]
theorem zbd:∀{l:List α},(∀x∈l,f x=g x)->xr l f=xr l g
 | [],_=>rfl
 | x::l,h=>by rw[zco,zco,h x (xbn ..),zbd fun y hy=>h y (xbp _ hy)]
theorem zkc:∀l:List α,xr l (fun _=>0)=0
 | []=>rfl
 | x::l=>by rw[zco,zkc l];rfl
theorem xor4' (a b c d:Nat):(a ^^^ b) ^^^ (c ^^^ d)=(a ^^^ c) ^^^ (b ^^^ d):=by
 rw[xdt,xdt,← xdt b,← xdt c,Nat.xor_comm b c]
theorem zlc:∀l:List α,xr l (fun x=>f x ^^^ g x)=xr l f ^^^ xr l g
 | []=>by show 0=0 ^^^ 0;rw[xgm]
 | x::l=>by rw[zco,zco,zco,zlc l,xor4']
theorem zld (p:α->Bool):∀l:List α,xr (l.filter p) f=xr l fun x=>if p x=true then f x else 0
 | []=>rfl
 | x::l=>by
  rw[zco,← zld p l];by_cases c:p x=true
  ·rw[xcu c,zco,if_pos c]
  ·rw[xdd c,if_neg c,xie]
theorem xif (p q:Bool)(z:Nat):(if p=true then z else 0) ^^^ (if q=true then z else 0)=if Bool.xor p q=true then z else 0:=by
 cases p<;>cases q<;>simp
theorem zvf (f:Nat->Nat)(N:Nat):xr (List.range (N+1)) f=f 0 ^^^ xr (List.range N) fun c=>f (c+1):=by
 rw[List.range_succ_eq_map,zco,zvh]
theorem zbac (f:Nat->Nat)(N:Nat):xr (List.range (N+1)) f=xr (List.range N) f ^^^ f N:=by
 rw[xij,zhy];show _ ^^^ (f N ^^^ 0)=_;rw[xev]
end
noncomputable def sb (e j:Nat):Bool:=decide (e &&& j=j)
theorem zso (e j:Nat):sb e j=(sb (e / 2) (j / 2)&&decide (j % 2<=e % 2)):=by
 unfold sb;rw[← xjz];refine xgi.mpr ?_;have h1:(e &&& j) / 2=e / 2 &&& j / 2:=xjy;have h2:(e &&& j) % 2=1↔e % 2=1/\j % 2=1:=Nat.and_mod_two_eq_one;constructor
 ·intro h;rw[h] at h1 h2;exact⟨h1.symm,by lia⟩
 ·intro⟨a,b⟩;lia
theorem zir (e:Nat):sb e 0=true:=by simp[sb]
theorem zsp {e j:Nat}(h:e < j):sb e j=false:=by
 refine xbv fun z=>?_
 have:e &&& j<=e:=Nat.and_le_left;lia
theorem pas:∀e j:Nat,sb (e+1) (j+1)=Bool.xor (sb e (j+1)) (sb e j)
 | 0,j=>by
  by_cases c:j=0
  ·subst c;decide
  ·rw[zsp (e:=0+1) (by lia),zsp (e:=0) (by lia),zsp (e:=0) (j:=j) (by lia)];rfl
 | e+1,j=>by
  rw[zso (e+1+1),zso (e+1),zso (e+1)];have hlt:(e+1) / 2 < e+1:=by lia
  by_cases c:(e+1) % 2=0
  ·rw[show(e+1+1) / 2=(e+1) / 2 by lia];by_cases d:j % 2=0
   ·rw[show(j+1) / 2=j / 2 by lia,xbu (show(j+1) % 2<=(e+1+1) % 2 by lia),xbv (show ¬ (j+1) % 2<=(e+1) % 2 by lia),xbu (show j % 2<=(e+1) % 2 by lia)];simp
   ·rw[xbu (show(j+1) % 2<=(e+1+1) % 2 by lia),xbu (show(j+1) % 2<=(e+1) % 2 by lia),xbv (show ¬ j % 2<=(e+1) % 2 by lia)];simp
  ·obtain⟨p,hp⟩:∃p,(e+1) / 2=p:=⟨_,rfl⟩
   rw[show(e+1+1) / 2=(e+1) / 2+1 by lia,hp];have:=pas p;by_cases d:j % 2=0
   ·rw[show(j+1) / 2=j / 2 by lia,xbv (show ¬ (j+1) % 2<=(e+1+1) % 2 by lia),xbu (show(j+1) % 2<=(e+1) % 2 by lia),xbu (show j % 2<=(e+1) % 2 by lia)];simp
   ·rw[show(j+1) / 2=j / 2+1 by lia,xbu (show(j+1) % 2<=(e+1+1) % 2 by lia),xbu (show(j+1) % 2<=(e+1) % 2 by lia),xbu (show j % 2<=(e+1) % 2 by lia)];rw[Bool.and_true,Bool.and_true,Bool.and_true];exact this (j / 2)
 termination_by e _=>e
theorem zvg (e:Nat)(g:Int->Nat):xr (outL e) g=xr (List.range (e+1)) fun j=>if sb e j=true then g ((e:Int)+(j:Int)) else 0:=by
 have h:=zmt (e:=e) (left:=(e:Int)) (by lia);unfold outL;rw[zvh,← h,zld,show((if(e:Int) < (e:Int) then(e:Int) else(e:Int))+1).toNat=e+1 by split<;>lia]
 rfl
theorem zbbj (e:Nat)(g:Int->Nat):xr (outL (e+1)) g=xr (outL e) (fun y=>g (y+1)) ^^^ xr (outL e) (fun y=>g (y+1+1)):=by
 rw[zvg,zvg,zvg,zvf,zvf (fun j=>if sb e j=true then g ((e:Int)+(j:Int)+1) else 0) e];have e1:(xr (List.range (e+1)) fun c=>if sb (e+1) (c+1)=true then g (((e+1:Nat):Int)+((c+1:Nat):Int)) else 0)
   =(xr (List.range (e+1)) fun c=>if sb e (c+1)=true then g ((e:Int)+((c+1:Nat):Int)+1) else 0) ^^^ (xr (List.range (e+1)) fun c=>if sb e c=true then g ((e:Int)+(c:Int)+1+1) else 0):=by
  rw[← zlc];refine zbd fun c _=>?_
  rw[pas,← xif];rw[show((e+1:Nat):Int)+((c+1:Nat):Int)=(e:Int)+((c+1:Nat):Int)+1 by lia];rw[show(e:Int)+((c+1:Nat):Int)+1=(e:Int)+(c:Int)+1+1 by lia]
 rw[e1,zbac (N:=e) (f:=fun c=>if sb e (c+1)=true then g ((e:Int)+((c+1:Nat):Int)+1) else 0),zsp (e:=e) (j:=e+1) (by lia),zir,zir];simp only[xdz,xch,xdo,xev];rw[show((e+1:Nat):Int)+((0:Nat):Int)=(e:Int)+((0:Nat):Int)+1 by lia,xdt]
noncomputable def T (k:Int) (φ:Row->Nat) (m:Row):Nat:=xr (wholeS m) fun x=>if x.sum=m.sum+k then φ x else 0
theorem zvc {k:Int}{φ ψ:Row->Nat}{m:Row}(h:∀x∈wholeS m,φ x=ψ x):T k φ m=T k ψ m:=zbd fun x hx=>by rw[h x hx]
theorem zboj (k:Int)(φ ψ:Row->Nat)(m:Row):T k (fun x=>φ x ^^^ ψ x) m=T k φ m ^^^ T k ψ m:=by
 unfold T;rw[← zlc];refine zbd fun x _=>?_
 by_cases c:x.sum=m.sum+k
 ·rw[if_pos c,if_pos c,if_pos c]
 ·rw[if_neg c,if_neg c,if_neg c,xgm]
theorem zbnj (k:Int)(m:Row):T k (fun _=>0) m=0:=by
 unfold T;rw[zbd (g:=fun _=>0) fun x _=>by split<;>rfl,zkc]
theorem zyh (k:Int)(φ:Row->Nat)(r:Row)(e:Nat):T k φ (r++[(e:Int)])=xr (wholeS r) fun u=>xr (outL e) fun y=>if u.sum+y=r.sum+e+k then φ (u++[y]) else 0:=by
 unfold T;rw[zdg];unfold wholeStep longL;rw[zyj];refine zbd fun u _=>?_
 rw[zvh,xdu];refine zbd fun y _=>?_
 rw[xfj,xfj,xgw,List.sum_nil,xgw,List.sum_nil,Int.add_zero,Int.add_zero]
noncomputable def bump (x:Row):Row:=x.dropLast++[x.getLastD 0+1]
theorem zye (u:Row)(y:Int):bump (u++[y])=u++[y+1]:=by
 unfold bump;rw[List.dropLast_concat];simp
noncomputable def up (φ:Row->Nat):Row->Nat:=fun x=>φ (bump x)
theorem zho (φ:Row->Nat)(u:Row)(y:Int):up φ (u++[y])=φ (u++[y+1]):=by unfold up;rw[zye]
theorem zbdo (k:Int)(φ:Row->Nat)(r:Row)(e:Nat):T k φ (r++[(e:Int)+1])=T k (up φ) (r++[(e:Int)]) ^^^ T (k - 1) (up (up φ)) (r++[(e:Int)]):=by
 rw[show(e:Int)+1=((e+1:Nat):Int) by lia,zyh,zyh,zyh,← zlc];refine zbd fun u _=>?_
 rw[zbbj]
 congr 1
 ·refine zbd fun y _=>?_
  rw[zho];by_cases c:u.sum+y=r.sum+e+k
  ·rw[if_pos c,if_pos (by lia)]
  ·rw[if_neg c,if_neg (by lia)]
 ·refine zbd fun y _=>?_
  rw[zho,zho];by_cases c:u.sum+y=r.sum+e+(k - 1)
  ·rw[if_pos c,if_pos (by lia)]
  ·rw[if_neg c,if_neg (by lia)]
noncomputable def Nn (m:Row):Prop:=∀x∈m,0<=x
theorem zpi {m x:Row}(h:Nn m)(hx:x∈wholeS m):m.sum<=x.sum/\x.sum<=2 * m.sum:=by
 have:=zml h m.length;rw[xby] at this;exact this x hx
theorem zbkp {e:Nat}{y:Int}(h:y∈outL e):(e:Int)<=y:=by
 unfold outL at h;obtain⟨j,_,rfl⟩:=xce.mp h;lia
theorem zie {r x:Row}{e:Nat}(h:x∈wholeS (r++[(e:Int)])):∃u y,x=u++[((y:Nat):Int)]/\u∈wholeS r:=by
 rw[zdg] at h;unfold wholeStep longL at h;obtain⟨u,hu,h⟩:=xdx.mp h;obtain⟨y,hy,rfl⟩:=xce.mp h;rw[xdu] at hy;have:=zbkp hy;exact⟨u,y.toNat,by rw[Int.toNat_of_nonneg (by lia)],hu⟩
theorem zsk {P:Row->Prop}(h0:P [])(h1:∀r,Nn r->P r->P (r++[0]))(h2:∀r (e:Nat),Nn r->P (r++[(e:Int)])->P (r++[(e:Int)+1])):∀m:Row,Nn m->P m:=fun m hm=>by
 suffices h:∀i,i<=m.length->P (m.take i) by have:=h m.length (xbe _);rw[xby] at this;exact this
 intro i
 induction i with
 | zero=>intro _;exact h0
 | succ i ih =>
  intro hi;have g:m[i]?=some m[i]:=xbi (by lia);rw[zm g];have nr:Nn (m.take i):=fun x hx=>hm x (xfb hx)
  have n0:0<=m[i]:=hm _ (xds _);obtain⟨e,he⟩:∃e:Nat,m[i]=(e:Int):=⟨m[i].toNat,by lia⟩
  rw[he];clear g n0 he
  induction e with
  | zero=>exact h1 _ nr (ih (by lia))
  | succ e ie=>rw[show((e+1:Nat):Int)=(e:Int)+1 by lia];exact h2 _ e nr ie
theorem zns:∀m:Row,Nn m->∀x∈wholeS m,Nn x:=fun m hm x hx=>by
 have h:∀i,∀x∈wholeS (m.take i),Nn x:=fun i=>by
  induction i with
  | zero=>intro x hx;rw[xck.mp (show x∈[[]] from hx)];intro y hy;cases hy
  | succ i ih =>
   by_cases c:i < m.length
   ·have g:m[i]?=some m[i]:=xbi c;have n0:0<=m[i]:=hm _ (xds c);obtain⟨e,he⟩:∃e:Nat,m[i]=(e:Int):=⟨m[i].toNat,by lia⟩
    intro x hx;rw[zm g,he] at hx;obtain⟨u,y,rfl,hu⟩:=zie hx;intro z hz;rcases xca.mp hz with a | a
    ·exact ih u hu z a
    ·rw[xck.mp a];lia
   ·rw[xdn (by lia)] at ih ⊢;exact ih
 have:=h m.length;rw[xby] at this;exact this x hx
theorem zbje {k:Int}{φ:Row->Nat}{m:Row}(h:Nn m)(hk:k < 0):T k φ m=0:=by
 unfold T;rw[zbd (g:=fun _=>0) fun x hx=>if_neg (by have:=zpi h hx;lia),zkc]
theorem zbnk {k:Int}{φ:Row->Nat}{m:Row}(h:Nn m)(hk:m.sum < k):T k φ m=0:=by
 unfold T;rw[zbd (g:=fun _=>0) fun x hx=>if_neg (by have:=zpi h hx;lia),zkc]
theorem zbdw (k:Int)(φ:Row->Nat):T k φ []=if k=0 then φ [] else 0:=by
 show(if([]:Row).sum=([]:Row).sum+k then φ [] else 0) ^^^ 0=_;rw[xev];by_cases c:k=0
 ·rw[if_pos c,if_pos (by rw[c];rfl)]
 ·rw[if_neg c,if_neg (by simp;lia)]
theorem zjt (k:Int)(φ:Row->Nat)(r:Row):T k φ (r++[0])=T k (fun u=>φ (u++[0])) r:=by
 rw[show(0:Int)=((0:Nat):Int) from rfl,zyh];refine zbd fun u _=>?_
 rw[zvg];show(if sb 0 0=true then(if u.sum+(((0:Nat):Int)+((0:Nat):Int))=r.sum+((0:Nat):Int)+k then φ (u++[((0:Nat):Int)+((0:Nat):Int)]) else 0) else 0) ^^^ 0=_;rw[xev,if_pos (zir 0)];simp
theorem zbok (a b:Int)(φ:Row->Nat)(r:Row)(e:Nat):T b (T a φ) (r++[(e:Int)+1])
  =(T b (T a (up φ)) (r++[(e:Int)]) ^^^ T b (T (a - 1) (up (up φ))) (r++[(e:Int)])) ^^^ (T (b - 1) (T a (up (up φ))) (r++[(e:Int)]) ^^^ T (b - 1) (T (a - 2) (up (up (up (up φ))))) (r++[(e:Int)])):=by
 rw[zbdo,← zboj,← zboj];have one:∀(c:Int) (ψ:Row->Nat) (u:Row) (y:Nat),up (T c ψ) (u++[(y:Int)])=T c (up ψ) (u++[(y:Int)]) ^^^ T (c - 1) (up (up ψ)) (u++[(y:Int)]):=fun c ψ u y=>by rw[zho,zbdo]
 congr 1
 ·refine zvc fun x hx=>?_
  obtain⟨u,y,rfl,_⟩:=zie hx;exact one _ _ _ _
 ·refine zvc fun x hx=>?_
  obtain⟨u,y,rfl,_⟩:=zie hx;have h:up (up (T a φ)) (u++[(y:Int)])=up (T a (up φ)) (u++[(y:Int)]) ^^^ up (T (a - 1) (up (up φ))) (u++[(y:Int)]):=by
   rw[zho,show((y:Int)+1)=((y+1:Nat):Int) by lia,one,zho,zho]
   rfl
  rw[h,one,one,show a - 1 - 1=a - 2 by lia,xdt,← xdt (T (a - 1) (up (up (up φ))) _),xgm,xie]
noncomputable def co (b a:Int) (c:Nat):Bool:=decide (2 * (c:Int)<=a)&&(if(c:Int) < b then sb (b - 1 - c).toNat (a - 2 * c).toNat else decide ((c:Int)=b))
theorem zjo {b a:Int}{c:Nat}(h:a < 2 * (c:Int)):co b a c=false:=by unfold co;rw[xbv (by lia)];rfl
theorem zyb {b a:Int}{c:Nat}(h:b < (c:Int)):co b a c=false:=by
 unfold co;rw[if_neg (by lia),xbv (p:=(c:Int)=b) (by lia),xlq]
theorem zve {b a:Int}{c:Nat}(h1:2 * (c:Int)<=a)(h2:(c:Int) < b):co b a c=sb (b - 1 - c).toNat (a - 2 * c).toNat:=by
 unfold co;rw[xbu h1,if_pos h2,Bool.true_and]
theorem zrt {b a:Int}{c:Nat}(h1:2 * (c:Int)<=a)(h2:(c:Int)=b):co b a c=true:=by
 unfold co;rw[xbu h1,if_neg (by lia),xbu h2];rfl
theorem zbie {b a:Int}{c:Nat}(h:2 * b<=a)(h2:(c:Int) < b):co b a c=false:=by
 rw[zve (by lia) h2,zsp (by lia)]
theorem zbif (b a:Int)(c:Nat):co (b - 1) (a - 2) c=co b a (c+1):=by
 by_cases h:2 * (c:Int)<=a - 2
 ·by_cases g:(c:Int) < b - 1
  ·rw[zve h g,zve (by lia) (by lia),show(b - 1 - ((c+1:Nat):Int)).toNat=(b - 1 - 1 - (c:Int)).toNat by lia,show(a - 2 * ((c+1:Nat):Int)).toNat=(a - 2 - 2 * (c:Int)).toNat by lia]
  ·by_cases g2:(c:Int)=b - 1
   ·rw[zrt h g2,zrt (by lia) (by lia)]
   ·rw[zyb (by lia),zyb (by lia)]
 ·rw[zjo (by lia),zjo (by lia)]
theorem zbms {b a:Int}(h:a<=2 * b - 1)(c:Nat):Bool.xor (co b a c) (co b a (c+1))=Bool.xor (co b (a - 1) c) (co (b - 1) a c):=by
 by_cases h0:a < 2 * (c:Int)
 ·rw[zjo h0,zjo (by lia),zjo (by lia),zjo h0]
 have hc:(c:Int) < b:=by lia
 rw[zve (by lia) hc];by_cases h1:a=2 * (c:Int)
 ·rw[zjo (a:=a) (c:=c+1) (by lia),zjo (a:=a - 1) (by lia),show(a - 2 * (c:Int)).toNat=0 by lia,zir];by_cases g:(c:Int) < b - 1
  ·rw[zve (by lia) g,show(a - 2 * (c:Int)).toNat=0 by lia,zir];rfl
  ·rw[zrt (by lia) (by lia)];rfl
 rw[zve (a:=a - 1) (by lia) hc];by_cases h2:a=2 * (c:Int)+1
 ·rw[zjo (a:=a) (c:=c+1) (by lia),show(a - 2 * (c:Int)).toNat=1 by lia,show(a - 1 - 2 * (c:Int)).toNat=0 by lia,zir];by_cases g:(c:Int) < b - 1
  ·obtain⟨q,hq⟩:∃q:Nat,b - 1 - 1 - (c:Int)=q:=⟨(b - 1 - 1 - (c:Int)).toNat,by lia⟩
   rw[zve (by lia) g,show(a - 2 * (c:Int)).toNat=0+1 by lia,show(b - 1 - 1 - (c:Int)).toNat=q by lia,show(b - 1 - (c:Int)).toNat=q+1 by lia,pas,zir];cases sb q (0+1)<;>rfl
  ·rw[zrt (by lia) (by lia),show(b - 1 - (c:Int)).toNat=0 by lia];rfl
 have g:(c:Int) < b - 1:=by lia
 obtain⟨q,hq⟩:∃q:Nat,b - 1 - 1 - (c:Int)=q:=⟨(b - 1 - 1 - (c:Int)).toNat,by lia⟩
 obtain⟨p,hp⟩:∃p:Nat,a - 2 * (c:Int)=p+2:=⟨(a - 2 * (c:Int) - 2).toNat,by lia⟩
 rw[zve (c:=c+1) (by lia) (by lia),zve (by lia) g,show(b - 1 - (c:Int)).toNat=q+1 by lia,show(b - 1 - 1 - (c:Int)).toNat=q by lia,show(b - 1 - ((c+1:Nat):Int)).toNat=q by lia,
  show(a - 2 * (c:Int)).toNat=p+1+1 by lia,show(a - 1 - 2 * (c:Int)).toNat=p+1 by lia,show(a - 2 * ((c+1:Nat):Int)).toNat=p by lia,pas,pas]
 cases sb q (p+1+1)<;>cases sb q (p+1)<;>cases sb q p<;>rfl
noncomputable def cs (b a:Int) (N:Nat) (φ:Row->Nat) (m:Row):Nat:=xr (List.range N) fun c=>if co b a c=true then T c (T (a+b - c) φ) m else 0
theorem zsa {f:Nat->Nat}{k:Nat}:∀{N:Nat},k < N->(∀c,c≠k->f c=0)->xr (List.range N) f=f k
 | 0,h,_=>by lia
 | N+1,h,z=>by
  rw[zbac];by_cases c:k=N
  ·rw[zbd (g:=fun _=>0) fun x hx=>z x (by have:=xcp.mp hx;lia),zkc,xie,c]
  ·rw[zsa (by lia) z,z N (by lia),xev]
theorem zbhy {b a:Int}{N:Nat}(φ:Row->Nat)(m:Row)(h0:0<=b)(h:2 * b<=a)(h1:a<=2 * b+1)(hN:b < N):cs b a N φ m=T b (T a φ) m:=by
 obtain⟨k,rfl⟩:∃k:Nat,b=k:=⟨b.toNat,by lia⟩
 unfold cs;rw[zsa (k:=k) (by lia) fun c hc=>?_,zrt h rfl,if_pos rfl,show a+(k:Int) - k=a by lia];by_cases g:(c:Int) < k
 ·rw[zbie h g];rfl
 ·rw[zyb (by lia)];rfl
noncomputable def AD (m:Row):Prop:=∀(φ:Row->Nat) (a b:Int) (N:Nat),a<=2 * b+1->b < N->T b (T a φ) m=cs b a N φ m
theorem zbhz {b a:Int}{N:Nat}(φ:Row->Nat)(m:Row)(h:a < 0):cs b a N φ m=0:=by
 unfold cs;rw[zbd (g:=fun _=>0) fun c _=>by rw[zjo (by lia)];rfl,zkc]
theorem zbit {m:Row}(hm:Nn m)(φ:Row->Nat){a b:Int}(h:a < 0):T b (T a φ) m=0:=by
 rw[zvc (ψ:=fun _=>0) fun x hx=>zbje (zns m hm x hx) h,zbnj]
theorem zbis {r:Row}{e:Nat}(hn:Nn (r++[(e:Int)]))(ih:AD (r++[(e:Int)])):AD (r++[(e:Int)+1]):=fun φ a b N h hN=>by
 have hn':Nn (r++[(e:Int)+1]):=fun x hx=>by
  rcases xca.mp hx with z | z
  ·exact hn x (xem _ z)
  ·rw[xck.mp z];lia
 by_cases a0:a < 0
 ·rw[zbhz _ _ a0,zbit hn' _ a0]
 by_cases ap:2 * b<=a
 ·by_cases b0:0<=b
  ·rw[zbhy _ _ b0 ap h hN]
  ·lia
 obtain⟨M,rfl⟩:∃M,N=M+1:=⟨N - 1,by lia⟩
 rw[zbok];generalize hm:r++[(e:Int)]=m at *
 rw[ih (up φ) a b (M+1) h hN,ih (up (up φ)) (a - 1) b (M+1) (by lia) hN,ih (up (up φ)) a (b - 1) (M+1) (by lia) (by lia),ih _ (a - 2) (b - 1) (M+1) (by lia) (by lia)];have big:cs b a (M+1) φ (r++[(e:Int)+1])=((cs b a (M+1) (up φ) m) ^^^ xr (List.range (M+1)) fun c=>if co b a c=true then T c (T (a+b - 1 - c) (up (up φ))) m else 0) ^^^
   ((xr (List.range (M+1)) fun c=>if co b a (c+1)=true then T c (T (a+b - 1 - c) (up (up φ))) m else 0) ^^^ xr (List.range (M+1)) fun c=>if co b a (c+1)=true then T c (T (a - 2+(b - 1) - c) (up (up (up (up φ))))) m else 0):=by
  have sh:∀Z:Nat->Nat,(xr (List.range (M+1)) fun c=>if co b a (c+1)=true then Z (c+1) else 0)=xr (List.range (M+1)) fun c=>if co b a c=true then(if c=0 then 0 else Z c) else 0:=fun Z=>by
   rw[zbac,zyb (c:=M+1) (by lia),zvf];simp
  have e3:=sh fun c=>T ((c:Int) - 1) (T (a+b - c) (up (up φ))) m
  have e4:=sh fun c=>T ((c:Int) - 1) (T (a+b - c - 2) (up (up (up (up φ))))) m
  rw[zbd (g:=fun c=>if co b a (c+1)=true then T c (T (a+b - 1 - c) (up (up φ))) m else 0) fun c _=>by
   show(if co b a (c+1)=true then T (((c+1:Nat):Int) - 1) (T (a+b - ((c+1:Nat):Int)) (up (up φ))) m else 0)=_
   rw[show((c+1:Nat):Int) - 1=c by lia,show a+b - ((c+1:Nat):Int)=a+b - 1 - c by lia]] at e3
  rw[zbd (g:=fun c=>if co b a (c+1)=true then T c (T (a - 2+(b - 1) - c) (up (up (up (up φ))))) m else 0) fun c _=>by
   show(if co b a (c+1)=true then T (((c+1:Nat):Int) - 1) (T (a+b - ((c+1:Nat):Int) - 2) _) m else 0)=_
   rw[show((c+1:Nat):Int) - 1=c by lia,show a+b - ((c+1:Nat):Int) - 2=a - 2+(b - 1) - c by lia]] at e4
  rw[e3,e4];unfold cs;rw[← zlc,← zlc,← zlc];refine zbd fun c _=>?_
  by_cases hc:co b a c=true
  ·rw[if_pos hc,if_pos hc,if_pos hc,if_pos hc,if_pos hc,zbok,hm,show a+b - (c:Int) - 1=a+b - 1 - c by lia];by_cases c0:c=0
   ·subst c0;rw[if_pos rfl,if_pos rfl,zbje (k:=((0:Nat):Int) - 1) hn (by lia),zbje (k:=((0:Nat):Int) - 1) hn (by lia)]
   ·rw[if_neg c0,if_neg c0]
  ·rw[if_neg hc,if_neg hc,if_neg hc,if_neg hc,if_neg hc,xgm]
 rw[big];have four:cs (b - 1) (a - 2) (M+1) (up (up (up (up φ)))) m=xr (List.range (M+1)) fun c=>if co b a (c+1)=true then T c (T (a - 2+(b - 1) - c) (up (up (up (up φ))))) m else 0:=by
  unfold cs;exact zbd fun c _=>by rw[zbif]
 have two:cs b (a - 1) (M+1) (up (up φ)) m ^^^ cs (b - 1) a (M+1) (up (up φ)) m=(xr (List.range (M+1)) fun c=>if co b a c=true then T c (T (a+b - 1 - c) (up (up φ))) m else 0) ^^^ xr (List.range (M+1)) fun c=>if co b a (c+1)=true then T c (T (a+b - 1 - c) (up (up φ))) m else 0:=by
  unfold cs;rw[← zlc,← zlc];refine zbd fun c _=>?_
  rw[show a - 1+b - (c:Int)=a+b - 1 - c by lia,show a+(b - 1) - (c:Int)=a+b - 1 - c by lia,xif,xif,zbms (by lia)]
 rw[four,xdt,← xdt (cs b (a - 1) _ _ _),two];simp only[xdt]
theorem adem:∀m:Row,Nn m->AD m:=zsk
 (fun φ a b N h hN=>by
  by_cases a0:a < 0
  ·rw[zbhz _ _ a0,zbit (fun x hx=>absurd hx (by simp)) _ a0]
  unfold cs;rw[zbdw,zbdw];by_cases b0:0<=b
  ·rw[zsa (k:=0) (by lia) fun c hc=>by rw[zbdw,if_neg (show ¬ (c:Int)=0 by lia)];split<;>rfl,zbdw,zbdw];by_cases bz:b=0
   ·subst bz;rw[zrt (by lia) (by lia)];simp
   ·rw[if_neg bz,if_neg (show ¬ a+b - ((0:Nat):Int)=0 by lia)];simp
  ·lia)
 (fun r hr ih φ a b N h hN=>by
  unfold cs;rw[zjt,show(fun u:Row=>T a φ (u++[0]))=T a (fun u=>φ (u++[0])) from funext fun u=>zjt a φ u,ih _ a b N h hN];unfold cs;refine zbd fun c _=>?_
  rw[zjt,show(fun u:Row=>T (a+b - c) φ (u++[0]))=T (a+b - c) (fun u=>φ (u++[0])) from funext fun u=>zjt _ φ u])
 (fun r e hr ih=>zbis (fun x hx=>by
  rcases xca.mp hx with z | z
  ·exact hr x z
  ·rw[xck.mp z];lia) ih)
inductive Lin (P:Nat->Prop):Nat->Prop
 | zero:Lin P 0
 | add {v w:Nat}:P v->Lin P w->Lin P (v ^^^ w)
theorem Lin.one {P:Nat->Prop}{v:Nat}(h:P v):Lin P v:=by have:=Lin.add h .zero;rwa [xev] at this
theorem Lin.xor {P:Nat->Prop}{v w:Nat}(h:Lin P v)(g:Lin P w):Lin P (v ^^^ w):=by
 induction h with
 | zero=>rw[xie];exact g
 | add p _ ih=>rw[xdt];exact .add p ih
theorem Lin.bind {P R:Nat->Prop}(h:∀v,P v->Lin R v){w:Nat}(g:Lin P w):Lin R w:=by
 induction g with
 | zero=>exact .zero
 | add p _ ih=>exact(h _ p).xor ih
theorem Lin.xr {α:Type}{P:Nat->Prop}{f:α->Nat}:∀{l:List α},(∀x∈l,Lin P (f x))->Lin P (Dd.xr l f)
 | [],_=>.zero
 | x::l,h=>(h x (xbn ..)).xor (Lin.xr fun y hy=>h y (xbp _ hy))
theorem T_id:∀m:Row,Nn m->∀φ,T 0 φ m=φ m:=zsk (P:=fun m=>∀φ,T 0 φ m=φ m)
 (fun φ=>by rw[zbdw,if_pos rfl]) (fun r _ ih φ=>by rw[zjt,ih])
 (fun r e hr ih φ=>by
  rw[zbdo,ih,zbje (k:=0 - 1) (fun x hx=>?_) (by lia),xev,zho];rcases xca.mp hx with z | z
  ·exact hr x z
  ·rw[xck.mp z];lia)
structure Mon (n:Nat) (s:Int) (m:Row):Prop where
 len:m.length=n
 nn:Nn m
 sum:m.sum=s
theorem zbol {P:Nat->Prop}{n:Nat}{s k:Int}{ψ:Row->Nat}{m:Row}(hm:Mon n s m)(h:∀x,Mon n (s+k) x->Lin P (ψ x)):Lin P (T k ψ m):=by
 unfold T;refine Lin.xr fun x hx=>?_
 by_cases c:x.sum=m.sum+k
 ·rw[if_pos c];exact h x ⟨(zkf hm.nn x hx).2.trans hm.len,zns m hm.nn x hx,by rw[c,hm.sum]⟩
 ·rw[if_neg c];exact .zero
noncomputable def Gen (n:Nat) (d:Int) (φ:Row->Nat) (v:Nat):Prop:=∃(i:Nat) (m:Row),v=T ((2 ^ i:Nat):Int) φ m/\Mon n (d - ((2 ^ i:Nat):Int)) m/\2 * ((2 ^ i:Nat):Int)<=d
theorem dec {n:Nat}{d:Int}{φ:Row->Nat}:∀k:Nat,1<=k->∀m,Mon n (d - k) m->(k:Int)<=d->Lin (Gen n d φ) (T k φ m):=fun k=>by
 induction k using Nat.strongRecOn with
 | _ k ih =>
 intro hk m hm hd;have h1:2 ^ k.log2<=k:=Nat.log2_self_le (by lia);have h2:k < 2 ^ (k.log2+1):=Nat.lt_log2_self;rw[xli] at h2;generalize k.log2=j at h1 h2;have hp:1<=2 ^ j:=xkq;by_cases c:k=2 ^ j
 ·by_cases c2:2 * (k:Int)<=d
  ·exact .one ⟨j,m,by rw[c],by rw[← c];exact hm,by rw[← c];exact c2⟩
  ·rw[zbnk hm.nn (by rw[hm.sum];lia)];exact .zero
 ·obtain⟨a,ha⟩:∃a,k=a+2 ^ j:=⟨k - 2 ^ j,by lia⟩
  generalize hb:2 ^ j=b at *
  have rel:=adem m hm.nn φ a b (b+1) (by lia) (by lia);unfold cs at rel;rw[zvf] at rel;have c0:co b a 0=true:=by
   rw[zve (by lia) (by lia),show((b:Int) - 1 - ((0:Nat):Int)).toNat=b - 1 by lia,show((a:Int) - 2 * ((0:Nat):Int)).toNat=a by lia,← hb];refine xbu ?_;rw[Nat.and_comm,Nat.and_two_pow_sub_one_eq_mod,Nat.mod_eq_of_lt (by lia)]
  rw[if_pos c0,show(((0:Nat):Int))=0 from rfl,T_id m hm.nn,show(a:Int)+b - 0=k by lia] at rel;have val:T k φ m=T b (T a φ) m ^^^ xr (List.range b) fun c=>if co b a (c+1)=true then T ((c+1:Nat):Int) (T ((a:Int)+b - ((c+1:Nat):Int)) φ) m else 0:=by
   rw[rel,xdt,xgm,xev]
  rw[val];refine(zbol hm fun x hx=>ih a (by lia) (by lia) x (by rw[show d - (a:Int)=d - k+b by lia];exact hx) (by lia)).xor (.xr fun c _=>?_);by_cases hc:co b a (c+1)=true
  ·rw[if_pos hc];have le:2 * ((c+1:Nat):Int)<=a:=by
    by_cases z:2 * ((c+1:Nat):Int)<=a
    ·exact z
    ·rw[zjo (by lia)] at hc;cases hc
   obtain⟨q,hq⟩:∃q,k=q+(c+1):=⟨k - (c+1),by lia⟩
   rw[show(a:Int)+b - ((c+1:Nat):Int)=q by lia];exact zbol hm fun x hx=>ih q (by lia) (by lia) x (by rw[show d - (q:Int)=d - k+((c+1:Nat):Int) by lia];exact hx) (by lia)
  ·rw[if_neg hc];exact .zero
noncomputable def bl (v:Nat):Nat:=if v=0 then 0 else v.log2+1
theorem zrx {v k:Nat}:bl v<=k↔v < 2 ^ k:=by
 unfold bl;by_cases c:v=0
 ·rw[if_pos c,c];exact⟨fun _=>Nat.two_pow_pos k,fun _=>xdv _⟩
 ·rw[if_neg c,Nat.succ_le_iff];exact Nat.log2_lt c
theorem zoz {v:Nat}:v≠0↔1<=bl v:=by unfold bl;split<;>lia
theorem zbdh {v:Nat}(h:v≠0):v.testBit (bl v - 1)=true:=by
 have p:=zoz.mp h;have h1:v < 2 ^ (bl v - 1+1):=zrx.mp (by lia);have h2:2 ^ (bl v - 1)<=v:=by
  rcases xes v (2 ^ (bl v - 1)) with z | z
  ·have:=zrx.mpr z;lia
  ·exact z
 exact Nat.testBit_of_two_pow_le_and_two_pow_add_one_gt h2 h1
theorem zbmv {v w:Nat}(h:v≠0)(e:bl w=bl v):bl (v ^^^ w) < bl v:=by
 have p:=zoz.mp h;have hw:w≠0:=zoz.mpr (by lia)
 suffices v ^^^ w < 2 ^ (bl v - 1) by have:=zrx.mpr this;lia
 refine Nat.lt_pow_two_of_testBit _ fun i hi=>?_
 rw[xkb];by_cases c:i=bl v - 1
 ·have a:=zbdh h;have b:=zbdh hw;rw[e] at b;rw[c,a,b];rfl
 ·have k1:v < 2 ^ bl v:=zrx.mp (xbe _);have k2:w < 2 ^ bl v:=zrx.mp (by lia);have k3:2 ^ bl v<=2 ^ i:=xfc (by decide) (by lia);rw[xjf (by lia),xjf (by lia)];rfl
theorem zbmw {v w:Nat}(e:bl w < bl v):bl (v ^^^ w)=bl v:=by
 have h:v≠0:=zoz.mpr (by lia);have k1:v < 2 ^ bl v:=zrx.mp (xbe _);have k2:w < 2 ^ bl v:=zrx.mp (by lia);have k3:=zrx.mpr (Nat.xor_lt_two_pow k1 k2);have k4:w < 2 ^ (bl v - 1):=zrx.mp (by lia);have t:(v ^^^ w).testBit (bl v - 1)=true:=by rw[xkb,zbdh h,xjf k4];rfl
 have:=Nat.ge_two_pow_of_testBit t;rcases xes (bl (v ^^^ w)) (bl v) with z | z
 ·have:=zrx.mp (show bl (v ^^^ w)<=bl v - 1 by lia);lia
 ·lia
noncomputable abbrev Tab:=Nat->Option Nat
noncomputable def Good (A:Tab):Prop:=∀k v,A k=some v->bl v=k/\v≠0
noncomputable def sel (A:Tab) (S:Nat->Bool):Nat->Nat
 | 0=>0
 | N+1=>(if S (N+1)=true then(A (N+1)).getD 0 else 0) ^^^ sel A S N
noncomputable def Span (A:Tab) (N:Nat) (v:Nat):Prop:=∃S,v=sel A S N
theorem zben {A:Tab}(g:Good A)(S:Nat->Bool):∀N,bl (sel A S N)<=N/\(sel A S N≠0->(A (bl (sel A S N))).isSome=true)
 | 0=>⟨xbe _,fun h=>absurd rfl h⟩
 | N+1=>by
  have ih:=zben g S N;have skip:(0 ^^^ sel A S N=sel A S N):=xie _;show bl (_ ^^^ sel A S N)<=N+1/\(_ ^^^ sel A S N≠0->(A (bl (_ ^^^ sel A S N))).isSome=true)
  by_cases c:S (N+1)=true
  ·rw[if_pos c];cases e:A (N+1) with
   | none=>rw[xlf,skip];exact⟨by lia,ih.2⟩
   | some v =>
    obtain⟨g1,g2⟩:=g _ _ e;rw[Option.getD_some,zbmw (by lia),g1];exact⟨xbe _,fun _=>by rw[e];rfl⟩
  ·rw[if_neg c,skip];exact⟨by lia,ih.2⟩
theorem Span.zero {A:Tab}{N:Nat}:Span A N 0:=⟨fun _=>false,by
 induction N with
 | zero=>rfl
 | succ N ih=>show 0=0 ^^^ sel A (fun _=>false) N;rw[← ih];rfl⟩
theorem Span.xor {A:Tab}{N v w:Nat}(h:Span A N v)(k:Span A N w):Span A N (v ^^^ w):=by
 obtain⟨S,rfl⟩:=h;obtain⟨R,rfl⟩:=k;refine⟨fun i=>Bool.xor (S i) (R i),?_⟩
 induction N with
 | zero=>show 0 ^^^ 0=0;rw[xgm]
 | succ N ih =>
  show(_ ^^^ sel A S N) ^^^ (_ ^^^ sel A R N)=(if Bool.xor (S (N+1)) (R (N+1))=true then(A (N+1)).getD 0 else 0) ^^^ sel A _ N;rw[← ih,xor4',xif]
theorem Span.key {A:Tab}{k v:Nat}(h0:1<=k)(e:A k=some v):∀{N},k<=N->Span A N v:=fun {N} hN=>⟨fun i=>decide (i=k),by
 have low:∀M,M < k->sel A (fun i=>decide (i=k)) M=0:=fun M=>by
  induction M with
  | zero=>intro _;rfl
  | succ M ih=>intro h;show(if decide (M+1=k)=true then _ else 0) ^^^ sel A _ M=0;rw[ih (by lia),xbv (by lia)];simp
 induction N with
 | zero=>lia
 | succ N ih =>
  show v=(if decide (N+1=k)=true then(A (N+1)).getD 0 else 0) ^^^ sel A _ N;by_cases c:N+1=k
  ·rw[xbu c,if_pos rfl,c,e,low N (by lia),xev];rfl
  ·rw[xbv c,← ih (by lia)];simp⟩
theorem Span.lin {A:Tab}{N:Nat}{P:Nat->Prop}(h:∀v,P v->Span A N v){w:Nat}(k:Lin P w):Span A N w:=by
 induction k with
 | zero=>exact .zero
 | add p _ ih=>exact(h _ p).xor ih
noncomputable def setT (A:Tab) (k v:Nat):Tab:=fun i=>if i=k then some v else A i
theorem Span.more {A:Tab}{k v:Nat}(e:A k=none){N w:Nat}(h:Span A N w):Span (setT A k v) N w:=by
 obtain⟨S,rfl⟩:=h;refine⟨fun i=>if i=k then false else S i,?_⟩
 induction N with
 | zero=>rfl
 | succ N ih =>
  show _ ^^^ sel A S N=(if(if N+1=k then false else S (N+1))=true then(setT A k v (N+1)).getD 0 else 0) ^^^ sel (setT A k v) _ N;rw[← ih];unfold setT;by_cases c:N+1=k
  ·rw[if_pos c,c,e];simp
  ·rw[if_neg c,if_neg c]
structure Lds (N:Nat) (A:Tab) (L:List Nat):Prop where
 good:Good A
 top:∀k v,A k=some v->k<=N
 lin:∀k v,A k=some v->Lin (·∈L) v
 all:∀v∈L,Span A N v
theorem Lds.nil (N:Nat):Lds N (fun _=>none) []:=⟨(fun _ _ e=>nomatch e),(fun _ _ e=>nomatch e),(fun _ _ e=>nomatch e),(fun _ h=>absurd h (by simp))⟩
structure Less (N:Nat) (A:Tab) (x y:Nat):Prop where
 top:bl y<=N
 span:Span A N (x ^^^ y)
theorem Less.refl {N:Nat}{A:Tab}{x:Nat}(h:bl x<=N):Less N A x x:=⟨h,by rw[xgm];exact .zero⟩
theorem Less.step {N:Nat}{A:Tab}{L:List Nat}{x y v:Nat}(l:Lds N A L)(h:Less N A x y)(h0:y≠0)(e:A (bl y)=some v):Less N A x (y ^^^ v)/\bl (y ^^^ v) < bl y:=by
 have b:=zbmv h0 (l.good _ _ e).1;exact⟨⟨by have:=h.top;lia,by rw[← xdt];exact h.span.xor (Span.key (zoz.mp h0) e h.top)⟩,b⟩
theorem Lds.lins {N:Nat}{A:Tab}{L:List Nat}(l:Lds N A L){w:Nat}(h:Span A N w):Lin (·∈L) w:=by
 obtain⟨S,rfl⟩:=h;have:∀M,Lin (·∈L) (sel A S M):=fun M=>by
  induction M with
  | zero=>exact .zero
  | succ M ih =>
   refine Lin.xor ?_ ih;by_cases c:S (M+1)=true
   ·rw[if_pos c];cases e:A (M+1) with
    | none=>exact .zero
    | some v=>exact l.lin _ _ e
   ·rw[if_neg c];exact .zero
 exact this N
theorem Lin.more {L:List Nat}{x w:Nat}(h:Lin (·∈L) w):Lin (·∈L++[x]) w:=Lin.bind (fun v hv=>.one (xem _ hv)) h
theorem Lds.put {N:Nat}{A:Tab}{L:List Nat}{x y:Nat}(l:Lds N A L)(h:Less N A x y)(h0:y≠0)(e:A (bl y)=none):Lds N (setT A (bl y) y) (L++[x]):=by
 have ly:Lin (·∈L++[x]) y:=by
  have h1:=(l.lins h.span).more (x:=x);have h2:=Lin.xor (Lin.one (P:=(·∈L++[x])) (v:=x) (by simp)) h1
  rwa [← xdt,xgm,xie] at h2
 have sy:Span (setT A (bl y) y) N y:=Span.key (zoz.mp h0) (by unfold setT;rw[if_pos rfl]) h.top;refine⟨fun k v z=>?_,fun k v z=>?_,fun k v z=>?_,fun v hv=>?_⟩
 ·unfold setT at z;by_cases c:k=bl y
  ·rw[if_pos c] at z;cases z;exact⟨c.symm,h0⟩
  ·rw[if_neg c] at z;exact l.good _ _ z
 ·unfold setT at z;by_cases c:k=bl y
  ·rw[c];exact h.top
  ·rw[if_neg c] at z;exact l.top _ _ z
 ·unfold setT at z;by_cases c:k=bl y
  ·rw[if_pos c] at z;cases z;exact ly
  ·rw[if_neg c] at z;exact(l.lin _ _ z).more
 ·rcases xca.mp hv with q | q
  ·exact(l.all v q).more e
  ·rw[xck.mp q];have:=(h.span.more (v:=y) e).xor sy
   rwa [xdt,xgm,xev] at this
theorem Lds.keep {N:Nat}{A:Tab}{L:List Nat}{x:Nat}(l:Lds N A L)(h:Less N A x 0):Lds N A (L++[x]) :=
 ⟨l.good,l.top,fun k v z=>(l.lin k v z).more,fun v hv=>by
  rcases xca.mp hv with q | q
  ·exact l.all v q
  ·rw[xck.mp q];have:=h.span;rwa [xev] at this⟩
theorem Lds.same {N:Nat}{A B:Tab}{L M:List Nat}(a:Lds N A L)(b:Lds N B M)(h:∀v∈L,Lin (·∈M) v)(g:∀v∈M,Lin (·∈L) v)(k:Nat):(A k).isSome=(B k).isSome:=by
 have one:∀{A B:Tab} {L M:List Nat},Lds N A L->Lds N B M->(∀v∈L,Lin (·∈M) v)->(A k).isSome=true->(B k).isSome=true:=fun {A B L M} a b h z=>by
  obtain⟨v,e⟩:=Option.isSome_iff_exists.mp z;obtain⟨g1,g2⟩:=a.good _ _ e;obtain⟨S,hS⟩:=Span.lin b.all (Lin.bind h (a.lin _ _ e));have:=(zben b.good S N).2;rw[← hS,g1] at this;exact this g2
 exact xgq.mpr ⟨one a b h,one b a g⟩
section
variable {st:Store}{n:Nat}{Q:D->Store->Prop}
theorem zlt {a0 a1 a2 a3 v6 v7 v8:Option D}{e:Nat}{ps:List Pt}{I:DS->Store->Prop}{Q:Fl->Store->Prop}(he:e<=1000)(hl:ps.length * (e+1)<=100000)(hr:∀p∈ps,p.1.length<=1000/\0<=p.2)
  (k:∀w6 w7 w8 g,I [a0,a1,a2,a3,some (.lst ((lawL e ps).map ptD)),some (.int e),w6,w7,w8] (st++g)) :
  WP (zdf [a0,a1,a2,a3,some (.lst (ps.map ptD)),some (.int e),v6,v7,v8] st) (loopK I Q):=by
 unfold zdf;simp only[W,V,Dd.N];refine⟨small _ (by simp),?_⟩;refine zdc (fun i σ s=>(∃v w,σ=[a0,a1,a2,a3,some (.lst (ps.map ptD)),some (.int e),some (.ref st.length),v,w])/\s=st++[.lst ((lawL e (ps.take i)).map ptD)]) ⟨⟨_,_,rfl⟩,rfl⟩ ?_ ?_
 ·rintro i y σ s hy ⟨⟨v,w,rfl⟩,rfl⟩;obtain⟨p,hp,rfl⟩:=zjg hy;have hi:i < ps.length:=(xbf.mp hp).1;obtain⟨h3,h4⟩:=hr p (xbq hp);refine⟨_,rfl,?_⟩;have hlen:(lawL e (ps.take i)).length+(e+1)<=100000:=by
   have h1:=zos e (ps.take i);have h2:(ps.take i).length=i:=by rw[xcq];lia
   rw[h2] at h1;have h3:(i+1) * (e+1)<=ps.length * (e+1):=xen _ hi;rw[xiq] at h3;lia
  have hJ:=ztr e p;unfold zfq;simp only[W,V,L,zfy];refine⟨_,_,rfl,by simp;rfl,_,rfl,rngN (by split<;>lia) (by split<;>lia),by rw[zev];exact small _ (by split<;>lia),?_⟩;unfold rng;refine zlf (as:=List.range ((if p.2 < (e:Int) then p.2 else(e:Int))+1).toNat) (fun σ=>∃v,σ=[v,some (aL p.1),some (.int p.2),some (.int e)]) (fun x=>decide (e &&& x=x)) (fun j:Nat=>ptD (p.1++[(e:Int)+(j:Int)],p.2 - (j:Int))) (fun i=>.int (0+(i:Int))) ⟨_,rfl⟩ ?_ ?_
  ·rintro j hj σ ⟨v,rfl⟩;refine⟨_,rfl,⟨_,rfl⟩,?_,fun _=>?_⟩
   ·simp only[W,V];rw[xfw,K07.zgp];refine⟨trivial,trivial,?_⟩;exact xgi.mpr ⟨fun h=>by lia,fun h=>by lia⟩
   ·simp only[W,V,Dd.N];rw[xfw];refine⟨small _ (by simp),by rw[xbc];exact small _ (by simp;lia),small _ (by simp),?_⟩;simp[ptD,aL]
  ·rw[zmt h4];refine⟨_,_,_,rfl,by simp;rfl,rfl,?_,⟨_,_,rfl⟩,?_⟩
   ·rw[xbc,xbc];have:(sharesL e 0 p.2).length<=e+1:=zik _ _ _ _;exact small _ (by lia)
   ·rw[zm hp,zxd];unfold lawJ;simp[xcr,Function.comp_def]
 ·rintro σ s ⟨⟨v,w,rfl⟩,rfl⟩;rw[xbc,xby];simp only[W,V,M,Dd.N,L];refine⟨_,_,rfl,by simp;rfl,?_⟩;have:=k (some (.ref st.length)) v w [.dead]
  simpa using this
theorem znf {l:List Row}{t:Int}{B:Nat}(ht:0<=t)(hp:∀r∈l,∀x∈r,0<=x/\x<=1000)(hr:∀r∈l,r.length<=1000)(hb:∀r∈l,box r<=B)(hB:B<=20000)(hl:l.length * B<=900000)(k:∀g,Q (aK (aO (raiseL t l))) (st++g)):WP (zcu [aK l,.int t] st) Q:=by
 refine zhn rfl ?_;simp only[W,V,Dd.N];refine⟨small _ (by simp),?_⟩;have lens:∀i,(raiseL t (l.take i)).length<=900000:=fun i=>by
  have h2:=zge (k:=t) (l:=l.take i) (B:=B) fun x hx=>hb x (xfb hx)
  have h3:(l.take i).length * B<=l.length * B:=xen _ (by rw[xcq];exact xfn _ _);lia
 refine zdc (fun i σ s=>(∃v w x y z a,σ=[some (aK l),some (.int t),some (.ref st.length),v,w,x,y,z,a])/\∃g,s=st++(.lst (aJ (raiseL t (l.take i)))::g)) ⟨⟨_,_,_,_,_,_,rfl⟩,[],rfl⟩ ?_ ?_
 ·rintro i y σ s hy ⟨⟨v,w,x,y',z,a,rfl⟩,g,rfl⟩;obtain⟨r,hrr,rfl⟩:=zbx hy;have hm:=xbq hrr;have pos:∀x∈r,0<=x:=fun x hx=>(hp r hm x hx).1
  refine⟨_,rfl,?_⟩;unfold zfp;simp only[W,V,Dd.N];refine⟨small _ (by simp),small _ (by simp),small _ (by simp),?_⟩;refine zdc (fun j σ s=>(∃x y z a,σ=[some (aK l),some (.int t),some (.ref st.length),some (aL r),some (.lst ((lawS t (r.take j)).map ptD)),x,y,z,a])/\∃g,s=st++(.lst (aJ (raiseL t (l.take i)))::g)) ⟨⟨_,_,_,_,rfl⟩,g,rfl⟩ ?_ ?_
  ·rintro j y σ s hy ⟨⟨x,y',z,a,rfl⟩,g,rfl⟩;obtain⟨e,he,rfl⟩:=zjg hy;refine⟨_,rfl,?_⟩;obtain⟨h1,h2⟩:=hp r hm e (xbq he);have hlen:=zto r t j;have hbx:=zut r (j+1);rw[zm he,zdn,show box [e]=e.toNat+1 by simp[box]] at hbx;have hmm:(lawS t (r.take j)).length * (e.toNat+1)<=20000:=xbb (xen _ hlen) (xbb hbx (xbb (hb r hm) hB));have hrow:=zbbu r ht j;have hrl:=hr r hm;rw[zm he,zlv];unfold lawStep;generalize lawS t (r.take j)=ps at hmm hrow ⊢;obtain⟨e',rfl⟩:=xgb h1;simp only[V];refine zlt (e:=e') (by lia) (by rw[xdu] at hmm;lia) (fun p hp=>?_) fun w6 w7 w8 g2=>?_
   ·obtain⟨q1,q2⟩:=hrow p hp;rw[q1,xcq];exact⟨by lia,q2⟩
   ·refine⟨⟨_,_,_,_,rfl⟩,g++g2,by simp⟩
  ·rintro σ s ⟨⟨x,y',z,a,rfl⟩,g,rfl⟩;rw[xbc,xby];simp only[W,V,Dd.N,L,zfy];have hlen:=zto r t r.length;rw[xby] at hlen;have hbr:=hb r hm;refine⟨_,_,rfl,zhr _ _,by rw[xbc];exact small _ (by lia),?_⟩;refine zlf (as:=lawS t r) (fun σ=>∃v w,σ=[v,w]) (fun p=>decide (p.2=0)) (fun p=>aL p.1) ptD ⟨_,_,rfl⟩ ?_ ?_
   ·rintro p hp σ ⟨v,w,rfl⟩;exact⟨_,rfl,⟨_,_,rfl⟩,by simp only[W,V,xgx],fun _=>by simp only[W,V,xgx]⟩
   ·have e1:((lawS t r).filter fun p=>decide (p.2=0)).map (fun p=>aL p.1)=aJ (raiseR t r):=by
     rw[← zzb pos ht];unfold lawP aJ;rw[xcr]
     rfl
    rw[e1];have h1:=lens i;have h2:=zmw (k:=t) (hb r hm);refine⟨_,_,_,rfl,zhr _ _,rfl,by rw[zi,zi];exact small _ (by lia),⟨_,_,_,_,_,_,rfl⟩,g,?_⟩;rw[zmu,zm hrr,zko];simp[aJ]
 ·rintro σ s ⟨⟨v,w,x,y',z,a,rfl⟩,g,rfl⟩;rw[zi,xby];have h1:=lens l.length;rw[xby] at h1;simp only[W,V,M,Dd.N];refine⟨_,_,rfl,zhr _ _,?_⟩;refine zbfx (l:=raiseL t l) rfl (by lia) fun g2=>?_
  rw[zmu,xci];exact k _
end
section
variable {st:Store}{n:Nat}{Q:D->Store->Prop}
end
section
variable {st:Store}{n:Nat}{Q:D->Store->Prop}
end
end Dd
namespace K11
end K11
namespace Dd
open PySem L2 K13
section
variable {st:Store}{n:Nat}{Q:D->Store->Prop}
end
end Dd
namespace K54
end K54
namespace Dd
open PySem L2
open PySem.Builtin.Int (intBits)
noncomputable def cntP (d:Int):Nat->Int
 | 0=>1
 | i+1=>cntP d i * (d+(1+(i:Int))) / (1+(i:Int))
theorem zqj {d:Int}(h0:0<=d)(h1:d < 10 ^ 40):∀i:Nat,i<=20->intBits (cntP d i)<=200 * (i+1)
 | 0,_=>by show intBits 1<=200;decide
 | i+1,hi=>by
  have ih:=zqj h0 h1 i (by lia);have b:intBits (d+(1+(i:Int)))<=200:=by
   rw[intBits_le_iff];have:(10:Int) ^ 40<=2 ^ 199:=by decide
   have e:(2:Nat) ^ 200=2 ^ 199+2 ^ 199:=by decide
   have e2:(1000:Nat)<=2 ^ 199:=by decide
   lia
  have m:=intBits_mul_le ih b;unfold cntP;refine intBits_le_of_natAbs (Int.natAbs_ediv_le_natAbs _ _) (xbb m (by lia))
section
variable {st:Store}{n:Nat}{Q:D->Store->Prop}
theorem zwv {N d:Int}(hN:1<=N)(hN2:N<=10)(h0:0<=d)(h1:d < 10 ^ 40)(q:Q (.int (cntP d (N - 1).toNat)) st):WP (zbc [.int N,.int d] st) Q:=by
 refine zhn rfl ?_;simp only[W,V,Dd.N];refine⟨rngN (by lia) (by lia),rngN (by lia) (by lia),?_⟩;refine zdc (fun i σ s=>(∃v,σ=[some (.int N),some (.int d),some (.int (cntP d i)),v])/\s=st) ⟨⟨_,rfl⟩,rfl⟩ ?_ ?_
 ·rintro i y σ s hy ⟨⟨v,rfl⟩,rfl⟩;obtain⟨hi,rfl⟩:=zkn hy;refine⟨_,rfl,?_⟩;unfold zcg;simp only[W,V,L];have b:=zqj h0 h1 i (by lia);refine⟨⟨xbb b (by lia),?_⟩,⟨by lia,?_⟩,⟨_,rfl⟩,trivial⟩
  ·rw[intBits_le_iff];have:(10:Int) ^ 40<=2 ^ 199:=by decide
   have e2:(1000:Nat)<=2 ^ 199:=by decide
   have e3:(2:Nat) ^ 200<=2 ^ 60000:=xfc (by decide) (by decide);have e:(2:Nat) ^ 200=2 ^ 199+2 ^ 199:=by decide
   refine xbg ?_ e3;lia
  ·have:(1+(i:Int)) < 2 ^ 60:=Int.lt_of_le_of_lt (show(1+(i:Int))<=100 by lia) (by decide +kernel);exact Int.lt_of_lt_of_le this (by decide +kernel)
 ·rintro σ s ⟨⟨v,rfl⟩,rfl⟩;rw[zev];simp only[W,V];exact q
theorem zxi {N d:Int}(hN:1<=N)(hN2:N<=10)(h0:0<=d)(h1:d<=if N<=3 then 24 else 10)(h2:cntP d (N - 1).toNat<=200)(q:Q (.int d) st):WP (zgx [.int N,.int d] st) Q:=by
 refine zhn rfl ?_;have hd:d < 10 ^ 40:=by
  have:(30:Int) < 10 ^ 40:=by decide
  split at h1<;>lia
 have key:WP (zbw [.int N,.int d] st) (fun v s=>v=.bl true/\s=st):=by
  refine zhn rfl ?_;simp only[W,V];refine WP.mono (Q:=fun v s=>v=.int (if N<=3 then 24 else 10)/\s=st) ?_ ?_
  ·refine zhn rfl ?_;simp only[W,V];refine⟨trivial,?_⟩;by_cases c:N<=3
   ·simp only[c,xdz,xgx]
   ·simp only[c,xdo,xgx]
  ·rintro v s ⟨rfl,rfl⟩;simp only[W,V];refine⟨trivial,?_⟩;simp only[h1,xey,xdz,W,V];refine zwv hN hN2 h0 hd ?_;simp only[W,V];refine⟨trivial,?_⟩;rw[xbu h2]
   first | exact⟨rfl,trivial⟩ | exact⟨rfl,rfl⟩ | simp
 obtain⟨v,s,e,rfl,rfl⟩:=key.get;simp only[W,V];refine WP.of e ?_;simp only[Dd.N,W,V,xii];exact q
noncomputable def allJ (p:Pt):List Pt:=(List.range (p.2.toNat+1)).map fun e:Nat=>(p.1++[(e:Int)],p.2 - (e:Int))
noncomputable def allS (d:Int):Nat->List Pt
 | 0=>[([],d)]
 | k+1=>(allS d k).flatMap allJ
noncomputable def allL (d:Int) (k:Nat):List Row:=(allS d k).map fun p=>p.1++[p.2]
theorem zzk {α:Type}{f:α->List Pt}{B:Nat}:∀{l:List α},(∀a∈l,(f a).length<=B)->(l.flatMap f).length<=l.length * B
 | [],_=>by simp
 | a::l,h=>by
  have h1:=h a xbn;have h2:=zzk (l:=l) fun b hb=>h b (xbp _ hb)
  rw[xlc,xbl,xcb,xiq];lia
theorem zfa {d:Int}(h0:0<=d):∀k:Nat,∀p∈allS d k,p.1.length=k/\(∀x∈p.1,0<=x)/\0<=p.2/\p.1.sum+p.2=d
 | 0,p,hp=>by
  simp[allS] at hp;subst hp;exact⟨rfl,by simp,h0,by simp⟩
 | k+1,p,hp=>by
  obtain⟨q,hq,hp⟩:=xdx.mp hp;obtain⟨h1,h2,h3,h4⟩:=zfa h0 k q hq;obtain⟨e,he,rfl⟩:=xce.mp hp;have he:=xcp.mp he;refine⟨by simp[h1],fun x hx=>?_,by dsimp only;lia,by simp;lia⟩;rcases xca.mp hx with hx | hx
  ·exact h2 x hx
  ·simp at hx;lia
theorem zmi {d:Int}(h0:0<=d):∀k:Nat,(allS d k).length<=(d.toNat+1) ^ k
 | 0=>by simp[allS]
 | k+1=>by
  have ih:=zmi h0 k;have h:=zzk (f:=allJ) (B:=d.toNat+1) (l:=allS d k) fun p hp=>by
   obtain⟨_,h2,h3,h4⟩:=zfa h0 k p hp;have:=ztg h2;unfold allJ;rw[xbc,xfy];lia
  show((allS d k).flatMap allJ).length<=_;rw[xli];exact xbb h (xen _ ih)
theorem zbdn:∀(a:Row) (d:Int),(∀x∈a,0<=x)->a.sum<=d->(a,d - a.sum)∈allS d a.length:=fun a=>by
 induction hn:a.length generalizing a with
 | zero =>
  intro d _ _;have:a=[]:=List.length_eq_zero_iff.mp hn;subst this;simp[allS]
 | succ k ih =>
  intro d ha hs;have ne:a≠[]:=by rintro rfl;simp at hn
  obtain⟨b,e,rfl⟩:∃b e,a=b++[e]:=⟨a.dropLast,a.getLast ne,(xkg ne).symm⟩
  have he:=ha e (by simp);have hb:=fun x hx=>ha x (xem _ hx)
  rw[xfj,xkr] at hs;have h1:=ih b (by simp at hn;exact hn) d hb (by lia);refine xdx.mpr ⟨_,h1,xce.mpr ⟨e.toNat,xcp.mpr (by dsimp only;lia),?_⟩⟩;have e1:((e.toNat:Nat):Int)=e:=by lia
  rw[xfj,xkr,e1];dsimp only
  congr 1
  lia
theorem zux {r:Row}{d:Int}{k:Nat}(hl:r.length=k+1)(hr:∀x∈r,0<=x)(hs:r.sum=d):r∈allL d k:=by
 have ne:r≠[]:=by rintro rfl;simp at hl
 obtain⟨b,e,rfl⟩:∃b e,r=b++[e]:=⟨r.dropLast,r.getLast ne,(xkg ne).symm⟩
 rw[xfj,xkr] at hs;have h1:=zbdn b d (fun x hx=>hr x (xem _ hx)) (by have:=hr e (by simp);lia);have e1:b.length=k:=by simpa using hl
 rw[e1] at h1;refine xce.mpr ⟨_,h1,?_⟩;dsimp only;rw[show d - b.sum=e by lia]
theorem zgr {d:Int}(h0:0<=d){k:Nat}{r:Row}(h:r∈allL d k):r.length=k+1/\(∀x∈r,0<=x)/\r.sum=d:=by
 obtain⟨p,hp,rfl⟩:=xce.mp h;obtain⟨h1,h2,h3,h4⟩:=zfa h0 k p hp;refine⟨by simp[h1],fun x hx=>?_,by simp;lia⟩;rcases xca.mp hx with hx | hx
 ·exact h2 x hx
 ·simp at hx;lia
theorem zru {a0 a1 a3 v4 v5 v6:Option D}{d:Int}{j:Nat}{I:DS->Store->Prop}{Q:Fl->Store->Prop}(h0:0<=d)(hd:d<=1000)(hj:j<=100)(hb:(d.toNat+1) ^ (j+1)<=100000)
  (k:∀w4 w5 w6 g,I [a0,a1,some (.lst ((allS d (j+1)).map ptD)),a3,w4,w5,w6] (st++g)) :
  WP (zfx [a0,a1,some (.lst ((allS d j).map ptD)),a3,v4,v5,v6] st) (loopK I Q):=by
 have fl:=zmi h0 (j+1);have fc:=zfa h0 j;have e0:allS d (j+1)=(allS d j).flatMap allJ:=rfl;rw[e0] at fl k;generalize allS d j=ps at fl fc k ⊢;have pre:∀i,((ps.take i).flatMap allJ).length<=100000:=fun i=>by
  have:ps.flatMap allJ=(ps.take i).flatMap allJ++(ps.drop i).flatMap allJ:=by rw[← xge,xei]
  rw[this,xbl] at fl;lia
 unfold zfx;simp only[W,V,Dd.N];refine⟨small _ (by simp),?_⟩;refine zdc (fun i σ s=>(∃v w,σ=[a0,a1,some (.lst (ps.map ptD)),a3,some (.ref st.length),v,w])/\s=st++[.lst (((ps.take i).flatMap allJ).map ptD)]) ⟨⟨_,_,rfl⟩,rfl⟩ ?_ ?_
 ·rintro i y σ s hy ⟨⟨v,w,rfl⟩,rfl⟩;obtain⟨p,hp,rfl⟩:=zjg hy;obtain⟨h1,h2,h3,h4⟩:=fc p (xbq hp);have h5:=ztg h2;refine⟨_,rfl,?_⟩;unfold zjw;simp only[W,V,L,zfy];refine⟨_,_,rfl,by simp;rfl,_,rfl,rngN (by lia) (by lia),by rw[zev];exact small _ (by lia),?_⟩;unfold rng;refine zlf (as:=List.range (p.2+1).toNat) (fun σ=>∃v,σ=[v,some (aL p.1),some (.int p.2)]) (fun x=>true) (fun j:Nat=>ptD (p.1++[(j:Int)],p.2 - (j:Int))) (fun i=>.int (0+(i:Int))) ⟨_,rfl⟩ ?_ ?_
  ·rintro j hj σ ⟨v,rfl⟩;refine⟨_,rfl,⟨_,rfl⟩,by simp only[W,xgx],fun _=>?_⟩;simp only[W,V,Dd.N];rw[xfw];refine⟨small _ (by simp),by rw[xbc];exact small _ (by simp;lia),small _ (by simp),?_⟩;simp[ptD,aL]
  ·rw[zec];have hl:=pre (i+1);rw[zm hp,xge,xbl] at hl;have e2:(p.2+1).toNat=p.2.toNat+1:=by lia
   have e3:([p].flatMap allJ)=allJ p:=by simp
   rw[e3] at hl;refine⟨_,_,_,rfl,by simp;rfl,rfl,?_,⟨_,_,rfl⟩,?_⟩
   ·have e4:(allJ p).length=p.2.toNat+1:=by unfold allJ;simp
    rw[e4] at hl;rw[xbc,xbc,xfy,e2];exact small _ (by lia)
   ·rw[zm hp,xge,e3];unfold allJ;rw[e2];simp[xcr,Function.comp_def]
 ·rintro σ s ⟨⟨v,w,rfl⟩,rfl⟩;rw[xbc,xby];simp only[W,V,M,Dd.N,L];refine⟨_,_,rfl,by simp;rfl,?_⟩;have:=k (some (.ref st.length)) v w [.dead]
  simpa using this
theorem zbdm {N d:Int}(hN:1<=N)(hN2:N<=10)(h0:0<=d)(hd:d<=1000)(hb:(d.toNat+1) ^ (N - 1).toNat<=100000)(k:∀g,Q (.lst (aJ (allL d (N - 1).toNat))) (st++g)):WP (zdb [.int N,.int d] st) Q:=by
 refine zhn rfl ?_;simp only[W,V,Dd.N];refine⟨small _ (by simp),small _ (by simp),small _ (by simp),rngN (by lia) (by lia),?_⟩;refine zdc (fun i σ s=>(∃v4 v5 v6 v3,σ=[some (.int N),some (.int d),some (.lst ((allS d i).map ptD)),v3,v4,v5,v6])/\∃g,s=st++g) ⟨⟨_,_,_,_,rfl⟩,[],by simp⟩ ?_ ?_
 ·rintro i y σ s hy ⟨⟨v4,v5,v6,v3,rfl⟩,g,rfl⟩;obtain⟨hi,rfl⟩:=zkn hy;refine⟨_,rfl,?_⟩;simp only[V];refine zru h0 hd (by lia) (xbb (xfc (by lia) hi) hb) fun w4 w5 w6 g2=>⟨⟨_,_,_,_,rfl⟩,g++g2,by simp⟩
 ·rintro σ s ⟨⟨v4,v5,v6,v3,rfl⟩,g,rfl⟩;rw[zev];have fc:=zfa h0 (N - 1).toNat;have fl:=zmi h0 (N - 1).toNat;simp only[W,V,Dd.N];refine⟨by rw[xbc];exact small _ (by lia),?_⟩;refine zlf (as:=allS d (N - 1).toNat) (fun σ=>∃v w,σ=[v,w]) (fun _=>true) (fun p=>aL (p.1++[p.2])) ptD ⟨_,_,rfl⟩ ?_ ?_
  ·rintro p hp σ ⟨v,w,rfl⟩;refine⟨_,rfl,⟨_,_,rfl⟩,by simp only[W,xgx],fun _=>?_⟩;simp only[W,V];have:=(fc p hp).1;refine⟨small _ (by simp),by rw[xbc];exact small _ (by simp;lia),?_⟩;simp[aL]
  ·rw[zec];have e:(allS d (N - 1).toNat).map (fun p=>aL (p.1++[p.2]))=aJ (allL d (N - 1).toNat):=by
    unfold allL aJ;rw[xcr]
    rfl
   rw[e];exact k g
end
end Dd
namespace Dd
open PySem L2
section
variable {l:List Row}{N d:Int}
end
section
variable {st:Store}{n:Nat}{Q:D->Store->Prop}
noncomputable def mostD (N:Int):Int:=([24,24,18,8,5,4,3,3,3,2]:List Int).getD (N - 1).toNat 0
theorem zwx:(List.range 10).all (fun i=>decide (0<=mostD ((i:Int)+1)/\mostD ((i:Int)+1)<=(if((i:Int)+1)<=3 then 24 else 10)/\((mostD ((i:Int)+1)).toNat+1) ^ i<=100000))=true:=by decide +kernel
theorem zgh {N:Int}(h1:1<=N)(h2:N<=10):0<=mostD N/\mostD N<=(if N<=3 then 24 else 10)/\((mostD N).toNat+1) ^ (N - 1).toNat<=100000:=by
 have:=xet.mp zwx (N - 1).toNat (xcp.mpr (by lia));have:=xeg this;rw[show(((N - 1).toNat:Nat):Int)+1=N by lia] at this;exact this
theorem zbgc {N:Int}(h1:1<=N)(h2:N<=10):L2.atI (([24,24,18,8,5,4,3,3,3,2]:List Int).map D.int) (N - 1)=some (.int (mostD N)):=by
 obtain⟨j,hj⟩:=xgb (show 0<=N - 1 by lia);unfold mostD;rw[hj];refine zuv ?_;rw[xcv];have hlt:j < 10:=by lia
 rw[xdu,xda,xbi (by simpa using hlt)]
 rfl
theorem zxs {N:Int}(hb:BagAt st n)(h1:1<=N)(h2:N<=10)(k:∀(d:Int) st',0<=d->d<=mostD N->Drew st st' n->Q (.int d) st'):WP (zcw [.ref n,.int N] st) Q:=by
 obtain⟨m1,m2,m3⟩:=zgh h1 h2;have m4:mostD N<=24:=by split at m2<;>lia
 refine zhn rfl ?_;simp only[W,V];refine⟨small _ (by simp),trivial,ztt (xs:=([24,24,18,8,5,4,3,3,3,2]:List Int).map D.int) rfl (zbgc h1 h2) ?_⟩;simp only[W,V];refine zpn hb (by lia) (by lia) fun a s1 a1 a2 d1=>?_
 refine⟨small _ (by simp),?_⟩;refine zpn d1.bag (by lia) (by lia) fun b s2 b1 b2 d2=>?_
 simp only[W,V];refine⟨trivial,?_⟩;by_cases c:0 < b
 ·simp only[c,xey,xdz];exact ztt (xs:=[.int (mostD N),.int a]) rfl rfl (k _ _ a1 (by lia) (d1.trans d2))
 ·simp only[c,xfk];exact ztt (xs:=[.int (mostD N),.int a]) rfl rfl (k _ _ m1 (Int.le_refl _) (d1.trans d2))
end
end Dd
namespace K55
end K55
namespace Dd
open PySem L2 K13
theorem orx:∀v w:Nat,v ||| w=(v ^^^ w)+(v &&& w)/\v+w=(v ^^^ w)+2 * (v &&& w):=fun v=>by
 induction v using Nat.strongRecOn with
 | _ v ih =>
 intro w;by_cases c:v=0
 ·subst c;simp
 ·have h:=ih (v / 2) (by lia) (w / 2);have a1:(v ||| w) / 2=v / 2 ||| w / 2:=Nat.or_div_two
  have a2:(v ^^^ w) / 2=v / 2 ^^^ w / 2:=Nat.xor_div_two;have a3:(v &&& w) / 2=v / 2 &&& w / 2:=xjy;have b1:(v ||| w) % 2=1↔v % 2=1\/w % 2=1:=Nat.or_mod_two_eq_one;have b2:=Nat.xor_mod_two_eq_one (a:=v) (b:=w);have b3:(v &&& w) % 2=1↔v % 2=1/\w % 2=1:=Nat.and_mod_two_eq_one;rw[← a1,← a2,← a3] at h;generalize (v ||| w)=x at *
  generalize (v ^^^ w)=y at *
  generalize (v &&& w)=z at *
  lia
theorem zgp (v w:Nat):Builtin.bitAnd (v:Int) (w:Int)=((v &&& w:Nat):Int):=by simp[Builtin.bitAnd]
theorem zjr (v w:Nat):Builtin.bitXor (v:Int) (w:Int)=((v ^^^ w:Nat):Int):=by
 rw[PyProof.Rows.bitXor_and,zgp];have:=(orx v w).2;lia
theorem zyf (v w:Nat):Builtin.bitOr (v:Int) (w:Int)=((v ||| w:Nat):Int):=by
 have h:Builtin.bitXor (v:Int) (w:Int)=Builtin.bitOr v w - Builtin.bitAnd v w:=rfl;rw[zjr,zgp] at h;have:=(orx v w).1;lia
theorem zcr (v:Nat):Builtin.Int.intBits (v:Int)=bl v:=by
 unfold Builtin.Int.intBits bl;by_cases c:v=0
 ·rw[if_pos c,c];rfl
 ·rw[if_neg c,if_neg (by simp;exact c),Int.natAbs_natCast]
noncomputable def pw (AL:List Row) (r:Row):Nat:=2 ^ AL.idxOf r
theorem pw_lt {AL:List Row}{r:Row}(h:r∈AL):pw AL r < 2 ^ AL.length:=Nat.pow_lt_pow_right (by decide) (xel h)
theorem zbjg {α:Type}{f:α->Nat}{N:Nat}:∀{l:List α},(∀x∈l,f x < 2 ^ N)->xr l f < 2 ^ N
 | [],_=>Nat.two_pow_pos N
 | x::l,h=>Nat.xor_lt_two_pow (h x (xbn ..)) (zbjg fun y hy=>h y (xbp _ hy))
theorem zbdx {AL:List Row}{q:Nat}:∀{l:List Row},(∀x∈l,AL.idxOf x≠q)->(xr l (pw AL)).testBit q=false
 | [],_=>Nat.zero_testBit q
 | x::l,h=>by
  rw[zco,xkb,zbdx fun y hy=>h y (xbp _ hy)];unfold pw;rw[Nat.testBit_two_pow,xbv (h x (xbn ..))];rfl
theorem zbgs {AL:List Row}{x y:Row}(hx:x∈AL)(hy:y∈AL)(e:AL.idxOf x=AL.idxOf y):x=y:=by
 have a:=xks (xel hx);have b:=xks (xel hy);rw[← a,← b];congr 1
theorem zbir {t q:Nat}(h:t.testBit q=false):t &&& 2 ^ q=0:=by
 refine Nat.eq_of_testBit_eq fun i=>?_
 rw[Nat.testBit_and,Nat.testBit_two_pow,Nat.zero_testBit];by_cases c:q=i
 ·rw[← c,h];rfl
 ·rw[xbv c,xlq]
theorem zyv {AL l:List Row}{r:Row}(hl:∀x∈l,x∈AL)(hr:r∈AL)(n:r∉l):xr l (pw AL)+2 ^ AL.idxOf r=xr (l++[r]) (pw AL)/\(xr l (pw AL) ||| 2 ^ AL.idxOf r)=xr (l++[r]) (pw AL):=by
 have h:(xr l (pw AL)).testBit (AL.idxOf r)=false:=zbdx fun x hx e=>n (zbgs (hl x hx) hr e ▸ hx)
 have z:=zbir h;obtain⟨o1,o2⟩:=orx (xr l (pw AL)) (2 ^ AL.idxOf r);have e:xr (l++[r]) (pw AL)=xr l (pw AL) ^^^ 2 ^ AL.idxOf r:=by rw[zhy];show _ ^^^ (pw AL r ^^^ 0)=_;rw[xev];rfl
 rw[z] at o1 o2;rw[e];lia
theorem zbjf {f:Row->Nat}{a b:List Row}(h:∀x,a.count x % 2=b.count x % 2):xr a f=xr b f:=by
 have bit:∀(l:List Row) (i:Nat),(xr l f).testBit i=decide (tot l (fun x=>if(f x).testBit i=true then 1 else 0) % 2=1):=fun l i=>by
  induction l with
  | nil=>simp[xr,tot]
  | cons x l ih =>
   rw[zco,xkb,ih,znu];cases(f x).testBit i
   ·simp
   ·simp only[xdz];rw[xgq];simp;lia
 refine Nat.eq_of_testBit_eq fun i=>?_
 rw[bit,bit,zbeh _ h]
theorem zzy {f:Row->Nat}{k:Int}{p:Row}(hk:0<=k)(hp:Nn p):xr (aO (raiseL k [p])) f=T k f p:=by
 rw[zbjf fun x=>zum (raiseL k [p]) x,show raiseL k [p]=raiseR k p by unfold raiseL;simp,zmx hp hk,zld];unfold T;refine zbd fun x _=>?_
 by_cases c:x.sum=p.sum+k
 ·rw[if_pos (xbu c),if_pos c]
 ·rw[if_neg (by simp[c]),if_neg c]
theorem zqu:∀(m:Nat) (d:Int),allS d (m+1)=(List.range (d.toNat+1)).flatMap fun e:Nat=>(allS (d - e) m).map fun p=>((e:Int)::p.1,p.2)
 | 0,d=>by
  show([(([]:Row),d)]:List Pt).flatMap allJ=_;rw[List.flatMap_singleton];unfold allJ;rw[List.map_eq_flatMap]
  rfl
 | m+1,d=>by
  show(allS d (m+1)).flatMap allJ=_;rw[zqu m d,List.flatMap_assoc];refine congrArg (fun f=>List.flatMap f (List.range (d.toNat+1))) (funext fun e=>?_);show _=((allS (d - e) m).flatMap allJ).map _;rw[List.flatMap_map,xjl];refine congrArg (fun f=>List.flatMap f (allS (d - e) m)) (funext fun p=>?_);unfold allJ;rw[xcr]
  rfl
theorem zmj (m:Nat)(d:Int):allL d (m+1)=(List.range (d.toNat+1)).flatMap fun e:Nat=>(allL (d - e) m).map fun r=>(e:Int)::r:=by
 unfold allL;rw[zqu,xjl];refine congrArg (fun f=>List.flatMap f (List.range (d.toNat+1))) (funext fun e=>?_);rw[xcr,xcr]
 rfl
theorem zjs:∀(m:Nat) (d:Int),(allL d m).Nodup
 | 0,d=>by show[[d]].Nodup;simp
 | m+1,d=>by
  rw[zmj];refine List.pairwise_flatMap.mpr ⟨fun e _=>?_,List.nodup_range.imp fun {a b} ne x hx y hy h=>?_⟩
  ·exact List.pairwise_map.mpr ((zjs m _).imp fun {a b} ne h=>ne (List.cons.inj h).2)
  ·obtain⟨r,_,rfl⟩:=xce.mp hx;obtain⟨s,_,rfl⟩:=xce.mp hy;have:=(List.cons.inj h).1;lia
end Dd
namespace Dd
open PySem L2
section
variable {k:Nat}{d:D}{st:Store}
end
section
variable {st:Store}{Q:D->Store->Prop}
end
section
variable {st:Store}{k:Nat}{d:D}{m:Int}{Q:D->Store->Prop}
end
section
variable {st:Store}{Q:D->Store->Prop}
end
section
variable {st:Store}{k:Nat}{d:D}{Q:D->Store->Prop}
end
section
variable {st:Store}{n:Nat}{Q:D->Store->Prop}
end
end Dd
namespace K37
end K37
namespace Dd
open PySem L2
section
variable {st:Store}{n:Nat}{Q:D->Store->Prop}
theorem _root_.List.set_getElem_self' {α:Type}{s:List α}{m:Nat}{x:α}(h:s[m]?=some x):s.set m x=s:=by
 obtain⟨hm,rfl⟩:=xbf.mp h;exact List.set_getElem_self hm
end
end Dd
namespace K39
end K39
namespace Dd
open PySem L2
namespace Tab
/- the law's side -/
/- what is looked at -/
end Tab
namespace Tab
theorem wp_grow {α:Type}{bd:SG}{body:SS}{st:Store}{Q:Fl->Store->Prop}(E:α->D)(f:α->List D)(S:DS->Prop)(B:Nat){as:List α}{acc:List D}{σ:DS}{g:Store}(h0:S σ)(hB:(acc++as.flatMap f).length<=B)
  (t:∀a∈as,∀σ acc g,S σ->(acc++f a).length<=B->∃σ1,bd (E a) σ=some σ1/\∀R:Fl->Store->Prop,(∀σ' g',S σ'->R (.nx σ') (st++(.lst (acc++f a)::g')))->WP (body σ1 (st++(.lst acc::g))) R)
  (q:∀σ' g',S σ'->Q (.nx σ') (st++(.lst (acc++as.flatMap f)::g'))):WP (forF bd body (as.map E) σ (st++(.lst acc::g))) Q:=by
 refine zdc (fun i σ s=>∃g,S σ/\s=st++(.lst (acc++(as.take i).flatMap f)::g)) ⟨g,h0,by simp⟩ ?_ ?_
 ·rintro i x σ s hx ⟨g,hS,rfl⟩;rw[xcv] at hx;obtain⟨z,hz,rfl⟩:=xcz.mp hx;have e:(as.take (i+1)).flatMap f=(as.take i).flatMap f++f z:=by rw[zm hz,xge];simp
  have hl:((as.take (i+1)).flatMap f).length<=(as.flatMap f).length:=by
   conv=>rhs;rw[← xei (i+1) as,xge,xbl]
   lia
  rw[e] at hl;rw[xbl] at hB hl;obtain⟨σ1,e1,w⟩:=t z (xbq hz) σ (acc++(as.take i).flatMap f) g hS (by simp only[xbl];lia);refine⟨σ1,e1,w _ fun σ' g' h'=>?_⟩;simp only[L];exact⟨g',h',by rw[e,xci]⟩
 ·rintro σ s ⟨g,hS,rfl⟩;rw[xbc,xby];exact q _ _ hS
section
variable {st:Store}{Q:D->Store->Prop}
end
end Tab
end Dd
namespace Dd
open PySem L2 K13
noncomputable def bitK (Q:D->Store->Prop):D->Store->Prop:=fun v s=>match v with
 | .int i=>Q (.int (Builtin.Int.intBits i)) s
 | _=>False
theorem zke {f:SE}{σ:DS}{st:Store}{Q:D->Store->Prop}:WP (eBits f σ st) Q=WP (f σ st) (bitK Q):=by
 unfold eBits;rw[zj]
 congr
 funext x s
 cases x<;>rfl
theorem zhl {i:Int}{Q:D->Store->Prop}{s:Store}:bitK Q (.int i) s=Q (.int (Builtin.Int.intBits i)) s:=rfl
theorem zsb {σ:DS}{st:Store}{Q:D->Store->Prop}:WP (eDNewI σ st) Q=Q (.ref st.length) (st++[.dI []]):=rfl
theorem zbcd {neg:Bool}{st:Store}{n:Nat}{k:Int}{kvs:List (Int×D)}(h:st[n]?=some (.dI kvs)):oIIn neg (.int k) (.ref n) st=.ok (.bl (if neg then !(valI kvs k).isSome else(valI kvs k).isSome)) st:=by
 unfold oIIn intsOf;simp only[h]
theorem zzg {st:Store}{n:Nat}{k:Int}{v:D}{kvs:List (Int×D)}(h:st[n]?=some (.dI kvs))(hv:valI kvs k=some v):oIGet (.ref n) (.int k) st=.ok v st:=by
 unfold oIGet intsOf;simp only[h,hv]
theorem zyk {f g h:SE}{σ:DS}{st:Store}{Q:Fl->Store->Prop}(q:WP (h σ st) (fun v s1=>WP (f σ s1) (fun x s2=>WP (g σ s2) (fun y s3=>∃n k kvs,x=.ref n/\y=.int k/\s3[n]?=some (.dI kvs)/\kvs.length < sizeLine/\Q (.nx σ) (s3.set n (.dI (putI kvs k v))))))):WP (sIPut f g h σ st) Q:=by
 unfold sIPut;rw[zj];refine q.mono fun v s1 q=>?_
 rw[zj];refine q.mono fun x s2 q=>?_
 rw[zj];refine q.mono fun y s3 q=>?_
 obtain⟨n,k,kvs,rfl,rfl,e,hl,q⟩:=q;simp only[e,hl,xdz];exact q
theorem zyl {f g h:SE}{σ:DS}{st:Store}{Q:Fl->Store->Prop}(q:WP (h σ st) (fun v s1=>WP (f σ s1) (fun x s2=>WP (g σ s2) (fun y s3=>∃n r kvs,x=.ref n/\y=aL r/\s3[n]?=some (.dT kvs)/\kvs.length < sizeLine/\Q (.nx σ) (s3.set n (.dT (putD kvs r v))))))):WP (sDPut f g h σ st) Q:=by
 unfold sDPut;rw[zj];refine q.mono fun v s1 q=>?_
 rw[zj];refine q.mono fun x s2 q=>?_
 rw[zj];refine q.mono fun y s3 q=>?_
 obtain⟨n,r,kvs,rfl,rfl,e,hl,q⟩:=q;rw[zfc];simp only[e,hl,xdz];exact q
theorem zua {κ:Type}[DecidableEq κ]{kvs:List (κ×D)}{k j:κ}{v:D}:((if(kvs.any fun kv=>decide (kv.1=k))=true then kvs.map (fun kv=>if kv.1=k then(kv.1,v) else kv) else kvs++[(k,v)]).find? fun kv=>decide (kv.1=j)).map (·.2)=if j=k then some v else(kvs.find? fun kv=>decide (kv.1=j)).map (·.2):=by
 by_cases c:(kvs.any fun kv=>decide (kv.1=k))=true
 ·rw[if_pos c]
  induction kvs with
  | nil=>simp at c
  | cons p kvs ih =>
   rw[xbt,xdk,xdk];by_cases e:p.1=k
   ·rw[if_pos e];by_cases z:p.1=j
    ·simp only[z,xey,Option.map_some];rw[if_pos (z.symm.trans e)]
    ·have zk:¬ j=k:=fun q=>z (e.trans q.symm)
     simp only[z,xfk,if_neg zk];by_cases c2:(kvs.any fun kv=>decide (kv.1=k))=true
     ·rw[ih c2,if_neg zk]
     ·have:kvs.map (fun kv=>if kv.1=k then(kv.1,v) else kv)=kvs:=by
       refine(xke fun q hq=>?_).trans (List.map_id _);by_cases y:q.1=k
       ·exact absurd (xjj.mpr ⟨q,hq,by simp[y]⟩) c2
       ·rw[if_neg y];rfl
      rw[this]
   ·rw[if_neg e];have c2:(kvs.any fun kv=>decide (kv.1=k))=true:=by rw[xgv,xbv e,Bool.false_or] at c;exact c
    by_cases z:p.1=j
    ·simp only[z,xey];rw[if_neg (fun q=>e (z.trans q))]
    ·simp only[z,xfk];exact ih c2
 ·rw[if_neg c,List.find?_append];by_cases z:j=k
  ·subst z;have:kvs.find? (fun kv=>decide (kv.1=j))=none:=by
    refine List.find?_eq_none.mpr fun q hq=>?_
    intro y;exact c (xjj.mpr ⟨q,hq,y⟩)
   rw[this];simp
  ·rw[if_neg z];have:[(k,v)].find? (fun kv=>decide (kv.1=j))=none:=by
    rw[xdk];have:¬ k=j:=fun q=>z q.symm
    simp[this]
   rw[this,Option.or_none]
theorem zlg {kvs:List (Int×D)}{k j:Int}{v:D}:valI (putI kvs k v) j=if j=k then some v else valI kvs j:=zua
theorem zbae {kvs:List (Row×D)}{k j:Row}{v:D}:valD (putD kvs k v) j=if j=k then some v else valD kvs j:=zua
theorem zyz {κ:Type}[DecidableEq κ]{kvs:List (κ×D)}{k:κ}{v:D}:(if(kvs.any fun kv=>decide (kv.1=k))=true then kvs.map (fun kv=>if kv.1=k then(kv.1,v) else kv) else kvs++[(k,v)]).length<=kvs.length+1:=by
 split
 ·rw[xbc];lia
 ·rw[xbl];exact xbe _
theorem zsy {kvs:List (Int×D)}{k:Int}{v:D}:(putI kvs k v).length<=kvs.length+1:=zyz
theorem zbap {kvs:List (Row×D)}{k:Row}{v:D}:(putD kvs k v).length<=kvs.length+1:=zyz
theorem zvj {f:SE}{σ:DS}{st:Store}{Q:List D->Store->Prop}(h:WP (f σ st) (fun x s=>∃xs,x=.lst xs/\Q (numF 0 xs) s)):WP (iEn0 f σ st) Q:=by
 unfold iEn0;rw[zj];refine h.mono fun x s q=>?_
 obtain⟨xs,rfl,q⟩:=q;exact q
theorem small17 {n:Nat}(h:n < 16000000):n < sizeLine:=by rw[xjg];lia
theorem zph {d:Int}(h0:0<=d)(m:Nat):(allL d m).length<=(d.toNat+1) ^ m:=by unfold allL;rw[xbc];exact zmi h0 m
theorem zbey:∀(f m:Nat) {d:Int} {N:Int} {st:Store} {Q:D->Store->Prop},m<=f->m<=100->N=(m:Int)+1->0<=d->d<=1000->(d.toNat+1) ^ m<=100000 ->
  (∀g,Q (.lst (aJ (allL d m))) (st++g))->WP (iterF zn (f+1) [.int N,.int d] st) Q:=fun f=>by
 induction f with
 | zero =>
  intro m d N st Q hm _ hN h0 hd hb k;obtain rfl:m=0:=by lia
  show WP (fnD 4 2 _ [.int N,.int d] st) Q;refine zhn rfl ?_;simp only[W,V];rw[if_pos (show N=1 by lia)];refine⟨small _ (by simp),small _ (by simp),?_⟩;have:=k [];rw[xdp] at this;exact this
 | succ f ih =>
  intro m d N st Q hm hm2 hN h0 hd hb k;show WP (fnD 4 2 _ [.int N,.int d] st) Q;refine zhn rfl ?_;simp only[W,V];by_cases c:m=0
  ·subst c;rw[if_pos (show N=1 by lia)];refine⟨small _ (by simp),small _ (by simp),?_⟩;have:=k [];rw[xdp] at this;exact this
  ·obtain⟨j,rfl⟩:∃j,m=j+1:=⟨m - 1,by lia⟩
   rw[if_neg (show ¬ N=1 by lia)];simp only[W,V,Dd.N];refine⟨small _ (by simp),rngN (by lia) (by lia),?_⟩;have fl:=zph h0 (j+1);have hd1:(d+1).toNat=d.toNat+1:=by lia
   have e0:aJ (allL d (j+1))=(List.range (d.toNat+1)).flatMap fun e:Nat=>(allL (d - e) j).map fun r=>aL ((e:Int)::r):=by
    rw[zmj];unfold aJ;rw[xjl];simp only[xcr];rfl
   rw[hd1];unfold rng;refine Tab.wp_grow (fun e:Nat=>.int (0+(e:Int))) (fun e:Nat=>(allL (d - e) j).map fun r=>aL ((e:Int)::r)) (fun σ=>∃v,σ=[some (.int N),some (.int d),some (.ref st.length),v]) 100000 (acc:=[]) (g:=[]) ⟨_,rfl⟩ ?_ ?_ ?_
   ·rw[xjv,← e0,zi];lia
   ·rintro e he σ acc g ⟨v,rfl⟩ hB;have he:=xcp.mp he;refine⟨_,rfl,fun R hR=>?_⟩;rw[xfw];unfold zcf;simp only[W,V,zfy];refine⟨_,_,rfl,by simp;rfl,?_⟩;have pb:((d - (e:Int)).toNat+1) ^ j<=100000:=by
     have p1:((d - (e:Int)).toNat+1) ^ j<=(d.toNat+1) ^ j:=xkf (by lia) _;have p2:(d.toNat+1) ^ j<=(d.toNat+1) ^ (j+1):=xfc (by lia) (by lia);lia
    refine⟨trivial,trivial,?_⟩;refine ih j (d:=d - (e:Int)) (N:=N - 1) (by lia) (by lia) (by lia) (by lia) (by lia) pb fun g2=>?_
    refine⟨_,rfl,?_⟩;have fl2:=zph (show 0<=d - (e:Int) by lia) j;have fc:=fun r hr=>@zgr (d - (e:Int)) (by lia) j r hr
    refine⟨by rw[zi];exact small _ (by lia),?_⟩;unfold aJ;refine zlf (fun σ=>∃v,σ=[v,some (.int (e:Int))]) (fun _=>true) (fun r=>aL ((e:Int)::r)) aL ⟨_,rfl⟩ ?_ ?_
    ·rintro r hr σ ⟨v,rfl⟩;refine⟨_,rfl,⟨_,rfl⟩,by simp only[W,xgx],fun _=>?_⟩;simp only[W,V,aL];have:=(fc r hr).1;refine⟨small _ (by simp),small _ (by simp;lia),trivial,?_⟩;simp
    ·rw[zec];rw[xbl] at hB;refine⟨_,_,_,rfl,by simp;rfl,rfl,by rw[xbc] at hB ⊢;exact small _ (by lia),?_⟩;have:=hR _ (g++g2) ⟨some (.int e),rfl⟩
     simpa using this
   ·rintro σ g ⟨v,rfl⟩;simp only[W,V,M,Dd.N,L];refine⟨_,_,rfl,by simp;rfl,?_⟩;rw[← e0];have:=k (.dead::g)
    simpa using this
noncomputable def twos (i:Nat):List Int:=(List.range i).map fun t=>((2 ^ t:Nat):Int)
structure Enough (d:Int) (i:Nat):Prop where
 low:∀t,t < i->2 * ((2 ^ t:Nat):Int)<=d
 top:d < 2 * ((2 ^ i:Nat):Int)
theorem zbbh {d:Int}{st:Store}{Q:D->Store->Prop}(h0:0<=d)(hd:d<=1000)(k:∀i g,Enough d i->Q (.lst ((twos i).map .int)) (st++g)):WP (zcd [.int d] st) Q:=by
 refine zhn rfl ?_;simp only[W,V];refine⟨small _ (by simp),?_⟩;refine zle (fun m σ s=>∃i:Nat,m=(d+1 - ((2 ^ i:Nat):Int)).toNat/\σ=[some (.int d),some (.ref st.length),some (.int ((2 ^ i:Nat):Int))]/\s=st++[.lst ((twos i).map .int)]/\∀t,t < i->2 * ((2 ^ t:Nat):Int)<=d) (k:=(d+1 - ((2 ^ 0:Nat):Int)).toNat)
  ⟨0,rfl,rfl,by simp[twos],fun t ht=>absurd ht (by lia)⟩ (by lia) ?_
 rintro m σ s ⟨i,hm,rfl,rfl,low⟩;have p0:1<=2 ^ i:=xkq;have p1:2 ^ (i+1)=2 * 2 ^ i:=by rw[xli];lia
 simp only[W,V];refine⟨.inl ⟨by decide,by decide⟩,trivial,?_⟩;by_cases c:2 * ((2 ^ i:Nat):Int)<=d
 ·rw[if_pos c];have hi:i < 1000:=by
   have:i < 2 ^ i:=Nat.lt_two_pow_self;lia
  unfold zek;simp only[W,V,M,Dd.N,L];refine⟨_,_,rfl,by simp;rfl,_,_,rfl,by simp;rfl,?_,?_⟩
  ·rw[xbc];unfold twos;rw[xbc,xfy];exact small17 (by lia)
  ·refine⟨.inl ⟨by decide,by decide⟩,(d+1 - ((2 ^ (i+1):Nat):Int)).toNat,by lia,i+1,rfl,by rw[p1];simp,?_,fun t ht=>?_⟩
   ·unfold twos;rw[xij];simp
   ·by_cases z:t=i
    ·rw[z];exact c
    ·exact low t (by lia)
 ·rw[if_neg c];simp only[W,V,M,Dd.N,L];refine⟨_,_,rfl,by simp;rfl,?_⟩;have:=k i [.dead] ⟨low,by lia⟩
  simpa using this
section
variable {st:Store}{Q:D->Store->Prop}
noncomputable def srcs (d:Int) (m i:Nat):List (Int×Row):=(twos i).flatMap fun k=>(allL (d - k) m).map fun p=>(k,p)
noncomputable def srcD (p:Int×Row):D:=.tup [.int p.1,aL p.2]
structure Fit (m:Nat) (d:Int):Prop where
 m9:m<=9
 d0:0<=d
 d24:d<=24
 few:(d.toNat+1) ^ m<=100000
 ten:2 < m->d<=10
theorem Fit.less {m:Nat}{d k:Int}(h:Fit m d)(h0:0<=k)(hk:k<=d):Fit m (d - k):=⟨h.m9,by lia,by have:=h.d24;lia,xbb (xkf (by have:=h.d0;lia) _) h.few,fun z=>by have:=h.ten z;lia⟩
theorem Fit.len {m:Nat}{d:Int}(h:Fit m d):(allL d m).length<=100000:=xbb (zph h.d0 m) h.few
theorem Enough.few {d:Int}{i:Nat}(h:Enough d i)(hd:d<=24):i<=4:=by
 rcases xes 4 i with z | z
 ·have:=h.low 4 z;lia
 ·exact z
theorem zii {d k:Int}{i:Nat}(h:Enough d i)(hk:k∈twos i):∃t,k=((2 ^ t:Nat):Int)/\2 * k<=d/\1<=k:=by
 unfold twos at hk;obtain⟨t,ht,rfl⟩:=xce.mp hk;have:1<=2 ^ t:=xkq;exact⟨t,rfl,h.low t (xcp.mp ht),by lia⟩
theorem znw {m:Nat}{d:Int}(h:Fit m d):∀{ks:List Int},(∀k∈ks,0<=k/\k<=d)->(ks.flatMap fun k=>(allL (d - k) m).map fun p=>(k,p)).length<=ks.length * 100000
 | [],_=>xbe _
 | k::ks,hk=>by
  rw[xlc,xbl,xbc,xcb];have a:=(h.less (hk k (xbn ..)).1 (hk k (xbn ..)).2).len;have b:=znw h (ks:=ks) fun x hx=>hk x (xbp _ hx)
  lia
theorem zhi {N d:Int}{m:Nat}(hN:N=(m:Int)+1)(h:Fit m d)(k:∀i g,Enough d i->Q (.lst ((srcs d m i).map srcD)) (st++g)):WP (zbg [.int N,.int d] st) Q:=by
 have h24:=h.d24;have hd0:=h.d0;refine zhn rfl ?_;simp only[W,V];refine⟨small _ (by simp),?_⟩;refine zbbh h.d0 (by lia) fun i g0 en=>?_
 have i4:=en.few h24;simp only[Dd.N];have e0:(srcs d m i).map srcD=(twos i).flatMap fun k=>(allL (d - k) m).map fun p=>srcD (k,p):=by
  unfold srcs;rw[xjl];simp only[xcr];rfl
 rw[xci];refine Tab.wp_grow (fun k:Int=>.int k) (fun k=>(allL (d - k) m).map fun p=>srcD (k,p)) (fun σ=>∃v,σ=[some (.int N),some (.int d),some (.ref st.length),v]) 500000 (acc:=[]) (g:=g0) ⟨_,rfl⟩ ?_ ?_ ?_
 ·rw[xjv,← e0,xbc];have:=znw h (ks:=twos i) fun k hk=>by obtain⟨t,_,a,b⟩:=zii en hk;lia
  have l:(twos i).length=i:=by unfold twos;simp
  rw[l] at this;unfold srcs;lia
 ·rintro k hk σ acc g ⟨v,rfl⟩ hB;obtain⟨t,_,a,b⟩:=zii en hk;have hf:=h.less (k:=k) (by lia) (by lia);refine⟨_,rfl,fun R hR=>?_⟩;unfold zct;simp only[W,V,zfy];refine⟨_,_,rfl,by simp;rfl,?_⟩;refine⟨trivial,zbey 9 m (d:=d - k) (N:=N) hf.m9 (by have:=hf.m9;lia) hN hf.d0 (by lia) hf.few fun g2=>?_⟩;refine⟨_,rfl,by rw[zi];exact small _ (by have:=hf.len;lia),?_⟩;unfold aJ;refine zlf (fun σ=>∃v,σ=[v,some (.int k)]) (fun _=>true) (fun r=>srcD (k,r)) aL ⟨_,rfl⟩ ?_ ?_
  ·rintro r hr σ ⟨v,rfl⟩;refine⟨_,rfl,⟨_,rfl⟩,by simp only[W,xgx],fun _=>?_⟩;simp only[W,V];exact⟨small _ (by simp),trivial,rfl⟩
  ·rw[zec];rw[xbl] at hB;refine⟨_,_,_,rfl,by simp;rfl,rfl,by rw[xbc] at hB ⊢;exact small _ (by lia),?_⟩;have:=hR _ (g++g2) ⟨some (.int k),rfl⟩
   simpa using this
 ·rintro σ g ⟨v,rfl⟩;simp only[W,V,M,Dd.N,L];refine⟨_,_,rfl,by simp;rfl,?_⟩;rw[← e0];have:=k i (.dead::g) en
  simpa using this
structure Plc (AL:List Row) (i:Nat) (kvs:List (Row×D)):Prop where
 val:∀r,valD kvs r=if AL.idxOf r < i then some (.int (AL.idxOf r:Int)) else none
 len:kvs.length<=i
theorem zblk {AL:List Row}(nd:AL.Nodup){i:Nat}{r:Row}(h:AL[i]?=some r)(x:Row):AL.idxOf x=i↔x=r:=by
 obtain⟨hi,e⟩:=xbf.mp h;constructor
 ·intro q;have:AL.idxOf x < AL.length:=by lia
  have:=xks this;rw[← this,← e];simp only[q]
 ·intro q;rw[q,← e];exact List.Nodup.idxOf_getElem nd i hi
theorem Plc.put {AL:List Row}(nd:AL.Nodup){i:Nat}{r:Row}{kvs:List (Row×D)}(h:Plc AL i kvs)(hr:AL[i]?=some r):Plc AL (i+1) (putD kvs r (.int (0+(i:Int)))):=⟨fun x=>by
 rw[zbae,h.val x];have q:=zblk nd hr x;by_cases c:x=r
 ·rw[if_pos c,q.mpr c,if_pos (by lia),xfw]
 ·rw[if_neg c];have:AL.idxOf x≠i:=fun z=>c (q.mp z)
  by_cases d:AL.idxOf x < i
  ·rw[if_pos d,if_pos (by lia)]
  ·rw[if_neg d,if_neg (by lia)],xbb zbap (by have:=h.len;lia)⟩
theorem Plc.at {AL:List Row}{kvs:List (Row×D)}(h:Plc AL AL.length kvs){r:Row}(hr:r∈AL):valD kvs r=some (.int (AL.idxOf r:Int)):=by
 rw[h.val,if_pos (xel hr)]
theorem zwj {AL:List Row}(nd:AL.Nodup)(hl:AL.length<=100000)(k:∀kvs,Plc AL AL.length kvs->Q (.ref st.length) (st++[.dT kvs])):WP (zdp [.lst (aJ AL)] st) Q:=by
 refine zhn rfl ?_;simp only[W,V];refine zvj ?_;simp only[W,V];refine⟨_,rfl,?_⟩;refine zdc (fun i σ s=>(∃v w,σ=[some (.lst (aJ AL)),some (.ref st.length),v,w])/\∃kvs,s=st++[.dT kvs]/\Plc AL i kvs) ⟨⟨_,_,rfl⟩,[],rfl,fun r=>(by rw[if_neg (by lia)];rfl),xbe _⟩ ?_ ?_
 ·rintro i x σ s hx ⟨⟨v,w,rfl⟩,kvs,rfl,pl⟩;obtain⟨y,hy,rfl⟩:=zje hx;obtain⟨r,hr,rfl⟩:=zbx hy;have hi:i < AL.length:=(xbf.mp hr).1;refine⟨_,rfl,?_⟩;unfold zgs;refine zyl ?_;simp only[W,V,L];exact⟨_,_,_,rfl,rfl,by simp;rfl,small17 (by have:=pl.len;lia),⟨_,_,rfl⟩,_,by simp,pl.put nd hr⟩
 ·rintro σ s ⟨⟨v,w,rfl⟩,kvs,rfl,pl⟩;rw[zch,zi] at pl;simp only[W,V];exact k kvs pl
theorem zjf {l:List Row}{i:Nat}{r:Row}(nd:l.Nodup)(h:l[i]?=some r):r∉l.take i:=fun hm=>by
 have n:=nd.sublist (xkv (i+1) l);rw[zm h] at n;exact(xlb.mp n).2.2 r hm r (by simp) rfl
theorem zpe {AL l:List Row}{n:Nat}{kvs:List (Row×D)}(hp:st[n]?=some (.dT kvs))(pl:Plc AL AL.length kvs)(hl:AL.length<=100000)(nd:l.Nodup)(hm:∀x∈l,x∈AL)(q:Q (.int (xr l (pw AL):Nat)) st):WP (zdu [.ref n,aK l] st) Q:=by
 refine zhn rfl ?_;simp only[W,V,Dd.N];refine zdc (fun i σ s=>(∃v,σ=[some (.ref n),some (aK l),some (.int (xr (l.take i) (pw AL):Nat)),v])/\s=st) ⟨⟨_,rfl⟩,rfl⟩ ?_ ?_
 ·rintro i x σ s hx ⟨⟨v,rfl⟩,rfl⟩;obtain⟨r,hr,rfl⟩:=zbx hx;have hrm:=xbq hr;have hix:=xel (hm r hrm);refine⟨_,rfl,?_⟩;unfold zgy;simp only[W,V];rw[zon (zja hp) (pl.at (hm r hrm))];simp only[W,V,L];refine⟨⟨by lia,by lia,by decide⟩,trivial,⟨some (aL r),?_⟩,trivial⟩;have nw:=zyv (AL:=AL) (l:=l.take i) (r:=r) (fun x hx=>hm x (xfb hx)) (hm r hrm) (zjf nd hr);rw[show(1:Int) * 2 ^ (AL.idxOf r:Int).toNat=((2 ^ AL.idxOf r:Nat):Int) by rw[Int.one_mul,xdu];simp,zyf,nw.2,← zm hr]
 ·rintro σ s ⟨⟨v,rfl⟩,rfl⟩;rw[zi,xby];simp only[W,V];exact q
end
section
variable {st:Store}{Q:D->Store->Prop}
structure PRep (A:Tab) (kvs:List (Int×D)):Prop where
 yes:∀k v,A k=some v->∃u:Int,valI kvs k=some (.tup [.int (v:Nat),.int u])
 no:∀k:Nat,A k=none->valI kvs k=none
theorem PRep.is {A:Tab}{kvs:List (Int×D)}(h:PRep A kvs)(k:Nat):(valI kvs k).isSome=(A k).isSome:=by
 cases e:A k with
 | none=>rw[h.no k e];rfl
 | some v=>obtain⟨u,z⟩:=h.yes k v e;rw[z];rfl
theorem PRep.put {A:Tab}{kvs:List (Int×D)}(h:PRep A kvs)(k v:Nat)(u:Int):PRep (setT A k v) (putI kvs k (.tup [.int (v:Nat),.int u])):=⟨fun j w e=>by
 unfold setT at e;rw[zlg];by_cases c:j=k
 ·rw[if_pos c] at e;cases e;rw[if_pos (by rw[c])];exact⟨u,rfl⟩
 ·rw[if_neg c] at e;rw[if_neg (by lia)];exact h.yes j w e,fun j e=>by
 unfold setT at e;rw[zlg];by_cases c:j=k
 ·rw[if_pos c] at e;cases e
 ·rw[if_neg c] at e;rw[if_neg (by lia)];exact h.no j e⟩
theorem zro {N x n:Nat}{A:Tab}{gs:List Nat}{kvs:List (Int×D)}(hn:st[n]?=some (.dI kvs))(rp:PRep A kvs)(ld:Lds N A gs)(hx:bl x<=N)(hN:N<=100000)
  (k:∀(y:Nat) (u:Int),Less N A x y->(y≠0->A (bl y)=none)->Q (.tup [.int (y:Nat),.int u]) st):WP (zfb [.ref n,.int (x:Nat)] st) Q:=by
 refine zhn rfl ?_;simp only[W,V];refine zle (fun m σ s=>∃(y:Nat) (u:Int) (v:Option D),m=bl y/\σ=[some (.ref n),some (.int (y:Nat)),some (.int u),v]/\s=st/\Less N A x y) (k:=bl x) ⟨x,0,_,rfl,rfl,rfl,.refl hx⟩ (by lia) ?_;rintro m σ s ⟨y,u,v,rfl,rfl,rfl,ls⟩;simp only[W,V];refine⟨_,rfl,?_⟩;by_cases c:y=0
 ·subst c;rw[show(((0:Nat):Int) != 0)=false from rfl,if_neg (by decide)];exact⟨small _ (by simp),k 0 u ls fun z=>absurd rfl z⟩
 ·rw[show(((y:Nat):Int) != 0)=true by simp[c],if_pos rfl,zke];simp only[W,V,zhl];rw[zcr,zbcd hn];simp only[W,V,rp.is,xch,xdo];cases e:A (bl y) with
  | none =>
   simp only[xkn,xch,xdo,W,V];exact⟨small _ (by simp),k y u ls fun _=>e⟩
  | some w =>
   simp only[xkk,xdz];obtain⟨u',hu⟩:=rp.yes _ _ e;obtain⟨l2,l3⟩:=ls.step ld c e;unfold zht;simp only[W,V,zke,zhl];rw[zcr,zzg hn hu];simp only[W,V,M,Dd.N,L];refine ztt rfl rfl ?_;simp only[W,V];rw[zjr];refine⟨trivial,ztt rfl rfl ?_⟩;simp only[W,V];exact⟨trivial,_,l3,_,_,_,rfl,rfl,trivial,l2⟩
theorem len59 {m:Nat}{xs:List D}(h:st[m]?=some (.lst xs)):bLen [.ref m] st=.ok (.int xs.length) st:=by
 unfold bLen;dsimp only;rw[show seqOf st (.ref m)=some xs from znp h]
theorem Fit.box {m:Nat}{d:Int}(h:Fit m d){p:Row}(f1:p.length=m+1)(f2:Nn p)(f3:p.sum<=d):Dd.box p<=20000:=by
 have h24:=h.d24;have x24:∀x∈p,x<=24:=fun x hx=>by have:=zbja f2 x hx;lia
 by_cases c:m<=2
 ·have b1:=zzu x24;rw[f1] at b1;have b2:25 ^ (m+1)<=25 ^ 3:=xfc (by lia) (by lia);lia
 ·have t:=h.ten (by lia);have b1:=zzt f2;have b2:2 ^ p.sum.toNat<=2 ^ 10:=xfc (by lia) (by lia);lia
theorem zsw {m:Nat}{d k:Int}{p x:Row}(h0:0<=k)(hp:Mon (m+1) (d - k) p)(hx:x∈aO (raiseL k [p])):x∈allL d m:=by
 have h1:=zbbm hx;rw[show raiseL k [p]=raiseR k p by unfold raiseL;simp,zmx hp.nn h0] at h1;obtain⟨a,b⟩:=xgo.mp h1;exact zux ((zkf hp.nn x a).2.trans hp.len) (zns p hp.nn x a) (by rw[xeg b,hp.sum];lia)
theorem zpg {m:Nat}{d:Int}(h0:0<=d){p:Row}(h:p∈allL d m):Mon (m+1) d p:=by
 obtain⟨a,b,c⟩:=zgr h0 h;exact⟨a,b,c⟩
theorem zpf {N d:Int}{m n:Nat}{pk:List (Row×D)}(hN:N=(m:Int)+1)(h:Fit m d)(hp:st[n]?=some (.dT pk))(pl:Plc (allL d m) (allL d m).length pk)
  (k:∀kvs so g A i,Enough d i->PRep A kvs->Lds (allL d m).length A ((srcs d m i).map fun p=>T p.1 (pw (allL d m)) p.2)->Q (.tup [.ref st.length,.lst so]) (st++.dI kvs::.dead::g)):WP (zdv [.int N,.int d,.ref n] st) Q:=by
 have hl:=h.len;have h24:=h.d24;refine zhn rfl ?_;simp only[W,V,zsb];refine⟨small _ (by simp),?_⟩;refine zhi hN h fun i g0 en=>?_
 simp only[Dd.N];have i4:=en.few h24;have sl:(srcs d m i).length<=400000:=by
  have:=znw h (ks:=twos i) fun k hk=>by obtain⟨t,_,a,b⟩:=zii en hk;lia
  have l:(twos i).length=i:=by unfold twos;simp
  rw[l] at this;unfold srcs;lia
 have mem:∀p∈srcs d m i,1<=p.1/\2 * p.1<=d/\Mon (m+1) (d - p.1) p.2:=fun p hp=>by
  unfold srcs at hp;obtain⟨k,hk,hp⟩:=xdx.mp hp;obtain⟨r,hr,rfl⟩:=xce.mp hp;obtain⟨t,_,a,b⟩:=zii en hk;exact⟨b,a,zpg (by lia) hr⟩
 have k:=fun kvs so g A=>k kvs so g A i en
 generalize srcs d m i=ss at sl mem k ⊢;generalize hAL:allL d m=AL at *
 refine zdc (fun j σ s=>(∃v5 v6 v7,σ=[some (.int N),some (.int d),some (.ref n),some (.ref st.length),some (.ref (st.length+1)),v5,v6,v7])/\∃kvs so g A,s=st++.dI kvs::.lst so::g/\kvs.length<=j/\so.length<=j/\PRep A kvs/\Lds AL.length A ((ss.take j).map fun p=>T p.1 (pw AL) p.2))
  ⟨⟨none,none,none,by simp⟩,[],[],g0,fun _=>none,by simp,xbe _,xbe _,⟨(fun _ _ e=>nomatch e),fun _ _=>rfl⟩,Lds.nil _⟩ ?_ ?_
 ·rintro j x σ s hx ⟨⟨v5,v6,v7,rfl⟩,kvs,so,g,A,rfl,hk,hs,rp,ld⟩;obtain⟨p,hpj,rfl⟩:=zjg hx;obtain⟨p1,p2,p3⟩:=mem p (xbq hpj);have hj:j < ss.length:=(xbf.mp hpj).1;refine⟨_,rfl,?_⟩;unfold zgz;simp only[W,V];refine⟨small _ (by simp),?_⟩;have one:∀{P:Row->Prop},P p.2->∀r∈[p.2],P r:=fun h r hr=>by simp at hr;subst hr;exact h
  have hsum:=p3.sum;refine zwf (l:=[p.2]) (by lia) (one fun x hx=>⟨p3.nn x hx,by have:=zbja p3.nn x hx;lia⟩) (one (by have:=p3.len;have:=h.m9;lia)) (one (h.box p3.len p3.nn (by lia))) (by simp) fun g2=>?_
  have inn:∀x∈aO (raiseL p.1 [p.2]),x∈AL:=fun x hx=>by rw[← hAL];exact zsw (by lia) p3 hx
  have hn:n < st.length:=(xbf.mp hp).1;have hp':((st++.dI kvs::.lst so::g)++g2)[n]?=some (.dT pk):=by rw[xci,xbz hn];exact hp
  refine zpe hp' pl hl (zjd _) inn ?_;have hb:=zrx.mpr (zbjg (fun x hx=>pw_lt (inn x hx)):xr (aO (raiseL p.1 [p.2])) (pw AL) < 2 ^ AL.length);rw[zzy (by lia) p3.nn] at hb ⊢;refine zro (kvs:=kvs) (by simp) rp ld hb hl fun y u ls hy=>?_
  refine ztt rfl rfl ⟨_,rfl,?_⟩;by_cases c:y=0
  ·subst c;rw[show(((0:Nat):Int) != 0)=false from rfl,if_neg (by decide)];simp only[L];refine⟨⟨_,_,_,rfl⟩,kvs,so,g++g2,A,by simp,by lia,by lia,rp,?_⟩;rw[zm hpj,xfx];exact ld.keep ls
  ·rw[show(((y:Nat):Int) != 0)=true by simp[c],if_pos rfl];refine zyk ?_;simp only[W,V,M,Dd.N,zke];refine ztt rfl rfl ?_;refine ztt rfl rfl ?_;have e1:((st++.dI kvs::.lst so::g)++g2)[st.length+1]?=some (.lst so):=by simp
   rw[len59 e1];simp only[W,V];refine⟨⟨by lia,by lia,by decide⟩,trivial,small _ (by simp),ztt rfl rfl ?_⟩;rw[zhl,zcr];refine⟨_,_,kvs,rfl,rfl,by simp,small17 (by lia),_,_,rfl,by simp;rfl,?_⟩;simp only[W,V,M,Dd.N,L];refine⟨small _ (by simp),_,so,rfl,by simp,small17 (by lia),⟨_,_,_,rfl⟩,putI kvs (bl y:Nat) _,so++[.tup [.int p.1,aL p.2]],g++g2,setT A (bl y) y,by simp;rfl,xbb zsy (by lia),by simp;lia,rp.put (bl y) y _,?_⟩;rw[zm hpj,xfx];exact ld.put ls c (hy c)
 ·rintro σ s ⟨⟨v5,v6,v7,rfl⟩,kvs,so,g,A,rfl,hk,hs,rp,ld⟩;rw[xbc,xby] at ld;simp only[W,V,M,Dd.N,L];refine⟨_,_,rfl,by simp;rfl,small _ (by simp),?_⟩;have:=k kvs so g A rp ld
  simpa using this
end
section
variable {st:Store}{Q:D->Store->Prop}
structure WRep (A:Tab) (kvs:List (Int×D)):Prop where
 yes:∀k v,A (k+1)=some v->valI kvs k=some (.int (v:Nat))
 no:∀k:Nat,A (k+1)=none->valI kvs k=none
theorem WRep.is {A:Tab}{kvs:List (Int×D)}(h:WRep A kvs)(k:Nat):(valI kvs k).isSome=(A (k+1)).isSome:=by
 cases e:A (k+1) with
 | none=>rw[h.no k e];rfl
 | some v=>rw[h.yes k v e];rfl
theorem WRep.put {A:Tab}{kvs:List (Int×D)}(h:WRep A kvs)(k v:Nat):WRep (setT A (k+1) v) (putI kvs k (.int (v:Nat))):=⟨fun j w e=>by
 unfold setT at e;rw[zlg];by_cases c:j=k
 ·rw[if_pos (by lia)] at e;cases e;rw[if_pos (by rw[c])]
 ·rw[if_neg (by lia)] at e;rw[if_neg (by lia)];exact h.yes j w e,fun j e=>by
 unfold setT at e;rw[zlg];by_cases c:j=k
 ·rw[if_pos (by lia)] at e;cases e
 ·rw[if_neg (by lia)] at e;rw[if_neg (by lia)];exact h.no j e⟩
theorem zsm {st:Store}{i:Nat}{o:O}(h:st[i]?=some o):st.set i o=st:=by
 obtain⟨a,b⟩:=xbf.mp h;rw[← b];exact List.set_getElem_self a
theorem zlu {N d k:Int}{m n i:Nat}{p:Row}{AL:List Row}{pk:List (Row×D)}{kvs:List (Int×D)}{A:Tab}{gs:List Nat}{v3 v7 v8:Option D}{I:DS->Store->Prop}{Q:Fl->Store->Prop}(h:Fit m d)(hAL:allL d m=AL)(k1:1<=k)(kd:k<=d)(p3:Mon (m+1) (d - k) p)
  (hp:st[n]?=some (.dT pk))(pl:Plc AL AL.length pk)(hi:st[i]?=some (.dI kvs))(hk:kvs.length < 15000000)(rp:WRep A kvs)(ld:Lds AL.length A gs)
  (q:∀kvs' A' v7 v8 g,kvs'.length<=kvs.length+1->WRep A' kvs'->Lds AL.length A' (gs++[T k (pw AL) p])->I [some (.int N),some (.int d),some (.ref n),v3,some (aL p),some (.ref i),some (.int k),v7,v8] (st.set i (.dI kvs')++g)) :
  WP (zef [some (.int N),some (.int d),some (.ref n),v3,some (aL p),some (.ref i),some (.int k),v7,v8] st) (loopK I Q):=by
 have hl:=h.len;rw[hAL] at hl;have h24:=h.d24;have ne:n≠i:=fun z=>by rw[z,hi] at hp;cases hp
 have hin:i < st.length:=(xbf.mp hi).1;have hnn:n < st.length:=(xbf.mp hp).1;unfold zef;simp only[W,V];refine⟨small _ (by simp),?_⟩;have one:∀{P:Row->Prop},P p->∀r∈[p],P r:=fun h r hr=>by simp at hr;subst hr;exact h
 have hsum:=p3.sum;have inn:∀x∈aO (raiseL k [p]),x∈AL:=fun x hx=>by rw[← hAL];exact zsw (by lia) p3 hx
 refine znf (l:=[p]) (B:=20000) (by lia) (one fun x hx=>⟨p3.nn x hx,by have:=zbja p3.nn x hx;lia⟩) (one (by have:=p3.len;have:=h.m9;lia)) (one (h.box p3.len p3.nn (by lia))) (by lia) (by simp) fun g=>?_
 simp only[Dd.N];have nd:=zjd (raiseL k [p]);have val:=zzy (f:=pw AL) (k:=k) (p:=p) (by lia) p3.nn;have hb:=zrx.mpr (zbjg (fun x hx=>pw_lt (inn x hx)):xr (aO (raiseL k [p])) (pw AL) < 2 ^ AL.length);rw[val] at hb;generalize aO (raiseL k [p])=l at inn nd val;have hp':(st++g)[n]?=some (.dT pk):=by rw[xbz hnn];exact hp
 have hi':(st++g)[i]?=some (.dI kvs):=by rw[xbz hin];exact hi
 refine zdc (fun j σ s=>(∃v8,σ=[some (.int N),some (.int d),some (.ref n),v3,some (aL p),some (.ref i),some (.int k),some (.int (xr (l.take j) (pw AL):Nat)),v8])/\s=st++g) ⟨⟨_,rfl⟩,rfl⟩ ?_ ?_
 ·rintro j x σ s hx ⟨⟨v,rfl⟩,rfl⟩;obtain⟨r,hr,rfl⟩:=zbx hx;have hrm:=xbq hr;have hix:=xel (inn r hrm);refine⟨_,rfl,?_⟩;unfold zgv;simp only[W,V];rw[zon (zja hp') (pl.at (inn r hrm))];simp only[W,V,L];refine⟨⟨by lia,by lia,by decide⟩,⟨some (aL r),?_⟩,trivial⟩;have nw:=zyv (AL:=AL) (l:=l.take j) (r:=r) (fun x hx=>inn x (xfb hx)) (inn r hrm) (zjf nd hr);rw[show(1:Int) * 2 ^ (AL.idxOf r:Int).toNat=((2 ^ AL.idxOf r:Nat):Int) by rw[Int.one_mul,xdu];simp,← Int.natCast_add,nw.1,← zm hr]
 rintro σ s ⟨⟨v,rfl⟩,rfl⟩;rw[zi,xby,val];simp only[W,V];refine zle (fun m σ s=>∃y:Nat,m=bl y/\σ=[some (.int N),some (.int d),some (.ref n),v3,some (aL p),some (.ref i),some (.int k),some (.int (y:Nat)),v]/\s=st++g/\Less AL.length A (T k (pw AL) p) y) (k:=bl (T k (pw AL) p)) ⟨_,rfl,rfl,rfl,.refl hb⟩ (by lia) ?_;rintro m' σ s ⟨y,rfl,rfl,rfl,ls⟩;simp only[W,V];refine⟨trivial,?_⟩;by_cases c:y=0
 ·subst c;rw[if_neg (by lia)];refine⟨trivial,?_⟩;rw[if_neg (by lia)];simp only[L];have:=q kvs A (some (.int (0:Nat))) v g (by lia) rp (ld.keep ls);rw[zsm hi] at this;exact this
 ·have c1:=zoz.mp c;have hk1:((bl y:Nat):Int) - 1=((bl y - 1:Nat):Int):=by lia
  rw[if_pos (by lia),zke];simp only[W,V,zhl];rw[zcr];refine⟨trivial,?_⟩;rw[hk1,zbcd hi'];simp only[W,V,rp.is,xch,xdo];rw[show bl y - 1+1=bl y by lia];cases e:A (bl y) with
  | none =>
   simp only[xkn,xch,xdo];refine⟨trivial,?_⟩;rw[if_pos (by lia)];refine zyk ?_;simp only[W,V,zke,zhl];rw[zcr,hk1];refine⟨trivial,_,_,kvs,rfl,rfl,hi',small17 (by lia),?_⟩;simp only[L];have e2:=ld.put ls c e;have:=q (putI kvs (bl y - 1:Nat) (.int (y:Nat))) _ (some (.int (y:Nat))) v g zsy (by have:=rp.put (bl y - 1) y;rw[show bl y - 1+1=bl y by lia] at this;exact this) e2;rw[List.set_append_left _ _ hin];exact this
  | some w =>
   simp only[xkk,xdz];obtain⟨l2,l3⟩:=ls.step ld c e;have hu:=rp.yes (bl y - 1) w (by rw[show bl y - 1+1=bl y by lia];exact e);unfold zgu;simp only[W,V,zke,zhl];rw[zcr,hk1];refine⟨trivial,?_⟩;rw[zzg hi' hu];simp only[W,V,L];rw[zjr];exact⟨trivial,_,l3,_,rfl,rfl,trivial,l2⟩
noncomputable def gensW (d:Int) (m i:Nat):List Nat:=(List.range i).flatMap fun t:Nat=>(allL (d - (1+(t:Int))) m).map (T (1+(t:Int)) (pw (allL d m)))
theorem ztx (d:Int)(m i:Nat):gensW d m (i+1)=gensW d m i++(allL (d - (1+(i:Int))) m).map (T (1+(i:Int)) (pw (allL d m))):=by
 unfold gensW;rw[xij,xge];simp
theorem zor {N d:Int}{m:Nat}(hN:N=(m:Int)+1)(h:Fit m d)
  (k:∀g1 kvs g A,WRep A kvs->Lds (allL d m).length A (gensW d m d.toNat)->Q (.ref (st++g1).length) ((st++g1)++.dI kvs::g)):WP (zdt [.int N,.int d] st) Q:=by
 have hl:=h.len;have h24:=h.d24;have hd0:=h.d0;have h9:=h.m9;have hm:(N - 1).toNat=m:=by lia
 refine zhn rfl ?_;simp only[W,V];refine zvj ?_;simp only[W,V];refine zbdm (by lia) (by lia) hd0 (by lia) (by rw[hm];exact h.few) fun g0=>⟨_,rfl,?_⟩
 rw[hm];have nd:=zjs m d;refine zdc (fun i σ s=>(∃v w,σ=[some (.int N),some (.int d),some (.ref st.length),v,w,none,none,none,none])/\∃kvs,s=st++.dT kvs::g0/\Plc (allL d m) i kvs) ⟨⟨_,_,rfl⟩,[],by simp,fun r=>(by rw[if_neg (by lia)];rfl),xbe _⟩ ?_ ?_
 ·rintro i x σ s hx ⟨⟨v,w,rfl⟩,kvs,rfl,pl⟩;obtain⟨y,hy,rfl⟩:=zje hx;obtain⟨r,hr,rfl⟩:=zbx hy;have hi:i < (allL d m).length:=(xbf.mp hr).1;refine⟨_,rfl,?_⟩;unfold zgw;refine zyl ?_;simp only[W,V,L];exact⟨_,_,_,rfl,rfl,by simp;rfl,small17 (by have:=pl.len;lia),⟨_,_,rfl⟩,_,by simp,pl.put nd hr⟩
 rintro σ s ⟨⟨v3,v4,rfl⟩,pk,rfl,pl⟩;rw[zch,zi] at pl;simp only[W,V,zsb];have hp1:(st++O.dT pk::g0)[st.length]?=some (.dT pk):=by simp
 have hk:∀kvs g A,WRep A kvs->Lds (allL d m).length A (gensW d m d.toNat)->Q (.ref (st++.dT pk::g0).length) ((st++.dT pk::g0)++.dI kvs::g):=fun kvs g A=>k _ kvs g A
 generalize hst1:st++O.dT pk::g0=st1 at hp1 hk ⊢;have hn1:st.length < st1.length:=(xbf.mp hp1).1;refine⟨_,_,rfl,rngN (by lia) (by lia),rngN (by lia) (by lia),?_⟩;refine zdc (fun i σ s=>(∃v3 v4 v6 v7 v8,σ=[some (.int N),some (.int d),some (.ref st.length),v3,v4,some (.ref st1.length),v6,v7,v8])/\∃kvs g A,s=st1++.dI kvs::g/\kvs.length<=i * 100000/\WRep A kvs/\Lds (allL d m).length A (gensW d m i))
  ⟨⟨v3,v4,none,none,none,rfl⟩,[],[],fun _=>none,rfl,xbe _,⟨(fun _ _ e=>nomatch e),fun _ _=>rfl⟩,Lds.nil _⟩ ?_ ?_
 ·rintro i x σ s hx ⟨⟨v3,v4,v6,v7,v8,rfl⟩,kvs,g,A,rfl,hk1,rp,ld⟩;obtain⟨hi,rfl⟩:=zkn hx;have hf:=h.less (k:=1+(i:Int)) (by lia) (by lia);refine⟨_,rfl,?_⟩;unfold zgt;simp only[W,V];refine⟨trivial,zbdm (by lia) (by lia) hf.d0 (by lia) (by rw[hm];exact hf.few) fun g2=>?_⟩;rw[hm];simp only[Dd.N];have hfl:=hf.len;have mem:∀p∈allL (d - (1+(i:Int))) m,Mon (m+1) (d - (1+(i:Int))) p:=fun p hp=>zpg (by lia) hp
  have sn:=ztx d m i;generalize allL (d - (1+(i:Int))) m=ps at hfl mem sn ⊢;refine zdc (fun j σ s=>(∃v3 v4 v7 v8,σ=[some (.int N),some (.int d),some (.ref st.length),v3,v4,some (.ref st1.length),some (.int (1+(i:Int))),v7,v8])/\∃kvs g A,s=st1++.dI kvs::g/\kvs.length<=i * 100000+j/\WRep A kvs/\Lds (allL d m).length A (gensW d m i++(ps.take j).map (T (1+(i:Int)) (pw (allL d m)))))
   ⟨⟨v3,v4,v7,v8,rfl⟩,kvs,g++g2,A,by simp,xbb hk1 (xbo _ _),rp,by rw[xls,xjs,xdp];exact ld⟩ ?_ ?_
  ·rintro j x σ s hx ⟨⟨v3,v4,v7,v8,rfl⟩,kvs,g,A,rfl,hk1,rp,ld⟩;obtain⟨p,hpj,rfl⟩:=zbx hx;have hj:j < ps.length:=(xbf.mp hpj).1;refine⟨_,rfl,?_⟩;refine zlu h rfl (by lia) (by lia) (mem p (xbq hpj)) (pk:=pk) (by rw[xbz hn1];exact hp1) pl (kvs:=kvs) (by simp) (by lia) rp ld fun kvs' A' v7 v8 g' hk2 rp' ld'=>?_
   refine⟨⟨_,_,_,_,rfl⟩,kvs',g++g',A',by simp,by lia,rp',?_⟩;rw[zm hpj,xfx,← xci];exact ld'
  ·rintro σ s ⟨⟨v3,v4,v7,v8,rfl⟩,kvs,g,A,rfl,hk1,rp,ld⟩;rw[zi,xby] at ld;rw[zi] at hk1;simp only[L];refine⟨⟨_,_,_,_,_,rfl⟩,kvs,g,A,rfl,by lia,rp,?_⟩;rw[sn];exact ld
 ·rintro σ s ⟨⟨v3,v4,v6,v7,v8,rfl⟩,kvs,g,A,rfl,hk1,rp,ld⟩;rw[zev,show(d+1 - 1).toNat=d.toNat by lia] at ld;simp only[W,V];exact hk kvs g A rp ld
end
end Dd
namespace Dd
open PySem L2
theorem zbad {f:SE}{σ:DS}{st:Store}{n:Nat}{xs:List D}{Q:D->Store->Prop}(hf:f σ st=.ok (.ref n) st)(hn:st[n]?=some (.lst xs))(q:Q .non (st.set n (.lst []))):WP (eClear f σ st) Q:=by
 unfold eClear;rw[hf]
 show WP (match st[n]? with
  | some (.lst _)=>Res.ok D.non (st.set n (.lst []))
  | _=>.stuck) Q
 rw[hn];exact q
noncomputable def Sh (n:Nat) (d:D):Prop:=∃p,toData d=some p/\p.canLay0=true/\p.depth<=n
theorem Sh.int {n:Nat}{i:Int}:Sh n (.int i):=⟨_,rfl,rfl,xdv _⟩
theorem Sh.all {n:Nat}:∀{ds:List D},(∀d∈ds,Sh n d)->∃ps,toDatas ds=some ps/\PyData.canLayAll0 ps=true/\PyData.depthAll ps<=n
 | [],_=>⟨[],rfl,rfl,xdv _⟩
 | d::ds,h=>by
  obtain⟨p,e,h1,h2⟩:=h d (by simp);obtain⟨ps,es,h3,h4⟩:=Sh.all (ds:=ds) fun x hx=>h x (by simp[hx])
  refine⟨p::ps,by rw[toDatas,e,es];rfl,?_,?_⟩
  ·show(p.canLay0&&PyData.canLayAll0 ps)=true;rw[h1,h3];rfl
  ·show max p.depth (PyData.depthAll ps)<=n;lia
theorem Sh.tup {n:Nat}{ds:List D}(h:∀d∈ds,Sh n d):Sh (n+1) (.tup ds):=by
 obtain⟨ps,e,h1,h2⟩:=Sh.all h;exact⟨.tuple ps,by rw[toData,e];rfl,h1,xee h2⟩
theorem Sh.lst {n:Nat}{ds:List D}(h:∀d∈ds,Sh n d):Sh (n+1) (.lst ds):=by
 obtain⟨ps,e,h1,h2⟩:=Sh.all h;exact⟨.list ps,by rw[toData,e];rfl,h1,xee h2⟩
theorem Sh.mono {n m:Nat}(h:n<=m){d:D}(s:Sh n d):Sh m d:=by
 obtain⟨p,e,h1,h2⟩:=s;exact⟨p,e,h1,xbb h2 h⟩
theorem Sh.row {n:Nat}{r:List Int}:Sh (n+1) (aL r):=Sh.tup fun d hd=>by
 obtain⟨x,_,rfl⟩:=xce.mp hd;exact .int
theorem Sh.ok {d:D}{p:PyData}(e:toData d=some p)(h1:p.canLay0=true)(h2:p.depth<=64):PySem.SeqAt.shaped p=true/\PyData.eqv p p=true:=by
 refine⟨?_,PySem.SeqAt.eqv_refl p h1⟩;show(p.canLay0&&decide (p.depth<=64))=true;rw[h1,xbu h2];rfl
theorem zzl {neg:Bool}{x y d:D}{st:Store}(hx:now st x=d)(hy:now st y=d)(h:Sh 64 d):oEqG neg x y st=.ok (.bl (!neg)) st:=by
 obtain⟨p,e,h1,h2⟩:=h;obtain⟨s1,s2⟩:=Sh.ok e h1 h2;unfold oEqG dataOf;rw[hx,hy,e];dsimp only;rw[if_pos ⟨s1,s1⟩,s2];cases neg<;>rfl
theorem zyw {st:Store}{n:Nat}{xs:List D}(h:st[n]?=some (.lst xs)):now st (.ref n)=.lst xs:=by
 unfold now;rw[show asL st (.ref n)=some xs from by unfold asL;dsimp only;rw[h]]
end Dd
namespace Dd
open PySem L2 K13
section
variable {st:Store}{Q:D->Store->Prop}
noncomputable def stands (A:Tab):Nat->List Row->List Row
 | _,[]=>[]
 | i,r::l=>if(A (i+1)).isSome=true then stands A (i+1) l else r::stands A (i+1) l
theorem zil {A B:Tab}(h:∀k,(A k).isSome=(B k).isSome):∀(l:List Row) (i:Nat),stands A i l=stands B i l
 | [],_=>rfl
 | r::l,i=>by unfold stands;rw[h,zil h l]
theorem zdh (A:Tab):∀(l:List Row) (i:Nat),(stands A i l).Sublist l
 | [],_=>.slnil
 | r::l,i=>by
  unfold stands;split
  ·exact .cons _ (zdh A l _)
  ·exact .cons₂ _ (zdh A l _)
theorem zkg (A:Tab)(r:Row):∀(l:List Row) (i:Nat),stands A i (l++[r])=stands A i l++(if(A (i+l.length+1)).isSome=true then[] else[r])
 | [],i=>by
  show stands A i [r]=_;unfold stands
  rfl
 | x::l,i=>by
  show stands A i (x::(l++[r]))=_;unfold stands;rw[zkg A r l,show i+1+l.length+1=i+(x::l).length+1 by rw[xcb];lia];split
  ·rfl
  ·rfl
theorem ztn {m i:Nat}{d:Int}{A B:Tab}(h:Fit m d)(en:Enough d i)(a:Lds (allL d m).length A (gensW d m d.toNat))(b:Lds (allL d m).length B ((srcs d m i).map fun p=>T p.1 (pw (allL d m)) p.2))(k:Nat):(A k).isSome=(B k).isSome:=by
 have hd0:=h.d0;refine a.same b (fun v hv=>?_) (fun v hv=>?_) k
 ·unfold gensW at hv;obtain⟨t,ht,hv⟩:=xdx.mp hv;obtain⟨p,hp,rfl⟩:=xce.mp hv;have ht:=xcp.mp ht;have mp:=zpg (by lia) hp;have:=dec (n:=m+1) (d:=d) (φ:=pw (allL d m)) (1+t) (by lia) p (by rw[show d - ((1+t:Nat):Int)=d - (1+(t:Int)) by lia];exact mp) (by lia);rw[show((1+t:Nat):Int)=1+(t:Int) by lia] at this;refine Lin.bind (fun w hw=>?_) this;obtain⟨s,r,rfl,mr,le⟩:=hw;refine .one (xce.mpr ⟨(((2 ^ s:Nat):Int),r),?_,rfl⟩);unfold srcs;refine xdx.mpr ⟨_,?_,xce.mpr ⟨r,zux mr.len mr.nn mr.sum,rfl⟩⟩;unfold twos;refine xce.mpr ⟨s,xcp.mpr ?_,rfl⟩;rcases xes s i with z | z
  ·exact z
  ·have:=en.top;have:2 ^ i<=2 ^ s:=xfc (by decide) z;lia
 ·obtain⟨p,hp,rfl⟩:=xce.mp hv;unfold srcs at hp;obtain⟨k,hk,hp⟩:=xdx.mp hp;obtain⟨r,hr,rfl⟩:=xce.mp hp;obtain⟨s,_,le,k1⟩:=zii en hk;refine .one ?_;unfold gensW;refine xdx.mpr ⟨(k - 1).toNat,xcp.mpr (by lia),?_⟩;rw[show 1+((k - 1).toNat:Int)=k by lia];exact xce.mpr ⟨r,hr,rfl⟩
theorem ztl {a b:Int}{x y:Row}(h:a < b\/(a=b/\HT.lexLt x y=true)):HT.lexLt (a::x) (b::y)=true:=by
 unfold HT.lexLt;rcases h with h | ⟨h,g⟩
 ·rw[if_neg (by lia),xbu h]
 ·rw[if_pos h];exact g
theorem zqv:∀(m:Nat) (d:Int),Rise (allL d m)
 | 0,d=>by show Rise [[d]];exact xhi _ _
 | m+1,d=>by
  rw[zmj];refine List.pairwise_flatMap.mpr ⟨fun e _=>List.pairwise_map.mpr ((zqv m _).imp fun {a b} h=>ztl (.inr ⟨rfl,h⟩)),List.pairwise_lt_range.imp fun {a b} lt x hx y hy=>?_⟩;obtain⟨r,_,rfl⟩:=xce.mp hx;obtain⟨s,_,rfl⟩:=xce.mp hy;exact ztl (.inl (by lia))
theorem zvx {m:Nat}{d:Int}(h0:0<=d)(A:Tab):SumOk (m+1) (stands A 0 (allL d m)) :=
 ⟨(zqv m d).sublist (zdh A _ _),fun r hr=>(zgr h0 ((zdh A _ _).subset hr)).1,fun r hr=>(zgr h0 ((zdh A _ _).subset hr)).2.1⟩
theorem zbcf:(List.range 10).all (fun i=>(List.range 25).all fun d=>decide ((d:Int)<=mostD ((i:Int)+1)->cntP (d:Int) i<=200))=true:=by decide +kernel
theorem zbai:(List.range 10).all (fun i=>decide (2 < i->mostD ((i:Int)+1)<=10))=true:=by decide +kernel
theorem zbgw {N d:Int}(h1:1<=N)(h2:N<=10)(d0:0<=d)(hd:d<=mostD N):cntP d (N - 1).toNat<=200/\Fit (N - 1).toNat d:=by
 obtain⟨f1,f2,f3⟩:=zgh h1 h2;have d24:d<=24:=by split at f2<;>lia
 obtain⟨i,hi⟩:∃i:Nat,N=(i:Int)+1:=⟨(N - 1).toNat,by lia⟩
 obtain⟨e,rfl⟩:=xgb d0;have hi2:(N - 1).toNat=i:=by lia
 rw[hi2];have a:=xeg (xet.mp (xet.mp zbcf i (xcp.mpr (by lia))) e (xcp.mpr (by lia)));have b:=xeg (xet.mp zbai i (xcp.mpr (by lia)));rw[← hi] at a b;refine⟨a hd,by lia,by lia,by lia,?_,fun z=>by have:=b z;lia⟩;rw[hi2] at f3;exact xbb (xkf (by lia) _) f3
theorem zmp {neg:SE}{n:Nat}{kvs:List (Int×D)}{A:Tab}{AL:List Row}{σ0:DS}{Q:List D->Store->Prop}(hn:st[n]?=some (.dI kvs))(hσ:∃v w,σ0=[v,w,some (.ref n)])
  (hneg:∀(i:Nat) (r:Row),WP (neg [some (.int (0+(i:Int))),some (aL r),some (.ref n)] st) (fun x s=>∃k:Int,x=.int k/\s=st/\(valI kvs k).isSome=(A (i+1)).isSome))(q:Q (aJ (stands A 0 AL)) st) :
  WP (compF (gT 2 (gsCons (gN 0) (gsCons (gN 1) gsNil))) (eB (aS (oIIn true) neg (aA 2))) (aA 1) (numF 0 (aJ AL)) σ0 st) Q:=by
 refine zym (fun i acc σ s=>(∃v w,σ=[v,w,some (.ref n)])/\s=st/\acc=aJ (stands A 0 (AL.take i))) ⟨hσ,rfl,rfl⟩ ?_ ?_
 ·rintro i x acc σ s hx ⟨⟨v,w,rfl⟩,rfl,rfl⟩;obtain⟨y,hy,rfl⟩:=zje hx;obtain⟨r,hr,rfl⟩:=zbx hy;have hi:i < AL.length:=(xbf.mp hr).1;refine⟨_,rfl,?_⟩;simp only[W,V];refine(hneg i r).mono fun x s' hx=>?_
  obtain⟨k,rfl,rfl,hk⟩:=hx
  try simp only[W,V]
  rw[zbcd hn];simp only[W,V,xdz,hk];have sn:=zkg A r (AL.take i) 0;rw[← zm hr,List.length_take_of_le (by lia),xdw] at sn;cases e:(A (i+1)).isSome with
  | true =>
   rw[e,if_pos rfl,xdp] at sn;rw[if_neg (by decide)];exact⟨⟨_,_,rfl⟩,trivial,by rw[sn]⟩
  | false =>
   rw[e,if_neg (by decide)] at sn;rw[if_pos rfl];refine⟨⟨_,_,rfl⟩,trivial,?_⟩;rw[sn];unfold aJ;rw[xfx];rfl
 ·rintro ys σ s ⟨_,rfl,rfl⟩;rw[zch,zi,xby];exact q
theorem zhc {N d:Int}(h1:1<=N)(h2:N<=10)(d0:0<=d)(hd:d<=mostD N){A:Tab}(ld:Lds (allL d (N - 1).toNat).length A (gensW d (N - 1).toNat d.toNat))
  (k:∀g,Q (.ref (st++g).length) ((st++g)++[.lst (aJ (stands A 0 (allL d (N - 1).toNat)))])):WP (zcb [.int N,.int d] st) Q:=by
 obtain⟨fw,fit⟩:=zbgw h1 h2 d0 hd;have hm:=zgh h1 h2;have hN:N=((N - 1).toNat:Int)+1:=by lia
 have h24:=fit.d24;refine zhn rfl ?_;simp only[W,V];have da:zbh [.int d] st=.ok (.int d) st:=by
  have:WP (zbh [.int d] st) (fun v s=>v=.int d/\s=st):=by
   refine zhn rfl ?_;simp only[W,V];refine WP.of (zfd (st:=st) (i:=d)) ⟨true,rfl,?_⟩;simp only[xii,xch,xdo,W,V];rw[if_neg (by lia)];exact⟨trivial,trivial⟩
  obtain⟨a,s,e,rfl,rfl⟩:=this.get;exact e
 refine WP.of da ?_;refine zxi h1 h2 d0 (by have:=hm.2.1;split at this<;>split<;>lia) fw ?_;refine zbey 9 (N - 1).toNat (d:=d) (N:=N) fit.m9 (by have:=fit.m9;lia) hN d0 (by lia) fit.few fun g0=>?_
 try simp only[W,V]
 refine zwj (zjs _ _) fit.len fun pk pl=>?_
 refine zpf hN fit (n:=(st++g0).length) (by simp) pl fun kvs so g B i en rp lb=>?_
 refine ztt rfl rfl ?_;refine zvj ?_;simp only[W,V];refine⟨_,rfl,by rw[zch,zi];exact small _ (by have:=fit.len;lia),?_⟩;have sm:=zil (ztn fit en ld lb) (allL d (N - 1).toNat) 0;refine zmp (kvs:=kvs) (A:=B) (by simp) ⟨_,_,rfl⟩ (fun j r=>?_) ?_
 ·simp only[W,V];exact⟨_,rfl,trivial,by rw[show(0:Int)+(j:Int)+1=((j+1:Nat):Int) by lia,rp.is]⟩
 ·rw[← sm];have:=k (g0++.dT pk::.dI kvs::.dead::g)
  simpa using this
theorem zul {N d:Int}(h1:1<=N)(h2:N<=10)(d0:0<=d)(hd:d<=mostD N){A:Tab}(ld:Lds (allL d (N - 1).toNat).length A (gensW d (N - 1).toNat d.toNat))
  (k:∀g,Q (.int ((stands A 0 (allL d (N - 1).toNat)).length:Int)) (st++g)):WP (zbt [.int N,.int d] st) Q:=by
 refine zhn rfl ?_;simp only[W,V];refine zhc h1 h2 d0 hd ld fun g=>?_
 rw[len59 (m:=(st++g).length) (xs:=aJ (stands A 0 (allL d (N - 1).toNat))) (by simp),zi];simp only[W,V];have:=k (g++[.lst (aJ (stands A 0 (allL d (N - 1).toNat)))])
 simpa using this
theorem tuple59 {m:Nat}{xs:List D}(h:st[m]?=some (.lst xs)):bTuple [.ref m] st=.ok (.tup xs) st:=by
 unfold bTuple;dsimp only;rw[znp h]
end
theorem zxh (ns:List Int)(hl:ns.length<=63):∃st',zbnm [.scr (ns.map .int)] []=.ok (.bl true) st':=by
 have key:WP (zbnm [.scr (ns.map .int)] []) (fun v _=>v=.bl true):=by
  refine zhn rfl ?_;simp only[W,V];have hle:((ns.map D.int).length:Int)<=63:=by rw[xbc];lia
  have hge:(0:Int)<=((ns.map D.int).length:Int):=by lia
  generalize ((ns.map D.int).length:Int)=len at hle hge;refine⟨_,rfl,rngN (by split<;>lia) (by split<;>lia),?_⟩;refine zdc (fun i σ s=>∃v1 v2 v3 v4 v5 v6 v7 v8:Option D,σ=[some (.scr (ns.map .int)),v1,v2,v3,v4,v5,v6,v7,v8]) ⟨_,_,_,_,_,_,_,_,rfl⟩ ?_ ?_
  ·rintro i x σ s hx ⟨v1,v2,v3,v4,v5,v6,v7,v8,rfl⟩;obtain⟨hi,rfl⟩:=zkn hx;have hi2:i<=3:=by split at hi<;>lia
   refine⟨_,rfl,?_⟩;unfold zvd;simp only[W,V];rw[xfw];refine zbmy hl (by lia) fun g hb=>?_
   refine ztm hb fun N s2 n1 n2 d2=>?_
   refine zxs d2.bag n1 n2 fun d s3 d0 hd d3=>?_
   obtain⟨fw,fit⟩:=zbgw n1 n2 d0 hd;have hm:=zgh n1 n2;have hN:N=((N - 1).toNat:Int)+1:=by lia
   have h24:=fit.d24;refine zor hN fit fun g1 kvs g2 A rp ld=>?_
   try simp only[W,V]
   refine zvj ?_
   try simp only[W,V]
   refine zbdm n1 n2 d0 (by lia) fit.few fun g3=>⟨_,rfl,by rw[zch,zi];exact small _ (by have:=fit.len;lia),?_⟩
   refine zmp (kvs:=kvs) (A:=A) (by simp) ⟨_,_,rfl⟩ (fun j r=>?_) ?_
   ·simp only[W,V];exact⟨_,rfl,trivial,by rw[xfw,rp.is]⟩
   try simp only[W,V]
   have ok:=zvx (m:=(N - 1).toNat) d0 A (d:=d);have slen:(stands A 0 (allL d (N - 1).toNat)).length<=100000:=xbb (zdh A _ _).length_le fit.len
   have sh:Sh 64 (.lst (aJ (stands A 0 (allL d (N - 1).toNat)))):=(Sh.lst (n:=5) fun d hd=>by
    obtain⟨w,_,rfl⟩:=xce.mp (show d∈(stands A 0 (allL _ (N - 1).toNat)).map aL from hd)
    exact Sh.row).mono (by lia)
   refine zhc n1 n2 d0 hd ld fun g4=>?_
   try simp only[W,V]
   have cw:=fun {st Q}=>zul (st:=st) (Q:=Q) n1 n2 d0 hd ld
   have sw:=fun {st Q}=>zhc (st:=st) (Q:=Q) n1 n2 d0 hd ld
   generalize stands A 0 (allL d (N - 1).toNat)=ss at ok slen sh cw sw ⊢;generalize (s3++g1++O.dI kvs::g2++g3++g4)=t;have gt:(t++[O.lst (aJ ss)])[t.length]?=some (.lst (aJ ss)):=by simp
   have e1:bIsinst [D.ref t.length, D.ty "list"] (t++[O.lst (aJ ss)])=.ok (.bl true) (t++[O.lst (aJ ss)]):=by
    unfold bIsinst tyName;dsimp only;rw[gt]
    rfl
   refine WP.of e1 ⟨true,rfl,?_⟩;simp only[xii,xch,xdo,W,V];rw[tuple59 gt];simp only[W,V];refine zxk (l:=ss) (by rw[show N.toNat=(N - 1).toNat+1 by lia];exact ok) (by lia) (by lia) (by lia) ⟨true,rfl,?_⟩;simp only[xii,xch,xdo,W,V];refine WP.of (zzl (zyw gt) rfl sh) ?_;dsimp only[bK];rw[if_neg (by decide)];refine cw fun g5=>?_
   refine WP.of (zfd (st:=_) (i:=_)) ⟨true,rfl,?_⟩;rw[if_neg (by decide),zi];simp only[W,V,xey,xii,xch,xdo];have gt2:((t++[O.lst (aJ ss)])++g5)[t.length]?=some (.lst (aJ ss)):=by simp
   refine zbad (n:=t.length) rfl gt2 ?_;by_cases c:(i:Int)=0
   ·rw[if_pos c];refine sw fun g6=>?_
    have gt3:∀u:Store,(u++[O.lst (aJ ss)])[u.length]?=some (.lst (aJ ss)):=fun u=>by simp
    refine WP.of (zzl (zyw (gt3 _)) rfl sh) ?_;dsimp only[bK];rw[if_neg (by decide)];simp only[L];exact⟨_,_,_,_,_,_,_,_,rfl⟩
   ·rw[if_neg c];simp only[L];exact⟨_,_,_,_,_,_,_,_,rfl⟩
  ·rintro σ s ⟨v1,v2,v3,v4,v5,v6,v7,v8,rfl⟩;simp only[W,V]
 obtain⟨a,st',e,rfl⟩:=key.get;exact⟨st',e⟩
end Dd
namespace K59
theorem holds:∀ns:List Int,ns.length<=63->∃st',Dd.zbnm [.scr (ns.map .int)] []=.ok (.bl true) st':=fun ns hl=>Dd.zxh ns hl
end K59
namespace K59
open PySem L2 Dd
noncomputable def top (i:Nat):Stmt:=PySem.Challenge.pw_raisedsums_k59_products_that_stand.main.body.getD i (.Pass ⟨0,0,0,0⟩)
noncomputable abbrev ziw:Stmt:=top 31
noncomputable abbrev zhg:Stmt:=top 32
noncomputable abbrev zdz:Stmt:=top 36
noncomputable abbrev zeu:Stmt:=top 37
noncomputable abbrev zix:Stmt:=top 39
noncomputable abbrev ziv:Stmt:=top 33
noncomputable abbrev zer:Stmt:=top 38
noncomputable abbrev zft:Stmt:=top 40
noncomputable abbrev zbf:Stmt:=top 17
noncomputable abbrev zeq:Stmt:=top 15
noncomputable abbrev zbz:Stmt:=top 16
noncomputable abbrev zde:Stmt:=top 18
noncomputable abbrev zli:Stmt:=top 20
noncomputable abbrev zdx:Stmt:=top 22
noncomputable abbrev zcl:Stmt:=top 23
noncomputable abbrev zit:Stmt:=top 26
noncomputable abbrev zhe:Stmt:=top 25
noncomputable abbrev ziu:Stmt:=top 5
noncomputable abbrev zod:Stmt:=top 8
noncomputable abbrev zdd:Stmt:=top 9
noncomputable abbrev zcs:Stmt:=top 10
noncomputable abbrev zbak:Stmt:=top 6
noncomputable abbrev zoe:Stmt:=top 11
noncomputable abbrev zhf:Stmt:=top 27
noncomputable abbrev zdy:Stmt:=top 21
noncomputable abbrev zhd:Stmt:=top 24
noncomputable abbrev zis:Stmt:=top 28
noncomputable abbrev zdw:Stmt:=top 29
noncomputable abbrev zes:Stmt:=top 34
noncomputable abbrev zet:Stmt:=top 35
noncomputable abbrev zbdp:Stmt:=top 41
section
variable {P:Program}{w:World}{K:Fg}{mg:Str->Option Value}{base h:Heap}
theorem zkl:FnScope ["_law_script", "_law_at", "_law_cell", "_law_mix", "_law_k"] ["_law_script", "_law_at"] (defScope ziw):=⟨rfl, rfl, rfl, by decide +kernel, rfl, by decide +kernel, by decide +kernel⟩
theorem zrj (T:TopF K "_law_bag" ziw)(XX:K.In h)(G:h.Ns mainGlobals mg)(Ab:mg "len"=none)(z_abs:mg "abs"=none)(z_min:mg "min"=none)(Aa:mg "range"=none):CalD P w K mg base "_law_bag" 1 ["_law_script", "_law_at"] zff :=
 have nd:=zkl.nd
 zu (k:=0) T XX G zkl (fun _ _ _ _ _ _ us hl=>len2 us hl fun _ _=>rfl) fun f cdv A outer s H E hr=>(ze (zl (i:=2) nd rfl (Or.inl rfl) zg)
 (ze (zed (zbp (zre hr.units0) zrl (zb (pv 1)) (zba zca zpd rfl Ab zoy (za (zb (pv 0)) zd)) (nomark _)) (zf (zl (i:=2) nd rfl (Or.inl rfl) (zba zbde zbng rfl z_abs zbmu (za (znk (zb (pv 0)) (zb (pv 1)) (fun _ _=>rfl)) zd)))) zce)
 (ze (zl (i:=3) nd rfl (Or.inl rfl) (zbs zbo zcx (zbs znb (oI_D fun _ _ _ _=>.int _) zg (zb (pv 1))) zg))
 (ze (zbi xcd rfl (zdm rfl Aa (za (zba (zmh rfl) zbnh rfl z_min zbdf (za (zba zca zpd rfl Ab zoy (za (zb (pv 0)) zd)) (za zg zd))) zd)) (zh (i:=4) nd rfl (Or.inl rfl))
 (zf (zl (i:=3) nd rfl (Or.inl rfl) (zbs zrd (oI_D fun _ _ _ _=>.int _) (zbs zbo zcx (zbs zbo zcx (zbs znb (oI_D fun _ _ _ _=>.int _) (zb (pv 3)) zg) (zbs zrd (oI_D fun _ _ _ _=>.int _) (znk (zb (pv 0)) (zb (pv 4)) (fun _ _=>rfl)) zg)) (zb (pv 4))) zg))))
 (ze (zed (zbp (zre hr.units0) zrl (zb (pv 2)) (zbs zbkq (oI_D fun _ _ _ _=>.int _) zg zg) (nomark _)) (zf (zl (i:=2) nd rfl (Or.inl rfl) zg)) zce)
 (zf (zw (zfn (za (zb (pv 2)) (za (zb (pv 3)) zd))))))))))
theorem ziq:FnScope ["_law_bag_here", "_law_many", "_law_digit", "_law_number_here", "_law_room"] ["_law_bag_here", "_law_many"] (defScope zhg):=⟨rfl, rfl, rfl, by decide +kernel, rfl, by decide +kernel, by decide +kernel⟩
theorem zom (T:TopF K "_law_take" zhg)(XX:K.In h)(G:h.Ns mainGlobals mg)  : CalD P w K mg base "_law_take" 1 ["_law_bag_here", "_law_many"] zbv :=
 have nd:=ziq.nd
 zu (k:=0) T XX G ziq (fun _ _ _ _ _ _ us hl=>len2 us hl fun _ _=>rfl) fun f cdv A outer s H E hr=>(ze (zed (zbp zbiz (zfi fun _ _ _ _=>.bl _) (znk (zb (pv 0)) zg (fun _ _=>rfl)) zg (nomark _)) (ze (zl (i:=2) nd rfl (Or.inl rfl) (zbs zrd (oI_D fun _ _ _ _=>.int _) (znk (zb (pv 0)) zg (fun _ _=>rfl)) (zb (pv 1))))
 (ze (zqg (zbs zoi (oI_D fun _ _ _ _=>.int _) (znk (zb (pv 0)) zg (fun _ _=>rfl)) (zb (pv 1))) (zb (pv 0)) zg)
 (zf (zw (zb (pv 2)))))) zce)
 (ze (zl (i:=3) nd rfl (Or.inl rfl) zg)
 (ze (zl (i:=4) nd rfl (Or.inl rfl) zg)
 (ze (zgn xcd (zbp (zre hr.units0) zrl (zb (pv 4)) (zb (pv 1)) (nomark _)) (ze (zqg (zbs zrd (oI_D fun _ _ _ _=>.int _) (zbs zbo zcx (zbs znb (oI_D fun _ _ _ _=>.int _) (znk (zb (pv 0)) zg (fun _ _=>rfl)) zg) zg) zg) (zb (pv 0)) zg)
 (ze (zl (i:=3) nd rfl (Or.inl rfl) (zbs zbo zcx (zbs znb (oI_D fun _ _ _ _=>.int _) (zb (pv 3)) zg) (zbs zrd (oI_D fun _ _ _ _=>.int _) (zbs znb (oI_D fun _ _ _ _=>.int _) (zbs zoi (oI_D fun _ _ _ _=>.int _) (znk (zb (pv 0)) zg (fun _ _=>rfl)) zg) zg) zg)))
 (zf (zl (i:=4) nd rfl (Or.inl rfl) (zbs znb (oI_D fun _ _ _ _=>.int _) (zb (pv 4)) zg))))))
 (zf (zw (zbs zrd (oI_D fun _ _ _ _=>.int _) (zb (pv 3)) (zb (pv 1)))))))))
theorem zfm:FnScope ["_law_bag_here"] ["_law_bag_here"] (defScope zdz):=⟨rfl, rfl, rfl, by decide +kernel, rfl, by decide +kernel, by decide +kernel⟩
theorem zka (T:TopF K "_law_letters" zdz)(XX:K.In h)(G:h.Ns mainGlobals mg)(Af:CalD P w K mg base "_law_take" 1 ["_law_bag_here", "_law_many"] zbv):CalD P w K mg base "_law_letters" 2 ["_law_bag_here"] zck :=
 have nd:=zfm.nd
 zu (k:=1) T XX G zfm (fun _ _ _ _ _ _ us hl=>len1 us hl fun _=>rfl) fun f cdv A outer s H E hr=>(zf (zw (znk (zov (za zg (za zg (za zg (za zg (za zg (za zg (za zg (za zg (za zg (za zg (za (zbs zbo zcx zg (zr Af (fun _ _ _ _ h=>zq h) (hr.mono (by decide)) rfl (za (zb (pv 0)) (za zg zd)))) zd)))))))))))) (zr Af (fun _ _ _ _ h=>zq h) (hr.mono (by decide)) rfl (za (zb (pv 0)) (za zg zd))) (fun _ _=>rfl))))
theorem zgd:FnScope ["_law_bag_here", "_law_n", "_law_most"] ["_law_bag_here", "_law_n"] (defScope zeu):=⟨rfl, rfl, rfl, by decide +kernel, rfl, by decide +kernel, by decide +kernel⟩
theorem zlo (T:TopF K "_law_degree" zeu)(XX:K.In h)(G:h.Ns mainGlobals mg)(z_int:mg "int"=none)(Af:CalD P w K mg base "_law_take" 1 ["_law_bag_here", "_law_many"] zbv):CalD P w K mg base "_law_degree" 2 ["_law_bag_here", "_law_n"] zcw :=
 have nd:=zgd.nd
 zu (k:=1) T XX G zgd (fun _ _ _ _ _ _ us hl=>len2 us hl fun _ _=>rfl) fun f cdv A outer s H E hr=>(ze (zl (i:=2) nd rfl (Or.inl rfl) (znk (zov (za zg (za zg (za zg (za zg (za zg (za zg (za zg (za zg (za zg (za zg zd))))))))))) (zbs zgf (zfi fun _ _ _ _=>.int _) (zb (pv 1)) zg) (fun _ _=>rfl)))
 (zf (zw (znk (zov (za (zb (pv 2)) (za (zr Af (fun _ _ _ _ h=>zq h) (hr.mono (by decide)) rfl (za (zb (pv 0)) (za (zbs zbo zcx (zb (pv 2)) zg) zd))) zd))) (zic zyd zbne rfl z_int zbdg (za (zuj zbiz (zfi fun _ _ _ _=>.bl _) (zr Af (fun _ _ _ _ h=>zq h) (hr.mono (by decide)) rfl (za (zb (pv 0)) (za zg zd))) zg (nomark _)) zd)) (fun _ _=>rfl)))))
theorem zkm:FnScope ["_law_n", "_law_d", "_law_found", "_law_k", "_law_further", "_law_grown", "_law_left"] ["_law_n", "_law_d"] (defScope zix):=⟨rfl, rfl, rfl, by decide +kernel, rfl, by decide +kernel, by decide +kernel⟩
theorem zrk (T:TopF K "_law_all" zix)(XX:K.In h)(G:h.Ns mainGlobals mg)(Aa:mg "range"=none):CalD P w K mg base "_law_all" 1 ["_law_n", "_law_d"] zdb :=
 have nd:=zkm.nd
 zu (k:=0) T XX G zkm (fun _ _ _ _ _ _ us hl=>len2 us hl fun _ _=>rfl) fun f cdv A outer s H E hr=>(ze (zl (i:=2) nd rfl (Or.inl rfl) (zov (za (zcy (za (zcy zd) (za (zb (pv 1)) zd))) zd)))
 (ze (zbi xcd rfl (zdm rfl Aa (za (zbs zgf (zfi fun _ _ _ _=>.int _) (zb (pv 0)) zg) zd)) (zh (i:=3) nd rfl (Or.inl rfl))
 (ze (zl (i:=4) nd rfl (Or.inl rfl) (zfn zd))
 (ze (zbi xcd rfl (zbq (zb (pv 2))) (zei rfl (zt (zh (i:=5) nd rfl (Or.inr rfl)) (zt (zh (i:=6) nd rfl (Or.inr rfl)) zcn)))
 (zf (zcm (zgo (zb (pv 4)) (za (zfo rfl (zdm rfl Aa (za (zbs zbo zcx (zb (pv 6)) zg) zd)) (fun _ _ _ _ _=>(zh (i:=0) (show(["_law_e", "_law_grown", "_law_left"]:List Str).Nodup from by decide +kernel) rfl (Or.inl rfl))) (fun _ _ _ _ _=>zfv) (fun _ _ _ _ _=>(zcy (za (zbs zbo zcx (zb (pv 1)) (zcy (za (zb (pv 0)) zd))) (za (zbs zgf (zfi fun _ _ _ _=>.int _) (zb (pv 2)) (zb (pv 0))) zd)))) (N:=["_law_e", "_law_grown", "_law_left"]) (k:=1) (is:=[5, 6]) (zej (by rfl))) zd)))))
 (zf (zl (i:=2) nd rfl (Or.inl rfl) (zxw (zb (pv 4))))))))
 (zf (zw (zfo rfl (zbq (zb (pv 2))) (fun _ _ _ _ _=>(zei rfl (zt (zh (i:=0) (show(["_law_grown", "_law_left"]:List Str).Nodup from by decide +kernel) rfl (Or.inl rfl)) (zt (zh (i:=1) (show(["_law_grown", "_law_left"]:List Str).Nodup from by decide +kernel) rfl (Or.inl rfl)) zcn)))) (fun _ _ _ _ _=>zfv) (fun _ _ _ _ _=>(zbs zbo zcx (zb (pv 0)) (zcy (za (zb (pv 1)) zd)))) (N:=["_law_grown", "_law_left"]) (k:=2) (is:=[]) (zej (by rfl)))))))
theorem zkk:FnScope ["_law_things", "_law_odd_here", "_law_thing"] ["_law_things"] (defScope ziv):=⟨rfl, rfl, rfl, by decide +kernel, rfl, by decide +kernel, by decide +kernel⟩
theorem zri (T:TopF K "_law_odd" ziv)(XX:K.In h)(G:h.Ns mainGlobals mg)(Aj:mg "sorted"=none)(Ad:mg "tuple"=none):CalD P w K mg base "_law_odd" 1 ["_law_things"] zds :=
 have nd:=zkk.nd
 zu (k:=0) T XX G zkk (fun _ _ _ _ _ _ us hl=>len1 us hl fun _=>rfl) fun f cdv A outer s H E hr=>(ze (zl (i:=1) nd rfl (Or.inr rfl) zqi)
 (ze (zbi xcd rfl (zbq (zb (pv 0))) (zh (i:=2) nd rfl (Or.inl rfl))
 (zf (zmc (zmk hr) (zb (pv 1)) (zb (pv 2)) (zbcw (zbcy (zmk hr) (zb (pv 1)) (zb (pv 2)) zxx ⟨rfl,rfl,rfl,rfl⟩)) rfl)))
 (zf (zw (zic zez zpa rfl Ad zjq (za (zba (zjp rfl hr.units) zqs rfl Aj zqm (za (zfo rfl (zbct (zb (pv 1))) (fun _ _ _ _ _=>(zh (i:=0) (show(["_law_thing", "_law_odd_here"]:List Str).Nodup from by decide +kernel) rfl (Or.inl rfl))) (fun _ _ _ _ _=>(zjm (zeh (zui (zmk hr) (zb (pv 1)) (zb (pv 0)) (fun _ _=>rfl))))) (fun _ _ _ _ _=>(zb (pv 0))) (N:=["_law_thing", "_law_odd_here"]) (k:=1) (is:=[1]) (zej (by rfl))) zd)) zd))))))
theorem zga:FnScope ["_law_some", "_law_k", "_law_found", "_law_product", "_law_ways", "_law_e", "_law_further", "_law_grown", "_law_left"] ["_law_some", "_law_k"] (defScope zer):=⟨rfl, rfl, rfl, by decide +kernel, rfl, by decide +kernel, by decide +kernel⟩
theorem zll (T:TopF K "_law_raised" zer)(XX:K.In h)(G:h.Ns mainGlobals mg)(z_min:mg "min"=none)(Aa:mg "range"=none)(c__law_odd:CalD P w K mg base "_law_odd" 1 ["_law_things"] zds):CalD P w K mg base "_law_raised" 2 ["_law_some", "_law_k"] zcu :=
 have nd:=zga.nd
 zu (k:=1) T XX G zga (fun _ _ _ _ _ _ us hl=>len2 us hl fun _ _=>rfl) fun f cdv A outer s H E hr=>(ze (zl (i:=2) nd rfl (Or.inl rfl) (zfn zd))
 (ze (zbi xcd rfl (zbq (zb (pv 0))) (zh (i:=3) nd rfl (Or.inl rfl))
 (ze (zl (i:=4) nd rfl (Or.inl rfl) (zov (za (zcy (za (zcy zd) (za (zb (pv 1)) zd))) zd)))
 (ze (zbi xcd rfl (zbq (zb (pv 3))) (zh (i:=5) nd rfl (Or.inr rfl))
 (ze (zl (i:=6) nd rfl (Or.inl rfl) (zfn zd))
 (ze (zbi xcd rfl (zbq (zb (pv 4))) (zei rfl (zt (zh (i:=7) nd rfl (Or.inr rfl)) (zt (zh (i:=8) nd rfl (Or.inr rfl)) zcn)))
 (zf (zcm (zgo (zb (pv 6)) (za (zfo rfl (zdm rfl Aa (za (zbs zbo zcx (zba (zmh rfl) zbnh rfl z_min zbdf (za (zb (pv 5)) (za (zb (pv 8)) zd))) zg) zd)) (fun _ _ _ _ _=>(zh (i:=0) (show(["_law_j", "_law_grown", "_law_left", "_law_e"]:List Str).Nodup from by decide +kernel) rfl (Or.inl rfl))) (fun _ _ _ _ _=>(zjm (zbp (ztb hr.units) zwt (zbs zbft (zfi fun _ _ _ _=>.int _) (zb (pv 3)) (zb (pv 0))) (zb (pv 0)) (nomark _)))) (fun _ _ _ _ _=>(zcy (za (zbs zbo zcx (zb (pv 1)) (zcy (za (zbs zbo zcx (zb (pv 3)) (zb (pv 0))) zd))) (za (zbs zgf (zfi fun _ _ _ _=>.int _) (zb (pv 2)) (zb (pv 0))) zd)))) (N:=["_law_j", "_law_grown", "_law_left", "_law_e"]) (k:=1) (is:=[7, 8, 5]) (zej (by rfl))) zd)))))
 (zf (zl (i:=4) nd rfl (Or.inl rfl) (zxw (zb (pv 6))))))))
 (zf (zcm (zgo (zb (pv 2)) (za (zfo rfl (zbq (zb (pv 4))) (fun _ _ _ _ _=>(zei rfl (zt (zh (i:=0) (show(["_law_grown", "_law_left"]:List Str).Nodup from by decide +kernel) rfl (Or.inl rfl)) (zt (zh (i:=1) (show(["_law_grown", "_law_left"]:List Str).Nodup from by decide +kernel) rfl (Or.inl rfl)) zcn)))) (fun _ _ _ _ _=>(zjm (zbp (ztb hr.units) zwt (zb (pv 1)) zg (nomark _)))) (fun _ _ _ _ _=>(zb (pv 0))) (N:=["_law_grown", "_law_left"]) (k:=2) (is:=[]) (zej (by rfl))) zd)))))))
 (zf (zw (zr c__law_odd (fun _ _ _ _ h=>zq h) (hr.mono (by decide)) rfl (za (zxw (zb (pv 2))) zd))))))
theorem zhq:FnScope ["_law_n", "_law_d", "_law_places", "_law_place", "_law_product", "_law_leads_here", "_law_k", "_law_number_here", "_law_grown"] ["_law_n", "_law_d"] (defScope zft):=⟨rfl, rfl, rfl, by decide +kernel, rfl, by decide +kernel, by decide +kernel⟩
theorem znc (T:TopF K "_law_leads" zft)(XX:K.In h)(G:h.Ns mainGlobals mg)(Ae:mg "enumerate"=none)(Aa:mg "range"=none)(Ah:CalD P w K mg base "_law_all" 1 ["_law_n", "_law_d"] zdb)(As:CalD P w K mg base "_law_raised" 2 ["_law_some", "_law_k"] zcu):CalD P w K mg base "_law_leads" 3 ["_law_n", "_law_d"] zdt :=
 have nd:=zhq.nd
 zu (k:=2) T XX G zhq (fun _ _ _ _ _ _ us hl=>len2 us hl fun _ _=>rfl) fun f cdv A outer s H E hr=>(ze (zl (i:=2) nd rfl (Or.inl rfl) zqi)
 (ze (zbi xcd rfl (zib rfl Ae (zr Ah (fun _ _ _ _ h=>zq h) (hr.mono (by decide)) rfl (za (zb (pv 0)) (za (zb (pv 1)) zd)))) (zei rfl (zt (zh (i:=3) nd rfl (Or.inl rfl)) (zt (zh (i:=4) nd rfl (Or.inl rfl)) zcn)))
 (zf (zmc (zmk hr) (zb (pv 2)) (zb (pv 4)) (zb (pv 3)) rfl)))
 (ze (zl (i:=5) nd rfl (Or.inl rfl) zuh)
 (ze (zbi xcd rfl (znj rfl Aa (za zg (za (zbs zbo zcx (zb (pv 1)) zg) zd))) (zh (i:=6) nd rfl (Or.inl rfl))
 (zf (zbi xcd rfl (zbq (zr Ah (fun _ _ _ _ h=>zq h) (hr.mono (by decide)) rfl (za (zb (pv 0)) (za (zbs zgf (zfi fun _ _ _ _=>.int _) (zb (pv 1)) (zb (pv 6))) zd)))) (zh (i:=4) nd rfl (Or.inl rfl))
 (ze (zl (i:=7) nd rfl (Or.inl rfl) zg)
 (ze (zbi xcd rfl (zbq (zr As (fun _ _ _ _ h=>zq h) (hr.mono (by decide)) rfl (za (zcy (za (zb (pv 4)) zd)) (za (zb (pv 6)) zd)))) (zh (i:=8) nd rfl (Or.inl rfl))
 (zf (zl (i:=7) nd rfl (Or.inl rfl) (zbs zbo zcx (zb (pv 7)) (zbs zbbl (oI_D fun _ _ _ _=>.int _) zg (zui (zmk hr) (zb (pv 2)) (zb (pv 8)) (fun _ _=>rfl)))))))
 (ze (zgn xcd (JW.pt (zub (zbp zbiz (zfi fun _ _ _ _=>.bl _) (zb (pv 7)) zg (nomark _)) (zhs (zuc (zyt (zmk hr) (zbs zgf (zfi fun _ _ _ _=>.int _) (zkx (zb (pv 7))) zg) (zb (pv 5)))) (by first | exact Or.inl rfl | exact Or.inr rfl)))) (zf (zl (i:=7) nd rfl (Or.inl rfl) (zbs zbbk (zfi fun _ _ _ _=>.int _) (zb (pv 7)) (zzq (zmk hr) (zb (pv 5)) (zbs zgf (zfi fun _ _ _ _=>.int _) (zkx (zb (pv 7))) zg) (fun _ _=>rfl))))))
 (zf (zed (zbp zbiz (zfi fun _ _ _ _=>.bl _) (zb (pv 7)) zg (nomark _)) (zf (zud (zmk hr) (zb (pv 5)) (zbs zgf (zfi fun _ _ _ _=>.int _) (zkx (zb (pv 7))) zg) (zb (pv 7)) rfl)) zce))))))))
 (zf (zw (zb (pv 5))))))))
theorem zbr:FnScope ["n", "d", "told", "e"] ["n", "d"] (defScope zbf):=⟨rfl, rfl, rfl, by decide +kernel, rfl, by decide +kernel, by decide +kernel⟩
theorem zel {fF:DFn}{j:Nat}(hj:1<=j)(hself:∀ ds st v st', fF ds st=.ok v st'->ds.length=2)(T:TopF K "products_of_degree" zbf)(XX:K.In h)(G:h.Ns mainGlobals mg)(Aa:mg "range"=none)(Ag:CalD P w K mg base "products_of_degree" j ["n", "d"] fF):CalD P w K mg base "products_of_degree" (j + 1) ["n", "d"] (zn fF) :=
 have nd:=zbr.nd
 zu (k:=j) T XX G zbr (fun _ _ _ _ _ _ us hl=>len2 us hl fun _ _=>rfl) fun f cdv A outer s H E hr=>(ze (zed (zbp (ztb hr.units) zwt (zb (pv 0)) zg (nomark _)) (zf (zw (zov (za (zcy (za (zb (pv 1)) zd)) zd)))) zce)
 (ze (zl (i:=2) nd rfl (Or.inl rfl) (zfn zd))
 (ze (zbi xcd rfl (zdm rfl Aa (za (zbs zbo zcx (zb (pv 1)) zg) zd)) (zh (i:=3) nd rfl (Or.inr rfl))
 (zf (zcm (zgo (zb (pv 2)) (za (zfo rfl (zbq (zr Ag hself hr rfl (za (zbs zgf (zfi fun _ _ _ _=>.int _) (zb (pv 0)) zg) (za (zbs zgf (zfi fun _ _ _ _=>.int _) (zb (pv 1)) (zb (pv 3))) zd)))) (fun _ _ _ _ _=>(zh (i:=0) (show(["rest", "e"]:List Str).Nodup from by decide +kernel) rfl (Or.inl rfl))) (fun _ _ _ _ _=>zfv) (fun _ _ _ _ _=>(zbs zbo zcx (zcy (za (zb (pv 1)) zd)) (zb (pv 0)))) (N:=["rest", "e"]) (k:=1) (is:=[3]) (zej (by rfl))) zd)))))
 (zf (zw (zxw (zb (pv 2))))))))
theorem zfg (T:TopF K "products_of_degree" zbf)(XX:K.In h)(G:h.Ns mainGlobals mg)(Aa:mg "range"=none):CalD P w K mg base "products_of_degree" 11 ["n", "d"] (iterF zn 10):=CalD.iter (L:=1) (zus T XX G zbr (fun _ _ _ _ _ _ us hl=>len2 us hl fun _ _=>rfl)) (fun _ _ _ _ _ h=>zq h) (fun F j hj hs c=>zel hj hs T XX G Aa c) 10
theorem zfz:FnScope ["n"] ["n"] (defScope zeq):=⟨rfl, rfl, rfl, by decide +kernel, rfl, by decide +kernel, by decide +kernel⟩
theorem zlk (T:TopF K "most_degree" zeq)(XX:K.In h)(G:h.Ns mainGlobals mg){Au:Tok}(m_FEW_LETTERS:mg "FEW_LETTERS"=some (.int 3 Au)):CalD P w K mg base "most_degree" 1 ["n"] zda :=
 have nd:=zfz.nd
 zu (k:=0) T XX G zfz (fun _ _ _ _ _ _ us hl=>len1 us hl fun _=>rfl) fun f cdv A outer s H E hr=>(zf (zw (zbpz (zbp zbdr (zfi fun _ _ _ _=>.bl _) (zb (pv 0)) (zmf (zyq (v:=.int 3) rfl m_FEW_LETTERS ⟨_,rfl⟩) (fun _ _=>.int _)) (nomark _)) zg zg)))
theorem zcp:FnScope ["n", "d", "told", "i"] ["n", "d"] (defScope zbz):=⟨rfl, rfl, rfl, by decide +kernel, rfl, by decide +kernel, by decide +kernel⟩
theorem zfh (T:TopF K "number_of_products" zbz)(XX:K.In h)(G:h.Ns mainGlobals mg)(Aa:mg "range"=none):CalD P w K mg base "number_of_products" 1 ["n", "d"] zbc :=
 have nd:=zcp.nd
 zu (k:=0) T XX G zcp (fun _ _ _ _ _ _ us hl=>len2 us hl fun _ _=>rfl) fun f cdv A outer s H E hr=>(ze (zl (i:=2) nd rfl (Or.inl rfl) zg)
 (ze (zbi xcd rfl (znj rfl Aa (za zg (za (zb (pv 0)) zd))) (zh (i:=3) nd rfl (Or.inl rfl))
 (zf (zl (i:=2) nd rfl (Or.inl rfl) (zbs zoi (oI_D fun _ _ _ _=>.int _) (zbs zbfq (oI_D fun _ _ _ _=>.int _) (zb (pv 2)) (zbs zbo zcx (zb (pv 1)) (zb (pv 3)))) (zb (pv 3))))))
 (zf (zw (zb (pv 2))))))
theorem zep:FnScope ["n", "d"] ["n", "d"] (defScope zde):=⟨rfl, rfl, rfl, by decide +kernel, rfl, by decide +kernel, by decide +kernel⟩
theorem zjc (T:TopF K "can_be_judged" zde)(XX:K.In h)(G:h.Ns mainGlobals mg){Av:Tok}(m_MOST_JUDGED:mg "MOST_JUDGED"=some (.int 200 Av))(Aw:CalD P w K mg base "number_of_products" 1 ["n", "d"] zbc)(Ax:CalD P w K mg base "most_degree" 1 ["n"] zda):CalD P w K mg base "can_be_judged" 2 ["n", "d"] zbw :=
 have nd:=zep.nd
 zu (k:=1) T XX G zep (fun _ _ _ _ _ _ us hl=>len2 us hl fun _ _=>rfl) fun f cdv A outer s H E hr=>(zf (zw (zxy (zuj zbdr (zfi fun _ _ _ _=>.bl _) (zb (pv 1)) (zr Ax (fun _ _ _ _ h=>zq h) (hr.mono (by decide)) rfl (za (zb (pv 0)) zd)) (nomark _)) (zxu (zuj zbdr (zfi fun _ _ _ _=>.bl _) (zr Aw (fun _ _ _ _ h=>zq h) (hr.mono (by decide)) rfl (za (zb (pv 0)) (za (zb (pv 1)) zd))) (zmf (zyq (v:=.int 200) rfl m_MOST_JUDGED ⟨_,rfl⟩) (fun _ _=>.int _)) (nomark _))))))
theorem zmv:FnScope ["n", "d"] ["n", "d"] (defScope zli):=⟨rfl, rfl, rfl, by decide +kernel, rfl, by decide +kernel, by decide +kernel⟩
theorem ztd (T:TopF K "bounded" zli)(XX:K.In h)(G:h.Ns mainGlobals mg)(Ay:CalD P w K mg base "can_be_judged" 2 ["n", "d"] zbw):CalD P w K mg base "bounded" 3 ["n", "d"] zgx :=
 have nd:=zmv.nd
 zu (k:=2) T XX G zmv (fun _ _ _ _ _ _ us hl=>len2 us hl fun _ _=>rfl) fun f cdv A outer s H E hr=>(ze (zed (zgm (zeh (zr Ay (fun _ _ _ _ h=>zq h) (hr.mono (by decide)) rfl (za (zb (pv 0)) (za (zb (pv 1)) zd))))) (zf zmb) zce)
 (zf (zw (zb (pv 1)))))
theorem zfk:FnScope ["d", "told", "k"] ["d"] (defScope zdx):=⟨rfl, rfl, rfl, by decide +kernel, rfl, by decide +kernel, by decide +kernel⟩
theorem zjy (T:TopF K "parts_enough" zdx)(XX:K.In h)(G:h.Ns mainGlobals mg)  : CalD P w K mg base "parts_enough" 1 ["d"] zcd :=
 have nd:=zfk.nd
 zu (k:=0) T XX G zfk (fun _ _ _ _ _ _ us hl=>len1 us hl fun _=>rfl) fun f cdv A outer s H E hr=>(ze (zl (i:=1) nd rfl (Or.inl rfl) (zfn zd))
 (ze (zl (i:=2) nd rfl (Or.inl rfl) zg)
 (ze (zgn xcd (zbp zbdr (zfi fun _ _ _ _=>.bl _) (zbs znb (oI_D fun _ _ _ _=>.int _) zg (zb (pv 2))) (zb (pv 0)) (nomark _)) (ze (zcm (zid (zb (pv 1)) (za (zb (pv 2)) zd)))
 (zf (zl (i:=2) nd rfl (Or.inl rfl) (zbs znb (oI_D fun _ _ _ _=>.int _) zg (zb (pv 2)))))))
 (zf (zw (zxw (zb (pv 1))))))))
theorem zdj:FnScope ["n", "d", "told", "k"] ["n", "d"] (defScope zcl):=⟨rfl, rfl, rfl, by decide +kernel, rfl, by decide +kernel, by decide +kernel⟩
theorem zhj (T:TopF K "raised_products" zcl)(XX:K.In h)(G:h.Ns mainGlobals mg)(Az:CalD P w K mg base "parts_enough" 1 ["d"] zcd)(Ag:CalD P w K mg base "products_of_degree" 11 ["n", "d"] (iterF zn 10)):CalD P w K mg base "raised_products" 12 ["n", "d"] zbg :=
 have nd:=zdj.nd
 zu (k:=11) T XX G zdj (fun _ _ _ _ _ _ us hl=>len2 us hl fun _ _=>rfl) fun f cdv A outer s H E hr=>(ze (zl (i:=2) nd rfl (Or.inl rfl) (zfn zd))
 (ze (zbi xcd rfl (zbq (zr Az (fun _ _ _ _ h=>zq h) (hr.mono (by decide)) rfl (za (zb (pv 1)) zd))) (zh (i:=3) nd rfl (Or.inr rfl))
 (zf (zcm (zgo (zb (pv 2)) (za (zfo rfl (zbq (zr Ag (fun _ _ _ _ h=>zq h) (hr.mono (by decide)) rfl (za (zb (pv 0)) (za (zbs zgf (zfi fun _ _ _ _=>.int _) (zb (pv 1)) (zb (pv 3))) zd)))) (fun _ _ _ _ _=>(zh (i:=0) (show(["product", "k"]:List Str).Nodup from by decide +kernel) rfl (Or.inl rfl))) (fun _ _ _ _ _=>zfv) (fun _ _ _ _ _=>(zcy (za (zb (pv 1)) (za (zb (pv 0)) zd)))) (N:=["product", "k"]) (k:=1) (is:=[3]) (zej (by rfl))) zd)))))
 (zf (zw (zxw (zb (pv 2)))))))
theorem zki:FnScope ["leads", "number", "used", "two"] ["leads", "number"] (defScope zit):=⟨rfl, rfl, rfl, by decide +kernel, rfl, by decide +kernel, by decide +kernel⟩
theorem zrg (T:TopF K "lessened" zit)(XX:K.In h)(G:h.Ns mainGlobals mg)  : CalD P w K mg base "lessened" 1 ["leads", "number"] zfb :=
 have nd:=zki.nd
 zu (k:=0) T XX G zki (fun _ _ _ _ _ _ us hl=>len2 us hl fun _ _=>rfl) fun f cdv A outer s H E hr=>(ze (zl (i:=2) nd rfl (Or.inl rfl) zg)
 (ze (zgn xcd (JW.pt (zub (zeh (zb (pv 1))) (zhs (zuc (zyt (zmk hr) (zkx (zb (pv 1))) (zb (pv 0)))) (by first | exact Or.inl rfl | exact Or.inr rfl)))) (ze (zl (i:=3) nd rfl (Or.inl rfl) (zzq (zmk hr) (zb (pv 0)) (zkx (zb (pv 1))) (fun _ _=>rfl)))
 (ze (zl (i:=1) nd rfl (Or.inl rfl) (zbs zbbk (zfi fun _ _ _ _=>.int _) (zb (pv 1)) (znk (zb (pv 3)) zg (fun _ _=>rfl))))
 (zf (zl (i:=2) nd rfl (Or.inl rfl) (zbs zbbk (zfi fun _ _ _ _=>.int _) (zb (pv 2)) (znk (zb (pv 3)) zg (fun _ _=>rfl))))))))
 (zf (zw (zcy (za (zb (pv 1)) (za (zb (pv 2)) zd)))))))
theorem zin:FnScope ["places", "some", "told", "product"] ["places", "some"] (defScope zhe):=⟨rfl, rfl, rfl, by decide +kernel, rfl, by decide +kernel, by decide +kernel⟩
theorem zok (T:TopF K "as_number" zhe)(XX:K.In h)(G:h.Ns mainGlobals mg)  : CalD P w K mg base "as_number" 1 ["places", "some"] zdu :=
 have nd:=zin.nd
 zu (k:=0) T XX G zin (fun _ _ _ _ _ _ us hl=>len2 us hl fun _ _=>rfl) fun f cdv A outer s H E hr=>(ze (zl (i:=2) nd rfl (Or.inl rfl) zg)
 (ze (zbi xcd rfl (zbq (zb (pv 1))) (zh (i:=3) nd rfl (Or.inl rfl))
 (zf (zl (i:=2) nd rfl (Or.inl rfl) (zbs zbny (zfi fun _ _ _ _=>.int _) (zb (pv 2)) (zbs zbbl (oI_D fun _ _ _ _=>.int _) zg (zui (zmk hr) (zb (pv 0)) (zb (pv 3)) (fun _ _=>rfl)))))))
 (zf (zw (zb (pv 2))))))
theorem zkj:FnScope ["thing"] ["thing"] (defScope ziu):=⟨rfl, rfl, rfl, by decide +kernel, rfl, by decide +kernel, by decide +kernel⟩
theorem zrh (T:TopF K "is_whole" ziu)(XX:K.In h)(G:h.Ns mainGlobals mg)(z_bool:mg "bool"=none)(Ac:mg "isinstance"=none)(z_int:mg "int"=none):CalD P w K mg base "is_whole" 1 ["thing"] zbe :=
 have nd:=zkj.nd
 zu (k:=0) T XX G zkj (fun _ _ _ _ _ _ us hl=>len1 us hl fun _=>rfl) fun f cdv A outer s H E hr=>(zf (zw (zxy (zba zcj zee rfl Ac zbj (za (zb (pv 0)) (za (zmf (ziz (v:=.ty "int") rfl z_int zbdg rfl) (fun _ _=>.ty _)) zd))) (zxu (zbcw (zba zcj zee rfl Ac zbj (za (zb (pv 0)) (za (zmf (ziz (v:=.ty "bool") rfl z_bool zzs rfl) (fun _ _=>.ty _)) zd))))))))
theorem zpr:FnScope ["e", "least", "most", "told", "j"] ["e", "least", "most"] (defScope zod):=⟨rfl, rfl, rfl, by decide +kernel, rfl, by decide +kernel, by decide +kernel⟩
theorem zwp (T:TopF K "shares" zod)(XX:K.In h)(G:h.Ns mainGlobals mg)  : CalD P w K mg base "shares" 1 ["e", "least", "most"] zju :=
 have nd:=zpr.nd
 zu (k:=0) T XX G zpr (fun _ _ _ _ _ _ us hl=>len3 us hl fun _ _ _=>rfl) fun f cdv A outer s H E hr=>(ze (zl (i:=3) nd rfl (Or.inl rfl) (zfn zd))
 (ze (zl (i:=4) nd rfl (Or.inl rfl) zg)
 (ze (zgn xcd (zbp zbdr (zfi fun _ _ _ _=>.bl _) (zb (pv 4)) (zb (pv 2)) (nomark _)) (ze (zed (zbp zbnz (zfi fun _ _ _ _=>.bl _) (zb (pv 4)) (zb (pv 1)) (nomark _)) (zf (zcm (zid (zb (pv 3)) (za (zb (pv 4)) zd)))) zce)
 (ze (zed (zbp (ztb hr.units) zwt (zb (pv 4)) (zb (pv 0)) (nomark _)) (zf zxp) zce)
 (zf (zl (i:=4) nd rfl (Or.inl rfl) (zbs zbft (zfi fun _ _ _ _=>.int _) (zbs zgf (zfi fun _ _ _ _=>.int _) (zb (pv 4)) (zb (pv 0))) (zb (pv 0))))))))
 (zf (zw (zxw (zb (pv 3))))))))
theorem zeo:FnScope ["partly", "e", "rest", "told", "made", "left", "j"] ["partly", "e", "rest"] (defScope zdd):=⟨rfl, rfl, rfl, by decide +kernel, rfl, by decide +kernel, by decide +kernel⟩
theorem zjb (T:TopF K "letter_raised" zdd)(XX:K.In h)(G:h.Ns mainGlobals mg)(c_shares:CalD P w K mg base "shares" 1 ["e", "least", "most"] zju):CalD P w K mg base "letter_raised" 2 ["partly", "e", "rest"] zbu :=
 have nd:=zeo.nd
 zu (k:=1) T XX G zeo (fun _ _ _ _ _ _ us hl=>len3 us hl fun _ _ _=>rfl) fun f cdv A outer s H E hr=>(ze (zl (i:=3) nd rfl (Or.inl rfl) (zfn zd))
 (ze (zbi xcd rfl (zbq (zb (pv 0))) (zei rfl (zt (zh (i:=4) nd rfl (Or.inl rfl)) (zt (zh (i:=5) nd rfl (Or.inl rfl)) zcn)))
 (zf (zbi xcd rfl (zbq (zr c_shares (fun _ _ _ _ h=>zq h) (hr.mono (by decide)) rfl (za (zb (pv 1)) (za (zbs zgf (zfi fun _ _ _ _=>.int _) (zb (pv 5)) (zb (pv 2))) (za (zb (pv 5)) zd))))) (zh (i:=6) nd rfl (Or.inl rfl))
 (zf (zcm (zid (zb (pv 3)) (za (zcy (za (zbs zbo zcx (zb (pv 4)) (zcy (za (zbs zbo zcx (zb (pv 1)) (zb (pv 6))) zd))) (za (zbs zgf (zfi fun _ _ _ _=>.int _) (zb (pv 5)) (zb (pv 6))) zd))) zd)))))))
 (zf (zw (zxw (zb (pv 3)))))))
theorem zeg:FnScope ["product", "k", "partly", "rest", "e"] ["product", "k"] (defScope zcs):=⟨rfl, rfl, rfl, by decide +kernel, rfl, by decide +kernel, by decide +kernel⟩
theorem zhv (T:TopF K "product_raised" zcs)(XX:K.In h)(G:h.Ns mainGlobals mg)(z_sum:mg "sum"=none)(A0:CalD P w K mg base "letter_raised" 2 ["partly", "e", "rest"] zbu):CalD P w K mg base "product_raised" 3 ["product", "k"] zbk :=
 have nd:=zeg.nd
 zu (k:=2) T XX G zeg (fun _ _ _ _ _ _ us hl=>len2 us hl fun _ _=>rfl) fun f cdv A outer s H E hr=>(ze (zl (i:=2) nd rfl (Or.inl rfl) (zov (za (zcy (za (zcy zd) (za (zb (pv 1)) zd))) zd)))
 (ze (zl (i:=3) nd rfl (Or.inl rfl) (zba (zql rfl) zbio rfl z_sum zbii (za (zb (pv 0)) zd)))
 (ze (zbi xcd rfl (zbq (zb (pv 0))) (zh (i:=4) nd rfl (Or.inl rfl))
 (ze (zbhf (i:=3) nd rfl (Or.inl rfl) (zb (pv 4)) zblj ip_D)
 (zf (zl (i:=2) nd rfl (Or.inl rfl) (zr A0 (fun _ _ _ _ h=>zq h) (hr.mono (by decide)) rfl (za (zb (pv 2)) (za (zb (pv 4)) (za (zb (pv 3)) zd))))))))
 (zf (zw (zfo rfl (zbq (zb (pv 2))) (fun _ _ _ _ _=>(zei rfl (zt (zh (i:=0) (show(["made", "left"]:List Str).Nodup from by decide +kernel) rfl (Or.inl rfl)) (zt (zh (i:=1) (show(["made", "left"]:List Str).Nodup from by decide +kernel) rfl (Or.inl rfl)) zcn)))) (fun _ _ _ _ _=>zfv) (fun _ _ _ _ _=>(zb (pv 0))) (N:=["made", "left"]) (k:=2) (is:=[]) (zej (by rfl))))))))
theorem zyn:FnScope ["kept", "thing"] ["kept", "thing"] (defScope zbak):=⟨rfl, rfl, rfl, by decide +kernel, rfl, by decide +kernel, by decide +kernel⟩
theorem zbfu (T:TopF K "flip" zbak)(XX:K.In h)(G:h.Ns mainGlobals mg)  : CalD P w K mg base "flip" 1 ["kept", "thing"] zrv :=
 have nd:=zyn.nd
 zu (k:=0) T XX G zyn (fun _ _ _ _ _ _ us hl=>len2 us hl fun _ _=>rfl) fun f cdv A outer s H E hr=>(zf (zed (zuc (zbkn (zmk hr) (zb (pv 1)) (zb (pv 0)))) (zf (zcm (zbhs (zmk hr) (zb (pv 0)) (zb (pv 1)) ⟨rfl,rfl,rfl,rfl⟩))) (zf (zmc (zmk hr) (zb (pv 0)) (zb (pv 1)) zxx rfl))))
theorem zps:FnScope ["some", "k", "kept", "product", "made"] ["some", "k"] (defScope zoe):=⟨rfl, rfl, rfl, by decide +kernel, rfl, by decide +kernel, by decide +kernel⟩
theorem zwq (T:TopF K "raised" zoe)(XX:K.In h)(G:h.Ns mainGlobals mg)(z_sum:mg "sum"=none)(Aj:mg "sorted"=none)(Ad:mg "tuple"=none)(Ak:CalD P w K mg base "is_whole" 1 ["thing"] zbe)(A1:CalD P w K mg base "product_raised" 3 ["product", "k"] zbk)(c_flip:CalD P w K mg base "flip" 1 ["kept", "thing"] zrv):CalD P w K mg base "raised" 4 ["some", "k"] zjv :=
 have nd:=zps.nd
 zu (k:=3) T XX G zps (fun _ _ _ _ _ _ us hl=>len2 us hl fun _ _=>rfl) fun f cdv A outer s H E hr=>(ze (zed (JW.pt (zrr (zgm (zeh (zr Ak (fun _ _ _ _ h=>zq h) (hr.mono (by decide)) rfl (za (zb (pv 1)) zd)))) (zhs (zbp (zre hr.units0) zrl (zb (pv 1)) zg (nomark _)) (by first | exact Or.inl rfl | exact Or.inr rfl)))) (zf zmb) zce)
 (ze (zl (i:=2) nd rfl (Or.inl rfl) zqi)
 (ze (zbi xcd rfl (zbq (zb (pv 0))) (zh (i:=3) nd rfl (Or.inl rfl))
 (zf (zed (zbp zbdr (zfi fun _ _ _ _=>.bl _) (zb (pv 1)) (zba (zql rfl) zbio rfl z_sum zbii (za (zb (pv 3)) zd)) (nomark _)) (zf (zbi xcd rfl (zbq (zr A1 (fun _ _ _ _ h=>zq h) (hr.mono (by decide)) rfl (za (zb (pv 3)) (za (zb (pv 1)) zd)))) (zh (i:=4) nd rfl (Or.inl rfl))
 (zf (zcm (zr c_flip (fun _ _ _ _ h=>zq h) (hr.mono (by decide)) rfl (za (zb (pv 2)) (za (zb (pv 4)) zd))))))) zce)))
 (zf (zw (zic zez zpa rfl Ad zjq (za (zba (zjp rfl hr.units) zqs rfl Aj zqm (za (zb (pv 2)) zd)) zd)))))))
theorem zio:FnScope ["n", "d", "places", "leads", "sources", "k", "product", "left"] ["n", "d", "places"] (defScope zhf):=⟨rfl, rfl, rfl, by decide +kernel, rfl, by decide +kernel, by decide +kernel⟩
theorem zol (T:TopF K "all_leads" zhf)(XX:K.In h)(G:h.Ns mainGlobals mg)(Ab:mg "len"=none)(A2:CalD P w K mg base "raised_products" 12 ["n", "d"] zbg)(c_lessened:CalD P w K mg base "lessened" 1 ["leads", "number"] zfb)(c_as_number:CalD P w K mg base "as_number" 1 ["places", "some"] zdu)(c_raised:CalD P w K mg base "raised" 4 ["some", "k"] zjv):CalD P w K mg base "all_leads" 13 ["n", "d", "places"] zdv :=
 have nd:=zio.nd
 zu (k:=12) T XX G zio (fun _ _ _ _ _ _ us hl=>len3 us hl fun _ _ _=>rfl) fun f cdv A outer s H E hr=>(ze (zl (i:=3) nd rfl (Or.inl rfl) zuh)
 (ze (zl (i:=4) nd rfl (Or.inl rfl) (zfn zd))
 (ze (zbi xcd rfl (zbq (zr A2 (fun _ _ _ _ h=>zq h) (hr.mono (by decide)) rfl (za (zb (pv 0)) (za (zb (pv 1)) zd)))) (zei rfl (zt (zh (i:=5) nd rfl (Or.inl rfl)) (zt (zh (i:=6) nd rfl (Or.inl rfl)) zcn)))
 (ze (zl (i:=7) nd rfl (Or.inl rfl) (zr c_lessened (fun _ _ _ _ h=>zq h) (hr.mono (by decide)) rfl (za (zb (pv 3)) (za (zr c_as_number (fun _ _ _ _ h=>zq h) (hr.mono (by decide)) rfl (za (zb (pv 2)) (za (zr c_raised (fun _ _ _ _ h=>zq h) (hr.mono (by decide)) rfl (za (zcy (za (zb (pv 6)) zd)) (za (zb (pv 5)) zd))) zd))) zd))))
 (zf (zed (zeh (znk (zb (pv 7)) zg (fun _ _=>rfl))) (ze (zud (zmk hr) (zb (pv 3)) (zkx (znk (zb (pv 7)) zg (fun _ _=>rfl))) (zcy (za (znk (zb (pv 7)) zg (fun _ _=>rfl)) (za (zbs zbny (zfi fun _ _ _ _=>.int _) (znk (zb (pv 7)) zg (fun _ _=>rfl)) (zbs zbbl (oI_D fun _ _ _ _=>.int _) zg (zba zca zpd rfl Ab zoy (za (zb (pv 4)) zd)))) zd))) rfl)
 (zf (zcm (zid (zb (pv 4)) (za (zcy (za (zb (pv 5)) (za (zb (pv 6)) zd))) zd))))) zce))))
 (zf (zw (zcy (za (zb (pv 3)) (za (zxw (zb (pv 4))) zd))))))))
theorem zfl:FnScope ["d"] ["d"] (defScope zdy):=⟨rfl, rfl, rfl, by decide +kernel, rfl, by decide +kernel, by decide +kernel⟩
theorem zjz (T:TopF K "degree_asked" zdy)(XX:K.In h)(G:h.Ns mainGlobals mg)(Ak:CalD P w K mg base "is_whole" 1 ["thing"] zbe):CalD P w K mg base "degree_asked" 2 ["d"] zbh :=
 have nd:=zfl.nd
 zu (k:=1) T XX G zfl (fun _ _ _ _ _ _ us hl=>len1 us hl fun _=>rfl) fun f cdv A outer s H E hr=>(ze (zed (JW.pt (zrr (zgm (zeh (zr Ak (fun _ _ _ _ h=>zq h) (hr.mono (by decide)) rfl (za (zb (pv 0)) zd)))) (zhs (zbp (zre hr.units0) zrl (zb (pv 0)) zg (nomark _)) (by first | exact Or.inl rfl | exact Or.inr rfl)))) (zf zmb) zce)
 (zf (zw (zb (pv 0)))))
theorem zim:FnScope ["products", "told", "place", "product"] ["products"] (defScope zhd):=⟨rfl, rfl, rfl, by decide +kernel, rfl, by decide +kernel, by decide +kernel⟩
theorem zoj (T:TopF K "places_of" zhd)(XX:K.In h)(G:h.Ns mainGlobals mg)(Ae:mg "enumerate"=none):CalD P w K mg base "places_of" 1 ["products"] zdp :=
 have nd:=zim.nd
 zu (k:=0) T XX G zim (fun _ _ _ _ _ _ us hl=>len1 us hl fun _=>rfl) fun f cdv A outer s H E hr=>(ze (zl (i:=1) nd rfl (Or.inl rfl) zqi)
 (ze (zbi xcd rfl (zib rfl Ae (zb (pv 0))) (zei rfl (zt (zh (i:=2) nd rfl (Or.inl rfl)) (zt (zh (i:=3) nd rfl (Or.inl rfl)) zcn)))
 (zf (zmc (zmk hr) (zb (pv 1)) (zb (pv 3)) (zb (pv 2)) rfl)))
 (zf (zw (zb (pv 1))))))
theorem zkh:FnScope ["n", "d", "products", "leads"] ["n", "d"] (defScope zis):=⟨rfl, rfl, rfl, by decide +kernel, rfl, by decide +kernel, by decide +kernel⟩
theorem zrf (T:TopF K "standing" zis)(XX:K.In h)(G:h.Ns mainGlobals mg)(Ae:mg "enumerate"=none)(Ag:CalD P w K mg base "products_of_degree" 11 ["n", "d"] (iterF zn 10))(c_bounded:CalD P w K mg base "bounded" 3 ["n", "d"] zgx)(A3:CalD P w K mg base "degree_asked" 2 ["d"] zbh)(c_all_leads:CalD P w K mg base "all_leads" 13 ["n", "d", "places"] zdv)(c_places_of:CalD P w K mg base "places_of" 1 ["products"] zdp):CalD P w K mg base "standing" 14 ["n", "d"] zcb :=
 have nd:=zkh.nd
 zu (k:=13) T XX G zkh (fun _ _ _ _ _ _ us hl=>len2 us hl fun _ _=>rfl) fun f cdv A outer s H E hr=>(ze (zl (i:=2) nd rfl (Or.inl rfl) (zr Ag (fun _ _ _ _ h=>zq h) (hr.mono (by decide)) rfl (za (zb (pv 0)) (za (zr c_bounded (fun _ _ _ _ h=>zq h) (hr.mono (by decide)) rfl (za (zb (pv 0)) (za (zr A3 (fun _ _ _ _ h=>zq h) (hr.mono (by decide)) rfl (za (zb (pv 1)) zd)) zd))) zd))))
 (ze (zl (i:=3) nd rfl (Or.inr rfl) (znk (zr c_all_leads (fun _ _ _ _ h=>zq h) (hr.mono (by decide)) rfl (za (zb (pv 0)) (za (zb (pv 1)) (za (zr c_places_of (fun _ _ _ _ h=>zq h) (hr.mono (by decide)) rfl (za (zb (pv 2)) zd)) zd)))) zg (fun _ _=>rfl)))
 (zf (zw (zbcz rfl (zib rfl Ae (zb (pv 2))) (fun _ _ _ _ _=>(zei rfl (zt (zh (i:=0) (show(["place", "product", "leads"]:List Str).Nodup from by decide +kernel) rfl (Or.inl rfl)) (zt (zh (i:=1) (show(["place", "product", "leads"]:List Str).Nodup from by decide +kernel) rfl (Or.inl rfl)) zcn)))) (fun _ _ _ _ _=>(zjm (zuc (zmz (zmk hr) (zbs zbo zcx (zb (pv 0)) zg) (zb (pv 2)))))) (fun _ _ _ _ _=>(zb (pv 1))) (N:=["place", "product", "leads"]) (k:=2) (is:=[3]) (zej (by rfl)))))))
theorem zfj:FnScope ["n", "d"] ["n", "d"] (defScope zdw):=⟨rfl, rfl, rfl, by decide +kernel, rfl, by decide +kernel, by decide +kernel⟩
theorem zjx (T:TopF K "rows_counted" zdw)(XX:K.In h)(G:h.Ns mainGlobals mg)(Ab:mg "len"=none)(Ai:CalD P w K mg base "standing" 14 ["n", "d"] zcb):CalD P w K mg base "rows_counted" 15 ["n", "d"] zbt :=
 have nd:=zfj.nd
 zu (k:=14) T XX G zfj (fun _ _ _ _ _ _ us hl=>len2 us hl fun _ _=>rfl) fun f cdv A outer s H E hr=>(zf (zw (zba zca zpd rfl Ab zoy (za (zr Ai (fun _ _ _ _ h=>zq h) (hr.mono (by decide)) rfl (za (zb (pv 0)) (za (zb (pv 1)) zd))) zd))))
theorem zgb:FnScope ["_law_thing"] ["_law_thing"] (defScope zes):=⟨rfl, rfl, rfl, by decide +kernel, rfl, by decide +kernel, by decide +kernel⟩
theorem zlm (T:TopF K "_law_number" zes)(XX:K.In h)(G:h.Ns mainGlobals mg)(z_bool:mg "bool"=none)(Ac:mg "isinstance"=none)(z_int:mg "int"=none):CalD P w K mg base "_law_number" 1 ["_law_thing"] zbe :=
 have nd:=zgb.nd
 zu (k:=0) T XX G zgb (fun _ _ _ _ _ _ us hl=>len1 us hl fun _=>rfl) fun f cdv A outer s H E hr=>(zf (zw (zxy (zba zcj zee rfl Ac zbj (za (zb (pv 0)) (za (zmf (ziz (v:=.ty "int") rfl z_int zbdg rfl) (fun _ _=>.ty _)) zd))) (zxu (zbcw (zba zcj zee rfl Ac zbj (za (zb (pv 0)) (za (zmf (ziz (v:=.ty "bool") rfl z_bool zzs rfl) (fun _ _=>.ty _)) zd))))))))
theorem zgc:FnScope ["_law_n", "_law_thing", "_law_product"] ["_law_n", "_law_thing"] (defScope zet):=⟨rfl, rfl, rfl, by decide +kernel, rfl, by decide +kernel, by decide +kernel⟩
theorem zln (T:TopF K "_law_is_sum" zet)(XX:K.In h)(G:h.Ns mainGlobals mg)(Ad:mg "tuple"=none)(Ac:mg "isinstance"=none)(Ab:mg "len"=none)(z_all:mg "all"=none)(z_zip:mg "zip"=none)(Al:CalD P w K mg base "_law_number" 1 ["_law_thing"] zbe):CalD P w K mg base "_law_is_sum" 2 ["_law_n", "_law_thing"] zcv :=
 have nd:=zgc.nd
 zu (k:=1) T XX G zgc (fun _ _ _ _ _ _ us hl=>len2 us hl fun _ _=>rfl) fun f cdv A outer s H E hr=>(ze (zed (zgm (zeh (zba zcj zee rfl Ac zbj (za (zb (pv 1)) (za (zmf (ziz (v:=.ty "tuple") rfl Ad zjq rfl) (fun _ _=>.ty _)) zd))))) (zf (zw zxx)) zce)
 (ze (zbi xcd rfl (zbq (zb (pv 1))) (zh (i:=2) nd rfl (Or.inl rfl))
 (ze (zed (JW.pt (zrr (zgm (zeh (zba zcj zee rfl Ac zbj (za (zb (pv 2)) (za (zmf (ziz (v:=.ty "tuple") rfl Ad zjq rfl) (fun _ _=>.ty _)) zd))))) (zhs (zbp (zwo hr.units) zwt (zba zca zpd rfl Ab zoy (za (zb (pv 2)) zd)) (zb (pv 0)) (nomark _)) (by first | exact Or.inl rfl | exact Or.inr rfl)))) (zf (zw zxx)) zce)
 (zf (zed (zgm (zeh (zba (zur rfl) zbip rfl z_all zbik (za (zfo rfl (zbq (zb (pv 2))) (fun _ _ _ _ _=>(zh (i:=0) (show(["_law_e"]:List Str).Nodup from by decide +kernel) rfl (Or.inl rfl))) (fun _ _ _ _ _=>zfv) (fun _ _ _ _ _=>(zxy (zr Al (fun _ _ _ _ h=>zq h) (hr.mono (by decide)) rfl (za (zb (pv 0)) zd)) (zxu (zuj zbnz (zfi fun _ _ _ _=>.bl _) (zb (pv 0)) zg (nomark _))))) (N:=["_law_e"]) (k:=1) (is:=[]) (zej (by rfl))) zd)))) (zf (zw zxx)) zce))))
 (zf (zw (zba (zur rfl) zbip rfl z_all zbik (za (zfo rfl (zbhk rfl z_zip (za (zb (pv 1)) (za (zbpu (zb (pv 1)) (zbcp zg) zbcq) zd))) (fun _ _ _ _ _=>(zei rfl (zt (zh (i:=0) (show(["_law_one", "_law_other"]:List Str).Nodup from by decide +kernel) rfl (Or.inl rfl)) (zt (zh (i:=1) (show(["_law_one", "_law_other"]:List Str).Nodup from by decide +kernel) rfl (Or.inl rfl)) zcn)))) (fun _ _ _ _ _=>zfv) (fun _ _ _ _ _=>(zuj (zre hr.units0) zrl (zb (pv 0)) (zb (pv 1)) (nomark _))) (N:=["_law_one", "_law_other"]) (k:=2) (is:=[]) (zej (by rfl))) zd))))))
theorem zbeo:FnScope ["_law_script", "_law_k", "_law_bag_here", "_law_n", "_law_d", "_law_leads_here", "_law_due", "_law_found", "_law_many"] ["_law_script"] (defScope zbdp):=⟨rfl, rfl, rfl, by decide +kernel, rfl, by decide +kernel, by decide +kernel⟩
theorem zbku {f:Addr}{fd:FuncData}(F:Fun K "law" "law" zbdp f fd)(Ab:mg "len"=none)(z_min:mg "min"=none)(Aa:mg "range"=none)(Ae:mg "enumerate"=none)(Ad:mg "tuple"=none)(z_list:mg "list"=none)(Ac:mg "isinstance"=none)(c__law_bag:CalD P w K mg base "_law_bag" 1 ["_law_script", "_law_at"] zff)(A4:CalD P w K mg base "_law_letters" 2 ["_law_bag_here"] zck)(A5:CalD P w K mg base "_law_degree" 2 ["_law_bag_here", "_law_n"] zcw)(A6:CalD P w K mg base "_law_leads" 3 ["_law_n", "_law_d"] zdt)(Ah:CalD P w K mg base "_law_all" 1 ["_law_n", "_law_d"] zdb)(Ai:CalD P w K mg base "standing" 14 ["n", "d"] zcb)(A7:CalD P w K mg base "_law_is_sum" 2 ["_law_n", "_law_thing"] zcv)(A8:CalD P w K mg base "rows_counted" 15 ["n", "d"] zbt)(Al:CalD P w K mg base "_law_number" 1 ["_law_thing"] zbe):FnOk P w K mg base CX0 16 f fd ["_law_script"] (spLaw K) :=
  have nd:=zbeo.nd
  zbgi (k:=15) F zbeo rfl (fun cdv A outer s H E hr=>(ze (zbi xcd rfl (zdm rfl Aa (za (zbs zbo zcx (zba (zmh rfl) zbnh rfl z_min zbdf (za zg (za (zba zca zpd rfl Ab zoy (za (zb (pv 0)) zd)) zd))) zg) zd)) (zh (i:=1) nd rfl (Or.inl rfl))
  (ze (zl (i:=2) nd rfl (Or.inl rfl) (zr c__law_bag (fun _ _ _ _ h=>zq h) (hr.mono (by decide)) rfl (za (zb (pv 0)) (za (zb (pv 1)) zd))))
  (ze (zl (i:=3) nd rfl (Or.inl rfl) (zr A4 (fun _ _ _ _ h=>zq h) (hr.mono (by decide)) rfl (za (zb (pv 2)) zd)))
  (ze (zl (i:=4) nd rfl (Or.inl rfl) (zr A5 (fun _ _ _ _ h=>zq h) (hr.mono (by decide)) rfl (za (zb (pv 2)) (za (zb (pv 3)) zd))))
  (ze (zl (i:=5) nd rfl (Or.inr rfl) (zr A6 (fun _ _ _ _ h=>zq h) (hr.mono (by decide)) rfl (za (zb (pv 3)) (za (zb (pv 4)) zd))))
  (ze (zbcm (i:=6) rfl nd rfl (Or.inl rfl) (zib rfl Ae (zr Ah (fun _ _ _ _ h=>zq h) (hr.mono (by decide)) rfl (za (zb (pv 3)) (za (zb (pv 4)) zd)))) (fun _ _ _ _ _=>(zei rfl (zt (zh (i:=0) (show(["_law_place", "_law_product", "_law_leads_here"]:List Str).Nodup from by decide +kernel) rfl (Or.inl rfl)) (zt (zh (i:=1) (show(["_law_place", "_law_product", "_law_leads_here"]:List Str).Nodup from by decide +kernel) rfl (Or.inl rfl)) zcn)))) (fun _ _ _ _ _=>(zjm (zuc (zmz (zmk hr) (zb (pv 0)) (zb (pv 2)))))) (fun _ _ _ _ _=>(zb (pv 1))) (N:=["_law_place", "_law_product", "_law_leads_here"]) (k:=2) (is:=[5]) (zej (by rfl)))
  (ze (zl (i:=7) nd rfl (Or.inl rfl) (zr Ai (fun _ _ _ _ h=>zq h) (hr.mono (by decide)) rfl (za (zb (pv 3)) (za (zb (pv 4)) zd))))
  (ze (zed (JW.pt (zrr (zgm (zeh (zba zcj zee rfl Ac zbj (za (zb (pv 7)) (za (zmf (ziz (v:=.ty "list") rfl z_list zbij rfl) (fun _ _=>.ty _)) zd))))) (zrr (zgm (zeh (zr A7 (fun _ _ _ _ h=>zq h) (hr.mono (by decide)) rfl (za (zb (pv 3)) (za (zic zez zpa rfl Ad zjq (za (zb (pv 7)) zd)) zd))))) (zhs (zbp (zwo hr.units) zwt (zb (pv 7)) (zb (pv 6)) (nomark _)) (by first | exact Or.inl rfl | exact Or.inr rfl))))) (zf (zw zxx)) zce)
  (ze (zl (i:=8) nd rfl (Or.inl rfl) (zr A8 (fun _ _ _ _ h=>zq h) (hr.mono (by decide)) rfl (za (zb (pv 3)) (za (zb (pv 4)) zd))))
  (ze (zed (JW.pt (zrr (zgm (zeh (zr Al (fun _ _ _ _ h=>zq h) (hr.mono (by decide)) rfl (za (zb (pv 8)) zd)))) (zhs (zbp (zwo hr.units) zwt (zb (pv 8)) (zba zca zpd rfl Ab zoy (za (zb (pv 6)) zd)) (nomark _)) (by first | exact Or.inl rfl | exact Or.inr rfl)))) (zf (zw zxx)) zce)
  (ze (zcm (zbda (zb (pv 7))))
  (zf (zed (JW.pt (zub (zbp (ztb hr.units) zwt (zb (pv 1)) zg (nomark _)) (zhs (zbp (zwo hr.units) zwt (zr Ai (fun _ _ _ _ h=>zq h) (hr.mono (by decide)) rfl (za (zb (pv 3)) (za (zb (pv 4)) zd))) (zb (pv 6)) (nomark _)) (by first | exact Or.inl rfl | exact Or.inr rfl)))) (zf (zw zxx)) zce)))))))))))))
  (zf (zw zxx)))) K59.holds
end
theorem all_mk {l:W.OpenLaw}{w:World}{K:Fg}{h:Heap}{mg:Str->Option Value}{fa:Addr}{u0:Tok}{u1:Tok}(X:K.In h)(G:h.Ns mainGlobals mg)(hfa:mg "law"=some (.ref fa))
  (t1:TopF K "_law_bag" ziw)(t2:TopF K "_law_take" zhg)(t3:TopF K "_law_letters" zdz)(t4:TopF K "_law_degree" zeu)(t5:TopF K "_law_all" zix)(t6:TopF K "_law_odd" ziv)(t7:TopF K "_law_raised" zer)(t8:TopF K "_law_leads" zft)(t9:TopF K "products_of_degree" zbf)(t10:TopF K "most_degree" zeq)(t11:TopF K "number_of_products" zbz)(t12:TopF K "can_be_judged" zde)(t13:TopF K "bounded" zli)(t14:TopF K "parts_enough" zdx)(t15:TopF K "raised_products" zcl)(t16:TopF K "lessened" zit)(t17:TopF K "as_number" zhe)(t18:TopF K "is_whole" ziu)(t19:TopF K "shares" zod)(t20:TopF K "letter_raised" zdd)(t21:TopF K "product_raised" zcs)(t22:TopF K "flip" zbak)(t23:TopF K "raised" zoe)(t24:TopF K "all_leads" zhf)(t25:TopF K "degree_asked" zdy)(t26:TopF K "places_of" zhd)(t27:TopF K "standing" zis)(t28:TopF K "rows_counted" zdw)(t29:TopF K "_law_number" zes)(t30:TopF K "_law_is_sum" zet)(t31:TopF K "law" zbdp)  (z0:W.nsIn K mainGlobals "len"=some none)(z1:W.nsIn K mainGlobals "abs"=some none)(z2:W.nsIn K mainGlobals "min"=some none)(z3:W.nsIn K mainGlobals "range"=some none)(z4:W.nsIn K mainGlobals "int"=some none)(z5:W.nsIn K mainGlobals "sorted"=some none)(z6:W.nsIn K mainGlobals "tuple"=some none)(z7:W.nsIn K mainGlobals "enumerate"=some none)(z8:W.nsIn K mainGlobals "bool"=some none)(z9:W.nsIn K mainGlobals "isinstance"=some none)(z10:W.nsIn K mainGlobals "sum"=some none)(z11:W.nsIn K mainGlobals "all"=some none)(z12:W.nsIn K mainGlobals "zip"=some none)(z13:W.nsIn K mainGlobals "list"=some none)(y0:W.nsIn K mainGlobals "FEW_LETTERS"=some (some (.int 3 u0)))(y1:W.nsIn K mainGlobals "MOST_JUDGED"=some (some (.int 200 u1)))  :
  ∃ fd:FuncData,(∀(s:Shared) (v:Value), BindsTo s fd ⟨[v],[]⟩ [("_law_script", v)])/\∀ base:Heap, K.In base->base.Ns mainGlobals mg->FnOk l.prog w K mg base CX0 16 fa fd ["_law_script"] (spLaw K):=by
 have x0:=xdh X G z0;have x1:=xdh X G z1;have x2:=xdh X G z2;have x3:=xdh X G z3;have x4:=xdh X G z4;have x5:=xdh X G z5;have x6:=xdh X G z6;have x7:=xdh X G z7;have x8:=xdh X G z8;have x9:=xdh X G z9;have x10:=xdh X G z10;have x11:=xdh X G z11;have x12:=xdh X G z12;have x13:=xdh X G z13;have v0:=xkt X G y0;have v1:=xkt X G y1;obtain⟨f,fd,a,F⟩:=t31;have e:=hfa.symm.trans (xkt X G a);cases e;obtain⟨oc,od,kV,doc,pm,an,cdv,ct,osl,rfl,lk,hcd⟩:=id F.ex;refine⟨W.fnOf "law" "law" (defArgs zbdp) (defBody zbdp) (defScope zbdp) .none kV doc pm an cdv ct, fun s v=>.of_eq rfl, fun base _ _=>?_⟩
 have k__law_bag:CalD l.prog w K mg base _ _ _ _:=zrj t1 X G x0 x1 x2 x3
 have Am:CalD l.prog w K mg base _ _ _ _:=zom t2 X G 
 have A9:CalD l.prog w K mg base _ _ _ _:=zka t3 X G Am
 have Ba:CalD l.prog w K mg base _ _ _ _:=zlo t4 X G x4 Am
 have An:CalD l.prog w K mg base _ _ _ _:=zrk t5 X G x3
 have k__law_odd:CalD l.prog w K mg base _ _ _ _:=zri t6 X G x5 x6
 have Bb:CalD l.prog w K mg base _ _ _ _:=zll t7 X G x2 x3 k__law_odd
 have Bc:CalD l.prog w K mg base _ _ _ _:=znc t8 X G x7 x3 An Bb
 have Ao:CalD l.prog w K mg base _ _ _ _:=zfg t9 X G x3
 have Bd:CalD l.prog w K mg base _ _ _ _:=zlk t10 X G v0
 have Be:CalD l.prog w K mg base _ _ _ _:=zfh t11 X G x3
 have Bf:CalD l.prog w K mg base _ _ _ _:=zjc t12 X G v1 Be Bd
 have k_bounded:CalD l.prog w K mg base _ _ _ _:=ztd t13 X G Bf
 have Bg:CalD l.prog w K mg base _ _ _ _:=zjy t14 X G 
 have Bh:CalD l.prog w K mg base _ _ _ _:=zhj t15 X G Bg Ao
 have k_lessened:CalD l.prog w K mg base _ _ _ _:=zrg t16 X G 
 have k_as_number:CalD l.prog w K mg base _ _ _ _:=zok t17 X G 
 have Ap:CalD l.prog w K mg base _ _ _ _:=zrh t18 X G x8 x9 x4
 have k_shares:CalD l.prog w K mg base _ _ _ _:=zwp t19 X G 
 have Bi:CalD l.prog w K mg base _ _ _ _:=zjb t20 X G k_shares
 have Bj:CalD l.prog w K mg base _ _ _ _:=zhv t21 X G x10 Bi
 have k_flip:CalD l.prog w K mg base _ _ _ _:=zbfu t22 X G 
 have k_raised:CalD l.prog w K mg base _ _ _ _:=zwq t23 X G x10 x5 x6 Ap Bj k_flip
 have k_all_leads:CalD l.prog w K mg base _ _ _ _:=zol t24 X G x0 Bh k_lessened k_as_number k_raised
 have Bk:CalD l.prog w K mg base _ _ _ _:=zjz t25 X G Ap
 have k_places_of:CalD l.prog w K mg base _ _ _ _:=zoj t26 X G x7
 have Aq:CalD l.prog w K mg base _ _ _ _:=zrf t27 X G x7 Ao k_bounded Bk k_all_leads k_places_of
 have Bl:CalD l.prog w K mg base _ _ _ _:=zjx t28 X G x0 Aq
 have Ar:CalD l.prog w K mg base _ _ _ _:=zlm t29 X G x8 x9 x4
 have Bm:CalD l.prog w K mg base _ _ _ _:=zln t30 X G x6 x9 x0 x11 x12 Ar
 exact zbku F x0 x2 x3 x7 x6 x13 x9 k__law_bag A9 Ba Bc An Aq Bm Bl Ar
end K59
open PySem PySem.W PyProof.Rows
set_option maxRecDepth 100000 in
set_option maxHeartbeats 0 in
theorem PySem.Challenge.cw_raisedsums_k59_products_that_stand_holds : PySem.Challenge.rw_raisedsums_k59_products_that_stand.Holds := by
  w_on; o_law; k_head; (case hw => w_witness2)
  k_fill
  refine L2.zbeb (l := PySem.Challenge.rw_raisedsums_k59_products_that_stand) (n := 63) (k := 16) (x := "_law_script") (CX := fun _ => L2.CX0) (sp := fun w => Dd.spLaw _) rfl (by decide) rfl ⟨rfl, by decide, by decide⟩ (fun w h Y => PySem.W.kIn_of Y) ?F (fun _ _ a ns hl _ hS => ⟨a, ns, rfl, hS, hl, fun _ => rfl⟩) (fun _ _ _ _ _ z => z)
  case F =>
    intro w mg fa h KX G hmg
    refine' K59.all_mk KX G hmg ?t1 ?t2 ?t3 ?t4 ?t5 ?t6 ?t7 ?t8 ?t9 ?t10 ?t11 ?t12 ?t13 ?t14 ?t15 ?t16 ?t17 ?t18 ?t19 ?t20 ?t21 ?t22 ?t23 ?t24 ?t25 ?t26 ?t27 ?t28 ?t29 ?t30 ?t31  ?z0 ?z1 ?z2 ?z3 ?z4 ?z5 ?z6 ?z7 ?z8 ?z9 ?z10 ?z11 ?z12 ?z13 ?y0 ?y1 
    all_goals first|k_is|kernel_rfl|(refine' L2.zby ?a ?l ?c ?k;(case a=>k_is);(case l=>k_is);(case c=>k_is);(case k=>k_is))|skip
#print axioms PySem.Challenge.cw_raisedsums_k59_products_that_stand_holds
