import PyProof.Rows.All
import Wide.All
import OpenK.AllK
import Wide.FinOn
import PyProof.EqAt
import PyProof.EqKinds
import PyProof.TupleCall
import PySem.Challenge.RW_raisedsums_k58_not_judged
set_option Elab.async false
set_option linter.all false
set_option maxRecDepth 100000
noncomputable section
namespace PySem.W.Fast
theorem tw14412367691639872162:True:=⟨⟩
theorem tw8058746498776842261:True:=⟨⟩
theorem tw4136156620427918325:True:=⟨⟩
theorem tw13068284103097406958:True:=⟨⟩
theorem tw8951058816217156621:True:=⟨⟩
theorem tw6557309325894233077:True:=⟨⟩
theorem tw1944954958172986224:True:=⟨⟩
theorem tw17566485320982499777:True:=⟨⟩
theorem tw441501443909935164:True:=⟨⟩
theorem tw9647122016155920618:True:=⟨⟩
theorem tw17862681004409938366:True:=⟨⟩
theorem tw13167225404148346731:True:=⟨⟩
theorem tw13083837652325072151:True:=⟨⟩
theorem tw9015846326548078010:True:=⟨⟩
theorem tw7294357730497738716:True:=⟨⟩
theorem tw2921510656288520855:True:=⟨⟩
theorem tw5825101131501509396:True:=⟨⟩
theorem tw10772722358042724510:True:=⟨⟩
theorem tw1727539278897529600:True:=⟨⟩
theorem tw1671140454960798031:True:=⟨⟩
theorem tw14212050346113549319:True:=⟨⟩
theorem tw2488851917504424268:True:=⟨⟩
theorem tw14791565923029619137:True:=⟨⟩
theorem tw13658113142872472036:True:=⟨⟩
theorem tw6591524448565850642:True:=⟨⟩
theorem tw1188813880809429548:True:=⟨⟩
theorem tw15941493695514946265:True:=⟨⟩
theorem tw12419156972257634468:True:=⟨⟩
theorem tw14010097386974426318:True:=⟨⟩
theorem tw18113193141415779406:True:=⟨⟩
theorem tw10127000553454921256:True:=⟨⟩
theorem tw13172973550333314800:True:=⟨⟩
theorem tw12509726232152401591:True:=⟨⟩
theorem tw1329668968107815545:True:=⟨⟩
theorem tw5660755118747627487:True:=⟨⟩
theorem tw4715328024489244145:True:=⟨⟩
theorem tw358768988553174862:True:=⟨⟩
theorem tw8984296279115081724:True:=⟨⟩
theorem tw13981252676796246700:True:=⟨⟩
theorem tw12828494487814626792:True:=⟨⟩
theorem tw1608705611438252249:True:=⟨⟩
theorem tw9051056338113886640:True:=⟨⟩
theorem tw1029269341193420217:True:=⟨⟩
theorem tw13922985586967541101:True:=⟨⟩
theorem tw1846231097895178762:True:=⟨⟩
theorem tw7155973163346269872:True:=⟨⟩
theorem tw15131572513219129736:True:=⟨⟩
theorem tw14144410295864042826:True:=⟨⟩
theorem tw17131181124534088741:True:=⟨⟩
theorem tw15777756955289507183:True:=⟨⟩
theorem tw2878717559829697914:True:=⟨⟩
theorem tw345558715660825510:True:=⟨⟩
theorem tw9659434473230253591:True:=⟨⟩
theorem tw9826184562719643471:True:=⟨⟩
theorem tw8752184076765476308:True:=⟨⟩
theorem tw12990526888917267487:True:=⟨⟩
theorem tw6732450520553014569:True:=⟨⟩
theorem tw14924479928263450345:True:=⟨⟩
theorem tw626368898740836123:True:=⟨⟩
theorem tw3395942186085621043:True:=⟨⟩
theorem tw3050959270839092006:True:=⟨⟩
theorem tw17848918839680139445:True:=⟨⟩
theorem tw11986250925856339207:True:=⟨⟩
theorem tw10568400644545956520:True:=⟨⟩
theorem tw15206891764055145529:True:=⟨⟩
theorem tw3551968939041976593:True:=⟨⟩
theorem tw13373777121323685012:True:=⟨⟩
theorem tw13122364783422850329:True:=⟨⟩
theorem tw16265720713614350399:True:=⟨⟩
theorem tw727275741585290174:True:=⟨⟩
theorem tw4420193542312208769:True:=⟨⟩
theorem tw14111951138603497487:True:=⟨⟩
theorem tw8971753355675368588:True:=⟨⟩
theorem tw1753805812260168152:True:=⟨⟩
theorem tw7910098605764239379:True:=⟨⟩
theorem tw5516623988824462275:True:=⟨⟩
theorem tw9769422776254275997:True:=⟨⟩
theorem tw3990916210706300513:True:=⟨⟩
theorem tw8715551203183387805:True:=⟨⟩
theorem tw12245251371843472958:True:=⟨⟩
theorem tw16105257707733064377:True:=⟨⟩
theorem tw13337044099840574104:True:=⟨⟩
theorem tw8651894819912553487:True:=⟨⟩
theorem tw5380582954392723292:True:=⟨⟩
theorem tw7699041870850486119:True:=⟨⟩
theorem tw7934497942162676653:True:=⟨⟩
theorem tw14063405408155612329:True:=⟨⟩
theorem tw10860694942920057511:True:=⟨⟩
theorem tw5950816578826194168:True:=⟨⟩
theorem tw2757531533591338378:True:=⟨⟩
theorem tw886009808687683316:True:=⟨⟩
theorem tw3662090280095382583:True:=⟨⟩
theorem tw826317733438158916:True:=⟨⟩
theorem tw15119450821062548521:True:=⟨⟩
theorem tw8468752083671392681:True:=⟨⟩
theorem tw14608110025255190540:True:=⟨⟩
theorem tw12081799584529976298:True:=⟨⟩
theorem tw14767390970674253229:True:=⟨⟩
theorem tw16322765661416136602:True:=⟨⟩
theorem tw3803232738080467638:True:=⟨⟩
theorem tw14417675237197633839:True:=⟨⟩
theorem tw11662589320961964173:True:=⟨⟩
theorem tw13653089831943936842:True:=⟨⟩
theorem tw12822661427894147880:True:=⟨⟩
theorem tw7659519831722326065:True:=⟨⟩
theorem tw4154237440097134161:True:=⟨⟩
theorem tw14820892425878237962:True:=⟨⟩
theorem tw1650583239656631597:True:=⟨⟩
theorem tw5710625407230877878:True:=⟨⟩
theorem tw9439680758523278734:True:=⟨⟩
theorem tw3351977344441677126:True:=⟨⟩
theorem tw2938857407875536316:True:=⟨⟩
theorem tw15002221133083495099:True:=⟨⟩
theorem tw6428390682952285263:True:=⟨⟩
theorem tw10254076730812207784:True:=⟨⟩
theorem tw10533190649752982353:True:=⟨⟩
end PySem.W.Fast
set_option genSizeOfSpec false
set_option genInjectivity false
abbrev Fg:=PySem.W.Frag
abbrev xba:=@PySem.wpAny_bind
abbrev xbb:=@Nat.le_trans
abbrev xbc:=@List.length_map
abbrev xbd:=@PySem.wpAny_pure
abbrev xbe:=@List.getElem?_eq_getElem
abbrev xbf:=@Nat.le_refl
abbrev xbg:=@PySem.Heap.get?_push_of_some
abbrev xbh:=@Nat.lt_of_lt_of_le
abbrev xbi:=@PyProof.Rows.wpS_bind
abbrev xbj:=@List.getElem?_eq_some_iff
abbrev xbk:=@List.mem_singleton
abbrev xbl:=@List.length_append
abbrev xbm:=@PyProof.Rows.wpS_pure
abbrev xbn:=@List.mem_cons
abbrev xbo:=@List.mem_cons_of_mem
abbrev xbp:=@List.mem_cons_self
abbrev xbq:=@PySem.Heap.lt_size
abbrev xbr:=@List.getD_eq_getElem?_getD
abbrev xbs:=@List.size_toArray
abbrev xbt:=@List.getElem?_append_left
abbrev xbu:=@Nat.le_of_lt
abbrev xbv:=@Nat.ne_of_lt
abbrev xbw:=@PySem.Heap.get?_push_size
abbrev xbx:=@List.length_cons
abbrev xby:=@Nat.le_add_right
abbrev xbz:=@List.mem_append
abbrev xca:=@List.map_cons
abbrev xcb:=@Array.length_toList
abbrev xcc:=@decide_eq_false
abbrev xcd:=@Array.getElem?_toList
abbrev xce:=@List.mem_map
abbrev xcf:=@Nat.le_of_not_lt
abbrev xcg:=@List.mem_of_getElem?
abbrev xch:=@Option.some.inj
abbrev xci:=@Nat.add_sub_cancel'
abbrev xcj:=@List.append_assoc
abbrev xck:=@List.mem_range
abbrev xcl:=@Nat.add_le_add_left
abbrev xcm:=@List.getElem?_append_right
abbrev xcn:=@List.getElem?_map
abbrev xco:=@Nat.le_of_lt_succ
abbrev xcp:=@List.take_length
abbrev xcq:=@Array.getD_eq_getD_getElem?
abbrev xcr:=@List.filter_cons_of_pos
abbrev xcs:=@decide_eq_true
abbrev xct:=@List.append_nil
abbrev xcu:=@List.getElem?_set_ne
abbrev xcv:=@Bool.false_eq_true
abbrev xcw:=@List.map_map
abbrev xcx:=@Array.toList_append
abbrev xcy:=@Nat.add_sub_cancel_left
abbrev xcz:=@List.filter_cons_of_neg
abbrev xda:=@Array.getElem?_eq_getElem
abbrev xdb:=@PySem.W.mg_of
abbrev xdc:=@Nat.lt_of_le_of_lt
abbrev xdd:=@Nat.lt_of_le_of_ne
abbrev xde:=@Option.map_eq_some_iff
abbrev xdf:=@Nat.le_of_eq
abbrev xdg:=@Nat.le_sub_one_of_lt
abbrev xdh:=@List.length_take
abbrev xdi:=@List.getElem_mem
abbrev xdj:=@Nat.le_of_succ_le
abbrev xdk:=@List.mem_append_right
abbrev xdl:=@Nat.le_of_add_left_le
abbrev xdm:=@List.take_append_drop
abbrev xdn:=@PySem.W.mg_none_of
abbrev xdo:=@List.take_of_length_le
abbrev xdp:=@List.all_eq_true
abbrev xdq:=@List.filterMap_cons_some
abbrev xdr:=@Nat.zero_add
abbrev xds:=@PyProof.Rows.wpS_forRange
abbrev xdt:=@List.find?_cons
abbrev xdu:=@Nat.sub_lt_left_of_lt_add
abbrev xdv:=@PySem.Heap.get?_update_other
abbrev xdw:=@PySem.wpAny_mono
abbrev xdx:=@Nat.le_antisymm
abbrev xdy:=@Nat.add_lt_of_lt_sub'
abbrev xdz:=@PySem.wpAny_holding
abbrev xea:=@PySem.wpAny_newObj_type
abbrev xeb:=@Nat.zero_le
abbrev xec:=@List.filterMap_cons_none
abbrev xed:=@PySem.mem_of_lookup
abbrev xee:=@Nat.add_lt_add_left
abbrev xef:=@of_decide_eq_true
abbrev xeg:=@Option.bind_eq_some_iff
abbrev xeh:=@Nat.mod_two_eq_zero_or_one
abbrev xei:=@PySem.W.kia_one
abbrev xej:=@Nat.sub_lt_sub_right
abbrev xek:=@Nat.min_eq_left
abbrev xel:=@List.getElem?_set_self
abbrev xem:=@Nat.not_lt_of_le
abbrev xen:=@if_false
abbrev xeo:=@PySem.wpAny_call_entry
abbrev xep:=@Ne.symm
abbrev xeq:=@if_true
abbrev xer:=@PySem.Heap.SameBut.update
abbrev xes:=@List.getElem_of_mem
abbrev xet:=@Array.toList_push
abbrev xeu:=@PySem.Heap.get?_update_self
abbrev xev:=@Nat.le_sub_of_add_le'
abbrev xew:=@List.sum_append
abbrev xex:=@List.mem_append_left
abbrev xey:=@Nat.succ_le_succ
abbrev xez:=@Nat.lt_or_ge
abbrev xfa:=@Array.getElem?_eq_some_iff
abbrev xfb:=@Array.perm_iff_toList_perm
abbrev xfc:=@decide_false
abbrev xfd:=@Nat.lt_of_succ_lt
abbrev xfe:=@List.length_range
abbrev xff:=@beq_eq_false_iff_ne
abbrev xfg:=@List.nodup_cons
abbrev xfh:=@List.pairwise_iff_getElem
abbrev xfi:=@Bool.false_ne_true
abbrev xfj:=@List.lookup_cons
abbrev xfk:=@PySem.Obj.data_mapFields
abbrev xfl:=@List.getElem?_drop
abbrev xfm:=@PySem.wpAny_Call_Name_kw
abbrev xfn:=@PyProof.Rows.wpS_mono
abbrev xfo:=@decide_true
abbrev xfp:=@PySem.F.slot_dict_keyiterator_next
abbrev xfq:=@Nat.sub_le_sub_right
abbrev xfr:=@List.pairwise_append
abbrev xfs:=@Nat.sub_pos_of_lt
abbrev xft:=@Nat.le_succ_of_le
abbrev xfu:=@List.mem_filter
abbrev xfv:=@List.length_set
abbrev xfw:=@List.idxOf_lt_length_of_mem
abbrev xfx:=@beq_iff_eq
abbrev xfy:=@Nat.lt_of_not_le
abbrev xfz:=@List.mem_flatMap
abbrev xga:=@List.Perm.append_left
abbrev xgb:=@List.Pairwise.sublist
abbrev xgc:=@Nat.lt_of_lt_of_eq
abbrev xgd:=@List.pairwise_cons
abbrev xge:=@List.filter_append
abbrev xgf:=@List.drop_eq_getElem_cons
abbrev xgg:=@PySem.sizeLine_eq
abbrev xgh:=@Nat.sub_le
abbrev xgi:=@List.mem_of_mem_take
abbrev xgj:=@List.map_append
abbrev xgk:=@Int.toNat_natCast
abbrev xgl:=@Nat.lt_irrefl
abbrev xgm:=@Nat.xor_assoc
abbrev xgn:=@PySem.wpAny_typeNameOfWhole_keyiter
abbrev xgo:=@Int.eq_ofNat_of_zero_le
abbrev xgp:=@Nat.sub_le_sub_left
abbrev xgq:=@Nat.min_le_right
abbrev xgr:=@List.length_drop
abbrev xgs:=@Bool.and_eq_true
abbrev xgt:=@List.nodup_nil
abbrev xgu:=@beq_self_eq_true
abbrev xgv:=@PySem.wpAny_setField
abbrev xgw:=@decide_eq_decide
abbrev xgx:=@PyProof.Rows.wpS_modify
abbrev xgy:=@PyProof.Rows.callWith_type1
abbrev xgz:=@Nat.sub_add_cancel
abbrev xha:=@PySem.codeAny_mono
abbrev xhb:=@PySem.tupleKind_room_in1
abbrev xhc:=@List.length_replicate
abbrev xhd:=@PySem.Obj.isFreed_of_fields
abbrev xhe:=@List.perm_append_comm
abbrev xhf:=@List.foldl_cons
abbrev xhg:=@List.getElem?_eq_none
abbrev xhh:=@PySem.PassesOwn.never
abbrev xhi:=@PySem.wpAny_passesOwn
abbrev xhj:=@List.any_cons
abbrev xhk:=@Nat.lt_succ_of_lt
abbrev xhl:=@PySem.wpAny_truthy_bool
abbrev xhm:=@List.mem_of_mem_drop
abbrev xhn:=@Nat.pow_le_pow_right
abbrev xho:=@Option.isSome_iff_exists
abbrev xhp:=@List.take_succ_eq_append_getElem
abbrev xhq:=@List.not_mem_nil
abbrev xhr:=@PySem.F.called_set
abbrev xhs:=@PyProof.Rows.slot_tuple_getitem
abbrev xht:=@Array.getElem?_setIfInBounds_ne
abbrev xhu:=@List.countP_cons_of_pos
abbrev xhv:=@Nat.lt_add_of_pos_right
abbrev xhw:=@PySem.F.plainAttrs_list
abbrev xhx:=@PySem.Paired.length
abbrev xhy:=@PySem.wpAny_attempt
abbrev xhz:=@PyProof.Rows.wpS_get
abbrev xia:=@PySem.Calls.spliced_cons
abbrev xib:=@Nat.sub_lt
abbrev xic:=@Nat.min_le_left
abbrev xid:=@Array.append_empty
abbrev xie:=@List.count_cons
abbrev xig:=@List.count_eq_zero
abbrev xih:=@PySem.wpAny_rule
abbrev xii:=@PySem.Calls.callWith_builtin
abbrev xij:=@List.Perm.append_right
abbrev xik:=@List.drop_eq_nil_of_le
abbrev xil:=@List.count_append
abbrev xim:=@List.foldl_append
abbrev xin:=@List.filter_congr
abbrev xio:=@PySem.wpAny_dictEntries
abbrev xip:=@Nat.ne_of_gt
abbrev xiq:=@Nat.lt_trans
abbrev xir:=@Array.extract_eq_empty_of_le
abbrev xis:=@PySem.Calls.evalArgs_plain
abbrev xit:=@Nat.min_eq_right
abbrev xiu:=@Array.toList_reverse
abbrev xiv:=@List.reverse_reverse
abbrev xiw:=@Nat.lt_succ_self
abbrev xix:=@List.cons_append
abbrev xiy:=@Nat.mul_le_mul_right
abbrev xiz:=@PySem.wpAny_call
abbrev xja:=@PySem.wpAny_askSetting
abbrev xjb:=@PySem.Calls.Name_function_global
abbrev xjc:=@Array.getElem?_setIfInBounds_self_of_lt
abbrev xjd:=@List.sum_cons
abbrev xje:=@PySem.wpAny_field
abbrev xjf:=@List.map_congr_left
abbrev xjg:=@Bool.eq_iff_iff
abbrev xjh:=@List.nil_append
abbrev xji:=@Int.emod_nonneg
abbrev xjj:=@PySem.wpAny_execs_nil
abbrev xjk:=@PySem.wpAny_ite_split
abbrev xjl:=@PySem.W.callWith_K
abbrev xjm:=@PySem.F.args_tuple_add_2
abbrev xjn:=@Nat.sub_self
abbrev xjo:=@Nat.add_zero
abbrev xjp:=@Nat.eq_zero_or_pos
abbrev xjq:=@List.getElem_idxOf
abbrev xjr:=@Int.zero_add
abbrev xjs:=@List.count_pos_iff
abbrev xjt:=@PyProof.Rows.slot_tuple_getitem
abbrev xju:=@and_self
abbrev xjv:=@PySem.F.entry_tuple_add
abbrev xjw:=@List.countP_cons_of_neg
abbrev xjx:=@List.pairwise_singleton
abbrev xjy:=@List.getElem?_cons_succ
abbrev xjz:=@List.length_eq_zero_iff
abbrev xka:=@List.eraseIdx_cons_succ
abbrev xkb:=@PySem.Calls.spliced_nil
abbrev xkc:=@List.take_sublist
abbrev xkd:=@Nat.zero_lt_of_lt
abbrev xke:=@List.ext_getElem?
abbrev xkf:=@PySem.wpAny_pyIter_list
abbrev xkg:=@PySem.wpAny_setState_of
abbrev xkh:=@PySem.W.cellsFrom_some
abbrev xki:=@PySem.F.slot_tuple_add
abbrev xkj:=@Array.getElem?_eq_none
abbrev xkk:=@Nat.le_mul_of_pos_left
abbrev xkl:=@Nat.le_succ
abbrev xkm:=@List.getElem_map
abbrev xkn:=@List.mem_reverse
abbrev xko:=@List.any_eq_true
abbrev xkp:=@List.map_flatMap
abbrev xkq:=@PyProof.Rows.wpS_lift
abbrev xkr:=@PySem.F.slot_tuple_lt
abbrev xks:=@List.length_singleton
abbrev xkt:=@PySem.F.slot_dict_get
abbrev xku:=@List.length_filter_le
abbrev xkv:=@Array.mem_toList_iff
abbrev xkw:=@List.of_mem_zip
abbrev xkx:=@List.length_nil
abbrev xky:=@List.range_succ
abbrev xkz:=@Array.toList_extract
abbrev xla:=@List.Nodup.length_le_of_subset
abbrev xlb:=@PySem.Around.under_plainId
abbrev xlc:=@List.filter_map
abbrev xld:=@List.eq_nil_iff_forall_not_mem
abbrev xle:=@Nat.xor_zero
abbrev xlf:=@PySem.codeAny_builtin
abbrev xlg:=@List.filterMap_cons
abbrev xlh:=@Nat.testBit_two_pow
abbrev xli:=@Nat.pow_le_pow_left
abbrev xlj:=@PySem.wpAny_setEntries_of
abbrev xlk:=@List.drop_drop
abbrev xll:=@List.dropLast_concat_getLast
abbrev xlm:=@PySem.wpAny_fieldsOf
abbrev xln:=@Nat.pos_of_ne_zero
abbrev xlo:=@List.filter_filter
abbrev xlp:=@List.sum_singleton
abbrev xlq:=@PySem.wpAny_pyIter_tuple
abbrev xlr:=@of_decide_eq_false
abbrev xls:=@PySem.F.excAttr_ValueError
abbrev xlt:=@List.perm_ext_iff_of_nodup
abbrev xlu:=@Option.isSome_map
abbrev xlv:=@Nat.lt_succ_of_le
abbrev xlw:=@PySem.Obj.cls_mapFields
abbrev xlx:=@List.mapM_toArray
abbrev xly:=@List.drop_sublist
abbrev xlz:=@List.getElem_drop
abbrev xma:=@List.getElem_take
abbrev xmb:=@List.nodup_append
abbrev xmc:=@PySem.wpAny_pyIter_slot
abbrev xmd:=@decide_eq_true_eq
abbrev xme:=@Nat.mod_lt
abbrev xmf:=@PySem.call_meets
abbrev xmg:=@List.map_nil
abbrev xmh:=@List.ext_getElem
abbrev xmi:=@Nat.max_eq_right
abbrev xmj:=@List.perm_middle
abbrev xmk:=@Int.le_trans
abbrev xml:=@List.nodup_range
abbrev xmm:=@Nat.succ_mul
abbrev xmn:=@Nat.zero_xor
abbrev xmo:=@Nat.xor_self
abbrev xmp:=@map_eq_pure_bind
abbrev xmq:=@or_false
abbrev xmr:=@Nat.le_add_left
abbrev xms:=@Nat.and_div_two
abbrev xmt:=@Bool.decide_and
abbrev xmu:=@Nat.testBit_xor
abbrev xmv:=@Nat.two_pos
abbrev xmw:=@List.map_id
abbrev xmx:=@Bool.false_and
abbrev xmy:=@Bool.and_false
abbrev xmz:=@List.Perm.refl
set_option maxHeartbeats 0
namespace L2
open PySem PySem.Spec PyProof.Rows
noncomputable abbrev Key:=Sum Int Str
def keyIs:Key->Value->Bool
 | .inl k,v=>Value.isInt k v
 | .inr x,v=>Value.isStrOf x v
def keyH(w:World):Key->Int
 | .inl k=>hashInt k
 | .inr x=>hashStr w x
theorem zbi:∀{k:Key} {v:Value},keyIs k v=true->(∃i t,k=Sum.inl i/\v=Value.int i t)\/(∃x t,k=Sum.inr x/\v=Value.str x t)
 | .inl i,v,h=>by
  obtain⟨t,e⟩:=Value.isInt_shape (k:=i) (v:=v) h;exact .inl ⟨i,t,rfl,e⟩
 | .inr x,v,h=>by
  obtain⟨t,e⟩:=Value.isStrOf_shape (x:=x) (v:=v) h;exact .inr ⟨x,t,rfl,e⟩
theorem zym(i:Int)(t:Tok):keyIs (.inl i) (.int i t)=true:=by simp[keyIs,Value.isInt]
theorem zyl(x:Str)(t:Tok):keyIs (.inr x) (.str x t)=true:=by simp[keyIs,Value.isStrOf]
theorem zboq(a b:Int):decide ((Sum.inl a:Key)=Sum.inl b)=(a==b):=by
 by_cases e:a=b
 ·subst e;simp
 ·have h:¬ (Sum.inl a:Key)=Sum.inl b:=λq=>e (Sum.inl.inj q)
  rw[xcc h];exact(xff.mpr e).symm
theorem zbon(a b:Str):decide ((Sum.inr a:Key)=Sum.inr b)=decide (a=b):=by
 by_cases e:a=b
 ·subst e;simp
 ·have h:¬ (Sum.inr a:Key)=Sum.inr b:=λq=>e (Sum.inr.inj q)
  rw[xcc h,xcc e]
theorem zbop(a:Int)(b:Str):decide ((Sum.inl a:Key)=Sum.inr b)=false:=xcc (λq=>nomatch q)
theorem zboo(a:Str)(b:Int):decide ((Sum.inr a:Key)=Sum.inl b)=false:=xcc (λq=>nomatch q)
def mixKind(prog:Program) (w:World):PySem.KeyKind prog w Key where
 is:=keyIs
 hash:=keyH w
 inj:=λv a b ha hb=>by
  rcases zbi ha with⟨i,t,rfl,rfl⟩|⟨x,t,rfl,rfl⟩
  ·rcases zbi hb with⟨j,u,rfl,e⟩|⟨y,u,rfl,e⟩
   ·injection e with e1 _;rw[e1]
   ·exact nomatch e
  ·rcases zbi hb with⟨j,u,rfl,e⟩|⟨y,u,rfl,e⟩
   ·exact nomatch e
   ·injection e with e1 _;rw[e1]
 byValue:=λk v h=>by
  rcases zbi h with⟨i,t,rfl,rfl⟩|⟨x,t,rfl,rfl⟩<;>rfl
 pyHash:=λhv h=>by
  rcases zbi hv with⟨i,t,rfl,rfl⟩|⟨x,t,rfl,rfl⟩
  ·exact wpAny_pyHash_int h
  ·exact wpAny_pyHash_str h
 eqBool:=λhu hv h=>by
  rcases zbi hu with⟨i,t,rfl,rfl⟩|⟨x,t,rfl,rfl⟩
  ·rcases zbi hv with⟨j,u,rfl,rfl⟩|⟨y,u,rfl,rfl⟩
   ·rw[zboq] at h;exact wpAny_eqBool_int h
   ·rw[zbop] at h;exact SeqAt.EqAt.int_str i t y u _ _ _ _ h
  ·rcases zbi hv with⟨j,u,rfl,rfl⟩|⟨y,u,rfl,rfl⟩
   ·rw[zboo] at h;exact SeqAt.EqAt.str_int x t j u _ _ _ _ h
   ·rw[zbon] at h;exact wpAny_eqBool_str h
 «strs»:=λk x t v h=>by
  rcases zbi h with⟨i,u,rfl,e⟩|⟨y,u,rfl,e⟩
  ·exact nomatch e
  ·injection e with e1 _
   subst e1;cases v<;>rfl
theorem zrj(prog:Program)(w:World)(i:Int)(t:Tok):(mixKind prog w).is (.inl i) (.int i t)=true:=zym i t
theorem zri(prog:Program)(w:World)(x:Str)(t:Tok):(mixKind prog w).is (.inr x) (.str x t)=true:=zyl x t
set_option genInjectivity true in
inductive V where
 | non|bl (b:Bool)|int (i:Int)|str (x:Str)|byt (b:Array UInt8)|flt (b:UInt64)|ref (a:Addr)|ty (n:String)
 deriving DecidableEq
noncomputable def RelV:V->Value->Prop
 | .non,u=>u=Value.none
 | .bl b,u=>u=Value.bool b
 | .int i,u=>∃t,u=Value.int i t
 | .str x,u=>∃t,u=Value.str x t
 | .byt b,u=>∃t,u=Value.bytes b t
 | .flt b,u=>∃t,u=Value.float b t
 | .ref a,u=>u=Value.ref a
 | .ty n,u=>u=Value.type n
abbrev Vals:List V->List Value->Prop:=Paired RelV
theorem Vals.length(r:Vals xs us):xs.length=us.length:=xhx r
theorem Vals.get:∀{xs:List V} {us:List Value} {i:Nat} {x:V},Vals xs us->xs[i]?=some x->∃u,us[i]?=some u/\RelV x u
 | _,_,_,_,.nil,e=>by simp at e
 | _,_,0,_,.cons r _,e=>by simp at e;subst e;exact⟨_,rfl,r⟩
 | _,_,i+1,x,.cons _ t,e=>by
  obtain⟨u,h1,h2⟩:=Vals.get (i:=i) (x:=x) t (by simpa using e);exact⟨u,by simpa using h1,h2⟩
theorem Vals.set(r:RelV x u):∀{xs:List V} {us:List Value} (i:Nat),Vals xs us->Vals (xs.set i x) (us.set i u)
 | _,_,_,.nil=>.nil
 | _,_,0,.cons _ t=>.cons r t
 | _,_,i+1,.cons q t=>.cons q (Vals.set r i t)
theorem Vals.append:∀{xs ys:List V} {us ws:List Value},Vals xs us->Vals ys ws->Vals (xs++ys) (us++ws)
 | _,_,_,_,.nil,s=>s
 | _,_,_,_,.cons r t,s=>.cons r (Vals.append t s)
theorem Vals.take:∀{xs:List V} {us:List Value} (n:Nat),Vals xs us->Vals (xs.take n) (us.take n)
 | _,_,0,_=>.nil
 | _,_,_+1,.nil=>.nil
 | _,_,n+1,.cons r t=>.cons r (Vals.take n t)
theorem Vals.drop:∀{xs:List V} {us:List Value} (n:Nat),Vals xs us->Vals (xs.drop n) (us.drop n)
 | _,_,0,r=>r
 | _,_,_+1,.nil=>.nil
 | _,_,n+1,.cons _ t=>Vals.drop n t
def RelO:Option V->Option Value->Prop
 | some v,some u=>RelV v u
 | none,none=>True
 | _,_=>False
def KV{κ:Type}:List (κ×V)->List (κ×Value)->Prop:=Paired λ(p:κ×V) (q:κ×Value)=>p.1=q.1/\RelV p.2 q.2
def kV:Key->V
 | .inl i=>.int i
 | .inr x=>.str x
set_option genInjectivity true in
inductive HO where
 /-- a list -/
 | lst (xs:List V)
 /-- a tuple (never changes) -/
 | tup (xs:List V)
 /-- a dict whose keys are ints and texts;one whose keys are tuples of ints and texts (the empty one is both) -/
 | dK (kvs:List (Key×V))|dT (kvs:List (List Key×V))
 /-- a set of ints: its members,its size -/
 | set (S:Int->Bool) (n:Nat)
 /-- an instance of the class at C,its dict at dx,its attributes -/
 | ins (C dx:Addr) (fs:List (Str×V))
 /-- the dict of the instance at x -/
 | own (x:Addr)
 /-- the dict of an exception -/
 | xd (fs:List (Str×V))
 /-- a bound method,f of x -/
 | met (f x:Addr)
 /-- a range object lo,lo+1,.. below hi -/
 | rng (lo hi:Int)
 /-- a thing that is known to the object (the script;a dict while a loop walks it): read,never written while it is so -/
 | frz (o:Obj) (u:HO)
 /-- a code object's table -/
 | tbl (ps:Array Value)
 /-- any other thing,by what is true of its one object (a def of one's own: SetO a S n:=HO.ext λh=>..) -/
 | ext (φ:Heap->Prop)
noncomputable abbrev Hp:=Addr->Option HO
def upd(H:Hp) (a:Addr) (o:HO):Hp:=λb=>if b=a then some o else H b
theorem zh :upd H a o a=some o:=by unfold upd;rw[if_pos rfl]
theorem zj(h:b≠a):upd H a o b=H b:=by unfold upd;rw[if_neg h]
theorem zbgp :upd (upd H a o) a u=upd H a u:=by
 funext b;unfold upd;split<;>rfl
theorem zbrv{H:Hp}{a b:Addr}{o u:HO}(h:H a=some o)(h':H b=some u)(d:o≠u):a≠b:=by
 intro e;subst e;rw[h] at h';exact d (xch h')
theorem zd{H:Hp}{a b:Addr}{o:HO}(h:H a=some o)(h':H b=none):a≠b:=by
 intro e;subst e;rw[h] at h';cases h'
section
variable (P:Program)(w:World)
def ObjOk(H:Hp) (h:Heap) (a:Addr):HO->Prop
 | .lst xs=>xs.length<=sizeLine/\∃(its:List Value) (n:Nat),Vals xs its/\h.get? a=some { cls:=.type "list", data:=.seq its.toArray n }
 | .tup xs=>xs.length<=sizeLine/\∃its:List Value,Vals xs its/\IsTup h a its.toArray
 | .dK kvs=>kvs.length<=sizeLine/\(a==sysModules)=false/\∃vs,KV kvs vs/\h.DictOf (mixKind P w) a vs
 | .dT kvs=>kvs.length<=sizeLine/\(a==sysModules)=false/\∃xs:List (List Key×Addr×Value),
  Paired (λ(p:List Key×V) (q:List Key×Addr×Value)=>p.1=q.1/\H q.2.1=some (.tup (p.1.map kV))/\RelV p.2 q.2.2) kvs xs /\
  ∃o es ep,h.get? a=some o/\o.ExactDict/\o.data=.dict es ep/\es.toList=xs.map (entryOfKey (tupleKind (mixKind P w)))/\(xs.map (·.1)).Nodup
 | .set S n=>h.SetOf (intKind P w) a S n
 | .ins C dx fs=>H dx=some (.own a)/\fs.length<=1000/\dx≠a/\h.get? a=some (W.instObj C dx) /\
  ∃mA,h.Ns1 dx mA/\(∀f,RelO (fs.lookup f) (mA f))/\PySem.Within mA (fs.map (·.1))
 | .own _=>∃o,h.get? a=some o
 | .xd fs=>∃mA,h.Ns1 a mA/\∀f,RelO (fs.lookup f) (mA f)
 | .rng lo hi=>∃ t u v,h.get? a=some { cls:=.type "range", data:=.fields #[.int lo t,.int hi u,.int 1 v] }
 | .frz o u=>h.get? a=some o/\ObjOk H h a u
 | .tbl ps=>h.get? a=some {cls:=.none,data:=.fields ps}
 | .met f x=>h.get? a=some (W.methodObj (.ref f) (.ref x))
 | .ext φ=>φ h/\(∃o,h.get? a=some o)/\∀h1 h2:Heap,φ h1->(∀o,h1.get? a=some o->h2.get? a=some o)->φ h2
def HOk(H:Hp) (h:Heap):Prop:=∀a o,H a=some o->ObjOk P w H h a o
end
theorem ObjOk.lt(x:ObjOk P w H h a o):a<h.objs.size:=by
 cases o with
 | lst xs=>obtain⟨_,_,_,_,e⟩:=x;exact xbq e
 | tup xs=>obtain⟨_,_,_,p⟩:=x;exact p.lt
 | dK kvs=>obtain⟨_,_,_,_,o,_,_,e,_⟩:=x;exact xbq e
 | dT kvs=>obtain⟨_,_,_,_,o,_,_,e,_⟩:=x;exact xbq e
 | set S n=>obtain⟨o,_,_,_,e,_⟩:=x;exact xbq e
 | ins C dx fs=>obtain⟨_,_,_,e,_⟩:=x;exact xbq e
 | own y=>obtain⟨_,e⟩:=x;exact xbq e
 | xd fs=>obtain⟨_,⟨_,_,_,e,_⟩,_⟩:=x;exact xbq e
 | rng lo hi=>obtain⟨_,_,_,e⟩:=x;exact xbq e
 | frz ob u=>obtain⟨e,_⟩:=x;exact xbq e
 | tbl ps=>exact xbq (show h.get? a=some _ from x)
 | met f y=>exact xbq (show h.get? a=some _ from x)
 | ext φ=>obtain⟨_,⟨_,e⟩,_⟩:=x;exact xbq e
section
variable {a:Addr}
theorem Paired.mapP{α β:Type}{F G:α->β->Prop}:∀{l₁:List α} {l₂:List β},Paired F l₁ l₂->(∀a b,F a b->G a b)->Paired G l₁ l₂
 | _,_,.nil,_=>.nil
 | _,_,.cons r t,f=>.cons (f _ _ r) (Paired.mapP t f)
end
theorem ObjOk.stay{h:Heap}{h':Heap}(x:ObjOk P w H h a o)(k:∀b u,(b=a\/H b=some (.own a))->h.get? b=some u->h'.get? b=some u)
  (ho:∀b,H b=some (.own a)->H' b=some (.own a))(ht:∀b xs,H b=some (.tup xs)->H' b=some (.tup xs)):ObjOk P w H' h' a o:=by
 induction o with
 | lst xs=>obtain⟨z,its,n,r,e⟩:=x;exact⟨z,its,n,r,k _ _ (.inl rfl) e⟩
 | tup xs=>obtain⟨z,its,r,ob,e,c⟩:=x;exact⟨z,its,r,ob,k _ _ (.inl rfl) e,c⟩
 | dK kvs=>obtain⟨z,y,vs,r,ob,es,ep,e,c⟩:=x;exact⟨z,y,vs,r,ob,es,ep,k _ _ (.inl rfl) e,c⟩
 | dT kvs =>
  obtain⟨z,y,xs,r,ob,es,ep,e,c⟩:=x;exact⟨z,y,xs,Paired.mapP r λp q z=>⟨z.1,ht _ _ z.2.1,z.2.2⟩,ob,es,ep,k _ _ (.inl rfl) e,c⟩
 | set S n=>obtain⟨ob,es,ep,t,e,c⟩:=x;exact⟨ob,es,ep,t,k _ _ (.inl rfl) e,c⟩
 | ins C dx fs =>
  obtain⟨d,z,ne,e,mA,⟨od,es,ep,e2,c⟩,r⟩:=x;exact⟨ho _ d,z,ne,k _ _ (.inl rfl) e,mA,⟨od,es,ep,k _ _ (.inr d) e2,c⟩,r⟩
 | own y=>obtain⟨ob,e⟩:=x;exact⟨ob,k _ _ (.inl rfl) e⟩
 | xd fs=>obtain⟨mA,⟨od,es,ep,e,c⟩,r⟩:=x;exact⟨mA,⟨od,es,ep,k _ _ (.inl rfl) e,c⟩,r⟩
 | rng lo hi=>obtain⟨t,u,v,e⟩:=x;exact⟨t,u,v,k _ _ (.inl rfl) e⟩
 | frz ob u ih=>obtain⟨e,q⟩:=x;exact⟨k _ _ (.inl rfl) e,ih q⟩
 | tbl ps =>
  have e:h.get? a=some {cls:=.none,data:=.fields ps}:=x;show h'.get? a=some {cls:=.none,data:=.fields ps};exact k a _ (.inl rfl) e
 | met f y =>
  have e:h.get? a=some (W.methodObj (.ref f) (.ref y)):=x;show h'.get? a=some (W.methodObj (.ref f) (.ref y));exact k a _ (.inl rfl) e
 | ext φ=>obtain⟨p,⟨o,e⟩,au⟩:=x;exact⟨au _ _ p λo q=>k _ _ (.inl rfl) q,⟨o,k _ _ (.inl rfl) e⟩,au⟩
theorem HOk.lt(x:HOk P w H h)(e:H a=some o):a<h.objs.size:=(x a o e).lt
theorem HOk.fresh(x:HOk P w H h)(e:h.objs.size<=a):H a=none:=by
 cases q:H a with
 | none=>rfl
 | some u=>exact absurd (xbh (x.lt q) e) (xgl _)
theorem HOk.kept{h':Heap}(x:HOk P w H h)(k:∀b u,h.get? b=some u->h'.get? b=some u):HOk P w H h':=λa o e =>
 (x a o e).stay (λb u _ q=>k b u q) (λ_ q=>q) λ_ _ q=>q
section
variable {P:Program}{w:World}{H:Hp}{h:Heap}{h':Heap}{a:Addr}{o:HO}
theorem HOk.laid(x:HOk P w H h)(k:∀b u,h.get? b=some u->h'.get? b=some u)(hp:h.objs.size<=a)(new:ObjOk P w (upd H a o) h' a o):HOk P w (upd H a o) h':=λb u e=>by
 have hn:=x.fresh hp;by_cases hb:b=a
 ·subst hb;rw[zh] at e;cases e;exact new
 ·rw[zj hb] at e;exact(x b u e).stay (λc v _ q=>k c v q) (λc q=>by rw[zj (zd q hn)];exact q) λc xs q=>by rw[zj (zd q hn)];exact q
end
def Rd(H:Hp) (a:Addr) (u:HO):Prop:=H a=some u\/∃o,H a=some (.frz o u)
theorem Rd.ok(r:Rd H a u)(x:HOk P w H h):ObjOk P w H h a u:=by
 rcases r with r|⟨o,r⟩
 ·exact x a u r
 ·obtain⟨_,q⟩:=x a _ r;exact q
noncomputable def Mut:Option HO->Prop
 | some (.lst _)=>True
 | some (.dK _)=>True
 | some (.dT _)=>True
 | some (.set _ _)=>True
 | some (.ins _ _ _)=>True
 | some (.ext _)=>True
 | _=>False
theorem HOk.write{h':Heap}(ok:HOk P w H h)(mu:Mut (H x))(he:e=x\/H e=some (.own x))(k:∀b u,b≠e->h.get? b=some u->h'.get? b=some u)(heo:∃u,h'.get? e=some u)
  (new:ObjOk P w (upd H x o') h' x o'):HOk P w (upd H x o') h':=λb u q=>by
 have nown:∀c y,H c=some (.own y)->c≠x:=λc y r z=>by subst z;rw[r] at mu;exact mu
 have ntup:∀c xs,H c=some (.tup xs)->c≠x:=λc xs r z=>by subst z;rw[r] at mu;exact mu
 by_cases hb:b=x
 ·subst hb;rw[zh] at q;cases q;exact new
 ·rw[zj hb] at q;by_cases hbe:b=e
  ·have q':H b=some (.own x):=by
    rcases he with z|z
    ·exact absurd (hbe.trans z) hb
    ·rw[hbe];exact z
   rw[q] at q';cases q'
   obtain⟨v,hv⟩:=heo;exact⟨v,by rw[hbe];exact hv⟩
  ·refine(ok b u q).stay (λc v hc r=>k c v ?_ r) (λc r=>by rw[zj (nown c b r)];exact r) λc xs r=>by rw[zj (ntup c xs r)];exact r
   rcases hc with rfl|hc
   ·exact hbe
   ·rintro rfl;rcases he with z|z
    ·exact nown c b hc z
    ·rw[hc] at z;cases z;exact hb rfl
structure Un (fs ex:List Addr) (H H':Hp) (h h':Heap):Prop where
 keep:∀b o,h.get? b=some o->H b=none->b∉fs->b∉ex->h'.get? b=some o
 slot:∀b o,h.get? b=some o->H b=none->b∈fs->b∉ex->∃sl,h'.get? b=some {o with slots:=sl}
 free:∀b o,h.get? b=some o->H b=none->b∉ex->H' b=none
 there:∀b o,h.get? b=some o->b∉ex->∃o',h'.get? b=some o'
 tups:∀b xs,H b=some (.tup xs)->H' b=some (.tup xs)
 frzs:∀b o u,H b=some (.frz o u)->H' b=some (.frz o u)
 tbls:∀b ps,H b=some (.tbl ps)->∃more,H' b=some (.tbl (ps++more))
theorem Un.any(u:Un fs ex H H1 h h1) (q:h.get? b=some ob)(n:H b=none)(hx:b∉ex):∃sl,h1.get? b=some {ob with slots:=sl}:=by
 by_cases hb:b∈fs
 ·exact u.slot b ob q n hb hx
 ·exact⟨ob.slots,u.keep b ob q n hb hx⟩
theorem Un.kept{h:Heap}{h':Heap}(k:∀b u,h.get? b=some u->h'.get? b=some u):Un fs ex H H h h' :=
 ⟨λb ob q _ _ _=>k b ob q,λb ob q _ _ _=>⟨ob.slots,k b ob q⟩,λ_ _ _ n _=>n,λb ob q _=>⟨ob,k b ob q⟩,λ_ _ q=>q,λ_ _ _ q=>q,λ_ ps q=>⟨#[],by rw[q];simp⟩⟩
theorem Un.refl:Un fs ex H H h h:=Un.kept λ_ _ q=>q
section
variable {fs:List Addr}{ex:List Addr}{H:Hp}{h:Heap}{h':Heap}{a:Addr}{o:HO}
theorem Un.laid(k:∀b u,h.get? b=some u->h'.get? b=some u)(hp:h.objs.size<=a)(hn:H a=none):Un fs ex H (upd H a o) h h' where
 keep:=λb u q _ _ _=>k b u q
 slot:=λb u q _ _ _=>⟨u.slots,k b u q⟩
 free:=λb u q n _=>by rw[zj (xbv (xbh (xbq q) hp))];exact n
 there:=λb u q _=>⟨u,k b u q⟩
 tups:=λb xs q=>by rw[zj (zd q hn)];exact q
 frzs:=λb u xs q=>by rw[zj (zd q hn)];exact q
 tbls:=λb ps q=>⟨#[],by rw[zj (zd q hn),q];simp⟩
end
theorem Un.write{h:Heap}{h':Heap}(mu:Mut (H x))(he:e=x\/H e=some (.own x))(k:∀b u,b≠e->h.get? b=some u->h'.get? b=some u)(heo:∃u,h'.get? e=some u):Un fs ex H (upd H x o) h h':=by
 have hx:∀b,H b=none->b≠x:=λb n z=>by subst z;rw[n] at mu;exact mu
 have hb:∀b,H b=none->b≠e:=λb n z=>by
  subst z;rcases he with r|r
  ·exact hx b n r
  ·rw[n] at r;cases r
 have hm:∀b u,H b=some u->¬ Mut (some u)->b≠x:=λb u q nm z=>by subst z;rw[q] at mu;exact nm mu
 refine⟨λb u q n _ _=>k b u (hb b n) q,λb u q n _ _=>⟨u.slots,k b u (hb b n) q⟩,λb u q n _=>by rw[zj (hx b n)];exact n,λb u q _=>?_,
  λb xs q=>by rw[zj (hm b _ q λz=>z)];exact q,λb u xs q=>by rw[zj (hm b _ q λz=>z)];exact q,λb ps q=>⟨#[],by rw[zj (hm b _ q λz=>z),q];simp⟩⟩
 by_cases hbe:b=e
 ·subst hbe;exact heo
 ·exact⟨u,k b u hbe q⟩
def trk(h:Heap) (H:Hp):List Addr:=(List.range h.objs.size).filter λa=>(H a).isSome
def hidT(h:Heap) (H:Hp):Heap:=W.hideAll h (trk h H)
theorem zyp(h:Heap)(H:Hp):(hidT h H).objs.size=h.objs.size:=W.hideAll_size _ _
theorem zbdy{h:Heap} (e:h.get? b=some o)(n:H b=none):(hidT h H).get? b=some o :=
 W.hideAll_get _ e λhm=>by
  have q:(H b).isSome=true:=(xfu.mp hm).2;rw[n] at q;simp at q
theorem zbil(e:(hidT h H).get? b=some o):h.get? b=some o/\H b=none:=by
 have e':h.get? b=some o:=W.of_hideAll (trk h H) e;refine⟨e',?_⟩;cases q:H b with
 | none=>rfl
 | some x =>
  have hm:b∈trk h H:=xfu.mpr ⟨xck.mpr (xbq e'),by simp[q]⟩;have z:(hidT h H).get? b=none:=W.hideAll_none (trk h H) hm;rw[z] at e;cases e
structure Mod (K:Fg) (mg:Str->Option Value) (base:Heap):Prop where
 kin:K.In base
 glob:base.Ns mainGlobals mg
 blt:∃ mb,base.Ns builtinsNs mb/\∀ x:Str,x≠"__name__"->mb x=bootBuiltins x
 nolimit:base.NoLimit
structure Cx where
 prog:Program
 w:World
 K:Fg
 mg:Str->Option Value
 base:Heap
 A:Around
 N:List Str
 s₀:Shared
 H₀:Hp
 env:Env
 outer:List Env
 stack:List Env
 ex:List Addr
 fn:Str->Bool
 calm:Bool
 pn:List (Addr×Obj)
 xe:Value->Shared->Prop
noncomputable def frs(l:List Env):List Addr:=l.filterMap (·.frame)
abbrev Cx.fs(X:Cx):List Addr:=frs X.outer
noncomputable def Vis(sc:Scope) (x:Str):Prop:=sc.names.lookup x=some .local\/sc.names.lookup x=some .cell\/sc.names.lookup x=some .free
noncomputable def Loc(sc:Scope) (x:Str):Prop:=sc.names.lookup x=some .local\/sc.names.lookup x=some .cell
noncomputable def Look(env:Env) (h:Heap) (m:Str->Option Value) (x:Str) (u:Value):Prop :=
 (env.kindOf x=some .local/\m x=some u)\/((env.kindOf x=some .cell\/env.kindOf x=some .free)/\∃c,env.cells.lookup x=some c/\h.IsCell c (some u))
structure Cx.Ok (X:Cx):Prop where
 mod:Mod X.K X.mg X.base
 kind:X.env.scope.kind=.function
 glob:X.env.globals=mainGlobals
 blt:X.env.builtins=builtinsNs
 above:X.s₀.heap.objs.size<=X.env.locals
 inj:∀x y c,X.env.cells.lookup x=some c->X.env.cells.lookup y=some c->x=y
 has:∀x,(X.env.kindOf x=some .cell\/X.env.kindOf x=some .free)->∃c,X.env.cells.lookup x=some c
 cab:∀x c,X.fn x=true->X.env.cells.lookup x=some c->X.s₀.heap.objs.size<=c
 hd:X.calm=true->X.A.handled=none
 frames:X.A.frames=some X.stack
 stk:X.stack=X.outer\/(X.stack=X.env::X.outer/\X.env.frame=some X.env.locals)
 exf:∀b∈X.ex,b≠X.env.locals/\∀x c,X.env.cells.lookup x=some c->c≠b
 bs:∀b o,X.base.get? b=some o->X.s₀.heap.get? b=some o/\X.H₀ b=none
 bsz:X.base.objs.size<=X.s₀.heap.objs.size
 noex:∀b o,X.base.get? b=some o->b∉X.ex
 exfs:∀b∈X.ex,b∉X.fs
 funs:X.s₀.heap.FunFrames X.base X.outer
 frf:∀b∈X.fs,X.H₀ b=none
def Hnd(A:Around) (H:Hp):Prop:=∀v,A.handled=some v->∃a o,v=.ref a/\H a=some (.frz o (.ext λ_=>True))/\∃vs,o.data=.fields vs/\vs[2]?=some .none
theorem Hnd.map(h:Hnd A H)(f:∀b o u,H b=some (.frz o u)->H' b=some (.frz o u)):Hnd A H':=λv e=>let ⟨a,o,h1,h2,h3⟩:=h v e;⟨a,o,h1,f _ _ _ h2,h3⟩
theorem Hnd.none{A:Around} (h:A.handled=.none):Hnd A H:=λv e=>by rw[h] at e;cases e
structure Inv (X:Cx) (aW:List (Addr×Obj)) (σ:List (Option V)) (H:Hp) (s:Shared):Prop where
 ok:X.Ok
 os:s.os=X.s₀.os
 bare:AllBare s.gens
 base:Un X.fs X.ex X.H₀ H X.s₀.heap s.heap
 loc:∃m,s.heap.Ns X.env.locals m/\∀(i:Nat) (x:Str) (v:V),X.N[i]?=some x->σ[i]?=some (some v)->Vis X.env.scope x->∃u,RelV v u/\Look X.env s.heap m x u
 cell:∀x c,X.env.cells.lookup x=some c->∃v,s.heap.IsCell c v
 free:H X.env.locals=none
 freeC:∀x c,X.env.cells.lookup x=some c->H c=none
 pin:∀p∈X.pn++aW,s.heap.get? p.1=some p.2/\H p.1=none/\p.1≠X.env.locals/\p.1∉X.fs/\∀v,p.2.data≠.cell v
 hok:HOk X.prog X.w H s.heap
 len:σ.length=X.N.length
 hnd:Hnd X.A H
theorem Cx.Ok.nofr{X:Cx}(ok:X.Ok) (e:X.base.get? b=some o):b∉X.fs:=λhb=>by
 have:=(ok.funs.mem hb).1;rw[e] at this;cases this
theorem Inv.bs(I:Inv X aW σ H s):∀b o,X.base.get? b=some o->s.heap.get? b=some o/\H b=none:=λb o e =>
 ⟨I.base.keep b o (I.ok.bs b o e).1 (I.ok.bs b o e).2 (I.ok.nofr e) (I.ok.noex b o e),I.base.free b o (I.ok.bs b o e).1 (I.ok.bs b o e).2 (I.ok.noex b o e)⟩
theorem Inv.bk(I:Inv X aW σ H s):∀b o,X.base.get? b=some o->s.heap.get? b=some o:=λb o e=>(I.bs b o e).1
theorem Inv.mod(I:Inv X aW σ H s):Mod X.K X.mg X.base:=I.ok.mod
theorem Inv.kIn(I:Inv X aW σ H s):X.K.In s.heap:=I.ok.mod.kin.keeps I.bk
theorem Inv.lt(I:Inv X aW σ H s):X.env.locals<s.heap.objs.size:=let ⟨_,hn,_⟩:=I.loc;hn.lt
theorem Inv.sz(I:Inv X aW σ H s):X.s₀.heap.objs.size<=s.heap.objs.size:=xbb I.ok.above (xbu I.lt)
theorem Inv.nofs(I:Inv X aW σ H s) (h:s.heap.objs.size<=a):a∉X.fs:=λhb=>by
 obtain⟨_,o,ho,_⟩:=I.ok.funs.mem hb;exact absurd (xbh (xbq ho) (xbb I.sz h)) (xgl _)
theorem Inv.cne(I:Inv X aW σ H s):∀x c,X.env.cells.lookup x=some c->c≠X.env.locals:=λx c e z=>by
 obtain⟨v,o,ho,hd⟩:=I.cell x c e;obtain⟨m,⟨o',es,ep,ho',hd',_⟩,_⟩:=I.loc;rw[z,ho'] at ho;cases ho;rw[hd'] at hd;cases hd
theorem Inv.funs(I:Inv X aW σ H s):s.heap.FunFrames X.base X.outer:=by
 have all:∀(l:List Env),(∀b∈frs l,b∈X.fs)->X.s₀.heap.FunFrames X.base l->s.heap.FunFrames X.base l:=by
  intro l
  induction l with
  | nil=>intro _ _;trivial
  | cons env r ih =>
   intro hs hl;obtain⟨hk,⟨L,o,hf,hn,ho,hd⟩,hr⟩:=hl;have hL:L∈X.fs:=hs L (by unfold frs;rw[xlg,hf];exact xbp);obtain⟨sl,e⟩:=I.base.slot L o ho (I.ok.frf L hL) hL λz=>I.ok.exfs L z hL
   exact⟨hk,⟨L,_,hf,hn,e,hd⟩,ih (λb hb=>hs b (by unfold frs;rw[xlg,hf];exact xbo _ hb)) hr⟩
 exact all X.outer (λ_ hb=>hb) I.ok.funs
theorem Inv.stack(I:Inv X aW σ H s):s.heap.FunFrames X.base X.stack:=by
 rcases I.ok.stk with e|⟨e,hf⟩
 ·rw[e];exact I.funs
 ·rw[e];obtain⟨m,hn,_⟩:=I.loc;refine .cons (by rw[I.ok.kind];decide) hf hn ?_ I.funs;exact Heap.get?_none_of_le (xbb I.ok.bsz I.ok.above)
theorem Inv.stkSub(I:Inv X aW σ H s):∀b∈frs X.stack,b∈X.env.locals::X.fs:=λb hb=>by
 rcases I.ok.stk with e|⟨e,hf⟩
 ·rw[e] at hb;exact xbo _ hb
 ·rw[e] at hb;unfold frs at hb;rw[xlg,hf] at hb;exact hb
theorem Inv.stkFree(I:Inv X aW σ H s):∀b∈frs X.stack,H b=none:=λb hb=>by
 rcases xbn.mp (I.stkSub b hb) with e|hb
 ·rw[e];exact I.free
 ·obtain⟨_,o,ho,_⟩:=I.ok.funs.mem hb;exact I.base.free b o ho (I.ok.frf b hb) λz=>I.ok.exfs b z hb
section
variable {X:Cx}{aW:List (Addr×Obj)}{σ:List (Option V)}{H:Hp}{H':Hp}{s:Shared}{h':Heap}
theorem Inv.step{g':Array GenState}{t':Nat}{d':Drawn}{ch:List Addr}(I:Inv X aW σ H s)
  (hch:∀b∈ch,(b∈X.ex\/X.s₀.heap.objs.size<=b)/\b≠X.env.locals/\(∀x c,X.env.cells.lookup x=some c->c≠b)/\∀p∈X.pn++aW,p.1≠b)
  (keep:∀b o,b≠X.env.locals->b∉X.fs->b∉ch->s.heap.get? b=some o->H b=none->h'.get? b=some o)
  (slot:∀b o,b≠X.env.locals->b∈X.fs->b∉ch->s.heap.get? b=some o->H b=none->∃sl,h'.get? b=some {o with slots:=sl})(free:∀b o,b∉ch->s.heap.get? b=some o->H b=none->H' b=none)
  (there:∀b o,b∉ch->s.heap.get? b=some o->∃o',h'.get? b=some o')
  (tups:∀b xs,H b=some (.tup xs)->H' b=some (.tup xs))(frzs:∀b o u,H b=some (.frz o u)->H' b=some (.frz o u))(tbls:∀b ps,H b=some (.tbl ps)->∃more,H' b=some (.tbl (ps++more)))
  (ns:∀m,s.heap.Ns X.env.locals m->h'.Ns X.env.locals m)(hok:HOk X.prog X.w H' h')(hg:AllBare g') :
  Inv X aW σ H' {s with heap:=h',gens:=g',drawn:=d',toks:=t'}:=by
 have neL:∀b o,X.s₀.heap.get? b=some o->b≠X.env.locals:=λb o e=>xbv (xbh (xbq e) I.ok.above)
 have neC:∀b o,X.s₀.heap.get? b=some o->b∉X.ex->b∉ch:=λb o e hx hb=>by
  rcases(hch b hb).1 with z|z
  ·exact hx z
  ·exact absurd (xbh (xbq e) z) (xgl _)
 have cellK:∀x c,X.env.cells.lookup x=some c->∀v,s.heap.IsCell c v->h'.IsCell c v:=λx c e v hq0=>by
  obtain⟨o,ho,hd⟩:=hq0;have nch:c∉ch:=λz=>(hch c z).2.2.1 x c e rfl
  by_cases hc:c∈X.fs
  ·obtain⟨sl,q⟩:=slot c o (I.cne x c e) hc nch ho (I.freeC x c e);exact⟨_,q,hd⟩
  ·exact⟨o,keep c o (I.cne x c e) hc nch ho (I.freeC x c e),hd⟩
 refine⟨I.ok,I.os,hg,⟨λb o e n hb hx=>?_,λb o e n hb hx=>?_,λb o e n hx=>?_,λb o e hx=>?_,λb xs e=>tups b xs (I.base.tups b xs e),λb o xs e=>frzs b o xs (I.base.frzs b o xs e),λb ps e=>?_⟩,?_,λx c e=>?_,?_,λx c e=>?_,λp hp=>?_,hok,I.len,I.hnd.map frzs⟩
 ·exact keep b o (neL b o e) hb (neC b o e hx) (I.base.keep b o e n hb hx) (I.base.free b o e n hx)
 ·obtain⟨sl,e1⟩:=I.base.slot b o e n hb hx;obtain⟨sl',e2⟩:=slot b _ (neL b o e) hb (neC b o e hx) e1 (I.base.free b o e n hx);exact⟨sl',e2⟩
 ·obtain⟨o',e1⟩:=I.base.there b o e hx;exact free b o' (neC b o e hx) e1 (I.base.free b o e n hx)
 ·obtain⟨o',e1⟩:=I.base.there b o e hx;exact there b o' (neC b o e hx) e1
 ·obtain⟨m1,e1⟩:=I.base.tbls b ps e;obtain⟨m2,e2⟩:=tbls b _ e1;exact⟨m1++m2,by rw[e2,Array.append_assoc]⟩
 ·obtain⟨m,hn,hl⟩:=I.loc;refine⟨m,ns m hn,λi x v e1 e2 e3=>?_⟩;obtain⟨u,r,l⟩:=hl i x v e1 e2 e3;refine⟨u,r,?_⟩;rcases l with l|⟨k,c,e,z⟩
  ·exact .inl l
  ·exact .inr ⟨k,c,e,cellK x c e _ z⟩
 ·obtain⟨v,z⟩:=I.cell x c e;exact⟨v,cellK x c e v z⟩
 ·obtain⟨m,⟨o,_,_,ho,_⟩,_⟩:=I.loc;exact free _ o (λz=>(hch _ z).2.1 rfl) ho I.free
 ·obtain⟨v,o,ho,hd⟩:=I.cell x c e;exact free c o (λz=>(hch c z).2.2.1 x c e rfl) ho (I.freeC x c e)
 ·obtain⟨e,n,ne,nf,d⟩:=I.pin p hp;have nch:p.1∉ch:=λz=>(hch p.1 z).2.2.2 p hp rfl
  exact⟨keep p.1 p.2 ne nf nch e n,free p.1 p.2 nch e n,ne,nf,d⟩
theorem Inv.un{t':Nat}(I:Inv X aW σ H s)(u:Un X.fs [] H H' s.heap h')(hok:HOk X.prog X.w H' h'):Inv X aW σ H' {s with heap:=h',toks:=t'}:=by
 obtain⟨m,⟨o,es,ep,ho,r⟩,_⟩:=id I.loc;obtain⟨sl,hL⟩:=u.any ho I.free (by simp)
 exact I.step (g':=s.gens) (d':=s.drawn) (ch:=[]) (λ_ z=>nomatch z) (λb o _ hb _ e n=>u.keep b o e n hb (by simp)) (λb o _ hb _ e n=>u.slot b o e n hb (by simp)) (λb o _ e n=>u.free b o e n (by simp)) (λb o _ e=>u.there b o e (by simp)) u.tups u.frzs u.tbls (λm' hm=>by
  obtain⟨o',es',ep',ho',r'⟩:=hm;rw[ho] at ho';cases ho'
  exact⟨_,es',ep',hL,r'⟩) hok I.bare
theorem Inv.call{g':Array GenState}{t':Nat}{d':Drawn}{ch:List Addr}(I:Inv X aW σ H s)(u:Un (frs X.stack) ch H H' s.heap h')(hok:HOk X.prog X.w H' h')(hg:AllBare g')
  (hch:∀b∈ch,(b∈X.ex\/X.s₀.heap.objs.size<=b)/\b≠X.env.locals/\(∀x c,X.env.cells.lookup x=some c->c≠b)/\∀p∈X.pn++aW,p.1≠b) :
  Inv X aW σ H' {s with heap:=h',gens:=g',drawn:=d',toks:=t'}:=by
 obtain⟨m,⟨o,es,ep,ho,r⟩,_⟩:=id I.loc;obtain⟨sl,hL⟩:=u.any ho I.free λz=>(hch _ z).2.1 rfl
 exact I.step (ch:=ch) hch (λb o hL hb hc e n=>u.keep b o e n (λz=>(xbn.mp (I.stkSub b z)).elim hL hb) hc) (λb o _ _ hc e n=>u.any e n hc) (λb o hc e n=>u.free b o e n hc) (λb o hc e=>u.there b o e hc) u.tups u.frzs u.tbls (λm' hm=>by
  obtain⟨o',es',ep',ho',r'⟩:=hm;rw[ho] at ho';cases ho'
  exact⟨_,es',ep',hL,r'⟩) hok hg
end
section
variable {X:Cx}{aW:List (Addr×Obj)}{σ:List (Option V)}{H:Hp}{s:Shared}{h':Heap}
theorem Inv.turned{t':Nat}{it:Addr}(I:Inv X aW σ H s)(k:∀b o,b≠it->s.heap.get? b=some o->h'.get? b=some o)(hn:H it=none)(hL:it≠X.env.locals)
  (h1:it∈X.ex\/X.s₀.heap.objs.size<=it)(h2:∀x c,X.env.cells.lookup x=some c->c≠it)(h3:∀p∈X.pn++aW,p.1≠it):Inv X aW σ H {s with heap:=h',toks:=t'}:=by
 have nit:∀b u,H b=some u->b≠it:=λb u e z=>by rw[z,hn] at e;cases e
 refine I.step (g':=s.gens) (d':=s.drawn) (ch:=[it]) (λb hb=>?_) (λb o _ _ hc e _=>k b o (λz=>hc (by simp[z])) e) (λb o _ _ hc e _=>⟨o.slots,k b o (λz=>hc (by simp[z])) e⟩) (λ_ _ _ _ n=>n)
  (λb o hc e=>⟨o,k b o (λz=>hc (by simp[z])) e⟩) (λ_ _ e=>e) (λ_ _ _ e=>e) (λb ps e=>⟨#[],by rw[e];simp⟩) (λm hm=>?_) (λb u e=>?_) I.bare
 ·have e:b=it:=by simpa using hb
  subst e;exact⟨h1,hL,h2,h3⟩
 ·obtain⟨o,es,ep,ho,r⟩:=hm;exact⟨o,es,ep,k _ o (xep hL) ho,r⟩
 ·refine(I.hok b u e).stay (λc v hc q=>k c v ?_ q) (λ_ q=>q) λ_ _ q=>q
  rcases hc with z|z
  ·rw[z];exact nit b u e
  ·exact nit c _ z
end
theorem Inv.tok(I:Inv X aW σ H s)(t:Nat):Inv X aW σ H {s with toks:=t}:=I.un (h':=s.heap) (t':=t) Un.refl I.hok
theorem Inv.kept{h':Heap} (I:Inv X aW σ H s)(k:∀b u,s.heap.get? b=some u->h'.get? b=some u):Inv X aW σ H {s with heap:=h',toks:=t'}:=I.un (Un.kept k) (I.hok.kept k)
theorem Inv.laid{h':Heap} (I:Inv X aW σ H s)(k:∀b u,s.heap.get? b=some u->h'.get? b=some u)(hp:s.heap.objs.size<=a)(new:ObjOk X.prog X.w (upd H a o) h' a o) :
 Inv X aW σ (upd H a o) {s with heap:=h',toks:=t'}:=I.un (Un.laid k hp (I.hok.fresh hp)) (I.hok.laid k hp new)
theorem Inv.write{h':Heap} (I:Inv X aW σ H s)(mu:Mut (H x))(he:e=x\/H e=some (.own x))(k:∀b u,b≠e->s.heap.get? b=some u->h'.get? b=some u)(heo:∃u,h'.get? e=some u)
 (new:ObjOk X.prog X.w (upd H x o) h' x o):Inv X aW σ (upd H x o) {s with heap:=h',toks:=t'}:=I.un (Un.write mu he k heo) (I.hok.write mu he k heo new)
theorem Inv.pins_of(I:Inv X aW σ H s)(h:∀p∈pins',s.heap.get? p.1=some p.2/\H p.1=none/\p.1≠X.env.locals/\p.1∉X.fs/\∀v,p.2.data≠.cell v):Inv X pins' σ H s :=
 ⟨I.ok,I.os,I.bare,I.base,I.loc,I.cell,I.free,I.freeC,λp hp=>(xbz.mp hp).elim (λz=>I.pin p (xex _ z)) (h p),I.hok,I.len,I.hnd⟩
theorem zty{N:List Str}(hN:N.Nodup){i j:Nat}{x:Str}(a:N[i]?=some x)(b:N[j]?=some x):i=j:=by
 obtain⟨h1,e1⟩:=xbj.mp a;obtain⟨h2,e2⟩:=xbj.mp b;exact(List.getElem_inj hN).mp (e1.trans e2.symm)
theorem zww{s:Shared}{M:Model} {i:Nat}{x:Str} (I:Inv X aW σ H s)(hN:X.N.Nodup)(hi:X.N[i]?=some x)(hx:Loc X.env.scope x)(r:RelV v u)
  (h:∀s',Inv X aW (σ.set i (some v)) H s'->(∃a,Heap.SameBut a s.heap s'.heap/\(a=X.env.locals\/X.env.cells.lookup x=some a))->Q () s')(hf:X.fn x=true\/X.env.scope.names.lookup x=some .local:=by first|exact .inl rfl|exact .inr rfl|assumption):wpAny M A (storeName X.env x u) Q E s:=by
 obtain⟨m,hn,hl⟩:=id I.loc;have hcls:(X.env.scope.kind==.class||(X.env.scope.kind==.module&&X.env.locals != X.env.globals))=false:=by rw[I.ok.kind];rfl
 have hiσ:i < σ.length:=by rw[I.len];exact(xbj.mp hi).1
 have cne:=I.cne;have tracked:∀{a:Addr} {h':Heap},(∃o,s.heap.get? a=some o/\H a=none)->Heap.SameBut a s.heap h'->HOk X.prog X.w H h':=λ{a h'} ha hs b ob e=>by
  obtain⟨_,_,hfree⟩:=ha;refine(I.hok b ob e).stay (λc w' hc q=>(hs.2 c ?_).trans q) (λ_ q=>q) λ_ _ q=>q
  rintro rfl;rcases hc with rfl|hc
  ·rw[hfree] at e;cases e
  ·rw[hfree] at hc;cases hc
 rcases hx with hk|hk
 ·refine wpAny_storeName_local hk hn (λh' hn' hs=>?_) hcls;obtain⟨oL,_,_,hoL,_⟩:=id hn;refine h _ ⟨I.ok,I.os,I.bare,⟨λb o e n hb hx=>?_,λb o e n hb hx=>?_,I.base.free,λb o e hx=>?_,I.base.tups,I.base.frzs,I.base.tbls⟩,⟨_,hn',λj y v' e1 e2 e3=>?_⟩,λy c e=>?_,I.free,I.freeC,λp hp=>?_,tracked ⟨oL,hoL,I.free⟩ hs,by simpa using I.len,I.hnd⟩ ⟨_,hs,.inl rfl⟩
  ·exact(hs.2 b (xbv (xbh (xbq e) I.ok.above))).trans (I.base.keep b o e n hb hx)
  ·obtain⟨sl,e1⟩:=I.base.slot b o e n hb hx;exact⟨sl,(hs.2 b (xbv (xbh (xbq e) I.ok.above))).trans e1⟩
  ·obtain⟨o',e1⟩:=I.base.there b o e hx;exact⟨o',(hs.2 b (xbv (xbh (xbq e) I.ok.above))).trans e1⟩
  ·by_cases hj:j=i
   ·subst hj;rw[hi] at e1;cases e1
    rw[xel hiσ] at e2;cases e2;exact⟨u,r,.inl ⟨hk,by simp⟩⟩
   ·rw[xcu (xep hj)] at e2;obtain⟨u',r',q⟩:=hl j y v' e1 e2 e3;refine⟨u',r',?_⟩;rcases q with⟨k,e⟩|⟨k,c,e,z⟩
    ·refine .inl ⟨k,?_⟩;have:y≠x:=λe=>hj (zty hN e1 (e ▸ hi))
     simp[this,e]
    ·exact .inr ⟨k,c,e,z.sameBut hs (cne y c e)⟩
  ·obtain⟨w',z⟩:=I.cell y c e;exact⟨w',z.sameBut hs (cne y c e)⟩
  ·obtain⟨e,n,ne,nf,d⟩:=I.pin p hp;exact⟨(hs.2 p.1 ne).trans e,n,ne,nf,d⟩
 ·have hfn:X.fn x=true:=by
   rcases hf with z|z
   ·exact z
   ·rw[z] at hk;cases hk
  obtain⟨c,hc⟩:=I.ok.has x (.inl hk);obtain⟨w',z⟩:=I.cell x c hc;refine wpAny_storeName_cell I.ok.kind hk hc z (λh' hc' hs=>?_);obtain⟨oc,hoc,hocd⟩:=id z;refine h {s with heap:=h'} ⟨I.ok,I.os,I.bare,⟨λb o e n hb hx=>?_,λb o e n hb hx=>?_,I.base.free,λb o e hx=>?_,I.base.tups,I.base.frzs,I.base.tbls⟩,⟨m,hn.sameBut hs (xep (cne x c hc)),λj y v' e1 e2 e3=>?_⟩,λy c' e=>?_,I.free,I.freeC,λp hp=>?_,tracked ⟨oc,hoc,I.freeC x c hc⟩ hs,by simpa using I.len,I.hnd⟩ ⟨c,hs,.inr hc⟩
  ·exact(hs.2 b (xbv (xbh (xbq e) (I.ok.cab x c hfn hc)))).trans (I.base.keep b o e n hb hx)
  ·obtain⟨sl,e1⟩:=I.base.slot b o e n hb hx;exact⟨sl,(hs.2 b (xbv (xbh (xbq e) (I.ok.cab x c hfn hc)))).trans e1⟩
  ·obtain⟨o',e1⟩:=I.base.there b o e hx;exact⟨o',(hs.2 b (xbv (xbh (xbq e) (I.ok.cab x c hfn hc)))).trans e1⟩
  ·by_cases hj:j=i
   ·subst hj;rw[hi] at e1;cases e1
    rw[xel hiσ] at e2;cases e2;exact⟨u,r,.inr ⟨.inl hk,c,hc,hc'⟩⟩
   ·rw[xcu (xep hj)] at e2;obtain⟨u',r',q⟩:=hl j y v' e1 e2 e3;refine⟨u',r',?_⟩;rcases q with q|⟨k,c',e,z'⟩
    ·exact .inl q
    ·refine .inr ⟨k,c',e,z'.sameBut hs ?_⟩;rintro rfl;exact hj (zty hN e1 (I.ok.inj _ _ _ e hc ▸ hi))
  ·by_cases hcc:c'=c
   ·subst hcc;exact⟨_,hc'⟩
   ·obtain⟨w2,z2⟩:=I.cell y c' e;exact⟨w2,z2.sameBut hs hcc⟩
  ·obtain⟨e,n,ne,nf,d⟩:=I.pin p hp;refine⟨(hs.2 p.1 ?_).trans e,n,ne,nf,d⟩;intro q;rw[q,hoc] at e;have q':oc=p.2:=xch e;exact d w' (by rw[← q'];exact hocd)
theorem zjv{M:Model} (I:Inv X aW σ H s)(hN:X.N.Nodup)(hi:X.N[i]?=some x)(hx:Loc X.env.scope x)(r:RelV v u)
  (h:∀s',Inv X aW (σ.set i (some v)) H s'->Q () s')(hf:X.fn x=true\/X.env.scope.names.lookup x=some .local:=by first|exact .inl rfl|exact .inr rfl|assumption):wpAny M A (storeName X.env x u) Q E s :=
 zww I hN hi hx r (λs' I' _=>h s' I') hf
theorem Inv.call'{s':Shared}{ch:List Addr}(I:Inv X aW σ H s)(ho:s'.os=s.os)(u:Un (frs X.stack) ch H H' s.heap s'.heap)(hok:HOk X.prog X.w H' s'.heap)(hg:AllBare s'.gens)
  (hch:∀b∈ch,(b∈X.ex\/X.s₀.heap.objs.size<=b)/\b≠X.env.locals/\(∀x c,X.env.cells.lookup x=some c->c≠b)/\∀p∈X.pn++aW,p.1≠b):Inv X aW σ H' s':=by
 obtain⟨h',g',d',t',o'⟩:=s';have e:o'=s.os:=ho;subst e;exact I.call (g':=g') (t':=t') (d':=d') u hok hg hch
abbrev XK:=Value->Option Addr->Hp->Prop
noncomputable abbrev St:=List (Option V)
abbrev VK:=V->Hp->Prop
abbrev TE:=St->Hp->VK->Prop
abbrev TT:=St->Hp->(Bool->Hp->Prop)->Prop
abbrev TA:=St->Hp->(List V->Hp->Prop)->Prop
structure Ends where
 nx:St->Hp->Prop
 rt:VK
 bk:St->Hp->Prop:=λ_ _=>False
 ct:St->Hp->Prop:=λ_ _=>False
abbrev TS:=Ends->St->Hp->Prop
def EP(X:Cx) (aW:List (Addr×Obj)) (σ:St) (Q:VK) (u:Value) (s':Shared):Prop:=∃v H',Inv X aW σ H' s'/\RelV v u/\Q v H'
def TP(X:Cx) (aW:List (Addr×Obj)) (σ:St) (Q:Bool->Hp->Prop) (b:Bool) (s':Shared):Prop:=∃H',Inv X aW σ H' s'/\Q b H'
def AP(X:Cx) (aW:List (Addr×Obj)) (σ:St) (Q:List V->Hp->Prop) (us:List Value) (s':Shared):Prop:=∃vs H',Inv X aW σ H' s'/\Vals vs us/\Q vs H'
def SP(X:Cx) (aW:List (Addr×Obj)) (D:Ends) (f:Flow) (s':Shared):Prop :=
 match f with
 | .next=>∃σ' H',Inv X aW σ' H' s'/\D.nx σ' H'
 | .brk=>∃σ' H',Inv X aW σ' H' s'/\D.bk σ' H'
 | .cont=>∃σ' H',Inv X aW σ' H' s'/\D.ct σ' H'
 | .ret u=>∃v σ' H',Inv X aW σ' H' s'/\RelV v u/\D.rt v H'
def PE(X:Cx) (e:Expr) (t:TE):Prop :=
 ∀(aW:List (Addr×Obj)) (s:Shared) (σ:St) (H:Hp) (Q:VK),Inv X aW σ H s->t σ H Q->wpAny (model X.prog X.w) X.A (eval e X.env) (EP X aW σ Q) X.xe s
def PT(X:Cx) (e:Expr) (t:TT):Prop :=
 ∀(aW:List (Addr×Obj)) (s:Shared) (σ:St) (H:Hp) (Q:Bool->Hp->Prop),Inv X aW σ H s->t σ H Q->wpAny (model X.prog X.w) X.A (isTrue e X.env (eval e X.env)) (TP X aW σ Q) X.xe s
def PW(X:Cx) (e:Expr) (t:TT):Prop :=
 ∀(whole:Sem Value) (aW:List (Addr×Obj)) (s:Shared) (σ:St) (H:Hp) (Q:Bool->Hp->Prop),Inv X aW σ H s->t σ H Q->wpAny (model X.prog X.w) X.A (isTrue e X.env whole) (TP X aW σ Q) X.xe s
theorem PW.pt(h:PW X e t):PT X e t:=h _
def PA(X:Cx) (es:List Expr) (t:TA):Prop :=
 ∀(pos:Pos) (aW:List (Addr×Obj)) (s:Shared) (σ:St) (H:Hp) (Q:List V->Hp->Prop),Inv X aW σ H s->t σ H Q->wpAny (model X.prog X.w) X.A (spliced (backTo pos (starEach es X.env))) (AP X aW σ Q) X.xe s
def PS(X:Cx) (au:Stmt) (t:TS):Prop :=
 ∀(aW:List (Addr×Obj)) (s:Shared) (σ:St) (H:Hp) (D:Ends),Inv X aW σ H s->t D σ H->wpAny (model X.prog X.w) X.A (exec au X.env) (SP X aW D) X.xe s
def PSs(X:Cx) (au:List Stmt) (t:TS):Prop :=
 ∀(aW:List (Addr×Obj)) (s:Shared) (σ:St) (H:Hp) (D:Ends),Inv X aW σ H s->t D σ H->wpAny (model X.prog X.w) X.A (execs au X.env) (SP X aW D) X.xe s
theorem thn{α:Type}{t:Sem α}{Q Q':α->Shared->Prop}{M:Model} (h:wpAny M A t Q E s)(hQ:∀a s,Q a s->Q' a s):wpAny M A t Q' E s:=xdw h hQ λ_ _ x=>x
def tVar(i:Nat):TE:=λσ H Q=>∃v,σ[i]?=some (some v)/\Q v H
def tC(v:V):TE:=λ_ H Q=>Q v H
theorem zbnn{X:Cx} (hN:X.N[i]?=some x)(hv:Vis X.env.scope x)(hd:(x==("__debug__" : Str))=false:=by decide)(hcd:(x==("__classdict__" : Str))=false:=by decide):PE X (.Name x pos) (tVar i):=by
 intro aW s σ H Q I h;obtain⟨v,e,h⟩:=h;obtain⟨m,hn,hl⟩:=I.loc;obtain⟨u,r,l⟩:=hl i x v hN e hv;have fin:EP X aW σ Q u s:=⟨v,H,I,r,h⟩
 rcases l with⟨hk,hm⟩|⟨hk,c,hc,hcell⟩
 ·exact wpAny_Name (wpAny_loadName_local I.ok.kind hk hn hm fin) hd
 ·rcases hk with hk|hk
  ·exact wpAny_Name (wpAny_loadName_cell I.ok.kind hk hc hcell fin) hd
  ·exact wpAny_Name (wpAny_loadName_free I.ok.kind hk hc hcell fin hcd) hd
theorem zbnt{i j pos}:PE X (.Constant (.int i) j pos) (tC (.int i)):=λ_ _ _ H _ I h=>wpAny_Constant_int ⟨.int i,H,I.tok _,⟨_,rfl⟩,h⟩
theorem zbsp{b j pos}:PE X (.Constant (.bool b) j pos) (tC (.bl b)):=λ_ _ _ H _ I h=>Constant_bool ⟨.bl b,H,I,rfl,h⟩
theorem zbnr{j pos}:PE X (.Constant .none j pos) (tC .non):=λ_ _ _ H _ I h=>Constant_none ⟨.non,H,I,rfl,h⟩
theorem zbno{x j pos}:PE X (.Constant (.str x) j pos) (tC (.str x)):=λ_ _ _ H _ I h=>Calls.Constant_str ⟨.str x,H,I.tok _,⟨_,rfl⟩,h⟩
noncomputable def Gl(X:Cx) (x:Str):Prop:=X.env.kindOf x=some .globalImplicit
theorem zjf(I:Inv X aW σ H s)(hg:Gl X x)(hm:X.mg x=some u)(h:Q u s)
  (hd:(x==("__debug__" : Str))=false:=by decide):wpAny (model X.prog X.w) X.A (eval (.Name x pos) X.env) Q E s :=
 xjb I.ok.kind hg (Calls.loadGlobal_global (by rw[I.ok.glob];exact I.mod.glob.keeps I.bk) hm h) hd
theorem zrl(I:Inv X aW σ H s)(hg:Gl X x)(hm:X.mg x=none)(hv:bootBuiltins x=some u)(h:Q u s)
  (hn:x≠"__name__":=by decide)(hd:(x==("__debug__" : Str))=false:=by decide):wpAny (model X.prog X.w) X.A (eval (.Name x pos) X.env) Q E s:=by
 obtain⟨mb,h1,h2⟩:=I.mod.blt;exact xjb I.ok.kind hg (Calls.loadGlobal_builtin (by rw[I.ok.glob];exact I.mod.glob.keeps I.bk) hm (by rw[I.ok.blt];exact h1.keeps I.bk) ((h2 x hn).trans hv) h) hd
theorem zch(hg:Gl X x)(hm:X.mg x=some u)(r:RelV v u)(hd:(x==("__debug__" : Str))=false:=by decide):PE X (.Name x pos) (tC v) :=
 λ_ _ _ H _ I h=>zjf I hg hm ⟨v,H,I,r,h⟩ hd
theorem zth(hg:Gl X x)(hm:X.mg x=none)(hv:bootBuiltins x=some u)(r:RelV v u)(hn:x≠"__name__":=by decide)(hd:(x==("__debug__" : Str))=false:=by decide):PE X (.Name x pos) (tC v) :=
 λ_ _ _ H _ I h=>zrl I hg hm hv ⟨v,H,I,r,h⟩ hn hd
def PC(X:Cx) (op:CmpOp) (a b:Expr) (t:TE):Prop :=
 ∀(aW:List (Addr×Obj)) (s:Shared) (σ:St) (H:Hp) (Q:VK),Inv X aW σ H s->t σ H Q ->
  wpAny (model X.prog X.w) X.A (eval a X.env) (λv s₁=>wpAny (model X.prog X.w) X.A (eval b X.env) (λu s₂=>wpAny (model X.prog X.w) X.A (compareOp op v u) (EP X aW σ Q) X.xe s₂) X.xe s₁) X.xe s
def tB(t:TE):TT:=λσ H Q=>t σ H λx H1=>∃c,x=.bl c/\Q c H1
section
variable {X:Cx}{a:Expr}{b:Expr}{pos:Pos}
theorem zbnf{op:CmpOp}{t:TE}(h:PC X op a b t)(h1:behindInMarks op b=false:=by first|exact nobehind _ (by decide) (by decide)|rfl):PT X (.Compare a [op] [b] pos) (tB t):=by
 intro aW s σ H Q I hw;refine wpAny_isTrue_Compare1 (thn (h aW s σ H _ I hw) λv s1 h1=>thn h1 λu s2 h2=>thn h2 λc s3 hq0=>?_) h1;obtain⟨x,H1,I1,r1,q1⟩:=hq0;obtain⟨d,rfl,q⟩:=q1;cases r1;exact xhl ⟨H1,I1,q⟩
end
def tAnd(t u:TT):TT:=λσ H Q=>t σ H λc H1=>if c=true then u σ H1 Q else Q false H1
def tOr(t u:TT):TT:=λσ H Q=>t σ H λc H1=>if c=true then Q true H1 else u σ H1 Q
def tNot(t:TT):TT:=λσ H Q=>t σ H λc H1=>Q (!c) H1
section
variable {X:Cx}{a:Expr}{pos:Pos}{tA:TT}
theorem pw_and1(ha:PT X a tA):PW X (.BoolOp .And [a] pos) tA:=by
 intro wh aW s σ H Q I h;refine isTrue_and (thn (ha aW s σ H Q I h) λc s1 e=>?_);cases c with
 | true=>exact isTrue_and_nil e
 | false=>exact e
theorem pw_or1(ha:PT X a tA):PW X (.BoolOp .Or [a] pos) tA:=by
 intro wh aW s σ H Q I h;refine isTrue_or (thn (ha aW s σ H Q I h) λc s1 e=>?_);cases c with
 | false=>exact isTrue_or_nil e
 | true=>exact e
end
section
variable {X:Cx}{a:Expr}{b:Expr}{pos:Pos}{tA:TT}{tB':TT}{rest:List Expr}
theorem pw_and(ha:PT X a tA)(hb:PW X (.BoolOp .And (b::rest) pos) tB'):PW X (.BoolOp .And (a::b::rest) pos) (tAnd tA tB'):=by
 intro wh aW s σ H Q I h;refine isTrue_and (thn (ha aW s σ H _ I h) λc s1 hq0=>?_);obtain⟨H1,I1,q1⟩:=hq0;cases c with
 | true=>exact hb wh aW s1 σ H1 Q I1 q1
 | false=>exact⟨H1,I1,q1⟩
theorem pw_or(ha:PT X a tA)(hb:PW X (.BoolOp .Or (b::rest) pos) tB'):PW X (.BoolOp .Or (a::b::rest) pos) (tOr tA tB'):=by
 intro wh aW s σ H Q I h;refine isTrue_or (thn (ha aW s σ H _ I h) λc s1 hq0=>?_);obtain⟨H1,I1,q1⟩:=hq0;cases c with
 | true=>exact⟨H1,I1,q1⟩
 | false=>exact hb wh aW s1 σ H1 Q I1 q1
end
theorem zbne(ha:PT X a tA):PT X (.UnaryOp .Not a pos) (tNot tA):=by
 intro aW s σ H Q I h;exact isTrue_not (ha aW s σ H (λc H1=>Q (!c) H1) I h)
def tAndV(ta tb:TE):TE:=λσ H Q=>ta σ H λx H1=>∃c,x=.bl c/\if c=true then tb σ H1 Q else Q (.bl false) H1
def tNotV(ta:TE):TE:=λσ H Q=>ta σ H λx H1=>∃c,x=.bl c/\Q (.bl (!c)) H1
theorem zbnp{op} (h:PE X a t):PE X (.BoolOp op [a] pos) t:=λaW s σ H Q I hw=>BoolOp_one (h aW s σ H Q I hw)
section
variable {X:Cx}{a:Expr}{b:Expr}{ta:TE}{tb:TE}{pos:Pos}{rest:List Expr}
theorem zbnv(ha:PE X a ta)(hb:PE X (.BoolOp .And (b::rest) pos) tb):PE X (.BoolOp .And (a::b::rest) pos) (tAndV ta tb):=by
 intro aW s σ H Q I h;refine BoolOp_and (thn (ha aW s σ H _ I h) λv s1 hq0=>?_);obtain⟨x,H1,I1,r1,q1⟩:=hq0;obtain⟨c,rfl,q1⟩:=q1;cases r1;refine xhl ?_;cases c with
 | true=>exact hb aW s1 σ H1 Q I1 q1
 | false=>exact⟨.bl false,H1,I1,rfl,q1⟩
end
section
variable {X:Cx}{a:Expr}{ta:TE}{pos:Pos}
theorem zbnq(ha:PE X a ta):PE X (.UnaryOp .Not a pos) (tNotV ta):=by
 intro aW s σ H Q I h;refine UnaryOp_ (thn (ha aW s σ H _ I h) λv s1 hq0=>?_);obtain⟨x,H1,I1,r1,q1⟩:=hq0;obtain⟨c,rfl,q1⟩:=q1;cases r1;exact not_of (xhl ⟨.bl (!c),H1,I1,rfl,q1⟩)
end
def tIf(t:TT) (ta tb:TE):TE:=λσ H Q=>t σ H λc H1=>if c=true then ta σ H1 Q else tb σ H1 Q
section
variable {X:Cx}{a:Expr}{b:Expr}{ta:TE}{tb:TE}{pos:Pos}{tA:TT}
theorem ztf{c:Expr}(hc:PT X c tA)(ha:PE X a ta)(hb:PE X b tb):PE X (.IfExp c a b pos) (tIf tA ta tb):=by
 intro aW s σ H Q I h;refine wpAny_IfExp (thn (hc aW s σ H _ I h) λd s1 hq0=>?_);obtain⟨H1,I1,q1⟩:=hq0;cases d with
 | true=>exact ha aW s1 σ H1 Q I1 q1
 | false=>exact hb aW s1 σ H1 Q I1 q1
end
def SqL(K:Fg) (H:Hp) (a:Addr) (xs:List V):Prop :=
 Rd H a (.lst xs) \/
  ∃(o:Obj) (its:Array Value) (n:Nat),K.lookup a=some o/\o.cls=.type "list"/\o.dict=none/\o.data=.seq its n/\its.size<=sizeLine/\Vals xs its.toList
def SqT(K:Fg) (H:Hp) (a:Addr) (xs:List V):Prop :=
 Rd H a (.tup xs) \/
  ∃(o:Obj) (its:Array Value) (n:Nat),K.lookup a=some o/\o.cls=.type "tuple"/\o.data=.seq its n/\its.size<=sizeLine/\Vals xs its.toList
noncomputable def absV:Value->Option V
 | .none=>some .non
 | .bool b=>some (.bl b)
 | .int i _=>some (.int i)
 | .str x _=>some (.str x)
 | .bytes b _=>some (.byt b)
 | .float b _=>some (.flt b)
 | .ref a=>some (.ref a)
 | .type n=>some (.ty n)
 | _=>none
theorem RelV.abs(r:RelV x u):absV u=some x:=by
 cases x with
 | non=>cases r;rfl
 | bl _=>cases r;rfl
 | int _=>obtain⟨t,rfl⟩:=r;rfl
 | str _=>obtain⟨t,rfl⟩:=r;rfl
 | byt _=>obtain⟨t,rfl⟩:=r;rfl
 | flt _=>obtain⟨t,rfl⟩:=r;rfl
 | ref _=>cases r;rfl
 | ty _=>cases r;rfl
theorem RelV.inj(r:RelV x u)(q:RelV y u):x=y:=xch (r.abs.symm.trans q.abs)
theorem Vals.inj:∀{xs ys:List V} {us:List Value},Vals xs us->Vals ys us->xs=ys
 | _,_,_,.nil,.nil=>rfl
 | _,_,_,.cons r t,.cons r' t'=>by rw[r.inj r',Vals.inj t t']
section
variable {H:Hp}{a:Addr}{xs:List V}
theorem SqL.of{K:Fg}(h:H a=some (.lst xs)):SqL K H a xs:=.inl (.inl h)
theorem SqT.of{K:Fg}(h:H a=some (.tup xs)):SqT K H a xs:=.inl (.inl h)
end
theorem Inv.list(I:Inv X aW σ H s)(h:SqL X.K H a xs):∃its:List Value,Vals xs its/\PlainL s.heap a its.toArray/\xs.length<=sizeLine:=by
 rcases h with h|⟨o,its,n,hk,hc,hd,hs,hz,r⟩
 ·obtain⟨z,its,n,r,e⟩:=h.ok I.hok;exact⟨its,r,⟨_,n,e,rfl,rfl,rfl⟩,z⟩
 ·refine⟨its.toList,r,⟨o,n,I.kIn a o hk,hc,hd,by simpa using hs⟩,?_⟩;have e:=r.length;simp only[xcb] at e;lia
theorem Inv.tuple(I:Inv X aW σ H s)(h:SqT X.K H a xs):∃its:List Value,Vals xs its/\IsTup s.heap a its.toArray/\xs.length<=sizeLine:=by
 rcases h with h|⟨o,its,n,hk,hc,hs,hz,r⟩
 ·obtain⟨z,its,r,p⟩:=h.ok I.hok;exact⟨its,r,p,z⟩
 ·refine⟨its.toList,r,⟨o,I.kIn a o hk,hc,n,by simpa using hs⟩,?_⟩;have e:=r.length;simp only[xcb] at e;lia
theorem Inv.list_inj(I:Inv X aW σ H s)(h:SqL X.K H a xs)(h':SqL X.K H a ys):xs=ys:=by
 obtain⟨its,r,⟨o,n,e,_,_,d⟩,_⟩:=I.list h;obtain⟨its',r',⟨o',n',e',_,_,d'⟩,_⟩:=I.list h';rw[e] at e';cases e'
 rw[d] at d';injection d' with d1 _
 have:its=its':=by simpa using congrArg Array.toList d1
 subst this;exact r.inj r'
theorem Inv.tuple_inj(I:Inv X aW σ H s)(h:SqT X.K H a xs)(h':SqT X.K H a ys):xs=ys:=by
 obtain⟨its,r,⟨o,e,_,n,d⟩,_⟩:=I.tuple h;obtain⟨its',r',⟨o',e',_,n',d'⟩,_⟩:=I.tuple h';rw[e] at e';cases e'
 rw[d] at d';injection d' with d1 _
 have:its=its':=by simpa using congrArg Array.toList d1
 subst this;exact r.inj r'
noncomputable abbrev Cx.wish(X:Cx) (E:Value->Shared->Prop):Cx:={X with xe:=E}
abbrev Cx.nox(X:Cx):Cx:=X.wish λ_ _=>False
theorem Cx.Ok.wish{X:Cx}(ok:X.Ok)(E:Value->Shared->Prop):(X.wish E).Ok :=
 ⟨ok.mod,ok.kind,ok.glob,ok.blt,ok.above,ok.inj,ok.has,ok.cab,ok.hd,ok.frames,ok.stk,ok.exf,ok.bs,ok.bsz,ok.noex,ok.exfs,ok.funs,ok.frf⟩
theorem Cx.Ok.unwish{X:Cx} (ok:(X.wish E).Ok):X.Ok :=
 ⟨ok.mod,ok.kind,ok.glob,ok.blt,ok.above,ok.inj,ok.has,ok.cab,ok.hd,ok.frames,ok.stk,ok.exf,ok.bs,ok.bsz,ok.noex,ok.exfs,ok.funs,ok.frf⟩
theorem Inv.wish(I:Inv X aW σ H s)(E:Value->Shared->Prop):Inv (X.wish E) aW σ H s:=⟨I.ok.wish E,I.os,I.bare,I.base,I.loc,I.cell,I.free,I.freeC,I.pin,I.hok,I.len,I.hnd⟩
theorem Inv.unwish{X:Cx}(I:Inv (X.wish E) aW σ H s):Inv X aW σ H s:=⟨I.ok.unwish,I.os,I.bare,I.base,I.loc,I.cell,I.free,I.freeC,I.pin,I.hok,I.len,I.hnd⟩
theorem SP.unwish{X:Cx}{D:Ends} (h:SP (X.wish E) aW D f s'):SP X aW D f s':=by
 cases f with
 | next=>obtain⟨σ',H',I,q⟩:=h;exact⟨σ',H',I.unwish,q⟩
 | brk=>obtain⟨σ',H',I,q⟩:=h;exact⟨σ',H',I.unwish,q⟩
 | cont=>obtain⟨σ',H',I,q⟩:=h;exact⟨σ',H',I.unwish,q⟩
 | ret u=>obtain⟨v,σ',H',I,r,q⟩:=h;exact⟨v,σ',H',I.unwish,r,q⟩
section
variable {X:Cx}{aW:List (Addr×Obj)}{σ:St}{H:Hp}{s:Shared}
theorem PSs.nox{au:List Stmt}{t:TS}(h:PSs X.nox au t):PSs X au t:=λaW s σ H D I hw =>
 xdw (h aW s σ H D (I.wish _) hw) (λ_ _ q=>q.unwish) λ_ _ z=>False.elim z
end
def tNext:TS:=λD σ H=>D.nx σ H
def tSeq(t u:TS):TS:=λD σ H=>t {D with nx:=u D} σ H
theorem zbhf:PSs X [] tNext:=λ_ _ σ H _ I h=>xjj ⟨σ,H,I,h⟩
section
variable {X:Cx}{au:Stmt}{rest:List Stmt}{t:TS}{u:TS}
theorem znh(h1:PS X au t)(h2:PSs X rest u):PSs X (au::rest) (tSeq t u):=by
 intro aW s σ H D I h;refine wpAny_execs_cons (thn (h1 aW s σ H {D with nx:=u D} I h) λf s1 q=>?_);cases f with
 | next =>
  obtain⟨σ',H',I',q⟩:=q;exact h2 aW s1 σ' H' D I' q
 | ret v=>exact q
 | brk=>exact q
 | cont=>exact q
end
section
variable {X:Cx}{au:Stmt}{t:TS}
theorem ztd(h1:PS X au t):PSs X [au] t:=by
 intro aW s σ H D I h;refine wpAny_execs_cons (thn (h1 aW s σ H D I h) λf s1 q=>?_);cases f with
 | next=>exact xjj q
 | ret v=>exact q
 | brk=>exact q
 | cont=>exact q
end
def tBreak:TS:=λD σ H=>D.bk σ H
theorem zbcl:PS X (.Break pos) tBreak:=λ_ _ σ H _ I h=>wpAny_Break ⟨σ,H,I,h⟩
theorem Inv.quiet(I:Inv X aW σ H s):interactive X.env=false:=by simp[interactive,I.ok.kind]
def tDrop(te:TE):TS:=λD σ H=>te σ H λ_ H1=>D.nx σ H1
section
variable {X:Cx}{e:Expr}{te:TE}{pos:Pos}
theorem zzy(he:PE X e te)(hs:swapsWith e none pos.line X.env=pure false:=by rfl):PS X (.Expr e pos) (tDrop te):=by
 intro aW s σ H D I h;exact wpAny_Expr_any (thn (he aW s σ H _ I h) λv s1 ⟨x,H1,I1,r1,q1⟩=>⟨σ,H1,I1,q1⟩) I.quiet hs
end
def tRet(te:TE):TS:=λD σ H=>te σ H D.rt
section
variable {X:Cx}{e:Expr}{te:TE}{pos:Pos}
theorem zbhi(he:PE X e te):PS X (.Return (some e) pos) (tRet te):=by
 intro aW s σ H D I h;exact wpAny_Return_some (thn (he aW s σ H _ I h) λv s1 ⟨x,H1,I1,r1,q1⟩=>⟨x,σ,H1,I1,r1,q1⟩)
end
def tIfS(c:TT) (t u:TS):TS:=λD σ H=>c σ H λb H1=>if b=true then t D σ H1 else u D σ H1
section
variable {X:Cx}{t:TS}{u:TS}{pos:Pos}
theorem zbro{c:Expr}{a b:List Stmt}{tc:TT}(hc:PT X c tc)(ha:PSs X a t)(hb:PSs X b u):PS X (.If c a b pos) (tIfS tc t u):=by
 intro aW s σ H D I h;refine wpAny_If (thn (hc aW s σ H _ I h) λd s1 hq0=>?_);obtain⟨H1,I1,q1⟩:=hq0;cases d with
 | true=>exact ha aW s1 σ H1 D I1 q1
 | false=>exact hb aW s1 σ H1 D I1 q1
end
abbrev TG:=V->St->Hp->(St->Hp->Prop)->Prop
abbrev TGs:=List V->St->Hp->(St->Hp->Prop)->Prop
def PG(X:Cx) (target:Expr) (t:TG):Prop :=
 ∀(aW:List (Addr×Obj)) (s:Shared) (σ:St) (H:Hp) (v:V) (u:Value) (Q:St->Hp->Prop),Inv X aW σ H s->RelV v u->t v σ H Q ->
  wpAny (model X.prog X.w) X.A (assign target X.env u) (λ_ s'=>∃σ' H',Inv X aW σ' H' s'/\Q σ' H') X.xe s
def PGs(X:Cx) (ts:List Expr) (t:TGs):Prop :=
 ∀(aW:List (Addr×Obj)) (s:Shared) (σ:St) (H:Hp) (vs:List V) (us:List Value) (Q:St->Hp->Prop),Inv X aW σ H s->Vals vs us->t vs σ H Q ->
  wpAny (model X.prog X.w) X.A (assignInOrder ((assignEach ts X.env).map (·.2)) us) (λ_ s'=>∃σ' H',Inv X aW σ' H' s'/\Q σ' H') X.xe s
abbrev TSet:=V->V->V->Hp->(Hp->Prop)->Prop
def PSet(X:Cx) (t:TSet):Prop :=
 ∀(aW:List (Addr×Obj)) (s:Shared) (σ:St) (H:Hp) (o i v:V) (ov iv u:Value) (Q:Hp->Prop),Inv X aW σ H s->RelV o ov->RelV i iv->RelV v u->t o i v H Q ->
  wpAny (model X.prog X.w) X.A (setItem ov iv u) (λ_ s'=>∃H',Inv X aW σ H' s'/\Q H') X.xe s
abbrev TIp:=V->V->Hp->VK->Prop
def PIp(X:Cx) (op:Operator) (t:TIp):Prop :=
 ∀(aW:List (Addr×Obj)) (s:Shared) (σ:St) (H:Hp) (x y:V) (v u:Value) (Q:VK),Inv X aW σ H s->RelV x v->RelV y u->t x y H Q ->
  wpAny (model X.prog X.w) X.A (inplaceOp op v u) (EP X aW σ Q) X.xe s
def gName(i:Nat):TG:=λv σ H Q=>Q (σ.set i (some v)) H
theorem zbhu{X:Cx} (hN:X.N.Nodup)(hi:X.N[i]?=some x)(hx:Loc X.env.scope x)(hf:X.fn x=true\/X.env.scope.names.lookup x=some .local:=by first|exact .inl rfl|exact .inr rfl|assumption):PG X (.Name x pos) (gName i):=by
 intro aW s σ H v u Q I r h;exact wpAny_assign_Name (zjv I hN hi hx r (λs' I'=>⟨_,H,I',h⟩) hf)
def gNil:TGs:=λvs σ H Q=>vs=[]/\Q σ H
def gCons(t:TG) (u:TGs):TGs:=λvs σ H Q=>∃v r,vs=v::r/\t v σ H λσ' H'=>u r σ' H' Q
theorem zbht:PGs X [] gNil:=by
 intro aW s σ H vs us Q I r h;obtain⟨e,h⟩:=h;subst e;cases r;exact assignInOrder_nil ⟨σ,H,I,h⟩
section
variable {X:Cx}
theorem zbcq{e:Expr}{es:List Expr}{t:TG}{u:TGs}(h1:PG X e t)(h2:PGs X es u)
  (hs:(assignEach (e::es) X.env).map (·.2)=assign e X.env::(assignEach es X.env).map (·.2):=by rfl):PGs X (e::es) (gCons t u):=by
 intro aW s σ H vs us Q I r h;obtain⟨v,vr,e1,h⟩:=h;subst e1;cases r with
 | cons r rr =>
  rw[hs];refine assignInOrder_cons (thn (h1 aW s σ H _ _ _ I r h) λ_ s1 hq0=>?_);obtain⟨σ1,H1,I1,q1⟩:=hq0;exact h2 aW s1 σ1 H1 _ _ Q I1 rr q1
end
def gTup(K:Fg) (n:Nat) (t:TGs):TG:=λv σ H Q=>∃a xs,v=.ref a/\SqT K H a xs/\xs.length=n/\t xs σ H Q
theorem zbnl{X:Cx} (hc:X.calm=true)(h:PGs X es t)
  (hn:(assignEach es X.env).length=n:=by rfl)(hst:(assignEach es X.env).findIdx? (·.1)=none:=by rfl):PG X (.Tuple es k pos) (gTup X.K n t):=by
 intro aW s σ H v u Q I r hw;obtain⟨a,xs,e1,hq,hl,hw⟩:=hw;subst e1;cases r;obtain⟨its,rv,ht,hz⟩:=I.tuple hq;refine assign_Tuple_tuple (I.ok.hd hc) ht (by simp[hn,← hl,rv.length]) hst λh' hx=>?_
 have I1:Inv X aW σ H {s with heap:=h'}:=I.kept (t':=s.toks) λb o e=>hx b o (xbv (xbq e)) e
 exact h aW _ σ H xs _ Q I1 (by simpa using rv) hw
def gSub(to ti:TE) (t:TSet):TG:=λv σ H Q=>to σ H λo H1=>ti σ H1 λi H2=>t o i v H2 λH3=>Q σ H3
section
variable {X:Cx}{pos:Pos}
theorem zbnm{o i:Expr}{to ti:TE}{t:TSet}(ho:PE X o to)(hi:PE X i ti)(hs:PSet X t)
  (ha:∀v,assign (.Subscript o i pos) X.env v=(do
   let ov ← holding [v] (eval o X.env)
   let iv ← holding [v,ov] (eval i X.env)
   standAt pos
   holding [v,ov,iv] (setItem ov iv v)
   release [v,ov,iv] []):=by intro _;rfl):PG X (.Subscript o i pos) (gSub to ti t):=by
 intro aW s σ H v u Q I r h;rw[ha];refine xba (xdz (thn (ho aW s σ H _ I h) λov s1 hq0=>?_));obtain⟨x,H1,I1,r1,q1⟩:=hq0;refine xba (xdz (thn (hi aW s1 σ H1 _ I1 q1) λiv s2 hq0=>?_));obtain⟨y,H2,I2,r2,q2⟩:=hq0;refine xba (wpAny_standAt (xba (xdz (thn (hs aW s2 σ H2 x y v ov iv u _ I2 r1 r2 r q2) λ_ s3 hq0=>?_))));obtain⟨H3,I3,q3⟩:=hq0;exact wpAny_release ⟨σ,H3,I3,q3⟩
end
def tAsg(te:TE) (g:TG):TS:=λD σ H=>te σ H λx H1=>g x σ H1 D.nx
section
variable {X:Cx}{pos:Pos}
theorem zbnj{tg e:Expr}{te:TE}{g:TG}(he:PE X e te)(hg:PG X tg g)(hs:swapsWithSole [tg] e pos.line X.env=pure false:=by rfl)(hw:swappedStores [tg] e X.env=pure none:=by rfl)
  (h1:(assignEach [tg] X.env).map (·.2)=[assign tg X.env]:=by rfl):PS X (.Assign [tg] e pos) (tAsg te g):=by
 intro aW s σ H D I h;refine wpAny_Assign_stores (thn (he aW s σ H _ I h) λv s1 hq0=>?_) hs hw;obtain⟨x,H1,I1,r1,q1⟩:=hq0;rw[h1];exact thn (hg aW s1 σ H1 x v _ I1 r1 q1) λ_ s2 q=>q
theorem zbhh{i:Nat}{x:Str}{e:Expr}{te:TE}{pos':Pos}(hN:X.N.Nodup)(hi:X.N[i]?=some x)(hx:Loc X.env.scope x)(he:PE X e te)(hs:swapsWith e (some (.Name x pos')) pos.line X.env=pure false:=by rfl)(hf:X.fn x=true\/X.env.scope.names.lookup x=some .local:=by first|exact .inl rfl|exact .inr rfl|assumption) :
  PS X (.Assign [.Name x pos'] e pos) (tAsg te (gName i)):=by
 intro aW s σ H D I h;refine wpAny_Assign_Name (thn (he aW s σ H _ I h) λv s1 hq0=>?_) hs;obtain⟨y,H1,I1,r1,q1⟩:=hq0;exact zjv I1 hN hi hx r1 (λs2 I2=>⟨_,H1,I2,q1⟩) hf
end
def tAug(i:Nat) (te:TE) (ti:TIp):TS:=λD σ H=>∃x,σ[i]?=some (some x)/\te σ H λy H1=>ti x y H1 λz H2=>D.nx (σ.set i (some z)) H2
section
variable {X:Cx}{pos:Pos}
theorem zbni{i:Nat}{x:Str}{e:Expr}{te:TE}{op:Operator}{ti:TIp}{pos':Pos}(hN:X.N.Nodup)(hi:X.N[i]?=some x)(hx:Loc X.env.scope x)(he:PE X e te)(ho:PIp X op ti)(hf:X.fn x=true\/X.env.scope.names.lookup x=some .local:=by first|exact .inl rfl|exact .inr rfl|assumption) :
  PS X (.AugAssign (.Name x pos') op e pos) (tAug i te ti):=by
 intro aW s σ H D I h;obtain⟨v,e1,h⟩:=h;obtain⟨m,hn,hl⟩:=I.loc;have vis:Vis X.env.scope x:=by rcases hx with k|k;exact .inl k;exact .inr (.inl k)
 obtain⟨u,r,l⟩:=hl i x v hi e1 vis;refine wpAny_AugAssign_Name ?_;have go:wpAny (model X.prog X.w) X.A (eval e X.env) (λw s₂=>wpAny (model X.prog X.w) X.A (inplaceOp op u w) (λr s₃=>wpAny (model X.prog X.w) X.A (storeName X.env x r) (λ_=>SP X aW D .next) X.xe s₃) X.xe s₂) X.xe s:=by
  refine thn (he aW s σ H _ I h) λw s1 hq0=>?_
  obtain⟨y,H1,I1,r1,q1⟩:=hq0;refine thn (ho aW s1 σ H1 v y u w _ I1 r r1 q1) λz s2 hq0=>?_
  obtain⟨zv,H2,I2,r2,q2⟩:=hq0;exact zjv I2 hN hi hx r2 (λs3 I3=>⟨_,H2,I3,q2⟩) hf
 rcases l with⟨hk,hm⟩|⟨hk,c,hc,hcell⟩
 ·exact wpAny_loadName_local I.ok.kind hk hn hm go
 ·rcases hk with hk|hk
  ·exact wpAny_loadName_cell I.ok.kind hk hc hcell go
  ·rcases hx with k|k
   ·have:X.env.scope.names.lookup x=some .free:=hk;rw[k] at this;cases this
   ·have:X.env.scope.names.lookup x=some .free:=hk;rw[k] at this;cases this
end
def ipI(f:Int->Int->Int):TIp:=λx y H Q=>∃i j,x=.int i/\y=.int j/\Q (.int (f i j)) H
theorem zbow:PIp X .Sub (ipI λi j=>i - j):=by
 intro aW s σ H x y v u Q I r1 r2 h;obtain⟨i,j,e1,e2,q⟩:=h;subst e1;subst e2
 obtain⟨t,rfl⟩:=r1;obtain⟨t',rfl⟩:=r2;exact isub_int ⟨.int _,H,I.tok _,⟨_,rfl⟩,q⟩
def tWhile(c:TT) (tb:TS):TS:=λD σ H=>∃W:Nat->St->Hp->Prop,(∃m,W m σ H)/\∀m σ H,W m σ H ->
 c σ H λb H1=>if b=true then ∃N:St->Hp->Prop,(∀σ' H',N σ' H'->∃m',m'<m/\W m' σ' H')/\tb {D with nx:=N,ct:=N,bk:=D.nx} σ H1 else D.nx σ H1
section
variable {X:Cx}{pos:Pos}
theorem zbcj{c:Expr}{body:List Stmt}{tc:TT}{tb:TS}(hp:PassesOwn (model X.prog X.w) X.A X.env X.xe)(hc:PT X c tc)(hb:PSs X body tb):PS X (.While c body [] pos) (tWhile tc tb):=by
 intro aW s σ H D I h;obtain⟨W,⟨m0,w0⟩,turn⟩:=h;refine wpAny_While (codeAny_whileLoop (λn s'=>∃σ' H',Inv X aW σ' H' s'/\W n σ' H') ?_ m0 ⟨σ,H,I,w0⟩);rintro n s1 ⟨σ1,H1,I1,w1⟩;refine xhi hp (thn (hc aW s1 σ1 H1 _ I1 (turn n σ1 H1 w1)) λb s2 hq0=>?_);obtain⟨H2,I2,q2⟩:=hq0;cases b with
 | true =>
  obtain⟨N,hN,q2⟩:=q2;rw[if_pos rfl];refine xhi hp (thn (hb aW s2 σ1 H2 _ I2 q2) λf s3 q3=>?_);cases f with
  | next =>
   obtain⟨σ3,H3,I3,n3⟩:=q3;obtain⟨m',hm,w3⟩:=hN σ3 H3 n3;exact⟨m',hm,σ3,H3,I3,w3⟩
  | cont =>
   obtain⟨σ3,H3,I3,n3⟩:=q3;obtain⟨m',hm,w3⟩:=hN σ3 H3 n3;exact⟨m',hm,σ3,H3,I3,w3⟩
  | brk=>exact q3
  | ret v=>exact q3
 | false =>
  rw[if_neg xfi];exact xjj ⟨σ1,H2,I2,q2⟩
end
structure It where
 go:Nat->Hp->Prop
 yld:Nat->Hp->V->Hp->Prop
 stop:Nat->Hp->Prop
def FpOk(X:Cx) (aW:List (Addr×Obj)) (H:Hp) (b:Addr):Prop :=
 H b=none/\b≠X.env.locals/\b∉X.fs/\(b∈X.ex\/X.s₀.heap.objs.size<=b)/\(∀x c,X.env.cells.lookup x=some c->c≠b)/\∀p∈X.pn++aW,p.1≠b
theorem Inv.fpOk(I:Inv X aW σ H s)(hb:s.heap.objs.size<=b)(hn:H' b=none):FpOk X aW H' b:=by
 refine⟨hn,xip (xbh I.lt hb),I.nofs hb,.inr (xbb I.sz hb),λx c e z=>?_,λp hp z=>?_⟩
 ·obtain⟨v,q⟩:=I.cell x c e;exact absurd (xbh q.lt (by rw[z];exact hb)) (xgl _)
 ·exact absurd (xbh (xbq (I.pin p hp).1) (by rw[z];exact hb)) (xgl _)
structure Turn (P:Program) (w:World) (K:Fg) (tg:Expr) (J:It) (fp:List Addr) (it:Addr) (tn:Nat->Heap->Prop):Prop where
 mem:it∈fp
 obj:∀i h,tn i h->∀b∈fp,∃o,h.get? b=some o/\∀v,o.data≠.cell v
 keep:∀i h h',tn i h->(∀b∈fp,∀o,h.get? b=some o->h'.get? b=some o)->tn i h'
 item:∀(X:Cx),X.prog=P->X.w=w->X.K=K->X.calm=true->∀(i:Nat) (aW:List (Addr×Obj)) (s:Shared) (σ:St) (H:Hp) (E:Value->Shared->Prop),Inv X aW σ H s->(∀b∈fp,FpOk X aW H b)->tn i s.heap->J.go i H ->
  wpAny (model P w) X.A (pyNext (.ref it)) (λr s1=>∃u,r=some u /\
   wpAny (model P w) X.A (letOwnedTupleGo tg (.ref it) u) (λ_ s2=>∃x H',Inv X aW σ H' s2/\RelV x u/\J.yld i H x H'/\tn (i+1) s2.heap/\∀b∈fp,H' b=none) E s1) E s
 done:∀(X:Cx),X.prog=P->X.w=w->X.K=K->X.calm=true->∀(i:Nat) (aW:List (Addr×Obj)) (s:Shared) (σ:St) (H:Hp) (E:Value->Shared->Prop),Inv X aW σ H s->(∀b∈fp,FpOk X aW H b)->tn i s.heap->J.stop i H ->
  wpAny (model P w) X.A (pyNext (.ref it)) (λr s1=>r=none/\Inv X aW σ H s1) E s
 self:∀(A:Around) (i:Nat) (s:Shared) (Q:Value->Shared->Prop) (E:Value->Shared->Prop),tn i s.heap->Q (.ref it) s->wpAny (model P w) A (pyIter (.ref it)) Q E s
abbrev TI:=St->Hp->(It->Hp->Prop)->Prop
def PIE(X:Cx) (aW:List (Addr×Obj)) (σ:St) (tg:Expr) (R:It->Hp->Prop) (itv:Value) (s2:Shared):Prop :=
 ∃(it:Addr) (fp:List Addr) (tn:Nat->Heap->Prop) (J:It) (H':Hp),itv=.ref it/\Inv X aW σ H' s2/\Turn X.prog X.w X.K tg J fp it tn/\tn 0 s2.heap/\(∀b∈fp,FpOk X aW H' b)/\R J H'
def PI(X:Cx) (tg iter:Expr) (wi:TI):Prop :=
 ∀(aW:List (Addr×Obj)) (s:Shared) (σ:St) (H:Hp) (R:It->Hp->Prop),Inv X aW σ H s->wi σ H R ->
  wpAny (model X.prog X.w) X.A (eval iter X.env) (λv s1=>wpAny (model X.prog X.w) X.A (pyIter v) (PIE X aW σ tg R) X.xe s1) X.xe s
theorem zbmh{M:Model} {s:Shared} (ho:s.heap.get? it=some o)(hc:o.cls=.type n)(hd:o.data=.fields vs)
    (hn:["enumerate","zip","dict_itemiterator","dict_reverseitemiterator","odict_iterator","itertools.zip_longest","itertools.pairwise"].contains n=false)(hQ:Q () s):wpAny M A (letOwnedTupleGo tg (.ref it) u) Q E s:=by
  unfold letOwnedTupleGo;cases tg <;> first
    | exact xbd hQ
    | (cases u <;> first
        | exact xbd hQ
        | (refine xba (wpAny_load ho ?_)
           rw[hc,hd];show wpAny M A (if(["enumerate","zip","dict_itemiterator","dict_reverseitemiterator","odict_iterator","itertools.zip_longest","itertools.pairwise"].contains n&&vs[0]?==some (rawInt _))=true then _ else _) Q E s
           rw[if_neg (by intro h; rw[hn,xmx] at h; cases h)]
           exact xbd hQ))
def Itl(K:Fg) (a:Addr):It :=
 ⟨λi H=>∃xs x,SqL K H a xs/\xs[i]?=some x,λi H x H'=>H'=H/\∀xs,SqL K H a xs->xs[i]?=some x,λi H=>∃xs,SqL K H a xs/\xs.length<=i⟩
def Itt(K:Fg) (a:Addr):It :=
 ⟨λi H=>∃xs x,SqT K H a xs/\xs[i]?=some x,λi H x H'=>H'=H/\∀xs,SqT K H a xs->xs[i]?=some x,λi H=>∃xs,SqT K H a xs/\xs.length<=i⟩
noncomputable def Itr(lo:Int) (n:Nat):It:=⟨λi _=>i<n,λi H x H'=>H'=H/\x=.int (lo+i),λi _=>n<=i⟩
theorem zwr{P:Program}{w:World}{K:Fg}{tg:Expr}(a it:Addr):Turn P w K tg (Itl K a) [it] it (λi h=>h.IsListIter it a i) where
 mem:=by simp
 obj:=λi h au b hb=>by
  have e:b=it:=by simpa using hb
  subst e;obtain⟨o,e,c,d⟩:=au;exact⟨o,e,λv z=>by rw[d] at z;cases z⟩
 keep:=λi h h' au k=>au.at λo e=>k it (by simp) o e
 item:=by
  intro X hP hw hK hc i aW s σ H E I hf au hg;subst hP hw hK;obtain⟨xs,x,hq,hx⟩:=hg;obtain⟨its,rv,p,hz⟩:=I.list hq;obtain⟨u,hu,ru⟩:=rv.get hx;obtain⟨f0,f1,f2,f3,f4,f5⟩:=hf it (by simp);refine wpAny_pyNext_list_item au p.isList (x:=u) (by simpa using hu) λh' st' sb=>?_
  have I1:Inv X aW σ H {s with heap:=h'}:=I.turned (t':=s.toks) (λb o hb e=>(sb.2 b hb).trans e) f0 f1 f3 f4 f5;obtain⟨o,e,c,d⟩:=id st';exact⟨u,rfl,zbmh (s:={s with heap:=h'}) e c d (by decide) ⟨x,H,I1,ru,⟨rfl,λys hy=>by rw[I.list_inj hy hq];exact hx⟩,st',λb hb=>(hf b hb).1⟩⟩
 done:=by
  intro X hP hw hK hc i aW s σ H E I hf au hg;subst hP hw hK;obtain⟨xs,hq,hx⟩:=hg;obtain⟨its,rv,p,hz⟩:=I.list hq;obtain⟨f0,f1,f2,f3,f4,f5⟩:=hf it (by simp);have hl:=rv.length;exact wpAny_pyNext_list_end (I.ok.hd hc) au p.isList (by simp;lia) λh' eb=>⟨rfl,I.turned (t':=s.toks) (λb o hb e=>eb b o hb e) f0 f1 f3 f4 f5⟩
 self:=λ_ _ _ _ _ au h=>wpAny_pyIter_listiter au h
theorem zsg{P:Program}{w:World}{K:Fg}{tg:Expr}(a it:Addr):Turn P w K tg (Itt K a) [it] it (λi h=>h.IsTupleIter it a i) where
 mem:=by simp
 obj:=λi h au b hb=>by
  have e:b=it:=by simpa using hb
  subst e;obtain⟨o,e,c,d⟩:=au;exact⟨o,e,λv z=>by rw[d] at z;cases z⟩
 keep:=λi h h' au k=>au.at λo e=>k it (by simp) o e
 item:=by
  intro X hP hw hK hc i aW s σ H E I hf au hg;subst hP hw hK;obtain⟨xs,x,hq,hx⟩:=hg;obtain⟨its,rv,p,hz⟩:=I.tuple hq;obtain⟨u,hu,ru⟩:=rv.get hx;obtain⟨f0,f1,f2,f3,f4,f5⟩:=hf it (by simp);refine wpAny_pyNext_tuple_item au (show s.heap.IsTuple a its.toArray from p) (x:=u) (by simpa using hu) λh' st' sb=>?_
  have I1:Inv X aW σ H {s with heap:=h'}:=I.turned (t':=s.toks) (λb o hb e=>(sb.2 b hb).trans e) f0 f1 f3 f4 f5;obtain⟨o,e,c,d⟩:=id st';exact⟨u,rfl,zbmh (s:={s with heap:=h'}) e c d (by decide) ⟨x,H,I1,ru,⟨rfl,λys hy=>by rw[I.tuple_inj hy hq];exact hx⟩,st',λb hb=>(hf b hb).1⟩⟩
 done:=by
  intro X hP hw hK hc i aW s σ H E I hf au hg;subst hP hw hK;obtain⟨xs,hq,hx⟩:=hg;obtain⟨its,rv,p,hz⟩:=I.tuple hq;obtain⟨f0,f1,f2,f3,f4,f5⟩:=hf it (by simp);have hl:=rv.length;exact wpAny_pyNext_tuple_end (I.ok.hd hc) au (show s.heap.IsTuple a its.toArray from p) (by simp;lia) λh' eb=>⟨rfl,I.turned (t':=s.toks) (λb o hb e=>eb b o hb e) f0 f1 f3 f4 f5⟩
 self:=λ_ _ _ _ _ au h=>wpAny_pyIter_tupleiter au h
theorem zsh{P:Program}{w:World}{K:Fg}{tg:Expr}(it:Addr)(lo:Int)(n:Nat):Turn P w K tg (Itr lo n) [it] it (λi h=>IsRangeIter h it (lo+(i:Nat) * 1) ((n:Int) - (i:Nat)) 1) where
 mem:=by simp
 obj:=λi h au b hb=>by
  have e:b=it:=by simpa using hb
  subst e
  exact⟨_,au,λv z=>by
   have z':Data.fields _=Data.cell v:=z
   cases z'⟩
 keep:=λi h h' au k=>k it (by simp) _ au
 item:=by
  intro X hP hw hK hc i aW s σ H E I hf au hg;subst hP hw hK;obtain⟨f0,f1,f2,f3,f4,f5⟩:=hf it (by simp);have W:=Walks.range (prog:=X.prog) (w:=X.w) (I.ok.hd hc) it lo 1 n;refine W.item i s _ _ hg au λv h' tk hv st' kk=>?_
  obtain⟨t,rfl⟩:=hv;have I1:Inv X aW σ H {s with heap:=h',toks:=tk}:=I.turned (λb o hb e=>kk b o (by simpa using hb) e) f0 f1 f3 f4 f5;refine⟨_,rfl,zbmh (s:={ s with heap:=h', toks:=tk }) (n:="range_iterator") st' rfl rfl (by decide) ⟨.int (lo + i),H,I1,⟨t,?_⟩,⟨rfl,rfl⟩,st', λb hb=>(hf b hb).1⟩⟩
  rw[Int.mul_one]
 done:=by
  intro X hP hw hK hc i aW s σ H E I hf au hg;subst hP hw hK;obtain⟨f0,f1,f2,f3,f4,f5⟩:=hf it (by simp);exact wpAny_pyNext_range_end (I.ok.hd hc) au (by have:n<=i:=hg;lia) λh' eb=>⟨rfl,I.turned (t':=s.toks) (λb o hb e=>eb b o hb e) f0 f1 f3 f4 f5⟩
 self:=λ_ _ _ _ _ au h=>wpAny_pyIter_rangeiter au h
def iList(K:Fg) (tl:TE):TI:=λσ H R=>tl σ H λx H1=>∃a,x=.ref a/\(∃xs,SqL K H1 a xs)/\R (Itl K a) H1
def iTup(K:Fg) (tl:TE):TI:=λσ H R=>tl σ H λx H1=>∃a,x=.ref a/\(∃xs,SqT K H1 a xs)/\R (Itt K a) H1
section
variable {X:Cx}{tg:Expr}
theorem zbhq{l:Expr}{tl:TE}(hl:PE X l tl):PI X tg l (iList X.K tl):=by
 intro aW s σ H R I h;refine thn (hl aW s σ H _ I h) λv s1 hq0=>?_
 obtain⟨x,H1,I1,r1,q1⟩:=hq0;obtain⟨a,e,⟨xs,hq⟩,q⟩:=q1;subst e;cases r1;obtain⟨its,rv,p,hz⟩:=I1.list hq;refine xkf p.isList ?_;refine⟨s1.heap.objs.size,[s1.heap.objs.size],_,_,H1,rfl,I1.kept (t':=s1.toks) λb o e=>xbg _ e,zwr a _,⟨_,xbw _ rfl,rfl,rfl⟩,λb hb=>?_,q⟩;have e:b=s1.heap.objs.size:=by simpa using hb
 subst e;exact I1.fpOk (xbf _) (I1.hok.fresh (xbf _))
theorem zbnk{l:Expr}{tl:TE}(hl:PE X l tl):PI X tg l (iTup X.K tl):=by
 intro aW s σ H R I h;refine thn (hl aW s σ H _ I h) λv s1 hq0=>?_
 obtain⟨x,H1,I1,r1,q1⟩:=hq0;obtain⟨a,e,⟨xs,hq⟩,q⟩:=q1;subst e;cases r1;obtain⟨its,rv,p,hz⟩:=I1.tuple hq;refine xlq (show s1.heap.IsTuple a its.toArray from p) ?_;refine⟨s1.heap.objs.size,[s1.heap.objs.size],_,_,H1,rfl,I1.kept (t':=s1.toks) λb o e=>xbg _ e,zsg a _,⟨_,xbw _ rfl,rfl,rfl⟩,λb hb=>?_,q⟩;have e:b=s1.heap.objs.size:=by simpa using hb
 subst e;exact I1.fpOk (xbf _) (I1.hok.fresh (xbf _))
end
theorem zsz{s:Shared} {lo hi:Int} {tk:Nat}(I:Inv X aW σ H s)(h1:-(2 ^ 62)<=lo)(h2:lo<2 ^ 62)(h3:-(2 ^ 62)<=hi)(h4:hi<2 ^ 62)
  (q:R (Itr lo (hi - lo).toNat) H):wpAny (model X.prog X.w) X.A (pyIter (.ref s.heap.objs.size)) (PIE X aW σ tg R) E { s with heap:=s.heap.push { cls:=.type "range", data:=.fields #[.int lo t,.int hi u,.int 1 v] },toks:=tk }:=by
 refine wpAny_pyIter_range (IsRange.new ..) (small_one h1 h2 h3 h4) ?_;have I1:Inv X aW σ H { s with heap:=s.heap.push { cls:=.type "range", data:=.fields #[.int lo t,.int hi u,.int 1 v] },toks:=tk }:=I.kept λb o e=>xbg _ e
 refine⟨(s.heap.push { cls:=.type "range", data:=.fields #[.int lo t,.int hi u,.int 1 v] }).objs.size,[(s.heap.push { cls:=.type "range", data:=.fields #[.int lo t,.int hi u,.int 1 v] }).objs.size],_,_,H,rfl,
  I1.kept (t':=tk) λb o e=>xbg _ e,zsh _ lo (hi - lo).toNat,?_,λb hb=>?_,q⟩
 ·have e1:lo+((0:Nat):Int) * 1=lo:=by simp
  have e2:(((hi - lo).toNat:Nat):Int) - ((0:Nat):Int)=Builtin.Range.rangeSize lo hi 1:=by rw[rangeSize_one];split<;>lia
  show IsRangeIter _ _ (lo+((0:Nat):Int) * 1) ((((hi - lo).toNat:Nat):Int) - ((0:Nat):Int)) 1;rw[e1,e2];exact xbw _ rfl
 ·have e:b=(s.heap.push { cls:=.type "range", data:=.fields #[.int lo t,.int hi u,.int 1 v] }).objs.size:=by simpa using hb
  subst e;exact I1.fpOk (xbf _) (I1.hok.fresh (xbf _))
def iRng1(ta:TA):TI:=λσ H R=>ta σ H λvs H1=>∃j:Int,vs=[.int j]/\-(2 ^ 62)<=j/\j<2 ^ 62/\R (Itr 0 j.toNat) H1
def iRng2(ta:TA):TI:=λσ H R=>ta σ H λvs H1=>∃i j:Int,vs=[.int i,.int j]/\(-(2 ^ 62)<=i/\i<2 ^ 62/\-(2 ^ 62)<=j/\j<2 ^ 62)/\R (Itr i (j - i).toNat) H1
section
variable {X:Cx}{tg:Expr}
theorem zxm{a:Expr}{ta:TA}{p pos:Pos}(hg:Gl X "range")(hm:X.mg "range"=none)(ha:PA X [a] ta)(hs:starEach [a] X.env=[(false,eval a X.env)]:=by rfl):PI X tg (.Call (.Name "range" p) [a] [] pos) (iRng1 ta):=by
 intro aW s σ H R I h;refine Call_ (zrl I hg hm boot_range (xgy (thn (ha pos aW s σ H _ I h) λus s1 hq0=>?_) hs rfl));obtain⟨vs,H1,I1,r1,q1⟩:=hq0;obtain⟨j,e,q1,q2,q⟩:=q1;subst e;cases r1 with
 | cons r rr =>
  cases rr;obtain⟨t,rfl⟩:=r;exact call_range_1 (zsz I1 (by lia) (by lia) q1 q2 (by simpa using q))
theorem zxl{a b:Expr}{ta:TA}{p pos:Pos}(hg:Gl X "range")(hm:X.mg "range"=none)(ha:PA X [a,b] ta)(hs:starEach [a,b] X.env=[(false,eval a X.env),(false,eval b X.env)]:=by rfl)(hs2:starEach [b] X.env=[(false,eval b X.env)]:=by rfl) :
  PI X tg (.Call (.Name "range" p) [a,b] [] pos) (iRng2 ta):=by
 intro aW s σ H R I h;refine Call_ (zrl I hg hm boot_range (xgy (thn (ha pos aW s σ H _ I h) λus s1 ⟨vs,H1,I1,r1,q1⟩=>?_) (by rw[hs,hs2]) (by rw[hs2];rfl)));obtain⟨i,j,e,⟨q1,q2,q3,q4⟩,q⟩:=q1;subst e;cases r1 with
 | cons r rr =>
  cases rr with
  | cons r' rr =>
   cases rr;obtain⟨t,rfl⟩:=r;obtain⟨t',rfl⟩:=r';exact call_range_2 (zsz I1 q1 q2 q3 q4 q)
end
def tFor(wi:TI) (g:TG) (tb:TS):TS:=λD σ H=>wi σ H λJ H1=>∃W:Nat->Nat->St->Hp->Prop,(∃m,W 0 m σ H1)/\∀i m σ H,W i m σ H ->
 (J.stop i H/\D.nx σ H)\/(J.go i H/\∃N:St->Hp->Prop,(∀σ' H',N σ' H'->∃m',m'<m/\W (i+1) m' σ' H')/\∀x H',J.yld i H x H'->g x σ H' λσ2 H2=>tb {D with nx:=N,ct:=N,bk:=D.nx} σ2 H2)
noncomputable def pinsAt(fp:List Addr) (h:Heap):List (Addr×Obj):=fp.filterMap λb=>(h.get? b).map λo=>(b,o)
theorem zfl{h:Heap} (hb:b∈fp)(e:h.get? b=some o):(b,o)∈pinsAt fp h:=List.mem_filterMap.mpr ⟨b,hb,by rw[e];rfl⟩
theorem zxs(hp:p∈pinsAt fp h):p.1∈fp/\h.get? p.1=some p.2:=by
 obtain⟨b,hb,e⟩:=List.mem_filterMap.mp hp;cases q:h.get? b with
 | none=>rw[q] at e;cases e
 | some o =>
  rw[q] at e;have e':(b,o)=p:=xch e;subst e';exact⟨hb,q⟩
theorem Inv.pinned(I:Inv X aW σ H s)(hf:∀b∈fp,FpOk X aW H b)(ho:∀b∈fp,∃o,s.heap.get? b=some o/\∀v,o.data≠.cell v):Inv X (aW++pinsAt fp s.heap) σ H s :=
 I.pins_of λp hp=>(xbz.mp hp).elim (λz=>I.pin p (xdk _ z)) λz=>by
  obtain⟨hb,e⟩:=zxs z;obtain⟨f0,f1,f2,_⟩:=hf p.1 hb;obtain⟨o,e',d⟩:=ho p.1 hb;rw[e] at e';cases e'
  exact⟨e,f0,f1,f2,d⟩
theorem Inv.unpinned(I:Inv X (aW++pl) σ H s):Inv X aW σ H s:=I.pins_of λp hp=>I.pin p (xdk _ (xex _ hp))
section
variable {X:Cx}{tg:Expr}
theorem zbnh{iter:Expr}{body:List Stmt}{wi:TI}{g:TG}{tb:TS}{pos:Pos}(hp:PassesOwn (model X.prog X.w) X.A X.env X.xe)(hc:X.calm=true)(hi:PI X tg iter wi)(hg:PG X tg g)(hb:PSs X body tb)
  (hs:∀x,foldedSetIterable iter X.env x=pure x:=by intro _;rfl):PS X (.For tg iter body [] pos) (tFor wi g tb):=by
 intro aW s σ H D I h;refine wpAny_For (thn (hi aW s σ H _ I h) λv s1 h1=>thn h1 λitv s2 h2=>?_) hs;obtain⟨it,fp,tn,J,H2,e,I2,T,st2,f2,W,⟨m0,w0⟩,turn⟩:=h2;subst e;have stat:∀{H':Hp},(∀b∈fp,H' b=none)->∀b∈fp,FpOk X aW H' b:=λhn b hb=>⟨hn b hb,(f2 b hb).2⟩
 refine codeAny_forLoop_any (λn s'=>∃i σ' H',Inv X aW σ' H' s'/\tn i s'.heap/\(∀b∈fp,H' b=none)/\W i n σ' H') ?_ m0 ⟨0,σ,H2,I2,st2,λb hb=>(f2 b hb).1,w0⟩;rintro n s3 ⟨i,σ3,H3,I3,st3,fr3,w3⟩;rcases turn i n σ3 H3 w3 with⟨stop,qn⟩|⟨go,N,hN,step⟩
 ·refine xhi hp (thn (T.done X rfl rfl rfl hc i aW s3 σ3 H3 X.xe I3 (stat fr3) st3 stop) λr s4 hq0=>?_);obtain⟨hr,I4⟩:=hq0;subst hr;exact xjj ⟨σ3,H3,I4,qn⟩
 ·refine xhi hp (thn (T.item X rfl rfl rfl hc i aW s3 σ3 H3 X.xe I3 (stat fr3) st3 go) λr s4 hq0=>?_);obtain⟨u,hr,h4⟩:=hq0;subst hr;refine xhi hp (thn h4 λ_ s5 hq0=>?_);obtain⟨x,H5,I5,r5,y5,st5,fr5⟩:=hq0;have I5':=I5.pinned (stat fr5) (T.obj _ _ st5);refine xhi hp (thn (hg _ s5 σ3 H5 x u _ I5' r5 (step x H5 y5)) λ_ s6 hq0=>?_);obtain⟨σ6,H6,I6,q6⟩:=hq0;refine xhi hp (thn (hb _ s6 σ6 H6 _ I6 q6) λf s7 q7=>?_);have again:∀{σ7:St} {H7:Hp},Inv X (aW++pinsAt fp s5.heap) σ7 H7 s7->N σ7 H7->∃m,m<n/\∃i σ' H',Inv X aW σ' H' s7/\tn i s7.heap/\(∀b∈fp,H' b=none)/\W i m σ' H':=λ{σ7 H7} I7 n7=>by
   obtain⟨m',hm,w7⟩:=hN σ7 H7 n7;refine⟨m',hm,i+1,σ7,H7,I7.unpinned,T.keep _ _ _ st5 λb hb o e=>(I7.pin (b,o) (xdk _ (xdk _ (zfl hb e)))).1,λb hb=>?_,w7⟩;obtain⟨o,e,d⟩:=T.obj _ _ st5 b hb;exact(I7.pin (b,o) (xdk _ (xdk _ (zfl hb e)))).2.1
  cases f with
  | next=>obtain⟨σ7,H7,I7,n7⟩:=q7;exact again I7 n7
  | cont=>obtain⟨σ7,H7,I7,n7⟩:=q7;exact again I7 n7
  | brk=>obtain⟨σ7,H7,I7,q7⟩:=q7;exact⟨σ7,H7,I7.unpinned,q7⟩
  | ret v=>obtain⟨x7,σ7,H7,I7,r7,q7⟩:=q7;exact⟨x7,σ7,H7,I7.unpinned,r7,q7⟩
end
abbrev R2:=V->V->Hp->VK->Prop
def OpR(X:Cx) (f:Value->Value->Sem Value) (r:R2):Prop :=
 ∀(aW:List (Addr×Obj)) (s:Shared) (σ:St) (H:Hp) (x y:V) (v u:Value) (Q:VK),Inv X aW σ H s->RelV x v->RelV y u->r x y H Q ->
  wpAny (model X.prog X.w) X.A (f v u) (EP X aW σ Q) X.xe s
def CallR(X:Cx) (f:Value) (r:List V->Hp->VK->Prop):Prop :=
 ∀(aW:List (Addr×Obj)) (s:Shared) (σ:St) (H:Hp) (xs:List V) (us:List Value) (Q:VK),Inv X aW σ H s->Vals xs us->r xs H Q ->
  wpAny (model X.prog X.w) X.A (call f us) (EP X aW σ Q) X.xe s
def TruR(X:Cx) (r:V->Hp->(Bool->Hp->Prop)->Prop):Prop :=
 ∀(aW:List (Addr×Obj)) (s:Shared) (σ:St) (H:Hp) (x:V) (v:Value) (Q:Bool->Hp->Prop),Inv X aW σ H s->RelV x v->r x H Q ->
  wpAny (model X.prog X.w) X.A (truthy v) (TP X aW σ Q) X.xe s
def tOp(r:R2) (ta tb:TE):TE:=λσ H Q=>ta σ H λx H1=>tb σ H1 λy H2=>r x y H2 Q
def rI(C:Int->Int->Prop) (g:Int->Int->V):R2:=λx y H Q=>∃i j,x=.int i/\y=.int j/\C i j/\Q (g i j) H
def rI0(g:Int->Int->V):R2:=λx y H Q=>∃i j,x=.int i/\y=.int j/\Q (g i j) H
section
variable {X:Cx}{a:Expr}{b:Expr}{ta:TE}{tb:TE}
theorem binT(ha:PE X a ta)(hb:PE X b tb){aW:List (Addr×Obj)}{s:Shared}{σ:St}{H:Hp}{R:V->V->Hp->Prop}(I:Inv X aW σ H s)
  (h:ta σ H λx H1=>tb σ H1 λy H2=>R x y H2){Q:Value->Shared->Prop}{f:Value->Value->Sem Value}
  (hf:∀v u s2 x y H2,Inv X aW σ H2 s2->RelV x v->RelV y u->R x y H2->wpAny (model X.prog X.w) X.A (f v u) Q X.xe s2) :
  wpAny (model X.prog X.w) X.A (eval a X.env) (λv s₁=>wpAny (model X.prog X.w) X.A (eval b X.env) (λu s₂=>wpAny (model X.prog X.w) X.A (f v u) Q X.xe s₂) X.xe s₁) X.xe s:=by
 refine thn (ha aW s σ H _ I h) λv s1 hq0=>?_
 obtain⟨x,H1,I1,r1,q1⟩:=hq0;refine thn (hb aW s1 σ H1 _ I1 q1) λu s2 hq0=>?_
 obtain⟨y,H2,I2,r2,q2⟩:=hq0;exact hf v u s2 x y H2 I2 r1 r2 q2
end
section
variable {X:Cx}{a:Expr}{b:Expr}{ta:TE}{tb:TE}{pos:Pos}
theorem zbsn{op:Operator}{r:R2}(ho:OpR X (binaryOp op) r)(ha:PE X a ta)(hb:PE X b tb):PE X (.BinOp a op b pos) (tOp r ta tb):=by
 intro aW s σ H Q I h;exact wpAny_BinOp (binT ha hb I h λv u s2 x y H2 I2 rx ry q=>ho aW s2 σ H2 x y v u Q I2 rx ry q)
end
section
variable {X:Cx}
theorem opI{f:Value->Value->Sem Value}{C:Int->Int->Prop}{g:Int->Int->Int}
  (rule:∀(i j:Int) (t u:Tok) (s:Shared) (Q:Value->Shared->Prop) (E:Value->Shared->Prop),C i j->Q (.int (g i j) s.toks) {s with toks:=s.toks+1}->wpAny (model X.prog X.w) X.A (f (.int i t) (.int j u)) Q E s) :
  OpR X f (rI C λi j=>.int (g i j)):=by
 intro aW s σ H x y v u Q I rx ry h;obtain⟨i,j,rfl,rfl,hc,q⟩:=h;obtain⟨t,rfl⟩:=rx;obtain⟨t',rfl⟩:=ry;exact rule i j t t' s _ _ hc ⟨.int (g i j),H,I.tok _,⟨_,rfl⟩,q⟩
theorem opI0{f:Value->Value->Sem Value}{g:Int->Int->Int}
  (rule:∀(i j:Int) (t u:Tok) (s:Shared) (Q:Value->Shared->Prop) (E:Value->Shared->Prop),Q (.int (g i j) s.toks) {s with toks:=s.toks+1}->wpAny (model X.prog X.w) X.A (f (.int i t) (.int j u)) Q E s) :
  OpR X f (rI0 λi j=>.int (g i j)):=by
 intro aW s σ H x y v u Q I rx ry h;obtain⟨i,j,rfl,rfl,q⟩:=h;obtain⟨t,rfl⟩:=rx;obtain⟨t',rfl⟩:=ry;exact rule i j t t' s _ _ ⟨.int (g i j),H,I.tok _,⟨_,rfl⟩,q⟩
theorem opB0{f:Value->Value->Sem Value}{g:Int->Int->Bool}
  (rule:∀(i j:Int) (t u:Tok) (s:Shared) (Q:Value->Shared->Prop) (E:Value->Shared->Prop),Q (.bool (g i j)) s->wpAny (model X.prog X.w) X.A (f (.int i t) (.int j u)) Q E s) :
  OpR X f (rI0 λi j=>.bl (g i j)):=by
 intro aW s σ H x y v u Q I rx ry h;obtain⟨i,j,rfl,rfl,q⟩:=h;obtain⟨t,rfl⟩:=rx;obtain⟨t',rfl⟩:=ry;exact rule i j t t' s _ _ ⟨.bl (g i j),H,I,rfl,q⟩
end
noncomputable def CPow(i j:Int):Prop:=0<=j/\j<=1000000/\i.natAbs<2 ^ 64
noncomputable def CMul(i j:Int):Prop:=(-(2 ^ 64)<i/\i<2 ^ 64)\/(-(2 ^ 64)<j/\j<2 ^ 64)
theorem CMul.ok(h:CMul i j):IntMulOk i j:=by
 rcases h with⟨h1,h2⟩|⟨h1,h2⟩
 ·exact .of_left (intBits_le_64 h1 h2)
 ·exact .of_right (intBits_le_64 h1 h2)
theorem zbob:OpR X (binaryOp .Add) (rI0 λi j=>.int (i+j)):=opI0 λ_ _ _ _ _ _ _ q=>add_int q
theorem zbda:OpR X (binaryOp .Sub) (rI0 λi j=>.int (i - j)):=opI0 λ_ _ _ _ _ _ _ q=>sub_int q
section
variable {X:Cx}
theorem zln:OpR X (binaryOp .Mult) (rI CMul λi j=>.int (i * j)):=opI λ_ _ _ _ _ _ _ hc q=>mul_int q hc.ok
end
theorem zrb:OpR X (binaryOp .Mod) (rI (λ_ j=>0<j) λi j=>.int (i % j)):=opI λi j _ _ _ _ _ hc q=>by
 have h1:(0:Int)<j:=hc;exact mod_int' (by lia) (by rw[Int.fmod_eq_emod_of_nonneg i (by lia)];exact q)
section
variable {X:Cx}
theorem zbig:OpR X (binaryOp .Pow) (rI CPow λi j=>.int (i ^ j.toNat)):=opI λ_ _ _ _ _ _ _ hc q=>pow_int_small hc.1 hc.2.1 hc.2.2 q
theorem zbif:OpR X (binaryOp .LShift) (rI CPow λi j=>.int (i * 2 ^ j.toNat)):=opI λ_ _ _ _ _ _ _ hc q=>lshift_int_small hc.1 hc.2.1 hc.2.2 q
end
theorem zboa:OpR X (binaryOp .BitAnd) (rI0 λi j=>.int (Builtin.bitAnd i j)):=opI0 λ_ _ _ _ _ _ _ q=>and_int q
theorem zbrs:OpR X (binaryOp .BitOr) (rI0 λi j=>.int (Builtin.bitOr i j)):=opI0 λ_ _ _ _ _ _ _ q=>or_int q
theorem zbie:OpR X (binaryOp .BitXor) (rI0 λi j=>.int (Builtin.bitXor i j)):=opI0 λ_ _ _ _ _ _ _ q=>xor_int q
theorem zbsr:OpR X (compareOp .Lt) (rI0 λi j=>.bl (decide (i<j))):=opB0 λ_ _ _ _ _ _ _ q=>lt_int q
theorem zwf:OpR X (compareOp .LtE) (rI0 λi j=>.bl (decide (i<=j))):=opB0 λ_ _ _ _ _ _ _ q=>le_int q
theorem zbrt:OpR X (compareOp .Gt) (rI0 λi j=>.bl (decide (j<i))):=opB0 λ_ _ _ _ _ _ _ q=>gt_int q
theorem zbss:OpR X (compareOp .GtE) (rI0 λi j=>.bl (decide (j<=i))):=opB0 λ_ _ _ _ _ _ _ q=>ge_int q
theorem OpR.or(h:OpR X f r)(h':OpR X f r'):OpR X f (λx y H Q=>r x y H Q\/r' x y H Q):=by
 intro aW s σ H x y v u Q I rx ry q;rcases q with q|q
 ·exact h aW s σ H x y v u Q I rx ry q
 ·exact h' aW s σ H x y v u Q I rx ry q
theorem nomark(b:Expr) (h:op≠.In:=by decide)(h2:op≠.NotIn:=by decide):behindInMarks op b=false:=by
 have e1:(op==CmpOp.In)=false:=by cases op<;>first|rfl|exact absurd rfl h
 have e2:(op==CmpOp.NotIn)=false:=by cases op<;>first|rfl|exact absurd rfl h2
 cases b<;>simp[behindInMarks,e1,e2]
theorem zbhx(ho:OpR X (compareOp op) r)(ha:PE X a ta)(hb:PE X b tb)(hm:behindInMarks op b=false):PE X (.Compare a [op] [b] pos) (tOp r ta tb):=by
 intro aW s σ H Q I h;exact wpAny_Compare1 (binT ha hb I h λv u s2 x y H2 I2 rx ry q=>ho aW s2 σ H2 x y v u Q I2 rx ry q) hm
def tTest(t:TE):TT:=λσ H Q=>t σ H λx H'=>∃k,x=.bl k/\Q k H'
section
variable {X:Cx}{a:Expr}{b:Expr}{c:Expr}{ta:TE}{tb:TE}{pos:Pos}
theorem zbhd{op:CmpOp}{r:R2}(ho:OpR X (compareOp op) r)(ha:PE X a ta)(hb:PE X b tb)(hm:behindInMarks op b=false):PT X (.Compare a [op] [b] pos) (tTest (tOp r ta tb)):=by
 intro aW s σ H Q I h
 refine wpAny_isTrue_Compare1 (thn (ha aW s σ H _ I h) λv s1 ⟨x,H1,I1,r1,q1⟩=>thn (hb aW s1 σ H1 _ I1 q1) λu s2 ⟨y,H2,I2,r2,q2⟩ =>
  thn (ho aW s2 σ H2 x y v u _ I2 r1 r2 q2) λc s3 ⟨z,H3,I3,r3,k,e,q3⟩=>?_) hm
 subst e;cases r3;exact xhl ⟨H3,I3,q3⟩
end
def TruV(K:Fg) (x:V) (H:Hp) (k:Bool):Prop :=
 match x with
 | .non=>k=false
 | .bl b=>k=b
 | .int i=>k=(i != 0)
 | .str y=>y.length<=sizeLine/\k=((y.length:Int) != 0)
 | .byt y=>y.size<=sizeLine/\k=((y.size:Int) != 0)
 | .ref p=>(∃xs,SqL K H p xs/\k=!xs.isEmpty)\/(∃xs,SqT K H p xs/\k=!xs.isEmpty)\/∃kvs,H p=some (.dK kvs)/\k=!kvs.isEmpty
 | _=>False
theorem zun{κ:Type}{kvs:List (κ×V)}{vs:List (κ×Value)}(r:KV kvs vs):(!vs.isEmpty)=!kvs.isEmpty:=by
 cases r<;>rfl
theorem zlu(r:Vals xs its):(!its.toArray.isEmpty)=!xs.isEmpty:=by
 cases r<;>simp
theorem line63:(sizeLine:Nat)<2 ^ 63:=by rw[xgg];decide
section
variable {X:Cx}{b:Expr}
theorem zbmm:TruR X (λx H Q=>∃k,TruV X.K x H k/\Q k H):=by
 intro aW s σ H x v Q I rx h;obtain⟨k,e,q⟩:=h;have hl:=line63;have hs:sizeLine=16777216:=xgg;cases x with
 | non =>
  cases rx;have e':k=false:=e;subst e';exact truthy_none ⟨H,I,q⟩
 | bl b =>
  cases rx;have e':k=b:=e;subst e';exact xhl ⟨H,I,q⟩
 | int i =>
  obtain⟨t,rfl⟩:=rx;have e':k=(i != 0):=e;subst e';exact PySem.P.truthy_int ⟨H,I,q⟩
 | str y =>
  obtain⟨t,rfl⟩:=rx;obtain⟨hy,e'⟩:y.length<=sizeLine/\k=((y.length:Int) != 0):=e;subst e';exact PySem.P.truthy_str (by lia) ⟨H,I.tok _,q⟩
 | byt y =>
  obtain⟨t,rfl⟩:=rx;obtain⟨hy,e'⟩:y.size<=sizeLine/\k=((y.size:Int) != 0):=e;subst e';exact W.truthy_bytes (by lia) ⟨H,I.tok _,q⟩
 | ref p =>
  cases rx;have e':(∃xs,SqL X.K H p xs/\k=!xs.isEmpty)\/(∃xs,SqT X.K H p xs/\k=!xs.isEmpty)\/∃kvs,H p=some (.dK kvs)/\k=!kvs.isEmpty:=e
  rcases e' with⟨xs,hx,e'⟩|⟨xs,hx,e'⟩|⟨kvs,hx,e'⟩
  ·subst e';obtain⟨its,r,pl,hz⟩:=I.list hx;have hlen:=r.length;exact wpAny_truthy_list pl.isList (by simp only[xbs];lia) ⟨H,I.tok _,by rw[zlu r];exact q⟩
  ·subst e';obtain⟨its,r,pl,hz⟩:=I.tuple hx;have hlen:=r.length;exact truthy_tuple pl (by simp only[xbs];lia) ⟨H,I.tok _,by rw[zlu r];exact q⟩
  ·subst e';obtain⟨hz,hS,vs,r,m⟩:kvs.length<=sizeLine/\(p==sysModules)=false/\∃vs,KV kvs vs/\s.heap.DictOf (mixKind X.prog X.w) p vs:=I.hok p _ hx
   have hlen:kvs.length=vs.length:=xhx r;exact wpAny_truthy_dict hS m (by lia) ⟨H,I.tok _,by rw[zun r];exact q⟩
 | _=>exact(show False from e).elim
end
section
variable {X:Cx}{a:Expr}{ta:TE}
theorem zbci(ha:PE X a ta)(he:∀whole,isTrue a X.env whole=(do let v ← whole;standAt a.pos;holding [v] (truthy v))) :
  PT X a (λσ H Q=>ta σ H λx H'=>∃k,TruV X.K x H' k/\Q k H'):=by
 intro aW s σ H Q I h;exact isTrue_plain (thn (ha aW s σ H _ I h) λv s1 ⟨x,H1,I1,r1,q1⟩=>zbmm aW s1 σ H1 x v Q I1 r1 q1) (he _)
end
theorem ztm:OpR X (binaryOp .Add) (λx y H Q=>∃i j,x=.str i/\y=.str j/\i.length+j.length<=sizeLine/\Q (.str (i++j)) H):=by
 intro aW s σ H x y v u Q I rx ry h;obtain⟨i,j,rfl,rfl,hz,q⟩:=h;obtain⟨t,rfl⟩:=rx;obtain⟨t',rfl⟩:=ry;exact add_str (λt' tk=>⟨.str (i++j),H,I.tok _,⟨_,rfl⟩,q⟩) hz
theorem vals1(r:Vals [x] us):∃u,us=[u]/\RelV x u:=by
 cases r with
 | cons r1 r2=>cases r2;exact⟨_,rfl,r1⟩
theorem vals2(r:Vals [x,y] us):∃u w',us=[u,w']/\RelV x u/\RelV y w':=by
 cases r with
 | cons r1 r2 =>
  cases r2 with
  | cons r3 r4=>cases r4;exact⟨_,_,rfl,r1,r3⟩
theorem zbfg:CallR X (.builtin "abs") (λxs H Q=>∃ i,xs=[.int i]/\Q (.int (if i<0 then -i else i)) H):=by
 intro aW s σ H xs us Q I r h;obtain⟨i,rfl,q⟩:=h;obtain⟨u,rfl,t,rfl⟩:=vals1 r;exact call_abs_int λu tk=>⟨.int (if i<0 then -i else i),H,I.tok _,⟨_,rfl⟩,q⟩
theorem zqh{X:Cx}(hc:X.calm=true):CallR X (.builtin "min") (λxs H Q=>∃ i j,xs=[.int i,.int j]/\Q (.int (if j<i then j else i)) H):=by
 intro aW s σ H xs us Q I r h;obtain⟨i,j,rfl,q⟩:=h;obtain⟨u,w',rfl,⟨t,rfl⟩,⟨t',rfl⟩⟩:=vals2 r;refine min_two_ints (I.ok.hd hc) λh' tk k=>⟨_,H,I.kept k,?_,q⟩
 by_cases hj:j<i
 ·rw[if_pos hj,if_pos hj];exact⟨_,rfl⟩
 ·rw[if_neg hj,if_neg hj];exact⟨_,rfl⟩
theorem zqi:CallR X (.type "int") (λxs H Q=>(∃ i,xs=[.int i]/\Q (.int i) H)\/∃ k,xs=[.bl k]/\Q (.int (if k then 1 else 0)) H):=by
 intro aW s σ H xs us Q I r h;rcases h with⟨i,rfl,q⟩|⟨k,rfl,q⟩
 ·obtain⟨u,rfl,t,rfl⟩:=vals1 r;exact call_int_int ⟨.int i,H,I,⟨_,rfl⟩,q⟩
 ·obtain⟨u,rfl,r1⟩:=vals1 r;cases r1;exact call_int_bool ⟨.int (if k then 1 else 0),H,I.tok _,⟨_,rfl⟩,q⟩
structure ObjM (h:Heap) (x dx C:Addr) (mA:Str->Option Value):Prop where
 obj:h.get? x=some (W.instObj C dx)
 ns:h.Ns1 dx mA
 ne:dx≠x
theorem zyc{h:Heap} (n:h.Ns1 dx mA):∃od,h.get? dx=some od/\∀name,W.lookIn name od=some (mA name):=by
 obtain⟨o,es,ep,ho,hd,hk,_,hm⟩:=n;refine⟨o,ho,λname=>?_⟩;have e:=hm name;unfold nsFind findBy at e;rw[← Array.find?_toList] at e;unfold W.lookIn;rw[hd];dsimp only;split
 ·rename_i y q;rw[q] at e;exact congrArg some e
 ·rename_i q;rw[q] at e;have a:es.toList.any (·.refKey)=false:=by
   rw[List.any_eq_false];intro y hy;obtain⟨z,t,hkey⟩:=hk y (xkv.mp hy);simp[DictEntry.refKey,hkey]
  have a':¬ es.toList.any (·.refKey)=true:=by rw[a];exact xfi
  rw[if_neg a'];exact congrArg some e
theorem ObjM.look(I:ObjM h x dx C mA):∃od,W.InstAt h x (W.instObj C dx) C (some od)/\∀name,W.lookIn name od=some (mA name) :=
 let ⟨od,ho,hl⟩:=zyc I.ns
 ⟨od,⟨I.obj,rfl,rfl,ho⟩,hl⟩
theorem RelO.some_of(r:RelO (some v) o):∃u,o=some u/\RelV v u:=by
 cases o with
 | none=>exact(show False from r).elim
 | some u=>exact⟨u,rfl,r⟩
theorem zbjk(hok:HOk P w H h)(e:H a=some (.ins C dx fs)):∃mA,ObjM h a dx C mA/\(∀f,RelO (fs.lookup f) (mA f))/\PySem.Within mA (fs.map (·.1))/\fs.length<=1000/\H dx=some (.own a):=by
 obtain⟨d,z,ne,ob,mA,n,r,q⟩:=(show ObjOk P w H h a (.ins C dx fs) from hok a _ e)
 exact⟨mA,⟨ob,n,ne⟩,r,q,z,d⟩
structure Cls (K:Fg) (C:Addr):Prop where
 pg:W.plainGet K C Str.empty=true
 hd:W.hasDictIn K C=true
 po:W.plainOver K C=true
 sa:W.findIn K (.ref C) "__setattr__"=some (some (.builtin "object.__setattr__"))
theorem Cls.get{K:Fg}{C:Addr}(c:Cls K C)(f:Str):W.plainGet K C f=true:=c.pg
inductive TyOf (K:Fg) (H:Hp):V->Value->Prop where
 | non:TyOf K H .non (.type "NoneType")
 | bl (x:Bool):TyOf K H (.bl x) (.type "bool")
 | int (i:Int):TyOf K H (.int i) (.type "int")
 | str (x:Str):TyOf K H (.str x) (.type "str")
 | flt (x:UInt64):TyOf K H (.flt x) (.type "float")
 | lst {a:Addr} {xs:List V} (e:H a=some (.lst xs)):TyOf K H (.ref a) (.type "list")
 | frz {a:Addr} {o:Obj} {xs:List V} (e:H a=some (.frz o (.lst xs))):TyOf K H (.ref a) (.type "list")
 | tup {a:Addr} {xs:List V} (e:H a=some (.tup xs)):TyOf K H (.ref a) (.type "tuple")
 | dK {a:Addr} {kvs:List (Key×V)} (e:H a=some (.dK kvs)):TyOf K H (.ref a) (.type "dict")
 | dT {a:Addr} {kvs:List (List Key×V)} (e:H a=some (.dT kvs)):TyOf K H (.ref a) (.type "dict")
 | ins {a C dx:Addr} {fs:List (Str×V)} (e:H a=some (.ins C dx fs)) (cl:Cls K C) (ha:W.findIn K (.ref C) "__class__"=some (some (.builtin "object.__class__")))
  (hn:W.specialIn K (.builtin "object.__class__") "__get__"=some (some (.builtin "getset_descriptor.__get__")))(htk:W.takesIn K (.builtin "object.__class__")=some true)
  (hm:W.mroIn K C (.type "object")=some true):TyOf K H (.ref a) (.ref C)
theorem zyo(I:Inv X aW σ H s)(rx:RelV x u)(ty:TyOf X.K H x t)(e:W.kitOne X.K t c=some b)(h:∀tk,Q (.bool b) {s with toks:=tk}) :
  wpAny (model X.prog X.w) A (call (.builtin "isinstance") [u,c]) Q E s:=by
 cases ty with
 | non=>cases(show u=Value.none from rx);exact xei W.kitx_none I.kIn True.intro e (λz=>nomatch z) h
 | bl y=>cases(show u=Value.bool y from rx);exact xei W.kitx_bool I.kIn True.intro e (λz=>nomatch z) h
 | int i=>obtain⟨t,q⟩:=(show ∃t,u=Value.int i t from rx);cases q;exact xei W.kitx_int I.kIn True.intro e (λz=>nomatch z) h
 | str y=>obtain⟨t,q⟩:=(show ∃t,u=Value.str y t from rx);cases q;exact xei W.kitx_str I.kIn True.intro e (λz=>nomatch z) h
 | flt y=>obtain⟨t,q⟩:=(show ∃t,u=Value.float y t from rx);cases q;exact xei W.kitx_float I.kIn True.intro e (λz=>nomatch z) h
 | @lst a xs ea =>
  cases(show u=Value.ref a from rx);obtain⟨_,_,n,_,h1⟩:=(show ObjOk X.prog X.w H s.heap a (.lst xs) from I.hok a _ ea)
  exact xei W.kitx_list I.kIn ⟨_,h1,rfl⟩ e (λz=>nomatch z) h
 | @frz a ob xs ea =>
  cases(show u=Value.ref a from rx);obtain⟨_,_,_,n,_,h1⟩:=(show ObjOk X.prog X.w H s.heap a (.frz ob (.lst xs)) from I.hok a _ ea)
  exact xei W.kitx_list I.kIn ⟨_,h1,rfl⟩ e (λz=>nomatch z) h
 | @tup a xs ea =>
  cases(show u=Value.ref a from rx);obtain⟨_,_,_,p⟩:=(show ObjOk X.prog X.w H s.heap a (.tup xs) from I.hok a _ ea)
  obtain⟨o,h1,h2,_⟩:=p;exact xei W.kitx_tuple I.kIn ⟨o,h1,h2⟩ e (λz=>nomatch z) h
 | @dK a kvs ea =>
  cases(show u=Value.ref a from rx);obtain⟨_,_,vs,_,p⟩:=(show ObjOk X.prog X.w H s.heap a (.dK kvs) from I.hok a _ ea)
  obtain⟨o,es,ep,h1,h2,_⟩:=p;exact xei W.kitx_dict I.kIn ⟨o,h1,h2.1⟩ e (λz=>nomatch z) h
 | @dT a kvs ea =>
  cases(show u=Value.ref a from rx);obtain⟨_,_,xs,_,o,es,ep,h1,h2,_⟩:=(show ObjOk X.prog X.w H s.heap a (.dT kvs) from I.hok a _ ea)
  exact xei W.kitx_dict I.kIn ⟨o,h1,h2.1⟩ e (λz=>nomatch z) h
 | @ins a C dx fs ea cl ha hn htk hm =>
  cases(show u=Value.ref a from rx);obtain⟨mA,O,_⟩:=zbjk I.hok ea;obtain⟨od,J,_⟩:=O.look;exact xei (W.kitx_own (cl.get _) cl.hd ha hn htk hm) I.kIn J e (λz=>nomatch z) h
structure Room (k:Nat) (A:Around):Prop where
 hd:A.handled=none
 dp:A.depth+3 * k+5<recursionLimit
 un:A.units+16 * k+200<cLine
theorem Room.mono(r:Room k A)(h:j<=k):Room j A:=⟨r.hd,by have:=r.dp;lia,by have:=r.un;lia⟩
theorem Room.deeper(r:Room (k+1) A)(env:Env):Room k (A.deeper env) :=
 ⟨r.hd,by have:=r.dp;show A.depth+1+3 * k+5<_;lia,by have:=r.un;show A.units+3+16 * k+200<_;lia⟩
theorem Room.depth(r:Room k A):A.depth<recursionLimit:=by have:=r.dp;lia
theorem Room.units(r:Room k A):A.units+64<cLine:=by have:=r.un;lia
theorem Room.units0(r:Room k A):A.units<cLine:=by have:=r.un;lia
def tNil:TA:=λ_ H Q=>Q [] H
def tCons(ta:TE) (tr:TA):TA:=λσ H Q=>ta σ H λx H1=>tr σ H1 λxs H2=>Q (x::xs) H2
theorem znj:PA X [] tNil:=λ_ _ _ _ H Q I h=>xkb ⟨[],H,I,.nil,h⟩
theorem zfj(ha:PE X e te)(hr:PA X es t)(hs:starEach (e::es) X.env=(false,eval e X.env)::starEach es X.env:=by rfl):PA X (e::es) (tCons te t):=by
 intro pos aW s σ H Q I h;rw[hs];show wpAny _ _ (spliced ((false,eval e X.env)::backTo pos (starEach es X.env))) _ _ s;refine xia (thn (ha aW s σ H _ I h) λu s1 hq0=>?_);obtain⟨x,H1,I1,r1,q1⟩:=hq0;exact thn (hr pos aW s1 σ H1 _ I1 q1) λus s2 ⟨xs,H2,I2,r2,q2⟩=>⟨x::xs,H2,I2,.cons r1 r2,q2⟩
def tTup(t:TA):TE:=λσ H Q=>t σ H λxs H1=>xs.length<=sizeLine/\∀p,H1 p=none->Q (.ref p) (upd H1 p (.tup xs))
def tLst(t:TA):TE:=λσ H Q=>t σ H λxs H1=>xs.length<=sizeLine/\∀p,H1 p=none->Q (.ref p) (upd H1 p (.lst xs))
theorem zbhv{x1}(h:PA X es t):PE X (.Tuple es x1 pos) (tTup t):=by
 intro aW s σ H Q I hq;refine wpAny_Tuple_spliced (thn (h pos aW s σ H _ I hq) λus s1 ⟨xs,H1,I1,r,z,q⟩=>⟨by rw[← r.length];exact z,?_⟩);have hf:H1 s1.heap.objs.size=none:=I1.hok.fresh (xbf _);refine⟨.ref s1.heap.objs.size,upd H1 s1.heap.objs.size (.tup xs),I1.laid (t':=s1.toks) (λb u e=>xbg _ e) (xbf _) ?_,rfl,q _ hf⟩;exact⟨z,us,r,⟨_,xbw _ rfl,rfl,_,rfl⟩⟩
theorem zbhw(h:PA X es t):PE X (.List es pos) (tLst t):=by
 intro aW s σ H Q I hq;refine wpAny_List_spliced (thn (h pos aW s σ H _ I hq) λus s1 ⟨xs,H1,I1,r,z,q⟩=>⟨by rw[← r.length];exact z,?_⟩);have hf:H1 s1.heap.objs.size=none:=I1.hok.fresh (xbf _);refine⟨.ref s1.heap.objs.size,upd H1 s1.heap.objs.size (.lst xs),I1.laid (t':=s1.toks) (λb u e=>xbg _ e) (xbf _) ?_,rfl,q _ hf⟩;exact⟨z,us,0,r,xbw _ rfl⟩
abbrev Sp:=List V->Hp->VK->XK->Prop
abbrev CXT:=List Env->Hp->Shared->XK->Value->Shared->Prop
structure Env0 (P:Program) (w:World) (K:Fg) (mg:Str->Option Value) (base:Heap) (A:Around) (outer:List Env) (s:Shared) (H:Hp):Prop where
 frames:A.frames=some outer
 mod:Mod K mg base
 bs:∀b o,base.get? b=some o->s.heap.get? b=some o/\H b=none
 bsz:base.objs.size<=s.heap.objs.size
 funs:s.heap.FunFrames base outer
 frf:∀b∈frs outer,H b=none
 hok:HOk P w H s.heap
 bare:AllBare s.gens
def CE(outer:List Env) (P:Program) (w:World) (H:Hp) (s:Shared) (Q:VK) (u:Value) (s':Shared):Prop :=
 ∃v H',s'.os=s.os/\AllBare s'.gens/\Un (frs outer) [] H H' s.heap s'.heap/\HOk P w H' s'.heap/\RelV v u/\Q v H'
def CR(CX:CXT) (outer:List Env) (P:Program) (w:World) (H:Hp) (s:Shared) (Q:VK) (E:XK) (r:Result) (s':Shared):Prop :=
 match r with
 | .ok (.ret u)=>CE outer P w H s Q u s'
 | .ok _=>False
 | .error e=>CX outer H s E e s'
structure FnOk (P:Program) (w:World) (K:Fg) (mg:Str->Option Value) (base:Heap) (CX:CXT) (k:Nat) (f:Addr) (fd:FuncData) (ps:List Str) (sp:Sp):Prop where
 len:∀vs H Q E,sp vs H Q E->vs.length=ps.length
 run:∀(A:Around) (outer:List Env) (s:Shared) (H:Hp) (args:Args) (us:List Value) (vs:List V) (Q:VK) (E:XK),Room k A->Env0 P w K mg base A outer s H->BindsTo s fd args (ps.zip us)->Vals vs us->sp vs H Q E ->
  codeAny (model P w) A (.call (.ref f) args) (CR CX outer P w H s Q E) s
theorem Inv.env0(I:Inv X aW σ H s):Env0 X.prog X.w X.K X.mg X.base X.A X.stack s H :=
 ⟨I.ok.frames,I.ok.mod,I.bs,xbb I.ok.bsz I.sz,I.stack,I.stkFree,I.hok,I.bare⟩
theorem Inv.after(I:Inv X aW σ H s)(h:CE X.stack X.prog X.w H s Q u s'):EP X aW σ Q u s':=by
 obtain⟨v,H',os,bare,un,hok,r,q⟩:=h;obtain⟨hh,g,d,t,os'⟩:=s';obtain rfl:os'=s.os:=os;exact⟨v,H',I.call (h':=hh) (g':=g) (d':=d) (t':=t) (ch:=[]) un hok bare (λb z=>absurd z (by simp)),r,q⟩
def tCall(sp:Sp) (dvs:List V) (E:XK) (t:TA):TE:=λσ H Q=>t σ H λvs H1=>sp (vs++dvs) H1 Q E
noncomputable def Binds(K:Fg) (fd:FuncData) (ps:List Str) (ds:List Value):Prop :=
 ∀(s:Shared) (us:List Value),K.In s.heap->(us++ds).length=ps.length->BindsTo s fd ⟨us,[]⟩ (ps.zip (us++ds))
theorem Binds.all{K:Fg} {ps:List Str}(h:∀us:List Value,us.length=ps.length->bindArgs fd ⟨us,[]⟩=pure (ps.zip us)):Binds K fd ps []:=λs us _ hl=>by
 rw[xct] at hl ⊢;exact .of_eq (h us hl)
def Passes(CX:CXT) (X:Cx) (E:XK):Prop:=∀(aW:List (Addr×Obj)) (σ:St) (H:Hp) (s:Shared) (e:Value) (s':Shared),Inv X aW σ H s->CX X.stack H s E e s'->X.xe e s'
theorem zbna{X:Cx} (F:FnOk X.prog X.w X.K X.mg X.base CX k f fd ps sp)(hr:Room k X.A)(hb:Binds X.K fd ps ds)(hd:Vals dvs ds)(hx:Passes CX X E)
  (I:Inv X aW σ H s)(r:Vals vs us)(h:sp (vs++dvs) H Q E):wpAny (model X.prog X.w) X.A (call (.ref f) us) (EP X aW σ Q) X.xe s:=by
 have r2:Vals (vs++dvs) (us++ds):=r.append hd;have hl:(us++ds).length=ps.length:=by rw[← r2.length];exact F.len _ _ _ _ h
 refine xiz (xha (F.run X.A X.stack s H ⟨us,[]⟩ (us++ds) (vs++dvs) Q E hr I.env0 (hb s us I.kIn hl) r2 h) λr s' hq=>?_);cases r with
 | error e=>exact hx aW σ H s e s' I hq
 | ok fl =>
  cases fl with
  | ret u=>exact I.after hq
  | next=>exact False.elim hq
  | brk=>exact False.elim hq
  | cont=>exact False.elim hq
theorem zbhy{X:Cx}(F:FnOk X.prog X.w X.K X.mg X.base CX k f fd ps sp)(hr:Room k X.A)(hg:Gl X x)(hm:X.mg x=some (.ref f))(hk:W.keepIn X.K (.ref f)=true)(hb:Binds X.K fd ps ds)(hd:Vals dvs ds)(hx:Passes CX X E)
  (ha:PA X (e::es) t)(hdb:(x==("__debug__" : Str))=false:=by decide)(he:starEach (e::es) X.env=(false,eval e X.env)::starEach es X.env:=by rfl)(hpl:(backTo pos (starEach es X.env)).any (·.1)=false:=by rfl) :
  PE X (.Call (.Name x p) (e::es) [] pos) (tCall sp dvs E t):=by
 intro aW s σ H Q I h;refine xfm (zjf I hg hm ?_ hdb);refine xjl (h₀:=X.base) I.ok.mod.kin hk (thn (ha pos aW s σ H _ I h) λus s1 ⟨vs,H1,I1,r,q⟩=>⟨I1.kIn,?_⟩) he hpl;exact zbna F hr hb hd hx I1 r q
structure FnScope (N P:List Str) (sc:Scope):Prop where
 kind:sc.kind=.function
 co:sc.isCoroutine=false
 gen:sc.isGenerator=false
 nd:N.Nodup
 pre:N.take P.length=P
 par:∀x∈P,sc.names.lookup x=some .local\/sc.names.lookup x=some .cell
 nofree:∀y∈sc.names,y.2≠.free
theorem zqk{kindOf:Str->Option NameKind} :∀{binds:List (Str×Value)} {m:Str->Option Value},(∀v,(x,v)∉binds)->bindL kindOf binds m x=m x
 | [],_,_=>rfl
 | (n,v)::r,m,h=>by
  unfold bindL;rw[zqk λw hw=>h w (xbo _ hw)];split
  ·have:x≠n:=by rintro rfl;exact h v xbp
   simp[this]
  ·rfl
theorem zqm{kindOf:Str->Option NameKind} :∀{binds:List (Str×Value)} {m:Str->Option Value},(∀v,(x,v)∉binds)->bindC kindOf binds m x=m x
 | [],_,_=>rfl
 | (n,v)::r,m,h=>by
  unfold bindC;rw[zqm λw hw=>h w (xbo _ hw)];split
  ·rfl
  ·have:x≠n:=by rintro rfl;exact h v xbp
   simp[this]
theorem zql{kindOf:Str->Option NameKind} :∀{P:List Str} {vs:List Value} {i:Nat} {m:Str->Option Value},P.Nodup->P[i]?=some x->vs[i]?=some v->kindOf x=some .local ->
  bindL kindOf (P.zip vs) m x=some v
 | [],_,_,_,_,h,_,_=>by simp at h
 | _::_,[],_,_,_,_,h,_=>by simp at h
 | p::P,w::vs,0,m,nd,h1,h2,hk=>by
  simp at h1 h2;subst h1;subst h2
  show bindL kindOf ((p,w)::P.zip vs) m p=_;unfold bindL;rw[zqk λv hv=>(xfg.mp nd).1 (xkw hv).1,if_pos hk];simp
 | p::P,w::vs,i+1,m,nd,h1,h2,hk=>by
  show bindL kindOf ((p,w)::P.zip vs) m x=_;unfold bindL;exact zql (i:=i) (xfg.mp nd).2 (by simpa using h1) (by simpa using h2) hk
theorem zqn{kindOf:Str->Option NameKind} :∀{P:List Str} {vs:List Value} {i:Nat} {m:Str->Option Value},P.Nodup->P[i]?=some x->vs[i]?=some v->kindOf x≠some .local ->
  bindC kindOf (P.zip vs) m x=some v
 | [],_,_,_,_,h,_,_=>by simp at h
 | _::_,[],_,_,_,_,h,_=>by simp at h
 | p::P,w::vs,0,m,nd,h1,h2,hk=>by
  simp at h1 h2;subst h1;subst h2
  show bindC kindOf ((p,w)::P.zip vs) m p=_;unfold bindC;rw[zqm λv hv=>(xfg.mp nd).1 (xkw hv).1,if_neg hk];simp
 | p::P,w::vs,i+1,m,nd,h1,h2,hk=>by
  show bindC kindOf ((p,w)::P.zip vs) m x=_;unfold bindC;exact zqn (i:=i) (xfg.mp nd).2 (by simpa using h1) (by simpa using h2) hk
def start(N:List Str) (vs:List V):St:=vs.map some++List.replicate (N.length - vs.length) none
def cxOf(CX:CXT) (P:Program) (w:World) (K:Fg) (mg:Str->Option Value) (base:Heap) (N:List Str) (qual:Str) (scope:Scope) (f:Addr) (cd:Value) (A:Around) (outer:List Env) (s:Shared) (H:Hp) (E:XK):Cx where
 prog:=P
 w:=w
 K:=K
 mg:=mg
 base:=base
 A:=A.deeper (envOfC qual scope s.heap.objs.size f cd)
 N:=N
 s₀:=s
 H₀:=H
 env:=envOfC qual scope s.heap.objs.size f cd
 outer:=outer
 stack:=envOfC qual scope s.heap.objs.size f cd::outer
 ex:=[]
 calm:=true
 fn:=λ_=>true
 pn:=[]
 xe:=λe s'=>wpAny (model P w) (A.deeper (envOfC qual scope s.heap.objs.size f cd)) (leaving (envOfC qual scope s.heap.objs.size f cd) e) (λ_ s''=>CX outer H s E e s'') (λe' s''=>CX outer H s E e' s'') s'
theorem zvm{sc:Scope} (h:sc.names.lookup x=some .cell):∃c,(cellsFrom n sc.names []).lookup x=some c:=by
 have q:=xkh sc.names n [] (.inl h);exact xho.mp q
theorem zpr{K:Fg} {N:List Str} {A:Around} {vs:List V}
  (S:FnScope N ps scope)(hd:A.handled=none)(e0:Env0 P w K mg base A outer s H)(hl:vs.length=ps.length)(r:Vals vs us)
  (x:InCallC s s.heap.objs.size (bindL (envOfC qual scope s.heap.objs.size f cd).kindOf (ps.zip us) λ_=>none) (cellsFrom (s.heap.objs.size+1) scope.names []) (bindC (envOfC qual scope s.heap.objs.size f cd).kindOf (ps.zip us) λ_=>none) s1) :
  Inv (cxOf CX P w K mg base N qual scope f cd A outer s H E) [] (start N vs) H s1:=by
 have hpl:ps.length<=N.length:=by have:=congrArg List.length S.pre;rw[xdh] at this;lia
 obtain⟨h1,tk,rfl,hk⟩:=x.done;have noA:∀b:Addr,b∉(cxOf CX P w K mg base N qual scope f cd A outer s H E).ex:=λb z=>absurd (show b∈([]:List Addr) from z) (by simp)
 refine⟨⟨e0.mod,S.kind,rfl,rfl,xbf _,λy z c h1 h2=>?_,λy hy=>?_,λy c _ h=>?_,λ_=>hd,Around.frames_deeper e0.frames,.inr ⟨rfl,rfl⟩,λb z=>absurd z (noA b),e0.bs,e0.bsz,λb _ _=>noA b,λb z=>absurd z (noA b),e0.funs,e0.frf⟩,
  rfl,e0.bare,Un.kept hk,⟨_,x.toInCall.ns,λi y v h1 h2 h3=>?_⟩,λy c h=>⟨_,x.cell y c h⟩,e0.hok.fresh (xbf _),λy c h=>?_,λp hp=>absurd (show p∈([]:List (Addr×Obj)) from hp) (by simp),e0.hok.kept hk,?_,Hnd.none hd⟩
 ·exact name_of_addr x.apart (xed h1) (xed h2)
 ·have hy:scope.names.lookup y=some .cell\/scope.names.lookup y=some .free:=hy;rcases hy with hy|hy
  ·exact zvm hy
  ·exact absurd rfl (S.nofree _ (xed hy))
 ·exact xbu (x.above y c (xed h))
 ·have hi:i<vs.length:=by
   unfold start at h2;by_cases hi:i<vs.length
   ·exact hi
   ·rw[xcm (by simpa using hi)] at h2;rw[List.getElem?_replicate] at h2;split at h2<;>cases h2
  have ha:vs[i]?=some v:=by
   unfold start at h2;rw[xbt (by simpa using hi),xcn] at h2;cases e:vs[i]? with
   | none=>rw[e] at h2;cases h2
   | some a=>rw[e] at h2;cases h2;rfl
  obtain⟨u,hu,rv⟩:=r.get ha;have hp:ps[i]?=some y:=by
   rw[← S.pre,List.getElem?_take_of_lt (by lia)];exact h1
  have ndP:ps.Nodup:=by rw[← S.pre];exact S.nd.sublist (xkc _ _)
  refine⟨u,rv,?_⟩;rcases S.par y (xcg hp) with k|k
  ·exact .inl ⟨k,zql ndP hp hu k⟩
  ·obtain⟨c,e⟩:=zvm (n:=s.heap.objs.size+1) k;refine .inr ⟨.inl k,c,e,?_⟩;have q:=x.cell y c e;rw[zqn ndP hp hu (by show scope.names.lookup y≠_;rw[k];decide)] at q;exact q
 ·exact e0.hok.fresh (xbu (x.above y c (xed h)))
 ·unfold start;show _=N.length;rw[xbl,xbc,xhc];lia
theorem zbpb{K:Fg} {kV:Value}
     {N:List Str} (lk:K.lookup f=some ⟨oc,od,.func (W.fnOf name qual params body scope dV kV doc pm an cdv ct),osl⟩)(hcd:W.codeIn K cdv qual=true)(S:FnScope N ps scope)
    (len:∀ vs H Q E,sp vs H Q E->vs.length=ps.length)
    (hbody:∀(A:Around) (outer:List Env) (s:Shared) (H:Hp) (vs:List V) (Q:VK) (E:XK),Room k (A.deeper (envOfC qual scope s.heap.objs.size f cdv))->sp vs H Q E ->
      ∃ t,PSs (cxOf CX P w K mg base N qual scope f cdv A outer s H E) body t/\t { nx:=λ_ H'=>Q .non H', rt:=Q } (start N vs) H) :
    FnOk P w K mg base CX (k + 1) f (W.fnOf name qual params body scope dV kV doc pm an cdv ct) ps sp:=by
  refine⟨len,λA outer s H args us vs Q E hr e0 hb r hsp=>?_⟩;have hl:=len _ _ _ _ hsp;have KX:K.In s.heap:=e0.mod.kin.keeps λb o e=>(e0.bs b o e).1
  have lim:s.heap.NoLimit:=e0.mod.nolimit.keeps λb o e=>(e0.bs b o e).1
  have hkind:∀ y∈ps.zip us,scope.names.lookup y.1=some .local\/(scope.names.lookup y.1=some .cell/\((cellsFrom (s.heap.objs.size + 1) scope.names []).lookup y.1).isSome=true):=λhq0 hy=>by
    obtain⟨n,v⟩:=hq0;rcases S.par n (xkw hy).1 with q|q
    · exact .inl q
    · exact .inr ⟨q,xkh _ _ _ (.inl q)⟩
  refine codeAny_call_function hr.depth (KX _ _ lk) rfl S.co S.gen rfl (W.codeRec_of KX hcd) (hb _ _ _ _ ?_);refine wpAny_newFunctionEnv_cells S.kind hkind λenv he s1 x=>?_
  subst he;refine⟨lim.keeps x.toInCall.keep,codeAny_func ?_⟩;obtain⟨t,ht,hq⟩:=hbody A outer s H vs Q E (hr.deeper _) hsp;have I:Inv (cxOf CX P w K mg base N qual scope f cdv A outer s H E) [] (start N vs) H s1:=zpr S hr.hd e0 hl r x;refine xdw (ht [] s1 (start N vs) H _ I hq) (λfl s' hs=>?_) λe s' hs=>hs
  have fin:∀{σ':St} {H':Hp} {v:V} {u:Value},Inv (cxOf CX P w K mg base N qual scope f cdv A outer s H E) [] σ' H' s'->RelV v u->Q v H'->CE outer P w H s Q u s' :=
    λ{σ' H' v u} J rv q=>⟨v,H', J.os,J.bare,J.base,J.hok,rv,q⟩
  cases fl with
  | ret u =>
    obtain⟨v,σ', H', J,rv,q⟩:=hs;exact fin J rv q
  | next =>
    obtain⟨σ', H', J,q⟩:=hs;exact fin (v:=V.non) (u:=Value.none) J rfl q
  | brk =>
    obtain⟨_,_,_,q⟩:=hs;exact False.elim q
  | cont =>
    obtain⟨_,_,_,q⟩:=hs;exact False.elim q
def tCB(r:List V->Hp->VK->Prop) (t:TA):TE:=λσ H Q=>t σ H λvs H1=>r vs H1 Q
theorem zhh{id:String}(hc:CallR X (.builtin id) r)(hg:Gl X x)(hm:X.mg x=none)(hv:bootBuiltins x=some (.builtin id))(ha:PA X (e::es) t)(hn:x≠"__name__":=by decide)(hdb:(x==("__debug__" : Str))=false:=by decide)
  (he:starEach (e::es) X.env=(false,eval e X.env)::starEach es X.env:=by rfl)(hpl:(backTo pos (starEach es X.env)).any (·.1)=false:=by rfl):PE X (.Call (.Name x p) (e::es) [] pos) (tCB r t):=by
 intro aW s σ H Q I h;refine xfm (zrl I hg hm hv ?_ hn hdb);exact PyProof.Rows.callWith_builtin1 (thn (ha pos aW s σ H _ I h) λus s1 ⟨vs,H1,I1,r1,q1⟩=>hc aW s1 σ H1 vs us Q I1 r1 q1) he hpl
theorem zph{T:String}(hc:CallR X (.type T) r)(hg:Gl X x)(hm:X.mg x=none)(hv:bootBuiltins x=some (.type T))(ha:PA X (e::es) t)(hn:x≠"__name__":=by decide)(hdb:(x==("__debug__" : Str))=false:=by decide)
  (he:starEach (e::es) X.env=(false,eval e X.env)::starEach es X.env:=by rfl)(hpl:(backTo pos (starEach es X.env)).any (·.1)=false:=by rfl):PE X (.Call (.Name x p) (e::es) [] pos) (tCB r t):=by
 intro aW s σ H Q I h;refine xfm (zrl I hg hm hv ?_ hn hdb);exact xgy (thn (ha pos aW s σ H _ I h) λus s1 ⟨vs,H1,I1,r1,q1⟩=>hc aW s1 σ H1 vs us Q I1 r1 q1) he hpl
end L2
namespace HT
open PySem PyProof.Rows
noncomputable def lexLt:List Int->List Int->Bool
 | [],[]=>false
 | [],_::_=>true
 | _::_,[]=>false
 | x::xs,y::ys=>if x=y then lexLt xs ys else decide (x<y)
theorem zcu(x y:Int)(xs ys:List Int):lexLt (x::xs) (y::ys)=if x=y then lexLt xs ys else decide (x<y):=rfl
theorem zdz:lexLt [] []=false:=rfl
theorem zcc(y:Int)(ys:List Int):lexLt [] (y::ys)=true:=rfl
theorem zdi(x:Int)(xs:List Int):lexLt (x::xs) []=false:=rfl
theorem zbec(A:Around)(s:Shared)(a:Int)(t:Tok)(c:Int)(u:Tok):∃e,SeqAt.EqAt A s (.int a t) (.int c u) e/\(e=true↔a=c) :=
 ⟨(a==c),SeqAt.EqAt.int_int a t c u,by simp⟩
theorem zbcd(A:Around)(s:Shared)(a:Int)(t:Tok)(c:Int)(u:Tok)(prog:Program)(w:World)(E:Value->Shared->Prop)(Q:Value->Shared->Prop)(h:Q (.bool (decide (a<c))) s) :
  wpAny (model prog w) A (richCompare .Lt (.int a t) (.int c u)) Q E s :=
 (PyProof.Rows.lt_int h:wpAny (model prog w) A (compareOp .Lt (.int a t) (.int c u)) Q E s)
section
open PySem.SeqAt
open PySem.AutoSeq1 (wpAny_loadPart')
open PySem.MeetsSeq PySem.MeetsSeq2 PySem.MeetsSeq3
theorem zgi(l b:Addr)(items items2:Array Value)(n n2:Nat)(dd dd2:Option Addr)(sl sl2:Array (Option Value))(ns ms:List Int)(hi:IntsAre items.toList ns)(hj:IntsAre items2.toList ms) :
  Meets (Builtin.«tuple.__lt__» ⟨[.ref l,.ref b],[]⟩)
   (λ_ R s=>s.heap.get? l=some { cls:=.type "tuple", dict:=dd,data:=.seq items n,slots:=sl }/\s.heap.get? b=some { cls:=.type "tuple", dict:=dd2,data:=.seq items2 n2,slots:=sl2 } /\
    R (.ok (.ret (.bool (lexLt ns ms)))) s) :=
 .of_wp λprog w A R s h=>by
  obtain⟨hp,g,d,tk,os⟩:=s;obtain⟨hl,hb,h⟩:=h
  have f2:=AutoSeq1.sub_tuple_tuple;have z1:items.size=ns.length:=by rw[← hi.length];simp
  have z2:items2.size=ms.length:=by rw[← hj.length];simp
  wp_walk using wpAny_loadPart' hl,wpAny_loadPart' hb,wpAny_forIn_list _ (λrest b s'=>b.1=none/\s'=⟨hp,g,d,tk,os⟩/\∃(vs ws:List Value) (ns' ms':List Int),rest=vs.zip ws /\
   IntsAre vs ns'/\IntsAre ws ms'/\ns'.length+items2.size=ms'.length+items.size/\R (.ok (.ret (.bool (lexLt ns' ms')))) ⟨hp,g,d,tk,os⟩) _
  case turn =>
   rintro⟨y,x⟩ rest b s' ⟨hb',rfl,vs,ws,ns',ms',hz,hvi,hwi,hlen,hR⟩;cases hvi with
   | nil=>rw[List.zip_nil_left] at hz;cases hz
   | cons a t hvi' =>
    cases hwi with
    | nil=>rw[List.zip_nil_right] at hz;cases hz
    | cons c u hwi' =>
     rw[List.zip_cons_cons] at hz;injection hz with hyx hrest
     injection hyx with hy hx
     subst hy hx;rw[zcu] at hR;simp only[xbx] at hlen;obtain⟨e,he,hiff⟩:=zbec A.in1 ⟨hp,g,d,tk,os⟩ a t c u;refine xba (he prog w _ _ ?_);cases e with
     | true =>
      rw[if_pos (hiff.mp rfl)] at hR
      wp_walk
      exact⟨rfl,rfl,_,_,_,_,hrest,hvi',hwi',by lia,hR⟩
     | false =>
      rw[if_neg (λq=>absurd (hiff.mpr q) xfi)] at hR;have hri:=zbcd A.in1 ⟨hp,g,d,tk,os⟩ a t c u prog w
      wp_walk using hri
      exact⟨_,rfl,by simpa using hR⟩
  case fin =>
   rintro⟨b1,b2⟩ s' ⟨hb',rfl,vs,ws,ns',ms',hz,hvi,hwi,hlen,hR⟩;simp only at hb';subst hb';have hv:lexLt ns' ms'=decide (items.size<items2.size):=by
    cases hvi with
    | nil =>
     cases hwi with
     | nil =>
      simp only[xkx] at hlen;rw[zdz];exact(xcc (by lia)).symm
     | cons c u hw =>
      simp only[xkx,xbx] at hlen;rw[zcc];exact(xcs (by lia)).symm
    | cons a t hv =>
     cases hwi with
     | nil =>
      simp only[xkx,xbx] at hlen;rw[zdi];exact(xcc (by lia)).symm
     | cons c u hw =>
      rw[List.zip_cons_cons] at hz;cases hz
   rw[hv] at hR
   wp_walk
   exact⟨_,rfl,by simpa [Builtin.Tuple.tupleCompareSizes] using hR⟩
  case h =>
   exact⟨rfl,rfl,items.toList,items2.toList,ns,ms,rfl,hi,hj,by lia,h⟩
end
theorem zls{A:Around}{s:Shared} (hl:IsTup s.heap l items)(hb:IsTup s.heap b items2)(hi:IntsAre items.toList ns)(hj:IntsAre items2.toList ms)
  (hu:A.units<cLine)(h:Q (.bool (lexLt ns ms)) s):wpAny (model prog w) A (compareOp .Lt (.ref l) (.ref b)) Q E s:=by
 obtain⟨⟨cls,dd,data,sl⟩,ho,hc,n,hd⟩:=id hl;obtain⟨⟨cls2,dd2,data2,sl2⟩,ho2,hc2,n2,hd2⟩:=id hb;simp only at hc hd hc2 hd2;subst hc hd hc2 hd2;exact richCompare_meets_room (op:=.Lt) ⟨_,ho,rfl⟩ ⟨_,ho2,rfl⟩ xkr F.entry_tuple_lt (F.args_tuple_lt_2 _ _) (zgi l b items items2 n n2 dd dd2 sl sl2 ns ms hi hj)
  ⟨ho,ho2,show Value.bool (lexLt ns ms)≠Value.notImplemented/\Q (.bool (lexLt ns ms)) s from⟨(λx=>nomatch x),h⟩⟩ hu
theorem zblj{s:Shared} {vs ws:List Value} (ht:IsTup s.heap t vs.toArray)(hb:IsTup s.heap b ws.toArray)(hv:vs≠[])
  (h1:ws=[]->Q (.ref t) s)(h2:ws≠[]->Q (.ref s.heap.objs.size) { s with heap:=s.heap.push { cls:=.type "tuple", data:=.seq (vs++ws).toArray } })
  (hsz:vs.length+ws.length<=sizeLine):wpAny (model prog w) A (binaryOp .Add (.ref t) (.ref b)) Q E s:=by
 obtain⟨⟨cls,dd,data,sl⟩,ho,hc,n,hd⟩:=id ht;obtain⟨⟨cls2,dd2,data2,sl2⟩,ho2,hc2,n2,hd2⟩:=id hb;simp only at hc hd hc2 hd2;subst hc hd hc2 hd2;have e:vs.toArray++ws.toArray=(vs++ws).toArray:=by simp
 by_cases hw:ws=[]
 ·exact concat_meets ⟨_,ho,rfl⟩ ⟨_,ho2,rfl⟩ noFill_tuple_add seq_tuple_add xki xjv (xjm _ _)
   (tuple_addW1 t b vs.toArray ws.toArray n n2 dd dd2 sl sl2 (by simpa using hv) (by simp[hw])) ⟨ho,ho2,h1 hw⟩
 ·refine concat_meets ⟨_,ho,rfl⟩ ⟨_,ho2,rfl⟩ noFill_tuple_add seq_tuple_add xki xjv (xjm _ _)
   (tuple_addW2 t b vs.toArray ws.toArray n n2 dd dd2 sl sl2 (by simpa using hv) (by simpa using hw) (by rw[xbs,xbs];exact hsz)) ⟨ho,ho2,?_⟩
  rw[e];exact h2 hw
noncomputable def sIx(n d:Nat):Option Int->Nat
 | none=>d
 | some v=>if v<0 then(v+(n:Int)).toNat else min v.toNat n
theorem zsv(n d:Nat):sIx n d none=d:=rfl
theorem zzw(n d k:Nat):sIx n d (some (k:Int))=min k n:=by
 show(if(k:Int)<0 then((k:Int)+(n:Int)).toNat else min (k:Int).toNat n)=min k n;rw[if_neg (by lia),xgk]
theorem zbmy(n d:Nat)(hd:d<=n)(o:Option Int):sIx n d o<=n:=by
 cases o with
 | none=>exact hd
 | some v =>
  show(if v<0 then(v+(n:Int)).toNat else min v.toNat n)<=n;by_cases hv:v<0
  ·rw[if_pos hv];lia
  ·rw[if_neg hv];exact xgq _ _
theorem zbbf(v:Int)(n d:Nat):(if v<0 then max (v+(n:Int)) 0 else min v (n:Int))=((sIx n d (some v):Nat):Int):=by
 show(if v<0 then max (v+(n:Int)) 0 else min v (n:Int))=(((if v<0 then(v+(n:Int)).toNat else min v.toNat n):Nat):Int)
 by_cases hv:v<0
 ·simp only[if_pos hv];lia
 ·simp only[if_neg hv];lia
theorem zwc(lo hi:Option Int)(n:Nat):Builtin.Slice.sliceAdjust lo hi 1 (n:Int)=(((sIx n 0 lo:Nat):Int),((sIx n n hi:Nat):Int)):=by
 have h1:¬ ((1:Int)<0):=by lia
 unfold Builtin.Slice.sliceAdjust;simp only[h1,xen];refine Prod.ext ?_ ?_
 ·cases lo with
  | none=>rfl
  | some v=>exact zbbf v n 0
 ·cases hi with
  | none=>rfl
  | some v=>exact zbbf v n n
theorem zte(i j:Nat):Builtin.Slice.slicePlaces (i:Int) (j:Int) 1=j - i:=by
 unfold Builtin.Slice.slicePlaces;have h1:(1:Int) > 0:=by lia
 simp only[h1,xeq,Int.ediv_one];split<;>lia
theorem zlb(p:IsPart v o)(h:Q o s):wpAny (model prog w) A (Builtin.Slice.slicePartIndex v) Q E s:=by
 cases p with
 | none=>exact slicePart_none h
 | int i t=>exact slicePart_int h
theorem zdu{s:Shared} {lo hi:Option Int}{n:Nat} (hs:s.heap.IsSliceOf sl vl vu .none)(pl:IsPart vl lo)(pu:IsPart vu hi)
  (h:Q (((sIx n 0 lo:Nat):Int),1,sIx n n hi - sIx n 0 lo) s):wpAny (model prog w) A (Builtin.Slice.sliceApplied (.ref sl) (pure (n:Int))) Q E s:=by
 obtain⟨os,hos,hcs,hds⟩:=id hs;unfold Builtin.Slice.sliceApplied Builtin.Slice.sliceFields;refine xba (xba (xje hos hds (x:=vl) rfl (xba (xje hos hds (x:=vu) rfl (xba (xje hos hds (x:=.none) rfl (xbd ?_)))))));refine xba (slicePart_none ?_);show wpAny _ _ (if((1:Int)==0)=true then _ else _) _ _ s;rw[if_neg (by decide)];refine xba (zlb pl (xba (zlb pu (xba (xbd ?_)))));show wpAny _ _ (match Builtin.Slice.sliceAdjust lo hi 1 (n:Int) with|(lo,hi)=>pure (lo,(1:Int),Builtin.Slice.slicePlaces lo hi 1)) _ _ s;rw[zwc lo hi n];show wpAny _ _ (pure (((sIx n 0 lo:Nat):Int),(1:Int),Builtin.Slice.slicePlaces ((sIx n 0 lo:Nat):Int) ((sIx n n hi:Nat):Int) 1)) _ _ s;rw[zte];exact xbd h
theorem zbco(xs:Array Value)(i k:Nat):((List.range k).filterMap λ(m:Nat)=>xs[((i:Int)+(m:Int) * 1).toNat]?).toArray=((xs.toList.drop i).take k).toArray:=by
 have e:(λ(m:Nat)=>xs[((i:Int)+(m:Int) * 1).toNat]?)=λm=>xs[i+m]?:=by
  funext m
  have:((i:Int)+(m:Int) * 1).toNat=i+m:=by lia
  rw[this]
 rw[e];have:=pick_run xs i k;rw[List.filterMap_map] at this;have e2:((λx=>xs[x]?) ∘ λx=>i+x)=λm=>xs[i+m]?:=rfl
 rw[e2] at this;rw[this]
theorem zgt{s:Shared} {lo:Option Int} (ht:IsTup s.heap t items)(hs:s.heap.IsSliceOf sl vl vu .none)(pl:IsPart vl lo)(pu:IsPart vu hi)
  (hw:¬ (sIx items.size 0 lo=0/\sIx items.size items.size hi=items.size))
  (h:Q (.ref s.heap.objs.size) { s with heap:=s.heap.push { cls:=.type "tuple", data:=.seq ((items.toList.drop (sIx items.size 0 lo)).take (sIx items.size items.size hi - sIx items.size 0 lo)).toArray } })
  (hsz:items.size<=sizeLine):wpAny (model prog w) A (getItem (.ref t) (.ref sl)) Q E s:=by
 have htake:sizeOk (.seq ((items.toList.drop (sIx items.size 0 lo)).take (sIx items.size items.size hi - sIx items.size 0 lo)).toArray):=by
  show((items.toList.drop (sIx items.size 0 lo)).take (sIx items.size items.size hi - sIx items.size 0 lo)).toArray.size<=sizeLine;rw[xbs,xdh,xgr,xcb];lia
 have hj:sIx items.size items.size hi<=items.size:=zbmy _ _ (xbf _) hi;obtain⟨os,hos,hcs,hds⟩:=id hs;have hTs:s.TypeIs (.ref sl) "slice":=⟨os,hos,hcs⟩
 unfold getItem
 try with_reducible refine xdz ?_
 first|refine xba (xbd ?_)|skip
 refine xba (wpAny_sequenceKey ht.typeIs (by decide) ?_)
 refine xba (wpAny_callSpecial?_slot (name:=Str.ofString "__getitem__") ht.typeIs xhs
  (xeo xhs ht.typeIs entry_tuple_getitem ?_ (args_tuple_getitem _ _)))
 show wpAny _ _ (Builtin.Tuple.tupleItemsOf (.ref t) >>= _) _ _ s;refine xba (tupleItemsOf_ ht ?_);refine xba (wpAny_typeOf hTs ?_);rw[if_pos (by decide)];refine xba (zdu hs pl pu ?_);have hno:¬ ((((sIx items.size 0 lo:Nat):Int)==0&&(1:Int)==1&&(sIx items.size items.size hi - sIx items.size 0 lo)==items.size)=true):=by
  intro q;rw[xgs,xgs] at q;have q1:((sIx items.size 0 lo:Nat):Int)=0:=eq_of_beq q.1.1;have q2:sIx items.size items.size hi - sIx items.size 0 lo=items.size:=eq_of_beq q.2;exact hw ⟨by lia,by lia⟩
 show wpAny _ _ (if(((sIx items.size 0 lo:Nat):Int)==0&&(1:Int)==1&&(sIx items.size items.size hi - sIx items.size 0 lo)==items.size)=true then _ else _) _ _ s;rw[if_neg hno,zbco]
 first
  | exact xba (m:=Builtin.Tuple.tupleExact _) (xea (xbd ⟨_,rfl,xbd h⟩) htake)
  | exact xba (m:=Builtin.Tuple.tupleExact _) (xea (xba (xbd (xbd ⟨_,rfl,xbd h⟩))) htake)
  | exact xba (xba (m:=Builtin.Tuple.tupleExact _) (xea (xbd (xbd ⟨_,rfl,xbd h⟩)) htake))
  | exact xba (xba (m:=Builtin.Tuple.tupleExact _) (xea (xbd ⟨_,rfl,xbd h⟩) htake))
end HT
namespace L2
open PySem PySem.Spec PyProof.Rows
abbrev TO:=St->Hp->(Option Int->Hp->Prop)->Prop
def PO(X:Cx) (e:Option Expr) (t:TO):Prop :=
 ∀(aW:List (Addr×Obj)) (s:Shared) (σ:St) (H:Hp) (Q:Option Int->Hp->Prop),Inv X aW σ H s->t σ H Q ->
  wpAny (model X.prog X.w) X.A (evalPart e X.env) (λu s'=>∃o H',Inv X aW σ H' s'/\IsPart u o/\Q o H') X.xe s
def tNoPart:TO:=λ_ H Q=>Q none H
def tPart(t:TE):TO:=λσ H Q=>t σ H λx H1=>∃i,x=.int i/\Q (some i) H1
theorem zea{ns:List Int}:∀{us:List Value},Vals (ns.map V.int) us->IntsAre us ns:=by
 induction ns with
 | nil=>intro us r;rw[xmg] at r;cases r;exact .nil
 | cons n ns ih =>
  intro us r;rw[xca] at r;cases r with
  | cons r1 r2 =>
   obtain⟨t,e⟩:=r1;subst e;exact .cons n t (ih r2)
theorem zbhl:PO X none tNoPart:=by
 intro aW s σ H Q I h;rw[evalPart_none];exact xbd ⟨none,H,I,.none,h⟩
theorem zbhk(h:PE X e te):PO X (some e) (tPart te):=by
 intro aW s σ H Q I hw;rw[evalPart_some];refine thn (h aW s σ H _ I hw) λu s1 hq0=>?_
 obtain⟨x,H1,I1,r1,q1⟩:=hq0;obtain⟨i,rfl,q⟩:=q1;obtain⟨t,rfl⟩:=r1;exact⟨some i,H1,I1,.int i t,q⟩
def SlR(X:Cx) (r:V->Option Int->Option Int->Hp->VK->Prop):Prop :=
 ∀(aW:List (Addr×Obj)) (s:Shared) (σ:St) (H:Hp) (x:V) (v vl vu:Value) (lo hi:Option Int) (sl:Addr) (Q:VK),Inv X aW σ H s->RelV x v->s.heap.IsSliceOf sl vl vu .none->IsPart vl lo->IsPart vu hi->r x lo hi H Q ->
  ∃ T id,typeLookup (.type T) "__getitem__"=pure (some (.builtin id))/\s.TypeIs v T/\wpAny (model X.prog X.w) X.A (getItem v (.ref sl)) (EP X aW σ Q) X.xe s
section
variable {lo:Option Expr}
theorem SlR.or(h:SlR X r)(h':SlR X r'):SlR X (λx lo hi H Q=>r x lo hi H Q\/r' x lo hi H Q):=by
 intro aW s σ H x v vl vu lo hi sl Q I rx hs pl pu q;rcases q with q|q
 ·exact h aW s σ H x v vl vu lo hi sl Q I rx hs pl pu q
 ·exact h' aW s σ H x v vl vu lo hi sl Q I rx hs pl pu q
end
def tSl(r:V->Option Int->Option Int->Hp->VK->Prop) (te:TE) (tl th:TO):TE:=λσ H Q=>te σ H λx H1=>tl σ H1 λl H2=>th σ H2 λu H3=>r x l u H3 Q
theorem zbcr{lo:Option Expr} (hr:SlR X r)(he:PE X e te)(hl:PO X lo tl)(hu:PO X hi th):PE X (.Subscript e (.Slice lo hi none p2) pos) (tSl r te tl th):=by
 intro aW s σ H Q I h;refine Subscript_ (thn (he aW s σ H _ I h) λv s1 hq0=>?_);obtain⟨x,H1,I1,r1,q1⟩:=hq0;refine wpAny_Slice (thn (hl aW s1 σ H1 _ I1 q1) λvl s2 ⟨l,H2,I2,pl,q2⟩=>thn (hu aW s2 σ H2 _ I2 q2) λvu s3 hq0=>?_);obtain⟨u,H3,I3,pu,q3⟩:=hq0;rw[evalPart_none];refine xbd ?_;have I4:Inv X aW σ H3 { s3 with heap:=s3.heap.push { cls:=.type "slice", data:=.fields #[vl,vu,.none] } }:=I3.kept (t':=s3.toks) λb ob q=>xbg _ q
 obtain⟨T,id,hT,ht,hg⟩:=hr aW { s3 with heap:=s3.heap.push { cls:=.type "slice", data:=.fields #[vl,vu,.none] } } σ H3 x v vl vu l u s3.heap.objs.size Q I4 r1 (Heap.IsSliceOf.new ..) pl pu q3
 show wpAny (model X.prog X.w) X.A (subscriptTail e (.Slice lo hi none p2) v (.ref s3.heap.objs.size)) (EP X aW σ Q) X.xe { s3 with heap:=s3.heap.push { cls:=.type "slice", data:=.fields #[vl,vu,.none] } }
 exact tail_any (ops:=[.ref s3.heap.objs.size,v]) ht hT hg (by with_unfolding_all rfl)
def cutV(xs:List V) (lo hi:Option Int):List V:=(xs.drop (HT.sIx xs.length 0 lo)).take (HT.sIx xs.length xs.length hi - HT.sIx xs.length 0 lo)
theorem zjj(xs:List V)(lo hi:Option Int):(cutV xs lo hi).length<=xs.length:=by
 unfold cutV;rw[xdh,xgr];lia
def rSlT(K:Fg):V->Option Int->Option Int->Hp->VK->Prop:=λx lo hi H Q=>∃a xs,x=.ref a/\SqT K H a xs /\
 ¬ (HT.sIx xs.length 0 lo=0/\HT.sIx xs.length xs.length hi=xs.length)/\∀p,H p=none->Q (.ref p) (upd H p (.tup (cutV xs lo hi)))
theorem zbmr:SlR X (rSlT X.K):=by
 intro aW s σ H x v vl vu lo hi sl Q I rx hs pl pu h;obtain⟨a,xs,rfl,hx,hw,q⟩:=h;cases rx;obtain⟨its,r,ht,hz⟩:=I.tuple hx;have hlen:its.toArray.size=xs.length:=by rw[xbs];exact r.length.symm
 refine⟨"tuple", _,xhs.lookup,ht.typeIs,?_⟩
 refine HT.zgt ht hs pl pu (by rw[hlen];exact hw) ?_ (by rw[hlen];exact hz);rw[hlen];refine⟨.ref s.heap.objs.size,_,I.laid (t':=s.toks) (o:=.tup (cutV xs lo hi)) (λb ob q=>xbg _ q) (xbf _) ?_,rfl,q _ (I.hok.fresh (xbf _))⟩;exact⟨xbb (zjj xs lo hi) hz,_,(r.drop (HT.sIx xs.length 0 lo)).take (HT.sIx xs.length xs.length hi - HT.sIx xs.length 0 lo),IsTup.new _ _⟩
def rLtT(K:Fg):R2:=λx y H Q=>∃a b ns ms,x=.ref a/\y=.ref b/\SqT K H a (ns.map V.int)/\SqT K H b (ms.map V.int)/\Q (.bl (HT.lexLt ns ms)) H
theorem zbny{X:Cx}(hu:X.A.units<cLine):OpR X (compareOp .Lt) (rLtT X.K):=by
 intro aW s σ H x y v u Q I rx ry h;obtain⟨a,b,ns,ms,rfl,rfl,ha,hb,q⟩:=h;cases rx;cases ry;obtain⟨its,r1,p1,_⟩:=I.tuple ha;obtain⟨its2,r2,p2,_⟩:=I.tuple hb;have i1:IntsAre its.toArray.toList ns:=zea r1;have i2:IntsAre its2.toArray.toList ms:=zea r2;exact HT.zls p1 p2 i1 i2 hu ⟨.bl (HT.lexLt ns ms),H,I,rfl,q⟩
def rCatT(K:Fg):R2:=λx y H Q=>∃a b xs ys,x=.ref a/\y=.ref b/\SqT K H a xs/\SqT K H b ys/\xs≠[]/\xs.length+ys.length<=sizeLine /\
 (ys=[]->Q (.ref a) H)/\(ys≠[]->∀p,H p=none->Q (.ref p) (upd H p (.tup (xs++ys))))
theorem Vals.nil_iff(r:Vals xs us):us=[]↔xs=[]:=by
 cases r with
 | nil=>simp
 | cons _ _=>simp
theorem zbih:OpR X (binaryOp .Add) (rCatT X.K):=by
 intro aW s σ H x y v u Q I rx ry h;obtain⟨a,b,xs,ys,rfl,rfl,ha,hb,hx,hz,q1,q2⟩:=h;cases rx;cases ry;obtain⟨its,r1,p1,_⟩:=I.tuple ha;obtain⟨its2,r2,p2,_⟩:=I.tuple hb;refine HT.zblj p1 p2 (λz=>hx (r1.nil_iff.mp z)) (λz=>⟨.ref a,H,I,rfl,q1 (r2.nil_iff.mp z)⟩) (λz=>?_) (by rw[← r1.length,← r2.length];exact hz);refine⟨.ref s.heap.objs.size,_,I.laid (t':=s.toks) (o:=.tup (xs++ys)) (λb ob q=>xbg _ q) (xbf _) ?_,rfl,q2 (λw=>z (r2.nil_iff.mpr w)) _ (I.hok.fresh (xbf _))⟩;exact⟨by rw[xbl];exact hz,_,r1.append r2,IsTup.new _ _⟩
noncomputable def ixN(n:Nat) (i:Int):Option Nat:=if 0<=i then(if i<n then some i.toNat else none) else if -(n:Int)<=i then some (i+n).toNat else none
def atI{α:Type} (xs:List α) (i:Int):Option α:=(ixN xs.length i).bind λj=>xs[j]?
theorem zban(h:ixN n i=some j):seqIndex? i n=some j/\j<n/\-(n:Int)<=i/\i<n:=by
 unfold ixN at h;by_cases h0:0<=i
 ·rw[if_pos h0] at h;by_cases h1:i<n
  ·rw[if_pos h1] at h;have e:i.toNat=j:=xch h;exact⟨by rw[seqIndex_of h0 h1,e],by lia,by lia,h1⟩
  ·rw[if_neg h1] at h;cases h
 ·rw[if_neg h0] at h;by_cases h1:-(n:Int)<=i
  ·rw[if_pos h1] at h;have e:(i+n).toNat=j:=xch h;exact⟨by rw[seqIndex_neg (by lia) h1,e],by lia,h1,by lia⟩
  ·rw[if_neg h1] at h;cases h
theorem zvx{α:Type}{xs:List α} {v:α}(h:atI xs i=some v):∃j,seqIndex? i xs.length=some j/\xs[j]?=some v/\j<xs.length/\-(xs.length:Int)<=i/\i<xs.length:=by
 unfold atI at h;cases e:ixN xs.length i with
 | none=>rw[e] at h;cases h
 | some j =>
  rw[e] at h;obtain⟨h1,h2,h3,h4⟩:=zban e;exact⟨j,h1,h,h2,h3,h4⟩
theorem zbbj{α:Type}{xs:List α}{j:Nat}{v:α}(h:xs[j]?=some v):atI xs (j:Int)=some v:=by
 have hj:j<xs.length:=(xbj.mp h).1;have e:ixN xs.length (j:Int)=some j:=by
  unfold ixN;rw[if_pos (by lia),if_pos (by lia)];simp
 unfold atI;rw[e];exact h
noncomputable def PlainIx(b:Expr):Prop:=∀o i,subscripted b false o i=operate [o,i] (getItem o i)
def IxR(X:Cx) (r:R2):Prop :=
 ∀(value slice:Expr) (aW:List (Addr×Obj)) (s:Shared) (σ:St) (H:Hp) (x y:V) (v u:Value) (Q:VK),Inv X aW σ H s->RelV x v->RelV y u->r x y H Q ->
  subscripted slice false v u=operate [v,u] (getItem v u)->wpAny (model X.prog X.w) X.A (subscriptTail value slice v u) (EP X aW σ Q) X.xe s
def MtR(X:Cx) (id:String) (r:V->List V->Hp->VK->Prop):Prop :=
 ∀(aW:List (Addr×Obj)) (s:Shared) (σ:St) (H:Hp) (x:V) (xs:List V) (v:Value) (us:List Value) (Q:VK),Inv X aW σ H s->RelV x v->Vals xs us->r x xs H Q ->
  wpAny (model X.prog X.w) X.A (call (.builtin id) (v::us)) (EP X aW σ Q) X.xe s
theorem IxR.or(h:IxR X r)(h':IxR X r'):IxR X (λx y H Q=>r x y H Q\/r' x y H Q):=by
 intro value slice aW s σ H x y v u Q I rx ry q hs;rcases q with q|q
 ·exact h value slice aW s σ H x y v u Q I rx ry q hs
 ·exact h' value slice aW s σ H x y v u Q I rx ry q hs
theorem zbso(hr:IxR X r)(ha:PE X a ta)(hb:PE X b tb)(hs:PlainIx b):PE X (.Subscript a b pos) (tOp r ta tb):=by
 intro aW s σ H Q I h;exact Subscript_ (binT ha hb I h λv u s2 x y H2 I2 rx ry q=>hr a b aW s2 σ H2 x y v u Q I2 rx ry q (hs _ _))
def rIxL(K:Fg):R2:=λx y H Q=>∃p xs i v,x=.ref p/\y=.int i/\SqL K H p xs/\atI xs i=some v/\Q v H
def rIxT(K:Fg):R2:=λx y H Q=>∃p xs i v,x=.ref p/\y=.int i/\SqT K H p xs/\atI xs i=some v/\Q v H
def rIxS:R2:=λx y H Q=>∃z i c,x=.str z/\y=.int i/\z.length<=sizeLine/\atI z.cps.toList i=some c/\Q (.str ⟨#[c]⟩) H
theorem zbjd:IxR X (rIxL X.K):=by
 intro value slice aW s σ H x y v u Q I rx ry h hs;obtain⟨p,xs,i,z,rfl,rfl,hq,he,q⟩:=h;cases rx;obtain⟨t,rfl⟩:=ry;obtain⟨its,r,pl,hz⟩:=I.list hq;obtain⟨j,h1,h2,h3,h4,h5⟩:=zvx he;obtain⟨w,ew,rw'⟩:=r.get h2;have hl:=r.length;have hn:=line63;have fin:EP X aW σ Q w s:=⟨z,H,I,rw',q⟩
 by_cases h0:0<=i
 ·have hj:i.toNat=j:=by
   rw[seqIndex_of h0 h5] at h1;exact xch h1
  exact item_listR pl.isList h0 (by lia) (by rw[hj];simpa using ew) fin hs
 ·have hj:(i+(its.toArray.size:Int)).toNat=j:=by
   rw[seqIndex_neg (by lia) h4] at h1;rw[xbs,← hl];exact xch h1
  exact subscriptTail_builtinR (x:=w) pl.isList.typeIs slot_list_getitem.lookup
   (wpAny_getItem_list_neg (Q:=λr s'=>r=w/\EP X aW σ Q r s') pl.isList (by lia) (by rw[xbs]<;>lia) (by lia) (by rw[hj];simpa using ew) ⟨rfl,fin⟩) hs
theorem zbos:IxR X (rIxT X.K):=by
 intro value slice aW s σ H x y v u Q I rx ry h hs;obtain⟨p,xs,i,z,rfl,rfl,hq,he,q⟩:=h;cases rx;obtain⟨t,rfl⟩:=ry;obtain⟨its,r,pl,hz⟩:=I.tuple hq;obtain⟨j,h1,h2,h3,h4,h5⟩:=zvx he;obtain⟨w,ew,rw'⟩:=r.get h2;have hl:=r.length;have hn:=line63;have fin:EP X aW σ Q w s:=⟨z,H,I,rw',q⟩
 exact subscriptTail_builtinR (x:=w) pl.typeIs xjt.lookup
  (getItem_tuple (j:=j) (Q:=λr s'=>r=w/\EP X aW σ Q r s') pl (by lia) (by lia) (by rw[xbs,← hl];exact h1) (by simpa using ew) ⟨rfl,fin⟩) hs
theorem zbot:IxR X rIxS:=by
 intro value slice aW s σ H x y v u Q I rx ry h hs;obtain⟨z,i,c,rfl,rfl,hz,he,q⟩:=h;obtain⟨t,rfl⟩:=rx;obtain⟨t',rfl⟩:=ry;obtain⟨j,h1,h2,h3,h4,h5⟩:=zvx he;have hl:z.cps.toList.length=z.length:=by simp[Str.length]
 rw[hl] at h1 h4 h5;have hn:=line63
 exact tail_any (typeIs_str s z t) slot_str_getitem.lookup (getItem_str (c:=c) (by
  have e1:decide (i < -(2 ^ 63:Int))=false:=xcc (by lia);have e2:decide (i ≥ 2 ^ 63)=false:=xcc (by lia)
  rw[e1,e2,Bool.or_false]) (by rw[h1];simpa using h2) ⟨.str ⟨#[c]⟩,H,I.tok _,⟨_,rfl⟩,q⟩) hs
def rIx(K:Fg):R2:=λx y H Q=>rIxL K x y H Q\/rIxT K x y H Q\/rIxS x y H Q
theorem zbou:IxR X (rIx X.K):=zbjd.or (zbos.or zbot)
theorem zub(its:List Value)(n j:Nat)(u:Value):Obj.mapSeq (·.setIfInBounds j u) { cls:=.type "list", data:=.seq its.toArray n }={ cls:=.type "list", data:=.seq (its.set j u).toArray n }:=by
 simp[Obj.mapSeq]
theorem Inv.lst(I:Inv X aW σ H s)(h:H p=some (.lst xs)) :
  ∃(its:List Value) (n:Nat),Vals xs its/\s.heap.get? p=some { cls:=.type "list", data:=.seq its.toArray n }/\xs.length<=sizeLine:=by
 obtain⟨z,its,n,r,e⟩:=I.hok p _ h;exact⟨its,n,r,e,z⟩
theorem Inv.lstUpd{its its':List Value} (I:Inv X aW σ H s)(h:H p=some (.lst xs))
  (ho:s.heap.get? p=some { cls:=.type "list", data:=.seq its.toArray n })(hf:f { cls:=.type "list", data:=.seq its.toArray n }={ cls:=.type "list", data:=.seq its'.toArray n' })(r:Vals ys its')(hz:ys.length<=sizeLine)(t:Nat) :
  Inv X aW σ (upd H p (.lst ys)) {s with heap:=s.heap.update p f,toks:=t}:=by
 have e:(s.heap.update p f).get? p=some { cls:=.type "list", data:=.seq its'.toArray n' }:=by
  rw[xeu f ho (by rw[hf]<;>rfl),hf]
 refine I.write (x:=p) (e:=p) (by rw[h];trivial) (.inl rfl) (λb u hb q=>(xdv _ _ (xep hb)).trans q) ⟨_,e⟩ ?_;exact⟨hz,its',n',r,e⟩
def rSetL:V->V->V->Hp->(Hp->Prop)->Prop:=λo i v H Q=>∃p xs k j,o=.ref p/\i=.int k/\H p=some (.lst xs)/\ixN xs.length k=some j/\Q (upd H p (.lst (xs.set j v)))
theorem zbcb:PSet X rSetL:=by
 intro aW s σ H o i v ov iv u Q I ro ri rv h;obtain⟨p,xs,k,j,rfl,rfl,hp,hj,q⟩:=h;cases ro;obtain⟨t,rfl⟩:=ri;obtain⟨its,n,r,ho,hz⟩:=I.lst hp;obtain⟨h1,h2,h3,h4⟩:=zban hj;have hl:=r.length;have hn:=line63;have I':Inv X aW σ (upd H p (.lst (xs.set j v))) {s with heap:=s.heap.update p (Obj.mapSeq (·.setIfInBounds j u))} :=
  I.lstUpd hp ho (zub its n j u) (r.set rv j) (by rw[xfv];exact hz) s.toks
 by_cases h0:0<=k
 ·have hk:k.toNat=j:=by
   rw[seqIndex_of h0 h4] at h1;exact xch h1
  exact W.ki_setAt ho h0 (by lia) (by rw[xbs,← hl];exact h4) (by rw[hk];exact⟨_,I',q⟩)
 ·have hk:(k+(its.toArray.size:Int)).toNat=j:=by
   rw[seqIndex_neg (by lia) h3] at h1;rw[xbs,← hl];exact xch h1
  exact W.ki_setBack ho (by lia) (by rw[xbs,← hl];exact h3) (by lia) (by rw[hk];exact⟨_,I',q⟩)
theorem znc(lo hi:Option Int)(n:Nat):(sliceBounds lo hi none n).1=((HT.sIx n 0 lo:Nat):Int)/\(sliceBounds lo hi none n).2.1=((HT.sIx n n hi:Nat):Int)/\(sliceBounds lo hi none n).2.2=1:=by
 refine⟨?_,?_,rfl⟩
 ·cases lo with
  | none=>simp[sliceBounds,HT.sIx]
  | some i =>
   simp only[sliceBounds,HT.sIx,Option.getD_none,show(1:Int) > 0 by decide,xeq];by_cases h:i<0
   ·simp only[h,xeq]<;>lia
   ·simp only[h,xen]<;>lia
 ·cases hi with
  | none=>simp[sliceBounds,HT.sIx]
  | some i =>
   simp only[sliceBounds,HT.sIx,Option.getD_none,show(1:Int) > 0 by decide,xeq];by_cases h:i<0
   ·simp only[h,xeq]<;>lia
   ·simp only[h,xen]<;>lia
theorem zla(its:List Value)(lo hi:Option Int):slicePick its.toArray lo hi none=((its.drop (HT.sIx its.length 0 lo)).take (HT.sIx its.length its.length hi - HT.sIx its.length 0 lo)).toArray:=by
 obtain⟨h1,h2,h3⟩:=znc lo hi its.toArray.size;unfold slicePick;rw[h1,h2,h3];simp only[sliceRange_one,pick_run,xbs]<;>rfl
def rSlL(K:Fg):V->Option Int->Option Int->Hp->VK->Prop:=λx lo hi H Q=>∃a xs,x=.ref a/\SqL K H a xs/\∀p,H p=none->Q (.ref p) (upd H p (.lst (cutV xs lo hi)))
theorem zbgw:SlR X (rSlL X.K):=by
 intro aW s σ H x v vl vu lo hi sl Q I rx hs pl pu h;obtain⟨a,xs,rfl,hx,q⟩:=h;cases rx;obtain⟨its,r,ht,hz⟩:=I.list hx;have hlen:=r.length;refine⟨"list", _,slot_list_getitem.lookup,ht.isList.typeIs,?_⟩
 refine wpAny_getItem_list_slice ht.isList hs pl pu .none (by simp) ?_ (by rw[xbs]<;>lia);rw[zla,← hlen];refine⟨.ref s.heap.objs.size,_,I.laid (t':=s.toks) (o:=.lst (cutV xs lo hi)) (λb ob q=>xbg _ q) (xbf _) ?_,rfl,q _ (I.hok.fresh (xbf _))⟩;exact⟨xbb (zjj xs lo hi) hz,_,0,(r.drop (HT.sIx xs.length 0 lo)).take (HT.sIx xs.length xs.length hi - HT.sIx xs.length 0 lo),xbw _ rfl⟩
theorem zbz:CallR X (.builtin "len") (λxs H Q=>∃ p ys,xs=[.ref p]/\(SqL X.K H p ys\/SqT X.K H p ys)/\Q (.int ys.length) H):=by
 intro aW s σ H xs us Q I r h;obtain⟨p,ys,rfl,hq,q⟩:=h;obtain⟨u,rfl,rx⟩:=vals1 r;cases rx;have hn:=line63;rcases hq with hq|hq
 ·obtain⟨its,r',pl,hz⟩:=I.list hq;have hlen:=r'.length;exact Calls.call_len_list pl.isList (by simp only[xbs]<;>lia) ⟨.int ys.length,H,I.tok _,⟨s.toks+1,by rw[xbs,hlen]⟩,q⟩
 ·obtain⟨its,r',pl,hz⟩:=I.tuple hq;have hlen:=r'.length;exact len_tuple pl (by simp only[xbs]<;>lia) ⟨.int ys.length,H,I.tok _,⟨s.toks+1,by rw[xbs,hlen]⟩,q⟩
theorem CallR.or(h:CallR X f r)(h':CallR X f r'):CallR X f (λxs H Q=>r xs H Q\/r' xs H Q):=by
 intro aW s σ H xs us Q I rs q;rcases q with q|q
 ·exact h aW s σ H xs us Q I rs q
 ·exact h' aW s σ H xs us Q I rs q
theorem zed:CallR X (.type "tuple") (λxs H Q=>∃ p ys,xs=[.ref p]/\((SqL X.K H p ys/\∀ l,H l=none->Q (.ref l) (upd H l (.tup ys)))\/(SqT X.K H p ys/\Q (.ref p) H))):=by
 intro aW s σ H xs us Q I r h;obtain⟨p,ys,rfl,h⟩:=h;obtain⟨u,rfl,rx⟩:=vals1 r;cases rx;rcases h with⟨hq,q⟩|⟨hq,q⟩
 ·obtain⟨its,r',pl,hz⟩:=I.list hq;have hlen:=r'.length;refine call_tuple_list pl.isList (λh' kp=>?_) (by simp only[xbs]<;>lia);have I1:Inv X aW σ H {s with heap:=h'}:=I.kept (t':=s.toks) kp;have I2:Inv X aW σ (upd H h'.objs.size (.tup ys)) { s with heap:=h'.push { cls:=.type "tuple", data:=.seq its.toArray } } :=
   I1.laid (t':=s.toks) (λb o e=>xbg _ e) (xbf _) (show ObjOk X.prog X.w _ _ _ (.tup ys) from⟨hz,its,r',IsTup.new _ _⟩)
  exact⟨.ref h'.objs.size,_,I2,rfl,q _ (I1.hok.fresh (xbf _))⟩
 ·obtain⟨its,r',pl,hz⟩:=I.tuple hq;exact call_tuple_same pl ⟨.ref p,H,I,rfl,q⟩
def tyV(K:Fg) (T:String) (x:V) (H:Hp):Prop:=match x with
 | .str _=>T="str"
 | .int _=>T="int"
 | .ref p=>(T="list"/\∃ xs,SqL K H p xs)\/(T="tuple"/\∃ o,K.lookup p=some o/\o.cls=.type "tuple"/\o.dict=none) \/
  (T="dict"/\((∃ kvs,H p=some (.dK kvs))\/∃ kvs,H p=some (.dT kvs)))\/(T="set"/\∃ S n,H p=some (.set S n))
 | _=>False
theorem zbgq{T:String} (I:Inv X aW σ H s)(r:RelV x v)(ty:tyV X.K T x H) :
  s.TypeIs v T/\∀a,v=.ref a->∃ob,s.heap.get? a=some ob/\ob.dict=none:=by
 cases x with
 | str z =>
  obtain⟨t,rfl⟩:=r;cases(show T="str" from ty)
  exact⟨typeIs_str s z t,λ_ e=>nomatch e⟩
 | int i =>
  obtain⟨t,rfl⟩:=r;cases(show T="int" from ty)
  exact⟨typeIs_int s i t,λ_ e=>nomatch e⟩
 | ref p =>
  cases r;rcases ty with⟨rfl,xs,hq⟩|⟨rfl,o,hk,hc,hd⟩|⟨rfl,hk⟩|⟨rfl,S,n,hk⟩
  ·obtain⟨its,_,pl,_⟩:=I.list hq;refine⟨pl.isList.typeIs,λa e=>?_⟩;cases e;obtain⟨o,n,e,c,hd,_⟩:=pl;exact⟨o,e,hd⟩
  ·refine⟨⟨o,I.kIn p o hk,hc⟩,λa e=>?_⟩;cases e;exact⟨o,I.kIn _ o hk,hd⟩
  ·have z:∃o,s.heap.get? p=some o/\o.ExactDict:=by
    rcases hk with⟨kvs,hk⟩|⟨kvs,hk⟩
    ·obtain⟨_,_,_,_,o,_,_,e,ex,_⟩:=I.hok p _ hk;exact⟨o,e,ex⟩
    ·obtain⟨_,_,_,_,o,_,_,e,ex,_⟩:=I.hok p _ hk;exact⟨o,e,ex⟩
   obtain⟨o,e,ex⟩:=z;refine⟨⟨o,e,ex.1⟩,λa e2=>?_⟩;cases e2;exact⟨o,e,ex.2.1⟩
  ·obtain⟨o,_,_,_,e,ex,_⟩:=I.hok p _ hk;refine⟨⟨o,e,ex.1⟩,λa e2=>?_⟩;cases e2;exact⟨o,e,ex.2.1⟩
 | _=>exact False.elim ty
def tBM0(K:Fg) (T:String) (r:V->List V->Hp->VK->Prop) (to:TE):TE:=λσ H Q=>to σ H λx H1=>tyV K T x H1/\r x [] H1 Q
def tBM(K:Fg) (T:String) (r:V->List V->Hp->VK->Prop) (to:TE) (t:TA):TE:=λσ H Q=>to σ H λx H1=>tyV K T x H1/\t σ H1 λxs H2=>r x xs H2 Q
theorem zbnu{apos:Pos}{cpos:Pos}{T:String}{id:String}(pa:PlainAttrs T)(slot:Slot T name id)(hty:typeOf (.builtin id)=pure (.type "method_descriptor"))(hm:MtR X id r)(ho:PE X o to)
  (hbase:attributeBase o name X.env (eval o X.env)=eval o X.env:=by rfl)(hline:(apos.endLine==cpos.line)=true:=by rfl):PE X (.Call (.Attribute o name apos) [] [] cpos) (tBM0 X.K T r to):=by
 intro aW s σ H Q I h;refine wpAny_Call_method0_late hbase hline (thn (ho aW s σ H _ I h) λv s1 hq0=>?_);obtain⟨x,H1,I1,r1,ty,q1⟩:=hq0;obtain⟨h1,h2⟩:=zbgq I1 r1 ty;exact⟨T,id,pa,slot,hty,h1,h2,xii rfl (PySem.evalArgs_none (hm aW s1 σ H1 x [] v [] Q I1 r1 .nil q1))⟩
theorem zbmc{apos:Pos}{T:String}{id:String}(pa:PlainAttrs T)(slot:Slot T name id)(hty:typeOf (.builtin id)=pure (.type "method_descriptor"))(hm:MtR X id r)(ho:PE X o to)(ha:PA X (e::es) t)
  (hbase:attributeBase o name X.env (eval o X.env)=eval o X.env:=by rfl)
  (hfew:((backTo cpos (starEach (e::es) X.env)).all (λx=>!x.1)&&(backToKw cpos (keywordEach [] X.env)).all (λx=>x.1.isSome)
   && decide ((e::es).length+([]:List Keyword).length+(if([]:List Keyword).isEmpty then 0 else 1)<30))=true:=by rfl)
  (hline:(apos.endLine==cpos.line)=true:=by rfl)(hs:starEach (e::es) X.env=(false,eval e X.env)::starEach es X.env:=by rfl)(hplain:(backTo cpos (starEach es X.env)).any (·.1)=false:=by rfl) :
  PE X (.Call (.Attribute o name apos) (e::es) [] cpos) (tBM X.K T r to t):=by
 intro aW s σ H Q I h;refine wpAny_Call_method_late hbase hfew hline rfl (thn (ho aW s σ H _ I h) λv s1 hq0=>?_);obtain⟨x,H1,I1,r1,ty,q1⟩:=hq0;obtain⟨h1,h2⟩:=zbgq I1 r1 ty;refine⟨T,id,pa,slot,hty,h1,h2,?_⟩;have hA:=ha cpos aW s1 σ H1 _ I1 q1;rw[hs] at hA ⊢;refine xii (by show(false||(backTo cpos (starEach es X.env)).any (·.1))=false;rw[hplain]<;>rfl) (xis ?_);exact thn hA λus s2 ⟨vs,H2,I2,r2,q2⟩=>hm aW s2 σ H2 x vs v us Q I2 r1 r2 q2
/- xs.append(e),list.index on a module's tuple .. are MtR facts of 06m -/
def MtM(X:Cx) (id:String) (r:V->List V->Hp->VK->Prop):Prop :=
 ∀(aW:List (Addr×Obj)) (s:Shared) (σ:St) (H:Hp) (x:V) (xs:List V) (v:Value) (us:List Value) (Q:VK),Inv X aW σ H s->RelV x v->Vals xs us->r x xs H Q ->
  wpAny (model X.prog X.w) X.A (call (.builtin id) (v::us)) (EP X aW σ Q) X.xe s
theorem Vals.one:∀{x:V} {us:List Value},Vals [x] us->∃u,us=[u]/\RelV x u
 | _,_,.cons r .nil=>⟨_,rfl,r⟩
theorem Inv.lset{its its':List Value} (I:Inv X aW σ H s)(hH:H l=some (.lst xs))
  (e:s.heap.get? l=some { cls:=.type "list", data:=.seq its.toArray n })(hf:f its.toArray=its'.toArray)(hv:Vals ys its')(hz:ys.length<=sizeLine) :
  Inv X aW σ (upd H l (.lst ys)) {s with heap:=s.heap.update l (Obj.mapSeq f),toks:=t'}:=by
 have q:=PySem.IsL.update e f;rw[hf] at q;refine I.write (x:=l) (e:=l) (by rw[hH];exact trivial) (.inl rfl) (λb' u hb hu=>(xdv s.heap (Obj.mapSeq f) (xep hb)).trans hu) ⟨_,q⟩ ?_;exact⟨hz,its',_,hv,q⟩
theorem Inv.lnew(I:Inv X aW σ H s)(hv:Vals ys its)(hz:ys.length<=sizeLine) :
  Inv X aW σ (upd H s.heap.objs.size (.lst ys)) { s with heap:=s.heap.push { cls:=.type "list", data:=.seq its.toArray },toks:=t' } :=
 I.laid (λ_ _ q=>xbg _ q) (xbf _) ⟨hz,its,0,hv,xbw _ rfl⟩
theorem Inv.fresh(I:Inv X aW σ H s):H s.heap.objs.size=none:=I.hok.fresh (xbf _)
theorem Inv.lstM(I:Inv X aW σ H s)(hH:H l=some (.lst xs)):xs.length<=sizeLine/\∃(its:List Value) (n:Nat),Vals xs its/\xs.length=its.length/\s.heap.get? l=some { cls:=.type "list", data:=.seq its.toArray n }:=by
 obtain⟨z,its,n,r,e⟩:=I.hok l _ hH;exact⟨z,its,n,r,r.length,e⟩
theorem notLongL(h:n<=sizeLine):Builtin.List.listTooLong n=false:=by
 unfold Builtin.List.listTooLong;exact xcc (by lia)
def rAppend:V->List V->Hp->VK->Prop:=λx vs H Q=>∃l xs y,x=.ref l/\vs=[y]/\H l=some (.lst xs)/\xs.length<sizeLine/\Q .non (upd H l (.lst (xs++[y])))
theorem zpl:MtM X "list.append" rAppend:=by
 intro aW s σ H x vs v us Q I rx rv h;obtain⟨l,xs,y,rfl,rfl,hH,hz,q⟩:=h;cases rx;obtain⟨u,rfl,ru⟩:=rv.one;obtain⟨z,its,n,r,hl,e⟩:=I.lstM hH;refine xmf F.slot_list_append ⟨_,e,rfl⟩ F.entry_list_append (F.args_list_append_2 _ _) (PySem.list_append l its.toArray n u (by rw[xbs];lia)) ⟨e,?_⟩;refine⟨.non,_,I.lset (its':=its++[u]) hH e (by simp) (r.append (.cons ru .nil)) ?_,rfl,q⟩;rw[xbl,xks];lia
def rExtend:V->List V->Hp->VK->Prop:=λx vs H Q=>∃l b xs zs,x=.ref l/\vs=[.ref b]/\H l=some (.lst xs)/\H b=some (.lst zs)/\xs.length+zs.length<=sizeLine/\Q .non (upd H l (.lst (xs++zs)))
theorem zxy:MtM X "list.extend" rExtend:=by
 intro aW s σ H x vs v us Q I rx rv h;obtain⟨l,b,xs,zs,rfl,rfl,hH,hB,hz,q⟩:=h;cases rx;obtain⟨u,rfl,ru⟩:=rv.one;cases ru;obtain⟨z,its,n,r,hl,e⟩:=I.lstM hH;obtain⟨z2,its2,n2,r2,hl2,e2⟩:=I.lstM hB;have hsz:its.toArray.size+its2.toArray.size<=sizeLine:=by rw[xbs,xbs];lia
 have hlong:¬ (!its.toArray.isEmpty&&Builtin.List.listTooLong (its.toArray.size+its2.toArray.size))=true:=by
  rw[notLongL hsz,xmy];exact xfi
 refine xmf F.slot_list_extend ⟨_,e,rfl⟩ F.entry_list_extend (F.args_list_extend_2 _ _)
  (AutoSeq1.list_extend_list_list_0 l its.toArray n b its2.toArray n2 hlong (by rw[xbs];lia) (by lia)) ⟨e,e2,?_⟩
 refine⟨.non,_,I.lset (its':=its++its2) hH e (by simp) (r.append r2) ?_,rfl,q⟩;rw[xbl];lia
def rCat:R2:=λx y H Q=>∃l b xs zs,x=.ref l/\y=.ref b/\H l=some (.lst xs)/\H b=some (.lst zs)/\xs.length+zs.length<=sizeLine/\∀p,H p=none->Q (.ref p) (upd H p (.lst (xs++zs)))
theorem zbnz:OpR X (binaryOp .Add) rCat:=by
 intro aW s σ H x y v u Q I rx ry h;obtain⟨l,b,xs,zs,rfl,rfl,hH,hB,hz,q⟩:=h;cases rx;cases ry;obtain⟨z,its,n,r,hl,e⟩:=I.lstM hH;obtain⟨z2,its2,n2,r2,hl2,e2⟩:=I.lstM hB;refine PySem.P.add_list e e2 ?_ (by rw[xbs,xbs];lia);have ea:its.toArray++its2.toArray=(its++its2).toArray:=by simp
 rw[ea];exact⟨.ref _,_,I.lnew (t':=s.toks) (r.append r2) (by rw[xbl];lia),rfl,q _ I.fresh⟩
section
variable {κ:Type}[DecidableEq κ]
noncomputable def valV(kvs:List (κ×V)) (k:κ):Option V:=(kvs.find? λkv=>decide (kv.1=k)).map (·.2)
noncomputable def putK(kvs:List (κ×V)) (k:κ) (v:V):List (κ×V) :=
 if(kvs.any λkv=>decide (kv.1=k))=true then kvs.map (λkv=>if kv.1=k then(kv.1,v) else kv) else kvs++[(k,v)]
noncomputable def dropK(kvs:List (κ×V)) (k:κ):List (κ×V):=kvs.filter λkv=>decide (kv.1≠k)
theorem zgz{p:κ×V}{r:List (κ×V)}{k:κ}(e:p.1=k):valV (p::r) k=some p.2:=by simp[valV,xdt,e]
theorem zha{p:κ×V}{r:List (κ×V)}{k:κ}(e:¬ p.1=k):valV (p::r) k=valV r k:=by simp[valV,xdt,e]
theorem zse(k:κ):∀kvs:List (κ×V),(kvs.any λkv=>decide (kv.1=k))=(valV kvs k).isSome
 | []=>rfl
 | p::r=>by
  rw[xhj];by_cases e:p.1=k
  ·simp only[zgz e,xcs e,Bool.true_or,Option.isSome_some]
  ·rw[zha e,xcc e,Bool.false_or];exact zse k r
theorem zje(kvs:List (κ×V))(k:κ)(v:V):(putK kvs k v).length<=kvs.length+1:=by
 unfold putK;split
 ·rw[xbc];lia
 ·rw[xbl,xbx,xkx];lia
theorem RelO.isSome_eq(r:RelO o u):o.isSome=u.isSome:=by
 cases o with
 | none=>cases u with
  | none=>rfl
  | some _=>exact(show False from r).elim
 | some _=>cases u with
  | none=>exact(show False from r).elim
  | some _=>rfl
theorem RelO.getD(r:RelO o u)(rd:RelV d d'):RelV (o.getD d) (u.getD d'):=by
 cases o with
 | none=>cases u with
  | none=>exact rd
  | some _=>exact(show False from r).elim
 | some _=>cases u with
  | none=>exact(show False from r).elim
  | some _=>exact r
theorem KV.val(r:KV kvs vs)(k:κ):RelO (valV kvs k) (valueAt vs k):=by
 unfold KV at r
 induction r with
 | nil=>exact True.intro
 | @cons p q ps qs h t ih =>
  obtain⟨h1,h2⟩:=h;by_cases e:p.1=k
  ·have e':q.1=k:=h1.symm.trans e;have b:valueAt (q::qs) k=some q.2:=by simp[valueAt,xdt,e']
   rw[zgz e,b];exact h2
  ·have e':¬ q.1=k:=λz=>e (h1.trans z)
   have b:valueAt (q::qs) k=valueAt qs k:=by simp[valueAt,xdt,e']
   rw[zha e,b];exact ih
theorem KV.any(r:KV kvs vs)(k:κ):(kvs.any λkv=>decide (kv.1=k))=vs.any λkv=>decide (kv.1=k):=by
 unfold KV at r
 induction r with
 | nil=>rfl
 | cons h t ih=>rw[xhj,xhj,ih,h.1]
theorem KV.repl(r:KV kvs vs)(k:κ) (ry:RelV y u) :
  KV (kvs.map λkv=>if kv.1=k then(kv.1,y) else kv) (vs.map λkv=>if kv.1=k then(kv.1,u) else kv):=by
 unfold KV at r ⊢
 induction r with
 | nil=>exact .nil
 | @cons p q ps qs h t ih =>
  rw[xca,xca];refine .cons ?_ ih;obtain⟨h1,h2⟩:=h;by_cases e:p.1=k
  ·rw[if_pos e,if_pos (h1.symm.trans e)];exact⟨h1,ry⟩
  ·rw[if_neg e,if_neg (λz=>e (h1.trans z))];exact⟨h1,h2⟩
theorem KV.put(r:KV kvs vs)(k:κ) (ry:RelV y u):KV (putK kvs k y) (stored vs k u):=by
 unfold putK stored;rw[r.any k];by_cases e:(vs.any λkv=>decide (kv.1=k))=true
 ·rw[if_pos e,if_pos e];exact r.repl k ry
 ·rw[if_neg e,if_neg e];exact Paired.snoc r ⟨rfl,ry⟩
theorem KV.length(r:KV kvs vs):kvs.length=vs.length:=xhx r
end
theorem zbfz(r:RelV (kV k) u):(mixKind P w).is k u=true:=by
 cases k with
 | inl i=>obtain⟨t,e⟩:=(show ∃t,u=Value.int i t from r);subst e;exact zrj P w i t
 | inr x=>obtain⟨t,e⟩:=(show ∃t,u=Value.str x t from r);subst e;exact zri P w x t
theorem zpp :∀{ks:List Key} {us:List Value},Vals (ks.map kV) us->ItemsAre (mixKind P w) ks us
 | [],_,r=>by rw[xmg] at r;cases r;exact .nil
 | k::ks,_,r=>by
  rw[xca] at r;cases r with
  | cons h t=>exact .cons (zbfz h) (zpp t)
abbrev KT(H:Hp):List (List Key×V)->List (List Key×Addr×Value)->Prop:=Paired λp q=>p.1=q.1/\H q.2.1=some (.tup (p.1.map kV))/\RelV p.2 q.2.2
theorem KT.val(r:KT H kvs xs)(k:List Key):RelO (valV kvs k) ((atKey xs k).map (·.2)):=by
 induction r with
 | nil=>exact True.intro
 | @cons p q ps qs h t ih =>
  obtain⟨h1,_,h2⟩:=h;by_cases e:p.1=k
  ·have e':q.1=k:=h1.symm.trans e;have b:atKey (q::qs) k=some q.2:=by simp[atKey,xdt,e']
   rw[zgz e,b];exact h2
  ·have e':¬ q.1=k:=λz=>e (h1.trans z)
   have b:atKey (q::qs) k=atKey qs k:=by simp[atKey,xdt,e']
   rw[zha e,b];exact ih
theorem KT.repl(r:KT H kvs xs)(k:List Key) (ry:RelV y u) :
  KT H (kvs.map λkv=>if kv.1=k then(kv.1,y) else kv) (xs.map (putAt k u)):=by
 induction r with
 | nil=>exact .nil
 | @cons p q ps qs h t ih =>
  rw[xca,xca];refine .cons ?_ ih;obtain⟨h1,h2,h3⟩:=h;unfold putAt;by_cases e:p.1=k
  ·rw[if_pos e,if_pos (h1.symm.trans e)];exact⟨h1,h2,ry⟩
  ·rw[if_neg e,if_neg (λz=>e (h1.trans z))];exact⟨h1,h2,h3⟩
theorem KT.put(r:KT H kvs xs)(k:List Key) (hb:H b=some (.tup (k.map kV)))(ry:RelV y u) :
  KT H (putK kvs k y) (storedH xs k b u):=by
 have e:(kvs.any λkv=>decide (kv.1=k))=(atKey xs k).isSome:=by
  rw[zse,(r.val k).isSome_eq,xlu]
 unfold putK storedH;rw[e];by_cases q:(atKey xs k).isSome=true
 ·rw[if_pos q,if_pos q];exact r.repl k ry
 ·rw[if_neg q,if_neg q];exact Paired.snoc r ⟨rfl,hb,ry⟩
theorem KT.keeps(r:KT H kvs xs)(ht:∀b ys,H b=some (.tup ys)->H' b=some (.tup ys)):KT H' kvs xs :=
 Paired.mapP r λ_ _ z=>⟨z.1,ht _ _ z.2.1,z.2.2⟩
theorem zbrn(ok:HOk P w H h)(e:Rd H a u):ObjOk P w H h a u:=e.ok ok
theorem zbep(ok:HOk P w H h)(e:Rd H a (.dK kvs)):kvs.length<=sizeLine/\(a==sysModules)=false/\∃vs,KV kvs vs/\h.DictOf (mixKind P w) a vs :=
 show ObjOk P w H h a (.dK kvs) from zbrn ok e
theorem zbtk(ok:HOk P w H h)(e:H a=some (.dK kvs)):kvs.length<=sizeLine/\(a==sysModules)=false/\∃vs,KV kvs vs/\h.DictOf (mixKind P w) a vs:=zbep ok (.inl e)
theorem zny{ks:List Key}(ok:HOk P w H h)(e:H a=some (.tup (ks.map kV))):(tupleKind (mixKind P w)).is h ks a:=by
 obtain⟨_,its,r,o,h1,h2,n,h3⟩:=(show ObjOk P w H h a (.tup (ks.map kV)) from ok a _ e)
 exact⟨o,its.toArray,n,h1,h2,h3,by simpa using zpp r⟩
theorem zbeg(ok:HOk P w H h)(e:Rd H a (.dT kvs)):kvs.length<=sizeLine/\(a==sysModules)=false /\
  ∃xs,KT H kvs xs/\h.DictOfH (tupleKind (mixKind P w)) a xs:=by
 obtain⟨z,y,xs,r,o,es,ep,h1,h2,h3,h4,h5⟩:=(show ObjOk P w H h a (.dT kvs) from zbrn ok e)
 refine⟨z,y,xs,r,o,es,ep,h1,h2,h3,h4,λx hx=>?_,h5⟩;have all:∀{l:List (List Key×V)} {m:List (List Key×Addr×Value)},KT H l m->∀x∈m,(tupleKind (mixKind P w)).is h x.1 x.2.1:=by
  intro l m q
  induction q with
  | nil=>intro x hx;exact nomatch hx
  | @cons p q ps qs hq t ih =>
   intro x hx;rcases xbn.mp hx with e|hx
   ·subst e;exact zny ok (by rw[← hq.1];exact hq.2.1)
   ·exact ih x hx
 exact all r x hx
theorem zbsb(ok:HOk P w H h)(e:H a=some (.dT kvs)):kvs.length<=sizeLine/\(a==sysModules)=false /\
 ∃xs,KT H kvs xs/\h.DictOfH (tupleKind (mixKind P w)) a xs:=zbeg ok (.inl e)
def DGet(H:Hp) (a:Addr) (y:V) (r:Option V):Prop :=
 (∃kvs k,Rd H a (.dK kvs)/\y=kV k/\r=valV kvs k)\/∃kvs k b,Rd H a (.dT kvs)/\y=.ref b/\H b=some (.tup (k.map kV))/\r=valV kvs k
def DPut(H:Hp) (a:Addr) (y v:V) (H':Hp):Prop :=
 (∃kvs k,H a=some (.dK kvs)/\y=kV k/\kvs.length<sizeLine/\H'=upd H a (.dK (putK kvs k v))) \/
 ∃kvs k b,H a=some (.dT kvs)/\y=.ref b/\H b=some (.tup (k.map kV))/\kvs.length<sizeLine/\H'=upd H a (.dT (putK kvs k v))
theorem DPut.k{H:Hp}{a:Addr}{kvs:List (Key×V)}{k:Key}{v:V}(e:H a=some (.dK kvs))(hl:kvs.length<sizeLine):DPut H a (kV k) v (upd H a (.dK (putK kvs k v))):=.inl ⟨kvs,k,e,rfl,hl,rfl⟩
theorem DPut.t{k:List Key} (e:H a=some (.dT kvs))(eb:H b=some (.tup (k.map kV)))(hl:kvs.length<sizeLine) :
 DPut H a (.ref b) v (upd H a (.dT (putK kvs k v))):=.inr ⟨kvs,k,b,e,rfl,eb,hl,rfl⟩
theorem Inv.big(I:Inv X aW σ H s):sysModules<s.heap.objs.size:=by
 have h:mainGlobals<s.heap.objs.size:=(I.mod.glob.keeps I.bk).lt;exact xiq (by decide) h
theorem zze{A:Around} (hu:A.units+1<cLine)(I:Inv X aW σ H s)(g:DGet H a y (some v))(ry:RelV y u)(h:∀w' s',Inv X aW σ H s'->RelV v w'->Q w' s') :
  wpAny (model X.prog X.w) A (getItem (.ref a) u) Q E s:=by
 rcases g with⟨kvs,k,e,ey,l⟩|⟨kvs,k,b,e,ey,eb,l⟩
 ·subst ey;obtain⟨z,hd,vs,rel,dd⟩:=zbep I.hok e;obtain⟨w',hw,rw'⟩:=RelO.some_of (v:=v) (o:=valueAt vs k) (by rw[l];exact rel.val k);exact wpAny_getItem_of (zbfz ry) dd.mapOf hw (h w' _ (I.tok _) rw')
 ·subst ey;cases(show u=Value.ref b from ry);obtain⟨z,hd,xs,rel,dd⟩:=zbeg I.hok e;obtain⟨w',hw,rw'⟩:=RelO.some_of (v:=v) (o:=(atKey xs k).map (·.2)) (by rw[l];exact rel.val k);obtain⟨p,hp,hp2⟩:=xde.mp hw;refine wpAny_getItem_heap (xhb hu) (zny I.hok eb) dd hp ?_;rw[hp2];exact h w' _ (I.tok _) rw'
theorem d_in{A:Around} (hu:A.units+1<cLine)(I:Inv X aW σ H s)(g:DGet H a y o)(ry:RelV y u)(h:∀s',Inv X aW σ H s'->Q (.bool o.isSome) s') :
  wpAny (model X.prog X.w) A (compareOp .In u (.ref a)) Q E s:=by
 rcases g with⟨kvs,k,e,ey,l⟩|⟨kvs,k,b,e,ey,eb,l⟩
 ·subst ey;obtain⟨z,hd,vs,rel,dd⟩:=zbep I.hok e;refine wpAny_in_of (zbfz ry) hd dd.mapOf ?_;rw[← (rel.val k).isSome_eq,← l];exact h _ (I.tok _)
 ·subst ey;cases(show u=Value.ref b from ry);obtain⟨z,hd,xs,rel,dd⟩:=zbeg I.hok e;refine wpAny_in_heap (xhb hu) (zny I.hok eb) hd dd ?_;have q:=(rel.val k).isSome_eq;rw[xlu] at q;rw[← q,← l];exact h _ (I.tok _)
theorem zbkw{A:Around} (hu:A.units+1<cLine)(I:Inv X aW σ H s)(g:DGet H a y o)(ry:RelV y u)(h:∀s',Inv X aW σ H s'->Q (.bool (!o.isSome)) s') :
  wpAny (model X.prog X.w) A (compareOp .NotIn u (.ref a)) Q E s:=by
 rcases g with⟨kvs,k,e,ey,l⟩|⟨kvs,k,b,e,ey,eb,l⟩
 ·subst ey;obtain⟨z,hd,vs,rel,dd⟩:=zbep I.hok e;refine wpAny_notIn_of (zbfz ry) hd dd.mapOf ?_;rw[← (rel.val k).isSome_eq,← l];exact h _ (I.tok _)
 ·subst ey;cases(show u=Value.ref b from ry);obtain⟨z,hd,xs,rel,dd⟩:=zbeg I.hok e;refine wpAny_notIn_heap (xhb hu) (zny I.hok eb) hd dd ?_;have q:=(rel.val k).isSome_eq;rw[xlu] at q;rw[← q,← l];exact h _ (I.tok _)
theorem zvb(I:Inv X aW σ H s)(mu:Mut (H a))(hs:Heap.SameBut a s.heap h')(he:∃q,h'.get? a=some q)(new:ObjOk X.prog X.w (upd H a ob) h' a ob) :
  Inv X aW σ (upd H a ob) {s with heap:=h',toks:=t'} :=
 I.write (x:=a) (e:=a) mu (.inl rfl) (λb q hb z=>(hs.2 b hb).trans z) he new
theorem zbpy{h':Heap}{kvs:List (Key×V)} (z:kvs.length<=sizeLine)(hd:(a==sysModules)=false)(rel:KV kvs vs)(dd:h'.DictOf (mixKind P w) a vs) :
 ObjOk P w H' h' a (.dK kvs):=⟨z,hd,vs,rel,dd⟩
theorem zzb{A:Around} (hu:A.units+1<cLine)(I:Inv X aW σ H s)(g:DPut H a y v H')(ry:RelV y u)(rv:RelV v r)(h:∀s',Inv X aW σ H' s'->Q () s') :
  wpAny (model X.prog X.w) A (setItem (.ref a) u r) Q E s:=by
 rcases g with⟨kvs,k,e,ey,l,eH⟩|⟨kvs,k,b,e,ey,eb,l,eH⟩
 ·subst ey eH;obtain⟨z,hd,vs,rel,dd⟩:=zbtk I.hok e;have hz:vs.length<=sizeLine:=by rw[← rel.length];exact z
  have hl:(putK kvs k v).length<=sizeLine:=by have:=zje kvs k v;lia
  refine wpAny_setItem_pairs (hsz:=hz) (zbfz ry) dd λh' dd' hs=>h _ ?_
  have he:∃q,h'.get? a=some q:=let ⟨q,_,_,hq,_⟩:=dd';⟨q,hq⟩
  exact zvb I (by rw[e];exact True.intro) hs he (zbpy hl hd (rel.put k rv) dd')
 ·subst ey eH;cases(show u=Value.ref b from ry);obtain⟨z,hd,xs,rel,dd⟩:=zbsb I.hok e;have hz:xs.length<=sizeLine:=by rw[← xhx rel];exact z
  have hl:(putK kvs k v).length<=sizeLine:=by have:=zje kvs k v;lia
  refine wpAny_setItem_heap (hsz:=hz) (xhb hu) (zny I.hok eb) dd λh' dd' hs=>h _ ?_
  obtain⟨q,es,ep,hq,h2,h3,h4,_,h5⟩:=dd';refine zvb I (by rw[e];exact True.intro) hs ⟨q,hq⟩ ⟨hl,hd,_,(rel.put k eb rv).keeps λc ys ec=>?_,q,es,ep,hq,h2,h3,h4,h5⟩;rw[zj (zbrv ec e (λz=>nomatch z))];exact ec
noncomputable def NoSl(i:Expr):Prop:=∀ov iv,subscripted i false ov iv=operate [ov,iv] (getItem ov iv)
theorem zbgu{T id:String}
  (hl:typeLookup (.type T) "__getitem__"=pure (some (.builtin id)))(hs:NoSl slice)
  (h:wpAny (model prog w) A (eval value env) (λo s₁=>wpAny (model prog w) A (eval slice env) (λi s₂=>s₂.TypeIs o T/\wpAny (model prog w) A (getItem o i) Q E s₂) E s₁) E s) :
  wpAny (model prog w) A (eval (.Subscript value slice pos) env) Q E s:=by
 refine Subscript_ (xdw h (λo s₁ h₁=>xdw h₁ (λi s₂ h₂=>?_) λ_ _ x=>x) λ_ _ x=>x);obtain⟨hT,h₂⟩:=h₂;unfold subscriptTail;refine xba ?_;rw[getitemInPython_of_ne hT.not_modules];refine xba (wpAny_specialOf hT hl ?_);have fin:wpAny (model prog w) A (subscripted slice false o i) (λr s₃=>wpAny (model prog w) A (letTemporaryGo value o r >>= λ_=>pure r) Q E s₃) E s₂:=by
  rw[hs o i];exact wpAny_operating (xdw h₂ (λr s₃ h₃=>xba (wpAny_letTemporaryGo (xbd h₃))) λ_ _ x=>x)
 first
  | exact xbd (xba fin)
  | exact xba (xbd (xba fin))
  | exact xba fin
theorem zro(I:Inv X aW σ H s)(g:DGet H a y o):s.TypeIs (.ref a) "dict":=by
 rcases g with⟨kvs,k,e,_,_⟩|⟨kvs,k,b,e,_,_,_⟩
 ·obtain⟨_,_,vs,_,dd⟩:=zbep I.hok e;exact dd.typeIs
 ·obtain⟨_,_,xs,_,dd⟩:=zbeg I.hok e;exact dd.typeIs
def tDGet(td ty:TE):TE:=λσ H Q=>td σ H λx H1=>ty σ H1 λy H2=>∃a v,x=.ref a/\DGet H2 a y (some v)/\Q v H2
def tDIn(ty td:TE):TE:=λσ H Q=>ty σ H λy H1=>td σ H1 λx H2=>∃a o,x=.ref a/\DGet H2 a y o/\Q (.bl o.isSome) H2
def tDNotIn(ty td:TE):TE:=λσ H Q=>ty σ H λy H1=>td σ H1 λx H2=>∃a o,x=.ref a/\DGet H2 a y o/\Q (.bl (!o.isSome)) H2
def sDPut(td ty tv:TE):TS:=λD σ H=>tv σ H λv H1=>td σ H1 λx H2=>ty σ H2 λy H3=>∃a H4,x=.ref a/\DPut H3 a y v H4/\D.nx σ H4
theorem zbab{X:Cx}(hu:X.A.units+1<cLine)(ho:PE X o td)(hi:PE X i ty)(hs:NoSl i):PE X (.Subscript o i pos) (tDGet td ty):=by
 intro aW s σ H Q I h;refine zbgu F.slot_dict_getitem.lookup hs (thn (ho aW s σ H _ I h) λu s1 ⟨x,H1,I1,rx,q1⟩=>thn (hi aW s1 σ H1 _ I1 q1) λiv s2 hq0=>?_);obtain⟨y,H2,I2,ry,a,v,ex,g,q2⟩:=hq0;subst ex;obtain rfl:u=Value.ref a:=rx;exact⟨zro I2 g,zze hu I2 g ry λw' s3 I3 rw'=>⟨v,H2,I3,rw',q2⟩⟩
theorem zbia{X:Cx}(hu:X.A.units+1<cLine)(hi:PE X i ty)(ho:PE X o td):PC X .In i o (tDIn ty td):=by
 intro aW s σ H Q I h;refine thn (hi aW s σ H _ I h) λiv s1 ⟨y,H1,I1,ry,q1⟩=>thn (ho aW s1 σ H1 _ I1 q1) λu s2 hq0=>?_
 obtain⟨x,H2,I2,rx,a,ov,ex,g,q2⟩:=hq0;subst ex;obtain rfl:u=Value.ref a:=rx;exact d_in hu I2 g ry λs3 I3=>⟨.bl ov.isSome,H2,I3,rfl,q2⟩
theorem zxn{X:Cx}(hu:X.A.units+1<cLine)(hi:PE X i ty)(ho:PE X o td):PC X .NotIn i o (tDNotIn ty td):=by
 intro aW s σ H Q I h;refine thn (hi aW s σ H _ I h) λiv s1 ⟨y,H1,I1,ry,q1⟩=>thn (ho aW s1 σ H1 _ I1 q1) λu s2 hq0=>?_
 obtain⟨x,H2,I2,rx,a,ov,ex,g,q2⟩:=hq0;subst ex;obtain rfl:u=Value.ref a:=rx;exact zbkw hu I2 g ry λs3 I3=>⟨.bl (!ov.isSome),H2,I3,rfl,q2⟩
theorem zzz{X:Cx}{pos:Pos}(hu:X.A.units+1<cLine)(ho:PE X o td)(hi:PE X i ty)(hv:PE X value tv)(hs:swapsWith value (some (.Subscript o i pos')) pos.line X.env=pure false) :
  PS X (.Assign [.Subscript o i pos'] value pos) (sDPut td ty tv):=by
 intro aW s σ H D I h;refine wpAny_Assign_Subscript (thn (hv aW s σ H _ I h) λr s1 ⟨v,H1,I1,rv,q1⟩=>thn (ho aW s1 σ H1 _ I1 q1) λu s2 ⟨x,H2,I2,rx,q2⟩=>thn (hi aW s2 σ H2 _ I2 q2) λiv s3 hq0=>?_) hs;obtain⟨y,H3,I3,ry,a,H4,ex,g,q3⟩:=hq0;subst ex;obtain rfl:u=Value.ref a:=rx;exact zzb hu I3 g ry rv λs4 I4=>⟨σ,H4,I4,q3⟩
theorem zbeq(h:Heap)(hb:sysModules<h.objs.size):ObjOk P w H (h.push { cls:=.type "dict", data:=.dict #[] }) h.objs.size (.dK []) :=
 ⟨xeb _,xff.mpr (xep (xbv hb)),[],.nil,Heap.DictOf.new h⟩
theorem zbei(h:Heap)(hb:sysModules<h.objs.size):ObjOk P w H (h.push { cls:=.type "dict", data:=.dict #[] }) h.objs.size (.dT []) :=
 ⟨xeb _,xff.mpr (xep (xbv hb)),[],.nil,_,#[],0,xbw _ rfl,⟨rfl,rfl,rfl⟩,rfl,rfl,xgt⟩
def tDNewK:TE:=λ_ H Q=>∀p,H p=none->Q (.ref p) (upd H p (.dK []))
def tDNewT:TE:=λ_ H Q=>∀p,H p=none->Q (.ref p) (upd H p (.dT []))
theorem zbcu:PE X (.Dict [] [] pos) tDNewK:=λaW s σ H Q I h =>
 wpAny_Dict_empty ⟨.ref s.heap.objs.size,_,I.laid (a:=s.heap.objs.size) (o:=.dK []) (t':=s.toks) (λ_ _ q=>xbg _ q) (xbf _) (zbeq s.heap I.big),rfl,h _ (I.hok.fresh (xbf _))⟩
theorem zbct:PE X (.Dict [] [] pos) tDNewT:=λaW s σ H Q I h =>
 wpAny_Dict_empty ⟨.ref s.heap.objs.size,_,I.laid (a:=s.heap.objs.size) (o:=.dT []) (t':=s.toks) (λ_ _ q=>xbg _ q) (xbf _) (zbei s.heap I.big),rfl,h _ (I.hok.fresh (xbf _))⟩
structure M1 (X:Cx) (o:Expr) (m:Str) (apos:Pos) (e:Expr) (cpos:Pos):Prop where
 base:attributeBase o m X.env (eval o X.env)=eval o X.env
 few:((backTo cpos (starEach [e] X.env)).all (λx=>!x.1)&&(backToKw cpos (keywordEach [] X.env)).all (λx=>x.1.isSome)
  && decide (([e]:List Expr).length+([]:List Keyword).length+(if([]:List Keyword).isEmpty then 0 else 1)<30))=true
 line:(apos.endLine==cpos.line)=true
 trees:backTo cpos (starEach [e] X.env)=[(false,eval e X.env)]
structure M2 (X:Cx) (o:Expr) (m:Str) (apos:Pos) (e f:Expr) (cpos:Pos):Prop where
 base:attributeBase o m X.env (eval o X.env)=eval o X.env
 few:((backTo cpos (starEach [e,f] X.env)).all (λx=>!x.1)&&(backToKw cpos (keywordEach [] X.env)).all (λx=>x.1.isSome)
  && decide (([e,f]:List Expr).length+([]:List Keyword).length+(if([]:List Keyword).isEmpty then 0 else 1)<30))=true
 line:(apos.endLine==cpos.line)=true
 trees:backTo cpos (starEach [e,f] X.env)=[(false,eval e X.env),(false,eval f X.env)]
def IsD(H:Hp) (a:Addr):Prop:=(∃kvs,Rd H a (.dK kvs))\/∃kvs,Rd H a (.dT kvs)
theorem zbji(I:Inv X aW σ H s)(d:IsD H a) :
  s.TypeIs (.ref a) "dict"/\(∀ b,Value.ref a=.ref b->∃ ob,s.heap.get? b=some ob/\ob.dict=none)/\(a==sysModules)=false:=by
 rcases d with⟨kvs,e⟩|⟨kvs,e⟩
 ·obtain⟨_,hd,vs,_,dd⟩:=zbep I.hok e;refine⟨dd.typeIs,λb q=>?_,hd⟩;cases q;obtain⟨ob,_,_,h1,h2,_⟩:=dd;exact⟨ob,h1,h2.2.1⟩
 ·obtain⟨_,hd,xs,_,dd⟩:=zbeg I.hok e;refine⟨dd.typeIs,λb q=>?_,hd⟩;cases q;obtain⟨ob,_,_,h1,h2,_⟩:=dd;exact⟨ob,h1,h2.2.1⟩
theorem zbqf{A:Around} (hu:A.units+1<cLine)(I:Inv X aW σ H s)(g:DGet H a y o)(ry:RelV y u)(rd:RelV d r)(h:∀w' s',Inv X aW σ H s'->RelV (o.getD d) w'->Q w' s') :
  wpAny (model X.prog X.w) A (call (.builtin "dict.get") [.ref a,u,r]) Q E s:=by
 rcases g with⟨kvs,k,e,ey,l⟩|⟨kvs,k,b,e,ey,eb,l⟩
 ·subst ey;obtain⟨z,hd,vs,rel,dd⟩:=zbep I.hok e;refine call_meetsIn xkt dd.typeIs F.entry_dict_get (F.args_dict_get_3 _ _ _) (meets_dict_get_default (mixKind X.prog X.w) a (zbfz ry) hd r) ⟨_,dd.mapOf,h _ _ (I.tok _) ?_⟩;rw[l];exact(rel.val k).getD rd
 ·subst ey;cases(show u=Value.ref b from ry);obtain⟨z,hd,xs,rel,dd⟩:=zbeg I.hok e;refine call_meetsIn xkt dd.typeIs F.entry_dict_get (F.args_dict_get_3 _ _ _) (meetsH_dict_get_default (tupleKind (mixKind X.prog X.w)) a b hd r) ⟨xhb hu,k,xs,zny I.hok eb,dd,h _ _ (I.tok _) ?_⟩;rw[l];exact(rel.val k).getD rd
def tDGet2(td ty tx:TE):TE:=λσ H Q=>td σ H λx H1=>∃a,x=.ref a/\IsD H1 a/\ty σ H1 λy H2=>tx σ H2 λz H3=>∃o,DGet H3 a y o/\Q (o.getD z) H3
theorem zbcv{X:Cx}(hu:X.A.units + 1<cLine)(ho:PE X o td)(he:PE X e ty)(hf:PE X f tx)(m:M2 X o "get" apos e f cpos):PE X (.Call (.Attribute o "get" apos) [e,f] [] cpos) (tDGet2 td ty tx):=by
 intro aW s σ H Q I h;refine wpAny_Call_method m.base m.few m.line F.plainAttrs_dict xkt F.type_dict_get (thn (ho aW s σ H _ I h) λu s1 hq0=>?_);obtain⟨x,H1,I1,rx,a,ex,d,q1⟩:=hq0;subst ex;obtain rfl:u=Value.ref a:=rx;obtain⟨t1,t2,_⟩:=zbji I1 d;refine⟨t1,t2,?_⟩;rw[m.trees]
 refine xii rfl (xis (xia (thn (he aW s1 σ H1 _ I1 q1) λiv s2 ⟨y,H2,I2,ry,q2⟩ =>
  xia (thn (hf aW s2 σ H2 _ I2 q2) λfv s3 ⟨z,H3,I3,rz,ov,g,q3⟩=>xkb ?_))))
 exact zbqf hu I3 g ry rz λw' s4 I4 rw'=>⟨_,H3,I4,rw',q3⟩
end L2
namespace Att
open PySem PySem.W PySem.Calls PyProof.Rows
theorem zii :∀(ns:List Int) (vs:List Value),WellAll P h vs (ns.map WData.int)->IntsAre vs ns:=by
 intro ns
 induction ns with
 | nil =>
  intro vs w;rw[xmg] at w;cases w;exact .nil
 | cons n ns ih =>
  intro vs w;rw[xca] at w;cases w with
  | cons a b =>
   cases a;exact .cons _ _ (ih _ b)
theorem zxc{l:OpenLaw} (hn:l.most=some n)
  (hpre:l.row.toRowW.claim.pre args=true)(hwl:WellAll P h vals args) :
  ∃ a vs ns,vals=[Value.ref a]/\args=[WData.list (ns.map WData.int)]/\h.get? a=some { cls:=.type "list", data:=.seq vs.toArray }/\IntsAre vs ns/\ns.length<=n:=by
 have hsh:WShape.hasAll [] args [.list .int]=true:=(pre_splitW hpre).1;have hc:l.pre.holds [] {args:=args}=true:=(pre_splitW hpre).2;obtain⟨d,r,rfl,h1,h2⟩:=hasAllW_cons hsh;obtain rfl:=hasAllW_nil h2;obtain⟨xs,rfl,h3⟩:=hasW_list h1;obtain⟨ns,rfl⟩:=items_int h3;have hlen:ns.length<=n:=by
  unfold OpenLaw.pre at hc;have h4:(WTm.not (.lt (.lit (.int (n:Int))) (.len (.arg 0)))).holds [] {args:=[.list (ns.map .int)]}=true:=by
   have h4:=(holds_andW hc).1;rw[hn] at h4;exact h4
  have h5:=condW_of h4 (w_not (w_lt w_lit (w_len_list (w_arg rfl))));rw[xbc] at h5;refine xcf λq=>?_
  have q':(n:Int)<((ns.length:Nat):Int):=by lia
  first
   | (rw[xcs q'] at h5;exact absurd h5 (by decide))
   | (simp at h5;lia)
 cases hwl with
 | cons w1 w2 =>
  cases w2;cases w1 with
  | list ho hall=>exact⟨_,_,ns,rfl,rfl,ho,zii ns _ hall,hlen⟩
theorem zxi(l:OpenLaw)(args:List WData):l.row.toRowW.claim.post args (.bool true) args=true :=
 postW_of (r:=l.row.toRowW) (X:=(true==true))
  (show WShape.has [] (.bool true) .bool=true by first|rfl|decide|simp[WShape.has,WShape.arms,WShape.armsAll])
  (show(WTm.eq .res (.lit (.bool true))).value [] {args:=args,res:=some (.bool true),after:=args}=some (.bool (true==true)) from w_eq_bool (w_res rfl) w_lit) rfl
theorem attach_call{l:OpenLaw} {d:DefRec}
  (hn:l.most=some n)(hdf:d.params.defaults=[])
  (call:∀(w:World) (s₀ s₁:Shared) (mg mb:Str->Option Value) (fa:Addr) (o:Obj) (pm cd doc:Value) (a:Addr) (vs:List Value) (ns:List Int),
   Ground q loose [] XP w s₀ mg mb s₁.heap->YP w s₁.heap ->
   s₁.heap.get? fa=some o->o.data=.func (docDef d.name d.params d.body d.scope pm cd doc)->s₁.heap.CodeRec cd d.name->mg d.name=some (.ref fa) ->
   s₁.heap.get? a=some { cls:=.type "list", data:=.seq vs.toArray }->IntsAre vs ns->ns.length<=n->s₁.gens=#[] ->
   codeAny (model l.prog w) callerA (.call (.ref fa) ⟨[.ref a],[]⟩) (λr s'=>r=.ok (.ret (.bool true))/\OldK s₁.heap s'.heap/\s'.os=s₁.os/\AllBare s'.gens) s₁) :
  WalkO q loose XP YP l.row.toRowW d [] (λf vs=>PySem.call f vs):=by
 intro w s₀ s₁ mg mb G Y fa o pm cd doc dV kV ho hd hcd hD hmg hg args vals as hpre hlay hrd hwl hlo;obtain rfl:dV=.none:=Dflts.none hD hdf;obtain rfl:kV=.none:=Dflts.noKw hD;obtain⟨a,vs,ns,rfl,rfl,hobj,hints,hlen⟩:=zxc hn hpre hwl;refine enter_call (xha (call w s₀ s₁ mg mb fa o pm cd doc a vs ns G Y ho (fd_plain hd) hcd hmg hobj hints hlen hg) λr s' hq=>?_);obtain⟨rfl,h2,h3,h4⟩:=hq;exact⟨.inl ⟨.bool true,.bool true,[],rfl,λ_=>rfl,.bool true,zxi l _,λ_=>⟨List.Pairwise.nil,λ_ hm=>(nomatch hm)⟩⟩,h2,h3,h4⟩
end Att
namespace L2
open PySem PySem.Spec PyProof.Rows
theorem zou:∀{vs:List Value} {ns:List Int},IntsAre vs ns->Vals (ns.map V.int) vs
 | _,_,.nil=>.nil
 | _,_,.cons n t h=>.cons ⟨t,rfl⟩ (zou h)
end L2
/- THE LAST THEOREM (shape;LID,My.* are yours):
 My.Adr: a structure of the addresses that your layer names (classes,functions);My.Txt K t: a structure (Prop) of the equations over K;
 My.txt_mk:{K} {implicit addresses ..} (e1:nsIn K mainGlobals "law"=some (some (.ref f))) (e2:K.lookup f=some ⟨oc,od,.func (fnOf "law" "law" params body scope dV kV doc pm an cdv ct),sl⟩) (e3:codeIn K cdv "law"=true) ..:∃ t,My.Txt K t
(the tactic k_is has no namespace: write k_is) -/
namespace L2
open PySem PySem.Spec PyProof.Rows
noncomputable def defArgs(s:Stmt):Arguments:=match s with
 | .FunctionDef _ a _ _ _ _ _ _ _ _=>a
 | _=>{posonlyargs:=[],args:=[],vararg:=none,kwonlyargs:=[],kw_defaults:=[],kwarg:=none,defaults:=[]}
noncomputable def defBody(s:Stmt):List Stmt:=match s with
 | .FunctionDef _ _ b _ _ _ _ _ _ _=>b
 | _=>[]
noncomputable def defScope(s:Stmt):Scope:=match s with
 | .FunctionDef _ _ _ _ _ _ sc _ _ _=>sc
 | _=>{kind:=.function,names:=[],isGenerator:=false,isCoroutine:=false}
abbrev CX0:CXT:=λ_ _ _ _ _ _=>False
abbrev E0:XK:=λ_ _ _=>False
theorem pass0 :Passes CX0 X E0:=λ_ _ _ _ _ _ _ h=>h.elim
structure Fun (K:Fg) (x qual:Str) (au:Stmt) (f:Addr) (fd:FuncData):Prop where
 ex:∃(oc:Value) (od:Option Addr) (kV doc pm:Value) (an:Option Addr) (cdv ct:Value) (osl:Array (Option Value)),
  fd=W.fnOf x qual (defArgs au) (defBody au) (defScope au) .none kV doc pm an cdv ct/\K.lookup f=some ⟨oc,od,.func fd,osl⟩/\W.codeIn K cdv qual=true
 kp:W.keepIn K (.ref f)=true
theorem Fun.ok{K:Fg} {N:List Str} (F:Fun K x qual au f fd)(S:FnScope N ps (defScope au))(len:∀vs H Q E,sp vs H Q E->vs.length=ps.length)
  (hbody:∀(cdv:Value) (A:Around) (outer:List Env) (s:Shared) (H:Hp) (vs:List V) (Q:VK) (E:XK),Room k (A.deeper (envOfC qual (defScope au) s.heap.objs.size f cdv))->sp vs H Q E ->
   ∃t,PSs (cxOf CX0 P w K mg base N qual (defScope au) f cdv A outer s H E).nox (defBody au) t/\t {nx:=λ_ H'=>Q .non H',rt:=Q} (start N vs) H):FnOk P w K mg base CX0 (k+1) f fd ps sp:=by
 obtain⟨oc,od,kV,doc,pm,an,cdv,ct,osl,rfl,lk,hcd⟩:=F.ex;refine zbpb lk hcd S len λA outer s H vs Q E hr hsp=>?_
 obtain⟨t,h,q⟩:=hbody cdv A outer s H vs Q E hr hsp;exact⟨t,h.nox,q⟩
theorem Fun.binds{K:Fg} {ps:List Str}(F:Fun K x qual au f fd)
  (h:∀(kV doc pm:Value) (an:Option Addr) (cdv ct:Value) (us:List Value),us.length=ps.length->bindArgs (W.fnOf x qual (defArgs au) (defBody au) (defScope au) .none kV doc pm an cdv ct) ⟨us,[]⟩=pure (ps.zip us)):Binds K fd ps []:=by
 obtain⟨oc,od,kV,doc,pm,an,cdv,ct,osl,rfl,lk,hcd⟩:=F.ex;exact .all (h kV doc pm an cdv ct)
theorem zbpa{K:Fg} {kV:Value}(l:K.lookup f=some ⟨oc,od,.func (W.fnOf x qual (defArgs au) (defBody au) (defScope au) .none kV doc pm an cdv ct),osl⟩)
 (c:W.codeIn K cdv qual=true)(k:W.keepIn K (.ref f)=true):Fun K x qual au f (W.fnOf x qual (defArgs au) (defBody au) (defScope au) .none kV doc pm an cdv ct):=⟨⟨oc,od,kV,doc,pm,an,cdv,ct,osl,rfl,l,c⟩,k⟩
theorem zru(hr:Room k A):A.units+1<cLine:=xdc (xcl (by decide:1<=64) _) hr.units
theorem pv{X:Cx}(i:Nat) (hN:X.N[i]?=some x:=by rfl)(hv:Vis X.env.scope x:=by first|exact Or.inl rfl|exact Or.inr (Or.inl rfl)|exact Or.inr (Or.inr rfl))(hd:(x==("__debug__" : Str))=false:=by decide)
 (hcd:(x==("__classdict__" : Str))=false:=by decide):PE X (.Name x pos) (tVar i):=zbnn hN hv hd hcd
theorem iteF{A B:Prop}(h:B):if false=true then A else B:=by
 rw[if_neg xfi];exact h
theorem iteT{A B:Prop}(h:A):if true=true then A else B:=by
 rw[if_pos rfl];exact h
section
variable {κ:Type}[DecidableEq κ]
end
noncomputable abbrev NoX:Value->Shared->Prop:=λ_ _=>False
noncomputable abbrev testsOf(cs:List Expr) (ev:Env):Sem Bool :=
 forIn cs true λd b=>if b=true then do let z ← isTrue d ev (eval d ev);pure (ForInStep.yield z) else pure (ForInStep.yield b)
def CompStep(P:Program) (w:World) (B:Around) (tg x:Expr) (cs:List Expr) (ev:Env) (i l:Value) (K:Shared->Prop) (v:Value) (sa:Shared):Prop :=
 wpAny (model P w) B (letOwnedTupleGo tg i v) (λ_ sb=>wpAny (model P w) B (assign tg ev v) (λ_ sc=>wpAny (model P w) B (testsOf cs ev) (λok sd =>
  if ok=true then wpAny (model P w) B (eval x ev) (λy se=>wpAny (model P w) B (call (.builtin "list.append") [l,y]) (λ_ sf=>K sf) NoX se) NoX sd else K sd) NoX sc) NoX sb) NoX sa
theorem zzl{cs:List Expr} (J:Nat->Shared->Prop)
  (go:∀k sk,J k sk->wpAny (model P w) B (pyNext i) (λo sa=>match o with
   | none=>R (.ok .next) sa
   | some v=>CompStep P w B tg x cs ev i l (λsf=>∃k',k'<k/\J k' sf) v sa) NoX sk)
  (k:Nat)(hJ:J k sh):codeAny (model P w) B (.compLoop (.ListComp x [⟨tg,it,cs,0⟩] sc ps) 0 i l ev) R sh:=by
 have none_:∀{E:Value->Shared->Prop} (e:Value) (z:Shared),NoX e z->E e z:=λ_ _ z=>z.elim
 refine codeAny_loop rfl J (λk sk hk=>wpAny_noted (by
  rw[compTurn_list];refine xba (wpAny_standAt (xba (xdw (go k sk hk) (λo sa ho=>?_) none_)))
  match o,ho with
  | none,ho=>exact xbd ho
  | some v,ho =>
   refine xba (xdw ho (λ_ sb hb=>xba (xdw hb (λ_ sc' hc=>xba (xdw hc (λok sd hd=>?_) none_)) none_)) none_)
   match ok,hd with
   | false,hd=>exact xbd (And.intro rfl hd)
   | true,hd=>exact xba (xba (xdw hd (λy se he=>xba (xdw he (λ_ sf hf=>xbd (xbd (And.intro rfl hf))) none_)) none_)))) k hJ
theorem zog{env:Env}:∀(names:List (Str×NameKind)) (acc:List (Str×Addr)),(∀y∈names,y.2=.free->∃c,env.cells.lookup y.1=some c)->(∀x c,acc.lookup x=some c->env.cells.lookup x=some c) ->
  ∃cl:List (Str×Addr),(forIn names acc (λx r=>if(x.2==NameKind.free)=true then do let a ← cellOf env x.1;pure (ForInStep.yield ((x.1,a)::r)) else pure (ForInStep.yield r)):Sem (List (Str×Addr)))=pure cl /\
   (∀x c,cl.lookup x=some c->env.cells.lookup x=some c)/\(∀x c,acc.lookup x=some c->∃c',cl.lookup x=some c')/\∀x,(x,NameKind.free)∈names->∃c,cl.lookup x=some c:=by
 intro names
 induction names with
 | nil=>intro acc _ ha;exact⟨acc,rfl,ha,λx c e=>⟨c,e⟩,λx z=>(nomatch z)⟩
 | cons y r ih =>
  intro acc hf ha;obtain⟨n,k⟩:=y;by_cases hk:k=.free
  ·subst hk;obtain⟨c,hc⟩:=hf (n,.free) xbp rfl
   obtain⟨cl,e,h1,h2,h3⟩:=ih ((n,c)::acc) (λy hy=>hf y (xbo _ hy)) (λx c' e=>by
    rw[xfj] at e;by_cases hx:x=n
    ·subst hx;rw[xgu] at e;cases e;exact hc
    ·rw[xff.mpr hx] at e
     exact ha x c' e)
   refine⟨cl,?_,h1,λx c' e'=>?_,λx hx=>?_⟩
   ·rw[List.forIn_cons];simp only[xgu,ite_true];have q:cellOf env n=pure c:=by unfold cellOf;rw[hc]
    rw[q];simp only[pure_bind];exact e
   ·by_cases hx:x=n
    ·subst hx;exact h2 x c (by rw[xfj,xgu])
    ·exact h2 x c' (by rw[xfj,xff.mpr hx];exact e')
   ·rcases xbn.mp hx with z|z
    ·cases z;exact h2 n c (by rw[xfj,xgu])
    ·exact h3 x z
  ·obtain⟨cl,e,h1,h2,h3⟩:=ih acc (λy hy=>hf y (xbo _ hy)) ha;refine⟨cl,?_,h1,h2,λx hx=>?_⟩
   ·rw[List.forIn_cons];have hb:(k==NameKind.free)=false:=by simpa using hk
    simp only[hb,xcv,xen,pure_bind];exact e
   ·rcases xbn.mp hx with z|z
    ·cases z;exact absurd rfl hk
    ·exact h3 x z
theorem zvl{scope:Scope}{env:Env}(h:∀y∈scope.names,y.2=.free->∃c,env.cells.lookup y.1=some c) :
  ∃cl,closureFor scope env=pure cl/\(∀x c,cl.lookup x=some c->env.cells.lookup x=some c)/\∀x,(x,NameKind.free)∈scope.names->∃c,cl.lookup x=some c:=by
 obtain⟨cl,e,h1,_,h3⟩:=zog (env:=env) scope.names [] h (λx c e=>(nomatch e));refine⟨cl,?_,h1,h3⟩;unfold closureFor;have e':=congrArg (λm=>m >>= λr=>(pure r:Sem (List (Str×Addr)))) e;simp only[pure_bind] at e';exact e'
theorem zbh{env:Env}:∀{names:List (Str×NameKind)} {x:Str} {k:NameKind},(names.map λ(n,k)=>if(k==NameKind.free&&env.scope.kind==.function&&env.kindOf n==some .cell) then(n,NameKind.cell) else(n,k)).lookup x=some k ->
  names.lookup x=some k\/(k=.cell/\names.lookup x=some .free)
 | [],_,_,h=>by simp at h
 | (n,k')::r,x,k,h=>by
  have ih:=@zbh env r x k;have h':List.lookup x ((if(k'==NameKind.free&&env.scope.kind==.function&&env.kindOf n==some .cell)=true then(n,NameKind.cell) else(n,k'))::_)=_:=h;cases hx:x==n with
  | true =>
   by_cases hc:(k'==NameKind.free&&env.scope.kind==.function&&env.kindOf n==some .cell)=true
   ·rw[if_pos hc] at h';simp only[xfj,hx] at h' ⊢;cases h';rw[xgs,xgs] at hc;exact .inr ⟨rfl,by rw[eq_of_beq hc.1.1]⟩
   ·rw[if_neg hc] at h';simp only[xfj,hx] at h' ⊢;exact .inl h'
  | false =>
   have h2:(r.map λ(n,k)=>if(k==NameKind.free&&env.scope.kind==.function&&env.kindOf n==some .cell) then(n,NameKind.cell) else(n,k)).lookup x=some k:=by
    by_cases hc:(k'==NameKind.free&&env.scope.kind==.function&&env.kindOf n==some .cell)=true
    ·rw[if_pos hc] at h';simp only[xfj,hx] at h';exact h'
    ·rw[if_neg hc] at h';simp only[xfj,hx] at h';exact h'
   simp only[xfj,hx];exact ih h2
def cxC(X:Cx) (N:List Str) (scope:Scope) (cl:List (Str×Addr)) (C:Addr) (fp:List Addr) (s:Shared) (H:Hp):Cx :=
 {X with N:=N,s₀:=s,H₀:=H,env:=compEnvC scope cl C X.env,outer:=X.stack,ex:=fp,fn:=λ_=>false,pn:=[],xe:=λ_ _=>False}
def startC(k:Nat) (is:List Nat) (σ:St):St:=List.replicate k none++is.map λi=>(σ[i]?).getD none
structure CompScope (X:Cx) (N:List Str) (k:Nat) (is:List Nat) (scope:Scope):Prop where
 kind:scope.kind=.function
 nocell:∀y∈scope.names,y.2≠.cell
 names:∀y∈scope.names,y.2=.local->scope.names.lookup y.1=some .local
 frees:∀y∈scope.names,y.2=.free->X.env.kindOf y.1=some .cell\/X.env.kindOf y.1=some .free
 len:N.length=k+is.length
 own:∀j i,is[j]?=some i->∃x,N[k+j]?=some x/\X.N[i]?=some x/\scope.names.lookup x=some .free
theorem zct{l:List (Str×NameKind)}(h:l.lookup x=some k):(x,k)∈l:=xed h
theorem zbdu{N:List Str} {cl:List (Str×Addr)} {h1:Heap} (S:CompScope X N k is scope)(I:Inv X aW σ H s)
  (c1:∀x c,cl.lookup x=some c->X.env.cells.lookup x=some c)(c2:∀x,(x,NameKind.free)∈scope.names->∃c,cl.lookup x=some c)
  (hf:∀b∈fp,FpOk X aW H b)(hfo:∀b∈fp,∃o,s.heap.get? b=some o)(hn:h1.Ns s.heap.objs.size (λ_=>none))(hk:∀b o,s.heap.get? b=some o->h1.get? b=some o) :
  Inv (cxC X N scope cl s.heap.objs.size fp s H) [] (startC k is σ) H {s with heap:=h1,toks:=tk}:=by
 have hC:∀b o,s.heap.get? b=some o->b≠s.heap.objs.size:=λb o e=>xbv (xbq e)
 have nfs:∀b∈fp,b∉frs X.stack:=λb hb z=>by
  rcases xbn.mp (I.stkSub b z) with e|e
  ·exact(hf b hb).2.1 e
  ·exact(hf b hb).2.2.1 e
 refine⟨⟨I.ok.mod,S.kind,I.ok.glob,I.ok.blt,xbf _,λx y c e1 e2=>I.ok.inj x y c (c1 x c e1) (c1 y c e2),λx hx=>?_,λx c z=>?_,I.ok.hd,I.ok.frames,.inl rfl,λb hb=>⟨?_,λx c e=>?_⟩,I.bs,xbb I.ok.bsz I.sz,λb o e hb=>?_,nfs,I.stack,I.stkFree⟩,
  rfl,I.bare,Un.kept hk,⟨_,hn,λi x v e1 e2 e3=>?_⟩,λx c e=>?_,I.hok.fresh (xbf _),λx c e=>I.freeC x c (c1 x c e),λp hp=>(nomatch hp),I.hok.kept hk,?_,I.hnd⟩
 ·have hx':(scope.names.map λ(n,k)=>if(k==NameKind.free&&X.env.scope.kind==.function&&X.env.kindOf n==some .cell) then(n,NameKind.cell) else(n,k)).lookup x=some .cell\/(scope.names.map λ(n,k)=>if(k==NameKind.free&&X.env.scope.kind==.function&&X.env.kindOf n==some .cell) then(n,NameKind.cell) else(n,k)).lookup x=some .free:=hx;have q:scope.names.lookup x=some .free:=by
   rcases hx' with z|z
   ·rcases zbh z with q|⟨_,q⟩
    ·exact absurd rfl (S.nocell _ (zct q))
    ·exact q
   ·rcases zbh z with q|⟨q,_⟩
    ·exact q
    ·cases q
  exact c2 x (zct q)
 ·cases z
 ·obtain⟨o,e⟩:=hfo b hb;exact hC b o e
 ·exact(hf b hb).2.2.2.2.1 x c (c1 x c e)
 ·rcases(hf b hb).2.2.2.1 with z|z
  ·exact I.ok.noex b o e z
  ·exact absurd (xbh (xbq (I.ok.bs b o e).1) z) (xgl _)
 ·-- a name of the def around
  unfold startC at e2;have hi:k<=i:=by
   rcases xez i k with z|z
   ·rw[xbt (by rw[xhc];exact z),List.getElem?_replicate,if_pos z] at e2;cases e2
   ·exact z
  rw[xcm (by rw[xhc];exact hi),xhc,xcn] at e2;cases ej:is[i - k]? with
  | none=>rw[ej] at e2;cases e2
  | some j =>
   rw[ej] at e2;have e2':(σ[j]?).getD none=some v:=xch e2;obtain⟨y,y1,y2,y3⟩:=S.own (i - k) j ej;have ey:y=x:=by
    have z:N[i]?=some y:=by rw[← y1];congr 1;lia
    have e1':N[i]?=some x:=e1;rw[z] at e1';exact xch e1'
   subst ey;have e4:σ[j]?=some (some v):=by
    cases q:σ[j]? with
    | none=>rw[q] at e2';cases e2'
    | some o=>rw[q] at e2';exact congrArg some e2'
   have kd:=S.frees _ (zct y3) rfl;have vis:Vis X.env.scope y:=.inr kd;obtain⟨m,_,hl⟩:=I.loc;obtain⟨u,r,lk⟩:=hl j y v y2 e4 vis;refine⟨u,r,?_⟩;rcases lk with⟨z,_⟩|⟨_,c,e5,cc⟩
   ·rcases kd with q|q<;>(rw[q] at z;cases z)
   ·obtain⟨c',e6⟩:=c2 y (zct y3);have:c'=c:=by
     have z:=c1 y c' e6;rw[e5] at z;exact(xch z).symm
    subst this;refine .inr ⟨?_,c',e6,?_⟩
    ·rcases e3 with z|z|z
     ·exact absurd (zbh z) (by
       rw[y3];rintro(q|⟨q,_⟩)
       ·cases q
       ·cases q)
     ·exact .inl z
     ·exact .inr z
    ·obtain⟨o,ho,hd⟩:=cc;exact⟨o,hk _ o ho,hd⟩
 ·obtain⟨v,o,ho,hd⟩:=I.cell x c (c1 x c e);exact⟨v,o,hk _ o ho,hd⟩
 ·unfold startC;rw[xbl,xhc,xbc];exact S.len.symm
theorem zbdv{N:List Str} (I:Inv X aW σ H s)(hf:∀b∈fp,FpOk X aW H b)(J:Inv (cxC X N scope cl s.heap.objs.size fp s H) [] σ' H' s')
  (hs:Heap.SameBut s.heap.objs.size s'.heap h'):Inv X aW σ H' {s' with heap:=h'}:=by
 have hC:∀b o,s.heap.get? b=some o->b≠s.heap.objs.size:=λb o e=>xbv (xbq e)
 have hH:H' s.heap.objs.size=none:=J.free;have B:Un (frs X.stack) fp H H' s.heap s'.heap:=J.base
 have U:Un (frs X.stack) fp H H' s.heap h':=⟨λb o e n h1 h2=>hs.extBut b o (hC b o e) (B.keep b o e n h1 h2),λb o e n h1 h2=>by
   obtain⟨sl,q⟩:=B.slot b o e n h1 h2;exact⟨sl,hs.extBut b _ (hC b o e) q⟩,B.free,λb o e hx=>by
   obtain⟨o',q⟩:=B.there b o e hx
   exact⟨o',hs.extBut b o' (hC b o e) q⟩,B.tups,B.frzs,B.tbls⟩
 refine I.call' (s':={s' with heap:=h'}) J.os U (λa o e=>?_) J.bare (λb hb=>⟨(hf b hb).2.2.2.1,(hf b hb).2.1,(hf b hb).2.2.2.2.1,(hf b hb).2.2.2.2.2⟩);refine(J.hok a o e).stay (λb u hb q=>hs.extBut b u ?_ q) (λ_ q=>q) λ_ _ q=>q
 rcases hb with z|z
 ·intro y;rw[z] at y;rw[y,hH] at e;cases e
 ·intro y;rw[y,hH] at z;cases z
structure OffC (X:Cx) (aW:List (Addr×Obj)) (H:Hp) (C:Addr):Prop where
 free:H C=none
 loc:C≠X.env.locals
 young:X.s₀.heap.objs.size<=C
 cell:∀x c,X.env.cells.lookup x=some c->c≠C
 pin:∀p∈X.pn++aW,p.1≠C
theorem OffC.back(o:OffC X aW H C)(I:Inv X aW σ H s)(hs:Heap.SameBut C s.heap h'):Inv X aW σ H {s with heap:=h'} :=
 I.turned (t':=s.toks) (λb u hb e=>hs.extBut b u hb e) o.free o.loc (.inr o.young) o.cell o.pin
def nxC(p:Addr) (te:TE) (tc:TT) (N:St->Hp->Prop):St->Hp->Prop:=λσ2 H3=>tc σ2 H3 λb H4 =>
 if b=true then te σ2 H4 λy H5=>∃xs,H5 p=some (.lst xs)/\xs.length<sizeLine/\N σ2 (upd H5 p (.lst (xs++[y]))) else N σ2 H4
def CompG(J:It) (g:TG) (tc:TT) (te:TE) (Q:VK) (p:Addr) (σ:St) (H:Hp):Prop:=∃W:Nat->Nat->St->Hp->Prop,(∃m,W 0 m σ H) /\
 ∀i m σ' H',W i m σ' H'->(J.stop i H'/\Q (.ref p) H')\/(J.go i H'/\∃N:St->Hp->Prop,(∀σ2 H2,N σ2 H2->∃m',m'<m/\W (i+1) m' σ2 H2)/\∀x H2,J.yld i H' x H2->g x σ' H2 (nxC p te tc N))
def tComp(wi:TI) (k:Nat) (is:List Nat) (g:TG) (tc:TT) (te:TE):TE:=λσ H Q=>wi σ H λJ H1=>∀p,H1 p=none->CompG J g tc te Q p (startC k is σ) (upd H1 p (.lst []))
def tYes:TT:=λ_ H Q=>Q true H
def PIf(X:Cx) (ifs:List Expr) (t:TT):Prop :=
 ∀(aW:List (Addr×Obj)) (s:Shared) (σ:St) (H:Hp) (Q:Bool->Hp->Prop),Inv X aW σ H s->t σ H Q ->
  wpAny (model X.prog X.w) X.A (forIn ifs true λc r=>if r=true then do let ok ← isTrue c X.env (eval c X.env);pure (ForInStep.yield ok) else pure (ForInStep.yield r)) (TP X aW σ Q) X.xe s
theorem zbhn:PIf X [] tYes:=λaW s σ H Q I h=>wpAny_tests_nil ⟨H,I,h⟩
theorem zbhm(h:PT X c t):PIf X [c] t:=λaW s σ H Q I hq=>wpAny_tests_one (h aW s σ H Q I hq)
section
variable {X:Cx}{tg:Expr}{iter:Expr}{elt:Expr}{ifs:List Expr}{g:TG}{tc:TT}{te:TE}{N:List Str}{k:Nat}{is:List Nat}{scope:Scope}{pos:Pos}
theorem zvj(hcalm:X.calm=true)(hg:∀cl C fp s H,PG (cxC X N scope cl C fp s H) tg g)(hc:∀cl C fp s H,PIf (cxC X N scope cl C fp s H) ifs tc)(he:∀cl C fp s H,PE (cxC X N scope cl C fp s H) elt te)
  (S:CompScope X N k is scope){aW:List (Addr×Obj)}{σ:St}{H2:Hp}{s2:Shared}{cl:List (Str×Addr)}{it:Addr}{fp:List Addr}{tn:Nat->Heap->Prop}{J:It}{Q:VK}{E:Value->Shared->Prop}{RR:Value->Addr->Result->Shared->Prop}
  (I2:Inv X aW σ H2 s2)(T:Turn X.prog X.w X.K tg J fp it tn)(st2:tn 0 s2.heap)(f2:∀b∈fp,FpOk X aW H2 b)
  (c1:∀x c,cl.lookup x=some c->X.env.cells.lookup x=some c)(c2:∀x,(x,NameKind.free)∈scope.names->∃c,cl.lookup x=some c)
  (h:∀p,H2 p=none->∃W:Nat->Nat->St->Hp->Prop,(∃m,W 0 m (startC k is σ) (upd H2 p (.lst []))) /\
   ∀i m σ' H',W i m σ' H'->(J.stop i H'/\Q (.ref p) H')\/(J.go i H'/\∃N:St->Hp->Prop,(∀σ2 H2,N σ2 H2->∃m',m'<m/\W (i+1) m' σ2 H2)/\∀x H2,J.yld i H' x H2->g x σ' H2 (nxC p te tc N)))
  (hR:∀(p C:Addr) (s':Shared) (H':Hp) (m:Str->Option Value),OffC X aW H' C->s'.heap.Ns C m->Inv X aW σ H' s'->Q (.ref p) H'->RR (.ref p) C (.ok .next) s') :
  wpAny (model X.prog X.w) X.A (newList []) (λacc s₃=>wpAny (model X.prog X.w) X.A (newFunctionEnv scope X.env.globals cl [] X.env.qual none .none (some X.env)) (λcenv s₄ =>
   codeAny (model X.prog X.w) X.A (.compStart (.ListComp elt [⟨tg,iter,ifs,0⟩] scope pos) 0 (.ref it) acc {cenv with scope:=relabel scope X.env}) (RR acc cenv.locals) s₄) E s₃) E s2:=by
 refine xea ?_;have fresh:H2 s2.heap.objs.size=none:=I2.fresh;have I3:Inv X aW σ (upd H2 s2.heap.objs.size (.lst [])) { s2 with heap:=s2.heap.push { cls:=.type "list", dict:=none,data:=.seq ([]:List Value).toArray } }:=I2.lnew (t':=s2.toks) (.nil) (by decide)
 generalize hs3:({ s2 with heap:=s2.heap.push { cls:=.type "list", dict:=none,data:=.seq ([]:List Value).toArray } }:Shared)=s3 at I3
 have k3:∀b o,s2.heap.get? b=some o->s3.heap.get? b=some o:=λb o e=>by rw[← hs3];exact xbg _ e
 refine wpAny_newFunctionEnv S.nocell (by intro y hy;simp at hy) (λh₁ hns₁ hsb₁=>?_) S.kind;have st3:tn 0 s3.heap:=T.keep _ _ _ st2 λb _ o e=>k3 b o e
 have f3:∀b∈fp,FpOk X aW (upd H2 s2.heap.objs.size (.lst [])) b:=λb hb=>by
  obtain⟨o,e,_⟩:=T.obj _ _ st2 b hb;exact⟨by rw[zj (xbv (xbq e))];exact(f2 b hb).1,(f2 b hb).2⟩
 have k4:∀b o,s3.heap.get? b=some o->h₁.get? b=some o:=λb o e=>hsb₁.extBut b o (xbv (xbq e)) (xbg _ e)
 have J4:=zbdu (tk:=s3.toks+([]:List (Str×Value)).length) S I3 c1 c2 f3 (λb hb=>let ⟨o,e,_⟩:=T.obj _ _ st3 b hb;⟨o,e⟩) hns₁ k4;obtain⟨W,⟨m0,w0⟩,turn⟩:=h s2.heap.objs.size fresh;have st4:tn 0 h₁:=T.keep _ _ _ st3 λb _ o e=>k4 b o e
 have loop:codeAny (model X.prog X.w) X.A (.compLoop (.ListComp elt [⟨tg,iter,ifs,0⟩] scope pos) 0 (.ref it) (.ref s2.heap.objs.size) (compEnvC scope cl s3.heap.objs.size X.env)) (RR (.ref s2.heap.objs.size) s3.heap.objs.size) {s3 with heap:=h₁,toks:=s3.toks+([]:List (Str×Value)).length}:=by
  have stat:∀{H':Hp},(∀b∈fp,H' b=none)->∀b∈fp,FpOk (cxC X N scope cl s3.heap.objs.size fp s3 (upd H2 s2.heap.objs.size (.lst []))) [] H' b:=λ{H'} hn b hb=>by
   obtain⟨o,e,_⟩:=T.obj _ _ st3 b hb;refine⟨hn b hb,xbv (xbq e),J4.ok.exfs b hb,.inl hb,λx c e'=>(f3 b hb).2.2.2.2.1 x c (c1 x c e'),λp hp=>(nomatch hp)⟩
  refine zzl (λn s'=>∃i σ' H',Inv (cxC X N scope cl s3.heap.objs.size fp s3 (upd H2 s2.heap.objs.size (.lst []))) [] σ' H' s'/\tn i s'.heap/\(∀b∈fp,H' b=none)/\W i n σ' H') ?_ m0
   ⟨0,_,_,J4,st4,λb hb=>(f3 b hb).1,w0⟩
  rintro n s5 ⟨i,σ5,H5,I5,st5,fr5,w5⟩;rcases turn i n σ5 H5 w5 with⟨stop,q⟩|⟨go,N',hN',step⟩
  ·refine thn (T.done (cxC X N scope cl s3.heap.objs.size fp s3 (upd H2 s2.heap.objs.size (.lst []))) rfl rfl rfl hcalm i [] s5 σ5 H5 _ I5 (stat fr5) st5 stop) λr s6 hq0=>?_
   obtain⟨hr,I6⟩:=hq0;subst hr;obtain⟨m,hm,_⟩:=I6.loc;refine hR _ _ s6 H5 m ⟨I6.free,xip I3.lt,I3.sz,λx c e=>?_,λp hp=>xbv (xbq (I3.pin p hp).1)⟩ hm (zbdv (h':=s6.heap) I3 f3 I6 (.refl ..)) q;obtain⟨v,o,ho,_⟩:=I3.cell x c e;exact xbv (xbq ho)
  ·refine thn (T.item (cxC X N scope cl s3.heap.objs.size fp s3 (upd H2 s2.heap.objs.size (.lst []))) rfl rfl rfl hcalm i [] s5 σ5 H5 _ I5 (stat fr5) st5 go) λr s6 hq0=>?_
   obtain⟨u,hr,h6⟩:=hq0;subst hr;refine thn h6 λ_ s7 hq0=>?_
   obtain⟨x,H7,I7,r7,y7,st7,fr7⟩:=hq0;have I7':=I7.pinned (stat fr7) (T.obj _ _ st7);refine thn (hg cl s3.heap.objs.size fp s3 _ _ s7 σ5 H7 x u _ I7' r7 (step x H7 y7)) λ_ s8 hq0=>?_
   obtain⟨σ8,H8,I8,q8⟩:=hq0;refine thn (hc cl s3.heap.objs.size fp s3 _ _ s8 σ8 H8 _ I8 q8) λb s9 hq0=>?_
   obtain⟨H9,I9,q9⟩:=hq0;have again:∀{σ':St} {H':Hp} {s':Shared} {m':Nat},Inv (cxC X N scope cl s3.heap.objs.size fp s3 (upd H2 s2.heap.objs.size (.lst []))) ([]++pinsAt fp s7.heap) σ' H' s'->m'<n->W (i+1) m' σ' H' ->
     ∃m,m<n/\∃i σ' H',Inv (cxC X N scope cl s3.heap.objs.size fp s3 (upd H2 s2.heap.objs.size (.lst []))) [] σ' H' s'/\tn i s'.heap/\(∀b∈fp,H' b=none)/\W i m σ' H':=λ{σ' H' s' m'} I' hm w'=>by
    refine⟨m',hm,i+1,σ',H',I'.unpinned,T.keep _ _ _ st7 λb hb o e=>(I'.pin (b,o) (xdk _ (xdk _ (zfl hb e)))).1,λb hb=>?_,w'⟩;obtain⟨o,e,d⟩:=T.obj _ _ st7 b hb;exact(I'.pin (b,o) (xdk _ (xdk _ (zfl hb e)))).2.1
   cases b with
   | false =>
    obtain⟨m',hm,w'⟩:=hN' _ _ q9;exact again I9 hm w'
   | true =>
    refine thn (he cl s3.heap.objs.size fp s3 _ _ s9 σ8 H9 _ I9 q9) λv s10 hq0=>?_
    obtain⟨y,H10,I10,r10,xs,hxs,hz,n10⟩:=hq0;obtain⟨m',hm,w'⟩:=hN' _ _ n10;refine thn (zpl (X:=cxC X N scope cl s3.heap.objs.size fp s3 (upd H2 s2.heap.objs.size (.lst []))) _ s10 σ8 H10 (.ref s2.heap.objs.size) [y] _ [v] (λ_ H'=>H'=upd H10 s2.heap.objs.size (.lst (xs++[y]))) I10 rfl (.cons r10 .nil) ⟨_,xs,y,rfl,rfl,hxs,hz,rfl⟩) λ_ s11 hq0=>?_
    obtain⟨_,H11,I11,_,e11⟩:=hq0;subst e11;exact again I11 hm w'
 have hs3':s2.heap.push { cls:=.type "list", dict:=none,data:=.seq ([]:List Value).toArray }=s3.heap:=by rw[← hs3]
 have fin:=codeAny_compStart_list (elt:=elt) (target:=tg) (iter:=iter) (ifs:=ifs) (rest:=[]) (scope:=scope) (pos:=pos) loop (T.self X.A 0 _ _ _ st4 loop);exact fin
end
theorem zhw{N:List Str}(S:CompScope X N k is scope) (I:Inv X aW σ H s) :
  ∃cl,closureFor scope X.env=pure cl/\(∀x c,cl.lookup x=some c->X.env.cells.lookup x=some c)/\∀x,(x,NameKind.free)∈scope.names->∃c,cl.lookup x=some c :=
 zvl λy hy hf=>I.ok.has y.1 (S.frees y hy hf)
theorem zbac{X:Cx}{N:List Str}(hcalm:X.calm=true)(hi:PI X tg iter wi)(hg:∀cl C fp s H,PG (cxC X N scope cl C fp s H) tg g)(hc:∀cl C fp s H,PIf (cxC X N scope cl C fp s H) ifs tc)(he:∀cl C fp s H,PE (cxC X N scope cl C fp s H) elt te)
  (S:CompScope X N k is scope)(hs:∀x,foldedSetIterable iter X.env x=pure x:=by intro _;rfl):PE X (.ListComp elt [⟨tg,iter,ifs,0⟩] scope pos) (tComp wi k is g tc te):=by
 intro aW s σ H Q I h;obtain⟨cl,e,c1,c2⟩:=zhw S I;rw[eval_ListComp];refine wpAny_comprehension_free (use:=none) rfl hs e S.kind S.names (thn (hi aW s σ H _ I h) λxv s1 h1=>thn h1 λitv s2 h2=>?_);obtain⟨it,fp,tn,J,H2,e2,I2,T,st2,f2,h3⟩:=h2;subst e2;refine zvj (Q:=Q) (RR:=λacc C=>compPost (model X.prog X.w) X.A X.xe none (EP X aW σ Q) acc C) hcalm hg hc he S I2 T st2 f2 c1 c2 h3 ?_;intro p C s' H' m off hm I' q;exact⟨m,hm,λh' hs'=>⟨.ref p,H',off.back I' hs',rfl,q⟩⟩
def Callee(P:Program) (w:World) (K:Fg) (mg:Str->Option Value) (base:Heap) (x:Str) (k:Nat) (ps:List Str) (sp:Sp):Prop :=
 ∃f fd,FnOk P w K mg base CX0 k f fd ps sp/\Binds K fd ps []/\W.keepIn K (.ref f)=true/\mg x=some (.ref f)
theorem ztg{X:Cx}(c:Callee X.prog X.w X.K X.mg X.base x k ps sp)(hr:Room k X.A)(hg:Gl X x)(ha:PA X (e::es) t)(hdb:(x==("__debug__" : Str))=false:=by decide)
  (he:starEach (e::es) X.env=(false,eval e X.env)::starEach es X.env:=by rfl)(hpl:(backTo pos (starEach es X.env)).any (·.1)=false:=by rfl) :
  PE X (.Call (.Name x p) (e::es) [] pos) (tCall sp [] E0 t):=by
 obtain⟨f,fd,F,b,kp,m⟩:=c;exact zbhy F hr hg m kp b .nil pass0 ha hdb he hpl
noncomputable def TopF(K:Fg) (x:Str) (au:Stmt):Prop :=
 ∃f fd,W.nsIn K mainGlobals x=some (some (.ref f))/\Fun K x x au f fd
theorem zbk{K:Fg}{x:Str}{au:Stmt}{f:Addr}{od an:Option Addr}{sl:Array (Option Value)}{oc kV dc pm cd ct:Value}
  (a:W.nsIn K mainGlobals x=some (some (.ref f)))(l:K.lookup f=some ⟨oc,od,.func (W.fnOf x x (defArgs au) (defBody au) (defScope au) .none kV dc pm an cd ct),sl⟩)(c:W.codeIn K cd x=true)(k:W.keepIn K (.ref f)=true):TopF K x au :=
 ⟨f,_,a,zbpa l c k⟩
theorem zqg{P:Program}{w:World}{K:Fg}{mg:Str->Option Value}{base h:Heap}{x:Str}{au:Stmt}{N ps:List Str}{k:Nat}{sp:Sp}(T:TopF K x au)(X:K.In h)(G:h.Ns mainGlobals mg)(S:FnScope N ps (defScope au))
  (bd:∀(kV doc pm:Value) (an:Option Addr) (cdv ct:Value) (us:List Value),us.length=ps.length->bindArgs (W.fnOf x x (defArgs au) (defBody au) (defScope au) .none kV doc pm an cdv ct) ⟨us,[]⟩=pure (ps.zip us))
  (len:∀vs H Q E,sp vs H Q E->vs.length=ps.length)
  (hbody:∀(f:Addr) (cdv:Value) (A:Around) (outer:List Env) (s:Shared) (H:Hp) (vs:List V) (Q:VK) (E:XK),Room k (A.deeper (envOfC x (defScope au) s.heap.objs.size f cdv))->sp vs H Q E ->
   ∃t,PSs (cxOf CX0 P w K mg base N x (defScope au) f cdv A outer s H E).nox (defBody au) t/\t {nx:=λ_ H'=>Q .non H',rt:=Q} (start N vs) H):Callee P w K mg base x (k+1) ps sp:=by
 obtain⟨f,fd,a,F⟩:=T;exact⟨f,fd,F.ok S len (hbody f),F.binds bd,F.kp,xdb X G a⟩
theorem zjk:CallR X (.builtin "isinstance") (λxs H Q=>∃ x T t b,xs=[x,.ty T]/\TyOf X.K H x t/\W.kitOne X.K t (.type T)=some b/\Q (.bl b) H):=by
 intro aW s σ H xs us Q I r h;obtain⟨x,T,t,b,rfl,ty,e,q⟩:=h;obtain⟨u,w',rfl,ru,rw'⟩:=vals2 r;cases(show w'=Value.type T from rw');exact zyo I ru ty e λtk=>⟨.bl b,H,I.tok tk,rfl,q⟩
noncomputable def CDivP(i j:Int):Prop:=0<j/\j<2 ^ 1000
theorem zkc:OpR X (binaryOp .FloorDiv) (rI CDivP λi j=>.int (i / j)):=opI λi j _ _ _ _ _ hc q=>by
 have e:i.fdiv j=i / j:=Int.fdiv_eq_ediv_of_nonneg i (by have:=hc.1;lia);refine floordiv_int (by have:=hc.1;lia) (by rw[e];exact q) (.inl (PyProof.noPylong_of_log2 ?_));have h1:j.natAbs<2 ^ 1000:=by
  have h2:=hc.1;have h3:=hc.2;have h4:(j.natAbs:Int)=j:=by lia
  have h5:(j.natAbs:Int)<((2 ^ 1000:Nat):Int):=by
   rw[h4];exact_mod_cast h3
  exact_mod_cast h5
 have h0:j.natAbs≠0:=by have:=hc.1;lia
 have:=(Nat.log2_lt h0).mpr h1;lia
noncomputable def compLook(XN:List Str) (xs:List (Str×NameKind)) (N:List Str) (k:Nat) (is:List Nat) (scope:Scope):Bool :=
 (scope.kind==.function)&&scope.names.all (λy=>y.2 != .cell)&&scope.names.all (λy=>y.2 != .local||scope.names.lookup y.1==some .local) &&
 scope.names.all (λy=>y.2 != .free||(xs.lookup y.1==some .cell||xs.lookup y.1==some .free))&&(N.length==k+is.length) &&
 (List.range is.length).all (λj=>match is[j]?,N[k+j]? with
  | some i,some x=>XN[i]?==some x&&scope.names.lookup x==some .free
  | _,_=>false)
theorem zcw{X:Cx}{N:List Str} (h:compLook X.N X.env.scope.names N k is scope=true):CompScope X N k is scope:=by
 unfold compLook at h;simp only[xgs,xdp] at h;obtain⟨⟨⟨⟨⟨h1,h2⟩,h3⟩,h4⟩,h5⟩,h6⟩:=h;refine⟨eq_of_beq h1,λy hy e=>?_,λy hy e=>?_,λy hy e=>?_,eq_of_beq h5,λj i e=>?_⟩
 ·have:=h2 y hy;rw[e] at this;simp at this
 ·have:=h3 y hy;rw[e] at this;simp at this;exact this
 ·have:=h4 y hy;rw[e] at this;simp at this;exact this
 ·have hj:j<is.length:=(xbj.mp e).1;have:=h6 j (xck.mpr hj);rw[e] at this;cases e2:N[k+j]? with
  | none=>rw[e2] at this;cases this
  | some x =>
   rw[e2] at this;simp only[xgs,xfx] at this;exact⟨x,rfl,this.1,this.2⟩
theorem zrq:bootBuiltins "len"=some (.builtin "len"):=by decide +kernel
theorem zbqs:bootBuiltins "abs"=some (.builtin "abs"):=by decide +kernel
theorem zbln:bootBuiltins "min"=some (.builtin "min"):=by decide +kernel
theorem zbqr:bootBuiltins "max"=some (.builtin "max"):=by decide +kernel
theorem zbfh:bootBuiltins "sum"=some (.builtin "sum"):=by decide +kernel
theorem zks:bootBuiltins "sorted"=some (.builtin "sorted"):=by decide +kernel
theorem zco:bootBuiltins "isinstance"=some (.builtin "isinstance"):=by decide +kernel
theorem zbfi:bootBuiltins "int"=some (.type "int"):=by decide +kernel
theorem zblo:bootBuiltins "bool"=some (.type "bool"):=by decide +kernel
theorem zoi:bootBuiltins "tuple"=some (.type "tuple"):=by decide +kernel
theorem zbqq:bootBuiltins "set"=some (.type "set"):=by decide +kernel
theorem zbbs(h:H p=some o):upd H p o=H:=by
 funext b
 unfold upd;split
 ·subst b;exact h.symm
 ·rfl
end L2
namespace Srt
open PySem PySem.W PyProof.Rows
section
variable (r:Nat->Nat)
noncomputable def lt(i j:Nat):Bool:=decide (r i<r j)
noncomputable def At(p:Array Nat) (i:Nat):Nat:=r (p.getD i 0)
def Up(p:Array Nat) (n:Nat):Prop:=∀i j,i<=j->j<n->At r p i<=At r p j
end
noncomputable def midHeap(h:Heap) (d:Addr) (xs:List Value):Heap:=((h.update d (Obj.mapSeq λ_=>(#[]:Array Value))).push (seqObj "tuple" xs.toArray 0)).push (seqObj "list" #[] 0)
theorem zjc{h:Heap} (ne:b≠d)(e:h.get? b=some ob):(midHeap h d xs).get? b=some ob :=
 xbg _ (xbg _ ((Heap.get?_update_ne _ _ _ _ ne).trans e))
def Answers(P:Program) (w:World) (B:Around) (r:Nat->Nat) (xs:List Value) (sg:Shared):Prop :=
 ∃κ,(∀R:SortKind->Shared->Prop,R κ sg->wpAny (model P w) B (keyKind' xs.toArray) R (λ_ _=>False) sg) /\
  ∀i j C,i<xs.length->j<xs.length->C (lt r i j) sg->kas_ask P w B κ xs i j C sg
noncomputable def outOf(xs:List Value) (p:Array Nat):Array Value:=List.toArray (p.toList.map λi=>xs.getD i Value.none)
theorem zxa{xs:List Value}(h:xs.length<2):(xs.toArray.zip xs.toArray).map (·.2)=outOf xs (List.toArray (List.range xs.length)):=by
 unfold outOf
 match xs,h with
 | [],_=>simp
 | [_],_=>simp[xky]
 | _::_::_,h=>exact absurd h (by simp)
end Srt
namespace Srt
open PySem PySem.W PyProof.Rows HT
theorem zhn:∀a:List Int,lexLt a a=false
 | []=>rfl
 | x::a=>by rw[zcu,if_pos rfl];exact zhn a
theorem zgv:∀{a b c:List Int},lexLt a b=true->lexLt b c=true->lexLt a c=true
 | _,[],[],_,h=>by rw[zdz] at h;cases h
 | _,_::_,[],_,h=>by rw[zdi] at h;cases h
 | [],[],_::_,h,_=>by rw[zdz] at h;cases h
 | _::_,[],_::_,h,_=>by rw[zdi] at h;cases h
 | [],_::_,_::_,_,_=>zcc _ _
 | x::a,y::b,z::c,h1,h2=>by
  rw[zcu] at h1 h2 ⊢;by_cases e1:x=y
  ·rw[if_pos e1] at h1;subst e1;by_cases e2:x=z
   ·rw[if_pos e2] at h2 ⊢;exact zgv h1 h2
   ·rw[if_neg e2] at h2 ⊢;exact h2
  ·rw[if_neg e1] at h1;have h1':=xef h1;by_cases e2:y=z
   ·subst e2;rw[if_neg e1];exact h1
   ·rw[if_neg e2] at h2;have h2':=xef h2;rw[if_neg (by lia)];exact xcs (by lia)
theorem zpn:∀a b:List Int,lexLt a b=true\/a=b\/lexLt b a=true
 | [],[]=>.inr (.inl rfl)
 | [],_::_=>.inl (zcc _ _)
 | _::_,[]=>.inr (.inr (zcc _ _))
 | x::a,y::b=>by
  rw[zcu,zcu];by_cases e:x=y
  ·subst e;rw[if_pos rfl,if_pos rfl];rcases zpn a b with h|h|h
   ·exact .inl h
   ·exact .inr (.inl (by rw[h]))
   ·exact .inr (.inr h)
  ·rw[if_neg e,if_neg (λz=>e z.symm)];rcases Int.lt_or_gt_of_ne e with h|h
   ·exact .inl (xcs h)
   ·exact .inr (.inr (xcs h))
theorem zyd{a b:List Int}(h:lexLt a b=true):lexLt b a=false:=by
 cases e:lexLt b a with
 | false=>rfl
 | true=>have:=zgv h e;rw[zhn] at this;cases this
theorem zvi(hpq:∀x,p x=true->q x=true):∀{l:List Nat} {y:Nat},y∈l->q y=true->p y=false->l.countP p<l.countP q
 | [],_,h,_,_=>nomatch h
 | x::l,y,h,h1,h2=>by
  have mono:∀l:List Nat,l.countP p<=l.countP q:=λl=>List.countP_mono_left λx _=>hpq x
  rcases xbn.mp h with rfl|h
  ·rw[xhu h1,xjw (by rw[h2];decide)];exact xlv (mono l)
  ·have ih:=zvi hpq h h1 h2;by_cases c:p x=true
   ·rw[xhu c,xhu (hpq x c)];lia
   ·rw[xjw c];by_cases d:q x=true
    ·rw[xhu d];lia
    ·rw[xjw d];exact ih
def rank(ks:List (List Int)) (i:Nat):Nat:=(List.range ks.length).countP λk=>lexLt (ks.getD k []) (ks.getD i [])
theorem zlk{ks:List (List Int)} (hi:i<ks.length)(hj:j<ks.length):lt (rank ks) i j=lexLt (ks.getD i []) (ks.getD j []):=by
 have up:∀{a b:Nat},a<ks.length->lexLt (ks.getD a []) (ks.getD b [])=true->rank ks a<rank ks b:=λ{a b} ha h =>
  zvi (λx hx=>zgv hx h) (xck.mpr ha) h (zhn _)
 cases e:lexLt (ks.getD i []) (ks.getD j []) with
 | true=>exact xcs (up hi e)
 | false =>
  refine xcc λh=>?_
  rcases zpn (ks.getD i []) (ks.getD j []) with z|z|z
  ·rw[e] at z;cases z
  ·unfold rank at h;rw[z] at h;exact absurd h (xgl _)
  ·have:=up hj z;lia
section
variable {prog:Program}{w:World}{A:Around}{s:Shared}{b:Bool}{Q:Bool->Shared->Prop}
theorem zug:∀{us ws:List Value} {ns ms:List Int} (i:Nat),IntsAre us ns->IntsAre ws ms->Q (lexLt ns ms) s->KatLex prog w A b (decide (us.length<ws.length)) Q (us.zip ws) i s
 | _,_,_,_,_,.nil,.nil,h=>h
 | _,_,_,_,_,.nil,.cons _ _ _,h=>h
 | _,_,_,_,_,.cons _ _ _,.nil,h=>h
 | _,_,_,_,i,.cons x t (vs:=us) (ns:=ns) r1,.cons y u (vs:=ws) (ns:=ms) r2,h=>by
  rw[zcu] at h;refine kat_cons (wpAny_eqBool_int (kat_go (λe=>kat_yes ?_) λe=>kat_no ?_))
  ·rw[if_pos (eq_of_beq e)] at h;have q:=zug (i+1) r1 r2 h;have ee:decide ((Value.int x t::us).length<(Value.int y u::ws).length)=decide (us.length<ws.length):=by
    rw[xbx,xbx,xjg];simp
   rw[ee];exact q
  ·rw[if_neg (xff.mp e)] at h;cases hb:(b&&i==0) with
   | true=>exact oneLt_int h
   | false=>exact kat_one _ _ (PyProof.Rows.lt_int h)
end
end Srt
namespace L2
open PySem PySem.Spec PyProof.Rows PySem.W
theorem zjr:∀{as:List Addr} {us:List Value},Vals (as.map V.ref) us->us=as.map Value.ref
 | [],_,.nil=>rfl
 | a::as,_,.cons r t=>by
  rw[show _=Value.ref a from r,zjr t]
  rfl
def TupsAt(K:Fg) (H:Hp) (ps:List (Addr×List Int)):Prop:=∀p∈ps,SqT K H p.1 (p.2.map V.int)
theorem zn{α β:Type}(f:α->β)(d:β){l:List α}{i:Nat}{x:α}(h:l[i]?=some x):(l.map f).getD i d=f x:=by
 rw[xbr,xcn,h]
 rfl
end L2
namespace L2
open PySem PySem.Spec PyProof.Rows
mutual
inductive DAt (K:Fg) (H:Hp):V->PyData->Prop
 | non:DAt K H .non .none
 | bl (b:Bool):DAt K H (.bl b) (.bool b)
 | int (i:Int):DAt K H (.int i) (.int i)
 | str (x:Str):DAt K H (.str x) (.str x)
 | lst {a:Addr} {xs:List V} {ds:List PyData}:SqL K H a xs->DAll K H xs ds->DAt K H (.ref a) (.list ds)
 | tup {a:Addr} {xs:List V} {ds:List PyData}:SqT K H a xs->DAll K H xs ds->DAt K H (.ref a) (.tuple ds)
inductive DAll (K:Fg) (H:Hp):List V->List PyData->Prop
 | nil:DAll K H [] []
 | cons {x:V} {xs:List V} {d:PyData} {ds:List PyData}:DAt K H x d->DAll K H xs ds->DAll K H (x::xs) (d::ds)
end
section
variable {X:Cx}{aW:List (Addr×Obj)}{σ:St}{H:Hp}{s:Shared}
mutual
theorem zhf(I:Inv X aW σ H s):∀{v:V} {d:PyData} {u:Value},DAt X.K H v d->RelV v u->∃as,Reads s.heap u d as
 | _,_,_,.non,r=>by cases r;exact⟨_,.none⟩
 | _,_,_,.bl b,r=>by cases r;exact⟨_,.bool b⟩
 | _,_,_,.int i,r=>by obtain⟨t,rfl⟩:=r;exact⟨_,.int i t⟩
 | _,_,_,.str x,r=>by obtain⟨t,rfl⟩:=r;exact⟨_,.str x t⟩
 | _,_,_,.lst h all,r=>by
  cases r;obtain⟨its,rv,⟨o,n,e,c,_,dd⟩,_⟩:=I.list h;obtain⟨as,q⟩:=zgb I all rv;exact⟨_,.list e c dd q⟩
 | _,_,_,.tup h all,r=>by
  cases r;obtain⟨its,rv,⟨o,e,c,n,dd⟩,_⟩:=I.tuple h;obtain⟨as,q⟩:=zgb I all rv;exact⟨_,.tuple e c dd q⟩
theorem zgb(I:Inv X aW σ H s):∀{vs:List V} {ds:List PyData} {us:List Value},DAll X.K H vs ds->Vals vs us->∃as,ReadsAll s.heap us ds as
 | _,_,_,.nil,.nil=>⟨_,.nil⟩
 | _,_,_,.cons h t,.cons r rs=>by
  obtain⟨as,q⟩:=zhf I h r;obtain⟨bs,q'⟩:=zgb I t rs;exact⟨_,.cons q q'⟩
end
end
def rEqX(K:Fg) (neg:Bool):R2:=λx y H Q=>∃dx dy,DAt K H x dx/\DAt K H y dy/\PySem.SeqAt.shaped dx=true/\PySem.SeqAt.shaped dy=true/\Q (.bl (if neg then !PyData.eqv dx dy else PyData.eqv dx dy)) H
section
variable {X:Cx}
theorem zxo(hu:X.A.units+64<cLine):OpR X (compareOp .Eq) (rEqX X.K false):=by
 intro aW s σ H x y v u Q I r1 r2 h;obtain⟨dx,dy,a1,a2,a3,a4,q⟩:=h;obtain⟨as,ra⟩:=zhf I a1 r1;obtain⟨bs,rb⟩:=zhf I a2 r2;exact eq_dataH ra rb a3 a4 hu ⟨.bl (PyData.eqv dx dy),H,I,rfl,q⟩
theorem ztl(hu:X.A.units+64<cLine):OpR X (compareOp .NotEq) (rEqX X.K true):=by
 intro aW s σ H x y v u Q I r1 r2 h;obtain⟨dx,dy,a1,a2,a3,a4,q⟩:=h;obtain⟨as,ra⟩:=zhf I a1 r1;obtain⟨bs,rb⟩:=zhf I a2 r2;exact ne_dataH ra rb a3 a4 hu ⟨.bl (!PyData.eqv dx dy),H,I,rfl,q⟩
end
end L2
namespace Dct
open PySem PySem.W PyProof.Rows
noncomputable def Raw(h:Heap) (d:Addr) (es:Array DictEntry) (ep:Nat):Prop:=∃ob,h.get? d=some ob/\ob.ExactDict/\ob.data=.dict es ep
theorem Raw.kept{h':Heap} (x:Raw h d es ep)(k:∀ob,h.get? d=some ob->h'.get? d=some ob):Raw h' d es ep :=
 let ⟨ob,e,r⟩:=x;⟨ob,k ob e,r⟩
theorem Raw.lt(x:Raw h d es ep):d<h.objs.size:=let ⟨_,e,_⟩:=x;xbq e
theorem Raw.is{au:Shared} (x:Raw au.heap d es ep):au.TypeIs (.ref d) "dict":=let ⟨ob,e,c,_⟩:=x; ⟨ob,e,c.1⟩
noncomputable def iterObj(d:Addr) (n ep:Nat):Obj:={ cls:=.type "dict_keyiterator", data:=.fields #[.ref d,.int 0 0,.int n 0,.int ep 0] }
theorem zsy{au:Shared}{W:Value->Shared->Prop}(ns:(d==sysModules)=false)(x:Raw au.heap d es ep)(fin:W (.ref au.heap.objs.size) {au with heap:=au.heap.push (iterObj d es.size ep)}):wpAny (model P w) B (pyIter (.ref d)) W E au:=by
 obtain⟨ob,e,c,dt⟩:=id x;have ty:=x.is;refine xmc ty F.slot_dict_iter (xeo F.slot_dict_iter ty F.entry_dict_iter ?body (F.args_dict_iter_1 _))
 case body =>
  unfold Builtin.«dict.__iter__» Builtin.Dict.dictSlotNone Builtin.Dict.showsAll;refine xba (xba (wpAny_notOrdered_dict ty (xbd ?_)));show wpAny _ _ ((if(d==sysModules)=true then _ else _) >>= _) _ _ au;rw[if_neg (λz=>xfi (ns.symm.trans z))];refine xba (xbd (xba (xio e dt (xba (wpAny_dictEpoch e dt (xba (xea (xbd ⟨_,rfl, "dict_keyiterator", _,⟨_,xbw _ rfl,rfl⟩,xfp.lookup,?_⟩))))))))
  exact fin
theorem zsx{au:Shared}{es:Array DictEntry}{W:Option Value->Shared->Prop} (hi:au.heap.IsKeyIter it d k es.size ep)(x:Raw au.heap d es ep)(hk:es[k]?=some en)
  (fin:∀g:Heap,g.IsKeyIter it d (k+1) es.size ep->Heap.SameBut it au.heap g->W (some en.key) {au with heap:=g}):wpAny (model P w) B (pyNext (.ref it)) W E au:=by
 obtain⟨oi,ei,ci,di⟩:=id hi;obtain⟨ob,e,c,dt⟩:=id x;have lt:k<es.size:=(xfa.mp hk).1;unfold pyNext;refine xba (xhy (wpAny_callSpecial?_slot (name:=Str.ofString "__next__") hi.typeIs xfp (xeo xfp hi.typeIs F.entry_dict_keyiterator_next ?body (F.args_dict_keyiterator_next_1 _))))
 case body =>
  refine xba (xbd (xba (xba (xba (xgn hi.typeIs (xbd (xba (xlm ei di ?_))))))));simp only[show Builtin.Dict_items.ownsTuple "dict_keyiterator"=false from by decide,xcv,ite_false]
  show wpAny _ _ (if(Value.ref d==Value.none)=true then _ else _) _ _ au;have nn:¬ (Value.ref d==Value.none)=true:=xfi;rw[if_neg nn];refine xba (xbd (xba (xio e dt ?_)));rw[if_neg (by simp)];refine xba (xbd (xba (wpAny_dictEpoch e dt ?_)));rw[if_neg (by simp)];refine xbd ?_;simp only[show ¬ ((k:Int)<0) from by lia,ite_false,xgk,hk];refine xba (xba (xgn hi.typeIs (xbd (xba (wpAny_isOneOf_keyiter hi.typeIs ?_)))));show wpAny _ _ (setField (.ref it) 1 (rawInt ((k:Int)+1)) >>= _) _ _ au;refine xba (xgv ei di (by simp) ?_);have hi':(au.heap.update it (Obj.mapFields (·.setIfInBounds 1 (rawInt ((k:Int)+1))))).IsKeyIter it d (k+1) es.size ep :=
   ⟨_,xeu _ ei (xhd (xfk di _)),(xlw ..).trans ci,by rw[xfk di];simp[rawInt]⟩
  refine xba (xdz (xba (wpAny_isOneOf_keyiter (s:={au with heap:=au.heap.update it (Obj.mapFields (·.setIfInBounds 1 (rawInt ((k:Int)+1))))}) hi'.typeIs ?_)));show wpAny _ _ (pure en.key) _ _ _;exact xbd (xbd ⟨_,rfl,xbd (fin _ hi' (xer ..))⟩)
theorem zzx{B:Around}{au:Shared}{es:Array DictEntry}{W:Option Value->Shared->Prop}(hh:B.handled=none)(hi:au.heap.IsKeyIter it d k es.size ep)(x:Raw au.heap d es ep)(hk:es.size<=k)
  (fin:∀g:Heap,Heap.ExtBut it au.heap g->W none {au with heap:=g}):wpAny (model P w) B (pyNext (.ref it)) W E au:=by
 obtain⟨oi,ei,ci,di⟩:=id hi;obtain⟨ob,e,c,dt⟩:=id x;unfold pyNext;refine xba (xhy (wpAny_callSpecial?_slot (name:=Str.ofString "__next__") hi.typeIs xfp (xeo xfp hi.typeIs F.entry_dict_keyiterator_next ?body (F.args_dict_keyiterator_next_1 _))))
 case body =>
  refine xba (xbd (xba (xba (xba (xgn hi.typeIs (xbd (xba (xlm ei di ?_))))))));simp only[show Builtin.Dict_items.ownsTuple "dict_keyiterator"=false from by decide,xcv,ite_false]
  show wpAny _ _ (if(Value.ref d==Value.none)=true then _ else _) _ _ au;have nn:¬ (Value.ref d==Value.none)=true:=xfi;rw[if_neg nn];refine xba (xbd (xba (xio e dt ?_)));rw[if_neg (by simp)];refine xba (xbd (xba (wpAny_dictEpoch e dt ?_)));rw[if_neg (by simp)];refine xbd ?_;simp only[show ¬ ((k:Int)<0) from by lia,ite_false,xgk,xkj hk];refine xba (xba (xgn hi.typeIs (xbd ?_)));show wpAny _ _ (setField (.ref it) 0 .none >>= _) _ _ au;refine xba (xgv ei di (by simp) ?_);show wpAny _ _ (newExc (.type "StopIteration") [] >>= _) _ _ _
  refine xba ?_;simp only[newExc,newTuple];refine xba (xea (xba (m:=firstArgMember _ _) (wpAny_of_eq (a:=Value.none) (by first|rfl|(simp only[firstArgMember];rfl)) (xea ?_ (by size_fits)))) (by size_fits));simp only[raiseNew];refine xba (wpAny_handled ?_);rw[show B.in1.handled=none from hh];refine xba (xbd (wpAny_throw ?_));refine xba (wpAny_isInstance (T:="StopIteration") (b:=true) ?_ isSubtype_stop (xbd (fin _ (((xer ..).extBut.push _).push _))))
  exact⟨_,xbw _ rfl,rfl⟩
theorem zxd{B:Around}(hh:B.handled=none)(ne:d≠it)(es:Array DictEntry)(ep:Nat) :
  Walks P w B it [it,d] [it] es.size (λi v=>∃en,es[i]?=some en/\v=en.key) (λi h=>h.IsKeyIter it d i es.size ep/\Raw h d es ep) where
 sub:=λb hb=>xbn.mpr (.inl (xbk.mp hb))
 frame:=λ_ _ _ z hk=>⟨z.1.at λo e=>hk it xbp o e,z.2.kept λo e=>hk d (xbo _ (xbk.mpr rfl)) o e⟩
 item:=λi sh W' E' hi z hQ=>by
  have hx:es[i]?=some es[i]:=xda hi;exact zsx z.1 z.2 hx λg a b=>hQ es[i].key g sh.toks ⟨_,hx,rfl⟩ ⟨a,z.2.kept λo e=>b.extBut d o ne e⟩ λc o hc e=>b.extBut c o (λq=>hc (xbk.mpr q)) e
 done:=λsh W' E' z hQ=>zzx hh z.1 z.2 (xbf _) λg b=>hQ g sh.toks λc o hc e=>b c o (λq=>hc (xbk.mpr q)) e
 self:=λ_ _ _ _ z hQ=>wpAny_pyIter_keyiter z.1 hQ
theorem zbhb(ns:(d==sysModules)=false)(es:Array DictEntry)(ep:Nat):KdlSrc P w "dict" d d es.size (λi v=>∃ en,es[i]?=some en/\v=en.key) (λh=>Raw h d es ep) where
 type:=λ_ x=>x.is
 there:=λ_ x=>⟨x.lt,x.lt⟩
 keep:=λ_ _ x hk=>x.kept λo e=>hk d (.inl rfl) o e
 notList:=by decide
 notTuple:=by decide
 hint:=λ_ _ _ _ x hq=>kdl_hint_dict x.is hq
 iter:=λ_ sh hh x=>⟨_,_,λ_ _ hq=>zsy ns x hq,zxd hh (xbv x.lt) es ep,⟨⟨_,xbw _ rfl,rfl,rfl⟩,x.kept λo e=>xbg _ e⟩⟩
end Dct
namespace Srt
open PySem PySem.W PyProof.Rows
end Srt
namespace L2
open PySem PySem.Spec PyProof.Rows
theorem ObjOk.ob(x:ObjOk P w H h a o):∃ob,h.get? a=some ob:=by
 cases o with
 | lst xs=>obtain⟨_,_,_,_,e⟩:=x;exact⟨_,e⟩
 | tup xs=>obtain⟨_,_,_,ob,e,_⟩:=x;exact⟨_,e⟩
 | dK kvs=>obtain⟨_,_,_,_,ob,_,_,e,_⟩:=x;exact⟨_,e⟩
 | dT kvs=>obtain⟨_,_,_,_,ob,_,_,e,_⟩:=x;exact⟨_,e⟩
 | set S n=>obtain⟨ob,_,_,_,e,_⟩:=x;exact⟨_,e⟩
 | ins C dx fs=>obtain⟨_,_,_,e,_⟩:=x;exact⟨_,e⟩
 | own y=>obtain⟨_,e⟩:=x;exact⟨_,e⟩
 | xd fs=>obtain⟨_,⟨_,_,_,e,_⟩,_⟩:=x;exact⟨_,e⟩
 | rng lo hi=>obtain⟨_,_,_,e⟩:=x;exact⟨_,e⟩
 | frz ob u=>obtain⟨e,_⟩:=x;exact⟨_,e⟩
 | tbl ps=>exact⟨_,(show h.get? a=some _ from x)⟩
 | met f y=>exact⟨_,(show h.get? a=some _ from x)⟩
 | ext φ=>obtain⟨_,⟨_,e⟩,_⟩:=x;exact⟨_,e⟩
theorem Inv.away(I:Inv X aW σ H s) (ne:∀b ob,s.heap.get? b=some ob->b≠q):H q=none:=by
 cases e:H q with
 | none=>rfl
 | some o =>
  obtain⟨ob,z⟩:=(I.hok q o e).ob;exact absurd rfl (ne q ob z)
theorem Inv.laidN{g:Heap} (I:Inv X aW σ H s)(k:∀b u,s.heap.get? b=some u->g.get? b=some u)(ne:∀b ob,s.heap.get? b=some ob->b≠q)(new:ObjOk X.prog X.w (upd H q o) g q o) :
  Inv X aW σ (upd H q o) {s with heap:=g,toks:=t'}:=by
 have hn:=I.away ne;have off:∀{b:Addr} {u:HO},H b=some u->upd H q o b=some u:=λ{b u} e=>by rw[zj (zd e hn)];exact e
 refine I.un ⟨λb u e _ _ _=>k b u e,λb u e _ _ _=>⟨u.slots,k b u e⟩,λb u e n _=>by rw[zj (ne b u e)];exact n,λb u e _=>⟨u,k b u e⟩,λb xs e=>off e,λb ob u e=>off e,λb ps e=>⟨#[],by rw[off e];simp⟩⟩ λb u e=>?_
 by_cases hb:b=q
 ·subst hb;rw[zh] at e;cases e;exact new
 ·rw[zj hb] at e;exact(I.hok b u e).stay (λc v _ z=>k c v z) (λc z=>off z) λc xs z=>off z
theorem zbam(ns:List Int):(ns.map (Sum.inl:Int->Key)).map kV=ns.map V.int:=by rw[xcw];rfl
theorem zmg{P:Program}{w:World}{H:Hp}{kvs:List (List Key×V)}:∀{ks:List (List Int)} {xs:List (List Key×Addr×Value)},
  Paired (λ(p:List Key×V) (q:List Key×Addr×Value)=>p.1=q.1/\H q.2.1=some (.tup (p.1.map kV))/\RelV p.2 q.2.2) kvs xs->kvs.map (·.1)=ks.map (λns=>ns.map Sum.inl) ->
   ∃ps:List (Addr×List Int),ps.map (·.2)=ks/\(∀p∈ps,H p.1=some (.tup (p.2.map V.int)))/\xs.map (λq=>(entryOfKey (tupleKind (mixKind P w)) q).key)=ps.map λp=>Value.ref p.1:=by
 induction kvs with
 | nil =>
  intro ks xs r e;cases r;cases ks with
  | nil=>exact⟨[],rfl,λp hp=>(nomatch hp),rfl⟩
  | cons x ks=>cases e
 | cons kv kvs ih =>
  intro ks xs r e;cases r with
  | cons r rs =>
   cases ks with
   | nil=>cases e
   | cons ns ks =>
    rw[xca,xca] at e;injection e with e1 e2
    obtain⟨ps,a1,a2,a3⟩:=ih rs e2;rename_i b _;obtain⟨r1,r2,r3⟩:=r;refine⟨(b.2.1,ns)::ps,by rw[xca,a1],λp hp=>?_,by rw[xca,xca,a3];rfl⟩;rcases xbn.mp hp with z|z
    ·subst z;rw[e1,zbam] at r2;exact r2
    ·exact a2 p z
open PySem.W in
theorem zbfp{sg:Shared}{ps:List (Addr×List Int)}(h2:2<=ps.length)
  (tup:∀(i:Nat) (p:Addr×List Int),ps[i]?=some p->∃(us:List Value) (o:Obj) (n:Nat),IntsAre us p.2/\sg.heap.get? p.1=some o/\o.cls=.type "tuple"/\o.data=.seq us.toArray n/\p.2≠[]) :
  Srt.Answers P w B (Srt.rank (ps.map (·.2))) (ps.map λp=>Value.ref p.1) sg:=by
 refine⟨tuples' true,λR hq=>?_,λi j C hi hj hC=>?_⟩
 ·have kt:∀(l:List (Addr×List Int)),(∀p∈l,∃i:Nat,ps[i]?=some p)->∃fs:List Value,KatTups sg.heap (l.map λp=>Value.ref p.1) fs/\fs.length=l.length/\∀v∈fs,∃i t,v=Value.int i t:=λl=>by
   induction l with
   | nil=>intro _;exact⟨[],KatTups.nil,rfl,λv hv=>(nomatch hv)⟩
   | cons p l ih =>
    intro hp;obtain⟨fs,b1,b2,b3⟩:=ih λp' hp'=>hp p' (xbo _ hp')
    obtain⟨i,hi⟩:=hp p xbp;obtain⟨us,o,n,a1,a2,a3,a4,a5⟩:=tup i p hi;obtain⟨pa,pn⟩:=p;dsimp only at a1 a2 a3 a4 a5;cases a1 with
    | nil=>exact absurd rfl a5
    | cons x t r=>exact⟨Value.int x t::fs,KatTups.cons a2 a3 a4 rfl b1,by rw[xbx,xbx,b2],λv hv=>(xbn.mp hv).elim (λz=>⟨x,t,z⟩) (b3 v)⟩
  obtain⟨fs,b1,b2,b3⟩:=kt ps λp hp=>List.mem_iff_getElem?.mp hp
  exact kat_kind (T:=.type "int") b1 (by lia) (λv hv=>by
   obtain⟨i,t,rfl⟩:=b3 v hv
   exact Looks.of_pure rfl) rfl hq
 ·rw[xbc] at hi hj;have ei:ps[i]?=some ps[i]:=xbe hi;have ej:ps[j]?=some ps[j]:=xbe hj;obtain⟨us,o,n,a1,a2,a3,a4,a5⟩:=tup i _ ei;obtain⟨us2,o2,n2,c1,c2,c3,c4,c5⟩:=tup j _ ej;unfold kas_ask;rw[zn (λp:Addr×List Int=>Value.ref p.1) _ ei,zn (λp:Addr×List Int=>Value.ref p.1) _ ej];refine kat_lt a2 a4 c2 c4 (Srt.zug 0 a1 c1 ?_);rw[Srt.zlk (by rw[xbc];exact hi) (by rw[xbc];exact hj),zn (λp:Addr×List Int=>p.2) _ ei,zn (λp:Addr×List Int=>p.2) _ ej] at hC;exact hC
theorem ztj{ps:List (Addr×List Int)}{p:Array Nat}(p1:p.Perm (List.toArray (List.range ps.length)))(p2:Srt.Up (Srt.rank (ps.map (·.2))) p ps.length) :
  ∃qs:List (Addr×List Int),qs.Perm ps/\(qs.map (·.2)).Pairwise (λx y=>HT.lexLt y x=false)/\Srt.outOf (ps.map λp=>Value.ref p.1) p=(qs.map λp=>Value.ref p.1).toArray:=by
 have hps:p.size=ps.length:=by rw[p1.size_eq];simp
 have sm:∀i∈p.toList,i<ps.length:=λi hi=>by
  have h3:=(p1.mem_iff (a:=i)).mp (by rw[← xkv];exact hi);exact xck.mp (List.mem_toArray.mp h3)
 refine⟨p.toList.map λi=>ps.getD i (0,[]),?_,?_,?_⟩
 ·have e1:p.toList.Perm (List.range ps.length):=by
   have:=xfb.mp p1
   simpa using this
  have e2:=e1.map λi=>ps.getD i (0,[])
  have e3:((List.range ps.length).map λi=>ps.getD i (0,[]))=ps:=by
   apply xmh
   ·simp
   ·intro i h1 h2;simp[xbr,h2]
  rw[e3] at e2;exact e2
 ·rw[xcw,xfh];intro i j hi hj hij;rw[xkm,xkm];rw[xbc] at hi hj;have hi':i<p.size:=by simpa using hi
  have hj':j<p.size:=by simpa using hj
  have hu:=p2 i j (xbu hij) (by lia);have g:∀k,(hk:k<p.toList.length)->p.getD k 0=p.toList[k]:=λk hk=>by
   have hk':k<p.size:=by simpa using hk
   rw[xcq,xda hk'];simp
  have si:=sm _ (xdi hi);have sj:=sm _ (xdi hj);have lk:=Srt.zlk (ks:=ps.map (·.2)) (i:=p.toList[j]) (j:=p.toList[i]) (by rw[xbc];exact sj) (by rw[xbc];exact si);have hno:Srt.lt (Srt.rank (ps.map (·.2))) p.toList[j] p.toList[i]=false:=by
   refine xcc λz=>?_
   unfold Srt.At at hu;rw[g i hi,g j hj] at hu;lia
  rw[hno] at lk;have v:∀k,k<ps.length->(ps.map (·.2)).getD k []=(ps.getD k (0,[])).2:=λk hk=>by
   have ek:ps[k]?=some ps[k]:=xbe hk;rw[zn (λp:Addr×List Int=>p.2) _ ek,xbr,ek]
   rfl
  rw[v _ sj,v _ si] at lk;exact lk.symm
 ·unfold Srt.outOf;rw[xcw]
  congr 1
  refine xjf λi hi=>?_
  have hi2:=sm i hi;have ei:ps[i]?=some ps[i]:=xbe hi2;rw[zn (λp:Addr×List Int=>Value.ref p.1) _ ei];show _=Value.ref (ps.getD i (0,[])).1;rw[xbr,ei]
  rfl
theorem Inv.freeze(I:Inv X aW σ H s)(h:H a=some (.dT kvs))(e:s.heap.get? a=some ob):Inv X aW σ (upd H a (.frz ob (.dT kvs))) s:=by
 have off:∀{b:Addr} {u:HO},H b=some u->(∀l,u≠.dT l)->upd H a (.frz ob (.dT kvs)) b=some u:=λ{b u} q n=>by
  rw[zj (by rintro rfl;rw[h] at q;cases q;exact n _ rfl)];exact q
 have z:=I.un (h':=s.heap) (t':=s.toks) (H':=upd H a (.frz ob (.dT kvs))) ⟨λb u q _ _ _=>q,λb u q _ _ _=>⟨u.slots,q⟩,λb u q n _=>by
   rw[zj (by rintro rfl;rw[h] at n;cases n)];exact n,λb u q _=>⟨u,q⟩,λb xs q=>off q (λl z=>by cases z),λb o u q=>off q (λl z=>by cases z),λb ps q=>⟨#[],by rw[off q (λl z=>by cases z)];simp⟩⟩ (λb u q=>by
   by_cases hb:b=a
   ·subst hb;rw[zh] at q;cases q;exact⟨e,(I.hok b _ h).stay (λc v _ r=>r) (λc r=>off r (λl z=>by cases z)) λc xs r=>off r (λl z=>by cases z)⟩
   ·rw[zj hb] at q
    exact(I.hok b u q).stay (λc v _ r=>r) (λc r=>off r (λl z=>by cases z)) λc xs r=>off r (λl z=>by cases z))
 exact z
def Itd(a:Addr) (ob:Obj) (kvs:List (List Key×V)) (ps:List (Addr×List Int)):It :=
 ⟨λi H=>i<ps.length/\H a=some (.frz ob (.dT kvs)),λi H x H'=>H'=H/\∃p,ps[i]?=some p/\x=.ref p.1,λi H=>ps.length<=i/\H a=some (.frz ob (.dT kvs))⟩
theorem zws{P:Program}{w:World}{K:Fg}{tg:Expr}{a it:Addr}{ob:Obj}{kvs:List (List Key×V)}{ps:List (Addr×List Int)}{es:Array DictEntry}{ep:Nat}(ex:ob.ExactDict)(dt:ob.data=.dict es ep)
  (hk:es.toList.map (·.key)=ps.map λp=>Value.ref p.1):Turn P w K tg (Itd a ob kvs ps) [it] it (λi h=>h.IsKeyIter it a i es.size ep) where
 mem:=xbk.mpr rfl
 obj:=λi h au b hb=>by
  have e:b=it:=xbk.mp hb;subst e;obtain⟨o,e,c,d⟩:=au;exact⟨o,e,λv z=>by rw[d] at z;cases z⟩
 keep:=λi h h' au k=>au.at λo e=>k it (xbk.mpr rfl) o e
 item:=by
  intro Y hP hw hK hc i aW s σ H E I hf au hg;subst hP hw hK;obtain⟨hi,hz⟩:=hg;have hsz:es.size=ps.length:=by
   have:=congrArg List.length hk
   rwa [xbc,xbc,xcb] at this
  obtain⟨eo,_⟩:=(show ObjOk Y.prog Y.w H s.heap a (.frz ob (.dT kvs)) from I.hok a _ hz)
  obtain⟨f0,f1,f2,f3,f4,f5⟩:=hf it (xbk.mpr rfl);have hen:es[i]?=some es[i]:=xda (by lia);have hpi:ps[i]?=some ps[i]:=xbe hi;have hkey:es[i].key=Value.ref ps[i].1:=by
   have q:=congrArg (λl=>l[i]?) hk;simp only[xcn,xcd,hen,hpi] at q;exact xch q
  refine Dct.zsx au ⟨ob,eo,ex,dt⟩ hen λg st' sb=>?_
  have I1:Inv Y aW σ H {s with heap:=g}:=I.turned (t':=s.toks) (λb o hb e=>sb.extBut b o hb e) f0 f1 f3 f4 f5;obtain⟨o,e,c,d⟩:=id st';exact⟨_,rfl,zbmh (s:={s with heap:=g}) e c d (by decide) ⟨.ref ps[i].1,H,I1,hkey,⟨rfl,ps[i],hpi,rfl⟩,st',λb hb=>(hf b hb).1⟩⟩
 done:=by
  intro Y hP hw hK hc i aW s σ H E I hf au hg;subst hP hw hK;obtain⟨hi,hz⟩:=hg;have hsz:es.size=ps.length:=by
   have:=congrArg List.length hk
   rwa [xbc,xbc,xcb] at this
  obtain⟨eo,_⟩:=(show ObjOk Y.prog Y.w H s.heap a (.frz ob (.dT kvs)) from I.hok a _ hz)
  obtain⟨f0,f1,f2,f3,f4,f5⟩:=hf it (xbk.mpr rfl);exact Dct.zzx (I.ok.hd hc) au ⟨ob,eo,ex,dt⟩ (by lia) λg eb=>⟨rfl,I.turned (t':=s.toks) (λb o hb e=>eb b o hb e) f0 f1 f3 f4 f5⟩
 self:=λ_ _ _ _ _ au h=>wpAny_pyIter_keyiter au h
def iDct(td:TE):TI:=λσ H R=>td σ H λx H1=>∃(a:Addr) (kvs:List (List Key×V)) (ks:List (List Int)),x=.ref a/\H1 a=some (.dT kvs)/\kvs.map (·.1)=ks.map (λns=>ns.map Sum.inl) /\
 ∀(ob:Obj) (ps:List (Addr×List Int)),ps.map (·.2)=ks->(∀p∈ps,H1 p.1=some (.tup (p.2.map V.int)))->R (Itd a ob kvs ps) (upd H1 a (.frz ob (.dT kvs)))
theorem zbhr{X:Cx}{tg l:Expr}{td:TE}(hl:PE X l td):PI X tg l (iDct td):=by
 intro aW s σ H R I h;refine thn (hl aW s σ H _ I h) λv s1 hq0=>?_
 obtain⟨x,H1,I1,r1,q1⟩:=hq0;obtain⟨a,kvs,ks,rfl,hd,ek,q⟩:=q1;cases r1;obtain⟨z,ns,ys,rel,ob,es,ep,e1,e2,e3,e4,e5⟩:=(show ObjOk X.prog X.w H1 s1.heap a (.dT kvs) from I1.hok a _ hd)
 obtain⟨ps,a1,a2,a3⟩:=zmg (P:=X.prog) (w:=X.w) rel ek;have hes:es.toList.map (·.key)=ps.map λp=>Value.ref p.1:=by rw[e4,xcw];exact a3
 refine Dct.zsy ns ⟨ob,e1,e2,e3⟩ ?_;have I2:=I1.freeze hd e1;refine⟨s1.heap.objs.size,[s1.heap.objs.size],_,_,_,rfl,I2.kept (t':=s1.toks) λb o e=>xbg _ e,zws e2 e3 hes,⟨_,xbw _ rfl,rfl,rfl⟩,λb hb=>?_,q ob ps a1 a2⟩;have e:b=s1.heap.objs.size:=xbk.mp hb;subst e;exact I2.fpOk (xbf _) (I2.hok.fresh (xbf _))
end L2
namespace L2
open PySem PySem.Spec PyProof.Rows PySem.W
noncomputable def TupsG(g:Heap) (ps:List (Addr×List Int)):Prop:=∀ p∈ps, ∃(us:List Value) (o:Obj) (n:Nat),IntsAre us p.2/\g.get? p.1=some o/\o.cls=.type "tuple"/\o.data=.seq us.toArray n
theorem zpu{sg:Shared}:∀{ps:List (Addr×List Int)},TupsG sg.heap ps->∃fs:List (Option Value),fs.map Option.isSome=ps.map (λp=>!p.2.isEmpty)/\∀(W:List (Option Value)->Shared->Prop),W fs sg->wpAny (model P w) B ((ps.map λp=>Value.ref p.1).mapM firstOfTuple') W E sg
 | [],_=>⟨[],rfl,λW h=>by rw[xmg,List.mapM_nil];exact xbd h⟩
 | p::ps,h=>by
  obtain⟨fs,f1,f2⟩:=zpu (ps:=ps) λq hq=>h q (xbo _ hq)
  obtain⟨us,o,n,a1,a2,a3,a4⟩:=h p xbp;refine⟨us.toArray[0]?::fs,?_,λW hW=>?_⟩
  ·rw[xca,xca,f1]
   congr 1
   obtain⟨pa,pn⟩:=p;dsimp only at a1 ⊢;cases a1 with
   | nil=>rfl
   | cons x t r=>rfl
  ·rw[xca,List.mapM_cons];have ty:Looks (model P w) sg.heap (typeOf (.ref p.1)) o.cls:=(Looks.ld a2).andThen .now;refine xba ?_;rw[kas_first_eq];refine xba (Looks.here ty ?_);rw[a3,if_neg (by first|decide|simp)];exact xba (listItems_at a2 a4 (xbd (xba (f2 _ (xbd hW)))))
theorem zud(x y:Value):keyLt' general' x y=oneLt' false x y:=rfl
theorem zbfn{B:Around}{sg:Shared} (hκ:κ=general'\/κ=oneType')(hu:B.units<cLine) (ha:TupsG sg.heap [a])(hb:TupsG sg.heap [b]) (hC:C (HT.lexLt a.2 b.2) sg) :
  wpAny (model P w) B (keyLt' κ (.ref a.1) (.ref b.1)) C E sg:=by
 obtain⟨us,o,n,a1,a2,a3,a4⟩:=ha a xbp;obtain⟨us2,o2,n2,b1,b2,b3,b4⟩:=hb b xbp;rcases hκ with rfl|rfl
 ·rw[zud];exact kat_one _ _ (HT.zls (items:=us.toArray) (items2:=us2.toArray) ⟨o,a2,a3,n,a4⟩ ⟨o2,b2,b3,n2,b4⟩ a1 b1 hu hC)
 ·rw[keyLt'_oneType,oneLt'_eq];simp only[ite_true];refine xba (wpAny_cRoomFor hu (xba (wpAny_callSpecialIfBound?_slot (T:="tuple") ⟨o,a2,a3⟩ xkr ?_)))
  obtain⟨cls,dd,data,sl⟩:=o;obtain⟨cls2,dd2,data2,sl2⟩:=o2;dsimp only at a3 a4 b3 b4;subst a3 a4 b3 b4;exact xmf xkr ⟨_,a2,rfl⟩ F.entry_tuple_lt (F.args_tuple_lt_2 _ _) (HT.zgi a.1 b.1 us.toArray us2.toArray n n2 dd dd2 sl sl2 a.2 b.2 a1 b1) ⟨a2,b2,xhl hC⟩
theorem zbfq{B:Around}{sg:Shared} (hu:B.units<cLine)(tup:TupsG sg.heap ps)(emp:∃p∈ps,p.2=[]):Srt.Answers P w B (Srt.rank (ps.map (·.2))) (ps.map λp=>Value.ref p.1) sg:=by
 obtain⟨fs,f1,f2⟩:=zpu (P:=P) (w:=w) (B:=B) (E:=λ_ _=>False) tup;have notAll:¬ (fs.toArray.all λx=>x.isSome)=true:=λz=>by
  have z':fs.all (λx=>x.isSome)=true:=by simpa using z
  obtain⟨p,hp,he⟩:=emp;have m:(!p.2.isEmpty)∈fs.map Option.isSome:=by rw[f1];exact List.mem_map_of_mem (f:=λp:Addr×List Int=>!p.2.isEmpty) hp
  obtain⟨o,ho,e⟩:=xce.mp m;have:=xdp.mp z' o ho;rw[e,he] at this;cases this
 have cmp:∀{κ:SortKind},κ=general'\/κ=oneType'->∀i j C,i<(ps.map λp=>Value.ref p.1).length->j<(ps.map λp=>Value.ref p.1).length->C (Srt.lt (Srt.rank (ps.map (·.2))) i j) sg->kas_ask P w B κ (ps.map λp=>Value.ref p.1) i j C sg:=λ{κ} hκ i j C hi hj hC=>by
  rw[xbc] at hi hj;have ei:ps[i]?=some ps[i]:=xbe hi;have ej:ps[j]?=some ps[j]:=xbe hj;unfold kas_ask;rw[zn (λp:Addr×List Int=>Value.ref p.1) _ ei,zn (λp:Addr×List Int=>Value.ref p.1) _ ej];rw[Srt.zlk (by rw[xbc];exact hi) (by rw[xbc];exact hj),zn (λp:Addr×List Int=>p.2) _ ei,zn (λp:Addr×List Int=>p.2) _ ej] at hC;have one:∀k,(hk:k<ps.length)->TupsG sg.heap [ps[k]]:=λk hk q hq=>by
   rw[xbk.mp hq];exact tup _ (xdi hk)
  exact zbfn hκ hu (one i hi) (one j hj) hC
 by_cases fst:(fs.toArray[0]?.bind id).isSome=true
 ·refine⟨general',λR hR=>?_,cmp (.inl rfl)⟩;rw[kat_kind_eq,xlx,xmp];refine xba (xba (f2 _ (xbd ?_)));rw[if_neg notAll,if_pos fst];exact xbd hR
 ·refine⟨oneType',λR hR=>?_,cmp (.inr rfl)⟩;rw[kat_kind_eq,xlx,xmp];refine xba (xba (f2 _ (xbd ?_)));rw[if_neg notAll,if_neg fst,oneTypeOnly'_eq,xlx,xmp];have ty:∀ v∈(ps.map λp=>Value.ref p.1), ∀ W:Value->Shared->Prop,W (.type "tuple") sg->wpAny (model P w) B (typeOf v) W (λ_ _=>False) sg:=λv hv W hW=>by
   obtain⟨p,hp,rfl⟩:=xce.mp hv;obtain⟨us,o,n,a1,a2,a3,a4⟩:=tup p hp;have lk:Looks (model P w) sg.heap (typeOf (.ref p.1)) o.cls:=(Looks.ld a2).andThen .now;rw[a3] at lk;exact lk.here hW
  refine xba (xba (xba (kas_mapM (r:=Value.type "tuple") _ ty (xbd ?_))))
  obtain⟨p,hp,_⟩:=emp;obtain⟨p0,rest,rfl⟩:∃p0 rest,ps=p0::rest:=by
   cases ps with
   | nil=>exact nomatch hp
   | cons p0 rest=>exact⟨p0,rest,rfl⟩
  have all:((List.map (λ_=>Value.type "tuple") ((p0::rest).map λp=>Value.ref p.1)).toArray.all λx=>x==Value.type "tuple")=true:=by
   rw[List.all_toArray,xdp];intro x hx;obtain⟨_,_,rfl⟩:=xce.mp hx
   rfl
  have zero:(List.map (λ_=>Value.type "tuple") ((p0::rest).map λp=>Value.ref p.1)).toArray[0]?=some (Value.type "tuple"):=by simp
  rw[zero];simp only[all,ite_true];exact xbd (xbd hR)
theorem zbbk{B:Around}{sg:Shared}{ps:List (Addr×List Int)}(hu:B.units<cLine)(h2:2<=ps.length)(tup:TupsG sg.heap ps):Srt.Answers P w B (Srt.rank (ps.map (·.2))) (ps.map λp=>Value.ref p.1) sg:=by
 by_cases c:∃p∈ps,p.2=[]
 ·exact zbfq hu tup c
 ·refine zbfp h2 λi p hi=>?_
  have hp:=xcg hi;obtain⟨us,o,n,a1,a2,a3,a4⟩:=tup p hp;exact⟨us,o,n,a1,a2,a3,a4,λz=>c ⟨p,hp,z⟩⟩
theorem zgy(z:List (Addr×List Int)):Vals (z.map λp=>V.ref p.1) (z.map λp=>Value.ref p.1):=by
 induction z with
 | nil=>exact .nil
 | cons x z ih=>exact .cons rfl ih
end L2
namespace TS
open PySem PyProof.Rows
noncomputable def kA(R:Keyed->Nat) (xs:Array Keyed) (i:Nat):Nat:=match xs[i]? with
 | some p=>R p
 | none=>0
theorem zdj(h:xs[i]?=ys[j]?):kA R xs i=kA R ys j:=by unfold kA;rw[h]
theorem zds(h:xs[i]?=some x):kA R xs i=R x:=by unfold kA;rw[h]
def UpA(R:Keyed->Nat) (xs:Array Keyed) (a b:Nat):Prop:=∀i j,a<=i->i<=j->j<b->kA R xs i<=kA R xs j
def DnA(R:Keyed->Nat) (xs:Array Keyed) (a b:Nat):Prop:=∀i j,a<=i->i<=j->j<b->kA R xs j<=kA R xs i
noncomputable def Orc(prog:Program) (w:World) (A:Around) (s:Shared) (κ:SortKind) (a₀:Array Keyed) (R:Keyed->Nat):Prop :=
 ∀x,x∈a₀.toList->∀y,y∈a₀.toList->∀(C:Bool->Shared->Prop),C (decide (R x<R y)) s->wpAny (model prog w) A (keyLt' κ x.1 y.1) C (λ_ _=>False) s
structure B (κ:SortKind) (a₀:Array Keyed) (au:SortSt):Prop where
 perm:(arrOf au).Perm a₀
 kind:kindOf au=κ
 failed:failedOf au=none
section
variable {κ:SortKind}{a₀:Array Keyed}
theorem B.size{au:SortSt}(h:B κ a₀ au):(arrOf au).size=a₀.size:=h.perm.size_eq
theorem B.set{au:SortSt}(h:B κ a₀ au){xs:Array Keyed}(hp:xs.Perm (arrOf au)):B κ a₀ (setArr au xs):=⟨hp.trans h.perm,h.kind,h.failed⟩
theorem B.mem{au:SortSt}(h:B κ a₀ au){i:Nat}(hi:i<a₀.size):∃x,(arrOf au)[i]?=some x/\x∈a₀.toList:=by
 have hi':i<(arrOf au).size:=by rw[h.size];exact hi
 exact⟨_,getElem?_pos _ i hi',(xfb.mp h.perm).mem_iff.mp (by simp)⟩
end
section
variable {prog:Program}{w:World}{A:Around}{E:Value->Shared->Prop}{s:Shared}{κ:SortKind}{a₀:Array Keyed}{R:Keyed->Nat}
theorem w_lt{x y:Keyed}{au:SortSt}{Q:Option Bool->SortSt->Prop}(O:Orc prog w A s κ a₀ R)(hk:kindOf au=κ)(hx:x∈a₀.toList)(hy:y∈a₀.toList)(h:Q (some (decide (R x<R y))) au):wpS (model prog w) A E s (lt' x y) Q au:=by
 rw[lt'_eq];refine xbi (xhz ?_);rw[hk];refine xbi (xkq (xhy (xdw (O x hx y hy (λb s'=>s'=s/\b=decide (R x<R y)) ⟨rfl,rfl⟩) (λb s' hb=>?_) λ_ _ f=>f.elim)));obtain⟨rfl,rfl⟩:=hb;exact⟨rfl,xbm h⟩
end
section
variable {prog:Program}{w:World}{A:Around}{E:Value->Shared->Prop}{s:Shared}
theorem zkv{arr:Array Keyed}{i:Nat}{x:Keyed}{au:SortSt}{Q:Keyed->SortSt->Prop}(e:arr[i]?=some x)(h:Q x au):wpS (model prog w) A E s (elem' arr i) Q au:=by
 rw[elem'_eq,e];exact xbm h
end
section
variable {prog:Program}{w:World}{A:Around}{E:Value->Shared->Prop}{s:Shared}{κ:SortKind}{a₀:Array Keyed}{R:Keyed->Nat}
theorem zmt{i j:Nat}{au:SortSt}{Q:Option Bool->SortSt->Prop}(O:Orc prog w A s κ a₀ R)(b:B κ a₀ au)(hi:i<a₀.size)(hj:j<a₀.size)(h:Q (some (decide (kA R (arrOf au) i<kA R (arrOf au) j))) au):wpS (model prog w) A E s (ltAt' i j) Q au:=by
 obtain⟨x,e1,m1⟩:=b.mem hi;obtain⟨y,e2,m2⟩:=b.mem hj;rw[zds e1,zds e2] at h;rw[ltAt'_eq];exact xbi (xhz (xbi (zkv e1 (xbi (zkv e2 (w_lt O b.kind m1 m2 h))))))
end
section
variable {prog:Program}{w:World}{A:Around}{E:Value->Shared->Prop}{s:Shared}
theorem zwl{i j:Nat}{au:SortSt}{Q:Unit->SortSt->Prop}(h:Q () (setArr au (mirror (arrOf au) i j ((j - i) / 2)))):wpS (model prog w) A E s (reverseSlice' i j) Q au:=by
 rw[reverseSlice'_eq];exact xgx h
theorem zbml{i j:Nat}{au:SortSt}{Q:Unit->SortSt->Prop}(h:Q () (setArr au (bubble (arrOf au) i (i - j)))):wpS (model prog w) A E s (moveDown' i j) Q au:=by
 rw[moveDown'_eq];exact xgx h
end
theorem zbgd{lo x n N:Nat}(h:x<n)(hn:lo+n<=N):lo+x<N:=xbh (xee h lo) hn
theorem zbgc{lo x n N:Nat}(h:x<n)(hn:lo+n<=N):lo+x - 1<N:=xdc (xgh _ _) (zbgd h hn)
theorem zuj{lo n:Nat}(h:1<=n):lo+n - 1<lo+n:=xib (xbh h (xmr _ _)) Nat.one_pos
theorem zbmf{j lo n:Nat}(h:j<lo+(n+1))(e:¬j=lo+n):j<lo+n:=xdd (xco h) e
theorem zbiv(c2:k<j):i<=i+j - 1 - k:=Nat.le_sub_of_add_le (xdg (xee c2 i))
theorem zbiw(c1:i<=k)(c2:k<j):i+j - 1 - k<j:=xdc (xgp c1 _) (by rw[Nat.sub_right_comm,xcy];exact xib (xkd c2) Nat.one_pos)
theorem zkg{xs:Array Keyed} (hj:j<=xs.size)(k:Nat):kA R (mirror xs i j ((j - i) / 2)) k=if i<=k/\k<j then kA R xs (i+j - 1 - k) else kA R xs k:=by
 have e:=getElem?_mirror_all (i:=i) hj k;split
 ·rename_i c;rw[if_pos c] at e;exact zdj e
 ·rename_i c;rw[if_neg c] at e;exact zdj e
noncomputable def Out(xs ys:Array Keyed) (a b:Nat):Prop:=∀k,k<a\/b<=k->xs[k]?=ys[k]?
theorem Out.refl(xs:Array Keyed)(a b:Nat):Out xs xs a b:=λ_ _=>rfl
theorem Out.trans(h1:Out xs ys a b)(h2:Out ys zs a b):Out xs zs a b:=λk hk=>(h1 k hk).trans (h2 k hk)
theorem Out.mirror{xs:Array Keyed} (hj:j<=xs.size)(hi:a<=i)(hb:j<=b):Out (mirror xs i j ((j - i) / 2)) xs a b:=λk hk=>by
 rw[getElem?_mirror_all (i:=i) hj k,if_neg λz=>hk.elim (λh=>xem (xbb hi z.1) h) λh=>xem (xbb hb h) z.2]
theorem Out.bubble{xs:Array Keyed} (hs:src<xs.size)(hd:d<=src)(ha:a<=src - d)(hb:src<b):Out (bubble xs src d) xs a b:=λk hk=>by
 rw[getElem?_bubble hs d hd k,if_neg λz=>hk.elim (λh=>xem (xbb ha (xdf z.symm)) h) λh=>xem h (xdc (xbb (xdf z) (xgh _ _)) hb),if_neg λz=>hk.elim (λh=>xem (xbb ha (xbu z.1)) h) λh=>xem h (xdc z.2 hb)]
structure Sm (au st':SortSt) (a b:Nat):Prop where
 out:Out (arrOf st') (arrOf au) a b
 pend:pendingOf st'=pendingOf au
section
variable {prog:Program}{w:World}{A:Around}{E:Value->Shared->Prop}{s:Shared}{κ:SortKind}{a₀:Array Keyed}{R:Keyed->Nat}
theorem zbgn{lo a nrem:Nat}{au:SortSt}{Q:Option (Option Nat)×Nat->SortSt->Prop}(O:Orc prog w A s κ a₀ R)(b:B κ a₀ au)(hn:lo+nrem<=a₀.size)(ha:1<=a)(han:a<=nrem)(hs:UpA R (arrOf au) lo (lo+a))
  (h:∀n,a<=n->n<=nrem->UpA R (arrOf au) lo (lo+n)->(n=nrem\/kA R (arrOf au) (lo+n)<kA R (arrOf au) (lo+n - 1))->Q (none,n) au) :
  wpS (model prog w) A E s (forIn [a:nrem] ((none,a):Option (Option Nat)×Nat) λ_ r=>do
   let x ← ltAt' (lo+r.2) (lo+r.2 - 1)
   match x with
   | some smaller=>if smaller=true then pure (ForInStep.done (none,r.2)) else pure (ForInStep.yield (none,r.2+1))
   | _=>pure (ForInStep.done (some none,r.2))) Q au:=by
 refine xds (I:=λx c st'=>st'=au/\c=(none,x)/\UpA R (arrOf au) lo (lo+x)) ?_ ?_ ⟨rfl,rfl,hs⟩
 ·rintro x c st' h1 h2 ⟨rfl,rfl,h3⟩;dsimp only;refine xbi (zmt O b (zbgd h2 hn) (zbgc h2 hn) ?_);by_cases c:kA R (arrOf st') (lo+x)<kA R (arrOf st') (lo+x - 1)
  ·simp only[c,xfo,xeq];exact xbm (h x h1 (xbu h2) h3 (.inr c))
  ·simp only[c,xfc,xcv,xen];refine xbm ⟨rfl,rfl,λi j hi hij hj=>?_⟩;by_cases e:j=lo+x
   ·subst e;by_cases e2:i=lo+x
    ·rw[e2];exact xbf _
    ·exact xbb (h3 i (lo+x - 1) hi (xdg (xdd hij e2)) (zuj (xbb ha h1))) (xcf c)
   ·exact h3 i j hi hij (zbmf hj e)
 ·rintro c st' ⟨rfl,rfl,h3⟩;rw[xmi han] at h3 ⊢;exact h nrem han (xbf _) h3 (.inl rfl)
end
theorem zhp{xs:Array Keyed}{i j:Nat}(hj:j<=xs.size)(he:∀k,i<=k->k<j->kA R xs k=kA R xs (j - 1))(k:Nat):kA R (mirror xs i j ((j - i) / 2)) k=kA R xs k:=by
 rw[zkg hj];split
 ·rename_i c;rw[he _ (zbiv c.2) (zbiw c.1 c.2),he k c.1 c.2]
 ·rfl
structure Fl (κ:SortKind) (a₀:Array Keyed) (R:Keyed->Nat) (st₀ au:SortSt) (lo n neq b:Nat):Prop where
 base:B κ a₀ au
 same:Sm st₀ au lo b
 dn:DnA R (arrOf au) lo (lo+n)
 hq:neq+1<=n
 eqs:∀i,lo+n - (neq+1)<=i->i<lo+n->kA R (arrOf au) i=kA R (arrOf au) (lo+n - 1)
section
variable {κ:SortKind}{a₀:Array Keyed}{R:Keyed->Nat}
theorem Fl.turn{st₀ au:SortSt}{lo n neq b:Nat}(h:Fl κ a₀ R st₀ au lo n neq b)(hb:lo+n<=b)(hs:b<=a₀.size) :
  Fl κ a₀ R st₀ (setArr au (mirror (arrOf au) (lo+n - (neq+1)) (lo+n) ((lo+n - (lo+n - (neq+1))) / 2))) lo n neq b/\∀k,kA R (mirror (arrOf au) (lo+n - (neq+1)) (lo+n) ((lo+n - (lo+n - (neq+1))) / 2)) k=kA R (arrOf au) k:=by
 have hz:=h.base.size;have hq:=h.hq;have hle:lo+n<=(arrOf au).size:=by rw[hz];exact xbb hb hs
 have e:=zhp (R:=R) (xs:=arrOf au) (i:=lo+n - (neq+1)) (j:=lo+n) hle h.eqs;refine⟨⟨h.base.set (mirror_perm _ _ _ _),⟨(Out.mirror hle (Nat.le_sub_of_add_le (xcl hq lo)) hb).trans h.same.out,h.same.pend⟩,λi j a1 a2 a3=>?_,h.hq,λi a1 a2=>?_⟩,e⟩
 ·show kA R (mirror _ _ _ _) j<=kA R (mirror _ _ _ _) i;rw[e,e];exact h.dn i j a1 a2 a3
 ·show kA R (mirror _ _ _ _) i=kA R (mirror _ _ _ _) _;rw[e,e];exact h.eqs i a1 a2
theorem Fl.less{st₀ au:SortSt}{lo n neq b:Nat}(h:Fl κ a₀ R st₀ au lo n neq b)(c:kA R (arrOf au) (lo+n)<=kA R (arrOf au) (lo+n - 1)):DnA R (arrOf au) lo (lo+(n+1)):=λi j a1 a2 a3=>by
 have hq:=h.hq;by_cases e:j=lo+n
 ·subst e;by_cases e2:i=lo+n
  ·rw[e2];exact xbf _
  ·exact xbb c (h.dn i (lo+n - 1) a1 (xdg (xdd a2 e2)) (zuj (xbb (xmr 1 neq) hq)))
 ·exact h.dn i j a1 a2 (zbmf a3 e)
theorem Fl.fresh{st₀ au:SortSt}{lo n neq b:Nat}(h:Fl κ a₀ R st₀ au lo n neq b)(c:kA R (arrOf au) (lo+n)<=kA R (arrOf au) (lo+n - 1)):Fl κ a₀ R st₀ au lo (n+1) 0 b:=⟨h.base,h.same,h.less c,xey (xeb _),λi g1 g2=>by
 have:i=lo+(n+1) - 1:=xdx (xco g2) g1
 rw[this]⟩
theorem Fl.more{st₀ au:SortSt}{lo n neq b:Nat}(h:Fl κ a₀ R st₀ au lo n neq b)(c:kA R (arrOf au) (lo+n)=kA R (arrOf au) (lo+n - 1)):Fl κ a₀ R st₀ au lo (n+1) (neq+1) b:=by
 have hq:=h.hq;refine⟨h.base,h.same,h.less (xdf c),xey hq,λi g1 g2=>?_⟩;rw[show lo+(n+1) - 1=lo+n from rfl];by_cases e:i=lo+n
 ·rw[e]
 ·rw[c];exact h.eqs i (xbb (xdf (Nat.succ_sub_succ (lo+n) (neq+1)).symm) g1) (zbmf g2 e)
end
section
variable {prog:Program}{w:World}{A:Around}{E:Value->Shared->Prop}{s:Shared}{κ:SortKind}{a₀:Array Keyed}{R:Keyed->Nat}
theorem zbgm{lo nrem:Nat}{au:SortSt}{Q:Option Nat->SortSt->Prop}(O:Orc prog w A s κ a₀ R)(b:B κ a₀ au)(hn:lo+nrem<=a₀.size)(h1:1<=nrem)
  (h:∀m st',1<=m->m<=nrem->B κ a₀ st'->Sm au st' lo (lo+nrem)->UpA R (arrOf st') lo (lo+m)->Q (some m) st'):wpS (model prog w) A E s (countRun' lo nrem) Q au:=by
 have sm0:Sm au au lo (lo+nrem):=⟨Out.refl _ _ _,rfl⟩
 have one:∀xs:Array Keyed,UpA R xs lo (lo+1):=λxs i j a1 a2 a3=>by
  have:i=j:=xdx a2 (xbb (xco a3) a1);subst this;exact xbf _
 have oneD:∀xs:Array Keyed,DnA R xs lo (lo+1):=λxs i j a1 a2 a3=>by
  have:i=j:=xdx a2 (xbb (xco a3) a1);subst this;exact xbf _
 rw[countRun'_eq];dsimp only;refine xbi (zbgn O b hn (xbf _) h1 (one _) λn n1 n2 hu hlast=>?_);dsimp only;split
 ·exact xbm (h n au n1 n2 b sm0 hu)
 rename_i hne;have hne':n≠nrem:=λz=>hne (by simp[z])
 have hlt:n<nrem:=xdd n2 hne';have hl:kA R (arrOf au) (lo+n)<kA R (arrOf au) (lo+n - 1):=by
  rcases hlast with z|z
  ·exact absurd z hne'
  ·exact z
 have hz:=b.size;have fin:∀(n:Nat) (st1:SortSt),B κ a₀ st1->Sm au st1 lo (lo+nrem)->1<=n->n<=nrem->DnA R (arrOf st1) lo (lo+n) ->
   B κ a₀ (setArr st1 (mirror (arrOf st1) lo (lo+n) ((lo+n - lo) / 2)))/\Sm au (setArr st1 (mirror (arrOf st1) lo (lo+n) ((lo+n - lo) / 2))) lo (lo+nrem)/\UpA R (mirror (arrOf st1) lo (lo+n) ((lo+n - lo) / 2)) lo (lo+n):=λn st1 b1 sm1 m1 m2 dn1=>by
  have hz:=b1.size;have hm:=xcl m2 lo;have hle:lo+n<=(arrOf st1).size:=by rw[hz];exact xbb hm hn
  refine⟨b1.set (mirror_perm _ _ _ _),⟨(Out.mirror hle (xbf _) hm).trans sm1.out,sm1.pend⟩,λi j a1 a2 a3=>?_⟩;have hi:=xdc a2 a3;rw[zkg hle,zkg hle,if_pos ⟨a1,hi⟩,if_pos ⟨xbb a1 a2,a3⟩];exact dn1 _ _ (zbiv a3) (xgp a2 _) (zbiw a1 hi)
 have eqs:¬ kA R (arrOf au) lo<kA R (arrOf au) (lo+n - 1)->∀k,lo<=k->k<lo+n->kA R (arrOf au) k=kA R (arrOf au) (lo+n - 1):=λc k k1 k2=>by
  have g1:=hu lo k (xbf _) k1 k2;have g2:=hu k (lo+n - 1) k1 (xdg k2) (zuj n1);exact xdx g2 (xbb (xcf c) g1)
 have dnx:∀xs:Array Keyed,(∀k,kA R xs k=kA R (arrOf au) k)->¬ kA R (arrOf au) lo<kA R (arrOf au) (lo+n - 1)->DnA R xs lo (lo+(n+1)):=λxs e c i j a1 a2 a3=>by
  rw[e,e];by_cases e2:j=lo+n
  ·subst e2;by_cases e3:i=lo+n
   ·rw[e3];exact xbf _
   ·rw[eqs c i a1 (xdd a2 e3)];exact xbu hl
  ·have jn:=zbmf a3 e2;rw[eqs c i a1 (xdc a2 jn),eqs c j (xbb a1 a2) jn];exact xbf _
 split
 ·have hle:lo+n<=(arrOf au).size:=by rw[hz];exact xbb (xcl n2 lo) hn
  refine xbi (zmt O b (xbh (xhv h1) hn) (zbgc hlt hn) ?_);by_cases c:kA R (arrOf au) lo<kA R (arrOf au) (lo+n - 1)
  ·simp only[c,xfo,xeq];exact xbm (h n au n1 n2 b sm0 hu)
  ·simp only[c,xfc,xcv,xen];refine xbi (zwl ?_);have b1:B κ a₀ (setArr au (mirror (arrOf au) lo (lo+n) ((lo+n - lo) / 2))):=b.set (mirror_perm _ _ _ _);have sm1:Sm au (setArr au (mirror (arrOf au) lo (lo+n) ((lo+n - lo) / 2))) lo (lo+nrem):=⟨Out.mirror hle (xbf _) (xcl n2 lo),rfl⟩
   have dn1:DnA R (arrOf (setArr au (mirror (arrOf au) lo (lo+n) ((lo+n - lo) / 2)))) lo (lo+(n+1)):=dnx _ (zhp hle (eqs c)) c;generalize (setArr au (mirror (arrOf au) lo (lo+n) ((lo+n - lo) / 2)))=st1 at b1 sm1 dn1 ⊢;refine xbi (xkq (xih ⟨rfl,?_⟩));refine xbi (xfn (xds (I:=λx c st'=>∃neq,c=(none,x,neq)/\Fl κ a₀ R au st' lo x neq (lo+nrem)) (Q:=λc st'=>∃m neq,c=(none,m,neq)/\n+1<=m/\m<=nrem/\Fl κ a₀ R au st' lo m neq (lo+nrem)) ?_ ?_ ?_) ?_)
   ·rintro x c st' a1 a2 ⟨neq,rfl,f⟩;dsimp only;refine xbi (zmt O f.base (zbgd a2 hn) (zbgc a2 hn) ?_);by_cases c:kA R (arrOf st') (lo+x)<kA R (arrOf st') (lo+x - 1)
    ·simp only[c,xfo,xeq];split
     ·obtain⟨f2,e⟩:=f.turn (xcl (xbu a2) lo) hn;refine xbi (zwl (xbm ⟨0,rfl,f2.fresh ?_⟩));refine xbu (?_:kA R (mirror _ _ _ _) _<kA R (mirror _ _ _ _) _);rw[e,e];exact c
     ·exact xbm ⟨0,rfl,f.fresh (xbu c)⟩
    ·simp only[c,xfc,xcv,xen];refine xbi (zmt O f.base (zbgc a2 hn) (zbgd a2 hn) ?_);by_cases c2:kA R (arrOf st') (lo+x - 1)<kA R (arrOf st') (lo+x)
     ·simp only[c2,xfo,xeq];exact xbm ⟨x,neq,rfl,a1,xbu a2,f⟩
     ·simp only[c2,xfc,xcv,xen];exact xbm ⟨neq+1,rfl,f.more (xdx (xcf c2) (xcf c))⟩
   ·rintro c st' ⟨neq,rfl,f⟩;rw[xmi hlt] at f ⊢;exact⟨nrem,neq,rfl,hlt,xbf _,f⟩
   ·exact⟨0,rfl,b1,sm1,dn1,xey (xeb _),λi g1 g2=>by
     have:i=lo+(n+1) - 1:=xdx (xco g2) g1
     rw[this]⟩
   ·rintro c st' ⟨m,neq,rfl,a1,a2,f⟩;dsimp only;split
    ·obtain⟨f2,e⟩:=f.turn (xcl a2 lo) hn;refine xbi (zwl (xbi (zwl ?_)));obtain⟨b3,s3,u3⟩:=fin m _ f2.base f2.same (xdl a1) a2 f2.dn;exact xbi (zbgn O b3 hn (xdl a1) a2 u3 λm' m1 m2 hu' _=>xbm (h m' _ (xbb (xdl a1) m1) m2 b3 s3 hu'))
    ·refine xbi (zwl ?_);obtain⟨b3,s3,u3⟩:=fin m _ f.base f.same (xdl a1) a2 f.dn;exact xbi (zbgn O b3 hn (xdl a1) a2 u3 λm' m1 m2 hu' _=>xbm (h m' _ (xbb (xdl a1) m1) m2 b3 s3 hu'))
 ·rename_i hn1;have b1:=b;have sm1:=sm0
  have dn1:DnA R (arrOf au) lo (lo+(n+1)):=dnx _ (λ_=>rfl) (by
   have:n=1:=xdx (xcf hn1) n1;subst this
   simp)
  refine xbi (xkq (xih ⟨rfl,?_⟩));refine xbi (xfn (xds (I:=λx c st'=>∃neq,c=(none,x,neq)/\Fl κ a₀ R au st' lo x neq (lo+nrem)) (Q:=λc st'=>∃m neq,c=(none,m,neq)/\n+1<=m/\m<=nrem/\Fl κ a₀ R au st' lo m neq (lo+nrem)) ?_ ?_ ?_) ?_)
  ·rintro x c st' a1 a2 ⟨neq,rfl,f⟩;dsimp only;refine xbi (zmt O f.base (zbgd a2 hn) (zbgc a2 hn) ?_);by_cases c:kA R (arrOf st') (lo+x)<kA R (arrOf st') (lo+x - 1)
   ·simp only[c,xfo,xeq];split
    ·obtain⟨f2,e⟩:=f.turn (xcl (xbu a2) lo) hn;refine xbi (zwl (xbm ⟨0,rfl,f2.fresh ?_⟩));refine xbu (?_:kA R (mirror _ _ _ _) _<kA R (mirror _ _ _ _) _);rw[e,e];exact c
    ·exact xbm ⟨0,rfl,f.fresh (xbu c)⟩
   ·simp only[c,xfc,xcv,xen];refine xbi (zmt O f.base (zbgc a2 hn) (zbgd a2 hn) ?_);by_cases c2:kA R (arrOf st') (lo+x - 1)<kA R (arrOf st') (lo+x)
    ·simp only[c2,xfo,xeq];exact xbm ⟨x,neq,rfl,a1,xbu a2,f⟩
    ·simp only[c2,xfc,xcv,xen];exact xbm ⟨neq+1,rfl,f.more (xdx (xcf c2) (xcf c))⟩
  ·rintro c st' ⟨neq,rfl,f⟩;rw[xmi hlt] at f ⊢;exact⟨nrem,neq,rfl,hlt,xbf _,f⟩
  ·exact⟨0,rfl,b1,sm1,dn1,xey (xeb _),λi g1 g2=>by
    have:i=lo+(n+1) - 1:=xdx (xco g2) g1
    rw[this]⟩
  ·rintro c st' ⟨m,neq,rfl,a1,a2,f⟩;dsimp only;split
   ·obtain⟨f2,e⟩:=f.turn (xcl a2 lo) hn;refine xbi (zwl (xbi (zwl ?_)));obtain⟨b3,s3,u3⟩:=fin m _ f2.base f2.same (xdl a1) a2 f2.dn;exact xbi (zbgn O b3 hn (xdl a1) a2 u3 λm' m1 m2 hu' _=>xbm (h m' _ (xbb (xdl a1) m1) m2 b3 s3 hu'))
   ·refine xbi (zwl ?_);obtain⟨b3,s3,u3⟩:=fin m _ f.base f.same (xdl a1) a2 f.dn;exact xbi (zbgn O b3 hn (xdl a1) a2 u3 λm' m1 m2 hu' _=>xbm (h m' _ (xbb (xdl a1) m1) m2 b3 s3 hu'))
end
theorem zpo{xs:Array Keyed} (hs:src<xs.size)(hd:d<=src)(k:Nat):kA R (bubble xs src d) k=if k=src - d then kA R xs src else if src - d<k/\k<=src then kA R xs (k - 1) else kA R xs k:=by
 have e:=getElem?_bubble hs d hd k;split
 ·rename_i c;rw[if_pos c] at e;exact zdj e
 ·rename_i c;rw[if_neg c] at e;split
  ·rename_i c2;rw[if_pos c2] at e;exact zdj e
  ·rename_i c2;rw[if_neg c2] at e;exact zdj e
theorem zkf(h1:a<=b)(h:b - a<=n - max 0 n):b=a:=by
 rw[Nat.zero_max,xjn] at h;exact xdx (Nat.le_of_sub_eq_zero (Nat.le_zero.mp h)) h1
theorem zboz(h:¬l ≥ r):l<=(l+r) / 2:=(Nat.le_div_iff_mul_le xmv).mpr (by rw[Nat.mul_two];exact xcl (xbu (xfy h)) l)
theorem zbmg(h:¬l ≥ r):(l+r) / 2<r:=(Nat.div_lt_iff_lt_mul xmv).mpr (by rw[Nat.mul_two];exact Nat.add_lt_add_right (xfy h) r)
theorem hf_l(h:¬l ≥ r)(g:r - l<=k - x):(l+r) / 2 - l<=k - (x+1):=xbb (xdg (xej (zboz h) (zbmg h))) (xfq g 1)
theorem hf_r(h:¬l ≥ r)(g:r - l<=k - x):r - ((l+r) / 2+1)<=k - (x+1):=xbb (xgp (xey (zboz h)) r) (xfq g 1)
theorem zbcm(h:p<j)(h2:j<=q):j - 1<q:=xbh (xib (xkd h) Nat.one_pos) h2
section
variable {prog:Program}{w:World}{A:Around}{E:Value->Shared->Prop}{s:Shared}{κ:SortKind}{a₀:Array Keyed}{R:Keyed->Nat}
theorem zbsg{lo n ok:Nat}{au:SortSt}{Q:Bool->SortSt->Prop}(O:Orc prog w A s κ a₀ R)(b:B κ a₀ au)(hn:lo+n<=a₀.size)(h1:1<=ok)(h2:ok<=n)(up:UpA R (arrOf au) lo (lo+ok))
  (h:∀st',B κ a₀ st'->Sm au st' lo (lo+n)->UpA R (arrOf st') lo (lo+n)->Q true st'):wpS (model prog w) A E s (binarySort' lo n ok) Q au:=by
 rw[binarySort'_eq]
 refine xbi (xfn (xds (I:=λk c st'=>c=(none,())/\B κ a₀ st'/\Sm au st' lo (lo+n)/\UpA R (arrOf st') lo (lo+min k n))
  (Q:=λc st'=>c=(none,())/\B κ a₀ st'/\Sm au st' lo (lo+n)/\UpA R (arrOf st') lo (lo+n)) ?_ ?_ ?_) ?_)
 ·rintro k c st' k1 k2 ⟨rfl,b1,sm1,up1⟩;rw[xek (xbu k2)] at up1;have hz:=b1.size;have hk:lo+k<a₀.size:=xbh (xee k2 lo) hn
  refine xbi (xfn (xds (I:=λx c st2=>st2=st'/\∃l r,c=(none,l,r)/\l<=r/\r<=k/\r - l<=k - x/\(∀i,i<l->kA R (arrOf st') (lo+i)<=kA R (arrOf st') (lo+k))/\(∀i,r<=i->i<k->kA R (arrOf st') (lo+k)<=kA R (arrOf st') (lo+i)))
   (Q:=λc st2=>st2=st'/\∃l r,c=(none,l,r)/\l<=k/\(∀i,i<l->kA R (arrOf st') (lo+i)<=kA R (arrOf st') (lo+k))/\(∀i,l<=i->i<k->kA R (arrOf st') (lo+k)<=kA R (arrOf st') (lo+i))) ?_ ?_ ?_) ?_)
  ·rintro x c st2 x1 x2 ⟨rfl,l,r,rfl,g1,g2,g3,g4,g5⟩;dsimp only;by_cases hge:l ≥ r
   ·rw[if_pos hge];have e:l=r:=xdx g1 hge;subst e;exact xbm ⟨rfl,l,l,rfl,g2,g4,g5⟩
   ·have hm:lo+(l+r) / 2<lo+k:=xee (xbh (zbmg hge) g2) lo;rw[if_neg hge];refine xbi (zmt O b1 hk (xiq hm hk) ?_);by_cases c:kA R (arrOf st2) (lo+k)<kA R (arrOf st2) (lo+(l+r) / 2)
    ·simp only[c,xfo,xeq];exact xbm ⟨rfl,l,(l+r) / 2,rfl,zboz hge,xbb (xbu (zbmg hge)) g2,hf_l hge g3,g4,λi a1 a2=>xbb (xbu c) (up1 _ _ (xby _ _) (xcl a1 lo) (xee a2 lo))⟩
    ·simp only[c,xfc,xcv,xen];exact xbm ⟨rfl,(l+r) / 2+1,r,rfl,zbmg hge,g2,hf_r hge g3,λi a1=>xbb (up1 (lo+i) (lo+(l+r) / 2) (xby _ _) (xcl (xco a1) lo) hm) (xcf c),g5⟩
  ·rintro c st2 ⟨rfl,l,r,rfl,g1,g2,g3,g4,g5⟩;have e:=zkf g1 g3;subst e;exact⟨rfl,_,_,rfl,g2,g4,g5⟩
  ·exact⟨rfl,0,k,rfl,xeb _,xbf _,xbf _,λi hi=>absurd hi (Nat.not_lt_zero _),λi a1 a2=>absurd a2 (xem a1)⟩
  ·rintro c st2 ⟨rfl,l,r,rfl,g1,g2,g3⟩;dsimp only;have hd:lo+k - (lo+k - (lo+l))=lo+l:=Nat.sub_sub_self (xcl g1 lo);have hs:lo+k<(arrOf st2).size:=by rw[hz];exact hk
   refine xbi (zbml (xbm ⟨rfl,b1.set (bubble_perm _ _ _),⟨(Out.bubble hs (xgh _ _) (by rw[hd];exact xby _ _) (xee k2 lo)).trans sm1.out,sm1.pend⟩,λi j a1 a2 a3=>?_⟩));show kA R (bubble (arrOf st2) (lo+k) (lo+k - (lo+l))) i<=kA R (bubble (arrOf st2) (lo+k) (lo+k - (lo+l))) j;rw[zpo hs (xgh _ _),zpo hs (xgh _ _),hd];rw[xek k2] at a3;have hj:j<=lo+k:=xco a3;have low:∀q,lo<=q->q<lo+l->kA R (arrOf st2) q<=kA R (arrOf st2) (lo+k):=λq q1 q2=>by
    have:=g2 (q - lo) (xdu q1 q2);rw[xci q1] at this;exact this
   have hig:∀q,lo+l<=q->q<lo+k->kA R (arrOf st2) (lo+k)<=kA R (arrOf st2) q:=λq q1 q2=>by
    have q0:=xbb (xby _ _) q1;have:=g3 (q - lo) (xev q1) (xdu q0 q2);rw[xci q0] at this;exact this
   by_cases i1:i=lo+l
   ·rw[if_pos i1];by_cases j1:j=lo+l
    ·rw[if_pos j1];exact xbf _
    ·have jj:=xdd (i1 ▸ a2) (xep j1);rw[if_neg j1,if_pos ⟨jj,hj⟩];exact hig _ (xdg jj) (zbcm jj hj)
   ·rw[if_neg i1];by_cases i2:lo+l<i/\i<=lo+k
    ·have jj:=xbh i2.1 a2;rw[if_pos i2,if_neg (xip jj),if_pos ⟨jj,hj⟩];exact up1 _ _ (xbb (xby lo l) (xdg i2.1)) (xfq a2 1) (zbcm jj hj)
    ·have il:i<lo+l:=xdd (xcf λz=>i2 ⟨z,xbb a2 hj⟩) i1;rw[if_neg i2];by_cases j1:j=lo+l
     ·rw[if_pos j1];exact low i a1 il
     ·rw[if_neg j1];by_cases j2:lo+l<j/\j<=lo+k
      ·rw[if_pos j2];exact up1 _ _ a1 (xdg (xiq il j2.1)) (zbcm j2.1 hj)
      ·rw[if_neg j2];exact up1 _ _ a1 a2 (xbh (xdd (xcf λz=>j2 ⟨z,hj⟩) j1) (xcl g1 lo))
 ·rintro c st' ⟨rfl,b1,sm1,up1⟩;rw[xit (Nat.le_max_right _ _)] at up1;exact⟨rfl,b1,sm1,up1⟩
 ·refine⟨rfl,b,⟨Out.refl _ _ _,rfl⟩,λi j a1 a2 a3=>up i j a1 a2 (xbh a3 (xcl (xbb (xic _ _) (xdf (Nat.max_eq_left h1))) lo))⟩
 ·rintro c st' ⟨rfl,b1,sm1,up1⟩;exact xbm (h st' b1 sm1 up1)
end
noncomputable def gallop':Bool->Keyed->Array Keyed->Nat->Nat->Nat->StateT SortSt Sem (Option Nat):=sortPriv% PySem.Builtin.gallop
def Cut(left:Bool) (R:Keyed->Nat) (key:Keyed) (arr:Array Keyed) (base n h:Nat):Prop:=h<=n/\(∀i,i<h->if left then kA R arr (base+i)<R key else kA R arr (base+i)<=R key)/\(∀i,h<=i->i<n->if left then R key<=kA R arr (base+i) else R key<kA R arr (base+i))
def ahead(left:Bool) (R:Keyed->Nat) (key:Keyed) (arr:Array Keyed) (base i:Nat):Bool:=if left then decide (kA R arr (base+i)<R key) else decide (kA R arr (base+i)<=R key)
section
variable {prog:Program}{w:World}{A:Around}{E:Value->Shared->Prop}{s:Shared}{κ:SortKind}{a₀:Array Keyed}{R:Keyed->Nat}
theorem zkw{left:Bool}{key:Keyed}{arr:Array Keyed}{base i:Nat}{au:SortSt}{Q:Option Bool->SortSt->Prop}(O:Orc prog w A s κ a₀ R)(hk:kindOf au=κ)(mk:key∈a₀.toList)(ma:∃x,arr[base+i]?=some x/\x∈a₀.toList)(h:Q (some (ahead left R key arr base i)) au) :
  wpS (model prog w) A E s (do
   let x ← elem' arr (base+i)
   if left=true then lt' x key else do
    let y ← lt' key x
    pure (Option.map (λx=>!x) y)) Q au:=by
 obtain⟨x,e,m⟩:=ma;refine xbi (zkv e ?_);unfold ahead at h;rw[zds e] at h;cases left with
 | true =>
  rw[if_pos rfl] at h ⊢;exact w_lt O hk m mk h
 | false =>
  rw[if_neg (by decide)] at h ⊢;refine xbi (w_lt O hk mk m (xbm ?_));have q:(!decide (R key<R x))=decide (R x<=R key):=by
   by_cases c:R key<R x
   ·rw[xcs c,xcc (Nat.not_le_of_lt c)];rfl
   ·rw[xcc c,xcs (xcf c)];rfl
  show Q (some (!decide (R key<R x))) au;rw[q];exact h
end
theorem zwa(up:UpA R arr base (base+n))(hij:i<=j)(hj:j<n)(h:ahead left R key arr base j=true):ahead left R key arr base i=true:=by
 have:=up (base+i) (base+j) (xby _ _) (xcl hij _) (xee hj _);unfold ahead at h ⊢;cases left with
 | true=>rw[if_pos rfl] at h ⊢;exact xcs (xdc this (xef h))
 | false=>rw[if_neg (by decide)] at h ⊢;exact xcs (xbb this (xef h))
theorem zble(h0:h<=n)(h1:∀i,i<h->ahead left R key arr base i=true)(h2:∀i,h<=i->i<n->ahead left R key arr base i=false):Cut left R key arr base n h:=by
 refine⟨h0,λi hi=>?_,λi a1 a2=>?_⟩
 ·have:=h1 i hi;unfold ahead at this;cases left with
  | true=>rw[if_pos rfl] at this ⊢;exact xef this
  | false=>rw[if_neg (by decide)] at this ⊢;exact xef this
 ·have:=h2 i a1 a2;unfold ahead at this;cases left with
  | true=>rw[if_pos rfl] at this ⊢;exact xcf (xlr this)
  | false=>rw[if_neg (by decide)] at this ⊢;exact xfy (xlr this)
theorem zbaq(c:¬a ≥ b):(b - a) / 2<b - a:=Nat.div_lt_self (xfs (xfy c)) (xbf 2)
theorem zbok(c:¬a ≥ b):a+(b - a) / 2<b:=xdy (zbaq c)
theorem zbfy(c:¬a ≥ b)(h:b<=n):a+(b - a) / 2<n:=xbh (zbok c) h
theorem zbiy(h:b - a<=n - x):b - (a+(b - a) / 2+1)<=n - (x+1):=xbb (xgp (xey (xby a _)) b) (xfq h 1)
theorem zbix(c:¬a ≥ b)(h:b - a<=n - x):a+(b - a) / 2 - a<=n - (x+1):=by
 rw[xcy];exact xbb (xdg (zbaq c)) (xfq h 1)
theorem zbkr(o:Nat):o<2 * o+1:=xlv (xkk o xmv)
theorem zbks(h:x+1<=o):x+1+1<=2 * o+1:=xey (xbb h (xkk o xmv))
theorem zbgt{a b n:Nat}(h:a+b<n):b<n - a:=Nat.lt_sub_of_add_lt (Nat.add_comm a b ▸ h)
inductive GI (f:Nat->Bool) (n:Nat) (au:SortSt) (x:Nat):Option (Option Nat)×Nat×Nat->SortSt->Prop where
 | mk {a b:Nat} (q1:a<=b) (q2:b<=n) (q3:b - a<=n - x) (q4:∀i,i<a->f i=true) (q5:∀i,b<=i->i<n->f i=false):GI f n au x (none,a,b) au
inductive GE (f:Nat->Bool) (n:Nat) (au:SortSt):Option (Option Nat)×Nat×Nat->SortSt->Prop where
 | mk {b:Nat} (q2:b<=n) (q4:∀i,i<b->f i=true) (q5:∀i,b<=i->i<n->f i=false):GE f n au (none,b,b) au
inductive GU (f:Nat->Bool) (n hint:Nat) (P:Nat->Prop) (au:SortSt):Option (Option Nat)×Nat×Nat->SortSt->Prop where
 | mk {l o:Nat} (g1:l<o) (g2:hint+l<n) (g3:f (hint+l)=true) (g4:P o):GU f n hint P au (none,l,o) au
inductive GD (f:Nat->Bool) (hint:Nat) (P:Nat->Prop) (au:SortSt):Option (Option Nat)×Nat×Nat->SortSt->Prop where
 | mk {l o:Nat} (g1:l<o) (g2:l<=hint) (g3:f (hint - l)=false) (g4:P o):GD f hint P au (none,l,o) au
section
variable {prog:Program}{w:World}{A:Around}{E:Value->Shared->Prop}{s:Shared}{κ:SortKind}{a₀:Array Keyed}{R:Keyed->Nat}
theorem zga{left:Bool}{key:Keyed}{arr:Array Keyed}{base n hint:Nat}{au:SortSt}{Q:Option Nat->SortSt->Prop}(O:Orc prog w A s κ a₀ R)(hk:kindOf au=κ)(mk:key∈a₀.toList)(ma:∀i,i<n->∃x,arr[base+i]?=some x/\x∈a₀.toList)(hh:hint<n)
  (up:UpA R arr base (base+n))(h:∀k,Cut left R key arr base n k->Q (some k) au):wpS (model prog w) A E s (gallop' left key arr base n hint) Q au:=by
 have mono:∀i j,i<=j->j<n->ahead left R key arr base j=true->ahead left R key arr base i=true:=λi j a1 a2=>zwa up a1 a2
 have monoF:∀i j,i<=j->j<n->ahead left R key arr base i=false->ahead left R key arr base j=false:=λi j a1 a2 e=>by
  cases c:ahead left R key arr base j with
  | false=>rfl
  | true=>rw[mono i j a1 a2 c] at e;cases e
 refine xbi (zkw O hk mk (ma hint hh) ?_);dsimp only;cases hr:ahead left R key arr base hint with
 | true =>
  rw[if_pos rfl];refine xbi (xfn (xds (I:=λx=>GU (ahead left R key arr base) n hint (x+1<=·) au) (Q:=GU (ahead left R key arr base) n hint (λo=>n - hint<=o\/(hint+o<n/\ahead left R key arr base (hint+o)=false)) au) ?_ ?_ ?_) ?_)
  ·rintro x c st' x1 x2 @⟨l,o,g1,g2,g3,g4⟩;dsimp only;by_cases c:o ≥ n - hint
   ·rw[if_pos c];exact xbm (.mk g1 g2 g3 (.inl c))
   ·have c3:hint+o<n:=xdy (xfy c);rw[if_neg c];refine xbi (zkw O hk mk (ma (hint+o) c3) ?_);dsimp only;cases c2:ahead left R key arr base (hint+o) with
    | true=>exact xbm (.mk (zbkr o) c3 c2 (zbks g4))
    | false=>exact xbm (.mk g1 g2 g3 (.inr ⟨c3,c2⟩))
  ·rintro c st' @⟨l,o,g1,g2,g3,g4⟩;rw[Nat.zero_max] at g4;exact .mk g1 g2 g3 (.inl (xbb (xgh _ _) (xdj g4)))
  ·exact .mk Nat.one_pos hh hr (xbf _)
  ·rintro c st' @⟨l,o,g1,g2,g3,g4⟩;dsimp only;have f1:∀i,i<hint+l+1->ahead left R key arr base i=true:=λi hi=>mono i (hint+l) (xco hi) g2 g3
   have f2:∀i,hint+min o (n - hint)<=i->i<n->ahead left R key arr base i=false:=λi a1 a2=>by
    rcases g4 with g|⟨ga,gb⟩
    ·rw[xit g,xci (xbu hh)] at a1;exact absurd a2 (xem a1)
    ·rw[xek (xbu (zbgt ga))] at a1;exact monoF (hint+o) i a1 a2 gb
   have f3:hint+l+1<=hint+min o (n - hint):=xcl (Nat.le_min.mpr ⟨g1,zbgt g2⟩) hint;have f4:hint+min o (n - hint)<=n:=xbb (xcl (xgq _ _) hint) (xdf (xci (xbu hh)));generalize hint+l+1=lo at f1 f3 ⊢;generalize hint+min o (n - hint)=hi at f2 f3 f4 ⊢;refine xbi (xfn (xds (I:=GI (ahead left R key arr base) n au) (Q:=GE (ahead left R key arr base) n au) ?_ ?_ (.mk f3 f4 (xbb (xgh _ _) f4) f1 f2)) ?_)
   ·rintro x c st2 x1 x2 @⟨a,b,q1,q2,q3,q4,q5⟩;dsimp only;by_cases c:a ≥ b
    ·rw[if_pos c];have e:b=a:=xdx c q1;subst e;exact xbm (.mk q2 q4 q5)
    ·rw[if_neg c];refine xbi (zkw O hk mk (ma (a+(b - a) / 2) (zbfy c q2)) ?_);dsimp only;cases c2:ahead left R key arr base (a+(b - a) / 2) with
     | true=>exact xbm (.mk (zbok c) q2 (zbiy q3) (λi hi=>mono i (a+(b - a) / 2) (xco hi) (zbfy c q2) c2) q5)
     | false=>exact xbm (.mk (xby _ _) (xbu (zbfy c q2)) (zbix c q3) q4 λi a1 a2=>monoF (a+(b - a) / 2) i a1 a2 c2)
   ·rintro c st2 @⟨a,b,q1,q2,q3,q4,q5⟩;have e:=zkf q1 q3;subst e;exact .mk q2 q4 q5
   ·rintro c st2 @⟨b,q2,q4,q5⟩;exact xbm (h b (zble q2 q4 q5))
 | false =>
  rw[if_neg (by decide)];refine xbi (xfn (xds (I:=λx=>GD (ahead left R key arr base) hint (x+1<=·) au) (Q:=GD (ahead left R key arr base) hint (λo=>hint+1<=o\/(o<=hint/\ahead left R key arr base (hint - o)=true)) au) ?_ ?_ ?_) ?_)
  ·rintro x c st' x1 x2 @⟨l,o,g1,g2,g3,g4⟩;dsimp only;by_cases c:o ≥ hint+1
   ·rw[if_pos c];exact xbm (.mk g1 g2 g3 (.inl c))
   ·rw[if_neg c];refine xbi (zkw O hk mk (ma (hint - o) (xdc (xgh _ _) hh)) ?_);dsimp only;cases c2:ahead left R key arr base (hint - o) with
    | true=>exact xbm (.mk g1 g2 g3 (.inr ⟨xco (xfy c),c2⟩))
    | false=>exact xbm (.mk (zbkr o) (xco (xfy c)) c2 (zbks g4))
  ·rintro c st' @⟨l,o,g1,g2,g3,g4⟩;rw[Nat.zero_max] at g4;exact .mk g1 g2 g3 (.inl (xbb hh (xdj g4)))
  ·exact .mk Nat.one_pos (xeb _) hr (xbf _)
  ·rintro c st' @⟨l,o,g1,g2,g3,g4⟩;dsimp only;have f1:∀i,i<hint+1 - min o (hint+1)->ahead left R key arr base i=true:=λi hi=>by
    rcases g4 with g|⟨ga,gb⟩
    ·rw[xit g,xjn] at hi;exact absurd hi (Nat.not_lt_zero _)
    ·rw[xek (xft ga),Nat.succ_sub ga] at hi;exact mono i (hint - o) (xco hi) (xdc (xgh _ _) hh) gb
   have f2:∀i,hint - l<=i->i<n->ahead left R key arr base i=false:=λi a1 a2=>monoF (hint - l) i a1 a2 g3
   have f3:hint+1 - min o (hint+1)<=hint - l:=xbb (xgp (Nat.le_min.mpr ⟨g1,xey g2⟩) _) (xdf (Nat.succ_sub_succ hint l));have f4:hint - l<=n:=xbb (xgh _ _) (xbu hh);generalize hint+1 - min o (hint+1)=lo at f1 f3 ⊢;generalize hint - l=hi at f2 f3 f4 ⊢;refine xbi (xfn (xds (I:=GI (ahead left R key arr base) n au) (Q:=GE (ahead left R key arr base) n au) ?_ ?_ (.mk f3 f4 (xbb (xgh _ _) f4) f1 f2)) ?_)
   ·rintro x c st2 x1 x2 @⟨a,b,q1,q2,q3,q4,q5⟩;dsimp only;by_cases c:a ≥ b
    ·rw[if_pos c];have e:b=a:=xdx c q1;subst e;exact xbm (.mk q2 q4 q5)
    ·rw[if_neg c];refine xbi (zkw O hk mk (ma (a+(b - a) / 2) (zbfy c q2)) ?_);dsimp only;cases c2:ahead left R key arr base (a+(b - a) / 2) with
     | true=>exact xbm (.mk (zbok c) q2 (zbiy q3) (λi hi=>mono i (a+(b - a) / 2) (xco hi) (zbfy c q2) c2) q5)
     | false=>exact xbm (.mk (xby _ _) (xbu (zbfy c q2)) (zbix c q3) q4 λi a1 a2=>monoF (a+(b - a) / 2) i a1 a2 c2)
   ·rintro c st2 @⟨a,b,q1,q2,q3,q4,q5⟩;have e:=zkf q1 q3;subst e;exact .mk q2 q4 q5
   ·rintro c st2 @⟨b,q2,q4,q5⟩;exact xbm (h b (zble q2 q4 q5))
end
noncomputable abbrev Ord(R:Keyed->Nat) (l:List Keyed):Prop:=l.Pairwise λx y=>R x<=R y
structure SmG (au st':SortSt):Prop where
 arr:arrOf st'=arrOf au
 pend:pendingOf st'=pendingOf au
 kind:kindOf st'=kindOf au
 failed:failedOf st'=failedOf au
theorem SmG.refl(au:SortSt):SmG au au:=⟨rfl,rfl,rfl,rfl⟩
theorem SmG.trans(x:SmG a b)(y:SmG b c):SmG a c:=⟨y.arr.trans x.arr,y.pend.trans x.pend,y.kind.trans x.kind,y.failed.trans x.failed⟩
noncomputable def mergeLo':Array Keyed->Array Keyed->StateT SortSt Sem (Array Keyed):=sortPriv% PySem.Builtin.mergeLo
noncomputable def mergeHi':Array Keyed->Array Keyed->StateT SortSt Sem (Array Keyed):=sortPriv% PySem.Builtin.mergeHi
structure ML (R:Keyed->Nat) (all out rest:List Keyed):Prop where
 perm:(out++rest).Perm all
 ord:Ord R out
 le:∀x∈out,∀y∈rest,R x<=R y
theorem ML.grow{rest:List Keyed}(m:ML R all out rest)(p:rest.Perm (xs++rest'))(o:Ord R xs)(h:∀x∈xs,∀y∈rest',R x<=R y):ML R all (out++xs) rest':=by
 refine⟨?_,xfr.mpr ⟨m.ord,o,λx hx y hy=>m.le x hx y (p.mem_iff.mpr (xex _ hy))⟩,λx hx y hy=>?_⟩
 ·rw[xcj];exact(xga out p.symm).trans m.perm
 ·rcases xbz.mp hx with hx|hx
  ·exact m.le x hx y (p.mem_iff.mpr (xdk _ hy))
  ·exact h x hx y hy
theorem ML.fin{rest rest':List Keyed}(m:ML R all out rest)(p:rest'.Perm rest)(o:Ord R rest'):(out++rest').Perm all/\Ord R (out++rest') :=
 ⟨(xga out p).trans m.perm,xfr.mpr ⟨m.ord,o,λx hx y hy=>m.le x hx y (p.mem_iff.mp hy)⟩⟩
theorem Ord.at(h:Ord R l){i j:Nat} (hi:l[i]?=some x)(hj:l[j]?=some y)(hij:i<=j):R x<=R y:=by
 obtain⟨h1,e1⟩:=xbj.mp hi;obtain⟨h2,e2⟩:=xbj.mp hj;by_cases c:i=j
 ·subst c;rw[← e1,← e2];exact xbf _
 ·rw[← e1,← e2];exact xfh.mp h i j h1 h2 (xdd hij c)
theorem Ord.drop(h:Ord R l)(n:Nat):Ord R (l.drop n):=xgb (xly _ _) h
theorem Ord.take(h:Ord R l)(n:Nat):Ord R (l.take n):=xgb (xkc _ _) h
theorem zbg{l:List Keyed} (h:y∈l.drop n):∃j,n<=j/\l[j]?=some y:=by
 obtain⟨i,hi,e⟩:=xes h;refine⟨n+i,xby _ _,?_⟩;rw[← e,xlz];exact xbe _
theorem zy{l:List Keyed} (h:y∈l.take n):∃j,j<n/\l[j]?=some y:=by
 obtain⟨i,hi,e⟩:=xes h;have hi2:i<n/\i<l.length:=by rw[xdh] at hi;exact Nat.lt_min.mp hi
 refine⟨i,hi2.1,?_⟩;rw[← e,xma];exact xbe _
theorem zhu{l:List Keyed}{i:Nat}{x:Keyed}(h:l[i]?=some x):l.drop i=x::l.drop (i+1):=by
 obtain⟨h1,rfl⟩:=xbj.mp h;exact xgf h1
theorem zmb(l:List Keyed)(i k:Nat):l.drop i=(l.drop i).take k++l.drop (i+k):=by
 rw[← xlk,xdm]
structure Two (R:Keyed->Nat) (la lb:List Keyed):Prop where
 oa:Ord R la
 ob:Ord R lb
 last:∀x,la[la.length - 1]?=some x->∀y∈lb,R y<=R x
def Fin(R:Keyed->Nat) (la lb:List Keyed) (r:Array Keyed):Prop:=r.toList.Perm (la++lb)/\Ord R r.toList
section
variable {la:List Keyed}{lb:List Keyed}{out:Array Keyed}{ia:Nat}{ib:Nat}
theorem ML.pushB{R:Keyed->Nat}{all:List Keyed}(T:Two R la lb)(m:ML R all out.toList (la.drop ia++lb.drop ib)){y:Keyed}(hy:lb[ib]?=some y)(h:∀z∈la.drop ia,R y<=R z):ML R all (out.push y).toList (la.drop ia++lb.drop (ib+1)):=by
 rw[xet];refine m.grow ?_ (xjx _ _) λx hx z hz=>?_
 ·rw[zhu hy];exact xmj
 ·simp at hx;subst hx
  rcases xbz.mp hz with hz|hz
  ·exact h z hz
  ·obtain⟨j,hj,e⟩:=zbg hz;exact T.ob.at hy e (xdj hj)
end
section
variable {w:World}{la:List Keyed}{lb:List Keyed}{out:Array Keyed}{ia:Nat}{ib:Nat}
theorem ML.pushA{R:Keyed->Nat}{all:List Keyed}(T:Two R la lb)(m:ML R all out.toList (la.drop ia++lb.drop ib)){x:Keyed}(hx:la[ia]?=some x)(h:∀z∈lb.drop ib,R x<=R z):ML R all (out.push x).toList (la.drop (ia+1)++lb.drop ib):=by
 rw[xet];refine m.grow ?_ (xjx _ _) λw hw z hz=>?_
 ·rw[zhu hx];exact .refl _
 ·simp at hw;subst hw
  rcases xbz.mp hz with hz|hz
  ·obtain⟨j,hj,e⟩:=zbg hz;exact T.oa.at hx e (xdj hj)
  ·exact h z hz
end
theorem zbx(xs:Array Keyed)(i j:Nat):(xs.extract i j).toList=(xs.toList.drop i).take (j - i):=by
 rw[xkz,List.extract_eq_take_drop]
theorem zpv(xs:Array Keyed)(i:Nat):(xs.extract i).toList=xs.toList.drop i:=by
 rw[zbx];exact xdo (by simp)
theorem zbq{xs:Array Keyed} (h:xs.toList[i]?=some x):kA R xs i=R x:=zds (by rw[← xcd];exact h)
section
variable {a:Array Keyed}{b:Array Keyed}{out:Array Keyed}{ia:Nat}{ib:Nat}{k:Nat}
theorem ML.galA(T:Two R a.toList b.toList)(m:ML R all out.toList (a.toList.drop ia++b.toList.drop ib))(hy:b.toList[ib]?=some y)(c:Cut false R y a ia (a.size - ia) k):ML R all (out++a.extract ia (ia+k)).toList (a.toList.drop (ia+k)++b.toList.drop ib)/\∀z∈a.toList.drop (ia+k),R y<=R z:=by
 have up:∀z∈a.toList.drop (ia+k),R y<=R z:=λz hz=>by
  obtain⟨j,hj,e⟩:=zbg hz;have hj2:j<a.size:=by have:=(xbj.mp e).1;simpa using this
  have h0:=xbb (xby _ _) hj;have:=c.2.2 (j - ia) (xev hj) (xej h0 hj2);rw[xci h0,zbq e] at this;exact xbu this
 have low:∀z∈(a.toList.drop ia).take k,R z<=R y:=λz hz=>by
  obtain⟨j,hj,e⟩:=zy hz;rw[xfl] at e;have:=c.2.1 j hj;rw[zbq e] at this;exact this
 refine⟨?_,up⟩;rw[xcx,zbx,xcy];refine m.grow ?_ ((T.oa.drop ia).take k) λz hz v hv=>?_
 ·conv=>lhs;rw[zmb a.toList ia k]
  rw[xcj]
 ·rcases xbz.mp hv with hv|hv
  ·exact xbb (low z hz) (up v hv)
  ·obtain⟨j,hj,e⟩:=zbg hv;exact xbb (low z hz) (T.ob.at hy e hj)
theorem ML.galB(T:Two R a.toList b.toList)(m:ML R all out.toList (a.toList.drop ia++b.toList.drop ib))(hx:a.toList[ia]?=some x)(c:Cut true R x b ib (b.size - ib) k):ML R all (out++b.extract ib (ib+k)).toList (a.toList.drop ia++b.toList.drop (ib+k))/\∀z∈b.toList.drop (ib+k),R x<=R z:=by
 have up:∀z∈b.toList.drop (ib+k),R x<=R z:=λz hz=>by
  obtain⟨j,hj,e⟩:=zbg hz;have hj2:j<b.size:=by have:=(xbj.mp e).1;simpa using this
  have h0:=xbb (xby _ _) hj;have:=c.2.2 (j - ib) (xev hj) (xej h0 hj2);rw[xci h0,zbq e] at this;exact this
 have low:∀z∈(b.toList.drop ib).take k,R z<=R x:=λz hz=>by
  obtain⟨j,hj,e⟩:=zy hz;rw[xfl] at e;have:=c.2.1 j hj;rw[zbq e] at this;exact xbu this
 refine⟨?_,up⟩;rw[xcx,zbx,xcy];refine m.grow ?_ ((T.ob.drop ib).take k) λz hz v hv=>?_
 ·conv=>lhs;rw[zmb b.toList ib k]
  rw[← xcj,← xcj];exact xij _ xhe
 ·rcases xbz.mp hv with hv|hv
  ·obtain⟨j,hj,e⟩:=zbg hv;exact xbb (low z hz) (T.oa.at hx e hj)
  ·exact xbb (low z hz) (up v hv)
end
theorem ML.done{a:Array Keyed}{b:Array Keyed}{out:Array Keyed}{ia:Nat}{ib:Nat}(T:Two R a.toList b.toList)(m:ML R (a.toList++b.toList) out.toList (a.toList.drop ia++b.toList.drop ib))(h:ia=a.size\/ib=b.size):Fin R a.toList b.toList (out++a.extract ia++b.extract ib):=by
 unfold Fin;rw[xcx,xcx,zpv,zpv,xcj];refine m.fin (.refl _) ?_;rcases h with rfl|rfl
 ·rw[xik (by simp),xjh];exact T.ob.drop _
 ·rw[xik (as:=b.toList) (by simp),xct];exact T.oa.drop _
theorem ML.lastA{a:Array Keyed}{b:Array Keyed}{out:Array Keyed}{ia:Nat}{ib:Nat}(T:Two R a.toList b.toList)(m:ML R (a.toList++b.toList) out.toList (a.toList.drop ia++b.toList.drop ib))(h:ia+1=a.size):Fin R a.toList b.toList (out++b.extract ib++a.extract ia):=by
 unfold Fin;rw[xcx,xcx,zpv,zpv,xcj];refine m.fin xhe (xfr.mpr ⟨T.ob.drop _,T.oa.drop _,λv hv z hz=>?_⟩);obtain⟨j,hj,e⟩:=zbg hz;have hj2:j<a.size:=by have:=(xbj.mp e).1;simpa using this
 have:j=a.toList.length - 1:=xdx (xdg (by rw[xcb];exact hj2)) (by rw[xcb,← h];exact hj);subst this;exact T.last z e v (xhm hv)
noncomputable def setG':Nat->StateT SortSt Sem Unit:=sortPriv% PySem.Builtin.setMinGallop
section
variable {prog:Program}{w:World}{A:Around}{E:Value->Shared->Prop}{s:Shared}
theorem zwk{g:Nat}{au:SortSt}{Q:Unit->SortSt->Prop}(h:∀st',SmG au st'->Q () st'):wpS (model prog w) A E s (setG' g) Q au :=
 xgx (h _ ⟨rfl,rfl,rfl,rfl⟩)
end
section
variable {prog:Program}{w:World}{A:Around}{E:Value->Shared->Prop}{s:Shared}{y:Keyed}{x:Keyed}
theorem zbri{α:Type}{K:Nat->StateT SortSt Sem α}{Q:α->SortSt->Prop}{au:SortSt}(h:∀v,wpS (model prog w) A E s (K v) Q au):∀y x:Nat,wpS (model prog w) A E s (if y > 1 then K x else K y) Q au:=λy x=>by
 by_cases e:y > 1
 ·rw[if_pos e];exact h x
 ·rw[if_neg e];exact h y
end
section
variable {prog:Program}{w:World}{A:Around}{E:Value->Shared->Prop}{s:Shared}
theorem zbrk{α:Type}{c c2:Prop}[Decidable c][Decidable c2]{X Y Y':StateT SortSt Sem α}{Q:α->SortSt->Prop}{au:SortSt}(hY:¬c->Y'=Y)(h1:c->c2->wpS (model prog w) A E s X Q au)(h2:(c->¬c2)->wpS (model prog w) A E s Y Q au):wpS (model prog w) A E s (if c then(if c2 then X else Y) else Y') Q au:=by
 by_cases e:c
 ·rw[if_pos e];by_cases e2:c2
  ·rw[if_pos e2];exact h1 e e2
  ·rw[if_neg e2];exact h2 λ_=>e2
 ·rw[if_neg e,hY e];exact h2 λz=>absurd z e
theorem zbgl{α:Type}{c c2 c3:Prop}[Decidable c][Decidable c2][Decidable c3]{X X3 Y Y':StateT SortSt Sem α}{Q:α->SortSt->Prop}{au:SortSt}(hY:¬c->Y'=Y)(h1:c->c2->wpS (model prog w) A E s X Q au)(h3:c->c3->wpS (model prog w) A E s X3 Q au)(h2:(c->¬c2/\¬c3)->wpS (model prog w) A E s Y Q au):wpS (model prog w) A E s (if c then(if c2 then X else if c3 then X3 else Y) else Y') Q au:=by
 by_cases e:c
 ·rw[if_pos e];by_cases e2:c2
  ·rw[if_pos e2];exact h1 e e2
  ·rw[if_neg e2];by_cases e3:c3
   ·rw[if_pos e3];exact h3 e e3
   ·rw[if_neg e3];exact h2 λ_=>⟨e2,e3⟩
 ·rw[if_neg e,hY e];exact h2 λz=>absurd z e
theorem zbrj{α:Type}{c c2:Prop}[Decidable c][Decidable c2]{X X2 Y:StateT SortSt Sem α}{Q:α->SortSt->Prop}{au:SortSt}(h1:c->wpS (model prog w) A E s X Q au)(h2:c2->wpS (model prog w) A E s X2 Q au)(h3:¬c->¬c2->wpS (model prog w) A E s Y Q au):wpS (model prog w) A E s (if c then X else if c2 then X2 else Y) Q au:=by
 by_cases e:c
 ·rw[if_pos e];exact h1 e
 ·rw[if_neg e];by_cases e2:c2
  ·rw[if_pos e2];exact h2 e2
  ·rw[if_neg e2];exact h3 e e2
theorem w_if{α:Type}{c:Prop}[Decidable c]{X Y:StateT SortSt Sem α}{Q:α->SortSt->Prop}{au:SortSt}(h1:c->wpS (model prog w) A E s X Q au)(h2:¬c->wpS (model prog w) A E s Y Q au):wpS (model prog w) A E s (if c then X else Y) Q au:=by
 by_cases e:c
 ·rw[if_pos e];exact h1 e
 ·rw[if_neg e];exact h2 e
theorem w_el{α:Type}{arr:Array Keyed}{i:Nat}{x:Keyed}{f:Keyed->StateT SortSt Sem α}{Q:α->SortSt->Prop}{au:SortSt}(e:arr[i]?=some x)(h:wpS (model prog w) A E s (f x) Q au):wpS (model prog w) A E s (elem' arr i >>= f) Q au:=xbi (zkv e h)
end
section
variable {prog:Program}{w:World}{A:Around}{E:Value->Shared->Prop}{s:Shared}{κ:SortKind}{a₀:Array Keyed}{R:Keyed->Nat}
theorem zbgk{α:Type}{x y:Keyed}{f:Option Bool->StateT SortSt Sem α}{Q:α->SortSt->Prop}{au:SortSt}(O:Orc prog w A s κ a₀ R)(hk:kindOf au=κ)(hx:x∈a₀.toList)(hy:y∈a₀.toList)(h1:R x<R y->wpS (model prog w) A E s (f (some true)) Q au)(h2:R y<=R x->wpS (model prog w) A E s (f (some false)) Q au):wpS (model prog w) A E s (lt' x y >>= f) Q au:=by
 refine xbi (w_lt O hk hx hy ?_);by_cases c:R x<R y
 ·rw[xcs c];exact h1 c
 ·rw[xcc c];exact h2 (xcf c)
end
inductive Dn {β:Type} (R:Keyed->Nat) (a b:Array Keyed) (au:SortSt):Option (Array Keyed)×β->SortSt->Prop where
 | mk {r:Array Keyed} {z:β} {st':SortSt} (sm:SmG au st') (f:Fin R a.toList b.toList r):Dn R a b au (some r,z) st'
section
variable {out:Array Keyed}{ia:Nat}{ib:Nat}
inductive L1 (R:Keyed->Nat) (a b:Array Keyed) (au:SortSt) (x:Nat):Option (Array Keyed)×Array Keyed×Nat×Nat×Nat->SortSt->Prop where
 | mk {out:Array Keyed} {ia ib g:Nat} {st':SortSt} (sm:SmG au st') (m:ML R (a.toList++b.toList) out.toList (a.toList.drop ia++b.toList.drop ib)) (ha:ia+1<a.size) (hb:ib<b.size) (hx:x<ia+ib):L1 R a b au x (none,out,ia,ib,g) st'
inductive L2' (R:Keyed->Nat) (a b:Array Keyed) (au:SortSt) (x:Nat):Option (Array Keyed)×Array Keyed×Nat×Nat×Nat×Nat->SortSt->Prop where
 | mk {out:Array Keyed} {ia ib ac bc:Nat} {st':SortSt} (sm:SmG au st') (m:ML R (a.toList++b.toList) out.toList (a.toList.drop ia++b.toList.drop ib)) (ha:ia+1<a.size) (hb:ib<b.size) (hx:x<=ia+ib):L2' R a b au x (none,out,ia,ib,ac,bc) st'
inductive L3 (R:Keyed->Nat) (a b:Array Keyed) (au:SortSt) (x:Nat):Option (Array Keyed)×Array Keyed×Nat×Nat×Nat×Nat×Nat->SortSt->Prop where
 | mk {out:Array Keyed} {ia ib g ac bc:Nat} {st':SortSt} (sm:SmG au st') (m:ML R (a.toList++b.toList) out.toList (a.toList.drop ia++b.toList.drop ib)) (ha:ia+1<a.size) (hb:ib<b.size) (hx:x<=ia+ib):L3 R a b au x (none,out,ia,ib,g,ac,bc) st'
end
section
variable {prog:Program}{w:World}{A:Around}{E:Value->Shared->Prop}{s:Shared}{κ:SortKind}{a₀:Array Keyed}{R:Keyed->Nat}{a:Array Keyed}{b:Array Keyed}{out:Array Keyed}{ia:Nat}{ib:Nat}{k:Nat}{y:Keyed}{x:Keyed}
theorem zwm{au:SortSt}{Q:Array Keyed->SortSt->Prop}(O:Orc prog w A s κ a₀ R)(hk:kindOf au=κ)(ma:∀x∈a.toList,x∈a₀.toList)(mb:∀x∈b.toList,x∈a₀.toList)(T:Two R a.toList b.toList)(ha:1<=a.size)(hb:1<=b.size)
  (fst:∀y,b.toList[0]?=some y->∀x∈a.toList,R y<=R x)(h:∀r st',SmG au st'->Fin R a.toList b.toList r->Q r st'):wpS (model prog w) A E s (mergeLo' a b) Q au:=by
 have atA:∀(i:Nat) (hi:i<a.size),a[i]?=some a[i]/\a.toList[i]?=some a[i]/\a[i]∈a₀.toList:=λi hi=>⟨getElem?_pos a i hi,by rw[xcd];exact getElem?_pos a i hi,ma _ (by simp)⟩
 have atB:∀(i:Nat) (hi:i<b.size),b[i]?=some b[i]/\b.toList[i]?=some b[i]/\b[i]∈a₀.toList:=λi hi=>⟨getElem?_pos b i hi,by rw[xcd];exact getElem?_pos b i hi,mb _ (by simp)⟩
 have upA:∀i,UpA R a i (i+(a.size - i)):=λi p q a1 a2 a3=>by
  have hq:q<a.size:=by lia
  have e1:=(atA p (by lia)).2.1;have e2:=(atA q hq).2.1;rw[zbq e1,zbq e2];exact T.oa.at e1 e2 a2
 have upB:∀i,UpA R b i (i+(b.size - i)):=λi p q a1 a2 a3=>by
  have hq:q<b.size:=by lia
  have e1:=(atB p (by lia)).2.1;have e2:=(atB q hq).2.1;rw[zbq e1,zbq e2];exact T.ob.at e1 e2 a2
 obtain⟨y0,f0,f1⟩:∃x,b[0]?=some x/\b.toList[0]?=some x:=⟨_,(atB 0 hb).1,(atB 0 hb).2.1⟩
 have start:ML R (a.toList++b.toList) (#[y0]:Array Keyed).toList (a.toList.drop 0++b.toList.drop 1):=by
  have z:ML R (a.toList++b.toList) (#[]:Array Keyed).toList (a.toList.drop 0++b.toList.drop 0):=⟨by simp,List.Pairwise.nil,by simp⟩
  exact z.pushB T f1 λx hx=>fst y0 f1 x (xhm hx)
 refine xbi (xkq (xih ⟨rfl,xbi (zkv f0 (zbrj (λc1=>?_) (λc2=>?_) λc1 c2=>?_))⟩))
 ·exact xbm (h _ _ (.refl _) (start.done T (.inr (by simpa using c1))))
 ·exact xbm (h _ _ (.refl _) (start.lastA T (by simpa using c2)))
 simp only[xfx] at c1 c2;refine xbi (xhz ?_);refine xbi (xfn (xds (I:=L1 R a b au) (Q:=Dn R a b au) ?_ ?_ (.mk (.refl _) start (by lia) (by lia) (by lia))) ?_)
 ·rintro x c st1 x1 x2 @⟨out,ia,ib,g,st1,sm1,m,ha1,hb1,hx⟩;dsimp only;refine xbi (xfn (xds (I:=λ_=>L2' R a b au (ia+ib)) (Q:=λc st'=>Dn R a b au c st'\/L2' R a b au (ia+ib) c st') ?_ ?_ (.mk sm1 m ha1 hb1 (xbf _))) ?_)
  ·rintro x' c st2 _ _ @⟨out,ia',ib',ac,bc,st2,sm2,m,ha2,hb2,hp⟩;dsimp only;have ea:=(atA ia' (xfd ha2)).1;have ela:=(atA ia' (xfd ha2)).2.1;have mea:=(atA ia' (xfd ha2)).2.2;have eb:=(atB ib' hb2).1;have elb:=(atB ib' hb2).2.1;have meb:=(atB ib' hb2).2.2;refine w_el eb (w_el ea (zbgk O (sm2.kind.trans hk) meb mea (λcw=>w_el eb ?_) λcw=>w_el ea ?_))
   ·skip
    have m2:=m.pushB T elb λz hz=>by
     obtain⟨j,hj,e⟩:=zbg hz;exact xbb (xbu cw) (T.oa.at ela e hj)
    refine w_if (λc5=>xbm (.inl (.mk sm2 (m2.done T (.inr (eq_of_beq c5)))))) λc5=>?_
    rw[xfx] at c5;have hb3:ib'+1<b.size:=xdd hb2 c5;have hp3:ia+ib<=ia'+(ib'+1):=xft hp;exact w_if (λ_=>xbm (.inr (.mk sm2 m2 ha2 hb3 hp3))) λ_=>xbm (.mk sm2 m2 ha2 hb3 hp3)
   ·skip
    have m2:=m.pushA T ela λz hz=>by
     obtain⟨j,hj,e⟩:=zbg hz;exact xbb cw (T.ob.at elb e hj)
    refine w_if (λc5=>xbm (.inl (.mk sm2 (m2.lastA T (eq_of_beq c5))))) λc5=>?_
    rw[xfx] at c5;have ha3:ia'+1+1<a.size:=xdd ha2 c5;have hp3:ia+ib<=ia'+1+ib':=Nat.succ_add ia' ib' ▸ xft hp
    exact w_if (λ_=>xbm (.inr (.mk sm2 m2 ha3 hb2 hp3))) λ_=>xbm (.mk sm2 m2 ha3 hb2 hp3)
  ·exact λc st2 k=>.inr k
  ·rintro c st2 (⟨sm2,f⟩|@⟨out,ia',ib',ac,bc,st2,sm2,m,ha2,hb2,hp⟩)
   ·exact xbm (.mk sm2 f)
   ·dsimp only;refine xbi (xkq (xih ⟨rfl,?_⟩));refine xbi (xfn (xds (I:=λx'=>L3 R a b au (ia+ib+x')) (Q:=λc st'=>Dn R a b au c st'\/L3 R a b au (ia+ib+1) c st') ?_ ?_ (.mk sm2 m ha2 hb2 hp)) ?_)
    ·rintro x' c st3 _ x2' @⟨out,ia',ib',g',ac,bc,st3,sm3,m,ha2,hb2,hp⟩;dsimp only;have eb:=(atB ib' hb2).1;have elb:=(atB ib' hb2).2.1;have meb:=(atB ib' hb2).2.2;generalize g' - 1=g1;generalize g'=y;revert g1;revert y
     refine zbri ?_;intro gg;refine xbi (zwk λst4 sg=>?_);have sm4:=sm3.trans sg;refine w_el eb (xbi (zga O (sm4.kind.trans hk) meb (λi hi=>⟨_,(atA (ia'+i) (xdy hi)).1,(atA (ia'+i) (xdy hi)).2.2⟩) (xfs (xfd ha2)) (upA ia') λk1 cut1=>?_));have m5:=(m.galA T elb cut1).1;have u5:=(m.galA T elb cut1).2;have hk1:=cut1.1;dsimp only;refine zbgl (λc6=>?_) (λc6 c7=>?_) (λc6 c8=>?_) λhh=>?_
     ·have z:k1=0:=Nat.le_zero.mp (xcf c6);subst z;simp only[xjo,xir (xic _ _),xid]
     ·exact xbm (.inl (.mk sm4 (m5.lastA T (eq_of_beq c7))))
     ·exact xbm (.inl (.mk sm4 (m5.done T (.inl (eq_of_beq c8)))))
     have ha5:ia'+k1+1<a.size:=by
      by_cases c6:k1 > 0
      ·have:=hh c6;simp at this;lia
      ·lia
     have hp5:ia+ib+x'<=ia'+k1+ib':=xbb hp (Nat.add_le_add_right (xby _ _) _);clear hh;generalize ia'+k1=ia5 at m5 u5 ha5 hp5 ⊢;generalize out++a.extract ia' ia5=out5 at m5 ⊢;have m6:=m5.pushB T elb u5;have ea:=(atA _ (xfd ha5)).1;have ela:=(atA _ (xfd ha5)).2.1;have mea:=(atA _ (xfd ha5)).2.2;refine w_el eb (w_if (λc9=>xbm (.inl (.mk sm4 (m6.done T (.inr (eq_of_beq c9)))))) λc9=>w_el ea ?_);rw[xfx] at c9;refine xbi (zga O (sm4.kind.trans hk) mea (λi hi=>⟨_,(atB (ib'+1+i) (xdy hi)).1,(atB (ib'+1+i) (xdy hi)).2.2⟩) (xfs (xdd hb2 c9)) (upB (ib'+1)) λk2 cut2=>?_);have m7:=(m6.galB T ela cut2).1;have u7:=(m6.galB T ela cut2).2;have hk2:=cut2.1;dsimp only;refine zbrk (λd6=>?_) (λd6 d7=>?_) λhh=>?_
     ·have z2:k2=0:=Nat.le_zero.mp (xcf d6);subst z2;simp only[xjo,xir (xic _ _),xid]
     ·exact xbm (.inl (.mk sm4 (m7.done T (.inr (eq_of_beq d7)))))
     have h20:ib'+1+k2≠b.size:=by
      by_cases d6:k2 > 0
      ·have:=hh d6;simp at this;lia
      ·lia
     have m8:=m7.pushA T ela u7;refine w_el ea (w_if (λd8=>xbm (.inl (.mk sm4 (m8.lastA T (eq_of_beq d8))))) λd8=>?_);rw[xfx] at d8;have ha9:ia5+1+1<a.size:=xdd ha5 d8;have hb9:ib'+1+k2<b.size:=by lia
     have hp9:ia+ib+(x'+1)<=ia5+1+(ib'+1+k2):=by lia
     exact w_if (λ_=>xbm (.inr (.mk sm4 m8 ha9 hb9 (xbb (xcl (xmr 1 x') _) hp9)))) λ_=>xbm (.mk sm4 m8 ha9 hb9 hp9)
    ·rintro c st3 ⟨sm3,m,ha2,hb2,hp⟩;exact .inr (.mk sm3 m ha2 hb2 (by lia))
    ·rintro c st3 (⟨sm3,f⟩|⟨sm3,m,ha2,hb2,hp⟩)
     ·exact xbm (.mk sm3 f)
     ·exact xbi (zwk λst4 sg=>xbm (.mk (sm3.trans sg) m ha2 hb2 (xbh (Nat.succ_lt_succ hx) hp)))
 ·rintro c st1 ⟨sm1,m,ha1,hb1,hx⟩;lia
 ·rintro c st1 ⟨sm1,f⟩;exact xbm (h _ st1 sm1 f)
end
structure MH (R:Keyed->Nat) (all out rest:List Keyed):Prop where
 perm:(rest++out.reverse).Perm all
 ord:Ord R out.reverse
 le:∀x∈rest,∀y∈out,R x<=R y
theorem MH.grow{rest xs:List Keyed}(m:MH R all out rest)(p:rest.Perm (rest'++xs.reverse))(o:Ord R xs.reverse)(h:∀x∈rest',∀y∈xs,R x<=R y):MH R all (out++xs) rest':=by
 refine⟨?_,?_,λx hx y hy=>?_⟩
 ·rw[List.reverse_append,← xcj];exact(xij _ p.symm).trans m.perm
 ·rw[List.reverse_append];exact xfr.mpr ⟨o,m.ord,λx hx y hy=>m.le x (p.mem_iff.mpr (xdk _ hx)) y (xkn.mp hy)⟩
 ·rcases xbz.mp hy with hy|hy
  ·exact m.le x (p.mem_iff.mpr (xex _ hx)) y hy
  ·exact h x hx y hy
theorem MH.fin{rest rest':List Keyed}(m:MH R all out rest)(p:rest'.Perm rest)(o:Ord R rest'):(rest'++out.reverse).Perm all/\Ord R (rest'++out.reverse) :=
 ⟨(xij _ p).trans m.perm,xfr.mpr ⟨o,m.ord,λx hx y hy=>m.le x (p.mem_iff.mp hx) y (xkn.mp hy)⟩⟩
theorem zhc{l:List Keyed}{i:Nat}{x:Keyed}(h:l[i]?=some x):l.take (i+1)=l.take i++[x]:=by
 obtain⟨h1,rfl⟩:=xbj.mp h;exact xhp h1
structure TwoH (R:Keyed->Nat) (la lb:List Keyed):Prop where
 oa:Ord R la
 ob:Ord R lb
 first:∀y,lb[0]?=some y->∀x∈la,R y<=R x
section
variable {R:Keyed->Nat}{la:List Keyed}{lb:List Keyed}{all:List Keyed}{out:Array Keyed}{na:Nat}{nb:Nat}
theorem MH.pushB(T:TwoH R la lb)(m:MH R all out.toList (la.take na++lb.take (nb+1))){y:Keyed}(hy:lb[nb]?=some y)(h:∀z∈la.take na,R z<=R y):MH R all (out.push y).toList (la.take na++lb.take nb):=by
 rw[xet];refine m.grow ?_ (by simp) λz hz w hw=>?_
 ·rw[zhc hy];simp
 ·simp at hw;subst hw
  rcases xbz.mp hz with hz|hz
  ·exact h z hz
  ·obtain⟨j,hj,e⟩:=zy hz;exact T.ob.at e hy (by lia)
theorem MH.pushA(T:TwoH R la lb)(m:MH R all out.toList (la.take (na+1)++lb.take nb)){x:Keyed}(hx:la[na]?=some x)(h:∀z∈lb.take nb,R z<=R x):MH R all (out.push x).toList (la.take na++lb.take nb):=by
 rw[xet];refine m.grow ?_ (by simp) λz hz w hw=>?_
 ·rw[zhc hx];simp only[List.reverse_singleton,xcj];exact xga _ xhe
 ·simp at hw;subst hw
  rcases xbz.mp hz with hz|hz
  ·obtain⟨j,hj,e⟩:=zy hz;exact T.oa.at e hx (by lia)
  ·exact h z hz
end
theorem zve(l:List Keyed) (h:k<=n):l.take n=l.take k++(l.drop k).take (n - k):=by
 conv=>lhs;rw[show n=k+(n - k) by lia,List.take_add]
section
variable {a:Array Keyed}{b:Array Keyed}{out:Array Keyed}{na:Nat}{nb:Nat}{k:Nat}
theorem MH.galA(T:TwoH R a.toList b.toList)(m:MH R all out.toList (a.toList.take na++b.toList.take (nb+1)))(hy:b.toList[nb]?=some y)(hn:na<=a.size)(c:Cut false R y a 0 na k):MH R all (out++(a.extract k na).reverse).toList (a.toList.take k++b.toList.take (nb+1))/\∀z∈a.toList.take k,R z<=R y:=by
 have low:∀z∈a.toList.take k,R z<=R y:=λz hz=>by
  obtain⟨j,hj,e⟩:=zy hz;have:=c.2.1 j hj;rw[xdr,zbq e] at this;exact this
 have up:∀z∈(a.toList.drop k).take (na - k),R y<=R z:=λz hz=>by
  obtain⟨j,hj,e⟩:=zy hz;rw[xfl] at e;have:=c.2.2 (k+j) (by lia) (by lia);rw[xdr,zbq e] at this;exact xbu this
 refine⟨?_,low⟩;rw[xcx,xiu,zbx];refine m.grow ?_ (by rw[xiv];exact(T.oa.drop k).take _) λv hv z hz=>?_
 ·rw[xiv,zve a.toList c.1,xcj,xcj];exact xga _ xhe
 ·have hz:=up z (xkn.mp hz);rcases xbz.mp hv with hv|hv
  ·exact xbb (low v hv) hz
  ·obtain⟨j,hj,e⟩:=zy hv;exact xbb (T.ob.at e hy (by lia)) hz
theorem MH.galB(T:TwoH R a.toList b.toList)(m:MH R all out.toList (a.toList.take (na+1)++b.toList.take nb))(hx:a.toList[na]?=some x)(hn:nb<=b.size)(c:Cut true R x b 0 nb k):MH R all (out++(b.extract k nb).reverse).toList (a.toList.take (na+1)++b.toList.take k)/\∀z∈b.toList.take k,R z<=R x:=by
 have low:∀z∈b.toList.take k,R z<=R x:=λz hz=>by
  obtain⟨j,hj,e⟩:=zy hz;have:=c.2.1 j hj;rw[xdr,zbq e] at this;exact xbu this
 have up:∀z∈(b.toList.drop k).take (nb - k),R x<=R z:=λz hz=>by
  obtain⟨j,hj,e⟩:=zy hz;rw[xfl] at e;have:=c.2.2 (k+j) (by lia) (by lia);rw[xdr,zbq e] at this;exact this
 refine⟨?_,low⟩;rw[xcx,xiu,zbx];refine m.grow ?_ (by rw[xiv];exact(T.ob.drop k).take _) λv hv z hz=>?_
 ·rw[xiv,zve b.toList c.1,xcj]
 ·have hz:=up z (xkn.mp hz);rcases xbz.mp hv with hv|hv
  ·obtain⟨j,hj,e⟩:=zy hv;exact xbb (T.oa.at e hx (by lia)) hz
  ·exact xbb (low v hv) hz
end
theorem zkk(xs:Array Keyed)(n:Nat):(xs.extract 0 n).toList=xs.toList.take n:=by
 rw[zbx,List.drop_zero,Nat.sub_zero]
theorem MH.done{a:Array Keyed}{b:Array Keyed}{out:Array Keyed}{na:Nat}{nb:Nat}(T:TwoH R a.toList b.toList)(m:MH R (a.toList++b.toList) out.toList (a.toList.take na++b.toList.take nb))(h:na=0\/nb=0):Fin R a.toList b.toList (a.extract 0 na++b.extract 0 nb++out.reverse):=by
 unfold Fin;rw[xcx,xcx,zkk,zkk,xiu];refine m.fin (.refl _) ?_;rcases h with rfl|rfl
 ·rw[List.take_zero,xjh];exact T.ob.take _
 ·rw[List.take_zero,xct];exact T.oa.take _
theorem MH.firstB{a:Array Keyed}{b:Array Keyed}{out:Array Keyed}{na:Nat}{nb:Nat}(T:TwoH R a.toList b.toList)(m:MH R (a.toList++b.toList) out.toList (a.toList.take na++b.toList.take nb))(h:nb=1):Fin R a.toList b.toList (b.extract 0 nb++a.extract 0 na++out.reverse):=by
 unfold Fin;rw[xcx,xcx,zkk,zkk,xiu];refine m.fin xhe (xfr.mpr ⟨T.ob.take _,T.oa.take _,λv hv z hz=>?_⟩);obtain⟨j,hj,e⟩:=zy hv;have:j=0:=by lia
 subst this;exact T.first v e z (xgi hz)
section
variable {out:Array Keyed}{na:Nat}{nb:Nat}
inductive H1 (R:Keyed->Nat) (a b:Array Keyed) (au:SortSt) (x:Nat):Option (Array Keyed)×Nat×Nat×Array Keyed×Nat->SortSt->Prop where
 | mk {na nb:Nat} {out:Array Keyed} {g:Nat} {st':SortSt} (sm:SmG au st') (m:MH R (a.toList++b.toList) out.toList (a.toList.take na++b.toList.take nb)) (a1:1<=na) (a2:na<=a.size) (b1:2<=nb) (b2:nb<=b.size) (hx:x+na+nb<a.size+b.size):H1 R a b au x (none,na,nb,out,g) st'
inductive H2 (R:Keyed->Nat) (a b:Array Keyed) (au:SortSt) (x:Nat):Option (Array Keyed)×Nat×Nat×Array Keyed×Nat×Nat->SortSt->Prop where
 | mk {na nb:Nat} {out:Array Keyed} {ac bc:Nat} {st':SortSt} (sm:SmG au st') (m:MH R (a.toList++b.toList) out.toList (a.toList.take na++b.toList.take nb)) (a1:1<=na) (a2:na<=a.size) (b1:2<=nb) (b2:nb<=b.size) (hx:na+nb<=x):H2 R a b au x (none,na,nb,out,ac,bc) st'
inductive H3 (R:Keyed->Nat) (a b:Array Keyed) (au:SortSt) (x y:Nat):Option (Array Keyed)×Nat×Nat×Array Keyed×Nat×Nat×Nat->SortSt->Prop where
 | mk {na nb:Nat} {out:Array Keyed} {g ac bc:Nat} {st':SortSt} (sm:SmG au st') (m:MH R (a.toList++b.toList) out.toList (a.toList.take na++b.toList.take nb)) (a1:1<=na) (a2:na<=a.size) (b1:2<=nb) (b2:nb<=b.size) (hx:y+na+nb<=x):H3 R a b au x y (none,na,nb,out,g,ac,bc) st'
end
section
variable {prog:Program}{w:World}{A:Around}{E:Value->Shared->Prop}{s:Shared}{κ:SortKind}{a₀:Array Keyed}{R:Keyed->Nat}{a:Array Keyed}{b:Array Keyed}{out:Array Keyed}{na:Nat}{nb:Nat}{k:Nat}{y:Keyed}{x:Keyed}
theorem zwn{au:SortSt}{Q:Array Keyed->SortSt->Prop}(O:Orc prog w A s κ a₀ R)(hk:kindOf au=κ)(ma:∀x∈a.toList,x∈a₀.toList)(mb:∀x∈b.toList,x∈a₀.toList)(T:TwoH R a.toList b.toList)(ha:1<=a.size)(hb:1<=b.size)
  (lst:∀x,a.toList[a.size - 1]?=some x->∀y∈b.toList,R y<=R x)(h:∀r st',SmG au st'->Fin R a.toList b.toList r->Q r st'):wpS (model prog w) A E s (mergeHi' a b) Q au:=by
 have atA:∀(i:Nat) (hi:i<a.size),a[i]?=some a[i]/\a.toList[i]?=some a[i]/\a[i]∈a₀.toList:=λi hi=>⟨getElem?_pos a i hi,by rw[xcd];exact getElem?_pos a i hi,ma _ (by simp)⟩
 have atB:∀(i:Nat) (hi:i<b.size),b[i]?=some b[i]/\b.toList[i]?=some b[i]/\b[i]∈a₀.toList:=λi hi=>⟨getElem?_pos b i hi,by rw[xcd];exact getElem?_pos b i hi,mb _ (by simp)⟩
 have upA:∀n,n<=a.size->UpA R a 0 (0+n):=λn hn p q a1 a2 a3=>by
  have hq:q<a.size:=xbh a3 (xbb (xdf (xdr n)) hn);have e1:=(atA p (xdc a2 hq)).2.1;have e2:=(atA q hq).2.1;rw[zbq e1,zbq e2];exact T.oa.at e1 e2 a2
 have upB:∀n,n<=b.size->UpA R b 0 (0+n):=λn hn p q a1 a2 a3=>by
  have hq:q<b.size:=xbh a3 (xbb (xdf (xdr n)) hn);have e1:=(atB p (xdc a2 hq)).2.1;have e2:=(atB q hq).2.1;rw[zbq e1,zbq e2];exact T.ob.at e1 e2 a2
 obtain⟨x0,f0,f1⟩:∃x,a[a.size - 1]?=some x/\a.toList[a.size - 1]?=some x:=⟨_,(atA (a.size - 1) (xib ha Nat.one_pos)).1,(atA (a.size - 1) (xib ha Nat.one_pos)).2.1⟩
 have start:MH R (a.toList++b.toList) (#[x0]:Array Keyed).toList (a.toList.take (a.size - 1)++b.toList.take b.size):=by
  have z:MH R (a.toList++b.toList) (#[]:Array Keyed).toList (a.toList.take (a.size - 1+1)++b.toList.take b.size):=by
   refine⟨?_,List.Pairwise.nil,by simp⟩;rw[xgz ha,xdo (by simp),xdo (by simp)];simp
  exact z.pushA T f1 λy hy=>lst x0 f1 y (xgi hy)
 refine xbi (xkq (xih ⟨rfl,xbi (zkv f0 (zbrj (λc1=>?_) (λc2=>?_) λc1 c2=>?_))⟩))
 ·exact xbm (h _ _ (.refl _) (start.done T (.inl (by simpa using c1))))
 ·exact xbm (h _ _ (.refl _) (start.firstB T (by simpa using c2)))
 simp only[xfx] at c1 c2;refine xbi (xhz ?_);refine xbi (xfn (xds (I:=H1 R a b au) (Q:=Dn R a b au) ?_ ?_ (.mk (.refl _) start (by lia) (by lia) (by lia) (xbf _) (by lia))) ?_)
 ·rintro x c st1 x1 x2 @⟨na,nb,out,g,st1,sm1,m,a1,a2,b1,b2,hx⟩;dsimp only;refine xbi (xfn (xds (I:=λ_=>H2 R a b au (na+nb)) (Q:=λc st'=>Dn R a b au c st'\/H2 R a b au (na+nb) c st') ?_ ?_ (.mk sm1 m a1 a2 b1 b2 (xbf _))) ?_)
  ·rintro x' c st2 _ _ @⟨na',nb',out,ac,bc,st2,sm2,m,g1,g2,g3,g4,hp⟩;obtain⟨p,rfl⟩:∃p,na'=p+1:=⟨na' - 1,(xgz g1).symm⟩
   obtain⟨q,rfl⟩:∃q,nb'=q+1:=⟨nb' - 1,(xgz (xdj g3)).symm⟩
   dsimp only;have ea:=(atA p g2).1;have ela:=(atA p g2).2.1;have mea:=(atA p g2).2.2;have eb:=(atB q g4).1;have elb:=(atB q g4).2.1;have meb:=(atB q g4).2.2;refine w_el eb (w_el ea (zbgk O (sm2.kind.trans hk) meb mea (λcw=>w_el ea ?_) λcw=>w_el eb ?_))
   ·skip
    have m2:=m.pushA T ela λz hz=>by
     obtain⟨j,hj,e⟩:=zy hz;exact xbb (T.ob.at e elb (xco hj)) (xbu cw)
    refine w_if (λc5=>xbm (.inl (.mk sm2 (m2.done T (.inl (eq_of_beq c5)))))) λc5=>?_
    rw[xfx] at c5;have a3:1<=p:=xln c5;have a4:p<=a.size:=xdj g2;have a5:p+(q+1)<=na+nb:=xbb (Nat.add_le_add_right (xkl p) _) hp;exact w_if (λ_=>xbm (.inr (.mk sm2 m2 a3 a4 g3 g4 a5))) λ_=>xbm (.mk sm2 m2 a3 a4 g3 g4 a5)
   ·skip
    have m2:=m.pushB T elb λz hz=>by
     obtain⟨j,hj,e⟩:=zy hz;exact xbb (T.oa.at e ela (xco hj)) cw
    refine w_if (λc5=>xbm (.inl (.mk sm2 (m2.firstB T (eq_of_beq c5))))) λc5=>?_
    rw[xfx] at c5;have a3:2<=q:=xdd (Nat.le_of_succ_le_succ g3) (xep c5);have a4:q<=b.size:=xdj g4;have a5:p+1+q<=na+nb:=xdj hp;exact w_if (λ_=>xbm (.inr (.mk sm2 m2 g1 g2 a3 a4 a5))) λ_=>xbm (.mk sm2 m2 g1 g2 a3 a4 a5)
  ·exact λc st2 k=>.inr k
  ·rintro c st2 (⟨sm2,f⟩|@⟨na',nb',out,ac,bc,st2,sm2,m,g1,g2,g3,g4,hp⟩)
   ·exact xbm (.mk sm2 f)
   ·dsimp only;refine xbi (xkq (xih ⟨rfl,?_⟩));refine xbi (xfn (xds (I:=H3 R a b au (na+nb)) (Q:=λc st'=>Dn R a b au c st'\/H3 R a b au (na+nb) 1 c st') ?_ ?_ (.mk sm2 m g1 g2 g3 g4 (by rw[xdr];exact hp))) ?_)
    ·rintro x' c st3 _ x2' @⟨na',nb',out,g',ac,bc,st3,sm3,m,g1,g2,g3,g4,hp⟩;obtain⟨q,rfl⟩:∃q,nb'=q+1:=⟨nb' - 1,(xgz (xdj g3)).symm⟩
     dsimp only;have eb:=(atB q g4).1;have elb:=(atB q g4).2.1;have meb:=(atB q g4).2.2;generalize g' - 1=g1;generalize g'=y;revert g1;revert y
     refine zbri ?_;intro gg;refine xbi (zwk λst4 sg=>?_);have sm4:=sm3.trans sg;refine w_el eb (xbi (zga O (sm4.kind.trans hk) meb (λi hi=>⟨_,(atA (0+i) (by lia)).1,(atA (0+i) (by lia)).2.2⟩) (by lia) (upA na' g2) λk1 cut1=>?_));have m5:=(m.galA T elb g2 cut1).1;have u5:=(m.galA T elb g2 cut1).2;have hk1:=cut1.1;dsimp only;refine zbrk (λc6=>?_) (λc6 c7=>?_) λhh=>?_
     ·have z:k1=na':=by lia
      subst z;rw[show out++(a.extract k1 k1).reverse=out by simp[xic]]
     ·exact xbm (.inl (.mk sm4 (m5.done T (.inl (eq_of_beq c7)))))
     have g5:1<=k1:=by
      by_cases c6:na' - k1 > 0
      ·have:=hh c6;simp at this;lia
      ·lia
     have g6:k1<=a.size:=xbb hk1 g2;have hp5:x'+k1+(q+1)<=na+nb:=by lia
     clear hh hk1 cut1;generalize out++(a.extract k1 na').reverse=out5 at m5 ⊢;obtain⟨p,rfl⟩:∃p,k1=p+1:=⟨k1 - 1,(xgz g5).symm⟩
     simp only[Nat.add_sub_cancel];have m6:=m5.pushB T elb u5;have ea:=(atA p g6).1;have ela:=(atA p g6).2.1;have mea:=(atA p g6).2.2;refine w_el eb (w_if (λc9=>xbm (.inl (.mk sm4 (m6.firstB T (eq_of_beq c9))))) λc9=>w_el ea ?_);rw[xfx] at c9;refine xbi (zga O (sm4.kind.trans hk) mea (λi hi=>⟨_,(atB (0+i) (by lia)).1,(atB (0+i) (by lia)).2.2⟩) (by lia) (upB q (xdj g4)) λk2 cut2=>?_);have m7:=(m6.galB T ela (xdj g4) cut2).1;have u7:=(m6.galB T ela (xdj g4) cut2).2;have hk2:=cut2.1;dsimp only;refine zbgl (λd6=>?_) (λd6 d7=>?_) (λd6 d9=>?_) λhh=>?_
     ·have z2:k2=q:=by lia
      subst z2;simp only[xir (xbb (xic _ _) (xbf _)),Array.reverse_empty,xid]
     ·exact xbm (.inl (.mk sm4 (m7.firstB T (eq_of_beq d7))))
     ·exact xbm (.inl (.mk sm4 (m7.done T (.inr (eq_of_beq d9)))))
     have h20:2<=k2:=by
      by_cases d6:q - k2 > 0
      ·have:=hh d6;simp at this;lia
      ·lia
     have m8:=m7.pushA T ela u7;refine w_el ea (w_if (λd8=>xbm (.inl (.mk sm4 (m8.done T (.inl (eq_of_beq d8)))))) λd8=>?_);rw[xfx] at d8;have a3:1<=p:=xln d8;have a4:p<=a.size:=xdj g6;have a5:k2<=b.size:=xbb hk2 (xdj g4);have a6:x'+1+p+k2<=na+nb:=by lia
     exact w_if (λ_=>xbm (.inr (.mk sm4 m8 a3 a4 h20 a5 (by lia)))) λ_=>xbm (.mk sm4 m8 a3 a4 h20 a5 a6)
    ·rintro c st3 ⟨sm3,m,g1,g2,g3,g4,hp⟩;exact .inr (.mk sm3 m g1 g2 g3 g4 (by lia))
    ·rintro c st3 (⟨sm3,f⟩|@⟨na',nb',out,g',ac,bc,st3,sm3,m,g1,g2,g3,g4,hp⟩)
     ·exact xbm (.mk sm3 f)
     ·have h9:x+1+na'+nb'<a.size+b.size:=by lia
      exact xbi (zwk λst4 sg=>xbm (.mk (sm3.trans sg) m g1 g2 g3 g4 h9))
 ·rintro c st1 ⟨sm1,m,a1,a2,b1,b2,hx⟩;lia
 ·rintro c st1 ⟨sm1,f⟩;exact xbm (h _ st1 sm1 f)
end
theorem ztb:∀(l:List Keyed) (n off:Nat) (xs:Array Keyed),off+n+l.length<=xs.size->∀i,((l.zipIdx n).foldl (λa p=>a.setIfInBounds (off+p.2) p.1) xs)[i]?=if off+n<=i/\i<off+n+l.length then l[i - (off+n)]? else xs[i]?
 | [],n,off,xs,h,i=>by
  rw[if_neg (by simp)]
  rfl
 | x::l,n,off,xs,h,i=>by
  rw[List.zipIdx_cons,xhf];rw[xbx] at h;have e1:off+(n+1)+l.length=off+n+(l.length+1):=Nat.succ_add_eq_add_succ (off+n) l.length;rw[ztb l (n+1) off _ (by rw[Array.size_setIfInBounds];exact xbb (xdf e1) h) i];rw[xbx];by_cases c:off+(n+1)<=i/\i<off+(n+1)+l.length
  ·rw[if_pos c,if_pos ⟨xdj c.1,xgc c.2 e1⟩,show i - (off+n)=i - (off+(n+1))+1 from(xgz (xfs c.1)).symm,xjy]
  ·rw[if_neg c];by_cases c2:i=off+n
   ·rw[if_pos ⟨xdf c2.symm,xdc (xdf c2) (xhv (Nat.succ_pos _))⟩,c2,xjn,List.getElem?_cons_zero];exact xjc (xbh (xhv (Nat.succ_pos l.length)) h)
   ·rw[if_neg λz=>c ⟨xdd z.1 (xep c2),xgc z.2 e1.symm⟩];exact xht (λz=>c2 z.symm)
theorem zbcf{m xs:Array Keyed} (h:off+m.size<=xs.size):(m.toList.zipIdx.foldl (λa p=>a.setIfInBounds (off+p.2) p.1) xs).toList=xs.toList.take off++m.toList++xs.toList.drop (off+m.size):=by
 apply xke;intro i;rw[xcd,ztb m.toList 0 off xs (by simpa using h) i];simp only[xjo,xcb];have l1:(xs.toList.take off).length=off:=by rw[xdh,xcb];exact xek (xbb (xby _ _) h)
 by_cases c:off<=i/\i<off+m.size
 ·rw[if_pos c,xcj,xcm (xbb (xdf l1) c.1),l1,xbt (by rw[xcb];exact xdu c.1 c.2)]
 ·rw[if_neg c];by_cases c2:i<off
  ·rw[xcj,xbt (xgc c2 l1.symm),List.getElem?_take,if_pos c2,xcd]
  ·have h3:off+m.size<=i:=xcf λz=>c ⟨xcf c2,z⟩
   rw[xcm (by rw[xbl,l1,xcb];exact h3),xfl];simp only[xbl,l1,xcb];rw[xci h3,xcd]
theorem zbad(up:UpA R xs i j)(hj:j<=xs.size):Ord R (xs.extract i j).toList:=by
 rw[zbx];refine xfh.mpr λp q hp hq hpq=>?_
 simp only[xdh,xgr,xcb] at hp hq;simp only[xma,xlz,Array.getElem_toList];have:=up (i+p) (i+q) (xby _ _) (xcl (xbu hpq) i) (xdy (xbh hq (xic _ _)));rw[zds (getElem?_pos xs (i+p) (xdy (xbh hp (xgq _ _)))),zds (getElem?_pos xs (i+q) (xdy (xbh hq (xgq _ _))))] at this;exact this
theorem zjd{xs:Array Keyed} (h:x∈(xs.extract i j).toList):∃q,i<=q/\q<j/\xs[q]?=some x:=by
 rw[zbx] at h;obtain⟨q,hq,e⟩:=zy h;rw[xfl,xcd] at e;exact⟨i+q,xby _ _,xdy hq,e⟩
theorem zbka{xs:Array Keyed} (h:q<j - i):(xs.extract i j).toList[q]?=xs[i+q]?:=by
 rw[zbx,List.getElem?_take,if_pos h,xfl,xcd]
structure Mg (R:Keyed->Nat) (xs ys:Array Keyed) (lo hi:Nat):Prop where
 perm:ys.Perm xs
 out:Out ys xs lo hi
 up:UpA R ys lo hi
theorem zyb{xs:Array Keyed}{sa sb ea k nb':Nat} (hsb:sb<=ea)(hea:ea<=xs.size)(hk:sa+k<sb)(hnb:sb+nb'<=ea)(hnb1:1<=nb')(upA:UpA R xs sa sb)(upB:UpA R xs sb ea)
  (e0:xs[sb]?=some y0)(el:xs[sb - 1]?=some xl)(c1:Cut false R y0 xs sa (sb - sa) k)(c2:Cut true R xl xs sb (ea - sb) nb')
  (f:Fin R (xs.extract (sa+k) sb).toList (xs.extract sb (sb+nb')).toList m):Mg R xs (m.toList.zipIdx.foldl (λa p=>a.setIfInBounds (sa+k+p.2) p.1) xs) sa ea:=by
 have lx:(xs.extract (sa+k) sb).toList.length=sb - (sa+k):=by rw[zbx,xdh,xgr,xcb];exact xek (xfq (xbb hsb hea) _)
 have ly:(xs.extract sb (sb+nb')).toList.length=nb':=by rw[zbx,xdh,xgr,xcb,xcy];exact xek (xev (xbb hnb hea))
 have lm:m.size=sb+nb' - (sa+k):=by
  have:=f.1.length_eq;rw[xbl,lx,ly,xcb] at this;exact this.trans (Nat.sub_add_comm (xbu hk)).symm
 have he:sa+k+m.size=sb+nb':=by rw[lm];exact xci (xbb (xbu hk) (xby _ _))
 have hsz:sa+k+m.size<=xs.size:=by rw[he];exact xbb hnb hea
 have hs1:=xdg hk;have s1:sb - 1<sb:=xib (xkd hk) Nat.one_pos;have g:∀i,(m.toList.zipIdx.foldl (λa p=>a.setIfInBounds (sa+k+p.2) p.1) xs)[i]?=if sa+k<=i/\i<sb+nb' then m.toList[i - (sa+k)]? else xs[i]?:=λi=>by
  have:=ztb m.toList 0 (sa+k) xs (by simpa using hsz) i;simp only[xjo,xcb] at this;rw[he] at this;exact this
 have mid:∀v∈m.toList,R y0<=R v/\R v<=R xl:=λv hv=>by
  rcases xbz.mp (f.1.mem_iff.mp hv) with hv|hv
  ·obtain⟨q,q1,q2,e⟩:=zjd hv;have q0:=xbb (xby _ _) q1;have h1:=c1.2.2 (q - sa) (xev q1) (xej q0 q2);rw[xci q0,zds e] at h1;have h2:=upA q (sb - 1) q0 (xdg q2) s1;rw[zds e,zds el] at h2;have h1':R y0<R v:=h1;exact⟨xbu h1',h2⟩
  ·obtain⟨q,q1,q2,e⟩:=zjd hv;have h1:=upB sb q (xbf _) q1 (xbh q2 hnb);rw[zds e,zds e0] at h1;have h2:=c2.2.1 (q - sb) (xdu q1 q2);rw[xci q1,zds e] at h2;have h2':R v<R xl:=h2;exact⟨h1,xbu h2'⟩
 have low:∀i,sa<=i->i<sa+k->kA R xs i<=R y0:=λi a1 a2=>by
  have:=c1.2.1 (i - sa) (xdu a1 a2);rw[xci a1] at this;exact this
 have hig:∀i,sb+nb'<=i->i<ea->R xl<=kA R xs i:=λi a1 a2=>by
  have i0:=xbb (xby _ _) a1;have:=c2.2.2 (i - sb) (xev a1) (xej i0 a2);rw[xci i0] at this;exact this
 have kk:∀i,kA R (m.toList.zipIdx.foldl (λa p=>a.setIfInBounds (sa+k+p.2) p.1) xs) i=if sa+k<=i/\i<sb+nb' then kA R m (i - (sa+k)) else kA R xs i:=λi=>by
  have:=g i;split
  ·rename_i c;rw[if_pos c,xcd] at this;exact zdj this
  ·rename_i c;rw[if_neg c] at this;exact zdj this
 have mm:∀i,i<m.size->∃v,m.toList[i]?=some v/\v∈m.toList:=λi hi=>⟨m.toList[i]'(by simpa using hi),xbe _,xdi _⟩
 refine⟨?_,λi hi=>?_,λi j a1 a2 a3=>?_⟩
 ·refine xfb.mpr ?_;rw[zbcf hsz,he];have split:xs.toList=xs.toList.take (sa+k)++((xs.extract (sa+k) sb).toList++(xs.extract sb (sb+nb')).toList)++xs.toList.drop (sb+nb'):=by
   rw[zbx,zbx];rw[xcy]
   conv=>lhs;rw[← xdm (sa+k) xs.toList,← xdm (sb - (sa+k)) (xs.toList.drop (sa+k)),xlk,xci (xbu hk),← xdm nb' (xs.toList.drop sb),xlk]
   simp only[xcj]
  conv=>rhs;rw[split]
  exact xij _ (xga _ f.1)
 ·rw[g i,if_neg λz=>hi.elim (λh=>xem (xbb (xby sa k) z.1) h) λh=>xem h (xbh z.2 hnb)]
 ·rw[kk,kk];by_cases ci:sa+k<=i/\i<sb+nb'
  ·rw[if_pos ci];obtain⟨v,ev,mv⟩:=mm (i - (sa+k)) (by rw[lm];exact xej ci.1 ci.2);rw[zbq ev];by_cases cj:sa+k<=j/\j<sb+nb'
   ·rw[if_pos cj];obtain⟨u,eu,mu⟩:=mm (j - (sa+k)) (by rw[lm];exact xej cj.1 cj.2);rw[zbq eu];exact f.2.at ev eu (xfq a2 _)
   ·rw[if_neg cj];exact xbb (mid v mv).2 (hig j (xcf λz=>cj ⟨xbb ci.1 a2,z⟩) a3)
  ·rw[if_neg ci];by_cases ci2:i<sa+k
   ·have h1:=low i a1 ci2;by_cases cj:sa+k<=j/\j<sb+nb'
    ·rw[if_pos cj];obtain⟨u,eu,mu⟩:=mm (j - (sa+k)) (by rw[lm];exact xej cj.1 cj.2);rw[zbq eu];exact xbb h1 (mid u mu).1
    ·rw[if_neg cj];by_cases cj2:j<sa+k
     ·exact upA i j a1 a2 (xiq cj2 hk)
     ·have h2:=hig j (xcf λz=>cj ⟨xcf cj2,z⟩) a3;have h3:R y0<=R xl:=by
       have s0:=xbb (xby _ _) hs1;have h4:=c1.2.2 (sb - 1 - sa) (xev hs1) (xej s0 s1);rw[xci s0,zds el] at h4;exact xbu h4
      exact xbb h1 (xbb h3 h2)
   ·have hi2:sb+nb'<=i:=xcf λz=>ci ⟨xcf ci2,z⟩
    rw[if_neg λz=>xem (xbb hi2 a2) z.2];exact upB i j (xbb (xby _ _) hi2) a2 a3
section
variable {prog:Program}{w:World}{A:Around}{E:Value->Shared->Prop}{s:Shared}
theorem zbsf{x au:SortSt}{Q:Unit->SortSt->Prop}(h:Q () x):wpS (model prog w) A E s (set x:StateT SortSt Sem PUnit) Q au:=by
 unfold wpS;rw[StateT.run_set];exact xbd ⟨rfl,h⟩
end
section
variable {prog:Program}{w:World}{A:Around}{E:Value->Shared->Prop}{s:Shared}{κ:SortKind}{a₀:Array Keyed}{R:Keyed->Nat}
theorem zwo{i sa na pw sb nb pw':Nat}{au:SortSt}{Q:Bool->SortSt->Prop}(O:Orc prog w A s κ a₀ R)(b:B κ a₀ au)(p1:(pendingOf au)[i]?=some (sa,na,pw))(p2:(pendingOf au)[i+1]?=some (sb,nb,pw'))(hsb:sb=sa+na)(hna:1<=na)(hnb:1<=nb)(hz:sb+nb<=a₀.size)
  (upA:UpA R (arrOf au) sa sb)(upB:UpA R (arrOf au) sb (sb+nb))
  (h:∀st',B κ a₀ st'->pendingOf st'=((pendingOf au).setIfInBounds i (sa,na+nb,pw)).eraseIdxIfInBounds (i+1)->Out (arrOf st') (arrOf au) sa (sb+nb)->UpA R (arrOf st') sa (sb+nb)->Q true st'):wpS (model prog w) A E s (mergeAt' i) Q au:=by
 have hsz:=b.size;have bs:sb<a₀.size:=xbh (xhv hnb) hz;refine xbi (xhz ?_);dsimp only;have q1:(sortPriv% PySem.Builtin.SortState.pending) au=pendingOf au:=rfl;rw[q1,p1,p2];dsimp only;refine xbi (zbsf ?_);obtain⟨y0,e0,my0⟩:=b.mem (i:=sb) bs;have inA:∀q,q<a₀.size->∃x,(arrOf au)[q]?=some x/\x∈a₀.toList:=λq hq=>b.mem hq
 refine xbi (zkv e0 ?_);refine xbi (zga O b.kind my0 (λq hq=>inA (sa+q) (xiq (xgc (xee hq sa) hsb.symm) bs)) hna (by rw[← hsb];exact upA) λk c1=>?_);dsimp only;have hk:=c1.1;have c1':Cut false R y0 (arrOf au) sa (sb - sa) k:=by rw[show sb - sa=na from by rw[hsb,xcy]];exact c1
 by_cases d1:na - k=0
 ·rw[if_pos (by simpa using d1)];refine xbm (h _ ⟨b.perm,b.kind,b.failed⟩ rfl (Out.refl _ _ _) λp q a1 a2 a3=>?_);by_cases z1:q<sb
  ·exact upA p q a1 a2 z1
  ·by_cases z2:p<sb
   ·have h1:=c1.2.1 (p - sa) (xbh (xdu a1 (xgc z2 hsb)) (Nat.le_of_sub_eq_zero d1));rw[xci a1] at h1;have h2:=upB sb q (xbf _) (xcf z1) a3;rw[zds e0] at h2;exact xbb h1 h2
   ·exact upB p q (xcf z2) a2 a3
 ·rw[if_neg (by simpa using d1)];have hk2:sa+k<sb:=xgc (xee (xfy λz=>d1 (Nat.sub_eq_zero_of_le z)) sa) hsb.symm;have s1:sb - 1<sb:=xib (xkd hk2) Nat.one_pos;obtain⟨xl,el,mxl⟩:=inA (sb - 1) (xiq s1 bs);have el':(arrOf au)[sa+k+(na - k) - 1]?=some xl:=by rw[Nat.add_assoc,xci hk,← hsb];exact el
  refine xbi (zkv el' ?_);refine xbi (zga O b.kind mxl (λq hq=>inA (sb+q) (xbh (xee hq sb) hz)) (xib hnb Nat.one_pos) upB λnb' c2=>?_);dsimp only;have hn2:=c2.1;have c2':Cut true R xl (arrOf au) sb (sb+nb - sb) nb':=by rw[xcy];exact c2
  by_cases d2:nb'=0
  ·rw[if_pos (by simpa using d2)];refine xbm (h _ ⟨b.perm,b.kind,b.failed⟩ rfl (Out.refl _ _ _) λp q a1 a2 a3=>?_);subst d2;by_cases z1:q<sb
   ·exact upA p q a1 a2 z1
   ·by_cases z2:p<sb
    ·have h1:=upA p (sb - 1) a1 (xdg z2) s1;rw[zds el] at h1;have h2:=c2.2.2 (q - sb) (xeb _) (xdu (xcf z1) a3);rw[xci (xcf z1)] at h2;exact xbb h1 h2
    ·exact upB p q (xcf z2) a2 a3
  ·rw[if_neg (by simpa using d2)];have hn1:1<=nb':=xln d2;have hez:sb<=(arrOf au).size:=by rw[hsz];exact xbu bs
   have hbz:sb+nb<=(arrOf au).size:=by rw[hsz];exact hz
   have hb2:sb+nb'<=sb+nb:=xcl hn2 sb;have oa:Ord R ((arrOf au).extract (sa+k) sb).toList:=zbad (λp q a1 a2 a3=>upA p q (xbb (xby _ _) a1) a2 a3) hez;have ob:Ord R ((arrOf au).extract sb (sb+nb')).toList:=zbad (λp q a1 a2 a3=>upB p q a1 a2 (xbh a3 hb2)) (xbb hb2 hbz);have ma:∀x∈((arrOf au).extract (sa+k) sb).toList,x∈a₀.toList:=λx hx=>by
    obtain⟨q,q1,q2,e⟩:=zjd hx;obtain⟨x',e',m'⟩:=inA q (xiq q2 bs);rw[e] at e';cases e';exact m'
   have mb:∀x∈((arrOf au).extract sb (sb+nb')).toList,x∈a₀.toList:=λx hx=>by
    obtain⟨q,q1,q2,e⟩:=zjd hx;obtain⟨x',e',m'⟩:=inA q (xbh q2 (xbb hb2 hz));rw[e] at e';cases e';exact m'
   have sx:((arrOf au).extract (sa+k) sb).size=sb - (sa+k):=by rw[Array.size_extract,xek hez]
   have sy:((arrOf au).extract sb (sb+nb')).size=nb':=by rw[Array.size_extract,xek (xbb hb2 hbz),xcy]
   have fst:∀y,((arrOf au).extract sb (sb+nb')).toList[0]?=some y->∀x∈((arrOf au).extract (sa+k) sb).toList,R y<=R x:=λy hy x hx=>by
    rw[zbka (by rw[xcy];exact hn1),xjo,e0] at hy;cases hy;obtain⟨q,q1,q2,e⟩:=zjd hx;have q0:=xbb (xby _ _) q1;have:=c1.2.2 (q - sa) (xev q1) (xdu q0 (xgc q2 hsb));rw[xci q0,zds e] at this;exact xbu this
   have lst:∀x,((arrOf au).extract (sa+k) sb).toList[sb - (sa+k) - 1]?=some x->∀y∈((arrOf au).extract sb (sb+nb')).toList,R y<=R x:=λx hx y hy=>by
    rw[zbka (xib (xfs hk2) Nat.one_pos),show sa+k+(sb - (sa+k) - 1)=sb - 1 from by rw[← Nat.add_sub_assoc (xfs hk2),xci (xbu hk2)],el] at hx;cases hx;obtain⟨q,q1,q2,e⟩:=zjd hy;have:=c2.2.1 (q - sb) (xdu q1 q2);rw[xci q1,zds e] at this;exact xbu this
   have post:∀m st2,SmG au st2\/True->Fin R ((arrOf au).extract (sa+k) sb).toList ((arrOf au).extract sb (sb+nb')).toList m->Mg R (arrOf au) (m.toList.zipIdx.foldl (λa p=>a.setIfInBounds (sa+k+p.2) p.1) (arrOf au)) sa (sb+nb):=λm _ _ f =>
    zyb (xby _ _) hbz hk2 hb2 hn1 upA upB e0 el c1' c2' f
   by_cases d3:na - k<=nb'
   ·rw[if_pos d3];refine xbi (zwm O b.kind ma mb ⟨oa,ob,λx hx=>lst x (by rw[xcb,sx] at hx;exact hx)⟩ (by show 1<=((arrOf au).extract (sa+k) sb).size;rw[sx];exact xfs hk2) (by show 1<=((arrOf au).extract sb (sb+nb')).size;rw[sy];exact hn1) fst λm st2 sg f=>?_);have mg:=post m st2 (.inr trivial) f;refine xbi (xgx (xbi (xhz ?_)));have a2:arrOf st2=arrOf au:=sg.arr;have f2:failedOf st2=none:=sg.failed.trans b.failed;refine xbm (?_:Q ((failedOf st2).isNone) (setArr st2 (m.toList.zipIdx.foldl (λa p=>a.setIfInBounds (sa+k+p.2) p.1) (arrOf st2))));rw[f2,a2];exact h _ ⟨mg.perm.trans b.perm,sg.kind.trans b.kind,f2⟩ sg.pend mg.out mg.up
   ·rw[if_neg d3];refine xbi (zwn O b.kind ma mb ⟨oa,ob,fst⟩ (by show 1<=((arrOf au).extract (sa+k) sb).size;rw[sx];exact xfs hk2) (by show 1<=((arrOf au).extract sb (sb+nb')).size;rw[sy];exact hn1) (λx hx=>lst x (by rw[sx] at hx;exact hx)) λm st2 sg f=>?_);have mg:=post m st2 (.inr trivial) f;refine xbi (xgx (xbi (xhz ?_)));have a2:arrOf st2=arrOf au:=sg.arr;have f2:failedOf st2=none:=sg.failed.trans b.failed;refine xbm (?_:Q ((failedOf st2).isNone) (setArr st2 (m.toList.zipIdx.foldl (λa p=>a.setIfInBounds (sa+k+p.2) p.1) (arrOf st2))));rw[f2,a2];exact h _ ⟨mg.perm.trans b.perm,sg.kind.trans b.kind,f2⟩ sg.pend mg.out mg.up
end
def Segs(R:Keyed->Nat) (xs:Array Keyed):Nat->List (Nat×Nat×Nat)->Nat->Prop
 | s,[],e=>s=e
 | s,p::r,e=>p.1=s/\1<=p.2.1/\UpA R xs s (s+p.2.1)/\Segs R xs (s+p.2.1) r e
theorem Segs.le:∀{l:List (Nat×Nat×Nat)} {s e:Nat},Segs R xs s l e->s+l.length<=e
 | [],s,e,h=>by cases h;simp
 | p::r,s,e,h=>by
  have:=Segs.le h.2.2.2;have:=h.2.1;simp;lia
theorem Segs.append:∀{l m:List (Nat×Nat×Nat)} {s e:Nat},Segs R xs s (l++m) e↔∃k,Segs R xs s l k/\Segs R xs k m e
 | [],m,s,e=>⟨λh=>⟨s,rfl,h⟩,λ⟨k,h1,h2⟩=>by cases h1;exact h2⟩
 | p::r,m,s,e=>by
  constructor
  ·rintro⟨h1,h2,h3,h4⟩;obtain⟨k,g1,g2⟩:=Segs.append.mp h4;exact⟨k,⟨h1,h2,h3,g1⟩,g2⟩
  ·rintro⟨k,⟨h1,h2,h3,h4⟩,g2⟩;exact⟨h1,h2,h3,Segs.append.mpr ⟨k,h4,g2⟩⟩
theorem UpA.same(h:UpA R xs a b)(e:∀i,a<=i->i<b->ys[i]?=xs[i]?):UpA R ys a b:=λi j a1 a2 a3=>by
 rw[zdj (e i a1 (xdc a2 a3)),zdj (e j (xbb a1 a2) a3)];exact h i j a1 a2 a3
theorem Segs.same:∀{l:List (Nat×Nat×Nat)} {s e:Nat},Segs R xs s l e->(∀i,s<=i->i<e->ys[i]?=xs[i]?)->Segs R ys s l e
 | [],s,e,h,_=>h
 | p::r,s,e,h,k=>by
  have:=Segs.le h.2.2.2;exact⟨h.1,h.2.1,h.2.2.1.same λi a1 a2=>k i a1 (xbh a2 (xbb (xby _ _) this)),Segs.same h.2.2.2 λi a1 a2=>k i (xbb (xby _ _) a1) a2⟩
theorem Segs.power :∀{l m:List (Nat×Nat×Nat)},l.map (λp=>(p.1,p.2.1))=m.map (λp=>(p.1,p.2.1))->Segs R xs s l e->Segs R xs s m e:=by
 intro l
 induction l generalizing s with
 | nil=>intro m h k;cases m with
  | nil=>exact k
  | cons=>cases h
 | cons p r ih=>intro m h k;cases m with
  | nil=>cases h
  | cons q t =>
   rw[xca,xca] at h;obtain⟨h1,h2⟩:=List.cons.inj h;obtain⟨g1,g2⟩:=Prod.mk.inj h1;obtain⟨k1,k2,k3,k4⟩:=k;rw[g2] at k2 k3 k4;exact⟨g1.symm.trans k1,k2,k3,ih h2 k4⟩
theorem zbdj{l:List (Nat×Nat×Nat)} (h:i+1<l.length):∃pre p q post,l=pre++p::q::post/\pre.length=i:=by
 refine⟨l.take i,l[i],l[i+1],l.drop (i+2),?_,by rw[xdh];exact xek (xbu (xfd h))⟩
 conv=>lhs;rw[← xdm i l,xgf (xfd h),xgf h]
section
variable {prog:Program}{w:World}{A:Around}{E:Value->Shared->Prop}{s:Shared}{κ:SortKind}{a₀:Array Keyed}{R:Keyed->Nat}
theorem w_at{i e:Nat}{au:SortSt}{Q:Bool->SortSt->Prop}(O:Orc prog w A s κ a₀ R)(b:B κ a₀ au)(sg:Segs R (arrOf au) 0 (pendingOf au).toList e)(he:e<=a₀.size)(hi:i+1<(pendingOf au).size)
  (h:∀st',B κ a₀ st'->Segs R (arrOf st') 0 (pendingOf st').toList e->(pendingOf st').size+1=(pendingOf au).size->(∀k,e<=k->(arrOf st')[k]?=(arrOf au)[k]?)->Q true st'):wpS (model prog w) A E s (mergeAt' i) Q au:=by
 obtain⟨pre,p,q,post,el,hl⟩:=zbdj (l:=(pendingOf au).toList) (i:=i) (by simpa using hi);obtain⟨sa,na,pw⟩:=p;obtain⟨sb,nb,pw'⟩:=q;rw[el] at sg;obtain⟨k,g1,g2⟩:=Segs.append.mp sg;obtain⟨h1,h2,h3,h4,h5,h6,h7⟩:=g2;dsimp only at h1 h2 h3 h4 h5 h6 h7;subst h1;have l7:=Segs.le h7;have l1:=Segs.le g1;have p1:(pendingOf au)[i]?=some (sa,na,pw):=by rw[← xcd,el,xcm (xdf hl),hl,xjn];rfl
 have p2:(pendingOf au)[i+1]?=some (sb,nb,pw'):=by rw[← xcd,el,xcm (xbb (xdf hl) (xby i 1)),hl,xcy];rfl
 refine zwo O b p1 p2 h4 h2 h5 (by lia) (by rw[h4];exact h3) (by rw[h4];exact h6) λst' b' pe ou up=>?_
 have pl:(pendingOf st').toList=pre++(sa,na+nb,pw)::post:=by
  rw[pe];rw[Array.toList_eraseIdxIfInBounds,Array.toList_setIfInBounds,el];rw[List.set_append_right _ _ (xdf hl),hl,xjn,List.set_cons_zero,List.eraseIdx_append_of_length_le (xbb (xdf hl) (xby i 1)),hl,xcy]
  rfl
 have keep:∀j,j<sa\/sb+nb<=j->(arrOf st')[j]?=(arrOf au)[j]?:=ou
 refine h st' b' ?_ ?_ λj hj=>keep j (.inr (by lia))
 ·rw[pl];refine Segs.append.mpr ⟨sa,g1.same λj a1 a2=>keep j (.inl a2),rfl,by show 1<=na+nb;lia,?_,?_⟩
  ·show UpA R (arrOf st') sa (sa+(na+nb));rw[show sa+(na+nb)=sb+nb by lia];exact up
  ·show Segs R (arrOf st') (sa+(na+nb)) post e;rw[show sa+(na+nb)=sa+na+nb by lia];exact h7.same λj a1 a2=>keep j (.inr (by lia))
 ·have e1:(pendingOf st').size=(pendingOf st').toList.length:=by simp
  have e2:(pendingOf au).size=(pendingOf au).toList.length:=by simp
  rw[e1,e2,pl,el];simp only[xbl,xbx];lia
end
theorem zbol [Decidable c] (h1:a+1<n)(h2:b+1<n):(if c then a else b)+1<n:=by split<;>assumption
theorem zbaj(h:∀x,g (f x)=g x):∀(l:List (Nat×Nat×Nat)) (i:Nat),(l.modify i f).map g=l.map g
 | [],i=>by simp
 | x::l,0=>by simp[h]
 | x::l,i+1=>by simp[zbaj h l i]
theorem Segs.mod(h:Segs R xs s l e)(i c:Nat):Segs R xs s (l.modify i λx=>(x.1,x.2.1,c)) e :=
 h.power (zbaj (g:=λp=>(p.1,p.2.1)) (f:=λx=>(x.1,x.2.1,c)) (λ_=>rfl) l i).symm
section
variable {prog:Program}{w:World}{A:Around}{E:Value->Shared->Prop}{s:Shared}{κ:SortKind}{a₀:Array Keyed}{R:Keyed->Nat}
theorem zbmk{au:SortSt}{Q:Unit->SortSt->Prop}(O:Orc prog w A s κ a₀ R)(b:B κ a₀ au)(pe:pendingOf au=#[])(h2:2<=a₀.size)
  (h:∀st',B κ a₀ st'->UpA R (arrOf st') 0 a₀.size->Q () st'):wpS (model prog w) A E s sortRuns' Q au:=by
 have hz:=b.size;rw[sortRuns'_eq];refine xbi (xhz ?_);dsimp only;rw[hz]
 refine xbi (xfn (xds (I:=λx c st'=>∃lo,c=(none,lo)/\B κ a₀ st'/\Segs R (arrOf st') 0 (pendingOf st').toList lo/\lo<=a₀.size/\x<=lo)
  (Q:=λc st'=>c=(none,a₀.size)/\B κ a₀ st'/\Segs R (arrOf st') 0 (pendingOf st').toList a₀.size) ?_ ?_ ⟨0,rfl,b,by rw[pe];rfl,by lia,by lia⟩) ?_)
 ·rintro x c st1 x1 x2 ⟨lo,rfl,b1,sg1,hlo,hx⟩;dsimp only;by_cases c1:lo ≥ a₀.size
  ·rw[if_pos c1];have:lo=a₀.size:=by lia
   subst this;exact xbm ⟨rfl,b1,sg1⟩
  rw[if_neg c1];refine xbi (zbgm O b1 (by lia) (by lia) λm st2 m1 m2 b2 sm2 up2=>?_);dsimp only;have sg2:Segs R (arrOf st2) 0 (pendingOf st2).toList lo:=by
   rw[sm2.pend];exact sg1.same λi a1 a2=>sm2.out i (.inl a2)
  by_cases c2:m<minRun' a₀.size a₀.size 0
  ·rw[if_pos c2];refine xbi (xkq (xih ⟨rfl,?_⟩));refine xbi (zbsg O b2 (by lia) m1 (by lia) up2 λst3 b3 sm3 up3=>?_);have sg3:Segs R (arrOf st3) 0 (pendingOf st3).toList lo:=by
    rw[sm3.pend];exact sg2.same λi a1 a2=>sm3.out i (.inl a2)
   have hn1:1<=min (a₀.size - lo) (minRun' a₀.size a₀.size 0):=by lia
   have hn2:lo+min (a₀.size - lo) (minRun' a₀.size a₀.size 0)<=a₀.size:=by lia
   simp only[Bool.not_true,xcv,xen];generalize min (a₀.size - lo) (minRun' a₀.size a₀.size 0)=n at up3 hn1 hn2 sm3 ⊢;refine xbi (xhz ?_);cases hb:(pendingOf st3).back? with
   | none =>
    dsimp only;refine xbi (xgx (xbm ⟨lo+n,rfl,⟨b3.perm,b3.kind,b3.failed⟩,?_,hn2,by lia⟩));show Segs R (arrOf st3) 0 ((pendingOf st3).push (lo,n,0)).toList (lo+n);rw[xet];exact Segs.append.mpr ⟨lo,sg3,rfl,hn1,up3,rfl⟩
   | some p =>
    obtain⟨s1,n1,p1⟩:=p;dsimp only;refine xbi (xfn (xds (I:=λ_ c st'=>c=(none,())/\B κ a₀ st'/\Segs R (arrOf st') 0 (pendingOf st').toList lo/\UpA R (arrOf st') lo (lo+n)) (Q:=λc st'=>c=(none,())/\B κ a₀ st'/\Segs R (arrOf st') 0 (pendingOf st').toList lo/\UpA R (arrOf st') lo (lo+n)) ?_ (λ_ _ hh=>hh) ⟨rfl,b3,sg3,up3⟩) ?_)
    ·rintro x' c st4 _ _ ⟨rfl,b4,sg4,up4⟩;refine xbi (xhz ?_);by_cases hs:(pendingOf st4).size > 1
     ·rw[if_pos hs,getElem?_pos (pendingOf st4) ((pendingOf st4).size - 2) (by lia)];obtain⟨s2,n2,p2⟩:=(pendingOf st4)[(pendingOf st4).size - 2]'(by lia);dsimp only;split
      ·exact xbm ⟨rfl,b4,sg4,up4⟩
      ·refine xbi (w_at O b4 sg4 hlo (by lia) λst5 b5 sg5 _ k5=>?_);exact xbm ⟨rfl,b5,sg5,up4.same λi a1 a2=>k5 i a1⟩
     ·rw[if_neg hs];exact xbm ⟨rfl,b4,sg4,up4⟩
    ·rintro c st4 ⟨rfl,b4,sg4,up4⟩;dsimp only;refine xbi (xgx (xbi (xgx (xbm ⟨lo+n,rfl,⟨b4.perm,b4.kind,b4.failed⟩,?_,hn2,by lia⟩))));refine(?_:Segs R (arrOf st4) 0 (((pendingOf st4).modify ((pendingOf st4).size - 1) λx=>(x.1,x.2.1,_)).push (lo,n,0)).toList (lo+n));rw[xet,Array.toList_modify];exact Segs.append.mpr ⟨lo,sg4.mod _ _,rfl,hn1,up4,rfl⟩
  ·rw[if_neg c2];have b3:=b2;have sg3:=sg2;have up3:=up2;have hn1:=m1;have hn2:lo+m<=a₀.size:=by lia
   generalize st2=st3 at b3 sg3 up3 ⊢;generalize m=n at up3 hn1 hn2 ⊢;refine xbi (xhz ?_);cases hb:(pendingOf st3).back? with
   | none =>
    dsimp only;refine xbi (xgx (xbm ⟨lo+n,rfl,⟨b3.perm,b3.kind,b3.failed⟩,?_,hn2,by lia⟩));show Segs R (arrOf st3) 0 ((pendingOf st3).push (lo,n,0)).toList (lo+n);rw[xet];exact Segs.append.mpr ⟨lo,sg3,rfl,hn1,up3,rfl⟩
   | some p =>
    obtain⟨s1,n1,p1⟩:=p;dsimp only;refine xbi (xfn (xds (I:=λ_ c st'=>c=(none,())/\B κ a₀ st'/\Segs R (arrOf st') 0 (pendingOf st').toList lo/\UpA R (arrOf st') lo (lo+n)) (Q:=λc st'=>c=(none,())/\B κ a₀ st'/\Segs R (arrOf st') 0 (pendingOf st').toList lo/\UpA R (arrOf st') lo (lo+n)) ?_ (λ_ _ hh=>hh) ⟨rfl,b3,sg3,up3⟩) ?_)
    ·rintro x' c st4 _ _ ⟨rfl,b4,sg4,up4⟩;refine xbi (xhz ?_);by_cases hs:(pendingOf st4).size > 1
     ·rw[if_pos hs,getElem?_pos (pendingOf st4) ((pendingOf st4).size - 2) (by lia)];obtain⟨s2,n2,p2⟩:=(pendingOf st4)[(pendingOf st4).size - 2]'(by lia);dsimp only;split
      ·exact xbm ⟨rfl,b4,sg4,up4⟩
      ·refine xbi (w_at O b4 sg4 hlo (by lia) λst5 b5 sg5 _ k5=>?_);exact xbm ⟨rfl,b5,sg5,up4.same λi a1 a2=>k5 i a1⟩
     ·rw[if_neg hs];exact xbm ⟨rfl,b4,sg4,up4⟩
    ·rintro c st4 ⟨rfl,b4,sg4,up4⟩;dsimp only;refine xbi (xgx (xbi (xgx (xbm ⟨lo+n,rfl,⟨b4.perm,b4.kind,b4.failed⟩,?_,hn2,by lia⟩))));refine(?_:Segs R (arrOf st4) 0 (((pendingOf st4).modify ((pendingOf st4).size - 1) λx=>(x.1,x.2.1,_)).push (lo,n,0)).toList (lo+n));rw[xet,Array.toList_modify];exact Segs.append.mpr ⟨lo,sg4.mod _ _,rfl,hn1,up4,rfl⟩
 ·rintro c st1 ⟨lo,rfl,b1,sg1,hlo,hx⟩;have:lo=a₀.size:=by lia
  subst this;exact⟨rfl,b1,sg1⟩
 ·rintro c st1 ⟨rfl,b1,sg1⟩;dsimp only
  refine xbi (xfn (xds (I:=λx c st'=>c=(none,())/\B κ a₀ st'/\Segs R (arrOf st') 0 (pendingOf st').toList a₀.size/\(pendingOf st').size+x<=a₀.size)
   (Q:=λc st'=>c=(none,())/\B κ a₀ st'/\Segs R (arrOf st') 0 (pendingOf st').toList a₀.size/\(pendingOf st').size<=1) ?_ ?_ ⟨rfl,b1,sg1,by have:=sg1.le;simp at this;lia⟩) ?_)
  ·rintro x c st2 x1 x2 ⟨rfl,b2,sg2,hp⟩;refine xbi (xhz ?_);by_cases c1:(pendingOf st2).size<=1
   ·rw[if_pos c1];exact xbm ⟨rfl,b2,sg2,c1⟩
   rw[if_neg c1];refine xbi (w_at O b2 sg2 (xbf _) ?_ λst3 b3 sg3 p3 _=>xbm ⟨rfl,b3,sg3,by lia⟩);exact zbol (by lia) (by lia)
  ·rintro c st2 ⟨rfl,b2,sg2,hp⟩;exact⟨rfl,b2,sg2,by lia⟩
  ·rintro c st2 ⟨rfl,b2,sg2,hp⟩;refine xbm (h st2 b2 ?_);cases hl:(pendingOf st2).toList with
   | nil=>rw[hl] at sg2;have:0=a₀.size:=sg2;lia
   | cons p r =>
    have:r=[]:=by
     have e2:(pendingOf st2).size=(pendingOf st2).toList.length:=by simp
     rw[e2,hl,xbx] at hp;exact xjz.mp (by lia)
    subst this;rw[hl] at sg2;obtain⟨_,_,g3,g4⟩:=sg2;have g4':0+p.2.1=a₀.size:=g4;rw[g4'] at g3;exact g3
end
end TS
namespace Srt
open PySem PySem.W PyProof.Rows
theorem zra{α β:Type}(f:α->β):∀{l m':List β},l.Perm m'->∀m:List α,m'=m.map f->∃p:List α,p.Perm m/\l=p.map f:=by
 intro l m' h
 induction h with
 | nil=>exact λm e=>⟨[],by rw[List.map_eq_nil_iff.mp e.symm],rfl⟩
 | cons x _ ih =>
  intro m e;cases m with
  | nil=>cases e
  | cons y m =>
   rw[xca] at e;injection e with e1 e2
   obtain⟨p,p1,p2⟩:=ih m e2;exact⟨y::p,p1.cons y,by rw[xca,← p2,e1]⟩
 | swap x y l =>
  intro m e
  match m,e with
  | a::b::m,e =>
   rw[xca,xca] at e;injection e with e1 e2
   injection e2 with e2 e3
   exact⟨b::a::m,.swap _ _ _,by rw[xca,xca,e1,e2,e3]⟩
 | trans _ _ ih1 ih2 =>
  intro m e;obtain⟨p,p1,p2⟩:=ih2 m e;obtain⟨q,q1,q2⟩:=ih1 p p2;exact⟨q,q1.trans p1,q2⟩
noncomputable def Coh(r:Nat->Nat) (xs:List Value):Prop:=∀i j,i<xs.length->j<xs.length->xs.getD i Value.none=xs.getD j Value.none->r i=r j
open Classical in
noncomputable def rankV(r:Nat->Nat) (xs:List Value) (x:Keyed):Nat:=if h:∃i,i<xs.length/\xs.getD i Value.none=x.1 then r h.choose else 0
theorem zng(coh:Coh r xs) (hi:i<xs.length)(e:xs.getD i Value.none=x.1):rankV r xs x=r i:=by
 have h:∃i,i<xs.length/\xs.getD i Value.none=x.1:=⟨i,hi,e⟩
 unfold rankV;rw[dif_pos h];exact coh _ _ h.choose_spec.1 hi (h.choose_spec.2.trans e.symm)
theorem zrv(xs:List Value):(xs.toArray.zip xs.toArray).toList=(List.range xs.length).map λi=>((xs.getD i Value.none,xs.getD i Value.none):Keyed):=by
 rw[Array.toList_zip];apply xmh
 ·simp
 ·intro i h1 h2;have h3:i<xs.length:=by simpa using h2
  simp[xbr,h3]
theorem zbdi{xs:List Value} (h2:2<=xs.length)(coh:Coh r xs)
  (cmp:∀i j C,i<xs.length->j<xs.length->C (lt r i j) sg->kas_ask P w B κ xs i j C sg) :
  wpAny (model P w) B ((sortRuns').run (SortSt.mk' κ (xs.toArray.zip xs.toArray) #[] 7 none)) (λy z=>∃p:Array Nat,(p.Perm (List.toArray (List.range xs.length))/\Up r p xs.length)/\(arrOf y.2).map (·.2)=outOf xs p/\failedOf y.2=none/\z=sg) E sg:=by
 have sz:(xs.toArray.zip xs.toArray).size=xs.length:=by simp
 have O:TS.Orc P w B sg κ (xs.toArray.zip xs.toArray) (rankV r xs):=λx hx y hy C hC=>by
  rw[zrv] at hx hy;obtain⟨i,hi,rfl⟩:=xce.mp hx;obtain⟨j,hj,rfl⟩:=xce.mp hy;rw[xck] at hi hj;rw[zng coh hi rfl,zng coh hj rfl] at hC;exact cmp i j C hi hj hC
 have run:=TS.zbmk (E:=E) (Q:=λ_ y=>∃p:Array Nat,(p.Perm (List.toArray (List.range xs.length))/\Up r p xs.length)/\(arrOf y).map (·.2)=outOf xs p/\failedOf y=none) O (au:=SortSt.mk' κ (xs.toArray.zip xs.toArray) #[] 7 none) ⟨.refl _,rfl,rfl⟩ rfl (by rw[sz];exact h2) λy b up=>by
  obtain⟨l,l1,l2⟩:=zra (λi=>((xs.getD i Value.none,xs.getD i Value.none):Keyed)) (xfb.mp b.perm) _ (zrv xs);have ll:l.length=xs.length:=by rw[l1.length_eq,xfe]
  have mem:∀k,(hk:k<l.length)->l[k]<xs.length:=λk hk=>xck.mp (l1.mem_iff.mp (xdi hk))
  have key:∀k,k<xs.length->TS.kA (rankV r xs) (arrOf y) k=At r l.toArray k:=λk hk=>by
   have hk':k<l.length:=by lia
   have e:(arrOf y)[k]?=some (xs.getD l[k] Value.none,xs.getD l[k] Value.none):=by
    rw[← xcd,l2,xcn,xbe hk']
    rfl
   rw[TS.zds e,zng coh (mem k hk') rfl];unfold At;simp[hk']
  refine⟨l.toArray,⟨?_,λi j hij hj=>?_⟩,?_,b.failed⟩
  ·exact xfb.mpr (by simpa using l1)
  ·rw[← key i (by lia),← key j hj];exact up i j (xeb _) hij (by rw[sz];exact hj)
  ·unfold outOf;apply Array.toList_inj.mp;rw[Array.toList_map,l2,xcw]
   rfl
 exact xdw run (λy z hz=>by
  obtain⟨rfl,p,a,b,c⟩:=hz
  exact⟨p,a,b,c,rfl⟩) λ_ _ x=>x
theorem zkz{au:Shared}(r:Nat->Nat) {xs:List Value} {W:Fin->Shared->Prop}(e0:au.heap.get? d=some (seqObj "list" xs.toArray k))(few:xs.length<=sizeLine)(coh:Coh r xs)
  (ask:2<=xs.length->Answers P w B r xs {au with heap:=midHeap au.heap d xs})
  (fin:∀p:Array Nat,p.Perm (List.toArray (List.range xs.length))->Up r p xs.length->W (.done (.ret .none)) {au with heap:=sortedHeap au.heap d xs (outOf xs p)}) :
  wpAny (model P w) B (Builtin.«list.sort» ⟨[.ref d],[]⟩) W E au:=by
 obtain⟨c,ec⟩:∃ c,(au.heap.update d (Obj.mapSeq λ_=>(#[]:Array Value))).get? d=some (seqObj "list" #[] c):=⟨_,get?_update_seq e0 λ_=>#[]⟩
 have em:(midHeap au.heap d xs).get? d=some (seqObj "list" #[] c):=xbg _ (xbg _ ec)
 have szs:xs.toArray.size=xs.length:=xbs;rw[list_sort_plain];refine xba (listItems_at e0 rfl (xba (listUpdate_at e0 rfl (xba (seqEpoch_at ec rfl (xba (wpAny_newTuple (xba (wpAny_newList (xdz ?_) (xeb _))) (few))))) (by rw[szs];exact few) (xeb _))));show wpAny (model P w) B _ W E {au with heap:=midHeap au.heap d xs};dsimp only;by_cases two:xs.toArray.size<2
 ·rw[if_pos two,if_pos two];rw[szs] at two;have eo:((arrOf (SortSt.mk' general' (xs.toArray.zip xs.toArray) #[] 7 none)).map (·.2))=outOf xs (List.toArray (List.range xs.length)):=zxa two
  refine xba (xbd (by
   rw[StateT.run_pure];refine xba (xbd (xba (seqEpoch_at em rfl (xba (listUpdate_at em rfl ?_ (xeb _) ?_)))))
   ·rw[if_neg (by simp)];refine xbd ?_;rw[eo];exact fin _ (.refl _) λi j hij hj=>xdf (congrArg (At r _) (by lia))
   ·rw[eo];refine xft (xbb (xdf ?_) (few));unfold outOf
    simp))
 ·rw[if_neg two,if_neg two];rw[szs] at two;obtain⟨κ,kd,cmp⟩:=ask (by lia);refine xba (xdw (kd (λκ' z=>κ'=κ/\z={au with heap:=midHeap au.heap d xs}) ⟨rfl,rfl⟩) (λκ' z hz=>?_) λ_ _ x=>x.elim);obtain⟨rfl,rfl⟩:=hz;have run:=zbdi (E:=E) (r:=r) (xs:=xs) (κ:=κ') (sg:={au with heap:=midHeap au.heap d xs}) (by lia) coh cmp;refine xba (xdw run (λyy z hz=>?_) λ_ _ x=>x);obtain⟨⟨⟩,y⟩:=yy;obtain⟨p,hp,ho,hf,rfl⟩:=hz;dsimp only at ho hf ⊢;refine xba (seqEpoch_at em rfl (xba (listUpdate_at em rfl ?_ (xeb _) ?_)))
  ·rw[hf,if_neg (by simp),ho];exact xbd (fin p hp.1 hp.2)
  ·rw[ho];refine xft (xbb (xdf ?_) (few));unfold outOf;rw[xbs,xbc,xcb,hp.1.size_eq];simp
theorem zmy{B:Around}{au:Shared}(r:Nat->Nat) {xs:List Value}{W:Value->Shared->Prop}(isl:au.heap.IsList d xs.toArray)(few:xs.length<=sizeLine)(coh:Coh r xs)
  (ask:2<=xs.length->∀g:Heap,(∀b ob,au.heap.get? b=some ob->g.get? b=some ob)->Answers P w B.in1.in1 r xs {au with heap:=g})
  (fin:∀p:Array Nat,p.Perm (List.toArray (List.range xs.length))->Up r p xs.length->W (.ref (au.heap.objs.size+1)) {au with heap:=sortedAll au.heap xs (outOf xs p)}) :
  wpAny (model P w) B (call (.builtin "sorted") [.ref d]) W E au:=by
 let g0:Heap:=(au.heap.push (seqObj "list" #[] 0)).update au.heap.objs.size (Obj.mapSeq (·++xs.toArray))
 have sz:g0.objs.size=au.heap.objs.size+1:=(Heap.size_update ..).trans (size_push' _ _);have new:(g0.push (seqObj "list" xs.toArray 0)).get? (au.heap.objs.size + 1)=some (seqObj "list" xs.toArray 0):=by
  have z:=xbw g0 (o:=seqObj "list" xs.toArray 0) rfl
  rw[sz] at z;exact z
 have old:∀ b ob,au.heap.get? b=some ob->(g0.push (seqObj "list" xs.toArray 0)).get? b=some ob:=λb ob e=>by
  have lt:=xbq e;exact xbg _ ((Heap.get?_update_ne _ _ _ _ (xbv lt)).trans (xbg _ e))
 have ar:argsOk "sorted" ⟨[.ref d],[]⟩:=args_sorted1 _
 refine Calls.call_function_entry kind_sorted plain_sorted entry_sorted ar ?_;unfold Builtin.«sorted»;refine xba (m:=checkCount "sorted" 1 1 _) (xbd (xba (collect_list isl (xba (wpAny_newList ?_ (few))) (few))))
 show wpAny _ _ _ _ _ { au with heap:=g0.push (seqObj "list" xs.toArray 0) }
 have esz:(Value.ref g0.objs.size)=Value.ref (au.heap.objs.size+1):=by rw[sz]
 rw[show((au.heap.push (seqObj "list" #[] 0)).update au.heap.objs.size (Obj.mapSeq (·++xs.toArray))).objs.size=au.heap.objs.size + 1 from sz]
 refine xba (xdz (xeo slot_list_sort ⟨_,new,rfl⟩ entry_list_sort (zkz r (au:={ au with heap:=g0.push (seqObj "list" xs.toArray 0) }) new few coh (λtwo=>?_) λp p1 p2=>⟨_,rfl,xbd ⟨_,rfl,fin p p1 p2⟩⟩) (args_list_sort _)))
 exact ask two _ λb ob e=>zjc (xbv (xhk (xbq e))) (old b ob e)
theorem zin{B:Around}{au:Shared}{T:String} {It:Nat->Value->Prop} (S:KdlSrc P w T a d n It OK)(hh:B.handled=none)(ok:OK au.heap)(few:n<=sizeLine){W:Value->Shared->Prop}
  (ask:∀xs:List Value,xs.length=n->(∀(j:Nat) (v:Value),xs[j]?=some v->It j v)->∃r:Nat->Nat,Coh r xs/\(2<=n->∀(g:Heap) (tk:Nat),(∀b ob,au.heap.get? b=some ob->g.get? b=some ob)->Answers P w B.in1.in1 r xs {au with heap:=g,toks:=tk}) /\
   ∀(p:Array Nat) (q:Addr) (g:Heap) (tk c:Nat),p.Perm (List.toArray (List.range xs.length))->Up r p xs.length->(∀ b ob,au.heap.get? b=some ob->g.get? b=some ob)->(∀ b ob,au.heap.get? b=some ob->b≠q)->g.get? q=some (seqObj "list" (outOf xs p) c)->W (.ref q) { au with heap:=g,toks:=tk }) :
  wpAny (model P w) B (call (.builtin "sorted") [.ref a]) W E au:=by
 have ar:argsOk "sorted" ⟨[.ref a],[]⟩:=args_sorted1 _
 refine Calls.call_function_entry kind_sorted plain_sorted entry_sorted ar ?_;unfold Builtin.«sorted»;refine xba (m:=checkCount "sorted" 1 1 _) (xbd (xba (kdu_collect (A:=B.in1) S hh ok (few) λg tk acc keep items=>?_)))
 have len:acc.toList.length=n:=by rw[xcb];exact items.1
 obtain⟨r,coh,an,fin⟩:=ask acc.toList len (λj v e=>items.2 j v (by rw[← xcd];exact e));refine xba (wpAny_newList ?_ (by rw[len];exact few));have new:(g.push (seqObj "list" acc.toList.toArray 0)).get? g.objs.size=some (seqObj "list" acc.toList.toArray 0):=xbw g rfl
 have old:∀ b ob,au.heap.get? b=some ob->(g.push (seqObj "list" acc.toList.toArray 0)).get? b=some ob:=λb ob e=>xbg _ (keep b ob e)
 have lt:∀b ob,au.heap.get? b=some ob->b≠g.objs.size:=λb ob e=>xbv (xbq (keep b ob e))
 show wpAny _ _ _ _ _ { au with heap:=g.push (seqObj "list" acc.toList.toArray 0),toks:=tk }
 refine xba (xdz (xeo slot_list_sort ⟨_,new,rfl⟩ entry_list_sort (zkz r (au:={ au with heap:=g.push (seqObj "list" acc.toList.toArray 0),toks:=tk }) new (by rw[len]; exact few) coh (λtwo=>?_) λp p1 p2=>⟨_,rfl,xbd ⟨_,rfl,?_⟩⟩) (args_list_sort _)))
 ·exact an (by lia) _ tk λb ob e=>zjc (lt b ob e) (old b ob e)
 ·obtain⟨c,ec⟩:=sortedHeap_at (n:=0) (vs:=acc.toList) (out:=outOf acc.toList p) new;refine fin p g.objs.size _ tk c p1 p2 (λb ob e=>?_) ?_ ec
  ·rw[sortedHeap_old (lt b ob e) (xbq (old b ob e))];exact old b ob e
  ·exact lt
end Srt
namespace L2
open PySem PySem.Spec PyProof.Rows PySem.W
theorem small10000(h:n<=1000000):n<=sizeLine:=xbb h (by rw[xgg];lia)
theorem zjh:∀{us:List Value} {a b:List Int},IntsAre us a->IntsAre us b->a=b
 | _,_,_,.nil,.nil=>rfl
 | _,_,_,.cons x t r,.cons _ _ r'=>by rw[zjh r r']
theorem zvk(tup:TupsG g ps):Srt.Coh (Srt.rank (ps.map (·.2))) (ps.map λp=>Value.ref p.1):=λi j hi hj e=>by
 rw[xbc] at hi hj;have ei:ps[i]?=some ps[i]:=xbe hi;have ej:ps[j]?=some ps[j]:=xbe hj;rw[zn (λp:Addr×List Int=>Value.ref p.1) _ ei,zn (λp:Addr×List Int=>Value.ref p.1) _ ej] at e;injection e with e
 obtain⟨us,o,n,a1,a2,a3,a4⟩:=tup _ (xdi hi);obtain⟨us2,o2,n2,b1,b2,b3,b4⟩:=tup _ (xdi hj);rw[e,b2] at a2;injection a2 with a2
 subst a2;rw[b4] at a4;injection a4 with a4 _
 have a5:us2=us:=by simpa using a4
 subst a5;have d:=zjh a1 b1;unfold Srt.rank;rw[zn (λp:Addr×List Int=>p.2) _ ei,zn (λp:Addr×List Int=>p.2) _ ej,d]
def rSortedAL(K:Fg):List V->Hp->VK->Prop:=λxs H Q=>∃(l:Addr) (ps:List (Addr×List Int)),xs=[.ref l]/\SqL K H l (ps.map λp=>V.ref p.1)/\ps.length<=1000000/\TupsAt K H ps /\
 ∀(q:Addr) (qs:List (Addr×List Int)),H q=none->qs.Perm ps->(qs.map (·.2)).Pairwise (λa b=>HT.lexLt b a=false)->Q (.ref q) (upd H q (.lst (qs.map λp=>V.ref p.1)))
def rSortedDAL:List V->Hp->VK->Prop:=λxs H Q=>∃(a:Addr) (kvs:List (List Key×V)) (ks:List (List Int)),xs=[.ref a]/\Rd H a (.dT kvs)/\kvs.map (·.1)=ks.map (λns=>ns.map Sum.inl)/\ks.length<=1000000 /\
 ∀(q:Addr) (qs:List (Addr×List Int)),H q=none->(qs.map (·.2)).Perm ks->(qs.map (·.2)).Pairwise (λx y=>HT.lexLt y x=false)->(∀p∈qs,H p.1=some (.tup (p.2.map V.int)))->Q (.ref q) (upd H q (.lst (qs.map λp=>V.ref p.1)))
theorem zmh{X:Cx}(hu:X.A.units + 64<cLine):CallR X (.builtin "sorted") (rSortedAL X.K):=by
 intro aW s σ H xs us Q I r h;obtain⟨l,ps,rfl,hl,h64,ht,q⟩:=h;obtain⟨u,rfl,ru⟩:=vals1 r;cases ru;obtain⟨its,rv,pl,hz⟩:=I.list hl;have eits:its=ps.map λp=>Value.ref p.1:=by
  have e:(ps.map λp=>V.ref p.1)=(ps.map (·.1)).map V.ref:=by rw[xcw];rfl
  rw[e] at rv;rw[zjr rv,xcw]
  rfl
 subst eits;have tup:∀g:Heap,(∀b o,s.heap.get? b=some o->g.get? b=some o)->TupsG g ps:=λg keep p hp=>by
  obtain⟨us,rv',⟨o,b2,b3,n,b4⟩,_⟩:=I.tuple (ht p hp);exact⟨us,o,n,zea rv',keep _ _ b2,b3,b4⟩
 refine Srt.zmy (Srt.rank (ps.map (·.2))) pl.isList (by rw[xbc];exact small10000 h64) (zvk (tup s.heap λ_ _ z=>z)) (λh2 g keep=>zbbk (by show X.A.units+1+1<cLine;lia) (by rw[xbc] at h2;exact h2) (tup g keep)) (λp p1 p2=>?_);rw[xbc] at p1 p2;obtain⟨qs,q1,q2,q3⟩:=ztj p1 p2;obtain⟨e,he⟩:=sortedAll_at s.heap (ps.map λp=>Value.ref p.1) (Srt.outOf (ps.map λp=>Value.ref p.1) p);rw[q3] at he ⊢;refine⟨.ref (s.heap.objs.size+1),_,I.laid (a:=s.heap.objs.size+1) (o:=.lst (qs.map λp=>V.ref p.1)) (t':=s.toks) (λ_ _ z=>sortedAll_old z) (xkl _) ⟨?_,_,e,zgy qs,he⟩,rfl,q _ _ (I.hok.fresh (xkl _)) q1 q2⟩;rw[xbc,q1.length_eq];exact small10000 (by lia)
theorem zkr{X:Cx}(hc:X.calm=true)(hu:X.A.units + 64<cLine):CallR X (.builtin "sorted") rSortedDAL:=by
 intro aW s σ H xs us Q I r h;obtain⟨a,kvs,ks,rfl,hd,ek,few,q⟩:=h;obtain⟨u,rfl,ru⟩:=vals1 r;cases ru;obtain⟨z,ns,ys,rel,ob,es,ep,e1,e2,e3,e4,e5⟩:=(show ObjOk X.prog X.w H s.heap a (.dT kvs) from hd.ok I.hok)
 obtain⟨ps,a1,a2,a3⟩:=zmg (P:=X.prog) (w:=X.w) rel ek;have hpl:ps.length=ks.length:=by rw[← a1,xbc]
 have hes:es.toList.map (·.key)=ps.map λp=>Value.ref p.1:=by rw[e4,xcw];exact a3
 have hsz:es.size=ps.length:=by
  have:=congrArg List.length hes;rw[xbc,xbc,xcb] at this;exact this
 have tup:∀g:Heap,(∀b o,s.heap.get? b=some o->g.get? b=some o)->TupsG g ps:=λg keep p hp=>by
  obtain⟨us,rv,⟨o,b2,b3,n,b4⟩,_⟩:=I.tuple (SqT.of (a2 p hp));exact⟨us,o,n,zea rv,keep _ _ b2,b3,b4⟩
 refine Srt.zin (Dct.zbhb ns es ep) (I.ok.hd hc) ⟨ob,e1,e2,e3⟩ (small10000 (by lia)) λvs hl hv=>?_
 have evs:vs=ps.map λp=>Value.ref p.1:=by
  rw[← hes];apply xke;intro i;by_cases hi:i<es.size
  ·have h1:vs[i]?=some vs[i]:=xbe (by lia);obtain⟨en,h2,h3⟩:=hv i _ h1;rw[h1,h3,xcn,xcd,h2]
   rfl
  ·rw[xhg (by lia),xhg (by rw[xbc,xcb];lia)]
 subst evs;refine⟨Srt.rank (ps.map (·.2)),zvk (tup s.heap λ_ _ z=>z),λh2 g tk keep=>zbbk (by show X.A.units+1+1<cLine;lia) (by lia) (tup g keep),λp t g tk c p1 p2 keep ne eg=>?_⟩;rw[xbc] at p1 p2;obtain⟨qs,q1,q2,q3⟩:=ztj p1 p2;rw[q3] at eg;refine⟨.ref t,_,I.laidN (o:=.lst (qs.map λp=>V.ref p.1)) keep ne ⟨?_,_,c,zgy qs,eg⟩,rfl,q t qs (I.away ne) ((q1.map _).trans (by rw[a1])) q2 λp hp=>a2 p (q1.mem_iff.mp hp)⟩;rw[xbc,q1.length_eq];exact small10000 (by lia)
end L2
namespace L2
open PySem PySem.Spec PyProof.Rows
theorem zhs{κ β:Type}[DecidableEq κ]{k:κ}:∀{xs:List (κ×β)} {j:Nat} {p:β},(xs.map (·.1)).Nodup->xs[j]?=some (k,p)->xs.eraseIdx j=xs.filter λx=>decide (x.1≠k)
 | [],_,_,_,e=>by simp at e
 | x::r,0,p,nd,e=>by
  simp at e;subst e;rw[xca,xfg] at nd;rw[List.eraseIdx_cons_zero,xcz (by simp)]
  symm
  rw[List.filter_eq_self];intro y hy;refine xcs λz=>nd.1 ?_
  rw[← z];exact xce.mpr ⟨y,hy,rfl⟩
 | x::r,j+1,p,nd,e=>by
  rw[xca,xfg] at nd;have e':r[j]?=some (k,p):=by simpa using e
  have hx:x.1≠k:=λz=>nd.1 (by rw[z];exact xce.mpr ⟨_,xcg e',rfl⟩)
  rw[xka,xcr (by simpa using hx),zhs nd.2 e']
theorem zpw{α β:Type}(f:α->β):∀(l:List α) (j:Nat),(l.map f).eraseIdx j=(l.eraseIdx j).map f
 | [],_=>rfl
 | _::_,0=>rfl
 | x::l,j+1=>by rw[xca,xka,xka,xca,zpw f l j]
section
variable {κ:Type}[DecidableEq κ]
section
variable {prog:Program}{w:World}{knd:HeapKind prog w κ}{A:Around}{E:Value->Shared->Prop}{s:Shared}{d:Addr}{a:Addr}{k:κ}{xs:List (κ×Addr×Value)}{p:Addr×Value}
theorem zwu{W:Option DictEntry->Shared->Prop}(hu:knd.room A)(hkey:knd.is s.heap k a)(hm:s.heap.DictOfH knd d xs)(hp:atKey xs k=some p)(hsz:xs.length<=sizeLine)
  (fin:∀e h',e.val=p.2->h'.DictOfH knd d (xs.filter λx=>decide (x.1≠k))->Heap.SameBut d s.heap h'->W (some e) {s with heap:=h',toks:=s.toks+knd.draws k}) :
  wpAny (model prog w) A (Builtin.Dict.takeOut d (.ref a)) W E s:=by
 obtain⟨o,es,ep,ho,hc,hd,he,his,hn⟩:=hm;unfold Builtin.Dict.takeOut;refine xdz ?_;refine xba (knd.pyHash hu hkey ?_);refine xba (wpAny_dictFind_heap (s:={s with toks:=s.toks+knd.draws k}) hu hkey ho hd he his hn (λz=>?_) λj q hj=>?_)
 ·rw[atKey_none_of_get z] at hp;cases hp
 ·have hq:q=p:=by
   have z:=atKey_of_get hn hj;rw[hp] at z;exact(xch z).symm
  subst hq;refine xba (xio (s:={s with toks:=s.toks+knd.draws k}) ho hd ?_);rw[entry_at he j,hj];have big:es.size<=sizeLine:=by have:=size_of_entries he;lia
  refine xba (wpAny_updateDictKeys (hz:=big) (s:={s with toks:=s.toks+knd.draws k}) ho hd (xbd (fin _ _ rfl ⟨_,_,ep+1,xeu _ ho (Obj.isFreed_of_dict (Obj.data_mapDictKeys hd _)),hc.mapDictKeys _,Obj.data_mapDictKeys hd _,?_,λx hx=>?_,?_⟩ (xer ..))))
  ·rw[← zhs hn hj];obtain⟨l⟩:=es;have he':l=xs.map (entryOfKey knd):=he;subst he';simp[zpw]
  ·exact knd.keeps (his x (xfu.mp hx).1) ho hd (xer ..)
  ·exact List.Sublist.nodup (List.Sublist.map (λx:κ×Addr×Value=>x.1) List.filter_sublist) hn
end
theorem zbcn{knd:HeapKind prog w κ}{A:Around}{s:Shared}{W:Value->Shared->Prop}(hu:knd.room A.in1)(hkey:knd.is s.heap k a)(hm:s.heap.DictOfH knd d xs)(hp:atKey xs k=some p)(hsz:xs.length<=sizeLine)
  (fin:∀h',h'.DictOfH knd d (xs.filter λx=>decide (x.1≠k))->Heap.SameBut d s.heap h'->W p.2 {s with heap:=h',toks:=s.toks+knd.draws k}) :
  wpAny (model prog w) A (call (.builtin "dict.pop") [.ref d,.ref a]) W E s:=by
 have M:MeetsIn prog w (Builtin.«dict.pop» ⟨[.ref d,.ref a],[]⟩) (λB R g=>B=A/\g=s/\∀h',h'.DictOfH knd d (xs.filter λx=>decide (x.1≠k))->Heap.SameBut d s.heap h'->R (.ok (.ret p.2)) {s with heap:=h',toks:=s.toks+knd.draws k}) :=
  .of_wp λB R g hq0=>by
   obtain⟨hB,hg,q⟩:=hq0;subst hB hg;unfold Builtin.«dict.pop» Builtin.Dict.keyAndDefault;refine xba (xba (wpAny_notOrdered_dict hm.typeIs (xbd ?_)));obtain⟨o,es,ep,ho,hc,hd,he,his,hn⟩:=id hm;have ne:es.isEmpty=false:=by
    have:=size_of_entries he;cases xs with
    | nil=>cases hp
    | cons x r =>
     rw[xbx] at this;rw[Array.isEmpty_eq_false_iff];intro z;rw[z] at this;simp at this
   simp only[keyPart,Option.isSome_none,xcv,xen];refine xba (xio ho hd (xba (xbd ?_)));rw[ne];simp only[xcv,xen];refine xba (zwu hu hkey hm hp hsz λe h' hv dd hs=>?_);simp only[Option.isNone_some,xcv,xen];exact xba (wpAny_letGo (xbd ⟨e.val,rfl,by rw[hv];exact q h' dd hs⟩))
 exact call_meetsIn F.slot_dict_pop hm.typeIs F.entry_dict_pop (F.args_dict_pop_2 _ _) M ⟨rfl,rfl,fin⟩
end
theorem KT.drop(r:KT H kvs xs)(k:List Key):KT H (dropK kvs k) (xs.filter λx=>decide (x.1≠k)):=by
 unfold dropK
 induction r with
 | nil=>exact .nil
 | @cons p q ps qs h t ih =>
  by_cases e:p.1=k
  ·rw[xcz (by simp[e]),xcz (by simp[← h.1,e])];exact ih
  ·rw[xcr (by simp[e]),xcr (by simp[← h.1,e])];exact .cons h ih
theorem zbqc{X:Cx}{k:List Key} (hu:X.A.units+1<cLine)(I:Inv X aW σ H s)(e:H a=some (.dT kvs))(eb:H b=some (.tup (k.map kV)))(l:valV kvs k=some v)
  (h:∀ w' s', Inv X aW σ (upd H a (.dT (dropK kvs k))) s'->RelV v w'->Q w' s'):wpAny (model X.prog X.w) X.A (call (.builtin "dict.pop") [.ref a,.ref b]) Q E s:=by
 obtain⟨z,hd,xs,rel,dd⟩:=zbsb I.hok e;obtain⟨w',hw,rw'⟩:=RelO.some_of (v:=v) (o:=(atKey xs k).map (·.2)) (by rw[← l];exact rel.val k);cases hp:atKey xs k with
 | none=>rw[hp] at hw;cases hw
 | some p =>
  rw[hp] at hw;have hw':p.2=w':=xch hw;subst hw';refine zbcn (xhb hu) (zny I.hok eb) dd hp (by rw[← xhx rel];exact z) λh' dd' hs=>h _ _ ?_ rw'
  obtain⟨q,es,ep,hq,h2,h3,h4,_,h5⟩:=dd';refine zvb I (by rw[e];exact True.intro) hs ⟨q,hq⟩ ⟨xbb (xku _ _) z,hd,_,(rel.drop k).keeps λc ys ec=>?_,q,es,ep,hq,h2,h3,h4,h5⟩;rw[zj (zbrv ec e (λz=>nomatch z))];exact ec
def tDPopT(td ty:TE):TE:=λσ H Q=>td σ H λx H1=>∃a,x=.ref a/\IsD H1 a/\ty σ H1 λy H2=>∃kvs k v b,H2 a=some (.dT kvs)/\y=.ref b/\H2 b=some (.tup (k.map kV))/\valV kvs k=some v/\Q v (upd H2 a (.dT (dropK kvs k)))
theorem zbcs{X:Cx}(hu:X.A.units + 1<cLine)(ho:PE X o td)(he:PE X e ty)(m:M1 X o "pop" apos e cpos):PE X (.Call (.Attribute o "pop" apos) [e] [] cpos) (tDPopT td ty):=by
 intro aW s σ H Q I h;refine wpAny_Call_method m.base m.few m.line F.plainAttrs_dict F.slot_dict_pop F.type_dict_pop (thn (ho aW s σ H _ I h) λu s1 hq0=>?_);obtain⟨x,H1,I1,rx,a,ex,d,q1⟩:=hq0;subst ex;obtain rfl:u=Value.ref a:=rx;obtain⟨t1,t2,_⟩:=zbji I1 d;refine⟨t1,t2,?_⟩;rw[m.trees];refine xii rfl (xis (xia (thn (he aW s1 σ H1 _ I1 q1) λiv s2 ⟨y,H2,I2,ry,kvs,k,v,b,ea,ey,eb,l,q2⟩=>xkb ?_)));subst ey;cases(show iv=Value.ref b from ry);exact zbqc hu I2 ea eb l λw' s3 I3 rw'=>⟨v,_,I3,rw',q2⟩
def rCatA(K:Fg):R2:=λx y H Q=>∃a b xs ys,x=.ref a/\y=.ref b/\SqT K H a xs/\SqT K H b ys/\xs.length+ys.length<=sizeLine /\
 (xs=[]->Q (.ref b) H)/\(xs≠[]->ys=[]->Q (.ref a) H)/\(xs≠[]->ys≠[]->∀p,H p=none->Q (.ref p) (upd H p (.tup (xs++ys))))
theorem zbii:OpR X (binaryOp .Add) (rCatA X.K):=by
 intro aW s σ H x y v u Q I rx ry h;obtain⟨a,b,xs,ys,rfl,rfl,ha,hb,hz,q0,q1,q2⟩:=h;by_cases hx:xs=[]
 ·cases rx;cases ry;obtain⟨its,r1,p1,_⟩:=I.tuple ha;obtain⟨its2,r2,p2,_⟩:=I.tuple hb;obtain⟨⟨cls,dd,data,sl⟩,ho,hc,n,hd⟩:=id p1;obtain⟨⟨cls2,dd2,data2,sl2⟩,ho2,hc2,n2,hd2⟩:=id p2;simp only at hc hd hc2 hd2;subst hc hd hc2 hd2;have e:its=[]:=r1.nil_iff.mpr hx;exact concat_meets ⟨_,ho,rfl⟩ ⟨_,ho2,rfl⟩ noFill_tuple_add seq_tuple_add xki xjv (xjm _ _)
   (tuple_addW0 a b its.toArray its2.toArray n n2 dd dd2 sl sl2 (by simp[e])) ⟨ho,ho2,⟨.ref b,H,I,rfl,q0 hx⟩⟩
 ·exact zbih aW s σ H _ _ v u Q I rx ry ⟨a,b,xs,ys,rfl,rfl,ha,hb,hx,hz,λz=>q1 hx z,λz=>q2 hx z⟩
theorem zzi{s:Shared} {lo hi:Option Int}{W:Value->Shared->Prop}(ht:IsTup s.heap t its)(hs:s.heap.IsSliceOf sl vl vu .none)(pl:IsPart vl lo)(pu:IsPart vu hi)
  (h0:HT.sIx its.size 0 lo=0)(h1:HT.sIx its.size its.size hi=its.size)(fin:W (.ref t) s):wpAny (model prog w) A (getItem (.ref t) (.ref sl)) W E s:=by
 obtain⟨os,hos,hcs,hds⟩:=id hs;unfold getItem
 try with_reducible refine xdz ?_
 first|refine xba (xbd ?_)|skip
 refine xba (wpAny_sequenceKey ht.typeIs (by decide) ?_);refine xba (wpAny_callSpecial?_slot (name:=Str.ofString "__getitem__") ht.typeIs xjt (xeo xjt ht.typeIs entry_tuple_getitem ?_ (args_tuple_getitem _ _)))
 show wpAny _ _ (Builtin.Tuple.tupleItemsOf (.ref t) >>= _) _ _ s;refine xba (tupleItemsOf_ ht ?_);have hTs:s.TypeIs (.ref sl) "slice":=⟨os,hos,hcs⟩
 refine xba (wpAny_typeOf hTs ?_);rw[if_pos (by decide)];refine xba (HT.zdu hs pl pu ?_);have yes:(((HT.sIx its.size 0 lo:Nat):Int)==0&&(1:Int)==1&&(HT.sIx its.size its.size hi - HT.sIx its.size 0 lo)==its.size)=true:=by
  rw[h0,h1];simp
 show wpAny _ _ (if(((HT.sIx its.size 0 lo:Nat):Int)==0&&(1:Int)==1&&(HT.sIx its.size its.size hi - HT.sIx its.size 0 lo)==its.size)=true then _ else _) _ _ s;rw[if_pos yes];refine xba (?_:wpAny _ _ (Builtin.Tuple.tupleIsExact (.ref t)) _ _ s);unfold Builtin.Tuple.tupleIsExact;refine xba (wpAny_typeOf ht.typeIs (xbd ?_));rw[if_pos (by decide)];exact xba (xih (xbd ⟨_,rfl,xbd fin⟩))
def rSlA(K:Fg):V->Option Int->Option Int->Hp->VK->Prop:=λx lo hi H Q=>∃a xs,x=.ref a/\SqT K H a xs/\(cutV xs lo hi=xs->Q (.ref a) H)/\∀p,H p=none->Q (.ref p) (upd H p (.tup (cutV xs lo hi)))
theorem zbgv :SlR X (rSlA X.K):=by
 intro aW s σ H x v vl vu lo hi sl Q I rx hs pl pu h;obtain⟨a,xs,rfl,hx,q1,q2⟩:=h;by_cases hw:HT.sIx xs.length 0 lo=0/\HT.sIx xs.length xs.length hi=xs.length
 ·cases rx;obtain⟨its,r,ht,hz⟩:=I.tuple hx;have hlen:its.toArray.size=xs.length:=by rw[xbs];exact r.length.symm
  refine⟨"tuple", _,xjt.lookup,ht.typeIs,?_⟩
  refine zzi ht hs pl pu (by rw[hlen];exact hw.1) (by rw[hlen];exact hw.2) ⟨.ref a,H,I,rfl,q1 ?_⟩;unfold cutV;rw[hw.1,hw.2];simp
 ·exact zbmr aW s σ H _ v vl vu lo hi sl Q I rx hs pl pu ⟨a,xs,rfl,hx,hw,q2⟩
theorem ziy(ns:List Int):∀k,k<=ns.length->preSum (λi=>ns.getD i 0) k=(ns.take k).sum
 | 0,_=>rfl
 | k+1,h=>by
  show preSum (λi=>ns.getD i 0) k+ns.getD k 0=_;rw[ziy ns k (by lia),xhp (by lia),xew,xbr,xbe (by lia)];simp
theorem zlw:∀{ns:List Int} {us:List Value} {i:Nat} {v:Value},Vals (ns.map V.int) us->us[i]?=some v->∃t,v=.int (ns.getD i 0) t
 | [],_,_,_,.nil,e=>by simp at e
 | n::ns,_,0,_,.cons r _,e=>by
  simp at e;subst e
  obtain⟨t,rfl⟩:=r;exact⟨t,rfl⟩
 | n::ns,_,i+1,v,.cons _ t,e=>by
  have:=zlw (i:=i) t (by simpa using e)
  simpa using this
def rSum(K:Fg):List V->Hp->VK->Prop:=λxs H Q=>∃(a:Addr) (ns:List Int),xs=[.ref a]/\(SqL K H a (ns.map V.int)\/SqT K H a (ns.map V.int))/\Q (.int ns.sum) H
theorem zkq{X:Cx}(hc:X.calm=true):CallR X (.builtin "sum") (rSum X.K):=by
 intro aW s σ H xs us Q I r h;obtain⟨a,ns,rfl,hs,q⟩:=h;obtain⟨u,rfl,ru⟩:=vals1 r;cases ru;have key:∀{its:List Value} (h':Heap) (tk:Nat) (t':Tok) (nn:Nat),nn=ns.length->(∀b o,b≠s.heap.objs.size->s.heap.get? b=some o->h'.get? b=some o) ->
   EP X aW σ Q (.int (preSum (λi=>ns.getD i 0) nn) t') {s with heap:=h',toks:=tk}:=λh' tk t' nn hn hk=>by
  subst hn;rw[ziy ns _ (xbf _),xcp];exact⟨.int ns.sum,H,I.kept (t':=tk) λb o e=>hk b o (xbv (xbq e)) e,⟨_,rfl⟩,q⟩
 refine call_sum_walkG ?_;rcases hs with hs|hs
 ·obtain⟨its,rv,pl,hz⟩:=I.list hs;have hlt:a<s.heap.objs.size:=by obtain⟨o,n,e,_⟩:=pl;exact xbq e
  have hl:=rv.length;rw[xbc] at hl;refine xkf pl.isList ?_;refine⟨s.heap.objs.size,_,[s.heap.objs.size],_,_,_,λi=>ns.getD i 0,rfl,Walks.list (A:=X.A.in1) (I.ok.hd hc) _ a (xbv hlt) its.toArray,⟨⟨_,xbw _ rfl,rfl,rfl⟩,pl.isList.push _⟩,?_,λi v e=>zlw rv (by simpa using e),λh' tk t' hk=>?_⟩
  ·intro b hb;show b<(s.heap.push _).objs.size;rw[show ∀o:Obj,(s.heap.push o).objs.size=s.heap.objs.size+1 from λo=>by simp[Heap.push]];rcases xbn.mp hb with rfl|hb
   ·exact xiw _
   ·rcases xbn.mp hb with rfl|hb
    ·exact xhk hlt
    ·cases hb
  ·exact key (its:=its) h' tk t' _ (by simp[hl]) λb o hb e=>hk b o (by simpa using hb) (xbg _ e)
 ·obtain⟨its,rv,pl,hz⟩:=I.tuple hs;have hlt:a<s.heap.objs.size:=pl.lt;have hl:=rv.length;rw[xbc] at hl;have pt:s.heap.IsTuple a its.toArray:=pl;refine xlq pt ?_;refine⟨s.heap.objs.size,_,[s.heap.objs.size],_,_,_,λi=>ns.getD i 0,rfl,Walks.tuple (A:=X.A.in1) (I.ok.hd hc) _ a (xbv hlt) its.toArray,⟨⟨_,xbw _ rfl,rfl,rfl⟩,pt.push _⟩,?_,λi v e=>zlw rv (by simpa using e),λh' tk t' hk=>?_⟩
  ·intro b hb;show b<(s.heap.push _).objs.size;rw[show ∀o:Obj,(s.heap.push o).objs.size=s.heap.objs.size+1 from λo=>by simp[Heap.push]];rcases xbn.mp hb with rfl|hb
   ·exact xiw _
   ·rcases xbn.mp hb with rfl|hb
    ·exact xhk hlt
    ·cases hb
  ·exact key (its:=its) h' tk t' _ (by simp[hl]) λb o hb e=>hk b o (by simpa using hb) (xbg _ e)
theorem Inv.turned2{h':Heap} (I:Inv X aW σ H s)(k:∀b o,b≠e->b≠it->s.heap.get? b=some o->h'.get? b=some o)(hn:H it=none)(hL:it≠X.env.locals)
  (h1:it∈X.ex\/X.s₀.heap.objs.size<=it)(h2:∀x c,X.env.cells.lookup x=some c->c≠it)(h3:∀p∈X.pn++aW,p.1≠it)(gn:H e=none)(gL:e≠X.env.locals)
  (g1:e∈X.ex\/X.s₀.heap.objs.size<=e)(g2:∀x c,X.env.cells.lookup x=some c->c≠e)(g3:∀p∈X.pn++aW,p.1≠e):Inv X aW σ H {s with heap:=h',toks:=t'}:=by
 have nit:∀b u,H b=some u->b≠it:=λb u e z=>by rw[z,hn] at e;cases e
 have nie:∀b u,H b=some u->b≠e:=λb u q z=>by rw[z,gn] at q;cases q
 refine I.step (g':=s.gens) (d':=s.drawn) (ch:=[e,it]) (λb hb=>?_) (λb o _ _ hc e _=>k b o (λz=>hc (by simp[z])) (λz=>hc (by simp[z])) e) (λb o _ _ hc e _=>⟨o.slots,k b o (λz=>hc (by simp[z])) (λz=>hc (by simp[z])) e⟩) (λ_ _ _ _ n=>n)
  (λb o hc e=>⟨o,k b o (λz=>hc (by simp[z])) (λz=>hc (by simp[z])) e⟩) (λ_ _ e=>e) (λ_ _ _ e=>e) (λb ps e=>⟨#[],by rw[e];simp⟩) (λm hm=>?_) (λb u e=>?_) I.bare
 ·rcases xbn.mp hb with z|z
  ·subst z;exact⟨g1,gL,g2,g3⟩
  ·have z':b=it:=by simpa using z
   subst z';exact⟨h1,hL,h2,h3⟩
 ·obtain⟨o,es,ep,ho,r⟩:=hm;exact⟨o,es,ep,k _ o (xep gL) (xep hL) ho,r⟩
 ·refine(I.hok b u e).stay (λc v hc q=>k c v ?_ ?_ q) (λ_ q=>q) λ_ _ q=>q
  ·rcases hc with z|z
   ·rw[z];exact nie b u e
   ·exact nie c _ z
  ·rcases hc with z|z
   ·rw[z];exact nit b u e
   ·exact nit c _ z
noncomputable def bestI(gt:Bool) (n:Int) (ns:List Int):Int:=ns.foldl (λi j=>if(if gt then decide (j > i) else decide (j<i))=true then j else i) n
theorem zok:∀(ns:List Int) (n:Int),bestI true n ns∈n::ns/\∀a∈n::ns,a<=bestI true n ns
 | [],n=>⟨by simp[bestI],by simp[bestI]⟩
 | m::ns,n=>by
  have e:bestI true n (m::ns)=bestI true (if m > n then m else n) ns:=by simp[bestI]
  obtain⟨h1,h2⟩:=zok ns (if m > n then m else n);rw[e];refine⟨?_,λa ha=>?_⟩
  ·rcases xbn.mp h1 with z|z
   ·rw[z];split<;>simp
   ·simp[z]
  ·have h3:=h2 _ xbp;rcases xbn.mp ha with rfl|ha
   ·refine xmk ?_ h3;split<;>lia
   ·rcases xbn.mp ha with rfl|ha
    ·refine xmk ?_ h3;split<;>lia
    ·exact h2 a (xbo _ ha)
theorem zvt{ns:List Int} (hk:k=ns.length):(n::ns).getD (argBest (λi j=>decide ((n::ns).getD i 0 >(n::ns).getD j 0)) k) 0=bestI true n ns:=by
 subst hk;obtain⟨h1,h2⟩:=argBest_gt (λi=>(n::ns).getD i 0) ns.length;obtain⟨g1,g2⟩:=zok ns n;have hl:argBest (λi j=>decide ((n::ns).getD i 0 >(n::ns).getD j 0)) ns.length<(n::ns).length:=by rw[xbx];lia
 obtain⟨j,hj,ej⟩:=xes g1;have a1:=h2 j (by simp at hj;lia);have a2:=g2 ((n::ns).getD (argBest (λi j=>decide ((n::ns).getD i 0 >(n::ns).getD j 0)) ns.length) 0) (by rw[xbr,xbe hl];exact xdi hl);have e:(n::ns).getD j 0=bestI true n ns:=by rw[xbr,xbe hj,ej];rfl
 rw[e] at a1;lia
def rBest(K:Fg) (gt:Bool):List V->Hp->VK->Prop:=λxs H Q=>∃(a:Addr) (n:Int) (ns:List Int),xs=[.ref a]/\(SqL K H a ((n::ns).map V.int)\/SqT K H a ((n::ns).map V.int))/\Q (.int (bestI gt n ns)) H
theorem zwj{X:Cx} {ns:List Int} (hc:X.calm=true)(I:Inv X aW σ H s)(hs:SqL X.K H a (ns.map V.int)\/SqT X.K H a (ns.map V.int))
  (h:∀I' fp wr P St s2,Walks X.prog X.w X.A.in1 I' fp wr ns.length P St->St 0 s2.heap->(∀b∈fp,b<s2.heap.objs.size)->(∀i v,P i v->∃t,v=.int (ns.getD i 0) t) ->
   (∀h' tk,(∀b o,b∉wr->s2.heap.get? b=some o->h'.get? b=some o)->Inv X aW σ H {s2 with heap:=h',toks:=tk})->R (.ref I') s2) :
  wpAny (model X.prog X.w) X.A.in1 (pyIter (.ref a)) R E s:=by
 have key:∀(o:Obj) (h':Heap) (tk:Nat),(∀b u,b∉[s.heap.objs.size]->(s.heap.push o).get? b=some u->h'.get? b=some u)->Inv X aW σ H {s with heap:=h',toks:=tk}:=λo h' tk hk =>
  I.kept (t':=tk) λb u e=>hk b u (by simp;exact xbv (xbq e)) (xbg _ e)
 have low:∀(o:Obj),a<s.heap.objs.size->∀b∈[s.heap.objs.size,a],b<(s.heap.push o).objs.size:=λo hlt b hb=>by
  rw[Heap.size_push];have hb':b=s.heap.objs.size\/b=a:=by simpa using hb
  rcases hb' with z|z
  ·rw[z];exact xiw _
  ·rw[z];exact xhk hlt
 rcases hs with hs|hs
 ·obtain⟨its,rv,pl,hz⟩:=I.list hs;have hlt:a<s.heap.objs.size:=by obtain⟨o,n,e,_⟩:=pl;exact xbq e
  have hl:=rv.length;rw[xbc] at hl;have W:=Walks.list (prog:=X.prog) (w:=X.w) (A:=X.A.in1) (I.ok.hd hc) s.heap.objs.size a (xbv hlt) its.toArray;rw[show its.toArray.size=ns.length from by rw[xbs];exact hl.symm] at W;exact xkf pl.isList (h _ _ _ _ _ { s with heap:=s.heap.push { cls:=.type "list_iterator", data:=.fields #[.ref a,.int 0 0] } } W ⟨⟨_,xbw _ rfl,rfl,rfl⟩,pl.isList.push _⟩ (low _ hlt) (λi v e=>zlw rv (by simpa using e)) λh' tk hk=>key _ h' tk hk)
 ·obtain⟨its,rv,pl,hz⟩:=I.tuple hs;have hlt:a<s.heap.objs.size:=pl.lt;have hl:=rv.length;rw[xbc] at hl;have pt:s.heap.IsTuple a its.toArray:=pl;have W:=Walks.tuple (prog:=X.prog) (w:=X.w) (A:=X.A.in1) (I.ok.hd hc) s.heap.objs.size a (xbv hlt) its.toArray;rw[show its.toArray.size=ns.length from by rw[xbs];exact hl.symm] at W;exact xlq pt (h _ _ _ _ _ { s with heap:=s.heap.push { cls:=.type "tuple_iterator", data:=.fields #[.ref a,.int 0 0] } } W ⟨⟨_,xbw _ rfl,rfl,rfl⟩,pt.push _⟩ (low _ hlt) (λi v e=>zlw rv (by simpa using e)) λh' tk hk=>key _ h' tk hk)
theorem zzn{X:Cx}(hc:X.calm=true):CallR X (.builtin "max") (rBest X.K true):=by
 intro aW s σ H xs us Q I r h;obtain⟨a,n,ns,rfl,hs,q⟩:=h;obtain⟨u,rfl,ru⟩:=vals1 r;cases ru;refine call_max_walk (zwj hc I hs λI' fp wr P St s2 W au low val keep=>?_);refine⟨I',fp,wr,_,P,St,_,rfl,W,au,low,by simp,CmpOf.ints_gt (λi=>(n::ns).getD i 0) val,λv h' tk hP hk=>?_⟩;obtain⟨t,rfl⟩:=val _ _ hP;rw[zvt (by simp)];exact⟨.int (bestI true n ns),H,keep h' tk hk,⟨_,rfl⟩,q⟩
end L2
namespace Dd
open PySem L2
set_option genInjectivity true in
inductive D where
 | non|bl (b:Bool)|int (i:Int)|str (x:Str)|ty (n:String)|ref (n:Nat)|tup (ds:List D)|lst (ds:List D)|scr (ds:List D)|exn (c:Str) (l:List Int)
set_option genInjectivity true in
inductive O where
 /-- a list that may change;a dict by tuples of ints;one that is only read;gone -/
 | lst (xs:List D)|dT (kvs:List (List Int×D))|fT (kvs:List (List Int×D))|dead
 /-- a dict by ints -/
 | dI (kvs:List (Int×D))
 /-- the law's table of codes -/
 | tab
noncomputable abbrev Store:=List O
structure Exc where
 cls:Str
 at_:List Int
set_option genInjectivity true in
inductive Res (α:Type) where
 | ok (a:α) (au:Store)|exc (x:Exc) (au:Store)|stuck
def Res.bind{α β:Type}:Res α->(α->Store->Res β)->Res β
 | .ok a au,f=>f a au
 | .exc x au,_=>.exc x au
 | .stuck,_=>.stuck
@[simp] theorem zft {α β:Type} (a:α) (au:Store) (f:α->Store->Res β):(Res.ok a au).bind f=f a au:=rfl
@[simp] theorem zbqu {α β:Type} (x:Exc) (au:Store) (f:α->Store->Res β):(Res.exc x au:Res α).bind f=.exc x au:=rfl
@[simp] theorem zblr {α β:Type} (f:α->Store->Res β):(Res.stuck:Res α).bind f=.stuck:=rfl
theorem za{α β:Type}{r:Res α}{f:α->Store->Res β}{b:β}{st':Store}(h:r.bind f=.ok b st'):∃a au,r=.ok a au/\f a au=.ok b st':=by
 cases r with
 | ok a au=>exact⟨a,au,rfl,h⟩
 | exc x au=>cases h
 | stuck=>cases h
noncomputable abbrev DS:=List (Option D)
abbrev SE:=DS->Store->Res D
abbrev ST:=DS->Store->Res Bool
abbrev SA:=DS->Store->Res (List D)
set_option genInjectivity true in
inductive Fl where
 | nx (σ:DS)|ret (v:D)|brk (σ:DS)|ct (σ:DS)
abbrev SS:=DS->Store->Res Fl
abbrev DFn:=List D->Store->Res D
structure Loc where
 m:List (Option Addr)
 g:List Addr
def Out(ρ:Loc) (a:Addr):Prop:=some a∉ρ.m/\a∉ρ.g
def Ls(K:Fg) (ρ:Loc) (H:Hp) (a:Addr) (vs:List V):Prop:=(Rd H a (.lst vs)/\Out ρ a)\/∀H':Hp,SqL K H' a vs
def XAt(K:Fg) (ρ:Loc) (H:Hp) (c:Str) (l:List Int) (a:Addr):Prop:=∃C o,W.nsIn K mainGlobals c=some (some (.ref C))/\(H a=some (.frz o (.ext λ_=>True))/\Out ρ a)/\o.cls=.ref C/\(∃vs,o.data=.fields vs/\vs[2]?=some .none) /\
 ((l=[]/\o.dict=none)\/∃ i dx od,l=[i]/\o.dict=some dx/\H dx=some (.frz od (.xd [("at", .int i)]))/\Out ρ dx)
theorem XAt.map{K:Fg} (h:XAt K ρ H c l a)(f:∀b ob u,H b=some (.frz ob u)->Out ρ b->H' b=some (.frz ob u)/\Out ρ' b):XAt K ρ' H' c l a:=by
 obtain⟨C,o,h1,h2,h3,h4,h5⟩:=h;refine⟨C,o,h1,f _ _ _ h2.1 h2.2,h3,h4,?_⟩;rcases h5 with h5|⟨i,dx,od,h6,h7,h8,h9⟩
 ·exact .inl h5
 ·exact .inr ⟨i,dx,od,h6,h7,(f _ _ _ h8 h9).1,(f _ _ _ h8 h9).2⟩
mutual
inductive At (K:Fg) (ρ:Loc) (H:Hp):D->V->Prop
 | non:At K ρ H .non .non
 | bl (b:Bool):At K ρ H (.bl b) (.bl b)
 | int (i:Int):At K ρ H (.int i) (.int i)
 | str (x:Str):At K ρ H (.str x) (.str x)
 | ty (n:String):At K ρ H (.ty n) (.ty n)
 | ref {n:Nat} {v:V}:n < ρ.m.length->(∀a,ρ.m[n]?=some (some a)->v=.ref a)->At K ρ H (.ref n) v
 | tup {a:Addr} {ds:List D} {vs:List V}:H a=some (.tup vs)->Out ρ a->AtAll K ρ H ds vs->At K ρ H (.tup ds) (.ref a)
 | lst {a:Addr} {ds:List D} {vs:List V}:H a=some (.lst vs)->Out ρ a->AtAll K ρ H ds vs->At K ρ H (.lst ds) (.ref a)
 | scr {a:Addr} {ds:List D} {vs:List V}:Ls K ρ H a vs->AtAll K ρ H ds vs->At K ρ H (.scr ds) (.ref a)
 | exn {c:Str} {l:List Int} {a:Addr}:XAt K ρ H c l a->At K ρ H (.exn c l) (.ref a)
inductive AtAll (K:Fg) (ρ:Loc) (H:Hp):List D->List V->Prop
 | nil:AtAll K ρ H [] []
 | cons {d:D} {ds:List D} {v:V} {vs:List V}:At K ρ H d v->AtAll K ρ H ds vs->AtAll K ρ H (d::ds) (v::vs)
end
structure Mv (ρ:Loc) (H:Hp) (ρ':Loc) (H':Hp):Prop where
 out:∀{a:Addr} {o:HO},H a=some o->Out ρ a->H' a=some o/\Out ρ' a
 len:ρ.m.length<=ρ'.m.length
 old:∀(n:Nat) (a:Addr),n < ρ.m.length->ρ'.m[n]?=some (some a)->ρ.m[n]?=some (some a)
theorem Ls.mv{K:Fg} (x:Mv ρ H ρ' H')(h:Ls K ρ H a vs):Ls K ρ' H' a vs:=by
 rcases h with⟨h|⟨o,h⟩,n⟩|h
 ·exact .inl ⟨.inl (x.out h n).1,(x.out h n).2⟩
 ·exact .inl ⟨.inr ⟨o,(x.out h n).1⟩,(x.out h n).2⟩
 ·exact .inr h
theorem At.mv{K:Fg} (x:Mv ρ H ρ' H') (h:At K ρ H d v):At K ρ' H' d v :=
 At.rec (motive_1:=λd v _=>At K ρ' H' d v) (motive_2:=λd v _=>AtAll K ρ' H' d v) .non .bl .int .str .ty (λh e=>.ref (xbh h x.len) λa q=>e a (x.old _ a h q)) (λh n _ ih=>.tup (x.out h n).1 (x.out h n).2 ih) (λh n _ ih=>.lst (x.out h n).1 (x.out h n).2 ih) (λh _ ih=>.scr (h.mv x) ih) (λh=>.exn (h.map λ_ _ _ e n=>x.out e n)) .nil (λ_ _ a b=>.cons a b) h
theorem AtAll.mv{K:Fg} (x:Mv ρ H ρ' H') (h:AtAll K ρ H d v):AtAll K ρ' H' d v :=
 AtAll.rec (motive_1:=λ_ _ _=>True) (motive_2:=λd v _=>AtAll K ρ' H' d v) trivial (λ_=>trivial) (λ_=>trivial) (λ_=>trivial) (λ_=>trivial) (λ_ _=>trivial) (λ_ _ _ _=>trivial) (λ_ _ _ _=>trivial) (λ_ _ _=>trivial) (λ_=>trivial) .nil (λa _ _ b=>.cons (a.mv x) b) h
structure Ext (ρ:Loc) (H:Hp) (ρ':Loc) (H':Hp):Prop where
 len:ρ.m.length<=ρ'.m.length
 old:∀(n:Nat) (a:Addr),n < ρ.m.length->ρ'.m[n]?=some (some a)->ρ.m[n]?=some (some a)
 keep:∀a o,H a=some o->some a∉ρ.m->H' a=some o/\some a∉ρ'.m
 gho:ρ'.g=ρ.g
 frz:∀a ob u,H a=some (.frz ob u)->H' a=some (.frz ob u)
theorem Ext.out(x:Ext ρ H ρ' H') (h:H a=some o)(n:Out ρ a):H' a=some o/\Out ρ' a :=
 ⟨(x.keep a o h n.1).1,(x.keep a o h n.1).2,by rw[x.gho];exact n.2⟩
theorem Ext.mv(x:Ext ρ H ρ' H'):Mv ρ H ρ' H':=⟨λh n=>x.out h n,x.len,x.old⟩
theorem Ls.sq{K:Fg} (h:Ls K ρ H a vs):SqL K H a vs:=by
 rcases h with h|h
 ·exact .inl h.1
 ·exact h H
theorem Ext.refl(ρ:Loc)(H:Hp):Ext ρ H ρ H:=⟨xbf _,λ_ _ _ e=>e,λ_ _ e n=>⟨e,n⟩,rfl,λ_ _ _ e=>e⟩
theorem Ext.trans(a:Ext ρ H ρ1 H1)(b:Ext ρ1 H1 ρ2 H2):Ext ρ H ρ2 H2 :=
 ⟨xbb a.len b.len,λn c h e=>a.old n c h (b.old n c (xbh h a.len) e),λc o e n=>by
  obtain⟨e1,n1⟩:=a.keep c o e n
  exact b.keep c o e1 n1,b.gho.trans a.gho,λc ob u e=>b.frz c ob u (a.frz c ob u e)⟩
theorem At.ext{K:Fg} (x:Ext ρ H ρ' H') (h:At K ρ H d v):At K ρ' H' d v:=h.mv x.mv
theorem AtAll.ext{K:Fg} (x:Ext ρ H ρ' H') (h:AtAll K ρ H d v):AtAll K ρ' H' d v:=h.mv x.mv
theorem AtAll.length{K:Fg} :∀{ds:List D} {vs:List V},AtAll K ρ H ds vs->vs.length=ds.length
 | _,_,.nil=>rfl
 | _,_,.cons _ t=>by rw[xbx,xbx,AtAll.length t]
theorem AtAll.get{K:Fg} :∀{ds:List D} {vs:List V} {i:Nat} {d:D},AtAll K ρ H ds vs->ds[i]?=some d->∃v,vs[i]?=some v/\At K ρ H d v
 | _,_,_,_,.nil,e=>by simp at e
 | _,_,0,_,.cons a _,e=>by simp at e;subst e;exact⟨_,rfl,a⟩
 | _,_,i+1,d,.cons _ t,e=>by
  obtain⟨u,h1,h2⟩:=AtAll.get (i:=i) (d:=d) t (by simpa using e);exact⟨u,by simpa using h1,h2⟩
theorem AtAll.append{K:Fg} :∀{ds es:List D} {vs us:List V},AtAll K ρ H ds vs->AtAll K ρ H es us->AtAll K ρ H (ds++es) (vs++us)
 | _,_,_,_,.nil,b=>b
 | _,_,_,_,.cons a t,b=>.cons a (AtAll.append t b)
theorem AtAll.take{K:Fg} :∀{ds:List D} {vs:List V} (n:Nat),AtAll K ρ H ds vs->AtAll K ρ H (ds.take n) (vs.take n)
 | _,_,0,_=>.nil
 | _,_,_+1,.nil=>.nil
 | _,_,n+1,.cons a t=>.cons a (AtAll.take n t)
theorem AtAll.drop{K:Fg} :∀{ds:List D} {vs:List V} (n:Nat),AtAll K ρ H ds vs->AtAll K ρ H (ds.drop n) (vs.drop n)
 | _,_,0,h=>h
 | _,_,_+1,.nil=>.nil
 | _,_,n+1,.cons a t=>AtAll.drop n t
theorem AtAll.set{K:Fg} (a:At K ρ H d v):∀{ds:List D} {vs:List V} (n:Nat),AtAll K ρ H ds vs->AtAll K ρ H (ds.set n d) (vs.set n v)
 | _,_,_,.nil=>.nil
 | _,_,0,.cons _ t=>.cons a t
 | _,_,n+1,.cons b t=>.cons b (AtAll.set a n t)
def KvAt(K:Fg) (ρ:Loc) (H:Hp):List (List Int×D)->List (List Key×V)->Prop:=Paired λp q=>q.1=p.1.map Sum.inl/\At K ρ H p.2 q.2
theorem KvAt.ext{K:Fg} (x:Ext ρ H ρ' H') (h:KvAt K ρ H a b):KvAt K ρ' H' a b:=Paired.mapP h λp q z=>⟨z.1,z.2.ext x⟩
noncomputable abbrev lamQ:Str:=(("law" : Str)++".<locals>.")++"<lambda>"
def TabOk(H:Hp) (ps:Array Value):Prop:=TriplesOk ps.toList/\∀pos cv,codeAmong pos ps.toList=some cv->∃c oc vs t,cv=.ref c/\H c=some (.frz oc (.ext λ_=>True))/\oc.data=.fields vs/\vs[1]?=some (.str lamQ t)
theorem TabOk.map(h:TabOk H ps)(f:∀b ob u,H b=some (.frz ob u)->H' b=some (.frz ob u)):TabOk H' ps :=
 ⟨h.1,λpos cv e=>by obtain⟨c,oc,vs,t,e1,e2,e3⟩:=h.2 pos cv e;exact⟨c,oc,vs,t,e1,f _ _ _ e2,e3⟩⟩
def KiAt(K:Fg) (ρ:Loc) (H:Hp):List (Int×D)->List (Key×V)->Prop:=Paired λp q=>q.1=Sum.inl p.1/\At K ρ H p.2 q.2
theorem KiAt.ext{K:Fg} (x:Ext ρ H ρ' H') (h:KiAt K ρ H a b):KiAt K ρ' H' a b:=Paired.mapP h λp q z=>⟨z.1,z.2.ext x⟩
def OAt(K:Fg) (ρ:Loc) (H:Hp):O->Addr->Prop
 | .lst xs,a=>∃vs,H a=some (.lst vs)/\AtAll K ρ H xs vs
 | .dT kvs,a=>∃vs,H a=some (.dT vs)/\KvAt K ρ H kvs vs
 | .fT kvs,a=>∃vs ob,H a=some (.frz ob (.dT vs))/\KvAt K ρ H kvs vs
 | .dI kvs,a=>∃vs,H a=some (.dK vs)/\KiAt K ρ H kvs vs
 | .dead,_=>False
 | .tab,a=>(∃ c,W.tabIn K "law"=some (c,a))/\∃ ps,H a=some (.tbl ps)/\TabOk H ps
structure Rep (K:Fg) (ρ:Loc) (au:Store) (H:Hp):Prop where
 len:ρ.m.length=au.length
 inj:∀(n m:Nat) (a:Addr),ρ.m[n]?=some (some a)->ρ.m[m]?=some (some a)->n=m
 obj:∀(n:Nat) (a:Addr) (o:O),ρ.m[n]?=some (some a)->au[n]?=some o->OAt K ρ H o a
 gh:∀a∈ρ.g,(∃vs,H a=some (.lst vs))/\some a∉ρ.m
 live:∀(n:Nat) (o:O),au[n]?=some o->o≠.dead->∃a,ρ.m[n]?=some (some a)
def AtO(K:Fg) (ρ:Loc) (H:Hp) (o:Option D) (v:Option V):Prop:=∀d,o=some d->∃u,v=some u/\At K ρ H d u
abbrev AtS(K:Fg) (ρ:Loc) (H:Hp):DS->St->Prop:=Paired (AtO K ρ H)
theorem AtS.ext{K:Fg} (x:Ext ρ H ρ' H') (h:AtS K ρ H σ τ):AtS K ρ' H' σ τ:=Paired.mapP h λo v z d e=>by
 obtain⟨u,e1,a⟩:=z d e;exact⟨u,e1,a.ext x⟩
theorem AtS.get{K:Fg} :∀{σ:DS} {τ:St} {i:Nat} {d:D},AtS K ρ H σ τ->σ[i]?=some (some d)->∃u,τ[i]?=some (some u)/\At K ρ H d u
 | _,_,_,_,.nil,e=>by simp at e
 | _,_,0,_,.cons a _,e=>by
  simp at e;subst e
  obtain⟨u,e1,h⟩:=a _ rfl;exact⟨u,by simp[e1],h⟩
 | _,_,i+1,d,.cons _ t,e=>by
  obtain⟨u,h1,h2⟩:=AtS.get (i:=i) (d:=d) t (by simpa using e);exact⟨u,by simpa using h1,h2⟩
theorem AtS.set{K:Fg} (a:At K ρ H d v):∀{σ:DS} {τ:St} (i:Nat),AtS K ρ H σ τ->AtS K ρ H (σ.set i (some d)) (τ.set i (some v))
 | _,_,_,.nil=>.nil
 | _,_,0,.cons _ t=>.cons (λd' e=>by cases e;exact⟨v,rfl,a⟩) t
 | _,_,i+1,.cons q t=>.cons q (AtS.set a i t)
def tD(K:Fg) (f:SE):TE:=λτ H Q=>∃ρ σ au v st',AtS K ρ H σ τ/\Rep K ρ au H/\f σ au=.ok v st'/\∀ρ' H' u,Ext ρ H ρ' H'->Rep K ρ' st' H'->At K ρ' H' v u->Q u H'
def tDT(K:Fg) (f:ST):TT:=λτ H Q=>∃ρ σ au v st',AtS K ρ H σ τ/\Rep K ρ au H/\f σ au=.ok v st'/\∀ρ' H',Ext ρ H ρ' H'->Rep K ρ' st' H'->Q v H'
def tDA(K:Fg) (f:SA):TA:=λτ H Q=>∃ρ σ au v st',AtS K ρ H σ τ/\Rep K ρ au H/\f σ au=.ok v st'/\∀ρ' H' u,Ext ρ H ρ' H'->Rep K ρ' st' H'->AtAll K ρ' H' v u->Q u H'
def FlOk(K:Fg) (ρ:Loc) (H:Hp) (st':Store) (E:Ends):Fl->Prop
 | .nx σ=>∀ρ' H' τ,Ext ρ H ρ' H'->Rep K ρ' st' H'->AtS K ρ' H' σ τ->E.nx τ H'
 | .brk σ=>∀ρ' H' τ,Ext ρ H ρ' H'->Rep K ρ' st' H'->AtS K ρ' H' σ τ->E.bk τ H'
 | .ct σ=>∀ρ' H' τ,Ext ρ H ρ' H'->Rep K ρ' st' H'->AtS K ρ' H' σ τ->E.ct τ H'
 | .ret v=>∀ρ' H' u,Ext ρ H ρ' H'->Rep K ρ' st' H'->At K ρ' H' v u->E.rt u H'
theorem FlOk.ext{K:Fg} (x:Ext ρ H ρ1 H1)(h:FlOk K ρ H st' E fl):FlOk K ρ1 H1 st' E fl:=by
 cases fl with
 | nx σ=>exact λρ' H' τ e=>h ρ' H' τ (x.trans e)
 | brk σ=>exact λρ' H' τ e=>h ρ' H' τ (x.trans e)
 | ct σ=>exact λρ' H' τ e=>h ρ' H' τ (x.trans e)
 | ret v=>exact λρ' H' τ e=>h ρ' H' τ (x.trans e)
def tDS(K:Fg) (f:SS):TS:=λE τ H=>∃ρ σ au fl st',AtS K ρ H σ τ/\Rep K ρ au H/\f σ au=.ok fl st'/\FlOk K ρ H st' E fl
abbrev DE(X:Cx) (e:Expr) (f:SE):Prop:=PE X e (tD X.K f)
abbrev DT(X:Cx) (e:Expr) (f:ST):Prop:=PT X e (tDT X.K f)
abbrev DW(X:Cx) (e:Expr) (f:ST):Prop:=PW X e (tDT X.K f)
abbrev DA(X:Cx) (es:List Expr) (f:SA):Prop:=PA X es (tDA X.K f)
abbrev DSt(X:Cx) (s:Stmt) (f:SS):Prop:=PS X s (tDS X.K f)
abbrev DSs(X:Cx) (s:List Stmt) (f:SS):Prop:=PSs X s (tDS X.K f)
theorem zdt(h:PE X e t)(k:∀σ H Q,t' σ H Q->t σ H Q):PE X e t':=λaW s σ H Q I q=>h aW s σ H Q I (k _ _ _ q)
theorem zbmb(h:PT X e t)(k:∀σ H Q,t' σ H Q->t σ H Q):PT X e t':=λaW s σ H Q I q=>h aW s σ H Q I (k _ _ _ q)
theorem pw_to(h:PW X e t)(k:∀σ H Q,t' σ H Q->t σ H Q):PW X e t':=λwh aW s σ H Q I q=>h wh aW s σ H Q I (k _ _ _ q)
theorem zbmd(h:PA X es t)(k:∀σ H Q,t' σ H Q->t σ H Q):PA X es t':=λpos aW s σ H Q I q=>h pos aW s σ H Q I (k _ _ _ q)
theorem zmq(h:PS X s t)(k:∀E σ H,t' E σ H->t E σ H):PS X s t':=λaW z σ H E I q=>h aW z σ H E I (k _ _ _ q)
theorem ztc(h:PSs X ss t)(k:∀E σ H,t' E σ H->t E σ H):PSs X ss t':=λaW z σ H E I q=>h aW z σ H E I (k _ _ _ q)
def aA(i:Nat):SE:=λσ au=>match σ[i]? with
 | some (some d)=>.ok d au
 | _=>.stuck
def eC(d:D):SE:=λ_ au=>.ok d au
theorem zbtl(h:PE X e (tVar i)):DE X e (aA i):=zdt h λτ H Q hq0=>by
 obtain⟨ρ,σ,au,v,st',a,r,e,q⟩:=hq0;unfold aA at e;split at e
 ·rename_i d hd;cases e;obtain⟨u,e1,e2⟩:=a.get hd;exact⟨u,e1,q ρ H u (.refl _ _) r e2⟩
 ·cases e
theorem zblb(h:PE X e (tC v))(k:∀ρ H,At X.K ρ H d v):DE X e (eC d):=zdt h λτ H Q hq0=>by
 obtain⟨ρ,σ,au,v,st',a,r,e,q⟩:=hq0;cases e;exact q ρ H _ (.refl _ _) r (k _ _)
theorem zbtt{i j pos}:DE X (.Constant (.int i) j pos) (eC (.int i)):=zblb zbnt λ_ _=>.int i
theorem d_bl{b j pos}:DE X (.Constant (.bool b) j pos) (eC (.bl b)):=zblb zbsp λ_ _=>.bl b
theorem zbtr{j pos}:DE X (.Constant .none j pos) (eC .non):=zblb zbnr λ_ _=>.non
theorem zbtn{x j pos}:DE X (.Constant (.str x) j pos) (eC (.str x)):=zblb zbno λ_ _=>.str x
def aU(g:D->D->Store->Res D) (f f':SE):SE:=λσ au=>(f σ au).bind λx st1=>(f' σ st1).bind λy st2=>g x y st2
def eUn(g:D->Store->Res D) (f:SE):SE:=λσ au=>(f σ au).bind λx st1=>g x st1
def OpD(K:Fg) (g:D->D->Store->Res D) (r:R2):Prop :=
 ∀ρ H au x y u v z st' (Q:VK),Rep K ρ au H->At K ρ H x u->At K ρ H y v->g x y au=.ok z st'->(∀ρ' H' w,Ext ρ H ρ' H'->Rep K ρ' st' H'->At K ρ' H' z w->Q w H')->r u v H Q
theorem zbme{K:Fg} (hr:OpD K g r) :∀τ H Q,tD K (aU g f f') τ H Q->tOp r (tD K f) (tD K f') τ H Q:=λτ H Q hq0=>by
 obtain⟨ρ,σ,au,v,st',a,rp,e,q⟩:=hq0;obtain⟨x,st1,e1,e⟩:=za e;obtain⟨y,st2,e2,e⟩:=za e;refine⟨ρ,σ,au,x,st1,a,rp,e1,λρ1 H1 u x1 rp1 a1=>?_⟩;refine⟨ρ1,σ,st1,y,st2,a.ext x1,rp1,e2,λρ2 H2 w x2 rp2 a2=>?_⟩;exact hr ρ2 H2 st2 x y u w v st' Q rp2 (a1.ext x2) a2 e λρ' H' z x3 rp3 a3=>q ρ' H' z (x1.trans (x2.trans x3)) rp3 a3
theorem d_op(ho:OpR X (binaryOp op) r)(hr:OpD X.K g r)(ha:DE X a f)(hb:DE X b f'):DE X (.BinOp a op b pos) (aU g f f'):=zdt (zbsn ho ha hb) (zbme hr)
theorem zbtv(ho:OpR X (compareOp op) r)(hr:OpD X.K g r)(ha:DE X a f)(hb:DE X b f')(hm:behindInMarks op b=false):DE X (.Compare a [op] [b] pos) (aU g f f'):=zdt (zbhx ho ha hb hm) (zbme hr)
def eB(f:SE):ST:=λσ au=>(f σ au).bind λv st1=>match v with
 | .bl b=>.ok b st1
 | _=>.stuck
theorem eB_t{K:Fg} :∀τ H Q,tDT K (eB f) τ H Q->tD K f τ H λx H1=>∃c,x=.bl c/\Q c H1:=λτ H Q hq0=>by
 obtain⟨ρ,σ,au,v,st',a,rp,e,q⟩:=hq0;obtain⟨x,st1,e1,e⟩:=za e;refine⟨ρ,σ,au,x,st1,a,rp,e1,λρ1 H1 u x1 rp1 a1=>?_⟩;cases x<;>try (cases e;done)
 cases e;cases a1;exact⟨_,rfl,q _ _ x1 rp1⟩
theorem zbpo(ho:OpR X (compareOp op) r)(hr:OpD X.K g r)(ha:DE X a f)(hb:DE X b f')(hm:behindInMarks op b=false):DT X (.Compare a [op] [b] pos) (eB (aU g f f')) :=
 zbmb (zbhd ho ha hb hm) λτ H Q h=>zbme hr _ _ _ (eB_t _ _ _ h)
def eChain(g g':D->D->Store->Res D) (f f' f'':SE):SE:=λσ au=>(f σ au).bind λx st1=>(f' σ st1).bind λy st2=>(g x y st2).bind λz st3=>match z with
 | .bl true=>(f'' σ st3).bind λw st4=>g' y w st4
 | .bl false=>.ok (.bl false) st3
 | _=>.stuck
end Dd
namespace Dd
open PySem L2
theorem Ext.new(hp:H p=none)(o:HO):Ext ρ H ρ (upd H p o):=⟨xbf _,λ_ _ _ e=>e,λb u e m=>⟨by rw[zj (zd e hp)];exact e,m⟩,rfl,λb ob u e=>by rw[zj (zd e hp)];exact e⟩
section
variable {H:Hp}{a:Addr}
theorem zgf{vs:List V}(h:H a=some (.lst vs)):∀ob u,H a≠some (.frz ob u):=λob u z=>by rw[h] at z;cases z
theorem zjb{vs:List (List Key×V)}(h:H a=some (.dT vs)):∀ob u,H a≠some (.frz ob u):=λob u z=>by rw[h] at z;cases z
end
theorem Ext.wr{ρ:Loc}{n:Nat}(h:ρ.m[n]?=some (some a))(hz:∀ob u,H a≠some (.frz ob u))(o:HO):Ext ρ H ρ (upd H a o):=⟨xbf _,λ_ _ _ e=>e,λb u e m=>⟨by
 rw[zj]
 ·exact e
 ·rintro rfl
  exact m (xcg h),m⟩,rfl,λb ob u e=>by
 rw[zj]
 ·exact e
 ·rintro rfl
  exact hz _ _ e⟩
theorem OAt.has{K:Fg} (h:OAt K ρ H x a):∃u,H a=some u:=by
 cases x with
 | lst xs=>obtain⟨vs,e,_⟩:=h;exact⟨_,e⟩
 | dT kvs=>obtain⟨vs,e,_⟩:=h;exact⟨_,e⟩
 | fT kvs=>obtain⟨vs,ob,e,_⟩:=h;exact⟨_,e⟩
 | dI kvs=>obtain⟨vs,e,_⟩:=h;exact⟨_,e⟩
 | dead=>exact h.elim
 | tab=>obtain⟨_,ps,e,_⟩:=h;exact⟨_,e⟩
theorem OAt.ext{K:Fg} (e:Ext ρ H ρ' H')(same:H' a=H a)(h:OAt K ρ H x a):OAt K ρ' H' x a:=by
 cases x with
 | lst xs=>obtain⟨vs,q,r⟩:=h;exact⟨vs,by rw[same];exact q,r.ext e⟩
 | dT kvs=>obtain⟨vs,q,r⟩:=h;exact⟨vs,by rw[same];exact q,r.ext e⟩
 | fT kvs=>obtain⟨vs,ob,q,r⟩:=h;exact⟨vs,ob,by rw[same];exact q,r.ext e⟩
 | dI kvs=>obtain⟨vs,q,r⟩:=h;exact⟨vs,by rw[same];exact q,r.ext e⟩
 | dead=>exact h.elim
 | tab=>obtain⟨c,ps,q,r⟩:=h;exact⟨c,ps,by rw[same];exact q,r.map e.frz⟩
theorem Rep.has{K:Fg}{n:Nat}(r:Rep K ρ au H)(h:ρ.m[n]?=some (some a)):∃x,au[n]?=some x/\OAt K ρ H x a:=by
 have hn:n<au.length:=by rw[← r.len];exact(xbj.mp h).1
 exact⟨au[n],xbe hn,r.obj n a _ h (xbe hn)⟩
theorem Rep.new{K:Fg}(r:Rep K ρ au H)(hp:H p=none)(o:HO):Rep K ρ au (upd H p o):=⟨r.len,r.inj,λm b x e1 e2=>by
 have q:=r.obj m b x e1 e2;obtain⟨u,hu⟩:=q.has;exact q.ext (Ext.new hp o) (zj (zd hu hp)),λb hb=>by
 obtain⟨⟨u,hu⟩,n⟩:=r.gh b hb
 exact⟨⟨u,by rw[zj (zd hu hp)];exact hu⟩,n⟩,r.live⟩
theorem Rep.wr{K:Fg}(r:Rep K ρ au H)(h:ρ.m[n]?=some (some a))(hz:∀ob u,H a≠some (.frz ob u)) (q:OAt K ρ (upd H a o) x a):Rep K ρ (au.set n x) (upd H a o):=⟨by rw[r.len,xfv],r.inj,λm b y e1 e2=>by
 by_cases hm:m=n
 ·subst hm;have hb:b=a:=by rw[h] at e1;exact(xch (xch e1)).symm
  subst hb;have hl:m<au.length:=by rw[← r.len];exact(xbj.mp h).1
  rw[xel hl] at e2;cases e2;exact q
 ·rw[xcu (xep hm)] at e2;refine(r.obj m b y e1 e2).ext (Ext.wr h hz o) (zj λz=>hm ?_);subst z;exact r.inj m n b e1 h,λb hb=>by
 obtain⟨⟨u,hu⟩,n1⟩:=r.gh b hb;refine⟨⟨u,?_⟩,n1⟩;rw[zj]
 ·exact hu
 ·rintro rfl;exact n1 (xcg h),λm y e ne=>by
 by_cases hm:m=n
 ·subst hm;exact⟨a,h⟩
 ·rw[xcu (xep hm)] at e
  exact r.live m y e ne⟩
theorem Rep.alloc{K:Fg}(r:Rep K ρ au H)(hp:H p=none) (q:Ext ρ H ⟨ρ.m++[some p],ρ.g⟩ (upd H p o)->OAt K ⟨ρ.m++[some p],ρ.g⟩ (upd H p o) x p):Ext ρ H ⟨ρ.m++[some p],ρ.g⟩ (upd H p o)/\Rep K ⟨ρ.m++[some p],ρ.g⟩ (au++[x]) (upd H p o):=by
 have hn:∀(m:Nat) (b:Addr),(ρ.m++[some p])[m]?=some (some b)->(m < ρ.m.length/\ρ.m[m]?=some (some b))\/(m=ρ.m.length/\b=p):=λm b e=>by
  rcases xez m ρ.m.length with z|z
  ·rw[xbt z] at e;exact .inl ⟨z,e⟩
  ·rw[xcm z] at e;have z2:m - ρ.m.length=0:=by
    have:=(xbj.mp e).1;simp at this;lia
   rw[z2] at e;simp at e;exact .inr ⟨by lia,e.symm⟩
 have nl:∀(m:Nat),ρ.m[m]?≠some (some p):=λm e=>by
  obtain⟨x,_,q⟩:=r.has e;obtain⟨u,hu⟩:=q.has;rw[hp] at hu;cases hu
 have E:Ext ρ H ⟨ρ.m++[some p],ρ.g⟩ (upd H p o):=⟨by rw[xbl];lia,λm b h e=>by
   rw[xbt h] at e;exact e,λb u e m=>⟨by rw[zj (zd e hp)];exact e,λz=>by
   rcases xbz.mp z with z|z
   ·exact m z
   ·simp at z;subst z;rw[hp] at e;cases e⟩,rfl,λb ob u e=>by rw[zj (zd e hp)];exact e⟩
 refine⟨E,⟨by rw[xbl,xbl,r.len];rfl,λm k b e1 e2=>?_,λm b y e1 e2=>?_,λb hb=>?_,λm y e ne=>?_⟩⟩
 ·rcases hn m b e1 with⟨h1,q1⟩|⟨h1,rfl⟩
  ·rcases hn k b e2 with⟨h2,q2⟩|⟨h2,rfl⟩
   ·exact r.inj m k b q1 q2
   ·exact absurd q1 (nl m)
  ·rcases hn k b e2 with⟨h2,q2⟩|⟨h2,_⟩
   ·exact absurd q2 (nl k)
   ·lia
 ·rcases hn m b e1 with⟨h1,q1⟩|⟨h1,rfl⟩
  ·rw[xbt (by rw[← r.len];exact h1)] at e2;have q:=r.obj m b y q1 e2;obtain⟨u,hu⟩:=q.has;exact q.ext E (zj (zd hu hp))
  ·rw[h1,r.len,xcm (xbf _)] at e2;simp at e2;subst e2;exact q E
 ·obtain⟨⟨u,hu⟩,n1⟩:=r.gh b hb;refine⟨⟨u,by rw[zj (zd hu hp)];exact hu⟩,λz=>?_⟩;rcases xbz.mp z with z|z
  ·exact n1 z
  ·simp at z;subst z;rw[hp] at hu;cases hu
 ·rcases xez m au.length with z|z
  ·rw[xbt z] at e;obtain⟨b,hb⟩:=r.live m y e ne;exact⟨b,by rw[xbt (by rw[r.len];exact z)];exact hb⟩
  ·have z2:=(xbj.mp e).1;simp at z2;have z3:m=ρ.m.length:=by rw[r.len];lia
   exact⟨p,by rw[z3,xcm (xbf _)];simp⟩
theorem Rep.kill{K:Fg}(r:Rep K ρ au H)(h:n < ρ.m.length):Ext ρ H ⟨ρ.m.set n none,ρ.g⟩ H/\Rep K ⟨ρ.m.set n none,ρ.g⟩ (au.set n .dead) H:=by
 have hn:∀(m:Nat) (b:Addr),(ρ.m.set n none)[m]?=some (some b)->m≠n/\ρ.m[m]?=some (some b):=λm b e=>by
  by_cases z:m=n
  ·subst z;rw[xel h] at e;simp at e
  ·rw[xcu (xep z)] at e;exact⟨z,e⟩
 have E:Ext ρ H ⟨ρ.m.set n none,ρ.g⟩ H:=⟨by rw[xfv];exact xbf _,λm b _ e=>(hn m b e).2,λb o e m=>⟨e,λz=>by
  obtain⟨i,hi,e2⟩:=xes z;have:(ρ.m.set n none)[i]?=some (some b):=by rw[xbe hi,e2]
  exact m (xcg (hn i b this).2)⟩,rfl,λ_ _ _ e=>e⟩
 refine⟨E,⟨by rw[xfv,xfv,r.len],λm k b e1 e2=>r.inj m k b (hn m b e1).2 (hn k b e2).2,λm b y e1 e2=>?_,λb hb=>⟨(r.gh b hb).1,λz=>?_⟩,λm y e ne=>?_⟩⟩
 rotate_left
 ·obtain⟨i,hi,e2⟩:=xes z;have:(ρ.m.set n none)[i]?=some (some b):=by rw[xbe hi,e2]
  exact(r.gh b hb).2 (xcg (hn i b this).2)
 ·have z:m≠n:=by
   rintro rfl;rw[xel (by rw[← r.len];exact h)] at e;cases e;exact ne rfl
  rw[xcu (xep z)] at e;obtain⟨b,hb⟩:=r.live m y e ne;exact⟨b,by rw[xcu (xep z)];exact hb⟩
 obtain⟨z,q⟩:=hn m b e1;rw[xcu (xep z)] at e2;exact(r.obj m b y q e2).ext E rfl
theorem zgu{K:Fg}(r:Rep K ρ au H)(hp:H p=none):Out ρ p:=by
 refine⟨λz=>?_,λz=>?_⟩
 ·obtain⟨i,hi,e⟩:=xes z;obtain⟨x,_,q⟩:=r.has (n:=i) (a:=p) (by rw[xbe hi,e]);obtain⟨u,hu⟩:=q.has;rw[hp] at hu;cases hu
 ·obtain⟨⟨u,hu⟩,_⟩:=r.gh p z;rw[hp] at hu;cases hu
theorem At.newT{K:Fg}(r:Rep K ρ au H)(hp:H p=none) (h:AtAll K ρ H ds vs):At K ρ (upd H p (.tup vs)) (.tup ds) (.ref p):=.tup zh (zgu r hp) (h.ext (Ext.new hp _))
theorem At.newL{K:Fg}(r:Rep K ρ au H)(hp:H p=none) (h:AtAll K ρ H ds vs):At K ρ (upd H p (.lst vs)) (.lst ds) (.ref p):=.lst zh (zgu r hp) (h.ext (Ext.new hp _))
def eAnd(f f':SE):SE:=λσ au=>(f σ au).bind λv st1=>match v with
 | .bl true=>f' σ st1
 | .bl false=>.ok (.bl false) st1
 | _=>.stuck
def eOr(f f':SE):SE:=λσ au=>(f σ au).bind λv st1=>match v with
 | .bl true=>.ok (.bl true) st1
 | .bl false=>f' σ st1
 | _=>.stuck
def eNot(f:SE):SE:=λσ au=>(f σ au).bind λv st1=>match v with
 | .bl b=>.ok (.bl (!b)) st1
 | _=>.stuck
def bAnd(f f':ST):ST:=λσ au=>(f σ au).bind λb st1=>if b=true then f' σ st1 else .ok false st1
def bOr(f f':ST):ST:=λσ au=>(f σ au).bind λb st1=>if b=true then .ok true st1 else f' σ st1
def bNot(f:ST):ST:=λσ au=>(f σ au).bind λb st1=>.ok (!b) st1
def eIf(c:ST) (f f':SE):SE:=λσ au=>(c σ au).bind λb st1=>if b=true then f σ st1 else f' σ st1
theorem zbtp{op}(h:DE X a f):DE X (.BoolOp op [a] pos) f:=zbnp h
section
variable {X:Cx}{a:Expr}{b:Expr}{rest:List Expr}{f:SE}{f':SE}{pos:Pos}
theorem zbtw(ha:DE X a f)(hb:DE X (.BoolOp .And (b::rest) pos) f'):DE X (.BoolOp .And (a::b::rest) pos) (eAnd f f'):=zdt (zbnv ha hb) λτ H Q hq0=>by
 obtain⟨ρ,σ,au,v,st',at',rp,e,q⟩:=hq0;obtain⟨x,st1,e1,e⟩:=za e;refine⟨ρ,σ,au,x,st1,at',rp,e1,λρ1 H1 u x1 rp1 a1=>?_⟩;cases x<;>try (cases e;done)
 rename_i bb;cases a1;refine⟨bb,rfl,?_⟩;cases bb with
 | true =>
  rw[if_pos rfl];exact⟨ρ1,σ,st1,v,st',at'.ext x1,rp1,e,λρ' H' u x2=>q ρ' H' u (x1.trans x2)⟩
 | false =>
  rw[if_neg (by decide)];cases e;exact q _ _ _ x1 rp1 (.bl false)
end
theorem zbtq(ha:DE X a f):DE X (.UnaryOp .Not a pos) (eNot f):=zdt (zbnq ha) λτ H Q hq0=>by
 obtain⟨ρ,σ,au,v,st',at',rp,e,q⟩:=hq0;obtain⟨x,st1,e1,e⟩:=za e;refine⟨ρ,σ,au,x,st1,at',rp,e1,λρ1 H1 u x1 rp1 a1=>?_⟩;cases x<;>try (cases e;done)
 rename_i bb;cases a1;cases e;exact⟨bb,rfl,q _ _ _ x1 rp1 (.bl _)⟩
theorem zbpk{op}(h:DT X a t)(hop:op=.And\/op=.Or):DW X (.BoolOp op [a] pos) t:=by
 rcases hop with rfl|rfl
 ·exact pw_and1 h
 ·exact pw_or1 h
section
variable {X:Cx}{a:Expr}{b:Expr}{rest:List Expr}{t:ST}{t':ST}{pos:Pos}
theorem zbpl(ha:DT X a t)(hb:DW X (.BoolOp .And (b::rest) pos) t'):DW X (.BoolOp .And (a::b::rest) pos) (bAnd t t'):=pw_to (pw_and ha hb) λτ H Q hq0=>by
 obtain⟨ρ,σ,au,v,st',at',rp,e,q⟩:=hq0;obtain⟨x,st1,e1,e⟩:=za e;refine⟨ρ,σ,au,x,st1,at',rp,e1,λρ1 H1 x1 rp1=>?_⟩;cases x with
 | true=>exact iteT ⟨ρ1,σ,st1,v,st',at'.ext x1,rp1,e,λρ' H' x2=>q ρ' H' (x1.trans x2)⟩
 | false=>cases e;exact iteF (q _ _ x1 rp1)
theorem zbth(ha:DT X a t)(hb:DW X (.BoolOp .Or (b::rest) pos) t'):DW X (.BoolOp .Or (a::b::rest) pos) (bOr t t'):=pw_to (pw_or ha hb) λτ H Q hq0=>by
 obtain⟨ρ,σ,au,v,st',at',rp,e,q⟩:=hq0;obtain⟨x,st1,e1,e⟩:=za e;refine⟨ρ,σ,au,x,st1,at',rp,e1,λρ1 H1 x1 rp1=>?_⟩;cases x with
 | false=>exact iteF ⟨ρ1,σ,st1,v,st',at'.ext x1,rp1,e,λρ' H' x2=>q ρ' H' (x1.trans x2)⟩
 | true=>cases e;exact iteT (q _ _ x1 rp1)
end
theorem zbpn(ha:DT X a t):DT X (.UnaryOp .Not a pos) (bNot t):=zbmb (zbne ha) λτ H Q hq0=>by
 obtain⟨ρ,σ,au,v,st',at',rp,e,q⟩:=hq0;obtain⟨x,st1,e1,e⟩:=za e;cases e;exact⟨ρ,σ,au,x,_,at',rp,e1,λρ1 H1 x1 rp1=>q _ _ x1 rp1⟩
theorem d_if(hc:DT X c t)(ha:DE X a f)(hb:DE X b f'):DE X (.IfExp c a b pos) (eIf t f f'):=zdt (ztf hc ha hb) λτ H Q hq0=>by
 obtain⟨ρ,σ,au,v,st',at',rp,e,q⟩:=hq0;obtain⟨x,st1,e1,e⟩:=za e;refine⟨ρ,σ,au,x,st1,at',rp,e1,λρ1 H1 x1 rp1=>?_⟩;cases x with
 | true=>exact iteT ⟨ρ1,σ,st1,v,st',at'.ext x1,rp1,e,λρ' H' u x2=>q ρ' H' u (x1.trans x2)⟩
 | false=>exact iteF ⟨ρ1,σ,st1,v,st',at'.ext x1,rp1,e,λρ' H' u x2=>q ρ' H' u (x1.trans x2)⟩
def aC:SA:=λ_ au=>.ok [] au
def aB(f:SE) (g:SA):SA:=λσ au=>(f σ au).bind λx st1=>(g σ st1).bind λxs st2=>.ok (x::xs) st2
def aS(g:SA):SE:=λσ au=>(g σ au).bind λxs st1=>if xs.length<=sizeLine then .ok (.tup xs) st1 else .stuck
def eLst(g:SA):SE:=λσ au=>(g σ au).bind λxs st1=>if xs.length<=sizeLine then .ok (.lst xs) st1 else .stuck
def eLstM(g:SA):SE:=λσ au=>(g σ au).bind λxs st1=>if xs.length<=sizeLine then .ok (.ref st1.length) (st1++[.lst xs]) else .stuck
theorem zbqb:DA X [] aC:=zbmd znj λτ H Q hq0=>by
 obtain⟨ρ,σ,au,v,st',a,rp,e,q⟩:=hq0;cases e;exact q _ _ _ (.refl _ _) rp .nil
theorem zbkt(ha:DE X e f)(hr:DA X es g)(hs:starEach (e::es) X.env=(false,eval e X.env)::starEach es X.env:=by rfl):DA X (e::es) (aB f g):=zbmd (zfj ha hr hs) λτ H Q hq0=>by
 obtain⟨ρ,σ,au,v,st',a,rp,e,q⟩:=hq0;obtain⟨x,st1,e1,e⟩:=za e;obtain⟨y,st2,e2,e⟩:=za e;cases e;refine⟨ρ,σ,au,x,st1,a,rp,e1,λρ1 H1 u x1 rp1 a1=>?_⟩;exact⟨ρ1,σ,st1,y,_,a.ext x1,rp1,e2,λρ2 H2 w x2 rp2 a2=>q _ _ _ (x1.trans x2) rp2 (.cons (a1.ext x2) a2)⟩
theorem zbtm{x1}(h:DA X es g):DE X (.Tuple es x1 pos) (aS g):=zdt (zbhv h) λτ H Q hq0=>by
 obtain⟨ρ,σ,au,v,st',a,rp,e,q⟩:=hq0;obtain⟨x,st1,e1,e⟩:=za e;split at e
 ·rename_i hl;cases e;refine⟨ρ,σ,au,x,_,a,rp,e1,λρ1 H1 u x1 rp1 a1=>⟨by rw[a1.length];exact hl,λp hp=>?_⟩⟩;exact q ρ1 _ _ (x1.trans (Ext.new hp _)) (rp1.new hp _) (.newT rp1 hp a1)
 ·cases e
theorem zbts(h:DA X es g):DE X (.List es pos) (eLst g):=zdt (zbhw h) λτ H Q hq0=>by
 obtain⟨ρ,σ,au,v,st',a,rp,e,q⟩:=hq0;obtain⟨x,st1,e1,e⟩:=za e;split at e
 ·rename_i hl;cases e;refine⟨ρ,σ,au,x,_,a,rp,e1,λρ1 H1 u x1 rp1 a1=>⟨by rw[a1.length];exact hl,λp hp=>?_⟩⟩;exact q ρ1 _ _ (x1.trans (Ext.new hp _)) (rp1.new hp _) (.newL rp1 hp a1)
 ·cases e
theorem At.last{K:Fg}{ρ:Loc} (h:n=ρ.m.length):At K ⟨ρ.m++[some p],ρ.g⟩ H (.ref n) (.ref p):=by
 subst h;refine .ref (by simp) λa e=>?_
 simp at e;rw[e]
theorem zbqe(h:DA X es g):DE X (.List es pos) (eLstM g):=zdt (zbhw h) λτ H Q hq0=>by
 obtain⟨ρ,σ,au,v,st',a,rp,e,q⟩:=hq0;obtain⟨x,st1,e1,e⟩:=za e;split at e
 ·rename_i hl;cases e;refine⟨ρ,σ,au,x,_,a,rp,e1,λρ1 H1 u x1 rp1 a1=>⟨by rw[a1.length];exact hl,λp hp=>?_⟩⟩;obtain⟨E,R⟩:=rp1.alloc hp (x:=.lst x) (o:=.lst u) λE=>⟨u,zh,a1.ext E⟩
  exact q _ _ _ (x1.trans E) R (.last rp1.len.symm)
 ·cases e
def asL(au:Store):D->Option (List D)
 | .lst xs=>some xs
 | .ref n=>match au[n]? with
  | some (.lst xs)=>some xs
  | _=>none
 | _=>none
theorem zfi{K:Fg}(rp:Rep K ρ au H) (a:At K ρ H (.ref n) u)(e:au[n]?=some o)(hd:o≠.dead):∃p,u=.ref p/\ρ.m[n]?=some (some p)/\OAt K ρ H o p:=by
 cases a with
 | ref h1 h2 =>
  obtain⟨p,hp⟩:=rp.live n o e hd;exact⟨p,h2 p hp,hp,rp.obj n p o hp e⟩
theorem zfv{K:Fg}(rp:Rep K ρ au H)(a:At K ρ H d u)(e:asL au d=some xs):∃p vs,u=.ref p/\H p=some (.lst vs)/\AtAll K ρ H xs vs:=by
 cases d<;>try (cases e;done)
 ·rename_i n;unfold asL at e;dsimp only at e;split at e
  ·rename_i ys hys;cases e;obtain⟨p,rfl,hp,vs,q1,q2⟩:=zfi rp a hys (by intro z;cases z);exact⟨p,vs,rfl,q1,q2⟩
  ·cases e
 ·cases e;cases a with
  | lst h1 h2 h3=>exact⟨_,_,rfl,h1,h3⟩
def oI(C:Int->Int->Prop) [DecidableRel C] (h:Int->Int->D) (x y:D) (au:Store):Res D:=match x,y with
 | .int i,.int j=>if C i j then .ok (h i j) au else .stuck
 | _,_=>.stuck
theorem oI_D{K:Fg} [DecidableRel C] (k:∀i j ρ H,At K ρ H (h i j) (g i j)):OpD K (oI C h) (rI C g):=λρ H au x y u v z st' Q rp a b e q=>by
 unfold oI at e;split at e
 ·cases a;cases b;split at e
  ·rename_i hc;cases e;exact⟨_,_,rfl,rfl,hc,q _ _ _ (.refl _ _) rp (k _ _ _ _)⟩
  ·cases e
 ·cases e
theorem zih{K:Fg} (k:∀i j ρ H,At K ρ H (h i j) (g i j)):OpD K (oI (λ_ _=>True) h) (rI0 g):=λρ H au x y u v z st' Q rp a b e q=>by
 obtain⟨i,j,e1,e2,_,e3⟩:=oI_D (C:=λ_ _=>True) k ρ H au x y u v z st' Q rp a b e q;exact⟨i,j,e1,e2,e3⟩
instance:DecidableRel CMul:=λi j=>by unfold CMul;infer_instance
instance:DecidableRel CDivP:=λi j=>by unfold CDivP;infer_instance
instance:DecidableRel CPow:=λi j=>by unfold CPow;infer_instance
abbrev oSub:=oI (λ_ _=>True) λi j=>.int (i - j)
abbrev oFdiv:=oI CDivP λi j=>.int (i / j)
abbrev oMod:=oI (λ_ j=>0<j) λi j=>.int (i % j)
abbrev oAndI:=oI (λ_ _=>True) λi j=>.int (Builtin.bitAnd i j)
abbrev oPow:=oI CPow λi j=>.int (i ^ j.toNat)
abbrev oShl:=oI CPow λi j=>.int (i * 2 ^ j.toNat)
abbrev oMulI:=oI CMul λi j=>.int (i * j)
def aN(x y:D) (au:Store):Res D:=match x,y with
 | .int i,.int j=>.ok (.int (i+j)) au
 | .tup a,.tup b=>if a.length+b.length<=sizeLine then .ok (.tup (a++b)) au else .stuck
 | .str a,.str b=>if a.length+b.length<=sizeLine then .ok (.str (a++b)) au else .stuck
 | x,y=>match asL au x,asL au y with
  | some a,some b=>if a.length+b.length<=sizeLine then .ok (.lst (a++b)) au else .stuck
  | _,_=>.stuck
abbrev rAddA(K:Fg):R2:=λx y H Q=>rI0 (λi j=>.int (i+j)) x y H Q\/rCatA K x y H Q\/(∃i j,x=.str i/\y=.str j/\i.length+j.length<=sizeLine/\Q (.str (i++j)) H)\/rCat x y H Q
theorem ztn:OpR X (binaryOp .Add) (rAddA X.K):=zbob.or (zbii.or (ztm.or zbnz))
theorem zbdc{K:Fg}:OpD K aN (rAddA K):=λρ H au x y u v z st' Q rp a b e q=>by
 unfold aN at e;split at e
 ·cases a;cases b;cases e;exact .inl ⟨_,_,rfl,rfl,q _ _ _ (.refl _ _) rp (.int _)⟩
 ·rename_i ds es;split at e
  ·rename_i hl;cases e;refine .inr (.inl ?_);cases a with
   | tup h1 h2 h3 =>
    cases b with
    | tup k1 k2 k3 =>
     refine⟨_,_,_,_,rfl,rfl,SqT.of h1,SqT.of k1,by rw[h3.length,k3.length];exact hl,λz=>?_,λz1 z2=>?_,λz1 z2 p hp=>?_⟩
     ·subst z;cases h3;exact q _ _ _ (.refl _ _) rp (.tup k1 k2 k3)
     ·subst z2;cases k3;rw[xct] at q;exact q _ _ _ (.refl _ _) rp (.tup h1 h2 h3)
     ·exact q _ _ _ (Ext.new hp _) (rp.new hp _) (.newT rp hp (h3.append k3))
  ·cases e
 ·split at e
  ·rename_i hl;cases a;cases b;cases e;exact .inr (.inr (.inl ⟨_,_,rfl,rfl,hl,q _ _ _ (.refl _ _) rp (.str _)⟩))
  ·cases e
 ·split at e
  ·rename_i h1 h2;split at e
   ·rename_i hl;cases e;obtain⟨p,vs,rfl,g1,g2⟩:=zfv rp a h1;obtain⟨p',ws,rfl,k1,k2⟩:=zfv rp b h2;exact .inr (.inr (.inr ⟨_,_,_,_,rfl,rfl,g1,k1,by rw[g2.length,k2.length];exact hl,λt ht=>q _ _ _ (Ext.new ht _) (rp.new ht _) (.newL rp ht (g2.append k2))⟩))
   ·cases e
  ·cases e
abbrev oLe:=oI (λ_ _=>True) λi j=>.bl (decide (i<=j))
abbrev oGt:=oI (λ_ _=>True) λi j=>.bl (decide (j<i))
abbrev oGe:=oI (λ_ _=>True) λi j=>.bl (decide (j<=i))
mutual
noncomputable def toData:D->Option PyData
 | .non=>some .none
 | .bl b=>some (.bool b)
 | .int i=>some (.int i)
 | .str x=>some (.str x)
 | .tup ds=>(toDatas ds).map .tuple
 | .lst ds=>(toDatas ds).map .list
 | _=>none
noncomputable def toDatas:List D->Option (List PyData)
 | []=>some []
 | d::ds=>(toData d).bind λx=>(toDatas ds).map λxs=>x::xs
end
mutual
theorem zbbc{K:Fg}{ρ:Loc}{H:Hp}:∀{d:D} {v:V} {p:PyData},At K ρ H d v->toData d=some p->DAt K H v p
 | _,_,_,.non,e=>by cases e;exact .non
 | _,_,_,.bl b,e=>by cases e;exact .bl b
 | _,_,_,.int i,e=>by cases e;exact .int i
 | _,_,_,.str x,e=>by cases e;exact .str x
 | _,_,_,.ty n,e=>by cases e
 | _,_,_,.exn _,e=>by cases e
 | _,_,_,.ref _ _,e=>by cases e
 | _,_,_,.tup h _ al,e=>by
  rw[toData] at e;obtain⟨ps,e1,rfl⟩:=xde.mp e;exact .tup (SqT.of h) (zkm al e1)
 | _,_,_,.lst h _ al,e=>by
  rw[toData] at e;obtain⟨ps,e1,rfl⟩:=xde.mp e;exact .lst (SqL.of h) (zkm al e1)
 | _,_,_,.scr _ _,e=>by cases e
theorem zkm{K:Fg}{ρ:Loc}{H:Hp}:∀{d:List D} {v:List V} {p:List PyData},AtAll K ρ H d v->toDatas d=some p->DAll K H v p
 | _,_,_,.nil,e=>by cases e;exact .nil
 | _,_,_,.cons a b,e=>by
  rw[toDatas] at e;obtain⟨x,e1,e⟩:=xeg.mp e;obtain⟨xs,e2,rfl⟩:=xde.mp e;exact .cons (zbbc a e1) (zkm b e2)
end
def now(au:Store) (d:D):D:=match asL au d with
 | some xs=>.lst xs
 | none=>d
def dataOf(au:Store) (d:D):Option PyData:=toData (now au d)
theorem zqd{K:Fg} (rp:Rep K ρ au H) (a:At K ρ H d u)(e:dataOf au d=some p):DAt K H u p:=by
 unfold dataOf now at e;split at e
 ·rename_i xs hx;obtain⟨q,vs,rfl,h1,h2⟩:=zfv rp a hx;rw[toData] at e;obtain⟨ps,e1,rfl⟩:=xde.mp e;exact .lst (SqL.of h1) (zkm h2 e1)
 ·exact zbbc a e
def oEqG(neg:Bool) (x y:D) (au:Store):Res D:=match dataOf au x,dataOf au y with
 | some a,some b=>if PySem.SeqAt.shaped a=true/\PySem.SeqAt.shaped b=true then .ok (.bl (if neg then !PyData.eqv a b else PyData.eqv a b)) au else .stuck
 | _,_=>.stuck
theorem zxu{K:Fg} :OpD K (oEqG neg) (rEqX K neg):=λρ H au x y u v z st' Q rp a b e q=>by
 unfold oEqG at e;split at e
 ·rename_i p1 p2 h1 h2;split at e
  ·rename_i hs;cases e;exact⟨_,_,zqd rp a h1,zqd rp b h2,hs.1,hs.2,q _ _ _ (.refl _ _) rp (.bl _)⟩
  ·cases e
 ·cases e
abbrev oEq:=oEqG false
abbrev oNe:=oEqG true
noncomputable def asInts:List D->Option (List Int)
 | []=>some []
 | .int i::r=>(asInts r).map (i::·)
 | _::_=>none
theorem zcp{K:Fg} :∀{ds:List D} {vs:List V} {ns:List Int},AtAll K ρ H ds vs->asInts ds=some ns->vs=ns.map V.int
 | _,_,_,.nil,e=>by cases e;rfl
 | _,_,_,.cons (d:=d) a b,e=>by
  cases d<;>try (cases e;done)
  rw[asInts] at e;obtain⟨ms,e1,rfl⟩:=xde.mp e;cases a;rw[zcp b e1]
  rfl
def oLtT(x y:D) (au:Store):Res D:=match x,y with
 | .int i,.int j=>.ok (.bl (decide (i<j))) au
 | .tup a,.tup b=>match asInts a,asInts b with
  | some ns,some ms=>.ok (.bl (HT.lexLt ns ms)) au
  | _,_=>.stuck
 | _,_=>.stuck
abbrev rLtA(K:Fg):R2:=λx y H Q=>rI0 (λi j=>.bl (decide (i<j))) x y H Q\/rLtT K x y H Q
theorem znk{X:Cx}(hu:X.A.units<cLine):OpR X (compareOp .Lt) (rLtA X.K):=zbsr.or (zbny hu)
theorem zns{K:Fg}:OpD K oLtT (rLtA K):=λρ H au x y u v z st' Q rp a b e q=>by
 unfold oLtT at e;split at e
 ·cases a;cases b;cases e
  exact .inl ⟨_,_,rfl,rfl,q _ _ _ (.refl _ _) rp (.bl _)⟩
 ·split at e
  ·rename_i h1 h2;cases e;cases a with
   | tup g1 g2 g3 =>
    cases b with
    | tup k1 k2 k3 =>
     have e1:=zcp g3 h1;have e2:=zcp k3 h2;subst e1 e2;exact .inr ⟨_,_,_,_,rfl,rfl,SqT.of g1,SqT.of k1,q _ _ _ (.refl _ _) rp (.bl _)⟩
  ·cases e
 ·cases e
def seqOf(au:Store):D->Option (List D)
 | .tup xs=>some xs
 | .scr xs=>some xs
 | d=>asL au d
theorem zjw{K:Fg} (rp:Rep K ρ au H) (a:At K ρ H d u)(e:seqOf au d=some xs) :
  ∃p vs,u=.ref p/\(SqL K H p vs\/SqT K H p vs)/\AtAll K ρ H xs vs:=by
 unfold seqOf at e;split at e
 ·cases e;cases a with
  | tup h1 h2 h3=>exact⟨_,_,rfl,.inr (SqT.of h1),h3⟩
 ·cases e;cases a with
  | scr h1 h3=>exact⟨_,_,rfl,.inl h1.sq,h3⟩
 ·obtain⟨p,vs,rfl,h1,h2⟩:=zfv rp a e;exact⟨p,vs,rfl,.inl (SqL.of h1),h2⟩
theorem AtAll.atI{K:Fg} (h:AtAll K ρ H ds vs)(e:L2.atI ds i=some d):∃v,L2.atI vs i=some v/\At K ρ H d v:=by
 unfold L2.atI at e ⊢;rw[h.length];cases hi:ixN ds.length i with
 | none=>rw[hi] at e;cases e
 | some j =>
  rw[hi] at e;obtain⟨v,e1,e2⟩:=h.get (i:=j) e;exact⟨v,e1,e2⟩
def oIx(x y:D) (au:Store):Res D:=match seqOf au x,y with
 | some xs,.int i=>match L2.atI xs i with
  | some v=>.ok v au
  | none=>.stuck
 | _,_=>.stuck
theorem zbsw{K:Fg}:OpD K oIx (rIx K):=λρ H au x y u v z st' Q rp a b e q=>by
 unfold oIx at e;split at e
 ·rename_i h1;split at e
  ·rename_i w hw;cases e;cases b;obtain⟨p,vs,rfl,h2,h3⟩:=zjw rp a h1;obtain⟨w',e2,a2⟩:=h3.atI hw;rcases h2 with h2|h2
   ·exact .inl ⟨_,_,_,_,rfl,rfl,h2,e2,q _ _ _ (.refl _ _) rp a2⟩
   ·exact .inr (.inl ⟨_,_,_,_,rfl,rfl,h2,e2,q _ _ _ (.refl _ _) rp a2⟩)
  ·cases e
 ·cases e
def cutD(xs:List D) (lo hi:Option Int):List D:=(xs.drop (HT.sIx xs.length 0 lo)).take (HT.sIx xs.length xs.length hi - HT.sIx xs.length 0 lo)
theorem AtAll.cut{K:Fg} (h:AtAll K ρ H ds vs)(lo hi:Option Int):AtAll K ρ H (cutD ds lo hi) (cutV vs lo hi):=by
 unfold cutD cutV;rw[h.length];exact(h.drop _).take _
def pNone:DS->Store->Res (Option Int):=λ_ au=>.ok none au
def pSome(f:SE):DS->Store->Res (Option Int):=λσ au=>(f σ au).bind λv st1=>match v with
 | .int i=>.ok (some i) st1
 | _=>.stuck
def eSl(f:SE) (lo hi:DS->Store->Res (Option Int)):SE:=λσ au=>(f σ au).bind λx st1=>(lo σ st1).bind λl st2=>(hi σ st2).bind λh st3=>match x with
 | .tup xs=>.ok (.tup (cutD xs l h)) st3
 | x=>match asL st3 x with
  | some xs=>.ok (.lst (cutD xs l h)) st3
  | none=>.stuck
def tDO(K:Fg) (f:DS->Store->Res (Option Int)):TO:=λτ H Q=>∃ρ σ au v st',AtS K ρ H σ τ/\Rep K ρ au H/\f σ au=.ok v st'/\∀ρ' H',Ext ρ H ρ' H'->Rep K ρ' st' H'->Q v H'
abbrev DO(X:Cx) (e:Option Expr) (f:DS->Store->Res (Option Int)):Prop:=PO X e (tDO X.K f)
theorem zbrp(h:PO X e t)(k:∀σ H Q,t' σ H Q->t σ H Q):PO X e t':=λaW s σ H Q I q=>h aW s σ H Q I (k _ _ _ q)
theorem zbkl:DO X none pNone:=zbrp zbhl λτ H Q hq0=>by
 obtain⟨ρ,σ,au,v,st',a,rp,e,q⟩:=hq0;cases e;exact q _ _ (.refl _ _) rp
theorem zbkk(he:DE X e f):DO X (some e) (pSome f):=zbrp (zbhk he) λτ H Q hq0=>by
 obtain⟨ρ,σ,au,v,st',a,rp,e,q⟩:=hq0;obtain⟨x,st1,e1,e⟩:=za e;refine⟨ρ,σ,au,x,st1,a,rp,e1,λρ1 H1 u x1 rp1 a1=>?_⟩;cases x<;>try (cases e;done)
 cases e;cases a1;exact⟨_,rfl,q _ _ x1 rp1⟩
theorem d_ix(ha:DE X a f)(hb:DE X b f')(hs:PlainIx b):DE X (.Subscript a b pos) (aU oIx f f'):=zdt (zbso zbou ha hb hs) (zbme zbsw)
section
variable {X:Cx}{a:Expr}{e:Expr}{f:SE}{pos:Pos}{lo:Option Expr}{hi:Option Expr}{l:DS->Store->Res (Option Int)}{h:DS->Store->Res (Option Int)}
theorem d_sl{p2:Pos}(he:DE X e f)(hl:DO X lo l)(hu:DO X hi h):DE X (.Subscript e (.Slice lo hi none p2) pos) (eSl f l h):=zdt (zbcr (zbgv.or zbgw) he hl hu) λτ H Q hq0=>by
 obtain⟨ρ,σ,au,v,st',a,rp,e,q⟩:=hq0;obtain⟨x,st1,e1,e⟩:=za e;obtain⟨y,st2,e2,e⟩:=za e;obtain⟨z,st3,e3,e⟩:=za e;refine⟨ρ,σ,au,x,st1,a,rp,e1,λρ1 H1 u x1 rp1 a1=>?_⟩;refine⟨ρ1,σ,st1,y,st2,a.ext x1,rp1,e2,λρ2 H2 x2 rp2=>?_⟩;refine⟨ρ2,σ,st2,z,st3,a.ext (x1.trans x2),rp2,e3,λρ3 H3 x3 rp3=>?_⟩;have a3:=a1.ext (x2.trans x3);have X3:=x1.trans (x2.trans x3);split at e
 ·cases e;refine .inl ?_;cases a3 with
  | tup h1 h2 h3 =>
   refine⟨_,_,rfl,SqT.of h1,λec=>?_,λp hp=>?_⟩
   ·refine q _ _ _ X3 rp3 (.tup h1 h2 ?_);have:=h3.cut y z;rw[ec] at this;exact this
   ·exact q _ _ _ (X3.trans (Ext.new hp _)) (rp3.new hp _) (.newT rp3 hp (h3.cut y z))
 ·split at e
  ·rename_i xs hx;cases e;obtain⟨p,vs,rfl,g1,g2⟩:=zfv rp3 a3 hx;exact .inr ⟨_,_,rfl,SqL.of g1,λp hp=>q _ _ _ (X3.trans (Ext.new hp _)) (rp3.new hp _) (.newL rp3 hp (g2.cut y z))⟩
  ·cases e
end
end Dd
namespace Dd
open PySem L2
def aE(g:List D->Store->Res D) (f:SA):SE:=λσ au=>(f σ au).bind λxs st1=>g xs st1
def CaD(K:Fg) (g:List D->Store->Res D) (r:List V->Hp->VK->Prop):Prop :=
 ∀ρ H au xs us z st' (Q:VK),Rep K ρ au H->AtAll K ρ H xs us->g xs au=.ok z st'->(∀ρ' H' w,Ext ρ H ρ' H'->Rep K ρ' st' H'->At K ρ' H' z w->Q w H')->r us H Q
theorem zbqp{K:Fg} (hr:CaD K g r) :∀τ H Q,tD K (aE g f) τ H Q->tCB r (tDA K f) τ H Q:=λτ H Q hq0=>by
 obtain⟨ρ,σ,au,v,st',a,rp,e,q⟩:=hq0;obtain⟨x,st1,e1,e⟩:=za e;exact⟨ρ,σ,au,x,st1,a,rp,e1,λρ1 H1 u x1 rp1 a1=>hr ρ1 H1 st1 x u v st' Q rp1 a1 e λρ' H' w x2=>q ρ' H' w (x1.trans x2)⟩
theorem zbld{x:Str}{id:String}(hc:CallR X (.builtin id) r)(hr:CaD X.K g r)(hg:Gl X x)(hm:X.mg x=none)(hv:bootBuiltins x=some (.builtin id))(ha:DA X (e::es) f)(hn:x≠"__name__":=by decide)(hdb:(x==("__debug__" : Str))=false:=by decide)
 (he:starEach (e::es) X.env=(false,eval e X.env)::starEach es X.env:=by rfl)(hpl:(backTo pos (starEach es X.env)).any (·.1)=false:=by rfl):DE X (.Call (.Name x p) (e::es) [] pos) (aE g f):=zdt (zhh hc hg hm hv ha hn hdb he hpl) (zbqp hr)
theorem zbez{T:String}(hc:CallR X (.type T) r)(hr:CaD X.K g r)(hg:Gl X x)(hm:X.mg x=none)(hv:bootBuiltins x=some (.type T))(ha:DA X (e::es) f)(hn:x≠"__name__":=by decide)(hdb:(x==("__debug__" : Str))=false:=by decide)
 (he:starEach (e::es) X.env=(false,eval e X.env)::starEach es X.env:=by rfl)(hpl:(backTo pos (starEach es X.env)).any (·.1)=false:=by rfl):DE X (.Call (.Name x p) (e::es) [] pos) (aE g f):=zdt (zph hc hg hm hv ha hn hdb he hpl) (zbqp hr)
theorem AtAll.one{K:Fg} (h:AtAll K ρ H [d] us):∃u,us=[u]/\At K ρ H d u:=by
 cases h with
 | cons a b=>cases b;exact⟨_,rfl,a⟩
theorem AtAll.two{K:Fg} (h:AtAll K ρ H [d,e] us):∃u v,us=[u,v]/\At K ρ H d u/\At K ρ H e v:=by
 cases h with
 | cons a b =>
  obtain⟨v,rfl,c⟩:=b.one;exact⟨_,_,rfl,a,c⟩
def bLen:List D->Store->Res D:=λxs au=>match xs with
 | [x]=>match seqOf au x with
  | some ys=>.ok (.int ys.length) au
  | none=>.stuck
 | _=>.stuck
theorem zrs{K:Fg}:CaD K bLen (λxs H Q=>∃p ys,xs=[.ref p]/\(SqL K H p ys\/SqT K H p ys)/\Q (.int ys.length) H):=λρ H au xs us z st' Q rp aa e q=>by
 unfold bLen at e;split at e
 ·split at e
  ·rename_i h;cases e;obtain⟨u,rfl,a⟩:=aa.one;obtain⟨p,vs,rfl,h1,h2⟩:=zjw rp a h;refine⟨p,vs,rfl,h1,?_⟩;rw[h2.length];exact q _ _ _ (.refl _ _) rp (.int _)
  ·cases e
 ·cases e
def bAbs:List D->Store->Res D:=λxs au=>match xs with
 | [.int i]=>.ok (.int (if i<0 then -i else i)) au
 | _=>.stuck
theorem zbrc{K:Fg}:CaD K bAbs (λxs H Q=>∃i,xs=[.int i]/\Q (.int (if i<0 then -i else i)) H):=λρ H au xs us z st' Q rp aa e q=>by
 unfold bAbs at e;split at e
 ·cases e;obtain⟨u,rfl,a⟩:=aa.one;cases a;exact⟨_,rfl,q _ _ _ (.refl _ _) rp (.int _)⟩
 ·cases e
def b2I(g:Int->Int->Int):List D->Store->Res D:=λxs au=>match xs with
 | [.int i,.int j]=>.ok (.int (g i j)) au
 | _=>.stuck
theorem zbsd{K:Fg} :CaD K (b2I g) (λxs H Q=>∃i j,xs=[.int i,.int j]/\Q (.int (g i j)) H):=λρ H au xs us z st' Q rp aa e q=>by
 unfold b2I at e;split at e
 ·cases e;obtain⟨u,v,rfl,a,b⟩:=aa.two;cases a;cases b;exact⟨_,_,rfl,q _ _ _ (.refl _ _) rp (.int _)⟩
 ·cases e
abbrev bMin2:=b2I λi j=>if j<i then j else i
def bSum:List D->Store->Res D:=λxs au=>match xs with
 | [x]=>match (seqOf au x).bind asInts with
  | some ns=>.ok (.int ns.sum) au
  | none=>.stuck
 | _=>.stuck
theorem zbfl{K:Fg}:CaD K bSum (rSum K):=λρ H au xs us z st' Q rp aa e q=>by
 unfold bSum at e;split at e
 ·split at e
  ·rename_i ns h;cases e;obtain⟨ys,h0,h⟩:=xeg.mp h;obtain⟨u,rfl,a⟩:=aa.one;obtain⟨p,vs,rfl,h1,h2⟩:=zjw rp a h0;have e:=zcp h2 h;subst e;exact⟨p,ns,rfl,h1,q _ _ _ (.refl _ _) rp (.int _)⟩
  ·cases e
 ·cases e
noncomputable def asBools:List D->Option (List Bool)
 | []=>some []
 | .bl i::r=>(asBools r).map (i::·)
 | _::_=>none
theorem zmm{K:Fg} :∀{ds:List D} {vs:List V} {ns:List Bool},AtAll K ρ H ds vs->asBools ds=some ns->vs=ns.map V.bl
 | _,_,_,.nil,e=>by cases e;rfl
 | _,_,_,.cons (d:=d) a b,e=>by
  cases d<;>try (cases e;done)
  rw[asBools] at e;obtain⟨ms,e1,rfl⟩:=xde.mp e;cases a;rw[zmm b e1]
  rfl
def bAny(al:Bool):List D->Store->Res D:=λxs au=>match xs with
 | [x]=>match (asL au x).bind asBools with
  | some bs=>.ok (.bl (if al then bs.all id else bs.any id)) au
  | none=>.stuck
 | _=>.stuck
def tyName(au:Store):D->Option String
 | .non=>some "NoneType"
 | .bl _=>some "bool"
 | .int _=>some "int"
 | .str _=>some "str"
 | .tup _=>some "tuple"
 | .lst _=>some "list"
 | .ref n=>match au[n]? with
  | some (.lst _)=>some "list"
  | some (.dT _)=>some "dict"
  | _=>none
 | _=>none
noncomputable def isTy(t T:String):Bool:=t==T||(t=="bool"&&T=="int")
def bIsinst:List D->Store->Res D:=λxs au=>match xs with
 | [x,.ty T]=>match tyName au x with
  | some t=>if["int","bool","str","tuple","list","dict"].contains T=true then .ok (.bl (isTy t T)) au else .stuck
  | none=>.stuck
 | _=>.stuck
theorem zwq{K:Fg} (rp:Rep K ρ au H) (a:At K ρ H d u)(e:tyName au d=some t):TyOf K H u (.type t)/\t∈["NoneType","bool","int","str","tuple","list","dict"]:=by
 cases d<;>try (cases e;done)
 ·cases e;cases a;exact⟨.non,by simp⟩
 ·cases e;cases a;exact⟨.bl _,by simp⟩
 ·cases e;cases a;exact⟨.int _,by simp⟩
 ·cases e;cases a;exact⟨.str _,by simp⟩
 ·unfold tyName at e;dsimp only at e;split at e
  ·rename_i h;cases e;obtain⟨p,rfl,hp,vs,q1,q2⟩:=zfi rp a h (by intro z;cases z);exact⟨.lst q1,by simp⟩
  ·rename_i h;cases e;obtain⟨p,rfl,hp,vs,q1,q2⟩:=zfi rp a h (by intro z;cases z);exact⟨.dT q1,by simp⟩
  ·cases e
 ·cases e;cases a with
  | tup h1 h2 h3=>exact⟨.tup h1,by simp⟩
 ·cases e;cases a with
  | lst h1 h2 h3=>exact⟨.lst h1,by simp⟩
theorem zbom{K:Fg}{T:String}(ht:t∈["NoneType","bool","int","str","tuple","list","dict"])(hT:T∈["int","bool","str","tuple","list","dict"]):W.kitOne K (.type t) (.type T)=some (isTy t T):=by
 simp only[xbn,xhq,xmq] at ht hT;rcases ht with rfl|rfl|rfl|rfl|rfl|rfl|rfl<;>rcases hT with rfl|rfl|rfl|rfl|rfl|rfl<;>rfl
theorem zqp{K:Fg}:CaD K bIsinst (λxs H Q=>∃x T t b,xs=[x,.ty T]/\TyOf K H x t/\W.kitOne K t (.type T)=some b/\Q (.bl b) H):=λρ H au xs us z st' Q rp aa e q=>by
 unfold bIsinst at e;split at e
 ·split at e
  ·rename_i h;split at e
   ·rename_i hT;cases e;obtain⟨u,v,rfl,a,b⟩:=aa.two;cases b;obtain⟨h1,h2⟩:=zwq rp a h;exact⟨_,_,_,_,rfl,h1,zbom h2 (by simpa using hT),q _ _ _ (.refl _ _) rp (.bl _)⟩
   ·cases e
  ·cases e
 ·cases e
def bTuple:List D->Store->Res D:=λxs au=>match xs with
 | [.tup ys]=>.ok (.tup ys) au
 | [x]=>match asL au x with
  | some ys=>.ok (.tup ys) au
  | none=>.stuck
 | _=>.stuck
theorem zol{K:Fg}:CaD K bTuple (λxs H Q=>∃p ys,xs=[.ref p]/\((SqL K H p ys/\∀l,H l=none->Q (.ref l) (upd H l (.tup ys)))\/(SqT K H p ys/\Q (.ref p) H))):=λρ H au xs us z st' Q rp aa e q=>by
 unfold bTuple at e;split at e
 ·cases e;obtain⟨u,rfl,a⟩:=aa.one;cases a with
  | tup h1 h2 h3=>exact⟨_,_,rfl,.inr ⟨SqT.of h1,q _ _ _ (.refl _ _) rp (.tup h1 h2 h3)⟩⟩
 ·split at e
  ·rename_i h;cases e;obtain⟨u,rfl,a⟩:=aa.one;obtain⟨p,vs,rfl,h1,h2⟩:=zfv rp a h;exact⟨_,_,rfl,.inl ⟨SqL.of h1,λl hl=>q _ _ _ (Ext.new hl _) (rp.new hl _) (.newT rp hl h2)⟩⟩
  ·cases e
 ·cases e
def bList:List D->Store->Res D:=λxs au=>match xs with
 | [x]=>match seqOf au x with
  | some ys=>.ok (.lst ys) au
  | none=>.stuck
 | _=>.stuck
noncomputable abbrev aM(ns:List Int):D:=.tup (ns.map .int)
abbrev aJ(l:List (List Int)):List D:=l.map aM
def insR(a:List Int):List (List Int)->List (List Int)
 | []=>[a]
 | b::r=>if HT.lexLt b a=true then b::insR a r else a::b::r
def sortR:List (List Int)->List (List Int)
 | []=>[]
 | a::r=>insR a (sortR r)
abbrev UpR(l:List (List Int)):Prop:=l.Pairwise λa b=>HT.lexLt b a=false
theorem zkh(a:List Int):∀l,(insR a l).Perm (a::l)
 | []=>.refl _
 | b::r=>by
  unfold insR;split
  ·exact(List.Perm.cons b (zkh a r)).trans (.swap a b r)
  ·exact .refl _
theorem zcb:∀l,(sortR l).Perm l
 | []=>.refl _
 | a::r=>(zkh a _).trans (.cons a (zcb r))
theorem znw(h1:HT.lexLt b a=false)(h2:HT.lexLt c b=false):HT.lexLt c a=false:=by
 cases h:HT.lexLt c a with
 | false=>rfl
 | true =>
  rcases Srt.zpn a b with z|z|z
  ·have:=Srt.zgv h z;rw[h2] at this;cases this
  ·subst z;rw[h2] at h;cases h
  ·rw[h1] at z;cases z
theorem zbao(a:List Int):∀l,UpR l->UpR (insR a l)
 | [],_=>xjx _ _
 | b::r,h=>by
  obtain⟨h1,h2⟩:=xgd.mp h;unfold insR;split
  ·rename_i c;refine xgd.mpr ⟨λx hx=>?_,zbao a r h2⟩;rcases xbn.mp ((zkh a r).mem_iff.mp hx) with rfl|hx
   ·exact Srt.zyd c
   ·exact h1 x hx
  ·rename_i c;have c':HT.lexLt b a=false:=by simpa using c
   refine xgd.mpr ⟨λx hx=>?_,h⟩;rcases xbn.mp hx with rfl|hx
   ·exact c'
   ·exact znw c' (h1 x hx)
theorem zmz:∀l,UpR (sortR l)
 | []=>.nil
 | a::r=>zbao a _ (zmz r)
theorem zow:∀{l m:List (List Int)},l.Perm m->UpR l->UpR m->l=m
 | [],m,p,_,_=>by rw[List.nil_perm.mp p]
 | a::l,[],p,_,_=>by cases List.perm_nil.mp p
 | a::l,b::m,p,h1,h2=>by
  obtain⟨p1,p2⟩:=xgd.mp h1;obtain⟨q1,q2⟩:=xgd.mp h2;have e:a=b:=by
   rcases xbn.mp (p.mem_iff.mp xbp) with z|z
   ·exact z
   ·rcases xbn.mp (p.mem_iff.mpr (xbp (a:=b) (l:=m))) with y|y
    ·exact y.symm
    ·have e1:=q1 a z;have e2:=p1 b y;rcases Srt.zpn a b with w|w|w
     ·rw[e1] at w;cases w
     ·exact w
     ·rw[e2] at w;cases w
  subst e;rw[zow (List.Perm.cons_inv p) p2 q2]
theorem zna{m:List (List Int)}(p:m.Perm l)(h:UpR m):m=sortR l:=zow (p.trans (zcb l).symm) h (zmz l)
theorem znb(l:List (List Int)):(sortR l).length=l.length:=(zcb l).length_eq
def asRows:List D->Option (List (List Int))
 | []=>some []
 | .tup ds::r=>(asInts ds).bind λns=>(asRows r).map (ns::·)
 | _::_=>none
theorem zqq{K:Fg} :∀{ds:List D} {vs:List V} {l:List (List Int)},AtAll K ρ H ds vs->asRows ds=some l ->
  ∃ps:List (Addr×List Int),vs=ps.map (λp=>V.ref p.1)/\ps.map (·.2)=l/\∀p∈ps,H p.1=some (.tup (p.2.map V.int))/\Out ρ p.1
 | _,_,_,.nil,e=>by cases e;exact⟨[],rfl,rfl,λ_ h=>nomatch h⟩
 | _,_,_,.cons (d:=d) a b,e=>by
  cases d<;>try (cases e;done)
  rw[asRows] at e;obtain⟨ns,e1,e⟩:=xeg.mp e;obtain⟨l,e2,rfl⟩:=xde.mp e;obtain⟨ps,h1,h2,h3⟩:=zqq b e2;cases a with
  | tup g1 g2 g3 =>
   rename_i ad ws;have ew:=zcp g3 e1;subst ew;refine⟨(ad,ns)::ps,by rw[h1];rfl,by rw[← h2];rfl,λp hp=>?_⟩;rcases xbn.mp hp with rfl|hp
   ·exact⟨g1,g2⟩
   ·exact h3 p hp
theorem zhq{K:Fg} :∀ns:List Int,AtAll K ρ H (ns.map .int) (ns.map V.int)
 | []=>.nil
 | n::ns=>.cons (.int n) (zhq ns)
theorem znf{K:Fg} :∀ps:List (Addr×List Int),(∀p∈ps,H p.1=some (.tup (p.2.map V.int))/\Out ρ p.1)->AtAll K ρ H (aJ (ps.map (·.2))) (ps.map λp=>V.ref p.1)
 | [],_=>.nil
 | p::ps,h=>.cons (.tup (h p xbp).1 (h p xbp).2 (zhq _)) (znf ps λq hq=>h q (xbo _ hq))
theorem zpj{K:Fg} (r:Rep K ρ au H) (hp:H p=some (.tup vs)):Out ρ p:=by
 refine⟨λz=>?_,λz=>?_⟩
 ·obtain⟨i,hi,e⟩:=xes z;obtain⟨x,_,q⟩:=r.has (n:=i) (a:=p) (by rw[xbe hi,e]);cases x with
  | lst xs=>obtain⟨_,e,_⟩:=q;rw[hp] at e;cases e
  | dT kvs=>obtain⟨_,e,_⟩:=q;rw[hp] at e;cases e
  | fT kvs=>obtain⟨_,_,e,_⟩:=q;rw[hp] at e;cases e
  | dI kvs=>obtain⟨_,e,_⟩:=q;rw[hp] at e;cases e
  | dead=>exact q
  | tab=>obtain⟨_,_,e,_⟩:=q;rw[hp] at e;cases e
 ·obtain⟨⟨u,hu⟩,_⟩:=r.gh p z;rw[hp] at hu;cases hu
noncomputable def valD(kvs:List (List Int×D)) (k:List Int):Option D:=(kvs.find? λkv=>decide (kv.1=k)).map (·.2)
noncomputable def putD(kvs:List (List Int×D)) (k:List Int) (v:D):List (List Int×D) :=
 if(kvs.any λkv=>decide (kv.1=k))=true then kvs.map (λkv=>if kv.1=k then(kv.1,v) else kv) else kvs++[(k,v)]
noncomputable def dropD(kvs:List (List Int×D)) (k:List Int):List (List Int×D):=kvs.filter λkv=>decide (kv.1≠k)
theorem zps{a b:List Int}:a.map (Sum.inl:Int->Key)=b.map Sum.inl↔a=b:=by
 constructor
 ·intro h;exact(List.map_inj_right (f:=(Sum.inl:Int->Key)) λx y e=>Sum.inl.inj e).mp h
 ·rintro rfl;rfl
theorem KvAt.val{K:Fg}(h:KvAt K ρ H kvs vs)(k:List Int):match valD kvs k with
  | some d=>∃v,valV vs (k.map Sum.inl)=some v/\At K ρ H d v
  | none=>valV vs (k.map Sum.inl)=none:=by
 induction h with
 | nil=>rfl
 | @cons p q ps qs h t ih =>
  obtain⟨h1,h2⟩:=h;by_cases e:p.1=k
  ·have e1:valD (p::ps) k=some p.2:=by simp[valD,xdt,e]
   rw[e1];exact⟨q.2,zgz (by rw[h1,e]),h2⟩
  ·have e1:valD (p::ps) k=valD ps k:=by simp[valD,xdt,e]
   have e2:valV (q::qs) (k.map Sum.inl)=valV qs (k.map Sum.inl):=zha (by rw[h1,zps];exact e);rw[e1,e2];exact ih
theorem KvAt.keys{K:Fg}(h:KvAt K ρ H kvs vs):vs.map (·.1)=(kvs.map (·.1)).map λns=>ns.map Sum.inl:=by
 induction h with
 | nil=>rfl
 | @cons p q ps qs h t ih=>rw[xca,xca,xca,ih,h.1]
theorem KvAt.put{K:Fg}(h:KvAt K ρ H kvs vs)(k:List Int) (a:At K ρ H d v):KvAt K ρ H (putD kvs k d) (putK vs (k.map Sum.inl) v):=by
 have any:∀{kvs:List (List Int×D)} {vs:List (List Key×V)},KvAt K ρ H kvs vs->(kvs.any λkv=>decide (kv.1=k))=(vs.any λkv=>decide (kv.1=k.map Sum.inl)):=λh=>by
  induction h with
  | nil=>rfl
  | @cons p q ps qs h t ih =>
   rw[xhj,xhj,ih,h.1]
   congr 1
   simp only[zps]
 unfold putD putK;rw[any h];split
 ·rename_i hh;clear hh any
  induction h with
  | nil=>exact .nil
  | @cons p q ps qs h t ih =>
   refine .cons ?_ ih;obtain⟨h1,h2⟩:=h;dsimp only;by_cases e:p.1=k
   ·rw[if_pos e,if_pos (by rw[h1,e])];exact⟨h1,a⟩
   ·rw[if_neg e,if_neg (by rw[h1,zps];exact e)];exact⟨h1,h2⟩
 ·have app:∀{kvs:List (List Int×D)} {vs:List (List Key×V)},KvAt K ρ H kvs vs->KvAt K ρ H (kvs++[(k,d)]) (vs++[(k.map Sum.inl,v)]):=λh=>by
   induction h with
   | nil=>exact .cons ⟨rfl,a⟩ .nil
   | cons h t ih=>exact .cons h ih
  exact app h
theorem KvAt.drop{K:Fg}(h:KvAt K ρ H kvs vs)(k:List Int):KvAt K ρ H (dropD kvs k) (dropK vs (k.map Sum.inl)):=by
 unfold dropD dropK
 induction h with
 | nil=>exact .nil
 | @cons p q ps qs h t ih =>
  by_cases e:p.1=k
  ·rw[xcz (by simp[e]),xcz (by simp[h.1,e])];exact ih
  ·rw[xcr (by simp[e]),xcr (by simp[h.1,zps,e])];exact .cons h ih
theorem KvAt.length{K:Fg}(h:KvAt K ρ H kvs vs):kvs.length=vs.length:=xhx h
def pairsOf(au:Store):D->Option (List (List Int×D))
 | .ref n=>match au[n]? with
  | some (.dT kvs)=>some kvs
  | some (.fT kvs)=>some kvs
  | _=>none
 | _=>none
theorem zni{K:Fg} (rp:Rep K ρ au H) (a:At K ρ H d u)(e:pairsOf au d=some kvs):∃p vs,u=.ref p/\Rd H p (.dT vs)/\KvAt K ρ H kvs vs:=by
 unfold pairsOf at e;split at e
 ·split at e
  ·rename_i h;cases e;obtain⟨p,rfl,hp,vs,q1,q2⟩:=zfi rp a h (by intro z;cases z);exact⟨p,vs,rfl,.inl q1,q2⟩
  ·rename_i h;cases e;obtain⟨p,rfl,hp,vs,ob,q1,q2⟩:=zfi rp a h (by intro z;cases z);exact⟨p,vs,rfl,.inr ⟨ob,q1⟩,q2⟩
  ·cases e
 ·cases e
def keyOf:D->Option (List Int)
 | .tup ds=>asInts ds
 | _=>none
theorem zbdr{K:Fg} (a:At K ρ H d u)(e:keyOf d=some k):∃p,u=.ref p/\H p=some (.tup ((k.map (Sum.inl:Int->Key)).map kV)):=by
 unfold keyOf at e;split at e
 ·cases a with
  | tup h1 h2 h3 =>
   have:=zcp h3 e;subst this;exact⟨_,rfl,by rw[zbam];exact h1⟩
 ·cases e
theorem zva{K:Fg} (rp:Rep K ρ au H) (a:At K ρ H d u)(b:At K ρ H y w)(e:pairsOf au d=some kvs)(e2:keyOf y=some k) :
  ∃p o,u=.ref p/\DGet H p w o/\match valD kvs k with
   | some z=>∃v,o=some v/\At K ρ H z v
   | none=>o=none:=by
 obtain⟨p,vs,rfl,h1,h2⟩:=zni rp a e;obtain⟨q,rfl,h3⟩:=zbdr b e2;refine⟨p,valV vs (k.map Sum.inl),rfl,.inr ⟨vs,_,q,h1,rfl,h3,rfl⟩,?_⟩;have:=h2.val k;cases hv:valD kvs k with
 | none=>rw[hv] at this;exact this
 | some z=>rw[hv] at this;exact this
def oDIn(neg:Bool) (y x:D) (au:Store):Res D:=match keyOf y,pairsOf au x with
 | some k,some kvs=>.ok (.bl (if neg then !(valD kvs k).isSome else(valD kvs k).isSome)) au
 | _,_=>.stuck
def oDGet(x y:D) (au:Store):Res D:=match pairsOf au x,keyOf y with
 | some kvs,some k=>match valD kvs k with
  | some v=>.ok v au
  | none=>.stuck
 | _,_=>.stuck
def eDGet2(f g h:SE):SE:=λσ au=>(f σ au).bind λx st1=>match pairsOf st1 x with
 | some _=>(g σ st1).bind λy st2=>(h σ st2).bind λz st3=>match pairsOf st3 x,keyOf y with
  | some kvs,some k=>.ok ((valD kvs k).getD z) st3
  | _,_=>.stuck
 | none=>.stuck
def eDPop(f g:SE):SE:=λσ au=>(f σ au).bind λx st1=>match pairsOf st1 x with
 | some _=>(g σ st1).bind λy st2=>match x,keyOf y with
  | .ref n,some k=>match st2[n]? with
   | some (.dT kvs)=>match valD kvs k with
    | some v=>.ok v (st2.set n (.dT (dropD kvs k)))
    | none=>.stuck
   | _=>.stuck
  | _,_=>.stuck
 | none=>.stuck
def sDPut(f g h:SE):SS:=λσ au=>(h σ au).bind λv st1=>(f σ st1).bind λx st2=>(g σ st2).bind λy st3=>match x,keyOf y with
 | .ref n,some k=>match st3[n]? with
  | some (.dT kvs)=>if kvs.length<sizeLine then .ok (.nx σ) (st3.set n (.dT (putD kvs k v))) else .stuck
  | _=>.stuck
 | _,_=>.stuck
def eDNew:SE:=λ_ au=>.ok (.ref au.length) (au++[.dT []])
theorem zbjh{K:Fg} (rp:Rep K ρ au H) (a:At K ρ H d u)(e:pairsOf au d=some kvs):∃p,u=.ref p/\IsD H p:=by
 obtain⟨p,vs,rfl,h1,_⟩:=zni rp a e;exact⟨p,rfl,.inr ⟨vs,h1⟩⟩
theorem zbqh:DE X (.Dict [] [] pos) eDNew:=zdt zbct λτ H Q hq0 p hp=>by
 obtain⟨ρ,σ,au,v,st',a,rp,e,q⟩:=hq0;cases e;obtain⟨E,R⟩:=rp.alloc hp (x:=.dT []) (o:=.dT []) λE=>⟨[],zh,.nil⟩
 exact q _ _ _ E R (.last rp.len.symm)
theorem zbsq{X:Cx}(hu:X.A.units+1<cLine)(hi:DE X i g)(ho:DE X o f):PC X .In i o (tD X.K (aU (oDIn false) g f)):=λaW s σ H Q I hq=>by
 refine zbia hu hi ho aW s σ H Q I ?_;obtain⟨ρ,σ',au,v,st',a,rp,e,q⟩:=hq;obtain⟨x,st1,e1,e⟩:=za e;obtain⟨y,st2,e2,e⟩:=za e;refine⟨ρ,σ',au,x,st1,a,rp,e1,λρ1 H1 u x1 rp1 a1=>?_⟩;refine⟨ρ1,σ',st1,y,st2,a.ext x1,rp1,e2,λρ2 H2 w x2 rp2 a2=>?_⟩;unfold oDIn at e;split at e
 ·rename_i kk vv h1 h2;cases e;obtain⟨p,oo,rfl,g1,g2⟩:=zva rp2 a2 (a1.ext x2) h2 h1;refine⟨p,oo,rfl,g1,?_⟩;have:oo.isSome=(valD vv kk).isSome:=by
   revert g2;split
   ·rename_i hv;rintro⟨v,rfl,_⟩;rw[hv];rfl
   ·rename_i hv;rintro rfl;rw[hv];rfl
  rw[this];exact q _ _ _ (x1.trans x2) rp2 (.bl _)
 ·cases e
theorem zbti(h:PC X op a b (tD X.K t))(h1:behindInMarks op b=false:=by first|exact nobehind _ (by decide) (by decide)|rfl):DT X (.Compare a [op] [b] pos) (eB t):=zbmb (zbnf h h1) λτ H Q hh=>eB_t _ _ _ hh
theorem zbqi{X:Cx}(hu:X.A.units+1<cLine)(ho:DE X o f)(hi:DE X i g)(hs:NoSl i):DE X (.Subscript o i pos) (aU oDGet f g):=zdt (zbab hu ho hi hs) λτ H Q hq0=>by
 obtain⟨ρ,σ,au,v,st',a,rp,e,q⟩:=hq0;obtain⟨x,st1,e1,e⟩:=za e;obtain⟨y,st2,e2,e⟩:=za e;refine⟨ρ,σ,au,x,st1,a,rp,e1,λρ1 H1 u x1 rp1 a1=>?_⟩;refine⟨ρ1,σ,st1,y,st2,a.ext x1,rp1,e2,λρ2 H2 w x2 rp2 a2=>?_⟩;unfold oDGet at e;split at e
 ·rename_i h1 h2;split at e
  ·rename_i z hv;cases e;obtain⟨p,oo,rfl,g1,g2⟩:=zva rp2 (a1.ext x2) a2 h1 h2;rw[hv] at g2;obtain⟨vv,rfl,g3⟩:=g2;exact⟨p,vv,rfl,g1,q _ _ _ (x1.trans x2) rp2 g3⟩
  ·cases e
 ·cases e
theorem zbla{X:Cx}(hu:X.A.units + 1<cLine)(ho:DE X o f)(he:DE X e g)(hf:DE X f' h)(m:M2 X o "get" apos e f' cpos):DE X (.Call (.Attribute o "get" apos) [e,f'] [] cpos) (eDGet2 f g h):=zdt (zbcv hu ho he hf m) λτ H Q hq0=>by
 obtain⟨ρ,σ,au,v,st',a,rp,e,q⟩:=hq0;obtain⟨x,st1,e1,e⟩:=za e;refine⟨ρ,σ,au,x,st1,a,rp,e1,λρ1 H1 u x1 rp1 a1=>?_⟩;split at e
 ·rename_i h0;obtain⟨p,rfl,hd⟩:=zbjh rp1 a1 h0;obtain⟨y,st2,e2,e⟩:=za e;obtain⟨z,st3,e3,e⟩:=za e;refine⟨p,rfl,hd,?_⟩;refine⟨ρ1,σ,st1,y,st2,a.ext x1,rp1,e2,λρ2 H2 w x2 rp2 a2=>?_⟩;refine⟨ρ2,σ,st2,z,st3,a.ext (x1.trans x2),rp2,e3,λρ3 H3 t x3 rp3 a3=>?_⟩;split at e
  ·rename_i h1 h2;cases e;obtain⟨p',oo,ep,g1,g2⟩:=zva rp3 (a1.ext (x2.trans x3)) (a2.ext x3) h1 h2;cases ep;refine⟨oo,g1,q _ _ _ (x1.trans (x2.trans x3)) rp3 ?_⟩;revert g2;split
   ·rename_i hv;rintro⟨vv,rfl,g3⟩;rw[hv];exact g3
   ·rename_i hv;rintro rfl;rw[hv];exact a3
  ·cases e
 ·cases e
theorem zbqg{X:Cx}(hu:X.A.units + 1<cLine)(ho:DE X o f)(he:DE X e g)(m:M1 X o "pop" apos e cpos):DE X (.Call (.Attribute o "pop" apos) [e] [] cpos) (eDPop f g):=zdt (zbcs hu ho he m) λτ H Q hq0=>by
 obtain⟨ρ,σ,au,v,st',a,rp,e,q⟩:=hq0;obtain⟨x,st1,e1,e⟩:=za e;refine⟨ρ,σ,au,x,st1,a,rp,e1,λρ1 H1 u x1 rp1 a1=>?_⟩;split at e
 ·rename_i h0;obtain⟨p,rfl,hd⟩:=zbjh rp1 a1 h0;obtain⟨y,st2,e2,e⟩:=za e;refine⟨p,rfl,hd,?_⟩;refine⟨ρ1,σ,st1,y,st2,a.ext x1,rp1,e2,λρ2 H2 w x2 rp2 a2=>?_⟩;split at e
  ·rename_i n k hk _;split at e
   ·rename_i kvs hn;split at e
    ·rename_i z hv;cases e;obtain⟨p',ep,hp,vs,g1,g2⟩:=zfi rp2 (a1.ext x2) hn (by intro z;cases z);cases ep;obtain⟨b,rfl,g3⟩:=zbdr a2 hk;have g4:=g2.val k;rw[hv] at g4;obtain⟨vv,g5,g6⟩:=g4;have E:Ext ρ2 H2 ρ2 (upd H2 p (.dT (dropK vs (k.map Sum.inl)))):=Ext.wr hp (zjb g1) _;exact⟨vs,_,vv,b,g1,rfl,g3,g5,q _ _ _ ((x1.trans x2).trans E) (rp2.wr hp (zjb g1) ⟨_,zh,(g2.drop k).ext E⟩) (g6.ext E)⟩
    ·cases e
   ·cases e
  ·cases e
 ·cases e
theorem zbkh{X:Cx}{pos:Pos}(hu:X.A.units+1<cLine)(ho:DE X o f)(hi:DE X i g)(hv:DE X value h)(hs:swapsWith value (some (.Subscript o i pos')) pos.line X.env=pure false) :
  DSt X (.Assign [.Subscript o i pos'] value pos) (sDPut f g h):=zmq (zzz hu ho hi hv hs) λE τ H hq0=>by
 obtain⟨ρ,σ,au,fl,st',a,rp,e,q⟩:=hq0;obtain⟨v,st1,e1,e⟩:=za e;obtain⟨x,st2,e2,e⟩:=za e;obtain⟨y,st3,e3,e⟩:=za e;refine⟨ρ,σ,au,v,st1,a,rp,e1,λρ1 H1 u x1 rp1 a1=>?_⟩;refine⟨ρ1,σ,st1,x,st2,a.ext x1,rp1,e2,λρ2 H2 w x2 rp2 a2=>?_⟩;refine⟨ρ2,σ,st2,y,st3,a.ext (x1.trans x2),rp2,e3,λρ3 H3 t x3 rp3 a3=>?_⟩;split at e
 ·rename_i n k hk _;split at e
  ·rename_i kvs hn;split at e
   ·rename_i hl;cases e;obtain⟨p,rfl,hp,vs,g1,g2⟩:=zfi rp3 (a2.ext x3) hn (by intro z;cases z);obtain⟨b,rfl,g3⟩:=zbdr a3 hk;have E:Ext ρ3 H3 ρ3 (upd H3 p (.dT (putK vs (k.map Sum.inl) u))):=Ext.wr hp (zjb g1) _;refine⟨p,_,rfl,DPut.t g1 g3 (by rw[← g2.length];exact hl),?_⟩;exact q _ _ _ ((x1.trans (x2.trans x3)).trans E) (rp3.wr hp (zjb g1) ⟨_,zh,(g2.put k (a1.ext (x2.trans x3))).ext E⟩) (a.ext ((x1.trans (x2.trans x3)).trans E))
   ·cases e
  ·cases e
 ·cases e
def bSorted:List D->Store->Res D:=λxs au=>match xs with
 | [x]=>match (asL au x).bind asRows with
  | some l=>if l.length<=1000000 then .ok (.lst (aJ (sortR l))) au else .stuck
  | none=>match pairsOf au x with
   | some kvs=>if kvs.length<=1000000 then .ok (.lst (aJ (sortR (kvs.map (·.1))))) au else .stuck
   | none=>.stuck
 | _=>.stuck
theorem zqo{K:Fg}:CaD K bSorted (λxs H Q=>rSortedAL K xs H Q\/rSortedDAL xs H Q):=λρ H au xs us z st' Q rp aa e q=>by
 unfold bSorted at e;split at e
 ·obtain⟨u,rfl,a⟩:=aa.one;split at e
  ·rename_i l hl;obtain⟨ys,h0,hl⟩:=xeg.mp hl;split at e
   ·rename_i few;cases e;obtain⟨p,vs,rfl,h1,h2⟩:=zfv rp a h0;obtain⟨ps,rfl,rfl,h3⟩:=zqq h2 hl;rw[xbc] at few;refine .inl ⟨p,ps,rfl,SqL.of h1,few,λx hx=>SqT.of (h3 x hx).1,λt qs ht hp hs=>?_⟩;have e2:qs.map (·.2)=sortR (ps.map (·.2)):=zna (hp.map _) hs;refine q _ _ _ (Ext.new ht _) (rp.new ht _) (.newL rp ht ?_);rw[← e2];exact znf qs λx hx=>h3 x (hp.mem_iff.mp hx)
   ·cases e
  ·split at e
   ·rename_i kvs hk;split at e
    ·rename_i few;cases e;obtain⟨p,vs,rfl,h1,h2⟩:=zni rp a hk;refine .inr ⟨p,vs,kvs.map (·.1),rfl,h1,h2.keys,by rw[xbc];exact few,λt qs ht hp hs hq=>?_⟩;have e2:qs.map (·.2)=sortR (kvs.map (·.1)):=zna hp hs;refine q _ _ _ (Ext.new ht _) (rp.new ht _) (.newL rp ht ?_);rw[← e2];exact znf qs λx hx=>⟨hq x hx,zpj rp (hq x hx)⟩
    ·cases e
   ·cases e
 ·cases e
theorem zhy{X:Cx}(hc:X.calm=true)(hu:X.A.units + 64<cLine):CallR X (.builtin "sorted") (λxs H Q=>rSortedAL X.K xs H Q\/rSortedDAL xs H Q):=(zmh hu).or (zkr hc hu)
def eAppend(f:SE) (g:SA):SE:=λσ au=>(f σ au).bind λx st1=>match x,asL st1 x with
 | .ref n,some _=>(g σ st1).bind λys st2=>match ys,st2[n]? with
  | [y],some (.lst xs)=>if xs.length<sizeLine then .ok .non (st2.set n (.lst (xs++[y]))) else .stuck
  | _,_=>.stuck
 | _,_=>.stuck
def eExtend(f:SE) (g:SA):SE:=λσ au=>(f σ au).bind λx st1=>match x,asL st1 x with
 | .ref n,some _=>(g σ st1).bind λys st2=>match ys,st2[n]? with
  | [y],some (.lst xs)=>match asL st2 y with
   | some zs=>if xs.length+zs.length<=sizeLine then .ok .non (st2.set n (.lst (xs++zs))) else .stuck
   | none=>.stuck
  | _,_=>.stuck
 | _,_=>.stuck
theorem zbfa{apos:Pos}(ho:DE X o f)(ha:DA X (e::es) ga)(hbase:attributeBase o "append" X.env (eval o X.env)=eval o X.env:=by rfl)
  (hfew:((backTo cpos (starEach (e::es) X.env)).all (λx=>!x.1)&&(backToKw cpos (keywordEach [] X.env)).all (λx=>x.1.isSome)
   && decide ((e::es).length+([]:List Keyword).length+(if([]:List Keyword).isEmpty then 0 else 1)<30))=true:=by rfl)
  (hline:(apos.endLine==cpos.line)=true:=by rfl)(hs:starEach (e::es) X.env=(false,eval e X.env)::starEach es X.env:=by rfl)(hplain:(backTo cpos (starEach es X.env)).any (·.1)=false:=by rfl) :
  DE X (.Call (.Attribute o "append" apos) (e::es) [] cpos) (eAppend f ga):=zdt (zbmc xhw F.slot_list_append F.type_list_append zpl ho ha hbase hfew hline hs hplain) λτ H Q hq0=>by
 obtain⟨ρ,σ,au,v,st',a,rp,e,q⟩:=hq0;obtain⟨x,st1,e1,e⟩:=za e;refine⟨ρ,σ,au,x,st1,a,rp,e1,λρ1 H1 u x1 rp1 a1=>?_⟩;split at e
 ·rename_i n _ hL;obtain⟨ys,st2,e2,e⟩:=za e;obtain⟨p,vs,rfl,g1,g2⟩:=zfv rp1 a1 hL;refine⟨.inl ⟨rfl,_,SqL.of g1⟩,ρ1,σ,st1,ys,st2,a.ext x1,rp1,e2,λρ2 H2 ws x2 rp2 a2=>?_⟩;split at e
  ·rename_i y xs hn;split at e
   ·rename_i hl;cases e;obtain⟨w,rfl,a3⟩:=a2.one;obtain⟨p',ep,hp,vs2,k1,k2⟩:=zfi rp2 (a1.ext x2) hn (by intro z;cases z);cases ep;have E:Ext ρ2 H2 ρ2 (upd H2 p (.lst (vs2++[w]))):=Ext.wr hp (zgf k1) _;exact⟨p,vs2,w,rfl,rfl,k1,by rw[k2.length];exact hl,q _ _ _ ((x1.trans x2).trans E) (rp2.wr hp (zgf k1) ⟨_,zh,(k2.append (.cons a3 .nil)).ext E⟩) .non⟩
   ·cases e
  ·cases e
 ·cases e
theorem zbev{apos:Pos}(ho:DE X o f)(ha:DA X (e::es) ga)(hbase:attributeBase o "extend" X.env (eval o X.env)=eval o X.env:=by rfl)
  (hfew:((backTo cpos (starEach (e::es) X.env)).all (λx=>!x.1)&&(backToKw cpos (keywordEach [] X.env)).all (λx=>x.1.isSome)
   && decide ((e::es).length+([]:List Keyword).length+(if([]:List Keyword).isEmpty then 0 else 1)<30))=true:=by rfl)
  (hline:(apos.endLine==cpos.line)=true:=by rfl)(hs:starEach (e::es) X.env=(false,eval e X.env)::starEach es X.env:=by rfl)(hplain:(backTo cpos (starEach es X.env)).any (·.1)=false:=by rfl) :
  DE X (.Call (.Attribute o "extend" apos) (e::es) [] cpos) (eExtend f ga):=zdt (zbmc xhw F.slot_list_extend F.type_list_extend zxy ho ha hbase hfew hline hs hplain) λτ H Q hq0=>by
 obtain⟨ρ,σ,au,v,st',a,rp,e,q⟩:=hq0;obtain⟨x,st1,e1,e⟩:=za e;refine⟨ρ,σ,au,x,st1,a,rp,e1,λρ1 H1 u x1 rp1 a1=>?_⟩;split at e
 ·rename_i n _ hL;obtain⟨ys,st2,e2,e⟩:=za e;obtain⟨p,vs,rfl,g1,g2⟩:=zfv rp1 a1 hL;refine⟨.inl ⟨rfl,_,SqL.of g1⟩,ρ1,σ,st1,ys,st2,a.ext x1,rp1,e2,λρ2 H2 ws x2 rp2 a2=>?_⟩;split at e
  ·rename_i y xs hn;split at e
   ·rename_i zs hz;split at e
    ·rename_i hl;cases e;obtain⟨w,rfl,a3⟩:=a2.one;obtain⟨p',ep,hp,vs2,k1,k2⟩:=zfi rp2 (a1.ext x2) hn (by intro z;cases z);cases ep;obtain⟨b,ws2,rfl,m1,m2⟩:=zfv rp2 a3 hz;have E:Ext ρ2 H2 ρ2 (upd H2 p (.lst (vs2++ws2))):=Ext.wr hp (zgf k1) _;exact⟨p,b,vs2,ws2,rfl,rfl,k1,m1,by rw[k2.length,m2.length];exact hl,q _ _ _ ((x1.trans x2).trans E) (rp2.wr hp (zgf k1) ⟨_,zh,(k2.append m2).ext E⟩) .non⟩
    ·cases e
   ·cases e
  ·cases e
 ·cases e
def eFz(f:SE):SE:=λσ au=>(f σ au).bind λx st1=>match x with
 | .ref n=>match st1[n]? with
  | some (.lst xs)=>.ok (.lst xs) (st1.set n .dead)
  | _=>.stuck
 | _=>.stuck
theorem d_fz(ho:DE X o f):DE X o (eFz f):=zdt ho λτ H Q hq0=>by
 obtain⟨ρ,σ,au,v,st',a,rp,e,q⟩:=hq0;obtain⟨x,st1,e1,e⟩:=za e;refine⟨ρ,σ,au,x,st1,a,rp,e1,λρ1 H1 u x1 rp1 a1=>?_⟩;split at e
 ·rename_i n;split at e
  ·rename_i xs hn;cases e;obtain⟨p,rfl,hp,vs2,k1,k2⟩:=zfi rp1 a1 hn (by intro z;cases z);have hlen:=(xbj.mp hp).1;obtain⟨E,R⟩:=rp1.kill hlen;refine q _ _ _ (x1.trans E) R (.lst k1 ⟨λz=>?_,λz=>(rp1.gh p z).2 (xcg hp)⟩ (k2.ext E));obtain⟨i,hi,e2⟩:=xes z;have e3:(ρ1.m.set n none)[i]?=some (some p):=by rw[xbe hi,e2]
   by_cases hin:i=n
   ·subst hin;rw[xel hlen] at e3;simp at e3
   ·rw[xcu (xep hin)] at e3;exact hin (rp1.inj i n p e3 hp)
  ·cases e
 ·cases e
def sNx:SS:=λσ au=>.ok (.nx σ) au
def sBrk:SS:=λσ au=>.ok (.brk σ) au
def sCt:SS:=λσ au=>.ok (.ct σ) au
def sRet(f:SE):SS:=λσ au=>(f σ au).bind λv st1=>.ok (.ret v) st1
def sRetN:SS:=λ_ au=>.ok (.ret .non) au
def sDrop(f:SE):SS:=λσ au=>(f σ au).bind λ_ st1=>.ok (.nx σ) st1
def aF(i:Nat) (f:SE):SS:=λσ au=>(f σ au).bind λv st1=>.ok (.nx (σ.set i (some v))) st1
def aD(s t:SS):SS:=λσ au=>match s σ au with
 | .ok (.nx σ1) st1=>t σ1 st1
 | r=>r
def sIf(c:ST) (s t:SS):SS:=λσ au=>(c σ au).bind λb st1=>if b=true then s σ st1 else t σ st1
def sAug(i:Nat) (g:D->D->Store->Res D) (f:SE):SS:=λσ au=>match σ[i]? with
 | some (some x)=>(f σ au).bind λy st1=>(g x y st1).bind λz st2=>.ok (.nx (σ.set i (some z))) st2
 | _=>.stuck
def sSetIx(f g h:SE):SS:=λσ au=>(h σ au).bind λv st1=>(f σ st1).bind λx st2=>(g σ st2).bind λy st3=>match x,y with
 | .ref n,.int k=>match st3[n]? with
  | some (.lst xs)=>match ixN xs.length k with
   | some j=>.ok (.nx σ) (st3.set n (.lst (xs.set j v)))
   | none=>.stuck
  | _=>.stuck
 | _,_=>.stuck
theorem zbpt:DSs X [] sNx:=ztc zbhf λE τ H hq0=>by
 obtain⟨ρ,σ,au,fl,st',a,rp,e,q⟩:=hq0;cases e;exact q _ _ _ (.refl _ _) rp a
theorem zbeo:DSt X (.Break pos) sBrk:=zmq zbcl λE τ H hq0=>by
 obtain⟨ρ,σ,au,fl,st',a,rp,e,q⟩:=hq0;cases e;exact q _ _ _ (.refl _ _) rp a
theorem zbpr(he:DE X e f):DSt X (.Return (some e) pos) (sRet f):=zmq (zbhi he) λE τ H hq0=>by
 obtain⟨ρ,σ,au,fl,st',a,rp,e,q⟩:=hq0;obtain⟨x,st1,e1,e⟩:=za e;cases e;exact⟨ρ,σ,au,x,_,a,rp,e1,λρ1 H1 u x1 rp1 a1=>q _ _ _ x1 rp1 a1⟩
theorem zbkg{pos:Pos}(he:DE X e f)(hs:swapsWith e none pos.line X.env=pure false:=by rfl):DSt X (.Expr e pos) (sDrop f):=zmq (zzy he hs) λE τ H hq0=>by
 obtain⟨ρ,σ,au,fl,st',a,rp,e,q⟩:=hq0;obtain⟨x,st1,e1,e⟩:=za e;cases e;exact⟨ρ,σ,au,x,_,a,rp,e1,λρ1 H1 u x1 rp1 a1=>q _ _ _ x1 rp1 (a.ext x1)⟩
theorem zbsh{K:Fg} :∀E τ H,tDS K (aF i f) E τ H->tAsg (tD K f) (gName i) E τ H:=λE τ H hq0=>by
 obtain⟨ρ,σ,au,fl,st',a,rp,e,q⟩:=hq0;obtain⟨x,st1,e1,e⟩:=za e;cases e;exact⟨ρ,σ,au,x,_,a,rp,e1,λρ1 H1 u x1 rp1 a1=>q _ _ _ x1 rp1 ((a.ext x1).set a1 i)⟩
theorem zbpq{X:Cx}{pos:Pos} (hN:X.N.Nodup)(hi:X.N[i]?=some x)(hx:L2.Loc X.env.scope x)(he:DE X e f)(hs:swapsWith e (some (.Name x pos')) pos.line X.env=pure false:=by rfl)(hf:X.fn x=true\/X.env.scope.names.lookup x=some .local:=by first|exact .inl rfl|exact .inr rfl|assumption) :
 DSt X (.Assign [.Name x pos'] e pos) (aF i f):=zmq (zbhh hN hi hx he hs hf) zbsh
theorem zbps(h1:DSt X sm s):DSs X [sm] s:=ztd h1
section
variable {X:Cx}{e:Expr}{sm:Stmt}{rest:List Stmt}{s:SS}{t:SS}
theorem zbki(h1:DSt X sm s)(h2:DSs X rest t):DSs X (sm::rest) (aD s t):=ztc (znh h1 h2) λE τ H hq0=>by
 obtain⟨ρ,σ,au,fl,st',a,rp,e,q⟩:=hq0;unfold aD at e;split at e
 ·rename_i σ1 st1 e1;exact⟨ρ,σ,au,_,st1,a,rp,e1,λρ1 H1 τ1 x1 rp1 a1=>⟨ρ1,σ1,st1,fl,st',a1,rp1,e,q.ext x1⟩⟩
 ·rename_i hne;refine⟨ρ,σ,au,fl,st',a,rp,e,?_⟩;cases fl with
  | nx σ'=>exact absurd e (hne σ' st')
  | brk σ'=>exact q
  | ct σ'=>exact q
  | ret v=>exact q
end
theorem zbtj(hc:DT X c b)(ha:DSs X a' s)(hb:DSs X b' t):DSt X (.If c a' b' pos) (sIf b s t):=zmq (zbro hc ha hb) λE τ H hq0=>by
 obtain⟨ρ,σ,au,fl,st',a,rp,e,q⟩:=hq0;obtain⟨x,st1,e1,e⟩:=za e;refine⟨ρ,σ,au,x,st1,a,rp,e1,λρ1 H1 x1 rp1=>?_⟩;cases x with
 | true=>exact iteT ⟨ρ1,σ,st1,fl,st',a.ext x1,rp1,e,q.ext x1⟩
 | false=>exact iteF ⟨ρ1,σ,st1,fl,st',a.ext x1,rp1,e,q.ext x1⟩
def IpD(K:Fg) (g:D->D->Store->Res D) (r:TIp):Prop :=
 ∀ρ H au x y u v z st' (Q:VK),Rep K ρ au H->At K ρ H x u->At K ρ H y v->g x y au=.ok z st'->(∀ρ' H' w,Ext ρ H ρ' H'->Rep K ρ' st' H'->At K ρ' H' z w->Q w H')->r u v H Q
theorem zbpv{X:Cx} (hN:X.N.Nodup)(hi:X.N[i]?=some x)(hx:L2.Loc X.env.scope x)(he:DE X e f)(ho:PIp X op ti)(hr:IpD X.K g ti)(hf:X.fn x=true\/X.env.scope.names.lookup x=some .local:=by first|exact .inl rfl|exact .inr rfl|assumption) :
  DSt X (.AugAssign (.Name x pos') op e pos) (sAug i g f):=zmq (zbni hN hi hx he ho hf) λE τ H hq0=>by
 obtain⟨ρ,σ,au,fl,st',a,rp,e,q⟩:=hq0;unfold sAug at e;split at e
 ·rename_i d hd;obtain⟨y,st1,e1,e⟩:=za e;obtain⟨z,st2,e2,e⟩:=za e;cases e;obtain⟨u,hu,a0⟩:=a.get hd;refine⟨u,hu,ρ,σ,au,y,st1,a,rp,e1,λρ1 H1 w x1 rp1 a1=>?_⟩;exact hr ρ1 H1 st1 d y u w z st' _ rp1 (a0.ext x1) a1 e2 λρ2 H2 zz x2 rp2 a2=>q _ _ _ (x1.trans x2) rp2 ((a.ext (x1.trans x2)).set a2 i)
 ·cases e
theorem ip_D{K:Fg} :IpD K (oI (λ_ _=>True) λi j=>.int (p i j)) (ipI p):=λρ H au x y u v z st' Q rp a b e q=>by
 unfold oI at e;split at e
 ·cases a;cases b;rw[if_pos True.intro] at e;cases e;exact⟨_,_,rfl,rfl,q _ _ _ (.refl _ _) rp (.int _)⟩
 ·cases e
theorem zbel{pos:Pos}(he:DE X value h)(ho:DE X o f)(hi:DE X i g)(ha:∀v,assign (.Subscript o i pos') X.env v=(do
   let ov ← holding [v] (eval o X.env)
   let iv ← holding [v,ov] (eval i X.env)
   standAt pos'
   holding [v,ov,iv] (setItem ov iv v)
   release [v,ov,iv] []):=by intro _;rfl)
  (hs:swapsWithSole [.Subscript o i pos'] value pos.line X.env=pure false:=by rfl)(hw:swappedStores [.Subscript o i pos'] value X.env=pure none:=by rfl)
  (h1:(assignEach [.Subscript o i pos'] X.env).map (·.2)=[assign (.Subscript o i pos') X.env]:=by rfl):DSt X (.Assign [.Subscript o i pos'] value pos) (sSetIx f g h) :=
 zmq (zbnj he (zbnm ho hi zbcb ha) hs hw h1) λE τ H hq0=>by
 obtain⟨ρ,σ,au,fl,st',a,rp,e,q⟩:=hq0;obtain⟨v,st1,e1,e⟩:=za e;obtain⟨x,st2,e2,e⟩:=za e;obtain⟨y,st3,e3,e⟩:=za e;refine⟨ρ,σ,au,v,st1,a,rp,e1,λρ1 H1 u x1 rp1 a1=>?_⟩;refine⟨ρ1,σ,st1,x,st2,a.ext x1,rp1,e2,λρ2 H2 w x2 rp2 a2=>?_⟩;refine⟨ρ2,σ,st2,y,st3,a.ext (x1.trans x2),rp2,e3,λρ3 H3 t x3 rp3 a3=>?_⟩;split at e
 ·rename_i n k _;split at e
  ·rename_i xs hn;split at e
   ·rename_i j hj;cases e;cases a3;obtain⟨p,rfl,hp,vs,g1,g2⟩:=zfi rp3 (a2.ext x3) hn (by intro z;cases z);have E:Ext ρ3 H3 ρ3 (upd H3 p (.lst (vs.set j u))):=Ext.wr hp (zgf g1) _;refine⟨p,vs,k,j,rfl,rfl,g1,by rw[g2.length];exact hj,?_⟩;exact q _ _ _ ((x1.trans (x2.trans x3)).trans E) (rp3.wr hp (zgf g1) ⟨_,zh,(g2.set (a1.ext (x2.trans x3)) j).ext E⟩) (a.ext ((x1.trans (x2.trans x3)).trans E))
   ·cases e
  ·cases e
 ·cases e
abbrev SG:=D->DS->Option DS
def gN(i:Nat):SG:=λd σ=>some (σ.set i (some d))
def gsNil:List D->DS->Option DS:=λds σ=>match ds with
 | []=>some σ
 | _=>none
def gsCons(t:SG) (u:List D->DS->Option DS):List D->DS->Option DS:=λds σ=>match ds with
 | d::r=>(t d σ).bind λσ1=>u r σ1
 | _=>none
def gT(n:Nat) (u:List D->DS->Option DS):SG:=λd σ=>match d with
 | .tup ds=>if ds.length=n then u ds σ else none
 | _=>none
def gD(K:Fg) (b:SG):TG:=λv τ H Q=>∃ρ σ d σ',AtS K ρ H σ τ/\At K ρ H d v/\b d σ=some σ'/\∀τ',AtS K ρ H σ' τ'->Q τ' H
def gDs(K:Fg) (b:List D->DS->Option DS):TGs:=λvs τ H Q=>∃ρ σ ds σ',AtS K ρ H σ τ/\AtAll K ρ H ds vs/\b ds σ=some σ'/\∀τ',AtS K ρ H σ' τ'->Q τ' H
abbrev DG(X:Cx) (tg:Expr) (b:SG):Prop:=PG X tg (gD X.K b)
abbrev DGs(X:Cx) (ts:List Expr) (b:List D->DS->Option DS):Prop:=PGs X ts (gDs X.K b)
theorem zbrq(h:PG X e g)(k:∀v τ H Q,g' v τ H Q->g v τ H Q):PG X e g':=λaW s σ H v u Q I r q=>h aW s σ H v u Q I r (k _ _ _ _ q)
theorem zbhs(h:PGs X es g)(k:∀v τ H Q,g' v τ H Q->g v τ H Q):PGs X es g':=λaW s σ H v u Q I r q=>h aW s σ H v u Q I r (k _ _ _ _ q)
theorem zbkq{X:Cx} (hN:X.N.Nodup)(hi:X.N[i]?=some x)(hx:L2.Loc X.env.scope x)(hf:X.fn x=true\/X.env.scope.names.lookup x=some .local:=by first|exact .inl rfl|exact .inr rfl|assumption):DG X (.Name x pos) (gN i) :=
 zbrq (zbhu hN hi hx hf) λv τ H Q hq0=>by
 obtain⟨ρ,σ,d,σ',a,b,e,q⟩:=hq0;cases e;exact q _ (a.set b i)
theorem zbkp:DGs X [] gsNil:=zbhs zbht λv τ H Q hq0=>by
 obtain⟨ρ,σ,d,σ',a,b,e,q⟩:=hq0;unfold gsNil at e;split at e
 ·cases e;cases b;exact⟨rfl,q _ a⟩
 ·cases e
theorem zbes(h1:DG X e t)(h2:DGs X es u)(hs:(assignEach (e::es) X.env).map (·.2)=assign e X.env::(assignEach es X.env).map (·.2):=by rfl):DGs X (e::es) (gsCons t u) :=
 zbhs (zbcq h1 h2 hs) λv τ H Q hq0=>by
 obtain⟨ρ,σ,d,σ',a,b,e,q⟩:=hq0;unfold gsCons at e;split at e
 ·obtain⟨σ1,e1,e2⟩:=xeg.mp e;cases b with
  | cons b1 b2=>exact⟨_,_,rfl,ρ,σ,_,σ1,a,b1,e1,λτ1 a1=>⟨ρ,σ1,_,σ',a1,b2,e2,q⟩⟩
 ·cases e
theorem zbqa{X:Cx} (hc:X.calm=true)(h:DGs X es u)(hn:(assignEach es X.env).length=n:=by rfl)(hst:(assignEach es X.env).findIdx? (·.1)=none:=by rfl):DG X (.Tuple es k pos) (gT n u) :=
 zbrq (zbnl hc h hn hst) λv τ H Q hq0=>by
 obtain⟨ρ,σ,d,σ',a,b,e,q⟩:=hq0;unfold gT at e;split at e
 ·split at e
  ·rename_i hl;cases b with
   | tup h1 h2 h3=>exact⟨_,_,rfl,SqT.of h1,by rw[h3.length];exact hl,ρ,σ,_,σ',a,h3,e,q⟩
  ·cases e
 ·cases e
structure ExtG (ρ:Loc) (H:Hp) (ρ':Loc) (H':Hp):Prop where
 len:ρ.m.length<=ρ'.m.length
 old:∀(n:Nat) (a:Addr),n < ρ.m.length->ρ'.m[n]?=some (some a)->ρ.m[n]?=some (some a)
 keep:∀a o,H a=some o->some a∉ρ.m->H' a=some o/\some a∉ρ'.m
 gho:∀a∈ρ'.g,a∈ρ.g\/H a=none
 frz:∀a ob u,H a=some (.frz ob u)->H' a=some (.frz ob u)
theorem Ext.toG(x:Ext ρ H ρ' H'):ExtG ρ H ρ' H':=⟨x.len,x.old,x.keep,λa h=>.inl (by rw[← x.gho];exact h),x.frz⟩
theorem ExtG.then(a:ExtG ρ H ρ1 H1)(b:Ext ρ1 H1 ρ2 H2):ExtG ρ H ρ2 H2 :=
 ⟨xbb a.len b.len,λn c h e=>a.old n c h (b.old n c (xbh h a.len) e),λc o e n=>by
  obtain⟨e1,n1⟩:=a.keep c o e n
  exact b.keep c o e1 n1,λc h=>a.gho c (by rw[← b.gho];exact h),λc ob u e=>b.frz c ob u (a.frz c ob u e)⟩
theorem ExtG.out(x:ExtG ρ H ρ' H') (h:H a=some o)(n:Out ρ a):H' a=some o/\Out ρ' a :=
 ⟨(x.keep a o h n.1).1,(x.keep a o h n.1).2,λz=>by
  rcases x.gho a z with q|q
  ·exact n.2 q
  ·rw[h] at q;cases q⟩
theorem ExtG.mv(x:ExtG ρ H ρ' H'):Mv ρ H ρ' H':=⟨λh n=>x.out h n,x.len,x.old⟩
theorem At.extG{K:Fg} (x:ExtG ρ H ρ' H') (h:At K ρ H d v):At K ρ' H' d v:=h.mv x.mv
theorem Ls.extG{K:Fg} (x:ExtG ρ H ρ' H')(h:Ls K ρ H a vs):Ls K ρ' H' a vs:=h.mv x.mv
structure ItOk (K:Fg) (ρ:Loc) (H:Hp) (J:It) (xs:List D):Prop where
 item:∀ρ2 H2,ExtG ρ H ρ2 H2->∀(i:Nat) (x:D),xs[i]?=some x->J.go i H2/\∀y H3,J.yld i H2 y H3->Ext ρ2 H2 ρ2 H3/\∀au,Rep K ρ2 au H2->Rep K ρ2 au H3/\At K ρ2 H3 x y
 done:∀ρ2 H2,ExtG ρ H ρ2 H2->∀i:Nat,xs.length<=i->J.stop i H2
def iD(K:Fg) (f:SA):TI:=λτ H R=>∃ρ σ au xs st',AtS K ρ H σ τ/\Rep K ρ au H/\f σ au=.ok xs st'/\∀ρ' H' J,Ext ρ H ρ' H'->Rep K ρ' st' H'->ItOk K ρ' H' J xs->R J H'
abbrev DI(X:Cx) (tg iter:Expr) (f:SA):Prop:=PI X tg iter (iD X.K f)
noncomputable def seqV:D->Option (List D)
 | .tup xs=>some xs
 | .lst xs=>some xs
 | .scr xs=>some xs
 | _=>none
def aH(f:SE):SA:=λσ au=>(f σ au).bind λx st1=>match seqV x with
 | some xs=>.ok xs st1
 | none=>.stuck
noncomputable def rng(lo:Int) (n:Nat):List D:=(List.range n).map λ(i:Nat)=>D.int (lo+i)
def iR1(g:SA):SA:=λσ au=>(g σ au).bind λxs st1=>match xs with
 | [.int j]=>if -(2 ^ 62)<=j/\j<2 ^ 62 then .ok (rng 0 j.toNat) st1 else .stuck
 | _=>.stuck
def iR2(g:SA):SA:=λσ au=>(g σ au).bind λxs st1=>match xs with
 | [.int i,.int j]=>if -(2 ^ 62)<=i/\i<2 ^ 62/\-(2 ^ 62)<=j/\j<2 ^ 62 then .ok (rng i (j - i).toNat) st1 else .stuck
 | _=>.stuck
theorem zlj{lo:Int} (h:(rng lo n)[i]?=some x):i<n/\x=.int (lo+i):=by
 unfold rng at h;rw[xcn] at h;rcases xez i n with z|z
 ·rw[List.getElem?_range z] at h;exact⟨z,(xch h).symm⟩
 ·rw[xhg (by rw[xfe];exact z)] at h;cases h
theorem zbjg{K:Fg} {lo:Int} :ItOk K ρ H (Itr lo n) (rng lo n) where
 item:=λρ2 H2 x i d e=>by
  obtain⟨h1,rfl⟩:=zlj e;refine⟨h1,λy H3 hy=>?_⟩;obtain⟨rfl,rfl⟩:=hy;exact⟨.refl _ _,λ_ r=>⟨r,.int _⟩⟩
 done:=λρ2 H2 x i h=>by
  unfold rng at h;rw[xbc,xfe] at h;exact h
theorem zbhp(h:PI X tg l t)(k:∀τ H R,t' τ H R->t τ H R):PI X tg l t':=λaW s σ H R I q=>h aW s σ H R I (k _ _ _ q)
theorem zbsm(h:PI X tg l t)(h':PI X tg l t'):PI X tg l (λτ H R=>t τ H R\/t' τ H R):=λaW s σ H R I q=>by
 rcases q with q|q
 ·exact h aW s σ H R I q
 ·exact h' aW s σ H R I q
theorem zbbm{K:Fg} (hs:∀ρ2 H2,ExtG ρ H ρ2 H2->SqL K H2 p vs)(al:AtAll K ρ H xs vs):ItOk K ρ H (Itl K p) xs where
 item:=λρ2 H2 x i d e=>by
  obtain⟨v,hv,a⟩:=al.get e;refine⟨⟨vs,v,hs _ _ x,hv⟩,λy H3 hy=>?_⟩;obtain⟨rfl,h2⟩:=hy;have:=h2 vs (hs _ _ x);rw[hv] at this;cases this;exact⟨.refl _ _,λ_ r=>⟨r,a.extG x⟩⟩
 done:=λρ2 H2 x i h=>⟨vs,hs _ _ x,by rw[al.length];exact h⟩
theorem zbrf{K:Fg} (hs:∀ρ2 H2,ExtG ρ H ρ2 H2->SqT K H2 p vs)(al:AtAll K ρ H xs vs):ItOk K ρ H (Itt K p) xs where
 item:=λρ2 H2 x i d e=>by
  obtain⟨v,hv,a⟩:=al.get e;refine⟨⟨vs,v,hs _ _ x,hv⟩,λy H3 hy=>?_⟩;obtain⟨rfl,h2⟩:=hy;have:=h2 vs (hs _ _ x);rw[hv] at this;cases this;exact⟨.refl _ _,λ_ r=>⟨r,a.extG x⟩⟩
 done:=λρ2 H2 x i h=>⟨vs,hs _ _ x,by rw[al.length];exact h⟩
theorem zbpz(hl:DE X l f):DI X tg l (aH f):=zbhp (zbsm (zbhq hl) (zbnk hl)) λτ H R hq0=>by
 obtain⟨ρ,σ,au,xs,st',a,rp,e,q⟩:=hq0;obtain⟨x,st1,e1,e⟩:=za e;cases x with
 | tup ys =>
  cases e;refine .inr ⟨ρ,σ,au,_,_,a,rp,e1,λρ1 H1 u x1 rp1 a1=>?_⟩;cases a1 with
  | tup h1 h2 h3=>exact⟨_,rfl,⟨_,SqT.of h1⟩,q _ _ _ x1 rp1 (zbrf (λρ2 H2 x2=>SqT.of (x2.out h1 h2).1) h3)⟩
 | lst ys =>
  cases e;refine .inl ⟨ρ,σ,au,_,_,a,rp,e1,λρ1 H1 u x1 rp1 a1=>?_⟩;cases a1 with
  | lst h1 h2 h3=>exact⟨_,rfl,⟨_,SqL.of h1⟩,q _ _ _ x1 rp1 (zbbm (λρ2 H2 x2=>SqL.of (x2.out h1 h2).1) h3)⟩
 | scr ys =>
  cases e;refine .inl ⟨ρ,σ,au,_,_,a,rp,e1,λρ1 H1 u x1 rp1 a1=>?_⟩;cases a1 with
  | scr h1 h3=>exact⟨_,rfl,⟨_,h1.sq⟩,q _ _ _ x1 rp1 (zbbm (λρ2 H2 x2=>(h1.extG x2).sq) h3)⟩
 | _=>cases e
theorem zza(hg:Gl X "range")(hm:X.mg "range"=none)(ha:DA X [a] g)(hs:starEach [a] X.env=[(false,eval a X.env)]:=by rfl):DI X tg (.Call (.Name "range" p) [a] [] pos) (iR1 g) :=
 zbhp (zxm hg hm ha hs) λτ H R hq0=>by
 obtain⟨ρ,σ,au,xs,st',a,rp,e,q⟩:=hq0;obtain⟨x,st1,e1,e⟩:=za e;split at e
 ·split at e
  ·rename_i hj;cases e;refine⟨ρ,σ,au,_,_,a,rp,e1,λρ1 H1 u x1 rp1 a1=>?_⟩;obtain⟨w,rfl,a2⟩:=a1.one;cases a2;exact⟨_,rfl,hj.1,hj.2,q _ _ _ x1 rp1 zbjg⟩
  ·cases e
 ·cases e
theorem zyz(hg:Gl X "range")(hm:X.mg "range"=none)(ha:DA X [a,b] g)(hs:starEach [a,b] X.env=[(false,eval a X.env),(false,eval b X.env)]:=by rfl)(hs2:starEach [b] X.env=[(false,eval b X.env)]:=by rfl):DI X tg (.Call (.Name "range" p) [a,b] [] pos) (iR2 g) :=
 zbhp (zxl hg hm ha hs hs2) λτ H R hq0=>by
 obtain⟨ρ,σ,au,xs,st',a,rp,e,q⟩:=hq0;obtain⟨x,st1,e1,e⟩:=za e;split at e
 ·split at e
  ·rename_i hj;cases e;refine⟨ρ,σ,au,_,_,a,rp,e1,λρ1 H1 u x1 rp1 a1=>?_⟩;obtain⟨w,w2,rfl,a2,a3⟩:=a1.two;cases a2;cases a3;exact⟨_,_,rfl,hj,q _ _ _ x1 rp1 zbjg⟩
  ·cases e
 ·cases e
def iDict(f:SE):SA:=λσ au=>(f σ au).bind λx st1=>match x with
 | .ref n=>match st1[n]? with
  | some (.dT kvs)=>.ok (aJ (kvs.map (·.1))) (st1.set n (.fT kvs))
  | _=>.stuck
 | _=>.stuck
theorem zbko(hl:DE X l f):DI X tg l (iDict f):=zbhp (zbhr hl) λτ H R hq0=>by
 obtain⟨ρ,σ,au,xs,st',a,rp,e,q⟩:=hq0;obtain⟨x,st1,e1,e⟩:=za e;refine⟨ρ,σ,au,x,st1,a,rp,e1,λρ1 H1 u x1 rp1 a1=>?_⟩;split at e
 ·rename_i n;split at e
  ·rename_i kvs hn;cases e;obtain⟨p,rfl,hp,vs,g1,g2⟩:=zfi rp1 a1 hn (by intro z;cases z);refine⟨p,vs,kvs.map (·.1),rfl,g1,g2.keys,λob ps h1 h2=>?_⟩;have E:Ext ρ1 H1 ρ1 (upd H1 p (.frz ob (.dT vs))):=Ext.wr hp (zjb g1) _;have R:Rep X.K ρ1 (st1.set n (.fT kvs)) (upd H1 p (.frz ob (.dT vs))):=rp1.wr hp (zjb g1) ⟨vs,ob,zh,g2.ext E⟩;refine q _ _ _ (x1.trans E) R ⟨λρ2 H2 x2 i d e=>?_,λρ2 H2 x2 i h=>?_⟩
   ·have e2:(ps.map (·.2))[i]?=(kvs.map (·.1))[i]?:=by rw[h1]
    unfold aJ at e;rw[xcn,← e2,xcn] at e;cases hi:ps[i]? with
    | none=>rw[hi] at e;cases e
    | some x =>
     rw[hi] at e;cases e;refine⟨⟨(xbj.mp hi).1,x2.frz _ _ _ zh⟩,λy H3 hy=>?_⟩;obtain⟨rfl,x',hx',rfl⟩:=hy;rw[hi] at hx';cases hx';have ht:=h2 x (xcg hi);have a3:At X.K ρ1 H1 (aM x.2) (.ref x.1):=.tup ht (zpj rp1 ht) (zhq _);exact⟨.refl _ _,λ_ r=>⟨r,(a3.ext E).extG x2⟩⟩
   ·have e2:=congrArg List.length h1;rw[xbc] at e2;unfold aJ at h;rw[xbc,← e2] at h;exact⟨h,x2.frz _ _ _ zh⟩
  ·cases e
 ·cases e
def forF(bd:SG) (body:SS):List D->SS
 | [],σ,au=>.ok (.nx σ) au
 | x::xs,σ,au=>match bd x σ with
  | none=>.stuck
  | some σ1=>match body σ1 au with
   | .ok (.nx σ2) st2=>forF bd body xs σ2 st2
   | .ok (.ct σ2) st2=>forF bd body xs σ2 st2
   | .ok (.brk σ2) st2=>.ok (.nx σ2) st2
   | r=>r
def sFor(it:SA) (bd:SG) (body:SS):SS:=λσ au=>(it σ au).bind λxs st1=>forF bd body xs σ st1
def whileF(c:ST) (body:SS):Nat->SS
 | 0,_,_=>.stuck
 | n+1,σ,au=>(c σ au).bind λb st1=>if b=true then(match body σ st1 with
  | .ok (.nx σ2) st2=>whileF c body n σ2 st2
  | .ok (.ct σ2) st2=>whileF c body n σ2 st2
  | .ok (.brk σ2) st2=>.ok (.nx σ2) st2
  | r=>r) else .ok (.nx σ) st1
noncomputable def wCap:Nat:=1000000
def sWhile(c:ST) (body:SS):SS:=whileF c body wCap
theorem zbbb{α:Type}{xs:List α} (h:i<xs.length):∃x,xs[i]?=some x/\xs.drop i=x::xs.drop (i+1):=⟨xs[i],xbe h,xgf h⟩
theorem zbpu{X:Cx}(hp:PassesOwn (model X.prog X.w) X.A X.env X.xe)(hc:X.calm=true)(hi:DI X tg iter it)(hg:DG X tg bd)(hb:DSs X body b)(hs:∀x,foldedSetIterable iter X.env x=pure x:=by intro _;rfl) :
  DSt X (.For tg iter body [] pos) (sFor it bd b):=zmq (zbnh hp hc hi hg hb hs) λE τ H hq0=>by
 obtain⟨ρ,σ,au,fl,st',a,rp,e,q⟩:=hq0;obtain⟨xs,st1,e1,e⟩:=za e;refine⟨ρ,σ,au,xs,st1,a,rp,e1,λρ1 H1 J x1 rp1 ok=>?_⟩;have q1:=q.ext x1;refine⟨λi m τ' H'=>i+m=xs.length/\∃ρ2 σ2 st2,Ext ρ1 H1 ρ2 H'/\AtS X.K ρ2 H' σ2 τ'/\Rep X.K ρ2 st2 H'/\forF bd b (xs.drop i) σ2 st2=.ok fl st',⟨xs.length,by lia,ρ1,σ,st1,.refl _ _,a.ext x1,rp1,e⟩,?_⟩;rintro i m τ' H' ⟨him,ρ2,σ2,st2,x2,a2,rp2,e2⟩;rcases xez i xs.length with hlt|hge
 ·obtain⟨x,hx,hd⟩:=zbbb hlt;rw[hd] at e2;obtain⟨go,yl⟩:=ok.item ρ2 H' x2.toG i x hx;refine .inr ⟨go,λτ3 H3=>∃ρ3 σ3 st3,Ext ρ1 H1 ρ3 H3/\AtS X.K ρ3 H3 σ3 τ3/\Rep X.K ρ3 st3 H3/\forF bd b (xs.drop (i+1)) σ3 st3=.ok fl st',λτ3 H3 ⟨ρ3,σ3,st3,n1,n2,n3,n4⟩=>⟨m - 1,by lia,by lia,ρ3,σ3,st3,n1,n2,n3,n4⟩,λy H3 hy=>?_⟩;obtain⟨y1,y4⟩:=yl y H3 hy;obtain⟨y2,y3⟩:=y4 _ rp2;unfold forF at e2;cases hbd:bd x σ2 with
  | none=>rw[hbd] at e2;cases e2
  | some σ1 =>
   rw[hbd] at e2;dsimp only at e2;have X3:=x2.trans y1;refine⟨ρ2,σ2,x,σ1,a2.ext y1,y3,hbd,λτ4 a4=>?_⟩;cases hr:b σ1 st2 with
   | stuck=>rw[hr] at e2;cases e2
   | exc z w=>rw[hr] at e2;cases e2
   | ok fb st3 =>
    rw[hr] at e2;refine⟨ρ2,σ1,st2,fb,st3,a4,y2,hr,?_⟩;cases fb with
    | nx σ3=>exact λρ' H'' τ5 x5 rp5 a5=>⟨ρ',σ3,st3,X3.trans x5,a5,rp5,e2⟩
    | ct σ3=>exact λρ' H'' τ5 x5 rp5 a5=>⟨ρ',σ3,st3,X3.trans x5,a5,rp5,e2⟩
    | brk σ3 =>
     dsimp only at e2;cases e2;exact λρ' H'' τ5 x5 rp5 a5=>q1 _ _ _ (X3.trans x5) rp5 a5
    | ret v =>
     dsimp only at e2;cases e2;exact λρ' H'' u x5 rp5 a5=>q1 _ _ _ (X3.trans x5) rp5 a5
 ·rw[xik hge] at e2;unfold forF at e2;cases e2;exact .inl ⟨ok.done ρ2 H' x2.toG i hge,q1 _ _ _ x2 rp2 a2⟩
theorem zbek{X:Cx}(hp:PassesOwn (model X.prog X.w) X.A X.env X.xe)(hc:DT X c t)(hb:DSs X body b):DSt X (.While c body [] pos) (sWhile t b):=zmq (zbcj hp hc hb) λE τ H hq0=>by
 obtain⟨ρ,σ,au,fl,st',a,rp,e,q⟩:=hq0;unfold sWhile at e;generalize wCap=n at e;refine⟨λm τ' H'=>∃ρ2 σ2 st2,Ext ρ H ρ2 H'/\AtS X.K ρ2 H' σ2 τ'/\Rep X.K ρ2 st2 H'/\whileF t b m σ2 st2=.ok fl st',⟨n,ρ,σ,au,.refl _ _,a,rp,e⟩,?_⟩;rintro m τ' H' ⟨ρ2,σ2,st2,x2,a2,rp2,e2⟩;cases m with
 | zero=>unfold whileF at e2;cases e2
 | succ m =>
  unfold whileF at e2;obtain⟨x,st3,e3,e4⟩:=za e2;refine⟨ρ2,σ2,st2,x,st3,a2,rp2,e3,λρ3 H3 x3 rp3=>?_⟩;have X3:=x2.trans x3;cases x with
  | false =>
   rw[if_neg (by decide)] at e4;cases e4;exact iteF (q _ _ _ X3 rp3 (a2.ext x3))
  | true =>
   rw[if_pos rfl] at e4;refine iteT ⟨λτ4 H4=>∃ρ4 σ4 st4,Ext ρ H ρ4 H4/\AtS X.K ρ4 H4 σ4 τ4/\Rep X.K ρ4 st4 H4/\whileF t b m σ4 st4=.ok fl st',λτ4 H4 hh=>⟨m,xiw m,hh⟩,?_⟩;cases hr:b σ2 st3 with
   | stuck=>rw[hr] at e4;cases e4
   | exc z w=>rw[hr] at e4;cases e4
   | ok fb st5 =>
    rw[hr] at e4;refine⟨ρ3,σ2,st3,fb,st5,a2.ext x3,rp3,hr,?_⟩;cases fb with
    | nx σ3=>exact λρ' H'' τ5 x5 rp5 a5=>⟨ρ',σ3,st5,X3.trans x5,a5,rp5,e4⟩
    | ct σ3=>exact λρ' H'' τ5 x5 rp5 a5=>⟨ρ',σ3,st5,X3.trans x5,a5,rp5,e4⟩
    | brk σ3 =>
     dsimp only at e4;cases e4;exact λρ' H'' τ5 x5 rp5 a5=>q _ _ _ (X3.trans x5) rp5 a5
    | ret v =>
     dsimp only at e4;cases e4;exact λρ' H'' u x5 rp5 a5=>q _ _ _ (X3.trans x5) rp5 a5
def compF(bd:SG) (c:ST) (f:SE):List D->DS->Store->Res (List D)
 | [],_,au=>.ok [] au
 | x::xs,σ,au=>match bd x σ with
  | none=>.stuck
  | some σ1=>(c σ1 au).bind λb st1=>if b=true then(f σ1 st1).bind λy st2=>(compF bd c f xs σ1 st2).bind λys st3=>.ok (y::ys) st3 else compF bd c f xs σ1 st1
def aV(k:Nat) (is:List Nat) (σ:DS):DS:=List.replicate k none++is.map λi=>(σ[i]?).getD none
def aG(it:SA) (k:Nat) (is:List Nat) (bd:SG) (c:ST) (f:SE):SE:=λσ au=>(it σ au).bind λxs st1=>if xs.length<=sizeLine then(compF bd c f xs (aV k is σ) st1).bind λys st2=>.ok (.lst ys) st2 else .stuck
def aI:ST:=λ_ au=>.ok true au
theorem AtS.start{K:Fg} (h:AtS K ρ H σ τ)(k:Nat)(is:List Nat):AtS K ρ H (aV k is σ) (startC k is τ):=by
 have app:∀{a c:DS} {b d:St},AtS K ρ H a b->AtS K ρ H c d->AtS K ρ H (a++c) (b++d):=λh1 h2=>by
  induction h1 with
  | nil=>exact h2
  | cons r t ih=>exact .cons r ih
 refine app ?_ ?_
 ·induction k with
  | zero=>exact .nil
  | succ k ih=>exact .cons (λd e=>nomatch e) ih
 ·induction is with
  | nil=>exact .nil
  | cons i is ih =>
   refine .cons (λd e=>?_) ih;have e:(σ[i]?).getD none=some d:=e;have e':σ[i]?=some (some d):=by
    cases q:σ[i]? with
    | none=>rw[q] at e;cases e
    | some o=>rw[q] at e;exact congrArg some e
   obtain⟨u,hu,a⟩:=h.get e';exact⟨u,by show(τ[i]?).getD none=some u;rw[hu];rfl,a⟩
def Loc.with(ρ:Loc) (p:Addr):Loc:=⟨ρ.m,p::ρ.g⟩
theorem zbgj(hp:H p=none):Mv ρ H (ρ.with p) (upd H p o):=⟨λe n=>⟨by rw[zj (zd e hp)];exact e,n.1,λz=>by
 rcases xbn.mp z with z|z
 ·exact zd e hp z
 ·exact n.2 z⟩,xbf _,λ_ _ _ e=>e⟩
theorem At.with{K:Fg} (hp:H p=none) (h:At K ρ H d v):At K (ρ.with p) (upd H p o) d v:=h.mv (zbgj hp)
theorem zbar{ρ ρ':Loc} (hm:ρ'.m=ρ.m)(hg:p∈ρ.g)(hs:∀a,a∈ρ'.g->a∈ρ.g):Mv ρ H ρ' (upd H p o):=⟨λe n=>⟨by rw[zj (by rintro rfl;exact n.2 hg)];exact e,by rw[hm];exact n.1,λz=>n.2 (hs _ z)⟩,by rw[hm];exact xbf _,λ_ _ _ e=>by rw[hm] at e;exact e⟩
theorem At.grow{K:Fg}{ρ ρ':Loc} (hm:ρ'.m=ρ.m)(hg:p∈ρ.g)(hs:∀a,a∈ρ'.g->a∈ρ.g) (h:At K ρ H d v):At K ρ' (upd H p o) d v:=h.mv (zbar hm hg hs)
theorem AtAll.grow{K:Fg}{ρ ρ':Loc} (hm:ρ'.m=ρ.m)(hg:p∈ρ.g)(hs:∀a,a∈ρ'.g->a∈ρ.g) (h:AtAll K ρ H d v):AtAll K ρ' (upd H p o) d v:=h.mv (zbar hm hg hs)
theorem OAt.map{K:Fg} (k:∀d v,At K ρ H d v->At K ρ' H' d v)(fz:∀b ob u,H b=some (.frz ob u)->H' b=some (.frz ob u))(same:H' a=H a)(h:OAt K ρ H x a):OAt K ρ' H' x a:=by
 have ka:∀{d:List D} {v:List V},AtAll K ρ H d v->AtAll K ρ' H' d v:=λ{d v} h=>by
  induction d generalizing v with
  | nil=>cases h;exact .nil
  | cons x xs ih=>cases h with|cons a b=>exact .cons (k _ _ a) (ih b)
 cases x with
 | lst xs=>obtain⟨vs,q,r⟩:=h;exact⟨vs,by rw[same];exact q,ka r⟩
 | dT kvs=>obtain⟨vs,q,r⟩:=h;exact⟨vs,by rw[same];exact q,Paired.mapP r λp q z=>⟨z.1,k _ _ z.2⟩⟩
 | fT kvs=>obtain⟨vs,ob,q,r⟩:=h;exact⟨vs,ob,by rw[same];exact q,Paired.mapP r λp q z=>⟨z.1,k _ _ z.2⟩⟩
 | dI kvs=>obtain⟨vs,q,r⟩:=h;exact⟨vs,by rw[same];exact q,Paired.mapP r λp q z=>⟨z.1,k _ _ z.2⟩⟩
 | dead=>exact h.elim
 | tab=>obtain⟨c,ps,q,r⟩:=h;exact⟨c,ps,by rw[same];exact q,r.map fz⟩
theorem Rep.with{K:Fg} (r:Rep K ρ au H)(hp:H p=none)(vs:List V):Rep K (ρ.with p) au (upd H p (.lst vs)) :=
 ⟨r.len,r.inj,λm b y e1 e2=>by
  have q:=r.obj m b y e1 e2;obtain⟨u,hu⟩:=q.has;exact q.map (λd v h=>h.with hp) (λb ob u e=>by rw[zj (zd e hp)];exact e) (zj (zd hu hp)),λa ha=>by
  rcases xbn.mp ha with rfl|ha
  ·exact⟨⟨vs,zh⟩,(zgu r hp).1⟩
  ·obtain⟨⟨ws,h1⟩,h2⟩:=r.gh a ha
   exact⟨⟨ws,by rw[zj (zd h1 hp)];exact h1⟩,h2⟩,r.live⟩
theorem Rep.grow{K:Fg}{ρ':Loc} (r:Rep K ρ au H)(hm:ρ'.m=ρ.m)(hg:p∈ρ.g)(hs:∀a,a∈ρ'.g->a∈ρ.g)(vs:List V):Rep K ρ' au (upd H p (.lst vs)) :=
 ⟨by rw[hm];exact r.len,by rw[hm];exact r.inj,λm b y e1 e2=>by
  rw[hm] at e1;refine(r.obj m b y e1 e2).map (λd v h=>h.grow hm hg hs) (λb ob u e=>by rw[zj (by rintro rfl;obtain⟨⟨_,z⟩,_⟩:=r.gh _ hg;rw[e] at z;cases z)];exact e) (zj ?_);rintro rfl;exact(r.gh b hg).2 (xcg e1),λa ha=>by
  obtain⟨⟨ws,h1⟩,h2⟩:=r.gh a (hs a ha);refine⟨?_,by rw[hm];exact h2⟩;by_cases e:a=p
  ·subst e;exact⟨vs,zh⟩
  ·exact⟨ws,by rw[zj e];exact h1⟩,by rw[hm];exact r.live⟩
theorem AtS.map{K:Fg} (k:∀d v,At K ρ H d v->At K ρ' H' d v)(h:AtS K ρ H σ τ):AtS K ρ' H' σ τ:=Paired.mapP h λo v z d e=>by
 obtain⟨u,e1,a⟩:=z d e;exact⟨u,e1,k _ _ a⟩
inductive CI (K:Fg) (bd:SG) (c:ST) (f:SE) (xs ys:List D) (st2:Store) (ρ1:Loc) (H1:Hp) (p:Addr) (i:Nat) (τ:St) (H':Hp):Prop where
 | mk {ρ2:Loc} {σ2:DS} {st3:Store} {acc:List D} {accV:List V} {zs:List D} (x2:ExtG ρ1 H1 ρ2 H') (hg:ρ2.g=p::ρ1.g) (hpp:H' p=some (.lst accV)) (hal:AtAll K ρ2 H' acc accV) (hli:acc.length<=i) (a2:AtS K ρ2 H' σ2 τ) (rp2:Rep K ρ2 st3 H') (e3:compF bd c f (xs.drop i) σ2 st3=.ok zs st2) (hac:acc++zs=ys):CI K bd c f xs ys st2 ρ1 H1 p i τ H'
theorem zbli{k:Nat}{is:List Nat}{K:Fg} (a:AtS K ρ H σ τ)(rp:Rep K ρ au H)(e1:it σ au=.ok xs st1)(hlen:xs.length<=sizeLine)(e2:compF bd c f xs (aV k is σ) st1=.ok ys st2)
 (fin:∀ρ1 H1 p ρ2 H' accV,Ext ρ H ρ1 H1->Rep K ρ1 st1 H1->H1 p=none->ExtG ρ1 H1 ρ2 H'->ρ2.g=p::ρ1.g->H' p=some (.lst accV)->AtAll K ρ2 H' ys accV->Rep K ρ2 st2 H'->Q (.ref p) H'):tComp (iD K it) k is (gD K bd) (tDT K c) (tD K f) τ H Q:=by
 refine⟨ρ,σ,au,xs,st1,a,rp,e1,λρ1 H1 J x1 rp1 ok p hp=>?_⟩
 refine⟨λi m τ' H'=>i+m=xs.length/\CI K bd c f xs ys st2 ρ1 H1 p i τ' H',
  ⟨xs.length,by lia,.mk ?_ rfl zh .nil (xeb _) (((a.ext x1).start k is).map λd v h=>h.with hp) (rp1.with hp []) e2 rfl⟩,?_⟩
 ·have E:Ext ρ1 H1 ρ1 (upd H1 p (.lst [])):=Ext.new hp _
  exact⟨E.len,E.old,E.keep,λa h=>by
   rcases xbn.mp h with rfl|h
   ·exact .inr hp
   ·exact .inl h,E.frz⟩
 rintro i m τ' H' ⟨him,@⟨ρ2,σ2,st3,acc,accV,zs,x2,hg,hpp,hal,hli,a2,rp2,e3,hac⟩⟩;have hpg:p∈ρ2.g:=by rw[hg];exact xbp
 rcases xez i xs.length with hlt|hge
 ·obtain⟨x,hx,hd⟩:=zbbb hlt;rw[hd] at e3;obtain⟨go,yl⟩:=ok.item ρ2 H' x2 i x hx
  refine .inr ⟨go,CI K bd c f xs ys st2 ρ1 H1 p (i+1),
   λτ4 H4 hh=>⟨m - 1,by lia,by lia,hh⟩,λy H3 hy=>?_⟩
  obtain⟨y1,y4⟩:=yl y H3 hy;obtain⟨y2,y3⟩:=y4 _ rp2;unfold compF at e3;cases hbd:bd x σ2 with
  | none=>rw[hbd] at e3;cases e3
  | some σ1 =>
   rw[hbd] at e3;dsimp only at e3;obtain⟨bb,st4,e4,e5⟩:=za e3;refine⟨ρ2,σ2,x,σ1,a2.ext y1,y3,hbd,λτ4 a4=>?_⟩;have hpm:some p∉ρ2.m:=(rp2.gh p hpg).2;have hpp3:=(y1.keep p _ hpp hpm).1;refine⟨ρ2,σ1,st3,bb,st4,a4,y2,e4,λρ5 H5 x5 rp5=>?_⟩;have hpp5:=(x5.keep p _ hpp3 hpm).1;have hal5:=(hal.ext y1).ext x5;have g5:ρ5.g=p::ρ1.g:=x5.gho.trans hg;cases bb with
   | false =>
    rw[if_neg (by decide)] at e5;exact iteF (.mk ((x2.then y1).then x5) g5 hpp5 hal5 (xft hli) (a4.ext x5) rp5 e5 hac)
   | true =>
    rw[if_pos rfl] at e5;obtain⟨w,st6,e6,e7⟩:=za e5;obtain⟨zs',st7,e8,e9⟩:=za e7;cases e9;refine iteT ⟨ρ5,σ1,st4,w,st6,a4.ext x5,rp5,e6,λρ6 H6 u x6 rp6 a6=>?_⟩;have hpm5:some p∉ρ5.m:=(x5.keep p _ hpp3 hpm).2;have hpp6:=(x6.keep p _ hpp5 hpm5).1;have g6:ρ6.g=p::ρ1.g:=x6.gho.trans g5;have hp6:p∈ρ6.g:=by rw[g6];exact xbp
    have hl6:accV.length<=i:=by rw[hal.length];exact hli
    refine⟨accV,hpp6,xdc hl6 (xbh hlt hlen),.mk (acc:=acc++[w]) (accV:=accV++[u]) ?_ g6 zh ?_ (by rw[xbl];exact xey hli) ?_ (rp6.grow rfl hp6 (λ_ h=>h) _) e8 (by rw[← hac,xcj];rfl)⟩
    ·have G:=((x2.then y1).then x5).then x6;refine⟨G.len,G.old,λb o e n=>?_,G.gho,λb ob uu e=>?_⟩
     ·rw[zj (zd e hp)];exact G.keep b o e n
     ·rw[zj (zd e hp)];exact G.frz b ob uu e
    ·exact((hal5.ext x6).append (.cons a6 .nil)).grow rfl hp6 (λ_ h=>h)
    ·exact(a4.ext (x5.trans x6)).map λd v h=>h.grow rfl hp6 (λ_ h=>h)
 ·rw[xik hge] at e3;unfold compF at e3;cases e3;rw[xct] at hac;subst hac;exact .inl ⟨ok.done _ _ x2 i hge,fin _ _ _ _ _ _ x1 rp1 hp x2 hg hpp hal rp2⟩
theorem zbqn{K:Fg}:∀τ H Q,tD K (aG it k is bd c f) τ H Q->tComp (iD K it) k is (gD K bd) (tDT K c) (tD K f) τ H Q:=λτ H Q hq0=>by
 obtain⟨ρ,σ,au,v,st',a,rp,e,q⟩:=hq0;obtain⟨xs,st1,e1,e⟩:=za e;split at e
 ·rename_i hlen;obtain⟨ys,st2,e2,e⟩:=za e;cases e;refine zbli a rp e1 hlen e2 λρ1 H1 p ρ2 H' accV x1 rp1 hp x2 hg hpp hal rp2=>?_
  have hpg:p∈ρ2.g:=by rw[hg];exact xbp
  have hpm:some p∉ρ2.m:=(rp2.gh p hpg).2;have self:upd H' p (.lst accV)=H':=zbbs hpp;have sub:∀a,a∈(⟨ρ2.m,ρ1.g⟩:Loc).g->a∈ρ2.g:=λb hb=>by rw[hg];exact xbo _ hb
  have E:Ext ρ1 H1 ⟨ρ2.m,ρ1.g⟩ H':=⟨x2.len,x2.old,x2.keep,rfl,x2.frz⟩
  have R:=rp2.grow (ρ':=⟨ρ2.m,ρ1.g⟩) rfl hpg sub accV;have L:=AtAll.grow (ρ:=ρ2) (ρ':=⟨ρ2.m,ρ1.g⟩) (o:=.lst accV) rfl hpg sub hal;rw[self] at R L;refine q _ _ _ (x1.trans E) R (.lst hpp ⟨hpm,λz=>?_⟩ L);obtain⟨⟨ws,h1⟩,_⟩:=rp1.gh p z;rw[hp] at h1;cases h1
 ·cases e
theorem zbqj{X:Cx}{N:List Str}(hcalm:X.calm=true)(hi:DI X tg iter it)(hg:∀cl C fp s H,DG (cxC X N scope cl C fp s H) tg bd)(hc:∀cl C fp s H,PIf (cxC X N scope cl C fp s H) ifs (tDT X.K c))(he:∀cl C fp s H,DE (cxC X N scope cl C fp s H) elt f)
 (S:CompScope X N k is scope)(hs:∀x,foldedSetIterable iter X.env x=pure x:=by intro _;rfl):DE X (.ListComp elt [⟨tg,iter,ifs,0⟩] scope pos) (aG it k is bd c f):=zdt (zbac hcalm hi hg hc he S hs) zbqn
theorem zbkn :PIf X [] (tDT X.K aI):=λaW s σ H Q I hq0=>by
 obtain⟨ρ,σ',au,v,st',a,rp,e,q⟩:=hq0;cases e;exact zbhn aW s σ H Q I (q _ _ (.refl _ _) rp)
theorem zbkm(h:DT X c t):PIf X [c] (tDT X.K t):=zbhm h
end Dd
namespace Dd
open PySem L2 PyProof.Rows
def spD(K:Fg) (np:Nat) (F:DFn):Sp:=λvs H Q _=>∃ρ ds au v st',AtAll K ρ H ds vs/\Rep K ρ au H/\F ds au=.ok v st'/\vs.length=np/\∀ρ' H' u,Ext ρ H ρ' H'->Rep K ρ' st' H'->At K ρ' H' v u->Q u H'
def CalD(P:Program) (w:World) (K:Fg) (mg:Str->Option Value) (base:Heap) (x:Str) (k:Nat) (ps:List Str) (F:DFn):Prop:=Callee P w K mg base x k ps (spD K ps.length F)
def fnD(n np:Nat) (body:SS):DFn:=λds au=>if ds.length=np then(match body (ds.map some++List.replicate (n - np) none) au with
 | .ok (.ret v) st'=>.ok v st'
 | .ok (.nx _) st'=>.ok .non st'
 | .exc x st'=>.exc x st'
 | _=>.stuck) else .stuck
section
variable {x:Str}{F:DFn}{e:Expr}
theorem zbqo{K:Fg}{np:Nat}{f:SA}(hn:∀ds au v st',F ds au=.ok v st'->ds.length=np):∀τ H Q,tD K (aE F f) τ H Q->tCall (spD K np F) [] E0 (tDA K f) τ H Q:=λτ H Q hq0=>by
 obtain⟨ρ,σ,au,v,st',a,rp,e,q⟩:=hq0;obtain⟨x,st1,e1,e⟩:=za e;refine⟨ρ,σ,au,x,st1,a,rp,e1,λρ1 H1 u x1 rp1 a1=>?_⟩;show spD K np F (u++[]) H1 Q E0;rw[xct];exact⟨ρ1,x,st1,v,st',a1,rp1,e,by rw[a1.length];exact hn _ _ _ _ e,λρ' H' w x2=>q ρ' H' w (x1.trans x2)⟩
end
theorem zbqk{X:Cx}(c:CalD X.prog X.w X.K X.mg X.base x k ps F)(hn:∀ ds au v st', F ds au=.ok v st'->ds.length=ps.length)(hr:Room k X.A)(hg:Gl X x)(ha:DA X (e::es) g)(hdb:(x==("__debug__" : Str))=false:=by decide)
 (he:starEach (e::es) X.env=(false,eval e X.env)::starEach es X.env:=by rfl)(hpl:(backTo pos (starEach es X.env)).any (·.1)=false:=by rfl) :
 DE X (.Call (.Name x p) (e::es) [] pos) (aE F g):=zdt (ztg c hr hg ha hdb he hpl) (zbqo hn)
theorem zus{n np:Nat}{b:SS}{ds:List D}{au st':Store}{v:D}(h:fnD n np b ds au=.ok v st'):ds.length=np:=by
 unfold fnD at h;split at h
 ·assumption
 ·cases h
theorem AtAll.some{K:Fg}{ρ:Loc}{H:Hp}:∀{ds:List D} {vs:List V},AtAll K ρ H ds vs->AtS K ρ H (ds.map Option.some) (vs.map Option.some)
 | _,_,.nil=>.nil
 | _,_,.cons a b=>.cons (λd e=>by cases e;exact⟨_,rfl,a⟩) (AtAll.some b)
theorem AtS.append{K:Fg}{ρ:Loc}{H:Hp}:∀{a c:DS} {b d:L2.St},AtS K ρ H a b->AtS K ρ H c d->AtS K ρ H (a++c) (b++d)
 | _,_,_,_,.nil,h=>h
 | _,_,_,_,.cons r t,h=>.cons r (AtS.append t h)
theorem AtS.nones{K:Fg}{ρ:Loc}{H:Hp}:∀n,AtS K ρ H (List.replicate n none) (List.replicate n none)
 | 0=>.nil
 | n+1=>.cons (λd e=>nomatch e) (AtS.nones n)
theorem zblp{K:Fg}{N:List Str}{np:Nat}{b:SS}{vs:List V}{H:Hp}{Q:VK}{E:XK}(h:spD K np (fnD N.length np b) vs H Q E):tDS K b {nx:=λ_ H'=>Q .non H',rt:=Q} (L2.start N vs) H:=by
 obtain⟨ρ,ds,au,v,st',a,rp,e,hl,q⟩:=h;have hd:ds.length=np:=by rw[← a.length];exact hl
 unfold fnD at e;rw[if_pos hd] at e;have as:AtS K ρ H (ds.map Option.some++List.replicate (N.length - np) none) (L2.start N vs):=by
  unfold L2.start;rw[hl];exact a.some.append (.nones _)
 refine⟨ρ,ds.map Option.some++List.replicate (N.length - np) none,au,?_⟩;cases hr:b (ds.map Option.some++List.replicate (N.length - np) none) au with
 | stuck=>rw[hr] at e;cases e
 | exc z w=>rw[hr] at e;cases e
 | ok fl st1 =>
  rw[hr] at e;cases fl with
  | ret w =>
   dsimp only at e;cases e;exact⟨.ret v,st',as,rp,rfl,λρ' H' u x r t=>q ρ' H' u x r t⟩
  | nx σ =>
   dsimp only at e;cases e;exact⟨.nx σ,st',as,rp,rfl,λρ' H' τ x r t=>q ρ' H' .non x r .non⟩
  | brk σ=>cases e
  | ct σ=>cases e
theorem zblm{P:Program}{w:World}{K:Fg}{mg:Str->Option Value}{base h:Heap}{x:Str}{au:Stmt}{N ps:List Str}{k:Nat}{b:SS}(T:TopF K x au)(X:K.In h)(G:h.Ns mainGlobals mg)(S:FnScope N ps (defScope au))
  (bd:∀(kV doc pm:Value) (an:Option Addr) (cdv ct:Value) (us:List Value),us.length=ps.length->bindArgs (W.fnOf x x (defArgs au) (defBody au) (defScope au) .none kV doc pm an cdv ct) ⟨us,[]⟩=pure (ps.zip us))
  (hbody:∀(f:Addr) (cdv:Value) (A:Around) (outer:List Env) (s:Shared) (H:Hp) (E:XK),Room k (A.deeper (envOfC x (defScope au) s.heap.objs.size f cdv)) ->
   DSs (cxOf CX0 P w K mg base N x (defScope au) f cdv A outer s H E).nox (defBody au) b):CalD P w K mg base x (k+1) ps (fnD N.length ps.length b) :=
 zqg T X G S bd (λvs H Q E hh=>by obtain⟨ρ,ds,au,v,st',a,rp,e,hl,q⟩:=hh;exact hl) λf cdv A outer s H vs Q E hr hh=>⟨_,hbody f cdv A outer s H E hr,zblp hh⟩
end Dd
namespace Dd
open PySem L2
def oNeg:D->Store->Res D:=λx au=>match x with
 | .int i=>.ok (.int (-i)) au
 | _=>.stuck
def sStuck:SS:=λ_ _=>.stuck
def tru(au:Store):D->Option Bool
 | .non=>some false
 | .bl b=>some b
 | .int i=>some (i != 0)
 | .tup xs=>some !xs.isEmpty
 | d=>(asL au d).map λxs=>!xs.isEmpty
def eTru(f:SE):ST:=λσ au=>(f σ au).bind λv st1=>match tru st1 v with
 | some b=>.ok b st1
 | none=>.stuck
theorem zlv{K:Fg} (h:AtAll K ρ H ds vs):ds.isEmpty=vs.isEmpty:=by
 cases h<;>rfl
theorem zbmn{K:Fg} (rp:Rep K ρ au H) (a:At K ρ H d u)(e:tru au d=some b):TruV K u H b:=by
 unfold tru at e;split at e
 ·cases a;cases e;exact rfl
 ·cases a;cases e;exact rfl
 ·cases a;cases e;exact rfl
 ·cases e;cases a with
  | tup h1 h2 h3=>exact .inr (.inl ⟨_,SqT.of h1,by rw[zlv h3]⟩)
 ·obtain⟨xs,h0,rfl⟩:=xde.mp e;obtain⟨p,vs,rfl,h1,h2⟩:=zfv rp a h0;exact .inl ⟨_,SqL.of h1,by rw[zlv h2]⟩
theorem zbem:DSt X sm sStuck:=λaW s σ H E I ⟨ρ,σ',au,fl,st',a,rp,e,q⟩=>by cases e
theorem zbpm(h:DE X a f)(he:∀whole,isTrue a X.env whole=(do let v ← whole;standAt a.pos;holding [v] (truthy v)):=by intro _;rfl):DT X a (eTru f):=zbmb (zbci h he) λτ H Q hq0=>by
 obtain⟨ρ,σ,au,v,st',at',rp,e,q⟩:=hq0;obtain⟨x,st1,e1,e⟩:=za e;refine⟨ρ,σ,au,x,st1,at',rp,e1,λρ1 H1 u x1 rp1 a1=>?_⟩;split at e
 ·rename_i bb hb;cases e;exact⟨_,zbmn rp1 a1 hb,q _ _ x1 rp1⟩
 ·cases e
end Dd
namespace Dd
open PySem PySem.Spec PyProof.Rows L2
noncomputable def numF:Int->List D->List D
 | _,[]=>[]
 | n,x::xs=>.tup [.int n,x]::numF (n+1) xs
theorem zke:∀{xs:List D} {n:Int} {i:Nat} {d:D},(numF n xs)[i]?=some d->∃x,xs[i]?=some x/\d=.tup [.int (n+i),x]
 | [],_,_,_,h=>by simp[numF] at h
 | x::xs,n,0,d,h=>by
  simp[numF] at h;exact⟨x,rfl,by rw[← h];simp⟩
 | x::xs,n,i+1,d,h=>by
  simp only[numF,xjy] at h;obtain⟨y,h1,h2⟩:=zke h;exact⟨y,by simpa using h1,by rw[h2];congr 3;push_cast;lia⟩
theorem zcs:∀{xs:List D} {n:Int},(numF n xs).length=xs.length
 | [],_=>rfl
 | _::xs,n=>by simp[numF,zcs (xs:=xs)]
end Dd
namespace Dd
open PySem L2
def bInt:List D->Store->Res D:=λxs au=>match xs with
 | [.int i]=>.ok (.int i) au
 | [.bl k]=>.ok (.int (if k then 1 else 0)) au
 | _=>.stuck
theorem zblt{K:Fg}:CaD K bInt (λxs H Q=>(∃i,xs=[.int i]/\Q (.int i) H)\/∃k,xs=[.bl k]/\Q (.int (if k then 1 else 0)) H):=λρ H au xs us z st' Q rp aa e q=>by
 unfold bInt at e;split at e
 ·cases e;obtain⟨u,rfl,a⟩:=aa.one;cases a;exact .inl ⟨_,rfl,q _ _ _ (.refl _ _) rp (.int _)⟩
 ·cases e;obtain⟨u,rfl,a⟩:=aa.one;cases a;exact .inr ⟨_,rfl,q _ _ _ (.refl _ _) rp (.int _)⟩
 ·cases e
theorem zzr{ρ:Loc} (hg:p∈ρ.g)(hs:∀a,a∈g'->a∈ρ.g)(n:Out ρ a):Out ⟨ρ.m++[some p],g'⟩ a :=
 ⟨λz=>by
  rcases xbz.mp z with z|z
  ·exact n.1 z
  ·simp at z;subst z
   exact n.2 hg,λz=>n.2 (hs _ z)⟩
theorem zwb{ρ:Loc} (hg:p∈ρ.g)(hs:∀a,a∈g'->a∈ρ.g):Mv ρ H ⟨ρ.m++[some p],g'⟩ H:=⟨λe n=>⟨e,zzr hg hs n⟩,by
 show ρ.m.length<=(ρ.m++[some p]).length;rw[xbl];exact xby _ _,λn a h q=>by
 have q':(ρ.m++[some p])[n]?=some (some a):=q;rw[xbt h] at q'
 exact q'⟩
theorem At.adopt{K:Fg}{ρ:Loc} (hg:p∈ρ.g)(hs:∀a,a∈g'->a∈ρ.g) (h:At K ρ H d v):At K ⟨ρ.m++[some p],g'⟩ H d v:=h.mv (zwb hg hs)
theorem AtAll.adopt{K:Fg}{ρ:Loc} (hg:p∈ρ.g)(hs:∀a,a∈g'->a∈ρ.g) (h:AtAll K ρ H d v):AtAll K ⟨ρ.m++[Option.some p],g'⟩ H d v:=h.mv (zwb hg hs)
theorem Rep.adopt{K:Fg} (r:Rep K ρ au H)(hg:p∈ρ.g)(hs:∀a,a∈g'->a∈ρ.g)(hn:p∉g')(hp:H p=some (.lst vs))(al:AtAll K ρ H xs vs) :
  Rep K ⟨ρ.m++[some p],g'⟩ (au++[.lst xs]) H:=by
 have hpm:some p∉ρ.m:=(r.gh p hg).2;have nl:∀(m:Nat),ρ.m[m]?≠some (some p):=λm e=>hpm (xcg e)
 have cs:∀(m:Nat) (b:Addr),(ρ.m++[some p])[m]?=some (some b)->(m < ρ.m.length/\ρ.m[m]?=some (some b))\/(m=ρ.m.length/\b=p):=λm b e=>by
  rcases xez m ρ.m.length with z|z
  ·rw[xbt z] at e;exact .inl ⟨z,e⟩
  ·rw[xcm z] at e;have z2:m - ρ.m.length=0:=by
    have:=(xbj.mp e).1;simp at this;lia
   rw[z2] at e;simp at e;exact .inr ⟨by lia,e.symm⟩
 refine⟨by simp[r.len],λm k b e1 e2=>?_,λm b y e1 e2=>?_,λb hb=>?_,λm y e ne=>?_⟩
 ·rcases cs m b e1 with⟨h1,q1⟩|⟨h1,rfl⟩
  ·rcases cs k b e2 with⟨h2,q2⟩|⟨h2,rfl⟩
   ·exact r.inj m k b q1 q2
   ·exact absurd q1 (nl m)
  ·rcases cs k b e2 with⟨h2,q2⟩|⟨h2,_⟩
   ·exact absurd q2 (nl k)
   ·lia
 ·rcases cs m b e1 with⟨h1,q1⟩|⟨h1,rfl⟩
  ·rw[xbt (by rw[← r.len];exact h1)] at e2;exact(r.obj m b y q1 e2).map (λd v h=>h.adopt hg hs) (λ_ _ _ e=>e) rfl
  ·rw[h1,r.len,xcm (xbf _)] at e2;simp at e2;subst e2;exact⟨vs,hp,al.adopt hg hs⟩
 ·obtain⟨h1,h2⟩:=r.gh b (hs b hb);refine⟨h1,λz=>?_⟩;rcases xbz.mp z with z|z
  ·exact h2 z
  ·simp at z;subst z;exact hn hb
 ·rcases xez m au.length with z|z
  ·rw[xbt z] at e;obtain⟨b,hb⟩:=r.live m y e ne;exact⟨b,by show(ρ.m++[some p])[m]?=_;rw[xbt (by rw[r.len];exact z)];exact hb⟩
  ·have z2:=(xbj.mp e).1;simp at z2;have z3:m=ρ.m.length:=by rw[r.len];lia
   exact⟨p,by show(ρ.m++[some p])[m]?=_;rw[z3,xcm (xbf _)];simp⟩
def eCompM(it:SA) (k:Nat) (is:List Nat) (bd:SG) (c:ST) (f:SE):SE:=λσ au=>(it σ au).bind λxs st1=>if xs.length<=sizeLine then(compF bd c f xs (aV k is σ) st1).bind λys st2=>.ok (.ref st2.length) (st2++[.lst ys]) else .stuck
theorem zblg{K:Fg}:∀τ H Q,tD K (eCompM it k is bd c f) τ H Q->tComp (iD K it) k is (gD K bd) (tDT K c) (tD K f) τ H Q:=λτ H Q hq0=>by
 obtain⟨ρ,σ,au,v,st',a,rp,e,q⟩:=hq0;obtain⟨xs,st1,e1,e⟩:=za e;split at e
 ·rename_i hlen;obtain⟨ys,st2,e2,e⟩:=za e;cases e;refine zbli a rp e1 hlen e2 λρ1 H1 p ρ2 H' accV x1 rp1 hp x2 hg hpp hal rp2=>?_
  have hpg:p∈ρ2.g:=by rw[hg];exact xbp
  have hpm:some p∉ρ2.m:=(rp2.gh p hpg).2;have sub:∀a,a∈ρ1.g->a∈ρ2.g:=λb hb=>by rw[hg];exact xbo _ hb
  have hn1:p∉ρ1.g:=λz=>by
   obtain⟨⟨ws,h1⟩,_⟩:=rp1.gh p z;rw[hp] at h1;cases h1
  have R:=rp2.adopt hpg sub hn1 hpp hal
  have E:Ext ρ1 H1 ⟨ρ2.m++[some p],ρ1.g⟩ H':=⟨by
    show ρ1.m.length<=(ρ2.m++[some p]).length;rw[xbl];exact xbb x2.len (xby _ _),λn b h e=>by
    have e':(ρ2.m++[some p])[n]?=some (some b):=e;rw[xbt (xbh h x2.len)] at e'
    exact x2.old n b h e',λb o e m=>⟨(x2.keep b o e m).1,λz=>by
    rcases xbz.mp z with z|z
    ·exact(x2.keep b o e m).2 z
    ·simp at z;subst z
     rw[hp] at e;cases e⟩,rfl,x2.frz⟩
  exact q _ _ _ (x1.trans E) R (.last (ρ:=⟨ρ2.m,ρ1.g⟩) rp2.len.symm)
 ·cases e
theorem zblc{X:Cx}{N:List Str}(hcalm:X.calm=true)(hi:DI X tg iter it)(hg:∀cl C fp s H,DG (cxC X N scope cl C fp s H) tg bd)(hc:∀cl C fp s H,PIf (cxC X N scope cl C fp s H) ifs (tDT X.K c))(he:∀cl C fp s H,DE (cxC X N scope cl C fp s H) elt f)
 (S:CompScope X N k is scope)(hs:∀x,foldedSetIterable iter X.env x=pure x:=by intro _;rfl):DE X (.ListComp elt [⟨tg,iter,ifs,0⟩] scope pos) (eCompM it k is bd c f):=zdt (zbac hcalm hi hg hc he S hs) zblg
noncomputable def plainE:Expr->Bool
 | .Starred _ _=>false
 | _=>true
theorem zky(h:plainE e=true):starEach (e::es) env=(false,eval e env)::starEach es env:=by
 cases e<;>first|rfl|cases h
theorem zbet(ha:DE X e f)(hr:DA X es g)(hp:plainE e=true:=by rfl):DA X (e::es) (aB f g):=zbkt ha hr (zky hp)
def bBest(gt:Bool):List D->Store->Res D:=λxs au=>match xs with
 | [x]=>match (seqOf au x).bind asInts with
  | some (n::ns)=>.ok (.int (bestI gt n ns)) au
  | _=>.stuck
 | _=>.stuck
theorem zblu{K:Fg} :CaD K (bBest gt) (rBest K gt):=λρ H au xs us z st' Q rp aa e q=>by
 unfold bBest at e;split at e
 ·split at e
  ·rename_i n ns h;cases e;obtain⟨ys,h0,h⟩:=xeg.mp h;obtain⟨u,rfl,a⟩:=aa.one;obtain⟨p,vs,rfl,h1,h2⟩:=zjw rp a h0;have e:=zcp h2 h;subst e;exact⟨p,n,ns,rfl,h1,q _ _ _ (.refl _ _) rp (.int _)⟩
  ·cases e
 ·cases e
noncomputable def pairsF:List D->List D->List D
 | x::xs,y::ys=>.tup [x,y]::pairsF xs ys
 | _,_=>[]
def iZipT(g:SA):SA:=λσ au=>(g σ au).bind λxs st1=>match xs with
 | [.tup a,.tup b]=>.ok (pairsF a b) st1
 | _=>.stuck
def sSetG(bd:SG) (f:SE):SS:=λσ au=>(f σ au).bind λv st1=>match bd v σ with
 | some σ1=>.ok (.nx σ1) st1
 | none=>.stuck
end Dd
namespace Dd
open PySem L2 PyProof.Rows
structure JE (X:Cx) (e:Expr) (f:SE):Prop where out:DE X e f
structure JT (X:Cx) (e:Expr) (f:ST):Prop where out:DT X e f
structure JW (X:Cx) (e:Expr) (f:ST):Prop where out:DW X e f
structure JA (X:Cx) (e:List Expr) (f:SA):Prop where out:DA X e f
structure JS (X:Cx) (s:Stmt) (f:SS):Prop where out:DSt X s f
structure JB (X:Cx) (s:List Stmt) (f:SS):Prop where out:DSs X s f
structure JO (X:Cx) (e:Option Expr) (f:DS->Store->Res (Option Int)):Prop where out:DO X e f
structure JG (X:Cx) (e:Expr) (b:SG):Prop where out:DG X e b
structure JGs (X:Cx) (e:List Expr) (b:List D->DS->Option DS):Prop where out:DGs X e b
structure JI (X:Cx) (tg iter:Expr) (f:SA):Prop where out:DI X tg iter f
structure JIf (X:Cx) (ifs:List Expr) (c:ST):Prop where out:PIf X ifs (tDT X.K c)
structure JC (X:Cx) (op:CmpOp) (a b:Expr) (f:SE):Prop where out:PC X op a b (tD X.K f)
theorem JW.pt(h:JW X e t):JT X e t:=⟨PW.pt h.out⟩
theorem zfo(h:PE X e (tVar i)):JE X e (aA i):=⟨zbtl h⟩
theorem zzg(h:PE X e (tC v))(k:∀ρ H,At X.K ρ H d v):JE X e (eC d):=⟨zblb h k⟩
theorem zf{i j pos}:JE X (.Constant (.int i) j pos) (eC (.int i)):=⟨zbtt⟩
theorem zzh{b j pos}:JE X (.Constant (.bool b) j pos) (eC (.bl b)):=⟨d_bl⟩
theorem zbqd{j pos}:JE X (.Constant .none j pos) (eC .non):=⟨zbtr⟩
theorem zfd{x j pos}:JE X (.Constant (.str x) j pos) (eC (.str x)):=⟨zbtn⟩
theorem zec(ho:OpR X (binaryOp op) r)(hr:OpD X.K g r)(ha:JE X a f)(hb:JE X b f'):JE X (.BinOp a op b pos) (aU g f f'):=⟨d_op ho hr ha.out hb.out⟩
theorem zrp(ho:OpR X (compareOp op) r)(hr:OpD X.K g r)(ha:JE X a f)(hb:JE X b f')(hm:behindInMarks op b=false):JE X (.Compare a [op] [b] pos) (aU g f f'):=⟨zbtv ho hr ha.out hb.out hm⟩
theorem zbe(ho:OpR X (compareOp op) r)(hr:OpD X.K g r)(ha:JE X a f)(hb:JE X b f')(hm:behindInMarks op b=false):JT X (.Compare a [op] [b] pos) (eB (aU g f f')):=⟨zbpo ho hr ha.out hb.out hm⟩
theorem zbeu{op}(h:JE X a f):JE X (.BoolOp op [a] pos) f:=⟨zbtp h.out⟩
section
variable {X:Cx}{a:Expr}{b:Expr}{rest:List Expr}{f:SE}{f':SE}{pos:Pos}
theorem zbfb(ha:JE X a f)(hb:JE X (.BoolOp .And (b::rest) pos) f'):JE X (.BoolOp .And (a::b::rest) pos) (eAnd f f'):=⟨zbtw ha.out hb.out⟩
end
theorem zbkv(ha:JE X a f):JE X (.UnaryOp .Not a pos) (eNot f):=⟨zbtq ha.out⟩
theorem zlz{op}(h:JT X a t)(hop:op=.And\/op=.Or):JW X (.BoolOp op [a] pos) t:=⟨zbpk h.out hop⟩
section
variable {X:Cx}{a:Expr}{b:Expr}{rest:List Expr}{t:ST}{t':ST}{pos:Pos}
theorem zbay(ha:JT X a t)(hb:JW X (.BoolOp .And (b::rest) pos) t'):JW X (.BoolOp .And (a::b::rest) pos) (bAnd t t'):=⟨zbpl ha.out hb.out⟩
end
section
variable {X:Cx}{a:Expr}{b:Expr}{rest:List Expr}{t:ST}{t':ST}{pos:Pos}
theorem zyw(ha:JT X a t)(hb:JW X (.BoolOp .Or (b::rest) pos) t'):JW X (.BoolOp .Or (a::b::rest) pos) (bOr t t'):=⟨zbth ha.out hb.out⟩
end
theorem zpy(ha:JT X a t):JT X (.UnaryOp .Not a pos) (bNot t):=⟨zbpn ha.out⟩
theorem zbtu(hc:JT X c t)(ha:JE X a f)(hb:JE X b f'):JE X (.IfExp c a b pos) (eIf t f f'):=⟨d_if hc.out ha.out hb.out⟩
theorem zbs :JA X [] aC:=⟨zbqb⟩
theorem zfp{x1}(h:JA X es g):JE X (.Tuple es x1 pos) (aS g):=⟨zbtm h.out⟩
theorem zko(h:JA X es g):JE X (.List es pos) (eLst g):=⟨zbts h.out⟩
theorem zfq(h:JA X es g):JE X (.List es pos) (eLstM g):=⟨zbqe h.out⟩
theorem zuz :JO X none pNone:=⟨zbkl⟩
theorem zuy(he:JE X e f):JO X (some e) (pSome f):=⟨zbkk he.out⟩
theorem zkp(ha:JE X a f)(hb:JE X b f')(hs:PlainIx b):JE X (.Subscript a b pos) (aU oIx f f'):=⟨d_ix ha.out hb.out hs⟩
section
variable {X:Cx}{e:Expr}{f:SE}{pos:Pos}{lo:Option Expr}{hi:Option Expr}{l:DS->Store->Res (Option Int)}{h:DS->Store->Res (Option Int)}
theorem zbsc{p2:Pos}(he:JE X e f)(hl:JO X lo l)(hu:JO X hi h):JE X (.Subscript e (.Slice lo hi none p2) pos) (eSl f l h):=⟨d_sl he.out hl.out hu.out⟩
end
theorem zbm{x:Str}{id:String}(hc:CallR X (.builtin id) r)(hr:CaD X.K g r)(hg:Gl X x)(hm:X.mg x=none)(hv:bootBuiltins x=some (.builtin id))(ha:JA X (e::es) f)(hn:x≠"__name__":=by decide)(hdb:(x==("__debug__" : Str))=false:=by decide)(he:starEach (e::es) X.env=(false,eval e X.env)::starEach es X.env:=by rfl)(hpl:(backTo pos (starEach es X.env)).any (·.1)=false:=by rfl):JE X (.Call (.Name x p) (e::es) [] pos) (aE g f):=⟨zbld hc hr hg hm hv ha.out hn hdb he hpl⟩
theorem zfr{T:String}(hc:CallR X (.type T) r)(hr:CaD X.K g r)(hg:Gl X x)(hm:X.mg x=none)(hv:bootBuiltins x=some (.type T))(ha:JA X (e::es) f)(hn:x≠"__name__":=by decide)(hdb:(x==("__debug__" : Str))=false:=by decide)(he:starEach (e::es) X.env=(false,eval e X.env)::starEach es X.env:=by rfl)(hpl:(backTo pos (starEach es X.env)).any (·.1)=false:=by rfl):JE X (.Call (.Name x p) (e::es) [] pos) (aE g f):=⟨zbez hc hr hg hm hv ha.out hn hdb he hpl⟩
theorem zvc :JE X (.Dict [] [] pos) eDNew:=⟨zbqh⟩
theorem zbnw{X:Cx}(hu:X.A.units+1<cLine)(hi:JE X i g)(ho:JE X o f):JC X .In i o (aU (oDIn false) g f):=⟨zbsq hu hi.out ho.out⟩
theorem zbeh(h:JC X op a b t)(h1:behindInMarks op b=false:=by first|exact nobehind _ (by decide) (by decide)|rfl):JT X (.Compare a [op] [b] pos) (eB t):=⟨zbti h.out h1⟩
theorem zbbd{X:Cx}(hu:X.A.units+1<cLine)(ho:JE X o f)(hi:JE X i g)(hs:NoSl i):JE X (.Subscript o i pos) (aU oDGet f g):=⟨zbqi hu ho.out hi.out hs⟩
theorem zbex{X:Cx}(hu:X.A.units + 1<cLine)(ho:JE X o f)(he:JE X e g)(hf:JE X f' h)(m:M2 X o "get" apos e f' cpos):JE X (.Call (.Attribute o "get" apos) [e,f'] [] cpos) (eDGet2 f g h):=⟨zbla hu ho.out he.out hf.out m⟩
theorem zbkz{X:Cx}(hu:X.A.units + 1<cLine)(ho:JE X o f)(he:JE X e g)(m:M1 X o "pop" apos e cpos):JE X (.Call (.Attribute o "pop" apos) [e] [] cpos) (eDPop f g):=⟨zbqg hu ho.out he.out m⟩
theorem zob{X:Cx}{pos:Pos}(hu:X.A.units+1<cLine)(ho:JE X o f)(hi:JE X i g)(hv:JE X value h)(hs:swapsWith value (some (.Subscript o i pos')) pos.line X.env=pure false):JS X (.Assign [.Subscript o i pos'] value pos) (sDPut f g h):=⟨zbkh hu ho.out hi.out hv.out hs⟩
theorem zcd{apos:Pos}(ho:JE X o f)(ha:JA X (e::es) ga)(hbase:attributeBase o "append" X.env (eval o X.env)=eval o X.env:=by rfl)(hfew:((backTo cpos (starEach (e::es) X.env)).all (λx=>!x.1)&&(backToKw cpos (keywordEach [] X.env)).all (λx=>x.1.isSome)
 && decide ((e::es).length + ([]:List Keyword).length + (if([]:List Keyword).isEmpty then 0 else 1)<30))=true:=by rfl) (hline:(apos.endLine==cpos.line)=true:=by rfl) (hs:starEach (e::es) X.env=(false,eval e X.env)::starEach es X.env:=by rfl) (hplain:(backTo cpos (starEach es X.env)).any (·.1)=false:=by rfl):JE X (.Call (.Attribute o "append" apos) (e::es) [] cpos) (eAppend f ga):=⟨zbfa ho.out ha.out hbase hfew hline hs hplain⟩
theorem zqe{apos:Pos}(ho:JE X o f)(ha:JA X (e::es) ga)(hbase:attributeBase o "extend" X.env (eval o X.env)=eval o X.env:=by rfl)(hfew:((backTo cpos (starEach (e::es) X.env)).all (λx=>!x.1)&&(backToKw cpos (keywordEach [] X.env)).all (λx=>x.1.isSome)
 && decide ((e::es).length + ([]:List Keyword).length + (if([]:List Keyword).isEmpty then 0 else 1)<30))=true:=by rfl) (hline:(apos.endLine==cpos.line)=true:=by rfl) (hs:starEach (e::es) X.env=(false,eval e X.env)::starEach es X.env:=by rfl) (hplain:(backTo cpos (starEach es X.env)).any (·.1)=false:=by rfl):JE X (.Call (.Attribute o "extend" apos) (e::es) [] cpos) (eExtend f ga):=⟨zbev ho.out ha.out hbase hfew hline hs hplain⟩
theorem zbga(ho:JE X o f):JE X o (eFz f):=⟨d_fz ho.out⟩
theorem zbr :JB X [] sNx:=⟨zbpt⟩
theorem zyy :JS X (.Break pos) sBrk:=⟨zbeo⟩
theorem zt(he:JE X e f):JS X (.Return (some e) pos) (sRet f):=⟨zbpr he.out⟩
theorem zby{pos:Pos}(he:JE X e f)(hs:swapsWith e none pos.line X.env=pure false:=by rfl):JS X (.Expr e pos) (sDrop f):=⟨zbkg he.out hs⟩
theorem zqb{X:Cx}{pos:Pos} (hN:X.N.Nodup)(hi:X.N[i]?=some x)(hx:L2.Loc X.env.scope x)(he:JE X e f)(hs:swapsWith e (some (.Name x pos')) pos.line X.env=pure false:=by rfl)(hf:X.fn x=true\/X.env.scope.names.lookup x=some .local:=by first|exact .inl rfl|exact .inr rfl|assumption):JS X (.Assign [.Name x pos'] e pos) (aF i f):=⟨zbpq hN hi hx he.out hs hf⟩
theorem zc(h1:JS X sm s):JB X [sm] s:=⟨zbps h1.out⟩
section
variable {X:Cx}{sm:Stmt}{rest:List Stmt}{s:SS}{t:SS}
theorem zb(h1:JS X sm s)(h2:JB X rest t):JB X (sm::rest) (aD s t):=⟨zbki h1.out h2.out⟩
end
theorem zeb(hc:JT X c b)(ha:JB X a' s)(hb:JB X b' t):JS X (.If c a' b' pos) (sIf b s t):=⟨zbtj hc.out ha.out hb.out⟩
theorem zbkj{X:Cx} (hN:X.N.Nodup)(hi:X.N[i]?=some x)(hx:L2.Loc X.env.scope x)(he:JE X e f)(ho:PIp X op ti)(hr:IpD X.K g ti)(hf:X.fn x=true\/X.env.scope.names.lookup x=some .local:=by first|exact .inl rfl|exact .inr rfl|assumption):JS X (.AugAssign (.Name x pos') op e pos) (sAug i g f):=⟨zbpv hN hi hx he.out ho hr hf⟩
theorem zqa{pos:Pos}(he:JE X value h)(ho:JE X o f)(hi:JE X i g)(ha:∀v,assign (.Subscript o i pos') X.env v=(do
 let ov ← holding [v] (eval o X.env)
 let iv ← holding [v,ov] (eval i X.env)
 standAt pos'
 holding [v,ov,iv] (setItem ov iv v)
 release [v,ov,iv] []):=by intro _;rfl) (hs:swapsWithSole [.Subscript o i pos'] value pos.line X.env=pure false:=by rfl) (hw:swappedStores [.Subscript o i pos'] value X.env=pure none:=by rfl) (h1:(assignEach [.Subscript o i pos'] X.env).map (·.2)=[assign (.Subscript o i pos') X.env]:=by rfl):JS X (.Assign [.Subscript o i pos'] value pos) (sSetIx f g h):=⟨zbel he.out ho.out hi.out ha hs hw h1⟩
theorem zdk{X:Cx} (hN:X.N.Nodup)(hi:X.N[i]?=some x)(hx:L2.Loc X.env.scope x)(hf:X.fn x=true\/X.env.scope.names.lookup x=some .local:=by first|exact .inl rfl|exact .inr rfl|assumption):JG X (.Name x pos) (gN i):=⟨zbkq hN hi hx hf⟩
theorem zhv :JGs X [] gsNil:=⟨zbkp⟩
theorem zca(h1:JG X e t)(h2:JGs X es u)(hs:(assignEach (e::es) X.env).map (·.2)=assign e X.env::(assignEach es X.env).map (·.2):=by rfl):JGs X (e::es) (gsCons t u):=⟨zbes h1.out h2.out hs⟩
theorem zmd{X:Cx} (hc:X.calm=true)(h:JGs X es u)(hn:(assignEach es X.env).length=n:=by rfl)(hst:(assignEach es X.env).findIdx? (·.1)=none:=by rfl):JG X (.Tuple es k pos) (gT n u):=⟨zbqa hc h.out hn hst⟩
theorem zcn(hl:JE X l f):JI X tg l (aH f):=⟨zbpz hl.out⟩
theorem zfn(hg:Gl X "range")(hm:X.mg "range"=none)(ha:JA X [a] g)(hs:starEach [a] X.env=[(false,eval a X.env)]:=by rfl):JI X tg (.Call (.Name "range" p) [a] [] pos) (iR1 g):=⟨zza hg hm ha.out hs⟩
theorem zmc(hg:Gl X "range")(hm:X.mg "range"=none)(ha:JA X [a,b] g)(hs:starEach [a,b] X.env=[(false,eval a X.env),(false,eval b X.env)]:=by rfl)(hs2:starEach [b] X.env=[(false,eval b X.env)]:=by rfl):JI X tg (.Call (.Name "range" p) [a,b] [] pos) (iR2 g):=⟨zyz hg hm ha.out hs hs2⟩
theorem zber(hl:JE X l f):JI X tg l (iDict f):=⟨zbko hl.out⟩
theorem zbba{X:Cx}(hp:PassesOwn (model X.prog X.w) X.A X.env X.xe)(hc:X.calm=true)(hi:JI X tg iter it)(hg:JG X tg bd)(hb:JB X body b)(hs:∀x,foldedSetIterable iter X.env x=pure x:=by intro _;rfl):JS X (.For tg iter body [] pos) (sFor it bd b):=⟨zbpu hp hc hi.out hg.out hb.out hs⟩
theorem zfm{X:Cx}(hp:PassesOwn (model X.prog X.w) X.A X.env X.xe)(hc:JT X c t)(hb:JB X body b):JS X (.While c body [] pos) (sWhile t b):=⟨zbek hp hc.out hb.out⟩
theorem zmf{X:Cx}{N:List Str}(hcalm:X.calm=true)(hi:JI X tg iter it)(hg:∀cl C fp s H,JG (cxC X N scope cl C fp s H) tg bd)(hc:∀cl C fp s H,JIf (cxC X N scope cl C fp s H) ifs c)(he:∀cl C fp s H,JE (cxC X N scope cl C fp s H) elt f)(S:CompScope X N k is scope)(hs:∀x,foldedSetIterable iter X.env x=pure x:=by intro _;rfl):JE X (.ListComp elt [⟨tg,iter,ifs,0⟩] scope pos) (aG it k is bd c f):=⟨zbqj hcalm hi.out (λcl C fp s H=>(hg cl C fp s H).out) (λcl C fp s H=>(hc cl C fp s H).out) (λcl C fp s H=>(he cl C fp s H).out) S hs⟩
theorem zod :JIf X [] aI:=⟨zbkn⟩
theorem zoc(h:JT X c t):JIf X [c] t:=⟨zbkm h.out⟩
theorem zbbe{X:Cx}(c:CalD X.prog X.w X.K X.mg X.base x k ps F)(hn:∀ ds au v st', F ds au=.ok v st'->ds.length=ps.length)(hr:Room k X.A)(hg:Gl X x)(ha:JA X (e::es) g)(hdb:(x==("__debug__" : Str))=false:=by decide)(he:starEach (e::es) X.env=(false,eval e X.env)::starEach es X.env:=by rfl)(hpl:(backTo pos (starEach es X.env)).any (·.1)=false:=by rfl):JE X (.Call (.Name x p) (e::es) [] pos) (aE F g):=⟨zbqk c hn hr hg ha.out hdb he hpl⟩
theorem zvp{P:Program}{w:World}{K:Fg}{mg:Str->Option Value}{base h:Heap}{x:Str}{au:Stmt}{N ps:List Str}{k:Nat}{b:SS}(T:TopF K x au)(X:K.In h)(G:h.Ns mainGlobals mg)(S:FnScope N ps (defScope au))(bd:∀(kV doc pm:Value) (an:Option Addr) (cdv ct:Value) (us:List Value),us.length=ps.length->bindArgs (W.fnOf x x (defArgs au) (defBody au) (defScope au) .none kV doc pm an cdv ct) ⟨us,[]⟩=pure (ps.zip us))(hbody:∀(f:Addr) (cdv:Value) (A:Around) (outer:List Env) (s:Shared) (H:Hp) (E:XK),Room k (A.deeper (envOfC x (defScope au) s.heap.objs.size f cdv)) ->
 JB (cxOf CX0 P w K mg base N x (defScope au) f cdv A outer s H E).nox (defBody au) b):CalD P w K mg base x (k+1) ps (fnD N.length ps.length b):=zblm T X G S bd (λf cdv A outer s H E rr=>(hbody f cdv A outer s H E rr).out)
theorem zyx :JS X sm sStuck:=⟨zbem⟩
theorem zex(h:JE X a f)(he:∀whole,isTrue a X.env whole=(do let v ← whole;standAt a.pos;holding [v] (truthy v)):=by intro _;rfl):JT X a (eTru f):=⟨zbpm h.out he⟩
theorem zbey{X:Cx}{N:List Str}(hcalm:X.calm=true)(hi:JI X tg iter it)(hg:∀cl C fp s H,JG (cxC X N scope cl C fp s H) tg bd)(hc:∀cl C fp s H,JIf (cxC X N scope cl C fp s H) ifs c)(he:∀cl C fp s H,JE (cxC X N scope cl C fp s H) elt f)(S:CompScope X N k is scope)(hs:∀x,foldedSetIterable iter X.env x=pure x:=by intro _;rfl):JE X (.ListComp elt [⟨tg,iter,ifs,0⟩] scope pos) (eCompM it k is bd c f):=⟨zblc hcalm hi.out (λcl C fp s H=>(hg cl C fp s H).out) (λcl C fp s H=>(hc cl C fp s H).out) (λcl C fp s H=>(he cl C fp s H).out) S hs⟩
theorem zl(ha:JE X e f)(hr:JA X es g)(hp:plainE e=true:=by rfl):JA X (e::es) (aB f g):=⟨zbet ha.out hr.out hp⟩
end Dd
namespace L2
open PySem PySem.Spec PyProof.Rows
section
open PySem.AutoSeq1
end
end L2
namespace Dd
open PySem L2
end Dd
namespace L2
open PySem PySem.Spec PyProof.Rows
end L2
namespace Dd
open PySem L2 PyProof.Rows
end Dd
namespace L2
open PySem PySem.Spec PyProof.Rows
section
open PySem.AutoSeq1
variable (l:Addr)(items:Array Value)(n:Nat)(dd:Option Addr)(sl:Array (Option Value))(x:Int)(u:Tok)
end
end L2
namespace Dd
open PySem L2 PyProof.Rows
abbrev oOrI:=oI (λ_ _=>True) λi j=>.int (Builtin.bitOr i j)
abbrev oXorI:=oI (λ_ _=>True) λi j=>.int (Builtin.bitXor i j)
end Dd
namespace L2
open PySem PySem.Spec PyProof.Rows PySem.W
theorem zqu{ns:List Int} (r:Vals (ns.map V.int) us) (hi:i<ns.length):∃t,us.getD i Value.none=Value.int (ns.getD i 0) t:=by
 have e:(ns.map V.int)[i]?=some (V.int ns[i]):=by rw[xcn,xbe hi];rfl
 obtain⟨u,h1,t,h2⟩:=r.get e;refine⟨t,?_⟩;rw[xbr,h1,xbr,xbe hi];exact h2
theorem zbgo{ns:List Int} (r:Vals (ns.map V.int) us):∀v∈us,∃i t,v=Value.int i t:=λv hv=>by
 obtain⟨i,hi,rfl⟩:=xes hv;have hl:=r.length;rw[xbc] at hl;obtain⟨t,e⟩:=zqu r (i:=i) (by lia);rw[xbr,xbe hi] at e;exact⟨_,t,e⟩
theorem zpa(a b:Int):HT.lexLt [a] [b]=decide (a<b):=by
 by_cases h:a=b
 ·subst h;simp[HT.lexLt]
 ·simp[HT.lexLt,h]
noncomputable abbrev ones(ns:List Int):List (List Int):=ns.map λn=>[n]
theorem zgd{ns:List Int} (hi:i<ns.length):(ones ns).getD i []=[ns.getD i 0]:=by
 rw[xbr,xcn,xbe hi,xbr,xbe hi]
 rfl
theorem zbfr{ns:List Int} (h2:2<=ns.length)(r:Vals (ns.map V.int) us):Srt.Answers P w B (Srt.rank (ones ns)) us sg:=by
 have hl:=r.length;rw[xbc] at hl;refine⟨oneType',λR hR=>?_,λi j C hi hj hC=>?_⟩
 ·exact kas_kind (T:=.type "int") (by lia) (λv hv=>by
   obtain⟨i,t,rfl⟩:=zbgo r v hv
   exact Looks.now) (by decide) (by decide) hR
 ·obtain⟨t,e1⟩:=zqu r (i:=i) (by lia);obtain⟨t2,e2⟩:=zqu r (i:=j) (by lia);unfold kas_ask;rw[e1,e2];rw[Srt.zlk (by rw[xbc];lia) (by rw[xbc];lia),zgd (by lia),zgd (by lia),zpa] at hC;rw[keyLt'_oneType];exact oneLt_int hC
theorem zbfd{ns:List Int} (r:Vals (ns.map V.int) us):Srt.Coh (Srt.rank (ones ns)) us:=λi j hi hj e=>by
 have hl:=r.length;rw[xbc] at hl;obtain⟨t,e1⟩:=zqu r (i:=i) (by lia);obtain⟨t2,e2⟩:=zqu r (i:=j) (by lia);rw[e1,e2] at e;have:ns.getD i 0=ns.getD j 0:=by injection e
 unfold Srt.rank;rw[zgd (by lia),zgd (by lia),this]
theorem zmu{α:Type}{f:α->V}{g:α->Value}:∀{l:List α},(∀a∈l,RelV (f a) (g a))->Vals (l.map f) (l.map g)
 | [],_=>.nil
 | a::l,h=>.cons (h a xbp) (zmu λb hb=>h b (xbo _ hb))
theorem zbcz{ns:List Int}{us:List Value}(r:Vals (ns.map V.int) us){p:Array Nat}(p1:p.Perm (List.toArray (List.range ns.length)))(p2:Srt.Up (Srt.rank (ones ns)) p ns.length) :
  ∃ms:List Int,ms.Perm ns/\ms.Pairwise (·<=·)/\Vals (ms.map V.int) (Srt.outOf us p).toList:=by
 have hl:=r.length;rw[xbc] at hl;have hps:p.size=ns.length:=by rw[p1.size_eq];simp
 have sm:∀i∈p.toList,i<ns.length:=λi hi=>by
  have h3:=(p1.mem_iff (a:=i)).mp (by rw[← xkv];exact hi);exact xck.mp (List.mem_toArray.mp h3)
 refine⟨p.toList.map λi=>ns.getD i 0,?_,?_,?_⟩
 ·have e1:p.toList.Perm (List.range ns.length):=by
   have:=xfb.mp p1
   simpa using this
  have e2:=e1.map λi=>ns.getD i 0
  have e3:((List.range ns.length).map λi=>ns.getD i 0)=ns:=by
   apply xmh
   ·simp
   ·intro i h1 h2;simp[xbr,h2]
  rw[e3] at e2;exact e2
 ·rw[xfh];intro i j hi hj hij;rw[xkm,xkm];rw[xbc] at hi hj;have hi':i<p.size:=by simpa using hi
  have hj':j<p.size:=by simpa using hj
  have hu:=p2 i j (xbu hij) (by lia);have g:∀k,(hk:k<p.toList.length)->p.getD k 0=p.toList[k]:=λk hk=>by
   have hk':k<p.size:=by simpa using hk
   rw[xcq,xda hk'];simp
  have si:=sm _ (xdi hi);have sj:=sm _ (xdi hj);have lk:=Srt.zlk (ks:=ones ns) (i:=p.toList[j]) (j:=p.toList[i]) (by rw[xbc];exact sj) (by rw[xbc];exact si);have hno:Srt.lt (Srt.rank (ones ns)) p.toList[j] p.toList[i]=false:=by
   refine xcc λz=>?_
   unfold Srt.At at hu;rw[g i hi,g j hj] at hu;lia
  rw[hno,zgd sj,zgd si,zpa] at lk;have:=xlr lk.symm;lia
 ·unfold Srt.outOf;rw[xcw];show Vals _ (p.toList.map λi=>us.getD i Value.none);refine zmu λi hi=>?_
  obtain⟨t,e⟩:=zqu r (sm i hi);exact⟨t,e⟩
end L2
namespace Dd
open PySem L2 PyProof.Rows
noncomputable def sortI(l:List Int):List Int:=l.mergeSort λa b=>decide (a<=b)
theorem zhd(l:List Int):(sortI l).Perm l:=List.mergeSort_perm _ _
theorem zbby(l:List Int):(sortI l).Pairwise (·<=·):=by
 have:=List.pairwise_mergeSort (le:=λa b:Int=>decide (a<=b)) (λa b c h1 h2=>by simp at *;lia) (λa b=>by simp;lia) l;exact this.imp λh=>by simpa using h
theorem zbbz{a:List Int}(p:a.Perm b)(h:a.Pairwise (·<=·)):a=sortI b :=
 (p.trans (zhd b).symm).eq_of_pairwise (λx y _ _ h1 h2=>by lia) h (zbby b)
end Dd
namespace L2
open PySem PySem.Spec PyProof.Rows
end L2
namespace Dd
open PySem L2 PyProof.Rows
end Dd
namespace Dd
variable {α:Type}
section
variable {motive:List α->Prop}
@[elab_as_elim] theorem len0 (us:List α) (hl:us.length=0) (h:motive []):motive us:=by rw[List.eq_nil_of_length_eq_zero hl];exact h
@[elab_as_elim] theorem lenS {n:Nat} (us:List α) (hl:us.length=n+1) (h:∀a us,us.length=n->motive (a::us)):motive us:=by
 cases us with
 | nil=>cases hl
 | cons a us=>exact h a us (Nat.succ.inj hl)
@[elab_as_elim] theorem len1 (us:List α) (hl:us.length=1) (h:∀a,motive [a]):motive us:=lenS us hl λa us hl=>len0 us hl (h a)
@[elab_as_elim] theorem len2 (us:List α) (hl:us.length=2) (h:∀a b,motive [a,b]):motive us:=lenS us hl λa us hl=>len1 us hl (h a)
@[elab_as_elim] theorem len3 (us:List α) (hl:us.length=3) (h:∀a b c,motive [a,b,c]):motive us:=lenS us hl λa us hl=>len2 us hl (h a)
end
end Dd
namespace Dd
open PySem L2
def iterF(s:DFn->DFn):Nat->DFn
 | 0=>λ_ _=>.stuck
 | n+1=>s (iterF s n)
theorem zvo{K:Fg} {N:List Str} (T:TopF K x au)(X:K.In h)(G:h.Ns mainGlobals mg)(S:FnScope N ps (defScope au))
  (bd:∀(kV doc pm:Value) (an:Option Addr) (cdv ct:Value) (us:List Value),us.length=ps.length->bindArgs (W.fnOf x x (defArgs au) (defBody au) (defScope au) .none kV doc pm an cdv ct) ⟨us,[]⟩=pure (ps.zip us)):CalD P w K mg base x (k+1) ps (λ_ _=>.stuck) :=
 zqg T X G S bd (λvs H Q E hh=>by obtain⟨ρ,ds,au,v,st',a,rp,e,hl,q⟩:=hh;exact hl) λf cdv A outer s H vs Q E hr hh=>by obtain⟨ρ,ds,au,v,st',a,rp,e,hl,q⟩:=hh;cases e
theorem CalD.iter{K:Fg} {L:Nat} (h0:CalD P w K mg base x L ps (λ_ _=>.stuck))(hl:∀F ds au v st',s F ds au=.ok v st'->ds.length=ps.length)
  (hs:∀F j,L<=j->(∀ds au v st',F ds au=.ok v st'->ds.length=ps.length)->CalD P w K mg base x j ps F->CalD P w K mg base x (j+1) ps (s F)):∀n,CalD P w K mg base x (L+n) ps (iterF s n):=λn=>by
 have key:∀n,(∀ds au v st',iterF s n ds au=.ok v st'->ds.length=ps.length)/\CalD P w K mg base x (L+n) ps (iterF s n):=λn=>by
  induction n with
  | zero=>exact⟨λ_ _ _ _ h=>(by cases h),h0⟩
  | succ n ih=>exact⟨hl _,hs _ _ (xby _ _) ih.1 ih.2⟩
 exact(key n).2
end Dd
namespace L2
open PySem PySem.Spec PyProof.Rows
end L2
namespace Dd
open PySem L2 PyProof.Rows
end Dd
namespace L2
open PySem PySem.Spec PyProof.Rows
end L2
namespace Dd
open PySem L2
end Dd
namespace Dd
open PySem L2 PyProof.Rows
end Dd
namespace L2
open PySem PySem.Spec PyProof.Rows
end L2
namespace Dd
open PySem L2
end Dd
namespace L2
open PySem PySem.Spec PyProof.Rows
end L2
namespace Dd
open PySem L2
end Dd
namespace L2
open PySem PySem.Spec PyProof.Rows
end L2
namespace Dd
open PySem L2
end Dd
namespace L2
open PySem PySem.Spec PyProof.Rows
def tRaise(X:Cx) (aW:List (Addr×Obj)) (C:Addr) (ta:TA):TS:=λ_ σ H=>ta σ H λvs H1=>vs.length<=sizeLine /\
 ∀(s:Shared) (us:List Value) (h':Heap) (e:Addr),Inv X aW σ H1 s->Vals vs us->Heap.MadeExcOf s.heap h' e (.ref C) us->X.xe (.ref e) {s with heap:=h'}
theorem zbck{X:Cx}(O:OwnCls x C bmB newId X.mg X.base)(Fn:ExcBaseFacts Bn newId inN bmN)(hBn:bmB.contains (.type Bn)=true)(FB:ExcBaseFacts B nid initId bmB)(hc:X.calm=true)(hg:Gl X x)(ha:PA X (e::es) ta)
  (hd:(x==("__debug__" : Str))=false:=by decide)(he:starEach (e::es) X.env=(false,eval e X.env)::starEach es X.env:=by rfl)(hpl:(backTo cpos (starEach es X.env)).any (·.1)=false:=by rfl)
   {D:Ends}(I:Inv X aW σ H s)(h:tRaise X aW C ta D σ H) :
  wpAny (model X.prog X.w) X.A (exec (.Raise (some (.Call (.Name x np) (e::es) [] cpos)) none pos) X.env) (SP X aW D) X.xe s:=by
 obtain⟨tl,N,nm,q,bs,hdct,sn,sub,ab,col,dd,k0,k1,k2,k3,k5,mN,hC,hN,hni,T⟩:=O.obj;refine wpAny_Raise_call_subU (C:=C) (nm:=nm) (q:=q) (N:=N) (bs:=bs) (bm:=tl) (hdct:=hdct) (sn:=sn) (sub:=sub) (ab:=ab) (col:=col) (dd:=dd) (k0:=k0) (k1:=k1) (k2:=k2) (k3:=k3) (k5:=k5)
  Fn hBn FB (mN:=mN) (T.hasType FB.hasBase) (I.ok.hd hc) (by rw[he];show(false||(backTo cpos (starEach es X.env)).any (·.1))=false;rw[hpl];rfl) hni (zjf I hg O.bound ⟨rfl,?_⟩ hd)
 have h2:=ha cpos aW s σ H _ I h;rw[he] at h2 ⊢;refine xis (xdw h2 (λus s2 hq=>?_) λ_ _ y=>y);obtain⟨vs,H1,I1,rv,hz,q⟩:=hq;exact⟨rfl,by rw[← rv.length];exact hz,I1.bk _ _ hC,hN.keeps I1.bk,T.keeps I1.bk,λh' e hm=>q s2 us h' e I1 rv hm⟩
noncomputable def Rec(h:Heap) (e:Addr) (cls:Value) (dx:Option Addr) (tb:Value):Prop:=∃oe vs,h.get? e=some oe/\oe.cls=cls/\oe.dict=dx/\oe.data=.fields vs/\vs[1]?=some tb/\vs[2]?=some .none
noncomputable def RecT(h:Heap) (T:Addr) (x:Value):Prop:=∃o ts,h.get? T=some o/\o.data=.fields ts/\ts[3]?=some x
structure Mv (ch fs:List Addr) (h h':Heap):Prop where
 keep:∀b o,b∉ch->b∉fs->h.get? b=some o->h'.get? b=some o
 slot:∀b o,b∉ch->b∈fs->h.get? b=some o->∃sl,h'.get? b=some {o with slots:=sl}
theorem Mv.trans{ch:List Addr} (a:Mv ch fs h h1)(b:Mv ch fs h1 h2):Mv ch fs h h2 :=
 ⟨λc o x y e=>b.keep c o x y (a.keep c o x y e),λc o x y e=>let ⟨_,e1⟩:=a.slot c o x y e;let ⟨sl,e2⟩:=b.slot c _ x y e1;⟨sl,e2⟩⟩
theorem Mv.mono{ch:List Addr} (a:Mv ch fs h h')(k:∀b∈ch,b∈ch'):Mv ch' fs h h' :=
 ⟨λb o x y e=>a.keep b o (λz=>x (k b z)) y e,λb o x y e=>a.slot b o (λz=>x (k b z)) y e⟩
theorem Mv.set :Mv [a] fs h (h.update a f) :=
 ⟨λb o x _ e=>by rw[xdv _ _ (by rintro rfl;exact x (xbk.mpr rfl))];exact e,
  λb o x _ e=>⟨o.slots,by rw[xdv _ _ (by rintro rfl;exact x (xbk.mpr rfl))];exact e⟩⟩
theorem zsw{h:Heap} (he:h.get? e=some o)(hd:o.data=.fields vs) :
 (h.update e (Obj.mapFields (·.setIfInBounds i x))).get? e=some (o.mapFields (·.setIfInBounds i x)):=xeu _ he (xhd (xfk hd _))
theorem zuc(o:Obj)(f:Array Value->Array Value):(o.mapFields f).cls=o.cls/\(o.mapFields f).dict=o.dict:=by
 obtain⟨a,b,c,d⟩:=o;cases c<;>exact⟨rfl,rfl⟩
theorem zhr{M:Model}{s:Shared}{T:Addr} (r:Rec s.heap e cls dx (.ref T))(t:RecT s.heap T x)(hne:T≠e)
  (h:∀h',Mv [T] fs s.heap h'->Rec h' e cls dx (.ref T)->RecT h' T .none->Q () {s with heap:=h'}):wpAny M A (setFlight (.ref e) none) Q E s:=by
 obtain⟨oe,vs,e1,e2,e3,e4,e5,e6⟩:=r;obtain⟨o,ts,t1,t2,t3⟩:=t;have sz:=(xfa.mp t3).1;unfold setFlight;refine xba (xje e1 e4 e5 ?_);rw[if_pos (by simp)];refine xgv t1 t2 sz (h _ .set ⟨oe,vs,?_,e2,e3,e4,e5,e6⟩ ⟨_,_,zsw t1 t2,xfk t2 _,?_⟩)
 ·rw[xdv _ _ hne];exact e1
 ·simp[sz]
theorem ztw{M:Model}{A:Around}{s:Shared} {L:Addr} (hfr:A.frames=some (env::outer))(hl:s.heap.FunFrames base (env::outer))(hf:env.frame=some L)
  (he:s.heap.get? e=some oe)(hd:oe.data=.fields vs)(hz:1<vs.size)(h2:vs[2]?=some .none)
  (h:∀h',Mv [e] (frs (env::outer)) s.heap h'->Rec h' e oe.cls oe.dict (.ref s.heap.objs.size)->RecT h' s.heap.objs.size (rawInt L)->Q () {s with heap:=h'}) :
  wpAny M A (do setField (.ref e) 1 (← EntryCells.newEntry head (← frameOf env) .none (rawInt L) .none (← entryPlaceOf L nx))) Q E s:=by
 have ne:e∉frs (env::outer):=λhm=>by
  obtain⟨_,o,ho,hn⟩:=hl.mem hm;rw[he] at ho;cases ho;exact hn vs hd
 refine xba (wpAny_frameOf_fun hfr hl hf λh1 q1=>xba (wpAny_entryPlaceOf λpl hp=>?_));unfold EntryCells.newEntry newFields;refine xba (xea ?_ (by exact hp.sizeOk5 _ _ _ _ _));have e1:h1.get? e=some oe:=(q1.2.1 e ne).trans he;have sz:h1.objs.size=s.heap.objs.size:=q1.1;have e2:=λob:Obj=>xbg (h:=h1) ob e1
 refine xgv (e2 _) hd hz (h _ ⟨λb o x y q=>?_,λb o x y q=>?_⟩ ⟨_,_,zsw (e2 _) hd,(zuc _ _).1,(zuc _ _).2,xfk hd _,by rw[sz];simp[hz],by rw[xht (by decide)];exact h2⟩ ?_)
 ·rw[xdv _ _ (by rintro rfl;exact x (xbk.mpr rfl))];exact xbg _ ((q1.2.1 b y).trans q)
 ·obtain⟨sl,z⟩:=q1.2.2 b o q;refine⟨sl,?_⟩;rw[xdv _ _ (by rintro rfl;exact x (xbk.mpr rfl))];exact xbg _ z
 ·have ne2:e≠h1.objs.size:=xbv (xbq e1);rw[← sz];refine⟨_,_,(xdv _ _ ne2).trans (xbw h1 rfl),rfl,?_⟩
  ·first
    | (simp;done)
    | (rcases hp with rfl|⟨_,_,_,_,_,_,_,rfl⟩<;>simp)
theorem ztx{M:Model}{A:Around}{s:Shared} {L:Addr} (hfr:A.frames=some (env::outer))(hl:s.heap.FunFrames base (env::outer))(hf:env.frame=some L)
  (r:Rec s.heap e cls dx .none)(h:∀h',Mv [e] (frs (env::outer)) s.heap h'->Rec h' e cls dx (.ref s.heap.objs.size)->RecT h' s.heap.objs.size (rawInt L)->Q () {s with heap:=h'}) :
  wpAny M A (noteFrame (.ref e) env) Q E s:=by
 obtain⟨oe,vs,e1,e2,e3,e4,e5,e6⟩:=r;subst e2 e3;unfold noteFrame;simp only[hf];refine xba (xje e1 e4 e5 ?_);rw[if_neg (by decide)];exact ztw hfr hl hf e1 e4 (xfa.mp e5).1 e6 h
theorem zxw{M:Model}{A:Around}{s:Shared} {L T:Addr} (hfr:A.frames=some (env::outer))(hl:s.heap.FunFrames base (env::outer))(hf:env.frame=some L)
  (r:Rec s.heap e cls dx (.ref T))(t:RecT s.heap T .none)(hne:T≠e)
  (h:∀h' T',s.heap.get? T'=none->(∃o,h'.get? T=some o)->Mv [e,T] (frs (env::outer)) s.heap h'->Rec h' e cls dx (.ref T')->RecT h' T' (rawInt L)->Q () {s with heap:=h'}) :
  wpAny M A (noteFrame (.ref e) env) Q E s:=by
 obtain⟨oe,vs,e1,e2,e3,e4,e5,e6⟩:=r;obtain⟨o,ts,t1,t2,t3⟩:=t;subst e2 e3;unfold noteFrame;simp only[hf];refine xba (xje e1 e4 e5 ?_);rw[if_pos (by simp)];refine xba (xje t1 t2 t3 ?_);rw[if_neg (by simp[rawInt])];refine xba (xgv t1 t2 (xfa.mp t3).1 ?_);have mv:Mv [e,T] (frs (env::outer)) s.heap (s.heap.update T (Obj.mapFields (·.setIfInBounds 3 .none))):=Mv.set.mono λb z=>by
  rw[xbk] at z;subst z;exact xbo _ xbp
 have e1':(s.heap.update T (Obj.mapFields (·.setIfInBounds 3 .none))).get? e=some oe:=by rw[xdv _ _ hne];exact e1
 have nf:T∉frs (env::outer):=λhm=>by
  obtain⟨_,ob,hb,hn⟩:=hl.mem hm;rw[t1] at hb;cases hb;exact hn ts t2
 have sz:(s.heap.update T (Obj.mapFields (·.setIfInBounds 3 Value.none))).objs.size=s.heap.objs.size:=by simp[Heap.update]
 refine ztw (s:={s with heap:=_}) (base:=base) hfr (hl.of_keeps λb ob hb hn=>?_) hf e1' e4 (xfa.mp e5).1 e6 λh' m1 r1 t1'=>h h' s.heap.objs.size (Heap.get?_none_of_le (xbf _)) ⟨_,m1.keep T _ (λz=>hne (xbk.mp z)) nf (zsw t1 t2)⟩ (mv.trans (m1.mono λb z=>?_)) (by rw[← sz];exact r1) (by rw[← sz];exact t1')
 ·refine⟨ob,?_,rfl⟩;rw[xdv _ _ (by rintro rfl;rw[t1] at hb;cases hb;exact hn _ t2)];exact hb
 ·rw[xbk] at z;subst z;exact xbp
noncomputable def HX:HO:=.ext λ_=>True
def trk2(H:Hp) (ea T:Addr):Hp:=upd (upd H T HX) ea HX
structure Flies (H:Hp) (h:Heap) (ea T:Addr) (cls:Value) (dx:Option Addr):Prop where
 r:Rec h ea cls dx (.ref T)
 t:RecT h T .none
 ne:T≠ea
 fe:H ea=none
 ft:H T=none
theorem zce{T:Addr}:trk2 H ea T b=some HX/\(b=ea\/b=T)\/(b≠ea/\b≠T/\trk2 H ea T b=H b):=by
 unfold trk2;by_cases h1:b=ea
 ·exact .inl ⟨by rw[h1,zh],.inl h1⟩
 ·by_cases h2:b=T
  ·exact .inl ⟨by rw[zj h1,h2,zh],.inr h2⟩
  ·exact .inr ⟨h1,h2,by rw[zj h1,zj h2]⟩
theorem zbdx{h:Heap} (e:∃o,h.get? a=some o):ObjOk P w H h a HX:=⟨trivial,e,λ_ _ _ _=>trivial⟩
theorem ObjOk.here(x:ObjOk P w H h a o):∃ob,h.get? a=some ob:=by
 cases o with
 | lst xs=>obtain⟨_,_,_,_,e⟩:=x;exact⟨_,e⟩
 | tup xs=>obtain⟨_,_,_,p⟩:=x;obtain⟨_,e,_⟩:=p;exact⟨_,e⟩
 | dK kvs=>obtain⟨_,_,_,_,_,_,_,e,_⟩:=x;exact⟨_,e⟩
 | dT kvs=>obtain⟨_,_,_,_,_,_,_,e,_⟩:=x;exact⟨_,e⟩
 | set S n=>obtain⟨_,_,_,_,e,_⟩:=x;exact⟨_,e⟩
 | ins C dx fs=>exact⟨_,x.2.2.2.1⟩
 | own y=>exact x
 | xd fs=>obtain⟨_,⟨_,_,_,e,_⟩,_⟩:=x;exact⟨_,e⟩
 | rng lo hi=>obtain⟨_,_,_,e⟩:=x;exact⟨_,e⟩
 | frz ob u=>exact⟨_,x.1⟩
 | tbl ps=>exact⟨_,x⟩
 | met f y=>exact⟨_,x⟩
 | ext φ=>exact x.2.1
theorem Inv.flew{h':Heap}{T:Addr}(I:Inv X aW τ H0 s)(sub:∀b,H0 b=H b\/(H0 b=some HX/\H b=none))
  (new:∀b,b=ea\/b=T->s.heap.get? b=none\/H0 b=some HX)(keep:∀b o,H0 b≠some HX->b∉frs X.stack->s.heap.get? b=some o->h'.get? b=some o)
  (slot:∀b o,H0 b≠some HX->b∈frs X.stack->s.heap.get? b=some o->∃sl,h'.get? b=some {o with slots:=sl})(there:∀b o,s.heap.get? b=some o->∃o',h'.get? b=some o')
  (xe:∃o,h'.get? ea=some o)(xt:∃o,h'.get? T=some o):Inv X aW τ (trk2 H ea T) {s with heap:=h'}:=by
 have same:∀b o,H0 b=some o->o≠HX->trk2 H ea T b=some o:=λb o e n=>by
  obtain⟨ob,hb⟩:∃ob,s.heap.get? b=some ob:=by
   have:=I.hok.lt e;exact(I.hok b o e).here
  rcases zce (H:=H) (ea:=ea) (T:=T) (b:=b) with⟨_,z⟩|⟨_,_,z⟩
  ·rcases new b z with y|y
   ·rw[hb] at y;cases y
   ·rw[e] at y;exact absurd (xch y) n
  ·rw[z];rcases sub b with y|⟨y,_⟩
   ·rw[← y];exact e
   ·rw[e] at y;exact absurd (xch y) n
 refine I.call (g':=s.gens) (t':=s.toks) (d':=s.drawn) (ch:=[]) ⟨λb o e n hb _=>keep b o (by rw[n];intro z;cases z) hb e,λb o e n hb _=>slot b o (by rw[n];intro z;cases z) hb e,λb o e n _=>?_,λb o e _=>there b o e,λb xs e=>same b _ e (by intro z;cases z),λb o u e=>same b _ e (by intro z;cases z),λb ps e=>⟨#[],by rw[xid];exact same b _ e (by intro z;cases z)⟩⟩ (λb o e=>?_) I.bare (λ_ z=>nomatch z)
 ·rcases zce (H:=H) (ea:=ea) (T:=T) (b:=b) with⟨_,z⟩|⟨_,_,z⟩
  ·rcases new b z with y|y
   ·rw[e] at y;cases y
   ·rw[n] at y;cases y
  ·rw[z];rcases sub b with y|⟨y,_⟩
   ·rw[← y];exact n
   ·rw[n] at y;cases y
 ·rcases zce (H:=H) (ea:=ea) (T:=T) (b:=b) with⟨z,y⟩|⟨_,_,z⟩
  ·rw[z] at e;cases e
   rcases y with rfl|rfl
   ·exact zbdx xe
   ·exact zbdx xt
  ·rw[z] at e;have e0:H0 b=some o:=by
    rcases sub b with y|⟨_,y⟩
    ·rw[y];exact e
    ·rw[e] at y;cases y
   by_cases hn:o=HX
   ·subst hn;obtain⟨ob,hb⟩:=(I.hok b _ e0).here;exact zbdx (there b ob hb)
   ·have nx:∀c,c=b\/H0 c=some (.own b)->H0 c≠some HX/\c∉frs X.stack:=λc hc=>by
     rcases hc with rfl|hc
     ·exact⟨by rw[e0];exact λz=>hn (xch z),λz=>by rw[I.stkFree c z] at e0;cases e0⟩
     ·exact⟨by rw[hc];exact λz=>(nomatch z),λz=>by rw[I.stkFree c z] at hc;cases hc⟩
    exact(I.hok b o e0).stay (λc u hc q=>keep c u (nx c hc).1 (nx c hc).2 q) (λc hc=>same c _ hc (by intro z;cases z)) (λc xs hc=>same c _ hc (by intro z;cases z))
theorem znz{X:Cx} {T:Addr} {s:Shared}{M:Model} (au:X.stack=X.env::X.outer)(fr:X.env.frame=some X.env.locals)(F:Flies H s.heap ea T cls dx)(I:Inv X aW τ (trk2 H ea T) s) :
  wpAny M X.A (noteFrame (.ref ea) X.env) (λ_ s2=>∀(A':Around) (E:Value->Shared->Prop),wpAny M A' (setFlight (.ref ea) none) (λ_ s3=>∃T1,Flies H s3.heap ea T1 cls dx/\Inv X aW τ (trk2 H ea T1) s3) E s2) E' s:=by
 have hs:=I.stack;rw[au] at hs;have nx:∀b,trk2 H ea T b≠some HX->b∉[ea,T]:=λb h z=>by
  simp only[xbn,xhq,xmq] at z;rcases zce (H:=H) (ea:=ea) (T:=T) (b:=b) with⟨y,_⟩|⟨y1,y2,_⟩
  ·exact h y
  ·rcases z with z|z
   ·exact y1 z
   ·exact y2 z
 refine zxw (base:=X.base) (I.ok.frames.trans (by rw[au])) hs fr F.r F.t F.ne λh1 T1 nT oT m1 r1 t1 A' E=>?_
 rw[← au] at m1;have ne1:T1≠ea:=by
  rintro rfl;obtain⟨_,_,q,_⟩:=F.r;rw[nT] at q;cases q
 refine zhr (fs:=frs X.stack) r1 t1 ne1 λh2 m2 r2 t2=>?_
 have nT1:∀b o,s.heap.get? b=some o->b∉[T1]:=λb o q z=>by
  rw[xbk] at z;subst z;rw[nT] at q;cases q
 have I2:=I.flew (h':=h2) (H:=H) (ea:=ea) (T:=T1) (λb=>by
   rcases zce (H:=H) (ea:=ea) (T:=T) (b:=b) with⟨y,z⟩|⟨_,_,y⟩
   ·exact .inr ⟨y,by rcases z with rfl|rfl<;>first|exact F.fe|exact F.ft⟩
   ·exact .inl y) (λb hb=>by
   rcases hb with rfl|rfl
   ·exact .inr (by unfold trk2;rw[zh])
   ·exact .inl nT) (λb o hb hf q=>m2.keep b o (nT1 b o q) hf (m1.keep b o (nx b hb) hf q)) (λb o hb hf q=>by
   obtain⟨sl,q1⟩:=m1.slot b o (nx b hb) hf q;obtain⟨sl2,q2⟩:=m2.slot b _ (nT1 b o q) hf q1;exact⟨sl2,q2⟩) (λb o q=>by
   have q1:∃o',h1.get? b=some o':=by
    by_cases hb:b∈[ea,T]
    ·simp only[xbn,xhq,xmq] at hb;rcases hb with rfl|rfl
     ·obtain⟨_,_,y,_⟩:=r1;exact⟨_,y⟩
     ·exact oT
    ·by_cases hf:b∈frs X.stack
     ·obtain⟨sl,q1⟩:=m1.slot b o hb hf q;exact⟨_,q1⟩
     ·exact⟨_,m1.keep b o hb hf q⟩
   obtain⟨o1,q1⟩:=q1;by_cases hf:b∈frs X.stack
   ·obtain⟨sl,q2⟩:=m2.slot b _ (nT1 b o q) hf q1;exact⟨_,q2⟩
   ·exact⟨_,m2.keep b _ (nT1 b o q) hf q1⟩) (by obtain⟨_,_,y,_⟩:=r2;exact⟨_,y⟩) (by obtain⟨_,_,y,_⟩:=t2;exact⟨_,y⟩)
 have fT1:H T1=none:=by
  cases q:H T1 with
  | none=>rfl
  | some o =>
   have q':trk2 H ea T T1=some o:=by
    rcases zce (H:=H) (ea:=ea) (T:=T) (b:=T1) with⟨_,z⟩|⟨_,_,y⟩
    ·rcases z with z|z
     ·exact absurd z ne1
     ·rw[z,F.ft] at q;cases q
    ·rw[y];exact q
   obtain⟨ob,hb⟩:=(I.hok T1 o q').here;rw[nT] at hb;cases hb
 exact⟨T1,⟨r2,t2,ne1,F.fe,fT1⟩,I2⟩
theorem zbjv{T:Addr} {s:Shared}{M:Model} (F:Flies H s.heap ea T cls dx)(I:Inv X aW τ (trk2 H ea T) s)
  (h:∀s3,Flies H s3.heap ea T cls dx->Inv X aW τ (trk2 H ea T) s3->Q () s3):wpAny M A (setFlight (.ref ea) none) Q E' s:=by
 refine zhr (fs:=frs X.stack) F.r F.t F.ne λh2 m2 r2 t2=>?_
 have hT:trk2 H ea T T=some HX:=by unfold trk2;rw[zj F.ne,zh]
 have nT:∀b,trk2 H ea T b≠some HX->b∉[T]:=λb h z=>by
  rw[xbk] at z;subst z;exact h hT
 refine h _ ⟨r2,t2,F.ne,F.fe,F.ft⟩ (I.flew (h':=h2) (H:=H) (ea:=ea) (T:=T) (λb=>?_) (λb hb=>.inr ?_) (λb o hb hf q=>m2.keep b o (nT b hb) hf q) (λb o hb hf q=>m2.slot b o (nT b hb) hf q) (λb o q=>?_) (by obtain⟨_,_,y,_⟩:=r2;exact⟨_,y⟩) (by obtain⟨_,_,y,_⟩:=t2;exact⟨_,y⟩))
 ·rcases zce (H:=H) (ea:=ea) (T:=T) (b:=b) with⟨y,z⟩|⟨_,_,y⟩
  ·exact .inr ⟨y,by rcases z with rfl|rfl<;>first|exact F.fe|exact F.ft⟩
  ·exact .inl y
 ·rcases hb with rfl|rfl
  ·unfold trk2;rw[zh]
  ·exact hT
 ·by_cases hb:b∈[T]
  ·rw[xbk] at hb;subst hb
   obtain⟨_,_,y,_⟩:=t2;exact⟨_,y⟩
  ·by_cases hf:b∈frs X.stack
   ·obtain⟨sl,q2⟩:=m2.slot b _ hb hf q;exact⟨_,q2⟩
   ·exact⟨_,m2.keep b _ hb hf q⟩
def CX1(P:Program) (w:World):CXT:=λouter H s E e s'=>∃ea T C dx H',e=.ref ea/\s'.os=s.os/\AllBare s'.gens/\Un (frs outer) [] H (trk2 H' ea T) s.heap s'.heap/\HOk P w (trk2 H' ea T) s'.heap/\Flies H' s'.heap ea T (.ref C) dx/\E (.ref C) dx H'
def Wish(X:Cx) (R:St->Value->Option Addr->Hp->Prop):Prop:=∀(aW:List (Addr×Obj)) (τ:St) (H:Hp) (ea T C:Addr) (dx:Option Addr) (s:Shared),Flies H s.heap ea T (.ref C) dx->Inv X aW τ (trk2 H ea T) s->R τ (.ref C) dx H->X.xe (.ref ea) s
def WishR(X:Cx) (R:St->Value->Option Addr->Hp->Prop):Prop:=∀(aW:List (Addr×Obj)) (τ:St) (H:Hp) (ea C:Addr) (dx:Option Addr) (s0 s:Shared),Inv X aW τ H s0->(∀b o,s0.heap.get? b=some o->s.heap.get? b=some o)->s={s0 with heap:=s.heap,toks:=s.toks}->s0.heap.get? ea=none->Rec s.heap ea (.ref C) dx .none->R τ (.ref C) dx H->X.xe (.ref ea) s
section
variable {P:Program}{w:World}{K:Fg}{mg:Str->Option Value}{base:Heap}{N:List Str}{qual:Str}{scope:Scope}{f:Addr}{cd:Value}{A:Around}{outer:List Env}{s₀:Shared}{H₀:Hp}{E:XK}
theorem zil:Wish (cxOf (CX1 P w) P w K mg base N qual scope f cd A outer s₀ H₀ E) (λ_ c dx H=>E c dx H):=by
 intro aW τ H ea T C dx s F I hE;show wpAny _ _ (leaving _ _) _ _ s;unfold leaving;refine xba (thn (znz rfl rfl F I) λ_ s2 h2=>thn (h2 _ _) λ_ s3 hq0=>?_);obtain⟨T1,F1,I2⟩:=hq0;exact⟨ea,T1,C,dx,H,rfl,I2.os,I2.bare,I2.base,I2.hok,F1,hE⟩
theorem zms:WishR (cxOf (CX1 P w) P w K mg base N qual scope f cd A outer s₀ H₀ E) (λ_ c dx H=>E c dx H):=by
 intro aW τ H ea C dx s0 s I kp es ne r hE;have hs:s.heap.FunFrames base (cxOf (CX1 P w) P w K mg base N qual scope f cd A outer s₀ H₀ E).stack:=I.stack.of_keeps λb o q _=>⟨o,kp b o q,rfl⟩
 show wpAny _ _ (leaving _ _) _ _ s;unfold leaving;refine xba (ztx (base:=base) I.ok.frames hs rfl r λh1 m1 r1 t1=>?_);have oe:∃o,s.heap.get? ea=some o:=by obtain⟨_,_,q,_⟩:=r;exact⟨_,q⟩
 have ne1:s.heap.objs.size≠ea:=by
  obtain⟨_,q⟩:=oe;exact xep (xbv (xbq q))
 have nT:s0.heap.get? s.heap.objs.size=none:=by
  cases q:s0.heap.get? s.heap.objs.size with
  | none=>rfl
  | some o=>exact absurd (xbq (kp _ _ q)) (xgl _)
 refine zhr (fs:=frs (cxOf (CX1 P w) P w K mg base N qual scope f cd A outer s₀ H₀ E).stack) r1 t1 ne1 λh2 m2 r2 t2=>?_
 have ne0:∀b o,s0.heap.get? b=some o->b∉[ea]/\b∉[s.heap.objs.size]:=λb o q=>by
  refine⟨λz=>?_,λz=>?_⟩
  ·rw[xbk] at z;subst z;rw[ne] at q;cases q
  ·rw[xbk] at z;subst z;rw[nT] at q;cases q
 have I2:=I.flew (h':=h2) (H:=H) (ea:=ea) (T:=s.heap.objs.size) (λb=>.inl rfl) (λb hb=>by
   rcases hb with rfl|rfl
   ·exact .inl ne
   ·exact .inl nT) (λb o _ hf q=>m2.keep b o (ne0 b o q).2 hf (m1.keep b o (ne0 b o q).1 hf (kp b o q))) (λb o _ hf q=>by
   obtain⟨sl,q1⟩:=m1.slot b o (ne0 b o q).1 hf (kp b o q);obtain⟨sl2,q2⟩:=m2.slot b _ (ne0 b o q).2 hf q1;exact⟨sl2,q2⟩) (λb o q=>by
   by_cases hf:b∈frs (cxOf (CX1 P w) P w K mg base N qual scope f cd A outer s₀ H₀ E).stack
   ·obtain⟨sl,q1⟩:=m1.slot b o (ne0 b o q).1 hf (kp b o q);obtain⟨sl2,q2⟩:=m2.slot b _ (ne0 b o q).2 hf q1;exact⟨_,q2⟩
   ·exact⟨_,m2.keep b o (ne0 b o q).2 hf (m1.keep b o (ne0 b o q).1 hf (kp b o q))⟩) (by obtain⟨_,_,y,_⟩:=r2;exact⟨_,y⟩) (by obtain⟨_,_,y,_⟩:=t2;exact⟨_,y⟩)
 have nH:∀b,s0.heap.get? b=none->H b=none:=λb hb=>by
  cases q:H b with
  | none=>rfl
  | some o=>obtain⟨ob,z⟩:=(I.hok b o q).here;rw[hb] at z;cases z
 refine⟨ea,s.heap.objs.size,C,dx,H,rfl,?_,?_,I2.base,I2.hok,⟨r2,t2,ne1,nH _ ne,nH _ nT⟩,hE⟩
 ·show s.os=_;rw[es];exact I2.os
 ·show AllBare s.gens;rw[es];exact I2.bare
end
noncomputable def bmV:List Value:=[.type "ValueError", .type "Exception", .type "BaseException", .type "object"]
def ErrCls(K:Fg) (x:Str) (C:Addr):Prop:=W.nsIn K mainGlobals x=some (some (.ref C))/\W.excIn K C bmV "ValueError.__new__"=true
theorem zbkb{K:Fg} (X:K.In h)(G:h.Ns mainGlobals mg)(e:ErrCls K x C):OwnCls x C bmV "ValueError.__new__" mg h:=by
 obtain⟨e1,q⟩:=e;refine⟨xdb X G e1,?_⟩;unfold W.excIn at q;cases hl:K.lookup C with
 | none=>rw[hl] at q;cases q
 | some o =>
  rw[hl] at q;split at q
  ·next _ dd cd sl ho =>
   obtain rfl:=xch ho;split at q
   ·next _ _ C' bm k0 k1 k2 k3 n k5 hm hs =>
    simp only[xgs,xfx,Bool.not_eq_true'] at q;obtain⟨⟨⟨⟨⟨c1,c2⟩,c3⟩,c4⟩,c5⟩,c6⟩:=q;obtain⟨nm,bs,mro,ns,qn,hd,sn,sub,ab,col,del⟩:=cd;dsimp only at hm c3 c5 c6;obtain⟨l⟩:=sl;dsimp only at hs;subst c1 c2 c3 hm hs;exact⟨_,_,_,_,_,_,_,_,_,_,_,_,_,_,_,_,_,X _ _ hl,.of_isNs (W.isNs_of_in X c5),W.nsMap_none_of_in X c5 c6,W.tail_of_in X c4⟩
   ·cases q
  ·cases q
abbrev Cx.tryc(X:Cx) (E:Value->Shared->Prop) (pn:List (Addr×Obj)):Cx:={X with xe:=E,pn:=X.pn++pn}
abbrev Cx.caught(X:Cx) (e:Value):Cx:={X with A:=X.A.mark (some e),calm:=false,xe:=λ_ _=>False}
theorem Cx.Ok.tryc{X:Cx}(ok:X.Ok):(X.tryc E aW).Ok:=⟨ok.mod,ok.kind,ok.glob,ok.blt,ok.above,ok.inj,ok.has,ok.cab,ok.hd,ok.frames,ok.stk,ok.exf,ok.bs,ok.bsz,ok.noex,ok.exfs,ok.funs,ok.frf⟩
theorem Cx.Ok.untryc{X:Cx}(ok:(X.tryc E aW).Ok):X.Ok:=⟨ok.mod,ok.kind,ok.glob,ok.blt,ok.above,ok.inj,ok.has,ok.cab,ok.hd,ok.frames,ok.stk,ok.exf,ok.bs,ok.bsz,ok.noex,ok.exfs,ok.funs,ok.frf⟩
theorem Cx.Ok.caught{X:Cx}(ok:X.Ok):(X.caught e).Ok:=⟨ok.mod,ok.kind,ok.glob,ok.blt,ok.above,ok.inj,ok.has,ok.cab,(λz=>Bool.noConfusion (show false=true from z)),ok.frames,ok.stk,ok.exf,ok.bs,ok.bsz,ok.noex,ok.exfs,ok.funs,ok.frf⟩
theorem Inv.tryc(I:Inv X aW σ H s):Inv (X.tryc E aW) [] σ H s:=⟨I.ok.tryc,I.os,I.bare,I.base,I.loc,I.cell,I.free,I.freeC,λp hp=>I.pin p (by rw[xct] at hp;exact hp),I.hok,I.len,I.hnd⟩
theorem Inv.untryc{X:Cx}(I:Inv (X.tryc E aW) pins' σ H s):Inv X aW σ H s:=⟨I.ok.untryc,I.os,I.bare,I.base,I.loc,I.cell,I.free,I.freeC,λp hp=>I.pin p (xex _ hp),I.hok,I.len,I.hnd⟩
theorem Inv.caught(I:Inv X aW σ H s)(he:Hnd (X.A.mark (some e)) H):Inv (X.caught e) aW σ H s:=⟨I.ok.caught,I.os,I.bare,I.base,I.loc,I.cell,I.free,I.freeC,I.pin,I.hok,I.len,he⟩
theorem Inv.uncaught{X:Cx}(ok:X.Ok)(hc:X.calm=true)(I:Inv (X.caught e) aW σ H s):Inv X aW σ H s:=⟨ok,I.os,I.bare,I.base,I.loc,I.cell,I.free,I.freeC,I.pin,I.hok,I.len,Hnd.none (ok.hd hc)⟩
theorem SP.untryc{X:Cx}{D:Ends} (h:SP (X.tryc E aW) pins' D f s):SP X aW D f s:=by
 cases f with
 | next=>obtain⟨σ',H',I,q⟩:=h;exact⟨σ',H',I.untryc,q⟩
 | brk=>obtain⟨σ',H',I,q⟩:=h;exact⟨σ',H',I.untryc,q⟩
 | cont=>obtain⟨σ',H',I,q⟩:=h;exact⟨σ',H',I.untryc,q⟩
 | ret u=>obtain⟨v,σ',H',I,r,q⟩:=h;exact⟨v,σ',H',I.untryc,r,q⟩
theorem Inv.forget{h':Heap} (I:Inv X aW σ H s)(hn:h'.Ns X.env.locals m)(hs:Heap.SameBut X.env.locals s.heap h'):Inv X aW (σ.map λ_=>none) H {s with heap:=h',toks:=t'}:=by
 have kp:∀b o,b≠X.env.locals->s.heap.get? b=some o->h'.get? b=some o:=λb o n q=>by rw[hs.2 b n];exact q
 have nL:∀b o,X.s₀.heap.get? b=some o->b≠X.env.locals:=λb o q=>xbv (xbh (xbq q) I.ok.above)
 have nH:∀b u,H b=some u->b≠X.env.locals:=λb u q z=>by rw[z,I.free] at q;cases q
 refine⟨I.ok,I.os,I.bare,⟨λb o q n f x=>kp b o (nL b o q) (I.base.keep b o q n f x),λb o q n f x=>?_,I.base.free,λb o q x=>?_,I.base.tups,I.base.frzs,I.base.tbls⟩,⟨m,hn,λi x v _ q _=>?_⟩,λx c q=>?_,I.free,I.freeC,λp hp=>?_,λb u q=>?_,by rw[xbc];exact I.len,I.hnd⟩
 ·obtain⟨sl,z⟩:=I.base.slot b o q n f x;exact⟨sl,kp b _ (nL b o q) z⟩
 ·obtain⟨o',z⟩:=I.base.there b o q x;exact⟨o',kp b _ (nL b o q) z⟩
 ·rw[xcn] at q;cases z:σ[i]?<;>rw[z] at q<;>cases q
 ·obtain⟨v,o,ho,hd⟩:=I.cell x c q;exact⟨v,o,kp c o (I.cne x c q) ho,hd⟩
 ·obtain⟨a,b,c,d⟩:=I.pin p hp;exact⟨kp _ _ c a,b,c,d⟩
 ·exact(I.hok b u q).stay (λc v hc z=>kp c v (by rcases hc with rfl|hc;exact nH _ _ q;exact nH _ _ hc) z) (λ_ z=>z) λ_ _ z=>z
def RH(K:Fg) (B:Addr) (i:Nat) (ts:TS) (rt:VK):St->Value->Option Addr->Hp->Prop:=λτ cls dx H=>W.exmOne K cls (.ref B)=some true /\
 ∀ea T o,H ea=none->H T=none->T≠ea->o.cls=cls->o.dict=dx->(∃vs,o.data=.fields vs/\vs[2]?=some .none)->ts {nx:=λ_ _=>False,rt:=rt} (τ.set i (some (.ref ea))) (upd (upd H T HX) ea (.frz o HX))
section
variable {X:Cx}{body:List Stmt}{x:Str}{n:Str}{B:Addr}{i:Nat}{b0:Stmt}{suite:List Stmt}{xp:Pos}{hp:Pos}{pos:Pos}{tb:(St->Value->Option Addr->Hp->Prop)->TS}{ts:TS}
theorem zbng(hc:X.calm=true)(au:X.stack=X.env::X.outer)(fr:X.env.frame=some X.env.locals)(hN:X.N.Nodup)(hi:X.N[i]?=some n)(hn:X.env.kindOf n=some .local)(hg:Gl X x)(hB:W.nsIn X.K mainGlobals x=some (some (.ref B)))
  (hb:∀(R:St->Value->Option Addr->Hp->Prop) (E:Value->Shared->Prop) (pn:List (Addr×Obj)),Wish (X.tryc E pn) R->PSs (X.tryc E pn) body (tb R))(hs:∀ e,PSs (X.caught e) (b0::suite) ts)(hd:(x==("__debug__" : Str))=false:=by decide) :
  PS X (.Try body [.ExceptHandler (some (.Name x xp)) (some n) (b0::suite) hp] [] [] pos) (λD σ H=>tb (RH X.K B i ts D.rt) D σ H):=by
 intro aW s σ H D I h;have ok:=I.ok;refine wpAny_Try_except ?_;refine xdw (hb _ (λe s1=>wpAny (model X.prog X.w) X.A (noteFrame e X.env) (λ_ s2=>wpAny (model X.prog X.w) X.A (setFlight e none) (λ_ s3=>wpAny (model X.prog X.w) X.A (handleBy e X.env [.ExceptHandler (some (.Name x xp)) (some n) (b0::suite) hp]) (SP X aW D) X.xe s3) X.xe s2) X.xe s1) aW ?_ [] s σ H D I.tryc h) (λf s1 q=>?_) λ_ _ q=>q
 rotate_left
 ·cases f with
  | next=>obtain⟨σ',H',I',q'⟩:=q;exact xjj ⟨σ',H',I'.untryc,q'⟩
  | brk=>exact SP.untryc q
  | cont=>exact SP.untryc q
  | ret u=>exact SP.untryc q
 intro pins' τ H' ea T C dx s' F I' hR;obtain⟨hm,hR⟩:=hR;refine thn (znz au fr F I'.untryc) λ_ s2 h2=>thn (h2 X.A X.xe) λ_ s3 hq0=>?_
 obtain⟨T1,F1,I3⟩:=hq0;refine wpAny_handleBy_cons (codeAny_handlers_test ?_) (by intro z;cases z);refine xjb I3.ok.kind hg (Calls.loadGlobal_global (by rw[I3.ok.glob];exact I3.mod.glob.keeps I3.bk) (xdb I3.mod.kin I3.mod.glob hB) ?_) hd;obtain⟨h3,g3,d3,t3,os3⟩:=s3;obtain⟨oe,vs,r1,r2,r3,r4,r5,r6⟩:=id F1.r;refine(W.exm_one (M:=model X.prog X.w) I3.kIn (r2 ▸ (W.Looks.ld r1).andThen .now) hm).at ?_;rw[if_pos rfl];refine codeAny_handlers_suite_as ?_;refine zbjv F1 I3 λs4 F4 I4=>?_
 obtain⟨o,ws,q1,q2,q3,q4,q5,q6⟩:=id F4.r;have I5:Inv X aW τ (upd (upd H' T1 HX) ea (.frz o HX)) s4:=by
  have z:=I4.write (h':=s4.heap) (t':=s4.toks) (x:=ea) (e:=ea) (o:=.frz o HX) (by unfold trk2;rw[zh];trivial) (.inl rfl) (λ_ _ _ q=>q) ⟨_,q1⟩ ⟨q1,zbdx ⟨_,q1⟩⟩;unfold trk2 at z;rw[zbgp] at z;exact z
 refine zjv (v:=.ref ea) I5 hN hi (.inl hn) rfl (λs5 I6=>?_) (.inr hn);refine xdw (hs (.ref ea) aW s5 _ _ _ (I6.caught λv z=>⟨ea,o,(xch z).symm,zh,ws,q4,q6⟩) (hR ea T1 o F4.fe F4.ft F4.ne q2 q3 ⟨_,q4,q6⟩)) (λf s6 q=>?_) λ_ _ z=>z.elim
 cases f with
 | next=>obtain⟨_,_,_,z⟩:=q;exact z.elim
 | brk=>obtain⟨_,_,_,z⟩:=q;exact z.elim
 | cont=>obtain⟨_,_,_,z⟩:=q;exact z.elim
 | ret u =>
  obtain⟨v,σ',H6,I7,rv,q⟩:=q;obtain⟨m,hm6,_⟩:=id I7.loc;refine wpAny_nameGoes hn hm6 (by rw[ok.kind];rfl) λh7 m7 n7 s7=>?_
  exact⟨v,_,H6,(I7.uncaught ok hc).forget n7 s7,rv,q⟩
end
theorem zvn{CX:CXT}{P:Program}{w:World}{K:Fg}{mg:Str->Option Value}{base:Heap}{k:Nat}{f:Addr}{name qual:Str}{params:Arguments}{body:List Stmt}{scope:Scope}{dV kV doc pm cdv ct oc:Value}{an od:Option Addr}
  {osl:Array (Option Value)}{N ps:List Str}(lk:K.lookup f=some ⟨oc,od,.func (W.fnOf name qual params body scope dV kV doc pm an cdv ct),osl⟩)(hcd:W.codeIn K cdv qual=true)(S:FnScope N ps scope)
  {A:Around}{outer:List Env}{s:Shared}{H:Hp}{args:Args}{us:List Value}{vs:List V}{Q:VK}{E:XK}(hr:Room (k+1) A)(e0:Env0 P w K mg base A outer s H)(hb:BindsTo s (W.fnOf name qual params body scope dV kV doc pm an cdv ct) args (ps.zip us))(r:Vals vs us)(hl:vs.length=ps.length)
  {t:TS}(ht:PSs (cxOf CX P w K mg base N qual scope f cdv A outer s H E) body t)(hq:t {nx:=λ_ H'=>Q .non H',rt:=Q} (start N vs) H):codeAny (model P w) A (.call (.ref f) args) (CR CX outer P w H s Q E) s:=by
 have KX:K.In s.heap:=e0.mod.kin.keeps λb o e=>(e0.bs b o e).1
 have lim:s.heap.NoLimit:=e0.mod.nolimit.keeps λb o e=>(e0.bs b o e).1
 refine codeAny_call_function hr.depth (KX _ _ lk) rfl S.co S.gen rfl (W.codeRec_of KX hcd) (hb _ _ _ _ (wpAny_newFunctionEnv_cells S.kind (λy hy=>?_) λenv he s1 x=>?_))
 ·rcases S.par y.1 (xkw (a:=y.1) (b:=y.2) hy).1 with q|q
  ·exact .inl q
  ·exact .inr ⟨q,xkh _ _ _ (.inl q)⟩
 subst he;refine⟨lim.keeps x.toInCall.keep,codeAny_func ?_⟩;have I:Inv (cxOf CX P w K mg base N qual scope f cdv A outer s H E) [] (start N vs) H s1:=zpr S hr.hd e0 hl r x;refine xdw (ht [] s1 (start N vs) H _ I hq) (λfl s' hs=>?_) λe s' hs=>hs
 cases fl with
 | ret u=>obtain⟨v,σ',H',J,rv,q⟩:=hs;exact⟨v,H',J.os,J.bare,J.base,J.hok,rv,q⟩
 | next=>obtain⟨σ',H',J,q⟩:=hs;exact⟨.non,H',J.os,J.bare,J.base,J.hok,rfl,q⟩
 | brk=>obtain⟨_,_,_,q⟩:=hs;exact False.elim q
 | cont=>obtain⟨_,_,_,q⟩:=hs;exact False.elim q
def cxL(P:Program) (w:World) (K:Fg) (mg:Str->Option Value) (base:Heap) (N:List Str) (qual:Str) (scope:Scope) (f:Addr) (cd:Value) (cl:List (Str×Addr)) (A:Around) (outer:List Env) (s:Shared) (H:Hp) (E:XK):Cx where
 prog:=P
 w:=w
 K:=K
 mg:=mg
 base:=base
 A:=A.deeper (W.envX qual scope s.heap.objs.size f cd cl)
 N:=N
 s₀:=s
 H₀:=H
 env:=W.envX qual scope s.heap.objs.size f cd cl
 outer:=outer
 stack:=W.envX qual scope s.heap.objs.size f cd cl::outer
 ex:=[]
 calm:=true
 fn:=λ_=>false
 pn:=[]
 xe:=λe s'=>wpAny (model P w) (A.deeper (W.envX qual scope s.heap.objs.size f cd cl)) (leaving (W.envX qual scope s.heap.objs.size f cd cl) e) (λ_ s''=>CX1 P w outer H s E e s'') (λe' s''=>CX1 P w outer H s E e' s'') s'
structure LamScope (scope:Scope):Prop where
 kind:scope.kind=.function
 co:scope.isCoroutine=false
 gen:scope.isGenerator=false
 nocell:∀y∈scope.names,y.2≠.cell
structure KeptL (scope:Scope) (N:List Str) (cl:List (Str×Addr)) (τ:St) (s:Shared) (H:Hp):Prop where
 inj:∀x y c,cl.lookup x=some c->cl.lookup y=some c->x=y
 has:∀x,(x,NameKind.free)∈scope.names->∃c,cl.lookup x=some c
 cell:∀x c,cl.lookup x=some c->(∃v,s.heap.IsCell c v)/\H c=none
 val:∀(i:Nat) (x:Str) (v:V),N[i]?=some x->τ[i]?=some (some v)->scope.names.lookup x=some .free/\∃c u,cl.lookup x=some c/\s.heap.IsCell c (some u)/\RelV v u
 len:τ.length=N.length
section
variable {P:Program}{w:World}{K:Fg}{mg:Str->Option Value}{base:Heap}{N:List Str}{qual:Str}{scope:Scope}{f:Addr}{cd:Value}{cl:List (Str×Addr)}{A:Around}{outer:List Env}{s:Shared}{H:Hp}{E:XK}{τ:St}
theorem zbjj{h1:Heap}{tk:Nat}(S:LamScope scope)(hd:A.handled=none)(e0:Env0 P w K mg base A outer s H)(kp:KeptL scope N cl τ s H)(ns:h1.Ns s.heap.objs.size λ_=>none)(hk:∀b o,s.heap.get? b=some o->h1.get? b=some o) :
  Inv (cxL P w K mg base N qual scope f cd cl A outer s H E) [] τ H {s with heap:=h1,toks:=tk}:=by
 have noA:∀b:Addr,b∉(cxL P w K mg base N qual scope f cd cl A outer s H E).ex:=λb z=>absurd (show b∈([]:List Addr) from z) (by simp)
 have ck:∀{c:Addr} {v:Option Value},s.heap.IsCell c v->h1.IsCell c v:=λ⟨o,a,b⟩=>⟨o,hk _ _ a,b⟩
 refine⟨⟨e0.mod,S.kind,rfl,rfl,xbf _,kp.inj,λy hy=>?_,λy c z=>(nomatch z),λ_=>hd,Around.frames_deeper e0.frames,.inr ⟨rfl,rfl⟩,λb z=>absurd z (noA b),e0.bs,e0.bsz,λb _ _=>noA b,λb z=>absurd z (noA b),e0.funs,e0.frf⟩,
  rfl,e0.bare,Un.kept hk,⟨_,ns,λi y v a b _=>?_⟩,λy c a=>?_,e0.hok.fresh (xbf _),λy c a=>(kp.cell y c a).2,λp hp=>absurd (show p∈([]:List (Addr×Obj)) from hp) (by simp),e0.hok.kept hk,kp.len,Hnd.none hd⟩
 ·have hy:scope.names.lookup y=some .cell\/scope.names.lookup y=some .free:=hy;rcases hy with q|q
  ·exact absurd rfl (S.nocell _ (xed q))
  ·exact kp.has y (xed q)
 ·obtain⟨q,c,u,e1,e2,rv⟩:=kp.val i y v a b;exact⟨u,rv,.inr ⟨.inr q,c,e1,ck e2⟩⟩
 ·obtain⟨v,e⟩:=(kp.cell y c a).1;exact⟨v,ck e⟩
end
section
variable {P:Program}{w:World}{K:Fg}{mg:Str->Option Value}{base:Heap}{N:List Str}{name:Str}{qual:Str}{params:Arguments}{body:Expr}{scope:Scope}{f:Addr}{cd:Value}{pm:Value}{ct:Value}{cl:List (Str×Addr)}{A:Around}{outer:List Env}{s:Shared}{H:Hp}{E:XK}{τ:St}
theorem zbdq{k:Nat}{o:Obj}{te:TE}{Q:VK}(S:LamScope scope)(hr:Room (k+1) A)(e0:Env0 P w K mg base A outer s H)(kp:KeptL scope N cl τ s H)(ho:s.heap.get? f=some o)(hd:o.data=.func (W.kla_fn name qual params body scope cl pm cd ct))(hcd:s.heap.CodeRec cd qual)
  (hb:bindArgs (W.kla_fn name qual params body scope cl pm cd ct) ⟨[],[]⟩=pure [])(he:PE (cxL P w K mg base N qual scope f cd cl A outer s H E) body te)(hq:te τ H Q):codeAny (model P w) A (.call (.ref f) ⟨[],[]⟩) (CR (CX1 P w) outer P w H s Q E) s:=by
 have lim:s.heap.NoLimit:=e0.mod.nolimit.keeps λb o e=>(e0.bs b o e).1
 refine W.kla_callFunE hr.depth ho hd S.co S.gen rfl hcd ?_;rw[hb];refine xbd (wpAny_newFunctionEnv S.nocell (λy hy=>absurd (show y∈([]:List (Str×Value)) from hy) (by simp)) (λh1 hns hsb=>?_) S.kind);have hk:∀b o,s.heap.get? b=some o->h1.get? b=some o:=λb o e=>hsb.extBut b o (xbv (xbq e)) (xbg _ e)
 refine⟨lim.keeps hk,W.kla_codeExpr ?_⟩;have I:Inv (cxL P w K mg base N qual scope f cd cl A outer s H E) [] τ H {s with heap:=h1,toks:=s.toks+([]:List (Str×Value)).length}:=zbjj S hr.hd e0 kp hns hk;refine xdw (he [] _ τ H Q I hq) (λu s' hs=>?_) λe s' hs=>hs
 obtain⟨v,H',J,rv,q⟩:=hs;exact⟨v,H',J.os,J.bare,J.base,J.hok,rv,q⟩
end
section
variable {P:Program}{w:World}{K:Fg}{mg:Str->Option Value}{base:Heap}{N:List Str}{qual:Str}{scope:Scope}{f:Addr}{cd:Value}{cl:List (Str×Addr)}{A:Around}{outer:List Env}{s:Shared}{H:Hp}{E:XK}{τ:St}
theorem zez:Wish (cxL P w K mg base N qual scope f cd cl A outer s H E) (λ_ c dx H=>E c dx H):=by
 intro aW τ H ea T C dx s F I hE;show wpAny _ _ (leaving _ _) _ _ s;unfold leaving;refine xba (thn (znz rfl rfl F I) λ_ s2 h2=>thn (h2 _ _) λ_ s3 hq0=>?_);obtain⟨T1,F1,I2⟩:=hq0;exact⟨ea,T1,C,dx,H,rfl,I2.os,I2.bare,I2.base,I2.hok,F1,hE⟩
end
theorem zhb:∀{l:List Value} {a b:Nat} {v:Value},TriplesOk l->TriplesOk (l++[rawInt a,rawInt b,v])
 | [],_,_,_,_=>trivial
 | .int _ _::.int _ _::_::r,_,_,_,h=>zhb (l:=r) h
theorem zmn :∀{l:List Value},TriplesOk l->codeAmong pos' (l++[rawInt a,rawInt b,v])=some cv->codeAmong pos' l=some cv\/cv=v
 | [],_,e=>by
  unfold codeAmong at e;simp only[xjh,rawInt] at e;split at e
  ·exact .inr (xch e).symm
  ·exact absurd e (by simp[codeAmong])
 | .int i t::.int j u::x::r,h,e=>by
  simp only[xix,codeAmong] at e ⊢;split at e
  ·rename_i q;rw[if_pos q];exact .inl e
  ·rename_i q;rw[if_neg q];exact zmn (l:=r) h e
noncomputable def BmOk(mg:Str->Option Value) (base:Heap):Prop:=∃ bm ob,mg "__builtins__"=some (.ref bm)/\bm≠builtinsNs/\base.get? bm=some ob/\ob.cls=.type "module"/\ob.dict=some builtinsNs/\ob.data=.plain
abbrev lamO(mg:Str->Option Value) (params:Arguments) (body:Expr) (scope:Scope) (cl:List (Str×Addr)) (c':Addr) (ctv:Value):Obj:={ cls:=.type "function", data:=.func (W.kla_fn "<lambda>" Dd.lamQ params body scope cl ((mg "__name__").getD .none) (.ref c') ctv) }
section
variable {ps:Array Value}
structure Grew (T:Addr) (H H':Hp):Prop where
 tab:∃ps,H' T=some (.tbl ps)/\Dd.TabOk H' ps
 old:∀a o,H a=some o->a≠T->H' a=some o
 new:∀a,a≠T->H a=none->H' a≠none->∃o,H' a=some (.frz o HX)
end
theorem zbdp{s:Shared}{T:Addr}(I:Inv X aW τ H s)(C:W.CodeHd X.base c T)(B:BmOk X.mg X.base)(hcode:X.env.code=.ref c)(hT:H T=some (.tbl ps))(ok:Dd.TabOk H ps)(hqu:X.env.qual++"<lambda>"=Dd.lamQ)(hcl:closureFor scope X.env=pure cl)(hdef:defaultsOf params X.env=([],[]))
  (k:∀f c' ctv s' H',Inv X aW τ H' s'->Grew T H H'->H' f=some (.frz (lamO X.mg params body scope cl c' ctv) HX)->H f=none->(∃oc vs t,H' c'=some (.frz oc HX)/\oc.data=.fields vs/\vs[1]?=some (.str Dd.lamQ t))->Q (.ref f) s') :
  wpAny (model X.prog X.w) X.A (eval (.Lambda params body scope pos) X.env) Q X.xe s:=by
 refine W.kla_eval hdef ?_;rw[hqu];have hg:s.heap.Ns mainGlobals X.mg:=I.mod.glob.keeps I.bk;have tb:s.heap.get? T=some (W.tabObj ps):=I.hok T _ hT;have neT:∀b o,X.base.get? b=some o->b≠T:=λb o e z=>by
  have:=(I.bs b o e).2;rw[z,hT] at this;cases this
 have hgT:mainGlobals≠T:=by
  obtain⟨o,_,_,e,_⟩:=I.mod.glob;exact neT _ o e
 have CH:W.CodeHd s.heap c T:=C.keeps I.bk;have hb:s.heap.BuiltinsAt X.mg T:=by
  obtain⟨bm,ob,b1,b2,b3,b4,b5,b6⟩:=B;refine⟨bm,ob,b1,b2,λz=>?_,neT _ _ b3,I.bk _ _ b3,b4,b5,b6⟩;obtain⟨o,es,ep,e,hd,_⟩:=I.mod.glob;rw[z,e] at b3;cases b3;rw[hd] at b6;cases b6
 have ltT:T<s.heap.objs.size:=xbq tb;cases hf:codeAmong pos ps.toList with
 | some cv =>
  obtain⟨c',oc,vs,t,rfl,h1,h2,h3⟩:=ok.2 pos cv hf;refine W.kla_makeFunctionHit (mg:=X.mg) hcl I.ok.glob hg hcode CH tb ok.1 hf hb λctv h' tk hk hsz=>?_
  have hk2:∀(ob:Obj) b o,s.heap.get? b=some o->(h'.push ob).get? b=some o:=λob b o e=>xbg _ (hk b o e)
  have nf:H h'.objs.size=none:=I.hok.fresh hsz;have gf:(h'.push (lamO X.mg params body scope cl c' ctv)).get? h'.objs.size=some (lamO X.mg params body scope cl c' ctv):=xbw _ rfl;refine k h'.objs.size c' ctv _ (upd H h'.objs.size (.frz (lamO X.mg params body scope cl c' ctv) HX)) (I.un (t':=tk) (Un.laid (hk2 _) hsz nf) (I.hok.laid (hk2 _) hsz ⟨gf,zbdx ⟨_,gf⟩⟩)) ⟨⟨ps,?_,ok.map λb ob u e=>?_⟩,λa o e _=>?_,λa _ n1 n2=>?_⟩ zh nf ⟨oc,vs,t,?_,h2,h3⟩
  ·rw[zj (zd hT nf)];exact hT
  ·rw[zj (zd e nf)];exact e
  ·rw[zj (zd e nf)];exact e
  ·by_cases z:a=h'.objs.size
   ·subst z;exact⟨_,zh⟩
   ·rw[zj z] at n2;exact absurd n1 n2
  ·rw[zj (zd h1 nf)];exact h1
 | none =>
  refine W.kla_makeFunction (mg:=X.mg) hcl I.ok.glob hg hcode CH tb ok.1 hf hgT hb λc' ctv h' tk hx hge hlt hrec htb=>?_
  obtain⟨c2,oc,vs,t,ec,hoc,hd,hv⟩:=hrec;cases ec;have nc:H c'=none:=I.hok.fresh hge;have hsz:s.heap.objs.size<=h'.objs.size:=xbb hge (xbu hlt);have nf:H h'.objs.size=none:=I.hok.fresh hsz;have cT:c'≠T:=λz=>by rw[z,hT] at nc;cases nc
  have fT:h'.objs.size≠T:=λz=>by rw[z,hT] at nf;cases nf
  have fc:h'.objs.size≠c':=xip hlt;generalize hH:upd (upd (upd H T (.tbl (ps++#[rawInt pos.line,rawInt pos.col,.ref c']))) c' (.frz oc HX)) h'.objs.size (.frz (lamO X.mg params body scope cl c' ctv) HX)=H';have gf:(h'.push (lamO X.mg params body scope cl c' ctv)).get? h'.objs.size=some (lamO X.mg params body scope cl c' ctv):=xbw _ rfl;have hk2:∀b o,b≠T->s.heap.get? b=some o->(h'.push (lamO X.mg params body scope cl c' ctv)).get? b=some o:=λb o n e=>xbg _ (hx b o n e)
  have old:∀b o,H b=some o->b≠T->H' b=some o:=λb o e n=>by
   rw[← hH,zj (zd e nf),zj (zd e nc),zj n];exact e
  have hT':H' T=some (.tbl (ps++#[rawInt pos.line,rawInt pos.col,.ref c'])):=by rw[← hH,zj fT.symm,zj cT.symm,zh]
  have hc':H' c'=some (.frz oc HX):=by rw[← hH,zj fc.symm,zh]
  have hf':H' h'.objs.size=some (.frz (lamO X.mg params body scope cl c' ctv) HX):=by rw[← hH,zh]
  have nT:∀b,H b=none->b≠T:=λb n z=>by rw[z,hT] at n;cases n
  have oT:∀{b:Addr} {o:HO},H b=some o->(∀qs,o≠.tbl qs)->b≠T:=λ{b o} e n z=>by rw[z,hT] at e;cases e;exact n _ rfl
  have els:∀b,b≠T->b≠c'->b≠h'.objs.size->H' b=H b:=λb a1 a2 a3=>by rw[← hH,zj a3,zj a2,zj a1]
  have nw:Inv X aW τ H' {s with heap:=h'.push (lamO X.mg params body scope cl c' ctv),toks:=tk}:=by
   refine I.step (g':=s.gens) (d':=s.drawn) (ch:=[]) (λ_ z=>nomatch z) (λb o _ _ _ e n=>hk2 b o (nT b n) e) (λb o _ _ _ e n=>⟨o.slots,hk2 b o (nT b n) e⟩) (λb o _ e n=>?_) (λb o _ e=>?_) (λb xs e=>old b _ e (oT e nofun)) (λb o u e=>old b _ e (oT e nofun)) (λb qs e=>?_) (λm hm=>?_) (λb o e=>?_) I.bare
   ·rw[els b (nT b n) (xbv (xbh (xbq e) hge)) (xbv (xbh (xbq e) hsz))];exact n
   ·by_cases z:b=T
    ·subst z;exact⟨_,xbg _ htb⟩
    ·exact⟨o,hk2 b o z e⟩
   ·by_cases z:b=T
    ·subst z;rw[hT] at e;cases e;exact⟨_,hT'⟩
    ·exact⟨#[],by rw[xid];exact old b _ e z⟩
   ·obtain⟨o,es,ep,e,r⟩:=hm;exact⟨o,es,ep,hk2 _ o (nT _ I.free) e,r⟩
   ·by_cases z1:b=c'
    ·subst z1;rw[hc'] at e;cases e
     exact⟨xbg _ hoc,zbdx ⟨_,xbg _ hoc⟩⟩
    ·by_cases z2:b=T
     ·subst z2;rw[hT'] at e;cases e
      exact(xbg _ htb:(h'.push _).get? b=_)
     ·by_cases z3:b=h'.objs.size
      ·subst z3;rw[hf'] at e;cases e
       exact⟨gf,zbdx ⟨_,gf⟩⟩
      ·rw[els b z2 z1 z3] at e
       exact(I.hok b o e).stay (λa u ha q=>hk2 a u (by
        rcases ha with rfl|ha
        ·exact z2
        ·exact oT ha nofun) q) (λa ha=>old a _ ha (oT ha nofun)) λa xs ha=>old a _ ha (oT ha nofun)
  refine k h'.objs.size c' ctv _ H' nw ⟨⟨_,hT',?_,λpos' cv e=>?_⟩,old,λa n1 n2 n3=>?_⟩ hf' nf ⟨oc,vs,t,hc',hd,hv⟩
  ·rw[xcx];exact zhb ok.1
  ·rw[xcx] at e;rcases zmn ok.1 e with q|q
   ·obtain⟨c2,oc2,vs2,t2,e1,e2,e3⟩:=ok.2 pos' cv q;exact⟨c2,oc2,vs2,t2,e1,old _ _ e2 (oT e2 nofun),e3⟩
   ·exact⟨c',oc,vs,t,q,hc',hd,hv⟩
  ·by_cases z:a=c'
   ·subst z;exact⟨oc,hc'⟩
   ·by_cases z3:a=h'.objs.size
    ·subst z3;exact⟨_,hf'⟩
    ·rw[els a n1 z z3] at n3;exact absurd n2 n3
def tLam(X:Cx) (T:Addr) (params:Arguments) (body:Expr) (scope:Scope):TE:=λ_ H Q=>∃ps,H T=some (.tbl ps)/\Dd.TabOk H ps/\∀f c' ctv cl H',(∀x c,cl.lookup x=some c->X.env.cells.lookup x=some c)->(∀x,(x,NameKind.free)∈scope.names->∃c,cl.lookup x=some c)->Grew T H H'->H' f=some (.frz (lamO X.mg params body scope cl c' ctv) HX)->H f=none->(∃oc vs t,H' c'=some (.frz oc HX)/\oc.data=.fields vs/\vs[1]?=some (.str Dd.lamQ t))->Q (.ref f) H'
theorem zbns{T:Addr}{N:List Str}{is:List Nat}(S:CompScope X N 0 is scope)(C:W.CodeHd X.base c T)(B:BmOk X.mg X.base)(hcode:X.env.code=.ref c)(hqu:X.env.qual++"<lambda>"=Dd.lamQ)(hdef:defaultsOf params X.env=([],[])):PE X (.Lambda params body scope pos) (tLam X T params body scope):=by
 intro aW s σ H Q I ⟨ps,hT,ok,h⟩;obtain⟨cl,e,c1,c2⟩:=zhw S I;exact zbdp I C B hcode hT ok hqu e hdef λf c' ctv s' H' I' g h1 h2 h3=>⟨.ref f,H',I',rfl,h f c' ctv cl H' c1 c2 g h1 h2 h3⟩
structure ErrLook (K:Fg) (C:Addr):Prop where
 ga:W.findIn K (.ref C) "__getattribute__"=some (some (.builtin "BaseException.__getattribute__"))
 gt:W.findIn K (.ref C) "__getattr__"=some none
 mb:W.mroIn K C (.type "BaseException")=some true
 cls:(W.clsIn K C).isSome=true
 fi:W.findIn K (.ref C) "__class__"=some (some (.builtin "object.__class__"))
 sp:W.specialIn K (.builtin "object.__class__") "__get__"=some (some (.builtin "getset_descriptor.__get__"))
 tk:W.takesIn K (.builtin "object.__class__")=some true
 mr:W.mroIn K C (.type "object")=some true
theorem zbdz{K:Fg}{C:Addr}{od:Option Obj}(L:ErrLook K C):W.findObj K C od "__class__"=some (.bind (.builtin "getset_descriptor.__get__") (.builtin "object.__class__")):=by
 obtain⟨cd,hc⟩:=xho.mp L.cls;unfold W.findObj;rw[hc,Option.bind_some,L.fi,Option.bind_some];simp[L.sp,L.tk]
theorem zbov{K:Fg}{C:Addr}(h:(W.clsIn K C).isSome=true):∃o cd,K.lookup C=some o/\o.data=.cls cd:=by
 obtain⟨cd,hc⟩:=xho.mp h;unfold W.clsIn at hc;split at hc
 ·next ho=>cases hc;exact⟨_,_,ho,rfl⟩
 ·cases hc
theorem zbfe{K:Fg}{M:Model} {s:Shared}{D:Addr} (X:K.In s.heap)(I:W.InstAt s.heap x ox D odo)(hmb:W.mroIn K D (.type "BaseException")=some true)
  (h:Q () s):wpAny M A (checkBuiltinCall "BaseException.__getattribute__" ⟨[.ref x,nameV],[]⟩) Q E s:=by
 have hk:builtinKind "BaseException.__getattribute__"=some .slot:=by decide +kernel
 have hsplit:splitId "BaseException.__getattribute__"=some ("BaseException","__getattribute__"):=by decide +kernel
 have L0:=I.type (M:=M);have L4:=W.looks_mroIn (M:=M) X hmb;have ha:=F.args_bexc_ga (.ref x) nameV;simp only[checkBuiltinCall,hk,hsplit];refine xba ?_;unfold isInstance;refine xba (L0.at (L4.at ?_))
 repeat (first|assumption|wp_step)
theorem zyr{K:Fg}{prog:Program}{w:World}{A:Around}{E:Value->Shared->Prop}{s:Shared}{x D:Addr}{ox:Obj}{odo:Option Obj}{Q:Option Value->Shared->Prop}(X:K.In s.heap)(I:W.InstAt s.heap x ox D odo)
  (L:ErrLook K D)(h:Q (some (.ref D)) { s with toks:=s.toks + 1 }):wpAny (model prog w) A (getAttr? (.ref x) "__class__") Q E s:=by
 obtain⟨hh,g,d,t,os⟩:=s;have L0:=I.type (M:=model prog w);have L1:=W.looks_findIn (M:=model prog w) X L.ga;have L2:=W.looks_findIn (M:=model prog w) X L.gt;have L3:=W.looks_find (M:=model prog w) X I (zbdz L);have hx2:(Value.builtin "BaseException.__getattribute__"==Value.builtin "object.__getattribute__")=false:=by decide +kernel
 unfold getAttr? getAttrBy? getAttrBy;refine xba (wpAny_mkText (xba (xhy (xdz (xba (L0.at (xba (L1.at ?_))))))));dsimp only;rw[hx2,xmy,if_neg (by decide)];unfold getAttrByItsOwn;refine xba (show wpAny _ _ (typeLookup (.ref D) "__getattr__") _ _ _ from L2.at ?_)
 refine xba (xhy (xdz ?_));show wpAny _ _ (boundAndCalled _ _ _) _ _ _;unfold boundAndCalled;rw[xls.ga.bind];refine xba (xbd ?_);refine xiz (codeAny_call_builtin xls.ga.plain F.entry_bexc_ga (zbfe (s:=⟨hh,g,d,t+1,os⟩) X I L.mb ?_));unfold Builtin.«object.__getattribute__»;refine xba (xbd (xba (xbd (xba (L0.at (xba (L3.at ?_)))))));dsimp only;show wpAny _ _ (holding [Value.builtin "object.__class__"] (call (Value.builtin "getset_descriptor.__get__") [Value.builtin "object.__class__", Value.ref x,Value.ref D]) >>= ret) _ _ _
 refine xba (xdz (xiz (W.class_get (s:=⟨hh,g,d,t+1,os⟩) X I L.mr ?_)));refine xbd ?_;exact W.handed_on rfl (xbd h)
theorem zuk{K:Fg}{a C:Addr}{o:Obj}(L:ErrLook K C)(hd:o.dict=none)(hn:∃vs,o.data=.fields vs)(hc:o.cls=.ref C):W.KitX K (.ref a) (.ref C) (λh=>h.get? a=some o):=by
 have inst:∀{h:Heap},h.get? a=some o->W.InstAt h a o C none:=λe=>⟨e,hc,by obtain⟨vs,q⟩:=hn;unfold W.notCls;rw[q],by rw[hd];trivial⟩
 obtain⟨oc,cd,l1,l2⟩:=zbov L.cls;refine⟨λM h _ e=>(inst e).type,λM h X _=>?_,λh tp dd its n sl X htp=>?_,λ{prog w A E Q s} X e k=>?_⟩
 ·intro A' Q' E' s' k q;unfold isType loadHead;refine xba (wpAny_loadPart (k _ _ (X _ _ l1)) (xbd ?_));rw[l2];exact q
 ·refine Bool.eq_false_iff.mpr λq=>?_
  have e:C=tp:=Value.ref.inj (xfx.mp q);subst e;have z:=(X _ _ l1).symm.trans htp;cases z;cases l2
 ·exact zyr X (inst e) L k
def rIsb(K:Fg) (xs:List V) (H:Hp) (Q:VK):Prop:=∃a o C c cv b,xs=[.ref a,c]/\RelV c cv/\(∀u,RelV c u->u=cv)/\H a=some (.frz o HX)/\o.cls=.ref C/\ErrLook K C/\o.dict=none/\(∃vs,o.data=.fields vs)/\W.kitOne K (.ref C) cv=some b/\Q (.bl b) H
theorem zbff:CallR X (.builtin "isinstance") (rIsb X.K):=by
 intro aW s σ H xs us Q I r h;obtain⟨a,o,C,c,cv,b,rfl,_,un,h1,h2,lk,h3,h4,e,q⟩:=h;obtain⟨u,w',rfl,ru,rw'⟩:=vals2 r;obtain rfl:=un _ rw';cases(show u=Value.ref a from ru);exact xei (zuk lk h3 h4 h2) I.kIn (I.hok a _ h1).1 e (by intro z;cases z) λtk=>⟨.bl b,H,I.tok tk,rfl,q⟩
end L2
namespace L2
open PySem
namespace St
noncomputable abbrev lt(a b:Nat):Prop:=a<b
theorem zuq(xs:Array Nat)(j:Nat)(mono:∀a b,a<=b->b<xs.size->xs.getD a j<=xs.getD b j):∀(fuel lo hi:Nat),lo<=hi->hi<=xs.size->hi - lo<=fuel->(∀i,i<lo->xs.getD i j<j)->(∀i,hi<=i->i<xs.size->j<=xs.getD i j) ->
  SetTable.below.go xs j fuel lo hi<=xs.size/\(∀i,i<SetTable.below.go xs j fuel lo hi->xs.getD i j<j)/\(∀i,SetTable.below.go xs j fuel lo hi<=i->i<xs.size->j<=xs.getD i j)
 | 0,lo,hi,h1,h2,h3,a,b=>by
  have:lo=hi:=by lia
  subst this;unfold SetTable.below.go;exact⟨h2,a,b⟩
 | fuel+1,lo,hi,h1,h2,h3,a,b=>by
  unfold SetTable.below.go;by_cases c:lo<hi
  ·rw[if_pos c];dsimp only;by_cases d:xs.getD ((lo+hi) / 2) j<j
   ·rw[if_pos d]
    exact zuq xs j mono fuel _ hi (by lia) h2 (by lia) (λi hi'=>by
     have:=mono i ((lo+hi) / 2) (by lia) (by lia)
     lia) b
   ·rw[if_neg d]
    exact zuq xs j mono fuel lo _ (by lia) (by lia) (by lia) a (λi hi' hs=>by
     have:=mono ((lo+hi) / 2) i hi' hs
     lia)
  ·rw[if_neg c];have:lo=hi:=by lia
   subst this;exact⟨h2,a,b⟩
def Up(xs:Array Nat):Prop:=xs.toList.Pairwise lt
theorem zen(xs:Array Nat)(i d:Nat):xs.getD i d=xs.toList.getD i d:=by
 rw[xcq,xbr,xcd]
theorem Up.mono(h:Up xs)(d a b:Nat)(hab:a<=b)(hb:b<xs.size):xs.getD a d<=xs.getD b d:=by
 rcases xez a b with c|c
 ·have hb':b<xs.toList.length:=by simpa using hb
  have ha':a<xs.toList.length:=by lia
  rw[zen,zen,xbr,xbr,xbe ha',xbe hb'];exact xbu (xfh.mp h a b ha' hb' c)
 ·have:a=b:=by lia
  subst this;exact xbf _
theorem zee(h:Up xs)(j:Nat):SetTable.below xs j<=xs.size/\(∀i,i<SetTable.below xs j->xs.getD i j<j)/\(∀i,SetTable.below xs j<=i->i<xs.size->j<=xs.getD i j) :=
 zuq xs j (h.mono j) xs.size 0 xs.size (by lia) (by lia) (by lia) (λi hi=>absurd hi (by lia)) (λi h1 h2=>absurd h2 (by lia))
theorem zmk(h:Up xs)(j:Nat):∀y∈xs.toList.take (SetTable.below xs j),y<j:=λy hy=>by
 obtain⟨h1,h2,h3⟩:=zee h j;obtain⟨i,hi,rfl⟩:=List.mem_iff_getElem.mp hy;rw[xdh] at hi;have hi':i<xs.toList.length:=by lia
 have:=h2 i (by lia);rw[zen,xbr,xbe hi'] at this;rw[xma];exact this
theorem zhz(h:Up xs)(j:Nat):∀y∈xs.toList.drop (SetTable.below xs j),j<=y:=λy hy=>by
 obtain⟨h1,h2,h3⟩:=zee h j;obtain⟨i,hi,rfl⟩:=List.mem_iff_getElem.mp hy;rw[xgr] at hi;have hl:xs.toList.length=xs.size:=by simp
 have hi':SetTable.below xs j+i<xs.toList.length:=by lia
 have:=h3 (SetTable.below xs j+i) (by lia) (by lia);rw[zen,xbr,xbe hi'] at this;rw[xlz];exact this
theorem zzq(h:Up xs) (hj:j∈xs.toList):xs[SetTable.below xs j]?=some j:=by
 have ht:=zmk h j;have hd:=zhz h j;rw[← xdm (SetTable.below xs j) xs.toList] at hj;rcases xbz.mp hj with hj|hj
 ·exact absurd (ht j hj) (xgl _)
 ·have hp:(xs.toList.drop (SetTable.below xs j)).Pairwise lt:=xgb (xly _ _) h;have:(xs.toList.drop (SetTable.below xs j))[0]?=some j:=by
   cases e:xs.toList.drop (SetTable.below xs j) with
   | nil=>rw[e] at hj;cases hj
   | cons y l =>
    rw[e] at hj hd hp;rcases xbn.mp hj with rfl|hj
    ·rfl
    ·have h1:=hd y (by simp);have h2:y<j:=(xgd.mp hp).1 j hj;lia
  rw[xfl] at this;rw[← xcd]
  simpa using this
theorem zem{α:Type}(xs:Array α)(p:Nat)(x:α):(SetTable.insertAt xs p x).toList=xs.toList.take p++x::xs.toList.drop p:=by
 unfold SetTable.insertAt;rw[xcx,xet,xkz,xkz];simp[List.extract];exact xdo (by simp)
theorem Up.insert(h:Up xs) (hj:j∉xs.toList):Up (SetTable.insertAt xs (SetTable.below xs j) j):=by
 unfold Up;rw[zem,xfr];refine⟨xgb (xkc _ _) h,xgd.mpr ⟨λy hy=>?_,xgb (xly _ _) h⟩,λa ha b hb=>?_⟩
 ·have h1:=zhz h j y hy;have h2:y≠j:=λe=>hj (e ▸ xhm hy)
  show j<y;lia
 ·have h1:=zmk h j a ha;rcases xbn.mp hb with rfl|hb
  ·exact h1
  ·have:=zhz h j b hb;show a<b;lia
end St
namespace St
structure Tb (t:SetTable):Prop where
 up:Up t.place
 nd:t.dummies=#[]
 inm:∀y∈t.place.toList,y<=t.mask
 pl:t.plain=true
theorem zup(j:Nat):SetTable.has #[] j=false:=by
 unfold SetTable.has;simp
theorem Tb.slot(h:Tb t)(j:Nat):(t.slot j=.empty/\j∉t.place.toList)\/(∃i,t.slot j=.live i)/\j∈t.place.toList:=by
 unfold SetTable.slot;dsimp only;by_cases c:t.place[SetTable.below t.place j]?=some j
 ·right
  rw[if_pos (by rw[c];exact xgu _)];rw[← xcd] at c;exact⟨⟨_,rfl⟩,xcg c⟩
 ·left
  rw[if_neg (by simpa using c),h.nd,zup];exact⟨rfl,λhj=>c (zzq h.up hj)⟩
noncomputable def iAt(mask:Nat):Nat->Nat->Nat->Nat
 | 0,i,_=>i
 | k+1,i,per=>iAt mask k ((i * 5+1+per / 32) % (mask+1)) (per / 32)
noncomputable def nextP(mask:Nat) (p:SetTable.Probe):SetTable.Probe:={j:=(p.i * 5+1+p.perturb / 32) % (mask+1),more:=SetTable.runEnd mask ((p.i * 5+1+p.perturb / 32) % (mask+1)) - (p.i * 5+1+p.perturb / 32) % (mask+1),i:=(p.i * 5+1+p.perturb / 32) % (mask+1),perturb:=p.perturb / 32,dummy:=p.dummy}
theorem zbfv{t:SetTable}{p:SetTable.Probe} (h:p.more=m+1):t.advance p={p with j:=p.j+1,more:=m}:=by
 unfold SetTable.advance;rw[if_pos (by lia),h]
 rfl
theorem zbfw{t:SetTable}{p:SetTable.Probe}(h:p.more=0):t.advance p=nextP t.mask p:=by
 unfold SetTable.advance;rw[if_neg (by lia)]
 rfl
theorem window(g:Tb t)(h:Int):∀(m fuel:Nat) (p:SetTable.Probe),p.more=m->p.dummy=none ->
  (∃j,SetTable.probe.go t (λ_=>h+1) h (fuel+m+1) p=some (.empty j none)/\j∉t.place.toList/\j<=p.j+m) \/
  (p.j∈t.place.toList/\∃p',p'.i=p.i/\p'.perturb=p.perturb/\p'.dummy=none/\SetTable.probe.go t (λ_=>h+1) h (fuel+m+1) p=SetTable.probe.go t (λ_=>h+1) h fuel (nextP t.mask p'))
 | 0,fuel,p,hm,hd=>by
  have e:SetTable.probe.go t (λ_=>h+1) h (fuel+0+1) p=match t.slot p.j with
   | .empty=>some (.empty p.j p.dummy)
   | .dummy=>SetTable.probe.go t (λ_=>h+1) h fuel (t.advance {p with dummy:=some p.j})
   | .live i=>if h+1==h then some (.candidate p.j i (t.advance p)) else SetTable.probe.go t (λ_=>h+1) h fuel (t.advance p):=rfl
  rw[e];rcases g.slot p.j with⟨s1,s2⟩|⟨⟨i,s1⟩,s2⟩
  ·rw[s1,hd];exact .inl ⟨p.j,rfl,s2,by lia⟩
  ·rw[s1];dsimp only;rw[if_neg (by simp;lia)];exact .inr ⟨s2,p,rfl,rfl,hd,by rw[zbfw hm]⟩
 | m+1,fuel,p,hm,hd=>by
  have e:SetTable.probe.go t (λ_=>h+1) h (fuel+(m+1)+1) p=match t.slot p.j with
   | .empty=>some (.empty p.j p.dummy)
   | .dummy=>SetTable.probe.go t (λ_=>h+1) h (fuel+(m+1)) (t.advance {p with dummy:=some p.j})
   | .live i=>if h+1==h then some (.candidate p.j i (t.advance p)) else SetTable.probe.go t (λ_=>h+1) h (fuel+(m+1)) (t.advance p):=rfl
  rw[e];rcases g.slot p.j with⟨s1,s2⟩|⟨⟨i,s1⟩,s2⟩
  ·rw[s1,hd];exact .inl ⟨p.j,rfl,s2,by lia⟩
  ·rw[s1];dsimp only;rw[if_neg (by simp;lia),zbfv hm,← Nat.add_assoc];rcases window g h m fuel {p with j:=p.j+1,more:=m} rfl hd with⟨j,a,b,c⟩|⟨a,p',b⟩
   ·exact .inl ⟨j,a,b,by dsimp only at c;lia⟩
   ·exact .inr ⟨s2,p',b⟩
theorem zpe(h:i<=mask):i<=SetTable.runEnd mask i/\SetTable.runEnd mask i<=mask/\SetTable.runEnd mask i<=i+9:=by
 unfold SetTable.runEnd;split<;>lia
theorem search(g:Tb t)(h:Int):∀(L fuel:Nat) (p:SetTable.Probe),10 * L<=fuel->p.j=p.i->p.i<=t.mask->p.more=SetTable.runEnd t.mask p.i - p.i->p.dummy=none->(∃k,k<L/\iAt t.mask k p.i p.perturb∉t.place.toList) ->
  ∃j,SetTable.probe.go t (λ_=>h+1) h fuel p=some (.empty j none)/\j∉t.place.toList/\j<=t.mask
 | 0,_,_,_,_,_,_,_,⟨k,hk,_⟩=>absurd hk (by lia)
 | L+1,fuel,p,hf,hj,hi,hm,hd,⟨k,hk,hk2⟩=>by
  obtain⟨r1,r2,r3⟩:=zpe hi;have ef:fuel=(fuel - p.more - 1)+p.more+1:=by lia
  have w:=window g h p.more (fuel - p.more - 1) p rfl hd;rw[← ef] at w;rcases w with⟨j,a,b,c⟩|⟨a,p',b1,b2,b3,b4⟩
  ·exact⟨j,a,b,by lia⟩
  ·rw[b4];cases k with
   | zero=>exact absurd a (by rw[hj];exact hk2)
   | succ k =>
    refine search g h L _ (nextP t.mask p') (by lia) rfl (by unfold nextP;exact xco (xme _ (by lia))) rfl b3 ⟨k,by lia,?_⟩;unfold nextP;dsimp only;rw[b1,b2];exact hk2
/- the leaps meet all places -/
noncomputable def accI(mask:Nat):Nat->Nat->Nat->Nat->Nat
 | 0,acc,_,_=>acc
 | L+1,acc,i,per=>accI mask L (acc ||| 2 ^ i) ((i * 5+1+per / 32) % (mask+1)) (per / 32)
theorem zbbl(mask j:Nat):∀(L acc i per:Nat),(accI mask L acc i per).testBit j=true->acc.testBit j=true\/∃k,k<L/\iAt mask k i per=j
 | 0,acc,i,per,h=>.inl h
 | L+1,acc,i,per,h=>by
  rcases zbbl mask j L _ _ _ h with h|⟨k,h1,h2⟩
  ·rw[Nat.testBit_or,xlh,Bool.or_eq_true,decide_eq_true_iff] at h;rcases h with h|h
   ·exact .inl h
   ·exact .inr ⟨0,by lia,h⟩
  ·exact .inr ⟨k+1,by lia,h2⟩
def covB(mask h:Nat):Bool:=Nat.beq (accI mask (mask+3) 0 (h % (mask+1)) h) (2 ^ (mask+1) - 1)
theorem cov7:(List.range 64).all (covB 7)=true:=by decide +kernel
theorem cov31:(List.range 64).all (covB 31)=true:=by decide +kernel
theorem cov127:(List.range 64).all (covB 127)=true:=by decide +kernel
noncomputable def MaskOk(m:Nat):Prop:=m=7\/m=31\/m=127
theorem cov(hm:MaskOk mask)(hh:h<64)(hj:j<=mask):∃k,k<mask+3/\iAt mask k (h % (mask+1)) h=j:=by
 have c:covB mask h=true:=by
  rcases hm with rfl|rfl|rfl
  ·exact xdp.mp cov7 h (xck.mpr hh)
  ·exact xdp.mp cov31 h (xck.mpr hh)
  ·exact xdp.mp cov127 h (xck.mpr hh)
 have e:=Nat.eq_of_beq_eq_true c;have t:(accI mask (mask+3) 0 (h % (mask+1)) h).testBit j=true:=by
  rw[e,Nat.testBit_two_pow_sub_one];exact xcs (by lia)
 rcases zbbl mask j _ _ _ _ t with z|z
 ·simp at z
 ·exact z
theorem room(g:Tb t)(h:t.place.size<=t.mask):∃j,j<=t.mask/\j∉t.place.toList:=by
 by_cases c:∃j,j<=t.mask/\j∉t.place.toList
 ·exact c
 ·exfalso
  have hs:List.range (t.mask+1) ⊆ t.place.toList:=λj hj=>by
   by_cases z:j∈t.place.toList
   ·exact z
   ·exact absurd ⟨j,by have:=xck.mp hj;lia,z⟩ c
  have:=xla (xml) hs;simp at this;lia
theorem zyq(g:Tb t)(hm:MaskOk t.mask){h:Nat}(hh:h<64)(hr:t.place.size<=t.mask):∃j,t.freeSlot (h:Int)=some (j,false)/\j∉t.place.toList/\j<=t.mask:=by
 obtain⟨j0,a1,a2⟩:=room g hr;obtain⟨k,k1,k2⟩:=cov hm hh a1;have hb:SetTable.bits (h:Int)=h:=by
  unfold SetTable.bits;lia
 have s:=search g (h:Int) (t.mask+3) (10 * SetTable.turns t.mask) (t.probeStart (h:Int)) (by unfold SetTable.turns;lia) rfl (by unfold SetTable.probeStart;exact xco (xme _ (by lia))) rfl rfl ⟨k,k1,by
  show iAt t.mask k (SetTable.bits (h:Int) % (t.mask+1)) (SetTable.bits (h:Int))∉_;rw[hb,k2]
  exact a2⟩
 obtain⟨j,b1,b2,b3⟩:=s;refine⟨j,?_,b2,b3⟩;unfold SetTable.freeSlot SetTable.probe;rw[b1]
 rfl
end St
namespace St
theorem zcv{α:Type}(xs:Array α)(p:Nat)(x:α)(h:p<=xs.size):(SetTable.insertAt xs p x).size=xs.size+1:=by
 have:=congrArg List.length (zem xs p x);simp at this;lia
theorem zbja{es:Array (Int×Value)}{h:Nat} (g:Tb t)(hm:MaskOk t.mask)(hh:h<64)(he:t.place.size=es.size)(hr:t.place.size<t.mask) :
  ∃es' t',layNew t es (h:Int) x=(es',t',false,false)/\Tb t'/\t'.mask=t.mask/\t'.led=t.led/\t'.place.size=es'.size/\es'.size=es.size+1/\es'.toList.Perm (((h:Int),x)::es.toList):=by
 obtain⟨j,f1,f2,f3⟩:=zyq g hm hh (by lia);have hb:=(zee g.up j).1;refine⟨SetTable.insertAt es (SetTable.below t.place j) ((h:Int),x),{t with place:=SetTable.insertAt t.place (SetTable.below t.place j) j},?_,?_,rfl,rfl,?_,?_,?_⟩
 ·have e1:t.put j=({t with place:=SetTable.insertAt t.place (SetTable.below t.place j) j},SetTable.below t.place j):=by
   unfold SetTable.put;dsimp only;rw[g.nd,zup]
   rfl
  have e2:({t with place:=SetTable.insertAt t.place (SetTable.below t.place j) j}:SetTable).fits (SetTable.insertAt es (SetTable.below t.place j) ((h:Int),x)).size=true:=by
   unfold SetTable.fits SetTable.fill;dsimp only;rw[zcv _ _ _ hb,zcv _ _ _ (by lia),g.nd,he];simp;lia
  unfold layNew;rw[f1];dsimp only;rw[e1];dsimp only;unfold SetTable.orStandIn;rw[e2]
  rfl
 ·refine⟨g.up.insert f2,g.nd,λy hy=>?_,g.pl⟩;dsimp only at hy ⊢;rw[zem] at hy;rcases xbz.mp hy with hy|hy
  ·exact g.inm y (xgi hy)
  ·rcases xbn.mp hy with rfl|hy
   ·exact f3
   ·exact g.inm y (xhm hy)
 ·dsimp only;rw[zcv _ _ _ hb,zcv _ _ _ (by lia),he]
 ·rw[zcv _ _ _ (by lia)]
 ·rw[zem];refine(xmj).trans ?_;rw[xdm]
/- laid anew -/
noncomputable def ownL(owner:Array (Option Nat)) (mask:Nat):List Nat:=(List.range (mask+1)).filterMap λj=>owner.getD j none
structure Ow (mask n:Nat) (owner:Array (Option Nat)):Prop where
 size:owner.size=mask+1
 perm:(ownL owner mask).Perm (List.range n)
theorem zbid(h:Ow mask n owner)(hn:n<=mask):∃j,j<=mask/\owner.getD j (some 0)=none:=by
 by_cases c:∃j,j<=mask/\owner.getD j (some 0)=none
 ·exact c
 ·exfalso
  have all:∀j∈List.range (mask+1),(owner.getD j none).isSome=true:=λj hj=>by
   have hj:=xck.mp hj;have hlt:j<owner.size:=by rw[h.size];exact hj
   cases e:owner.getD j none with
   | some x=>rfl
   | none =>
    refine absurd ⟨j,by lia,?_⟩ c;rw[xcq,xda hlt] at e ⊢;exact e
  have hl:(ownL owner mask).length=mask+1:=by
   unfold ownL;have:∀l:List Nat,(∀j∈l,(owner.getD j none).isSome=true)->(l.filterMap λj=>owner.getD j none).length=l.length:=λl=>by
    induction l with
    | nil=>intro _;rfl
    | cons a l ih =>
     intro hl;obtain⟨x,hx⟩:=xho.mp (hl a (by simp));rw[xdq (f:=λj=>owner.getD j none) hx,xbx,xbx,ih λj hj=>hl j (xbo _ hj)]
   rw[this _ all,xfe]
  have:=h.perm.length_eq;rw[hl,xfe] at this;lia
theorem zbas{owner:Array (Option Nat)}:∀(fuel i per:Nat),i<=mask->(∃k,k<fuel/\owner.getD (iAt mask k i per) (some 0)=none)->∃j,SetTable.layClean.free mask owner fuel i per=some j/\j<=mask/\owner.getD j (some 0)=none
 | 0,_,_,_,⟨k,hk,_⟩=>absurd hk (by lia)
 | fuel+1,i,per,hi,⟨k,hk,hk2⟩=>by
  obtain⟨r1,r2,r3⟩:=zpe hi;unfold SetTable.layClean.free;cases e:(List.range (SetTable.runEnd mask i+1 - i)).find? λk=>(owner.getD (i+k) (some 0)).isNone with
  | some z =>
   have h1:=List.find?_some e;have h2:=xck.mp (List.mem_of_find?_eq_some e);exact⟨i+z,rfl,by lia,by simpa using h1⟩
  | none =>
   dsimp only;have h0:=List.find?_eq_none.mp e 0 (xck.mpr (by lia));cases k with
   | zero =>
    exfalso
    rw[xjo] at h0;have hk2:owner.getD i (some 0)=none:=hk2;rw[hk2] at h0;exact h0 rfl
   | succ k =>
    exact zbas fuel _ _ (xco (xme _ (by lia))) ⟨k,by lia,hk2⟩
theorem zkj{α β:Type}{f g:α->Option β}:∀{l:List α},(∀x∈l,f x=g x)->l.filterMap f=l.filterMap g
 | [],_=>rfl
 | a::l,h=>by
  have ih:=zkj (l:=l) λx hx=>h x (xbo _ hx)
  have h1:=h a (by simp);cases e:g a with
  | none=>rw[xec (h1.trans e),xec e,ih]
  | some z=>rw[xdq (h1.trans e),xdq e,ih]
theorem zgm(owner:Array (Option Nat)){j n:Nat}(hj:owner.getD j (some 0)=none)(hs:j<owner.size):∀l:List Nat,l.Nodup->j∈l ->
  (l.filterMap λi=>(owner.setIfInBounds j (some n)).getD i none).Perm (n::l.filterMap λi=>owner.getD i none)
 | [],_,h=>by cases h
 | a::l,nd,h=>by
  have gd:∀i,i≠j->(owner.setIfInBounds j (some n)).getD i none=owner.getD i none:=λi hi=>by
   rw[xcq,xcq,xht (xep hi)]
  have gj:(owner.setIfInBounds j (some n)).getD j none=some n:=by
   rw[xcq,xjc hs]
   rfl
  have g0:owner.getD j none=none:=by
   rw[xcq,xda hs] at hj ⊢;exact hj
  have nd':=xfg.mp nd;by_cases c:a=j
  ·subst c;rw[xdq (f:=λi=>(owner.setIfInBounds a (some n)).getD i none) gj,xec (f:=λi=>owner.getD i none) g0];have:(l.filterMap λi=>(owner.setIfInBounds a (some n)).getD i none)=l.filterMap λi=>owner.getD i none:=zkj λi hi=>gd i λe=>nd'.1 (e ▸ hi)
   rw[this]
  ·have hl:j∈l:=by
    rcases xbn.mp h with h|h
    ·exact absurd h.symm c
    ·exact h
   have ih:=zgm owner (n:=n) hj hs l nd'.2 hl;cases e:owner.getD a none with
   | none=>rw[xec (f:=λi=>(owner.setIfInBounds j (some n)).getD i none) (by rw[gd a c];exact e),xec (f:=λi=>owner.getD i none) e];exact ih
   | some z =>
    rw[xdq (f:=λi=>(owner.setIfInBounds j (some n)).getD i none) (by rw[gd a c];exact e),xdq (f:=λi=>owner.getD i none) e];exact(List.Perm.cons z ih).trans (List.Perm.swap n z _)
theorem Ow.step{mask n:Nat}{owner:Array (Option Nat)}(h:Ow mask n owner)(hm:MaskOk mask){hv:Nat}(hh:hv<64)(hn:n<=mask) :
  ∃j,SetTable.layClean.free mask owner (SetTable.turns mask) (SetTable.bits (hv:Int) % (mask+1)) (SetTable.bits (hv:Int))=some j/\Ow mask (n+1) (owner.setIfInBounds j (some n)):=by
 have hb:SetTable.bits (hv:Int)=hv:=by
  unfold SetTable.bits;lia
 obtain⟨j0,a1,a2⟩:=zbid h hn;obtain⟨k,k1,k2⟩:=cov hm hh a1;rw[hb];obtain⟨j,f1,f2,f3⟩:=zbas (owner:=owner) (mask:=mask) (SetTable.turns mask) (hv % (mask+1)) hv (xco (xme _ (by lia))) ⟨k,by unfold SetTable.turns;lia,by rw[k2];exact a2⟩;refine⟨j,f1,⟨by rw[Array.size_setIfInBounds];exact h.size,?_⟩⟩;have p:=zgm owner (n:=n) f3 (by rw[h.size];lia) (List.range (mask+1)) xml (xck.mpr (by lia));refine p.trans ((List.Perm.cons n h.perm).trans ?_);rw[xky];exact(List.perm_append_singleton n _).symm
noncomputable def SmallH(h:Int):Prop:=∃n:Nat,n<64/\h=n
theorem zuh{mask:Nat}(hm:MaskOk mask):∀(l:List Int) (n:Nat) (owner:Array (Option Nat)),Ow mask n owner->(∀h∈l,SmallH h)->n+l.length<=mask ->
  ∃owner',l.foldl (λacc h=>do
   let (owner,k) ← acc
   let j ← SetTable.layClean.free mask owner (SetTable.turns mask) (SetTable.bits h % (mask+1)) (SetTable.bits h)
   pure (owner.setIfInBounds j (some k),k+1)) (some (owner,n))=some (owner',n+l.length)/\Ow mask (n+l.length) owner'
 | [],n,owner,o,_,_=>⟨owner,rfl,o⟩
 | h::l,n,owner,o,hs,hl=>by
  rw[xbx] at hl ⊢;obtain⟨hv,h1,rfl⟩:=hs h (by simp);obtain⟨j,f1,f2⟩:=o.step hm h1 (by lia);obtain⟨o',g1,g2⟩:=zuh hm l (n+1) _ f2 (λx hx=>hs x (xbo _ hx)) (by lia);refine⟨o',?_,by rw[show n+(l.length+1)=n+1+l.length by lia];exact g2⟩;rw[xhf]
  have e:(do
   let (owner,k) ← some (owner,n)
   let j ← SetTable.layClean.free mask owner (SetTable.turns mask) (SetTable.bits (hv:Int) % (mask+1)) (SetTable.bits (hv:Int))
   pure (owner.setIfInBounds j (some k),k+1):Option (Array (Option Nat)×Nat))=some (owner.setIfInBounds j (some n),n+1):=by
   show(SetTable.layClean.free mask owner (SetTable.turns mask) (SetTable.bits (hv:Int) % (mask+1)) (SetTable.bits (hv:Int))).bind _=_;rw[f1]
   rfl
  rw[e,g1,show n+(l.length+1)=n+1+l.length by lia]
theorem ow0(mask:Nat):Ow mask 0 (Array.replicate (mask+1) none):=by
 refine⟨by simp,?_⟩;unfold ownL;have:(List.range (mask+1)).filterMap (λj=>(Array.replicate (mask+1) (none:Option Nat)).getD j none)=(List.range (mask+1)).filterMap λ_=>(none:Option Nat):=zkj λj _=>by
  rw[xcq,Array.getElem?_replicate];split<;>rfl
 rw[this];have:∀l:List Nat,l.filterMap (λ_=>(none:Option Nat))=[]:=λl=>by induction l<;>simp_all
 rw[this];exact xmz _
theorem zyg(hm:MaskOk mask){hs:Array Int}(h:∀x∈hs.toList,SmallH x)(hn:hs.size<=mask):∃owner,SetTable.layClean mask hs=some owner/\Ow mask hs.size owner:=by
 obtain⟨o,e,w⟩:=zuh hm hs.toList 0 _ (ow0 mask) h (by simpa using hn);rw[xdr] at e w;refine⟨o,?_,by simpa using w⟩;unfold SetTable.layClean;rw[← Array.foldl_toList,e]
 rfl
theorem zuf(owner:Array (Option Nat)):∀l:List Nat,(l.filterMap λj=>(owner.getD j none).map λk=>(j,k)).map (·.1)=l.filter λj=>(owner.getD j none).isSome
 | []=>rfl
 | a::l=>by
  have ih:=zuf owner l;cases e:owner.getD a none with
  | none=>rw[xec (f:=λj=>(owner.getD j none).map λk=>(j,k)) (by rw[e];rfl),xcz (by rw[e];decide),ih]
  | some z=>rw[xdq (f:=λj=>(owner.getD j none).map λk=>(j,k)) (by rw[e];rfl),xcr (by rw[e];rfl),xca,ih]
theorem zue(owner:Array (Option Nat)):∀l:List Nat,(l.filterMap λj=>(owner.getD j none).map λk=>(j,k)).map (·.2)=l.filterMap λj=>owner.getD j none
 | []=>rfl
 | a::l=>by
  have ih:=zue owner l;cases e:owner.getD a none with
  | none=>rw[xec (f:=λj=>(owner.getD j none).map λk=>(j,k)) (by rw[e];rfl),xec (f:=λj=>owner.getD j none) e,ih]
  | some z=>rw[xdq (f:=λj=>(owner.getD j none).map λk=>(j,k)) (by rw[e];rfl),xdq (f:=λj=>owner.getD j none) e,xca,ih]
theorem zxe{α:Type}(es:List α):(List.range es.length).filterMap (λi=>es[i]?)=es:=by
 induction es with
 | nil=>rfl
 | cons a l ih =>
  rw[xbx,List.range_succ_eq_map,xdq (f:=λi=>(a::l)[i]?) rfl,List.filterMap_map]
  congr 1
theorem relay{t:SetTable}{es:Array (Int×Value)}{wanted:Nat}(g:Tb t)(hh:∀e∈es.toList,SmallH e.1)(hm:MaskOk (SetTable.sizeAbove wanted - 1))(hn:es.size<=SetTable.sizeAbove wanted - 1) :
  ∃es' t',relayAll t es wanted=(es',t',false)/\Tb t'/\t'.mask=SetTable.sizeAbove wanted - 1/\t'.led=t.led/\t'.place.size=es'.size/\es'.size=es.size/\es'.toList.Perm es.toList:=by
 obtain⟨owner,e1,w⟩:=zyg hm (hs:=es.map (·.1)) (λx hx=>by
  rw[Array.toList_map] at hx;obtain⟨e,he,rfl⟩:=xce.mp hx
  exact hh e he) (by simpa using hn)
 rw[Array.size_map] at w;generalize hmk:SetTable.sizeAbove wanted - 1=mask at e1 w hm hn
 let live:=(List.range (mask+1)).filterMap λj=>(owner.getD j none).map λk=>(j,k)
 have l1:live.map (·.1)=(List.range (mask+1)).filter λj=>(owner.getD j none).isSome:=zuf owner _
 have l2:live.map (·.2)=ownL owner mask:=zue owner _;have hp:=w.perm;rw[← l2] at hp;have hperm:((live.map (·.2)).filterMap λi=>es[i]?).Perm es.toList:=by
  refine(hp.filterMap _).trans ?_;have:=zxe es.toList;rw[xcb] at this;rw[show(List.range es.size).filterMap (λi=>es[i]?)=es.toList from(zkj λi _=>(xcd (xs:=es)).symm).trans this]
 have hlen:((live.map (·.2)).filterMap λi=>es[i]?).length=es.size:=by rw[hperm.length_eq,xcb]
 have hll:live.length=es.size:=by
  have:=hp.length_eq;rw[xbc,xfe] at this;exact this
 have er:t.relaid (es.map (·.1)) wanted=some ({mask,place:=(live.map (·.1)).toArray,dummies:=#[],finger:=t.finger,led:=t.led,moves:=t.movedTo mask,plain:=t.plain},(live.map (·.2)).toArray):=by
  unfold SetTable.relaid SetTable.laid;rw[hmk,e1]
  rfl
 refine⟨((live.map (·.2)).filterMap λi=>es[i]?).toArray,{mask,place:=(live.map (·.1)).toArray,dummies:=#[],finger:=t.finger,led:=t.led,moves:=t.movedTo mask,plain:=t.plain},?_,⟨?_,rfl,λy hy=>?_,g.pl⟩,rfl,rfl,?_,?_,?_⟩
 ·unfold relayAll;rw[er];dsimp only;have c1:coversAll (live.map (·.2)).toArray es.size=true:=by
   unfold coversAll;exact List.isPerm_iff.mpr hp
  have c2:(live.map (·.2)).toArray.filterMap (λx=>es[x]?)=((live.map (·.2)).filterMap λi=>es[i]?).toArray:=by simp
  rw[c2,c1];have c3:({mask,place:=(live.map (·.1)).toArray,dummies:=#[],finger:=t.finger,led:=t.led,moves:=t.movedTo mask,plain:=t.plain}:SetTable).fits ((live.map (·.2)).filterMap λi=>es[i]?).toArray.size=true:=by
   unfold SetTable.fits SetTable.fill;dsimp only;rw[xbs,xbs,hlen,xbc,hll];simp;lia
  rw[c3]
  rfl
 ·show(live.map (·.1)).toArray.toList.Pairwise lt;rw[List.toList_toArray,l1];exact xgb List.filter_sublist List.pairwise_lt_range
 ·dsimp only at hy ⊢;rw[l1] at hy;have:=xck.mp (xfu.mp hy).1;lia
 ·dsimp only;rw[xbs,xbs,hlen,xbc,hll]
 ·rw[xbs,hlen]
 ·rw[List.toList_toArray];exact hperm
end St
namespace St
theorem zbcy{α:Type}{l:List α} (h:i<l.length):(l[i]::l.eraseIdx i).Perm l:=by
 rw[List.eraseIdx_eq_take_drop_succ];refine xmj.symm.trans ?_;rw[← xgf h,xdm]
theorem zbaa{α:Type}(next:Nat->Nat):∀(fuel k:Nat) (left:List α) (out:Array α),left.length<=fuel->(pickOrder.go next fuel k left out).toList.Perm (out.toList++left)
 | 0,k,left,out,h=>by
  have:left=[]:=xjz.mp (by lia);subst this;unfold pickOrder.go;rw[xct]
 | fuel+1,k,left,out,h=>by
  unfold pickOrder.go;cases e:left[next k % left.length]? with
  | none =>
   have:left=[]:=by
    cases left with
    | nil=>rfl
    | cons a l =>
     have:=List.getElem?_eq_none_iff.mp e;have:=xme (next k) (show(a::l).length > 0 by simp);lia
   subst this;dsimp only;rw[xct]
  | some x =>
   dsimp only;obtain⟨hi,rfl⟩:=xbj.mp e;have ih:=zbaa next fuel (k+1) (left.eraseIdx (next k % left.length)) (out.push left[next k % left.length]) (by rw[List.length_eraseIdx_of_lt hi];lia);refine ih.trans ?_;rw[xet,xcj];exact xga _ (zbcy hi)
theorem zxk{α:Type}(next:Nat->Nat)(xs:Array α):(pickOrder next xs).toList.Perm xs.toList:=by
 unfold pickOrder;exact zbaa next xs.size 0 xs.toList #[] (by simp)
theorem zvv(h:Up xs) (hi:i<xs.size):SetTable.below xs (xs.getD i 0+1)=i+1:=by
 obtain⟨h1,h2,h3⟩:=zee h (xs.getD i 0+1);have up:∀a b,a<b->b<xs.size->xs.getD a 0<xs.getD b 0:=λa b hab hb=>by
  have hb':b<xs.toList.length:=by simpa using hb
  have ha':a<xs.toList.length:=by lia
  rw[zen,zen,xbr,xbr,xbe ha',xbe hb'];exact xfh.mp h a b ha' hb' hab
 have dflt:∀a d,a<xs.size->xs.getD a d=xs.getD a 0:=λa d ha=>by
  rw[xcq,xcq,xda ha]
  rfl
 generalize SetTable.below xs (xs.getD i 0+1)=b at h1 h2 h3;rcases Nat.lt_trichotomy b (i+1) with c|c|c
 ·have:=h3 i (by lia) hi;have e:=dflt i (xs.getD i 0+1) hi;lia
 ·exact c
 ·have:=h2 (i+1) c;have hlt:i+1<xs.size:=by lia
  have e:=dflt (i+1) (xs.getD i 0+1) hlt;have:=up i (i+1) (by lia) hlt;lia
theorem zvu(h:Up xs):SetTable.below xs 0=0:=by
 obtain⟨h1,h2,h3⟩:=zee h 0;rcases xjp (SetTable.below xs 0) with c|c
 ·exact c
 ·exact absurd (h2 0 c) (by lia)
end St
end L2
namespace L2
open PySem PySem.W PyProof.Rows PySem.Spec
namespace St
structure Es (l:List (Int×Value)) (ks:List Nat):Prop where
 all:∀e∈l,∃(n:Nat) (t:Tok),n<64/\e=((n:Int),Value.int (n:Int) t)
 perm:(l.map (·.1)).Perm (ks.map λ(n:Nat)=>(n:Int))
 nd:ks.Nodup
theorem Es.small(h:Es l ks):∀k∈ks,k<64:=λk hk=>by
 have h1:(k:Int)∈l.map (·.1):=h.perm.mem_iff.mpr (xce.mpr ⟨k,hk,rfl⟩);obtain⟨e,he,e1⟩:=xce.mp h1;obtain⟨n,t,hn,rfl⟩:=h.all e he;dsimp only at e1;lia
theorem Es.len(h:Es l ks):l.length=ks.length:=by
 have:=h.perm.length_eq
 simpa using this
theorem Es.few(h:Es l ks):l.length<=64:=by
 rw[h.len];have:=xla h.nd (l₂:=List.range 64) λk hk=>xck.mpr (h.small k hk)
 simpa using this
theorem Es.of_perm{l':List (Int×Value)} (h:Es l ks)(p:l'.Perm l):Es l' ks :=
 ⟨λe he=>h.all e (p.mem_iff.mp he),(p.map _).trans h.perm,h.nd⟩
theorem Es.add(h:Es l ks) (hn:n<64)(no:n∉ks):Es (((n:Int),Value.int (n:Int) t)::l) (n::ks) :=
 ⟨λe he=>by
  rcases xbn.mp he with rfl|he
  ·exact⟨n,t,hn,rfl⟩
  ·exact h.all e he,h.perm.cons _,xfg.mpr ⟨no,h.nd⟩⟩
theorem zlx{n:Nat}(h:n<64):hashInt (n:Int)=n:=by
 have e:rawHash (n:Int)=n:=by
  unfold rawHash;have h1:(((n:Int).natAbs:Int) % ((2 ^ 61 - 1:Nat):Int))=n:=by
   rw[Int.natAbs_natCast];exact Int.emod_eq_of_lt (by lia) (by lia)
  rw[h1];dsimp only;have h2:¬ ((n:Int)<0):=by lia
  rw[if_neg h2];have h3:((n:Int)==-1)=false:=by
   rw[xff];lia
  rw[h3]
  rfl
 unfold hashInt;rw[e];have h3:((n:Int)==-1)=false:=by
  rw[xff];lia
 rw[h3]
 rfl
structure Tt (w:World) (es:Array (Int×Value)) (t:SetTable) (ks:List Nat):Prop where
 tb:Tb t
 mo:MaskOk t.mask
 ld:t.led=!w.params.followText "set-order"
 sz:t.place.size=es.size
 room:t.place.size * 5<t.mask * 3
 el:Es es.toList ks
theorem Tt.fits(h:Tt w es t ks):t.fits es.size=true:=by
 have:=h.room;have hz:=h.sz;unfold SetTable.fits SetTable.fill;rw[h.tb.nd];simp;lia
theorem Tt.few(h:Tt w es t ks):es.size<=64:=by
 have:=h.el.few
 simpa using this
theorem Tt.elems{ks:List Nat}(h:Tt w es t ks):ElemsOf (intKind P w) es.toList:=λe he=>by
 obtain⟨m,t,hm,rfl⟩:=h.el.all e he;exact⟨⟨(m:Int),intKind_is _ _ _ _,(zlx hm).symm⟩,rfl⟩
noncomputable def Sn(w:World) (h:Heap) (a:Addr) (ks:List Nat):Prop:=∃ob es ep t,h.get? a=some ob/\ob.ExactSet/\ob.data=.set es ep t/\Tt w es t ks
theorem Sn.kept{h':Heap} (x:Sn w h a ks)(k:∀o,h.get? a=some o->h'.get? a=some o):Sn w h' a ks :=
 let ⟨ob,es,ep,t,e,r⟩:=x;⟨ob,es,ep,t,k _ e,r⟩
theorem zbjt{t:SetTable} (nd:t.dummies=#[])(mk:MaskOk t.mask)(hm:t.place.size=m+1)(room:m * 5<t.mask * 3)(few:m+1<=64) :
  (t.tooFull=false/\(m+1) * 5<t.mask * 3)\/(t.tooFull=true/\MaskOk (SetTable.sizeAbove (SetTable.grown (m+1)) - 1)/\m+1<=SetTable.sizeAbove (SetTable.grown (m+1)) - 1/\(m+1) * 5<(SetTable.sizeAbove (SetTable.grown (m+1)) - 1) * 3):=by
 have hf:t.fill=m+1:=by
  unfold SetTable.fill;rw[nd,hm]
  rfl
 rcases mk with e|e|e
 ·by_cases c:m=4
  ·subst c
   right
   refine⟨by unfold SetTable.tooFull;rw[hf,e];decide,?_,by decide,by decide⟩;exact .inr (.inl (by decide))
  ·left
   refine⟨?_,by lia⟩;unfold SetTable.tooFull;rw[hf,e];simp;lia
 ·by_cases c:m=18
  ·subst c
   right
   refine⟨by unfold SetTable.tooFull;rw[hf,e];decide,?_,by decide,by decide⟩;exact .inr (.inr (by decide))
  ·left
   refine⟨?_,by lia⟩;unfold SetTable.tooFull;rw[hf,e];simp;lia
 ·left
  refine⟨?_,by lia⟩;unfold SetTable.tooFull;rw[hf,e];simp;lia
theorem zbhc{h:Heap} (ho:h.get? a=some o)(hd:o.data=.set es ep t)(es':Array (Int×Value))(t':SetTable) :
  (h.update a (Obj.putSet es' t')).get? a=some {o with data:=.set es' (ep+1) t'}:=by
 have e:=putSet_of es' t' hd;have g:=xeu (Obj.putSet es' t') ho (by rw[e];rfl)
 rwa [e] at g
theorem zbrd{s:Shared}{ks:List Nat}{n:Nat} (hn:n<64)(S:Sn w s.heap a ks)
  (fin:∀h' b,Heap.SameBut a s.heap h'->Sn w h' a (if n∈ks then ks else n::ks)->Q b {s with heap:=h'}) :
  wpAny (model P w) B (setAddHashed a (.int (n:Int) tok) (hashInt (n:Int))) Q E s:=by
 obtain⟨ob,es,ep,t,ho,hex,hd,T⟩:=id S;have few:=T.few;have hb:es.size<scanBound:=by unfold scanBound;lia
 unfold setAddHashed setAddHashedIn;refine xdz (xba (xkg ho hd T.fits ?_));dsimp only;rw[byScan_of (knd:=intKind P w) (x:=.int (n:Int) tok) rfl hb T.elems,if_pos rfl];unfold setAddByScan;refine xba (xba (xih (xba (wpAny_setScan_of (knd:=intKind P w) (k:=(n:Int)) (intKind_is _ _ _ _) ho hd T.fits T.elems ?_))));cases hr:List.findIdx? (λe=>(intKind P w).is (n:Int) e.2) es.toList with
 | some j =>
  dsimp only;obtain⟨hj,hp,_⟩:=List.findIdx?_eq_some_iff_getElem.mp hr;obtain⟨m,t2,hm,e⟩:=T.el.all _ (xdi hj);rw[e] at hp;have emn:(n:Int)=(m:Int):=(intKind P w).inj _ _ _ hp (intKind_is P w (m:Int) t2);have h1:(n:Int)∈es.toList.map (·.1):=xce.mpr ⟨_,xdi hj,by rw[e];exact emn.symm⟩;obtain⟨k,hk,ek⟩:=xce.mp (T.el.perm.mem_iff.mp h1);have hin:n∈ks:=by
   have:k=n:=by lia
   exact this ▸ hk
  have f:=fin s.heap false (Heap.SameBut.refl a s.heap);rw[if_pos hin] at f;exact xbd (xbd (f S))
 | none =>
  dsimp only;have no:n∉ks:=λhk=>by
   have h1:(n:Int)∈es.toList.map (·.1):=T.el.perm.mem_iff.mpr (xce.mpr ⟨n,hk,rfl⟩);obtain⟨e,he,e1⟩:=xce.mp h1;obtain⟨m,t2,hm,rfl⟩:=T.el.all e he;have z:=List.findIdx?_eq_none_iff.mp hr _ he;dsimp only at e1 z;rw[e1,intKind_is] at z;cases z
  rw[zlx hn];obtain⟨es1,t1,e1,tb1,mk1,ld1,sz1,ln1,pm1⟩:=zbja (x:=Value.int (n:Int) tok) T.tb T.mo hn T.sz (by have:=T.room;lia);have el1:Es es1.toList (n::ks):=(T.el.add (t:=tok) hn no).of_perm pm1;rw[e1];dsimp only;refine xba (xbd ?_);rw[tb1.pl,if_pos rfl,hashByValue_scannable 8 (x:=Value.int (n:Int) tok) rfl];refine xba (xbd ?_);rw[show plainKind (Value.int (n:Int) tok)=true from rfl,if_pos rfl];have few1:es1.size<=64:=by have:=el1.few;simpa using this
  refine xba (wpAny_storeSet_of ho hd ?_ (by rw[xgg];lia));have g1:=zbhc ho hd es1 t1;have sb1:=xer s.heap a (Obj.putSet es1 t1);have f:=λh' b=>fin h' b
  rw[if_neg no] at f;rcases zbjt (t:=t1) (m:=es.size) tb1.nd (by rw[mk1];exact T.mo) (by lia) (by have:=T.room;have:=T.sz;rw[mk1];lia) (by lia) with⟨c1,c2⟩|⟨c1,c2,c3,c4⟩
  ·rw[c1];refine xbd (xbd (f _ _ sb1 ⟨_,es1,ep+1,t1,g1,hex,rfl,tb1,by rw[mk1];exact T.mo,ld1.trans T.ld,sz1,?_,el1⟩));lia
  ·rw[c1]
   obtain⟨es2,t2,e2,tb2,mk2,ld2,sz2,ln2,pm2⟩:=relay (wanted:=SetTable.grown es1.size) tb1 (λe he=>by
    obtain⟨m,tt,hm,rfl⟩:=el1.all e he
    exact⟨m,hm,rfl⟩) (by rw[ln1];exact c2) (by rw[ln1];exact c3)
   rw[e2];refine xba (xbd ?_);refine xba (wpAny_storeSet_of g1 rfl ?_ (by show es2.size<=_;rw[xgg];lia));refine xbd (xbd (f _ _ (sb1.trans (xer _ a _)) ⟨_,es2,ep+1+1,t2,zbhc g1 rfl es2 t2,hex,rfl,tb2,by rw[mk2,ln1];exact c2,ld2.trans (ld1.trans T.ld),sz2,?_,el1.of_perm pm2⟩));rw[mk2,ln1];lia
end St
namespace St
noncomputable def met:List Nat->List Nat->List Nat
 | [],ks=>ks
 | n::l,ks=>met l (if n∈ks then ks else n::ks)
theorem zlt:entryFor table "set.update.loop"=some Builtin.«set.update.loop»:=entryFor_of_tree (by kernel_rfl)
theorem zhm:plainId "set.update.loop"=true:=by decide +kernel
section
variable {P:Program}{w:World}{B:Around}{R:Result->Shared->Prop}{it:Addr}{fp:List Addr}{wr:List Addr}{G:Array GenState->Array GenState->Prop}{N:Nat}{It:Nat->Value->Prop}{St:Nat->Shared->Prop}
theorem zbak(W:WalksS P w B.in1 it fp wr G N It St)(a:Addr)(na:a∉fp)(ns:List Nat)(hN:ns.length=N)(small:∀n∈ns,n<64)
  (val:∀i v,It i v->∃t,v=Value.int ((ns.getD i 0:Nat):Int) t):∀(r:List Nat) (i:Nat) (ks:List Nat) (s:Shared),ns.drop i=r->i<=N->St i s->Sn w s.heap a ks ->
   (∀ s', Moved (a::wr) G s s'->Sn w s'.heap a (met r ks)->R (.ok (.ret .none)) s')->codeAny (model P w) B (.builtin "set.update.loop" ⟨[.ref a,.ref it],[]⟩) R s
 | [],i,ks,s,hr,hi,au,S,fin=>by
  have e:i=N:=by
   have:=congrArg List.length hr;simp at this;lia
  subst e;refine xlf zlt ?_;rw[xlb zhm _];refine xba (m:=pyNext (.ref it)) (W.done s _ _ au λs' mv=>?_);have aw:a∉wr:=λz=>na (W.sub _ z)
  exact xbd (fin s' (mv.mono λb hb=>xbo _ hb) (S.kept λo e=>mv.heap a o aw e))
 | n::r,i,ks,s,hr,hi,au,S,fin=>by
  have hlt:i<N:=by
   have:=congrArg List.length hr;simp at this;lia
  have hg:ns.getD i 0=n/\n∈ns/\ns.drop (i+1)=r:=by
   have h1:ns[i]?=some n:=by
    have:=congrArg (λl:List Nat=>l[0]?) hr
    simpa using this
   refine⟨by rw[xbr,h1];rfl,xcg h1,?_⟩;rw[← xlk,hr]
   rfl
  have aw:a∉wr:=λz=>na (W.sub _ z)
  refine xlf zlt ?_;rw[xlb zhm _];refine xba (m:=pyNext (.ref it)) (W.item i s _ _ hlt au λv s' pv st' mv=>?_);obtain⟨t,rfl⟩:=val i v pv;rw[hg.1];refine xba (m:=holding [Value.int (n:Int) t] (setAdd a (.int (n:Int) t))) (xdz ?_);unfold setAdd;refine xdz (xba (wpAny_pyHash_int ?_));refine zbrd (s:={s' with toks:=s'.toks+1}) (small n hg.2.1) (S.kept λo e=>mv.heap a o aw e) λh' b sb S'=>?_
  refine xbd ⟨plainId_quiet zhm _,zbak W a na ns hN small val r (i+1) _ _ hg.2.2 hlt (W.frame _ s' _ _ st' (xkl _) λb hb o e=>?_) S' λs2 mv2 S2=>?_⟩
  ·rw[sb.2 b (λz:b=a=>na (z ▸ hb))];exact e
  ·refine fin s2 (Moved.trans W.gtrans ((mv.mono λb hb=>xbo _ hb).then_heap (xkl _) λb o hb e=>?_) mv2) S2;rw[sb.2 b (λz:b=a=>hb (z ▸ xbp))];exact e
end
noncomputable def newO(w:World):Obj:={ cls:=.type "set", dict:=none,data:=.set #[] 0 (.fresh 0 0 (!w.params.followText "set-order")) }
theorem zboj{s:Shared}(x:Value){W:Value->Shared->Prop}(fin:W (.ref s.heap.objs.size) {s with heap:=s.heap.push (newO w)}) :
  codeAny (model P w) B (.call (.builtin "set.__new__") ⟨[.type "set", x],[]⟩) (wants W E) s:=by
 refine codeAny_call_builtin_code (plainId_quiet F.plain_set_new _) (wpAny_of_eq (F.newCall_set_1 x) (xlf F.entry_set_new ?_));rw[xlb F.plain_set_new _];have sub:=sub_set_self;unfold Builtin.«set.__new__» Builtin.Frozenset.newClass;obtain⟨hp,g,d,tk,os⟩:=s
 wp_walk
 refine xja (xbd ?_);simp only[newObj];exact xba (wpAny_alloc (xbd (xbd fin)))
theorem zboi{h:Heap} (e:h.get? a=some (newO w)):Sn w h a [] :=
 ⟨_,#[],0,_,e,⟨rfl,rfl,rfl⟩,rfl,⟨List.Pairwise.nil,rfl,λy hy=>(by cases hy),rfl⟩,.inl rfl,rfl,rfl,(by show 0 * 5<7 * 3;decide),⟨λe he=>(by cases he),xmz _,xgt⟩⟩
section
variable {P:Program}{w:World}{B:Around}{E:Value->Shared->Prop}{s:Shared}
theorem zvn{l:Addr}{its:List Value}{ns:List Nat}{W:Value->Shared->Prop}(hh:B.handled=none)(isl:s.heap.IsList l its.toArray)(iv:IntsAre its (ns.map λ(n:Nat)=>(n:Int)))(small:∀n∈ns,n<64)
  (fin:∀(h':Heap) (tk:Nat),Sn w h' s.heap.objs.size (met ns [])->(∀b o,s.heap.get? b=some o->h'.get? b=some o)->W (.ref s.heap.objs.size) {s with heap:=h',toks:=tk}) :
  wpAny (model P w) B (call (.type "set") [.ref l]) W E s:=by
 have len:its.length=ns.length:=by simpa using iv.length
 obtain⟨c,tl,hmro⟩:=xhr.mro;have hmade:=xhr.made;have hsub:=xhr.sub;have h1:=xhr.notType;have h2:=xhr.canCreate;have hct:=F.typeCall_set_1 (.ref l);refine xiz (codeAny_of_tree (show wpAny _ _ (callAny (.type "set") _) _ _ _ from xbd ⟨Code.quiet_builtin _ (by decide +kernel),xlf F.entry_type_call ?_⟩))
 rw[Around.under_plain (weight_type_call_type "set" [.ref l] []) rfl]
 repeat (any_goals (first|assumption|wp_step))
 refine xha (zboj (w:=w) (.ref l) (E:=E) (W:=λv s1=>v=.ref s.heap.objs.size/\s1={s with heap:=s.heap.push (newO w)}) ⟨rfl,rfl⟩) λr s1 hr=>?_
 match r,hr with
 | .error e,hr=>exact hr
 | .ok (.ret v),hr =>
  obtain⟨rfl,rfl⟩:=hr;have en:(s.heap.push (newO w)).get? s.heap.objs.size=some (newO w):=xbw _ rfl;have ty:Shared.TypeIs { s with heap:=s.heap.push (newO w) } (.ref s.heap.objs.size) "set":=⟨_,en,rfl⟩
  have hli:=xhr.init.lookup;have hbi:=xhr.init.bind (.ref s.heap.objs.size)
  repeat (any_goals (first|assumption|wp_step))
  refine xha (codeAny_call_builtin (R:=wants (λv s2=>v=.none/\∃h' tk,s2={s with heap:=h',toks:=tk}/\Sn w h' s.heap.objs.size (met ns [])/\∀b o,s.heap.get? b=some o->h'.get? b=some o) E) xhr.init.plain F.entry_set_init (check_set_init_1 ty ?body)) λr2 s2 hr2=>?_
  case body =>
   obtain⟨ol,hol,hcl,nl,hdl⟩:=id isl;obtain⟨oc,od,odt,osl⟩:=ol;simp only at hcl hdl;subst hcl hdl;have hol':(s.heap.push (newO w)).get? l=some { cls:=.type "list", dict:=od,data:=.seq its.toArray nl,slots:=osl }:=xbg _ hol
   have isl':(s.heap.push (newO w)).IsList l its.toArray:=⟨_,hol',rfl,nl,rfl⟩
   have ns1:=F.sub_list_set;have ns2:=F.sub_list_frozenset;have ne:(Value.type "list"==Value.type "dict")=false:=by decide
   unfold Builtin.«set.__init__» noKeywords Builtin.Frozenset.updateFrom;generalize hPI:pyIter=PI
   wp_walk
   subst hPI;have ls:l<s.heap.objs.size:=xbq hol;have z1:(s.heap.push (newO w)).objs.size=s.heap.objs.size+1:=Heap.size_push ..
   refine xkf isl' (xba (wpAny_runValue ?_))
   refine zbak ((Walks.list (by simp[hh]) _ l (xbv (by rw[z1];exact xhk ls)) its.toArray).toS) s.heap.objs.size (λz=>by
    rw[z1] at z;rcases xbn.mp z with z|z
    ·exact xbv (xiw _) z
    ·exact xip ls (xbk.mp z)) ns (by simp[len]) small (λi v hv=>?_) ns 0 [] _ rfl (xeb _) ⟨⟨_,xbw _ rfl,rfl,rfl⟩,isl'.push _⟩ (zboi (xbg _ en)) λs2 mv S2=>?_
   ·obtain⟨t,e⟩:=IntsAre.int_at iv i v (by simpa using hv);refine⟨t,e.trans ?_⟩
    congr 1
    rw[xbr,xcn,xbr];cases ns[i]?<;>rfl
   ·rw[Moved.eq_with mv];refine xbd (xbd ⟨rfl,s2.heap,s2.toks,rfl,S2,λb o e=>?_⟩);have lt:=xbq e
    exact mv.heap b o (λz=>by
     rw[z1] at z;rcases xbn.mp z with z|z
     ·exact xbv lt z
     ·exact xbv (xhk lt) (xbk.mp z)) (xbg _ (xbg _ e))
  match r2,hr2 with
  | .error e,hr2=>exact hr2
  | .ok (.ret v),hr2 =>
   obtain⟨rfl,h',tk,rfl,S',keep⟩:=hr2
   repeat (any_goals (first|assumption|wp_step))
   exact fin _ _ S' keep
end
end St
namespace St
theorem zbic:Manifest.owners.lookup (String.ofList ("rotareti_tes".toList).reverse)=some Manifest.sig_set_iterator:=by kernel_rfl
theorem zja:Slot "set_iterator" "__next__" "set_iterator.__next__":=by
 refine Slot.of (owner:="set_iterator") (n:="__next__") ?_ (by decide +kernel) (by decide +kernel) (by decide +kernel) ?_ ?_
 ·rw[typeLookup_type,builtinLookup_eq_fast]
  kernel_rfl
 ·first
   | exact .inl (by decide +kernel)
   | exact .inr (by decide +kernel)
 ·rw[isSubtype_type]
  kernel_rfl
theorem ztv:entryFor table "set_iterator.__next__"=some Builtin.«set_iterator.__next__»:=entryFor_of_tree (by kernel_rfl)
theorem zbaf(a:Value):argsOk "set_iterator.__next__" ⟨[a],[]⟩:=by
 unfold argsOk;rw[signature?_of (id:="set_iterator.__next__") (n:="__txen__".toList) (o:="rotareti_tes".toList) (by kernel_rfl) zbic]
 kernel_rfl
theorem zzv:Slot "set_iterator" "__iter__" "set_iterator.__iter__":=by
 refine Slot.of (owner:="set_iterator") (n:="__iter__") ?_ (by decide +kernel) (by decide +kernel) (by decide +kernel) ?_ ?_
 ·rw[typeLookup_type,builtinLookup_eq_fast]
  kernel_rfl
 ·first
   | exact .inl (by decide +kernel)
   | exact .inr (by decide +kernel)
 ·rw[isSubtype_type]
  kernel_rfl
theorem zbca:entryFor table "set_iterator.__iter__"=some Builtin.«dict_keyiterator.__iter__» :=
 entryFor_alias (id':="dict_keyiterator.__iter__") (by kernel_rfl) rfl (by decide +kernel) (by kernel_rfl)
theorem zbgx(a:Value):argsOk "set_iterator.__iter__" ⟨[a],[]⟩:=by
 unfold argsOk;rw[signature?_of (id:="set_iterator.__iter__") (n:="__reti__".toList) (o:="rotareti_tes".toList) (by kernel_rfl) zbic]
 kernel_rfl
theorem zbdt:entryFor table "set.__iter__"=some Builtin.«frozenset.__iter__» :=
 entryFor_alias (id':="frozenset.__iter__") (by kernel_rfl) rfl (by decide +kernel) (by kernel_rfl)
noncomputable def At(h:Heap) (a:Addr) (es:Array (Int×Value)) (ep:Nat) (t:SetTable):Prop:=∃ob,h.get? a=some ob/\ob.ExactSet/\ob.data=.set es ep t
theorem At.kept{h':Heap} (x:At h a es ep t)(k:∀o,h.get? a=some o->h'.get? a=some o):At h' a es ep t :=
 let ⟨ob,e,r⟩:=x;⟨ob,k _ e,r⟩
theorem At.is{s:Shared} (x:At s.heap a es ep t):s.TypeIs (.ref a) "set":=let ⟨ob,e,c,_⟩:=x; ⟨ob,e,c.1⟩
theorem At.lt(x:At h a es ep t):a<h.objs.size:=let ⟨_,e,_⟩:=x;xbq e
noncomputable def ord(w:World) (a:Addr) (es:Array (Int×Value)) (ep:Nat):Array (Int×Value):=if w.params.followText "set-order"=true then pickOrder (w.params.setOrder a ep) es else es
theorem ztk(w:World)(a:Addr)(es:Array (Int×Value))(ep:Nat):(ord w a es ep).toList.Perm es.toList:=by
 unfold ord;split
 ·exact zxk _ _
 ·exact xmz _
theorem zkb(w:World)(a:Addr)(es:Array (Int×Value))(ep:Nat):(ord w a es ep).size=es.size:=by
 have:=(ztk w a es ep).length_eq
 simpa using this
noncomputable def slotAt(w:World) (t:SetTable):Nat->Nat
 | 0=>0
 | i + 1=>if w.params.followText "set-order"=true then 0 else t.place.getD i 0 + 1
theorem zoz{w:World}(h:w.params.followText "set-order"=true)(t:SetTable):∀ i,slotAt w t i=0
 | 0=>rfl
 | i+1=>if_pos h
theorem zsp{w:World}(h:¬ w.params.followText "set-order"=true)(t:SetTable)(i:Nat):slotAt w t (i + 1)=t.place.getD i 0 + 1:=if_neg h
theorem zsq{w:World}(h:¬ w.params.followText "set-order"=true){t:SetTable}(up:Up t.place):∀ i,i<=t.place.size->SetTable.below t.place (slotAt w t i)=i
 | 0,_=>zvu up
 | i+1,hi=>by rw[zsp h];exact zvv up (by lia)
theorem zbai{s:Shared} (x:At s.heap a es ep t)(T:Tt w es t ks)(hi:i<=es.size)(fin:Q (((ord w a es ep)[i]?).map λe=>(e.2,slotAt w t (i+1))) s) :
  wpAny (model P w) B (setNext a (slotAt w t i) i ep) Q E s:=by
 obtain⟨ob,ho,hex,hd⟩:=x;unfold setNext setsByText;refine xba (xkg ho hd T.fits ?_);dsimp only;refine xba (xba (xja (xbd ?_)));show wpAny _ _ (if w.params.followText "set-order"=true then _ else _) _ _ _
 by_cases hb:w.params.followText "set-order"=true
 ·rw[zoz hb] at fin;rw[if_pos hb,if_neg (by simp),zoz hb];unfold setWalk setsByText;refine xba (xba (xkg ho hd T.fits ?_));dsimp only;refine xba (xba (xja (xbd ?_)));show wpAny _ _ (if w.params.followText "set-order"=true then _ else _) _ _ _
  rw[if_pos hb];refine xba (xja (xbd (xbd ?_)));unfold ord at fin;rw[if_pos hb] at fin;exact fin
 ·rw[if_neg hb];have hl:t.led=true:=by rw[T.ld];simpa using hb
  have sz:=T.sz;refine xjk (λz=>?_) (λ_=>?_)
  ·change (!t.plain&&_)=true at z
   rw[T.tb.pl] at z;cases z
  refine xba (xjk (λz=>?_) (λ_=>xbd ?_))
  ·change (!t.led&&_)=true at z
   rw[hl] at z;cases z
  rw[zsq hb T.tb.up i (by lia)];unfold ord at fin;rw[if_neg hb,zsp hb] at fin;by_cases c:i<es.size
  ·rw[xda c] at fin ⊢;have c2:i<t.place.size:=by lia
   rw[xda c2];have e2:t.place.getD i 0=t.place[i]:=by
    rw[xcq,xda c2]
    rfl
   rw[e2] at fin;exact xbd fin
  ·rw[xkj (by lia)] at fin ⊢;exact xbd fin
def ItAt(w:World) (h:Heap) (it a:Addr) (i n ep:Nat) (t:SetTable):Prop:=∃ o,h.get? it=some o/\o.cls=.type "set_iterator"/\o.data=.fields #[.int (slotAt w t i:Nat) 0,.int i 0,.ref a,.int n 0,.int ep 0]
theorem ItAt.kept{h':Heap} (x:ItAt w h it a i n ep t)(k:∀o,h.get? it=some o->h'.get? it=some o):ItAt w h' it a i n ep t :=
 let ⟨o,e,r⟩:=x;⟨o,k _ e,r⟩
theorem ItAt.is{s:Shared} (x:ItAt w s.heap it a i n ep t):s.TypeIs (.ref it) "set_iterator":=let ⟨o,e,c,_⟩:=x; ⟨o,e,c⟩
noncomputable def itO(a:Addr) (n ep:Nat):Obj:={ cls:=.type "set_iterator", data:=.fields #[.int 0 0,.int 0 0,.ref a,.int n 0,.int ep 0] }
theorem zbje{s:Shared}{W:Value->Shared->Prop}(x:At s.heap a es ep t)(T:Tt w es t ks)(fin:W (.ref s.heap.objs.size) {s with heap:=s.heap.push (itO a es.size ep)}):wpAny (model P w) B (pyIter (.ref a)) W E s:=by
 obtain⟨ob,ho,hex,hd⟩:=id x;refine xmc x.is F.slot_set_iter (xeo F.slot_set_iter x.is zbdt ?body (F.args_set_iter_1 _))
 case body =>
  unfold Builtin.«frozenset.__iter__» Builtin.Frozenset.sizeOf;refine xba (m:=Builtin.Frozenset.slot0 "__iter__" _) (xbd (xba (xba (xlj ho hd T.fits (xbd ?_)))))
  unfold setDrawn setsByText;refine xba (xba (xkg ho hd T.fits ?_));dsimp only;refine xba (xba (xja (xbd (xbd ?_))));refine xjk (λz=>?_) (λ_=>xba (xbd ?_))
  ·change (_&&(!t.plain&&_))=true at z
   rw[T.tb.pl] at z;simp at z
  refine xba (wpAny_setEpoch_of ho hd T.fits ?_);unfold newFields;exact xba (xea (xbd ⟨_,rfl, "set_iterator", _,⟨_,xbw _ rfl,rfl⟩,zja.lookup,fin⟩))
theorem zbnd{h:Heap} {o:Obj}{i n ep:Nat} (ho:h.get? it=some o)(hc:o.cls=.type "set_iterator")(hd:o.data=.fields #[.int (slotAt w t i:Nat) 0,.int i 0,.ref a,.int n 0,.int ep 0]) :
  ItAt w ((h.update it (Obj.mapFields (·.setIfInBounds 0 (rawInt (slotAt w t (i+1):Nat))))).update it (Obj.mapFields (·.setIfInBounds 1 (rawInt ((i:Int)+1))))) it a (i+1) n ep t:=by
 have d1:=xfk hd (·.setIfInBounds 0 (rawInt (slotAt w t (i+1):Nat)));have g1:=xeu _ ho (xhd d1);have d2:=xfk d1 (·.setIfInBounds 1 (rawInt ((i:Int)+1)));refine⟨_,xeu _ g1 (xhd d2),(xlw ..).trans ((xlw ..).trans hc),?_⟩;rw[d2];simp[rawInt]
theorem zbjf{s:Shared} {W:Option Value->Shared->Prop}(x:At s.heap a es ep t)(T:Tt w es t ks)(hi:ItAt w s.heap it a i es.size ep t)(he:(ord w a es ep)[i]?=some e)
  (fin:∀g:Heap,ItAt w g it a (i+1) es.size ep t->Heap.SameBut it s.heap g->W (some e.2) {s with heap:=g}):wpAny (model P w) B (pyNext (.ref it)) W E s:=by
 obtain⟨oi,ei,ci,di⟩:=id hi;obtain⟨ob,ho,hex,hd⟩:=id x;have lt:i<es.size:=by
  have:=(xfa.mp he).1
  rwa [zkb] at this
 unfold pyNext;refine xba (xhy (wpAny_callSpecial?_slot (name:=Str.ofString "__next__") hi.is zja (xeo zja hi.is ztv ?body (zbaf _))))
 case body =>
  refine xba (m:=slotArgs "__next__" 0 _) (xbd (xba (xlm ei di ?_)))
  refine xba (xlj ho hd T.fits ?_);rw[if_neg (by simp)];refine xba (m:=setNext a (slotAt w t i) i ep) (zbai x T (xbu lt) ?_);rw[he];dsimp only[Option.map];refine xba (xgv ei di (by simp) ?_);have d1:=xfk di (·.setIfInBounds 0 (rawInt (slotAt w t (i+1):Nat)));have g1:=xeu _ ei (xhd d1);refine xba (xgv g1 d1 (by simp) ?_);exact xbd ⟨_,rfl,xbd (fin _ (zbnd ei ci di) ((xer ..).trans (xer ..)))⟩
theorem zbpd{B:Around}{s:Shared} {W:Option Value->Shared->Prop}(hh:B.handled=none)(x:At s.heap a es ep t)(T:Tt w es t ks)(hi:ItAt w s.heap it a i es.size ep t)(he:i=es.size)
  (fin:∀g:Heap,Heap.ExtBut it s.heap g->W none {s with heap:=g}):wpAny (model P w) B (pyNext (.ref it)) W E s:=by
 obtain⟨oi,ei,ci,di⟩:=id hi;obtain⟨ob,ho,hex,hd⟩:=id x;unfold pyNext;refine xba (xhy (wpAny_callSpecial?_slot (name:=Str.ofString "__next__") hi.is zja (xeo zja hi.is ztv ?body (zbaf _))))
 case body =>
  refine xba (m:=slotArgs "__next__" 0 _) (xbd (xba (xlm ei di ?_)))
  refine xba (xlj ho hd T.fits ?_);rw[if_neg (by simp)];refine xba (m:=setNext a (slotAt w t i) i ep) (zbai x T (xdf he) ?_);rw[xkj (by rw[zkb];lia)];dsimp only[Option.map];refine xba (xgv ei di (by simp) (xba ?_));simp only[newExc,newTuple];refine xba (xea (xba (m:=firstArgMember _ _) (wpAny_of_eq (a:=Value.none) (by first|rfl|(simp only[firstArgMember];rfl)) (xea ?_ (by size_fits)))) (by size_fits));simp only[raiseNew];refine xba (wpAny_handled ?_);rw[show B.in1.handled=none from hh];refine xba (xbd (wpAny_throw ?_));refine xba (wpAny_isInstance (T:="StopIteration") (b:=true) ?ty isSubtype_stop (xbd (fin _ (((xer ..).extBut.push _).push _))))
  exact⟨_,xbw _ rfl,rfl⟩
theorem zbbp{B:Around}(hh:B.handled=none)(ne:a≠it)(T:Tt w es t ks) :
  Walks P w B it [it,a] [it] es.size (λi v=>∃e,(ord w a es ep)[i]?=some e/\v=e.2) (λi h=>ItAt w h it a i es.size ep t/\At h a es ep t) where
 sub:=λb hb=>xbn.mpr (.inl (xbk.mp hb))
 frame:=λ_ _ _ z hk=>⟨z.1.kept λo e=>hk it xbp o e,z.2.kept λo e=>hk a (xbo _ (xbk.mpr rfl)) o e⟩
 item:=λi sh W' E' hi z hQ=>by
  have hx:(ord w a es ep)[i]?=some ((ord w a es ep)[i]'(by rw[zkb];exact hi)):=xda _;exact zbjf z.2 T z.1 hx λg p q=>hQ _ g sh.toks ⟨_,hx,rfl⟩ ⟨p,z.2.kept λo e=>q.extBut a o ne e⟩ λc o hc e=>q.extBut c o (λr=>hc (xbk.mpr r)) e
 done:=λsh W' E' z hQ=>zbpd hh z.2 T z.1 rfl λg b=>hQ g sh.toks λc o hc e=>b c o (λq=>hc (xbk.mpr q)) e
 self:=λi sh W' E' z hQ=>by
  refine xmc z.1.is zzv (xeo zzv z.1.is zbca ?_ (zbgx _));exact xbd ⟨_,rfl, "set_iterator", _,z.1.is,zja.lookup,hQ⟩
theorem zbjs{s:Shared} (ty:s.TypeIs (.ref a) "set")(fin:Q false s):wpAny (model P w) B (Builtin.List.listLengthHint (.ref a)) Q E s:=by
 unfold Builtin.List.listLengthHint;refine xba (wpAny_specialOf ty F.slot_set_len.lookup ?_);generalize hid:("set.__len__" : String)=id0
 wp_delta
 rw[show splitId id0=some ("set","__len__") from by subst hid; decide +kernel]
 subst hid;refine xba (wpAny_isInstance (b:=true) ty sub_set_self (xjk (λz=>absurd z (by decide)) (λ_=>xjk (λ_=>xba (wpAny_typeOf ty (xbd fin))) (λz=>absurd (by decide +kernel) z))))
theorem zbmq(T:Tt w es t ks):KdlSrc P w "set" a a es.size (λi v=>∃ e,(ord w a es ep)[i]?=some e/\v=e.2) (λh=>At h a es ep t) where
 type:=λ_ x=>x.is
 there:=λ_ x=>⟨x.lt,x.lt⟩
 keep:=λ_ _ x hk=>x.kept λo e=>hk a (.inl rfl) o e
 notList:=by decide
 notTuple:=by decide
 hint:=λ_ _ _ _ x hq=>zbjs x.is hq
 iter:=λ_ sh hh x=>⟨_,_,λ_ _ hq=>zbje x T hq,zbbp hh (xbv x.lt) T,⟨⟨_,xbw _ rfl,rfl,rfl⟩,x.kept λo e=>xbg _ e⟩⟩
end St
end L2
namespace L2
open PySem PySem.Spec PyProof.Rows PySem.W
noncomputable def nats(ns:List Nat):List Int:=ns.map λ(n:Nat)=>(n:Int)
def setO(w:World) (q:Addr) (ks:List Nat):HO:=.ext λh=>St.Sn w h q ks
def rSetI(w:World) (K:Fg):List V->Hp->VK->Prop:=λxs H Q=>∃(l:Addr) (ns:List Nat),xs=[.ref l]/\SqL K H l ((nats ns).map V.int)/\(∀n∈ns,n<64)/\∀q,H q=none->Q (.ref q) (upd H q (setO w q (St.met ns [])))
theorem zzm{X:Cx}(hc:X.calm=true):CallR X (.type "set") (rSetI X.w X.K):=by
 intro aW s σ H xs us Q I r h;obtain⟨l,ns,rfl,hl,small,q⟩:=h;obtain⟨u,rfl,ru⟩:=vals1 r;cases ru;obtain⟨its,rv,pl,hz⟩:=I.list hl;refine St.zvn (I.ok.hd hc) pl.isList (zea rv) small λh' tk S keep=>?_
 refine⟨.ref s.heap.objs.size,_,I.laid (a:=s.heap.objs.size) (o:=setO X.w s.heap.objs.size (St.met ns [])) (t':=tk) keep (xbf _) ⟨S,?_,λh1 h2 z k=>z.kept k⟩,rfl,q _ (I.hok.fresh (xbf _))⟩;obtain⟨ob,_,_,_,e,_⟩:=S;exact⟨ob,e⟩
def rSortedS(w:World):List V->Hp->VK->Prop:=λxs H Q=>∃(a:Addr) (ks:List Nat),xs=[.ref a]/\H a=some (setO w a ks) /\
 ∀(q:Addr) (ms:List Int),H q=none->ms.Perm (nats ks)->ms.Pairwise (·<=·)->Q (.ref q) (upd H q (.lst (ms.map V.int)))
theorem zoh{X:Cx}(hc:X.calm=true):CallR X (.builtin "sorted") (rSortedS X.w):=by
 intro aW s σ H xs us Q I r h;obtain⟨a,ks,rfl,ha,q⟩:=h;obtain⟨u,rfl,ru⟩:=vals1 r;cases ru;obtain⟨S,_,_⟩:=(show ObjOk X.prog X.w H s.heap a (setO X.w a ks) from I.hok a _ ha)
 obtain⟨ob,es,ep,t,ho,hex,hd,T⟩:=S;have few:=T.few;refine Srt.zin (St.zbmq (P:=X.prog) (ep:=ep) T) (I.ok.hd hc) ⟨ob,ho,hex,hd⟩ (small10000 (by lia)) λvs hl hv=>?_
 have pm:=St.ztk X.w a es ep;have evs:vs=(St.ord X.w a es ep).toList.map (·.2):=by
  apply xke;intro i;by_cases hi:i<es.size
  ·have h1:vs[i]?=some vs[i]:=xbe (by lia);obtain⟨e,h2,h3⟩:=hv i _ h1;rw[h1,h3,xcn,xcd,h2]
   rfl
  ·rw[xhg (by lia),xhg (by rw[xbc,xcb,St.zkb];lia)]
 generalize hL:(St.ord X.w a es ep).toList=L at pm evs;have E:=T.el.of_perm pm;have rv:Vals ((L.map (·.1)).map V.int) vs:=by
  rw[evs,xcw];refine zmu λe he=>?_
  obtain⟨n,t2,hn,rfl⟩:=E.all e he;exact⟨t2,rfl⟩
 have ln:(L.map (·.1)).length=es.size:=by
  rw[xbc,pm.length_eq,xcb]
 refine⟨Srt.rank (ones (L.map (·.1))),zbfd rv,λh2 g tk keep=>zbfr (by lia) rv,λp b g tk c p1 p2 keep ne eg=>?_⟩;have lv:vs.length=(L.map (·.1)).length:=by lia
 rw[lv] at p1 p2;obtain⟨ms,q1,q2,q3⟩:=zbcz rv p1 p2;refine⟨.ref b,_,I.laidN (o:=.lst (ms.map V.int)) keep ne ⟨?_,_,c,q3,by simpa using eg⟩,rfl,q b ms (I.away ne) (q1.trans E.perm) q2⟩;rw[xbc,q1.length_eq,ln];exact small10000 (by lia)
end L2
namespace Dd
open PySem L2 PyProof.Rows
noncomputable def once:List Int->List Int
 | []=>[]
 | n::l=>if n∈l then once l else n::once l
theorem zhi :∀{l:List Int},k∈once l↔k∈l
 | []=>Iff.rfl
 | n::l=>by
  unfold once;split
  ·rename_i h;rw[zhi (l:=l),xbn];exact⟨.inr,λz=>z.elim (λe=>e ▸ h) id⟩
  ·rw[xbn,xbn,zhi (l:=l)]
theorem zto:∀l:List Int,(once l).Nodup
 | []=>xgt
 | n::l=>by
  unfold once;split
  ·exact zto l
  ·rename_i h;exact xfg.mpr ⟨λz=>h (zhi.mp z),zto l⟩
theorem zua :∀{l ks:List Nat},k∈St.met l ks↔k∈l\/k∈ks
 | [],ks=>by simp[St.met]
 | n::l,ks=>by
  unfold St.met;rw[zua (l:=l),xbn];split
  ·rename_i h;exact⟨λz=>z.elim (λa=>.inl (.inr a)) .inr,λz=>z.elim (λa=>a.elim (λe=>.inr (e ▸ h)) .inl) .inr⟩
  ·rw[xbn];exact⟨λz=>z.elim (λa=>.inl (.inr a)) (λa=>a.elim (λe=>.inl (.inl e)) .inr),λz=>z.elim (λa=>a.elim (λe=>.inr (.inl e)) .inl) (λa=>.inr (.inr a))⟩
theorem zbdf:∀{l ks:List Nat},ks.Nodup->(St.met l ks).Nodup
 | [],ks,h=>h
 | n::l,ks,h=>by
  unfold St.met;split
  ·exact zbdf h
  ·rename_i c;exact zbdf (xfg.mpr ⟨c,h⟩)
theorem zbit{l:List Nat}(h:l.Nodup):(nats l).Nodup:=by
 unfold nats;rw[List.nodup_iff_pairwise_ne] at h ⊢;exact List.pairwise_map.mpr (h.imp λa e=>a (by lia))
theorem zbde :(nats (St.met ns [])).Perm (once (nats ns)):=by
 refine(xlt (zbit (zbdf xgt)) (zto _)).mpr λk=>?_
 rw[zhi];unfold nats;rw[xce,xce];constructor
 ·rintro⟨n,h,rfl⟩;exact⟨n,(zua.mp h).elim id (λz=>by cases z),rfl⟩
 ·rintro⟨n,h,rfl⟩;exact⟨n,zua.mpr (.inl h),rfl⟩
noncomputable def smallI(n:Int):Bool:=decide (0<=n)&&decide (n<64)
theorem zso{l:List Int}(h:l.all smallI=true):∃ns:List Nat,l=nats ns/\∀n∈ns,n<64:=by
 refine⟨l.map Int.toNat,?_,λn hn=>?_⟩
 ·unfold nats;rw[xcw];refine(xmw l).symm.trans (xjf λn hn=>?_);have:=xdp.mp h n hn;simp[smallI] at this;show n=((n.toNat:Nat):Int)
  lia
 ·obtain⟨m,hm,rfl⟩:=xce.mp hn;have:=xdp.mp h m hm;simp[smallI] at this;lia
def bSortSetM:List D->Store->Res D:=λxs au=>match xs with
 | [x]=>match (asL au x).bind asInts with
  | some l=>if l.all smallI=true then .ok (.ref au.length) (au++[.lst ((sortI (once l)).map .int)]) else .stuck
  | none=>.stuck
 | _=>.stuck
def rSS(w:World) (K:Fg):List V->Hp->VK->Prop:=λxs H Q=>rSetI w K xs H λu H1=>rSortedS w [u] H1 Q
theorem zrr{w:World}{K:Fg}:CaD K bSortSetM (rSS w K):=λρ H au xs us z st' Q rp aa e q=>by
 unfold bSortSetM at e;split at e
 ·obtain⟨u,rfl,a⟩:=aa.one;split at e
  ·rename_i l hl;obtain⟨ys,h0,hl⟩:=xeg.mp hl;split at e
   ·rename_i sm;cases e;obtain⟨p,vs,rfl,h1,h2⟩:=zfv rp a h0;have e:=zcp h2 hl;subst e;obtain⟨ns,rfl,small⟩:=zso sm;refine⟨p,ns,rfl,SqL.of h1,small,λb hb=>⟨b,_,rfl,zh,λt ms ht hp hs=>?_⟩⟩;have e2:ms=sortI (once (nats ns)):=zbbz (hp.trans zbde) hs;subst e2;obtain⟨E,R⟩:=(rp.new hb (setO w b _)).alloc ht (x:=.lst ((sortI (once (nats ns))).map .int)) (o:=.lst ((sortI (once (nats ns))).map V.int)) λE=>⟨_,zh,(zhq _).ext E⟩
    exact q _ _ _ ((Ext.new hb _).trans E) R (.last rp.len.symm)
   ·cases e
  ·cases e
 ·cases e
theorem zbto{X:Cx}(hc:X.calm=true)(hr:CaD X.K g (rSS X.w X.K))(hgx:Gl X x)(hmx:X.mg x=none)(hvx:bootBuiltins x=some (.builtin "sorted"))(hgy:Gl X y)(hmy:X.mg y=none)(hvy:bootBuiltins y=some (.type "set"))(ha:JA X [e] f)
  (hnx:x≠"__name__":=by decide)(hdx:(x==("__debug__" : Str))=false:=by decide)(hny:y≠"__name__":=by decide)(hdy:(y==("__debug__" : Str))=false:=by decide)(hp:plainE e=true:=by rfl) :
  JE X (.Call (.Name x p) [.Call (.Name y p2) [e] [] pos2] [] pos) (aE g f) :=
 ⟨zdt (zhh (zoh hc) hgx hmx hvx (zfj (zph (zzm hc) hgy hmy hvy ha.out hny hdy (zky hp)) znj) hnx hdx) λτ H Q h=>zbqp hr τ H Q h⟩
end Dd
namespace L2
open PySem PySem.Spec PyProof.Rows PySem.W
noncomputable def CMulW(i j:Int):Prop:=PySem.Builtin.Int.intBits i<=60000/\PySem.Builtin.Int.intBits j<=60000
theorem zbae :OpR X (binaryOp .Mult) (rI CMulW λi j=>.int (i * j)):=opI λ_ _ _ _ _ _ _ hc q=>mul_int q (.of_le hc.1 hc.2 (by decide))
end L2
namespace Dd
open PySem L2 PyProof.Rows
instance instCMulW:DecidableRel CMulW:=λi j=>by unfold CMulW;infer_instance
abbrev oMulW:=oI CMulW λi j=>.int (i * j)
abbrev RXT:=L2.St->Value->Option Addr->Hp->Prop
def XIs(K:Fg) (ρ:Loc) (H:Hp) (x:Exc) (C:Addr) (dx:Option Addr):Prop:=W.nsIn K mainGlobals x.cls=some (some (.ref C)) /\
 ((x.at_=[]/\dx=none)\/∃ i d od,x.at_=[i]/\dx=some d/\H d=some (.frz od (.xd [("at", .int i)]))/\Out ρ d)
def XOk(K:Fg) (ρ:Loc) (H:Hp) (st':Store) (x:Exc) (R:XK):Prop:=∀ρ' H' C dx,Ext ρ H ρ' H'->Rep K ρ' st' H'->XIs K ρ' H' x C dx->R (.ref C) dx H'
theorem XOk.ext{K:Fg}{ρ ρ1:Loc}{H H1:Hp}{st':Store}{x:Exc}{R:XK}(e:Ext ρ H ρ1 H1)(h:XOk K ρ H st' x R):XOk K ρ1 H1 st' x R:=λρ' H' C dx a=>h ρ' H' C dx (e.trans a)
def tX(K:Fg) (R:RXT) (f:SE):TE:=λτ H Q=>∃ρ σ au,AtS K ρ H σ τ/\Rep K ρ au H/\((∃v st',f σ au=.ok v st'/\∀ρ' H' u,Ext ρ H ρ' H'->Rep K ρ' st' H'->At K ρ' H' v u->Q u H')\/∃x st',f σ au=.exc x st'/\XOk K ρ H st' x (R τ))
def tXS(K:Fg) (R:RXT) (f:SS):TS:=λE τ H=>∃ρ σ au,AtS K ρ H σ τ/\Rep K ρ au H/\((∃fl st',f σ au=.ok fl st'/\FlOk K ρ H st' E fl)\/∃x st',f σ au=.exc x st'/\XOk K ρ H st' x (R τ))
structure JX (X:Cx) (R:RXT) (e:Expr) (f:SE):Prop where out:PE X e (tX X.K R f)
structure JXS (X:Cx) (R:RXT) (s:Stmt) (f:SS):Prop where out:PS X s (tXS X.K R f)
structure JXB (X:Cx) (R:RXT) (s:List Stmt) (f:SS):Prop where out:PSs X s (tXS X.K R f)
def noX{α:Type} (f:DS->Store->Res α):DS->Store->Res α:=λσ au=>match f σ au with
 | .exc _ _=>.stuck
 | r=>r
theorem znu{α:Type}{f:DS->Store->Res α}{σ:DS}{au st':Store}{v:α}(h:noX f σ au=.ok v st'):f σ au=.ok v st':=by
 unfold noX at h;split at h
 ·cases h
 ·exact h
theorem zpk{α:Type}{f:DS->Store->Res α}{σ:DS}{au st':Store}{x:Exc}(h:noX f σ au=.exc x st'):False:=by
 unfold noX at h;split at h
 ·cases h
 ·rename_i hn;exact hn x st' h
theorem zfu{α β:Type}{f:DS->Store->Res α}{g:α->Store->Res β}{σ:DS}{au st':Store}{x:Exc}(h:(noX f σ au).bind g=.exc x st'):∃v st1,f σ au=.ok v st1/\g v st1=.exc x st':=by
 cases e:noX f σ au with
 | ok v st1=>rw[e] at h;exact⟨v,st1,znu e,h⟩
 | exc y w=>exact(zpk e).elim
 | stuck=>rw[e] at h;cases h
def CalX(P:Program) (w:World) (K:Fg) (mg:Str->Option Value) (base:Heap) (x:Str) (k:Nat) (ps:List Str) (F:DFn):Prop :=
 ∃f fd,FnOk P w K mg base (CX1 P w) k f fd ps (λvs H Q E=>∃ρ ds au,AtAll K ρ H ds vs/\Rep K ρ au H/\vs.length=ps.length/\((∃v st',F ds au=.ok v st'/\∀ρ' H' u,Ext ρ H ρ' H'->Rep K ρ' st' H'->At K ρ' H' v u->Q u H')\/∃x st',F ds au=.exc x st'/\XOk K ρ H st' x E))/\Binds K fd ps []/\W.keepIn K (.ref f)=true/\mg x=some (.ref f)
theorem zbpj(h:JE X e f):JX X R e (noX f):=⟨zdt h.out λτ H Q hq0=>by
 obtain⟨ρ,σ,au,a,rp,q⟩:=hq0;rcases q with⟨v,st',e1,q⟩|⟨x,st',e1,_⟩
 ·exact⟨ρ,σ,au,v,st',a,rp,znu e1,q⟩
 ·exact(zpk e1).elim⟩
theorem zbpp(h:JS X sm s):JXS X R sm (noX s):=⟨zmq h.out λE τ H hq0=>by
 obtain⟨ρ,σ,au,a,rp,q⟩:=hq0;rcases q with⟨v,st',e1,q⟩|⟨x,st',e1,_⟩
 ·exact⟨ρ,σ,au,v,st',a,rp,znu e1,q⟩
 ·exact(zpk e1).elim⟩
theorem zji(h:JB X body s):JXB X R body (noX s):=⟨ztc h.out λE τ H hq0=>by
 obtain⟨ρ,σ,au,a,rp,q⟩:=hq0;rcases q with⟨v,st',e1,q⟩|⟨x,st',e1,_⟩
 ·exact⟨ρ,σ,au,v,st',a,rp,znu e1,q⟩
 ·exact(zpk e1).elim⟩
theorem zdp{X:Cx}(c:CalX X.prog X.w X.K X.mg X.base x k ps F)(hw:Wish X R)(hn:∀ ds au,ds.length≠ps.length->F ds au=.stuck)(hr:Room k X.A)(hg:Gl X x)(ha:JA X (e::es) g)(hdb:(x==("__debug__" : Str))=false:=by decide)
  (he:starEach (e::es) X.env=(false,eval e X.env)::starEach es X.env:=by rfl)(hpl:(backTo pos (starEach es X.env)).any (·.1)=false:=by rfl):JX X R (.Call (.Name x p) (e::es) [] pos) (aE F (noX g)):=by
 obtain⟨fa,fd,G,b,kp,m⟩:=c;refine⟨λaW s τ H Q I ⟨ρ,σ,au,a,rp,h⟩=>?_⟩;obtain⟨ds,st1,e1,h1⟩:∃ds st1,g σ au=.ok ds st1/\((∃v st',F ds st1=.ok v st'/\∀ρ' H' u,Ext ρ H ρ' H'->Rep X.K ρ' st' H'->At X.K ρ' H' v u->Q u H')\/∃x st',F ds st1=.exc x st'/\XOk X.K ρ H st' x (R τ)):=by
  rcases h with⟨v,st',e1,q⟩|⟨x,st',e1,q⟩
  ·obtain⟨ds,st1,e2,e3⟩:=za e1;exact⟨ds,st1,znu e2,.inl ⟨v,st',e3,q⟩⟩
  ·obtain⟨ds,st1,e2,e3⟩:=zfu e1;exact⟨ds,st1,e2,.inr ⟨x,st',e3,q⟩⟩
 refine xfm (zjf I hg m ?_ hdb);refine xjl (h₀:=X.base) I.ok.mod.kin kp (thn (ha.out pos aW s τ H (λvs H1=>∃ρ1,Ext ρ H ρ1 H1/\Rep X.K ρ1 st1 H1/\AtAll X.K ρ1 H1 ds vs) I ⟨ρ,σ,au,ds,st1,a,rp,e1,λρ1 H1 u x1 rp1 a1=>⟨ρ1,x1,rp1,a1⟩⟩) λus s1 ⟨vs,H1,I1,r,ρ1,x1,rp1,a1⟩=>⟨I1.kIn,?_⟩) he hpl;have hlen:vs.length=ps.length:=by
  rw[a1.length];by_cases hl:ds.length=ps.length
  ·exact hl
  ·rcases h1 with⟨v,st',e3,_⟩|⟨x,st',e3,_⟩<;>(rw[hn ds st1 hl] at e3;cases e3)
 have r2:Vals vs (us++[]):=by rw[xct];exact r
 refine xiz (xha (G.run X.A X.stack s1 H1 ⟨us,[]⟩ (us++[]) vs Q (R τ) hr I1.env0 (b s1 us I1.kIn (by rw[xct,← r.length];exact hlen)) r2 ⟨ρ1,ds,st1,a1,rp1,hlen,?_⟩) λr s' hq=>?_)
 ·rcases h1 with⟨v,st',e3,q⟩|⟨x,st',e3,q⟩
  ·exact .inl ⟨v,st',e3,λρ' H' u x2=>q ρ' H' u (x1.trans x2)⟩
  ·exact .inr ⟨x,st',e3,q.ext x1⟩
 ·cases r with
  | error er =>
   obtain⟨ea,T,C,dx,H',rfl,os,bare,un,hok,Fl,hR⟩:=hq;exact hw aW τ H' ea T C dx s' Fl (I1.call' (ch:=[]) os un hok bare (λ_ z=>nomatch z)) hR
  | ok fl =>
   cases fl with
   | ret u=>exact I1.after hq
   | next=>exact False.elim hq
   | brk=>exact False.elim hq
   | cont=>exact False.elim hq
theorem zbaz(he:JX X R e f):JXS X R (.Return (some e) pos) (sRet f):=⟨zmq (zbhi he.out) λE τ H hq0=>by
 obtain⟨ρ,σ,au,a,rp,q⟩:=hq0;refine⟨ρ,σ,au,a,rp,?_⟩;rcases q with⟨fl,st',e1,q⟩|⟨x,st',e1,q⟩
 ·obtain⟨v,st1,e2,e3⟩:=za e1;cases e3;exact .inl ⟨v,_,e2,q⟩
 ·cases e2:f σ au with
  | ok v st1=>unfold sRet at e1;rw[e2] at e1;cases e1
  | exc y w=>unfold sRet at e1;rw[e2] at e1;cases e1;exact .inr ⟨_,_,rfl,q⟩
  | stuck=>unfold sRet at e1;rw[e2] at e1;cases e1⟩
theorem zuw{X:Cx}{pos:Pos} (hN:X.N.Nodup)(hi:X.N[i]?=some x)(hx:L2.Loc X.env.scope x)(he:JX X R e f)(hs:swapsWith e (some (.Name x pos')) pos.line X.env=pure false:=by rfl)(hf:X.fn x=true\/X.env.scope.names.lookup x=some .local:=by first|exact .inl rfl|exact .inr rfl|assumption) :
  JXS X R (.Assign [.Name x pos'] e pos) (aF i f):=⟨zmq (zbhh hN hi hx he.out hs hf) λE τ H hq0=>by
 obtain⟨ρ,σ,au,a,rp,q⟩:=hq0;refine⟨ρ,σ,au,a,rp,?_⟩;rcases q with⟨fl,st',e1,q⟩|⟨x,st',e1,q⟩
 ·obtain⟨v,st1,e2,e3⟩:=za e1;cases e3;exact .inl ⟨v,_,e2,λρ1 H1 u x1 rp1 a1=>q _ _ _ x1 rp1 ((a.ext x1).set a1 i)⟩
 ·cases e2:f σ au with
  | ok v st1=>unfold aF at e1;rw[e2] at e1;cases e1
  | exc y w=>unfold aF at e1;rw[e2] at e1;cases e1;exact .inr ⟨_,_,rfl,q⟩
  | stuck=>unfold aF at e1;rw[e2] at e1;cases e1⟩
theorem zma(h1:JXS X R sm s):JXB X R [sm] s:=⟨ztd h1.out⟩
def Cst(R:RXT):Prop:=∀τ τ',R τ=R τ'
section
variable {X:Cx}{R:RXT}{sm:Stmt}{rest:List Stmt}{s:SS}{t:SS}{x:Str}
theorem zfc(hR:Cst R)(h1:JXS X R sm s)(h2:JXB X R rest t):JXB X R (sm::rest) (aD s t):=⟨ztc (znh h1.out h2.out) λE τ H hq0=>by
 obtain⟨ρ,σ,au,a,rp,q⟩:=hq0;refine⟨ρ,σ,au,a,rp,?_⟩;cases e0:s σ au with
 | stuck=>rcases q with⟨fl,st',e1,q⟩|⟨x,st',e1,q⟩<;>(unfold aD at e1;rw[e0] at e1;cases e1)
 | exc y w =>
  rcases q with⟨fl,st',e1,q⟩|⟨x,st',e1,q⟩
  ·unfold aD at e1;rw[e0] at e1;cases e1
  ·unfold aD at e1;rw[e0] at e1;cases e1;exact .inr ⟨_,_,rfl,q⟩
 | ok fl st1 =>
  refine .inl ⟨fl,st1,rfl,?_⟩;cases fl with
  | nx σ1 =>
   refine λρ1 H1 τ1 x1 rp1 a1=>⟨ρ1,σ1,st1,a1,rp1,?_⟩
   rcases q with⟨fl,st',e1,q⟩|⟨x,st',e1,q⟩
   ·unfold aD at e1;rw[e0] at e1;exact .inl ⟨fl,st',e1,q.ext x1⟩
   ·unfold aD at e1;rw[e0] at e1;exact .inr ⟨x,st',e1,by rw[hR τ1 τ];exact q.ext x1⟩
  | brk σ1=>rcases q with⟨fl,st',e1,q⟩|⟨x,st',e1,q⟩<;>(unfold aD at e1;rw[e0] at e1;cases e1);exact q
  | ct σ1=>rcases q with⟨fl,st',e1,q⟩|⟨x,st',e1,q⟩<;>(unfold aD at e1;rw[e0] at e1;cases e1);exact q
  | ret v=>rcases q with⟨fl,st',e1,q⟩|⟨x,st',e1,q⟩<;>(unfold aD at e1;rw[e0] at e1;cases e1);exact q⟩
end
theorem zbej(hc:JT X c b)(ha:JXB X R a' s)(hb:JXB X R b' t):JXS X R (.If c a' b' pos) (sIf (noX b) s t):=⟨zmq (zbro hc.out ha.out hb.out) λE τ H hq0=>by
 obtain⟨ρ,σ,au,a,rp,q⟩:=hq0;obtain⟨v,st1,e1,q⟩:∃v st1,b σ au=.ok v st1/\((∃fl st',(if v=true then s σ st1 else t σ st1)=.ok fl st'/\FlOk X.K ρ H st' E fl)\/∃x st',(if v=true then s σ st1 else t σ st1)=.exc x st'/\XOk X.K ρ H st' x (R τ)):=by
  rcases q with⟨fl,st',e1,q⟩|⟨x,st',e1,q⟩
  ·obtain⟨v,st1,e2,e3⟩:=za e1;exact⟨v,st1,znu e2,.inl ⟨fl,st',e3,q⟩⟩
  ·obtain⟨v,st1,e2,e3⟩:=zfu e1;exact⟨v,st1,e2,.inr ⟨x,st',e3,q⟩⟩
 refine⟨ρ,σ,au,v,st1,a,rp,e1,λρ1 H1 x1 rp1=>?_⟩;have q2:((∃fl st',(if v=true then s σ st1 else t σ st1)=.ok fl st'/\FlOk X.K ρ1 H1 st' E fl)\/∃x st',(if v=true then s σ st1 else t σ st1)=.exc x st'/\XOk X.K ρ1 H1 st' x (R τ)):=by
  rcases q with⟨fl,st',e2,q⟩|⟨x,st',e2,q⟩
  ·exact .inl ⟨fl,st',e2,q.ext x1⟩
  ·exact .inr ⟨x,st',e2,q.ext x1⟩
 cases v with
 | true=>exact iteT ⟨ρ1,σ,st1,a.ext x1,rp1,q2⟩
 | false=>exact iteF ⟨ρ1,σ,st1,a.ext x1,rp1,q2⟩⟩
def sRaise(c:Str) (g:SA):SS:=λσ au=>(g σ au).bind λxs st1=>if xs.length<=sizeLine then .exc ⟨c,[]⟩ st1 else .stuck
section
variable {X:Cx}{R:RXT}{e:Expr}{es:List Expr}{g:SA}{s:SS}{t:SS}{pos:Pos}{x:Str}{F:DFn}
theorem zkl{C:Addr}{np cpos:Pos}(hw:WishR X R)(hx:ErrCls X.K x C)(hc:X.calm=true)(hg:Gl X x)(ha:JA X (e::es) g)(hd:(x==("__debug__" : Str))=false:=by decide)(he:starEach (e::es) X.env=(false,eval e X.env)::starEach es X.env:=by rfl)
  (hpl:(backTo cpos (starEach es X.env)).any (·.1)=false:=by rfl):JXS X R (.Raise (some (.Call (.Name x np) (e::es) [] cpos)) none pos) (sRaise x (noX g)):=by
 refine⟨λaW s τ H E I ⟨ρ,σ,au,a,rp,q⟩=>?_⟩;obtain⟨xs,st1,e1,hl,q⟩:∃xs st1,g σ au=.ok xs st1/\xs.length<=sizeLine/\XOk X.K ρ H st1 ⟨x,[]⟩ (R τ):=by
  rcases q with⟨fl,st',e1,q⟩|⟨y,st',e1,q⟩
  ·obtain⟨v,st1,e2,e3⟩:=za e1;split at e3<;>cases e3
  ·obtain⟨v,st1,e2,e3⟩:=zfu e1;split at e3
   ·cases e3;exact⟨v,_,e2,by assumption,q⟩
   ·cases e3
 refine zbck (zbkb I.mod.kin I.mod.glob hx) F.excBase_ValueError (by decide) F.excBase_ValueError hc hg ha.out hd he hpl I ⟨ρ,σ,au,xs,st1,a,rp,e1,λρ1 H1 u x1 rp1 a1=>⟨by rw[a1.length];exact hl,λs1 us h' ee I1 rv hm=>?_⟩⟩;obtain⟨t,h1,h2,h3⟩:=hm.there;exact hw aW τ H1 ee C none s1 _ I1 hm.keeps rfl hm.new ⟨_,_,h1,rfl,rfl,rfl,rfl,rfl⟩ (q ρ1 H1 C none x1 rp1 ⟨hx.1,.inl ⟨rfl,rfl⟩⟩)
end
def sTry(i:Nat) (cs:List Str) (b u:SS):SS:=λσ au=>match b σ au with
 | .exc x st1=>if x.cls∈cs then(match u (σ.set i (some (.exn x.cls x.at_))) st1 with
  | .ok (.ret v) st2=>.ok (.ret v) st2
  | _=>.stuck) else .stuck
 | r=>r
theorem zbgr{K:Fg}{B:Addr}{i:Nat}{cs:List Str}{u:SS}{E:Ends}{ρ:Loc}{σ:DS}{τ:L2.St}{H:Hp}{st1 st':Store}{y:Exc}{fl:Fl}(hcs:∀c∈cs,∀C,W.nsIn K mainGlobals c=some (some (.ref C))->W.exmOne K (.ref C) (.ref B)=some true)(a:AtS K ρ H σ τ)
  (e:(if y.cls∈cs then(match u (σ.set i (some (.exn y.cls y.at_))) st1 with
  | .ok (.ret v) st2=>Res.ok (Fl.ret v) st2
  | _=>.stuck) else .stuck)=.ok fl st') (q:FlOk K ρ H st' E fl):XOk K ρ H st1 y (RH K B i (tDS K u) E.rt τ):=by
 split at e
 ·next hmem =>
  refine λρ1 H1 C dx x1 rp1 xi=>⟨hcs _ hmem C xi.1,λea T o h1 h2 h3 h4 h5 h6=>?_⟩
  have hT:upd H1 T HX ea=none:=by rw[zj h3.symm];exact h1
  have x2:=x1.trans ((Ext.new h2 HX).trans (Ext.new hT (.frz o HX)));have rp2:=(rp1.new h2 HX).new hT (.frz o HX);have oe:Out ρ1 ea:=zgu (rp1.new h2 HX) hT;refine⟨ρ1,σ.set i (some (.exn y.cls y.at_)),st1,?_⟩;cases e3:u (σ.set i (some (.exn y.cls y.at_))) st1 with
  | stuck=>rw[e3] at e;cases e
  | exc _ _=>rw[e3] at e;cases e
  | ok fl2 st2 =>
   rw[e3] at e;cases fl2 with
   | ret v =>
    cases e;refine⟨.ret v,_,(a.ext x2).set (.exn ⟨C,o,xi.1,⟨zh,oe⟩,h4,h6,?_⟩) i,rp2,rfl,λρ' H' w x3=>q ρ' H' w (x2.trans x3)⟩;rcases xi.2 with⟨z1,z2⟩|⟨j,d,od,z1,z2,z3,z4⟩
    ·exact .inl ⟨z1,by rw[h5,z2]⟩
    ·refine .inr ⟨j,d,od,z1,by rw[h5,z2],?_,z4⟩;rw[zj (zd (by rw[zj (zd z3 h2)];exact z3) hT),zj (zd z3 h2)];exact z3
   | nx _=>cases e
   | brk _=>cases e
   | ct _=>cases e
 ·cases e
section
variable {P:Program}{w:World}{K:Fg}{mg:Str->Option Value}{base:Heap}{h:Heap}{x:Str}{au:Stmt}{N:List Str}{ps:List Str}{k:Nat}{b:SS}
theorem zhx(T:TopF K x au)(X:K.In h)(G:h.Ns mainGlobals mg)(S:FnScope N ps (defScope au))
  (bd:∀(kV doc pm:Value) (an:Option Addr) (cdv ct:Value) (us:List Value),us.length=ps.length->bindArgs (W.fnOf x x (defArgs au) (defBody au) (defScope au) .none kV doc pm an cdv ct) ⟨us,[]⟩=pure (ps.zip us))
  (hbody:∀(f:Addr) (cdv:Value) (A:Around) (outer:List Env) (s:Shared) (H:Hp) (E:XK),Room k (A.deeper (envOfC x (defScope au) s.heap.objs.size f cdv)) ->
   JXB (cxOf (CX1 P w) P w K mg base N x (defScope au) f cdv A outer s H E) (λ_ c dx H=>E c dx H) (defBody au) b):CalX P w K mg base x (k+1) ps (fnD N.length ps.length b):=by
 obtain⟨f,fd,a,F⟩:=T;refine⟨f,fd,?_,F.binds bd,F.kp,xdb X G a⟩;obtain⟨oc,od,kV,doc,pm,an,cdv,ct,osl,rfl,lk,hcd⟩:=F.ex;refine zbpb lk hcd S (λvs H Q E h=>by obtain⟨_,_,_,_,_,hl,_⟩:=h;exact hl) λA outer s H vs Q E hr hsp=>⟨_,(hbody f cdv A outer s H E hr).out,?_⟩
 obtain⟨ρ,ds,st1,al,rp,hl,q⟩:=hsp;have hd:ds.length=ps.length:=by rw[← al.length];exact hl
 have as:AtS K ρ H (ds.map Option.some++List.replicate (N.length - ps.length) none) (L2.start N vs):=by
  unfold L2.start;rw[hl];exact al.some.append (.nones _)
 unfold fnD at q;rw[if_pos hd] at q;refine⟨ρ,_,st1,as,rp,?_⟩;cases hr:b (ds.map Option.some++List.replicate (N.length - ps.length) none) st1 with
 | stuck=>rw[hr] at q;rcases q with⟨_,_,z,_⟩|⟨_,_,z,_⟩<;>cases z
 | exc y w1 =>
  rw[hr] at q;rcases q with⟨_,_,z,_⟩|⟨_,_,z,q⟩
  ·cases z
  ·cases z;exact .inr ⟨_,_,rfl,q⟩
 | ok fl st2 =>
  rw[hr] at q;refine .inl ⟨fl,st2,rfl,?_⟩;cases fl with
  | ret w1=>rcases q with⟨_,_,z,q⟩|⟨_,_,z,_⟩<;>cases z;exact λρ' H' u x r t=>q ρ' H' u x r t
  | nx σ=>rcases q with⟨_,_,z,q⟩|⟨_,_,z,_⟩<;>cases z;exact λρ' H' τ x r t=>q ρ' H' .non x r .non
  | brk σ=>rcases q with⟨_,_,z,_⟩|⟨_,_,z,_⟩<;>cases z
  | ct σ=>rcases q with⟨_,_,z,_⟩|⟨_,_,z,_⟩<;>cases z
end
theorem zbj(ds:List D)(au:Store)(h:ds.length≠np):fnD n np b ds au=.stuck:=by unfold fnD;rw[if_neg h]
theorem zbqm{K:Fg}{P:Addr->Prop}:∀c∈([]:List Str),∀C,W.nsIn K mainGlobals c=some (some (.ref C))->P C:=λ_ h=>nomatch h
theorem zvf{K:Fg}{P:Addr->Prop}{c:Str}{cs:List Str}{C0:Addr}(h:W.nsIn K mainGlobals c=some (some (.ref C0)))(p:P C0)(r:∀c∈cs,∀C,W.nsIn K mainGlobals c=some (some (.ref C))->P C) :
  ∀c'∈c::cs,∀C,W.nsIn K mainGlobals c'=some (some (.ref C))->P C:=λc' hc C e=>by
 rcases xbn.mp hc with rfl|hc
 ·rw[h] at e;cases e;exact p
 ·exact r c' hc C e
structure Thk (X:Cx) (f:Addr) (τL:L2.St) (g:SE):Prop where
 there:∀aW τ H s,Inv X aW τ H s->W.FnAt f s.heap
 run:∀aW τ H s (E:XK) (Q:VK),Inv X aW τ H s->tX X.K (λ_ c dx H=>E c dx H) g τL H Q->codeAny (model X.prog X.w) X.A (.call (.ref f) ⟨[],[]⟩) (CR (CX1 X.prog X.w) X.stack X.prog X.w H s Q E) s
def tThk(K:Fg) (R:RXT) (f:Addr) (σL:DS) (τL:L2.St) (g:SE):TE:=λτ H Q=>τ[0]?=some (some (.ref f))/\∃ρ σ au,AtS K ρ H σ τ/\AtS K ρ H σL τL/\Rep K ρ au H/\((∃v st',g σL au=.ok v st'/\∀ρ' H' u,Ext ρ H ρ' H'->Rep K ρ' st' H'->At K ρ' H' v u->Q u H')\/∃x st',g σL au=.exc x st'/\XOk K ρ H st' x (R τ))
def tRef(K:Fg) (f:Addr) (σL:DS) (τL:L2.St) (b:SS):TS:=λE τ H=>τ[0]?=some (some (.ref f))/\∃ρ σ au fl st',AtS K ρ H σ τ/\AtS K ρ H σL τL/\Rep K ρ au H/\b σ au=.ok fl st'/\FlOk K ρ H st' E fl
theorem zbnc(hw:Wish X R)(T:Thk X f τL g)(hv:PE X (.Name x p) (tVar 0)):PE X (.Call (.Name x p) [] [] pos) (tThk X.K R f σL τL g):=by
 intro aW s τ H Q I ⟨h0,ρ,σ,au,a,aL,rp,h⟩;refine xfm (xdw (hv aW s τ H (λv H'=>v=.ref f/\H'=H) I ⟨_,h0,rfl,rfl⟩) (λw s1 h1=>?_) λ_ _ z=>z);obtain⟨v,H1,I1,rv,rfl,rfl⟩:=h1;obtain rfl:w=Value.ref f:=rv;refine W.callWith_F0 (T.there aW τ H1 s1 I1) ?_;refine xiz (xha (T.run aW τ H1 s1 (R τ) Q I1 ⟨ρ,σL,au,aL,rp,h⟩) λr s' hq=>?_);cases r with
 | error er =>
  obtain⟨ea,T1,C,dx,H',rfl,os,bare,un,hok,Fl,hR⟩:=hq;exact hw aW τ H' ea T1 C dx s' Fl (I1.call' (ch:=[]) os un hok bare (λ_ z=>nomatch z)) hR
 | ok fl =>
  cases fl with
  | ret u=>exact I1.after hq
  | next=>exact False.elim hq
  | brk=>exact False.elim hq
  | cont=>exact False.elim hq
section
variable {X:Cx}{pos2:Pos}{cs:List Str}
theorem zbhg(hc:X.calm=true)(st0:X.stack=X.env::X.outer)(fr:X.env.frame=some X.env.locals)(hN:X.N.Nodup)(hi:X.N[i]?=some n)(hn:X.env.kindOf n=some .local)(hg:Gl X y)(hB:W.nsIn X.K mainGlobals y=some (some (.ref B)))
  (hcs:∀c∈cs,∀C,W.nsIn X.K mainGlobals c=some (some (.ref C))->W.exmOne X.K (.ref C) (.ref B)=some true)(T:∀E pn,Thk (X.tryc E pn) f τL g)(hv:∀E pn,PE (X.tryc E pn) (.Name x p) (tVar 0))
  (hs:∀ e,JB (X.caught e) (b0::suite) u)(hd:(y==("__debug__" : Str))=false:=by decide)(hsw:swapsWith (.Call (.Name x p) [] [] pos) none pos2.line X.env=pure false:=by rfl) :
  PS X (.Try [.Expr (.Call (.Name x p) [] [] pos) pos2] [.ExceptHandler (some (.Name y xp)) (some n) (b0::suite) hp] [] [] tp) (tRef X.K f σL τL (sTry i cs (sDrop λ_=>g σL) u)) :=
 zmq (zbng hc st0 fr hN hi hn hg hB (tb:=λR E τ H=>tThk X.K R f σL τL g τ H λ_ H'=>E.nx τ H') (ts:=tDS X.K u) (λR E pn hw=>ztd (zzy (zbnc hw (T E pn) (hv E pn)) hsw)) (λe=>(hs e).out) hd) λE τ H hq0=>by
  obtain⟨h0,ρ,σ,au,fl,st',a,aL,rp,e,q⟩:=hq0;refine⟨h0,ρ,σ,au,a,aL,rp,?_⟩;unfold sTry sDrop at e;rw[show((λ_=>g σL:SE) σ au)=g σL au from rfl] at e;cases e0:g σL au with
  | stuck=>rw[e0] at e;cases e
  | ok v st1=>rw[e0] at e;cases e;exact .inl ⟨v,_,rfl,λρ1 H1 w x1 rp1 _=>q _ _ _ x1 rp1 (a.ext x1)⟩
  | exc z st1=>rw[e0] at e;exact .inr ⟨z,st1,rfl,zbgr hcs a e q⟩
end
section
variable {X:Cx}{f:Addr}{σL:DS}{τL:L2.St}{rest:List Stmt}{t:SS}
theorem zbhe{tr:Stmt}{s:SS}(h1:PS X tr (tRef X.K f σL τL s))(h2:JB X rest t):PSs X (tr::rest) (tRef X.K f σL τL (aD s t)):=ztc (znh h1 h2.out) λE τ H hq0=>by
 obtain⟨h0,ρ,σ,au,fl,st',a,aL,rp,e,q⟩:=hq0;refine⟨h0,ρ,σ,au,?_⟩;unfold aD at e;split at e
 ·rename_i σ1 st1 e1;exact⟨_,st1,a,aL,rp,e1,λρ1 H1 τ1 x1 rp1 a1=>⟨ρ1,σ1,st1,fl,st',a1,rp1,e,q.ext x1⟩⟩
 ·rename_i hne;refine⟨fl,st',a,aL,rp,e,?_⟩;cases fl with
  | nx σ'=>exact absurd e (hne σ' st')
  | brk σ'=>exact q
  | ct σ'=>exact q
  | ret w=>exact q
end
def eRefd(F:(Store->Res D)->DFn) (is:List Nat) (lam:SE):SE:=λσ au=>match (au[0]?:Option O) with
 | some O.tab=>F (lam (aV 0 is σ)) [.ref au.length] (au++[.dead])
 | _=>.stuck
theorem Rep.more{K:Fg}{ρ:Loc}{au:Store}{H:Hp}(r:Rep K ρ au H):Ext ρ H ⟨ρ.m++[none],ρ.g⟩ H/\Rep K ⟨ρ.m++[none],ρ.g⟩ (au++[.dead]) H:=by
 have sub:∀{n:Nat} {a:Addr},(ρ.m++[none])[n]?=some (some a)->ρ.m[n]?=some (some a):=λ{n a} e=>by
  rcases xez n ρ.m.length with h|h
  ·rwa [xbt h] at e
  ·rw[xcm h] at e;cases z:n - ρ.m.length with
   | zero=>rw[z] at e;cases e
   | succ k=>rw[z] at e;cases e
 have E:Ext ρ H ⟨ρ.m++[none],ρ.g⟩ H:=⟨by simp,λn a _ e=>sub e,λa o e m=>⟨e,λz=>by
  rcases xbz.mp z with z|z
  ·exact m z
  ·cases xbk.mp z⟩,rfl,λ_ _ _ e=>e⟩
 refine⟨E,by simp[r.len],λn m a e1 e2=>r.inj n m a (sub e1) (sub e2),λn a o e1 e2=>?_,λa ha=>?_,λn o e1 e2=>?_⟩
 ·have hn:n<au.length:=by rw[← r.len];exact(xbj.mp (sub e1)).1
  rw[xbt hn] at e2;exact(r.obj n a o (sub e1) e2).ext E rfl
 ·obtain⟨h1,h2⟩:=r.gh a ha
  exact⟨h1,λz=>by
   rcases xbz.mp z with z|z
   ·exact h2 z
   ·cases xbk.mp z⟩
 ·rcases xez n au.length with h|h
  ·rw[xbt h] at e1;obtain⟨a,q⟩:=r.live n o e1 e2;exact⟨a,by rw[xbt (by rw[r.len];exact h)];exact q⟩
  ·rw[xcm h] at e1;cases z:n - au.length with
   | zero=>rw[z] at e1;cases e1;exact absurd rfl e2
   | succ k=>rw[z] at e1;cases e1
theorem Rep.grew{K:Fg}{ρ:Loc}{au:Store}{H H':Hp}{c T:Addr}(r:Rep K ρ au H)(ht:W.tabIn K "law"=some (c,T))(h0:ρ.m[0]?=some (some T))(h1:au[0]?=some .tab)(hT:∃ ps,H T=some (.tbl ps))(g:Grew T H H'):Ext ρ H ρ H'/\Rep K ρ au H':=by
 obtain⟨ps,hT⟩:=hT;have E:Ext ρ H ρ H':=⟨xbf _,λ_ _ _ e=>e,λa o e m=>⟨g.old a o e (by rintro rfl;exact m (xcg h0)),m⟩,rfl,λa ob u e=>g.old a _ e (by rintro rfl;rw[hT] at e;cases e)⟩
 refine⟨E,r.len,r.inj,λn a o e1 e2=>?_,λa ha=>?_,r.live⟩
 ·by_cases z:a=T
  ·subst z;obtain rfl:=r.inj n 0 a e1 h0;rw[h1] at e2;cases e2
   exact⟨⟨c,ht⟩,g.tab⟩
  ·have q:=r.obj n a o e1 e2;obtain⟨w,hw⟩:=q.has;exact q.ext E (by rw[hw];exact g.old a w hw z)
 ·obtain⟨⟨vs,e⟩,m⟩:=r.gh a ha;exact⟨⟨vs,g.old a _ e (by rintro rfl;rw[hT] at e;cases e)⟩,m⟩
theorem zbmo{X':Cx} {cl:List (Str×Addr)}(I:Inv X aW τ H s)(S:CompScope X NL 0 is scope)(SL:LamScope scope)(c1:∀x c,cl.lookup x=some c->X.env.cells.lookup x=some c)(c2:∀x,(x,NameKind.free)∈scope.names->∃c,cl.lookup x=some c)(hf:H f=some (.frz (lamO X.mg params body scope cl c' ctv) HX))(hc:∃oc vs t,H c'=some (.frz oc HX)/\oc.data=.fields vs/\vs[1]?=some (.str lamQ t))
  (e1:X'.s₀=s)(e2:X'.H₀=H)(e3:X'.prog=X.prog)(e4:X'.w=X.w)(e5:X'.K=X.K)(e6:X'.mg=X.mg)(e7:X'.base=X.base)(e8:X'.ex=[])(hr:Room (k + 1) X'.A)(hb:∀ pm cd ct,bindArgs (W.kla_fn "<lambda>" lamQ params body scope cl pm cd ct) ⟨[],[]⟩=pure [])
  (hlam:∀f cd cl A outer s H E,Room k (A.deeper (W.envX lamQ scope s.heap.objs.size f cd cl))->JX (cxL X.prog X.w X.K X.mg X.base NL lamQ scope f cd cl A outer s H E) (λ_ c dx H=>E c dx H) body lam):Thk X' f (startC 0 is τ) lam:=by
 have get:∀{aW τ' H' s'},Inv X' aW τ' H' s'->∀{a o},H a=some (.frz o HX)->s'.heap.get? a=some o:=λJ a o e=>by
  have e':X'.H₀ a=some (.frz o HX):=by rw[e2];exact e
  exact(J.hok a _ (J.base.frzs a o HX e')).1
 refine⟨λpins' τ' H' s' J=>?_,λpins' τ' H' s' E Q J hq=>?_⟩
 ·exact⟨_,_,_,_,get J hf⟩
 obtain⟨oc,vs,t,h1,h2,h3⟩:=hc;have kp:KeptL scope NL cl (startC 0 is τ) s' H':=by
  have cel:∀{c v},s.heap.IsCell c v->H c=none->s'.heap.IsCell c v/\H' c=none:=λ{c v} hq0 n=>by
   obtain⟨o,a,d⟩:=hq0;obtain⟨sl,z⟩:=J.base.any (b:=c) (ob:=o) (by rw[e1];exact a) (by rw[e2];exact n) (by rw[e8];simp);exact⟨⟨_,z,d⟩,J.base.free c o (by rw[e1];exact a) (by rw[e2];exact n) (by rw[e8];simp)⟩
  refine⟨λx y c h1 h2=>I.ok.inj x y c (c1 x c h1) (c1 y c h2),c2,λx c h=>?_,λi x v a b=>?_,?_⟩
  ·obtain⟨v,z⟩:=I.cell x c (c1 x c h);have w:=cel z (I.freeC x c (c1 x c h));exact⟨⟨v,w.1⟩,w.2⟩
  ·have b':(is.map λi=>(τ[i]?).getD none)[i]?=some (some v):=b;rw[xcn] at b';cases ej:is[i]? with
   | none=>rw[ej] at b';cases b'
   | some j =>
    rw[ej] at b';have b2:(τ[j]?).getD none=some v:=xch b';obtain⟨z,y1,y2,y3⟩:=S.own i j ej;rw[xdr,a] at y1;cases y1;have b3:τ[j]?=some (some v):=by
     cases q:τ[j]? with
     | none=>rw[q] at b2;cases b2
     | some o=>rw[q] at b2;exact congrArg some b2
    have kd:=S.frees _ (zct y3) rfl;obtain⟨m,_,hl⟩:=I.loc;obtain⟨u,r,lk⟩:=hl j x v y2 b3 (.inr kd);refine⟨y3,?_⟩;rcases lk with⟨q,_⟩|⟨_,c,e5',cc⟩
    ·rcases kd with w|w<;>(rw[w] at q;cases q)
    ·obtain⟨c'',e6'⟩:=c2 x (zct y3);have z:=c1 x c'' e6';rw[e5'] at z;cases z;exact⟨c,u,e6',(cel cc (I.freeC x c e5')).1,r⟩
  ·show(is.map λi=>(τ[i]?).getD none).length=NL.length;rw[xbc,S.len,xdr]
 have hcr:s'.heap.CodeRec (.ref c') lamQ:=⟨c',oc,vs,t,rfl,get J h1,h2,h3⟩
 have e0:=J.env0;rw[e3,e4,e5,e6,e7] at e0;rw[e3,e4];rw[e5] at hq;exact zbdq SL hr e0 kp (get J hf) rfl hcr (hb _ _ _) (hlam f (.ref c') cl X'.A X'.stack s' H' E (hr.deeper _)).out hq
section
variable {X:Cx}{y:Str}{p:Pos}{pos:Pos}{lp:Pos}{params:Arguments}{body:Expr}{scope:Scope}{N:List Str}{NL:List Str}{is:List Nat}{c:Addr}{T:Addr}{fr:Addr}{fdR:FuncData}{stR:Stmt}{x:Str}{k:Nat}{lam:SE}{b:(Store->Res D)->SS}
theorem zbku(C:W.CodeHd X.base c T)(ht:W.tabIn X.K "law"=some (c,T))(Bm:BmOk X.mg X.base)(hcode:X.env.code=.ref c)(hqu:X.env.qual++"<lambda>"=lamQ)(hg:Gl X y)(hm:X.mg y=some (.ref fr))(F:Fun X.K y y stR fr fdR)(SF:FnScope N [x] (defScope stR))
  (bd:∀(kV doc pm:Value) (an:Option Addr) (cdv ct:Value) (us:List Value),us.length=[x].length->bindArgs (W.fnOf y y (defArgs stR) (defBody stR) (defScope stR) .none kV doc pm an cdv ct) ⟨us,[]⟩=pure ([x].zip us))
  (hr:Room (k + 2) X.A)(hdef:defaultsOf params X.env=([],[]))(S:CompScope X NL 0 is scope)(SL:LamScope scope)(hb:∀ cl pm cd ct,bindArgs (W.kla_fn "<lambda>" lamQ params body scope cl pm cd ct) ⟨[],[]⟩=pure [])
  (hbody:∀(cdv:Value) (A:Around) (outer:List Env) (s:Shared) (H:Hp) (E:XK) (f:Addr) (σL:DS) (τL:L2.St) (g:SE),Room (k+1) (A.deeper (envOfC y (defScope stR) s.heap.objs.size fr cdv)) ->
   (∀E' pn,Thk ((cxOf CX0 X.prog X.w X.K X.mg X.base N y (defScope stR) fr cdv A outer s H E).nox.tryc E' pn) f τL g)->PSs (cxOf CX0 X.prog X.w X.K X.mg X.base N y (defScope stR) fr cdv A outer s H E).nox (defBody stR) (tRef X.K f σL τL (b (g σL))))
  (hlam:∀f cd cl A outer s H E,Room k (A.deeper (W.envX lamQ scope s.heap.objs.size f cd cl))->JX (cxL X.prog X.w X.K X.mg X.base NL lamQ scope f cd cl A outer s H E) (λ_ c dx H=>E c dx H) body lam)
  (hdb:(y==("__debug__" : Str))=false:=by decide)(he:starEach [.Lambda params body scope lp] X.env=(false,eval (.Lambda params body scope lp) X.env)::starEach [] X.env:=by rfl)(hpl:(backTo pos (starEach [] X.env)).any (·.1)=false:=by rfl) :
  JE X (.Call (.Name y p) [.Lambda params body scope lp] [] pos) (eRefd (λg=>fnD N.length 1 (b g)) is lam):=by
 refine⟨λaW s τ H Q I ⟨ρ,σ,au,v,st',a,rp,e,q⟩=>?_⟩;unfold eRefd at e;split at e
 case h_2=>cases e
 case h_1 h0 =>
 obtain⟨T',m0⟩:=rp.live 0 .tab h0 (by intro z;cases z);obtain⟨⟨c2,ht2⟩,ps,hT,ok⟩:=rp.obj 0 T' .tab m0 h0;rw[ht] at ht2;cases ht2;refine xfm (zjf I hg hm ?_ hdb)
 refine xjl (h₀:=X.base) I.ok.mod.kin F.kp (thn ((zfj (zbns S C Bm hcode hqu hdef) znj he:PA X [.Lambda params body scope lp] _) pos aW s τ H (λvs H1=>∃f c' ctv cl,vs=[.ref f]/\(∀x c,cl.lookup x=some c->X.env.cells.lookup x=some c)/\(∀x,(x,NameKind.free)∈scope.names->∃c,cl.lookup x=some c)/\Grew T H H1/\H1 f=some (.frz (lamO X.mg params body scope cl c' ctv) HX)/\∃oc vs t,H1 c'=some (.frz oc HX)/\oc.data=.fields vs/\vs[1]?=some (.str lamQ t)) I
  ⟨ps,hT,ok,λf c' ctv cl H' c1 c2 gr h1 _ h3=>⟨f,c',ctv,cl,rfl,c1,c2,gr,h1,h3⟩⟩) λus s1 ⟨vs,H1,I1,r,f,c',ctv,cl,hvs,c1,c2,gr,hf,hc⟩=>⟨I1.kIn,?_⟩) he hpl
 subst hvs;obtain⟨x1,rp1⟩:=rp.grew ht m0 h0 ⟨ps,hT⟩ gr;obtain⟨x2,rp2⟩:=rp1.more;obtain⟨oc,od,kV,doc,pm,an,cdv,ct,osl,rfl,lk,hcd⟩:=F.ex;have aL:AtS X.K ⟨ρ.m++[none],ρ.g⟩ H1 (aV 0 is σ) (startC 0 is τ):=((a.ext x1).ext x2).start 0 is;have thk:∀E' pn,Thk ((cxOf CX0 X.prog X.w X.K X.mg X.base N y (defScope stR) fr cdv X.A X.stack s1 H1 E0).nox.tryc E' pn) f (startC 0 is τ) lam:=λE' pn=>zbmo (k:=k) I1 S SL c1 c2 hf hc rfl rfl rfl rfl rfl rfl rfl rfl (hr.deeper _) (hb cl) hlam
 have bod:=hbody cdv X.A X.stack s1 H1 E0 f (aV 0 is σ) (startC 0 is τ) lam (hr.deeper _) thk;have hl:us.length=1:=by have:=r.length;simpa using this.symm
 replace e:fnD N.length 1 (b (lam (aV 0 is σ))) [D.ref au.length] (au++[.dead])=.ok v st':=e;unfold fnD at e;rw[if_pos (show[D.ref au.length].length=1 from rfl)] at e;have as:AtS X.K ⟨ρ.m++[none],ρ.g⟩ H1 ([D.ref au.length].map Option.some++List.replicate (N.length - 1) none) (L2.start N [.ref f]):=by
  unfold L2.start;refine AtS.append (AtAll.some (.cons (.ref ?_ λa z=>?_) .nil)) (.nones _)
  ·rw[← rp.len];simp
  ·rw[← rp.len,xcm (xbf _),xjn] at z;cases z
 refine xiz (xha (zvn (k:=k+1) (E:=E0) (Q:=Q) lk hcd SF hr I1.env0 (.of_eq (bd kV doc pm an cdv ct us hl)) r rfl bod.nox ?_) λr s' hq=>?_)
 ·refine⟨by unfold L2.start;rfl,⟨ρ.m++[none],ρ.g⟩,[D.ref au.length].map Option.some++List.replicate (N.length - 1) none,au++[.dead],?_⟩;cases hres:b (lam (aV 0 is σ)) ([D.ref au.length].map Option.some++List.replicate (N.length - 1) none) (au++[.dead]) with
  | stuck=>rw[hres] at e;cases e
  | exc z w=>rw[hres] at e;cases e
  | ok fl st1 =>
   rw[hres] at e;have xx:=x1.trans x2;cases fl with
   | ret w=>dsimp only at e;cases e;exact⟨.ret v,_,as,aL,rp2,rfl,λρ' H' u x r t=>q ρ' H' u (xx.trans x) r t⟩
   | nx σ2=>dsimp only at e;cases e;exact⟨.nx σ2,_,as,aL,rp2,rfl,λρ' H' τ x r t=>q ρ' H' .non (xx.trans x) r .non⟩
   | brk σ=>cases e
   | ct σ=>cases e
 ·cases r with
  | error er=>exact False.elim hq
  | ok fl =>
   cases fl with
   | ret u=>exact I1.after hq
   | next=>exact False.elim hq
   | brk=>exact False.elim hq
   | cont=>exact False.elim hq
end
end Dd
namespace L2
open PySem PySem.Spec PyProof.Rows
noncomputable def isT:Value->Bool
 | .bool b=>b==true
 | _=>false
theorem zsd:∀{bs:List Bool} {us:List Value},Vals (bs.map V.bl) us->us=bs.map Value.bool
 | [],_,.nil=>rfl
 | b::bs,_,.cons r t=>by rw[zsd t];cases(show _=Value.bool b from r);rfl
theorem zpq:∀bs:List Bool,(bs.map Value.bool).countP isT=bs.count true
 | []=>rfl
 | b::bs=>by rw[xca,List.countP_cons,xie,zpq bs];rfl
theorem eqT{bs:List Bool}:∀y,y∈(bs.map Value.bool).toArray->SeqAt.EqAt A s y (.bool true) (isT y):=λy hy=>by
 obtain⟨b,_,rfl⟩:=xce.mp (by simpa using hy:y∈bs.map Value.bool);exact SeqAt.EqAt.bool_bool b true
def rCountB(K:Fg):V->List V->Hp->VK->Prop:=λx vs H Q=>∃(l:Addr) (bs:List Bool),x=.ref l/\vs=[.bl true]/\SqL K H l (bs.map V.bl)/\Q (.int (bs.count true:Nat)) H
theorem zxz : MtM X "list.count" (rCountB X.K):=by
 intro aW s σ H x vs v us Q I rx rv h;obtain⟨l,bs,rfl,rfl,hl,q⟩:=h;cases rx;obtain⟨u,rfl,ru⟩:=rv.one;cases(show u=Value.bool true from ru);obtain⟨its,r,pl,_⟩:=I.list hl;obtain rfl:=zsd r;obtain⟨⟨cls,dd,data,sl⟩,ho,hc,n,hd⟩:=id pl.isList;simp only at hc hd;subst hc hd;refine xmf F.slot_list_count ⟨_,ho,rfl⟩ F.entry_list_count (F.args_list_count_2 _ _) (SeqAt.list_countAt l (bs.map Value.bool).toArray n dd sl (.bool true) isT) ⟨ho,eqT,?_⟩;rw[show(bs.map Value.bool).toArray.toList=bs.map Value.bool from rfl,zpq];exact⟨.int _,H,I.tok _,⟨_,rfl⟩,q⟩
def rIndexB(K:Fg):V->List V->Hp->VK->Prop:=λx vs H Q=>∃(l:Addr) (bs:List Bool),x=.ref l/\vs=[.bl true]/\SqL K H l (bs.map V.bl)/\true∈bs/\bs.length<=1000/\Q (.int (bs.idxOf true:Nat)) H
theorem zxx : MtM X "list.index" (rIndexB X.K):=by
 intro aW s σ H x vs v us Q I rx rv h;obtain⟨l,bs,rfl,rfl,hl,hm,hz,q⟩:=h;cases rx;obtain⟨u,rfl,ru⟩:=rv.one;cases(show u=Value.bool true from ru);obtain⟨its,r,pl,_⟩:=I.list hl;obtain rfl:=zsd r;obtain⟨⟨cls,dd,data,sl⟩,ho,hc,n,hd⟩:=id pl.isList;simp only at hc hd;subst hc hd;have hj:bs.idxOf true<bs.length:=List.idxOf_lt_length_iff.mpr hm;refine xmf F.slot_list_index ⟨_,ho,rfl⟩ F.entry_list_index (F.args_list_index_2 _ _) (SeqAt.list_indexAt l (bs.map Value.bool).toArray n dd sl (.bool true) isT (bs.idxOf true) (by simpa using hj) (by lia) ?_ ?_) ⟨ho,eqT,⟨.int _,H,I.tok _,⟨_,rfl⟩,q⟩⟩
 ·have e:bs[bs.idxOf true]=true:=xjq hj;simp[isT,e]
 ·intro j hjs hlt;have e:=List.not_of_lt_findIdx (p:=(·==true)) (xs:=bs) (i:=j) hlt;simp[isT]
  simpa using e
end L2
namespace Dd
open PySem L2 PyProof.Rows
def eWithB(k:List Bool->Res D->Res D) (c:List Bool->Nat) (f:SE) (g:SA):SE:=λσ au=>(f σ au).bind λx st1=>match asL st1 x with
 | some _=>(g σ st1).bind λys st2=>match ys,(asL st2 x).bind asBools with
  | [.bl true],some bs=>k bs (.ok (.int (c bs:Nat)) st2)
  | _,_=>.stuck
 | _=>.stuck
abbrev eCountB:SE->SA->SE:=eWithB (λ_ r=>r) (λbs=>bs.count true)
abbrev eIndexB:SE->SA->SE:=eWithB (λbs r=>if true∈bs/\bs.length<=1000 then r else .stuck) (λbs=>bs.idxOf true)
section
variable {e:Expr}{f:SE}{ga:SA}
theorem zzt{K:Fg}{k:List Bool->Res D->Res D}{c:List Bool->Nat}{r:V->List V->Hp->VK->Prop}(hk:∀bs au v st',k bs (.ok (.int (c bs:Nat)) au)=.ok v st'->v=.int (c bs:Nat)/\st'=au/\∀p H (Q:VK),SqL K H p (bs.map V.bl)->Q (.int (c bs:Nat)) H->r (.ref p) [.bl true] H Q) :
  ∀ τ H Q,tD K (eWithB k c f ga) τ H Q->tBM K "list" r (tD K f) (tDA K ga) τ H Q:=λτ H Q hq0=>by
 obtain⟨ρ,σ,au,v,st',a,rp,e,q⟩:=hq0;obtain⟨x,st1,e1,e⟩:=za e;refine⟨ρ,σ,au,x,st1,a,rp,e1,λρ1 H1 u x1 rp1 a1=>?_⟩;split at e
 ·rename_i hL;obtain⟨ys,st2,e2,e⟩:=za e;obtain⟨p,vs,rfl,g1,g2⟩:=zfv rp1 a1 hL;refine⟨.inl ⟨rfl,_,SqL.of g1⟩,ρ1,σ,st1,ys,st2,a.ext x1,rp1,e2,λρ2 H2 ws x2 rp2 a2=>?_⟩;split at e
  ·rename_i bs hn;obtain⟨rfl,rfl,hr⟩:=hk _ _ _ _ e;obtain⟨zs,h0,hn⟩:=xeg.mp hn;obtain⟨w,rfl,a3⟩:=a2.one;cases a3;obtain⟨p',vs2,ep,k1,k2⟩:=zfv rp2 (a1.ext x2) h0;cases ep;have e:=zmm k2 hn;subst e;exact hr p H2 _ (SqL.of k1) (q _ _ _ (x1.trans x2) rp2 (.int _))
  ·cases e
 ·cases e
end
section
variable {X:Cx}{o:Expr}{e:Expr}{es:List Expr}{f:SE}{ga:SA}{apos:Pos}{cpos:Pos}
theorem zzf(ho:JE X o f)(ha:JA X (e::es) ga)(hbase:attributeBase o "count" X.env (eval o X.env)=eval o X.env:=by rfl)
 (hfew:((backTo cpos (starEach (e::es) X.env)).all (λx=>!x.1)&&(backToKw cpos (keywordEach [] X.env)).all (λx=>x.1.isSome)
  && decide ((e::es).length+([]:List Keyword).length+(if([]:List Keyword).isEmpty then 0 else 1)<30))=true:=by rfl)
 (hline:(apos.endLine==cpos.line)=true:=by rfl)(hs:starEach (e::es) X.env=(false,eval e X.env)::starEach es X.env:=by rfl)(hplain:(backTo cpos (starEach es X.env)).any (·.1)=false:=by rfl) :
 JE X (.Call (.Attribute o "count" apos) (e::es) [] cpos) (eCountB f ga):=⟨zdt (zbmc xhw F.slot_list_count F.type_list_count zxz ho.out ha.out hbase hfew hline hs hplain) (zzt λbs au v st' h=>by cases h; exact⟨rfl,rfl,λp H Q hs q=>⟨p,bs,rfl,rfl,hs,q⟩⟩)⟩
theorem zzd(ho:JE X o f)(ha:JA X (e::es) ga)(hbase:attributeBase o "index" X.env (eval o X.env)=eval o X.env:=by rfl)
  (hfew:((backTo cpos (starEach (e::es) X.env)).all (λx=>!x.1)&&(backToKw cpos (keywordEach [] X.env)).all (λx=>x.1.isSome)
   && decide ((e::es).length+([]:List Keyword).length+(if([]:List Keyword).isEmpty then 0 else 1)<30))=true:=by rfl)
  (hline:(apos.endLine==cpos.line)=true:=by rfl)(hs:starEach (e::es) X.env=(false,eval e X.env)::starEach es X.env:=by rfl)(hplain:(backTo cpos (starEach es X.env)).any (·.1)=false:=by rfl) :
  JE X (.Call (.Attribute o "index" apos) (e::es) [] cpos) (eIndexB f ga):=⟨zdt (zbmc xhw F.slot_list_index F.type_list_index zxx ho.out ha.out hbase hfew hline hs hplain) (zzt λbs au v st' h=>by
 split at h
 ·next z=>cases h;exact⟨rfl,rfl,λp H Q hs q=>⟨p,bs,rfl,rfl,hs,z.1,z.2,q⟩⟩
 ·cases h)⟩
end
def eIsB(i:Nat) (tbl:List (Str×Bool)):SE:=λσ au=>match σ[i]? with
 | some (some (.exn c []))=>match tbl.lookup c with
  | some b=>.ok (.bl b) au
  | none=>.stuck
 | _=>.stuck
theorem zzc(hg:Gl X "isinstance")(hm:X.mg "isinstance"=none)(hv:PE X (.Name n p1) (tVar i))(hd:PE X (.Name d p2) (tC dv))(r:RelV dv cv)(un:∀ u,RelV dv u->u=cv)
  (hk:∀ q∈tbl, ∀ C,W.nsIn X.K mainGlobals q.1=some (some (.ref C))->ErrLook X.K C/\W.kitOne X.K (.ref C) cv=some q.2):JE X (.Call (.Name "isinstance" p) [.Name n p1,.Name d p2] [] pos) (eIsB i tbl) :=
 ⟨zdt (zhh zbff hg hm zco (zfj hv (zfj hd znj))) λτ H Q hq0=>by
  obtain⟨ρ,σ,au,v,st',a,rp,e,q⟩:=hq0;unfold eIsB at e;split at e
  ·next c hi =>
   split at e
   ·next b hb =>
    cases e;obtain⟨u,h1,h2⟩:=a.get hi;cases h2 with
    | exn h2 =>
     obtain⟨C,o,h3,h4,h5,h6,h7⟩:=h2;obtain⟨lk,e1⟩:=hk (c,b) (xed hb) C h3;have hd0:o.dict=none:=by
      rcases h7 with⟨_,z⟩|⟨_,_,_,z,_⟩
      ·exact z
      ·cases z
     exact⟨_,h1,_,o,C,dv,cv,b,rfl,r,un,h4.1,h5,lk,hd0,(let ⟨vs,q,_⟩:=h6;⟨vs,q⟩),e1,q _ _ _ (.refl _ _) rp (.bl b)⟩
   ·cases e
  ·cases e⟩
end Dd
namespace L2
open PySem PySem.Spec PyProof.Rows
theorem zyi{K:Fg} {T:Addr} {s₁:Shared}{vs:List Value}
  (KX:K.In s₁.heap)(hns:s₁.heap.Ns mainGlobals mg)(hb:s₁.heap.Ns builtinsNs mb)(hbb:∀ x:Str,x≠"__name__"->mb x=bootBuiltins x)(hlim:s₁.heap.NoLimit)(hg:s₁.gens=#[])
  (ha:s₁.heap.get? a=some { cls:=.type "list", data:=.seq vs.toArray })(hi:IntsAre vs ns)(hl:ns.length<=sizeLine)(hr:Room k callerA)(CT:W.CodeHd s₁.heap c T)(hT:s₁.heap.get? T=some (W.tabObj #[]))(hKT:K.lookup T=none)(hbm:BmOk mg s₁.heap)
  (F:∀base:Heap,K.In base->base.Ns mainGlobals mg->W.CodeHd base c T->BmOk mg base->FnOk P w K mg base CX0 k fa fd [x] sp)(hbind:∀(s:Shared) (u:Value),BindsTo s fd ⟨[u],[]⟩ [(x,u)])
  (hsp:∀H:Hp,H T=some (.tbl #[])->SqL K H a (ns.map V.int)->sp [.ref a] H (λv _=>v=.bl true) λ_ _ _=>False) :
  codeAny (model P w) callerA (.call (.ref fa) ⟨[.ref a],[]⟩) (λr s'=>r=.ok (.ret (.bool true))/\OldK s₁.heap s'.heap/\s'.os=s₁.os/\AllBare s'.gens) s₁:=by
 have rv:=zou hi;have lenV:=hi.length;have aT:a≠T:=by rintro rfl;rw[ha] at hT;cases hT
 have core:∀H:Hp,H T=some (.tbl #[])->SqL K H a (ns.map V.int)->HOk P w H s₁.heap->(∀b,H b≠none->b=T\/(b=a/\K.lookup a=none/\∃o xs,H a=some (.frz o (.lst xs)))) ->
   codeAny (model P w) callerA (.call (.ref fa) ⟨[.ref a],[]⟩) (λr s'=>r=.ok (.ret (.bool true))/\OldK s₁.heap s'.heap/\s'.os=s₁.os/\AllBare s'.gens) s₁:=by
  intro H hHT hS hok hA;have none_of:∀{b:Addr} {o:Obj},s₁.heap.get? b=some o->(∀z,o.data≠.fields z)->(∀z n,o.data≠.seq z n)->H b=none:=λ{b o} e n1 n2=>by
   cases q:H b with
   | none=>rfl
   | some u =>
    rcases hA b (by rw[q];simp) with rfl|⟨rfl,_⟩
    ·rw[hT] at e;cases e;exact absurd rfl (n1 _)
    ·rw[ha] at e;cases e;exact absurd rfl (n2 _ _)
  have base_of:∀{b:Addr} {o:Obj},s₁.heap.get? b=some o->H b=none->(hidT s₁.heap H).get? b=some o:=λe n=>zbdy e n
  have nsK:∀{b:Addr} {m:Str->Option Value},s₁.heap.Ns b m->(hidT s₁.heap H).Ns b m:=λ{b m} ⟨o,es,ep,e,d,r⟩=>⟨o,es,ep,base_of e (none_of e (by intro z q;rw[d] at q;cases q) (by intro z n q;rw[d] at q;cases q)),d,r⟩
  have hKb:K.In (hidT s₁.heap H):=λb o e=>base_of (KX b o e) (by
   cases q:H b with
   | none=>rfl
   | some u =>
    rcases hA b (by rw[q];simp) with rfl|⟨rfl,n,_⟩
    ·rw[hKT] at e;cases e
    ·rw[n] at e;cases e)
  have hM:Mod K mg (hidT s₁.heap H):=⟨hKb,nsK hns,⟨mb,nsK hb,hbb⟩,let ⟨mc,h1,h2⟩:=hlim;⟨mc,nsK h1,h2⟩⟩
  have e0:Env0 P w K mg (hidT s₁.heap H) callerA [] s₁ H:=⟨rfl,hM,λb o e=>zbil e,xdf (zyp _ _),trivial,λb hb=>absurd (show b∈([]:List Addr) from hb) (by simp),hok,.of_eq hg⟩
  have CT':W.CodeHd (hidT s₁.heap H) c T:=by
   obtain⟨o,vs',file,tf,flags,tg,inF,text,tt,e1,r1,r2,r3,r4,r5,r6,r7,r8,hne⟩:=CT;refine⟨o,vs',file,tf,flags,tg,inF,text,tt,base_of e1 ?_,r1,r2,r3,r4,r5,r6,r7,r8,hne⟩;cases q:H c with
   | none=>rfl
   | some u =>
    rcases hA c (by rw[q];simp) with z|⟨z,_⟩
    ·exact absurd z hne
    ·rw[z,ha] at e1;cases e1;cases r2
  have bm':BmOk mg (hidT s₁.heap H):=by
   obtain⟨bm,ob,b1,b2,b3,b4,b5,b6⟩:=hbm;exact⟨bm,ob,b1,b2,base_of b3 (none_of b3 (by intro z q;rw[b6] at q;cases q) (by intro z n q;rw[b6] at q;cases q)),b4,b5,b6⟩
  refine xha ((F _ hKb (nsK hns) CT' bm').run callerA [] s₁ H ⟨[.ref a],[]⟩ [.ref a] [.ref a] _ _ hr e0 (hbind s₁ (.ref a)) (.cons rfl .nil) (hsp H hHT hS)) λr s' h=>?_
  cases r with
  | error e=>exact False.elim h
  | ok fl =>
   cases fl with
   | next=>exact False.elim h
   | brk=>exact False.elim h
   | cont=>exact False.elim h
   | ret u =>
    obtain⟨v,H',os,bare,un,hok',r',q⟩:=h;have q':v=.bl true:=q;subst q';obtain rfl:u=Value.bool true:=r';have key:∀b o,s₁.heap.get? b=some o->b≠T->s'.heap.get? b=some o:=λb o e n=>by
     cases q:H b with
     | none=>exact un.keep b o e q (by intro z;exact absurd (show b∈([]:List Addr) from z) (by simp)) (by simp)
     | some u =>
      rcases hA b (by rw[q];simp) with z|⟨rfl,_,ob,xs,z⟩
      ·exact absurd z n
      ·have z2:=un.frzs b ob _ z;obtain⟨e1,_⟩:=hok b _ z;obtain⟨e2,_⟩:=hok' b _ z2;rw[e] at e1;cases e1
       exact e2
    obtain⟨more,z⟩:=un.tbls T #[] hHT;have gT:s'.heap.get? T=some {cls:=.none,data:=.fields (#[]++more)}:=hok' T _ z;refine⟨rfl,⟨λb o e=>?_,λb o e=>?_⟩,os,bare⟩
    ·by_cases n:b=T
     ·subst n;rw[hT] at e;cases e
      exact .inr (.inl ⟨(CT.tab hT).isCodeTable,rfl,#[],more,rfl,gT⟩)
     ·exact .inl (key b o e n)
    ·by_cases n:b=T
     ·subst n;exact⟨_,gT⟩
     ·exact⟨o,key b o e n⟩
 have okT:∀H:Hp,ObjOk P w H s₁.heap T (.tbl #[]):=λH=>hT
 cases hk:K.lookup a with
 | some o =>
  have e:=KX a o hk;rw[ha] at e;cases e;refine core (λb=>if b=T then some (.tbl #[]) else none) (if_pos rfl) (.inr ⟨_,vs.toArray,_,hk,rfl,rfl,rfl,by rw[xbs,lenV];exact hl,by simpa using rv⟩) (λb u z=>?_) (λb z=>?_)
  ·by_cases hb:b=T
   ·have z':=(if_pos hb).symm.trans z;cases z';subst hb;exact okT _
   ·have z':=(if_neg hb).symm.trans z;cases z'
  ·by_cases hb:b=T
   ·exact .inl hb
   ·exact absurd (if_neg hb) z
 | none =>
  have hTn:(λb=>if b=T then some (.tbl #[]) else if b=a then some (.frz { cls:=.type "list", data:=.seq vs.toArray } (.lst (ns.map V.int))) else none:Hp) a=some (.frz { cls:=.type "list", data:=.seq vs.toArray } (.lst (ns.map V.int))):=by
   show(if a=T then _ else if a=a then _ else _)=_;rw[if_neg aT,if_pos rfl]
  refine core (λb=>if b=T then some (.tbl #[]) else if b=a then some (.frz { cls:=.type "list", data:=.seq vs.toArray } (.lst (ns.map V.int))) else none) (if_pos rfl) (.inl (.inr ⟨{ cls:=.type "list", data:=.seq vs.toArray },hTn⟩)) (λb u z=>?_) (λb z=>?_)
  ·by_cases hb:b=T
   ·have z':=(if_pos hb).symm.trans z;cases z';subst hb;exact okT _
   ·have z1:=(if_neg hb).symm.trans z;by_cases hb2:b=a
    ·have z':=(if_pos hb2).symm.trans z1;cases z';subst hb2;exact⟨ha,by rw[xbc];exact hl,vs,_,rv,ha⟩
    ·have z':=(if_neg hb2).symm.trans z1;cases z'
  ·by_cases hb:b=T
   ·exact .inl hb
   ·by_cases hb2:b=a
    ·exact .inr ⟨hb2,hk,_,_,hTn⟩
    ·exact absurd ((if_neg hb).trans (if_neg hb2)) z
structure LawTab (K:Fg) (ts:List Addr) (c T:Addr):Prop where
 tin:W.tabIn K "law"=some (c,T)
 hd:W.codeHdIn K c T=true
 mem:T∈ts
 out:K.lookup T=none
theorem zyh{K:Fg}{ts:List Addr}{f c T:Addr}{oc oc2:Value}{od od2:Option Addr}{fd:FuncData}{sl sl2:Array (Option Value)}{vs:Array Value}(a:W.nsIn K mainGlobals "law"=some (some (.ref f)))(l:K.lookup f=some ⟨oc,od,.func fd,sl⟩)(hc:fd.code=.ref c)(lc:K.lookup c=some ⟨oc2,od2,.fields vs,sl2⟩)(hv:vs[11]?=some (.ref T))
  (hd:W.codeHdIn K c T=true)(mem:T∈ts)(out:K.lookup T=none):LawTab K ts c T/\fd.code=.ref c:=by
 refine⟨⟨?_,hd,mem,out⟩,hc⟩;unfold W.tabIn;rw[a];dsimp only;rw[l];dsimp only;rw[hc];dsimp only;rw[lc];dsimp only;rw[hv]
theorem zbbq{l:W.OpenLaw}{n k:Nat}{q:Program}{loose:List Str}{XP:(Str->Option Value)->Heap->Prop}{YP:World->Heap->Prop}{d:DefRec}{K:Params->Fg}{ts:List Addr}{sp:Fg->Addr->Sp}{x:Str}
  (hn:l.most=some n)(hn2:n<=sizeLine)(hdf:d.params.defaults=[])(hr:Room k callerA)
  (hY:∀(w:World) (h:Heap),YP w h->(K w.params).In h)(hts:∀(w:World) (h:Heap),YP w h->∀P∈ts,h.get? P=some (W.tabObj #[]))
  (F:∀(w:World) (mg:Str->Option Value) (fa:Addr) (h:Heap),(K w.params).In h->h.Ns mainGlobals mg->mg d.name=some (.ref fa) ->
   ∃(c T:Addr) (fd:FuncData),LawTab (K w.params) ts c T/\(∀(s:Shared) (u:Value),BindsTo s fd ⟨[u],[]⟩ [(x,u)]) /\
    ∀base:Heap,(K w.params).In base->base.Ns mainGlobals mg->W.CodeHd base c T->BmOk mg base->FnOk l.prog w (K w.params) mg base CX0 k fa fd [x] (sp (K w.params) T))
  (hsp:∀(K:Fg) (c T:Addr) (H:Hp) (a:Addr) (ns:List Int),W.tabIn K "law"=some (c,T)->ns.length<=n->H T=some (.tbl #[])->SqL K H a (ns.map V.int)->sp K T [.ref a] H (λv _=>v=.bl true) λ_ _ _=>False) :
  W.WalkO q loose XP YP l.row.toRowW d [] (λf vs=>PySem.call f vs):=by
 refine Att.attach_call hn hdf λw s₀ s₁ mg mb fa o pm cd doc a vs ns G Y ho hd hcd hmg hobj hints hlen hg=>?_
 have KX:=hY w _ Y;obtain⟨c,T,fd,LT,hb,hF⟩:=F w mg fa _ KX G.T.g hmg;exact zyi KX G.T.g G.T.b G.T.builtins G.T.nolimit hg hobj hints (xbb hlen hn2) hr (W.codeHd_of_K KX LT.hd) (hts w _ Y T LT.mem) LT.out G.T.bmain hF hb (λH hT hS=>hsp _ c T H a ns LT.tin hlen hT hS)
end L2
namespace Dd
open PySem L2 PyProof.Rows
def spLawT(K:Fg) (T:Addr):Sp:=λvs H Q _=>∃(a:Addr) (ns:List Int),vs=[.ref a]/\SqL K H a (ns.map V.int)/\ns.length<=63/\H T=some (.tbl #[])/\(∃ c,W.tabIn K "law"=some (c,T))/\∀ H', Q (.bl true) H'
theorem zbjb{P:Program}{w:World}{K:Fg}{mg:Str->Option Value}{base:Heap}{au:Stmt}{N ps:List Str}{k:Nat}{b:SS}{f T:Addr}{fd:FuncData}(F:Fun K "law" "law" au f fd)(S:FnScope N ps (defScope au))(hp:ps.length=1)
  (hbody:∀(cdv:Value) (A:Around) (outer:List Env) (s:Shared) (H:Hp) (E:XK),fd.code=cdv->Room k (A.deeper (envOfC "law" (defScope au) s.heap.objs.size f cdv)) ->
   JB (cxOf CX0 P w K mg base N "law" (defScope au) f cdv A outer s H E).nox (defBody au) b)
  (holds:∀ns:List Int,ns.length<=63->∃st',fnD N.length 1 b [.scr (ns.map .int)] [.tab]=.ok (.bl true) st'):FnOk P w K mg base CX0 (k+1) f fd ps (spLawT K T):=by
 obtain⟨oc,od,kV,doc,pm,an,cdv,ct,osl,rfl,lk,hcd⟩:=F.ex;refine zbpb lk hcd S (λvs H Q E hh=>?_) λA outer s H vs Q E hr hh=>⟨_,(hbody cdv A outer s H E rfl hr).out.nox,?_⟩
 ·obtain⟨a,ns,rfl,_⟩:=hh;exact hp.symm
 ·obtain⟨a,ns,rfl,hS,hl,hT,⟨c,ht⟩,q⟩:=hh;obtain⟨st',e⟩:=holds ns hl;refine zblp (np:=1) (E:=E) ⟨⟨[some T],[]⟩,[.scr (ns.map .int)],[.tab],_,st',.cons (.scr ?_ (zhq ns)) .nil,⟨rfl,λn m a e1 e2=>?_,λn a o e1 e2=>?_,λa h=>(by cases h),λn o e1 _=>?_⟩,e,rfl,λρ' H' u x r t=>?_⟩
  ·rcases hS with h|h
   ·refine .inl ⟨h,?_,by simp⟩;intro z;have z':a=T:=xch (xbk.mp z);subst z';rcases h with h|⟨o,h⟩<;>(rw[hT] at h;cases h)
   ·exact .inr λH'=>.inr h
  ·cases n with
   | zero=>cases m with
    | zero=>rfl
    | succ m=>cases e2
   | succ n=>cases e1
  ·cases n with
   | zero =>
    cases e1;cases e2
    exact⟨⟨c,ht⟩,#[],hT,trivial,λpos cv z=>by cases z⟩
   | succ n=>cases e1
  ·cases n with
   | zero=>exact⟨T,rfl⟩
   | succ n=>cases e1
  ·cases t;exact q H'
structure JR (X:Cx) (f:Addr) (σL:DS) (τL:L2.St) (s:Stmt) (b:SS):Prop where out:PS X s (tRef X.K f σL τL b)
structure JRB (X:Cx) (f:Addr) (σL:DS) (τL:L2.St) (s:List Stmt) (b:SS):Prop where out:PSs X s (tRef X.K f σL τL b)
section
variable {X:Cx}{pos2:Pos}{cs:List Str}
theorem zbpw(hc:X.calm=true)(st0:X.stack=X.env::X.outer)(fr:X.env.frame=some X.env.locals)(hN:X.N.Nodup)(hi:X.N[i]?=some n)(hn:X.env.kindOf n=some .local)(hg:Gl X y)(hB:W.nsIn X.K mainGlobals y=some (some (.ref B)))
 (hcs:∀c∈cs,∀C,W.nsIn X.K mainGlobals c=some (some (.ref C))->W.exmOne X.K (.ref C) (.ref B)=some true)(T:∀E pn,Thk (X.tryc E pn) f τL g)(hG:g σL=G)(hv:∀E pn,PE (X.tryc E pn) (.Name x p) (tVar 0))
 (hs:∀ e,JB (X.caught e) (b0::suite) u)(hd:(y==("__debug__" : Str))=false:=by decide)(hsw:swapsWith (.Call (.Name x p) [] [] pos) none pos2.line X.env=pure false:=by rfl) :
 JR X f σL τL (.Try [.Expr (.Call (.Name x p) [] [] pos) pos2] [.ExceptHandler (some (.Name y xp)) (some n) (b0::suite) hp] [] [] tp) (sTry i cs (sDrop λ_=>G) u):=⟨by subst hG;exact zbhg hc st0 fr hN hi hn hg hB hcs T hv hs hd hsw⟩
end
section
variable {X:Cx}{f:Addr}{σL:DS}{τL:L2.St}{rest:List Stmt}{t:SS}
theorem zbpx{tr:Stmt}{s:SS}(h1:JR X f σL τL tr s)(h2:JB X rest t):JRB X f σL τL (tr::rest) (aD s t):=⟨zbhe h1.out h2⟩
end
def CalT(P:Program) (w:World) (K:Fg) (mg:Str->Option Value) (base:Heap) (y:Str) (k:Nat) (F:(Store->Res D)->DFn):Prop :=
 ∃(fr:Addr) (fdR:FuncData) (stR:Stmt) (N:List Str) (x:Str) (b:(Store->Res D)->SS),(F=λg=>fnD N.length 1 (b g))/\mg y=some (.ref fr)/\Fun K y y stR fr fdR/\FnScope N [x] (defScope stR) /\
  (∀(kV doc pm:Value) (an:Option Addr) (cdv ct:Value) (us:List Value),us.length=[x].length->bindArgs (W.fnOf y y (defArgs stR) (defBody stR) (defScope stR) .none kV doc pm an cdv ct) ⟨us,[]⟩=pure ([x].zip us)) /\
  ∀(cdv:Value) (A:Around) (outer:List Env) (s:Shared) (H:Hp) (E:XK) (f:Addr) (σL:DS) (τL:L2.St) (g:SE),Room (k+1) (A.deeper (envOfC y (defScope stR) s.heap.objs.size fr cdv)) ->
   (∀E' pn,Thk ((cxOf CX0 P w K mg base N y (defScope stR) fr cdv A outer s H E).nox.tryc E' pn) f τL g)->PSs (cxOf CX0 P w K mg base N y (defScope stR) fr cdv A outer s H E).nox (defBody stR) (tRef K f σL τL (b (g σL)))
theorem zbll{P:Program}{w:World}{K:Fg}{mg:Str->Option Value}{base h:Heap}{y x:Str}{au:Stmt}{N:List Str}{k:Nat}{b:(Store->Res D)->SS}(T:TopF K y au)(X:K.In h)(G:h.Ns mainGlobals mg)(S:FnScope N [x] (defScope au))
  (bd:∀(kV doc pm:Value) (an:Option Addr) (cdv ct:Value) (us:List Value),us.length=[x].length->bindArgs (W.fnOf y y (defArgs au) (defBody au) (defScope au) .none kV doc pm an cdv ct) ⟨us,[]⟩=pure ([x].zip us))
  (hbody:∀(fr:Addr) (cdv:Value) (A:Around) (outer:List Env) (s:Shared) (H:Hp) (E:XK) (f:Addr) (σL:DS) (τL:L2.St) (g:SE) (G:Store->Res D),g σL=G->Room (k+1) (A.deeper (envOfC y (defScope au) s.heap.objs.size fr cdv)) ->
   (∀E' pn,Thk ((cxOf CX0 P w K mg base N y (defScope au) fr cdv A outer s H E).nox.tryc E' pn) f τL g)->JRB (cxOf CX0 P w K mg base N y (defScope au) fr cdv A outer s H E).nox f σL τL (defBody au) (b G)):CalT P w K mg base y k (λg=>fnD N.length 1 (b g)):=by
 obtain⟨f,fd,a,F⟩:=T;exact⟨f,fd,au,N,x,b,rfl,xdb X G a,F,S,bd,λcdv A outer s H E f' σL τL g hr t=>(hbody f cdv A outer s H E f' σL τL g _ rfl hr t).out⟩
theorem zoe{X:Cx} {T:Addr} (cal:CalT X.prog X.w X.K X.mg X.base y k F)(C:W.CodeHd X.base c T)(ht:W.tabIn X.K "law"=some (c,T))(Bm:BmOk X.mg X.base)(hcode:X.env.code=.ref c)(hqu:X.env.qual++"<lambda>"=lamQ)(hg:Gl X y)
  (hr:Room (k + 2) X.A)(hdef:defaultsOf params X.env=([],[]))(S:CompScope X NL 0 is scope)(SL:LamScope scope)(hb:∀ cl pm cd ct,bindArgs (W.kla_fn "<lambda>" lamQ params body scope cl pm cd ct) ⟨[],[]⟩=pure [])
  (hlam:∀f cd cl A outer s H E,Room k (A.deeper (W.envX lamQ scope s.heap.objs.size f cd cl))->JX (cxL X.prog X.w X.K X.mg X.base NL lamQ scope f cd cl A outer s H E) (λ_ c dx H=>E c dx H) body lam)
  (hdb:(y==("__debug__" : Str))=false:=by decide)(he:starEach [.Lambda params body scope lp] X.env=(false,eval (.Lambda params body scope lp) X.env)::starEach [] X.env:=by rfl)(hpl:(backTo pos (starEach [] X.env)).any (·.1)=false:=by rfl) :
  JE X (.Call (.Name y p) [.Lambda params body scope lp] [] pos) (eRefd F is lam):=by
 obtain⟨fr,fdR,stR,N,x,b,rfl,hm,FF,SF,bd,hbody⟩:=cal;exact zbku C ht Bm hcode hqu hg hm FF SF bd hr hdef S SL hb hbody hlam hdb he hpl
section
variable {K:Fg}{cv:Value}
theorem zwt:∀q∈([]:List (Str×Bool)),∀C,W.nsIn K mainGlobals q.1=some (some (.ref C))->ErrLook K C/\W.kitOne K (.ref C) cv=some q.2:=λ_ h=>nomatch h
theorem zdn{c:Str}{b:Bool}{r:List (Str×Bool)}{C0:Addr}(n:W.nsIn K mainGlobals c=some (some (.ref C0)))(l:ErrLook K C0)(i:W.kitOne K (.ref C0) cv=some b)(t:∀q∈r,∀C,W.nsIn K mainGlobals q.1=some (some (.ref C))->ErrLook K C/\W.kitOne K (.ref C) cv=some q.2) :
  ∀q∈(c,b)::r,∀C,W.nsIn K mainGlobals q.1=some (some (.ref C))->ErrLook K C/\W.kitOne K (.ref C) cv=some q.2:=λq hq C e=>by
 rcases xbn.mp hq with rfl|hq
 ·have z:=n.symm.trans e;cases z;exact⟨l,i⟩
 ·exact t q hq C e
end
end Dd
namespace L2
open PySem PySem.Spec PyProof.Rows
end L2
namespace Dd
open PySem L2 PyProof.Rows
end Dd
namespace L2
open PySem PySem.Spec PyProof.Rows
end L2
namespace L2
open PySem PySem.Spec PyProof.Rows Builtin Builtin.ObjectAttr
end L2
namespace L2
open PySem PySem.Spec PyProof.Rows
def ItE0(K:Fg) (a:Addr):It :=
 ⟨λi H=>∃xs x,SqL K H a xs/\xs[i]?=some x,λi H y H'=>∃p,H p=none/\y=.ref p/\∀xs x,SqL K H a xs->xs[i]?=some x->H'=upd H p (.tup [.int (i:Int),x]),λi H=>∃xs,SqL K H a xs/\xs.length<=i⟩
theorem zsj{P:Program}{w:World}{K:Fg}{elts:List Expr}{k:Nat}{tpos:Pos}(e it a:Addr)(hei:e≠it) :
  Turn P w K (.Tuple elts k tpos) (ItE0 K a) [e,it] e (λi h=>(∃old,IsEnum h e it (i:Int) old)/\h.IsListIter it a i) where
 mem:=by simp
 obj:=λi h au b hb=>by
  obtain⟨⟨old,he⟩,o,e',c,d⟩:=au;rcases xbn.mp hb with rfl|hb
  ·exact⟨_,he,λv z=>nomatch (show Data.fields _=Data.cell v from z)⟩
  ·obtain rfl:b=it:=by simpa using hb
   exact⟨o,e',λv z=>by rw[d] at z;cases z⟩
 keep:=λi h h' au k=>⟨let ⟨old,he⟩:=au.1;⟨old,k e (by simp) _ he⟩,let ⟨o,z,r⟩:=au.2;⟨o,k it (by simp) o z,r⟩⟩
 item:=by
  intro X hP hw hK hc i aW s σ H E I hf au hg;subst hP hw hK;obtain⟨xs,x,hq,hx⟩:=hg;obtain⟨⟨old,he⟩,hit⟩:=au;obtain⟨its,rv,p,hz⟩:=I.list hq;obtain⟨u,hu,ru⟩:=rv.get hx;refine wpAny_pyNext_enum_item he hit p.isList (x:=u) (by rw[List.getElem?_toArray];exact hu) hei λh1 ho hit' hT hsz hk=>?_
  refine⟨_,rfl,wpAny_letOwnedTupleGo_enum ho λh2 he2 hs2=>?_⟩;obtain⟨f0,f1,f2,f3,f4,f5⟩:=hf e (by simp);obtain⟨g0,g1,g2,g3,g4,g5⟩:=hf it (by simp);have hel:e<s.heap.objs.size:=xbq he;have hil:it<s.heap.objs.size:=by obtain⟨o',ho',_⟩:=hit;exact xbq ho'
  have I1:Inv X aW σ (upd H s.heap.objs.size (.tup [.int (i:Int),x])) { s with heap:=s.heap.push { cls:=.type "tuple", data:=.seq #[.int (i:Int) s.toks,u] },toks:=s.toks } :=
   I.laid (λ_ _ q=>xbg _ q) (xbf _) ⟨by simp;decide,[.int (i:Int) s.toks,u],.cons ⟨_,rfl⟩ (.cons ru .nil),⟨_,xbw _ rfl,rfl,_,rfl⟩⟩
  have I2:Inv X aW σ (upd H s.heap.objs.size (.tup [.int (i:Int),x])) {s with heap:=h2,toks:=s.toks+1}:=by
   refine Inv.turned2 (s:={ s with heap:=s.heap.push { cls:=.type "tuple", data:=.seq #[.int (i:Int) s.toks,u] },toks:=s.toks }) (h':=h2) (t':=s.toks + 1) (e:=e) (it:=it) I1 (λb o hbe hbi q=>?_) (by rw[zj (xbv hil)]; exact g0) g1 g3 g4 g5 (by rw[zj (xbv hel)]; exact f0) f1 f3 f4 f5
   rcases Heap.get?_push_cases (show(s.heap.push _).get? b=some o from q) with⟨z,z2⟩|z
   ·rw[z,z2];exact(hs2.2 _ (xip hel)).trans hT
   ·exact(hs2.2 _ hbe).trans (hk b o hbe hbi z)
  refine⟨.ref s.heap.objs.size,_,I2,rfl,⟨s.heap.objs.size,I.fresh,rfl,λys y hy e'=>?_⟩,⟨⟨u,by push_cast;exact he2⟩,?_⟩,λb hb=>?_⟩
  ·rw[I.list_inj hy hq,hx] at e';cases e'
   rfl
  ·obtain⟨o,z,r⟩:=hit';exact⟨o,(hs2.2 it (xep hei)).trans z,r⟩
  ·rcases xbn.mp hb with rfl|hb
   ·rw[zj (xbv hel)];exact f0
   ·obtain rfl:b=it:=by simpa using hb
    rw[zj (xbv hil)];exact g0
 done:=by
  intro X hP hw hK hc i aW s σ H E I hf au hg;subst hP hw hK;obtain⟨xs,hq,hx⟩:=hg;obtain⟨⟨old,he⟩,hit⟩:=au;obtain⟨its,rv,p,hz⟩:=I.list hq;have hl:=rv.length;obtain⟨g0,g1,g2,g3,g4,g5⟩:=hf it (by simp);exact wpAny_pyNext_enum_end (I.ok.hd hc) he hit p.isList (by simp;lia) λh' he'=>⟨rfl,I.turned (t':=s.toks) (λb o hb e=>he' b o hb e) g0 g1 g3 g4 g5⟩
 self:=λA i s Q E au h=>let ⟨old,he⟩:=au.1;wpAny_pyIter_enum he h
def iEnum0(K:Fg) (tl:TE):TI:=λσ H R=>tl σ H λx H1=>∃a,x=.ref a/\(∃xs,SqL K H1 a xs)/\R (ItE0 K a) H1
section
variable {X:Cx}
theorem zbcp{elts:List Expr}{k:Nat}{tpos p pos:Pos}{l:Expr}{tl:TE}(hg:Gl X "enumerate")(hm:X.mg "enumerate"=none)(hl:PE X l tl)
  (he:starEach [l] X.env=[(false,eval l X.env)]:=by rfl):PI X (.Tuple elts k tpos) (.Call (.Name "enumerate" p) [l] [] pos) (iEnum0 X.K tl):=by
 intro aW s σ H R I h;refine xfm (zrl I hg hm PyProof.Rows.boot_enumerate ?_);refine xgy (e:=l) (rest:=[]) ?_ he rfl;rw[he];refine xia (thn (hl aW s σ H _ I h) λv s1 hq0=>?_);obtain⟨x,H1,I1,r1,q1⟩:=hq0;refine xkb ?_;obtain⟨a,rfl,⟨xs,hq⟩,q⟩:=q1;cases r1;obtain⟨its,rv,pp,hz⟩:=I1.list hq;refine call_enumerate_list pp.isList λh' he' hit hsz hk=>?_
 refine wpAny_pyIter_enum he' ?_;have I3:=I1.kept (h':=h') (t':=s1.toks) hk;refine⟨s1.heap.objs.size+1,[s1.heap.objs.size+1,s1.heap.objs.size],_,_,H1,rfl,I3,zsj _ s1.heap.objs.size a (Nat.succ_ne_self _),⟨⟨_,he'⟩,hit⟩,λb hb=>?_,q⟩;have hb':s1.heap.objs.size<=b:=by
  have hb2:b=s1.heap.objs.size+1\/b=s1.heap.objs.size:=by simpa using hb
  cases hb2 with
  | inl z=>exact z ▸ xkl _
  | inr z=>exact z ▸ xbf _
 exact I1.fpOk hb' (I1.hok.fresh hb')
end
end L2
namespace Dd
open PySem L2 PyProof.Rows
end Dd
namespace L2
open PySem PySem.Spec PyProof.Rows
def rIsbT(K:Fg) (xs:List V) (H:Hp) (Q:VK):Prop:=∃(a:Addr) (o:Obj) (C p:Addr) (Cs:List Addr) (b:Bool),xs=[.ref a,.ref p]/\SqT K H p (Cs.map V.ref)/\H a=some (.frz o HX)/\o.cls=.ref C/\ErrLook K C/\o.dict=none/\(∃vs,o.data=.fields vs)/\W.kitAny K (.ref C) (Cs.map Value.ref)=some b/\Q (.bl b) H
theorem zzo : CallR X (.builtin "isinstance") (rIsbT X.K):=by
 intro aW s σ H xs us Q I r h;obtain⟨a,o,C,p,Cs,b,rfl,hp,h1,h2,lk,h3,h4,e,q⟩:=h;obtain⟨u,w',rfl,ru,rw'⟩:=vals2 r;cases(show w'=Value.ref p from rw');cases(show u=Value.ref a from ru);obtain⟨its,rv,pt,_⟩:=I.tuple hp;rw[zjr rv] at pt;obtain⟨⟨oc,od,odt,osl⟩,g1,g2,n,g3⟩:=pt;dsimp only at g2 g3;subst g2 g3;exact W.kia_tup (zuk lk h3 h4 h2) I.kIn (I.hok a _ h1).1 g1 e (by intro z;cases z) λtk=>⟨.bl b,H,I.tok tk,rfl,q⟩
def tVs(vs:List V):TA:=λ_ H Q=>Q vs H
end L2
namespace Dd
open PySem L2 PyProof.Rows
structure JN (X:Cx) (es:List Expr) (Cs:List Addr):Prop where out:PA X es (tVs (Cs.map V.ref))
theorem zbor:JN X [] []:=⟨znj⟩
theorem zew(h:PE X e (tC (.ref C)))(r:JN X es Cs)(hs:starEach (e::es) X.env=(false,eval e X.env)::starEach es X.env:=by rfl):JN X (e::es) (C::Cs):=⟨zfj h r.out hs⟩
theorem zbds{K:Fg}{t:Value}:W.kitAny K t []=some false:=rfl
theorem zff{K:Fg}{t c:Value}{cs:List Value}{b:Bool}(h:W.kitOne K t c=some false)(r:W.kitAny K t cs=some b):W.kitAny K t (c::cs)=some b:=by
 show(match W.kitOne K t c with|some true=>some true|some false=>W.kitAny K t cs|none=>none)=_;rw[h];exact r
theorem zbmp{K:Fg}{cs:List Value}:∀q∈([]:List (Str×Bool)),∀C,W.nsIn K mainGlobals q.1=some (some (.ref C))->ErrLook K C/\W.kitAny K (.ref C) cs=some q.2:=λ_ h=>nomatch h
theorem zsm{K:Fg}{cs:List Value}{c:Str}{b:Bool}{r:List (Str×Bool)}{C0:Addr}(n:W.nsIn K mainGlobals c=some (some (.ref C0)))(l:ErrLook K C0)(i:W.kitAny K (.ref C0) cs=some b)(t:∀q∈r,∀C,W.nsIn K mainGlobals q.1=some (some (.ref C))->ErrLook K C/\W.kitAny K (.ref C) cs=some q.2) :
  ∀q∈((c,b)::r),∀C,W.nsIn K mainGlobals q.1=some (some (.ref C))->ErrLook K C/\W.kitAny K (.ref C) cs=some q.2:=λq h C hC=>by
 rcases xbn.mp h with rfl|h
 ·have:=hC.symm.trans n;cases this;exact⟨l,i⟩
 ·exact t q h C hC
theorem zbkx{x1}(hg:Gl X "isinstance")(hm:X.mg "isinstance"=none)(hv:PE X (.Name n p1) (tVar i))(hd:JN X es Cs)(hl:Cs.length<=sizeLine)
  (hk:∀ q∈tbl, ∀ C,W.nsIn X.K mainGlobals q.1=some (some (.ref C))->ErrLook X.K C/\W.kitAny X.K (.ref C) (Cs.map Value.ref)=some q.2):JE X (.Call (.Name "isinstance" p) [.Name n p1,.Tuple es x1 p2] [] pos) (eIsB i tbl) :=
 ⟨zdt (zhh zzo hg hm zco (zfj hv (zfj (zbhv hd.out) znj))) λτ H Q hq0=>by
  obtain⟨ρ,σ,au,v,st',a,rp,e,q⟩:=hq0;unfold eIsB at e;split at e
  ·next c hi =>
   split at e
   ·next b hb =>
    cases e;obtain⟨u,h1,h2⟩:=a.get hi;cases h2 with
    | exn h2 =>
     obtain⟨C,o,h3,h4,h5,h6,h7⟩:=h2;obtain⟨lk,e1⟩:=hk (c,b) (xed hb) C h3;have hd0:o.dict=none:=by
      rcases h7 with⟨_,z⟩|⟨_,_,_,z,_⟩
      ·exact z
      ·cases z
     refine⟨_,h1,?_⟩;show(Cs.map V.ref).length<=sizeLine/\_;refine⟨by rw[xbc];exact hl,λp hp=>?_⟩;refine⟨_,o,C,p,Cs,b,rfl,SqT.of zh,?_,h5,lk,hd0,(let ⟨vs,q,_⟩:=h6;⟨vs,q⟩),e1,q _ _ _ (Ext.new hp _) (rp.new hp _) (.bl b)⟩;rw[zj (zd h4.1 hp)];exact h4.1
   ·cases e
  ·cases e⟩
theorem zpz :JXB X R sm sStuck:=⟨λaW s τ H E I hq0=>by
 obtain⟨ρ,σ,au,a,rp,q⟩:=hq0
 rcases q with⟨_,_,z,_⟩|⟨_,_,z,_⟩<;>cases z⟩
end Dd
namespace L2
open PySem PySem.Spec PyProof.Rows
end L2
namespace Dd
open PySem L2 PyProof.Rows
end Dd
namespace L2
open PySem PySem.Spec PyProof.Rows
end L2
namespace Dd
open PySem L2 PyProof.Rows
end Dd
namespace L2
open PySem PySem.Spec PyProof.Rows
end L2
namespace Dd
open PySem L2 PyProof.Rows
noncomputable def valI(kvs:List (Int×D)) (k:Int):Option D:=(kvs.find? λkv=>decide (kv.1=k)).map (·.2)
noncomputable def putI(kvs:List (Int×D)) (k:Int) (v:D):List (Int×D) :=
 if(kvs.any λkv=>decide (kv.1=k))=true then kvs.map (λkv=>if kv.1=k then(kv.1,v) else kv) else kvs++[(k,v)]
theorem inlI :(Sum.inl a:Key)=Sum.inl b↔a=b:=⟨λe=>Sum.inl.inj e,λe=>by rw[e]⟩
section
variable {K:Fg}{ρ:Loc}{H:Hp}{kvs:List (Int×D)}{vs:List (Key×V)}
theorem KiAt.val(h:KiAt K ρ H kvs vs)(k:Int):match valI kvs k with
  | some d=>∃v,valV vs (Sum.inl k)=some v/\At K ρ H d v
  | none=>valV vs (Sum.inl k)=none:=by
 induction h with
 | nil=>rfl
 | @cons p q ps qs h t ih =>
  obtain⟨h1,h2⟩:=h;by_cases e:p.1=k
  ·have e1:valI (p::ps) k=some p.2:=by simp[valI,xdt,e]
   rw[e1];exact⟨q.2,zgz (by rw[h1,e]),h2⟩
  ·have e1:valI (p::ps) k=valI ps k:=by simp[valI,xdt,e]
   have e2:valV (q::qs) (Sum.inl k)=valV qs (Sum.inl k):=zha (by rw[h1,inlI];exact e);rw[e1,e2];exact ih
theorem KiAt.put(h:KiAt K ρ H kvs vs)(k:Int){d:D}{v:V}(a:At K ρ H d v):KiAt K ρ H (putI kvs k d) (putK vs (Sum.inl k) v):=by
 have any:∀{kvs:List (Int×D)} {vs:List (Key×V)},KiAt K ρ H kvs vs->(kvs.any λkv=>decide (kv.1=k))=(vs.any λkv=>decide (kv.1=Sum.inl k)):=λh=>by
  induction h with
  | nil=>rfl
  | @cons p q ps qs h t ih =>
   rw[xhj,xhj,ih,h.1]
   congr 1
   simp only[inlI]
 unfold putI putK;rw[any h];split
 ·rename_i hh;clear hh any
  induction h with
  | nil=>exact .nil
  | @cons p q ps qs h t ih =>
   refine .cons ?_ ih;obtain⟨h1,h2⟩:=h;dsimp only;by_cases e:p.1=k
   ·rw[if_pos e,if_pos (by rw[h1,e])];exact⟨h1,a⟩
   ·rw[if_neg e,if_neg (by rw[h1,inlI];exact e)];exact⟨h1,h2⟩
 ·have app:∀{kvs:List (Int×D)} {vs:List (Key×V)},KiAt K ρ H kvs vs->KiAt K ρ H (kvs++[(k,d)]) (vs++[(Sum.inl k,v)]):=λh=>by
   induction h with
   | nil=>exact .cons ⟨rfl,a⟩ .nil
   | cons h t ih=>exact .cons h ih
  exact app h
theorem KiAt.length(h:KiAt K ρ H kvs vs):kvs.length=vs.length:=xhx h
end
section
variable {H:Hp}{vs:List (Key×V)}
theorem zbag{p:Addr}(g:H p=some (.dK vs)):∀ob u,H p≠some (.frz ob u):=λob u z=>by rw[g] at z;cases z
end
def eDNewI:SE:=λ_ au=>.ok (.ref au.length) (au++[.dI []])
theorem zbew:JE X (.Dict [] [] pos) eDNewI:=⟨zdt zbcu λτ H Q hq0 p hp=>by
 obtain⟨ρ,σ,au,v,st',a,rp,e,q⟩:=hq0;cases e;obtain⟨E,R⟩:=rp.alloc hp (x:=.dI []) (o:=.dK []) λE=>⟨[],zh,.nil⟩
 exact q _ _ _ E R (.last rp.len.symm)⟩
end Dd
namespace L2
open PySem PySem.Spec PyProof.Rows
def rBits:V->List V->Hp->VK->Prop:=λx vs H Q=>∃i:Int,x=.int i/\vs=[]/\Q (.int (Builtin.Int.intBits i)) H
theorem zbiu : MtR X "int.bit_length" rBits:=by
 intro aW s σ H x xs v us Q I rx rv h;obtain⟨i,rfl,rfl,q⟩:=h;obtain⟨t,rfl⟩:=rx;cases rv;exact call_int_bit_length ⟨.int _,H,I.tok _,⟨_,rfl⟩,q⟩
end L2
namespace Dd
open PySem L2 PyProof.Rows
def eBits(f:SE):SE:=λσ au=>(f σ au).bind λx st1=>match x with
 | .int i=>.ok (.int (Builtin.Int.intBits i)) st1
 | _=>.stuck
theorem zvd{apos cpos:Pos}(ho:JE X o f)(hbase:attributeBase o "bit_length" X.env (eval o X.env)=eval o X.env:=by rfl)(hline:(apos.endLine==cpos.line)=true:=by rfl):JE X (.Call (.Attribute o "bit_length" apos) [] [] cpos) (eBits f) :=
 ⟨zdt (zbnu F.plainAttrs_int F.slot_int_bit_length F.type_int_bit_length zbiu ho.out hbase hline) λτ H Q hq0=>by
  obtain⟨ρ,σ,au,v,st',a,rp,e,q⟩:=hq0;obtain⟨x,st1,e1,e⟩:=za e;refine⟨ρ,σ,au,x,st1,a,rp,e1,λρ1 H1 u x1 rp1 a1=>?_⟩;split at e
  ·rename_i i;cases e;cases a1;exact⟨rfl,i,rfl,rfl,q _ _ _ x1 rp1 (.int _)⟩
  ·cases e⟩
end Dd
namespace L2
open PySem PySem.Spec PyProof.Rows
end L2
namespace Dd
open PySem PySem.Spec PyProof.Rows L2
end Dd
namespace L2
open PySem PySem.Spec PyProof.Rows PySem.W
end L2
namespace Dd
open PySem PySem.Spec PyProof.Rows L2
def iEn0(f:SE):SA:=λσ au=>(f σ au).bind λx st1=>match x with
 | .lst xs=>.ok (numF 0 xs) st1
 | _=>.stuck
def intsOf(au:Store) (x:D):Option (List (Int×D)):=match x with
 | .ref n=>match au[n]? with
  | some (.dI kvs)=>some kvs
  | _=>none
 | _=>none
def oIIn(neg:Bool) (y x:D) (au:Store):Res D:=match y,intsOf au x with
 | .int k,some kvs=>.ok (.bl (if neg then !(valI kvs k).isSome else(valI kvs k).isSome)) au
 | _,_=>.stuck
def oIGet(x y:D) (au:Store):Res D:=match intsOf au x,y with
 | some kvs,.int k=>match valI kvs k with
  | some v=>.ok v au
  | none=>.stuck
 | _,_=>.stuck
def sIPut(f g h:SE):SS:=λσ au=>(h σ au).bind λv st1=>(f σ st1).bind λx st2=>(g σ st2).bind λy st3=>match x,y with
 | .ref n,.int k=>match st3[n]? with
  | some (.dI kvs)=>if kvs.length<sizeLine then .ok (.nx σ) (st3.set n (.dI (putI kvs k v))) else .stuck
  | _=>.stuck
 | _,_=>.stuck
theorem zuo{K:Fg}{ρ:Loc}{au:Store}{H:Hp}(rp:Rep K ρ au H){d:D}{u w:V}{kvs:List (Int×D)}{k:Int}(a:At K ρ H d u)(b:At K ρ H (.int k) w)(e:intsOf au d=some kvs) :
  ∃p o,u=.ref p/\DGet H p w o/\o.isSome=(valI kvs k).isSome/\∀z,valI kvs k=some z->∃v,o=some v/\At K ρ H z v:=by
 unfold intsOf at e;split at e
 ·split at e
  ·rename_i n kv hn;cases e;obtain⟨p,rfl,hp,vs,g1,g2⟩:=zfi rp a hn (by intro z;cases z);cases b;have g3:=g2.val k;refine⟨p,valV vs (Sum.inl k),rfl,.inl ⟨vs,Sum.inl k,.inl g1,rfl,rfl⟩,?_,λz hz=>?_⟩
   ·split at g3
    ·rename_i hv;obtain⟨v,e,_⟩:=g3;rw[hv,e]
     rfl
    ·rename_i hv;rw[hv,g3]
     rfl
   ·rw[hz] at g3;exact g3
  ·cases e
 ·cases e
theorem zqc(hg:Gl X "enumerate")(hm:X.mg "enumerate"=none)(hl:JE X l f)(he:starEach [l] X.env=[(false,eval l X.env)]:=by rfl) :
  JI X (.Tuple elts n tpos) (.Call (.Name "enumerate" p) [l] [] pos) (iEn0 f):=⟨zbhp (zbcp hg hm hl.out he) λτ H R hq0=>by
 obtain⟨ρ,σ,au,xs,st',a,rp,e,q⟩:=hq0;obtain⟨x,st1,e1,e⟩:=za e;refine⟨ρ,σ,au,x,st1,a,rp,e1,λρ1 H1 u x1 rp1 a1=>?_⟩;split at e
 ·rename_i ys;cases e;cases a1 with
  | lst h1 h2 h3 =>
   refine⟨_,rfl,⟨_,SqL.of h1⟩,q _ _ _ x1 rp1 ⟨λρ2 H2 x2 i d e=>?_,λρ2 H2 x2 i h=>?_⟩⟩
   ·obtain⟨z,hz,rfl⟩:=zke e;obtain⟨v,hv,av⟩:=h3.get hz;refine⟨⟨_,v,SqL.of (x2.out h1 h2).1,hv⟩,λy H3 hy=>?_⟩;obtain⟨p,hp,rfl,hH⟩:=hy;rw[hH _ _ (SqL.of (x2.out h1 h2).1) hv];refine⟨Ext.new hp _,λau rp2=>⟨rp2.new hp _,?_⟩⟩;rw[xjr];exact At.newT rp2 hp (.cons (.int _) (.cons (av.extG x2) .nil))
   ·rw[zcs] at h;exact⟨_,SqL.of (x2.out h1 h2).1,by rw[h3.length];exact h⟩
 ·cases e⟩
section
variable {h:SE}
theorem zbjo{neg:Bool}{x y v:D}{au st':Store}(e:oIIn neg y x au=.ok v st'):∃k kvs,y=.int k/\intsOf au x=some kvs/\v=.bl (if neg then !(valI kvs k).isSome else(valI kvs k).isSome)/\st'=au:=by
 unfold oIIn at e;split at e
 ·rename_i k kvs h;cases e;exact⟨k,kvs,rfl,h,rfl,rfl⟩
 ·cases e
end
theorem zbhz{X:Cx}(hu:X.A.units+1<cLine)(hi:JE X i g)(ho:JE X o f):JC X .In i o (aU (oIIn false) g f):=⟨λaW s σ H Q I hq=>by
 refine zbia hu hi.out ho.out aW s σ H Q I ?_;obtain⟨ρ,σ',au,v,st',a,rp,e,q⟩:=hq;obtain⟨x,st1,e1,e⟩:=za e;obtain⟨y,st2,e2,e⟩:=za e;refine⟨ρ,σ',au,x,st1,a,rp,e1,λρ1 H1 u x1 rp1 a1=>?_⟩;refine⟨ρ1,σ',st1,y,st2,a.ext x1,rp1,e2,λρ2 H2 w x2 rp2 a2=>?_⟩;obtain⟨k,kvs,rfl,h2,rfl,rfl⟩:=zbjo e;obtain⟨p,oo,rfl,g1,g2,_⟩:=zuo rp2 a2 (a1.ext x2) h2;refine⟨p,oo,rfl,g1,?_⟩;rw[g2]
 exact q _ _ _ (x1.trans x2) rp2 (.bl _)⟩
theorem zti{X:Cx}(hu:X.A.units+1<cLine)(hi:JE X i g)(ho:JE X o f):JC X .NotIn i o (aU (oIIn true) g f):=⟨λaW s σ H Q I hq=>by
 refine zxn hu hi.out ho.out aW s σ H Q I ?_;obtain⟨ρ,σ',au,v,st',a,rp,e,q⟩:=hq;obtain⟨x,st1,e1,e⟩:=za e;obtain⟨y,st2,e2,e⟩:=za e;refine⟨ρ,σ',au,x,st1,a,rp,e1,λρ1 H1 u x1 rp1 a1=>?_⟩;refine⟨ρ1,σ',st1,y,st2,a.ext x1,rp1,e2,λρ2 H2 w x2 rp2 a2=>?_⟩;obtain⟨k,kvs,rfl,h2,rfl,rfl⟩:=zbjo e;obtain⟨p,oo,rfl,g1,g2,_⟩:=zuo rp2 a2 (a1.ext x2) h2;refine⟨p,oo,rfl,g1,?_⟩;rw[g2]
 exact q _ _ _ (x1.trans x2) rp2 (.bl _)⟩
section
variable {X:Cx}{a:Expr}{o:Expr}{i:Expr}{e:Expr}{f:SE}{g:SE}{p:Pos}{pos:Pos}
theorem zbky(hu:X.A.units+1<cLine)(ho:JE X o f)(hi:JE X i g)(hs:NoSl i):JE X (.Subscript o i pos) (aU oIGet f g):=⟨zdt (zbab hu ho.out hi.out hs) λτ H Q hq0=>by
 obtain⟨ρ,σ,au,v,st',a,rp,e,q⟩:=hq0;obtain⟨x,st1,e1,e⟩:=za e;obtain⟨y,st2,e2,e⟩:=za e;refine⟨ρ,σ,au,x,st1,a,rp,e1,λρ1 H1 u x1 rp1 a1=>?_⟩;refine⟨ρ1,σ,st1,y,st2,a.ext x1,rp1,e2,λρ2 H2 w x2 rp2 a2=>?_⟩;unfold oIGet at e;split at e
 ·rename_i h1;split at e
  ·rename_i z hv;cases e;obtain⟨p,oo,rfl,g1,_,g2⟩:=zuo rp2 (a1.ext x2) a2 h1;obtain⟨vv,rfl,g3⟩:=g2 _ hv;exact⟨p,vv,rfl,g1,q _ _ _ (x1.trans x2) rp2 g3⟩
  ·cases e
 ·cases e⟩
end
section
variable {X:Cx}{a:Expr}{o:Expr}{i:Expr}{e:Expr}{value:Expr}{f:SE}{g:SE}{h:SE}{n:Nat}{p:Pos}{pos:Pos}{pos':Pos}
theorem zben(hu:X.A.units+1<cLine)(ho:JE X o f)(hi:JE X i g)(hv:JE X value h)(hs:swapsWith value (some (.Subscript o i pos')) pos.line X.env=pure false) :
  JS X (.Assign [.Subscript o i pos'] value pos) (sIPut f g h):=⟨zmq (zzz hu ho.out hi.out hv.out hs) λE τ H hq0=>by
 obtain⟨ρ,σ,au,fl,st',a,rp,e,q⟩:=hq0;obtain⟨v,st1,e1,e⟩:=za e;obtain⟨x,st2,e2,e⟩:=za e;obtain⟨y,st3,e3,e⟩:=za e;refine⟨ρ,σ,au,v,st1,a,rp,e1,λρ1 H1 u x1 rp1 a1=>?_⟩;refine⟨ρ1,σ,st1,x,st2,a.ext x1,rp1,e2,λρ2 H2 w x2 rp2 a2=>?_⟩;refine⟨ρ2,σ,st2,y,st3,a.ext (x1.trans x2),rp2,e3,λρ3 H3 t x3 rp3 a3=>?_⟩;split at e
 ·split at e
  ·rename_i n k _ _ kvs hn;split at e
   ·rename_i hl;cases e;obtain⟨p,rfl,hp,vs,g1,g2⟩:=zfi rp3 (a2.ext x3) hn (by intro z;cases z);cases a3;have E:Ext ρ3 H3 ρ3 (upd H3 p (.dK (putK vs (Sum.inl k) u))):=Ext.wr hp (zbag g1) _;refine⟨p,_,rfl,DPut.k (k:=Sum.inl k) g1 (by rw[← g2.length];exact hl),?_⟩;exact q _ _ _ ((x1.trans (x2.trans x3)).trans E) (rp3.wr hp (zbag g1) ⟨_,zh,(g2.put k (a1.ext (x2.trans x3))).ext E⟩) (a.ext ((x1.trans (x2.trans x3)).trans E))
   ·cases e
  ·cases e
 ·cases e⟩
end
end Dd
namespace Dd
open PySem L2 PyProof.Rows
theorem sv{X:Cx}(hN:X.N[i]?=some x:=by rfl)(hv:Vis X.env.scope x:=by first|exact Or.inl rfl|exact Or.inr (Or.inl rfl)|exact Or.inr (Or.inr rfl))(hd:(x==("__debug__" : Str))=false:=by decide)
 (hcd:(x==("__classdict__" : Str))=false:=by decide):JE X (.Name x pos) (aA i):=zfo (pv i hN hv hd hcd)
theorem scl{X:Cx} (c:CalD X.prog X.w X.K X.mg X.base x k ps F)(hr:Room j X.A)(ha:JA X (e::es) g)(hn:∀ds au v st',F ds au=.ok v st'->ds.length=ps.length:=by exact λ_ _ _ _ h=>zus h)(hk:k<=j:=by first|decide|lia)(hg:Gl X x:=by rfl)
 (hdb:(x==("__debug__" : Str))=false:=by decide)(he:starEach (e::es) X.env=(false,eval e X.env)::starEach es X.env:=by rfl)(hpl:(backTo pos (starEach es X.env)).any (·.1)=false:=by rfl):JE X (.Call (.Name x p) (e::es) [] pos) (aE F g):=zbbe c hn (hr.mono hk) hg ha hdb he hpl
theorem sst{X:Cx}{pos:Pos} (hN:X.N.Nodup)(he:JE X e f)(hi:X.N[i]?=some x:=by rfl)(hx:L2.Loc X.env.scope x:=by first|exact Or.inl rfl|exact Or.inr rfl)(hs:swapsWith e (some (.Name x pos')) pos.line X.env=pure false:=by rfl)(hf:X.fn x=true\/X.env.scope.names.lookup x=some .local:=by first|exact .inl rfl|exact .inr rfl|assumption) :
 JS X (.Assign [.Name x pos'] e pos) (aF i f):=zqb hN hi hx he hs hf
theorem sgn{X:Cx}(hN:X.N.Nodup)(hi:X.N[i]?=some x:=by rfl)(hx:L2.Loc X.env.scope x:=by first|exact Or.inl rfl|exact Or.inr rfl)(hf:X.fn x=true\/X.env.scope.names.lookup x=some .local:=by first|exact .inl rfl|exact .inr rfl|assumption):JG X (.Name x pos) (gN i):=zdk hN hi hx hf
theorem sfr(hi:JI X tg iter it)(hg:JG X tg bd)(hb:JB X body b)(hp:PassesOwn (model X.prog X.w) X.A X.env X.xe:=by exact xhh)(hc:X.calm=true:=by rfl)(hs:∀x,foldedSetIterable iter X.env x=pure x:=by intro _;rfl) :
 JS X (.For tg iter body [] pos) (sFor it bd b):=zbba hp hc hi hg hb hs
theorem scp(N:List Str) (hi:JI X (.Name x p) iter it)(he:∀cl C fp s H,JE (cxC X N scope cl C fp s H) elt f)(nd:N.Nodup:=by decide +kernel)(S:CompScope X N k is scope:=by exact zcw (by rfl))(hcalm:X.calm=true:=by rfl)
  (hg:N.Nodup->∀cl C fp s H,JG (cxC X N scope cl C fp s H) (.Name x p) (gN 0):=by exact λnd _ _ _ _ _=>sgn nd)(hs:∀x,foldedSetIterable iter X.env x=pure x:=by intro _;rfl):JE X (.ListComp elt [⟨.Name x p,iter,[],0⟩] scope pos) (aG it k is (gN 0) aI f) :=
 zmf hcalm hi (hg nd) (λ_ _ _ _ _=>zod) he S hs
theorem sa1(ha:JE X a f)(hp:plainE a=true:=by rfl):JA X [a] (aB f aC):=zl ha zbs hp
theorem sa2(ha:JE X a f)(hb:JE X b g)(hp:plainE a=true:=by rfl)(hq:plainE b=true:=by rfl):JA X [a,b] (aB f (aB g aC)):=zl ha (sa1 hb hq) hp
theorem sad(ha:JE X a f)(hb:JE X b g):JE X (.BinOp a .Add b pos) (aU aN f g):=zec ztn zbdc ha hb
theorem ssb(ha:JE X a f)(hb:JE X b g):JE X (.BinOp a .Sub b pos) (aU oSub f g):=zec zbda (zih λ_ _ _ _=>.int _) ha hb
structure En where
 P:Program
 w:World
 K:Fg
 mg:Str->Option Value
 base:Heap
 h:Heap
 X:K.In h
 G:h.Ns mainGlobals mg
abbrev Cl(Y:En) (x:Str) (k:Nat) (ps:List Str) (F:DFn):Prop:=CalD Y.P Y.w Y.K Y.mg Y.base x k ps F
section
variable {Y:En}{x:Str}{au:Stmt}{ps:List Str}{k:Nat}{b:SS}
theorem cmk(N:List Str)(T:TopF Y.K x au)(hbody:N.Nodup->∀(f:Addr) (cdv:Value) (A:Around) (outer:List Env) (s:Shared) (H:Hp) (E:XK),Room k (A.deeper (envOfC x (defScope au) s.heap.objs.size f cdv))->JB (cxOf CX0 Y.P Y.w Y.K Y.mg Y.base N x (defScope au) f cdv A outer s H E).nox (defBody au) b)
 (S:FnScope N ps (defScope au):=by exact⟨rfl,rfl,rfl,by decide +kernel,rfl,by decide +kernel,by decide +kernel⟩)
 (bd:∀(kV doc pm:Value) (an:Option Addr) (cdv ct:Value) (us:List Value),us.length=ps.length->bindArgs (W.fnOf x x (defArgs au) (defBody au) (defScope au) .none kV doc pm an cdv ct) ⟨us,[]⟩=pure (ps.zip us):=by
  first|exact λ_ _ _ _ _ _ us hl=>len1 us hl λ_=>rfl|exact λ_ _ _ _ _ _ us hl=>len2 us hl λ_ _=>rfl|exact λ_ _ _ _ _ _ us hl=>len3 us hl λ_ _ _=>rfl|exact λ_ _ _ _ _ _ us hl=>len4 us hl λ_ _ _ _=>rfl|exact λ_ _ _ _ _ _ us hl=>len0 us hl rfl) :
 Cl Y x (k+1) ps (fnD N.length ps.length b):=zvp T Y.X Y.G S bd (hbody S.nd)
end
end Dd
namespace L2
open PySem PySem.Spec PyProof.Rows PySem.W
end L2
namespace Dd
open PySem L2 PyProof.Rows
def tXA(K:Fg) (R:RXT) (g:SA):TA:=λτ H Q=>∃ρ σ au,AtS K ρ H σ τ/\Rep K ρ au H/\((∃vs st',g σ au=.ok vs st'/\∀ρ' H' us,Ext ρ H ρ' H'->Rep K ρ' st' H'->AtAll K ρ' H' vs us->Q us H')\/∃x st',g σ au=.exc x st'/\XOk K ρ H st' x (R τ))
structure JXA (X:Cx) (R:RXT) (es:List Expr) (g:SA):Prop where out:PA X es (tXA X.K R g)
def noF(F:DFn):DFn:=λds au=>match F ds au with
 | .exc _ _=>.stuck
 | r=>r
theorem zbdd{F:DFn}{ds:List D}{au st':Store}{v:D}(h:noF F ds au=.ok v st'):F ds au=.ok v st':=by
 unfold noF at h;split at h
 ·cases h
 ·exact h
theorem zbah{F:DFn}{ds:List D}{au st':Store}{x:Exc}(h:noF F ds au=.exc x st'):False:=by
 unfold noF at h;split at h
 ·cases h
 ·rename_i hn;exact hn x st' h
theorem zuv:JXA X R [] aC:=⟨zbmd znj λτ H Q hq0=>by
 obtain⟨ρ,σ,au,a,rp,q⟩:=hq0;rcases q with⟨v,st',e1,q⟩|⟨x,st',e1,_⟩
 ·cases e1;exact q _ _ _ (.refl _ _) rp .nil
 ·cases e1⟩
theorem zht(h:JX X R e f)(hr:JXA X R es g)(hs:starEach (e::es) X.env=(false,eval e X.env)::starEach es X.env:=by rfl):JXA X R (e::es) (aB f g):=⟨zbmd (zfj h.out hr.out hs) λτ H Q hq0=>by
 obtain⟨ρ,σ,au,a,rp,q⟩:=hq0;refine⟨ρ,σ,au,a,rp,?_⟩;unfold aB at q;cases e1:f σ au with
 | stuck=>rw[e1] at q;rcases q with⟨_,_,z,_⟩|⟨_,_,z,_⟩<;>cases z
 | exc y w=>rw[e1] at q;rcases q with⟨_,_,z,_⟩|⟨_,_,z,q⟩<;>cases z;exact .inr ⟨_,_,rfl,q⟩
 | ok v st1 =>
  rw[e1] at q;refine .inl ⟨v,st1,rfl,λρ1 H1 u x1 rp1 a1=>⟨ρ1,σ,st1,a.ext x1,rp1,?_⟩⟩;have q:(∃vs st',(g σ st1).bind (λxs st2=>.ok (v::xs) st2)=.ok vs st'/\∀ρ' H' us,Ext ρ H ρ' H'->Rep X.K ρ' st' H'->AtAll X.K ρ' H' vs us->Q us H')\/∃x st',(g σ st1).bind (λxs st2=>.ok (v::xs) st2)=.exc x st'/\XOk X.K ρ H st' x (R τ):=q
  cases e2:g σ st1 with
  | stuck=>rw[e2] at q;rcases q with⟨_,_,z,_⟩|⟨_,_,z,_⟩<;>cases z
  | exc y w=>rw[e2] at q;rcases q with⟨_,_,z,_⟩|⟨_,_,z,q⟩<;>cases z;exact .inr ⟨_,_,rfl,q.ext x1⟩
  | ok vs st2 =>
   rw[e2] at q;rcases q with⟨_,_,z,q⟩|⟨_,_,z,_⟩<;>cases z
   exact .inl ⟨vs,_,rfl,λρ2 H2 w x2 rp2 a2=>q _ _ _ (x1.trans x2) rp2 (.cons (a1.ext x2) a2)⟩⟩
theorem zbtg(hc:JT X c t)(ha:JX X R a f)(hb:JX X R b f'):JX X R (.IfExp c a b pos) (eIf (noX t) f f'):=⟨zdt (ztf hc.out ha.out hb.out) λτ H Q hq0=>by
 obtain⟨ρ,σ,au,a',rp,q⟩:=hq0;have q:(∃v st',(noX t σ au).bind (λv st1=>if v=true then f σ st1 else f' σ st1)=.ok v st'/\∀ρ' H' u,Ext ρ H ρ' H'->Rep X.K ρ' st' H'->At X.K ρ' H' v u->Q u H')\/∃x st',(noX t σ au).bind (λv st1=>if v=true then f σ st1 else f' σ st1)=.exc x st'/\XOk X.K ρ H st' x (R τ):=q
 obtain⟨v,st1,e1,q⟩:∃v st1,t σ au=.ok v st1/\((∃u st',(if v=true then f σ st1 else f' σ st1)=.ok u st'/\∀ρ' H' w,Ext ρ H ρ' H'->Rep X.K ρ' st' H'->At X.K ρ' H' u w->Q w H')\/∃x st',(if v=true then f σ st1 else f' σ st1)=.exc x st'/\XOk X.K ρ H st' x (R τ)):=by
  rcases q with⟨u,st',e1,q⟩|⟨x,st',e1,q⟩
  ·obtain⟨v,st1,e2,e3⟩:=za e1;exact⟨v,st1,znu e2,.inl ⟨u,st',e3,q⟩⟩
  ·obtain⟨v,st1,e2,e3⟩:=zfu e1;exact⟨v,st1,e2,.inr ⟨x,st',e3,q⟩⟩
 refine⟨ρ,σ,au,v,st1,a',rp,e1,λρ1 H1 x1 rp1=>?_⟩;have q2:((∃u st',(if v=true then f σ st1 else f' σ st1)=.ok u st'/\∀ρ' H' w,Ext ρ1 H1 ρ' H'->Rep X.K ρ' st' H'->At X.K ρ' H' u w->Q w H')\/∃x st',(if v=true then f σ st1 else f' σ st1)=.exc x st'/\XOk X.K ρ1 H1 st' x (R τ)):=by
  rcases q with⟨u,st',e2,q⟩|⟨x,st',e2,q⟩
  ·exact .inl ⟨u,st',e2,λρ' H' w x2=>q ρ' H' w (x1.trans x2)⟩
  ·exact .inr ⟨x,st',e2,q.ext x1⟩
 cases v with
 | true=>exact iteT ⟨ρ1,σ,st1,a'.ext x1,rp1,q2⟩
 | false=>exact iteF ⟨ρ1,σ,st1,a'.ext x1,rp1,q2⟩⟩
theorem zbfo{K:Fg} (h:tX K R (λσ au=>(g σ au).bind B) τ H Q)
  (k:∀ρ1 H1 ds us st1,Rep K ρ1 st1 H1->AtAll K ρ1 H1 ds us->((∃v st',B ds st1=.ok v st'/\∀ρ' H' w,Ext ρ1 H1 ρ' H'->Rep K ρ' st' H'->At K ρ' H' v w->Q w H')\/∃x st',B ds st1=.exc x st'/\XOk K ρ1 H1 st' x (R τ))->Q' us H1):tXA K R g τ H Q':=by
 obtain⟨ρ,σ,au,a,rp,q⟩:=h;refine⟨ρ,σ,au,a,rp,?_⟩;dsimp only at q;cases e1:g σ au with
 | stuck=>rw[e1] at q;rcases q with⟨_,_,z,_⟩|⟨_,_,z,_⟩<;>cases z
 | exc y w=>rw[e1] at q;rcases q with⟨_,_,z,_⟩|⟨_,_,z,q⟩<;>cases z;exact .inr ⟨_,_,rfl,q⟩
 | ok ds st1 =>
  rw[e1] at q;refine .inl ⟨ds,st1,rfl,λρ1 H1 us x1 rp1 a1=>k ρ1 H1 ds us st1 rp1 a1 ?_⟩;rcases q with⟨v,st',e2,q⟩|⟨x,st',e2,q⟩
  ·exact .inl ⟨v,st',e2,λρ' H' w x2=>q ρ' H' w (x1.trans x2)⟩
  ·exact .inr ⟨x,st',e2,q.ext x1⟩
section
variable {X:Cx}{R:RXT}{e:Expr}{es:List Expr}{g:SA}{pos:Pos}{p:Pos}{x:Str}{k:Nat}{ps:List Str}{F:DFn}
theorem zbee(c:CalD X.prog X.w X.K X.mg X.base x k ps F)(hn:∀ ds au v st', F ds au=.ok v st'->ds.length=ps.length)(hr:Room k X.A)(hg:Gl X x)(ha:JXA X R (e::es) g)(hdb:(x==("__debug__" : Str))=false:=by decide)
  (he:starEach (e::es) X.env=(false,eval e X.env)::starEach es X.env:=by rfl)(hpl:(backTo pos (starEach es X.env)).any (·.1)=false:=by rfl):JX X R (.Call (.Name x p) (e::es) [] pos) (aE (noF F) g) :=
 ⟨zdt (ztg c hr hg ha.out hdb he hpl) λτ H Q h=>zbfo (Q':=λus H1=>spD X.K ps.length F (us++[]) H1 Q E0) h λρ1 H1 ds us st1 rp1 a1 q=>by
  rw[xct];rcases q with⟨v,st',e2,q⟩|⟨x,st',e2,q⟩
  ·exact⟨ρ1,ds,st1,v,st',a1,rp1,zbdd e2,by rw[a1.length];exact hn _ _ _ _ (zbdd e2),q⟩
  ·exact(zbah e2).elim⟩
end
theorem zyv{id:String} (hc:CallR X (.builtin id) r)(hr:CaD X.K B r)(hg:Gl X x)(hm:X.mg x=none)(hv:bootBuiltins x=some (.builtin id))(ha:JXA X R (e::es) g)(hn:x≠"__name__":=by decide)(hdb:(x==("__debug__" : Str))=false:=by decide)
  (he:starEach (e::es) X.env=(false,eval e X.env)::starEach es X.env:=by rfl)(hpl:(backTo pos (starEach es X.env)).any (·.1)=false:=by rfl):JX X R (.Call (.Name x p) (e::es) [] pos) (aE (noF B) g) :=
 ⟨zdt (zhh hc hg hm hv ha.out hn hdb he hpl) λτ H Q h=>zbfo h λρ1 H1 ds us st1 rp1 a1 q=>by
  rcases q with⟨v,st',e2,q⟩|⟨x,st',e2,q⟩
  ·exact hr ρ1 H1 st1 ds us v st' Q rp1 a1 (zbdd e2) q
  ·exact(zbah e2).elim⟩
theorem zbef{X:Cx}(c:CalX X.prog X.w X.K X.mg X.base x k ps F)(hw:Wish X R)(hn:∀ ds au,ds.length≠ps.length->F ds au=.stuck)(hr:Room k X.A)(hg:Gl X x)(ha:JXA X R (e::es) g)(hdb:(x==("__debug__" : Str))=false:=by decide)
  (he:starEach (e::es) X.env=(false,eval e X.env)::starEach es X.env:=by rfl)(hpl:(backTo pos (starEach es X.env)).any (·.1)=false:=by rfl):JX X R (.Call (.Name x p) (e::es) [] pos) (aE F g):=by
 obtain⟨fa,fd,G,b,kp,m⟩:=c;refine⟨λaW s τ H Q I h=>?_⟩;refine xfm (zjf I hg m ?_ hdb);refine xjl (h₀:=X.base) I.ok.mod.kin kp (thn (ha.out pos aW s τ H (λvs H1=>∃ρ1 ds st1,Rep X.K ρ1 st1 H1/\AtAll X.K ρ1 H1 ds vs/\((∃v st',F ds st1=.ok v st'/\∀ρ' H' w,Ext ρ1 H1 ρ' H'->Rep X.K ρ' st' H'->At X.K ρ' H' v w->Q w H')\/∃x st',F ds st1=.exc x st'/\XOk X.K ρ1 H1 st' x (R τ))) I (zbfo h λρ1 H1 ds us st1 rp1 a1 q=>⟨ρ1,ds,st1,rp1,a1,q⟩)) λus s1 ⟨vs,H1,I1,r,ρ1,ds,st1,rp1,a1,h1⟩=>⟨I1.kIn,?_⟩) he hpl;have hlen:vs.length=ps.length:=by
  rw[a1.length];by_cases hl:ds.length=ps.length
  ·exact hl
  ·rcases h1 with⟨v,st',e3,_⟩|⟨x,st',e3,_⟩<;>(rw[hn ds st1 hl] at e3;cases e3)
 have r2:Vals vs (us++[]):=by rw[xct];exact r
 refine xiz (xha (G.run X.A X.stack s1 H1 ⟨us,[]⟩ (us++[]) vs Q (R τ) hr I1.env0 (b s1 us I1.kIn (by rw[xct,← r.length];exact hlen)) r2 ⟨ρ1,ds,st1,a1,rp1,hlen,h1⟩) λr s' hq=>?_);cases r with
 | error er =>
  obtain⟨ea,T,C,dx,H',rfl,os,bare,un,hok,Fl,hR⟩:=hq;exact hw aW τ H' ea T C dx s' Fl (I1.call' (ch:=[]) os un hok bare (λ_ z=>nomatch z)) hR
 | ok fl =>
  cases fl with
  | ret u=>exact I1.after hq
  | next=>exact False.elim hq
  | brk=>exact False.elim hq
  | cont=>exact False.elim hq
end Dd
namespace Dd
open PySem L2
def zdl:DFn:=fnD 5 2 (aD (aF 2 (eC (.int 0)))
 (aD (sIf (eB (aU oLtT (aA 1) (aE bLen (aB (aA 0) aC)))) (aF 2 (aE bAbs (aB (aU oIx (aA 0) (aA 1)) aC))) sNx)
 (aD (aF 3 (aU aN (aU oMulI (eC (.int 7919)) (aA 1)) (eC (.int 17))))
 (aD (sFor (iR1 (aB (aE bMin2 (aB (aE bLen (aB (aA 0) aC)) (aB (eC (.int 60)) aC))) aC)) (gN 4) (aF 3 (aU oMod (aU aN (aU aN (aU oMulI (aA 3) (eC (.int 48271))) (aU oMod (aU oIx (aA 0) (aA 4)) (eC (.int 2147483647)))) (aA 4)) (eC (.int 2147483629)))))
 (aD (sIf (eB (aU oLtT (aA 2) (aU oPow (eC (.int 10)) (eC (.int 18))))) (aF 2 (eC (.int 0))) sNx)
 (sRet (eLstM (aB (aA 2) (aB (aA 3) aC)))))))))
def zq:DFn:=fnD 5 2 (aD (sIf (eB (aU oGt (aU oIx (aA 0) (eC (.int 0))) (eC (.int 0)))) (aD (aF 2 (aU oMod (aU oIx (aA 0) (eC (.int 0))) (aA 1)))
 (aD (sSetIx (aA 0) (eC (.int 0)) (aU oFdiv (aU oIx (aA 0) (eC (.int 0))) (aA 1)))
 (sRet (aA 2)))) sNx)
 (aD (aF 3 (eC (.int 0)))
 (aD (aF 4 (eC (.int 1)))
 (aD (sWhile (eB (aU oLtT (aA 4) (aA 1))) (aD (sSetIx (aA 0) (eC (.int 1)) (aU oMod (aU aN (aU oMulI (aU oIx (aA 0) (eC (.int 1))) (eC (.int 48271))) (eC (.int 7919))) (eC (.int 2147483647))))
 (aD (aF 3 (aU aN (aU oMulI (aA 3) (eC (.int 1073741789))) (aU oMod (aU oMulI (aU oFdiv (aU oIx (aA 0) (eC (.int 1))) (eC (.int 8))) (eC (.int 69621))) (eC (.int 1073741789)))))
 (aF 4 (aU oMulI (aA 4) (eC (.int 1073741789)))))))
 (sRet (aU oMod (aA 3) (aA 1)))))))
def zrt:DFn:=fnD 2 2 (sIf (eB (aU (oDIn false) (aA 1) (aA 0))) (sDrop (eDPop (aA 0) (aA 1))) (sDPut (aA 0) (aA 1) (eC (.bl true))))
def zfe:SS:=(sDPut (aA 1) (aA 2) (eNot (eDGet2 (aA 1) (aA 2) (eC (.bl false)))))
def zck:DFn:=fnD 3 1 (aD (aF 1 eDNew)
 (aD (sFor (aH (aA 0)) (gN 2) zfe)
 (sRet (aE bTuple (aB (aE bSorted (aB (aG (iDict (aA 1)) 1 [1] (gN 0) (eTru (aU oDGet (aA 1) (aA 0))) (aA 0)) aC)) aC)))))
def zcl:DFn:=fnD 1 1 (sRet (eAnd (aE bIsinst (aB (aA 0) (aB (eC (.ty "int")) aC))) (eNot (aE bIsinst (aB (aA 0) (aB (eC (.ty "bool")) aC))))))
def zjn:SS:=(aD (sIf (eB (aU oGe (aA 4) (aA 1))) (sDrop (eAppend (aA 3) (aB (aA 4) aC))) sNx)
 (aD (sIf (eB (aU oEq (aA 4) (aA 0))) sBrk sNx)
 (aF 4 (aU oAndI (aU oSub (aA 4) (aA 0)) (aA 0)))))
def zib:DFn:=fnD 5 3 (aD (aF 3 (eLstM aC))
 (aD (aF 4 (eC (.int 0)))
 (aD (sWhile (eB (aU oLe (aA 4) (aA 2))) zjn)
 (sRet (eFz (aA 3))))))
def zcz:SS:=(sDrop (eAppend (aA 3) (aB (aS (aB (aU aN (aA 4) (aS (aB (aU aN (aA 1) (aA 6)) aC))) (aB (aU oSub (aA 5) (aA 6)) aC))) aC)))
def zcy:SS:=(sFor (aH (aE zib (aB (aA 1) (aB (aU oSub (aA 5) (aA 2)) (aB (aA 5) aC))))) (gN 6) zcz)
def zbn:DFn:=fnD 7 3 (aD (aF 3 (eLstM aC))
 (aD (sFor (aH (aA 0)) (gT 2 (gsCons (gN 4) (gsCons (gN 5) gsNil))) zcy)
 (sRet (eFz (aA 3)))))
def zcq:SS:=(aD (sAug 3 (oI (λ_ _=>True) λi j=>.int (i - j)) (aA 4))
 (aF 2 (aE zbn (aB (aA 2) (aB (aA 4) (aB (aA 3) aC))))))
def zbf:DFn:=fnD 5 2 (aD (aF 2 (eLst (aB (aS (aB (aS aC) (aB (aA 1) aC))) aC)))
 (aD (aF 3 (aE bSum (aB (aA 0) aC)))
 (aD (sFor (aH (aA 0)) (gN 4) zcq)
 (sRet (aG (aH (aA 2)) 2 [] (gT 2 (gsCons (gN 0) (gsCons (gN 1) gsNil))) aI (aA 0))))))
def zjp:SS:=(sDrop (aE zrt (aB (aA 2) (aB (aA 4) aC))))
def zjo:SS:=(sIf (eB (aU oLe (aA 1) (aE bSum (aB (aA 3) aC)))) (sFor (aH (aE zbf (aB (aA 3) (aB (aA 1) aC)))) (gN 4) zjp) sNx)
def zic:DFn:=fnD 5 2 (aD (sIf (bOr (bNot (eTru (aE zcl (aB (aA 1) aC)))) (eB (aU oLtT (aA 1) (eC (.int 0))))) sStuck sNx)
 (aD (aF 2 eDNew)
 (aD (sFor (aH (aA 0)) (gN 3) zjo)
 (sRet (aE bTuple (aB (aE bSorted (aB (aA 2) aC)) aC))))))
def zda:SS:=(aD (aF 7 (aE zq (aB (aA 0) (aB (aU aN (aA 3) (eC (.int 1))) aC))))
 (aD (sIf (eB (aU oEq (aA 5) (eC (.int 0)))) (aF 7 (aE (bBest true) (aB (aG (aH (aS (aB (eC (.int 0)) (aB (eC (.int 1)) (aB (eC (.int 3)) (aB (eC (.int 7)) (aB (eC (.int 15)) aC))))))) 1 [7] (gN 0) (eB (aU oLe (aA 0) (aA 1))) (aA 0)) aC))) sNx)
 (aD (sDrop (eAppend (aA 4) (aB (aA 7) aC)))
 (aF 3 (aU oSub (aA 3) (aA 7))))))
def zw:DFn:=fnD 9 3 (aD (aF 3 (aA 2))
 (aD (aF 4 (eLstM aC))
 (aD (aF 5 (aE zq (aB (aA 0) (aB (eC (.int 3)) aC))))
 (aD (sFor (iR1 (aB (aU oSub (aA 1) (eC (.int 1))) aC)) (gN 6) zda)
 (aD (sDrop (eAppend (aA 4) (aB (aA 3) aC)))
 (aD (aF 8 (aE zq (aB (aA 0) (aB (aA 1) aC))))
 (sRet (aE bTuple (aB (aU aN (eSl (aA 4) (pSome (aA 8)) pNone) (eSl (aA 4) pNone (pSome (aA 8)))) aC)))))))))
def zbw:SS:=(aF 2 (aU oFdiv (aU oMulW (aA 2) (aU aN (aA 1) (aA 3))) (aA 3)))
def zg:DFn:=fnD 4 2 (aD (aF 2 (eC (.int 1)))
 (aD (sFor (iR2 (aB (eC (.int 1)) (aB (aA 0) aC))) (gN 3) zbw)
 (sRet (aA 2))))
def zfx:DFn:=fnD 1 1 (sRet (aE bSortSetM (aB (aG (aH (aA 0)) 1 [] (gN 0) aI (aE bSum (aB (aA 0) aC))) aC)))
def zcr:DFn:=fnD 1 1 (sRet (eIf (eB (aU oLe (aA 0) (eC (.int 3)))) (eC (.int 24)) (eC (.int 10))))
def zbc:DFn:=fnD 2 2 (sRet (eAnd (aU oLe (aA 1) (aE zcr (aB (aA 0) aC))) (aU oLe (aE zg (aB (aA 0) (aB (aA 1) aC))) (eC (.int 200)))))
def zeg:DFn:=fnD 2 2 (sRet (eAnd (aU oLe (aA 1) (aU oIx (eLst (aB (eC (.int 10)) (aB (eC (.int 24)) aC))) (aE bInt (aB (aU oLtT (aA 0) (eC (.int 4))) aC)))) (aU oLe (aE zg (aB (aA 0) (aB (aA 1) aC))) (eC (.int 200)))))
def zbu:DFn:=fnD 1 1 (aD (sIf (noX (bOr (bNot (eTru (aE zcl (aB (aA 0) aC)))) (eB (aU oLtT (aA 0) (eC (.int 0)))))) (sRaise "NoPart" (noX (aB (eC (.str "a degree is a whole number from 0 on")) aC))) (noX sNx))
 (noX (sRet (aA 0))))
def zbv:DFn->SS:=λfF=>(sDrop (eExtend (aA 2) (aB (aG (aH (aE fF (aB (aU oSub (aA 0) (eC (.int 1))) (aB (aU oSub (aA 1) (aA 3)) aC)))) 1 [3] (gN 0) aI (aU aN (aS (aB (aA 1) aC)) (aA 0))) aC)))
def zm:DFn->DFn:=λfF=>fnD 4 2 (aD (sIf (eB (aU oEq (aA 0) (eC (.int 1)))) (sRet (eLst (aB (aS (aB (aA 1) aC)) aC))) sNx)
 (aD (aF 2 (eLstM aC))
 (aD (sFor (iR1 (aB (aU aN (aA 1) (eC (.int 1))) aC)) (gN 3) (zbv fF))
 (sRet (eFz (aA 2))))))
def zdq:SS:=(aD (sDrop (eAppend (aA 1) (aB (aA 2) aC)))
 (aF 2 (aU oMulI (eC (.int 2)) (aA 2))))
def zbt:DFn:=fnD 3 1 (aD (aF 1 (eLstM aC))
 (aD (aF 2 (eC (.int 1)))
 (aD (sWhile (eB (aU oLe (aU oMulI (eC (.int 2)) (aA 2)) (aA 0))) zdq)
 (sRet (eFz (aA 1))))))
def zcj:SS:=(sDrop (eExtend (aA 2) (aB (aG (aH (aE (iterF zm 10) (aB (aA 0) (aB (aU oSub (aA 1) (aA 3)) aC)))) 1 [3] (gN 0) aI (aS (aB (aA 1) (aB (aA 0) aC)))) aC)))
def zbb:DFn:=fnD 4 2 (aD (aF 2 (eLstM aC))
 (aD (sFor (aH (aE zbt (aB (aA 1) aC))) (gN 3) zcj)
 (sRet (eFz (aA 2)))))
def zgn:SS:=(aD (aF 3 (aU oIGet (aA 0) (eBits (aA 1))))
 (aD (aF 1 (aU oXorI (aA 1) (aU oIx (aA 3) (eC (.int 0)))))
 (aF 2 (aU oXorI (aA 2) (aU oIx (aA 3) (eC (.int 1)))))))
def zef:DFn:=fnD 4 2 (aD (aF 2 (eC (.int 0)))
 (aD (sWhile (bAnd (eTru (aA 1)) (eB (aU (oIIn false) (eBits (aA 1)) (aA 0)))) zgn)
 (sRet (aS (aB (aA 1) (aB (aA 2) aC))))))
def zfy:SS:=(aF 2 (aU oOrI (aA 2) (aU oShl (eC (.int 1)) (aU oDGet (aA 0) (aA 3)))))
def zdc:DFn:=fnD 4 2 (aD (aF 2 (eC (.int 0)))
 (aD (sFor (aH (aA 1)) (gN 3) zfy)
 (sRet (aA 2))))
def zfz:SS:=(aD (aF 7 (aE zef (aB (aA 3) (aB (aE zdc (aB (aA 2) (aB (aE zic (aB (aS (aB (aA 6) aC)) (aB (aA 5) aC))) aC))) aC))))
 (sIf (eTru (aU oIx (aA 7) (eC (.int 0)))) (aD (sIPut (aA 3) (eBits (aU oIx (aA 7) (eC (.int 0)))) (aS (aB (aU oIx (aA 7) (eC (.int 0))) (aB (aU oOrI (aU oIx (aA 7) (eC (.int 1))) (aU oShl (eC (.int 1)) (aE bLen (aB (aA 4) aC)))) aC))))
 (sDrop (eAppend (aA 4) (aB (aS (aB (aA 5) (aB (aA 6) aC))) aC)))) sNx))
def zdd:DFn:=fnD 8 3 (aD (aF 3 eDNewI)
 (aD (aF 4 (eLstM aC))
 (aD (sFor (aH (aE zbb (aB (aA 0) (aB (aA 1) aC)))) (gT 2 (gsCons (gN 5) (gsCons (gN 6) gsNil))) zfz)
 (sRet (aS (aB (aA 3) (aB (eFz (aA 4)) aC)))))))
def zfw:SS:=(sDPut (aA 1) (aA 3) (aA 2))
def zcx:DFn:=fnD 4 1 (aD (aF 1 eDNew)
 (aD (sFor (iEn0 (aA 0)) (gT 2 (gsCons (gN 2) (gsCons (gN 3) gsNil))) zfw)
 (sRet (aA 1))))
def zgo:SS:=(aF 1 (aU aN (aA 1) (eC (.int 1))))
def zdb:DFn:=fnD 2 1 (aD (aF 1 (eC (.int 0)))
 (aD (sWhile (eTru (aE zeg (aB (aA 0) (aB (aA 1) aC)))) zgo)
 (sRet (aA 1))))
def zbo:DFn:=fnD 2 2 (aD (sIf (noX (bNot (eTru (aE zbc (aB (aA 0) (aB (aA 1) aC)))))) (sRaise "TooMany" (noX (aB (eC (.str "sums are judged of small degrees with at most two hundred products")) aC))) (noX sNx))
 (noX (sRet (aA 1))))
def zo:DFn:=fnD 3 2 (aD (noX (aF 2 (aE zfx (aB (aA 1) aC))))
 (aD (sIf (noX (eB (aU oGt (aE bLen (aB (aA 2) aC)) (eC (.int 1))))) (sRaise "Unlike" (noX (aB (eC (.str "the products have unlike degrees")) aC))) (noX sNx))
 (sRet (eIf (noX (eTru (aA 2))) (aE zbo (noX (aB (aA 0) (aB (aU oIx (aA 2) (eC (.int 0))) aC)))) (noX (eC .non))))))
def zdm:DFn:=fnD 8 2 (aD (aF 2 (aE zo (noX (aB (aA 0) (aB (aA 1) aC)))))
 sStuck)
def zcm:DFn:=fnD 3 2 (aD (aF 2 (aE zo (noX (aB (aA 0) (aB (aA 1) aC)))))
 sStuck)
def zbp:DFn:=fnD 4 2 (aD (aF 2 (aE (noF (iterF zm 10)) (aB (noX (aA 0)) (aB (aE zbo (aB (noX (aA 0)) (aB (aE zbu (noX (aB (aA 1) aC))) aC))) aC))))
 (noX (aD (aF 3 (aU oIx (aE zdd (aB (aA 0) (aB (aA 1) (aB (aE zcx (aB (aA 2) aC)) aC)))) (eC (.int 0))))
 (sRet (eCompM (iEn0 (aA 2)) 2 [3] (gT 2 (gsCons (gN 0) (gsCons (gN 1) gsNil))) (eB (aU (oIIn true) (aU aN (aA 0) (eC (.int 1))) (aA 2))) (aA 1))))))
def zu:DFn:=fnD 2 2 (sRet (aE (noF bLen) (aB (aE zbp (noX (aB (aA 0) (aB (aA 1) aC)))) aC)))
def zx:(Store->Res D)->SS:=λg=>(aD (sTry 3 ["NoPart","TooMany","Unlike"] (sDrop λ_=>g) (aD (aF 1 (eLst (aB (eIsB 3 [("NoPart", true),("TooMany", false),("Unlike", false)]) (aB (eIsB 3 [("NoPart", false),("TooMany", true),("Unlike", false)]) (aB (eIsB 3 [("NoPart", false),("TooMany", false),("Unlike", true)]) aC)))))
 (aD (aF 2 (eIsB 3 [("NoPart", false),("TooMany", false),("Unlike", false)]))
 (aD (sIf (bOr (eTru (aA 2)) (bOr (eB (aU oNe (eCountB (aA 1) (aB (eC (.bl true)) aC)) (eC (.int 1)))) (bNot (eTru (eIsB 3 [("NoPart", true),("TooMany", true),("Unlike", true)]))))) (sRet (eC (.str "another"))) sNx)
 (sRet (aU oIx (eLst (aB (eC (.str "part")) (aB (eC (.str "many")) (aB (eC (.str "unlike")) aC)))) (eIndexB (aA 1) (aB (eC (.bl true)) aC))))))))
 (sRet (eC (.str "told"))))
def zi:(Store->Res D)->DFn:=λg=>fnD 4 1 (zx g)
def zwe:SS:=(aD (aF 2 (aE zdl (aB (aA 0) (aB (aA 1) aC))))
 (aD (aF 3 (aU aN (eC (.int 1)) (aE zq (aB (aA 2) (aB (eC (.int 10)) aC)))))
 (aD (aF 4 (aE zdb (aB (aA 3) aC)))
 (aD (aF 5 (aU oIx (eLst (aB (eC (.int 10)) (aB (eC (.int 24)) aC))) (aE bInt (aB (aU oLtT (aA 3) (eC (.int 4))) aC))))
 (aD (aF 6 (aE zq (aB (aA 2) (aB (aA 5) aC))))
 (aD (aF 7 (aU aN (aU aN (aA 6) (eC (.int 1))) (aE zq (aB (aA 2) (aB (aU oSub (aA 5) (aA 6)) aC)))))
 (aD (aF 8 (aE zck (aB (eLst (aB (aE zw (aB (aA 2) (aB (aA 3) (aB (aA 6) aC)))) (aB (aE zw (aB (aA 2) (aB (aA 3) (aB (aA 7) aC)))) aC))) aC)))
 (aD (aF 9 (eLstM (aB (eRefd zi [3,8] (aE zdm (noX (aB (aA 0) (aB (aA 1) aC))))) aC)))
 (aD (sDrop (eAppend (aA 9) (aB (eRefd zi [3,8] (aE zcm (noX (aB (aA 0) (aB (aA 1) aC))))) aC)))
 (aD (sIf (eB (aU oLe (aA 4) (aA 5))) (aD (aF 10 (aS (aB (aE zw (aB (aA 2) (aB (aA 3) (aB (aU aN (aA 4) (aE zq (aB (aA 2) (aB (aU aN (aU oSub (aA 5) (aA 4)) (eC (.int 1))) aC)))) aC)))) aC)))
 (aD (sIf (eB (aU oNe (eRefd zi [3,10] (aE zdm (noX (aB (aA 0) (aB (aA 1) aC))))) (eC (.str "many")))) (sRet (eC (.bl false))) sNx)
 (sIf (eB (aU oNe (eRefd zi [3,10] (aE zcm (noX (aB (aA 0) (aB (aA 1) aC))))) (eC (.str "many")))) (sRet (eC (.bl false))) sNx))) sNx)
 (aD (aF 11 (aU oIx (eLst (aB (aA 4) (aB (aU aN (aA 4) (aE zq (aB (aA 2) (aB (aU oPow (eC (.int 10)) (eC (.int 39))) aC)))) aC))) (aE zq (aB (aA 2) (aB (eC (.int 2)) aC)))))
 (aD (sDrop (eAppend (aA 9) (aB (eRefd zi [3,11] (aE zu (noX (aB (aA 0) (aB (aA 1) aC))))) aC)))
 (aD (sDrop (eAppend (aA 9) (aB (eRefd zi [3,11] (aE zbp (noX (aB (aA 0) (aB (aA 1) aC))))) aC)))
 (aD (sIf (eB (aU oNe (aA 9) (eLst (aB (eC (.str "unlike")) (aB (eC (.str "unlike")) (aB (eC (.str "many")) (aB (eC (.str "many")) aC))))))) (sRet (eC (.bl false))) sNx)
 (sIf (bAnd (eB (aU oEq (aA 1) (eC (.int 0)))) (eB (aU oNe (eRefd zi [3,4] (aE zu (noX (aB (aA 0) (aB (aU oSub (aA 1) (eC (.int 1))) aC))))) (eC (.str "told"))))) (sRet (eC (.bl false))) sNx)))))))))))))))
def zbrg:DFn:=fnD 12 1 (aD (sFor (iR1 (aB (aU aN (aE bMin2 (aB (eC (.int 5)) (aB (aE bLen (aB (aA 0) aC)) aC))) (eC (.int 1))) aC)) (gN 1) zwe)
 (sRet (eC (.bl true))))
noncomputable def RngOk(j:Int):Prop:=-(2 ^ 62)<=j/\j<2 ^ 62
instance (j:Int):Decidable (RngOk j):=by unfold RngOk;infer_instance
theorem rngOk(h1:-1000000000000<=j)(h2:j<=1000000000000):RngOk j:=⟨by lia,by lia⟩
@[simp] theorem eC_v :eC d σ au=.ok d au:=rfl
@[simp] theorem zbpe :aA i σ au=(match σ[i]? with
 | some (some d)=>.ok d au
 | _=>.stuck):=rfl
@[simp] theorem zbtd :aU g f f' σ au=(f σ au).bind λx st1=>(f' σ st1).bind λy st2=>g x y st2:=rfl
@[simp] theorem zbuc :eUn g f σ au=(f σ au).bind λx st1=>g x st1:=rfl
@[simp] theorem zbax :aE g f σ au=(f σ au).bind λxs st1=>g xs st1:=rfl
@[simp] theorem zbre:aC σ au=.ok [] au:=rfl
@[simp] theorem zwd :aB f g σ au=(f σ au).bind λx st1=>(g σ st1).bind λxs st2=>.ok (x::xs) st2:=rfl
@[simp] theorem eB_v :eB f σ au=(f σ au).bind λv st1=>(match v with
 | .bl b=>.ok b st1
 | _=>.stuck):=rfl
@[simp] theorem zbkd :eTru f σ au=(f σ au).bind λv st1=>(match tru st1 v with
 | some b=>.ok b st1
 | none=>.stuck):=rfl
@[simp] theorem zbpi :eAnd f f' σ au=(f σ au).bind λv st1=>(match v with
 | .bl true=>f' σ st1
 | .bl false=>.ok (.bl false) st1
 | _=>.stuck):=rfl
@[simp] theorem zbtc :eOr f f' σ au=(f σ au).bind λv st1=>(match v with
 | .bl true=>.ok (.bl true) st1
 | .bl false=>f' σ st1
 | _=>.stuck):=rfl
@[simp] theorem zbke :eNot f σ au=(f σ au).bind λv st1=>(match v with
 | .bl b=>.ok (.bl (!b)) st1
 | _=>.stuck):=rfl
@[simp] theorem zbrb :bAnd f f' σ au=(f σ au).bind λb st1=>if b=true then f' σ st1 else .ok false st1:=rfl
@[simp] theorem zbty :bOr f f' σ au=(f σ au).bind λb st1=>if b=true then .ok true st1 else f' σ st1:=rfl
@[simp] theorem zbtz :bNot f σ au=(f σ au).bind λb st1=>.ok (!b) st1:=rfl
@[simp] theorem zbtx:aI σ au=.ok true au:=rfl
@[simp] theorem zbte :eIf c f f' σ au=(c σ au).bind λb st1=>if b=true then f σ st1 else f' σ st1:=rfl
@[simp] theorem zbpf :aS g σ au=(g σ au).bind λxs st1=>if xs.length<=sizeLine then .ok (.tup xs) st1 else .stuck:=rfl
@[simp] theorem zbpg :eLst g σ au=(g σ au).bind λxs st1=>if xs.length<=sizeLine then .ok (.lst xs) st1 else .stuck:=rfl
@[simp] theorem zbkf :eLstM g σ au=(g σ au).bind λxs st1=>if xs.length<=sizeLine then .ok (.ref st1.length) (st1++[.lst xs]) else .stuck:=rfl
@[simp] theorem zbph :eChain g g' f f' f'' σ au=(f σ au).bind λx st1=>(f' σ st1).bind λy st2=>(g x y st2).bind λz st3=>(match z with
 | .bl true=>(f'' σ st3).bind λw st4=>g' y w st4
 | .bl false=>.ok (.bl false) st3
 | _=>.stuck):=rfl
@[simp] theorem zbsa:eDNew σ au=.ok (.ref au.length) (au++[.dT []]):=rfl
@[simp] theorem zbub:sNx σ au=.ok (.nx σ) au:=rfl
@[simp] theorem zbsl:sBrk σ au=.ok (.brk σ) au:=rfl
@[simp] theorem zbmx :sRet f σ au=(f σ au).bind λv st1=>.ok (.ret v) st1:=rfl
@[simp] theorem zbrl:sRetN σ au=.ok (.ret .non) au:=rfl
@[simp] theorem zbrm :sDrop f σ au=(f σ au).bind λ_ st1=>.ok (.nx σ) st1:=rfl
@[simp] theorem zbsi :aF i f σ au=(f σ au).bind λv st1=>.ok (.nx (σ.set i (some v))) st1:=rfl
@[simp] theorem zbmw :aD s t σ au=(match s σ au with
 | .ok (.nx σ1) st1=>t σ1 st1
 | r=>r):=rfl
@[simp] theorem zbsj :sIf c s t σ au=(c σ au).bind λb st1=>if b=true then s σ st1 else t σ st1:=rfl
@[simp] theorem zbmz :sAug i g f σ au=(match σ[i]? with
 | some (some x)=>(f σ au).bind λy st1=>(g x y st1).bind λz st2=>.ok (.nx (σ.set i (some z))) st2
 | _=>.stuck):=rfl
@[simp] theorem zbsk :sFor it bd body σ au=(it σ au).bind λxs st1=>forF bd body xs σ st1:=rfl
@[simp] theorem zboy :aH f σ au=(f σ au).bind λx st1=>(match seqV x with
 | some xs=>.ok xs st1
 | none=>.stuck):=rfl
@[simp] theorem zbta :iR1 g σ au=(g σ au).bind λxs st1=>(match xs with
 | [.int j]=>if RngOk j then .ok (rng 0 j.toNat) st1 else .stuck
 | _=>.stuck):=rfl
@[simp] theorem zbsz : iR2 g σ au=(g σ au).bind λxs st1=>(match xs with
  | [.int i,.int j]=>if RngOk i/\RngOk j then .ok (rng i (j - i).toNat) st1 else .stuck
  | _=>.stuck):=by
  show(g σ au).bind _=_
  congr 1
  funext xs st1
  split
  · unfold RngOk
    simp only[and_assoc]
  · rename_i h
    first
      | rfl
      | (split
         · rename_i i j
           exact absurd rfl (h i j)
         · rfl)
@[simp] theorem zbrw :iDict f σ au=(f σ au).bind λx st1=>(match x with
 | .ref n=>(match st1[n]? with
  | some (.dT kvs)=>.ok (aJ (kvs.map (·.1))) (st1.set n (.fT kvs))
  | _=>.stuck)
 | _=>.stuck):=rfl
@[simp] theorem zbaw :aG it k is bd c f σ au=(it σ au).bind λxs st1=>if xs.length<=sizeLine then(compF bd c f xs (aV k is σ) st1).bind λys st2=>.ok (.lst ys) st2 else .stuck:=rfl
@[simp] theorem zbtf :eFz f σ au=(f σ au).bind λx st1=>(match x with
 | .ref n=>(match st1[n]? with
  | some (.lst xs)=>.ok (.lst xs) (st1.set n .dead)
  | _=>.stuck)
 | _=>.stuck):=rfl
@[simp] theorem zbrr:pNone σ au=.ok none au:=rfl
@[simp] theorem zbib :pSome f σ au=(f σ au).bind λv st1=>(match v with
 | .int i=>.ok (some i) st1
 | _=>.stuck):=rfl
@[simp] theorem zbtb {lo:DS->Store->Res (Option Int)}:eSl f lo hi σ au=(f σ au).bind λx st1=>(lo σ st1).bind λl st2=>(hi σ st2).bind λh st3=>(match x with
 | .tup xs=>.ok (.tup (cutD xs l h)) st3
 | x=>match asL st3 x with
  | some xs=>.ok (.lst (cutD xs l h)) st3
  | none=>.stuck):=rfl
@[simp] theorem zyu :eAppend f g σ au=(f σ au).bind λx st1=>(match x,asL st1 x with
 | .ref n,some _=>(g σ st1).bind λys st2=>(match ys,st2[n]? with
  | [y],some (.lst xs)=>if xs.length<sizeLine then .ok .non (st2.set n (.lst (xs++[y]))) else .stuck
  | _,_=>.stuck)
 | _,_=>.stuck):=rfl
@[simp] theorem zyt :eExtend f g σ au=(f σ au).bind λx st1=>(match x,asL st1 x with
 | .ref n,some _=>(g σ st1).bind λys st2=>(match ys,st2[n]? with
  | [y],some (.lst xs)=>(match asL st2 y with
   | some zs=>if xs.length+zs.length<=sizeLine then .ok .non (st2.set n (.lst (xs++zs))) else .stuck
   | none=>.stuck)
  | _,_=>.stuck)
 | _,_=>.stuck):=rfl
@[simp] theorem zbcc :sSetIx f g h σ au=(h σ au).bind λv st1=>(f σ st1).bind λx st2=>(g σ st2).bind λy st3=>(match x,y with
 | .ref n,.int k=>(match st3[n]? with
  | some (.lst xs)=>(match ixN xs.length k with
   | some j=>.ok (.nx σ) (st3.set n (.lst (xs.set j v)))
   | none=>.stuck)
  | _=>.stuck)
 | _,_=>.stuck):=rfl
@[simp] theorem zbed :eDGet2 f g h σ au=(f σ au).bind λx st1=>(match pairsOf st1 x with
 | some _=>(g σ st1).bind λy st2=>(h σ st2).bind λz st3=>(match pairsOf st3 x,keyOf y with
  | some kvs,some k=>.ok ((valD kvs k).getD z) st3
  | _,_=>.stuck)
 | none=>.stuck):=rfl
@[simp] theorem zbrz :eDPop f g σ au=(f σ au).bind λx st1=>(match pairsOf st1 x with
 | some _=>(g σ st1).bind λy st2=>(match x,keyOf y with
  | .ref n,some k=>(match st2[n]? with
   | some (.dT kvs)=>(match valD kvs k with
    | some v=>.ok v (st2.set n (.dT (dropD kvs k)))
    | none=>.stuck)
   | _=>.stuck)
  | _,_=>.stuck)
 | none=>.stuck):=rfl
@[simp] theorem zbha :sDPut f g h σ au=(h σ au).bind λv st1=>(f σ st1).bind λx st2=>(g σ st2).bind λy st3=>(match x,keyOf y with
 | .ref n,some k=>(match st3[n]? with
  | some (.dT kvs)=>if kvs.length<sizeLine then .ok (.nx σ) (st3.set n (.dT (putD kvs k v))) else .stuck
  | _=>.stuck)
 | _,_=>.stuck):=rfl
theorem zbry :fnD n np b ds au=if ds.length=np then(match b (ds.map some++List.replicate (n - np) none) au with
 | .ok (.ret v) st'=>.ok v st'
 | .ok (.nx _) st'=>.ok .non st'
 | .exc x st'=>.exc x st'
 | _=>.stuck) else .stuck:=rfl
@[simp] theorem oI_v [DecidableRel C] :oI C h (.int i) (.int j) au=if C i j then .ok (h i j) au else .stuck:=rfl
@[simp] theorem zbsy:aN (.int i) (.int j) au=.ok (.int (i+j)) au:=rfl
@[simp] theorem zbod :aN (.tup a) (.tup b) au=if a.length+b.length<=sizeLine then .ok (.tup (a++b)) au else .stuck:=rfl
@[simp] theorem zbsv:oLtT (.int i) (.int j) au=.ok (.bl (decide (i<j))) au:=rfl
@[simp] theorem zbst:oNeg (.int i) au=.ok (.int (-i)) au:=rfl
@[simp] theorem zci (ns:List Int):asInts (ns.map .int)=some ns:=by
 induction ns with
 | nil=>rfl
 | cons n ns ih=>rw[xca,asInts,ih];rfl
@[simp] theorem zblv (l:List (List Int)):asRows (aJ l)=some l:=by
 induction l with
 | nil=>rfl
 | cons n ns ih =>
  unfold aJ at ih ⊢;rw[xca,asRows,zci,ih];rfl
@[simp] theorem zek (ns:List Int):keyOf (aM ns)=some ns:=zci ns
theorem zkn:dataOf au (.int i)=some (.int i):=rfl
@[simp] theorem zbsx:oEq (.int i) (.int j) au=.ok (.bl (decide (i=j))) au:=by
 show oEqG false (.int i) (.int j) au=_;unfold oEqG;rw[zkn,zkn];dsimp only;rw[if_pos ⟨rfl,rfl⟩];show Res.ok (D.bl (i==j)) au=_;rw[show(i==j)=decide (i=j) from by rw[xjg];simp]
@[simp] theorem zbsu:oNe (.int i) (.int j) au=.ok (.bl (!decide (i=j))) au:=by
 show oEqG true (.int i) (.int j) au=_;unfold oEqG;rw[zkn,zkn];dsimp only;rw[if_pos ⟨rfl,rfl⟩];show Res.ok (D.bl (!(i==j))) au=_;rw[show(i==j)=decide (i=j) from by rw[xjg];simp]
abbrev aK(l:List (List Int)):D:=.tup (aJ l)
theorem small(n:Nat)(h:n<=1000000):n<=sizeLine:=by rw[xgg];lia
theorem smallT(n:Nat)(h:n<=1000000):n<sizeLine:=by rw[xgg];lia
theorem zbat(I:Nat->DS->Store->Prop):∀(xs:List D) (k:Nat) (σ:DS) (au:Store),I k σ au ->
  (∀i x σ au,xs[i]?=some x->I (k+i) σ au->∃σ1 σ2 st2,bd x σ=some σ1/\body σ1 au=.ok (.nx σ2) st2/\I (k+i+1) σ2 st2)->∃σ' st',forF bd body xs σ au=.ok (.nx σ') st'/\I (k+xs.length) σ' st'
 | [],k,σ,au,h,_=>⟨σ,au,rfl,h⟩
 | x::xs,k,σ,au,h,s=>by
  obtain⟨σ1,σ2,st2,e1,e2,h2⟩:=s 0 x σ au rfl h;obtain⟨σ',st',e3,h3⟩:=zbat I xs (k+1) σ2 st2 h2 λi y σ au hy hi=>by
   have:=s (i+1) y σ au (by simpa using hy) (by rw[show k+(i+1)=k+1+i by lia];exact hi);rw[show k+(i+1)+1=k+1+i+1 by lia] at this;exact this
  refine⟨σ',st',?_,by rw[xbx,show k+(xs.length+1)=k+1+xs.length by lia];exact h3⟩;unfold forF;rw[e1];dsimp only;rw[e2];exact e3
theorem zbju(I:Nat->DS->Store->Prop) (h0:I 0 σ au)
  (s:∀i x σ au,xs[i]?=some x->I i σ au->∃σ1 σ2 st2,bd x σ=some σ1/\body σ1 au=.ok (.nx σ2) st2/\I (i+1) σ2 st2):∃σ' st',forF bd body xs σ au=.ok (.nx σ') st'/\I xs.length σ' st':=by
 have:=zbat I xs 0 σ au h0 λi x σ au hx hi=>by
  rw[xdr] at hi ⊢;exact s i x σ au hx hi
 rw[xdr] at this;exact this
theorem zbnb{lo:Int} (h:(rng lo n)[i]?=some x):i<n/\x=.int (lo+i):=zlj h
theorem zli(lo:Int)(n:Nat):(rng lo n).length=n:=by simp[rng]
theorem zof(I:Nat->List D->DS->Store->Prop):∀(xs:List D) (k:Nat) (acc:List D) (σ:DS) (au:Store),I k acc σ au ->
  (∀i x acc σ au,xs[i]?=some x->I (k+i) acc σ au->∃σ1 b st1,bd x σ=some σ1/\c σ1 au=.ok b st1/\((b=false/\I (k+i+1) acc σ1 st1)\/(b=true/\∃y st2,f σ1 st1=.ok y st2/\I (k+i+1) (acc++[y]) σ1 st2))) ->
  ∃ys σ' st',compF bd c f xs σ au=.ok ys st'/\I (k+xs.length) (acc++ys) σ' st'
 | [],k,acc,σ,au,h,_=>⟨[],σ,au,rfl,by rw[xct];exact h⟩
 | x::xs,k,acc,σ,au,h,s=>by
  have s':∀i y acc σ au,xs[i]?=some y->I (k+1+i) acc σ au->∃σ1 b st1,bd y σ=some σ1/\c σ1 au=.ok b st1/\((b=false/\I (k+1+i+1) acc σ1 st1)\/(b=true/\∃z st2,f σ1 st1=.ok z st2/\I (k+1+i+1) (acc++[z]) σ1 st2)):=λi y acc σ au hy hi=>by
   have:=s (i+1) y acc σ au (by simpa using hy) (by rw[show k+(i+1)=k+1+i by lia];exact hi);rw[show k+(i+1)+1=k+1+i+1 by lia] at this;exact this
  obtain⟨σ1,b,st1,e1,e2,h2⟩:=s 0 x acc σ au rfl h;rcases h2 with⟨rfl,h2⟩|⟨rfl,y,st2,e3,h2⟩
  ·obtain⟨ys,σ',st',e4,h3⟩:=zof I xs (k+1) acc σ1 st1 h2 s';refine⟨ys,σ',st',?_,by rw[xbx,show k+(xs.length+1)=k+1+xs.length by lia];exact h3⟩;unfold compF;rw[e1];dsimp only;rw[e2];exact e4
  ·obtain⟨ys,σ',st',e4,h3⟩:=zof I xs (k+1) (acc++[y]) σ1 st2 h2 s';refine⟨y::ys,σ',st',?_,by rw[xbx,show k+(xs.length+1)=k+1+xs.length by lia];rw[xcj] at h3;exact h3⟩;unfold compF;rw[e1];dsimp only;rw[e2];dsimp only[zft];rw[if_pos rfl,e3];dsimp only[zft];rw[e4]
   rfl
theorem zblh(I:Nat->List D->DS->Store->Prop) (h0:I 0 [] σ au)
  (s:∀i x acc σ au,xs[i]?=some x->I i acc σ au->∃σ1 b st1,bd x σ=some σ1/\c σ1 au=.ok b st1/\((b=false/\I (i+1) acc σ1 st1)\/(b=true/\∃y st2,f σ1 st1=.ok y st2/\I (i+1) (acc++[y]) σ1 st2))) :
  ∃ys σ' st',compF bd c f xs σ au=.ok ys st'/\I xs.length ys σ' st':=by
 have:=zof I xs 0 [] σ au h0 λi x acc σ au hx hi=>by
  rw[xdr] at hi ⊢;exact s i x acc σ au hx hi
 rw[xdr] at this
 simpa using this
theorem zwi(I:Nat->DS->Store->Prop)(post:DS->Store->Prop) (h0:I k σ au)(hm:k<wCap)
  (s:∀j σ au,I j σ au->∃b st1,c σ au=.ok b st1/\((b=false/\post σ st1)\/(b=true/\∃i σ2 st2,body σ st1=.ok (.nx σ2) st2/\I i σ2 st2/\i<j))):∃σ' st',sWhile c body σ au=.ok (.nx σ') st'/\post σ' st':=by
 have main:∀n j σ au,I j σ au->j<n->∃σ' st',whileF c body n σ au=.ok (.nx σ') st'/\post σ' st':=by
  intro n
  induction n with
  | zero=>intro j σ au _ h;lia
  | succ n ih =>
   intro j σ au hI hlt;obtain⟨b,st1,e1,h⟩:=s j σ au hI;unfold whileF;rw[e1];dsimp only[zft];rcases h with⟨rfl,h⟩|⟨rfl,i,σ2,st2,e2,h2,h3⟩
   ·exact⟨σ,st1,by rw[if_neg (by decide)],h⟩
   ·obtain⟨σ',st',e3,h4⟩:=ih i σ2 st2 h2 (by lia);refine⟨σ',st',?_,h4⟩;rw[if_pos rfl,e2];exact e3
 exact main wCap k σ au h0 hm
@[simp] theorem zbly:seqOf au (.tup xs)=some xs:=rfl
@[simp] theorem zblz:seqOf au (.scr xs)=some xs:=rfl
@[simp] theorem zbma:seqOf au (.lst xs)=some xs:=rfl
@[simp] theorem zbmt:seqV (.tup xs)=some xs:=rfl
@[simp] theorem zbmv:seqV (.lst xs)=some xs:=rfl
@[simp] theorem zbmu:seqV (.scr xs)=some xs:=rfl
@[simp] theorem zbse:asL au (.lst xs)=some xs:=rfl
theorem zjm(h:au[n]?=some (.lst xs)):asL au (.ref n)=some xs:=by
 unfold asL;dsimp only;rw[h]
theorem zpb(h:au[n]?=some (.lst xs)):seqOf au (.ref n)=some xs:=zjm h
theorem ztt(h:seqOf au x=some xs)(h2:L2.atI xs i=some d):oIx x (.int i) au=.ok d au:=by
 unfold oIx;rw[h];dsimp only;rw[h2]
@[simp] theorem zbqy:bLen [.tup xs] au=.ok (.int xs.length) au:=rfl
@[simp] theorem zbra:bLen [.lst xs] au=.ok (.int xs.length) au:=rfl
@[simp] theorem zbqz:bLen [.scr xs] au=.ok (.int xs.length) au:=rfl
@[simp] theorem zbua:bAbs [.int i] au=.ok (.int (if i<0 then -i else i)) au:=rfl
@[simp] theorem zbud :b2I g [.int i,.int j] au=.ok (.int (g i j)) au:=rfl
@[simp] theorem zbqx :bSum [aM ns] au=.ok (.int ns.sum) au:=by
 unfold bSum;simp
@[simp] theorem zbls:bTuple [.tup xs] au=.ok (.tup xs) au:=rfl
@[simp] theorem zvw:bTuple [.lst xs] au=.ok (.tup xs) au:=rfl
theorem zom{l:List (List Int)}(h:l.length<=1000000):bSorted [.lst (aJ l)] au=.ok (.lst (aJ (sortR l))) au:=by
 unfold bSorted;simp[h]
theorem zon(h:au[n]?=some (.dT kvs))(hl:kvs.length<=1000000):bSorted [.ref n] au=.ok (.lst (aJ (sortR (kvs.map (·.1))))) au:=by
 unfold bSorted asL pairsOf;simp[h,hl]
theorem zbfm{j:Nat} (h:xs[j]?=some d):L2.atI xs (j:Int)=some d:=zbbj h
theorem zio{au:Store} (h:n<au.length):(au.set n o)[n]?=some o:=xel h
section
variable {au:Store}{n:Nat}
theorem zbd{o:O}(h:au[n]?=some o):n<au.length:=(xbj.mp h).1
end
section
variable {au:Store}{n:Nat}{i:Int}
theorem zbms{o:O}(h:au[n]?=some o):au.set n o=au:=by
 apply xke;intro i;by_cases e:i=n
 ·subst e;rw[xel (zbd h),h]
 ·rw[xcu (xep e)]
end
theorem zur{ds:List D} (h:ds.length=np)(e:b (ds.map some++List.replicate (n - np) none) au=.ok (.ret v) st'):fnD n np b ds au=.ok v st':=by
 rw[zbry,if_pos h,e]
theorem zbrx{ds:List D} (h:ds.length=np)(e:b (ds.map some++List.replicate (n - np) none) au=.ok (.nx σ) st'):fnD n np b ds au=.ok .non st':=by
 rw[zbry,if_pos h,e]
noncomputable abbrev bagO(c x:Int):O:=.lst [.int c,.int x]
def BagAt(au:Store) (n:Nat):Prop:=∃c x:Int,au[n]?=some (bagO c x)/\0<=c/\0<=x
structure Drew (au st':Store) (n:Nat):Prop where
 len:au.length<=st'.length
 keep:∀ i,i<au.length->i≠n->st'[i]?=au[i]?
 bag:BagAt st' n
theorem Drew.trans(a:Drew au st1 n)(b:Drew st1 st2 n):Drew au st2 n :=
 ⟨xbb a.len b.len,λi h1 h2=>(b.keep i (xbh h1 a.len) h2).trans (a.keep i h1 h2),b.bag⟩
theorem Drew.set{au:Store}{n:Nat}{c x:Int}(h:BagAt au n)(hc:0<=c)(hx:0<=x):Drew au (au.set n (bagO c x)) n:=by
 obtain⟨_,_,e,_⟩:=h;exact⟨by rw[xfv];exact xbf _,λi _ h2=>xcu (xep h2),c,x,zio (zbd e),hc,hx⟩
theorem Drew.more{au:Store}{n:Nat}(h:BagAt au n)(g:Store):Drew au (au++g) n:=by
 obtain⟨c,x,e,h1,h2⟩:=h;exact⟨by rw[xbl];lia,λi h _=>xbt h,c,x,by rw[xbt (zbd e)];exact e,h1,h2⟩
theorem zzu{au:Store}{n:Nat}{m:Int}(hb:BagAt au n)(h1:1<=m)(h2:m<2 ^ 1000) :
  ∃r st',zq [.ref n,.int m] au=.ok (.int r) st'/\0<=r/\r<m/\Drew au st' n/\st'.length=au.length:=by
 obtain⟨c,x,hn,hc,hx⟩:=id hb;have s0:∀{c x:Int} {au:Store},au[n]?=some (bagO c x)->oIx (.ref n) (.int 0) au=.ok (.int c) au:=λh=>ztt (zpb h) rfl
 have s1:∀{c x:Int} {au:Store},au[n]?=some (bagO c x)->oIx (.ref n) (.int 1) au=.ok (.int x) au:=λh=>ztt (zpb h) rfl
 by_cases h0:0<c
 ·have d1:CDivP c m:=⟨by lia,h2⟩
  have e0:ixN 2 0=some 0:=rfl;refine⟨c % m,au.set n (bagO (c / m) x),zur rfl ?_,xji _ (by lia),Int.emod_lt_of_pos _ (by lia),Drew.set hb (Int.ediv_nonneg hc (by lia)) hx,xfv⟩;simp[s0 hn,h0,hn,e0,show(0:Int)<m by lia,d1]
 ·have hlen:=zbd hn
  have W:=zwi (c:=eB (aU oLtT (aA 4) (aA 1))) (body:=aD (sSetIx (aA 0) (eC (.int 1)) (aU oMod (aU aN (aU oMulI (aU oIx (aA 0) (eC (.int 1))) (eC (.int 48271))) (eC (.int 7919))) (eC (.int 2147483647))))
   (aD (aF 3 (aU aN (aU oMulI (aA 3) (eC (.int 1073741789))) (aU oMod (aU oMulI (aU oFdiv (aU oIx (aA 0) (eC (.int 1))) (eC (.int 8))) (eC (.int 69621))) (eC (.int 1073741789)))))
   (aF 4 (aU oMulI (aA 4) (eC (.int 1073741789)))))) (k:=1000) (σ:=[some (.ref n),some (.int m),none,some (.int 0),some (.int 1)]) (au:=au)
   (λj σ s=>∃c' x' nn rr:Int,σ=[some (.ref n),some (.int m),none,some (.int nn),some (.int rr)]/\s=au.set n (bagO c' x')/\0<=c'/\0<=x'/\0<=nn/\j<=1000/\2 ^ (1000 - j)<=rr)
   (λσ s=>∃c' x' nn:Int,(∃rr,σ=[some (.ref n),some (.int m),none,some (.int nn),some (.int rr)])/\s=au.set n (bagO c' x')/\0<=c'/\0<=x'/\0<=nn)
   ⟨c,x,0,1,rfl,(zbms hn).symm,hc,hx,by lia,by lia,by decide⟩ (by decide) (by
    rintro j σ s ⟨c',x',nn,rr,rfl,rfl,a1,a2,a3,a4,a5⟩;have g1:(au.set n (bagO c' x'))[n]?=some (bagO c' x'):=zio hlen;by_cases hlt:rr<m
    ·have hj:1<=j:=by
      rcases xjp j with z|z
      ·subst z;have a5':(2:Int) ^ 1000<=rr:=a5;lia
      ·exact z
     have e1:ixN 2 1=some 1:=rfl;have m1:CMul x' 48271:=.inr ⟨by decide,by decide⟩;have m2:CMul nn 1073741789:=.inr ⟨by decide,by decide⟩;have m3:CMul rr 1073741789:=.inr ⟨by decide,by decide⟩;have g2:∀y:Int,(au.set n (bagO c' y))[n]?=some (bagO c' y):=λy=>zio hlen
     have m4:∀y:Int,CMul y 69621:=λy=>.inr ⟨by decide,by decide⟩
     have d8:∀y:Int,CDivP y 8:=λy=>⟨by decide,by decide +kernel⟩
     refine⟨true,au.set n (bagO c' x'),by simp[hlt],.inr ⟨rfl,j - 1,_,au.set n (bagO c' ((x' * 48271+7919) % 2147483647)),?_,⟨c',(x' * 48271+7919) % 2147483647,nn * 1073741789+(x' * 48271+7919) % 2147483647 / 8 * 69621 % 1073741789,rr * 1073741789,rfl,rfl,a1,?_,?_,by lia,?_⟩,by lia⟩⟩
     ·simp[s1 g1,g1,e1,m1,m2,m3,m4,d8,s1 (g2 _)]
     ·exact xji _ (by lia)
     ·have a1:0<=nn * 1073741789:=Int.mul_nonneg a3 (by lia);have a2:=xji ((x' * 48271+7919) % 2147483647 / 8 * 69621) (show(1073741789:Int)≠0 by lia);lia
     ·have e:(2:Int) ^ (1000 - (j - 1))=2 ^ (1000 - j) * 2:=by
       rw[← Int.pow_succ];congr 1;lia
      rw[e];have hp:(0:Int)<=2 ^ (1000 - j):=Int.pow_nonneg (by decide);lia
    ·exact⟨false,_,by simp[hlt],.inl ⟨rfl,c',x',nn,⟨rr,rfl⟩,rfl,a1,a2,a3⟩⟩)
  obtain⟨σ',st',e,c',x',nn,hσ,hst,k1,k2,k3⟩:=W;obtain⟨rr,rfl⟩:=hσ;subst hst;refine⟨nn % m,au.set n (bagO c' x'),zur rfl ?_,xji _ (by lia),Int.emod_lt_of_pos _ (by lia),Drew.set hb k1 k2,xfv⟩;simp[s0 hn,h0,e,show(0:Int)<m by lia]
theorem zml{ns:List Int} (h:j<ns.length):L2.atI (ns.map D.int) (j:Int)=some (.int ns[j]):=zbbj (by rw[xcn,xbe h];rfl)
theorem zbqw{ns:List Int}{i:Nat}(hl:ns.length<=63)(hi:i<=100000):∃c x:Int,0<=c/\0<=x/\zdl [.scr (ns.map .int),.int i] au=.ok (.ref au.length) (au++[bagO c x]):=by
 have cell:∃c:Int,0<=c/\sIf (eB (aU oLtT (aA 1) (aE bLen (aB (aA 0) aC)))) (aF 2 (aE bAbs (aB (aU oIx (aA 0) (aA 1)) aC))) sNx [some (.scr (ns.map .int)),some (.int i),some (.int 0),none,none] au
   = .ok (.nx [some (.scr (ns.map .int)),some (.int i),some (.int c),none,none]) au:=by
  by_cases h:i<ns.length
  ·have e:oIx (.scr (ns.map .int)) (.int i) au=.ok (.int ns[i]) au:=ztt rfl (zml h);refine⟨if ns[i]<0 then -ns[i] else ns[i],by split<;>lia,?_⟩;simp[h,e]
  ·exact⟨0,by lia,by simp[h]⟩
 obtain⟨c,hc,ec⟩:=cell;have hmin:(if(60:Int)<(ns.length:Int) then(60:Int) else ns.length).toNat<=ns.length:=by split<;>lia
 have W:=zbju (bd:=gN 4) (body:=aF 3 (aU oMod (aU aN (aU aN (aU oMulI (aA 3) (eC (.int 48271))) (aU oMod (aU oIx (aA 0) (aA 4)) (eC (.int 2147483647)))) (aA 4)) (eC (.int 2147483629))))
  (xs:=rng 0 (if(60:Int)<(ns.length:Int) then(60:Int) else ns.length).toNat) (σ:=[some (.scr (ns.map .int)),some (.int i),some (.int c),some (.int (7919 * i+17)),none]) (au:=au)
  (λj σ s=>s=au/\∃(mix:Int) (v:Option D),σ=[some (.scr (ns.map .int)),some (.int i),some (.int c),some (.int mix),v]/\0<=mix) ⟨rfl,_,none,rfl,by lia⟩ (by
   rintro j x σ s hx ⟨rfl,mix,v,rfl,hm⟩;obtain⟨hj,rfl⟩:=zbnb hx;have hj2:j<ns.length:=by lia
   have e:oIx (.scr (ns.map .int)) (.int (0+j)) s=.ok (.int ns[j]) s:=ztt rfl (by rw[xjr];exact zml hj2);rw[xjr] at e;have m1:CMul mix 48271:=.inr ⟨by decide,by decide⟩;refine⟨_,[some (.scr (ns.map .int)),some (.int i),some (.int c),some (.int ((mix * 48271+ns[j] % 2147483647+j) % 2147483629)),some (.int (0+j))],s,rfl,?_,rfl,_,_,rfl,xji _ (by lia)⟩
   simp[e,m1])
 obtain⟨σ',st',e,rfl,mix,v,rfl,hm⟩:=W;have m0:CMul 7919 (i:Int):=.inl ⟨by decide,by decide⟩;have p0:CPow 10 18:=⟨by decide,by decide,by decide⟩
 have hr:RngOk (if(60:Int)<(ns.length:Int) then(60:Int) else ns.length):=by
  split<;>exact rngOk (by lia) (by lia)
 by_cases hlt:c<1000000000000000000
 ·refine⟨0,mix,by lia,hm,zur rfl ?_⟩;have hs:=small 2 (by lia);simp at ec;simp[ec,m0,hr,e,p0,hlt,hs]
 ·refine⟨c,mix,hc,hm,zur rfl ?_⟩;have hs:=small 2 (by lia);simp at ec;simp[ec,m0,hr,e,p0,hlt,hs]
theorem seqN(h:s σ au=.ok (.nx σ1) st1)(k:t σ1 st1=r):aD s t σ au=r:=by
 rw[zbmw,h];exact k
noncomputable def aQ(ks:List (List Int)) (k:List Int):List (List Int):=if k∈ks then ks.filter (λx=>decide (x≠k)) else ks++[k]
def aO(l:List (List Int)):List (List Int):=l.foldl aQ []
theorem zgw :x∈aQ ks k↔(x∈ks/\x≠k)\/(x=k/\k∉ks):=by
 unfold aQ;split
 ·rename_i h;simp[xfu,h]
 ·rename_i h;simp only[xbz,xbk];constructor
  ·rintro(z|rfl)
   ·exact .inl ⟨z,λe=>h (e ▸ z)⟩
   ·exact .inr ⟨rfl,h⟩
  ·rintro(⟨z,_⟩|⟨z,_⟩)
   ·exact .inl z
   ·exact .inr z
theorem zrn{ks:List (List Int)} (h:ks.Nodup):(aQ ks k).Nodup:=by
 unfold aQ;split
 ·exact h.filter _
 ·rename_i hk;rw[xmb];exact⟨h,by simp,λa ha b hb=>by simp at hb;subst hb;exact λe=>hk (e ▸ ha)⟩
theorem zoa(ks:List (List Int))(k:List Int):(aQ ks k).length<=ks.length+1:=by
 unfold aQ;split
 ·exact xft (xku _ _)
 ·simp
theorem zlq:∀(l ks:List (List Int)),ks.Nodup->(l.foldl aQ ks).Nodup/\(l.foldl aQ ks).length<=ks.length+l.length/\∀x,x∈l.foldl aQ ks↔(l.count x+if x∈ks then 1 else 0) % 2=1
 | [],ks,h=>⟨h,by simp,λx=>by by_cases e:x∈ks<;>simp[e]⟩
 | a::l,ks,h=>by
  obtain⟨h1,h2,h3⟩:=zlq l (aQ ks a) (zrn h);refine⟨h1,?_,λx=>?_⟩
  ·have:=zoa ks a;rw[xhf,xbx];lia
  ·rw[xhf,h3 x,xie];by_cases e:x=a
   ·subst e;by_cases k:x∈ks
    ·have q:x∉aQ ks x:=by rw[zgw];simp[k]
     simp only[q,k,xeq,xen,xgu]<;>lia
    ·have q:x∈aQ ks x:=by rw[zgw];simp[k]
     simp only[q,k,xeq,xen,xgu]<;>lia
   ·have e':(a==x)=false:=by simpa using λz:a=x=>e z.symm
    by_cases k:x∈ks
    ·have q:x∈aQ ks a:=by rw[zgw];simp[k,e]
     simp[q,k,e']
    ·have q:x∉aQ ks a:=by rw[zgw];simp[k,e]
     simp[q,k,e']
theorem zfk(l:List (List Int)):(aO l).Nodup:=(zlq l [] xgt).1
theorem zei(l:List (List Int)):(aO l).length<=l.length:=by have:=(zlq l [] xgt).2.1;simpa [aO] using this
theorem zhl :x∈aO l↔l.count x % 2=1:=by have:=(zlq l [] xgt).2.2 x;simpa [aO] using this
theorem ziz{a b:List (List Int)}(h1:a.Nodup)(h2:b.Nodup)(h:∀x,x∈a↔x∈b):a.Perm b:=(xlt h1 h2).mpr h
theorem zqw{a:List (List Int)}(h:a.Perm b):sortR a=sortR b:=zna ((zcb a).trans h) (zmz a)
def aP(l:List (List Int)):List (List Int):=sortR (aO l)
theorem zbim{l m:List (List Int)}(h1:m.Nodup)(h:∀x,x∈m↔l.count x % 2=1):sortR m=aP l:=zqw (ziz h1 (zfk l) λx=>by rw[h,zhl])
theorem zbdb :x∈aP l↔l.count x % 2=1:=by unfold aP;rw[(zcb _).mem_iff,zhl]
theorem zts(h:x∈aP l):x∈l:=by
 rw[zbdb] at h;rcases xjp (l.count x) with z|z
 ·rw[z] at h;cases h
 ·exact xjs.mp z
theorem zrh(l:List (List Int)):(aP l).length<=l.length:=by unfold aP;rw[znb];exact zei l
theorem zlr(l:List (List Int)):(aP l).Nodup:=(zcb _).nodup_iff.mpr (zfk l)
noncomputable abbrev aR(ks:List (List Int)):List (List Int×D):=ks.map λk=>(k,.bl true)
theorem zov :valD (aR ks) k=if k∈ks then some (.bl true) else none:=by
 induction ks with
 | nil=>rfl
 | cons a ks ih =>
  unfold valD aR at ih ⊢;rw[xca,xdt];by_cases e:a=k
  ·simp[e]
  ·simp only[xcc e];rw[ih];simp[xbn,show ¬ k=a from λz=>e z.symm]
theorem zux :dropD (aR ks) k=aR (ks.filter λx=>decide (x≠k)):=by
 unfold dropD aR;rw[xlc]
 rfl
theorem zxg(h:k∉ks):putD (aR ks) k (.bl true)=aR (ks++[k]):=by
 unfold putD;rw[if_neg]
 ·simp[aR]
 ·simp only[List.any_map,xko,not_exists,not_and];intro x hx e;have:x=k:=by simpa using e
  exact h (this ▸ hx)
theorem zka(h:au[n]?=some (.dT kvs)):pairsOf au (.ref n)=some kvs:=by
 unfold pairsOf;dsimp only;rw[h]
theorem zbcx(h:au[n]?=some (.fT kvs)):pairsOf au (.ref n)=some kvs:=by
 unfold pairsOf;dsimp only;rw[h]
theorem zbio(h:pairsOf au (.ref n)=some kvs):oDIn false (aM k) (.ref n) au=.ok (.bl (valD kvs k).isSome) au:=by
 unfold oDIn;rw[zek,h]
 rfl
theorem ztu(h:pairsOf au (.ref n)=some kvs)(hv:valD kvs k=some v):oDGet (.ref n) (aM k) au=.ok v au:=by
 unfold oDGet;rw[zek,h];dsimp only;rw[hv]
theorem zbjx(h:au[n]?=some (.dT (aR ks)))(hl:ks.length<=1000000):zrt [.ref n,aM k] au=.ok .non (au.set n (.dT (aR (aQ ks k)))):=by
 have e1:=zbio (k:=k) (zka h);rw[zov] at e1;by_cases hk:k∈ks
 ·refine zbrx (σ:=[some (.ref n),some (aM k)]) rfl ?_;rw[if_pos hk] at e1;have e2:valD (aR ks) k=some (.bl true):=by rw[zov,if_pos hk]
  have e3:aQ ks k=ks.filter λx=>decide (x≠k):=by unfold aQ;rw[if_pos hk]
  rw[e3,← zux];have e4:=zka h;have e5:=zek k;simp only[aM,aR] at *
  simp[e1,e4,e5,h,e2]
 ·refine zbrx (σ:=[some (.ref n),some (aM k)]) rfl ?_;rw[if_neg hk] at e1;have e3:aQ ks k=ks++[k]:=by unfold aQ;rw[if_neg hk]
  rw[e3,← zxg hk];have e5:=zek k;have e6:(aR ks).length<sizeLine:=by rw[xbc];exact smallT _ hl
  simp only[aM,aR] at *
  simp[e1,e5,h,e6];rw[xbc] at e6;exact e6
theorem zdh{l:List (List Int)}{i:Nat} (h:(aJ l)[i]?=some x):∃k,l[i]?=some k/\x=aM k:=by
 unfold aJ at h;rw[xcn] at h;cases e:l[i]? with
 | none=>rw[e] at h;cases h
 | some k=>rw[e] at h;exact⟨k,rfl,(xch h).symm⟩
theorem zr(l:List (List Int)):(aJ l).length=l.length:=xbc _
theorem zp{α:Type}{l:List α}{i:Nat}{k:α}(h:l[i]?=some k):l.take (i+1)=l.take i++[k]:=by
 obtain⟨hi,e⟩:=xbj.mp h;rw[xhp hi,e]
theorem zbql(xs:List D)(k:Nat):cutD xs none (some (k:Int))=xs.take k:=by
 unfold cutD;rw[HT.zsv,HT.zzw,List.drop_zero,Nat.sub_zero];rcases Nat.le_total k xs.length with h|h
 ·rw[xek h]
 ·rw[xit h,xcp,xdo h]
theorem zbfc(xs:List D)(k:Nat):cutD xs (some (k:Int)) none=xs.drop k:=by
 unfold cutD;rw[HT.zsv,HT.zzw];rcases Nat.le_total k xs.length with h|h
 ·rw[xek h,xdo (by rw[xgr];exact xbf _)]
 ·rw[xit h,List.drop_length,List.drop_of_length_le h];simp
theorem zki(l ks:List (List Int))(h:ks.Nodup):(l.foldl aQ ks).length<=ks.length+l.length:=(zlq l ks h).2.1
theorem zqv(h:au[n]?=some (.dT (aR ks)))(hl:ks.length<=1000000):bSorted [.ref n] au=.ok (.lst (aJ (sortR ks))) au:=by
 rw[zon h (by rw[xbc];exact hl),xcw]
 congr 2
 exact congrArg (λl=>aJ (sortR l)) (xmw ks)
end Dd
namespace K07
open PySem L2
theorem zyk(a b:Nat):(a &&& b=b)↔((a / 2 &&& b / 2=b / 2)/\¬ (b % 2=1/\a % 2=0)):=by
 have e1:(a &&& b) / 2=a / 2 &&& b / 2:=xms;have e2:(a &&& b) % 2=(a % 2) * (b % 2):=by
  have q:=@Nat.and_mod_two_eq_one a b;rcases xeh a with h|h<;>rcases xeh b with h'|h'<;>rw[h,h'] at q ⊢<;>lia
 constructor
 ·intro h;refine⟨by rw[← e1,h],?_⟩;rintro⟨h1,h2⟩;rw[h,h1,h2] at e2;lia
 ·rintro⟨h1,h2⟩;rw[← e1] at h1;have h3:(a &&& b) % 2=b % 2:=by
   rw[e2];rcases xeh a with h|h<;>rcases xeh b with h'|h'<;>simp[h,h']
   exact h2 ⟨h',h⟩
  lia
end K07
namespace K23
open PySem L2 K07
end K23
namespace Dd
open PySem L2 K07 K23
theorem zjg :zcl [.int i] au=.ok (.bl true) au:=rfl
noncomputable def slowAt(r:List Int) (p:Nat):Prop:=∃a b:Int,r[p]?=some a/\r[p+1]?=some b/\a<2 * b
instance (r:List Int) (p:Nat):Decidable (slowAt r p) :=
 match h1:r[p]?,h2:r[p+1]? with
 | some a,some b=>if h:a<2 * b then .isTrue ⟨a,b,h1,h2,h⟩ else .isFalse λ⟨x,y,e1,e2,e3⟩=>by rw[h1] at e1;rw[h2] at e2;cases e1;cases e2;exact h e3
 | none,_=>.isFalse λ⟨x,y,e1,_⟩=>by rw[h1] at e1;cases e1
 | some _,none=>.isFalse λ⟨x,y,_,e2,_⟩=>by rw[h2] at e2;cases e2
theorem zblf(r:List Int)(k:Nat):cutD (r.map .int) none (some (k:Int))=(r.take k).map .int:=by rw[zbql,List.map_take]
theorem zzj(r:List Int)(k:Nat):cutD (r.map .int) (some (k:Int)) none=(r.drop k).map .int:=by rw[zbfc,List.map_drop]
structure CntG (f:Nat->D) (kvs:List (List Int×D)) (l:List (List Int)):Prop where
 nd:(kvs.map (·.1)).Nodup
 mem:∀k,k∈kvs.map (·.1)↔k∈l
 val:∀p∈kvs,p.2=f (l.count p.1)
 len:kvs.length<=l.length
theorem CntG.nil(f:Nat->D):CntG f [] []:=⟨xgt,λk=>by simp,λp h=>(by cases h),by simp⟩
theorem CntG.at(h:CntG f kvs l)(k:List Int):valD kvs k=if k∈l then some (f (l.count k)) else none:=by
 have gen:∀kvs:List (List Int×D),(∀p∈kvs,p.2=f (l.count p.1))->valD kvs k=if k∈kvs.map (·.1) then some (f (l.count k)) else none:=by
  intro kvs
  induction kvs with
  | nil=>intro _;rfl
  | cons a kvs ih =>
   intro hv;have ih:=ih λp hp=>hv p (xbo _ hp)
   unfold valD at ih ⊢;rw[xdt];by_cases e:a.1=k
   ·have:=hv a xbp;simp only[e,xfo,Option.map_some,xca,xbn,true_or,xeq];rw[this,e]
   ·simp only[xcc e];rw[ih];simp only[xca,xbn,show ¬ k=a.1 from λz=>e z.symm,false_or]
 rw[gen kvs h.val];simp only[h.mem]
theorem CntG.put(h:CntG f kvs l)(k:List Int):CntG f (putD kvs k (f (l.count k+1))) (l++[k]):=by
 have any:(kvs.any λkv=>decide (kv.1=k))=decide (k∈l):=by
  rw[xjg,xmd,← h.mem,xko,xce];constructor
  ·rintro⟨x,hx,e⟩;exact⟨x,hx,by simpa using e⟩
  ·rintro⟨p,hp,e⟩;exact⟨p,hp,by simpa using e⟩
 unfold putD;rw[any];by_cases hk:k∈l
 ·rw[if_pos (by simpa using hk)];have keys:(kvs.map λkv=>if kv.1=k then(kv.1,f (l.count k+1)) else kv).map (·.1)=kvs.map (·.1):=by
   rw[xcw]
   congr 1
   funext p
   dsimp only[Function.comp];split<;>rfl
  refine⟨by rw[keys];exact h.nd,λx=>?_,λp hp=>?_,?_⟩
  ·rw[keys,h.mem,xbz,xbk];exact⟨.inl,λz=>z.elim id λe=>e ▸ hk⟩
  ·obtain⟨q,hq,rfl⟩:=xce.mp hp;have:=h.val q hq;by_cases e:q.1=k
   ·rw[if_pos e];dsimp only;rw[e,xil];simp
   ·rw[if_neg e,this,xil];have:List.count q.1 [k]=0:=by rw[xig];simpa using e
    rw[this];rfl
  ·rw[xbc,xbl];have:=h.len;lia
 ·rw[if_neg (by simpa using hk)];refine⟨?_,λx=>?_,λp hp=>?_,?_⟩
  ·rw[xgj,xmb];refine⟨h.nd,by simp,λa ha b hb=>?_⟩;simp at hb;subst hb;exact λe=>hk ((h.mem _).mp (e ▸ ha))
  ·rw[xgj,xbz,h.mem,xbz];simp
  ·rcases xbz.mp hp with hp|hp
   ·have e1:=h.val p hp;have e2:p.1≠k:=λe=>hk ((h.mem _).mp (e ▸ xce.mpr ⟨p,hp,rfl⟩))
    rw[e1,xil];have:List.count p.1 [k]=0:=by rw[xig];simpa using e2
    rw[this];rfl
   ·simp at hp;subst hp;rw[xil,xig.mpr hk];simp
  ·rw[xbl,xbl];have:=h.len;simp;exact this
noncomputable def oddB(n:Nat):D:=.bl (decide (n % 2=1))
theorem zxt(n:Nat):oddB (n+1)=.bl (!decide (n % 2=1)):=by
 unfold oddB
 congr 1
 by_cases h:n % 2=1
 ·rw[xcs h,xcc (by lia)];rfl
 ·rw[xcc h,xcs (by lia)];rfl
theorem zrm(hx:seqV x=some (aJ l))(hl:l.length<=1000000)(ho:(aO l).length<=1000000):∃g,zck [x] au=.ok (aK (aP l)) (au++g):=by
 have W:=zbju (bd:=gN 2) (body:=zfe) (xs:=aJ l) (σ:=[some x,some (.ref au.length),none]) (au:=au++[.dT []])
  (λi σ s=>∃(v:Option D) (kvs:List (List Int×D)),σ=[some x,some (.ref au.length),v]/\s=au++[.dT kvs]/\CntG oddB kvs (l.take i)) ⟨none,[],rfl,rfl,CntG.nil _⟩ (by
   rintro i y σ s hy ⟨v,kvs,rfl,rfl,hc⟩;obtain⟨k,hk,rfl⟩:=zdh hy;have hc':=hc.put k;have hn:(au++[O.dT kvs])[au.length]?=some (.dT kvs):=by simp
   have e2:(valD kvs k).getD (.bl false)=.bl (decide ((l.take i).count k % 2=1)):=by
    rw[hc.at];split
    ·rfl
    ·rename_i z;rw[xig.mpr z];rfl
   have e3:=zek k;have e4:=zka hn;have e5:kvs.length<sizeLine:=by
    have h1:=hc.len;have h2:(l.take i).length<=l.length:=by rw[xdh];exact xgq _ _
    exact smallT _ (by lia)
   refine⟨[some x,some (.ref au.length),some (aM k)],[some x,some (.ref au.length),some (aM k)],au++[.dT (putD kvs k (oddB ((l.take i).count k+1)))],rfl,?_,some (aM k),_,rfl,rfl,by rw[zp hk];exact hc'⟩;rw[zxt];unfold zfe;simp only[aM] at *
   simp only[zbha,zbke,zbed,zbpe,eC_v,xjy,List.getElem?_cons_zero,zft,e4,e3,e2,hn,e5,xeq]
   simp)
 obtain⟨σ',st',e,v,kvs,rfl,rfl,hc⟩:=W;rw[zr,xcp] at hc;have V:=zblh (bd:=gN 0) (c:=eTru (aU oDGet (aA 1) (aA 0))) (f:=aA 0) (xs:=aJ (kvs.map (·.1))) (σ:=[none,some (.ref au.length)]) (au:=au++[.fT kvs])
  (λi acc σ s=>s=au++[.fT kvs]/\(∃w:Option D,σ=[w,some (.ref au.length)])/\acc=aJ (((kvs.map (·.1)).take i).filter λk=>decide (l.count k % 2=1))) ⟨rfl,⟨none,rfl⟩,rfl⟩ (by
   rintro i y acc σ s hy ⟨rfl,⟨w,rfl⟩,rfl⟩;obtain⟨k,hk,rfl⟩:=zdh hy;have hn:(au++[O.fT kvs])[au.length]?=some (.fT kvs):=by simp
   have hkl:k∈l:=(hc.mem k).mp (xcg hk);have e2:valD kvs k=some (oddB (l.count k)):=by rw[hc.at,if_pos hkl]
   have e3:oDGet (.ref au.length) (aM k) (au++[O.fT kvs])=.ok (oddB (l.count k)) _:=ztu (zbcx hn) e2;refine⟨[some (aM k),some (.ref au.length)],decide (l.count k % 2=1),au++[.fT kvs],rfl,?_,?_⟩
   ·rw[zbkd];show((oDGet (.ref au.length) (aM k) (au++[O.fT kvs])).bind _)=_;rw[e3]
    rfl
   ·by_cases ho:l.count k % 2=1
    ·refine .inr ⟨xcs ho,aM k,_,rfl,rfl,⟨_,rfl⟩,?_⟩;rw[zp hk,xge];simp[ho,aJ]
    ·refine .inl ⟨xcc ho,rfl,⟨_,rfl⟩,?_⟩;rw[zp hk,xge]
     simp[ho,aJ])
 obtain⟨ys,σ2,st2,e2,rfl,⟨w,rfl⟩,rfl⟩:=V;rw[zr,xcp] at e2;refine⟨[.fT kvs],zur rfl ?_⟩;have nd:((kvs.map (·.1)).filter λk=>decide (l.count k % 2=1)).Nodup:=hc.nd.filter _;have mm:∀k,k∈((kvs.map (·.1)).filter λk=>decide (l.count k % 2=1))↔l.count k % 2=1:=λk=>by
  rw[xfu,hc.mem,xmd];refine⟨λh=>h.2,λh=>⟨?_,h⟩⟩;rcases xjp (l.count k) with z|z
  ·rw[z] at h;cases h
  ·exact xjs.mp z
 have e5:sortR ((kvs.map (·.1)).filter λk=>decide (l.count k % 2=1))=aP l:=zbim nd mm;have few:((kvs.map (·.1)).filter λk=>decide (l.count k % 2=1)).length<=1000000:=by
  have p:=ziz nd (zfk l) λk=>by rw[mm,zhl]
  rw[p.length_eq];exact ho
 have e6:=zom (au:=au++[.fT kvs]) few;rw[e5] at e6;have hlen:(aJ (kvs.map (·.1))).length<=sizeLine:=by
  rw[zr,xbc];exact small _ (by have:=hc.len;lia)
 refine seqN (σ1:=[some x,some (.ref au.length),none]) (st1:=au++[.dT []]) (by simp) ?_;refine seqN (σ1:=[some x,some (.ref au.length),v]) (st1:=au++[.dT kvs]) (by simp[hx,e]) ?_;have e7:aG (iDict (aA 1)) 1 [1] (gN 0) (eTru (aU oDGet (aA 1) (aA 0))) (aA 0) [some x,some (.ref au.length),v] (au++[.dT kvs])=.ok (.lst (aJ ((kvs.map (·.1)).filter λk=>decide (l.count k % 2=1)))) (au++[.fT kvs]):=by
  rw[zbaw];have e8:iDict (aA 1) [some x,some (.ref au.length),v] (au++[.dT kvs])=.ok (aJ (kvs.map (·.1))) (au++[.fT kvs]):=by
   simp
  rw[e8,zft,if_pos hlen];show(compF _ _ _ _ [none,some (.ref au.length)] _).bind _=_;rw[e2]
  rfl
 rw[zbmx,zbax,zwd,zbax,zwd,e7];simp only[zft,zbre,e6,zvw]
theorem rngN(h1:-10000<=j)(h2:j<=10000):RngOk j:=rngOk (by lia) (by lia)
theorem Drew.over(d:Drew au s n)(hn:n<au.length)(hk:au.length<=k):Drew au (s.set k o) n:=by
 obtain⟨c,x,eb,c0,x0⟩:=d.bag;exact⟨by rw[xfv];exact d.len,λi h1 h2=>by rw[xcu (by lia)];exact d.keep i h1 h2,c,x,by rw[xcu (by lia)];exact eb,c0,x0⟩
end Dd
namespace Dd
open PySem L2
def WP{α:Type} (r:Res α) (Q:α->Store->Prop):Prop:=match r with
 | .ok a au=>Q a au
 | _=>False
theorem WP.get{α:Type}{r:Res α}{Q:α->Store->Prop}(h:WP r Q):∃a au,r=.ok a au/\Q a au:=by
 cases r with
 | ok a au=>exact⟨a,au,rfl,h⟩
 | exc x au=>exact h.elim
 | stuck=>exact h.elim
theorem WP.of{α:Type}{r:Res α}{Q:α->Store->Prop}{a:α} (e:r=.ok a au)(h:Q a au):WP r Q:=by rw[e];exact h
theorem WP.mono{α:Type}{r:Res α}{Q Q':α->Store->Prop}(h:WP r Q)(k:∀a au,Q a au->Q' a au):WP r Q':=by
 obtain⟨a,au,rfl,q⟩:=h.get;exact k a au q
theorem ze{α β:Type}{r:Res α}{f:α->Store->Res β}{Q:β->Store->Prop}:WP (r.bind f) Q=WP r (λa au=>WP (f a au) Q):=by
 cases r<;>rfl
def seqK(t:SS) (Q:Fl->Store->Prop):Fl->Store->Prop:=λfl au=>match fl with
 | .nx σ=>WP (t σ au) Q
 | fl=>Q fl au
theorem zbgf :WP (aD s t σ au) Q=WP (s σ au) (seqK t Q):=by
 unfold aD;cases s σ au with
 | ok fl st1=>cases fl<;>rfl
 | exc x au=>rfl
 | stuck=>rfl
theorem zwg{α:Type} [Decidable c]{a b:Res α}{Q:α->Store->Prop}:WP (if c then a else b) Q=if c then WP a Q else WP b Q:=by
 split<;>rfl
theorem zmr{α:Type} [Decidable c]{a:Res α}{Q:α->Store->Prop}:WP (if c then a else .stuck) Q=(c/\WP a Q):=by
 by_cases h:c
 ·rw[if_pos h];simp[h]
 ·rw[if_neg h];simp[h,WP]
def retK(Q:D->Store->Prop):Fl->Store->Prop:=λfl au=>match fl with
 | .ret v=>Q v au
 | .nx _=>Q .non au
 | _=>False
theorem zik{n np:Nat}{b:SS}{ds:List D}{au:Store}{Q:D->Store->Prop}(h:ds.length=np)(k:WP (b (ds.map some++List.replicate (n - np) none) au) (retK Q)):WP (fnD n np b ds au) Q:=by
 obtain⟨fl,st',e,q⟩:=k.get;unfold fnD;rw[if_pos h,e];cases fl<;>first|exact q|exact q.elim
def bK(Q:Bool->Store->Prop):D->Store->Prop:=λv au=>match v with
 | .bl b=>Q b au
 | _=>False
def gK(bd:SG) (Q:Fl->Store->Prop) (σ:DS):D->Store->Prop:=λv au=>match bd v σ with
 | some σ1=>Q (.nx σ1) au
 | none=>False
theorem W:(∀{α:Type} {a:α} {au:Store} {Q:α->Store->Prop},WP (.ok a au) Q=Q a au)
 /\ (∀{s t:SS} {σ:DS} {au:Store} {Q:Fl->Store->Prop},WP (aD s t σ au) Q=WP (s σ au) (seqK t Q))
 /\ (∀{t:SS} {σ:DS} {au:Store} {Q:Fl->Store->Prop},seqK t Q (.nx σ) au=WP (t σ au) Q)
 /\ (∀{t:SS} {v:D} {au:Store} {Q:Fl->Store->Prop},seqK t Q (.ret v) au=Q (.ret v) au)
 /\ (∀{t:SS} {σ:DS} {au:Store} {Q:Fl->Store->Prop},seqK t Q (.brk σ) au=Q (.brk σ) au)
 /\ (∀{t:SS} {σ:DS} {au:Store} {Q:Fl->Store->Prop},seqK t Q (.ct σ) au=Q (.ct σ) au)
 /\ (∀{v:D} {au:Store} {Q:D->Store->Prop},retK Q (.ret v) au=Q v au)
 /\ (∀{σ:DS} {au:Store} {Q:D->Store->Prop},retK Q (.nx σ) au=Q .non au)
 /\ (∀{b:Bool} {au:Store} {Q:Bool->Store->Prop},bK Q (.bl b) au=Q b au)
 /\ (∀{d:D} {σ:DS} {au:Store} {Q:D->Store->Prop},WP (eC d σ au) Q=Q d au)
 /\ (∀{g:D->D->Store->Res D} {f f':SE} {σ:DS} {au:Store} {Q:D->Store->Prop},WP (aU g f f' σ au) Q=WP (f σ au) (λx st1=>WP (f' σ st1) (λy st2=>WP (g x y st2) Q)))
 /\ (∀{g:D->Store->Res D} {f:SE} {σ:DS} {au:Store} {Q:D->Store->Prop},WP (eUn g f σ au) Q=WP (f σ au) (λx st1=>WP (g x st1) Q))
 /\ (∀{g:List D->Store->Res D} {f:SA} {σ:DS} {au:Store} {Q:D->Store->Prop},WP (aE g f σ au) Q=WP (f σ au) (λx st1=>WP (g x st1) Q))
 /\ (∀{σ:DS} {au:Store} {Q:List D->Store->Prop},WP (aC σ au) Q=Q [] au)
 /\ (∀{f:SE} {g:SA} {σ:DS} {au:Store} {Q:List D->Store->Prop},WP (aB f g σ au) Q=WP (f σ au) (λx st1=>WP (g σ st1) (λxs st2=>Q (x::xs) st2)))
 /\ (∀{f:SE} {σ:DS} {au:Store} {Q:Bool->Store->Prop},WP (eB f σ au) Q=WP (f σ au) (bK Q))
 /\ (∀{f f':ST} {σ:DS} {au:Store} {Q:Bool->Store->Prop},WP (bAnd f f' σ au) Q=WP (f σ au) (λb st1=>if b=true then WP (f' σ st1) Q else Q false st1))
 /\ (∀{f f':ST} {σ:DS} {au:Store} {Q:Bool->Store->Prop},WP (bOr f f' σ au) Q=WP (f σ au) (λb st1=>if b=true then Q true st1 else WP (f' σ st1) Q))
 /\ (∀{f:ST} {σ:DS} {au:Store} {Q:Bool->Store->Prop},WP (bNot f σ au) Q=WP (f σ au) (λb st1=>Q (!b) st1))
 /\ (∀{σ:DS} {au:Store} {Q:Bool->Store->Prop},WP (aI σ au) Q=Q true au)
 /\ (∀{f f':SE} {σ:DS} {au:Store} {Q:D->Store->Prop},WP (eAnd f f' σ au) Q=WP (f σ au) (bK λb st1=>if b=true then WP (f' σ st1) Q else Q (.bl false) st1))
 /\ (∀{f f':SE} {σ:DS} {au:Store} {Q:D->Store->Prop},WP (eOr f f' σ au) Q=WP (f σ au) (bK λb st1=>if b=true then Q (.bl true) st1 else WP (f' σ st1) Q))
 /\ (∀{f:SE} {σ:DS} {au:Store} {Q:D->Store->Prop},WP (eNot f σ au) Q=WP (f σ au) (bK λb st1=>Q (.bl (!b)) st1))
 /\ (∀{c:ST} {f f':SE} {σ:DS} {au:Store} {Q:D->Store->Prop},WP (eIf c f f' σ au) Q=WP (c σ au) (λb st1=>if b=true then WP (f σ st1) Q else WP (f' σ st1) Q))
 /\ (∀{g:SA} {σ:DS} {au:Store} {Q:D->Store->Prop},WP (aS g σ au) Q=WP (g σ au) (λxs st1=>xs.length<=sizeLine/\Q (.tup xs) st1))
 /\ (∀{g:SA} {σ:DS} {au:Store} {Q:D->Store->Prop},WP (eLst g σ au) Q=WP (g σ au) (λxs st1=>xs.length<=sizeLine/\Q (.lst xs) st1))
 /\ (∀{g:SA} {σ:DS} {au:Store} {Q:D->Store->Prop},WP (eLstM g σ au) Q=WP (g σ au) (λxs st1=>xs.length<=sizeLine/\Q (.ref st1.length) (st1++[.lst xs])))
 /\ (∀{σ:DS} {au:Store} {Q:D->Store->Prop},WP (eDNew σ au) Q=Q (.ref au.length) (au++[.dT []]))
 /\ (∀{σ:DS} {au:Store} {Q:Fl->Store->Prop},WP (sNx σ au) Q=Q (.nx σ) au)
 /\ (∀{σ:DS} {au:Store} {Q:Fl->Store->Prop},WP (sBrk σ au) Q=Q (.brk σ) au)
 /\ (∀{σ:DS} {au:Store} {Q:Fl->Store->Prop},WP (sCt σ au) Q=Q (.ct σ) au)
 /\ (∀{σ:DS} {au:Store} {Q:Fl->Store->Prop},WP (sRetN σ au) Q=Q (.ret .non) au)
 /\ (∀{f:SE} {σ:DS} {au:Store} {Q:Fl->Store->Prop},WP (sRet f σ au) Q=WP (f σ au) (λv st1=>Q (.ret v) st1))
 /\ (∀{f:SE} {σ:DS} {au:Store} {Q:Fl->Store->Prop},WP (sDrop f σ au) Q=WP (f σ au) (λ_ st1=>Q (.nx σ) st1))
 /\ (∀{i:Nat} {f:SE} {σ:DS} {au:Store} {Q:Fl->Store->Prop},WP (aF i f σ au) Q=WP (f σ au) (λv st1=>Q (.nx (σ.set i (some v))) st1))
 /\ (∀{bd:SG} {f:SE} {σ:DS} {au:Store} {Q:Fl->Store->Prop},WP (sSetG bd f σ au) Q=WP (f σ au) (gK bd Q σ))
 /\ (∀{c:ST} {s t:SS} {σ:DS} {au:Store} {Q:Fl->Store->Prop},WP (sIf c s t σ au) Q=WP (c σ au) (λb st1=>if b=true then WP (s σ st1) Q else WP (t σ st1) Q))
 /\ (∀{it:SA} {bd:SG} {body:SS} {σ:DS} {au:Store} {Q:Fl->Store->Prop},WP (sFor it bd body σ au) Q=WP (it σ au) (λxs st1=>WP (forF bd body xs σ st1) Q))
 /\ (∀{it:SA} {k:Nat} {is:List Nat} {bd:SG} {c:ST} {f:SE} {σ:DS} {au:Store} {Q:D->Store->Prop},WP (aG it k is bd c f σ au) Q=WP (it σ au) (λxs st1=>xs.length<=sizeLine/\WP (compF bd c f xs (aV k is σ) st1) (λys st2=>Q (.lst ys) st2)))
 /\ (∀{it:SA} {k:Nat} {is:List Nat} {bd:SG} {c:ST} {f:SE} {σ:DS} {au:Store} {Q:D->Store->Prop},WP (eCompM it k is bd c f σ au) Q=WP (it σ au) (λxs st1=>xs.length<=sizeLine/\WP (compF bd c f xs (aV k is σ) st1) (λys st2=>Q (.ref st2.length) (st2++[.lst ys]))))
 /\ (∀{C:Int->Int->Prop} [DecidableRel C] {h:Int->Int->D} {i j:Int} {au:Store} {Q:D->Store->Prop},WP (oI C h (.int i) (.int j) au) Q=(C i j/\Q (h i j) au))
 /\ (∀{i j:Int} {au:Store} {Q:D->Store->Prop},WP (aN (.int i) (.int j) au) Q=Q (.int (i+j)) au)
 /\ (∀{a b:List D} {au:Store} {Q:D->Store->Prop},WP (aN (.tup a) (.tup b) au) Q=(a.length+b.length<=sizeLine/\Q (.tup (a++b)) au))
 /\ (∀{i j:Int} {au:Store} {Q:D->Store->Prop},WP (oLtT (.int i) (.int j) au) Q=Q (.bl (decide (i<j))) au)
 /\ (∀{i j:Int} {au:Store} {Q:D->Store->Prop},WP (oEqG false (.int i) (.int j) au) Q=Q (.bl (decide (i=j))) au)
 /\ (∀{i j:Int} {au:Store} {Q:D->Store->Prop},WP (oEqG true (.int i) (.int j) au) Q=Q (.bl (!decide (i=j))) au)
 /\ (∀{i:Int} {au:Store} {Q:D->Store->Prop},WP (oNeg (.int i) au) Q=Q (.int (-i)) au)
 /\ (∀{i j:Int} {g:Int->Int->Int} {au:Store} {Q:D->Store->Prop},WP (b2I g [.int i,.int j] au) Q=Q (.int (g i j)) au)
 /\ (∀{i:Int} {au:Store} {Q:D->Store->Prop},WP (bAbs [.int i] au) Q=Q (.int (if i<0 then -i else i)) au)
 /\ (∀{b:Bool} {au:Store} {Q:D->Store->Prop},WP (bInt [.bl b] au) Q=Q (.int (if b=true then 1 else 0)) au)
 /\ (∀{xs:List D} {au:Store} {Q:D->Store->Prop},WP (bLen [.tup xs] au) Q=Q (.int xs.length) au)
 /\ (∀{xs:List D} {au:Store} {Q:D->Store->Prop},WP (bLen [.lst xs] au) Q=Q (.int xs.length) au)
 /\ (∀{xs:List D} {au:Store} {Q:D->Store->Prop},WP (bLen [.scr xs] au) Q=Q (.int xs.length) au)
 /\ (∀{xs:List D} {au:Store} {Q:D->Store->Prop},WP (bTuple [.tup xs] au) Q=Q (.tup xs) au)
 /\ (∀{xs:List D} {au:Store} {Q:D->Store->Prop},WP (bTuple [.lst xs] au) Q=Q (.tup xs) au)
 /\ (∀{xs:List D} {au:Store} {Q:D->Store->Prop},WP (bList [.tup xs] au) Q=Q (.lst xs) au)
 /\ (∀{xs:List D} {au:Store} {Q:D->Store->Prop},WP (bList [.lst xs] au) Q=Q (.lst xs) au)
 /\ (∀{d:D} {σ:DS} {au:Store} {Q:D->Store->Prop},WP (aA 0 (some d::σ) au) Q=Q d au)
 /\ (∀{i:Nat} {σ:DS} {au:Store} {Q:D->Store->Prop} {o:Option D},WP (aA (i+1) (o::σ) au) Q=WP (aA i σ au) Q)
 /\ (∀{f:SE} {σ:DS} {au:Store} {Q:List D->Store->Prop},WP (aH f σ au) Q=WP (f σ au) (λx st1=>∃xs,seqV x=some xs/\Q xs st1))
 /\ (∀{f:SE} {σ:DS} {au:Store} {Q:Bool->Store->Prop},WP (eTru f σ au) Q=WP (f σ au) (λx st1=>∃b,tru st1 x=some b/\Q b st1))
 /\ (∀{g:SA} {σ:DS} {au:Store} {Q:List D->Store->Prop},WP (iR1 g σ au) Q=WP (g σ au) (λxs st1=>∃j,xs=[.int j]/\RngOk j/\Q (rng 0 j.toNat) st1))
 /\ (∀{g:SA} {σ:DS} {au:Store} {Q:List D->Store->Prop},WP (iR2 g σ au) Q=WP (g σ au) (λxs st1=>∃i j,xs=[.int i,.int j]/\RngOk i/\RngOk j/\Q (rng i (j - i).toNat) st1)):=by
 have g2:∀{α:Type} {c:Prop} [Decidable c] {a:α} {au:Store} {Q:α->Store->Prop},WP (if c then .ok a au else .stuck) Q=(c/\Q a au):=λ{α c _ a au Q}=>zmr
 refine⟨rfl,zbgf,rfl,rfl,rfl,rfl,rfl,rfl,rfl,rfl,?_⟩;refine⟨?_,?_⟩
 ·intros;rw[zbtd,ze];congr;funext x st1;rw[ze]
 refine⟨ze,ze,rfl,?_⟩;refine⟨?_,?_⟩
 ·intros;rw[zwd,ze];congr;funext x st1;rw[ze];rfl
 refine⟨?_,?_⟩
 ·intros;rw[eB_v,ze];congr;funext x st1;cases x<;>rfl
 refine⟨?_,?_⟩
 ·intros;rw[zbrb,ze];congr;funext x st1;rw[zwg];rfl
 refine⟨?_,?_⟩
 ·intros;rw[zbty,ze];congr;funext x st1;rw[zwg];rfl
 refine⟨ze,rfl,?_⟩;refine⟨?_,?_⟩
 ·intros;rw[zbpi,ze];congr;funext x st1;cases x<;>try rfl
  rename_i b;cases b<;>rfl
 refine⟨?_,?_⟩
 ·intros;rw[zbtc,ze];congr;funext x st1;cases x<;>try rfl
  rename_i b;cases b<;>rfl
 refine⟨?_,?_⟩
 ·intros;rw[zbke,ze];congr;funext x st1;cases x<;>rfl
 refine⟨?_,?_⟩
 ·intros;rw[zbte,ze];congr;funext x st1;rw[zwg]
 refine⟨?_,?_⟩
 ·intros;rw[zbpf,ze];congr;funext x st1;rw[g2]
 refine⟨?_,?_⟩
 ·intros;rw[zbpg,ze];congr;funext x st1;rw[g2]
 refine⟨?_,?_⟩
 ·intros;rw[zbkf,ze];congr;funext x st1;rw[g2]
 refine⟨rfl,rfl,rfl,rfl,rfl,ze,ze,ze,?_⟩;refine⟨?_,?_⟩
 ·intro bd f σ au Q;unfold sSetG;rw[ze];congr;funext x st1;unfold gK;cases bd x σ<;>rfl
 refine⟨?_,?_⟩
 ·intros;rw[zbsj,ze];congr;funext x st1;rw[zwg]
 refine⟨ze,?_⟩;refine⟨?_,?_⟩
 ·intros;rw[zbaw,ze];congr;funext x st1;rw[zmr,ze];rfl
 refine⟨?_,?_⟩
 ·intros;unfold eCompM;rw[ze];congr;funext x st1;rw[zmr,ze];rfl
 refine⟨?_,?_⟩
 ·intros;rw[oI_v,g2]
 refine⟨rfl,?_⟩;refine⟨?_,?_⟩
 ·intros;rw[zbod,g2]
 refine⟨rfl,?_⟩;refine⟨?_,?_⟩
 ·intros;rw[show ∀i j au,oEqG false (.int i) (.int j) au=_ from λi j au=>zbsx];rfl
 refine⟨?_,?_⟩
 ·intros;rw[show ∀i j au,oEqG true (.int i) (.int j) au=_ from λi j au=>zbsu];rfl
 refine⟨rfl,rfl,rfl,rfl,rfl,rfl,rfl,rfl,rfl,rfl,rfl,λ{d σ au Q}=>rfl,λ{i σ au Q o}=>rfl,?_⟩;refine⟨?_,?_⟩
 ·intros;rw[zboy,ze];congr;funext x st1
  cases h:seqV x with
  | none=>simp[WP]
  | some xs=>simp[WP]
 refine⟨?_,?_⟩
 ·intros;rw[zbkd,ze];congr;funext x st1
  cases h:tru st1 x with
  | none=>simp[WP]
  | some xs=>simp[WP]
 refine⟨?_,?_⟩
 ·intros;rw[zbta,ze];congr;funext x st1
  split
  ·rw[g2];simp[RngOk]
  ·rename_i hne;have:∀j,x≠[D.int j]:=λj h=>hne j h
   simp[WP,this]
 ·intros;rw[zbsz,ze];congr;funext x st1
  split
  ·rw[g2];simp only[RngOk,List.cons.injEq,D.int.injEq,and_true];apply propext;constructor
   ·rintro⟨h,q⟩;exact⟨_,_,⟨rfl,rfl⟩,h.1,h.2,q⟩
   ·rintro⟨i',j',⟨rfl,rfl⟩,h1,h2,q⟩;exact⟨⟨h1,h2⟩,q⟩
  ·rename_i hne;have:∀i j,x≠[D.int i,D.int j]:=λi j h=>hne i j h
   simp[WP,this]
def loopK(I:DS->Store->Prop) (Q:Fl->Store->Prop):Fl->Store->Prop:=λfl au=>match fl with
 | .nx σ=>I σ au
 | .ct σ=>I σ au
 | .brk σ=>Q (.nx σ) au
 | .ret v=>Q (.ret v) au
theorem zij{bd:SG}{body:SS}{Q:Fl->Store->Prop}(I:Nat->DS->Store->Prop):∀(xs:List D) (k:Nat) (σ:DS) (au:Store),I k σ au ->
  (∀i x σ au,xs[i]?=some x->I (k+i) σ au->∃σ1,bd x σ=some σ1/\WP (body σ1 au) (loopK (I (k+i+1)) Q))->(∀σ au,I (k+xs.length) σ au->Q (.nx σ) au)->WP (forF bd body xs σ au) Q
 | [],k,σ,au,h,_,q=>q σ au h
 | x::xs,k,σ,au,h,s,q=>by
  obtain⟨σ1,e1,w⟩:=s 0 x σ au rfl h;obtain⟨fl,st2,e2,w⟩:=w.get;unfold forF;rw[e1];dsimp only;rw[e2]
  have go:∀σ2,I (k+0+1) σ2 st2->WP (forF bd body xs σ2 st2) Q:=λσ2 h2=>zij I xs (k+1) σ2 st2 h2 (λi y σ au hy hi=>by
   have:=s (i+1) y σ au (by simpa using hy) (by rw[show k+(i+1)=k+1+i by lia];exact hi);rw[show k+(i+1)+1=k+1+i+1 by lia] at this
   exact this) (λσ au h=>q σ au (by rw[xbx,show k+(xs.length+1)=k+1+xs.length by lia];exact h))
  cases fl with
  | nx σ2=>exact go σ2 w
  | ct σ2=>exact go σ2 w
  | brk σ2=>exact w
  | ret v=>exact w
theorem zgp(I:Nat->DS->Store->Prop) (h0:I 0 σ au)
  (s:∀i x σ au,xs[i]?=some x->I i σ au->∃σ1,bd x σ=some σ1/\WP (body σ1 au) (loopK (I (i+1)) Q))(q:∀σ au,I xs.length σ au->Q (.nx σ) au):WP (forF bd body xs σ au) Q :=
 zij I xs 0 σ au h0 (λi x σ au hx hi=>by rw[xdr] at hi ⊢;exact s i x σ au hx hi) λσ au h=>q σ au (by rw[xdr] at h;exact h)
theorem L:(∀{I:DS->Store->Prop} {Q:Fl->Store->Prop} {σ:DS} {au:Store},loopK I Q (.nx σ) au=I σ au)
 /\ (∀{I:DS->Store->Prop} {Q:Fl->Store->Prop} {σ:DS} {au:Store},loopK I Q (.ct σ) au=I σ au)
 /\ (∀{I:DS->Store->Prop} {Q:Fl->Store->Prop} {σ:DS} {au:Store},loopK I Q (.brk σ) au=Q (.nx σ) au)
 /\ (∀{I:DS->Store->Prop} {Q:Fl->Store->Prop} {v:D} {au:Store},loopK I Q (.ret v) au=Q (.ret v) au):=⟨rfl,rfl,rfl,rfl⟩
theorem zey{bd:SG}{c:ST}{f:SE}(I:Nat->List D->DS->Store->Prop):∀(xs:List D) (k:Nat) (acc:List D) (σ:DS) (au:Store) (Q:List D->Store->Prop),I k acc σ au ->
  (∀i x acc σ au,xs[i]?=some x->I (k+i) acc σ au->∃σ1,bd x σ=some σ1/\WP (c σ1 au) (λb st1=>if b=true then WP (f σ1 st1) (λy st2=>I (k+i+1) (acc++[y]) σ1 st2) else I (k+i+1) acc σ1 st1)) ->
  (∀ys σ au,I (k+xs.length) (acc++ys) σ au->Q ys au)->WP (compF bd c f xs σ au) Q
 | [],k,acc,σ,au,Q,h,_,q=>q [] σ au (by rw[xct];exact h)
 | x::xs,k,acc,σ,au,Q,h,s,q=>by
  obtain⟨σ1,e1,w⟩:=s 0 x acc σ au rfl h;obtain⟨b,st1,e2,w⟩:=w.get;have s':∀i y acc σ au,xs[i]?=some y->I (k+1+i) acc σ au->∃σ1,bd y σ=some σ1/\WP (c σ1 au) (λb st1=>if b=true then WP (f σ1 st1) (λy st2=>I (k+1+i+1) (acc++[y]) σ1 st2) else I (k+1+i+1) acc σ1 st1):=λi y acc σ au hy hi=>by
   have:=s (i+1) y acc σ au (by simpa using hy) (by rw[show k+(i+1)=k+1+i by lia];exact hi);rw[show k+(i+1)+1=k+1+i+1 by lia] at this;exact this
  have ln:∀(zs:List D) σ au,I (k+1+xs.length) zs σ au->I (k+(x::xs).length) zs σ au:=λzs σ au h=>by rw[xbx,show k+(xs.length+1)=k+1+xs.length by lia];exact h
  unfold compF;rw[e1];dsimp only;rw[e2];dsimp only[zft];cases b with
  | false =>
   rw[if_neg (by decide)] at w ⊢;exact zey I xs (k+1) acc σ1 st1 Q w s' λys σ au h=>q ys σ au (ln _ _ _ h)
  | true =>
   rw[if_pos rfl] at w ⊢;obtain⟨y,st2,e3,w⟩:=w.get;rw[e3];dsimp only[zft];rw[ze];exact zey I xs (k+1) (acc++[y]) σ1 st2 _ w s' λys σ au h=>q (y::ys) σ au (ln _ _ _ (by rw[xcj] at h;exact h))
theorem zzs(I:Nat->List D->DS->Store->Prop) (h0:I 0 [] σ au)
  (s:∀i x acc σ au,xs[i]?=some x->I i acc σ au->∃σ1,bd x σ=some σ1/\WP (c σ1 au) (λb st1=>if b=true then WP (f σ1 st1) (λy st2=>I (i+1) (acc++[y]) σ1 st2) else I (i+1) acc σ1 st1))
  (q:∀ys σ au,I xs.length ys σ au->Q ys au):WP (compF bd c f xs σ au) Q :=
 zey I xs 0 [] σ au Q h0 (λi x acc σ au hx hi=>by rw[xdr] at hi ⊢;exact s i x acc σ au hx hi) λys σ au h=>q ys σ au (by rw[xdr] at h;simpa using h)
theorem zry{bd:SG}{c:ST}{f:SE}{α:Type}(S:DS->Prop)(P:α->Bool)(G:α->D)(E:α->D){as:List α}{σ:DS}{au:Store}{Q:List D->Store->Prop}(h0:S σ)
  (s:∀x∈as,∀σ,S σ->∃σ1,bd (E x) σ=some σ1/\S σ1/\WP (c σ1 au) (λb st1=>st1=au/\b=P x)/\(P x=true->WP (f σ1 au) (λy st1=>st1=au/\y=G x)))
  (q:Q ((as.filter P).map G) au):WP (compF bd c f (as.map E) σ au) Q:=by
 refine zzs (λi acc σ s'=>S σ/\s'=au/\acc=((as.take i).filter P).map G) ⟨h0,rfl,rfl⟩ (λi x acc σ s' hx hI=>?_) λys σ s' hI=>?_
 ·obtain⟨hS,rfl,rfl⟩:=hI;rw[xcn] at hx;obtain⟨z,hz,rfl⟩:=xde.mp hx;obtain⟨σ1,e1,hS1,w1,w2⟩:=s z (xcg hz) σ hS;refine⟨σ1,e1,w1.mono λb st1 hb=>?_⟩;obtain⟨rfl,rfl⟩:=hb;cases hP:P z with
  | false =>
   rw[if_neg (by decide)];refine⟨hS1,rfl,?_⟩;rw[zp hz,xge,xcz (by rw[hP];decide)];simp
  | true =>
   rw[if_pos rfl];refine(w2 hP).mono λy st2 hy=>?_
   obtain⟨rfl,rfl⟩:=hy;refine⟨hS1,rfl,?_⟩;rw[zp hz,xge,xcr hP,xgj];simp
 ·obtain⟨_,rfl,rfl⟩:=hI;rw[xbc,xcp];exact q
theorem V:(∀{α:Type} {a b:α} {l:List α},(a::l).set 0 b=b::l)
 /\ (∀{α:Type} {a b:α} {l:List α} {i:Nat},(a::l).set (i+1) b=a::l.set i b)
 /\ (∀{σ:DS} {k:Nat} {is:List Nat},aV k is σ=List.replicate k none++is.map λi=>(σ[i]?).getD none)
 /\ (∀{α:Type} {a:α} {k:Nat},List.replicate (k+1) a=a::List.replicate k a)
 /\ (∀{α:Type} {a:α},List.replicate 0 a=[])
 /\ (∀{α β:Type} {f:α->β} {a:α} {l:List α},(a::l).map f=f a::l.map f)
 /\ (∀{α β:Type} {f:α->β},([]:List α).map f=[])
 /\ (∀{α:Type} {a:α} {l m:List α},(a::l)++m=a::(l++m))
 /\ (∀{α:Type} {l:List α},[]++l=l)
 /\ (∀{α:Type} {a:α} {l:List α},(a::l)[0]?=some a)
 /\ (∀{α:Type} {a:α} {l:List α} {i:Nat},(a::l)[i+1]?=l[i]?)
 /\ (∀{α:Type} {a:α} {d:α},(some a).getD d=a)
 /\ (∀{i:Nat} {d:D} {σ:DS},gN i d σ=some (σ.set i (some d)))
 /\ (∀{p:Prop} [Decidable p],(decide p=true)=p)
 /\ (∀{p:Prop} [Decidable p],((!decide p)=true)=¬ p)
 /\ (∀{b:Bool},((!b)=true)=(b=false))
 /\ (∀{a b:Prop},(if True then a else b)=a)
 /\ (∀{a b:Prop},(if False then a else b)=b)
 /\ (∀{a b:Prop},(if true=true then a else b)=a)
 /\ (∀{a b:Prop},(if false=true then a else b)=b)
 /\ (∀{α:Type} {a b:α},(if True then a else b)=a)
 /\ (∀{α:Type} {a b:α},(if False then a else b)=b)
 /\ ((true=false)=False)/\((false=true)=False)/\((true=true)=True)/\((false=false)=True)/\((¬ True)=False)/\((¬ False)=True):=by
 refine⟨rfl,rfl,rfl,rfl,rfl,rfl,rfl,rfl,rfl,rfl,?_,rfl,rfl,?_,?_,?_,rfl,rfl,rfl,rfl,rfl,rfl,by simp,by simp,by simp,by simp,by simp,by simp⟩
 ·intros;rfl
 ·intro p _;simp
 ·intro p _;simp
 ·intro b;simp
theorem M:(∀{f:SE} {σ:DS} {au:Store} {Q:Option Int->Store->Prop},WP (pSome f σ au) Q=WP (f σ au) (λv st1=>∃i,v=.int i/\Q (some i) st1))
 /\ (∀{σ:DS} {au:Store} {Q:Option Int->Store->Prop},WP (pNone σ au) Q=Q none au)
 /\ (∀{f:SE} {lo hi:DS->Store->Res (Option Int)} {σ:DS} {au:Store} {Q:D->Store->Prop},WP (eSl f lo hi σ au) Q=WP (f σ au) (λx st1=>WP (lo σ st1) (λl st2=>WP (hi σ st2) (λh st3=>(∃xs,x=.tup xs/\Q (.tup (cutD xs l h)) st3)\/(∃xs,asL st3 x=some xs/\Q (.lst (cutD xs l h)) st3)))))
 /\ (∀{f:SE} {σ:DS} {au:Store} {Q:D->Store->Prop},WP (eFz f σ au) Q=WP (f σ au) (λx st1=>∃n xs,x=.ref n/\st1[n]?=some (.lst xs)/\Q (.lst xs) (st1.set n .dead)))
 /\ (∀{f g h:SE} {σ:DS} {au:Store} {Q:Fl->Store->Prop},WP (sSetIx f g h σ au) Q=WP (h σ au) (λv st1=>WP (f σ st1) (λx st2=>WP (g σ st2) (λy st3=>∃n k xs j,x=.ref n/\y=.int k/\st3[n]?=some (.lst xs)/\ixN xs.length k=some j/\Q (.nx σ) (st3.set n (.lst (xs.set j v)))))))
 /\ (∀{f:SE} {g:SA} {σ:DS} {au:Store} {Q:D->Store->Prop},WP (eAppend f g σ au) Q=WP (f σ au) (λx st1=>∃n xs0,x=.ref n/\st1[n]?=some (.lst xs0)/\WP (g σ st1) (λys st2=>∃y xs,ys=[y]/\st2[n]?=some (.lst xs)/\xs.length<sizeLine/\Q .non (st2.set n (.lst (xs++[y]))))))
 /\ (∀{x:D} {au:Store} {Q:D->Store->Prop},WP (bSum [x] au) Q=∃ns,(seqOf au x).bind asInts=some ns/\Q (.int ns.sum) au)
 /\ (∀{x:D} {al:Bool} {au:Store} {Q:D->Store->Prop},WP (bAny al [x] au) Q=∃bs,(asL au x).bind asBools=some bs/\Q (.bl (if al then bs.all id else bs.any id)) au)
 /\ (∀{x:D} {gt:Bool} {au:Store} {Q:D->Store->Prop},WP (bBest gt [x] au) Q=∃n ns,(seqOf au x).bind asInts=some (n::ns)/\Q (.int (bestI gt n ns)) au)
 /\ (∀{g:SA} {σ:DS} {au:Store} {Q:List D->Store->Prop},WP (iZipT g σ au) Q=WP (g σ au) (λxs st1=>∃a b,xs=[.tup a,.tup b]/\Q (pairsF a b) st1))
 /\ (∀{i:Nat} {g:D->D->Store->Res D} {f:SE} {σ:DS} {au:Store} {Q:Fl->Store->Prop},WP (sAug i g f σ au) Q=∃x,σ[i]?=some (some x)/\WP (f σ au) (λy st1=>WP (g x y st1) (λz st2=>Q (.nx (σ.set i (some z))) st2))):=by
 refine⟨?_,rfl,?_,?_,?_,?_,?_,?_,?_,?_,?_⟩
 ·intros;rw[zbib,ze];congr;funext x st1
  cases x<;>simp[WP]
 ·intros;rw[zbtb,ze];congr;funext x st1;rw[ze];congr;funext l st2;rw[ze];congr;funext h st3
  apply propext;split
  ·constructor
   ·intro q;exact .inl ⟨_,rfl,q⟩
   ·rintro(⟨xs,e,q⟩|⟨xs,e,q⟩)
    ·cases e;exact q
    ·cases e
  ·rename_i hne;constructor
   ·intro q;split at q
    ·rename_i xs e;exact .inr ⟨xs,e,q⟩
    ·exact q.elim
   ·rintro(⟨xs,e,q⟩|⟨xs,e,q⟩)
    ·exact absurd e (hne xs)
    ·rw[e];exact q
 ·intros;rw[zbtf,ze];congr;funext x st1
  apply propext;constructor
  ·intro q;split at q
   ·split at q
    ·rename_i xs e;exact⟨_,xs,rfl,e,q⟩
    ·exact q.elim
   ·exact q.elim
  ·rintro⟨n,xs,rfl,e,q⟩;dsimp only;rw[e];exact q
 ·intros;rw[zbcc,ze];congr;funext v st1;rw[ze];congr;funext x st2;rw[ze];congr;funext y st3
  apply propext;constructor
  ·intro q;split at q
   ·split at q
    ·split at q
     ·exact⟨_,_,_,_,rfl,rfl,by assumption,by assumption,q⟩
     ·exact q.elim
    ·exact q.elim
   ·exact q.elim
  ·rintro⟨n,k,xs,j,rfl,rfl,e1,e2,q⟩;dsimp only;rw[e1];dsimp only;rw[e2];exact q
 ·intros;rw[zyu,ze];congr;funext x st1
  apply propext;constructor
  ·intro q;split at q
   ·rename_i n xs0 e;rw[ze] at q;have e':st1[n]?=some (.lst xs0):=by
     unfold asL at e;dsimp only at e;split at e
     ·cases e;assumption
     ·cases e
    refine⟨n,xs0,rfl,e',q.mono λys st2 h=>?_⟩;split at h
    ·split at h
     ·exact⟨_,_,rfl,by assumption,by assumption,h⟩
     ·exact h.elim
    ·exact h.elim
   ·exact q.elim
  ·rintro⟨n,xs0,rfl,e,q⟩;rw[zjm e];dsimp only;rw[ze];refine q.mono λys st2 h=>?_
   obtain⟨y,xs,rfl,e2,hl,h⟩:=h;rw[e2];dsimp only;rw[if_pos hl];exact h
 ·intro x au Q;unfold bSum;dsimp only;cases h:(seqOf au x).bind asInts with
  | none=>simp[WP]
  | some ns=>simp[WP]
 ·intro x al au Q;unfold bAny;dsimp only;cases h:(asL au x).bind asBools with
  | none=>simp[WP]
  | some ns=>simp[WP]
 ·intro x gt au Q;unfold bBest;dsimp only;cases h:(seqOf au x).bind asInts with
  | none=>simp[WP]
  | some ns =>
   cases ns with
   | nil=>simp[WP]
   | cons n ns =>
    apply propext;constructor
    ·intro q;exact⟨_,_,rfl,q⟩
    ·rintro⟨a,b,e,q⟩;cases e;exact q
 ·intro g σ au Q;unfold iZipT;rw[ze];congr;funext x st1
  apply propext;constructor
  ·intro q;split at q
   ·exact⟨_,_,rfl,q⟩
   ·exact q.elim
  ·rintro⟨a,b,rfl,q⟩;exact q
 ·intro i g f σ au Q;rw[zbmz];apply propext;constructor
  ·intro q;split at q
   ·rename_i x e;rw[ze] at q;exact⟨x,e,q.mono λy st1 h=>by rw[ze] at h;exact h⟩
   ·exact q.elim
  ·rintro⟨x,e,q⟩;rw[e];dsimp only;rw[ze];exact q.mono λy st1 h=>by rw[ze];exact h
theorem N:(∀{xs:List D} {P:List D->Prop},(∃ys,D.tup xs=D.tup ys/\P ys)=P xs)
 /\ (∀{i:Int} {P:Int->Prop},(∃j,D.int i=D.int j/\P j)=P i)
 /\ (∀{xs:List D} {au:Store} {P:List D->Prop},(∃ys,asL au (.tup xs)=some ys/\P ys)=False)
 /\ (∀{xs:List D} {au:Store} {P:List D->Prop},(∃ys,asL au (.lst xs)=some ys/\P ys)=P xs)
 /\ (∀{xs:List D} {P:List D->Prop},(∃ys,seqV (.tup xs)=some ys/\P ys)=P xs)
 /\ (∀{xs:List D} {P:List D->Prop},(∃ys,seqV (.lst xs)=some ys/\P ys)=P xs)
 /\ (∀{b:Bool} {au:Store} {P:Bool->Prop},(∃c,tru au (.bl b)=some c/\P c)=P b)
 /\ (∀{i:Int} {P:Int->Prop},(∃j,[D.int i]=[D.int j]/\P j)=P i)
 /\ (∀{i j:Int} {P:Int->Int->Prop},(∃k l,[D.int i,D.int j]=[D.int k,D.int l]/\P k l)=P i j)
 /\ (∀{x:D} {P:D->Prop},(∃y,[x]=[y]/\P y)=P x)
 /\ (∀{a b:List D} {P:List D->List D->Prop},(∃c d,[D.tup a,D.tup b]=[.tup c,.tup d]/\P c d)=P a b)
 /\ (∀{p:Prop},(p\/False)=p)/\(∀{p:Prop},(True/\p)=p):=by
 refine⟨?_,?_,?_,?_,?_,?_,?_,?_,?_,?_,?_,by simp,by simp⟩
 ·intros;apply propext;exact⟨λ⟨_,e,p⟩=>by cases e;exact p,λp=>⟨_,rfl,p⟩⟩
 ·intros;apply propext;exact⟨λ⟨_,e,p⟩=>by cases e;exact p,λp=>⟨_,rfl,p⟩⟩
 ·intros;apply propext;exact⟨λ⟨_,e,p⟩=>(by cases e),λp=>p.elim⟩
 ·intros;apply propext;exact⟨λ⟨_,e,p⟩=>by cases e;exact p,λp=>⟨_,rfl,p⟩⟩
 ·intros;apply propext;exact⟨λ⟨_,e,p⟩=>by cases e;exact p,λp=>⟨_,rfl,p⟩⟩
 ·intros;apply propext;exact⟨λ⟨_,e,p⟩=>by cases e;exact p,λp=>⟨_,rfl,p⟩⟩
 ·intros;apply propext;exact⟨λ⟨_,e,p⟩=>by cases e;exact p,λp=>⟨_,rfl,p⟩⟩
 ·intros;apply propext;exact⟨λ⟨_,e,p⟩=>by cases e;exact p,λp=>⟨_,rfl,p⟩⟩
 ·intros;apply propext;exact⟨λ⟨_,_,e,p⟩=>by cases e;exact p,λp=>⟨_,_,rfl,p⟩⟩
 ·intros;apply propext;exact⟨λ⟨_,e,p⟩=>by cases e;exact p,λp=>⟨_,rfl,p⟩⟩
 ·intros;apply propext;exact⟨λ⟨_,_,e,p⟩=>by cases e;exact p,λp=>⟨_,_,rfl,p⟩⟩
theorem zgj(hb:BagAt au n)(h1:1<=m)(h2:m<=1000000)(k:∀r st',0<=r->r<m->Drew au st' n->Q (.int r) st'):WP (zq [.ref n,.int m] au) Q:=by
 obtain⟨r,st',e,a1,a2,a3,_⟩:=zzu hb h1 (Int.lt_of_le_of_lt h2 (by decide +kernel));exact WP.of e (k r st' a1 a2 a3)
theorem zum(h:seqOf au x=some xs)(h2:L2.atI xs i=some d)(q:Q d au):WP (oIx x (.int i) au) Q:=WP.of (ztt h h2) q
theorem zbho{xs:List D}{i:Int}(h0:0<=i)(h1:i<xs.length)(q:∀d∈xs,Q d au):WP (oIx (.lst xs) (.int i) au) Q:=by
 obtain⟨j,rfl⟩:=xgo h0;have hj:j<xs.length:=by lia
 exact zum (xs:=xs) (d:=xs[j]) rfl (zbfm (xbe hj)) (q _ (xdi hj))
theorem zbqv{ns:List Int}{i:Nat}(hl:ns.length<=63)(hi:i<=100000)(k:∀g,BagAt (au++g) au.length->Q (.ref au.length) (au++g)):WP (zdl [.scr (ns.map .int),.int i] au) Q:=by
 obtain⟨c,x,hc,hx,e⟩:=zbqw (au:=au) hl hi;exact WP.of e (k _ ⟨c,x,by simp,hc,hx⟩)
def WX{α:Type} (r:Res α) (Q:α->Store->Prop) (E:Exc->Store->Prop):Prop:=match r with
 | .ok a au=>Q a au
 | .exc x au=>E x au
 | .stuck=>False
theorem WX.mono{α:Type}{r:Res α}{Q Q':α->Store->Prop} (h:WX r Q E)(k:∀a au,Q a au->Q' a au)(k':∀a au,E a au->E' a au):WX r Q' E':=by
 cases r with
 | ok a au=>exact k _ _ h
 | exc x au=>exact k' _ _ h
 | stuck=>exact h
theorem zbmj{α:Type}{f:DS->Store->Res α} {Q:α->Store->Prop}:WP (noX f σ au) Q=WP (f σ au) Q:=by
 unfold noX;cases f σ au<;>rfl
theorem zkt{α:Type}{f:DS->Store->Res α} {Q:α->Store->Prop} :WX (noX f σ au) Q E=WP (f σ au) Q:=by
 unfold noX;cases f σ au<;>rfl
theorem zku{α β:Type}{f:DS->Store->Res α} {g:α->Store->Res β}{Q:β->Store->Prop} :WX ((noX f σ au).bind g) Q E=WP (f σ au) (λa st1=>WX (g a st1) Q E):=by
 unfold noX;cases f σ au<;>rfl
def seqX(t:SS) (Q:Fl->Store->Prop) (E:Exc->Store->Prop):Fl->Store->Prop:=λfl au=>match fl with
 | .nx σ=>WX (t σ au) Q E
 | fl=>Q fl au
theorem VX:(∀{α:Type} {f:DS->Store->Res α} {σ:DS} {au:Store} {Q:α->Store->Prop},WP (noX f σ au) Q=WP (f σ au) Q)
 /\ (∀{f:SE} {σ:DS} {au:Store} {Q:D->Store->Prop} {E:Exc->Store->Prop},WX (noX f σ au) Q E=WP (f σ au) Q)
 /\ (∀{f:SS} {σ:DS} {au:Store} {Q:Fl->Store->Prop} {E:Exc->Store->Prop},WX (noX f σ au) Q E=WP (f σ au) Q)
 /\ (∀{s t:SS} {σ:DS} {au:Store} {Q:Fl->Store->Prop} {E:Exc->Store->Prop},WX (aD s t σ au) Q E=WX (s σ au) (seqX t Q E) E)
 /\ (∀{t:SS} {σ:DS} {au:Store} {Q:Fl->Store->Prop} {E:Exc->Store->Prop},seqX t Q E (.nx σ) au=WX (t σ au) Q E)
 /\ (∀{t:SS} {v:D} {au:Store} {Q:Fl->Store->Prop} {E:Exc->Store->Prop},seqX t Q E (.ret v) au=Q (.ret v) au)
 /\ (∀{c:ST} {s t:SS} {σ:DS} {au:Store} {Q:Fl->Store->Prop} {E:Exc->Store->Prop},WX (sIf (noX c) s t σ au) Q E=WP (c σ au) (λb st1=>if b=true then WX (s σ st1) Q E else WX (t σ st1) Q E))
 /\ (∀{c:Str} {g:SA} {σ:DS} {au:Store} {Q:Fl->Store->Prop} {E:Exc->Store->Prop},WX (sRaise c (noX g) σ au) Q E=WP (g σ au) (λxs st1=>xs.length<=sizeLine/\E ⟨c,[]⟩ st1))
 /\ (∀{F:DFn} {g:SA} {σ:DS} {au:Store} {Q:D->Store->Prop} {E:Exc->Store->Prop},WX (aE F (noX g) σ au) Q E=WP (g σ au) (λxs st1=>WX (F xs st1) Q E))
 /\ (∀{f:SE} {σ:DS} {au:Store} {Q:Fl->Store->Prop} {E:Exc->Store->Prop},WX (sRet f σ au) Q E=WX (f σ au) (λv st1=>Q (.ret v) st1) E)
 /\ (∀{f:SE} {σ:DS} {au:Store} {Q:Fl->Store->Prop} {E:Exc->Store->Prop},WX (sDrop f σ au) Q E=WX (f σ au) (λv st1=>Q (.nx σ) st1) E)
 /\ (∀{i:Nat} {f:SE} {σ:DS} {au:Store} {Q:Fl->Store->Prop} {E:Exc->Store->Prop},WX (aF i f σ au) Q E=WX (f σ au) (λv st1=>Q (.nx (σ.set i (some v))) st1) E)
 /\ (∀{it:SA} {bd:SG} {b:SS} {σ:DS} {au:Store} {Q:Fl->Store->Prop} {E:Exc->Store->Prop},WX (sFor (noX it) bd b σ au) Q E=WP (it σ au) (λxs st1=>WX (forF bd b xs σ st1) Q E))
 /\ (∀{i:Nat} {cs:List Str} {b u:SS} {σ:DS} {au:Store} {Q:Fl->Store->Prop},WP (sTry i cs b u σ au) Q=WX (b σ au) Q (λx st1=>x.cls∈cs/\WP (u (σ.set i (some (.exn x.cls x.at_))) st1) (λfl st2=>match fl with|.ret v=>Q (.ret v) st2|_=>False))):=by
 refine⟨zbmj,zkt,zkt,?_,rfl,rfl,?_,?_,?_,?_,?_,?_,?_,?_⟩
 ·intro s t σ au Q E;unfold aD;cases s σ au with
  | ok fl st1=>cases fl<;>rfl
  | exc x au=>rfl
  | stuck=>rfl
 ·intro c s t σ au Q E;show WX ((noX c σ au).bind _) Q E=_;rw[zku]
  congr;funext b st1
  split<;>rfl
 ·intro c g σ au Q E;show WX ((noX g σ au).bind _) Q E=_;rw[zku]
  congr;funext xs st1
  by_cases h:xs.length<=sizeLine
  ·rw[if_pos h];simp[WX,h]
  ·rw[if_neg h];simp[WX,h]
 ·intro F g σ au Q E;exact zku
 ·intro f σ au Q E;unfold sRet;cases f σ au<;>rfl
 ·intro f σ au Q E;unfold sDrop;cases f σ au<;>rfl
 ·intro i f σ au Q E;unfold aF;cases f σ au<;>rfl
 ·intro it bd b σ au Q E;exact zku
 ·intro i cs b u σ au Q;unfold sTry;cases b σ au with
  | ok fl st1=>rfl
  | stuck=>rfl
  | exc x st1 =>
   show WP (if x.cls∈cs then _ else _) Q=(x.cls∈cs/\_)
   by_cases h:x.cls∈cs
   ·rw[if_pos h];simp only[h,true_and];cases u (σ.set i (some (.exn x.cls x.at_))) st1 with
    | ok fl st2=>cases fl<;>rfl
    | exc _ _=>rfl
    | stuck=>rfl
   ·rw[if_neg h];simp[WP,h]
theorem zrx{ds:List D} (h:ds.length=np)(k:WX (b (ds.map some++List.replicate (n - np) none) au) (retK Q) E):WX (fnD n np b ds au) Q E:=by
 unfold fnD;rw[if_pos h];revert k;cases b (ds.map some++List.replicate (n - np) none) au with
 | ok fl st'=>cases fl<;>first|exact λq=>q|exact λq=>q.elim
 | exc x st'=>exact λq=>q
 | stuck=>exact λq=>q
theorem BagAt.lt(h:BagAt au n):n<au.length:=by obtain⟨c,x,e,_⟩:=h;exact zbd e
theorem BagAt.set(h:BagAt au n)(hk:k≠n):BagAt (au.set k o) n:=by
 obtain⟨c,x,e,h1,h2⟩:=h;exact⟨c,x,by rw[xcu hk];exact e,h1,h2⟩
theorem znv{r:List Int}{P:Int->Prop}(h:∀x∈r,P x){y:Int}(hy:P y):∀x∈r++[y],P x:=λx hx=>by
 rcases xbz.mp hx with hx|hx
 ·exact h x hx
 ·simp at hx;subst hx;exact hy
theorem zgx{α:Type}(l:List α):(l.filter λ_=>true)=l:=List.filter_eq_self.mpr (by simp)
theorem zsi(l:List Int)(j:Nat):(l.drop j++l.take j).length=l.length:=by rw[xbl,Nat.add_comm,← xbl,xdm]
theorem zbbu{l:List Int} (h:l.length<=sizeLine):aN (.lst ((l.drop j).map .int)) (.lst ((l.take j).map .int)) s=.ok (.lst ((l.drop j++l.take j).map .int)) s:=by
 show(if _<=sizeLine then Res.ok (D.lst _) s else .stuck)=_;rw[if_pos,xgj];rw[xbc,xbc,← xbl,zsi];exact h
theorem zbin{l:List (List Int)}(hx:seqV x=some (aJ l))(hl:l.length<=1000000)(k:∀g,Q (aK (aP l)) (au++g)):WP (zck [x] au) Q:=by
 have h1:=zei l;obtain⟨g,e⟩:=zrm (au:=au) hx (by lia) (by lia);exact WP.of e (k g)
theorem zbjz [Decidable p] (q:Q (.int (if p then b else a)) au):WP (oIx (.lst [.int a,.int b]) (.int (if p then 1 else 0)) au) Q:=by
 by_cases h:p
 ·simp only[h,xeq] at q ⊢;exact zum (xs:=[.int a,.int b]) rfl rfl q
 ·simp only[h,xen] at q ⊢;exact zum (xs:=[.int a,.int b]) rfl rfl q
theorem zeq(h:WP (s σ au) R)(k:∀fl s',R fl s'->seqK t Q fl s'):WP (aD s t σ au) Q:=by
 rw[zbgf];exact h.mono k
theorem zbjw(h:au[n]?=some (.dT (aR ks)))(hl:ks.length<=1000000)(q:Q .non (au.set n (.dT (aR (aQ ks k))))):WP (zrt [.ref n,aM k] au) Q:=WP.of (zbjx h hl) q
theorem zwy(h:au[n]?=some (.dT (aR ks)))(hl:ks.length<=1000000)(q:Q (.lst (aJ (sortR ks))) au):WP (bSorted [.ref n] au) Q:=WP.of (zqv h hl) q
end Dd
namespace K03
end K03
namespace K13
open PySem PyProof.Rows
theorem zbdo(a b:Nat):(a &&& b) / 2=a / 2 &&& b / 2:=xms
theorem zbdn(a b:Nat):(a &&& b) % 2=(a % 2) * (b % 2):=by
 have q:=@Nat.and_mod_two_eq_one a b;rcases xeh a with h|h<;>rcases xeh b with h'|h'<;>rw[h,h'] at q ⊢<;>lia
noncomputable abbrev In(e y:Nat):Prop:=e &&& y=y
theorem zpt :In a b↔(In (a / 2) (b / 2)/\¬ (b % 2=1/\a % 2=0)):=K07.zyk a b
theorem In.le(h:In e y):y<=e:=by rw[← h];exact Nat.and_le_left
theorem zbap(e:Nat):In e 0:=Nat.and_zero e
theorem zbjl(e:Nat):In e e:=Nat.and_self e
theorem zbjn(e x:Nat):In e (e &&& x):=by unfold In;rw[← Nat.and_assoc,Nat.and_self]
theorem zbdw:∀(e y:Nat),In e y->In e (e - y):=λe=>by
 induction e using Nat.strongRecOn with
 | ind e ih =>
  intro y h;by_cases z:e=0
  ·subst z;rw[Nat.zero_sub];exact zbap 0
  obtain⟨h1,h2⟩:=zpt.mp h;have i:=ih (e / 2) (by lia) (y / 2) h1;have l1:=h1.le;refine zpt.mpr ⟨?_,?_⟩
  ·rw[show(e - y) / 2=e / 2 - y / 2 by lia];exact i
  ·rintro⟨a,b⟩;lia
theorem zbjm:∀(e d q:Nat),In e d->In e q->q<d->q<=e &&& (d - 1):=λe=>by
 induction e using Nat.strongRecOn with
 | ind e ih =>
  intro d q hd hq lt;by_cases z:e=0
  ·subst z;have:=hd.le;lia
  obtain⟨d1,d2⟩:=zpt.mp hd;obtain⟨q1,q2⟩:=zpt.mp hq;have e1:=zbdo e (d - 1);have e2:=zbdn e (d - 1);rcases xeh d with c|c
  ·rw[show(d - 1) / 2=d / 2 - 1 by lia] at e1;rw[show(d - 1) % 2=1 by lia,Nat.mul_one] at e2;have i:=ih (e / 2) (by lia) (d / 2) (q / 2) d1 q1 (by lia);have:q % 2<=e % 2:=by lia
   lia
  ·rw[show(d - 1) / 2=d / 2 by lia,d1] at e1;lia
noncomputable def nxt(e j:Nat):Nat:=e - (e &&& (e - j - 1))
theorem zbiq(h:j<e):j<nxt e j:=by
 have:=xgp (@Nat.and_le_right e (e - (j+1))) e;rw[Nat.sub_sub_self h] at this;exact this
theorem zboe(e j:Nat):nxt e j<=e:=xgh _ _
theorem zbof(e j:Nat):In e (nxt e j):=zbdw e _ (zbjn e _)
theorem zxv(hj:In e j)(hm:In e m)(lt:j<m):nxt e j<=m:=by
 have l1:=hm.le;have:=zbjm e (e - j) (e - m) (zbdw e j hj) (zbdw e m hm) (Nat.sub_lt_sub_left (xbh lt l1) lt);exact Nat.sub_le_of_le_add (Nat.add_comm _ m ▸ Nat.sub_le_iff_le_add.mp this)
theorem zbip{e j:Nat}(h:j<e):Builtin.bitAnd ((j:Int) - (e:Int)) (e:Int)=(nxt e j:Nat):=by
 rw[bitAnd_np (by lia) (by lia)];have e1:(Builtin.bitNot ((j:Int) - (e:Int))).toNat=e - j - 1:=by
  unfold Builtin.bitNot;lia
 rw[e1,xgk];have:=@Nat.and_le_left e (e - j - 1);unfold nxt;lia
noncomputable def subL(e:Nat) (lo hi:Int) (n:Nat):List Nat:=(List.range n).filter λx=>decide (e &&& x=x/\lo<=x/\(x:Int)<=hi)
theorem zjt(e:Nat)(lo hi:Int)(n:Nat):subL e lo hi (n+1)=subL e lo hi n++(if e &&& n=n/\lo<=n/\(n:Int)<=hi then[n] else[]):=by
 unfold subL;rw[xky,xge]
 congr 1
 by_cases c:e &&& n=n/\lo<=n/\(n:Int)<=hi
 ·rw[if_pos c];exact xcr (p:=λx:Nat=>decide (e &&& x=x/\lo<=x/\(x:Int)<=hi)) (xcs c)
 ·rw[if_neg c];exact xcz (p:=λx:Nat=>decide (e &&& x=x/\lo<=x/\(x:Int)<=hi)) (by rw[xcc c];decide)
theorem zju{e:Nat}{lo hi:Int}{n:Nat}:∀(k:Nat),(∀x,n<=x->x<n+k->¬ (e &&& x=x/\lo<=x/\(x:Int)<=hi))->subL e lo hi (n+k)=subL e lo hi n
 | 0,_=>rfl
 | k+1,h=>by
  rw[← Nat.add_assoc,zjt,if_neg (h _ (by lia) (by lia)),xct];exact zju k λx h1 h2=>h x h1 (by lia)
theorem zmw(e:Nat)(lo hi:Int)(n:Nat):(subL e lo hi n).length<=n:=by
 have:=xku (λx=>decide (e &&& x=x/\lo<=x/\(x:Int)<=hi)) (List.range n);rw[xfe] at this;exact this
def sharesL(e:Nat) (lo hi:Int):List Nat:=subL e lo hi (e+1)
theorem zej{e j:Nat}{lo hi:Int}:j∈sharesL e lo hi↔(In e j/\lo<=j/\(j:Int)<=hi):=by
 unfold sharesL subL;rw[xfu,xck,xmd];exact⟨λh=>h.2,λh=>⟨xlv h.1.le,h⟩⟩
theorem zwv{e j:Nat}{lo hi:Int}(hj:In e j)(lt:j<e)(hh:(j:Int)<=hi):subL e lo hi (nxt e j)=subL e lo hi j++(if lo<=j then[j] else[]):=by
 have g:=zbiq lt;obtain⟨k,hk⟩:∃k,nxt e j=(j+1)+k:=⟨nxt e j - (j+1),(xci g).symm⟩
 rw[hk,zju k λx h1 h2 c=>?_,zjt]
 ·congr 1
  by_cases c:lo<=j
  ·rw[if_pos ⟨hj,c,hh⟩,if_pos c]
  ·rw[if_neg λz=>c z.2.1,if_neg c]
 ·have:=zxv hj c.1 (by lia);lia
theorem znd{e j:Nat}{lo hi:Int}(hj:In e j)(hh:hi<j):sharesL e lo hi=subL e lo hi j:=by
 have:=hj.le;obtain⟨k,hk⟩:∃k,e+1=j+k:=⟨e+1 - j,(xci (xft this)).symm⟩
 unfold sharesL;rw[hk];exact zju k λx h1 h2 c=>by lia
theorem zqy{e:Nat}{lo hi:Int}(hh:(e:Int)<=hi):sharesL e lo hi=subL e lo hi e++(if lo<=e then[e] else[]):=by
 unfold sharesL;rw[zjt]
 congr 1
 by_cases c:lo<=e
 ·rw[if_pos ⟨zbjl e,c,hh⟩,if_pos c]
 ·rw[if_neg λz=>c z.2.1,if_neg c]
end K13
namespace Dd
open PySem L2 K13
theorem zjq(I:Nat->DS->Store->Prop) (h0:I k σ au)(hm:k<1000000)
  (s:∀j σ au,I j σ au->WP (c σ au) (λb st1=>if b=true then WP (body σ st1) (loopK (λσ2 st2=>∃i,i<j/\I i σ2 st2) Q) else Q (.nx σ) st1)):WP (sWhile c body σ au) Q:=by
 have main:∀n j σ au,I j σ au->j<n->WP (whileF c body n σ au) Q:=by
  intro n
  induction n with
  | zero=>intro j σ au _ h;lia
  | succ n ih =>
   intro j σ au hI hlt;obtain⟨b,st1,e1,w⟩:=(s j σ au hI).get;unfold whileF;rw[e1];dsimp only[zft];cases b with
   | false=>exact w
   | true =>
    rw[if_pos rfl] at w ⊢;obtain⟨fl,st2,e2,w⟩:=w.get;rw[e2];cases fl with
    | nx σ2=>obtain⟨i,hi,h⟩:=w;exact ih i σ2 st2 h (by lia)
    | ct σ2=>obtain⟨i,hi,h⟩:=w;exact ih i σ2 st2 h (by lia)
    | brk σ2=>exact w
    | ret v=>exact w
 exact main wCap k σ au h0 hm
noncomputable def dN(j:Nat):D:=.int (j:Int)
theorem zxb{e:Nat}{lo hi:Int}(he:e<=100000)(k:∀g,Q (.lst ((sharesL e lo hi).map dN)) (au++g)):WP (zib [.int e,.int lo,.int hi] au) Q:=by
 refine zik rfl ?_;simp only[W,V];refine⟨small _ (by simp),?_⟩;have fin:∀(xs:List Nat) (v:Option D),xs=sharesL e lo hi->WP (sRet (eFz (aA 3)) [some (.int e),some (.int lo),some (.int hi),some (.ref au.length),v] (au++[.lst (xs.map dN)])) (retK Q):=λxs v h=>by
  subst h;simp only[W,V,M];refine⟨_,_,rfl,by simp;rfl,?_⟩;have:=k [.dead]
  simpa using this
 refine zjq (λm σ s=>∃j:Nat,m=e - j/\σ=[some (.int e),some (.int lo),some (.int hi),some (.ref au.length),some (.int j)]/\In e j/\s=au++[.lst ((subL e lo hi j).map dN)]) (k:=e) ⟨0,rfl,rfl,zbap e,rfl⟩ (by lia) ?_;rintro m σ s ⟨j,rfl,rfl,hj,rfl⟩;simp only[W,V,Dd.N];have hle:=hj.le;split
 ·rename_i hh;unfold zjn;refine zeq (R:=λfl s=>fl=.nx [some (.int e),some (.int lo),some (.int hi),some (.ref au.length),some (.int j)]/\s=au++[.lst ((subL e lo hi j++(if lo<=j then[j] else[])).map dN)]) ?_ ?_
  ·simp only[W,V,M,Dd.N];split
   ·rename_i c;have hlen:=zmw e lo hi j;refine⟨_,_,rfl,by simp;rfl,_,_,rfl,by simp;rfl,by rw[xbc];exact smallT _ (by lia),?_⟩;simp[dN,c]
   ·rename_i c;simp[c]
  ·rintro fl s ⟨rfl,rfl⟩;simp only[W,V,L];split
   ·rename_i c;have c':j=e:=by lia
    subst c';have:=fin (subL j lo hi j++(if lo<=j then[j] else[])) (some (.int j)) (zqy hh).symm;simp only[W,V] at this;exact this
   ·rename_i c;have lt:j<e:=by lia
    have g:=zbiq lt;have g2:=zboe e j;refine⟨trivial,trivial,e - nxt e j,by lia,nxt e j,rfl,?_,zbof e j,?_⟩
    ·rw[zbip lt]
    ·rw[zwv hj lt hh]
 ·rename_i hh;have:=fin (subL e lo hi j) (some (.int j)) (znd hj (by lia)).symm;simp only[W,V] at this;exact this
noncomputable abbrev Pt:=List Int×Int
def ptD(p:Pt):D:=.tup [aM p.1,.int p.2]
def letJ(e:Nat) (rest:Int) (p:Pt):List Pt:=(sharesL e (p.2 - rest) p.2).map λj:Nat=>(p.1++[(e:Int)+(j:Int)],p.2 - (j:Int))
def letL(e:Nat) (rest:Int) (ps:List Pt):List Pt:=ps.flatMap (letJ e rest)
theorem zbdk(e:Nat)(rest:Int)(p:Pt):(letJ e rest p).length<=e+1:=by
 unfold letJ;rw[xbc];exact zmw _ _ _ _
theorem znx(e:Nat)(rest:Int):∀ps:List Pt,(letL e rest ps).length<=ps.length * (e+1)
 | []=>by simp[letL]
 | p::ps=>by
  have e1:letL e rest (p::ps)=letJ e rest p++letL e rest ps:=by simp[letL]
  have:=znx e rest ps;have:=zbdk e rest p;rw[e1,xbl,xbx,xmm];lia
theorem zye(e:Nat)(rest:Int)(ps:List Pt)(p:Pt):letL e rest (ps++[p])=letL e rest ps++letJ e rest p:=by simp[letL]
theorem zbdg{e:Nat}{rest:Int} :q∈letL e rest ps↔∃p∈ps,∃j:Nat,j∈sharesL e (p.2 - rest) p.2/\q=(p.1++[(e:Int)+(j:Int)],p.2 - (j:Int)):=by
 unfold letL letJ;simp only[xfz,xce];constructor
 ·rintro⟨p,hp,j,hj,rfl⟩;exact⟨p,hp,j,hj,rfl⟩
 ·rintro⟨p,hp,j,hj,rfl⟩;exact⟨p,hp,j,hj,rfl⟩
theorem zss(o o':O)(g:Store):(au++o::g).set au.length o'=au++o'::g:=by simp
theorem zly(o:O)(g:Store):(au++o::g)[au.length]?=some o:=by simp
theorem zpm{α:Type}{f:α->D}{l:List α}{i:Nat}{x:D}(h:(l.map f)[i]?=some x):∃a,l[i]?=some a/\x=f a:=by
 rw[xcn] at h;obtain⟨a,h1,h2⟩:=xde.mp h;exact⟨a,h1,h2.symm⟩
section
variable {au:Store}{Q:D->Store->Prop}
theorem zho{e:Nat}{rest:Int}{ps:List Pt}(he:e<=1000)(hl:ps.length * (e+1)<=100000)(hr:∀p∈ps,p.1.length<=1000)(k:∀g,Q (.lst ((letL e rest ps).map ptD)) (au++g)):WP (zbn [.lst (ps.map ptD),.int e,.int rest] au) Q:=by
 refine zik rfl ?_;simp only[W,V,Dd.N];refine⟨small _ (by simp),?_⟩;refine zgp (λi σ s=>(∃v w z,σ=[some (.lst (ps.map ptD)),some (.int e),some (.int rest),some (.ref au.length),v,w,z])/\∃g,s=au++(.lst ((letL e rest (ps.take i)).map ptD)::g)) ⟨⟨_,_,_,rfl⟩,[],rfl⟩ ?_ ?_
 ·rintro i y σ s hy ⟨⟨v,w,z,rfl⟩,g,rfl⟩;obtain⟨p,hp,rfl⟩:=zpm hy;have hi:i<ps.length:=(xbj.mp hp).1;refine⟨_,rfl,?_⟩;unfold zcy;simp only[W,V,Dd.N];have hlen:(letL e rest (ps.take i)).length+(e+1)<=100000:=by
   have h1:=znx e rest (ps.take i);have h2:(ps.take i).length=i:=by rw[xdh];lia
   rw[h2] at h1;have h3:(i+1) * (e+1)<=ps.length * (e+1):=xiy _ hi;rw[xmm] at h3;lia
  refine zxb (by lia) λg2=>?_
  simp only[W,V,Dd.N];rw[xcj,xix];generalize g++g2=g3;have hsl:(sharesL e (p.2 - rest) p.2).length<=e+1:=zmw _ _ _ _;refine zgp (λj σ s=>(∃z,σ=[some (.lst (ps.map ptD)),some (.int e),some (.int rest),some (.ref au.length),some (aM p.1),some (.int p.2),z])/\s=au++(.lst ((letL e rest (ps.take i)++((sharesL e (p.2 - rest) p.2).take j).map λj:Nat=>(p.1++[(e:Int)+j],p.2 - (j:Int))).map ptD)::g3)) ⟨⟨_,rfl⟩,by simp⟩ ?_ ?_
  ·rintro j y σ s hy ⟨⟨z,rfl⟩,rfl⟩;obtain⟨a,ha,rfl⟩:=zpm hy;refine⟨_,rfl,?_⟩;unfold zcz dN;simp only[W,V,M,Dd.N,L];have h2:((sharesL e (p.2 - rest) p.2).take j).length<=(sharesL e (p.2 - rest) p.2).length:=by rw[xdh];exact xgq _ _
   have h3:=hr p (xcg hp);refine⟨_,_,rfl,zly _ _,small _ (by simp),by rw[xbc];exact small _ (by simp;lia),small _ (by simp),_,_,rfl,zly _ _,by rw[xbc,xbl,xbc];exact smallT _ (by lia),⟨_,rfl⟩,?_⟩;rw[zss,zp ha];simp[ptD,aM]
  ·rintro σ s ⟨⟨z,rfl⟩,rfl⟩;simp only[L];refine⟨⟨_,_,_,rfl⟩,g3,?_⟩;rw[xbc,xcp,zp hp,zye]
   rfl
 ·rintro σ s ⟨⟨v,w,z,rfl⟩,g,rfl⟩;rw[xbc,xcp];simp only[W,V,M,Dd.N];refine⟨_,_,rfl,zly _ _,?_⟩;rw[zss];exact k _
end
def stepP(s:Int×List Pt) (e:Int):Int×List Pt:=(s.1 - e,letL e.toNat (s.1 - e) s.2)
def prodS(r:List Int) (k:Int) (m:List Int):Int×List Pt:=m.foldl stepP (r.sum,[([],k)])
def prodP(r:List Int) (k:Int):List (List Int):=(prodS r k r).2.map (·.1)
noncomputable def box:List Int->Nat
 | []=>1
 | e::r=>(e.toNat+1) * box r
theorem zfs:∀a b:List Int,box (a++b)=box a * box b
 | [],b=>by simp[box]
 | e::a,b=>by rw[xix,box,box,zfs a b,Nat.mul_assoc]
theorem zbbi:∀a:List Int,1<=box a
 | []=>xbf _
 | e::a=>by have:=zbbi a;unfold box;exact xbb this (xkk _ (by lia))
theorem zbfj(r:List Int)(i:Nat):box (r.take i)<=box r:=by
 have e:=zfs (r.take i) (r.drop i);rw[xdm] at e;rw[e];exact Nat.le_mul_of_pos_right _ (zbbi _)
theorem zlm(r:List Int)(k:Int)(m:List Int)(e:Int):prodS r k (m++[e])=stepP (prodS r k m) e:=by unfold prodS;rw[xim];rfl
theorem zpf{r:List Int}{k:Int}{P:List Int->Int×List Pt->Prop}(h0:P [] (r.sum,[([],k)]))(h:∀m e s,P m s->P (m++[e]) (stepP s e)):∀(i:Nat),P (r.take i) (prodS r k (r.take i)):=λi=>by
 induction i with
 | zero=>exact h0
 | succ i ih =>
  by_cases c:i<r.length
  ·have g:r[i]?=some r[i]:=xbe c;rw[zp g,zlm];exact h _ _ _ ih
  ·rw[xdo (by lia)] at ih ⊢;exact ih
theorem zjz(r:List Int)(k:Int)(i:Nat):(prodS r k (r.take i)).2.length<=box (r.take i):=by
 refine zpf (P:=λm s=>s.2.length<=box m) (by simp[box]) (λm e s hs=>?_) i;have:=znx e.toNat (s.1 - e) s.2;rw[zfs];show(letL e.toNat (s.1 - e) s.2).length<=box m * ((e.toNat+1) * 1)
 rw[Nat.mul_one];exact xbb this (xiy _ hs)
theorem zxh(r:List Int)(k:Int)(i:Nat):∀p∈(prodS r k (r.take i)).2,p.1.length=(r.take i).length:=by
 refine zpf (P:=λm s=>∀p∈s.2,p.1.length=m.length) (by simp) (λm e s hs=>?_) i;intro q hq;obtain⟨p,hp,j,hj,rfl⟩:=zbdg.mp hq;rw[xbl,xbl,hs p hp]
 rfl
section
variable {au:Store}{Q:D->Store->Prop}
theorem zgq{r:List Int}{t:Int}(hp:∀x∈r,0<=x/\x<=1000)(hl:r.length<=1000)(hb:box r<=20000)(k:∀g,Q (.lst (aJ (prodP r t))) (au++g)):WP (zbf [aM r,.int t] au) Q:=by
 refine zik rfl ?_;simp only[W,V,M,Dd.N];refine⟨small _ (by simp),small _ (by simp),small _ (by simp),r,zci r,?_⟩;refine zgp (λi σ s=>(∃v,σ=[some (aM r),some (.int t),some (.lst ((prodS r t (r.take i)).2.map ptD)),some (.int (prodS r t (r.take i)).1),v])/\∃g,s=au++g) ⟨⟨_,rfl⟩,[],by simp⟩ ?_ ?_
 ·rintro i y σ s hy ⟨⟨v,rfl⟩,g,rfl⟩;obtain⟨e,he,rfl⟩:=zpm hy;refine⟨_,rfl,?_⟩;unfold zcq;obtain⟨h1,h2⟩:=hp e (xcg he);simp only[W,V,M,Dd.N,L];refine⟨_,rfl,?_⟩;have hlen:=zjz r t i;have hbx:=zbfj r (i+1);rw[zp he,zfs,show box [e]=e.toNat+1 by simp[box]] at hbx;have hm:(prodS r t (r.take i)).2.length * (e.toNat+1)<=20000:=xbb (xiy _ hlen) (xbb hbx hb);have hrow:=zxh r t i;rw[zp he,zlm];generalize prodS r t (r.take i)=s at hm hrow ⊢;obtain⟨a,rfl⟩:=xgo h1;refine zho (e:=a) (by lia) (by rw[xgk] at hm;lia) (λp hp=>?_) λg2=>?_
  ·rw[hrow p hp,xdh];lia
  ·simp only[W,V,L];exact⟨⟨_,rfl⟩,g++g2,by simp⟩
 ·rintro σ s ⟨⟨v,rfl⟩,g,rfl⟩;rw[xbc,xcp];simp only[W,V,M,Dd.N];have hlen:=zjz r t r.length;rw[xcp] at hlen;refine⟨by rw[xbc];exact small _ (by lia),?_⟩;refine zry (as:=(prodS r t r).2) (λσ=>∃v w,σ=[v,w]) (λ_=>true) (λp=>aM p.1) ptD ⟨_,_,rfl⟩ ?_ ?_
  ·rintro p hp σ ⟨v,w,rfl⟩;exact⟨_,rfl,⟨_,_,rfl⟩,by simp only[W,xju],λ_=>by simp only[W,V,xju]⟩
  ·rw[zgx];have:=k g;unfold prodP aJ at this;rw[xcw] at this;exact this
end
theorem zpg(r:List Int)(k:Int):(prodP r k).length<=box r:=by
 have:=zjz r k r.length;rw[xcp] at this;unfold prodP;rw[xbc];exact this
def raiseR(k:Int) (r:List Int):List (List Int):=if k<=r.sum then prodP r k else[]
def raiseL(k:Int) (l:List (List Int)):List (List Int):=l.flatMap (raiseR k)
theorem zta(h:box r<=B):(raiseR k r).length<=B:=by
 unfold raiseR;split
 ·exact xbb (zpg r k) h
 ·simp
theorem zhg :∀{l:List (List Int)},(∀r∈l,box r<=B)->(raiseL k l).length<=l.length * B
 | [],_=>by simp[raiseL]
 | r::l,h=>by
  have e:raiseL k (r::l)=raiseR k r++raiseL k l:=by simp[raiseL]
  have h1:=zta (k:=k) (h r xbp);have h2:=zhg (k:=k) (l:=l) λx hx=>h x (xbo _ hx)
  rw[e,xbl,xbx,xmm];lia
theorem zqz(k:Int)(l:List (List Int))(r:List Int):raiseL k (l++[r])=raiseL k l++raiseR k r:=by simp[raiseL]
theorem zxf(ht:0<=t)(hp:∀r∈l,∀x∈r,0<=x/\x<=1000)(hr:∀r∈l,r.length<=1000)(hb:∀r∈l,box r<=20000)(hl:l.length<=45)(k:∀g,Q (aK (aP (raiseL t l))) (au++g)):WP (zic [aK l,.int t] au) Q:=by
 refine zik rfl ?_;simp only[W,V,Dd.N];refine WP.of (zjg (au:=au) (i:=t)) ⟨true,rfl,?_⟩;have tn:¬ t<0:=by lia
 simp only[W,V,Dd.N,tn,xfc];have total:(raiseL t l).length<=900000:=by
  have:=zhg (k:=t) hb;lia
 refine zgp (λi σ s=>(∃v w,σ=[some (aK l),some (.int t),some (.ref au.length),v,w])/\∃g,s=au++(.dT (aR (aO (raiseL t (l.take i))))::g)) ⟨⟨_,_,rfl⟩,[],rfl⟩ ?_ ?_
 ·rintro i y σ s hy ⟨⟨v,w,rfl⟩,g,rfl⟩;obtain⟨r,hrr,rfl⟩:=zdh hy;have hm:=xcg hrr;have hi:i<l.length:=(xbj.mp hrr).1;refine⟨_,rfl,?_⟩;unfold zjo;simp only[W,V,M,Dd.N,L];refine⟨r,zci r,?_⟩;rw[zp hrr,zqz];have hlen:(aO (raiseL t (l.take i))).length<=900000:=by
   have h1:=zei (raiseL t (l.take i));have h2:=zhg (k:=t) (l:=l.take i) (B:=20000) λx hx=>hb x (xgi hx)
   have h3:(l.take i).length=i:=by rw[xdh];lia
   rw[h3] at h2;lia
  split
  ·rename_i c;have er:raiseR t r=prodP r t:=by unfold raiseR;rw[if_pos c]
   rw[er];refine zgq (hp r hm) (hr r hm) (hb r hm) λg2=>?_
   simp only[W,V,Dd.N];rw[xcj,xix];generalize g++g2=g3;have hpl:=xbb (zpg r t) (hb r hm);refine zgp (λj σ s=>(∃w,σ=[some (aK l),some (.int t),some (.ref au.length),some (aM r),w])/\s=au++(.dT (aR (((prodP r t).take j).foldl aQ (aO (raiseL t (l.take i)))))::g3)) ⟨⟨_,rfl⟩,rfl⟩ ?_ ?_
   ·rintro j y σ s hy ⟨⟨w,rfl⟩,rfl⟩;obtain⟨b,hb',rfl⟩:=zdh hy;refine⟨_,rfl,?_⟩;unfold zjp;simp only[W,V,L];have h1:=zki ((prodP r t).take j) (aO (raiseL t (l.take i))) (zfk _);have h2:((prodP r t).take j).length<=(prodP r t).length:=by rw[xdh];exact xgq _ _
    refine zbjw (ks:=((prodP r t).take j).foldl aQ (aO (raiseL t (l.take i)))) (zly _ _) (by lia) ⟨⟨_,rfl⟩,?_⟩;rw[zss,zp hb',xim]
    rfl
   ·rintro σ s ⟨⟨w,rfl⟩,rfl⟩;simp only[L];refine⟨⟨_,_,rfl⟩,g3,?_⟩;rw[zr,xcp];unfold aO;rw[xim]
  ·rename_i c;have er:raiseR t r=[]:=by unfold raiseR;rw[if_neg c]
   rw[er,xct]
   try simp only[L]
   exact⟨⟨_,_,rfl⟩,g,rfl⟩
 ·rintro σ s ⟨⟨v,w,rfl⟩,g,rfl⟩;rw[zr,xcp];simp only[W,V];have h1:=zei (raiseL t l);refine zwy (ks:=aO (raiseL t l)) (zly _ _) (by lia) ?_;simp only[W,V];exact k _
theorem ztz:∀{r:List Int},(∀x∈r,0<=x)->0<=r.sum
 | [],_=>by simp
 | x::r,h=>by
  have:=ztz (r:=r) λy hy=>h y (xbo _ hy)
  have:=h x xbp;rw[xjd];lia
theorem zboh:∀{r:List Int},(∀x∈r,0<=x)->∀x∈r,x<=r.sum
 | [],_,_,h=>nomatch h
 | y::r,h,x,hx=>by
  have h1:=λz hz=>h z (xbo y hz)
  have h2:=ztz h1;have h3:=h y xbp;rw[xjd];rcases xbn.mp hx with rfl|hx
  ·lia
  ·have:=zboh h1 x hx;lia
theorem zwx(e:Int)(suf:List Int)(ps:List Pt):(e::suf).foldl stepP ((e::suf).sum,ps)=suf.foldl stepP (suf.sum,letL e.toNat suf.sum ps):=by
 rw[xhf,xjd];unfold stepP;dsimp only;rw[show e+suf.sum - e=suf.sum by lia]
theorem zbbh:∀{r:List Int},(∀x∈r,x<=24)->box r<=25 ^ r.length
 | [],_=>xbf _
 | e::r,h=>by
  have h1:=h e xbp;have h2:=zbbh (r:=r) λx hx=>h x (xbo _ hx)
  rw[xbx,Nat.pow_succ,Nat.mul_comm];exact Nat.mul_le_mul (by lia) h2
theorem zbbg:∀{r:List Int},(∀x∈r,0<=x)->box r<=2 ^ r.sum.toNat
 | [],_=>by simp[box]
 | e::r,h=>by
  have h1:=h e xbp;have h1':=λx hx=>h x (xbo e hx)
  have h2:=zbbg h1';have h3:=ztz h1';rw[xjd,show(e+r.sum).toNat=e.toNat+r.sum.toNat by lia,Nat.pow_add];exact Nat.mul_le_mul (Nat.succ_le_of_lt Nat.lt_two_pow_self) h2
theorem zbbx(hb:BagAt au n)(h1:1<=m)(h2:m<2 ^ 1000)(k:∀r st',0<=r->r<m->Drew au st' n->Q (.int r) st'):WP (zq [.ref n,.int m] au) Q:=by
 obtain⟨r,st',e,a1,a2,a3,_⟩:=zzu hb h1 h2;exact WP.of e (k r st' a1 a2 a3)
end Dd
namespace K13
end K13
namespace Dd
open PySem L2 K13
theorem zot :WP (eExtend f g σ au) Q=WP (f σ au) (λx st1=>∃n xs0,x=.ref n/\st1[n]?=some (.lst xs0)/\WP (g σ st1) (λys st2=>∃y xs zs,ys=[y]/\st2[n]?=some (.lst xs)/\asL st2 y=some zs/\xs.length+zs.length<=sizeLine/\Q .non (st2.set n (.lst (xs++zs))))):=by
 rw[zyt,ze]
 congr
 funext x st1
 apply propext;constructor
 ·intro q;split at q
  ·rename_i n xs0 e;rw[ze] at q;have e':st1[n]?=some (.lst xs0):=by
    unfold asL at e;dsimp only at e;split at e
    ·cases e;assumption
    ·cases e
   refine⟨n,xs0,rfl,e',q.mono λys st2 h=>?_⟩;split at h
   ·split at h
    ·split at h
     ·exact⟨_,_,_,rfl,by assumption,by assumption,by assumption,h⟩
     ·exact h.elim
    ·exact h.elim
   ·exact h.elim
  ·exact q.elim
 ·rintro⟨n,xs0,rfl,e,q⟩;rw[zjm e];dsimp only;rw[ze];refine q.mono λys st2 h=>?_
  obtain⟨y,xs,zs,rfl,e2,e3,hl,h⟩:=h;rw[e2];dsimp only;rw[e3];dsimp only;rw[if_pos hl];exact h
def lawJ(e:Nat) (p:Pt):List Pt:=(sharesL e 0 p.2).map λj:Nat=>(p.1++[(e:Int)+(j:Int)],p.2 - (j:Int))
def lawL(e:Nat) (ps:List Pt):List Pt:=ps.flatMap (lawJ e)
theorem zbdh :q∈lawL e ps↔∃p∈ps,∃j:Nat,j∈sharesL e 0 p.2/\q=(p.1++[(e:Int)+(j:Int)],p.2 - (j:Int)):=by
 unfold lawL lawJ;simp only[xfz,xce];constructor
 ·rintro⟨p,hp,j,hj,rfl⟩;exact⟨p,hp,j,hj,rfl⟩
 ·rintro⟨p,hp,j,hj,rfl⟩;exact⟨p,hp,j,hj,rfl⟩
def lawStep(ps:List Pt) (e:Int):List Pt:=lawL e.toNat ps
def lawS(k:Int) (m:List Int):List Pt:=m.foldl lawStep [([],k)]
def lawP(k:Int) (r:List Int):List (List Int):=((lawS k r).filter λp=>decide (p.2=0)).map (·.1)
theorem zsr(h:0<=left):(sharesL e 0 left).filter (λj:Nat=>decide (left - (j:Int)<=S))=sharesL e (left - S) left:=by
 unfold sharesL subL;rw[xlo];refine xin λx _=>?_
 rw[← xmt];exact xgw.mpr ⟨λh=>⟨h.2.1,by lia,h.2.2.2⟩,λh=>⟨by lia,h.1,by lia,h.2.2⟩⟩
theorem zyf{e:Nat}{S:Int} (h:¬ p.2<=e+S):letJ e S p=[]:=by
 unfold letJ;have:sharesL e (p.2 - S) p.2=[]:=by
  refine xld.mpr λj hj=>?_
  obtain⟨h1,h2,h3⟩:=zej.mp hj;have:=h1.le;lia
 rw[this]
 rfl
theorem zbdm(h:0<=p.2):(lawJ e p).filter (λq=>decide (q.2<=S))=letJ e S p:=by
 unfold lawJ letJ;rw[xlc,← zsr h]
 rfl
theorem zui{e:Nat}{S:Int}:∀{ps:List Pt},(∀p∈ps,0<=p.2)->(lawL e ps).filter (λq=>decide (q.2<=S))=letL e S (ps.filter λp=>decide (p.2<=e+S))
 | [],_=>rfl
 | p::ps,h=>by
  have ih:=zui (e:=e) (S:=S) (ps:=ps) λq hq=>h q (xbo _ hq)
  have e1:lawL e (p::ps)=lawJ e p++lawL e ps:=by simp[lawL]
  rw[e1,xge,ih,zbdm (h p xbp)];by_cases c:p.2<=e+S
  ·rw[xcr (by simpa using c)];simp[letL]
  ·rw[xcz (by simpa using c),zyf c]
   rfl
theorem zqj:∀(suf:List Int) (ps:List Pt),(∀x∈suf,0<=x)->(∀p∈ps,0<=p.2)->(suf.foldl lawStep ps).filter (λp=>decide (p.2=0))=(suf.foldl stepP (suf.sum,ps.filter λp=>decide (p.2<=suf.sum))).2
 | [],ps,_,h=>by
  show ps.filter _=ps.filter _;refine xin λp hp=>?_
  have:=h p hp;exact xgw.mpr ⟨λz=>by simp;lia,λz=>by simp at z;lia⟩
 | e::suf,ps,hs,h=>by
  have h1:=λz hz=>hs z (xbo e hz)
  have h3:=hs e xbp;rw[zwx,xhf,zqj suf (lawStep ps e) h1 (λq hq=>?_)]
  ·unfold lawStep;rw[zui h,xjd,show((e.toNat:Nat):Int)=e by lia]
  ·obtain⟨p,hp,j,hj,rfl⟩:=zbdh.mp hq;obtain⟨j1,j2,j3⟩:=zej.mp hj;dsimp only;lia
theorem zox:∀(suf:List Int) (t:Int),(suf.foldl stepP (t,[])).2=[]
 | [],_=>rfl
 | e::suf,t=>by
  rw[xhf];exact zox suf (t - e)
theorem zbjc(h:∀x∈r,0<=x)(hk:0<=k):lawP k r=raiseR k r:=by
 unfold lawP lawS;rw[zqj r [([],k)] h (λp hp=>by rw[xbk.mp hp];exact hk)];unfold raiseR;by_cases c:k<=r.sum
 ·rw[if_pos c,xcr (by simpa using c)]
  rfl
 ·rw[if_neg c,xcz (by simpa using c)];show(r.foldl stepP (r.sum,[])).2.map _=[]
  rw[zox]
  rfl
theorem zyj(k:Int)(m:List Int)(e:Int):lawS k (m++[e])=lawStep (lawS k m) e:=by unfold lawS;rw[xim];rfl
end Dd
namespace K08
end K08
namespace Dd
open PySem L2 K13
def outL(e:Nat):List Int:=(sharesL e 0 e).map λj:Nat=>(e:Int)+(j:Int)
noncomputable def longL(rows:List (List Int)) (xs:List Int):List (List Int):=rows.flatMap λrow=>xs.map λx=>row++[x]
def wholeStep(rows:List (List Int)) (e:Int):List (List Int):=longL rows (outL e.toNat)
def wholeS(m:List Int):List (List Int):=m.foldl wholeStep [[]]
theorem zeh(m:List Int)(e:Int):wholeS (m++[e])=wholeStep (wholeS m) e:=by unfold wholeS;rw[xim];rfl
theorem zqx :(sharesL e 0 e).filter (λj:Nat=>decide ((j:Int)<=left))=sharesL e 0 left:=by
 unfold sharesL subL;rw[xlo];refine xin λx hx=>?_
 have:=xck.mp hx;rw[← xmt];exact xgw.mpr ⟨λh=>⟨h.2.1,h.2.2.1,h.1⟩,λh=>⟨h.2.2,h.1,h.2.1,by lia⟩⟩
def fitP(k M:Int) (rows:List (List Int)):List Pt:=(rows.filter λrow=>decide (row.sum - M<=k)).map λrow=>(row,k - (row.sum - M))
theorem zut{k M:Int}{e:Nat}:∀rows:List (List Int),fitP k (M+e) (longL rows (outL e))=lawL e (fitP k M rows)
 | []=>rfl
 | row::rows=>by
  have ih:=zut (k:=k) (M:=M) (e:=e) rows;have e1:longL (row::rows) (outL e)=((outL e).map λx=>row++[x])++longL rows (outL e):=by simp[longL]
  have e2:fitP k (M+e) (longL (row::rows) (outL e))=fitP k (M+e) ((outL e).map λx=>row++[x])++fitP k (M+e) (longL rows (outL e)):=by
   rw[e1];unfold fitP;rw[xge,xgj]
  have e3:fitP k (M+e) ((outL e).map λx=>row++[x])=(sharesL e 0 (k - (row.sum - M))).map λj:Nat=>(row++[(e:Int)+(j:Int)],k - (row.sum - M) - (j:Int)):=by
   unfold fitP outL;rw[xcw,xlc,xcw,show sharesL e 0 (k - (row.sum - M))=_ from zqx.symm];have e4:∀j:Nat,(row++[(e:Int)+(j:Int)]).sum - (M+e)=row.sum - M+j:=λj=>by rw[xew];simp;lia
   have e5:(sharesL e 0 e).filter ((λr:List Int=>decide (r.sum - (M+e)<=k)) ∘ ((λx=>row++[x]) ∘ λj:Nat=>(e:Int)+(j:Int)))=(sharesL e 0 e).filter λj:Nat=>decide ((j:Int)<=k - (row.sum - M)) :=
    xin λj _=>by
     show decide ((row++[(e:Int)+(j:Int)]).sum - (M+e)<=k)=_;rw[e4];exact xgw.mpr ⟨λh=>by lia,λh=>by lia⟩
   rw[e5];refine xjf λj _=>?_
   show(row++[(e:Int)+(j:Int)],k - ((row++[(e:Int)+(j:Int)]).sum - (M+e)))=_;rw[e4]
   congr 1
   lia
  rw[e2,ih,e3];by_cases c:row.sum - M<=k
  ·have e6:fitP k M (row::rows)=(row,k - (row.sum - M))::fitP k M rows:=by
    unfold fitP;rw[xcr (by simpa using c)]
    rfl
   rw[e6];simp[lawL,lawJ]
  ·have e6:fitP k M (row::rows)=fitP k M rows:=by
    unfold fitP;rw[xcz (by simpa using c)]
   have e7:sharesL e 0 (k - (row.sum - M))=[]:=xld.mpr λj hj=>by
    obtain⟨_,h2,h3⟩:=zej.mp hj;lia
   rw[e6,e7]
   rfl
theorem zbdl{r:List Int}{k:Int}(h:∀x∈r,0<=x)(hk:0<=k):∀i:Nat,lawS k (r.take i)=fitP k (r.take i).sum (wholeS (r.take i)):=λi=>by
 induction i with
 | zero =>
  show[([],k)]=fitP k 0 [[]];unfold fitP;rw[xcr (by simpa using hk)];simp
 | succ i ih =>
  by_cases c:i<r.length
  ·have g:r[i]?=some r[i]:=xbe c;have h0:=h r[i] (xdi c);rw[zp g,zyj,zeh,ih];unfold lawStep wholeStep;rw[← zut,xew,show(r.take i).sum+[r[i]].sum=(r.take i).sum+(r[i].toNat:Int) by simp;lia]
  ·rw[xdo (by lia)] at ih ⊢;exact ih
theorem zll{r:List Int}{k:Int}(h:∀x∈r,0<=x)(hk:0<=k):raiseR k r=(wholeS r).filter λm=>decide (m.sum=r.sum+k):=by
 have e:=zbdl h hk r.length;rw[xcp] at e;rw[← zbjc h hk];unfold lawP;rw[e];unfold fitP;rw[xlc,xcw,xlo];have:∀l:List (List Int),l.map ((λp:Pt=>p.1) ∘ λrow=>(row,k - (row.sum - r.sum)))=l:=λl=>by
  show l.map (λrow=>row)=l;exact xmw l
 rw[this];refine xin λm _=>?_
 show(decide (k - (m.sum - r.sum)=0)&&decide (m.sum - r.sum<=k))=_;rw[← xmt];exact xgw.mpr ⟨λh=>by lia,λh=>by lia⟩
theorem zsb{r:List Int}(h:∀x∈r,0<=x):∀(i:Nat),∀m∈wholeS (r.take i),(r.take i).sum<=m.sum/\m.sum<=2 * (r.take i).sum:=λi=>by
 induction i with
 | zero=>intro m hm;rw[xbk.mp (show m∈[[]] from hm)];simp
 | succ i ih =>
  by_cases c:i<r.length
  ·have g:r[i]?=some r[i]:=xbe c;have h0:=h r[i] (xdi c);intro m hm;rw[zp g,zeh] at hm;unfold wholeStep longL outL at hm;obtain⟨row,hrow,hm⟩:=xfz.mp hm;rw[xcw] at hm;obtain⟨j,hj,rfl⟩:=xce.mp hm;obtain⟨j1,j2,j3⟩:=zej.mp hj;obtain⟨a,b⟩:=ih row hrow;rw[zp g];simp only[Function.comp,xew,xjd,List.sum_nil];lia
  ·rw[xdo (by lia)] at ih ⊢;exact ih
theorem zvh(a:List (List Int))(x:List Int):(aP a).count x % 2=a.count x % 2:=by
 have nd:=zlr a;have mm:x∈aP a↔a.count x % 2=1:=by unfold aP;rw[(zcb _).mem_iff,zhl]
 by_cases c:x∈aP a
 ·have h1:(aP a).count x<=1:=List.nodup_iff_count.mp nd x;have h2:0<(aP a).count x:=xjs.mpr c;have:=mm.mp c;lia
 ·have h1:(aP a).count x=0:=xig.mpr c;have:¬ a.count x % 2=1:=λz=>c (mm.mpr z)
  lia
theorem zwh{P:List Int->List (List Int)->Prop}(h0:P [] [[]])(h:∀m e s,P m s->P (m++[e]) (wholeStep s e))(r:List Int):∀(i:Nat),P (r.take i) (wholeS (r.take i)):=λi=>by
 induction i with
 | zero=>exact h0
 | succ i ih =>
  by_cases c:i<r.length
  ·have g:r[i]?=some r[i]:=xbe c;rw[zp g,zeh];exact h _ _ _ ih
  ·rw[xdo (by lia)] at ih ⊢;exact ih
theorem zsc(r:List Int)(i:Nat):∀m∈wholeS (r.take i),m.length=(r.take i).length:=by
 refine zwh (P:=λm s=>∀x∈s,x.length=m.length) (by simp) (λm e s hs=>?_) r i;intro x hx;unfold wholeStep longL at hx;obtain⟨row,h1,hx⟩:=xfz.mp hx;obtain⟨y,h2,rfl⟩:=xce.mp hx;rw[xbl,xbl,hs row h1]
 rfl
noncomputable abbrev Row:=List Int
noncomputable def tot{α:Type} (l:List α) (c:α->Nat):Nat:=(l.map c).sum
theorem zmv{α:Type}(a:α)(l:List α)(c:α->Nat):tot (a::l) c=c a+tot l c:=by simp[tot]
theorem zsl{α:Type}(a b:List α)(c:α->Nat):tot (a++b) c=tot a c+tot b c:=by simp[tot]
theorem zbbv{α:Type}{a b:List α}(h:a.Perm b)(c:α->Nat):tot a c=tot b c:=(h.map c).sum_nat
theorem zsk(c:Row->Nat):∀(n:Nat) (l:List Row),l.length<=n->(∀x,l.count x % 2=0)->tot l c % 2=0
 | _,[],_,_=>rfl
 | 0,_::_,h,_=>by simp at h
 | n+1,y::l,hn,h=>by
  have h1:=h y;rw[List.count_cons_self] at h1;have hy:y∈l:=xjs.mp (by lia);have p:=List.perm_cons_erase hy;have ih:=zsk c n (l.erase y) (by rw[List.length_erase_of_mem hy];simp at hn;lia) λx=>by
   have h2:=h x;rw[xie,p.count_eq,xie] at h2;split at h2<;>lia
  rw[zmv,zbbv p,zmv];lia
theorem zbgs{a b:List Row}(c:Row->Nat)(h:∀x,a.count x % 2=b.count x % 2):tot a c % 2=tot b c % 2:=by
 have:=zsk c _ (a++b) (xbf _) λx=>by rw[xil];have:=h x;lia
 rw[zsl] at this;lia
theorem zqt(h:∀x∈r,0<=x):∀m∈wholeS r,r.sum<=m.sum/\m.length=r.length:=λm hm=>by
 have h1:=zsb h r.length m (by rw[xcp];exact hm);have h2:=zsc r r.length m (by rw[xcp];exact hm);rw[xcp] at h1 h2;exact⟨h1.1,h2⟩
noncomputable def xr{α:Type} (l:List α) (f:α->Nat):Nat:=l.foldr (λx b=>f x ^^^ b) 0
section
variable {α β:Type}
theorem zgh(x:α):xr (x::l) f=f x ^^^ xr l f:=rfl
theorem zos:∀(l m:List α),xr (l++m) f=xr l f ^^^ xr m f
 | [],m=>(xmn _).symm
 | x::l,m=>by rw[xix,zgh,zgh,zos l m,xgm]
theorem zrw:∀{l:List α},(∀x∈l,f x=g x)->xr l f=xr l g
 | [],_=>rfl
 | x::l,h=>by rw[zgh,zgh,h x (xbp ..),zrw λy hy=>h y (xbo _ hy)]
theorem xor4'(a b c d:Nat):(a ^^^ b) ^^^ (c ^^^ d)=(a ^^^ c) ^^^ (b ^^^ d):=by
 rw[xgm,xgm,← xgm b,← xgm c,Nat.xor_comm b c]
theorem zor(p:α->Bool):∀l:List α,xr (l.filter p) f=xr l λx=>if p x=true then f x else 0
 | []=>rfl
 | x::l=>by
  rw[zgh,← zor p l];by_cases c:p x=true
  ·rw[xcr c,zgh,if_pos c]
  ·rw[xcz c,if_neg c,xmn]
theorem xif(p q:Bool)(z:Nat):(if p=true then z else 0) ^^^ (if q=true then z else 0)=if Bool.xor p q=true then z else 0:=by
 cases p<;>cases q<;>simp
end
def T(k:Int) (φ:Row->Nat) (m:Row):Nat:=xr (wholeS m) λx=>if x.sum=m.sum+k then φ x else 0
def Nn(m:Row):Prop:=∀x∈m,0<=x
theorem zbnx(h:y∈outL e):(e:Int)<=y:=by
 unfold outL at h;obtain⟨j,_,rfl⟩:=xce.mp h;lia
theorem zsa{e:Nat}(h:x∈wholeS (r++[(e:Int)])):∃u y,x=u++[((y:Nat):Int)]/\u∈wholeS r:=by
 rw[zeh] at h;unfold wholeStep longL at h;obtain⟨u,hu,h⟩:=xfz.mp h;obtain⟨y,hy,rfl⟩:=xce.mp h;rw[xgk] at hy;have:=zbnx hy;exact⟨u,y.toNat,by rw[Int.toNat_of_nonneg (by lia)],hu⟩
theorem zbbo:∀m:Row,Nn m->∀x∈wholeS m,Nn x:=λm hm x hx=>by
 have h:∀i,∀x∈wholeS (m.take i),Nn x:=λi=>by
  induction i with
  | zero=>intro x hx;rw[xbk.mp (show x∈[[]] from hx)];intro y hy;cases hy
  | succ i ih =>
   by_cases c:i<m.length
   ·have g:m[i]?=some m[i]:=xbe c;have n0:0<=m[i]:=hm _ (xdi c);obtain⟨e,he⟩:∃e:Nat,m[i]=(e:Int):=⟨m[i].toNat,by lia⟩
    intro x hx;rw[zp g,he] at hx;obtain⟨u,y,rfl,hu⟩:=zsa hx;intro z hz;rcases xbz.mp hz with a|a
    ·exact ih u hu z a
    ·rw[xbk.mp a];lia
   ·rw[xdo (by lia)] at ih ⊢;exact ih
 have:=h m.length;rw[xcp] at this;exact this x hx
inductive Lin (P:Nat->Prop):Nat->Prop
 | zero:Lin P 0
 | add {v w:Nat}:P v->Lin P w->Lin P (v ^^^ w)
theorem Lin.one(h:P v):Lin P v:=by have:=Lin.add h .zero;rwa [xle] at this
theorem Lin.xor(h:Lin P v)(g:Lin P w):Lin P (v ^^^ w):=by
 induction h with
 | zero=>rw[xmn];exact g
 | add p _ ih=>rw[xgm];exact .add p ih
theorem Lin.bind(h:∀v,P v->Lin R v) (g:Lin P w):Lin R w:=by
 induction g with
 | zero=>exact .zero
 | add p _ ih=>exact(h _ p).xor ih
structure Mon (n:Nat) (s:Int) (m:Row):Prop where
 len:m.length=n
 nn:Nn m
 sum:m.sum=s
noncomputable def bl(v:Nat):Nat:=if v=0 then 0 else v.log2+1
theorem zbgb :bl v<=k↔v<2 ^ k:=by
 unfold bl;by_cases c:v=0
 ·rw[if_pos c,c];exact⟨λ_=>Nat.two_pow_pos k,λ_=>xeb _⟩
 ·rw[if_neg c,Nat.succ_le_iff];exact Nat.log2_lt c
theorem zvr :v≠0↔1<=bl v:=by unfold bl;split<;>lia
theorem zblq(h:v≠0):v.testBit (bl v - 1)=true:=by
 have p:=zvr.mp h;have h1:v<2 ^ (bl v - 1+1):=zbgb.mp (by lia);have h2:2 ^ (bl v - 1)<=v:=by
  rcases xez v (2 ^ (bl v - 1)) with z|z
  ·have:=zbgb.mpr z;lia
  ·exact z
 exact Nat.testBit_of_two_pow_le_and_two_pow_add_one_gt h2 h1
theorem zbqt(h:v≠0)(e:bl w=bl v):bl (v ^^^ w)<bl v:=by
 have p:=zvr.mp h;have hw:w≠0:=zvr.mpr (by lia)
 suffices v ^^^ w<2 ^ (bl v - 1) by have:=zbgb.mpr this;lia
 refine Nat.lt_pow_two_of_testBit _ λi hi=>?_
 rw[xmu];by_cases c:i=bl v - 1
 ·have a:=zblq h;have b:=zblq hw;rw[e] at b;rw[c,a,b];rfl
 ·have k1:v<2 ^ bl v:=zbgb.mp (xbf _);have k2:w<2 ^ bl v:=zbgb.mp (by lia);have k3:2 ^ bl v<=2 ^ i:=xhn (by decide) (by lia);rw[Nat.testBit_lt_two_pow (by lia),Nat.testBit_lt_two_pow (by lia)];rfl
noncomputable abbrev Tab:=Nat->Option Nat
def Good(A:Tab):Prop:=∀k v,A k=some v->bl v=k/\v≠0
def sel(A:Tab) (S:Nat->Bool):Nat->Nat
 | 0=>0
 | N+1=>(if S (N+1)=true then(A (N+1)).getD 0 else 0) ^^^ sel A S N
def Span(A:Tab) (N:Nat) (v:Nat):Prop:=∃S,v=sel A S N
theorem Span.zero{N:Nat}:Span A N 0:=⟨λ_=>false,by
 induction N with
 | zero=>rfl
 | succ N ih=>show 0=0 ^^^ sel A (λ_=>false) N;rw[← ih];rfl⟩
theorem Span.xor{N v w:Nat}(h:Span A N v)(k:Span A N w):Span A N (v ^^^ w):=by
 obtain⟨S,rfl⟩:=h;obtain⟨R,rfl⟩:=k;refine⟨λi=>Bool.xor (S i) (R i),?_⟩
 induction N with
 | zero=>show 0 ^^^ 0=0;rw[xmo]
 | succ N ih =>
  show(_ ^^^ sel A S N) ^^^ (_ ^^^ sel A R N)=(if Bool.xor (S (N+1)) (R (N+1))=true then(A (N+1)).getD 0 else 0) ^^^ sel A _ N;rw[← ih,xor4',xif]
theorem Span.key(h0:1<=k)(e:A k=some v):∀{N},k<=N->Span A N v:=λ{N} hN=>⟨λi=>decide (i=k),by
 have low:∀M,M<k->sel A (λi=>decide (i=k)) M=0:=λM=>by
  induction M with
  | zero=>intro _;rfl
  | succ M ih=>intro h;show(if decide (M+1=k)=true then _ else 0) ^^^ sel A _ M=0;rw[ih (by lia),xcc (by lia)];simp
 induction N with
 | zero=>lia
 | succ N ih =>
  show v=(if decide (N+1=k)=true then(A (N+1)).getD 0 else 0) ^^^ sel A _ N;by_cases c:N+1=k
  ·rw[xcs c,if_pos rfl,c,e,low N (by lia),xle];rfl
  ·rw[xcc c,← ih (by lia)];simp⟩
def setT(A:Tab) (k v:Nat):Tab:=λi=>if i=k then some v else A i
theorem Span.more{k v:Nat}(e:A k=none){N w:Nat}(h:Span A N w):Span (setT A k v) N w:=by
 obtain⟨S,rfl⟩:=h;refine⟨λi=>if i=k then false else S i,?_⟩
 induction N with
 | zero=>rfl
 | succ N ih =>
  show _ ^^^ sel A S N=(if(if N+1=k then false else S (N+1))=true then(setT A k v (N+1)).getD 0 else 0) ^^^ sel (setT A k v) _ N;rw[← ih];unfold setT;by_cases c:N+1=k
  ·rw[if_pos c,c,e];simp
  ·rw[if_neg c,if_neg c]
structure Lds (N:Nat) (A:Tab) (L:List Nat):Prop where
 good:Good A
 top:∀k v,A k=some v->k<=N
 lin:∀k v,A k=some v->Lin (·∈L) v
 all:∀v∈L,Span A N v
theorem Lds.nil(N:Nat):Lds N (λ_=>none) []:=⟨(λ_ _ e=>nomatch e),(λ_ _ e=>nomatch e),(λ_ _ e=>nomatch e),(λ_ h=>absurd h (by simp))⟩
structure Less (N:Nat) (A:Tab) (x y:Nat):Prop where
 top:bl y<=N
 span:Span A N (x ^^^ y)
theorem Less.refl{N:Nat} {x:Nat}(h:bl x<=N):Less N A x x:=⟨h,by rw[xmo];exact .zero⟩
theorem Less.step{N:Nat} {L:List Nat}{x y v:Nat}(l:Lds N A L)(h:Less N A x y)(h0:y≠0)(e:A (bl y)=some v):Less N A x (y ^^^ v)/\bl (y ^^^ v)<bl y:=by
 have b:=zbqt h0 (l.good _ _ e).1;exact⟨⟨by have:=h.top;lia,by rw[← xgm];exact h.span.xor (Span.key (zvr.mp h0) e h.top)⟩,b⟩
theorem Lds.lins{N:Nat} {L:List Nat}(l:Lds N A L){w:Nat}(h:Span A N w):Lin (·∈L) w:=by
 obtain⟨S,rfl⟩:=h;have:∀M,Lin (·∈L) (sel A S M):=λM=>by
  induction M with
  | zero=>exact .zero
  | succ M ih =>
   refine Lin.xor ?_ ih;by_cases c:S (M+1)=true
   ·rw[if_pos c];cases e:A (M+1) with
    | none=>exact .zero
    | some v=>exact l.lin _ _ e
   ·rw[if_neg c];exact .zero
 exact this N
theorem Lin.more{L:List Nat}{x w:Nat}(h:Lin (·∈L) w):Lin (·∈L++[x]) w:=Lin.bind (λv hv=>.one (xex _ hv)) h
theorem Lds.put{N:Nat} {L:List Nat}{x y:Nat}(l:Lds N A L)(h:Less N A x y)(h0:y≠0)(e:A (bl y)=none):Lds N (setT A (bl y) y) (L++[x]):=by
 have ly:Lin (·∈L++[x]) y:=by
  have h1:=(l.lins h.span).more (x:=x);have h2:=Lin.xor (Lin.one (P:=(·∈L++[x])) (v:=x) (by simp)) h1
  rwa [← xgm,xmo,xmn] at h2
 have sy:Span (setT A (bl y) y) N y:=Span.key (zvr.mp h0) (by unfold setT;rw[if_pos rfl]) h.top;refine⟨λk v z=>?_,λk v z=>?_,λk v z=>?_,λv hv=>?_⟩
 ·unfold setT at z;by_cases c:k=bl y
  ·rw[if_pos c] at z;cases z;exact⟨c.symm,h0⟩
  ·rw[if_neg c] at z;exact l.good _ _ z
 ·unfold setT at z;by_cases c:k=bl y
  ·rw[c];exact h.top
  ·rw[if_neg c] at z;exact l.top _ _ z
 ·unfold setT at z;by_cases c:k=bl y
  ·rw[if_pos c] at z;cases z;exact ly
  ·rw[if_neg c] at z;exact(l.lin _ _ z).more
 ·rcases xbz.mp hv with q|q
  ·exact(l.all v q).more e
  ·rw[xbk.mp q];have:=(h.span.more (v:=y) e).xor sy
   rwa [xgm,xmo,xle] at this
theorem Lds.keep{N:Nat} {L:List Nat}{x:Nat}(l:Lds N A L)(h:Less N A x 0):Lds N A (L++[x]) :=
 ⟨l.good,l.top,λk v z=>(l.lin k v z).more,λv hv=>by
  rcases xbz.mp hv with q|q
  ·exact l.all v q
  ·rw[xbk.mp q];have:=h.span;rwa [xle] at this⟩
theorem zbfk(he:0<=e){σ1:DS} (q:∀x,0<=x->x<=e->w (.int x) au) :
  WP (compF (gN 0) (eB (aU oLe (aA 0) (aA 1))) (aA 0) [.int 0,.int 1,.int 3,.int 7,.int 15] [none,some (.int e)] au) (λys st2=>WP (bBest true [.lst ys] st2) w):=by
 refine zry (as:=[(0:Int),1,3,7,15]) (E:=λx=>D.int x) (λσ=>∃v,σ=[v,some (.int e)]) (λx=>decide (x<=e)) (λx=>.int x) ⟨_,rfl⟩ ?_ ?_
 ·rintro x hx σ ⟨v,rfl⟩;refine⟨_,rfl,⟨_,rfl⟩,?_,λ_=>?_⟩
  ·simp only[W,V,xju]
  ·simp only[W,V,xju]
 ·rw[xcr (by simpa using he)];simp only[M];refine⟨0,([1,3,7,15]:List Int).filter (λx=>decide (x<=e)),?_,?_⟩
  ·have:=zci (0::([1,3,7,15]:List Int).filter (λx=>decide (x<=e)));exact this
  ·obtain⟨h1,h2⟩:=zok (([1,3,7,15]:List Int).filter (λx=>decide (x<=e))) 0;refine q _ (h2 0 xbp) ?_;rcases xbn.mp h1 with h|h
   ·rw[h];exact he
   ·simpa using (xfu.mp h).2
theorem zfb{n:Nat}{N d:Int}(hb:BagAt au n)(hN:1<=N)(hN2:N<=1000)(hd:0<=d)(hd2:d<=1000)(k:∀r st',r.length=N.toNat->(∀x∈r,0<=x)->r.sum=d->Drew au st' n->Q (aM r) st'):WP (zw [.ref n,.int N,.int d] au) Q:=by
 refine zik rfl ?_;simp only[W,V];refine⟨small _ (by simp),?_⟩;have D0:Drew au (au++[.lst []]) n:=.more hb _;refine zgj D0.bag (by lia) (by lia) λfk st2 h3 h4 d2=>?_
 have D2:=D0.trans d2;have hk:au.length<=au.length:=xbf _;have hkn:au.length≠n:=xip hb.lt;have g0:st2[au.length]?=some (.lst []):=(d2.keep _ (by simp) hkn).trans (by simp)
 try simp only[W,V]
 refine⟨trivial,_,rfl,rngN (by lia) (by lia),?_⟩;refine zgp (λi σ s=>∃(left:Int) (r:List Int) (v w:Option D),σ=[some (.ref n),some (.int N),some (.int d),some (.int left),some (.ref au.length),some (.int fk),v,w,none]/\0<=left/\left+r.sum=d/\r.length=i/\(∀x∈r,0<=x)/\Drew au s n/\s[au.length]?=some (.lst (r.map .int)))
  ⟨d,[],none,none,rfl,hd,by simp,rfl,by simp,D2,g0⟩ ?_ ?_
 ·rintro i x σ s hx ⟨left,r,v,w,rfl,a1,a2,a3,a4,a5,a6⟩;obtain⟨hi,rfl⟩:=zlj hx;have rn:=ztz a4;refine⟨_,rfl,?_⟩;unfold zda;refine zeq (R:=λfl s=>∃y:Int,fl=.nx [some (.ref n),some (.int N),some (.int d),some (.int left),some (.ref au.length),some (.int fk),some (.int (0+(i:Int))),some (.int y),none]/\0<=y/\y<=left/\Drew au s n/\s[au.length]?=some (.lst (r.map .int))) ?_ ?_
  ·simp only[W,V];refine zgj a5.bag (by lia) (by lia) λy s2 b1 b2 e2=>?_
   exact⟨y,rfl,b1,by lia,a5.trans e2,(e2.keep _ (zbd a6) hkn).trans a6⟩
  rintro fl s1 ⟨y,rfl,y1,y2,E1,g1⟩;show WP _ _;refine zeq (R:=λfl s=>∃y:Int,fl=.nx [some (.ref n),some (.int N),some (.int d),some (.int left),some (.ref au.length),some (.int fk),some (.int (0+(i:Int))),some (.int y),none]/\0<=y/\y<=left/\s=s1) ?_ ?_
  ·simp only[W,V,Dd.N];split
   ·refine⟨small _ (by simp),small _ (by simp),?_⟩;refine zbfk (σ1:=[]) y1 λz z1 z2=>?_
    exact⟨z,rfl,z1,by lia,rfl⟩
   ·exact⟨y,rfl,y1,y2,trivial⟩
  rintro fl s2 ⟨y,rfl,y1,y2,rfl⟩;show WP _ _;simp only[W,V,M,Dd.N,L];have hlt:=zbd g1;refine⟨_,_,rfl,g1,_,_,rfl,g1,by rw[xbc];exact smallT _ (by lia),left - y,r++[y],_,_,rfl,by lia,by rw[xew];simp;lia,by simp[a3],znv a4 y1,E1.over hb.lt hk,?_⟩;rw[zio hlt];simp
 ·rintro σ s ⟨left,r,v,w,rfl,a1,a2,a3,a4,a5,a6⟩;rw[zli] at a3;simp only[W,V,M];have hlt:=zbd a6;refine⟨_,_,rfl,a6,_,_,rfl,a6,by rw[xbc];exact smallT _ (by lia),?_⟩;have a7:(s.set au.length (.lst (r.map D.int++[D.int left])))[au.length]?=some (.lst ((r++[left]).map .int)):=by rw[zio hlt];simp
  have D5:Drew au (s.set au.length (.lst (r.map D.int++[D.int left]))) n:=a5.over hb.lt hk;refine zgj D5.bag (by lia) (by lia) λy s2 b1 b2 e2=>?_
  have a8:s2[au.length]?=some (.lst ((r++[left]).map .int)):=(e2.keep _ (zbd a7) hkn).trans a7;refine⟨y,rfl,.inr ⟨_,zjm a8,y,rfl,.inr ⟨_,zjm a8,?_⟩⟩⟩;obtain⟨j,rfl⟩:=xgo b1;rw[zzj,zblf];refine WP.of (zbbu (small _ (by rw[xbl,xks];lia))) ?_;simp only[W,V];refine k _ _ ?_ ?_ ?_ (D5.trans e2)
  ·rw[zsi,xbl,xks];lia
  ·intro x hx;rcases xbz.mp hx with hx|hx
   ·exact znv a4 a1 x (xhm hx)
   ·exact znv a4 a1 x (xgi hx)
  ·have:=congrArg List.sum (xdm j (r++[left]));rw[xew,xew] at this;rw[xew];simp at this;lia
end Dd
namespace K11
end K11
namespace Dd
open PySem L2 K13
end Dd
namespace K54
end K54
namespace Dd
open PySem L2
open PySem.Builtin.Int (intBits)
noncomputable def cntP(d:Int):Nat->Int
 | 0=>1
 | i+1=>cntP d i * (d+(1+(i:Int))) / (1+(i:Int))
theorem zqf(h0:0<=d)(h1:d<10 ^ 40):∀i:Nat,i<=20->intBits (cntP d i)<=200 * (i+1)
 | 0,_=>by show intBits 1<=200;decide
 | i+1,hi=>by
  have ih:=zqf h0 h1 i (by lia);have b:intBits (d+(1+(i:Int)))<=200:=by
   rw[intBits_le_iff];have:(10:Int) ^ 40<=2 ^ 199:=by decide
   have e:(2:Nat) ^ 200=2 ^ 199+2 ^ 199:=by decide
   have e2:(1000:Nat)<=2 ^ 199:=by decide
   lia
  have m:=intBits_mul_le ih b;unfold cntP;refine intBits_le_of_natAbs (Int.natAbs_ediv_le_natAbs _ _) (xbb m (by lia))
theorem zpi{N:Int}(hN:1<=N)(hN2:N<=10)(h0:0<=d)(h1:d<10 ^ 40)(q:Q (.int (cntP d (N - 1).toNat)) au):WP (zg [.int N,.int d] au) Q:=by
 refine zik rfl ?_;simp only[W,V,Dd.N];refine⟨rngN (by lia) (by lia),rngN (by lia) (by lia),?_⟩;refine zgp (λi σ s=>(∃v,σ=[some (.int N),some (.int d),some (.int (cntP d i)),v])/\s=au) ⟨⟨_,rfl⟩,rfl⟩ ?_ ?_
 ·rintro i y σ s hy ⟨⟨v,rfl⟩,rfl⟩;obtain⟨hi,rfl⟩:=zlj hy;refine⟨_,rfl,?_⟩;unfold zbw;simp only[W,V,L];have b:=zqf h0 h1 i (by lia);refine⟨⟨xbb b (by lia),?_⟩,⟨by lia,?_⟩,⟨_,rfl⟩,trivial⟩
  ·rw[intBits_le_iff];have:(10:Int) ^ 40<=2 ^ 199:=by decide
   have e2:(1000:Nat)<=2 ^ 199:=by decide
   have e3:(2:Nat) ^ 200<=2 ^ 60000:=xhn (by decide) (by decide);have e:(2:Nat) ^ 200=2 ^ 199+2 ^ 199:=by decide
   refine xbh ?_ e3;lia
  ·have:(1+(i:Int))<2 ^ 60:=Int.lt_of_le_of_lt (show(1+(i:Int))<=100 by lia) (by decide +kernel);exact Int.lt_of_lt_of_le this (by decide +kernel)
 ·rintro σ s ⟨⟨v,rfl⟩,rfl⟩;rw[zli];simp only[W,V];exact q
theorem zlo :∀{l:List Int},l≠[]->(∀x∈l,x=d)->once l=[d]
 | [],h,_=>absurd rfl h
 | [a],_,h=>by
  have:=h a (by simp);subst this
  rfl
 | a::b::l,_,h=>by
  have h1:=h a (by simp);have h2:=h b (by simp);have ih:=zlo (d:=d) (l:=b::l) (by simp) λx hx=>h x (xbo _ hx)
  subst h1;unfold once;rw[if_pos (by rw[h2];simp)];exact ih
theorem zwz(d:Int):sortI [d]=[d]:=by
 have:=zhd [d];exact List.perm_singleton.mp this
theorem zme{au:Store}{l:List Row}(hl:l.length<=1000)(hs:∀r∈l,0<=r.sum/\r.sum<64)(q:Q (.ref au.length) (au++[.lst ((sortI (once (l.map List.sum))).map .int)])):WP (zfx [aK l] au) Q:=by
 refine zik rfl ?_;simp only[W,V,Dd.N];refine⟨by rw[zr];exact small _ (by lia),?_⟩;refine zry (as:=l) (λσ=>∃v,σ=[v]) (λ_=>true) (λr=>.int r.sum) aM ⟨_,rfl⟩ ?_ ?_
 ·rintro r hr σ ⟨v,rfl⟩;refine⟨_,rfl,⟨_,rfl⟩,by simp only[W,xju],λ_=>?_⟩;simp only[W,V,M];exact⟨r,zci r,trivial,rfl⟩
 ·rw[zgx];have e1:=zci (l.map List.sum);rw[xcw] at e1;have e2:bSortSetM [.lst (l.map λr=>.int r.sum)] au=.ok (.ref au.length) (au++[.lst ((sortI (once (l.map List.sum))).map .int)]):=by
   unfold bSortSetM;dsimp only;rw[show(asL au (.lst (l.map λr=>D.int r.sum))).bind asInts=some (l.map List.sum) from e1];dsimp only;rw[if_pos];rw[xdp];intro x hx;obtain⟨r,hr,rfl⟩:=xce.mp hx;have:=hs r hr;simp[smallI];lia
  exact WP.of e2 q
def allJ(p:Pt):List Pt:=(List.range (p.2.toNat+1)).map λe:Nat=>(p.1++[(e:Int)],p.2 - (e:Int))
def allS(d:Int):Nat->List Pt
 | 0=>[([],d)]
 | k+1=>(allS d k).flatMap allJ
def allL(d:Int) (k:Nat):List Row:=(allS d k).map λp=>p.1++[p.2]
theorem zbau{α:Type}{f:α->List Pt} :∀{l:List α},(∀a∈l,(f a).length<=B)->(l.flatMap f).length<=l.length * B
 | [],_=>by simp
 | a::l,h=>by
  have h1:=h a xbp;have h2:=zbau (l:=l) λb hb=>h b (xbo _ hb)
  rw[List.flatMap_cons,xbl,xbx,xmm];lia
theorem zia(h0:0<=d):∀k:Nat,∀p∈allS d k,p.1.length=k/\(∀x∈p.1,0<=x)/\0<=p.2/\p.1.sum+p.2=d
 | 0,p,hp=>by
  simp[allS] at hp;subst hp;exact⟨rfl,by simp,h0,by simp⟩
 | k+1,p,hp=>by
  obtain⟨q,hq,hp⟩:=xfz.mp hp;obtain⟨h1,h2,h3,h4⟩:=zia h0 k q hq;obtain⟨e,he,rfl⟩:=xce.mp hp;have he:=xck.mp he;refine⟨by simp[h1],λx hx=>?_,by dsimp only;lia,by simp;lia⟩;rcases xbz.mp hx with hx|hx
  ·exact h2 x hx
  ·simp at hx;lia
theorem zvz(h0:0<=d):∀k:Nat,(allS d k).length<=(d.toNat+1) ^ k
 | 0=>by simp[allS]
 | k+1=>by
  have ih:=zvz h0 k;have h:=zbau (f:=allJ) (B:=d.toNat+1) (l:=allS d k) λp hp=>by
   obtain⟨_,h2,h3,h4⟩:=zia h0 k p hp;have:=ztz h2;unfold allJ;rw[xbc,xfe];lia
  show((allS d k).flatMap allJ).length<=_;rw[Nat.pow_succ];exact xbb h (xiy _ ih)
theorem zbfs:∀(a:Row) (d:Int),(∀x∈a,0<=x)->a.sum<=d->(a,d - a.sum)∈allS d a.length:=λa=>by
 induction hn:a.length generalizing a with
 | zero =>
  intro d _ _;have:a=[]:=xjz.mp hn;subst this;simp[allS]
 | succ k ih =>
  intro d ha hs;have ne:a≠[]:=by rintro rfl;simp at hn
  obtain⟨b,e,rfl⟩:∃b e,a=b++[e]:=⟨a.dropLast,a.getLast ne,(xll ne).symm⟩
  have he:=ha e (by simp);have hb:=λx hx=>ha x (xex _ hx)
  rw[xew,xlp] at hs;have h1:=ih b (by simp at hn;exact hn) d hb (by lia);refine xfz.mpr ⟨_,h1,xce.mpr ⟨e.toNat,xck.mpr (by dsimp only;lia),?_⟩⟩;have e1:((e.toNat:Nat):Int)=e:=by lia
  rw[xew,xlp,e1];dsimp only
  congr 1
  lia
theorem zbfu{r:Row} (hl:r.length=k+1)(hr:∀x∈r,0<=x)(hs:r.sum=d):r∈allL d k:=by
 have ne:r≠[]:=by rintro rfl;simp at hl
 obtain⟨b,e,rfl⟩:∃b e,r=b++[e]:=⟨r.dropLast,r.getLast ne,(xll ne).symm⟩
 rw[xew,xlp] at hs;have h1:=zbfs b d (λx hx=>hr x (xex _ hx)) (by have:=hr e (by simp);lia);have e1:b.length=k:=by simpa using hl
 rw[e1] at h1;refine xce.mpr ⟨_,h1,?_⟩;dsimp only;rw[show d - b.sum=e by lia]
theorem zmp{d:Int}(h0:0<=d){k:Nat}{r:Row}(h:r∈allL d k):r.length=k+1/\(∀x∈r,0<=x)/\r.sum=d:=by
 obtain⟨p,hp,rfl⟩:=xce.mp h;obtain⟨h1,h2,h3,h4⟩:=zia h0 k p hp;refine⟨by simp[h1],λx hx=>?_,by simp;lia⟩;rcases xbz.mp hx with hx|hx
 ·exact h2 x hx
 ·simp at hx;lia
end Dd
namespace Dd
open PySem L2
noncomputable def mostD(N:Int):Int:=([24,24,18,8,5,4,3,3,3,2]:List Int).getD (N - 1).toNat 0
theorem zya:(List.range 10).all (λi=>decide (0<=mostD ((i:Int)+1)/\mostD ((i:Int)+1)<=(if((i:Int)+1)<=3 then 24 else 10)/\((mostD ((i:Int)+1)).toNat+1) ^ i<=100000))=true:=by decide +kernel
theorem zdy{N:Int}(h1:1<=N)(h2:N<=10):0<=mostD N/\mostD N<=(if N<=3 then 24 else 10)/\((mostD N).toNat+1) ^ (N - 1).toNat<=100000:=by
 have:=xdp.mp zya (N - 1).toNat (xck.mpr (by lia));have:=xef this;rw[show(((N - 1).toNat:Nat):Int)+1=N by lia] at this;exact this
theorem zbjy(h1:1<=m)(h2:m<=10)(h0:0<=d)(hd:d<=1000)(q:Q (.bl (decide (d<=if m<4 then 24 else 10)&&decide (cntP d (m - 1).toNat<=200))) au):WP (zeg [.int m,.int d] au) Q:=by
 refine zik rfl ?_;simp only[W,V];refine⟨small _ (by simp),zbjz ?_⟩;simp only[W,V];refine⟨trivial,?_⟩;by_cases c:d<=if m<4 then 24 else 10
 ·simp only[c,xfo,xeq,Bool.true_and] at q ⊢;have big:(1000:Int)<10 ^ 40:=by decide
  refine zpi h1 h2 h0 (by lia) ?_;simp only[W,V];exact⟨trivial,q⟩
 ·simp only[c,xfc,xmx,xen] at q ⊢;exact q
end Dd
namespace K55
end K55
namespace Dd
open PySem L2 K13
theorem orx:∀v w:Nat,v ||| w=(v ^^^ w)+(v &&& w)/\v+w=(v ^^^ w)+2 * (v &&& w):=λv=>by
 induction v using Nat.strongRecOn with
 | _ v ih =>
 intro w;by_cases c:v=0
 ·subst c;simp
 ·have h:=ih (v / 2) (by lia) (w / 2);have a1:(v ||| w) / 2=v / 2 ||| w / 2:=Nat.or_div_two
  have a2:(v ^^^ w) / 2=v / 2 ^^^ w / 2:=Nat.xor_div_two;have a3:(v &&& w) / 2=v / 2 &&& w / 2:=xms;have b1:(v ||| w) % 2=1↔v % 2=1\/w % 2=1:=Nat.or_mod_two_eq_one;have b2:=Nat.xor_mod_two_eq_one (a:=v) (b:=w);have b3:(v &&& w) % 2=1↔v % 2=1/\w % 2=1:=Nat.and_mod_two_eq_one;rw[← a1,← a2,← a3] at h;generalize (v ||| w)=x at *
  generalize (v ^^^ w)=y at *
  generalize (v &&& w)=z at *
  lia
theorem zmj(v w:Nat):Builtin.bitAnd (v:Int) (w:Int)=((v &&& w:Nat):Int):=by simp[Builtin.bitAnd]
theorem zmi(v w:Nat):Builtin.bitXor (v:Int) (w:Int)=((v ^^^ w:Nat):Int):=by
 rw[PyProof.Rows.bitXor_and,zmj];have:=(orx v w).2;lia
theorem zzp(v w:Nat):Builtin.bitOr (v:Int) (w:Int)=((v ||| w:Nat):Int):=by
 have h:Builtin.bitXor (v:Int) (w:Int)=Builtin.bitOr v w - Builtin.bitAnd v w:=rfl;rw[zmi,zmj] at h;have:=(orx v w).1;lia
theorem zgg(v:Nat):Builtin.Int.intBits (v:Int)=bl v:=by
 unfold Builtin.Int.intBits bl;by_cases c:v=0
 ·rw[if_pos c,c];rfl
 ·rw[if_neg c,if_neg (by simp;exact c),Int.natAbs_natCast]
def pw(AL:List Row) (r:Row):Nat:=2 ^ AL.idxOf r
theorem pw_lt(h:r∈AL):pw AL r<2 ^ AL.length:=Nat.pow_lt_pow_right (by decide) (xfw h)
theorem zbrh{α:Type}{f:α->Nat}{N:Nat}:∀{l:List α},(∀x∈l,f x<2 ^ N)->xr l f<2 ^ N
 | [],_=>Nat.two_pow_pos N
 | x::l,h=>Nat.xor_lt_two_pow (h x (xbp ..)) (zbrh λy hy=>h y (xbo _ hy))
theorem zbge{AL:List Row} :∀{l:List Row},(∀x∈l,AL.idxOf x≠q)->(xr l (pw AL)).testBit q=false
 | [],_=>Nat.zero_testBit q
 | x::l,h=>by
  rw[zgh,xmu,zbge λy hy=>h y (xbo _ hy)];unfold pw;rw[xlh,xcc (h x (xbp ..))];rfl
theorem zbjr{AL:List Row}{x y:Row}(hx:x∈AL)(hy:y∈AL)(e:AL.idxOf x=AL.idxOf y):x=y:=by
 have a:=xjq (xfw hx);have b:=xjq (xfw hy);rw[← a,← b];congr 1
theorem zblw{t:Nat}(h:t.testBit q=false):t &&& 2 ^ q=0:=by
 refine Nat.eq_of_testBit_eq λi=>?_
 rw[Nat.testBit_and,xlh,Nat.zero_testBit];by_cases c:q=i
 ·rw[← c,h];rfl
 ·rw[xcc c,xmy]
theorem zbir{AL l:List Row}{r:Row}(hl:∀x∈l,x∈AL)(hr:r∈AL)(n:r∉l):xr l (pw AL)+2 ^ AL.idxOf r=xr (l++[r]) (pw AL)/\(xr l (pw AL) ||| 2 ^ AL.idxOf r)=xr (l++[r]) (pw AL):=by
 have h:(xr l (pw AL)).testBit (AL.idxOf r)=false:=zbge λx hx e=>n (zbjr (hl x hx) hr e ▸ hx)
 have z:=zblw h;obtain⟨o1,o2⟩:=orx (xr l (pw AL)) (2 ^ AL.idxOf r);have e:xr (l++[r]) (pw AL)=xr l (pw AL) ^^^ 2 ^ AL.idxOf r:=by rw[zos];show _ ^^^ (pw AL r ^^^ 0)=_;rw[xle];rfl
 rw[z] at o1 o2;rw[e];lia
theorem zbmi{a b:List Row}(h:∀x,a.count x % 2=b.count x % 2):xr a f=xr b f:=by
 have bit:∀(l:List Row) (i:Nat),(xr l f).testBit i=decide (tot l (λx=>if(f x).testBit i=true then 1 else 0) % 2=1):=λl i=>by
  induction l with
  | nil=>simp[xr,tot]
  | cons x l ih =>
   rw[zgh,xmu,ih,zmv];cases(f x).testBit i
   ·simp
   ·simp only[xeq];rw[xjg];simp;lia
 refine Nat.eq_of_testBit_eq λi=>?_
 rw[bit,bit,zbgs _ h]
theorem zblx(hk:0<=k)(hp:Nn p):xr (aP (raiseL k [p])) f=T k f p:=by
 rw[zbmi λx=>zvh (raiseL k [p]) x,show raiseL k [p]=raiseR k p by unfold raiseL;simp,zll hp hk,zor];unfold T;refine zrw λx _=>?_
 by_cases c:x.sum=p.sum+k
 ·rw[if_pos (xcs c),if_pos c]
 ·rw[if_neg (by simp[c]),if_neg c]
theorem zqr:∀(m:Nat) (d:Int),allS d (m+1)=(List.range (d.toNat+1)).flatMap λe:Nat=>(allS (d - e) m).map λp=>((e:Int)::p.1,p.2)
 | 0,d=>by
  show([(([]:Row),d)]:List Pt).flatMap allJ=_;rw[List.flatMap_singleton];unfold allJ;rw[List.map_eq_flatMap]
  rfl
 | m+1,d=>by
  show(allS d (m+1)).flatMap allJ=_;rw[zqr m d,List.flatMap_assoc];refine congrArg (λf=>List.flatMap f (List.range (d.toNat+1))) (funext λe=>?_);show _=((allS (d - e) m).flatMap allJ).map _;rw[List.flatMap_map,xkp];refine congrArg (λf=>List.flatMap f (allS (d - e) m)) (funext λp=>?_);unfold allJ;rw[xcw]
  rfl
theorem zqs(m:Nat)(d:Int):allL d (m+1)=(List.range (d.toNat+1)).flatMap λe:Nat=>(allL (d - e) m).map λr=>(e:Int)::r:=by
 unfold allL;rw[zqr,xkp];refine congrArg (λf=>List.flatMap f (List.range (d.toNat+1))) (funext λe=>?_);rw[xcw,xcw]
 rfl
theorem zmo:∀(m:Nat) (d:Int),(allL d m).Nodup
 | 0,d=>by show[[d]].Nodup;simp
 | m+1,d=>by
  rw[zqs];refine List.pairwise_flatMap.mpr ⟨λe _=>?_,xml.imp λ{a b} ne x hx y hy h=>?_⟩
  ·exact List.pairwise_map.mpr ((zmo m _).imp λ{a b} ne h=>ne (List.cons.inj h).2)
  ·obtain⟨r,_,rfl⟩:=xce.mp hx;obtain⟨s,_,rfl⟩:=xce.mp hy;have:=(List.cons.inj h).1;lia
end Dd
namespace Dd
open PySem L2
end Dd
namespace K37
end K37
namespace Dd
open PySem L2
theorem _root_.List.set_getElem_self'{α:Type}{s:List α} {x:α}(h:s[m]?=some x):s.set m x=s:=by
 obtain⟨hm,rfl⟩:=xbj.mp h;exact List.set_getElem_self hm
end Dd
namespace K39
end K39
namespace Dd
open PySem L2
namespace Tab
/- the law's side -/
/- what is looked at -/
end Tab
namespace Tab
theorem wp_grow{α:Type}{bd:SG}{body:SS}{au:Store}{Q:Fl->Store->Prop}(E:α->D)(f:α->List D)(S:DS->Prop)(B:Nat){as:List α}{acc:List D}{σ:DS}{g:Store}(h0:S σ)(hB:(acc++as.flatMap f).length<=B)
  (t:∀a∈as,∀σ acc g,S σ->(acc++f a).length<=B->∃σ1,bd (E a) σ=some σ1/\∀R:Fl->Store->Prop,(∀σ' g',S σ'->R (.nx σ') (au++(.lst (acc++f a)::g')))->WP (body σ1 (au++(.lst acc::g))) R)
  (q:∀σ' g',S σ'->Q (.nx σ') (au++(.lst (acc++as.flatMap f)::g'))):WP (forF bd body (as.map E) σ (au++(.lst acc::g))) Q:=by
 refine zgp (λi σ s=>∃g,S σ/\s=au++(.lst (acc++(as.take i).flatMap f)::g)) ⟨g,h0,by simp⟩ ?_ ?_
 ·rintro i x σ s hx ⟨g,hS,rfl⟩;rw[xcn] at hx;obtain⟨z,hz,rfl⟩:=xde.mp hx;have e:(as.take (i+1)).flatMap f=(as.take i).flatMap f++f z:=by rw[zp hz,List.flatMap_append];simp
  have hl:((as.take (i+1)).flatMap f).length<=(as.flatMap f).length:=by
   conv=>rhs;rw[← xdm (i+1) as,List.flatMap_append,xbl]
   lia
  rw[e] at hl;rw[xbl] at hB hl;obtain⟨σ1,e1,w⟩:=t z (xcg hz) σ (acc++(as.take i).flatMap f) g hS (by simp only[xbl];lia);refine⟨σ1,e1,w _ λσ' g' h'=>?_⟩;simp only[L];exact⟨g',h',by rw[e,xcj]⟩
 ·rintro σ s ⟨g,hS,rfl⟩;rw[xbc,xcp];exact q _ _ hS
end Tab
end Dd
namespace Dd
open PySem L2 K13
def bitK(Q:D->Store->Prop):D->Store->Prop:=λv s=>match v with
 | .int i=>Q (.int (Builtin.Int.intBits i)) s
 | _=>False
theorem zrz :WP (eBits f σ au) Q=WP (f σ au) (bitK Q):=by
 unfold eBits;rw[ze]
 congr
 funext x s
 cases x<;>rfl
theorem zoj :bitK Q (.int i) s=Q (.int (Builtin.Int.intBits i)) s:=rfl
theorem zbbn :WP (eDNewI σ au) Q=Q (.ref au.length) (au++[.dI []]):=rfl
theorem zbjp(h:au[n]?=some (.dI kvs)):oIIn neg (.int k) (.ref n) au=.ok (.bl (if neg then !(valI kvs k).isSome else(valI kvs k).isSome)) au:=by
 unfold oIIn intsOf;simp only[h]
theorem zbjq(h:au[n]?=some (.dI kvs))(hv:valI kvs k=some v):oIGet (.ref n) (.int k) au=.ok v au:=by
 unfold oIGet intsOf;simp only[h,hv]
theorem zbgg(q:WP (h σ au) (λv s1=>WP (f σ s1) (λx s2=>WP (g σ s2) (λy s3=>∃n k kvs,x=.ref n/\y=.int k/\s3[n]?=some (.dI kvs)/\kvs.length<sizeLine/\Q (.nx σ) (s3.set n (.dI (putI kvs k v))))))):WP (sIPut f g h σ au) Q:=by
 unfold sIPut;rw[ze];refine q.mono λv s1 q=>?_
 rw[ze];refine q.mono λx s2 q=>?_
 rw[ze];refine q.mono λy s3 q=>?_
 obtain⟨n,k,kvs,rfl,rfl,e,hl,q⟩:=q;simp only[e,hl,xeq];exact q
theorem zbgi(q:WP (h σ au) (λv s1=>WP (f σ s1) (λx s2=>WP (g σ s2) (λy s3=>∃n r kvs,x=.ref n/\y=aM r/\s3[n]?=some (.dT kvs)/\kvs.length<sizeLine/\Q (.nx σ) (s3.set n (.dT (putD kvs r v))))))):WP (sDPut f g h σ au) Q:=by
 unfold sDPut;rw[ze];refine q.mono λv s1 q=>?_
 rw[ze];refine q.mono λx s2 q=>?_
 rw[ze];refine q.mono λy s3 q=>?_
 obtain⟨n,r,kvs,rfl,rfl,e,hl,q⟩:=q;rw[zek];simp only[e,hl,xeq];exact q
theorem zuu{κ:Type}[DecidableEq κ]{kvs:List (κ×D)}{k j:κ}{v:D}:((if(kvs.any λkv=>decide (kv.1=k))=true then kvs.map (λkv=>if kv.1=k then(kv.1,v) else kv) else kvs++[(k,v)]).find? λkv=>decide (kv.1=j)).map (·.2)=if j=k then some v else(kvs.find? λkv=>decide (kv.1=j)).map (·.2):=by
 by_cases c:(kvs.any λkv=>decide (kv.1=k))=true
 ·rw[if_pos c]
  induction kvs with
  | nil=>simp at c
  | cons p kvs ih =>
   rw[xca,xdt,xdt];by_cases e:p.1=k
   ·rw[if_pos e];by_cases z:p.1=j
    ·simp only[z,xfo,Option.map_some];rw[if_pos (z.symm.trans e)]
    ·have zk:¬ j=k:=λq=>z (e.trans q.symm)
     simp only[z,xfc,if_neg zk];by_cases c2:(kvs.any λkv=>decide (kv.1=k))=true
     ·rw[ih c2,if_neg zk]
     ·have:kvs.map (λkv=>if kv.1=k then(kv.1,v) else kv)=kvs:=by
       refine(xjf λq hq=>?_).trans (xmw _);by_cases y:q.1=k
       ·exact absurd (xko.mpr ⟨q,hq,by simp[y]⟩) c2
       ·rw[if_neg y];rfl
      rw[this]
   ·rw[if_neg e];have c2:(kvs.any λkv=>decide (kv.1=k))=true:=by rw[xhj,xcc e,Bool.false_or] at c;exact c
    by_cases z:p.1=j
    ·simp only[z,xfo];rw[if_neg (λq=>e (z.trans q))]
    ·simp only[z,xfc];exact ih c2
 ·rw[if_neg c,List.find?_append];by_cases z:j=k
  ·subst z;have:kvs.find? (λkv=>decide (kv.1=j))=none:=by
    refine List.find?_eq_none.mpr λq hq=>?_
    intro y;exact c (xko.mpr ⟨q,hq,y⟩)
   rw[this];simp
  ·rw[if_neg z];have:[(k,v)].find? (λkv=>decide (kv.1=j))=none:=by
    rw[xdt];have:¬ k=j:=λq=>z q.symm
    simp[this]
   rw[this,Option.or_none]
theorem zsf{kvs:List (Int×D)}{k j:Int}{v:D}:valI (putI kvs k v) j=if j=k then some v else valI kvs j:=zuu
theorem zbbr{kvs:List (Row×D)}{k j:Row}{v:D}:valD (putD kvs k v) j=if j=k then some v else valD kvs j:=zuu
theorem zbal{κ:Type}[DecidableEq κ]{kvs:List (κ×D)}{k:κ}{v:D}:(if(kvs.any λkv=>decide (kv.1=k))=true then kvs.map (λkv=>if kv.1=k then(kv.1,v) else kv) else kvs++[(k,v)]).length<=kvs.length+1:=by
 split
 ·rw[xbc];lia
 ·rw[xbl];exact xbf _
theorem zbcg{kvs:List (Int×D)}{k:Int}{v:D}:(putI kvs k v).length<=kvs.length+1:=zbal
theorem zbch{kvs:List (Row×D)}{k:Row}{v:D}:(putD kvs k v).length<=kvs.length+1:=zbal
theorem zbgh(h:WP (f σ au) (λx s=>∃xs,x=.lst xs/\Q (numF 0 xs) s)):WP (iEn0 f σ au) Q:=by
 unfold iEn0;rw[ze];refine h.mono λx s q=>?_
 obtain⟨xs,rfl,q⟩:=q;exact q
theorem small17(h:n<16000000):n<sizeLine:=by rw[xgg];lia
theorem zoq(h0:0<=d)(m:Nat):(allL d m).length<=(d.toNat+1) ^ m:=by unfold allL;rw[xbc];exact zvz h0 m
theorem zbhj:∀(f m:Nat) {d:Int} {N:Int} {au:Store} {Q:D->Store->Prop},m<=f->m<=100->N=(m:Int)+1->0<=d->d<=1000->(d.toNat+1) ^ m<=100000 ->
  (∀g,Q (.lst (aJ (allL d m))) (au++g))->WP (iterF zm (f+1) [.int N,.int d] au) Q:=λf=>by
 induction f with
 | zero =>
  intro m d N au Q hm _ hN h0 hd hb k;obtain rfl:m=0:=by lia
  show WP (fnD 4 2 _ [.int N,.int d] au) Q;refine zik rfl ?_;simp only[W,V];rw[if_pos (show N=1 by lia)];refine⟨small _ (by simp),small _ (by simp),?_⟩;have:=k [];rw[xct] at this;exact this
 | succ f ih =>
  intro m d N au Q hm hm2 hN h0 hd hb k;show WP (fnD 4 2 _ [.int N,.int d] au) Q;refine zik rfl ?_;simp only[W,V];by_cases c:m=0
  ·subst c;rw[if_pos (show N=1 by lia)];refine⟨small _ (by simp),small _ (by simp),?_⟩;have:=k [];rw[xct] at this;exact this
  ·obtain⟨j,rfl⟩:∃j,m=j+1:=⟨m - 1,by lia⟩
   rw[if_neg (show ¬ N=1 by lia)];simp only[W,V,Dd.N];refine⟨small _ (by simp),rngN (by lia) (by lia),?_⟩;have fl:=zoq h0 (j+1);have hd1:(d+1).toNat=d.toNat+1:=by lia
   have e0:aJ (allL d (j+1))=(List.range (d.toNat+1)).flatMap λe:Nat=>(allL (d - e) j).map λr=>aM ((e:Int)::r):=by
    rw[zqs];unfold aJ;rw[xkp];simp only[xcw];rfl
   rw[hd1];unfold rng;refine Tab.wp_grow (λe:Nat=>.int (0+(e:Int))) (λe:Nat=>(allL (d - e) j).map λr=>aM ((e:Int)::r)) (λσ=>∃v,σ=[some (.int N),some (.int d),some (.ref au.length),v]) 100000 (acc:=[]) (g:=[]) ⟨_,rfl⟩ ?_ ?_ ?_
   ·rw[xjh,← e0,zr];lia
   ·rintro e he σ acc g ⟨v,rfl⟩ hB;have he:=xck.mp he;refine⟨_,rfl,λR hR=>?_⟩;rw[xjr];unfold zbv;simp only[W,V,zot];refine⟨_,_,rfl,by simp;rfl,?_⟩;have pb:((d - (e:Int)).toNat+1) ^ j<=100000:=by
     have p1:((d - (e:Int)).toNat+1) ^ j<=(d.toNat+1) ^ j:=xli (by lia) _;have p2:(d.toNat+1) ^ j<=(d.toNat+1) ^ (j+1):=xhn (by lia) (by lia);lia
    refine⟨trivial,trivial,?_⟩;refine ih j (d:=d - (e:Int)) (N:=N - 1) (by lia) (by lia) (by lia) (by lia) (by lia) pb λg2=>?_
    refine⟨_,rfl,?_⟩;have fl2:=zoq (show 0<=d - (e:Int) by lia) j;have fc:=λr hr=>@zmp (d - (e:Int)) (by lia) j r hr
    refine⟨by rw[zr];exact small _ (by lia),?_⟩;unfold aJ;refine zry (λσ=>∃v,σ=[v,some (.int (e:Int))]) (λ_=>true) (λr=>aM ((e:Int)::r)) aM ⟨_,rfl⟩ ?_ ?_
    ·rintro r hr σ ⟨v,rfl⟩;refine⟨_,rfl,⟨_,rfl⟩,by simp only[W,xju],λ_=>?_⟩;simp only[W,V,aM];have:=(fc r hr).1;refine⟨small _ (by simp),small _ (by simp;lia),trivial,?_⟩;simp
    ·rw[zgx];rw[xbl] at hB;refine⟨_,_,_,rfl,by simp;rfl,rfl,by rw[xbc] at hB ⊢;exact small _ (by lia),?_⟩;have:=hR _ (g++g2) ⟨some (.int e),rfl⟩
     simpa using this
   ·rintro σ g ⟨v,rfl⟩;simp only[W,V,M,Dd.N,L];refine⟨_,_,rfl,by simp;rfl,?_⟩;rw[← e0];have:=k (.dead::g)
    simpa using this
noncomputable def twos(i:Nat):List Int:=(List.range i).map λt=>((2 ^ t:Nat):Int)
structure Enough (d:Int) (i:Nat):Prop where
 low:∀t,t<i->2 * ((2 ^ t:Nat):Int)<=d
 top:d<2 * ((2 ^ i:Nat):Int)
theorem zbcw(h0:0<=d)(hd:d<=1000)(k:∀i g,Enough d i->Q (.lst ((twos i).map .int)) (au++g)):WP (zbt [.int d] au) Q:=by
 refine zik rfl ?_;simp only[W,V];refine⟨small _ (by simp),?_⟩;refine zjq (λm σ s=>∃i:Nat,m=(d+1 - ((2 ^ i:Nat):Int)).toNat/\σ=[some (.int d),some (.ref au.length),some (.int ((2 ^ i:Nat):Int))]/\s=au++[.lst ((twos i).map .int)]/\∀t,t<i->2 * ((2 ^ t:Nat):Int)<=d) (k:=(d+1 - ((2 ^ 0:Nat):Int)).toNat)
  ⟨0,rfl,rfl,by simp[twos],λt ht=>absurd ht (by lia)⟩ (by lia) ?_
 rintro m σ s ⟨i,hm,rfl,rfl,low⟩;have p0:1<=2 ^ i:=Nat.one_le_two_pow;have p1:2 ^ (i+1)=2 * 2 ^ i:=by rw[Nat.pow_succ];lia
 simp only[W,V];refine⟨.inl ⟨by decide,by decide⟩,trivial,?_⟩;by_cases c:2 * ((2 ^ i:Nat):Int)<=d
 ·rw[if_pos c];have hi:i<1000:=by
   have:i<2 ^ i:=Nat.lt_two_pow_self;lia
  unfold zdq;simp only[W,V,M,Dd.N,L];refine⟨_,_,rfl,by simp;rfl,_,_,rfl,by simp;rfl,?_,?_⟩
  ·rw[xbc];unfold twos;rw[xbc,xfe];exact small17 (by lia)
  ·refine⟨.inl ⟨by decide,by decide⟩,(d+1 - ((2 ^ (i+1):Nat):Int)).toNat,by lia,i+1,rfl,by rw[p1];simp,?_,λt ht=>?_⟩
   ·unfold twos;rw[xky];simp
   ·by_cases z:t=i
    ·rw[z];exact c
    ·exact low t (by lia)
 ·rw[if_neg c];simp only[W,V,M,Dd.N,L];refine⟨_,_,rfl,by simp;rfl,?_⟩;have:=k i [.dead] ⟨low,by lia⟩
  simpa using this
def srcs(d:Int) (m i:Nat):List (Int×Row):=(twos i).flatMap λk=>(allL (d - k) m).map λp=>(k,p)
def srcD(p:Int×Row):D:=.tup [.int p.1,aM p.2]
structure Fit (m:Nat) (d:Int):Prop where
 m9:m<=9
 d0:0<=d
 d24:d<=24
 few:(d.toNat+1) ^ m<=100000
 ten:2<m->d<=10
theorem Fit.less(h:Fit m d)(h0:0<=k)(hk:k<=d):Fit m (d - k):=⟨h.m9,by lia,by have:=h.d24;lia,xbb (xli (by have:=h.d0;lia) _) h.few,λz=>by have:=h.ten z;lia⟩
theorem Fit.len(h:Fit m d):(allL d m).length<=100000:=xbb (zoq h.d0 m) h.few
theorem Enough.few(h:Enough d i)(hd:d<=24):i<=4:=by
 rcases xez 4 i with z|z
 ·have:=h.low 4 z;lia
 ·exact z
theorem zjs(h:Enough d i)(hk:k∈twos i):∃t,k=((2 ^ t:Nat):Int)/\2 * k<=d/\1<=k:=by
 unfold twos at hk;obtain⟨t,ht,rfl⟩:=xce.mp hk;have:1<=2 ^ t:=Nat.one_le_two_pow;exact⟨t,rfl,h.low t (xck.mp ht),by lia⟩
theorem zmx(h:Fit m d):∀{ks:List Int},(∀k∈ks,0<=k/\k<=d)->(ks.flatMap λk=>(allL (d - k) m).map λp=>(k,p)).length<=ks.length * 100000
 | [],_=>xbf _
 | k::ks,hk=>by
  rw[List.flatMap_cons,xbl,xbc,xbx];have a:=(h.less (hk k (xbp ..)).1 (hk k (xbp ..)).2).len;have b:=zmx h (ks:=ks) λx hx=>hk x (xbo _ hx)
  lia
theorem zgc{N d:Int}{m:Nat}(hN:N=(m:Int)+1)(h:Fit m d)(k:∀i g,Enough d i->Q (.lst ((srcs d m i).map srcD)) (au++g)):WP (zbb [.int N,.int d] au) Q:=by
 have h24:=h.d24;have hd0:=h.d0;refine zik rfl ?_;simp only[W,V];refine⟨small _ (by simp),?_⟩;refine zbcw h.d0 (by lia) λi g0 en=>?_
 have i4:=en.few h24;simp only[Dd.N];have e0:(srcs d m i).map srcD=(twos i).flatMap λk=>(allL (d - k) m).map λp=>srcD (k,p):=by
  unfold srcs;rw[xkp];simp only[xcw];rfl
 rw[xcj];refine Tab.wp_grow (λk:Int=>.int k) (λk=>(allL (d - k) m).map λp=>srcD (k,p)) (λσ=>∃v,σ=[some (.int N),some (.int d),some (.ref au.length),v]) 500000 (acc:=[]) (g:=g0) ⟨_,rfl⟩ ?_ ?_ ?_
 ·rw[xjh,← e0,xbc];have:=zmx h (ks:=twos i) λk hk=>by obtain⟨t,_,a,b⟩:=zjs en hk;lia
  have l:(twos i).length=i:=by unfold twos;simp
  rw[l] at this;unfold srcs;lia
 ·rintro k hk σ acc g ⟨v,rfl⟩ hB;obtain⟨t,_,a,b⟩:=zjs en hk;have hf:=h.less (k:=k) (by lia) (by lia);refine⟨_,rfl,λR hR=>?_⟩;unfold zcj;simp only[W,V,zot];refine⟨_,_,rfl,by simp;rfl,?_⟩;refine⟨trivial,zbhj 9 m (d:=d - k) (N:=N) hf.m9 (by have:=hf.m9;lia) hN hf.d0 (by lia) hf.few λg2=>?_⟩;refine⟨_,rfl,by rw[zr];exact small _ (by have:=hf.len;lia),?_⟩;unfold aJ;refine zry (λσ=>∃v,σ=[v,some (.int k)]) (λ_=>true) (λr=>srcD (k,r)) aM ⟨_,rfl⟩ ?_ ?_
  ·rintro r hr σ ⟨v,rfl⟩;refine⟨_,rfl,⟨_,rfl⟩,by simp only[W,xju],λ_=>?_⟩;simp only[W,V];exact⟨small _ (by simp),trivial,rfl⟩
  ·rw[zgx];rw[xbl] at hB;refine⟨_,_,_,rfl,by simp;rfl,rfl,by rw[xbc] at hB ⊢;exact small _ (by lia),?_⟩;have:=hR _ (g++g2) ⟨some (.int k),rfl⟩
   simpa using this
 ·rintro σ g ⟨v,rfl⟩;simp only[W,V,M,Dd.N,L];refine⟨_,_,rfl,by simp;rfl,?_⟩;rw[← e0];have:=k i (.dead::g) en
  simpa using this
structure Plc (AL:List Row) (i:Nat) (kvs:List (Row×D)):Prop where
 val:∀r,valD kvs r=if AL.idxOf r<i then some (.int (AL.idxOf r:Int)) else none
 len:kvs.length<=i
theorem zbox{AL:List Row}(nd:AL.Nodup) (h:AL[i]?=some r)(x:Row):AL.idxOf x=i↔x=r:=by
 obtain⟨hi,e⟩:=xbj.mp h;constructor
 ·intro q;have:AL.idxOf x<AL.length:=by lia
  have:=xjq this;rw[← this,← e];simp only[q]
 ·intro q;rw[q,← e];exact List.Nodup.idxOf_getElem nd i hi
theorem Plc.put{AL:List Row}(nd:AL.Nodup) (h:Plc AL i kvs)(hr:AL[i]?=some r):Plc AL (i+1) (putD kvs r (.int (0+(i:Int)))):=⟨λx=>by
 rw[zbbr,h.val x];have q:=zbox nd hr x;by_cases c:x=r
 ·rw[if_pos c,q.mpr c,if_pos (by lia),xjr]
 ·rw[if_neg c];have:AL.idxOf x≠i:=λz=>c (q.mp z)
  by_cases d:AL.idxOf x<i
  ·rw[if_pos d,if_pos (by lia)]
  ·rw[if_neg d,if_neg (by lia)],xbb zbch (by have:=h.len;lia)⟩
theorem Plc.at(h:Plc AL AL.length kvs) (hr:r∈AL):valD kvs r=some (.int (AL.idxOf r:Int)):=by
 rw[h.val,if_pos (xfw hr)]
theorem zxj{au:Store}{AL:List Row}(nd:AL.Nodup)(hl:AL.length<=100000)(k:∀kvs,Plc AL AL.length kvs->Q (.ref au.length) (au++[.dT kvs])):WP (zcx [.lst (aJ AL)] au) Q:=by
 refine zik rfl ?_;simp only[W,V];refine zbgh ?_;simp only[W,V];refine⟨_,rfl,?_⟩;refine zgp (λi σ s=>(∃v w,σ=[some (.lst (aJ AL)),some (.ref au.length),v,w])/\∃kvs,s=au++[.dT kvs]/\Plc AL i kvs) ⟨⟨_,_,rfl⟩,[],rfl,λr=>(by rw[if_neg (by lia)];rfl),xbf _⟩ ?_ ?_
 ·rintro i x σ s hx ⟨⟨v,w,rfl⟩,kvs,rfl,pl⟩;obtain⟨y,hy,rfl⟩:=zke hx;obtain⟨r,hr,rfl⟩:=zdh hy;have hi:i<AL.length:=(xbj.mp hr).1;refine⟨_,rfl,?_⟩;unfold zfw;refine zbgi ?_;simp only[W,V,L];exact⟨_,_,_,rfl,rfl,by simp;rfl,small17 (by have:=pl.len;lia),⟨_,_,rfl⟩,_,by simp,pl.put nd hr⟩
 ·rintro σ s ⟨⟨v,w,rfl⟩,kvs,rfl,pl⟩;rw[zcs,zr] at pl;simp only[W,V];exact k kvs pl
theorem znt{l:List Row} (nd:l.Nodup)(h:l[i]?=some r):r∉l.take i:=λhm=>by
 have n:=nd.sublist (xkc (i+1) l);rw[zp h] at n;exact(xmb.mp n).2.2 r hm r (by simp) rfl
theorem zoo{l:List Row} (hp:au[n]?=some (.dT kvs))(pl:Plc AL AL.length kvs)(hl:AL.length<=100000)(nd:l.Nodup)(hm:∀x∈l,x∈AL)(q:Q (.int (xr l (pw AL):Nat)) au):WP (zdc [.ref n,aK l] au) Q:=by
 refine zik rfl ?_;simp only[W,V,Dd.N];refine zgp (λi σ s=>(∃v,σ=[some (.ref n),some (aK l),some (.int (xr (l.take i) (pw AL):Nat)),v])/\s=au) ⟨⟨_,rfl⟩,rfl⟩ ?_ ?_
 ·rintro i x σ s hx ⟨⟨v,rfl⟩,rfl⟩;obtain⟨r,hr,rfl⟩:=zdh hx;have hrm:=xcg hr;have hix:=xfw (hm r hrm);refine⟨_,rfl,?_⟩;unfold zfy;simp only[W,V];rw[ztu (zka hp) (pl.at (hm r hrm))];simp only[W,V,L];refine⟨⟨by lia,by lia,by decide⟩,trivial,⟨some (aM r),?_⟩,trivial⟩;have nw:=zbir (AL:=AL) (l:=l.take i) (r:=r) (λx hx=>hm x (xgi hx)) (hm r hrm) (znt nd hr);rw[show(1:Int) * 2 ^ (AL.idxOf r:Int).toNat=((2 ^ AL.idxOf r:Nat):Int) by rw[Int.one_mul,xgk];simp,zzp,nw.2,← zp hr]
 ·rintro σ s ⟨⟨v,rfl⟩,rfl⟩;rw[zr,xcp];simp only[W,V];exact q
structure PRep (A:Tab) (kvs:List (Int×D)):Prop where
 yes:∀k v,A k=some v->∃u:Int,valI kvs k=some (.tup [.int (v:Nat),.int u])
 no:∀k:Nat,A k=none->valI kvs k=none
theorem PRep.is(h:PRep A kvs)(k:Nat):(valI kvs k).isSome=(A k).isSome:=by
 cases e:A k with
 | none=>rw[h.no k e];rfl
 | some v=>obtain⟨u,z⟩:=h.yes k v e;rw[z];rfl
theorem PRep.put(h:PRep A kvs)(k v:Nat)(u:Int):PRep (setT A k v) (putI kvs k (.tup [.int (v:Nat),.int u])):=⟨λj w e=>by
 unfold setT at e;rw[zsf];by_cases c:j=k
 ·rw[if_pos c] at e;cases e;rw[if_pos (by rw[c])];exact⟨u,rfl⟩
 ·rw[if_neg c] at e;rw[if_neg (by lia)];exact h.yes j w e,λj e=>by
 unfold setT at e;rw[zsf];by_cases c:j=k
 ·rw[if_pos c] at e;cases e
 ·rw[if_neg c] at e;rw[if_neg (by lia)];exact h.no j e⟩
theorem zrk{N x n:Nat} {gs:List Nat} (hn:au[n]?=some (.dI kvs))(rp:PRep A kvs)(ld:Lds N A gs)(hx:bl x<=N)(hN:N<=100000)
  (k:∀(y:Nat) (u:Int),Less N A x y->(y≠0->A (bl y)=none)->Q (.tup [.int (y:Nat),.int u]) au):WP (zef [.ref n,.int (x:Nat)] au) Q:=by
 refine zik rfl ?_;simp only[W,V];refine zjq (λm σ s=>∃(y:Nat) (u:Int) (v:Option D),m=bl y/\σ=[some (.ref n),some (.int (y:Nat)),some (.int u),v]/\s=au/\Less N A x y) (k:=bl x) ⟨x,0,_,rfl,rfl,rfl,.refl hx⟩ (by lia) ?_;rintro m σ s ⟨y,u,v,rfl,rfl,rfl,ls⟩;simp only[W,V];refine⟨_,rfl,?_⟩;by_cases c:y=0
 ·subst c;rw[show(((0:Nat):Int) != 0)=false from rfl,if_neg (by decide)];exact⟨small _ (by simp),k 0 u ls λz=>absurd rfl z⟩
 ·rw[show(((y:Nat):Int) != 0)=true by simp[c],if_pos rfl,zrz];simp only[W,V,zoj];rw[zgg,zbjp hn];simp only[W,V,rp.is,xcv,xen];cases e:A (bl y) with
  | none =>
   simp only[Option.isSome_none,xcv,xen,W,V];exact⟨small _ (by simp),k y u ls λ_=>e⟩
  | some w =>
   simp only[Option.isSome_some,xeq];obtain⟨u',hu⟩:=rp.yes _ _ e;obtain⟨l2,l3⟩:=ls.step ld c e;unfold zgn;simp only[W,V,zrz,zoj];rw[zgg,zbjq hn hu];simp only[W,V,M,Dd.N,L];refine zum rfl rfl ?_;simp only[W,V];rw[zmi];refine⟨trivial,zum rfl rfl ?_⟩;simp only[W,V];exact⟨trivial,_,l3,_,_,_,rfl,rfl,trivial,l2⟩
theorem len59(h:au[m]?=some (.lst xs)):bLen [.ref m] au=.ok (.int xs.length) au:=by
 unfold bLen;dsimp only;rw[show seqOf au (.ref m)=some xs from zjm h]
theorem Fit.box(h:Fit m d){p:Row}(f1:p.length=m+1)(f2:Nn p)(f3:p.sum<=d):Dd.box p<=20000:=by
 have h24:=h.d24;have x24:∀x∈p,x<=24:=λx hx=>by have:=zboh f2 x hx;lia
 by_cases c:m<=2
 ·have b1:=zbbh x24;rw[f1] at b1;have b2:25 ^ (m+1)<=25 ^ 3:=xhn (by lia) (by lia);lia
 ·have t:=h.ten (by lia);have b1:=zbbg f2;have b2:2 ^ p.sum.toNat<=2 ^ 10:=xhn (by lia) (by lia);lia
theorem zbce(h0:0<=k)(hp:Mon (m+1) (d - k) p)(hx:x∈aP (raiseL k [p])):x∈allL d m:=by
 have h1:=zts hx;rw[show raiseL k [p]=raiseR k p by unfold raiseL;simp,zll hp.nn h0] at h1;obtain⟨a,b⟩:=xfu.mp h1;exact zbfu ((zqt hp.nn x a).2.trans hp.len) (zbbo p hp.nn x a) (by rw[xef b,hp.sum];lia)
theorem zbft(h0:0<=d) (h:p∈allL d m):Mon (m+1) d p:=by
 obtain⟨a,b,c⟩:=zmp h0 h;exact⟨a,b,c⟩
theorem zop{N d:Int}{m n:Nat} (hN:N=(m:Int)+1)(h:Fit m d)(hp:au[n]?=some (.dT pk))(pl:Plc (allL d m) (allL d m).length pk)
  (k:∀kvs so g A i,Enough d i->PRep A kvs->Lds (allL d m).length A ((srcs d m i).map λp=>T p.1 (pw (allL d m)) p.2)->Q (.tup [.ref au.length,.lst so]) (au++.dI kvs::.dead::g)):WP (zdd [.int N,.int d,.ref n] au) Q:=by
 have hl:=h.len;have h24:=h.d24;refine zik rfl ?_;simp only[W,V,zbbn];refine⟨small _ (by simp),?_⟩;refine zgc hN h λi g0 en=>?_
 simp only[Dd.N];have i4:=en.few h24;have sl:(srcs d m i).length<=400000:=by
  have:=zmx h (ks:=twos i) λk hk=>by obtain⟨t,_,a,b⟩:=zjs en hk;lia
  have l:(twos i).length=i:=by unfold twos;simp
  rw[l] at this;unfold srcs;lia
 have mem:∀p∈srcs d m i,1<=p.1/\2 * p.1<=d/\Mon (m+1) (d - p.1) p.2:=λp hp=>by
  unfold srcs at hp;obtain⟨k,hk,hp⟩:=xfz.mp hp;obtain⟨r,hr,rfl⟩:=xce.mp hp;obtain⟨t,_,a,b⟩:=zjs en hk;exact⟨b,a,zbft (by lia) hr⟩
 have k:=λkvs so g A=>k kvs so g A i en
 generalize srcs d m i=ss at sl mem k ⊢;generalize hAL:allL d m=AL at *
 refine zgp (λj σ s=>(∃v5 v6 v7,σ=[some (.int N),some (.int d),some (.ref n),some (.ref au.length),some (.ref (au.length+1)),v5,v6,v7])/\∃kvs so g A,s=au++.dI kvs::.lst so::g/\kvs.length<=j/\so.length<=j/\PRep A kvs/\Lds AL.length A ((ss.take j).map λp=>T p.1 (pw AL) p.2))
  ⟨⟨none,none,none,by simp⟩,[],[],g0,λ_=>none,by simp,xbf _,xbf _,⟨(λ_ _ e=>nomatch e),λ_ _=>rfl⟩,Lds.nil _⟩ ?_ ?_
 ·rintro j x σ s hx ⟨⟨v5,v6,v7,rfl⟩,kvs,so,g,A,rfl,hk,hs,rp,ld⟩;obtain⟨p,hpj,rfl⟩:=zpm hx;obtain⟨p1,p2,p3⟩:=mem p (xcg hpj);have hj:j<ss.length:=(xbj.mp hpj).1;refine⟨_,rfl,?_⟩;unfold zfz;simp only[W,V];refine⟨small _ (by simp),?_⟩;have one:∀{P:Row->Prop},P p.2->∀r∈[p.2],P r:=λh r hr=>by simp at hr;subst hr;exact h
  have hsum:=p3.sum;refine zxf (l:=[p.2]) (by lia) (one λx hx=>⟨p3.nn x hx,by have:=zboh p3.nn x hx;lia⟩) (one (by have:=p3.len;have:=h.m9;lia)) (one (h.box p3.len p3.nn (by lia))) (by simp) λg2=>?_
  have inn:∀x∈aP (raiseL p.1 [p.2]),x∈AL:=λx hx=>by rw[← hAL];exact zbce (by lia) p3 hx
  have hn:n<au.length:=(xbj.mp hp).1;have hp':((au++.dI kvs::.lst so::g)++g2)[n]?=some (.dT pk):=by rw[xcj,xbt hn];exact hp
  refine zoo hp' pl hl (zlr _) inn ?_;have hb:=zbgb.mpr (zbrh (λx hx=>pw_lt (inn x hx)):xr (aP (raiseL p.1 [p.2])) (pw AL)<2 ^ AL.length);rw[zblx (by lia) p3.nn] at hb ⊢;refine zrk (kvs:=kvs) (by simp) rp ld hb hl λy u ls hy=>?_
  refine zum rfl rfl ⟨_,rfl,?_⟩;by_cases c:y=0
  ·subst c;rw[show(((0:Nat):Int) != 0)=false from rfl,if_neg (by decide)];simp only[L];refine⟨⟨_,_,_,rfl⟩,kvs,so,g++g2,A,by simp,by lia,by lia,rp,?_⟩;rw[zp hpj,xgj];exact ld.keep ls
  ·rw[show(((y:Nat):Int) != 0)=true by simp[c],if_pos rfl];refine zbgg ?_;simp only[W,V,M,Dd.N,zrz];refine zum rfl rfl ?_;refine zum rfl rfl ?_;have e1:((au++.dI kvs::.lst so::g)++g2)[au.length+1]?=some (.lst so):=by simp
   rw[len59 e1];simp only[W,V];refine⟨⟨by lia,by lia,by decide⟩,trivial,small _ (by simp),zum rfl rfl ?_⟩;rw[zoj,zgg];refine⟨_,_,kvs,rfl,rfl,by simp,small17 (by lia),_,_,rfl,by simp;rfl,?_⟩;simp only[W,V,M,Dd.N,L];refine⟨small _ (by simp),_,so,rfl,by simp,small17 (by lia),⟨_,_,_,rfl⟩,putI kvs (bl y:Nat) _,so++[.tup [.int p.1,aM p.2]],g++g2,setT A (bl y) y,by simp;rfl,xbb zbcg (by lia),by simp;lia,rp.put (bl y) y _,?_⟩;rw[zp hpj,xgj];exact ld.put ls c (hy c)
 ·rintro σ s ⟨⟨v5,v6,v7,rfl⟩,kvs,so,g,A,rfl,hk,hs,rp,ld⟩;rw[xbc,xcp] at ld;simp only[W,V,M,Dd.N,L];refine⟨_,_,rfl,by simp;rfl,small _ (by simp),?_⟩;have:=k kvs so g A rp ld
  simpa using this
end Dd
namespace Dd
open PySem L2
noncomputable def Sh(n:Nat) (d:D):Prop:=∃p,toData d=some p/\p.canLay0=true/\p.depth<=n
theorem Sh.str(h:(PyData.str x).canLay0=true):Sh n (.str x):=⟨_,rfl,h,xeb _⟩
theorem Sh.all :∀{ds:List D},(∀d∈ds,Sh n d)->∃ps,toDatas ds=some ps/\PyData.canLayAll0 ps=true/\PyData.depthAll ps<=n
 | [],_=>⟨[],rfl,rfl,xeb _⟩
 | d::ds,h=>by
  obtain⟨p,e,h1,h2⟩:=h d (by simp);obtain⟨ps,es,h3,h4⟩:=Sh.all (ds:=ds) λx hx=>h x (by simp[hx])
  refine⟨p::ps,by rw[toDatas,e,es];rfl,?_,?_⟩
  ·show(p.canLay0&&PyData.canLayAll0 ps)=true;rw[h1,h3];rfl
  ·show max p.depth (PyData.depthAll ps)<=n;lia
theorem Sh.lst(h:∀d∈ds,Sh n d):Sh (n+1) (.lst ds):=by
 obtain⟨ps,e,h1,h2⟩:=Sh.all h;exact⟨.list ps,by rw[toData,e];rfl,h1,xey h2⟩
theorem Sh.mono(h:n<=m) (s:Sh n d):Sh m d:=by
 obtain⟨p,e,h1,h2⟩:=s;exact⟨p,e,h1,xbb h2 h⟩
theorem Sh.ok(e:toData d=some p)(h1:p.canLay0=true)(h2:p.depth<=64):PySem.SeqAt.shaped p=true/\PyData.eqv p p=true:=by
 refine⟨?_,PySem.SeqAt.eqv_refl p h1⟩;show(p.canLay0&&decide (p.depth<=64))=true;rw[h1,xcs h2];rfl
theorem zpx(hx:now au x=d)(hy:now au y=d)(h:Sh 64 d):oEqG neg x y au=.ok (.bl (!neg)) au:=by
 obtain⟨p,e,h1,h2⟩:=h;obtain⟨s1,s2⟩:=Sh.ok e h1 h2;unfold oEqG dataOf;rw[hx,hy,e];dsimp only;rw[if_pos ⟨s1,s1⟩,s2];cases neg<;>rfl
theorem zbis(h:au[n]?=some (.lst xs)):now au (.ref n)=.lst xs:=by
 unfold now;rw[show asL au (.ref n)=some xs from by unfold asL;dsimp only;rw[h]]
end Dd
namespace Dd
open PySem L2 K13
def stands(A:Tab):Nat->List Row->List Row
 | _,[]=>[]
 | i,r::l=>if(A (i+1)).isSome=true then stands A (i+1) l else r::stands A (i+1) l
theorem zim(A:Tab)(r:Row):∀(l:List Row) (i:Nat),stands A i (l++[r])=stands A i l++(if(A (i+l.length+1)).isSome=true then[] else[r])
 | [],i=>by
  show stands A i [r]=_;unfold stands
  rfl
 | x::l,i=>by
  show stands A i (x::(l++[r]))=_;unfold stands;rw[zim A r l,show i+1+l.length+1=i+(x::l).length+1 by rw[xbx];lia];split
  ·rfl
  ·rfl
theorem zbea:(List.range 10).all (λi=>(List.range 25).all λd=>decide ((d:Int)<=mostD ((i:Int)+1)->cntP (d:Int) i<=200))=true:=by decide +kernel
theorem zbbw:(List.range 10).all (λi=>decide (2<i->mostD ((i:Int)+1)<=10))=true:=by decide +kernel
theorem zbpc{N d:Int}(h1:1<=N)(h2:N<=10)(d0:0<=d)(hd:d<=mostD N):cntP d (N - 1).toNat<=200/\Fit (N - 1).toNat d:=by
 obtain⟨f1,f2,f3⟩:=zdy h1 h2;have d24:d<=24:=by split at f2<;>lia
 obtain⟨i,hi⟩:∃i:Nat,N=(i:Int)+1:=⟨(N - 1).toNat,by lia⟩
 obtain⟨e,rfl⟩:=xgo d0;have hi2:(N - 1).toNat=i:=by lia
 rw[hi2];have a:=xef (xdp.mp (xdp.mp zbea i (xck.mpr (by lia))) e (xck.mpr (by lia)));have b:=xef (xdp.mp zbbw i (xck.mpr (by lia)));rw[← hi] at a b;refine⟨a hd,by lia,by lia,by lia,?_,λz=>by have:=b z;lia⟩;rw[hi2] at f3;exact xbb (xli (by lia) _) f3
theorem zsn(hn:au[n]?=some (.dI kvs))(hσ:∃v w,σ0=[v,w,some (.ref n)])
  (hneg:∀(i:Nat) (r:Row),WP (neg [some (.int (0+(i:Int))),some (aM r),some (.ref n)] au) (λx s=>∃k:Int,x=.int k/\s=au/\(valI kvs k).isSome=(A (i+1)).isSome))(q:Q (aJ (stands A 0 AL)) au) :
  WP (compF (gT 2 (gsCons (gN 0) (gsCons (gN 1) gsNil))) (eB (aU (oIIn true) neg (aA 2))) (aA 1) (numF 0 (aJ AL)) σ0 au) Q:=by
 refine zzs (λi acc σ s=>(∃v w,σ=[v,w,some (.ref n)])/\s=au/\acc=aJ (stands A 0 (AL.take i))) ⟨hσ,rfl,rfl⟩ ?_ ?_
 ·rintro i x acc σ s hx ⟨⟨v,w,rfl⟩,rfl,rfl⟩;obtain⟨y,hy,rfl⟩:=zke hx;obtain⟨r,hr,rfl⟩:=zdh hy;have hi:i<AL.length:=(xbj.mp hr).1;refine⟨_,rfl,?_⟩;simp only[W,V];refine(hneg i r).mono λx s' hx=>?_
  obtain⟨k,rfl,rfl,hk⟩:=hx
  try simp only[W,V]
  rw[zbjp hn];simp only[W,V,xeq,hk];have sn:=zim A r (AL.take i) 0;rw[← zp hr,List.length_take_of_le (by lia),xdr] at sn;cases e:(A (i+1)).isSome with
  | true =>
   rw[e,if_pos rfl,xct] at sn;rw[if_neg (by decide)];exact⟨⟨_,_,rfl⟩,trivial,by rw[sn]⟩
  | false =>
   rw[e,if_neg (by decide)] at sn;rw[if_pos rfl];refine⟨⟨_,_,rfl⟩,trivial,?_⟩;rw[sn];unfold aJ;rw[xgj];rfl
 ·rintro ys σ s ⟨_,rfl,rfl⟩;rw[zcs,zr,xcp];exact q
end Dd
namespace K59
end K59
namespace Dd
open PySem L2 K13
theorem zdx(h0:au[0]?=some .tab)(q:WP (F (lam (aV 0 is σ)) [.ref au.length] (au++[.dead])) Q):WP (eRefd F is lam σ au) Q:=by
 unfold eRefd;rw[h0];exact q
theorem zbik{α:Type}{r:Res α} (h:WX r (λ_ _=>False) (λy t=>y=x/\t=s)):r=.exc x s:=by
 cases r with
 | ok a t=>exact h.elim
 | exc y t=>obtain⟨rfl,rfl⟩:=h;rfl
 | stuck=>exact h.elim
theorem zvs{α β:Type}{r:Res α}{f:α->Store->Res β}{Q:β->Store->Prop}:WX (r.bind f) Q E=WX r (λa s=>WX (f a s) Q E) E:=by
 cases r<;>rfl
theorem zbog :WX (noF F ds au) Q E=WP (F ds au) Q:=by
 unfold noF;cases F ds au<;>rfl
theorem VY:(∀{F:DFn} {g:SA} {σ:DS} {au:Store} {Q:D->Store->Prop} {E:Exc->Store->Prop},WX (aE F g σ au) Q E=WX (g σ au) (λxs st1=>WX (F xs st1) Q E) E)
 /\ (∀{f:SE} {g:SA} {σ:DS} {au:Store} {Q:List D->Store->Prop} {E:Exc->Store->Prop},WX (aB f g σ au) Q E=WX (f σ au) (λx st1=>WX (g σ st1) (λxs st2=>Q (x::xs) st2) E) E)
 /\ (∀{σ:DS} {au:Store} {Q:List D->Store->Prop} {E:Exc->Store->Prop},WX (aC σ au) Q E=Q [] au)
 /\ (∀{F:DFn} {ds:List D} {au:Store} {Q:D->Store->Prop} {E:Exc->Store->Prop},WX (noF F ds au) Q E=WP (F ds au) Q)
 /\ (∀{t:ST} {f f':SE} {σ:DS} {au:Store} {Q:D->Store->Prop} {E:Exc->Store->Prop},WX (eIf (noX t) f f' σ au) Q E=WP (t σ au) (λb st1=>if b=true then WX (f σ st1) Q E else WX (f' σ st1) Q E)):=by
 refine⟨zvs,?_,rfl,zbog,?_⟩
 ·intro f g σ au Q E;unfold aB;rw[zvs]
  congr;funext x s
  rw[zvs];rfl
 ·intro t f f' σ au Q E;show WX ((noX t σ au).bind _) Q E=_;rw[zku]
  congr;funext b st1
  cases b<;>rfl
theorem zbru{α:Type}{r:Res α}{v:α} (h:WX r (λw t=>w=v/\t=s) (λ_ _=>False)):r=.ok v s:=by
 cases r with
 | ok a t=>obtain⟨rfl,rfl⟩:=h;rfl
 | exc y t=>exact h.elim
 | stuck=>exact h.elim
theorem zys:(List.range 10).all (λi=>(List.range 25).all λd=>decide ((d:Int)<=(if(i:Int)+1<=3 then 24 else 10)->(cntP (d:Int) i<=200↔(d:Int)<=mostD ((i:Int)+1))))=true:=by decide +kernel
theorem zbav{N:Int}(h1:1<=N)(h2:N<=10)(d0:0<=d)(hd:d<=if N<=3 then 24 else 10):cntP d (N - 1).toNat<=200↔d<=mostD N:=by
 obtain⟨i,hi⟩:∃i:Nat,N=(i:Int)+1:=⟨(N - 1).toNat,by lia⟩
 obtain⟨e,rfl⟩:=xgo d0;have a:=xef (xdp.mp (xdp.mp zys i (xck.mpr (by lia))) e (xck.mpr (by split at hd<;>lia)));rw[← hi] at a;rw[show(N - 1).toNat=i by lia];exact a hd
theorem zblk{N:Int}(h1:1<=N)(h2:N<=10)(d0:0<=d):zbc [.int N,.int d] au=.ok (.bl (decide (d<=mostD N))) au:=by
 have mf:=zdy h1 h2;have key:WP (zbc [.int N,.int d] au) (λv s=>v=.bl (decide (d<=mostD N))/\s=au):=by
  refine zik rfl ?_;simp only[W,V];refine WP.mono (Q:=λv s=>v=.int (if N<=3 then 24 else 10)/\s=au) ?_ ?_
  ·refine zik rfl ?_;simp only[W,V];refine⟨trivial,?_⟩;by_cases c:N<=3
   ·simp only[c,xeq,xju]
   ·simp only[c,xen,xju]
  ·rintro v s ⟨rfl,rfl⟩;simp only[W,V];refine⟨trivial,?_⟩;by_cases c:d<=if N<=3 then 24 else 10
   ·simp only[c,xfo,xeq,W,V];refine zpi h1 h2 d0 ?_ ?_
    ·have:(30:Int)<10 ^ 40:=by decide
     split at c<;>lia
    ·simp only[W,V];refine⟨trivial,?_⟩;rw[xgw.mpr (zbav h1 h2 d0 c)]
     first|exact⟨rfl,trivial⟩|exact⟨rfl,rfl⟩|simp
   ·have:¬ d<=mostD N:=λz=>c (xmk z mf.2.1)
    simp only[c,this,xfc,W,V]
    first|exact⟨rfl,trivial⟩|exact⟨rfl,rfl⟩|simp
 obtain⟨v,s,e,rfl,rfl⟩:=key.get;exact e
theorem zvq{N:Int}(h1:1<=N)(h2:N<=10)(d0:0<=d)(hd:d<=mostD N):zbo [.int N,.int d] au=.ok (.int d) au:=by
 refine zbru (zrx rfl ?_);simp only[VX,W,V];refine WP.of (zblk h1 h2 d0) ?_;simp only[VX,W,V,hd,xfo];exact⟨true,rfl,by simp⟩
theorem zjl{N:Int}(h1:1<=N)(h2:N<=10)(d0:0<=d)(hd:mostD N<d):zbo [.int N,.int d] au=.exc ⟨"TooMany",[]⟩ au:=by
 have:¬ d<=mostD N:=by lia
 refine zbik (zrx rfl ?_);simp only[VX,W,V];refine WP.of (zblk h1 h2 d0) ?_;simp only[VX,W,V,this,xfc];exact⟨false,rfl,by rw[if_pos rfl];exact⟨small _ (by simp),trivial,trivial⟩⟩
theorem zvy(d0:0<=d):zbu [.int d] au=.ok (.int d) au:=by
 refine zbru (zrx rfl ?_);simp only[VX,W,V];refine WP.of (zjg (au:=au) (i:=d)) ⟨true,rfl,?_⟩;simp only[VX,W,V,Bool.not_true];rw[if_neg (by lia)];exact⟨trivial,trivial⟩
theorem zbkc{N:Int}(h1:1<=N)(h2:N<=10)(q:Q (.int (mostD N+1)) au):WP (zdb [.int N] au) Q:=by
 have mf:=zdy h1 h2;have m24:mostD N<=24:=by have:=mf.2.1;split at this<;>lia
 refine zik rfl ?_;simp only[W,V];refine zjq (λm σ s=>∃d:Int,0<=d/\d<=mostD N+1/\m=(mostD N+1 - d).toNat/\σ=[some (.int N),some (.int d)]/\s=au) (k:=(mostD N+1 - 0).toNat) ⟨0,by lia,by lia,rfl,rfl,rfl⟩ (by lia) ?_;rintro m σ s ⟨d,d0,d1,rfl,rfl,rfl⟩;simp only[W,V];refine zbjy h1 h2 d0 (by lia) ⟨_,rfl,?_⟩;have e:(decide (d<=if N<4 then 24 else 10)&&decide (cntP d (N - 1).toNat<=200))=decide (d<=mostD N):=by
  have t:(if N<4 then(24:Int) else 10)=if N<=3 then 24 else 10:=by split<;>split<;>lia
  rw[t];by_cases c:d<=if N<=3 then 24 else 10
  ·rw[xcs c,Bool.true_and,xgw.mpr (zbav h1 h2 d0 c)]
  ·rw[xcc c,xmx,xcc λz=>c (xmk z mf.2.1)]
 rw[e];by_cases c:d<=mostD N
 ·rw[xcs c,if_pos rfl];unfold zgo;simp only[W,V,L];exact⟨(mostD N+1 - (d+1)).toNat,by lia,d+1,by lia,by lia,rfl,rfl,trivial⟩
 ·rw[xcc c,if_neg (by decide)];obtain rfl:d=mostD N+1:=by lia
  exact q
theorem zbbt{X:List Int}{a b:Int}(ha:a∈X)(hb:b∈X)(ne:a≠b):1<X.length:=by
 match X,ha,hb with
 | [],ha,_=>cases ha
 | [x],ha,hb=>exact absurd ((xbk.mp ha).trans (xbk.mp hb).symm) ne
 | _::_::_,_,_=>simp
theorem zwp{N:Int}{l:List Row}(hl:l.length<=1000)(hs:∀ r∈l,0<=r.sum/\r.sum<64) (hp:p∈l)(hq:q∈l)(ne:p.sum≠q.sum)(k:∀ g,E ⟨"Unlike",[]⟩ (au++g)):WX (zo [.int N,aK l] au) Q E:=by
 refine zrx rfl ?_;simp only[VX,W,V];refine zme hl hs ?_;have lt:1<(sortI (once (l.map List.sum))).length:=by
  have mem:∀r∈l,r.sum∈sortI (once (l.map List.sum)):=λr hr=>(zhd _).mem_iff.mpr (zhi.mpr (xce.mpr ⟨r,hr,rfl⟩))
  exact zbbt (mem p hp) (mem q hq) ne
 rw[len59 (m:=au.length) (xs:=(sortI (once (l.map List.sum))).map .int) (by simp)];simp only[VX,W,V,xbc];rw[if_pos (by lia)];exact⟨trivial,small _ (by simp),k _⟩
theorem zbiz{N:Int}{r:Row}(h1:1<=N)(h2:N<=10)(d0:0<=d)(d1:d<64)(hd:mostD N<d)(hs:r.sum=d)(k:∀ g,E ⟨"TooMany",[]⟩ (au++g)):WX (zo [.int N,aK [r]] au) Q E:=by
 refine zrx rfl ?_;simp only[VX,W,V];refine zme (l:=[r]) (by simp) (λx hx=>by rw[xbk.mp hx,hs];lia) ?_;have e1:once ([r].map List.sum)=[d]:=zlo (by simp) λx hx=>by
  obtain⟨r',hr,rfl⟩:=xce.mp hx;rw[xbk.mp hr,hs]
 rw[e1,zwz];have g:(au++[O.lst ([d].map .int)])[au.length]?=some (.lst [.int d]):=by simp
 have s1:seqOf (au++[O.lst ([d].map .int)]) (.ref au.length)=some [.int d]:=by
  unfold seqOf asL;simp[g]
 have k1:=k [O.lst ([d].map .int)];generalize au++[O.lst ([d].map .int)]=st1 at g s1 k1;have e3:tru st1 (.ref au.length)=some true:=by
  unfold tru asL;simp[g]
 rw[len59 (m:=au.length) (xs:=[.int d]) g];simp only[VX,VY,W,V];refine⟨trivial,?_⟩;rw[if_neg (by simp)];refine⟨true,e3,?_⟩;rw[if_pos rfl,zkt];simp only[W,V];refine zum (d:=.int d) s1 rfl ?_;rw[zjl h1 h2 d0 hd];exact k1
theorem zul{N:Int} (h:∀P:D->Store->Prop,WX (zo [.int N,aK l] au) P E):WX (zdm [.int N,aK l] au) Q E:=by
 refine zrx rfl ?_;simp only[VX,W,V];exact(h λ_ _=>False).mono (λ_ _ z=>z.elim) λ_ _ z=>z
theorem zbeb{N:Int} (h:∀P:D->Store->Prop,WX (zo [.int N,aK l] au) P E):WX (zcm [.int N,aK l] au) Q E:=by
 refine zrx rfl ?_;simp only[VX,W,V];exact(h λ_ _=>False).mono (λ_ _ z=>z.elim) λ_ _ z=>z
theorem zoy{N:Int}(h1:1<=N)(h2:N<=10)(d0:0<=d)(hd:mostD N<d)(k:E ⟨"TooMany",[]⟩ au):WX (zbp [.int N,.int d] au) Q E:=by
 refine zrx rfl ?_;simp only[VX,VY,zkt,W,V];rw[zvy d0];show WX (zbo [.int N,.int d] au) _ _;rw[zjl h1 h2 d0 hd];exact k
theorem zzk{N:Int}(h1:1<=N)(h2:N<=10)(d0:0<=d)(hd:mostD N<d)(k:E ⟨"TooMany",[]⟩ au):WX (zu [.int N,.int d] au) Q E:=by
 refine zrx rfl ?_;simp only[VX,VY,zkt,W,V];exact zoy h1 h2 d0 hd k
theorem zvg{N:Int}(h1:1<=N)(h2:N<=10)(d0:0<=d)(hd:d<=mostD N)(k:∀v g,Q v (au++g)):WX (zu [.int N,.int d] au) Q E:=by
 obtain⟨fw,fit⟩:=zbpc h1 h2 d0 hd;have hm:=zdy h1 h2;have hN:N=((N - 1).toNat:Int)+1:=by lia
 have h24:=fit.d24;refine zrx rfl ?_;simp only[VX,VY,zkt,W,V];refine zrx rfl ?_;simp only[VX,VY,zkt,W,V];rw[zvy d0];show WX (zbo [.int N,.int d] au) _ _;rw[zvq h1 h2 d0 hd];show WP _ _;refine zbhj 9 (N - 1).toNat (d:=d) (N:=N) fit.m9 (by have:=fit.m9;lia) hN d0 (by lia) fit.few λg0=>?_
 try simp only[VX,VY,zkt,W,V]
 refine zxj (zmo _ _) fit.len λpk pl=>?_
 refine zop hN fit (n:=(au++g0).length) (by simp) pl λkvs so g B i en rp lb=>?_
 refine zum rfl rfl ?_;refine zbgh ?_;simp only[W,V];refine⟨_,rfl,by rw[zcs,zr];exact small _ (by have:=fit.len;lia),?_⟩;refine zsn (kvs:=kvs) (A:=B) (by simp) ⟨_,_,rfl⟩ (λj r=>?_) ?_
 ·simp only[W,V];exact⟨_,rfl,trivial,by rw[show(0:Int)+(j:Int)+1=((j+1:Nat):Int) by lia,rp.is]⟩
 ·rw[len59 (m:=(au++g0++[O.dT pk]++O.dI kvs::O.dead::g).length) (xs:=aJ (stands B 0 (allL d (N - 1).toNat))) (by simp)];have:=k (.int (aJ (stands B 0 (allL d (N - 1).toNat))).length) (g0++.dT pk::.dI kvs::.dead::g++[.lst (aJ (stands B 0 (allL d (N - 1).toNat)))]);simp only[W]
  simpa using this
theorem zfh(h:WX (g au) (λ_ s=>Q (.str "told") s) (λx s=>(x=⟨"TooMany",[]⟩/\Q (.str "many") s)\/(x=⟨"Unlike",[]⟩/\Q (.str "unlike") s))):WP (zi g [.ref n] au) Q:=by
 unfold zi;cases e:g au with
 | stuck=>rw[e] at h;exact h.elim
 | ok v s1 =>
  rw[e] at h;have z:fnD 4 1 (zx g) [.ref n] au=.ok (.str "told") s1:=by
   unfold fnD zx aD sTry sDrop;simp only[e]
   rfl
  exact WP.of z h
 | exc x s1 =>
  rw[e] at h;rcases h with⟨rfl,h⟩|⟨rfl,h⟩
  ·have z:fnD 4 1 (zx g) [.ref n] au=.ok (.str "many") s1:=by
    unfold fnD zx aD sTry sDrop;simp only[e]
    rfl
   exact WP.of z h
  ·have z:fnD 4 1 (zx g) [.ref n] au=.ok (.str "unlike") s1:=by
    unfold fnD zx aD sTry sDrop;simp only[e]
    rfl
   exact WP.of z h
theorem zcf(h:au[0]?=some .tab)(g:Store):(au++g)[0]?=some .tab:=by rw[xbt (zbd h)];exact h
theorem zkx(h:au[0]?=some .tab)(hn:BagAt au n)(d:Drew au s n):s[0]?=some .tab:=by
 refine(d.keep 0 (zbd h) λe=>?_).trans h;subst e;obtain⟨c,x,e,_⟩:=hn;rw[h] at e;cases e
structure At58 (s:Store) (n m:Nat) (xs:List D):Prop where
 tab:s[0]?=some .tab
 bag:BagAt s n
 ls:s[m]?=some (.lst xs)
 ne:m≠n
theorem At58.more(h:At58 s n m xs)(g:Store):At58 (s++g) n m xs:=⟨zcf h.tab g,(Drew.more h.bag g).bag,by rw[xbt (zbd h.ls)];exact h.ls,h.ne⟩
theorem At58.draw(h:At58 s n m xs)(d:Drew s s' n):At58 s' n m xs:=⟨zkx h.tab h.bag d,d.bag,by rw[d.keep _ (zbd h.ls) h.ne];exact h.ls,h.ne⟩
theorem At58.put(h:At58 s n m xs):At58 (s.set m (.lst ys)) n m ys:=by
 refine⟨?_,h.bag.set h.ne,zio (zbd h.ls),h.ne⟩;rw[xcu (λe=>by subst e;have:=h.tab;rw[h.ls] at this;cases this)];exact h.tab
structure Two58 (l:List Row):Prop where
 few:l.length<=1000
 sums:∀r∈l,0<=r.sum/\r.sum<64
 two:∃p q,p∈l/\q∈l/\p.sum≠q.sum
theorem two58{p q:Row}(hp:0<=p.sum/\p.sum<64)(hq:0<=q.sum/\q.sum<64)(ne:p.sum≠q.sum):Two58 (aP [p,q]):=by
 have nq:¬ p=q:=λe=>ne (by rw[e])
 have mem:∀x,x∈aP [p,q]↔[p,q].count x % 2=1:=λx=>(zcb _).mem_iff.trans zhl
 refine⟨by have:=zrh [p,q];simp at this;lia,λr hr=>?_,p,q,(mem p).mpr ?_,(mem q).mpr ?_,ne⟩
 ·have:=zts hr;simp only[xbn,xhq,xmq] at this;rcases this with rfl|rfl
  ·exact hp
  ·exact hq
 ·have:¬ q=p:=λe=>nq e.symm
  simp[xie,this]
 ·simp[xie,nq]
noncomputable def most58(N:Int):Int:=if N<4 then 24 else 10
section
variable {n:Nat}
theorem first58{ns:List Int}{i:Nat}{T:SS} (hl:ns.length<=63)(hi:i<=6)(t0:au[0]?=some .tab)(k:∀N d o l s n,1<=N->N<=10->Two58 l->BagAt s n->s[0]?=some .tab->WP (T [some (.scr (ns.map .int)),some (.int (i:Int)),some (.ref n),some (.int N),some (.int (mostD N+1)),some (.int (most58 N)),some (.int d),some (.int o),some (aK l),v9,v10,v11] s) QQ) :
  WP ((aD (aF 2 (aE zdl (aB (aA 0) (aB (aA 1) aC))))
 (aD (aF 3 (aU aN (eC (.int 1)) (aE zq (aB (aA 2) (aB (eC (.int 10)) aC)))))
 (aD (aF 4 (aE zdb (aB (aA 3) aC)))
 (aD (aF 5 (aU oIx (eLst (aB (eC (.int 10)) (aB (eC (.int 24)) aC))) (aE bInt (aB (aU oLtT (aA 3) (eC (.int 4))) aC))))
 (aD (aF 6 (aE zq (aB (aA 2) (aB (aA 5) aC))))
 (aD (aF 7 (aU aN (aU aN (aA 6) (eC (.int 1))) (aE zq (aB (aA 2) (aB (aU oSub (aA 5) (aA 6)) aC)))))
 (aD (aF 8 (aE zck (aB (eLst (aB (aE zw (aB (aA 2) (aB (aA 3) (aB (aA 6) aC)))) (aB (aE zw (aB (aA 2) (aB (aA 3) (aB (aA 7) aC)))) aC))) aC)))
 T))))))) [some (.scr (ns.map .int)),some (.int (i:Int)),v2,v3,v4,v5,v6,v7,v8,v9,v10,v11] au) QQ:=by
 simp only[W,V];refine zbqv hl (by lia) λg hb=>?_
 have t1:=zcf t0 g;refine zgj hb (by lia) (by lia) λa s2 a0 a1 D2=>?_
 simp only[W,V];refine zbkc (by lia) (by lia) ?_
 try simp only[W,V]
 refine⟨small _ (by simp),zbjz ?_⟩;have hm:10<=most58 (1+a)/\most58 (1+a)<=24:=by unfold most58;split<;>lia
 rw[show(if 1+a<4 then(24:Int) else 10)=most58 (1+a) from rfl];refine zgj D2.bag (by lia) (by lia) λd s3 d0 d1 D3=>?_
 simp only[W,V];refine⟨trivial,?_⟩;refine zgj D3.bag (by lia) (by lia) λt s4 e0 e1 D4=>?_
 simp only[W,V];refine zfb D4.bag (by lia) (by lia) (by lia) (by lia) λp s5 _ _ p3 D5=>?_
 refine zfb D5.bag (by lia) (by lia) (by lia) (by lia) λq s6 _ _ q3 D6=>?_
 refine⟨small _ (by simp),zbin (l:=[p,q]) rfl (by simp) λg7=>?_⟩;have D:=((D2.trans D3).trans D4).trans (D5.trans D6);exact k _ _ _ _ _ _ (by lia) (by lia) (two58 (by lia) (by lia) (by lia)) (Drew.more D.bag g7).bag (zcf (zkx t1 hb D) g7)
end
theorem zel{N:Int} (t0:s[0]?=some .tab)(h3:aV 0 [3,j] σ=[some (.int N),some (aK l)]) (hc:(c="TooMany"/\w="many")\/(c="Unlike"/\w="unlike"))(h:∀(au:Store) (P:D->Store->Prop) (E:Exc->Store->Prop),(∀ g,E ⟨c,[]⟩ (au++g))->WX (zo [.int N,aK l] au) P E)(k:∀ g,Q (.str w) (s++g)) :
  WP (eRefd zi [3,j] (aE zdm (noX (aB (aA 0) (aB (aA 1) aC)))) σ s) Q/\WP (eRefd zi [3,j] (aE zcm (noX (aB (aA 0) (aB (aA 1) aC)))) σ s) Q:=by
 have kk:∀ g,(((⟨c,[]⟩:Exc)=⟨"TooMany",[]⟩/\Q (.str "many") (s++[.dead]++g))\/((⟨c,[]⟩:Exc)=⟨"Unlike",[]⟩/\Q (.str "unlike") (s++[.dead]++g))):=λg=>by
  have:=k ([.dead]++g);rw[← xcj] at this;rcases hc with⟨rfl,rfl⟩|⟨rfl,rfl⟩
  ·exact .inl ⟨rfl,this⟩
  ·exact .inr ⟨rfl,this⟩
 refine⟨zdx t0 (zfh ?_),zdx t0 (zfh ?_)⟩
 ·rw[h3];simp only[VX,W,V];exact zul λP=>h _ P _ kk
 ·rw[h3];simp only[VX,W,V];exact zbeb λP=>h _ P _ kk
theorem deeds58(h:s[m]?=some (.lst [.str "unlike", .str "unlike", .str "many", .str "many"])):oEqG true (.ref m) (.lst [.str "unlike", .str "unlike", .str "many", .str "many"]) s=.ok (.bl false) s:=by
 refine zpx (neg:=true) (d:=.lst [.str "unlike", .str "unlike", .str "many", .str "many"]) (zbis h) rfl ((Sh.lst (n:=5) λx hx=>?_).mono (by lia))
 simp only[xbn,xhq,xmq] at hx;rcases hx with rfl|rfl|rfl|rfl<;>exact Sh.str (by decide +kernel)
theorem zyn(ns:List Int)(hl:ns.length<=63):∀au:Store,au=[.tab]->∃st',zbrg [.scr (ns.map .int)] au=.ok (.bl true) st':=λau hst=>by
 have shM:Sh 64 (.str "many"):=Sh.str (by decide +kernel)
 have shT:Sh 64 (.str "told"):=Sh.str (by decide +kernel)
 have big:(10:Int) ^ 39<2 ^ 1000:=by decide +kernel
 have key:WP (zbrg [.scr (ns.map .int)] au) (λv _=>v=.bl true):=by
  have hs0:au[0]?=some .tab:=by rw[hst];rfl
  clear hst;refine zik rfl ?_;simp only[W,V];have hle:((ns.map D.int).length:Int)<=63:=by rw[xbc];lia
  have hge:(0:Int)<=((ns.map D.int).length:Int):=by lia
  generalize ((ns.map D.int).length:Int)=len at hle hge;refine⟨_,rfl,rngN (by split<;>lia) (by split<;>lia),?_⟩;refine zgp (λi σ s=>(∃v1 v2 v3 v4 v5 v6 v7 v8 v9 v10 v11:Option D,σ=[some (.scr (ns.map .int)),v1,v2,v3,v4,v5,v6,v7,v8,v9,v10,v11])/\s[0]?=some .tab) ⟨⟨_,_,_,_,_,_,_,_,_,_,_,rfl⟩,hs0⟩ ?_ ?_
  ·rintro i x σ s0 hx ⟨⟨v1,v2,v3,v4,v5,v6,v7,v8,v9,v10,v11,rfl⟩,h0⟩;obtain⟨hi,rfl⟩:=zlj hx;have hi2:i<=6:=by split at hi<;>lia
   refine⟨_,rfl,?_⟩;unfold zwe;rw[xjr];refine first58 hl hi2 h0 λN d o l s n n1 n2 two hb t0=>?_
   have mf:=zdy n1 n2;have un:∀(au:Store) (P:D->Store->Prop) (E:Exc->Store->Prop),(∀ g,E ⟨"Unlike",[]⟩ (au++g))->WX (zo [.int N,aK l] au) P E:=λau P E k=>by
    obtain⟨p,q,hp,hq,ne⟩:=two.two;exact zwp two.few two.sums hp hq ne k
   have mI:most58 N=if N<=3 then 24 else 10:=by unfold most58;split<;>split<;>lia
   have m24:most58 N<=24:=by rw[mI];split<;>lia
   have mle:mostD N<=most58 N:=by rw[mI];exact mf.2.1
   refine zeq (R:=λfl s'=>∃ m,fl=.nx [some (.scr (ns.map .int)),some (.int (i:Int)),some (.ref n),some (.int N),some (.int (mostD N + 1)),some (.int (most58 N)),some (.int d),some (.int o),some (aK l),some (.ref m),v10,v11]/\At58 s' n m [.str "unlike"]) ?_ ?_
   ·simp only[W,V];refine(zel t0 rfl (.inr ⟨rfl,rfl⟩) un λg=>?_).1;refine⟨small _ (by simp),_,rfl,zcf (zcf t0 g) _,(Drew.more (Drew.more hb g).bag _).bag,by simp,?_⟩;have:=hb.lt;rw[xbl];lia
   rintro _ s1 ⟨m,rfl,A1⟩;clear hb t0;show WP _ _;refine zeq (R:=λfl s'=>fl=.nx [some (.scr (ns.map .int)),some (.int (i:Int)),some (.ref n),some (.int N),some (.int (mostD N + 1)),some (.int (most58 N)),some (.int d),some (.int o),some (aK l),some (.ref m),v10,v11]/\At58 s' n m [.str "unlike", .str "unlike"]) ?_ ?_
   ·simp only[W,V,M];refine⟨_,_,rfl,A1.ls,?_⟩;refine(zel A1.tab rfl (.inr ⟨rfl,rfl⟩) un λg=>?_).2;exact⟨_,_,rfl,(A1.more g).ls,by rw[xgg];simp,trivial,(A1.more g).put⟩
   rintro _ s2 ⟨rfl,A2⟩;show WP _ _;refine zeq (R:=λfl s'=>∃ w10,fl=.nx [some (.scr (ns.map .int)),some (.int (i:Int)),some (.ref n),some (.int N),some (.int (mostD N + 1)),some (.int (most58 N)),some (.int d),some (.int o),some (aK l),some (.ref m),w10,v11]/\At58 s' n m [.str "unlike", .str "unlike"]) ?_ ?_
   ·simp only[W,V];by_cases c:mostD N+1<=most58 N
    ·rw[if_pos c];refine⟨trivial,trivial,?_⟩;refine zgj A2.bag (by lia) (by lia) λt s3 t0 t1 D3=>?_
     simp only[W,V];have A3:=A2.draw D3;refine zfb A3.bag n1 (by lia) (by lia) (by lia) λr s4 _ _ r3 D4=>?_
     have A4:=A3.draw D4;have mn:∀(au:Store) (P:D->Store->Prop) (E:Exc->Store->Prop),(∀ g,E ⟨"TooMany",[]⟩ (au++g))->WX (zo [.int N,aK [r]] au) P E:=λau P E k=>zbiz n1 n2 (d:=mostD N + 1 + t) (by lia) (by lia) (by lia) r3 k
     refine⟨small _ (by simp),?_⟩;refine(zel A4.tab rfl (.inl ⟨rfl,rfl⟩) mn λg=>?_).1;refine WP.of (zpx (neg:=true) rfl rfl shM) ?_;dsimp only[bK];rw[if_neg (by decide)];refine(zel (A4.more g).tab rfl (.inl ⟨rfl,rfl⟩) mn λg'=>?_).2;refine WP.of (zpx (neg:=true) rfl rfl shM) ?_;dsimp only[bK];rw[if_neg (by decide)];exact⟨_,rfl,(A4.more g).more g'⟩
    ·rw[if_neg c];exact⟨trivial,_,rfl,A2⟩
   rintro _ s3 ⟨w10,rfl,A3⟩;show WP _ _;refine zeq (R:=λfl s'=>∃ b:Int,fl=.nx [some (.scr (ns.map .int)),some (.int (i:Int)),some (.ref n),some (.int N),some (.int (mostD N + 1)),some (.int (most58 N)),some (.int d),some (.int o),some (aK l),some (.ref m),w10,some (.int b)]/\mostD N<b/\At58 s' n m [.str "unlike", .str "unlike"]) ?_ ?_
   ·simp only[W,V];refine⟨⟨by decide,by decide,by decide⟩,?_⟩;refine zbbx A3.bag (by decide) big λe s4 e0 e1 D4=>?_
    simp only[W,V];refine⟨small _ (by simp),?_⟩;have A4:=A3.draw D4;refine zgj A4.bag (by lia) (by lia) λt s5 t0 t1 D5=>?_
    have A5:=A4.draw D5;refine zbho t0 (by simp;lia) λb hb=>?_
    simp only[xbn,xhq,xmq] at hb;rcases hb with rfl|rfl
    ·exact⟨_,rfl,by lia,A5⟩
    ·exact⟨_,rfl,by lia,A5⟩
   rintro _ s4 ⟨b,rfl,hbm,A4⟩;show WP _ _;refine zeq (R:=λfl s'=>fl=.nx [some (.scr (ns.map .int)),some (.int (i:Int)),some (.ref n),some (.int N),some (.int (mostD N + 1)),some (.int (most58 N)),some (.int d),some (.int o),some (aK l),some (.ref m),w10,some (.int b)]/\At58 s' n m [.str "unlike", .str "unlike", .str "many"]) ?_ ?_
   ·simp only[W,V,M];refine⟨_,_,rfl,A4.ls,?_⟩;refine zdx A4.tab (zfh ?_);show WX (aE zu (noX (aB (aA 0) (aB (aA 1) aC))) [some (.int N),some (.int b)] _) _ _;simp only[VX,W,V];exact zzk n1 n2 (by lia) hbm (.inl ⟨rfl,_,_,rfl,(A4.more _).ls,by rw[xgg];simp,trivial,(A4.more _).put⟩)
   rintro _ s5 ⟨rfl,A5⟩;show WP _ _;refine zeq (R:=λfl s'=>fl=.nx [some (.scr (ns.map .int)),some (.int (i:Int)),some (.ref n),some (.int N),some (.int (mostD N + 1)),some (.int (most58 N)),some (.int d),some (.int o),some (aK l),some (.ref m),w10,some (.int b)]/\At58 s' n m [.str "unlike", .str "unlike", .str "many", .str "many"]) ?_ ?_
   ·simp only[W,V,M];refine⟨_,_,rfl,A5.ls,?_⟩;refine zdx A5.tab (zfh ?_);show WX (aE zbp (noX (aB (aA 0) (aB (aA 1) aC))) [some (.int N),some (.int b)] _) _ _;simp only[VX,W,V];exact zoy n1 n2 (by lia) hbm (.inl ⟨rfl,_,_,rfl,(A5.more _).ls,by rw[xgg];simp,trivial,(A5.more _).put⟩)
   rintro _ s6 ⟨rfl,A6⟩;show WP _ _;refine zeq (R:=λfl s'=>fl=.nx [some (.scr (ns.map .int)),some (.int (i:Int)),some (.ref n),some (.int N),some (.int (mostD N + 1)),some (.int (most58 N)),some (.int d),some (.int o),some (aK l),some (.ref m),w10,some (.int b)]/\s'[0]?=some .tab) ?_ ?_
   ·simp only[W,V];refine⟨small _ (by simp),WP.of (deeds58 A6.ls) ?_⟩;dsimp only[bK];rw[if_neg (by decide)];exact⟨trivial,A6.tab⟩
   rintro _ s7 ⟨rfl,t7⟩;show WP _ _;simp only[W,V];by_cases c:(i:Int)=0
   ·rw[if_pos c];refine zdx t7 (zfh ?_);show WX (aE zu (noX (aB (aA 0) (aB (aU oSub (aA 1) (eC (.int 1))) aC))) [some (.int N),some (.int (mostD N+1))] _) _ _;simp only[VX,W,V];rw[show mostD N+1 - 1=mostD N by lia];refine⟨trivial,zvg n1 n2 mf.1 (Int.le_refl _) λv g=>?_⟩;refine WP.of (zpx (neg:=true) rfl rfl shT) ?_;dsimp only[bK];rw[if_neg (by decide)];simp only[L];exact⟨⟨_,_,_,_,_,_,_,_,_,_,_,rfl⟩,zcf (zcf t7 _) _⟩
   ·rw[if_neg c];simp only[L];exact⟨⟨_,_,_,_,_,_,_,_,_,_,_,rfl⟩,t7⟩
  ·rintro σ s ⟨⟨v1,v2,v3,v4,v5,v6,v7,v8,v9,v10,v11,rfl⟩,_⟩;simp only[W,V]
 obtain⟨a,st',e,rfl⟩:=key.get;exact⟨st',e⟩
end Dd
namespace K58
theorem holds:∀ns:List Int,ns.length<=63->∃st',Dd.zbrg [.scr (ns.map .int)] [.tab]=.ok (.bl true) st':=λns hl=>Dd.zyn ns hl _ rfl
end K58
namespace K58
open PySem L2 Dd
noncomputable def top(i:Nat):Stmt:=PySem.Challenge.pw_raisedsums_k58_not_judged.main.body.getD i (.Pass ⟨0,0,0,0⟩)
abbrev zlh:Stmt:=top 57
abbrev ziv:Stmt:=top 62
abbrev ziw:Stmt:=top 63
abbrev zix:Stmt:=top 65
abbrev ziu:Stmt:=top 58
abbrev zlg:Stmt:=top 59
abbrev zpd:Stmt:=top 34
abbrev zgl:Stmt:=top 35
abbrev zcg:Stmt:=top 36
abbrev zev:Stmt:=top 38
abbrev zjy:Stmt:=top 41
abbrev zfa:Stmt:=top 43
abbrev zne:Stmt:=top 52
abbrev zjx:Stmt:=top 53
abbrev zba:Stmt:=top 37
abbrev zfg:Stmt:=top 44
abbrev zdo:Stmt:=top 45
abbrev zle:Stmt:=top 48
abbrev zis:Stmt:=top 47
abbrev zlf:Stmt:=top 16
abbrev zst:Stmt:=top 21
abbrev zeu:Stmt:=top 22
abbrev zdv:Stmt:=top 23
abbrev zbgz:Stmt:=top 17
abbrev zsu:Stmt:=top 24
abbrev zit:Stmt:=top 49
abbrev zdf:Stmt:=top 42
abbrev zir:Stmt:=top 46
abbrev zhe:Stmt:=top 54
abbrev zde:Stmt:=top 55
abbrev zdg:Stmt:=top 64
abbrev zdw:Stmt:=top 61
abbrev zbfx:Stmt:=top 66
theorem zrg{K:Fg}(T:TopF K "_law_bag" zlh)(XX:K.In h)(G:h.Ns mainGlobals mg)(Ah:mg "len"=none)(z_abs:mg "abs"=none)(z_min:mg "min"=none)(Ad:mg "range"=none):CalD P w K mg base "_law_bag" 1 ["_law_script","_law_at"] zdl:=cmk (Y:=⟨P,w,K,mg,base,h,XX,G⟩) ["_law_script","_law_at","_law_cell","_law_mix","_law_k"] T λnd f cdv A outer s H E hr=>(zb (sst nd zf)
 (zb (zeb (zbe (znk hr.units0) zns sv (zbm zbz zrs rfl Ah zrq (sa1 sv)) (nomark _)) (zc (sst nd (zbm zbfg zbrc rfl z_abs zbqs (sa1 (zkp sv sv (λ_ _=>rfl)))))) zbr)
 (zb (sst nd (sad (zec zln (oI_D λ_ _ _ _=>.int _) zf sv) zf))
 (zb (sfr (zfn rfl Ad (sa1 (zbm (zqh rfl) zbsd rfl z_min zbln (sa2 (zbm zbz zrs rfl Ah zrq (sa1 sv)) zf)))) (sgn nd)
 (zc (sst nd (zec zrb (oI_D λ_ _ _ _=>.int _) (sad (sad (zec zln (oI_D λ_ _ _ _=>.int _) sv zf) (zec zrb (oI_D λ_ _ _ _=>.int _) (zkp sv sv (λ_ _=>rfl)) zf)) sv) zf))))
 (zb (zeb (zbe (znk hr.units0) zns sv (zec zbig (oI_D λ_ _ _ _=>.int _) zf zf) (nomark _)) (zc (sst nd zf)) zbr)
 (zc (zt (zfq (sa2 sv sv)))))))))
theorem znp{K:Fg}(T:TopF K "_law_many" ziv)(XX:K.In h)(G:h.Ns mainGlobals mg)(Ad:mg "range"=none):CalD P w K mg base "_law_many" 1 ["_law_n","_law_d"] zg:=cmk (Y:=⟨P,w,K,mg,base,h,XX,G⟩) ["_law_n","_law_d","_law_found","_law_k"] T λnd f cdv A outer s H E hr=>(zb (sst nd zf)
 (zb (sfr (zmc rfl Ad (sa2 zf sv)) (sgn nd)
 (zc (sst nd (zec zkc (oI_D λ_ _ _ _=>.int _) (zec zbae (oI_D λ_ _ _ _=>.int _) sv (sad sv sv)) sv))))
 (zc (zt sv))))
theorem znq{K:Fg}(T:TopF K "_law_fits" ziw)(XX:K.In h)(G:h.Ns mainGlobals mg)(z_int:mg "int"=none)(c__law_many:CalD P w K mg base "_law_many" 1 ["_law_n","_law_d"] zg):CalD P w K mg base "_law_fits" 2 ["_law_n","_law_d"] zeg:=cmk (Y:=⟨P,w,K,mg,base,h,XX,G⟩) ["_law_n","_law_d"] T λnd f cdv A outer s H E hr=>(zc (zt (zbfb (zrp zwf (zih λ_ _ _ _=>.bl _) sv (zkp (zko (sa2 zf zf)) (zfr zqi zblt rfl z_int zbfi (sa1 (zrp (znk hr.units0) zns sv zf (nomark _)))) (λ_ _=>rfl)) (nomark _)) (zbeu (zrp zwf (zih λ_ _ _ _=>.bl _) (scl c__law_many hr (sa2 sv sv)) zf (nomark _))))))
theorem znr{K:Fg}(T:TopF K "_law_edge" zix)(XX:K.In h)(G:h.Ns mainGlobals mg)(c__law_fits:CalD P w K mg base "_law_fits" 2 ["_law_n","_law_d"] zeg):CalD P w K mg base "_law_edge" 3 ["_law_n"] zdb:=cmk (Y:=⟨P,w,K,mg,base,h,XX,G⟩) ["_law_n","_law_d"] T λnd f cdv A outer s H E hr=>(zb (sst nd zf)
 (zb (zfm xhh (zex (scl c__law_fits hr (sa2 sv sv))) (zc (sst nd (sad sv zf))))
 (zc (zt sv))))
theorem zno{K:Fg}(T:TopF K "_law_take" ziu)(XX:K.In h)(G:h.Ns mainGlobals mg) : CalD P w K mg base "_law_take" 1 ["_law_bag_here","_law_many_here"] zq:=cmk (Y:=⟨P,w,K,mg,base,h,XX,G⟩) ["_law_bag_here","_law_many_here","_law_digit","_law_number","_law_room"] T λnd f cdv A outer s H E hr=>(zb (zeb (zbe zbrt (zih λ_ _ _ _=>.bl _) (zkp sv zf (λ_ _=>rfl)) zf (nomark _)) (zb (sst nd (zec zrb (oI_D λ_ _ _ _=>.int _) (zkp sv zf (λ_ _=>rfl)) sv))
 (zb (zqa (zec zkc (oI_D λ_ _ _ _=>.int _) (zkp sv zf (λ_ _=>rfl)) sv) sv zf)
 (zc (zt sv)))) zbr)
 (zb (sst nd zf)
 (zb (sst nd zf)
 (zb (zfm xhh (zbe (znk hr.units0) zns sv sv (nomark _)) (zb (zqa (zec zrb (oI_D λ_ _ _ _=>.int _) (sad (zec zln (oI_D λ_ _ _ _=>.int _) (zkp sv zf (λ_ _=>rfl)) zf) zf) zf) sv zf)
 (zb (sst nd (sad (zec zln (oI_D λ_ _ _ _=>.int _) sv zf) (zec zrb (oI_D λ_ _ _ _=>.int _) (zec zln (oI_D λ_ _ _ _=>.int _) (zec zkc (oI_D λ_ _ _ _=>.int _) (zkp sv zf (λ_ _=>rfl)) zf) zf) zf)))
 (zc (sst nd (zec zln (oI_D λ_ _ _ _=>.int _) sv zf))))))
 (zc (zt (zec zrb (oI_D λ_ _ _ _=>.int _) sv sv)))))))
theorem zrf{K:Fg}(T:TopF K "_law_odd" zlg)(XX:K.In h)(G:h.Ns mainGlobals mg)(A0:mg "sorted"=none)(A7:mg "tuple"=none):CalD P w K mg base "_law_odd" 1 ["_law_things"] zck:=cmk (Y:=⟨P,w,K,mg,base,h,XX,G⟩) ["_law_things","_law_odd_here","_law_thing"] T λnd f cdv A outer s H E hr=>(zb (sst nd zvc)
 (zb (sfr (zcn sv) (sgn nd)
 (zc (zob (zru hr) sv sv (zbkv (zbex (zru hr) sv sv zzh ⟨rfl,rfl,rfl,rfl⟩)) rfl)))
 (zc (zt (zfr zed zol rfl A7 zoi (sa1 (zbm (zhy rfl hr.units) zqo rfl A0 zks (sa1 (zmf rfl (zber sv) (λ_ _ _ _ _=>(zdk (i:=0) (show(["_law_thing","_law_odd_here"]:List Str).Nodup from by decide +kernel) rfl (Or.inl rfl))) (λ_ _ _ _ _=>(zoc (zex (zbbd (zru hr) sv sv (λ_ _=>rfl))))) (λ_ _ _ _ _=>sv) (N:=["_law_thing","_law_odd_here"]) (k:=1) (is:=[1]) (zcw (by rfl)))))))))))
theorem ztq{K:Fg}(T:TopF K "degrees" zpd)(XX:K.In h)(G:h.Ns mainGlobals mg)(z_sum:mg "sum"=none)(A0:mg "sorted"=none)(z_set:mg "set"=none):CalD P w K mg base "degrees" 1 ["some"] zfx:=cmk (Y:=⟨P,w,K,mg,base,h,XX,G⟩) ["some"] T λnd f cdv A outer s H E hr=>(zc (zt (zbto rfl zrr rfl A0 zks rfl z_set zbqq (sa1 (scp ["product"] (zcn sv) (λ_ _ _ _ _=>(zbm (zkq rfl) zbfl rfl z_sum zbfh (sa1 sv))))))))
theorem zkd{K:Fg}(T:TopF K "most_degree" zgl)(XX:K.In h)(G:h.Ns mainGlobals mg) (m_FEW_LETTERS:mg "FEW_LETTERS"=some (.int 3 k_FEW_LETTERS)):CalD P w K mg base "most_degree" 1 ["n"] zcr:=cmk (Y:=⟨P,w,K,mg,base,h,XX,G⟩) ["n"] T λnd f cdv A outer s H E hr=>(zc (zt (zbtu (zbe zwf (zih λ_ _ _ _=>.bl _) sv (zzg (zch (v:=.int 3) rfl m_FEW_LETTERS ⟨_,rfl⟩) (λ_ _=>.int _)) (nomark _)) zf zf)))
theorem zep{K:Fg}(T:TopF K "number_of_products" zcg)(XX:K.In h)(G:h.Ns mainGlobals mg)(Ad:mg "range"=none):CalD P w K mg base "number_of_products" 1 ["n","d"] zg:=cmk (Y:=⟨P,w,K,mg,base,h,XX,G⟩) ["n","d","told","i"] T λnd f cdv A outer s H E hr=>(zb (sst nd zf)
 (zb (sfr (zmc rfl Ad (sa2 zf sv)) (sgn nd)
 (zc (sst nd (zec zkc (oI_D λ_ _ _ _=>.int _) (zec zbae (oI_D λ_ _ _ _=>.int _) sv (sad sv sv)) sv))))
 (zc (zt sv))))
theorem zhk{K:Fg}(T:TopF K "can_be_judged" zev)(XX:K.In h)(G:h.Ns mainGlobals mg) (m_MOST_JUDGED:mg "MOST_JUDGED"=some (.int 200 k_MOST_JUDGED))(Dg:CalD P w K mg base "number_of_products" 1 ["n","d"] zg)(Dh:CalD P w K mg base "most_degree" 1 ["n"] zcr):CalD P w K mg base "can_be_judged" 2 ["n","d"] zbc:=cmk (Y:=⟨P,w,K,mg,base,h,XX,G⟩) ["n","d"] T λnd f cdv A outer s H E hr=>(zc (zt (zbfb (zrp zwf (zih λ_ _ _ _=>.bl _) sv (scl Dh hr (sa1 sv)) (nomark _)) (zbeu (zrp zwf (zih λ_ _ _ _=>.bl _) (scl Dg hr (sa2 sv sv)) (zzg (zch (v:=.int 200) rfl m_MOST_JUDGED ⟨_,rfl⟩) (λ_ _=>.int _)) (nomark _))))))
theorem zld:FnScope ["n","d"] ["n","d"] (defScope zjy):=⟨rfl,rfl,rfl,by decide +kernel,rfl,by decide +kernel,by decide +kernel⟩
theorem ztr{K:Fg}(T:TopF K "bounded" zjy)(XX:K.In h)(G:h.Ns mainGlobals mg) (Ae:W.nsIn K mainGlobals "TooMany"=some (some (.ref Aa)))(A9:W.excIn K Aa bmV "ValueError.__new__"=true)(Di:CalD P w K mg base "can_be_judged" 2 ["n","d"] zbc):CalX P w K mg base "bounded" 3 ["n","d"] zbo :=
 have nd:=zld.nd
 zhx (k:=2) T XX G zld (λ_ _ _ _ _ _ us hl=>len2 us hl λ_ _=>rfl) λf cdv A outer s H E hr=>(zfc (λ_ _=>rfl) (zbej (zpy (zex (scl Di hr (sa2 sv sv)))) (zma (zkl zms ⟨Ae,A9⟩ rfl rfl (sa1 zfd))) (zji zbr))
 (zji (zc (zt sv))))
theorem zgk:FnScope ["n","some","told"] ["n","some"] (defScope zfa):=⟨rfl,rfl,rfl,by decide +kernel,rfl,by decide +kernel,by decide +kernel⟩
theorem zlp{K:Fg}(T:TopF K "one_degree" zfa)(XX:K.In h)(G:h.Ns mainGlobals mg)(Ah:mg "len"=none) (Af:W.nsIn K mainGlobals "Unlike"=some (some (.ref Ab)))(Ba:W.excIn K Ab bmV "ValueError.__new__"=true)(c_degrees:CalD P w K mg base "degrees" 1 ["some"] zfx)(Bb:CalX P w K mg base "bounded" 3 ["n","d"] zbo):CalX P w K mg base "one_degree" 4 ["n","some"] zo :=
 have nd:=zgk.nd
 zhx (k:=3) T XX G zgk (λ_ _ _ _ _ _ us hl=>len2 us hl λ_ _=>rfl) λf cdv A outer s H E hr=>(zfc (λ_ _=>rfl) (zbpp (sst nd (scl c_degrees hr (sa1 sv))))
 (zfc (λ_ _=>rfl) (zbej (zbe zbrt (zih λ_ _ _ _=>.bl _) (zbm zbz zrs rfl Ah zrq (sa1 sv)) zf (nomark _)) (zma (zkl zms ⟨Af,Ba⟩ rfl rfl (sa1 zfd))) (zji zbr))
 (zma (zbaz (zbtg (zex sv) (zdp Bb zil (λ_ _ h=>zbj _ _ h) (hr.mono (by decide)) rfl (sa2 sv (zkp sv zf (λ_ _=>rfl)))) (zbpj zbqd))))))
theorem zpc:FnScope ["n","some","d","products","places","found","left","row"] ["n","some"] (defScope zne):=⟨rfl,rfl,rfl,by decide +kernel,rfl,by decide +kernel,by decide +kernel⟩
theorem zxr{K:Fg}(T:TopF K "judged" zne)(XX:K.In h)(G:h.Ns mainGlobals mg)(Bc:CalX P w K mg base "one_degree" 4 ["n","some"] zo):CalX P w K mg base "judged" 5 ["n","some"] zdm :=
 have nd:=zpc.nd
 zhx (k:=4) T XX G zpc (λ_ _ _ _ _ _ us hl=>len2 us hl λ_ _=>rfl) λf cdv A outer s H E hr=>(zfc (λ_ _=>rfl) (zuw (i:=2) nd rfl (Or.inl rfl) (zdp Bc zil (λ_ _ h=>zbj _ _ h) (hr.mono (by decide)) rfl (sa2 sv sv)))
 zpz)
theorem zlc:FnScope ["n","row","d"] ["n","row"] (defScope zjx):=⟨rfl,rfl,rfl,by decide +kernel,rfl,by decide +kernel,by decide +kernel⟩
theorem ztp{K:Fg}(T:TopF K "is_even" zjx)(XX:K.In h)(G:h.Ns mainGlobals mg)(Bc:CalX P w K mg base "one_degree" 4 ["n","some"] zo):CalX P w K mg base "is_even" 5 ["n","row"] zcm :=
 have nd:=zlc.nd
 zhx (k:=4) T XX G zlc (λ_ _ _ _ _ _ us hl=>len2 us hl λ_ _=>rfl) λf cdv A outer s H E hr=>(zfc (λ_ _=>rfl) (zuw (i:=2) nd rfl (Or.inl rfl) (zdp Bc zil (λ_ _ h=>zbj _ _ h) (hr.mono (by decide)) rfl (sa2 sv sv)))
 zpz)
theorem zbl:FnScope ["n","d","told","e"] ["n","d"] (defScope zba):=⟨rfl,rfl,rfl,by decide +kernel,rfl,by decide +kernel,by decide +kernel⟩
theorem zdr{K:Fg} (hj:1<=j)(hself:∀ ds au v st', fF ds au=.ok v st'->ds.length=2)(T:TopF K "products_of_degree" zba)(XX:K.In h)(G:h.Ns mainGlobals mg)(Ad:mg "range"=none)(A8:CalD P w K mg base "products_of_degree" j ["n","d"] fF):CalD P w K mg base "products_of_degree" (j + 1) ["n","d"] (zm fF) :=
 have nd:=zbl.nd
 zvp (k:=j) T XX G zbl (λ_ _ _ _ _ _ us hl=>len2 us hl λ_ _=>rfl) λf cdv A outer s H E hr=>(zb (zeb (zbe (zxo hr.units) zxu (zfo (pv 0)) zf (nomark _)) (zc (zt (zko (zl (zfp (zl (zfo (pv 1)) zbs)) zbs)))) zbr)
 (zb (zqb (i:=2) nd rfl (Or.inl rfl) (zfq zbs))
 (zb (zbba xhh rfl (zfn rfl Ad (zl (zec ztn zbdc (zfo (pv 1)) zf) zbs)) (zdk (i:=3) nd rfl (Or.inr rfl))
 (zc (zby (zqe (zfo (pv 2)) (zl (zmf rfl (zcn (zbbe A8 hself hr rfl (zl (zec zbda (zih λ_ _ _ _=>.int _) (zfo (pv 0)) zf) (zl (zec zbda (zih λ_ _ _ _=>.int _) (zfo (pv 1)) (zfo (pv 3))) zbs)))) (λ_ _ _ _ _=>(zdk (i:=0) (show(["rest","e"]:List Str).Nodup from by decide +kernel) rfl (Or.inl rfl))) (λ_ _ _ _ _=>zod) (λ_ _ _ _ _=>(zec ztn zbdc (zfp (zl (zfo (pv 1)) zbs)) (zfo (pv 0)))) (N:=["rest","e"]) (k:=1) (is:=[3]) (zcw (by rfl))) zbs)))))
 (zc (zt (zbga (zfo (pv 2))))))))
theorem zeo{K:Fg}(T:TopF K "products_of_degree" zba)(XX:K.In h)(G:h.Ns mainGlobals mg)(Ad:mg "range"=none):CalD P w K mg base "products_of_degree" 11 ["n","d"] (iterF zm 10):=CalD.iter (L:=1) (zvo T XX G zbl (λ_ _ _ _ _ _ us hl=>len2 us hl λ_ _=>rfl)) (λ_ _ _ _ _ h=>zus h) (λF j hj hs c=>zdr hj hs T XX G Ad c) 10
theorem zie{K:Fg}(T:TopF K "parts_enough" zfg)(XX:K.In h)(G:h.Ns mainGlobals mg) : CalD P w K mg base "parts_enough" 1 ["d"] zbt:=cmk (Y:=⟨P,w,K,mg,base,h,XX,G⟩) ["d","told","k"] T λnd f cdv A outer s H E hr=>(zb (sst nd (zfq zbs))
 (zb (sst nd zf)
 (zb (zfm xhh (zbe zwf (zih λ_ _ _ _=>.bl _) (zec zln (oI_D λ_ _ _ _=>.int _) zf sv) sv (nomark _)) (zb (zby (zcd sv (sa1 sv)))
 (zc (sst nd (zec zln (oI_D λ_ _ _ _=>.int _) zf sv)))))
 (zc (zt (zbga sv))))))
theorem zge{K:Fg}(T:TopF K "raised_products" zdo)(XX:K.In h)(G:h.Ns mainGlobals mg)(Dj:CalD P w K mg base "parts_enough" 1 ["d"] zbt)(A8:CalD P w K mg base "products_of_degree" 11 ["n","d"] (iterF zm 10)):CalD P w K mg base "raised_products" 12 ["n","d"] zbb:=cmk (Y:=⟨P,w,K,mg,base,h,XX,G⟩) ["n","d","told","k"] T λnd f cdv A outer s H E hr=>(zb (sst nd (zfq zbs))
 (zb (sfr (zcn (scl Dj hr (sa1 sv))) (sgn nd)
 (zc (zby (zqe sv (sa1 (scp ["product","k"] (zcn (scl A8 hr (sa2 sv (ssb sv sv)))) (λ_ _ _ _ _=>(zfp (sa2 sv sv)))))))))
 (zc (zt (zbga sv)))))
theorem zrd{K:Fg}(T:TopF K "lessened" zle)(XX:K.In h)(G:h.Ns mainGlobals mg) : CalD P w K mg base "lessened" 1 ["leads","number"] zef:=cmk (Y:=⟨P,w,K,mg,base,h,XX,G⟩) ["leads","number","used","two"] T λnd f cdv A outer s H E hr=>(zb (sst nd zf)
 (zb (zfm xhh (JW.pt (zbay (zex sv) (zlz (zbeh (zbhz (zru hr) (zvd sv) sv)) (by first|exact Or.inl rfl|exact Or.inr rfl)))) (zb (sst nd (zbky (zru hr) sv (zvd sv) (λ_ _=>rfl)))
 (zb (sst nd (zec zbie (zih λ_ _ _ _=>.int _) sv (zkp sv zf (λ_ _=>rfl))))
 (zc (sst nd (zec zbie (zih λ_ _ _ _=>.int _) sv (zkp sv zf (λ_ _=>rfl))))))))
 (zc (zt (zfp (sa2 sv sv))))))
theorem znm{K:Fg}(T:TopF K "as_number" zis)(XX:K.In h)(G:h.Ns mainGlobals mg) : CalD P w K mg base "as_number" 1 ["places","some"] zdc:=cmk (Y:=⟨P,w,K,mg,base,h,XX,G⟩) ["places","some","told","product"] T λnd f cdv A outer s H E hr=>(zb (sst nd zf)
 (zb (sfr (zcn sv) (sgn nd)
 (zc (sst nd (zec zbrs (zih λ_ _ _ _=>.int _) sv (zec zbif (oI_D λ_ _ _ _=>.int _) zf (zbbd (zru hr) sv sv (λ_ _=>rfl)))))))
 (zc (zt sv))))
theorem zre{K:Fg}(T:TopF K "is_whole" zlf)(XX:K.In h)(G:h.Ns mainGlobals mg)(z_bool:mg "bool"=none)(Aj:mg "isinstance"=none)(z_int:mg "int"=none):CalD P w K mg base "is_whole" 1 ["thing"] zcl:=cmk (Y:=⟨P,w,K,mg,base,h,XX,G⟩) ["thing"] T λnd f cdv A outer s H E hr=>(zc (zt (zbfb (zbm zjk zqp rfl Aj zco (sa2 sv (zzg (zth (v:=.ty "int") rfl z_int zbfi rfl) (λ_ _=>.ty _)))) (zbeu (zbkv (zbm zjk zqp rfl Aj zco (sa2 sv (zzg (zth (v:=.ty "bool") rfl z_bool zblo rfl) (λ_ _=>.ty _)))))))))
theorem zxp{K:Fg}(T:TopF K "shares" zst)(XX:K.In h)(G:h.Ns mainGlobals mg) : CalD P w K mg base "shares" 1 ["e","least","most"] zib:=cmk (Y:=⟨P,w,K,mg,base,h,XX,G⟩) ["e","least","most","told","j"] T λnd f cdv A outer s H E hr=>(zb (sst nd (zfq zbs))
 (zb (sst nd zf)
 (zb (zfm xhh (zbe zwf (zih λ_ _ _ _=>.bl _) sv sv (nomark _)) (zb (zeb (zbe zbss (zih λ_ _ _ _=>.bl _) sv sv (nomark _)) (zc (zby (zcd sv (sa1 sv)))) zbr)
 (zb (zeb (zbe (zxo hr.units) zxu sv sv (nomark _)) (zc zyy) zbr)
 (zc (sst nd (zec zboa (zih λ_ _ _ _=>.int _) (ssb sv sv) sv))))))
 (zc (zt (zbga sv))))))
theorem zhj{K:Fg}(T:TopF K "letter_raised" zeu)(XX:K.In h)(G:h.Ns mainGlobals mg)(c_shares:CalD P w K mg base "shares" 1 ["e","least","most"] zib):CalD P w K mg base "letter_raised" 2 ["partly","e","rest"] zbn:=cmk (Y:=⟨P,w,K,mg,base,h,XX,G⟩) ["partly","e","rest","told","made","left","j"] T λnd f cdv A outer s H E hr=>(zb (sst nd (zfq zbs))
 (zb (sfr (zcn sv) (zmd rfl (zca (sgn nd) (zca (sgn nd) zhv)))
 (zc (sfr (zcn (scl c_shares hr (zl sv (sa2 (ssb sv sv) sv)))) (sgn nd)
 (zc (zby (zcd sv (sa1 (zfp (sa2 (sad sv (zfp (sa1 (sad sv sv)))) (ssb sv sv))))))))))
 (zc (zt (zbga sv)))))
theorem zgr{K:Fg}(T:TopF K "product_raised" zdv)(XX:K.In h)(G:h.Ns mainGlobals mg)(z_sum:mg "sum"=none)(Dk:CalD P w K mg base "letter_raised" 2 ["partly","e","rest"] zbn):CalD P w K mg base "product_raised" 3 ["product","k"] zbf:=cmk (Y:=⟨P,w,K,mg,base,h,XX,G⟩) ["product","k","partly","rest","e"] T λnd f cdv A outer s H E hr=>(zb (sst nd (zko (sa1 (zfp (sa2 (zfp zbs) sv)))))
 (zb (sst nd (zbm (zkq rfl) zbfl rfl z_sum zbfh (sa1 sv)))
 (zb (sfr (zcn sv) (sgn nd)
 (zb (zbkj (i:=3) nd rfl (Or.inl rfl) sv zbow ip_D)
 (zc (sst nd (scl Dk hr (zl sv (sa2 sv sv)))))))
 (zc (zt (zmf rfl (zcn sv) (λ_ _ _ _ _=>(zmd rfl (zca (zdk (i:=0) (show(["made","left"]:List Str).Nodup from by decide +kernel) rfl (Or.inl rfl)) (zca (zdk (i:=1) (show(["made","left"]:List Str).Nodup from by decide +kernel) rfl (Or.inl rfl)) zhv)))) (λ_ _ _ _ _=>zod) (λ_ _ _ _ _=>sv) (N:=["made","left"]) (k:=2) (is:=[]) (zcw (by rfl))))))))
theorem zbij{K:Fg}(T:TopF K "flip" zbgz)(XX:K.In h)(G:h.Ns mainGlobals mg) : CalD P w K mg base "flip" 1 ["kept","thing"] zrt:=cmk (Y:=⟨P,w,K,mg,base,h,XX,G⟩) ["kept","thing"] T λnd f cdv A outer s H E hr=>(zc (zeb (zbeh (zbnw (zru hr) sv sv)) (zc (zby (zbkz (zru hr) sv sv ⟨rfl,rfl,rfl,rfl⟩))) (zc (zob (zru hr) sv sv zzh rfl))))
theorem zxq{K:Fg}(T:TopF K "raised" zsu)(XX:K.In h)(G:h.Ns mainGlobals mg)(z_sum:mg "sum"=none)(A0:mg "sorted"=none)(A7:mg "tuple"=none)(Bd:CalD P w K mg base "is_whole" 1 ["thing"] zcl)(Dl:CalD P w K mg base "product_raised" 3 ["product","k"] zbf)(c_flip:CalD P w K mg base "flip" 1 ["kept","thing"] zrt):CalD P w K mg base "raised" 4 ["some","k"] zic:=cmk (Y:=⟨P,w,K,mg,base,h,XX,G⟩) ["some","k","kept","product","made"] T λnd f cdv A outer s H E hr=>(zb (zeb (JW.pt (zyw (zpy (zex (scl Bd hr (sa1 sv)))) (zlz (zbe (znk hr.units0) zns sv zf (nomark _)) (by first|exact Or.inl rfl|exact Or.inr rfl)))) (zc zyx) zbr)
 (zb (sst nd zvc)
 (zb (sfr (zcn sv) (sgn nd)
 (zc (zeb (zbe zwf (zih λ_ _ _ _=>.bl _) sv (zbm (zkq rfl) zbfl rfl z_sum zbfh (sa1 sv)) (nomark _)) (zc (sfr (zcn (scl Dl hr (sa2 sv sv))) (sgn nd)
 (zc (zby (scl c_flip hr (sa2 sv sv)))))) zbr)))
 (zc (zt (zfr zed zol rfl A7 zoi (sa1 (zbm (zhy rfl hr.units) zqo rfl A0 zks (sa1 sv)))))))))
theorem znn{K:Fg}(T:TopF K "all_leads" zit)(XX:K.In h)(G:h.Ns mainGlobals mg)(Ah:mg "len"=none)(Dm:CalD P w K mg base "raised_products" 12 ["n","d"] zbb)(c_lessened:CalD P w K mg base "lessened" 1 ["leads","number"] zef)(c_as_number:CalD P w K mg base "as_number" 1 ["places","some"] zdc)(c_raised:CalD P w K mg base "raised" 4 ["some","k"] zic):CalD P w K mg base "all_leads" 13 ["n","d","places"] zdd:=cmk (Y:=⟨P,w,K,mg,base,h,XX,G⟩) ["n","d","places","leads","sources","k","product","left"] T λnd f cdv A outer s H E hr=>(zb (sst nd zbew)
 (zb (sst nd (zfq zbs))
 (zb (sfr (zcn (scl Dm hr (sa2 sv sv))) (zmd rfl (zca (sgn nd) (zca (sgn nd) zhv)))
 (zb (sst nd (scl c_lessened hr (sa2 sv (scl c_as_number hr (sa2 sv (scl c_raised hr (sa2 (zfp (sa1 sv)) sv)))))))
 (zc (zeb (zex (zkp sv zf (λ_ _=>rfl))) (zb (zben (zru hr) sv (zvd (zkp sv zf (λ_ _=>rfl))) (zfp (sa2 (zkp sv zf (λ_ _=>rfl)) (zec zbrs (zih λ_ _ _ _=>.int _) (zkp sv zf (λ_ _=>rfl)) (zec zbif (oI_D λ_ _ _ _=>.int _) zf (zbm zbz zrs rfl Ah zrq (sa1 sv)))))) rfl)
 (zc (zby (zcd sv (sa1 (zfp (sa2 sv sv))))))) zbr))))
 (zc (zt (zfp (sa2 sv (zbga sv))))))))
theorem zes:FnScope ["d"] ["d"] (defScope zdf):=⟨rfl,rfl,rfl,by decide +kernel,rfl,by decide +kernel,by decide +kernel⟩
theorem zif{K:Fg}(T:TopF K "degree_asked" zdf)(XX:K.In h)(G:h.Ns mainGlobals mg) (Ag:W.nsIn K mainGlobals "NoPart"=some (some (.ref Ac)))(Be:W.excIn K Ac bmV "ValueError.__new__"=true)(Bd:CalD P w K mg base "is_whole" 1 ["thing"] zcl):CalX P w K mg base "degree_asked" 2 ["d"] zbu :=
 have nd:=zes.nd
 zhx (k:=1) T XX G zes (λ_ _ _ _ _ _ us hl=>len1 us hl λ_=>rfl) λf cdv A outer s H E hr=>(zfc (λ_ _=>rfl) (zbej (JW.pt (zyw (zpy (zex (scl Bd hr (sa1 sv)))) (zlz (zbe (znk hr.units0) zns sv zf (nomark _)) (by first|exact Or.inl rfl|exact Or.inr rfl)))) (zma (zkl zms ⟨Ag,Be⟩ rfl rfl (sa1 zfd))) (zji zbr))
 (zji (zc (zt sv))))
theorem znl{K:Fg}(T:TopF K "places_of" zir)(XX:K.In h)(G:h.Ns mainGlobals mg)(Bf:mg "enumerate"=none):CalD P w K mg base "places_of" 1 ["products"] zcx:=cmk (Y:=⟨P,w,K,mg,base,h,XX,G⟩) ["products","told","place","product"] T λnd f cdv A outer s H E hr=>(zb (sst nd zvc)
 (zb (sfr (zqc rfl Bf sv) (zmd rfl (zca (sgn nd) (zca (sgn nd) zhv)))
 (zc (zob (zru hr) sv sv sv rfl)))
 (zc (zt sv))))
theorem ziq:FnScope ["n","d","products","leads"] ["n","d"] (defScope zhe):=⟨rfl,rfl,rfl,by decide +kernel,rfl,by decide +kernel,by decide +kernel⟩
theorem zrc{K:Fg}(T:TopF K "standing" zhe)(XX:K.In h)(G:h.Ns mainGlobals mg)(Bf:mg "enumerate"=none)(Do:CalX P w K mg base "degree_asked" 2 ["d"] zbu)(Bb:CalX P w K mg base "bounded" 3 ["n","d"] zbo)(A8:CalD P w K mg base "products_of_degree" 11 ["n","d"] (iterF zm 10))(c_all_leads:CalD P w K mg base "all_leads" 13 ["n","d","places"] zdd)(c_places_of:CalD P w K mg base "places_of" 1 ["products"] zcx):CalX P w K mg base "standing" 14 ["n","d"] zbp :=
 have nd:=ziq.nd
 zhx (k:=13) T XX G ziq (λ_ _ _ _ _ _ us hl=>len2 us hl λ_ _=>rfl) λf cdv A outer s H E hr=>(zfc (λ_ _=>rfl) (zuw (i:=2) nd rfl (Or.inl rfl) (zbee A8 (λ_ _ _ _ h=>zus h) (hr.mono (by decide)) rfl (zht (zbpj sv) (zht (zbef Bb zil (λ_ _ h=>zbj _ _ h) (hr.mono (by decide)) rfl (zht (zbpj sv) (zht (zdp Do zil (λ_ _ h=>zbj _ _ h) (hr.mono (by decide)) rfl (sa1 sv)) zuv))) zuv))))
 (zji (zb (sst nd (zkp (scl c_all_leads hr (zl sv (sa2 sv (scl c_places_of hr (sa1 sv))))) zf (λ_ _=>rfl)))
 (zc (zt (zbey rfl (zqc rfl Bf sv) (λ_ _ _ _ _=>(zmd rfl (zca (zdk (i:=0) (show(["place","product","leads"]:List Str).Nodup from by decide +kernel) rfl (Or.inl rfl)) (zca (zdk (i:=1) (show(["place","product","leads"]:List Str).Nodup from by decide +kernel) rfl (Or.inl rfl)) zhv)))) (λ_ _ _ _ _=>(zoc (zbeh (zti (zru hr) (sad sv zf) sv)))) (λ_ _ _ _ _=>sv) (N:=["place","product","leads"]) (k:=2) (is:=[3]) (zcw (by rfl))))))))
theorem zer:FnScope ["n","d"] ["n","d"] (defScope zde):=⟨rfl,rfl,rfl,by decide +kernel,rfl,by decide +kernel,by decide +kernel⟩
theorem zid{K:Fg}(T:TopF K "rows_counted" zde)(XX:K.In h)(G:h.Ns mainGlobals mg)(Ah:mg "len"=none)(Bg:CalX P w K mg base "standing" 14 ["n","d"] zbp):CalX P w K mg base "rows_counted" 15 ["n","d"] zu :=
 have nd:=zer.nd
 zhx (k:=14) T XX G zer (λ_ _ _ _ _ _ us hl=>len2 us hl λ_ _=>rfl) λf cdv A outer s H E hr=>(zma (zbaz (zyv zbz zrs rfl Ah zrq (zht (zdp Bg zil (λ_ _ h=>zbj _ _ h) (hr.mono (by decide)) rfl (sa2 sv sv)) zuv))))
theorem zet:FnScope ["_law_deed","_law_kinds","_law_others","_law_e"] ["_law_deed"] (defScope zdg):=⟨rfl,rfl,rfl,by decide +kernel,rfl,by decide +kernel,by decide +kernel⟩
theorem zig{K:Fg}(T:TopF K "_law_refused" zdg)(XX:K.In h)(G:h.Ns mainGlobals mg)(Aj:mg "isinstance"=none)(Dp:mg "ValueError"=none) (Af:W.nsIn K mainGlobals "Unlike"=some (some (.ref Ab)))(Ak:ErrLook K Ab)(Bh:W.kitOne K (.ref Ab) (.ref Ab)=some true)(Ae:W.nsIn K mainGlobals "TooMany"=some (some (.ref Aa)))(Al:ErrLook K Aa)(Bi:W.kitOne K (.ref Aa) (.ref Ab)=some false)(Ag:W.nsIn K mainGlobals "NoPart"=some (some (.ref Ac)))(Am:ErrLook K Ac)(Bj:W.kitOne K (.ref Ac) (.ref Ab)=some false)(Bk:W.kitOne K (.ref Ab) (.ref Aa)=some false)(Bl:W.kitOne K (.ref Aa) (.ref Aa)=some true)(Bo:W.kitOne K (.ref Ac) (.ref Aa)=some false)(Bp:W.kitOne K (.ref Ab) (.ref Ac)=some false)(Bq:W.kitOne K (.ref Aa) (.ref Ac)=some false)(Br:W.kitOne K (.ref Ac) (.ref Ac)=some true)(Bs:W.nsIn K mainGlobals "NoText"=some (some (.ref An)))(Bt:W.nsIn K mainGlobals "NoRow"=some (some (.ref Ao)))(Bu:W.nsIn K mainGlobals "NoProduct"=some (some (.ref Ap)))(Bv:W.nsIn K mainGlobals "NoPaper"=some (some (.ref Aq)))(Bw:W.nsIn K mainGlobals "NoName"=some (some (.ref Ar)))(Bx:W.nsIn K mainGlobals "NoLine"=some (some (.ref As)))(By:W.nsIn K mainGlobals "NoLetters"=some (some (.ref Au)))(Bz:W.nsIn K mainGlobals "NoExchange"=some (some (.ref Av)))(B0:W.nsIn K mainGlobals "NoDeed"=some (some (.ref Aw)))(n_Full:W.nsIn K mainGlobals "Full"=some (some (.ref Ax)))(B1:W.kitOne K (.ref Ab) (.ref An)=some false)(B2:W.kitOne K (.ref Ab) (.ref Ao)=some false)(B3:W.kitOne K (.ref Ab) (.ref Ap)=some false)(B4:W.kitOne K (.ref Ab) (.ref Aq)=some false)(B5:W.kitOne K (.ref Ab) (.ref Ar)=some false)(B6:W.kitOne K (.ref Ab) (.ref As)=some false)(B7:W.kitOne K (.ref Ab) (.ref Au)=some false)(B8:W.kitOne K (.ref Ab) (.ref Av)=some false)(B9:W.kitOne K (.ref Ab) (.ref Aw)=some false)(Ca:W.kitOne K (.ref Ab) (.ref Ax)=some false)(Cb:W.kitOne K (.ref Aa) (.ref An)=some false)(Cc:W.kitOne K (.ref Aa) (.ref Ao)=some false)(Cd:W.kitOne K (.ref Aa) (.ref Ap)=some false)(Ce:W.kitOne K (.ref Aa) (.ref Aq)=some false)(Cf:W.kitOne K (.ref Aa) (.ref Ar)=some false)(Cg:W.kitOne K (.ref Aa) (.ref As)=some false)(Ch:W.kitOne K (.ref Aa) (.ref Au)=some false)(Ci:W.kitOne K (.ref Aa) (.ref Av)=some false)(Cj:W.kitOne K (.ref Aa) (.ref Aw)=some false)(Ck:W.kitOne K (.ref Aa) (.ref Ax)=some false)(Cm:W.kitOne K (.ref Ac) (.ref An)=some false)(Cn:W.kitOne K (.ref Ac) (.ref Ao)=some false)(Co:W.kitOne K (.ref Ac) (.ref Ap)=some false)(Cp:W.kitOne K (.ref Ac) (.ref Aq)=some false)(Cq:W.kitOne K (.ref Ac) (.ref Ar)=some false)(Cr:W.kitOne K (.ref Ac) (.ref As)=some false)(Ct:W.kitOne K (.ref Ac) (.ref Au)=some false)(Cu:W.kitOne K (.ref Ac) (.ref Av)=some false)(Cv:W.kitOne K (.ref Ac) (.ref Aw)=some false)(Cw:W.kitOne K (.ref Ac) (.ref Ax)=some false)(Cy:W.kitOne K (.ref Ab) (.type "ValueError")=some true)(Cz:W.kitOne K (.ref Aa) (.type "ValueError")=some true)(C1:W.kitOne K (.ref Ac) (.type "ValueError")=some true)(C2:W.nsIn K mainGlobals "RaisedError"=some (some (.ref Ay)))(C3:W.exmOne K (.ref Ab) (.ref Ay)=some true)(C4:W.exmOne K (.ref Aa) (.ref Ay)=some true)(C5:W.exmOne K (.ref Ac) (.ref Ay)=some true):CalT P w K mg base "_law_refused" 15 zi :=
  have nd:=zet.nd
  zbll (k:=15) (b:=zx) T XX G zet (λ_ _ _ _ _ _ us hl=>len1 us hl λ_=>rfl) λfr cdv A outer s H E f σL τL g Gg hG hr T=>(zbpx (zbpw (i:=3) (cs:=["NoPart","TooMany","Unlike"]) rfl rfl rfl nd rfl rfl rfl C2 (zvf Ag C5 (zvf Ae C4 (zvf Af C3 zbqm))) T hG (λE pn=>pv 0) (λe=>(zb (zqb (i:=1) nd rfl (Or.inl rfl) (zko (zl (zzc (tbl:=[("NoPart", true),("TooMany", false),("Unlike", false)]) rfl Aj (pv 3) (zch (v:=.ref _) rfl (xdb XX G Ag) rfl) rfl (λ_ h=>h) (zdn Ag Am Br (zdn Ae Al Bq (zdn Af Ak Bp zwt)))) (zl (zzc (tbl:=[("NoPart", false),("TooMany", true),("Unlike", false)]) rfl Aj (pv 3) (zch (v:=.ref _) rfl (xdb XX G Ae) rfl) rfl (λ_ h=>h) (zdn Ag Am Bo (zdn Ae Al Bl (zdn Af Ak Bk zwt)))) (zl (zzc (tbl:=[("NoPart", false),("TooMany", false),("Unlike", true)]) rfl Aj (pv 3) (zch (v:=.ref _) rfl (xdb XX G Af) rfl) rfl (λ_ h=>h) (zdn Ag Am Bj (zdn Ae Al Bi (zdn Af Ak Bh zwt)))) zbs)))))
  (zb (zqb (i:=2) nd rfl (Or.inl rfl) (zbkx (tbl:=[("NoPart", false),("TooMany", false),("Unlike", false)]) rfl Aj (pv 3) (zew (zch (v:=.ref _) rfl (xdb XX G n_Full) rfl) (zew (zch (v:=.ref _) rfl (xdb XX G B0) rfl) (zew (zch (v:=.ref _) rfl (xdb XX G Bz) rfl) (zew (zch (v:=.ref _) rfl (xdb XX G By) rfl) (zew (zch (v:=.ref _) rfl (xdb XX G Bx) rfl) (zew (zch (v:=.ref _) rfl (xdb XX G Bw) rfl) (zew (zch (v:=.ref _) rfl (xdb XX G Bv) rfl) (zew (zch (v:=.ref _) rfl (xdb XX G Bu) rfl) (zew (zch (v:=.ref _) rfl (xdb XX G Bt) rfl) (zew (zch (v:=.ref _) rfl (xdb XX G Bs) rfl) zbor)))))))))) (show 10<=sizeLine from by decide) (zsm Ag Am (zff Cw (zff Cv (zff Cu (zff Ct (zff Cr (zff Cq (zff Cp (zff Co (zff Cn (zff Cm zbds)))))))))) (zsm Ae Al (zff Ck (zff Cj (zff Ci (zff Ch (zff Cg (zff Cf (zff Ce (zff Cd (zff Cc (zff Cb zbds)))))))))) (zsm Af Ak (zff Ca (zff B9 (zff B8 (zff B7 (zff B6 (zff B5 (zff B4 (zff B3 (zff B2 (zff B1 zbds)))))))))) zbmp)))))
  (zb (zeb (JW.pt (zyw (zex (zfo (pv 2))) (zyw (zbe (ztl hr.units) zxu (zzf (zfo (pv 1)) (zl zzh zbs)) zf (nomark _)) (zlz (zpy (zex (zzc (tbl:=[("NoPart", true),("TooMany", true),("Unlike", true)]) rfl Aj (pv 3) (zth (v:=.ty "ValueError") rfl Dp PyProof.Rows.Boot.«ValueError» rfl) rfl (λ_ h=>h) (zdn Ag Am C1 (zdn Ae Al Cz (zdn Af Ak Cy zwt)))))) (by first|exact Or.inl rfl|exact Or.inr rfl))))) (zc (zt zfd)) zbr)
  (zc (zt (zkp (zko (zl zfd (zl zfd (zl zfd zbs)))) (zzd (zfo (pv 1)) (zl zzh zbs)) (λ_ _=>rfl)))))))))
  (zc (zt zfd)))
theorem zgs{K:Fg}(T:TopF K "_law_of_degree" zdw)(XX:K.In h)(G:h.Ns mainGlobals mg)(Ad:mg "range"=none)(z_max:mg "max"=none)(A7:mg "tuple"=none)(Ai:CalD P w K mg base "_law_take" 1 ["_law_bag_here","_law_many_here"] zq):CalD P w K mg base "_law_of_degree" 2 ["_law_bag_here","_law_n","_law_d"] zw:=cmk (Y:=⟨P,w,K,mg,base,h,XX,G⟩) ["_law_bag_here","_law_n","_law_d","_law_left","_law_exponents","_law_fork","_law_k","_law_e","_law_at"] T λnd f cdv A outer s H E hr=>(zb (sst nd sv)
  (zb (sst nd (zfq zbs))
  (zb (sst nd (scl Ai hr (sa2 sv zf)))
  (zb (sfr (zfn rfl Ad (sa1 (ssb sv zf))) (sgn nd)
  (zb (sst nd (scl Ai hr (sa2 sv (sad sv zf))))
  (zb (zeb (zbe (zxo hr.units) zxu sv zf (nomark _)) (zc (sst nd (zbm (zzn rfl) zblu rfl z_max zbqr (sa1 (zmf rfl (zcn (zfp (zl zf (zl zf (zl zf (sa2 zf zf)))))) (λ_ _ _ _ _=>(zdk (i:=0) (show(["_law_x","_law_e"]:List Str).Nodup from by decide +kernel) rfl (Or.inl rfl))) (λ_ _ _ _ _=>(zoc (zbe zwf (zih λ_ _ _ _=>.bl _) sv sv (nomark _)))) (λ_ _ _ _ _=>sv) (N:=["_law_x","_law_e"]) (k:=1) (is:=[7]) (zcw (by rfl))))))) zbr)
  (zb (zby (zcd sv (sa1 sv)))
  (zc (sst nd (ssb sv sv)))))))
  (zb (zby (zcd sv (sa1 sv)))
  (zb (sst nd (scl Ai hr (sa2 sv sv)))
  (zc (zt (zfr zed zol rfl A7 zoi (sa1 (sad (zbsc sv (zuy sv) zuz) (zbsc sv zuz (zuy sv)))))))))))))
theorem zbgy:FnScope ["_law_script","_law_k","_law_bag_here","_law_n","_law_edge_here","_law_most","_law_d","_law_other","_law_unlike","_law_deeds","_law_great","_law_beyond"] ["_law_script"] (defScope zbfx):=⟨rfl,rfl,rfl,by decide +kernel,rfl,by decide +kernel,by decide +kernel⟩
theorem zboc{K:Fg}{T:Addr} (F:Fun K "law" "law" zbfx f fd)(hfc:fd.code=.ref c)(CT:W.CodeHd base c T)(ht:W.tabIn K "law"=some (c,T))(Bm:BmOk mg base)(Ah:mg "len"=none)(z_min:mg "min"=none)(Ad:mg "range"=none)(z_int:mg "int"=none)(c__law_bag:CalD P w K mg base "_law_bag" 1 ["_law_script","_law_at"] zdl)(Ai:CalD P w K mg base "_law_take" 1 ["_law_bag_here","_law_many_here"] zq)(c__law_edge:CalD P w K mg base "_law_edge" 3 ["_law_n"] zdb)(c__law_odd:CalD P w K mg base "_law_odd" 1 ["_law_things"] zck)(C6:CalD P w K mg base "_law_of_degree" 2 ["_law_bag_here","_law_n","_law_d"] zw)(Az:CalT P w K mg base "_law_refused" 15 zi)(c_judged:CalX P w K mg base "judged" 5 ["n","some"] zdm)(C7:CalX P w K mg base "is_even" 5 ["n","row"] zcm)(C8:CalX P w K mg base "rows_counted" 15 ["n","d"] zu)(Bg:CalX P w K mg base "standing" 14 ["n","d"] zbp):FnOk P w K mg base CX0 18 f fd ["_law_script"] (spLawT K T) :=
 have nd:=zbgy.nd
 zbjb (k:=17) F zbgy rfl (λcdv A outer s H E hcd hr=>(zb (sfr (zfn rfl Ad (sa1 (sad (zbm (zqh rfl) zbsd rfl z_min zbln (sa2 zf (zbm zbz zrs rfl Ah zrq (sa1 sv)))) zf))) (sgn nd)
 (zb (sst nd (scl c__law_bag hr (sa2 sv sv)))
 (zb (sst nd (sad zf (scl Ai hr (sa2 sv zf))))
 (zb (sst nd (scl c__law_edge hr (sa1 sv)))
 (zb (sst nd (zkp (zko (sa2 zf zf)) (zfr zqi zblt rfl z_int zbfi (sa1 (zrp (znk hr.units0) zns sv zf (nomark _)))) (λ_ _=>rfl)))
 (zb (sst nd (scl Ai hr (sa2 sv sv)))
 (zb (sst nd (sad (sad sv zf) (scl Ai hr (sa2 sv (ssb sv sv)))))
 (zb (sst nd (scl c__law_odd hr (sa1 (zko (sa2 (scl C6 hr (zl sv (sa2 sv sv))) (scl C6 hr (zl sv (sa2 sv sv))))))))
 (zb (sst nd (zfq (sa1 (zoe Az CT ht Bm (hcd.symm.trans hfc) rfl rfl (hr.mono (by decide)) rfl (zcw (N:=["_law_n","_law_unlike"]) (k:=0) (is:=[3,8]) (by rfl)) ⟨rfl,rfl,rfl,by decide +kernel⟩ (λ_ _ _ _=>rfl) (λf cd cl A outer s H E hr=>(zdp c_judged zez (λ_ _ h=>zbj _ _ h) (hr.mono (by decide)) rfl (sa2 sv sv)))))))
 (zb (zby (zcd sv (sa1 (zoe Az CT ht Bm (hcd.symm.trans hfc) rfl rfl (hr.mono (by decide)) rfl (zcw (N:=["_law_n","_law_unlike"]) (k:=0) (is:=[3,8]) (by rfl)) ⟨rfl,rfl,rfl,by decide +kernel⟩ (λ_ _ _ _=>rfl) (λf cd cl A outer s H E hr=>(zdp C7 zez (λ_ _ h=>zbj _ _ h) (hr.mono (by decide)) rfl (sa2 sv sv)))))))
 (zb (zeb (zbe zwf (zih λ_ _ _ _=>.bl _) sv sv (nomark _)) (zb (sst nd (zfp (sa1 (scl C6 hr (zl sv (sa2 sv (sad sv (scl Ai hr (sa2 sv (sad (ssb sv sv) zf))))))))))
 (zb (zeb (zbe (ztl hr.units) zxu (zoe Az CT ht Bm (hcd.symm.trans hfc) rfl rfl (hr.mono (by decide)) rfl (zcw (N:=["_law_n","_law_great"]) (k:=0) (is:=[3,10]) (by rfl)) ⟨rfl,rfl,rfl,by decide +kernel⟩ (λ_ _ _ _=>rfl) (λf cd cl A outer s H E hr=>(zdp c_judged zez (λ_ _ h=>zbj _ _ h) (hr.mono (by decide)) rfl (sa2 sv sv)))) zfd (nomark _)) (zc (zt zzh)) zbr)
 (zc (zeb (zbe (ztl hr.units) zxu (zoe Az CT ht Bm (hcd.symm.trans hfc) rfl rfl (hr.mono (by decide)) rfl (zcw (N:=["_law_n","_law_great"]) (k:=0) (is:=[3,10]) (by rfl)) ⟨rfl,rfl,rfl,by decide +kernel⟩ (λ_ _ _ _=>rfl) (λf cd cl A outer s H E hr=>(zdp C7 zez (λ_ _ h=>zbj _ _ h) (hr.mono (by decide)) rfl (sa2 sv sv)))) zfd (nomark _)) (zc (zt zzh)) zbr)))) zbr)
 (zb (sst nd (zkp (zko (sa2 sv (sad sv (scl Ai hr (sa2 sv (zec zbig (oI_D λ_ _ _ _=>.int _) zf zf)))))) (scl Ai hr (sa2 sv zf)) (λ_ _=>rfl)))
 (zb (zby (zcd sv (sa1 (zoe Az CT ht Bm (hcd.symm.trans hfc) rfl rfl (hr.mono (by decide)) rfl (zcw (N:=["_law_n","_law_beyond"]) (k:=0) (is:=[3,11]) (by rfl)) ⟨rfl,rfl,rfl,by decide +kernel⟩ (λ_ _ _ _=>rfl) (λf cd cl A outer s H E hr=>(zdp C8 zez (λ_ _ h=>zbj _ _ h) (hr.mono (by decide)) rfl (sa2 sv sv)))))))
 (zb (zby (zcd sv (sa1 (zoe Az CT ht Bm (hcd.symm.trans hfc) rfl rfl (hr.mono (by decide)) rfl (zcw (N:=["_law_n","_law_beyond"]) (k:=0) (is:=[3,11]) (by rfl)) ⟨rfl,rfl,rfl,by decide +kernel⟩ (λ_ _ _ _=>rfl) (λf cd cl A outer s H E hr=>(zdp Bg zez (λ_ _ h=>zbj _ _ h) (hr.mono (by decide)) rfl (sa2 sv sv)))))))
 (zb (zeb (zbe (ztl hr.units) zxu sv (zko (zl zfd (zl zfd (sa2 zfd zfd)))) (nomark _)) (zc (zt zzh)) zbr)
 (zc (zeb (JW.pt (zbay (zbe (zxo hr.units) zxu sv zf (nomark _)) (zlz (zbe (ztl hr.units) zxu (zoe Az CT ht Bm (hcd.symm.trans hfc) rfl rfl (hr.mono (by decide)) rfl (zcw (N:=["_law_n","_law_edge_here"]) (k:=0) (is:=[3,4]) (by rfl)) ⟨rfl,rfl,rfl,by decide +kernel⟩ (λ_ _ _ _=>rfl) (λf cd cl A outer s H E hr=>(zdp C8 zez (λ_ _ h=>zbj _ _ h) (hr.mono (by decide)) rfl (sa2 sv (ssb sv zf))))) zfd (nomark _)) (by first|exact Or.inl rfl|exact Or.inr rfl)))) (zc (zt zzh)) zbr)))))))))))))))))
 (zc (zt zzh)))) K58.holds
theorem all_mk{l:W.OpenLaw} {K:Fg} {T:Addr} (X:K.In h)(G:h.Ns mainGlobals mg)(hfa:mg "law"=some (.ref fa))(lt:LawTab K ts c T)
  (t1:TopF K "_law_bag" zlh)(t2:TopF K "_law_many" ziv)(t3:TopF K "_law_fits" ziw)(t4:TopF K "_law_edge" zix)(t5:TopF K "_law_take" ziu)(t6:TopF K "_law_odd" zlg)(t7:TopF K "degrees" zpd)(t8:TopF K "most_degree" zgl)(t9:TopF K "number_of_products" zcg)(t10:TopF K "can_be_judged" zev)(t11:TopF K "bounded" zjy)(t12:TopF K "one_degree" zfa)(t13:TopF K "judged" zne)(t14:TopF K "is_even" zjx)(t15:TopF K "products_of_degree" zba)(t16:TopF K "parts_enough" zfg)(t17:TopF K "raised_products" zdo)(t18:TopF K "lessened" zle)(t19:TopF K "as_number" zis)(t20:TopF K "is_whole" zlf)(t21:TopF K "shares" zst)(t22:TopF K "letter_raised" zeu)(t23:TopF K "product_raised" zdv)(t24:TopF K "flip" zbgz)(t25:TopF K "raised" zsu)(t26:TopF K "all_leads" zit)(t27:TopF K "degree_asked" zdf)(t28:TopF K "places_of" zir)(t29:TopF K "standing" zhe)(t30:TopF K "rows_counted" zde)(t31:TopF K "_law_refused" zdg)(t32:TopF K "_law_of_degree" zdw)(t33:TopF K "law" zbfx) (z0:W.nsIn K mainGlobals "len"=some none)(z1:W.nsIn K mainGlobals "abs"=some none)(z2:W.nsIn K mainGlobals "min"=some none)(z3:W.nsIn K mainGlobals "range"=some none)(z4:W.nsIn K mainGlobals "int"=some none)(z5:W.nsIn K mainGlobals "sorted"=some none)(z6:W.nsIn K mainGlobals "tuple"=some none)(z7:W.nsIn K mainGlobals "sum"=some none)(z8:W.nsIn K mainGlobals "set"=some none)(z9:W.nsIn K mainGlobals "bool"=some none)(z10:W.nsIn K mainGlobals "isinstance"=some none)(z11:W.nsIn K mainGlobals "enumerate"=some none)(z12:W.nsIn K mainGlobals "ValueError"=some none)(z13:W.nsIn K mainGlobals "max"=some none)(y0:W.nsIn K mainGlobals "FEW_LETTERS"=some (some (.int 3 u0)))(y1:W.nsIn K mainGlobals "MOST_JUDGED"=some (some (.int 200 u1)))(n_Full:W.nsIn K mainGlobals "Full"=some (some (.ref Ax)))(B0:W.nsIn K mainGlobals "NoDeed"=some (some (.ref Aw)))(Bz:W.nsIn K mainGlobals "NoExchange"=some (some (.ref Av)))(By:W.nsIn K mainGlobals "NoLetters"=some (some (.ref Au)))(Bx:W.nsIn K mainGlobals "NoLine"=some (some (.ref As)))(Bw:W.nsIn K mainGlobals "NoName"=some (some (.ref Ar)))(Bv:W.nsIn K mainGlobals "NoPaper"=some (some (.ref Aq)))(Ag:W.nsIn K mainGlobals "NoPart"=some (some (.ref Ac)))(Bu:W.nsIn K mainGlobals "NoProduct"=some (some (.ref Ap)))(Bt:W.nsIn K mainGlobals "NoRow"=some (some (.ref Ao)))(Bs:W.nsIn K mainGlobals "NoText"=some (some (.ref An)))(C2:W.nsIn K mainGlobals "RaisedError"=some (some (.ref Ay)))(Ae:W.nsIn K mainGlobals "TooMany"=some (some (.ref Aa)))(Af:W.nsIn K mainGlobals "Unlike"=some (some (.ref Ab)))(Be:W.excIn K Ac bmV "ValueError.__new__"=true)(A9:W.excIn K Aa bmV "ValueError.__new__"=true)(Ba:W.excIn K Ab bmV "ValueError.__new__"=true)(Am:ErrLook K Ac)(Al:ErrLook K Aa)(Ak:ErrLook K Ab)(C5:W.exmOne K (.ref Ac) (.ref Ay)=some true)(C4:W.exmOne K (.ref Aa) (.ref Ay)=some true)(C3:W.exmOne K (.ref Ab) (.ref Ay)=some true)(Cw:W.kitOne K (.ref Ac) (.ref Ax)=some false)(Cv:W.kitOne K (.ref Ac) (.ref Aw)=some false)(Cu:W.kitOne K (.ref Ac) (.ref Av)=some false)(Ct:W.kitOne K (.ref Ac) (.ref Au)=some false)(Cr:W.kitOne K (.ref Ac) (.ref As)=some false)(Cq:W.kitOne K (.ref Ac) (.ref Ar)=some false)(Cp:W.kitOne K (.ref Ac) (.ref Aq)=some false)(Br:W.kitOne K (.ref Ac) (.ref Ac)=some true)(Co:W.kitOne K (.ref Ac) (.ref Ap)=some false)(Cn:W.kitOne K (.ref Ac) (.ref Ao)=some false)(Cm:W.kitOne K (.ref Ac) (.ref An)=some false)(Bo:W.kitOne K (.ref Ac) (.ref Aa)=some false)(Bj:W.kitOne K (.ref Ac) (.ref Ab)=some false)(C1:W.kitOne K (.ref Ac) (.type "ValueError")=some true)(Ck:W.kitOne K (.ref Aa) (.ref Ax)=some false)(Cj:W.kitOne K (.ref Aa) (.ref Aw)=some false)(Ci:W.kitOne K (.ref Aa) (.ref Av)=some false)(Ch:W.kitOne K (.ref Aa) (.ref Au)=some false)(Cg:W.kitOne K (.ref Aa) (.ref As)=some false)(Cf:W.kitOne K (.ref Aa) (.ref Ar)=some false)(Ce:W.kitOne K (.ref Aa) (.ref Aq)=some false)(Bq:W.kitOne K (.ref Aa) (.ref Ac)=some false)(Cd:W.kitOne K (.ref Aa) (.ref Ap)=some false)(Cc:W.kitOne K (.ref Aa) (.ref Ao)=some false)(Cb:W.kitOne K (.ref Aa) (.ref An)=some false)(Bl:W.kitOne K (.ref Aa) (.ref Aa)=some true)(Bi:W.kitOne K (.ref Aa) (.ref Ab)=some false)(Cz:W.kitOne K (.ref Aa) (.type "ValueError")=some true)(Ca:W.kitOne K (.ref Ab) (.ref Ax)=some false)(B9:W.kitOne K (.ref Ab) (.ref Aw)=some false)(B8:W.kitOne K (.ref Ab) (.ref Av)=some false)(B7:W.kitOne K (.ref Ab) (.ref Au)=some false)(B6:W.kitOne K (.ref Ab) (.ref As)=some false)(B5:W.kitOne K (.ref Ab) (.ref Ar)=some false)(B4:W.kitOne K (.ref Ab) (.ref Aq)=some false)(Bp:W.kitOne K (.ref Ab) (.ref Ac)=some false)(B3:W.kitOne K (.ref Ab) (.ref Ap)=some false)(B2:W.kitOne K (.ref Ab) (.ref Ao)=some false)(B1:W.kitOne K (.ref Ab) (.ref An)=some false)(Bk:W.kitOne K (.ref Ab) (.ref Aa)=some false)(Bh:W.kitOne K (.ref Ab) (.ref Ab)=some true)(Cy:W.kitOne K (.ref Ab) (.type "ValueError")=some true) :
  ∃(c T:Addr) (fd:FuncData),LawTab K ts c T/\(∀(s:Shared) (v:Value),BindsTo s fd ⟨[v],[]⟩ [("_law_script", v)])/\∀ base:Heap,K.In base->base.Ns mainGlobals mg->W.CodeHd base c T->BmOk mg base->FnOk l.prog w K mg base CX0 18 fa fd ["_law_script"] (spLawT K T):=by
 have x0:=xdn X G z0;have x1:=xdn X G z1;have x2:=xdn X G z2;have x3:=xdn X G z3;have x4:=xdn X G z4;have x5:=xdn X G z5;have x6:=xdn X G z6;have x7:=xdn X G z7;have x8:=xdn X G z8;have x9:=xdn X G z9;have x10:=xdn X G z10;have x11:=xdn X G z11;have x12:=xdn X G z12;have x13:=xdn X G z13;have v0:=xdb X G y0;have v1:=xdb X G y1;obtain⟨f,fd,a,F⟩:=t33;have e:=hfa.symm.trans (xdb X G a);cases e;obtain⟨oc,od,kV,doc,pm,an,cdv,ct,osl,rfl,lk,hcd⟩:=id F.ex;refine⟨c,T,W.fnOf "law" "law" (defArgs zbfx) (defBody zbfx) (defScope zbfx) .none kV doc pm an cdv ct,lt,λs v=>.of_eq rfl,λbase _ _ CT Bm=>?_⟩
 have k__law_bag:CalD l.prog w K mg base _ _ _ _:=zrg t1 X G x0 x1 x2 x3
 have k__law_many:CalD l.prog w K mg base _ _ _ _:=znp t2 X G x3
 have k__law_fits:CalD l.prog w K mg base _ _ _ _:=znq t3 X G x4 k__law_many
 have k__law_edge:CalD l.prog w K mg base _ _ _ _:=znr t4 X G k__law_fits
 have C9:CalD l.prog w K mg base _ _ _ _:=zno t5 X G
 have k__law_odd:CalD l.prog w K mg base _ _ _ _:=zrf t6 X G x5 x6
 have k_degrees:CalD l.prog w K mg base _ _ _ _:=ztq t7 X G x7 x5 x8
 have Dq:CalD l.prog w K mg base _ _ _ _:=zkd t8 X G v0
 have Dr:CalD l.prog w K mg base _ _ _ _:=zep t9 X G x3
 have Ds:CalD l.prog w K mg base _ _ _ _:=zhk t10 X G v1 Dr Dq
 have Da:CalX l.prog w K mg base "bounded" 3 ["n","d"] zbo:=ztr t11 X G Ae A9 Ds
 have Db:CalX l.prog w K mg base "one_degree" 4 ["n","some"] zo:=zlp t12 X G x0 Af Ba k_degrees Da
 have k_judged:CalX l.prog w K mg base "judged" 5 ["n","some"] zdm:=zxr t13 X G Db
 have k_is_even:CalX l.prog w K mg base "is_even" 5 ["n","row"] zcm:=ztp t14 X G Db
 have Dc:CalD l.prog w K mg base _ _ _ _:=zeo t15 X G x3
 have Dt:CalD l.prog w K mg base _ _ _ _:=zie t16 X G
 have Du:CalD l.prog w K mg base _ _ _ _:=zge t17 X G Dt Dc
 have k_lessened:CalD l.prog w K mg base _ _ _ _:=zrd t18 X G
 have k_as_number:CalD l.prog w K mg base _ _ _ _:=znm t19 X G
 have De:CalD l.prog w K mg base _ _ _ _:=zre t20 X G x9 x10 x4
 have k_shares:CalD l.prog w K mg base _ _ _ _:=zxp t21 X G
 have Dv:CalD l.prog w K mg base _ _ _ _:=zhj t22 X G k_shares
 have Dw:CalD l.prog w K mg base _ _ _ _:=zgr t23 X G x7 Dv
 have k_flip:CalD l.prog w K mg base _ _ _ _:=zbij t24 X G
 have k_raised:CalD l.prog w K mg base _ _ _ _:=zxq t25 X G x7 x5 x6 De Dw k_flip
 have k_all_leads:CalD l.prog w K mg base _ _ _ _:=znn t26 X G x0 Du k_lessened k_as_number k_raised
 have Dx:CalX l.prog w K mg base "degree_asked" 2 ["d"] zbu:=zif t27 X G Ag Be De
 have k_places_of:CalD l.prog w K mg base _ _ _ _:=znl t28 X G x11
 have Df:CalX l.prog w K mg base "standing" 14 ["n","d"] zbp:=zrc t29 X G x11 Dx Da Dc k_all_leads k_places_of
 have Dy:CalX l.prog w K mg base "rows_counted" 15 ["n","d"] zu:=zid t30 X G x0 Df
 have Dz:CalT l.prog w K mg base "_law_refused" 15 zi:=zig t31 X G x10 x12 Af Ak Bh Ae Al Bi Ag Am Bj Bk Bl Bo Bp Bq Br Bs Bt Bu Bv Bw Bx By Bz B0 n_Full B1 B2 B3 B4 B5 B6 B7 B8 B9 Ca Cb Cc Cd Ce Cf Cg Ch Ci Cj Ck Cm Cn Co Cp Cq Cr Ct Cu Cv Cw Cy Cz C1 C2 C3 C4 C5
 have D1:CalD l.prog w K mg base _ _ _ _:=zgs t32 X G x3 x13 x6 C9
 exact zboc F (W.law_code X G lt.tin hfa (X _ _ lk) rfl) CT lt.tin Bm x0 x2 x3 x4 k__law_bag C9 k__law_edge k__law_odd D1 Dz k_judged k_is_even Dy Df
end K58
end
open PySem PySem.W PyProof.Rows
set_option maxRecDepth 100000 in
set_option maxHeartbeats 0 in
theorem PySem.Challenge.cw_raisedsums_k58_not_judged_holds : PySem.Challenge.rw_raisedsums_k58_not_judged.Holds := by
  w_on; o_law; k_head; (case hw => w_witness2)
  k_fill
  refine L2.zbbq (l := PySem.Challenge.rw_raisedsums_k58_not_judged) (n := 63) (k := 18) (x := "_law_script") (sp := Dd.spLawT) rfl (by decide) rfl ⟨rfl, by decide, by decide⟩ (fun w h Y => PySem.W.km_in_of Y) (fun w h Y => PySem.W.km_tabs_of Y) ?F (fun _ c _ _ a ns ht hl hT hS => ⟨a, ns, rfl, hS, hl, hT, ⟨c, ht⟩, fun _ => rfl⟩)
  case F =>
    intro w mg fa h KX G hmg
    refine' K58.all_mk KX G hmg ?lt ?t1 ?t2 ?t3 ?t4 ?t5 ?t6 ?t7 ?t8 ?t9 ?t10 ?t11 ?t12 ?t13 ?t14 ?t15 ?t16 ?t17 ?t18 ?t19 ?t20 ?t21 ?t22 ?t23 ?t24 ?t25 ?t26 ?t27 ?t28 ?t29 ?t30 ?t31 ?t32 ?t33 ?z0 ?z1 ?z2 ?z3 ?z4 ?z5 ?z6 ?z7 ?z8 ?z9 ?z10 ?z11 ?z12 ?z13 ?y0 ?y1 ?n_Full ?n_NoDeed ?n_NoExchange ?n_NoLetters ?n_NoLine ?n_NoName ?n_NoPaper ?n_NoPart ?n_NoProduct ?n_NoRow ?n_NoText ?n_RaisedError ?n_TooMany ?n_Unlike ?q_NoPart ?q_TooMany ?q_Unlike ?l_NoPart ?l_TooMany ?l_Unlike ?e_NoPart_RaisedError ?e_TooMany_RaisedError ?e_Unlike_RaisedError ?i_NoPart_Full ?i_NoPart_NoDeed ?i_NoPart_NoExchange ?i_NoPart_NoLetters ?i_NoPart_NoLine ?i_NoPart_NoName ?i_NoPart_NoPaper ?i_NoPart_NoPart ?i_NoPart_NoProduct ?i_NoPart_NoRow ?i_NoPart_NoText ?i_NoPart_TooMany ?i_NoPart_Unlike ?i_NoPart_ValueError ?i_TooMany_Full ?i_TooMany_NoDeed ?i_TooMany_NoExchange ?i_TooMany_NoLetters ?i_TooMany_NoLine ?i_TooMany_NoName ?i_TooMany_NoPaper ?i_TooMany_NoPart ?i_TooMany_NoProduct ?i_TooMany_NoRow ?i_TooMany_NoText ?i_TooMany_TooMany ?i_TooMany_Unlike ?i_TooMany_ValueError ?i_Unlike_Full ?i_Unlike_NoDeed ?i_Unlike_NoExchange ?i_Unlike_NoLetters ?i_Unlike_NoLine ?i_Unlike_NoName ?i_Unlike_NoPaper ?i_Unlike_NoPart ?i_Unlike_NoProduct ?i_Unlike_NoRow ?i_Unlike_NoText ?i_Unlike_TooMany ?i_Unlike_Unlike ?i_Unlike_ValueError
    (case lt => refine' (L2.zyh ?lta ?ltl ?ltc ?ltk ?ltv ?ltd ?ltm ?lto).1; (case lta => k_is); (case ltl => k_is); (case ltc => exact rfl); (case ltk => k_is); (case ltv => exact rfl); (case ltd => kernel_rfl); (case ltm => first|k_mem|decide); (case lto => kernel_rfl))
    all_goals first|k_is|kernel_rfl|(refine' L2.zbk ?a ?l ?c ?k;(case a=>k_is);(case l=>k_is);(case c=>k_is);(case k=>k_is))|(apply L2.ErrLook.mk<;>first|k_is|kernel_rfl)|skip
#print axioms PySem.Challenge.cw_raisedsums_k58_not_judged_holds
