import PyProof.Rows.All
import Wide.All
import OpenK.AllK
import Wide.FinOn
import PyProof.EqAt
import PyProof.EqKinds
import PyProof.TupleCall
import PySem.Challenge.RW_raisedsums_k51_whole_shifted_comes_to_it
set_option Elab.async false
set_option linter.all false
set_option maxRecDepth 100000
noncomputable section
namespace PySem.W.Fast
theorem tw9391015073924671328:True:=⟨⟩
theorem tw15167350440380634196:True:=⟨⟩
theorem tw773602953893816329:True:=⟨⟩
theorem tw9784479555298760327:True:=⟨⟩
theorem tw17058567716923165850:True:=⟨⟩
theorem tw8278706010183986620:True:=⟨⟩
theorem tw16153494058465844020:True:=⟨⟩
theorem tw4864062324003451002:True:=⟨⟩
theorem tw16713046854868226484:True:=⟨⟩
theorem tw14993024037191381319:True:=⟨⟩
theorem tw2508582427000429975:True:=⟨⟩
theorem tw18395220527447341557:True:=⟨⟩
theorem tw15008240177607272873:True:=⟨⟩
theorem tw9732787583117084401:True:=⟨⟩
theorem tw13238215311818848539:True:=⟨⟩
theorem tw4666504240234478502:True:=⟨⟩
theorem tw16223756526040688149:True:=⟨⟩
theorem tw13982391297870465862:True:=⟨⟩
theorem tw5309315519281713343:True:=⟨⟩
theorem tw11276587585521584084:True:=⟨⟩
theorem tw18229294032329503698:True:=⟨⟩
theorem tw4148123848315541807:True:=⟨⟩
theorem tw14600815527483858163:True:=⟨⟩
theorem tw15015804979746109746:True:=⟨⟩
theorem tw1295752940002821691:True:=⟨⟩
theorem tw7084055751803145101:True:=⟨⟩
theorem tw9690766345585124163:True:=⟨⟩
theorem tw15771628678377413169:True:=⟨⟩
theorem tw10650447427346926413:True:=⟨⟩
theorem tw14317410594360222278:True:=⟨⟩
theorem tw13746816226842548059:True:=⟨⟩
theorem tw12874700061053839920:True:=⟨⟩
theorem tw5313150120412591875:True:=⟨⟩
theorem tw13334621550009048229:True:=⟨⟩
theorem tw11411621157535274442:True:=⟨⟩
theorem tw2740147383491283139:True:=⟨⟩
theorem tw4689686405538147668:True:=⟨⟩
theorem tw14861480026238369196:True:=⟨⟩
theorem tw13789109217954597653:True:=⟨⟩
theorem tw510062053298295747:True:=⟨⟩
theorem tw3241660045280196585:True:=⟨⟩
theorem tw15566906109462682264:True:=⟨⟩
theorem tw38843898178577401:True:=⟨⟩
theorem tw6162737537290240777:True:=⟨⟩
theorem tw12195765431267495614:True:=⟨⟩
theorem tw9201437388415873250:True:=⟨⟩
theorem tw12742348269848336396:True:=⟨⟩
theorem tw10630715838456066569:True:=⟨⟩
theorem tw4860401961513389210:True:=⟨⟩
theorem tw16992020258726290153:True:=⟨⟩
theorem tw8886296407951970933:True:=⟨⟩
theorem tw16953743741097915633:True:=⟨⟩
theorem tw4923168753767334398:True:=⟨⟩
theorem tw9650669998450319805:True:=⟨⟩
theorem tw1066297913127185161:True:=⟨⟩
theorem tw4077157781747601444:True:=⟨⟩
theorem tw5217994643147217734:True:=⟨⟩
theorem tw6306023883275402447:True:=⟨⟩
theorem tw13924284415390256004:True:=⟨⟩
theorem tw7989415680382385004:True:=⟨⟩
theorem tw18061487515375282387:True:=⟨⟩
theorem tw10960179679909654562:True:=⟨⟩
theorem tw2477504852876676432:True:=⟨⟩
theorem tw12211892702689001637:True:=⟨⟩
theorem tw11679587946142569312:True:=⟨⟩
theorem tw2008709779980615382:True:=⟨⟩
theorem tw13470325269250128883:True:=⟨⟩
theorem tw4666294741424713230:True:=⟨⟩
theorem tw17633796677028515971:True:=⟨⟩
theorem tw2954493716929861439:True:=⟨⟩
theorem tw8878742110912003231:True:=⟨⟩
theorem tw17479058534341447361:True:=⟨⟩
theorem tw13446234583170793294:True:=⟨⟩
theorem tw11516155867438241767:True:=⟨⟩
theorem tw16715000770518227631:True:=⟨⟩
theorem tw11362961306348046101:True:=⟨⟩
end PySem.W.Fast
open PySem
set_option genSizeOfSpec false
set_option genInjectivity false
abbrev Fg:=PySem.W.Frag
abbrev xba:=@PySem.wpAny_bind
abbrev xbb:=@List.length_map
abbrev xbc:=@Nat.le_trans
abbrev xbd:=@List.getElem?_eq_some_iff
abbrev xbe:=@List.getElem?_eq_getElem
abbrev xbf:=@List.mem_cons_of_mem
abbrev xbg:=@PySem.wpAny_pure
abbrev xbh:=@PySem.Heap.get?_push_of_some
abbrev xbi:=@List.getD_eq_getElem?_getD
abbrev xbj:=@Nat.le_refl
abbrev xbk:=@List.length_append
abbrev xbl:=@List.mem_cons
abbrev xbm:=@Nat.lt_of_lt_of_le
abbrev xbn:=@List.mem_range
abbrev xbo:=@List.mem_of_getElem?
abbrev xbp:=@PyProof.Rows.wpS_bind
abbrev xbq:=@List.mem_map
abbrev xbr:=@List.map_cons
abbrev xbs:=@PyProof.Rows.wpS_pure
abbrev xbt:=@List.length_cons
abbrev xbu:=@List.take_length
abbrev xbv:=@List.mem_cons_self
abbrev xbw:=@decide_eq_true
abbrev xbx:=@List.getElem?_set_ne
abbrev xby:=@List.getElem?_append_left
abbrev xbz:=@PySem.Heap.lt_size
abbrev xca:=@List.all_eq_true
abbrev xcb:=@PySem.Heap.get?_push_size
abbrev xcc:=@List.size_toArray
abbrev xcd:=@decide_eq_false
abbrev xce:=@List.mem_append
abbrev xcf:=@List.mem_flatMap
abbrev xcg:=@Nat.le_of_lt
abbrev xch:=@Nat.ne_of_lt
abbrev xci:=@Array.length_toList
abbrev xcj:=@List.mem_singleton
abbrev xck:=@Nat.le_add_right
abbrev xcl:=@List.getElem?_map
abbrev xcm:=@List.append_assoc
abbrev xcn:=@List.mem_filter
abbrev xco:=@Array.getElem?_toList
abbrev xcp:=@List.filter_cons_of_pos
abbrev xcq:=@List.length_take
abbrev xcr:=@Nat.le_of_not_lt
abbrev xcs:=@List.filter_cons_of_neg
abbrev xct:=@Nat.add_sub_cancel'
abbrev xcu:=@List.sum_cons
abbrev xcv:=@Nat.add_le_add_left
abbrev xcw:=@List.map_map
abbrev xcx:=@Nat.mul_le_mul_right
abbrev xcy:=@Bool.and_eq_true
abbrev xcz:=@Option.some.inj
abbrev xda:=@Int.eq_ofNat_of_zero_le
abbrev xdb:=@Nat.le_of_lt_succ
abbrev xdc:=@Option.map_eq_some_iff
abbrev xdd:=@Array.getD_eq_getD_getElem?
abbrev xde:=@of_decide_eq_true
abbrev xdf:=@List.nodup_cons
abbrev xdg:=@List.take_append_drop
abbrev xdh:=@List.drop_eq_getElem_cons
abbrev xdi:=@List.map_append
abbrev xdj:=@Ne.symm
abbrev xdk:=@Nat.lt_of_le_of_lt
abbrev xdl:=@PySem.W.mg_none_of
abbrev xdm:=@List.getElem?_append_right
abbrev xdn:=@Nat.xor_assoc
abbrev xdo:=@Nat.add_sub_cancel_left
abbrev xdp:=@Array.getElem?_eq_getElem
abbrev xdq:=@List.getElem_mem
abbrev xdr:=@List.length_set
abbrev xds:=@Bool.false_eq_true
abbrev xdt:=@Nat.lt_of_le_of_ne
abbrev xdu:=@Nat.le_of_eq
abbrev xdv:=@List.take_of_length_le
abbrev xdw:=@Nat.le_sub_one_of_lt
abbrev xdx:=@Int.toNat_natCast
abbrev xdy:=@Nat.le_of_succ_le
abbrev xdz:=@List.mem_append_right
abbrev xea:=@Nat.le_of_add_left_le
abbrev xeb:=@Array.toList_append
abbrev xec:=@List.mem_of_mem_take
abbrev xed:=@List.Nodup.length_le_of_subset
abbrev xee:=@List.filterMap_cons_some
abbrev xef:=@Nat.mod_two_eq_zero_or_one
abbrev xeg:=@Nat.zero_add
abbrev xeh:=@PyProof.Rows.wpS_forRange
abbrev xei:=@List.append_nil
abbrev xej:=@Nat.min_eq_left
abbrev xek:=@Nat.sub_lt_left_of_lt_add
abbrev xel:=@List.sum_append
abbrev xem:=@Nat.le_antisymm
abbrev xen:=@Nat.add_lt_of_lt_sub'
abbrev xeo:=@List.map_congr_left
abbrev xep:=@PySem.wpAny_call_entry
abbrev xeq:=@List.foldl_append
abbrev xer:=@Nat.xor_zero
abbrev xes:=@Nat.zero_le
abbrev xet:=@PySem.wpAny_holding
abbrev xeu:=@List.filterMap_cons_none
abbrev xev:=@List.getElem_of_mem
abbrev xew:=@PySem.Heap.SameBut.update
abbrev xex:=@Nat.add_lt_add_left
abbrev xey:=@PySem.wpAny_mono
abbrev xez:=@PySem.wpAny_newObj_type
abbrev xfa:=@if_false
abbrev xfb:=@List.find?_cons
abbrev xfc:=@Nat.sub_lt_sub_right
abbrev xfd:=@List.filter_append
abbrev xfe:=@List.getElem?_set_self
abbrev xff:=@Nat.not_lt_of_le
abbrev xfg:=@Array.toList_push
abbrev xfh:=@List.count_append
abbrev xfi:=@PySem.Heap.get?_update_self
abbrev xfj:=@Nat.le_sub_of_add_le'
abbrev xfk:=@Nat.le_of_ble_eq_true
abbrev xfl:=@if_true
abbrev xfm:=@PySem.W.kia_one
abbrev xfn:=@Bool.eq_iff_iff
abbrev xfo:=@List.getElem?_drop
abbrev xfp:=@Option.bind_eq_some_iff
abbrev xfq:=@List.mem_of_mem_drop
abbrev xfr:=@Array.perm_iff_toList_perm
abbrev xfs:=@Nat.lt_of_succ_lt
abbrev xft:=@List.length_range
abbrev xfu:=@PySem.wpAny_truthy_bool
abbrev xfv:=@beq_eq_false_iff_ne
abbrev xfw:=@List.range_succ
abbrev xfx:=@List.pairwise_iff_getElem
abbrev xfy:=@List.getElem?_eq_none
abbrev xfz:=@Nat.eq_of_beq_eq_true
abbrev xga:=@Bool.false_ne_true
abbrev xgb:=@List.length_drop
abbrev xgc:=@List.lookup_cons
abbrev xgd:=@Nat.succ_le_succ
abbrev xge:=@List.count_eq_zero
abbrev xgf:=@PyProof.Rows.wpS_mono
abbrev xgg:=@List.nodup_nil
abbrev xgh:=@PySem.F.slot_dict_keyiterator_next
abbrev xgi:=@Nat.sub_le_sub_right
abbrev xgj:=@List.pairwise_append
abbrev xgk:=@List.getElem?_cons_succ
abbrev xgl:=@List.length_eq_zero_iff
abbrev xgm:=@Nat.sub_pos_of_lt
abbrev xgn:=@Nat.le_succ_of_le
abbrev xgo:=@List.filter_congr
abbrev xgp:=@List.foldl_cons
abbrev xgq:=@List.nodup_iff_pairwise_ne
abbrev xgr:=@Nat.min_le_right
abbrev xgs:=@Nat.lt_of_not_le
abbrev xgt:=@List.not_mem_nil
abbrev xgu:=@List.length_singleton
abbrev xgv:=@List.length_filter_le
abbrev xgw:=@PySem.Obj.data_mapFields
abbrev xgx:=@List.Perm.append_left
abbrev xgy:=@List.Pairwise.sublist
abbrev xgz:=@Nat.lt_of_lt_of_eq
abbrev xha:=@List.getElem?_toArray
abbrev xhb:=@PySem.Heap.size_push
abbrev xhc:=@List.pairwise_cons
abbrev xhd:=@List.mem_append_left
abbrev xhe:=@Nat.sub_le
abbrev xhf:=@List.count_cons
abbrev xhg:=@Nat.succ_mul
abbrev xhh:=@Nat.lt_irrefl
abbrev xhi:=@PySem.wpAny_typeNameOfWhole_keyiter
abbrev xhj:=@PySem.mem_of_lookup
abbrev xhk:=@Nat.sub_le_sub_left
abbrev xhl:=@List.cons_append
abbrev xhm:=@beq_self_eq_true
abbrev xhn:=@decide_eq_decide
abbrev xho:=@Array.getElem?_eq_none
abbrev xhp:=@beq_iff_eq
abbrev xhq:=@PyProof.Rows.wpS_modify
abbrev xhr:=@Nat.ne_of_gt
abbrev xhs:=@PyProof.Rows.callWith_type1
abbrev xht:=@Nat.sub_add_cancel
abbrev xhu:=@Int.zero_add
abbrev xhv:=@List.count_pos_iff
abbrev xhw:=@Nat.xor_self
abbrev xhx:=@PySem.wpAny_pyIter_tuple
abbrev xhy:=@decide_eq_true_iff
abbrev xhz:=@List.length_replicate
abbrev xia:=@PySem.Obj.isFreed_of_fields
abbrev xib:=@Nat.min_le_left
abbrev xic:=@List.perm_append_comm
abbrev xid:=@PySem.wpAny_passesOwn
abbrev xie:=@List.ext_getElem?
abbrev xig:=@Nat.lt_succ_of_lt
abbrev xih:=@List.nodup_iff_count
abbrev xii:=@PySem.wpAny_rule
abbrev xij:=@PySem.sizeLine_eq
abbrev xik:=@PySem.wpAny_field
abbrev xil:=@PySem.wpAny_setField
abbrev xim:=@Nat.lt_or_ge
abbrev xin:=@List.take_succ_eq_append_getElem
abbrev xio:=@PySem.F.called_set
abbrev xip:=@Nat.zero_xor
abbrev xiq:=@decide_false
abbrev xir:=@List.filter_sublist
abbrev xis:=@List.flatMap_append
abbrev xit:=@PyProof.Rows.slot_tuple_getitem
abbrev xiu:=@PySem.F.plainAttrs_dict
abbrev xiv:=@List.countP_cons_of_pos
abbrev xiw:=@Nat.lt_add_of_pos_right
abbrev xix:=@PySem.Paired.length
abbrev xiy:=@List.any_cons
abbrev xiz:=@PyProof.Rows.wpS_get
abbrev xja:=@PySem.Calls.spliced_cons
abbrev xjb:=@List.length_nil
abbrev xjc:=@Nat.sub_lt
abbrev xjd:=@Nat.eq_zero_or_pos
abbrev xje:=@List.filter_map
abbrev xjf:=@PySem.tupleKind_room_in1
abbrev xjg:=@PySem.wpAny_setField_rec
abbrev xjh:=@List.Perm.append_right
abbrev xji:=@List.drop_eq_nil_of_le
abbrev xjj:=@decide_true
abbrev xjk:=@List.nodup_append
abbrev xjl:=@List.flatMap_cons
abbrev xjm:=@PySem.wpAny_dictEntries
abbrev xjn:=@decide_eq_true_eq
abbrev xjo:=@Nat.lt_trans
abbrev xjp:=@PySem.F.slot_dict_pop
abbrev xjq:=@Nat.sub_self
abbrev xjr:=@Nat.add_zero
abbrev xjs:=@Array.extract_eq_empty_of_le
abbrev xjt:=@List.dropLast_concat_getLast
abbrev xju:=@Nat.ble_eq_true_of_le
abbrev xjv:=@PySem.codeAny_mono
abbrev xjw:=@Nat.min_eq_right
abbrev xjx:=@Array.toList_reverse
abbrev xjy:=@List.reverse_reverse
abbrev xjz:=@Nat.lt_succ_self
abbrev xka:=@PySem.wpAny_askSetting
abbrev xkb:=@Array.getElem?_setIfInBounds_self_of_lt
abbrev xkc:=@Nat.mul_assoc
abbrev xkd:=@PySem.wpAny_attempt
abbrev xke:=@List.of_mem_zip
abbrev xkf:=@List.mem_of_find?_eq_some
abbrev xkg:=@PySem.PassesOwn.never
abbrev xkh:=@Int.emod_nonneg
abbrev xki:=@PySem.codeAny_builtin
abbrev xkj:=@PySem.wpAny_ite_split
abbrev xkk:=@List.getElem?_take_of_lt
abbrev xkl:=@PySem.F.args_tuple_add_2
abbrev xkm:=@PySem.AutoSeq1.wpAny_loadPart'
abbrev xkn:=@List.filter_filter
abbrev xko:=@List.sum_nil
abbrev xkp:=@Nat.pow_succ
abbrev xkq:=@PySem.wpAny_Call_Name_kw
abbrev xkr:=@PyProof.Rows.slot_tuple_getitem
abbrev xks:=@and_self
abbrev xkt:=@Nat.mul_le_mul
abbrev xku:=@Nat.ble_eq
abbrev xkv:=@PySem.wpAny_seqItems
abbrev xkw:=@PySem.F.entry_tuple_add
abbrev xkx:=@List.countP_cons_of_neg
abbrev xky:=@List.pairwise_singleton
abbrev xkz:=@List.getElem?_cons_zero
abbrev xla:=@List.eraseIdx_cons_succ
abbrev xlb:=@PySem.Calls.spliced_nil
abbrev xlc:=@List.take_sublist
abbrev xld:=@PySem.Obj.cls_mapFields
abbrev xle:=@Nat.zero_lt_of_lt
abbrev xlf:=@PySem.wpAny_pyIter_list
abbrev xlg:=@PySem.wpAny_setState_of
abbrev xlh:=@PySem.F.slot_tuple_add
abbrev xli:=@PySem.Calls.callWith_builtin
abbrev xlj:=@Nat.le_mul_of_pos_left
abbrev xlk:=@Nat.le_succ
abbrev xll:=@List.filter_cons
abbrev xlm:=@List.ext_getElem
abbrev xln:=@List.getElem_map
abbrev xlo:=@List.mem_reverse
abbrev xlp:=@List.nodup_range
abbrev xlq:=@List.any_eq_true
abbrev xlr:=@PySem.wpAny_isInstance
abbrev xls:=@PyProof.Rows.wpS_lift
abbrev xlt:=@or_false
abbrev xlu:=@PySem.F.slot_tuple_lt
abbrev xlv:=@PySem.F.slot_dict_get
abbrev xlw:=@cond_true
abbrev xlx:=@Array.getElem?_setIfInBounds_ne
abbrev xly:=@Array.mem_toList_iff
abbrev xlz:=@PySem.Calls.evalArgs_plain
abbrev xma:=@Array.toList_extract
abbrev xmb:=@Int.le_trans
abbrev xmc:=@PySem.Around.under_plainId
abbrev xmd:=@Bool.decide_and
abbrev xme:=@List.eq_nil_iff_forall_not_mem
abbrev xmf:=@PySem.wpAny_execs_nil
abbrev xmg:=@PySem.call_meetsIn
abbrev xmh:=@PySem.codeAny_call_builtin
abbrev xmi:=@cond_false
abbrev xmj:=@List.filterMap_cons
abbrev xmk:=@List.filter_eq_self
abbrev xml:=@List.getElem?_range
abbrev xmm:=@PySem.wpAny_setEntries_of
abbrev xmn:=@List.drop_drop
abbrev xmo:=@List.take_zero
abbrev xmp:=@PySem.F.slot_dict_setdefault
abbrev xmq:=@PySem.wpAny_fieldsOf
abbrev xmr:=@Int.add_mul
abbrev xms:=@List.zip_cons_cons
abbrev xmt:=@Array.append_empty
abbrev xmu:=@Nat.pos_of_ne_zero
abbrev xmv:=@List.find?_eq_none
abbrev xmw:=@of_decide_eq_false
abbrev xmx:=@Array.getElem?_eq_some_iff
abbrev xmy:=@Nat.add_assoc
abbrev xmz:=@List.perm_ext_iff_of_nodup
abbrev xna:=@Bool.and_true
abbrev xnb:=@PySem.wpAny_standAt
abbrev xnc:=@Nat.lt_succ_of_le
abbrev xnd:=@List.mapM_toArray
abbrev xne:=@List.drop_sublist
abbrev xnf:=@List.getElem_drop
abbrev xng:=@List.getElem_take
abbrev xnh:=@List.pairwise_map
abbrev xni:=@List.Pairwise.imp
abbrev xnj:=@PySem.wpAny_pyIter_slot
abbrev xnk:=@Nat.mod_lt
abbrev xnl:=@List.getElem_inj
abbrev xnm:=@List.map_nil
abbrev xnn:=@Nat.max_eq_right
abbrev xno:=@Nat.add_comm
abbrev xnp:=@List.perm_middle
abbrev xnq:=@Nat.xor_comm
abbrev xnr:=@Nat.mul_comm
abbrev xns:=@Option.getD_some
abbrev xnt:=@List.Nodup.count
abbrev xnu:=@map_eq_pure_bind
abbrev xnv:=@List.forIn_cons
abbrev xnw:=@Nat.le_add_left
abbrev xnx:=@List.find?_some
abbrev xny:=@Nat.and_div_two
abbrev xnz:=@Int.natCast_add
abbrev xoa:=@Nat.two_pos
abbrev xob:=@List.map_id
abbrev xoc:=@Int.le_refl
abbrev xod:=@List.Perm.refl
abbrev xoe:=@Int.mul_nonneg
set_option maxHeartbeats 0
namespace L2
open Spec PyProof.Rows
noncomputable abbrev Key:=Sum Int Str
def keyIs:Key->Value->Bool
 |.inl k,v=>Value.isInt k v
 |.inr x,v=>Value.isStrOf x v
def keyH(w:World):Key->Int
 |.inl k=>hashInt k
 |.inr x=>hashStr w x
theorem zbf:∀{k:Key}{v:Value},keyIs k v=true->(∃i t,k=Sum.inl i/\v=Value.int i t)\/(∃x t,k=Sum.inr x/\v=Value.str x t)
 |.inl i,v,h=>by
  obtain⟨t,e⟩:=Value.isInt_shape (k:=i) (v:=v) h;exact .inl ⟨i,t,rfl,e⟩
 |.inr x,v,h=>by
  obtain⟨t,e⟩:=Value.isStrOf_shape (x:=x) (v:=v) h;exact .inr ⟨x,t,rfl,e⟩
theorem zbai(i:Int)(t:Tok):keyIs (.inl i) (.int i t)=true:=by simp[keyIs,Value.isInt]
theorem zbah(x:Str)(t:Tok):keyIs (.inr x) (.str x t)=true:=by simp[keyIs,Value.isStrOf]
theorem zbtv(a b:Int):decide ((Sum.inl a:Key)=Sum.inl b)=(a==b):=by
 by_cases e:a=b
 ·subst e;simp
 ·have h:¬ (Sum.inl a:Key)=Sum.inl b:=λq=>e (Sum.inl.inj q)
  rw[xcd h];exact(xfv.mpr e).symm
theorem zbts(a b:Str):decide ((Sum.inr a:Key)=Sum.inr b)=decide (a=b):=by
 by_cases e:a=b
 ·subst e;simp
 ·have h:¬ (Sum.inr a:Key)=Sum.inr b:=λq=>e (Sum.inr.inj q)
  rw[xcd h,xcd e]
theorem zbtu(a:Int)(b:Str):decide ((Sum.inl a:Key)=Sum.inr b)=false:=xcd (λq=>nomatch q)
theorem zbtt(a:Str)(b:Int):decide ((Sum.inr a:Key)=Sum.inl b)=false:=xcd (λq=>nomatch q)
def mixKind(c:Program) (w:World):PySem.KeyKind c w Key where
 is:=keyIs
 hash:=keyH w
 inj:=λv a b m g=>by
  rcases zbf m with⟨i,t,rfl,rfl⟩|⟨x,t,rfl,rfl⟩
  ·rcases zbf g with⟨j,u,rfl,e⟩|⟨y,u,rfl,e⟩
   ·injection e with d _;rw[d]
   ·exact nomatch e
  ·rcases zbf g with⟨j,u,rfl,e⟩|⟨y,u,rfl,e⟩
   ·exact nomatch e
   ·injection e with d _;rw[d]
 byValue:=λk v h=>by
  rcases zbf h with⟨i,t,rfl,rfl⟩|⟨x,t,rfl,rfl⟩<;>rfl
 pyHash:=λf h=>by
  rcases zbf f with⟨i,t,rfl,rfl⟩|⟨x,t,rfl,rfl⟩
  ·exact wpAny_pyHash_int h
  ·exact wpAny_pyHash_str h
 eqBool:=λl f h=>by
  rcases zbf l with⟨i,t,rfl,rfl⟩|⟨x,t,rfl,rfl⟩
  ·rcases zbf f with⟨j,u,rfl,rfl⟩|⟨y,u,rfl,rfl⟩
   ·rw[zbtv] at h;exact wpAny_eqBool_int h
   ·rw[zbtu] at h;exact SeqAt.EqAt.int_str i t y u _ _ _ _ h
  ·rcases zbf f with⟨j,u,rfl,rfl⟩|⟨y,u,rfl,rfl⟩
   ·rw[zbtt] at h;exact SeqAt.EqAt.str_int x t j u _ _ _ _ h
   ·rw[zbts] at h;exact wpAny_eqBool_str h
 «strs»:=λk x t v h=>by
  rcases zbf h with⟨i,u,rfl,e⟩|⟨y,u,rfl,e⟩
  ·exact nomatch e
  ·injection e with d _
   subst d;cases v<;>rfl
theorem zta(a:Program)(w:World)(i:Int)(t:Tok):(mixKind a w).is (.inl i) (.int i t)=true:=zbai i t
theorem zsz(a:Program)(w:World)(x:Str)(t:Tok):(mixKind a w).is (.inr x) (.str x t)=true:=zbah x t
set_option genInjectivity true in
inductive V where
 |non|bl (b:Bool)|int (i:Int)|str (x:Str)|byt (b:Array UInt8)|flt (b:UInt64)|ref (a:Addr)|ty (n:String)
 deriving DecidableEq
noncomputable def RelV:V->Value->Prop
 |.non,u=>u=Value.none
 |.bl b,u=>u=Value.bool b
 |.int i,u=>∃t,u=Value.int i t
 |.str x,u=>∃t,u=Value.str x t
 |.byt b,u=>∃t,u=Value.bytes b t
 |.flt b,u=>∃t,u=Value.float b t
 |.ref a,u=>u=Value.ref a
 |.ty n,u=>u=Value.type n
abbrev Vals:List V->List Value->Prop:=Paired RelV
theorem Vals.length(r:Vals xs us):xs.length=us.length:=xix r
theorem Vals.get:∀{b:List V}{a:List Value}{i:Nat}{x:V},Vals b a->b[i]?=some x->∃u,a[i]?=some u/\RelV x u
 |_,_,_,_,.nil,e=>by simp at e
 |_,_,0,_,.cons r _,e=>by simp at e;subst e;exact⟨_,rfl,r⟩
 |_,_,i+1,x,.cons _ t,e=>by
  obtain⟨u,c,d⟩:=Vals.get (i:=i) (x:=x) t (by simpa using e);exact⟨u,by simpa using c,d⟩
theorem Vals.set(r:RelV x u):∀{b:List V}{a:List Value}(i:Nat),Vals b a->Vals (b.set i x) (a.set i u)
 |_,_,_,.nil=>.nil
 |_,_,0,.cons _ t=>.cons r t
 |_,_,i+1,.cons q t=>.cons q (Vals.set r i t)
theorem Vals.append:∀{b c:List V}{a d:List Value},Vals b a->Vals c d->Vals (b++c) (a++d)
 |_,_,_,_,.nil,s=>s
 |_,_,_,_,.cons r t,s=>.cons r (Vals.append t s)
theorem Vals.take:∀{b:List V}{a:List Value}(n:Nat),Vals b a->Vals (b.take n) (a.take n)
 |_,_,0,_=>.nil
 |_,_,_+1,.nil=>.nil
 |_,_,n+1,.cons r t=>.cons r (Vals.take n t)
theorem Vals.drop:∀{b:List V}{a:List Value}(n:Nat),Vals b a->Vals (b.drop n) (a.drop n)
 |_,_,0,r=>r
 |_,_,_+1,.nil=>.nil
 |_,_,n+1,.cons _ t=>Vals.drop n t
def RelO:Option V->Option Value->Prop
 |some v,some u=>RelV v u
 |none,none=>True
 |_,_=>False
def KV{κ:Type}:List (κ×V)->List (κ×Value)->Prop:=Paired λ(p:κ×V) (q:κ×Value)=>p.1=q.1/\RelV p.2 q.2
def kV:Key->V
 |.inl i=>.int i
 |.inr x=>.str x
set_option genInjectivity true in
inductive HO where
 /-- a list -/
 |lst (xs:List V)
 /-- a tuple (never changes) -/
 |tup (xs:List V)
 /-- a dict whose keys are ints and texts;one whose keys are tuples of ints and texts (the empty one is both) -/
 |dK (kvs:List (Key×V))|dT (kvs:List (List Key×V))
 /-- a set of ints: its members,its size -/
 |set (S:Int->Bool) (n:Nat)
 /-- an instance of the class at C,its dict at dx,its attributes -/
 |ins (C dx:Addr) (fs:List (Str×V))
 /-- the dict of the instance at x -/
 |own (x:Addr)
 /-- the dict of an exception -/
 |xd (fs:List (Str×V))
 /-- a bound method,f of x -/
 |met (f x:Addr)
 /-- a range object lo,lo+1,.. below hi -/
 |rng (lo hi:Int)
 /-- a thing that is known to the object (the script;a dict while a loop walks it): read,never written while it is so -/
 |frz (o:Obj) (u:HO)
 /-- a code object's table -/
 |tbl (ps:Array Value)
 /-- any other thing,by what is true of its one object (a def of one's own: SetO a S n:=HO.ext λh=>..) -/
 |ext (φ:Heap->Prop)
noncomputable abbrev Hp:=Addr->Option HO
def upd(H:Hp) (a:Addr) (o:HO):Hp:=λb=>if b=a then some o else H b
theorem zp:upd H a o a=some o:=by unfold upd;rw[if_pos rfl]
theorem zo(h:b≠a):upd H a o b=H b:=by unfold upd;rw[if_neg h]
theorem zbwv{H:Hp}{a b:Addr}{o u:HO}(h:H a=some o)(c:H b=some u)(d:o≠u):a≠b:=by
 intro e;subst e;rw[h] at c;exact d (xcz c)
theorem zk{H:Hp}{a b:Addr}{o:HO}(h:H a=some o)(c:H b=none):a≠b:=by
 intro e;subst e;rw[h] at c;cases c
section
variable (P:Program)(w:World)
def ObjOk(H:Hp) (h:Heap) (a:Addr):HO->Prop
 |.lst c=>c.length<=sizeLine/\∃(b:List Value) (n:Nat),Vals c b/\h.get? a=some { cls:=.type "list",data:=.seq b.toArray n }
 |.tup c=>c.length<=sizeLine/\∃b:List Value,Vals c b/\IsTup h a b.toArray
 |.dK kvs=>kvs.length<=sizeLine/\(a==sysModules)=false/\∃i,KV kvs i/\h.DictOf (mixKind P w) a i
 |.dT kvs=>kvs.length<=sizeLine/\(a==sysModules)=false/\∃c:List (List Key×Addr×Value),
  Paired (λ(p:List Key×V) (q:List Key×Addr×Value)=>p.1=q.1/\H q.2.1=some (.tup (p.1.map kV))/\RelV p.2 q.2.2) kvs c /\
  ∃o g k,h.get? a=some o/\o.ExactDict/\o.data=.dict g k/\g.toList=c.map (entryOfKey (tupleKind (mixKind P w)))/\(c.map (·.1)).Nodup
 |.set S n=>h.SetOf (intKind P w) a S n
 |.ins C dx fs=>H dx=some (.own a)/\fs.length<=1000/\dx≠a/\h.get? a=some (W.instObj C dx) /\
  ∃d,h.Ns1 dx d/\(∀f,RelO (fs.lookup f) (d f))/\PySem.Within d (fs.map (·.1))
 |.own _=>∃o,h.get? a=some o
 |.xd fs=>∃d,h.Ns1 a d/\∀f,RelO (fs.lookup f) (d f)
 |.rng lo hi=>∃ t u v,h.get? a=some { cls:=.type "range",data:=.fields #[.int lo t,.int hi u,.int 1 v] }
 |.frz o u=>h.get? a=some o/\ObjOk H h a u
 |.tbl ps=>h.get? a=some {cls:=.none,data:=.fields ps}
 |.met f x=>h.get? a=some (W.methodObj (.ref f) (.ref x))
 |.ext φ=>φ h/\(∃o,h.get? a=some o)/\∀j e:Heap,φ j->(∀o,j.get? a=some o->e.get? a=some o)->φ e
def HOk(H:Hp) (h:Heap):Prop:=∀a o,H a=some o->ObjOk P w H h a o
end
theorem ObjOk.lt(x:ObjOk P w H h a o):a<h.objs.size:=by
 cases o with
 |lst xs=>obtain⟨_,_,_,_,e⟩:=x;exact xbz e
 |tup xs=>obtain⟨_,_,_,p⟩:=x;exact p.lt
 |dK kvs=>obtain⟨_,_,_,_,o,_,_,e,_⟩:=x;exact xbz e
 |dT kvs=>obtain⟨_,_,_,_,o,_,_,e,_⟩:=x;exact xbz e
 |set S n=>obtain⟨o,_,_,_,e,_⟩:=x;exact xbz e
 |ins C dx fs=>obtain⟨_,_,_,e,_⟩:=x;exact xbz e
 |own y=>obtain⟨_,e⟩:=x;exact xbz e
 |xd fs=>obtain⟨_,⟨_,_,_,e,_⟩,_⟩:=x;exact xbz e
 |rng lo hi=>obtain⟨_,_,_,e⟩:=x;exact xbz e
 |frz ob u=>obtain⟨e,_⟩:=x;exact xbz e
 |tbl ps=>exact xbz (show h.get? a=some _ from x)
 |met f y=>exact xbz (show h.get? a=some _ from x)
 |ext φ=>obtain⟨_,⟨_,e⟩,_⟩:=x;exact xbz e
section
variable {a:Addr}
theorem Paired.mapP{α β:Type}{F G:α->β->Prop}:∀{d:List α}{c:List β},Paired F d c->(∀a b,F a b->G a b)->Paired G d c
 |_,_,.nil,_=>.nil
 |_,_,.cons r t,f=>.cons (f _ _ r) (Paired.mapP t f)
end
theorem ObjOk.stay{h:Heap}{s:Heap}(x:ObjOk P w H h a o)(k:∀b u,(b=a\/H b=some (.own a))->h.get? b=some u->s.get? b=some u)
  (U:∀b,H b=some (.own a)->H' b=some (.own a))(J:∀b m,H b=some (.tup m)->H' b=some (.tup m)):ObjOk P w H' s a o:=by
 induction o with
 |lst m=>obtain⟨z,l,n,r,e⟩:=x;exact⟨z,l,n,r,k _ _ (.inl rfl) e⟩
 |tup m=>obtain⟨z,l,r,g,e,c⟩:=x;exact⟨z,l,r,g,k _ _ (.inl rfl) e,c⟩
 |dK kvs=>obtain⟨z,y,X,r,g,i,j,e,c⟩:=x;exact⟨z,y,X,r,g,i,j,k _ _ (.inl rfl) e,c⟩
 |dT kvs=>
  obtain⟨z,y,m,r,g,i,j,e,c⟩:=x;exact⟨z,y,m,Paired.mapP r λp q z=>⟨z.1,J _ _ z.2.1,z.2.2⟩,g,i,j,k _ _ (.inl rfl) e,c⟩
 |set S n=>obtain⟨g,i,j,t,e,c⟩:=x;exact⟨g,i,j,t,k _ _ (.inl rfl) e,c⟩
 |ins C dx fs=>
  obtain⟨d,z,Q,e,A,⟨E,i,j,I,c⟩,r⟩:=x;exact⟨U _ d,z,Q,k _ _ (.inl rfl) e,A,⟨E,i,j,k _ _ (.inr d) I,c⟩,r⟩
 |own y=>obtain⟨g,e⟩:=x;exact⟨g,k _ _ (.inl rfl) e⟩
 |xd fs=>obtain⟨A,⟨E,i,j,e,c⟩,r⟩:=x;exact⟨A,⟨E,i,j,k _ _ (.inl rfl) e,c⟩,r⟩
 |rng lo hi=>obtain⟨t,u,v,e⟩:=x;exact⟨t,u,v,k _ _ (.inl rfl) e⟩
 |frz g u ih=>obtain⟨e,q⟩:=x;exact⟨k _ _ (.inl rfl) e,ih q⟩
 |tbl ps=>
  have e:h.get? a=some {cls:=.none,data:=.fields ps}:=x;show s.get? a=some {cls:=.none,data:=.fields ps};exact k a _ (.inl rfl) e
 |met f y=>
  have e:h.get? a=some (W.methodObj (.ref f) (.ref y)):=x;show s.get? a=some (W.methodObj (.ref f) (.ref y));exact k a _ (.inl rfl) e
 |ext φ=>obtain⟨p,⟨o,e⟩,G⟩:=x;exact⟨G _ _ p λo q=>k _ _ (.inl rfl) q,⟨o,k _ _ (.inl rfl) e⟩,G⟩
theorem HOk.lt(x:HOk P w H h)(e:H a=some o):a<h.objs.size:=(x a o e).lt
theorem HOk.fresh(x:HOk P w H h)(e:h.objs.size<=a):H a=none:=by
 cases q:H a with
 |none=>rfl
 |some u=>exact absurd (xbm (x.lt q) e) (xhh _)
theorem HOk.kept{h':Heap}(x:HOk P w H h)(k:∀b u,h.get? b=some u->h'.get? b=some u):HOk P w H h':=λa o e=>
 (x a o e).stay (λb u _ q=>k b u q) (λ_ q=>q) λ_ _ q=>q
section
variable {P:Program}{w:World}{H:Hp}{h:Heap}{h':Heap}{a:Addr}{o:HO}
theorem HOk.laid(x:HOk P w H h)(k:∀b u,h.get? b=some u->h'.get? b=some u)(g:h.objs.size<=a)(d:ObjOk P w (upd H a o) h' a o):HOk P w (upd H a o) h':=λb u e=>by
 have f:=x.fresh g;by_cases hb:b=a
 ·subst hb;rw[zp] at e;cases e;exact d
 ·rw[zo hb] at e;exact(x b u e).stay (λc v _ q=>k c v q) (λc q=>by rw[zo (zk q f)];exact q) λc i q=>by rw[zo (zk q f)];exact q
end
def Rd(H:Hp) (a:Addr) (u:HO):Prop:=H a=some u\/∃o,H a=some (.frz o u)
theorem Rd.ok(r:Rd H a u)(x:HOk P w H h):ObjOk P w H h a u:=by
 rcases r with r|⟨o,r⟩
 ·exact x a u r
 ·obtain⟨_,q⟩:=x a _ r;exact q
noncomputable def Mut:Option HO->Prop
 |some (.lst _)=>True
 |some (.dK _)=>True
 |some (.dT _)=>True
 |some (.set _ _)=>True
 |some (.ins _ _ _)=>True
 |some (.ext _)=>True
 |_=>False
theorem HOk.write{h':Heap}(o:HOk P w H h)(f:Mut (H x))(l:e=x\/H e=some (.own x))(k:∀b u,b≠e->h.get? b=some u->h'.get? b=some u)(i:∃u,h'.get? e=some u)
  (j:ObjOk P w (upd H x o') h' x o'):HOk P w (upd H x o') h':=λb u q=>by
 have a:∀c y,H c=some (.own y)->c≠x:=λc y r z=>by subst z;rw[r] at f;exact f
 have d:∀c g,H c=some (.tup g)->c≠x:=λc g r z=>by subst z;rw[r] at f;exact f
 by_cases hb:b=x
 ·subst hb;rw[zp] at q;cases q;exact j
 ·rw[zo hb] at q;by_cases hbe:b=e
  ·have m:H b=some (.own x):=by
    rcases l with z|z
    ·exact absurd (hbe.trans z) hb
    ·rw[hbe];exact z
   rw[q] at m;cases m
   obtain⟨v,n⟩:=i;exact⟨v,by rw[hbe];exact n⟩
  ·refine(o b u q).stay (λc v hc r=>k c v ?_ r) (λc r=>by rw[zo (a c b r)];exact r) λc g r=>by rw[zo (d c g r)];exact r
   rcases hc with rfl|hc
   ·exact hbe
   ·rintro rfl;rcases l with z|z
    ·exact a c b hc z
    ·rw[hc] at z;cases z;exact hb rfl
structure Un (fs ex:List Addr) (H H':Hp) (h h':Heap):Prop where
 keep:∀b o,h.get? b=some o->H b=none->b∉fs->b∉ex->h'.get? b=some o
 slot:∀b o,h.get? b=some o->H b=none->b∈fs->b∉ex->∃sl,h'.get? b=some {o with slots:=sl}
 free:∀b o,h.get? b=some o->H b=none->b∉ex->H' b=none
 there:∀b o,h.get? b=some o->b∉ex->∃o',h'.get? b=some o'
 tups:∀b xs,H b=some (.tup xs)->H' b=some (.tup xs)
 frzs:∀b o u,H b=some (.frz o u)->H' b=some (.frz o u)
 tbls:∀b ps,H b=some (.tbl ps)->∃more,H' b=some (.tbl (ps++more))
theorem Un.any(u:Un fs ex H H1 h h1) (q:h.get? b=some ob)(n:H b=none)(a:b∉ex):∃c,h1.get? b=some {ob with slots:=c}:=by
 by_cases hb:b∈fs
 ·exact u.slot b ob q n hb a
 ·exact⟨ob.slots,u.keep b ob q n hb a⟩
theorem Un.kept{h:Heap}{h':Heap}(k:∀b u,h.get? b=some u->h'.get? b=some u):Un fs ex H H h h':=
 ⟨λb a q _ _ _=>k b a q,λb a q _ _ _=>⟨a.slots,k b a q⟩,λ_ _ _ n _=>n,λb a q _=>⟨a,k b a q⟩,λ_ _ q=>q,λ_ _ _ q=>q,λ_ c q=>⟨#[],by rw[q];simp⟩⟩
theorem Un.refl:Un fs ex H H h h:=Un.kept λ_ _ q=>q
section
variable {fs:List Addr}{ex:List Addr}{H:Hp}{h:Heap}{h':Heap}{a:Addr}{o:HO}
theorem Un.laid(k:∀b u,h.get? b=some u->h'.get? b=some u)(e:h.objs.size<=a)(c:H a=none):Un fs ex H (upd H a o) h h' where
 keep:=λb u q _ _ _=>k b u q
 slot:=λb u q _ _ _=>⟨u.slots,k b u q⟩
 free:=λb u q n _=>by rw[zo (xch (xbm (xbz q) e))];exact n
 there:=λb u q _=>⟨u,k b u q⟩
 tups:=λb d q=>by rw[zo (zk q c)];exact q
 frzs:=λb u d q=>by rw[zo (zk q c)];exact q
 tbls:=λb f q=>⟨#[],by rw[zo (zk q c),q];simp⟩
end
theorem Un.write{h:Heap}{h':Heap}(a:Mut (H x))(j:e=x\/H e=some (.own x))(k:∀b u,b≠e->h.get? b=some u->h'.get? b=some u)(d:∃u,h'.get? e=some u):Un fs ex H (upd H x o) h h':=by
 have f:∀b,H b=none->b≠x:=λb n z=>by subst z;rw[n] at a;exact a
 have g:∀b,H b=none->b≠e:=λb n z=>by
  subst z;rcases j with r|r
  ·exact f b n r
  ·rw[n] at r;cases r
 have c:∀b u,H b=some u->¬ Mut (some u)->b≠x:=λb u q i z=>by subst z;rw[q] at a;exact i a
 refine⟨λb u q n _ _=>k b u (g b n) q,λb u q n _ _=>⟨u.slots,k b u (g b n) q⟩,λb u q n _=>by rw[zo (f b n)];exact n,λb u q _=>?_,
  λb l q=>by rw[zo (c b _ q λz=>z)];exact q,λb u l q=>by rw[zo (c b _ q λz=>z)];exact q,λb m q=>⟨#[],by rw[zo (c b _ q λz=>z),q];simp⟩⟩
 by_cases hbe:b=e
 ·subst hbe;exact d
 ·exact⟨u,k b u hbe q⟩
def trk(h:Heap) (H:Hp):List Addr:=(List.range h.objs.size).filter λa=>(H a).isSome
def hidT(h:Heap) (H:Hp):Heap:=W.hideAll h (trk h H)
theorem zbam(h:Heap)(H:Hp):(hidT h H).objs.size=h.objs.size:=W.hideAll_size _ _
theorem zbhi{h:Heap}(e:h.get? b=some o)(n:H b=none):(hidT h H).get? b=some o:=
 W.hideAll_get _ e λa=>by
  have q:(H b).isSome=true:=(xcn.mp a).2;rw[n] at q;simp at q
theorem zbmx(e:(hidT h H).get? b=some o):h.get? b=some o/\H b=none:=by
 have a:h.get? b=some o:=W.of_hideAll (trk h H) e;refine⟨a,?_⟩;cases q:H b with
 |none=>rfl
 |some x=>
  have c:b∈trk h H:=xcn.mpr ⟨xbn.mpr (xbz a),by simp[q]⟩;have z:(hidT h H).get? b=none:=W.hideAll_none (trk h H) c;rw[z] at e;cases e
structure Mod (K:Fg) (mg:Str->Option Value) (base:Heap):Prop where
 kin:K.In base
 glob:base.Ns mainGlobals mg
 blt:∃ mb,base.Ns builtinsNs mb/\∀ x:Str,x≠"__name__"->mb x=bootBuiltins x
 nolimit:base.NoLimit
structure Cx where
 prog:Program
 w:World
 K:Fg
 mg:Str->Option Value
 base:Heap
 A:Around
 N:List Str
 s₀:Shared
 H₀:Hp
 env:Env
 outer:List Env
 stack:List Env
 ex:List Addr
 fn:Str->Bool
 calm:Bool
 pn:List (Addr×Obj)
 xe:Value->Shared->Prop
noncomputable def frs(l:List Env):List Addr:=l.filterMap (·.frame)
abbrev Cx.fs(X:Cx):List Addr:=frs X.outer
noncomputable def Vis(a:Scope) (x:Str):Prop:=a.names.lookup x=some .local\/a.names.lookup x=some .cell\/a.names.lookup x=some .free
noncomputable def Loc(a:Scope) (x:Str):Prop:=a.names.lookup x=some .local\/a.names.lookup x=some .cell
noncomputable def Look(a:Env) (h:Heap) (m:Str->Option Value) (x:Str) (u:Value):Prop:=
 (a.kindOf x=some .local/\m x=some u)\/((a.kindOf x=some .cell\/a.kindOf x=some .free)/\∃c,a.cells.lookup x=some c/\h.IsCell c (some u))
structure Cx.Ok (X:Cx):Prop where
 mod:Mod X.K X.mg X.base
 kind:X.env.scope.kind=.function
 glob:X.env.globals=mainGlobals
 blt:X.env.builtins=builtinsNs
 above:X.s₀.heap.objs.size<=X.env.locals
 inj:∀x y c,X.env.cells.lookup x=some c->X.env.cells.lookup y=some c->x=y
 has:∀x,(X.env.kindOf x=some .cell\/X.env.kindOf x=some .free)->∃c,X.env.cells.lookup x=some c
 cab:∀x c,X.fn x=true->X.env.cells.lookup x=some c->X.s₀.heap.objs.size<=c
 hd:X.calm=true->X.A.handled=none
 frames:X.A.frames=some X.stack
 stk:X.stack=X.outer\/(X.stack=X.env::X.outer/\X.env.frame=some X.env.locals)
 exf:∀b∈X.ex,b≠X.env.locals/\∀x c,X.env.cells.lookup x=some c->c≠b
 bs:∀b o,X.base.get? b=some o->X.s₀.heap.get? b=some o/\X.H₀ b=none
 bsz:X.base.objs.size<=X.s₀.heap.objs.size
 noex:∀b o,X.base.get? b=some o->b∉X.ex
 exfs:∀b∈X.ex,b∉X.fs
 funs:X.s₀.heap.FunFrames X.base X.outer
 frf:∀b∈X.fs,X.H₀ b=none
def Hnd(A:Around) (H:Hp):Prop:=∀v,A.handled=some v->∃a o,v=.ref a/\H a=some (.frz o (.ext λ_=>True))/\∃b,o.data=.fields b/\b[2]?=some .none
theorem Hnd.map(h:Hnd A H)(f:∀b o u,H b=some (.frz o u)->H' b=some (.frz o u)):Hnd A H':=λv e=>let ⟨a,o,h1,h2,h3⟩:=h v e;⟨a,o,h1,f _ _ _ h2,h3⟩
theorem Hnd.none{A:Around}(h:A.handled=.none):Hnd A H:=λv e=>by rw[h] at e;cases e
structure Inv (X:Cx) (aU:List (Addr×Obj)) (σ:List (Option V)) (H:Hp) (s:Shared):Prop where
 ok:X.Ok
 os:s.os=X.s₀.os
 bare:AllBare s.gens
 base:Un X.fs X.ex X.H₀ H X.s₀.heap s.heap
 loc:∃m,s.heap.Ns X.env.locals m/\∀(i:Nat) (x:Str) (v:V),X.N[i]?=some x->σ[i]?=some (some v)->Vis X.env.scope x->∃u,RelV v u/\Look X.env s.heap m x u
 cell:∀x c,X.env.cells.lookup x=some c->∃v,s.heap.IsCell c v
 free:H X.env.locals=none
 freeC:∀x c,X.env.cells.lookup x=some c->H c=none
 pin:∀p∈X.pn++aU,s.heap.get? p.1=some p.2/\H p.1=none/\p.1≠X.env.locals/\p.1∉X.fs/\∀v,p.2.data≠.cell v
 hok:HOk X.prog X.w H s.heap
 len:σ.length=X.N.length
 hnd:Hnd X.A H
theorem Cx.Ok.nofr{X:Cx}(c:X.Ok) (e:X.base.get? b=some o):b∉X.fs:=λa=>by
 have:=(c.funs.mem a).1;rw[e] at this;cases this
theorem Inv.bs(I:Inv X aU σ H s):∀b o,X.base.get? b=some o->s.heap.get? b=some o/\H b=none:=λb o e=>
 ⟨I.base.keep b o (I.ok.bs b o e).1 (I.ok.bs b o e).2 (I.ok.nofr e) (I.ok.noex b o e),I.base.free b o (I.ok.bs b o e).1 (I.ok.bs b o e).2 (I.ok.noex b o e)⟩
theorem Inv.bk(I:Inv X aU σ H s):∀b o,X.base.get? b=some o->s.heap.get? b=some o:=λb o e=>(I.bs b o e).1
theorem Inv.mod(I:Inv X aU σ H s):Mod X.K X.mg X.base:=I.ok.mod
theorem Inv.kIn(I:Inv X aU σ H s):X.K.In s.heap:=I.ok.mod.kin.keeps I.bk
theorem Inv.lt(I:Inv X aU σ H s):X.env.locals<s.heap.objs.size:=let ⟨_,hn,_⟩:=I.loc;hn.lt
theorem Inv.sz(I:Inv X aU σ H s):X.s₀.heap.objs.size<=s.heap.objs.size:=xbc I.ok.above (xcg I.lt)
theorem Inv.nofs(I:Inv X aU σ H s) (h:s.heap.objs.size<=a):a∉X.fs:=λb=>by
 obtain⟨_,o,c,_⟩:=I.ok.funs.mem b;exact absurd (xbm (xbz c) (xbc I.sz h)) (xhh _)
theorem Inv.cne(I:Inv X aU σ H s):∀x c,X.env.cells.lookup x=some c->c≠X.env.locals:=λx c e z=>by
 obtain⟨v,o,f,d⟩:=I.cell x c e;obtain⟨m,⟨h,g,i,b,a,_⟩,_⟩:=I.loc;rw[z,b] at f;cases f;rw[a] at d;cases d
theorem Inv.funs(I:Inv X aU σ H s):s.heap.FunFrames X.base X.outer:=by
 have c:∀(l:List Env),(∀b∈frs l,b∈X.fs)->X.s₀.heap.FunFrames X.base l->s.heap.FunFrames X.base l:=by
  intro l
  induction l with
  |nil=>intro _ _;trivial
  |cons env r ih=>
   intro g h;obtain⟨k,⟨L,o,d,i,n,m⟩,j⟩:=h;have a:L∈X.fs:=g L (by unfold frs;rw[xmj,d];exact xbv);obtain⟨p,e⟩:=I.base.slot L o n (I.ok.frf L a) a λz=>I.ok.exfs L z a
   exact⟨k,⟨L,_,d,i,e,m⟩,ih (λb f=>g b (by unfold frs;rw[xmj,d];exact xbf _ f)) j⟩
 exact c X.outer (λ_ f=>f) I.ok.funs
theorem Inv.stack(I:Inv X aU σ H s):s.heap.FunFrames X.base X.stack:=by
 rcases I.ok.stk with e|⟨e,a⟩
 ·rw[e];exact I.funs
 ·rw[e];obtain⟨m,b,_⟩:=I.loc;refine .cons (by rw[I.ok.kind];decide) a b ?_ I.funs;exact Heap.get?_none_of_le (xbc I.ok.bsz I.ok.above)
theorem Inv.stkSub(I:Inv X aU σ H s):∀b∈frs X.stack,b∈X.env.locals::X.fs:=λb a=>by
 rcases I.ok.stk with e|⟨e,c⟩
 ·rw[e] at a;exact xbf _ a
 ·rw[e] at a;unfold frs at a;rw[xmj,c] at a;exact a
theorem Inv.stkFree(I:Inv X aU σ H s):∀b∈frs X.stack,H b=none:=λb hb=>by
 rcases xbl.mp (I.stkSub b hb) with e|hb
 ·rw[e];exact I.free
 ·obtain⟨_,o,a,_⟩:=I.ok.funs.mem hb;exact I.base.free b o a (I.ok.frf b hb) λz=>I.ok.exfs b z hb
section
variable {X:Cx}{aU:List (Addr×Obj)}{σ:List (Option V)}{H:Hp}{H':Hp}{s:Shared}{h':Heap}
theorem Inv.step{g':Array GenState}{t':Nat}{d':Drawn}{ch:List Addr}(I:Inv X aU σ H s)
  (h:∀b∈ch,(b∈X.ex\/X.s₀.heap.objs.size<=b)/\b≠X.env.locals/\(∀x c,X.env.cells.lookup x=some c->c≠b)/\∀p∈X.pn++aU,p.1≠b)
  (t:∀b o,b≠X.env.locals->b∉X.fs->b∉ch->s.heap.get? b=some o->H b=none->h'.get? b=some o)
  (A:∀b o,b≠X.env.locals->b∈X.fs->b∉ch->s.heap.get? b=some o->H b=none->∃sl,h'.get? b=some {o with slots:=sl})(f:∀b o,b∉ch->s.heap.get? b=some o->H b=none->H' b=none)
  (J:∀b o,b∉ch->s.heap.get? b=some o->∃S,h'.get? b=some S)
  (Q:∀b E,H b=some (.tup E)->H' b=some (.tup E))(C:∀b o u,H b=some (.frz o u)->H' b=some (.frz o u))(U:∀b ps,H b=some (.tbl ps)->∃a0,H' b=some (.tbl (ps++a0)))
  (ns:∀m,s.heap.Ns X.env.locals m->h'.Ns X.env.locals m)(a3:HOk X.prog X.w H' h')(hg:AllBare g'):
  Inv X aU σ H' {s with heap:=h',gens:=g',drawn:=d',toks:=t'}:=by
 have a1:∀b o,X.s₀.heap.get? b=some o->b≠X.env.locals:=λb o e=>xch (xbm (xbz e) I.ok.above)
 have y:∀b o,X.s₀.heap.get? b=some o->b∉X.ex->b∉ch:=λb o e a G=>by
  rcases(h b G).1 with z|z
  ·exact a z
  ·exact absurd (xbm (xbz e) z) (xhh _)
 have g:∀x c,X.env.cells.lookup x=some c->∀v,s.heap.IsCell c v->h'.IsCell c v:=λx c e v a2=>by
  obtain⟨o,P,hd⟩:=a2;have j:c∉ch:=λz=>(h c z).2.2.1 x c e rfl
  by_cases hc:c∈X.fs
  ·obtain⟨sl,q⟩:=A c o (I.cne x c e) hc j P (I.freeC x c e);exact⟨_,q,hd⟩
  ·exact⟨o,t c o (I.cne x c e) hc j P (I.freeC x c e),hd⟩
 refine⟨I.ok,I.os,hg,⟨λb o e n G a=>?_,λb o e n G a=>?_,λb o e n a=>?_,λb o e a=>?_,λb E e=>Q b E (I.base.tups b E e),λb o E e=>C b o E (I.base.frzs b o E e),λb ps e=>?_⟩,?_,λx c e=>?_,?_,λx c e=>?_,λp hp=>?_,a3,I.len,I.hnd.map C⟩
 ·exact t b o (a1 b o e) G (y b o e a) (I.base.keep b o e n G a) (I.base.free b o e n a)
 ·obtain⟨sl,w⟩:=I.base.slot b o e n G a;obtain⟨a4,Y⟩:=A b _ (a1 b o e) G (y b o e a) w (I.base.free b o e n a);exact⟨a4,Y⟩
 ·obtain⟨S,w⟩:=I.base.there b o e a;exact f b S (y b o e a) w (I.base.free b o e n a)
 ·obtain⟨S,w⟩:=I.base.there b o e a;exact J b S (y b o e a) w
 ·obtain⟨m1,w⟩:=I.base.tbls b ps e;obtain⟨m2,Y⟩:=U b _ w;exact⟨m1++m2,by rw[Y,Array.append_assoc]⟩
 ·obtain⟨m,hn,hl⟩:=I.loc;refine⟨m,ns m hn,λi x v w Y e3=>?_⟩;obtain⟨u,r,l⟩:=hl i x v w Y e3;refine⟨u,r,?_⟩;rcases l with l|⟨k,c,e,z⟩
  ·exact .inl l
  ·exact .inr ⟨k,c,e,g x c e _ z⟩
 ·obtain⟨v,z⟩:=I.cell x c e;exact⟨v,g x c e v z⟩
 ·obtain⟨m,⟨o,_,_,P,_⟩,_⟩:=I.loc;exact f _ o (λz=>(h _ z).2.1 rfl) P I.free
 ·obtain⟨v,o,P,hd⟩:=I.cell x c e;exact f c o (λz=>(h c z).2.2.1 x c e rfl) P (I.freeC x c e)
 ·obtain⟨e,n,ne,nf,d⟩:=I.pin p hp;have j:p.1∉ch:=λz=>(h p.1 z).2.2.2 p hp rfl
  exact⟨t p.1 p.2 ne nf j e n,f p.1 p.2 j e n,ne,nf,d⟩
theorem Inv.un{t':Nat}(I:Inv X aU σ H s)(u:Un X.fs [] H H' s.heap h')(d:HOk X.prog X.w H' h'):Inv X aU σ H' {s with heap:=h',toks:=t'}:=by
 obtain⟨m,⟨o,p,v,h,r⟩,_⟩:=id I.loc;obtain⟨l,i⟩:=u.any h I.free (by simp)
 exact I.step (g':=s.gens) (d':=s.drawn) (ch:=[]) (λ_ z=>nomatch z) (λb o _ f _ e n=>u.keep b o e n f (by simp)) (λb o _ f _ e n=>u.slot b o e n f (by simp)) (λb o _ e n=>u.free b o e n (by simp)) (λb o _ e=>u.there b o e (by simp)) u.tups u.frzs u.tbls (λt k=>by
  obtain⟨q,c,g,a,j⟩:=k;rw[h] at a;cases a
  exact⟨_,c,g,i,j⟩) d I.bare
theorem Inv.call{g':Array GenState}{t':Nat}{d':Drawn}{ch:List Addr}(I:Inv X aU σ H s)(u:Un (frs X.stack) ch H H' s.heap h')(i:HOk X.prog X.w H' h')(l:AllBare g')
  (d:∀b∈ch,(b∈X.ex\/X.s₀.heap.objs.size<=b)/\b≠X.env.locals/\(∀x c,X.env.cells.lookup x=some c->c≠b)/\∀p∈X.pn++aU,p.1≠b):
  Inv X aU σ H' {s with heap:=h',gens:=g',drawn:=d',toks:=t'}:=by
 obtain⟨m,⟨o,y,E,k,r⟩,_⟩:=id I.loc;obtain⟨w,h⟩:=u.any k I.free λz=>(d _ z).2.1 rfl
 exact I.step (ch:=ch) d (λb o h t a e n=>u.keep b o e n (λz=>(xbl.mp (I.stkSub b z)).elim h t) a) (λb o _ _ a e n=>u.any e n a) (λb o a e n=>u.free b o e n a) (λb o a e=>u.there b o e a) u.tups u.frzs u.tbls (λC v=>by
  obtain⟨A,g,j,f,q⟩:=v;rw[k] at f;cases f
  exact⟨_,g,j,h,q⟩) i l
end
section
variable {X:Cx}{aU:List (Addr×Obj)}{σ:List (Option V)}{H:Hp}{s:Shared}{h':Heap}
theorem Inv.turned{t':Nat}{it:Addr}(I:Inv X aU σ H s)(k:∀b o,b≠it->s.heap.get? b=some o->h'.get? b=some o)(i:H it=none)(f:it≠X.env.locals)
  (y:it∈X.ex\/X.s₀.heap.objs.size<=it)(h:∀x c,X.env.cells.lookup x=some c->c≠it)(l:∀p∈X.pn++aU,p.1≠it):Inv X aU σ H {s with heap:=h',toks:=t'}:=by
 have d:∀b u,H b=some u->b≠it:=λb u e z=>by rw[z,i] at e;cases e
 refine I.step (g':=s.gens) (d':=s.drawn) (ch:=[it]) (λb w=>?_) (λb o _ _ a e _=>k b o (λz=>a (by simp[z])) e) (λb o _ _ a e _=>⟨o.slots,k b o (λz=>a (by simp[z])) e⟩) (λ_ _ _ _ n=>n)
  (λb o a e=>⟨o,k b o (λz=>a (by simp[z])) e⟩) (λ_ _ e=>e) (λ_ _ _ e=>e) (λb C e=>⟨#[],by rw[e];simp⟩) (λm g=>?_) (λb u e=>?_) I.bare
 ·have e:b=it:=by simpa using w
  subst e;exact⟨y,f,h,l⟩
 ·obtain⟨o,j,t,A,r⟩:=g;exact⟨o,j,t,k _ o (xdj f) A,r⟩
 ·refine(I.hok b u e).stay (λc v a q=>k c v ?_ q) (λ_ q=>q) λ_ _ q=>q
  rcases a with z|z
  ·rw[z];exact d b u e
  ·exact d c _ z
end
theorem Inv.tok(I:Inv X aU σ H s)(t:Nat):Inv X aU σ H {s with toks:=t}:=I.un (h':=s.heap) (t':=t) Un.refl I.hok
theorem Inv.kept{h':Heap}(I:Inv X aU σ H s)(k:∀b u,s.heap.get? b=some u->h'.get? b=some u):Inv X aU σ H {s with heap:=h',toks:=t'}:=I.un (Un.kept k) (I.hok.kept k)
theorem Inv.laid{e:Heap}(I:Inv X aU σ H s)(k:∀b u,s.heap.get? b=some u->e.get? b=some u)(d:s.heap.objs.size<=a)(c:ObjOk X.prog X.w (upd H a o) e a o):
 Inv X aU σ (upd H a o) {s with heap:=e,toks:=t'}:=I.un (Un.laid k d (I.hok.fresh d)) (I.hok.laid k d c)
theorem Inv.write{c:Heap}(I:Inv X aU σ H s)(g:Mut (H x))(f:e=x\/H e=some (.own x))(k:∀b u,b≠e->s.heap.get? b=some u->c.get? b=some u)(a:∃u,c.get? e=some u)
 (d:ObjOk X.prog X.w (upd H x o) c x o):Inv X aU σ (upd H x o) {s with heap:=c,toks:=t'}:=I.un (Un.write g f k a) (I.hok.write g f k a d)
theorem Inv.pins_of(I:Inv X aU σ H s)(h:∀p∈a,s.heap.get? p.1=some p.2/\H p.1=none/\p.1≠X.env.locals/\p.1∉X.fs/\∀v,p.2.data≠.cell v):Inv X a σ H s:=
 ⟨I.ok,I.os,I.bare,I.base,I.loc,I.cell,I.free,I.freeC,λp b=>(xce.mp b).elim (λz=>I.pin p (xhd _ z)) (h p),I.hok,I.len,I.hnd⟩
theorem zvp{N:List Str}(d:N.Nodup){i j:Nat}{x:Str}(a:N[i]?=some x)(b:N[j]?=some x):i=j:=by
 obtain⟨g,e⟩:=xbd.mp a;obtain⟨f,c⟩:=xbd.mp b;exact(xnl d).mp (e.trans c.symm)
theorem zqd{s:Shared}{M:Model}{i:Nat}{x:Str}(I:Inv X aU σ H s)(hN:X.N.Nodup)(S:X.N[i]?=some x)(t:Loc X.env.scope x)(r:RelV v u)
  (h:∀s',Inv X aU (σ.set i (some v)) H s'->(∃a,Heap.SameBut a s.heap s'.heap/\(a=X.env.locals\/X.env.cells.lookup x=some a))->Q () s')(hf:X.fn x=true\/X.env.scope.names.lookup x=some .local:=by first|exact .inl rfl|exact .inr rfl|assumption):wpAny M A (storeName X.env x u) Q E s:=by
 obtain⟨m,hn,hl⟩:=id I.loc;have a0:(X.env.scope.kind==.class||(X.env.scope.kind==.module&&X.env.locals != X.env.globals))=false:=by rw[I.ok.kind];rfl
 have Y:i < σ.length:=by rw[I.len];exact(xbd.mp S).1
 have G:=I.cne;have l:∀{a:Addr}{h':Heap},(∃o,s.heap.get? a=some o/\H a=none)->Heap.SameBut a s.heap h'->HOk X.prog X.w H h':=λ{a h'} ha f b ob e=>by
  obtain⟨_,_,w⟩:=ha;refine(I.hok b ob e).stay (λc w' hc q=>(f.2 c ?_).trans q) (λ_ q=>q) λ_ _ q=>q
  rintro rfl;rcases hc with rfl|hc
  ·rw[w] at e;cases e
  ·rw[w] at hc;cases hc
 rcases t with hk|hk
 ·refine wpAny_storeName_local hk hn (λh' a3 f=>?_) a0;obtain⟨oL,_,_,a4,_⟩:=id hn;refine h _ ⟨I.ok,I.os,I.bare,⟨λb o e n J t=>?_,λb o e n J t=>?_,I.base.free,λb o e t=>?_,I.base.tups,I.base.frzs,I.base.tbls⟩,⟨_,a3,λj y v' g C e3=>?_⟩,λy c e=>?_,I.free,I.freeC,λp hp=>?_,l ⟨oL,a4,I.free⟩ f,by simpa using I.len,I.hnd⟩ ⟨_,f,.inl rfl⟩
  ·exact(f.2 b (xch (xbm (xbz e) I.ok.above))).trans (I.base.keep b o e n J t)
  ·obtain⟨sl,g⟩:=I.base.slot b o e n J t;exact⟨sl,(f.2 b (xch (xbm (xbz e) I.ok.above))).trans g⟩
  ·obtain⟨o',g⟩:=I.base.there b o e t;exact⟨o',(f.2 b (xch (xbm (xbz e) I.ok.above))).trans g⟩
  ·by_cases hj:j=i
   ·subst hj;rw[S] at g;cases g
    rw[xfe Y] at C;cases C;exact⟨u,r,.inl ⟨hk,by simp⟩⟩
   ·rw[xbx (xdj hj)] at C;obtain⟨u',r',q⟩:=hl j y v' g C e3;refine⟨u',r',?_⟩;rcases q with⟨k,e⟩|⟨k,c,e,z⟩
    ·refine .inl ⟨k,?_⟩;have:y≠x:=λe=>hj (zvp hN g (e ▸ S))
     simp[this,e]
    ·exact .inr ⟨k,c,e,z.sameBut f (G y c e)⟩
  ·obtain⟨w',z⟩:=I.cell y c e;exact⟨w',z.sameBut f (G y c e)⟩
  ·obtain⟨e,n,ne,nf,d⟩:=I.pin p hp;exact⟨(f.2 p.1 ne).trans e,n,ne,nf,d⟩
 ·have P:X.fn x=true:=by
   rcases hf with z|z
   ·exact z
   ·rw[z] at hk;cases hk
  obtain⟨c,hc⟩:=I.ok.has x (.inl hk);obtain⟨w',z⟩:=I.cell x c hc;refine wpAny_storeName_cell I.ok.kind hk hc z (λh' U f=>?_);obtain⟨oc,a2,a1⟩:=id z;refine h {s with heap:=h'} ⟨I.ok,I.os,I.bare,⟨λb o e n J t=>?_,λb o e n J t=>?_,I.base.free,λb o e t=>?_,I.base.tups,I.base.frzs,I.base.tbls⟩,⟨m,hn.sameBut f (xdj (G x c hc)),λj y v' g C e3=>?_⟩,λy c' e=>?_,I.free,I.freeC,λp hp=>?_,l ⟨oc,a2,I.freeC x c hc⟩ f,by simpa using I.len,I.hnd⟩ ⟨c,f,.inr hc⟩
  ·exact(f.2 b (xch (xbm (xbz e) (I.ok.cab x c P hc)))).trans (I.base.keep b o e n J t)
  ·obtain⟨sl,g⟩:=I.base.slot b o e n J t;exact⟨sl,(f.2 b (xch (xbm (xbz e) (I.ok.cab x c P hc)))).trans g⟩
  ·obtain⟨o',g⟩:=I.base.there b o e t;exact⟨o',(f.2 b (xch (xbm (xbz e) (I.ok.cab x c P hc)))).trans g⟩
  ·by_cases hj:j=i
   ·subst hj;rw[S] at g;cases g
    rw[xfe Y] at C;cases C;exact⟨u,r,.inr ⟨.inl hk,c,hc,U⟩⟩
   ·rw[xbx (xdj hj)] at C;obtain⟨u',r',q⟩:=hl j y v' g C e3;refine⟨u',r',?_⟩;rcases q with q|⟨k,c',e,z'⟩
    ·exact .inl q
    ·refine .inr ⟨k,c',e,z'.sameBut f ?_⟩;rintro rfl;exact hj (zvp hN g (I.ok.inj _ _ _ e hc ▸ S))
  ·by_cases hcc:c'=c
   ·subst hcc;exact⟨_,U⟩
   ·obtain⟨w2,z2⟩:=I.cell y c' e;exact⟨w2,z2.sameBut f hcc⟩
  ·obtain⟨e,n,ne,nf,d⟩:=I.pin p hp;refine⟨(f.2 p.1 ?_).trans e,n,ne,nf,d⟩;intro q;rw[q,a2] at e;have q':oc=p.2:=xcz e;exact d w' (by rw[←q'];exact a1)
theorem zod{M:Model}(I:Inv X aU σ H s)(c:X.N.Nodup)(d:X.N[i]?=some x)(f:Loc X.env.scope x)(r:RelV v u)
  (h:∀a,Inv X aU (σ.set i (some v)) H a->Q () a)(e:X.fn x=true\/X.env.scope.names.lookup x=some .local:=by first|exact .inl rfl|exact .inr rfl|assumption):wpAny M A (storeName X.env x u) Q E s:=
 zqd I c d f r (λa b _=>h a b) e
theorem Inv.call'{s':Shared}{j:List Addr}(I:Inv X g σ H s)(m:s'.os=s.os)(u:Un (frs X.stack) j H H' s.heap s'.heap)(a:HOk X.prog X.w H' s'.heap)(k:AllBare s'.gens)
  (d:∀b∈j,(b∈X.ex\/X.s₀.heap.objs.size<=b)/\b≠X.env.locals/\(∀x c,X.env.cells.lookup x=some c->c≠b)/\∀p∈X.pn++g,p.1≠b):Inv X g σ H' s':=by
 obtain⟨n,i,h,f,l⟩:=s';have e:l=s.os:=m;subst e;exact I.call (g':=i) (t':=f) (d':=h) u a k d
abbrev XK:=Value->Option Addr->Hp->Prop
noncomputable abbrev St:=List (Option V)
abbrev VK:=V->Hp->Prop
abbrev TE:=St->Hp->VK->Prop
abbrev TT:=St->Hp->(Bool->Hp->Prop)->Prop
abbrev TA:=St->Hp->(List V->Hp->Prop)->Prop
structure Ends where
 nx:St->Hp->Prop
 rt:VK
 bk:St->Hp->Prop:=λ_ _=>False
 ct:St->Hp->Prop:=λ_ _=>False
abbrev TS:=Ends->St->Hp->Prop
def EP(X:Cx) (c:List (Addr×Obj)) (σ:St) (Q:VK) (u:Value) (b:Shared):Prop:=∃v a,Inv X c σ a b/\RelV v u/\Q v a
def TP(X:Cx) (d:List (Addr×Obj)) (σ:St) (Q:Bool->Hp->Prop) (b:Bool) (c:Shared):Prop:=∃a,Inv X d σ a c/\Q b a
def AP(X:Cx) (d:List (Addr×Obj)) (σ:St) (Q:List V->Hp->Prop) (c:List Value) (e:Shared):Prop:=∃b a,Inv X d σ a e/\Vals b c/\Q b a
def SP(X:Cx) (d:List (Addr×Obj)) (D:Ends) (f:Flow) (c:Shared):Prop:=
 match f with
 |.next=>∃b a,Inv X d b a c/\D.nx b a
 |.brk=>∃b a,Inv X d b a c/\D.bk b a
 |.cont=>∃b a,Inv X d b a c/\D.ct b a
 |.ret u=>∃v b a,Inv X d b a c/\RelV v u/\D.rt v a
def PE(X:Cx) (e:Expr) (t:TE):Prop:=
 ∀(a:List (Addr×Obj)) (s:Shared) (σ:St) (H:Hp) (Q:VK),Inv X a σ H s->t σ H Q->wpAny (model X.prog X.w) X.A (eval e X.env) (EP X a σ Q) X.xe s
def PT(X:Cx) (e:Expr) (t:TT):Prop:=
 ∀(a:List (Addr×Obj)) (s:Shared) (σ:St) (H:Hp) (Q:Bool->Hp->Prop),Inv X a σ H s->t σ H Q->wpAny (model X.prog X.w) X.A (isTrue e X.env (eval e X.env)) (TP X a σ Q) X.xe s
def PW(X:Cx) (e:Expr) (t:TT):Prop:=
 ∀(a:Sem Value) (b:List (Addr×Obj)) (s:Shared) (σ:St) (H:Hp) (Q:Bool->Hp->Prop),Inv X b σ H s->t σ H Q->wpAny (model X.prog X.w) X.A (isTrue e X.env a) (TP X b σ Q) X.xe s
theorem PW.pt(h:PW X e t):PT X e t:=h _
def PA(X:Cx) (c:List Expr) (t:TA):Prop:=
 ∀(a:Pos) (b:List (Addr×Obj)) (s:Shared) (σ:St) (H:Hp) (Q:List V->Hp->Prop),Inv X b σ H s->t σ H Q->wpAny (model X.prog X.w) X.A (spliced (backTo a (starEach c X.env))) (AP X b σ Q) X.xe s
def PS(X:Cx) (b:Stmt) (t:TS):Prop:=
 ∀(a:List (Addr×Obj)) (s:Shared) (σ:St) (H:Hp) (D:Ends),Inv X a σ H s->t D σ H->wpAny (model X.prog X.w) X.A (exec b X.env) (SP X a D) X.xe s
def PSs(X:Cx) (b:List Stmt) (t:TS):Prop:=
 ∀(a:List (Addr×Obj)) (s:Shared) (σ:St) (H:Hp) (D:Ends),Inv X a σ H s->t D σ H->wpAny (model X.prog X.w) X.A (execs b X.env) (SP X a D) X.xe s
theorem thn{α:Type}{t:Sem α}{Q b:α->Shared->Prop}{M:Model}(h:wpAny M A t Q E s)(c:∀a s,Q a s->b a s):wpAny M A t b E s:=xey h c λ_ _ x=>x
def tVar(i:Nat):TE:=λσ H Q=>∃v,σ[i]?=some (some v)/\Q v H
def tC(v:V):TE:=λ_ H Q=>Q v H
theorem zbsn{X:Cx}(o:X.N[i]?=some x)(q:Vis X.env.scope x)(f:(x==("__debug__" : Str))=false:=by decide)(d:(x==("__classdict__" : Str))=false:=by decide):PE X (.Name x pos) (tVar i):=by
 intro n s σ H Q I h;obtain⟨v,e,h⟩:=h;obtain⟨m,k,j⟩:=I.loc;obtain⟨u,r,l⟩:=j i x v o e q;have b:EP X n σ Q u s:=⟨v,H,I,r,h⟩
 rcases l with⟨hk,p⟩|⟨hk,c,g,a⟩
 ·exact wpAny_Name (wpAny_loadName_local I.ok.kind hk k p b) f
 ·rcases hk with hk|hk
  ·exact wpAny_Name (wpAny_loadName_cell I.ok.kind hk g a b) f
  ·exact wpAny_Name (wpAny_loadName_free I.ok.kind hk g a b d) f
theorem zbsr{i j pos}:PE X (.Constant (.int i) j pos) (tC (.int i)):=λ_ _ _ H _ I h=>wpAny_Constant_int ⟨.int i,H,I.tok _,⟨_,rfl⟩,h⟩
theorem zbxu{b j pos}:PE X (.Constant (.bool b) j pos) (tC (.bl b)):=λ_ _ _ H _ I h=>Constant_bool ⟨.bl b,H,I,rfl,h⟩
noncomputable def Gl(X:Cx) (x:Str):Prop:=X.env.kindOf x=some .globalImplicit
theorem zbdc(I:Inv X aU σ H s)(a:Gl X x)(c:X.mg x=some u)(h:Q u s)
  (b:(x==("__debug__" : Str))=false:=by decide):wpAny (model X.prog X.w) X.A (eval (.Name x pos) X.env) Q E s:=
 Calls.Name_function_global I.ok.kind a (Calls.loadGlobal_global (by rw[I.ok.glob];exact I.mod.glob.keeps I.bk) c h) b
theorem zoz(I:Inv X aU σ H s)(a:Gl X x)(f:X.mg x=none)(g:bootBuiltins x=some u)(h:Q u s)
  (d:x≠"__name__":=by decide)(e:(x==("__debug__" : Str))=false:=by decide):wpAny (model X.prog X.w) X.A (eval (.Name x pos) X.env) Q E s:=by
 obtain⟨i,b,c⟩:=I.mod.blt;exact Calls.Name_function_global I.ok.kind a (Calls.loadGlobal_builtin (by rw[I.ok.glob];exact I.mod.glob.keeps I.bk) f (by rw[I.ok.blt];exact b.keeps I.bk) ((c x d).trans g) h) e
theorem zbmg(a:Gl X x)(c:X.mg x=some u)(r:RelV v u)(b:(x==("__debug__" : Str))=false:=by decide):PE X (.Name x pos) (tC v):=
 λ_ _ _ H _ I h=>zbdc I a c ⟨v,H,I,r,h⟩ b
theorem zvd(a:Gl X x)(d:X.mg x=none)(e:bootBuiltins x=some u)(r:RelV v u)(b:x≠"__name__":=by decide)(c:(x==("__debug__" : Str))=false:=by decide):PE X (.Name x pos) (tC v):=
 λ_ _ _ H _ I h=>zoz I a d e ⟨v,H,I,r,h⟩ b c
def PC(X:Cx) (f:CmpOp) (a b:Expr) (t:TE):Prop:=
 ∀(c:List (Addr×Obj)) (s:Shared) (σ:St) (H:Hp) (Q:VK),Inv X c σ H s->t σ H Q ->
  wpAny (model X.prog X.w) X.A (eval a X.env) (λv e=>wpAny (model X.prog X.w) X.A (eval b X.env) (λu d=>wpAny (model X.prog X.w) X.A (compareOp f v u) (EP X c σ Q) X.xe d) X.xe e) X.xe s
def tB(t:TE):TT:=λσ H Q=>t σ H λx H1=>∃c,x=.bl c/\Q c H1
theorem zbss(h:PC X op a b t)(d:behindInMarks op b=false:=by first|exact nobehind _ (by decide) (by decide)|rfl):PE X (.Compare a [op] [b] pos) t:=λe s σ H Q I c=>wpAny_Compare1 (h e s σ H Q I c) d
section
variable {X:Cx}{a:Expr}{b:Expr}{pos:Pos}
theorem zbsc{e:CmpOp}{t:TE}(h:PC X e a b t)(g:behindInMarks e b=false:=by first|exact nobehind _ (by decide) (by decide)|rfl):PT X (.Compare a [e] [b] pos) (tB t):=by
 intro k s σ H Q I l;refine wpAny_isTrue_Compare1 (thn (h k s σ H _ I l) λv r g=>thn g λu p j=>thn j λc o f=>?_) g;obtain⟨x,H1,n,i,m⟩:=f;obtain⟨d,rfl,q⟩:=m;cases i;exact xfu ⟨H1,n,q⟩
end
def tAnd(t u:TT):TT:=λσ H Q=>t σ H λc H1=>if c=true then u σ H1 Q else Q false H1
def tOr(t u:TT):TT:=λσ H Q=>t σ H λc H1=>if c=true then Q true H1 else u σ H1 Q
def tNot(t:TT):TT:=λσ H Q=>t σ H λc H1=>Q (!c) H1
section
variable {X:Cx}{a:Expr}{pos:Pos}{tA:TT}
theorem pw_and1(b:PT X a tA):PW X (.BoolOp .And [a] pos) tA:=by
 intro g d s σ H Q I h;refine isTrue_and (thn (b d s σ H Q I h) λc f e=>?_);cases c with
 |true=>exact isTrue_and_nil e
 |false=>exact e
theorem pw_or1(b:PT X a tA):PW X (.BoolOp .Or [a] pos) tA:=by
 intro g d s σ H Q I h;refine isTrue_or (thn (b d s σ H Q I h) λc f e=>?_);cases c with
 |false=>exact isTrue_or_nil e
 |true=>exact e
end
section
variable {X:Cx}{a:Expr}{b:Expr}{pos:Pos}{tA:TT}{tB':TT}{rest:List Expr}
theorem pw_and(i:PT X a tA)(l:PW X (.BoolOp .And (b::rest) pos) tB'):PW X (.BoolOp .And (a::b::rest) pos) (tAnd tA tB'):=by
 intro j e s σ H Q I h;refine isTrue_and (thn (i e s σ H _ I h) λc k d=>?_);obtain⟨H1,g,f⟩:=d;cases c with
 |true=>exact l j e k σ H1 Q g f
 |false=>exact⟨H1,g,f⟩
theorem pw_or(i:PT X a tA)(l:PW X (.BoolOp .Or (b::rest) pos) tB'):PW X (.BoolOp .Or (a::b::rest) pos) (tOr tA tB'):=by
 intro j e s σ H Q I h;refine isTrue_or (thn (i e s σ H _ I h) λc k d=>?_);obtain⟨H1,g,f⟩:=d;cases c with
 |true=>exact⟨H1,g,f⟩
 |false=>exact l j e k σ H1 Q g f
end
theorem zbsb(b:PT X a tA):PT X (.UnaryOp .Not a pos) (tNot tA):=by
 intro d s σ H Q I h;exact isTrue_not (b d s σ H (λc H1=>Q (!c) H1) I h)
def tAndV(a tb:TE):TE:=λσ H Q=>a σ H λx H1=>∃c,x=.bl c/\if c=true then tb σ H1 Q else Q (.bl false) H1
def tNotV(a:TE):TE:=λσ H Q=>a σ H λx H1=>∃c,x=.bl c/\Q (.bl (!c)) H1
theorem zbsp{op} (h:PE X a t):PE X (.BoolOp op [a] pos) t:=λc s σ H Q I b=>BoolOp_one (h c s σ H Q I b)
section
variable {X:Cx}{a:Expr}{b:Expr}{ta:TE}{tb:TE}{pos:Pos}{rest:List Expr}
theorem zbst(j:PE X a ta)(l:PE X (.BoolOp .And (b::rest) pos) tb):PE X (.BoolOp .And (a::b::rest) pos) (tAndV ta tb):=by
 intro f s σ H Q I h;refine BoolOp_and (thn (j f s σ H _ I h) λv k e=>?_);obtain⟨x,H1,g,i,d⟩:=e;obtain⟨c,rfl,d⟩:=d;cases i;refine xfu ?_;cases c with
 |true=>exact l f k σ H1 Q g d
 |false=>exact⟨.bl false,H1,g,rfl,d⟩
end
section
variable {X:Cx}{a:Expr}{ta:TE}{pos:Pos}
theorem zbsq(g:PE X a ta):PE X (.UnaryOp .Not a pos) (tNotV ta):=by
 intro f s σ H Q I h;refine UnaryOp_ (thn (g f s σ H _ I h) λv j d=>?_);obtain⟨x,H1,i,e,b⟩:=d;obtain⟨c,rfl,b⟩:=b;cases e;exact not_of (xfu ⟨.bl (!c),H1,i,rfl,b⟩)
end
def tIf(t:TT) (a tb:TE):TE:=λσ H Q=>t σ H λc H1=>if c=true then a σ H1 Q else tb σ H1 Q
section
variable {X:Cx}{a:Expr}{b:Expr}{ta:TE}{tb:TE}{pos:Pos}{tA:TT}
theorem zbfq{c:Expr}(l:PT X c tA)(k:PE X a ta)(m:PE X b tb):PE X (.IfExp c a b pos) (tIf tA ta tb):=by
 intro e s σ H Q I h;refine wpAny_IfExp (thn (l e s σ H _ I h) λd j f=>?_);obtain⟨H1,i,g⟩:=f;cases d with
 |true=>exact k e j σ H1 Q i g
 |false=>exact m e j σ H1 Q i g
end
def SqL(K:Fg) (H:Hp) (a:Addr) (c:List V):Prop:=
 Rd H a (.lst c) \/
  ∃(o:Obj) (b:Array Value) (n:Nat),K.lookup a=some o/\o.cls=.type "list"/\o.dict=none/\o.data=.seq b n/\b.size<=sizeLine/\Vals c b.toList
def SqT(K:Fg) (H:Hp) (a:Addr) (c:List V):Prop:=
 Rd H a (.tup c) \/
  ∃(o:Obj) (b:Array Value) (n:Nat),K.lookup a=some o/\o.cls=.type "tuple"/\o.data=.seq b n/\b.size<=sizeLine/\Vals c b.toList
noncomputable def absV:Value->Option V
 |.none=>some .non
 |.bool b=>some (.bl b)
 |.int i _=>some (.int i)
 |.str x _=>some (.str x)
 |.bytes b _=>some (.byt b)
 |.float b _=>some (.flt b)
 |.ref a=>some (.ref a)
 |.type n=>some (.ty n)
 |_=>none
theorem RelV.abs(r:RelV x u):absV u=some x:=by
 cases x with
 |non=>cases r;rfl
 |bl _=>cases r;rfl
 |int _=>obtain⟨t,rfl⟩:=r;rfl
 |str _=>obtain⟨t,rfl⟩:=r;rfl
 |byt _=>obtain⟨t,rfl⟩:=r;rfl
 |flt _=>obtain⟨t,rfl⟩:=r;rfl
 |ref _=>cases r;rfl
 |ty _=>cases r;rfl
theorem RelV.inj(r:RelV x u)(q:RelV y u):x=y:=xcz (r.abs.symm.trans q.abs)
theorem Vals.inj:∀{b c:List V}{a:List Value},Vals b a->Vals c a->b=c
 |_,_,_,.nil,.nil=>rfl
 |_,_,_,.cons r t,.cons r' t'=>by rw[r.inj r',Vals.inj t t']
section
variable {H:Hp}{a:Addr}{xs:List V}
theorem SqL.of{K:Fg}(h:H a=some (.lst xs)):SqL K H a xs:=.inl (.inl h)
theorem SqT.of{K:Fg}(h:H a=some (.tup xs)):SqT K H a xs:=.inl (.inl h)
end
theorem Inv.list(I:Inv X aU σ H s)(h:SqL X.K H a xs):∃b:List Value,Vals xs b/\PlainL s.heap a b.toArray/\xs.length<=sizeLine:=by
 rcases h with h|⟨o,b,n,c,g,d,f,i,r⟩
 ·obtain⟨z,b,n,r,e⟩:=h.ok I.hok;exact⟨b,r,⟨_,n,e,rfl,rfl,rfl⟩,z⟩
 ·refine⟨b.toList,r,⟨o,n,I.kIn a o c,g,d,by simpa using f⟩,?_⟩;have e:=r.length;simp only[xci] at e;lia
theorem Inv.tuple(I:Inv X aU σ H s)(h:SqT X.K H a xs):∃b:List Value,Vals xs b/\IsTup s.heap a b.toArray/\xs.length<=sizeLine:=by
 rcases h with h|⟨o,b,n,c,f,d,g,r⟩
 ·obtain⟨z,b,r,p⟩:=h.ok I.hok;exact⟨b,r,p,z⟩
 ·refine⟨b.toList,r,⟨o,I.kIn a o c,f,n,by simpa using d⟩,?_⟩;have e:=r.length;simp only[xci] at e;lia
theorem Inv.list_inj(I:Inv X aU σ H s)(h:SqL X.K H a xs)(i:SqL X.K H a ys):xs=ys:=by
 obtain⟨b,r,⟨o,n,e,_,_,d⟩,_⟩:=I.list h;obtain⟨its',g,⟨l,k,f,_,_,c⟩,_⟩:=I.list i;rw[e] at f;cases f
 rw[d] at c;injection c with j _
 have:b=its':=by simpa using congrArg Array.toList j
 subst this;exact r.inj g
theorem Inv.tuple_inj(I:Inv X aU σ H s)(h:SqT X.K H a xs)(i:SqT X.K H a ys):xs=ys:=by
 obtain⟨b,r,⟨o,e,_,n,d⟩,_⟩:=I.tuple h;obtain⟨its',g,⟨l,f,_,k,c⟩,_⟩:=I.tuple i;rw[e] at f;cases f
 rw[d] at c;injection c with j _
 have:b=its':=by simpa using congrArg Array.toList j
 subst this;exact r.inj g
noncomputable abbrev Cx.wish(X:Cx) (E:Value->Shared->Prop):Cx:={X with xe:=E}
abbrev Cx.nox(X:Cx):Cx:=X.wish λ_ _=>False
theorem Cx.Ok.wish{X:Cx}(a:X.Ok)(E:Value->Shared->Prop):(X.wish E).Ok:=
 ⟨a.mod,a.kind,a.glob,a.blt,a.above,a.inj,a.has,a.cab,a.hd,a.frames,a.stk,a.exf,a.bs,a.bsz,a.noex,a.exfs,a.funs,a.frf⟩
theorem Cx.Ok.unwish{X:Cx}(a:(X.wish E).Ok):X.Ok:=
 ⟨a.mod,a.kind,a.glob,a.blt,a.above,a.inj,a.has,a.cab,a.hd,a.frames,a.stk,a.exf,a.bs,a.bsz,a.noex,a.exfs,a.funs,a.frf⟩
theorem Inv.wish(I:Inv X aU σ H s)(E:Value->Shared->Prop):Inv (X.wish E) aU σ H s:=⟨I.ok.wish E,I.os,I.bare,I.base,I.loc,I.cell,I.free,I.freeC,I.pin,I.hok,I.len,I.hnd⟩
theorem Inv.unwish{X:Cx}(I:Inv (X.wish E) aU σ H s):Inv X aU σ H s:=⟨I.ok.unwish,I.os,I.bare,I.base,I.loc,I.cell,I.free,I.freeC,I.pin,I.hok,I.len,I.hnd⟩
theorem SP.unwish{X:Cx}{D:Ends}(h:SP (X.wish E) aU D f s'):SP X aU D f s':=by
 cases f with
 |next=>obtain⟨b,a,I,q⟩:=h;exact⟨b,a,I.unwish,q⟩
 |brk=>obtain⟨b,a,I,q⟩:=h;exact⟨b,a,I.unwish,q⟩
 |cont=>obtain⟨b,a,I,q⟩:=h;exact⟨b,a,I.unwish,q⟩
 |ret u=>obtain⟨v,b,a,I,r,q⟩:=h;exact⟨v,b,a,I.unwish,r,q⟩
section
variable {X:Cx}{aU:List (Addr×Obj)}{σ:St}{H:Hp}{s:Shared}
theorem PSs.nox{a:List Stmt}{t:TS}(h:PSs X.nox a t):PSs X a t:=λaU s σ H D I b=>
 xey (h aU s σ H D (I.wish _) b) (λ_ _ q=>q.unwish) λ_ _ z=>False.elim z
end
def tNext:TS:=λD σ H=>D.nx σ H
def tSeq(t u:TS):TS:=λD σ H=>t {D with nx:=u D} σ H
theorem zblq:PSs X [] tNext:=λ_ _ σ H _ I h=>xmf ⟨σ,H,I,h⟩
section
variable {X:Cx}{au:Stmt}{rest:List Stmt}{t:TS}{u:TS}
theorem zbfh(i:PS X au t)(c:PSs X rest u):PSs X (au::rest) (tSeq t u):=by
 intro a s σ H D I h;refine wpAny_execs_cons (thn (i a s σ H {D with nx:=u D} I h) λf e q=>?_);cases f with
 |next=>
  obtain⟨d,g,b,q⟩:=q;exact c a e d g D b q
 |ret v=>exact q
 |brk=>exact q
 |cont=>exact q
end
section
variable {X:Cx}{au:Stmt}{t:TS}
theorem zblp(a:PS X au t):PSs X [au] t:=by
 intro b s σ H D I h;refine wpAny_execs_cons (thn (a b s σ H D I h) λf c q=>?_);cases f with
 |next=>exact xmf q
 |ret v=>exact q
 |brk=>exact q
 |cont=>exact q
end
def tBreak:TS:=λD σ H=>D.bk σ H
theorem zbfj:PS X (.Break pos) tBreak:=λ_ _ σ H _ I h=>wpAny_Break ⟨σ,H,I,h⟩
theorem Inv.quiet(I:Inv X aU σ H s):interactive X.env=false:=by simp[interactive,I.ok.kind]
def tDrop(a:TE):TS:=λD σ H=>a σ H λ_ H1=>D.nx σ H1
section
variable {X:Cx}{e:Expr}{te:TE}{pos:Pos}
theorem zbls(a:PE X e te)(d:swapsWith e none pos.line X.env=pure false:=by rfl):PS X (.Expr e pos) (tDrop te):=by
 intro b s σ H D I h;exact wpAny_Expr_any (thn (a b s σ H _ I h) λv i ⟨x,H1,f,g,c⟩=>⟨σ,H1,f,c⟩) I.quiet d
end
def tRet(a:TE):TS:=λD σ H=>a σ H D.rt
section
variable {X:Cx}{e:Expr}{te:TE}{pos:Pos}
theorem zbsg(b:PE X e te):PS X (.Return (some e) pos) (tRet te):=by
 intro c s σ H D I h;exact wpAny_Return_some (thn (b c s σ H _ I h) λv g ⟨x,H1,f,a,d⟩=>⟨x,σ,H1,f,a,d⟩)
end
def tIfS(c:TT) (t u:TS):TS:=λD σ H=>c σ H λb H1=>if b=true then t D σ H1 else u D σ H1
section
variable {X:Cx}{t:TS}{u:TS}{pos:Pos}
theorem zbxp{c:Expr}{a b:List Stmt}{k:TT}(m:PT X c k)(l:PSs X a t)(n:PSs X b u):PS X (.If c a b pos) (tIfS k t u):=by
 intro e s σ H D I h;refine wpAny_If (thn (m e s σ H _ I h) λd i f=>?_);obtain⟨H1,j,g⟩:=f;cases d with
 |true=>exact l e i σ H1 D j g
 |false=>exact n e i σ H1 D j g
end
abbrev TG:=V->St->Hp->(St->Hp->Prop)->Prop
abbrev TGs:=List V->St->Hp->(St->Hp->Prop)->Prop
def PG(X:Cx) (a:Expr) (t:TG):Prop:=
 ∀(b:List (Addr×Obj)) (s:Shared) (σ:St) (H:Hp) (v:V) (u:Value) (Q:St->Hp->Prop),Inv X b σ H s->RelV v u->t v σ H Q ->
  wpAny (model X.prog X.w) X.A (assign a X.env u) (λ_ e=>∃c d,Inv X b c d e/\Q c d) X.xe s
def PGs(X:Cx) (f:List Expr) (t:TGs):Prop:=
 ∀(b:List (Addr×Obj)) (s:Shared) (σ:St) (H:Hp) (d:List V) (a:List Value) (Q:St->Hp->Prop),Inv X b σ H s->Vals d a->t d σ H Q ->
  wpAny (model X.prog X.w) X.A (assignInOrder ((assignEach f X.env).map (·.2)) a) (λ_ g=>∃c e,Inv X b c e g/\Q c e) X.xe s
abbrev TSet:=V->V->V->Hp->(Hp->Prop)->Prop
def PSet(X:Cx) (t:TSet):Prop:=
 ∀(a:List (Addr×Obj)) (s:Shared) (σ:St) (H:Hp) (o i v:V) (b d u:Value) (Q:Hp->Prop),Inv X a σ H s->RelV o b->RelV i d->RelV v u->t o i v H Q ->
  wpAny (model X.prog X.w) X.A (setItem b d u) (λ_ e=>∃c,Inv X a σ c e/\Q c) X.xe s
abbrev TIp:=V->V->Hp->VK->Prop
def PIp(X:Cx) (b:Operator) (t:TIp):Prop:=
 ∀(a:List (Addr×Obj)) (s:Shared) (σ:St) (H:Hp) (x y:V) (v u:Value) (Q:VK),Inv X a σ H s->RelV x v->RelV y u->t x y H Q ->
  wpAny (model X.prog X.w) X.A (inplaceOp b v u) (EP X a σ Q) X.xe s
def gName(i:Nat):TG:=λv σ H Q=>Q (σ.set i (some v)) H
theorem zbme{X:Cx}(b:X.N.Nodup)(c:X.N[i]?=some x)(e:Loc X.env.scope x)(d:X.fn x=true\/X.env.scope.names.lookup x=some .local:=by first|exact .inl rfl|exact .inr rfl|assumption):PG X (.Name x pos) (gName i):=by
 intro f s σ H v u Q I r h;exact wpAny_assign_Name (zod I b c e r (λg a=>⟨_,H,a,h⟩) d)
def gNil:TGs:=λa σ H Q=>a=[]/\Q σ H
def gCons(t:TG) (u:TGs):TGs:=λc σ H Q=>∃v r,c=v::r/\t v σ H λb a=>u r b a Q
theorem zbmd:PGs X [] gNil:=by
 intro c s σ H b a Q I r h;obtain⟨e,h⟩:=h;subst e;cases r;exact assignInOrder_nil ⟨σ,H,I,h⟩
section
variable {X:Cx}
theorem zbfo{e:Expr}{a:List Expr}{t:TG}{u:TGs}(m:PG X e t)(d:PGs X a u)
  (j:(assignEach (e::a) X.env).map (·.2)=assign e X.env::(assignEach a X.env).map (·.2):=by rfl):PGs X (e::a) (gCons t u):=by
 intro c s σ H p n Q I r h;obtain⟨v,o,i,h⟩:=h;subst i;cases r with
 |cons r rr=>
  rw[j];refine assignInOrder_cons (thn (m c s σ H _ _ _ I r h) λ_ l b=>?_);obtain⟨f,H1,k,g⟩:=b;exact d c l f H1 _ _ Q k rr g
end
def gTup(K:Fg) (n:Nat) (t:TGs):TG:=λv σ H Q=>∃a b,v=.ref a/\SqT K H a b/\b.length=n/\t b σ H Q
theorem zbsl{X:Cx}(z:X.calm=true)(h:PGs X es t)
  (j:(assignEach es X.env).length=n:=by rfl)(d:(assignEach es X.env).findIdx? (·.1)=none:=by rfl):PG X (.Tuple es k pos) (gTup X.K n t):=by
 intro f s σ H v u Q I r c;obtain⟨a,w,m,l,i,c⟩:=c;subst m;cases r;obtain⟨A,g,p,C⟩:=I.tuple l;refine assign_Tuple_tuple (I.ok.hd z) p (by simp[j,←i,g.length]) d λx q=>?_
 have y:Inv X f σ H {s with heap:=x}:=I.kept (t':=s.toks) λb o e=>q b o (xch (xbz e)) e
 exact h f _ σ H w _ Q y (by simpa using g) c
def gSub(a b:TE) (t:TSet):TG:=λv σ H Q=>a σ H λo H1=>b σ H1 λi H2=>t o i v H2 λH3=>Q σ H3
section
variable {X:Cx}{pos:Pos}
theorem zbsm{o i:Expr}{e f:TE}{t:TSet}(G:PE X o e)(k:PE X i f)(l:PSet X t)
  (z:∀v,assign (.Subscript o i pos) X.env v=(do
   let b ←holding [v] (eval o X.env)
   let c ←holding [v,b] (eval i X.env)
   standAt pos
   holding [v,b,c] (setItem b c v)
   release [v,b,c] []):=by intro _;rfl):PG X (.Subscript o i pos) (gSub e f t):=by
 intro d s σ H v u Q I r h;rw[z];refine xba (xet (thn (G d s σ H _ I h) λb q a=>?_));obtain⟨x,H1,n,C,m⟩:=a;refine xba (xet (thn (k d q σ H1 _ n m) λc g a=>?_));obtain⟨y,H2,E,A,w⟩:=a;refine xba (xnb (xba (xet (thn (l d g σ H2 x y v b c u _ E C A r w) λ_ J a=>?_))));obtain⟨H3,p,j⟩:=a;exact wpAny_release ⟨σ,H3,p,j⟩
end
def tAsg(a:TE) (g:TG):TS:=λD σ H=>a σ H λx H1=>g x σ H1 D.nx
section
variable {X:Cx}{pos:Pos}
theorem zblu{a e:Expr}{d:TE}{g:TG}(l:PE X e d)(f:PG X a g)(m:swapsWithSole [a] e pos.line X.env=pure false:=by rfl)(j:swappedStores [a] e X.env=pure none:=by rfl)
  (p:(assignEach [a] X.env).map (·.2)=[assign a X.env]:=by rfl):PS X (.Assign [a] e pos) (tAsg d g):=by
 intro c s σ H D I h;refine wpAny_Assign_stores (thn (l c s σ H _ I h) λv o b=>?_) m j;obtain⟨x,H1,n,i,k⟩:=b;rw[p];exact thn (f c o σ H1 x v _ n i k) λ_ r q=>q
theorem zbsf{i:Nat}{x:Str}{e:Expr}{c:TE}{a:Pos}(k:X.N.Nodup)(m:X.N[i]?=some x)(p:Loc X.env.scope x)(g:PE X e c)(o:swapsWith e (some (.Name x a)) pos.line X.env=pure false:=by rfl)(n:X.fn x=true\/X.env.scope.names.lookup x=some .local:=by first|exact .inl rfl|exact .inr rfl|assumption):
  PS X (.Assign [.Name x a] e pos) (tAsg c (gName i)):=by
 intro f s σ H D I h;refine wpAny_Assign_Name (thn (g f s σ H _ I h) λv t b=>?_) o;obtain⟨y,H1,q,d,j⟩:=b;exact zod q k m p d (λr l=>⟨_,H1,l,j⟩) n
end
def tAug(i:Nat) (a:TE) (b:TIp):TS:=λD σ H=>∃x,σ[i]?=some (some x)/\a σ H λy H1=>b x y H1 λz H2=>D.nx (σ.set i (some z)) H2
section
variable {X:Cx}{pos:Pos}
theorem zbsi{i:Nat}{x:Str}{e:Expr}{p:TE}{f:Operator}{t:TIp}{d:Pos}(U:X.N.Nodup)(q:X.N[i]?=some x)(n:Loc X.env.scope x)(he:PE X e p)(ho:PIp X f t)(E:X.fn x=true\/X.env.scope.names.lookup x=some .local:=by first|exact .inl rfl|exact .inr rfl|assumption):
  PS X (.AugAssign (.Name x d) f e pos) (tAug i p t):=by
 intro g s σ H D I h;obtain⟨v,C,h⟩:=h;obtain⟨m,hn,A⟩:=I.loc;have j:Vis X.env.scope x:=by rcases n with k|k;exact .inl k;exact .inr (.inl k)
 obtain⟨u,r,l⟩:=A i x v q C j;refine wpAny_AugAssign_Name ?_;have o:wpAny (model X.prog X.w) X.A (eval e X.env) (λw G=>wpAny (model X.prog X.w) X.A (inplaceOp f u w) (λr P=>wpAny (model X.prog X.w) X.A (storeName X.env x r) (λ_=>SP X g D .next) X.xe P) X.xe G) X.xe s:=by
  refine thn (he g s σ H _ I h) λw s1 a=>?_
  obtain⟨y,H1,Y,r1,S⟩:=a;refine thn (ho g s1 σ H1 v y u w _ Y r r1 S) λz s2 a=>?_
  obtain⟨zv,H2,I2,r2,q2⟩:=a;exact zod I2 U q n r2 (λs3 I3=>⟨_,H2,I3,q2⟩) E
 rcases l with⟨hk,Q⟩|⟨hk,c,J,b⟩
 ·exact wpAny_loadName_local I.ok.kind hk hn Q o
 ·rcases hk with hk|hk
  ·exact wpAny_loadName_cell I.ok.kind hk J b o
  ·rcases n with k|k
   ·have:X.env.scope.names.lookup x=some .free:=hk;rw[k] at this;cases this
   ·have:X.env.scope.names.lookup x=some .free:=hk;rw[k] at this;cases this
end
def ipI(f:Int->Int->Int):TIp:=λx y H Q=>∃i j,x=.int i/\y=.int j/\Q (.int (f i j)) H
theorem zbua:PIp X .Sub (ipI λi j=>i-j):=by
 intro f s σ H x y v u Q I a d h;obtain⟨i,j,c,b,q⟩:=h;subst c;subst b
 obtain⟨t,rfl⟩:=a;obtain⟨e,rfl⟩:=d;exact isub_int ⟨.int _,H,I.tok _,⟨_,rfl⟩,q⟩
def tWhile(c:TT) (tb:TS):TS:=λD σ H=>∃W:Nat->St->Hp->Prop,(∃m,W m σ H)/\∀m σ H,W m σ H ->
 c σ H λb H1=>if b=true then ∃N:St->Hp->Prop,(∀e d,N e d->∃a,a<m/\W a e d)/\tb {D with nx:=N,ct:=N,bk:=D.nx} σ H1 else D.nx σ H1
section
variable {X:Cx}{pos:Pos}
theorem zbfi{c:Expr}{a:List Stmt}{w:TT}{tb:TS}(x:PassesOwn (model X.prog X.w) X.A X.env X.xe)(C:PT X c w)(E:PSs X a tb):PS X (.While c a [] pos) (tWhile w tb):=by
 intro k s σ H D I h;obtain⟨W,⟨J,G⟩,e⟩:=h;refine wpAny_While (codeAny_whileLoop (λn P=>∃t z,Inv X k t z P/\W n t z) ?_ J ⟨σ,H,I,G⟩);rintro n S ⟨g,H1,Q,U⟩;refine xid x (thn (C k S g H1 _ Q (e n g H1 U)) λb A l=>?_);obtain⟨H2,y,j⟩:=l;cases b with
 |true=>
  obtain⟨N,u,j⟩:=j;rw[if_pos rfl];refine xid x (thn (E k A g H2 _ y j) λf Y i=>?_);cases f with
  |next=>
   obtain⟨d,H3,r,q⟩:=i;obtain⟨m,o,p⟩:=u d H3 q;exact⟨m,o,d,H3,r,p⟩
  |cont=>
   obtain⟨d,H3,r,q⟩:=i;obtain⟨m,o,p⟩:=u d H3 q;exact⟨m,o,d,H3,r,p⟩
  |brk=>exact i
  |ret v=>exact i
 |false=>
  rw[if_neg xga];exact xmf ⟨g,H2,y,j⟩
end
structure It where
 go:Nat->Hp->Prop
 yld:Nat->Hp->V->Hp->Prop
 stop:Nat->Hp->Prop
def FpOk(X:Cx) (a:List (Addr×Obj)) (H:Hp) (b:Addr):Prop:=
 H b=none/\b≠X.env.locals/\b∉X.fs/\(b∈X.ex\/X.s₀.heap.objs.size<=b)/\(∀x c,X.env.cells.lookup x=some c->c≠b)/\∀p∈X.pn++a,p.1≠b
theorem Inv.fpOk(I:Inv X aU σ H s)(a:s.heap.objs.size<=b)(f:H' b=none):FpOk X aU H' b:=by
 refine⟨f,xhr (xbm I.lt a),I.nofs a,.inr (xbc I.sz a),λx c e z=>?_,λp d z=>?_⟩
 ·obtain⟨v,q⟩:=I.cell x c e;exact absurd (xbm q.lt (by rw[z];exact a)) (xhh _)
 ·exact absurd (xbm (xbz (I.pin p d).1) (by rw[z];exact a)) (xhh _)
structure Turn (P:Program) (w:World) (K:Fg) (tg:Expr) (J:It) (fp:List Addr) (it:Addr) (tn:Nat->Heap->Prop):Prop where
 mem:it∈fp
 obj:∀i h,tn i h->∀b∈fp,∃o,h.get? b=some o/\∀v,o.data≠.cell v
 keep:∀i h h',tn i h->(∀b∈fp,∀o,h.get? b=some o->h'.get? b=some o)->tn i h'
 item:∀(X:Cx),X.prog=P->X.w=w->X.K=K->X.calm=true->∀(i:Nat) (aU:List (Addr×Obj)) (s:Shared) (σ:St) (H:Hp) (E:Value->Shared->Prop),Inv X aU σ H s->(∀b∈fp,FpOk X aU H b)->tn i s.heap->J.go i H ->
  wpAny (model P w) X.A (pyNext (.ref it)) (λr s1=>∃u,r=some u /\
   wpAny (model P w) X.A (letOwnedTupleGo tg (.ref it) u) (λ_ s2=>∃x H',Inv X aU σ H' s2/\RelV x u/\J.yld i H x H'/\tn (i+1) s2.heap/\∀b∈fp,H' b=none) E s1) E s
 done:∀(X:Cx),X.prog=P->X.w=w->X.K=K->X.calm=true->∀(i:Nat) (aU:List (Addr×Obj)) (s:Shared) (σ:St) (H:Hp) (E:Value->Shared->Prop),Inv X aU σ H s->(∀b∈fp,FpOk X aU H b)->tn i s.heap->J.stop i H ->
  wpAny (model P w) X.A (pyNext (.ref it)) (λr s1=>r=none/\Inv X aU σ H s1) E s
 self:∀(A:Around) (i:Nat) (s:Shared) (Q:Value->Shared->Prop) (E:Value->Shared->Prop),tn i s.heap->Q (.ref it) s->wpAny (model P w) A (pyIter (.ref it)) Q E s
abbrev TI:=St->Hp->(It->Hp->Prop)->Prop
def PIE(X:Cx) (g:List (Addr×Obj)) (σ:St) (i:Expr) (R:It->Hp->Prop) (c:Value) (h:Shared):Prop:=
 ∃(e:Addr) (f:List Addr) (d:Nat->Heap->Prop) (J:It) (a:Hp),c=.ref e/\Inv X g σ a h/\Turn X.prog X.w X.K i J f e d/\d 0 h.heap/\(∀b∈f,FpOk X g a b)/\R J a
def PI(X:Cx) (d a:Expr) (c:TI):Prop:=
 ∀(b:List (Addr×Obj)) (s:Shared) (σ:St) (H:Hp) (R:It->Hp->Prop),Inv X b σ H s->c σ H R ->
  wpAny (model X.prog X.w) X.A (eval a X.env) (λv e=>wpAny (model X.prog X.w) X.A (pyIter v) (PIE X b σ d R) X.xe e) X.xe s
theorem zbra{M:Model}{s:Shared}(e:s.heap.get? it=some o)(d:o.cls=.type n)(c:o.data=.fields vs)
    (b:["enumerate","zip","dict_itemiterator","dict_reverseitemiterator","odict_iterator","itertools.zip_longest","itertools.pairwise"].contains n=false)(a:Q () s):wpAny M A (letOwnedTupleGo tg (.ref it) u) Q E s:=by
  unfold letOwnedTupleGo;cases tg <;> first
    |exact xbg a
    | (cases u <;> first
        |exact xbg a
        | (refine xba (wpAny_load e ?_)
           rw[d,c];show wpAny M A (if(["enumerate","zip","dict_itemiterator","dict_reverseitemiterator","odict_iterator","itertools.zip_longest","itertools.pairwise"].contains n&&vs[0]?==some (rawInt _))=true then _ else _) Q E s
           rw[if_neg (by intro h; rw[b,Bool.false_and] at h; cases h)]
           exact xbg a))
def Itl(K:Fg) (a:Addr):It:=
 ⟨λi H=>∃b x,SqL K H a b/\b[i]?=some x,λi H x c=>c=H/\∀b,SqL K H a b->b[i]?=some x,λi H=>∃b,SqL K H a b/\b.length<=i⟩
def Itt(K:Fg) (a:Addr):It:=
 ⟨λi H=>∃b x,SqT K H a b/\b[i]?=some x,λi H x c=>c=H/\∀b,SqT K H a b->b[i]?=some x,λi H=>∃b,SqT K H a b/\b.length<=i⟩
noncomputable def Itr(lo:Int) (n:Nat):It:=⟨λi _=>i<n,λi H x a=>a=H/\x=.int (lo+i),λi _=>n<=i⟩
theorem zyo{P:Program}{w:World}{K:Fg}{tg:Expr}(a it:Addr):Turn P w K tg (Itl K a) [it] it (λi h=>h.IsListIter it a i) where
 mem:=by simp
 obj:=λi h f b g=>by
  have e:b=it:=by simpa using g
  subst e;obtain⟨o,e,c,d⟩:=f;exact⟨o,e,λv z=>by rw[d] at z;cases z⟩
 keep:=λi h m f k=>f.at λo e=>k it (by simp) o e
 item:=by
  intro X C r Q hc i aU s σ H E I l f q;subst C r Q;obtain⟨xs,x,n,S⟩:=q;obtain⟨A,G,p,hz⟩:=I.list n;obtain⟨u,hu,ru⟩:=G.get S;obtain⟨t,U,f2,Y,J,y⟩:=l it (by simp);refine wpAny_pyNext_list_item f p.isList (x:=u) (by simpa using hu) λm j sb=>?_
  have I1:Inv X aU σ H {s with heap:=m}:=I.turned (t':=s.toks) (λb o g e=>(sb.2 b g).trans e) t U Y J y;obtain⟨o,e,c,d⟩:=id j;exact⟨u,rfl,zbra (s:={s with heap:=m}) e c d (by decide) ⟨x,H,I1,ru,⟨rfl,λys hy=>by rw[I.list_inj hy n];exact S⟩,j,λb g=>(l b g).1⟩⟩
 done:=by
  intro X C r Q hc i aU s σ H E I l f q;subst C r Q;obtain⟨xs,n,S⟩:=q;obtain⟨A,G,p,hz⟩:=I.list n;obtain⟨t,U,f2,Y,J,y⟩:=l it (by simp);have hl:=G.length;exact wpAny_pyNext_list_end (I.ok.hd hc) f p.isList (by simp;lia) λm eb=>⟨rfl,I.turned (t':=s.toks) (λb o g e=>eb b o g e) t U Y J y⟩
 self:=λ_ _ _ _ _ f h=>wpAny_pyIter_listiter f h
theorem ztu{P:Program}{w:World}{K:Fg}{tg:Expr}(a it:Addr):Turn P w K tg (Itt K a) [it] it (λi h=>h.IsTupleIter it a i) where
 mem:=by simp
 obj:=λi h f b g=>by
  have e:b=it:=by simpa using g
  subst e;obtain⟨o,e,c,d⟩:=f;exact⟨o,e,λv z=>by rw[d] at z;cases z⟩
 keep:=λi h n f k=>f.at λo e=>k it (by simp) o e
 item:=by
  intro X C t Q hc i aU s σ H E I m f r;subst C t Q;obtain⟨xs,x,q,S⟩:=r;obtain⟨j,G,p,hz⟩:=I.tuple q;obtain⟨u,hu,ru⟩:=G.get S;obtain⟨y,U,f2,Y,J,A⟩:=m it (by simp);refine wpAny_pyNext_tuple_item f (show s.heap.IsTuple a j.toArray from p) (x:=u) (by simpa using hu) λn l sb=>?_
  have I1:Inv X aU σ H {s with heap:=n}:=I.turned (t':=s.toks) (λb o g e=>(sb.2 b g).trans e) y U Y J A;obtain⟨o,e,c,d⟩:=id l;exact⟨u,rfl,zbra (s:={s with heap:=n}) e c d (by decide) ⟨x,H,I1,ru,⟨rfl,λys hy=>by rw[I.tuple_inj hy q];exact S⟩,l,λb g=>(m b g).1⟩⟩
 done:=by
  intro X C t Q hc i aU s σ H E I m f r;subst C t Q;obtain⟨xs,q,S⟩:=r;obtain⟨j,G,p,hz⟩:=I.tuple q;obtain⟨y,U,f2,Y,J,A⟩:=m it (by simp);have hl:=G.length;exact wpAny_pyNext_tuple_end (I.ok.hd hc) f (show s.heap.IsTuple a j.toArray from p) (by simp;lia) λn eb=>⟨rfl,I.turned (t':=s.toks) (λb o g e=>eb b o g e) y U Y J A⟩
 self:=λ_ _ _ _ _ f h=>wpAny_pyIter_tupleiter f h
theorem ztv{P:Program}{w:World}{K:Fg}{U:Expr}(it:Addr)(lo:Int)(n:Nat):Turn P w K U (Itr lo n) [it] it (λi h=>IsRangeIter h it (lo+(i:Nat)*1) ((n:Int)-(i:Nat)) 1) where
 mem:=by simp
 obj:=λi h a b c=>by
  have e:b=it:=by simpa using c
  subst e
  exact⟨_,a,λv z=>by
   have Q:Data.fields _=Data.cell v:=z
   cases Q⟩
 keep:=λi h g a k=>k it (by simp) _ a
 item:=by
  intro X r l x m i G s σ H E I f a j;subst r l x;obtain⟨p,y,S,A,u,q⟩:=f it (by simp);have W:=Walks.range (prog:=X.prog) (w:=X.w) (I.ok.hd m) it lo 1 n;refine W.item i s _ _ j a λv g C hv d J=>?_
  obtain⟨t,rfl⟩:=hv;have I1:Inv X G σ H {s with heap:=g,toks:=C}:=I.turned (λb o c e=>J b o (by simpa using c) e) p y A u q;refine⟨_,rfl,zbra (s:={ s with heap:=g,toks:=C }) (n:="range_iterator") d rfl rfl (by decide) ⟨.int (lo + i),H,I1,⟨t,?_⟩,⟨rfl,rfl⟩,d,λb c=>(f b c).1⟩⟩
  rw[Int.mul_one]
 done:=by
  intro X r l x m i G s σ H E I f a j;subst r l x;obtain⟨p,y,S,A,u,q⟩:=f it (by simp);exact wpAny_pyNext_range_end (I.ok.hd m) a (by have:n<=i:=j;lia) λg Y=>⟨rfl,I.turned (t':=s.toks) (λb o c e=>Y b o c e) p y A u q⟩
 self:=λ_ _ _ _ _ a h=>wpAny_pyIter_rangeiter a h
def iList(K:Fg) (b:TE):TI:=λσ H R=>b σ H λx H1=>∃a,x=.ref a/\(∃c,SqL K H1 a c)/\R (Itl K a) H1
def iTup(K:Fg) (b:TE):TI:=λσ H R=>b σ H λx H1=>∃a,x=.ref a/\(∃c,SqT K H1 a c)/\R (Itt K a) H1
section
variable {X:Cx}{tg:Expr}
theorem zbma{l:Expr}{g:TE}(i:PE X l g):PI X tg l (iList X.K g):=by
 intro k s σ H R I h;refine thn (i k s σ H _ I h) λv d f=>?_
 obtain⟨x,H1,c,j,m⟩:=f;obtain⟨a,e,⟨y,n⟩,q⟩:=m;subst e;cases j;obtain⟨t,w,p,u⟩:=c.list n;refine xlf p.isList ?_;refine⟨d.heap.objs.size,[d.heap.objs.size],_,_,H1,rfl,c.kept (t':=d.toks) λb o e=>xbh _ e,zyo a _,⟨_,xcb _ rfl,rfl,rfl⟩,λb r=>?_,q⟩;have e:b=d.heap.objs.size:=by simpa using r
 subst e;exact c.fpOk (xbj _) (c.hok.fresh (xbj _))
theorem zbsk{l:Expr}{i:TE}(j:PE X l i):PI X tg l (iTup X.K i):=by
 intro m s σ H R I h;refine thn (j m s σ H _ I h) λv c f=>?_
 obtain⟨x,H1,d,k,n⟩:=f;obtain⟨a,e,⟨y,r⟩,q⟩:=n;subst e;cases k;obtain⟨g,w,p,u⟩:=d.tuple r;refine xhx (show c.heap.IsTuple a g.toArray from p) ?_;refine⟨c.heap.objs.size,[c.heap.objs.size],_,_,H1,rfl,d.kept (t':=c.toks) λb o e=>xbh _ e,ztu a _,⟨_,xcb _ rfl,rfl,rfl⟩,λb t=>?_,q⟩;have e:b=c.heap.objs.size:=by simpa using t
 subst e;exact d.fpOk (xbj _) (d.hok.fresh (xbj _))
end
theorem zut{s:Shared}{lo a:Int}{c:Nat}(I:Inv X aU σ H s)(l:-(2^62)<=lo)(g:lo<2^62)(j:-(2^62)<=a)(f:a<2^62)
  (q:R (Itr lo (a-lo).toNat) H):wpAny (model X.prog X.w) X.A (pyIter (.ref s.heap.objs.size)) (PIE X aU σ tg R) E { s with heap:=s.heap.push { cls:=.type "range",data:=.fields #[.int lo t,.int a u,.int 1 v] },toks:=c }:=by
 refine wpAny_pyIter_range (IsRange.new ..) (small_one l g j f) ?_;have d:Inv X aU σ H { s with heap:=s.heap.push { cls:=.type "range",data:=.fields #[.int lo t,.int a u,.int 1 v] },toks:=c }:=I.kept λb o e=>xbh _ e
 refine⟨(s.heap.push { cls:=.type "range",data:=.fields #[.int lo t,.int a u,.int 1 v] }).objs.size,[(s.heap.push { cls:=.type "range",data:=.fields #[.int lo t,.int a u,.int 1 v] }).objs.size],_,_,H,rfl,
  d.kept (t':=c) λb o e=>xbh _ e,ztv _ lo (a-lo).toNat,?_,λb k=>?_,q⟩
 ·have i:lo+((0:Nat):Int)*1=lo:=by simp
  have h:(((a-lo).toNat:Nat):Int)-((0:Nat):Int)=Builtin.Range.rangeSize lo a 1:=by rw[rangeSize_one];split<;>lia
  show IsRangeIter _ _ (lo+((0:Nat):Int)*1) ((((a-lo).toNat:Nat):Int)-((0:Nat):Int)) 1;rw[i,h];exact xcb _ rfl
 ·have e:b=(s.heap.push { cls:=.type "range",data:=.fields #[.int lo t,.int a u,.int 1 v] }).objs.size:=by simpa using k
  subst e;exact d.fpOk (xbj _) (d.hok.fresh (xbj _))
def iRng1(b:TA):TI:=λσ H R=>b σ H λa H1=>∃j:Int,a=[.int j]/\-(2^62)<=j/\j<2^62/\R (Itr 0 j.toNat) H1
def iRng2(b:TA):TI:=λσ H R=>b σ H λa H1=>∃i j:Int,a=[.int i,.int j]/\(-(2^62)<=i/\i<2^62/\-(2^62)<=j/\j<2^62)/\R (Itr i (j-i).toNat) H1
section
variable {X:Cx}{tg:Expr}
theorem zzm{a:Expr}{f:TA}{p b:Pos}(g:Gl X "range")(k:X.mg "range"=none)(n:PA X [a] f)(o:starEach [a] X.env=[(false,eval a X.env)]:=by rfl):PI X tg (.Call (.Name "range" p) [a] [] b) (iRng1 f):=by
 intro m s σ H R I h;refine Call_ (zoz I g k boot_range (xhs (thn (n b m s σ H _ I h) λv x d=>?_) o rfl));obtain⟨w,H1,u,l,c⟩:=d;obtain⟨j,e,c,i,q⟩:=c;subst e;cases l with
 |cons r rr=>
  cases rr;obtain⟨t,rfl⟩:=r;exact call_range_1 (zut u (by lia) (by lia) c i (by simpa using q))
theorem zzl{a b:Expr}{g:TA}{p d:Pos}(k:Gl X "range")(y:X.mg "range"=none)(u:PA X [a,b] g)(v:starEach [a,b] X.env=[(false,eval a X.env),(false,eval b X.env)]:=by rfl)(c:starEach [b] X.env=[(false,eval b X.env)]:=by rfl):
  PI X tg (.Call (.Name "range" p) [a,b] [] d) (iRng2 g):=by
 intro o s σ H R I h;refine Call_ (zoz I k y boot_range (xhs (thn (u d o s σ H _ I h) λz E ⟨C,H1,x,m,f⟩=>?_) (by rw[v,c]) (by rw[c];rfl)));obtain⟨i,j,e,⟨f,l,n,w⟩,q⟩:=f;subst e;cases m with
 |cons r rr=>
  cases rr with
  |cons r' rr=>
   cases rr;obtain⟨t,rfl⟩:=r;obtain⟨A,rfl⟩:=r';exact call_range_2 (zut x f l n w q)
end
def tFor(d:TI) (g:TG) (tb:TS):TS:=λD σ H=>d σ H λJ H1=>∃W:Nat->Nat->St->Hp->Prop,(∃m,W 0 m σ H1)/\∀i m σ H,W i m σ H ->
 (J.stop i H/\D.nx σ H)\/(J.go i H/\∃N:St->Hp->Prop,(∀b a,N b a->∃c,c<m/\W (i+1) c b a)/\∀x a,J.yld i H x a->g x σ a λe H2=>tb {D with nx:=N,ct:=N,bk:=D.nx} e H2)
noncomputable def pinsAt(a:List Addr) (h:Heap):List (Addr×Obj):=a.filterMap λb=>(h.get? b).map λo=>(b,o)
theorem zfr{h:Heap}(a:b∈fp)(e:h.get? b=some o):(b,o)∈pinsAt fp h:=List.mem_filterMap.mpr ⟨b,a,by rw[e];rfl⟩
theorem zzt(d:p∈pinsAt fp h):p.1∈fp/\h.get? p.1=some p.2:=by
 obtain⟨b,c,e⟩:=List.mem_filterMap.mp d;cases q:h.get? b with
 |none=>rw[q] at e;cases e
 |some o=>
  rw[q] at e;have a:(b,o)=p:=xcz e;subst a;exact⟨c,q⟩
theorem Inv.pinned(I:Inv X aU σ H s)(i:∀b∈a,FpOk X aU H b)(k:∀b∈a,∃o,s.heap.get? b=some o/\∀v,o.data≠.cell v):Inv X (aU++pinsAt a s.heap) σ H s:=
 I.pins_of λp g=>(xce.mp g).elim (λz=>I.pin p (xdz _ z)) λz=>by
  obtain⟨f,e⟩:=zzt z;obtain⟨h,j,l,_⟩:=i p.1 f;obtain⟨o,c,d⟩:=k p.1 f;rw[e] at c;cases c
  exact⟨e,h,j,l,d⟩
theorem Inv.unpinned(I:Inv X (aU++pl) σ H s):Inv X aU σ H s:=I.pins_of λp a=>I.pin p (xdz _ (xhd _ a))
section
variable {X:Cx}{tg:Expr}
theorem zbsh{l:Expr}{w:List Stmt}{wi:TI}{g:TG}{tb:TS}{a3:Pos}(U:PassesOwn (model X.prog X.w) X.A X.env X.xe)(hc:X.calm=true)(hi:PI X tg l wi)(hg:PG X tg g)(j:PSs X w tb)
  (hs:∀x,foldedSetIterable l X.env x=pure x:=by intro _;rfl):PS X (.For tg l w [] a3) (tFor wi g tb):=by
 intro y s σ H D I h;refine wpAny_For (thn (hi y s σ H _ I h) λv s1 h1=>thn h1 λa4 s2 h2=>?_) hs;obtain⟨it,P,tn,J,H2,e,I2,T,a1,f2,W,⟨m0,w0⟩,Y⟩:=h2;subst e;have c:∀{H':Hp},(∀b∈P,H' b=none)->∀b∈P,FpOk X y H' b:=λhn b j=>⟨hn b j,(f2 b j).2⟩
 refine codeAny_forLoop_any (λn s'=>∃i Q H',Inv X y Q H' s'/\tn i s'.heap/\(∀b∈P,H' b=none)/\W i n Q H') ?_ m0 ⟨0,σ,H2,I2,a1,λb j=>(f2 b j).1,w0⟩;rintro n s3 ⟨i,S,H3,I3,E,G,w3⟩;rcases Y i n S H3 w3 with⟨A,qn⟩|⟨go,N,hN,step⟩
 ·refine xid U (thn (T.done X rfl rfl rfl hc i y s3 S H3 X.xe I3 (c G) E A) λr s4 a=>?_);obtain⟨hr,I4⟩:=a;subst hr;exact xmf ⟨S,H3,I4,qn⟩
 ·refine xid U (thn (T.item X rfl rfl rfl hc i y s3 S H3 X.xe I3 (c G) E go) λr s4 a=>?_);obtain⟨u,hr,h4⟩:=a;subst hr;refine xid U (thn h4 λ_ s5 a=>?_);obtain⟨x,H5,I5,r5,y5,z,a2⟩:=a;have a0:=I5.pinned (c a2) (T.obj _ _ z);refine xid U (thn (hg _ s5 S H5 x u _ a0 r5 (step x H5 y5)) λ_ s6 a=>?_);obtain⟨σ6,H6,I6,q6⟩:=a;refine xid U (thn (j _ s6 σ6 H6 _ I6 q6) λf s7 t=>?_);have again:∀{q:St}{k:Hp},Inv X (y++pinsAt P s5.heap) q k s7->N q k->∃m,m<n/\∃i Q H',Inv X y Q H' s7/\tn i s7.heap/\(∀b∈P,H' b=none)/\W i m Q H':=λ{q k} p C=>by
   obtain⟨m',hm,w7⟩:=hN q k C;refine⟨m',hm,i+1,q,k,p.unpinned,T.keep _ _ _ z λb j o e=>(p.pin (b,o) (xdz _ (xdz _ (zfr j e)))).1,λb j=>?_,w7⟩;obtain⟨o,e,d⟩:=T.obj _ _ z b j;exact(p.pin (b,o) (xdz _ (xdz _ (zfr j e)))).2.1
  cases f with
  |next=>obtain⟨q,k,p,C⟩:=t;exact again p C
  |cont=>obtain⟨q,k,p,C⟩:=t;exact again p C
  |brk=>obtain⟨q,k,p,t⟩:=t;exact⟨q,k,p.unpinned,t⟩
  |ret v=>obtain⟨x7,q,k,p,r7,t⟩:=t;exact⟨x7,q,k,p.unpinned,r7,t⟩
end
abbrev R2:=V->V->Hp->VK->Prop
def OpR(X:Cx) (f:Value->Value->Sem Value) (r:R2):Prop:=
 ∀(a:List (Addr×Obj)) (s:Shared) (σ:St) (H:Hp) (x y:V) (v u:Value) (Q:VK),Inv X a σ H s->RelV x v->RelV y u->r x y H Q ->
  wpAny (model X.prog X.w) X.A (f v u) (EP X a σ Q) X.xe s
def UnR(X:Cx) (f:Value->Sem Value) (r:V->Hp->VK->Prop):Prop:=
 ∀(a:List (Addr×Obj)) (s:Shared) (σ:St) (H:Hp) (x:V) (v:Value) (Q:VK),Inv X a σ H s->RelV x v->r x H Q ->
  wpAny (model X.prog X.w) X.A (f v) (EP X a σ Q) X.xe s
def CallR(X:Cx) (f:Value) (r:List V->Hp->VK->Prop):Prop:=
 ∀(c:List (Addr×Obj)) (s:Shared) (σ:St) (H:Hp) (b:List V) (a:List Value) (Q:VK),Inv X c σ H s->Vals b a->r b H Q ->
  wpAny (model X.prog X.w) X.A (call f a) (EP X c σ Q) X.xe s
def TruR(X:Cx) (r:V->Hp->(Bool->Hp->Prop)->Prop):Prop:=
 ∀(a:List (Addr×Obj)) (s:Shared) (σ:St) (H:Hp) (x:V) (v:Value) (Q:Bool->Hp->Prop),Inv X a σ H s->RelV x v->r x H Q ->
  wpAny (model X.prog X.w) X.A (truthy v) (TP X a σ Q) X.xe s
def tOp(r:R2) (a tb:TE):TE:=λσ H Q=>a σ H λx H1=>tb σ H1 λy H2=>r x y H2 Q
def tUn(r:V->Hp->VK->Prop) (a:TE):TE:=λσ H Q=>a σ H λx H1=>r x H1 Q
def rI(C:Int->Int->Prop) (g:Int->Int->V):R2:=λx y H Q=>∃i j,x=.int i/\y=.int j/\C i j/\Q (g i j) H
def rI0(g:Int->Int->V):R2:=λx y H Q=>∃i j,x=.int i/\y=.int j/\Q (g i j) H
def rU(g:Int->V):V->Hp->VK->Prop:=λx H Q=>∃i,x=.int i/\Q (g i) H
section
variable {X:Cx}{a:Expr}{b:Expr}{ta:TE}{tb:TE}
theorem binT(o:PE X a ta)(r:PE X b tb){d:List (Addr×Obj)}{s:Shared}{σ:St}{H:Hp}{R:V->V->Hp->Prop}(I:Inv X d σ H s)
  (h:ta σ H λx H1=>tb σ H1 λy H2=>R x y H2){Q:Value->Shared->Prop}{f:Value->Value->Sem Value}
  (m:∀v u e x y H2,Inv X d σ H2 e->RelV x v->RelV y u->R x y H2->wpAny (model X.prog X.w) X.A (f v u) Q X.xe e):
  wpAny (model X.prog X.w) X.A (eval a X.env) (λv k=>wpAny (model X.prog X.w) X.A (eval b X.env) (λu n=>wpAny (model X.prog X.w) X.A (f v u) Q X.xe n) X.xe k) X.xe s:=by
 refine thn (o d s σ H _ I h) λv q c=>?_
 obtain⟨x,H1,p,i,j⟩:=c;refine thn (r d q σ H1 _ p j) λu e c=>?_
 obtain⟨y,H2,l,t,g⟩:=c;exact m v u e x y H2 l i t g
end
section
variable {X:Cx}{a:Expr}{b:Expr}{ta:TE}{tb:TE}{pos:Pos}
theorem zbxs{c:Operator}{r:R2}(l:OpR X (binaryOp c) r)(k:PE X a ta)(j:PE X b tb):PE X (.BinOp a c b pos) (tOp r ta tb):=by
 intro d s σ H Q I h;exact wpAny_BinOp (binT k j I h λv u i x y H2 e g f q=>l d i σ H2 x y v u Q e g f q)
end
section
variable {X:Cx}{a:Expr}{ta:TE}{pos:Pos}
theorem zbxr{b:UnaryOp}{r:V->Hp->VK->Prop}(j:UnR X (unaryOp b) r)(i:PE X a ta):PE X (.UnaryOp b a pos) (tUn r ta):=by
 intro c s σ H Q I h;exact UnaryOp_ (thn (i c s σ H _ I h) λv g ⟨x,H1,f,d,e⟩=>j c g σ H1 x v Q f d e)
end
section
variable {X:Cx}
theorem opI{f:Value->Value->Sem Value}{C:Int->Int->Prop}{g:Int->Int->Int}
  (rule:∀(i j:Int) (t u:Tok) (s:Shared) (Q:Value->Shared->Prop) (E:Value->Shared->Prop),C i j->Q (.int (g i j) s.toks) {s with toks:=s.toks+1}->wpAny (model X.prog X.w) X.A (f (.int i t) (.int j u)) Q E s):
  OpR X f (rI C λi j=>.int (g i j)):=by
 intro e s σ H x y v u Q I c b h;obtain⟨i,j,rfl,rfl,d,q⟩:=h;obtain⟨t,rfl⟩:=c;obtain⟨a,rfl⟩:=b;exact rule i j t a s _ _ d ⟨.int (g i j),H,I.tok _,⟨_,rfl⟩,q⟩
theorem opI0{f:Value->Value->Sem Value}{g:Int->Int->Int}
  (rule:∀(i j:Int) (t u:Tok) (s:Shared) (Q:Value->Shared->Prop) (E:Value->Shared->Prop),Q (.int (g i j) s.toks) {s with toks:=s.toks+1}->wpAny (model X.prog X.w) X.A (f (.int i t) (.int j u)) Q E s):
  OpR X f (rI0 λi j=>.int (g i j)):=by
 intro d s σ H x y v u Q I c b h;obtain⟨i,j,rfl,rfl,q⟩:=h;obtain⟨t,rfl⟩:=c;obtain⟨a,rfl⟩:=b;exact rule i j t a s _ _ ⟨.int (g i j),H,I.tok _,⟨_,rfl⟩,q⟩
theorem opB0{f:Value->Value->Sem Value}{g:Int->Int->Bool}
  (rule:∀(i j:Int) (t u:Tok) (s:Shared) (Q:Value->Shared->Prop) (E:Value->Shared->Prop),Q (.bool (g i j)) s->wpAny (model X.prog X.w) X.A (f (.int i t) (.int j u)) Q E s):
  OpR X f (rI0 λi j=>.bl (g i j)):=by
 intro d s σ H x y v u Q I c b h;obtain⟨i,j,rfl,rfl,q⟩:=h;obtain⟨t,rfl⟩:=c;obtain⟨a,rfl⟩:=b;exact rule i j t a s _ _ ⟨.bl (g i j),H,I,rfl,q⟩
end
noncomputable def CPow(i j:Int):Prop:=0<=j/\j<=1000000/\i.natAbs<2^64
noncomputable def CMul(i j:Int):Prop:=(-(2^64)<i/\i<2^64)\/(-(2^64)<j/\j<2^64)
theorem CMul.ok(h:CMul i j):IntMulOk i j:=by
 rcases h with⟨a,b⟩|⟨a,b⟩
 ·exact .of_left (intBits_le_64 a b)
 ·exact .of_right (intBits_le_64 a b)
theorem zbtd:OpR X (binaryOp .Add) (rI0 λi j=>.int (i+j)):=opI0 λ_ _ _ _ _ _ _ q=>add_int q
theorem zbsw:OpR X (binaryOp .Sub) (rI0 λi j=>.int (i-j)):=opI0 λ_ _ _ _ _ _ _ q=>sub_int q
section
variable {X:Cx}
theorem zjk:OpR X (binaryOp .Mult) (rI CMul λi j=>.int (i*j)):=opI λ_ _ _ _ _ _ _ a q=>mul_int q a.ok
end
theorem zsm:OpR X (binaryOp .Mod) (rI (λ_ j=>0<j) λi j=>.int (i%j)):=opI λi j _ _ _ _ _ a q=>by
 have b:(0:Int)<j:=a;exact mod_int' (by lia) (by rw[Int.fmod_eq_emod_of_nonneg i (by lia)];exact q)
section
variable {X:Cx}
theorem zbsx:OpR X (binaryOp .Pow) (rI CPow λi j=>.int (i^j.toNat)):=opI λ_ _ _ _ _ _ _ a q=>pow_int_small a.1 a.2.1 a.2.2 q
end
theorem zbga:OpR X (binaryOp .BitAnd) (rI0 λi j=>.int (Builtin.bitAnd i j)):=opI0 λ_ _ _ _ _ _ _ q=>and_int q
section
variable {X:Cx}
theorem unI{f:Value->Sem Value}{g:Int->Int}
  (rule:∀(i:Int) (t:Tok) (s:Shared) (Q:Value->Shared->Prop) (E:Value->Shared->Prop),Q (.int (g i) s.toks) {s with toks:=s.toks+1}->wpAny (model X.prog X.w) X.A (f (.int i t)) Q E s):
  UnR X f (rU λi=>.int (g i)):=by
 intro b s σ H x v Q I a h;obtain⟨i,rfl,q⟩:=h;obtain⟨t,rfl⟩:=a;exact rule i t s _ _ ⟨.int (g i),H,I.tok _,⟨_,rfl⟩,q⟩
end
theorem zbrh:UnR X (unaryOp .USub) (rU λi=>.int (-i)):=unI λ_ _ _ _ _ q=>neg_int q
theorem zbxw:OpR X (compareOp .Lt) (rI0 λi j=>.bl (decide (i<j))):=opB0 λ_ _ _ _ _ _ _ q=>lt_int q
theorem zbmr:OpR X (compareOp .LtE) (rI0 λi j=>.bl (decide (i<=j))):=opB0 λ_ _ _ _ _ _ _ q=>le_int q
theorem zbtb:OpR X (compareOp .Gt) (rI0 λi j=>.bl (decide (j<i))):=opB0 λ_ _ _ _ _ _ _ q=>gt_int q
theorem zbxx:OpR X (compareOp .GtE) (rI0 λi j=>.bl (decide (j<=i))):=opB0 λ_ _ _ _ _ _ _ q=>ge_int q
theorem OpR.or(h:OpR X f r)(d:OpR X f r'):OpR X f (λx y H Q=>r x y H Q\/r' x y H Q):=by
 intro c s σ H x y v u Q I b a q;rcases q with q|q
 ·exact h c s σ H x y v u Q I b a q
 ·exact d c s σ H x y v u Q I b a q
theorem nomark(b:Expr) (h:op≠.In:=by decide)(c:op≠.NotIn:=by decide):behindInMarks op b=false:=by
 have d:(op==CmpOp.In)=false:=by cases op<;>first|rfl|exact absurd rfl h
 have a:(op==CmpOp.NotIn)=false:=by cases op<;>first|rfl|exact absurd rfl c
 cases b<;>simp[behindInMarks,d,a]
theorem zbmj(l:OpR X (compareOp op) r)(f:PE X a ta)(j:PE X b tb)(k:behindInMarks op b=false):PE X (.Compare a [op] [b] pos) (tOp r ta tb):=by
 intro c s σ H Q I h;exact wpAny_Compare1 (binT f j I h λv u i x y H2 d g e q=>l c i σ H2 x y v u Q d g e q) k
def tTest(t:TE):TT:=λσ H Q=>t σ H λx a=>∃k,x=.bl k/\Q k a
section
variable {X:Cx}{a:Expr}{b:Expr}{c:Expr}{ta:TE}{tb:TE}{pos:Pos}
theorem zbln{d:CmpOp}{r:R2}(G:OpR X (compareOp d) r)(p:PE X a ta)(A:PE X b tb)(C:behindInMarks d b=false):PT X (.Compare a [d] [b] pos) (tTest (tOp r ta tb)):=by
 intro f s σ H Q I h
 refine wpAny_isTrue_Compare1 (thn (p f s σ H _ I h) λv w ⟨x,H1,q,i,l⟩=>thn (A f w σ H1 _ q l) λu t ⟨y,H2,m,E,g⟩=>
  thn (G f t σ H2 x y v u _ m i E g) λc J ⟨z,H3,n,o,k,e,j⟩=>?_) C
 subst e;cases o;exact xfu ⟨H3,n,j⟩
end
def tChain(r c:R2) (d tb e:TE):TE:=λσ H Q=>d σ H λx H1=>tb σ H1 λy H2=>r x y H2 λz H3=>∃k,z=.bl k /\
 (if k=true then e σ H3 λb a=>c y b a Q else Q (.bl false) H3)
section
variable {X:Cx}{a:Expr}{b:Expr}{c:Expr}{ta:TE}{tb:TE}{tc:TE}{pos:Pos}
theorem zbfg{i f:CmpOp}{r n:R2}(ho:OpR X (compareOp i) r)(l:OpR X (compareOp f) n)(ha:PE X a ta)(G:PE X b tb)(E:PE X c tc)
  (S:lastMarks [i,f] [b,c]=false:=by with_unfolding_all rfl):PT X (.Compare a [i,f] [b,c] pos) (tTest (tChain r n ta tb tc)):=by
 intro g s σ H Q I h
 refine isTrue_chain (thn (ha g s σ H _ I h) λv s1 ⟨x,H1,I1,r1,q1⟩=>test_link (thn (G g s1 σ H1 _ I1 q1) λu C ⟨y,H2,I2,p,q2⟩=>
  thn (ho g C σ H2 x y v u _ I2 r1 p q2) λd s3 ⟨z,H3,o,r3,k,e,m⟩=>?_)) S
 subst e;cases r3;refine xfu ?_;cases k with
 |false=>
  obtain⟨k',e',q'⟩:=m;cases e';exact ite_ff ⟨H3,o,q'⟩
 |true=>
  refine ite_tt (test_last (thn (E g s3 σ H3 _ o m) λJ q ⟨w,U,I4,r4,q4⟩=>thn (l g q σ U y w u J _ I4 p r4 q4) λd' s5 j=>?_));obtain⟨z2,A,P,t,k2,Y,q5⟩:=j;subst Y;cases t;exact xfu ⟨A,P,q5⟩
end
def TruV(K:Fg) (x:V) (H:Hp) (k:Bool):Prop:=
 match x with
 |.non=>k=false
 |.bl b=>k=b
 |.int i=>k=(i != 0)
 |.str y=>y.length<=sizeLine/\k=((y.length:Int) != 0)
 |.byt y=>y.size<=sizeLine/\k=((y.size:Int) != 0)
 |.ref p=>(∃c,SqL K H p c/\k=!c.isEmpty)\/(∃c,SqT K H p c/\k=!c.isEmpty)\/∃a,H p=some (.dK a)/\k=!a.isEmpty
 |_=>False
theorem zwh{κ:Type}{a:List (κ×V)}{b:List (κ×Value)}(r:KV a b):(!b.isEmpty)=!a.isEmpty:=by
 cases r<;>rfl
theorem zne(r:Vals xs its):(!its.toArray.isEmpty)=!xs.isEmpty:=by
 cases r<;>simp
theorem line63:(sizeLine:Nat)<2^63:=by rw[xij];decide
section
variable {X:Cx}{b:Expr}
theorem zbrj:TruR X (λx H Q=>∃k,TruV X.K x H k/\Q k H):=by
 intro A s σ H x v Q I g h;obtain⟨k,e,q⟩:=h;have z:=line63;have C:sizeLine=16777216:=xij;cases x with
 |non=>
  cases g;have a:k=false:=e;subst a;exact truthy_none ⟨H,I,q⟩
 |bl b=>
  cases g;have a:k=b:=e;subst a;exact xfu ⟨H,I,q⟩
 |int i=>
  obtain⟨t,rfl⟩:=g;have a:k=(i != 0):=e;subst a;exact PySem.P.truthy_int ⟨H,I,q⟩
 |str y=>
  obtain⟨t,rfl⟩:=g;obtain⟨u,a⟩:y.length<=sizeLine/\k=((y.length:Int) != 0):=e;subst a;exact PySem.P.truthy_str (by lia) ⟨H,I.tok _,q⟩
 |byt y=>
  obtain⟨t,rfl⟩:=g;obtain⟨u,a⟩:y.size<=sizeLine/\k=((y.size:Int) != 0):=e;subst a;exact W.truthy_bytes (by lia) ⟨H,I.tok _,q⟩
 |ref p=>
  cases g;have a:(∃f,SqL X.K H p f/\k=!f.isEmpty)\/(∃f,SqT X.K H p f/\k=!f.isEmpty)\/∃c,H p=some (.dK c)/\k=!c.isEmpty:=e
  rcases a with⟨f,j,a⟩|⟨f,j,a⟩|⟨c,j,a⟩
  ·subst a;obtain⟨n,r,l,o⟩:=I.list j;have d:=r.length;exact wpAny_truthy_list l.isList (by simp only[xcc];lia) ⟨H,I.tok _,by rw[zne r];exact q⟩
  ·subst a;obtain⟨n,r,l,o⟩:=I.tuple j;have d:=r.length;exact truthy_tuple l (by simp only[xcc];lia) ⟨H,I.tok _,by rw[zne r];exact q⟩
  ·subst a;obtain⟨o,w,vs,r,m⟩:c.length<=sizeLine/\(p==sysModules)=false/\∃vs,KV c vs/\s.heap.DictOf (mixKind X.prog X.w) p vs:=I.hok p _ j
   have d:c.length=vs.length:=xix r;exact wpAny_truthy_dict w m (by lia) ⟨H,I.tok _,by rw[zwh r];exact q⟩
 |_=>exact(show False from e).elim
end
section
variable {X:Cx}{a:Expr}{ta:TE}
theorem zuy(l:PE X a ta)(f:∀b,isTrue a X.env b=(do let v ←b;standAt a.pos;holding [v] (truthy v))):
  PT X a (λσ H Q=>ta σ H λx c=>∃k,TruV X.K x c k/\Q k c):=by
 intro d s σ H Q I h;exact isTrue_plain (thn (l d s σ H _ I h) λv j ⟨x,H1,i,e,g⟩=>zbrj d j σ H1 x v Q i e g) (f _)
end
theorem zvg:OpR X (binaryOp .Add) (λx y H Q=>∃i j,x=.str i/\y=.str j/\i.length+j.length<=sizeLine/\Q (.str (i++j)) H):=by
 intro f s σ H x y v u Q I d c h;obtain⟨i,j,rfl,rfl,b,q⟩:=h;obtain⟨t,rfl⟩:=d;obtain⟨a,rfl⟩:=c;exact add_str (λa e=>⟨.str (i++j),H,I.tok _,⟨_,rfl⟩,q⟩) b
theorem vals1(r:Vals [x] us):∃u,us=[u]/\RelV x u:=by
 cases r with
 |cons r1 r2=>cases r2;exact⟨_,rfl,r1⟩
theorem vals2(r:Vals [x,y] us):∃u w',us=[u,w']/\RelV x u/\RelV y w':=by
 cases r with
 |cons r1 r2=>
  cases r2 with
  |cons r3 r4=>cases r4;exact⟨_,_,rfl,r1,r3⟩
theorem zbiz:CallR X (.builtin "abs") (λa H Q=>∃ i,a=[.int i]/\Q (.int (if i<0 then -i else i)) H):=by
 intro d s σ H a b Q I r h;obtain⟨i,rfl,q⟩:=h;obtain⟨u,rfl,t,rfl⟩:=vals1 r;exact call_abs_int λu c=>⟨.int (if i<0 then -i else i),H,I.tok _,⟨_,rfl⟩,q⟩
theorem zly{X:Cx}(b:X.calm=true):CallR X (.builtin "min") (λa H Q=>∃ i j,a=[.int i,.int j]/\Q (.int (if j<i then j else i)) H):=by
 intro g s σ H a d Q I r h;obtain⟨i,j,rfl,q⟩:=h;obtain⟨u,f,rfl,⟨t,rfl⟩,⟨c,rfl⟩⟩:=vals2 r;refine min_two_ints (I.ok.hd b) λl e k=>⟨_,H,I.kept k,?_,q⟩
 by_cases hj:j<i
 ·rw[if_pos hj,if_pos hj];exact⟨_,rfl⟩
 ·rw[if_neg hj,if_neg hj];exact⟨_,rfl⟩
theorem zru:CallR X (.type "int") (λa H Q=>(∃ i,a=[.int i]/\Q (.int i) H)\/∃ k,a=[.bl k]/\Q (.int (if k then 1 else 0)) H):=by
 intro d s σ H a c Q I r h;rcases h with⟨i,rfl,q⟩|⟨k,rfl,q⟩
 ·obtain⟨u,rfl,t,rfl⟩:=vals1 r;exact call_int_int ⟨.int i,H,I,⟨_,rfl⟩,q⟩
 ·obtain⟨u,rfl,b⟩:=vals1 r;cases b;exact call_int_bool ⟨.int (if k then 1 else 0),H,I.tok _,⟨_,rfl⟩,q⟩
structure ObjM (h:Heap) (x dx C:Addr) (mA:Str->Option Value):Prop where
 obj:h.get? x=some (W.instObj C dx)
 ns:h.Ns1 dx mA
 ne:dx≠x
theorem zbab{h:Heap}(n:h.Ns1 dx mA):∃f,h.get? dx=some f/\∀b,W.lookIn b f=some (mA b):=by
 obtain⟨o,d,p,l,j,i,_,k⟩:=n;refine⟨o,l,λb=>?_⟩;have e:=k b;unfold nsFind findBy at e;rw[←Array.find?_toList] at e;unfold W.lookIn;rw[j];dsimp only;split
 ·rename_i y q;rw[q] at e;exact congrArg some e
 ·rename_i q;rw[q] at e;have a:d.toList.any (·.refKey)=false:=by
   rw[List.any_eq_false];intro y g;obtain⟨z,t,c⟩:=i y (xly.mp g);simp[DictEntry.refKey,c]
  have m:¬ d.toList.any (·.refKey)=true:=by rw[a];exact xga
  rw[if_neg m];exact congrArg some e
theorem ObjM.look(I:ObjM h x dx C mA):∃b,W.InstAt h x (W.instObj C dx) C (some b)/\∀a,W.lookIn a b=some (mA a):=
 let ⟨b,ho,hl⟩:=zbab I.ns
 ⟨b,⟨I.obj,rfl,rfl,ho⟩,hl⟩
theorem RelO.some_of(r:RelO (some v) o):∃u,o=some u/\RelV v u:=by
 cases o with
 |none=>exact(show False from r).elim
 |some u=>exact⟨u,rfl,r⟩
theorem zboe(c:HOk P w H h)(e:H a=some (.ins C dx fs)):∃b,ObjM h a dx C b/\(∀f,RelO (fs.lookup f) (b f))/\PySem.Within b (fs.map (·.1))/\fs.length<=1000/\H dx=some (.own a):=by
 obtain⟨d,z,i,g,b,n,r,q⟩:=(show ObjOk P w H h a (.ins C dx fs) from c a _ e)
 exact⟨b,⟨g,n,i⟩,r,q,z,d⟩
structure Cls (K:Fg) (C:Addr):Prop where
 pg:W.plainGet K C Str.empty=true
 hd:W.hasDictIn K C=true
 po:W.plainOver K C=true
 sa:W.findIn K (.ref C) "__setattr__"=some (some (.builtin "object.__setattr__"))
theorem Cls.get{K:Fg}{C:Addr}(c:Cls K C)(f:Str):W.plainGet K C f=true:=c.pg
inductive TyOf (K:Fg) (H:Hp):V->Value->Prop where
 |non:TyOf K H .non (.type "NoneType")
 |bl (x:Bool):TyOf K H (.bl x) (.type "bool")
 |int (i:Int):TyOf K H (.int i) (.type "int")
 |str (x:Str):TyOf K H (.str x) (.type "str")
 |flt (x:UInt64):TyOf K H (.flt x) (.type "float")
 |lst {a:Addr}{xs:List V}(e:H a=some (.lst xs)):TyOf K H (.ref a) (.type "list")
 |frz {a:Addr}{o:Obj}{xs:List V}(e:H a=some (.frz o (.lst xs))):TyOf K H (.ref a) (.type "list")
 |tup {a:Addr}{xs:List V}(e:H a=some (.tup xs)):TyOf K H (.ref a) (.type "tuple")
 |dK {a:Addr}{kvs:List (Key×V)}(e:H a=some (.dK kvs)):TyOf K H (.ref a) (.type "dict")
 |dT {a:Addr}{kvs:List (List Key×V)}(e:H a=some (.dT kvs)):TyOf K H (.ref a) (.type "dict")
 |ins {a C dx:Addr}{fs:List (Str×V)}(e:H a=some (.ins C dx fs)) (cl:Cls K C) (ha:W.findIn K (.ref C) "__class__"=some (some (.builtin "object.__class__")))
  (hn:W.specialIn K (.builtin "object.__class__") "__get__"=some (some (.builtin "getset_descriptor.__get__")))(htk:W.takesIn K (.builtin "object.__class__")=some true)
  (hm:W.mroIn K C (.type "object")=some true):TyOf K H (.ref a) (.ref C)
theorem zbak(I:Inv X aU σ H s)(d:RelV x u)(m:TyOf X.K H x t)(e:W.kitOne X.K t c=some b)(h:∀k,Q (.bool b) {s with toks:=k}):
  wpAny (model X.prog X.w) A (call (.builtin "isinstance") [u,c]) Q E s:=by
 cases m with
 |non=>cases(show u=Value.none from d);exact xfm W.kitx_none I.kIn True.intro e (λz=>nomatch z) h
 |bl y=>cases(show u=Value.bool y from d);exact xfm W.kitx_bool I.kIn True.intro e (λz=>nomatch z) h
 |int i=>obtain⟨t,q⟩:=(show ∃t,u=Value.int i t from d);cases q;exact xfm W.kitx_int I.kIn True.intro e (λz=>nomatch z) h
 |str y=>obtain⟨t,q⟩:=(show ∃t,u=Value.str y t from d);cases q;exact xfm W.kitx_str I.kIn True.intro e (λz=>nomatch z) h
 |flt y=>obtain⟨t,q⟩:=(show ∃t,u=Value.float y t from d);cases q;exact xfm W.kitx_float I.kIn True.intro e (λz=>nomatch z) h
 |@lst a g ea=>
  cases(show u=Value.ref a from d);obtain⟨_,_,n,_,f⟩:=(show ObjOk X.prog X.w H s.heap a (.lst g) from I.hok a _ ea)
  exact xfm W.kitx_list I.kIn ⟨_,f,rfl⟩ e (λz=>nomatch z) h
 |@frz a ob g ea=>
  cases(show u=Value.ref a from d);obtain⟨_,_,_,n,_,f⟩:=(show ObjOk X.prog X.w H s.heap a (.frz ob (.lst g)) from I.hok a _ ea)
  exact xfm W.kitx_list I.kIn ⟨_,f,rfl⟩ e (λz=>nomatch z) h
 |@tup a g ea=>
  cases(show u=Value.ref a from d);obtain⟨_,_,_,p⟩:=(show ObjOk X.prog X.w H s.heap a (.tup g) from I.hok a _ ea)
  obtain⟨o,f,j,_⟩:=p;exact xfm W.kitx_tuple I.kIn ⟨o,f,j⟩ e (λz=>nomatch z) h
 |@dK a kvs ea=>
  cases(show u=Value.ref a from d);obtain⟨_,_,w,_,p⟩:=(show ObjOk X.prog X.w H s.heap a (.dK kvs) from I.hok a _ ea)
  obtain⟨o,l,r,f,j,_⟩:=p;exact xfm W.kitx_dict I.kIn ⟨o,f,j.1⟩ e (λz=>nomatch z) h
 |@dT a kvs ea=>
  cases(show u=Value.ref a from d);obtain⟨_,_,g,_,o,l,r,f,j,_⟩:=(show ObjOk X.prog X.w H s.heap a (.dT kvs) from I.hok a _ ea)
  exact xfm W.kitx_dict I.kIn ⟨o,f,j.1⟩ e (λz=>nomatch z) h
 |@ins a C dx fs ea cl ha hn htk hm=>
  cases(show u=Value.ref a from d);obtain⟨v,O,_⟩:=zboe I.hok ea;obtain⟨G,J,_⟩:=O.look;exact xfm (W.kitx_own (cl.get _) cl.hd ha hn htk hm) I.kIn J e (λz=>nomatch z) h
structure Room (k:Nat) (A:Around):Prop where
 hd:A.handled=none
 dp:A.depth+3*k+5<recursionLimit
 un:A.units+16*k+200<cLine
theorem Room.mono(r:Room k A)(h:j<=k):Room j A:=⟨r.hd,by have:=r.dp;lia,by have:=r.un;lia⟩
theorem Room.deeper(r:Room (k+1) A)(a:Env):Room k (A.deeper a):=
 ⟨r.hd,by have:=r.dp;show A.depth+1+3*k+5<_;lia,by have:=r.un;show A.units+3+16*k+200<_;lia⟩
theorem Room.depth(r:Room k A):A.depth<recursionLimit:=by have:=r.dp;lia
theorem Room.units(r:Room k A):A.units+64<cLine:=by have:=r.un;lia
theorem Room.units0(r:Room k A):A.units<cLine:=by have:=r.un;lia
def tNil:TA:=λ_ H Q=>Q [] H
def tCons(c:TE) (a:TA):TA:=λσ H Q=>c σ H λx H1=>a σ H1 λb H2=>Q (x::b) H2
theorem zbmm:PA X [] tNil:=λ_ _ _ _ H Q I h=>xlb ⟨[],H,I,.nil,h⟩
theorem zbcl(k:PE X e te)(g:PA X es t)(l:starEach (e::es) X.env=(false,eval e X.env)::starEach es X.env:=by rfl):PA X (e::es) (tCons te t):=by
 intro a c s σ H Q I h;rw[l];show wpAny _ _ (spliced ((false,eval e X.env)::backTo a (starEach es X.env))) _ _ s;refine xja (thn (k c s σ H _ I h) λu o b=>?_);obtain⟨x,H1,n,f,i⟩:=b;exact thn (g a c o σ H1 _ n i) λq r ⟨m,H2,j,p,d⟩=>⟨x::m,H2,j,.cons f p,d⟩
def tTup(t:TA):TE:=λσ H Q=>t σ H λa H1=>a.length<=sizeLine/\∀p,H1 p=none->Q (.ref p) (upd H1 p (.tup a))
def tLst(t:TA):TE:=λσ H Q=>t σ H λa H1=>a.length<=sizeLine/\∀p,H1 p=none->Q (.ref p) (upd H1 p (.lst a))
theorem zbso{x1}(h:PA X es t):PE X (.Tuple es x1 pos) (tTup t):=by
 intro f s σ H Q I j;refine wpAny_Tuple_spliced (thn (h pos f s σ H _ I j) λd a ⟨i,H1,c,r,z,q⟩=>⟨by rw[←r.length];exact z,?_⟩);have g:H1 a.heap.objs.size=none:=c.hok.fresh (xbj _);refine⟨.ref a.heap.objs.size,upd H1 a.heap.objs.size (.tup i),c.laid (t':=a.toks) (λb u e=>xbh _ e) (xbj _) ?_,rfl,q _ g⟩;exact⟨z,d,r,⟨_,xcb _ rfl,rfl,_,rfl⟩⟩
theorem zbmf(h:PA X es t):PE X (.List es pos) (tLst t):=by
 intro f s σ H Q I j;refine wpAny_List_spliced (thn (h pos f s σ H _ I j) λd a ⟨i,H1,c,r,z,q⟩=>⟨by rw[←r.length];exact z,?_⟩);have g:H1 a.heap.objs.size=none:=c.hok.fresh (xbj _);refine⟨.ref a.heap.objs.size,upd H1 a.heap.objs.size (.lst i),c.laid (t':=a.toks) (λb u e=>xbh _ e) (xbj _) ?_,rfl,q _ g⟩;exact⟨z,d,0,r,xcb _ rfl⟩
abbrev Sp:=List V->Hp->VK->XK->Prop
abbrev CXT:=List Env->Hp->Shared->XK->Value->Shared->Prop
structure Env0 (P:Program) (w:World) (K:Fg) (mg:Str->Option Value) (base:Heap) (A:Around) (outer:List Env) (s:Shared) (H:Hp):Prop where
 frames:A.frames=some outer
 mod:Mod K mg base
 bs:∀b o,base.get? b=some o->s.heap.get? b=some o/\H b=none
 bsz:base.objs.size<=s.heap.objs.size
 funs:s.heap.FunFrames base outer
 frf:∀b∈frs outer,H b=none
 hok:HOk P w H s.heap
 bare:AllBare s.gens
def CE(a:List Env) (P:Program) (w:World) (H:Hp) (s:Shared) (Q:VK) (u:Value) (b:Shared):Prop:=
 ∃v c,b.os=s.os/\AllBare b.gens/\Un (frs a) [] H c s.heap b.heap/\HOk P w c b.heap/\RelV v u/\Q v c
def CR(c:CXT) (a:List Env) (P:Program) (w:World) (H:Hp) (s:Shared) (Q:VK) (E:XK) (r:Result) (b:Shared):Prop:=
 match r with
 |.ok (.ret u)=>CE a P w H s Q u b
 |.ok _=>False
 |.error e=>c a H s E e b
structure FnOk (P:Program) (w:World) (K:Fg) (mg:Str->Option Value) (base:Heap) (CX:CXT) (k:Nat) (f:Addr) (fd:FuncData) (ps:List Str) (sp:Sp):Prop where
 len:∀vs H Q E,sp vs H Q E->vs.length=ps.length
 run:∀(A:Around) (outer:List Env) (s:Shared) (H:Hp) (args:Args) (us:List Value) (vs:List V) (Q:VK) (E:XK),Room k A->Env0 P w K mg base A outer s H->BindsTo s fd args (ps.zip us)->Vals vs us->sp vs H Q E ->
  codeAny (model P w) A (.call (.ref f) args) (CR CX outer P w H s Q E) s
theorem Inv.env0(I:Inv X aU σ H s):Env0 X.prog X.w X.K X.mg X.base X.A X.stack s H:=
 ⟨I.ok.frames,I.ok.mod,I.bs,xbc I.ok.bsz I.sz,I.stack,I.stkFree,I.hok,I.bare⟩
theorem Inv.after(I:Inv X aU σ H s)(h:CE X.stack X.prog X.w H s Q u s'):EP X aU σ Q u s':=by
 obtain⟨v,i,os,a,j,e,r,q⟩:=h;obtain⟨f,g,d,t,c⟩:=s';obtain rfl:c=s.os:=os;exact⟨v,i,I.call (h':=f) (g':=g) (d':=d) (t':=t) (ch:=[]) j e a (λb z=>absurd z (by simp)),r,q⟩
def tCall(c:Sp) (a:List V) (E:XK) (t:TA):TE:=λσ H Q=>t σ H λb H1=>c (b++a) H1 Q E
noncomputable def Binds(K:Fg) (d:FuncData) (c:List Str) (b:List Value):Prop:=
 ∀(s:Shared) (a:List Value),K.In s.heap->(a++b).length=c.length->BindsTo s d ⟨a,[]⟩ (c.zip (a++b))
theorem Binds.all{K:Fg}{b:List Str}(h:∀a:List Value,a.length=b.length->bindArgs fd ⟨a,[]⟩=pure (b.zip a)):Binds K fd b []:=λs a _ c=>by
 rw[xei] at c ⊢;exact .of_eq (h a c)
def Passes(b:CXT) (X:Cx) (E:XK):Prop:=∀(c:List (Addr×Obj)) (σ:St) (H:Hp) (s:Shared) (e:Value) (a:Shared),Inv X c σ H s->b X.stack H s E e a->X.xe e a
theorem zbrz{X:Cx}(F:FnOk X.prog X.w X.K X.mg X.base CX k f fd ps sp)(d:Room k X.A)(l:Binds X.K fd ps ds)(g:Vals dvs ds)(i:Passes CX X E)
  (I:Inv X aU σ H s)(r:Vals vs us)(h:sp (vs++dvs) H Q E):wpAny (model X.prog X.w) X.A (call (.ref f) us) (EP X aU σ Q) X.xe s:=by
 have b:Vals (vs++dvs) (us++ds):=r.append g;have c:(us++ds).length=ps.length:=by rw[←b.length];exact F.len _ _ _ _ h
 refine wpAny_call (xjv (F.run X.A X.stack s H ⟨us,[]⟩ (us++ds) (vs++dvs) Q E d I.env0 (l s us I.kIn c) b h) λr j a=>?_);cases r with
 |error e=>exact i aU σ H s e j I a
 |ok fl=>
  cases fl with
  |ret u=>exact I.after a
  |next=>exact False.elim a
  |brk=>exact False.elim a
  |cont=>exact False.elim a
theorem zbmk{X:Cx}(F:FnOk X.prog X.w X.K X.mg X.base CX k f fd ps sp)(i:Room k X.A)(d:Gl X x)(v:X.mg x=some (.ref f))(l:W.keepIn X.K (.ref f)=true)(u:Binds X.K fd ps ds)(m:Vals dvs ds)(o:Passes CX X E)
  (n:PA X (e::es) t)(a:(x==("__debug__" : Str))=false:=by decide)(j:starEach (e::es) X.env=(false,eval e X.env)::starEach es X.env:=by rfl)(b:(backTo pos (starEach es X.env)).any (·.1)=false:=by rfl):
  PE X (.Call (.Name x p) (e::es) [] pos) (tCall sp dvs E t):=by
 intro g s σ H Q I h;refine xkq (zbdc I d v ?_ a);refine W.callWith_K (h₀:=X.base) I.ok.mod.kin l (thn (n pos g s σ H _ I h) λw z ⟨y,H1,c,r,q⟩=>⟨c.kIn,?_⟩) j b;exact zbrz F i u m o c r q
structure FnScope (N P:List Str) (sc:Scope):Prop where
 kind:sc.kind=.function
 co:sc.isCoroutine=false
 gen:sc.isGenerator=false
 nd:N.Nodup
 pre:N.take P.length=P
 par:∀x∈P,sc.names.lookup x=some .local\/sc.names.lookup x=some .cell
 nofree:∀y∈sc.names,y.2≠.free
theorem zrw{kindOf:Str->Option NameKind}:∀{a:List (Str×Value)}{m:Str->Option Value},(∀v,(x,v)∉a)->bindL kindOf a m x=m x
 |[],_,_=>rfl
 | (n,v)::r,m,h=>by
  unfold bindL;rw[zrw λw b=>h w (xbf _ b)];split
  ·have:x≠n:=by rintro rfl;exact h v xbv
   simp[this]
  ·rfl
theorem zry{kindOf:Str->Option NameKind}:∀{a:List (Str×Value)}{m:Str->Option Value},(∀v,(x,v)∉a)->bindC kindOf a m x=m x
 |[],_,_=>rfl
 | (n,v)::r,m,h=>by
  unfold bindC;rw[zry λw b=>h w (xbf _ b)];split
  ·rfl
  ·have:x≠n:=by rintro rfl;exact h v xbv
   simp[this]
theorem zrx{kindOf:Str->Option NameKind}:∀{P:List Str}{a:List Value}{i:Nat}{m:Str->Option Value},P.Nodup->P[i]?=some x->a[i]?=some v->kindOf x=some .local ->
  bindL kindOf (P.zip a) m x=some v
 |[],_,_,_,_,h,_,_=>by simp at h
 |_::_,[],_,_,_,_,h,_=>by simp at h
 |p::P,w::a,0,m,nd,h1,h2,hk=>by
  simp at h1 h2;subst h1;subst h2
  show bindL kindOf ((p,w)::P.zip a) m p=_;unfold bindL;rw[zrw λv b=>(xdf.mp nd).1 (xke b).1,if_pos hk];simp
 |p::P,w::a,i+1,m,nd,h1,h2,hk=>by
  show bindL kindOf ((p,w)::P.zip a) m x=_;unfold bindL;exact zrx (i:=i) (xdf.mp nd).2 (by simpa using h1) (by simpa using h2) hk
theorem zrz{kindOf:Str->Option NameKind}:∀{P:List Str}{a:List Value}{i:Nat}{m:Str->Option Value},P.Nodup->P[i]?=some x->a[i]?=some v->kindOf x≠some .local ->
  bindC kindOf (P.zip a) m x=some v
 |[],_,_,_,_,h,_,_=>by simp at h
 |_::_,[],_,_,_,_,h,_=>by simp at h
 |p::P,w::a,0,m,nd,h1,h2,hk=>by
  simp at h1 h2;subst h1;subst h2
  show bindC kindOf ((p,w)::P.zip a) m p=_;unfold bindC;rw[zry λv b=>(xdf.mp nd).1 (xke b).1,if_neg hk];simp
 |p::P,w::a,i+1,m,nd,h1,h2,hk=>by
  show bindC kindOf ((p,w)::P.zip a) m x=_;unfold bindC;exact zrz (i:=i) (xdf.mp nd).2 (by simpa using h1) (by simpa using h2) hk
def start(N:List Str) (a:List V):St:=a.map some++List.replicate (N.length-a.length) none
def cxOf(g:CXT) (P:Program) (w:World) (K:Fg) (mg:Str->Option Value) (base:Heap) (N:List Str) (b:Str) (a:Scope) (f:Addr) (d:Value) (A:Around) (outer:List Env) (s:Shared) (H:Hp) (E:XK):Cx where
 prog:=P
 w:=w
 K:=K
 mg:=mg
 base:=base
 A:=A.deeper (envOfC b a s.heap.objs.size f d)
 N:=N
 s₀:=s
 H₀:=H
 env:=envOfC b a s.heap.objs.size f d
 outer:=outer
 stack:=envOfC b a s.heap.objs.size f d::outer
 ex:=[]
 calm:=true
 fn:=λ_=>true
 pn:=[]
 xe:=λe i=>wpAny (model P w) (A.deeper (envOfC b a s.heap.objs.size f d)) (leaving (envOfC b a s.heap.objs.size f d) e) (λ_ c=>g outer H s E e c) (λh c=>g outer H s E h c) i
theorem zxa{a:Scope}(h:a.names.lookup x=some .cell):∃c,(cellsFrom n a.names []).lookup x=some c:=by
 have q:=W.cellsFrom_some a.names n [] (.inl h);exact Option.isSome_iff_exists.mp q
theorem zbal{K:Fg}{N:List Str}{A:Around}{l:List V}
  (S:FnScope N ps scope)(J:A.handled=none)(g:Env0 P w K mg base A outer s H)(hl:l.length=ps.length)(r:Vals l us)
  (x:InCallC s s.heap.objs.size (bindL (envOfC qual scope s.heap.objs.size f cd).kindOf (ps.zip us) λ_=>none) (cellsFrom (s.heap.objs.size+1) scope.names []) (bindC (envOfC qual scope s.heap.objs.size f cd).kindOf (ps.zip us) λ_=>none) s1):
  Inv (cxOf CX P w K mg base N qual scope f cd A outer s H E) [] (start N l) H s1:=by
 have X:ps.length<=N.length:=by have:=congrArg List.length S.pre;rw[xcq] at this;lia
 obtain⟨C,Y,rfl,I⟩:=x.done;have j:∀b:Addr,b∉(cxOf CX P w K mg base N qual scope f cd A outer s H E).ex:=λb z=>absurd (show b∈([]:List Addr) from z) (by simp)
 refine⟨⟨g.mod,S.kind,rfl,rfl,xbj _,λy z c C d=>?_,λy hy=>?_,λy c _ h=>?_,λ_=>J,Around.frames_deeper g.frames,.inr ⟨rfl,rfl⟩,λb z=>absurd z (j b),g.bs,g.bsz,λb _ _=>j b,λb z=>absurd z (j b),g.funs,g.frf⟩,
  rfl,g.bare,Un.kept I,⟨_,x.toInCall.ns,λi y v C d h3=>?_⟩,λy c h=>⟨_,x.cell y c h⟩,g.hok.fresh (xbj _),λy c h=>?_,λp m=>absurd (show p∈([]:List (Addr×Obj)) from m) (by simp),g.hok.kept I,?_,Hnd.none J⟩
 ·exact name_of_addr x.apart (xhj C) (xhj d)
 ·have hy:scope.names.lookup y=some .cell\/scope.names.lookup y=some .free:=hy;rcases hy with hy|hy
  ·exact zxa hy
  ·exact absurd rfl (S.nofree _ (xhj hy))
 ·exact xcg (x.above y c (xhj h))
 ·have t:i<l.length:=by
   unfold start at d;by_cases t:i<l.length
   ·exact t
   ·rw[xdm (by simpa using t)] at d;rw[List.getElem?_replicate] at d;split at d<;>cases d
  have U:l[i]?=some v:=by
   unfold start at d;rw[xby (by simpa using t),xcl] at d;cases e:l[i]? with
   |none=>rw[e] at d;cases d
   |some a=>rw[e] at d;cases d;rfl
  obtain⟨u,G,Q⟩:=r.get U;have m:ps[i]?=some y:=by
   rw[←S.pre,xkk (by lia)];exact C
  have o:ps.Nodup:=by rw[←S.pre];exact S.nd.sublist (xlc _ _)
  refine⟨u,Q,?_⟩;rcases S.par y (xbo m) with k|k
  ·exact .inl ⟨k,zrx o m G k⟩
  ·obtain⟨c,e⟩:=zxa (n:=s.heap.objs.size+1) k;refine .inr ⟨.inl k,c,e,?_⟩;have q:=x.cell y c e;rw[zrz o m G (by show scope.names.lookup y≠_;rw[k];decide)] at q;exact q
 ·exact g.hok.fresh (xcg (x.above y c (xhj h)))
 ·unfold start;show _=N.length;rw[xbk,xbb,xhz];lia
theorem zbyh{K:Fg}{kV:Value}
     {N:List Str}(lk:K.lookup f=some ⟨oc,od,.func (W.fnOf name qual params body scope dV kV doc pm an cdv ct),osl⟩)(U:W.codeIn K cdv qual=true)(S:FnScope N ps scope)
    (l:∀ c H Q E,sp c H Q E->c.length=ps.length)
    (h:∀(A:Around) (a:List Env) (s:Shared) (H:Hp) (c:List V) (Q:VK) (E:XK),Room k (A.deeper (envOfC qual scope s.heap.objs.size f cdv))->sp c H Q E ->
      ∃ t,PSs (cxOf CX P w K mg base N qual scope f cdv A a s H E) body t/\t { nx:=λ_ d=>Q .non d,rt:=Q } (start N c) H):
    FnOk P w K mg base CX (k + 1) f (W.fnOf name qual params body scope dV kV doc pm an cdv ct) ps sp:=by
  refine⟨l,λA a s H a0 us c Q E C j hb r m=>?_⟩;have hl:=l _ _ _ _ m;have KX:K.In s.heap:=j.mod.kin.keeps λb o e=>(j.bs b o e).1
  have Y:s.heap.NoLimit:=j.mod.nolimit.keeps λb o e=>(j.bs b o e).1
  have g:∀ y∈ps.zip us,scope.names.lookup y.1=some .local\/(scope.names.lookup y.1=some .cell/\((cellsFrom (s.heap.objs.size + 1) scope.names []).lookup y.1).isSome=true):=λG hy=>by
    obtain⟨n,v⟩:=G;rcases S.par n (xke hy).1 with q|q
    · exact .inl q
    · exact .inr ⟨q,W.cellsFrom_some _ _ _ (.inl q)⟩
  refine codeAny_call_function C.depth (KX _ _ lk) rfl S.co S.gen rfl (W.codeRec_of KX U) (hb _ _ _ _ ?_);refine wpAny_newFunctionEnv_cells S.kind g λa1 he s1 x=>?_
  subst he;refine⟨Y.keeps x.toInCall.keep,codeAny_func ?_⟩;obtain⟨t,ht,hq⟩:=h A a s H c Q E (C.deeper _) m;have I:Inv (cxOf CX P w K mg base N qual scope f cdv A a s H E) [] (start N c) H s1:=zbal S C.hd j hl r x;refine xey (ht [] s1 (start N c) H _ I hq) (λfl s' i=>?_) λe s' i=>i
  have p:∀{z:St}{d:Hp}{v:V}{u:Value},Inv (cxOf CX P w K mg base N qual scope f cdv A a s H E) [] z d s'->RelV v u->Q v d->CE a P w H s Q u s':=
    λ{z d v u} J X q=>⟨v,d,J.os,J.bare,J.base,J.hok,X,q⟩
  cases fl with
  |ret u=>
    obtain⟨v,z,d,J,X,q⟩:=i;exact p J X q
  |next=>
    obtain⟨z,d,J,q⟩:=i;exact p (v:=V.non) (u:=Value.none) J rfl q
  |brk=>
    obtain⟨_,_,_,q⟩:=i;exact False.elim q
  |cont=>
    obtain⟨_,_,_,q⟩:=i;exact False.elim q
def tCB(r:List V->Hp->VK->Prop) (t:TA):TE:=λσ H Q=>t σ H λa H1=>r a H1 Q
theorem zvc{id:String}(q:CallR X (.builtin id) r)(d:Gl X x)(u:X.mg x=none)(v:bootBuiltins x=some (.builtin id))(m:PA X (e::es) t)(i:x≠"__name__":=by decide)(a:(x==("__debug__" : Str))=false:=by decide)
  (j:starEach (e::es) X.env=(false,eval e X.env)::starEach es X.env:=by rfl)(b:(backTo pos (starEach es X.env)).any (·.1)=false:=by rfl):PE X (.Call (.Name x p) (e::es) [] pos) (tCB r t):=by
 intro c s σ H Q I h;refine xkq (zoz I d u v ?_ i a);exact PyProof.Rows.callWith_builtin1 (thn (m pos c s σ H _ I h) λf l ⟨n,H1,o,g,k⟩=>q c l σ H1 n f Q o g k) j b
theorem zqm{T:String}(q:CallR X (.type T) r)(d:Gl X x)(u:X.mg x=none)(v:bootBuiltins x=some (.type T))(m:PA X (e::es) t)(i:x≠"__name__":=by decide)(a:(x==("__debug__" : Str))=false:=by decide)
  (j:starEach (e::es) X.env=(false,eval e X.env)::starEach es X.env:=by rfl)(b:(backTo pos (starEach es X.env)).any (·.1)=false:=by rfl):PE X (.Call (.Name x p) (e::es) [] pos) (tCB r t):=by
 intro c s σ H Q I h;refine xkq (zoz I d u v ?_ i a);exact xhs (thn (m pos c s σ H _ I h) λf l ⟨n,H1,o,g,k⟩=>q c l σ H1 n f Q o g k) j b
end L2
namespace HT
open PyProof.Rows
noncomputable def lexLt:List Int->List Int->Bool
 |[],[]=>false
 |[],_::_=>true
 |_::_,[]=>false
 |x::xs,y::ys=>if x=y then lexLt xs ys else decide (x<y)
theorem zdh(x y:Int)(a b:List Int):lexLt (x::a) (y::b)=if x=y then lexLt a b else decide (x<y):=rfl
theorem zej:lexLt [] []=false:=rfl
theorem zcg(y:Int)(a:List Int):lexLt [] (y::a)=true:=rfl
theorem zdr(x:Int)(a:List Int):lexLt (x::a) []=false:=rfl
theorem zbho(A:Around)(s:Shared)(a:Int)(t:Tok)(c:Int)(u:Tok):∃e,SeqAt.EqAt A s (.int a t) (.int c u) e/\(e=true↔a=c):=
 ⟨(a==c),SeqAt.EqAt.int_int a t c u,by simp⟩
theorem zbfe(A:Around)(s:Shared)(a:Int)(t:Tok)(c:Int)(u:Tok)(b:Program)(w:World)(E:Value->Shared->Prop)(Q:Value->Shared->Prop)(h:Q (.bool (decide (a<c))) s):
  wpAny (model b w) A (richCompare .Lt (.int a t) (.int c u)) Q E s:=
 (PyProof.Rows.lt_int h:wpAny (model b w) A (compareOp .Lt (.int a t) (.int c u)) Q E s)
section
open SeqAt
open PySem.AutoSeq1 (wpAny_loadPart')
open MeetsSeq MeetsSeq2 MeetsSeq3
theorem zgw(l b:Addr)(i f:Array Value)(n n2:Nat)(dd a1:Option Addr)(sl Y:Array (Option Value))(P J:List Int)(hi:IntsAre i.toList P)(hj:IntsAre f.toList J):
  Meets (Builtin.«tuple.__lt__» ⟨[.ref l,.ref b],[]⟩)
   (λ_ R s=>s.heap.get? l=some { cls:=.type "tuple",dict:=dd,data:=.seq i n,slots:=sl }/\s.heap.get? b=some { cls:=.type "tuple",dict:=a1,data:=.seq f n2,slots:=Y } /\
    R (.ok (.ret (.bool (lexLt P J)))) s):=
 .of_wp λC w A R s h=>by
  obtain⟨S,g,d,I,os⟩:=s;obtain⟨hl,hb,h⟩:=h
  have f2:=AutoSeq1.sub_tuple_tuple;have z1:i.size=P.length:=by rw[←hi.length];simp
  have z2:f.size=J.length:=by rw[←hj.length];simp
  wp_walk using wpAny_loadPart' hl,wpAny_loadPart' hb,wpAny_forIn_list _ (λr b s'=>b.1=none/\s'=⟨S,g,d,I,os⟩/\∃(U Q:List Value) (k m:List Int),r=U.zip Q /\
   IntsAre U k/\IntsAre Q m/\k.length+f.size=m.length+i.size/\R (.ok (.ret (.bool (lexLt k m)))) ⟨S,g,d,I,os⟩) _
  case turn=>
   rintro⟨y,x⟩ r b s' ⟨G,rfl,U,Q,k,m,o,E,p,j,v⟩;cases E with
   |nil=>rw[List.zip_nil_left] at o;cases o
   |cons a t hvi'=>
    cases p with
    |nil=>rw[List.zip_nil_right] at o;cases o
    |cons c u hwi'=>
     rw[xms] at o;injection o with X H
     injection X with hy hx
     subst hy hx;rw[zdh] at v;simp only[xbt] at j;obtain⟨e,he,z⟩:=zbho A.in1 ⟨S,g,d,I,os⟩ a t c u;refine xba (he C w _ _ ?_);cases e with
     |true=>
      rw[if_pos (z.mp rfl)] at v
      wp_walk
      exact⟨rfl,rfl,_,_,_,_,H,hvi',hwi',by lia,v⟩
     |false=>
      rw[if_neg (λq=>absurd (z.mpr q) xga)] at v;have a0:=zbfe A.in1 ⟨S,g,d,I,os⟩ a t c u C w
      wp_walk using a0
      exact⟨_,rfl,by simpa using v⟩
  case fin=>
   rintro⟨b1,b2⟩ s' ⟨G,rfl,U,Q,k,m,o,E,p,j,v⟩;simp only at G;subst G;have hv:lexLt k m=decide (i.size<f.size):=by
    cases E with
    |nil=>
     cases p with
     |nil=>
      simp only[xjb] at j;rw[zej];exact(xcd (by lia)).symm
     |cons c u hw=>
      simp only[xjb,xbt] at j;rw[zcg];exact(xbw (by lia)).symm
    |cons a t hv=>
     cases p with
     |nil=>
      simp only[xjb,xbt] at j;rw[zdr];exact(xcd (by lia)).symm
     |cons c u hw=>
      rw[xms] at o;cases o
   rw[hv] at v
   wp_walk
   exact⟨_,rfl,by simpa [Builtin.Tuple.tupleCompareSizes] using v⟩
  case h=>
   exact⟨rfl,rfl,i.toList,f.toList,P,J,rfl,hi,hj,by lia,h⟩
end
theorem zmz{A:Around}{s:Shared}(o:IsTup s.heap l items)(q:IsTup s.heap b items2)(t:IntsAre items.toList ns)(u:IntsAre items2.toList ms)
  (z:A.units<cLine)(h:Q (.bool (lexLt ns ms)) s):wpAny (model prog w) A (compareOp .Lt (.ref l) (.ref b)) Q E s:=by
 obtain⟨⟨r,y,g,v⟩,m,i,n,j⟩:=id o;obtain⟨⟨k,f,data2,e⟩,c,a,p,d⟩:=id q;simp only at i j a d;subst i j a d;exact richCompare_meets_room (op:=.Lt) ⟨_,m,rfl⟩ ⟨_,c,rfl⟩ xlu F.entry_tuple_lt (F.args_tuple_lt_2 _ _) (zgw l b items items2 n p y f v e ns ms t u)
  ⟨m,c,show Value.bool (lexLt ns ms)≠Value.notImplemented/\Q (.bool (lexLt ns ms)) s from⟨(λx=>nomatch x),h⟩⟩ z
theorem zbpy{s:Shared}{d a:List Value}(z:IsTup s.heap t d.toArray)(x:IsTup s.heap b a.toArray)(o:d≠[])
  (y:a=[]->Q (.ref t) s)(v:a≠[]->Q (.ref s.heap.objs.size) { s with heap:=s.heap.push { cls:=.type "tuple",data:=.seq (d++a).toArray } })
  (k:d.length+a.length<=sizeLine):wpAny (model prog w) A (binaryOp .Add (.ref t) (.ref b)) Q E s:=by
 obtain⟨⟨cls,r,data,p⟩,j,m,n,q⟩:=id z;obtain⟨⟨u,h,data2,g⟩,c,f,l,i⟩:=id x;simp only at m q f i;subst m q f i;have e:d.toArray++a.toArray=(d++a).toArray:=by simp
 by_cases hw:a=[]
 ·exact concat_meets ⟨_,j,rfl⟩ ⟨_,c,rfl⟩ noFill_tuple_add seq_tuple_add xlh xkw (xkl _ _)
   (tuple_addW1 t b d.toArray a.toArray n l r h p g (by simpa using o) (by simp[hw])) ⟨j,c,y hw⟩
 ·refine concat_meets ⟨_,j,rfl⟩ ⟨_,c,rfl⟩ noFill_tuple_add seq_tuple_add xlh xkw (xkl _ _)
   (tuple_addW2 t b d.toArray a.toArray n l r h p g (by simpa using o) (by simpa using hw) (by rw[xcc,xcc];exact k)) ⟨j,c,?_⟩
  rw[e];exact v hw
noncomputable def sIx(n d:Nat):Option Int->Nat
 |none=>d
 |some v=>if v<0 then(v+(n:Int)).toNat else min v.toNat n
theorem zuo(n d:Nat):sIx n d none=d:=rfl
theorem zbce(n d k:Nat):sIx n d (some (k:Int))=min k n:=by
 show(if(k:Int)<0 then((k:Int)+(n:Int)).toNat else min (k:Int).toNat n)=min k n;rw[if_neg (by lia),xdx]
theorem zbrw(n d:Nat)(a:d<=n)(o:Option Int):sIx n d o<=n:=by
 cases o with
 |none=>exact a
 |some v=>
  show(if v<0 then(v+(n:Int)).toNat else min v.toNat n)<=n;by_cases hv:v<0
  ·rw[if_pos hv];lia
  ·rw[if_neg hv];exact xgr _ _
theorem zbdv(v:Int)(n d:Nat):(if v<0 then max (v+(n:Int)) 0 else min v (n:Int))=((sIx n d (some v):Nat):Int):=by
 show(if v<0 then max (v+(n:Int)) 0 else min v (n:Int))=(((if v<0 then(v+(n:Int)).toNat else min v.toNat n):Nat):Int)
 by_cases hv:v<0
 ·simp only[if_pos hv];lia
 ·simp only[if_neg hv];lia
theorem zxv(lo a:Option Int)(n:Nat):Builtin.Slice.sliceAdjust lo a 1 (n:Int)=(((sIx n 0 lo:Nat):Int),((sIx n n a:Nat):Int)):=by
 have b:¬ ((1:Int)<0):=by lia
 unfold Builtin.Slice.sliceAdjust;simp only[b,xfa];refine Prod.ext ?_ ?_
 ·cases lo with
  |none=>rfl
  |some v=>exact zbdv v n 0
 ·cases a with
  |none=>rfl
  |some v=>exact zbdv v n n
theorem zvb(i j:Nat):Builtin.Slice.slicePlaces (i:Int) (j:Int) 1=j-i:=by
 unfold Builtin.Slice.slicePlaces;have a:(1:Int) > 0:=by lia
 simp only[a,xfl,Int.ediv_one];split<;>lia
theorem zmm(p:IsPart v o)(h:Q o s):wpAny (model prog w) A (Builtin.Slice.slicePartIndex v) Q E s:=by
 cases p with
 |none=>exact slicePart_none h
 |int i t=>exact slicePart_int h
theorem zeh{s:Shared}{lo b:Option Int}{n:Nat}(g:s.heap.IsSliceOf sl vl vu .none)(e:IsPart vl lo)(f:IsPart vu b)
  (h:Q (((sIx n 0 lo:Nat):Int),1,sIx n n b-sIx n 0 lo) s):wpAny (model prog w) A (Builtin.Slice.sliceApplied (.ref sl) (pure (n:Int))) Q E s:=by
 obtain⟨os,a,d,c⟩:=id g;unfold Builtin.Slice.sliceApplied Builtin.Slice.sliceFields;refine xba (xba (xik a c (x:=vl) rfl (xba (xik a c (x:=vu) rfl (xba (xik a c (x:=.none) rfl (xbg ?_)))))));refine xba (slicePart_none ?_);show wpAny _ _ (if((1:Int)==0)=true then _ else _) _ _ s;rw[if_neg (by decide)];refine xba (zmm e (xba (zmm f (xba (xbg ?_)))));show wpAny _ _ (match Builtin.Slice.sliceAdjust lo b 1 (n:Int) with|(lo,b)=>pure (lo,(1:Int),Builtin.Slice.slicePlaces lo b 1)) _ _ s;rw[zxv lo b n];show wpAny _ _ (pure (((sIx n 0 lo:Nat):Int),(1:Int),Builtin.Slice.slicePlaces ((sIx n 0 lo:Nat):Int) ((sIx n n b:Nat):Int) 1)) _ _ s;rw[zvb];exact xbg h
theorem zbfm(a:Array Value)(i k:Nat):((List.range k).filterMap λ(m:Nat)=>a[((i:Int)+(m:Int)*1).toNat]?).toArray=((a.toList.drop i).take k).toArray:=by
 have e:(λ(m:Nat)=>a[((i:Int)+(m:Int)*1).toNat]?)=λm=>a[i+m]?:=by
  funext m
  have:((i:Int)+(m:Int)*1).toNat=i+m:=by lia
  rw[this]
 rw[e];have:=pick_run a i k;rw[List.filterMap_map] at this;have b:((λx=>a[x]?) ∘ λx=>i+x)=λm=>a[i+m]?:=rfl
 rw[b] at this;rw[this]
theorem zhi{s:Shared}{lo:Option Int}(b:IsTup s.heap t items)(g:s.heap.IsSliceOf sl vl vu .none)(j:IsPart vl lo)(l:IsPart vu hi)
  (i:¬ (sIx items.size 0 lo=0/\sIx items.size items.size hi=items.size))
  (h:Q (.ref s.heap.objs.size) { s with heap:=s.heap.push { cls:=.type "tuple",data:=.seq ((items.toList.drop (sIx items.size 0 lo)).take (sIx items.size items.size hi-sIx items.size 0 lo)).toArray } })
  (k:items.size<=sizeLine):wpAny (model prog w) A (getItem (.ref t) (.ref sl)) Q E s:=by
 have a:sizeOk (.seq ((items.toList.drop (sIx items.size 0 lo)).take (sIx items.size items.size hi-sIx items.size 0 lo)).toArray):=by
  show((items.toList.drop (sIx items.size 0 lo)).take (sIx items.size items.size hi-sIx items.size 0 lo)).toArray.size<=sizeLine;rw[xcc,xcq,xgb,xci];lia
 have p:sIx items.size items.size hi<=items.size:=zbrw _ _ (xbj _) hi;obtain⟨os,c,d,n⟩:=id g;have f:s.TypeIs (.ref sl) "slice":=⟨os,c,d⟩
 unfold getItem
 try with_reducible refine xet ?_
 first|refine xba (xbg ?_)|skip
 refine xba (wpAny_sequenceKey b.typeIs (by decide) ?_)
 refine xba (wpAny_callSpecial?_slot (name:=Str.ofString "__getitem__") b.typeIs xit
  (xep xit b.typeIs entry_tuple_getitem ?_ (args_tuple_getitem _ _)))
 show wpAny _ _ (Builtin.Tuple.tupleItemsOf (.ref t) >>= _) _ _ s;refine xba (tupleItemsOf_ b ?_);refine xba (wpAny_typeOf f ?_);rw[if_pos (by decide)];refine xba (zeh g j l ?_);have e:¬ ((((sIx items.size 0 lo:Nat):Int)==0&&(1:Int)==1&&(sIx items.size items.size hi-sIx items.size 0 lo)==items.size)=true):=by
  intro q;rw[xcy,xcy] at q;have o:((sIx items.size 0 lo:Nat):Int)=0:=eq_of_beq q.1.1;have r:sIx items.size items.size hi-sIx items.size 0 lo=items.size:=eq_of_beq q.2;exact i ⟨by lia,by lia⟩
 show wpAny _ _ (if(((sIx items.size 0 lo:Nat):Int)==0&&(1:Int)==1&&(sIx items.size items.size hi-sIx items.size 0 lo)==items.size)=true then _ else _) _ _ s;rw[if_neg e,zbfm]
 first
  |exact xba (m:=Builtin.Tuple.tupleExact _) (xez (xbg ⟨_,rfl,xbg h⟩) a)
  |exact xba (m:=Builtin.Tuple.tupleExact _) (xez (xba (xbg (xbg ⟨_,rfl,xbg h⟩))) a)
  |exact xba (xba (m:=Builtin.Tuple.tupleExact _) (xez (xbg (xbg ⟨_,rfl,xbg h⟩)) a))
  |exact xba (xba (m:=Builtin.Tuple.tupleExact _) (xez (xbg ⟨_,rfl,xbg h⟩) a))
end HT
namespace L2
open Spec PyProof.Rows
abbrev TO:=St->Hp->(Option Int->Hp->Prop)->Prop
def PO(X:Cx) (e:Option Expr) (t:TO):Prop:=
 ∀(b:List (Addr×Obj)) (s:Shared) (σ:St) (H:Hp) (Q:Option Int->Hp->Prop),Inv X b σ H s->t σ H Q ->
  wpAny (model X.prog X.w) X.A (evalPart e X.env) (λu c=>∃o a,Inv X b σ a c/\IsPart u o/\Q o a) X.xe s
def tNoPart:TO:=λ_ H Q=>Q none H
def tPart(t:TE):TO:=λσ H Q=>t σ H λx H1=>∃i,x=.int i/\Q (some i) H1
theorem zek{ns:List Int}:∀{a:List Value},Vals (ns.map V.int) a->IntsAre a ns:=by
 induction ns with
 |nil=>intro a r;rw[xnm] at r;cases r;exact .nil
 |cons n ns ih=>
  intro a r;rw[xbr] at r;cases r with
  |cons r1 r2=>
   obtain⟨t,e⟩:=r1;subst e;exact .cons n t (ih r2)
theorem zblx:PO X none tNoPart:=by
 intro a s σ H Q I h;rw[evalPart_none];exact xbg ⟨none,H,I,.none,h⟩
theorem zblw(h:PE X e te):PO X (some e) (tPart te):=by
 intro c s σ H Q I d;rw[evalPart_some];refine thn (h c s σ H _ I d) λu j a=>?_
 obtain⟨x,H1,g,b,f⟩:=a;obtain⟨i,rfl,q⟩:=f;obtain⟨t,rfl⟩:=b;exact⟨some i,H1,g,.int i t,q⟩
def SlR(X:Cx) (r:V->Option Int->Option Int->Hp->VK->Prop):Prop:=
 ∀(a:List (Addr×Obj)) (s:Shared) (σ:St) (H:Hp) (x:V) (v e d:Value) (lo c:Option Int) (b:Addr) (Q:VK),Inv X a σ H s->RelV x v->s.heap.IsSliceOf b e d .none->IsPart e lo->IsPart d c->r x lo c H Q ->
  ∃ T id,typeLookup (.type T) "__getitem__"=pure (some (.builtin id))/\s.TypeIs v T/\wpAny (model X.prog X.w) X.A (getItem v (.ref b)) (EP X a σ Q) X.xe s
section
variable {lo:Option Expr}
theorem SlR.or(h:SlR X r)(k:SlR X r'):SlR X (λx lo a H Q=>r x lo a H Q\/r' x lo a H Q):=by
 intro b s σ H x v j e lo a d Q I i f c g q;rcases q with q|q
 ·exact h b s σ H x v j e lo a d Q I i f c g q
 ·exact k b s σ H x v j e lo a d Q I i f c g q
end
def tSl(r:V->Option Int->Option Int->Hp->VK->Prop) (a:TE) (c b:TO):TE:=λσ H Q=>a σ H λx H1=>c σ H1 λl H2=>b σ H2 λu H3=>r x l u H3 Q
theorem zbfp{lo:Option Expr}(k:SlR X r)(G:PE X e te)(j:PO X lo tl)(J:PO X hi th):PE X (.Subscript e (.Slice lo hi none p2) pos) (tSl r te tl th):=by
 intro d s σ H Q I h;refine Subscript_ (thn (G d s σ H _ I h) λv z c=>?_);obtain⟨x,H1,w,E,t⟩:=c;refine wpAny_Slice (thn (j d z σ H1 _ w t) λg m ⟨l,H2,P,o,A⟩=>thn (J d m σ H2 _ P A) λf a c=>?_);obtain⟨u,H3,y,S,n⟩:=c;rw[evalPart_none];refine xbg ?_;have C:Inv X d σ H3 { a with heap:=a.heap.push { cls:=.type "slice",data:=.fields #[g,f,.none] } }:=y.kept (t':=a.toks) λb Y q=>xbh _ q
 obtain⟨T,id,p,U,i⟩:=k d { a with heap:=a.heap.push { cls:=.type "slice",data:=.fields #[g,f,.none] } } σ H3 x v g f l u a.heap.objs.size Q C E (Heap.IsSliceOf.new ..) o S n
 show wpAny (model X.prog X.w) X.A (subscriptTail e (.Slice lo hi none p2) v (.ref a.heap.objs.size)) (EP X d σ Q) X.xe { a with heap:=a.heap.push { cls:=.type "slice",data:=.fields #[g,f,.none] } }
 exact tail_any (ops:=[.ref a.heap.objs.size,v]) U p i (by with_unfolding_all rfl)
def cutV(a:List V) (lo b:Option Int):List V:=(a.drop (HT.sIx a.length 0 lo)).take (HT.sIx a.length a.length b-HT.sIx a.length 0 lo)
theorem zkm(a:List V)(lo b:Option Int):(cutV a lo b).length<=a.length:=by
 unfold cutV;rw[xcq,xgb];lia
def rSlT(K:Fg):V->Option Int->Option Int->Hp->VK->Prop:=λx lo c H Q=>∃a b,x=.ref a/\SqT K H a b /\
 ¬ (HT.sIx b.length 0 lo=0/\HT.sIx b.length b.length c=b.length)/\∀p,H p=none->Q (.ref p) (upd H p (.tup (cutV b lo c)))
theorem zbro:SlR X (rSlT X.K):=by
 intro t s σ H x v z w lo e u Q I n l k m h;obtain⟨a,d,rfl,p,j,q⟩:=h;cases n;obtain⟨f,r,i,g⟩:=I.tuple p;have c:f.toArray.size=d.length:=by rw[xcc];exact r.length.symm
 refine⟨"tuple",_,xit.lookup,i.typeIs,?_⟩
 refine HT.zhi i l k m (by rw[c];exact j) ?_ (by rw[c];exact g);rw[c];refine⟨.ref s.heap.objs.size,_,I.laid (t':=s.toks) (o:=.tup (cutV d lo e)) (λb y q=>xbh _ q) (xbj _) ?_,rfl,q _ (I.hok.fresh (xbj _))⟩;exact⟨xbc (zkm d lo e) g,_,(r.drop (HT.sIx d.length 0 lo)).take (HT.sIx d.length d.length e-HT.sIx d.length 0 lo),IsTup.new _ _⟩
def rLtT(K:Fg):R2:=λx y H Q=>∃a b d c,x=.ref a/\y=.ref b/\SqT K H a (d.map V.int)/\SqT K H b (c.map V.int)/\Q (.bl (HT.lexLt d c)) H
theorem zbsz{X:Cx}(f:X.A.units<cLine):OpR X (compareOp .Lt) (rLtT X.K):=by
 intro r s σ H x y v u Q I k g h;obtain⟨a,b,ns,ms,rfl,rfl,n,m,q⟩:=h;cases k;cases g;obtain⟨d,e,i,_⟩:=I.tuple n;obtain⟨c,j,p,_⟩:=I.tuple m;have o:IntsAre d.toArray.toList ns:=zek e;have l:IntsAre c.toArray.toList ms:=zek j;exact HT.zmz i p o l f ⟨.bl (HT.lexLt ns ms),H,I,rfl,q⟩
def rCatT(K:Fg):R2:=λx y H Q=>∃a b d c,x=.ref a/\y=.ref b/\SqT K H a d/\SqT K H b c/\d≠[]/\d.length+c.length<=sizeLine /\
 (c=[]->Q (.ref a) H)/\(c≠[]->∀p,H p=none->Q (.ref p) (upd H p (.tup (d++c))))
theorem Vals.nil_iff(r:Vals xs us):us=[]↔xs=[]:=by
 cases r with
 |nil=>simp
 |cons _ _=>simp
theorem zbms:OpR X (binaryOp .Add) (rCatT X.K):=by
 intro E s σ H x y v u Q I n k h;obtain⟨a,b,p,j,rfl,rfl,t,r,m,e,i,g⟩:=h;cases n;cases k;obtain⟨C,d,l,_⟩:=I.tuple t;obtain⟨f,c,A,_⟩:=I.tuple r;refine HT.zbpy l A (λz=>m (d.nil_iff.mp z)) (λz=>⟨.ref a,H,I,rfl,i (c.nil_iff.mp z)⟩) (λz=>?_) (by rw[←d.length,←c.length];exact e);refine⟨.ref s.heap.objs.size,_,I.laid (t':=s.toks) (o:=.tup (p++j)) (λb G q=>xbh _ q) (xbj _) ?_,rfl,g (λw=>z (c.nil_iff.mpr w)) _ (I.hok.fresh (xbj _))⟩;exact⟨by rw[xbk];exact e,_,d.append c,IsTup.new _ _⟩
noncomputable def ixN(n:Nat) (i:Int):Option Nat:=if 0<=i then(if i<n then some i.toNat else none) else if -(n:Int)<=i then some (i+n).toNat else none
def atI{α:Type}(a:List α) (i:Int):Option α:=(ixN a.length i).bind λj=>a[j]?
theorem zbde(h:ixN n i=some j):seqIndex? i n=some j/\j<n/\-(n:Int)<=i/\i<n:=by
 unfold ixN at h;by_cases h0:0<=i
 ·rw[if_pos h0] at h;by_cases h1:i<n
  ·rw[if_pos h1] at h;have e:i.toNat=j:=xcz h;exact⟨by rw[seqIndex_of h0 h1,e],by lia,by lia,h1⟩
  ·rw[if_neg h1] at h;cases h
 ·rw[if_neg h0] at h;by_cases h1:-(n:Int)<=i
  ·rw[if_pos h1] at h;have e:(i+n).toNat=j:=xcz h;exact⟨by rw[seqIndex_neg (by lia) h1,e],by lia,h1,by lia⟩
  ·rw[if_neg h1] at h;cases h
theorem zxr{α:Type}{a:List α}{v:α}(h:atI a i=some v):∃j,seqIndex? i a.length=some j/\a[j]?=some v/\j<a.length/\-(a.length:Int)<=i/\i<a.length:=by
 unfold atI at h;cases e:ixN a.length i with
 |none=>rw[e] at h;cases h
 |some j=>
  rw[e] at h;obtain⟨f,c,d,b⟩:=zbde e;exact⟨j,f,h,c,d,b⟩
theorem zxp{α:Type}{a:List α}{j:Nat}{v:α}(h:a[j]?=some v):atI a (j:Int)=some v:=by
 have b:j<a.length:=(xbd.mp h).1;have e:ixN a.length (j:Int)=some j:=by
  unfold ixN;rw[if_pos (by lia),if_pos (by lia)];simp
 unfold atI;rw[e];exact h
noncomputable def PlainIx(b:Expr):Prop:=∀o i,subscripted b false o i=operate [o,i] (getItem o i)
def IxR(X:Cx) (r:R2):Prop:=
 ∀(b a:Expr) (c:List (Addr×Obj)) (s:Shared) (σ:St) (H:Hp) (x y:V) (v u:Value) (Q:VK),Inv X c σ H s->RelV x v->RelV y u->r x y H Q ->
  subscripted a false v u=operate [v,u] (getItem v u)->wpAny (model X.prog X.w) X.A (subscriptTail b a v u) (EP X c σ Q) X.xe s
def MtR(X:Cx) (id:String) (r:V->List V->Hp->VK->Prop):Prop:=
 ∀(c:List (Addr×Obj)) (s:Shared) (σ:St) (H:Hp) (x:V) (b:List V) (v:Value) (a:List Value) (Q:VK),Inv X c σ H s->RelV x v->Vals b a->r x b H Q ->
  wpAny (model X.prog X.w) X.A (call (.builtin id) (v::a)) (EP X c σ Q) X.xe s
theorem IxR.or(h:IxR X r)(g:IxR X r'):IxR X (λx y H Q=>r x y H Q\/r' x y H Q):=by
 intro b a c s σ H x y v u Q I f d q e;rcases q with q|q
 ·exact h b a c s σ H x y v u Q I f d q e
 ·exact g b a c s σ H x y v u Q I f d q e
theorem zbxt(d:IxR X r)(l:PE X a ta)(k:PE X b tb)(g:PlainIx b):PE X (.Subscript a b pos) (tOp r ta tb):=by
 intro c s σ H Q I h;exact Subscript_ (binT l k I h λv u j x y H2 e i f q=>d a b c j σ H2 x y v u Q e i f q (g _ _))
def rIxL(K:Fg):R2:=λx y H Q=>∃p a i v,x=.ref p/\y=.int i/\SqL K H p a/\atI a i=some v/\Q v H
def rIxT(K:Fg):R2:=λx y H Q=>∃p a i v,x=.ref p/\y=.int i/\SqT K H p a/\atI a i=some v/\Q v H
def rIxS:R2:=λx y H Q=>∃z i c,x=.str z/\y=.int i/\z.length<=sizeLine/\atI z.cps.toList i=some c/\Q (.str ⟨#[c]⟩) H
theorem zbny:IxR X (rIxL X.K):=by
 intro c k l s σ H x y v u Q I C U h n;obtain⟨p,xs,i,z,rfl,rfl,J,S,q⟩:=h;cases C;obtain⟨t,rfl⟩:=U;obtain⟨g,r,e,Y⟩:=I.list J;obtain⟨j,b,A,h3,P,E⟩:=zxr S;obtain⟨w,m,d⟩:=r.get A;have o:=r.length;have hn:=line63;have a:EP X l σ Q w s:=⟨z,H,I,d,q⟩
 by_cases h0:0<=i
 ·have f:i.toNat=j:=by
   rw[seqIndex_of h0 E] at b;exact xcz b
  exact item_listR e.isList h0 (by lia) (by rw[f];simpa using m) a n
 ·have f:(i+(g.toArray.size:Int)).toNat=j:=by
   rw[seqIndex_neg (by lia) P] at b;rw[xcc,←o];exact xcz b
  exact subscriptTail_builtinR (x:=w) e.isList.typeIs slot_list_getitem.lookup
   (wpAny_getItem_list_neg (Q:=λr G=>r=w/\EP X l σ Q r G) e.isList (by lia) (by rw[xcc]<;>lia) (by lia) (by rw[f];simpa using m) ⟨rfl,a⟩) n
theorem zbtx:IxR X (rIxT X.K):=by
 intro a d e s σ H x y v u Q I o J h n;obtain⟨p,xs,i,z,rfl,rfl,E,G,q⟩:=h;cases o;obtain⟨t,rfl⟩:=J;obtain⟨A,r,f,P⟩:=I.tuple E;obtain⟨j,l,k,S,Y,U⟩:=zxr G;obtain⟨w,m,b⟩:=r.get k;have g:=r.length;have hn:=line63;have c:EP X e σ Q w s:=⟨z,H,I,b,q⟩
 exact subscriptTail_builtinR (x:=w) f.typeIs xkr.lookup
  (getItem_tuple (j:=j) (Q:=λr C=>r=w/\EP X e σ Q r C) f (by lia) (by lia) (by rw[xcc,←g];exact l) (by simpa using m) ⟨rfl,c⟩) n
theorem zbty:IxR X rIxS:=by
 intro b a C s σ H x y v u Q I r p h o;obtain⟨z,i,c,rfl,rfl,A,m,q⟩:=h;obtain⟨t,rfl⟩:=r;obtain⟨w,rfl⟩:=p;obtain⟨j,d,g,G,e,l⟩:=zxr m;have f:z.cps.toList.length=z.length:=by simp[Str.length]
 rw[f] at d e l;have E:=line63
 exact tail_any (typeIs_str s z t) slot_str_getitem.lookup (getItem_str (c:=c) (by
  have n:decide (i < -(2^63:Int))=false:=xcd (by lia);have k:decide (i ≥ 2^63)=false:=xcd (by lia)
  rw[n,k,Bool.or_false]) (by rw[d];simpa using g) ⟨.str ⟨#[c]⟩,H,I.tok _,⟨_,rfl⟩,q⟩) o
def rIx(K:Fg):R2:=λx y H Q=>rIxL K x y H Q\/rIxT K x y H Q\/rIxS x y H Q
theorem zbtz:IxR X (rIx X.K):=zbny.or (zbtx.or zbty)
theorem zvt(a:List Value)(n j:Nat)(u:Value):Obj.mapSeq (·.setIfInBounds j u) { cls:=.type "list",data:=.seq a.toArray n }={ cls:=.type "list",data:=.seq (a.set j u).toArray n }:=by
 simp[Obj.mapSeq]
theorem Inv.lst(I:Inv X aU σ H s)(h:H p=some (.lst xs)):
  ∃(a:List Value) (n:Nat),Vals xs a/\s.heap.get? p=some { cls:=.type "list",data:=.seq a.toArray n }/\xs.length<=sizeLine:=by
 obtain⟨z,a,n,r,e⟩:=I.hok p _ h;exact⟨a,n,r,e,z⟩
theorem Inv.lstUpd{c a:List Value}(I:Inv X aU σ H s)(h:H p=some (.lst xs))
  (j:s.heap.get? p=some { cls:=.type "list",data:=.seq c.toArray n })(d:f { cls:=.type "list",data:=.seq c.toArray n }={ cls:=.type "list",data:=.seq a.toArray n' })(r:Vals ys a)(g:ys.length<=sizeLine)(t:Nat):
  Inv X aU σ (upd H p (.lst ys)) {s with heap:=s.heap.update p f,toks:=t}:=by
 have e:(s.heap.update p f).get? p=some { cls:=.type "list",data:=.seq a.toArray n' }:=by
  rw[xfi f j (by rw[d]<;>rfl),d]
 refine I.write (x:=p) (e:=p) (by rw[h];trivial) (.inl rfl) (λb u i q=>(Heap.get?_update_other _ _ (xdj i)).trans q) ⟨_,e⟩ ?_;exact⟨g,a,n',r,e⟩
def rSetL:V->V->V->Hp->(Hp->Prop)->Prop:=λo i v H Q=>∃p a k j,o=.ref p/\i=.int k/\H p=some (.lst a)/\ixN a.length k=some j/\Q (upd H p (.lst (a.set j v)))
theorem zbez:PSet X rSetL:=by
 intro x s σ H o i v J S u Q I E A z h;obtain⟨p,C,k,j,rfl,rfl,m,y,q⟩:=h;cases E;obtain⟨t,rfl⟩:=A;obtain⟨a,n,r,e,w⟩:=I.lst m;obtain⟨b,G,f,g⟩:=zbde y;have c:=r.length;have P:=line63;have l:Inv X x σ (upd H p (.lst (C.set j v))) {s with heap:=s.heap.update p (Obj.mapSeq (·.setIfInBounds j u))}:=
  I.lstUpd m e (zvt a n j u) (r.set z j) (by rw[xdr];exact w) s.toks
 by_cases h0:0<=k
 ·have d:k.toNat=j:=by
   rw[seqIndex_of h0 g] at b;exact xcz b
  exact W.ki_setAt e h0 (by lia) (by rw[xcc,←c];exact g) (by rw[d];exact⟨_,l,q⟩)
 ·have d:(k+(a.toArray.size:Int)).toNat=j:=by
   rw[seqIndex_neg (by lia) f] at b;rw[xcc,←c];exact xcz b
  exact W.ki_setBack e (by lia) (by rw[xcc,←c];exact f) (by lia) (by rw[d];exact⟨_,l,q⟩)
theorem zog(lo a:Option Int)(n:Nat):(sliceBounds lo a none n).1=((HT.sIx n 0 lo:Nat):Int)/\(sliceBounds lo a none n).2.1=((HT.sIx n n a:Nat):Int)/\(sliceBounds lo a none n).2.2=1:=by
 refine⟨?_,?_,rfl⟩
 ·cases lo with
  |none=>simp[sliceBounds,HT.sIx]
  |some i=>
   simp only[sliceBounds,HT.sIx,Option.getD_none,show(1:Int) > 0 by decide,xfl];by_cases h:i<0
   ·simp only[h,xfl]<;>lia
   ·simp only[h,xfa]<;>lia
 ·cases a with
  |none=>simp[sliceBounds,HT.sIx]
  |some i=>
   simp only[sliceBounds,HT.sIx,Option.getD_none,show(1:Int) > 0 by decide,xfl];by_cases h:i<0
   ·simp only[h,xfl]<;>lia
   ·simp only[h,xfa]<;>lia
theorem zml(a:List Value)(lo b:Option Int):slicePick a.toArray lo b none=((a.drop (HT.sIx a.length 0 lo)).take (HT.sIx a.length a.length b-HT.sIx a.length 0 lo)).toArray:=by
 obtain⟨e,c,d⟩:=zog lo b a.toArray.size;unfold slicePick;rw[e,c,d];simp only[sliceRange_one,pick_run,xcc]<;>rfl
def rSlL(K:Fg):V->Option Int->Option Int->Hp->VK->Prop:=λx lo c H Q=>∃a b,x=.ref a/\SqL K H a b/\∀p,H p=none->Q (.ref p) (upd H p (.lst (cutV b lo c)))
theorem zbky:SlR X (rSlL X.K):=by
 intro p s σ H x v y u lo e t Q I l j i k h;obtain⟨a,c,rfl,m,q⟩:=h;cases l;obtain⟨n,r,f,g⟩:=I.list m;have d:=r.length;refine⟨"list",_,slot_list_getitem.lookup,f.isList.typeIs,?_⟩
 refine wpAny_getItem_list_slice f.isList j i k .none (by simp) ?_ (by rw[xcc]<;>lia);rw[zml,←d];refine⟨.ref s.heap.objs.size,_,I.laid (t':=s.toks) (o:=.lst (cutV c lo e)) (λb w q=>xbh _ q) (xbj _) ?_,rfl,q _ (I.hok.fresh (xbj _))⟩;exact⟨xbc (zkm c lo e) g,_,0,(r.drop (HT.sIx c.length 0 lo)).take (HT.sIx c.length c.length e-HT.sIx c.length 0 lo),xcb _ rfl⟩
theorem zco:CallR X (.builtin "len") (λf H Q=>∃ p b,f=[.ref p]/\(SqL X.K H p b\/SqT X.K H p b)/\Q (.int b.length) H):=by
 intro k s σ H f j Q I r h;obtain⟨p,b,rfl,hq,q⟩:=h;obtain⟨u,rfl,i⟩:=vals1 r;cases i;have l:=line63;rcases hq with hq|hq
 ·obtain⟨e,d,c,g⟩:=I.list hq;have a:=d.length;exact Calls.call_len_list c.isList (by simp only[xcc]<;>lia) ⟨.int b.length,H,I.tok _,⟨s.toks+1,by rw[xcc,a]⟩,q⟩
 ·obtain⟨e,d,c,g⟩:=I.tuple hq;have a:=d.length;exact len_tuple c (by simp only[xcc]<;>lia) ⟨.int b.length,H,I.tok _,⟨s.toks+1,by rw[xcc,a]⟩,q⟩
theorem CallR.or(h:CallR X f r)(e:CallR X f r'):CallR X f (λa H Q=>r a H Q\/r' a H Q):=by
 intro c s σ H a b Q I d q;rcases q with q|q
 ·exact h c s σ H a b Q I d q
 ·exact e c s σ H a b Q I d q
theorem zpj:CallR X (.type "list") (λz H Q=>∃ p f,z=[.ref p]/\(SqL X.K H p f\/SqT X.K H p f)/\∀ l,H l=none->Q (.ref l) (upd H l (.lst f))):=by
 intro A s σ H z E Q I r h;obtain⟨p,f,rfl,hq,q⟩:=h;obtain⟨u,rfl,C⟩:=vals1 r;cases C;have k:∀(a:List Value),Vals f a->f.length<=sizeLine->∀(c:Heap) (d:Nat),(∀b y,s.heap.get? b=some y->c.get? b=some y) ->
   c.get? s.heap.objs.size=some { cls:=.type "list",dict:=none,data:=.seq a.toArray d,slots:=#[] }->EP X A σ Q (.ref s.heap.objs.size) { s with heap:=c }:=λa g i c d j e=>
  ⟨.ref s.heap.objs.size,_,I.laid (t':=s.toks) j (xbj _) (show ObjOk X.prog X.w _ c _ (.lst f) from⟨i,a,d,g,e⟩),rfl,q _ (I.hok.fresh (xbj _))⟩
 rcases hq with hq|hq
 ·obtain⟨a,g,t,i⟩:=I.list hq;have m:=g.length;obtain⟨o,x,w,n,v⟩:=t.isList;exact call_list_seq p (.inl rfl) x w v (λc d j e=>k a g i c d j e) (by simp only[xcc]<;>lia)
 ·obtain⟨a,g,t,i⟩:=I.tuple hq;have m:=g.length;obtain⟨o,x,w,n,v⟩:=t;exact call_list_seq p (.inr rfl) x w v (λc d j e=>k a g i c d j e) (by simp only[xcc]<;>lia)
theorem zba:CallR X (.type "tuple") (λn H Q=>∃ p c,n=[.ref p]/\((SqL X.K H p c/\∀ l,H l=none->Q (.ref l) (upd H l (.tup c)))\/(SqT X.K H p c/\Q (.ref p) H))):=by
 intro k s σ H n y Q I r h;obtain⟨p,c,rfl,h⟩:=h;obtain⟨u,rfl,x⟩:=vals1 r;cases x;rcases h with⟨i,q⟩|⟨i,q⟩
 ·obtain⟨a,g,f,j⟩:=I.list i;have t:=g.length;refine call_tuple_list f.isList (λd w=>?_) (by simp only[xcc]<;>lia);have m:Inv X k σ H {s with heap:=d}:=I.kept (t':=s.toks) w;have v:Inv X k σ (upd H d.objs.size (.tup c)) { s with heap:=d.push { cls:=.type "tuple",data:=.seq a.toArray } }:=
   m.laid (t':=s.toks) (λb o e=>xbh _ e) (xbj _) (show ObjOk X.prog X.w _ _ _ (.tup c) from⟨j,a,g,IsTup.new _ _⟩)
  exact⟨.ref d.objs.size,_,v,rfl,q _ (m.hok.fresh (xbj _))⟩
 ·obtain⟨a,g,f,j⟩:=I.tuple i;exact call_tuple_same f ⟨.ref p,H,I,rfl,q⟩
def tyV(K:Fg) (T:String) (x:V) (H:Hp):Prop:=match x with
 |.str _=>T="str"
 |.int _=>T="int"
 |.ref p=>(T="list"/\∃ b,SqL K H p b)\/(T="tuple"/\∃ o,K.lookup p=some o/\o.cls=.type "tuple"/\o.dict=none) \/
  (T="dict"/\((∃ a,H p=some (.dK a))\/∃ a,H p=some (.dT a)))\/(T="set"/\∃ S n,H p=some (.set S n))
 |_=>False
theorem zbri{T:String}(I:Inv X aU σ H s)(r:RelV x v)(f:tyV X.K T x H):
  s.TypeIs v T/\∀a,v=.ref a->∃l,s.heap.get? a=some l/\l.dict=none:=by
 cases x with
 |str z=>
  obtain⟨t,rfl⟩:=r;cases(show T="str" from f)
  exact⟨typeIs_str s z t,λ_ e=>nomatch e⟩
 |int i=>
  obtain⟨t,rfl⟩:=r;cases(show T="int" from f)
  exact⟨typeIs_int s i t,λ_ e=>nomatch e⟩
 |ref p=>
  cases r;rcases f with⟨rfl,w,m⟩|⟨rfl,o,b,q,j⟩|⟨rfl,b⟩|⟨rfl,S,n,b⟩
  ·obtain⟨u,_,k,_⟩:=I.list m;refine⟨k.isList.typeIs,λa e=>?_⟩;cases e;obtain⟨o,n,e,c,j,_⟩:=k;exact⟨o,e,j⟩
  ·refine⟨⟨o,I.kIn p o b,q⟩,λa e=>?_⟩;cases e;exact⟨o,I.kIn _ o b,j⟩
  ·have z:∃o,s.heap.get? p=some o/\o.ExactDict:=by
    rcases b with⟨g,b⟩|⟨g,b⟩
    ·obtain⟨_,_,_,_,o,_,_,e,d,_⟩:=I.hok p _ b;exact⟨o,e,d⟩
    ·obtain⟨_,_,_,_,o,_,_,e,d,_⟩:=I.hok p _ b;exact⟨o,e,d⟩
   obtain⟨o,e,d⟩:=z;refine⟨⟨o,e,d.1⟩,λa h=>?_⟩;cases h;exact⟨o,e,d.2.1⟩
  ·obtain⟨o,_,_,_,e,d,_⟩:=I.hok p _ b;refine⟨⟨o,e,d.1⟩,λa h=>?_⟩;cases h;exact⟨o,e,d.2.1⟩
 |_=>exact False.elim f
def tBM(K:Fg) (T:String) (r:V->List V->Hp->VK->Prop) (a:TE) (t:TA):TE:=λσ H Q=>a σ H λx H1=>tyV K T x H1/\t σ H1 λb H2=>r x b H2 Q
theorem zbqw{c:Pos}{T:String}{id:String}(A:PlainAttrs T)(i:Slot T name id)(k:typeOf (.builtin id)=pure (.type "method_descriptor"))(C:MtR X id r)(ho:PE X o to)(S:PA X (e::es) t)
  (d:attributeBase o name X.env (eval o X.env)=eval o X.env:=by rfl)
  (g:((backTo cpos (starEach (e::es) X.env)).all (λx=>!x.1)&&(backToKw cpos (keywordEach [] X.env)).all (λx=>x.1.isSome)
   && decide ((e::es).length+([]:List Keyword).length+(if([]:List Keyword).isEmpty then 0 else 1)<30))=true:=by rfl)
  (f:(c.endLine==cpos.line)=true:=by rfl)(z:starEach (e::es) X.env=(false,eval e X.env)::starEach es X.env:=by rfl)(b:(backTo cpos (starEach es X.env)).any (·.1)=false:=by rfl):
  PE X (.Call (.Attribute o name c) (e::es) [] cpos) (tBM X.K T r to t):=by
 intro j s σ H Q I h;refine wpAny_Call_method_late d g f rfl (thn (ho j s σ H _ I h) λv P l=>?_);obtain⟨x,H1,p,q,J,G⟩:=l;obtain⟨y,u⟩:=zbri p q J;refine⟨T,id,A,i,k,y,u,?_⟩;have n:=S cpos j P σ H1 _ p G;rw[z] at n ⊢;refine xli (by show(false||(backTo cpos (starEach es X.env)).any (·.1))=false;rw[b]<;>rfl) (xlz ?_);exact thn n λE w ⟨vs,H2,I2,U,Y⟩=>C j w σ H2 x vs v E Q I2 q U Y
/- xs.append(e),list.index on a module's tuple .. are MtR facts of 06m -/
def MtM(X:Cx) (id:String) (r:V->List V->Hp->VK->Prop):Prop:=
 ∀(c:List (Addr×Obj)) (s:Shared) (σ:St) (H:Hp) (x:V) (b:List V) (v:Value) (a:List Value) (Q:VK),Inv X c σ H s->RelV x v->Vals b a->r x b H Q ->
  wpAny (model X.prog X.w) X.A (call (.builtin id) (v::a)) (EP X c σ Q) X.xe s
theorem Vals.one:∀{x:V}{a:List Value},Vals [x] a->∃u,a=[u]/\RelV x u
 |_,_,.cons r .nil=>⟨_,rfl,r⟩
theorem Inv.lset{a its':List Value}(I:Inv X aU σ H s)(b:H l=some (.lst xs))
  (e:s.heap.get? l=some { cls:=.type "list",data:=.seq a.toArray n })(g:f a.toArray=its'.toArray)(i:Vals ys its')(c:ys.length<=sizeLine):
  Inv X aU σ (upd H l (.lst ys)) {s with heap:=s.heap.update l (Obj.mapSeq f),toks:=t'}:=by
 have q:=PySem.IsL.update e f;rw[g] at q;refine I.write (x:=l) (e:=l) (by rw[b];exact trivial) (.inl rfl) (λj u h d=>(Heap.get?_update_other s.heap (Obj.mapSeq f) (xdj h)).trans d) ⟨_,q⟩ ?_;exact⟨c,its',_,i,q⟩
theorem Inv.lnew(I:Inv X aU σ H s)(a:Vals ys its)(b:ys.length<=sizeLine):
  Inv X aU σ (upd H s.heap.objs.size (.lst ys)) { s with heap:=s.heap.push { cls:=.type "list",data:=.seq its.toArray },toks:=t' }:=
 I.laid (λ_ _ q=>xbh _ q) (xbj _) ⟨b,its,0,a,xcb _ rfl⟩
theorem Inv.fresh(I:Inv X aU σ H s):H s.heap.objs.size=none:=I.hok.fresh (xbj _)
theorem Inv.lstM(I:Inv X aU σ H s)(b:H l=some (.lst xs)):xs.length<=sizeLine/\∃(a:List Value) (n:Nat),Vals xs a/\xs.length=a.length/\s.heap.get? l=some { cls:=.type "list",data:=.seq a.toArray n }:=by
 obtain⟨z,a,n,r,e⟩:=I.hok l _ b;exact⟨z,a,n,r,r.length,e⟩
theorem notLongL(h:n<=sizeLine):Builtin.List.listTooLong n=false:=by
 unfold Builtin.List.listTooLong;exact xcd (by lia)
def rAppend:V->List V->Hp->VK->Prop:=λx b H Q=>∃l a y,x=.ref l/\b=[y]/\H l=some (.lst a)/\a.length<sizeLine/\Q .non (upd H l (.lst (a++[y])))
theorem zqv:MtM X "list.append" rAppend:=by
 intro k s σ H x o v g Q I f d h;obtain⟨l,m,y,rfl,rfl,b,j,q⟩:=h;cases f;obtain⟨u,rfl,c⟩:=d.one;obtain⟨z,a,n,r,i,e⟩:=I.lstM b;refine call_meets F.slot_list_append ⟨_,e,rfl⟩ F.entry_list_append (F.args_list_append_2 _ _) (PySem.list_append l a.toArray n u (by rw[xcc];lia)) ⟨e,?_⟩;refine⟨.non,_,I.lset (its':=a++[u]) b e (by simp) (r.append (.cons c .nil)) ?_,rfl,q⟩;rw[xbk,xgu];lia
def rExtend:V->List V->Hp->VK->Prop:=λx d H Q=>∃l b c a,x=.ref l/\d=[.ref b]/\H l=some (.lst c)/\H b=some (.lst a)/\c.length+a.length<=sizeLine/\Q .non (upd H l (.lst (c++a)))
theorem zzy:MtM X "list.extend" rExtend:=by
 intro C s σ H x J v G Q I j m h;obtain⟨l,b,P,E,rfl,rfl,g,w,A,q⟩:=h;cases j;obtain⟨u,rfl,p⟩:=m.one;cases p;obtain⟨z,c,n,r,y,e⟩:=I.lstM g;obtain⟨S,a,i,o,t,k⟩:=I.lstM w;have f:c.toArray.size+a.toArray.size<=sizeLine:=by rw[xcc,xcc];lia
 have d:¬ (!c.toArray.isEmpty&&Builtin.List.listTooLong (c.toArray.size+a.toArray.size))=true:=by
  rw[notLongL f,Bool.and_false];exact xga
 refine call_meets F.slot_list_extend ⟨_,e,rfl⟩ F.entry_list_extend (F.args_list_extend_2 _ _)
  (AutoSeq1.list_extend_list_list_0 l c.toArray n b a.toArray i d (by rw[xcc];lia) (by lia)) ⟨e,k,?_⟩
 refine⟨.non,_,I.lset (its':=c++a) g e (by simp) (r.append o) ?_,rfl,q⟩;rw[xbk];lia
def rCat:R2:=λx y H Q=>∃l b c a,x=.ref l/\y=.ref b/\H l=some (.lst c)/\H b=some (.lst a)/\c.length+a.length<=sizeLine/\∀p,H p=none->Q (.ref p) (upd H p (.lst (c++a)))
theorem zbtc:OpR X (binaryOp .Add) rCat:=by
 intro w s σ H x y v u Q I k j h;obtain⟨l,b,E,A,rfl,rfl,d,m,t,q⟩:=h;cases k;cases j;obtain⟨z,c,n,r,p,e⟩:=I.lstM d;obtain⟨G,a,C,o,i,g⟩:=I.lstM m;refine PySem.P.add_list e g ?_ (by rw[xcc,xcc];lia);have f:c.toArray++a.toArray=(c++a).toArray:=by simp
 rw[f];exact⟨.ref _,_,I.lnew (t':=s.toks) (r.append o) (by rw[xbk];lia),rfl,q _ I.fresh⟩
section
variable {κ:Type}[DecidableEq κ]
noncomputable def valV(a:List (κ×V)) (k:κ):Option V:=(a.find? λb=>decide (b.1=k)).map (·.2)
noncomputable def putK(a:List (κ×V)) (k:κ) (v:V):List (κ×V):=
 if(a.any λb=>decide (b.1=k))=true then a.map (λb=>if b.1=k then(b.1,v) else b) else a++[(k,v)]
noncomputable def dropK(a:List (κ×V)) (k:κ):List (κ×V):=a.filter λb=>decide (b.1≠k)
theorem zhy{p:κ×V}{r:List (κ×V)}{k:κ}(e:p.1=k):valV (p::r) k=some p.2:=by simp[valV,xfb,e]
theorem zhz{p:κ×V}{r:List (κ×V)}{k:κ}(e:¬ p.1=k):valV (p::r) k=valV r k:=by simp[valV,xfb,e]
theorem zts(k:κ):∀a:List (κ×V),(a.any λb=>decide (b.1=k))=(valV a k).isSome
 |[]=>rfl
 |p::r=>by
  rw[xiy];by_cases e:p.1=k
  ·simp only[zhy e,xbw e,Bool.true_or,Option.isSome_some]
  ·rw[zhz e,xcd e,Bool.false_or];exact zts k r
theorem zgl(a:List (κ×V))(k:κ)(v:V):(putK a k v).length<=a.length+1:=by
 unfold putK;split
 ·rw[xbb];lia
 ·rw[xbk,xbt,xjb];lia
theorem RelO.isSome_eq(r:RelO o u):o.isSome=u.isSome:=by
 cases o with
 |none=>cases u with
  |none=>rfl
  |some _=>exact(show False from r).elim
 |some _=>cases u with
  |none=>exact(show False from r).elim
  |some _=>rfl
theorem RelO.getD(r:RelO o u)(a:RelV d d'):RelV (o.getD d) (u.getD d'):=by
 cases o with
 |none=>cases u with
  |none=>exact a
  |some _=>exact(show False from r).elim
 |some _=>cases u with
  |none=>exact(show False from r).elim
  |some _=>exact r
theorem KV.val(r:KV kvs vs)(k:κ):RelO (valV kvs k) (valueAt vs k):=by
 unfold KV at r
 induction r with
 |nil=>exact True.intro
 |@cons p q ps qs h t ih=>
  obtain⟨c,d⟩:=h;by_cases e:p.1=k
  ·have a:q.1=k:=c.symm.trans e;have b:valueAt (q::qs) k=some q.2:=by simp[valueAt,xfb,a]
   rw[zhy e,b];exact d
  ·have a:¬ q.1=k:=λz=>e (c.trans z)
   have b:valueAt (q::qs) k=valueAt qs k:=by simp[valueAt,xfb,a]
   rw[zhz e,b];exact ih
theorem KV.any(r:KV kvs vs)(k:κ):(kvs.any λa=>decide (a.1=k))=vs.any λa=>decide (a.1=k):=by
 unfold KV at r
 induction r with
 |nil=>rfl
 |cons h t ih=>rw[xiy,xiy,ih,h.1]
theorem KV.repl(r:KV kvs vs)(k:κ) (d:RelV y u):
  KV (kvs.map λa=>if a.1=k then(a.1,y) else a) (vs.map λa=>if a.1=k then(a.1,u) else a):=by
 unfold KV at r ⊢
 induction r with
 |nil=>exact .nil
 |@cons p q ps qs h t ih=>
  rw[xbr,xbr];refine .cons ?_ ih;obtain⟨b,c⟩:=h;by_cases e:p.1=k
  ·rw[if_pos e,if_pos (b.symm.trans e)];exact⟨b,d⟩
  ·rw[if_neg e,if_neg (λz=>e (b.trans z))];exact⟨b,c⟩
theorem KV.put(r:KV kvs vs)(k:κ) (a:RelV y u):KV (putK kvs k y) (stored vs k u):=by
 unfold putK stored;rw[r.any k];by_cases e:(vs.any λb=>decide (b.1=k))=true
 ·rw[if_pos e,if_pos e];exact r.repl k a
 ·rw[if_neg e,if_neg e];exact Paired.snoc r ⟨rfl,a⟩
theorem KV.drop(r:KV kvs vs)(k:κ):KV (dropK kvs k) (without vs k):=by
 unfold KV at r ⊢;unfold dropK without
 induction r with
 |nil=>exact .nil
 |@cons p q ps qs h t ih=>
  obtain⟨c,f⟩:=h;rw[xll,xll];by_cases e:p.1=k
  ·have a:¬ decide (p.1≠k)=true:=by simp[e]
   have b:¬ decide (q.1≠k)=true:=by simp[c.symm.trans e]
   rw[if_neg a,if_neg b];exact ih
  ·have d:¬ q.1=k:=λz=>e (c.trans z)
   have a:decide (p.1≠k)=true:=by simp[e]
   have b:decide (q.1≠k)=true:=by simp[d]
   rw[if_pos a,if_pos b];exact .cons ⟨c,f⟩ ih
theorem KV.keys{a:List (κ×V)}{b:List (κ×Value)}(r:KV a b):a.map (·.1)=b.map (·.1):=by
 unfold KV at r
 induction r with
 |nil=>rfl
 |cons h t ih=>rw[xbr,xbr,ih,h.1]
theorem KV.length(r:KV kvs vs):kvs.length=vs.length:=xix r
theorem zbib(a:List (κ×V))(k:κ):(dropK a k).length<=a.length:=xgv _ _
end
theorem zbha(r:RelV (kV k) u):(mixKind P w).is k u=true:=by
 cases k with
 |inl i=>obtain⟨t,e⟩:=(show ∃t,u=Value.int i t from r);subst e;exact zta P w i t
 |inr x=>obtain⟨t,e⟩:=(show ∃t,u=Value.str x t from r);subst e;exact zsz P w x t
theorem zqy:∀{a:List Key}{b:List Value},Vals (a.map kV) b->ItemsAre (mixKind P w) a b
 |[],_,r=>by rw[xnm] at r;cases r;exact .nil
 |k::a,_,r=>by
  rw[xbr] at r;cases r with
  |cons h t=>exact .cons (zbha h) (zqy t)
abbrev KT(H:Hp):List (List Key×V)->List (List Key×Addr×Value)->Prop:=Paired λp q=>p.1=q.1/\H q.2.1=some (.tup (p.1.map kV))/\RelV p.2 q.2.2
theorem KT.val(r:KT H kvs xs)(k:List Key):RelO (valV kvs k) ((atKey xs k).map (·.2)):=by
 induction r with
 |nil=>exact True.intro
 |@cons p q ps qs h t ih=>
  obtain⟨c,_,d⟩:=h;by_cases e:p.1=k
  ·have a:q.1=k:=c.symm.trans e;have b:atKey (q::qs) k=some q.2:=by simp[atKey,xfb,a]
   rw[zhy e,b];exact d
  ·have a:¬ q.1=k:=λz=>e (c.trans z)
   have b:atKey (q::qs) k=atKey qs k:=by simp[atKey,xfb,a]
   rw[zhz e,b];exact ih
theorem KT.repl(r:KT H kvs xs)(k:List Key) (d:RelV y u):
  KT H (kvs.map λb=>if b.1=k then(b.1,y) else b) (xs.map (putAt k u)):=by
 induction r with
 |nil=>exact .nil
 |@cons p q ps qs h t ih=>
  rw[xbr,xbr];refine .cons ?_ ih;obtain⟨a,c,f⟩:=h;unfold putAt;by_cases e:p.1=k
  ·rw[if_pos e,if_pos (a.symm.trans e)];exact⟨a,c,d⟩
  ·rw[if_neg e,if_neg (λz=>e (a.trans z))];exact⟨a,c,f⟩
theorem KT.put(r:KT H kvs xs)(k:List Key) (c:H b=some (.tup (k.map kV)))(a:RelV y u):
  KT H (putK kvs k y) (storedH xs k b u):=by
 have e:(kvs.any λd=>decide (d.1=k))=(atKey xs k).isSome:=by
  rw[zts,(r.val k).isSome_eq,Option.isSome_map]
 unfold putK storedH;rw[e];by_cases q:(atKey xs k).isSome=true
 ·rw[if_pos q,if_pos q];exact r.repl k a
 ·rw[if_neg q,if_neg q];exact Paired.snoc r ⟨rfl,c,a⟩
theorem KT.keeps(r:KT H kvs xs)(c:∀b a,H b=some (.tup a)->H' b=some (.tup a)):KT H' kvs xs:=
 Paired.mapP r λ_ _ z=>⟨z.1,c _ _ z.2.1,z.2.2⟩
theorem zbwo(b:HOk P w H h)(e:Rd H a u):ObjOk P w H h a u:=e.ok b
theorem zbid(b:HOk P w H h)(e:Rd H a (.dK kvs)):kvs.length<=sizeLine/\(a==sysModules)=false/\∃vs,KV kvs vs/\h.DictOf (mixKind P w) a vs:=
 show ObjOk P w H h a (.dK kvs) from zbwo b e
theorem zbuv(b:HOk P w H h)(e:H a=some (.dK kvs)):kvs.length<=sizeLine/\(a==sysModules)=false/\∃vs,KV kvs vs/\h.DictOf (mixKind P w) a vs:=zbid b (.inl e)
theorem ztc{b:List Key}(g:HOk P w H h)(e:H a=some (.tup (b.map kV))):(tupleKind (mixKind P w)).is h b a:=by
 obtain⟨_,c,r,o,i,d,n,f⟩:=(show ObjOk P w H h a (.tup (b.map kV)) from g a _ e)
 exact⟨o,c.toArray,n,i,d,f,by simpa using zqy r⟩
theorem zbjv(c:HOk P w H h)(e:Rd H a (.dT kvs)):kvs.length<=sizeLine/\(a==sysModules)=false /\
  ∃xs,KT H kvs xs/\h.DictOfH (tupleKind (mixKind P w)) a xs:=by
 obtain⟨z,y,xs,r,o,i,k,n,f,j,d,g⟩:=(show ObjOk P w H h a (.dT kvs) from zbwo c e)
 refine⟨z,y,xs,r,o,i,k,n,f,j,d,λx hx=>?_,g⟩;have b:∀{l:List (List Key×V)}{m:List (List Key×Addr×Value)},KT H l m->∀x∈m,(tupleKind (mixKind P w)).is h x.1 x.2.1:=by
  intro l m q
  induction q with
  |nil=>intro x hx;exact nomatch hx
  |@cons p q ps qs hq t ih=>
   intro x hx;rcases xbl.mp hx with e|hx
   ·subst e;exact ztc c (by rw[←hq.1];exact hq.2.1)
   ·exact ih x hx
 exact b r x hx
theorem zbxa(b:HOk P w H h)(e:H a=some (.dT kvs)):kvs.length<=sizeLine/\(a==sysModules)=false /\
 ∃xs,KT H kvs xs/\h.DictOfH (tupleKind (mixKind P w)) a xs:=zbjv b (.inl e)
def DGet(H:Hp) (a:Addr) (y:V) (r:Option V):Prop:=
 (∃c k,Rd H a (.dK c)/\y=kV k/\r=valV c k)\/∃c k b,Rd H a (.dT c)/\y=.ref b/\H b=some (.tup (k.map kV))/\r=valV c k
def DPut(H:Hp) (a:Addr) (y v:V) (d:Hp):Prop:=
 (∃c k,H a=some (.dK c)/\y=kV k/\c.length<sizeLine/\d=upd H a (.dK (putK c k v))) \/
 ∃c k b,H a=some (.dT c)/\y=.ref b/\H b=some (.tup (k.map kV))/\c.length<sizeLine/\d=upd H a (.dT (putK c k v))
theorem DPut.t{k:List Key}(e:H a=some (.dT kvs))(c:H b=some (.tup (k.map kV)))(d:kvs.length<sizeLine):
 DPut H a (.ref b) v (upd H a (.dT (putK kvs k v))):=.inr ⟨kvs,k,b,e,rfl,c,d,rfl⟩
theorem Inv.big(I:Inv X aU σ H s):sysModules<s.heap.objs.size:=by
 have h:mainGlobals<s.heap.objs.size:=(I.mod.glob.keeps I.bk).lt;exact xjo (by decide) h
theorem zbaz{A:Around}(x:A.units+1<cLine)(I:Inv X aU σ H s)(g:DGet H a y (some v))(r:RelV y u)(h:∀f t,Inv X aU σ H t->RelV v f->Q f t):
  wpAny (model X.prog X.w) A (getItem (.ref a) u) Q E s:=by
 rcases g with⟨i,k,e,n,l⟩|⟨i,k,b,e,n,P,l⟩
 ·subst n;obtain⟨z,C,J,c,j⟩:=zbid I.hok e;obtain⟨f,m,d⟩:=RelO.some_of (v:=v) (o:=valueAt J k) (by rw[l];exact c.val k);exact wpAny_getItem_of (zbha r) j.mapOf m (h f _ (I.tok _) d)
 ·subst n;cases(show u=Value.ref b from r);obtain⟨z,C,G,c,j⟩:=zbjv I.hok e;obtain⟨f,m,d⟩:=RelO.some_of (v:=v) (o:=(atKey G k).map (·.2)) (by rw[l];exact c.val k);obtain⟨p,w,q⟩:=xdc.mp m;refine wpAny_getItem_heap (xjf x) (ztc I.hok P) j w ?_;rw[q];exact h f _ (I.tok _) d
theorem d_in{A:Around}(p:A.units+1<cLine)(I:Inv X aU σ H s)(g:DGet H a y o)(m:RelV y u)(h:∀n,Inv X aU σ H n->Q (.bool o.isSome) n):
  wpAny (model X.prog X.w) A (compareOp .In u (.ref a)) Q E s:=by
 rcases g with⟨d,k,e,j,l⟩|⟨d,k,b,e,j,r,l⟩
 ·subst j;obtain⟨z,i,v,c,f⟩:=zbid I.hok e;refine wpAny_in_of (zbha m) i f.mapOf ?_;rw[←(c.val k).isSome_eq,←l];exact h _ (I.tok _)
 ·subst j;cases(show u=Value.ref b from m);obtain⟨z,i,t,c,f⟩:=zbjv I.hok e;refine wpAny_in_heap (xjf p) (ztc I.hok r) i f ?_;have q:=(c.val k).isSome_eq;rw[Option.isSome_map] at q;rw[←q,←l];exact h _ (I.tok _)
theorem znk(I:Inv X aU σ H s)(f:Mut (H a))(g:Heap.SameBut a s.heap h')(d:∃q,h'.get? a=some q)(c:ObjOk X.prog X.w (upd H a ob) h' a ob):
  Inv X aU σ (upd H a ob) {s with heap:=h',toks:=t'}:=
 I.write (x:=a) (e:=a) f (.inl rfl) (λb q h z=>(g.2 b h).trans z) d c
theorem zbie{d:Heap}{b:List (Key×V)}(z:b.length<=sizeLine)(f:(a==sysModules)=false)(c:KV b vs)(e:d.DictOf (mixKind P w) a vs):
 ObjOk P w H' d a (.dK b):=⟨z,f,vs,c,e⟩
theorem zbax{A:Around}(hu:A.units+1<cLine)(I:Inv X aU σ H s)(g:DPut H a y v H')(S:RelV y u)(G:RelV v r)(h:∀J,Inv X aU σ H' J->Q () J):
  wpAny (model X.prog X.w) A (setItem (.ref a) u r) Q E s:=by
 rcases g with⟨d,k,e,o,l,t⟩|⟨d,k,b,e,o,C,l,t⟩
 ·subst o t;obtain⟨z,w,vs,f,x⟩:=zbuv I.hok e;have n:vs.length<=sizeLine:=by rw[←f.length];exact z
  have m:(putK d k v).length<=sizeLine:=by have:=zgl d k v;lia
  refine wpAny_setItem_pairs (hsz:=n) (zbha S) x λP i p=>h _ ?_
  have he:∃q,P.get? a=some q:=let ⟨q,_,_,j,_⟩:=i;⟨q,j⟩
  exact znk I (by rw[e];exact True.intro) p he (zbie m w (f.put k G) i)
 ·subst o t;cases(show u=Value.ref b from S);obtain⟨z,w,xs,f,x⟩:=zbxa I.hok e;have n:xs.length<=sizeLine:=by rw[←xix f];exact z
  have m:(putK d k v).length<=sizeLine:=by have:=zgl d k v;lia
  refine wpAny_setItem_heap (hsz:=n) (xjf hu) (ztc I.hok C) x λP i p=>h _ ?_
  obtain⟨q,es,ep,j,Y,h3,h4,_,h5⟩:=i;refine znk I (by rw[e];exact True.intro) p ⟨q,j⟩ ⟨m,w,_,(f.put k C G).keeps λc ys U=>?_,q,es,ep,j,Y,h3,h4,h5⟩;rw[zo (zbwv U e (λz=>nomatch z))];exact U
theorem zbyt(I:Inv X aU σ H s)(e:H a=some (.dK kvs))(f:RelV (kV k) u)(l:valV kvs k=some v)(p:more=[]\/∃x,more=[x])
  (h:∀ c m,Inv X aU σ (upd H a (.dK (dropK kvs k))) m->RelV v c->Q c m):wpAny (model X.prog X.w) A (call (.builtin "dict.pop") (.ref a::u::more)) Q E s:=by
 obtain⟨z,C,n,b,j⟩:=zbuv I.hok e;obtain⟨c,w,g⟩:=RelO.some_of (v:=v) (o:=valueAt n k) (by rw[←l];exact b.val k);have r:(keyPart u).isSome=true:=by
  cases k with
  |inl i=>obtain⟨t,q⟩:=(show ∃t,u=Value.int i t from f);subst q;rfl
  |inr x=>obtain⟨t,q⟩:=(show ∃t,u=Value.str x t from f);subst q;rfl
 have J:argsOk "dict.pop" ⟨.ref a::u::more,[]⟩:=by
  rcases p with q|⟨x,q⟩
  ·subst q;exact F.args_dict_pop_2 _ _
  ·subst q;exact F.args_dict_pop_3 _ _ _
 refine xmg xjp j.typeIs F.entry_dict_pop J (meets_dict_pop_there (mixKind X.prog X.w) a (zbha f) more p r)
  ⟨n,c,j,by rw[←b.length];exact z,w,λP d G=>h c _ ?_ g⟩
 have y:∃q,P.get? a=some q:=let ⟨q,_,_,hq,_⟩:=d;⟨q,hq⟩
 exact znk I (by rw[e];exact True.intro) G y (zbie (xbc (zbib kvs k) z) C (b.drop k) d)
noncomputable def NoSl(i:Expr):Prop:=∀b a,subscripted i false b a=operate [b,a] (getItem b a)
theorem zbkw{T id:String}
  (f:typeLookup (.type T) "__getitem__"=pure (some (.builtin id)))(j:NoSl slice)
  (h:wpAny (model prog w) A (eval value env) (λo c=>wpAny (model prog w) A (eval slice env) (λi s₂=>s₂.TypeIs o T/\wpAny (model prog w) A (getItem o i) Q E s₂) E c) E s):
  wpAny (model prog w) A (eval (.Subscript value slice pos) env) Q E s:=by
 refine Subscript_ (xey h (λo c g=>xey g (λi s₂ b=>?_) λ_ _ x=>x) λ_ _ x=>x);obtain⟨d,b⟩:=b;unfold subscriptTail;refine xba ?_;rw[getitemInPython_of_ne d.not_modules];refine xba (wpAny_specialOf d f ?_);have a:wpAny (model prog w) A (subscripted slice false o i) (λr e=>wpAny (model prog w) A (letTemporaryGo value o r >>= λ_=>pure r) Q E e) E s₂:=by
  rw[j o i];exact wpAny_operating (xey b (λr e k=>xba (wpAny_letTemporaryGo (xbg k))) λ_ _ x=>x)
 first
  |exact xbg (xba a)
  |exact xba (xbg (xba a))
  |exact xba a
theorem ztd(I:Inv X aU σ H s)(g:DGet H a y o):s.TypeIs (.ref a) "dict":=by
 rcases g with⟨c,k,e,_,_⟩|⟨c,k,b,e,_,_,_⟩
 ·obtain⟨_,_,h,_,d⟩:=zbid I.hok e;exact d.typeIs
 ·obtain⟨_,_,f,_,d⟩:=zbjv I.hok e;exact d.typeIs
def tDGet(b c:TE):TE:=λσ H Q=>b σ H λx H1=>c σ H1 λy H2=>∃a v,x=.ref a/\DGet H2 a y (some v)/\Q v H2
def tDIn(c b:TE):TE:=λσ H Q=>c σ H λy H1=>b σ H1 λx H2=>∃a o,x=.ref a/\DGet H2 a y o/\Q (.bl o.isSome) H2
def sDPut(e c d:TE):TS:=λD σ H=>d σ H λv H1=>e σ H1 λx H2=>c σ H2 λy H3=>∃a b,x=.ref a/\DPut H3 a y v b/\D.nx σ b
theorem zbmh{X:Cx}(t:X.A.units+1<cLine)(z:PE X o td)(j:PE X i ty)(k:NoSl i):PE X (.Subscript o i pos) (tDGet td ty):=by
 intro d s σ H Q I h;refine zbkw F.slot_dict_getitem.lookup k (thn (z d s σ H _ I h) λu q ⟨x,H1,n,l,m⟩=>thn (j d q σ H1 _ n m) λG A c=>?_);obtain⟨y,H2,e,w,a,v,f,g,r⟩:=c;subst f;obtain rfl:u=Value.ref a:=l;exact⟨ztd e g,zbaz t e g w λC E p b=>⟨v,H2,p,b,r⟩⟩
theorem zbsu{X:Cx}(e:X.A.units+1<cLine)(l:PE X i ty)(v:PE X o td):PC X .In i o (tDIn ty td):=by
 intro c s σ H Q I h;refine thn (l c s σ H _ I h) λA t ⟨y,H1,r,p,f⟩=>thn (v c t σ H1 _ r f) λu z b=>?_
 obtain⟨x,H2,j,q,a,k,m,g,d⟩:=b;subst m;obtain rfl:u=Value.ref a:=q;exact d_in e j g p λw n=>⟨.bl k.isSome,H2,n,rfl,d⟩
theorem zblt{X:Cx}{b:Pos}(G:X.A.units+1<cLine)(Q:PE X o td)(l:PE X i ty)(k:PE X value tv)(m:swapsWith value (some (.Subscript o i pos')) b.line X.env=pure false):
  PS X (.Assign [.Subscript o i pos'] value b) (sDPut td ty tv):=by
 intro c s σ H D I h;refine wpAny_Assign_Subscript (thn (k c s σ H _ I h) λr A ⟨v,H1,w,t,q⟩=>thn (Q c A σ H1 _ w q) λu f ⟨x,H2,J,n,C⟩=>thn (l c f σ H2 _ J C) λY U d=>?_) m;obtain⟨y,H3,z,P,a,p,e,g,j⟩:=d;subst e;obtain rfl:u=Value.ref a:=n;exact zbax G z g P t λS E=>⟨σ,p,E,j⟩
theorem zbif(h:Heap)(a:sysModules<h.objs.size):ObjOk P w H (h.push { cls:=.type "dict",data:=.dict #[] }) h.objs.size (.dK []):=
 ⟨xes _,xfv.mpr (xdj (xch a)),[],.nil,Heap.DictOf.new h⟩
theorem zbht(h:Heap)(a:sysModules<h.objs.size):ObjOk P w H (h.push { cls:=.type "dict",data:=.dict #[] }) h.objs.size (.dT []):=
 ⟨xes _,xfv.mpr (xdj (xch a)),[],.nil,_,#[],0,xcb _ rfl,⟨rfl,rfl,rfl⟩,rfl,rfl,xgg⟩
def tDNewK:TE:=λ_ H Q=>∀p,H p=none->Q (.ref p) (upd H p (.dK []))
def tDNewT:TE:=λ_ H Q=>∀p,H p=none->Q (.ref p) (upd H p (.dT []))
theorem zbft:PE X (.Dict [] [] pos) tDNewK:=λb s σ H Q I h=>
 wpAny_Dict_empty ⟨.ref s.heap.objs.size,_,I.laid (a:=s.heap.objs.size) (o:=.dK []) (t':=s.toks) (λ_ _ q=>xbh _ q) (xbj _) (zbif s.heap I.big),rfl,h _ (I.hok.fresh (xbj _))⟩
theorem zbfs:PE X (.Dict [] [] pos) tDNewT:=λb s σ H Q I h=>
 wpAny_Dict_empty ⟨.ref s.heap.objs.size,_,I.laid (a:=s.heap.objs.size) (o:=.dT []) (t':=s.toks) (λ_ _ q=>xbh _ q) (xbj _) (zbht s.heap I.big),rfl,h _ (I.hok.fresh (xbj _))⟩
structure M1 (X:Cx) (o:Expr) (m:Str) (apos:Pos) (e:Expr) (cpos:Pos):Prop where
 base:attributeBase o m X.env (eval o X.env)=eval o X.env
 few:((backTo cpos (starEach [e] X.env)).all (λx=>!x.1)&&(backToKw cpos (keywordEach [] X.env)).all (λx=>x.1.isSome)
  && decide (([e]:List Expr).length+([]:List Keyword).length+(if([]:List Keyword).isEmpty then 0 else 1)<30))=true
 line:(apos.endLine==cpos.line)=true
 trees:backTo cpos (starEach [e] X.env)=[(false,eval e X.env)]
structure M2 (X:Cx) (o:Expr) (m:Str) (apos:Pos) (e f:Expr) (cpos:Pos):Prop where
 base:attributeBase o m X.env (eval o X.env)=eval o X.env
 few:((backTo cpos (starEach [e,f] X.env)).all (λx=>!x.1)&&(backToKw cpos (keywordEach [] X.env)).all (λx=>x.1.isSome)
  && decide (([e,f]:List Expr).length+([]:List Keyword).length+(if([]:List Keyword).isEmpty then 0 else 1)<30))=true
 line:(apos.endLine==cpos.line)=true
 trees:backTo cpos (starEach [e,f] X.env)=[(false,eval e X.env),(false,eval f X.env)]
def IsD(H:Hp) (a:Addr):Prop:=(∃b,Rd H a (.dK b))\/∃b,Rd H a (.dT b)
theorem zbod(I:Inv X aU σ H s)(d:IsD H a):
  s.TypeIs (.ref a) "dict"/\(∀ b,Value.ref a=.ref b->∃ c,s.heap.get? b=some c/\c.dict=none)/\(a==sysModules)=false:=by
 rcases d with⟨g,e⟩|⟨g,e⟩
 ·obtain⟨_,i,l,_,f⟩:=zbid I.hok e;refine⟨f.typeIs,λb q=>?_,i⟩;cases q;obtain⟨c,_,_,j,h,_⟩:=f;exact⟨c,j,h.2.1⟩
 ·obtain⟨_,i,k,_,f⟩:=zbjv I.hok e;refine⟨f.typeIs,λb q=>?_,i⟩;cases q;obtain⟨c,_,_,j,h,_⟩:=f;exact⟨c,j,h.2.1⟩
theorem zbvc{A:Around}(v:A.units+1<cLine)(I:Inv X aU σ H s)(g:DGet H a y o)(q:RelV y u)(p:RelV d r)(h:∀n t,Inv X aU σ H t->RelV (o.getD d) n->Q n t):
  wpAny (model X.prog X.w) A (call (.builtin "dict.get") [.ref a,u,r]) Q E s:=by
 rcases g with⟨i,k,e,m,l⟩|⟨i,k,b,e,m,x,l⟩
 ·subst m;obtain⟨z,j,C,c,f⟩:=zbid I.hok e;refine xmg xlv f.typeIs F.entry_dict_get (F.args_dict_get_3 _ _ _) (meets_dict_get_default (mixKind X.prog X.w) a (zbha q) j r) ⟨_,f.mapOf,h _ _ (I.tok _) ?_⟩;rw[l];exact(c.val k).getD p
 ·subst m;cases(show u=Value.ref b from q);obtain⟨z,j,w,c,f⟩:=zbjv I.hok e;refine xmg xlv f.typeIs F.entry_dict_get (F.args_dict_get_3 _ _ _) (meetsH_dict_get_default (tupleKind (mixKind X.prog X.w)) a b j r) ⟨xjf v,k,w,ztc I.hok x,f,h _ _ (I.tok _) ?_⟩;rw[l];exact(c.val k).getD p
def tDGet2(c d b:TE):TE:=λσ H Q=>c σ H λx H1=>∃a,x=.ref a/\IsD H1 a/\d σ H1 λy H2=>b σ H2 λz H3=>∃o,DGet H3 a y o/\Q (o.getD z) H3
theorem zbfu{X:Cx}(J:X.A.units + 1<cLine)(Y:PE X o td)(G:PE X e ty)(k:PE X f tx)(m:M2 X o "get" apos e f cpos):PE X (.Call (.Attribute o "get" apos) [e,f] [] cpos) (tDGet2 td ty tx):=by
 intro b s σ H Q I h;refine wpAny_Call_method m.base m.few m.line xiu xlv F.type_dict_get (thn (Y b s σ H _ I h) λu w i=>?_);obtain⟨x,H1,j,t,a,l,d,v⟩:=i;subst l;obtain rfl:u=Value.ref a:=t;obtain⟨n,q,_⟩:=zbod j d;refine⟨n,q,?_⟩;rw[m.trees]
 refine xli rfl (xlz (xja (thn (G b w σ H1 _ j v) λiv p ⟨y,H2,P,S,C⟩=>
  xja (thn (k b p σ H2 _ P C) λfv s3 ⟨z,H3,A,U,ov,g,r⟩=>xlb ?_))))
 exact zbvc J A g S U λw' s4 E c=>⟨_,H3,E,c,r⟩
end L2
namespace Att
open PySem.W Calls PyProof.Rows
theorem zjr:∀(ns:List Int) (c:List Value),WellAll P h c (ns.map WData.int)->IntsAre c ns:=by
 intro ns
 induction ns with
 |nil=>
  intro c w;rw[xnm] at w;cases w;exact .nil
 |cons n ns ih=>
  intro c w;rw[xbr] at w;cases w with
  |cons a b=>
   cases a;exact .cons _ _ (ih _ b)
theorem zyx{l:OpenLaw}(p:l.most=some n)
  (c:l.row.toRowW.claim.pre args=true)(j:WellAll P h vals args):
  ∃ a m b,vals=[Value.ref a]/\args=[WData.list (b.map WData.int)]/\h.get? a=some { cls:=.type "list",data:=.seq m.toArray }/\IntsAre m b/\b.length<=n:=by
 have i:WShape.hasAll [] args [.list .int]=true:=(pre_splitW c).1;have k:l.pre.holds [] {args:=args}=true:=(pre_splitW c).2;obtain⟨d,r,rfl,u,o⟩:=hasAllW_cons i;obtain rfl:=hasAllW_nil o;obtain⟨v,rfl,s⟩:=hasW_list u;obtain⟨b,rfl⟩:=items_int s;have e:b.length<=n:=by
  unfold OpenLaw.pre at k;have f:(WTm.not (.lt (.lit (.int (n:Int))) (.len (.arg 0)))).holds [] {args:=[.list (b.map .int)]}=true:=by
   have f:=(holds_andW k).1;rw[p] at f;exact f
  have g:=condW_of f (w_not (w_lt w_lit (w_len_list (w_arg rfl))));rw[xbb] at g;refine xcr λq=>?_
  have t:(n:Int)<((b.length:Nat):Int):=by lia
  first
   | (rw[xbw t] at g;exact absurd g (by decide))
   | (simp at g;lia)
 cases j with
 |cons w1 w2=>
  cases w2;cases w1 with
  |list ho hall=>exact⟨_,_,b,rfl,rfl,ho,zjr b _ hall,e⟩
theorem zzi(l:OpenLaw)(args:List WData):l.row.toRowW.claim.post args (.bool true) args=true:=
 postW_of (r:=l.row.toRowW) (X:=(true==true))
  (show WShape.has [] (.bool true) .bool=true by first|rfl|decide|simp[WShape.has,WShape.arms,WShape.armsAll])
  (show(WTm.eq .res (.lit (.bool true))).value [] {args:=args,res:=some (.bool true),after:=args}=some (.bool (true==true)) from w_eq_bool (w_res rfl) w_lit) rfl
theorem attach_call{l:OpenLaw}{d:DefRec}
  (hn:l.most=some n)(y:d.params.defaults=[])
  (call:∀(w:World) (A b:Shared) (m C:Str->Option Value) (h:Addr) (o:Obj) (x t e:Value) (a:Addr) (g:List Value) (p:List Int),
   Ground q loose [] XP w A m C b.heap->YP w b.heap ->
   b.heap.get? h=some o->o.data=.func (docDef d.name d.params d.body d.scope x t e)->b.heap.CodeRec t d.name->m d.name=some (.ref h) ->
   b.heap.get? a=some { cls:=.type "list",data:=.seq g.toArray }->IntsAre g p->p.length<=n->b.gens=#[] ->
   codeAny (model l.prog w) callerA (.call (.ref h) ⟨[.ref a],[]⟩) (λr s=>r=.ok (.ret (.bool true))/\OldK b.heap s.heap/\s.os=b.os/\AllBare s.gens) b):
  WalkO q loose XP YP l.row.toRowW d [] (λf g=>PySem.call f g):=by
 intro w A b m C G Y h o x t e dV kV ho X u I z P H J as k E a0 v a1;obtain rfl:dV=.none:=Dflts.none I y;obtain rfl:kV=.none:=Dflts.noKw I;obtain⟨a,g,p,rfl,rfl,j,c,i⟩:=zyx hn k v;refine enter_call (xjv (call w A b m C h o x t e a g p G Y ho (fd_plain X) u z j c i P) λr s hq=>?_);obtain⟨rfl,Q,S,h4⟩:=hq;exact⟨.inl ⟨.bool true,.bool true,[],rfl,λ_=>rfl,.bool true,zzi l _,λ_=>⟨List.Pairwise.nil,λ_ U=>(nomatch U)⟩⟩,Q,S,h4⟩
end Att
namespace L2
open Spec PyProof.Rows
theorem zpy:∀{a:List Value}{b:List Int},IntsAre a b->Vals (b.map V.int) a
 |_,_,.nil=>.nil
 |_,_,.cons n t h=>.cons ⟨t,rfl⟩ (zpy h)
def Only(H:Hp):Prop:=∀b,H b=none\/∃o a,H b=some (.frz o (.lst a))
theorem zbgs{K:Fg}{s₁:Shared}{p:List Value}
  (KX:K.In s₁.heap)(E:s₁.heap.Ns mainGlobals mg)(f:s₁.heap.Ns builtinsNs mb)(a0:∀ x:Str,x≠"__name__"->mb x=bootBuiltins x)(I:s₁.heap.NoLimit)(hg:s₁.gens=#[])
  (U:s₁.heap.get? a=some { cls:=.type "list",data:=.seq p.toArray })(hi:IntsAre p ns)(hl:ns.length<=sizeLine)(hr:Room k callerA)
  (F:∀g:Heap,K.In g->g.Ns mainGlobals mg->FnOk P w K mg g CX k fa fd [x] sp)(t:∀(s:Shared) (u:Value),BindsTo s fd ⟨[u],[]⟩ [(x,u)])
  (X:∀H:Hp,Only H->SqL K H a (ns.map V.int)->sp [.ref a] H (λv _=>v=.bl true) λ_ _ _=>False)
  (a1:∀H e i,CX [] H s₁ (λ_ _ _=>False) e i->False):
  codeAny (model P w) callerA (.call (.ref fa) ⟨[.ref a],[]⟩) (λr i=>r=.ok (.ret (.bool true))/\OldK s₁.heap i.heap/\i.os=s₁.os/\AllBare i.gens) s₁:=by
 have rv:=zpy hi;have C:=hi.length;have l:∀H:Hp,Only H->SqL K H a (ns.map V.int)->HOk P w H s₁.heap->(∀b,H b≠none->b=a)->(H a≠none->K.lookup a=none) ->
   codeAny (model P w) callerA (.call (.ref fa) ⟨[.ref a],[]⟩) (λr i=>r=.ok (.ret (.bool true))/\OldK s₁.heap i.heap/\i.os=s₁.os/\AllBare i.gens) s₁:=by
  intro H hO hS S hA hK;have c:∀{b:Addr}{o:Obj},s₁.heap.get? b=some o->H b=none->(hidT s₁.heap H).get? b=some o:=λe n=>zbhi e n
  have Y:∀{b:Addr}{o:Obj}{y:Array DictEntry}{ep:Nat},s₁.heap.get? b=some o->o.data=.dict y ep->H b=none:=λ{b o y ep} e d=>by
   cases q:H b with
   |none=>rfl
   |some u=>
    have e':b=a:=hA b (by rw[q];simp);subst e';rw[U] at e;cases e
    have d':Data.seq p.toArray _=Data.dict y ep:=d;cases d'
  have j:∀{b:Addr}{m:Str->Option Value},s₁.heap.Ns b m->(hidT s₁.heap H).Ns b m:=λ{b m} ⟨o,y,ep,e,d,r⟩=>⟨o,y,ep,c e (Y e d),d,r⟩
  have G:K.In (hidT s₁.heap H):=λb o e=>c (KX b o e) (by
   cases q:H b with
   |none=>rfl
   |some u=>
    have e':b=a:=hA b (by rw[q];simp);subst e'
    rw[hK (by rw[q];simp)] at e;cases e)
  have hM:Mod K mg (hidT s₁.heap H):=⟨G,j E,⟨mb,j f,a0⟩,let ⟨mc,h1,h2⟩:=I;⟨mc,j h1,h2⟩⟩
  have e0:Env0 P w K mg (hidT s₁.heap H) callerA [] s₁ H:=⟨rfl,hM,λb o e=>zbmx e,xdu (zbam _ _),trivial,λb f=>absurd (show b∈([]:List Addr) from f) (by simp),S,.of_eq hg⟩
  refine xjv ((F _ G (j E)).run callerA [] s₁ H ⟨[.ref a],[]⟩ [.ref a] [.ref a] _ _ hr e0 (t s₁ (.ref a)) (.cons rfl .nil) (X H hO hS)) λr i h=>?_
  cases r with
  |error e=>exact(a1 H e i h).elim
  |ok fl=>
   cases fl with
   |next=>exact False.elim h
   |brk=>exact False.elim h
   |cont=>exact False.elim h
   |ret u=>
    obtain⟨v,H',os,J,un,Q,r',q⟩:=h;have q':v=.bl true:=q;subst q';obtain rfl:u=Value.bool true:=r';refine⟨rfl,OldK.of_keep λb o e=>?_,os,J⟩;cases q:H b with
    |none=>exact un.keep b o e q (by intro z;exact absurd (show b∈([]:List Addr) from z) (by simp)) (by simp)
    |some u=>
     rcases hO b with z|⟨ob,xs,z⟩
     ·rw[q] at z;cases z
     ·have z2:=un.frzs b ob _ z;obtain⟨e1,_⟩:=S b _ z;obtain⟨e2,_⟩:=Q b _ z2;rw[e] at e1;cases e1
      exact e2
 cases hk:K.lookup a with
 |some o=>
  have e:=KX a o hk;rw[U] at e;cases e;refine l (λ_=>none) (λ_=>.inl rfl) (.inr ⟨_,p.toArray,_,hk,rfl,rfl,rfl,by rw[xcc,C];exact hl,by simpa using rv⟩) (λb u z=>by have A:(none:Option HO)=some u:=z;cases A) (λb z=>absurd rfl z) λz=>absurd rfl z
 |none=>
  refine l (λb=>if b=a then some (.frz { cls:=.type "list",data:=.seq p.toArray } (.lst (ns.map V.int))) else none) (λb=>?_) (.inl (.inr ⟨{ cls:=.type "list",data:=.seq p.toArray },if_pos rfl⟩)) (λb u z=>?_) (λb z=>?_) λ_=>hk
  ·by_cases f:b=a
   ·exact .inr ⟨_,_,if_pos f⟩
   ·exact .inl (if_neg f)
  ·by_cases f:b=a
   ·have A:=(if_pos f).symm.trans z;cases A;subst f;exact⟨U,by rw[xbb];exact hl,p,_,rv,U⟩
   ·have A:=(if_neg f).symm.trans z;cases A
  ·by_cases f:b=a
   ·exact f
   ·exact absurd (if_neg f) z
theorem zbkh{l:W.OpenLaw}{n k:Nat}{q:Program}{i:List Str}{S:(Str->Option Value)->Heap->Prop}{J:World->Heap->Prop}{d:DefRec}{K:Params->Fg}{CX:World->CXT}{sp:World->Sp}{x:Str}
  (hn:l.most=some n)(y:n<=sizeLine)(E:d.params.defaults=[])(U:Room k callerA)
  (hY:∀(w:World) (h:Heap),J w h->(K w.params).In h)
  (F:∀(w:World) (j:Str->Option Value) (p:Addr) (h:Heap),(K w.params).In h->h.Ns mainGlobals j->j d.name=some (.ref p) ->
   ∃z:FuncData,(∀(s:Shared) (u:Value),BindsTo s z ⟨[u],[]⟩ [(x,u)]) /\
    ∀b:Heap,(K w.params).In b->b.Ns mainGlobals j->FnOk l.prog w (K w.params) j b (CX w) k p z [x] (sp w))
  (t:∀(w:World) (H:Hp) (a:Addr) (r:List Int),r.length<=n->Only H->SqL (K w.params) H a (r.map V.int)->sp w [.ref a] H (λv _=>v=.bl true) λ_ _ _=>False)
  (C:∀(w:World) (H:Hp) (s:Shared) (e:Value) (A:Shared),CX w [] H s (λ_ _ _=>False) e A->False):
  W.WalkO q i S J l.row.toRowW d [] (λf P=>PySem.call f P):=by
 refine Att.attach_call hn E λw s₀ s₁ j mb p o pm cd a1 a P r G Y ho hd a0 I m g c Q=>?_
 have KX:=hY w _ Y;obtain⟨z,X,hF⟩:=F w j p _ KX G.T.g I;exact zbgs KX G.T.g G.T.b G.T.builtins G.T.nolimit Q m g (xbc c y) U hF X (λH hO hS=>t w H a r c hO hS) λH e A=>C w H s₁ e A
end L2
/- THE LAST THEOREM (shape;LID,My.* are yours):
 My.Adr: a structure of the addresses that your layer names (classes,functions);My.Txt K t: a structure (Prop) of the equations over K;
 My.txt_mk:{K} {implicit addresses ..} (e1:nsIn K mainGlobals "law"=some (some (.ref f))) (e2:K.lookup f=some ⟨oc,od,.func (fnOf "law" "law" params body scope dV kV doc pm an cdv ct),sl⟩) (e3:codeIn K cdv "law"=true) ..:∃ t,My.Txt K t
(the tactic k_is has no namespace: write k_is) -/
namespace L2
open Spec PyProof.Rows
noncomputable def defArgs(s:Stmt):Arguments:=match s with
 |.FunctionDef _ a _ _ _ _ _ _ _ _=>a
 |_=>{posonlyargs:=[],args:=[],vararg:=none,kwonlyargs:=[],kw_defaults:=[],kwarg:=none,defaults:=[]}
noncomputable def defBody(s:Stmt):List Stmt:=match s with
 |.FunctionDef _ _ b _ _ _ _ _ _ _=>b
 |_=>[]
noncomputable def defScope(s:Stmt):Scope:=match s with
 |.FunctionDef _ _ _ _ _ _ sc _ _ _=>sc
 |_=>{kind:=.function,names:=[],isGenerator:=false,isCoroutine:=false}
abbrev CX0:CXT:=λ_ _ _ _ _ _=>False
abbrev E0:XK:=λ_ _ _=>False
theorem pass0:Passes CX0 X E0:=λ_ _ _ _ _ _ _ h=>h.elim
structure Fun (K:Fg) (x qual:Str) (au:Stmt) (f:Addr) (fd:FuncData):Prop where
 ex:∃(oc:Value) (od:Option Addr) (kV doc pm:Value) (an:Option Addr) (cdv ct:Value) (osl:Array (Option Value)),
  fd=W.fnOf x qual (defArgs au) (defBody au) (defScope au) .none kV doc pm an cdv ct/\K.lookup f=some ⟨oc,od,.func fd,osl⟩/\W.codeIn K cdv qual=true
 kp:W.keepIn K (.ref f)=true
theorem Fun.ok{K:Fg}{N:List Str}(F:Fun K x qual au f fd)(S:FnScope N ps (defScope au))(g:∀c H Q E,sp c H Q E->c.length=ps.length)
  (d:∀(b:Value) (A:Around) (a:List Env) (s:Shared) (H:Hp) (c:List V) (Q:VK) (E:XK),Room k (A.deeper (envOfC qual (defScope au) s.heap.objs.size f b))->sp c H Q E ->
   ∃t,PSs (cxOf CX0 P w K mg base N qual (defScope au) f b A a s H E).nox (defBody au) t/\t {nx:=λ_ j=>Q .non j,rt:=Q} (start N c) H):FnOk P w K mg base CX0 (k+1) f fd ps sp:=by
 obtain⟨r,y,kV,o,u,p,b,v,n,rfl,l,e⟩:=F.ex;refine zbyh l e S g λA a s H c Q E m i=>?_
 obtain⟨t,h,q⟩:=d b A a s H c Q E m i;exact⟨t,h.nox,q⟩
theorem Fun.binds{K:Fg}{i:List Str}(F:Fun K x qual au f fd)
  (h:∀(kV b e:Value) (d:Option Addr) (a g:Value) (c:List Value),c.length=i.length->bindArgs (W.fnOf x qual (defArgs au) (defBody au) (defScope au) .none kV b e d a g) ⟨c,[]⟩=pure (i.zip c)):Binds K fd i []:=by
 obtain⟨m,n,kV,b,e,d,a,g,k,rfl,l,j⟩:=F.ex;exact .all (h kV b e d a g)
theorem zbud{K:Fg}{kV:Value}(l:K.lookup f=some ⟨oc,od,.func (W.fnOf x qual (defArgs au) (defBody au) (defScope au) .none kV doc pm an cdv ct),osl⟩)
 (c:W.codeIn K cdv qual=true)(k:W.keepIn K (.ref f)=true):Fun K x qual au f (W.fnOf x qual (defArgs au) (defBody au) (defScope au) .none kV doc pm an cdv ct):=⟨⟨oc,od,kV,doc,pm,an,cdv,ct,osl,rfl,l,c⟩,k⟩
theorem zbdh(a:Room k A):A.units+1<cLine:=xdk (xcv (by decide:1<=64) _) a.units
theorem pv{X:Cx}(i:Nat) (c:X.N[i]?=some x:=by rfl)(d:Vis X.env.scope x:=by first|exact Or.inl rfl|exact Or.inr (Or.inl rfl)|exact Or.inr (Or.inr rfl))(b:(x==("__debug__" : Str))=false:=by decide)
 (a:(x==("__classdict__" : Str))=false:=by decide):PE X (.Name x pos) (tVar i):=zbsn c d b a
theorem iteF{A B:Prop}(h:B):if false=true then A else B:=by
 rw[if_neg xga];exact h
theorem iteT{A B:Prop}(h:A):if true=true then A else B:=by
 rw[if_pos rfl];exact h
section
variable {κ:Type}[DecidableEq κ]
end
noncomputable abbrev NoX:Value->Shared->Prop:=λ_ _=>False
noncomputable abbrev testsOf(cs:List Expr) (a:Env):Sem Bool:=
 forIn cs true λd b=>if b=true then do let z ←isTrue d a (eval d a);pure (ForInStep.yield z) else pure (ForInStep.yield b)
def CompStep(P:Program) (w:World) (B:Around) (b x:Expr) (cs:List Expr) (a:Env) (i l:Value) (K:Shared->Prop) (v:Value) (e:Shared):Prop:=
 wpAny (model P w) B (letOwnedTupleGo b i v) (λ_ sb=>wpAny (model P w) B (assign b a v) (λ_ g=>wpAny (model P w) B (testsOf cs a) (λf c=>
  if f=true then wpAny (model P w) B (eval x a) (λy d=>wpAny (model P w) B (call (.builtin "list.append") [l,y]) (λ_ h=>K h) NoX d) NoX c else K c) NoX g) NoX sb) NoX e
theorem zbbe{cs:List Expr}(J:Nat->Shared->Prop)
  (m:∀k d,J k d->wpAny (model P w) B (pyNext i) (λo f=>match o with
   |none=>R (.ok .next) f
   |some v=>CompStep P w B tg x cs ev i l (λj=>∃g,g<k/\J g j) v f) NoX d)
  (k:Nat)(p:J k sh):codeAny (model P w) B (.compLoop (.ListComp x [⟨tg,it,cs,0⟩] sc ps) 0 i l ev) R sh:=by
 have a:∀{E:Value->Shared->Prop}(e:Value) (z:Shared),NoX e z->E e z:=λ_ _ z=>z.elim
 refine codeAny_loop rfl J (λk d q=>wpAny_noted (by
  rw[compTurn_list];refine xba (xnb (xba (xey (m k d q) (λo f c=>?_) a)))
  match o,c with
  |none,c=>exact xbg c
  |some v,c=>
   refine xba (xey c (λ_ sb u=>xba (xey u (λ_ s t=>xba (xey t (λh C b=>?_) a)) a)) a)
   match h,b with
   |false,b=>exact xbg (And.intro rfl b)
   |true,b=>exact xba (xba (xey b (λy A n=>xba (xey n (λ_ j r=>xbg (xbg (And.intro rfl r))) a)) a)))) k p
theorem zph{env:Env}:∀(b:List (Str×NameKind)) (acc:List (Str×Addr)),(∀y∈b,y.2=.free->∃c,env.cells.lookup y.1=some c)->(∀x c,acc.lookup x=some c->env.cells.lookup x=some c) ->
  ∃f:List (Str×Addr),(forIn b acc (λx r=>if(x.2==NameKind.free)=true then do let a ←cellOf env x.1;pure (ForInStep.yield ((x.1,a)::r)) else pure (ForInStep.yield r)):Sem (List (Str×Addr)))=pure f /\
   (∀x c,f.lookup x=some c->env.cells.lookup x=some c)/\(∀x c,acc.lookup x=some c->∃h,f.lookup x=some h)/\∀x,(x,NameKind.free)∈b->∃c,f.lookup x=some c:=by
 intro b
 induction b with
 |nil=>intro acc _ i;exact⟨acc,rfl,i,λx c e=>⟨c,e⟩,λx z=>(nomatch z)⟩
 |cons y r ih=>
  intro acc l i;obtain⟨n,k⟩:=y;by_cases hk:k=.free
  ·subst hk;obtain⟨c,p⟩:=l (n,.free) xbv rfl
   obtain⟨f,e,o,g,m⟩:=ih ((n,c)::acc) (λy j=>l y (xbf _ j)) (λx h e=>by
    rw[xgc] at e;by_cases d:x=n
    ·subst d;rw[xhm] at e;cases e;exact p
    ·rw[xfv.mpr d] at e
     exact i x h e)
   refine⟨f,?_,o,λx h s=>?_,λx d=>?_⟩
   ·rw[xnv];simp only[xhm,ite_true];have q:cellOf env n=pure c:=by unfold cellOf;rw[p]
    rw[q];simp only[pure_bind];exact e
   ·by_cases d:x=n
    ·subst d;exact g x c (by rw[xgc,xhm])
    ·exact g x h (by rw[xgc,xfv.mpr d];exact s)
   ·rcases xbl.mp d with z|z
    ·cases z;exact g n c (by rw[xgc,xhm])
    ·exact m x z
  ·obtain⟨f,e,o,g,m⟩:=ih acc (λy j=>l y (xbf _ j)) i;refine⟨f,?_,o,g,λx d=>?_⟩
   ·rw[xnv];have t:(k==NameKind.free)=false:=by simpa using hk
    simp only[t,xds,xfa,pure_bind];exact e
   ·rcases xbl.mp d with z|z
    ·cases z;exact absurd rfl hk
    ·exact m x z
theorem zwz{scope:Scope}{env:Env}(h:∀y∈scope.names,y.2=.free->∃c,env.cells.lookup y.1=some c):
  ∃cl,closureFor scope env=pure cl/\(∀x c,cl.lookup x=some c->env.cells.lookup x=some c)/\∀x,(x,NameKind.free)∈scope.names->∃c,cl.lookup x=some c:=by
 obtain⟨cl,e,h1,_,h3⟩:=zph (env:=env) scope.names [] h (λx c e=>(nomatch e));refine⟨cl,?_,h1,h3⟩;unfold closureFor;have e':=congrArg (λm=>m >>= λr=>(pure r:Sem (List (Str×Addr)))) e;simp only[pure_bind] at e';exact e'
theorem zbl{a:Env}:∀{b:List (Str×NameKind)}{x:Str}{k:NameKind},(b.map λ(n,k)=>if(k==NameKind.free&&a.scope.kind==.function&&a.kindOf n==some .cell) then(n,NameKind.cell) else(n,k)).lookup x=some k ->
  b.lookup x=some k\/(k=.cell/\b.lookup x=some .free)
 |[],_,_,h=>by simp at h
 | (n,k')::r,x,k,h=>by
  have e:=@zbl a r x k;have c:List.lookup x ((if(k'==NameKind.free&&a.scope.kind==.function&&a.kindOf n==some .cell)=true then(n,NameKind.cell) else(n,k'))::_)=_:=h;cases hx:x==n with
  |true=>
   by_cases hc:(k'==NameKind.free&&a.scope.kind==.function&&a.kindOf n==some .cell)=true
   ·rw[if_pos hc] at c;simp only[xgc,hx] at c ⊢;cases c;rw[xcy,xcy] at hc;exact .inr ⟨rfl,by rw[eq_of_beq hc.1.1]⟩
   ·rw[if_neg hc] at c;simp only[xgc,hx] at c ⊢;exact .inl c
  |false=>
   have d:(r.map λ(n,k)=>if(k==NameKind.free&&a.scope.kind==.function&&a.kindOf n==some .cell) then(n,NameKind.cell) else(n,k)).lookup x=some k:=by
    by_cases hc:(k'==NameKind.free&&a.scope.kind==.function&&a.kindOf n==some .cell)=true
    ·rw[if_pos hc] at c;simp only[xgc,hx] at c;exact c
    ·rw[if_neg hc] at c;simp only[xgc,hx] at c;exact c
   simp only[xgc,hx];exact e d
def cxC(X:Cx) (N:List Str) (a:Scope) (c:List (Str×Addr)) (C:Addr) (b:List Addr) (s:Shared) (H:Hp):Cx:=
 {X with N:=N,s₀:=s,H₀:=H,env:=compEnvC a c C X.env,outer:=X.stack,ex:=b,fn:=λ_=>false,pn:=[],xe:=λ_ _=>False}
def startC(k:Nat) (is:List Nat) (σ:St):St:=List.replicate k none++is.map λi=>(σ[i]?).getD none
structure CompScope (X:Cx) (N:List Str) (k:Nat) (is:List Nat) (scope:Scope):Prop where
 kind:scope.kind=.function
 nocell:∀y∈scope.names,y.2≠.cell
 names:∀y∈scope.names,y.2=.local->scope.names.lookup y.1=some .local
 frees:∀y∈scope.names,y.2=.free->X.env.kindOf y.1=some .cell\/X.env.kindOf y.1=some .free
 len:N.length=k+is.length
 own:∀j i,is[j]?=some i->∃x,N[k+j]?=some x/\X.N[i]?=some x/\scope.names.lookup x=some .free
theorem zfs{l:List (Str×NameKind)}(h:l.lookup x=some k):(x,k)∈l:=xhj h
theorem zbhd{N:List Str}{Q:List (Str×Addr)}{G:Heap}(S:CompScope X N k is scope)(I:Inv X aU σ H s)
  (h:∀x c,Q.lookup x=some c->X.env.cells.lookup x=some c)(c2:∀x,(x,NameKind.free)∈scope.names->∃c,Q.lookup x=some c)
  (t:∀b∈Y,FpOk X aU H b)(E:∀b∈Y,∃o,s.heap.get? b=some o)(hn:G.Ns s.heap.objs.size (λ_=>none))(w:∀b o,s.heap.get? b=some o->G.get? b=some o):
  Inv (cxC X N scope Q s.heap.objs.size Y s H) [] (startC k is σ) H {s with heap:=G,toks:=tk}:=by
 have hC:∀b o,s.heap.get? b=some o->b≠s.heap.objs.size:=λb o e=>xch (xbz e)
 have J:∀b∈Y,b∉frs X.stack:=λb g z=>by
  rcases xbl.mp (I.stkSub b z) with e|e
  ·exact(t b g).2.1 e
  ·exact(t b g).2.2.1 e
 refine⟨⟨I.ok.mod,S.kind,I.ok.glob,I.ok.blt,xbj _,λx y c C d=>I.ok.inj x y c (h x c C) (h y c d),λx hx=>?_,λx c z=>?_,I.ok.hd,I.ok.frames,.inl rfl,λb g=>⟨?_,λx c e=>?_⟩,I.bs,xbc I.ok.bsz I.sz,λb o e g=>?_,J,I.stack,I.stkFree⟩,
  rfl,I.bare,Un.kept w,⟨_,hn,λi x v C d e3=>?_⟩,λx c e=>?_,I.hok.fresh (xbj _),λx c e=>I.freeC x c (h x c e),λp hp=>(nomatch hp),I.hok.kept w,?_,I.hnd⟩
 ·have P:(scope.names.map λ(n,k)=>if(k==NameKind.free&&X.env.scope.kind==.function&&X.env.kindOf n==some .cell) then(n,NameKind.cell) else(n,k)).lookup x=some .cell\/(scope.names.map λ(n,k)=>if(k==NameKind.free&&X.env.scope.kind==.function&&X.env.kindOf n==some .cell) then(n,NameKind.cell) else(n,k)).lookup x=some .free:=hx;have q:scope.names.lookup x=some .free:=by
   rcases P with z|z
   ·rcases zbl z with q|⟨_,q⟩
    ·exact absurd rfl (S.nocell _ (zfs q))
    ·exact q
   ·rcases zbl z with q|⟨q,_⟩
    ·exact q
    ·cases q
  exact c2 x (zfs q)
 ·cases z
 ·obtain⟨o,e⟩:=E b g;exact hC b o e
 ·exact(t b g).2.2.2.2.1 x c (h x c e)
 ·rcases(t b g).2.2.2.1 with z|z
  ·exact I.ok.noex b o e z
  ·exact absurd (xbm (xbz (I.ok.bs b o e).1) z) (xhh _)
 ·-- a name of the def around
  unfold startC at d;have hi:k<=i:=by
   rcases xim i k with z|z
   ·rw[xby (by rw[xhz];exact z),List.getElem?_replicate,if_pos z] at d;cases d
   ·exact z
  rw[xdm (by rw[xhz];exact hi),xhz,xcl] at d;cases ej:is[i-k]? with
  |none=>rw[ej] at d;cases d
  |some j=>
   rw[ej] at d;have f:(σ[j]?).getD none=some v:=xcz d;obtain⟨y,y1,y2,y3⟩:=S.own (i-k) j ej;have ey:y=x:=by
    have z:N[i]?=some y:=by rw[←y1];congr 1;lia
    have l:N[i]?=some x:=C;rw[z] at l;exact xcz l
   subst ey;have e4:σ[j]?=some (some v):=by
    cases q:σ[j]? with
    |none=>rw[q] at f;cases f
    |some o=>rw[q] at f;exact congrArg some f
   have kd:=S.frees _ (zfs y3) rfl;have U:Vis X.env.scope y:=.inr kd;obtain⟨m,_,hl⟩:=I.loc;obtain⟨u,r,lk⟩:=hl j y v y2 e4 U;refine⟨u,r,?_⟩;rcases lk with⟨z,_⟩|⟨_,c,e5,cc⟩
   ·rcases kd with q|q<;>(rw[q] at z;cases z)
   ·obtain⟨A,e6⟩:=c2 y (zfs y3);have:A=c:=by
     have z:=h y A e6;rw[e5] at z;exact(xcz z).symm
    subst this;refine .inr ⟨?_,A,e6,?_⟩
    ·rcases e3 with z|z|z
     ·exact absurd (zbl z) (by
       rw[y3];rintro(q|⟨q,_⟩)
       ·cases q
       ·cases q)
     ·exact .inl z
     ·exact .inr z
    ·obtain⟨o,ho,hd⟩:=cc;exact⟨o,w _ o ho,hd⟩
 ·obtain⟨v,o,ho,hd⟩:=I.cell x c (h x c e);exact⟨v,o,w _ o ho,hd⟩
 ·unfold startC;rw[xbk,xhz,xbb];exact S.len.symm
theorem zbhe{N:List Str}(I:Inv X aU σ H s)(d:∀b∈g,FpOk X aU H b)(J:Inv (cxC X N scope cl s.heap.objs.size g s H) [] σ' H' s')
  (f:Heap.SameBut s.heap.objs.size s'.heap h'):Inv X aU σ H' {s' with heap:=h'}:=by
 have i:∀b o,s.heap.get? b=some o->b≠s.heap.objs.size:=λb o e=>xch (xbz e)
 have k:H' s.heap.objs.size=none:=J.free;have B:Un (frs X.stack) g H H' s.heap s'.heap:=J.base
 have U:Un (frs X.stack) g H H' s.heap h':=⟨λb o e n j h=>f.extBut b o (i b o e) (B.keep b o e n j h),λb o e n j h=>by
   obtain⟨m,q⟩:=B.slot b o e n j h;exact⟨m,f.extBut b _ (i b o e) q⟩,B.free,λb o e p=>by
   obtain⟨l,q⟩:=B.there b o e p
   exact⟨l,f.extBut b l (i b o e) q⟩,B.tups,B.frzs,B.tbls⟩
 refine I.call' (s':={s' with heap:=h'}) J.os U (λa o e=>?_) J.bare (λb c=>⟨(d b c).2.2.2.1,(d b c).2.1,(d b c).2.2.2.2.1,(d b c).2.2.2.2.2⟩);refine(J.hok a o e).stay (λb u c q=>f.extBut b u ?_ q) (λ_ q=>q) λ_ _ q=>q
 rcases c with z|z
 ·intro y;rw[z] at y;rw[y,k] at e;cases e
 ·intro y;rw[y,k] at z;cases z
structure OffC (X:Cx) (aU:List (Addr×Obj)) (H:Hp) (C:Addr):Prop where
 free:H C=none
 loc:C≠X.env.locals
 young:X.s₀.heap.objs.size<=C
 cell:∀x c,X.env.cells.lookup x=some c->c≠C
 pin:∀p∈X.pn++aU,p.1≠C
theorem OffC.back(o:OffC X aU H C)(I:Inv X aU σ H s)(c:Heap.SameBut C s.heap h'):Inv X aU σ H {s with heap:=h'}:=
 I.turned (t':=s.toks) (λb u a e=>c.extBut b u a e) o.free o.loc (.inr o.young) o.cell o.pin
def nxC(p:Addr) (f:TE) (g:TT) (N:St->Hp->Prop):St->Hp->Prop:=λa H3=>g a H3 λb d=>
 if b=true then f a d λy e=>∃c,e p=some (.lst c)/\c.length<sizeLine/\N a (upd e p (.lst (c++[y]))) else N a d
def CompG(J:It) (g:TG) (f:TT) (e:TE) (Q:VK) (p:Addr) (σ:St) (H:Hp):Prop:=∃W:Nat->Nat->St->Hp->Prop,(∃m,W 0 m σ H) /\
 ∀i m c a,W i m c a->(J.stop i a/\Q (.ref p) a)\/(J.go i a/\∃N:St->Hp->Prop,(∀b H2,N b H2->∃d,d<m/\W (i+1) d b H2)/\∀x H2,J.yld i a x H2->g x c H2 (nxC p e f N))
def tComp(b:TI) (k:Nat) (is:List Nat) (g:TG) (c:TT) (a:TE):TE:=λσ H Q=>b σ H λJ H1=>∀p,H1 p=none->CompG J g c a Q p (startC k is σ) (upd H1 p (.lst []))
def tYes:TT:=λ_ H Q=>Q true H
def PIf(X:Cx) (a:List Expr) (t:TT):Prop:=
 ∀(b:List (Addr×Obj)) (s:Shared) (σ:St) (H:Hp) (Q:Bool->Hp->Prop),Inv X b σ H s->t σ H Q ->
  wpAny (model X.prog X.w) X.A (forIn a true λc r=>if r=true then do let ok ←isTrue c X.env (eval c X.env);pure (ForInStep.yield ok) else pure (ForInStep.yield r)) (TP X b σ Q) X.xe s
theorem zblz:PIf X [] tYes:=λa s σ H Q I h=>wpAny_tests_nil ⟨H,I,h⟩
theorem zbly(h:PT X c t):PIf X [c] t:=λb s σ H Q I a=>wpAny_tests_one (h b s σ H Q I a)
section
variable {X:Cx}{tg:Expr}{iter:Expr}{elt:Expr}{ifs:List Expr}{g:TG}{tc:TT}{te:TE}{N:List Str}{k:Nat}{is:List Nat}{scope:Scope}{pos:Pos}
theorem znp(w:X.calm=true)(hg:∀j C f s H,PG (cxC X N scope j C f s H) tg g)(hc:∀j C f s H,PIf (cxC X N scope j C f s H) ifs tc)(he:∀j C f s H,PE (cxC X N scope j C f s H) elt te)
  (S:CompScope X N k is scope){aU:List (Addr×Obj)}{σ:St}{H2:Hp}{s2:Shared}{j:List (Str×Addr)}{it:Addr}{f:List Addr}{tn:Nat->Heap->Prop}{J:It}{Q:VK}{E:Value->Shared->Prop}{RR:Value->Addr->Result->Shared->Prop}
  (I2:Inv X aU σ H2 s2)(T:Turn X.prog X.w X.K tg J f it tn)(b0:tn 0 s2.heap)(f2:∀b∈f,FpOk X aU H2 b)
  (c1:∀x c,j.lookup x=some c->X.env.cells.lookup x=some c)(c2:∀x,(x,NameKind.free)∈scope.names->∃c,j.lookup x=some c)
  (h:∀p,H2 p=none->∃W:Nat->Nat->St->Hp->Prop,(∃m,W 0 m (startC k is σ) (upd H2 p (.lst []))) /\
   ∀i m t H',W i m t H'->(J.stop i H'/\Q (.ref p) H')\/(J.go i H'/\∃N:St->Hp->Prop,(∀σ2 H2,N σ2 H2->∃G,G<m/\W (i+1) G σ2 H2)/\∀x H2,J.yld i H' x H2->g x t H2 (nxC p te tc N)))
  (hR:∀(p C:Addr) (z:Shared) (H':Hp) (m:Str->Option Value),OffC X aU H' C->z.heap.Ns C m->Inv X aU σ H' z->Q (.ref p) H'->RR (.ref p) C (.ok .next) z):
  wpAny (model X.prog X.w) X.A (newList []) (λacc s₃=>wpAny (model X.prog X.w) X.A (newFunctionEnv scope X.env.globals j [] X.env.qual none .none (some X.env)) (λP s₄=>
   codeAny (model X.prog X.w) X.A (.compStart (.ListComp elt [⟨tg,iter,ifs,0⟩] scope pos) 0 (.ref it) acc {P with scope:=relabel scope X.env}) (RR acc P.locals) s₄) E s₃) E s2:=by
 refine xez ?_;have fresh:H2 s2.heap.objs.size=none:=I2.fresh;have I3:Inv X aU σ (upd H2 s2.heap.objs.size (.lst [])) { s2 with heap:=s2.heap.push { cls:=.type "list",dict:=none,data:=.seq ([]:List Value).toArray } }:=I2.lnew (t':=s2.toks) (.nil) (by decide)
 generalize hs3:({ s2 with heap:=s2.heap.push { cls:=.type "list",dict:=none,data:=.seq ([]:List Value).toArray } }:Shared)=s3 at I3
 have k3:∀b o,s2.heap.get? b=some o->s3.heap.get? b=some o:=λb o e=>by rw[←hs3];exact xbh _ e
 refine wpAny_newFunctionEnv S.nocell (by intro y hy;simp at hy) (λh₁ a2 a1=>?_) S.kind;have a0:tn 0 s3.heap:=T.keep _ _ _ b0 λb _ o e=>k3 b o e
 have f3:∀b∈f,FpOk X aU (upd H2 s2.heap.objs.size (.lst [])) b:=λb l=>by
  obtain⟨o,e,_⟩:=T.obj _ _ b0 b l;exact⟨by rw[zo (xch (xbz e))];exact(f2 b l).1,(f2 b l).2⟩
 have k4:∀b o,s3.heap.get? b=some o->h₁.get? b=some o:=λb o e=>a1.extBut b o (xch (xbz e)) (xbh _ e)
 have J4:=zbhd (tk:=s3.toks+([]:List (Str×Value)).length) S I3 c1 c2 f3 (λb l=>let ⟨o,e,_⟩:=T.obj _ _ a0 b l;⟨o,e⟩) a2 k4;obtain⟨W,⟨m0,w0⟩,a7⟩:=h s2.heap.objs.size fresh;have a9:tn 0 h₁:=T.keep _ _ _ a0 λb _ o e=>k4 b o e
 have I:codeAny (model X.prog X.w) X.A (.compLoop (.ListComp elt [⟨tg,iter,ifs,0⟩] scope pos) 0 (.ref it) (.ref s2.heap.objs.size) (compEnvC scope j s3.heap.objs.size X.env)) (RR (.ref s2.heap.objs.size) s3.heap.objs.size) {s3 with heap:=h₁,toks:=s3.toks+([]:List (Str×Value)).length}:=by
  have A:∀{H':Hp},(∀b∈f,H' b=none)->∀b∈f,FpOk (cxC X N scope j s3.heap.objs.size f s3 (upd H2 s2.heap.objs.size (.lst []))) [] H' b:=λ{H'} hn b l=>by
   obtain⟨o,e,_⟩:=T.obj _ _ a0 b l;refine⟨hn b l,xch (xbz e),J4.ok.exfs b l,.inl l,λx c e'=>(f3 b l).2.2.2.2.1 x c (c1 x c e'),λp hp=>(nomatch hp)⟩
  refine zbbe (λn z=>∃i t H',Inv (cxC X N scope j s3.heap.objs.size f s3 (upd H2 s2.heap.objs.size (.lst []))) [] t H' z/\tn i z.heap/\(∀b∈f,H' b=none)/\W i n t H') ?_ m0
   ⟨0,_,_,J4,a9,λb l=>(f3 b l).1,w0⟩
  rintro n s5 ⟨i,σ5,H5,I5,a8,a6,w5⟩;rcases a7 i n σ5 H5 w5 with⟨a4,q⟩|⟨go,N',a3,step⟩
  ·refine thn (T.done (cxC X N scope j s3.heap.objs.size f s3 (upd H2 s2.heap.objs.size (.lst []))) rfl rfl rfl w i [] s5 σ5 H5 _ I5 (A a6) a8 a4) λr s6 a=>?_
   obtain⟨hr,I6⟩:=a;subst hr;obtain⟨m,U,_⟩:=I6.loc;refine hR _ _ s6 H5 m ⟨I6.free,xhr I3.lt,I3.sz,λx c e=>?_,λp hp=>xch (xbz (I3.pin p hp).1)⟩ U (zbhe (h':=s6.heap) I3 f3 I6 (.refl ..)) q;obtain⟨v,o,ho,_⟩:=I3.cell x c e;exact xch (xbz ho)
  ·refine thn (T.item (cxC X N scope j s3.heap.objs.size f s3 (upd H2 s2.heap.objs.size (.lst []))) rfl rfl rfl w i [] s5 σ5 H5 _ I5 (A a6) a8 go) λr s6 a=>?_
   obtain⟨u,hr,h6⟩:=a;subst hr;refine thn h6 λ_ s7 a=>?_
   obtain⟨x,H7,I7,r7,y7,Y,b9⟩:=a;have c0:=I7.pinned (A b9) (T.obj _ _ Y);refine thn (hg j s3.heap.objs.size f s3 _ _ s7 σ5 H7 x u _ c0 r7 (step x H7 y7)) λ_ s8 a=>?_
   obtain⟨σ8,H8,I8,q8⟩:=a;refine thn (hc j s3.heap.objs.size f s3 _ _ s8 σ8 H8 _ I8 q8) λb s9 a=>?_
   obtain⟨H9,I9,q9⟩:=a;have again:∀{t:St}{H':Hp}{z:Shared}{G:Nat},Inv (cxC X N scope j s3.heap.objs.size f s3 (upd H2 s2.heap.objs.size (.lst []))) ([]++pinsAt f s7.heap) t H' z->G<n->W (i+1) G t H' ->
     ∃m,m<n/\∃i t H',Inv (cxC X N scope j s3.heap.objs.size f s3 (upd H2 s2.heap.objs.size (.lst []))) [] t H' z/\tn i z.heap/\(∀b∈f,H' b=none)/\W i m t H':=λ{t H' z G} I' U w'=>by
    refine⟨G,U,i+1,t,H',I'.unpinned,T.keep _ _ _ Y λb l o e=>(I'.pin (b,o) (xdz _ (xdz _ (zfr l e)))).1,λb l=>?_,w'⟩;obtain⟨o,e,d⟩:=T.obj _ _ Y b l;exact(I'.pin (b,o) (xdz _ (xdz _ (zfr l e)))).2.1
   cases b with
   |false=>
    obtain⟨G,U,w'⟩:=a3 _ _ q9;exact again I9 U w'
   |true=>
    refine thn (he j s3.heap.objs.size f s3 _ _ s9 σ8 H9 _ I9 q9) λv b2 a=>?_
    obtain⟨y,a5,b1,b6,xs,b7,hz,b8⟩:=a;obtain⟨G,U,w'⟩:=a3 _ _ b8;refine thn (zqv (X:=cxC X N scope j s3.heap.objs.size f s3 (upd H2 s2.heap.objs.size (.lst []))) _ b2 σ8 a5 (.ref s2.heap.objs.size) [y] _ [v] (λ_ H'=>H'=upd a5 s2.heap.objs.size (.lst (xs++[y]))) b1 rfl (.cons b6 .nil) ⟨_,xs,y,rfl,rfl,b7,hz,rfl⟩) λ_ c5 a=>?_
    obtain⟨_,c4,b3,_,b4⟩:=a;subst b4;exact again b3 U w'
 have c3:s2.heap.push { cls:=.type "list",dict:=none,data:=.seq ([]:List Value).toArray }=s3.heap:=by rw[←hs3]
 have b5:=codeAny_compStart_list (elt:=elt) (target:=tg) (iter:=iter) (ifs:=ifs) (rest:=[]) (scope:=scope) (pos:=pos) I (T.self X.A 0 _ _ _ a9 I);exact b5
end
theorem zje{N:List Str}(S:CompScope X N k is scope) (I:Inv X aU σ H s):
  ∃cl,closureFor scope X.env=pure cl/\(∀x c,cl.lookup x=some c->X.env.cells.lookup x=some c)/\∀x,(x,NameKind.free)∈scope.names->∃c,cl.lookup x=some c:=
 zwz λy hy hf=>I.ok.has y.1 (S.frees y hy hf)
theorem zbmi{X:Cx}{N:List Str}(a:X.calm=true)(y:PI X tg iter wi)(l:∀b C c s H,PG (cxC X N scope b C c s H) tg g)(r:∀b C c s H,PIf (cxC X N scope b C c s H) ifs tc)(U:∀b C c s H,PE (cxC X N scope b C c s H) elt te)
  (S:CompScope X N k is scope)(z:∀x,foldedSetIterable iter X.env x=pure x:=by intro _;rfl):PE X (.ListComp elt [⟨tg,iter,ifs,0⟩] scope pos) (tComp wi k is g tc te):=by
 intro j s σ H Q I h;obtain⟨b,e,u,w⟩:=zje S I;rw[eval_ListComp];refine wpAny_comprehension_free (use:=none) rfl z e S.kind S.names (thn (y j s σ H _ I h) λxv s1 t=>thn t λG s2 n=>?_);obtain⟨it,c,tn,J,H2,E,Y,T,f,v,o⟩:=n;subst E;refine znp (Q:=Q) (RR:=λacc C=>compPost (model X.prog X.w) X.A X.xe none (EP X j σ Q) acc C) a l r U S Y T f v u w o ?_;intro p C s' H' m d A P q;exact⟨m,A,λh' i=>⟨.ref p,H',d.back P i,rfl,q⟩⟩
theorem zblr{X:Cx}{N:List Str}(d:X.calm=true)(hN:X.N.Nodup)(t:X.N[i]?=some x)(hx:Loc X.env.scope x)(hi:PI X tg iter wi)(U:∀f C j s H,PG (cxC X N scope f C j s H) tg g)(hc:∀f C j s H,PIf (cxC X N scope f C j s H) ifs tc)
  (he:∀f C j s H,PE (cxC X N scope f C j s H) elt te)(S:CompScope X N k is scope){b:Pos}(y:swapsWith (.ListComp elt [⟨tg,iter,ifs,0⟩] scope pos) (some (.Name x pos')) b.line X.env=pure true:=by rfl)
  (hf:X.fn x=true\/X.env.scope.names.lookup x=some .local:=by first|exact .inl rfl|exact .inr rfl|assumption)
  (P:∀x,foldedSetIterable iter X.env x=pure x:=by intro _;rfl):PS X (.Assign [.Name x pos'] (.ListComp elt [⟨tg,iter,ifs,0⟩] scope pos) b) (tAsg (tComp wi k is g tc te) (gName i)):=by
 intro o s σ H D I h;obtain⟨f,e,c1,c2⟩:=zje S I;rw[exec_Assign_Name_used (hs:=y)];refine xba (xnb (xba (?_:wpAny _ X.A _ _ _ s)));show wpAny _ X.A (do let _ ←comprehension (.ListComp elt [⟨tg,iter,ifs,0⟩] scope pos) scope X.env _ (newList []) false (eval iter X.env) (some (assign (.Name x pos') X.env))) _ _ s
 refine xba (xey (wpAny_comprehension_free (use:=some (assign (.Name x pos') X.env)) (Q:=λ_ l=>SP X o D .next l) rfl P e S.kind S.names
  (thn (hi o s σ H _ I h) λxv s1 h1=>thn h1 λa1 s2 Y=>?_)) (λ_ l hq=>xbg (xbg hq)) λ_ _ e=>e)
 obtain⟨it,j,tn,J,H2,e2,I2,T,u,f2,h3⟩:=Y;subst e2;refine znp (Q:=λv E=>gName i v σ E D.nx) (RR:=λacc C=>compPost (model X.prog X.w) X.A X.xe (some (assign (.Name x pos') X.env)) (λ_ l=>SP X o D .next l) acc C) d U hc he S I2 T u f2 c1 c2 h3 ?_;intro p C l E m c hm I' q;show wpAny _ X.A (assign (.Name x pos') X.env (.ref p)) _ _ _;refine wpAny_assign_Name (zqd (v:=.ref p) I' hN t hx rfl (λa0 G r=>?_) hf);obtain⟨a,A,ha⟩:=r;have n:C≠a:=by
  rcases ha with z|z
  ·rw[z];exact c.loc
  ·exact(c.cell x a z).symm
 exact⟨m,hm.sameBut A n,λh' w=>⟨_,E,c.back G w,q⟩⟩
def Callee(P:Program) (w:World) (K:Fg) (b:Str->Option Value) (a:Heap) (x:Str) (k:Nat) (c:List Str) (e:Sp):Prop:=
 ∃f d,FnOk P w K b a CX0 k f d c e/\Binds K d c []/\W.keepIn K (.ref f)=true/\b x=some (.ref f)
theorem zbfv{X:Cx}(c:Callee X.prog X.w X.K X.mg X.base x k ps sp)(i:Room k X.A)(g:Gl X x)(l:PA X (e::es) t)(a:(x==("__debug__" : Str))=false:=by decide)
  (h:starEach (e::es) X.env=(false,eval e X.env)::starEach es X.env:=by rfl)(d:(backTo pos (starEach es X.env)).any (·.1)=false:=by rfl):
  PE X (.Call (.Name x p) (e::es) [] pos) (tCall sp [] E0 t):=by
 obtain⟨f,n,F,b,j,m⟩:=c;exact zbmk F i g m j b .nil pass0 l a h d
noncomputable def TopF(K:Fg) (x:Str) (b:Stmt):Prop:=
 ∃f a,W.nsIn K mainGlobals x=some (some (.ref f))/\Fun K x x b f a
theorem zbj{K:Fg}{x:Str}{au:Stmt}{f:Addr}{m d:Option Addr}{e:Array (Option Value)}{g kV h i b j:Value}
  (a:W.nsIn K mainGlobals x=some (some (.ref f)))(l:K.lookup f=some ⟨g,m,.func (W.fnOf x x (defArgs au) (defBody au) (defScope au) .none kV h i d b j),e⟩)(c:W.codeIn K b x=true)(k:W.keepIn K (.ref f)=true):TopF K x au:=
 ⟨f,_,a,zbud l c k⟩
theorem zrt{P:Program}{w:World}{K:Fg}{o:Str->Option Value}{d h:Heap}{x:Str}{c:Stmt}{N j:List Str}{k:Nat}{sp:Sp}(T:TopF K x c)(X:K.In h)(G:h.Ns mainGlobals o)(S:FnScope N j (defScope c))
  (y:∀(kV m r:Value) (q:Option Addr) (b u:Value) (l:List Value),l.length=j.length->bindArgs (W.fnOf x x (defArgs c) (defBody c) (defScope c) .none kV m r q b u) ⟨l,[]⟩=pure (j.zip l))
  (n:∀i H Q E,sp i H Q E->i.length=j.length)
  (g:∀(f:Addr) (b:Value) (A:Around) (e:List Env) (s:Shared) (H:Hp) (i:List V) (Q:VK) (E:XK),Room k (A.deeper (envOfC x (defScope c) s.heap.objs.size f b))->sp i H Q E ->
   ∃t,PSs (cxOf CX0 P w K o d N x (defScope c) f b A e s H E).nox (defBody c) t/\t {nx:=λ_ p=>Q .non p,rt:=Q} (start N i) H):Callee P w K o d x (k+1) j sp:=by
 obtain⟨f,v,a,F⟩:=T;exact⟨f,v,F.ok S n (g f),F.binds y,F.kp,W.mg_of X G a⟩
theorem zgo:CallR X (.builtin "isinstance") (λd H Q=>∃ x T t b,d=[x,.ty T]/\TyOf X.K H x t/\W.kitOne X.K t (.type T)=some b/\Q (.bl b) H):=by
 intro k s σ H d j Q I r h;obtain⟨x,T,t,b,rfl,c,e,q⟩:=h;obtain⟨u,g,rfl,i,a⟩:=vals2 r;cases(show g=Value.type T from a);exact zbak I i c e λf=>⟨.bl b,H,I.tok f,rfl,q⟩
noncomputable def CDivP(i j:Int):Prop:=0<j/\j<2^1000
theorem zoo:OpR X (binaryOp .FloorDiv) (rI CDivP λi j=>.int (i/j)):=opI λi j _ _ _ _ _ a q=>by
 have e:i.fdiv j=i/j:=Int.fdiv_eq_ediv_of_nonneg i (by have:=a.1;lia);refine floordiv_int (by have:=a.1;lia) (by rw[e];exact q) (.inl (PyProof.noPylong_of_log2 ?_));have c:j.natAbs<2^1000:=by
  have h:=a.1;have f:=a.2;have b:(j.natAbs:Int)=j:=by lia
  have d:(j.natAbs:Int)<((2^1000:Nat):Int):=by
   rw[b];exact_mod_cast f
  exact_mod_cast d
 have g:j.natAbs≠0:=by have:=a.1;lia
 have:=(Nat.log2_lt g).mpr c;lia
noncomputable def compLook(a:List Str) (xs:List (Str×NameKind)) (N:List Str) (k:Nat) (is:List Nat) (scope:Scope):Bool:=
 (scope.kind==.function)&&scope.names.all (λy=>y.2 != .cell)&&scope.names.all (λy=>y.2 != .local||scope.names.lookup y.1==some .local) &&
 scope.names.all (λy=>y.2 != .free||(xs.lookup y.1==some .cell||xs.lookup y.1==some .free))&&(N.length==k+is.length) &&
 (List.range is.length).all (λj=>match is[j]?,N[k+j]? with
  |some i,some x=>a[i]?==some x&&scope.names.lookup x==some .free
  |_,_=>false)
theorem zem{X:Cx}{N:List Str}(h:compLook X.N X.env.scope.names N k is scope=true):CompScope X N k is scope:=by
 unfold compLook at h;simp only[xcy,xca] at h;obtain⟨⟨⟨⟨⟨l,c⟩,g⟩,b⟩,d⟩,m⟩:=h;refine⟨eq_of_beq l,λy a e=>?_,λy a e=>?_,λy a e=>?_,eq_of_beq d,λj i e=>?_⟩
 ·have:=c y a;rw[e] at this;simp at this
 ·have:=g y a;rw[e] at this;simp at this;exact this
 ·have:=b y a;rw[e] at this;simp at this;exact this
 ·have f:j<is.length:=(xbd.mp e).1;have:=m j (xbn.mpr f);rw[e] at this;cases e2:N[k+j]? with
  |none=>rw[e2] at this;cases this
  |some x=>
   rw[e2] at this;simp only[xcy,xhp] at this;exact⟨x,rfl,this.1,this.2⟩
theorem zxf:bootBuiltins "len"=some (.builtin "len"):=by decide +kernel
theorem zbvr:bootBuiltins "abs"=some (.builtin "abs"):=by decide +kernel
theorem zbjb:bootBuiltins "min"=some (.builtin "min"):=by decide +kernel
theorem zbvp:bootBuiltins "max"=some (.builtin "max"):=by decide +kernel
theorem zbja:bootBuiltins "sum"=some (.builtin "sum"):=by decide +kernel
theorem zcv:bootBuiltins "sorted"=some (.builtin "sorted"):=by decide +kernel
theorem zbvq:bootBuiltins "all"=some (.builtin "all"):=by decide +kernel
theorem zen:bootBuiltins "isinstance"=some (.builtin "isinstance"):=by decide +kernel
theorem zbjc:bootBuiltins "int"=some (.type "int"):=by decide +kernel
theorem zbqc:bootBuiltins "bool"=some (.type "bool"):=by decide +kernel
theorem zda:bootBuiltins "tuple"=some (.type "tuple"):=by decide +kernel
theorem zbqb:bootBuiltins "list"=some (.type "list"):=by decide +kernel
theorem zbvo:bootBuiltins "set"=some (.type "set"):=by decide +kernel
theorem zbeo(h:H p=some o):upd H p o=H:=by
 funext b
 unfold upd;split
 ·subst b;exact h.symm
 ·rfl
end L2
namespace Srt
open PySem.W PyProof.Rows
section
variable (r:Nat->Nat)
noncomputable def lt(i j:Nat):Bool:=decide (r i<r j)
noncomputable def At(p:Array Nat) (i:Nat):Nat:=r (p.getD i 0)
def Up(p:Array Nat) (n:Nat):Prop:=∀i j,i<=j->j<n->At r p i<=At r p j
end
noncomputable def midHeap(h:Heap) (d:Addr) (a:List Value):Heap:=((h.update d (Obj.mapSeq λ_=>(#[]:Array Value))).push (seqObj "tuple" a.toArray 0)).push (seqObj "list" #[] 0)
theorem zkd{h:Heap}(a:b≠d)(e:h.get? b=some ob):(midHeap h d xs).get? b=some ob:=
 xbh _ (xbh _ ((Heap.get?_update_ne _ _ _ _ a).trans e))
def Answers(P:Program) (w:World) (B:Around) (r:Nat->Nat) (b:List Value) (a:Shared):Prop:=
 ∃κ,(∀R:SortKind->Shared->Prop,R κ a->wpAny (model P w) B (keyKind' b.toArray) R (λ_ _=>False) a) /\
  ∀i j C,i<b.length->j<b.length->C (lt r i j) a->kas_ask P w B κ b i j C a
noncomputable def outOf(a:List Value) (p:Array Nat):Array Value:=List.toArray (p.toList.map λi=>a.getD i Value.none)
theorem zyv{a:List Value}(h:a.length<2):(a.toArray.zip a.toArray).map (·.2)=outOf a (List.toArray (List.range a.length)):=by
 unfold outOf
 match a,h with
 |[],_=>simp
 |[_],_=>simp[xfw]
 |_::_::_,h=>exact absurd h (by simp)
end Srt
namespace Srt
open PySem.W PyProof.Rows HT
theorem zft:∀a:List Int,lexLt a a=false
 |[]=>rfl
 |x::a=>by rw[zdh,if_pos rfl];exact zft a
theorem zho:∀{a b c:List Int},lexLt a b=true->lexLt b c=true->lexLt a c=true
 |_,[],[],_,h=>by rw[zej] at h;cases h
 |_,_::_,[],_,h=>by rw[zdr] at h;cases h
 |[],[],_::_,h,_=>by rw[zej] at h;cases h
 |_::_,[],_::_,h,_=>by rw[zdr] at h;cases h
 |[],_::_,_::_,_,_=>zcg _ _
 |x::a,y::b,z::c,h1,h2=>by
  rw[zdh] at h1 h2 ⊢;by_cases e1:x=y
  ·rw[if_pos e1] at h1;subst e1;by_cases e2:x=z
   ·rw[if_pos e2] at h2 ⊢;exact zho h1 h2
   ·rw[if_neg e2] at h2 ⊢;exact h2
  ·rw[if_neg e1] at h1;have d:=xde h1;by_cases e2:y=z
   ·subst e2;rw[if_neg e1];exact h1
   ·rw[if_neg e2] at h2;have e:=xde h2;rw[if_neg (by lia)];exact xbw (by lia)
theorem znb:∀a b:List Int,lexLt a b=true\/a=b\/lexLt b a=true
 |[],[]=>.inr (.inl rfl)
 |[],_::_=>.inl (zcg _ _)
 |_::_,[]=>.inr (.inr (zcg _ _))
 |x::a,y::b=>by
  rw[zdh,zdh];by_cases e:x=y
  ·subst e;rw[if_pos rfl,if_pos rfl];rcases znb a b with h|h|h
   ·exact .inl h
   ·exact .inr (.inl (by rw[h]))
   ·exact .inr (.inr h)
  ·rw[if_neg e,if_neg (λz=>e z.symm)];rcases Int.lt_or_gt_of_ne e with h|h
   ·exact .inl (xbw h)
   ·exact .inr (.inr (xbw h))
theorem zqw{a b:List Int}(h:lexLt a b=true):lexLt b a=false:=by
 cases e:lexLt b a with
 |false=>rfl
 |true=>have:=zho h e;rw[zft] at this;cases this
theorem zwx(a:∀x,p x=true->q x=true):∀{l:List Nat}{y:Nat},y∈l->q y=true->p y=false->l.countP p<l.countP q
 |[],_,h,_,_=>nomatch h
 |x::l,y,h,h1,h2=>by
  have b:∀l:List Nat,l.countP p<=l.countP q:=λl=>List.countP_mono_left λx _=>a x
  rcases xbl.mp h with rfl|h
  ·rw[xiv h1,xkx (by rw[h2];decide)];exact xnc (b l)
  ·have e:=zwx a h h1 h2;by_cases c:p x=true
   ·rw[xiv c,xiv (a x c)];lia
   ·rw[xkx c];by_cases d:q x=true
    ·rw[xiv d];lia
    ·rw[xkx d];exact e
def rank(a:List (List Int)) (i:Nat):Nat:=(List.range a.length).countP λk=>lexLt (a.getD k []) (a.getD i [])
theorem zmp{ks:List (List Int)}(f:i<ks.length)(g:j<ks.length):lt (rank ks) i j=lexLt (ks.getD i []) (ks.getD j []):=by
 have up:∀{a b:Nat},a<ks.length->lexLt (ks.getD a []) (ks.getD b [])=true->rank ks a<rank ks b:=λ{a b} c h=>
  zwx (λx d=>zho d h) (xbn.mpr c) h (zft _)
 cases e:lexLt (ks.getD i []) (ks.getD j []) with
 |true=>exact xbw (up f e)
 |false=>
  refine xcd λh=>?_
  rcases znb (ks.getD i []) (ks.getD j []) with z|z|z
  ·rw[e] at z;cases z
  ·unfold rank at h;rw[z] at h;exact absurd h (xhh _)
  ·have:=up g z;lia
section
variable {prog:Program}{w:World}{A:Around}{s:Shared}{b:Bool}{Q:Bool->Shared->Prop}
theorem zvx:∀{a c:List Value}{d f:List Int}(i:Nat),IntsAre a d->IntsAre c f->Q (lexLt d f) s->KatLex prog w A b (decide (a.length<c.length)) Q (a.zip c) i s
 |_,_,_,_,_,.nil,.nil,h=>h
 |_,_,_,_,_,.nil,.cons _ _ _,h=>h
 |_,_,_,_,_,.cons _ _ _,.nil,h=>h
 |_,_,_,_,i,.cons x t (vs:=a) (ns:=d) r1,.cons y u (vs:=c) (ns:=f) r2,h=>by
  rw[zdh] at h;refine kat_cons (wpAny_eqBool_int (kat_go (λe=>kat_yes ?_) λe=>kat_no ?_))
  ·rw[if_pos (eq_of_beq e)] at h;have q:=zvx (i+1) r1 r2 h;have g:decide ((Value.int x t::a).length<(Value.int y u::c).length)=decide (a.length<c.length):=by
    rw[xbt,xbt,xfn];simp
   rw[g];exact q
  ·rw[if_neg (xfv.mp e)] at h;cases hb:(b&&i==0) with
   |true=>exact oneLt_int h
   |false=>exact kat_one _ _ (PyProof.Rows.lt_int h)
end
end Srt
namespace L2
open Spec PyProof.Rows PySem.W
theorem zpx:∀{b:List Addr}{c:List Value},Vals (b.map V.ref) c->c=b.map Value.ref
 |[],_,.nil=>rfl
 |a::b,_,.cons r t=>by
  rw[show _=Value.ref a from r,zpx t]
  rfl
def TupsAt(K:Fg) (H:Hp) (a:List (Addr×List Int)):Prop:=∀p∈a,SqT K H p.1 (p.2.map V.int)
theorem zj{α β:Type}(f:α->β)(d:β){l:List α}{i:Nat}{x:α}(h:l[i]?=some x):(l.map f).getD i d=f x:=by
 rw[xbi,xcl,h]
 rfl
end L2
namespace L2
open Spec PyProof.Rows
mutual
inductive DAt (K:Fg) (H:Hp):V->PyData->Prop
 |non:DAt K H .non .none
 |bl (b:Bool):DAt K H (.bl b) (.bool b)
 |int (i:Int):DAt K H (.int i) (.int i)
 |str (x:Str):DAt K H (.str x) (.str x)
 |lst {a:Addr}{xs:List V}{ds:List PyData}:SqL K H a xs->DAll K H xs ds->DAt K H (.ref a) (.list ds)
 |tup {a:Addr}{xs:List V}{ds:List PyData}:SqT K H a xs->DAll K H xs ds->DAt K H (.ref a) (.tuple ds)
inductive DAll (K:Fg) (H:Hp):List V->List PyData->Prop
 |nil:DAll K H [] []
 |cons {x:V}{xs:List V}{d:PyData}{ds:List PyData}:DAt K H x d->DAll K H xs ds->DAll K H (x::xs) (d::ds)
end
section
variable {X:Cx}{aU:List (Addr×Obj)}{σ:St}{H:Hp}{s:Shared}
mutual
theorem zfm(I:Inv X aU σ H s):∀{v:V}{d:PyData}{u:Value},DAt X.K H v d->RelV v u->∃a,Reads s.heap u d a
 |_,_,_,.non,r=>by cases r;exact⟨_,.none⟩
 |_,_,_,.bl b,r=>by cases r;exact⟨_,.bool b⟩
 |_,_,_,.int i,r=>by obtain⟨t,rfl⟩:=r;exact⟨_,.int i t⟩
 |_,_,_,.str x,r=>by obtain⟨t,rfl⟩:=r;exact⟨_,.str x t⟩
 |_,_,_,.lst h all,r=>by
  cases r;obtain⟨j,f,⟨o,n,e,c,_,g⟩,_⟩:=I.list h;obtain⟨a,q⟩:=zgf I all f;exact⟨_,.list e c g q⟩
 |_,_,_,.tup h all,r=>by
  cases r;obtain⟨j,f,⟨o,e,c,n,g⟩,_⟩:=I.tuple h;obtain⟨a,q⟩:=zgf I all f;exact⟨_,.tuple e c g q⟩
theorem zgf(I:Inv X aU σ H s):∀{d:List V}{c:List PyData}{b:List Value},DAll X.K H d c->Vals d b->∃a,ReadsAll s.heap b c a
 |_,_,_,.nil,.nil=>⟨_,.nil⟩
 |_,_,_,.cons h t,.cons r rs=>by
  obtain⟨a,q⟩:=zfm I h r;obtain⟨f,e⟩:=zgf I t rs;exact⟨_,.cons q e⟩
end
end
def rEqX(K:Fg) (c:Bool):R2:=λx y H Q=>∃b a,DAt K H x b/\DAt K H y a/\PySem.SeqAt.shaped b=true/\PySem.SeqAt.shaped a=true/\Q (.bl (if c then !PyData.eqv b a else PyData.eqv b a)) H
section
variable {X:Cx}
theorem zop(c:X.A.units+64<cLine):OpR X (compareOp .Eq) (rEqX X.K false):=by
 intro n s σ H x y v u Q I a i h;obtain⟨k,j,b,g,d,l,q⟩:=h;obtain⟨m,f⟩:=zfm I b a;obtain⟨o,e⟩:=zfm I g i;exact eq_dataH f e d l c ⟨.bl (PyData.eqv k j),H,I,rfl,q⟩
theorem zbsy(c:X.A.units+64<cLine):OpR X (compareOp .NotEq) (rEqX X.K true):=by
 intro n s σ H x y v u Q I a i h;obtain⟨k,j,b,g,d,l,q⟩:=h;obtain⟨m,f⟩:=zfm I b a;obtain⟨o,e⟩:=zfm I g i;exact ne_dataH f e d l c ⟨.bl (!PyData.eqv k j),H,I,rfl,q⟩
end
noncomputable def dI(a:List Int):List PyData:=a.map PyData.int
def dRow(a:List Int):PyData:=.tuple (dI a)
theorem zbpq:∀a b:List Int,PyData.eqvAll (dI a) (dI b)=decide (a=b)
 |[],[]=>by rfl
 |[],_::_=>by rfl
 |_::_,[]=>by rfl
 |x::a,y::b=>by
  show(x==y&&PyData.eqvAll (dI a) (dI b))=_;rw[zbpq a b,xfn];simp
theorem zjd(a b:List Int):PyData.eqv (dRow a) (dRow b)=decide (a=b):=zbpq a b
theorem zrr:∀a b:List (List Int),PyData.eqvAll (a.map dRow) (b.map dRow)=decide (a=b)
 |[],[]=>by rfl
 |[],_::_=>by rfl
 |_::_,[]=>by rfl
 |x::a,y::b=>by
  show(PyData.eqv (dRow x) (dRow y)&&PyData.eqvAll (a.map dRow) (b.map dRow))=_;rw[zrr a b,zjd,xfn];simp
theorem zbis:∀a:List Int,PyData.canLayAll0 (dI a)=true/\PyData.depthAll (dI a)=0
 |[]=>⟨rfl,rfl⟩
 |x::a=>by
  obtain⟨b,c⟩:=zbis a;refine⟨?_,?_⟩
  ·show(true&&PyData.canLayAll0 (dI a))=true;rw[b];rfl
  ·show max 0 (PyData.depthAll (dI a))=0;rw[c];rfl
theorem zkl(a:List Int):PySem.SeqAt.shaped (dRow a)=true:=by
 obtain⟨b,c⟩:=zbis a;show(PyData.canLayAll0 (dI a)&&decide (PyData.depthAll (dI a)+1<=64))=true;rw[b,c];rfl
theorem zrq:∀a:List (List Int),PyData.canLayAll0 (a.map dRow)=true/\PyData.depthAll (a.map dRow)<=1
 |[]=>⟨rfl,xes _⟩
 |x::a=>by
  obtain⟨d,e⟩:=zrq a;obtain⟨c,b⟩:=zbis x;refine⟨?_,?_⟩
  ·show(PyData.canLayAll0 (dI x)&&PyData.canLayAll0 (a.map dRow))=true;rw[d,c];rfl
  ·show max (PyData.depthAll (dI x)+1) (PyData.depthAll (a.map dRow))<=1;rw[b];lia
theorem zdu(a:List (List Int)):PySem.SeqAt.shaped (.tuple (a.map dRow))=true:=by
 obtain⟨b,c⟩:=zrq a;show(PyData.canLayAll0 (a.map dRow)&&decide (PyData.depthAll (a.map dRow)+1<=64))=true;rw[b,xbw (by lia)];rfl
theorem zmi:∀{a:List Bool}{c:List Value},Vals (a.map V.bl) c->c=a.map Value.bool
 |[],_,.nil=>rfl
 |b::a,_,.cons r t=>by
  rw[show _=Value.bool b from r,zmi t]
  rfl
theorem zzc(c:List Bool):((List.range c.length).all λi=>c.getD i false)=c.all id:=by
 rw[xfn];simp only[xca,xbn];constructor
 ·intro h b d;obtain⟨i,a,rfl⟩:=xev d;have:=h i a;rw[xbi,xbe a] at this;exact this
 ·intro h i a;rw[xbi,xbe a];exact h _ (xdq a)
def rAny(K:Fg) (b:Bool):List V->Hp->VK->Prop:=λc H Q=>∃(l:Addr) (a:List Bool),c=[.ref l]/\SqL K H l (a.map V.bl)/\Q (.bl (if b then a.all id else a.any id)) H
theorem zsf(c:List Bool):TruthOf prog w A (λi v=>(c.map Value.bool).toArray[i]?=some v) (λi=>c.getD i false):=λi v s Q E f d=>by
 have a:(c.map Value.bool)[i]?=some v:=by simpa using f
 rw[xcl] at a;cases e:c[i]? with
 |none=>rw[e] at a;cases a
 |some b=>
  rw[e] at a;cases a;dsimp only at d;rw[xbi,e] at d;exact xfu d
section
variable {X:Cx}
theorem zbjh(u:X.calm=true){k:List (Addr×Obj)}{σ:St}{H:Hp}{s:Shared}{l:Addr}{a:List Bool}{R:Bool->Prop}(I:Inv X k σ H s)(r:SqL X.K H l (a.map V.bl)){Q:Value->Shared->Prop}{F:(Nat->Bool)->Nat->Bool}
  (G:∀p,Inv X k σ H p->Q (.bool (F (λi=>a.getD i false) a.length)) p):
  wpAny (model X.prog X.w) X.A.in1 (pyIter (.ref l)) (λC d=>∃I w m n P St j,C=.ref I/\Walks X.prog X.w X.A.in1 I w m n P St/\St 0 d.heap/\TruthOf X.prog X.w X.A.in1 P j /\
   ∀h c,(∀b o,b∉m->d.heap.get? b=some o->h.get? b=some o)->Q (.bool (F j n)) {d with heap:=h,toks:=c}) X.xe s:=by
 obtain⟨v,y,f,J⟩:=I.list r;have e:=zmi y;subst e;have g:l<s.heap.objs.size:=by obtain⟨o,n,e,_⟩:=f;exact xbz e
 refine xlf f.isList ?_;refine⟨s.heap.objs.size,_,[s.heap.objs.size],_,_,_,_,rfl,Walks.list (A:=X.A.in1) (I.ok.hd u) _ l (xch g) (a.map Value.bool).toArray,⟨⟨_,xcb _ rfl,rfl,rfl⟩,f.isList.push _⟩,zsf a,λh c E=>?_⟩;have x:(a.map Value.bool).toArray.size=a.length:=by simp
 rw[x];refine G _ ?_;refine I.kept (t':=c) λb o e=>E b o ?_ (xbh _ e)
 intro z;have t:b=s.heap.objs.size:=by simpa using z
 have q:=xbz e;rw[t] at q;exact absurd q (xhh _)
theorem zbiy(f:X.calm=true):CallR X (.builtin "all") (rAny X.K true):=by
 intro j s σ H m g Q I r h;obtain⟨l,a,rfl,d,q⟩:=h;obtain⟨u,rfl,e⟩:=vals1 r;cases e;refine call_all_walk (zbjh (R:=λ_=>True) f I d (F:=λb n=>(List.range n).all b) λk c=>⟨.bl ((List.range a.length).all λi=>a.getD i false),H,c,rfl,?_⟩);rw[zzc];exact q
end
end L2
namespace Dct
open PySem.W PyProof.Rows
noncomputable def Raw(h:Heap) (d:Addr) (c:Array DictEntry) (b:Nat):Prop:=∃a,h.get? d=some a/\a.ExactDict/\a.data=.dict c b
theorem Raw.kept{h':Heap}(x:Raw h d es ep)(k:∀a,h.get? d=some a->h'.get? d=some a):Raw h' d es ep:=
 let ⟨a,e,r⟩:=x;⟨a,k a e,r⟩
theorem Raw.lt(x:Raw h d es ep):d<h.objs.size:=let ⟨_,e,_⟩:=x;xbz e
theorem Raw.is{a:Shared}(x:Raw a.heap d es ep):a.TypeIs (.ref d) "dict":=let ⟨ob,e,c,_⟩:=x; ⟨ob,e,c.1⟩
noncomputable def iterObj(d:Addr) (n a:Nat):Obj:={ cls:=.type "dict_keyiterator",data:=.fields #[.ref d,.int 0 0,.int n 0,.int a 0] }
theorem zus{au:Shared}{W:Value->Shared->Prop}(g:(d==sysModules)=false)(x:Raw au.heap d es ep)(b:W (.ref au.heap.objs.size) {au with heap:=au.heap.push (iterObj d es.size ep)}):wpAny (model P w) B (pyIter (.ref d)) W E au:=by
 obtain⟨h,e,c,f⟩:=id x;have a:=x.is;refine xnj a F.slot_dict_iter (xep F.slot_dict_iter a F.entry_dict_iter ?body (F.args_dict_iter_1 _))
 case body=>
  unfold Builtin.«dict.__iter__» Builtin.Dict.dictSlotNone Builtin.Dict.showsAll;refine xba (xba (wpAny_notOrdered_dict a (xbg ?_)));show wpAny _ _ ((if(d==sysModules)=true then _ else _) >>= _) _ _ au;rw[if_neg (λz=>xga (g.symm.trans z))];refine xba (xbg (xba (xjm e f (xba (wpAny_dictEpoch e f (xba (xez (xbg ⟨_,rfl, "dict_keyiterator",_,⟨_,xcb _ rfl,rfl⟩,xgh.lookup,?_⟩))))))))
  exact b
theorem zur{au:Shared}{b:Array DictEntry}{W:Option Value->Shared->Prop}(a:au.heap.IsKeyIter it d k b.size ep)(x:Raw au.heap d b ep)(l:b[k]?=some en)
  (j:∀g:Heap,g.IsKeyIter it d (k+1) b.size ep->Heap.SameBut it au.heap g->W (some en.key) {au with heap:=g}):wpAny (model P w) B (pyNext (.ref it)) W E au:=by
 obtain⟨p,i,o,h⟩:=id a;obtain⟨q,e,c,m⟩:=id x;have lt:k<b.size:=(xmx.mp l).1;unfold pyNext;refine xba (xkd (wpAny_callSpecial?_slot (name:=Str.ofString "__next__") a.typeIs xgh (xep xgh a.typeIs F.entry_dict_keyiterator_next ?body (F.args_dict_keyiterator_next_1 _))))
 case body=>
  refine xba (xbg (xba (xba (xba (xhi a.typeIs (xbg (xba (xmq i h ?_))))))));simp only[show Builtin.Dict_items.ownsTuple "dict_keyiterator"=false from by decide,xds,ite_false]
  show wpAny _ _ (if(Value.ref d==Value.none)=true then _ else _) _ _ au;have n:¬ (Value.ref d==Value.none)=true:=xga;rw[if_neg n];refine xba (xbg (xba (xjm e m ?_)));rw[if_neg (by simp)];refine xba (xbg (xba (wpAny_dictEpoch e m ?_)));rw[if_neg (by simp)];refine xbg ?_;simp only[show ¬ ((k:Int)<0) from by lia,ite_false,xdx,l];refine xba (xba (xhi a.typeIs (xbg (xba (wpAny_isOneOf_keyiter a.typeIs ?_)))));show wpAny _ _ (setField (.ref it) 1 (rawInt ((k:Int)+1)) >>= _) _ _ au;refine xba (xil i h (by simp) ?_);have f:(au.heap.update it (Obj.mapFields (·.setIfInBounds 1 (rawInt ((k:Int)+1))))).IsKeyIter it d (k+1) b.size ep:=
   ⟨_,xfi _ i (xia (xgw h _)),(xld ..).trans o,by rw[xgw h];simp[rawInt]⟩
  refine xba (xet (xba (wpAny_isOneOf_keyiter (s:={au with heap:=au.heap.update it (Obj.mapFields (·.setIfInBounds 1 (rawInt ((k:Int)+1))))}) f.typeIs ?_)));show wpAny _ _ (pure en.key) _ _ _;exact xbg (xbg ⟨_,rfl,xbg (j _ f (xew ..))⟩)
theorem zbch{B:Around}{au:Shared}{h:Array DictEntry}{W:Option Value->Shared->Prop}(p:B.handled=none)(f:au.heap.IsKeyIter it d k h.size ep)(x:Raw au.heap d h ep)(q:h.size<=k)
  (i:∀g:Heap,Heap.ExtBut it au.heap g->W none {au with heap:=g}):wpAny (model P w) B (pyNext (.ref it)) W E au:=by
 obtain⟨r,j,t,l⟩:=id f;obtain⟨s,e,c,n⟩:=id x;unfold pyNext;refine xba (xkd (wpAny_callSpecial?_slot (name:=Str.ofString "__next__") f.typeIs xgh (xep xgh f.typeIs F.entry_dict_keyiterator_next ?body (F.args_dict_keyiterator_next_1 _))))
 case body=>
  refine xba (xbg (xba (xba (xba (xhi f.typeIs (xbg (xba (xmq j l ?_))))))));simp only[show Builtin.Dict_items.ownsTuple "dict_keyiterator"=false from by decide,xds,ite_false]
  show wpAny _ _ (if(Value.ref d==Value.none)=true then _ else _) _ _ au;have o:¬ (Value.ref d==Value.none)=true:=xga;rw[if_neg o];refine xba (xbg (xba (xjm e n ?_)));rw[if_neg (by simp)];refine xba (xbg (xba (wpAny_dictEpoch e n ?_)));rw[if_neg (by simp)];refine xbg ?_;simp only[show ¬ ((k:Int)<0) from by lia,ite_false,xdx,xho q];refine xba (xba (xhi f.typeIs (xbg ?_)));show wpAny _ _ (setField (.ref it) 0 .none >>= _) _ _ au;refine xba (xil j l (by simp) ?_);show wpAny _ _ (newExc (.type "StopIteration") [] >>= _) _ _ _
  refine xba ?_;simp only[newExc,newTuple];refine xba (xez (xba (m:=firstArgMember _ _) (wpAny_of_eq (a:=Value.none) (by first|rfl|(simp only[firstArgMember];rfl)) (xez ?_ (by size_fits)))) (by size_fits));simp only[raiseNew];refine xba (wpAny_handled ?_);rw[show B.in1.handled=none from p];refine xba (xbg (wpAny_throw ?_));refine xba (xlr (T:="StopIteration") (b:=true) ?_ isSubtype_stop (xbg (i _ (((xew ..).extBut.push _).push _))))
  exact⟨_,xcb _ rfl,rfl⟩
theorem zza{B:Around}(s:B.handled=none)(A:d≠it)(f:Array DictEntry)(r:Nat):
  Walks P w B it [it,d] [it] f.size (λi v=>∃m,f[i]?=some m/\v=m.key) (λi h=>h.IsKeyIter it d i f.size r/\Raw h d f r) where
 sub:=λb x=>xbl.mpr (.inl (xcj.mp x))
 frame:=λ_ _ _ z n=>⟨z.1.at λo e=>n it xbv o e,z.2.kept λo e=>n d (xbf _ (xcj.mpr rfl)) o e⟩
 item:=λi k y u t z j=>by
  have p:f[i]?=some f[i]:=xdp t;exact zur z.1 z.2 p λg a b=>j f[i].key g k.toks ⟨_,p,rfl⟩ ⟨a,z.2.kept λo e=>b.extBut d o A e⟩ λc o l e=>b.extBut c o (λq=>l (xcj.mpr q)) e
 done:=λk y u z j=>zbch s z.1 z.2 (xbj _) λg b=>j g k.toks λc o l e=>b c o (λq=>l (xcj.mpr q)) e
 self:=λ_ _ _ _ z j=>wpAny_pyIter_keyiter z.1 j
theorem zblg(k:(d==sysModules)=false)(a:Array DictEntry)(f:Nat):KdlSrc P w "dict" d d a.size (λi v=>∃ c,a[i]?=some c/\v=c.key) (λh=>Raw h d a f) where
 type:=λ_ x=>x.is
 there:=λ_ x=>⟨x.lt,x.lt⟩
 keep:=λ_ _ x j=>x.kept λo e=>j d (.inl rfl) o e
 notList:=by decide
 notTuple:=by decide
 hint:=λ_ _ _ _ x b=>kdl_hint_dict x.is b
 iter:=λ_ l g x=>⟨_,_,λ_ _ b=>zus k x b,zza g (xch x.lt) a f,⟨⟨_,xcb _ rfl,rfl,rfl⟩,x.kept λo e=>xbh _ e⟩⟩
end Dct
namespace Srt
open PySem.W PyProof.Rows
end Srt
namespace L2
open Spec PyProof.Rows
theorem ObjOk.ob(x:ObjOk P w H h a o):∃ob,h.get? a=some ob:=by
 cases o with
 |lst xs=>obtain⟨_,_,_,_,e⟩:=x;exact⟨_,e⟩
 |tup xs=>obtain⟨_,_,_,ob,e,_⟩:=x;exact⟨_,e⟩
 |dK kvs=>obtain⟨_,_,_,_,ob,_,_,e,_⟩:=x;exact⟨_,e⟩
 |dT kvs=>obtain⟨_,_,_,_,ob,_,_,e,_⟩:=x;exact⟨_,e⟩
 |set S n=>obtain⟨ob,_,_,_,e,_⟩:=x;exact⟨_,e⟩
 |ins C dx fs=>obtain⟨_,_,_,e,_⟩:=x;exact⟨_,e⟩
 |own y=>obtain⟨_,e⟩:=x;exact⟨_,e⟩
 |xd fs=>obtain⟨_,⟨_,_,_,e,_⟩,_⟩:=x;exact⟨_,e⟩
 |rng lo hi=>obtain⟨_,_,_,e⟩:=x;exact⟨_,e⟩
 |frz ob u=>obtain⟨e,_⟩:=x;exact⟨_,e⟩
 |tbl ps=>exact⟨_,(show h.get? a=some _ from x)⟩
 |met f y=>exact⟨_,(show h.get? a=some _ from x)⟩
 |ext φ=>obtain⟨_,⟨_,e⟩,_⟩:=x;exact⟨_,e⟩
theorem Inv.away(I:Inv X aU σ H s) (c:∀b a,s.heap.get? b=some a->b≠q):H q=none:=by
 cases e:H q with
 |none=>rfl
 |some o=>
  obtain⟨a,z⟩:=(I.hok q o e).ob;exact absurd rfl (c q a z)
theorem Inv.laidN{g:Heap}(I:Inv X aU σ H s)(k:∀b u,s.heap.get? b=some u->g.get? b=some u)(h:∀b f,s.heap.get? b=some f->b≠q)(d:ObjOk X.prog X.w (upd H q o) g q o):
  Inv X aU σ (upd H q o) {s with heap:=g,toks:=t'}:=by
 have i:=I.away h;have a:∀{b:Addr}{u:HO},H b=some u->upd H q o b=some u:=λ{b u} e=>by rw[zo (zk e i)];exact e
 refine I.un ⟨λb u e _ _ _=>k b u e,λb u e _ _ _=>⟨u.slots,k b u e⟩,λb u e n _=>by rw[zo (h b u e)];exact n,λb u e _=>⟨u,k b u e⟩,λb j e=>a e,λb f u e=>a e,λb l e=>⟨#[],by rw[a e];simp⟩⟩ λb u e=>?_
 by_cases hb:b=q
 ·subst hb;rw[zp] at e;cases e;exact d
 ·rw[zo hb] at e;exact(I.hok b u e).stay (λc v _ z=>k c v z) (λc z=>a z) λc j z=>a z
theorem zbdd(a:List Int):(a.map (Sum.inl:Int->Key)).map kV=a.map V.int:=by rw[xcw];rfl
theorem znl{P:Program}{w:World}{H:Hp}{a:List (List Key×V)}:∀{c:List (List Int)}{f:List (List Key×Addr×Value)},
  Paired (λ(p:List Key×V) (q:List Key×Addr×Value)=>p.1=q.1/\H q.2.1=some (.tup (p.1.map kV))/\RelV p.2 q.2.2) a f->a.map (·.1)=c.map (λh=>h.map Sum.inl) ->
   ∃d:List (Addr×List Int),d.map (·.2)=c/\(∀p∈d,H p.1=some (.tup (p.2.map V.int)))/\f.map (λq=>(entryOfKey (tupleKind (mixKind P w)) q).key)=d.map λp=>Value.ref p.1:=by
 induction a with
 |nil=>
  intro c f r e;cases r;cases c with
  |nil=>exact⟨[],rfl,λp g=>(nomatch g),rfl⟩
  |cons x c=>cases e
 |cons kv a ih=>
  intro c f r e;cases r with
  |cons r rs=>
   cases c with
   |nil=>cases e
   |cons h c=>
    rw[xbr,xbr] at e;injection e with l j
    obtain⟨d,k,n,m⟩:=ih rs j;rename_i b _;obtain⟨o,i,s⟩:=r;refine⟨(b.2.1,h)::d,by rw[xbr,k],λp g=>?_,by rw[xbr,xbr,m];rfl⟩;rcases xbl.mp g with z|z
    ·subst z;rw[l,zbdd] at i;exact i
    ·exact n p z
open PySem.W in
theorem zbji{sg:Shared}{a:List (Addr×List Int)}(h2:2<=a.length)
  (b:∀(i:Nat) (p:Addr×List Int),a[i]?=some p->∃(g:List Value) (o:Obj) (n:Nat),IntsAre g p.2/\sg.heap.get? p.1=some o/\o.cls=.type "tuple"/\o.data=.seq g.toArray n/\p.2≠[]):
  Srt.Answers P w B (Srt.rank (a.map (·.2))) (a.map λp=>Value.ref p.1) sg:=by
 refine⟨tuples' true,λR hq=>?_,λi j C d s I=>?_⟩
 ·have Y:∀(l:List (Addr×List Int)),(∀p∈l,∃i:Nat,a[i]?=some p)->∃c:List Value,KatTups sg.heap (l.map λp=>Value.ref p.1) c/\c.length=l.length/\∀v∈c,∃i t,v=Value.int i t:=λl=>by
   induction l with
   |nil=>intro _;exact⟨[],KatTups.nil,rfl,λv e=>(nomatch e)⟩
   |cons p l ih=>
    intro m;obtain⟨c,y,J,G⟩:=ih λp' H=>m p' (xbf _ H)
    obtain⟨i,d⟩:=m p xbv;obtain⟨g,o,n,h,k,u,f,A⟩:=b i p d;obtain⟨pa,pn⟩:=p;dsimp only at h k u f A;cases h with
    |nil=>exact absurd rfl A
    |cons x t r=>exact⟨Value.int x t::c,KatTups.cons k u f rfl y,by rw[xbt,xbt,J],λv e=>(xbl.mp e).elim (λz=>⟨x,t,z⟩) (G v)⟩
  obtain⟨c,y,J,G⟩:=Y a λp m=>List.mem_iff_getElem?.mp m
  exact kat_kind (T:=.type "int") y (by lia) (λv e=>by
   obtain⟨i,t,rfl⟩:=G v e
   exact Looks.of_pure rfl) rfl hq
 ·rw[xbb] at d s;have E:a[i]?=some a[i]:=xbe d;have q:a[j]?=some a[j]:=xbe s;obtain⟨g,o,n,h,k,u,f,A⟩:=b i _ E;obtain⟨U,o2,n2,Q,S,c3,X,c5⟩:=b j _ q;unfold kas_ask;rw[zj (λp:Addr×List Int=>Value.ref p.1) _ E,zj (λp:Addr×List Int=>Value.ref p.1) _ q];refine kat_lt k f S X (Srt.zvx 0 h Q ?_);rw[Srt.zmp (by rw[xbb];exact d) (by rw[xbb];exact s),zj (λp:Addr×List Int=>p.2) _ E,zj (λp:Addr×List Int=>p.2) _ q] at I;exact I
theorem zve{ps:List (Addr×List Int)}{p:Array Nat}(n:p.Perm (List.toArray (List.range ps.length)))(Q:Srt.Up (Srt.rank (ps.map (·.2))) p ps.length):
  ∃e:List (Addr×List Int),e.Perm ps/\(e.map (·.2)).Pairwise (λx y=>HT.lexLt y x=false)/\Srt.outOf (ps.map λp=>Value.ref p.1) p=(e.map λp=>Value.ref p.1).toArray:=by
 have I:p.size=ps.length:=by rw[n.size_eq];simp
 have m:∀i∈p.toList,i<ps.length:=λi b=>by
  have G:=(n.mem_iff (a:=i)).mp (by rw[←xly];exact b);exact xbn.mp (List.mem_toArray.mp G)
 refine⟨p.toList.map λi=>ps.getD i (0,[]),?_,?_,?_⟩
 ·have E:p.toList.Perm (List.range ps.length):=by
   have:=xfr.mp n
   simpa using this
  have t:=E.map λi=>ps.getD i (0,[])
  have P:((List.range ps.length).map λi=>ps.getD i (0,[]))=ps:=by
   apply xlm
   ·simp
   ·intro i S C;simp[xbi,C]
  rw[P] at t;exact t
 ·rw[xcw,xfx];intro i j b c o;rw[xln,xln];rw[xbb] at b c;have H:i<p.size:=by simpa using b
  have J:j<p.size:=by simpa using c
  have A:=Q i j (xcg o) (by lia);have g:∀k,(d:k<p.toList.length)->p.getD k 0=p.toList[k]:=λk d=>by
   have f:k<p.size:=by simpa using d
   rw[xdd,xdp f];simp
  have u:=m _ (xdq b);have r:=m _ (xdq c);have l:=Srt.zmp (ks:=ps.map (·.2)) (i:=p.toList[j]) (j:=p.toList[i]) (by rw[xbb];exact r) (by rw[xbb];exact u);have q:Srt.lt (Srt.rank (ps.map (·.2))) p.toList[j] p.toList[i]=false:=by
   refine xcd λz=>?_
   unfold Srt.At at A;rw[g i b,g j c] at A;lia
  rw[q] at l;have v:∀k,k<ps.length->(ps.map (·.2)).getD k []=(ps.getD k (0,[])).2:=λk d=>by
   have s:ps[k]?=some ps[k]:=xbe d;rw[zj (λp:Addr×List Int=>p.2) _ s,xbi,s]
   rfl
  rw[v _ r,v _ u] at l;exact l.symm
 ·unfold Srt.outOf;rw[xcw]
  congr 1
  refine xeo λi b=>?_
  have h:=m i b;have w:ps[i]?=some ps[i]:=xbe h;rw[zj (λp:Addr×List Int=>Value.ref p.1) _ w];show _=Value.ref (ps.getD i (0,[])).1;rw[xbi,w]
  rfl
theorem Inv.freeze(I:Inv X aU σ H s)(h:H a=some (.dT kvs))(e:s.heap.get? a=some ob):Inv X aU σ (upd H a (.frz ob (.dT kvs))) s:=by
 have d:∀{b:Addr}{u:HO},H b=some u->(∀l,u≠.dT l)->upd H a (.frz ob (.dT kvs)) b=some u:=λ{b u} q n=>by
  rw[zo (by rintro rfl;rw[h] at q;cases q;exact n _ rfl)];exact q
 have z:=I.un (h':=s.heap) (t':=s.toks) (H':=upd H a (.frz ob (.dT kvs))) ⟨λb u q _ _ _=>q,λb u q _ _ _=>⟨u.slots,q⟩,λb u q n _=>by
   rw[zo (by rintro rfl;rw[h] at n;cases n)];exact n,λb u q _=>⟨u,q⟩,λb f q=>d q (λl z=>by cases z),λb o u q=>d q (λl z=>by cases z),λb g q=>⟨#[],by rw[d q (λl z=>by cases z)];simp⟩⟩ (λb u q=>by
   by_cases hb:b=a
   ·subst hb;rw[zp] at q;cases q;exact⟨e,(I.hok b _ h).stay (λc v _ r=>r) (λc r=>d r (λl z=>by cases z)) λc f r=>d r (λl z=>by cases z)⟩
   ·rw[zo hb] at q
    exact(I.hok b u q).stay (λc v _ r=>r) (λc r=>d r (λl z=>by cases z)) λc f r=>d r (λl z=>by cases z))
 exact z
def Itd(a:Addr) (d:Obj) (b:List (List Key×V)) (c:List (Addr×List Int)):It:=
 ⟨λi H=>i<c.length/\H a=some (.frz d (.dT b)),λi H x e=>e=H/\∃p,c[i]?=some p/\x=.ref p.1,λi H=>c.length<=i/\H a=some (.frz d (.dT b))⟩
theorem zyp{P:Program}{w:World}{K:Fg}{tg:Expr}{a it:Addr}{t:Obj}{r:List (List Key×V)}{f:List (Addr×List Int)}{m:Array DictEntry}{ep:Nat}(ex:t.ExactDict)(dt:t.data=.dict m ep)
  (hk:m.toList.map (·.key)=f.map λp=>Value.ref p.1):Turn P w K tg (Itd a t r f) [it] it (λi h=>h.IsKeyIter it a i m.size ep) where
 mem:=xcj.mpr rfl
 obj:=λi h j b n=>by
  have e:b=it:=xcj.mp n;subst e;obtain⟨o,e,c,d⟩:=j;exact⟨o,e,λv z=>by rw[d] at z;cases z⟩
 keep:=λi h h' j k=>j.at λo e=>k it (xcj.mpr rfl) o e
 item:=by
  intro Y hP S hK hc i aU s σ H E I C j G;subst hP S hK;obtain⟨hi,Q⟩:=G;have a0:m.size=f.length:=by
   have:=congrArg List.length hk
   rwa [xbb,xbb,xci] at this
  obtain⟨J,_⟩:=(show ObjOk Y.prog Y.w H s.heap a (.frz t (.dT r)) from I.hok a _ Q)
  obtain⟨U,f1,f2,f3,f4,X⟩:=C it (xcj.mpr rfl);have y:m[i]?=some m[i]:=xdp (by lia);have A:f[i]?=some f[i]:=xbe hi;have u:m[i].key=Value.ref f[i].1:=by
   have q:=congrArg (λl=>l[i]?) hk;simp only[xcl,xco,y,A] at q;exact xcz q
  refine Dct.zur j ⟨t,J,ex,dt⟩ y λg x sb=>?_
  have I1:Inv Y aU σ H {s with heap:=g}:=I.turned (t':=s.toks) (λb o n e=>sb.extBut b o n e) U f1 f3 f4 X;obtain⟨o,e,c,d⟩:=id x;exact⟨_,rfl,zbra (s:={s with heap:=g}) e c d (by decide) ⟨.ref f[i].1,H,I1,u,⟨rfl,f[i],A,rfl⟩,x,λb n=>(C b n).1⟩⟩
 done:=by
  intro Y hP S hK hc i aU s σ H E I C j G;subst hP S hK;obtain⟨hi,Q⟩:=G;have a0:m.size=f.length:=by
   have:=congrArg List.length hk
   rwa [xbb,xbb,xci] at this
  obtain⟨J,_⟩:=(show ObjOk Y.prog Y.w H s.heap a (.frz t (.dT r)) from I.hok a _ Q)
  obtain⟨U,f1,f2,f3,f4,X⟩:=C it (xcj.mpr rfl);exact Dct.zbch (I.ok.hd hc) j ⟨t,J,ex,dt⟩ (by lia) λg eb=>⟨rfl,I.turned (t':=s.toks) (λb o n e=>eb b o n e) U f1 f3 f4 X⟩
 self:=λ_ _ _ _ _ j h=>wpAny_pyIter_keyiter j h
def iDct(g:TE):TI:=λσ H R=>g σ H λx H1=>∃(a:Addr) (b:List (List Key×V)) (e:List (List Int)),x=.ref a/\H1 a=some (.dT b)/\b.map (·.1)=e.map (λf=>f.map Sum.inl) /\
 ∀(d:Obj) (c:List (Addr×List Int)),c.map (·.2)=e->(∀p∈c,H1 p.1=some (.tup (p.2.map V.int)))->R (Itd a d b c) (upd H1 a (.frz d (.dT b)))
theorem zbmb{X:Cx}{Q l:Expr}{A:TE}(C:PE X l A):PI X Q l (iDct A):=by
 intro E s σ H R I h;refine thn (C E s σ H _ I h) λv c d=>?_
 obtain⟨x,H1,y,r1,q1⟩:=d;obtain⟨a,f,ks,rfl,u,Y,q⟩:=q1;cases r1;obtain⟨z,U,ys,g,m,G,ep,k,t,r,e4,e5⟩:=(show ObjOk X.prog X.w H1 c.heap a (.dT f) from y.hok a _ u)
 obtain⟨n,a1,a2,S⟩:=znl (P:=X.prog) (w:=X.w) g Y;have i:G.toList.map (·.key)=n.map λp=>Value.ref p.1:=by rw[e4,xcw];exact S
 refine Dct.zus U ⟨m,k,t,r⟩ ?_;have j:=y.freeze u k;refine⟨c.heap.objs.size,[c.heap.objs.size],_,_,_,rfl,j.kept (t':=c.toks) λb o e=>xbh _ e,zyp t r i,⟨_,xcb _ rfl,rfl,rfl⟩,λb J=>?_,q m n a1 a2⟩;have e:b=c.heap.objs.size:=xcj.mp J;subst e;exact j.fpOk (xbj _) (j.hok.fresh (xbj _))
end L2
namespace L2
open Spec PyProof.Rows PySem.W
noncomputable def TupsG(g:Heap) (b:List (Addr×List Int)):Prop:=∀ p∈b,∃(a:List Value) (o:Obj) (n:Nat),IntsAre a p.2/\g.get? p.1=some o/\o.cls=.type "tuple"/\o.data=.seq a.toArray n
theorem zre{a:Shared}:∀{ps:List (Addr×List Int)},TupsG a.heap ps->∃b:List (Option Value),b.map Option.isSome=ps.map (λp=>!p.2.isEmpty)/\∀(W:List (Option Value)->Shared->Prop),W b a->wpAny (model P w) B ((ps.map λp=>Value.ref p.1).mapM firstOfTuple') W E a
 |[],_=>⟨[],rfl,λW h=>by rw[xnm,List.mapM_nil];exact xbg h⟩
 |p::ps,h=>by
  obtain⟨b,j,l⟩:=zre (ps:=ps) λq f=>h q (xbf _ f)
  obtain⟨e,o,n,c,d,i,m⟩:=h p xbv;refine⟨e.toArray[0]?::b,?_,λW k=>?_⟩
  ·rw[xbr,xbr,j]
   congr 1
   obtain⟨u,s⟩:=p;dsimp only at c ⊢;cases c with
   |nil=>rfl
   |cons x t r=>rfl
  ·rw[xbr,List.mapM_cons];have g:Looks (model P w) a.heap (typeOf (.ref p.1)) o.cls:=(Looks.ld d).andThen .now;refine xba ?_;rw[kas_first_eq];refine xba (Looks.here g ?_);rw[i,if_neg (by first|decide|simp)];exact xba (listItems_at d m (xbg (xba (l _ (xbg k)))))
theorem zvu(x y:Value):keyLt' general' x y=oneLt' false x y:=rfl
theorem zbjg{B:Around}{sg:Shared}(z:κ=general'\/κ=oneType')(t:B.units<cLine) (G:TupsG sg.heap [a])(x:TupsG sg.heap [b]) (p:C (HT.lexLt a.2 b.2) sg):
  wpAny (model P w) B (keyLt' κ (.ref a.1) (.ref b.1)) C E sg:=by
 obtain⟨r,o,n,s,e,d,g⟩:=G a xbv;obtain⟨c,m,l,q,u,j,f⟩:=x b xbv;rcases z with rfl|rfl
 ·rw[zvu];exact kat_one _ _ (HT.zmz (items:=r.toArray) (items2:=c.toArray) ⟨o,e,d,n,g⟩ ⟨m,u,j,l,f⟩ s q t p)
 ·rw[keyLt'_oneType,oneLt'_eq];simp only[ite_true];refine xba (wpAny_cRoomFor t (xba (wpAny_callSpecialIfBound?_slot (T:="tuple") ⟨o,e,d⟩ xlu ?_)))
  obtain⟨y,H,k,A⟩:=o;obtain⟨v,i,data2,h⟩:=m;dsimp only at d g j f;subst d g j f;exact call_meets xlu ⟨_,e,rfl⟩ F.entry_tuple_lt (F.args_tuple_lt_2 _ _) (HT.zgw a.1 b.1 r.toArray c.toArray n l H i A h a.2 b.2 s q) ⟨e,u,xfu p⟩
theorem zbjj{B:Around}{sg:Shared}(hu:B.units<cLine)(c:TupsG sg.heap a)(g:∃p∈a,p.2=[]):Srt.Answers P w B (Srt.rank (a.map (·.2))) (a.map λp=>Value.ref p.1) sg:=by
 obtain⟨A,f1,J⟩:=zre (P:=P) (w:=w) (B:=B) (E:=λ_ _=>False) c;have b:¬ (A.toArray.all λx=>x.isSome)=true:=λz=>by
  have Y:A.all (λx=>x.isSome)=true:=by simpa using z
  obtain⟨p,t,he⟩:=g;have m:(!p.2.isEmpty)∈A.map Option.isSome:=by rw[f1];exact List.mem_map_of_mem (f:=λp:Addr×List Int=>!p.2.isEmpty) t
  obtain⟨o,ho,e⟩:=xbq.mp m;have:=xca.mp Y o ho;rw[e,he] at this;cases this
 have l:∀{κ:SortKind},κ=general'\/κ=oneType'->∀i j C,i<(a.map λp=>Value.ref p.1).length->j<(a.map λp=>Value.ref p.1).length->C (Srt.lt (Srt.rank (a.map (·.2))) i j) sg->kas_ask P w B κ (a.map λp=>Value.ref p.1) i j C sg:=λ{κ} hκ i j C u y Q=>by
  rw[xbb] at u y;have U:a[i]?=some a[i]:=xbe u;have I:a[j]?=some a[j]:=xbe y;unfold kas_ask;rw[zj (λp:Addr×List Int=>Value.ref p.1) _ U,zj (λp:Addr×List Int=>Value.ref p.1) _ I];rw[Srt.zmp (by rw[xbb];exact u) (by rw[xbb];exact y),zj (λp:Addr×List Int=>p.2) _ U,zj (λp:Addr×List Int=>p.2) _ I] at Q;have h:∀k,(X:k<a.length)->TupsG sg.heap [a[k]]:=λk X q hq=>by
   rw[xcj.mp hq];exact c _ (xdq X)
  exact zbjg hκ hu (h i u) (h j y) Q
 by_cases fst:(A.toArray[0]?.bind id).isSome=true
 ·refine⟨general',λR G=>?_,l (.inl rfl)⟩;rw[kat_kind_eq,xnd,xnu];refine xba (xba (J _ (xbg ?_)));rw[if_neg b,if_pos fst];exact xbg G
 ·refine⟨oneType',λR G=>?_,l (.inr rfl)⟩;rw[kat_kind_eq,xnd,xnu];refine xba (xba (J _ (xbg ?_)));rw[if_neg b,if_neg fst,oneTypeOnly'_eq,xnd,xnu];have ty:∀ v∈(a.map λp=>Value.ref p.1),∀ W:Value->Shared->Prop,W (.type "tuple") sg->wpAny (model P w) B (typeOf v) W (λ_ _=>False) sg:=λv hv W hW=>by
   obtain⟨p,t,rfl⟩:=xbq.mp hv;obtain⟨us,o,n,a1,a2,a3,a4⟩:=c p t;have S:Looks (model P w) sg.heap (typeOf (.ref p.1)) o.cls:=(Looks.ld a2).andThen .now;rw[a3] at S;exact S.here hW
  refine xba (xba (xba (kas_mapM (r:=Value.type "tuple") _ ty (xbg ?_))))
  obtain⟨p,t,_⟩:=g;obtain⟨d,rest,rfl⟩:∃d rest,a=d::rest:=by
   cases a with
   |nil=>exact nomatch t
   |cons d rest=>exact⟨d,rest,rfl⟩
  have H:((List.map (λ_=>Value.type "tuple") ((d::rest).map λp=>Value.ref p.1)).toArray.all λx=>x==Value.type "tuple")=true:=by
   rw[List.all_toArray,xca];intro x hx;obtain⟨_,_,rfl⟩:=xbq.mp hx
   rfl
  have s:(List.map (λ_=>Value.type "tuple") ((d::rest).map λp=>Value.ref p.1)).toArray[0]?=some (Value.type "tuple"):=by simp
  rw[s];simp only[H,ite_true];exact xbg (xbg G)
theorem zbdy{B:Around}{sg:Shared}{b:List (Addr×List Int)}(g:B.units<cLine)(f:2<=b.length)(a:TupsG sg.heap b):Srt.Answers P w B (Srt.rank (b.map (·.2))) (b.map λp=>Value.ref p.1) sg:=by
 by_cases c:∃p∈b,p.2=[]
 ·exact zbjj g a c
 ·refine zbji f λi p j=>?_
  have d:=xbo j;obtain⟨e,o,n,h,l,k,m⟩:=a p d;exact⟨e,o,n,h,l,k,m,λz=>c ⟨p,d,z⟩⟩
theorem zhx(z:List (Addr×List Int)):Vals (z.map λp=>V.ref p.1) (z.map λp=>Value.ref p.1):=by
 induction z with
 |nil=>exact .nil
 |cons x z ih=>exact .cons rfl ih
end L2
namespace TS
open PyProof.Rows
noncomputable def kA(R:Keyed->Nat) (a:Array Keyed) (i:Nat):Nat:=match a[i]? with
 |some p=>R p
 |none=>0
theorem zds(h:xs[i]?=ys[j]?):kA R xs i=kA R ys j:=by unfold kA;rw[h]
theorem zee(h:xs[i]?=some x):kA R xs i=R x:=by unfold kA;rw[h]
def UpA(R:Keyed->Nat) (c:Array Keyed) (a b:Nat):Prop:=∀i j,a<=i->i<=j->j<b->kA R c i<=kA R c j
def DnA(R:Keyed->Nat) (c:Array Keyed) (a b:Nat):Prop:=∀i j,a<=i->i<=j->j<b->kA R c j<=kA R c i
noncomputable def Orc(a:Program) (w:World) (A:Around) (s:Shared) (κ:SortKind) (b:Array Keyed) (R:Keyed->Nat):Prop:=
 ∀x,x∈b.toList->∀y,y∈b.toList->∀(C:Bool->Shared->Prop),C (decide (R x<R y)) s->wpAny (model a w) A (keyLt' κ x.1 y.1) C (λ_ _=>False) s
structure B (κ:SortKind) (a₀:Array Keyed) (au:SortSt):Prop where
 perm:(arrOf au).Perm a₀
 kind:kindOf au=κ
 failed:failedOf au=none
section
variable {κ:SortKind}{a₀:Array Keyed}
theorem B.size{a:SortSt}(h:B κ a₀ a):(arrOf a).size=a₀.size:=h.perm.size_eq
theorem B.set{a:SortSt}(h:B κ a₀ a){b:Array Keyed}(c:b.Perm (arrOf a)):B κ a₀ (setArr a b):=⟨c.trans h.perm,h.kind,h.failed⟩
theorem B.mem{a:SortSt}(h:B κ a₀ a){i:Nat}(c:i<a₀.size):∃x,(arrOf a)[i]?=some x/\x∈a₀.toList:=by
 have b:i<(arrOf a).size:=by rw[h.size];exact c
 exact⟨_,getElem?_pos _ i b,(xfr.mp h.perm).mem_iff.mp (by simp)⟩
end
section
variable {prog:Program}{w:World}{A:Around}{E:Value->Shared->Prop}{s:Shared}{κ:SortKind}{a₀:Array Keyed}{R:Keyed->Nat}
theorem w_lt{x y:Keyed}{au:SortSt}{Q:Option Bool->SortSt->Prop}(O:Orc prog w A s κ a₀ R)(d:kindOf au=κ)(e:x∈a₀.toList)(c:y∈a₀.toList)(h:Q (some (decide (R x<R y))) au):wpS (model prog w) A E s (lt' x y) Q au:=by
 rw[lt'_eq];refine xbp (xiz ?_);rw[d];refine xbp (xls (xkd (xey (O x e y c (λb a=>a=s/\b=decide (R x<R y)) ⟨rfl,rfl⟩) (λb a g=>?_) λ_ _ f=>f.elim)));obtain⟨rfl,rfl⟩:=g;exact⟨rfl,xbs h⟩
end
section
variable {prog:Program}{w:World}{A:Around}{E:Value->Shared->Prop}{s:Shared}
theorem zmg{a:Array Keyed}{i:Nat}{x:Keyed}{au:SortSt}{Q:Keyed->SortSt->Prop}(e:a[i]?=some x)(h:Q x au):wpS (model prog w) A E s (elem' a i) Q au:=by
 rw[elem'_eq,e];exact xbs h
end
section
variable {prog:Program}{w:World}{A:Around}{E:Value->Shared->Prop}{s:Shared}{κ:SortKind}{a₀:Array Keyed}{R:Keyed->Nat}
theorem znz{i j:Nat}{au:SortSt}{Q:Option Bool->SortSt->Prop}(O:Orc prog w A s κ a₀ R)(b:B κ a₀ au)(d:i<a₀.size)(e:j<a₀.size)(h:Q (some (decide (kA R (arrOf au) i<kA R (arrOf au) j))) au):wpS (model prog w) A E s (ltAt' i j) Q au:=by
 obtain⟨x,c,g⟩:=b.mem d;obtain⟨y,a,f⟩:=b.mem e;rw[zee c,zee a] at h;rw[ltAt'_eq];exact xbp (xiz (xbp (zmg c (xbp (zmg a (w_lt O b.kind g f h))))))
end
section
variable {prog:Program}{w:World}{A:Around}{E:Value->Shared->Prop}{s:Shared}
theorem zyh{i j:Nat}{au:SortSt}{Q:Unit->SortSt->Prop}(h:Q () (setArr au (mirror (arrOf au) i j ((j-i)/2)))):wpS (model prog w) A E s (reverseSlice' i j) Q au:=by
 rw[reverseSlice'_eq];exact xhq h
theorem zbrg{i j:Nat}{au:SortSt}{Q:Unit->SortSt->Prop}(h:Q () (setArr au (bubble (arrOf au) i (i-j)))):wpS (model prog w) A E s (moveDown' i j) Q au:=by
 rw[moveDown'_eq];exact xhq h
end
theorem zbjy{lo x n N:Nat}(h:x<n)(a:lo+n<=N):lo+x<N:=xbm (xex h lo) a
theorem zbjx{lo x n N:Nat}(h:x<n)(a:lo+n<=N):lo+x-1<N:=xdk (xhe _ _) (zbjy h a)
theorem zwf{lo n:Nat}(h:1<=n):lo+n-1<lo+n:=xjc (xbm h (xnw _ _)) Nat.one_pos
theorem zbqy{j lo n:Nat}(h:j<lo+(n+1))(e:¬j=lo+n):j<lo+n:=xdt (xdb h) e
theorem zbnn(a:k<j):i<=i+j-1-k:=Nat.le_sub_of_add_le (xdw (xex a i))
theorem zbno(a:i<=k)(b:k<j):i+j-1-k<j:=xdk (xhk a _) (by rw[Nat.sub_right_comm,xdo];exact xjc (xle b) Nat.one_pos)
theorem zll{a:Array Keyed}(b:j<=a.size)(k:Nat):kA R (mirror a i j ((j-i)/2)) k=if i<=k/\k<j then kA R a (i+j-1-k) else kA R a k:=by
 have e:=getElem?_mirror_all (i:=i) b k;split
 ·rename_i c;rw[if_pos c] at e;exact zds e
 ·rename_i c;rw[if_neg c] at e;exact zds e
noncomputable def Out(c d:Array Keyed) (a b:Nat):Prop:=∀k,k<a\/b<=k->c[k]?=d[k]?
theorem Out.refl(c:Array Keyed)(a b:Nat):Out c c a b:=λ_ _=>rfl
theorem Out.trans(e:Out xs ys a b)(d:Out ys zs a b):Out xs zs a b:=λk c=>(e k c).trans (d k c)
theorem Out.mirror{c:Array Keyed}(f:j<=c.size)(e:a<=i)(g:j<=b):Out (mirror c i j ((j-i)/2)) c a b:=λk d=>by
 rw[getElem?_mirror_all (i:=i) f k,if_neg λz=>d.elim (λh=>xff (xbc e z.1) h) λh=>xff (xbc g h) z.2]
theorem Out.bubble{c:Array Keyed}(j:src<c.size)(i:d<=src)(g:a<=src-d)(f:src<b):Out (bubble c src d) c a b:=λk e=>by
 rw[getElem?_bubble j d i k,if_neg λz=>e.elim (λh=>xff (xbc g (xdu z.symm)) h) λh=>xff h (xdk (xbc (xdu z) (xhe _ _)) f),if_neg λz=>e.elim (λh=>xff (xbc g (xcg z.1)) h) λh=>xff h (xdk z.2 f)]
structure Sm (au st':SortSt) (a b:Nat):Prop where
 out:Out (arrOf st') (arrOf au) a b
 pend:pendingOf st'=pendingOf au
section
variable {prog:Program}{w:World}{A:Around}{E:Value->Shared->Prop}{s:Shared}{κ:SortKind}{a₀:Array Keyed}{R:Keyed->Nat}
theorem zbkl{lo a d:Nat}{au:SortSt}{Q:Option (Option Nat)×Nat->SortSt->Prop}(O:Orc prog w A s κ a₀ R)(b:B κ a₀ au)(o:lo+d<=a₀.size)(v:1<=a)(k:a<=d)(u:UpA R (arrOf au) lo (lo+a))
  (h:∀n,a<=n->n<=d->UpA R (arrOf au) lo (lo+n)->(n=d\/kA R (arrOf au) (lo+n)<kA R (arrOf au) (lo+n-1))->Q (none,n) au):
  wpS (model prog w) A E s (forIn [a:d] ((none,a):Option (Option Nat)×Nat) λ_ r=>do
   let x ←ltAt' (lo+r.2) (lo+r.2-1)
   match x with
   |some smaller=>if smaller=true then pure (ForInStep.done (none,r.2)) else pure (ForInStep.yield (none,r.2+1))
   |_=>pure (ForInStep.done (some none,r.2))) Q au:=by
 refine xeh (I:=λx c f=>f=au/\c=(none,x)/\UpA R (arrOf au) lo (lo+x)) ?_ ?_ ⟨rfl,rfl,u⟩
 ·rintro x c f q m ⟨rfl,rfl,g⟩;dsimp only;refine xbp (znz O b (zbjy m o) (zbjx m o) ?_);by_cases c:kA R (arrOf f) (lo+x)<kA R (arrOf f) (lo+x-1)
  ·simp only[c,xjj,xfl];exact xbs (h x q (xcg m) g (.inr c))
  ·simp only[c,xiq,xds,xfa];refine xbs ⟨rfl,rfl,λi j p l t=>?_⟩;by_cases e:j=lo+x
   ·subst e;by_cases e2:i=lo+x
    ·rw[e2];exact xbj _
    ·exact xbc (g i (lo+x-1) p (xdw (xdt l e2)) (zwf (xbc v q))) (xcr c)
   ·exact g i j p l (zbqy t e)
 ·rintro c f ⟨rfl,rfl,g⟩;rw[xnn k] at g ⊢;exact h d k (xbj _) g (.inl rfl)
end
theorem zit{xs:Array Keyed}{i j:Nat}(b:j<=xs.size)(a:∀k,i<=k->k<j->kA R xs k=kA R xs (j-1))(k:Nat):kA R (mirror xs i j ((j-i)/2)) k=kA R xs k:=by
 rw[zll b];split
 ·rename_i c;rw[a _ (zbnn c.2) (zbno c.1 c.2),a k c.1 c.2]
 ·rfl
structure Fl (κ:SortKind) (a₀:Array Keyed) (R:Keyed->Nat) (st₀ au:SortSt) (lo n neq b:Nat):Prop where
 base:B κ a₀ au
 same:Sm st₀ au lo b
 dn:DnA R (arrOf au) lo (lo+n)
 hq:neq+1<=n
 eqs:∀i,lo+n-(neq+1)<=i->i<lo+n->kA R (arrOf au) i=kA R (arrOf au) (lo+n-1)
section
variable {κ:SortKind}{a₀:Array Keyed}{R:Keyed->Nat}
theorem Fl.turn{d c:SortSt}{lo n a b:Nat}(h:Fl κ a₀ R d c lo n a b)(m:lo+n<=b)(q:b<=a₀.size):
  Fl κ a₀ R d (setArr c (mirror (arrOf c) (lo+n-(a+1)) (lo+n) ((lo+n-(lo+n-(a+1)))/2))) lo n a b/\∀k,kA R (mirror (arrOf c) (lo+n-(a+1)) (lo+n) ((lo+n-(lo+n-(a+1)))/2)) k=kA R (arrOf c) k:=by
 have o:=h.base.size;have r:=h.hq;have f:lo+n<=(arrOf c).size:=by rw[o];exact xbc m q
 have e:=zit (R:=R) (xs:=arrOf c) (i:=lo+n-(a+1)) (j:=lo+n) f h.eqs;refine⟨⟨h.base.set (mirror_perm _ _ _ _),⟨(Out.mirror f (Nat.le_sub_of_add_le (xcv r lo)) m).trans h.same.out,h.same.pend⟩,λi j l g p=>?_,h.hq,λi l g=>?_⟩,e⟩
 ·show kA R (mirror _ _ _ _) j<=kA R (mirror _ _ _ _) i;rw[e,e];exact h.dn i j l g p
 ·show kA R (mirror _ _ _ _) i=kA R (mirror _ _ _ _) _;rw[e,e];exact h.eqs i l g
theorem Fl.less{f d:SortSt}{lo n a b:Nat}(h:Fl κ a₀ R f d lo n a b)(c:kA R (arrOf d) (lo+n)<=kA R (arrOf d) (lo+n-1)):DnA R (arrOf d) lo (lo+(n+1)):=λi j g k l=>by
 have m:=h.hq;by_cases e:j=lo+n
 ·subst e;by_cases e2:i=lo+n
  ·rw[e2];exact xbj _
  ·exact xbc c (h.dn i (lo+n-1) g (xdw (xdt k e2)) (zwf (xbc (xnw 1 a) m)))
 ·exact h.dn i j g k (zbqy l e)
theorem Fl.fresh{a d:SortSt}{lo n e b:Nat}(h:Fl κ a₀ R a d lo n e b)(c:kA R (arrOf d) (lo+n)<=kA R (arrOf d) (lo+n-1)):Fl κ a₀ R a d lo (n+1) 0 b:=⟨h.base,h.same,h.less c,xgd (xes _),λi g f=>by
 have:i=lo+(n+1)-1:=xem (xdb f) g
 rw[this]⟩
theorem Fl.more{d f:SortSt}{lo n a b:Nat}(h:Fl κ a₀ R d f lo n a b)(c:kA R (arrOf f) (lo+n)=kA R (arrOf f) (lo+n-1)):Fl κ a₀ R d f lo (n+1) (a+1) b:=by
 have j:=h.hq;refine⟨h.base,h.same,h.less (xdu c),xgd j,λi k g=>?_⟩;rw[show lo+(n+1)-1=lo+n from rfl];by_cases e:i=lo+n
 ·rw[e]
 ·rw[c];exact h.eqs i (xbc (xdu (Nat.succ_sub_succ (lo+n) (a+1)).symm) k) (zbqy g e)
end
section
variable {prog:Program}{w:World}{A:Around}{E:Value->Shared->Prop}{s:Shared}{κ:SortKind}{a₀:Array Keyed}{R:Keyed->Nat}
theorem zbkk{lo nrem:Nat}{au:SortSt}{Q:Option Nat->SortSt->Prop}(O:Orc prog w A s κ a₀ R)(b:B κ a₀ au)(p:lo+nrem<=a₀.size)(h1:1<=nrem)
  (h:∀m a,1<=m->m<=nrem->B κ a₀ a->Sm au a lo (lo+nrem)->UpA R (arrOf a) lo (lo+m)->Q (some m) a):wpS (model prog w) A E s (countRun' lo nrem) Q au:=by
 have Y:Sm au au lo (lo+nrem):=⟨Out.refl _ _ _,rfl⟩
 have a7:∀P:Array Keyed,UpA R P lo (lo+1):=λP i j l g J=>by
  have:i=j:=xem g (xbc (xdb J) l);subst this;exact xbj _
 have a8:∀P:Array Keyed,DnA R P lo (lo+1):=λP i j l g J=>by
  have:i=j:=xem g (xbc (xdb J) l);subst this;exact xbj _
 rw[countRun'_eq];dsimp only;refine xbp (zbkl O b p (xbj _) h1 (a7 _) λn n1 n2 hu a0=>?_);dsimp only;split
 ·exact xbs (h n au n1 n2 b Y hu)
 rename_i a6;have U:n≠nrem:=λz=>a6 (by simp[z])
 have y:n<nrem:=xdt n2 U;have hl:kA R (arrOf au) (lo+n)<kA R (arrOf au) (lo+n-1):=by
  rcases a0 with z|z
  ·exact absurd z U
  ·exact z
 have hz:=b.size;have H:∀(n:Nat) (o:SortSt),B κ a₀ o->Sm au o lo (lo+nrem)->1<=n->n<=nrem->DnA R (arrOf o) lo (lo+n) ->
   B κ a₀ (setArr o (mirror (arrOf o) lo (lo+n) ((lo+n-lo)/2)))/\Sm au (setArr o (mirror (arrOf o) lo (lo+n) ((lo+n-lo)/2))) lo (lo+nrem)/\UpA R (mirror (arrOf o) lo (lo+n) ((lo+n-lo)/2)) lo (lo+n):=λn o b1 r X S t=>by
  have hz:=b1.size;have hm:=xcv S lo;have u:lo+n<=(arrOf o).size:=by rw[hz];exact xbc hm p
  refine⟨b1.set (mirror_perm _ _ _ _),⟨(Out.mirror u (xbj _) hm).trans r.out,r.pend⟩,λi j l g J=>?_⟩;have hi:=xdk g J;rw[zll u,zll u,if_pos ⟨l,hi⟩,if_pos ⟨xbc l g,J⟩];exact t _ _ (zbnn J) (xhk g _) (zbno l hi)
 have G:¬ kA R (arrOf au) lo<kA R (arrOf au) (lo+n-1)->∀k,lo<=k->k<lo+n->kA R (arrOf au) k=kA R (arrOf au) (lo+n-1):=λc k k1 k2=>by
  have g1:=hu lo k (xbj _) k1 k2;have g2:=hu k (lo+n-1) k1 (xdw k2) (zwf n1);exact xem g2 (xbc (xcr c) g1)
 have a4:∀P:Array Keyed,(∀k,kA R P k=kA R (arrOf au) k)->¬ kA R (arrOf au) lo<kA R (arrOf au) (lo+n-1)->DnA R P lo (lo+(n+1)):=λP e c i j l g J=>by
  rw[e,e];by_cases e2:j=lo+n
  ·subst e2;by_cases e3:i=lo+n
   ·rw[e3];exact xbj _
   ·rw[G c i l (xdt g e3)];exact xcg hl
  ·have jn:=zbqy J e2;rw[G c i l (xdk g jn),G c j (xbc l g) jn];exact xbj _
 split
 ·have u:lo+n<=(arrOf au).size:=by rw[hz];exact xbc (xcv n2 lo) p
  refine xbp (znz O b (xbm (xiw h1) p) (zbjx y p) ?_);by_cases c:kA R (arrOf au) lo<kA R (arrOf au) (lo+n-1)
  ·simp only[c,xjj,xfl];exact xbs (h n au n1 n2 b Y hu)
  ·simp only[c,xiq,xds,xfa];refine xbp (zyh ?_);have b1:B κ a₀ (setArr au (mirror (arrOf au) lo (lo+n) ((lo+n-lo)/2))):=b.set (mirror_perm _ _ _ _);have r:Sm au (setArr au (mirror (arrOf au) lo (lo+n) ((lo+n-lo)/2))) lo (lo+nrem):=⟨Out.mirror u (xbj _) (xcv n2 lo),rfl⟩
   have t:DnA R (arrOf (setArr au (mirror (arrOf au) lo (lo+n) ((lo+n-lo)/2)))) lo (lo+(n+1)):=a4 _ (zit u (G c)) c;generalize (setArr au (mirror (arrOf au) lo (lo+n) ((lo+n-lo)/2)))=o at b1 r t ⊢;refine xbp (xls (xii ⟨rfl,?_⟩));refine xbp (xgf (xeh (I:=λx c a=>∃d,c=(none,x,d)/\Fl κ a₀ R au a lo x d (lo+nrem)) (Q:=λc a=>∃m d,c=(none,m,d)/\n+1<=m/\m<=nrem/\Fl κ a₀ R au a lo m d (lo+nrem)) ?_ ?_ ?_) ?_)
   ·rintro x c a l g ⟨d,rfl,f⟩;dsimp only;refine xbp (znz O f.base (zbjy g p) (zbjx g p) ?_);by_cases c:kA R (arrOf a) (lo+x)<kA R (arrOf a) (lo+x-1)
    ·simp only[c,xjj,xfl];split
     ·obtain⟨v,e⟩:=f.turn (xcv (xcg g) lo) p;refine xbp (zyh (xbs ⟨0,rfl,v.fresh ?_⟩));refine xcg (?_:kA R (mirror _ _ _ _) _<kA R (mirror _ _ _ _) _);rw[e,e];exact c
     ·exact xbs ⟨0,rfl,f.fresh (xcg c)⟩
    ·simp only[c,xiq,xds,xfa];refine xbp (znz O f.base (zbjx g p) (zbjy g p) ?_);by_cases c2:kA R (arrOf a) (lo+x-1)<kA R (arrOf a) (lo+x)
     ·simp only[c2,xjj,xfl];exact xbs ⟨x,d,rfl,l,xcg g,f⟩
     ·simp only[c2,xiq,xds,xfa];exact xbs ⟨d+1,rfl,f.more (xem (xcr c2) (xcr c))⟩
   ·rintro c a ⟨d,rfl,f⟩;rw[xnn y] at f ⊢;exact⟨nrem,d,rfl,y,xbj _,f⟩
   ·exact⟨0,rfl,b1,r,t,xgd (xes _),λi g1 g2=>by
     have:i=lo+(n+1)-1:=xem (xdb g2) g1
     rw[this]⟩
   ·rintro c a ⟨m,d,rfl,l,g,f⟩;dsimp only;split
    ·obtain⟨v,e⟩:=f.turn (xcv g lo) p;refine xbp (zyh (xbp (zyh ?_)));obtain⟨C,s3,u3⟩:=H m _ v.base v.same (xea l) g v.dn;exact xbp (zbkl O C p (xea l) g u3 λm' X S q _=>xbs (h m' _ (xbc (xea l) X) S C s3 q))
    ·refine xbp (zyh ?_);obtain⟨C,s3,u3⟩:=H m _ f.base f.same (xea l) g f.dn;exact xbp (zbkl O C p (xea l) g u3 λm' X S q _=>xbs (h m' _ (xbc (xea l) X) S C s3 q))
 ·rename_i a5;have b1:=b;have r:=Y
  have t:DnA R (arrOf au) lo (lo+(n+1)):=a4 _ (λ_=>rfl) (by
   have:n=1:=xem (xcr a5) n1;subst this
   simp)
  refine xbp (xls (xii ⟨rfl,?_⟩));refine xbp (xgf (xeh (I:=λx c a=>∃d,c=(none,x,d)/\Fl κ a₀ R au a lo x d (lo+nrem)) (Q:=λc a=>∃m d,c=(none,m,d)/\n+1<=m/\m<=nrem/\Fl κ a₀ R au a lo m d (lo+nrem)) ?_ ?_ ?_) ?_)
  ·rintro x c a l g ⟨d,rfl,f⟩;dsimp only;refine xbp (znz O f.base (zbjy g p) (zbjx g p) ?_);by_cases c:kA R (arrOf a) (lo+x)<kA R (arrOf a) (lo+x-1)
   ·simp only[c,xjj,xfl];split
    ·obtain⟨v,e⟩:=f.turn (xcv (xcg g) lo) p;refine xbp (zyh (xbs ⟨0,rfl,v.fresh ?_⟩));refine xcg (?_:kA R (mirror _ _ _ _) _<kA R (mirror _ _ _ _) _);rw[e,e];exact c
    ·exact xbs ⟨0,rfl,f.fresh (xcg c)⟩
   ·simp only[c,xiq,xds,xfa];refine xbp (znz O f.base (zbjx g p) (zbjy g p) ?_);by_cases c2:kA R (arrOf a) (lo+x-1)<kA R (arrOf a) (lo+x)
    ·simp only[c2,xjj,xfl];exact xbs ⟨x,d,rfl,l,xcg g,f⟩
    ·simp only[c2,xiq,xds,xfa];exact xbs ⟨d+1,rfl,f.more (xem (xcr c2) (xcr c))⟩
  ·rintro c a ⟨d,rfl,f⟩;rw[xnn y] at f ⊢;exact⟨nrem,d,rfl,y,xbj _,f⟩
  ·exact⟨0,rfl,b1,r,t,xgd (xes _),λi g1 g2=>by
    have:i=lo+(n+1)-1:=xem (xdb g2) g1
    rw[this]⟩
  ·rintro c a ⟨m,d,rfl,l,g,f⟩;dsimp only;split
   ·obtain⟨v,e⟩:=f.turn (xcv g lo) p;refine xbp (zyh (xbp (zyh ?_)));obtain⟨C,s3,u3⟩:=H m _ v.base v.same (xea l) g v.dn;exact xbp (zbkl O C p (xea l) g u3 λm' X S q _=>xbs (h m' _ (xbc (xea l) X) S C s3 q))
   ·refine xbp (zyh ?_);obtain⟨C,s3,u3⟩:=H m _ f.base f.same (xea l) g f.dn;exact xbp (zbkl O C p (xea l) g u3 λm' X S q _=>xbs (h m' _ (xbc (xea l) X) S C s3 q))
end
theorem zqx{a:Array Keyed}(g:src<a.size)(f:d<=src)(k:Nat):kA R (bubble a src d) k=if k=src-d then kA R a src else if src-d<k/\k<=src then kA R a (k-1) else kA R a k:=by
 have e:=getElem?_bubble g d f k;split
 ·rename_i c;rw[if_pos c] at e;exact zds e
 ·rename_i c;rw[if_neg c] at e;split
  ·rename_i b;rw[if_pos b] at e;exact zds e
  ·rename_i b;rw[if_neg b] at e;exact zds e
theorem zlh(c:a<=b)(h:b-a<=n-max 0 n):b=a:=by
 rw[Nat.zero_max,xjq] at h;exact xem (Nat.le_of_sub_eq_zero (Nat.le_zero.mp h)) c
theorem zbuc(h:¬l ≥ r):l<=(l+r)/2:=(Nat.le_div_iff_mul_le xoa).mpr (by rw[Nat.mul_two];exact xcv (xcg (xgs h)) l)
theorem zbqz(h:¬l ≥ r):(l+r)/2<r:=(Nat.div_lt_iff_lt_mul xoa).mpr (by rw[Nat.mul_two];exact Nat.add_lt_add_right (xgs h) r)
theorem hf_l(h:¬l ≥ r)(g:r-l<=k-x):(l+r)/2-l<=k-(x+1):=xbc (xdw (xfc (zbuc h) (zbqz h))) (xgi g 1)
theorem hf_r(h:¬l ≥ r)(g:r-l<=k-x):r-((l+r)/2+1)<=k-(x+1):=xbc (xhk (xgd (zbuc h)) r) (xgi g 1)
theorem zbfk(h:p<j)(a:j<=q):j-1<q:=xbm (xjc (xle h) Nat.one_pos) a
section
variable {prog:Program}{w:World}{A:Around}{E:Value->Shared->Prop}{s:Shared}{κ:SortKind}{a₀:Array Keyed}{R:Keyed->Nat}
theorem zbxk{lo n S:Nat}{au:SortSt}{Q:Bool->SortSt->Prop}(O:Orc prog w A s κ a₀ R)(b:B κ a₀ au)(hn:lo+n<=a₀.size)(h1:1<=S)(h2:S<=n)(up:UpA R (arrOf au) lo (lo+S))
  (h:∀a,B κ a₀ a->Sm au a lo (lo+n)->UpA R (arrOf a) lo (lo+n)->Q true a):wpS (model prog w) A E s (binarySort' lo n S) Q au:=by
 rw[binarySort'_eq]
 refine xbp (xgf (xeh (I:=λk c a=>c=(none,())/\B κ a₀ a/\Sm au a lo (lo+n)/\UpA R (arrOf a) lo (lo+min k n))
  (Q:=λc a=>c=(none,())/\B κ a₀ a/\Sm au a lo (lo+n)/\UpA R (arrOf a) lo (lo+n)) ?_ ?_ ?_) ?_)
 ·rintro k c a k1 P ⟨rfl,t,f,up1⟩;rw[xej (xcg P)] at up1;have hz:=t.size;have hk:lo+k<a₀.size:=xbm (xex P lo) hn
  refine xbp (xgf (xeh (I:=λx c d=>d=a/\∃l r,c=(none,l,r)/\l<=r/\r<=k/\r-l<=k-x/\(∀i,i<l->kA R (arrOf a) (lo+i)<=kA R (arrOf a) (lo+k))/\(∀i,r<=i->i<k->kA R (arrOf a) (lo+k)<=kA R (arrOf a) (lo+i)))
   (Q:=λc d=>d=a/\∃l r,c=(none,l,r)/\l<=k/\(∀i,i<l->kA R (arrOf a) (lo+i)<=kA R (arrOf a) (lo+k))/\(∀i,l<=i->i<k->kA R (arrOf a) (lo+k)<=kA R (arrOf a) (lo+i))) ?_ ?_ ?_) ?_)
  ·rintro x c d x1 x2 ⟨rfl,l,r,rfl,y,o,v,G,H⟩;dsimp only;by_cases hge:l ≥ r
   ·rw[if_pos hge];have e:l=r:=xem y hge;subst e;exact xbs ⟨rfl,l,l,rfl,o,G,H⟩
   ·have hm:lo+(l+r)/2<lo+k:=xex (xbm (zbqz hge) o) lo;rw[if_neg hge];refine xbp (znz O t hk (xjo hm hk) ?_);by_cases c:kA R (arrOf d) (lo+k)<kA R (arrOf d) (lo+(l+r)/2)
    ·simp only[c,xjj,xfl];exact xbs ⟨rfl,l,(l+r)/2,rfl,zbuc hge,xbc (xcg (zbqz hge)) o,hf_l hge v,G,λi g m=>xbc (xcg c) (up1 _ _ (xck _ _) (xcv g lo) (xex m lo))⟩
    ·simp only[c,xiq,xds,xfa];exact xbs ⟨rfl,(l+r)/2+1,r,rfl,zbqz hge,o,hf_r hge v,λi g=>xbc (up1 (lo+i) (lo+(l+r)/2) (xck _ _) (xcv (xdb g) lo) hm) (xcr c),H⟩
  ·rintro c d ⟨rfl,l,r,rfl,y,o,v,G,H⟩;have e:=zlh y v;subst e;exact⟨rfl,_,_,rfl,o,G,H⟩
  ·exact⟨rfl,0,k,rfl,xes _,xbj _,xbj _,λi hi=>absurd hi (Nat.not_lt_zero _),λi g m=>absurd m (xff g)⟩
  ·rintro c d ⟨rfl,l,r,rfl,y,o,v⟩;dsimp only;have hd:lo+k-(lo+k-(lo+l))=lo+l:=Nat.sub_sub_self (xcv y lo);have U:lo+k<(arrOf d).size:=by rw[hz];exact hk
   refine xbp (zbrg (xbs ⟨rfl,t.set (bubble_perm _ _ _),⟨(Out.bubble U (xhe _ _) (by rw[hd];exact xck _ _) (xex P lo)).trans f.out,f.pend⟩,λi j g m J=>?_⟩));show kA R (bubble (arrOf d) (lo+k) (lo+k-(lo+l))) i<=kA R (bubble (arrOf d) (lo+k) (lo+k-(lo+l))) j;rw[zqx U (xhe _ _),zqx U (xhe _ _),hd];rw[xej P] at J;have p:j<=lo+k:=xdb J;have X:∀q,lo<=q->q<lo+l->kA R (arrOf d) q<=kA R (arrOf d) (lo+k):=λq C q2=>by
    have:=o (q-lo) (xek C q2);rw[xct C] at this;exact this
   have Y:∀q,lo+l<=q->q<lo+k->kA R (arrOf d) (lo+k)<=kA R (arrOf d) q:=λq C q2=>by
    have q0:=xbc (xck _ _) C;have:=v (q-lo) (xfj C) (xek q0 q2);rw[xct q0] at this;exact this
   by_cases i1:i=lo+l
   ·rw[if_pos i1];by_cases j1:j=lo+l
    ·rw[if_pos j1];exact xbj _
    ·have u:=xdt (i1 ▸ m) (xdj j1);rw[if_neg j1,if_pos ⟨u,p⟩];exact Y _ (xdw u) (zbfk u p)
   ·rw[if_neg i1];by_cases i2:lo+l<i/\i<=lo+k
    ·have u:=xbm i2.1 m;rw[if_pos i2,if_neg (xhr u),if_pos ⟨u,p⟩];exact up1 _ _ (xbc (xck lo l) (xdw i2.1)) (xgi m 1) (zbfk u p)
    ·have il:i<lo+l:=xdt (xcr λz=>i2 ⟨z,xbc m p⟩) i1;rw[if_neg i2];by_cases j1:j=lo+l
     ·rw[if_pos j1];exact X i g il
     ·rw[if_neg j1];by_cases j2:lo+l<j/\j<=lo+k
      ·rw[if_pos j2];exact up1 _ _ g (xdw (xjo il j2.1)) (zbfk j2.1 p)
      ·rw[if_neg j2];exact up1 _ _ g m (xbm (xdt (xcr λz=>j2 ⟨z,p⟩) j1) (xcv y lo))
 ·rintro c a ⟨rfl,t,f,up1⟩;rw[xjw (Nat.le_max_right _ _)] at up1;exact⟨rfl,t,f,up1⟩
 ·refine⟨rfl,b,⟨Out.refl _ _ _,rfl⟩,λi j g m J=>up i j g m (xbm J (xcv (xbc (xib _ _) (xdu (Nat.max_eq_left h1))) lo))⟩
 ·rintro c a ⟨rfl,t,f,up1⟩;exact xbs (h a t f up1)
end
noncomputable def gallop':Bool->Keyed->Array Keyed->Nat->Nat->Nat->StateT SortSt Sem (Option Nat):=sortPriv% PySem.Builtin.gallop
def Cut(left:Bool) (R:Keyed->Nat) (b:Keyed) (c:Array Keyed) (a n h:Nat):Prop:=h<=n/\(∀i,i<h->if left then kA R c (a+i)<R b else kA R c (a+i)<=R b)/\(∀i,h<=i->i<n->if left then R b<=kA R c (a+i) else R b<kA R c (a+i))
def ahead(left:Bool) (R:Keyed->Nat) (b:Keyed) (c:Array Keyed) (a i:Nat):Bool:=if left then decide (kA R c (a+i)<R b) else decide (kA R c (a+i)<=R b)
section
variable {prog:Program}{w:World}{A:Around}{E:Value->Shared->Prop}{s:Shared}{κ:SortKind}{a₀:Array Keyed}{R:Keyed->Nat}
theorem zmh{left:Bool}{a:Keyed}{d:Array Keyed}{b i:Nat}{au:SortSt}{Q:Option Bool->SortSt->Prop}(O:Orc prog w A s κ a₀ R)(g:kindOf au=κ)(f:a∈a₀.toList)(j:∃x,d[b+i]?=some x/\x∈a₀.toList)(h:Q (some (ahead left R a d b i)) au):
  wpS (model prog w) A E s (do
   let x ←elem' d (b+i)
   if left=true then lt' x a else do
    let y ←lt' a x
    pure (Option.map (λx=>!x) y)) Q au:=by
 obtain⟨x,e,m⟩:=j;refine xbp (zmg e ?_);unfold ahead at h;rw[zee e] at h;cases left with
 |true=>
  rw[if_pos rfl] at h ⊢;exact w_lt O g m f h
 |false=>
  rw[if_neg (by decide)] at h ⊢;refine xbp (w_lt O g f m (xbs ?_));have q:(!decide (R a<R x))=decide (R x<=R a):=by
   by_cases c:R a<R x
   ·rw[xbw c,xcd (Nat.not_le_of_lt c)];rfl
   ·rw[xcd c,xbw (xcr c)];rfl
  show Q (some (!decide (R a<R x))) au;rw[q];exact h
end
theorem zxu(up:UpA R arr base (base+n))(a:i<=j)(b:j<n)(h:ahead left R key arr base j=true):ahead left R key arr base i=true:=by
 have:=up (base+i) (base+j) (xck _ _) (xcv a _) (xex b _);unfold ahead at h ⊢;cases left with
 |true=>rw[if_pos rfl] at h ⊢;exact xbw (xdk this (xde h))
 |false=>rw[if_neg (by decide)] at h ⊢;exact xbw (xbc this (xde h))
theorem zbpr(f:h<=n)(a:∀i,i<h->ahead left R key arr base i=true)(b:∀i,h<=i->i<n->ahead left R key arr base i=false):Cut left R key arr base n h:=by
 refine⟨f,λi d=>?_,λi c e=>?_⟩
 ·have:=a i d;unfold ahead at this;cases left with
  |true=>rw[if_pos rfl] at this ⊢;exact xde this
  |false=>rw[if_neg (by decide)] at this ⊢;exact xde this
 ·have:=b i c e;unfold ahead at this;cases left with
  |true=>rw[if_pos rfl] at this ⊢;exact xcr (xmw this)
  |false=>rw[if_neg (by decide)] at this ⊢;exact xgs (xmw this)
theorem zbdi(c:¬a ≥ b):(b-a)/2<b-a:=Nat.div_lt_self (xgm (xgs c)) (xbj 2)
theorem zbto(c:¬a ≥ b):a+(b-a)/2<b:=xen (zbdi c)
theorem zbju(c:¬a ≥ b)(h:b<=n):a+(b-a)/2<n:=xbm (zbto c) h
theorem zbnq(h:b-a<=n-x):b-(a+(b-a)/2+1)<=n-(x+1):=xbc (xhk (xgd (xck a _)) b) (xgi h 1)
theorem zbnp(c:¬a ≥ b)(h:b-a<=n-x):a+(b-a)/2-a<=n-(x+1):=by
 rw[xdo];exact xbc (xdw (zbdi c)) (xgi h 1)
theorem zbpf(o:Nat):o<2*o+1:=xnc (xlj o xoa)
theorem zbpg(h:x+1<=o):x+1+1<=2*o+1:=xgd (xbc h (xlj o xoa))
theorem zbku{a b n:Nat}(h:a+b<n):b<n-a:=Nat.lt_sub_of_add_lt (xno a b ▸ h)
inductive GI (f:Nat->Bool) (n:Nat) (au:SortSt) (x:Nat):Option (Option Nat)×Nat×Nat->SortSt->Prop where
 |mk {a b:Nat}(q1:a<=b) (q2:b<=n) (q3:b-a<=n-x) (q4:∀i,i<a->f i=true) (q5:∀i,b<=i->i<n->f i=false):GI f n au x (none,a,b) au
inductive GE (f:Nat->Bool) (n:Nat) (au:SortSt):Option (Option Nat)×Nat×Nat->SortSt->Prop where
 |mk {b:Nat}(q2:b<=n) (q4:∀i,i<b->f i=true) (q5:∀i,b<=i->i<n->f i=false):GE f n au (none,b,b) au
inductive GU (f:Nat->Bool) (n hint:Nat) (P:Nat->Prop) (au:SortSt):Option (Option Nat)×Nat×Nat->SortSt->Prop where
 |mk {l o:Nat}(g1:l<o) (g2:hint+l<n) (g3:f (hint+l)=true) (g4:P o):GU f n hint P au (none,l,o) au
inductive GD (f:Nat->Bool) (hint:Nat) (P:Nat->Prop) (au:SortSt):Option (Option Nat)×Nat×Nat->SortSt->Prop where
 |mk {l o:Nat}(g1:l<o) (g2:l<=hint) (g3:f (hint-l)=false) (g4:P o):GD f hint P au (none,l,o) au
section
variable {prog:Program}{w:World}{A:Around}{E:Value->Shared->Prop}{s:Shared}{κ:SortKind}{a₀:Array Keyed}{R:Keyed->Nat}
theorem zgd{left:Bool}{p:Keyed}{m:Array Keyed}{f n d:Nat}{au:SortSt}{Q:Option Nat->SortSt->Prop}(O:Orc prog w A s κ a₀ R)(hk:kindOf au=κ)(q:p∈a₀.toList)(ma:∀i,i<n->∃x,m[f+i]?=some x/\x∈a₀.toList)(hh:d<n)
  (up:UpA R m f (f+n))(h:∀k,Cut left R p m f n k->Q (some k) au):wpS (model prog w) A E s (gallop' left p m f n d) Q au:=by
 have u:∀i j,i<=j->j<n->ahead left R p m f j=true->ahead left R p m f i=true:=λi j y S=>zxu up y S
 have t:∀i j,i<=j->j<n->ahead left R p m f i=false->ahead left R p m f j=false:=λi j y S e=>by
  cases c:ahead left R p m f j with
  |false=>rfl
  |true=>rw[u i j y S c] at e;cases e
 refine xbp (zmh O hk q (ma d hh) ?_);dsimp only;cases hr:ahead left R p m f d with
 |true=>
  rw[if_pos rfl];refine xbp (xgf (xeh (I:=λx=>GU (ahead left R p m f) n d (x+1<=·) au) (Q:=GU (ahead left R p m f) n d (λo=>n-d<=o\/(d+o<n/\ahead left R p m f (d+o)=false)) au) ?_ ?_ ?_) ?_)
  ·rintro x c X x1 x2 @⟨l,o,J,v,C,z⟩;dsimp only;by_cases c:o ≥ n-d
   ·rw[if_pos c];exact xbs (.mk J v C (.inl c))
   ·have c3:d+o<n:=xen (xgs c);rw[if_neg c];refine xbp (zmh O hk q (ma (d+o) c3) ?_);dsimp only;cases c2:ahead left R p m f (d+o) with
    |true=>exact xbs (.mk (zbpf o) c3 c2 (zbpg z))
    |false=>exact xbs (.mk J v C (.inr ⟨c3,c2⟩))
  ·rintro c X @⟨l,o,J,v,C,z⟩;rw[Nat.zero_max] at z;exact .mk J v C (.inl (xbc (xhe _ _) (xdy z)))
  ·exact .mk Nat.one_pos hh hr (xbj _)
  ·rintro c X @⟨l,o,J,v,C,z⟩;dsimp only;have f1:∀i,i<d+l+1->ahead left R p m f i=true:=λi P=>u i (d+l) (xdb P) v C
   have f2:∀i,d+min o (n-d)<=i->i<n->ahead left R p m f i=false:=λi y S=>by
    rcases z with g|⟨ga,gb⟩
    ·rw[xjw g,xct (xcg hh)] at y;exact absurd S (xff y)
    ·rw[xej (xcg (zbku ga))] at y;exact t (d+o) i y S gb
   have f3:d+l+1<=d+min o (n-d):=xcv (Nat.le_min.mpr ⟨J,zbku v⟩) d;have f4:d+min o (n-d)<=n:=xbc (xcv (xgr _ _) d) (xdu (xct (xcg hh)));generalize d+l+1=lo at f1 f3 ⊢;generalize d+min o (n-d)=P at f2 f3 f4 ⊢;refine xbp (xgf (xeh (I:=GI (ahead left R p m f) n au) (Q:=GE (ahead left R p m f) n au) ?_ ?_ (.mk f3 f4 (xbc (xhe _ _) f4) f1 f2)) ?_)
   ·rintro x c U x1 x2 @⟨a,b,q1,r,Y,H,G⟩;dsimp only;by_cases c:a ≥ b
    ·rw[if_pos c];have e:b=a:=xem c q1;subst e;exact xbs (.mk r H G)
    ·rw[if_neg c];refine xbp (zmh O hk q (ma (a+(b-a)/2) (zbju c r)) ?_);dsimp only;cases c2:ahead left R p m f (a+(b-a)/2) with
     |true=>exact xbs (.mk (zbto c) r (zbnq Y) (λi P=>u i (a+(b-a)/2) (xdb P) (zbju c r) c2) G)
     |false=>exact xbs (.mk (xck _ _) (xcg (zbju c r)) (zbnp c Y) H λi y S=>t (a+(b-a)/2) i y S c2)
   ·rintro c U @⟨a,b,q1,r,Y,H,G⟩;have e:=zlh q1 Y;subst e;exact .mk r H G
   ·rintro c U @⟨b,r,H,G⟩;exact xbs (h b (zbpr r H G))
 |false=>
  rw[if_neg (by decide)];refine xbp (xgf (xeh (I:=λx=>GD (ahead left R p m f) d (x+1<=·) au) (Q:=GD (ahead left R p m f) d (λo=>d+1<=o\/(o<=d/\ahead left R p m f (d-o)=true)) au) ?_ ?_ ?_) ?_)
  ·rintro x c X x1 x2 @⟨l,o,J,v,C,z⟩;dsimp only;by_cases c:o ≥ d+1
   ·rw[if_pos c];exact xbs (.mk J v C (.inl c))
   ·rw[if_neg c];refine xbp (zmh O hk q (ma (d-o) (xdk (xhe _ _) hh)) ?_);dsimp only;cases c2:ahead left R p m f (d-o) with
    |true=>exact xbs (.mk J v C (.inr ⟨xdb (xgs c),c2⟩))
    |false=>exact xbs (.mk (zbpf o) (xdb (xgs c)) c2 (zbpg z))
  ·rintro c X @⟨l,o,J,v,C,z⟩;rw[Nat.zero_max] at z;exact .mk J v C (.inl (xbc hh (xdy z)))
  ·exact .mk Nat.one_pos (xes _) hr (xbj _)
  ·rintro c X @⟨l,o,J,v,C,z⟩;dsimp only;have f1:∀i,i<d+1-min o (d+1)->ahead left R p m f i=true:=λi P=>by
    rcases z with g|⟨ga,gb⟩
    ·rw[xjw g,xjq] at P;exact absurd P (Nat.not_lt_zero _)
    ·rw[xej (xgn ga),Nat.succ_sub ga] at P;exact u i (d-o) (xdb P) (xdk (xhe _ _) hh) gb
   have f2:∀i,d-l<=i->i<n->ahead left R p m f i=false:=λi y S=>t (d-l) i y S C
   have f3:d+1-min o (d+1)<=d-l:=xbc (xhk (Nat.le_min.mpr ⟨J,xgd v⟩) _) (xdu (Nat.succ_sub_succ d l));have f4:d-l<=n:=xbc (xhe _ _) (xcg hh);generalize d+1-min o (d+1)=lo at f1 f3 ⊢;generalize d-l=P at f2 f3 f4 ⊢;refine xbp (xgf (xeh (I:=GI (ahead left R p m f) n au) (Q:=GE (ahead left R p m f) n au) ?_ ?_ (.mk f3 f4 (xbc (xhe _ _) f4) f1 f2)) ?_)
   ·rintro x c U x1 x2 @⟨a,b,q1,r,Y,H,G⟩;dsimp only;by_cases c:a ≥ b
    ·rw[if_pos c];have e:b=a:=xem c q1;subst e;exact xbs (.mk r H G)
    ·rw[if_neg c];refine xbp (zmh O hk q (ma (a+(b-a)/2) (zbju c r)) ?_);dsimp only;cases c2:ahead left R p m f (a+(b-a)/2) with
     |true=>exact xbs (.mk (zbto c) r (zbnq Y) (λi P=>u i (a+(b-a)/2) (xdb P) (zbju c r) c2) G)
     |false=>exact xbs (.mk (xck _ _) (xcg (zbju c r)) (zbnp c Y) H λi y S=>t (a+(b-a)/2) i y S c2)
   ·rintro c U @⟨a,b,q1,r,Y,H,G⟩;have e:=zlh q1 Y;subst e;exact .mk r H G
   ·rintro c U @⟨b,r,H,G⟩;exact xbs (h b (zbpr r H G))
end
noncomputable abbrev Ord(R:Keyed->Nat) (l:List Keyed):Prop:=l.Pairwise λx y=>R x<=R y
structure SmG (au st':SortSt):Prop where
 arr:arrOf st'=arrOf au
 pend:pendingOf st'=pendingOf au
 kind:kindOf st'=kindOf au
 failed:failedOf st'=failedOf au
theorem SmG.refl(au:SortSt):SmG au au:=⟨rfl,rfl,rfl,rfl⟩
theorem SmG.trans(x:SmG a b)(y:SmG b c):SmG a c:=⟨y.arr.trans x.arr,y.pend.trans x.pend,y.kind.trans x.kind,y.failed.trans x.failed⟩
noncomputable def mergeLo':Array Keyed->Array Keyed->StateT SortSt Sem (Array Keyed):=sortPriv% PySem.Builtin.mergeLo
noncomputable def mergeHi':Array Keyed->Array Keyed->StateT SortSt Sem (Array Keyed):=sortPriv% PySem.Builtin.mergeHi
structure ML (R:Keyed->Nat) (all out rest:List Keyed):Prop where
 perm:(out++rest).Perm all
 ord:Ord R out
 le:∀x∈out,∀y∈rest,R x<=R y
theorem ML.grow{a:List Keyed}(m:ML R all out a)(p:a.Perm (c++rest'))(o:Ord R c)(h:∀x∈c,∀y∈rest',R x<=R y):ML R all (out++c) rest':=by
 refine⟨?_,xgj.mpr ⟨m.ord,o,λx hx y b=>m.le x hx y (p.mem_iff.mpr (xhd _ b))⟩,λx hx y b=>?_⟩
 ·rw[xcm];exact(xgx out p.symm).trans m.perm
 ·rcases xce.mp hx with hx|hx
  ·exact m.le x hx y (p.mem_iff.mpr (xdz _ b))
  ·exact h x hx y b
theorem ML.fin{b a:List Keyed}(m:ML R all out b)(p:a.Perm b)(o:Ord R a):(out++a).Perm all/\Ord R (out++a):=
 ⟨(xgx out p).trans m.perm,xgj.mpr ⟨m.ord,o,λx d y c=>m.le x d y (p.mem_iff.mp c)⟩⟩
theorem Ord.at(h:Ord R l){i j:Nat}(f:l[i]?=some x)(g:l[j]?=some y)(a:i<=j):R x<=R y:=by
 obtain⟨k,d⟩:=xbd.mp f;obtain⟨e,b⟩:=xbd.mp g;by_cases c:i=j
 ·subst c;rw[←d,←b];exact xbj _
 ·rw[←d,←b];exact xfx.mp h i j k e (xdt a c)
theorem Ord.drop(h:Ord R l)(n:Nat):Ord R (l.drop n):=xgy (xne _ _) h
theorem Ord.take(h:Ord R l)(n:Nat):Ord R (l.take n):=xgy (xlc _ _) h
theorem zbk{l:List Keyed}(h:y∈l.drop n):∃j,n<=j/\l[j]?=some y:=by
 obtain⟨i,a,e⟩:=xev h;refine⟨n+i,xck _ _,?_⟩;rw[←e,xnf];exact xbe _
theorem zl{l:List Keyed}(h:y∈l.take n):∃j,j<n/\l[j]?=some y:=by
 obtain⟨i,b,e⟩:=xev h;have a:i<n/\i<l.length:=by rw[xcq] at b;exact Nat.lt_min.mp b
 refine⟨i,a.1,?_⟩;rw[←e,xng];exact xbe _
theorem ziz{l:List Keyed}{i:Nat}{x:Keyed}(h:l[i]?=some x):l.drop i=x::l.drop (i+1):=by
 obtain⟨a,rfl⟩:=xbd.mp h;exact xdh a
theorem zni(l:List Keyed)(i k:Nat):l.drop i=(l.drop i).take k++l.drop (i+k):=by
 rw[←xmn,xdg]
structure Two (R:Keyed->Nat) (la lb:List Keyed):Prop where
 oa:Ord R la
 ob:Ord R lb
 last:∀x,la[la.length-1]?=some x->∀y∈lb,R y<=R x
def Fin(R:Keyed->Nat) (a b:List Keyed) (r:Array Keyed):Prop:=r.toList.Perm (a++b)/\Ord R r.toList
section
variable {la:List Keyed}{lb:List Keyed}{out:Array Keyed}{ia:Nat}{ib:Nat}
theorem ML.pushB{R:Keyed->Nat}{a:List Keyed}(T:Two R la lb)(m:ML R a out.toList (la.drop ia++lb.drop ib)){y:Keyed}(b:lb[ib]?=some y)(h:∀z∈la.drop ia,R y<=R z):ML R a (out.push y).toList (la.drop ia++lb.drop (ib+1)):=by
 rw[xfg];refine m.grow ?_ (xky _ _) λx c z hz=>?_
 ·rw[ziz b];exact xnp
 ·simp at c;subst c
  rcases xce.mp hz with hz|hz
  ·exact h z hz
  ·obtain⟨j,d,e⟩:=zbk hz;exact T.ob.at b e (xdy d)
end
section
variable {w:World}{la:List Keyed}{lb:List Keyed}{out:Array Keyed}{ia:Nat}{ib:Nat}
theorem ML.pushA{R:Keyed->Nat}{a:List Keyed}(T:Two R la lb)(m:ML R a out.toList (la.drop ia++lb.drop ib)){x:Keyed}(c:la[ia]?=some x)(h:∀z∈lb.drop ib,R x<=R z):ML R a (out.push x).toList (la.drop (ia+1)++lb.drop ib):=by
 rw[xfg];refine m.grow ?_ (xky _ _) λw b z hz=>?_
 ·rw[ziz c];exact .refl _
 ·simp at b;subst b
  rcases xce.mp hz with hz|hz
  ·obtain⟨j,d,e⟩:=zbk hz;exact T.oa.at c e (xdy d)
  ·exact h z hz
end
theorem zby(a:Array Keyed)(i j:Nat):(a.extract i j).toList=(a.toList.drop i).take (j-i):=by
 rw[xma,List.extract_eq_take_drop]
theorem zrf(a:Array Keyed)(i:Nat):(a.extract i).toList=a.toList.drop i:=by
 rw[zby];exact xdv (by simp)
theorem zbs{a:Array Keyed}(h:a.toList[i]?=some x):kA R a i=R x:=zee (by rw[←xco];exact h)
section
variable {a:Array Keyed}{b:Array Keyed}{out:Array Keyed}{ia:Nat}{ib:Nat}{k:Nat}
theorem ML.galA(T:Two R a.toList b.toList)(m:ML R all out.toList (a.toList.drop ia++b.toList.drop ib))(n:b.toList[ib]?=some y)(c:Cut false R y a ia (a.size-ia) k):ML R all (out++a.extract ia (ia+k)).toList (a.toList.drop (ia+k)++b.toList.drop ib)/\∀z∈a.toList.drop (ia+k),R y<=R z:=by
 have up:∀z∈a.toList.drop (ia+k),R y<=R z:=λz d=>by
  obtain⟨j,f,e⟩:=zbk d;have i:j<a.size:=by have:=(xbd.mp e).1;simpa using this
  have l:=xbc (xck _ _) f;have:=c.2.2 (j-ia) (xfj f) (xfc l i);rw[xct l,zbs e] at this;exact xcg this
 have h:∀z∈(a.toList.drop ia).take k,R z<=R y:=λz d=>by
  obtain⟨j,f,e⟩:=zl d;rw[xfo] at e;have:=c.2.1 j f;rw[zbs e] at this;exact this
 refine⟨?_,up⟩;rw[xeb,zby,xdo];refine m.grow ?_ ((T.oa.drop ia).take k) λz d v hv=>?_
 ·conv=>lhs;rw[zni a.toList ia k]
  rw[xcm]
 ·rcases xce.mp hv with hv|hv
  ·exact xbc (h z d) (up v hv)
  ·obtain⟨j,f,e⟩:=zbk hv;exact xbc (h z d) (T.ob.at n e f)
theorem ML.galB(T:Two R a.toList b.toList)(m:ML R all out.toList (a.toList.drop ia++b.toList.drop ib))(n:a.toList[ia]?=some x)(c:Cut true R x b ib (b.size-ib) k):ML R all (out++b.extract ib (ib+k)).toList (a.toList.drop ia++b.toList.drop (ib+k))/\∀z∈b.toList.drop (ib+k),R x<=R z:=by
 have up:∀z∈b.toList.drop (ib+k),R x<=R z:=λz d=>by
  obtain⟨j,f,e⟩:=zbk d;have i:j<b.size:=by have:=(xbd.mp e).1;simpa using this
  have l:=xbc (xck _ _) f;have:=c.2.2 (j-ib) (xfj f) (xfc l i);rw[xct l,zbs e] at this;exact this
 have h:∀z∈(b.toList.drop ib).take k,R z<=R x:=λz d=>by
  obtain⟨j,f,e⟩:=zl d;rw[xfo] at e;have:=c.2.1 j f;rw[zbs e] at this;exact xcg this
 refine⟨?_,up⟩;rw[xeb,zby,xdo];refine m.grow ?_ ((T.ob.drop ib).take k) λz d v hv=>?_
 ·conv=>lhs;rw[zni b.toList ib k]
  rw[←xcm,←xcm];exact xjh _ xic
 ·rcases xce.mp hv with hv|hv
  ·obtain⟨j,f,e⟩:=zbk hv;exact xbc (h z d) (T.oa.at n e f)
  ·exact xbc (h z d) (up v hv)
end
theorem ML.done{a:Array Keyed}{b:Array Keyed}{c:Array Keyed}{d:Nat}{e:Nat}(T:Two R a.toList b.toList)(m:ML R (a.toList++b.toList) c.toList (a.toList.drop d++b.toList.drop e))(h:d=a.size\/e=b.size):Fin R a.toList b.toList (c++a.extract d++b.extract e):=by
 unfold Fin;rw[xeb,xeb,zrf,zrf,xcm];refine m.fin (.refl _) ?_;rcases h with rfl|rfl
 ·rw[xji (by simp),List.nil_append];exact T.ob.drop _
 ·rw[xji (as:=b.toList) (by simp),xei];exact T.oa.drop _
theorem ML.lastA{a:Array Keyed}{b:Array Keyed}{c:Array Keyed}{d:Nat}{g:Nat}(T:Two R a.toList b.toList)(m:ML R (a.toList++b.toList) c.toList (a.toList.drop d++b.toList.drop g))(h:d+1=a.size):Fin R a.toList b.toList (c++b.extract g++a.extract d):=by
 unfold Fin;rw[xeb,xeb,zrf,zrf,xcm];refine m.fin xic (xgj.mpr ⟨T.ob.drop _,T.oa.drop _,λv l z i=>?_⟩);obtain⟨j,k,e⟩:=zbk i;have f:j<a.size:=by have:=(xbd.mp e).1;simpa using this
 have:j=a.toList.length-1:=xem (xdw (by rw[xci];exact f)) (by rw[xci,←h];exact k);subst this;exact T.last z e v (xfq l)
noncomputable def setG':Nat->StateT SortSt Sem Unit:=sortPriv% PySem.Builtin.setMinGallop
section
variable {prog:Program}{w:World}{A:Around}{E:Value->Shared->Prop}{s:Shared}
theorem zyg{g:Nat}{au:SortSt}{Q:Unit->SortSt->Prop}(h:∀a,SmG au a->Q () a):wpS (model prog w) A E s (setG' g) Q au:=
 xhq (h _ ⟨rfl,rfl,rfl,rfl⟩)
end
section
variable {prog:Program}{w:World}{A:Around}{E:Value->Shared->Prop}{s:Shared}{y:Keyed}{x:Keyed}
theorem zbwk{α:Type}{K:Nat->StateT SortSt Sem α}{Q:α->SortSt->Prop}{au:SortSt}(h:∀v,wpS (model prog w) A E s (K v) Q au):∀y x:Nat,wpS (model prog w) A E s (if y > 1 then K x else K y) Q au:=λy x=>by
 by_cases e:y > 1
 ·rw[if_pos e];exact h x
 ·rw[if_neg e];exact h y
end
section
variable {prog:Program}{w:World}{A:Around}{E:Value->Shared->Prop}{s:Shared}
theorem zbwm{α:Type}{c a:Prop}[Decidable c][Decidable a]{X Y d:StateT SortSt Sem α}{Q:α->SortSt->Prop}{au:SortSt}(f:¬c->d=Y)(g:c->a->wpS (model prog w) A E s X Q au)(b:(c->¬a)->wpS (model prog w) A E s Y Q au):wpS (model prog w) A E s (if c then(if a then X else Y) else d) Q au:=by
 by_cases e:c
 ·rw[if_pos e];by_cases e2:a
  ·rw[if_pos e2];exact g e e2
  ·rw[if_neg e2];exact b λ_=>e2
 ·rw[if_neg e,f e];exact b λz=>absurd z e
theorem zbkj{α:Type}{c a b:Prop}[Decidable c][Decidable a][Decidable b]{X d Y g:StateT SortSt Sem α}{Q:α->SortSt->Prop}{au:SortSt}(i:¬c->g=Y)(j:c->a->wpS (model prog w) A E s X Q au)(h:c->b->wpS (model prog w) A E s d Q au)(f:(c->¬a/\¬b)->wpS (model prog w) A E s Y Q au):wpS (model prog w) A E s (if c then(if a then X else if b then d else Y) else g) Q au:=by
 by_cases e:c
 ·rw[if_pos e];by_cases e2:a
  ·rw[if_pos e2];exact j e e2
  ·rw[if_neg e2];by_cases e3:b
   ·rw[if_pos e3];exact h e e3
   ·rw[if_neg e3];exact f λ_=>⟨e2,e3⟩
 ·rw[if_neg e,i e];exact f λz=>absurd z e
theorem zbwl{α:Type}{c a:Prop}[Decidable c][Decidable a]{X b Y:StateT SortSt Sem α}{Q:α->SortSt->Prop}{au:SortSt}(g:c->wpS (model prog w) A E s X Q au)(d:a->wpS (model prog w) A E s b Q au)(f:¬c->¬a->wpS (model prog w) A E s Y Q au):wpS (model prog w) A E s (if c then X else if a then b else Y) Q au:=by
 by_cases e:c
 ·rw[if_pos e];exact g e
 ·rw[if_neg e];by_cases e2:a
  ·rw[if_pos e2];exact d e2
  ·rw[if_neg e2];exact f e e2
theorem w_if{α:Type}{c:Prop}[Decidable c]{X Y:StateT SortSt Sem α}{Q:α->SortSt->Prop}{au:SortSt}(a:c->wpS (model prog w) A E s X Q au)(b:¬c->wpS (model prog w) A E s Y Q au):wpS (model prog w) A E s (if c then X else Y) Q au:=by
 by_cases e:c
 ·rw[if_pos e];exact a e
 ·rw[if_neg e];exact b e
theorem w_el{α:Type}{a:Array Keyed}{i:Nat}{x:Keyed}{f:Keyed->StateT SortSt Sem α}{Q:α->SortSt->Prop}{au:SortSt}(e:a[i]?=some x)(h:wpS (model prog w) A E s (f x) Q au):wpS (model prog w) A E s (elem' a i >>= f) Q au:=xbp (zmg e h)
end
section
variable {prog:Program}{w:World}{A:Around}{E:Value->Shared->Prop}{s:Shared}{κ:SortKind}{a₀:Array Keyed}{R:Keyed->Nat}
theorem zbki{α:Type}{x y:Keyed}{f:Option Bool->StateT SortSt Sem α}{Q:α->SortSt->Prop}{au:SortSt}(O:Orc prog w A s κ a₀ R)(d:kindOf au=κ)(e:x∈a₀.toList)(b:y∈a₀.toList)(g:R x<R y->wpS (model prog w) A E s (f (some true)) Q au)(a:R y<=R x->wpS (model prog w) A E s (f (some false)) Q au):wpS (model prog w) A E s (lt' x y >>= f) Q au:=by
 refine xbp (w_lt O d e b ?_);by_cases c:R x<R y
 ·rw[xbw c];exact g c
 ·rw[xcd c];exact a (xcr c)
end
inductive Dn {β:Type}(R:Keyed->Nat) (a b:Array Keyed) (au:SortSt):Option (Array Keyed)×β->SortSt->Prop where
 |mk {r:Array Keyed}{z:β}{st':SortSt}(sm:SmG au st') (f:Fin R a.toList b.toList r):Dn R a b au (some r,z) st'
section
variable {out:Array Keyed}{ia:Nat}{ib:Nat}
inductive L1 (R:Keyed->Nat) (a b:Array Keyed) (au:SortSt) (x:Nat):Option (Array Keyed)×Array Keyed×Nat×Nat×Nat->SortSt->Prop where
 |mk {out:Array Keyed}{ia ib g:Nat}{st':SortSt}(sm:SmG au st') (m:ML R (a.toList++b.toList) out.toList (a.toList.drop ia++b.toList.drop ib)) (ha:ia+1<a.size) (hb:ib<b.size) (hx:x<ia+ib):L1 R a b au x (none,out,ia,ib,g) st'
inductive L2' (R:Keyed->Nat) (a b:Array Keyed) (au:SortSt) (x:Nat):Option (Array Keyed)×Array Keyed×Nat×Nat×Nat×Nat->SortSt->Prop where
 |mk {out:Array Keyed}{ia ib ac bc:Nat}{st':SortSt}(sm:SmG au st') (m:ML R (a.toList++b.toList) out.toList (a.toList.drop ia++b.toList.drop ib)) (ha:ia+1<a.size) (hb:ib<b.size) (hx:x<=ia+ib):L2' R a b au x (none,out,ia,ib,ac,bc) st'
inductive L3 (R:Keyed->Nat) (a b:Array Keyed) (au:SortSt) (x:Nat):Option (Array Keyed)×Array Keyed×Nat×Nat×Nat×Nat×Nat->SortSt->Prop where
 |mk {out:Array Keyed}{ia ib g ac bc:Nat}{st':SortSt}(sm:SmG au st') (m:ML R (a.toList++b.toList) out.toList (a.toList.drop ia++b.toList.drop ib)) (ha:ia+1<a.size) (hb:ib<b.size) (hx:x<=ia+ib):L3 R a b au x (none,out,ia,ib,g,ac,bc) st'
end
section
variable {prog:Program}{w:World}{A:Around}{E:Value->Shared->Prop}{s:Shared}{κ:SortKind}{a₀:Array Keyed}{R:Keyed->Nat}{a:Array Keyed}{b:Array Keyed}{out:Array Keyed}{ia:Nat}{ib:Nat}{k:Nat}{y:Keyed}{x:Keyed}
theorem zyi{au:SortSt}{Q:Array Keyed->SortSt->Prop}(O:Orc prog w A s κ a₀ R)(hk:kindOf au=κ)(ma:∀x∈a.toList,x∈a₀.toList)(mb:∀x∈b.toList,x∈a₀.toList)(T:Two R a.toList b.toList)(ha:1<=a.size)(hb:1<=b.size)
  (b8:∀y,b.toList[0]?=some y->∀x∈a.toList,R y<=R x)(h:∀r C,SmG au C->Fin R a.toList b.toList r->Q r C):wpS (model prog w) A E s (mergeLo' a b) Q au:=by
 have u:∀(i:Nat) (P:i<a.size),a[i]?=some a[i]/\a.toList[i]?=some a[i]/\a[i]∈a₀.toList:=λi P=>⟨getElem?_pos a i P,by rw[xco];exact getElem?_pos a i P,ma _ (by simp)⟩
 have o:∀(i:Nat) (P:i<b.size),b[i]?=some b[i]/\b.toList[i]?=some b[i]/\b[i]∈a₀.toList:=λi P=>⟨getElem?_pos b i P,by rw[xco];exact getElem?_pos b i P,mb _ (by simp)⟩
 have b6:∀i,UpA R a i (i+(a.size-i)):=λi p q a1 a2 a3=>by
  have hq:q<a.size:=by lia
  have e1:=(u p (by lia)).2.1;have e2:=(u q hq).2.1;rw[zbs e1,zbs e2];exact T.oa.at e1 e2 a2
 have b7:∀i,UpA R b i (i+(b.size-i)):=λi p q a1 a2 a3=>by
  have hq:q<b.size:=by lia
  have e1:=(o p (by lia)).2.1;have e2:=(o q hq).2.1;rw[zbs e1,zbs e2];exact T.ob.at e1 e2 a2
 obtain⟨y0,f0,f1⟩:∃x,b[0]?=some x/\b.toList[0]?=some x:=⟨_,(o 0 hb).1,(o 0 hb).2.1⟩
 have start:ML R (a.toList++b.toList) (#[y0]:Array Keyed).toList (a.toList.drop 0++b.toList.drop 1):=by
  have z:ML R (a.toList++b.toList) (#[]:Array Keyed).toList (a.toList.drop 0++b.toList.drop 0):=⟨by simp,List.Pairwise.nil,by simp⟩
  exact z.pushB T f1 λx hx=>b8 y0 f1 x (xfq hx)
 refine xbp (xls (xii ⟨rfl,xbp (zmg f0 (zbwl (λc1=>?_) (λc2=>?_) λc1 c2=>?_))⟩))
 ·exact xbs (h _ _ (.refl _) (start.done T (.inr (by simpa using c1))))
 ·exact xbs (h _ _ (.refl _) (start.lastA T (by simpa using c2)))
 simp only[xhp] at c1 c2;refine xbp (xiz ?_);refine xbp (xgf (xeh (I:=L1 R a b au) (Q:=Dn R a b au) ?_ ?_ (.mk (.refl _) start (by lia) (by lia) (by lia))) ?_)
 ·rintro x c a5 x1 x2 @⟨out,ia,ib,g,a5,a0,m,b2,b4,hx⟩;dsimp only;refine xbp (xgf (xeh (I:=λ_=>L2' R a b au (ia+ib)) (Q:=λc C=>Dn R a b au c C\/L2' R a b au (ia+ib) c C) ?_ ?_ (.mk a0 m b2 b4 (xbj _))) ?_)
  ·rintro x' c a4 _ _ @⟨out,l,ib',ac,bc,a4,t,m,n,d,hp⟩;dsimp only;have ea:=(u l (xfs n)).1;have J:=(u l (xfs n)).2.1;have a7:=(u l (xfs n)).2.2;have eb:=(o ib' d).1;have H:=(o ib' d).2.1;have a8:=(o ib' d).2.2;refine w_el eb (w_el ea (zbki O (t.kind.trans hk) a8 a7 (λcw=>w_el eb ?_) λcw=>w_el ea ?_))
   ·skip
    have m2:=m.pushB T H λz hz=>by
     obtain⟨j,hj,e⟩:=zbk hz;exact xbc (xcg cw) (T.oa.at J e hj)
    refine w_if (λc5=>xbs (.inl (.mk t (m2.done T (.inr (eq_of_beq c5)))))) λc5=>?_
    rw[xhp] at c5;have b3:ib'+1<b.size:=xdt d c5;have S:ia+ib<=l+(ib'+1):=xgn hp;exact w_if (λ_=>xbs (.inr (.mk t m2 n b3 S))) λ_=>xbs (.mk t m2 n b3 S)
   ·skip
    have m2:=m.pushA T J λz hz=>by
     obtain⟨j,hj,e⟩:=zbk hz;exact xbc cw (T.ob.at H e hj)
    refine w_if (λc5=>xbs (.inl (.mk t (m2.lastA T (eq_of_beq c5))))) λc5=>?_
    rw[xhp] at c5;have a9:l+1+1<a.size:=xdt n c5;have S:ia+ib<=l+1+ib':=Nat.succ_add l ib' ▸ xgn hp
    exact w_if (λ_=>xbs (.inr (.mk t m2 a9 d S))) λ_=>xbs (.mk t m2 a9 d S)
  ·exact λc a4 k=>.inr k
  ·rintro c a4 (⟨t,f⟩|@⟨out,l,ib',ac,bc,a4,t,m,n,d,hp⟩)
   ·exact xbs (.mk t f)
   ·dsimp only;refine xbp (xls (xii ⟨rfl,?_⟩));refine xbp (xgf (xeh (I:=λx'=>L3 R a b au (ia+ib+x')) (Q:=λc C=>Dn R a b au c C\/L3 R a b au (ia+ib+1) c C) ?_ ?_ (.mk t m n d hp)) ?_)
    ·rintro x' c a6 _ d1 @⟨out,l,ib',g',ac,bc,a6,G,m,n,d,hp⟩;dsimp only;have eb:=(o ib' d).1;have H:=(o ib' d).2.1;have a8:=(o ib' d).2.2;generalize g'-1=g1;generalize g'=y;revert g1;revert y
     refine zbwk ?_;intro gg;refine xbp (zyg λb9 sg=>?_);have v:=G.trans sg;refine w_el eb (xbp (zgd O (v.kind.trans hk) a8 (λi P=>⟨_,(u (l+i) (xen P)).1,(u (l+i) (xen P)).2.2⟩) (xgm (xfs n)) (b6 l) λk1 X=>?_));have m5:=(m.galA T H X).1;have u5:=(m.galA T H X).2;have c3:=X.1;dsimp only;refine zbkj (λc6=>?_) (λc6 c7=>?_) (λc6 c8=>?_) λhh=>?_
     ·have z:k1=0:=Nat.le_zero.mp (xcr c6);subst z;simp only[xjr,xjs (xib _ _),xmt]
     ·exact xbs (.inl (.mk v (m5.lastA T (eq_of_beq c7))))
     ·exact xbs (.inl (.mk v (m5.done T (.inl (eq_of_beq c8)))))
     have U:l+k1+1<a.size:=by
      by_cases c6:k1 > 0
      ·have:=hh c6;simp at this;lia
      ·lia
     have c0:ia+ib+x'<=l+k1+ib':=xbc hp (Nat.add_le_add_right (xck _ _) _);clear hh;generalize l+k1=ia5 at m5 u5 U c0 ⊢;generalize out++a.extract l ia5=out5 at m5 ⊢;have m6:=m5.pushB T H u5;have ea:=(u _ (xfs U)).1;have J:=(u _ (xfs U)).2.1;have a7:=(u _ (xfs U)).2.2;refine w_el eb (w_if (λc9=>xbs (.inl (.mk v (m6.done T (.inr (eq_of_beq c9)))))) λc9=>w_el ea ?_);rw[xhp] at c9;refine xbp (zgd O (v.kind.trans hk) a7 (λi P=>⟨_,(o (ib'+1+i) (xen P)).1,(o (ib'+1+i) (xen P)).2.2⟩) (xgm (xdt d c9)) (b7 (ib'+1)) λk2 Y=>?_);have m7:=(m6.galB T J Y).1;have u7:=(m6.galB T J Y).2;have d0:=Y.1;dsimp only;refine zbwm (λd6=>?_) (λd6 d7=>?_) λhh=>?_
     ·have z2:k2=0:=Nat.le_zero.mp (xcr d6);subst z2;simp only[xjr,xjs (xib _ _),xmt]
     ·exact xbs (.inl (.mk v (m7.done T (.inr (eq_of_beq d7)))))
     have c4:ib'+1+k2≠b.size:=by
      by_cases d6:k2 > 0
      ·have:=hh d6;simp at this;lia
      ·lia
     have m8:=m7.pushA T J u7;refine w_el ea (w_if (λd8=>xbs (.inl (.mk v (m8.lastA T (eq_of_beq d8))))) λd8=>?_);rw[xhp] at d8;have b0:ia5+1+1<a.size:=xdt U d8;have b5:ib'+1+k2<b.size:=by lia
     have b1:ia+ib+(x'+1)<=ia5+1+(ib'+1+k2):=by lia
     exact w_if (λ_=>xbs (.inr (.mk v m8 b0 b5 (xbc (xcv (xnw 1 x') _) b1)))) λ_=>xbs (.mk v m8 b0 b5 b1)
    ·rintro c a6 ⟨G,m,n,d,hp⟩;exact .inr (.mk G m n d (by lia))
    ·rintro c a6 (⟨G,f⟩|⟨G,m,n,d,hp⟩)
     ·exact xbs (.mk G f)
     ·exact xbp (zyg λb9 sg=>xbs (.mk (G.trans sg) m n d (xbm (Nat.succ_lt_succ hx) hp)))
 ·rintro c a5 ⟨a0,m,b2,b4,hx⟩;lia
 ·rintro c a5 ⟨a0,f⟩;exact xbs (h _ a5 a0 f)
end
structure MH (R:Keyed->Nat) (all out rest:List Keyed):Prop where
 perm:(rest++out.reverse).Perm all
 ord:Ord R out.reverse
 le:∀x∈rest,∀y∈out,R x<=R y
theorem MH.grow{a c:List Keyed}(m:MH R all out a)(p:a.Perm (rest'++c.reverse))(o:Ord R c.reverse)(h:∀x∈rest',∀y∈c,R x<=R y):MH R all (out++c) rest':=by
 refine⟨?_,?_,λx b y hy=>?_⟩
 ·rw[List.reverse_append,←xcm];exact(xjh _ p.symm).trans m.perm
 ·rw[List.reverse_append];exact xgj.mpr ⟨o,m.ord,λx b y hy=>m.le x (p.mem_iff.mpr (xdz _ b)) y (xlo.mp hy)⟩
 ·rcases xce.mp hy with hy|hy
  ·exact m.le x (p.mem_iff.mpr (xhd _ b)) y hy
  ·exact h x b y hy
theorem MH.fin{b a:List Keyed}(m:MH R all out b)(p:a.Perm b)(o:Ord R a):(a++out.reverse).Perm all/\Ord R (a++out.reverse):=
 ⟨(xjh _ p).trans m.perm,xgj.mpr ⟨o,m.ord,λx d y c=>m.le x (p.mem_iff.mp d) y (xlo.mp c)⟩⟩
theorem zia{l:List Keyed}{i:Nat}{x:Keyed}(h:l[i]?=some x):l.take (i+1)=l.take i++[x]:=by
 obtain⟨a,rfl⟩:=xbd.mp h;exact xin a
structure TwoH (R:Keyed->Nat) (la lb:List Keyed):Prop where
 oa:Ord R la
 ob:Ord R lb
 first:∀y,lb[0]?=some y->∀x∈la,R y<=R x
section
variable {R:Keyed->Nat}{la:List Keyed}{lb:List Keyed}{all:List Keyed}{out:Array Keyed}{na:Nat}{nb:Nat}
theorem MH.pushB(T:TwoH R la lb)(m:MH R all out.toList (la.take na++lb.take (nb+1))){y:Keyed}(a:lb[nb]?=some y)(h:∀z∈la.take na,R z<=R y):MH R all (out.push y).toList (la.take na++lb.take nb):=by
 rw[xfg];refine m.grow ?_ (by simp) λz hz w b=>?_
 ·rw[zia a];simp
 ·simp at b;subst b
  rcases xce.mp hz with hz|hz
  ·exact h z hz
  ·obtain⟨j,c,e⟩:=zl hz;exact T.ob.at e a (by lia)
theorem MH.pushA(T:TwoH R la lb)(m:MH R all out.toList (la.take (na+1)++lb.take nb)){x:Keyed}(b:la[na]?=some x)(h:∀z∈lb.take nb,R z<=R x):MH R all (out.push x).toList (la.take na++lb.take nb):=by
 rw[xfg];refine m.grow ?_ (by simp) λz hz w a=>?_
 ·rw[zia b];simp only[List.reverse_singleton,xcm];exact xgx _ xic
 ·simp at a;subst a
  rcases xce.mp hz with hz|hz
  ·obtain⟨j,c,e⟩:=zl hz;exact T.oa.at e b (by lia)
  ·exact h z hz
end
theorem zww(l:List Keyed) (h:k<=n):l.take n=l.take k++(l.drop k).take (n-k):=by
 conv=>lhs;rw[show n=k+(n-k) by lia,List.take_add]
section
variable {a:Array Keyed}{b:Array Keyed}{out:Array Keyed}{na:Nat}{nb:Nat}{k:Nat}
theorem MH.galA(T:TwoH R a.toList b.toList)(m:MH R all out.toList (a.toList.take na++b.toList.take (nb+1)))(i:b.toList[nb]?=some y)(l:na<=a.size)(c:Cut false R y a 0 na k):MH R all (out++(a.extract k na).reverse).toList (a.toList.take k++b.toList.take (nb+1))/\∀z∈a.toList.take k,R z<=R y:=by
 have g:∀z∈a.toList.take k,R z<=R y:=λz d=>by
  obtain⟨j,h,e⟩:=zl d;have:=c.2.1 j h;rw[xeg,zbs e] at this;exact this
 have up:∀z∈(a.toList.drop k).take (na-k),R y<=R z:=λz d=>by
  obtain⟨j,h,e⟩:=zl d;rw[xfo] at e;have:=c.2.2 (k+j) (by lia) (by lia);rw[xeg,zbs e] at this;exact xcg this
 refine⟨?_,g⟩;rw[xeb,xjx,zby];refine m.grow ?_ (by rw[xjy];exact(T.oa.drop k).take _) λv hv z d=>?_
 ·rw[xjy,zww a.toList c.1,xcm,xcm];exact xgx _ xic
 ·have d:=up z (xlo.mp d);rcases xce.mp hv with hv|hv
  ·exact xbc (g v hv) d
  ·obtain⟨j,h,e⟩:=zl hv;exact xbc (T.ob.at e i (by lia)) d
theorem MH.galB(T:TwoH R a.toList b.toList)(m:MH R all out.toList (a.toList.take (na+1)++b.toList.take nb))(i:a.toList[na]?=some x)(l:nb<=b.size)(c:Cut true R x b 0 nb k):MH R all (out++(b.extract k nb).reverse).toList (a.toList.take (na+1)++b.toList.take k)/\∀z∈b.toList.take k,R z<=R x:=by
 have g:∀z∈b.toList.take k,R z<=R x:=λz d=>by
  obtain⟨j,h,e⟩:=zl d;have:=c.2.1 j h;rw[xeg,zbs e] at this;exact xcg this
 have up:∀z∈(b.toList.drop k).take (nb-k),R x<=R z:=λz d=>by
  obtain⟨j,h,e⟩:=zl d;rw[xfo] at e;have:=c.2.2 (k+j) (by lia) (by lia);rw[xeg,zbs e] at this;exact this
 refine⟨?_,g⟩;rw[xeb,xjx,zby];refine m.grow ?_ (by rw[xjy];exact(T.ob.drop k).take _) λv hv z d=>?_
 ·rw[xjy,zww b.toList c.1,xcm]
 ·have d:=up z (xlo.mp d);rcases xce.mp hv with hv|hv
  ·obtain⟨j,h,e⟩:=zl hv;exact xbc (T.oa.at e i (by lia)) d
  ·exact xbc (g v hv) d
end
theorem zlp(a:Array Keyed)(n:Nat):(a.extract 0 n).toList=a.toList.take n:=by
 rw[zby,List.drop_zero,Nat.sub_zero]
theorem MH.done{a:Array Keyed}{b:Array Keyed}{c:Array Keyed}{e:Nat}{d:Nat}(T:TwoH R a.toList b.toList)(m:MH R (a.toList++b.toList) c.toList (a.toList.take e++b.toList.take d))(h:e=0\/d=0):Fin R a.toList b.toList (a.extract 0 e++b.extract 0 d++c.reverse):=by
 unfold Fin;rw[xeb,xeb,zlp,zlp,xjx];refine m.fin (.refl _) ?_;rcases h with rfl|rfl
 ·rw[xmo,List.nil_append];exact T.ob.take _
 ·rw[xmo,xei];exact T.oa.take _
theorem MH.firstB{a:Array Keyed}{b:Array Keyed}{c:Array Keyed}{f:Nat}{d:Nat}(T:TwoH R a.toList b.toList)(m:MH R (a.toList++b.toList) c.toList (a.toList.take f++b.toList.take d))(h:d=1):Fin R a.toList b.toList (b.extract 0 d++a.extract 0 f++c.reverse):=by
 unfold Fin;rw[xeb,xeb,zlp,zlp,xjx];refine m.fin xic (xgj.mpr ⟨T.ob.take _,T.oa.take _,λv i z g=>?_⟩);obtain⟨j,k,e⟩:=zl i;have:j=0:=by lia
 subst this;exact T.first v e z (xec g)
section
variable {out:Array Keyed}{na:Nat}{nb:Nat}
inductive H1 (R:Keyed->Nat) (a b:Array Keyed) (au:SortSt) (x:Nat):Option (Array Keyed)×Nat×Nat×Array Keyed×Nat->SortSt->Prop where
 |mk {na nb:Nat}{out:Array Keyed}{g:Nat}{st':SortSt}(sm:SmG au st') (m:MH R (a.toList++b.toList) out.toList (a.toList.take na++b.toList.take nb)) (a1:1<=na) (a2:na<=a.size) (b1:2<=nb) (b2:nb<=b.size) (hx:x+na+nb<a.size+b.size):H1 R a b au x (none,na,nb,out,g) st'
inductive H2 (R:Keyed->Nat) (a b:Array Keyed) (au:SortSt) (x:Nat):Option (Array Keyed)×Nat×Nat×Array Keyed×Nat×Nat->SortSt->Prop where
 |mk {na nb:Nat}{out:Array Keyed}{ac bc:Nat}{st':SortSt}(sm:SmG au st') (m:MH R (a.toList++b.toList) out.toList (a.toList.take na++b.toList.take nb)) (a1:1<=na) (a2:na<=a.size) (b1:2<=nb) (b2:nb<=b.size) (hx:na+nb<=x):H2 R a b au x (none,na,nb,out,ac,bc) st'
inductive H3 (R:Keyed->Nat) (a b:Array Keyed) (au:SortSt) (x y:Nat):Option (Array Keyed)×Nat×Nat×Array Keyed×Nat×Nat×Nat->SortSt->Prop where
 |mk {na nb:Nat}{out:Array Keyed}{g ac bc:Nat}{st':SortSt}(sm:SmG au st') (m:MH R (a.toList++b.toList) out.toList (a.toList.take na++b.toList.take nb)) (a1:1<=na) (a2:na<=a.size) (b1:2<=nb) (b2:nb<=b.size) (hx:y+na+nb<=x):H3 R a b au x y (none,na,nb,out,g,ac,bc) st'
end
section
variable {prog:Program}{w:World}{A:Around}{E:Value->Shared->Prop}{s:Shared}{κ:SortKind}{a₀:Array Keyed}{R:Keyed->Nat}{a:Array Keyed}{b:Array Keyed}{out:Array Keyed}{na:Nat}{nb:Nat}{k:Nat}{y:Keyed}{x:Keyed}
theorem zyj{au:SortSt}{Q:Array Keyed->SortSt->Prop}(O:Orc prog w A s κ a₀ R)(hk:kindOf au=κ)(ma:∀x∈a.toList,x∈a₀.toList)(mb:∀x∈b.toList,x∈a₀.toList)(T:TwoH R a.toList b.toList)(ha:1<=a.size)(hb:1<=b.size)
  (b8:∀x,a.toList[a.size-1]?=some x->∀y∈b.toList,R y<=R x)(h:∀r G,SmG au G->Fin R a.toList b.toList r->Q r G):wpS (model prog w) A E s (mergeHi' a b) Q au:=by
 have d:∀(i:Nat) (hi:i<a.size),a[i]?=some a[i]/\a.toList[i]?=some a[i]/\a[i]∈a₀.toList:=λi hi=>⟨getElem?_pos a i hi,by rw[xco];exact getElem?_pos a i hi,ma _ (by simp)⟩
 have o:∀(i:Nat) (hi:i<b.size),b[i]?=some b[i]/\b.toList[i]?=some b[i]/\b[i]∈a₀.toList:=λi hi=>⟨getElem?_pos b i hi,by rw[xco];exact getElem?_pos b i hi,mb _ (by simp)⟩
 have b9:∀n,n<=a.size->UpA R a 0 (0+n):=λn hn p q a1 a2 Y=>by
  have hq:q<a.size:=xbm Y (xbc (xdu (xeg n)) hn);have e1:=(d p (xdk a2 hq)).2.1;have e2:=(d q hq).2.1;rw[zbs e1,zbs e2];exact T.oa.at e1 e2 a2
 have c0:∀n,n<=b.size->UpA R b 0 (0+n):=λn hn p q a1 a2 Y=>by
  have hq:q<b.size:=xbm Y (xbc (xdu (xeg n)) hn);have e1:=(o p (xdk a2 hq)).2.1;have e2:=(o q hq).2.1;rw[zbs e1,zbs e2];exact T.ob.at e1 e2 a2
 obtain⟨x0,f0,f1⟩:∃x,a[a.size-1]?=some x/\a.toList[a.size-1]?=some x:=⟨_,(d (a.size-1) (xjc ha Nat.one_pos)).1,(d (a.size-1) (xjc ha Nat.one_pos)).2.1⟩
 have start:MH R (a.toList++b.toList) (#[x0]:Array Keyed).toList (a.toList.take (a.size-1)++b.toList.take b.size):=by
  have z:MH R (a.toList++b.toList) (#[]:Array Keyed).toList (a.toList.take (a.size-1+1)++b.toList.take b.size):=by
   refine⟨?_,List.Pairwise.nil,by simp⟩;rw[xht ha,xdv (by simp),xdv (by simp)];simp
  exact z.pushA T f1 λy hy=>b8 x0 f1 y (xec hy)
 refine xbp (xls (xii ⟨rfl,xbp (zmg f0 (zbwl (λc1=>?_) (λc2=>?_) λc1 c2=>?_))⟩))
 ·exact xbs (h _ _ (.refl _) (start.done T (.inl (by simpa using c1))))
 ·exact xbs (h _ _ (.refl _) (start.firstB T (by simpa using c2)))
 simp only[xhp] at c1 c2;refine xbp (xiz ?_);refine xbp (xgf (xeh (I:=H1 R a b au) (Q:=Dn R a b au) ?_ ?_ (.mk (.refl _) start (by lia) (by lia) (by lia) (xbj _) (by lia))) ?_)
 ·rintro x c b0 x1 x2 @⟨na,nb,out,g,b0,a7,m,a1,a2,b1,b2,hx⟩;dsimp only;refine xbp (xgf (xeh (I:=λ_=>H2 R a b au (na+nb)) (Q:=λc G=>Dn R a b au c G\/H2 R a b au (na+nb) c G) ?_ ?_ (.mk a7 m a1 a2 b1 b2 (xbj _))) ?_)
  ·rintro x' c a9 _ _ @⟨na',C,out,ac,bc,a9,l,m,U,v,X,t,hp⟩;obtain⟨p,rfl⟩:∃p,na'=p+1:=⟨na'-1,(xht U).symm⟩
   obtain⟨q,rfl⟩:∃q,C=q+1:=⟨C-1,(xht (xdy X)).symm⟩
   dsimp only;have ea:=(d p v).1;have S:=(d p v).2.1;have b3:=(d p v).2.2;have eb:=(o q t).1;have P:=(o q t).2.1;have b4:=(o q t).2.2;refine w_el eb (w_el ea (zbki O (l.kind.trans hk) b4 b3 (λcw=>w_el ea ?_) λcw=>w_el eb ?_))
   ·skip
    have m2:=m.pushA T S λz hz=>by
     obtain⟨j,hj,e⟩:=zl hz;exact xbc (T.ob.at e P (xdb hj)) (xcg cw)
    refine w_if (λc5=>xbs (.inl (.mk l (m2.done T (.inl (eq_of_beq c5)))))) λc5=>?_
    rw[xhp] at c5;have Y:1<=p:=xmu c5;have a4:p<=a.size:=xdy v;have a5:p+(q+1)<=na+nb:=xbc (Nat.add_le_add_right (xlk p) _) hp;exact w_if (λ_=>xbs (.inr (.mk l m2 Y a4 X t a5))) λ_=>xbs (.mk l m2 Y a4 X t a5)
   ·skip
    have m2:=m.pushB T P λz hz=>by
     obtain⟨j,hj,e⟩:=zl hz;exact xbc (T.oa.at e S (xdb hj)) cw
    refine w_if (λc5=>xbs (.inl (.mk l (m2.firstB T (eq_of_beq c5))))) λc5=>?_
    rw[xhp] at c5;have Y:2<=q:=xdt (Nat.le_of_succ_le_succ X) (xdj c5);have a4:q<=b.size:=xdy t;have a5:p+1+q<=na+nb:=xdy hp;exact w_if (λ_=>xbs (.inr (.mk l m2 U v Y a4 a5))) λ_=>xbs (.mk l m2 U v Y a4 a5)
  ·exact λc a9 k=>.inr k
  ·rintro c a9 (⟨l,f⟩|@⟨na',C,out,ac,bc,a9,l,m,U,v,X,t,hp⟩)
   ·exact xbs (.mk l f)
   ·dsimp only;refine xbp (xls (xii ⟨rfl,?_⟩));refine xbp (xgf (xeh (I:=H3 R a b au (na+nb)) (Q:=λc G=>Dn R a b au c G\/H3 R a b au (na+nb) 1 c G) ?_ ?_ (.mk l m U v X t (by rw[xeg];exact hp))) ?_)
    ·rintro x' c a8 _ c4 @⟨na',C,out,g',ac,bc,a8,H,m,U,v,X,t,hp⟩;obtain⟨q,rfl⟩:∃q,C=q+1:=⟨C-1,(xht (xdy X)).symm⟩
     dsimp only;have eb:=(o q t).1;have P:=(o q t).2.1;have b4:=(o q t).2.2;generalize g'-1=U;generalize g'=y;revert U;revert y
     refine zbwk ?_;intro gg;refine xbp (zyg λc3 sg=>?_);have u:=H.trans sg;refine w_el eb (xbp (zgd O (u.kind.trans hk) b4 (λi hi=>⟨_,(d (0+i) (by lia)).1,(d (0+i) (by lia)).2.2⟩) (by lia) (b9 na' v) λk1 J=>?_));have m5:=(m.galA T P v J).1;have u5:=(m.galA T P v J).2;have b5:=J.1;dsimp only;refine zbwm (λc6=>?_) (λc6 c7=>?_) λhh=>?_
     ·have z:k1=na':=by lia
      subst z;rw[show out++(a.extract k1 k1).reverse=out by simp[xib]]
     ·exact xbs (.inl (.mk u (m5.done T (.inl (eq_of_beq c7)))))
     have g5:1<=k1:=by
      by_cases c6:na'-k1 > 0
      ·have:=hh c6;simp at this;lia
      ·lia
     have g6:k1<=a.size:=xbc b5 v;have c8:x'+k1+(q+1)<=na+nb:=by lia
     clear hh b5 J;generalize out++(a.extract k1 na').reverse=out5 at m5 ⊢;obtain⟨p,rfl⟩:∃p,k1=p+1:=⟨k1-1,(xht g5).symm⟩
     simp only[Nat.add_sub_cancel];have m6:=m5.pushB T P u5;have ea:=(d p g6).1;have S:=(d p g6).2.1;have b3:=(d p g6).2.2;refine w_el eb (w_if (λc9=>xbs (.inl (.mk u (m6.firstB T (eq_of_beq c9))))) λc9=>w_el ea ?_);rw[xhp] at c9;refine xbp (zgd O (u.kind.trans hk) b3 (λi hi=>⟨_,(o (0+i) (by lia)).1,(o (0+i) (by lia)).2.2⟩) (by lia) (c0 q (xdy t)) λk2 a0=>?_);have m7:=(m6.galB T S (xdy t) a0).1;have u7:=(m6.galB T S (xdy t) a0).2;have b7:=a0.1;dsimp only;refine zbkj (λd6=>?_) (λd6 d7=>?_) (λd6 d9=>?_) λhh=>?_
     ·have z2:k2=q:=by lia
      subst z2;simp only[xjs (xbc (xib _ _) (xbj _)),Array.reverse_empty,xmt]
     ·exact xbs (.inl (.mk u (m7.firstB T (eq_of_beq d7))))
     ·exact xbs (.inl (.mk u (m7.done T (.inr (eq_of_beq d9)))))
     have b6:2<=k2:=by
      by_cases d6:q-k2 > 0
      ·have:=hh d6;simp at this;lia
      ·lia
     have m8:=m7.pushA T S u7;refine w_el ea (w_if (λd8=>xbs (.inl (.mk u (m8.done T (.inl (eq_of_beq d8)))))) λd8=>?_);rw[xhp] at d8;have Y:1<=p:=xmu d8;have a4:p<=a.size:=xdy g6;have a5:k2<=b.size:=xbc b7 (xdy t);have a6:x'+1+p+k2<=na+nb:=by lia
     exact w_if (λ_=>xbs (.inr (.mk u m8 Y a4 b6 a5 (by lia)))) λ_=>xbs (.mk u m8 Y a4 b6 a5 a6)
    ·rintro c a8 ⟨H,m,U,v,X,t,hp⟩;exact .inr (.mk H m U v X t (by lia))
    ·rintro c a8 (⟨H,f⟩|@⟨na',C,out,g',ac,bc,a8,H,m,U,v,X,t,hp⟩)
     ·exact xbs (.mk H f)
     ·have h9:x+1+na'+C<a.size+b.size:=by lia
      exact xbp (zyg λc3 sg=>xbs (.mk (H.trans sg) m U v X t h9))
 ·rintro c b0 ⟨a7,m,a1,a2,b1,b2,hx⟩;lia
 ·rintro c b0 ⟨a7,f⟩;exact xbs (h _ b0 a7 f)
end
theorem zux:∀(l:List Keyed) (n b:Nat) (d:Array Keyed),b+n+l.length<=d.size->∀i,((l.zipIdx n).foldl (λa p=>a.setIfInBounds (b+p.2) p.1) d)[i]?=if b+n<=i/\i<b+n+l.length then l[i-(b+n)]? else d[i]?
 |[],n,b,d,h,i=>by
  rw[if_neg (by simp)]
  rfl
 |x::l,n,b,d,h,i=>by
  rw[List.zipIdx_cons,xgp];rw[xbt] at h;have e:b+(n+1)+l.length=b+n+(l.length+1):=Nat.succ_add_eq_add_succ (b+n) l.length;rw[zux l (n+1) b _ (by rw[Array.size_setIfInBounds];exact xbc (xdu e) h) i];rw[xbt];by_cases c:b+(n+1)<=i/\i<b+(n+1)+l.length
  ·rw[if_pos c,if_pos ⟨xdy c.1,xgz c.2 e⟩,show i-(b+n)=i-(b+(n+1))+1 from(xht (xgm c.1)).symm,xgk]
  ·rw[if_neg c];by_cases c2:i=b+n
   ·rw[if_pos ⟨xdu c2.symm,xdk (xdu c2) (xiw (Nat.succ_pos _))⟩,c2,xjq,xkz];exact xkb (xbm (xiw (Nat.succ_pos l.length)) h)
   ·rw[if_neg λz=>c ⟨xdt z.1 (xdj c2),xgz z.2 e.symm⟩];exact xlx (λz=>c2 z.symm)
theorem zbff{m b:Array Keyed}(h:off+m.size<=b.size):(m.toList.zipIdx.foldl (λa p=>a.setIfInBounds (off+p.2) p.1) b).toList=b.toList.take off++m.toList++b.toList.drop (off+m.size):=by
 apply xie;intro i;rw[xco,zux m.toList 0 off b (by simpa using h) i];simp only[xjr,xci];have d:(b.toList.take off).length=off:=by rw[xcq,xci];exact xej (xbc (xck _ _) h)
 by_cases c:off<=i/\i<off+m.size
 ·rw[if_pos c,xcm,xdm (xbc (xdu d) c.1),d,xby (by rw[xci];exact xek c.1 c.2)]
 ·rw[if_neg c];by_cases c2:i<off
  ·rw[xcm,xby (xgz c2 d.symm),List.getElem?_take,if_pos c2,xco]
  ·have e:off+m.size<=i:=xcr λz=>c ⟨xcr c2,z⟩
   rw[xdm (by rw[xbk,d,xci];exact e),xfo];simp only[xbk,d,xci];rw[xct e,xco]
theorem zbcm(up:UpA R xs i j)(d:j<=xs.size):Ord R (xs.extract i j).toList:=by
 rw[zby];refine xfx.mpr λp q c b a=>?_
 simp only[xcq,xgb,xci] at c b;simp only[xng,xnf,Array.getElem_toList];have:=up (i+p) (i+q) (xck _ _) (xcv (xcg a) i) (xen (xbm b (xib _ _)));rw[zee (getElem?_pos xs (i+p) (xen (xbm c (xgr _ _)))),zee (getElem?_pos xs (i+q) (xen (xbm b (xgr _ _))))] at this;exact this
theorem zke{a:Array Keyed}(h:x∈(a.extract i j).toList):∃q,i<=q/\q<j/\a[q]?=some x:=by
 rw[zby] at h;obtain⟨q,b,e⟩:=zl h;rw[xfo,xco] at e;exact⟨i+q,xck _ _,xen b,e⟩
theorem zbom{a:Array Keyed}(h:q<j-i):(a.extract i j).toList[q]?=a[i+q]?:=by
 rw[zby,List.getElem?_take,if_pos h,xfo,xco]
structure Mg (R:Keyed->Nat) (xs ys:Array Keyed) (lo hi:Nat):Prop where
 perm:ys.Perm xs
 out:Out ys xs lo hi
 up:UpA R ys lo hi
theorem zbaa{d:Array Keyed}{b sb ea k nb':Nat}(a5:sb<=ea)(t:ea<=d.size)(x:b+k<sb)(n:sb+nb'<=ea)(a6:1<=nb')(A:UpA R d b sb)(I:UpA R d sb ea)
  (e0:d[sb]?=some y0)(el:d[sb-1]?=some xl)(U:Cut false R y0 d b (sb-b) k)(c2:Cut true R xl d sb (ea-sb) nb')
  (f:Fin R (d.extract (b+k) sb).toList (d.extract sb (sb+nb')).toList m):Mg R d (m.toList.zipIdx.foldl (λa p=>a.setIfInBounds (b+k+p.2) p.1) d) b ea:=by
 have lx:(d.extract (b+k) sb).toList.length=sb-(b+k):=by rw[zby,xcq,xgb,xci];exact xej (xgi (xbc a5 t) _)
 have ly:(d.extract sb (sb+nb')).toList.length=nb':=by rw[zby,xcq,xgb,xci,xdo];exact xej (xfj (xbc n t))
 have Q:m.size=sb+nb'-(b+k):=by
  have:=f.1.length_eq;rw[xbk,lx,ly,xci] at this;exact this.trans (Nat.sub_add_comm (xcg x)).symm
 have he:b+k+m.size=sb+nb':=by rw[Q];exact xct (xbc (xcg x) (xck _ _))
 have E:b+k+m.size<=d.size:=by rw[he];exact xbc n t
 have J:=xdw x;have s1:sb-1<sb:=xjc (xle x) Nat.one_pos;have g:∀i,(m.toList.zipIdx.foldl (λa p=>a.setIfInBounds (b+k+p.2) p.1) d)[i]?=if b+k<=i/\i<sb+nb' then m.toList[i-(b+k)]? else d[i]?:=λi=>by
  have:=zux m.toList 0 (b+k) d (by simpa using E) i;simp only[xjr,xci] at this;rw[he] at this;exact this
 have C:∀v∈m.toList,R y0<=R v/\R v<=R xl:=λv hv=>by
  rcases xce.mp (f.1.mem_iff.mp hv) with hv|hv
  ·obtain⟨q,w,G,e⟩:=zke hv;have q0:=xbc (xck _ _) w;have o:=U.2.2 (q-b) (xfj w) (xfc q0 G);rw[xct q0,zee e] at o;have s:=A q (sb-1) q0 (xdw G) s1;rw[zee e,zee el] at s;have S:R y0<R v:=o;exact⟨xcg S,s⟩
  ·obtain⟨q,w,G,e⟩:=zke hv;have o:=I sb q (xbj _) w (xbm G n);rw[zee e,zee e0] at o;have s:=c2.2.1 (q-sb) (xek w G);rw[xct w,zee e] at s;have a4:R v<R xl:=s;exact⟨o,xcg a4⟩
 have a0:∀i,b<=i->i<b+k->kA R d i<=R y0:=λi r l=>by
  have:=U.2.1 (i-b) (xek r l);rw[xct r] at this;exact this
 have H:∀i,sb+nb'<=i->i<ea->R xl<=kA R d i:=λi r l=>by
  have i0:=xbc (xck _ _) r;have:=c2.2.2 (i-sb) (xfj r) (xfc i0 l);rw[xct i0] at this;exact this
 have kk:∀i,kA R (m.toList.zipIdx.foldl (λa p=>a.setIfInBounds (b+k+p.2) p.1) d) i=if b+k<=i/\i<sb+nb' then kA R m (i-(b+k)) else kA R d i:=λi=>by
  have:=g i;split
  ·rename_i c;rw[if_pos c,xco] at this;exact zds this
  ·rename_i c;rw[if_neg c] at this;exact zds this
 have mm:∀i,i<m.size->∃v,m.toList[i]?=some v/\v∈m.toList:=λi X=>⟨m.toList[i]'(by simpa using X),xbe _,xdq _⟩
 refine⟨?_,λi X=>?_,λi j r l Y=>?_⟩
 ·refine xfr.mpr ?_;rw[zbff E,he];have split:d.toList=d.toList.take (b+k)++((d.extract (b+k) sb).toList++(d.extract sb (sb+nb')).toList)++d.toList.drop (sb+nb'):=by
   rw[zby,zby];rw[xdo]
   conv=>lhs;rw[←xdg (b+k) d.toList,←xdg (sb-(b+k)) (d.toList.drop (b+k)),xmn,xct (xcg x),←xdg nb' (d.toList.drop sb),xmn]
   simp only[xcm]
  conv=>rhs;rw[split]
  exact xjh _ (xgx _ f.1)
 ·rw[g i,if_neg λz=>X.elim (λh=>xff (xbc (xck b k) z.1) h) λh=>xff h (xbm z.2 n)]
 ·rw[kk,kk];by_cases ci:b+k<=i/\i<sb+nb'
  ·rw[if_pos ci];obtain⟨v,ev,mv⟩:=mm (i-(b+k)) (by rw[Q];exact xfc ci.1 ci.2);rw[zbs ev];by_cases cj:b+k<=j/\j<sb+nb'
   ·rw[if_pos cj];obtain⟨u,P,mu⟩:=mm (j-(b+k)) (by rw[Q];exact xfc cj.1 cj.2);rw[zbs P];exact f.2.at ev P (xgi l _)
   ·rw[if_neg cj];exact xbc (C v mv).2 (H j (xcr λz=>cj ⟨xbc ci.1 l,z⟩) Y)
  ·rw[if_neg ci];by_cases ci2:i<b+k
   ·have o:=a0 i r ci2;by_cases cj:b+k<=j/\j<sb+nb'
    ·rw[if_pos cj];obtain⟨u,P,mu⟩:=mm (j-(b+k)) (by rw[Q];exact xfc cj.1 cj.2);rw[zbs P];exact xbc o (C u mu).1
    ·rw[if_neg cj];by_cases cj2:j<b+k
     ·exact A i j r l (xjo cj2 x)
     ·have s:=H j (xcr λz=>cj ⟨xcr cj2,z⟩) Y;have h3:R y0<=R xl:=by
       have s0:=xbc (xck _ _) J;have h4:=U.2.2 (sb-1-b) (xfj J) (xfc s0 s1);rw[xct s0,zee el] at h4;exact xcg h4
      exact xbc o (xbc h3 s)
   ·have y:sb+nb'<=i:=xcr λz=>ci ⟨xcr ci2,z⟩
    rw[if_neg λz=>xff (xbc y l) z.2];exact I i j (xbc (xck _ _) y) l Y
section
variable {prog:Program}{w:World}{A:Around}{E:Value->Shared->Prop}{s:Shared}
theorem zbxj{x au:SortSt}{Q:Unit->SortSt->Prop}(h:Q () x):wpS (model prog w) A E s (set x:StateT SortSt Sem PUnit) Q au:=by
 unfold wpS;rw[StateT.run_set];exact xbg ⟨rfl,h⟩
end
section
variable {prog:Program}{w:World}{A:Around}{E:Value->Shared->Prop}{s:Shared}{κ:SortKind}{a₀:Array Keyed}{R:Keyed->Nat}
theorem zyk{i d S pw sb nb a9:Nat}{au:SortSt}{Q:Bool->SortSt->Prop}(O:Orc prog w A s κ a₀ R)(b:B κ a₀ au)(p1:(pendingOf au)[i]?=some (d,S,pw))(p2:(pendingOf au)[i+1]?=some (sb,nb,a9))(j:sb=d+S)(b3:1<=S)(a7:1<=nb)(hz:sb+nb<=a₀.size)
  (o:UpA R (arrOf au) d sb)(t:UpA R (arrOf au) sb (sb+nb))
  (h:∀C,B κ a₀ C->pendingOf C=((pendingOf au).setIfInBounds i (d,S+nb,pw)).eraseIdxIfInBounds (i+1)->Out (arrOf C) (arrOf au) d (sb+nb)->UpA R (arrOf C) d (sb+nb)->Q true C):wpS (model prog w) A E s (mergeAt' i) Q au:=by
 have a5:=b.size;have bs:sb<a₀.size:=xbm (xiw a7) hz;refine xbp (xiz ?_);dsimp only;have P:(sortPriv% PySem.Builtin.SortState.pending) au=pendingOf au:=rfl;rw[P,p1,p2];dsimp only;refine xbp (zbxj ?_);obtain⟨y0,e0,b2⟩:=b.mem (i:=sb) bs;have v:∀q,q<a₀.size->∃x,(arrOf au)[q]?=some x/\x∈a₀.toList:=λq hq=>b.mem hq
 refine xbp (zmg e0 ?_);refine xbp (zgd O b.kind b2 (λq hq=>v (d+q) (xjo (xgz (xex hq d) j.symm) bs)) b3 (by rw[←j];exact o) λk c1=>?_);dsimp only;have hk:=c1.1;have b5:Cut false R y0 (arrOf au) d (sb-d) k:=by rw[show sb-d=S from by rw[j,xdo]];exact c1
 by_cases d1:S-k=0
 ·rw[if_pos (by simpa using d1)];refine xbs (h _ ⟨b.perm,b.kind,b.failed⟩ rfl (Out.refl _ _ _) λp q G r I=>?_);by_cases z1:q<sb
  ·exact o p q G r z1
  ·by_cases z2:p<sb
   ·have h1:=c1.2.1 (p-d) (xbm (xek G (xgz z2 j)) (Nat.le_of_sub_eq_zero d1));rw[xct G] at h1;have h2:=t sb q (xbj _) (xcr z1) I;rw[zee e0] at h2;exact xbc h1 h2
   ·exact t p q (xcr z2) r I
 ·rw[if_neg (by simpa using d1)];have l:d+k<sb:=xgz (xex (xgs λz=>d1 (Nat.sub_eq_zero_of_le z)) d) j.symm;have s1:sb-1<sb:=xjc (xle l) Nat.one_pos;obtain⟨xl,el,b4⟩:=v (sb-1) (xjo s1 bs);have b1:(arrOf au)[d+k+(S-k)-1]?=some xl:=by rw[xmy,xct hk,←j];exact el
  refine xbp (zmg b1 ?_);refine xbp (zgd O b.kind b4 (λq hq=>v (sb+q) (xbm (xex hq sb) hz)) (xjc a7 Nat.one_pos) t λnb' c2=>?_);dsimp only;have a8:=c2.1;have b0:Cut true R xl (arrOf au) sb (sb+nb-sb) nb':=by rw[xdo];exact c2
  by_cases d2:nb'=0
  ·rw[if_pos (by simpa using d2)];refine xbs (h _ ⟨b.perm,b.kind,b.failed⟩ rfl (Out.refl _ _ _) λp q G r I=>?_);subst d2;by_cases z1:q<sb
   ·exact o p q G r z1
   ·by_cases z2:p<sb
    ·have h1:=o p (sb-1) G (xdw z2) s1;rw[zee el] at h1;have h2:=c2.2.2 (q-sb) (xes _) (xek (xcr z1) I);rw[xct (xcr z1)] at h2;exact xbc h1 h2
    ·exact t p q (xcr z2) r I
  ·rw[if_neg (by simpa using d2)];have H:1<=nb':=xmu d2;have a4:sb<=(arrOf au).size:=by rw[a5];exact xcg bs
   have X:sb+nb<=(arrOf au).size:=by rw[a5];exact hz
   have u:sb+nb'<=sb+nb:=xcv a8 sb;have oa:Ord R ((arrOf au).extract (d+k) sb).toList:=zbcm (λp q G r I=>o p q (xbc (xck _ _) G) r I) a4;have ob:Ord R ((arrOf au).extract sb (sb+nb')).toList:=zbcm (λp q G r I=>t p q G r (xbm I u)) (xbc u X);have ma:∀x∈((arrOf au).extract (d+k) sb).toList,x∈a₀.toList:=λx n=>by
    obtain⟨q,P,q2,e⟩:=zke n;obtain⟨x',e',m'⟩:=v q (xjo q2 bs);rw[e] at e';cases e';exact m'
   have mb:∀x∈((arrOf au).extract sb (sb+nb')).toList,x∈a₀.toList:=λx n=>by
    obtain⟨q,P,q2,e⟩:=zke n;obtain⟨x',e',m'⟩:=v q (xbm q2 (xbc u hz));rw[e] at e';cases e';exact m'
   have sx:((arrOf au).extract (d+k) sb).size=sb-(d+k):=by rw[Array.size_extract,xej a4]
   have sy:((arrOf au).extract sb (sb+nb')).size=nb':=by rw[Array.size_extract,xej (xbc u X),xdo]
   have a0:∀y,((arrOf au).extract sb (sb+nb')).toList[0]?=some y->∀x∈((arrOf au).extract (d+k) sb).toList,R y<=R x:=λy hy x n=>by
    rw[zbom (by rw[xdo];exact H),xjr,e0] at hy;cases hy;obtain⟨q,P,q2,e⟩:=zke n;have q0:=xbc (xck _ _) P;have:=c1.2.2 (q-d) (xfj P) (xek q0 (xgz q2 j));rw[xct q0,zee e] at this;exact xcg this
   have a6:∀x,((arrOf au).extract (d+k) sb).toList[sb-(d+k)-1]?=some x->∀y∈((arrOf au).extract sb (sb+nb')).toList,R y<=R x:=λx n y hy=>by
    rw[zbom (xjc (xgm l) Nat.one_pos),show d+k+(sb-(d+k)-1)=sb-1 from by rw[←Nat.add_sub_assoc (xgm l),xct (xcg l)],el] at n;cases n;obtain⟨q,P,q2,e⟩:=zke hy;have:=c2.2.1 (q-sb) (xek P q2);rw[xct P,zee e] at this;exact xcg this
   have U:∀m g,SmG au g\/True->Fin R ((arrOf au).extract (d+k) sb).toList ((arrOf au).extract sb (sb+nb')).toList m->Mg R (arrOf au) (m.toList.zipIdx.foldl (λa p=>a.setIfInBounds (d+k+p.2) p.1) (arrOf au)) d (sb+nb):=λm _ _ f=>
    zbaa (xck _ _) X l u H o t e0 el b5 b0 f
   by_cases d3:S-k<=nb'
   ·rw[if_pos d3];refine xbp (zyi O b.kind ma mb ⟨oa,ob,λx n=>a6 x (by rw[xci,sx] at n;exact n)⟩ (by show 1<=((arrOf au).extract (d+k) sb).size;rw[sx];exact xgm l) (by show 1<=((arrOf au).extract sb (sb+nb')).size;rw[sy];exact H) a0 λm g J f=>?_);have Y:=U m g (.inr trivial) f;refine xbp (xhq (xbp (xiz ?_)));have r:arrOf g=arrOf au:=J.arr;have f2:failedOf g=none:=J.failed.trans b.failed;refine xbs (?_:Q ((failedOf g).isNone) (setArr g (m.toList.zipIdx.foldl (λa p=>a.setIfInBounds (d+k+p.2) p.1) (arrOf g))));rw[f2,r];exact h _ ⟨Y.perm.trans b.perm,J.kind.trans b.kind,f2⟩ J.pend Y.out Y.up
   ·rw[if_neg d3];refine xbp (zyj O b.kind ma mb ⟨oa,ob,a0⟩ (by show 1<=((arrOf au).extract (d+k) sb).size;rw[sx];exact xgm l) (by show 1<=((arrOf au).extract sb (sb+nb')).size;rw[sy];exact H) (λx n=>a6 x (by rw[sx] at n;exact n)) λm g J f=>?_);have Y:=U m g (.inr trivial) f;refine xbp (xhq (xbp (xiz ?_)));have r:arrOf g=arrOf au:=J.arr;have f2:failedOf g=none:=J.failed.trans b.failed;refine xbs (?_:Q ((failedOf g).isNone) (setArr g (m.toList.zipIdx.foldl (λa p=>a.setIfInBounds (d+k+p.2) p.1) (arrOf g))));rw[f2,r];exact h _ ⟨Y.perm.trans b.perm,J.kind.trans b.kind,f2⟩ J.pend Y.out Y.up
end
def Segs(R:Keyed->Nat) (a:Array Keyed):Nat->List (Nat×Nat×Nat)->Nat->Prop
 |s,[],e=>s=e
 |s,p::r,e=>p.1=s/\1<=p.2.1/\UpA R a s (s+p.2.1)/\Segs R a (s+p.2.1) r e
theorem Segs.le:∀{l:List (Nat×Nat×Nat)}{s e:Nat},Segs R xs s l e->s+l.length<=e
 |[],s,e,h=>by cases h;simp
 |p::r,s,e,h=>by
  have:=Segs.le h.2.2.2;have:=h.2.1;simp;lia
theorem Segs.append:∀{l m:List (Nat×Nat×Nat)}{s e:Nat},Segs R xs s (l++m) e↔∃k,Segs R xs s l k/\Segs R xs k m e
 |[],m,s,e=>⟨λh=>⟨s,rfl,h⟩,λ⟨k,b,a⟩=>by cases b;exact a⟩
 |p::r,m,s,e=>by
  constructor
  ·rintro⟨b,a,f,c⟩;obtain⟨k,g,d⟩:=Segs.append.mp c;exact⟨k,⟨b,a,f,g⟩,d⟩
  ·rintro⟨k,⟨b,a,f,c⟩,d⟩;exact⟨b,a,f,Segs.append.mpr ⟨k,c,d⟩⟩
theorem UpA.same(h:UpA R xs a b)(e:∀i,a<=i->i<b->ys[i]?=xs[i]?):UpA R ys a b:=λi j f c d=>by
 rw[zds (e i f (xdk c d)),zds (e j (xbc f c) d)];exact h i j f c d
theorem Segs.same:∀{l:List (Nat×Nat×Nat)}{s e:Nat},Segs R xs s l e->(∀i,s<=i->i<e->ys[i]?=xs[i]?)->Segs R ys s l e
 |[],s,e,h,_=>h
 |p::r,s,e,h,k=>by
  have:=Segs.le h.2.2.2;exact⟨h.1,h.2.1,h.2.2.1.same λi b a=>k i b (xbm a (xbc (xck _ _) this)),Segs.same h.2.2.2 λi b a=>k i (xbc (xck _ _) b) a⟩
theorem Segs.power:∀{l m:List (Nat×Nat×Nat)},l.map (λp=>(p.1,p.2.1))=m.map (λp=>(p.1,p.2.1))->Segs R xs s l e->Segs R xs s m e:=by
 intro l
 induction l generalizing s with
 |nil=>intro m h k;cases m with
  |nil=>exact k
  |cons=>cases h
 |cons p r ih=>intro m h k;cases m with
  |nil=>cases h
  |cons q t=>
   rw[xbr,xbr] at h;obtain⟨i,d⟩:=List.cons.inj h;obtain⟨j,f⟩:=Prod.mk.inj i;obtain⟨g,c,a,b⟩:=k;rw[f] at c a b;exact⟨j.symm.trans g,c,a,ih d b⟩
theorem zbgp{l:List (Nat×Nat×Nat)}(h:i+1<l.length):∃a p q b,l=a++p::q::b/\a.length=i:=by
 refine⟨l.take i,l[i],l[i+1],l.drop (i+2),?_,by rw[xcq];exact xej (xcg (xfs h))⟩
 conv=>lhs;rw[←xdg i l,xdh (xfs h),xdh h]
section
variable {prog:Program}{w:World}{A:Around}{E:Value->Shared->Prop}{s:Shared}{κ:SortKind}{a₀:Array Keyed}{R:Keyed->Nat}
theorem w_at{i e:Nat}{au:SortSt}{Q:Bool->SortSt->Prop}(O:Orc prog w A s κ a₀ R)(b:B κ a₀ au)(C:Segs R (arrOf au) 0 (pendingOf au).toList e)(he:e<=a₀.size)(hi:i+1<(pendingOf au).size)
  (h:∀a,B κ a₀ a->Segs R (arrOf a) 0 (pendingOf a).toList e->(pendingOf a).size+1=(pendingOf au).size->(∀k,e<=k->(arrOf a)[k]?=(arrOf au)[k]?)->Q true a):wpS (model prog w) A E s (mergeAt' i) Q au:=by
 obtain⟨t,p,q,post,n,g⟩:=zbgp (l:=(pendingOf au).toList) (i:=i) (by simpa using hi);obtain⟨f,m,J⟩:=p;obtain⟨sb,d,r⟩:=q;rw[n] at C;obtain⟨k,P,S⟩:=Segs.append.mp C;obtain⟨y,v,x,o,G,I,u⟩:=S;dsimp only at y v x o G I u;subst y;have l7:=Segs.le u;have l1:=Segs.le P;have p1:(pendingOf au)[i]?=some (f,m,J):=by rw[←xco,n,xdm (xdu g),g,xjq];rfl
 have p2:(pendingOf au)[i+1]?=some (sb,d,r):=by rw[←xco,n,xdm (xbc (xdu g) (xck i 1)),g,xdo];rfl
 refine zyk O b p1 p2 o v G (by lia) (by rw[o];exact x) (by rw[o];exact I) λa X Y ou up=>?_
 have z:(pendingOf a).toList=t++(f,m+d,J)::post:=by
  rw[Y];rw[Array.toList_eraseIdxIfInBounds,Array.toList_setIfInBounds,n];rw[List.set_append_right _ _ (xdu g),g,xjq,List.set_cons_zero,List.eraseIdx_append_of_length_le (xbc (xdu g) (xck i 1)),g,xdo]
  rfl
 have c:∀j,j<f\/sb+d<=j->(arrOf a)[j]?=(arrOf au)[j]?:=ou
 refine h a X ?_ ?_ λj hj=>c j (.inr (by lia))
 ·rw[z];refine Segs.append.mpr ⟨f,P.same λj a1 H=>c j (.inl H),rfl,by show 1<=m+d;lia,?_,?_⟩
  ·show UpA R (arrOf a) f (f+(m+d));rw[show f+(m+d)=sb+d by lia];exact up
  ·show Segs R (arrOf a) (f+(m+d)) post e;rw[show f+(m+d)=f+m+d by lia];exact u.same λj a1 H=>c j (.inr (by lia))
 ·have U:(pendingOf a).size=(pendingOf a).toList.length:=by simp
  have e2:(pendingOf au).size=(pendingOf au).toList.length:=by simp
  rw[U,e2,z,n];simp only[xbk,xbt];lia
end
theorem zbtp [Decidable c] (d:a+1<n)(e:b+1<n):(if c then a else b)+1<n:=by split<;>assumption
theorem zbcz(h:∀x,g (f x)=g x):∀(l:List (Nat×Nat×Nat)) (i:Nat),(l.modify i f).map g=l.map g
 |[],i=>by simp
 |x::l,0=>by simp[h]
 |x::l,i+1=>by simp[zbcz h l i]
theorem Segs.mod(h:Segs R xs s l e)(i c:Nat):Segs R xs s (l.modify i λx=>(x.1,x.2.1,c)) e:=
 h.power (zbcz (g:=λp=>(p.1,p.2.1)) (f:=λx=>(x.1,x.2.1,c)) (λ_=>rfl) l i).symm
section
variable {prog:Program}{w:World}{A:Around}{E:Value->Shared->Prop}{s:Shared}{κ:SortKind}{a₀:Array Keyed}{R:Keyed->Nat}
theorem zbrf{au:SortSt}{Q:Unit->SortSt->Prop}(O:Orc prog w A s κ a₀ R)(b:B κ a₀ au)(pe:pendingOf au=#[])(h2:2<=a₀.size)
  (h:∀a,B κ a₀ a->UpA R (arrOf a) 0 a₀.size->Q () a):wpS (model prog w) A E s sortRuns' Q au:=by
 have hz:=b.size;rw[sortRuns'_eq];refine xbp (xiz ?_);dsimp only;rw[hz]
 refine xbp (xgf (xeh (I:=λx c a=>∃lo,c=(none,lo)/\B κ a₀ a/\Segs R (arrOf a) 0 (pendingOf a).toList lo/\lo<=a₀.size/\x<=lo)
  (Q:=λc a=>c=(none,a₀.size)/\B κ a₀ a/\Segs R (arrOf a) 0 (pendingOf a).toList a₀.size) ?_ ?_ ⟨0,rfl,b,by rw[pe];rfl,by lia,by lia⟩) ?_)
 ·rintro x c X x1 x2 ⟨lo,rfl,J,q,G,hx⟩;dsimp only;by_cases c1:lo ≥ a₀.size
  ·rw[if_pos c1];have:lo=a₀.size:=by lia
   subst this;exact xbs ⟨rfl,J,q⟩
  rw[if_neg c1];refine xbp (zbkk O J (by lia) (by lia) λm g m1 m2 z Y P=>?_);dsimp only;have e:Segs R (arrOf g) 0 (pendingOf g).toList lo:=by
   rw[Y.pend];exact q.same λi S U=>Y.out i (.inl U)
  by_cases c2:m<minRun' a₀.size a₀.size 0
  ·rw[if_pos c2];refine xbp (xls (xii ⟨rfl,?_⟩));refine xbp (zbxk O z (by lia) m1 (by lia) P λk y H o=>?_);have l:Segs R (arrOf k) 0 (pendingOf k).toList lo:=by
    rw[H.pend];exact e.same λi S U=>H.out i (.inl U)
   have t:1<=min (a₀.size-lo) (minRun' a₀.size a₀.size 0):=by lia
   have v:lo+min (a₀.size-lo) (minRun' a₀.size a₀.size 0)<=a₀.size:=by lia
   simp only[Bool.not_true,xds,xfa];generalize min (a₀.size-lo) (minRun' a₀.size a₀.size 0)=n at o t v H ⊢;refine xbp (xiz ?_);cases hb:(pendingOf k).back? with
   |none=>
    dsimp only;refine xbp (xhq (xbs ⟨lo+n,rfl,⟨y.perm,y.kind,y.failed⟩,?_,v,by lia⟩));show Segs R (arrOf k) 0 ((pendingOf k).push (lo,n,0)).toList (lo+n);rw[xfg];exact Segs.append.mpr ⟨lo,l,rfl,t,o,rfl⟩
   |some p=>
    obtain⟨s1,n1,p1⟩:=p;dsimp only;refine xbp (xgf (xeh (I:=λ_ c a=>c=(none,())/\B κ a₀ a/\Segs R (arrOf a) 0 (pendingOf a).toList lo/\UpA R (arrOf a) lo (lo+n)) (Q:=λc a=>c=(none,())/\B κ a₀ a/\Segs R (arrOf a) 0 (pendingOf a).toList lo/\UpA R (arrOf a) lo (lo+n)) ?_ (λ_ _ hh=>hh) ⟨rfl,y,l,o⟩) ?_)
    ·rintro x' c d _ _ ⟨rfl,u,f,j⟩;refine xbp (xiz ?_);by_cases hs:(pendingOf d).size > 1
     ·rw[if_pos hs,getElem?_pos (pendingOf d) ((pendingOf d).size-2) (by lia)];obtain⟨s2,n2,p2⟩:=(pendingOf d)[(pendingOf d).size-2]'(by lia);dsimp only;split
      ·exact xbs ⟨rfl,u,f,j⟩
      ·refine xbp (w_at O u f G (by lia) λa3 b5 C _ k5=>?_);exact xbs ⟨rfl,b5,C,j.same λi S U=>k5 i S⟩
     ·rw[if_neg hs];exact xbs ⟨rfl,u,f,j⟩
    ·rintro c d ⟨rfl,u,f,j⟩;dsimp only;refine xbp (xhq (xbp (xhq (xbs ⟨lo+n,rfl,⟨u.perm,u.kind,u.failed⟩,?_,v,by lia⟩))));refine(?_:Segs R (arrOf d) 0 (((pendingOf d).modify ((pendingOf d).size-1) λx=>(x.1,x.2.1,_)).push (lo,n,0)).toList (lo+n));rw[xfg,Array.toList_modify];exact Segs.append.mpr ⟨lo,f.mod _ _,rfl,t,j,rfl⟩
  ·rw[if_neg c2];have y:=z;have l:=e;have o:=P;have t:=m1;have v:lo+m<=a₀.size:=by lia
   generalize g=k at y l o ⊢;generalize m=n at o t v ⊢;refine xbp (xiz ?_);cases hb:(pendingOf k).back? with
   |none=>
    dsimp only;refine xbp (xhq (xbs ⟨lo+n,rfl,⟨y.perm,y.kind,y.failed⟩,?_,v,by lia⟩));show Segs R (arrOf k) 0 ((pendingOf k).push (lo,n,0)).toList (lo+n);rw[xfg];exact Segs.append.mpr ⟨lo,l,rfl,t,o,rfl⟩
   |some p=>
    obtain⟨s1,n1,p1⟩:=p;dsimp only;refine xbp (xgf (xeh (I:=λ_ c a=>c=(none,())/\B κ a₀ a/\Segs R (arrOf a) 0 (pendingOf a).toList lo/\UpA R (arrOf a) lo (lo+n)) (Q:=λc a=>c=(none,())/\B κ a₀ a/\Segs R (arrOf a) 0 (pendingOf a).toList lo/\UpA R (arrOf a) lo (lo+n)) ?_ (λ_ _ hh=>hh) ⟨rfl,y,l,o⟩) ?_)
    ·rintro x' c d _ _ ⟨rfl,u,f,j⟩;refine xbp (xiz ?_);by_cases hs:(pendingOf d).size > 1
     ·rw[if_pos hs,getElem?_pos (pendingOf d) ((pendingOf d).size-2) (by lia)];obtain⟨s2,n2,p2⟩:=(pendingOf d)[(pendingOf d).size-2]'(by lia);dsimp only;split
      ·exact xbs ⟨rfl,u,f,j⟩
      ·refine xbp (w_at O u f G (by lia) λa3 b5 C _ k5=>?_);exact xbs ⟨rfl,b5,C,j.same λi S U=>k5 i S⟩
     ·rw[if_neg hs];exact xbs ⟨rfl,u,f,j⟩
    ·rintro c d ⟨rfl,u,f,j⟩;dsimp only;refine xbp (xhq (xbp (xhq (xbs ⟨lo+n,rfl,⟨u.perm,u.kind,u.failed⟩,?_,v,by lia⟩))));refine(?_:Segs R (arrOf d) 0 (((pendingOf d).modify ((pendingOf d).size-1) λx=>(x.1,x.2.1,_)).push (lo,n,0)).toList (lo+n));rw[xfg,Array.toList_modify];exact Segs.append.mpr ⟨lo,f.mod _ _,rfl,t,j,rfl⟩
 ·rintro c X ⟨lo,rfl,J,q,G,hx⟩;have:lo=a₀.size:=by lia
  subst this;exact⟨rfl,J,q⟩
 ·rintro c X ⟨rfl,J,q⟩;dsimp only
  refine xbp (xgf (xeh (I:=λx c a=>c=(none,())/\B κ a₀ a/\Segs R (arrOf a) 0 (pendingOf a).toList a₀.size/\(pendingOf a).size+x<=a₀.size)
   (Q:=λc a=>c=(none,())/\B κ a₀ a/\Segs R (arrOf a) 0 (pendingOf a).toList a₀.size/\(pendingOf a).size<=1) ?_ ?_ ⟨rfl,J,q,by have:=q.le;simp at this;lia⟩) ?_)
  ·rintro x c g x1 x2 ⟨rfl,z,e,hp⟩;refine xbp (xiz ?_);by_cases c1:(pendingOf g).size<=1
   ·rw[if_pos c1];exact xbs ⟨rfl,z,e,c1⟩
   rw[if_neg c1];refine xbp (w_at O z e (xbj _) ?_ λk y l p3 _=>xbs ⟨rfl,y,l,by lia⟩);exact zbtp (by lia) (by lia)
  ·rintro c g ⟨rfl,z,e,hp⟩;exact⟨rfl,z,e,by lia⟩
  ·rintro c g ⟨rfl,z,e,hp⟩;refine xbs (h g z ?_);cases hl:(pendingOf g).toList with
   |nil=>rw[hl] at e;have:0=a₀.size:=e;lia
   |cons p r=>
    have:r=[]:=by
     have e2:(pendingOf g).size=(pendingOf g).toList.length:=by simp
     rw[e2,hl,xbt] at hp;exact xgl.mp (by lia)
    subst this;rw[hl] at e;obtain⟨_,_,g3,g4⟩:=e;have a0:0+p.2.1=a₀.size:=g4;rw[a0] at g3;exact g3
end
end TS
namespace Srt
open PySem.W PyProof.Rows
theorem zsl{α β:Type}(f:α->β):∀{l g:List β},l.Perm g->∀m:List α,g=m.map f->∃p:List α,p.Perm m/\l=p.map f:=by
 intro l g h
 induction h with
 |nil=>exact λm e=>⟨[],by rw[List.map_eq_nil_iff.mp e.symm],rfl⟩
 |cons x _ ih=>
  intro m e;cases m with
  |nil=>cases e
  |cons y m=>
   rw[xbr] at e;injection e with d c
   obtain⟨p,i,j⟩:=ih m c;exact⟨y::p,i.cons y,by rw[xbr,←j,d]⟩
 |swap x y l=>
  intro m e
  match m,e with
  |a::b::m,e=>
   rw[xbr,xbr] at e;injection e with d c
   injection c with c k
   exact⟨b::a::m,.swap _ _ _,by rw[xbr,xbr,d,c,k]⟩
 |trans _ _ ih1 ih2=>
  intro m e;obtain⟨p,i,j⟩:=ih2 m e;obtain⟨q,n,o⟩:=ih1 p j;exact⟨q,n.trans i,o⟩
noncomputable def Coh(r:Nat->Nat) (a:List Value):Prop:=∀i j,i<a.length->j<a.length->a.getD i Value.none=a.getD j Value.none->r i=r j
open Classical in
noncomputable def rankV(r:Nat->Nat) (a:List Value) (x:Keyed):Nat:=if h:∃i,i<a.length/\a.getD i Value.none=x.1 then r h.choose else 0
theorem zok(a:Coh r xs) (b:i<xs.length)(e:xs.getD i Value.none=x.1):rankV r xs x=r i:=by
 have h:∃i,i<xs.length/\xs.getD i Value.none=x.1:=⟨i,b,e⟩
 unfold rankV;rw[dif_pos h];exact a _ _ h.choose_spec.1 b (h.choose_spec.2.trans e.symm)
theorem ztk(a:List Value):(a.toArray.zip a.toArray).toList=(List.range a.length).map λi=>((a.getD i Value.none,a.getD i Value.none):Keyed):=by
 rw[Array.toList_zip];apply xlm
 ·simp
 ·intro i d c;have b:i<a.length:=by simpa using c
  simp[xbi,b]
theorem zbgo{xs:List Value}(J:2<=xs.length)(f:Coh r xs)
  (s:∀i j C,i<xs.length->j<xs.length->C (lt r i j) sg->kas_ask P w B κ xs i j C sg):
  wpAny (model P w) B ((sortRuns').run (SortSt.mk' κ (xs.toArray.zip xs.toArray) #[] 7 none)) (λy z=>∃p:Array Nat,(p.Perm (List.toArray (List.range xs.length))/\Up r p xs.length)/\(arrOf y.2).map (·.2)=outOf xs p/\failedOf y.2=none/\z=sg) E sg:=by
 have u:(xs.toArray.zip xs.toArray).size=xs.length:=by simp
 have O:TS.Orc P w B sg κ (xs.toArray.zip xs.toArray) (rankV r xs):=λx G y v C A=>by
  rw[ztk] at G v;obtain⟨i,o,rfl⟩:=xbq.mp G;obtain⟨j,g,rfl⟩:=xbq.mp v;rw[xbn] at o g;rw[zok f o rfl,zok f g rfl] at A;exact s i j C o g A
 have run:=TS.zbrf (E:=E) (Q:=λ_ y=>∃p:Array Nat,(p.Perm (List.toArray (List.range xs.length))/\Up r p xs.length)/\(arrOf y).map (·.2)=outOf xs p/\failedOf y=none) O (au:=SortSt.mk' κ (xs.toArray.zip xs.toArray) #[] 7 none) ⟨.refl _,rfl,rfl⟩ rfl (by rw[u];exact J) λy b up=>by
  obtain⟨l,t,H⟩:=zsl (λi=>((xs.getD i Value.none,xs.getD i Value.none):Keyed)) (xfr.mp b.perm) _ (ztk xs);have S:l.length=xs.length:=by rw[t.length_eq,xft]
  have m:∀k,(q:k<l.length)->l[k]<xs.length:=λk q=>xbn.mp (t.mem_iff.mp (xdq q))
  have h:∀k,k<xs.length->TS.kA (rankV r xs) (arrOf y) k=At r l.toArray k:=λk q=>by
   have d:k<l.length:=by lia
   have e:(arrOf y)[k]?=some (xs.getD l[k] Value.none,xs.getD l[k] Value.none):=by
    rw[←xco,H,xcl,xbe d]
    rfl
   rw[TS.zee e,zok f (m k d) rfl];unfold At;simp[d]
  refine⟨l.toArray,⟨?_,λi j n g=>?_⟩,?_,b.failed⟩
  ·exact xfr.mpr (by simpa using t)
  ·rw[←h i (by lia),←h j g];exact up i j (xes _) n (by rw[u];exact g)
  ·unfold outOf;apply Array.toList_inj.mp;rw[Array.toList_map,H,xcw]
   rfl
 exact xey run (λy z I=>by
  obtain⟨rfl,p,a,b,c⟩:=I
  exact⟨p,a,b,c,rfl⟩) λ_ _ x=>x
theorem zmk{au:Shared}(r:Nat->Nat) {a:List Value}{W:Fin->Shared->Prop}(h:au.heap.get? d=some (seqObj "list" a.toArray k))(b:a.length<=sizeLine)(o:Coh r a)
  (ask:2<=a.length->Answers P w B r a {au with heap:=midHeap au.heap d a})
  (f:∀p:Array Nat,p.Perm (List.toArray (List.range a.length))->Up r p a.length->W (.done (.ret .none)) {au with heap:=sortedHeap au.heap d a (outOf a p)}):
  wpAny (model P w) B (Builtin.«list.sort» ⟨[.ref d],[]⟩) W E au:=by
 obtain⟨c,v⟩:∃ c,(au.heap.update d (Obj.mapSeq λ_=>(#[]:Array Value))).get? d=some (seqObj "list" #[] c):=⟨_,get?_update_seq h λ_=>#[]⟩
 have g:(midHeap au.heap d a).get? d=some (seqObj "list" #[] c):=xbh _ (xbh _ v)
 have e:a.toArray.size=a.length:=xcc;rw[list_sort_plain];refine xba (listItems_at h rfl (xba (listUpdate_at h rfl (xba (seqEpoch_at v rfl (xba (wpAny_newTuple (xba (wpAny_newList (xet ?_) (xes _))) (b))))) (by rw[e];exact b) (xes _))));show wpAny (model P w) B _ W E {au with heap:=midHeap au.heap d a};dsimp only;by_cases two:a.toArray.size<2
 ·rw[if_pos two,if_pos two];rw[e] at two;have t:((arrOf (SortSt.mk' general' (a.toArray.zip a.toArray) #[] 7 none)).map (·.2))=outOf a (List.toArray (List.range a.length)):=zyv two
  refine xba (xbg (by
   rw[StateT.run_pure];refine xba (xbg (xba (seqEpoch_at g rfl (xba (listUpdate_at g rfl ?_ (xes _) ?_)))))
   ·rw[if_neg (by simp)];refine xbg ?_;rw[t];exact f _ (.refl _) λi j G H=>xdu (congrArg (At r _) (by lia))
   ·rw[t];refine xgn (xbc (xdu ?_) (b));unfold outOf
    simp))
 ·rw[if_neg two,if_neg two];rw[e] at two;obtain⟨κ,A,n⟩:=ask (by lia);refine xba (xey (A (λm z=>m=κ/\z={au with heap:=midHeap au.heap d a}) ⟨rfl,rfl⟩) (λm z l=>?_) λ_ _ x=>x.elim);obtain⟨rfl,rfl⟩:=l;have run:=zbgo (E:=E) (r:=r) (xs:=a) (κ:=m) (sg:={au with heap:=midHeap au.heap d a}) (by lia) o n;refine xba (xey run (λC z l=>?_) λ_ _ x=>x);obtain⟨⟨⟩,y⟩:=C;obtain⟨p,q,s,u,rfl⟩:=l;dsimp only at s u ⊢;refine xba (seqEpoch_at g rfl (xba (listUpdate_at g rfl ?_ (xes _) ?_)))
  ·rw[u,if_neg (by simp),s];exact xbg (f p q.1 q.2)
  ·rw[s];refine xgn (xbc (xdu ?_) (b));unfold outOf;rw[xcc,xbb,xci,q.1.size_eq];simp
theorem zof{B:Around}{au:Shared}(r:Nat->Nat) {a:List Value}{W:Value->Shared->Prop}(k:au.heap.IsList d a.toArray)(c:a.length<=sizeLine)(l:Coh r a)
  (ask:2<=a.length->∀g:Heap,(∀b ob,au.heap.get? b=some ob->g.get? b=some ob)->Answers P w B.in1.in1 r a {au with heap:=g})
  (j:∀p:Array Nat,p.Perm (List.toArray (List.range a.length))->Up r p a.length->W (.ref (au.heap.objs.size+1)) {au with heap:=sortedAll au.heap a (outOf a p)}):
  wpAny (model P w) B (call (.builtin "sorted") [.ref d]) W E au:=by
 let g0:Heap:=(au.heap.push (seqObj "list" #[] 0)).update au.heap.objs.size (Obj.mapSeq (·++a.toArray))
 have h:g0.objs.size=au.heap.objs.size+1:=(Heap.size_update ..).trans (size_push' _ _);have f:(g0.push (seqObj "list" a.toArray 0)).get? (au.heap.objs.size + 1)=some (seqObj "list" a.toArray 0):=by
  have z:=xcb g0 (o:=seqObj "list" a.toArray 0) rfl
  rw[h] at z;exact z
 have i:∀ b ob,au.heap.get? b=some ob->(g0.push (seqObj "list" a.toArray 0)).get? b=some ob:=λb ob e=>by
  have lt:=xbz e;exact xbh _ ((Heap.get?_update_ne _ _ _ _ (xch lt)).trans (xbh _ e))
 have n:argsOk "sorted" ⟨[.ref d],[]⟩:=args_sorted1 _
 refine Calls.call_function_entry kind_sorted plain_sorted entry_sorted n ?_;unfold Builtin.«sorted»;refine xba (m:=checkCount "sorted" 1 1 _) (xbg (xba (collect_list k (xba (wpAny_newList ?_ (c))) (c))))
 show wpAny _ _ _ _ _ { au with heap:=g0.push (seqObj "list" a.toArray 0) }
 have t:(Value.ref g0.objs.size)=Value.ref (au.heap.objs.size+1):=by rw[h]
 rw[show((au.heap.push (seqObj "list" #[] 0)).update au.heap.objs.size (Obj.mapSeq (·++a.toArray))).objs.size=au.heap.objs.size + 1 from h]
 refine xba (xet (xep slot_list_sort ⟨_,f,rfl⟩ entry_list_sort (zmk r (au:={ au with heap:=g0.push (seqObj "list" a.toArray 0) }) f c l (λtwo=>?_) λp s q=>⟨_,rfl,xbg ⟨_,rfl,j p s q⟩⟩) (args_list_sort _)))
 exact ask two _ λb ob e=>zkd (xch (xig (xbz e))) (i b ob e)
theorem zjw{B:Around}{au:Shared}{T:String}{It:Nat->Value->Prop}(S:KdlSrc P w T a d n It OK)(C:B.handled=none)(J:OK au.heap)(s:n<=sizeLine){W:Value->Shared->Prop}
  (ask:∀o:List Value,o.length=n->(∀(j:Nat) (v:Value),o[j]?=some v->It j v)->∃r:Nat->Nat,Coh r o/\(2<=n->∀(g:Heap) (h:Nat),(∀b ob,au.heap.get? b=some ob->g.get? b=some ob)->Answers P w B.in1.in1 r o {au with heap:=g,toks:=h}) /\
   ∀(p:Array Nat) (q:Addr) (g:Heap) (h c:Nat),p.Perm (List.toArray (List.range o.length))->Up r p o.length->(∀ b ob,au.heap.get? b=some ob->g.get? b=some ob)->(∀ b ob,au.heap.get? b=some ob->b≠q)->g.get? q=some (seqObj "list" (outOf o p) c)->W (.ref q) { au with heap:=g,toks:=h }):
  wpAny (model P w) B (call (.builtin "sorted") [.ref a]) W E au:=by
 have y:argsOk "sorted" ⟨[.ref a],[]⟩:=args_sorted1 _
 refine Calls.call_function_entry kind_sorted plain_sorted entry_sorted y ?_;unfold Builtin.«sorted»;refine xba (m:=checkCount "sorted" 1 1 _) (xbg (xba (kdu_collect (A:=B.in1) S C J (s) λg h acc i f=>?_)))
 have k:acc.toList.length=n:=by rw[xci];exact f.1
 obtain⟨r,x,z,u⟩:=ask acc.toList k (λj v e=>f.2 j v (by rw[←xco];exact e));refine xba (wpAny_newList ?_ (by rw[k];exact s));have t:(g.push (seqObj "list" acc.toList.toArray 0)).get? g.objs.size=some (seqObj "list" acc.toList.toArray 0):=xcb g rfl
 have l:∀ b ob,au.heap.get? b=some ob->(g.push (seqObj "list" acc.toList.toArray 0)).get? b=some ob:=λb ob e=>xbh _ (i b ob e)
 have lt:∀b ob,au.heap.get? b=some ob->b≠g.objs.size:=λb ob e=>xch (xbz (i b ob e))
 show wpAny _ _ _ _ _ { au with heap:=g.push (seqObj "list" acc.toList.toArray 0),toks:=h }
 refine xba (xet (xep slot_list_sort ⟨_,t,rfl⟩ entry_list_sort (zmk r (au:={ au with heap:=g.push (seqObj "list" acc.toList.toArray 0),toks:=h }) t (by rw[k]; exact s) x (λtwo=>?_) λp I G=>⟨_,rfl,xbg ⟨_,rfl,?_⟩⟩) (args_list_sort _)))
 ·exact z (by lia) _ h λb ob e=>zkd (lt b ob e) (l b ob e)
 ·obtain⟨c,H⟩:=sortedHeap_at (n:=0) (vs:=acc.toList) (out:=outOf acc.toList p) t;refine u p g.objs.size _ h c I G (λb ob e=>?_) ?_ H
  ·rw[sortedHeap_old (lt b ob e) (xbz (l b ob e))];exact l b ob e
  ·exact lt
end Srt
namespace L2
open Spec PyProof.Rows PySem.W
theorem small10000(h:n<=1000000):n<=sizeLine:=xbc h (by rw[xij];lia)
theorem zkg:∀{c:List Value}{a b:List Int},IntsAre c a->IntsAre c b->a=b
 |_,_,_,.nil,.nil=>rfl
 |_,_,_,.cons x t r,.cons _ _ r'=>by rw[zkg r r']
theorem zwy(a:TupsG g ps):Srt.Coh (Srt.rank (ps.map (·.2))) (ps.map λp=>Value.ref p.1):=λi j f h e=>by
 rw[xbb] at f h;have l:ps[i]?=some ps[i]:=xbe f;have m:ps[j]?=some ps[j]:=xbe h;rw[zj (λp:Addr×List Int=>Value.ref p.1) _ l,zj (λp:Addr×List Int=>Value.ref p.1) _ m] at e;injection e with e
 obtain⟨us,o,n,s,b,w,c⟩:=a _ (xdq f);obtain⟨k,v,x,u,t,y,q⟩:=a _ (xdq h);rw[e,t] at b;injection b with b
 subst b;rw[q] at c;injection c with c _
 have r:k=us:=by simpa using c
 subst r;have d:=zkg s u;unfold Srt.rank;rw[zj (λp:Addr×List Int=>p.2) _ l,zj (λp:Addr×List Int=>p.2) _ m,d]
def rSortedAL(K:Fg):List V->Hp->VK->Prop:=λe H Q=>∃(l:Addr) (c:List (Addr×List Int)),e=[.ref l]/\SqL K H l (c.map λp=>V.ref p.1)/\c.length<=1000000/\TupsAt K H c /\
 ∀(q:Addr) (d:List (Addr×List Int)),H q=none->d.Perm c->(d.map (·.2)).Pairwise (λa b=>HT.lexLt b a=false)->Q (.ref q) (upd H q (.lst (d.map λp=>V.ref p.1)))
def rSortedDAL:List V->Hp->VK->Prop:=λe H Q=>∃(a:Addr) (b:List (List Key×V)) (d:List (List Int)),e=[.ref a]/\Rd H a (.dT b)/\b.map (·.1)=d.map (λf=>f.map Sum.inl)/\d.length<=1000000 /\
 ∀(q:Addr) (c:List (Addr×List Int)),H q=none->(c.map (·.2)).Perm d->(c.map (·.2)).Pairwise (λx y=>HT.lexLt y x=false)->(∀p∈c,H p.1=some (.tup (p.2.map V.int)))->Q (.ref q) (upd H q (.lst (c.map λp=>V.ref p.1)))
theorem znq{X:Cx}(hu:X.A.units + 64<cLine):CallR X (.builtin "sorted") (rSortedAL X.K):=by
 intro aU s σ H xs v Q I r h;obtain⟨l,ps,rfl,E,k,ht,q⟩:=h;obtain⟨u,rfl,Y⟩:=vals1 r;cases Y;obtain⟨j,x,P,hz⟩:=I.list E;have d:j=ps.map λp=>Value.ref p.1:=by
  have e:(ps.map λp=>V.ref p.1)=(ps.map (·.1)).map V.ref:=by rw[xcw];rfl
  rw[e] at x;rw[zpx x,xcw]
  rfl
 subst d;have f:∀g:Heap,(∀b o,s.heap.get? b=some o->g.get? b=some o)->TupsG g ps:=λg c p U=>by
  obtain⟨v,i,⟨o,b2,b3,n,G⟩,_⟩:=I.tuple (ht p U);exact⟨v,o,n,zek i,c _ _ b2,b3,G⟩
 refine Srt.zof (Srt.rank (ps.map (·.2))) P.isList (by rw[xbb];exact small10000 k) (zwy (f s.heap λ_ _ z=>z)) (λm g c=>zbdy (by show X.A.units+1+1<cLine;lia) (by rw[xbb] at m;exact m) (f g c)) (λp y C=>?_);rw[xbb] at y C;obtain⟨t,w,S,J⟩:=zve y C;obtain⟨e,A⟩:=sortedAll_at s.heap (ps.map λp=>Value.ref p.1) (Srt.outOf (ps.map λp=>Value.ref p.1) p);rw[J] at A ⊢;refine⟨.ref (s.heap.objs.size+1),_,I.laid (a:=s.heap.objs.size+1) (o:=.lst (t.map λp=>V.ref p.1)) (t':=s.toks) (λ_ _ z=>sortedAll_old z) (xlk _) ⟨?_,_,e,zhx t,A⟩,rfl,q _ _ (I.hok.fresh (xlk _)) w S⟩;rw[xbb,w.length_eq];exact small10000 (by lia)
theorem zlx{X:Cx}(hc:X.calm=true)(hu:X.A.units + 64<cLine):CallR X (.builtin "sorted") rSortedDAL:=by
 intro aU s σ H xs J Q I r h;obtain⟨a,m,ks,rfl,hd,ek,a4,q⟩:=h;obtain⟨u,rfl,ru⟩:=vals1 r;cases ru;obtain⟨z,ns,ys,v,ob,j,ep,e1,e2,e3,e4,e5⟩:=(show ObjOk X.prog X.w H s.heap a (.dT m) from hd.ok I.hok)
 obtain⟨ps,S,Y,a3⟩:=znl (P:=X.prog) (w:=X.w) v ek;have a0:ps.length=ks.length:=by rw[←S,xbb]
 have f:j.toList.map (·.key)=ps.map λp=>Value.ref p.1:=by rw[e4,xcw];exact a3
 have a5:j.size=ps.length:=by
  have:=congrArg List.length f;rw[xbb,xbb,xci] at this;exact this
 have e:∀g:Heap,(∀b o,s.heap.get? b=some o->g.get? b=some o)->TupsG g ps:=λg d p y=>by
  obtain⟨J,rv,⟨o,b2,b3,n,b4⟩,_⟩:=I.tuple (SqT.of (Y p y));exact⟨J,o,n,zek rv,d _ _ b2,b3,b4⟩
 refine Srt.zjw (Dct.zblg ns j ep) (I.ok.hd hc) ⟨ob,e1,e2,e3⟩ (small10000 (by lia)) λA hl hv=>?_
 have l:A=ps.map λp=>Value.ref p.1:=by
  rw[←f];apply xie;intro i;by_cases hi:i<j.size
  ·have G:A[i]?=some A[i]:=xbe (by lia);obtain⟨en,E,h3⟩:=hv i _ G;rw[G,h3,xcl,xco,E]
   rfl
  ·rw[xfy (by lia),xfy (by rw[xbb,xci];lia)]
 subst l;refine⟨Srt.rank (ps.map (·.2)),zwy (e s.heap λ_ _ z=>z),λE g tk d=>zbdy (by show X.A.units+1+1<cLine;lia) (by lia) (e g d),λp t g tk c U p2 d ne C=>?_⟩;rw[xbb] at U p2;obtain⟨k,x,q2,q3⟩:=zve U p2;rw[q3] at C;refine⟨.ref t,_,I.laidN (o:=.lst (k.map λp=>V.ref p.1)) d ne ⟨?_,_,c,zhx k,C⟩,rfl,q t k (I.away ne) ((x.map _).trans (by rw[S])) q2 λp y=>Y p (x.mem_iff.mp y)⟩;rw[xbb,x.length_eq];exact small10000 (by lia)
end L2
namespace L2
open Spec PyProof.Rows
theorem zix{κ β:Type}[DecidableEq κ]{k:κ}:∀{a:List (κ×β)}{j:Nat}{p:β},(a.map (·.1)).Nodup->a[j]?=some (k,p)->a.eraseIdx j=a.filter λx=>decide (x.1≠k)
 |[],_,_,_,e=>by simp at e
 |x::r,0,p,nd,e=>by
  simp at e;subst e;rw[xbr,xdf] at nd;rw[List.eraseIdx_cons_zero,xcs (by simp)]
  symm
  rw[xmk];intro y c;refine xbw λz=>nd.1 ?_
  rw[←z];exact xbq.mpr ⟨y,c,rfl⟩
 |x::r,j+1,p,nd,e=>by
  rw[xbr,xdf] at nd;have b:r[j]?=some (k,p):=by simpa using e
  have d:x.1≠k:=λz=>nd.1 (by rw[z];exact xbq.mpr ⟨_,xbo b,rfl⟩)
  rw[xla,xcp (by simpa using d),zix nd.2 b]
theorem zrg{α β:Type}(f:α->β):∀(l:List α) (j:Nat),(l.map f).eraseIdx j=(l.eraseIdx j).map f
 |[],_=>rfl
 |_::_,0=>rfl
 |x::l,j+1=>by rw[xbr,xla,xla,xbr,zrg f l j]
section
variable {κ:Type}[DecidableEq κ]
section
variable {prog:Program}{w:World}{knd:HeapKind prog w κ}{A:Around}{E:Value->Shared->Prop}{s:Shared}{d:Addr}{a:Addr}{k:κ}{xs:List (κ×Addr×Value)}{p:Addr×Value}
theorem zyr{W:Option DictEntry->Shared->Prop}(C:knd.room A)(b:knd.is s.heap k a)(I:s.heap.DictOfH knd d xs)(u:atKey xs k=some p)(J:xs.length<=sizeLine)
  (m:∀e t,e.val=p.2->t.DictOfH knd d (xs.filter λx=>decide (x.1≠k))->Heap.SameBut d s.heap t->W (some e) {s with heap:=t,toks:=s.toks+knd.draws k}):
  wpAny (model prog w) A (Builtin.Dict.takeOut d (.ref a)) W E s:=by
 obtain⟨o,y,G,g,H,c,i,f,h⟩:=I;unfold Builtin.Dict.takeOut;refine xet ?_;refine xba (knd.pyHash C b ?_);refine xba (wpAny_dictFind_heap (s:={s with toks:=s.toks+knd.draws k}) C b g c i f h (λz=>?_) λj q r=>?_)
 ·rw[atKey_none_of_get z] at u;cases u
 ·have P:q=p:=by
   have z:=atKey_of_get h r;rw[u] at z;exact(xcz z).symm
  subst P;refine xba (xjm (s:={s with toks:=s.toks+knd.draws k}) g c ?_);rw[entry_at i j,r];have v:y.size<=sizeLine:=by have:=size_of_entries i;lia
  refine xba (wpAny_updateDictKeys (hz:=v) (s:={s with toks:=s.toks+knd.draws k}) g c (xbg (m _ _ rfl ⟨_,_,G+1,xfi _ g (Obj.isFreed_of_dict (Obj.data_mapDictKeys c _)),H.mapDictKeys _,Obj.data_mapDictKeys c _,?_,λx Q=>?_,?_⟩ (xew ..))))
  ·rw[←zix h r];obtain⟨l⟩:=y;have n:l=xs.map (entryOfKey knd):=i;subst n;simp[zrg]
  ·exact knd.keeps (f x (xcn.mp Q).1) g c (xew ..)
  ·exact List.Sublist.nodup (List.Sublist.map (λx:κ×Addr×Value=>x.1) xir) h
end
theorem zbfl{b:HeapKind prog w κ}{A:Around}{s:Shared}{W:Value->Shared->Prop}(I:b.room A.in1)(f:b.is s.heap k a)(h:s.heap.DictOfH b d xs)(m:atKey xs k=some p)(l:xs.length<=sizeLine)
  (i:∀c,c.DictOfH b d (xs.filter λx=>decide (x.1≠k))->Heap.SameBut d s.heap c->W p.2 {s with heap:=c,toks:=s.toks+b.draws k}):
  wpAny (model prog w) A (call (.builtin "dict.pop") [.ref d,.ref a]) W E s:=by
 have M:MeetsIn prog w (Builtin.«dict.pop» ⟨[.ref d,.ref a],[]⟩) (λB R g=>B=A/\g=s/\∀c,c.DictOfH b d (xs.filter λx=>decide (x.1≠k))->Heap.SameBut d s.heap c->R (.ok (.ret p.2)) {s with heap:=c,toks:=s.toks+b.draws k}):=
  .of_wp λB R g j=>by
   obtain⟨J,n,q⟩:=j;subst J n;unfold Builtin.«dict.pop» Builtin.Dict.keyAndDefault;refine xba (xba (wpAny_notOrdered_dict h.typeIs (xbg ?_)));obtain⟨o,t,S,u,U,C,G,v,X⟩:=id h;have Q:t.isEmpty=false:=by
    have:=size_of_entries G;cases xs with
    |nil=>cases m
    |cons x r=>
     rw[xbt] at this;rw[Array.isEmpty_eq_false_iff];intro z;rw[z] at this;simp at this
   simp only[keyPart,Option.isSome_none,xds,xfa];refine xba (xjm u C (xba (xbg ?_)));rw[Q];simp only[xds,xfa];refine xba (zyr I f h m l λe c P H y=>?_);simp only[Option.isNone_some,xds,xfa];exact xba (wpAny_letGo (xbg ⟨e.val,rfl,by rw[P];exact q c H y⟩))
 exact xmg xjp h.typeIs F.entry_dict_pop (F.args_dict_pop_2 _ _) M ⟨rfl,rfl,i⟩
end
theorem KT.drop(r:KT H kvs xs)(k:List Key):KT H (dropK kvs k) (xs.filter λx=>decide (x.1≠k)):=by
 unfold dropK
 induction r with
 |nil=>exact .nil
 |@cons p q ps qs h t ih=>
  by_cases e:p.1=k
  ·rw[xcs (by simp[e]),xcs (by simp[←h.1,e])];exact ih
  ·rw[xcp (by simp[e]),xcp (by simp[←h.1,e])];exact .cons h ih
theorem zbva{X:Cx}{k:List Key}(U:X.A.units+1<cLine)(I:Inv X aU σ H s)(e:H a=some (.dT kvs))(C:H b=some (.tup (k.map kV)))(l:valV kvs k=some v)
  (h:∀ w' m,Inv X aU σ (upd H a (.dT (dropK kvs k))) m->RelV v w'->Q w' m):wpAny (model X.prog X.w) X.A (call (.builtin "dict.pop") [.ref a,.ref b]) Q E s:=by
 obtain⟨z,J,t,d,S⟩:=zbxa I.hok e;obtain⟨w',f,g⟩:=RelO.some_of (v:=v) (o:=(atKey t k).map (·.2)) (by rw[←l];exact d.val k);cases hp:atKey t k with
 |none=>rw[hp] at f;cases f
 |some p=>
  rw[hp] at f;have j:p.2=w':=xcz f;subst j;refine zbfl (xjf U) (ztc I.hok C) S hp (by rw[←xix d];exact z) λh' i A=>h _ _ ?_ g
  obtain⟨q,w,y,n,u,x,P,_,G⟩:=i;refine znk I (by rw[e];exact True.intro) A ⟨q,n⟩ ⟨xbc (xgv _ _) z,J,_,(d.drop k).keeps λc Y r=>?_,q,w,y,n,u,x,P,G⟩;rw[zo (zbwv r e (λz=>nomatch z))];exact r
def tDPopT(d e:TE):TE:=λσ H Q=>d σ H λx H1=>∃a,x=.ref a/\IsD H1 a/\e σ H1 λy H2=>∃c k v b,H2 a=some (.dT c)/\y=.ref b/\H2 b=some (.tup (k.map kV))/\valV c k=some v/\Q v (upd H2 a (.dT (dropK c k)))
theorem zbfr{X:Cx}(P:X.A.units + 1<cLine)(ho:PE X o td)(J:PE X e ty)(m:M1 X o "pop" apos e cpos):PE X (.Call (.Attribute o "pop" apos) [e] [] cpos) (tDPopT td ty):=by
 intro g s σ H Q I h;refine wpAny_Call_method m.base m.few m.line xiu xjp F.type_dict_pop (thn (ho g s σ H _ I h) λu E f=>?_);obtain⟨x,H1,i,w,a,j,d,A⟩:=f;subst j;obtain rfl:u=Value.ref a:=w;obtain⟨n,r,_⟩:=zbod i d;refine⟨n,r,?_⟩;rw[m.trees];refine xli rfl (xlz (xja (thn (J g E σ H1 _ i A) λY s2 ⟨y,H2,S,U,q,k,v,b,t,p,z,l,G⟩=>xlb ?_)));subst p;cases(show Y=Value.ref b from U);exact zbva P S t z l λw' s3 C c=>⟨v,_,C,c,G⟩
def rCatA(K:Fg):R2:=λx y H Q=>∃a b c d,x=.ref a/\y=.ref b/\SqT K H a c/\SqT K H b d/\c.length+d.length<=sizeLine /\
 (c=[]->Q (.ref b) H)/\(c≠[]->d=[]->Q (.ref a) H)/\(c≠[]->d≠[]->∀p,H p=none->Q (.ref p) (upd H p (.tup (c++d))))
theorem zbmt:OpR X (binaryOp .Add) (rCatA X.K):=by
 intro G s σ H x y v u Q I p t h;obtain⟨a,b,w,J,rfl,rfl,r,o,E,U,Y,q2⟩:=h;by_cases hx:w=[]
 ·cases p;cases t;obtain⟨d,r1,p1,_⟩:=I.tuple r;obtain⟨g,r2,p2,_⟩:=I.tuple o;obtain⟨⟨S,dd,l,sl⟩,C,m,n,q⟩:=id p1;obtain⟨⟨A,k,data2,j⟩,f,c,P,i⟩:=id p2;simp only at m q c i;subst m q c i;have e:d=[]:=r1.nil_iff.mpr hx;exact concat_meets ⟨_,C,rfl⟩ ⟨_,f,rfl⟩ noFill_tuple_add seq_tuple_add xlh xkw (xkl _ _)
   (tuple_addW0 a b d.toArray g.toArray n P dd k sl j (by simp[e])) ⟨C,f,⟨.ref b,H,I,rfl,U hx⟩⟩
 ·exact zbms G s σ H _ _ v u Q I p t ⟨a,b,w,J,rfl,rfl,r,o,hx,E,λz=>Y hx z,λz=>q2 hx z⟩
theorem zbbc{s:Shared}{lo b:Option Int}{W:Value->Shared->Prop}(a:IsTup s.heap t its)(h:s.heap.IsSliceOf sl vl vu .none)(i:IsPart vl lo)(k:IsPart vu b)
  (j:HT.sIx its.size 0 lo=0)(l:HT.sIx its.size its.size b=its.size)(f:W (.ref t) s):wpAny (model prog w) A (getItem (.ref t) (.ref sl)) W E s:=by
 obtain⟨os,d,e,m⟩:=id h;unfold getItem
 try with_reducible refine xet ?_
 first|refine xba (xbg ?_)|skip
 refine xba (wpAny_sequenceKey a.typeIs (by decide) ?_);refine xba (wpAny_callSpecial?_slot (name:=Str.ofString "__getitem__") a.typeIs xkr (xep xkr a.typeIs entry_tuple_getitem ?_ (args_tuple_getitem _ _)))
 show wpAny _ _ (Builtin.Tuple.tupleItemsOf (.ref t) >>= _) _ _ s;refine xba (tupleItemsOf_ a ?_);have g:s.TypeIs (.ref sl) "slice":=⟨os,d,e⟩
 refine xba (wpAny_typeOf g ?_);rw[if_pos (by decide)];refine xba (HT.zeh h i k ?_);have c:(((HT.sIx its.size 0 lo:Nat):Int)==0&&(1:Int)==1&&(HT.sIx its.size its.size b-HT.sIx its.size 0 lo)==its.size)=true:=by
  rw[j,l];simp
 show wpAny _ _ (if(((HT.sIx its.size 0 lo:Nat):Int)==0&&(1:Int)==1&&(HT.sIx its.size its.size b-HT.sIx its.size 0 lo)==its.size)=true then _ else _) _ _ s;rw[if_pos c];refine xba (?_:wpAny _ _ (Builtin.Tuple.tupleIsExact (.ref t)) _ _ s);unfold Builtin.Tuple.tupleIsExact;refine xba (wpAny_typeOf a.typeIs (xbg ?_));rw[if_pos (by decide)];exact xba (xii (xbg ⟨_,rfl,xbg f⟩))
def rSlA(K:Fg):V->Option Int->Option Int->Hp->VK->Prop:=λx lo c H Q=>∃a b,x=.ref a/\SqT K H a b/\(cutV b lo c=b->Q (.ref a) H)/\∀p,H p=none->Q (.ref p) (upd H p (.tup (cutV b lo c)))
theorem zbkx:SlR X (rSlA X.K):=by
 intro m s σ H x v t p lo f n Q I k i e j h;obtain⟨a,c,rfl,l,o,q⟩:=h;by_cases hw:HT.sIx c.length 0 lo=0/\HT.sIx c.length c.length f=c.length
 ·cases k;obtain⟨d,r,g,u⟩:=I.tuple l;have b:d.toArray.size=c.length:=by rw[xcc];exact r.length.symm
  refine⟨"tuple",_,xkr.lookup,g.typeIs,?_⟩
  refine zbbc g i e j (by rw[b];exact hw.1) (by rw[b];exact hw.2) ⟨.ref a,H,I,rfl,o ?_⟩;unfold cutV;rw[hw.1,hw.2];simp
 ·exact zbro m s σ H _ v t p lo f n Q I k i e j ⟨a,c,rfl,l,hw,q⟩
theorem zjy(a:List Int):∀k,k<=a.length->preSum (λi=>a.getD i 0) k=(a.take k).sum
 |0,_=>rfl
 |k+1,h=>by
  show preSum (λi=>a.getD i 0) k+a.getD k 0=_;rw[zjy a k (by lia),xin (by lia),xel,xbi,xbe (by lia)];simp
theorem zwi:∀{a:List Int}{b:List Value}{i:Nat}{v:Value},Vals (a.map V.int) b->b[i]?=some v->∃t,v=.int (a.getD i 0) t
 |[],_,_,_,.nil,e=>by simp at e
 |n::a,_,0,_,.cons r _,e=>by
  simp at e;subst e
  obtain⟨t,rfl⟩:=r;exact⟨t,rfl⟩
 |n::a,_,i+1,v,.cons _ t,e=>by
  have:=zwi (i:=i) t (by simpa using e)
  simpa using this
def rSum(K:Fg):List V->Hp->VK->Prop:=λc H Q=>∃(a:Addr) (b:List Int),c=[.ref a]/\(SqL K H a (b.map V.int)\/SqT K H a (b.map V.int))/\Q (.int b.sum) H
theorem zlw{X:Cx}(hc:X.calm=true):CallR X (.builtin "sum") (rSum X.K):=by
 intro aU s σ H xs us Q I r h;obtain⟨a,ns,rfl,hs,q⟩:=h;obtain⟨u,rfl,ru⟩:=vals1 r;cases ru;have key:∀{its:List Value}(h':Heap) (tk:Nat) (t':Tok) (nn:Nat),nn=ns.length->(∀b o,b≠s.heap.objs.size->s.heap.get? b=some o->h'.get? b=some o) ->
   EP X aU σ Q (.int (preSum (λi=>ns.getD i 0) nn) t') {s with heap:=h',toks:=tk}:=λh' tk t' nn hn hk=>by
  subst hn;rw[zjy ns _ (xbj _),xbu];exact⟨.int ns.sum,H,I.kept (t':=tk) λb o e=>hk b o (xch (xbz e)) e,⟨_,rfl⟩,q⟩
 refine call_sum_walkG ?_;rcases hs with hs|hs
 ·obtain⟨its,rv,pl,hz⟩:=I.list hs;have hlt:a<s.heap.objs.size:=by obtain⟨o,n,e,_⟩:=pl;exact xbz e
  have hl:=rv.length;rw[xbb] at hl;refine xlf pl.isList ?_;refine⟨s.heap.objs.size,_,[s.heap.objs.size],_,_,_,λi=>ns.getD i 0,rfl,Walks.list (A:=X.A.in1) (I.ok.hd hc) _ a (xch hlt) its.toArray,⟨⟨_,xcb _ rfl,rfl,rfl⟩,pl.isList.push _⟩,?_,λi v e=>zwi rv (by simpa using e),λh' tk t' hk=>?_⟩
  ·intro b hb;show b<(s.heap.push _).objs.size;rw[show ∀o:Obj,(s.heap.push o).objs.size=s.heap.objs.size+1 from λo=>by simp[Heap.push]];rcases xbl.mp hb with rfl|hb
   ·exact xjz _
   ·rcases xbl.mp hb with rfl|hb
    ·exact xig hlt
    ·cases hb
  ·exact key (its:=its) h' tk t' _ (by simp[hl]) λb o hb e=>hk b o (by simpa using hb) (xbh _ e)
 ·obtain⟨its,rv,pl,hz⟩:=I.tuple hs;have hlt:a<s.heap.objs.size:=pl.lt;have hl:=rv.length;rw[xbb] at hl;have pt:s.heap.IsTuple a its.toArray:=pl;refine xhx pt ?_;refine⟨s.heap.objs.size,_,[s.heap.objs.size],_,_,_,λi=>ns.getD i 0,rfl,Walks.tuple (A:=X.A.in1) (I.ok.hd hc) _ a (xch hlt) its.toArray,⟨⟨_,xcb _ rfl,rfl,rfl⟩,pt.push _⟩,?_,λi v e=>zwi rv (by simpa using e),λh' tk t' hk=>?_⟩
  ·intro b hb;show b<(s.heap.push _).objs.size;rw[show ∀o:Obj,(s.heap.push o).objs.size=s.heap.objs.size+1 from λo=>by simp[Heap.push]];rcases xbl.mp hb with rfl|hb
   ·exact xjz _
   ·rcases xbl.mp hb with rfl|hb
    ·exact xig hlt
    ·cases hb
  ·exact key (its:=its) h' tk t' _ (by simp[hl]) λb o hb e=>hk b o (by simpa using hb) (xbh _ e)
theorem zig{A:Around}{s:Shared}(l:A.handled=none)(d:s.heap.IsTupleIter it t i)(r:s.heap.IsTuple t items)
  (q:∀x,items[i]?=some x->∀a,a.IsTupleIter it t (i+1)->Heap.SameBut it s.heap a->Q x {s with heap:=a})
  (j:items[i]?=none->∀ a e,Heap.ExtBut it s.heap a->(∃ o,a.get? e=some o/\o.cls=.type "StopIteration")->E (.ref e) { s with heap:=a }):wpAny (model prog w) A (Builtin.SmallTypes.nextOf (.ref it)) Q E s:=by
 rcases d with⟨o,b,g,c⟩
 rcases r with⟨u,k,_,n,m⟩
 refine xba (wpAny_callSpecial?_slot (name:=Str.ofString "__next__") ⟨o,b,g⟩ F.slot_tuple_iterator_next (xep F.slot_tuple_iterator_next ⟨o,b,g⟩ F.entry_tuple_iterator_next ?_ (F.args_tuple_iterator_next_1 _)))
 have h:(#[Value.ref t,.int i 0]:Array Value)[0]?=some (.ref t):=rfl;have p:(#[Value.ref t,.int i 0]:Array Value)[1]?=some (.int i 0):=rfl
 wp_walk using xik b c h,xik b c p,xkv k m
 rw[xdx];cases hx:items[i]? with
 |some x=>
  exact xba (xil b c (by simp) (xbg ⟨x,rfl,xbg (q x hx _ ⟨_,xfi _ b (xia (xgw c _)),(xld ..).trans g,by rw[xgw c];simp[rawInt]⟩ (.update ..))⟩))
 |none=>
  have f:A.in1.handled=none:=l
  wp_walk using xil b c (by simp)
  unfold raiseNew;refine xba (wpAny_handled ?_);rw[f];exact xba (xbg (wpAny_throw (j hx _ _ ((xew ..).extBut.push _ |>.push _) ⟨_,xcb _ rfl,rfl⟩)))
theorem draws1{A:Around}(n:A.handled=none)(f t:Addr)(m:t≠f)(c:Array Value):
  Draws prog w A f [f,t] (c.size+1) (λj v=>∃i,j=i+1/\c[i]?=some v) (λj h=>∃i,j=i+1/\h.IsTupleIter f t i/\h.IsTuple t c) where
 live:=λ_ _ ⟨_,_,⟨o,u,_⟩,_⟩=>⟨o,u⟩
 frame:=λ_ _ _ ⟨i,e,a,b⟩ p=>⟨i,e,a.at λo e=>p f (by simp) o e,b.at λo e=>p t (by simp) o e⟩
 item:=λj s Q E G l y=>by
  obtain⟨i,e,a,b⟩:=l;have C:i<c.size:=by lia
  refine zig n a b (λx k r d g=>?_) λz=>absurd z (by simp;lia)
  exact y _ r s.toks ⟨i,e,k⟩ ⟨i+1,by lia,d,b.extBut g.extBut m⟩ g
 done:=λs Q E ⟨i,e,a,b⟩ q=>zig n a b (λx k=>absurd k (by rw[xho (by lia)];simp)) λ_=>q
theorem draws0{A:Around}(k:A.handled=none)(d t:Addr)(c:Array Value)(i:Nat)(l:c.size<=i):
  Draws prog w A d [d,t] (i+1) (λ_ _=>False) (λj h=>j=i+1/\h.IsTupleIter d t i/\h.IsTuple t c) where
 live:=λ_ _ ⟨_,⟨o,n,_⟩,_⟩=>⟨o,n⟩
 frame:=λ_ _ _ ⟨e,a,b⟩ f=>⟨e,a.at λo e=>f d (by simp) o e,b.at λo e=>f t (by simp) o e⟩
 item:=λj s Q E p ⟨e,_⟩ _=>absurd e (by lia)
 done:=λs Q E ⟨_,a,b⟩ g=>zig k a b (λx m=>absurd m (by rw[xho l];simp)) λ_=>g
theorem Inv.turned2{h':Heap}(I:Inv X g σ H s)(k:∀b o,b≠e->b≠it->s.heap.get? b=some o->h'.get? b=some o)(Q:H it=none)(h:it≠X.env.locals)
  (G:it∈X.ex\/X.s₀.heap.objs.size<=it)(l:∀x c,X.env.cells.lookup x=some c->c≠it)(w:∀p∈X.pn++g,p.1≠it)(y:H e=none)(i:e≠X.env.locals)
  (U:e∈X.ex\/X.s₀.heap.objs.size<=e)(j:∀x c,X.env.cells.lookup x=some c->c≠e)(J:∀p∈X.pn++g,p.1≠e):Inv X g σ H {s with heap:=h',toks:=t'}:=by
 have f:∀b u,H b=some u->b≠it:=λb u e z=>by rw[z,Q] at e;cases e
 have d:∀b u,H b=some u->b≠e:=λb u q z=>by rw[z,y] at q;cases q
 refine I.step (g':=s.gens) (d':=s.drawn) (ch:=[e,it]) (λb E=>?_) (λb o _ _ a e _=>k b o (λz=>a (by simp[z])) (λz=>a (by simp[z])) e) (λb o _ _ a e _=>⟨o.slots,k b o (λz=>a (by simp[z])) (λz=>a (by simp[z])) e⟩) (λ_ _ _ _ n=>n)
  (λb o a e=>⟨o,k b o (λz=>a (by simp[z])) (λz=>a (by simp[z])) e⟩) (λ_ _ e=>e) (λ_ _ _ e=>e) (λb Y e=>⟨#[],by rw[e];simp⟩) (λm P=>?_) (λb u e=>?_) I.bare
 ·rcases xbl.mp E with z|z
  ·subst z;exact⟨U,i,j,J⟩
  ·have A:b=it:=by simpa using z
   subst A;exact⟨G,h,l,w⟩
 ·obtain⟨o,t,C,S,r⟩:=P;exact⟨o,t,C,k _ o (xdj i) (xdj h) S,r⟩
 ·refine(I.hok b u e).stay (λc v a q=>k c v ?_ ?_ q) (λ_ q=>q) λ_ _ q=>q
  ·rcases a with z|z
   ·rw[z];exact d b u e
   ·exact d c _ z
  ·rcases a with z|z
   ·rw[z];exact f b u e
   ·exact f c _ z
def Ite(K:Fg) (a:Addr):It:=
 ⟨λi H=>∃b x,SqT K H a b/\b[i]?=some x,λi H y c=>∃p,H p=none/\y=.ref p/\∀b x,SqT K H a b->b[i]?=some x->c=upd H p (.tup [.int ((i+1:Nat):Int),x]),λi H=>∃b,SqT K H a b/\b.length<=i⟩
theorem ztx{P:Program}{w:World}{K:Fg}{a1:List Expr}{k:Nat}{a2:Pos}(e it a:Addr)(t:e≠it):
  Turn P w K (.Tuple a1 k a2) (Ite K a) [e,it] e (λi h=>(∃f,IsEnum h e it ((i+1:Nat):Int) f)/\h.IsTupleIter it a i) where
 mem:=by simp
 obj:=λi h m b hb=>by
  obtain⟨⟨f,l⟩,o,e',c,d⟩:=m;rcases xbl.mp hb with rfl|hb
  ·exact⟨_,l,λv z=>by
    have z':Data.fields _=Data.cell v:=z
    cases z'⟩
  ·have:b=it:=by simpa using hb
   subst this;exact⟨o,e',λv z=>by rw[d] at z;cases z⟩
 keep:=λi h h' m k=>⟨let ⟨f,l⟩:=m.1;⟨f,k e (by simp) _ l⟩,m.2.at λo z=>k it (by simp) o z⟩
 item:=by
  intro X hP hw hK hc i aU s σ H E I hf m hg;subst hP hw hK;obtain⟨xs,x,hq,hx⟩:=hg;obtain⟨⟨f,l⟩,j⟩:=m;obtain⟨g,rv,p,hz⟩:=I.tuple hq;have ht:s.heap.IsTuple a g.toArray:=p;obtain⟨u,hu,ru⟩:=rv.get hx;have a6:a≠e:=λz=>by
   obtain⟨o,U,n,_⟩:=ht;rw[z,l] at U;cases U;simp at n
  have a8:a≠it:=λz=>by
   obtain⟨o,U,n,_⟩:=ht;obtain⟨o',G,a3,_⟩:=j;rw[z,G] at U;cases U;rw[a3] at n;simp at n
  have hi:i<g.length:=(xbd.mp hu).1;have D:=draws1 (prog:=X.prog) (w:=X.w) (A:=X.A.in1) (I.ok.hd hc) it a a8 g.toArray;refine wpAny_pyNext_enum_itemD D (i:=i+1) l ⟨i,rfl,j,ht⟩ (by simp;lia) t (by simp;exact⟨t,λz=>a6 z.symm⟩) λJ h' r hP U a9 hT b0 hk=>?_
  obtain⟨i',e1,e2⟩:=hP;cases(show i'=i by lia);have eu:J=u:=by
   rw[xha,hu] at e2;exact(xcz e2).symm
  subst eu;refine⟨_,rfl,wpAny_letOwnedTupleGo_enum U λh2 a4 C=>?_⟩;obtain⟨f0,f1,f2,f3,f4,f5⟩:=hf e (by simp);obtain⟨g0,g1,g2,g3,g4,g5⟩:=hf it (by simp);have S:e<s.heap.objs.size:=xbz l;have a0:it<s.heap.objs.size:=by obtain⟨o',G,_⟩:=j;exact xbz G
  have I1:Inv X aU σ (upd H s.heap.objs.size (.tup [.int ((i + 1:Nat):Int),x])) { s with heap:=s.heap.push { cls:=.type "tuple",data:=.seq #[.int ((i + 1:Nat):Int) r,J] },toks:=s.toks }:=
   I.laid (λ_ _ q=>xbh _ q) (xbj _) ⟨by simp;decide,[.int ((i+1:Nat):Int) r,J],.cons ⟨r,rfl⟩ (.cons ru .nil),⟨_,xcb _ rfl,rfl,_,rfl⟩⟩
  have T2:h2.get? s.heap.objs.size=some { cls:=.type "tuple",data:=.seq #[.int ((i + 1:Nat):Int) r,J] }:=(C.2 _ (xhr S)).trans hT
  have I2:Inv X aU σ (upd H s.heap.objs.size (.tup [.int ((i+1:Nat):Int),x])) {s with heap:=h2,toks:=r+1}:=by
   refine Inv.turned2 (s:={ s with heap:=s.heap.push { cls:=.type "tuple",data:=.seq #[.int ((i + 1:Nat):Int) r,J] },toks:=s.toks }) (h':=h2) (t':=r + 1) (e:=e) (it:=it) I1 (λb o Y a5 q=>?_) (by rw[zo (xch a0)]; exact g0) g1 g3 g4 g5 (by rw[zo (xch S)]; exact f0) f1 f3 f4 f5
   have q':(s.heap.push { cls:=.type "tuple",data:=.seq #[.int ((i + 1:Nat):Int) r,J] }).get? b=some o:=q
   rcases Heap.get?_push_cases q' with⟨z,z2⟩|z
   ·rw[z,z2];exact T2
   ·exact(C.2 _ Y).trans (hk b o Y a5 z)
  refine⟨.ref s.heap.objs.size,_,I2,rfl,⟨s.heap.objs.size,I.fresh,rfl,λys y hy e'=>?_⟩,⟨⟨J,?_⟩,?_⟩,λb hb=>?_⟩
  ·rw[I.tuple_inj hy hq,hx] at e';cases e'
   rfl
  ·have:(((i+1+1:Nat)):Int)=(((i+1:Nat)):Int)+1:=by push_cast;rfl
   rw[this];exact a4
  ·obtain⟨i',e3,e4,_⟩:=a9;cases(show i'=i+1 by lia);exact e4.at λo q=>(C.2 it (xdj t)).trans q
  ·rcases xbl.mp hb with rfl|hb
   ·rw[zo (xch S)];exact f0
   ·have:b=it:=by simpa using hb
    subst this;rw[zo (xch a0)];exact g0
 done:=by
  intro X hP hw hK hc i aU s σ H E I hf m hg;subst hP hw hK;obtain⟨xs,hq,hx⟩:=hg;obtain⟨⟨f,l⟩,j⟩:=m;obtain⟨g,rv,p,hz⟩:=I.tuple hq;have ht:s.heap.IsTuple a g.toArray:=p;have hl:=rv.length;obtain⟨g0,g1,g2,g3,g4,g5⟩:=hf it (by simp);have D:=draws0 (prog:=X.prog) (w:=X.w) (A:=X.A.in1) (I.ok.hd hc) it a g.toArray i (by simp;lia);exact wpAny_pyNext_enum_endD D l ⟨rfl,j,ht⟩ λh' a7=>⟨rfl,I.turned (t':=s.toks) (λb o hb e=>a7 b o hb e) g0 g1 g3 g4 g5⟩
 self:=λA i s Q E m h=>let ⟨f,l⟩:=m.1;wpAny_pyIter_enum l h
theorem zbap(a:Addr)(e:Array Value)(n:Obj)(t:Tok):
  Meets (Builtin.«enumerate.__new__» ⟨[.type "enumerate",.ref a],[(Str.ofString "start",.int 1 t)]⟩) (λ_ R s=>s.heap.get? a=some n/\s.heap.IsTuple a e /\
   R (.ok (.ret (.ref (s.heap.objs.size+1))))
    { s with heap:=(s.heap.push { cls:=.type "tuple_iterator",data:=.fields #[.ref a,.int 0 0] }).push { cls:=.type "enumerate",data:=.fields #[.none,.bool false,.ref s.heap.objs.size,rawInt 1,.none,.none] } }):=by
 refine Meets.of_wp ?_;rintro m w A R ⟨k,g,d,o,os⟩ ⟨i,l,h⟩;have j:=sub_enumerate;have f:(k.push { cls:=.type "tuple_iterator",data:=.fields #[.ref a,.int 0 0] }).objs.size=k.objs.size + 1:=xhb ..
 rw[←f] at h
 wp_walk using xkm i
 refine wpAny_stack_any λ_=>xbg ?_
 split
 ·rename_i c _ _ _ _ _;generalize (c==Value.type "enumerate")=b
  cases b<;>(wp_walk using xkm i,xhx l;exact⟨_,rfl,h⟩)
 ·wp_walk using xkm i,xhx l
  exact⟨_,rfl,h⟩
theorem zbof{T e:String}{b a:Value}{c:List Value}{k:Str×Value}{f:List (Str×Value)}(l:typeLookup (.type T) "__init__"=pure (some (.builtin "object.__init__")))(i:Bind.madeBy (.type T)=pure (some e))
  (j:(some e != some "object.__new__")=true):Meets (Builtin.«object.__init__» ⟨b::a::c,k::f⟩) (λ_ R s=>s.TypeIs b T/\R (.ok (.ret .none)) s):=
 .of_wp λ_ _ _ _ _ d=>by
  obtain⟨h,g⟩:=d
  repeat any_goals first|assumption|wp_step
  exact⟨_,rfl,g⟩
theorem zbgj(a:Value)(t:Tok):checkBuiltinCall "enumerate.__new__" ⟨[.type "enumerate",a],[(Str.ofString "start",.int 1 t)]⟩=pure ():=by kernel_rfl
theorem zbgd(o a:Value)(t:Tok):argsOk "object.__init__" ⟨[o,a],[(Str.ofString "start",.int 1 t)]⟩:=by kernel_rfl
theorem zxc{f:Program}{w:World}{A:Around}{E:Value->Shared->Prop}{s:Shared}{a:Addr}{d:Array Value}{t:Tok}{Q:Value->Shared->Prop}(m:s.heap.IsTuple a d)
  (h:∀l,IsEnum l (s.heap.objs.size+1) s.heap.objs.size 1 .none->l.IsTupleIter s.heap.objs.size a 0->(∀b o,s.heap.get? b=some o->l.get? b=some o)->Q (.ref (s.heap.objs.size+1)) {s with heap:=l}):
  wpAny (model f w) A (call (.type "enumerate") [.ref a] [(Str.ofString "start",.int 1 t)]) Q E s:=by
 rcases id m with⟨u,k,_⟩
 have g:=F.called_enumerate;rcases g.mro with⟨c,H,P⟩
 have z:=g.made;have J:=g.sub;have I:=g.notType;have G:=g.canCreate;have v:=g.init.lookup;have i:(s.heap.push { cls:=.type "tuple_iterator",data:=.fields #[.ref a,.int 0 0] }).objs.size=s.heap.objs.size + 1:=xhb ..
 have p:IsEnum ((s.heap.push { cls:=.type "tuple_iterator",data:=.fields #[.ref a,.int 0 0] }).push { cls:=.type "enumerate",data:=.fields #[.none,.bool false,.ref s.heap.objs.size,rawInt 1,.none,.none] }) (s.heap.objs.size + 1) s.heap.objs.size 1 .none:=by
  rw[←i];exact xcb _ rfl
 have done:=h _ p ⟨_,xbh _ (xcb _ rfl),rfl,rfl⟩ λb o x=>xbh _ (xbh _ x)
 refine wpAny_call (codeAny_of_tree (xbg ⟨Code.quiet_builtin _ (by decide +kernel),xki F.entry_type_call ?_⟩));rw[Around.under_plain (weight_type_call_type _ _ _) (units_type_call_type _ _ _)]
 repeat any_goals first|assumption|wp_step
 refine xjv (xmh g.plain F.entry_enumerate_new (wpAny_of_eq (zbgj _ t) (zbap a d u t f w A.in1 (wants (λx n=>n.TypeIs x "enumerate"/\Q x n) E) s ⟨k,m,⟨_,p,rfl⟩,done⟩))) ?_
 clear done p i h m k;rintro(e|_|_|_|x) n j
 case ok.ret=>
  obtain⟨T,q⟩:=j;have C:=g.init.bind x
  repeat any_goals first|assumption|wp_step
  refine xjv (xmh g.init.plain F.entry_object_init (g.init.check _ _ _ _ _ _ _ _ T (zbgd _ _ t) (zbof v z (by decide) f w A.in1 (wants (λy r=>y=.none/\Q x r) E) _ ⟨T,rfl,q⟩))) ?_;rintro(e|_|_|_|y) r j
  case ok.ret=>
   obtain⟨rfl,q⟩:=j
   repeat any_goals first|assumption|wp_step
  all_goals first|exact j|exact j.elim
 all_goals first|exact j|exact j.elim
theorem cw_kw{M:Model}{T:String}{b:List (Bool×Sem Value)}{c:List (Option Str×Sem Value)}(f:b.any (·.1)=false)(e:c.any (·.1.isNone)=false)
  (h:wpAny M A (evalArgs (.type T) true b c) (λa d=>wpAny M A (call (.type T) (first++a.pos) a.kw) Q E d) E s):wpAny M A (callWith pos (.type T) first b c) Q E s:=by
 unfold callWith;refine xba (xet (xey h ?_ λ_ _=>id));intro a d k;rw[f,e];exact xba (xnb (xba (xbg (xba (xey k (λ_ _ q=>xba (xet (wpAny_point (xbg q)))) λ_ _=>id)))))
def iEnum1(K:Fg) (b:TE):TI:=λσ H R=>b σ H λx H1=>∃a,x=.ref a/\(∃c,SqT K H1 a c)/\R (Ite K a) H1
theorem zbfn(t:Gl X "enumerate")(C:X.mg "enumerate"=none)(u:PE X l tl)
  (o:starEach [l] X.env=[(false,eval l X.env)]:=by rfl):
  PI X (.Tuple elts k tpos) (.Call (.Name "enumerate" p) [l] [⟨some "start",.Constant (.int 1) j cpos,kpos⟩] pos) (iEnum1 X.K tl):=by
 intro w s σ H R I h;refine xkq (zoz I t C PyProof.Rows.boot_enumerate ?_);refine cw_kw (by rw[o];rfl) rfl ?_;rw[o];refine evalArgs_kwB rfl ?_;refine xja (thn (u w s σ H _ I h) λv c i=>?_);obtain⟨x,H1,m,Q,G⟩:=i;refine xlb ?_;refine kws_cons ?_;refine wpAny_Constant_int (kws_nil ?_);obtain⟨a,rfl,⟨xs,P⟩,q⟩:=G;cases Q;have r:=m.tok (c.toks+1);obtain⟨E,Y,A,U⟩:=r.tuple P;refine zxc (show _ from A) λn d f S=>?_
 refine wpAny_pyIter_enum d ?_;have J:=r.kept (h':=n) (t':=c.toks+1) S;refine⟨c.heap.objs.size+1,[c.heap.objs.size+1,c.heap.objs.size],_,_,H1,rfl,J,ztx _ c.heap.objs.size a (Nat.succ_ne_self _),⟨⟨_,d⟩,f⟩,λb y=>?_,q⟩;have e:c.heap.objs.size<=b:=by
  have g:b=c.heap.objs.size+1\/b=c.heap.objs.size:=by simpa using y
  cases g with
  |inl z=>exact z ▸ xlk _
  |inr z=>exact z ▸ xbj _
 exact m.fpOk e (m.hok.fresh e)
noncomputable def bestI(a:Bool) (n:Int) (b:List Int):Int:=b.foldl (λi j=>if(if a then decide (j > i) else decide (j<i))=true then j else i) n
theorem zpl:∀(ns:List Int) (n:Int),bestI true n ns∈n::ns/\∀a∈n::ns,a<=bestI true n ns
 |[],n=>⟨by simp[bestI],by simp[bestI]⟩
 |m::ns,n=>by
  have e:bestI true n (m::ns)=bestI true (if m > n then m else n) ns:=by simp[bestI]
  obtain⟨d,c⟩:=zpl ns (if m > n then m else n);rw[e];refine⟨?_,λa ha=>?_⟩
  ·rcases xbl.mp d with z|z
   ·rw[z];split<;>simp
   ·simp[z]
  ·have b:=c _ xbv;rcases xbl.mp ha with rfl|ha
   ·refine xmb ?_ b;split<;>lia
   ·rcases xbl.mp ha with rfl|ha
    ·refine xmb ?_ b;split<;>lia
    ·exact c a (xbf _ ha)
theorem zxh{ns:List Int}(g:k=ns.length):(n::ns).getD (argBest (λi j=>decide ((n::ns).getD i 0 >(n::ns).getD j 0)) k) 0=bestI true n ns:=by
 subst g;obtain⟨o,c⟩:=argBest_gt (λi=>(n::ns).getD i 0) ns.length;obtain⟨l,d⟩:=zpl ns n;have a:argBest (λi j=>decide ((n::ns).getD i 0 >(n::ns).getD j 0)) ns.length<(n::ns).length:=by rw[xbt];lia
 obtain⟨j,b,h⟩:=xev l;have f:=c j (by simp at b;lia);have m:=d ((n::ns).getD (argBest (λi j=>decide ((n::ns).getD i 0 >(n::ns).getD j 0)) ns.length) 0) (by rw[xbi,xbe a];exact xdq a);have e:(n::ns).getD j 0=bestI true n ns:=by rw[xbi,xbe b,h];rfl
 rw[e] at f;lia
section
variable {X:Cx}
theorem Inv.turnedL{f:List (Addr×Obj)}{σ:St}{H:Hp}{s:Shared}{h':Heap}{t':Nat}{ch:List Addr}(I:Inv X f σ H s)(k:∀b o,b∉ch->s.heap.get? b=some o->h'.get? b=some o)(g:∀b∈ch,FpOk X f H b):Inv X f σ H {s with heap:=h',toks:=t'}:=by
 have d:∀b u,H b=some u->b∉ch:=λb u e z=>by have:=(g b z).1;rw[e] at this;cases this
 have h:X.env.locals∉ch:=λz=>(g _ z).2.1 rfl
 refine I.step (g':=s.gens) (d':=s.drawn) (ch:=ch) (λb x=>?_) (λb o _ _ a e _=>k b o a e) (λb o _ _ a e _=>⟨o.slots,k b o a e⟩) (λ_ _ _ _ n=>n)
  (λb o a e=>⟨o,k b o a e⟩) (λ_ _ e=>e) (λ_ _ _ e=>e) (λb E e=>⟨#[],by rw[e];simp⟩) (λm i=>?_) (λb u e=>?_) I.bare
 ·obtain⟨C,p,G,l,w,y⟩:=g b x;exact⟨l,p,w,y⟩
 ·obtain⟨o,j,t,A,r⟩:=i;exact⟨o,j,t,k _ o h A,r⟩
 ·refine(I.hok b u e).stay (λc v a q=>k c v ?_ q) (λ_ q=>q) λ_ _ q=>q
  rcases a with z|z
  ·rw[z];exact d b u e
  ·exact d c _ z
end
structure ZRec (z TI TO i1 i2 t1 t2:Addr):Prop where
 nd:[z,TI,TO,i1,i2].Nodup
 o1:t1∉[z,TI,TO,i1,i2]
 o2:t2∉[z,TI,TO,i1,i2]
structure ZAt (h:Heap) (z TI TO i1 i2 t1 t2:Addr) (f0:Value) (j:Nat):Prop where
 zip:IsZip h z TI TO f0
 its:IsPair h TI (.ref i1) (.ref i2)
 out:∃a b,IsPair h TO a b
 it1:h.IsTupleIter i1 t1 j
 it2:h.IsTupleIter i2 t2 j
theorem zbbu(a b c d e x:Addr)(h:[a,b,c,d,e].Nodup):a≠b/\a≠c/\a≠d/\a≠e/\b≠c/\b≠d/\b≠e/\c≠d/\c≠e/\d≠e:=by
 simp at h;obtain⟨⟨n,i,k,g⟩,⟨j,o,l⟩,⟨m,p⟩,f⟩:=h;exact⟨n,i,k,g,j,o,l,m,p,f⟩
section
variable {prog:Program}{w:World}{A:Around}{E:Value->Shared->Prop}{s:Shared}{z:Addr}{TI:Addr}{TO:Addr}{i1:Addr}{i2:Addr}{t1:Addr}{t2:Addr}{xs:Array Value}{ys:Array Value}{j:Nat}
theorem zbeg{Q:Fin->Shared->Prop}(hh:A.handled=none)(R:ZRec z TI TO i1 i2 t1 t2)(Z:ZAt s.heap z TI TO i1 i2 t1 t2 .none j)(hx:s.heap.IsTuple t1 xs)(hy:s.heap.IsTuple t2 ys)
  (hQ:∀x y,xs[j]?=some x->ys[j]?=some y->∀g,ZAt g z TI TO i1 i2 t1 t2 (rawInt s.heap.objs.size) (j+1)->IsPair g s.heap.objs.size x y->g.objs.size=s.heap.objs.size+1 ->
   (∀c o,c∉[z,TO,i1,i2]->s.heap.get? c=some o->g.get? c=some o)->Q (.done (.ret (.ref s.heap.objs.size))) {s with heap:=g})
  (hE:xs[j]?=none\/ys[j]?=none->∀ g e,(∀ c o,c∉[z,TO,i1,i2]->s.heap.get? c=some o->g.get? c=some o)->(∃ o,g.get? e=some o/\o.cls=.type "StopIteration")->E (.ref e) { s with heap:=g }):wpAny (model prog w) A (Builtin.«zip.__next__» ⟨[.ref z],[]⟩) Q E s:=by
 obtain⟨n1,U,n3,n4,n5,n6,n7,n8,n9,Y⟩:=zbbu z TI TO i1 i2 0 R.nd;have a1:=R.o1;have a2:=R.o2;simp only[xbl,xgt,xlt,not_or] at a1 a2;obtain⟨p1,p2,p3,p4,p5⟩:=a1;obtain⟨q1,q2,q3,q4,q5⟩:=a2;obtain⟨J,hI,⟨a,b,hO⟩,k1,k2⟩:=Z;refine(?_:wpAny _ _ (field (.ref z) 2 >>= _) Q E s);refine xba (xik J rfl (x:=.bool false) rfl (?_:wpAny _ _ (field (.ref z) 3 >>= _) _ _ _));refine xba (xik J rfl (x:=.ref TI) rfl (xba (xkv hI rfl (?_:wpAny _ _ (Builtin.SmallTypes.ownedTupleIsFree (.ref z) >>= _) _ _ _))));refine xba (m:=Builtin.SmallTypes.ownedTupleIsFree (.ref z)) (show wpAny _ _ (field (.ref z) 0 >>= _) _ _ _ from xba (xik J rfl (x:=.none) rfl (xbg ?_)));simp only[xfl];refine xba (xii (xba (xik J rfl (x:=.ref TO) rfl (xba (xjg J (by simp) λg1 a8 n=>?_)))));have i:IsZip g1 z TI TO .ellipsis:=a8;simp only[xnv,List.zipIdx_cons,List.forIn_nil,List.zipIdx_nil];refine xba (xba (xba (wpAny_onRaise (?_:wpAny _ _ (Builtin.SmallTypes.nextOf (.ref i1) >>= _) _ _ _))));refine xba (zig hh (s:={s with heap:=g1}) (k1.extBut n.extBut (xdj n3)) (hx.extBut n.extBut p1) (λx v g2 k3 r=>xbg ?_) λv g2 G eb he=>?_)
 ·have a4:IsPair g2 TO a b:=r.extBut _ _ n8 (n.extBut _ _ (xdj U) hO);refine xba (xkv a4 rfl (xba (wpAny_updateSeq_pair (s:={s with heap:=g2}) a4 λg3 b3 k=>xba (wpAny_letGo (xbg ?_)))));have a0:IsPair g3 TO x b:=b3;refine xba (xba (wpAny_onRaise (?_:wpAny _ _ (Builtin.SmallTypes.nextOf (.ref i2) >>= _) _ _ _)));refine xba (zig hh (s:={s with heap:=g3}) (((k2.extBut n.extBut (xdj n4)).extBut r.extBut (xdj Y)).extBut k.extBut (xdj n9)) (((hy.extBut n.extBut q1).extBut r.extBut q4).extBut k.extBut q3) (λy C g4 k4 S=>xbg ?_) λC g4 G eb he=>?_)
  ·have X:IsPair g4 TO x b:=S.extBut _ _ n9 a0;refine xba (xkv X rfl (xba (wpAny_updateSeq_pair (s:={s with heap:=g4}) X λf a9 u=>xba (wpAny_letGo (xbg (xbg ?_))))));have t:IsPair f TO x y:=a9;refine xba (xkv t rfl (xba (wpAny_newTuple ?_)));have sz:f.objs.size=s.heap.objs.size:=by rw[u.1,S.1,k.1,r.1,n.1]
   have I:IsZip f z TI TO .ellipsis:=u.extBut _ _ U (S.extBut _ _ n4 (k.extBut _ _ U (r.extBut _ _ n3 i)));have kp:∀c o,c∉[z,TO,i1,i2]->s.heap.get? c=some o->f.get? c=some o:=λc o d e=>by
    simp only[xbl,xgt,xlt,not_or] at d;exact u.extBut _ _ d.2.1 (S.extBut _ _ d.2.2.2 (k.extBut _ _ d.2.1 (r.extBut _ _ d.2.2.1 (n.extBut _ _ d.1 e))))
   have m1:f.IsTupleIter i1 t1 (j+1):=((k3.extBut k.extBut (xdj n8)).extBut S.extBut Y).extBut u.extBut (xdj n8);have m2:f.IsTupleIter i2 t2 (j+1):=k4.extBut u.extBut (xdj n9);have lz:z<f.objs.size:=xbz I;have b0:IsZip (f.push { cls:=.type "tuple",data:=.seq #[x,y] }) z TI TO .ellipsis:=xbh _ I
   refine xba (m:=Builtin.SmallTypes.ownedTupleHandOut (.ref z) (.ref f.objs.size)) (xba (xjg b0 (by simp) λg7 a6 e7=>?_));have H:IsZip g7 z TI TO (rawInt f.objs.size):=a6;refine xjg H (by simp) λP b1 e8=>xbg ?_
   have p:IsZip P z TI TO (rawInt f.objs.size):=b1;have up:∀c o,c≠z->f.get? c=some o->P.get? c=some o:=λc o d e=>e8.extBut _ _ d (e7.extBut _ _ d (xbh _ e))
   have hT:IsPair P f.objs.size x y:=e8.extBut _ _ (xhr lz) (e7.extBut _ _ (xhr lz) (xcb _ rfl));have s8:P.objs.size=f.objs.size+1:=by rw[e8.1,e7.1,xhb]
   rw[sz] at p hT s8;have a7:IsPair f TI (.ref i1) (.ref i2):=kp _ _ (by simp[xdj n1,n5,n6,n7]) hI;have b2:=hQ x y v C P ⟨p,up _ _ (xdj n1) a7,⟨x,y,up _ _ (xdj U) t⟩,m1.at λo e=>up _ o (xdj n3) e,m2.at λo e=>up _ o (xdj n4) e⟩ hT s8 λc o d e=>up c o (λq=>d (by simp[q])) (kp c o d e)
   show Q (.done (.ret (.ref f.objs.size))) _;rw[sz];exact b2
  ·obtain⟨oe,h,l⟩:=he;have a3:IsZip g4 z TI TO .ellipsis:=eb _ _ n4 (k.extBut _ _ U (r.extBut _ _ n3 i));have nz:G≠z:=λq=>by rw[q,a3] at h;cases h;simp at l
   refine xjg a3 (by simp) λf _ u=>hE (.inr C) f G (λc o d e=>?_) ⟨oe,u.extBut _ _ nz h,l⟩
   simp only[xbl,xgt,xlt,not_or] at d;exact u.extBut _ _ d.1 (eb _ _ d.2.2.2 (k.extBut _ _ d.2.1 (r.extBut _ _ d.2.2.1 (n.extBut _ _ d.1 e))))
 ·obtain⟨oe,h,l⟩:=he;have a5:IsZip g2 z TI TO .ellipsis:=eb _ _ n3 i;have nz:G≠z:=λq=>by rw[q,a5] at h;cases h;simp at l
  refine xjg a5 (by simp) λg3 _ k=>hE (.inl v) g3 G (λc o d e=>?_) ⟨oe,k.extBut _ _ nz h,l⟩
  simp only[xbl,xgt,xlt,not_or] at d;exact k.extBut _ _ d.1 (eb _ _ d.2.2.1 (n.extBut _ _ d.1 e))
end
section
variable {prog:Program}{w:World}{A:Around}{E:Value->Shared->Prop}{s:Shared}{z:Addr}{TI:Addr}{TO:Addr}{i1:Addr}{i2:Addr}{t1:Addr}{t2:Addr}{xs:Array Value}{ys:Array Value}{j:Nat}
theorem ztj{Q:Option Value->Shared->Prop}(l:A.handled=none)(R:ZRec z TI TO i1 i2 t1 t2)(Z:ZAt s.heap z TI TO i1 i2 t1 t2 .none j)(p:s.heap.IsTuple t1 xs)(h:s.heap.IsTuple t2 ys)
  (v:∀x y,xs[j]?=some x->ys[j]?=some y->∀g,ZAt g z TI TO i1 i2 t1 t2 (rawInt s.heap.objs.size) (j+1)->IsPair g s.heap.objs.size x y->g.objs.size=s.heap.objs.size+1 ->
   (∀c o,c∉[z,TO,i1,i2]->s.heap.get? c=some o->g.get? c=some o)->Q (some (.ref s.heap.objs.size)) {s with heap:=g})
  (i:xs[j]?=none\/ys[j]?=none->∀g,(∀c o,c∉[z,TO,i1,i2]->s.heap.get? c=some o->g.get? c=some o)->Q none {s with heap:=g}):wpAny (model prog w) A (pyNext (.ref z)) Q E s:=by
 have T:s.TypeIs (.ref z) "zip":=⟨_,Z.zip,rfl⟩
 unfold pyNext;refine xba (xkd (wpAny_callSpecial?_slot (name:=Str.ofString "__next__") T F.slot_zip_next (xep F.slot_zip_next T F.entry_zip_next (zbeg l R Z p h (λx y a d g t r m n=>⟨_,rfl,xbg (v x y a d g t r m n)⟩) λa g e k f=>?_) (F.args_zip_next_1 _))))
 obtain⟨o,u,q⟩:=f;exact xba (xlr (T:="StopIteration") (b:=true) ⟨o,u,q⟩ isSubtype_stop (xbg (i a g k)))
end
def Itz(K:Fg) (a b:Addr):It:=
 ⟨λi H=>∃c d x y,SqT K H a c/\SqT K H b d/\c[i]?=some x/\d[i]?=some y,
  λi H u e=>∃p,H p=none/\u=.ref p/\∀c d x y,SqT K H a c->SqT K H b d->c[i]?=some x->d[i]?=some y->e=upd H p (.tup [x,y]),
  λi H=>∃c d,SqT K H a c/\SqT K H b d/\(c.length<=i\/d.length<=i)⟩
theorem zbep{P:Program}{w:World}{K:Fg}{a4:List Expr}{k:Nat}{a5:Pos}{z TI TO j i2 a b:Addr}(R:ZRec z TI TO j i2 a b):
  Turn P w K (.Tuple a4 k a5) (Itz K a b) [z,TI,TO,j,i2] z (λi h=>ZAt h z TI TO j i2 a b .none i) where
 mem:=by simp
 obj:=λi h f c hc=>by
  obtain⟨u,v,J⟩:=f.out;obtain⟨o1,e1,_,d1⟩:=f.it1;obtain⟨o2,l,_,d2⟩:=f.it2;have d:c=z\/c=TI\/c=TO\/c=j\/c=i2:=by simpa using hc
  rcases d with rfl|rfl|rfl|rfl|rfl
  ·exact⟨_,f.zip,λv q=>by cases(show Data.fields _=Data.cell v from q)⟩
  ·exact⟨_,f.its,λv q=>by cases(show Data.seq _ _=Data.cell v from q)⟩
  ·exact⟨_,J,λv q=>by cases(show Data.seq _ _=Data.cell v from q)⟩
  ·exact⟨o1,e1,λv q=>by rw[d1] at q;cases q⟩
  ·exact⟨o2,l,λv q=>by rw[d2] at q;cases q⟩
 keep:=λi h h' f kk=>by
  obtain⟨u,v,J⟩:=f.out;exact⟨kk z (by simp) _ f.zip,kk TI (by simp) _ f.its,⟨u,v,kk TO (by simp) _ J⟩,f.it1.at λo e=>kk j (by simp) o e,f.it2.at λo e=>kk i2 (by simp) o e⟩
 item:=by
  intro X hP hw hK hc i aU s σ H E I hf f hg;subst hP hw hK;obtain⟨xs,ys,x,y,t,r,hx,hy⟩:=hg;obtain⟨n,C,p1,a8⟩:=I.tuple t;obtain⟨p,G,p2,a9⟩:=I.tuple r;obtain⟨u1,a1,b3⟩:=C.get hx;obtain⟨u2,a0,b2⟩:=G.get hy;refine ztj (I.ok.hd hc) R f (show s.heap.IsTuple a n.toArray from p1) (show s.heap.IsTuple b p.toArray from p2) (λU S e1 l g Z hT b0 kp=>?_) λe=>?_
  ·have f1:U=u1:=by rw[xha,a1] at e1;exact(xcz e1).symm
   have f2:S=u2:=by rw[xha,a0] at l;exact(xcz l).symm
   subst f1 f2;refine⟨_,rfl,wpAny_letOwnedTupleGo_zip Z.zip λg2 a7 Y=>?_⟩;have a3:∀c∈[z,TI,TO,j,i2],c<s.heap.objs.size:=λc d=>by
    obtain⟨uu,vv,J⟩:=f.out;obtain⟨o1,e1,_⟩:=f.it1;obtain⟨o2,l,_⟩:=f.it2;have a6:c=z\/c=TI\/c=TO\/c=j\/c=i2:=by simpa using d
    rcases a6 with rfl|rfl|rfl|rfl|rfl
    ·exact xbz f.zip
    ·exact xbz f.its
    ·exact xbz J
    ·exact xbz e1
    ·exact xbz l
   have b1:=a3 z (by simp);have I1:Inv X aU σ (upd H s.heap.objs.size (.tup [x,y])) { s with heap:=s.heap.push { cls:=.type "tuple",data:=.seq #[U,S] },toks:=s.toks }:=
    I.laid (λ_ _ q=>xbh _ q) (xbj _) ⟨by simp;decide,[U,S],.cons b3 (.cons b2 .nil),⟨_,xcb _ rfl,rfl,_,rfl⟩⟩
   have a2:∀c∈[z,TI,TO,j,i2],FpOk X aU (upd H s.heap.objs.size (.tup [x,y])) c:=λc d=>by
    obtain⟨f0,fr⟩:=hf c d;exact⟨by rw[zo (xch (a3 c d))];exact f0,fr⟩
   have I2:Inv X aU σ (upd H s.heap.objs.size (.tup [x,y])) {s with heap:=g2,toks:=s.toks}:=by
    refine Inv.turnedL (s:={ s with heap:=s.heap.push { cls:=.type "tuple",data:=.seq #[U,S] },toks:=s.toks }) (h':=g2) (t':=s.toks) (ch:=[z,TI,TO,j,i2]) I1 (λc o d q=>?_) a2
    have q':(s.heap.push { cls:=.type "tuple",data:=.seq #[U,S] }).get? c=some o:=q
    have cz:c≠z:=λe=>d (by simp[e])
    rcases Heap.get?_push_cases q' with⟨e1,l⟩|e1
    ·rw[e1,l];exact Y.extBut _ _ (xhr b1) hT
    ·exact Y.extBut _ _ cz (kp c o (λm=>d (by simp at m ⊢;rcases m with m|m|m|m<;>simp[m])) e1)
   obtain⟨d1,d2,d3,d4,_⟩:=zbbu z TI TO j i2 0 R.nd;obtain⟨uu,vv,J⟩:=Z.out;refine⟨.ref s.heap.objs.size,_,I2,rfl,⟨s.heap.objs.size,I.fresh,rfl,λas bs x' y' ha hb ex ey=>?_⟩,⟨a7,Y.extBut _ _ (xdj d1) Z.its,⟨uu,vv,Y.extBut _ _ (xdj d2) J⟩,Z.it1.extBut Y.extBut (xdj d3),Z.it2.extBut Y.extBut (xdj d4)⟩,λc d=>(a2 c d).1⟩;rw[I.tuple_inj ha t,hx] at ex;rw[I.tuple_inj hb r,hy] at ey;cases ex;cases ey
   rfl
  ·rcases e with e|e
   ·rw[xha,a1] at e;cases e
   ·rw[xha,a0] at e;cases e
 done:=by
  intro X hP hw hK hc i aU s σ H E I hf f hg;subst hP hw hK;obtain⟨xs,ys,t,r,hl⟩:=hg;obtain⟨n,C,p1,a8⟩:=I.tuple t;obtain⟨p,G,p2,a9⟩:=I.tuple r;have l1:=C.length;have l2:=G.length;refine ztj (I.ok.hd hc) R f (show s.heap.IsTuple a n.toArray from p1) (show s.heap.IsTuple b p.toArray from p2) (λU S e1 l g Z hT b0 kp=>?_) λ_ g kp=>⟨rfl,I.turnedL (t':=s.toks) (ch:=[z,TI,TO,j,i2]) (λc o d e=>kp c o (λm=>d (by simp at m ⊢;rcases m with m|m|m|m<;>simp[m])) e) hf⟩
  rw[xha] at e1 l;have g1:=(xbd.mp e1).1;have g2:=(xbd.mp l).1;lia
 self:=λA i s Q E f h=>wpAny_pyIter_zip f.zip h
noncomputable abbrev tupIt(l:Addr):Obj:={ cls:=.type "tuple_iterator",data:=.fields #[.ref l,.int 0 0] }
noncomputable abbrev two(a b:Value):Obj:={ cls:=.type "tuple",data:=.seq #[a,b] }
noncomputable abbrev zipOb(a b:Addr):Obj:={ cls:=.type "zip",data:=.fields #[.none,.bool false,.bool false,.ref a,.ref b] }
abbrev lay1(h:Heap) (a:Addr):Heap:=h.push (tupIt a)
abbrev lay2(h:Heap) (b a:Addr):Heap:=(lay1 h b).push (tupIt a)
abbrev lay3(h:Heap) (a b:Addr):Heap:=(lay2 h a b).push (two (.ref h.objs.size) (.ref (lay1 h a).objs.size))
abbrev lay4(h:Heap) (b a:Addr):Heap:=(lay3 h b a).push (two .none .none)
abbrev lay5(h:Heap) (b a:Addr):Heap:=(lay4 h b a).push (zipOb (lay2 h b a).objs.size (lay3 h b a).objs.size)
theorem zbeh(a b:Addr)(xs ys:Array Value):
  Meets (Builtin.«zip.__new__» ⟨[.type "zip",.ref a,.ref b],[]⟩) (λ_ R s=>s.heap.IsTuple a xs/\s.heap.IsTuple b ys/\R (.ok (.ret (.ref (lay4 s.heap a b).objs.size))) { s with heap:=lay5 s.heap a b }):=
 .of_wp λj w A R s h=>by
  obtain⟨i,g,d,f,os⟩:=s;obtain⟨l,k,h⟩:=h;have sub:=sub_zip;have c:Heap.IsTuple (Shared.heap ⟨i,g,d,f,os⟩) a xs:=l;have e:Heap.IsTuple (Shared.heap ⟨i.push (tupIt a),g,d,f,os⟩) b ys:=k.push _
  wp_walk using xhx c,xhx e
  exact⟨_,rfl,h⟩
theorem zuq{n b a:Nat}(f:b<n)(d:a<n):ZRec (n+4) (n+2) (n+3) n (n+1) b a/\∀c∈[n+4,n+2,n+3,n,n+1],n<=c:=
 have q:∀{l:Nat},l<n->l∉[n+4,n+2,n+3,n,n+1]:=λ{l} h m=>by
  simp only[xbl,xgt,xlt] at m;lia
 ⟨⟨by simp,q f,q d⟩,λc e=>by simp at e;lia⟩
theorem zbbj{s:Shared}(r:s.heap.IsTuple l1 xs)(q:s.heap.IsTuple l2 ys)
  (h:∀g z TI TO m i,ZRec z TI TO m i l1 l2->ZAt g z TI TO m i l1 l2 .none 0->(∀c∈[z,TI,TO,m,i],s.heap.objs.size<=c) ->
   (∀ c o,s.heap.get? c=some o->g.get? c=some o)->Q (.ref z) { s with heap:=g }):wpAny (model prog w) A (call (.type "zip") [.ref l1,.ref l2]) Q E s:=by
 have b:l1<s.heap.objs.size:=by obtain⟨_,e,_⟩:=r;exact xbz e
 have a:l2<s.heap.objs.size:=by obtain⟨_,e,_⟩:=q;exact xbz e
 refine callType_new F.called_zip (by decide) (F.typeCall_zip_2 _ _) (F.newCall_zip_2 _ _) (λk=>F.args_object_init_3 k _ _) F.entry_zip_new (zbeh l1 l2 xs ys) ⟨r,q,?_⟩;have f:(lay1 s.heap l1).objs.size=s.heap.objs.size+1:=xhb ..
 have l:(lay2 s.heap l1 l2).objs.size=s.heap.objs.size+2:=(xhb ..).trans (by rw[f]);have d:(lay3 s.heap l1 l2).objs.size=s.heap.objs.size+3:=(xhb ..).trans (by rw[l]);have n:(lay4 s.heap l1 l2).objs.size=s.heap.objs.size+4:=(xhb ..).trans (by rw[d]);have p:(lay5 s.heap l1 l2).get? (lay4 s.heap l1 l2).objs.size=some _:=xcb _ rfl;have u:(lay5 s.heap l1 l2).get? (lay3 s.heap l1 l2).objs.size=some _:=xbh _ (xcb _ rfl);have x:(lay5 s.heap l1 l2).get? (lay2 s.heap l1 l2).objs.size=some _:=xbh _ (xbh _ (xcb _ rfl));have t:(lay5 s.heap l1 l2).get? (lay1 s.heap l1).objs.size=some _:=xbh _ (xbh _ (xbh _ (xcb _ rfl)));have v:(lay5 s.heap l1 l2).get? s.heap.objs.size=some _:=xbh _ (xbh _ (xbh _ (xbh _ (xcb _ rfl))));have j:=h (lay5 s.heap l1 l2) (lay4 s.heap l1 l2).objs.size (lay2 s.heap l1 l2).objs.size (lay3 s.heap l1 l2).objs.size s.heap.objs.size (lay1 s.heap l1).objs.size
  (by rw[n,d,l,f];exact(zuq b a).1) ⟨p,x,⟨_,_,u⟩,⟨_,v,rfl,rfl⟩,⟨_,t,rfl,rfl⟩⟩
  (by rw[n,d,l,f];exact(zuq b a).2) λc o e=>xbh _ (xbh _ (xbh _ (xbh _ (xbh _ e))))
 exact⟨⟨_,p,rfl⟩,j⟩
def iZip(K:Fg) (e:TA):TI:=λσ H R=>e σ H λd H1=>∃a b,d=[.ref a,.ref b]/\(∃c,SqT K H1 a c)/\(∃c,SqT K H1 b c)/\R (Itz K a b) H1
section
variable {X:Cx}
theorem zbsj{j:List Expr}{k:Nat}{n p i:Pos}{a b:Expr}{u:TA}(v:Gl X "zip")(Q:X.mg "zip"=none)(ha:PA X [a,b] u)
  (P:starEach [a,b] X.env=[(false,eval a X.env),(false,eval b X.env)]:=by rfl)(d:starEach [b] X.env=[(false,eval b X.env)]:=by rfl):
  PI X (.Tuple j k n) (.Call (.Name "zip" p) [a,b] [] i) (iZip X.K u):=by
 intro x s σ H R I h;refine Call_ (zoz I v Q PyProof.Rows.boot_zip (xhs (thn (ha i x s σ H _ I h) λus r ⟨vs,H1,l,r1,U⟩=>?_) (by rw[P,d]) (by rw[d];rfl)));obtain⟨a,b,e,⟨xs,hx⟩,⟨ys,hy⟩,q⟩:=U;subst e;obtain⟨u1,u2,rfl,y,S⟩:=vals2 r1;cases y;cases S;obtain⟨m,w,Y,J⟩:=l.tuple hx;obtain⟨o,G,p2,a0⟩:=l.tuple hy;refine zbbj (show r.heap.IsTuple a m.toArray from Y) (show r.heap.IsTuple b o.toArray from p2) λg z TI TO E C R Z f A=>?_
 refine wpAny_pyIter_zip Z.zip ?_;exact⟨z,[z,TI,TO,E,C],_,_,H1,rfl,l.kept (t':=r.toks) A,zbep R,Z,λc t=>l.fpOk (f c t) (l.hok.fresh (f c t)),q⟩
end
end L2
namespace Dd
open L2
set_option genInjectivity true in
inductive D where
 |non|bl (b:Bool)|int (i:Int)|str (x:Str)|ty (n:String)|ref (n:Nat)|tup (ds:List D)|lst (ds:List D)|scr (ds:List D)|exn (c:Str) (l:List Int)
set_option genInjectivity true in
inductive O where
 /-- a list that may change;a dict by tuples of ints;one that is only read;gone -/
 |lst (xs:List D)|dT (kvs:List (List Int×D))|fT (kvs:List (List Int×D))|dead
 /-- a dict by ints -/
 |dI (kvs:List (Int×D))
 /-- a dict by tuples of tuples of ints,each True -/
 |dP (ks:List (List (List Int)))
 /-- the law's table of codes -/
 |tab
noncomputable abbrev Store:=List O
structure Exc where
 cls:Str
 at_:List Int
set_option genInjectivity true in
inductive Res (α:Type) where
 |ok (a:α) (au:Store)|exc (x:Exc) (au:Store)|stuck
def Res.bind{α β:Type}:Res α->(α->Store->Res β)->Res β
 |.ok a au,f=>f a au
 |.exc x au,_=>.exc x au
 |.stuck,_=>.stuck
@[simp] theorem zbb {α β:Type}(a:α) (au:Store) (f:α->Store->Res β):(Res.ok a au).bind f=f a au:=rfl
@[simp] theorem zbvs {α β:Type}(x:Exc) (au:Store) (f:α->Store->Res β):(Res.exc x au:Res α).bind f=.exc x au:=rfl
@[simp] theorem zbqf {α β:Type}(f:α->Store->Res β):(Res.stuck:Res α).bind f=.stuck:=rfl
theorem za{α β:Type}{r:Res α}{f:α->Store->Res β}{b:β}{st':Store}(h:r.bind f=.ok b st'):∃a c,r=.ok a c/\f a c=.ok b st':=by
 cases r with
 |ok a c=>exact⟨a,c,rfl,h⟩
 |exc x c=>cases h
 |stuck=>cases h
noncomputable abbrev DS:=List (Option D)
abbrev SE:=DS->Store->Res D
abbrev ST:=DS->Store->Res Bool
abbrev SA:=DS->Store->Res (List D)
set_option genInjectivity true in
inductive Fl where
 |nx (σ:DS)|ret (v:D)|brk (σ:DS)|ct (σ:DS)
abbrev SS:=DS->Store->Res Fl
abbrev DFn:=List D->Store->Res D
structure Loc where
 m:List (Option Addr)
 g:List Addr
def Out(ρ:Loc) (a:Addr):Prop:=some a∉ρ.m/\a∉ρ.g
def Ls(K:Fg) (ρ:Loc) (H:Hp) (a:Addr) (b:List V):Prop:=(Rd H a (.lst b)/\Out ρ a)\/∀c:Hp,SqL K c a b
def XAt(K:Fg) (ρ:Loc) (H:Hp) (c:Str) (l:List Int) (a:Addr):Prop:=∃C o,W.nsIn K mainGlobals c=some (some (.ref C))/\(H a=some (.frz o (.ext λ_=>True))/\Out ρ a)/\o.cls=.ref C/\(∃d,o.data=.fields d/\d[2]?=some .none) /\
 ((l=[]/\o.dict=none)\/∃ i b e,l=[i]/\o.dict=some b/\H b=some (.frz e (.xd [("at",.int i)]))/\Out ρ b)
theorem XAt.map{K:Fg}(h:XAt K ρ H c l a)(f:∀b j u,H b=some (.frz j u)->Out ρ b->H' b=some (.frz j u)/\Out ρ' b):XAt K ρ' H' c l a:=by
 obtain⟨C,o,s,e,p,m,d⟩:=h;refine⟨C,o,s,f _ _ _ e.1 e.2,p,m,?_⟩;rcases d with d|⟨i,t,r,n,q,g,k⟩
 ·exact .inl d
 ·exact .inr ⟨i,t,r,n,q,(f _ _ _ g k).1,(f _ _ _ g k).2⟩
mutual
inductive At (K:Fg) (ρ:Loc) (H:Hp):D->V->Prop
 |non:At K ρ H .non .non
 |bl (b:Bool):At K ρ H (.bl b) (.bl b)
 |int (i:Int):At K ρ H (.int i) (.int i)
 |str (x:Str):At K ρ H (.str x) (.str x)
 |ty (n:String):At K ρ H (.ty n) (.ty n)
 |ref {n:Nat}{v:V}:n < ρ.m.length->(∀a,ρ.m[n]?=some (some a)->v=.ref a)->At K ρ H (.ref n) v
 |tup {a:Addr}{ds:List D}{vs:List V}:H a=some (.tup vs)->Out ρ a->AtAll K ρ H ds vs->At K ρ H (.tup ds) (.ref a)
 |lst {a:Addr}{ds:List D}{vs:List V}:H a=some (.lst vs)->Out ρ a->AtAll K ρ H ds vs->At K ρ H (.lst ds) (.ref a)
 |scr {a:Addr}{ds:List D}{vs:List V}:Ls K ρ H a vs->AtAll K ρ H ds vs->At K ρ H (.scr ds) (.ref a)
 |exn {c:Str}{l:List Int}{a:Addr}:XAt K ρ H c l a->At K ρ H (.exn c l) (.ref a)
inductive AtAll (K:Fg) (ρ:Loc) (H:Hp):List D->List V->Prop
 |nil:AtAll K ρ H [] []
 |cons {d:D}{ds:List D}{v:V}{vs:List V}:At K ρ H d v->AtAll K ρ H ds vs->AtAll K ρ H (d::ds) (v::vs)
end
structure Mv (ρ:Loc) (H:Hp) (ρ':Loc) (H':Hp):Prop where
 out:∀{a:Addr}{o:HO},H a=some o->Out ρ a->H' a=some o/\Out ρ' a
 len:ρ.m.length<=ρ'.m.length
 old:∀(n:Nat) (a:Addr),n < ρ.m.length->ρ'.m[n]?=some (some a)->ρ.m[n]?=some (some a)
theorem Ls.mv{K:Fg}(x:Mv ρ H ρ' H')(h:Ls K ρ H a vs):Ls K ρ' H' a vs:=by
 rcases h with⟨h|⟨o,h⟩,n⟩|h
 ·exact .inl ⟨.inl (x.out h n).1,(x.out h n).2⟩
 ·exact .inl ⟨.inr ⟨o,(x.out h n).1⟩,(x.out h n).2⟩
 ·exact .inr h
theorem At.mv{K:Fg}(x:Mv ρ H ρ' H') (h:At K ρ H d v):At K ρ' H' d v:=
 At.rec (motive_1:=λd v _=>At K ρ' H' d v) (motive_2:=λd v _=>AtAll K ρ' H' d v) .non .bl .int .str .ty (λh e=>.ref (xbm h x.len) λa q=>e a (x.old _ a h q)) (λh n _ c=>.tup (x.out h n).1 (x.out h n).2 c) (λh n _ c=>.lst (x.out h n).1 (x.out h n).2 c) (λh _ c=>.scr (h.mv x) c) (λh=>.exn (h.map λ_ _ _ e n=>x.out e n)) .nil (λ_ _ a b=>.cons a b) h
theorem AtAll.mv{K:Fg}(x:Mv ρ H ρ' H') (h:AtAll K ρ H d v):AtAll K ρ' H' d v:=
 AtAll.rec (motive_1:=λ_ _ _=>True) (motive_2:=λd v _=>AtAll K ρ' H' d v) trivial (λ_=>trivial) (λ_=>trivial) (λ_=>trivial) (λ_=>trivial) (λ_ _=>trivial) (λ_ _ _ _=>trivial) (λ_ _ _ _=>trivial) (λ_ _ _=>trivial) (λ_=>trivial) .nil (λa _ _ b=>.cons (a.mv x) b) h
structure Ext (ρ:Loc) (H:Hp) (ρ':Loc) (H':Hp):Prop where
 len:ρ.m.length<=ρ'.m.length
 old:∀(n:Nat) (a:Addr),n < ρ.m.length->ρ'.m[n]?=some (some a)->ρ.m[n]?=some (some a)
 keep:∀a o,H a=some o->some a∉ρ.m->H' a=some o/\some a∉ρ'.m
 gho:ρ'.g=ρ.g
 frz:∀a ob u,H a=some (.frz ob u)->H' a=some (.frz ob u)
theorem Ext.out(x:Ext ρ H ρ' H') (h:H a=some o)(n:Out ρ a):H' a=some o/\Out ρ' a:=
 ⟨(x.keep a o h n.1).1,(x.keep a o h n.1).2,by rw[x.gho];exact n.2⟩
theorem Ext.mv(x:Ext ρ H ρ' H'):Mv ρ H ρ' H':=⟨λh n=>x.out h n,x.len,x.old⟩
theorem Ls.sq{K:Fg}(h:Ls K ρ H a vs):SqL K H a vs:=by
 rcases h with h|h
 ·exact .inl h.1
 ·exact h H
theorem Ext.refl(ρ:Loc)(H:Hp):Ext ρ H ρ H:=⟨xbj _,λ_ _ _ e=>e,λ_ _ e n=>⟨e,n⟩,rfl,λ_ _ _ e=>e⟩
theorem Ext.trans(a:Ext ρ H ρ1 H1)(b:Ext ρ1 H1 ρ2 H2):Ext ρ H ρ2 H2:=
 ⟨xbc a.len b.len,λn c h e=>a.old n c h (b.old n c (xbm h a.len) e),λc o e n=>by
  obtain⟨g,f⟩:=a.keep c o e n
  exact b.keep c o g f,b.gho.trans a.gho,λc d u e=>b.frz c d u (a.frz c d u e)⟩
theorem At.ext{K:Fg}(x:Ext ρ H ρ' H') (h:At K ρ H d v):At K ρ' H' d v:=h.mv x.mv
theorem AtAll.ext{K:Fg}(x:Ext ρ H ρ' H') (h:AtAll K ρ H d v):AtAll K ρ' H' d v:=h.mv x.mv
theorem AtAll.length{K:Fg}:∀{a:List D}{b:List V},AtAll K ρ H a b->b.length=a.length
 |_,_,.nil=>rfl
 |_,_,.cons _ t=>by rw[xbt,xbt,AtAll.length t]
theorem AtAll.get{K:Fg}:∀{b:List D}{c:List V}{i:Nat}{d:D},AtAll K ρ H b c->b[i]?=some d->∃v,c[i]?=some v/\At K ρ H d v
 |_,_,_,_,.nil,e=>by simp at e
 |_,_,0,_,.cons a _,e=>by simp at e;subst e;exact⟨_,rfl,a⟩
 |_,_,i+1,d,.cons _ t,e=>by
  obtain⟨u,f,g⟩:=AtAll.get (i:=i) (d:=d) t (by simpa using e);exact⟨u,by simpa using f,g⟩
theorem AtAll.append{K:Fg}:∀{c e:List D}{f d:List V},AtAll K ρ H c f->AtAll K ρ H e d->AtAll K ρ H (c++e) (f++d)
 |_,_,_,_,.nil,b=>b
 |_,_,_,_,.cons a t,b=>.cons a (AtAll.append t b)
theorem AtAll.take{K:Fg}:∀{b:List D}{c:List V}(n:Nat),AtAll K ρ H b c->AtAll K ρ H (b.take n) (c.take n)
 |_,_,0,_=>.nil
 |_,_,_+1,.nil=>.nil
 |_,_,n+1,.cons a t=>.cons a (AtAll.take n t)
theorem AtAll.drop{K:Fg}:∀{b:List D}{c:List V}(n:Nat),AtAll K ρ H b c->AtAll K ρ H (b.drop n) (c.drop n)
 |_,_,0,h=>h
 |_,_,_+1,.nil=>.nil
 |_,_,n+1,.cons a t=>AtAll.drop n t
theorem AtAll.set{K:Fg}(a:At K ρ H d v):∀{c:List D}{e:List V}(n:Nat),AtAll K ρ H c e->AtAll K ρ H (c.set n d) (e.set n v)
 |_,_,_,.nil=>.nil
 |_,_,0,.cons _ t=>.cons a t
 |_,_,n+1,.cons b t=>.cons b (AtAll.set a n t)
def KvAt(K:Fg) (ρ:Loc) (H:Hp):List (List Int×D)->List (List Key×V)->Prop:=Paired λp q=>q.1=p.1.map Sum.inl/\At K ρ H p.2 q.2
theorem KvAt.ext{K:Fg}(x:Ext ρ H ρ' H') (h:KvAt K ρ H a b):KvAt K ρ' H' a b:=Paired.mapP h λp q z=>⟨z.1,z.2.ext x⟩
noncomputable abbrev lamQ:Str:=(("law" : Str)++".<locals>.")++"<lambda>"
def TabOk(H:Hp) (f:Array Value):Prop:=TriplesOk f.toList/\∀a d,codeAmong a f.toList=some d->∃c b e t,d=.ref c/\H c=some (.frz b (.ext λ_=>True))/\b.data=.fields e/\e[1]?=some (.str lamQ t)
theorem TabOk.map(h:TabOk H ps)(f:∀b d u,H b=some (.frz d u)->H' b=some (.frz d u)):TabOk H' ps:=
 ⟨h.1,λa l e=>by obtain⟨c,j,m,t,k,i,g⟩:=h.2 a l e;exact⟨c,j,m,t,k,f _ _ _ i,g⟩⟩
def KiAt(K:Fg) (ρ:Loc) (H:Hp):List (Int×D)->List (Key×V)->Prop:=Paired λp q=>q.1=Sum.inl p.1/\At K ρ H p.2 q.2
theorem KiAt.ext{K:Fg}(x:Ext ρ H ρ' H') (h:KiAt K ρ H a b):KiAt K ρ' H' a b:=Paired.mapP h λp q z=>⟨z.1,z.2.ext x⟩
noncomputable def PDict(a:Addr) (d:List DictEntry):Heap->Prop:=λh=>∃o b c,h.get? a=some o/\o.ExactDict/\o.data=.dict b c/\b.toList=d
noncomputable def hashP(k:List (List Int)):Int:=reduceHash (Builtin.Tuple.tupleHashOf (k.map λr=>reduceHash (Builtin.Tuple.tupleHashOf (r.map hashInt))))
noncomputable def nestD(k:List (List Int)):D:=.tup (k.map λr=>.tup (r.map .int))
def KpAt(K:Fg) (ρ:Loc) (H:Hp):List (List (List Int))->List DictEntry->Prop:=Paired λk e=>e.hash=hashP k/\e.val=.bool true/\∃b,e.key=.ref b/\At K ρ H (nestD k) (.ref b)
theorem KpAt.map{K:Fg}(k:∀d v,At K ρ H d v->At K ρ' H' d v) (h:KpAt K ρ H a b):KpAt K ρ' H' a b:=Paired.mapP h λp q ⟨e,f,c,i,g⟩=>⟨e,f,c,i,k _ _ g⟩
def OAt(K:Fg) (ρ:Loc) (H:Hp):O->Addr->Prop
 |.lst xs,a=>∃b,H a=some (.lst b)/\AtAll K ρ H xs b
 |.dT kvs,a=>∃b,H a=some (.dT b)/\KvAt K ρ H kvs b
 |.fT kvs,a=>∃b f,H a=some (.frz f (.dT b))/\KvAt K ρ H kvs b
 |.dI kvs,a=>∃b,H a=some (.dK b)/\KiAt K ρ H kvs b
 |.dP ks,a=>∃e,H a=some (.ext (PDict a e))/\(a==sysModules)=false/\ks.length<=sizeLine/\ks.Nodup/\KpAt K ρ H ks e
 |.dead,_=>False
 |.tab,a=>(∃ c,W.tabIn K "law"=some (c,a))/\∃ d,H a=some (.tbl d)/\TabOk H d
structure Rep (K:Fg) (ρ:Loc) (au:Store) (H:Hp):Prop where
 len:ρ.m.length=au.length
 inj:∀(n m:Nat) (a:Addr),ρ.m[n]?=some (some a)->ρ.m[m]?=some (some a)->n=m
 obj:∀(n:Nat) (a:Addr) (o:O),ρ.m[n]?=some (some a)->au[n]?=some o->OAt K ρ H o a
 gh:∀a∈ρ.g,(∃vs,H a=some (.lst vs))/\some a∉ρ.m
 live:∀(n:Nat) (o:O),au[n]?=some o->o≠.dead->∃a,ρ.m[n]?=some (some a)
def AtO(K:Fg) (ρ:Loc) (H:Hp) (o:Option D) (v:Option V):Prop:=∀d,o=some d->∃u,v=some u/\At K ρ H d u
abbrev AtS(K:Fg) (ρ:Loc) (H:Hp):DS->St->Prop:=Paired (AtO K ρ H)
theorem AtS.ext{K:Fg}(x:Ext ρ H ρ' H') (h:AtS K ρ H σ τ):AtS K ρ' H' σ τ:=Paired.mapP h λo v z d e=>by
 obtain⟨u,b,a⟩:=z d e;exact⟨u,b,a.ext x⟩
theorem AtS.get{K:Fg}:∀{σ:DS}{τ:St}{i:Nat}{d:D},AtS K ρ H σ τ->σ[i]?=some (some d)->∃u,τ[i]?=some (some u)/\At K ρ H d u
 |_,_,_,_,.nil,e=>by simp at e
 |_,_,0,_,.cons a _,e=>by
  simp at e;subst e
  obtain⟨u,f,h⟩:=a _ rfl;exact⟨u,by simp[f],h⟩
 |_,_,i+1,d,.cons _ t,e=>by
  obtain⟨u,b,c⟩:=AtS.get (i:=i) (d:=d) t (by simpa using e);exact⟨u,by simpa using b,c⟩
theorem AtS.set{K:Fg}(a:At K ρ H d v):∀{σ:DS}{τ:St}(i:Nat),AtS K ρ H σ τ->AtS K ρ H (σ.set i (some d)) (τ.set i (some v))
 |_,_,_,.nil=>.nil
 |_,_,0,.cons _ t=>.cons (λb e=>by cases e;exact⟨v,rfl,a⟩) t
 |_,_,i+1,.cons q t=>.cons q (AtS.set a i t)
def tD(K:Fg) (f:SE):TE:=λτ H Q=>∃ρ σ d v a,AtS K ρ H σ τ/\Rep K ρ d H/\f σ d=.ok v a/\∀c b u,Ext ρ H c b->Rep K c a b->At K c b v u->Q u b
def tDT(K:Fg) (f:ST):TT:=λτ H Q=>∃ρ σ c v a,AtS K ρ H σ τ/\Rep K ρ c H/\f σ c=.ok v a/\∀d b,Ext ρ H d b->Rep K d a b->Q v b
def tDA(K:Fg) (f:SA):TA:=λτ H Q=>∃ρ σ d v a,AtS K ρ H σ τ/\Rep K ρ d H/\f σ d=.ok v a/\∀c b u,Ext ρ H c b->Rep K c a b->AtAll K c b v u->Q u b
def FlOk(K:Fg) (ρ:Loc) (H:Hp) (c:Store) (E:Ends):Fl->Prop
 |.nx σ=>∀b a τ,Ext ρ H b a->Rep K b c a->AtS K b a σ τ->E.nx τ a
 |.brk σ=>∀b a τ,Ext ρ H b a->Rep K b c a->AtS K b a σ τ->E.bk τ a
 |.ct σ=>∀b a τ,Ext ρ H b a->Rep K b c a->AtS K b a σ τ->E.ct τ a
 |.ret v=>∀b a u,Ext ρ H b a->Rep K b c a->At K b a v u->E.rt u a
theorem FlOk.ext{K:Fg}(x:Ext ρ H ρ1 H1)(h:FlOk K ρ H st' E fl):FlOk K ρ1 H1 st' E fl:=by
 cases fl with
 |nx σ=>exact λb a τ e=>h b a τ (x.trans e)
 |brk σ=>exact λb a τ e=>h b a τ (x.trans e)
 |ct σ=>exact λb a τ e=>h b a τ (x.trans e)
 |ret v=>exact λb a τ e=>h b a τ (x.trans e)
def tDS(K:Fg) (f:SS):TS:=λE τ H=>∃ρ σ b c a,AtS K ρ H σ τ/\Rep K ρ b H/\f σ b=.ok c a/\FlOk K ρ H a E c
abbrev DE(X:Cx) (e:Expr) (f:SE):Prop:=PE X e (tD X.K f)
abbrev DT(X:Cx) (e:Expr) (f:ST):Prop:=PT X e (tDT X.K f)
abbrev DW(X:Cx) (e:Expr) (f:ST):Prop:=PW X e (tDT X.K f)
abbrev DA(X:Cx) (a:List Expr) (f:SA):Prop:=PA X a (tDA X.K f)
abbrev DSt(X:Cx) (s:Stmt) (f:SS):Prop:=PS X s (tDS X.K f)
abbrev DSs(X:Cx) (s:List Stmt) (f:SS):Prop:=PSs X s (tDS X.K f)
theorem zgc(h:PE X e t)(k:∀σ H Q,t' σ H Q->t σ H Q):PE X e t':=λa s σ H Q I q=>h a s σ H Q I (k _ _ _ q)
theorem zbjs(h:PT X e t)(k:∀σ H Q,t' σ H Q->t σ H Q):PT X e t':=λa s σ H Q I q=>h a s σ H Q I (k _ _ _ q)
theorem pw_to(h:PW X e t)(k:∀σ H Q,t' σ H Q->t σ H Q):PW X e t':=λa b s σ H Q I q=>h a b s σ H Q I (k _ _ _ q)
theorem zbwt(h:PA X es t)(k:∀σ H Q,t' σ H Q->t σ H Q):PA X es t':=λa b s σ H Q I q=>h a b s σ H Q I (k _ _ _ q)
theorem zti(h:PS X s t)(k:∀E σ H,t' E σ H->t E σ H):PS X s t':=λa z σ H E I q=>h a z σ H E I (k _ _ _ q)
theorem zblo(h:PSs X ss t)(k:∀E σ H,t' E σ H->t E σ H):PSs X ss t':=λa z σ H E I q=>h a z σ H E I (k _ _ _ q)
def aA(i:Nat):SE:=λσ a=>match σ[i]? with
 |some (some d)=>.ok d a
 |_=>.stuck
def eC(d:D):SE:=λ_ a=>.ok d a
theorem zbyq(h:PE X e (tVar i)):DE X e (aA i):=zgc h λτ H Q b=>by
 obtain⟨ρ,σ,k,v,j,a,r,e,q⟩:=b;unfold aA at e;split at e
 ·rename_i d g;cases e;obtain⟨u,f,c⟩:=a.get g;exact⟨u,f,q ρ H u (.refl _ _) r c⟩
 ·cases e
theorem zbvg(h:PE X e (tC v))(k:∀ρ H,At X.K ρ H d v):DE X e (eC d):=zgc h λτ H Q b=>by
 obtain⟨ρ,σ,f,v,c,a,r,e,q⟩:=b;cases e;exact q ρ H _ (.refl _ _) r (k _ _)
theorem zbyy{i j pos}:DE X (.Constant (.int i) j pos) (eC (.int i)):=zbvg zbsr λ_ _=>.int i
theorem d_bl{b j pos}:DE X (.Constant (.bool b) j pos) (eC (.bl b)):=zbvg zbxu λ_ _=>.bl b
def aS(g:D->D->Store->Res D) (f d:SE):SE:=λσ c=>(f σ c).bind λx a=>(d σ a).bind λy b=>g x y b
def eUn(g:D->Store->Res D) (f:SE):SE:=λσ b=>(f σ b).bind λx a=>g x a
def OpD(K:Fg) (g:D->D->Store->Res D) (r:R2):Prop:=
 ∀ρ H d x y u v z a (Q:VK),Rep K ρ d H->At K ρ H x u->At K ρ H y v->g x y d=.ok z a->(∀c b w,Ext ρ H c b->Rep K c a b->At K c b z w->Q w b)->r u v H Q
theorem zbqx{K:Fg}(o:OpD K g r):∀τ H Q,tD K (aS g f f') τ H Q->tOp r (tD K f) (tD K f') τ H Q:=λτ H Q h=>by
 obtain⟨ρ,σ,I,v,j,a,n,e,q⟩:=h;obtain⟨x,c,p,e⟩:=za e;obtain⟨y,b,A,e⟩:=za e;refine⟨ρ,σ,I,x,c,a,n,p,λP H1 u m d C=>?_⟩;refine⟨P,σ,c,y,b,a.ext m,d,A,λt H2 w l i G=>?_⟩;exact o t H2 b x y u w v j Q i (C.ext l) G e λE S z J k s=>q E S z (m.trans (l.trans J)) k s
theorem d_op(h:OpR X (binaryOp op) r)(c:OpD X.K g r)(e:DE X a f)(d:DE X b f'):DE X (.BinOp a op b pos) (aS g f f'):=zgc (zbxs h e d) (zbqx c)
theorem zbza(i:OpR X (compareOp op) r)(c:OpD X.K g r)(d:DE X a f)(e:DE X b f')(h:behindInMarks op b=false):DE X (.Compare a [op] [b] pos) (aS g f f'):=zgc (zbmj i d e h) (zbqx c)
def eB(f:SE):ST:=λσ c=>(f σ c).bind λv a=>match v with
 |.bl b=>.ok b a
 |_=>.stuck
theorem eB_t{K:Fg}:∀τ H Q,tDT K (eB f) τ H Q->tD K f τ H λx H1=>∃c,x=.bl c/\Q c H1:=λτ H Q g=>by
 obtain⟨ρ,σ,h,v,m,a,i,e,q⟩:=g;obtain⟨x,b,k,e⟩:=za e;refine⟨ρ,σ,h,x,b,a,i,k,λn H1 u l d j=>?_⟩;cases x<;>try (cases e;done)
 cases e;cases j;exact⟨_,rfl,q _ _ l d⟩
theorem zbuo(j:OpR X (compareOp op) r)(c:OpD X.K g r)(d:DE X a f)(e:DE X b f')(i:behindInMarks op b=false):DT X (.Compare a [op] [b] pos) (eB (aS g f f')):=
 zbjs (zbln j d e i) λτ H Q h=>zbqx c _ _ _ (eB_t _ _ _ h)
def eChain(g h:D->D->Store->Res D) (f i e:SE):SE:=λσ j=>(f σ j).bind λx d=>(i σ d).bind λy c=>(g x y c).bind λz a=>match z with
 |.bl true=>(e σ a).bind λw b=>h y w b
 |.bl false=>.ok (.bl false) a
 |_=>.stuck
theorem zbpx{K:Fg}(X:OpD K g r)(m:OpD K g' r'):∀τ H Q,tD K (eChain g g' f f' f'') τ H Q->tChain r r' (tD K f) (tD K f') (tD K f'') τ H Q:=λτ H Q n=>by
 obtain⟨ρ,σ,au,v,s,a,U,e,q⟩:=n;obtain⟨x,i,Y,e⟩:=za e;obtain⟨y,h,e2,e⟩:=za e;obtain⟨z,c,e3,e⟩:=za e;refine⟨ρ,σ,au,x,i,a,U,Y,λρ1 H1 u J l a1=>?_⟩;refine⟨ρ1,σ,i,y,h,a.ext J,l,e2,λρ2 H2 w C o P=>?_⟩;refine X ρ2 H2 h x y u w z c _ o (a1.ext C) P e3 λI H3 G S j a3=>?_
 have A:=J.trans (C.trans S);cases z<;>try (cases e;done)
 rename_i b;cases a3;refine⟨b,rfl,?_⟩;cases b with
 |true=>
  obtain⟨t,d,e4,e⟩:=za e;rw[if_pos rfl];refine⟨I,σ,c,t,d,a.ext A,j,e4,λρ4 H4 tt E p a4=>?_⟩;exact m ρ4 H4 d y t w tt v s Q p (P.ext (S.trans E)) a4 e λρ' H' G x5 k a5=>q ρ' H' G (A.trans (E.trans x5)) k a5
 |false=>
  cases e;rw[if_neg (by decide)];exact q I H3 _ A j (.bl false)
end Dd
namespace Dd
open L2
theorem Ext.new(a:H p=none)(o:HO):Ext ρ H ρ (upd H p o):=⟨xbj _,λ_ _ _ e=>e,λb u e m=>⟨by rw[zo (zk e a)];exact e,m⟩,rfl,λb c u e=>by rw[zo (zk e a)];exact e⟩
section
variable {H:Hp}{a:Addr}
theorem zgk{c:List V}(h:H a=some (.lst c)):∀b u,H a≠some (.frz b u):=λb u z=>by rw[h] at z;cases z
theorem zkc{c:List (List Key×V)}(h:H a=some (.dT c)):∀b u,H a≠some (.frz b u):=λb u z=>by rw[h] at z;cases z
end
theorem Ext.wr{ρ:Loc}{n:Nat}(h:ρ.m[n]?=some (some a))(d:∀c u,H a≠some (.frz c u))(o:HO):Ext ρ H ρ (upd H a o):=⟨xbj _,λ_ _ _ e=>e,λb u e m=>⟨by
 rw[zo]
 ·exact e
 ·rintro rfl
  exact m (xbo h),m⟩,rfl,λb c u e=>by
 rw[zo]
 ·exact e
 ·rintro rfl
  exact d _ _ e⟩
theorem OAt.has{K:Fg}(h:OAt K ρ H x a):∃u,H a=some u:=by
 cases x with
 |lst xs=>obtain⟨b,e,_⟩:=h;exact⟨_,e⟩
 |dT kvs=>obtain⟨b,e,_⟩:=h;exact⟨_,e⟩
 |fT kvs=>obtain⟨b,d,e,_⟩:=h;exact⟨_,e⟩
 |dI kvs=>obtain⟨b,e,_⟩:=h;exact⟨_,e⟩
 |dP ks=>obtain⟨b,e,_⟩:=h;exact⟨_,e⟩
 |dead=>exact h.elim
 |tab=>obtain⟨_,c,e,_⟩:=h;exact⟨_,e⟩
theorem OAt.ext{K:Fg}(e:Ext ρ H ρ' H')(same:H' a=H a)(h:OAt K ρ H x a):OAt K ρ' H' x a:=by
 cases x with
 |lst xs=>obtain⟨b,q,r⟩:=h;exact⟨b,by rw[same];exact q,r.ext e⟩
 |dT kvs=>obtain⟨b,q,r⟩:=h;exact⟨b,by rw[same];exact q,r.ext e⟩
 |fT kvs=>obtain⟨b,f,q,r⟩:=h;exact⟨b,f,by rw[same];exact q,r.ext e⟩
 |dI kvs=>obtain⟨b,q,r⟩:=h;exact⟨b,by rw[same];exact q,r.ext e⟩
 |dP ks=>obtain⟨b,q,n,l,u,r⟩:=h;exact⟨b,by rw[same];exact q,n,l,u,r.map λ_ _ z=>z.ext e⟩
 |dead=>exact h.elim
 |tab=>obtain⟨c,d,q,r⟩:=h;exact⟨c,d,by rw[same];exact q,r.map e.frz⟩
theorem Rep.has{K:Fg}{n:Nat}(r:Rep K ρ au H)(h:ρ.m[n]?=some (some a)):∃x,au[n]?=some x/\OAt K ρ H x a:=by
 have b:n<au.length:=by rw[←r.len];exact(xbd.mp h).1
 exact⟨au[n],xbe b,r.obj n a _ h (xbe b)⟩
theorem Rep.new{K:Fg}(r:Rep K ρ au H)(c:H p=none)(o:HO):Rep K ρ au (upd H p o):=⟨r.len,r.inj,λm b x e d=>by
 have q:=r.obj m b x e d;obtain⟨u,a⟩:=q.has;exact q.ext (Ext.new c o) (zo (zk a c)),λb f=>by
 obtain⟨⟨u,a⟩,n⟩:=r.gh b f
 exact⟨⟨u,by rw[zo (zk a c)];exact a⟩,n⟩,r.live⟩
theorem Rep.wr{K:Fg}(r:Rep K ρ au H)(h:ρ.m[n]?=some (some a))(j:∀l u,H a≠some (.frz l u)) (q:OAt K ρ (upd H a o) x a):Rep K ρ (au.set n x) (upd H a o):=⟨by rw[r.len,xdr],r.inj,λm b y d c=>by
 by_cases hm:m=n
 ·subst hm;have f:b=a:=by rw[h] at d;exact(xcz (xcz d)).symm
  subst f;have i:m<au.length:=by rw[←r.len];exact(xbd.mp h).1
  rw[xfe i] at c;cases c;exact q
 ·rw[xbx (xdj hm)] at c;refine(r.obj m b y d c).ext (Ext.wr h j o) (zo λz=>hm ?_);subst z;exact r.inj m n b d h,λb f=>by
 obtain⟨⟨u,k⟩,g⟩:=r.gh b f;refine⟨⟨u,?_⟩,g⟩;rw[zo]
 ·exact k
 ·rintro rfl;exact g (xbo h),λm y e p=>by
 by_cases hm:m=n
 ·subst hm;exact⟨a,h⟩
 ·rw[xbx (xdj hm)] at e
  exact r.live m y e p⟩
theorem Rep.alloc{K:Fg}(r:Rep K ρ au H)(d:H p=none) (q:Ext ρ H ⟨ρ.m++[some p],ρ.g⟩ (upd H p o)->OAt K ⟨ρ.m++[some p],ρ.g⟩ (upd H p o) x p):Ext ρ H ⟨ρ.m++[some p],ρ.g⟩ (upd H p o)/\Rep K ⟨ρ.m++[some p],ρ.g⟩ (au++[x]) (upd H p o):=by
 have i:∀(m:Nat) (b:Addr),(ρ.m++[some p])[m]?=some (some b)->(m < ρ.m.length/\ρ.m[m]?=some (some b))\/(m=ρ.m.length/\b=p):=λm b e=>by
  rcases xim m ρ.m.length with z|z
  ·rw[xby z] at e;exact .inl ⟨z,e⟩
  ·rw[xdm z] at e;have t:m-ρ.m.length=0:=by
    have:=(xbd.mp e).1;simp at this;lia
   rw[t] at e;simp at e;exact .inr ⟨by lia,e.symm⟩
 have v:∀(m:Nat),ρ.m[m]?≠some (some p):=λm e=>by
  obtain⟨x,_,q⟩:=r.has e;obtain⟨u,a⟩:=q.has;rw[d] at a;cases a
 have E:Ext ρ H ⟨ρ.m++[some p],ρ.g⟩ (upd H p o):=⟨by rw[xbk];lia,λm b h e=>by
   rw[xby h] at e;exact e,λb u e m=>⟨by rw[zo (zk e d)];exact e,λz=>by
   rcases xce.mp z with z|z
   ·exact m z
   ·simp at z;subst z;rw[d] at e;cases e⟩,rfl,λb G u e=>by rw[zo (zk e d)];exact e⟩
 refine⟨E,⟨by rw[xbk,xbk,r.len];rfl,λm k b n c=>?_,λm b y n c=>?_,λb s=>?_,λm y e C=>?_⟩⟩
 ·rcases i m b n with⟨f,g⟩|⟨f,rfl⟩
  ·rcases i k b c with⟨l,j⟩|⟨l,rfl⟩
   ·exact r.inj m k b g j
   ·exact absurd g (v m)
  ·rcases i k b c with⟨l,j⟩|⟨l,_⟩
   ·exact absurd j (v k)
   ·lia
 ·rcases i m b n with⟨f,g⟩|⟨f,rfl⟩
  ·rw[xby (by rw[←r.len];exact f)] at c;have q:=r.obj m b y g c;obtain⟨u,a⟩:=q.has;exact q.ext E (zo (zk a d))
  ·rw[f,r.len,xdm (xbj _)] at c;simp at c;subst c;exact q E
 ·obtain⟨⟨u,a⟩,A⟩:=r.gh b s;refine⟨⟨u,by rw[zo (zk a d)];exact a⟩,λz=>?_⟩;rcases xce.mp z with z|z
  ·exact A z
  ·simp at z;subst z;rw[d] at a;cases a
 ·rcases xim m au.length with z|z
  ·rw[xby z] at e;obtain⟨b,s⟩:=r.live m y e C;exact⟨b,by rw[xby (by rw[r.len];exact z)];exact s⟩
  ·have t:=(xbd.mp e).1;simp at t;have w:m=ρ.m.length:=by rw[r.len];lia
   exact⟨p,by rw[w,xdm (xbj _)];simp⟩
theorem Rep.kill{K:Fg}(r:Rep K ρ au H)(h:n < ρ.m.length):Ext ρ H ⟨ρ.m.set n none,ρ.g⟩ H/\Rep K ⟨ρ.m.set n none,ρ.g⟩ (au.set n .dead) H:=by
 have c:∀(m:Nat) (b:Addr),(ρ.m.set n none)[m]?=some (some b)->m≠n/\ρ.m[m]?=some (some b):=λm b e=>by
  by_cases z:m=n
  ·subst z;rw[xfe h] at e;simp at e
  ·rw[xbx (xdj z)] at e;exact⟨z,e⟩
 have E:Ext ρ H ⟨ρ.m.set n none,ρ.g⟩ H:=⟨by rw[xdr];exact xbj _,λm b _ e=>(c m b e).2,λb o e m=>⟨e,λz=>by
  obtain⟨i,f,a⟩:=xev z;have:(ρ.m.set n none)[i]?=some (some b):=by rw[xbe f,a]
  exact m (xbo (c i b this).2)⟩,rfl,λ_ _ _ e=>e⟩
 refine⟨E,⟨by rw[xdr,xdr,r.len],λm k b g a=>r.inj m k b (c m b g).2 (c k b a).2,λm b y g a=>?_,λb d=>⟨(r.gh b d).1,λz=>?_⟩,λm y e j=>?_⟩⟩
 rotate_left
 ·obtain⟨i,f,a⟩:=xev z;have:(ρ.m.set n none)[i]?=some (some b):=by rw[xbe f,a]
  exact(r.gh b d).2 (xbo (c i b this).2)
 ·have z:m≠n:=by
   rintro rfl;rw[xfe (by rw[←r.len];exact h)] at e;cases e;exact j rfl
  rw[xbx (xdj z)] at e;obtain⟨b,d⟩:=r.live m y e j;exact⟨b,by rw[xbx (xdj z)];exact d⟩
 obtain⟨z,q⟩:=c m b g;rw[xbx (xdj z)] at a;exact(r.obj m b y q a).ext E rfl
theorem zlg{K:Fg}(r:Rep K ρ au H)(c:H p=none):Out ρ p:=by
 refine⟨λz=>?_,λz=>?_⟩
 ·obtain⟨i,d,e⟩:=xev z;obtain⟨x,_,q⟩:=r.has (n:=i) (a:=p) (by rw[xbe d,e]);obtain⟨u,b⟩:=q.has;rw[c] at b;cases b
 ·obtain⟨⟨u,b⟩,_⟩:=r.gh p z;rw[c] at b;cases b
theorem At.newT{K:Fg}(r:Rep K ρ au H)(a:H p=none) (h:AtAll K ρ H ds vs):At K ρ (upd H p (.tup vs)) (.tup ds) (.ref p):=.tup zp (zlg r a) (h.ext (Ext.new a _))
theorem At.newL{K:Fg}(r:Rep K ρ au H)(a:H p=none) (h:AtAll K ρ H ds vs):At K ρ (upd H p (.lst vs)) (.lst ds) (.ref p):=.lst zp (zlg r a) (h.ext (Ext.new a _))
def eAnd(f c:SE):SE:=λσ b=>(f σ b).bind λv a=>match v with
 |.bl true=>c σ a
 |.bl false=>.ok (.bl false) a
 |_=>.stuck
def eOr(f c:SE):SE:=λσ b=>(f σ b).bind λv a=>match v with
 |.bl true=>.ok (.bl true) a
 |.bl false=>c σ a
 |_=>.stuck
def eNot(f:SE):SE:=λσ c=>(f σ c).bind λv a=>match v with
 |.bl b=>.ok (.bl (!b)) a
 |_=>.stuck
def bAnd(f d:ST):ST:=λσ c=>(f σ c).bind λb a=>if b=true then d σ a else .ok false a
def bOr(f d:ST):ST:=λσ c=>(f σ c).bind λb a=>if b=true then .ok true a else d σ a
def bNot(f:ST):ST:=λσ c=>(f σ c).bind λb a=>.ok (!b) a
def eIf(c:ST) (f e:SE):SE:=λσ d=>(c σ d).bind λb a=>if b=true then f σ a else e σ a
theorem zbyu{op}(h:DE X a f):DE X (.BoolOp op [a] pos) f:=zbsp h
section
variable {X:Cx}{a:Expr}{b:Expr}{rest:List Expr}{f:SE}{f':SE}{pos:Pos}
theorem zbzb(t:DE X a f)(y:DE X (.BoolOp .And (b::rest) pos) f'):DE X (.BoolOp .And (a::b::rest) pos) (eAnd f f'):=zgc (zbst t y) λτ H Q h=>by
 obtain⟨ρ,σ,l,v,j,g,n,e,q⟩:=h;obtain⟨x,c,s,e⟩:=za e;refine⟨ρ,σ,l,x,c,g,n,s,λp H1 u i d r=>?_⟩;cases x<;>try (cases e;done)
 rename_i k;cases r;refine⟨k,rfl,?_⟩;cases k with
 |true=>
  rw[if_pos rfl];exact⟨p,σ,c,v,j,g.ext i,d,e,λw m u o=>q w m u (i.trans o)⟩
 |false=>
  rw[if_neg (by decide)];cases e;exact q _ _ _ i d (.bl false)
end
theorem zbyv(m:DE X a f):DE X (.UnaryOp .Not a pos) (eNot f):=zgc (zbsq m) λτ H Q g=>by
 obtain⟨ρ,σ,h,v,o,d,i,e,q⟩:=g;obtain⟨x,b,l,e⟩:=za e;refine⟨ρ,σ,h,x,b,d,i,l,λp H1 u n c j=>?_⟩;cases x<;>try (cases e;done)
 rename_i k;cases j;cases e;exact⟨k,rfl,q _ _ _ n c (.bl _)⟩
theorem zbuj{op}(h:DT X a t)(b:op=.And\/op=.Or):DW X (.BoolOp op [a] pos) t:=by
 rcases b with rfl|rfl
 ·exact pw_and1 h
 ·exact pw_or1 h
section
variable {X:Cx}{a:Expr}{b:Expr}{rest:List Expr}{t:ST}{t':ST}{pos:Pos}
theorem zbuk(p:DT X a t)(s:DW X (.BoolOp .And (b::rest) pos) t'):DW X (.BoolOp .And (a::b::rest) pos) (bAnd t t'):=pw_to (pw_and p s) λτ H Q g=>by
 obtain⟨ρ,σ,j,v,i,f,l,e,q⟩:=g;obtain⟨x,c,o,e⟩:=za e;refine⟨ρ,σ,j,x,c,f,l,o,λn H1 h d=>?_⟩;cases x with
 |true=>exact iteT ⟨n,σ,c,v,i,f.ext h,d,e,λr k m=>q r k (h.trans m)⟩
 |false=>cases e;exact iteF (q _ _ h d)
theorem zbyn(p:DT X a t)(s:DW X (.BoolOp .Or (b::rest) pos) t'):DW X (.BoolOp .Or (a::b::rest) pos) (bOr t t'):=pw_to (pw_or p s) λτ H Q g=>by
 obtain⟨ρ,σ,j,v,i,f,l,e,q⟩:=g;obtain⟨x,c,o,e⟩:=za e;refine⟨ρ,σ,j,x,c,f,l,o,λn H1 h d=>?_⟩;cases x with
 |false=>exact iteF ⟨n,σ,c,v,i,f.ext h,d,e,λr k m=>q r k (h.trans m)⟩
 |true=>cases e;exact iteT (q _ _ h d)
end
theorem zbum(j:DT X a t):DT X (.UnaryOp .Not a pos) (bNot t):=zbjs (zbsb j) λτ H Q d=>by
 obtain⟨ρ,σ,f,v,l,c,g,e,q⟩:=d;obtain⟨x,h,i,e⟩:=za e;cases e;exact⟨ρ,σ,f,x,_,c,g,i,λm H1 k b=>q _ _ k b⟩
theorem d_if(y:DT X c t)(w:DE X a f)(z:DE X b f'):DE X (.IfExp c a b pos) (eIf t f f'):=zgc (zbfq y w z) λτ H Q n=>by
 obtain⟨ρ,σ,p,v,i,g,r,e,q⟩:=n;obtain⟨x,d,s,e⟩:=za e;refine⟨ρ,σ,p,x,d,g,r,s,λo H1 j h=>?_⟩;cases x with
 |true=>exact iteT ⟨o,σ,d,v,i,g.ext j,h,e,λm k u l=>q m k u (j.trans l)⟩
 |false=>exact iteF ⟨o,σ,d,v,i,g.ext j,h,e,λm k u l=>q m k u (j.trans l)⟩
def aC:SA:=λ_ a=>.ok [] a
def aB(f:SE) (g:SA):SA:=λσ c=>(f σ c).bind λx a=>(g σ a).bind λd b=>.ok (x::d) b
def aR(g:SA):SE:=λσ c=>(g σ c).bind λb a=>if b.length<=sizeLine then .ok (.tup b) a else .stuck
def eLst(g:SA):SE:=λσ c=>(g σ c).bind λb a=>if b.length<=sizeLine then .ok (.lst b) a else .stuck
def eLstM(g:SA):SE:=λσ c=>(g σ c).bind λb a=>if b.length<=sizeLine then .ok (.ref a.length) (a++[.lst b]) else .stuck
theorem zbuz:DA X [] aC:=zbwt zbmm λτ H Q b=>by
 obtain⟨ρ,σ,f,v,d,a,c,e,q⟩:=b;cases e;exact q _ _ _ (.refl _ _) c .nil
theorem zbph(t:DE X e f)(l:DA X es g)(n:starEach (e::es) X.env=(false,eval e X.env)::starEach es X.env:=by rfl):DA X (e::es) (aB f g):=zbwt (zbcl t l n) λτ H Q d=>by
 obtain⟨ρ,σ,z,v,A,a,k,e,q⟩:=d;obtain⟨x,b,m,e⟩:=za e;obtain⟨y,o,p,e⟩:=za e;cases e;refine⟨ρ,σ,z,x,b,a,k,m,λC H1 u j c r=>?_⟩;exact⟨C,σ,b,y,_,a.ext j,c,p,λE H2 w i h s=>q _ _ _ (j.trans i) h (.cons (r.ext i) s)⟩
theorem zbyr{f}(h:DA X es g):DE X (.Tuple es f pos) (aR g):=zgc (zbso h) λτ H Q d=>by
 obtain⟨ρ,σ,j,v,r,a,l,e,q⟩:=d;obtain⟨x,n,o,e⟩:=za e;split at e
 ·rename_i k;cases e;refine⟨ρ,σ,j,x,_,a,l,o,λm H1 u f b i=>⟨by rw[i.length];exact k,λp c=>?_⟩⟩;exact q m _ _ (f.trans (Ext.new c _)) (b.new c _) (.newT b c i)
 ·cases e
theorem zbyx(h:DA X es g):DE X (.List es pos) (eLst g):=zgc (zbmf h) λτ H Q d=>by
 obtain⟨ρ,σ,i,v,r,a,k,e,q⟩:=d;obtain⟨x,m,n,e⟩:=za e;split at e
 ·rename_i j;cases e;refine⟨ρ,σ,i,x,_,a,k,n,λl H1 u o b f=>⟨by rw[f.length];exact j,λp c=>?_⟩⟩;exact q l _ _ (o.trans (Ext.new c _)) (b.new c _) (.newL b c f)
 ·cases e
theorem At.last{K:Fg}{ρ:Loc}(h:n=ρ.m.length):At K ⟨ρ.m++[some p],ρ.g⟩ H (.ref n) (.ref p):=by
 subst h;refine .ref (by simp) λa e=>?_
 simp at e;rw[e]
theorem zbvb(h:DA X es g):DE X (.List es pos) (eLstM g):=zgc (zbmf h) λτ H Q c=>by
 obtain⟨ρ,σ,f,v,r,a,j,e,q⟩:=c;obtain⟨x,l,m,e⟩:=za e;split at e
 ·rename_i i;cases e;refine⟨ρ,σ,f,x,_,a,j,m,λs H1 u n b d=>⟨by rw[d.length];exact i,λp k=>?_⟩⟩;obtain⟨E,R⟩:=b.alloc k (x:=.lst x) (o:=.lst u) λE=>⟨u,zp,d.ext E⟩
  exact q _ _ _ (n.trans E) R (.last b.len.symm)
 ·cases e
def asL(a:Store):D->Option (List D)
 |.lst xs=>some xs
 |.ref n=>match a[n]? with
  |some (.lst xs)=>some xs
  |_=>none
 |_=>none
theorem zed{K:Fg}(c:Rep K ρ au H) (a:At K ρ H (.ref n) u)(e:au[n]?=some o)(d:o≠.dead):∃p,u=.ref p/\ρ.m[n]?=some (some p)/\OAt K ρ H o p:=by
 cases a with
 |ref h1 h2=>
  obtain⟨p,b⟩:=c.live n o e d;exact⟨p,h2 p b,b,c.obj n p o b e⟩
theorem zgq{K:Fg}(c:Rep K ρ au H)(a:At K ρ H d u)(e:asL au d=some xs):∃p vs,u=.ref p/\H p=some (.lst vs)/\AtAll K ρ H xs vs:=by
 cases d<;>try (cases e;done)
 ·rename_i n;unfold asL at e;dsimp only at e;split at e
  ·rename_i i b;cases e;obtain⟨p,rfl,h,vs,f,g⟩:=zed c a b (by intro z;cases z);exact⟨p,vs,rfl,f,g⟩
  ·cases e
 ·cases e;cases a with
  |lst h1 h2 h3=>exact⟨_,_,rfl,h1,h3⟩
def oI(C:Int->Int->Prop) [DecidableRel C] (h:Int->Int->D) (x y:D) (a:Store):Res D:=match x,y with
 |.int i,.int j=>if C i j then .ok (h i j) a else .stuck
 |_,_=>.stuck
theorem oI_D{K:Fg} [DecidableRel C] (k:∀i j ρ H,At K ρ H (h i j) (g i j)):OpD K (oI C h) (rI C g):=λρ H l x y u v z f Q d a b e q=>by
 unfold oI at e;split at e
 ·cases a;cases b;split at e
  ·rename_i c;cases e;exact⟨_,_,rfl,rfl,c,q _ _ _ (.refl _ _) d (k _ _ _ _)⟩
  ·cases e
 ·cases e
theorem zsx{K:Fg}(k:∀i j ρ H,At K ρ H (h i j) (g i j)):OpD K (oI (λ_ _=>True) h) (rI0 g):=λρ H n x y u v z c Q f a b e q=>by
 obtain⟨i,j,m,l,_,d⟩:=oI_D (C:=λ_ _=>True) k ρ H n x y u v z c Q f a b e q;exact⟨i,j,m,l,d⟩
instance:DecidableRel CMul:=λi j=>by unfold CMul;infer_instance
instance:DecidableRel CDivP:=λi j=>by unfold CDivP;infer_instance
instance:DecidableRel CPow:=λi j=>by unfold CPow;infer_instance
abbrev oSub:=oI (λ_ _=>True) λi j=>.int (i-j)
abbrev oFdiv:=oI CDivP λi j=>.int (i/j)
abbrev oMod:=oI (λ_ j=>0<j) λi j=>.int (i%j)
abbrev oAndI:=oI (λ_ _=>True) λi j=>.int (Builtin.bitAnd i j)
abbrev oPow:=oI CPow λi j=>.int (i^j.toNat)
abbrev oMulI:=oI CMul λi j=>.int (i*j)
def aM(x y:D) (c:Store):Res D:=match x,y with
 |.int i,.int j=>.ok (.int (i+j)) c
 |.tup a,.tup b=>if a.length+b.length<=sizeLine then .ok (.tup (a++b)) c else .stuck
 |.str a,.str b=>if a.length+b.length<=sizeLine then .ok (.str (a++b)) c else .stuck
 |x,y=>match asL c x,asL c y with
  |some a,some b=>if a.length+b.length<=sizeLine then .ok (.lst (a++b)) c else .stuck
  |_,_=>.stuck
abbrev rAddA(K:Fg):R2:=λx y H Q=>rI0 (λi j=>.int (i+j)) x y H Q\/rCatA K x y H Q\/(∃i j,x=.str i/\y=.str j/\i.length+j.length<=sizeLine/\Q (.str (i++j)) H)\/rCat x y H Q
theorem zbmu:OpR X (binaryOp .Add) (rAddA X.K):=zbtd.or (zbmt.or (zvg.or zbtc))
theorem zbth{K:Fg}:OpD K aM (rAddA K):=λρ H A x y u v z o Q c a b e q=>by
 unfold aM at e;split at e
 ·cases a;cases b;cases e;exact .inl ⟨_,_,rfl,rfl,q _ _ _ (.refl _ _) c (.int _)⟩
 ·rename_i E s;split at e
  ·rename_i d;cases e;refine .inr (.inl ?_);cases a with
   |tup g i h3=>
    cases b with
    |tup f h k3=>
     refine⟨_,_,_,_,rfl,rfl,SqT.of g,SqT.of f,by rw[h3.length,k3.length];exact d,λz=>?_,λn m=>?_,λn m p k=>?_⟩
     ·subst z;cases h3;exact q _ _ _ (.refl _ _) c (.tup f h k3)
     ·subst m;cases k3;rw[xei] at q;exact q _ _ _ (.refl _ _) c (.tup g i h3)
     ·exact q _ _ _ (Ext.new k _) (c.new k _) (.newT c k (h3.append k3))
  ·cases e
 ·split at e
  ·rename_i d;cases a;cases b;cases e;exact .inr (.inr (.inl ⟨_,_,rfl,rfl,d,q _ _ _ (.refl _ _) c (.str _)⟩))
  ·cases e
 ·split at e
  ·rename_i g i;split at e
   ·rename_i d;cases e;obtain⟨p,G,rfl,r,l⟩:=zgq c a g;obtain⟨C,w,rfl,f,h⟩:=zgq c b i;exact .inr (.inr (.inr ⟨_,_,_,_,rfl,rfl,r,f,by rw[l.length,h.length];exact d,λt j=>q _ _ _ (Ext.new j _) (c.new j _) (.newL c j (l.append h))⟩))
   ·cases e
  ·cases e
abbrev oLe:=oI (λ_ _=>True) λi j=>.bl (decide (i<=j))
abbrev oGt:=oI (λ_ _=>True) λi j=>.bl (decide (j<i))
abbrev oGe:=oI (λ_ _=>True) λi j=>.bl (decide (j<=i))
mutual
noncomputable def toData:D->Option PyData
 |.non=>some .none
 |.bl b=>some (.bool b)
 |.int i=>some (.int i)
 |.str x=>some (.str x)
 |.tup ds=>(toDatas ds).map .tuple
 |.lst ds=>(toDatas ds).map .list
 |_=>none
noncomputable def toDatas:List D->Option (List PyData)
 |[]=>some []
 |d::ds=>(toData d).bind λx=>(toDatas ds).map λa=>x::a
end
mutual
theorem zbds{K:Fg}{ρ:Loc}{H:Hp}:∀{d:D}{v:V}{p:PyData},At K ρ H d v->toData d=some p->DAt K H v p
 |_,_,_,.non,e=>by cases e;exact .non
 |_,_,_,.bl b,e=>by cases e;exact .bl b
 |_,_,_,.int i,e=>by cases e;exact .int i
 |_,_,_,.str x,e=>by cases e;exact .str x
 |_,_,_,.ty n,e=>by cases e
 |_,_,_,.exn _,e=>by cases e
 |_,_,_,.ref _ _,e=>by cases e
 |_,_,_,.tup h _ al,e=>by
  rw[toData] at e;obtain⟨c,a,rfl⟩:=xdc.mp e;exact .tup (SqT.of h) (zlt al a)
 |_,_,_,.lst h _ al,e=>by
  rw[toData] at e;obtain⟨c,a,rfl⟩:=xdc.mp e;exact .lst (SqL.of h) (zlt al a)
 |_,_,_,.scr _ _,e=>by cases e
theorem zlt{K:Fg}{ρ:Loc}{H:Hp}:∀{d:List D}{v:List V}{p:List PyData},AtAll K ρ H d v->toDatas d=some p->DAll K H v p
 |_,_,_,.nil,e=>by cases e;exact .nil
 |_,_,_,.cons a b,e=>by
  rw[toDatas] at e;obtain⟨x,f,e⟩:=xfp.mp e;obtain⟨g,c,rfl⟩:=xdc.mp e;exact .cons (zbds a f) (zlt b c)
end
def now(a:Store) (d:D):D:=match asL a d with
 |some xs=>.lst xs
 |none=>d
def dataOf(a:Store) (d:D):Option PyData:=toData (now a d)
theorem zez{K:Fg}(b:Rep K ρ au H) (a:At K ρ H d u)(e:dataOf au d=some p):DAt K H u p:=by
 unfold dataOf now at e;split at e
 ·rename_i j g;obtain⟨q,i,rfl,h,c⟩:=zgq b a g;rw[toData] at e;obtain⟨k,f,rfl⟩:=xdc.mp e;exact .lst (SqL.of h) (zlt c f)
 ·exact zbds a e
def oEqG(d:Bool) (x y:D) (c:Store):Res D:=match dataOf c x,dataOf c y with
 |some a,some b=>if PySem.SeqAt.shaped a=true/\PySem.SeqAt.shaped b=true then .ok (.bl (if d then !PyData.eqv a b else PyData.eqv a b)) c else .stuck
 |_,_=>.stuck
theorem zbcn{K:Fg}:OpD K (oEqG neg) (rEqX K neg):=λρ H k x y u v z h Q c a b e q=>by
 unfold oEqG at e;split at e
 ·rename_i j i g f;split at e
  ·rename_i d;cases e;exact⟨_,_,zez c a g,zez c b f,d.1,d.2,q _ _ _ (.refl _ _) c (.bl _)⟩
  ·cases e
 ·cases e
abbrev oEq:=oEqG false
abbrev oNe:=oEqG true
noncomputable def asInts:List D->Option (List Int)
 |[]=>some []
 |.int i::r=>(asInts r).map (i::·)
 |_::_=>none
theorem zdx{K:Fg}:∀{c:List D}{g:List V}{f:List Int},AtAll K ρ H c g->asInts c=some f->g=f.map V.int
 |_,_,_,.nil,e=>by cases e;rfl
 |_,_,_,.cons (d:=d) a b,e=>by
  cases d<;>try (cases e;done)
  rw[asInts] at e;obtain⟨i,h,rfl⟩:=xdc.mp e;cases a;rw[zdx b h]
  rfl
def oLtT(x y:D) (c:Store):Res D:=match x,y with
 |.int i,.int j=>.ok (.bl (decide (i<j))) c
 |.tup a,.tup b=>match asInts a,asInts b with
  |some ns,some ms=>.ok (.bl (HT.lexLt ns ms)) c
  |_,_=>.stuck
 |_,_=>.stuck
abbrev rLtA(K:Fg):R2:=λx y H Q=>rI0 (λi j=>.bl (decide (i<j))) x y H Q\/rLtT K x y H Q
theorem zsn{X:Cx}(a:X.A.units<cLine):OpR X (compareOp .Lt) (rLtA X.K):=zbxw.or (zbsz a)
theorem zsw{K:Fg}:OpD K oLtT (rLtA K):=λρ H j x y u v z i Q c a b e q=>by
 unfold oLtT at e;split at e
 ·cases a;cases b;cases e
  exact .inl ⟨_,_,rfl,rfl,q _ _ _ (.refl _ _) c (.bl _)⟩
 ·split at e
  ·rename_i h d;cases e;cases a with
   |tup g1 g2 g3=>
    cases b with
    |tup k1 k2 k3=>
     have g:=zdx g3 h;have f:=zdx k3 d;subst g f;exact .inr ⟨_,_,_,_,rfl,rfl,SqT.of g1,SqT.of k1,q _ _ _ (.refl _ _) c (.bl _)⟩
  ·cases e
 ·cases e
def seqOf(a:Store):D->Option (List D)
 |.tup xs=>some xs
 |.scr xs=>some xs
 |d=>asL a d
theorem zky{K:Fg}(f:Rep K ρ au H) (a:At K ρ H d u)(e:seqOf au d=some xs):
  ∃p vs,u=.ref p/\(SqL K H p vs\/SqT K H p vs)/\AtAll K ρ H xs vs:=by
 unfold seqOf at e;split at e
 ·cases e;cases a with
  |tup b c h3=>exact⟨_,_,rfl,.inr (SqT.of b),h3⟩
 ·cases e;cases a with
  |scr b h3=>exact⟨_,_,rfl,.inl b.sq,h3⟩
 ·obtain⟨p,vs,rfl,b,c⟩:=zgq f a e;exact⟨p,vs,rfl,.inl (SqL.of b),c⟩
theorem AtAll.atI{K:Fg}(h:AtAll K ρ H ds vs)(e:L2.atI ds i=some d):∃v,L2.atI vs i=some v/\At K ρ H d v:=by
 unfold L2.atI at e ⊢;rw[h.length];cases hi:ixN ds.length i with
 |none=>rw[hi] at e;cases e
 |some j=>
  rw[hi] at e;obtain⟨v,b,a⟩:=h.get (i:=j) e;exact⟨v,b,a⟩
def oIx(x y:D) (a:Store):Res D:=match seqOf a x,y with
 |some xs,.int i=>match L2.atI xs i with
  |some v=>.ok v a
  |none=>.stuck
 |_,_=>.stuck
theorem zbyb{K:Fg}:OpD K oIx (rIx K):=λρ H m x y u v z j Q c a b e q=>by
 unfold oIx at e;split at e
 ·rename_i i;split at e
  ·rename_i w g;cases e;cases b;obtain⟨p,l,rfl,h2,h⟩:=zky c a i;obtain⟨k,d,f⟩:=h.atI g;rcases h2 with h2|h2
   ·exact .inl ⟨_,_,_,_,rfl,rfl,h2,d,q _ _ _ (.refl _ _) c f⟩
   ·exact .inr (.inl ⟨_,_,_,_,rfl,rfl,h2,d,q _ _ _ (.refl _ _) c f⟩)
  ·cases e
 ·cases e
def cutD(a:List D) (lo b:Option Int):List D:=(a.drop (HT.sIx a.length 0 lo)).take (HT.sIx a.length a.length b-HT.sIx a.length 0 lo)
theorem AtAll.cut{K:Fg}(h:AtAll K ρ H ds vs)(lo a:Option Int):AtAll K ρ H (cutD ds lo a) (cutV vs lo a):=by
 unfold cutD cutV;rw[h.length];exact(h.drop _).take _
def pNone:DS->Store->Res (Option Int):=λ_ a=>.ok none a
def pSome(f:SE):DS->Store->Res (Option Int):=λσ b=>(f σ b).bind λv a=>match v with
 |.int i=>.ok (some i) a
 |_=>.stuck
def eSl(f:SE) (lo d:DS->Store->Res (Option Int)):SE:=λσ e=>(f σ e).bind λx c=>(lo σ c).bind λl b=>(d σ b).bind λh a=>match x with
 |.tup xs=>.ok (.tup (cutD xs l h)) a
 |x=>match asL a x with
  |some xs=>.ok (.lst (cutD xs l h)) a
  |none=>.stuck
def tDO(K:Fg) (f:DS->Store->Res (Option Int)):TO:=λτ H Q=>∃ρ σ c v a,AtS K ρ H σ τ/\Rep K ρ c H/\f σ c=.ok v a/\∀d b,Ext ρ H d b->Rep K d a b->Q v b
abbrev DO(X:Cx) (e:Option Expr) (f:DS->Store->Res (Option Int)):Prop:=PO X e (tDO X.K f)
theorem zbwr(h:PO X e t)(k:∀σ H Q,t' σ H Q->t σ H Q):PO X e t':=λa s σ H Q I q=>h a s σ H Q I (k _ _ _ q)
theorem zboz:DO X none pNone:=zbwr zblx λτ H Q b=>by
 obtain⟨ρ,σ,f,v,d,a,c,e,q⟩:=b;cases e;exact q _ _ (.refl _ _) c
theorem zboy(i:DE X e f):DO X (some e) (pSome f):=zbwr (zblw i) λτ H Q d=>by
 obtain⟨ρ,σ,g,v,m,a,h,e,q⟩:=d;obtain⟨x,b,k,e⟩:=za e;refine⟨ρ,σ,g,x,b,a,h,k,λn H1 u l c j=>?_⟩;cases x<;>try (cases e;done)
 cases e;cases j;exact⟨_,rfl,q _ _ l c⟩
theorem d_ix(e:DE X a f)(c:DE X b f')(d:PlainIx b):DE X (.Subscript a b pos) (aS oIx f f'):=zgc (zbxt zbtz e c d) (zbqx zbyb)
section
variable {X:Cx}{a:Expr}{e:Expr}{f:SE}{pos:Pos}{lo:Option Expr}{hi:Option Expr}{l:DS->Store->Res (Option Int)}{h:DS->Store->Res (Option Int)}
theorem d_sl{p2:Pos}(Y:DE X e f)(A:DO X lo l)(hu:DO X hi h):DE X (.Subscript e (.Slice lo hi none p2) pos) (eSl f l h):=zgc (zbfp (zbkx.or zbky) Y A hu) λτ H Q k=>by
 obtain⟨ρ,σ,S,v,U,a,w,e,q⟩:=k;obtain⟨x,g,E,e⟩:=za e;obtain⟨y,d,J,e⟩:=za e;obtain⟨z,m,I,e⟩:=za e;refine⟨ρ,σ,S,x,g,a,w,E,λρ1 H1 u o j P=>?_⟩;refine⟨ρ1,σ,g,y,d,a.ext o,j,J,λG H2 i n=>?_⟩;refine⟨G,σ,d,z,m,a.ext (o.trans i),n,I,λρ3 H3 t b=>?_⟩;have s:=P.ext (i.trans t);have r:=o.trans (i.trans t);split at e
 ·cases e;refine .inl ?_;cases s with
  |tup h1 h2 h3=>
   refine⟨_,_,rfl,SqT.of h1,λec=>?_,λp c=>?_⟩
   ·refine q _ _ _ r b (.tup h1 h2 ?_);have:=h3.cut y z;rw[ec] at this;exact this
   ·exact q _ _ _ (r.trans (Ext.new c _)) (b.new c _) (.newT b c (h3.cut y z))
 ·split at e
  ·rename_i xs hx;cases e;obtain⟨p,vs,rfl,g1,C⟩:=zgq b s hx;exact .inr ⟨_,_,rfl,SqL.of g1,λp c=>q _ _ _ (r.trans (Ext.new c _)) (b.new c _) (.newL b c (C.cut y z))⟩
  ·cases e
end
end Dd
namespace Dd
open L2
def aE(g:List D->Store->Res D) (f:SA):SE:=λσ b=>(f σ b).bind λc a=>g c a
def CaD(K:Fg) (g:List D->Store->Res D) (r:List V->Hp->VK->Prop):Prop:=
 ∀ρ H f e d z a (Q:VK),Rep K ρ f H->AtAll K ρ H e d->g e f=.ok z a->(∀c b w,Ext ρ H c b->Rep K c a b->At K c b z w->Q w b)->r d H Q
theorem zbvn{K:Fg}(n:CaD K g r):∀τ H Q,tD K (aE g f) τ H Q->tCB r (tDA K f) τ H Q:=λτ H Q d=>by
 obtain⟨ρ,σ,i,v,h,a,k,e,q⟩:=d;obtain⟨x,b,p,e⟩:=za e;exact⟨ρ,σ,i,x,b,a,k,p,λm H1 u t c o=>n m H1 b x u v h Q c o e λs j w l=>q s j w (t.trans l)⟩
theorem zbpp{x:Str}{id:String}(k:CallR X (.builtin id) r)(j:CaD X.K g r)(c:Gl X x)(d:X.mg x=none)(m:bootBuiltins x=some (.builtin id))(l:DA X (e::es) f)(h:x≠"__name__":=by decide)(a:(x==("__debug__" : Str))=false:=by decide)
 (i:starEach (e::es) X.env=(false,eval e X.env)::starEach es X.env:=by rfl)(b:(backTo pos (starEach es X.env)).any (·.1)=false:=by rfl):DE X (.Call (.Name x p) (e::es) [] pos) (aE g f):=zgc (zvc k c d m l h a i b) (zbvn j)
theorem zbip{T:String}(k:CallR X (.type T) r)(j:CaD X.K g r)(c:Gl X x)(d:X.mg x=none)(m:bootBuiltins x=some (.type T))(l:DA X (e::es) f)(h:x≠"__name__":=by decide)(a:(x==("__debug__" : Str))=false:=by decide)
 (i:starEach (e::es) X.env=(false,eval e X.env)::starEach es X.env:=by rfl)(b:(backTo pos (starEach es X.env)).any (·.1)=false:=by rfl):DE X (.Call (.Name x p) (e::es) [] pos) (aE g f):=zgc (zqm k c d m l h a i b) (zbvn j)
theorem AtAll.one{K:Fg}(h:AtAll K ρ H [d] us):∃u,us=[u]/\At K ρ H d u:=by
 cases h with
 |cons a b=>cases b;exact⟨_,rfl,a⟩
theorem AtAll.two{K:Fg}(h:AtAll K ρ H [d,e] us):∃u v,us=[u,v]/\At K ρ H d u/\At K ρ H e v:=by
 cases h with
 |cons a b=>
  obtain⟨v,rfl,c⟩:=b.one;exact⟨_,_,rfl,a,c⟩
def bLen:List D->Store->Res D:=λb a=>match b with
 |[x]=>match seqOf a x with
  |some ys=>.ok (.int ys.length) a
  |none=>.stuck
 |_=>.stuck
theorem zxo{K:Fg}:CaD K bLen (λd H Q=>∃p b,d=[.ref p]/\(SqL K H p b\/SqT K H p b)/\Q (.int b.length) H):=λρ H m d l z k Q c g e q=>by
 unfold bLen at e;split at e
 ·split at e
  ·rename_i h;cases e;obtain⟨u,rfl,a⟩:=g.one;obtain⟨p,i,rfl,j,f⟩:=zky c a h;refine⟨p,i,rfl,j,?_⟩;rw[f.length];exact q _ _ _ (.refl _ _) c (.int _)
  ·cases e
 ·cases e
def bAbs:List D->Store->Res D:=λa b=>match a with
 |[.int i]=>.ok (.int (if i<0 then -i else i)) b
 |_=>.stuck
theorem zbwb{K:Fg}:CaD K bAbs (λb H Q=>∃i,b=[.int i]/\Q (.int (if i<0 then -i else i)) H):=λρ H h b g z f Q c d e q=>by
 unfold bAbs at e;split at e
 ·cases e;obtain⟨u,rfl,a⟩:=d.one;cases a;exact⟨_,rfl,q _ _ _ (.refl _ _) c (.int _)⟩
 ·cases e
def b2I(g:Int->Int->Int):List D->Store->Res D:=λa b=>match a with
 |[.int i,.int j]=>.ok (.int (g i j)) b
 |_=>.stuck
theorem zbwc{K:Fg}:CaD K (b2I g) (λc H Q=>∃i j,c=[.int i,.int j]/\Q (.int (g i j)) H):=λρ H l c k z h Q d f e q=>by
 unfold b2I at e;split at e
 ·cases e;obtain⟨u,v,rfl,a,b⟩:=f.two;cases a;cases b;exact⟨_,_,rfl,q _ _ _ (.refl _ _) d (.int _)⟩
 ·cases e
abbrev bMin2:=b2I λi j=>if j<i then j else i
def bSum:List D->Store->Res D:=λb a=>match b with
 |[x]=>match (seqOf a x).bind asInts with
  |some ns=>.ok (.int ns.sum) a
  |none=>.stuck
 |_=>.stuck
theorem zbjf{K:Fg}:CaD K bSum (rSum K):=λρ H o m k z j Q b f e q=>by
 unfold bSum at e;split at e
 ·split at e
  ·rename_i g h;cases e;obtain⟨l,d,h⟩:=xfp.mp h;obtain⟨u,rfl,a⟩:=f.one;obtain⟨p,n,rfl,i,c⟩:=zky b a d;have e:=zdx c h;subst e;exact⟨p,g,rfl,i,q _ _ _ (.refl _ _) b (.int _)⟩
  ·cases e
 ·cases e
noncomputable def asBools:List D->Option (List Bool)
 |[]=>some []
 |.bl i::r=>(asBools r).map (i::·)
 |_::_=>none
theorem znu{K:Fg}:∀{c:List D}{g:List V}{f:List Bool},AtAll K ρ H c g->asBools c=some f->g=f.map V.bl
 |_,_,_,.nil,e=>by cases e;rfl
 |_,_,_,.cons (d:=d) a b,e=>by
  cases d<;>try (cases e;done)
  rw[asBools] at e;obtain⟨i,h,rfl⟩:=xdc.mp e;cases a;rw[znu b h]
  rfl
def bAny(b:Bool):List D->Store->Res D:=λc a=>match c with
 |[x]=>match (asL a x).bind asBools with
  |some bs=>.ok (.bl (if b then bs.all id else bs.any id)) a
  |none=>.stuck
 |_=>.stuck
theorem zbvz{K:Fg}:CaD K (bAny al) (rAny K al):=λρ H o m k z j Q b f e q=>by
 unfold bAny at e;split at e
 ·split at e
  ·rename_i g h;cases e;obtain⟨l,d,h⟩:=xfp.mp h;obtain⟨u,rfl,a⟩:=f.one;obtain⟨p,n,rfl,i,c⟩:=zgq b a d;have e:=znu c h;subst e;exact⟨p,g,rfl,SqL.of i,q _ _ _ (.refl _ _) b (.bl _)⟩
  ·cases e
 ·cases e
def tyName(a:Store):D->Option String
 |.non=>some "NoneType"
 |.bl _=>some "bool"
 |.int _=>some "int"
 |.str _=>some "str"
 |.tup _=>some "tuple"
 |.lst _=>some "list"
 |.ref n=>match a[n]? with
  |some (.lst _)=>some "list"
  |some (.dT _)=>some "dict"
  |_=>none
 |_=>none
noncomputable def isTy(t T:String):Bool:=t==T||(t=="bool"&&T=="int")
def bIsinst:List D->Store->Res D:=λb a=>match b with
 |[x,.ty T]=>match tyName a x with
  |some t=>if["int","bool","str","tuple","list","dict"].contains T=true then .ok (.bl (isTy t T)) a else .stuck
  |none=>.stuck
 |_=>.stuck
theorem zyl{K:Fg}(c:Rep K ρ au H) (a:At K ρ H d u)(e:tyName au d=some t):TyOf K H u (.type t)/\t∈["NoneType","bool","int","str","tuple","list","dict"]:=by
 cases d<;>try (cases e;done)
 ·cases e;cases a;exact⟨.non,by simp⟩
 ·cases e;cases a;exact⟨.bl _,by simp⟩
 ·cases e;cases a;exact⟨.int _,by simp⟩
 ·cases e;cases a;exact⟨.str _,by simp⟩
 ·unfold tyName at e;dsimp only at e;split at e
  ·rename_i h;cases e;obtain⟨p,rfl,f,g,b,i⟩:=zed c a h (by intro z;cases z);exact⟨.lst b,by simp⟩
  ·rename_i h;cases e;obtain⟨p,rfl,f,g,b,i⟩:=zed c a h (by intro z;cases z);exact⟨.dT b,by simp⟩
  ·cases e
 ·cases e;cases a with
  |tup h1 h2 h3=>exact⟨.tup h1,by simp⟩
 ·cases e;cases a with
  |lst h1 h2 h3=>exact⟨.lst h1,by simp⟩
theorem zbtr{K:Fg}{T:String}(b:t∈["NoneType","bool","int","str","tuple","list","dict"])(a:T∈["int","bool","str","tuple","list","dict"]):W.kitOne K (.type t) (.type T)=some (isTy t T):=by
 simp only[xbl,xgt,xlt] at b a;rcases b with rfl|rfl|rfl|rfl|rfl|rfl|rfl<;>rcases a with rfl|rfl|rfl|rfl|rfl|rfl<;>rfl
theorem zlz{K:Fg}:CaD K bIsinst (λd H Q=>∃x T t b,d=[x,.ty T]/\TyOf K H x t/\W.kitOne K t (.type T)=some b/\Q (.bl b) H):=λρ H m d l z k Q c i e q=>by
 unfold bIsinst at e;split at e
 ·split at e
  ·rename_i h;split at e
   ·rename_i g;cases e;obtain⟨u,v,rfl,a,b⟩:=i.two;cases b;obtain⟨j,f⟩:=zyl c a h;exact⟨_,_,_,_,rfl,j,zbtr f (by simpa using g),q _ _ _ (.refl _ _) c (.bl _)⟩
   ·cases e
  ·cases e
 ·cases e
def bTuple:List D->Store->Res D:=λb a=>match b with
 |[.tup ys]=>.ok (.tup ys) a
 |[x]=>match asL a x with
  |some ys=>.ok (.tup ys) a
  |none=>.stuck
 |_=>.stuck
theorem zdv{K:Fg}:CaD K bTuple (λj H Q=>∃p g,j=[.ref p]/\((SqL K H p g/\∀l,H l=none->Q (.ref l) (upd H l (.tup g)))\/(SqT K H p g/\Q (.ref p) H))):=λρ H o j m z k Q b i e q=>by
 unfold bTuple at e;split at e
 ·cases e;obtain⟨u,rfl,a⟩:=i.one;cases a with
  |tup c f h3=>exact⟨_,_,rfl,.inr ⟨SqT.of c,q _ _ _ (.refl _ _) b (.tup c f h3)⟩⟩
 ·split at e
  ·rename_i h;cases e;obtain⟨u,rfl,a⟩:=i.one;obtain⟨p,n,rfl,c,f⟩:=zgq b a h;exact⟨_,_,rfl,.inl ⟨SqL.of c,λl d=>q _ _ _ (Ext.new d _) (b.new d _) (.newT b d f)⟩⟩
  ·cases e
 ·cases e
def bList:List D->Store->Res D:=λb a=>match b with
 |[x]=>match seqOf a x with
  |some ys=>.ok (.lst ys) a
  |none=>.stuck
 |_=>.stuck
theorem zbqj{K:Fg}:CaD K bList (λf H Q=>∃p d,f=[.ref p]/\(SqL K H p d\/SqT K H p d)/\∀l,H l=none->Q (.ref l) (upd H l (.lst d))):=λρ H o f m z k Q c i e q=>by
 unfold bList at e;split at e
 ·split at e
  ·rename_i h;cases e;obtain⟨u,rfl,a⟩:=i.one;obtain⟨p,n,rfl,j,g⟩:=zky c a h;exact⟨_,_,rfl,j,λl b=>q _ _ _ (Ext.new b _) (c.new b _) (.newL c b g)⟩
  ·cases e
 ·cases e
noncomputable abbrev aL(a:List Int):D:=.tup (a.map .int)
abbrev aJ(l:List (List Int)):List D:=l.map aL
def insR(a:List Int):List (List Int)->List (List Int)
 |[]=>[a]
 |b::r=>if HT.lexLt b a=true then b::insR a r else a::b::r
def sortR:List (List Int)->List (List Int)
 |[]=>[]
 |a::r=>insR a (sortR r)
abbrev UpR(l:List (List Int)):Prop:=l.Pairwise λa b=>HT.lexLt b a=false
theorem zlm(a:List Int):∀l,(insR a l).Perm (a::l)
 |[]=>.refl _
 |b::r=>by
  unfold insR;split
  ·exact(List.Perm.cons b (zlm a r)).trans (.swap a b r)
  ·exact .refl _
theorem zr:∀l,(sortR l).Perm l
 |[]=>.refl _
 |a::r=>(zlm a _).trans (.cons a (zr r))
theorem zox(e:HT.lexLt b a=false)(d:HT.lexLt c b=false):HT.lexLt c a=false:=by
 cases h:HT.lexLt c a with
 |false=>rfl
 |true=>
  rcases Srt.znb a b with z|z|z
  ·have:=Srt.zho h z;rw[d] at this;cases this
  ·subst z;rw[d] at h;cases h
  ·rw[e] at z;cases z
theorem zbdf(a:List Int):∀l,UpR l->UpR (insR a l)
 |[],_=>xky _ _
 |b::r,h=>by
  obtain⟨d,f⟩:=xhc.mp h;unfold insR;split
  ·rename_i c;refine xhc.mpr ⟨λx hx=>?_,zbdf a r f⟩;rcases xbl.mp ((zlm a r).mem_iff.mp hx) with rfl|hx
   ·exact Srt.zqw c
   ·exact d x hx
  ·rename_i c;have e:HT.lexLt b a=false:=by simpa using c
   refine xhc.mpr ⟨λx hx=>?_,h⟩;rcases xbl.mp hx with rfl|hx
   ·exact e
   ·exact zox e (d x hx)
theorem zkw:∀l,UpR (sortR l)
 |[]=>.nil
 |a::r=>zbdf a _ (zkw r)
theorem zpz:∀{l m:List (List Int)},l.Perm m->UpR l->UpR m->l=m
 |[],m,p,_,_=>by rw[List.nil_perm.mp p]
 |a::l,[],p,_,_=>by cases List.perm_nil.mp p
 |a::l,b::m,p,h1,h2=>by
  obtain⟨g,i⟩:=xhc.mp h1;obtain⟨d,h⟩:=xhc.mp h2;have e:a=b:=by
   rcases xbl.mp (p.mem_iff.mp xbv) with z|z
   ·exact z
   ·rcases xbl.mp (p.mem_iff.mpr (xbv (a:=b) (l:=m))) with y|y
    ·exact y.symm
    ·have f:=d a z;have c:=g b y;rcases Srt.znb a b with w|w|w
     ·rw[f] at w;cases w
     ·exact w
     ·rw[c] at w;cases w
  subst e;rw[zpz (List.Perm.cons_inv p) i h]
theorem zkx{m:List (List Int)}(p:m.Perm l)(h:UpR m):m=sortR l:=zpz (p.trans (zr l).symm) h (zkw l)
theorem zdp(l:List (List Int)):(sortR l).length=l.length:=(zr l).length_eq
def asRows:List D->Option (List (List Int))
 |[]=>some []
 |.tup ds::r=>(asInts ds).bind λa=>(asRows r).map (a::·)
 |_::_=>none
theorem zsa{K:Fg}:∀{f:List D}{g:List V}{l:List (List Int)},AtAll K ρ H f g->asRows f=some l ->
  ∃c:List (Addr×List Int),g=c.map (λp=>V.ref p.1)/\c.map (·.2)=l/\∀p∈c,H p.1=some (.tup (p.2.map V.int))/\Out ρ p.1
 |_,_,_,.nil,e=>by cases e;exact⟨[],rfl,rfl,λ_ h=>nomatch h⟩
 |_,_,_,.cons (d:=d) a b,e=>by
  cases d<;>try (cases e;done)
  rw[asRows] at e;obtain⟨o,m,e⟩:=xfp.mp e;obtain⟨l,k,rfl⟩:=xdc.mp e;obtain⟨c,q,j,n⟩:=zsa b k;cases a with
  |tup g1 g2 g3=>
   rename_i ad r;have i:=zdx g3 m;subst i;refine⟨(ad,o)::c,by rw[q];rfl,by rw[←j];rfl,λp hp=>?_⟩;rcases xbl.mp hp with rfl|hp
   ·exact⟨g1,g2⟩
   ·exact n p hp
theorem ziu{K:Fg}:∀a:List Int,AtAll K ρ H (a.map .int) (a.map V.int)
 |[]=>.nil
 |n::a=>.cons (.int n) (ziu a)
theorem zoj{K:Fg}:∀a:List (Addr×List Int),(∀p∈a,H p.1=some (.tup (p.2.map V.int))/\Out ρ p.1)->AtAll K ρ H (aJ (a.map (·.2))) (a.map λp=>V.ref p.1)
 |[],_=>.nil
 |p::a,h=>.cons (.tup (h p xbv).1 (h p xbv).2 (ziu _)) (zoj a λq b=>h q (xbf _ b))
theorem zqs{K:Fg}(r:Rep K ρ au H) (b:H p=some (.tup vs)):Out ρ p:=by
 refine⟨λz=>?_,λz=>?_⟩
 ·obtain⟨i,d,e⟩:=xev z;obtain⟨x,_,q⟩:=r.has (n:=i) (a:=p) (by rw[xbe d,e]);cases x with
  |lst xs=>obtain⟨_,e,_⟩:=q;rw[b] at e;cases e
  |dT kvs=>obtain⟨_,e,_⟩:=q;rw[b] at e;cases e
  |fT kvs=>obtain⟨_,_,e,_⟩:=q;rw[b] at e;cases e
  |dI kvs=>obtain⟨_,e,_⟩:=q;rw[b] at e;cases e
  |dP ks=>obtain⟨_,e,_⟩:=q;rw[b] at e;cases e
  |dead=>exact q
  |tab=>obtain⟨_,_,e,_⟩:=q;rw[b] at e;cases e
 ·obtain⟨⟨u,c⟩,_⟩:=r.gh p z;rw[b] at c;cases c
noncomputable def valD(a:List (List Int×D)) (k:List Int):Option D:=(a.find? λb=>decide (b.1=k)).map (·.2)
noncomputable def putD(a:List (List Int×D)) (k:List Int) (v:D):List (List Int×D):=
 if(a.any λb=>decide (b.1=k))=true then a.map (λb=>if b.1=k then(b.1,v) else b) else a++[(k,v)]
noncomputable def dropD(a:List (List Int×D)) (k:List Int):List (List Int×D):=a.filter λb=>decide (b.1≠k)
theorem zqz{a b:List Int}:a.map (Sum.inl:Int->Key)=b.map Sum.inl↔a=b:=by
 constructor
 ·intro h;exact(List.map_inj_right (f:=(Sum.inl:Int->Key)) λx y e=>Sum.inl.inj e).mp h
 ·rintro rfl;rfl
theorem KvAt.val{K:Fg}(h:KvAt K ρ H kvs vs)(k:List Int):match valD kvs k with
  |some d=>∃v,valV vs (k.map Sum.inl)=some v/\At K ρ H d v
  |none=>valV vs (k.map Sum.inl)=none:=by
 induction h with
 |nil=>rfl
 |@cons p q ps qs h t ih=>
  obtain⟨b,f⟩:=h;by_cases e:p.1=k
  ·have a:valD (p::ps) k=some p.2:=by simp[valD,xfb,e]
   rw[a];exact⟨q.2,zhy (by rw[b,e]),f⟩
  ·have a:valD (p::ps) k=valD ps k:=by simp[valD,xfb,e]
   have c:valV (q::qs) (k.map Sum.inl)=valV qs (k.map Sum.inl):=zhz (by rw[b,zqz];exact e);rw[a,c];exact ih
theorem KvAt.keys{K:Fg}(h:KvAt K ρ H kvs vs):vs.map (·.1)=(kvs.map (·.1)).map λa=>a.map Sum.inl:=by
 induction h with
 |nil=>rfl
 |@cons p q ps qs h t ih=>rw[xbr,xbr,xbr,ih,h.1]
theorem KvAt.put{K:Fg}(h:KvAt K ρ H b c)(k:List Int) (a:At K ρ H d v):KvAt K ρ H (putD b k d) (putK c (k.map Sum.inl) v):=by
 have f:∀{b:List (List Int×D)}{c:List (List Key×V)},KvAt K ρ H b c->(b.any λj=>decide (j.1=k))=(c.any λj=>decide (j.1=k.map Sum.inl)):=λh=>by
  induction h with
  |nil=>rfl
  |@cons p q ps qs h t ih=>
   rw[xiy,xiy,ih,h.1]
   congr 1
   simp only[zqz]
 unfold putD putK;rw[f h];split
 ·rename_i m;clear m f
  induction h with
  |nil=>exact .nil
  |@cons p q ps qs h t ih=>
   refine .cons ?_ ih;obtain⟨g,l⟩:=h;dsimp only;by_cases e:p.1=k
   ·rw[if_pos e,if_pos (by rw[g,e])];exact⟨g,a⟩
   ·rw[if_neg e,if_neg (by rw[g,zqz];exact e)];exact⟨g,l⟩
 ·have i:∀{b:List (List Int×D)}{c:List (List Key×V)},KvAt K ρ H b c->KvAt K ρ H (b++[(k,d)]) (c++[(k.map Sum.inl,v)]):=λh=>by
   induction h with
   |nil=>exact .cons ⟨rfl,a⟩ .nil
   |cons h t ih=>exact .cons h ih
  exact i h
theorem KvAt.drop{K:Fg}(h:KvAt K ρ H kvs vs)(k:List Int):KvAt K ρ H (dropD kvs k) (dropK vs (k.map Sum.inl)):=by
 unfold dropD dropK
 induction h with
 |nil=>exact .nil
 |@cons p q ps qs h t ih=>
  by_cases e:p.1=k
  ·rw[xcs (by simp[e]),xcs (by simp[h.1,e])];exact ih
  ·rw[xcp (by simp[e]),xcp (by simp[h.1,zqz,e])];exact .cons h ih
theorem KvAt.length{K:Fg}(h:KvAt K ρ H kvs vs):kvs.length=vs.length:=xix h
def pairsOf(a:Store):D->Option (List (List Int×D))
 |.ref n=>match a[n]? with
  |some (.dT kvs)=>some kvs
  |some (.fT kvs)=>some kvs
  |_=>none
 |_=>none
theorem zom{K:Fg}(f:Rep K ρ au H) (a:At K ρ H d u)(e:pairsOf au d=some kvs):∃p vs,u=.ref p/\Rd H p (.dT vs)/\KvAt K ρ H kvs vs:=by
 unfold pairsOf at e;split at e
 ·split at e
  ·rename_i h;cases e;obtain⟨p,rfl,g,vs,b,c⟩:=zed f a h (by intro z;cases z);exact⟨p,vs,rfl,.inl b,c⟩
  ·rename_i h;cases e;obtain⟨p,rfl,g,vs,i,b,c⟩:=zed f a h (by intro z;cases z);exact⟨p,vs,rfl,.inr ⟨i,b⟩,c⟩
  ·cases e
 ·cases e
def keyOf:D->Option (List Int)
 |.tup ds=>asInts ds
 |_=>none
theorem zbgz{K:Fg}(a:At K ρ H d u)(e:keyOf d=some k):∃p,u=.ref p/\H p=some (.tup ((k.map (Sum.inl:Int->Key)).map kV)):=by
 unfold keyOf at e;split at e
 ·cases a with
  |tup h1 h2 h3=>
   have:=zdx h3 e;subst this;exact⟨_,rfl,by rw[zbdd];exact h1⟩
 ·cases e
theorem zwu{K:Fg}(f:Rep K ρ au H) (a:At K ρ H d u)(b:At K ρ H y w)(e:pairsOf au d=some kvs)(h:keyOf y=some k):
  ∃p o,u=.ref p/\DGet H p w o/\match valD kvs k with
   |some z=>∃v,o=some v/\At K ρ H z v
   |none=>o=none:=by
 obtain⟨p,c,rfl,j,g⟩:=zom f a e;obtain⟨q,rfl,i⟩:=zbgz b h;refine⟨p,valV c (k.map Sum.inl),rfl,.inr ⟨c,_,q,j,rfl,i,rfl⟩,?_⟩;have:=g.val k;cases hv:valD kvs k with
 |none=>rw[hv] at this;exact this
 |some z=>rw[hv] at this;exact this
def oDIn(a:Bool) (y x:D) (b:Store):Res D:=match keyOf y,pairsOf b x with
 |some k,some kvs=>.ok (.bl (if a then !(valD kvs k).isSome else(valD kvs k).isSome)) b
 |_,_=>.stuck
def oDGet(x y:D) (a:Store):Res D:=match pairsOf a x,keyOf y with
 |some kvs,some k=>match valD kvs k with
  |some v=>.ok v a
  |none=>.stuck
 |_,_=>.stuck
def eDGet2(f g h:SE):SE:=λσ d=>(f σ d).bind λx b=>match pairsOf b x with
 |some _=>(g σ b).bind λy c=>(h σ c).bind λz a=>match pairsOf a x,keyOf y with
  |some kvs,some k=>.ok ((valD kvs k).getD z) a
  |_,_=>.stuck
 |none=>.stuck
def eDPop(f g:SE):SE:=λσ c=>(f σ c).bind λx a=>match pairsOf a x with
 |some _=>(g σ a).bind λy b=>match x,keyOf y with
  |.ref n,some k=>match b[n]? with
   |some (.dT kvs)=>match valD kvs k with
    |some v=>.ok v (b.set n (.dT (dropD kvs k)))
    |none=>.stuck
   |_=>.stuck
  |_,_=>.stuck
 |none=>.stuck
def sDPut(f g h:SE):SS:=λσ d=>(h σ d).bind λv b=>(f σ b).bind λx c=>(g σ c).bind λy a=>match x,keyOf y with
 |.ref n,some k=>match a[n]? with
  |some (.dT kvs)=>if kvs.length<sizeLine then .ok (.nx σ) (a.set n (.dT (putD kvs k v))) else .stuck
  |_=>.stuck
 |_,_=>.stuck
def eDNew:SE:=λ_ a=>.ok (.ref a.length) (a++[.dT []])
theorem zboc{K:Fg}(f:Rep K ρ au H) (a:At K ρ H d u)(e:pairsOf au d=some kvs):∃p,u=.ref p/\IsD H p:=by
 obtain⟨p,b,rfl,c,_⟩:=zom f a e;exact⟨p,rfl,.inr ⟨b,c⟩⟩
theorem zbve:DE X (.Dict [] [] pos) eDNew:=zgc zbfs λτ H Q b p d=>by
 obtain⟨ρ,σ,g,v,f,a,c,e,q⟩:=b;cases e;obtain⟨E,R⟩:=c.alloc d (x:=.dT []) (o:=.dT []) λE=>⟨[],zp,.nil⟩
 exact q _ _ _ E R (.last c.len.symm)
theorem zbxv{X:Cx}(hu:X.A.units+1<cLine)(P:DE X i g)(G:DE X o f):PC X .In i o (tD X.K (aS (oDIn false) g f)):=λA s σ H Q I hq=>by
 refine zbsu hu P G A s σ H Q I ?_;obtain⟨ρ,m,au,v,a0,a,t,e,q⟩:=hq;obtain⟨x,c,E,e⟩:=za e;obtain⟨y,h,U,e⟩:=za e;refine⟨ρ,m,au,x,c,a,t,E,λρ1 H1 u l d Y=>?_⟩;refine⟨ρ1,m,c,y,h,a.ext l,d,U,λρ2 H2 w k b a2=>?_⟩;unfold oDIn at e;split at e
 ·rename_i r S J z;cases e;obtain⟨p,n,rfl,g1,C⟩:=zwu b a2 (Y.ext k) z J;refine⟨p,n,rfl,g1,?_⟩;have:n.isSome=(valD S r).isSome:=by
   revert C;split
   ·rename_i j;rintro⟨v,rfl,_⟩;rw[j];rfl
   ·rename_i j;rintro rfl;rw[j];rfl
  rw[this];exact q _ _ _ (l.trans k) b (.bl _)
 ·cases e
theorem d_in(h:PC X op a b (tD X.K t))(c:behindInMarks op b=false:=by first|exact nobehind _ (by decide) (by decide)|rfl):DE X (.Compare a [op] [b] pos) t:=zbss h c
theorem zbyo(h:PC X op a b (tD X.K t))(c:behindInMarks op b=false:=by first|exact nobehind _ (by decide) (by decide)|rfl):DT X (.Compare a [op] [b] pos) (eB t):=zbjs (zbsc h c) λτ H Q d=>eB_t _ _ _ d
theorem zbvf{X:Cx}(hu:X.A.units+1<cLine)(t:DE X o f)(C:DE X i g)(E:NoSl i):DE X (.Subscript o i pos) (aS oDGet f g):=zgc (zbmh hu t C E) λτ H Q h=>by
 obtain⟨ρ,σ,U,v,Y,a,n,e,q⟩:=h;obtain⟨x,c,s,e⟩:=za e;obtain⟨y,j,J,e⟩:=za e;refine⟨ρ,σ,U,x,c,a,n,s,λρ1 H1 u m d P=>?_⟩;refine⟨ρ1,σ,c,y,j,a.ext m,d,J,λρ2 H2 w k b S=>?_⟩;unfold oDGet at e;split at e
 ·rename_i A r;split at e
  ·rename_i z hv;cases e;obtain⟨p,oo,rfl,g1,l⟩:=zwu b (P.ext k) S A r;rw[hv] at l;obtain⟨I,rfl,G⟩:=l;exact⟨p,I,rfl,g1,q _ _ _ (m.trans k) b G⟩
  ·cases e
 ·cases e
theorem zbpo{X:Cx}(hu:X.A.units + 1<cLine)(U:DE X o f)(he:DE X e g)(P:DE X f' h)(m:M2 X o "get" apos e f' cpos):DE X (.Call (.Attribute o "get" apos) [e,f'] [] cpos) (eDGet2 f g h):=zgc (zbfu hu U he P m) λτ H Q k=>by
 obtain⟨ρ,σ,au,v,a0,a,E,e,q⟩:=k;obtain⟨x,d,J,e⟩:=za e;refine⟨ρ,σ,au,x,d,a,E,J,λρ1 H1 u r b C=>?_⟩;split at e
 ·rename_i h0;obtain⟨p,rfl,hd⟩:=zboc b C h0;obtain⟨y,c,e2,e⟩:=za e;obtain⟨z,l,e3,e⟩:=za e;refine⟨p,rfl,hd,?_⟩;refine⟨ρ1,σ,d,y,c,a.ext r,b,e2,λρ2 H2 w j n a2=>?_⟩;refine⟨ρ2,σ,c,z,l,a.ext (r.trans j),n,e3,λρ3 H3 t s i a3=>?_⟩;split at e
  ·rename_i Y G;cases e;obtain⟨p',oo,S,g1,I⟩:=zwu i (C.ext (j.trans s)) (a2.ext s) Y G;cases S;refine⟨oo,g1,q _ _ _ (r.trans (j.trans s)) i ?_⟩;revert I;split
   ·rename_i A;rintro⟨vv,rfl,g3⟩;rw[A];exact g3
   ·rename_i A;rintro rfl;rw[A];exact a3
  ·cases e
 ·cases e
theorem zbvd{X:Cx}(hu:X.A.units + 1<cLine)(ho:DE X o f)(he:DE X e g)(m:M1 X o "pop" apos e cpos):DE X (.Call (.Attribute o "pop" apos) [e] [] cpos) (eDPop f g):=zgc (zbfr hu ho he m) λτ H Q i=>by
 obtain⟨ρ,σ,au,v,a3,a,P,e,q⟩:=i;obtain⟨x,h,S,e⟩:=za e;refine⟨ρ,σ,au,x,h,a,P,S,λρ1 H1 u C c G=>?_⟩;split at e
 ·rename_i h0;obtain⟨p,rfl,hd⟩:=zboc c G h0;obtain⟨y,j,e2,e⟩:=za e;refine⟨p,rfl,hd,?_⟩;refine⟨ρ1,σ,h,y,j,a.ext C,c,e2,λA H2 w r d a2=>?_⟩;split at e
  ·rename_i n k hk _;split at e
   ·rename_i a0 hn;split at e
    ·rename_i z hv;cases e;obtain⟨p',U,I,J,l,s⟩:=zed d (G.ext r) hn (by intro z;cases z);cases U;obtain⟨b,rfl,g3⟩:=zbgz a2 hk;have t:=s.val k;rw[hv] at t;obtain⟨vv,Y,g6⟩:=t;have E:Ext A H2 A (upd H2 p (.dT (dropK J (k.map Sum.inl)))):=Ext.wr I (zkc l) _;exact⟨J,_,vv,b,l,rfl,g3,Y,q _ _ _ ((C.trans r).trans E) (d.wr I (zkc l) ⟨_,zp,(s.drop k).ext E⟩) (g6.ext E)⟩
    ·cases e
   ·cases e
  ·cases e
 ·cases e
theorem zbou{X:Cx}{d:Pos}(hu:X.A.units+1<cLine)(ho:DE X o f)(hi:DE X i g)(hv:DE X value h)(hs:swapsWith value (some (.Subscript o i pos')) d.line X.env=pure false):
  DSt X (.Assign [.Subscript o i pos'] value d) (sDPut f g h):=zti (zblt hu ho hi hv hs) λE τ H C=>by
 obtain⟨ρ,σ,au,fl,a4,a,Y,e,q⟩:=C;obtain⟨v,j,e1,e⟩:=za e;obtain⟨x,c,e2,e⟩:=za e;obtain⟨y,G,e3,e⟩:=za e;refine⟨ρ,σ,au,v,j,a,Y,e1,λρ1 H1 u r A a1=>?_⟩;refine⟨ρ1,σ,j,x,c,a.ext r,A,e2,λρ2 H2 w m I a2=>?_⟩;refine⟨ρ2,σ,c,y,G,a.ext (r.trans m),I,e3,λQ H3 t s l a3=>?_⟩;split at e
 ·rename_i n k hk _;split at e
  ·rename_i a0 hn;split at e
   ·rename_i U;cases e;obtain⟨p,rfl,S,vs,J,P⟩:=zed l (a2.ext s) hn (by intro z;cases z);obtain⟨b,rfl,g3⟩:=zbgz a3 hk;have E:Ext Q H3 Q (upd H3 p (.dT (putK vs (k.map Sum.inl) u))):=Ext.wr S (zkc J) _;refine⟨p,_,rfl,DPut.t J g3 (by rw[←P.length];exact U),?_⟩;exact q _ _ _ ((r.trans (m.trans s)).trans E) (l.wr S (zkc J) ⟨_,zp,(P.put k (a1.ext (m.trans s))).ext E⟩) (a.ext ((r.trans (m.trans s)).trans E))
   ·cases e
  ·cases e
 ·cases e
def bSorted:List D->Store->Res D:=λb a=>match b with
 |[x]=>match (asL a x).bind asRows with
  |some l=>if l.length<=1000000 then .ok (.lst (aJ (sortR l))) a else .stuck
  |none=>match pairsOf a x with
   |some kvs=>if kvs.length<=1000000 then .ok (.lst (aJ (sortR (kvs.map (·.1))))) a else .stuck
   |none=>.stuck
 |_=>.stuck
theorem zdw{K:Fg}:CaD K bSorted (λr H Q=>rSortedAL K r H Q\/rSortedDAL r H Q):=λρ H P r J z C Q c G e q=>by
 unfold bSorted at e;split at e
 ·obtain⟨u,rfl,a⟩:=G.one;split at e
  ·rename_i l j;obtain⟨I,A,j⟩:=xfp.mp j;split at e
   ·rename_i b;cases e;obtain⟨p,y,rfl,m,k⟩:=zgq c a A;obtain⟨v,rfl,rfl,s⟩:=zsa k j;rw[xbb] at b;refine .inl ⟨p,v,rfl,SqL.of m,b,λx f=>SqT.of (s x f).1,λt g d i n=>?_⟩;have o:g.map (·.2)=sortR (v.map (·.2)):=zkx (i.map _) n;refine q _ _ _ (Ext.new d _) (c.new d _) (.newL c d ?_);rw[←o];exact zoj g λx f=>s x (i.mem_iff.mp f)
   ·cases e
  ·split at e
   ·rename_i h E;split at e
    ·rename_i b;cases e;obtain⟨p,y,rfl,m,k⟩:=zom c a E;refine .inr ⟨p,y,h.map (·.1),rfl,m,k.keys,by rw[xbb];exact b,λt g d i n w=>?_⟩;have o:g.map (·.2)=sortR (h.map (·.1)):=zkx i n;refine q _ _ _ (Ext.new d _) (c.new d _) (.newL c d ?_);rw[←o];exact zoj g λx f=>⟨w x f,zqs c (w x f)⟩
    ·cases e
   ·cases e
 ·cases e
theorem zbo{X:Cx}(c:X.calm=true)(a:X.A.units + 64<cLine):CallR X (.builtin "sorted") (λb H Q=>rSortedAL X.K b H Q\/rSortedDAL b H Q):=(znq a).or (zlx c a)
def eAppend(f:SE) (g:SA):SE:=λσ c=>(f σ c).bind λx a=>match x,asL a x with
 |.ref n,some _=>(g σ a).bind λd b=>match d,b[n]? with
  |[y],some (.lst xs)=>if xs.length<sizeLine then .ok .non (b.set n (.lst (xs++[y]))) else .stuck
  |_,_=>.stuck
 |_,_=>.stuck
def eExtend(f:SE) (g:SA):SE:=λσ c=>(f σ c).bind λx b=>match x,asL b x with
 |.ref n,some _=>(g σ b).bind λd a=>match d,a[n]? with
  |[y],some (.lst xs)=>match asL a y with
   |some zs=>if xs.length+zs.length<=sizeLine then .ok .non (a.set n (.lst (xs++zs))) else .stuck
   |none=>.stuck
  |_,_=>.stuck
 |_,_=>.stuck
theorem zbiq{c:Pos}(ho:DE X o f)(ha:DA X (e::es) ga)(d:attributeBase o "append" X.env (eval o X.env)=eval o X.env:=by rfl)
  (j:((backTo cpos (starEach (e::es) X.env)).all (λx=>!x.1)&&(backToKw cpos (keywordEach [] X.env)).all (λx=>x.1.isSome)
   && decide ((e::es).length+([]:List Keyword).length+(if([]:List Keyword).isEmpty then 0 else 1)<30))=true:=by rfl)
  (g:(c.endLine==cpos.line)=true:=by rfl)(hs:starEach (e::es) X.env=(false,eval e X.env)::starEach es X.env:=by rfl)(b:(backTo cpos (starEach es X.env)).any (·.1)=false:=by rfl):
  DE X (.Call (.Attribute o "append" c) (e::es) [] cpos) (eAppend f ga):=zgc (zbqw F.plainAttrs_list F.slot_list_append F.type_list_append zqv ho ha d j g hs b) λτ H Q r=>by
 obtain⟨ρ,σ,au,v,a0,a,S,e,q⟩:=r;obtain⟨x,l,Y,e⟩:=za e;refine⟨ρ,σ,au,x,l,a,S,Y,λρ1 H1 u C i G=>?_⟩;split at e
 ·rename_i n _ hL;obtain⟨U,s,e2,e⟩:=za e;obtain⟨p,vs,rfl,g1,g2⟩:=zgq i G hL;refine⟨.inl ⟨rfl,_,SqL.of g1⟩,ρ1,σ,l,U,s,a.ext C,i,e2,λA H2 ws t k a2=>?_⟩;split at e
  ·rename_i y xs hn;split at e
   ·rename_i P;cases e;obtain⟨w,rfl,a3⟩:=a2.one;obtain⟨p',ep,J,h,m,I⟩:=zed k (G.ext t) hn (by intro z;cases z);cases ep;have E:Ext A H2 A (upd H2 p (.lst (h++[w]))):=Ext.wr J (zgk m) _;exact⟨p,h,w,rfl,rfl,m,by rw[I.length];exact P,q _ _ _ ((C.trans t).trans E) (k.wr J (zgk m) ⟨_,zp,(I.append (.cons a3 .nil)).ext E⟩) .non⟩
   ·cases e
  ·cases e
 ·cases e
theorem zbim{d:Pos}(ho:DE X o f)(ha:DA X (e::es) ga)(g:attributeBase o "extend" X.env (eval o X.env)=eval o X.env:=by rfl)
  (m:((backTo cpos (starEach (e::es) X.env)).all (λx=>!x.1)&&(backToKw cpos (keywordEach [] X.env)).all (λx=>x.1.isSome)
   && decide ((e::es).length+([]:List Keyword).length+(if([]:List Keyword).isEmpty then 0 else 1)<30))=true:=by rfl)
  (i:(d.endLine==cpos.line)=true:=by rfl)(hs:starEach (e::es) X.env=(false,eval e X.env)::starEach es X.env:=by rfl)(c:(backTo cpos (starEach es X.env)).any (·.1)=false:=by rfl):
  DE X (.Call (.Attribute o "extend" d) (e::es) [] cpos) (eExtend f ga):=zgc (zbqw F.plainAttrs_list F.slot_list_extend F.type_list_extend zzy ho ha g m i hs c) λτ H Q t=>by
 obtain⟨ρ,σ,au,v,a0,a,rp,e,q⟩:=t;obtain⟨x,r,e1,e⟩:=za e;refine⟨ρ,σ,au,x,r,a,rp,e1,λρ1 H1 u I l J=>?_⟩;split at e
 ·rename_i n _ hL;obtain⟨ys,A,e2,e⟩:=za e;obtain⟨p,vs,rfl,g1,g2⟩:=zgq l J hL;refine⟨.inl ⟨rfl,_,SqL.of g1⟩,ρ1,σ,r,ys,A,a.ext I,l,e2,λG H2 ws C h a2=>?_⟩;split at e
  ·rename_i y xs hn;split at e
   ·rename_i zs hz;split at e
    ·rename_i Y;cases e;obtain⟨w,rfl,a3⟩:=a2.one;obtain⟨p',ep,S,k,s,P⟩:=zed h (J.ext C) hn (by intro z;cases z);cases ep;obtain⟨b,j,rfl,m1,U⟩:=zgq h a3 hz;have E:Ext G H2 G (upd H2 p (.lst (k++j))):=Ext.wr S (zgk s) _;exact⟨p,b,k,j,rfl,rfl,s,m1,by rw[P.length,U.length];exact Y,q _ _ _ ((I.trans C).trans E) (h.wr S (zgk s) ⟨_,zp,(P.append U).ext E⟩) .non⟩
    ·cases e
   ·cases e
  ·cases e
 ·cases e
def eFz(f:SE):SE:=λσ b=>(f σ b).bind λx a=>match x with
 |.ref n=>match a[n]? with
  |some (.lst xs)=>.ok (.lst xs) (a.set n .dead)
  |_=>.stuck
 |_=>.stuck
theorem d_fz(P:DE X o f):DE X o (eFz f):=zgc P λτ H Q g=>by
 obtain⟨ρ,σ,C,v,G,a,k,e,q⟩:=g;obtain⟨x,j,l,e⟩:=za e;refine⟨ρ,σ,C,x,j,a,k,l,λJ H1 u t b y=>?_⟩;split at e
 ·rename_i n;split at e
  ·rename_i S I;cases e;obtain⟨p,rfl,h,m,r,A⟩:=zed b y I (by intro z;cases z);have c:=(xbd.mp h).1;obtain⟨E,R⟩:=b.kill c;refine q _ _ _ (t.trans E) R (.lst r ⟨λz=>?_,λz=>(b.gh p z).2 (xbo h)⟩ (A.ext E));obtain⟨i,s,w⟩:=xev z;have d:(J.m.set n none)[i]?=some (some p):=by rw[xbe s,w]
   by_cases hin:i=n
   ·subst hin;rw[xfe c] at d;simp at d
   ·rw[xbx (xdj hin)] at d;exact hin (b.inj i n p d h)
  ·cases e
 ·cases e
def sNx:SS:=λσ a=>.ok (.nx σ) a
def sBrk:SS:=λσ a=>.ok (.brk σ) a
def sCt:SS:=λσ a=>.ok (.ct σ) a
def sRet(f:SE):SS:=λσ b=>(f σ b).bind λv a=>.ok (.ret v) a
def sRetN:SS:=λ_ a=>.ok (.ret .non) a
def sDrop(f:SE):SS:=λσ b=>(f σ b).bind λ_ a=>.ok (.nx σ) a
def aF(i:Nat) (f:SE):SS:=λσ b=>(f σ b).bind λv a=>.ok (.nx (σ.set i (some v))) a
def aD(s t:SS):SS:=λσ a=>match s σ a with
 |.ok (.nx σ1) st1=>t σ1 st1
 |r=>r
def sIf(c:ST) (s t:SS):SS:=λσ d=>(c σ d).bind λb a=>if b=true then s σ a else t σ a
def sAug(i:Nat) (g:D->D->Store->Res D) (f:SE):SS:=λσ c=>match σ[i]? with
 |some (some x)=>(f σ c).bind λy a=>(g x y a).bind λz b=>.ok (.nx (σ.set i (some z))) b
 |_=>.stuck
def sSetIx(f g h:SE):SS:=λσ d=>(h σ d).bind λv b=>(f σ b).bind λx c=>(g σ c).bind λy a=>match x,y with
 |.ref n,.int k=>match a[n]? with
  |some (.lst xs)=>match ixN xs.length k with
   |some j=>.ok (.nx σ) (a.set n (.lst (xs.set j v)))
   |none=>.stuck
  |_=>.stuck
 |_,_=>.stuck
theorem zbus:DSs X [] sNx:=zblo zblq λE τ H b=>by
 obtain⟨ρ,σ,g,f,d,a,c,e,q⟩:=b;cases e;exact q _ _ _ (.refl _ _) c a
theorem zbia:DSt X (.Break pos) sBrk:=zti zbfj λE τ H b=>by
 obtain⟨ρ,σ,g,f,d,a,c,e,q⟩:=b;cases e;exact q _ _ _ (.refl _ _) c a
theorem zbuq(h:DE X e f):DSt X (.Return (some e) pos) (sRet f):=zti (zbsg h) λE τ H c=>by
 obtain⟨ρ,σ,d,o,m,a,g,e,q⟩:=c;obtain⟨x,j,k,e⟩:=za e;cases e;exact⟨ρ,σ,d,x,_,a,g,k,λn H1 u l b i=>q _ _ _ l b i⟩
theorem zbot{b:Pos}(j:DE X e f)(m:swapsWith e none b.line X.env=pure false:=by rfl):DSt X (.Expr e b) (sDrop f):=zti (zbls j m) λE τ H d=>by
 obtain⟨ρ,σ,h,r,n,a,i,e,q⟩:=d;obtain⟨x,k,l,e⟩:=za e;cases e;exact⟨ρ,σ,h,x,_,a,i,l,λo H1 u g c p=>q _ _ _ g c (a.ext g)⟩
theorem zbxl{K:Fg}:∀E τ H,tDS K (aF i f) E τ H->tAsg (tD K f) (gName i) E τ H:=λE τ H c=>by
 obtain⟨ρ,σ,g,o,m,a,h,e,q⟩:=c;obtain⟨x,k,l,e⟩:=za e;cases e;exact⟨ρ,σ,g,x,_,a,h,l,λn H1 u d b j=>q _ _ _ d b ((a.ext d).set j i)⟩
theorem zbup{X:Cx}{a:Pos}(c:X.N.Nodup)(d:X.N[i]?=some x)(h:L2.Loc X.env.scope x)(b:DE X e f)(j:swapsWith e (some (.Name x pos')) a.line X.env=pure false:=by rfl)(g:X.fn x=true\/X.env.scope.names.lookup x=some .local:=by first|exact .inl rfl|exact .inr rfl|assumption):
 DSt X (.Assign [.Name x pos'] e a) (aF i f):=zti (zbsf c d h b j g) zbxl
theorem zbur(a:DSt X sm s):DSs X [sm] s:=zblp a
section
variable {X:Cx}{e:Expr}{sm:Stmt}{rest:List Stmt}{s:SS}{t:SS}
theorem zbov(p:DSt X sm s)(k:DSs X rest t):DSs X (sm::rest) (aD s t):=zblo (zbfh p k) λE τ H g=>by
 obtain⟨ρ,σ,i,f,b,a,j,e,q⟩:=g;unfold aD at e;split at e
 ·rename_i l c o;exact⟨ρ,σ,i,_,c,a,j,o,λm H1 u r d n=>⟨m,l,c,f,b,n,d,e,q.ext r⟩⟩
 ·rename_i h;refine⟨ρ,σ,i,f,b,a,j,e,?_⟩;cases f with
  |nx σ'=>exact absurd e (h σ' b)
  |brk σ'=>exact q
  |ct σ'=>exact q
  |ret v=>exact q
end
theorem zbyp(p:DT X c b)(o:DSs X a' s)(r:DSs X b' t):DSt X (.If c a' b' pos) (sIf b s t):=zti (zbxp p o r) λE τ H i=>by
 obtain⟨ρ,σ,l,k,g,a,m,e,q⟩:=i;obtain⟨x,d,n,e⟩:=za e;refine⟨ρ,σ,l,x,d,a,m,n,λj H1 h f=>?_⟩;cases x with
 |true=>exact iteT ⟨j,σ,d,k,g,a.ext h,f,e,q.ext h⟩
 |false=>exact iteF ⟨j,σ,d,k,g,a.ext h,f,e,q.ext h⟩
def IpD(K:Fg) (g:D->D->Store->Res D) (r:TIp):Prop:=
 ∀ρ H d x y u v z a (Q:VK),Rep K ρ d H->At K ρ H x u->At K ρ H y v->g x y d=.ok z a->(∀c b w,Ext ρ H c b->Rep K c a b->At K c b z w->Q w b)->r u v H Q
theorem zbuu{X:Cx}(G:X.N.Nodup)(t:X.N[i]?=some x)(Y:L2.Loc X.env.scope x)(Q:DE X e f)(ho:PIp X op ti)(o:IpD X.K g ti)(r:X.fn x=true\/X.env.scope.names.lookup x=some .local:=by first|exact .inl rfl|exact .inr rfl|assumption):
  DSt X (.AugAssign (.Name x pos') op e pos) (sAug i g f):=zti (zbsi G t Y Q ho r) λE τ H h=>by
 obtain⟨ρ,σ,P,fl,l,a,n,e,q⟩:=h;unfold sAug at e;split at e
 ·rename_i d I;obtain⟨y,b,p,e⟩:=za e;obtain⟨z,v,A,e⟩:=za e;cases e;obtain⟨u,U,s⟩:=a.get I;refine⟨u,U,ρ,σ,P,y,b,a,n,p,λS H1 w k c C=>?_⟩;exact o S H1 b d y u w z l _ c (s.ext k) C A λρ2 H2 zz m j J=>q _ _ _ (k.trans m) j ((a.ext (k.trans m)).set J i)
 ·cases e
theorem ip_D{K:Fg}:IpD K (oI (λ_ _=>True) λi j=>.int (p i j)) (ipI p):=λρ H f x y u v z d Q c a b e q=>by
 unfold oI at e;split at e
 ·cases a;cases b;rw[if_pos True.intro] at e;cases e;exact⟨_,_,rfl,rfl,q _ _ _ (.refl _ _) c (.int _)⟩
 ·cases e
theorem zbhw{c:Pos}(he:DE X value h)(ho:DE X o f)(hi:DE X i g)(ha:∀v,assign (.Subscript o i pos') X.env v=(do
   let ov ←holding [v] (eval o X.env)
   let iv ←holding [v,ov] (eval i X.env)
   standAt pos'
   holding [v,ov,iv] (setItem ov iv v)
   release [v,ov,iv] []):=by intro _;rfl)
  (hs:swapsWithSole [.Subscript o i pos'] value c.line X.env=pure false:=by rfl)(hw:swappedStores [.Subscript o i pos'] value X.env=pure none:=by rfl)
  (h1:(assignEach [.Subscript o i pos'] X.env).map (·.2)=[assign (.Subscript o i pos') X.env]:=by rfl):DSt X (.Assign [.Subscript o i pos'] value c) (sSetIx f g h):=
 zti (zblu he (zbsm ho hi zbez ha) hs hw h1) λE τ H C=>by
 obtain⟨ρ,σ,au,fl,a0,a,Y,e,q⟩:=C;obtain⟨v,d,e1,e⟩:=za e;obtain⟨x,b,e2,e⟩:=za e;obtain⟨y,G,e3,e⟩:=za e;refine⟨ρ,σ,au,v,d,a,Y,e1,λρ1 H1 u r A a1=>?_⟩;refine⟨ρ1,σ,d,x,b,a.ext r,A,e2,λρ2 H2 w m I a2=>?_⟩;refine⟨ρ2,σ,b,y,G,a.ext (r.trans m),I,e3,λQ H3 t s l a3=>?_⟩;split at e
 ·rename_i n k _;split at e
  ·rename_i xs hn;split at e
   ·rename_i j hj;cases e;cases a3;obtain⟨p,rfl,S,U,J,P⟩:=zed l (a2.ext s) hn (by intro z;cases z);have E:Ext Q H3 Q (upd H3 p (.lst (U.set j u))):=Ext.wr S (zgk J) _;refine⟨p,U,k,j,rfl,rfl,J,by rw[P.length];exact hj,?_⟩;exact q _ _ _ ((r.trans (m.trans s)).trans E) (l.wr S (zgk J) ⟨_,zp,(P.set (a1.ext (m.trans s)) j).ext E⟩) (a.ext ((r.trans (m.trans s)).trans E))
   ·cases e
  ·cases e
 ·cases e
abbrev SG:=D->DS->Option DS
def gN(i:Nat):SG:=λd σ=>some (σ.set i (some d))
def gsNil:List D->DS->Option DS:=λa σ=>match a with
 |[]=>some σ
 |_=>none
def gsCons(t:SG) (u:List D->DS->Option DS):List D->DS->Option DS:=λa σ=>match a with
 |d::r=>(t d σ).bind λb=>u r b
 |_=>none
def gT(n:Nat) (u:List D->DS->Option DS):SG:=λd σ=>match d with
 |.tup ds=>if ds.length=n then u ds σ else none
 |_=>none
def gD(K:Fg) (b:SG):TG:=λv τ H Q=>∃ρ σ d c,AtS K ρ H σ τ/\At K ρ H d v/\b d σ=some c/\∀a,AtS K ρ H c a->Q a H
def gDs(K:Fg) (b:List D->DS->Option DS):TGs:=λe τ H Q=>∃ρ σ a d,AtS K ρ H σ τ/\AtAll K ρ H a e/\b a σ=some d/\∀c,AtS K ρ H d c->Q c H
abbrev DG(X:Cx) (a:Expr) (b:SG):Prop:=PG X a (gD X.K b)
abbrev DGs(X:Cx) (a:List Expr) (b:List D->DS->Option DS):Prop:=PGs X a (gDs X.K b)
theorem zbws(h:PG X e g)(k:∀v τ H Q,g' v τ H Q->g v τ H Q):PG X e g':=λa s σ H v u Q I r q=>h a s σ H v u Q I r (k _ _ _ _ q)
theorem zbmc(h:PGs X es g)(k:∀v τ H Q,g' v τ H Q->g v τ H Q):PGs X es g':=λa s σ H v u Q I r q=>h a s σ H v u Q I r (k _ _ _ _ q)
theorem zbpe{X:Cx}(f:X.N.Nodup)(g:X.N[i]?=some x)(j:L2.Loc X.env.scope x)(h:X.fn x=true\/X.env.scope.names.lookup x=some .local:=by first|exact .inl rfl|exact .inr rfl|assumption):DG X (.Name x pos) (gN i):=
 zbws (zbme f g j h) λv τ H Q c=>by
 obtain⟨ρ,σ,d,k,a,b,e,q⟩:=c;cases e;exact q _ (a.set b i)
theorem zbpd:DGs X [] gsNil:=zbmc zbmd λv τ H Q c=>by
 obtain⟨ρ,σ,d,f,a,b,e,q⟩:=c;unfold gsNil at e;split at e
 ·cases e;cases b;exact⟨rfl,q _ a⟩
 ·cases e
theorem zbii(m:DG X e t)(g:DGs X es u)(l:(assignEach (e::es) X.env).map (·.2)=assign e X.env::(assignEach es X.env).map (·.2):=by rfl):DGs X (e::es) (gsCons t u):=
 zbmc (zbfo m g l) λv τ H Q c=>by
 obtain⟨ρ,σ,d,j,a,b,e,q⟩:=c;unfold gsCons at e;split at e
 ·obtain⟨f,k,h⟩:=xfp.mp e;cases b with
  |cons b1 b2=>exact⟨_,_,rfl,ρ,σ,_,f,a,b1,k,λn i=>⟨ρ,f,_,j,i,b2,h,q⟩⟩
 ·cases e
theorem zbuy{X:Cx}(l:X.calm=true)(h:DGs X es u)(i:(assignEach es X.env).length=n:=by rfl)(c:(assignEach es X.env).findIdx? (·.1)=none:=by rfl):DG X (.Tuple es k pos) (gT n u):=
 zbws (zbsl l h i c) λv τ H Q f=>by
 obtain⟨ρ,σ,d,j,a,b,e,q⟩:=f;unfold gT at e;split at e
 ·split at e
  ·rename_i g;cases b with
   |tup h1 h2 h3=>exact⟨_,_,rfl,SqT.of h1,by rw[h3.length];exact g,ρ,σ,_,j,a,h3,e,q⟩
  ·cases e
 ·cases e
structure ExtG (ρ:Loc) (H:Hp) (ρ':Loc) (H':Hp):Prop where
 len:ρ.m.length<=ρ'.m.length
 old:∀(n:Nat) (a:Addr),n < ρ.m.length->ρ'.m[n]?=some (some a)->ρ.m[n]?=some (some a)
 keep:∀a o,H a=some o->some a∉ρ.m->H' a=some o/\some a∉ρ'.m
 gho:∀a∈ρ'.g,a∈ρ.g\/H a=none
 frz:∀a ob u,H a=some (.frz ob u)->H' a=some (.frz ob u)
theorem Ext.toG(x:Ext ρ H ρ' H'):ExtG ρ H ρ' H':=⟨x.len,x.old,x.keep,λa h=>.inl (by rw[←x.gho];exact h),x.frz⟩
theorem ExtG.then(a:ExtG ρ H ρ1 H1)(b:Ext ρ1 H1 ρ2 H2):ExtG ρ H ρ2 H2:=
 ⟨xbc a.len b.len,λn c h e=>a.old n c h (b.old n c (xbm h a.len) e),λc o e n=>by
  obtain⟨g,f⟩:=a.keep c o e n
  exact b.keep c o g f,λc h=>a.gho c (by rw[←b.gho];exact h),λc d u e=>b.frz c d u (a.frz c d u e)⟩
theorem ExtG.out(x:ExtG ρ H ρ' H') (h:H a=some o)(n:Out ρ a):H' a=some o/\Out ρ' a:=
 ⟨(x.keep a o h n.1).1,(x.keep a o h n.1).2,λz=>by
  rcases x.gho a z with q|q
  ·exact n.2 q
  ·rw[h] at q;cases q⟩
theorem ExtG.mv(x:ExtG ρ H ρ' H'):Mv ρ H ρ' H':=⟨λh n=>x.out h n,x.len,x.old⟩
theorem At.extG{K:Fg}(x:ExtG ρ H ρ' H') (h:At K ρ H d v):At K ρ' H' d v:=h.mv x.mv
theorem Ls.extG{K:Fg}(x:ExtG ρ H ρ' H')(h:Ls K ρ H a vs):Ls K ρ' H' a vs:=h.mv x.mv
structure ItOk (K:Fg) (ρ:Loc) (H:Hp) (J:It) (xs:List D):Prop where
 item:∀ρ2 H2,ExtG ρ H ρ2 H2->∀(i:Nat) (x:D),xs[i]?=some x->J.go i H2/\∀y H3,J.yld i H2 y H3->Ext ρ2 H2 ρ2 H3/\∀au,Rep K ρ2 au H2->Rep K ρ2 au H3/\At K ρ2 H3 x y
 done:∀ρ2 H2,ExtG ρ H ρ2 H2->∀i:Nat,xs.length<=i->J.stop i H2
def iD(K:Fg) (f:SA):TI:=λτ H R=>∃ρ σ e d a,AtS K ρ H σ τ/\Rep K ρ e H/\f σ e=.ok d a/\∀c b J,Ext ρ H c b->Rep K c a b->ItOk K c b J d->R J b
abbrev DI(X:Cx) (b a:Expr) (f:SA):Prop:=PI X b a (iD X.K f)
noncomputable def seqV:D->Option (List D)
 |.tup xs=>some xs
 |.lst xs=>some xs
 |.scr xs=>some xs
 |_=>none
def aH(f:SE):SA:=λσ b=>(f σ b).bind λx a=>match seqV x with
 |some xs=>.ok xs a
 |none=>.stuck
noncomputable def rng(lo:Int) (n:Nat):List D:=(List.range n).map λ(i:Nat)=>D.int (lo+i)
def iR1(g:SA):SA:=λσ b=>(g σ b).bind λc a=>match c with
 |[.int j]=>if -(2^62)<=j/\j<2^62 then .ok (rng 0 j.toNat) a else .stuck
 |_=>.stuck
def iR2(g:SA):SA:=λσ b=>(g σ b).bind λc a=>match c with
 |[.int i,.int j]=>if -(2^62)<=i/\i<2^62/\-(2^62)<=j/\j<2^62 then .ok (rng i (j-i).toNat) a else .stuck
 |_=>.stuck
theorem zif{lo:Int}(h:(rng lo n)[i]?=some x):i<n/\x=.int (lo+i):=by
 unfold rng at h;rw[xcl] at h;rcases xim i n with z|z
 ·rw[xml z] at h;exact⟨z,(xcz h).symm⟩
 ·rw[xfy (by rw[xft];exact z)] at h;cases h
theorem zbob{K:Fg}{lo:Int}:ItOk K ρ H (Itr lo n) (rng lo n) where
 item:=λb H2 x i d e=>by
  obtain⟨c,rfl⟩:=zif e;refine⟨c,λy H3 a=>?_⟩;obtain⟨rfl,rfl⟩:=a;exact⟨.refl _ _,λ_ r=>⟨r,.int _⟩⟩
 done:=λb H2 x i h=>by
  unfold rng at h;rw[xbb,xft] at h;exact h
theorem zbjt(h:PI X tg l t)(k:∀τ H R,t' τ H R->t τ H R):PI X tg l t':=λa s σ H R I q=>h a s σ H R I (k _ _ _ q)
theorem zbxq(h:PI X tg l t)(b:PI X tg l t'):PI X tg l (λτ H R=>t τ H R\/t' τ H R):=λa s σ H R I q=>by
 rcases q with q|q
 ·exact h a s σ H R I q
 ·exact b a s σ H R I q
theorem zbef{K:Fg}(b:∀c H2,ExtG ρ H c H2->SqL K H2 p vs)(f:AtAll K ρ H xs vs):ItOk K ρ H (Itl K p) xs where
 item:=λc H2 x i d e=>by
  obtain⟨v,g,a⟩:=f.get e;refine⟨⟨vs,v,b _ _ x,g⟩,λy H3 k=>?_⟩;obtain⟨rfl,j⟩:=k;have:=j vs (b _ _ x);rw[g] at this;cases this;exact⟨.refl _ _,λ_ r=>⟨r,a.extG x⟩⟩
 done:=λc H2 x i h=>⟨vs,b _ _ x,by rw[f.length];exact h⟩
theorem zbwg{K:Fg}(b:∀c H2,ExtG ρ H c H2->SqT K H2 p vs)(f:AtAll K ρ H xs vs):ItOk K ρ H (Itt K p) xs where
 item:=λc H2 x i d e=>by
  obtain⟨v,g,a⟩:=f.get e;refine⟨⟨vs,v,b _ _ x,g⟩,λy H3 k=>?_⟩;obtain⟨rfl,j⟩:=k;have:=j vs (b _ _ x);rw[g] at this;cases this;exact⟨.refl _ _,λ_ r=>⟨r,a.extG x⟩⟩
 done:=λc H2 x i h=>⟨vs,b _ _ x,by rw[f.length];exact h⟩
theorem zbux(m:DE X l f):DI X tg l (aH f):=zbjt (zbxq (zbma m) (zbsk m)) λτ H R k=>by
 obtain⟨ρ,σ,h,s,r,a,i,e,q⟩:=k;obtain⟨x,p,j,e⟩:=za e;cases x with
 |tup ys=>
  cases e;refine .inr ⟨ρ,σ,h,_,_,a,i,j,λn H1 u g b d=>?_⟩;cases d with
  |tup h1 h2 h3=>exact⟨_,rfl,⟨_,SqT.of h1⟩,q _ _ _ g b (zbwg (λo H2 c=>SqT.of (c.out h1 h2).1) h3)⟩
 |lst ys=>
  cases e;refine .inl ⟨ρ,σ,h,_,_,a,i,j,λn H1 u g b d=>?_⟩;cases d with
  |lst h1 h2 h3=>exact⟨_,rfl,⟨_,SqL.of h1⟩,q _ _ _ g b (zbef (λo H2 c=>SqL.of (c.out h1 h2).1) h3)⟩
 |scr ys=>
  cases e;refine .inl ⟨ρ,σ,h,_,_,a,i,j,λn H1 u g b d=>?_⟩;cases d with
  |scr h1 h3=>exact⟨_,rfl,⟨_,h1.sq⟩,q _ _ _ g b (zbef (λo H2 c=>(h1.extG c).sq) h3)⟩
 |_=>cases e
theorem zbav(f:Gl X "range")(j:X.mg "range"=none)(n:DA X [a] g)(o:starEach [a] X.env=[(false,eval a X.env)]:=by rfl):DI X tg (.Call (.Name "range" p) [a] [] pos) (iR1 g):=
 zbjt (zzm f j n o) λτ H R c=>by
 obtain⟨ρ,σ,h,y,t,a,i,e,q⟩:=c;obtain⟨x,l,m,e⟩:=za e;split at e
 ·split at e
  ·rename_i d;cases e;refine⟨ρ,σ,h,_,_,a,i,m,λv H1 u s b k=>?_⟩;obtain⟨w,rfl,r⟩:=k.one;cases r;exact⟨_,rfl,d.1,d.2,q _ _ _ s b zbob⟩
  ·cases e
 ·cases e
theorem zbau(h:Gl X "range")(n:X.mg "range"=none)(t:DA X [a,b] g)(m:starEach [a,b] X.env=[(false,eval a X.env),(false,eval b X.env)]:=by rfl)(f:starEach [b] X.env=[(false,eval b X.env)]:=by rfl):DI X tg (.Call (.Name "range" p) [a,b] [] pos) (iR2 g):=
 zbjt (zzl h n t m f) λτ H R d=>by
 obtain⟨ρ,σ,v,E,y,a,i,e,q⟩:=d;obtain⟨x,z,j,e⟩:=za e;split at e
 ·split at e
  ·rename_i k;cases e;refine⟨ρ,σ,v,_,_,a,i,j,λC H1 u o c r=>?_⟩;obtain⟨w,A,rfl,s,l⟩:=r.two;cases s;cases l;exact⟨_,_,rfl,k,q _ _ _ o c zbob⟩
  ·cases e
 ·cases e
def iDict(f:SE):SA:=λσ b=>(f σ b).bind λx a=>match x with
 |.ref n=>match a[n]? with
  |some (.dT kvs)=>.ok (aJ (kvs.map (·.1))) (a.set n (.fT kvs))
  |_=>.stuck
 |_=>.stuck
theorem zbpc(Q:DE X l f):DI X tg l (iDict f):=zbjt (zbmb Q) λτ H R v=>by
 obtain⟨ρ,σ,au,xs,a0,a,P,e,q⟩:=v;obtain⟨x,j,U,e⟩:=za e;refine⟨ρ,σ,au,x,j,a,P,U,λo H1 u x1 b a1=>?_⟩;split at e
 ·rename_i n;split at e
  ·rename_i c hn;cases e;obtain⟨p,rfl,I,s,t,A⟩:=zed b a1 hn (by intro z;cases z);refine⟨p,s,c.map (·.1),rfl,t,A.keys,λw G C S=>?_⟩;have E:Ext o H1 o (upd H1 p (.frz w (.dT s))):=Ext.wr I (zkc t) _;have R:Rep X.K o (j.set n (.fT c)) (upd H1 p (.frz w (.dT s))):=b.wr I (zkc t) ⟨s,w,zp,A.ext E⟩;refine q _ _ _ (x1.trans E) R ⟨λρ2 H2 k i d e=>?_,λρ2 H2 k i h=>?_⟩
   ·have m:(G.map (·.2))[i]?=(c.map (·.1))[i]?:=by rw[C]
    unfold aJ at e;rw[xcl,←m,xcl] at e;cases hi:G[i]? with
    |none=>rw[hi] at e;cases e
    |some x=>
     rw[hi] at e;cases e;refine⟨⟨(xbd.mp hi).1,k.frz _ _ _ zp⟩,λy H3 hy=>?_⟩;obtain⟨rfl,x',g,rfl⟩:=hy;rw[hi] at g;cases g;have J:=S x (xbo hi);have Y:At X.K o H1 (aL x.2) (.ref x.1):=.tup J (zqs b J) (ziu _);exact⟨.refl _ _,λ_ r=>⟨r,(Y.ext E).extG k⟩⟩
   ·have m:=congrArg List.length C;rw[xbb] at m;unfold aJ at h;rw[xbb,←m] at h;exact⟨h,k.frz _ _ _ zp⟩
  ·cases e
 ·cases e
def forF(b:SG) (a:SS):List D->SS
 |[],σ,au=>.ok (.nx σ) au
 |x::xs,σ,au=>match b x σ with
  |none=>.stuck
  |some σ1=>match a σ1 au with
   |.ok (.nx σ2) st2=>forF b a xs σ2 st2
   |.ok (.ct σ2) st2=>forF b a xs σ2 st2
   |.ok (.brk σ2) st2=>.ok (.nx σ2) st2
   |r=>r
def sFor(d:SA) (f:SG) (a:SS):SS:=λσ c=>(d σ c).bind λe b=>forF f a e σ b
def whileF(c:ST) (a:SS):Nat->SS
 |0,_,_=>.stuck
 |n+1,σ,au=>(c σ au).bind λb d=>if b=true then(match a σ d with
  |.ok (.nx σ2) st2=>whileF c a n σ2 st2
  |.ok (.ct σ2) st2=>whileF c a n σ2 st2
  |.ok (.brk σ2) st2=>.ok (.nx σ2) st2
  |r=>r) else .ok (.nx σ) d
noncomputable def wCap:Nat:=1000000
def sWhile(c:ST) (a:SS):SS:=whileF c a wCap
theorem zbdq{α:Type}{a:List α}(h:i<a.length):∃x,a[i]?=some x/\a.drop i=x::a.drop (i+1):=⟨a[i],xbe h,xdh h⟩
theorem zbut{X:Cx}(hp:PassesOwn (model X.prog X.w) X.A X.env X.xe)(hc:X.calm=true)(hi:DI X tg iter it)(hg:DG X tg bd)(hb:DSs X body b)(hs:∀x,foldedSetIterable iter X.env x=pure x:=by intro _;rfl):
  DSt X (.For tg iter body [] pos) (sFor it bd b):=zti (zbsh hp hc hi hg hb hs) λE τ H S=>by
 obtain⟨ρ,σ,au,fl,A,a,rp,e,q⟩:=S;obtain⟨o,G,e1,e⟩:=za e;refine⟨ρ,σ,au,o,G,a,rp,e1,λρ1 H1 J x1 Q ok=>?_⟩;have Y:=q.ext x1;refine⟨λi m τ' p=>i+m=o.length/\∃j C g,Ext ρ1 H1 j p/\AtS X.K j p C τ'/\Rep X.K j g p/\forF bd b (o.drop i) C g=.ok fl A,⟨o.length,by lia,ρ1,σ,G,.refl _ _,a.ext x1,Q,e⟩,?_⟩;rintro i m τ' p ⟨a0,j,C,g,I,a2,r,c⟩;rcases xim i o.length with U|hge
 ·obtain⟨x,hx,hd⟩:=zbdq U;rw[hd] at c;obtain⟨go,yl⟩:=ok.item j p I.toG i x hx;refine .inr ⟨go,λτ3 H3=>∃s h d,Ext ρ1 H1 s H3/\AtS X.K s H3 h τ3/\Rep X.K s d H3/\forF bd b (o.drop (i+1)) h d=.ok fl A,λτ3 H3 ⟨s,h,d,n1,n2,n3,n4⟩=>⟨m-1,by lia,by lia,s,h,d,n1,n2,n3,n4⟩,λy H3 hy=>?_⟩;obtain⟨y1,y4⟩:=yl y H3 hy;obtain⟨y2,y3⟩:=y4 _ r;unfold forF at c;cases hbd:bd x C with
  |none=>rw[hbd] at c;cases c
  |some σ1=>
   rw[hbd] at c;dsimp only at c;have P:=I.trans y1;refine⟨j,C,x,σ1,a2.ext y1,y3,hbd,λτ4 a4=>?_⟩;cases hr:b σ1 g with
   |stuck=>rw[hr] at c;cases c
   |exc z w=>rw[hr] at c;cases c
   |ok fb d=>
    rw[hr] at c;refine⟨j,σ1,g,fb,d,a4,y2,hr,?_⟩;cases fb with
    |nx h=>exact λt n τ5 k f l=>⟨t,h,d,P.trans k,l,f,c⟩
    |ct h=>exact λt n τ5 k f l=>⟨t,h,d,P.trans k,l,f,c⟩
    |brk h=>
     dsimp only at c;cases c;exact λt n τ5 k f l=>Y _ _ _ (P.trans k) f l
    |ret v=>
     dsimp only at c;cases c;exact λt n u k f l=>Y _ _ _ (P.trans k) f l
 ·rw[xji hge] at c;unfold forF at c;cases c;exact .inl ⟨ok.done j p I.toG i hge,Y _ _ _ I r a2⟩
theorem zbhv{X:Cx}(hp:PassesOwn (model X.prog X.w) X.A X.env X.xe)(hc:DT X c t)(hb:DSs X body b):DSt X (.While c body [] pos) (sWhile t b):=zti (zbfi hp hc hb) λE τ H J=>by
 obtain⟨ρ,σ,au,fl,s,a,rp,e,q⟩:=J;unfold sWhile at e;generalize wCap=n at e;refine⟨λm τ' I=>∃p l g,Ext ρ H p I/\AtS X.K p I l τ'/\Rep X.K p g I/\whileF t b m l g=.ok fl s,⟨n,ρ,σ,au,.refl _ _,a,rp,e⟩,?_⟩;rintro m τ' I ⟨p,l,g,x2,S,P,C⟩;cases m with
 |zero=>unfold whileF at C;cases C
 |succ m=>
  unfold whileF at C;obtain⟨x,h,e3,f⟩:=za C;refine⟨p,l,g,x,h,S,P,e3,λρ3 H3 U A=>?_⟩;have y:=x2.trans U;cases x with
  |false=>
   rw[if_neg (by decide)] at f;cases f;exact iteF (q _ _ _ y A (S.ext U))
  |true=>
   rw[if_pos rfl] at f;refine iteT ⟨λτ4 G=>∃Q σ4 o,Ext ρ H Q G/\AtS X.K Q G σ4 τ4/\Rep X.K Q o G/\whileF t b m σ4 o=.ok fl s,λτ4 G hh=>⟨m,xjz m,hh⟩,?_⟩;cases hr:b l h with
   |stuck=>rw[hr] at f;cases f
   |exc z w=>rw[hr] at f;cases f
   |ok fb st5=>
    rw[hr] at f;refine⟨ρ3,l,h,fb,st5,S.ext U,A,hr,?_⟩;cases fb with
    |nx σ3=>exact λr k Y i d j=>⟨r,σ3,st5,y.trans i,j,d,f⟩
    |ct σ3=>exact λr k Y i d j=>⟨r,σ3,st5,y.trans i,j,d,f⟩
    |brk σ3=>
     dsimp only at f;cases f;exact λr k Y i d j=>q _ _ _ (y.trans i) d j
    |ret v=>
     dsimp only at f;cases f;exact λr k u i d j=>q _ _ _ (y.trans i) d j
def compF(g:SG) (c:ST) (f:SE):List D->DS->Store->Res (List D)
 |[],_,au=>.ok [] au
 |x::xs,σ,au=>match g x σ with
  |none=>.stuck
  |some σ1=>(c σ1 au).bind λb a=>if b=true then(f σ1 a).bind λy e=>(compF g c f xs σ1 e).bind λh d=>.ok (y::h) d else compF g c f xs σ1 a
def aT(k:Nat) (is:List Nat) (σ:DS):DS:=List.replicate k none++is.map λi=>(σ[i]?).getD none
def aG(e:SA) (k:Nat) (is:List Nat) (h:SG) (c:ST) (f:SE):SE:=λσ i=>(e σ i).bind λd b=>if d.length<=sizeLine then(compF h c f d (aT k is σ) b).bind λg a=>.ok (.lst g) a else .stuck
def aI:ST:=λ_ a=>.ok true a
theorem AtS.start{K:Fg}(h:AtS K ρ H σ τ)(k:Nat)(is:List Nat):AtS K ρ H (aT k is σ) (startC k is τ):=by
 have f:∀{a c:DS}{b d:St},AtS K ρ H a b->AtS K ρ H c d->AtS K ρ H (a++c) (b++d):=λm g=>by
  induction m with
  |nil=>exact g
  |cons r t ih=>exact .cons r ih
 refine f ?_ ?_
 ·induction k with
  |zero=>exact .nil
  |succ k ih=>exact .cons (λd e=>nomatch e) ih
 ·induction is with
  |nil=>exact .nil
  |cons i is ih=>
   refine .cons (λd e=>?_) ih;have e:(σ[i]?).getD none=some d:=e;have l:σ[i]?=some (some d):=by
    cases q:σ[i]? with
    |none=>rw[q] at e;cases e
    |some o=>rw[q] at e;exact congrArg some e
   obtain⟨u,j,a⟩:=h.get l;exact⟨u,by show(τ[i]?).getD none=some u;rw[j];rfl,a⟩
def Loc.with(ρ:Loc) (p:Addr):Loc:=⟨ρ.m,p::ρ.g⟩
theorem zbkg(a:H p=none):Mv ρ H (ρ.with p) (upd H p o):=⟨λe n=>⟨by rw[zo (zk e a)];exact e,n.1,λz=>by
 rcases xbl.mp z with z|z
 ·exact zk e a z
 ·exact n.2 z⟩,xbj _,λ_ _ _ e=>e⟩
theorem At.with{K:Fg}(a:H p=none) (h:At K ρ H d v):At K (ρ.with p) (upd H p o) d v:=h.mv (zbkg a)
theorem zbdj{ρ c:Loc}(b:c.m=ρ.m)(d:p∈ρ.g)(f:∀a,a∈c.g->a∈ρ.g):Mv ρ H c (upd H p o):=⟨λe n=>⟨by rw[zo (by rintro rfl;exact n.2 d)];exact e,by rw[b];exact n.1,λz=>n.2 (f _ z)⟩,by rw[b];exact xbj _,λ_ _ _ e=>by rw[b] at e;exact e⟩
theorem At.grow{K:Fg}{ρ ρ':Loc}(e:ρ'.m=ρ.m)(b:p∈ρ.g)(c:∀a,a∈ρ'.g->a∈ρ.g) (h:At K ρ H d v):At K ρ' (upd H p o) d v:=h.mv (zbdj e b c)
theorem AtAll.grow{K:Fg}{ρ ρ':Loc}(e:ρ'.m=ρ.m)(b:p∈ρ.g)(c:∀a,a∈ρ'.g->a∈ρ.g) (h:AtAll K ρ H d v):AtAll K ρ' (upd H p o) d v:=h.mv (zbdj e b c)
theorem OAt.map{K:Fg}(k:∀d v,At K ρ H d v->At K ρ' H' d v)(i:∀b f u,H b=some (.frz f u)->H' b=some (.frz f u))(same:H' a=H a)(h:OAt K ρ H x a):OAt K ρ' H' x a:=by
 have g:∀{d:List D}{v:List V},AtAll K ρ H d v->AtAll K ρ' H' d v:=λ{d v} h=>by
  induction d generalizing v with
  |nil=>cases h;exact .nil
  |cons x xs ih=>cases h with|cons a b=>exact .cons (k _ _ a) (ih b)
 cases x with
 |lst xs=>obtain⟨e,q,r⟩:=h;exact⟨e,by rw[same];exact q,g r⟩
 |dT kvs=>obtain⟨e,q,r⟩:=h;exact⟨e,by rw[same];exact q,Paired.mapP r λp q z=>⟨z.1,k _ _ z.2⟩⟩
 |fT kvs=>obtain⟨e,f,q,r⟩:=h;exact⟨e,f,by rw[same];exact q,Paired.mapP r λp q z=>⟨z.1,k _ _ z.2⟩⟩
 |dI kvs=>obtain⟨e,q,r⟩:=h;exact⟨e,by rw[same];exact q,Paired.mapP r λp q z=>⟨z.1,k _ _ z.2⟩⟩
 |dP ks=>obtain⟨e,q,n,l,u,r⟩:=h;exact⟨e,by rw[same];exact q,n,l,u,r.map k⟩
 |dead=>exact h.elim
 |tab=>obtain⟨c,j,q,r⟩:=h;exact⟨c,j,by rw[same];exact q,r.map i⟩
theorem Rep.with{K:Fg}(r:Rep K ρ au H)(c:H p=none)(f:List V):Rep K (ρ.with p) au (upd H p (.lst f)):=
 ⟨r.len,r.inj,λm b y l j=>by
  have q:=r.obj m b y l j;obtain⟨u,k⟩:=q.has;exact q.map (λd v h=>h.with c) (λb o u e=>by rw[zo (zk e c)];exact e) (zo (zk k c)),λa ha=>by
  rcases xbl.mp ha with rfl|ha
  ·exact⟨⟨f,zp⟩,(zlg r c).1⟩
  ·obtain⟨⟨n,g⟩,i⟩:=r.gh a ha
   exact⟨⟨n,by rw[zo (zk g c)];exact g⟩,i⟩,r.live⟩
theorem Rep.grow{K:Fg}{ρ':Loc}(r:Rep K ρ au H)(c:ρ'.m=ρ.m)(f:p∈ρ.g)(i:∀a,a∈ρ'.g->a∈ρ.g)(j:List V):Rep K ρ' au (upd H p (.lst j)):=
 ⟨by rw[c];exact r.len,by rw[c];exact r.inj,λm b y g l=>by
  rw[c] at g;refine(r.obj m b y g l).map (λd v h=>h.grow c f i) (λb s u e=>by rw[zo (by rintro rfl;obtain⟨⟨_,z⟩,_⟩:=r.gh _ f;rw[e] at z;cases z)];exact e) (zo ?_);rintro rfl;exact(r.gh b f).2 (xbo g),λa n=>by
  obtain⟨⟨q,o⟩,k⟩:=r.gh a (i a n);refine⟨?_,by rw[c];exact k⟩;by_cases e:a=p
  ·subst e;exact⟨j,zp⟩
  ·exact⟨q,by rw[zo e];exact o⟩,by rw[c];exact r.live⟩
theorem AtS.map{K:Fg}(k:∀d v,At K ρ H d v->At K ρ' H' d v)(h:AtS K ρ H σ τ):AtS K ρ' H' σ τ:=Paired.mapP h λo v z d e=>by
 obtain⟨u,b,a⟩:=z d e;exact⟨u,b,k _ _ a⟩
inductive CI (K:Fg) (bd:SG) (c:ST) (f:SE) (xs ys:List D) (st2:Store) (ρ1:Loc) (H1:Hp) (p:Addr) (i:Nat) (τ:St) (H':Hp):Prop where
 |mk {ρ2:Loc}{σ2:DS}{st3:Store}{acc:List D}{accV:List V}{zs:List D}(x2:ExtG ρ1 H1 ρ2 H') (hg:ρ2.g=p::ρ1.g) (hpp:H' p=some (.lst accV)) (hal:AtAll K ρ2 H' acc accV) (hli:acc.length<=i) (a2:AtS K ρ2 H' σ2 τ) (rp2:Rep K ρ2 st3 H') (e3:compF bd c f (xs.drop i) σ2 st3=.ok zs st2) (hac:acc++zs=ys):CI K bd c f xs ys st2 ρ1 H1 p i τ H'
theorem zbvk{k:Nat}{is:List Nat}{K:Fg}(a:AtS K ρ H σ τ)(rp:Rep K ρ au H)(e1:it σ au=.ok xs st1)(a3:xs.length<=sizeLine)(e2:compF bd c f xs (aT k is σ) st1=.ok ys st2)
 (b1:∀j H1 p l t g,Ext ρ H j H1->Rep K j st1 H1->H1 p=none->ExtG j H1 l t->l.g=p::j.g->t p=some (.lst g)->AtAll K l t ys g->Rep K l st2 t->Q (.ref p) t):tComp (iD K it) k is (gD K bd) (tDT K c) (tD K f) τ H Q:=by
 refine⟨ρ,σ,au,xs,st1,a,rp,e1,λj H1 J x1 a1 ok p X=>?_⟩
 refine⟨λi m τ' t=>i+m=xs.length/\CI K bd c f xs ys st2 j H1 p i τ' t,
  ⟨xs.length,by lia,.mk ?_ rfl zp .nil (xes _) (((a.ext x1).start k is).map λd v h=>h.with X) (a1.with X []) e2 rfl⟩,?_⟩
 ·have E:Ext j H1 j (upd H1 p (.lst [])):=Ext.new X _
  exact⟨E.len,E.old,E.keep,λa h=>by
   rcases xbl.mp h with rfl|h
   ·exact .inr X
   ·exact .inl h,E.frz⟩
 rintro i m τ' t ⟨b8,@⟨l,σ2,b3,acc,g,zs,x2,hg,a7,U,Y,a2,I,q,s⟩⟩;have b6:p∈l.g:=by rw[hg];exact xbv
 rcases xim i xs.length with b0|hge
 ·obtain⟨x,hx,hd⟩:=zbdq b0;rw[hd] at q;obtain⟨go,yl⟩:=ok.item l t x2 i x hx
  refine .inr ⟨go,CI K bd c f xs ys st2 j H1 p (i+1),
   λτ4 H4 hh=>⟨m-1,by lia,by lia,hh⟩,λy H3 hy=>?_⟩
  obtain⟨y1,y4⟩:=yl y H3 hy;obtain⟨y2,y3⟩:=y4 _ I;unfold compF at q;cases hbd:bd x σ2 with
  |none=>rw[hbd] at q;cases q
  |some σ1=>
   rw[hbd] at q;dsimp only at q;obtain⟨bb,a5,e4,e5⟩:=za q;refine⟨l,σ2,x,σ1,a2.ext y1,y3,hbd,λτ4 a4=>?_⟩;have S:some p∉l.m:=(I.gh p b6).2;have C:=(y1.keep p _ a7 S).1;refine⟨l,σ1,b3,bb,a5,a4,y2,e4,λρ5 H5 r a0=>?_⟩;have z:=(r.keep p _ C S).1;have A:=(U.ext y1).ext r;have g5:ρ5.g=p::j.g:=r.gho.trans hg;cases bb with
   |false=>
    rw[if_neg (by decide)] at e5;exact iteF (.mk ((x2.then y1).then r) g5 z A (xgn Y) (a4.ext r) a0 e5 s)
   |true=>
    rw[if_pos rfl] at e5;obtain⟨w,b4,e6,e7⟩:=za e5;obtain⟨b7,b9,e8,e9⟩:=za e7;cases e9;refine iteT ⟨ρ5,σ1,a5,w,b4,a4.ext r,a0,e6,λρ6 H6 u x6 b2 a6=>?_⟩;have a9:some p∉ρ5.m:=(r.keep p _ C S).2;have a8:=(x6.keep p _ z a9).1;have g6:ρ6.g=p::j.g:=x6.gho.trans g5;have P:p∈ρ6.g:=by rw[g6];exact xbv
    have b5:g.length<=i:=by rw[U.length];exact Y
    refine⟨g,a8,xdk b5 (xbm b0 a3),.mk (acc:=acc++[w]) (accV:=g++[u]) ?_ g6 zp ?_ (by rw[xbk];exact xgd Y) ?_ (b2.grow rfl P (λ_ h=>h) _) e8 (by rw[←s,xcm];rfl)⟩
    ·have G:=((x2.then y1).then r).then x6;refine⟨G.len,G.old,λb o e n=>?_,G.gho,λb ob uu e=>?_⟩
     ·rw[zo (zk e X)];exact G.keep b o e n
     ·rw[zo (zk e X)];exact G.frz b ob uu e
    ·exact((A.ext x6).append (.cons a6 .nil)).grow rfl P (λ_ h=>h)
    ·exact(a4.ext (r.trans x6)).map λd v h=>h.grow rfl P (λ_ h=>h)
 ·rw[xji hge] at q;unfold compF at q;cases q;rw[xei] at s;subst s;exact .inl ⟨ok.done _ _ x2 i hge,b1 _ _ _ _ _ _ x1 a1 X x2 hg a7 U I⟩
theorem zbpu{K:Fg}:∀τ H Q,tD K (aG it k is bd c f) τ H Q->tComp (iD K it) k is (gD K bd) (tDT K c) (tD K f) τ H Q:=λτ H Q u=>by
 obtain⟨ρ,σ,au,v,U,a,C,e,q⟩:=u;obtain⟨xs,Y,G,e⟩:=za e;split at e
 ·rename_i j;obtain⟨ys,P,S,e⟩:=za e;cases e;refine zbvk a C G j S λr H1 p h H' d J t X s y l x m=>?_
  have i:p∈h.g:=by rw[y];exact xbv
  have w:some p∉h.m:=(m.gh p i).2;have n:upd H' p (.lst d)=H':=zbeo l;have sub:∀a,a∈(⟨h.m,r.g⟩:Loc).g->a∈h.g:=λb I=>by rw[y];exact xbf _ I
  have E:Ext r H1 ⟨h.m,r.g⟩ H':=⟨s.len,s.old,s.keep,rfl,s.frz⟩
  have R:=m.grow (ρ':=⟨h.m,r.g⟩) rfl i sub d;have L:=AtAll.grow (ρ:=h) (ρ':=⟨h.m,r.g⟩) (o:=.lst d) rfl i sub x;rw[n] at R L;refine q _ _ _ (J.trans E) R (.lst l ⟨w,λz=>?_⟩ L);obtain⟨⟨ws,A⟩,_⟩:=t.gh p z;rw[X] at A;cases A
 ·cases e
theorem zbvh{X:Cx}{N:List Str}(a:X.calm=true)(h:DI X tg iter it)(e:∀d C b s H,DG (cxC X N scope d C b s H) tg bd)(j:∀d C b s H,PIf (cxC X N scope d C b s H) ifs (tDT X.K c))(g:∀d C b s H,DE (cxC X N scope d C b s H) elt f)
 (S:CompScope X N k is scope)(i:∀x,foldedSetIterable iter X.env x=pure x:=by intro _;rfl):DE X (.ListComp elt [⟨tg,iter,ifs,0⟩] scope pos) (aG it k is bd c f):=zgc (zbmi a h e j g S i) zbpu
theorem zbos{X:Cx}{N:List Str}{b:Pos}(d:X.calm=true)(G:X.N.Nodup)(l:X.N[i]?=some x)(U:L2.Loc X.env.scope x)(z:DI X tg iter it)(n:∀g C j s H,DG (cxC X N scope g C j s H) tg bd)
  (y:∀g C j s H,PIf (cxC X N scope g C j s H) ifs (tDT X.K c))(P:∀g C j s H,DE (cxC X N scope g C j s H) elt f)(S:CompScope X N k is scope)
  (m:swapsWith (.ListComp elt [⟨tg,iter,ifs,0⟩] scope pos) (some (.Name x pos')) b.line X.env=pure true:=by rfl)
  (w:X.fn x=true\/X.env.scope.names.lookup x=some .local:=by first|exact .inl rfl|exact .inr rfl|assumption)
  (A:∀x,foldedSetIterable iter X.env x=pure x:=by intro _;rfl):DSt X (.Assign [.Name x pos'] (.ListComp elt [⟨tg,iter,ifs,0⟩] scope pos) b) (aF i (aG it k is bd c f)):=
 zti (zblr d G l U z n y P S m w A) λE τ H h=>by
  obtain⟨ρ,σ,I,Y,J,a,o,e,q⟩:=h;obtain⟨v,Q,p,e⟩:=za e;cases e;exact zbpu τ H _ ⟨ρ,σ,I,v,_,a,o,p,λρ' H' u x r t=>q _ _ _ x r ((a.ext x).set t i)⟩
theorem zbpb:PIf X [] (tDT X.K aI):=λd s σ H Q I b=>by
 obtain⟨ρ,g,h,v,f,a,c,e,q⟩:=b;cases e;exact zblz d s σ H Q I (q _ _ (.refl _ _) c)
theorem zbpa(h:DT X c t):PIf X [c] (tDT X.K t):=zbly h
end Dd
namespace Dd
open L2 PyProof.Rows
def spD(K:Fg) (g:Nat) (F:DFn):Sp:=λe H Q _=>∃ρ d f v a,AtAll K ρ H d e/\Rep K ρ f H/\F d f=.ok v a/\e.length=g/\∀c b u,Ext ρ H c b->Rep K c a b->At K c b v u->Q u b
def CalD(P:Program) (w:World) (K:Fg) (c:Str->Option Value) (a:Heap) (x:Str) (k:Nat) (b:List Str) (F:DFn):Prop:=Callee P w K c a x k b (spD K b.length F)
def fnD(n c:Nat) (a:SS):DFn:=λb d=>if b.length=c then(match a (b.map some++List.replicate (n-c) none) d with
 |.ok (.ret v) st'=>.ok v st'
 |.ok (.nx _) st'=>.ok .non st'
 |.exc x st'=>.exc x st'
 |_=>.stuck) else .stuck
section
variable {x:Str}{F:DFn}{e:Expr}
theorem zbvm{K:Fg}{g:Nat}{f:SA}(o:∀k d v b,F k d=.ok v b->k.length=g):∀τ H Q,tD K (aE F f) τ H Q->tCall (spD K g F) [] E0 (tDA K f) τ H Q:=λτ H Q i=>by
 obtain⟨ρ,σ,d,v,b,a,m,e,q⟩:=i;obtain⟨x,c,r,e⟩:=za e;refine⟨ρ,σ,d,x,c,a,m,r,λp H1 u t h j=>?_⟩;show spD K g F (u++[]) H1 Q E0;rw[xei];exact⟨p,x,c,v,b,j,h,e,by rw[j.length];exact o _ _ _ _ e,λs l w n=>q s l w (t.trans n)⟩
end
theorem zbvi{X:Cx}(c:CalD X.prog X.w X.K X.mg X.base x k ps F)(i:∀ f n v d,F f n=.ok v d->f.length=ps.length)(l:Room k X.A)(h:Gl X x)(m:DA X (e::es) g)(a:(x==("__debug__" : Str))=false:=by decide)
 (j:starEach (e::es) X.env=(false,eval e X.env)::starEach es X.env:=by rfl)(b:(backTo pos (starEach es X.env)).any (·.1)=false:=by rfl):
 DE X (.Call (.Name x p) (e::es) [] pos) (aE F g):=zgc (zbfv c l h m a j b) (zbvm i)
theorem zrb{n np:Nat}{b:SS}{c:List D}{d a:Store}{v:D}(h:fnD n np b c d=.ok v a):c.length=np:=by
 unfold fnD at h;split at h
 ·assumption
 ·cases h
theorem AtAll.some{K:Fg}{ρ:Loc}{H:Hp}:∀{c:List D}{f:List V},AtAll K ρ H c f->AtS K ρ H (c.map Option.some) (f.map Option.some)
 |_,_,.nil=>.nil
 |_,_,.cons a b=>.cons (λd e=>by cases e;exact⟨_,rfl,a⟩) (AtAll.some b)
theorem AtS.append{K:Fg}{ρ:Loc}{H:Hp}:∀{a c:DS}{b d:L2.St},AtS K ρ H a b->AtS K ρ H c d->AtS K ρ H (a++c) (b++d)
 |_,_,_,_,.nil,h=>h
 |_,_,_,_,.cons r t,h=>.cons r (AtS.append t h)
theorem AtS.nones{K:Fg}{ρ:Loc}{H:Hp}:∀n,AtS K ρ H (List.replicate n none) (List.replicate n none)
 |0=>.nil
 |n+1=>.cons (λd e=>nomatch e) (AtS.nones n)
theorem zbqe{K:Fg}{N:List Str}{np:Nat}{b:SS}{i:List V}{H:Hp}{Q:VK}{E:XK}(h:spD K np (fnD N.length np b) i H Q E):tDS K b {nx:=λ_ c=>Q .non c,rt:=Q} (L2.start N i) H:=by
 obtain⟨ρ,f,m,v,d,a,l,e,k,q⟩:=h;have n:f.length=np:=by rw[←a.length];exact k
 unfold fnD at e;rw[if_pos n] at e;have j:AtS K ρ H (f.map Option.some++List.replicate (N.length-np) none) (L2.start N i):=by
  unfold L2.start;rw[k];exact a.some.append (.nones _)
 refine⟨ρ,f.map Option.some++List.replicate (N.length-np) none,m,?_⟩;cases hr:b (f.map Option.some++List.replicate (N.length-np) none) m with
 |stuck=>rw[hr] at e;cases e
 |exc z w=>rw[hr] at e;cases e
 |ok fl st1=>
  rw[hr] at e;cases fl with
  |ret w=>
   dsimp only at e;cases e;exact⟨.ret v,d,j,l,rfl,λg c u x r t=>q g c u x r t⟩
  |nx σ=>
   dsimp only at e;cases e;exact⟨.nx σ,d,j,l,rfl,λg c τ x r t=>q g c .non x r .non⟩
  |brk σ=>cases e
  |ct σ=>cases e
theorem zbqa{P:Program}{w:World}{K:Fg}{n:Str->Option Value}{i h:Heap}{x:Str}{g:Stmt}{N l:List Str}{k:Nat}{b:SS}(T:TopF K x g)(X:K.In h)(G:h.Ns mainGlobals n)(S:FnScope N l (defScope g))
  (y:∀(kV p I:Value) (z:Option Addr) (d u:Value) (o:List Value),o.length=l.length->bindArgs (W.fnOf x x (defArgs g) (defBody g) (defScope g) .none kV p I z d u) ⟨o,[]⟩=pure (l.zip o))
  (j:∀(f:Addr) (d:Value) (A:Around) (c:List Env) (s:Shared) (H:Hp) (E:XK),Room k (A.deeper (envOfC x (defScope g) s.heap.objs.size f d)) ->
   DSs (cxOf CX0 P w K n i N x (defScope g) f d A c s H E).nox (defBody g) b):CalD P w K n i x (k+1) l (fnD N.length l.length b):=
 zrt T X G S y (λJ H Q E m=>by obtain⟨ρ,Y,g,v,C,a,U,e,r,q⟩:=m;exact r) λf d A c s H J Q E t m=>⟨_,j f d A c s H E t,zbqe m⟩
def spLaw(K:Fg):Sp:=λd H Q _=>∃(a:Addr) (b:List Int),d=[.ref a]/\SqL K H a (b.map V.int)/\b.length<=63/\∀c,Q (.bl true) c
theorem zbtq{P:Program}{w:World}{K:Fg}{C:Str->Option Value}{g:Heap}{p:Stmt}{N y:List Str}{k:Nat}{b:SS}{f:Addr}{G:FuncData}(F:Fun K "law" "law" p f G)(S:FnScope N y (defScope p))(J:y.length=1)
  (i:∀(d:Value) (A:Around) (c:List Env) (s:Shared) (H:Hp) (E:XK),Room k (A.deeper (envOfC "law" (defScope p) s.heap.objs.size f d)) ->
   DSs (cxOf CX0 P w K C g N "law" (defScope p) f d A c s H E).nox (defBody p) b)
  (holds:∀j:List Int,j.length<=63->∃l,fnD N.length 1 b [.scr (j.map .int)] []=.ok (.bl true) l):FnOk P w K C g CX0 (k+1) f G y (spLaw K):=by
 refine F.ok S (λY H Q E v=>?_) (λd A c s H Y Q E U v=>⟨_,i d A c s H E U,?_⟩)
 ·obtain⟨a,j,rfl,_⟩:=v;exact J.symm
 ·obtain⟨a,j,rfl,X,I,q⟩:=v;obtain⟨l,e⟩:=holds j I;refine zbqe (np:=1) (E:=E) ⟨⟨[],[]⟩,[.scr (j.map .int)],[],_,l,.cons (.scr ?_ (ziu j)) .nil,⟨rfl,λn m a e _=>by simp at e,λn a o e _=>by simp at e,λa h=>(by cases h),λn o e _=>by simp at e⟩,e,rfl,λρ' z u x r t=>?_⟩
  ·rcases X with h|h
   ·exact .inl ⟨h,by simp[Out]⟩
   ·exact .inr λz=>.inr h
  ·cases t;exact q z
end Dd
namespace Dd
open L2
def oNeg:D->Store->Res D:=λx a=>match x with
 |.int i=>.ok (.int (-i)) a
 |_=>.stuck
def sStuck:SS:=λ_ _=>.stuck
def tru(c:Store):D->Option Bool
 |.non=>some false
 |.bl b=>some b
 |.int i=>some (i != 0)
 |.tup a=>some !a.isEmpty
 |d=>(asL c d).map λa=>!a.isEmpty
def eTru(f:SE):ST:=λσ c=>(f σ c).bind λv a=>match tru a v with
 |some b=>.ok b a
 |none=>.stuck
theorem znf{K:Fg}(h:AtAll K ρ H ds vs):ds.isEmpty=vs.isEmpty:=by
 cases h<;>rfl
theorem zbrk{K:Fg}(g:Rep K ρ au H) (a:At K ρ H d u)(e:tru au d=some b):TruV K u H b:=by
 unfold tru at e;split at e
 ·cases a;cases e;exact rfl
 ·cases a;cases e;exact rfl
 ·cases a;cases e;exact rfl
 ·cases e;cases a with
  |tup c f h3=>exact .inr (.inl ⟨_,SqT.of c,by rw[znf h3]⟩)
 ·obtain⟨i,h,rfl⟩:=xdc.mp e;obtain⟨p,j,rfl,c,f⟩:=zgq g a h;exact .inl ⟨_,SqL.of c,by rw[znf f]⟩
theorem zbyw(h:DE X a f):DE X (.UnaryOp .USub a pos) (eUn oNeg f):=zgc (zbxr zbrh h) λτ H Q g=>by
 obtain⟨ρ,σ,i,v,n,d,j,e,q⟩:=g;obtain⟨x,b,l,e⟩:=za e;refine⟨ρ,σ,i,x,b,d,j,l,λo H1 u m c k=>?_⟩;cases x<;>try (cases e;done)
 cases e;cases k;exact⟨_,rfl,q _ _ _ m c (.int _)⟩
theorem zbhu(n:OpR X (compareOp op) r)(e:OpR X (compareOp op') r')(i:OpD X.K g r)(d:OpD X.K g' r')(j:DE X a f)(l:DE X b f')(k:DE X c f'')
 (m:lastMarks [op,op'] [b,c]=false:=by with_unfolding_all rfl):DT X (.Compare a [op,op'] [b,c] pos) (eB (eChain g g' f f' f'')):=zbjs (zbfg n e j l k m) λτ H Q h=>zbpx i d _ _ _ (eB_t _ _ _ h)
theorem zbhz:DSt X sm sStuck:=λd s σ H E I ⟨ρ,f,h,g,b,a,c,e,q⟩=>by cases e
theorem zbul(h:DE X a f)(l:∀b,isTrue a X.env b=(do let v ←b;standAt a.pos;holding [v] (truthy v)):=by intro _;rfl):DT X a (eTru f):=zbjs (zuy h l) λτ H Q i=>by
 obtain⟨ρ,σ,j,v,r,g,k,e,q⟩:=i;obtain⟨x,d,n,e⟩:=za e;refine⟨ρ,σ,j,x,d,g,k,n,λs H1 u p c m=>?_⟩;split at e
 ·rename_i t o;cases e;exact⟨_,zbrk c m o,q _ _ p c⟩
 ·cases e
end Dd
namespace Dd
open Spec PyProof.Rows L2
noncomputable def numF:Int->List D->List D
 |_,[]=>[]
 |n,x::xs=>.tup [.int n,x]::numF (n+1) xs
def iEnum(f:SE):SA:=λσ b=>(f σ b).bind λx a=>match x with
 |.tup xs=>.ok (numF 1 xs) a
 |_=>.stuck
theorem zot:∀{a:List D}{n:Int}{i:Nat}{d:D},(numF n a)[i]?=some d->∃x,a[i]?=some x/\d=.tup [.int (n+i),x]
 |[],_,_,_,h=>by simp[numF] at h
 |x::a,n,0,d,h=>by
  simp[numF] at h;exact⟨x,rfl,by rw[←h];simp⟩
 |x::a,n,i+1,d,h=>by
  simp only[numF,xgk] at h;obtain⟨y,b,c⟩:=zot h;exact⟨y,by simpa using b,by rw[c];congr 3;push_cast;lia⟩
theorem zeu:∀{xs:List D}{n:Int},(numF n xs).length=xs.length
 |[],_=>rfl
 |_::xs,n=>by simp[numF,zeu (xs:=xs)]
theorem zbig(t:Gl X "enumerate")(P:X.mg "enumerate"=none)(C:DE X l f)(he:starEach [l] X.env=[(false,eval l X.env)]:=by rfl):
  DI X (.Tuple elts k tpos) (.Call (.Name "enumerate" p) [l] [⟨some "start",.Constant (.int 1) j cpos,kpos⟩] pos) (iEnum f):=zbjt (zbfn t P C he) λτ H R m=>by
 obtain⟨ρ,σ,r,xs,Y,a,A,e,q⟩:=m;obtain⟨x,o,G,e⟩:=za e;refine⟨ρ,σ,r,x,o,a,A,G,λρ1 H1 u Q g U=>?_⟩;split at e
 ·rename_i ys;cases e;cases U with
  |tup h1 h2 h3=>
   refine⟨_,rfl,⟨_,SqT.of h1⟩,q _ _ _ Q g ⟨λJ H2 b i d e=>?_,λJ H2 b i h=>?_⟩⟩
   ·obtain⟨z,E,rfl⟩:=zot e;obtain⟨v,s,I⟩:=h3.get E;refine⟨⟨_,v,SqT.of (b.out h1 h2).1,s⟩,λy H3 hy=>?_⟩;obtain⟨p,n,rfl,w⟩:=hy;rw[w _ _ (SqT.of (b.out h1 h2).1) s];refine⟨Ext.new n _,λr c=>⟨c.new n _,?_⟩⟩;have S:(1:Int)+(i:Int)=((i+1:Nat):Int):=by push_cast;lia
    rw[S];exact At.newT c n (.cons (.int _) (.cons (I.extG b) .nil))
   ·rw[zeu] at h;exact⟨_,SqT.of (b.out h1 h2).1,by rw[h3.length];exact h⟩
 ·cases e
end Dd
namespace Dd
open L2
def bInt:List D->Store->Res D:=λb a=>match b with
 |[.int i]=>.ok (.int i) a
 |[.bl k]=>.ok (.int (if k then 1 else 0)) a
 |_=>.stuck
theorem zbqk{K:Fg}:CaD K bInt (λb H Q=>(∃i,b=[.int i]/\Q (.int i) H)\/∃k,b=[.bl k]/\Q (.int (if k then 1 else 0)) H):=λρ H h b g z f Q c d e q=>by
 unfold bInt at e;split at e
 ·cases e;obtain⟨u,rfl,a⟩:=d.one;cases a;exact .inl ⟨_,rfl,q _ _ _ (.refl _ _) c (.int _)⟩
 ·cases e;obtain⟨u,rfl,a⟩:=d.one;cases a;exact .inr ⟨_,rfl,q _ _ _ (.refl _ _) c (.int _)⟩
 ·cases e
def eCompM(e:SA) (k:Nat) (is:List Nat) (h:SG) (c:ST) (f:SE):SE:=λσ i=>(e σ i).bind λd b=>if d.length<=sizeLine then(compF h c f d (aT k is σ) b).bind λg a=>.ok (.ref a.length) (a++[.lst g]) else .stuck
noncomputable def plainE:Expr->Bool
 |.Starred _ _=>false
 |_=>true
theorem zmj(h:plainE e=true):starEach (e::es) env=(false,eval e env)::starEach es env:=by
 cases e<;>first|rfl|cases h
theorem zbij(b:DE X e f)(a:DA X es g)(c:plainE e=true:=by rfl):DA X (e::es) (aB f g):=zbph b a (zmj c)
def bBest(c:Bool):List D->Store->Res D:=λb a=>match b with
 |[x]=>match (seqOf a x).bind asInts with
  |some (n::ns)=>.ok (.int (bestI c n ns)) a
  |_=>.stuck
 |_=>.stuck
noncomputable def pairsF:List D->List D->List D
 |x::xs,y::ys=>.tup [x,y]::pairsF xs ys
 |_,_=>[]
def iZipT(g:SA):SA:=λσ d=>(g σ d).bind λe c=>match e with
 |[.tup a,.tup b]=>.ok (pairsF a b) c
 |_=>.stuck
theorem zms:∀{b a:List D}{i:Nat}{d:D},(pairsF b a)[i]?=some d->∃x y,b[i]?=some x/\a[i]?=some y/\d=.tup [x,y]
 |[],_,_,_,h=>by simp[pairsF] at h
 |_::_,[],_,_,h=>by simp[pairsF] at h
 |x::b,y::a,0,d,h=>by
  simp[pairsF] at h;exact⟨x,y,rfl,rfl,h.symm⟩
 |x::b,y::a,i+1,d,h=>by
  simp only[pairsF,xgk] at h;obtain⟨e,g,j,c,f⟩:=zms h;exact⟨e,g,by simpa using j,by simpa using c,f⟩
theorem zgz:∀{xs ys:List D},(pairsF xs ys).length=min xs.length ys.length
 |[],_=>by simp[pairsF]
 |_::_,[]=>by simp[pairsF]
 |_::xs,_::ys=>by simp[pairsF,zgz (xs:=xs) (ys:=ys)]
theorem zbuw(z:Gl X "zip")(U:X.mg "zip"=none)(ha:DA X [a,b] g)(P:starEach [a,b] X.env=[(false,eval a X.env),(false,eval b X.env)]:=by rfl)(r:starEach [b] X.env=[(false,eval b X.env)]:=by rfl):
  DI X (.Tuple elts k tpos) (.Call (.Name "zip" p) [a,b] [] pos) (iZipT g):=zbjt (zbsj z U ha P r) λτ H R n=>by
 obtain⟨ρ,σ,w,xs,a0,a,C,e,q⟩:=n;obtain⟨x,v,E,e⟩:=za e;refine⟨ρ,σ,w,x,v,a,C,E,λρ1 H1 u Y m a1=>?_⟩;split at e
 ·rename_i as bs;cases e;obtain⟨u1,u2,rfl,S,b2⟩:=a1.two;cases S with
  |tup h1 h2 h3=>
   cases b2 with
   |tup k1 k2 k3=>
    refine⟨_,_,rfl,⟨_,SqT.of h1⟩,⟨_,SqT.of k1⟩,q _ _ _ Y m ⟨λQ H2 c i d e=>?_,λQ H2 c i h=>?_⟩⟩
    ·obtain⟨x',y',G,I,rfl⟩:=zms e;obtain⟨v1,l,o⟩:=h3.get G;obtain⟨J,f,s⟩:=k3.get I;refine⟨⟨_,_,v1,J,SqT.of (c.out h1 h2).1,SqT.of (c.out k1 k2).1,l,f⟩,λy H3 hy=>?_⟩;obtain⟨p,t,rfl,A⟩:=hy;rw[A _ _ _ _ (SqT.of (c.out h1 h2).1) (SqT.of (c.out k1 k2).1) l f];exact⟨Ext.new t _,λw j=>⟨j.new t _,At.newT j t (.cons (o.extG c) (.cons (s.extG c) .nil))⟩⟩
    ·rw[zgz] at h;exact⟨_,_,SqT.of (c.out h1 h2).1,SqT.of (c.out k1 k2).1,by rw[h3.length,k3.length];lia⟩
 ·cases e
def sSetG(c:SG) (f:SE):SS:=λσ b=>(f σ b).bind λv a=>match c v σ with
 |some σ1=>.ok (.nx σ1) a
 |none=>.stuck
theorem zbor{b:Pos}(t:DE X e f)(i:DG X tg bd)(n:swapsWithSole [tg] e b.line X.env=pure false:=by rfl)(k:swappedStores [tg] e X.env=pure none:=by rfl)
  (m:(assignEach [tg] X.env).map (·.2)=[assign tg X.env]:=by rfl):DSt X (.Assign [tg] e b) (sSetG bd f):=
 zti (zblu t i n k m) λE τ H d=>by
 obtain⟨ρ,σ,r,x,s,a,j,e,q⟩:=d;obtain⟨v,g,l,e⟩:=za e;refine⟨ρ,σ,r,v,g,a,j,l,λw H1 u h c p=>?_⟩;cases hb:bd v σ with
 |none=>rw[hb] at e;cases e
 |some σ1=>
  rw[hb] at e;cases e;exact⟨w,σ,v,σ1,a.ext h,p,hb,λy o=>q _ _ _ h c o⟩
end Dd
namespace Dd
open L2 PyProof.Rows
structure JE (X:Cx) (e:Expr) (f:SE):Prop where out:DE X e f
structure JT (X:Cx) (e:Expr) (f:ST):Prop where out:DT X e f
structure JW (X:Cx) (e:Expr) (f:ST):Prop where out:DW X e f
structure JA (X:Cx) (e:List Expr) (f:SA):Prop where out:DA X e f
structure JS (X:Cx) (s:Stmt) (f:SS):Prop where out:DSt X s f
structure JB (X:Cx) (s:List Stmt) (f:SS):Prop where out:DSs X s f
structure JO (X:Cx) (e:Option Expr) (f:DS->Store->Res (Option Int)):Prop where out:DO X e f
structure JG (X:Cx) (e:Expr) (b:SG):Prop where out:DG X e b
structure JGs (X:Cx) (e:List Expr) (b:List D->DS->Option DS):Prop where out:DGs X e b
structure JI (X:Cx) (tg iter:Expr) (f:SA):Prop where out:DI X tg iter f
structure JIf (X:Cx) (ifs:List Expr) (c:ST):Prop where out:PIf X ifs (tDT X.K c)
structure JC (X:Cx) (op:CmpOp) (a b:Expr) (f:SE):Prop where out:PC X op a b (tD X.K f)
theorem JW.pt(h:JW X e t):JT X e t:=⟨PW.pt h.out⟩
theorem zef(h:PE X e (tVar i)):JE X e (aA i):=⟨zbyq h⟩
theorem zbba(h:PE X e (tC v))(k:∀ρ H,At X.K ρ H d v):JE X e (eC d):=⟨zbvg h k⟩
theorem zh{i j pos}:JE X (.Constant (.int i) j pos) (eC (.int i)):=⟨zbyy⟩
theorem zbjw{b j pos}:JE X (.Constant (.bool b) j pos) (eC (.bl b)):=⟨d_bl⟩
theorem zhj(h:OpR X (binaryOp op) r)(c:OpD X.K g r)(e:JE X a f)(d:JE X b f'):JE X (.BinOp a op b pos) (aS g f f'):=⟨d_op h c e.out d.out⟩
theorem zbbb(i:OpR X (compareOp op) r)(c:OpD X.K g r)(d:JE X a f)(e:JE X b f')(h:behindInMarks op b=false):JE X (.Compare a [op] [b] pos) (aS g f f'):=⟨zbza i c d.out e.out h⟩
theorem zce(i:OpR X (compareOp op) r)(c:OpD X.K g r)(d:JE X a f)(e:JE X b f')(h:behindInMarks op b=false):JT X (.Compare a [op] [b] pos) (eB (aS g f f')):=⟨zbuo i c d.out e.out h⟩
theorem zbpk{op}(h:JE X a f):JE X (.BoolOp op [a] pos) f:=⟨zbyu h.out⟩
section
variable {X:Cx}{a:Expr}{b:Expr}{rest:List Expr}{f:SE}{f':SE}{pos:Pos}
theorem zbir(d:JE X a f)(c:JE X (.BoolOp .And (b::rest) pos) f'):JE X (.BoolOp .And (a::b::rest) pos) (eAnd f f'):=⟨zbzb d.out c.out⟩
end
theorem zbpl(b:JE X a f):JE X (.UnaryOp .Not a pos) (eNot f):=⟨zbyv b.out⟩
theorem zrh{op}(h:JT X a t)(b:op=.And\/op=.Or):JW X (.BoolOp op [a] pos) t:=⟨zbuj h.out b⟩
section
variable {X:Cx}{a:Expr}{b:Expr}{rest:List Expr}{t:ST}{t':ST}{pos:Pos}
theorem zboq(d:JT X a t)(c:JW X (.BoolOp .And (b::rest) pos) t'):JW X (.BoolOp .And (a::b::rest) pos) (bAnd t t'):=⟨zbuk d.out c.out⟩
end
section
variable {X:Cx}{a:Expr}{b:Expr}{rest:List Expr}{t:ST}{t':ST}{pos:Pos}
theorem zbhr(d:JT X a t)(c:JW X (.BoolOp .Or (b::rest) pos) t'):JW X (.BoolOp .Or (a::b::rest) pos) (bOr t t'):=⟨zbyn d.out c.out⟩
end
theorem ziy(b:JT X a t):JT X (.UnaryOp .Not a pos) (bNot t):=⟨zbum b.out⟩
theorem zbxb(d:JT X c t)(g:JE X a f)(e:JE X b f'):JE X (.IfExp c a b pos) (eIf t f f'):=⟨d_if d.out g.out e.out⟩
theorem zbr:JA X [] aC:=⟨zbuz⟩
theorem zdt{x1}(h:JA X es g):JE X (.Tuple es x1 pos) (aR g):=⟨zbyr h.out⟩
theorem zbil(h:JA X es g):JE X (.List es pos) (eLst g):=⟨zbyx h.out⟩
theorem zeb(h:JA X es g):JE X (.List es pos) (eLstM g):=⟨zbvb h.out⟩
theorem zjb:JO X none pNone:=⟨zboz⟩
theorem zja(a:JE X e f):JO X (some e) (pSome f):=⟨zboy a.out⟩
theorem zlv(e:JE X a f)(c:JE X b f')(d:PlainIx b):JE X (.Subscript a b pos) (aS oIx f f'):=⟨d_ix e.out c.out d⟩
section
variable {X:Cx}{e:Expr}{f:SE}{pos:Pos}{lo:Option Expr}{hi:Option Expr}{l:DS->Store->Res (Option Int)}{h:DS->Store->Res (Option Int)}
theorem zbpi{c:Pos}(d:JE X e f)(b:JO X lo l)(a:JO X hi h):JE X (.Subscript e (.Slice lo hi none c) pos) (eSl f l h):=⟨d_sl d.out b.out a.out⟩
end
theorem zq{x:Str}{id:String}(k:CallR X (.builtin id) r)(j:CaD X.K g r)(c:Gl X x)(d:X.mg x=none)(m:bootBuiltins x=some (.builtin id))(l:JA X (e::es) f)(h:x≠"__name__":=by decide)(a:(x==("__debug__" : Str))=false:=by decide)(i:starEach (e::es) X.env=(false,eval e X.env)::starEach es X.env:=by rfl)(b:(backTo pos (starEach es X.env)).any (·.1)=false:=by rfl):JE X (.Call (.Name x p) (e::es) [] pos) (aE g f):=⟨zbpp k j c d m l.out h a i b⟩
theorem zbn{T:String}(k:CallR X (.type T) r)(j:CaD X.K g r)(c:Gl X x)(d:X.mg x=none)(m:bootBuiltins x=some (.type T))(l:JA X (e::es) f)(h:x≠"__name__":=by decide)(a:(x==("__debug__" : Str))=false:=by decide)(i:starEach (e::es) X.env=(false,eval e X.env)::starEach es X.env:=by rfl)(b:(backTo pos (starEach es X.env)).any (·.1)=false:=by rfl):JE X (.Call (.Name x p) (e::es) [] pos) (aE g f):=⟨zbip k j c d m l.out h a i b⟩
theorem zkk:JE X (.Dict [] [] pos) eDNew:=⟨zbve⟩
theorem zbml{X:Cx}(a:X.A.units+1<cLine)(c:JE X i g)(b:JE X o f):JC X .In i o (aS (oDIn false) g f):=⟨zbxv a c.out b.out⟩
theorem zbyz(h:JC X op a b t)(c:behindInMarks op b=false:=by first|exact nobehind _ (by decide) (by decide)|rfl):JE X (.Compare a [op] [b] pos) t:=⟨d_in h.out c⟩
theorem zbun(h:JC X op a b t)(c:behindInMarks op b=false:=by first|exact nobehind _ (by decide) (by decide)|rfl):JT X (.Compare a [op] [b] pos) (eB t):=⟨zbyo h.out c⟩
theorem zbpn{X:Cx}(a:X.A.units+1<cLine)(c:JE X o f)(d:JE X i g)(b:NoSl i):JE X (.Subscript o i pos) (aS oDGet f g):=⟨zbvf a c.out d.out b⟩
theorem zbio{X:Cx}(a:X.A.units + 1<cLine)(b:JE X o f)(d:JE X e g)(c:JE X f' h)(m:M2 X o "get" apos e f' cpos):JE X (.Call (.Attribute o "get" apos) [e,f'] [] cpos) (eDGet2 f g h):=⟨zbpo a b.out d.out c.out m⟩
theorem zbpm{X:Cx}(a:X.A.units + 1<cLine)(b:JE X o f)(c:JE X e g)(m:M1 X o "pop" apos e cpos):JE X (.Call (.Attribute o "pop" apos) [e] [] cpos) (eDPop f g):=⟨zbvd a b.out c.out m⟩
theorem zpd{X:Cx}{a:Pos}(b:X.A.units+1<cLine)(e:JE X o f)(c:JE X i g)(j:JE X value h)(d:swapsWith value (some (.Subscript o i pos')) a.line X.env=pure false):JS X (.Assign [.Subscript o i pos'] value a) (sDPut f g h):=⟨zbou b e.out c.out j.out d⟩
theorem zcu{b:Pos}(j:JE X o f)(i:JA X (e::es) ga)(c:attributeBase o "append" X.env (eval o X.env)=eval o X.env:=by rfl)(g:((backTo cpos (starEach (e::es) X.env)).all (λx=>!x.1)&&(backToKw cpos (keywordEach [] X.env)).all (λx=>x.1.isSome)
 && decide ((e::es).length + ([]:List Keyword).length + (if([]:List Keyword).isEmpty then 0 else 1)<30))=true:=by rfl) (d:(b.endLine==cpos.line)=true:=by rfl) (h:starEach (e::es) X.env=(false,eval e X.env)::starEach es X.env:=by rfl) (a:(backTo cpos (starEach es X.env)).any (·.1)=false:=by rfl):JE X (.Call (.Attribute o "append" b) (e::es) [] cpos) (eAppend f ga):=⟨zbiq j.out i.out c g d h a⟩
theorem zhs{b:Pos}(j:JE X o f)(i:JA X (e::es) ga)(c:attributeBase o "extend" X.env (eval o X.env)=eval o X.env:=by rfl)(g:((backTo cpos (starEach (e::es) X.env)).all (λx=>!x.1)&&(backToKw cpos (keywordEach [] X.env)).all (λx=>x.1.isSome)
 && decide ((e::es).length + ([]:List Keyword).length + (if([]:List Keyword).isEmpty then 0 else 1)<30))=true:=by rfl) (d:(b.endLine==cpos.line)=true:=by rfl) (h:starEach (e::es) X.env=(false,eval e X.env)::starEach es X.env:=by rfl) (a:(backTo cpos (starEach es X.env)).any (·.1)=false:=by rfl):JE X (.Call (.Attribute o "extend" b) (e::es) [] cpos) (eExtend f ga):=⟨zbim j.out i.out c g d h a⟩
theorem zbdt(a:JE X o f):JE X o (eFz f):=⟨d_fz a.out⟩
theorem zcf:JB X [] sNx:=⟨zbus⟩
theorem zbas:JS X (.Break pos) sBrk:=⟨zbia⟩
theorem zm(a:JE X e f):JS X (.Return (some e) pos) (sRet f):=⟨zbuq a.out⟩
theorem zw{a:Pos}(c:JE X e f)(b:swapsWith e none a.line X.env=pure false:=by rfl):JS X (.Expr e a) (sDrop f):=⟨zbot c.out b⟩
theorem zrk{X:Cx}{a:Pos}(c:X.N.Nodup)(d:X.N[i]?=some x)(h:L2.Loc X.env.scope x)(b:JE X e f)(j:swapsWith e (some (.Name x pos')) a.line X.env=pure false:=by rfl)(g:X.fn x=true\/X.env.scope.names.lookup x=some .local:=by first|exact .inl rfl|exact .inr rfl|assumption):JS X (.Assign [.Name x pos'] e a) (aF i f):=⟨zbup c d h b.out j g⟩
theorem zd(a:JS X sm s):JB X [sm] s:=⟨zbur a.out⟩
section
variable {X:Cx}{sm:Stmt}{rest:List Stmt}{s:SS}{t:SS}
theorem zb(a:JS X sm s)(b:JB X rest t):JB X (sm::rest) (aD s t):=⟨zbov a.out b.out⟩
end
theorem zel(a:JT X c b)(e:JB X a' s)(d:JB X b' t):JS X (.If c a' b' pos) (sIf b s t):=⟨zbyp a.out e.out d.out⟩
theorem zbow{X:Cx}(c:X.N.Nodup)(d:X.N[i]?=some x)(j:L2.Loc X.env.scope x)(a:JE X e f)(k:PIp X op ti)(b:IpD X.K g ti)(h:X.fn x=true\/X.env.scope.names.lookup x=some .local:=by first|exact .inl rfl|exact .inr rfl|assumption):JS X (.AugAssign (.Name x pos') op e pos) (sAug i g f):=⟨zbuu c d j a.out k b h⟩
theorem zrj{a:Pos}(b:JE X value h)(l:JE X o f)(d:JE X i g)(j:∀v,assign (.Subscript o i pos') X.env v=(do
 let ov ←holding [v] (eval o X.env)
 let iv ←holding [v,ov] (eval i X.env)
 standAt pos'
 holding [v,ov,iv] (setItem ov iv v)
 release [v,ov,iv] []):=by intro _;rfl) (e:swapsWithSole [.Subscript o i pos'] value a.line X.env=pure false:=by rfl) (c:swappedStores [.Subscript o i pos'] value X.env=pure none:=by rfl) (k:(assignEach [.Subscript o i pos'] X.env).map (·.2)=[assign (.Subscript o i pos') X.env]:=by rfl):JS X (.Assign [.Subscript o i pos'] value a) (sSetIx f g h):=⟨zbhw b.out l.out d.out j e c k⟩
theorem zbi{X:Cx}(c:X.N.Nodup)(d:X.N[i]?=some x)(b:L2.Loc X.env.scope x)(a:X.fn x=true\/X.env.scope.names.lookup x=some .local:=by first|exact .inl rfl|exact .inr rfl|assumption):JG X (.Name x pos) (gN i):=⟨zbpe c d b a⟩
theorem zcz:JGs X [] gsNil:=⟨zbpd⟩
theorem zn(b:JG X e t)(c:JGs X es u)(a:(assignEach (e::es) X.env).map (·.2)=assign e X.env::(assignEach es X.env).map (·.2):=by rfl):JGs X (e::es) (gsCons t u):=⟨zbii b.out c.out a⟩
theorem zfg{X:Cx}(b:X.calm=true)(h:JGs X es u)(c:(assignEach es X.env).length=n:=by rfl)(a:(assignEach es X.env).findIdx? (·.1)=none:=by rfl):JG X (.Tuple es k pos) (gT n u):=⟨zbuy b h.out c a⟩
theorem zy(a:JE X l f):JI X tg l (aH f):=⟨zbux a.out⟩
theorem zca(b:Gl X "range")(e:X.mg "range"=none)(c:JA X [a] g)(d:starEach [a] X.env=[(false,eval a X.env)]:=by rfl):JI X tg (.Call (.Name "range" p) [a] [] pos) (iR1 g):=⟨zbav b e c.out d⟩
theorem znj(d:Gl X "range")(e:X.mg "range"=none)(h:JA X [a,b] g)(f:starEach [a,b] X.env=[(false,eval a X.env),(false,eval b X.env)]:=by rfl)(c:starEach [b] X.env=[(false,eval b X.env)]:=by rfl):JI X tg (.Call (.Name "range" p) [a,b] [] pos) (iR2 g):=⟨zbau d e h.out f c⟩
theorem zbih(a:JE X l f):JI X tg l (iDict f):=⟨zbpc a.out⟩
theorem zbdp{X:Cx}(c:PassesOwn (model X.prog X.w) X.A X.env X.xe)(f:X.calm=true)(d:JI X tg iter it)(a:JG X tg bd)(g:JB X body b)(e:∀x,foldedSetIterable iter X.env x=pure x:=by intro _;rfl):JS X (.For tg iter body [] pos) (sFor it bd b):=⟨zbut c f d.out a.out g.out e⟩
theorem zls{X:Cx}(e:PassesOwn (model X.prog X.w) X.A X.env X.xe)(a:JT X c t)(d:JB X body b):JS X (.While c body [] pos) (sWhile t b):=⟨zbhv e a.out d.out⟩
theorem zfh{X:Cx}{N:List Str}(d:X.calm=true)(h:JI X tg iter it)(e:∀b C a s H,JG (cxC X N scope b C a s H) tg bd)(j:∀b C a s H,JIf (cxC X N scope b C a s H) ifs c)(g:∀b C a s H,JE (cxC X N scope b C a s H) elt f)(S:CompScope X N k is scope)(i:∀x,foldedSetIterable iter X.env x=pure x:=by intro _;rfl):JE X (.ListComp elt [⟨tg,iter,ifs,0⟩] scope pos) (aG it k is bd c f):=⟨zbvh d h.out (λb C a s H=>(e b C a s H).out) (λb C a s H=>(j b C a s H).out) (λb C a s H=>(g b C a s H).out) S i⟩
theorem zbhy{X:Cx}{N:List Str}{d:Pos}(e:X.calm=true)(m:X.N.Nodup)(g:X.N[i]?=some x)(q:L2.Loc X.env.scope x)(n:JI X tg iter it)(j:∀b C a s H,JG (cxC X N scope b C a s H) tg bd)(r:∀b C a s H,JIf (cxC X N scope b C a s H) ifs c)(l:∀b C a s H,JE (cxC X N scope b C a s H) elt f)(S:CompScope X N k is scope)(h:swapsWith (.ListComp elt [⟨tg,iter,ifs,0⟩] scope pos) (some (.Name x pos')) d.line X.env=pure true:=by rfl)(o:X.fn x=true\/X.env.scope.names.lookup x=some .local:=by first|exact .inl rfl|exact .inr rfl|assumption)(p:∀x,foldedSetIterable iter X.env x=pure x:=by intro _;rfl):JS X (.Assign [.Name x pos'] (.ListComp elt [⟨tg,iter,ifs,0⟩] scope pos) d) (aF i (aG it k is bd c f)):=⟨zbos e m g q n.out (λb C a s H=>(j b C a s H).out) (λb C a s H=>(r b C a s H).out) (λb C a s H=>(l b C a s H).out) S h o p⟩
theorem zjc:JIf X [] aI:=⟨zbpb⟩
theorem zgn(h:JT X c t):JIf X [c] t:=⟨zbpa h.out⟩
theorem zrp{X:Cx}(c:CalD X.prog X.w X.K X.mg X.base x k ps F)(i:∀ f n v d,F f n=.ok v d->f.length=ps.length)(l:Room k X.A)(h:Gl X x)(m:JA X (e::es) g)(a:(x==("__debug__" : Str))=false:=by decide)(j:starEach (e::es) X.env=(false,eval e X.env)::starEach es X.env:=by rfl)(b:(backTo pos (starEach es X.env)).any (·.1)=false:=by rfl):JE X (.Call (.Name x p) (e::es) [] pos) (aE F g):=⟨zbvi c i l h m.out a j b⟩
theorem zxe{P:Program}{w:World}{K:Fg}{m:Str->Option Value}{e h:Heap}{x:Str}{d:Stmt}{N i:List Str}{k:Nat}{b:SS}(T:TopF K x d)(X:K.In h)(G:h.Ns mainGlobals m)(S:FnScope N i (defScope d))(r:∀(kV l p:Value) (n:Option Addr) (c q:Value) (j:List Value),j.length=i.length->bindArgs (W.fnOf x x (defArgs d) (defBody d) (defScope d) .none kV l p n c q) ⟨j,[]⟩=pure (i.zip j))(g:∀(f:Addr) (c:Value) (A:Around) (a:List Env) (s:Shared) (H:Hp) (E:XK),Room k (A.deeper (envOfC x (defScope d) s.heap.objs.size f c)) ->
 JB (cxOf CX0 P w K m e N x (defScope d) f c A a s H E).nox (defBody d) b):CalD P w K m e x (k+1) i (fnD N.length i.length b):=zbqa T X G S r (λf c A a s H E o=>(g f c A a s H E o).out)
theorem zbnx{P:Program}{w:World}{K:Fg}{l:Str->Option Value}{d:Heap}{g:Stmt}{N h:List Str}{k:Nat}{b:SS}{f:Addr}{m:FuncData}(F:Fun K "law" "law" g f m)(S:FnScope N h (defScope g))(n:h.length=1)(e:∀(c:Value) (A:Around) (a:List Env) (s:Shared) (H:Hp) (E:XK),Room k (A.deeper (envOfC "law" (defScope g) s.heap.objs.size f c)) ->
 JB (cxOf CX0 P w K l d N "law" (defScope g) f c A a s H E).nox (defBody g) b) (holds:∀ j:List Int,j.length<=63->∃ i,fnD N.length 1 b [.scr (j.map .int)] []=.ok (.bl true) i):FnOk P w K l d CX0 (k + 1) f m h (spLaw K):=zbtq F S n (λc A a s H E o=>(e c A a s H E o).out) holds
theorem zbay(h:JE X a f):JE X (.UnaryOp .USub a pos) (eUn oNeg f):=⟨zbyw h.out⟩
theorem zri(m:OpR X (compareOp op) r)(e:OpR X (compareOp op') r')(h:OpD X.K g r)(d:OpD X.K g' r')(i:JE X a f)(k:JE X b f')(j:JE X c f'')(l:lastMarks [op,op'] [b,c]=false:=by with_unfolding_all rfl):JT X (.Compare a [op,op'] [b,c] pos) (eB (eChain g g' f f' f'')):=⟨zbhu m e h d i.out k.out j.out l⟩
theorem zhr:JS X sm sStuck:=⟨zbhz⟩
theorem zea(h:JE X a f)(c:∀b,isTrue a X.env b=(do let v ←b;standAt a.pos;holding [v] (truthy v)):=by intro _;rfl):JT X a (eTru f):=⟨zbul h.out c⟩
theorem zbaw(a:Gl X "enumerate")(b:X.mg "enumerate"=none)(c:JE X l f)(d:starEach [l] X.env=[(false,eval l X.env)]:=by rfl):JI X (.Tuple elts k tpos) (.Call (.Name "enumerate" p) [l] [⟨some "start",.Constant (.int 1) j cpos,kpos⟩] pos) (iEnum f):=⟨zbig a b c.out d⟩
theorem zu(b:JE X e f)(a:JA X es g)(c:plainE e=true:=by rfl):JA X (e::es) (aB f g):=⟨zbij b.out a.out c⟩
theorem zbdr(d:Gl X "zip")(e:X.mg "zip"=none)(h:JA X [a,b] g)(f:starEach [a,b] X.env=[(false,eval a X.env),(false,eval b X.env)]:=by rfl)(c:starEach [b] X.env=[(false,eval b X.env)]:=by rfl):JI X (.Tuple elts k tpos) (.Call (.Name "zip" p) [a,b] [] pos) (iZipT g):=⟨zbuw d e h.out f c⟩
theorem zbhx{a:Pos}(c:JE X e f)(b:JG X tg bd)(g:swapsWithSole [tg] e a.line X.env=pure false:=by rfl)(d:swappedStores [tg] e X.env=pure none:=by rfl)(h:(assignEach [tg] X.env).map (·.2)=[assign tg X.env]:=by rfl):JS X (.Assign [tg] e a) (sSetG bd f):=⟨zbor c.out b.out g d h⟩
end Dd
namespace L2
open Spec PyProof.Rows
section
open AutoSeq1
end
end L2
namespace Dd
open L2
end Dd
namespace L2
open Spec PyProof.Rows
end L2
namespace Dd
open L2 PyProof.Rows
end Dd
namespace L2
open Spec PyProof.Rows
def rInX(K:Fg) (b:Bool):R2:=λx c H Q=>∃d p a,DAt K H x d/\DAt K H c p/\(p=.tuple a\/p=.list a)/\PySem.SeqAt.shaped d=true/\PySem.SeqAt.shaped p=true/\Q (.bl (if b then !a.any λy=>PyData.eqv y d else a.any λy=>PyData.eqv y d)) H
theorem zbrp(h:p=.tuple xs\/p=.list xs)(s:PySem.SeqAt.shaped p=true):PyData.canLayAll0 xs=true/\PyData.depthAll xs<=63:=by
 have:(PyData.canLayAll0 xs&&decide (PyData.depthAll xs+1<=64))=true:=by rcases h with rfl|rfl<;>exact s
 rw[xcy] at this;exact⟨this.1,by have:=xde this.2;lia⟩
theorem zbcd(s:PySem.SeqAt.shaped d=true):d.canLay0=true:=by
 unfold PySem.SeqAt.shaped at s;rw[xcy] at s;exact s.1
theorem zbta{X:Cx}(w:X.A.units+64<cLine):OpR X (compareOp .In) (rInX X.K false):=by
 intro r s σ H x y v u Q I k n h;obtain⟨d,p,c,l,m,b,i,j,q⟩:=h;obtain⟨o,f⟩:=zfm I l k;obtain⟨t,e⟩:=zfm I m n;obtain⟨g,z⟩:=zbrp b j;have a:X.A.units+1+min (PyData.depthAll c) d.depth<cLine:=by have:=xib (PyData.depthAll c) d.depth;lia
 rcases b with rfl|rfl
 ·exact SeqAt.in_tuple_reads e f g (zbcd i) a ⟨.bl _,H,I,rfl,q⟩
 ·exact SeqAt.in_list_reads e f g (zbcd i) a ⟨.bl _,H,I,rfl,q⟩
section
open AutoSeq1
variable (l:Addr)(items:Array Value)(n:Nat)(dd:Option Addr)(sl:Array (Option Value))(x:Int)(u:Tok)
end
end L2
namespace Dd
open L2 PyProof.Rows
def oInG(a:Bool) (x c:D) (b:Store):Res D:=match dataOf b x,dataOf b c with
 |some d,some (.tuple xs)=>if PySem.SeqAt.shaped d=true/\PySem.SeqAt.shaped (.tuple xs)=true then .ok (.bl (if a then !xs.any λy=>PyData.eqv y d else xs.any λy=>PyData.eqv y d)) b else .stuck
 |some d,some (.list xs)=>if PySem.SeqAt.shaped d=true/\PySem.SeqAt.shaped (.list xs)=true then .ok (.bl (if a then !xs.any λy=>PyData.eqv y d else xs.any λy=>PyData.eqv y d)) b else .stuck
 |_,_=>.stuck
theorem zbyc{K:Fg}{g:Bool}:OpD K (oInG g) (rInX K g):=λρ H l x y u v z k Q c a b e q=>by
 unfold oInG at e;split at e
 ·rename_i d i j h;split at e
  ·rename_i f;cases e;exact⟨_,_,i,zez c a j,zez c b h,.inl rfl,f.1,f.2,q _ _ _ (.refl _ _) c (.bl _)⟩
  ·cases e
 ·rename_i d i j h;split at e
  ·rename_i f;cases e;exact⟨_,_,i,zez c a j,zez c b h,.inr rfl,f.1,f.2,q _ _ _ (.refl _ _) c (.bl _)⟩
  ·cases e
 ·cases e
end Dd
namespace L2
open Spec PyProof.Rows PySem.W
theorem zse{a:List Int}(r:Vals (a.map V.int) us) (b:i<a.length):∃t,us.getD i Value.none=Value.int (a.getD i 0) t:=by
 have e:(a.map V.int)[i]?=some (V.int a[i]):=by rw[xcl,xbe b];rfl
 obtain⟨u,c,t,d⟩:=r.get e;refine⟨t,?_⟩;rw[xbi,c,xbi,xbe b];exact d
theorem zbkm{d:List Int}(r:Vals (d.map V.int) a):∀v∈a,∃i t,v=Value.int i t:=λv f=>by
 obtain⟨i,c,rfl⟩:=xev f;have b:=r.length;rw[xbb] at b;obtain⟨t,e⟩:=zse r (i:=i) (by lia);rw[xbi,xbe c] at e;exact⟨_,t,e⟩
theorem zqg(a b:Int):HT.lexLt [a] [b]=decide (a<b):=by
 by_cases h:a=b
 ·subst h;simp[HT.lexLt]
 ·simp[HT.lexLt,h]
noncomputable abbrev ones(a:List Int):List (List Int):=a.map λn=>[n]
theorem zgi{a:List Int}(b:i<a.length):(ones a).getD i []=[a.getD i 0]:=by
 rw[xbi,xcl,xbe b,xbi,xbe b]
 rfl
theorem zbjk{a:List Int}(k:2<=a.length)(r:Vals (a.map V.int) us):Srt.Answers P w B (Srt.rank (ones a)) us sg:=by
 have c:=r.length;rw[xbb] at c;refine⟨oneType',λR f=>?_,λi j C l m b=>?_⟩
 ·exact kas_kind (T:=.type "int") (by lia) (λv g=>by
   obtain⟨i,t,rfl⟩:=zbkm r v g
   exact Looks.now) (by decide) (by decide) f
 ·obtain⟨t,e⟩:=zse r (i:=i) (by lia);obtain⟨h,d⟩:=zse r (i:=j) (by lia);unfold kas_ask;rw[e,d];rw[Srt.zmp (by rw[xbb];lia) (by rw[xbb];lia),zgi (by lia),zgi (by lia),zqg] at b;rw[keyLt'_oneType];exact oneLt_int b
theorem zbiv{a:List Int}(r:Vals (a.map V.int) us):Srt.Coh (Srt.rank (ones a)) us:=λi j g h e=>by
 have b:=r.length;rw[xbb] at b;obtain⟨t,d⟩:=zse r (i:=i) (by lia);obtain⟨f,c⟩:=zse r (i:=j) (by lia);rw[d,c] at e;have:a.getD i 0=a.getD j 0:=by injection e
 unfold Srt.rank;rw[zgi (by lia),zgi (by lia),this]
theorem zob{α:Type}{f:α->V}{g:α->Value}:∀{l:List α},(∀a∈l,RelV (f a) (g a))->Vals (l.map f) (l.map g)
 |[],_=>.nil
 |a::l,h=>.cons (h a xbv) (zob λb c=>h b (xbf _ c))
theorem zbfy{ns:List Int}{h:List Value}(r:Vals (ns.map V.int) h){p:Array Nat}(m:p.Perm (List.toArray (List.range ns.length)))(P:Srt.Up (Srt.rank (ones ns)) p ns.length):
  ∃d:List Int,d.Perm ns/\d.Pairwise (·<=·)/\Vals (d.map V.int) (Srt.outOf h p).toList:=by
 have y:=r.length;rw[xbb] at y;have H:p.size=ns.length:=by rw[m.size_eq];simp
 have l:∀i∈p.toList,i<ns.length:=λi b=>by
  have E:=(m.mem_iff (a:=i)).mp (by rw[←xly];exact b);exact xbn.mp (List.mem_toArray.mp E)
 refine⟨p.toList.map λi=>ns.getD i 0,?_,?_,?_⟩
 ·have C:p.toList.Perm (List.range ns.length):=by
   have:=xfr.mp m
   simpa using this
  have u:=C.map λi=>ns.getD i 0
  have J:((List.range ns.length).map λi=>ns.getD i 0)=ns:=by
   apply xlm
   ·simp
   ·intro i Q A;simp[xbi,A]
  rw[J] at u;exact u
 ·rw[xfx];intro i j b c n;rw[xln,xln];rw[xbb] at b c;have G:i<p.size:=by simpa using b
  have I:j<p.size:=by simpa using c
  have w:=P i j (xcg n) (by lia);have g:∀k,(x:k<p.toList.length)->p.getD k 0=p.toList[k]:=λk x=>by
   have f:k<p.size:=by simpa using x
   rw[xdd,xdp f];simp
  have v:=l _ (xdq b);have q:=l _ (xdq c);have s:=Srt.zmp (ks:=ones ns) (i:=p.toList[j]) (j:=p.toList[i]) (by rw[xbb];exact q) (by rw[xbb];exact v);have o:Srt.lt (Srt.rank (ones ns)) p.toList[j] p.toList[i]=false:=by
   refine xcd λz=>?_
   unfold Srt.At at w;rw[g i b,g j c] at w;lia
  rw[o,zgi q,zgi v,zqg] at s;have:=xmw s.symm;lia
 ·unfold Srt.outOf;rw[xcw];show Vals _ (p.toList.map λi=>h.getD i Value.none);refine zob λi b=>?_
  obtain⟨t,e⟩:=zse r (l i b);exact⟨t,e⟩
end L2
namespace Dd
open L2 PyProof.Rows
noncomputable def sortI(l:List Int):List Int:=l.mergeSort λa b=>decide (a<=b)
theorem zic(l:List Int):(sortI l).Perm l:=List.mergeSort_perm _ _
theorem zbeu(l:List Int):(sortI l).Pairwise (·<=·):=by
 have:=List.pairwise_mergeSort (le:=λa b:Int=>decide (a<=b)) (λa b c d e=>by simp at *;lia) (λa b=>by simp;lia) l;exact this.imp λh=>by simpa using h
theorem zbev{a:List Int}(p:a.Perm b)(h:a.Pairwise (·<=·)):a=sortI b:=
 (p.trans (zic b).symm).eq_of_pairwise (λx y _ _ c d=>by lia) h (zbeu b)
end Dd
namespace L2
open Spec PyProof.Rows
end L2
namespace Dd
open L2 PyProof.Rows
end Dd
namespace Dd
variable {α:Type}
section
variable {motive:List α->Prop}
@[elab_as_elim] theorem len0 (us:List α) (a:us.length=0) (h:motive []):motive us:=by rw[List.eq_nil_of_length_eq_zero a];exact h
@[elab_as_elim] theorem lenS {n:Nat}(us:List α) (b:us.length=n+1) (h:∀a us,us.length=n->motive (a::us)):motive us:=by
 cases us with
 |nil=>cases b
 |cons a us=>exact h a us (Nat.succ.inj b)
@[elab_as_elim] theorem len1 (us:List α) (b:us.length=1) (h:∀a,motive [a]):motive us:=lenS us b λa us b=>len0 us b (h a)
@[elab_as_elim] theorem len2 (us:List α) (c:us.length=2) (h:∀a b,motive [a,b]):motive us:=lenS us c λa us c=>len1 us c (h a)
@[elab_as_elim] theorem len3 (us:List α) (d:us.length=3) (h:∀a b c,motive [a,b,c]):motive us:=lenS us d λa us d=>len2 us d (h a)
@[elab_as_elim] theorem len4 (us:List α) (e:us.length=4) (h:∀a b c d,motive [a,b,c,d]):motive us:=lenS us e λa us e=>len3 us e (h a)
end
end Dd
namespace Dd
open L2
def iterF(s:DFn->DFn):Nat->DFn
 |0=>λ_ _=>.stuck
 |n+1=>s (iterF s n)
theorem zxd{K:Fg}{N:List Str}(T:TopF K x b)(X:K.In h)(G:h.Ns mainGlobals mg)(S:FnScope N ps (defScope b))
  (y:∀(kV j p:Value) (o:Option Addr) (c t:Value) (d:List Value),d.length=ps.length->bindArgs (W.fnOf x x (defArgs b) (defBody b) (defScope b) .none kV j p o c t) ⟨d,[]⟩=pure (ps.zip d)):CalD P w K mg base x (k+1) ps (λ_ _=>.stuck):=
 zrt T X G S y (λu H Q E i=>by obtain⟨ρ,r,b,v,l,a,n,e,m,q⟩:=i;exact m) λf c A g s H u Q E z i=>by obtain⟨ρ,r,b,v,l,a,n,e,m,q⟩:=i;cases e
theorem CalD.iter{K:Fg}{L:Nat}(g:CalD P w K mg base x L ps (λ_ _=>.stuck))(e:∀F b c v a,s F b c=.ok v a->b.length=ps.length)
  (f:∀F j,L<=j->(∀b c v a,F b c=.ok v a->b.length=ps.length)->CalD P w K mg base x j ps F->CalD P w K mg base x (j+1) ps (s F)):∀n,CalD P w K mg base x (L+n) ps (iterF s n):=λn=>by
 have d:∀n,(∀b c v a,iterF s n b c=.ok v a->b.length=ps.length)/\CalD P w K mg base x (L+n) ps (iterF s n):=λn=>by
  induction n with
  |zero=>exact⟨λ_ _ _ _ h=>(by cases h),g⟩
  |succ n ih=>exact⟨e _,f _ _ (xck _ _) ih.1 ih.2⟩
 exact(d n).2
end Dd
namespace L2
open Spec PyProof.Rows
end L2
namespace Dd
open L2 PyProof.Rows
end Dd
namespace L2
open Spec PyProof.Rows
end L2
namespace Dd
open L2
end Dd
namespace Dd
open L2 PyProof.Rows
end Dd
namespace L2
open Spec PyProof.Rows
end L2
namespace Dd
open L2
end Dd
namespace L2
open Spec PyProof.Rows
end L2
namespace Dd
open L2
end Dd
namespace L2
open Spec PyProof.Rows
end L2
namespace Dd
open L2
end Dd
namespace L2
open Spec PyProof.Rows
end L2
namespace L2
namespace St
noncomputable abbrev lt(a b:Nat):Prop:=a<b
theorem zwk(e:Array Nat)(j:Nat)(f:∀a b,a<=b->b<e.size->e.getD a j<=e.getD b j):∀(fuel lo hi:Nat),lo<=hi->hi<=e.size->hi-lo<=fuel->(∀i,i<lo->e.getD i j<j)->(∀i,hi<=i->i<e.size->j<=e.getD i j) ->
  SetTable.below.go e j fuel lo hi<=e.size/\(∀i,i<SetTable.below.go e j fuel lo hi->e.getD i j<j)/\(∀i,SetTable.below.go e j fuel lo hi<=i->i<e.size->j<=e.getD i j)
 |0,lo,hi,h1,h2,h3,a,b=>by
  have:lo=hi:=by lia
  subst this;unfold SetTable.below.go;exact⟨h2,a,b⟩
 |fuel+1,lo,hi,h1,h2,h3,a,b=>by
  unfold SetTable.below.go;by_cases c:lo<hi
  ·rw[if_pos c];dsimp only;by_cases d:e.getD ((lo+hi)/2) j<j
   ·rw[if_pos d]
    exact zwk e j f fuel _ hi (by lia) h2 (by lia) (λi g=>by
     have:=f i ((lo+hi)/2) (by lia) (by lia)
     lia) b
   ·rw[if_neg d]
    exact zwk e j f fuel lo _ (by lia) (by lia) (by lia) a (λi g h=>by
     have:=f ((lo+hi)/2) i g h
     lia)
  ·rw[if_neg c];have:lo=hi:=by lia
   subst this;exact⟨h2,a,b⟩
def Up(a:Array Nat):Prop:=a.toList.Pairwise lt
theorem zey(a:Array Nat)(i d:Nat):a.getD i d=a.toList.getD i d:=by
 rw[xdd,xbi,xco]
theorem Up.mono(h:Up xs)(d a b:Nat)(g:a<=b)(i:b<xs.size):xs.getD a d<=xs.getD b d:=by
 rcases xim a b with c|c
 ·have e:b<xs.toList.length:=by simpa using i
  have f:a<xs.toList.length:=by lia
  rw[zey,zey,xbi,xbi,xbe f,xbe e];exact xcg (xfx.mp h a b f e c)
 ·have:a=b:=by lia
  subst this;exact xbj _
theorem zeo(h:Up xs)(j:Nat):SetTable.below xs j<=xs.size/\(∀i,i<SetTable.below xs j->xs.getD i j<j)/\(∀i,SetTable.below xs j<=i->i<xs.size->j<=xs.getD i j):=
 zwk xs j (h.mono j) xs.size 0 xs.size (by lia) (by lia) (by lia) (λi a=>absurd a (by lia)) (λi c b=>absurd b (by lia))
theorem zns(h:Up a)(j:Nat):∀y∈a.toList.take (SetTable.below a j),y<j:=λy d=>by
 obtain⟨g,c,f⟩:=zeo h j;obtain⟨i,e,rfl⟩:=List.mem_iff_getElem.mp d;rw[xcq] at e;have b:i<a.toList.length:=by lia
 have:=c i (by lia);rw[zey,xbi,xbe b] at this;rw[xng];exact this
theorem zjg(h:Up a)(j:Nat):∀y∈a.toList.drop (SetTable.below a j),j<=y:=λy c=>by
 obtain⟨k,g,e⟩:=zeo h j;obtain⟨i,d,rfl⟩:=List.mem_iff_getElem.mp c;rw[xgb] at d;have f:a.toList.length=a.size:=by simp
 have b:SetTable.below a j+i<a.toList.length:=by lia
 have:=e (SetTable.below a j+i) (by lia) (by lia);rw[zey,xbi,xbe b] at this;rw[xnf];exact this
theorem zbbn(h:Up xs) (hj:j∈xs.toList):xs[SetTable.below xs j]?=some j:=by
 have c:=zns h j;have b:=zjg h j;rw[←xdg (SetTable.below xs j) xs.toList] at hj;rcases xce.mp hj with hj|hj
 ·exact absurd (c j hj) (xhh _)
 ·have a:(xs.toList.drop (SetTable.below xs j)).Pairwise lt:=xgy (xne _ _) h;have:(xs.toList.drop (SetTable.below xs j))[0]?=some j:=by
   cases e:xs.toList.drop (SetTable.below xs j) with
   |nil=>rw[e] at hj;cases hj
   |cons y l=>
    rw[e] at hj b a;rcases xbl.mp hj with rfl|hj
    ·rfl
    ·have f:=b y (by simp);have d:y<j:=(xhc.mp a).1 j hj;lia
  rw[xfo] at this;rw[←xco]
  simpa using this
theorem zex{α:Type}(a:Array α)(p:Nat)(x:α):(SetTable.insertAt a p x).toList=a.toList.take p++x::a.toList.drop p:=by
 unfold SetTable.insertAt;rw[xeb,xfg,xma,xma];simp[List.extract];exact xdv (by simp)
theorem Up.insert(h:Up xs) (f:j∉xs.toList):Up (SetTable.insertAt xs (SetTable.below xs j) j):=by
 unfold Up;rw[zex,xgj];refine⟨xgy (xlc _ _) h,xhc.mpr ⟨λy c=>?_,xgy (xne _ _) h⟩,λa g b hb=>?_⟩
 ·have d:=zjg h j y c;have i:y≠j:=λe=>f (e ▸ xfq c)
  show j<y;lia
 ·have d:=zns h j a g;rcases xbl.mp hb with rfl|hb
  ·exact d
  ·have:=zjg h j b hb;show a<b;lia
end St
namespace St
structure Tb (t:SetTable):Prop where
 up:Up t.place
 nd:t.dummies=#[]
 inm:∀y∈t.place.toList,y<=t.mask
 pl:t.plain=true
theorem zwj(j:Nat):SetTable.has #[] j=false:=by
 unfold SetTable.has;simp
theorem Tb.slot(h:Tb t)(j:Nat):(t.slot j=.empty/\j∉t.place.toList)\/(∃i,t.slot j=.live i)/\j∈t.place.toList:=by
 unfold SetTable.slot;dsimp only;by_cases c:t.place[SetTable.below t.place j]?=some j
 ·right
  rw[if_pos (by rw[c];exact xhm _)];rw[←xco] at c;exact⟨⟨_,rfl⟩,xbo c⟩
 ·left
  rw[if_neg (by simpa using c),h.nd,zwj];exact⟨rfl,λa=>c (zbbn h.up a)⟩
noncomputable def iAt(a:Nat):Nat->Nat->Nat->Nat
 |0,i,_=>i
 |k+1,i,per=>iAt a k ((i*5+1+per/32)%(a+1)) (per/32)
noncomputable def nextP(a:Nat) (p:SetTable.Probe):SetTable.Probe:={j:=(p.i*5+1+p.perturb/32)%(a+1),more:=SetTable.runEnd a ((p.i*5+1+p.perturb/32)%(a+1))-(p.i*5+1+p.perturb/32)%(a+1),i:=(p.i*5+1+p.perturb/32)%(a+1),perturb:=p.perturb/32,dummy:=p.dummy}
theorem zbjn{t:SetTable}{p:SetTable.Probe}(h:p.more=m+1):t.advance p={p with j:=p.j+1,more:=m}:=by
 unfold SetTable.advance;rw[if_pos (by lia),h]
 rfl
theorem zbjo{t:SetTable}{p:SetTable.Probe}(h:p.more=0):t.advance p=nextP t.mask p:=by
 unfold SetTable.advance;rw[if_neg (by lia)]
 rfl
theorem window(g:Tb t)(h:Int):∀(m d:Nat) (p:SetTable.Probe),p.more=m->p.dummy=none ->
  (∃j,SetTable.probe.go t (λ_=>h+1) h (d+m+1) p=some (.empty j none)/\j∉t.place.toList/\j<=p.j+m) \/
  (p.j∈t.place.toList/\∃l,l.i=p.i/\l.perturb=p.perturb/\l.dummy=none/\SetTable.probe.go t (λ_=>h+1) h (d+m+1) p=SetTable.probe.go t (λ_=>h+1) h d (nextP t.mask l))
 |0,d,p,hm,hd=>by
  have e:SetTable.probe.go t (λ_=>h+1) h (d+0+1) p=match t.slot p.j with
   |.empty=>some (.empty p.j p.dummy)
   |.dummy=>SetTable.probe.go t (λ_=>h+1) h d (t.advance {p with dummy:=some p.j})
   |.live i=>if h+1==h then some (.candidate p.j i (t.advance p)) else SetTable.probe.go t (λ_=>h+1) h d (t.advance p):=rfl
  rw[e];rcases g.slot p.j with⟨f,k⟩|⟨⟨i,f⟩,k⟩
  ·rw[f,hd];exact .inl ⟨p.j,rfl,k,by lia⟩
  ·rw[f];dsimp only;rw[if_neg (by simp;lia)];exact .inr ⟨k,p,rfl,rfl,hd,by rw[zbjo hm]⟩
 |m+1,d,p,hm,hd=>by
  have e:SetTable.probe.go t (λ_=>h+1) h (d+(m+1)+1) p=match t.slot p.j with
   |.empty=>some (.empty p.j p.dummy)
   |.dummy=>SetTable.probe.go t (λ_=>h+1) h (d+(m+1)) (t.advance {p with dummy:=some p.j})
   |.live i=>if h+1==h then some (.candidate p.j i (t.advance p)) else SetTable.probe.go t (λ_=>h+1) h (d+(m+1)) (t.advance p):=rfl
  rw[e];rcases g.slot p.j with⟨f,k⟩|⟨⟨i,f⟩,k⟩
  ·rw[f,hd];exact .inl ⟨p.j,rfl,k,by lia⟩
  ·rw[f];dsimp only;rw[if_neg (by simp;lia),zbjn hm,←xmy];rcases window g h m d {p with j:=p.j+1,more:=m} rfl hd with⟨j,a,b,c⟩|⟨a,l,b⟩
   ·exact .inl ⟨j,a,b,by dsimp only at c;lia⟩
   ·exact .inr ⟨k,l,b⟩
theorem zqh(h:i<=mask):i<=SetTable.runEnd mask i/\SetTable.runEnd mask i<=mask/\SetTable.runEnd mask i<=i+9:=by
 unfold SetTable.runEnd;split<;>lia
theorem search(g:Tb t)(h:Int):∀(L d:Nat) (p:SetTable.Probe),10*L<=d->p.j=p.i->p.i<=t.mask->p.more=SetTable.runEnd t.mask p.i-p.i->p.dummy=none->(∃k,k<L/\iAt t.mask k p.i p.perturb∉t.place.toList) ->
  ∃j,SetTable.probe.go t (λ_=>h+1) h d p=some (.empty j none)/\j∉t.place.toList/\j<=t.mask
 |0,_,_,_,_,_,_,_,⟨k,hk,_⟩=>absurd hk (by lia)
 |L+1,d,p,hf,hj,hi,hm,hd,⟨k,hk,hk2⟩=>by
  obtain⟨o,r,q⟩:=zqh hi;have n:d=(d-p.more-1)+p.more+1:=by lia
  have w:=window g h p.more (d-p.more-1) p rfl hd;rw[←n] at w;rcases w with⟨j,a,b,c⟩|⟨a,e,m,i,l,f⟩
  ·exact⟨j,a,b,by lia⟩
  ·rw[f];cases k with
   |zero=>exact absurd a (by rw[hj];exact hk2)
   |succ k=>
    refine search g h L _ (nextP t.mask e) (by lia) rfl (by unfold nextP;exact xdb (xnk _ (by lia))) rfl l ⟨k,by lia,?_⟩;unfold nextP;dsimp only;rw[m,i];exact hk2
/- the leaps meet all places -/
noncomputable def accI(a:Nat):Nat->Nat->Nat->Nat->Nat
 |0,acc,_,_=>acc
 |L+1,acc,i,per=>accI a L (acc ||| 2^i) ((i*5+1+per/32)%(a+1)) (per/32)
theorem zbec(a j:Nat):∀(L acc i b:Nat),(accI a L acc i b).testBit j=true->acc.testBit j=true\/∃k,k<L/\iAt a k i b=j
 |0,acc,i,b,h=>.inl h
 |L+1,acc,i,b,h=>by
  rcases zbec a j L _ _ _ h with h|⟨k,d,c⟩
  ·rw[Nat.testBit_or,Nat.testBit_two_pow,Bool.or_eq_true,xhy] at h;rcases h with h|h
   ·exact .inl h
   ·exact .inr ⟨0,by lia,h⟩
  ·exact .inr ⟨k+1,by lia,c⟩
def covB(a h:Nat):Bool:=Nat.beq (accI a (a+3) 0 (h%(a+1)) h) (2^(a+1)-1)
theorem cov7:(List.range 64).all (covB 7)=true:=by decide +kernel
theorem cov31:(List.range 64).all (covB 31)=true:=by decide +kernel
theorem cov127:(List.range 64).all (covB 127)=true:=by decide +kernel
noncomputable def MaskOk(m:Nat):Prop:=m=7\/m=31\/m=127
theorem cov(b:MaskOk mask)(a:h<64)(d:j<=mask):∃k,k<mask+3/\iAt mask k (h%(mask+1)) h=j:=by
 have c:covB mask h=true:=by
  rcases b with rfl|rfl|rfl
  ·exact xca.mp cov7 h (xbn.mpr a)
  ·exact xca.mp cov31 h (xbn.mpr a)
  ·exact xca.mp cov127 h (xbn.mpr a)
 have e:=xfz c;have t:(accI mask (mask+3) 0 (h%(mask+1)) h).testBit j=true:=by
  rw[e,Nat.testBit_two_pow_sub_one];exact xbw (by lia)
 rcases zbec mask j _ _ _ _ t with z|z
 ·simp at z
 ·exact z
theorem room(g:Tb t)(h:t.place.size<=t.mask):∃j,j<=t.mask/\j∉t.place.toList:=by
 by_cases c:∃j,j<=t.mask/\j∉t.place.toList
 ·exact c
 ·exfalso
  have a:List.range (t.mask+1) ⊆ t.place.toList:=λj b=>by
   by_cases z:j∈t.place.toList
   ·exact z
   ·exact absurd ⟨j,by have:=xbn.mp b;lia,z⟩ c
  have:=xed (xlp) a;simp at this;lia
theorem zban(g:Tb t)(n:MaskOk t.mask){h:Nat}(d:h<64)(b:t.place.size<=t.mask):∃j,t.freeSlot (h:Int)=some (j,false)/\j∉t.place.toList/\j<=t.mask:=by
 obtain⟨p,c,a⟩:=room g b;obtain⟨k,l,f⟩:=cov n d c;have m:SetTable.bits (h:Int)=h:=by
  unfold SetTable.bits;lia
 have s:=search g (h:Int) (t.mask+3) (10*SetTable.turns t.mask) (t.probeStart (h:Int)) (by unfold SetTable.turns;lia) rfl (by unfold SetTable.probeStart;exact xdb (xnk _ (by lia))) rfl rfl ⟨k,l,by
  show iAt t.mask k (SetTable.bits (h:Int)%(t.mask+1)) (SetTable.bits (h:Int))∉_;rw[m,f]
  exact a⟩
 obtain⟨j,i,e,o⟩:=s;refine⟨j,?_,e,o⟩;unfold SetTable.freeSlot SetTable.probe;rw[i]
 rfl
end St
namespace St
theorem zdi{α:Type}(a:Array α)(p:Nat)(x:α)(h:p<=a.size):(SetTable.insertAt a p x).size=a.size+1:=by
 have:=congrArg List.length (zex a p x);simp at this;lia
theorem zbnw{b:Array (Int×Value)}{h:Nat}(g:Tb t)(n:MaskOk t.mask)(i:h<64)(d:t.place.size=b.size)(p:t.place.size<t.mask):
  ∃a c,layNew t b (h:Int) x=(a,c,false,false)/\Tb c/\c.mask=t.mask/\c.led=t.led/\c.place.size=a.size/\a.size=b.size+1/\a.toList.Perm (((h:Int),x)::b.toList):=by
 obtain⟨j,l,o,m⟩:=zban g n i (by lia);have e:=(zeo g.up j).1;refine⟨SetTable.insertAt b (SetTable.below t.place j) ((h:Int),x),{t with place:=SetTable.insertAt t.place (SetTable.below t.place j) j},?_,?_,rfl,rfl,?_,?_,?_⟩
 ·have k:t.put j=({t with place:=SetTable.insertAt t.place (SetTable.below t.place j) j},SetTable.below t.place j):=by
   unfold SetTable.put;dsimp only;rw[g.nd,zwj]
   rfl
  have f:({t with place:=SetTable.insertAt t.place (SetTable.below t.place j) j}:SetTable).fits (SetTable.insertAt b (SetTable.below t.place j) ((h:Int),x)).size=true:=by
   unfold SetTable.fits SetTable.fill;dsimp only;rw[zdi _ _ _ e,zdi _ _ _ (by lia),g.nd,d];simp;lia
  unfold layNew;rw[l];dsimp only;rw[k];dsimp only;unfold SetTable.orStandIn;rw[f]
  rfl
 ·refine⟨g.up.insert o,g.nd,λy hy=>?_,g.pl⟩;dsimp only at hy ⊢;rw[zex] at hy;rcases xce.mp hy with hy|hy
  ·exact g.inm y (xec hy)
  ·rcases xbl.mp hy with rfl|hy
   ·exact m
   ·exact g.inm y (xfq hy)
 ·dsimp only;rw[zdi _ _ _ e,zdi _ _ _ (by lia),d]
 ·rw[zdi _ _ _ (by lia)]
 ·rw[zex];refine(xnp).trans ?_;rw[xdg]
/- laid anew -/
noncomputable def ownL(a:Array (Option Nat)) (b:Nat):List Nat:=(List.range (b+1)).filterMap λj=>a.getD j none
structure Ow (mask n:Nat) (owner:Array (Option Nat)):Prop where
 size:owner.size=mask+1
 perm:(ownL owner mask).Perm (List.range n)
theorem zbmp(h:Ow b n owner)(o:n<=b):∃j,j<=b/\owner.getD j (some 0)=none:=by
 by_cases c:∃j,j<=b/\owner.getD j (some 0)=none
 ·exact c
 ·exfalso
  have i:∀j∈List.range (b+1),(owner.getD j none).isSome=true:=λj d=>by
   have d:=xbn.mp d;have k:j<owner.size:=by rw[h.size];exact d
   cases e:owner.getD j none with
   |some x=>rfl
   |none=>
    refine absurd ⟨j,by lia,?_⟩ c;rw[xdd,xdp k] at e ⊢;exact e
  have g:(ownL owner b).length=b+1:=by
   unfold ownL;have:∀l:List Nat,(∀j∈l,(owner.getD j none).isSome=true)->(l.filterMap λj=>owner.getD j none).length=l.length:=λl=>by
    induction l with
    |nil=>intro _;rfl
    |cons a l ih=>
     intro g;obtain⟨x,m⟩:=Option.isSome_iff_exists.mp (g a (by simp));rw[xee (f:=λj=>owner.getD j none) m,xbt,xbt,ih λj d=>g j (xbf _ d)]
   rw[this _ i,xft]
  have:=h.perm.length_eq;rw[g,xft] at this;lia
theorem zbdk{owner:Array (Option Nat)}:∀(fuel i b:Nat),i<=mask->(∃k,k<fuel/\owner.getD (iAt mask k i b) (some 0)=none)->∃j,SetTable.layClean.free mask owner fuel i b=some j/\j<=mask/\owner.getD j (some 0)=none
 |0,_,_,_,⟨k,hk,_⟩=>absurd hk (by lia)
 |fuel+1,i,b,hi,⟨k,hk,a⟩=>by
  obtain⟨f,l,h⟩:=zqh hi;unfold SetTable.layClean.free;cases e:(List.range (SetTable.runEnd mask i+1-i)).find? λk=>(owner.getD (i+k) (some 0)).isNone with
  |some z=>
   have d:=xnx e;have g:=xbn.mp (xkf e);exact⟨i+z,rfl,by lia,by simpa using d⟩
  |none=>
   dsimp only;have c:=xmv.mp e 0 (xbn.mpr (by lia));cases k with
   |zero=>
    exfalso
    rw[xjr] at c;have a:owner.getD i (some 0)=none:=a;rw[a] at c;exact c rfl
   |succ k=>
    exact zbdk fuel _ _ (xdb (xnk _ (by lia))) ⟨k,by lia,a⟩
theorem zln{α β:Type}{f g:α->Option β}:∀{l:List α},(∀x∈l,f x=g x)->l.filterMap f=l.filterMap g
 |[],_=>rfl
 |a::l,h=>by
  have c:=zln (l:=l) λx d=>h x (xbf _ d)
  have b:=h a (by simp);cases e:g a with
  |none=>rw[xeu (b.trans e),xeu e,c]
  |some z=>rw[xee (b.trans e),xee e,c]
theorem zhc(b:Array (Option Nat)){j n:Nat}(m:b.getD j (some 0)=none)(o:j<b.size):∀l:List Nat,l.Nodup->j∈l ->
  (l.filterMap λi=>(b.setIfInBounds j (some n)).getD i none).Perm (n::l.filterMap λi=>b.getD i none)
 |[],_,h=>by cases h
 |a::l,nd,h=>by
  have g:∀i,i≠j->(b.setIfInBounds j (some n)).getD i none=b.getD i none:=λi k=>by
   rw[xdd,xdd,xlx (xdj k)]
  have r:(b.setIfInBounds j (some n)).getD j none=some n:=by
   rw[xdd,xkb o]
   rfl
  have s:b.getD j none=none:=by
   rw[xdd,xdp o] at m ⊢;exact m
  have d:=xdf.mp nd;by_cases c:a=j
  ·subst c;rw[xee (f:=λi=>(b.setIfInBounds a (some n)).getD i none) r,xeu (f:=λi=>b.getD i none) s];have:(l.filterMap λi=>(b.setIfInBounds a (some n)).getD i none)=l.filterMap λi=>b.getD i none:=zln λi k=>g i λe=>d.1 (e ▸ k)
   rw[this]
  ·have q:j∈l:=by
    rcases xbl.mp h with h|h
    ·exact absurd h.symm c
    ·exact h
   have p:=zhc b (n:=n) m o l d.2 q;cases e:b.getD a none with
   |none=>rw[xeu (f:=λi=>(b.setIfInBounds j (some n)).getD i none) (by rw[g a c];exact e),xeu (f:=λi=>b.getD i none) e];exact p
   |some z=>
    rw[xee (f:=λi=>(b.setIfInBounds j (some n)).getD i none) (by rw[g a c];exact e),xee (f:=λi=>b.getD i none) e];exact(List.Perm.cons z p).trans (List.Perm.swap n z _)
theorem Ow.step{a n:Nat}{b:Array (Option Nat)}(h:Ow a n b)(o:MaskOk a){hv:Nat}(f:hv<64)(d:n<=a):
  ∃j,SetTable.layClean.free a b (SetTable.turns a) (SetTable.bits (hv:Int)%(a+1)) (SetTable.bits (hv:Int))=some j/\Ow a (n+1) (b.setIfInBounds j (some n)):=by
 have m:SetTable.bits (hv:Int)=hv:=by
  unfold SetTable.bits;lia
 obtain⟨q,e,c⟩:=zbmp h d;obtain⟨k,r,l⟩:=cov o f e;rw[m];obtain⟨j,i,s,g⟩:=zbdk (owner:=b) (mask:=a) (SetTable.turns a) (hv%(a+1)) hv (xdb (xnk _ (by lia))) ⟨k,by unfold SetTable.turns;lia,by rw[l];exact c⟩;refine⟨j,i,⟨by rw[Array.size_setIfInBounds];exact h.size,?_⟩⟩;have p:=zhc b (n:=n) g (by rw[h.size];lia) (List.range (a+1)) xlp (xbn.mpr (by lia));refine p.trans ((List.Perm.cons n h.perm).trans ?_);rw[xfw];exact(List.perm_append_singleton n _).symm
noncomputable def SmallH(h:Int):Prop:=∃n:Nat,n<64/\h=n
theorem zvz{b:Nat}(f:MaskOk b):∀(l:List Int) (n:Nat) (a:Array (Option Nat)),Ow b n a->(∀h∈l,SmallH h)->n+l.length<=b ->
  ∃c,l.foldl (λacc h=>do
   let (a,k) ←acc
   let j ←SetTable.layClean.free b a (SetTable.turns b) (SetTable.bits h%(b+1)) (SetTable.bits h)
   pure (a.setIfInBounds j (some k),k+1)) (some (a,n))=some (c,n+l.length)/\Ow b (n+l.length) c
 |[],n,a,o,_,_=>⟨a,rfl,o⟩
 |h::l,n,a,o,hs,hl=>by
  rw[xbt] at hl ⊢;obtain⟨d,q,rfl⟩:=hs h (by simp);obtain⟨j,m,r⟩:=o.step f q (by lia);obtain⟨i,s,g⟩:=zvz f l (n+1) _ r (λx p=>hs x (xbf _ p)) (by lia);refine⟨i,?_,by rw[show n+(l.length+1)=n+1+l.length by lia];exact g⟩;rw[xgp]
  have e:(do
   let (a,k) ←some (a,n)
   let j ←SetTable.layClean.free b a (SetTable.turns b) (SetTable.bits (d:Int)%(b+1)) (SetTable.bits (d:Int))
   pure (a.setIfInBounds j (some k),k+1):Option (Array (Option Nat)×Nat))=some (a.setIfInBounds j (some n),n+1):=by
   show(SetTable.layClean.free b a (SetTable.turns b) (SetTable.bits (d:Int)%(b+1)) (SetTable.bits (d:Int))).bind _=_;rw[m]
   rfl
  rw[e,s,show n+(l.length+1)=n+1+l.length by lia]
theorem ow0(a:Nat):Ow a 0 (Array.replicate (a+1) none):=by
 refine⟨by simp,?_⟩;unfold ownL;have:(List.range (a+1)).filterMap (λj=>(Array.replicate (a+1) (none:Option Nat)).getD j none)=(List.range (a+1)).filterMap λ_=>(none:Option Nat):=zln λj _=>by
  rw[xdd,Array.getElem?_replicate];split<;>rfl
 rw[this];have:∀l:List Nat,l.filterMap (λ_=>(none:Option Nat))=[]:=λl=>by induction l<;>simp_all
 rw[this];exact xod _
theorem zbae(a:MaskOk mask){hs:Array Int}(h:∀x∈hs.toList,SmallH x)(b:hs.size<=mask):∃owner,SetTable.layClean mask hs=some owner/\Ow mask hs.size owner:=by
 obtain⟨o,e,w⟩:=zvz a hs.toList 0 _ (ow0 mask) h (by simpa using b);rw[xeg] at e w;refine⟨o,?_,by simpa using w⟩;unfold SetTable.layClean;rw[←Array.foldl_toList,e]
 rfl
theorem zvw(b:Array (Option Nat)):∀l:List Nat,(l.filterMap λj=>(b.getD j none).map λk=>(j,k)).map (·.1)=l.filter λj=>(b.getD j none).isSome
 |[]=>rfl
 |a::l=>by
  have c:=zvw b l;cases e:b.getD a none with
  |none=>rw[xeu (f:=λj=>(b.getD j none).map λk=>(j,k)) (by rw[e];rfl),xcs (by rw[e];decide),c]
  |some z=>rw[xee (f:=λj=>(b.getD j none).map λk=>(j,k)) (by rw[e];rfl),xcp (by rw[e];rfl),xbr,c]
theorem zvv(b:Array (Option Nat)):∀l:List Nat,(l.filterMap λj=>(b.getD j none).map λk=>(j,k)).map (·.2)=l.filterMap λj=>b.getD j none
 |[]=>rfl
 |a::l=>by
  have c:=zvv b l;cases e:b.getD a none with
  |none=>rw[xeu (f:=λj=>(b.getD j none).map λk=>(j,k)) (by rw[e];rfl),xeu (f:=λj=>b.getD j none) e,c]
  |some z=>rw[xee (f:=λj=>(b.getD j none).map λk=>(j,k)) (by rw[e];rfl),xee (f:=λj=>b.getD j none) e,xbr,c]
theorem zzb{α:Type}(es:List α):(List.range es.length).filterMap (λi=>es[i]?)=es:=by
 induction es with
 |nil=>rfl
 |cons a l ih=>
  rw[xbt,List.range_succ_eq_map,xee (f:=λi=>(a::l)[i]?) rfl,List.filterMap_map]
  congr 1
theorem relay{t:SetTable}{b:Array (Int×Value)}{wanted:Nat}(g:Tb t)(u:∀e∈b.toList,SmallH e.1)(q:MaskOk (SetTable.sizeAbove wanted-1))(r:b.size<=SetTable.sizeAbove wanted-1):
  ∃f h,relayAll t b wanted=(f,h,false)/\Tb h/\h.mask=SetTable.sizeAbove wanted-1/\h.led=t.led/\h.place.size=f.size/\f.size=b.size/\f.toList.Perm b.toList:=by
 obtain⟨a,o,w⟩:=zbae q (hs:=b.map (·.1)) (λx s=>by
  rw[Array.toList_map] at s;obtain⟨e,G,rfl⟩:=xbq.mp s
  exact u e G) (by simpa using r)
 rw[Array.size_map] at w;generalize hmk:SetTable.sizeAbove wanted-1=mask at o w q r
 let live:=(List.range (mask+1)).filterMap λj=>(a.getD j none).map λk=>(j,k)
 have p:live.map (·.1)=(List.range (mask+1)).filter λj=>(a.getD j none).isSome:=zvw a _
 have A:live.map (·.2)=ownL a mask:=zvv a _;have m:=w.perm;rw[←A] at m;have d:((live.map (·.2)).filterMap λi=>b[i]?).Perm b.toList:=by
  refine(m.filterMap _).trans ?_;have:=zzb b.toList;rw[xci] at this;rw[show(List.range b.size).filterMap (λi=>b[i]?)=b.toList from(zln λi _=>(xco (xs:=b)).symm).trans this]
 have c:((live.map (·.2)).filterMap λi=>b[i]?).length=b.size:=by rw[d.length_eq,xci]
 have l:live.length=b.size:=by
  have:=m.length_eq;rw[xbb,xft] at this;exact this
 have C:t.relaid (b.map (·.1)) wanted=some ({mask,place:=(live.map (·.1)).toArray,dummies:=#[],finger:=t.finger,led:=t.led,moves:=t.movedTo mask,plain:=t.plain},(live.map (·.2)).toArray):=by
  unfold SetTable.relaid SetTable.laid;rw[hmk,o]
  rfl
 refine⟨((live.map (·.2)).filterMap λi=>b[i]?).toArray,{mask,place:=(live.map (·.1)).toArray,dummies:=#[],finger:=t.finger,led:=t.led,moves:=t.movedTo mask,plain:=t.plain},?_,⟨?_,rfl,λy n=>?_,g.pl⟩,rfl,rfl,?_,?_,?_⟩
 ·unfold relayAll;rw[C];dsimp only;have v:coversAll (live.map (·.2)).toArray b.size=true:=by
   unfold coversAll;exact List.isPerm_iff.mpr m
  have z:(live.map (·.2)).toArray.filterMap (λx=>b[x]?)=((live.map (·.2)).filterMap λi=>b[i]?).toArray:=by simp
  rw[z,v];have E:({mask,place:=(live.map (·.1)).toArray,dummies:=#[],finger:=t.finger,led:=t.led,moves:=t.movedTo mask,plain:=t.plain}:SetTable).fits ((live.map (·.2)).filterMap λi=>b[i]?).toArray.size=true:=by
   unfold SetTable.fits SetTable.fill;dsimp only;rw[xcc,xcc,c,xbb,l];simp;lia
  rw[E]
  rfl
 ·show(live.map (·.1)).toArray.toList.Pairwise lt;rw[List.toList_toArray,p];exact xgy xir List.pairwise_lt_range
 ·dsimp only at n ⊢;rw[p] at n;have:=xbn.mp (xcn.mp n).1;lia
 ·dsimp only;rw[xcc,xcc,c,xbb,l]
 ·rw[xcc,c]
 ·rw[List.toList_toArray];exact d
end St
namespace St
theorem zbfx{α:Type}{l:List α}(h:i<l.length):(l[i]::l.eraseIdx i).Perm l:=by
 rw[List.eraseIdx_eq_take_drop_succ];refine xnp.symm.trans ?_;rw[←xdh h,xdg]
theorem zbck{α:Type}(next:Nat->Nat):∀(fuel k:Nat) (left:List α) (b:Array α),left.length<=fuel->(pickOrder.go next fuel k left b).toList.Perm (b.toList++left)
 |0,k,left,b,h=>by
  have:left=[]:=xgl.mp (by lia);subst this;unfold pickOrder.go;rw[xei]
 |fuel+1,k,left,b,h=>by
  unfold pickOrder.go;cases e:left[next k%left.length]? with
  |none=>
   have:left=[]:=by
    cases left with
    |nil=>rfl
    |cons a l=>
     have:=List.getElem?_eq_none_iff.mp e;have:=xnk (next k) (show(a::l).length > 0 by simp);lia
   subst this;dsimp only;rw[xei]
  |some x=>
   dsimp only;obtain⟨c,rfl⟩:=xbd.mp e;have d:=zbck next fuel (k+1) (left.eraseIdx (next k%left.length)) (b.push left[next k%left.length]) (by rw[List.length_eraseIdx_of_lt c];lia);refine d.trans ?_;rw[xfg,xcm];exact xgx _ (zbfx c)
theorem zzk{α:Type}(next:Nat->Nat)(a:Array α):(pickOrder next a).toList.Perm a.toList:=by
 unfold pickOrder;exact zbck next a.size 0 a.toList #[] (by simp)
theorem zxj(h:Up xs) (m:i<xs.size):SetTable.below xs (xs.getD i 0+1)=i+1:=by
 obtain⟨o,l,n⟩:=zeo h (xs.getD i 0+1);have up:∀a b,a<b->b<xs.size->xs.getD a 0<xs.getD b 0:=λa b k p=>by
  have g:b<xs.toList.length:=by simpa using p
  have f:a<xs.toList.length:=by lia
  rw[zey,zey,xbi,xbi,xbe f,xbe g];exact xfx.mp h a b f g k
 have dflt:∀a d,a<xs.size->xs.getD a d=xs.getD a 0:=λa d q=>by
  rw[xdd,xdd,xdp q]
  rfl
 generalize SetTable.below xs (xs.getD i 0+1)=b at o l n;rcases Nat.lt_trichotomy b (i+1) with c|c|c
 ·have:=n i (by lia) m;have e:=dflt i (xs.getD i 0+1) m;lia
 ·exact c
 ·have:=l (i+1) c;have j:i+1<xs.size:=by lia
  have e:=dflt (i+1) (xs.getD i 0+1) j;have:=up i (i+1) (by lia) j;lia
theorem zxi(h:Up xs):SetTable.below xs 0=0:=by
 obtain⟨d,a,b⟩:=zeo h 0;rcases xjd (SetTable.below xs 0) with c|c
 ·exact c
 ·exact absurd (a 0 c) (by lia)
end St
end L2
namespace L2
open PySem.W PyProof.Rows Spec
namespace St
structure Es (l:List (Int×Value)) (ks:List Nat):Prop where
 all:∀e∈l,∃(n:Nat) (t:Tok),n<64/\e=((n:Int),Value.int (n:Int) t)
 perm:(l.map (·.1)).Perm (ks.map λ(n:Nat)=>(n:Int))
 nd:ks.Nodup
theorem Es.small(h:Es l f):∀k∈f,k<64:=λk b=>by
 have d:(k:Int)∈l.map (·.1):=h.perm.mem_iff.mpr (xbq.mpr ⟨k,b,rfl⟩);obtain⟨e,a,c⟩:=xbq.mp d;obtain⟨n,t,g,rfl⟩:=h.all e a;dsimp only at c;lia
theorem Es.len(h:Es l ks):l.length=ks.length:=by
 have:=h.perm.length_eq
 simpa using this
theorem Es.few(h:Es l ks):l.length<=64:=by
 rw[h.len];have:=xed h.nd (l₂:=List.range 64) λk a=>xbn.mpr (h.small k a)
 simpa using this
theorem Es.of_perm{a:List (Int×Value)}(h:Es l ks)(p:a.Perm l):Es a ks:=
 ⟨λe b=>h.all e (p.mem_iff.mp b),(p.map _).trans h.perm,h.nd⟩
theorem Es.add(h:Es l ks) (b:n<64)(a:n∉ks):Es (((n:Int),Value.int (n:Int) t)::l) (n::ks):=
 ⟨λe he=>by
  rcases xbl.mp he with rfl|he
  ·exact⟨n,t,b,rfl⟩
  ·exact h.all e he,h.perm.cons _,xdf.mpr ⟨a,h.nd⟩⟩
theorem zng{n:Nat}(h:n<64):hashInt (n:Int)=n:=by
 have e:rawHash (n:Int)=n:=by
  unfold rawHash;have b:(((n:Int).natAbs:Int)%((2^61-1:Nat):Int))=n:=by
   rw[Int.natAbs_natCast];exact Int.emod_eq_of_lt (by lia) (by lia)
  rw[b];dsimp only;have c:¬ ((n:Int)<0):=by lia
  rw[if_neg c];have a:((n:Int)==-1)=false:=by
   rw[xfv];lia
  rw[a]
  rfl
 unfold hashInt;rw[e];have a:((n:Int)==-1)=false:=by
  rw[xfv];lia
 rw[a]
 rfl
structure Tt (w:World) (es:Array (Int×Value)) (t:SetTable) (ks:List Nat):Prop where
 tb:Tb t
 mo:MaskOk t.mask
 ld:t.led=!w.params.followText "set-order"
 sz:t.place.size=es.size
 room:t.place.size*5<t.mask*3
 el:Es es.toList ks
theorem Tt.fits(h:Tt w es t ks):t.fits es.size=true:=by
 have:=h.room;have a:=h.sz;unfold SetTable.fits SetTable.fill;rw[h.tb.nd];simp;lia
theorem Tt.few(h:Tt w es t ks):es.size<=64:=by
 have:=h.el.few
 simpa using this
theorem Tt.elems{b:List Nat}(h:Tt w es t b):ElemsOf (intKind P w) es.toList:=λe c=>by
 obtain⟨m,t,a,rfl⟩:=h.el.all e c;exact⟨⟨(m:Int),intKind_is _ _ _ _,(zng a).symm⟩,rfl⟩
noncomputable def Sn(w:World) (h:Heap) (a:Addr) (e:List Nat):Prop:=∃b c d t,h.get? a=some b/\b.ExactSet/\b.data=.set c d t/\Tt w c t e
theorem Sn.kept{h':Heap}(x:Sn w h a ks)(k:∀o,h.get? a=some o->h'.get? a=some o):Sn w h' a ks:=
 let ⟨ob,es,ep,t,e,r⟩:=x;⟨ob,es,ep,t,k _ e,r⟩
theorem zbol{t:SetTable}(d:t.dummies=#[])(b:MaskOk t.mask)(g:t.place.size=m+1)(room:m*5<t.mask*3)(f:m+1<=64):
  (t.tooFull=false/\(m+1)*5<t.mask*3)\/(t.tooFull=true/\MaskOk (SetTable.sizeAbove (SetTable.grown (m+1))-1)/\m+1<=SetTable.sizeAbove (SetTable.grown (m+1))-1/\(m+1)*5<(SetTable.sizeAbove (SetTable.grown (m+1))-1)*3):=by
 have a:t.fill=m+1:=by
  unfold SetTable.fill;rw[d,g]
  rfl
 rcases b with e|e|e
 ·by_cases c:m=4
  ·subst c
   right
   refine⟨by unfold SetTable.tooFull;rw[a,e];decide,?_,by decide,by decide⟩;exact .inr (.inl (by decide))
  ·left
   refine⟨?_,by lia⟩;unfold SetTable.tooFull;rw[a,e];simp;lia
 ·by_cases c:m=18
  ·subst c
   right
   refine⟨by unfold SetTable.tooFull;rw[a,e];decide,?_,by decide,by decide⟩;exact .inr (.inr (by decide))
  ·left
   refine⟨?_,by lia⟩;unfold SetTable.tooFull;rw[a,e];simp;lia
 ·left
  refine⟨?_,by lia⟩;unfold SetTable.tooFull;rw[a,e];simp;lia
theorem zblh{h:Heap}(f:h.get? a=some o)(d:o.data=.set es ep t)(b:Array (Int×Value))(c:SetTable):
  (h.update a (Obj.putSet b c)).get? a=some {o with data:=.set b (ep+1) c}:=by
 have e:=putSet_of b c d;have g:=xfi (Obj.putSet b c) f (by rw[e];rfl)
 rwa [e] at g
theorem zbwd{s:Shared}{ks:List Nat}{n:Nat}(hn:n<64)(S:Sn w s.heap a ks)
  (p:∀y b,Heap.SameBut a s.heap y->Sn w y a (if n∈ks then ks else n::ks)->Q b {s with heap:=y}):
  wpAny (model P w) B (setAddHashed a (.int (n:Int) tok) (hashInt (n:Int))) Q E s:=by
 obtain⟨ob,o,ep,t,J,u,H,T⟩:=id S;have a8:=T.few;have hb:o.size<scanBound:=by unfold scanBound;lia
 unfold setAddHashed setAddHashedIn;refine xet (xba (xlg J H T.fits ?_));dsimp only;rw[byScan_of (knd:=intKind P w) (x:=.int (n:Int) tok) rfl hb T.elems,if_pos rfl];unfold setAddByScan;refine xba (xba (xii (xba (wpAny_setScan_of (knd:=intKind P w) (k:=(n:Int)) (intKind_is _ _ _ _) J H T.fits T.elems ?_))));cases hr:List.findIdx? (λe=>(intKind P w).is (n:Int) e.2) o.toList with
 |some j=>
  dsimp only;obtain⟨hj,hp,_⟩:=List.findIdx?_eq_some_iff_getElem.mp hr;obtain⟨m,q,hm,e⟩:=T.el.all _ (xdq hj);rw[e] at hp;have a1:(n:Int)=(m:Int):=(intKind P w).inj _ _ _ hp (intKind_is P w (m:Int) q);have Y:(n:Int)∈o.toList.map (·.1):=xbq.mpr ⟨_,xdq hj,by rw[e];exact a1.symm⟩;obtain⟨k,hk,ek⟩:=xbq.mp (T.el.perm.mem_iff.mp Y);have a4:n∈ks:=by
   have:k=n:=by lia
   exact this ▸ hk
  have f:=p s.heap false (Heap.SameBut.refl a s.heap);rw[if_pos a4] at f;exact xbg (xbg (f S))
 |none=>
  dsimp only;have no:n∉ks:=λhk=>by
   have Y:(n:Int)∈o.toList.map (·.1):=T.el.perm.mem_iff.mpr (xbq.mpr ⟨n,hk,rfl⟩);obtain⟨e,I,C⟩:=xbq.mp Y;obtain⟨m,q,hm,rfl⟩:=T.el.all e I;have z:=List.findIdx?_eq_none_iff.mp hr _ I;dsimp only at C z;rw[C,intKind_is] at z;cases z
  rw[zng hn];obtain⟨c,G,C,h,i,r,U,g,a2⟩:=zbnw (x:=Value.int (n:Int) tok) T.tb T.mo hn T.sz (by have:=T.room;lia);have d:Es c.toList (n::ks):=(T.el.add (t:=tok) hn no).of_perm a2;rw[C];dsimp only;refine xba (xbg ?_);rw[h.pl,if_pos rfl,hashByValue_scannable 8 (x:=Value.int (n:Int) tok) rfl];refine xba (xbg ?_);rw[show plainKind (Value.int (n:Int) tok)=true from rfl,if_pos rfl];have a6:c.size<=64:=by have:=d.few;simpa using this
  refine xba (wpAny_storeSet_of J H ?_ (by rw[xij];lia));have g1:=zblh J H c G;have A:=xew s.heap a (Obj.putSet c G);have f:=λy b=>p y b
  rw[if_neg no] at f;rcases zbol (t:=G) (m:=o.size) h.nd (by rw[i];exact T.mo) (by lia) (by have:=T.room;have:=T.sz;rw[i];lia) (by lia) with⟨c1,c2⟩|⟨c1,c2,c3,c4⟩
  ·rw[c1];refine xbg (xbg (f _ _ A ⟨_,c,ep+1,G,g1,u,rfl,h,by rw[i];exact T.mo,r.trans T.ld,U,?_,d⟩));lia
  ·rw[c1]
   obtain⟨l,q,e2,X,v,a5,a3,a7,a0⟩:=relay (wanted:=SetTable.grown c.size) h (λe I=>by
    obtain⟨m,tt,hm,rfl⟩:=d.all e I
    exact⟨m,hm,rfl⟩) (by rw[g];exact c2) (by rw[g];exact c3)
   rw[e2];refine xba (xbg ?_);refine xba (wpAny_storeSet_of g1 rfl ?_ (by show l.size<=_;rw[xij];lia));refine xbg (xbg (f _ _ (A.trans (xew _ a _)) ⟨_,l,ep+1+1,q,zblh g1 rfl l q,u,rfl,X,by rw[v,g];exact c2,a5.trans (r.trans T.ld),a3,?_,d.of_perm a0⟩));rw[v,g];lia
end St
namespace St
noncomputable def met:List Nat->List Nat->List Nat
 |[],ks=>ks
 |n::l,ks=>met l (if n∈ks then ks else n::ks)
theorem zna:entryFor table "set.update.loop"=some Builtin.«set.update.loop»:=entryFor_of_tree (by kernel_rfl)
theorem zir:plainId "set.update.loop"=true:=by decide +kernel
section
variable {P:Program}{w:World}{B:Around}{R:Result->Shared->Prop}{it:Addr}{fp:List Addr}{wr:List Addr}{G:Array GenState->Array GenState->Prop}{N:Nat}{It:Nat->Value->Prop}{St:Nat->Shared->Prop}
theorem zbdb(W:WalksS P w B.in1 it fp wr G N It St)(a:Addr)(k:a∉fp)(c:List Nat)(E:c.length=N)(small:∀n∈c,n<64)
  (h:∀i v,It i v->∃t,v=Value.int ((c.getD i 0:Nat):Int) t):∀(r:List Nat) (i:Nat) (p:List Nat) (s:Shared),c.drop i=r->i<=N->St i s->Sn w s.heap a p ->
   (∀ d,Moved (a::wr) G s d->Sn w d.heap a (met r p)->R (.ok (.ret .none)) d)->codeAny (model P w) B (.builtin "set.update.loop" ⟨[.ref a,.ref it],[]⟩) R s
 |[],i,p,s,hr,hi,au,S,fin=>by
  have e:i=N:=by
   have:=congrArg List.length hr;simp at this;lia
  subst e;refine xki zna ?_;rw[xmc zir _];refine xba (m:=pyNext (.ref it)) (W.done s _ _ au λd g=>?_);have y:a∉wr:=λz=>k (W.sub _ z)
  exact xbg (fin d (g.mono λb f=>xbf _ f) (S.kept λo e=>g.heap a o y e))
 |n::r,i,p,s,hr,hi,au,S,fin=>by
  have j:i<N:=by
   have:=congrArg List.length hr;simp at this;lia
  have q:c.getD i 0=n/\n∈c/\c.drop (i+1)=r:=by
   have A:c[i]?=some n:=by
    have:=congrArg (λl:List Nat=>l[0]?) hr
    simpa using this
   refine⟨by rw[xbi,A];rfl,xbo A,?_⟩;rw[←xmn,hr]
   rfl
  have y:a∉wr:=λz=>k (W.sub _ z)
  refine xki zna ?_;rw[xmc zir _];refine xba (m:=pyNext (.ref it)) (W.item i s _ _ j au λv d pv u g=>?_);obtain⟨t,rfl⟩:=h i v pv;rw[q.1];refine xba (m:=holding [Value.int (n:Int) t] (setAdd a (.int (n:Int) t))) (xet ?_);unfold setAdd;refine xet (xba (wpAny_pyHash_int ?_));refine zbwd (s:={d with toks:=d.toks+1}) (small n q.2.1) (S.kept λo e=>g.heap a o y e) λJ b sb I=>?_
  refine xbg ⟨plainId_quiet zir _,zbdb W a k c E small h r (i+1) _ _ q.2.2 j (W.frame _ d _ _ u (xlk _) λb f o e=>?_) I λH x C=>?_⟩
  ·rw[sb.2 b (λz:b=a=>k (z ▸ f))];exact e
  ·refine fin H (Moved.trans W.gtrans ((g.mono λb f=>xbf _ f).then_heap (xlk _) λb o f e=>?_) x) C;rw[sb.2 b (λz:b=a=>f (z ▸ xbv))];exact e
end
noncomputable def newO(w:World):Obj:={ cls:=.type "set",dict:=none,data:=.set #[] 0 (.fresh 0 0 (!w.params.followText "set-order")) }
theorem zbtn{s:Shared}(x:Value){W:Value->Shared->Prop}(a:W (.ref s.heap.objs.size) {s with heap:=s.heap.push (newO w)}):
  codeAny (model P w) B (.call (.builtin "set.__new__") ⟨[.type "set",x],[]⟩) (wants W E) s:=by
 refine codeAny_call_builtin_code (plainId_quiet F.plain_set_new _) (wpAny_of_eq (F.newCall_set_1 x) (xki F.entry_set_new ?_));rw[xmc F.plain_set_new _];have sub:=sub_set_self;unfold Builtin.«set.__new__» Builtin.Frozenset.newClass;obtain⟨c,g,d,b,os⟩:=s
 wp_walk
 refine xka (xbg ?_);simp only[newObj];exact xba (wpAny_alloc (xbg (xbg a)))
theorem zbtm{h:Heap}(e:h.get? a=some (newO w)):Sn w h a []:=
 ⟨_,#[],0,_,e,⟨rfl,rfl,rfl⟩,rfl,⟨List.Pairwise.nil,rfl,λy b=>(by cases b),rfl⟩,.inl rfl,rfl,rfl,(by show 0*5<7*3;decide),⟨λe c=>(by cases c),xod _,xgg⟩⟩
section
variable {P:Program}{w:World}{B:Around}{E:Value->Shared->Prop}{s:Shared}
theorem zbpz{l:Addr}{a:List Value}{g:List Nat}{W:Value->Shared->Prop}(hh:B.handled=none)(I:s.heap.IsList l a.toArray)(iv:IntsAre a (g.map λ(n:Nat)=>(n:Int)))(small:∀n∈g,n<64)
  (H:∀(h:Heap) (y:Nat),Sn w h s.heap.objs.size (met g [])->(∀b o,s.heap.get? b=some o->h.get? b=some o)->W (.ref s.heap.objs.size) {s with heap:=h,toks:=y}):
  wpAny (model P w) B (call (.type "set") [.ref l]) W E s:=by
 have A:a.length=g.length:=by simpa using iv.length
 obtain⟨c,tl,Q⟩:=xio.mro;have G:=xio.made;have a0:=xio.sub;have h1:=xio.notType;have h2:=xio.canCreate;have a3:=F.typeCall_set_1 (.ref l);refine wpAny_call (codeAny_of_tree (show wpAny _ _ (callAny (.type "set") _) _ _ _ from xbg ⟨Code.quiet_builtin _ (by decide +kernel),xki F.entry_type_call ?_⟩))
 rw[Around.under_plain (weight_type_call_type "set" [.ref l] []) rfl]
 repeat (any_goals (first|assumption|wp_step))
 refine xjv (zbtn (w:=w) (.ref l) (E:=E) (W:=λv X=>v=.ref s.heap.objs.size/\X={s with heap:=s.heap.push (newO w)}) ⟨rfl,rfl⟩) λr X j=>?_
 match r,j with
 |.error e,j=>exact j
 |.ok (.ret v),j=>
  obtain⟨rfl,rfl⟩:=j;have Y:(s.heap.push (newO w)).get? s.heap.objs.size=some (newO w):=xcb _ rfl;have ty:Shared.TypeIs { s with heap:=s.heap.push (newO w) } (.ref s.heap.objs.size) "set":=⟨_,Y,rfl⟩
  have a6:=xio.init.lookup;have a1:=xio.init.bind (.ref s.heap.objs.size)
  repeat (any_goals (first|assumption|wp_step))
  refine xjv (xmh (R:=wants (λv k=>v=.none/\∃h y,k={s with heap:=h,toks:=y}/\Sn w h s.heap.objs.size (met g [])/\∀b o,s.heap.get? b=some o->h.get? b=some o) E) xio.init.plain F.entry_set_init (check_set_init_1 ty ?body)) λr2 k d=>?_
  case body=>
   obtain⟨ol,u,x,nl,m⟩:=id I;obtain⟨oc,od,a4,C⟩:=ol;simp only at x m;subst x m;have q:(s.heap.push (newO w)).get? l=some { cls:=.type "list",dict:=od,data:=.seq a.toArray nl,slots:=C }:=xbh _ u
   have f:(s.heap.push (newO w)).IsList l a.toArray:=⟨_,q,rfl,nl,rfl⟩
   have a5:=F.sub_list_set;have a2:=F.sub_list_frozenset;have ne:(Value.type "list"==Value.type "dict")=false:=by decide
   unfold Builtin.«set.__init__» noKeywords Builtin.Frozenset.updateFrom;generalize hPI:pyIter=PI
   wp_walk
   subst hPI;have S:l<s.heap.objs.size:=xbz u;have J:(s.heap.push (newO w)).objs.size=s.heap.objs.size+1:=xhb ..
   refine xlf f (xba (wpAny_runValue ?_))
   refine zbdb ((Walks.list (by simp[hh]) _ l (xch (by rw[J];exact xig S)) a.toArray).toS) s.heap.objs.size (λz=>by
    rw[J] at z;rcases xbl.mp z with z|z
    ·exact xch (xjz _) z
    ·exact xhr S (xcj.mp z)) g (by simp[A]) small (λi v hv=>?_) g 0 [] _ rfl (xes _) ⟨⟨_,xcb _ rfl,rfl,rfl⟩,f.push _⟩ (zbtm (xbh _ Y)) λk U S2=>?_
   ·obtain⟨t,e⟩:=IntsAre.int_at iv i v (by simpa using hv);refine⟨t,e.trans ?_⟩
    congr 1
    rw[xbi,xcl,xbi];cases g[i]?<;>rfl
   ·rw[Moved.eq_with U];refine xbg (xbg ⟨rfl,k.heap,k.toks,rfl,S2,λb o e=>?_⟩);have lt:=xbz e
    exact U.heap b o (λz=>by
     rw[J] at z;rcases xbl.mp z with z|z
     ·exact xch lt z
     ·exact xch (xig lt) (xcj.mp z)) (xbh _ (xbh _ e))
  match r2,d with
  |.error e,d=>exact d
  |.ok (.ret v),d=>
   obtain⟨rfl,h,y,rfl,S',p⟩:=d
   repeat (any_goals (first|assumption|wp_step))
   exact H _ _ S' p
end
end St
namespace St
theorem zbmo:Manifest.owners.lookup (String.ofList ("rotareti_tes".toList).reverse)=some Manifest.sig_set_iterator:=by kernel_rfl
theorem zkb:Slot "set_iterator" "__next__" "set_iterator.__next__":=by
 refine Slot.of (owner:="set_iterator") (n:="__next__") ?_ (by decide +kernel) (by decide +kernel) (by decide +kernel) ?_ ?_
 ·rw[typeLookup_type,builtinLookup_eq_fast]
  kernel_rfl
 ·first
   |exact .inl (by decide +kernel)
   |exact .inr (by decide +kernel)
 ·rw[isSubtype_type]
  kernel_rfl
theorem zvk:entryFor table "set_iterator.__next__"=some Builtin.«set_iterator.__next__»:=entryFor_of_tree (by kernel_rfl)
theorem zbcp(a:Value):argsOk "set_iterator.__next__" ⟨[a],[]⟩:=by
 unfold argsOk;rw[signature?_of (id:="set_iterator.__next__") (n:="__txen__".toList) (o:="rotareti_tes".toList) (by kernel_rfl) zbmo]
 kernel_rfl
theorem zbcc:Slot "set_iterator" "__iter__" "set_iterator.__iter__":=by
 refine Slot.of (owner:="set_iterator") (n:="__iter__") ?_ (by decide +kernel) (by decide +kernel) (by decide +kernel) ?_ ?_
 ·rw[typeLookup_type,builtinLookup_eq_fast]
  kernel_rfl
 ·first
   |exact .inl (by decide +kernel)
   |exact .inr (by decide +kernel)
 ·rw[isSubtype_type]
  kernel_rfl
theorem zbew:entryFor table "set_iterator.__iter__"=some Builtin.«dict_keyiterator.__iter__» :=
 entryFor_alias (id':="dict_keyiterator.__iter__") (by kernel_rfl) rfl (by decide +kernel) (by kernel_rfl)
theorem zbkz(a:Value):argsOk "set_iterator.__iter__" ⟨[a],[]⟩:=by
 unfold argsOk;rw[signature?_of (id:="set_iterator.__iter__") (n:="__reti__".toList) (o:="rotareti_tes".toList) (by kernel_rfl) zbmo]
 kernel_rfl
theorem zbhc:entryFor table "set.__iter__"=some Builtin.«frozenset.__iter__» :=
 entryFor_alias (id':="frozenset.__iter__") (by kernel_rfl) rfl (by decide +kernel) (by kernel_rfl)
noncomputable def At(h:Heap) (a:Addr) (d:Array (Int×Value)) (c:Nat) (t:SetTable):Prop:=∃b,h.get? a=some b/\b.ExactSet/\b.data=.set d c t
theorem At.kept{h':Heap}(x:At h a es ep t)(k:∀o,h.get? a=some o->h'.get? a=some o):At h' a es ep t:=
 let ⟨ob,e,r⟩:=x;⟨ob,k _ e,r⟩
theorem At.is{s:Shared}(x:At s.heap a es ep t):s.TypeIs (.ref a) "set":=let ⟨ob,e,c,_⟩:=x; ⟨ob,e,c.1⟩
theorem At.lt(x:At h a es ep t):a<h.objs.size:=let ⟨_,e,_⟩:=x;xbz e
noncomputable def ord(w:World) (a:Addr) (b:Array (Int×Value)) (c:Nat):Array (Int×Value):=if w.params.followText "set-order"=true then pickOrder (w.params.setOrder a c) b else b
theorem zvf(w:World)(a:Addr)(b:Array (Int×Value))(c:Nat):(ord w a b c).toList.Perm b.toList:=by
 unfold ord;split
 ·exact zzk _ _
 ·exact xod _
theorem zlb(w:World)(a:Addr)(b:Array (Int×Value))(c:Nat):(ord w a b c).size=b.size:=by
 have:=(zvf w a b c).length_eq
 simpa using this
noncomputable def slotAt(w:World) (t:SetTable):Nat->Nat
 |0=>0
 |i + 1=>if w.params.followText "set-order"=true then 0 else t.place.getD i 0 + 1
theorem zqf{w:World}(h:w.params.followText "set-order"=true)(t:SetTable):∀ i,slotAt w t i=0
 |0=>rfl
 |i+1=>if_pos h
theorem zue{w:World}(h:¬ w.params.followText "set-order"=true)(t:SetTable)(i:Nat):slotAt w t (i + 1)=t.place.getD i 0 + 1:=if_neg h
theorem zuf{w:World}(h:¬ w.params.followText "set-order"=true){t:SetTable}(up:Up t.place):∀ i,i<=t.place.size->SetTable.below t.place (slotAt w t i)=i
 |0,_=>zxi up
 |i+1,hi=>by rw[zue h];exact zxj up (by lia)
theorem zbcx{s:Shared}(x:At s.heap a es ep t)(T:Tt w es t ks)(m:i<=es.size)(b:Q (((ord w a es ep)[i]?).map λe=>(e.2,slotAt w t (i+1))) s):
  wpAny (model P w) B (setNext a (slotAt w t i) i ep) Q E s:=by
 obtain⟨n,g,k,f⟩:=x;unfold setNext setsByText;refine xba (xlg g f T.fits ?_);dsimp only;refine xba (xba (xka (xbg ?_)));show wpAny _ _ (if w.params.followText "set-order"=true then _ else _) _ _ _
 by_cases hb:w.params.followText "set-order"=true
 ·rw[zqf hb] at b;rw[if_pos hb,if_neg (by simp),zqf hb];unfold setWalk setsByText;refine xba (xba (xlg g f T.fits ?_));dsimp only;refine xba (xba (xka (xbg ?_)));show wpAny _ _ (if w.params.followText "set-order"=true then _ else _) _ _ _
  rw[if_pos hb];refine xba (xka (xbg (xbg ?_)));unfold ord at b;rw[if_pos hb] at b;exact b
 ·rw[if_neg hb];have h:t.led=true:=by rw[T.ld];simpa using hb
  have l:=T.sz;refine xkj (λz=>?_) (λ_=>?_)
  ·change (!t.plain&&_)=true at z
   rw[T.tb.pl] at z;cases z
  refine xba (xkj (λz=>?_) (λ_=>xbg ?_))
  ·change (!t.led&&_)=true at z
   rw[h] at z;cases z
  rw[zuf hb T.tb.up i (by lia)];unfold ord at b;rw[if_neg hb,zue hb] at b;by_cases c:i<es.size
  ·rw[xdp c] at b ⊢;have d:i<t.place.size:=by lia
   rw[xdp d];have j:t.place.getD i 0=t.place[i]:=by
    rw[xdd,xdp d]
    rfl
   rw[j] at b;exact xbg b
  ·rw[xho (by lia)] at b ⊢;exact xbg b
def ItAt(w:World) (h:Heap) (b a:Addr) (i n c:Nat) (t:SetTable):Prop:=∃ o,h.get? b=some o/\o.cls=.type "set_iterator"/\o.data=.fields #[.int (slotAt w t i:Nat) 0,.int i 0,.ref a,.int n 0,.int c 0]
theorem ItAt.kept{h':Heap}(x:ItAt w h it a i n ep t)(k:∀o,h.get? it=some o->h'.get? it=some o):ItAt w h' it a i n ep t:=
 let ⟨o,e,r⟩:=x;⟨o,k _ e,r⟩
theorem ItAt.is{s:Shared}(x:ItAt w s.heap it a i n ep t):s.TypeIs (.ref it) "set_iterator":=let ⟨o,e,c,_⟩:=x; ⟨o,e,c⟩
noncomputable def itO(a:Addr) (n b:Nat):Obj:={ cls:=.type "set_iterator",data:=.fields #[.int 0 0,.int 0 0,.ref a,.int n 0,.int b 0] }
theorem zbnz{s:Shared}{W:Value->Shared->Prop}(x:At s.heap a es ep t)(T:Tt w es t ks)(c:W (.ref s.heap.objs.size) {s with heap:=s.heap.push (itO a es.size ep)}):wpAny (model P w) B (pyIter (.ref a)) W E s:=by
 obtain⟨f,d,e,b⟩:=id x;refine xnj x.is F.slot_set_iter (xep F.slot_set_iter x.is zbhc ?body (F.args_set_iter_1 _))
 case body=>
  unfold Builtin.«frozenset.__iter__» Builtin.Frozenset.sizeOf;refine xba (m:=Builtin.Frozenset.slot0 "__iter__" _) (xbg (xba (xba (xmm d b T.fits (xbg ?_)))))
  unfold setDrawn setsByText;refine xba (xba (xlg d b T.fits ?_));dsimp only;refine xba (xba (xka (xbg (xbg ?_))));refine xkj (λz=>?_) (λ_=>xba (xbg ?_))
  ·change (_&&(!t.plain&&_))=true at z
   rw[T.tb.pl] at z;simp at z
  refine xba (wpAny_setEpoch_of d b T.fits ?_);unfold newFields;exact xba (xez (xbg ⟨_,rfl, "set_iterator",_,⟨_,xcb _ rfl,rfl⟩,zkb.lookup,c⟩))
theorem zbsa{h:Heap}{o:Obj}{i n c:Nat}(g:h.get? it=some o)(f:o.cls=.type "set_iterator")(e:o.data=.fields #[.int (slotAt w t i:Nat) 0,.int i 0,.ref a,.int n 0,.int c 0]):
  ItAt w ((h.update it (Obj.mapFields (·.setIfInBounds 0 (rawInt (slotAt w t (i+1):Nat))))).update it (Obj.mapFields (·.setIfInBounds 1 (rawInt ((i:Int)+1))))) it a (i+1) n c t:=by
 have d:=xgw e (·.setIfInBounds 0 (rawInt (slotAt w t (i+1):Nat)));have j:=xfi _ g (xia d);have b:=xgw d (·.setIfInBounds 1 (rawInt ((i:Int)+1)));refine⟨_,xfi _ j (xia b),(xld ..).trans ((xld ..).trans f),?_⟩;rw[b];simp[rawInt]
theorem zboa{s:Shared}{W:Option Value->Shared->Prop}(x:At s.heap a es ep t)(T:Tt w es t ks)(d:ItAt w s.heap it a i es.size ep t)(h:(ord w a es ep)[i]?=some e)
  (f:∀g:Heap,ItAt w g it a (i+1) es.size ep t->Heap.SameBut it s.heap g->W (some e.2) {s with heap:=g}):wpAny (model P w) B (pyNext (.ref it)) W E s:=by
 obtain⟨q,b,n,c⟩:=id d;obtain⟨r,o,k,l⟩:=id x;have lt:i<es.size:=by
  have:=(xmx.mp h).1
  rwa [zlb] at this
 unfold pyNext;refine xba (xkd (wpAny_callSpecial?_slot (name:=Str.ofString "__next__") d.is zkb (xep zkb d.is zvk ?body (zbcp _))))
 case body=>
  refine xba (m:=slotArgs "__next__" 0 _) (xbg (xba (xmq b c ?_)))
  refine xba (xmm o l T.fits ?_);rw[if_neg (by simp)];refine xba (m:=setNext a (slotAt w t i) i ep) (zbcx x T (xcg lt) ?_);rw[h];dsimp only[Option.map];refine xba (xil b c (by simp) ?_);have j:=xgw c (·.setIfInBounds 0 (rawInt (slotAt w t (i+1):Nat)));have p:=xfi _ b (xia j);refine xba (xil p j (by simp) ?_);exact xbg ⟨_,rfl,xbg (f _ (zbsa b n c) ((xew ..).trans (xew ..)))⟩
theorem zbuf{B:Around}{s:Shared}{W:Option Value->Shared->Prop}(k:B.handled=none)(x:At s.heap a es ep t)(T:Tt w es t ks)(c:ItAt w s.heap it a i es.size ep t)(h:i=es.size)
  (d:∀g:Heap,Heap.ExtBut it s.heap g->W none {s with heap:=g}):wpAny (model P w) B (pyNext (.ref it)) W E s:=by
 obtain⟨o,e,q,f⟩:=id c;obtain⟨p,n,j,l⟩:=id x;unfold pyNext;refine xba (xkd (wpAny_callSpecial?_slot (name:=Str.ofString "__next__") c.is zkb (xep zkb c.is zvk ?body (zbcp _))))
 case body=>
  refine xba (m:=slotArgs "__next__" 0 _) (xbg (xba (xmq e f ?_)))
  refine xba (xmm n l T.fits ?_);rw[if_neg (by simp)];refine xba (m:=setNext a (slotAt w t i) i ep) (zbcx x T (xdu h) ?_);rw[xho (by rw[zlb];lia)];dsimp only[Option.map];refine xba (xil e f (by simp) (xba ?_));simp only[newExc,newTuple];refine xba (xez (xba (m:=firstArgMember _ _) (wpAny_of_eq (a:=Value.none) (by first|rfl|(simp only[firstArgMember];rfl)) (xez ?_ (by size_fits)))) (by size_fits));simp only[raiseNew];refine xba (wpAny_handled ?_);rw[show B.in1.handled=none from k];refine xba (xbg (wpAny_throw ?_));refine xba (xlr (T:="StopIteration") (b:=true) ?ty isSubtype_stop (xbg (d _ (((xew ..).extBut.push _).push _))))
  exact⟨_,xcb _ rfl,rfl⟩
theorem zbem{B:Around}(s:B.handled=none)(y:a≠it)(T:Tt w es t ks):
  Walks P w B it [it,a] [it] es.size (λi v=>∃e,(ord w a es ep)[i]?=some e/\v=e.2) (λi h=>ItAt w h it a i es.size ep t/\At h a es ep t) where
 sub:=λb x=>xbl.mpr (.inl (xcj.mp x))
 frame:=λ_ _ _ z k=>⟨z.1.kept λo e=>k it xbv o e,z.2.kept λo e=>k a (xbf _ (xcj.mpr rfl)) o e⟩
 item:=λi f n m u z d=>by
  have l:(ord w a es ep)[i]?=some ((ord w a es ep)[i]'(by rw[zlb];exact u)):=xdp _;exact zboa z.2 T z.1 l λg p q=>d _ g f.toks ⟨_,l,rfl⟩ ⟨p,z.2.kept λo e=>q.extBut a o y e⟩ λc o j e=>q.extBut c o (λr=>j (xcj.mpr r)) e
 done:=λf n m z d=>zbuf s z.2 T z.1 rfl λg b=>d g f.toks λc o j e=>b c o (λq=>j (xcj.mpr q)) e
 self:=λi f n m z d=>by
  refine xnj z.1.is zbcc (xep zbcc z.1.is zbew ?_ (zbkz _));exact xbg ⟨_,rfl, "set_iterator",_,z.1.is,zkb.lookup,d⟩
theorem zbok{s:Shared}(d:s.TypeIs (.ref a) "set")(c:Q false s):wpAny (model P w) B (Builtin.List.listLengthHint (.ref a)) Q E s:=by
 unfold Builtin.List.listLengthHint;refine xba (wpAny_specialOf d F.slot_set_len.lookup ?_);generalize hid:("set.__len__" : String)=id0
 wp_delta
 rw[show splitId id0=some ("set","__len__") from by subst hid; decide +kernel]
 subst hid;refine xba (xlr (b:=true) d sub_set_self (xkj (λz=>absurd z (by decide)) (λ_=>xkj (λ_=>xba (wpAny_typeOf d (xbg c))) (λz=>absurd (by decide +kernel) z))))
theorem zbrn(T:Tt w es t ks):KdlSrc P w "set" a a es.size (λi v=>∃ e,(ord w a es ep)[i]?=some e/\v=e.2) (λh=>At h a es ep t) where
 type:=λ_ x=>x.is
 there:=λ_ x=>⟨x.lt,x.lt⟩
 keep:=λ_ _ x d=>x.kept λo e=>d a (.inl rfl) o e
 notList:=by decide
 notTuple:=by decide
 hint:=λ_ _ _ _ x b=>zbok x.is b
 iter:=λ_ f c x=>⟨_,_,λ_ _ b=>zbnz x T b,zbem c (xch x.lt) T,⟨⟨_,xcb _ rfl,rfl,rfl⟩,x.kept λo e=>xbh _ e⟩⟩
end St
end L2
namespace L2
open Spec PyProof.Rows PySem.W
noncomputable def nats(a:List Nat):List Int:=a.map λ(n:Nat)=>(n:Int)
def setO(w:World) (q:Addr) (a:List Nat):HO:=.ext λh=>St.Sn w h q a
def rSetI(w:World) (K:Fg):List V->Hp->VK->Prop:=λb H Q=>∃(l:Addr) (a:List Nat),b=[.ref l]/\SqL K H l ((nats a).map V.int)/\(∀n∈a,n<64)/\∀q,H q=none->Q (.ref q) (upd H q (setO w q (St.met a [])))
theorem zbbk{X:Cx}(n:X.calm=true):CallR X (.type "set") (rSetI X.w X.K):=by
 intro x s σ H y t Q I r h;obtain⟨l,m,rfl,d,small,q⟩:=h;obtain⟨u,rfl,f⟩:=vals1 r;cases f;obtain⟨p,i,g,w⟩:=I.list d;refine St.zbpz (I.ok.hd n) g.isList (zek i) small λA c S b=>?_
 refine⟨.ref s.heap.objs.size,_,I.laid (a:=s.heap.objs.size) (o:=setO X.w s.heap.objs.size (St.met m [])) (t':=c) b (xbj _) ⟨S,?_,λC v z k=>z.kept k⟩,rfl,q _ (I.hok.fresh (xbj _))⟩;obtain⟨j,_,_,_,e,_⟩:=S;exact⟨j,e⟩
def rSortedS(w:World):List V->Hp->VK->Prop:=λd H Q=>∃(a:Addr) (c:List Nat),d=[.ref a]/\H a=some (setO w a c) /\
 ∀(q:Addr) (b:List Int),H q=none->b.Perm (nats c)->b.Pairwise (·<=·)->Q (.ref q) (upd H q (.lst (b.map V.int)))
theorem zpi{X:Cx}(hc:X.calm=true):CallR X (.builtin "sorted") (rSortedS X.w):=by
 intro aU s σ H xs us Q I r h;obtain⟨a,ks,rfl,ha,q⟩:=h;obtain⟨u,rfl,ru⟩:=vals1 r;cases ru;obtain⟨S,_,_⟩:=(show ObjOk X.prog X.w H s.heap a (setO X.w a ks) from I.hok a _ ha)
 obtain⟨ob,f,j,t,ho,l,hd,T⟩:=S;have a0:=T.few;refine Srt.zjw (St.zbrn (P:=X.prog) (ep:=j) T) (I.ok.hd hc) ⟨ob,ho,l,hd⟩ (small10000 (by lia)) λvs hl hv=>?_
 have v:=St.zvf X.w a f j;have k:vs=(St.ord X.w a f j).toList.map (·.2):=by
  apply xie;intro i;by_cases hi:i<f.size
  ·have y:vs[i]?=some vs[i]:=xbe (by lia);obtain⟨e,w,h3⟩:=hv i _ y;rw[y,h3,xcl,xco,w]
   rfl
  ·rw[xfy (by lia),xfy (by rw[xbb,xci,St.zlb];lia)]
 generalize hL:(St.ord X.w a f j).toList=L at v k;have E:=T.el.of_perm v;have m:Vals ((L.map (·.1)).map V.int) vs:=by
  rw[k,xcw];refine zob λe he=>?_
  obtain⟨n,t2,hn,rfl⟩:=E.all e he;exact⟨t2,rfl⟩
 have ln:(L.map (·.1)).length=f.size:=by
  rw[xbb,v.length_eq,xci]
 refine⟨Srt.rank (ones (L.map (·.1))),zbiv m,λw g U d=>zbjk (by lia) m,λp b g U c A C d G J=>?_⟩;have Y:vs.length=(L.map (·.1)).length:=by lia
 rw[Y] at A C;obtain⟨x,z,q2,q3⟩:=zbfy m A C;refine⟨.ref b,_,I.laidN (o:=.lst (x.map V.int)) d G ⟨?_,_,c,q3,by simpa using J⟩,rfl,q b x (I.away G) (z.trans E.perm) q2⟩;rw[xbb,z.length_eq,ln];exact small10000 (by lia)
end L2
namespace Dd
open L2 PyProof.Rows
noncomputable def once:List Int->List Int
 |[]=>[]
 |n::l=>if n∈l then once l else n::once l
theorem zij:∀{l:List Int},k∈once l↔k∈l
 |[]=>Iff.rfl
 |n::l=>by
  unfold once;split
  ·rename_i h;rw[zij (l:=l),xbl];exact⟨.inr,λz=>z.elim (λe=>e ▸ h) id⟩
  ·rw[xbl,xbl,zij (l:=l)]
theorem zqn:∀l:List Int,(once l).Nodup
 |[]=>xgg
 |n::l=>by
  unfold once;split
  ·exact zqn l
  ·rename_i h;exact xdf.mpr ⟨λz=>h (zij.mp z),zqn l⟩
theorem zvr:∀{l b:List Nat},k∈St.met l b↔k∈l\/k∈b
 |[],b=>by simp[St.met]
 |n::l,b=>by
  unfold St.met;rw[zvr (l:=l),xbl];split
  ·rename_i h;exact⟨λz=>z.elim (λa=>.inl (.inr a)) .inr,λz=>z.elim (λa=>a.elim (λe=>.inr (e ▸ h)) .inl) .inr⟩
  ·rw[xbl];exact⟨λz=>z.elim (λa=>.inl (.inr a)) (λa=>a.elim (λe=>.inl (.inl e)) .inr),λz=>z.elim (λa=>a.elim (λe=>.inr (.inl e)) .inl) (λa=>.inr (.inr a))⟩
theorem zbgm:∀{l a:List Nat},a.Nodup->(St.met l a).Nodup
 |[],a,h=>h
 |n::l,a,h=>by
  unfold St.met;split
  ·exact zbgm h
  ·rename_i c;exact zbgm (xdf.mpr ⟨c,h⟩)
theorem zbnf{l:List Nat}(h:l.Nodup):(nats l).Nodup:=by
 unfold nats;rw[xgq] at h ⊢;exact xnh.mpr (h.imp λa e=>a (by lia))
theorem zbgl:(nats (St.met ns [])).Perm (once (nats ns)):=by
 refine(xmz (zbnf (zbgm xgg)) (zqn _)).mpr λk=>?_
 rw[zij];unfold nats;rw[xbq,xbq];constructor
 ·rintro⟨n,h,rfl⟩;exact⟨n,(zvr.mp h).elim id (λz=>by cases z),rfl⟩
 ·rintro⟨n,h,rfl⟩;exact⟨n,zvr.mpr (.inl h),rfl⟩
noncomputable def smallI(n:Int):Bool:=decide (0<=n)&&decide (n<64)
theorem zud{l:List Int}(h:l.all smallI=true):∃b:List Nat,l=nats b/\∀n∈b,n<64:=by
 refine⟨l.map Int.toNat,?_,λn a=>?_⟩
 ·unfold nats;rw[xcw];refine(xob l).symm.trans (xeo λn a=>?_);have:=xca.mp h n a;simp[smallI] at this;show n=((n.toNat:Nat):Int)
  lia
 ·obtain⟨m,c,rfl⟩:=xbq.mp a;have:=xca.mp h m c;simp[smallI] at this;lia
def bSortSet:List D->Store->Res D:=λb a=>match b with
 |[x]=>match (asL a x).bind asInts with
  |some l=>if l.all smallI=true then .ok (.lst ((sortI (once l)).map .int)) a else .stuck
  |none=>.stuck
 |_=>.stuck
def rSS(w:World) (K:Fg):List V->Hp->VK->Prop:=λa H Q=>rSetI w K a H λu H1=>rSortedS w [u] H1 Q
theorem zxm{w:World}{K:Fg}:CaD K bSortSet (rSS w K):=λρ H C E A z s Q d x e q=>by
 unfold bSortSet at e;split at e
 ·obtain⟨u,rfl,a⟩:=x.one;split at e
  ·rename_i l c;obtain⟨y,r,c⟩:=xfp.mp c;split at e
   ·rename_i o;cases e;obtain⟨p,G,rfl,k,i⟩:=zgq d a r;have e:=zdx i c;subst e;obtain⟨h,rfl,small⟩:=zud o;refine⟨p,h,rfl,SqL.of k,small,λb f=>⟨b,_,rfl,zp,λt j g v m=>?_⟩⟩;have n:j=sortI (once (nats h)):=zbev (v.trans zbgl) m;subst n;exact q _ _ _ ((Ext.new f _).trans (Ext.new g _)) ((d.new f _).new g _) (.newL (d.new f _) g (ziu _))
   ·cases e
  ·cases e
 ·cases e
theorem zbys{X:Cx}(o:X.calm=true)(r:CaD X.K g (rSS X.w X.K))(j:Gl X x)(i:X.mg x=none)(b:bootBuiltins x=some (.builtin "sorted"))(c:Gl X y)(a:X.mg y=none)(l:bootBuiltins y=some (.type "set"))(s:JA X [e] f)
  (m:x≠"__name__":=by decide)(n:(x==("__debug__" : Str))=false:=by decide)(k:y≠"__name__":=by decide)(d:(y==("__debug__" : Str))=false:=by decide)(q:plainE e=true:=by rfl):
  JE X (.Call (.Name x p) [.Call (.Name y p2) [e] [] pos2] [] pos) (aE g f):=
 ⟨zgc (zvc (zpi o) j i b (zbcl (zqm (zbbk o) c a l s.out k d (zmj q)) zbmm) m n) λτ H Q h=>zbvn r τ H Q h⟩
end Dd
namespace L2
open Spec PyProof.Rows PySem.W
end L2
namespace Dd
open L2 PyProof.Rows
end Dd
namespace L2
open Spec PyProof.Rows
end L2
namespace Dd
open L2 PyProof.Rows
end Dd
namespace L2
open Spec PyProof.Rows
end L2
namespace Dd
open L2 PyProof.Rows
end Dd
namespace L2
open Spec PyProof.Rows
end L2
namespace Dd
open L2 PyProof.Rows
end Dd
namespace L2
open Spec PyProof.Rows
end L2
namespace L2
open Spec PyProof.Rows Builtin Builtin.ObjectAttr
end L2
namespace L2
open Spec PyProof.Rows
end L2
namespace Dd
open L2 PyProof.Rows
end Dd
namespace L2
open Spec PyProof.Rows
end L2
namespace Dd
open L2 PyProof.Rows
end Dd
namespace L2
open Spec PyProof.Rows
end L2
namespace Dd
open L2 PyProof.Rows
end Dd
namespace L2
open Spec PyProof.Rows
end L2
namespace Dd
open L2 PyProof.Rows
end Dd
namespace L2
open Spec PyProof.Rows
def rSetD(_K:Fg):V->List V->Hp->VK->Prop:=λx c H Q=>∃(a:Addr) (k:Key) (v:V) (b:List (Key×V)),x=.ref a/\c=[kV k,v]/\H a=some (.dK b)/\b.length<sizeLine /\
 (∀u,valV b k=some u->Q u H)/\(valV b k=none->Q v (upd H a (.dK (putK b k v))))
theorem zbng: MtR X "dict.setdefault" (rSetD X.K):=by
 intro aU s σ H x xs v us Q I C G h;obtain⟨a,k,d,b,rfl,rfl,e,hl,E,P⟩:=h;cases C;obtain⟨u,r,rfl,Y,l⟩:=vals2 G;obtain⟨z,m,o,f,n⟩:=zbuv I.hok e;have p:o.length<=sizeLine:=by rw[←f.length];exact z
 have j:(putK b k d).length<=sizeLine:=by have:=zgl b k d;lia
 refine xmg xmp n.typeIs F.entry_dict_setdefault (F.args_dict_setdefault_3 _ _ _) (kt_meets_setdefault (mixKind X.prog X.w) a (zbha Y) m r) ⟨o,n,p,λw t=>?_,λS J i A=>?_⟩
 ·have c:=f.val k;rw[t] at c;cases g:valV b k with
  |none=>rw[g] at c;exact c.elim
  |some y=>rw[g] at c;exact⟨y,H,I.tok _,c,E y g⟩
 ·have g:valV b k=none:=by
   have c:=f.val k;rw[S] at c;cases g:valV b k with
   |none=>rfl
   |some y=>rw[g] at c;exact c.elim
  have U:∃q,J.get? a=some q:=let ⟨q,_,_,hq,_⟩:=i;⟨q,hq⟩
  exact⟨d,_,znk I (by rw[e];exact True.intro) A U (zbie j m (f.put k l) i),l,P g⟩
def rMaxDI(d:List V) (H:Hp) (Q:VK):Prop:=∃(a:Addr) (n:Int) (c:List Int) (b:List (Key×V)),d=[.ref a]/\Rd H a (.dK b)/\b.map (·.1)=(n::c).map Sum.inl/\Q (.int (bestI true n c)) H
theorem zxb{X:Cx}(hc:X.calm=true):CallR X (.builtin "max") rMaxDI:=by
 intro aU s σ H xs us Q I r h;obtain⟨a,n,g,p,rfl,e,ek,q⟩:=h;obtain⟨u,rfl,ru⟩:=vals1 r;cases ru;obtain⟨z,hd,c,C,dd⟩:=zbid I.hok e;obtain⟨ep,S⟩:∃ep,s.heap.DictAt (mixKind X.prog X.w) a c ep:=by
  obtain⟨o,Y,ep,h⟩:=dd;exact⟨ep,o,Y,h⟩
 obtain⟨oI,St,j,W,au⟩:=(W.kdl_dict (prog:=X.prog) (w:=X.w) (knd:=mixKind X.prog X.w) (kvs:=c) (ep:=ep) hd).iter X.A.in1 s (I.ok.hd hc) S;have J:c.map (·.1)=(n::g).map Sum.inl:=C.keys.symm.trans ek;have d:c.length=(n::g).length:=by have:=congrArg List.length J;simpa using this
 have f:∀i v,(∃k x,c[i]?=some (k,x)/\(mixKind X.prog X.w).is k v=true)->∃t,v=.int ((n::g).getD i 0) t:=λi v m=>by
  obtain⟨k,x,hi,G⟩:=m;have P:(c.map (·.1))[i]?=some k:=by rw[xcl,hi];rfl
  rw[J,xcl] at P;obtain⟨y,hy,rfl⟩:=xdc.mp P;rw[xbi,hy];rcases zbf (show keyIs (Sum.inl y) v=true from G) with⟨i,t,l,rfl⟩|⟨x,t,l,rfl⟩
  ·cases l;exact⟨t,rfl⟩
  ·cases l
 have A:a<s.heap.objs.size:=S.lt_size;refine call_max_walk (j _ _ ⟨s.heap.objs.size,_,_,_,_,St,_,rfl,W,au,λb hb=>?_,by rw[d];simp,CmpOf.ints_gt (λi=>(n::g).getD i 0) f,λv h' U hP G=>?_⟩)
 ·rw[xhb];have E:b=s.heap.objs.size\/b=a:=by simpa using hb
  rcases E with z|z
  ·rw[z];exact xjz _
  ·rw[z];exact xig A
 ·obtain⟨t,rfl⟩:=f _ _ hP;rw[d,zxh (by simp)];exact⟨.int (bestI true n g),H,I.kept (t':=U) λb u e=>G b u (by simp;exact xch (xbz e)) (xbh _ e),⟨_,rfl⟩,q⟩
def rPopI(_K:Fg):V->List V->Hp->VK->Prop:=λx c H Q=>∃(a:Addr) (k:Key) (v:V) (b:List (Key×V)),x=.ref a/\c=[kV k]/\H a=some (.dK b)/\valV b k=some v/\Q v (upd H a (.dK (dropK b k)))
theorem zbnh: MtR X "dict.pop" (rPopI X.K):=by
 intro n s σ H x p v j Q I i g h;obtain⟨a,k,d,b,rfl,rfl,e,l,q⟩:=h;cases i;obtain⟨u,rfl,f⟩:=g.one;exact zbyt I e f l (.inl rfl) λm o c r=>⟨d,_,c,r,q⟩
end L2
namespace Dd
open L2 PyProof.Rows
noncomputable def valI(a:List (Int×D)) (k:Int):Option D:=(a.find? λb=>decide (b.1=k)).map (·.2)
noncomputable def putI(a:List (Int×D)) (k:Int) (v:D):List (Int×D):=
 if(a.any λb=>decide (b.1=k))=true then a.map (λb=>if b.1=k then(b.1,v) else b) else a++[(k,v)]
noncomputable def dropI(a:List (Int×D)) (k:Int):List (Int×D):=a.filter λb=>decide (b.1≠k)
theorem inlI:(Sum.inl a:Key)=Sum.inl b↔a=b:=⟨λe=>Sum.inl.inj e,λe=>by rw[e]⟩
section
variable {K:Fg}{ρ:Loc}{H:Hp}{kvs:List (Int×D)}{vs:List (Key×V)}
theorem KiAt.val(h:KiAt K ρ H kvs vs)(k:Int):match valI kvs k with
  |some d=>∃v,valV vs (Sum.inl k)=some v/\At K ρ H d v
  |none=>valV vs (Sum.inl k)=none:=by
 induction h with
 |nil=>rfl
 |@cons p q ps qs h t ih=>
  obtain⟨b,f⟩:=h;by_cases e:p.1=k
  ·have a:valI (p::ps) k=some p.2:=by simp[valI,xfb,e]
   rw[a];exact⟨q.2,zhy (by rw[b,e]),f⟩
  ·have a:valI (p::ps) k=valI ps k:=by simp[valI,xfb,e]
   have c:valV (q::qs) (Sum.inl k)=valV qs (Sum.inl k):=zhz (by rw[b,inlI];exact e);rw[a,c];exact ih
theorem KiAt.keys(h:KiAt K ρ H kvs vs):vs.map (·.1)=(kvs.map (·.1)).map Sum.inl:=by
 induction h with
 |nil=>rfl
 |@cons p q ps qs h t ih=>rw[xbr,xbr,xbr,ih,h.1]
theorem KiAt.put(h:KiAt K ρ H kvs vs)(k:Int){d:D}{v:V}(a:At K ρ H d v):KiAt K ρ H (putI kvs k d) (putK vs (Sum.inl k) v):=by
 have b:∀{kvs:List (Int×D)}{vs:List (Key×V)},KiAt K ρ H kvs vs->(kvs.any λg=>decide (g.1=k))=(vs.any λg=>decide (g.1=Sum.inl k)):=λh=>by
  induction h with
  |nil=>rfl
  |@cons p q ps qs h t ih=>
   rw[xiy,xiy,ih,h.1]
   congr 1
   simp only[inlI]
 unfold putI putK;rw[b h];split
 ·rename_i j;clear j b
  induction h with
  |nil=>exact .nil
  |@cons p q ps qs h t ih=>
   refine .cons ?_ ih;obtain⟨c,i⟩:=h;dsimp only;by_cases e:p.1=k
   ·rw[if_pos e,if_pos (by rw[c,e])];exact⟨c,a⟩
   ·rw[if_neg e,if_neg (by rw[c,inlI];exact e)];exact⟨c,i⟩
 ·have f:∀{kvs:List (Int×D)}{vs:List (Key×V)},KiAt K ρ H kvs vs->KiAt K ρ H (kvs++[(k,d)]) (vs++[(Sum.inl k,v)]):=λh=>by
   induction h with
   |nil=>exact .cons ⟨rfl,a⟩ .nil
   |cons h t ih=>exact .cons h ih
  exact f h
theorem KiAt.drop(h:KiAt K ρ H kvs vs)(k:Int):KiAt K ρ H (dropI kvs k) (dropK vs (Sum.inl k)):=by
 unfold dropI dropK
 induction h with
 |nil=>exact .nil
 |@cons p q ps qs h t ih=>
  by_cases e:p.1=k
  ·rw[xcs (by simp[e]),xcs (by simp[h.1,e])];exact ih
  ·rw[xcp (by simp[e]),xcp (by simp[h.1,e])];exact .cons h ih
theorem KiAt.length(h:KiAt K ρ H kvs vs):kvs.length=vs.length:=xix h
end
section
variable {H:Hp}{vs:List (Key×V)}
theorem zqt{p:Addr}(g:H p=some (.dK vs)):∀a u,H p≠some (.frz a u):=λa u z=>by rw[g] at z;cases z
end
def eDNewI:SE:=λ_ a=>.ok (.ref a.length) (a++[.dI []])
def ePopI(f:SE) (g:SA):SE:=λσ c=>(f σ c).bind λx a=>match x with
 |.ref n=>match a[n]? with
  |some (.dI _)=>(g σ a).bind λd b=>match d,b[n]? with
   |[.int k],some (.dI kvs)=>match valI kvs k with
    |some v=>.ok v (b.set n (.dI (dropI kvs k)))
    |none=>.stuck
   |_,_=>.stuck
  |_=>.stuck
 |_=>.stuck
def eSetDI(f:SE) (g:SA):SE:=λσ c=>(f σ c).bind λx b=>match x with
 |.ref n=>match b[n]? with
  |some (.dI _)=>(g σ b).bind λe a=>match e,a[n]? with
   |[.int k,d],some (.dI kvs)=>if kvs.length<sizeLine then(match valI kvs k with
    |some v=>.ok v a
    |none=>.ok d (a.set n (.dI (putI kvs k d)))) else .stuck
   |_,_=>.stuck
  |_=>.stuck
 |_=>.stuck
def bMaxI:List D->Store->Res D:=λb a=>match b with
 |[.ref n]=>match a[n]? with
  |some (.dI kvs)=>match kvs.map (·.1) with
   |k::ks=>.ok (.int (bestI true k ks)) a
   |[]=>.stuck
  |_=>.stuck
 |_=>.stuck
def bTruI(f:SE):ST:=λσ b=>(f σ b).bind λv a=>match v with
 |.ref n=>match a[n]? with
  |some (.dI kvs)=>.ok (!kvs.isEmpty) a
  |_=>.stuck
 |_=>.stuck
theorem zbin:JE X (.Dict [] [] pos) eDNewI:=⟨zgc zbft λτ H Q b p d=>by
 obtain⟨ρ,σ,g,v,f,a,c,e,q⟩:=b;cases e;obtain⟨E,R⟩:=c.alloc d (x:=.dI []) (o:=.dK []) λE=>⟨[],zp,.nil⟩
 exact q _ _ _ E R (.last c.len.symm)⟩
section
variable {X:Cx}{o:Expr}{e:Expr}{a:Expr}{es:List Expr}{f:SE}{ga:SA}{apos:Pos}{cpos:Pos}
theorem zbpj(ho:JE X o f)(ha:JA X (e::es) ga)(c:attributeBase o "pop" X.env (eval o X.env)=eval o X.env:=by rfl)
  (h:((backTo cpos (starEach (e::es) X.env)).all (λx=>!x.1)&&(backToKw cpos (keywordEach [] X.env)).all (λx=>x.1.isSome)
   && decide ((e::es).length+([]:List Keyword).length+(if([]:List Keyword).isEmpty then 0 else 1)<30))=true:=by rfl)
  (d:(apos.endLine==cpos.line)=true:=by rfl)(hs:starEach (e::es) X.env=(false,eval e X.env)::starEach es X.env:=by rfl)(b:(backTo cpos (starEach es X.env)).any (·.1)=false:=by rfl):
  JE X (.Call (.Attribute o "pop" apos) (e::es) [] cpos) (ePopI f ga):=⟨zgc (zbqw xiu xjp F.type_dict_pop zbnh ho.out ha.out c h d hs b) λτ H Q m=>by
 obtain⟨ρ,σ,au,v,a6,a,P,e,q⟩:=m;obtain⟨x,l,U,e⟩:=za e;refine⟨ρ,σ,au,x,l,a,P,U,λρ1 H1 u G g I=>?_⟩;split at e
 ·rename_i n;split at e
  ·rename_i a4 h0;obtain⟨p,rfl,hp,a5,g0,_⟩:=zed g I h0 (by intro z;cases z);obtain⟨S,r,e2,e⟩:=za e;refine⟨.inr (.inr (.inl ⟨rfl,.inl ⟨_,g0⟩⟩)),ρ1,σ,l,S,r,a.ext G,g,e2,λC H2 ws t i a2=>?_⟩;split at e
   ·rename_i k a0 hn;split at e
    ·rename_i z hv;cases e;obtain⟨w,rfl,a3⟩:=a2.one;cases a3;obtain⟨p',Y,j,J,s,y⟩:=zed i (I.ext t) hn (by intro z;cases z);cases Y;have A:=y.val k;rw[hv] at A;obtain⟨vv,g5,g6⟩:=A;have E:Ext C H2 C (upd H2 p (.dK (dropK J (Sum.inl k)))):=Ext.wr j (zqt s) _;exact⟨p,Sum.inl k,vv,J,rfl,rfl,s,g5,q _ _ _ ((G.trans t).trans E) (i.wr j (zqt s) ⟨_,zp,(y.drop k).ext E⟩) (g6.ext E)⟩
    ·cases e
   ·cases e
  ·cases e
 ·cases e⟩
theorem zbik(ho:JE X o f)(ha:JA X (e::es) ga)(c:attributeBase o "setdefault" X.env (eval o X.env)=eval o X.env:=by rfl)
  (s:((backTo cpos (starEach (e::es) X.env)).all (λx=>!x.1)&&(backToKw cpos (keywordEach [] X.env)).all (λx=>x.1.isSome)
   && decide ((e::es).length+([]:List Keyword).length+(if([]:List Keyword).isEmpty then 0 else 1)<30))=true:=by rfl)
  (i:(apos.endLine==cpos.line)=true:=by rfl)(hs:starEach (e::es) X.env=(false,eval e X.env)::starEach es X.env:=by rfl)(b:(backTo cpos (starEach es X.env)).any (·.1)=false:=by rfl):
  JE X (.Call (.Attribute o "setdefault" apos) (e::es) [] cpos) (eSetDI f ga):=⟨zgc (zbqw xiu xmp F.type_dict_setdefault zbng ho.out ha.out c s i hs b) λτ H Q J=>by
 obtain⟨ρ,σ,au,v,a7,a,rp,e,q⟩:=J;obtain⟨x,A,e1,e⟩:=za e;refine⟨ρ,σ,au,x,A,a,rp,e1,λρ1 H1 u P m a1=>?_⟩;split at e
 ·rename_i n;split at e
  ·rename_i a5 h0;obtain⟨p,rfl,hp,a6,g0,_⟩:=zed m a1 h0 (by intro z;cases z);obtain⟨ys,S,e2,e⟩:=za e;refine⟨.inr (.inr (.inl ⟨rfl,.inl ⟨_,g0⟩⟩)),ρ1,σ,A,ys,S,a.ext P,m,e2,λρ2 H2 ws C g a2=>?_⟩;split at e
   ·rename_i k d a0 hn;split at e
    ·rename_i r;obtain⟨w,w2,rfl,a3,a4⟩:=a2.two;cases a3;obtain⟨p',ep,t,U,Y,G⟩:=zed g (a1.ext C) hn (by intro z;cases z);cases ep;have j:=G.val k;refine⟨p,Sum.inl k,w2,U,rfl,rfl,Y,by rw[←G.length];exact r,λy h=>?_,λh=>?_⟩
     ·split at e
      ·rename_i z l;cases e;rw[l] at j;obtain⟨vv,I,g6⟩:=j;rw[I] at h;cases h;exact q _ _ _ (P.trans C) g g6
      ·rename_i l;rw[l] at j;rw[show valV U (Sum.inl k)=none from j] at h;cases h
     ·split at e
      ·rename_i z l;rw[l] at j;obtain⟨vv,I,g6⟩:=j;rw[I] at h;cases h
      ·rename_i l;cases e;have E:Ext ρ2 H2 ρ2 (upd H2 p (.dK (putK U (Sum.inl k) w2))):=Ext.wr t (zqt Y) _;exact q _ _ _ ((P.trans C).trans E) (g.wr t (zqt Y) ⟨_,zp,(G.put k a4).ext E⟩) (a4.ext E)
    ·cases e
   ·cases e
  ·cases e
 ·cases e⟩
end
section
variable {e:Expr}{a:Expr}
theorem zbqi{K:Fg}:CaD K bMaxI rMaxDI:=λρ H t s o z l Q b h e q=>by
 unfold bMaxI at e;split at e
 ·split at e
  ·rename_i n c f;split at e
   ·rename_i k j g;cases e;obtain⟨u,rfl,a⟩:=h.one;obtain⟨p,rfl,r,i,m,d⟩:=zed b a f (by intro z;cases z);exact⟨p,k,j,i,rfl,.inl m,by rw[d.keys,g],q _ _ _ (.refl _ _) b (.int _)⟩
   ·cases e
  ·cases e
 ·cases e
end
section
variable {X:Cx}{e:Expr}{a:Expr}{f:SE}
theorem zbhs(h:JE X a f)(C:∀b,isTrue a X.env b=(do let v ←b;standAt a.pos;holding [v] (truthy v)):=by intro _;rfl):JT X a (bTruI f):=⟨zbjs (zuy h.out C) λτ H Q g=>by
 obtain⟨ρ,σ,w,v,y,i,l,e,q⟩:=g;obtain⟨x,j,o,e⟩:=za e;refine⟨ρ,σ,w,x,j,i,l,o,λI H1 u s c t=>?_⟩;split at e
 ·rename_i n;split at e
  ·rename_i d A;cases e;obtain⟨p,rfl,G,k,E,m⟩:=zed c t A (by intro z;cases z);have r:d.isEmpty=k.isEmpty:=by
    have:=m.length;cases d<;>cases k<;>simp at this ⊢
   exact⟨_,.inr (.inr ⟨k,E,by rw[r]⟩),q _ _ s c⟩
  ·cases e
 ·cases e⟩
end
end Dd
namespace L2
open Spec PyProof.Rows
end L2
namespace Dd
open L2 PyProof.Rows
end Dd
namespace L2
open Spec PyProof.Rows
end L2
namespace Dd
open Spec PyProof.Rows L2
end Dd
namespace L2
open Spec PyProof.Rows PySem.W
end L2
namespace Dd
open Spec PyProof.Rows L2
end Dd
namespace Dd
open L2 PyProof.Rows
theorem sv{X:Cx}(c:X.N[i]?=some x:=by rfl)(d:Vis X.env.scope x:=by first|exact Or.inl rfl|exact Or.inr (Or.inl rfl)|exact Or.inr (Or.inr rfl))(b:(x==("__debug__" : Str))=false:=by decide)
 (a:(x==("__classdict__" : Str))=false:=by decide):JE X (.Name x pos) (aA i):=zef (pv i c d b a)
theorem scl{X:Cx}(c:CalD X.prog X.w X.K X.mg X.base x k ps F)(n:Room j X.A)(q:JA X (e::es) g)(l:∀f r v d,F f r=.ok v d->f.length=ps.length:=by exact λ_ _ _ _ h=>zrb h)(o:k<=j:=by first|decide|lia)(i:Gl X x:=by rfl)
 (a:(x==("__debug__" : Str))=false:=by decide)(m:starEach (e::es) X.env=(false,eval e X.env)::starEach es X.env:=by rfl)(b:(backTo pos (starEach es X.env)).any (·.1)=false:=by rfl):JE X (.Call (.Name x p) (e::es) [] pos) (aE F g):=zrp c l (n.mono o) i q a m b
theorem sst{X:Cx}{a:Pos}(c:X.N.Nodup)(b:JE X e f)(d:X.N[i]?=some x:=by rfl)(h:L2.Loc X.env.scope x:=by first|exact Or.inl rfl|exact Or.inr rfl)(j:swapsWith e (some (.Name x pos')) a.line X.env=pure false:=by rfl)(g:X.fn x=true\/X.env.scope.names.lookup x=some .local:=by first|exact .inl rfl|exact .inr rfl|assumption):
 JS X (.Assign [.Name x pos'] e a) (aF i f):=zrk c d h b j g
theorem sgn{X:Cx}(c:X.N.Nodup)(d:X.N[i]?=some x:=by rfl)(b:L2.Loc X.env.scope x:=by first|exact Or.inl rfl|exact Or.inr rfl)(a:X.fn x=true\/X.env.scope.names.lookup x=some .local:=by first|exact .inl rfl|exact .inr rfl|assumption):JG X (.Name x pos) (gN i):=zbi c d b a
theorem sfr(d:JI X tg iter it)(a:JG X tg bd)(g:JB X body b)(c:PassesOwn (model X.prog X.w) X.A X.env X.xe:=by exact xkg)(f:X.calm=true:=by rfl)(e:∀x,foldedSetIterable iter X.env x=pure x:=by intro _;rfl):
 JS X (.For tg iter body [] pos) (sFor it bd b):=zbdp c f d a g e
theorem scp(N:List Str) (h:JI X (.Name x p) iter it)(g:∀d C b s H,JE (cxC X N scope d C b s H) elt f)(c:N.Nodup:=by decide +kernel)(S:CompScope X N k is scope:=by exact zem (by rfl))(a:X.calm=true:=by rfl)
  (e:N.Nodup->∀d C b s H,JG (cxC X N scope d C b s H) (.Name x p) (gN 0):=by exact λc _ _ _ _ _=>sgn c)(i:∀x,foldedSetIterable iter X.env x=pure x:=by intro _;rfl):JE X (.ListComp elt [⟨.Name x p,iter,[],0⟩] scope pos) (aG it k is (gN 0) aI f):=
 zfh a h (e c) (λ_ _ _ _ _=>zjc) g S i
theorem sa1(b:JE X a f)(c:plainE a=true:=by rfl):JA X [a] (aB f aC):=zu b zbr c
theorem sa2(d:JE X a f)(c:JE X b g)(e:plainE a=true:=by rfl)(h:plainE b=true:=by rfl):JA X [a,b] (aB f (aB g aC)):=zu d (sa1 c h) e
theorem sad(d:JE X a f)(c:JE X b g):JE X (.BinOp a .Add b pos) (aS aM f g):=zhj zbmu zbth d c
theorem ssb(d:JE X a f)(c:JE X b g):JE X (.BinOp a .Sub b pos) (aS oSub f g):=zhj zbsw (zsx λ_ _ _ _=>.int _) d c
structure En where
 P:Program
 w:World
 K:Fg
 mg:Str->Option Value
 base:Heap
 h:Heap
 X:K.In h
 G:h.Ns mainGlobals mg
abbrev Cl(Y:En) (x:Str) (k:Nat) (a:List Str) (F:DFn):Prop:=CalD Y.P Y.w Y.K Y.mg Y.base x k a F
section
variable {Y:En}{x:Str}{au:Stmt}{ps:List Str}{k:Nat}{b:SS}
theorem cmk(N:List Str)(T:TopF Y.K x au)(g:N.Nodup->∀(f:Addr) (d:Value) (A:Around) (e:List Env) (s:Shared) (H:Hp) (E:XK),Room k (A.deeper (envOfC x (defScope au) s.heap.objs.size f d))->JB (cxOf CX0 Y.P Y.w Y.K Y.mg Y.base N x (defScope au) f d A e s H E).nox (defBody au) b)
 (S:FnScope N ps (defScope au):=by exact⟨rfl,rfl,rfl,by decide +kernel,rfl,by decide +kernel,by decide +kernel⟩)
 (m:∀(kV h j:Value) (i:Option Addr) (d l:Value) (a:List Value),a.length=ps.length->bindArgs (W.fnOf x x (defArgs au) (defBody au) (defScope au) .none kV h j i d l) ⟨a,[]⟩=pure (ps.zip a):=by
  first|exact λ_ _ _ _ _ _ a c=>len1 a c λ_=>rfl|exact λ_ _ _ _ _ _ a c=>len2 a c λ_ _=>rfl|exact λ_ _ _ _ _ _ a c=>len3 a c λ_ _ _=>rfl|exact λ_ _ _ _ _ _ a c=>len4 a c λ_ _ _ _=>rfl|exact λ_ _ _ _ _ _ a c=>len0 a c rfl):
 Cl Y x (k+1) ps (fnD N.length ps.length b):=zxe T Y.X Y.G S m (g S.nd)
end
end Dd
namespace L2
open Spec PyProof.Rows PySem.W
end L2
namespace Dd
open L2 PyProof.Rows
end Dd
namespace L2
open Spec PyProof.Rows
end L2
namespace Dd
open L2 PyProof.Rows
end Dd
namespace L2
open Spec PyProof.Rows
end L2
namespace Dd
open L2 PyProof.Rows
end Dd
namespace L2
open Spec PyProof.Rows PySem.W
section
variable {K:Type}[DecidableEq K](knd:PySem.KeyKind prog w K)
variable {knd}
end
end L2
namespace Dd
open Spec PyProof.Rows PySem.W L2
end Dd
namespace Dd
open L2
def zgb:DFn:=fnD 5 2 (aD (aF 2 (eC (.int 0)))
 (aD (sIf (eB (aS oLtT (aA 1) (aE bLen (aB (aA 0) aC)))) (aF 2 (aE bAbs (aB (aS oIx (aA 0) (aA 1)) aC))) sNx)
 (aD (aF 3 (aS aM (aS oMulI (eC (.int 7919)) (aA 1)) (eC (.int 17))))
 (aD (sFor (iR1 (aB (aE bMin2 (aB (aE bLen (aB (aA 0) aC)) (aB (eC (.int 60)) aC))) aC)) (gN 4) (aF 3 (aS oMod (aS aM (aS aM (aS oMulI (aA 3) (eC (.int 48271))) (aS oMod (aS oIx (aA 0) (aA 4)) (eC (.int 2147483647)))) (aA 4)) (eC (.int 2147483629)))))
 (aD (sIf (eB (aS oLtT (aA 2) (aS oPow (eC (.int 10)) (eC (.int 18))))) (aF 2 (eC (.int 0))) sNx)
 (sRet (eLstM (aB (aA 2) (aB (aA 3) aC)))))))))
def zt:DFn:=fnD 5 2 (aD (sIf (eB (aS oGt (aS oIx (aA 0) (eC (.int 0))) (eC (.int 0)))) (aD (aF 2 (aS oMod (aS oIx (aA 0) (eC (.int 0))) (aA 1)))
 (aD (sSetIx (aA 0) (eC (.int 0)) (aS oFdiv (aS oIx (aA 0) (eC (.int 0))) (aA 1)))
 (sRet (aA 2)))) sNx)
 (aD (aF 3 (eC (.int 0)))
 (aD (aF 4 (eC (.int 1)))
 (aD (sWhile (eB (aS oLtT (aA 4) (aA 1))) (aD (sSetIx (aA 0) (eC (.int 1)) (aS oMod (aS aM (aS oMulI (aS oIx (aA 0) (eC (.int 1))) (eC (.int 48271))) (eC (.int 7919))) (eC (.int 2147483647))))
 (aD (aF 3 (aS aM (aS oMulI (aA 3) (eC (.int 1073741789))) (aS oMod (aS oMulI (aS oFdiv (aS oIx (aA 0) (eC (.int 1))) (eC (.int 8))) (eC (.int 69621))) (eC (.int 1073741789)))))
 (aF 4 (aS oMulI (aA 4) (eC (.int 1073741789)))))))
 (sRet (aS oMod (aA 3) (aA 1)))))))
def zfb:DFn:=fnD 2 2 (sIf (eB (aS (oDIn false) (aA 1) (aA 0))) (sDrop (eDPop (aA 0) (aA 1))) (sDPut (aA 0) (aA 1) (eC (.bl true))))
def zfo:SS:=(sDPut (aA 1) (aA 2) (eNot (eDGet2 (aA 1) (aA 2) (eC (.bl false)))))
def zbe:DFn:=fnD 3 1 (aD (aF 1 eDNew)
 (aD (sFor (aH (aA 0)) (gN 2) zfo)
 (sRet (aE bTuple (aB (aE bSorted (aB (aG (iDict (aA 1)) 1 [1] (gN 0) (eTru (aS oDGet (aA 1) (aA 0))) (aA 0)) aC)) aC)))))
def zdy:SS:=(sDPut (aA 1) (aA 2) (eC (.bl true)))
def zfa:DFn:=fnD 3 1 (aD (aF 1 eDNew)
 (aD (sFor (aH (aA 0)) (gN 2) zdy)
 (sRet (aA 1))))
def zfy:DFn:=fnD 2 2 (sRet (aS oEq (aS oAndI (aA 0) (aA 1)) (aA 1)))
def zcc:SS:=(sIf (eTru (aE zfy (aB (aS oSub (aS oSub (aA 1) (aA 3)) (eC (.int 1))) (aB (aS oSub (aA 0) (aS oMulI (eC (.int 2)) (aA 3))) aC)))) (sDrop (eAppend (aA 2) (aB (eIf (eB (aS oGt (aA 3) (eC (.int 0)))) (aR (aB (aS oSub (aS aM (aA 0) (aA 1)) (aA 3)) (aB (aA 3) aC))) (aR (aB (aS aM (aA 0) (aA 1)) aC))) aC))) sNx)
def zbu:DFn:=fnD 4 2 (aD (aF 2 (eLstM aC))
 (aD (sFor (iR1 (aB (aS aM (aS oFdiv (aA 0) (eC (.int 2))) (eC (.int 1))) aC)) (gN 3) zcc)
 (sRet (aE bSorted (aB (aA 2) aC)))))
def zbd:DFn:=fnD 4 2 (aD (aF 2 (eSl (aA 0) pNone (pSome (aA 1))))
 (aD (aF 3 (eSl (aA 0) (pSome (aS aM (aA 1) (eC (.int 2)))) pNone))
 (sRet (aG (aH (aE zbu (aB (aS oIx (aA 0) (aA 1)) (aB (aS oIx (aA 0) (aS aM (aA 1) (eC (.int 1)))) aC)))) 1 [3,2] (gN 0) aI (aS aM (aS aM (aA 2) (aA 0)) (aA 1))))))
def zbc:DFn:=fnD 1 1 (sRet (eAnd (aE bIsinst (aB (aA 0) (aB (eC (.ty "int")) aC))) (eNot (aE bIsinst (aB (aA 0) (aB (eC (.ty "bool")) aC))))))
def zdm:DFn:=fnD 2 2 (sRet (eAnd (aE bIsinst (aB (aA 1) (aB (eC (.ty "tuple")) aC))) (eAnd (aE (bAny true) (aB (aG (aH (aA 1)) 1 [] (gN 0) aI (aE zbc (aB (aA 0) aC))) aC)) (aS (oDIn false) (aA 1) (aA 0)))))
def zci:DFn:=fnD 2 2 (sRet (aS oLtT (aA 0) (aS oMulI (eC (.int 2)) (aA 1))))
def zbw:DFn:=fnD 2 2 (aD (sIf (bOr (bNot (eTru (aE zbc (aB (aA 1) aC)))) (bNot (eB (eChain oLe oLtT (eC (.int 0)) (aA 1) (aS oSub (aE bLen (aB (aA 0) aC)) (eC (.int 1))))))) (sRet (eC (.bl false))) sNx)
 (sRet (aE zci (aB (aS oIx (aA 0) (aA 1)) (aB (aS oIx (aA 0) (aS aM (aA 1) (eC (.int 1)))) aC)))))
def zct:SS:=(sDrop (aE zfb (aB (aA 0) (aB (aA 3) aC))))
def zcy:DFn:=fnD 4 3 (aD (sIf (bNot (eTru (aE zdm (aB (aA 0) (aB (aA 1) aC))))) sStuck sNx)
 (aD (sIf (bNot (eTru (aE zbw (aB (aA 1) (aB (aA 2) aC))))) sStuck sNx)
 (aD (sDrop (aE zfb (aB (aA 0) (aB (aA 1) aC))))
 (sFor (aH (aE zbd (aB (aA 1) (aB (aA 2) aC)))) (gN 3) zct))))
def zmc:DFn:=fnD 1 1 (sRet (aG (iR1 (aB (aS oSub (aE bLen (aB (aA 0) aC)) (eC (.int 1))) aC)) 1 [0] (gN 0) (eTru (aE zbw (aB (aA 1) (aB (aA 0) aC)))) (aA 0)))
def zgu:DFn:=fnD 1 1 (sRet (aE bSum (aB (aG (iEnum (aA 0)) 2 [] (gT 2 (gsCons (gN 0) (gsCons (gN 1) gsNil))) aI (aS oMulI (aA 0) (aA 1))) aC)))
def zcr:SS:=(aD (sDrop (eAppend (aA 4) (aB (aE zt (aB (aA 0) (aB (aS aM (aA 3) (eC (.int 1))) aC))) aC)))
 (aF 3 (aS oSub (aA 3) (aS oIx (aA 4) (eUn oNeg (eC (.int 1)))))))
def zcx:DFn:=fnD 7 3 (aD (aF 3 (aE zt (aB (aA 0) (aB (aS aM (aA 2) (eC (.int 1))) aC))))
 (aD (sIf (eB (aS oEq (aE zt (aB (aA 0) (aB (eC (.int 2)) aC))) (eC (.int 0)))) (aF 3 (aA 2)) sNx)
 (aD (aF 4 (eLstM aC))
 (aD (sFor (iR1 (aB (aS oSub (aA 1) (eC (.int 1))) aC)) (gN 5) zcr)
 (aD (sDrop (eAppend (aA 4) (aB (aA 3) aC)))
 (aD (aF 6 (aE zt (aB (aA 0) (aB (aA 1) aC))))
 (sRet (aE bTuple (aB (aS aM (eSl (aA 4) (pSome (aA 6)) pNone) (eSl (aA 4) pNone (pSome (aA 6)))) aC)))))))))
def zga:DFn:=fnD 4 4 (sRet (aE zbe (aB (aG (iR1 (aB (aE zt (aB (aA 0) (aB (aS aM (aA 2) (eC (.int 1))) aC))) aC)) 1 [0,1,3] (gN 0) aI (aE zcx (aB (aA 1) (aB (aA 2) (aB (aA 3) aC))))) aC)))
def zkn:SS:=(aD (sIf (eB (aS oGe (aA 4) (aA 1))) (sDrop (eAppend (aA 3) (aB (aA 4) aC))) sNx)
 (aD (sIf (eB (aS oEq (aA 4) (aA 0))) sBrk sNx)
 (aF 4 (aS oAndI (aS oSub (aA 4) (aA 0)) (aA 0)))))
def zmb:DFn:=fnD 5 3 (aD (aF 3 (eLstM aC))
 (aD (aF 4 (eC (.int 0)))
 (aD (sWhile (eB (aS oLe (aA 4) (aA 2))) zkn)
 (sRet (eFz (aA 3))))))
def zdo:SS:=(sDrop (eAppend (aA 3) (aB (aR (aB (aS aM (aA 4) (aR (aB (aS aM (aA 1) (aA 6)) aC))) (aB (aS oSub (aA 5) (aA 6)) aC))) aC)))
def zdn:SS:=(sFor (aH (aE zmb (aB (aA 1) (aB (aS oSub (aA 5) (aA 2)) (aB (aA 5) aC))))) (gN 6) zdo)
def zbz:DFn:=fnD 7 3 (aD (aF 3 (eLstM aC))
 (aD (sFor (aH (aA 0)) (gT 2 (gsCons (gN 4) (gsCons (gN 5) gsNil))) zdn)
 (sRet (eFz (aA 3)))))
def zcw:SS:=(aD (sAug 3 (oI (λ_ _=>True) λi j=>.int (i-j)) (aA 4))
 (aF 2 (aE zbz (aB (aA 2) (aB (aA 4) (aB (aA 3) aC))))))
def zbv:DFn:=fnD 5 2 (aD (aF 2 (eLst (aB (aR (aB (aR aC) (aB (aA 1) aC))) aC)))
 (aD (aF 3 (aE bSum (aB (aA 0) aC)))
 (aD (sFor (aH (aA 0)) (gN 4) zcw)
 (sRet (aG (aH (aA 2)) 2 [] (gT 2 (gsCons (gN 0) (gsCons (gN 1) gsNil))) aI (aA 0))))))
def zkp:SS:=(sDrop (aE zfb (aB (aA 2) (aB (aA 4) aC))))
def zko:SS:=(sIf (eB (aS oLe (aA 1) (aE bSum (aB (aA 3) aC)))) (sFor (aH (aE zbv (aB (aA 3) (aB (aA 1) aC)))) (gN 4) zkp) sNx)
def zgt:DFn:=fnD 5 2 (aD (sIf (bOr (bNot (eTru (aE zbc (aB (aA 1) aC)))) (eB (aS oLtT (aA 1) (eC (.int 0))))) sStuck sNx)
 (aD (aF 2 eDNew)
 (aD (sFor (aH (aA 0)) (gN 3) zko)
 (sRet (aE bTuple (aB (aE bSorted (aB (aA 2) aC)) aC))))))
def zhf:SS:=(sDrop (aE zfb (aB (aA 1) (aB (aA 2) aC))))
def zfz:DFn:=fnD 3 1 (aD (aF 1 eDNew)
 (aD (sFor (aH (aA 0)) (gN 2) zhf)
 (sRet (aE bTuple (aB (aE bSorted (aB (aA 1) aC)) aC)))))
def znv:DFn:=fnD 2 2 (sRet (aE zfz (aB (aS aM (aA 0) (aA 1)) aC)))
def zfj:SS:=(sDrop (aE zfb (aB (aA 2) (aB (aE bTuple (aB (aG (iZipT (aB (aA 3) (aB (aA 4) aC))) 2 [] (gT 2 (gsCons (gN 0) (gsCons (gN 1) gsNil))) aI (aS aM (aA 0) (aA 1))) aC)) aC))))
def zfi:SS:=(sFor (aH (aA 1)) (gN 4) zfj)
def zdz:DFn:=fnD 5 2 (aD (aF 2 eDNew)
 (aD (sFor (aH (aA 0)) (gN 3) zfi)
 (sRet (aE bTuple (aB (aE bSorted (aB (aA 2) aC)) aC)))))
def zfk:SS:=(sDrop (eExtend (aA 6) (aB (aG (iR1 (aB (aS aM (aE bMin2 (aB (aA 5) (aB (aA 8) aC))) (eC (.int 1))) aC)) 1 [7,8,5] (gN 0) (eB (aS oEq (aS oAndI (aA 3) (aA 0)) (aA 0))) (aR (aB (aS aM (aA 1) (aR (aB (aS aM (aA 3) (aA 0)) aC))) (aB (aS oSub (aA 2) (aA 0)) aC)))) aC)))
def zdc:SS:=(aD (aF 6 (eLstM aC))
 (aD (sFor (aH (aA 4)) (gT 2 (gsCons (gN 7) (gsCons (gN 8) gsNil))) zfk)
 (aF 4 (eFz (aA 6)))))
def zdb:SS:=(aD (aF 4 (eLst (aB (aR (aB (aR aC) (aB (aA 1) aC))) aC)))
 (aD (sFor (aH (aA 3)) (gN 5) zdc)
 (sDrop (eExtend (aA 2) (aB (aG (aH (aA 4)) 2 [] (gT 2 (gsCons (gN 0) (gsCons (gN 1) gsNil))) (eB (aS oEq (aA 1) (eC (.int 0)))) (aA 0)) aC)))))
def zbp:DFn:=fnD 9 2 (aD (aF 2 (eLstM aC))
 (aD (sFor (aH (aA 0)) (gN 3) zdb)
 (sRet (aE zbe (aB (eFz (aA 2)) aC)))))
def zsd:DFn->SS:=λa=>(aD (aF 4 (aE zgt (aB (aA 1) (aB (aA 3) aC))))
 (sIf (eTru (aA 4)) (aD (aF 5 (aG (aH (aA 0)) 1 [3] (gN 0) (bAnd (eTru (aA 0)) (eB (aS oEq (aS oIx (aA 0) (eUn oNeg (eC (.int 1)))) (aA 1)))) (eSl (aA 0) pNone (pSome (eUn oNeg (eC (.int 1)))))))
 (aF 2 (aE znv (aB (aA 2) (aB (aE a (aB (aA 5) (aB (aA 4) aC))) aC))))) sNx))
def zpw:DFn->DFn:=λa=>fnD 6 2 (aD (aF 2 (eIf (eB (aS (oInG false) (aR aC) (aA 0))) (aA 1) (aR aC)))
 (aD (sFor (aH (aE bSortSet (aB (aG (aH (aA 0)) 1 [] (gN 0) (eTru (aA 0)) (aS oIx (aA 0) (eUn oNeg (eC (.int 1))))) aC))) (gN 3) (zsd a))
 (sRet (aA 2))))
def zbm:SS:=(sDrop (eExtend (aA 3) (aB (aG (aH (aS oIx (aA 1) (aS oSub (aA 2) (aA 4)))) 1 [4] (gN 0) aI (aS aM (aR (aB (aA 1) aC)) (aA 0))) aC)))
def zhe:SS:=(sDrop (aE zcy (aB (aA 2) (aB (aA 3) (aB (aA 4) aC)))))
def zht:DFn:=fnD 5 2 (aD (aF 2 (aE zfa (aB (aA 0) aC)))
 (aD (sFor (aH (aA 1)) (gT 2 (gsCons (gN 3) (gsCons (gN 4) gsNil))) zhe)
 (sRet (aE bTuple (aB (aE bSorted (aB (aA 2) aC)) aC)))))
def zcs:DFn:=fnD 2 2 (sDrop (aE zfb (aB (eSetDI (aA 0) (aB (aE zgu (aB (aA 1) aC)) (aB eDNew aC))) (aB (aA 1) aC))))
def zma:SS:=(sDrop (aE zcs (aB (aA 1) (aB (aA 2) aC))))
def zpu:SS:=(sDrop (aE zcs (aB (aA 1) (aB (aA 6) aC))))
def zpt:SS:=(aD (aF 5 (aE zmc (aB (aA 2) aC)))
 (sIf (eTru (aA 5)) (aD (sDrop (eAppend (aA 3) (aB (aR (aB (aA 2) (aB (aS oIx (aA 5) (eC (.int 0))) aC))) aC)))
 (sFor (aH (aE zbd (aB (aA 2) (aB (aS oIx (aA 5) (eC (.int 0))) aC)))) (gN 6) zpu)) sNx))
def zps:SS:=(aD (aF 4 (ePopI (aA 1) (aB (aE bMaxI (aB (aA 1) aC)) aC)))
 (sFor (aH (aE bSorted (aB (aA 4) aC))) (gN 2) zpt))
def zbrc:DFn:=fnD 7 1 (aD (aF 1 eDNewI)
 (aD (sFor (aH (aA 0)) (gN 2) zma)
 (aD (aF 3 (eLstM aC))
 (aD (sWhile (bTruI (aA 1)) zps)
 (sRet (eFz (aA 3)))))))
def zhu:DFn:=fnD 1 1 (sRet (aE zht (aB (aA 0) (aB (aE zbrc (aB (aA 0) aC)) aC))))
def zec:SS:=(aD (aF 3 (eLstM aC))
 (aD (sFor (iR2 (aB (eC (.int 1)) (aB (aS aM (aA 2) (eC (.int 1))) aC))) (gN 4) zbm)
 (sDrop (eAppend (aA 1) (aB (aE zhu (aB (aE bTuple (aB (aA 3) aC)) aC)) aC)))))
def zch:DFn:=fnD 5 1 (aD (aF 1 (eLstM (aB (aR (aB (aR aC) aC)) aC)))
 (aD (sFor (iR2 (aB (eC (.int 1)) (aB (aS aM (aA 0) (eC (.int 1))) aC))) (gN 2) zec)
 (sRet (eFz (aA 1)))))
def zer:SS:=(sDrop (eAppend (aA 2) (aB (aE bTuple (aB (aG (iZipT (aB (aA 3) (aB (aA 4) aC))) 2 [] (gT 2 (gsCons (gN 0) (gsCons (gN 1) gsNil))) aI (aS aM (aA 0) (aA 1))) aC)) aC)))
def zeq:SS:=(sFor (aH (aA 1)) (gN 4) zer)
def zcq:DFn:=fnD 5 2 (aD (aF 2 (eLstM aC))
 (aD (sFor (aH (aA 0)) (gN 3) zeq)
 (sRet (aE zbe (aB (eFz (aA 2)) aC)))))
end Dd
namespace L2
namespace St
end St
namespace St
end St
end L2
namespace L2
open PySem.W PyProof.Rows Spec
namespace St
section
variable (P:Program)(w:World)
end
end St
namespace St
end St
namespace St
end St
end L2
namespace L2
open Spec PyProof.Rows PySem.W
end L2
namespace Dd
open L2 PyProof.Rows
end Dd
namespace L2
open Spec PyProof.Rows PySem.W
end L2
namespace Dd
open L2 PyProof.Rows
end Dd
namespace Dd
open L2
def zep:DFn:=fnD 4 3 (aD (sIf (bOr (bNot (eTru (aE zbc (aB (aA 0) aC)))) (bNot (eB (eChain oLe oLe (eC (.int 0)) (aA 0) (eC (.int 8)))))) sStuck sNx)
 (aD (aF 3 (aE zch (aB (aA 0) aC)))
 (sRet (aG (iR1 (aB (aS aM (aA 0) (eC (.int 1))) aC)) 1 [2,1,3,0] (gN 0) aI (aR (aB (aA 0) (aB (aE zdz (aB (aE (iterF zpw 8) (aB (aS oIx (aA 3) (aS oSub (aA 4) (aA 0))) (aB (aA 2) aC))) (aB (aA 1) aC))) aC)))))))
def zpv:SS:=(sDrop (eExtend (aA 9) (aB (aE bList (aB (aE zbp (aB (aA 11) (aB (aA 10) aC))) aC)) aC)))
def zya:SS:=(aD (aF 2 (aE zgb (aB (aA 0) (aB (aA 1) aC))))
 (aD (aF 3 (aS aM (aS aM (eC (.int 1)) (aE zt (aB (aA 2) (aB (eC (.int 3)) aC)))) (aS oMulI (eC (.int 3)) (aE bInt (aB (aS oEq (aE zt (aB (aA 2) (aB (eC (.int 4)) aC))) (eC (.int 1))) aC)))))
 (aD (sSetG (gT 2 (gsCons (gN 4) (gsCons (gN 5) gsNil))) (aS oIx (eLst (aB (aR (aB (eC (.int 4)) (aB (eC (.int 10)) aC))) (aB (aR (aB (eC (.int 2)) (aB (eC (.int 4)) aC))) aC))) (aE bInt (aB (aS oGt (aA 3) (eC (.int 3))) aC))))
 (aD (aF 6 (aE zga (aB (aA 2) (aB (aA 3) (aB (aA 4) (aB (aA 5) aC))))))
 (aD (aF 7 (aE zga (aB (aA 2) (aB (aA 3) (aB (aA 4) (aB (aA 5) aC))))))
 (aD (aF 8 (aE zt (aB (aA 2) (aB (eC (.int 9)) aC))))
 (aD (aF 9 (eLstM aC))
 (aD (sFor (aH (aE zep (aB (aA 8) (aB (aA 6) (aB (aA 7) aC))))) (gT 2 (gsCons (gN 10) (gsCons (gN 11) gsNil))) zpv)
 (sIf (eB (aS oNe (aE zbe (aB (eFz (aA 9)) aC)) (aE zcq (aB (aA 6) (aB (aE zbp (aB (aA 7) (aB (aA 8) aC))) aC))))) (sRet (eC (.bl false))) sNx)))))))))
def zbwh:DFn:=fnD 12 1 (aD (sFor (iR1 (aB (aS aM (aE bMin2 (aB (eC (.int 3)) (aB (aE bLen (aB (aA 0) aC)) aC))) (eC (.int 1))) aC)) (gN 1) zya)
 (sRet (eC (.bl true))))
noncomputable def RngOk(j:Int):Prop:=-(2^62)<=j/\j<2^62
instance (j:Int):Decidable (RngOk j):=by unfold RngOk;infer_instance
theorem rngOk(a:-1000000000000<=j)(b:j<=1000000000000):RngOk j:=⟨by lia,by lia⟩
@[simp] theorem eC_v:eC d σ au=.ok d au:=rfl
@[simp] theorem zbon:aA i σ au=(match σ[i]? with
 |some (some d)=>.ok d au
 |_=>.stuck):=rfl
@[simp] theorem zbyk:aS g f f' σ au=(f σ au).bind λx a=>(f' σ a).bind λy st2=>g x y st2:=rfl
@[simp] theorem zbzh:eUn g f σ au=(f σ au).bind λx st1=>g x st1:=rfl
@[simp] theorem zff:aE g f σ au=(f σ au).bind λa st1=>g a st1:=rfl
@[simp] theorem zbqo:aC σ au=.ok [] au:=rfl
@[simp] theorem zjh:aB f g σ au=(f σ au).bind λx a=>(g σ a).bind λb st2=>.ok (x::b) st2:=rfl
@[simp] theorem eB_v:eB f σ au=(f σ au).bind λv a=>(match v with
 |.bl b=>.ok b a
 |_=>.stuck):=rfl
@[simp] theorem zwr:eTru f σ au=(f σ au).bind λv a=>(match tru a v with
 |some b=>.ok b a
 |none=>.stuck):=rfl
@[simp] theorem zbhq:eAnd f f' σ au=(f σ au).bind λv a=>(match v with
 |.bl true=>f' σ a
 |.bl false=>.ok (.bl false) a
 |_=>.stuck):=rfl
@[simp] theorem zbyj:eOr f f' σ au=(f σ au).bind λv a=>(match v with
 |.bl true=>.ok (.bl true) a
 |.bl false=>f' σ a
 |_=>.stuck):=rfl
@[simp] theorem zboo:eNot f σ au=(f σ au).bind λv a=>(match v with
 |.bl b=>.ok (.bl (!b)) a
 |_=>.stuck):=rfl
@[simp] theorem zbwa:bAnd f f' σ au=(f σ au).bind λb st1=>if b=true then f' σ st1 else .ok false st1:=rfl
@[simp] theorem zbzd:bOr f f' σ au=(f σ au).bind λb st1=>if b=true then .ok true st1 else f' σ st1:=rfl
@[simp] theorem zbqh:bNot f σ au=(f σ au).bind λb st1=>.ok (!b) st1:=rfl
@[simp] theorem zbzc:aI σ au=.ok true au:=rfl
@[simp] theorem zbyl:eIf c f f' σ au=(c σ au).bind λb st1=>if b=true then f σ st1 else f' σ st1:=rfl
@[simp] theorem zbug:aR g σ au=(g σ au).bind λb a=>if b.length<=sizeLine then .ok (.tup b) a else .stuck:=rfl
@[simp] theorem zbuh:eLst g σ au=(g σ au).bind λb a=>if b.length<=sizeLine then .ok (.lst b) a else .stuck:=rfl
@[simp] theorem zbop:eLstM g σ au=(g σ au).bind λb a=>if b.length<=sizeLine then .ok (.ref a.length) (a++[.lst b]) else .stuck:=rfl
@[simp] theorem zbui:eChain g g' f f' f'' σ au=(f σ au).bind λx c=>(f' σ c).bind λy d=>(g x y d).bind λz a=>(match z with
 |.bl true=>(f'' σ a).bind λw b=>g' y w b
 |.bl false=>.ok (.bl false) a
 |_=>.stuck):=rfl
@[simp] theorem zbwz:eDNew σ au=.ok (.ref au.length) (au++[.dT []]):=rfl
@[simp] theorem zbzg:sNx σ au=.ok (.nx σ) au:=rfl
@[simp] theorem zbxn:sBrk σ au=.ok (.brk σ) au:=rfl
@[simp] theorem zun:sRet f σ au=(f σ au).bind λv st1=>.ok (.ret v) st1:=rfl
@[simp] theorem zbwn:sRetN σ au=.ok (.ret .non) au:=rfl
@[simp] theorem zbcf:sDrop f σ au=(f σ au).bind λ_ st1=>.ok (.nx σ) st1:=rfl
@[simp] theorem zbxm:aF i f σ au=(f σ au).bind λv st1=>.ok (.nx (σ.set i (some v))) st1:=rfl
@[simp] theorem zbrv:aD s t σ au=(match s σ au with
 |.ok (.nx σ1) st1=>t σ1 st1
 |r=>r):=rfl
@[simp] theorem zbrx:sIf c s t σ au=(c σ au).bind λb st1=>if b=true then s σ st1 else t σ st1:=rfl
@[simp] theorem zbry:sAug i g f σ au=(match σ[i]? with
 |some (some x)=>(f σ au).bind λy a=>(g x y a).bind λz b=>.ok (.nx (σ.set i (some z))) b
 |_=>.stuck):=rfl
@[simp] theorem zblb:sFor it bd body σ au=(it σ au).bind λa st1=>forF bd body a σ st1:=rfl
@[simp] theorem zboj:aH f σ au=(f σ au).bind λx a=>(match seqV x with
 |some xs=>.ok xs a
 |none=>.stuck):=rfl
@[simp] theorem zbyg:iR1 g σ au=(g σ au).bind λb a=>(match b with
 |[.int j]=>if RngOk j then .ok (rng 0 j.toNat) a else .stuck
 |_=>.stuck):=rfl
@[simp] theorem zbyf: iR2 g σ au=(g σ au).bind λb a=>(match b with
  |[.int i,.int j]=>if RngOk i/\RngOk j then .ok (rng i (j-i).toNat) a else .stuck
  |_=>.stuck):=by
  show(g σ au).bind _=_
  congr 1
  funext b a
  split
  · unfold RngOk
    simp only[and_assoc]
  · rename_i h
    first
      |rfl
      | (split
         · rename_i i j
           exact absurd rfl (h i j)
         · rfl)
@[simp] theorem zbww:iDict f σ au=(f σ au).bind λx a=>(match x with
 |.ref n=>(match a[n]? with
  |some (.dT kvs)=>.ok (aJ (kvs.map (·.1))) (a.set n (.fT kvs))
  |_=>.stuck)
 |_=>.stuck):=rfl
@[simp] theorem zkj:aG it k is bd c f σ au=(it σ au).bind λd a=>if d.length<=sizeLine then(compF bd c f d (aT k is σ) a).bind λe b=>.ok (.lst e) b else .stuck:=rfl
@[simp] theorem zbym:eFz f σ au=(f σ au).bind λx a=>(match x with
 |.ref n=>(match a[n]? with
  |some (.lst xs)=>.ok (.lst xs) (a.set n .dead)
  |_=>.stuck)
 |_=>.stuck):=rfl
@[simp] theorem zbwu:pNone σ au=.ok none au:=rfl
@[simp] theorem zbmn:pSome f σ au=(f σ au).bind λv a=>(match v with
 |.int i=>.ok (some i) a
 |_=>.stuck):=rfl
@[simp] theorem zbyi {lo:DS->Store->Res (Option Int)}:eSl f lo hi σ au=(f σ au).bind λx b=>(lo σ b).bind λl c=>(hi σ c).bind λh a=>(match x with
 |.tup xs=>.ok (.tup (cutD xs l h)) a
 |x=>match asL a x with
  |some xs=>.ok (.lst (cutD xs l h)) a
  |none=>.stuck):=rfl
@[simp] theorem zbar:eAppend f g σ au=(f σ au).bind λx a=>(match x,asL a x with
 |.ref n,some _=>(g σ a).bind λc b=>(match c,b[n]? with
  |[y],some (.lst xs)=>if xs.length<sizeLine then .ok .non (b.set n (.lst (xs++[y]))) else .stuck
  |_,_=>.stuck)
 |_,_=>.stuck):=rfl
@[simp] theorem zbaq:eExtend f g σ au=(f σ au).bind λx b=>(match x,asL b x with
 |.ref n,some _=>(g σ b).bind λc a=>(match c,a[n]? with
  |[y],some (.lst xs)=>(match asL a y with
   |some zs=>if xs.length+zs.length<=sizeLine then .ok .non (a.set n (.lst (xs++zs))) else .stuck
   |none=>.stuck)
  |_,_=>.stuck)
 |_,_=>.stuck):=rfl
@[simp] theorem zbfa:sSetIx f g h σ au=(h σ au).bind λv b=>(f σ b).bind λx c=>(g σ c).bind λy a=>(match x,y with
 |.ref n,.int k=>(match a[n]? with
  |some (.lst xs)=>(match ixN xs.length k with
   |some j=>.ok (.nx σ) (a.set n (.lst (xs.set j v)))
   |none=>.stuck)
  |_=>.stuck)
 |_,_=>.stuck):=rfl
@[simp] theorem zbhp:eDGet2 f g h σ au=(f σ au).bind λx b=>(match pairsOf b x with
 |some _=>(g σ b).bind λy c=>(h σ c).bind λz a=>(match pairsOf a x,keyOf y with
  |some kvs,some k=>.ok ((valD kvs k).getD z) a
  |_,_=>.stuck)
 |none=>.stuck):=rfl
@[simp] theorem zbwy:eDPop f g σ au=(f σ au).bind λx a=>(match pairsOf a x with
 |some _=>(g σ a).bind λy b=>(match x,keyOf y with
  |.ref n,some k=>(match b[n]? with
   |some (.dT kvs)=>(match valD kvs k with
    |some v=>.ok v (b.set n (.dT (dropD kvs k)))
    |none=>.stuck)
   |_=>.stuck)
  |_,_=>.stuck)
 |none=>.stuck):=rfl
@[simp] theorem zbcg:sDPut f g h σ au=(h σ au).bind λv b=>(f σ b).bind λx c=>(g σ c).bind λy a=>(match x,keyOf y with
 |.ref n,some k=>(match a[n]? with
  |some (.dT kvs)=>if kvs.length<sizeLine then .ok (.nx σ) (a.set n (.dT (putD kvs k v))) else .stuck
  |_=>.stuck)
 |_,_=>.stuck):=rfl
theorem zbwx:fnD n np b ds au=if ds.length=np then(match b (ds.map some++List.replicate (n-np) none) au with
 |.ok (.ret v) st'=>.ok v st'
 |.ok (.nx _) st'=>.ok .non st'
 |.exc x st'=>.exc x st'
 |_=>.stuck) else .stuck:=rfl
@[simp] theorem oI_v [DecidableRel C]:oI C h (.int i) (.int j) au=if C i j then .ok (h i j) au else .stuck:=rfl
@[simp] theorem zbye:aM (.int i) (.int j) au=.ok (.int (i+j)) au:=rfl
@[simp] theorem zbmz:aM (.tup a) (.tup b) au=if a.length+b.length<=sizeLine then .ok (.tup (a++b)) au else .stuck:=rfl
@[simp] theorem zbya:oLtT (.int i) (.int j) au=.ok (.bl (decide (i<j))) au:=rfl
@[simp] theorem zbxy:oNeg (.int i) au=.ok (.int (-i)) au:=rfl
@[simp] theorem zdl (ns:List Int):asInts (ns.map .int)=some ns:=by
 induction ns with
 |nil=>rfl
 |cons n ns ih=>rw[xbr,asInts,ih];rfl
@[simp] theorem zbql (l:List (List Int)):asRows (aJ l)=some l:=by
 induction l with
 |nil=>rfl
 |cons n ns ih=>
  unfold aJ at ih ⊢;rw[xbr,asRows,zdl,ih];rfl
@[simp] theorem zew (ns:List Int):keyOf (aL ns)=some ns:=zdl ns
theorem zlu:dataOf au (.int i)=some (.int i):=rfl
@[simp] theorem zbyd:oEq (.int i) (.int j) au=.ok (.bl (decide (i=j))) au:=by
 show oEqG false (.int i) (.int j) au=_;unfold oEqG;rw[zlu,zlu];dsimp only;rw[if_pos ⟨rfl,rfl⟩];show Res.ok (D.bl (i==j)) au=_;rw[show(i==j)=decide (i=j) from by rw[xfn];simp]
@[simp] theorem zbxz:oNe (.int i) (.int j) au=.ok (.bl (!decide (i=j))) au:=by
 show oEqG true (.int i) (.int j) au=_;unfold oEqG;rw[zlu,zlu];dsimp only;rw[if_pos ⟨rfl,rfl⟩];show Res.ok (D.bl (!(i==j))) au=_;rw[show(i==j)=decide (i=j) from by rw[xfn];simp]
theorem zro(a:List Int):toDatas (a.map .int)=some (dI a):=by
 induction a with
 |nil=>rfl
 |cons n a ih=>rw[xbr,toDatas,ih];rfl
theorem zrn(l:List (List Int)):toDatas (aJ l)=some (l.map dRow):=by
 induction l with
 |nil=>rfl
 |cons n ns ih=>
  unfold aJ at ih ⊢;rw[xbr,toDatas,ih,toData,zro];rfl
abbrev aK(l:List (List Int)):D:=.tup (aJ l)
theorem zpf(l:List (List Int)):dataOf au (aK l)=some (.tuple (l.map dRow)):=by
 show(toDatas (aJ l)).map PyData.tuple=_;rw[zrn];rfl
theorem zwv(l:List Int):dataOf au (aL l)=some (dRow l):=by
 show(toDatas (l.map .int)).map PyData.tuple=_;rw[zro];rfl
theorem zbmy(a b:List (List Int)):oEqG neg (aK a) (aK b) au=.ok (.bl (if neg then !decide (a=b) else decide (a=b))) au:=by
 unfold oEqG;rw[zpf,zpf];dsimp only;rw[if_pos ⟨zdu a,zdu b⟩];have e:PyData.eqv (.tuple (a.map dRow)) (.tuple (b.map dRow))=decide (a=b):=zrr a b;rw[e]
theorem small(n:Nat)(h:n<=1000000):n<=sizeLine:=by rw[xij];lia
theorem smallT(n:Nat)(h:n<=1000000):n<sizeLine:=by rw[xij];lia
theorem zbdl(I:Nat->DS->Store->Prop):∀(d:List D) (k:Nat) (σ:DS) (a:Store),I k σ a ->
  (∀i x σ a,d[i]?=some x->I (k+i) σ a->∃g e b,bd x σ=some g/\body g a=.ok (.nx e) b/\I (k+i+1) e b)->∃f c,forF bd body d σ a=.ok (.nx f) c/\I (k+d.length) f c
 |[],k,σ,a,h,_=>⟨σ,a,rfl,h⟩
 |x::d,k,σ,a,h,s=>by
  obtain⟨g,e,b,p,m,l⟩:=s 0 x σ a rfl h;obtain⟨f,c,j,q⟩:=zbdl I d (k+1) e b l λi y σ a n o=>by
   have:=s (i+1) y σ a (by simpa using n) (by rw[show k+(i+1)=k+1+i by lia];exact o);rw[show k+(i+1)+1=k+1+i+1 by lia] at this;exact this
  refine⟨f,c,?_,by rw[xbt,show k+(d.length+1)=k+1+d.length by lia];exact q⟩;unfold forF;rw[p];dsimp only;rw[m];exact j
theorem zwm(I:Nat->DS->Store->Prop) (g:I 0 σ au)
  (s:∀i x σ au,xs[i]?=some x->I i σ au->∃c b a,bd x σ=some c/\body c au=.ok (.nx b) a/\I (i+1) b a):∃d st',forF bd body xs σ au=.ok (.nx d) st'/\I xs.length d st':=by
 have:=zbdl I xs 0 σ au g λi x σ au f e=>by
  rw[xeg] at e ⊢;exact s i x σ au f e
 rw[xeg] at this;exact this
theorem zbfd{lo:Int}(h:(rng lo n)[i]?=some x):i<n/\x=.int (lo+i):=zif h
theorem zbh(lo:Int)(n:Nat):(rng lo n).length=n:=by simp[rng]
theorem zpg(I:Nat->List D->DS->Store->Prop):∀(l:List D) (k:Nat) (acc:List D) (σ:DS) (g:Store),I k acc σ g ->
  (∀i x acc σ g,l[i]?=some x->I (k+i) acc σ g->∃e b a,bd x σ=some e/\c e g=.ok b a/\((b=false/\I (k+i+1) acc e a)\/(b=true/\∃y d,f e a=.ok y d/\I (k+i+1) (acc++[y]) e d))) ->
  ∃m o j,compF bd c f l σ g=.ok m j/\I (k+l.length) (acc++m) o j
 |[],k,acc,σ,g,h,_=>⟨[],σ,g,rfl,by rw[xei];exact h⟩
 |x::l,k,acc,σ,g,h,s=>by
  have u:∀i y acc σ g,l[i]?=some y->I (k+1+i) acc σ g->∃e b a,bd y σ=some e/\c e g=.ok b a/\((b=false/\I (k+1+i+1) acc e a)\/(b=true/\∃z d,f e a=.ok z d/\I (k+1+i+1) (acc++[z]) e d)):=λi y acc σ g w A=>by
   have:=s (i+1) y acc σ g (by simpa using w) (by rw[show k+(i+1)=k+1+i by lia];exact A);rw[show k+(i+1)+1=k+1+i+1 by lia] at this;exact this
  obtain⟨e,b,a,t,r,n⟩:=s 0 x acc σ g rfl h;rcases n with⟨rfl,n⟩|⟨rfl,y,d,v,n⟩
  ·obtain⟨m,o,j,q,p⟩:=zpg I l (k+1) acc e a n u;refine⟨m,o,j,?_,by rw[xbt,show k+(l.length+1)=k+1+l.length by lia];exact p⟩;unfold compF;rw[t];dsimp only;rw[r];exact q
  ·obtain⟨m,o,j,q,p⟩:=zpg I l (k+1) (acc++[y]) e d n u;refine⟨y::m,o,j,?_,by rw[xbt,show k+(l.length+1)=k+1+l.length by lia];rw[xcm] at p;exact p⟩;unfold compF;rw[t];dsimp only;rw[r];dsimp only[zbb];rw[if_pos rfl,v];dsimp only[zbb];rw[q]
   rfl
theorem zno(I:Nat->List D->DS->Store->Prop) (l:I 0 [] σ au)
  (s:∀i x acc σ au,xs[i]?=some x->I i acc σ au->∃e b a,bd x σ=some e/\c e au=.ok b a/\((b=false/\I (i+1) acc e a)\/(b=true/\∃y d,f e a=.ok y d/\I (i+1) (acc++[y]) e d))):
  ∃g j st',compF bd c f xs σ au=.ok g st'/\I xs.length g j st':=by
 have:=zpg I xs 0 [] σ au l λi x acc σ au k h=>by
  rw[xeg] at h ⊢;exact s i x acc σ au k h
 rw[xeg] at this
 simpa using this
theorem zyf(I:Nat->DS->Store->Prop)(a:DS->Store->Prop) (r:I k σ au)(v:k<wCap)
  (s:∀j σ au,I j σ au->∃b d,c σ au=.ok b d/\((b=false/\a σ d)\/(b=true/\∃i l e,body σ d=.ok (.nx l) e/\I i l e/\i<j))):∃f st',sWhile c body σ au=.ok (.nx f) st'/\a f st':=by
 have g:∀n j σ au,I j σ au->j<n->∃f st',whileF c body n σ au=.ok (.nx f) st'/\a f st':=by
  intro n
  induction n with
  |zero=>intro j σ au _ h;lia
  |succ n ih=>
   intro j σ au u w;obtain⟨b,d,t,h⟩:=s j σ au u;unfold whileF;rw[t];dsimp only[zbb];rcases h with⟨rfl,h⟩|⟨rfl,i,l,e,q,p,x⟩
   ·exact⟨σ,d,by rw[if_neg (by decide)],h⟩
   ·obtain⟨f,st',o,m⟩:=ih i l e p (by lia);refine⟨f,st',?_,m⟩;rw[if_pos rfl,q];exact o
 exact g wCap k σ au r v
@[simp] theorem zbqs:seqOf au (.tup xs)=some xs:=rfl
@[simp] theorem zbqt:seqOf au (.scr xs)=some xs:=rfl
@[simp] theorem zbqu:seqOf au (.lst xs)=some xs:=rfl
@[simp] theorem zbrs:seqV (.tup xs)=some xs:=rfl
@[simp] theorem zbru:seqV (.lst xs)=some xs:=rfl
@[simp] theorem zbrt:seqV (.scr xs)=some xs:=rfl
@[simp] theorem zbxc:asL au (.lst xs)=some xs:=rfl
theorem zhd(h:au[n]?=some (.lst xs)):asL au (.ref n)=some xs:=by
 unfold asL;dsimp only;rw[h]
theorem zhm(h:au[n]?=some (.lst xs)):seqOf au (.ref n)=some xs:=zhd h
theorem zjq(h:seqOf au x=some xs)(a:L2.atI xs i=some d):oIx x (.int i) au=.ok d au:=by
 unfold oIx;rw[h];dsimp only;rw[a]
@[simp] theorem zbvw:bLen [.tup xs] au=.ok (.int xs.length) au:=rfl
@[simp] theorem zbvy:bLen [.lst xs] au=.ok (.int xs.length) au:=rfl
@[simp] theorem zbvx:bLen [.scr xs] au=.ok (.int xs.length) au:=rfl
@[simp] theorem zbze:bAbs [.int i] au=.ok (.int (if i<0 then -i else i)) au:=rfl
@[simp] theorem zbzi:b2I g [.int i,.int j] au=.ok (.int (g i j)) au:=rfl
@[simp] theorem zbvv:bSum [aL ns] au=.ok (.int ns.sum) au:=by
 unfold bSum;simp
@[simp] theorem zbqg:bTuple [.tup xs] au=.ok (.tup xs) au:=rfl
@[simp] theorem zxl:bTuple [.lst xs] au=.ok (.tup xs) au:=rfl
theorem zxk(h:au[n]?=some (.lst xs)):bTuple [.ref n] au=.ok (.tup xs) au:=by
 unfold bTuple;dsimp only;rw[zhd h]
theorem zpm{l:List (List Int)}(h:l.length<=1000000):bSorted [.lst (aJ l)] au=.ok (.lst (aJ (sortR l))) au:=by
 unfold bSorted;simp[h]
theorem zpn(h:au[n]?=some (.dT kvs))(a:kvs.length<=1000000):bSorted [.ref n] au=.ok (.lst (aJ (sortR (kvs.map (·.1))))) au:=by
 unfold bSorted asL pairsOf;simp[h,a]
theorem zpo{j:Nat}(h:xs[j]?=some d):L2.atI xs (j:Int)=some d:=zxp h
theorem zde{a:Store}(h:n<a.length):(a.set n o)[n]?=some o:=xfe h
section
variable {au:Store}{n:Nat}
theorem zi{o:O}(h:au[n]?=some o):n<au.length:=(xbd.mp h).1
end
theorem zbey{a:Store}:(a.set n o).set n p=a.set n p:=List.set_set _
section
variable {au:Store}{n:Nat}{i:Int}
theorem zbrr{o:O}(h:au[n]?=some o):au.set n o=au:=by
 apply xie;intro i;by_cases e:i=n
 ·subst e;rw[xfe (zi h),h]
 ·rw[xbx (xdj e)]
end
theorem zfn{a:List D}(h:a.length=np)(e:b (a.map some++List.replicate (n-np) none) au=.ok (.ret v) st'):fnD n np b a au=.ok v st':=by
 rw[zbwx,if_pos h,e]
theorem zbue{a:List D}(h:a.length=np)(e:b (a.map some++List.replicate (n-np) none) au=.ok (.nx σ) st'):fnD n np b a au=.ok .non st':=by
 rw[zbwx,if_pos h,e]
noncomputable abbrev bagO(c x:Int):O:=.lst [.int c,.int x]
def BagAt(a:Store) (n:Nat):Prop:=∃c x:Int,a[n]?=some (bagO c x)/\0<=c/\0<=x
structure Drew (au st':Store) (n:Nat):Prop where
 len:au.length<=st'.length
 keep:∀ i,i<au.length->i≠n->st'[i]?=au[i]?
 bag:BagAt st' n
theorem Drew.trans(a:Drew au st1 n)(b:Drew st1 st2 n):Drew au st2 n:=
 ⟨xbc a.len b.len,λi c d=>(b.keep i (xbm c a.len) d).trans (a.keep i c d),b.bag⟩
theorem Drew.set{a:Store}{n:Nat}{c x:Int}(h:BagAt a n)(b:0<=c)(d:0<=x):Drew a (a.set n (bagO c x)) n:=by
 obtain⟨_,_,e,_⟩:=h;exact⟨by rw[xdr];exact xbj _,λi _ f=>xbx (xdj f),c,x,zde (zi e),b,d⟩
theorem Drew.more{a:Store}{n:Nat}(h:BagAt a n)(g:Store):Drew a (a++g) n:=by
 obtain⟨c,x,e,b,d⟩:=h;exact⟨by rw[xbk];lia,λi h _=>xby h,c,x,by rw[xby (zi e)];exact e,b,d⟩
theorem zbks{au:Store}{n:Nat}{m:Int}(l:BagAt au n)(h1:1<=m)(H:m<2^1000):
  ∃r f,zt [.ref n,.int m] au=.ok (.int r) f/\0<=r/\r<m/\Drew au f n/\f.length=au.length:=by
 obtain⟨c,x,i,q,A⟩:=id l;have w:∀{c x:Int}{au:Store},au[n]?=some (bagO c x)->oIx (.ref n) (.int 0) au=.ok (.int c) au:=λh=>zjq (zhm h) rfl
 have u:∀{c x:Int}{au:Store},au[n]?=some (bagO c x)->oIx (.ref n) (.int 1) au=.ok (.int x) au:=λh=>zjq (zhm h) rfl
 by_cases h0:0<c
 ·have d1:CDivP c m:=⟨by lia,H⟩
  have E:ixN 2 0=some 0:=rfl;refine⟨c%m,au.set n (bagO (c/m) x),zfn rfl ?_,xkh _ (by lia),Int.emod_lt_of_pos _ (by lia),Drew.set l (Int.ediv_nonneg q (by lia)) A,xdr⟩;simp[w i,h0,i,E,show(0:Int)<m by lia,d1]
 ·have g:=zi i
  have W:=zyf (c:=eB (aS oLtT (aA 4) (aA 1))) (body:=aD (sSetIx (aA 0) (eC (.int 1)) (aS oMod (aS aM (aS oMulI (aS oIx (aA 0) (eC (.int 1))) (eC (.int 48271))) (eC (.int 7919))) (eC (.int 2147483647))))
   (aD (aF 3 (aS aM (aS oMulI (aA 3) (eC (.int 1073741789))) (aS oMod (aS oMulI (aS oFdiv (aS oIx (aA 0) (eC (.int 1))) (eC (.int 8))) (eC (.int 69621))) (eC (.int 1073741789)))))
   (aF 4 (aS oMulI (aA 4) (eC (.int 1073741789)))))) (k:=1000) (σ:=[some (.ref n),some (.int m),none,some (.int 0),some (.int 1)]) (au:=au)
   (λj σ s=>∃b a d rr:Int,σ=[some (.ref n),some (.int m),none,some (.int d),some (.int rr)]/\s=au.set n (bagO b a)/\0<=b/\0<=a/\0<=d/\j<=1000/\2^(1000-j)<=rr)
   (λσ s=>∃b a d:Int,(∃rr,σ=[some (.ref n),some (.int m),none,some (.int d),some (.int rr)])/\s=au.set n (bagO b a)/\0<=b/\0<=a/\0<=d)
   ⟨c,x,0,1,rfl,(zbrr i).symm,q,A,by lia,by lia,by decide⟩ (by decide) (by
    rintro j σ s ⟨b,a,d,rr,rfl,rfl,o,v,t,a4,Y⟩;have C:(au.set n (bagO b a))[n]?=some (bagO b a):=zde g;by_cases hlt:rr<m
    ·have hj:1<=j:=by
      rcases xjd j with z|z
      ·subst z;have I:(2:Int)^1000<=rr:=Y;lia
      ·exact z
     have J:ixN 2 1=some 1:=rfl;have m1:CMul a 48271:=.inr ⟨by decide,by decide⟩;have m2:CMul d 1073741789:=.inr ⟨by decide,by decide⟩;have m3:CMul rr 1073741789:=.inr ⟨by decide,by decide⟩;have G:∀y:Int,(au.set n (bagO b y))[n]?=some (bagO b y):=λy=>zde g
     have X:∀y:Int,CMul y 69621:=λy=>.inr ⟨by decide,by decide⟩
     have S:∀y:Int,CDivP y 8:=λy=>⟨by decide,by decide +kernel⟩
     refine⟨true,au.set n (bagO b a),by simp[hlt],.inr ⟨rfl,j-1,_,au.set n (bagO b ((a*48271+7919)%2147483647)),?_,⟨b,(a*48271+7919)%2147483647,d*1073741789+(a*48271+7919)%2147483647/8*69621%1073741789,rr*1073741789,rfl,rfl,o,?_,?_,by lia,?_⟩,by lia⟩⟩
     ·simp[u C,C,J,m1,m2,m3,X,S,u (G _)]
     ·exact xkh _ (by lia)
     ·have o:0<=d*1073741789:=xoe t (by lia);have v:=xkh ((a*48271+7919)%2147483647/8*69621) (show(1073741789:Int)≠0 by lia);lia
     ·have e:(2:Int)^(1000-(j-1))=2^(1000-j)*2:=by
       rw[←Int.pow_succ];congr 1;lia
      rw[e];have hp:(0:Int)<=2^(1000-j):=Int.pow_nonneg (by decide);lia
    ·exact⟨false,_,by simp[hlt],.inl ⟨rfl,b,a,d,⟨rr,rfl⟩,rfl,o,v,t⟩⟩)
  obtain⟨σ',f,e,b,a,d,P,p,Q,U,k3⟩:=W;obtain⟨rr,rfl⟩:=P;subst p;refine⟨d%m,au.set n (bagO b a),zfn rfl ?_,xkh _ (by lia),Int.emod_lt_of_pos _ (by lia),Drew.set l Q U,xdr⟩;simp[w i,h0,e,show(0:Int)<m by lia]
theorem znt{a:List Int}(h:j<a.length):L2.atI (a.map D.int) (j:Int)=some (.int a[j]):=zxp (by rw[xcl,xbe h];rfl)
theorem zbvu{a:List Int}{i:Nat}(w:a.length<=63)(y:i<=100000):∃c x:Int,0<=c/\0<=x/\zgb [.scr (a.map .int),.int i] au=.ok (.ref au.length) (au++[bagO c x]):=by
 have d:∃c:Int,0<=c/\sIf (eB (aS oLtT (aA 1) (aE bLen (aB (aA 0) aC)))) (aF 2 (aE bAbs (aB (aS oIx (aA 0) (aA 1)) aC))) sNx [some (.scr (a.map .int)),some (.int i),some (.int 0),none,none] au
   = .ok (.nx [some (.scr (a.map .int)),some (.int i),some (.int c),none,none]) au:=by
  by_cases h:i<a.length
  ·have e:oIx (.scr (a.map .int)) (.int i) au=.ok (.int a[i]) au:=zjq rfl (znt h);refine⟨if a[i]<0 then -a[i] else a[i],by split<;>lia,?_⟩;simp[h,e]
  ·exact⟨0,by lia,by simp[h]⟩
 obtain⟨c,q,f⟩:=d;have n:(if(60:Int)<(a.length:Int) then(60:Int) else a.length).toNat<=a.length:=by split<;>lia
 have W:=zwm (bd:=gN 4) (body:=aF 3 (aS oMod (aS aM (aS aM (aS oMulI (aA 3) (eC (.int 48271))) (aS oMod (aS oIx (aA 0) (aA 4)) (eC (.int 2147483647)))) (aA 4)) (eC (.int 2147483629))))
  (xs:=rng 0 (if(60:Int)<(a.length:Int) then(60:Int) else a.length).toNat) (σ:=[some (.scr (a.map .int)),some (.int i),some (.int c),some (.int (7919*i+17)),none]) (au:=au)
  (λj σ s=>s=au/\∃(b:Int) (v:Option D),σ=[some (.scr (a.map .int)),some (.int i),some (.int c),some (.int b),v]/\0<=b) ⟨rfl,_,none,rfl,by lia⟩ (by
   rintro j x σ s t ⟨rfl,b,v,rfl,k⟩;obtain⟨z,rfl⟩:=zbfd t;have l:j<a.length:=by lia
   have e:oIx (.scr (a.map .int)) (.int (0+j)) s=.ok (.int a[j]) s:=zjq rfl (by rw[xhu];exact znt l);rw[xhu] at e;have u:CMul b 48271:=.inr ⟨by decide,by decide⟩;refine⟨_,[some (.scr (a.map .int)),some (.int i),some (.int c),some (.int ((b*48271+a[j]%2147483647+j)%2147483629)),some (.int (0+j))],s,rfl,?_,rfl,_,_,rfl,xkh _ (by lia)⟩
   simp[e,u])
 obtain⟨A,r,e,rfl,b,v,rfl,k⟩:=W;have o:CMul 7919 (i:Int):=.inl ⟨by decide,by decide⟩;have p:CPow 10 18:=⟨by decide,by decide,by decide⟩
 have m:RngOk (if(60:Int)<(a.length:Int) then(60:Int) else a.length):=by
  split<;>exact rngOk (by lia) (by lia)
 by_cases hlt:c<1000000000000000000
 ·refine⟨0,b,by lia,k,zfn rfl ?_⟩;have g:=small 2 (by lia);simp at f;simp[f,o,m,e,p,hlt,g]
 ·refine⟨c,b,q,k,zfn rfl ?_⟩;have g:=small 2 (by lia);simp at f;simp[f,o,m,e,p,hlt,g]
theorem seqN(h:s σ au=.ok (.nx σ1) st1)(k:t σ1 st1=r):aD s t σ au=r:=by
 rw[zbrv,h];exact k
noncomputable def aP(a:List (List Int)) (k:List Int):List (List Int):=if k∈a then a.filter (λx=>decide (x≠k)) else a++[k]
def aN(l:List (List Int)):List (List Int):=l.foldl aP []
theorem zbt:x∈aP ks k↔(x∈ks/\x≠k)\/(x=k/\k∉ks):=by
 unfold aP;split
 ·rename_i h;simp[xcn,h]
 ·rename_i h;simp only[xce,xcj];constructor
  ·rintro(z|rfl)
   ·exact .inl ⟨z,λe=>h (e ▸ z)⟩
   ·exact .inr ⟨rfl,h⟩
  ·rintro(⟨z,_⟩|⟨z,_⟩)
   ·exact .inl z
   ·exact .inr z
theorem zck{d:List (List Int)}(h:d.Nodup):(aP d k).Nodup:=by
 unfold aP;split
 ·exact h.filter _
 ·rename_i g;rw[xjk];exact⟨h,by simp,λa f b c=>by simp at c;subst c;exact λe=>g (e ▸ f)⟩
theorem ziv(a:List (List Int))(k:List Int):(aP a k).length<=a.length+1:=by
 unfold aP;split
 ·exact xgn (xgv _ _)
 ·simp
theorem zjz:∀(l b:List (List Int)),b.Nodup->(l.foldl aP b).Nodup/\(l.foldl aP b).length<=b.length+l.length/\∀x,x∈l.foldl aP b↔(l.count x+if x∈b then 1 else 0)%2=1
 |[],b,h=>⟨h,by simp,λx=>by by_cases e:x∈b<;>simp[e]⟩
 |a::l,b,h=>by
  obtain⟨f,g,d⟩:=zjz l (aP b a) (zck h);refine⟨f,?_,λx=>?_⟩
  ·have:=ziv b a;rw[xgp,xbt];lia
  ·rw[xgp,d x,xhf];by_cases e:x=a
   ·subst e;by_cases k:x∈b
    ·have q:x∉aP b x:=by rw[zbt];simp[k]
     simp only[q,k,xfl,xfa,xhm]<;>lia
    ·have q:x∈aP b x:=by rw[zbt];simp[k]
     simp only[q,k,xfl,xfa,xhm]<;>lia
   ·have c:(a==x)=false:=by simpa using λz:a=x=>e z.symm
    by_cases k:x∈b
    ·have q:x∈aP b a:=by rw[zbt];simp[k,e]
     simp[q,k,c]
    ·have q:x∉aP b a:=by rw[zbt];simp[k,e]
     simp[q,k,c]
theorem zdf(l:List (List Int)):(aN l).Nodup:=(zjz l [] xgg).1
theorem zet(l:List (List Int)):(aN l).length<=l.length:=by have:=(zjz l [] xgg).2.1;simpa [aN] using this
theorem zgj:x∈aN l↔l.count x%2=1:=by have:=(zjz l [] xgg).2.2 x;simpa [aN] using this
theorem zgh{a b:List (List Int)}(c:a.Nodup)(d:b.Nodup)(h:∀x,x∈a↔x∈b):a.Perm b:=(xmz c d).mpr h
theorem zjx{a:List (List Int)}(h:a.Perm b):sortR a=sortR b:=zkx ((zr a).trans h) (zkw a)
def aO(l:List (List Int)):List (List Int):=sortR (aN l)
theorem zvj{l m:List (List Int)}(a:m.Nodup)(h:∀x,x∈m↔l.count x%2=1):sortR m=aO l:=zjx (zgh a (zdf l) λx=>by rw[h,zgj])
theorem zbgf:x∈aO l↔l.count x%2=1:=by unfold aO;rw[(zr _).mem_iff,zgj]
theorem zdq(h:x∈aO l):x∈l:=by
 rw[zbgf] at h;rcases xjd (l.count x) with z|z
 ·rw[z] at h;cases h
 ·exact xhv.mp z
theorem zka(l:List (List Int)):(aO l).length<=l.length:=by unfold aO;rw[zdp];exact zet l
theorem zcm(l:List (List Int)):(aO l).Nodup:=(zr _).nodup_iff.mpr (zdf l)
noncomputable abbrev aQ(a:List (List Int)):List (List Int×D):=a.map λk=>(k,.bl true)
theorem zkt:valD (aQ ks) k=if k∈ks then some (.bl true) else none:=by
 induction ks with
 |nil=>rfl
 |cons a ks ih=>
  unfold valD aQ at ih ⊢;rw[xbr,xfb];by_cases e:a=k
  ·simp[e]
  ·simp only[xcd e];rw[ih];simp[xbl,show ¬ k=a from λz=>e z.symm]
theorem zws:dropD (aQ ks) k=aQ (ks.filter λx=>decide (x≠k)):=by
 unfold dropD aQ;rw[xje]
 rfl
theorem zqj(h:k∉ks):putD (aQ ks) k (.bl true)=aQ (ks++[k]):=by
 unfold putD;rw[if_neg]
 ·simp[aQ]
 ·simp only[List.any_map,xlq,not_exists,not_and];intro x a e;have:x=k:=by simpa using e
  exact h (this ▸ a)
theorem zla(h:au[n]?=some (.dT kvs)):pairsOf au (.ref n)=some kvs:=by
 unfold pairsOf;dsimp only;rw[h]
theorem zbfw(h:au[n]?=some (.fT kvs)):pairsOf au (.ref n)=some kvs:=by
 unfold pairsOf;dsimp only;rw[h]
theorem zbco(h:pairsOf au (.ref n)=some kvs):oDIn false (aL k) (.ref n) au=.ok (.bl (valD kvs k).isSome) au:=by
 unfold oDIn;rw[zew,h]
 rfl
theorem zbgg(h:pairsOf au (.ref n)=some kvs)(a:valD kvs k=some v):oDGet (.ref n) (aL k) au=.ok v au:=by
 unfold oDGet;rw[zew,h];dsimp only;rw[a]
theorem znh(h:au[n]?=some (.dT (aQ ks)))(e:ks.length<=1000000):zfb [.ref n,aL k] au=.ok .non (au.set n (.dT (aQ (aP ks k)))):=by
 have a:=zbco (k:=k) (zla h);rw[zkt] at a;by_cases hk:k∈ks
 ·refine zbue (σ:=[some (.ref n),some (aL k)]) rfl ?_;rw[if_pos hk] at a;have f:valD (aQ ks) k=some (.bl true):=by rw[zkt,if_pos hk]
  have b:aP ks k=ks.filter λx=>decide (x≠k):=by unfold aP;rw[if_pos hk]
  rw[b,←zws];have g:=zla h;have d:=zew k;simp only[aL,aQ] at *
  simp[a,g,d,h,f]
 ·refine zbue (σ:=[some (.ref n),some (aL k)]) rfl ?_;rw[if_neg hk] at a;have b:aP ks k=ks++[k]:=by unfold aP;rw[if_neg hk]
  rw[b,←zqj hk];have d:=zew k;have c:(aQ ks).length<sizeLine:=by rw[xbb];exact smallT _ e
  simp only[aL,aQ] at *
  simp[a,d,h,c];rw[xbb] at c;exact c
theorem zx{l:List (List Int)}{i:Nat}(h:(aJ l)[i]?=some x):∃k,l[i]?=some k/\x=aL k:=by
 unfold aJ at h;rw[xcl] at h;cases e:l[i]? with
 |none=>rw[e] at h;cases h
 |some k=>rw[e] at h;exact⟨k,rfl,(xcz h).symm⟩
theorem zc(l:List (List Int)):(aJ l).length=l.length:=xbb _
theorem ze{α:Type}{l:List α}{i:Nat}{k:α}(h:l[i]?=some k):l.take (i+1)=l.take i++[k]:=by
 obtain⟨a,e⟩:=xbd.mp h;rw[xin a,e]
theorem zbvj(a:List D)(k:Nat):cutD a none (some (k:Int))=a.take k:=by
 unfold cutD;rw[HT.zuo,HT.zbce,List.drop_zero,Nat.sub_zero];rcases Nat.le_total k a.length with h|h
 ·rw[xej h]
 ·rw[xjw h,xbu,xdv h]
theorem zbiu(a:List D)(k:Nat):cutD a (some (k:Int)) none=a.drop k:=by
 unfold cutD;rw[HT.zuo,HT.zbce];rcases Nat.le_total k a.length with h|h
 ·rw[xej h,xdv (by rw[xgb];exact xbj _)]
 ·rw[xjw h,List.drop_length,List.drop_of_length_le h];simp
theorem zfw(l a:List (List Int))(h:a.Nodup):(l.foldl aP a).length<=a.length+l.length:=(zjz l a h).2.1
theorem zbld{a b:List Int}:(a.map D.int)++(b.map D.int)=(a++b).map D.int:=xdi.symm
theorem zge(h:au[n]?=some (.dT (aQ ks)))(a:ks.length<=1000000):bSorted [.ref n] au=.ok (.lst (aJ (sortR ks))) au:=by
 rw[zpn h (by rw[xbb];exact a),xcw]
 congr 2
 exact congrArg (λl=>aJ (sortR l)) (xob ks)
end Dd
namespace K07
open L2
noncomputable def oddW(e k:Int):Bool:=decide (V.int (Builtin.bitAnd e k)=V.int k)
theorem znr(a b:Nat):Builtin.bitAnd (a:Int) (b:Int)=((a&&&b:Nat):Int):=rfl
theorem zbge(a b:Nat):oddW a b=decide (a&&&b=b):=by
 unfold oddW;rw[znr];by_cases h:a&&&b=b
 ·rw[h];simp
 ·rw[xcd h];refine xcd λe=>h ?_
  injection e with e
  exact_mod_cast e
theorem zbag(a b:Nat):(a&&&b=b)↔((a/2&&&b/2=b/2)/\¬ (b%2=1/\a%2=0)):=by
 have f:(a&&&b)/2=a/2&&&b/2:=xny;have e:(a&&&b)%2=(a%2)*(b%2):=by
  have q:=@Nat.and_mod_two_eq_one a b;rcases xef a with h|h<;>rcases xef b with h'|h'<;>rw[h,h'] at q ⊢<;>lia
 constructor
 ·intro h;refine⟨by rw[←f,h],?_⟩;rintro⟨d,c⟩;rw[h,d,c] at e;lia
 ·rintro⟨d,c⟩;rw[←f] at d;have g:(a&&&b)%2=b%2:=by
   rw[e];rcases xef a with h|h<;>rcases xef b with h'|h'<;>simp[h,h']
   exact c ⟨h',h⟩
  lia
end K07
namespace K23
open L2 K07
noncomputable def rowC(a b c:Int):List Int:=if 0<c then[a+b-c,c] else[a+b]
def rowsL(a b:Int) (n:Nat):List (List Int):=((List.range n).filter λ(c:Nat)=>oddW (b-c-1) (a-2*c)).map λ(c:Nat)=>rowC a b c
theorem zyy{a b:Int}{n:Nat}(h:oddW (b-n-1) (a-2*n)=true):rowsL a b (n+1)=rowsL a b n++[rowC a b n]:=by
 unfold rowsL;rw[xfw,xfd,xdi];simp[xll,h]
theorem zbfb{a b:Int}{n:Nat}(h:¬ oddW (b-n-1) (a-2*n)=true):rowsL a b (n+1)=rowsL a b n:=by
 unfold rowsL;rw[xfw,xfd];simp[xll,h]
theorem zhn(a b:Int)(n:Nat):(rowsL a b n).length<=n:=by
 unfold rowsL;rw[xbb];exact xbc (xgv _ _) (by simp)
end K23
namespace Dd
open L2 K07 K23
theorem zsv:zfy [.int e,.int k] au=.ok (.bl (oddW e k)) au:=by
 refine zfn rfl ?_;have:decide (Builtin.bitAnd e k=k)=oddW e k:=by
  unfold oddW;rw[xfn];simp
 simp[this]
theorem zgm:zbc [.int i] au=.ok (.bl true) au:=rfl
theorem zbhl:zci [.int a,.int b] au=.ok (.bl (decide (a<2*b))) au:=by
 refine zfn rfl ?_;have m:CMul 2 b:=.inl ⟨by decide,by decide⟩;simp[m]
theorem zmo(r:List Int):(r.map D.int).length=r.length:=xbb _
theorem zqo{r:List Int}{i:Nat}{x:Int}(h:r[i]?=some x):oIx (aL r) (.int i) au=.ok (.int x) au:=zjq rfl (zxp (by rw[xcl,h];rfl))
theorem zxn:bLen [aL r] au=.ok (.int r.length) au:=by show Res.ok (D.int ((r.map D.int).length:Nat)) au=_;rw[xbb]
theorem zjj(Q:1<=a)(w:a<=60)(I:-1000<=b)(t:b<=1000):∃g,zbu [.int a,.int b] au=.ok (.lst (aJ (sortR (rowsL a b (a/2+1).toNat)))) (au++g):=by
 have W:=zwm (bd:=gN 3) (body:=zcc) (xs:=rng 0 (a/2+1).toNat) (σ:=[some (.int a),some (.int b),some (.ref au.length),none]) (au:=au++[.lst []])
  (λi σ s=>(∃v,σ=[some (.int a),some (.int b),some (.ref au.length),v])/\s=au++[.lst (aJ (rowsL a b i))]) ⟨⟨none,rfl⟩,rfl⟩ (by
   rintro i y σ s G ⟨⟨v,rfl⟩,rfl⟩;obtain⟨J,rfl⟩:=zbfd G;have x:i<=60:=by lia
   have H:=zhn a b i;have m:CMul 2 (0+(i:Int)):=.inl ⟨by decide,by decide⟩;have h:=zsv (au:=au++[.lst (aJ (rowsL a b i))]) (e:=b-(0+(i:Int))-1) (k:=a-2*(0+(i:Int)));have n:(au++[O.lst (aJ (rowsL a b i))])[au.length]?=some (.lst (aJ (rowsL a b i))):=by simp
   have o:=zhd n;have f:(aJ (rowsL a b i)).length<sizeLine:=by rw[zc];exact smallT _ (by lia)
   have C:=small 1 (by lia);have u:=small 2 (by lia);refine⟨[some (.int a),some (.int b),some (.ref au.length),some (.int (0+i))],[some (.int a),some (.int b),some (.ref au.length),some (.int (0+i))],au++[.lst (aJ (rowsL a b (i+1)))],rfl,?_,⟨_,rfl⟩,rfl⟩;unfold zcc;rw[xhu] at *
   by_cases c:oddW (b-i-1) (a-2*i)=true
   ·rw[zyy c];rw[c] at h;by_cases c2:0<i
    ·have l:rowC a b i=[a+b-i,(i:Int)]:=by unfold rowC;rw[if_pos (by lia)]
     have d:(rowsL a b i).length<sizeLine:=by rw[zc] at f;exact f
     simp[h,m,o,d,c2,u,l,tru,aJ]
    ·have A:i=0:=by lia
     subst A;have l:rowC a b 0=[a+b]:=by unfold rowC;rw[if_neg (by lia)]
     have d:(rowsL a b 0).length<sizeLine:=by rw[zc] at f;exact f
     simp at h m;simp[h,m,o,d,C,l,tru,aJ]
   ·have p:oddW (b-i-1) (a-2*i)=false:=by simpa using c
    rw[zbfb c];rw[p] at h
    simp[h,m,tru])
 obtain⟨P,E,e,⟨v,rfl⟩,rfl⟩:=W;rw[zbh] at e;refine⟨[.lst (aJ (rowsL a b (a/2+1).toNat))],zfn rfl ?_⟩;have z:CDivP a 2:=⟨by decide,by decide +kernel⟩
 have q:RngOk (a/2+1):=rngOk (by lia) (by lia);have j:(rowsL a b (a/2+1).toNat).length<=1000000:=by have:=zhn a b (a/2+1).toNat;lia
 have n:(au++[O.lst (aJ (rowsL a b (a/2+1).toNat))])[au.length]?=some (.lst (aJ (rowsL a b (a/2+1).toNat))):=by simp
 have r:bSorted [.ref au.length] (au++[.lst (aJ (rowsL a b (a/2+1).toNat))])=.ok (.lst (aJ (sortR (rowsL a b (a/2+1).toNat)))) (au++[.lst (aJ (rowsL a b (a/2+1).toNat))]):=by
  unfold bSorted;simp[zhd n,j]
 simp[z,q,e,r]
noncomputable def slowAt(r:List Int) (p:Nat):Prop:=∃a b:Int,r[p]?=some a/\r[p+1]?=some b/\a<2*b
instance (r:List Int) (p:Nat):Decidable (slowAt r p):=
 match h1:r[p]?,h2:r[p+1]? with
 |some a,some b=>if h:a<2*b then .isTrue ⟨a,b,h1,h2,h⟩ else .isFalse λ⟨x,y,e1,e2,e3⟩=>by rw[h1] at e1;rw[h2] at e2;cases e1;cases e2;exact h e3
 |none,_=>.isFalse λ⟨x,y,e1,_⟩=>by rw[h1] at e1;cases e1
 |some _,none=>.isFalse λ⟨x,y,_,e2,_⟩=>by rw[h2] at e2;cases e2
theorem zkf{r:List Int}{p:Int}:zbw [aL r,.int p] au=.ok (.bl (decide (0<=p/\slowAt r p.toNat))) au:=by
 have j:=zgm (au:=au) (i:=p);have e:=zxn (au:=au) (r:=r);by_cases h:0<=p/\p<r.length-1
 ·obtain⟨k,rfl⟩:∃k:Nat,p=k:=⟨p.toNat,by lia⟩
  have v:k<r.length:=by lia
  have o:k+1<r.length:=by lia
  have m:r[k]?=some r[k]:=xbe v;have d:r[k+1]?=some r[k+1]:=xbe o;have n:=zqo (au:=au) m;have g:=zqo (au:=au) d;rw[xnz] at g;have t:=zbhl (au:=au) (a:=r[k]) (b:=r[k+1]);have q:(r[k]<2*r[k+1])↔slowAt r k:=⟨λz=>⟨_,_,m,d,z⟩,λ⟨a,b,f,c,z⟩=>by rw[m] at f;rw[d] at c;cases f;cases c;exact z⟩
  refine zfn rfl ?_;have s:(k:Int)<r.length-1:=h.2;simp only[aL] at *
  generalize D.tup (r.map D.int)=R at *
  simp[j,e,n,s,tru];simp at g;simp[g,t,q]
 ·have u:¬ (0<=p/\slowAt r p.toNat):=λl=>by
   obtain⟨z,a,b,f,c,_⟩:=l;have:=(xbd.mp c).1;exact h ⟨z,by lia⟩
  refine zfn rfl ?_;rw[xcd u];simp only[aL] at *
  generalize D.tup (r.map D.int)=R at *
  by_cases z:0<=p
  ·have c:¬ p<(r.length:Int)-1:=λy=>h ⟨z,y⟩
   simp[j,e,z,c,tru]
  ·simp[j,e,z,tru]
def exRow(r:List Int) (p:Nat):List (List Int):=(sortR (rowsL (r.getD p 0) (r.getD (p+1) 0) (r.getD p 0/2+1).toNat)).map λtwo=>r.take p++two++r.drop (p+2)
theorem ziw(r:List Int)(p:Nat):(exRow r p).length<=(r.getD p 0/2+1).toNat:=by
 unfold exRow;rw[xbb,zdp];exact zhn _ _ _
theorem zsj:∀r∈rowsL a b n,r.length<=2:=λr d=>by
 unfold rowsL at d;obtain⟨c,_,rfl⟩:=xbq.mp d;show(rowC a b c).length<=2;unfold rowC;split<;>simp
theorem zqp{a b:List Int}(h:a.length+b.length<=1000000):aM (aL a) (aL b) au=.ok (aL (a++b)) au:=by
 rw[zbmz,if_pos (by rw[xbb,xbb];exact small _ h),zbld]
theorem zbdu(r:List Int)(k:Nat):cutD (r.map .int) none (some (k:Int))=(r.take k).map .int:=by rw[zbvj,List.map_take]
theorem zrs(r:List Int)(k:Nat):cutD (r.map .int) (some (k:Int)) none=(r.drop k).map .int:=by rw[zbiu,List.map_drop]
theorem zfe{r:List Int}{p:Nat}(U:p+1<r.length)(G:r.length<=100)(z:1<=r.getD p 0)(k:r.getD p 0<=60)(u:-1000<=r.getD (p+1) 0)(j:r.getD (p+1) 0<=1000):
  ∃g,zbd [aL r,.int p] au=.ok (.lst (aJ (exRow r p))) (au++g):=by
 have q:r[p]?=some (r.getD p 0):=by rw[xbi,xbe (by lia)];rfl
 have o:r[p+1]?=some (r.getD (p+1) 0):=by rw[xbi,xbe (by lia)];rfl
 generalize hA:r.getD p 0=a at *
 generalize hB:r.getD (p+1) 0=b at *
 obtain⟨g,e⟩:=zjj (au:=au) z k u j;have Q:(sortR (rowsL a b (a/2+1).toNat)).length<=100:=by
  rw[zdp];have:=zhn a b (a/2+1).toNat;lia
 have W:=zno (bd:=gN 0) (c:=aI) (f:=aS aM (aS aM (aA 2) (aA 0)) (aA 1)) (xs:=aJ (sortR (rowsL a b (a/2+1).toNat))) (σ:=[none,some (aL (r.drop (p+2))),some (aL (r.take p))]) (au:=au++g)
  (λi acc σ s=>s=au++g/\(∃v,σ=[v,some (aL (r.drop (p+2))),some (aL (r.take p))])/\acc=aJ (((sortR (rowsL a b (a/2+1).toNat)).take i).map λtwo=>r.take p++two++r.drop (p+2))) ⟨rfl,⟨none,rfl⟩,rfl⟩ (by
   rintro i y acc σ s E ⟨rfl,⟨v,rfl⟩,rfl⟩;obtain⟨two,n,rfl⟩:=zx E;have H:two.length<=2:=zsj two ((zr _).mem_iff.mp (xbo n));have J:(r.take p).length<=100:=by rw[xcq];lia
   have P:(r.drop (p+2)).length<=100:=by rw[xgb];lia
   have t:=zqp (au:=au++g) (a:=r.take p) (b:=two) (by lia);have h:=zqp (au:=au++g) (a:=r.take p++two) (b:=r.drop (p+2)) (by rw[xbk];lia);refine⟨[some (aL two),some (aL (r.drop (p+2))),some (aL (r.take p))],true,au++g,rfl,rfl,.inr ⟨rfl,aL (r.take p++two++r.drop (p+2)),au++g,?_,rfl,⟨_,rfl⟩,?_⟩⟩
   ·show(aM (aL (r.take p)) (aL two) (au++g)).bind _=_;rw[t];exact h
   ·rw[ze n,xdi]
    simp[aJ])
 obtain⟨I,S,A,h,rfl,_,rfl⟩:=W;rw[zc,xbu] at h;refine⟨g,zfn rfl ?_⟩;have d:(aJ (sortR (rowsL a b (a/2+1).toNat))).length<=sizeLine:=by rw[zc];exact small _ (by lia)
 have x:=zqo (au:=au) q;have m:=zqo (au:=au) o;rw[xnz] at m;have w:=zbdu r p;have l:=zrs r (p+2);rw[xnz] at l;refine seqN (σ1:=[some (aL r),some (.int p),some (aL (r.take p)),none]) (st1:=au) (by simp[w]) ?_;refine seqN (σ1:=[some (aL r),some (.int p),some (aL (r.take p)),some (aL (r.drop (p+2)))]) (st1:=au) ?_ ?_
 ·simp at l;simp[l]
 ·have C:aH (aE zbu (aB (aS oIx (aA 0) (aA 1)) (aB (aS oIx (aA 0) (aS aM (aA 1) (eC (.int 1)))) aC))) [some (aL r),some (.int p),some (aL (r.take p)),some (aL (r.drop (p+2)))] au=.ok (aJ (sortR (rowsL a b (a/2+1).toNat))) (au++g):=by
   simp only[aL] at *
   generalize D.tup (r.map D.int)=R at *
   simp at m;simp[x,m,e]
  rw[zun,zkj,C,zbb,if_pos d];show((compF _ _ _ _ [none,some (aL (r.drop (p+2))),some (aL (r.take p))] _).bind _).bind _=_;rw[h];unfold exRow;rw[hA,hB]
  rfl
theorem zoi{l:List (List Int)}(h:l.Nodup)(n:l.length<=1000000):zfa [aK l] au=.ok (.ref au.length) (au++[.dT (aQ l)]):=by
 have W:=zwm (bd:=gN 2) (body:=zdy) (xs:=aJ l) (σ:=[some (aK l),some (.ref au.length),none]) (au:=au++[.dT []])
  (λi σ s=>(∃v,σ=[some (aK l),some (.ref au.length),v])/\s=au++[.dT (aQ (l.take i))]) ⟨⟨none,rfl⟩,rfl⟩ (by
   rintro i y σ s f ⟨⟨v,rfl⟩,rfl⟩;obtain⟨k,b,rfl⟩:=zx f;have d:(au++[O.dT (aQ (l.take i))])[au.length]?=some (.dT (aQ (l.take i))):=by simp
   have o:=(xbd.mp b).1;have c:k∉l.take i:=λz=>by
    have e:(l.take (i+1)).Nodup:=(xlc (i+1) l).nodup h;rw[ze b,xjk] at e;exact e.2.2 k z k (by simp) rfl
   have a:(aQ (l.take i)).length<sizeLine:=by
    rw[xbb,xcq];exact smallT _ (by lia)
   have j:=zew k;have g:=zqj c;refine⟨[some (aK l),some (.ref au.length),some (aL k)],[some (aK l),some (.ref au.length),some (aL k)],au++[.dT (aQ (l.take (i+1)))],rfl,?_,⟨_,rfl⟩,rfl⟩;rw[ze b,←g];unfold zdy;simp only[aL] at *
   rw[zbcg];simp only[eC_v,zbb,zbon,xgk,xkz,j,d,a,xfl]
   simp)
 obtain⟨p,m,e,⟨v,rfl⟩,rfl⟩:=W;rw[zc,xbu] at e;refine zfn rfl ?_;refine seqN (σ1:=[some (aK l),some (.ref au.length),none]) (st1:=au++[.dT []]) (by simp) ?_;refine seqN (σ1:=[some (aK l),some (.ref au.length),v]) (st1:=au++[.dT (aQ l)]) (by rw[zblb];exact e) rfl
theorem zbbo{r:List Int}(b:r.length<=1000000)(τ:DS):aG (aH (aA 1)) 1 [] (gN 0) aI (aE zbc (aB (aA 0) aC)) [some τ0,some (aL r)] au=.ok (.lst (r.map λ_=>D.bl true)) au:=by
 have W:=zno (bd:=gN 0) (c:=aI) (f:=aE zbc (aB (aA 0) aC)) (xs:=r.map D.int) (σ:=[none]) (au:=au)
  (λi acc σ s=>s=au/\(∃v,σ=[v])/\acc=(r.take i).map λ_=>D.bl true) ⟨rfl,⟨none,rfl⟩,rfl⟩ (by
   rintro i y acc σ s a ⟨rfl,⟨v,rfl⟩,rfl⟩;rw[xcl] at a;cases hx:r[i]? with
   |none=>rw[hx] at a;cases a
   |some x=>
    rw[hx] at a;cases a;refine⟨[some (.int x)],true,s,rfl,rfl,.inr ⟨rfl,.bl true,s,rfl,rfl,⟨_,rfl⟩,?_⟩⟩;rw[ze hx]
    simp)
 obtain⟨h,g,d,e,rfl,_,rfl⟩:=W;rw[zmo,xbu] at e;rw[zkj];show(if(r.map D.int).length<=sizeLine then _ else _)=_;rw[if_pos (by rw[zmo];exact small _ b)];show((compF _ _ _ _ [none] _).bind _)=_;rw[e]
 rfl
theorem zpp(r:List Int):asBools (r.map λ_=>D.bl true)=some (r.map λ_=>true):=by
 induction r with
 |nil=>rfl
 |cons a r ih=>rw[xbr,asBools,ih];rfl
theorem zoe(h:au[n]?=some (.dT (aQ ks)))(e:r∈ks)(c:r.length<=1000000):zdm [.ref n,aL r] au=.ok (.bl true) au:=by
 refine zfn rfl ?_;have g:=zbbo (au:=au) (τ0:=.ref n) c [];have a:=zbco (k:=r) (zla h);rw[zkt,if_pos e] at a;have d:bAny true [.lst (r.map λ_=>D.bl true)] au=.ok (.bl true) au:=by
  unfold bAny;simp[zpp]
 have b:aE bIsinst (aB (aA 1) (aB (eC (.ty "tuple")) aC)) [some (.ref n),some (aL r)] au=.ok (.bl true) au:=rfl
 have f:aE (bAny true) (aB (aG (aH (aA 1)) 1 [] (gN 0) aI (aE zbc (aB (aA 0) aC))) aC) [some (.ref n),some (aL r)] au=.ok (.bl true) au:=by
  rw[zff,zjh,g];exact d
 have i:aS (oDIn false) (aA 1) (aA 0) [some (.ref n),some (aL r)] au=.ok (.bl true) au:=a;show sRet _ [some (.ref n),some (aL r)] au=_;rw[zun,zbhq,b,zbb];show(eAnd _ _ [some (.ref n),some (aL r)] au).bind _=_;rw[zbhq,f,zbb];show(aS (oDIn false) (aA 1) (aA 0) [some (.ref n),some (aL r)] au).bind _=_;rw[i]
 rfl
theorem zlq(h:au[n]?=some (.dT (aQ ks)))(U:ks.Nodup)(Y:ks.length<=500000)(x:r∈ks)(w:r.length<=100)(q:slowAt r p)
  (J:1<=r.getD p 0)(j:r.getD p 0<=60)(E:-1000<=r.getD (p+1) 0)(f:r.getD (p+1) 0<=1000):
  ∃g,zcy [.ref n,aL r,.int p] au=.ok .non ((au.set n (.dT (aQ ((r::exRow r p).foldl aP ks))))++g):=by
 have Q:p+1<r.length:=by
  obtain⟨a,b,_,z,_⟩:=q;exact(xbd.mp z).1
 have o:=zi h;have C:=zoe h x (by lia);have t:=zkf (au:=au) (r:=r) (p:=p);rw[xbw (p:=0<=(p:Int)/\slowAt r (p:Int).toNat) ⟨by lia,by rw[xdx];exact q⟩] at t;have G:=znh (k:=r) h (by lia);obtain⟨g,I⟩:=zfe (au:=au.set n (.dT (aQ (aP ks r)))) Q w J j E f;have hx:=ziw r p;have d:=zck (k:=r) U;have A:=ziv ks r;have W:=zwm (bd:=gN 3) (body:=zct) (xs:=aJ (exRow r p)) (σ:=[some (.ref n),some (aL r),some (.int p),none]) (au:=au.set n (.dT (aQ (aP ks r)))++g)
  (λi σ s=>(∃v,σ=[some (.ref n),some (aL r),some (.int p),v])/\s=au.set n (.dT (aQ (((exRow r p).take i).foldl aP (aP ks r))))++g) ⟨⟨none,rfl⟩,rfl⟩ (by
   rintro i y σ s S ⟨⟨v,rfl⟩,rfl⟩;obtain⟨k,l,rfl⟩:=zx S;have m:(au.set n (.dT (aQ (((exRow r p).take i).foldl aP (aP ks r))))++g)[n]?=some (.dT (aQ (((exRow r p).take i).foldl aP (aP ks r)))):=by
    rw[xby (by rw[xdr];exact o),zde o]
   have c:(((exRow r p).take i).foldl aP (aP ks r)).length<=1000000:=by
    have:=zfw ((exRow r p).take i) (aP ks r) d;rw[xcq] at this;lia
   have u:=znh (k:=k) m c;have H:(au.set n (.dT (aQ (((exRow r p).take i).foldl aP (aP ks r))))++g).set n (.dT (aQ (aP (((exRow r p).take i).foldl aP (aP ks r)) k)))=au.set n (.dT (aQ (((exRow r p).take (i+1)).foldl aP (aP ks r))))++g:=by
    rw[ze l,xeq,List.set_append_left _ _ (by rw[xdr];exact o),zbey]
    rfl
   rw[H] at u;refine⟨[some (.ref n),some (aL r),some (.int p),some (aL k)],[some (.ref n),some (aL r),some (.int p),some (aL k)],_,rfl,?_,⟨_,rfl⟩,rfl⟩;unfold zct;rw[zbcf,zff];show((zfb [.ref n,aL k] _).bind _)=_;rw[u]
   rfl)
 obtain⟨X,P,e,⟨v,rfl⟩,rfl⟩:=W;rw[zc,xbu] at e;refine⟨g,zbue (σ:=[some (.ref n),some (aL r),some (.int p),v]) rfl ?_⟩;refine seqN (σ1:=[some (.ref n),some (aL r),some (.int p),none]) (st1:=au) ?_ ?_
 ·rw[zbrx,zbqh,zwr,zff];show((((zdm [.ref n,aL r] au).bind _).bind _).bind _)=_;rw[C]
  rfl
 refine seqN (σ1:=[some (.ref n),some (aL r),some (.int p),none]) (st1:=au) ?_ ?_
 ·rw[zbrx,zbqh,zwr,zff];show((((zbw [aL r,.int p] au).bind _).bind _).bind _)=_;rw[t]
  rfl
 refine seqN (σ1:=[some (.ref n),some (aL r),some (.int p),none]) (st1:=au.set n (.dT (aQ (aP ks r)))) ?_ ?_
 ·rw[zbcf,zff];show((zfb [.ref n,aL r] au).bind _)=_;rw[G]
  rfl
 ·rw[zblb,zboj,zff];show((((zbd [aL r,.int p] _).bind _)).bind _)=_;rw[I];exact e
structure CntG (f:Nat->D) (kvs:List (List Int×D)) (l:List (List Int)):Prop where
 nd:(kvs.map (·.1)).Nodup
 mem:∀k,k∈kvs.map (·.1)↔k∈l
 val:∀p∈kvs,p.2=f (l.count p.1)
 len:kvs.length<=l.length
theorem CntG.nil(f:Nat->D):CntG f [] []:=⟨xgg,λk=>by simp,λp h=>(by cases h),by simp⟩
theorem CntG.at(h:CntG f b l)(k:List Int):valD b k=if k∈l then some (f (l.count k)) else none:=by
 have d:∀b:List (List Int×D),(∀p∈b,p.2=f (l.count p.1))->valD b k=if k∈b.map (·.1) then some (f (l.count k)) else none:=by
  intro b
  induction b with
  |nil=>intro _;rfl
  |cons a b c=>
   intro g;have c:=c λp i=>g p (xbf _ i)
   unfold valD at c ⊢;rw[xfb];by_cases e:a.1=k
   ·have:=g a xbv;simp only[e,xjj,Option.map_some,xbr,xbl,true_or,xfl];rw[this,e]
   ·simp only[xcd e];rw[c];simp only[xbr,xbl,show ¬ k=a.1 from λz=>e z.symm,false_or]
 rw[d b h.val];simp only[h.mem]
theorem CntG.put(h:CntG f kvs l)(k:List Int):CntG f (putD kvs k (f (l.count k+1))) (l++[k]):=by
 have g:(kvs.any λd=>decide (d.1=k))=decide (k∈l):=by
  rw[xfn,xjn,←h.mem,xlq,xbq];constructor
  ·rintro⟨x,n,e⟩;exact⟨x,n,by simpa using e⟩
  ·rintro⟨p,hp,e⟩;exact⟨p,hp,by simpa using e⟩
 unfold putD;rw[g];by_cases hk:k∈l
 ·rw[if_pos (by simpa using hk)];have c:(kvs.map λd=>if d.1=k then(d.1,f (l.count k+1)) else d).map (·.1)=kvs.map (·.1):=by
   rw[xcw]
   congr 1
   funext p
   dsimp only[Function.comp];split<;>rfl
  refine⟨by rw[c];exact h.nd,λx=>?_,λp hp=>?_,?_⟩
  ·rw[c,h.mem,xce,xcj];exact⟨.inl,λz=>z.elim id λe=>e ▸ hk⟩
  ·obtain⟨q,r,rfl⟩:=xbq.mp hp;have:=h.val q r;by_cases e:q.1=k
   ·rw[if_pos e];dsimp only;rw[e,xfh];simp
   ·rw[if_neg e,this,xfh];have:List.count q.1 [k]=0:=by rw[xge];simpa using e
    rw[this];rfl
  ·rw[xbb,xbk];have:=h.len;lia
 ·rw[if_neg (by simpa using hk)];refine⟨?_,λx=>?_,λp hp=>?_,?_⟩
  ·rw[xdi,xjk];refine⟨h.nd,by simp,λa o b i=>?_⟩;simp at i;subst i;exact λe=>hk ((h.mem _).mp (e ▸ o))
  ·rw[xdi,xce,h.mem,xce];simp
  ·rcases xce.mp hp with hp|hp
   ·have m:=h.val p hp;have j:p.1≠k:=λe=>hk ((h.mem _).mp (e ▸ xbq.mpr ⟨p,hp,rfl⟩))
    rw[m,xfh];have:List.count p.1 [k]=0:=by rw[xge];simpa using j
    rw[this];rfl
   ·simp at hp;subst hp;rw[xfh,xge.mpr hk];simp
  ·rw[xbk,xbk];have:=h.len;simp;exact this
noncomputable def oddB(n:Nat):D:=.bl (decide (n%2=1))
theorem zzv(n:Nat):oddB (n+1)=.bl (!decide (n%2=1)):=by
 unfold oddB
 congr 1
 by_cases h:n%2=1
 ·rw[xbw h,xcd (by lia)];rfl
 ·rw[xcd h,xbw (by lia)];rfl
theorem ztb(S:seqV x=some (aJ l))(X:l.length<=1000000)(j:(aN l).length<=1000000):∃g,zbe [x] au=.ok (aK (aO l)) (au++g):=by
 have W:=zwm (bd:=gN 2) (body:=zfo) (xs:=aJ l) (σ:=[some x,some (.ref au.length),none]) (au:=au++[.dT []])
  (λi σ s=>∃(v:Option D) (a:List (List Int×D)),σ=[some x,some (.ref au.length),v]/\s=au++[.dT a]/\CntG oddB a (l.take i)) ⟨none,[],rfl,rfl,CntG.nil _⟩ (by
   rintro i y σ s C ⟨v,a,rfl,rfl,b⟩;obtain⟨k,n,rfl⟩:=zx C;have q:=b.put k;have o:(au++[O.dT a])[au.length]?=some (.dT a):=by simp
   have d:(valD a k).getD (.bl false)=.bl (decide ((l.take i).count k%2=1)):=by
    rw[b.at];split
    ·rfl
    ·rename_i z;rw[xge.mpr z];rfl
   have t:=zew k;have P:=zla o;have A:a.length<sizeLine:=by
    have h1:=b.len;have Y:(l.take i).length<=l.length:=by rw[xcq];exact xgr _ _
    exact smallT _ (by lia)
   refine⟨[some x,some (.ref au.length),some (aL k)],[some x,some (.ref au.length),some (aL k)],au++[.dT (putD a k (oddB ((l.take i).count k+1)))],rfl,?_,some (aL k),_,rfl,rfl,by rw[ze n];exact q⟩;rw[zzv];unfold zfo;simp only[aL] at *
   simp only[zbcg,zboo,zbhp,zbon,eC_v,xgk,xkz,zbb,P,t,d,o,A,xfl]
   simp)
 obtain⟨σ',Q,e,v,a,rfl,rfl,b⟩:=W;rw[zc,xbu] at b;have V:=zno (bd:=gN 0) (c:=eTru (aS oDGet (aA 1) (aA 0))) (f:=aA 0) (xs:=aJ (a.map (·.1))) (σ:=[none,some (.ref au.length)]) (au:=au++[.fT a])
  (λi acc σ s=>s=au++[.fT a]/\(∃w:Option D,σ=[w,some (.ref au.length)])/\acc=aJ (((a.map (·.1)).take i).filter λk=>decide (l.count k%2=1))) ⟨rfl,⟨none,rfl⟩,rfl⟩ (by
   rintro i y acc σ s C ⟨rfl,⟨w,rfl⟩,rfl⟩;obtain⟨k,n,rfl⟩:=zx C;have o:(au++[O.fT a])[au.length]?=some (.fT a):=by simp
   have u:k∈l:=(b.mem k).mp (xbo n);have d:valD a k=some (oddB (l.count k)):=by rw[b.at,if_pos u]
   have t:oDGet (.ref au.length) (aL k) (au++[O.fT a])=.ok (oddB (l.count k)) _:=zbgg (zbfw o) d;refine⟨[some (aL k),some (.ref au.length)],decide (l.count k%2=1),au++[.fT a],rfl,?_,?_⟩
   ·rw[zwr];show((oDGet (.ref au.length) (aL k) (au++[O.fT a])).bind _)=_;rw[t]
    rfl
   ·by_cases j:l.count k%2=1
    ·refine .inr ⟨xbw j,aL k,_,rfl,rfl,⟨_,rfl⟩,?_⟩;rw[ze n,xfd];simp[j,aJ]
    ·refine .inl ⟨xcd j,rfl,⟨_,rfl⟩,?_⟩;rw[ze n,xfd]
     simp[j,aJ])
 obtain⟨ys,σ2,J,d,rfl,⟨w,rfl⟩,rfl⟩:=V;rw[zc,xbu] at d;refine⟨[.fT a],zfn rfl ?_⟩;have H:((a.map (·.1)).filter λk=>decide (l.count k%2=1)).Nodup:=b.nd.filter _;have G:∀k,k∈((a.map (·.1)).filter λk=>decide (l.count k%2=1))↔l.count k%2=1:=λk=>by
  rw[xcn,b.mem,xjn];refine⟨λh=>h.2,λh=>⟨?_,h⟩⟩;rcases xjd (l.count k) with z|z
  ·rw[z] at h;cases h
  ·exact xhv.mp z
 have A:sortR ((a.map (·.1)).filter λk=>decide (l.count k%2=1))=aO l:=zvj H G;have r:((a.map (·.1)).filter λk=>decide (l.count k%2=1)).length<=1000000:=by
  have p:=zgh H (zdf l) λk=>by rw[G,zgj]
  rw[p.length_eq];exact j
 have E:=zpm (au:=au++[.fT a]) r;rw[A] at E;have m:(aJ (a.map (·.1))).length<=sizeLine:=by
  rw[zc,xbb];exact small _ (by have:=b.len;lia)
 refine seqN (σ1:=[some x,some (.ref au.length),none]) (st1:=au++[.dT []]) (by simp) ?_;refine seqN (σ1:=[some x,some (.ref au.length),v]) (st1:=au++[.dT a]) (by simp[S,e]) ?_;have I:aG (iDict (aA 1)) 1 [1] (gN 0) (eTru (aS oDGet (aA 1) (aA 0))) (aA 0) [some x,some (.ref au.length),v] (au++[.dT a])=.ok (.lst (aJ ((a.map (·.1)).filter λk=>decide (l.count k%2=1)))) (au++[.fT a]):=by
  rw[zkj];have U:iDict (aA 1) [some x,some (.ref au.length),v] (au++[.dT a])=.ok (aJ (a.map (·.1))) (au++[.fT a]):=by
   simp
  rw[U,zbb,if_pos m];show(compF _ _ _ _ [none,some (.ref au.length)] _).bind _=_;rw[d]
  rfl
 rw[zun,zff,zjh,zff,zjh,I];simp only[zbb,zbqo,E,zxl]
theorem mulR(a:-10000<=j)(b:j<=10000):CMul i j:=.inr ⟨by lia,by lia⟩
theorem rngN(a:-10000<=j)(b:j<=10000):RngOk j:=rngOk (by lia) (by lia)
structure RowOk (r:List Int) (most:Int) (long:Nat):Prop where
 pos:∀p∈r,1<=p
 sum:r.sum<=most
 len:r.length<=long
theorem zcl{r:List Int}(h:∀p∈r,1<=p):0<=r.sum:=by
 induction r with
 |nil=>simp
 |cons a r ih=>
  rw[xcu];have:=h a xbv;have:=ih λp b=>h p (xbf _ b)
  lia
theorem Drew.over(d:Drew au s n)(h:n<au.length)(j:au.length<=k):Drew au (s.set k o) n:=by
 obtain⟨c,x,g,a,e⟩:=d.bag;exact⟨by rw[xdr];exact d.len,λi f b=>by rw[xbx (by lia)];exact d.keep i f b,c,x,by rw[xbx (by lia)];exact g,a,e⟩
theorem zxq(a:List D)(y:D):L2.atI (a++[y]) (-1)=some y:=by
 unfold L2.atI ixN;rw[xbk];have e:((-1:Int)+((a.length+[y].length:Nat):Int)).toNat=a.length:=by simp;lia
 rw[if_neg (by lia),if_pos (by simp;lia),e];simp
end Dd
namespace Dd
open L2
def WP{α:Type}(r:Res α) (Q:α->Store->Prop):Prop:=match r with
 |.ok a au=>Q a au
 |_=>False
theorem WP.get{α:Type}{r:Res α}{Q:α->Store->Prop}(h:WP r Q):∃a au,r=.ok a au/\Q a au:=by
 cases r with
 |ok a au=>exact⟨a,au,rfl,h⟩
 |exc x au=>exact h.elim
 |stuck=>exact h.elim
theorem WP.of{α:Type}{r:Res α}{Q:α->Store->Prop}{a:α}(e:r=.ok a au)(h:Q a au):WP r Q:=by rw[e];exact h
theorem WP.mono{α:Type}{r:Res α}{Q Q':α->Store->Prop}(h:WP r Q)(k:∀a b,Q a b->Q' a b):WP r Q':=by
 obtain⟨a,b,rfl,q⟩:=h.get;exact k a b q
theorem zg{α β:Type}{r:Res α}{f:α->Store->Res β}{Q:β->Store->Prop}:WP (r.bind f) Q=WP r (λa b=>WP (f a b) Q):=by
 cases r<;>rfl
def seqK(t:SS) (Q:Fl->Store->Prop):Fl->Store->Prop:=λfl a=>match fl with
 |.nx σ=>WP (t σ a) Q
 |fl=>Q fl a
theorem zbkd:WP (aD s t σ au) Q=WP (s σ au) (seqK t Q):=by
 unfold aD;cases s σ au with
 |ok fl st1=>cases fl<;>rfl
 |exc x au=>rfl
 |stuck=>rfl
theorem zyd{α:Type} [Decidable c]{a b:Res α}{Q:α->Store->Prop}:WP (if c then a else b) Q=if c then WP a Q else WP b Q:=by
 split<;>rfl
theorem zny{α:Type} [Decidable c]{a:Res α}{Q:α->Store->Prop}:WP (if c then a else .stuck) Q=(c/\WP a Q):=by
 by_cases h:c
 ·rw[if_pos h];simp[h]
 ·rw[if_neg h];simp[h,WP]
def retK(Q:D->Store->Prop):Fl->Store->Prop:=λb a=>match b with
 |.ret v=>Q v a
 |.nx _=>Q .non a
 |_=>False
theorem zju{n c:Nat}{b:SS}{a:List D}{d:Store}{Q:D->Store->Prop}(h:a.length=c)(k:WP (b (a.map some++List.replicate (n-c) none) d) (retK Q)):WP (fnD n c b a d) Q:=by
 obtain⟨f,g,e,q⟩:=k.get;unfold fnD;rw[if_pos h,e];cases f<;>first|exact q|exact q.elim
def bK(Q:Bool->Store->Prop):D->Store->Prop:=λv a=>match v with
 |.bl b=>Q b a
 |_=>False
def gK(b:SG) (Q:Fl->Store->Prop) (σ:DS):D->Store->Prop:=λv a=>match b v σ with
 |some σ1=>Q (.nx σ1) a
 |none=>False
theorem W:(∀{α:Type}{a:α}{e:Store}{Q:α->Store->Prop},WP (.ok a e) Q=Q a e)
 /\ (∀{s t:SS}{σ:DS}{e:Store}{Q:Fl->Store->Prop},WP (aD s t σ e) Q=WP (s σ e) (seqK t Q))
 /\ (∀{t:SS}{σ:DS}{e:Store}{Q:Fl->Store->Prop},seqK t Q (.nx σ) e=WP (t σ e) Q)
 /\ (∀{t:SS}{v:D}{e:Store}{Q:Fl->Store->Prop},seqK t Q (.ret v) e=Q (.ret v) e)
 /\ (∀{t:SS}{σ:DS}{e:Store}{Q:Fl->Store->Prop},seqK t Q (.brk σ) e=Q (.brk σ) e)
 /\ (∀{t:SS}{σ:DS}{e:Store}{Q:Fl->Store->Prop},seqK t Q (.ct σ) e=Q (.ct σ) e)
 /\ (∀{v:D}{e:Store}{Q:D->Store->Prop},retK Q (.ret v) e=Q v e)
 /\ (∀{σ:DS}{e:Store}{Q:D->Store->Prop},retK Q (.nx σ) e=Q .non e)
 /\ (∀{b:Bool}{e:Store}{Q:Bool->Store->Prop},bK Q (.bl b) e=Q b e)
 /\ (∀{d:D}{σ:DS}{e:Store}{Q:D->Store->Prop},WP (eC d σ e) Q=Q d e)
 /\ (∀{g:D->D->Store->Res D}{f p:SE}{σ:DS}{e:Store}{Q:D->Store->Prop},WP (aS g f p σ e) Q=WP (f σ e) (λx l=>WP (p σ l) (λy n=>WP (g x y n) Q)))
 /\ (∀{g:D->Store->Res D}{f:SE}{σ:DS}{e:Store}{Q:D->Store->Prop},WP (eUn g f σ e) Q=WP (f σ e) (λx l=>WP (g x l) Q))
 /\ (∀{g:List D->Store->Res D}{f:SA}{σ:DS}{e:Store}{Q:D->Store->Prop},WP (aE g f σ e) Q=WP (f σ e) (λx l=>WP (g x l) Q))
 /\ (∀{σ:DS}{e:Store}{Q:List D->Store->Prop},WP (aC σ e) Q=Q [] e)
 /\ (∀{f:SE}{g:SA}{σ:DS}{e:Store}{Q:List D->Store->Prop},WP (aB f g σ e) Q=WP (f σ e) (λx l=>WP (g σ l) (λm n=>Q (x::m) n)))
 /\ (∀{f:SE}{σ:DS}{e:Store}{Q:Bool->Store->Prop},WP (eB f σ e) Q=WP (f σ e) (bK Q))
 /\ (∀{f p:ST}{σ:DS}{e:Store}{Q:Bool->Store->Prop},WP (bAnd f p σ e) Q=WP (f σ e) (λb l=>if b=true then WP (p σ l) Q else Q false l))
 /\ (∀{f p:ST}{σ:DS}{e:Store}{Q:Bool->Store->Prop},WP (bOr f p σ e) Q=WP (f σ e) (λb l=>if b=true then Q true l else WP (p σ l) Q))
 /\ (∀{f:ST}{σ:DS}{e:Store}{Q:Bool->Store->Prop},WP (bNot f σ e) Q=WP (f σ e) (λb l=>Q (!b) l))
 /\ (∀{σ:DS}{e:Store}{Q:Bool->Store->Prop},WP (aI σ e) Q=Q true e)
 /\ (∀{f p:SE}{σ:DS}{e:Store}{Q:D->Store->Prop},WP (eAnd f p σ e) Q=WP (f σ e) (bK λb l=>if b=true then WP (p σ l) Q else Q (.bl false) l))
 /\ (∀{f p:SE}{σ:DS}{e:Store}{Q:D->Store->Prop},WP (eOr f p σ e) Q=WP (f σ e) (bK λb l=>if b=true then Q (.bl true) l else WP (p σ l) Q))
 /\ (∀{f:SE}{σ:DS}{e:Store}{Q:D->Store->Prop},WP (eNot f σ e) Q=WP (f σ e) (bK λb l=>Q (.bl (!b)) l))
 /\ (∀{c:ST}{f p:SE}{σ:DS}{e:Store}{Q:D->Store->Prop},WP (eIf c f p σ e) Q=WP (c σ e) (λb l=>if b=true then WP (f σ l) Q else WP (p σ l) Q))
 /\ (∀{g:SA}{σ:DS}{e:Store}{Q:D->Store->Prop},WP (aR g σ e) Q=WP (g σ e) (λm l=>m.length<=sizeLine/\Q (.tup m) l))
 /\ (∀{g:SA}{σ:DS}{e:Store}{Q:D->Store->Prop},WP (eLst g σ e) Q=WP (g σ e) (λm l=>m.length<=sizeLine/\Q (.lst m) l))
 /\ (∀{g:SA}{σ:DS}{e:Store}{Q:D->Store->Prop},WP (eLstM g σ e) Q=WP (g σ e) (λm l=>m.length<=sizeLine/\Q (.ref l.length) (l++[.lst m])))
 /\ (∀{σ:DS}{e:Store}{Q:D->Store->Prop},WP (eDNew σ e) Q=Q (.ref e.length) (e++[.dT []]))
 /\ (∀{σ:DS}{e:Store}{Q:Fl->Store->Prop},WP (sNx σ e) Q=Q (.nx σ) e)
 /\ (∀{σ:DS}{e:Store}{Q:Fl->Store->Prop},WP (sBrk σ e) Q=Q (.brk σ) e)
 /\ (∀{σ:DS}{e:Store}{Q:Fl->Store->Prop},WP (sCt σ e) Q=Q (.ct σ) e)
 /\ (∀{σ:DS}{e:Store}{Q:Fl->Store->Prop},WP (sRetN σ e) Q=Q (.ret .non) e)
 /\ (∀{f:SE}{σ:DS}{e:Store}{Q:Fl->Store->Prop},WP (sRet f σ e) Q=WP (f σ e) (λv l=>Q (.ret v) l))
 /\ (∀{f:SE}{σ:DS}{e:Store}{Q:Fl->Store->Prop},WP (sDrop f σ e) Q=WP (f σ e) (λ_ l=>Q (.nx σ) l))
 /\ (∀{i:Nat}{f:SE}{σ:DS}{e:Store}{Q:Fl->Store->Prop},WP (aF i f σ e) Q=WP (f σ e) (λv l=>Q (.nx (σ.set i (some v))) l))
 /\ (∀{r:SG}{f:SE}{σ:DS}{e:Store}{Q:Fl->Store->Prop},WP (sSetG r f σ e) Q=WP (f σ e) (gK r Q σ))
 /\ (∀{c:ST}{s t:SS}{σ:DS}{e:Store}{Q:Fl->Store->Prop},WP (sIf c s t σ e) Q=WP (c σ e) (λb l=>if b=true then WP (s σ l) Q else WP (t σ l) Q))
 /\ (∀{u:SA}{r:SG}{w:SS}{σ:DS}{e:Store}{Q:Fl->Store->Prop},WP (sFor u r w σ e) Q=WP (u σ e) (λm l=>WP (forF r w m σ l) Q))
 /\ (∀{u:SA}{k:Nat}{is:List Nat}{r:SG}{c:ST}{f:SE}{σ:DS}{e:Store}{Q:D->Store->Prop},WP (aG u k is r c f σ e) Q=WP (u σ e) (λm l=>m.length<=sizeLine/\WP (compF r c f m (aT k is σ) l) (λE n=>Q (.lst E) n)))
 /\ (∀{u:SA}{k:Nat}{is:List Nat}{r:SG}{c:ST}{f:SE}{σ:DS}{e:Store}{Q:D->Store->Prop},WP (eCompM u k is r c f σ e) Q=WP (u σ e) (λm l=>m.length<=sizeLine/\WP (compF r c f m (aT k is σ) l) (λE n=>Q (.ref n.length) (n++[.lst E]))))
 /\ (∀{C:Int->Int->Prop} [DecidableRel C] {h:Int->Int->D}{i j:Int}{e:Store}{Q:D->Store->Prop},WP (oI C h (.int i) (.int j) e) Q=(C i j/\Q (h i j) e))
 /\ (∀{i j:Int}{e:Store}{Q:D->Store->Prop},WP (aM (.int i) (.int j) e) Q=Q (.int (i+j)) e)
 /\ (∀{a b:List D}{e:Store}{Q:D->Store->Prop},WP (aM (.tup a) (.tup b) e) Q=(a.length+b.length<=sizeLine/\Q (.tup (a++b)) e))
 /\ (∀{i j:Int}{e:Store}{Q:D->Store->Prop},WP (oLtT (.int i) (.int j) e) Q=Q (.bl (decide (i<j))) e)
 /\ (∀{i j:Int}{e:Store}{Q:D->Store->Prop},WP (oEqG false (.int i) (.int j) e) Q=Q (.bl (decide (i=j))) e)
 /\ (∀{i j:Int}{e:Store}{Q:D->Store->Prop},WP (oEqG true (.int i) (.int j) e) Q=Q (.bl (!decide (i=j))) e)
 /\ (∀{i:Int}{e:Store}{Q:D->Store->Prop},WP (oNeg (.int i) e) Q=Q (.int (-i)) e)
 /\ (∀{i j:Int}{g:Int->Int->Int}{e:Store}{Q:D->Store->Prop},WP (b2I g [.int i,.int j] e) Q=Q (.int (g i j)) e)
 /\ (∀{i:Int}{e:Store}{Q:D->Store->Prop},WP (bAbs [.int i] e) Q=Q (.int (if i<0 then -i else i)) e)
 /\ (∀{b:Bool}{e:Store}{Q:D->Store->Prop},WP (bInt [.bl b] e) Q=Q (.int (if b=true then 1 else 0)) e)
 /\ (∀{m:List D}{e:Store}{Q:D->Store->Prop},WP (bLen [.tup m] e) Q=Q (.int m.length) e)
 /\ (∀{m:List D}{e:Store}{Q:D->Store->Prop},WP (bLen [.lst m] e) Q=Q (.int m.length) e)
 /\ (∀{m:List D}{e:Store}{Q:D->Store->Prop},WP (bLen [.scr m] e) Q=Q (.int m.length) e)
 /\ (∀{m:List D}{e:Store}{Q:D->Store->Prop},WP (bTuple [.tup m] e) Q=Q (.tup m) e)
 /\ (∀{m:List D}{e:Store}{Q:D->Store->Prop},WP (bTuple [.lst m] e) Q=Q (.tup m) e)
 /\ (∀{m:List D}{e:Store}{Q:D->Store->Prop},WP (bList [.tup m] e) Q=Q (.lst m) e)
 /\ (∀{m:List D}{e:Store}{Q:D->Store->Prop},WP (bList [.lst m] e) Q=Q (.lst m) e)
 /\ (∀{d:D}{σ:DS}{e:Store}{Q:D->Store->Prop},WP (aA 0 (some d::σ) e) Q=Q d e)
 /\ (∀{i:Nat}{σ:DS}{e:Store}{Q:D->Store->Prop}{o:Option D},WP (aA (i+1) (o::σ) e) Q=WP (aA i σ e) Q)
 /\ (∀{f:SE}{σ:DS}{e:Store}{Q:List D->Store->Prop},WP (aH f σ e) Q=WP (f σ e) (λx l=>∃m,seqV x=some m/\Q m l))
 /\ (∀{f:SE}{σ:DS}{e:Store}{Q:Bool->Store->Prop},WP (eTru f σ e) Q=WP (f σ e) (λx l=>∃b,tru l x=some b/\Q b l))
 /\ (∀{g:SA}{σ:DS}{e:Store}{Q:List D->Store->Prop},WP (iR1 g σ e) Q=WP (g σ e) (λm l=>∃j,m=[.int j]/\RngOk j/\Q (rng 0 j.toNat) l))
 /\ (∀{g:SA}{σ:DS}{e:Store}{Q:List D->Store->Prop},WP (iR2 g σ e) Q=WP (g σ e) (λm l=>∃i j,m=[.int i,.int j]/\RngOk i/\RngOk j/\Q (rng i (j-i).toNat) l)):=by
 have z:∀{α:Type}{c:Prop} [Decidable c] {a:α}{e:Store}{Q:α->Store->Prop},WP (if c then .ok a e else .stuck) Q=(c/\Q a e):=λ{α c _ a e Q}=>zny
 refine⟨rfl,zbkd,rfl,rfl,rfl,rfl,rfl,rfl,rfl,rfl,?_⟩;refine⟨?_,?_⟩
 ·intros;rw[zbyk,zg];congr;funext x l;rw[zg]
 refine⟨zg,zg,rfl,?_⟩;refine⟨?_,?_⟩
 ·intros;rw[zjh,zg];congr;funext x l;rw[zg];rfl
 refine⟨?_,?_⟩
 ·intros;rw[eB_v,zg];congr;funext x l;cases x<;>rfl
 refine⟨?_,?_⟩
 ·intros;rw[zbwa,zg];congr;funext x l;rw[zyd];rfl
 refine⟨?_,?_⟩
 ·intros;rw[zbzd,zg];congr;funext x l;rw[zyd];rfl
 refine⟨zg,rfl,?_⟩;refine⟨?_,?_⟩
 ·intros;rw[zbhq,zg];congr;funext x l;cases x<;>try rfl
  rename_i b;cases b<;>rfl
 refine⟨?_,?_⟩
 ·intros;rw[zbyj,zg];congr;funext x l;cases x<;>try rfl
  rename_i b;cases b<;>rfl
 refine⟨?_,?_⟩
 ·intros;rw[zboo,zg];congr;funext x l;cases x<;>rfl
 refine⟨?_,?_⟩
 ·intros;rw[zbyl,zg];congr;funext x l;rw[zyd]
 refine⟨?_,?_⟩
 ·intros;rw[zbug,zg];congr;funext x l;rw[z]
 refine⟨?_,?_⟩
 ·intros;rw[zbuh,zg];congr;funext x l;rw[z]
 refine⟨?_,?_⟩
 ·intros;rw[zbop,zg];congr;funext x l;rw[z]
 refine⟨rfl,rfl,rfl,rfl,rfl,zg,zg,zg,?_⟩;refine⟨?_,?_⟩
 ·intro r f σ e Q;unfold sSetG;rw[zg];congr;funext x l;unfold gK;cases r x σ<;>rfl
 refine⟨?_,?_⟩
 ·intros;rw[zbrx,zg];congr;funext x l;rw[zyd]
 refine⟨zg,?_⟩;refine⟨?_,?_⟩
 ·intros;rw[zkj,zg];congr;funext x l;rw[zny,zg];rfl
 refine⟨?_,?_⟩
 ·intros;unfold eCompM;rw[zg];congr;funext x l;rw[zny,zg];rfl
 refine⟨?_,?_⟩
 ·intros;rw[oI_v,z]
 refine⟨rfl,?_⟩;refine⟨?_,?_⟩
 ·intros;rw[zbmz,z]
 refine⟨rfl,?_⟩;refine⟨?_,?_⟩
 ·intros;rw[show ∀i j e,oEqG false (.int i) (.int j) e=_ from λi j e=>zbyd];rfl
 refine⟨?_,?_⟩
 ·intros;rw[show ∀i j e,oEqG true (.int i) (.int j) e=_ from λi j e=>zbxz];rfl
 refine⟨rfl,rfl,rfl,rfl,rfl,rfl,rfl,rfl,rfl,rfl,rfl,λ{d σ e Q}=>rfl,λ{i σ e Q o}=>rfl,?_⟩;refine⟨?_,?_⟩
 ·intros;rw[zboj,zg];congr;funext x l
  cases h:seqV x with
  |none=>simp[WP]
  |some m=>simp[WP]
 refine⟨?_,?_⟩
 ·intros;rw[zwr,zg];congr;funext x l
  cases h:tru l x with
  |none=>simp[WP]
  |some m=>simp[WP]
 refine⟨?_,?_⟩
 ·intros;rw[zbyg,zg];congr;funext x l
  split
  ·rw[z];simp[RngOk]
  ·rename_i A;have:∀j,x≠[D.int j]:=λj h=>A j h
   simp[WP,this]
 ·intros;rw[zbyf,zg];congr;funext x l
  split
  ·rw[z];simp only[RngOk,List.cons.injEq,D.int.injEq,and_true];apply propext;constructor
   ·rintro⟨h,q⟩;exact⟨_,_,⟨rfl,rfl⟩,h.1,h.2,q⟩
   ·rintro⟨J,I,⟨rfl,rfl⟩,H,G,q⟩;exact⟨⟨H,G⟩,q⟩
  ·rename_i A;have:∀i j,x≠[D.int i,D.int j]:=λi j h=>A i j h
   simp[WP,this]
def loopK(I:DS->Store->Prop) (Q:Fl->Store->Prop):Fl->Store->Prop:=λb a=>match b with
 |.nx σ=>I σ a
 |.ct σ=>I σ a
 |.brk σ=>Q (.nx σ) a
 |.ret v=>Q (.ret v) a
theorem zjt{g:SG}{b:SS}{Q:Fl->Store->Prop}(I:Nat->DS->Store->Prop):∀(d:List D) (k:Nat) (σ:DS) (a:Store),I k σ a ->
  (∀i x σ a,d[i]?=some x->I (k+i) σ a->∃f,g x σ=some f/\WP (b f a) (loopK (I (k+i+1)) Q))->(∀σ a,I (k+d.length) σ a->Q (.nx σ) a)->WP (forF g b d σ a) Q
 |[],k,σ,a,h,_,q=>q σ a h
 |x::d,k,σ,a,h,s,q=>by
  obtain⟨f,p,w⟩:=s 0 x σ a rfl h;obtain⟨r,e,m,w⟩:=w.get;unfold forF;rw[p];dsimp only;rw[m]
  have j:∀c,I (k+0+1) c e->WP (forF g b d c e) Q:=λc l=>zjt I d (k+1) c e l (λi y σ a n o=>by
   have:=s (i+1) y σ a (by simpa using n) (by rw[show k+(i+1)=k+1+i by lia];exact o);rw[show k+(i+1)+1=k+1+i+1 by lia] at this
   exact this) (λσ a h=>q σ a (by rw[xbt,show k+(d.length+1)=k+1+d.length by lia];exact h))
  cases r with
  |nx c=>exact j c w
  |ct c=>exact j c w
  |brk c=>exact w
  |ret v=>exact w
theorem zcb(I:Nat->DS->Store->Prop) (e:I 0 σ a)
  (s:∀i x σ a,xs[i]?=some x->I i σ a->∃b,bd x σ=some b/\WP (body b a) (loopK (I (i+1)) Q))(q:∀σ a,I xs.length σ a->Q (.nx σ) a):WP (forF bd body xs σ a) Q:=
 zjt I xs 0 σ a e (λi x σ a d c=>by rw[xeg] at c ⊢;exact s i x σ a d c) λσ a h=>q σ a (by rw[xeg] at h;exact h)
theorem L:(∀{I:DS->Store->Prop}{Q:Fl->Store->Prop}{σ:DS}{a:Store},loopK I Q (.nx σ) a=I σ a)
 /\ (∀{I:DS->Store->Prop}{Q:Fl->Store->Prop}{σ:DS}{a:Store},loopK I Q (.ct σ) a=I σ a)
 /\ (∀{I:DS->Store->Prop}{Q:Fl->Store->Prop}{σ:DS}{a:Store},loopK I Q (.brk σ) a=Q (.nx σ) a)
 /\ (∀{I:DS->Store->Prop}{Q:Fl->Store->Prop}{v:D}{a:Store},loopK I Q (.ret v) a=Q (.ret v) a):=⟨rfl,rfl,rfl,rfl⟩
theorem zfl{m:SG}{c:ST}{f:SE}(I:Nat->List D->DS->Store->Prop):∀(g:List D) (k:Nat) (acc:List D) (σ:DS) (au:Store) (Q:List D->Store->Prop),I k acc σ au ->
  (∀i x acc σ au,g[i]?=some x->I (k+i) acc σ au->∃d,m x σ=some d/\WP (c d au) (λb a=>if b=true then WP (f d a) (λy e=>I (k+i+1) (acc++[y]) d e) else I (k+i+1) acc d a)) ->
  (∀j σ au,I (k+g.length) (acc++j) σ au->Q j au)->WP (compF m c f g σ au) Q
 |[],k,acc,σ,au,Q,h,_,q=>q [] σ au (by rw[xei];exact h)
 |x::g,k,acc,σ,au,Q,h,s,q=>by
  obtain⟨d,v,w⟩:=s 0 x acc σ au rfl h;obtain⟨b,a,r,w⟩:=w.get;have o:∀i y acc σ au,g[i]?=some y->I (k+1+i) acc σ au->∃d,m y σ=some d/\WP (c d au) (λb a=>if b=true then WP (f d a) (λy e=>I (k+1+i+1) (acc++[y]) d e) else I (k+1+i+1) acc d a):=λi y acc σ au t u=>by
   have:=s (i+1) y acc σ au (by simpa using t) (by rw[show k+(i+1)=k+1+i by lia];exact u);rw[show k+(i+1)+1=k+1+i+1 by lia] at this;exact this
  have n:∀(l:List D) σ au,I (k+1+g.length) l σ au->I (k+(x::g).length) l σ au:=λl σ au h=>by rw[xbt,show k+(g.length+1)=k+1+g.length by lia];exact h
  unfold compF;rw[v];dsimp only;rw[r];dsimp only[zbb];cases b with
  |false=>
   rw[if_neg (by decide)] at w ⊢;exact zfl I g (k+1) acc d a Q w o λj σ au h=>q j σ au (n _ _ _ h)
  |true=>
   rw[if_pos rfl] at w ⊢;obtain⟨y,e,p,w⟩:=w.get;rw[p];dsimp only[zbb];rw[zg];exact zfl I g (k+1) (acc++[y]) d e _ w o λj σ au h=>q (y::j) σ au (n _ _ _ (by rw[xcm] at h;exact h))
theorem ztn(I:Nat->List D->DS->Store->Prop) (m:I 0 [] σ a)
  (s:∀i x acc σ a,xs[i]?=some x->I i acc σ a->∃d,bd x σ=some d/\WP (c d a) (λb e=>if b=true then WP (f d e) (λy j=>I (i+1) (acc++[y]) d j) else I (i+1) acc d e))
  (q:∀g σ a,I xs.length g σ a->Q g a):WP (compF bd c f xs σ a) Q:=
 zfl I xs 0 [] σ a Q m (λi x acc σ a l k=>by rw[xeg] at k ⊢;exact s i x acc σ a l k) λg σ a h=>q g σ a (by rw[xeg] at h;simpa using h)
theorem zme{m:SG}{c:ST}{f:SE}{α:Type}(S:DS->Prop)(P:α->Bool)(G:α->D)(E:α->D){as:List α}{σ:DS}{d:Store}{Q:List D->Store->Prop}(w:S σ)
  (s:∀x∈as,∀σ,S σ->∃e,m (E x) σ=some e/\S e/\WP (c e d) (λb a=>a=d/\b=P x)/\(P x=true->WP (f e d) (λy a=>a=d/\y=G x)))
  (q:Q ((as.filter P).map G) d):WP (compF m c f (as.map E) σ d) Q:=by
 refine ztn (λi acc σ k=>S σ/\k=d/\acc=((as.take i).filter P).map G) ⟨w,rfl,rfl⟩ (λi x acc σ k l j=>?_) λA σ k j=>?_
 ·obtain⟨t,rfl,rfl⟩:=j;rw[xcl] at l;obtain⟨z,h,rfl⟩:=xdc.mp l;obtain⟨e,p,g,r,u⟩:=s z (xbo h) σ t;refine⟨e,p,r.mono λb a v=>?_⟩;obtain⟨rfl,rfl⟩:=v;cases hP:P z with
  |false=>
   rw[if_neg (by decide)];refine⟨g,rfl,?_⟩;rw[ze h,xfd,xcs (by rw[hP];decide)];simp
  |true=>
   rw[if_pos rfl];refine(u hP).mono λy n o=>?_
   obtain⟨rfl,rfl⟩:=o;refine⟨g,rfl,?_⟩;rw[ze h,xfd,xcp hP,xdi];simp
 ·obtain⟨_,rfl,rfl⟩:=j;rw[xbb,xbu];exact q
theorem V:(∀{α:Type}{a b:α}{l:List α},(a::l).set 0 b=b::l)
 /\ (∀{α:Type}{a b:α}{l:List α}{i:Nat},(a::l).set (i+1) b=a::l.set i b)
 /\ (∀{σ:DS}{k:Nat}{is:List Nat},aT k is σ=List.replicate k none++is.map λi=>(σ[i]?).getD none)
 /\ (∀{α:Type}{a:α}{k:Nat},List.replicate (k+1) a=a::List.replicate k a)
 /\ (∀{α:Type}{a:α},List.replicate 0 a=[])
 /\ (∀{α β:Type}{f:α->β}{a:α}{l:List α},(a::l).map f=f a::l.map f)
 /\ (∀{α β:Type}{f:α->β},([]:List α).map f=[])
 /\ (∀{α:Type}{a:α}{l m:List α},(a::l)++m=a::(l++m))
 /\ (∀{α:Type}{l:List α},[]++l=l)
 /\ (∀{α:Type}{a:α}{l:List α},(a::l)[0]?=some a)
 /\ (∀{α:Type}{a:α}{l:List α}{i:Nat},(a::l)[i+1]?=l[i]?)
 /\ (∀{α:Type}{a:α}{d:α},(some a).getD d=a)
 /\ (∀{i:Nat}{d:D}{σ:DS},gN i d σ=some (σ.set i (some d)))
 /\ (∀{p:Prop} [Decidable p],(decide p=true)=p)
 /\ (∀{p:Prop} [Decidable p],((!decide p)=true)=¬ p)
 /\ (∀{b:Bool},((!b)=true)=(b=false))
 /\ (∀{a b:Prop},(if True then a else b)=a)
 /\ (∀{a b:Prop},(if False then a else b)=b)
 /\ (∀{a b:Prop},(if true=true then a else b)=a)
 /\ (∀{a b:Prop},(if false=true then a else b)=b)
 /\ (∀{α:Type}{a b:α},(if True then a else b)=a)
 /\ (∀{α:Type}{a b:α},(if False then a else b)=b)
 /\ ((true=false)=False)/\((false=true)=False)/\((true=true)=True)/\((false=false)=True)/\((¬ True)=False)/\((¬ False)=True):=by
 refine⟨rfl,rfl,rfl,rfl,rfl,rfl,rfl,rfl,rfl,rfl,?_,rfl,rfl,?_,?_,?_,rfl,rfl,rfl,rfl,rfl,rfl,by simp,by simp,by simp,by simp,by simp,by simp⟩
 ·intros;rfl
 ·intro p _;simp
 ·intro p _;simp
 ·intro b;simp
theorem M:(∀{f:SE}{σ:DS}{d:Store}{Q:Option Int->Store->Prop},WP (pSome f σ d) Q=WP (f σ d) (λv c=>∃i,v=.int i/\Q (some i) c))
 /\ (∀{σ:DS}{d:Store}{Q:Option Int->Store->Prop},WP (pNone σ d) Q=Q none d)
 /\ (∀{f:SE}{lo G:DS->Store->Res (Option Int)}{σ:DS}{d:Store}{Q:D->Store->Prop},WP (eSl f lo G σ d) Q=WP (f σ d) (λx c=>WP (lo σ c) (λl o=>WP (G σ o) (λh p=>(∃m,x=.tup m/\Q (.tup (cutD m l h)) p)\/(∃m,asL p x=some m/\Q (.lst (cutD m l h)) p)))))
 /\ (∀{f:SE}{σ:DS}{d:Store}{Q:D->Store->Prop},WP (eFz f σ d) Q=WP (f σ d) (λx c=>∃n m,x=.ref n/\c[n]?=some (.lst m)/\Q (.lst m) (c.set n .dead)))
 /\ (∀{f g h:SE}{σ:DS}{d:Store}{Q:Fl->Store->Prop},WP (sSetIx f g h σ d) Q=WP (h σ d) (λv c=>WP (f σ c) (λx o=>WP (g σ o) (λy p=>∃n k m j,x=.ref n/\y=.int k/\p[n]?=some (.lst m)/\ixN m.length k=some j/\Q (.nx σ) (p.set n (.lst (m.set j v)))))))
 /\ (∀{f:SE}{g:SA}{σ:DS}{d:Store}{Q:D->Store->Prop},WP (eAppend f g σ d) Q=WP (f σ d) (λx c=>∃n r,x=.ref n/\c[n]?=some (.lst r)/\WP (g σ c) (λw o=>∃y m,w=[y]/\o[n]?=some (.lst m)/\m.length<sizeLine/\Q .non (o.set n (.lst (m++[y]))))))
 /\ (∀{x:D}{d:Store}{Q:D->Store->Prop},WP (bSum [x] d) Q=∃s,(seqOf d x).bind asInts=some s/\Q (.int s.sum) d)
 /\ (∀{x:D}{C:Bool}{d:Store}{Q:D->Store->Prop},WP (bAny C [x] d) Q=∃u,(asL d x).bind asBools=some u/\Q (.bl (if C then u.all id else u.any id)) d)
 /\ (∀{x:D}{A:Bool}{d:Store}{Q:D->Store->Prop},WP (bBest A [x] d) Q=∃n s,(seqOf d x).bind asInts=some (n::s)/\Q (.int (bestI A n s)) d)
 /\ (∀{g:SA}{σ:DS}{d:Store}{Q:List D->Store->Prop},WP (iZipT g σ d) Q=WP (g σ d) (λm c=>∃a b,m=[.tup a,.tup b]/\Q (pairsF a b) c))
 /\ (∀{i:Nat}{g:D->D->Store->Res D}{f:SE}{σ:DS}{d:Store}{Q:Fl->Store->Prop},WP (sAug i g f σ d) Q=∃x,σ[i]?=some (some x)/\WP (f σ d) (λy c=>WP (g x y c) (λz o=>Q (.nx (σ.set i (some z))) o))):=by
 refine⟨?_,rfl,?_,?_,?_,?_,?_,?_,?_,?_,?_⟩
 ·intros;rw[zbmn,zg];congr;funext x c
  cases x<;>simp[WP]
 ·intros;rw[zbyi,zg];congr;funext x c;rw[zg];congr;funext l o;rw[zg];congr;funext h p
  apply propext;split
  ·constructor
   ·intro q;exact .inl ⟨_,rfl,q⟩
   ·rintro(⟨m,e,q⟩|⟨m,e,q⟩)
    ·cases e;exact q
    ·cases e
  ·rename_i E;constructor
   ·intro q;split at q
    ·rename_i m e;exact .inr ⟨m,e,q⟩
    ·exact q.elim
   ·rintro(⟨m,e,q⟩|⟨m,e,q⟩)
    ·exact absurd e (E m)
    ·rw[e];exact q
 ·intros;rw[zbym,zg];congr;funext x c
  apply propext;constructor
  ·intro q;split at q
   ·split at q
    ·rename_i m e;exact⟨_,m,rfl,e,q⟩
    ·exact q.elim
   ·exact q.elim
  ·rintro⟨n,m,rfl,e,q⟩;dsimp only;rw[e];exact q
 ·intros;rw[zbfa,zg];congr;funext v c;rw[zg];congr;funext x o;rw[zg];congr;funext y p
  apply propext;constructor
  ·intro q;split at q
   ·split at q
    ·split at q
     ·exact⟨_,_,_,_,rfl,rfl,by assumption,by assumption,q⟩
     ·exact q.elim
    ·exact q.elim
   ·exact q.elim
  ·rintro⟨n,k,m,j,rfl,rfl,I,t,q⟩;dsimp only;rw[I];dsimp only;rw[t];exact q
 ·intros;rw[zbar,zg];congr;funext x c
  apply propext;constructor
  ·intro q;split at q
   ·rename_i n r e;rw[zg] at q;have J:c[n]?=some (.lst r):=by
     unfold asL at e;dsimp only at e;split at e
     ·cases e;assumption
     ·cases e
    refine⟨n,r,rfl,J,q.mono λw o h=>?_⟩;split at h
    ·split at h
     ·exact⟨_,_,rfl,by assumption,by assumption,h⟩
     ·exact h.elim
    ·exact h.elim
   ·exact q.elim
  ·rintro⟨n,r,rfl,e,q⟩;rw[zhd e];dsimp only;rw[zg];refine q.mono λw o h=>?_
   obtain⟨y,m,rfl,t,H,h⟩:=h;rw[t];dsimp only;rw[if_pos H];exact h
 ·intro x d Q;unfold bSum;dsimp only;cases h:(seqOf d x).bind asInts with
  |none=>simp[WP]
  |some s=>simp[WP]
 ·intro x C d Q;unfold bAny;dsimp only;cases h:(asL d x).bind asBools with
  |none=>simp[WP]
  |some s=>simp[WP]
 ·intro x A d Q;unfold bBest;dsimp only;cases h:(seqOf d x).bind asInts with
  |none=>simp[WP]
  |some s=>
   cases s with
   |nil=>simp[WP]
   |cons n s=>
    apply propext;constructor
    ·intro q;exact⟨_,_,rfl,q⟩
    ·rintro⟨a,b,e,q⟩;cases e;exact q
 ·intro g σ d Q;unfold iZipT;rw[zg];congr;funext x c
  apply propext;constructor
  ·intro q;split at q
   ·exact⟨_,_,rfl,q⟩
   ·exact q.elim
  ·rintro⟨a,b,rfl,q⟩;exact q
 ·intro i g f σ d Q;rw[zbry];apply propext;constructor
  ·intro q;split at q
   ·rename_i x e;rw[zg] at q;exact⟨x,e,q.mono λy c h=>by rw[zg] at h;exact h⟩
   ·exact q.elim
  ·rintro⟨x,e,q⟩;rw[e];dsimp only;rw[zg];exact q.mono λy c h=>by rw[zg];exact h
theorem N:(∀{g:List D}{P:List D->Prop},(∃f,D.tup g=D.tup f/\P f)=P g)
 /\ (∀{i:Int}{P:Int->Prop},(∃j,D.int i=D.int j/\P j)=P i)
 /\ (∀{g:List D}{h:Store}{P:List D->Prop},(∃f,asL h (.tup g)=some f/\P f)=False)
 /\ (∀{g:List D}{h:Store}{P:List D->Prop},(∃f,asL h (.lst g)=some f/\P f)=P g)
 /\ (∀{g:List D}{P:List D->Prop},(∃f,seqV (.tup g)=some f/\P f)=P g)
 /\ (∀{g:List D}{P:List D->Prop},(∃f,seqV (.lst g)=some f/\P f)=P g)
 /\ (∀{b:Bool}{h:Store}{P:Bool->Prop},(∃c,tru h (.bl b)=some c/\P c)=P b)
 /\ (∀{i:Int}{P:Int->Prop},(∃j,[D.int i]=[D.int j]/\P j)=P i)
 /\ (∀{i j:Int}{P:Int->Int->Prop},(∃k l,[D.int i,D.int j]=[D.int k,D.int l]/\P k l)=P i j)
 /\ (∀{x:D}{P:D->Prop},(∃y,[x]=[y]/\P y)=P x)
 /\ (∀{a b:List D}{P:List D->List D->Prop},(∃c d,[D.tup a,D.tup b]=[.tup c,.tup d]/\P c d)=P a b)
 /\ (∀{p:Prop},(p\/False)=p)/\(∀{p:Prop},(True/\p)=p):=by
 refine⟨?_,?_,?_,?_,?_,?_,?_,?_,?_,?_,?_,by simp,by simp⟩
 ·intros;apply propext;exact⟨λ⟨_,e,p⟩=>by cases e;exact p,λp=>⟨_,rfl,p⟩⟩
 ·intros;apply propext;exact⟨λ⟨_,e,p⟩=>by cases e;exact p,λp=>⟨_,rfl,p⟩⟩
 ·intros;apply propext;exact⟨λ⟨_,e,p⟩=>(by cases e),λp=>p.elim⟩
 ·intros;apply propext;exact⟨λ⟨_,e,p⟩=>by cases e;exact p,λp=>⟨_,rfl,p⟩⟩
 ·intros;apply propext;exact⟨λ⟨_,e,p⟩=>by cases e;exact p,λp=>⟨_,rfl,p⟩⟩
 ·intros;apply propext;exact⟨λ⟨_,e,p⟩=>by cases e;exact p,λp=>⟨_,rfl,p⟩⟩
 ·intros;apply propext;exact⟨λ⟨_,e,p⟩=>by cases e;exact p,λp=>⟨_,rfl,p⟩⟩
 ·intros;apply propext;exact⟨λ⟨_,e,p⟩=>by cases e;exact p,λp=>⟨_,rfl,p⟩⟩
 ·intros;apply propext;exact⟨λ⟨_,_,e,p⟩=>by cases e;exact p,λp=>⟨_,_,rfl,p⟩⟩
 ·intros;apply propext;exact⟨λ⟨_,e,p⟩=>by cases e;exact p,λp=>⟨_,rfl,p⟩⟩
 ·intros;apply propext;exact⟨λ⟨_,_,e,p⟩=>by cases e;exact p,λp=>⟨_,_,rfl,p⟩⟩
theorem zgx(g:BagAt au n)(h:1<=m)(b:m<=1000000)(k:∀r a,0<=r->r<m->Drew au a n->Q (.int r) a):WP (zt [.ref n,.int m] au) Q:=by
 obtain⟨r,a,e,c,f,d,_⟩:=zbks g h (Int.lt_of_le_of_lt b (by decide +kernel));exact WP.of e (k r a c f d)
theorem zbtw(h:seqOf au x=some xs)(a:L2.atI xs i=some d)(q:Q d au):WP (oIx x (.int i) au) Q:=WP.of (zjq h a) q
theorem zbvt{a:List Int}{i:Nat}(b:a.length<=63)(d:i<=100000)(k:∀g,BagAt (au++g) au.length->Q (.ref au.length) (au++g)):WP (zgb [.scr (a.map .int),.int i] au) Q:=by
 obtain⟨c,x,h,f,e⟩:=zbvu (au:=au) b d;exact WP.of e (k _ ⟨c,x,by simp,h,f⟩)
abbrev Rise(l:List (List Int)):Prop:=l.Pairwise λa b=>HT.lexLt a b=true
theorem Rise.nodup(h:Rise l):l.Nodup:=xni (λ{a b} q e=>by subst e;rw[Srt.zft] at q;cases q) h
theorem Rise.up(h:Rise l):UpR l:=xni (λ{a b} q=>Srt.zqw q) h
theorem Rise.sort(h:Rise l):sortR l=l:=(zkx (.refl l) h.up).symm
theorem Rise.odd(h:Rise l):aO l=l:=by
 rw[←zvj (m:=l) h.nodup λx=>?_,h.sort];by_cases c:x∈l
 ·have b:l.count x<=1:=xih.mp h.nodup x;have d:0<l.count x:=xhv.mpr c;have a:l.count x=1:=by lia
  simp[c,a]
 ·simp[c,List.count_eq_zero_of_not_mem c]
theorem zblf(h:UpR l)(e:l.Nodup):Rise l:=xni (λ{a b} q=>by
 obtain⟨d,c⟩:=q;rcases Srt.znb a b with z|z|z
 ·exact z
 ·exact absurd z c
 ·rw[d] at z;cases z) (h.and e)
theorem zle(l:List (List Int)):Rise (aO l):=zblf (zkw _) (zcm l)
structure SumOk (n:Nat) (l:List (List Int)):Prop where
 rise:Rise l
 len:∀r∈l,r.length=n
 pos:∀r∈l,∀x∈r,0<=x
theorem zqb(h:∀r∈l,r.length=n/\∀x∈r,0<=x):SumOk n (aO l):=⟨zle l,λr a=>(h r (zdq a)).1,λr a=>(h r (zdq a)).2⟩
theorem Drew.lt(d:Drew au st' n)(h:n<au.length):n<st'.length:=xbm h d.len
theorem BagAt.lt(h:BagAt au n):n<au.length:=by obtain⟨c,x,e,_⟩:=h;exact zi e
theorem zow{r:List Int}{P:Int->Prop}(h:∀x∈r,P x){y:Int}(a:P y):∀x∈r++[y],P x:=λx hx=>by
 rcases xce.mp hx with hx|hx
 ·exact h x hx
 ·simp at hx;subst hx;exact a
theorem zlo{α:Type}(l:List α):(l.filter λ_=>true)=l:=xmk.mpr (by simp)
theorem ztw(l:List Int)(j:Nat):(l.drop j++l.take j).length=l.length:=by rw[xbk,xno,←xbk,xdg]
theorem zbeq{l:List Int}(h:l.length<=sizeLine):aM (.lst ((l.drop j).map .int)) (.lst ((l.take j).map .int)) s=.ok (.lst ((l.drop j++l.take j).map .int)) s:=by
 show(if _<=sizeLine then Res.ok (D.lst _) s else .stuck)=_;rw[if_pos,xdi];rw[xbb,xbb,←xbk,ztw];exact h
theorem zmw{l:List (List Int)}(a:seqV x=some (aJ l))(c:l.length<=1000000)(k:∀g,Q (aK (aO l)) (au++g)):WP (zbe [x] au) Q:=by
 have b:=zet l;obtain⟨g,e⟩:=ztb (au:=au) a (by lia) (by lia);exact WP.of e (k g)
theorem zeg(h:WP (s σ au) R)(k:∀b a,R b a->seqK t Q b a):WP (aD s t σ au) Q:=by
 rw[zbkd];exact h.mono k
noncomputable def FewU(l:List (List Int)):Prop:=∀a:List (List Int),a.Nodup->(∀x∈a,x∈l)->a.length<=1000000
theorem FewU.of{l U:List (List Int)}(h:∀x∈l,x∈U)(d:U.length<=1000000):FewU l:=λe b a=>xbc (xed b λx c=>h x (a x c)) d
theorem zbtg(h:x∈aN l):x∈l:=by
 rw[zgj] at h;rcases xjd (l.count x) with z|z
 ·rw[z] at h;cases h
 ·exact xhv.mp z
theorem FewU.odd(h:FewU l):(aN l).length<=1000000:=h _ (zdf l) λx a=>zbtg a
theorem FewU.sub(h:FewU l)(s:∀x∈m,x∈l):FewU m:=λb a d=>h b a λx c=>s x (d x c)
noncomputable def addR(a b:List Int):List Int:=(a.zip b).map λp=>p.1+p.2
def mulL(c b:List (List Int)):List (List Int):=c.flatMap λa=>b.map (addR a)
theorem ztg{a b:List Int}(h:a.length=b.length):(addR a b).length=a.length:=by unfold addR;simp[h]
theorem zev(b other:List (List Int)):(mulL b other).length=b.length*other.length:=by
 induction b with
 |nil=>simp[mulL]
 |cons a b ih=>
  have e:mulL (a::b) other=other.map (addR a)++mulL b other:=by simp[mulL]
  rw[e,xbk,xbb,ih,xbt,xhg];lia
theorem zqu(c b:List (List Int))(a:List Int):mulL (c++[a]) b=mulL c b++b.map (addR a):=by simp[mulL]
theorem zes:∀a b:List Int,pairsF (a.map .int) (b.map .int)=(a.zip b).map λp=>.tup [.int p.1,.int p.2]
 |[],b=>by simp[pairsF]
 |_::_,[]=>by simp[pairsF]
 |x::a,y::b=>by
  have c:=zes a b;rw[xms,xbr (f:=λp:Int×Int=>D.tup [.int p.1,.int p.2]),←c]
  rfl
theorem zwn(h:au[n]?=some (.dT (aQ ks)))(a:ks.length<=1000000)(q:Q .non (au.set n (.dT (aQ (aP ks k))))):WP (zfb [.ref n,aL k] au) Q:=WP.of (znh h a) q
theorem zkv(h:au[n]?=some (.dT (aQ ks)))(a:ks.length<=1000000)(q:Q (.lst (aJ (sortR ks))) au):WP (bSorted [.ref n] au) Q:=WP.of (zge h a) q
theorem zbbt(q:Q ((addR a b).map .int) au):WP (compF (gT 2 (gsCons (gN 0) (gsCons (gN 1) gsNil))) aI (aS aM (aA 0) (aA 1)) (pairsF (a.map .int) (b.map .int)) [none,none] au) Q:=by
 rw[zes];refine zme (as:=a.zip b) (λσ=>∃v w,σ=[v,w]) (λ_=>true) (λp=>.int (p.1+p.2)) (λp=>.tup [.int p.1,.int p.2]) ⟨_,_,rfl⟩ ?_ ?_
 ·rintro p c σ ⟨v,w,rfl⟩;refine⟨_,rfl,⟨_,_,rfl⟩,by simp only[W,xks],λ_=>?_⟩;simp only[W,V,xks]
 ·rw[zlo];unfold addR at q;rw[xcw] at q;exact q
theorem zmy{c:List (List Int)}(n:∀r∈d,r.length<=1000)(t:d.length*c.length<=1000000)(k:∀g,Q (aK (aO (mulL d c))) (au++g)):WP (zdz [aK d,aK c] au) Q:=by
 refine zju rfl ?_;simp only[W,V,N];refine zcb (λi σ s=>(∃v w,σ=[some (aK d),some (aK c),some (.ref au.length),v,w])/\s=au++[.dT (aQ (aN (mulL (d.take i) c)))]) ⟨⟨_,_,rfl⟩,rfl⟩ ?_ ?_
 ·rintro i y σ s f ⟨⟨v,w,rfl⟩,rfl⟩;obtain⟨a,h,rfl⟩:=zx f;refine⟨_,rfl,?_⟩;unfold zfi;simp only[W,V,N];have o:i<d.length:=(xbd.mp h).1;have m:(aN (mulL (d.take i) c)).length+c.length<=1000000:=by
   have e:=zet (mulL (d.take i) c);rw[zev] at e;have l:(d.take i).length=i:=by rw[xcq];lia
   rw[l] at e;have p:(i+1)*c.length<=d.length*c.length:=xcx _ o;rw[xhg] at p;lia
  refine zcb (λj σ s=>(∃w,σ=[some (aK d),some (aK c),some (.ref au.length),some (aL a),w])/\s=au++[.dT (aQ (((c.take j).map (addR a)).foldl aP (aN (mulL (d.take i) c))))]) ⟨⟨_,rfl⟩,rfl⟩ ?_ ?_
  ·rintro j y σ s f ⟨⟨w,rfl⟩,rfl⟩;obtain⟨b,q,rfl⟩:=zx f;refine⟨_,rfl,?_⟩;unfold zfj;simp only[W,V,M,N,L];refine⟨?_,zbbt ?_⟩
   ·rw[zes,xbb,List.length_zip];have:=n a (xbo h);exact small _ (by lia)
   ·have e:=zfw ((c.take j).map (addR a)) (aN (mulL (d.take i) c)) (zdf _);have l:(c.take j).length<=c.length:=by rw[xcq];exact xgr _ _
    rw[xbb] at e;refine zwn (k:=addR a b) (ks:=((c.take j).map (addR a)).foldl aP (aN (mulL (d.take i) c))) (by simp) (by lia) ⟨⟨_,rfl⟩,?_⟩;rw[ze q,xdi,xeq];simp
  ·rintro σ s ⟨⟨w,rfl⟩,rfl⟩;simp only[L];refine⟨⟨_,_,rfl⟩,?_⟩;rw[zc,xbu,ze h,zqu];unfold aN;rw[xeq]
 ·rintro σ s ⟨⟨v,w,rfl⟩,rfl⟩;rw[zc,xbu];simp only[W,V];have e:=zet (mulL d c);rw[zev] at e;refine zkv (ks:=aN (mulL d c)) (by simp) (by lia) ?_;simp only[W,V];exact k _
theorem zbit(a:List Int)(b:Int):cutD ((a++[b]).map D.int) none (some (-1))=a.map D.int:=by
 unfold cutD;have d:((a++[b]).map D.int).length=a.length+1:=by simp
 have e:HT.sIx (a.length+1) 0 none=0:=rfl;have c:HT.sIx (a.length+1) (a.length+1) (some (-1))=a.length:=by
  show(if(-1:Int)<0 then((-1:Int)+((a.length+1:Nat):Int)).toNat else min (-1:Int).toNat (a.length+1))=_;rw[if_pos (by decide)];lia
 rw[d,e,c];simp
end Dd
namespace K03
end K03
namespace K13
open PyProof.Rows
theorem zbgy(a b:Nat):(a&&&b)/2=a/2&&&b/2:=xny
theorem zbgx(a b:Nat):(a&&&b)%2=(a%2)*(b%2):=by
 have q:=@Nat.and_mod_two_eq_one a b;rcases xef a with h|h<;>rcases xef b with h'|h'<;>rw[h,h'] at q ⊢<;>lia
noncomputable abbrev In(e y:Nat):Prop:=e&&&y=y
theorem zra:In a b↔(In (a/2) (b/2)/\¬ (b%2=1/\a%2=0)):=K07.zbag a b
theorem In.le(h:In e y):y<=e:=by rw[←h];exact Nat.and_le_left
theorem zbdg(e:Nat):In e 0:=Nat.and_zero e
theorem zbog(e:Nat):In e e:=Nat.and_self e
theorem zboi(e x:Nat):In e (e&&&x):=by unfold In;rw[←Nat.and_assoc,Nat.and_self]
theorem zbhf:∀(e y:Nat),In e y->In e (e-y):=λe=>by
 induction e using Nat.strongRecOn with
 |ind e ih=>
  intro y h;by_cases z:e=0
  ·subst z;rw[Nat.zero_sub];exact zbdg 0
  obtain⟨c,f⟩:=zra.mp h;have i:=ih (e/2) (by lia) (y/2) c;have d:=c.le;refine zra.mpr ⟨?_,?_⟩
  ·rw[show(e-y)/2=e/2-y/2 by lia];exact i
  ·rintro⟨a,b⟩;lia
theorem zboh:∀(e d q:Nat),In e d->In e q->q<d->q<=e&&&(d-1):=λe=>by
 induction e using Nat.strongRecOn with
 |ind e ih=>
  intro d q b j lt;by_cases z:e=0
  ·subst z;have:=b.le;lia
  obtain⟨f,k⟩:=zra.mp b;obtain⟨h,l⟩:=zra.mp j;have a:=zbgy e (d-1);have g:=zbgx e (d-1);rcases xef d with c|c
  ·rw[show(d-1)/2=d/2-1 by lia] at a;rw[show(d-1)%2=1 by lia,Nat.mul_one] at g;have i:=ih (e/2) (by lia) (d/2) (q/2) f h (by lia);have:q%2<=e%2:=by lia
   lia
  ·rw[show(d-1)/2=d/2 by lia,f] at a;lia
noncomputable def nxt(e j:Nat):Nat:=e-(e&&&(e-j-1))
theorem zbnb(h:j<e):j<nxt e j:=by
 have:=xhk (@Nat.and_le_right e (e-(j+1))) e;rw[Nat.sub_sub_self h] at this;exact this
theorem zbti(e j:Nat):nxt e j<=e:=xhe _ _
theorem zbtj(e j:Nat):In e (nxt e j):=zbhf e _ (zboi e _)
theorem zzw(c:In e j)(a:In e m)(lt:j<m):nxt e j<=m:=by
 have b:=a.le;have:=zboh e (e-j) (e-m) (zbhf e j c) (zbhf e m a) (Nat.sub_lt_sub_left (xbm lt b) lt);exact Nat.sub_le_of_le_add (xno _ m ▸ Nat.sub_le_iff_le_add.mp this)
theorem zbna{e j:Nat}(h:j<e):Builtin.bitAnd ((j:Int)-(e:Int)) (e:Int)=(nxt e j:Nat):=by
 rw[bitAnd_np (by lia) (by lia)];have a:(Builtin.bitNot ((j:Int)-(e:Int))).toNat=e-j-1:=by
  unfold Builtin.bitNot;lia
 rw[a,xdx];have:=@Nat.and_le_left e (e-j-1);unfold nxt;lia
noncomputable def subL(e:Nat) (lo a:Int) (n:Nat):List Nat:=(List.range n).filter λx=>decide (e&&&x=x/\lo<=x/\(x:Int)<=a)
theorem zku(e:Nat)(lo a:Int)(n:Nat):subL e lo a (n+1)=subL e lo a n++(if e&&&n=n/\lo<=n/\(n:Int)<=a then[n] else[]):=by
 unfold subL;rw[xfw,xfd]
 congr 1
 by_cases c:e&&&n=n/\lo<=n/\(n:Int)<=a
 ·rw[if_pos c];exact xcp (p:=λx:Nat=>decide (e&&&x=x/\lo<=x/\(x:Int)<=a)) (xbw c)
 ·rw[if_neg c];exact xcs (p:=λx:Nat=>decide (e&&&x=x/\lo<=x/\(x:Int)<=a)) (by rw[xcd c];decide)
theorem zhl{e:Nat}{lo a:Int}{n:Nat}:∀(k:Nat),(∀x,n<=x->x<n+k->¬ (e&&&x=x/\lo<=x/\(x:Int)<=a))->subL e lo a (n+k)=subL e lo a n
 |0,_=>rfl
 |k+1,h=>by
  rw[←xmy,zku,if_neg (h _ (by lia) (by lia)),xei];exact zhl k λx b c=>h x b (by lia)
theorem zib(e:Nat)(lo a:Int)(n:Nat):(subL e lo a n).length<=n:=by
 have:=xgv (λx=>decide (e&&&x=x/\lo<=x/\(x:Int)<=a)) (List.range n);rw[xft] at this;exact this
def sharesL(e:Nat) (lo a:Int):List Nat:=subL e lo a (e+1)
theorem zcj{e j:Nat}{lo a:Int}:j∈sharesL e lo a↔(In e j/\lo<=j/\(j:Int)<=a):=by
 unfold sharesL subL;rw[xcn,xbn,xjn];exact⟨λh=>h.2,λh=>⟨xnc h.1.le,h⟩⟩
theorem zys{e j:Nat}{lo a:Int}(b:In e j)(lt:j<e)(d:(j:Int)<=a):subL e lo a (nxt e j)=subL e lo a j++(if lo<=j then[j] else[]):=by
 have g:=zbnb lt;obtain⟨k,f⟩:∃k,nxt e j=(j+1)+k:=⟨nxt e j-(j+1),(xct g).symm⟩
 rw[f,zhl k λx i h c=>?_,zku]
 ·congr 1
  by_cases c:lo<=j
  ·rw[if_pos ⟨b,c,d⟩,if_pos c]
  ·rw[if_neg λz=>c z.2.1,if_neg c]
 ·have:=zzw b c.1 (by lia);lia
theorem zoh{e j:Nat}{lo a:Int}(d:In e j)(g:a<j):sharesL e lo a=subL e lo a j:=by
 have:=d.le;obtain⟨k,b⟩:∃k,e+1=j+k:=⟨e+1-j,(xct (xgn this)).symm⟩
 unfold sharesL;rw[b];exact zhl k λx h f c=>by lia
theorem zsi{e:Nat}{lo a:Int}(b:(e:Int)<=a):sharesL e lo a=subL e lo a e++(if lo<=e then[e] else[]):=by
 unfold sharesL;rw[zku]
 congr 1
 by_cases c:lo<=e
 ·rw[if_pos ⟨zbog e,c,b⟩,if_pos c]
 ·rw[if_neg λz=>c z.2.1,if_neg c]
end K13
namespace Dd
open L2 K13
theorem ztm(I:Nat->DS->Store->Prop) (p:I k σ a)(t:k<1000000)
  (s:∀j σ a,I j σ a->WP (c σ a) (λb e=>if b=true then WP (body σ e) (loopK (λf d=>∃i,i<j/\I i f d) Q) else Q (.nx σ) e)):WP (sWhile c body σ a) Q:=by
 have g:∀n j σ a,I j σ a->j<n->WP (whileF c body n σ a) Q:=by
  intro n
  induction n with
  |zero=>intro j σ a _ h;lia
  |succ n ih=>
   intro j σ a q u;obtain⟨b,e,o,w⟩:=(s j σ a q).get;unfold whileF;rw[o];dsimp only[zbb];cases b with
   |false=>exact w
   |true=>
    rw[if_pos rfl] at w ⊢;obtain⟨r,d,l,w⟩:=w.get;rw[l];cases r with
    |nx f=>obtain⟨i,m,h⟩:=w;exact ih i f d h (by lia)
    |ct f=>obtain⟨i,m,h⟩:=w;exact ih i f d h (by lia)
    |brk f=>exact w
    |ret v=>exact w
 exact g wCap k σ a p t
noncomputable def dN(j:Nat):D:=.int (j:Int)
theorem zyw{e:Nat}{lo a:Int}(r:e<=100000)(k:∀g,Q (.lst ((sharesL e lo a).map dN)) (au++g)):WP (zmb [.int e,.int lo,.int a] au) Q:=by
 refine zju rfl ?_;simp only[W,V];refine⟨small _ (by simp),?_⟩;have b:∀(i:List Nat) (v:Option D),i=sharesL e lo a->WP (sRet (eFz (aA 3)) [some (.int e),some (.int lo),some (.int a),some (.ref au.length),v] (au++[.lst (i.map dN)])) (retK Q):=λi v h=>by
  subst h;simp only[W,V,M];refine⟨_,_,rfl,by simp;rfl,?_⟩;have:=k [.dead]
  simpa using this
 refine ztm (λm σ s=>∃j:Nat,m=e-j/\σ=[some (.int e),some (.int lo),some (.int a),some (.ref au.length),some (.int j)]/\In e j/\s=au++[.lst ((subL e lo a j).map dN)]) (k:=e) ⟨0,rfl,rfl,zbdg e,rfl⟩ (by lia) ?_;rintro m σ s ⟨j,rfl,rfl,f,rfl⟩;simp only[W,V,Dd.N];have p:=f.le;split
 ·rename_i d;unfold zkn;refine zeg (R:=λl s=>l=.nx [some (.int e),some (.int lo),some (.int a),some (.ref au.length),some (.int j)]/\s=au++[.lst ((subL e lo a j++(if lo<=j then[j] else[])).map dN)]) ?_ ?_
  ·simp only[W,V,M,Dd.N];split
   ·rename_i c;have n:=zib e lo a j;refine⟨_,_,rfl,by simp;rfl,_,_,rfl,by simp;rfl,by rw[xbb];exact smallT _ (by lia),?_⟩;simp[dN,c]
   ·rename_i c;simp[c]
  ·rintro l s ⟨rfl,rfl⟩;simp only[W,V,L];split
   ·rename_i c;have o:j=e:=by lia
    subst o;have:=b (subL j lo a j++(if lo<=j then[j] else[])) (some (.int j)) (zsi d).symm;simp only[W,V] at this;exact this
   ·rename_i c;have lt:j<e:=by lia
    have g:=zbnb lt;have q:=zbti e j;refine⟨trivial,trivial,e-nxt e j,by lia,nxt e j,rfl,?_,zbtj e j,?_⟩
    ·rw[zbna lt]
    ·rw[zys f lt d]
 ·rename_i d;have:=b (subL e lo a j) (some (.int j)) (zoh f (by lia)).symm;simp only[W,V] at this;exact this
noncomputable abbrev Pt:=List Int×Int
def ptD(p:Pt):D:=.tup [aL p.1,.int p.2]
def letJ(e:Nat) (a:Int) (p:Pt):List Pt:=(sharesL e (p.2-a) p.2).map λj:Nat=>(p.1++[(e:Int)+(j:Int)],p.2-(j:Int))
def letL(e:Nat) (a:Int) (b:List Pt):List Pt:=b.flatMap (letJ e a)
theorem zbgr(e:Nat)(a:Int)(p:Pt):(letJ e a p).length<=e+1:=by
 unfold letJ;rw[xbb];exact zib _ _ _ _
theorem zoy(e:Nat)(a:Int):∀ps:List Pt,(letL e a ps).length<=ps.length*(e+1)
 |[]=>by simp[letL]
 |p::ps=>by
  have b:letL e a (p::ps)=letJ e a p++letL e a ps:=by simp[letL]
  have:=zoy e a ps;have:=zbgr e a p;rw[b,xbk,xbt,xhg];lia
theorem zbac(e:Nat)(a:Int)(b:List Pt)(p:Pt):letL e a (b++[p])=letL e a b++letJ e a p:=by simp[letL]
theorem zbgn{e:Nat}{a:Int}:q∈letL e a d↔∃p∈d,∃j:Nat,j∈sharesL e (p.2-a) p.2/\q=(p.1++[(e:Int)+(j:Int)],p.2-(j:Int)):=by
 unfold letL letJ;simp only[xcf,xbq];constructor
 ·rintro⟨p,c,j,b,rfl⟩;exact⟨p,c,j,b,rfl⟩
 ·rintro⟨p,c,j,b,rfl⟩;exact⟨p,c,j,b,rfl⟩
theorem zgy(o a:O)(g:Store):(au++o::g).set au.length a=au++a::g:=by simp
theorem zcd(o:O)(g:Store):(au++o::g)[au.length]?=some o:=by simp
theorem zha{α:Type}{f:α->D}{l:List α}{i:Nat}{x:D}(h:(l.map f)[i]?=some x):∃a,l[i]?=some a/\x=f a:=by
 rw[xcl] at h;obtain⟨a,b,c⟩:=xdc.mp h;exact⟨a,b,c.symm⟩
section
variable {au:Store}{Q:D->Store->Prop}
theorem zis{e:Nat}{b:Int}{c:List Pt}(A:e<=1000)(x:c.length*(e+1)<=100000)(o:∀p∈c,p.1.length<=1000)(k:∀g,Q (.lst ((letL e b c).map ptD)) (au++g)):WP (zbz [.lst (c.map ptD),.int e,.int b] au) Q:=by
 refine zju rfl ?_;simp only[W,V,Dd.N];refine⟨small _ (by simp),?_⟩;refine zcb (λi σ s=>(∃v w z,σ=[some (.lst (c.map ptD)),some (.int e),some (.int b),some (.ref au.length),v,w,z])/\∃g,s=au++(.lst ((letL e b (c.take i)).map ptD)::g)) ⟨⟨_,_,_,rfl⟩,[],rfl⟩ ?_ ?_
 ·rintro i y σ s f ⟨⟨v,w,z,rfl⟩,g,rfl⟩;obtain⟨p,d,rfl⟩:=zha f;have r:i<c.length:=(xbd.mp d).1;refine⟨_,rfl,?_⟩;unfold zdn;simp only[W,V,Dd.N];have m:(letL e b (c.take i)).length+(e+1)<=100000:=by
   have u:=zoy e b (c.take i);have h:(c.take i).length=i:=by rw[xcq];lia
   rw[h] at u;have l:(i+1)*(e+1)<=c.length*(e+1):=xcx _ r;rw[xhg] at l;lia
  refine zyw (by lia) λn=>?_
  simp only[W,V,Dd.N];rw[xcm,xhl];generalize g++n=g3;have q:(sharesL e (p.2-b) p.2).length<=e+1:=zib _ _ _ _;refine zcb (λj σ s=>(∃z,σ=[some (.lst (c.map ptD)),some (.int e),some (.int b),some (.ref au.length),some (aL p.1),some (.int p.2),z])/\s=au++(.lst ((letL e b (c.take i)++((sharesL e (p.2-b) p.2).take j).map λj:Nat=>(p.1++[(e:Int)+j],p.2-(j:Int))).map ptD)::g3)) ⟨⟨_,rfl⟩,by simp⟩ ?_ ?_
  ·rintro j y σ s f ⟨⟨z,rfl⟩,rfl⟩;obtain⟨a,t,rfl⟩:=zha f;refine⟨_,rfl,?_⟩;unfold zdo dN;simp only[W,V,M,Dd.N,L];have h:((sharesL e (p.2-b) p.2).take j).length<=(sharesL e (p.2-b) p.2).length:=by rw[xcq];exact xgr _ _
   have l:=o p (xbo d);refine⟨_,_,rfl,zcd _ _,small _ (by simp),by rw[xbb];exact small _ (by simp;lia),small _ (by simp),_,_,rfl,zcd _ _,by rw[xbb,xbk,xbb];exact smallT _ (by lia),⟨_,rfl⟩,?_⟩;rw[zgy,ze t];simp[ptD,aL]
  ·rintro σ s ⟨⟨z,rfl⟩,rfl⟩;simp only[L];refine⟨⟨_,_,_,rfl⟩,g3,?_⟩;rw[xbb,xbu,ze d,zbac]
   rfl
 ·rintro σ s ⟨⟨v,w,z,rfl⟩,g,rfl⟩;rw[xbb,xbu];simp only[W,V,M,Dd.N];refine⟨_,_,rfl,zcd _ _,?_⟩;rw[zgy];exact k _
end
def stepP(s:Int×List Pt) (e:Int):Int×List Pt:=(s.1-e,letL e.toNat (s.1-e) s.2)
def prodS(r:List Int) (k:Int) (m:List Int):Int×List Pt:=m.foldl stepP (r.sum,[([],k)])
def prodP(r:List Int) (k:Int):List (List Int):=(prodS r k r).2.map (·.1)
noncomputable def box:List Int->Nat
 |[]=>1
 |e::r=>(e.toNat+1)*box r
theorem zcp:∀a b:List Int,box (a++b)=box a*box b
 |[],b=>by simp[box]
 |e::a,b=>by rw[xhl,box,box,zcp a b,xkc]
theorem zbdw:∀a:List Int,1<=box a
 |[]=>xbj _
 |e::a=>by have:=zbdw a;unfold box;exact xbc this (xlj _ (by lia))
theorem zpk(r:List Int)(i:Nat):box (r.take i)<=box r:=by
 have e:=zcp (r.take i) (r.drop i);rw[xdg] at e;rw[e];exact Nat.le_mul_of_pos_right _ (zbdw _)
theorem zmq(r:List Int)(k:Int)(m:List Int)(e:Int):prodS r k (m++[e])=stepP (prodS r k m) e:=by unfold prodS;rw[xeq];rfl
theorem zqk{r:List Int}{k:Int}{P:List Int->Int×List Pt->Prop}(a:P [] (r.sum,[([],k)]))(h:∀m e s,P m s->P (m++[e]) (stepP s e)):∀(i:Nat),P (r.take i) (prodS r k (r.take i)):=λi=>by
 induction i with
 |zero=>exact a
 |succ i ih=>
  by_cases c:i<r.length
  ·have g:r[i]?=some r[i]:=xbe c;rw[ze g,zmq];exact h _ _ _ ih
  ·rw[xdv (by lia)] at ih ⊢;exact ih
theorem zkz(r:List Int)(k:Int)(i:Nat):(prodS r k (r.take i)).2.length<=box (r.take i):=by
 refine zqk (P:=λm s=>s.2.length<=box m) (by simp[box]) (λm e s a=>?_) i;have:=zoy e.toNat (s.1-e) s.2;rw[zcp];show(letL e.toNat (s.1-e) s.2).length<=box m*((e.toNat+1)*1)
 rw[Nat.mul_one];exact xbc this (xcx _ a)
theorem zzg(r:List Int)(k:Int)(i:Nat):∀p∈(prodS r k (r.take i)).2,p.1.length=(r.take i).length:=by
 refine zqk (P:=λm s=>∀p∈s.2,p.1.length=m.length) (by simp) (λm e s a=>?_) i;intro q c;obtain⟨p,b,j,d,rfl⟩:=zbgn.mp c;rw[xbk,xbk,a p b]
 rfl
section
variable {au:Store}{Q:D->Store->Prop}
theorem zhg{r:List Int}{t:Int}(f:∀x∈r,0<=x/\x<=1000)(q:r.length<=1000)(n:box r<=20000)(k:∀g,Q (.lst (aJ (prodP r t))) (au++g)):WP (zbv [aL r,.int t] au) Q:=by
 refine zju rfl ?_;simp only[W,V,M,Dd.N];refine⟨small _ (by simp),small _ (by simp),small _ (by simp),r,zdl r,?_⟩;refine zcb (λi σ s=>(∃v,σ=[some (aL r),some (.int t),some (.lst ((prodS r t (r.take i)).2.map ptD)),some (.int (prodS r t (r.take i)).1),v])/\∃g,s=au++g) ⟨⟨_,rfl⟩,[],by simp⟩ ?_ ?_
 ·rintro i y σ s m ⟨⟨v,rfl⟩,g,rfl⟩;obtain⟨e,h,rfl⟩:=zha m;refine⟨_,rfl,?_⟩;unfold zcw;obtain⟨o,u⟩:=f e (xbo h);simp only[W,V,M,Dd.N,L];refine⟨_,rfl,?_⟩;have b:=zkz r t i;have d:=zpk r (i+1);rw[ze h,zcp,show box [e]=e.toNat+1 by simp[box]] at d;have j:(prodS r t (r.take i)).2.length*(e.toNat+1)<=20000:=xbc (xcx _ b) (xbc d n);have c:=zzg r t i;rw[ze h,zmq];generalize prodS r t (r.take i)=s at j c ⊢;obtain⟨a,rfl⟩:=xda o;refine zis (e:=a) (by lia) (by rw[xdx] at j;lia) (λp f=>?_) λl=>?_
  ·rw[c p f,xcq];lia
  ·simp only[W,V,L];exact⟨⟨_,rfl⟩,g++l,by simp⟩
 ·rintro σ s ⟨⟨v,rfl⟩,g,rfl⟩;rw[xbb,xbu];simp only[W,V,M,Dd.N];have b:=zkz r t r.length;rw[xbu] at b;refine⟨by rw[xbb];exact small _ (by lia),?_⟩;refine zme (as:=(prodS r t r).2) (λσ=>∃v w,σ=[v,w]) (λ_=>true) (λp=>aL p.1) ptD ⟨_,_,rfl⟩ ?_ ?_
  ·rintro p f σ ⟨v,w,rfl⟩;exact⟨_,rfl,⟨_,_,rfl⟩,by simp only[W,xks],λ_=>by simp only[W,V,xks]⟩
  ·rw[zlo];have:=k g;unfold prodP aJ at this;rw[xcw] at this;exact this
end
theorem zzh(r:List Int)(k:Int):(prodP r k).length<=box r:=by
 have:=zkz r k r.length;rw[xbu] at this;unfold prodP;rw[xbb];exact this
def raiseR(k:Int) (r:List Int):List (List Int):=if k<=r.sum then prodP r k else[]
def raiseL(k:Int) (l:List (List Int)):List (List Int):=l.flatMap (raiseR k)
theorem zih(h:box r<=B):(raiseR k r).length<=B:=by
 unfold raiseR;split
 ·exact xbc (zzh r k) h
 ·simp
theorem zii:∀{l:List (List Int)},(∀r∈l,box r<=B)->(raiseL k l).length<=l.length*B
 |[],_=>by simp[raiseL]
 |r::l,h=>by
  have e:raiseL k (r::l)=raiseR k r++raiseL k l:=by simp[raiseL]
  have b:=zih (k:=k) (h r xbv);have c:=zii (k:=k) (l:=l) λx a=>h x (xbf _ a)
  rw[e,xbk,xbt,xhg];lia
theorem zgg(k:Int)(l:List (List Int))(r:List Int):raiseL k (l++[r])=raiseL k l++raiseR k r:=by simp[raiseL]
theorem zsy:∀{r:List Int},(∀x∈r,0<=x)->0<=r.sum
 |[],_=>by simp
 |x::r,h=>by
  have:=zsy (r:=r) λy a=>h y (xbf _ a)
  have:=h x xbv;rw[xcu];lia
theorem zbne:∀{r:List Int},(∀x∈r,0<=x)->∀x∈r,x<=r.sum
 |[],_,_,h=>nomatch h
 |y::r,h,x,hx=>by
  have a:=λz b=>h z (xbf y b)
  have d:=zsy a;have c:=h y xbv;rw[xcu];rcases xbl.mp hx with rfl|hx
  ·lia
  ·have:=zbne a x hx;lia
theorem zyt(e:Int)(a:List Int)(b:List Pt):(e::a).foldl stepP ((e::a).sum,b)=a.foldl stepP (a.sum,letL e.toNat a.sum b):=by
 rw[xgp,xcu];unfold stepP;dsimp only;rw[show e+a.sum-e=a.sum by lia]
end Dd
namespace K13
end K13
namespace Dd
open L2 K13
theorem zfp:WP (eExtend f g σ au) Q=WP (f σ au) (λx c=>∃n a,x=.ref n/\c[n]?=some (.lst a)/\WP (g σ c) (λj b=>∃y i d,j=[y]/\b[n]?=some (.lst i)/\asL b y=some d/\i.length+d.length<=sizeLine/\Q .non (b.set n (.lst (i++d))))):=by
 rw[zbaq,zg]
 congr
 funext x c
 apply propext;constructor
 ·intro q;split at q
  ·rename_i n a e;rw[zg] at q;have o:c[n]?=some (.lst a):=by
    unfold asL at e;dsimp only at e;split at e
    ·cases e;assumption
    ·cases e
   refine⟨n,a,rfl,o,q.mono λj b h=>?_⟩;split at h
   ·split at h
    ·split at h
     ·exact⟨_,_,_,rfl,by assumption,by assumption,by assumption,h⟩
     ·exact h.elim
    ·exact h.elim
   ·exact h.elim
  ·exact q.elim
 ·rintro⟨n,a,rfl,e,q⟩;rw[zhd e];dsimp only;rw[zg];refine q.mono λj b h=>?_
  obtain⟨y,i,d,rfl,m,l,k,h⟩:=h;rw[m];dsimp only;rw[l];dsimp only;rw[if_pos k];exact h
def lawJ(e:Nat) (p:Pt):List Pt:=(sharesL e 0 p.2).map λj:Nat=>(p.1++[(e:Int)+(j:Int)],p.2-(j:Int))
def lawL(e:Nat) (a:List Pt):List Pt:=a.flatMap (lawJ e)
theorem zwe(e:Nat)(p:Pt):(lawJ e p).length<=e+1:=by
 unfold lawJ;rw[xbb];exact zib _ _ _ _
theorem zbaf(e:Nat)(a:List Pt)(p:Pt):lawL e (a++[p])=lawL e a++lawJ e p:=by simp[lawL]
theorem zpa(e:Nat):∀ps:List Pt,(lawL e ps).length<=ps.length*(e+1)
 |[]=>by simp[lawL]
 |p::ps=>by
  have a:lawL e (p::ps)=lawJ e p++lawL e ps:=by simp[lawL]
  have:=zpa e ps;have:=zwe e p;rw[a,xbk,xbt,xhg];lia
theorem zvs:q∈lawL e c↔∃p∈c,∃j:Nat,j∈sharesL e 0 p.2/\q=(p.1++[(e:Int)+(j:Int)],p.2-(j:Int)):=by
 unfold lawL lawJ;simp only[xcf,xbq];constructor
 ·rintro⟨p,a,j,b,rfl⟩;exact⟨p,a,j,b,rfl⟩
 ·rintro⟨p,a,j,b,rfl⟩;exact⟨p,a,j,b,rfl⟩
theorem zmn{e:Nat}{left:Int}(h:0<=left):(List.range ((if left<(e:Int) then left else(e:Int))+1).toNat).filter (λx=>decide (e&&&x=x))=sharesL e 0 left:=by
 have a:∀n:Nat,(n:Int)<=left+1->subL e 0 left n=(List.range n).filter (λx=>decide (e&&&x=x)):=λn i=>by
  unfold subL;refine xgo λx g=>?_
  have:=xbn.mp g;have d:(0:Int)<=(x:Int):=by lia
  have b:(x:Int)<=left:=by lia
  simp[d,b]
 rw[←a _ (by split<;>lia)];unfold sharesL;split
 ·rename_i c;obtain⟨k,f⟩:∃k,e+1=(left+1).toNat+k:=⟨e+1-(left+1).toNat,by lia⟩
  rw[f];exact(zhl k λx d b z=>by lia).symm
 ·rw[show((e:Int)+1).toNat=e+1 by lia]
def lawStep(a:List Pt) (e:Int):List Pt:=lawL e.toNat a
def lawS(k:Int) (m:List Int):List Pt:=m.foldl lawStep [([],k)]
def lawP(k:Int) (r:List Int):List (List Int):=((lawS k r).filter λp=>decide (p.2=0)).map (·.1)
theorem zug(h:0<=left):(sharesL e 0 left).filter (λj:Nat=>decide (left-(j:Int)<=S))=sharesL e (left-S) left:=by
 unfold sharesL subL;rw[xkn];refine xgo λx _=>?_
 rw[←xmd];exact xhn.mpr ⟨λh=>⟨h.2.1,by lia,h.2.2.2⟩,λh=>⟨by lia,h.1,by lia,h.2.2⟩⟩
theorem zbad{e:Nat}{S:Int}(h:¬ p.2<=e+S):letJ e S p=[]:=by
 unfold letJ;have:sharesL e (p.2-S) p.2=[]:=by
  refine xme.mpr λj b=>?_
  obtain⟨a,d,c⟩:=zcj.mp b;have:=a.le;lia
 rw[this]
 rfl
theorem zbgu(h:0<=p.2):(lawJ e p).filter (λq=>decide (q.2<=S))=letJ e S p:=by
 unfold lawJ letJ;rw[xje,←zug h]
 rfl
theorem zwd{e:Nat}{S:Int}:∀{ps:List Pt},(∀p∈ps,0<=p.2)->(lawL e ps).filter (λq=>decide (q.2<=S))=letL e S (ps.filter λp=>decide (p.2<=e+S))
 |[],_=>rfl
 |p::ps,h=>by
  have a:=zwd (e:=e) (S:=S) (ps:=ps) λq b=>h q (xbf _ b)
  have d:lawL e (p::ps)=lawJ e p++lawL e ps:=by simp[lawL]
  rw[d,xfd,a,zbgu (h p xbv)];by_cases c:p.2<=e+S
  ·rw[xcp (by simpa using c)];simp[letL]
  ·rw[xcs (by simpa using c),zbad c]
   rfl
theorem zrv:∀(a:List Int) (b:List Pt),(∀x∈a,0<=x)->(∀p∈b,0<=p.2)->(a.foldl lawStep b).filter (λp=>decide (p.2=0))=(a.foldl stepP (a.sum,b.filter λp=>decide (p.2<=a.sum))).2
 |[],b,_,h=>by
  show b.filter _=b.filter _;refine xgo λp c=>?_
  have:=h p c;exact xhn.mpr ⟨λz=>by simp;lia,λz=>by simp at z;lia⟩
 |e::a,b,hs,h=>by
  have g:=λz d=>hs z (xbf e d)
  have m:=hs e xbv;rw[zyt,xgp,zrv a (lawStep b e) g (λq i=>?_)]
  ·unfold lawStep;rw[zwd h,xcu,show((e.toNat:Nat):Int)=e by lia]
  ·obtain⟨p,c,j,f,rfl⟩:=zvs.mp i;obtain⟨l,n,k⟩:=zcj.mp f;dsimp only;lia
theorem zqe:∀(a:List Int) (t:Int),(a.foldl stepP (t,[])).2=[]
 |[],_=>rfl
 |e::a,t=>by
  rw[xgp];exact zqe a (t-e)
theorem zwc(h:∀x∈r,0<=x)(b:0<=k):lawP k r=raiseR k r:=by
 unfold lawP lawS;rw[zrv r [([],k)] h (λp a=>by rw[xcj.mp a];exact b)];unfold raiseR;by_cases c:k<=r.sum
 ·rw[if_pos c,xcp (by simpa using c)]
  rfl
 ·rw[if_neg c,xcs (by simpa using c)];show(r.foldl stepP (r.sum,[])).2.map _=[]
  rw[zqe]
  rfl
theorem zhp(k:Int)(m:List Int)(e:Int):lawS k (m++[e])=lawStep (lawS k m) e:=by unfold lawS;rw[xeq];rfl
theorem zwb{k:Int}{P:List Int->List Pt->Prop}(a:P [] [([],k)])(h:∀m e s,P m s->P (m++[e]) (lawStep s e))(r:List Int):∀(i:Nat),P (r.take i) (lawS k (r.take i)):=λi=>by
 induction i with
 |zero=>exact a
 |succ i ih=>
  by_cases c:i<r.length
  ·have g:r[i]?=some r[i]:=xbe c;rw[ze g,zhp];exact h _ _ _ ih
  ·rw[xdv (by lia)] at ih ⊢;exact ih
theorem zlk(r:List Int)(k:Int)(i:Nat):(lawS k (r.take i)).length<=box (r.take i):=by
 refine zwb (P:=λm s=>s.length<=box m) (by simp[box]) (λm e s a=>?_) r i;have:=zpa e.toNat s;rw[zcp];show(lawL e.toNat s).length<=box m*((e.toNat+1)*1)
 rw[Nat.mul_one];exact xbc this (xcx _ a)
theorem zwa(r:List Int){k:Int}(b:0<=k)(i:Nat):∀p∈lawS k (r.take i),p.1.length=(r.take i).length/\0<=p.2:=by
 refine zwb (P:=λm s=>∀p∈s,p.1.length=m.length/\0<=p.2) (by simpa using b) (λm e s d=>?_) r i;intro q g;obtain⟨p,a,j,c,rfl⟩:=zvs.mp g;obtain⟨l,o,h⟩:=zcj.mp c;obtain⟨f,n⟩:=d p a;dsimp only;rw[xbk,xbk,f];exact⟨rfl,by lia⟩
end Dd
namespace K08
end K08
namespace Dd
open L2 K13
def outL(e:Nat):List Int:=(sharesL e 0 e).map λj:Nat=>(e:Int)+(j:Int)
noncomputable def longL(a:List (List Int)) (c:List Int):List (List Int):=a.flatMap λb=>c.map λx=>b++[x]
def wholeStep(a:List (List Int)) (e:Int):List (List Int):=longL a (outL e.toNat)
def wholeS(m:List Int):List (List Int):=m.foldl wholeStep [[]]
theorem zbq(m:List Int)(e:Int):wholeS (m++[e])=wholeStep (wholeS m) e:=by unfold wholeS;rw[xeq];rfl
theorem zsh:(sharesL e 0 e).filter (λj:Nat=>decide ((j:Int)<=left))=sharesL e 0 left:=by
 unfold sharesL subL;rw[xkn];refine xgo λx a=>?_
 have:=xbn.mp a;rw[←xmd];exact xhn.mpr ⟨λh=>⟨h.2.1,h.2.2.1,h.1⟩,λh=>⟨h.2.2,h.1,h.2.1,by lia⟩⟩
def fitP(k M:Int) (b:List (List Int)):List Pt:=(b.filter λa=>decide (a.sum-M<=k)).map λa=>(a,k-(a.sum-M))
theorem zwp{k M:Int}{e:Nat}:∀rows:List (List Int),fitP k (M+e) (longL rows (outL e))=lawL e (fitP k M rows)
 |[]=>rfl
 |row::rows=>by
  have m:=zwp (k:=k) (M:=M) (e:=e) rows;have i:longL (row::rows) (outL e)=((outL e).map λx=>row++[x])++longL rows (outL e):=by simp[longL]
  have f:fitP k (M+e) (longL (row::rows) (outL e))=fitP k (M+e) ((outL e).map λx=>row++[x])++fitP k (M+e) (longL rows (outL e)):=by
   rw[i];unfold fitP;rw[xfd,xdi]
  have d:fitP k (M+e) ((outL e).map λx=>row++[x])=(sharesL e 0 (k-(row.sum-M))).map λj:Nat=>(row++[(e:Int)+(j:Int)],k-(row.sum-M)-(j:Int)):=by
   unfold fitP outL;rw[xcw,xje,xcw,show sharesL e 0 (k-(row.sum-M))=_ from zsh.symm];have b:∀j:Nat,(row++[(e:Int)+(j:Int)]).sum-(M+e)=row.sum-M+j:=λj=>by rw[xel];simp;lia
   have n:(sharesL e 0 e).filter ((λr:List Int=>decide (r.sum-(M+e)<=k)) ∘ ((λx=>row++[x]) ∘ λj:Nat=>(e:Int)+(j:Int)))=(sharesL e 0 e).filter λj:Nat=>decide ((j:Int)<=k-(row.sum-M)):=
    xgo λj _=>by
     show decide ((row++[(e:Int)+(j:Int)]).sum-(M+e)<=k)=_;rw[b];exact xhn.mpr ⟨λh=>by lia,λh=>by lia⟩
   rw[n];refine xeo λj _=>?_
   show(row++[(e:Int)+(j:Int)],k-((row++[(e:Int)+(j:Int)]).sum-(M+e)))=_;rw[b]
   congr 1
   lia
  rw[f,m,d];by_cases c:row.sum-M<=k
  ·have a:fitP k M (row::rows)=(row,k-(row.sum-M))::fitP k M rows:=by
    unfold fitP;rw[xcp (by simpa using c)]
    rfl
   rw[a];simp[lawL,lawJ]
  ·have a:fitP k M (row::rows)=fitP k M rows:=by
    unfold fitP;rw[xcs (by simpa using c)]
   have l:sharesL e 0 (k-(row.sum-M))=[]:=xme.mpr λj g=>by
    obtain⟨_,o,p⟩:=zcj.mp g;lia
   rw[a,l]
   rfl
theorem zbgt{r:List Int}{k:Int}(h:∀x∈r,0<=x)(a:0<=k):∀i:Nat,lawS k (r.take i)=fitP k (r.take i).sum (wholeS (r.take i)):=λi=>by
 induction i with
 |zero=>
  show[([],k)]=fitP k 0 [[]];unfold fitP;rw[xcp (by simpa using a)];simp
 |succ i ih=>
  by_cases c:i<r.length
  ·have g:r[i]?=some r[i]:=xbe c;have b:=h r[i] (xdq c);rw[ze g,zhp,zbq,ih];unfold lawStep wholeStep;rw[←zwp,xel,show(r.take i).sum+[r[i]].sum=(r.take i).sum+(r[i].toNat:Int) by simp;lia]
  ·rw[xdv (by lia)] at ih ⊢;exact ih
theorem zei{r:List Int}{k:Int}(h:∀x∈r,0<=x)(b:0<=k):raiseR k r=(wholeS r).filter λm=>decide (m.sum=r.sum+k):=by
 have e:=zbgt h b r.length;rw[xbu] at e;rw[←zwc h b];unfold lawP;rw[e];unfold fitP;rw[xje,xcw,xkn];have:∀l:List (List Int),l.map ((λp:Pt=>p.1) ∘ λa=>(a,k-(a.sum-r.sum)))=l:=λl=>by
  show l.map (λa=>a)=l;exact xob l
 rw[this];refine xgo λm _=>?_
 show(decide (k-(m.sum-r.sum)=0)&&decide (m.sum-r.sum<=k))=_;rw[←xmd];exact xhn.mpr ⟨λh=>by lia,λh=>by lia⟩
theorem zmf{r:List Int}(h:∀x∈r,0<=x):∀(i:Nat),∀m∈wholeS (r.take i),(r.take i).sum<=m.sum/\m.sum<=2*(r.take i).sum:=λi=>by
 induction i with
 |zero=>intro m d;rw[xcj.mp (show m∈[[]] from d)];simp
 |succ i ih=>
  by_cases c:i<r.length
  ·have g:r[i]?=some r[i]:=xbe c;have p:=h r[i] (xdq c);intro m d;rw[ze g,zbq] at d;unfold wholeStep longL outL at d;obtain⟨f,e,d⟩:=xcf.mp d;rw[xcw] at d;obtain⟨j,k,rfl⟩:=xbq.mp d;obtain⟨n,o,l⟩:=zcj.mp k;obtain⟨a,b⟩:=ih f e;rw[ze g];simp only[Function.comp,xel,xcu,xko];lia
  ·rw[xdv (by lia)] at ih ⊢;exact ih
theorem zim{a b:List (List Int)}(h:∀x,a.count x%2=b.count x%2):aO a=aO b:=zvj (zdf a) λx=>by rw[zgj,h x]
theorem zfx(a:List (List Int))(x:List Int):(aO a).count x%2=a.count x%2:=by
 have d:=zcm a;have b:x∈aO a↔a.count x%2=1:=by unfold aO;rw[(zr _).mem_iff,zgj]
 by_cases c:x∈aO a
 ·have e:(aO a).count x<=1:=xih.mp d x;have f:0<(aO a).count x:=xhv.mpr c;have:=b.mp c;lia
 ·have e:(aO a).count x=0:=xge.mpr c;have:¬ a.count x%2=1:=λz=>c (b.mpr z)
  lia
theorem zks{P:List Int->List (List Int)->Prop}(a:P [] [[]])(h:∀m e s,P m s->P (m++[e]) (wholeStep s e))(r:List Int):∀(i:Nat),P (r.take i) (wholeS (r.take i)):=λi=>by
 induction i with
 |zero=>exact a
 |succ i ih=>
  by_cases c:i<r.length
  ·have g:r[i]?=some r[i]:=xbe c;rw[ze g,zbq];exact h _ _ _ ih
  ·rw[xdv (by lia)] at ih ⊢;exact ih
theorem zto(r:List Int)(i:Nat):∀m∈wholeS (r.take i),m.length=(r.take i).length:=by
 refine zks (P:=λm s=>∀x∈s,x.length=m.length) (by simp) (λm e s c=>?_) r i;intro x a;unfold wholeStep longL at a;obtain⟨b,d,a⟩:=xcf.mp a;obtain⟨y,f,rfl⟩:=xbq.mp a;rw[xbk,xbk,c b d]
 rfl
theorem zbfz(h:y∈outL e):(e:Int)<=y/\y<=2*e:=by
 unfold outL at h;obtain⟨j,b,rfl⟩:=xbq.mp h;obtain⟨a,_,_⟩:=zcj.mp b;have:=a.le;lia
theorem znn(r x:List Int)(y:Int):∀a:List Int,(a.map λz=>r++[z]).count (x++[y])=if r=x then a.count y else 0
 |[]=>by split<;>rfl
 |z::a=>by
  rw[xbr,xhf,znn r x y a];by_cases c:r=x
  ·subst c;rw[if_pos rfl,if_pos rfl,xhf]
   congr 1
   by_cases d:z=y
   ·subst d;simp
   ·simp[d]
  ·rw[if_neg c,if_neg c]
   have:¬ (r++[z]=x++[y]):=λh=>c (by
    have:=congrArg List.dropLast h
    simpa using this)
   simp[c]
theorem znm(x:List Int)(y:Int)(xs:List Int):∀a:List (List Int),(longL a xs).count (x++[y])=a.count x*xs.count y
 |[]=>by simp[longL]
 |r::a=>by
  have e:longL (r::a) xs=(xs.map λz=>r++[z])++longL a xs:=by simp[longL]
  rw[e,xfh,znn,znm x y xs a,xhf];by_cases c:r=x
  ·subst c;simp[Nat.add_mul];lia
  ·simp[c]
theorem zsb{u v:List Int}(h:u.length=v.length)(s t:Int):addR (u++[s]) (v++[t])=addR u v++[s+t]:=by
 unfold addR;rw[List.zip_append h,xdi]
 rfl
noncomputable abbrev Row:=List Int
noncomputable def tot{α:Type}(l:List α) (c:α->Nat):Nat:=(l.map c).sum
theorem zbko{α:Type}(c:α->Nat):tot [] c=0:=rfl
theorem zbg{α:Type}(a:α)(l:List α)(c:α->Nat):tot (a::l) c=c a+tot l c:=by simp[tot]
theorem zub{α:Type}(a b:List α)(c:α->Nat):tot (a++b) c=tot a c+tot b c:=by simp[tot]
theorem zber{α:Type}{a b:List α}(h:a.Perm b)(c:α->Nat):tot a c=tot b c:=(h.map c).sum_nat
theorem zua(c:Row->Nat):∀(n:Nat) (l:List Row),l.length<=n->(∀x,l.count x%2=0)->tot l c%2=0
 |_,[],_,_=>rfl
 |0,_::_,h,_=>by simp at h
 |n+1,y::l,hn,h=>by
  have d:=h y;rw[List.count_cons_self] at d;have a:y∈l:=xhv.mp (by lia);have p:=List.perm_cons_erase a;have e:=zua c n (l.erase y) (by rw[List.length_erase_of_mem a];simp at hn;lia) λx=>by
   have b:=h x;rw[xhf,p.count_eq,xhf] at b;split at b<;>lia
  rw[zbg,zber p,zbg];lia
theorem zbbv{a b:List Row}(c:Row->Nat)(h:∀x,a.count x%2=b.count x%2):tot a c%2=tot b c%2:=by
 have:=zua c _ (a++b) (xbj _) λx=>by rw[xfh];have:=h x;lia
 rw[zub] at this;lia
theorem zty{α:Type}{c d:α->Nat}:∀{l:List α},(∀a∈l,c a%2=d a%2)->tot l c%2=tot l d%2
 |[],_=>rfl
 |a::l,h=>by
  have f:=h a xbv;have g:=zty (c:=c) (d:=d) (l:=l) λb e=>h b (xbf _ e)
  rw[zbg,zbg];lia
theorem zyq{α:Type}{c d:α->Nat}{l:List α}(h:∀a∈l,c a=d a):tot l c=tot l d:=by
 unfold tot;rw[xeo h]
theorem zbbx{α:Type}(c d:α->Nat):∀l:List α,tot l (λa=>c a+d a)=tot l c+tot l d
 |[]=>rfl
 |a::l=>by rw[zbg,zbg,zbg,zbbx c d l];lia
theorem zdk{α:Type}(x:Row)(f:α->List Row):∀l:List α,(l.flatMap f).count x=tot l λa=>(f a).count x
 |[]=>rfl
 |a::l=>by rw[xjl,xfh,zdk x f l,zbg]
theorem zbkp{α β:Type}(g:α->β)(c:β->Nat)(l:List α):tot (l.map g) c=tot l λa=>c (g a):=by unfold tot;rw[xcw];rfl
theorem zzd{a b:List Row}(k:Int)(h:∀x,a.count x%2=b.count x%2)(x:Row):(raiseL k a).count x%2=(raiseL k b).count x%2:=by
 unfold raiseL;rw[zdk,zdk];exact zbbv _ h
theorem zgr:∀{u v:Row},u.length=v.length->(addR u v).sum=u.sum+v.sum
 |[],[],_=>rfl
 |a::u,b::v,h=>by
  have c:=zgr (u:=u) (v:=v) (by simpa using h);have e:addR (a::u) (b::v)=(a+b)::addR u v:=rfl;rw[e,xcu,xcu,xcu,c];lia
theorem zdd(h:∀x∈r,0<=x):∀m∈wholeS r,r.sum<=m.sum/\m.length=r.length:=λm a=>by
 have b:=zmf h r.length m (by rw[xbu];exact a);have c:=zto r r.length m (by rw[xbu];exact a);rw[xbu] at b c;exact⟨b.1,c⟩
theorem zbjp:∀{a b:Row},(∀x∈a,0<=x)->(∀x∈b,0<=x)->∀x∈addR a b,0<=x:=λ{a b} f e x d=>by
 unfold addR at d;obtain⟨p,c,rfl⟩:=xbq.mp d;have h:=f _ (xke c).1;have g:=e _ (xke c).2;show 0<=p.1+p.2;lia
noncomputable def xr{α:Type}(l:List α) (f:α->Nat):Nat:=l.foldr (λx b=>f x^^^b) 0
section
variable {α β:Type}
theorem zbx(x:α):xr (x::l) f=f x^^^xr l f:=rfl
theorem zkq:∀(l m:List α),xr (l++m) f=xr l f^^^xr m f
 |[],m=>(xip _).symm
 |x::l,m=>by rw[xhl,zbx,zbx,zkq l m,xdn]
theorem znx(h:β->α):∀l:List β,xr (l.map h) f=xr l λx=>f (h x)
 |[]=>rfl
 |x::l=>by rw[xbr,zbx,zbx,znx h l]
theorem zfd(h:β->List α):∀l:List β,xr (l.flatMap h) f=xr l λx=>xr (h x) f
 |[]=>rfl
 |x::l=>by rw[xjl,zkq,zbx,zfd h l]
theorem zf:∀{l:List α},(∀x∈l,f x=g x)->xr l f=xr l g
 |[],_=>rfl
 |x::l,h=>by rw[zbx,zbx,h x (xbv ..),zf λy a=>h y (xbf _ a)]
theorem zfc:∀l:List α,xr l (λ_=>0)=0
 |[]=>rfl
 |x::l=>by rw[zbx,zfc l];rfl
theorem xor4'(a b c d:Nat):(a^^^b)^^^(c^^^d)=(a^^^c)^^^(b^^^d):=by
 rw[xdn,xdn,←xdn b,←xdn c,xnq b c]
theorem zhv:∀l:List α,xr l (λx=>f x^^^g x)=xr l f^^^xr l g
 |[]=>by show 0=0^^^0;rw[xhw]
 |x::l=>by rw[zbx,zbx,zbx,zhv l,xor4']
theorem zhk(p:α->Bool):∀l:List α,xr (l.filter p) f=xr l λx=>if p x=true then f x else 0
 |[]=>rfl
 |x::l=>by
  rw[zbx,←zhk p l];by_cases c:p x=true
  ·rw[xcp c,zbx,if_pos c]
  ·rw[xcs c,if_neg c,xip]
theorem xif(p q:Bool)(z:Nat):(if p=true then z else 0)^^^(if q=true then z else 0)=if Bool.xor p q=true then z else 0:=by
 cases p<;>cases q<;>simp
theorem zyb(f:Nat->Nat)(N:Nat):xr (List.range (N+1)) f=f 0^^^xr (List.range N) λc=>f (c+1):=by
 rw[List.range_succ_eq_map,zbx,znx]
theorem znw(f:Nat->Nat)(N:Nat):xr (List.range (N+1)) f=xr (List.range N) f^^^f N:=by
 rw[xfw,zkq];show _^^^(f N^^^0)=_;rw[xer]
end
noncomputable def sb(e j:Nat):Bool:=decide (e&&&j=j)
theorem zul(e j:Nat):sb e j=(sb (e/2) (j/2)&&decide (j%2<=e%2)):=by
 unfold sb;rw[←xmd];refine xhn.mpr ?_;have c:(e&&&j)/2=e/2&&&j/2:=xny;have d:(e&&&j)%2=1↔e%2=1/\j%2=1:=Nat.and_mod_two_eq_one;constructor
 ·intro h;rw[h] at c d;exact⟨c.symm,by lia⟩
 ·intro⟨a,b⟩;lia
theorem zid(e:Nat):sb e 0=true:=by simp[sb]
theorem zum(h:e<j):sb e j=false:=by
 refine xcd λz=>?_
 have:e&&&j<=e:=Nat.and_le_left;lia
theorem pas:∀e j:Nat,sb (e+1) (j+1)=Bool.xor (sb e (j+1)) (sb e j)
 |0,j=>by
  by_cases c:j=0
  ·subst c;decide
  ·rw[zum (e:=0+1) (by lia),zum (e:=0) (by lia),zum (e:=0) (j:=j) (by lia)];rfl
 |e+1,j=>by
  rw[zul (e+1+1),zul (e+1),zul (e+1)];have a:(e+1)/2<e+1:=by lia
  by_cases c:(e+1)%2=0
  ·rw[show(e+1+1)/2=(e+1)/2 by lia];by_cases d:j%2=0
   ·rw[show(j+1)/2=j/2 by lia,xbw (show(j+1)%2<=(e+1+1)%2 by lia),xcd (show ¬ (j+1)%2<=(e+1)%2 by lia),xbw (show j%2<=(e+1)%2 by lia)];simp
   ·rw[xbw (show(j+1)%2<=(e+1+1)%2 by lia),xbw (show(j+1)%2<=(e+1)%2 by lia),xcd (show ¬ j%2<=(e+1)%2 by lia)];simp
  ·obtain⟨p,b⟩:∃p,(e+1)/2=p:=⟨_,rfl⟩
   rw[show(e+1+1)/2=(e+1)/2+1 by lia,b];have:=pas p;by_cases d:j%2=0
   ·rw[show(j+1)/2=j/2 by lia,xcd (show ¬ (j+1)%2<=(e+1+1)%2 by lia),xbw (show(j+1)%2<=(e+1)%2 by lia),xbw (show j%2<=(e+1)%2 by lia)];simp
   ·rw[show(j+1)/2=j/2+1 by lia,xbw (show(j+1)%2<=(e+1+1)%2 by lia),xbw (show(j+1)%2<=(e+1)%2 by lia),xbw (show j%2<=(e+1)%2 by lia)];rw[xna,xna,xna];exact this (j/2)
 termination_by e _=>e
theorem zyc(e:Nat)(g:Int->Nat):xr (outL e) g=xr (List.range (e+1)) λj=>if sb e j=true then g ((e:Int)+(j:Int)) else 0:=by
 have h:=zmn (e:=e) (left:=(e:Int)) (by lia);unfold outL;rw[znx,←h,zhk,show((if(e:Int)<(e:Int) then(e:Int) else(e:Int))+1).toNat=e+1 by split<;>lia]
 rfl
theorem zon(e:Nat)(g:Int->Nat):xr (outL (e+1)) g=xr (outL e) (λy=>g (y+1))^^^xr (outL e) (λy=>g (y+1+1)):=by
 rw[zyc,zyc,zyc,zyb,zyb (λj=>if sb e j=true then g ((e:Int)+(j:Int)+1) else 0) e];have a:(xr (List.range (e+1)) λc=>if sb (e+1) (c+1)=true then g (((e+1:Nat):Int)+((c+1:Nat):Int)) else 0)
   =(xr (List.range (e+1)) λc=>if sb e (c+1)=true then g ((e:Int)+((c+1:Nat):Int)+1) else 0)^^^(xr (List.range (e+1)) λc=>if sb e c=true then g ((e:Int)+(c:Int)+1+1) else 0):=by
  rw[←zhv];refine zf λc _=>?_
  rw[pas,←xif];rw[show((e+1:Nat):Int)+((c+1:Nat):Int)=(e:Int)+((c+1:Nat):Int)+1 by lia];rw[show(e:Int)+((c+1:Nat):Int)+1=(e:Int)+(c:Int)+1+1 by lia]
 rw[a,znw (N:=e) (f:=λc=>if sb e (c+1)=true then g ((e:Int)+((c+1:Nat):Int)+1) else 0),zum (e:=e) (j:=e+1) (by lia),zid,zid];simp only[xfl,xds,xfa,xer];rw[show((e+1:Nat):Int)+((0:Nat):Int)=(e:Int)+((0:Nat):Int)+1 by lia,xdn]
def T(k:Int) (φ:Row->Nat) (m:Row):Nat:=xr (wholeS m) λx=>if x.sum=m.sum+k then φ x else 0
theorem zxz(h:∀x∈wholeS m,φ x=ψ x):T k φ m=T k ψ m:=zf λx a=>by rw[h x a]
theorem zbxd(k:Int)(φ ψ:Row->Nat)(m:Row):T k (λx=>φ x^^^ψ x) m=T k φ m^^^T k ψ m:=by
 unfold T;rw[←zhv];refine zf λx _=>?_
 by_cases c:x.sum=m.sum+k
 ·rw[if_pos c,if_pos c,if_pos c]
 ·rw[if_neg c,if_neg c,if_neg c,xhw]
theorem zbqp(k:Int)(m:Row):T k (λ_=>0) m=0:=by
 unfold T;rw[zf (g:=λ_=>0) λx _=>by split<;>rfl,zfc]
theorem zbbs(k:Int)(φ:Row->Nat)(r:Row)(e:Nat):T k φ (r++[(e:Int)])=xr (wholeS r) λu=>xr (outL e) λy=>if u.sum+y=r.sum+e+k then φ (u++[y]) else 0:=by
 unfold T;rw[zbq];unfold wholeStep longL;rw[zfd];refine zf λu _=>?_
 rw[znx,xdx];refine zf λy _=>?_
 rw[xel,xel,xcu,xko,xcu,xko,Int.add_zero,Int.add_zero]
def bump(x:Row):Row:=x.dropLast++[x.getLastD 0+1]
theorem zbbl(u:Row)(y:Int):bump (u++[y])=u++[y+1]:=by
 unfold bump;rw[List.dropLast_concat];simp
def up(φ:Row->Nat):Row->Nat:=λx=>φ (bump x)
theorem zgv(φ:Row->Nat)(u:Row)(y:Int):up φ (u++[y])=φ (u++[y+1]):=by unfold up;rw[zbbl]
theorem zbjq(k:Int)(φ:Row->Nat)(r:Row)(e:Nat):T k φ (r++[(e:Int)+1])=T k (up φ) (r++[(e:Int)])^^^T (k-1) (up (up φ)) (r++[(e:Int)]):=by
 rw[show(e:Int)+1=((e+1:Nat):Int) by lia,zbbs,zbbs,zbbs,←zhv];refine zf λu _=>?_
 rw[zon]
 congr 1
 ·refine zf λy _=>?_
  rw[zgv];by_cases c:u.sum+y=r.sum+e+k
  ·rw[if_pos c,if_pos (by lia)]
  ·rw[if_neg c,if_neg (by lia)]
 ·refine zf λy _=>?_
  rw[zgv,zgv];by_cases c:u.sum+y=r.sum+e+(k-1)
  ·rw[if_pos c,if_pos (by lia)]
  ·rw[if_neg c,if_neg (by lia)]
def Nn(m:Row):Prop:=∀x∈m,0<=x
theorem zye(h:Nn m)(a:x∈wholeS m):m.sum<=x.sum/\x.sum<=2*m.sum:=by
 have:=zmf h m.length;rw[xbu] at this;exact this x a
theorem zbsv(h:y∈outL e):(e:Int)<=y:=by
 unfold outL at h;obtain⟨j,_,rfl⟩:=xbq.mp h;lia
theorem zhw{e:Nat}(h:x∈wholeS (r++[(e:Int)])):∃u y,x=u++[((y:Nat):Int)]/\u∈wholeS r:=by
 rw[zbq] at h;unfold wholeStep longL at h;obtain⟨u,b,h⟩:=xcf.mp h;obtain⟨y,a,rfl⟩:=xbq.mp h;rw[xdx] at a;have:=zbsv a;exact⟨u,y.toNat,by rw[Int.toNat_of_nonneg (by lia)],b⟩
theorem zuc{P:Row->Prop}(l:P [])(d:∀r,Nn r->P r->P (r++[0]))(f:∀r (e:Nat),Nn r->P (r++[(e:Int)])->P (r++[(e:Int)+1])):∀m:Row,Nn m->P m:=λm c=>by
 suffices h:∀i,i<=m.length->P (m.take i) by have:=h m.length (xbj _);rw[xbu] at this;exact this
 intro i
 induction i with
 |zero=>intro _;exact l
 |succ i ih=>
  intro n;have g:m[i]?=some m[i]:=xbe (by lia);rw[ze g];have b:Nn (m.take i):=λx k=>c x (xec k)
  have j:0<=m[i]:=c _ (xdq _);obtain⟨e,a⟩:∃e:Nat,m[i]=(e:Int):=⟨m[i].toNat,by lia⟩
  rw[a];clear g j a
  induction e with
  |zero=>exact d _ b (ih (by lia))
  |succ e ie=>rw[show((e+1:Nat):Int)=(e:Int)+1 by lia];exact f _ e b ie
theorem zkr:∀m:Row,Nn m->∀x∈wholeS m,Nn x:=λm l x b=>by
 have h:∀i,∀x∈wholeS (m.take i),Nn x:=λi=>by
  induction i with
  |zero=>intro x b;rw[xcj.mp (show x∈[[]] from b)];intro y j;cases j
  |succ i ih=>
   by_cases c:i<m.length
   ·have g:m[i]?=some m[i]:=xbe c;have n:0<=m[i]:=l _ (xdq c);obtain⟨e,f⟩:∃e:Nat,m[i]=(e:Int):=⟨m[i].toNat,by lia⟩
    intro x b;rw[ze g,f] at b;obtain⟨u,y,rfl,k⟩:=zhw b;intro z d;rcases xce.mp d with a|a
    ·exact ih u k z a
    ·rw[xcj.mp a];lia
   ·rw[xdv (by lia)] at ih ⊢;exact ih
 have:=h m.length;rw[xbu] at this;exact this x b
theorem zbrb(h:Nn m)(b:k<0):T k φ m=0:=by
 unfold T;rw[zf (g:=λ_=>0) λx a=>if_neg (by have:=zye h a;lia),zfc]
theorem zbjz(k:Int)(φ:Row->Nat):T k φ []=if k=0 then φ [] else 0:=by
 show(if([]:Row).sum=([]:Row).sum+k then φ [] else 0)^^^0=_;rw[xer];by_cases c:k=0
 ·rw[if_pos c,if_pos (by rw[c];rfl)]
 ·rw[if_neg c,if_neg (by simp;lia)]
theorem zji(k:Int)(φ:Row->Nat)(r:Row):T k φ (r++[0])=T k (λu=>φ (u++[0])) r:=by
 rw[show(0:Int)=((0:Nat):Int) from rfl,zbbs];refine zf λu _=>?_
 rw[zyc];show(if sb 0 0=true then(if u.sum+(((0:Nat):Int)+((0:Nat):Int))=r.sum+((0:Nat):Int)+k then φ (u++[((0:Nat):Int)+((0:Nat):Int)]) else 0) else 0)^^^0=_;rw[xer,if_pos (zid 0)];simp
theorem zbxe(a b:Int)(φ:Row->Nat)(r:Row)(e:Nat):T b (T a φ) (r++[(e:Int)+1])
  =(T b (T a (up φ)) (r++[(e:Int)])^^^T b (T (a-1) (up (up φ))) (r++[(e:Int)]))^^^(T (b-1) (T a (up (up φ))) (r++[(e:Int)])^^^T (b-1) (T (a-2) (up (up (up (up φ))))) (r++[(e:Int)])):=by
 rw[zbjq,←zbxd,←zbxd];have d:∀(c:Int) (ψ:Row->Nat) (u:Row) (y:Nat),up (T c ψ) (u++[(y:Int)])=T c (up ψ) (u++[(y:Int)])^^^T (c-1) (up (up ψ)) (u++[(y:Int)]):=λc ψ u y=>by rw[zgv,zbjq]
 congr 1
 ·refine zxz λx f=>?_
  obtain⟨u,y,rfl,_⟩:=zhw f;exact d _ _ _ _
 ·refine zxz λx f=>?_
  obtain⟨u,y,rfl,_⟩:=zhw f;have h:up (up (T a φ)) (u++[(y:Int)])=up (T a (up φ)) (u++[(y:Int)])^^^up (T (a-1) (up (up φ))) (u++[(y:Int)]):=by
   rw[zgv,show((y:Int)+1)=((y+1:Nat):Int) by lia,d,zgv,zgv]
   rfl
  rw[h,d,d,show a-1-1=a-2 by lia,xdn,←xdn (T (a-1) (up (up (up φ))) _),xhw,xip]
def co(b a:Int) (c:Nat):Bool:=decide (2*(c:Int)<=a)&&(if(c:Int)<b then sb (b-1-c).toNat (a-2*c).toNat else decide ((c:Int)=b))
theorem zjs{b a:Int}{c:Nat}(h:a<2*(c:Int)):co b a c=false:=by unfold co;rw[xcd (by lia)];rfl
theorem zbbg{b a:Int}{c:Nat}(h:b<(c:Int)):co b a c=false:=by
 unfold co;rw[if_neg (by lia),xcd (p:=(c:Int)=b) (by lia),Bool.and_false]
theorem zbbf{b a:Int}{c:Nat}(d:2*(c:Int)<=a)(e:(c:Int)<b):co b a c=sb (b-1-c).toNat (a-2*c).toNat:=by
 unfold co;rw[xbw d,if_pos e,Bool.true_and]
theorem ztf{b a:Int}{c:Nat}(d:2*(c:Int)<=a)(e:(c:Int)=b):co b a c=true:=by
 unfold co;rw[xbw d,if_neg (by lia),xbw e];rfl
theorem zbpv{b a:Int}{c:Nat}(h:2*b<=a)(d:(c:Int)<b):co b a c=false:=by
 rw[zbbf (by lia) d,zum (by lia)]
theorem zbpw(b a:Int)(c:Nat):co (b-1) (a-2) c=co b a (c+1):=by
 by_cases h:2*(c:Int)<=a-2
 ·by_cases g:(c:Int)<b-1
  ·rw[zbbf h g,zbbf (by lia) (by lia),show(b-1-((c+1:Nat):Int)).toNat=(b-1-1-(c:Int)).toNat by lia,show(a-2*((c+1:Nat):Int)).toNat=(a-2-2*(c:Int)).toNat by lia]
  ·by_cases g2:(c:Int)=b-1
   ·rw[ztf h g2,ztf (by lia) (by lia)]
   ·rw[zbbg (by lia),zbbg (by lia)]
 ·rw[zjs (by lia),zjs (by lia)]
theorem zbvl(h:a<=2*b-1)(c:Nat):Bool.xor (co b a c) (co b a (c+1))=Bool.xor (co b (a-1) c) (co (b-1) a c):=by
 by_cases h0:a<2*(c:Int)
 ·rw[zjs h0,zjs (by lia),zjs (by lia),zjs h0]
 have d:(c:Int)<b:=by lia
 rw[zbbf (by lia) d];by_cases h1:a=2*(c:Int)
 ·rw[zjs (a:=a) (c:=c+1) (by lia),zjs (a:=a-1) (by lia),show(a-2*(c:Int)).toNat=0 by lia,zid];by_cases g:(c:Int)<b-1
  ·rw[zbbf (by lia) g,show(a-2*(c:Int)).toNat=0 by lia,zid];rfl
  ·rw[ztf (by lia) (by lia)];rfl
 rw[zbbf (a:=a-1) (by lia) d];by_cases h2:a=2*(c:Int)+1
 ·rw[zjs (a:=a) (c:=c+1) (by lia),show(a-2*(c:Int)).toNat=1 by lia,show(a-1-2*(c:Int)).toNat=0 by lia,zid];by_cases g:(c:Int)<b-1
  ·obtain⟨q,e⟩:∃q:Nat,b-1-1-(c:Int)=q:=⟨(b-1-1-(c:Int)).toNat,by lia⟩
   rw[zbbf (by lia) g,show(a-2*(c:Int)).toNat=0+1 by lia,show(b-1-1-(c:Int)).toNat=q by lia,show(b-1-(c:Int)).toNat=q+1 by lia,pas,zid];cases sb q (0+1)<;>rfl
  ·rw[ztf (by lia) (by lia),show(b-1-(c:Int)).toNat=0 by lia];rfl
 have g:(c:Int)<b-1:=by lia
 obtain⟨q,e⟩:∃q:Nat,b-1-1-(c:Int)=q:=⟨(b-1-1-(c:Int)).toNat,by lia⟩
 obtain⟨p,f⟩:∃p:Nat,a-2*(c:Int)=p+2:=⟨(a-2*(c:Int)-2).toNat,by lia⟩
 rw[zbbf (c:=c+1) (by lia) (by lia),zbbf (by lia) g,show(b-1-(c:Int)).toNat=q+1 by lia,show(b-1-1-(c:Int)).toNat=q by lia,show(b-1-((c+1:Nat):Int)).toNat=q by lia,
  show(a-2*(c:Int)).toNat=p+1+1 by lia,show(a-1-2*(c:Int)).toNat=p+1 by lia,show(a-2*((c+1:Nat):Int)).toNat=p by lia,pas,pas]
 cases sb q (p+1+1)<;>cases sb q (p+1)<;>cases sb q p<;>rfl
def cs(b a:Int) (N:Nat) (φ:Row->Nat) (m:Row):Nat:=xr (List.range N) λc=>if co b a c=true then T c (T (a+b-c) φ) m else 0
theorem zmd:∀{N:Nat},k<N->(∀c,c≠k->f c=0)->xr (List.range N) f=f k
 |0,h,_=>by lia
 |N+1,h,z=>by
  rw[znw];by_cases c:k=N
  ·rw[zf (g:=λ_=>0) λx a=>z x (by have:=xbn.mp a;lia),zfc,xip,c]
  ·rw[zmd (by lia) z,z N (by lia),xer]
theorem zbps{b a:Int}{N:Nat}(φ:Row->Nat)(m:Row)(i:0<=b)(h:2*b<=a)(e:a<=2*b+1)(f:b<N):cs b a N φ m=T b (T a φ) m:=by
 obtain⟨k,rfl⟩:∃k:Nat,b=k:=⟨b.toNat,by lia⟩
 unfold cs;rw[zmd (k:=k) (by lia) λc d=>?_,ztf h rfl,if_pos rfl,show a+(k:Int)-k=a by lia];by_cases g:(c:Int)<k
 ·rw[zbpv h g];rfl
 ·rw[zbbg (by lia)];rfl
def AD(m:Row):Prop:=∀(φ:Row->Nat) (a b:Int) (N:Nat),a<=2*b+1->b<N->T b (T a φ) m=cs b a N φ m
theorem zbpt{b a:Int}{N:Nat}(φ:Row->Nat)(m:Row)(h:a<0):cs b a N φ m=0:=by
 unfold cs;rw[zf (g:=λ_=>0) λc _=>by rw[zjs (by lia)];rfl,zfc]
theorem zbqn(d:Nn m)(φ:Row->Nat) (h:a<0):T b (T a φ) m=0:=by
 rw[zxz (ψ:=λ_=>0) λx c=>zbrb (zkr m d x c) h,zbqp]
theorem zbqm{e:Nat}(i:Nn (r++[(e:Int)]))(f:AD (r++[(e:Int)])):AD (r++[(e:Int)+1]):=λφ a b N h l=>by
 have n:Nn (r++[(e:Int)+1]):=λx s=>by
  rcases xce.mp s with z|z
  ·exact i x (xhd _ z)
  ·rw[xcj.mp z];lia
 by_cases a0:a<0
 ·rw[zbpt _ _ a0,zbqn n _ a0]
 by_cases ap:2*b<=a
 ·by_cases b0:0<=b
  ·rw[zbps _ _ b0 ap h l]
  ·lia
 obtain⟨M,rfl⟩:∃M,N=M+1:=⟨N-1,by lia⟩
 rw[zbxe];generalize hm:r++[(e:Int)]=m at *
 rw[f (up φ) a b (M+1) h l,f (up (up φ)) (a-1) b (M+1) (by lia) l,f (up (up φ)) a (b-1) (M+1) (by lia) (by lia),f _ (a-2) (b-1) (M+1) (by lia) (by lia)];have j:cs b a (M+1) φ (r++[(e:Int)+1])=((cs b a (M+1) (up φ) m)^^^xr (List.range (M+1)) λc=>if co b a c=true then T c (T (a+b-1-c) (up (up φ))) m else 0) ^^^
   ((xr (List.range (M+1)) λc=>if co b a (c+1)=true then T c (T (a+b-1-c) (up (up φ))) m else 0)^^^xr (List.range (M+1)) λc=>if co b a (c+1)=true then T c (T (a-2+(b-1)-c) (up (up (up (up φ))))) m else 0):=by
  have q:∀Z:Nat->Nat,(xr (List.range (M+1)) λc=>if co b a (c+1)=true then Z (c+1) else 0)=xr (List.range (M+1)) λc=>if co b a c=true then(if c=0 then 0 else Z c) else 0:=λZ=>by
   rw[znw,zbbg (c:=M+1) (by lia),zyb];simp
  have o:=q λc=>T ((c:Int)-1) (T (a+b-c) (up (up φ))) m
  have p:=q λc=>T ((c:Int)-1) (T (a+b-c-2) (up (up (up (up φ))))) m
  rw[zf (g:=λc=>if co b a (c+1)=true then T c (T (a+b-1-c) (up (up φ))) m else 0) λc _=>by
   show(if co b a (c+1)=true then T (((c+1:Nat):Int)-1) (T (a+b-((c+1:Nat):Int)) (up (up φ))) m else 0)=_
   rw[show((c+1:Nat):Int)-1=c by lia,show a+b-((c+1:Nat):Int)=a+b-1-c by lia]] at o
  rw[zf (g:=λc=>if co b a (c+1)=true then T c (T (a-2+(b-1)-c) (up (up (up (up φ))))) m else 0) λc _=>by
   show(if co b a (c+1)=true then T (((c+1:Nat):Int)-1) (T (a+b-((c+1:Nat):Int)-2) _) m else 0)=_
   rw[show((c+1:Nat):Int)-1=c by lia,show a+b-((c+1:Nat):Int)-2=a-2+(b-1)-c by lia]] at p
  rw[o,p];unfold cs;rw[←zhv,←zhv,←zhv];refine zf λc _=>?_
  by_cases hc:co b a c=true
  ·rw[if_pos hc,if_pos hc,if_pos hc,if_pos hc,if_pos hc,zbxe,hm,show a+b-(c:Int)-1=a+b-1-c by lia];by_cases c0:c=0
   ·subst c0;rw[if_pos rfl,if_pos rfl,zbrb (k:=((0:Nat):Int)-1) i (by lia),zbrb (k:=((0:Nat):Int)-1) i (by lia)]
   ·rw[if_neg c0,if_neg c0]
  ·rw[if_neg hc,if_neg hc,if_neg hc,if_neg hc,if_neg hc,xhw]
 rw[j];have d:cs (b-1) (a-2) (M+1) (up (up (up (up φ)))) m=xr (List.range (M+1)) λc=>if co b a (c+1)=true then T c (T (a-2+(b-1)-c) (up (up (up (up φ))))) m else 0:=by
  unfold cs;exact zf λc _=>by rw[zbpw]
 have two:cs b (a-1) (M+1) (up (up φ)) m^^^cs (b-1) a (M+1) (up (up φ)) m=(xr (List.range (M+1)) λc=>if co b a c=true then T c (T (a+b-1-c) (up (up φ))) m else 0)^^^xr (List.range (M+1)) λc=>if co b a (c+1)=true then T c (T (a+b-1-c) (up (up φ))) m else 0:=by
  unfold cs;rw[←zhv,←zhv];refine zf λc _=>?_
  rw[show a-1+b-(c:Int)=a+b-1-c by lia,show a+(b-1)-(c:Int)=a+b-1-c by lia,xif,xif,zbvl (by lia)]
 rw[d,xdn,←xdn (cs b (a-1) _ _ _),two];simp only[xdn]
theorem adem:∀m:Row,Nn m->AD m:=zuc
 (λφ a b N h i=>by
  by_cases a0:a<0
  ·rw[zbpt _ _ a0,zbqn (λx d=>absurd d (by simp)) _ a0]
  unfold cs;rw[zbjz,zbjz];by_cases b0:0<=b
  ·rw[zmd (k:=0) (by lia) λc j=>by rw[zbjz,if_neg (show ¬ (c:Int)=0 by lia)];split<;>rfl,zbjz,zbjz];by_cases bz:b=0
   ·subst bz;rw[ztf (by lia) (by lia)];simp
   ·rw[if_neg bz,if_neg (show ¬ a+b-((0:Nat):Int)=0 by lia)];simp
  ·lia)
 (λr g f φ a b N h i=>by
  unfold cs;rw[zji,show(λu:Row=>T a φ (u++[0]))=T a (λu=>φ (u++[0])) from funext λu=>zji a φ u,f _ a b N h i];unfold cs;refine zf λc _=>?_
  rw[zji,show(λu:Row=>T (a+b-c) φ (u++[0]))=T (a+b-c) (λu=>φ (u++[0])) from funext λu=>zji _ φ u])
 (λr e g f=>zbqm (λx d=>by
  rcases xce.mp d with z|z
  ·exact g x z
  ·rw[xcj.mp z];lia) f)
def Rows(n:Nat) (l:List Row):Prop:=∀r∈l,r.length=n/\∀x∈r,0<=x
theorem Rows.odd(h:Rows n l):Rows n (aO l):=λr a=>h r (zdq a)
theorem zfu{a:List Pt}(A:e<=1000)(z:a.length*(e+1)<=100000)(m:∀p∈a,p.1.length<=1000/\0<=p.2)
  (k:∀r o t g,I [a0,a1,a2,a3,some (.lst ((lawL e a).map ptD)),some (.int e),r,o,t] (au++g)):
  WP (zdc [a0,a1,a2,a3,some (.lst (a.map ptD)),some (.int e),v6,v7,v8] au) (loopK I Q):=by
 unfold zdc;simp only[W,V,Dd.N];refine⟨small _ (by simp),?_⟩;refine zcb (λi σ s=>(∃v w,σ=[a0,a1,a2,a3,some (.lst (a.map ptD)),some (.int e),some (.ref au.length),v,w])/\s=au++[.lst ((lawL e (a.take i)).map ptD)]) ⟨⟨_,_,rfl⟩,rfl⟩ ?_ ?_
 ·rintro i y σ s n ⟨⟨v,w,rfl⟩,rfl⟩;obtain⟨p,b,rfl⟩:=zha n;have q:i<a.length:=(xbd.mp b).1;obtain⟨c,f⟩:=m p (xbo b);refine⟨_,rfl,?_⟩;have d:(lawL e (a.take i)).length+(e+1)<=100000:=by
   have u:=zpa e (a.take i);have l:(a.take i).length=i:=by rw[xcq];lia
   rw[l] at u;have c:(i+1)*(e+1)<=a.length*(e+1):=xcx _ q;rw[xhg] at c;lia
  have C:=zwe e p;unfold zfk;simp only[W,V,L,zfp];refine⟨_,_,rfl,by simp;rfl,_,rfl,rngN (by split<;>lia) (by split<;>lia),by rw[zbh];exact small _ (by split<;>lia),?_⟩;unfold rng;refine zme (as:=List.range ((if p.2<(e:Int) then p.2 else(e:Int))+1).toNat) (λσ=>∃v,σ=[v,some (aL p.1),some (.int p.2),some (.int e)]) (λx=>decide (e&&&x=x)) (λj:Nat=>ptD (p.1++[(e:Int)+(j:Int)],p.2-(j:Int))) (λi=>.int (0+(i:Int))) ⟨_,rfl⟩ ?_ ?_
  ·rintro j E σ ⟨v,rfl⟩;refine⟨_,rfl,⟨_,rfl⟩,?_,λ_=>?_⟩
   ·simp only[W,V];rw[xhu,K07.znr];refine⟨trivial,trivial,?_⟩;exact xhn.mpr ⟨λh=>by lia,λh=>by lia⟩
   ·simp only[W,V,Dd.N];rw[xhu];refine⟨small _ (by simp),by rw[xbb];exact small _ (by simp;lia),small _ (by simp),?_⟩;simp[ptD,aL]
  ·rw[zmn f];refine⟨_,_,_,rfl,by simp;rfl,rfl,?_,⟨_,_,rfl⟩,?_⟩
   ·rw[xbb,xbb];have:(sharesL e 0 p.2).length<=e+1:=zib _ _ _ _;exact small _ (by lia)
   ·rw[ze b,zbaf];unfold lawJ;simp[xcw,Function.comp_def]
 ·rintro σ s ⟨⟨v,w,rfl⟩,rfl⟩;rw[xbb,xbu];simp only[W,V,M,Dd.N,L];refine⟨_,_,rfl,by simp;rfl,?_⟩;have:=k (some (.ref au.length)) v w [.dead]
  simpa using this
theorem znd(P:0<=t)(o:∀r∈l,∀x∈r,0<=x/\x<=1000)(S:∀r∈l,r.length<=1000)(q:∀r∈l,box r<=B)(hB:B<=20000)(hl:l.length*B<=900000)(k:∀g,Q (aK (aO (raiseL t l))) (au++g)):WP (zbp [aK l,.int t] au) Q:=by
 refine zju rfl ?_;simp only[W,V,Dd.N];refine⟨small _ (by simp),?_⟩;have c:∀i,(raiseL t (l.take i)).length<=900000:=λi=>by
  have I:=zii (k:=t) (l:=l.take i) (B:=B) λx H=>q x (xec H)
  have h3:(l.take i).length*B<=l.length*B:=xcx _ (by rw[xcq];exact xgr _ _);lia
 refine zcb (λi σ s=>(∃v w x y z a,σ=[some (aK l),some (.int t),some (.ref au.length),v,w,x,y,z,a])/\∃g,s=au++(.lst (aJ (raiseL t (l.take i)))::g)) ⟨⟨_,_,_,_,_,_,rfl⟩,[],rfl⟩ ?_ ?_
 ·rintro i y σ s G ⟨⟨v,w,x,C,z,a,rfl⟩,g,rfl⟩;obtain⟨r,n,rfl⟩:=zx G;have f:=xbo n;have A:∀x∈r,0<=x:=λx H=>(o r f x H).1
  refine⟨_,rfl,?_⟩;unfold zdb;simp only[W,V,Dd.N];refine⟨small _ (by simp),small _ (by simp),small _ (by simp),?_⟩;refine zcb (λj σ s=>(∃x y z a,σ=[some (aK l),some (.int t),some (.ref au.length),some (aL r),some (.lst ((lawS t (r.take j)).map ptD)),x,y,z,a])/\∃g,s=au++(.lst (aJ (raiseL t (l.take i)))::g)) ⟨⟨_,_,_,_,rfl⟩,g,rfl⟩ ?_ ?_
  ·rintro j y σ s G ⟨⟨x,C,z,a,rfl⟩,g,rfl⟩;obtain⟨e,E,rfl⟩:=zha G;refine⟨_,rfl,?_⟩;obtain⟨u,I⟩:=o r f e (xbo E);have b:=zlk r t j;have m:=zpk r (j+1);rw[ze E,zcp,show box [e]=e.toNat+1 by simp[box]] at m;have h:(lawS t (r.take j)).length*(e.toNat+1)<=20000:=xbc (xcx _ b) (xbc m (xbc (q r f) hB));have d:=zwa r P j;have X:=S r f;rw[ze E,zhp];unfold lawStep;generalize lawS t (r.take j)=ps at h d ⊢;obtain⟨e',rfl⟩:=xda u;simp only[V];refine zfu (e:=e') (by lia) (by rw[xdx] at h;lia) (λp o=>?_) λw6 w7 w8 J=>?_
   ·obtain⟨q1,q2⟩:=d p o;rw[q1,xcq];exact⟨by lia,q2⟩
   ·refine⟨⟨_,_,_,_,rfl⟩,g++J,by simp⟩
  ·rintro σ s ⟨⟨x,C,z,a,rfl⟩,g,rfl⟩;rw[xbb,xbu];simp only[W,V,Dd.N,L,zfp];have b:=zlk r t r.length;rw[xbu] at b;have Y:=q r f;refine⟨_,_,rfl,zcd _ _,by rw[xbb];exact small _ (by lia),?_⟩;refine zme (as:=lawS t r) (λσ=>∃v w,σ=[v,w]) (λp=>decide (p.2=0)) (λp=>aL p.1) ptD ⟨_,_,rfl⟩ ?_ ?_
   ·rintro p o σ ⟨v,w,rfl⟩;exact⟨_,rfl,⟨_,_,rfl⟩,by simp only[W,V,xks],λ_=>by simp only[W,V,xks]⟩
   ·have U:((lawS t r).filter λp=>decide (p.2=0)).map (λp=>aL p.1)=aJ (raiseR t r):=by
     rw[←zwc A P];unfold lawP aJ;rw[xcw]
     rfl
    rw[U];have u:=c i;have I:=zih (k:=t) (q r f);refine⟨_,_,_,rfl,zcd _ _,rfl,by rw[zc,zc];exact small _ (by lia),⟨_,_,_,_,_,_,rfl⟩,g,?_⟩;rw[zgy,ze n,zgg];simp[aJ]
 ·rintro σ s ⟨⟨v,w,x,C,z,a,rfl⟩,g,rfl⟩;rw[zc,xbu];have u:=c l.length;rw[xbu] at u;simp only[W,V,M,Dd.N];refine⟨_,_,rfl,zcd _ _,?_⟩;refine zmw (l:=raiseL t l) rfl (by lia) λJ=>?_
  rw[zgy,xcm];exact k _
theorem zbub(a:Row)(b:List Row):oInG neg (aL a) (aK b) au=.ok (.bl (if neg then !decide (a∈b) else decide (a∈b))) au:=by
 unfold oInG;rw[zwv,zpf];dsimp only;rw[if_pos ⟨zkl a,zdu b⟩];have e:((b.map dRow).any λy=>PyData.eqv y (dRow a))=decide (a∈b):=by
  rw[List.any_map,xfn,xlq,xhy];constructor
  ·rintro⟨x,c,h⟩;have h:PyData.eqv (dRow x) (dRow a)=true:=h;rw[zjd] at h;have:=xde h;subst this;exact c
  ·intro h;refine⟨a,h,?_⟩;show PyData.eqv (dRow a) (dRow a)=true;rw[zjd];simp
 rw[e]
theorem zbgb(e:seqV x=some (aJ l))(a:FewU l)(k:∀g,Q (aK (aO l)) (au++g)):WP (zfz [x] au) Q:=by
 refine zju rfl ?_;simp only[W,V];refine⟨_,e,?_⟩;refine zcb (λi σ s=>(∃v,σ=[some x,some (.ref au.length),v])/\s=au++[.dT (aQ (aN (l.take i)))]) ⟨⟨_,rfl⟩,rfl⟩ ?_ ?_
 ·rintro i y σ s c ⟨⟨v,rfl⟩,rfl⟩;obtain⟨r,d,rfl⟩:=zx c;refine⟨_,rfl,?_⟩;unfold zhf;simp only[W,V,L];refine zwn (ks:=aN (l.take i)) (by simp) (a.sub λz b=>xec b).odd ⟨⟨_,rfl⟩,?_⟩;rw[ze d];unfold aN;rw[xeq];simp
 ·rintro σ s ⟨⟨v,rfl⟩,rfl⟩;rw[zc,xbu];simp only[W,V];refine zkv (ks:=aN l) (by simp) a.odd ?_;simp only[W,V];exact k _
theorem small16(h:n<=16000000):n<=sizeLine:=by rw[xij];lia
theorem zbbp{b a:List Row}(d:b.length+a.length<=16000000)(c:FewU (b++a))(k:∀g,Q (aK (aO (b++a))) (au++g)):WP (znv [aK b,aK a] au) Q:=by
 refine zju rfl ?_;simp only[W,V];refine⟨by rw[zc,zc];exact small16 d,?_⟩;exact zbgb (l:=b++a) (by simp[seqV,aJ]) c k
theorem zuw(t:Int)(l:List Row)(i:Nat):∀x∈raiseL t (l.take i),x∈raiseL t l:=λx a=>by
 obtain⟨r,b,a⟩:=xcf.mp a;exact xcf.mpr ⟨r,xec b,a⟩
theorem zuu(A:0<=t)(o:∀r∈l,∀x∈r,0<=x/\x<=1000)(q:∀r∈l,r.length<=1000)(u:∀r∈l,box r<=20000)(m:FewU (raiseL t l))(k:∀g,Q (aK (aO (raiseL t l))) (au++g)):WP (zgt [aK l,.int t] au) Q:=by
 refine zju rfl ?_;simp only[W,V,Dd.N];refine WP.of (zgm (au:=au) (i:=t)) ⟨true,rfl,?_⟩;have n:¬ t<0:=by lia
 simp only[W,V,Dd.N,n,xiq];refine zcb (λi σ s=>(∃v w,σ=[some (aK l),some (.int t),some (.ref au.length),v,w])/\∃g,s=au++(.dT (aQ (aN (raiseL t (l.take i))))::g)) ⟨⟨_,_,rfl⟩,[],rfl⟩ ?_ ?_
 ·rintro i y σ s f ⟨⟨v,w,rfl⟩,g,rfl⟩;obtain⟨r,a,rfl⟩:=zx f;have e:=xbo a;refine⟨_,rfl,?_⟩;unfold zko;simp only[W,V,M,Dd.N,L];refine⟨r,zdl r,?_⟩;rw[ze a,zgg];split
  ·rename_i c;have d:raiseR t r=prodP r t:=by unfold raiseR;rw[if_pos c]
   rw[d];refine zhg (o r e) (q r e) (u r e) λp=>?_
   simp only[W,V,Dd.N];rw[xcm,xhl];generalize g++p=g3;refine zcb (λj σ s=>(∃w,σ=[some (aK l),some (.int t),some (.ref au.length),some (aL r),w])/\s=au++(.dT (aQ (aN (raiseL t (l.take i)++(prodP r t).take j)))::g3)) ⟨⟨_,rfl⟩,by rw[xmo,xei]⟩ ?_ ?_
   ·rintro j y σ s f ⟨⟨w,rfl⟩,rfl⟩;obtain⟨b,h,rfl⟩:=zx f;refine⟨_,rfl,?_⟩;unfold zkp;simp only[W,V,L];refine zwn (ks:=aN (raiseL t (l.take i)++(prodP r t).take j)) (zcd _ _) (m.sub λz hz=>?_).odd ⟨⟨_,rfl⟩,?_⟩
    ·rcases xce.mp hz with hz|hz
     ·exact zuw t l i z hz
     ·exact xcf.mpr ⟨r,e,by rw[d];exact xec hz⟩
    ·rw[zgy,ze h,←xcm];unfold aN;rw[xeq (l':=[b])]
     rfl
   ·rintro σ s ⟨⟨w,rfl⟩,rfl⟩;simp only[L];refine⟨⟨_,_,rfl⟩,g3,?_⟩;rw[zc,xbu]
  ·rename_i c;have d:raiseR t r=[]:=by unfold raiseR;rw[if_neg c]
   rw[d,xei]
   try simp only[L]
   exact⟨⟨_,_,rfl⟩,g,rfl⟩
 ·rintro σ s ⟨⟨v,w,rfl⟩,g,rfl⟩;rw[zc,xbu];simp only[W,V];refine zkv (ks:=aN (raiseL t l)) (zcd _ _) m.odd ?_;simp only[W,V];exact k _
def Ge:Row->Row->Prop
 |[],[]=>True
 |p::ps,v::vs=>p<=v/\Ge ps vs
 |_,_=>False
theorem Ge.refl:∀p:Row,Ge p p
 |[]=>trivial
 |p::ps=>⟨xoc _,Ge.refl ps⟩
theorem Ge.trans:∀{a b c:Row},Ge a b->Ge b c->Ge a c
 |[],[],[],_,_=>trivial
 |_::_,_::_,_::_,h1,h2=>⟨xmb h1.1 h2.1,Ge.trans h1.2 h2.2⟩
theorem Ge.len:∀{a b:Row},Ge a b->b.length=a.length
 |[],[],_=>rfl
 |_::_,_::_,h=>by rw[xbt,xbt,Ge.len h.2]
theorem Ge.append:∀{a b c d:Row},Ge a b->Ge c d->Ge (a++c) (b++d)
 |[],[],_,_,_,h=>h
 |_::_,_::_,_,_,h1,h2=>⟨h1.1,Ge.append h1.2 h2⟩
theorem Ge.sum:∀{a b:Row},Ge a b->a.sum<=b.sum
 |[],[],_=>xoc _
 |_::_,_::_,h=>by
  have:=Ge.sum h.2;have:=h.1;rw[xcu,xcu];lia
theorem Ge.pos:∀{a b:Row},Ge a b->(∀x∈a,0<=x)->∀x∈b,0<=x
 |[],[],_,h,x,hx=>h x hx
 |p::a,v::b,h,ha,x,hx=>by
  rcases xbl.mp hx with rfl|hx
  ·have:=ha p xbv;have:=h.1;lia
  ·exact Ge.pos h.2 (λy c=>ha y (xbf _ c)) x hx
def vle:Row->Nat->List Row
 |[],_=>[[]]
 |p::ps,K=>(List.range (K+1)).flatMap λj:Nat=>(vle ps (K-j)).map ((p+(j:Int))::·)
noncomputable def cle:Nat->Nat->Nat
 |0,_=>1
 |n+1,K=>((List.range (K+1)).map λj=>cle n j).sum
noncomputable def acc:Nat->List Nat->List Nat
 |_,[]=>[]
 |s,a::l=>(s+a)::acc (s+a) l
def tb:Nat->List Nat
 |0=>List.replicate 17 1
 |n+1=>acc 0 (tb n)
def ctb(n K:Nat):Nat:=(tb n).getD K 0
theorem zbeb:∀{l:List Nat}{s i:Nat},i<l.length->(acc s l)[i]?=some (s+(l.take (i+1)).sum)
 |[],_,_,h=>by simp at h
 |a::l,s,0,_=>by simp[acc]
 |a::l,s,i+1,h=>by
  have:=zbeb (l:=l) (s:=s+a) (i:=i) (by simpa using h);unfold acc;rw[xgk,this,List.take_succ_cons,xcu,xmy]
theorem zbea:∀(l:List Nat) (s:Nat),(acc s l).length=l.length
 |[],_=>rfl
 |a::l,s=>by unfold acc;rw[xbt,xbt,zbea l]
theorem zbes:∀n,(tb n).length=17
 |0=>rfl
 |n+1=>by unfold tb;rw[zbea,zbes n]
theorem zbkr:∀n:Nat,tb n=(List.range 17).map (cle n)
 |0=>rfl
 |n+1=>by
  apply xie;intro i;by_cases h:i<17
  ·have e:=zbeb (l:=tb n) (s:=0) (i:=i) (by rw[zbes];exact h);unfold tb;rw[e,zbkr n,xcl,xml h,←List.map_take,List.take_range,xej (by lia),xeg]
   rfl
  ·rw[xfy (by rw[zbes];lia),xfy (by simp;lia)]
theorem zte{K:Nat}(h:K<17):ctb n K=cle n K:=by
 unfold ctb;rw[zbkr,xbi,xcl,xml h]
 rfl
theorem zbet(f:Nat->Nat):∀K:Nat,((List.range (K+1)).map λj=>f (K-j)).sum=((List.range (K+1)).map f).sum:=λK=>by
 have e:((List.range (K+1)).map λj=>f (K-j))=((List.range (K+1)).map f).reverse:=by
  apply xlm
  ·simp
  ·intro i a b;simp at a b ⊢
 rw[e,List.sum_reverse]
theorem zpc{α β:Type}(f:α->List β):∀l:List α,(l.flatMap f).length=(l.map λa=>(f a).length).sum
 |[]=>rfl
 |a::l=>by rw[xjl,xbk,zpc f l,xbr,xcu]
theorem ztq:∀(p:Row) (K:Nat),(vle p K).length=cle p.length K
 |[],_=>rfl
 |p::ps,K=>by
  show((List.range (K+1)).flatMap λj:Nat=>(vle ps (K-j)).map ((p+(j:Int))::·)).length=((List.range (K+1)).map λj=>cle ps.length j).sum;rw[zpc,←zbet (cle ps.length)]
  congr 1
  refine xeo λj _=>?_
  rw[xbb,ztq ps]
theorem zjv:∀{p v:Row}{K:Nat},Ge p v->v.sum<=p.sum+K->v∈vle p K
 |[],[],K,_,_=>by simp[vle]
 |p::ps,v::vs,K,h,hs=>by
  have a:=h.1;have b:=h.2.sum;rw[xcu,xcu] at hs;refine xcf.mpr ⟨(v-p).toNat,xbn.mpr (by lia),xbq.mpr ⟨vs,zjv h.2 (by lia),?_⟩⟩;rw[show p+((v-p).toNat:Int)=v by lia]
theorem zoa:∀{p v:Row}{K:Nat},v∈vle p K->Ge p v/\v.sum<=p.sum+K
 |[],v,K,h=>by
  simp[vle] at h;subst h;exact⟨trivial,by simp⟩
 |p::ps,v,K,h=>by
  obtain⟨j,a,h⟩:=xcf.mp h;obtain⟨w,b,rfl⟩:=xbq.mp h;obtain⟨c,d⟩:=zoa b;have a:=xbn.mp a;refine⟨⟨by lia,c⟩,?_⟩;rw[xcu,xcu];lia
theorem zbek(r:Row):∀x∈wholeS r,Ge r x:=by
 have:=zks (P:=λm s=>∀x∈s,Ge m x) (by simp;exact trivial) (λm e s d=>?_) r r.length
 ·rw[xbu] at this;exact this
 ·intro x a;unfold wholeStep longL at a;obtain⟨b,f,a⟩:=xcf.mp a;obtain⟨y,c,rfl⟩:=xbq.mp a;have:=(zbfz c).1;exact(d b f).append ⟨by lia,trivial⟩
theorem zol(h:∀y∈r,0<=y)(c:0<=k)(a:x∈raiseR k r):Ge r x/\x.sum=r.sum+k:=by
 rw[zei h c] at a;obtain⟨b,d⟩:=xcn.mp a;exact⟨zbek r x b,by simpa using d⟩
theorem zbkv(e:Nat)(lo a:Int)(n:Nat):(subL e lo a n).Nodup:=List.Pairwise.filter _ xlp
theorem zbmq(e:Nat):(outL e).Nodup:=by
 unfold outL;rw[xgq,xnh];have:=zbkv e 0 e (e+1);rw[xgq] at this;exact this.imp λh=>by lia
theorem zbnt{c:List Row}{xs:List Int}(i:c.Nodup)(d:xs.Nodup):(longL c xs).Nodup:=by
 rw[xih];intro x;rcases List.eq_nil_or_concat x with rfl|⟨a,b,rfl⟩
 ·have:[]∉longL c xs:=λh=>by
   unfold longL at h;obtain⟨e,_,h⟩:=xcf.mp h;obtain⟨y,_,h⟩:=xbq.mp h;simp at h
  rw[xge.mpr this];lia
 ·rw[List.concat_eq_append,znm];have f:=xih.mp i a;have g:=xih.mp d b;exact xbc (xkt f g) (by decide)
theorem zbej(r:Row):(wholeS r).Nodup:=by
 have:=zks (P:=λm s=>s.Nodup) (by simp) (λm e s a=>zbnt a (zbmq _)) r r.length
 rwa [xbu] at this
theorem zze{k:Nat}(h:∀y∈r,0<=y):(raiseR (k:Int) r).length<=cle r.length k:=by
 rw[←ztq];refine xed ?_ λx a=>?_
 ·rw[zei h (by lia)];exact(zbej r).filter _
 ·obtain⟨b,c⟩:=zol h (by lia) a;exact zjv b (by lia)
theorem zbdn:∀e:Nat,3*((e+1)*2^e)<=4*3^e
 |0=>by decide
 |1=>by decide
 |e+2=>by
  have a:=zbdn (e+1);rw[xkp 2 (e+1),xkp 3 (e+1)];have h:(e+2+1)*(2^(e+1)*2)<=((e+1+1)*2^(e+1))*3:=by
   rw[xnr (2^(e+1)) 2,←xkc,xnr ((e+1+1)*2^(e+1)) 3,←xkc];exact xcx _ (by lia)
  lia
theorem zbdx:∀{r:Row},(∀x∈r,0<=x)->3^r.length*(box r*2^r.sum.toNat)<=4^r.length*3^r.sum.toNat
 |[],_=>by simp[box]
 |e::r,h=>by
  have k:=h e xbv;have a:=λx g=>h x (xbf e g)
  have i:=zbdx a;have j:=zsy a;have f:=zbdn e.toNat;have c:(e::r).sum.toNat=e.toNat+r.sum.toNat:=by rw[xcu];lia
  rw[c,Nat.pow_add,Nat.pow_add,xbt,xkp,xkp];show 3^r.length*3*((e.toNat+1)*box r*(2^e.toNat*2^r.sum.toNat))<=4^r.length*4*(3^e.toNat*3^r.sum.toNat)
  have m:=xkt i f;have d:3^r.length*3*((e.toNat+1)*box r*(2^e.toNat*2^r.sum.toNat))=3^r.length*(box r*2^r.sum.toNat)*(3*((e.toNat+1)*2^e.toNat)):=by
   simp only[xkc,xnr,Nat.mul_left_comm]
  have b:4^r.length*4*(3^e.toNat*3^r.sum.toNat)=4^r.length*3^r.sum.toNat*(4*3^e.toNat):=by
   simp only[xkc,xnr,Nat.mul_left_comm]
  rw[d,b];exact m
theorem zbhm:(List.range 11).all (λn=>(List.range 18).all λs=>Nat.blt (4^n*3^s) (3^n*(20001*2^s)))=true:=by decide +kernel
theorem zbjd{r:Row}(f:r.length<=10)(h:∀x∈r,0<=x)(g:r.sum<=17):box r<=20000:=by
 have c:=zbdx h;have a:=xca.mp (xca.mp zbhm r.length (xbn.mpr (by lia))) r.sum.toNat (xbn.mpr (by lia));have a:4^r.length*3^r.sum.toNat<3^r.length*(20001*2^r.sum.toNat):=Nat.blt_eq.mp a;have b:=xdk c a;have d:=Nat.lt_of_mul_lt_mul_left b;have e:=Nat.lt_of_mul_lt_mul_right d;lia
theorem zxg:(List.range 32).all (λa=>(List.range 32).all λb=>Nat.ble ((a+1)*((b+1)*(31-a-b+1))) 20000)=true:=by decide +kernel
theorem zgp(h:a+b+c<=31):(a+1)*((b+1)*(c+1))<=20000:=by
 have d:=xca.mp (xca.mp zxg a (xbn.mpr (by lia))) b (xbn.mpr (by lia));have d:(a+1)*((b+1)*(31-a-b+1))<=20000:=xku.mp d;exact xbc (Nat.mul_le_mul_left _ (Nat.mul_le_mul_left _ (by lia))) d
theorem zbqd:∀{r:Row},r.length<=3->(∀x∈r,0<=x)->r.sum<=31->box r<=20000
 |[],_,_,_=>by simp[box]
 |[a],_,h,s=>by
  have:=zgp (a:=a.toNat) (b:=0) (c:=0) (by simp at s;lia)
  simpa [box] using this
 |[a,b],_,h,s=>by
  have d:=h a (by simp);have e:=h b (by simp);have:=zgp (a:=a.toNat) (b:=b.toNat) (c:=0) (by simp at s;lia)
  simpa [box] using this
 |[a,b,c],_,h,s=>by
  have d:=h a (by simp);have e:=h b (by simp);have f:=h c (by simp);have:=zgp (a:=a.toNat) (b:=b.toNat) (c:=c.toNat) (by simp at s;lia)
  simpa [box] using this
 |_::_::_::_::_,h,_,_=>by simp at h
structure KX (n K:Nat) (some:List Row):Prop where
 rows:Rows n some
 big:(n<=3/\K<=16/\some.length<=40/\∀p∈some,p.sum+K<=32)\/(n<=10/\K<=8/\some.length<=12/\∀p∈some,p.sum+K<=18)
def UU(some:List Row) (T:Nat):List Row:=some.flatMap λp=>vle p T
theorem zbee{some:List Row}{T S:Nat}(h:T<=S){x:Row}(a:x∈UU some T):x∈UU some S:=by
 obtain⟨p,c,a⟩:=xcf.mp a;obtain⟨b,d⟩:=zoa a;exact xcf.mpr ⟨p,c,zjv b (by lia)⟩
theorem zbed{some:List Row}{x:Row}(h:x∈some):x∈UU some 0:=xcf.mpr ⟨x,h,zjv (Ge.refl x) (by lia)⟩
theorem zbbr{n:Nat}{some:List Row}(h:Rows n some)(T:Nat):(UU some T).length=some.length*cle n T:=by
 unfold UU;rw[zpc];have:∀l:List Row,Rows n l->(l.map λp=>(vle p T).length).sum=l.length*cle n T:=λl=>by
  induction l with
  |nil=>intro _;simp
  |cons a l ih=>
   intro h;rw[xbr,xcu,ih λr b=>h r (xbf _ b),ztq,(h a xbv).1,xbt,xhg];lia
 exact this some h
theorem zgs{n:Nat}{some l:List Row}{T k:Nat}(h:Rows n some)(d:∀x∈l,x∈UU some T){x:Row}(a:x∈raiseL (k:Int) l):x∈UU some (T+k):=by
 obtain⟨r,e,a⟩:=xcf.mp a;obtain⟨p,b,g⟩:=xcf.mp (d r e);obtain⟨c,j⟩:=zoa g;obtain⟨f,i⟩:=zol (c.pos (h p b).2) (by lia) a;exact xcf.mpr ⟨p,b,zjv (c.trans f) (by lia)⟩
theorem zbix:(List.range 4).all (λn=>(List.range 17).all λT=>Nat.ble (40*ctb n T) 600000)=true:=by decide +kernel
theorem zbbh:(List.range 11).all (λn=>(List.range 9).all λT=>Nat.ble (12*ctb n T) 600000)=true:=by decide +kernel
section
variable {n:Nat}{K:Nat}{some:List Row}
theorem KX.top(h:KX n K some){T:Nat}(e:T<=K):(UU some T).length<=600000:=by
 rw[zbbr h.rows];rcases h.big with⟨d,c,a,b⟩|⟨d,c,a,b⟩
 ·have:=xku.mp (xca.mp (xca.mp zbix n (xbn.mpr (by lia))) T (xbn.mpr (by lia)));rw[zte (by lia)] at this;exact xbc (xcx _ a) this
 ·have:=xku.mp (xca.mp (xca.mp zbbh n (xbn.mpr (by lia))) T (xbn.mpr (by lia)));rw[zte (by lia)] at this;exact xbc (xcx _ a) this
theorem KX.few(h:KX n K some){T:Nat}(a:T<=K){l:List Row}(b:∀x∈l,x∈UU some T):FewU l:=FewU.of b (by have:=h.top a;lia)
theorem KX.len(h:KX n K some){T:Nat}(a:T<=K){l:List Row}(b:l.Nodup)(c:∀x∈l,x∈UU some T):l.length<=600000:=xbc (xed b λx d=>c x d) (h.top a)
theorem KX.item(h:KX n K some){T:Nat}(o:T<K){x:Row}(i:x∈UU some T):x.length=n/\(∀y∈x,0<=y/\y<=1000)/\box x<=20000:=by
 obtain⟨p,d,l⟩:=xcf.mp i;obtain⟨f,m⟩:=zoa l;have a:=f.pos (h.rows p d).2;have b:=f.len.trans (h.rows p d).1;rcases h.big with⟨k,g,j,e⟩|⟨k,g,j,e⟩
 ·have:=e p d;refine⟨b,λy c=>⟨a y c,?_⟩,zbqd (by lia) a (by lia)⟩;have:=zbne a y c;lia
 ·have:=e p d;refine⟨b,λy c=>⟨a y c,?_⟩,zbjd (by lia) a (by lia)⟩;have:=zbne a y c;lia
end
theorem zqi:∀{l:List Row},(∀r∈l,(raiseR k r).length<=B)->(raiseL k l).length<=l.length*B
 |[],_=>by simp[raiseL]
 |a::l,h=>by
  have e:=h a xbv;have d:=zqi (l:=l) λb c=>h b (xbf _ c)
  unfold raiseL at d ⊢;rw[xjl,xbk,xbt,xhg];lia
section
variable {au:Store}{Q:D->Store->Prop}{n:Nat}{K:Nat}{some:List Row}
theorem zuv(h:KX n K some){T k:Nat}(f:1<=k)(d:T+k<=K){l:List Row}(c:∀x∈l,x∈UU some T)(q:∀g,Q (aK (aO (raiseL (k:Int) l))) (au++g)):WP (zgt [aK l,.int (k:Int)] au) Q:=
 zuu (by lia) (λr a=>(h.item (by lia) (c r a)).2.1) (λr a=>by rw[(h.item (by lia) (c r a)).1];rcases h.big with b|b<;>lia) (λr a=>(h.item (by lia) (c r a)).2.2) (h.few d λx e=>zgs h.rows c e) q
end
def R(a:Row) (l:List Row):List Row:=a.foldr raiseL l
def doneL(a l:List Row):List Row:=a.flatMap λb=>R b l
theorem zbwf(a:Row)(k:Int)(l:List Row):R (a++[k]) l=R a (raiseL k l):=by unfold R;rw[List.foldr_append];rfl
theorem zbxf:∀(c:Row) {a b:List Row},(∀x,a.count x%2=b.count x%2)->∀x,(R c a).count x%2=(R c b).count x%2
 |[],_,_,h=>h
 |k::c,_,_,h=>zzd k (zbxf c h)
theorem zbqq:∀a:Row,R a []=[]
 |[]=>rfl
 |k::a=>by show raiseL k (R a [])=[];rw[zbqq a];rfl
theorem zbat(b:List Row):doneL b []=[]:=by
 unfold doneL
 induction b with
 |nil=>rfl
 |cons a b ih=>rw[xjl,zbqq,ih];rfl
theorem zoc{α:Type}:∀l:List α,tot l (λ_=>0)=0
 |[]=>rfl
 |a::l=>by rw[zbg,zoc l]
theorem zbbw(c:Nat):∀{f:List Int},f.Nodup->k∈f->tot f (λj=>if k=j then c else 0)=c
 |[],_,h=>by cases h
 |j::f,nd,h=>by
  have b:=xdf.mp nd;rw[zbg];by_cases e:k=j
  ·subst e;have:tot f (λj=>if k=j then c else 0)=0:=by
    rw[zyq (d:=λ_=>0) λa g=>if_neg λz:k=a=>b.1 (z ▸ g),zoc]
   rw[if_pos rfl,this];lia
  ·rcases xbl.mp h with h|h
   ·exact absurd h e
   ·rw[if_neg e,zbbw c b.2 h];lia
theorem ztz{α:Type}(d:α->Int)(c:α->Nat){f:List Int}(g:f.Nodup):∀{L:List α},(∀a∈L,d a∈f)->tot L c=tot f λk=>tot (L.filter λa=>decide (d a=k)) c
 |[],_=>(zoc f).symm
 |a::L,h=>by
  have i:=ztz d c g (L:=L) λb j=>h b (xbf _ j)
  have e:(λk=>tot ((a::L).filter λb=>decide (d b=k)) c)=λk=>(if d a=k then c a else 0)+tot (L.filter λb=>decide (d b=k)) c:=funext λk=>by
   by_cases q:d a=k
   ·rw[xcp (by simpa using q),zbg,if_pos q]
   ·rw[xcs (by simpa using q),if_neg q,xeg]
  rw[zbg,e,zbbx,zbbw (c a) g (h a xbv),i]
theorem zqa{α:Type}(p:α->Bool)(c:α->Nat):∀L:List α,tot L c=tot (L.filter p) c+tot (L.filter λa=>!p a) c
 |[]=>rfl
 |a::L=>by
  rw[zbg,zqa p c L];by_cases q:p a=true
  ·rw[xcp q,xcs (by rw[q];decide),zbg];lia
  ·rw[xcs q,xcp (by simpa using q),zbg];lia
abbrev full(r:Row):Bool:=!r.isEmpty
abbrev lastD(r:Row):Int:=r.getLastD 0
def lasts(a:List Row):List Int:=sortI (once ((a.filter full).map lastD))
def ahead(k:Int) (a:List Row):List Row:=(a.filter λr=>full r&&decide (lastD r=k)).map List.dropLast
theorem zbgw(a:List Row):(lasts a).Nodup:=(zic _).nodup_iff.mpr (zqn _)
theorem zhq:k∈lasts b↔∃r∈b,r≠[]/\lastD r=k:=by
 unfold lasts;rw[(zic _).mem_iff,zij,xbq];constructor
 ·rintro⟨r,h,e⟩;obtain⟨c,d⟩:=xcn.mp h;exact⟨r,c,by rintro rfl;simp[full] at d,e⟩
 ·rintro⟨r,c,d,e⟩;exact⟨r,xcn.mpr ⟨c,by cases r with|nil=>exact absurd rfl d|cons a r=>rfl⟩,e⟩
theorem zie(h:r≠[]):r.dropLast++[lastD r]=r:=by
 have:lastD r=r.getLast h:=by
  unfold lastD;rw[List.getLastD_eq_getLast?,List.getLast?_eq_some_getLast h]
  rfl
 rw[this];exact xjt h
theorem zwq{c:List Row}(f:c.Nodup):c.filter (λr=>!full r)=if[]∈c then[[]] else[]:=by
 induction c with
 |nil=>rfl
 |cons a c ih=>
  have d:=xdf.mp f;cases a with
  |nil=>
   rw[xcp rfl,ih d.2,if_neg d.1,if_pos xbv]
  |cons b a=>
   rw[xcs (by simp[full]),ih d.2];have e:([]∈(b::a)::c)=([]∈c):=by simp
   simp only[e]
theorem zwt{b:List Row}(m:b.Nodup)(x:Row):(doneL b l).count x%2=((if[]∈b then l else[])++(lasts b).flatMap λk=>doneL (ahead k b) (aO (raiseL k l))).count x%2:=by
 unfold doneL;rw[zdk,zqa full (λr=>(R r l).count x),zwq m,xfh,zdk];have i:tot (if[]∈b then[([]:Row)] else[]) (λr=>(R r l).count x)=(if[]∈b then l else[]).count x:=by
  split
  ·rw[zbg,zbko];rfl
  ·rfl
 have g:tot (b.filter full) (λr=>(R r l).count x)=tot (lasts b) λk=>tot ((b.filter full).filter λr=>decide (lastD r=k)) λr=>(R r l).count x:=ztz lastD _ (zbgw b) λr d=>by
  obtain⟨f,c⟩:=xcn.mp d;exact zhq.mpr ⟨r,f,by rintro rfl;simp[full] at c,rfl⟩
 have o:(tot (lasts b) λk=>tot ((b.filter full).filter λr=>decide (lastD r=k)) λr=>(R r l).count x)%2=(tot (lasts b) λk=>((ahead k b).flatMap λe=>R e (aO (raiseL k l))).count x)%2:=zty λk p=>by
  rw[zdk];unfold ahead;rw[zbkp,xkn];have h:(b.filter λa=>decide (lastD a=k)&&full a)=b.filter λr=>full r&&decide (lastD r=k):=xgo λr _=>Bool.and_comm _ _
  rw[h];refine zty λr d=>?_
  obtain⟨f,c⟩:=xcn.mp d;rw[xcy,xhy] at c;have n:r≠[]:=by rintro rfl;simp[full] at c
  have j:R r l=R r.dropLast (raiseL k l):=by
   conv=>lhs;rw[←zie n]
   rw[zbwf,c.2]
  rw[j];exact zbxf _ (λz=>(zfx _ z).symm) x
 rw[i,g];lia
structure RowsK (K T:Nat) (rows:List Row):Prop where
 pos:∀r∈rows,∀p∈r,1<=p
 sum:∀r∈rows,r.sum+T<=K
theorem zbxg{n K:Nat}{some:List Row}(h:KX n K some){T:Nat}{l:List Row}(c:∀x∈l,x∈UU some T):∀{row:Row},(∀p∈row,1<=p)->∀x∈R row l,x∈UU some (T+row.sum.toNat)
 |[],_,x,hx=>by simpa using c x hx
 |k::row,hp,x,hx=>by
  have a:=λp a=>hp p (xbf k a)
  have g:=hp k xbv;have f:0<=row.sum:=zsy λp b=>by have:=a p b;lia
  have e:=zbxg h c (row:=row) a;obtain⟨d,rfl⟩:=xda (show 0<=k by lia);have:=zgs h.rows e hx;rw[xcu,show T+((d:Int)+row.sum).toNat=T+row.sum.toNat+d by lia];exact this
theorem zpe{n K:Nat}{some:List Row}(h:KX n K some){T:Nat}{b l:List Row}(d:RowsK K T b)(f:∀x∈l,x∈UU some T):∀x∈doneL b l,x∈UU some K:=λx e=>by
 obtain⟨a,c,e⟩:=xcf.mp e;have:=d.sum a c;have i:0<=a.sum:=zsy λp g=>by have:=d.pos a c p g;lia
 exact zbee (by lia) (zbxg h f (d.pos a c) x e)
theorem zfv{K T:Nat}(h:RowsK K T a) (t:k∈lasts a):1<=k/\k+T<=K/\RowsK K (T+k.toNat) (ahead k a):=by
 obtain⟨r,n,m,rfl⟩:=zhq.mp t;have part:∀r∈a,r≠[]->1<=lastD r/\(∀p∈r.dropLast,1<=p)/\r.dropLast.sum+lastD r=r.sum:=λr j m=>by
  have e:=zie m;have c:=h.pos r j;rw[←e] at c;refine⟨c _ (by simp),λp i=>c p (xhd _ i),?_⟩
  conv=>rhs;rw[←e]
  rw[xel,List.sum_singleton]
 obtain⟨o,s,w⟩:=part r n m;have x:0<=r.dropLast.sum:=zsy λp c=>by have:=s p c;lia
 have y:=h.sum r n;refine⟨o,by lia,λq l=>?_,λq l=>?_⟩
 ·obtain⟨g,b,rfl⟩:=xbq.mp l;obtain⟨f,d⟩:=xcn.mp b;exact(part g f (by rintro rfl;simp[full] at d)).2.1
 ·obtain⟨g,b,rfl⟩:=xbq.mp l;obtain⟨f,d⟩:=xcn.mp b;rw[xcy,xhy] at d;have u:=(part g f (by rintro rfl;simp[full] at d)).2.2;have v:=h.sum g f;rw[d.2] at u;lia
theorem zbjm:∀{c:List Row},c.Nodup->(ahead k c).Nodup:=λ{c} i=>by
 unfold ahead;rw[xgq,xnh];have d:(c.filter λr=>full r&&decide (lastD r=k)).Nodup:=List.Pairwise.filter _ i;rw[xgq] at d;refine d.imp_of_mem λ{a b} l j m e=>m ?_
 have f:∀{r:Row},r∈c.filter (λr=>full r&&decide (lastD r=k))->r=r.dropLast++[k]:=λ{r} h=>by
  obtain⟨_,g⟩:=xcn.mp h;rw[xcy,xhy] at g;have:=zie (r:=r) (by rintro rfl;simp[full] at g);rw[g.2] at this;exact this.symm
 rw[f l,f j,e]
theorem zbhg(a:Row)(b:List Row):oInG neg (aL a) (.lst (aJ b)) au=.ok (.bl (if neg then !decide (a∈b) else decide (a∈b))) au:=by
 have c:dataOf au (.lst (aJ b))=some (.list (b.map dRow)):=by
  unfold dataOf now;show toData (.lst (aJ b))=_;rw[toData,zrn]
  rfl
 unfold oInG;rw[zwv,c];dsimp only;rw[if_pos ⟨zkl a,zdu b⟩];have e:((b.map dRow).any λy=>PyData.eqv y (dRow a))=decide (a∈b):=by
  rw[List.any_map,xfn,xlq,xhy];constructor
  ·rintro⟨x,d,h⟩;have h:PyData.eqv (dRow x) (dRow a)=true:=h;rw[zjd] at h;have:=xde h;subst this;exact d
  ·intro h;refine⟨a,h,?_⟩;show PyData.eqv (dRow a) (dRow a)=true;rw[zjd];simp
 rw[e]
def SeqR(x:D) (a:List Row):Prop:=x=aK a\/x=.lst (aJ a)
theorem SeqR.in_(h:SeqR x rows)(a:Row):oInG false (aL a) x au=.ok (.bl (decide (a∈rows))) au:=by
 rcases h with rfl|rfl
 ·exact zbub (neg:=false) a rows
 ·exact zbhg (neg:=false) a rows
theorem SeqR.seq(h:SeqR x rows):seqV x=some (aJ rows):=by
 rcases h with rfl|rfl<;>rfl
theorem zwg(h:r≠[]):oIx (aL r) (.int (-1)) au=.ok (.int (lastD r)) au:=by
 conv=>lhs;rw[←zie h]
 refine zjq rfl ?_;rw[xdi];exact zxq _ _
theorem zbbd(h:r≠[]):cutD (r.map D.int) none (some (-1))=r.dropLast.map D.int:=by
 conv=>lhs;rw[←zie h]
 exact zbit _ _
theorem zwl:tru au (aL r)=some (full r):=by
 cases r<;>rfl
theorem zbgv(i:SeqR x a)(l:a.length<=1000)(h:∀r∈a,r≠[]->0<=lastD r/\lastD r<64)(q:Q (.lst ((lasts a).map .int)) au):
  WP (aE bSortSet (aB (aG (aH (aA 0)) 1 [] (gN 0) (eTru (aA 0)) (aS oIx (aA 0) (eUn oNeg (eC (.int 1))))) aC) (some x::σ) au) Q:=by
 simp only[W,V];refine⟨_,i.seq,by rw[zc];exact small _ (by lia),?_⟩;refine zme (as:=a) (λσ=>∃v,σ=[v]) full (λr=>.int (lastD r)) aL ⟨_,rfl⟩ ?_ ?_
 ·rintro r b σ ⟨v,rfl⟩;refine⟨_,rfl,⟨_,rfl⟩,?_,λg=>?_⟩
  ·simp only[W,V];exact⟨_,zwl,trivial,rfl⟩
  ·simp only[W,V];have k:r≠[]:=by rintro rfl;cases g
   exact WP.of (zwg k) ⟨rfl,rfl⟩
 ·have c:=zdl ((a.filter full).map lastD);rw[xcw] at c;have e:bSortSet [.lst ((a.filter full).map λr=>.int (lastD r))] au=.ok (.lst ((lasts a).map .int)) au:=by
   unfold bSortSet;dsimp only;rw[show(asL au (.lst ((a.filter full).map λr=>D.int (lastD r)))).bind asInts=some ((a.filter full).map lastD) from c];dsimp only;rw[if_pos]
   ·rfl
   rw[xca];intro y f;obtain⟨r,b,rfl⟩:=xbq.mp f;obtain⟨j,d⟩:=xcn.mp b;have:=h r j (by rintro rfl;cases d);unfold smallI;rw[xcy];exact⟨xbw this.1,xbw this.2⟩
  exact WP.of e q
theorem zbjl(c:SeqR x rows)(f:rows.length<=1000)(q:Q (.lst (aJ (ahead k rows))) au):
  WP (aG (aH (aA 0)) 1 [3] (gN 0) (bAnd (eTru (aA 0)) (eB (aS oEq (aS oIx (aA 0) (eUn oNeg (eC (.int 1)))) (aA 1)))) (eSl (aA 0) pNone (pSome (eUn oNeg (eC (.int 1))))) (some x::v1::v2::some (.int k)::v4::σ) au) Q:=by
 simp only[W,V];refine⟨_,c.seq,by rw[zc];exact small _ (by lia),?_⟩;refine zme (as:=rows) (λσ=>∃v,σ=[v,some (.int k)]) (λr=>full r&&decide (lastD r=k)) (λr=>aL r.dropLast) aL ⟨_,rfl⟩ ?_ ?_
 ·rintro r g σ ⟨v,rfl⟩;refine⟨_,rfl,⟨_,rfl⟩,?_,λb=>?_⟩
  ·simp only[W,V];refine⟨_,zwl,?_⟩;cases r with
   |nil=>exact⟨trivial,rfl⟩
   |cons a r=>
    rw[if_pos (show full (a::r)=true from rfl)];refine WP.of (zwg (by simp)) ?_;simp only[W,V];exact⟨trivial,by simp[full]⟩
  ·simp only[W,V,M,Dd.N];have d:r≠[]:=by rintro rfl;cases b
   rw[zbbd d]
   try exact⟨rfl,rfl⟩
   try exact⟨trivial,rfl⟩
 ·have e:(rows.filter λr=>full r&&decide (lastD r=k)).map (λr=>aL r.dropLast)=aJ (ahead k rows):=by
   unfold ahead aJ;rw[xcw]
   rfl
  rw[e];exact q
theorem zil{l U:List Row}(h:∀x∈l,x∈U):∀x∈aO l,x∈U:=λx a=>h x (zdq a)
theorem zbkf(h:WP (E σ au) (λx s=>∃a,seqV x=some a/\WP (forF bd body a σ s) Q)):WP (sFor (aH E) bd body σ au) Q:=by
 simp only[W];exact h
theorem zbkc(h:WP (E σ au) (λv s=>Q (.nx (σ.set i (some v))) s)):WP (aF i E σ au) Q:=by
 simp only[W];exact h
theorem zbke(e:c σ au=.ok t au)(h:if t=true then WP (a σ au) Q else WP (b σ au) Q):WP (sIf c a b σ au) Q:=by
 simp only[W];exact WP.of e h
theorem zbdo(c:f σ au=.ok v au)(a:tru au v=some b):eTru f σ au=.ok b au:=by
 unfold eTru;rw[c];simp[a]
theorem zbby(a:Store)(l:List Row):tru a (aK l)=some (!l.isEmpty):=by
 cases l<;>rfl
def soFar(a l:List Row) (i:Nat):List Row:=(if[]∈a then l else[])++((lasts a).take i).flatMap λk=>doneL (ahead k a) (aO (raiseL k l))
theorem zyu{n K T:Nat}{b a l:List Row}(h:KX n K b)(e:RowsK K T a)(g:T<=K)(c:∀y∈l,y∈UU b T)(i:Nat):∀y∈soFar a l i,y∈UU b K:=λy hy=>by
 rcases xce.mp hy with hy|hy
 ·split at hy
  ·exact zbee g (c y hy)
  ·cases hy
 ·obtain⟨k,f,hy⟩:=xcf.mp hy;obtain⟨o,m,j⟩:=zfv e (xec f);obtain⟨p,rfl⟩:=xda (show 0<=k by lia);exact zpe h j (zil λz d=>zgs h.rows c d) y hy
section
variable {au:Store}{Q:D->Store->Prop}
theorem zrl{n K T:Nat}{A:List Row}(h:KX n K A){S:DFn}{x:D}{b l:List Row}(H:SeqR x b)(nd:b.Nodup)(P:b.length<=1000)(v:RowsK K T b)(hK:K<=16)(hT:T<=K)(u:Rise l)(I:∀y∈l,y∈UU A T)
  (G:∀k∈lasts b,∀(au:Store) (Q:D->Store->Prop),(∀g,Q (aK (aO (doneL (ahead k b) (aO (raiseL k l))))) (au++g))->WP (S [.lst (aJ (ahead k b)),aK (aO (raiseL k l))] au) Q)
  (k:∀g,Q (aK (aO (doneL b l))) (au++g)):WP (zpw S [x,aK l] au) Q:=by
 show WP (fnD 6 2 _ [x,aK l] au) Q;refine zju rfl ?_;refine zeg (R:=λj s=>j=.nx [some x,some (aK l),some (aK (aO (soFar b l 0))),none,none,none]/\s=au) ?_ ?_
 ·have e0:aO (soFar b l 0)=if[]∈b then l else[]:=by
   unfold soFar;rw[xmo,List.flatMap_nil,xei];split
   ·exact u.odd
   ·rfl
  rw[e0];simp only[W,V];refine⟨by simp,?_⟩;refine WP.of (H.in_ []) ?_;simp only[W,V];by_cases c:[]∈b
  ·simp only[c,xfl]
   first|exact⟨trivial,trivial⟩|exact⟨rfl,rfl⟩
  ·simp only[c,xfa]
   first|exact⟨by simp,trivial,trivial⟩|exact⟨by simp,rfl,rfl⟩|exact⟨by simp,rfl,trivial⟩|exact⟨by simp,trivial,rfl⟩|simp
 rintro j s ⟨rfl,rfl⟩;show WP _ _;refine zeg (R:=λj f=>(∃p o m,j=.nx [some x,some (aK l),some (aK (aO (soFar b l (lasts b).length))),p,o,m])/\∃g,f=s++g) ?_ ?_
 ·refine zbkf (zbgv H P (λr C ne=>?_) ⟨_,rfl,?_⟩)
  ·obtain⟨h1,h2,_⟩:=zfv v (zhq.mpr ⟨r,C,ne,rfl⟩);lia
  refine zcb (λi σ f=>(∃p o m,σ=[some x,some (aK l),some (aK (aO (soFar b l i))),p,o,m])/\∃g,f=s++g) ⟨⟨_,_,_,rfl⟩,[],by simp⟩ ?_ ?_
  ·rintro i y σ f hy ⟨⟨p,o,m,rfl⟩,g,rfl⟩;obtain⟨d,q,rfl⟩:=zha hy;have U:=xbo q;obtain⟨k1,k2,Y⟩:=zfv v U;refine⟨_,rfl,?_⟩;obtain⟨k',X⟩:=xda (show 0<=d by lia);unfold zsd;refine zeg (R:=λj f=>j=.nx [some x,some (aK l),some (aK (aO (soFar b l i))),some (.int d),some (aK (aO (raiseL d l))),m]/\∃g,f=s++g) ?_ ?_
   ·simp only[W,V];rw[X];exact zuv h (by lia) (by lia) I λw=>⟨rfl,g++w,by simp⟩
   rintro j f ⟨rfl,g,rfl⟩;show WP _ _;have nxt:aO (soFar b l (i+1))=aO (aO (soFar b l i)++aO (doneL (ahead d b) (aO (raiseL d l)))):=zim λz=>by
    have e:soFar b l (i+1)=soFar b l i++doneL (ahead d b) (aO (raiseL d l)):=by
     unfold soFar;rw[ze q,xis,xcm];simp
    rw[e,xfh,xfh];have h1:=zfx (soFar b l i) z;have h2:=zfx (doneL (ahead d b) (aO (raiseL d l))) z;lia
   have hM:∀y∈aO (raiseL d l),y∈UU A (T+k'):=zil λz hz=>by rw[X] at hz;exact zgs h.rows I hz
   have E:RowsK K (T+k') (ahead d b):=by
    have:d.toNat=k':=by lia
    rw[this] at Y;exact Y
   by_cases c:aO (raiseL d l)=[]
   ·have e:aO (soFar b l (i+1))=aO (soFar b l i):=by
     rw[nxt,c,zbat,show aO ([]:List Row)=[] from rfl,xei,(zle _).odd]
    refine zbke (zbdo rfl (zbby _ _)) ?_;rw[c];simp only[W,L,List.isEmpty_nil,Bool.not_true,xfa];exact⟨⟨_,_,_,by rw[e]⟩,g,rfl⟩
   ·have J:(!(aO (raiseL d l)).isEmpty)=true:=by
     cases e:aO (raiseL d l) with
     |nil=>exact absurd e c
     |cons a t=>rfl
    refine zbke (zbdo rfl (zbby _ _)) ?_;rw[if_pos J];refine zeg (R:=λj f=>j=.nx [some x,some (aK l),some (aK (aO (soFar b l i))),some (.int d),some (aK (aO (raiseL d l))),some (.lst (aJ (ahead d b)))]/\f=s++g) (zbkc (zbjl H P ⟨rfl,rfl⟩)) ?_;rintro j f ⟨rfl,rfl⟩;simp only[W,V];refine G d U _ _ λw=>?_
    have m1:=zyu h v hT I i;have m2:=zpe h E hM;have l1:=h.len (xbj K) (zcm _) (zil m1);have l2:=h.len (xbj K) (zcm _) (zil m2);refine zbbp (by lia) (h.few (xbj K) λz hz=>?_) λg3=>?_
    ·rcases xce.mp hz with hz|hz
     ·exact zil m1 z hz
     ·exact zil m2 z hz
    ·simp only[L];exact⟨⟨_,_,_,by rw[nxt]⟩,g++w++g3,by simp⟩
  ·rintro σ f ⟨⟨p,o,m,rfl⟩,g,rfl⟩;rw[xbb];exact⟨⟨_,_,_,rfl⟩,g,rfl⟩
 rintro j f ⟨⟨p,o,m,rfl⟩,g,rfl⟩;simp only[W,V];have e:aO (soFar b l (lasts b).length)=aO (doneL b l):=by
  refine zim λz=>?_
  unfold soFar;rw[xbu];exact(zwt nd z).symm
 rw[e];exact k g
theorem zbox{n K:Nat}{v:List Row}(h:KX n K v)(w:K<=16):∀(f:Nat) {T:Nat}{x:D}{a l:List Row}{au:Store}{Q:D->Store->Prop},SeqR x a->a.Nodup->a.length<=1000->(∀r∈a,r.length<=f)->RowsK K T a->T<=K->Rise l->(∀y∈l,y∈UU v T) ->
  (∀g,Q (aK (aO (doneL a l))) (au++g))->WP (iterF zpw (f+1) [x,aK l] au) Q:=λf=>by
 induction f with
 |zero=>
  intro T x a l au Q t i d o e q b j k;refine zrl h t i d e w q b j (λu c=>?_) k;obtain⟨r,p,J,_⟩:=zhq.mp c;have:=o r p;exact absurd (xgl.mp (by lia)) J
 |succ f ih=>
  intro T x a l au Q t i d o e q b j k;refine zrl h t i d e w q b j (λu c I X H=>?_) k;obtain⟨S,U,A⟩:=zfv e c;obtain⟨m,rfl⟩:=xda (show 0<=u by lia);rw[xdx] at A;refine ih (.inr rfl) (zbjm i) ?_ (λr s=>?_) A (by lia) (zle _) (zil λz E=>zgs h.rows j E) H
  ·unfold ahead;rw[xbb];exact xbc (xgv _ _) d
  ·obtain⟨G,p,rfl⟩:=xbq.mp s;obtain⟨C,P⟩:=xcn.mp p;have:=o G C;rw[List.length_dropLast];lia
end
theorem zbic{n K:Nat}(h:KX n K S0)(l:K<=16) (i:SeqR x a)(j:a.Nodup)(c:a.length<=1000)(f:∀r∈a,r.length<=7)(d:RowsK K 0 a)(b:Rise S0)
 (k:∀g,Q (aK (aO (doneL a S0))) (au++g)):WP (iterF zpw 8 [x,aK S0] au) Q:=zbox h l 7 i j c f d (xes _) b (λy e=>zbed e) k
end Dd
namespace Dd
open L2 K07 K23
def placesL(r:List Int):List Nat:=(List.range (r.length-1)).filter λp=>decide (slowAt r p)
noncomputable abbrev plD(l:List Nat):List D:=l.map λ(p:Nat)=>D.int (p:Int)
theorem ziq:p∈placesL r↔slowAt r p:=by
 unfold placesL;rw[xcn,xbn,xjn];refine⟨λh=>h.2,λh=>⟨?_,h⟩⟩;obtain⟨a,b,_,e,_⟩:=h;have:=(xbd.mp e).1;lia
noncomputable def momR:Int->List Int->Int
 |_,[]=>0
 |n,x::xs=>n*x+momR (n+1) xs
theorem zdg:∀(a b:List Int) (n:Int),momR n (a++b)=momR n a+momR (n+a.length) b
 |[],b,n=>by simp[momR]
 |x::a,b,n=>by
  rw[xhl,momR,momR,zdg a b (n+1),xbt,show n+1+(a.length:Int)=n+((a.length+1:Nat):Int) by push_cast;lia];lia
theorem zbcy:∀(a:List Int) (n:Int),momR (n+1) a=momR n a+a.sum
 |[],n=>by simp[momR]
 |x::a,n=>by
  rw[momR,momR,zbcy a (n+1),xcu,xmr];lia
noncomputable def prodL:Int->List Int->List Int
 |_,[]=>[]
 |n,x::xs=>n*x::prodL (n+1) xs
theorem zql:∀(a:List Int) (n:Int),(prodL n a).sum=momR n a
 |[],n=>rfl
 |x::a,n=>by rw[prodL,xcu,zql a,momR]
theorem zmr:∀(a:List Int) (x n:Int),prodL n (a++[x])=prodL n a++[(n+a.length)*x]
 |[],x,n=>by simp[prodL]
 |y::a,x,n=>by
  rw[xhl,prodL,prodL,zmr a x (n+1),xbt,show n+1+(a.length:Int)=n+((a.length+1:Nat):Int) by push_cast;lia]
  rfl
theorem zbje{a:List Int}:bSum [.lst (a.map .int)] au=.ok (.int a.sum) au:=by
 unfold bSum
 show(match ((some (a.map D.int)).bind asInts) with
  |some a=>Res.ok (D.int a.sum) au
  |none=>.stuck)=_
 rw[Option.bind_some,zdl]
theorem zbnl(m:CMul I x):aS oMulI (aA 0) (aA 1) [some (.int I),some (.int x)] s=.ok (.int (I*x)) s:=by simp[m]
theorem mo_g:gT 2 (gsCons (gN 0) (gsCons (gN 1) gsNil)) (.tup [.int I,.int x]) [v,w]=some [some (.int I),some (.int x)]:=rfl
theorem zbnm(h:∀x∈r,-10000<=x/\x<=10000):compF (gT 2 (gsCons (gN 0) (gsCons (gN 1) gsNil))) aI (aS oMulI (aA 0) (aA 1)) (numF 1 (r.map .int)) [none,none] au=.ok ((prodL 1 r).map D.int) au:=by
 have W:=zno (bd:=gT 2 (gsCons (gN 0) (gsCons (gN 1) gsNil))) (c:=aI) (f:=aS oMulI (aA 0) (aA 1)) (xs:=numF 1 (r.map .int)) (σ:=[none,none]) (au:=au)
  (λi acc σ s=>s=au/\(∃v w:Option D,σ=[v,w])/\acc=(prodL 1 (r.take i)).map D.int) ⟨rfl,⟨none,none,rfl⟩,rfl⟩ (by
   rintro i y acc σ s j ⟨rfl,⟨v,w,rfl⟩,rfl⟩;obtain⟨d,g,rfl⟩:=zot j;rw[xcl] at g;obtain⟨x,a,rfl⟩:=xdc.mp g;have b:=h x (xbo a);have o:=(xbd.mp a).1;have m:CMul (1+(i:Int)) x:=mulR b.1 b.2;refine⟨[some (.int (1+(i:Int))),some (.int x)],true,s,mo_g,rfl,.inr ⟨rfl,.int ((1+(i:Int))*x),s,zbnl m,rfl,⟨_,_,rfl⟩,?_⟩⟩;rw[ze a,zmr,xdi,xcq,xej (by lia)]
   simp)
 obtain⟨n,l,k,e,rfl,_,rfl⟩:=W;rw[zeu,xbb,xbu] at e;exact e
theorem zzz{r:List Int}(f:r.length<=1000)(b:∀x∈r,-10000<=x/\x<=10000):zgu [aL r] au=.ok (.int (momR 1 r)) au:=by
 have e:=zbnm (au:=au) b;refine zfn rfl ?_;have a:(numF 1 (r.map D.int)).length<=sizeLine:=by rw[zeu,xbb];exact small _ (by lia)
 have d:iEnum (aA 0) [some (aL r)] au=.ok (numF 1 (r.map D.int)) au:=rfl;have c:aG (iEnum (aA 0)) 2 [] (gT 2 (gsCons (gN 0) (gsCons (gN 1) gsNil))) aI (aS oMulI (aA 0) (aA 1)) [some (aL r)] au=.ok (.lst ((prodL 1 r).map D.int)) au:=by
  rw[zkj,d,zbb,if_pos a];show((compF _ _ _ _ [none,none] au).bind _)=_;rw[e]
  rfl
 show sRet _ [some (aL r)] au=_;rw[zun,zff,zjh,c,zbb,zbqo,zbb,zbb,zbje,zbb,zql]
theorem zzj{r:List Int}(k:r.length<=1000):zmc [aL r] au=.ok (.lst (plD (placesL r))) au:=by
 have W:=zno (bd:=gN 0) (c:=eTru (aE zbw (aB (aA 1) (aB (aA 0) aC)))) (f:=aA 0) (xs:=rng 0 (r.length-1)) (σ:=[none,some (aL r)]) (au:=au)
  (λi acc σ s=>s=au/\(∃w:Option D,σ=[w,some (aL r)])/\acc=plD ((List.range i).filter λp=>decide (slowAt r p))) ⟨rfl,⟨none,rfl⟩,rfl⟩ (by
   rintro i y acc σ s h ⟨rfl,⟨w,rfl⟩,rfl⟩;obtain⟨n,rfl⟩:=zbfd h;rw[xhu];refine⟨[some (.int i),some (aL r)],decide (slowAt r i),s,rfl,?_,?_⟩
   ·rw[zwr,zff];show((zbw [aL r,.int i] s).bind _)=_;rw[zkf,xdx,show decide (0<=(i:Int)/\slowAt r i)=decide (slowAt r i) by simp]
    rfl
   ·rw[xfw,xfd];by_cases c:slowAt r i
    ·refine .inr ⟨xbw c,.int i,s,rfl,rfl,⟨_,rfl⟩,?_⟩;simp[plD,c]
    ·refine .inl ⟨xcd c,rfl,⟨_,rfl⟩,?_⟩
     simp[plD,c])
 obtain⟨m,l,st',e,rfl,_,rfl⟩:=W;rw[zbh] at e;refine zfn rfl ?_;have d:RngOk ((r.length:Int)-1):=rngN (by lia) (by lia);have a:(rng 0 (r.length-1)).length<=sizeLine:=by rw[zbh];exact small _ (by lia)
 have j:iR1 (aB (aS oSub (aE bLen (aB (aA 0) aC)) (eC (.int 1))) aC) [some (aL r)] st'=.ok (rng 0 (r.length-1)) st':=by
  have g:=zxn (au:=st') (r:=r);have b:((r.length:Int)-1).toNat=r.length-1:=by lia
  generalize (r.length:Int)=N at *
  simp only[aL] at *
  generalize D.tup (r.map D.int)=R at *
  simp[g,d,b]
 show sRet _ [some (aL r)] st'=_;rw[zun,zkj,j,zbb,if_pos a];show((compF _ _ _ _ [none,some (aL r)] st').bind _).bind _=_;rw[e]
 rfl
theorem zbgk(i:∀x∈r,1<=x)(q:slowAt r p)(k:z∈exRow r p):momR 1 z<momR 1 r:=by
 obtain⟨a,b,j,g,s⟩:=q;have C:p+1<r.length:=(xbd.mp g).1;have A:=i b (xbo g);have E:=i a (xbo j);unfold exRow at k;obtain⟨two,l,rfl⟩:=xbq.mp k;have h:=(zr _).mem_iff.mp l;rw[xbi,j,xbi,g] at h;simp only[xns] at h;unfold rowsL at h;obtain⟨c,w,u⟩:=xbq.mp h;have G:c<(a/2+1).toNat:=xbn.mp (xcn.mp w).1;have m:r=r.take p++[a,b]++r.drop (p+2):=by
  have n:r.drop p=a::r.drop (p+1):=by
   rw[xdh (by lia)]
   congr 1
   exact(xbd.mp j).2
  have t:r.drop (p+1)=b::r.drop (p+2):=by
   rw[xdh (by lia)]
   congr 1
   exact(xbd.mp g).2
  calc r=r.take p++r.drop p:=(xdg p r).symm
   _=_:=by rw[n,t];simp
 have v:0<=(r.drop (p+2)).sum:=zcl λx y=>i x (xfq y)
 have f:momR 1 (r.take p++two++r.drop (p+2))<momR 1 (r.take p++[a,b]++r.drop (p+2)):=by
  rw[xcm,xcm,zdg,zdg (r.take p)];generalize (1:Int)+((r.take p).length:Int)=N;rw[zdg,zdg];generalize r.drop (p+2)=d at v;rw[←u];unfold rowC;split
  ·rename_i o;simp only[momR,xbt,xjb];rw[Int.mul_sub,Int.mul_add,xmr,xmr];lia
  ·rename_i o;have:(c:Int)=0:=by lia
   simp only[momR,xbt,xjb];have e:=zbcy d (N+1);rw[show N+((0+1+1:Nat):Int)=N+1+1 by push_cast;lia,show N+((0+1:Nat):Int)=N+1 by push_cast;lia,e,Int.mul_add,xmr];lia
 rw[←m] at f;exact f
end Dd
namespace Dd
open L2
end Dd
namespace Dd
open L2 K07 K23
theorem zlr{r:List Int}{p:Nat}{m:Int}{L:Nat}(h:RowOk r m L)(q:slowAt r p):∀z∈exRow r p,RowOk z m L:=λz i=>by
 obtain⟨a,b,g,d,s⟩:=q;have y:p+1<r.length:=(xbd.mp d).1;have w:=h.pos b (xbo d);have C:=h.pos a (xbo g);unfold exRow at i;obtain⟨two,k,rfl⟩:=xbq.mp i;have e:=(zr _).mem_iff.mp k;rw[xbi,g,xbi,d] at e;simp only[xns] at e;unfold rowsL at e;obtain⟨c,v,u⟩:=xbq.mp e;have E:c<(a/2+1).toNat:=xbn.mp (xcn.mp v).1;have l:r=r.take p++[a,b]++r.drop (p+2):=by
  have n:r.drop p=a::r.drop (p+1):=by
   rw[xdh (by lia)]
   congr 1
   exact(xbd.mp g).2
  have t:r.drop (p+1)=b::r.drop (p+2):=by
   rw[xdh (by lia)]
   congr 1
   exact(xbd.mp d).2
  calc r=r.take p++r.drop p:=(xdg p r).symm
   _=_:=by rw[n,t];simp
 have f:two.sum=a+b/\(∀x∈two,1<=x)/\two.length<=2:=by
  rw[←u];unfold rowC;split
  ·rename_i o;refine⟨by simp<;>lia,λx hx=>?_,by simp⟩;simp only[xbl,xgt,xlt] at hx;rcases hx with rfl|rfl<;>lia
  ·rename_i o;refine⟨by simp<;>lia,λx hx=>?_,by simp⟩;simp only[xbl,xgt,xlt] at hx;subst hx;lia
 have j:r.sum=(r.take p).sum+(a+b)+(r.drop (p+2)).sum:=by
  conv=>lhs;rw[l]
  simp[xel];lia
 refine⟨λx hx=>?_,?_,?_⟩
 ·rcases xce.mp hx with hx|hx
  ·rcases xce.mp hx with hx|hx
   ·exact h.pos x (xec hx)
   ·exact f.2.1 x hx
  ·exact h.pos x (xfq hx)
 ·have:=h.sum;rw[xel,xel,f.1];lia
 ·have A:=h.len;rw[xbk,xbk,xcq,xgb];have:=f.2.2;lia
theorem zbfc{r:List Int}{m:Int}{L:Nat}(h:RowOk r m L):∀x∈r,1<=x/\x<=m:=λx hx=>by
 refine⟨h.pos x hx,?_⟩;have:∀{r:List Int},(∀y∈r,1<=y)->∀x∈r,x<=r.sum:=λ{r}=>by
  induction r with
  |nil=>intro _ x hx;cases hx
  |cons a r ih=>
   intro h x hx;have c:=h a (by simp);have d:0<=r.sum:=zcl λy b=>h y (xbf _ b)
   rw[xcu];rcases xbl.mp hx with rfl|hx
   ·lia
   ·have:=ih (λy b=>h y (xbf _ b)) x hx;lia
 exact xmb (this h.pos x hx) h.sum
theorem zbcb{r:List Int}{m:Int}{L p:Nat}(h:RowOk r m L)(e:slowAt r p):(1<=r.getD p 0/\r.getD p 0<=m)/\(1<=r.getD (p+1) 0/\r.getD (p+1) 0<=m):=by
 obtain⟨a,b,d,c,_⟩:=e;rw[xbi,d,xbi,c];exact⟨zbfc h a (xbo d),zbfc h b (xbo c)⟩
noncomputable abbrev Lv:=List (Int×Nat×List (List Int))
def lvD(a:Lv):List (Int×D):=a.map λq=>(q.1,.ref q.2.1)
structure LvAt (au:Store) (L:Nat) (lv:Lv):Prop where
 at_:au[L]?=some (.dI (lvD lv))
 in_:∀q∈lv,au[q.2.1]?=some (.dT (aQ q.2.2))
 nd:(lv.map (·.1)).Nodup
 ix:(lv.map (·.2.1)).Nodup
 rows:∀q∈lv,q.2.2.Nodup
def flipLv(n:Nat) (r:List Int):Lv->Lv
 |[]=>[(momR 1 r,n,[r])]
 |q::lv=>if q.1=momR 1 r then(q.1,q.2.1,aP q.2.2 r)::lv else q::flipLv n r lv
theorem ztt:valI (lvD lv) m=(lv.find? λq=>decide (q.1=m)).map λq=>D.ref q.2.1:=by
 induction lv with
 |nil=>rfl
 |cons q lv ih=>
  by_cases e:q.1=m
  ·simp[valI,lvD,e]
  ·have a:valI (lvD (q::lv)) m=valI (lvD lv) m:=by simp[valI,lvD,e]
   rw[a,ih,List.find?_cons_of_neg (by simpa using e)]
theorem zki:∀{a:Lv},(∀q∈a,q.1≠momR 1 r)->flipLv n r a=a++[(momR 1 r,n,[r])]
 |[],_=>rfl
 |q::a,h=>by
  unfold flipLv;rw[if_neg (h q (by simp)),zki λx b=>h x (xbf _ b)]
  rfl
theorem zkh:∀{a:Lv}{q:Int×Nat×List (List Int)},(a.map (·.1)).Nodup->q∈a->q.1=momR 1 r->flipLv n r a=a.map λx=>if x.1=momR 1 r then(x.1,x.2.1,aP x.2.2 r) else x
 |[],q,_,h,_=>by cases h
 |x::a,q,nd,h,e=>by
  rw[xbr,xdf] at nd;unfold flipLv;rw[xbr];by_cases c:x.1=momR 1 r
  ·rw[if_pos c,if_pos c]
   congr 1
   symm
   refine(xeo (g:=id) λy b=>?_).trans (xob _);rw[if_neg λz=>nd.1 (xbq.mpr ⟨y,b,z.trans c.symm⟩)]
   rfl
  ·rw[if_neg c,if_neg c];rcases xbl.mp h with rfl|h
   ·exact absurd e c
   ·rw[zkh nd.2 h e]
theorem zui{L:Nat}{k:Int}(e:f σ au=.ok (.ref L) au)(c:au[L]?=some (.dI kv0))(a:g σ au=.ok [.int k,d] st2)(h:st2[L]?=some (.dI kvs))(b:kvs.length<sizeLine)(i:valI kvs k=some v):eSetDI f g σ au=.ok v st2:=by
 unfold eSetDI;rw[e,zbb];dsimp only;rw[c];dsimp only;rw[a,zbb]
 try dsimp only
 rw[h]
 try dsimp only
 rw[if_pos b,i]
theorem zuj{L:Nat}{k:Int}(e:f σ au=.ok (.ref L) au)(c:au[L]?=some (.dI kv0))(a:g σ au=.ok [.int k,d] st2)(h:st2[L]?=some (.dI kvs))(b:kvs.length<sizeLine)(i:valI kvs k=none):eSetDI f g σ au=.ok d (st2.set L (.dI (putI kvs k d))):=by
 unfold eSetDI;rw[e,zbb];dsimp only;rw[c];dsimp only;rw[a,zbb]
 try dsimp only
 rw[h]
 try dsimp only
 rw[if_pos b,i]
theorem zvq{α β:Type}{f:α->β}:∀{l:List α},(l.map f).Nodup->∀{x y:α},x∈l->y∈l->f x=f y->x=y
 |[],_,x,y,hx,_,_=>by cases hx
 |a::l,nd,x,y,hx,hy,e=>by
  rw[xbr,xdf] at nd;rcases xbl.mp hx with h1|h1
  ·rcases xbl.mp hy with h2|h2
   ·rw[h1,h2]
   ·exact absurd (xbq.mpr ⟨y,h2,by rw[←e,h1]⟩) nd.1
  ·rcases xbl.mp hy with h2|h2
   ·exact absurd (xbq.mpr ⟨x,h1,by rw[e,h2]⟩) nd.1
   ·exact zvq nd.2 h1 h2 e
theorem zhb{f:Store}{L:Nat}{g:Lv}{r:List Int}{Q:D->Store->Prop}(h:LvAt f L g)(S:r.length<=1000)(U:∀x∈r,-10000<=x/\x<=10000)(hz:g.length<=10000)(hk:∀q∈g,q.2.2.length<=100000)
  (k:∀s,LvAt s L (flipLv f.length r g)->(∀i,i<f.length->i≠L->(∀q∈g,q.2.1≠i)->s[i]?=f[i]?)->f.length<=s.length->Q .non s):WP (zcs [.ref L,aL r] f) Q:=by
 refine zju rfl ?_;simp only[W,V,M];have em:=zzz (au:=f) S U;have J:aB (aE zgu (aB (aA 1) aC)) (aB eDNew aC) [some (.ref L),some (aL r)] f=.ok [.int (momR 1 r),.ref f.length] (f++[.dT []]):=by
  rw[zjh,show aE zgu (aB (aA 1) aC) [some (.ref L),some (aL r)] f=.ok (.int (momR 1 r)) f from em]
  rfl
 have hL:=zi h.at_;have d:∀{i:Nat}{o:O},f[i]?=some o->(f++[O.dT []])[i]?=some o:=λe=>by rw[xby (zi e)];exact e
 have m:(lvD g).length<sizeLine:=by unfold lvD;rw[xbb];exact smallT _ (by lia)
 cases hf:g.find? λq=>decide (q.1=momR 1 r) with
 |some q=>
  have l:=xkf hf;have n:q.1=momR 1 r:=by simpa using xnx hf
  have I:q.2.1≠L:=λz=>by have:=h.in_ q l;rw[z,h.at_] at this;cases this
  refine WP.of (zui rfl h.at_ J (d h.at_) m (by rw[ztt,hf];rfl)) ?_;refine WP.of (znh (d (h.in_ q l)) (by have:=hk q l;lia)) (k _ ?_ (λi A v u=>?_) (by rw[xdr,xbk];lia))
  ·rw[zkh h.nd l n];refine⟨?_,λx hx=>?_,?_,?_,λx hx=>?_⟩
   ·rw[xbx I,d h.at_]
    congr 2
    unfold lvD;rw[xcw];refine(xeo λy j=>?_).symm;simp only[Function.comp];split<;>rfl
   ·obtain⟨y,j,rfl⟩:=xbq.mp hx;by_cases c:y.1=momR 1 r
    ·have E:y=q:=zvq h.nd j l (c.trans n.symm);subst E;rw[if_pos c];exact zde (zi (d (h.in_ y j)))
    ·rw[if_neg c];have C:q.2.1≠y.2.1:=λz=>c (by rw[←zvq h.ix l j z];exact n)
     rw[xbx C];exact d (h.in_ y j)
   ·rw[xcw];have:(g.map ((λx=>x.1) ∘ λx=>if x.1=momR 1 r then(x.1,x.2.1,aP x.2.2 r) else x))=g.map (·.1):=xeo λy _=>by simp only[Function.comp];split<;>rfl
    rw[this];exact h.nd
   ·rw[xcw];have:(g.map ((λx=>x.2.1) ∘ λx=>if x.1=momR 1 r then(x.1,x.2.1,aP x.2.2 r) else x))=g.map (·.2.1):=xeo λy _=>by simp only[Function.comp];split<;>rfl
    rw[this];exact h.ix
   ·obtain⟨y,j,rfl⟩:=xbq.mp hx;split
    ·exact zck (h.rows y j)
    ·exact h.rows y j
  ·rw[xbx (u q l),xby A]
 |none=>
  have H:∀q∈g,q.1≠momR 1 r:=λq l=>by simpa using xmv.mp hf q l
  have hp:putI (lvD g) (momR 1 r) (.ref f.length)=lvD (g++[(momR 1 r,f.length,[r])]):=by
   unfold putI;rw[if_neg]
   ·unfold lvD;rw[xdi];rfl
   ·rw[Bool.not_eq_true,List.any_eq_false];intro x hx;obtain⟨y,j,rfl⟩:=xbq.mp hx
    simpa using H y j
  have w:L≠f.length:=xch hL;refine WP.of (zuj rfl h.at_ J (d h.at_) m (by rw[ztt,hf];rfl)) ?_;rw[hp];have P:((f++[O.dT []]).set L (.dI (lvD (g++[(momR 1 r,f.length,[r])]))))[f.length]?=some (.dT (aQ [])):=by
   rw[xbx w,xdm (xbj _),xjq];rfl
  refine WP.of (znh P (by simp)) (k _ ?_ (λi A v u=>?_) (by rw[xdr,xdr,xbk];lia))
  ·rw[zki H,show aP [] r=[r] from rfl];have p:∀q∈g,q.2.1<f.length:=λq l=>zi (h.in_ q l)
   refine⟨?_,λx hx=>?_,?_,?_,λx hx=>?_⟩
   ·rw[xbx w.symm,zde (by rw[xbk];lia)]
   ·rcases xce.mp hx with hx|hx
    ·have Y:f.length≠x.2.1:=(xch (p x hx)).symm;have X:L≠x.2.1:=λz=>by have:=h.in_ x hx;rw[←z,h.at_] at this;cases this
     rw[xbx Y,xbx X];exact d (h.in_ x hx)
    ·simp at hx;subst hx
     exact zde (zi P)
   ·rw[xdi,xjk];refine⟨h.nd,by simp,λa G b t=>?_⟩;obtain⟨y,j,rfl⟩:=xbq.mp G;simp at t;subst t
    exact H y j
   ·rw[xdi,xjk];refine⟨h.ix,by simp,λa G b t=>?_⟩;obtain⟨y,j,rfl⟩:=xbq.mp G;simp at t;subst t
    exact xch (p y j)
   ·rcases xce.mp hx with hx|hx
    ·exact h.rows x hx
    ·simp at hx;subst hx;simp
  ·rw[xbx (xch A).symm,xbx v.symm,xby A]
noncomputable abbrev Lr:=List (Int×List (List Int))
def lvR(a:Lv):Lr:=a.map λq=>(q.1,q.2.2)
def flipR(r:List Int):Lr->Lr
 |[]=>[(momR 1 r,[r])]
 |q::lr=>if q.1=momR 1 r then(q.1,aP q.2 r)::lr else q::flipR r lr
theorem zli:∀{a:Lv},lvR (flipLv n r a)=flipR r (lvR a)
 |[]=>rfl
 |q::a=>by
  unfold flipLv;show _=flipR r ((q.1,q.2.2)::lvR a);unfold flipR;dsimp only;split
  ·rfl
  ·show(q.1,q.2.2)::lvR (flipLv n r a)=_;rw[zli]
noncomputable def nuM:List Nat->Nat->Nat
 |[],_=>0
 |t::ts,v=>bif Nat.beq v 0 then 0 else Nat.xor (bif Nat.beq (v%2) 1 then t else 0) (nuM ts (v/2))
noncomputable def nuDec:Nat->Nat->Nat
 |0,_=>0
 |f+1,c=>bif Nat.beq c 0 then 0 else Nat.xor (2^(c%100-1)) (nuDec f (c/100))
noncomputable def nuC:List (List Nat):=[[2,0,5,6,0,0,9,11,0,14,0,16,17,0,19,0,0,23,0,25,27,28,0,30,0,32,0,0,35,0,37,0,40,41,0,43,0,46,47,0,0,50,0,52,54,0,0,57,58,0,60,0,63,0,66,67,0,0,70,0,72,73,0,76,77,0,0,80,81,0,83],[3,4,6,0,908,11,1211,15,15,18,0,19,21,22,0,2524,26,28,30,3130,32,0,3534,36,36,0,4038,41,4241,0,43,46,4846,49,49,0,5251,55,56,55,0,58,60,6160,64,0,65,66,0,7069,71,71,74,75,0,77,8078,81,8281,0,83],[5,6,0,0,11,0,16,19,19,23,0,0,27,28,0,30,32,0,0,37,0,0,41,43,43,0,46,0,50,0,0,0,57,58,58,0,60,66,67,66,0,0,0,72,76,0,77,0,0,81,83,83],[7,8,10,13,14,17,1918,21,252423,2826,3027,3129,32,353432,3633,3735,4038,4238,4340,444342,48,494745,5046,5148,5150,5554,57,5854,595855,57,59,66,6866,696564,6966,68,70,7875,7975,78,7776,78,80,8382],[9,11,14,17,0,0,23,27,30,32,0,3735,0,41,4340,0,46,5046,0,5250,57,5854,0,6057,60,66,0,0,7066,0,70,0,80,817776,81,80],[12,15,18,21,22,26,28,32,3534,0,4038,434241,0,46,4846,525149,0,5855,6055,616058,66,6564,7069,7166,717069,75,8078,8175,8281,8078,8281],[16,19,23,27,28,32,0,0,41,0,46,50,0,0,57,6058,0,66,66,72,0,7776,81,83,8381],[20,24,29,33,34,38,39,45,47,53,54,5856,62,63,6664,706967,73,74,807876,838279],[25,30,35,40,41,46,47,54,0,63,0,67,73,0,76,81],[31,36,42,48,49,55,56,64,65,74,75,77],[37,43,50,57,58,66,67,76,77],[44,51,59,68,69,78,79],[52,60,70,80,81],[61,71,82],[72,83],[84]]
def nuT:List (List Nat):=[]::nuC.map λl=>(l++List.replicate (84-l.length) 0).map (nuDec 3)
noncomputable def nuSt:List (List Int):=[[],[1],[2],[2,1],[3],[3,1],[4],[4,1],[5],[4,2],[5,1],[6],[4,2,1],[5,2],[6,1],[7],[5,2,1],[6,2],[7,1],[8],[6,2,1],[6,3],[7,2],[8,1],[9],[6,3,1],[7,2,1],[7,3],[8,2],[9,1],[10],[7,3,1],[8,2,1],[8,3],[9,2],[10,1],[11],[8,3,1],[8,4],[9,2,1],[9,3],[10,2],[11,1],[12],[8,4,1],[9,3,1],[9,4],[10,2,1],[10,3],[11,2],[12,1],[13],[8,4,2],[9,4,1],[10,3,1],[10,4],[11,2,1],[11,3],[12,2],[13,1],[14],[8,4,2,1],[9,4,2],[10,4,1],[10,5],[11,3,1],[11,4],[12,2,1],[12,3],[13,2],[14,1],[15],[9,4,2,1],[10,4,2],[10,5,1],[11,4,1],[11,5],[12,3,1],[12,4],[13,2,1],[13,3],[14,2],[15,1],[16]]
def nuA(a v:Nat):Nat:=nuM (nuT.getD a []) v
theorem zlf:∀a,nuM a 0=0
 |[]=>rfl
 |_::_=>rfl
theorem zcn(t:Nat)(a:List Nat)(v:Nat):nuM (t::a) v=(if v%2=1 then t else 0)^^^nuM a (v/2):=by
 by_cases c:v=0
 ·subst c;rw[zlf,if_neg (by decide),Nat.zero_div,zlf];rfl
 ·have b:Nat.beq v 0=false:=by
   cases h:Nat.beq v 0 with
   |false=>rfl
   |true=>exact absurd (xfz h) c
  have e:(bif Nat.beq (v%2) 1 then t else 0)=if v%2=1 then t else 0:=by
   by_cases d:v%2=1
   ·rw[if_pos d,d];rfl
   ·have:v%2=0:=by lia
    rw[if_neg d,this];rfl
  show(bif Nat.beq v 0 then 0 else Nat.xor (bif Nat.beq (v%2) 1 then t else 0) (nuM a (v/2)))=_;rw[b,e];rfl
theorem xor4(a b c d:Nat):(a^^^b)^^^(c^^^d)=(a^^^c)^^^(b^^^d):=by
 rw[xdn,xdn,←xdn b,←xdn c,xnq b c]
theorem zbcu:∀(c:List Nat) (v w:Nat),nuM c (v^^^w)=nuM c v^^^nuM c w
 |[],v,w=>by show 0=0^^^0;rw[xhw]
 |t::c,v,w=>by
  rw[zcn,zcn,zcn,Nat.xor_div_two,zbcu c,xor4]
  congr 1
  have:=Nat.xor_mod_two_eq_one (a:=v) (b:=w);by_cases c1:v%2=1<;>by_cases c2:w%2=1<;>simp[c1,c2,this]
theorem zvm(b:f 0=0)(c:∀v w,f (v^^^w)=f v^^^f w):∀(a:List Nat) (v:Nat),nuM (a.map f) v=f (nuM a v)
 |[],v=>b.symm
 |t::a,v=>by
  rw[xbr,zcn,zcn,c,zvm b c a]
  congr 1
  split
  ·rfl
  ·exact b.symm
theorem zbct:∀(b a:List Nat) (v:Nat),b.length=a.length->nuM (List.zipWith Nat.xor b a) v=nuM b v^^^nuM a v
 |[],[],v,_=>by show 0=0^^^0;rw[xhw]
 |[],_::_,v,h=>by cases h
 |_::_,[],v,h=>by cases h
 |t::b,u::a,v,h=>by
  show nuM (Nat.xor t u::List.zipWith Nat.xor b a) v=_;rw[zcn,zcn,zcn,zbct b a _ (by simpa using h),xor4]
  congr 1
  split
  ·rfl
  ·rfl
theorem zbcv:∀(a:List Nat) (i:Nat),nuM a (2^i)=a.getD i 0
 |[],i=>by simp[nuM]
 |t::a,0=>by rw[zcn];simp[zlf]
 |t::a,i+1=>by
  rw[zcn,if_neg (by rw[xkp];lia),show 2^(i+1)/2=2^i by rw[xkp];lia,zbcv a i,xip]
  rfl
theorem zov(a:Nat):nuA a 0=0:=zlf _
theorem zvo(a v w:Nat):nuA a (v^^^w)=nuA a v^^^nuA a w:=zbcu _ _ _
def nuF(r:List Int) (v:Nat):Nat:=r.foldr (λa v=>nuA a.toNat v) v
def nu(r:List Int):Nat:=nuF r 1
def nuS(l:List (List Int)):Nat:=l.foldr (λr x=>nu r^^^x) 0
theorem zfq(r s:List Int)(v:Nat):nuF (r++s) v=nuF r (nuF s v):=by unfold nuF;rw[List.foldr_append]
theorem zvn:∀r,nuF r 0=0
 |[]=>rfl
 |a::r=>by show nuA _ (nuF r 0)=0;rw[zvn r,zov]
theorem zbcw:∀r v w,nuF r (v^^^w)=nuF r v^^^nuF r w
 |[],_,_=>rfl
 |a::r,v,w=>by show nuA _ (nuF r _)=nuA _ (nuF r v)^^^nuA _ (nuF r w);rw[zbcw r,zvo]
theorem zmx:∀l m,nuS (l++m)=nuS l^^^nuS m
 |[],m=>(xip _).symm
 |r::l,m=>by show nu r^^^nuS (l++m)=(nu r^^^nuS l)^^^nuS m;rw[zmx l m,xdn]
theorem zbgh{l:List (List Int)}(h:l.Perm m):nuS l=nuS m:=by
 induction h with
 |nil=>rfl
 |@cons x a b _ ih=>show nu x^^^nuS a=nu x^^^nuS b;rw[ih]
 |swap x y l=>show nu y^^^(nu x^^^nuS l)=nu x^^^(nu y^^^nuS l);rw[←xdn,←xdn,xnq (nu y)]
 |trans _ _ a b=>exact a.trans b
theorem zbgi{l:List (List Int)}(b:l.Nodup):nuS (aP l r)=nuS l^^^nu r:=by
 unfold aP;split
 ·rename_i h;have:∀{l:List (List Int)},l.Nodup->r∈l->nuS (l.filter λx=>decide (x≠r))=nuS l^^^nu r:=λ{l}=>by
   induction l with
   |nil=>intro _ h;cases h
   |cons a l ih=>
    intro b h;rw[xdf] at b;by_cases c:a=r
    ·subst c;have e:l.filter (λx=>decide (x≠a))=l:=xmk.mpr λx d=>by
      rw[xjn];intro z;subst z;exact b.1 d
     rw[xcs (by simp),e];show nuS l=(nu a^^^nuS l)^^^nu a;rw[xnq,←xdn,xhw,xip]
    ·rw[xcp (by simpa using c)];show nu a^^^nuS (l.filter λx=>decide (x≠r))=(nu a^^^nuS l)^^^nu r;rw[ih b.2 (by rcases xbl.mp h with z|z;exact absurd z.symm c;exact z),xdn]
  exact this b h
 ·rw[zmx];show nuS l^^^(nu r^^^0)=_;rw[xer]
theorem zqq:∀(m l:List (List Int)),l.Nodup->nuS (m.foldl aP l)=nuS l^^^nuS m
 |[],l,_=>(xer _).symm
 |r::m,l,nd=>by
  rw[xgp,zqq m _ (zck nd),zbgi nd];show _=nuS l^^^(nu r^^^nuS m);rw[xdn]
def mt2:List Int->List Nat
 |[x]=>nuT.getD x.toNat []
 |[x,y]=>(nuT.getD y.toNat []).map (nuA x.toNat)
 |_=>[]
noncomputable def twosN(a b n:Nat):List (List Int):=((List.range n).filter λc=>Nat.beq (Nat.land (b-c-1) (a-2*c)) (a-2*c)).map λc=>if c=0 then[((a+b:Nat):Int)] else[((a+b-c:Nat):Int),(c:Int)]
def nuChk(a b:Nat):Bool:=bif Nat.blt a (2*b) then decide ((nuT.getD b []).map (nuA a)=(twosN a b (a/2+1)).foldr (λtwo m=>List.zipWith Nat.xor (mt2 two) m) (List.replicate 84 0)) else true
theorem zzx:((List.range 17).all λa=>(List.range (17-a)).all λb=>bif Nat.blt 0 a&&Nat.blt 0 b then nuChk a b else true)=true:=by decide +kernel
theorem zbnc:(nuT.all λt=>Nat.beq t.length 84||Nat.beq t.length 0)=true/\((List.range 16).all λi=>Nat.beq (nuT.getD (i+1) []).length 84)=true:=by decide +kernel
theorem zbnd(h:1<=a)(b:a<=16):(nuT.getD a []).length=84:=by
 have:=xca.mp zbnc.2 (a-1) (xbn.mpr (by lia));rw[show a-1+1=a by lia] at this;exact xfz this
theorem zqr:∀n v,nuM (List.replicate n 0) v=0
 |0,_=>rfl
 |n+1,v=>by
  rw[List.replicate_succ,zcn,zqr n];split<;>rfl
theorem zym{a b n:Nat}{two:List Int}(h:two∈twosN a b n):(two=[((a+b:Nat):Int)])\/∃c:Nat,0<c/\c<n/\two=[((a+b-c:Nat):Int),(c:Int)]:=by
 unfold twosN at h;obtain⟨c,d,rfl⟩:=xbq.mp h;have d:=xbn.mp (xcn.mp d).1;by_cases z:c=0
 ·rw[if_pos z];exact .inl rfl
 ·rw[if_neg z];exact .inr ⟨c,by lia,d,rfl⟩
theorem zbtk(p:1<=a)(r:1<=b)(q:a+b<=16)(k:a<2*b)(v:Nat):(twosN a b (a/2+1)).foldr (λtwo x=>nuF two v^^^x) 0=nuA a (nuA b v):=by
 have h:=zzx;have h:=xca.mp h a (xbn.mpr (by lia));have h:=xca.mp h b (xbn.mpr (by lia));rw[show(Nat.blt 0 a&&Nat.blt 0 b)=true by rw[xcy];exact⟨xju (by lia),xju (by lia)⟩] at h;have h:nuChk a b=true:=h;unfold nuChk at h;rw[show Nat.blt a (2*b)=true from xju (by lia)] at h;have h:=xde h;have g:=congrArg (λm=>nuM m v) h;simp only[zvm (zov a) (zvo a)] at g;show _=nuA a (nuM (nuT.getD b []) v);rw[g];have f:∀(d:List (List Int)),(∀two∈d,two∈twosN a b (a/2+1))->nuM (d.foldr (λtwo m=>List.zipWith Nat.xor (mt2 two) m) (List.replicate 84 0)) v=d.foldr (λtwo x=>nuF two v^^^x) 0/\(d.foldr (λtwo m=>List.zipWith Nat.xor (mt2 two) m) (List.replicate 84 0)).length=84:=λd=>by
  induction d with
  |nil=>intro _;exact⟨zqr _ _,by simp⟩
  |cons two d ih=>
   intro j;obtain⟨l,i⟩:=ih λt n=>j t (xbf _ n)
   have e:(mt2 two).length=84/\nuM (mt2 two) v=nuF two v:=by
    rcases zym (j two (by simp)) with rfl|⟨c,o,s,rfl⟩
    ·exact⟨zbnd (by simp;lia) (by simp;lia),rfl⟩
    ·refine⟨?_,?_⟩
     ·show((nuT.getD (c:Int).toNat []).map _).length=_;rw[xbb];exact zbnd (by simp;lia) (by simp;lia)
     ·show nuM ((nuT.getD (c:Int).toNat []).map _) v=_;rw[zvm (zov _) (zvo _)];rfl
   rw[List.foldr_cons,List.foldr_cons];refine⟨?_,by rw[List.length_zipWith,e.1,i];rfl⟩;rw[zbct _ _ _ (by rw[e.1,i]),e.2,l]
 exact(f _ λ_ h=>h).1.symm
theorem zyz{a b:Nat}(j:1<=a)(i:1<=b)(e:a<2*b):∀{n:Nat},n<=a/2+1->rowsL a b n=twosN a b n:=λ{n} g=>by
 unfold rowsL twosN;have f:((List.range n).filter λ(c:Nat)=>oddW ((b:Int)-c-1) ((a:Int)-2*c))=(List.range n).filter λc=>Nat.beq (Nat.land (b-c-1) (a-2*c)) (a-2*c):=by
  refine xgo λc d=>?_
  have d:=xbn.mp d;rw[show(b:Int)-c-1=((b-c-1:Nat):Int) by lia,show(a:Int)-2*c=((a-2*c:Nat):Int) by lia,zbge];generalize b-c-1=x;generalize a-2*c=y;show decide (Nat.land x y=y)=_;cases h:Nat.beq (Nat.land x y) y with
  |true=>exact xbw (xfz h)
  |false=>exact xcd (Nat.ne_of_beq_eq_false h)
 rw[f];refine xeo λc d=>?_
 have d:=xbn.mp (xcn.mp d).1;unfold rowC;by_cases z:c=0
 ·subst z;rw[if_pos rfl,if_neg (by lia)];rfl
 ·rw[if_neg z,if_pos (by lia)]
  congr 1
  lia
theorem zbcr{f:List Int->List Int}{g:List Int->Nat}(w:Nat)(r:List Int)(h:∀two,nu (f two)=nuF r (g two)):∀l:List (List Int),nuS (l.map f)=nuF r (l.foldr (λtwo x=>g two^^^x) 0)
 |[]=>(zvn r).symm
 |two::l=>by
  show nu (f two)^^^nuS (l.map f)=nuF r (g two^^^l.foldr (λtwo x=>g two^^^x) 0);rw[zbcr w r h l,zbcw,h]
theorem zbtl{r:List Int}{p:Nat}{L:Nat}(h:RowOk r 16 L)(m:slowAt r p):nuS (exRow r p)=nu r:=by
 obtain⟨a,b,f,c,j⟩:=m;have v:p+1<r.length:=(xbd.mp c).1;have t:=h.pos a (xbo f);have s:=h.pos b (xbo c);have i:r=r.take p++([a,b]++r.drop (p+2)):=by
  have l:r.drop p=a::r.drop (p+1):=by
   rw[xdh (by lia)]
   congr 1
   exact(xbd.mp f).2
  have k:r.drop (p+1)=b::r.drop (p+2):=by
   rw[xdh (by lia)]
   congr 1
   exact(xbd.mp c).2
  calc r=r.take p++r.drop p:=(xdg p r).symm
   _=_:=by rw[l,k];simp
 have d:a+b<=16:=by
  have u:r.sum=(r.take p).sum+(a+(b+(r.drop (p+2)).sum)):=by
   conv=>lhs;rw[i]
   rw[xel,xel];simp;lia
  have o:=h.sum;have q:0<=(r.take p).sum:=zcl λx e=>h.pos x (xec e)
  have n:0<=(r.drop (p+2)).sum:=zcl λx e=>h.pos x (xfq e)
  lia
 obtain⟨a,rfl⟩:=xda (show 0<=a by lia);obtain⟨b,rfl⟩:=xda (show 0<=b by lia);unfold exRow;rw[xbi,f,xbi,c];simp only[xns];rw[zbgh ((zr _).map _),show((a:Int)/2+1).toNat=a/2+1 by lia,zyz (by lia) (by lia) (by lia) (xbj _)];rw[zbcr (g:=λtwo=>nuF two (nuF (r.drop (p+2)) 1)) 0 (r.take p) λtwo=>by unfold nu;rw[zfq,zfq]];rw[zbtk (by lia) (by lia) (by lia) (by lia)]
 conv=>rhs;rw[i]
 unfold nu;rw[zfq,zfq];rfl
def nuStep(i a:Nat):Bool:=match nuSt[i]? with
 |none=>true
 |some r=>bif decide ((a:Int)+r.sum<=16)&&decide (2*r.headD 0<=(a:Int)) then(match nuSt[nuSt.idxOf ((a:Int)::r)]? with|some b=>decide (b=(a:Int)::r)|none=>false)&&Nat.beq ((nuT.getD a []).getD i 0) (2^nuSt.idxOf ((a:Int)::r)) else true
theorem zvl:((List.range 84).all λi=>(List.range 17).all λa=>bif Nat.beq a 0 then true else nuStep i a)=true:=by decide +kernel
theorem zbcq:nuSt.Nodup:=by decide +kernel
theorem zin:nuSt.length=84:=by decide +kernel
def Stp(r:List Int):Prop:=∀p,¬ slowAt r p
theorem zbrl(h:placesL r=[]):Stp r:=λp a=>by
 have:=ziq.mpr a;rw[h] at this;cases this
theorem Stp.tail(h:Stp (a::r)):Stp r:=λp ⟨x,y,c,b,q⟩=>h (p+1) ⟨x,y,by simpa using c,by simpa using b,q⟩
theorem Stp.head(h:Stp (a::r))(d:1<=a):2*r.headD 0<=a:=by
 cases r with
 |nil=>simp;lia
 |cons b r=>
  have:=h 0;refine Classical.byContradiction λc=>this ⟨a,b,rfl,rfl,?_⟩
  simp at c;lia
theorem zou{L:Nat}:∀{r:List Int},RowOk r 16 L->Stp r->∃i,nuSt[i]?=some r/\nu r=2^i
 |[],_,_=>⟨0,by decide +kernel,rfl⟩
 |a::r,h,hs=>by
  have n:=h.pos a (by simp);have b:=h.sum;rw[xcu] at b;have o:0<=r.sum:=zcl λx d=>h.pos x (xbf _ d)
  obtain⟨i,f,g⟩:=zou (L:=L) (r:=r) ⟨λx d=>h.pos x (xbf _ d),by lia,by have:=h.len;rw[xbt] at this;lia⟩ hs.tail;have l:i<84:=by have:=(xbd.mp f).1;rw[zin] at this;exact this
  have j:=hs.head n;obtain⟨a,rfl⟩:=xda (show 0<=a by lia);have k:=xca.mp (xca.mp zvl i (xbn.mpr l)) a (xbn.mpr (by lia));rw[show Nat.beq a 0=false by cases z:Nat.beq a 0 with|false=>rfl|true=>have:=xfz z;lia] at k;have k:nuStep i a=true:=k;unfold nuStep at k;rw[f] at k;have k:(bif decide ((a:Int)+r.sum<=16)&&decide (2*r.headD 0<=(a:Int)) then(match nuSt[nuSt.idxOf ((a:Int)::r)]? with|some e=>decide (e=(a:Int)::r)|none=>false)&&Nat.beq ((nuT.getD a []).getD i 0) (2^nuSt.idxOf ((a:Int)::r)) else true)=true:=k;rw[xbw (show(a:Int)+r.sum<=16 by lia),xbw j] at k;simp only[xna,xlw] at k;rw[xcy] at k;obtain⟨c,m⟩:=k;refine⟨nuSt.idxOf ((a:Int)::r),?_,?_⟩
  ·cases z:nuSt[nuSt.idxOf ((a:Int)::r)]? with
   |none=>rw[z] at c;cases c
   |some e=>
    rw[z] at c;rw[xde c]
  ·show nuA _ (nu r)=_;rw[g];show nuM (nuT.getD a []) (2^i)=_;rw[zbcv];exact xfz m
def StOk16(l:List (List Int)):Prop:=∀r∈l,RowOk r 16 6/\Stp r
theorem zbcs(h:StOk16 l) (d:nuSt[i]?=some x):(nuS l).testBit i=decide (l.count x%2=1):=by
 induction l with
 |nil=>simp[nuS]
 |cons r l b=>
  have b:=b λy e=>h y (xbf _ e)
  obtain⟨j,a,f⟩:=zou (h r (by simp)).1 (h r (by simp)).2;show(nu r^^^nuS l).testBit i=_;rw[Nat.testBit_xor,b,f,Nat.testBit_two_pow,xhf];by_cases c:j=i
  ·subst c;rw[d] at a;cases a;rw[xbw rfl,if_pos (by simp)];rcases xef (l.count x) with z|z
   ·rw[xcd (by lia),xbw (by lia)];rfl
   ·rw[xbw z,xcd (by lia)];rfl
  ·have:¬ r=x:=λz=>by
    subst z;obtain⟨m,k⟩:=xbd.mp a;obtain⟨n,g⟩:=xbd.mp d;exact c ((xnl zbcq).mp (k.trans g.symm))
   simp[c,this]
def stl(v:Nat):List (List Int):=sortR (((List.range 84).filter λi=>v.testBit i).map λi=>nuSt.getD i [])
theorem zbrm(h:StOk16 l)(m:l.Nodup):sortR l=stl (nuS l):=by
 unfold stl;refine zjx (zgh m ?_ λx=>?_)
 ·refine List.Pairwise.map _ (R:=λi j=>i≠j/\i<84/\j<84) ?_ ?_
  ·rintro i j ⟨q,n,o⟩ e;rw[xbi,xbi,xbe (by rw[zin];exact n),xbe (by rw[zin];exact o)] at e;exact q ((xnl zbcq).mp e)
  ·refine List.Pairwise.imp_of_mem (R:=(·≠·)) (λ{a b} p g h=>⟨h,xbn.mp (xcn.mp p).1,xbn.mp (xcn.mp g).1⟩) (xlp.filter _)
 ·constructor
  ·intro f;obtain⟨i,k,r⟩:=zou (h x f).1 (h x f).2;have d:i<84:=by have:=(xbd.mp k).1;rw[zin] at this;exact this
   refine xbq.mpr ⟨i,xcn.mpr ⟨xbn.mpr d,?_⟩,by rw[xbi,k];rfl⟩;rw[zbcs h k,xnt m,if_pos f];rfl
  ·intro f;obtain⟨i,d,rfl⟩:=xbq.mp f;obtain⟨d,g⟩:=xcn.mp d;have d:=xbn.mp d;have e:nuSt[i]?=some (nuSt.getD i []):=by rw[xbi,xbe (by rw[zin];exact d)];rfl
   rw[zbcs h e,xnt m] at g;by_cases c:nuSt.getD i []∈l
   ·exact c
   ·rw[if_neg c] at g;simp at g
theorem zvy{α:Type}[DecidableEq α]:∀{l m:List α},l.Nodup->(∀x∈l,x∈m)->l.length<=m.length
 |[],m,_,_=>xes _
 |a::l,m,nd,h=>by
  rw[xdf] at nd;have c:a∈m:=h a (by simp);have d:=zvy (l:=l) (m:=m.erase a) nd.2 λx b=>by
   refine(List.mem_erase_of_ne λe=>?_).mpr (h x (xbf _ b));subst e;exact nd.1 b
  rw[List.length_erase_of_mem c] at d;have:0<m.length:=List.length_pos_of_mem c;rw[xbt];lia
noncomputable def allR:Nat->Nat->List (List Int)
 |0,_=>[[]]
 |k+1,s=>[]::(List.range s).flatMap λa=>(allR k (s-1-a)).map λr=>((a+1:Nat):Int)::r
noncomputable def cntR:Nat->Nat->Nat
 |0,_=>1
 |k+1,s=>1+((List.range s).map λa=>cntR k (s-1-a)).sum
theorem zxt:∀k s,(allR k s).length=cntR k s
 |0,_=>rfl
 |k+1,s=>by
  unfold allR cntR;rw[xbt,List.length_flatMap,xno]
  congr 2
  refine xeo λa _=>?_
  rw[xbb,zxt k]
theorem zxs:∀(k s:Nat) (r:List Int),RowOk r s k->r∈allR k s
 |0,s,r,h=>by
  have:=h.len;have:r=[]:=xgl.mp (by lia);subst this;simp[allR]
 |k+1,s,[],_=>by simp[allR]
 |k+1,s,a::r,h=>by
  have e:=h.pos a (by simp);have c:=h.sum;rw[xcu] at c;have d:0<=r.sum:=zcl λx b=>h.pos x (xbf _ b)
  obtain⟨a,rfl⟩:=xda (show 0<=a by lia);unfold allR;refine xbf _ (xcf.mpr ⟨a-1,xbn.mpr (by lia),xbq.mpr ⟨r,zxs k _ r ⟨λx b=>h.pos x (xbf _ b),?_,?_⟩,?_⟩⟩)
  ·lia
  ·have:=h.len;rw[xbt] at this;lia
  ·rw[show a-1+1=a by lia]
theorem zup{l:List (List Int)}(c:l.Nodup)(h:∀r∈l,RowOk r 16 6):l.length<=15000:=by
 have d:=zvy c λr b=>zxs 6 16 r (h r b)
 rw[zxt] at d;have a:Nat.ble (cntR 6 16) 15000=true:=by decide +kernel
 have a:=xfk a;lia
theorem zbni:∀{r:List Int}{k:Int},0<=k->(∀x∈r,1<=x)->0<=momR k r
 |[],k,_,_=>by simp[momR]
 |x::r,k,hk,h=>by
  have c:=zbni (r:=r) (k:=k+1) (by lia) λy a=>h y (xbf _ a)
  have d:=h x (by simp);have b:0<=k*x:=xoe hk (by lia);unfold momR;lia
theorem zbnj:∀{r:List Int}{k:Int},0<=k->(∀x∈r,1<=x)->momR k r<=(k+r.length)*r.sum
 |[],k,_,_=>by simp[momR]
 |x::r,k,hk,h=>by
  have d:=zbnj (r:=r) (k:=k+1) (by lia) λy a=>h y (xbf _ a)
  have e:=h x (by simp);have f:0<=((r.length:Int)+1)*x:=xoe (by lia) (by lia);rw[xcu,xbt,Int.mul_add];unfold momR;have c:(k+((r.length+1:Nat):Int))*x=k*x+((r.length:Int)+1)*x:=by rw[←xmr];congr 1;try lia
  have b:(k+1+(r.length:Int))*r.sum=(k+((r.length+1:Nat):Int))*r.sum:=by congr 1;push_cast;lia
  rw[c];rw[b] at d
  lia
theorem zbnk(h:RowOk r 16 6):0<=momR 1 r/\momR 1 r<=112:=by
 refine⟨zbni (by lia) h.pos,xmb (zbnj (by lia) h.pos) ?_⟩;have b:=h.len;have c:=h.sum;have a:0<=r.sum:=zcl h.pos
 calc (1+(r.length:Int))*r.sum<=7*r.sum:=Int.mul_le_mul_of_nonneg_right (by lia) a
  _<=112:=by lia
structure LvG (lr:Lr):Prop where
 nd:(lr.map (·.1)).Nodup
 row:∀q∈lr,∀r∈q.2,RowOk r 16 6/\momR 1 r=q.1
 key:∀q∈lr,0<=q.1/\q.1<=112
 rnd:∀q∈lr,q.2.Nodup
theorem LvG.few(h:LvG b):b.length<=113/\∀q∈b,q.2.length<=15000:=by
 refine⟨?_,λq a=>zup (h.rnd q a) λr c=>(h.row q a r c).1⟩;have:=zvy (m:=(List.range 113).map λ(i:Nat)=>(i:Int)) h.nd λx d=>by
  obtain⟨q,a,rfl⟩:=xbq.mp d;have:=h.key q a;exact xbq.mpr ⟨q.1.toNat,xbn.mpr (by lia),by lia⟩
 simpa using this
theorem zdj:∀{a:Lr}(q:Int×List (List Int)),q∈flipR r a->q∈a\/(q.1=momR 1 r/\((q.2=[r]/\∀x∈a,x.1≠momR 1 r)\/∃l,(q.1,l)∈a/\q.2=aP l r))
 |[],q,h=>by
  unfold flipR at h;simp at h;subst h;exact .inr ⟨rfl,.inl ⟨rfl,λx f=>by cases f⟩⟩
 |x::a,q,h=>by
  unfold flipR at h;split at h
  ·rename_i c;rcases xbl.mp h with rfl|h
   ·exact .inr ⟨c,.inr ⟨x.2,by simp,rfl⟩⟩
   ·exact .inl (xbf _ h)
  ·rename_i c;rcases xbl.mp h with rfl|h
   ·exact .inl (by simp)
   ·rcases zdj q h with h|⟨e,⟨b,d⟩|⟨l,b,d⟩⟩
    ·exact .inl (xbf _ h)
    ·refine .inr ⟨e,.inl ⟨b,λy hy=>?_⟩⟩;rcases xbl.mp hy with rfl|hy
     ·exact c
     ·exact d y hy
    ·exact .inr ⟨e,.inr ⟨l,xbf _ b,d⟩⟩
theorem zwo:∀{a:Lr},(a.map (·.1)).Nodup->((flipR r a).map (·.1)).Nodup
 |[],_=>by simp[flipR]
 |x::a,nd=>by
  rw[xbr,xdf] at nd;unfold flipR;split
  ·rw[xbr,xdf];exact nd
  ·rename_i c;rw[xbr,xdf];refine⟨λz=>?_,zwo nd.2⟩;obtain⟨q,b,e⟩:=xbq.mp z;rcases zdj q b with h|⟨h,_⟩
   ·exact nd.1 (xbq.mpr ⟨q,h,e⟩)
   ·exact c (e.symm.trans h)
theorem LvG.flip(h:LvG lr)(f:RowOk r 16 6):LvG (flipR r lr):=by
 refine⟨zwo h.nd,λq e x c=>?_,λq e=>?_,λq e=>?_⟩
 ·rcases zdj q e with a|⟨a,⟨b,d⟩|⟨l,b,d⟩⟩
  ·exact h.row q a x c
  ·rw[b,xcj] at c;subst c;exact⟨f,a.symm⟩
  ·rw[d,zbt] at c;rcases c with⟨c,_⟩|⟨rfl,_⟩
   ·exact h.row _ b x c
   ·exact⟨f,a.symm⟩
 ·rcases zdj q e with a|⟨a,_⟩
  ·exact h.key q a
  ·rw[a];exact zbnk f
 ·rcases zdj q e with a|⟨a,⟨b,d⟩|⟨l,b,d⟩⟩
  ·exact h.rnd q a
  ·rw[b];simp
  ·rw[d];exact zck (h.rnd _ b)
def inM(a:Lr) (x:List Int):Prop:=∃q∈a,x∈q.2
theorem zbhh(h:LvG b)(o:RowOk r 16 6):inM (flipR r b) x↔(inM b x/\x≠r)\/(x=r/\¬ inM b r):=by
 have l:∀{b:Lr},(b.map (·.1)).Nodup->(∀q∈b,∀r∈q.2,momR 1 r=q.1)->(inM (flipR r b) x↔(inM b x/\x≠r)\/(x=r/\¬ inM b r)):=λ{b}=>by
  induction b with
  |nil=>
   intro _ _;unfold flipR inM;simp
  |cons a b ih=>
   intro j i;rw[xbr,xdf] at j;have f:∀y,inM (a::b) y↔y∈a.2\/inM b y:=λy=>by unfold inM;simp
   unfold flipR;split
   ·rename_i c;have m:¬ inM b r:=λ⟨q,d,k⟩=>j.1 (xbq.mpr ⟨q,d,by rw[c];exact(i q (xbf _ d) r k).symm⟩)
    have g:inM ((a.1,aP a.2 r)::b) x↔x∈aP a.2 r\/inM b x:=by unfold inM;simp
    rw[g,zbt,f,f];by_cases e:x=r
    ·subst e;simp[m]
    ·simp[e]
   ·rename_i c;have g:inM (a::flipR r b) x↔x∈a.2\/inM (flipR r b) x:=by unfold inM;simp
    have n:r∉a.2:=λz=>c (i a (by simp) r z).symm
    rw[g,ih j.2 λq d=>i q (xbf _ d),f,f];by_cases e:x=r
    ·subst e;simp[n]
    ·simp[e]
 exact l h.nd λq d x k=>(h.row q d x k).2
def stepK(a:List (List Int)) (z:List Int×Nat):List (List Int):=(z.1::exRow z.1 z.2).foldl aP a
def Wke(a:List (List Int)) (q:List (List Int×Nat)):List (List Int):=q.foldl stepK a
def Wkd:List (List Int)->List (List Int×Nat)->Prop
 |_,[]=>True
 |ks,z::q=>z.1∈ks/\slowAt z.1 z.2/\Wkd (stepK ks z) q
theorem Wkd.snoc:∀{q:List (List Int×Nat)}{b:List (List Int)}{z:List Int×Nat},Wkd b q->z.1∈Wke b q->slowAt z.1 z.2->Wkd b (q++[z])
 |[],b,z,_,h1,h2=>⟨h1,h2,trivial⟩
 |a::q,b,z,h,h1,h2=>⟨h.1,h.2.1,Wkd.snoc h.2.2 h1 h2⟩
theorem Wke.snoc:Wke ks (q++[z])=stepK (Wke ks q) z:=by unfold Wke;rw[xeq];rfl
theorem zbao{m:List (List Int)}(h:x∈m.foldl aP ks):x∈ks\/x∈m:=by
 induction m generalizing ks with
 |nil=>exact .inl h
 |cons a m ih=>
  rcases ih h with h|h
  ·rw[zbt] at h;rcases h with⟨h,_⟩|⟨rfl,_⟩
   ·exact .inl h
   ·exact .inr (by simp)
  ·exact .inr (xbf _ h)
theorem zbhj{m b:List (List Int)}(h:b.Nodup):(m.foldl aP b).Nodup:=by
 induction m generalizing b with
 |nil=>exact h
 |cons a m ih=>exact ih (zck h)
structure RwsOk (ks:List (List Int)):Prop where
 nd:ks.Nodup
 row:∀r∈ks,RowOk r 16 6
theorem RwsOk.few(h:RwsOk ks):ks.length<=15000:=zup h.nd h.row
theorem RwsOk.step(h:RwsOk ks)(a:z.1∈ks)(b:slowAt z.1 z.2):RwsOk (stepK ks z)/\nuS (stepK ks z)=nuS ks:=by
 refine⟨⟨zbhj h.nd,λr hr=>?_⟩,?_⟩
 ·rcases zbao hr with hr|hr
  ·exact h.row r hr
  ·rcases xbl.mp hr with rfl|hr
   ·exact h.row _ a
   ·exact zlr (h.row _ a) b r hr
 ·unfold stepK;rw[zqq _ _ h.nd];show nuS ks^^^(nu z.1^^^nuS (exRow z.1 z.2))=_;rw[zbtl (h.row _ a) b,xhw,xer]
theorem RwsOk.walk:∀{q:List (List Int×Nat)}{e:List (List Int)},RwsOk e->Wkd e q->RwsOk (Wke e q)/\nuS (Wke e q)=nuS e
 |[],e,h,_=>⟨h,rfl⟩
 |z::q,e,h,w=>by
  obtain⟨a,b⟩:=h.step w.1 w.2.1;obtain⟨c,d⟩:=RwsOk.walk a w.2.2;exact⟨c,d.trans b⟩
theorem zben(h:RwsOk c)(w:Wkd c q)(s:∀x∈Wke c q,Stp x):sortR (Wke c q)=stl (nuS c):=by
 obtain⟨a,b⟩:=h.walk w;rw[zbrm (λr d=>⟨a.row r d,s r d⟩) a.nd,b]
def foldR(b:List (List Int)) (c:Lr):Lr:=b.foldl (λa r=>flipR r a) c
structure LvTo (au:Store) (L:Nat) (lv:Lv) (ms:List (List Int)) (s:Store) (lv':Lv):Prop where
 at_:LvAt s L lv'
 eq:lvR lv'=foldR ms (lvR lv)
 keep:∀i,i<au.length->i≠L->(∀q∈lv,q.2.1≠i)->s[i]?=au[i]?
 len:au.length<=s.length
 ix:∀q∈lv',au.length<=q.2.1\/∃q0∈lv,q0.2.1=q.2.1
theorem LvTo.refl{L:Nat}(h:LvAt au L lv):LvTo au L lv [] au lv:=⟨h,rfl,λ_ _ _ _=>rfl,xbj _,λq a=>.inr ⟨q,a,rfl⟩⟩
theorem zrd:∀{a:Lv},∀q∈flipLv n r a,q.2.1=n\/∃b∈a,b.2.1=q.2.1
 |[],q,hq=>by
  unfold flipLv at hq;simp at hq;subst hq;exact .inl rfl
 |x::a,q,hq=>by
  unfold flipLv at hq;split at hq
  ·rcases xbl.mp hq with rfl|hq
   ·exact .inr ⟨x,by simp,rfl⟩
   ·exact .inr ⟨q,xbf _ hq,rfl⟩
  ·rcases xbl.mp hq with rfl|hq
   ·exact .inr ⟨q,by simp,rfl⟩
   ·rcases zrd q hq with h|⟨b,c,d⟩
    ·exact .inl h
    ·exact .inr ⟨b,xbf _ c,d⟩
theorem LvTo.snoc{L:Nat}{m:List (List Int)}{r:List Int}(a:LvTo au L lv m s b)(h:LvAt s2 L (flipLv s.length r b))(k:∀i,i<s.length->i≠L->(∀q∈b,q.2.1≠i)->s2[i]?=s[i]?)(l:s.length<=s2.length):
  LvTo au L lv (m++[r]) s2 (flipLv s.length r b):=by
 refine⟨h,?_,λi t n e=>?_,xbc a.len l,λq e=>?_⟩
 ·rw[zli,a.eq];unfold foldR;rw[xeq];rfl
 ·have u:=a.len;rw[k i (by lia) n λq j=>?_,a.keep i t n e];rcases a.ix q j with c|⟨g,c,d⟩
  ·lia
  ·rw[←d];exact e g c
 ·rcases zrd q e with c|⟨g,c,d⟩
  ·exact .inl (by rw[c];exact a.len)
  ·rcases a.ix g c with f|⟨p,f,o⟩
   ·exact .inl (by rw[←d];exact f)
   ·exact .inr ⟨p,f,o.trans d⟩
theorem zbda(h:LvG (lvR a)):a.length<=113/\∀q∈a,q.2.2.length<=15000:=by
 refine⟨by have:=h.few.1;unfold lvR at this;rwa [xbb] at this,λq b=>h.few.2 (q.1,q.2.2) (xbq.mpr ⟨q,b,rfl⟩)⟩
theorem zblc(h:RowOk r 16 6):r.length<=1000/\∀x∈r,-10000<=x/\x<=10000:=⟨by have:=h.len;lia,λx a=>by have:=zbfc h x a;lia⟩
theorem zbns{L:Nat}{e:List (List Int)}(h:LvAt au L lv)(m:LvG (lvR lv))(g:∀r∈e,RowOk r 16 6)
  (k:∀s a d,LvTo au L lv e s a->LvG (lvR a)->Q (.nx [S0,some (.ref L),S2,S3,S4,S5,d]) s):WP (forF (gN 6) zpu (aJ e) [S0,some (.ref L),S2,S3,S4,S5,v6] au) Q:=by
 refine zcb (λi σ s=>∃a d,σ=[S0,some (.ref L),S2,S3,S4,S5,d]/\LvTo au L lv (e.take i) s a/\LvG (lvR a)) ⟨lv,v6,rfl,.refl h,m⟩ ?_ ?_
 ·rintro i x σ s n ⟨a,d,rfl,t,c⟩;obtain⟨r,f,rfl⟩:=zx n;have v:=(xbd.mp f).1;have b:=zblc (g r (xbo f));have z:=zbda c;have l:=g r (xbo f);refine⟨[S0,some (.ref L),S2,S3,S4,S5,some (aL r)],rfl,?_⟩;unfold zpu;simp only[W,V,M];refine zhb t.at_ b.1 b.2 (by lia) (λq u=>by have:=z.2 q u;lia) λw j p o=>?_
  simp only[W,V,Dd.L];refine⟨flipLv s.length r a,_,rfl,?_,?_⟩
  ·rw[ze f];exact t.snoc j p o
  ·rw[zli];exact c.flip l
 ·rintro σ s ⟨a,d,rfl,t,c⟩;rw[zc] at t;rw[xbu] at t;exact k s a d t c
theorem zbhk{L:Nat}{e:List (List Int)}(h:LvAt au L lv)(m:LvG (lvR lv))(g:∀r∈e,RowOk r 16 6)
  (k:∀s a d,LvTo au L lv e s a->LvG (lvR a)->Q (.nx [S0,some (.ref L),d,S3,S4,S5,S6]) s):WP (forF (gN 2) zma (aJ e) [S0,some (.ref L),v2,S3,S4,S5,S6] au) Q:=by
 refine zcb (λi σ s=>∃a d,σ=[S0,some (.ref L),d,S3,S4,S5,S6]/\LvTo au L lv (e.take i) s a/\LvG (lvR a)) ⟨lv,v2,rfl,.refl h,m⟩ ?_ ?_
 ·rintro i x σ s n ⟨a,d,rfl,t,c⟩;obtain⟨r,f,rfl⟩:=zx n;have v:=(xbd.mp f).1;have b:=zblc (g r (xbo f));have z:=zbda c;have l:=g r (xbo f);refine⟨[S0,some (.ref L),some (aL r),S3,S4,S5,S6],rfl,?_⟩;unfold zma;simp only[W,V,M];refine zhb t.at_ b.1 b.2 (by lia) (λq u=>by have:=z.2 q u;lia) λw j p o=>?_
  simp only[W,V,Dd.L];refine⟨flipLv s.length r a,_,rfl,?_,?_⟩
  ·rw[ze f];exact t.snoc j p o
  ·rw[zli];exact c.flip l
 ·rintro σ s ⟨a,d,rfl,t,c⟩;rw[zc] at t;rw[xbu] at t;exact k s a d t c
def stpD(q:List (List Int×Nat)):List D:=q.map λz=>.tup [aL z.1,.int z.2]
def rowW(a:Lr×List (List Int×Nat)) (r:List Int):Lr×List (List Int×Nat):=match placesL r with
 |[]=>a
 |p::_=>(foldR (exRow r p) a.1,a.2++[(r,p)])
structure Wy (s0:Store) (b:Nat) (L M:Nat) (s:Store) (lv:Lv) (q:List (List Int×Nat)):Prop where
 at_:LvAt s L lv
 stp:s[M]?=some (.lst (stpD q))
 ne:M≠L
 ni:∀x∈lv,x.2.1≠M
 bL:b<=L
 bM:b<=M
 bI:∀x∈lv,b<=x.2.1
 low:∀i,i<b->s[i]?=s0[i]?
 bs:b<=s.length
theorem LvAt.more{L:Nat}(h:LvAt s L lv)(g:Store):LvAt (s++g) L lv:=
 ⟨by rw[xby (zi h.at_)];exact h.at_,λq a=>by rw[xby (zi (h.in_ q a))];exact h.in_ q a,h.nd,h.ix,h.rows⟩
theorem Wy.more{b L M:Nat}(h:Wy s0 b L M s lv q)(g:Store):Wy s0 b L M (s++g) lv q:=
 ⟨h.at_.more g,by rw[xby (zi h.stp)];exact h.stp,h.ne,h.ni,h.bL,h.bM,h.bI,λi a=>by rw[xby (xbm a h.bs)];exact h.low i a,by rw[xbk];have:=h.bs;lia⟩
theorem Wy.put{b L M:Nat}(h:Wy s0 b L M s lv q):Wy s0 b L M (s.set M (.lst (stpD q++[.tup [aL z.1,.int z.2]]))) lv (q++[z]):=by
 refine⟨⟨?_,λx a=>?_,h.at_.nd,h.at_.ix,h.at_.rows⟩,?_,h.ne,h.ni,h.bL,h.bM,h.bI,λi c=>?_,by rw[xdr];exact h.bs⟩
 ·rw[xbx h.ne];exact h.at_.at_
 ·rw[xbx (h.ni x a).symm];exact h.at_.in_ x a
 ·rw[zde (zi h.stp)];unfold stpD;rw[xdi];rfl
 ·have:=h.bM;rw[xbx (by lia)];exact h.low i c
theorem Wy.to{b L M:Nat}{e:List (List Int)}(h:Wy s0 b L M s lv q)(t:LvTo s L lv e s2 lv'):Wy s0 b L M s2 lv' q:=by
 have g:=zi h.stp;refine⟨t.at_,?_,h.ne,λx c=>?_,h.bL,h.bM,λx c=>?_,λi f=>?_,xbc h.bs t.len⟩
 ·rw[t.keep M g h.ne h.ni];exact h.stp
 ·rcases t.ix x c with a|⟨y,a,d⟩
  ·lia
  ·rw[←d];exact h.ni y a
 ·rcases t.ix x c with a|⟨y,a,d⟩
  ·exact xbc h.bs a
  ·rw[←d];exact h.bI y a
 ·have a:=h.bs;have d:=h.bL;rw[t.keep i (by lia) (by lia) λx c=>by have:=h.bI x c;lia];exact h.low i f
theorem zbgq{b L M:Nat}{n:List (List Int)}(h:Wy s0 b L M au lv q)(sm:LvG (lvR lv))(hq:q.length+n.length<=10000000)(X:∀r∈n,RowOk r 16 6)
  (k:∀s c d u m o,Wy s0 b L M s c d->(lvR c,d)=n.foldl rowW (lvR lv,q)->LvG (lvR c)->d.length<=q.length+n.length->Q (.nx [S0,some (.ref L),u,some (.ref M),S4,m,o]) s):
  WP (forF (gN 2) zpt (aJ n) [S0,some (.ref L),v2,some (.ref M),S4,v5,v6] au) Q:=by
 refine zcb (λi σ s=>∃c d u m o,σ=[S0,some (.ref L),u,some (.ref M),S4,m,o]/\Wy s0 b L M s c d/\(lvR c,d)=(n.take i).foldl rowW (lvR lv,q)/\LvG (lvR c)/\d.length<=q.length+i) ⟨lv,q,v2,v5,v6,rfl,h,rfl,sm,xbj _⟩ ?_ ?_
 ·rintro i x σ s hx ⟨c,d,u,m,o,rfl,t,w,f,H⟩;obtain⟨r,y,rfl⟩:=zx hx;have hi:=(xbd.mp y).1;have l:=X r (xbo y);have rl:=l.len;refine⟨[S0,some (.ref L),some (aL r),some (.ref M),S4,m,o],rfl,?_⟩;have U:(n.take (i+1)).foldl rowW (lvR lv,q)=rowW (lvR c,d) r:=by rw[ze y,xeq,←w];rfl
  unfold zpt;simp only[W,V,Dd.M];refine WP.of (zzj (by lia)) ?_
  try simp only[W,V,Dd.M]
  cases hp:placesL r with
  |nil=>
   refine⟨false,rfl,?_⟩;rw[if_neg (by decide)];refine⟨c,d,_,_,_,rfl,t,?_,f,by lia⟩;rw[U];unfold rowW;rw[hp]
  |cons p ps=>
   refine⟨true,rfl,?_⟩;rw[if_pos rfl];have G:slowAt r p:=ziq.mp (by rw[hp];simp);have A:=zbcb l G;have E:p+1<r.length:=by obtain⟨a,b,_,z,_⟩:=G;exact(xbd.mp z).1
   have a0:=ziw r p;have P:∀s:Store,oIx (.lst (plD (p::ps))) (.int 0) s=.ok (.int p) s:=λs=>zjq rfl (zpo (j:=0) rfl)
   refine⟨_,_,rfl,t.stp,WP.of (P s) ⟨small _ (by simp),_,_,rfl,t.stp,by unfold stpD;rw[xbb,xij];lia,WP.of (P _) ?_⟩⟩;have I:=t.put (z:=(r,p));obtain⟨g,e⟩:=zfe (au:=s.set M (.lst (stpD d++[.tup [aL r,.int p]]))) (r:=r) (p:=p) E (by lia) A.1.1 (by lia) (by lia) (by lia);refine WP.of e ⟨_,rfl,?_⟩;have v:=I.more g;refine zbns v.at_ f (zlr l G) λs2 C Y S J=>?_
   refine⟨C,d++[(r,p)],_,_,_,rfl,v.to S,?_,J,by rw[xbk,xgu];lia⟩;rw[U];unfold rowW;rw[hp]
   show _=(foldR (exRow r p) (lvR c),d++[(r,p)])
   rw[S.eq]
 ·rintro σ s ⟨c,d,u,m,o,rfl,t,w,f,H⟩;rw[zc] at w H;rw[xbu] at w;exact k s c d u m o t w f H
def topL(a:Lr):Int:=match a.map (·.1) with
 |[]=>0
 |k::ks=>bestI true k ks
def lessR(a:Lr) (m:Int):Lr:=a.filter λq=>decide (q.1≠m)
def lessV(a:Lv) (m:Int):Lv:=a.filter λq=>decide (q.1≠m)
theorem zbnu:lvR (lessV lv m)=lessR (lvR lv) m:=by
 unfold lvR lessV lessR;rw[xje];rfl
theorem zbnv:dropI (lvD lv) m=lvD (lessV lv m):=by
 unfold dropI lvD lessV;rw[xje];rfl
theorem Wy.less{b L M:Nat}{m:Int}(h:Wy s0 b L M s lv q):Wy s0 b L M (s.set L (.dI (lvD (lessV lv m)))) (lessV lv m) q:=by
 have sub:∀x∈lessV lv m,x∈lv:=λx a=>(xcn.mp a).1
 have c:∀x∈lv,x.2.1≠L:=λx a z=>by have:=h.at_.in_ x a;rw[z,h.at_.at_] at this;cases this
 refine⟨⟨zde (zi h.at_.at_),λx a=>?_,?_,?_,λx a=>h.at_.rows x (sub x a)⟩,?_,h.ne,λx a=>h.ni x (sub x a),h.bL,h.bM,λx a=>h.bI x (sub x a),λi d=>?_,by rw[xdr];exact h.bs⟩
 ·rw[xbx (c x (sub x a)).symm];exact h.at_.in_ x (sub x a)
 ·exact h.at_.nd.sublist (xir.map _)
 ·exact h.at_.ix.sublist (xir.map _)
 ·rw[xbx h.ne.symm];exact h.stp
 ·have:=h.bL;rw[xbx (by lia)];exact h.low i d
structure Iv (k0:List (List Int)) (m:Int) (lr:Lr) (rs:List (List Int)) (q:List (List Int×Nat)):Prop where
 wk:Wkd k0 q
 g:LvG lr
 lt:∀x∈lr,x.1<m
 low:∀x,momR 1 x<m->(x∈Wke k0 q↔inM lr x)
 rs_:∀x∈rs,momR 1 x=m/\x∈Wke k0 q
 rn:rs.Nodup
 high:∀x∈Wke k0 q,m<=momR 1 x->x∈rs\/Stp x
theorem zbbm(G:LvG lr)(a:RowOk r 16 6)(c:momR 1 r<m)(h:∀x,momR 1 x<m->(x∈ks↔inM lr x)):∀x,momR 1 x<m->(x∈aP ks r↔inM (flipR r lr) x):=λx b=>by
 rw[zbt,zbhh G a,h x b,h r c]
theorem zjf:∀{ms:List (List Int)}{lr:Lr}{ks:List (List Int)},LvG lr->(∀r∈ms,RowOk r 16 6/\momR 1 r<m)->(∀x,momR 1 x<m->(x∈ks↔inM lr x))->LvG (foldR ms lr)/\∀x,momR 1 x<m->(x∈ms.foldl aP ks↔inM (foldR ms lr) x)
 |[],lr,ks,G,_,h=>⟨G,h⟩
 |r::ms,lr,ks,G,hm,h=>zjf (ms:=ms) (G.flip (hm r (by simp)).1) (λx a=>hm x (xbf _ a)) (zbbm G (hm r (by simp)).1 (hm r (by simp)).2 h)
theorem zrc:∀{ms a:List (List Int)},(∀r∈ms,x≠r)->(x∈ms.foldl aP a↔x∈a)
 |[],a,_=>Iff.rfl
 |r::ms,a,h=>by
  rw[xgp,zrc (ms:=ms) λy b=>h y (xbf _ b),zbt];have:=h r (by simp);simp[this]
theorem zpb:∀{ms:List (List Int)}{a:Lr},(∀r∈ms,momR 1 r<m)->(∀x∈a,x.1<m)->∀x∈foldR ms a,x.1<m
 |[],a,_,h=>h
 |r::ms,a,hm,h=>zpb (ms:=ms) (λx c=>hm x (xbf _ c)) λx c=>by
  rcases zdj x c with b|⟨b,_⟩
  ·exact h x b
  ·rw[b];exact hm r (by simp)
theorem Iv.row(K:RwsOk k0)(h:Iv k0 m lr (r::rs) q):Iv k0 m (rowW (lr,q) r).1 rs (rowW (lr,q) r).2:=by
 obtain⟨o,_⟩:=K.walk h.wk;have c:=h.rs_ r (by simp);have l:=xdf.mp h.rn;unfold rowW;cases hp:placesL r with
 |nil=>
  refine⟨h.wk,h.g,h.lt,h.low,λx a=>h.rs_ x (xbf _ a),l.2,λx a i=>?_⟩;rcases h.high x a i with z|z
  ·rcases xbl.mp z with rfl|z
   ·exact .inr (zbrl hp)
   ·exact .inl z
  ·exact .inr z
 |cons p ps=>
  have k:slowAt r p:=ziq.mp (by rw[hp];simp);have d:=o.row r c.2;have j:∀z∈exRow r p,RowOk z 16 6/\momR 1 z<m:=λz g=>⟨zlr d k z g,by rw[←c.1];exact zbgk d.pos k g⟩
  have v:∀x,momR 1 x<m->(x∈aP (Wke k0 q) r↔inM lr x):=λx a=>by
   rw[zbt,←h.low x a];have:x≠r:=λe=>by rw[e,c.1] at a;lia
   simp[this]
  obtain⟨s,u⟩:=zjf h.g j v;have f:∀x,m<=momR 1 x->(x∈stepK (Wke k0 q) (r,p)↔x∈Wke k0 q/\x≠r):=λx a=>by
   show x∈(exRow r p).foldl aP (aP (Wke k0 q) r)↔_;rw[zrc λy t e=>by have:=(j y t).2;rw[←e] at this;lia,zbt];have:=c.2;constructor
   ·rintro(z|⟨rfl,z⟩)
    ·exact z
    ·exact absurd this z
   ·exact λz=>.inl z
  refine⟨h.wk.snoc c.2 k,s,zpb (λz g=>(j z g).2) h.lt,λx a=>?_,λx a=>?_,l.2,λx a i=>?_⟩
  ·rw[Wke.snoc];exact u x a
  ·have b:=h.rs_ x (xbf _ a);rw[Wke.snoc];refine⟨b.1,(f x (by rw[b.1];exact xoc _)).mpr ⟨b.2,λe=>?_⟩⟩;subst e;exact l.1 a
  ·rw[Wke.snoc] at a;obtain⟨a,n⟩:=(f x i).mp a;rcases h.high x a i with z|z
   ·rcases xbl.mp z with e|z
    ·exact absurd e n
    ·exact .inl z
   ·exact .inr z
theorem Iv.rows(K:RwsOk k0):∀{rs:List (List Int)}{a:Lr}{q:List (List Int×Nat)},Iv k0 m a rs q->Iv k0 m (rs.foldl rowW (a,q)).1 [] (rs.foldl rowW (a,q)).2
 |[],a,q,h=>h
 |r::rs,a,q,h=>Iv.rows (rs:=rs) K (h.row K)
theorem zbkq:∀{b:Lr},b≠[]->(∃l,(topL b,l)∈b)/\∀x∈b,x.1<=topL b
 |[],h=>absurd rfl h
 |a::b,_=>by
  obtain⟨c,d⟩:=zpl (b.map (·.1)) a.1;have e:topL (a::b)=bestI true a.1 (b.map (·.1)):=rfl;rw[e];refine⟨?_,λx g=>d _ (by rw[←xbr (f:=λq:Int×List (List Int)=>q.1)];exact xbq.mpr ⟨x,g,rfl⟩)⟩;rw[←xbr (f:=λq:Int×List (List Int)=>q.1)] at c;obtain⟨q,i,e⟩:=xbq.mp c;exact⟨q.2,by rw[←e];exact i⟩
theorem Iv.next(h:Iv k0 m lr [] q)(d:(topL lr,l)∈lr):Iv k0 (topL lr) (lessR lr (topL lr)) (sortR l) q:=by
 have i:lr≠[]:=λe=>by rw[e] at d;cases d
 have top:=(zbkq i).2;have n:topL lr<m:=h.lt _ d;have sub:∀x∈lessR lr (topL lr),x∈lr/\x.1≠topL lr:=λx a=>by
  obtain⟨f,g⟩:=xcn.mp a;exact⟨f,xde g⟩
 have j:∀x∈lr,x.1=topL lr->x.2=l:=λx a e=>by
  have:=zvq h.g.nd a d e;rw[this]
 refine⟨h.wk,⟨h.g.nd.sublist (xir.map _),λx a=>h.g.row x (sub x a).1,λx a=>h.g.key x (sub x a).1,λx a=>h.g.rnd x (sub x a).1⟩,λx a=>?_,λx a=>?_,λx a=>?_,?_,λx a p=>?_⟩
 ·have f:=sub x a;have g:=top x f.1;have o:=f.2;lia
 ·rw[h.low x (by lia)];constructor
  ·rintro⟨y,c,b⟩;refine⟨y,xcn.mpr ⟨c,xbw λe=>?_⟩,b⟩;have:=(h.g.row y c x b).2;lia
  ·rintro⟨y,c,b⟩;exact⟨y,(sub y c).1,b⟩
 ·have a:=(zr l).mem_iff.mp a;have e:=(h.g.row _ d x a).2;have e:momR 1 x=topL lr:=e;exact⟨e,(h.low x (by lia)).mpr ⟨_,d,a⟩⟩
 ·exact(zr l).nodup_iff.mpr (h.g.rnd _ d)
 ·rcases Int.lt_or_le (momR 1 x) m with z|z
  ·obtain⟨y,c,b⟩:=(h.low x z).mp a;have e:=(h.g.row y c x b).2;have k:=top y c;exact .inl ((zr l).mem_iff.mpr (by rw[←j y c (by lia)];exact b))
  ·rcases h.high x a z with z|z
   ·cases z
   ·exact .inr z
theorem Iv.end_(h:Iv c m [] [] q):∀x∈Wke c q,Stp x:=λx a=>by
 rcases Int.lt_or_le (momR 1 x) m with z|z
 ·obtain⟨y,b,_⟩:=(h.low x z).mp a;cases b
 ·rcases h.high x a z with z|z
  ·cases z
  ·exact z
theorem Iv.start(K:RwsOk k0):Iv k0 113 (foldR k0 []) [] []:=by
 have d:∀r∈k0,RowOk r 16 6/\momR 1 r<113:=λr f=>⟨K.row r f,by have:=zbnk (K.row r f);lia⟩
 obtain⟨g,h⟩:=zjf (m:=113) (ms:=k0) (lr:=[]) (ks:=[]) ⟨by simp,λq b=>(by cases b),λq b=>(by cases b),λq b=>(by cases b)⟩ d λx _=>by unfold inM;simp
 have e:∀x,x∈k0.foldl aP []↔x∈k0:=λx=>by
  have:=(zjz k0 [] xgg).2.2 x;rw[this,xnt K.nd];by_cases c:x∈k0<;>simp[c]
 refine⟨trivial,g,zpb (λz i=>(d z i).2) (λx a=>(by cases a)),λx a=>?_,λx a=>(by cases a),xgg,λx a j=>?_⟩
 ·rw[←h x a,e];rfl
 ·have:=(d x a).2;lia
theorem zbkn{L:Nat}(a:f σ au=.ok (.ref L) au)(h:au[L]?=some (.dI kvs)):bTruI f σ au=.ok (!kvs.isEmpty) au:=by
 unfold bTruI;rw[a,zbb];dsimp only;rw[h]
theorem zbnr{L:Nat}(h:au[L]?=some (.dI (lvD lv)))(b:lv≠[]):bMaxI [.ref L] au=.ok (.int (topL (lvR lv))) au:=by
 unfold bMaxI;dsimp only;rw[h];cases lv with
 |nil=>exact absurd rfl b
 |cons a lv=>
  show Res.ok (D.int (bestI true a.1 ((lvD lv).map (·.1)))) au=.ok (D.int (bestI true a.1 ((lvR lv).map (·.1)))) au
  congr 3
  unfold lvD lvR;rw[xcw,xcw];rfl
theorem zblv{L:Nat}{k:Int}(b:f σ au=.ok (.ref L) au)(h:au[L]?=some (.dI kvs))(a:g σ au=.ok [.int k] au)(c:valI kvs k=some v):ePopI f g σ au=.ok v (au.set L (.dI (dropI kvs k))):=by
 unfold ePopI;rw[b,zbb];dsimp only
 rw[h];dsimp only
 rw[a,zbb];try dsimp only
 rw[h];try dsimp only
 rw[c]
theorem zqc{au:Store}(h:∀i,i<au.length->s[i]?=au[i]?)(a:au.length<=s.length):s=au++s.drop au.length:=by
 refine xie λi=>?_
 rcases xim i au.length with z|z
 ·rw[h i z,xby z]
 ·rw[xdm z,xfo];congr 1;lia
structure Way (ks:List (List Int)) (q:List (List Int×Nat)):Prop where
 wk:Wkd ks q
 fin:∀x∈Wke ks q,Stp x
 len:q.length<=2000000
theorem zbel{c:Store}{f:List (List Int)}{T:SS}(K:RwsOk f)(k:∀q M s h p u w,Way f q->s[M]?=some (.lst (stpD q))->c.length<=M->(∀i,i<c.length->s[i]?=c[i]?)->WP (T [some (aK f),some (.ref c.length),h,some (.ref M),p,u,w] s) QQ):
  WP (aD (aF 1 eDNewI) (aD (sFor (aH (aA 0)) (gN 2) zma) (aD (aF 3 (eLstM aC)) (aD (sWhile (bTruI (aA 1)) zps) T))) [some (aK f),none,none,none,none,none,none] c) QQ:=by
 simp only[W,V];refine WP.of (show eDNewI _ c=.ok (.ref c.length) (c++[.dI []]) from rfl) ?_
 try simp only[W,V]
 refine⟨_,rfl,?_⟩;have a0:LvAt (c++[O.dI []]) c.length []:=⟨by simp;rfl,λq e=>(by cases e),by simp,by simp,λq e=>(by cases e)⟩
 refine zbhk (lv:=[]) a0 ⟨by simp[lvR],λq e=>(by cases e),λq e=>(by cases e),λq e=>(by cases e)⟩ K.row λs b h t G=>?_
 simp only[W,V];refine⟨small _ (by simp),?_⟩;have E:=t.len;rw[xbk,xgu] at E;have P:∀x∈b,c.length+1<=x.2.1:=λx H=>by
  rcases t.ix x H with z|⟨y,v,_⟩
  ·rw[xbk,xgu] at z;exact z
  ·cases v
 have d:Wy c c.length c.length s.length (s++[.lst []]) b []:=by
  refine⟨t.at_.more _,by simp;rfl,by lia,λx H=>xch (zi (t.at_.in_ x H)),xbj _,by lia,λx H=>by have:=P x H;lia,λi hi=>?_,by rw[xbk];lia⟩;rw[xby (by lia),t.keep i (by rw[xbk];lia) (by lia) λq e=>(by cases e),xby hi]
 have g:Iv f (113:Nat) (lvR b) [] []:=by
  rw[t.eq];exact Iv.start K
 generalize s.length=M at d;refine ztm (λj σ s=>∃b q h p u w,σ=[some (aK f),some (.ref c.length),h,some (.ref M),p,u,w]/\Wy c c.length c.length M s b q/\Iv f (j:Int) (lvR b) [] q/\q.length+15000*j<=15000*113) (k:=113) ⟨b,[],_,_,_,_,rfl,d,g,by simp⟩ (by lia) ?_;rintro j σ s ⟨b,q,h,p,u,w,rfl,d,g,ql⟩;refine WP.of (zbkn rfl d.at_.at_) ?_;cases b with
 |nil=>
  rw[if_neg (by simp[lvD])];simp only[W];exact k q M s _ _ _ _ ⟨g.wk,g.end_,by lia⟩ d.stp d.bM d.low
 |cons a lv0=>
  rw[if_pos (by simp[lvD])];generalize hlv:a::lv0=b at *
  have X:b≠[]:=by rw[←hlv];simp
  have A:lvR b≠[]:=by rw[←hlv];simp[lvR]
  clear hlv a lv0;obtain⟨⟨l,o⟩,_⟩:=zbkq A;obtain⟨y,v,ey⟩:=xbq.mp (show(topL (lvR b),l)∈b.map λq=>(q.1,q.2.2) from o);have Y:y.1=topL (lvR b):=congrArg Prod.fst ey;have e2:y.2.2=l:=congrArg Prod.snd ey;have ev:valI (lvD b) (topL (lvR b))=some (.ref y.2.1):=by
   rw[ztt];cases hf:b.find? λq=>decide (q.1=topL (lvR b)) with
   |none=>exact absurd Y (by simpa using xmv.mp hf y v)
   |some z=>
    have h1:z.1=topL (lvR b):=by simpa using xnx hf
    rw[zvq d.at_.nd (xkf hf) v (h1.trans Y.symm)];rfl
  have eg:aB (aE bMaxI (aB (aA 1) aC)) aC [some (aK f),some (.ref c.length),h,some (.ref M),p,u,w] s=.ok [.int (topL (lvR b))] s:=by
   rw[zjh,show aE bMaxI (aB (aA 1) aC) [some (aK f),some (.ref c.length),h,some (.ref M),p,u,w] s=_ from zbnr d.at_.at_ X]
   rfl
  unfold zps;simp only[W,V];refine WP.of (zblv rfl d.at_.at_ eg ev) ?_;rw[zbnv]
  try simp only[W,V]
  have U:y.2.1≠c.length:=λz=>by have:=d.at_.in_ y v;rw[z,d.at_.at_] at this;cases this
  have Q:(s.set c.length (.dI (lvD (lessV b (topL (lvR b))))))[y.2.1]?=some (.dT (aQ l)):=by
   rw[xbx U.symm,←e2];exact d.at_.in_ y v
  have fl:=g.g.few.2 _ o;have fl:l.length<=15000:=fl;refine WP.of (zge Q (by lia)) ⟨_,rfl,?_⟩;have n:=g.next o;have S:=d.less (m:=topL (lvR b));rw[←zbnu] at n;have sl:(sortR l).length=l.length:=zdp l;have tj:topL (lvR b)<j:=g.lt _ o;have t0:0<=topL (lvR b):=(g.g.key _ o).1;refine zbgq S n.g (by lia) (λr hr=>(g.g.row _ o r ((zr l).mem_iff.mp hr)).1) λs3 J q3 x2 x5 x6 I ee g3 a1=>?_
  refine⟨(topL (lvR b)).toNat,by lia,J,q3,_,_,_,_,rfl,I,?_,by lia⟩;have C:=n.rows K;rw[←ee] at C;rw[Int.toNat_of_nonneg t0];exact C
theorem zbre(K:RwsOk ks)(k:∀q g,Way ks q->Q (.lst (stpD q)) (au++g)):WP (zbrc [aK ks] au) Q:=by
 refine zju rfl ?_;refine zbel K λq M s h l d f w b j a=>?_
 simp only[W,V,Dd.M];refine⟨_,_,rfl,b,?_⟩;have e:=zqc (s:=s.set M .dead) (au:=au) (λi c=>by rw[xbx (by lia)];exact a i c) (by rw[xdr];have:=zi b;lia);rw[e];exact k q _ w
theorem ztp(K:RwsOk ks)(w:Wkd ks q)(k:∀g,Q (aK (sortR (Wke ks q))) (au++g)):WP (zht [aK ks,.lst (stpD q)] au) Q:=by
 refine zju rfl ?_;simp only[W,V];refine WP.of (zoi K.nd (by have:=K.few;lia)) ?_
 try simp only[W,V]
 refine⟨_,rfl,?_⟩;refine zcb (λi σ s=>∃h f g,σ=[some (aK ks),some (.lst (stpD q)),some (.ref au.length),h,f]/\s=au++.dT (aQ (Wke ks (q.take i)))::g/\RwsOk (Wke ks (q.take i))/\Wkd (Wke ks (q.take i)) (q.drop i)) ⟨_,_,[],rfl,rfl,K,w⟩ ?_ ?_
 ·rintro i x σ s j ⟨h,f,g,rfl,rfl,a,d⟩;unfold stpD at j;rw[xcl] at j;obtain⟨z,c,rfl⟩:=xdc.mp j;have u:=(xbd.mp c).1;have v:q.drop i=z::q.drop (i+1):=by
   rw[xdh u];congr 1;exact(xbd.mp c).2
  have o:q.take (i+1)=q.take i++[z]:=ze c;rw[v] at d;obtain⟨m,l,y⟩:=d;have b:=a.row _ m;have r:=zbcb b l;refine⟨[some (aK ks),some (.lst (stpD q)),some (.ref au.length),some (aL z.1),some (.int z.2)],rfl,?_⟩;unfold zhe;simp only[W,V];obtain⟨t,e⟩:=zlq (au:=au++.dT (aQ (Wke ks (q.take i)))::g) (n:=au.length) (p:=z.2) (by simp) a.nd (by have:=a.few;lia) m (by have:=b.len;lia) l r.1.1 (by lia) (by lia) (by lia);refine WP.of e ?_;simp only[L];refine⟨_,_,g++t,rfl,?_,?_,?_⟩
  ·rw[o,Wke.snoc];unfold stepK;simp
  ·rw[o,Wke.snoc];exact(a.step m l).1
  ·rw[o,Wke.snoc];exact y
 ·rintro σ s ⟨h,f,g,rfl,rfl,a,d⟩;rw[show(stpD q).length=q.length from xbb ..,xbu] at *
  simp only[W,V];refine WP.of (zge (n:=au.length) (ks:=Wke ks q) (by simp) (by have:=a.few;lia)) ?_;exact WP.of (show bTuple [.lst (aJ (sortR (Wke ks q)))] _=.ok (aK (sortR (Wke ks q))) _ from rfl) (k _)
theorem zuh(K:RwsOk ks)(k:∀g,Q (aK (stl (nuS ks))) (au++g)):WP (zhu [aK ks] au) Q:=by
 refine zju rfl ?_;simp only[W,V];refine zbre K λq g w=>?_
 refine ztp K w.wk λa=>?_
 rw[zben K w.wk w.fin,xcm];exact k _
structure Two (au:Store) (A B:Nat) (xs ys:List D) (s:Store):Prop where
 a:s[A]?=some (.lst xs)
 b:s[B]?=some (.lst ys)
 ne:A≠B
 bA:au.length<=A
 bB:au.length<=B
 low:∀i,i<au.length->s[i]?=au[i]?
theorem Two.putB{A B:Nat}(h:Two au A B xs ys s):Two au A B xs zs (s.set B (.lst zs)):=by
 refine⟨by rw[xbx h.ne.symm];exact h.a,zde (zi h.b),h.ne,h.bA,h.bB,λi a=>?_⟩;rw[xbx (by have:=h.bB;lia)];exact h.low i a
theorem zbxi:WP (aB f aC σ au) Q=WP (f σ au) (λx s=>Q [x] s):=by simp only[W]
noncomputable def ptT:List (List (List Int)):=[[[]],[[1]],[[2]],[[2,1]],[[3,1],[4]],[[4,1]],[[4,2]],[[4,2,1]],[[5,2,1],[6,2],[7,1],[8]],[[6,2,1],[8,1]],[[6,3,1],[7,3],[8,2]],[[7,3,1],[8,2,1]],[[8,3,1],[8,4]],[[8,4,1]],[[8,4,2]],[[8,4,2,1]],[[9,4,2,1],[10,4,2],[11,4,1],[12,3,1],[12,4],[13,2,1],[14,2],[15,1],[16]]]
def ptR(k:Nat):List (List Int):=(List.range k).flatMap λi=>(ptT.getD (k-1-i) []).map λr=>((i+1:Nat):Int)::r
noncomputable def rowQ(r:List Int):Bool:=(r.all λx=>decide (1<=x))&&decide (r.sum<=16)&&Nat.ble r.length 6
theorem zbse:((List.range 16).all λk=>decide (stl (nuS (ptR (k+1)))=ptT.getD (k+1) [])&&(ptR (k+1)).all rowQ&&decide (ptR (k+1)).Nodup&&Nat.ble (ptR (k+1)).length 1000)=true:=by decide +kernel
theorem zbcj:ptT.length=17/\(ptT.all λl=>Nat.ble l.length 100&&l.all λr=>Nat.ble r.length 6)=true:=by decide +kernel
theorem zble(h:rowQ r=true):RowOk r 16 6:=by
 unfold rowQ at h;rw[xcy,xcy] at h;exact⟨λx a=>xde (xca.mp h.1.1 x a),xde h.1.2,xfk h.2⟩
structure Ptk (k:Nat):Prop where
 eq:stl (nuS (ptR k))=ptT.getD k []
 ok:RwsOk (ptR k)
 len:(ptR k).length<=1000
theorem zbwq(h:1<=k)(f:k<=16):Ptk k:=by
 have:=xca.mp zbse (k-1) (xbn.mpr (by lia));rw[show k-1+1=k by lia,xcy,xcy,xcy] at this;obtain⟨⟨⟨a,b⟩,c⟩,d⟩:=this;exact⟨xde a,⟨xde c,λr e=>zble (xca.mp b r e)⟩,xfk d⟩
theorem zva(h:k<=16):ptT[k]?=some (ptT.getD k []):=by
 rw[xbi,xbe (by rw[zbcj.1];lia)];rfl
theorem zblm(h:k<=16):(ptT.getD k []).length<=100/\∀r∈ptT.getD k [],r.length<=6:=by
 have:=xca.mp zbcj.2 _ (xbo (zva h));rw[xcy] at this;exact⟨xfk this.1,λr a=>xfk (xca.mp this.2 r a)⟩
theorem zblj(l:1<=k)(e:k<=16)(t:Two au A B ((ptT.take k).map aK) [] s)
  (q:∀d a,Two au A B ((ptT.take k).map aK) (aJ (ptR k)) d->QQ (.nx [a0,some (.ref A),some (.int k),some (.ref B),a]) d):
  WP (forF (gN 4) zbm (rng 1 k) [a0,some (.ref A),some (.int k),some (.ref B),v4] s) QQ:=by
 have P:=zbwq l e;have b:∀i,i<=k->(((List.range i).flatMap λi=>(ptT.getD (k-1-i) []).map λr=>((i+1:Nat):Int)::r)).length<=1000:=λi g=>by
  refine xbc ?_ P.len;unfold ptR;rw[show k=i+(k-i) by lia,List.range_add,xis,xbk,show i+(k-i)=k by lia];lia
 refine zcb (λi σ s=>∃a,σ=[a0,some (.ref A),some (.int k),some (.ref B),a]/\Two au A B ((ptT.take k).map aK) (aJ ((List.range i).flatMap λi=>(ptT.getD (k-1-i) []).map λr=>((i+1:Nat):Int)::r)) s) ⟨_,rfl,t⟩ ?_ ?_
 ·rintro i x σ s j ⟨a,rfl,t⟩;obtain⟨g,rfl⟩:=zif j;refine⟨[a0,some (.ref A),some (.int k),some (.ref B),some (.int (1+i))],rfl,?_⟩;unfold zbm;have h:oIx (.ref A) (.int ((k:Int)-(1+i))) s=.ok (aK (ptT.getD (k-1-i) [])) s:=by
   rw[show(k:Int)-(1+i)=((k-1-i:Nat):Int) by lia];refine zjq (xs:=(ptT.take k).map aK) (zhm t.a) (zpo ?_);rw[xcl,xkk (by lia),zva (by lia)];rfl
  have c:=zblm (k:=k-1-i) (by lia);have m:=b i (by lia);simp only[W,V];rw[zfp];refine WP.of (show aA 3 [a0,some (.ref A),some (.int k),some (.ref B),some (.int (1+i))] s=.ok (.ref B) s from rfl) ⟨_,_,rfl,t.b,?_⟩;rw[zbxi];simp only[W,V];refine⟨trivial,WP.of h ⟨_,rfl,by rw[zc];exact small _ (by lia),?_⟩⟩;refine zme (as:=ptT.getD (k-1-i) []) (λσ=>∃v,σ=[v,some (.int (1+i))]) (λ_=>true) (λr=>aL (((i+1:Nat):Int)::r)) aL ⟨_,rfl⟩ ?_ ?_
  ·rintro r f σ ⟨v,rfl⟩;refine⟨_,rfl,⟨_,rfl⟩,by simp only[W,xks],λ_=>?_⟩;have:=c.2 r f;simp only[W,V];refine⟨small _ (by simp),by rw[xbb];exact small _ (by simp;lia),trivial,?_⟩;rw[show(1:Int)+i=((i+1:Nat):Int) by lia]
   rfl
  ·rw[zlo];refine⟨_,_,_,rfl,t.b,rfl,by rw[zc,xbb];exact small _ (by lia),?_⟩;simp only[L];refine⟨_,rfl,?_⟩;rw[xfw,xis,List.flatMap_singleton];have:=t.putB (zs:=aJ ((List.range i).flatMap λi=>(ptT.getD (k-1-i) []).map λr=>((i+1:Nat):Int)::r)++(ptT.getD (k-1-i) []).map λr=>aL (((i+1:Nat):Int)::r));rw[show aJ ((List.range i).flatMap (λi=>(ptT.getD (k-1-i) []).map λr=>((i+1:Nat):Int)::r)++(ptT.getD (k-1-i) []).map λr=>((i+1:Nat):Int)::r)=aJ ((List.range i).flatMap λi=>(ptT.getD (k-1-i) []).map λr=>((i+1:Nat):Int)::r)++(ptT.getD (k-1-i) []).map λr=>aL (((i+1:Nat):Int)::r) from by unfold aJ;rw[xdi,xcw];rfl];exact this
 ·rintro σ s ⟨a,rfl,t⟩;rw[zbh] at t;exact q s a t
theorem zbli(h:k<=16):(ptT.take (k+1)).map aK=(ptT.take k).map aK++[aK (ptT.getD k [])]:=by
 rw[ze (zva h),xdi];rfl
theorem zbxo{k:Nat}{m:Int}(w:m=k)(h:k<=16)(q:∀g,Q (.lst ((ptT.take (k+1)).map aK)) (au++g)):WP (zch [.int m] au) Q:=by
 refine zju rfl ?_;subst w;simp only[W,V];refine⟨small _ (by simp),small _ (by simp),small _ (by simp),_,_,rfl,rngN (by lia) (by lia),rngN (by lia) (by lia),?_⟩;rw[show((k:Int)+1-1).toNat=k by lia];refine zcb (λi σ s=>∃l f e,σ=[some (.int k),some (.ref au.length),l,f,e]/\s[au.length]?=some (.lst ((ptT.take (i+1)).map aK))/\∀j,j<au.length->s[j]?=au[j]?) ⟨_,_,_,rfl,by simp;rfl,λj d=>by rw[xby d]⟩ ?_ ?_
 ·rintro i x σ s u ⟨l,f,e,rfl,c,b⟩;obtain⟨n,rfl⟩:=zif u;refine⟨[some (.int k),some (.ref au.length),some (.int ((i+1:Nat):Int)),f,e],by rw[show(1:Int)+i=((i+1:Nat):Int) by lia];rfl,?_⟩;unfold zec;simp only[W,V];refine⟨small _ (by simp),_,_,rfl,rngN (by lia) (by lia),rngN (by lia) (by lia),?_⟩;rw[show(((i+1:Nat):Int)+1-1).toNat=i+1 by lia];have p:=zi c;have t:Two au au.length s.length ((ptT.take (i+1)).map aK) [] (s++[.lst []]):=⟨by rw[xby p];exact c,by simp,by lia,xbj _,by lia,λj d=>by rw[xby (by lia)];exact b j d⟩
  refine zblj (k:=i+1) (by lia) (by lia) t λv y a=>?_
  have P:=zbwq (k:=i+1) (by lia) (by lia);simp only[W,V,M];refine⟨_,_,rfl,a.a,WP.of (zxk a.b) ?_⟩;refine zuh (ks:=ptR (i+1)) P.ok λg=>?_
  have o:(v++g)[au.length]?=some (.lst ((ptT.take (i+1)).map aK)):=by
   rw[xby (zi a.a)];exact a.a
  refine⟨_,_,rfl,o,by rw[xbb,xcq];exact smallT _ (by lia),?_⟩;simp only[L];refine⟨_,_,_,rfl,?_,λj d=>?_⟩
  ·rw[zde (zi o),zbli (k:=i+1) (by lia),P.eq]
  ·have:=zi a.b;have:=a.bB;rw[xbx (by lia),xby (by lia)];exact a.low j d
 ·rintro σ s ⟨l,f,e,rfl,c,b⟩;rw[zbh] at c;simp only[W,V,M];refine⟨_,_,rfl,c,?_⟩;have r:=zqc (s:=s.set au.length .dead) (au:=au) (λi n=>by rw[xbx (by lia)];exact b i n) (by rw[xdr];have:=zi c;lia);rw[r];exact q _
theorem chain45(c:f σ au=.ok (.int i) au):eChain oLe oLe (eC (.int a)) f (eC (.int b)) σ au=.ok (.bl (decide (a<=i)&&decide (i<=b))) au:=by
 have d:eC (.int a) σ au=.ok (.int a) au:=rfl;have e:eC (.int b) σ au=.ok (.int b) au:=rfl;unfold eChain;rw[d,zbb,c,zbb];by_cases h:a<=i
 ·simp[oI,h,e]
 ·simp[oI,h]
end Dd
namespace K45
end K45
namespace Dd
open L2 K13
theorem zth{α β:Type}(h:α->β->Nat)(m:List β):∀l:List α,xr l (λa=>xr m (h a))=xr m (λb=>xr l λa=>h a b)
 |[]=>(zfc m).symm
 |a::l=>by
  rw[zbx,zth h m l,←zhv]
  rfl
theorem zbwi{a b:List Row}(h:∀x,a.count x%2=b.count x%2):xr a f=xr b f:=by
 have c:∀(l:List Row) (i:Nat),(xr l f).testBit i=decide (tot l (λx=>if(f x).testBit i=true then 1 else 0)%2=1):=λl i=>by
  induction l with
  |nil=>simp[xr,tot]
  |cons x l ih=>
   rw[zbx,Nat.testBit_xor,ih,zbg];cases(f x).testBit i
   ·simp
   ·simp only[xfl];rw[xfn];simp;lia
 refine Nat.eq_of_testBit_eq λi=>?_
 rw[c,c,zbbv _ h]
theorem zbqr(l:List Row):xr (aO l) f=xr l f:=zbwi (zfx l)
theorem zbei(x:Row):∀l:List Row,xr l (λy=>if y=x then 1 else 0)=l.count x%2
 |[]=>rfl
 |a::l=>by
  rw[zbx,zbei x l,xhf];have:=xef (l.count x);by_cases c:a=x
  ·rw[if_pos c,if_pos (by simpa using c)];rcases this with e|e<;>rw[e]
   ·show 1=_;lia
   ·show 0=_;lia
  ·rw[if_neg c,if_neg (by simpa using c),xip];lia
theorem zzu(h:∀f:Row->Nat,xr a f=xr b f):aO a=aO b:=zim λx=>by rw[←zbei x a,←zbei x b,h]
theorem zbxh(b:0<=k)(a:Nn p):xr (raiseR k p) f=T k f p:=by
 rw[zei a b,zhk];unfold T;refine zf λx _=>?_
 by_cases c:x.sum=p.sum+k
 ·rw[if_pos (xbw c),if_pos c]
 ·rw[if_neg (by simp[c]),if_neg c]
theorem zbrd(c:0<=k)(a:∀p∈l,Nn p):xr (raiseL k l) f=xr l (T k f):=by
 unfold raiseL;rw[zfd];exact zf λp b=>zbxh c (a p b)
theorem zbwj(a b:List Row):xr (mulL a b) f=xr a λu=>xr b λv=>f (addR u v):=by
 unfold mulL;rw[zfd];exact zf λu _=>znx _ _
theorem ztr(f:Nat):∀(e:Nat) (g:Int->Nat),xr (outL (e+f)) g=xr (outL e) λs=>xr (outL f) λt=>g (s+t)
 |0,g=>by
  have:outL 0=[0]:=by decide
  rw[this,xeg,zbx];show _=xr (outL f) _^^^0;rw[xer];exact zf λt _=>by rw[xhu]
 |e+1,g=>by
  rw[show e+1+f=(e+f)+1 by lia,zon,zon,ztr f e,ztr f e]
  congr 1
  ·exact zf λs _=>zf λt _=>by rw[show s+1+t=s+t+1 by lia]
  ·exact zf λs _=>zf λt _=>by rw[show s+1+1+t=s+t+1+1 by lia]
theorem ztl(φ:Row->Nat)(b:List Int)(a:List Row):xr (longL a b) φ=xr a λu=>xr b λs=>φ (u++[s]):=by
 unfold longL;rw[zfd];exact zf λu _=>znx _ _
theorem cartan0:∀(n:Nat) (x y:Row),x.length=n->y.length=n->Nn x->Nn y->∀φ:Row->Nat,xr (wholeS (addR x y)) φ=xr (wholeS x) λu=>xr (wholeS y) λv=>φ (addR u v)
 |0,x,y,hx,hy,_,_,φ=>by
  rw[xgl.mp hx,xgl.mp hy];show φ []^^^0=(φ []^^^0)^^^0;simp
 |n+1,x,y,hx,hy,nx,ny,φ=>by
  have k:x≠[]:=λz=>by rw[z] at hx;cases hx
  have o:y≠[]:=λz=>by rw[z] at hy;cases hy
  obtain⟨x,e,rfl⟩:∃i e,x=i++[e]:=⟨_,_,(xjt k).symm⟩
  obtain⟨y,f,rfl⟩:∃m f,y=m++[f]:=⟨_,_,(xjt o).symm⟩
  have g:x.length=n:=by simpa using hx
  have d:y.length=n:=by simpa using hy
  obtain⟨e,rfl⟩:=xda (nx e (by simp));obtain⟨f,rfl⟩:=xda (ny f (by simp));have l:∀u∈wholeS x,u.length=n:=λu b=>(zdd (λz a=>nx z (by simp[a])) u b).2.trans g
  have h:∀v∈wholeS y,v.length=n:=λv c=>(zdd (λz a=>ny z (by simp[a])) v c).2.trans d
  rw[zsb (g.trans d.symm),zbq,zbq,zbq];unfold wholeStep
  rw[show((e:Int)+(f:Int)).toNat=e+f by lia,xdx,xdx,ztl,ztl,
   cartan0 n x y g d (λz a=>nx z (by simp[a])) (λz a=>ny z (by simp[a]))]
  refine zf λu b=>?_
  have j:(λs=>xr (longL (wholeS y) (outL f)) λv=>φ (addR (u++[s]) v))=λs=>xr (wholeS y) λv=>xr (outL f) λt=>φ (addR (u++[s]) (v++[t])):=funext λs=>ztl _ _ _
  rw[j]
  conv=>rhs;rw[zth]
  refine zf λv c=>?_
  rw[ztr];exact zf λs _=>zf λt _=>by rw[zsb ((l u b).trans (h v c).symm)]
theorem zbka(h:j<=k)(z:Nat):xr (List.range (k+1)) (λl=>if j=l then z else 0)=z:=by
 rw[zmd (k:=j) (by lia) λc a=>if_neg (xdj a),if_pos rfl]
theorem cartan{x y:Row}(a:x.length=y.length)(b:Nn x)(f:Nn y)(k:Nat)(φ:Row->Nat):
  T (k:Int) φ (addR x y)=xr (List.range (k+1)) λl=>T ((k:Int)-(l:Int)) (λu=>T (l:Int) (λv=>φ (addR u v)) y) x:=by
 unfold T;rw[cartan0 _ x y rfl a.symm b f];have e:∀l:Nat,(xr (wholeS x) λu=>if u.sum=x.sum+((k:Int)-(l:Int)) then xr (wholeS y) (λv=>if v.sum=y.sum+(l:Int) then φ (addR u v) else 0) else 0)=xr (wholeS x) λu=>xr (wholeS y) λv=>if u.sum=x.sum+((k:Int)-(l:Int))/\v.sum=y.sum+(l:Int) then φ (addR u v) else 0:=λl=>zf λu _=>by
  by_cases c:u.sum=x.sum+((k:Int)-(l:Int))
  ·rw[if_pos c];exact zf λv _=>by simp only[c,true_and]
  ·rw[if_neg c];rw[show(λv=>if u.sum=x.sum+((k:Int)-(l:Int))/\v.sum=y.sum+(l:Int) then φ (addR u v) else 0)=λ_=>0 from funext λv=>if_neg λz=>c z.1,zfc]
 rw[show(λl:Nat=>xr (wholeS x) λu=>if u.sum=x.sum+((k:Int)-(l:Int)) then xr (wholeS y) (λv=>if v.sum=y.sum+(l:Int) then φ (addR u v) else 0) else 0)=λl:Nat=>xr (wholeS x) λu=>xr (wholeS y) λv=>if u.sum=x.sum+((k:Int)-(l:Int))/\v.sum=y.sum+(l:Int) then φ (addR u v) else 0 from funext e]
 conv=>rhs;rw[zth]
 refine zf λu g=>?_
 conv=>rhs;rw[zth]
 refine zf λv m=>?_
 obtain⟨q,p⟩:=zdd b u g;obtain⟨o,n⟩:=zdd f v m;have h:=zgr (u:=u) (v:=v) (by lia);have j:=zgr a;rw[h,j];by_cases c:u.sum+v.sum=x.sum+y.sum+(k:Int)
 ·rw[if_pos c];have i:(v.sum-y.sum).toNat<=k:=by lia
  refine(zbka i (φ (addR u v))).symm.trans ?_;refine zf λl _=>?_
  by_cases d:(v.sum-y.sum).toNat=l
  ·rw[if_pos d,if_pos ⟨by lia,by lia⟩]
  ·rw[if_neg d,if_neg λz=>d (by lia)]
 ·rw[if_neg c,show(λl:Nat=>if u.sum=x.sum+((k:Int)-(l:Int))/\v.sum=y.sum+(l:Int) then φ (addR u v) else 0)=λ_=>0 from funext λl=>if_neg λz=>c (by lia),zfc]
theorem zbkt:∀{r:List Int},(∀x∈r,0<=x)->0<=r.sum
 |[],_=>by simp
 |a::r,h=>by
  have c:=h a (by simp);have d:=zbkt λx b=>h x (xbf _ b)
  rw[xcu];lia
theorem zyn(l:List Int)(j:Nat):(l.drop j++l.take j).sum=l.sum:=by
 have:(l.take j++l.drop j).sum=l.sum:=by rw[xdg]
 rw[xel] at this ⊢;lia
theorem zsk{n:Nat}{N d:Int}(t:BagAt au n)(hN:1<=N)(b0:N<=1000)(hd:0<=d)(b3:d<=1000)(k:∀r h,r.length=N.toNat->(∀x∈r,0<=x)->r.sum<=d->Drew au h n->Q (aL r) h):WP (zcx [.ref n,.int N,.int d] au) Q:=by
 refine zju rfl ?_;simp only[W,V];refine zgx t (by lia) (by lia) λS a9 X h2 P=>?_
 refine zgx P.bag (by lia) (by lia) λr1 a h3 h4 Y=>?_
 have u:=P.trans Y
 have b:∀left:Int,0<=left->left<=d->WP (aD (aF 4 (eLstM aC))
   (aD (sFor (iR1 (aB (aS oSub (aA 1) (eC (.int 1))) aC)) (gN 5) zcr)
   (aD (sDrop (eAppend (aA 4) (aB (aA 3) aC)))
   (aD (aF 6 (aE zt (aB (aA 0) (aB (aA 1) aC))))
   (sRet (aE bTuple (aB (aS aM (eSl (aA 4) (pSome (aA 6)) pNone) (eSl (aA 4) pNone (pSome (aA 6)))) aC)))))) [some (.ref n),some (.int N),some (.int d),some (.int left),none,none,none] a) (retK Q):=λleft G z=>by
  simp only[W,V];refine⟨small _ (by simp),True.intro,_,rfl,rngN (by lia) (by lia),?_⟩;have J:au.length<=a.length:=u.len;have m:a.length≠n:=xhr (u.lt t.lt);refine zcb (λi σ s=>∃(left:Int) (r:List Int) (v:Option D),σ=[some (.ref n),some (.int N),some (.int d),some (.int left),some (.ref a.length),v,none]/\0<=left/\r.sum+left<=d/\r.length=i/\(∀x∈r,0<=x)/\Drew au s n/\s[a.length]?=some (.lst (r.map .int)))
   ⟨left,[],none,rfl,G,(by rw[xko,xhu];exact z),rfl,by simp,u.trans (.more u.bag _),by simp⟩ ?_ ?_
  ·rintro i x σ s hx ⟨left,r,v,rfl,E,a2,A,f,w,c⟩;obtain⟨hi,rfl⟩:=zif hx;refine⟨_,rfl,?_⟩;unfold zcr;simp only[W,V,M];refine⟨_,_,rfl,c,?_⟩;have a0:=zbkt f;refine zgx w.bag (by lia) (by lia) λy p C b2 g=>?_
   have o:p[a.length]?=some (.lst (r.map .int)):=(g.keep _ (zi c) m).trans c;have U:=w.trans g;have e:=zi o;refine⟨_,_,rfl,o,by rw[xbb];exact smallT _ (by lia),?_⟩;have l:(p.set a.length (.lst (r.map D.int++[D.int y])))[a.length]?=some (.lst ((r++[y]).map .int)):=by rw[zde e];simp
   refine zbtw (xs:=(r++[y]).map .int) (d:=.int y) (zhm l) (by rw[xdi];exact zxq _ _) ?_;simp only[W,V,L];exact⟨True.intro,left-y,r++[y],_,rfl,by lia,(by rw[xel,xcu,xko];lia),by simp[A],zow f C,U.over t.lt J,l⟩
  ·rintro σ s ⟨left,r,v,rfl,E,a2,A,f,w,c⟩;rw[zbh] at A;simp only[W,V,M];have e:=zi c;refine⟨_,_,rfl,c,_,_,rfl,c,by rw[xbb];exact smallT _ (by lia),?_⟩;have l:(s.set a.length (.lst (r.map D.int++[D.int left])))[a.length]?=some (.lst ((r++[left]).map .int)):=by rw[zde e];simp
   have I:Drew au (s.set a.length (.lst (r.map D.int++[D.int left]))) n:=w.over t.lt J;refine zgx I.bag (by lia) (by lia) λy p C b2 g=>?_
   have H:p[a.length]?=some (.lst ((r++[left]).map .int)):=(g.keep _ (zi l) m).trans l;refine⟨y,rfl,.inr ⟨_,zhd H,y,rfl,.inr ⟨_,zhd H,?_⟩⟩⟩;obtain⟨j,rfl⟩:=xda C;rw[zrs,zbdu];refine WP.of (zbeq (small _ (by rw[xbk,xgu];lia))) ?_;simp only[W,V];refine k _ _ ?_ ?_ ?_ (I.trans g)
   ·rw[ztw,xbk,xgu];lia
   ·intro x hx;rcases xce.mp hx with hx|hx
    ·exact zow f E x (xfq hx)
    ·exact zow f E x (xec hx)
   ·rw[zyn,xel,xcu,xko];lia
 simp only[W,V];split
 ·have q:=b d hd (xoc _);simp only[W,V] at q;exact q
 ·have q:=b S X (by lia);simp only[W,V] at q;exact q
theorem zbbz{n:Nat}{N m d:Int}(q:BagAt au n)(u:1<=N)(j:N<=1000)(U:0<=m)(A:m<63)(y:0<=d)(o:d<=1000)(k:∀l b,l.length<=m->SumOk N.toNat l->(∀r∈l,r.sum<=d)->Drew au b n->Q (aK l) b):WP (zga [.ref n,.int N,.int m,.int d] au) Q:=by
 refine zju rfl ?_;simp only[W,V];refine zgx q (by lia) (by lia) λc C S I H=>?_
 refine⟨c,rfl,rngN (by lia) (by lia),by rw[zbh];exact small _ (by lia),?_⟩;refine ztn (λi acc σ s=>∃(l:List (List Int)) (v:Option D),acc=aJ l/\l.length=i/\(∀r∈l,r.length=N.toNat/\∀x∈r,0<=x)/\(∀r∈l,r.sum<=d)/\σ=[v,some (.ref n),some (.int N),some (.int d)]/\Drew au s n) ⟨[],none,rfl,rfl,by simp,by simp,rfl,H⟩ ?_ ?_
 ·rintro i x acc σ s X ⟨l,v,rfl,f,h,e,rfl,a⟩;refine⟨_,rfl,?_⟩;simp only[W,V];refine zsk a.bag u j y o λr P t E w G=>⟨l++[r],_,by simp[aJ],by simp[f],λz hz=>?_,λz hz=>?_,rfl,a.trans G⟩
  ·rcases xce.mp hz with hz|hz
   ·exact h z hz
   ·simp at hz;subst hz;exact⟨t,E⟩
  ·rcases xce.mp hz with hz|hz
   ·exact e z hz
   ·simp at hz;subst hz;exact w
 ·rintro J σ s ⟨l,v,rfl,f,h,e,rfl,a⟩;rw[zbh] at f;refine zmw (l:=l) rfl (by lia) λg=>k _ _ ?_ (zqb h) (λr p=>e r (zdq p)) (a.trans (.more a.bag g))
  have:=zka l;lia
theorem zlj(I:0<=t)(o:∀r∈l,∀x∈r,0<=x/\x<=1000)(P:∀r∈l,r.length<=1000)(u:∀r∈l,box r<=20000)(X:(raiseL t l).length<=900000)(k:∀g,Q (aK (aO (raiseL t l))) (au++g)):WP (zbp [aK l,.int t] au) Q:=by
 refine zju rfl ?_;simp only[W,V,Dd.N];refine⟨small _ (by simp),?_⟩;have c:∀i,(raiseL t (l.take i)).length<=900000:=λi=>by
  have e:raiseL t l=raiseL t (l.take i)++raiseL t (l.drop i):=by
   unfold raiseL;rw[←xis,xdg]
  rw[e,xbk] at X;lia
 refine zcb (λi σ s=>(∃v w x y z a,σ=[some (aK l),some (.int t),some (.ref au.length),v,w,x,y,z,a])/\∃g,s=au++(.lst (aJ (raiseL t (l.take i)))::g)) ⟨⟨_,_,_,_,_,_,rfl⟩,[],rfl⟩ ?_ ?_
 ·rintro i y σ s G ⟨⟨v,w,x,C,z,a,rfl⟩,g,rfl⟩;obtain⟨r,n,rfl⟩:=zx G;have f:=xbo n;have A:∀x∈r,0<=x:=λx hx=>(o r f x hx).1
  refine⟨_,rfl,?_⟩;unfold zdb;simp only[W,V,Dd.N];refine⟨small _ (by simp),small _ (by simp),small _ (by simp),?_⟩;refine zcb (λj σ s=>(∃x y z a,σ=[some (aK l),some (.int t),some (.ref au.length),some (aL r),some (.lst ((lawS t (r.take j)).map ptD)),x,y,z,a])/\∃g,s=au++(.lst (aJ (raiseL t (l.take i)))::g)) ⟨⟨_,_,_,_,rfl⟩,g,rfl⟩ ?_ ?_
  ·rintro j y σ s G ⟨⟨x,C,z,a,rfl⟩,g,rfl⟩;obtain⟨e,E,rfl⟩:=zha G;refine⟨_,rfl,?_⟩;obtain⟨q,J⟩:=o r f e (xbo E);have b:=zlk r t j;have m:=zpk r (j+1);rw[ze E,zcp,show box [e]=e.toNat+1 by simp[box]] at m;have h:(lawS t (r.take j)).length*(e.toNat+1)<=20000:=xbc (xcx _ b) (xbc m (u r f));have d:=zwa r I j;have U:=P r f;rw[ze E,zhp];unfold lawStep;generalize lawS t (r.take j)=ps at h d ⊢;obtain⟨e',rfl⟩:=xda q;simp only[V];refine zfu (e:=e') (by lia) (by rw[xdx] at h;lia) (λp o=>?_) λw6 w7 w8 H=>?_
   ·obtain⟨q1,q2⟩:=d p o;rw[q1,xcq];exact⟨by lia,q2⟩
   ·refine⟨⟨_,_,_,_,rfl⟩,g++H,by simp⟩
  ·rintro σ s ⟨⟨x,C,z,a,rfl⟩,g,rfl⟩;rw[xbb,xbu];simp only[W,V,Dd.N,L,zfp];have b:=zlk r t r.length;rw[xbu] at b;have Y:=u r f;refine⟨_,_,rfl,zcd _ _,by rw[xbb];exact small _ (by lia),?_⟩;refine zme (as:=lawS t r) (λσ=>∃v w,σ=[v,w]) (λp=>decide (p.2=0)) (λp=>aL p.1) ptD ⟨_,_,rfl⟩ ?_ ?_
   ·rintro p o σ ⟨v,w,rfl⟩;exact⟨_,rfl,⟨_,_,rfl⟩,by simp only[W,V,xks],λ_=>by simp only[W,V,xks]⟩
   ·have S:((lawS t r).filter λp=>decide (p.2=0)).map (λp=>aL p.1)=aJ (raiseR t r):=by
     rw[←zwc A I];unfold lawP aJ;rw[xcw]
     rfl
    rw[S];have q:=c i;have J:=zih (k:=t) (u r f);refine⟨_,_,_,rfl,zcd _ _,rfl,by rw[zc,zc];exact small _ (by lia),⟨_,_,_,_,_,_,rfl⟩,g,?_⟩;rw[zgy,ze n,zgg];simp[aJ]
 ·rintro σ s ⟨⟨v,w,x,C,z,a,rfl⟩,g,rfl⟩;rw[zc,xbu];have q:=c l.length;rw[xbu] at q;simp only[W,V,M,Dd.N];refine⟨_,_,rfl,zcd _ _,?_⟩;refine zmw (l:=raiseL t l) rfl (by lia) λH=>?_
  rw[zgy,xcm];exact k _
structure KZ (n K:Nat) (S0:List Row):Prop where
 kx:KX n K S0
 n6:n<=6
 k8:K<=8
 len:S0.length<=bif Nat.ble n 3 then 6 else 2
theorem KZ.top{n K:Nat}(h:KZ n K S0){T:Nat}(i:T<=K){l:List Row}(c:l.Nodup)(b:∀x∈l,x∈UU S0 T):l.length<=20000:=by
 have e:l.length<=(UU S0 T).length:=xed c λx d=>b x d
 rw[zbbr h.kx.rows] at e;have f:=h.k8;have g:=h.n6;have a:(List.range 7).all (λn=>(List.range 9).all λT=>Nat.ble ((bif Nat.ble n 3 then 6 else 2)*ctb n T) 20000)=true:=by decide +kernel
 have:=xku.mp (xca.mp (xca.mp a n (xbn.mpr (by lia))) T (xbn.mpr (by lia)));rw[zte (by lia)] at this;have j:=xcx (cle n T) h.len;lia
theorem znc{c:List Row}(v:∀r∈d,r.length<=1000)(x:d.length*c.length<=1000000)(k:∀g,Q (aK (aO (mulL d c))) (au++g)):WP (zcq [aK d,aK c] au) Q:=by
 refine zju rfl ?_;simp only[W,V];refine⟨small _ (by simp),_,rfl,?_⟩;have e:∀i,(mulL (d.take i) c).length+(if i<d.length then c.length else 0)<=1000000:=λi=>by
  rw[zev,xcq];split
  ·rename_i h;have t:(i+1)*c.length<=d.length*c.length:=xcx _ h;rw[xhg] at t;rw[xej (by lia)];lia
  ·have t:min i d.length*c.length<=d.length*c.length:=xcx _ (by lia);lia
 refine zcb (λi σ s=>∃n f,σ=[some (aK d),some (aK c),some (.ref au.length),n,f]/\s=au++[.lst (aJ (mulL (d.take i) c))]) ⟨_,_,rfl,rfl⟩ ?_ ?_
 ·rintro i y σ s o ⟨n,f,rfl,rfl⟩;obtain⟨a,m,rfl⟩:=zx o;have w:=(xbd.mp m).1;have A:=v a (xbo m);have p:=e i;rw[if_pos w] at p;refine⟨_,rfl,?_⟩;unfold zeq;simp only[W,V];refine⟨_,rfl,?_⟩;refine zcb (λj σ s=>∃f,σ=[some (aK d),some (aK c),some (.ref au.length),some (aL a),f]/\s=au++[.lst (aJ (mulL (d.take i) c++(c.take j).map (addR a)))]) ⟨_,rfl,by simp⟩ ?_ ?_
  ·rintro j y σ s o ⟨f,rfl,rfl⟩;obtain⟨b,q,rfl⟩:=zx o;have z:=(xbd.mp q).1;refine⟨_,rfl,?_⟩;unfold zer;simp only[W,V,M,Dd.N];refine⟨_,_,rfl,zcd _ [],by rw[zes,xbb,List.length_zip];exact small _ (by lia),?_⟩;refine zbbt ?_;refine⟨_,_,rfl,zcd _ [],by rw[zc,xbk,xbb,xcq];exact smallT _ (by lia),?_⟩;simp only[L];refine⟨_,rfl,?_⟩;rw[ze q];simp[aJ,aL]
  ·rintro σ s ⟨f,rfl,rfl⟩;rw[zc,xbu];simp only[L];refine⟨_,_,rfl,?_⟩;rw[ze m,zqu]
 ·rintro σ s ⟨n,f,rfl,rfl⟩;rw[zc,xbu];simp only[W,V,M];refine⟨_,_,rfl,by simp;rfl,?_⟩;have p:=e d.length;rw[xbu] at p;refine zmw (l:=mulL d c) rfl (by lia) λu=>?_
  have:=k (.dead::u)
  simpa using this
theorem zbci:((List.range 17).all λk=>(ptT.getD k []).all λr=>decide (r.sum=(k:Int))&&r.all λx=>decide (1<=x))=true/\(ptT.all λl=>decide l.Nodup&&Nat.ble l.length 20)=true:=by decide +kernel
theorem zzf(h:k<=16):∀r∈ptT.getD k [],r.sum=k/\∀x∈r,1<=x:=λr a=>by
 have:=xca.mp (xca.mp zbci.1 k (xbn.mpr (by lia))) r a;rw[xcy] at this;exact⟨xde this.1,λx b=>xde (xca.mp this.2 x b)⟩
theorem zbwp(h:k<=16):(ptT.getD k []).Nodup/\(ptT.getD k []).length<=20:=by
 have:=xca.mp zbci.2 _ (xbo (zva h));rw[xcy] at this;exact⟨xde this.1,xfk this.2⟩
theorem zuz{K:Nat}(h:k<=K)(b:K<=16):RowsK K 0 (ptT.getD k []):=⟨λr a=>(zzf (by lia) r a).2,λr a=>by have:=(zzf (k:=k) (by lia) r a).1;lia⟩
def shL(k:Nat) (f g:List Row) (i:Nat):List Row:=aO (mulL (aO (doneL (ptT.getD (k-i) []) f)) g)
def shD(k:Nat) (f g:List Row):List D:=(List.range (k+1)).map λi:Nat=>.tup [.int (i:Int),aK (shL k f g i)]
structure Sft (N k:Nat) (f g:List Row):Prop where
 kz:KZ N k f
 f1:SumOk N f
 g1:SumOk N g
 gl:g.length<=6
theorem Sft.done{N k i:Nat}(h:Sft N k f g)(o:i<=k):(aO (doneL (ptT.getD (k-i) []) f)).length<=20000/\SumOk N (aO (doneL (ptT.getD (k-i) []) f)):=by
 have m:=h.kz.k8;have a:=zpe h.kz.kx (T:=0) (zuz (k:=k-i) (K:=k) (by lia) (by lia)) λy d=>zbed d
 refine⟨h.kz.top (xbj _) (zcm _) λx j=>a x (zdq j),zqb λr e=>?_⟩;obtain⟨p,b,l⟩:=xcf.mp (a r e);obtain⟨c,n⟩:=zoa l;exact⟨c.len.trans (h.kz.kx.rows p b).1,c.pos (h.kz.kx.rows p b).2⟩
theorem zbrq(h:k<=16)(a:i<=k):oIx (.lst ((ptT.take (k+1)).map aK)) (.int ((k:Int)-(0+i))) s=.ok (aK (ptT.getD (k-i) [])) s:=by
 rw[show(k:Int)-(0+i)=((k-i:Nat):Int) by lia];refine zjq rfl (zpo ?_);rw[xcl,xkk (by lia),zva (by lia)];rfl
end Dd
namespace K50
end K50
namespace Dd
open L2 K13
theorem T_id:∀m:Row,Nn m->∀φ:Row->Nat,T 0 φ m=φ m:=zuc
 (λφ=>by rw[zbjz,if_pos rfl])
 (λr _ a φ=>by rw[zji,a])
 (λr e b a φ=>by
  rw[zbjq,a,zgv,zbrb ?_ (by lia),xer];intro x hx;rcases xce.mp hx with hx|hx
  ·exact b x hx
  ·rw[xcj.mp hx]
   lia)
def Act(b:Row) (φ:Row->Nat):Row->Nat:=b.foldl (λψ a=>T a ψ) φ
theorem zpq(a:Int)(b:Row)(φ:Row->Nat):Act (a::b) φ=Act b (T a φ):=rfl
theorem zxy(p q:Row)(φ:Row->Nat):Act (p++q) φ=Act q (Act p φ):=xeq
theorem zbzf{α:Type}{L:List α}{ψ:Row->Nat}{χ:α->Row->Nat}(k:Int)(h:∀m,Nn m->ψ m=xr L λc=>χ c m){m:Row}(b:Nn m):T k ψ m=xr L λc=>T k (χ c) m:=by
 unfold T
 conv=>rhs;rw[zth]
 refine zf λx a=>?_
 rw[h x (zkr m b x a)];by_cases c:x.sum=m.sum+k
 ·simp only[c,xfl]
 ·simp only[c,xfa];exact(zfc _).symm
theorem zxx{α:Type}{L:List α}:∀(b:Row) {ψ:Row->Nat}{χ:α->Row->Nat},(∀m,Nn m->ψ m=xr L λc=>χ c m)->∀m,Nn m->Act b ψ m=xr L λc=>Act b (χ c) m
 |[],_,_,h,m,d=>h m d
 |a::b,_,_,h,m,d=>zxx b (λm d=>zbzf a h d) m d
theorem zbbq{a:Row}(h:∀m,Nn m->ψ m=χ m) (b:Nn m):Act a ψ m=Act a χ m:=by
 have:=zxx (L:=[()]) a (ψ:=ψ) (χ:=λ_=>χ) (λm b=>by rw[h m b];show χ m=χ m^^^0;rw[xer]) m b;rw[this];show _^^^0=_;rw[xer]
theorem zxw:∀(b:Row) (m:Row),Act b (λ_=>0) m=0
 |[],_=>rfl
 |a::b,m=>by
  rw[zpq,show T a (λ_=>0)=λ_=>0 from funext λm=>zbqp a m];exact zxw b m
theorem R_nn:∀(b:Row) {l:List Row},(∀x∈b,0<=x)->(∀p∈l,Nn p)->∀p∈R b l,Nn p
 |[],_,_,h=>h
 |a::b,l,hr,h=>λp c=>by
  obtain⟨q,f,c⟩:=xcf.mp (show p∈raiseL a (R b l) from c);have d:=R_nn b (λx e=>hr x (xbf _ e)) h q f;rw[zei d (hr a xbv)] at c;exact zkr q d p (xcn.mp c).1
theorem xr_R:∀(b:Row) {l:List Row}{φ:Row->Nat},(∀x∈b,0<=x)->(∀p∈l,Nn p)->xr (R b l) φ=xr l (Act b φ)
 |[],_,_,_,_=>rfl
 |a::b,l,φ,hr,h=>by
  have c:∀x∈b,0<=x:=λx d=>hr x (xbf _ d)
  show xr (raiseL a (R b l)) φ=_;rw[zbrd (hr a xbv) (R_nn b c h),xr_R b c h]
  rfl
theorem zbkb(d:∀r∈b,∀x∈r,0<=x)(h:∀p∈l,Nn p):xr (doneL b l) φ=xr b λa=>xr l (Act a φ):=by
 unfold doneL;rw[zfd];exact zf λa c=>xr_R a (d a c) h
def two(a b:Int) (c:Nat):Row:=if c=0 then[a+b] else[a+b-c,(c:Int)]
theorem zbwe(h:a<2*b)(p q:Row)(φ:Row->Nat) (d:Nn m):Act (p++a::b::q) φ m=xr ((List.range (b.toNat+1)).filter (co b a)) λc=>Act (p++two a b c++q) φ m:=by
 rw[zxy,zpq,zpq,zhk];generalize hψ:Act p φ=ψ;have e:∀m,Nn m->T b (T a ψ) m=xr (List.range (b.toNat+1)) λc=>(if co b a c=true then Act (two a b c) ψ else λ_=>0) m:=λm d=>by
  rw[adem m d ψ a b (b.toNat+1) (by lia) (by lia)];unfold cs;refine zf λc _=>?_
  by_cases z:co b a c=true
  ·rw[if_pos z,if_pos z];unfold two;by_cases z0:c=0
   ·subst z0;rw[if_pos rfl];show T 0 _ m=T (a+b) ψ m;rw[T_id m d,show a+b-((0:Nat):Int)=a+b by lia]
   ·rw[if_neg z0]
    rfl
  ·rw[if_neg z,if_neg z]
 rw[zxx q e m d];refine zf λc _=>?_
 by_cases z:co b a c=true
 ·rw[if_pos z,if_pos z,zxy,zxy,hψ]
 ·rw[if_neg z,if_neg z,zxw]
def slow:Row->Option (Row×Int×Int×Row)
 |a::b::r=>if a<2*b then some ([],a,b,r) else(slow (b::r)).map λz=>(a::z.1,z.2)
 |_=>none
theorem zbca:∀{r p q:Row}{a b:Int},slow r=some (p,a,b,q)->r=p++a::b::q/\a<2*b
 |[],_,_,_,_,h=>by cases h
 |[_],_,_,_,_,h=>by cases h
 |a::b::r,p,q,a',b',h=>by
  unfold slow at h;split at h
  ·rename_i c;cases h;exact⟨rfl,c⟩
  ·obtain⟨⟨g,z⟩,d,f⟩:=xdc.mp h;cases f;obtain⟨e,l⟩:=zbca d;exact⟨by rw[e];rfl,l⟩
def expd:Nat->Row->List Row
 |0,r=>[r]
 |n+1,r=>match slow r with
  |none=>[r]
  |some (p,a,b,q)=>((List.range (b.toNat+1)).filter (co b a)).flatMap λc=>expd n (p++two a b c++q)
theorem zbdm(φ:Row->Nat) (d:Nn m):∀(n:Nat) (r:Row),Act r φ m=xr (expd n r) λs=>Act s φ m
 |0,r=>by
  show _=_^^^0;rw[xer]
 |n+1,r=>by
  unfold expd;split
  ·show _=_^^^0;rw[xer]
  ·rename_i p a b q h;obtain⟨e,l⟩:=zbca h;rw[zfd,e,zbwe l p q φ d];exact zf λc _=>zbdm φ d n _
def ptX(t:Nat):List Row:=(List.range t).flatMap λj:Nat=>(ptT.getD (t-(j+1)) []).map λr=>(((j+1:Nat):Int))::r
def evenB2(a b:List Row):Bool:=(a++b).all λx=>Nat.beq ((a.count x+b.count x)%2) 0
theorem zbhn(h:evenB2 a b=true)(x:Row):a.count x%2=b.count x%2:=by
 by_cases c:x∈a++b
 ·have:=xfz (xca.mp h x c);lia
 ·have d:x∉a:=λz=>c (xce.mpr (.inl z))
  have e:x∉b:=λz=>c (xce.mpr (.inr z))
  rw[xge.mpr d,xge.mpr e]
theorem zbll:(List.range 8).all (λt=>evenB2 ((ptX (t+1)).flatMap (expd 40)) (ptT.getD (t+1) []))=true:=by decide +kernel
theorem zbsd(b:1<=t)(c:t<=8)(φ:Row->Nat) (a:Nn m):xr (ptT.getD t []) (λr=>Act r φ m)=xr (ptX t) λr=>Act r φ m:=by
 obtain⟨s,rfl⟩:∃s,t=s+1:=⟨t-1,by lia⟩
 have:=zbhn (xca.mp zbll s (xbn.mpr (by lia)));rw[←zbwi this,zfd];exact(zf λr _=>zbdm φ a 40 r).symm
theorem zblk(d:t<=8)(φ:Row->Nat) (a:Nn m):(xr (List.range (t+1)) λj:Nat=>xr (ptT.getD (t-j) []) λr=>Act r (T (j:Int) φ) m)=if t=0 then φ m else 0:=by
 by_cases c:t=0
 ·subst c;rw[if_pos rfl];show(T 0 φ m^^^0)^^^0=_;rw[xer,xer,T_id m a]
 ·rw[if_neg c,zyb];have b:(xr (ptT.getD (t-0) []) λr=>Act r (T ((0:Nat):Int) φ) m)=xr (ptT.getD t []) λr=>Act r φ m:=zf λr _=>zbbq (λm a=>T_id m a φ) a
  rw[b,zbsd (by lia) d φ a];unfold ptX;rw[zfd];rw[show(λj:Nat=>xr ((ptT.getD (t-(j+1)) []).map λr=>(((j+1:Nat):Int))::r) λr=>Act r φ m)=λj:Nat=>xr (ptT.getD (t-(j+1)) []) λr=>Act r (T ((j+1:Nat):Int) φ) m from funext λj=>znx _ _];exact xhw _
theorem tri(H:Nat->Nat->Nat):∀k:Nat,(xr (List.range (k+1)) λi=>xr (List.range (i+1)) λl=>H i l)=xr (List.range (k+1)) λl=>xr (List.range (k-l+1)) λj=>H (l+j) l
 |0=>rfl
 |k+1=>by
  rw[znw _ (k+1),tri H k]
  conv=>rhs;rw[znw _ (k+1)]
  rw[znw (λl=>H (k+1) l) (k+1)];have e:(xr (List.range (k+1)) λl=>xr (List.range (k+1-l+1)) λj=>H (l+j) l)=(xr (List.range (k+1)) λl=>xr (List.range (k-l+1)) λj=>H (l+j) l)^^^xr (List.range (k+1)) λl=>H (k+1) l:=by
   rw[←zhv];refine zf λl a=>?_
   have:=xbn.mp a;rw[show k+1-l+1=(k-l+1)+1 by lia,znw,show l+(k-l+1)=k+1 by lia]
  rw[e,xjq];show _=_^^^(H (k+1+0) (k+1)^^^0);rw[xer,xjr,xdn]
theorem zbjr:∀(b:Row) {l:List Row},(∀x∈b,0<=x)->Rows n l->Rows n (R b l)
 |[],_,_,h=>h
 |a::b,l,hr,h=>λp d=>by
  obtain⟨q,g,d⟩:=xcf.mp (show p∈raiseL a (R b l) from d);have c:=zbjr b (λx f=>hr x (xbf _ f)) h q g;rw[zei c.2 (hr a xbv)] at d;have e:=(xcn.mp d).1;exact⟨(zdd c.2 p e).2.trans c.1,zkr q c.2 p e⟩
theorem zrm(d:∀r∈a,∀x∈r,0<=x)(h:Rows n l):Rows n (doneL a l):=λp c=>by
 obtain⟨r,b,c⟩:=xcf.mp c;exact zbjr r (d r b) h p c
theorem zbqv(h:k<=16):∀r∈ptT.getD k [],∀x∈r,0<=x:=λr a x b=>by
 have:=(zzf h r a).2 x b;lia
theorem zio(e:Rows n a)(f:Rows n b):Rows n (mulL a b):=λp c=>by
 obtain⟨u,d,c⟩:=xcf.mp c;obtain⟨v,g,rfl⟩:=xbq.mp c;exact⟨(ztg ((e u d).1.trans (f v g).1.symm)).trans (e u d).1,zbjp (e u d).2 (f v g).2⟩
theorem zbla(c:k<=8)(b:Rows n f)(a:Rows n g):Rows n (shL k f g i):=(zio (zrm (zbqv (by lia)) b).odd a).odd
theorem zbex(y:k<=8)(e:Rows n f)(d:Rows n g):
  aO ((List.range (k+1)).flatMap λi:Nat=>aO (raiseL (i:Int) (shL k f g i)))=aO (mulL f (aO (raiseL (k:Int) g))):=by
 refine zzu λφ=>?_
 have o:∀p∈f,Nn p:=λp a=>(e p a).2
 have q:∀p∈g,Nn p:=λp a=>(d p a).2
 let ψ:Nat->Row->Row->Nat:=λl v u=>T (l:Int) (λE=>φ (addR u E)) v
 let H:Nat->Nat->Nat:=λi l=>xr (doneL (ptT.getD (k-i) []) f) λu=>xr g λv=>T ((i:Int)-(l:Int)) (ψ l v) u
 have x:∀i:Nat,xr (aO (raiseL (i:Int) (shL k f g i))) φ=xr (List.range (i+1)) (H i):=λi=>by
  rw[zbqr,zbrd (by lia) λp a=>(zbla y e d p a).2];unfold shL;rw[zbqr,zbwj,zbqr];show _=xr (List.range (i+1)) λl=>xr (doneL (ptT.getD (k-i) []) f) λu=>xr g λv=>T ((i:Int)-(l:Int)) (ψ l v) u
  conv=>rhs;rw[zth]
  refine zf λu b=>?_
  conv=>rhs;rw[zth]
  refine zf λv s=>?_
  have b:=zrm (zbqv (by lia)) e u b;exact cartan (b.1.trans (d v s).1.symm) b.2 (q v s) i φ
 rw[zfd,show(λi:Nat=>xr (aO (raiseL (i:Int) (shL k f g i))) φ)=λi=>xr (List.range (i+1)) λl=>H i l from funext x,tri];have w:∀l,l<=k->(xr (List.range (k-l+1)) λj=>H (l+j) l)=xr g λv=>xr f λm=>if l=k then ψ l v m else 0:=λl h=>by
  have t:∀j:Nat,H (l+j) l=xr g λv=>xr f λm=>xr (ptT.getD (k-l-j) []) λr=>Act r (T (j:Int) (ψ l v)) m:=λj=>by
   show(xr (doneL (ptT.getD (k-(l+j)) []) f) λu=>xr g λv=>T (((l+j:Nat):Int)-(l:Int)) (ψ l v) u)=_;rw[zth];refine zf λv _=>?_
   rw[show(((l+j:Nat):Int)-(l:Int))=(j:Int) by lia,show k-(l+j)=k-l-j by lia];rw[show(λu=>T (j:Int) (ψ l v) u)=T (j:Int) (ψ l v) from rfl,zbkb (zbqv (by lia)) o];exact zth _ _ _
  rw[show(λj=>H (l+j) l)=λj:Nat=>xr g λv=>xr f λm=>xr (ptT.getD (k-l-j) []) λr=>Act r (T (j:Int) (ψ l v)) m from funext t,zth];refine zf λv _=>?_
  rw[zth];refine zf λm C=>?_
  rw[zblk (by lia) (ψ l v) (o m C)];by_cases z:l=k
  ·rw[if_pos z,if_pos (by lia)]
  ·rw[if_neg z,if_neg (by lia)]
 rw[zf λl h=>w l (by have:=xbn.mp h;lia)];rw[zmd (k:=k) (by lia) λc A=>?_]
 ·rw[zbwj];simp only[xfl];rw[zth];refine zf λu _=>?_
  rw[zbqr,zbrd (by lia) q]
 ·simp only[A,xfa,zfc]
theorem R_ge:∀(b:Row) {l:List Row},(∀x∈b,0<=x)->Rows n l->∀x∈R b l,∃p∈l,Ge p x/\x.sum=p.sum+b.sum
 |[],l,_,_,x,c=>⟨x,c,Ge.refl x,by simp⟩
 |a::b,l,hr,h,x,c=>by
  obtain⟨q,e,c⟩:=xcf.mp (show x∈raiseL a (R b l) from c);have d:∀x∈b,0<=x:=λx c=>hr x (xbf _ c)
  obtain⟨p,f,i,k⟩:=R_ge b d h q e;obtain⟨g,j⟩:=zol (zbjr b d h q e).2 (hr a xbv) c;exact⟨p,f,i.trans g,by rw[xcu];lia⟩
theorem zbdz:∀{p u v:Row},Ge p u->p.length=v.length->Ge (addR p v) (addR u v)
 |[],[],v,_,_=>by
  show Ge (([]:Row).zip v |>.map _) _;simp[addR];exact Ge.refl []
 |a::p,b::u,[],_,hl=>by cases hl
 |a::p,b::u,c::v,h,hl=>by
  have d:=zbdz (p:=p) (u:=u) (v:=v) h.2 (by simpa using hl);exact⟨by have:=h.1;show a+c<=b+c;lia,d⟩
theorem zbbi:(List.range 7).all (λn=>(List.range 9).all λT=>(List.range 9).all λk=>Nat.ble (T+k) 8==false||Nat.ble ((bif Nat.ble n 3 then 16 else 4)*(ctb n T*ctb n k)) 600000)=true:=by decide +kernel
theorem zbiw:(List.range 7).all (λn=>(List.range 9).all λT=>Nat.ble ((bif Nat.ble n 3 then 16 else 4)*ctb n T) 15000)=true:=by decide +kernel
structure Two51 (n k:Nat) (f g:List Row):Prop where
 sf:Sft n k f g
 n0:1<=n
 fl:f.length<=bif Nat.ble n 3 then 4 else 2
 gl:g.length<=bif Nat.ble n 3 then 4 else 2
 fs:∀r∈f,r.sum<=bif Nat.ble n 3 then 10 else 4
 gs:∀r∈g,r.sum<=bif Nat.ble n 3 then 10 else 4
theorem Two51.rf(h:Two51 n k f g):Rows n f:=λr a=>⟨h.sf.f1.len r a,h.sf.f1.pos r a⟩
theorem Two51.rg(h:Two51 n k f g):Rows n g:=λr a=>⟨h.sf.g1.len r a,h.sf.g1.pos r a⟩
theorem Two51.len(h:Two51 n k f g):(mulL f g).length<=bif Nat.ble n 3 then 16 else 4:=by
 rw[zev];refine xbc (xkt h.fl h.gl) ?_;cases Nat.ble n 3<;>decide
theorem Two51.sum(h:Two51 n k f g):∀r∈mulL f g,r.sum<=bif Nat.ble n 3 then 20 else 8:=λr c=>by
 obtain⟨u,d,c⟩:=xcf.mp c;obtain⟨v,i,rfl⟩:=xbq.mp c;have a:=h.fs u d;have b:=h.gs v i;rw[zgr ((h.rf u d).1.trans (h.rg v i).1.symm)];cases e:Nat.ble n 3<;>rw[e] at a b<;>simp only[xlw,xmi] at a b ⊢<;>lia
theorem Two51.mem(h:Two51 n k f g) (s:i<=k):∀x∈shL k f g i,x∈UU (mulL f g) (k-i):=λx b=>by
 have o:=h.sf.kz.k8;obtain⟨u,a,b⟩:=xcf.mp (zdq b);obtain⟨v,l,rfl⟩:=xbq.mp b;obtain⟨r,e,a⟩:=xcf.mp (zdq a);obtain⟨p,d,j,q⟩:=R_ge r (zbqv (k:=k-i) (by lia) r e) h.rf u a;have t:=(zzf (k:=k-i) (by lia) r e).1;have c:p.length=v.length:=(h.rf p d).1.trans (h.rg v l).1.symm;have m:u.length=v.length:=j.len.trans c;refine xcf.mpr ⟨addR p v,xcf.mpr ⟨p,d,xbq.mpr ⟨v,l,rfl⟩⟩,zjv (zbdz j c) ?_⟩;rw[zgr c,zgr m];lia
theorem Two51.item(h:Two51 n k f g){T:Nat}(t:T<=8) (m:x∈UU (mulL f g) T):x.length=n/\(∀y∈x,0<=y/\y<=1000)/\box x<=20000:=by
 obtain⟨p,d,o⟩:=xcf.mp m;obtain⟨j,q⟩:=zoa o;have c:=zio h.rf h.rg p d;have a:=j.pos c.2;have b:=j.len.trans c.1;have s:=h.sum p d;have r:=h.sf.kz.n6;have l:x.sum<=28:=by
  cases e:Nat.ble n 3<;>rw[e] at s<;>simp only[xlw,xmi] at s<;>lia
 refine⟨b,λy i=>⟨a y i,by have:=zbne a y i;lia⟩,?_⟩;cases e:Nat.ble n 3<;>rw[e] at s<;>simp only[xlw,xmi] at s
 ·exact zbjd (by lia) a (by lia)
 ·exact zbqd (by have:=xfk e;lia) a (by lia)
theorem Two51.top(h:Two51 n k f g){T:Nat}(i:T<=8){l:List Row}(b:l.Nodup)(a:∀x∈l,x∈UU (mulL f g) T):l.length<=15000:=by
 have d:l.length<=(UU (mulL f g) T).length:=xed b λx c=>a x c
 rw[zbbr (zio h.rf h.rg)] at d;have e:=h.sf.kz.n6;have:=xku.mp (xca.mp (xca.mp zbiw n (xbn.mpr (by lia))) T (xbn.mpr (by lia)));rw[zte (by lia)] at this;have j:=xcx (cle n T) h.len;lia
theorem Two51.total(h:Two51 n k f g){T:Nat}(v:T+i<=8){l:List Row}(o:l.Nodup)(d:∀x∈l,x∈UU (mulL f g) T):(raiseL (i:Int) l).length<=600000:=by
 have b:=zio h.rf h.rg;have u:(raiseL (i:Int) l).length<=l.length*cle n i:=zqi λr m=>by
  obtain⟨p,e,s⟩:=xcf.mp (d r m);obtain⟨a,j⟩:=zoa s;have:=zze (k:=i) (a.pos (b p e).2)
  rwa [a.len,(b p e).1] at this
 have a:l.length<=(UU (mulL f g) T).length:=xed o λx q=>d x q
 rw[zbbr b] at a;have j:l.length*cle n i<=(mulL f g).length*(cle n T*cle n i):=by
  rw[←xkc];exact xcx _ a
 have t:=h.sf.kz.n6;have:=xca.mp (xca.mp (xca.mp zbbi n (xbn.mpr (by lia))) T (xbn.mpr (by lia))) i (xbn.mpr (by lia));have c:Nat.ble (T+i) 8=true:=xku.mpr (by lia);rw[c] at this;have:=xku.mp (by simpa using this);rw[zte (by lia),zte (by lia)] at this;have w:=xcx (cle n T*cle n i) h.len;lia
theorem Two51.raised(h:Two51 n k f g) (b:i<=k):(aO (raiseL (i:Int) (shL k f g i))).length<=15000:=by
 have c:=h.sf.kz.k8;refine h.top (T:=k) (by lia) (zcm _) λx a=>?_
 have:=zgs (k:=i) (zio h.rf h.rg) (h.mem b) (zdq a)
 rwa [show k-i+i=k by lia] at this
theorem zsg{N k:Nat}{d:Int}(j:d=k) (h:Sft N k f g)(q:∀c,Q (.lst (shD k f g)) (au++c)):WP (zep [.int d,aK f,aK g] au) Q:=by
 have p:=h.kz.k8;refine zju rfl ?_;simp only[W,V];refine WP.of zgm ⟨true,rfl,?_⟩;rw[if_neg (by decide)];refine WP.of (chain45 (i:=d) rfl) ?_;simp only[W,V];rw[xbw (by lia:(0:Int)<=d),xbw (by lia:d<=8)];simp only[W,V,Bool.and_self,Bool.not_true];refine zbxo j (by lia) λo=>?_
 subst j;refine⟨_,rfl,rngN (by lia) (by lia),by rw[zbh];exact small _ (by lia),?_⟩;rw[show((k:Int)+1).toNat=k+1 by lia];refine ztn (λi acc σ s=>(∃v,σ=[v,some (aK g),some (aK f),some (.lst ((ptT.take (k+1)).map aK)),some (.int k)])/\(∃c,s=au++c)/\acc=(List.range i).map λi:Nat=>.tup [.int (i:Int),aK (shL k f g i)]) ⟨⟨_,rfl⟩,⟨o,rfl⟩,rfl⟩ ?_ ?_
 ·rintro i x acc σ s m ⟨⟨v,rfl⟩,⟨c,rfl⟩,rfl⟩;obtain⟨w,rfl⟩:=zif m;refine⟨_,rfl,?_⟩;simp only[W,V];refine⟨trivial,WP.of (zbrq (k:=k) (i:=i) (by lia) (by lia)) ?_⟩;refine zbic h.kz.kx (by lia) (.inl rfl) (zbwp (k:=k-i) (by lia)).1 (by have:=(zbwp (k:=k-i) (by lia)).2;lia) (λr e=>by have:=(zblm (k:=k-i) (by lia)).2 r e;lia) (zuz (by lia) (by lia)) h.f1.rise λl=>?_
  obtain⟨a,b⟩:=h.done (i:=i) (by lia);have t:=h.kz.n6;refine zmy (λr e=>by rw[b.len r e];lia) (by have:=xkt a h.gl;lia) λn=>⟨small _ (by simp),⟨_,rfl⟩,⟨c++(l++n),by simp⟩,?_⟩
  rw[xfw,xdi,List.map_singleton];rw[show(0:Int)+i=i by lia]
  rfl
 ·rintro u σ s ⟨_,⟨c,rfl⟩,rfl⟩;rw[zbh];exact q c
def accL(k:Nat) (f g:List Row) (j:Nat):List Row:=(List.range j).flatMap λi:Nat=>aO (raiseL (i:Int) (shL k f g i))
theorem zsc(k:Nat)(f g:List Row)(j:Nat):accL k f g (j+1)=accL k f g j++aO (raiseL (j:Int) (shL k f g j)):=by
 unfold accL;rw[xfw,xis,List.flatMap_singleton]
theorem zpr(h:Two51 n k f g):∀j,j<=k+1->(accL k f g j).length<=j*15000
 |0,_=>by simp[accL]
 |j+1,hj=>by
  have:=zpr h j (by lia);have:=h.raised (i:=j) (by lia);rw[zsc,xbk];lia
theorem zbhb{N k:Nat}{o:Int}(C:o=k) (h:Two51 N k f g)
  (q:∀w9 b c s,I [S,v1,v2,v3,v4,v5,some (aK f),some (aK g),some (.int o),w9,b,c] s):
  WP (aD (aF 9 (eLstM aC))
 (aD (sFor (aH (aE zep (aB (aA 8) (aB (aA 6) (aB (aA 7) aC))))) (gT 2 (gsCons (gN 10) (gsCons (gN 11) gsNil))) zpv)
 (sIf (eB (aS oNe (aE zbe (aB (eFz (aA 9)) aC)) (aE zcq (aB (aA 6) (aB (aE zbp (aB (aA 7) (aB (aA 8) aC))) aC))))) (sRet (eC (.bl false))) sNx))
  [S,v1,v2,v3,v4,v5,some (aK f),some (aK g),some (.int o),v9,v10,v11] au) (loopK I Q):=by
 have k8:=h.sf.kz.k8;have n6:=h.sf.kz.n6;simp only[W,V,Dd.N];refine⟨small _ (by simp),?_⟩;refine zsg C h.sf λw=>⟨_,rfl,?_⟩
 have U:au++[O.lst []]++w=au++(.lst (aJ (accL k f g 0))::w):=by simp[accL,aJ]
 rw[U];refine zcb (λj σ s=>(∃b c,σ=[S,v1,v2,v3,v4,v5,some (aK f),some (aK g),some (.int o),some (.ref au.length),b,c])/\∃m,s=au++(.lst (aJ (accL k f g j))::m)) ⟨⟨_,_,rfl⟩,w,rfl⟩ ?_ ?_
 ·rintro j y σ s hy ⟨⟨b,c,rfl⟩,m,rfl⟩;obtain⟨d,u,rfl⟩:=zha hy;obtain⟨a0,rfl⟩:j<k+1/\d=j:=by
   have:=xbd.mp u;obtain⟨E,z⟩:=this;rw[xft] at E;rw[List.getElem_range] at z;exact⟨E,z.symm⟩
  refine⟨_,rfl,?_⟩;unfold zpv;simp only[W,V,M,Dd.N,L,zfp];have t:∀r∈shL k f g d,r.length=N/\(∀y∈r,0<=y/\y<=1000)/\box r<=20000:=λr a=>h.item (T:=k-d) (by lia) (h.mem (by lia) r a)
  have tot:(raiseL (d:Int) (shL k f g d)).length<=600000:=h.total (T:=k-d) (i:=d) (by lia) (zcm _) (h.mem (by lia));have Y:=h.raised (i:=d) (by lia);have n:=zpr h d (by lia);refine⟨_,_,rfl,zcd _ _,?_⟩;refine zlj (by lia) (λr a=>(t r a).2.1) (λr a=>by rw[(t r a).1];lia) (λr a=>(t r a).2.2) (by lia) λv=>?_
  simp only[W,V,M,Dd.N];rw[xcm,xhl];refine⟨_,_,_,rfl,zcd _ _,rfl,by rw[zc,zc];exact small _ (by lia),⟨_,_,rfl⟩,m++v,?_⟩;rw[zgy,zsc];simp[aJ]
 ·rintro σ s ⟨⟨b,c,rfl⟩,m,rfl⟩;have el:(shD k f g).length=k+1:=by unfold shD;rw[xbb,xft]
  rw[el];have n:=zpr h (k+1) (by lia);simp only[W,V,M,Dd.N];refine⟨_,_,rfl,zcd _ _,?_⟩;refine zmw (l:=accL k f g (k+1)) rfl (by lia) λv=>?_
  subst C;have A:=h.gl;have J:=h.fl;have g4:g.length<=4:=by cases e:Nat.ble N 3<;>rw[e] at A<;>simp only[xlw,xmi] at A<;>lia
  have f4:f.length<=4:=by cases e:Nat.ble N 3<;>rw[e] at J<;>simp only[xlw,xmi] at J<;>lia
  have H:∀r∈g,r.sum<=10:=λr a=>by
   have:=h.gs r a;cases e:Nat.ble N 3<;>rw[e] at this<;>simp only[xlw,xmi] at this<;>lia
  have G:∀r∈g,box r<=20000:=λr a=>zbjd (by rw[(h.rg r a).1];lia) (h.rg r a).2 (by have:=H r a;lia)
  have rl:=zii (k:=(k:Int)) G;have ol:=zka (raiseL (k:Int) g);refine znd (B:=20000) (by lia) (λr a x P=>⟨(h.rg r a).2 x P,by have:=zbne (h.rg r a).2 x P;have:=H r a;lia⟩) (λr a=>by rw[(h.rg r a).1];lia) G (by lia) (by lia) λp=>?_
  refine znc (λr a=>by rw[(h.rf r a).1];lia) (by have:=xkt f4 (show(aO (raiseL (k:Int) g)).length<=80000 by lia);lia) λX=>?_
  rw[show aO (accL k f g (k+1))=aO (mulL f (aO (raiseL (k:Int) g))) from zbex k8 h.rf h.rg];generalize List.set (au++O.lst (aJ (accL k f g (k+1)))::m) (List.length au) O.dead++v++p++X=sx;have e:oNe (aK (aO (mulL f (aO (raiseL (k:Int) g))))) (aK (aO (mulL f (aO (raiseL (k:Int) g))))) sx=.ok (.bl false) sx:=by
   have:=zbmy (au:=sx) (neg:=true) (aO (mulL f (aO (raiseL (k:Int) g)))) (aO (mulL f (aO (raiseL (k:Int) g))))
   simpa using this
  exact WP.of e (q _ _ _ _)
theorem zbaj(t:List Int)(hl:t.length<=63):∃st',zbwh [.scr (t.map .int)] []=.ok (.bl true) st':=by
 have Q:WP (zbwh [.scr (t.map .int)] []) (λv _=>v=.bl true):=by
  refine zju rfl ?_;simp only[W,V];have a0:((t.map D.int).length:Int)<=63:=by rw[xbb];lia
  have J:(0:Int)<=((t.map D.int).length:Int):=by lia
  generalize ((t.map D.int).length:Int)=len at a0 J;refine⟨_,rfl,rngN (by split<;>lia) (by split<;>lia),?_⟩;refine zcb (λi σ s=>∃v1 Y I H G C A y w b j:Option D,σ=[some (.scr (t.map .int)),v1,Y,I,H,G,C,A,y,w,b,j]) ⟨_,_,_,_,_,_,_,_,_,_,_,rfl⟩ ?_ ?_
  ·rintro i x σ s0 hx ⟨v1,Y,I,H,G,C,A,y,w,b,j,rfl⟩;obtain⟨hi,rfl⟩:=zif hx;have a4:i<=100:=by split at hi<;>lia
   refine⟨_,rfl,?_⟩;unfold zya;refine zeg (R:=λo s=>o=.nx [some (.scr (t.map .int)),some (.int i),some (.ref s0.length),I,H,G,C,A,y,w,b,j]/\BagAt s s0.length) ?_ ?_
   ·simp only[W,V];rw[xhu];exact zbvt hl (by lia) λg q=>⟨rfl,q⟩
   rintro o s ⟨rfl,q⟩;show WP _ _;generalize s0.length=n at q ⊢;refine zeg (R:=λo s=>∃N:Int,(1<=N/\N<=6)/\o=.nx [some (.scr (t.map .int)),some (.int i),some (.ref n),some (.int N),H,G,C,A,y,w,b,j]/\BagAt s n) ?_ ?_
   ·simp only[W,V];refine zgx q (by lia) (by lia) λn0 s1 n1 n2 E=>?_
    try simp only[W,V]
    refine zgx E.bag (by lia) (by lia) λn3 s2 n4 n5 d2=>?_
    try simp only[W,V]
    exact⟨.inl ⟨by decide,by decide⟩,_,⟨by split<;>lia,by split<;>lia⟩,rfl,d2.bag⟩
   rintro o s ⟨N,hN,rfl,q⟩;show WP _ _;refine zeg (R:=λo s=>o=.nx [some (.scr (t.map .int)),some (.int i),some (.ref n),some (.int N),some (.int (if 3<N then 2 else 4)),some (.int (if 3<N then 4 else 10)),C,A,y,w,b,j]/\BagAt s n) ?_ ?_
   ·simp only[W,V];refine⟨small _ (by simp),small _ (by simp),small _ (by simp),trivial,?_⟩;by_cases c:3<N
    ·simp only[c,xfl];refine zbtw (d:=.tup [.int 2,.int 4]) rfl rfl ?_;exact⟨rfl,q⟩
    ·simp only[c,xfa];refine zbtw (d:=.tup [.int 4,.int 10]) rfl rfl ?_;exact⟨rfl,q⟩
   rintro o s ⟨rfl,q⟩;show WP _ _;have m0:(0:Int)<=(if 3<N then 2 else 4)/\(if 3<N then(2:Int) else 4)<=4:=by split<;>lia
   have U:(0:Int)<=(if 3<N then 4 else 10)/\(if 3<N then(4:Int) else 10)<=10:=by split<;>lia
   generalize hm:(if 3<N then(2:Int) else 4)=m at m0;generalize hd:(if 3<N then(4:Int) else 10)=d at U;refine zeg (R:=λo s=>∃f:List Row,(f.length<=m/\SumOk N.toNat f/\∀r∈f,r.sum<=d)/\o=.nx [some (.scr (t.map .int)),some (.int i),some (.ref n),some (.int N),some (.int m),some (.int d),some (aK f),A,y,w,b,j]/\BagAt s n) ?_ ?_
   ·simp only[W,V];exact zbbz q hN.1 (by lia) m0.1 (by lia) U.1 (by lia) λl s1 a1 a2 a3 E=>⟨l,⟨a1,a2,a3⟩,rfl,E.bag⟩
   rintro o s ⟨f,⟨f1,S,f3⟩,rfl,q⟩;show WP _ _;refine zeg (R:=λo s=>∃g:List Row,(g.length<=m/\SumOk N.toNat g/\∀r∈g,r.sum<=d)/\o=.nx [some (.scr (t.map .int)),some (.int i),some (.ref n),some (.int N),some (.int m),some (.int d),some (aK f),some (aK g),y,w,b,j]/\BagAt s n) ?_ ?_
   ·simp only[W,V];exact zbbz q hN.1 (by lia) m0.1 (by lia) U.1 (by lia) λl s1 a1 a2 a3 E=>⟨l,⟨a1,a2,a3⟩,rfl,E.bag⟩
   rintro o s ⟨g,⟨g1,g2,g3⟩,rfl,q⟩;show WP _ _;refine zeg (R:=λo s=>∃k:Nat,k<=8/\o=.nx [some (.scr (t.map .int)),some (.int i),some (.ref n),some (.int N),some (.int m),some (.int d),some (aK f),some (aK g),some (.int (k:Int)),w,b,j]) ?_ ?_
   ·simp only[W,V];refine zgx q (by lia) (by lia) λp s1 p1 p2 E=>?_
    obtain⟨p,rfl⟩:=xda p1;exact⟨p,by lia,rfl⟩
   rintro o s ⟨k,k8,rfl⟩;show WP _ _;have P:Nat.ble N.toNat 3=!decide (3<N):=by
    by_cases c:3<N
    ·rw[xbw c];cases z:Nat.ble N.toNat 3 with
     |false=>rfl
     |true=>have:=xfk z;lia
    ·rw[xcd c];exact xju (by lia)
   have X:∀l:Nat,(l:Int)<=m->l<=bif Nat.ble N.toNat 3 then 4 else 2:=λl h=>by
    rw[P];by_cases c:3<N
    ·rw[if_pos c] at hm;rw[xbw c];show l<=2;lia
    ·rw[if_neg c] at hm;rw[xcd c];show l<=4;lia
   have fd:∀z:Int,z<=d->z<=bif Nat.ble N.toNat 3 then 10 else 4:=λz h=>by
    rw[P];by_cases c:3<N
    ·rw[if_pos c] at hd;rw[xbw c];show z<=4;lia
    ·rw[if_neg c] at hd;rw[xcd c];show z<=10;lia
   have two:Two51 N.toNat k f g:=by
    refine⟨⟨⟨⟨λr u=>⟨S.len r u,S.pos r u⟩,?_⟩,by lia,k8,?_⟩,S,g2,by lia⟩,by lia,X _ f1,X _ g1,λr u=>fd _ (f3 r u),λr u=>fd _ (g3 r u)⟩
    ·by_cases c:3<N
     ·rw[if_pos c] at hm hd;exact .inr ⟨by lia,k8,by lia,λr u=>by have:=f3 r u;lia⟩
     ·exact .inl ⟨by lia,by lia,by lia,λr u=>by have:=f3 r u;lia⟩
    ·have:=X _ f1;rw[P] at this ⊢;by_cases c:3<N
     ·rw[xbw c] at this ⊢;exact this
     ·rw[xcd c] at this ⊢;exact xbc this (by decide)
   exact zbhb rfl two λ_ _ _ _=>⟨_,_,_,_,_,_,_,_,_,_,_,rfl⟩
  ·rintro σ s ⟨v1,Y,I,H,G,C,A,y,w,b,j,rfl⟩;simp only[W,V]
 obtain⟨a,st',e,rfl⟩:=Q.get;exact⟨st',e⟩
end Dd
namespace K51
theorem holds:∀a:List Int,a.length<=63->∃st',Dd.zbwh [.scr (a.map .int)] []=.ok (.bl true) st':=λa b=>Dd.zbaj a b
end K51
namespace K51
open L2 Dd
noncomputable def top(i:Nat):Stmt:=PySem.Challenge.pw_raisedsums_k51_whole_shifted_comes_to_it.main.body.getD i (.Pass ⟨0,0,0,0⟩)
theorem zsu{Y:En}(T:TopF Y.K "_law_bag" (top 41))(e:Y.mg "len"=none)(a:Y.mg "abs"=none)(h:Y.mg "min"=none)(i:Y.mg "range"=none):Cl Y "_law_bag" 1 ["_law_script","_law_at"] zgb:=cmk ["_law_script","_law_at","_law_cell","_law_mix","_law_k"] T λb f g A c s H E d=>(zb (sst b zh)
 (zb (zel (zce (zsn d.units0) zsw sv (zq zco zxo rfl e zxf (sa1 sv)) (nomark _)) (zd (sst b (zq zbiz zbwb rfl a zbvr (sa1 (zlv sv sv (λ_ _=>rfl)))))) zcf)
 (zb (sst b (sad (zhj zjk (oI_D λ_ _ _ _=>.int _) zh sv) zh))
 (zb (sfr (zca rfl i (sa1 (zq (zly rfl) zbwc rfl h zbjb (sa2 (zq zco zxo rfl e zxf (sa1 sv)) zh)))) (sgn b)
 (zd (sst b (zhj zsm (oI_D λ_ _ _ _=>.int _) (sad (sad (zhj zjk (oI_D λ_ _ _ _=>.int _) sv zh) (zhj zsm (oI_D λ_ _ _ _=>.int _) (zlv sv sv (λ_ _=>rfl)) zh)) sv) zh))))
 (zb (zel (zce (zsn d.units0) zsw sv (zhj zbsx (oI_D λ_ _ _ _=>.int _) zh zh) (nomark _)) (zd (sst b zh)) zcf)
 (zd (zm (zeb (sa2 sv sv)))))))))
theorem zst{Y:En}(T:TopF Y.K "_law_odd" (top 43))(g:Y.mg "sorted"=none)(e:Y.mg "tuple"=none):Cl Y "_law_odd" 1 ["_law_things"] zbe:=cmk ["_law_things","_law_odd_here","_law_thing"] T λc f d A b s H E a=>(zb (sst c zkk)
 (zb (sfr (zy sv) (sgn c)
 (zd (zpd (zbdh a) sv sv (zbpl (zbio (zbdh a) sv sv zbjw ⟨rfl,rfl,rfl,rfl⟩)) rfl)))
 (zd (zm (zbn zba zdv rfl e zda (sa1 (zq (zbo rfl a.units) zdw rfl g zcv (sa1 (zfh rfl (zbih sv) (λ_ _ _ _ _=>(zbi (i:=0) (show(["_law_thing","_law_odd_here"]:List Str).Nodup from by decide +kernel) rfl (Or.inl rfl))) (λ_ _ _ _ _=>(zgn (zea (zbpn (zbdh a) sv sv (λ_ _=>rfl))))) (λ_ _ _ _ _=>sv) (N:=["_law_thing","_law_odd_here"]) (k:=1) (is:=[1]) (zem (by rfl)))))))))))
theorem zos{Y:En}(T:TopF Y.K "_law_take" (top 42)): Cl Y "_law_take" 1 ["_law_bag_here","_law_many"] zt:=cmk ["_law_bag_here","_law_many","_law_digit","_law_number","_law_room"] T λa f d A b s H E c=>(zb (zel (zce zbtb (zsx λ_ _ _ _=>.bl _) (zlv sv zh (λ_ _=>rfl)) zh (nomark _)) (zb (sst a (zhj zsm (oI_D λ_ _ _ _=>.int _) (zlv sv zh (λ_ _=>rfl)) sv))
 (zb (zrj (zhj zoo (oI_D λ_ _ _ _=>.int _) (zlv sv zh (λ_ _=>rfl)) sv) sv zh)
 (zd (zm sv)))) zcf)
 (zb (sst a zh)
 (zb (sst a zh)
 (zb (zls xkg (zce (zsn c.units0) zsw sv sv (nomark _)) (zb (zrj (zhj zsm (oI_D λ_ _ _ _=>.int _) (sad (zhj zjk (oI_D λ_ _ _ _=>.int _) (zlv sv zh (λ_ _=>rfl)) zh) zh) zh) sv zh)
 (zb (sst a (sad (zhj zjk (oI_D λ_ _ _ _=>.int _) sv zh) (zhj zsm (oI_D λ_ _ _ _=>.int _) (zhj zjk (oI_D λ_ _ _ _=>.int _) (zhj zoo (oI_D λ_ _ _ _=>.int _) (zlv sv zh (λ_ _=>rfl)) zh) zh) zh)))
 (zd (sst a (zhj zjk (oI_D λ_ _ _ _=>.int _) sv zh))))))
 (zd (zm (zhj zsm (oI_D λ_ _ _ _=>.int _) sv sv)))))))
theorem zjp{Y:En}(T:TopF Y.K "_law_product" (top 44))(h:Y.mg "range"=none)(g:Y.mg "tuple"=none)(c:Cl Y "_law_take" 1 ["_law_bag_here","_law_many"] zt):Cl Y "_law_product" 2 ["_law_bag_here","_law_n","_law_degree"] zcx:=cmk ["_law_bag_here","_law_n","_law_degree","_law_left","_law_exponents","_law_k","_law_at"] T λa f e A d s H E b=>(zb (sst a (scl c b (sa2 sv (sad sv zh))))
 (zb (zel (zce (zop b.units) zbcn (scl c b (sa2 sv zh)) zh (nomark _)) (zd (sst a sv)) zcf)
 (zb (sst a (zeb zbr))
 (zb (sfr (zca rfl h (sa1 (ssb sv zh))) (sgn a)
 (zb (zw (zcu sv (sa1 (scl c b (sa2 sv (sad sv zh))))))
 (zd (sst a (ssb sv (zlv sv (zbay zh) (λ_ _=>rfl)))))))
 (zb (zw (zcu sv (sa1 sv)))
 (zb (sst a (scl c b (sa2 sv sv)))
 (zd (zm (zbn zba zdv rfl g zda (sa1 (sad (zbpi sv (zja sv) zjb) (zbpi sv zjb (zja sv)))))))))))))
theorem zss{Y:En}(T:TopF Y.K "_law_sum" (top 45))(h:Y.mg "range"=none)(e:Cl Y "_law_odd" 1 ["_law_things"] zbe)(d:Cl Y "_law_take" 1 ["_law_bag_here","_law_many"] zt)(c:Cl Y "_law_product" 2 ["_law_bag_here","_law_n","_law_degree"] zcx):Cl Y "_law_sum" 3 ["_law_bag_here","_law_n","_law_many","_law_degree"] zga:=cmk ["_law_bag_here","_law_n","_law_many","_law_degree"] T λi f g A b s H E a=>(zd (zm (scl e a (sa1 (scp ["_law_k","_law_bag_here","_law_n","_law_degree"] (zca rfl h (sa1 (scl d a (sa2 sv (sad sv zh))))) (λ_ _ _ _ _=>(scl c a (zu sv (sa2 sv sv)))))))))
theorem zor{Y:En}(T:TopF Y.K "rows_kept" (top 27)): Cl Y "rows_kept" 1 ["rows"] zfa:=cmk ["rows","kept","row"] T λb f d A a s H E c=>(zb (sst b zkk)
 (zb (sfr (zy sv) (sgn b)
 (zd (zpd (zbdh c) sv sv zbjw rfl)))
 (zd (zm sv))))
theorem zbmv{Y:En}(T:TopF Y.K "flip" (top 7)): Cl Y "flip" 1 ["kept","thing"] zfb:=cmk ["kept","thing"] T λd f c A b s H E a=>(zd (zel (zbun (zbml (zbdh a) sv sv)) (zd (zw (zbpm (zbdh a) sv sv ⟨rfl,rfl,rfl,rfl⟩))) (zd (zpd (zbdh a) sv sv zbjw rfl))))
theorem zso{Y:En}(T:TopF Y.K "odd_ways" (top 10)): Cl Y "odd_ways" 1 ["e","k"] zfy:=cmk ["e","k"] T λd f c A a s H E b=>(zd (zm (zbbb (zop b.units) zbcn (zhj zbga (zsx λ_ _ _ _=>.int _) sv sv) sv (nomark _))))
theorem zjl{Y:En}(T:TopF Y.K "rows_for_two" (top 22))(h:Y.mg "range"=none)(e:Y.mg "sorted"=none)(g:Cl Y "odd_ways" 1 ["e","k"] zfy):Cl Y "rows_for_two" 2 ["a","b"] zbu:=cmk ["a","b","told","c"] T λc f d A a s H E b=>(zb (sst c (zeb zbr))
 (zb (sfr (zca rfl h (sa1 (sad (zhj zoo (oI_D λ_ _ _ _=>.int _) sv zh) zh))) (sgn c)
 (zd (zel (zea (scl g b (sa2 (ssb (ssb sv sv) zh) (ssb sv (zhj zjk (oI_D λ_ _ _ _=>.int _) zh sv))))) (zd (zw (zcu sv (sa1 (zbxb (zce zbtb (zsx λ_ _ _ _=>.bl _) sv zh (nomark _)) (zdt (sa2 (ssb (sad sv sv) sv) sv)) (zdt (sa1 (sad sv sv)))))))) zcf)))
 (zd (zm (zq (zbo rfl b.units) zdw rfl e zcv (sa1 sv))))))
theorem zjm{Y:En}(T:TopF Y.K "rows_for_row" (top 23))(e:Cl Y "rows_for_two" 2 ["a","b"] zbu):Cl Y "rows_for_row" 3 ["row","place"] zbd:=cmk ["row","place","ahead","rest"] T λb f d A a s H E c=>(zb (sst b (zbpi sv zjb (zja sv)))
 (zb (sst b (zbpi sv (zja (sad sv zh)) zjb))
 (zd (zm (scp ["two","rest","ahead"] (zy (scl e c (sa2 (zlv sv sv (λ_ _=>rfl)) (zlv sv (sad sv zh) (λ_ _=>rfl))))) (λ_ _ _ _ _=>(sad (sad sv sv) sv)))))))
theorem zsq{Y:En}(T:TopF Y.K "is_whole" (top 6))(a:Y.mg "bool"=none)(c:Y.mg "isinstance"=none)(e:Y.mg "int"=none):Cl Y "is_whole" 1 ["thing"] zbc:=cmk ["thing"] T λh f d A b s H E g=>(zd (zm (zbir (zq zgo zlz rfl c zen (sa2 sv (zbba (zvd (v:=.ty "int") rfl e zbjc rfl) (λ_ _=>.ty _)))) (zbpk (zbpl (zq zgo zlz rfl c zen (sa2 sv (zbba (zvd (v:=.ty "bool") rfl a zbqc rfl) (λ_ _=>.ty _)))))))))
theorem zoq{Y:En}(T:TopF Y.K "stands_in" (top 24))(a:Y.mg "all"=none)(g:Y.mg "tuple"=none)(h:Y.mg "isinstance"=none)(d:Cl Y "is_whole" 1 ["thing"] zbc):Cl Y "stands_in" 2 ["kept","row"] zdm:=cmk ["kept","row"] T λi f e A b s H E c=>(zd (zm (zbir (zq zgo zlz rfl h zen (sa2 sv (zbba (zvd (v:=.ty "tuple") rfl g zda rfl) (λ_ _=>.ty _)))) (zbir (zq (zbiy rfl) zbvz rfl a zbvq (sa1 (scp ["part"] (zy sv) (λ_ _ _ _ _=>(scl d c (sa1 sv)))))) (zbpk (zbyz (zbml (zbdh c) sv sv)))))))
theorem zjo{Y:En}(T:TopF Y.K "falls_slowly" (top 21)): Cl Y "falls_slowly" 1 ["a","b"] zci:=cmk ["a","b"] T λd f c A a s H E b=>(zd (zm (zbbb (zsn b.units0) zsw sv (zhj zjk (oI_D λ_ _ _ _=>.int _) zh sv) (nomark _))))
theorem zsr{Y:En}(T:TopF Y.K "is_place" (top 25))(g:Y.mg "len"=none)(c:Cl Y "is_whole" 1 ["thing"] zbc)(e:Cl Y "falls_slowly" 1 ["a","b"] zci):Cl Y "is_place" 2 ["row","place"] zbw:=cmk ["row","place"] T λh f d A b s H E a=>(zb (zel (JW.pt (zbhr (ziy (zea (scl c a (sa1 sv)))) (zrh (ziy (zri zbmr (zsn a.units0) (zsx λ_ _ _ _=>.bl _) zsw zh sv (ssb (zq zco zxo rfl g zxf (sa1 sv)) zh))) (by first|exact Or.inl rfl|exact Or.inr rfl)))) (zd (zm zbjw)) zcf)
 (zd (zm (scl e a (sa2 (zlv sv sv (λ_ _=>rfl)) (zlv sv (sad sv zh) (λ_ _=>rfl)))))))
theorem zlc{Y:En}(T:TopF Y.K "exchange_in" (top 26))(g:Cl Y "stands_in" 2 ["kept","row"] zdm)(i:Cl Y "is_place" 2 ["row","place"] zbw)(c:Cl Y "flip" 1 ["kept","thing"] zfb)(h:Cl Y "rows_for_row" 3 ["row","place"] zbd):Cl Y "exchange_in" 4 ["kept","row","place"] zcy:=cmk ["kept","row","place","made"] T λe f d A b s H E a=>(zb (zel (ziy (zea (scl g a (sa2 sv sv)))) (zd zhr) zcf)
 (zb (zel (ziy (zea (scl i a (sa2 sv sv)))) (zd zhr) zcf)
 (zb (zw (scl c a (sa2 sv sv)))
 (zd (sfr (zy (scl h a (sa2 sv sv))) (sgn e)
 (zd (zw (scl c a (sa2 sv sv)))))))))
theorem zzn{Y:En}(T:TopF Y.K "walked" (top 33))(h:Y.mg "sorted"=none)(g:Y.mg "tuple"=none)(i:Cl Y "rows_kept" 1 ["rows"] zfa)(d:Cl Y "exchange_in" 4 ["kept","row","place"] zcy):Cl Y "walked" 5 ["rows","steps"] zht:=cmk ["rows","steps","kept","row","place"] T λc f e A b s H E a=>(zb (sst c (scl i a (sa1 sv)))
 (zb (sfr (zy sv) (zfg rfl (zn (sgn c) (zn (sgn c) zcz)))
 (zd (zw (scl d a (zu sv (sa2 sv sv))))))
 (zd (zm (zbn zba zdv rfl g zda (sa1 (zq (zbo rfl a.units) zdw rfl h zcv (sa1 sv))))))))
theorem zzr{Y:En}(T:TopF Y.K "moment" (top 30))(c:Y.mg "enumerate"=none)(d:Y.mg "sum"=none):Cl Y "moment" 1 ["row"] zgu:=cmk ["row"] T λg f b A a s H E e=>(zd (zm (zq (zlw rfl) zbjf rfl d zbja (sa1 (zfh rfl (zbaw rfl c sv) (λ_ _ _ _ _=>(zfg rfl (zn (zbi (i:=0) (show(["number","part"]:List Str).Nodup from by decide +kernel) rfl (Or.inl rfl)) (zn (zbi (i:=1) (show(["number","part"]:List Str).Nodup from by decide +kernel) rfl (Or.inl rfl)) zcz)))) (λ_ _ _ _ _=>zjc) (λ_ _ _ _ _=>(zhj zjk (oI_D λ_ _ _ _=>.int _) sv sv)) (N:=["number","part"]) (k:=2) (is:=[]) (zem (by rfl)))))))
theorem zmu{Y:En}(T:TopF Y.K "flip_level" (top 31))(e:Cl Y "flip" 1 ["kept","thing"] zfb)(c:Cl Y "moment" 1 ["row"] zgu):Cl Y "flip_level" 2 ["levels","row"] zcs:=cmk ["levels","row"] T λg f d A a s H E b=>(zd (zw (scl e b (sa2 (zbik sv (sa2 (scl c b (sa1 sv)) zkk)) sv))))
theorem zzq{Y:En}(T:TopF Y.K "places" (top 29))(g:Y.mg "len"=none)(c:Y.mg "range"=none)(e:Cl Y "is_place" 2 ["row","place"] zbw):Cl Y "places" 3 ["row"] zmc:=cmk ["row"] T λh f d A a s H E b=>(zd (zm (zfh rfl (zca rfl c (sa1 (ssb (zq zco zxo rfl g zxf (sa1 sv)) zh))) (λ_ _ _ _ _=>(zbi (i:=0) (show(["place","row"]:List Str).Nodup from by decide +kernel) rfl (Or.inl rfl))) (λ_ _ _ _ _=>(zgn (zea (scl e b (sa2 sv sv))))) (λ_ _ _ _ _=>sv) (N:=["place","row"]) (k:=1) (is:=[0]) (zem (by rfl)))))
theorem zbte{Y:En}(T:TopF Y.K "way" (top 32))(b:Y.mg "max"=none)(i:Y.mg "sorted"=none)(e:Cl Y "flip_level" 2 ["levels","row"] zcs)(g:Cl Y "places" 3 ["row"] zmc)(j:Cl Y "rows_for_row" 3 ["row","place"] zbd):Cl Y "way" 4 ["rows"] zbrc:=cmk ["rows","levels","row","steps","level","slow","made"] T λa f h A d s H E c=>(zb (sst a zbin)
 (zb (sfr (zy sv) (sgn a)
 (zd (zw (scl e c (sa2 sv sv)))))
 (zb (sst a (zeb zbr))
 (zb (zls xkg (zbhs sv) (zb (sst a (zbpj sv (sa1 (zq (zxb rfl) zbqi rfl b zbvp (sa1 sv)))))
 (zd (sfr (zy (zq (zbo rfl c.units) zdw rfl i zcv (sa1 sv))) (sgn a)
 (zb (sst a (scl g c (sa1 sv)))
 (zd (zel (zea sv) (zb (zw (zcu sv (sa1 (zdt (sa2 sv (zlv sv zh (λ_ _=>rfl)))))))
 (zd (sfr (zy (scl j c (sa2 sv (zlv sv zh (λ_ _=>rfl))))) (sgn a)
 (zd (zw (scl e c (sa2 sv sv))))))) zcf)))))))
 (zd (zm (zbdt sv)))))))
theorem zvi{Y:En}(T:TopF Y.K "settled" (top 34))(d:Cl Y "walked" 5 ["rows","steps"] zht)(a:Cl Y "way" 4 ["rows"] zbrc):Cl Y "settled" 6 ["rows"] zhu:=cmk ["rows"] T λg f e A b s H E c=>(zd (zm (scl d c (sa2 sv (scl a c (sa1 sv))))))
theorem zjn{Y:En}(T:TopF Y.K "parts_turned" (top 36))(c:Y.mg "range"=none)(h:Y.mg "tuple"=none)(d:Cl Y "settled" 6 ["rows"] zhu):Cl Y "parts_turned" 7 ["most"] zch:=cmk ["most","told","k","rows","i"] T λa f g A b s H E e=>(zb (sst a (zeb (sa1 (zdt (sa1 (zdt zbr))))))
 (zb (sfr (znj rfl c (sa2 zh (sad sv zh))) (sgn a)
 (zb (sst a (zeb zbr))
 (zb (sfr (znj rfl c (sa2 zh (sad sv zh))) (sgn a)
 (zd (zw (zhs sv (sa1 (scp ["rest","i"] (zy (zlv sv (ssb sv sv) (λ_ _=>rfl))) (λ_ _ _ _ _=>(sad (zdt (sa1 sv)) sv))))))))
 (zd (zw (zcu sv (sa1 (scl d e (sa1 (zbn zba zdv rfl h zda (sa1 sv)))))))))))
 (zd (zm (zbdt sv)))))
theorem zmt{Y:En}(T:TopF Y.K "multiplied" (top 17))(e:Y.mg "zip"=none)(d:Y.mg "tuple"=none)(j:Y.mg "sorted"=none)(h:Cl Y "flip" 1 ["kept","thing"] zfb):Cl Y "multiplied" 2 ["one","other"] zdz:=cmk ["one","other","kept","product","factor"] T λb f g A a s H E c=>(zb (sst b zkk)
 (zb (sfr (zy sv) (sgn b)
 (zd (sfr (zy sv) (sgn b)
 (zd (zw (scl h c (sa2 sv (zbn zba zdv rfl d zda (sa1 (zfh rfl (zbdr rfl e (sa2 sv sv)) (λ_ _ _ _ _=>(zfg rfl (zn (zbi (i:=0) (show(["e","f"]:List Str).Nodup from by decide +kernel) rfl (Or.inl rfl)) (zn (zbi (i:=1) (show(["e","f"]:List Str).Nodup from by decide +kernel) rfl (Or.inl rfl)) zcz)))) (λ_ _ _ _ _=>zjc) (λ_ _ _ _ _=>(sad sv sv)) (N:=["e","f"]) (k:=2) (is:=[]) (zem (by rfl))))))))))))
 (zd (zm (zbn zba zdv rfl d zda (sa1 (zq (zbo rfl c.units) zdw rfl j zcv (sa1 sv))))))))
theorem zzo{Y:En}(T:TopF Y.K "shares" (top 11)): Cl Y "shares" 1 ["e","least","most"] zmb:=cmk ["e","least","most","told","j"] T λb f d A a s H E c=>(zb (sst b (zeb zbr))
 (zb (sst b zh)
 (zb (zls xkg (zce zbmr (zsx λ_ _ _ _=>.bl _) sv sv (nomark _)) (zb (zel (zce zbxx (zsx λ_ _ _ _=>.bl _) sv sv (nomark _)) (zd (zw (zcu sv (sa1 sv)))) zcf)
 (zb (zel (zce (zop c.units) zbcn sv sv (nomark _)) (zd zbas) zcf)
 (zd (sst b (zhj zbga (zsx λ_ _ _ _=>.int _) (ssb sv sv) sv))))))
 (zd (zm (zbdt sv))))))
theorem zik{Y:En}(T:TopF Y.K "letter_raised" (top 12))(e:Cl Y "shares" 1 ["e","least","most"] zmb):Cl Y "letter_raised" 2 ["partly","e","rest"] zbz:=cmk ["partly","e","rest","told","made","left","j"] T λa f d A b s H E c=>(zb (sst a (zeb zbr))
 (zb (sfr (zy sv) (zfg rfl (zn (sgn a) (zn (sgn a) zcz)))
 (zd (sfr (zy (scl e c (zu sv (sa2 (ssb sv sv) sv)))) (sgn a)
 (zd (zw (zcu sv (sa1 (zdt (sa2 (sad sv (zdt (sa1 (sad sv sv)))) (ssb sv sv))))))))))
 (zd (zm (zbdt sv)))))
theorem zhh{Y:En}(T:TopF Y.K "product_raised" (top 13))(e:Y.mg "sum"=none)(g:Cl Y "letter_raised" 2 ["partly","e","rest"] zbz):Cl Y "product_raised" 3 ["product","k"] zbv:=cmk ["product","k","partly","rest","e"] T λa f d A b s H E c=>(zb (sst a (zbil (sa1 (zdt (sa2 (zdt zbr) sv)))))
 (zb (sst a (zq (zlw rfl) zbjf rfl e zbja (sa1 sv)))
 (zb (sfr (zy sv) (sgn a)
 (zb (zbow (i:=3) a rfl (Or.inl rfl) sv zbua ip_D)
 (zd (sst a (scl g c (zu sv (sa2 sv sv)))))))
 (zd (zm (zfh rfl (zy sv) (λ_ _ _ _ _=>(zfg rfl (zn (zbi (i:=0) (show(["made","left"]:List Str).Nodup from by decide +kernel) rfl (Or.inl rfl)) (zn (zbi (i:=1) (show(["made","left"]:List Str).Nodup from by decide +kernel) rfl (Or.inl rfl)) zcz)))) (λ_ _ _ _ _=>zjc) (λ_ _ _ _ _=>sv) (N:=["made","left"]) (k:=2) (is:=[]) (zem (by rfl))))))))
theorem zzp{Y:En}(T:TopF Y.K "raised" (top 14))(k:Y.mg "sum"=none)(i:Y.mg "sorted"=none)(g:Y.mg "tuple"=none)(d:Cl Y "is_whole" 1 ["thing"] zbc)(j:Cl Y "product_raised" 3 ["product","k"] zbv)(h:Cl Y "flip" 1 ["kept","thing"] zfb):Cl Y "raised" 4 ["some","k"] zgt:=cmk ["some","k","kept","product","made"] T λc f e A b s H E a=>(zb (zel (JW.pt (zbhr (ziy (zea (scl d a (sa1 sv)))) (zrh (zce (zsn a.units0) zsw sv zh (nomark _)) (by first|exact Or.inl rfl|exact Or.inr rfl)))) (zd zhr) zcf)
 (zb (sst c zkk)
 (zb (sfr (zy sv) (sgn c)
 (zd (zel (zce zbmr (zsx λ_ _ _ _=>.bl _) sv (zq (zlw rfl) zbjf rfl k zbja (sa1 sv)) (nomark _)) (zd (sfr (zy (scl j a (sa2 sv sv))) (sgn c)
 (zd (zw (scl h a (sa2 sv sv)))))) zcf)))
 (zd (zm (zbn zba zdv rfl g zda (sa1 (zq (zbo rfl a.units) zdw rfl i zcv (sa1 sv)))))))))
theorem zsp{Y:En}(T:TopF Y.K "odd_ones" (top 8))(h:Y.mg "sorted"=none)(e:Y.mg "tuple"=none)(g:Cl Y "flip" 1 ["kept","thing"] zfb):Cl Y "odd_ones" 2 ["things"] zfz:=cmk ["things","kept","thing"] T λc f d A a s H E b=>(zb (sst c zkk)
 (zb (sfr (zy sv) (sgn c)
 (zd (zw (scl g b (sa2 sv sv)))))
 (zd (zm (zbn zba zdv rfl e zda (sa1 (zq (zbo rfl b.units) zdw rfl h zcv (sa1 sv))))))))
theorem zbgc{Y:En}(T:TopF Y.K "added" (top 16))(d:Cl Y "odd_ones" 2 ["things"] zfz):Cl Y "added" 3 ["one","other"] znv:=cmk ["one","other"] T λe f c A a s H E b=>(zd (zm (scl d b (sa1 (sad sv sv)))))
theorem zuk:FnScope ["rows","some","told","last","made","ahead"] ["rows","some"] (defScope (top 19)):=⟨rfl,rfl,rfl,by decide +kernel,rfl,by decide +kernel,by decide +kernel⟩
theorem zzs{Y:En}(w:5<=j)(b:∀ l t v g,fF l t=.ok v g->l.length=2)(T:TopF Y.K "done" (top 19))(q:Y.mg "sorted"=none)(a:Y.mg "set"=none)(u:Cl Y "raised" 4 ["some","k"] zgt)(r:Cl Y "added" 3 ["one","other"] znv)(m:Cl Y "done" j ["rows","some"] fF):Cl Y "done" (j + 1) ["rows","some"] (zpw fF):=
  have d:=zuk.nd
  zxe (k:=j) T Y.X Y.G zuk (λ_ _ _ _ _ _ n o=>len2 n o λ_ _=>rfl) λf p A e s H E c=>(zb (zrk (i:=2) d rfl (Or.inl rfl) (zbxb (zce (zbta c.units) zbyc (zdt zbr) (zef (pv 0)) rfl) (zef (pv 1)) (zdt zbr)))
  (zb (zbdp xkg rfl (zy (zbys rfl zxm rfl q zcv rfl a zbvo (zu (zfh rfl (zy (zef (pv 0))) (λ_ _ _ _ _=>(zbi (i:=0) (show(["row"]:List Str).Nodup from by decide +kernel) rfl (Or.inl rfl))) (λ_ _ _ _ _=>(zgn (zea (zef (pv 0))))) (λ_ _ _ _ _=>(zlv (zef (pv 0)) (zbay zh) (λ_ _=>rfl))) (N:=["row"]) (k:=1) (is:=[]) (zem (by rfl))) zbr))) (zbi (i:=3) d rfl (Or.inr rfl))
  (zb (zrk (i:=4) d rfl (Or.inl rfl) (zrp u (λ_ _ _ _ h=>zrb h) (c.mono (by lia)) rfl (zu (zef (pv 1)) (zu (zef (pv 3)) zbr))))
  (zd (zel (zea (zef (pv 4))) (zb (zbhy (i:=5) rfl d rfl (Or.inl rfl) (zy (zef (pv 0))) (λ_ _ _ _ _=>(zbi (i:=0) (show(["row","last"]:List Str).Nodup from by decide +kernel) rfl (Or.inl rfl))) (λ_ _ _ _ _=>(zgn (JW.pt (zboq (zea (zef (pv 0))) (zrh (zce (zop c.units) zbcn (zlv (zef (pv 0)) (zbay zh) (λ_ _=>rfl)) (zef (pv 1)) (nomark _)) (by first|exact Or.inl rfl|exact Or.inr rfl)))))) (λ_ _ _ _ _=>(zbpi (zef (pv 0)) zjb (zja (zbay zh)))) (N:=["row","last"]) (k:=1) (is:=[3]) (zem (by rfl)))
  (zd (zrk (i:=2) d rfl (Or.inl rfl) (zrp r (λ_ _ _ _ h=>zrb h) (c.mono (by lia)) rfl (zu (zef (pv 2)) (zu (zrp m b c rfl (zu (zef (pv 5)) (zu (zef (pv 4)) zbr))) zbr)))))) zcf))))
  (zd (zm (zef (pv 2))))))
theorem zbmw{Y:En}(T:TopF Y.K "done" (top 19))(f:Y.mg "sorted"=none)(a:Y.mg "set"=none)(k:Cl Y "raised" 4 ["some","k"] zgt)(g:Cl Y "added" 3 ["one","other"] znv):Cl Y "done" 13 ["rows","some"] (iterF zpw 8):=CalD.iter (L:=5) (zxd T Y.X Y.G zuk (λ_ _ _ _ _ _ b d=>len2 b d λ_ _=>rfl)) (λ_ _ _ _ _ h=>zrb h) (λF j e i c=>zzs e i T f a k g c) 8
theorem zvh{Y:En}(T:TopF Y.K "shifted" (top 39))(k:Y.mg "range"=none) (a:Y.mg "MOST_SHIFTED"=some (.int 8 k_MOST_SHIFTED))(g:Cl Y "is_whole" 1 ["thing"] zbc)(e:Cl Y "parts_turned" 7 ["most"] zch)(i:Cl Y "multiplied" 2 ["one","other"] zdz)(d:Cl Y "done" 13 ["rows","some"] (iterF zpw 8)):Cl Y "shifted" 14 ["k","f","g"] zep:=cmk ["k","f","g","parts"] T λj f h A c s H E b=>(zb (zel (JW.pt (zbhr (ziy (zea (scl g b (sa1 sv)))) (zrh (ziy (zri zbmr zbmr (zsx λ_ _ _ _=>.bl _) (zsx λ_ _ _ _=>.bl _) zh sv (zbba (zbmg (v:=.int 8) rfl a ⟨_,rfl⟩) (λ_ _=>.int _)))) (by first|exact Or.inl rfl|exact Or.inr rfl)))) (zd zhr) zcf)
 (zb (sst j (scl e b (sa1 sv)))
 (zd (zm (scp ["i","g","f","parts","k"] (zca rfl k (sa1 (sad sv zh))) (λ_ _ _ _ _=>(zdt (sa2 sv (scl i b (sa2 (scl d b (sa2 (zlv sv (ssb sv sv) (λ_ _=>rfl)) sv)) sv))))))))))
theorem zmv{Y:En}(T:TopF Y.K "_law_times" (top 47))(c:Y.mg "zip"=none)(h:Y.mg "tuple"=none)(d:Cl Y "_law_odd" 1 ["_law_things"] zbe):Cl Y "_law_times" 2 ["_law_one","_law_other"] zcq:=cmk ["_law_one","_law_other","_law_found","_law_product_here","_law_factor"] T λb f g A a s H E e=>(zb (sst b (zeb zbr))
 (zb (sfr (zy sv) (sgn b)
 (zd (sfr (zy sv) (sgn b)
 (zd (zw (zcu sv (sa1 (zbn zba zdv rfl h zda (sa1 (zfh rfl (zbdr rfl c (sa2 sv sv)) (λ_ _ _ _ _=>(zfg rfl (zn (zbi (i:=0) (show(["_law_e","_law_f"]:List Str).Nodup from by decide +kernel) rfl (Or.inl rfl)) (zn (zbi (i:=1) (show(["_law_e","_law_f"]:List Str).Nodup from by decide +kernel) rfl (Or.inl rfl)) zcz)))) (λ_ _ _ _ _=>zjc) (λ_ _ _ _ _=>(sad sv sv)) (N:=["_law_e","_law_f"]) (k:=2) (is:=[]) (zem (by rfl))))))))))))
 (zd (zm (scl d e (sa1 (zbdt sv)))))))
theorem zld{Y:En}(T:TopF Y.K "_law_raised" (top 46))(g:Y.mg "min"=none)(h:Y.mg "range"=none)(d:Cl Y "_law_odd" 1 ["_law_things"] zbe):Cl Y "_law_raised" 2 ["_law_some","_law_k"] zbp:=cmk ["_law_some","_law_k","_law_found","_law_product_here","_law_ways","_law_e","_law_further","_law_grown","_law_left"] T λa f e A c s H E b=>(zb (sst a (zeb zbr))
 (zb (sfr (zy sv) (sgn a)
 (zb (sst a (zbil (sa1 (zdt (sa2 (zdt zbr) sv)))))
 (zb (sfr (zy sv) (sgn a)
 (zb (sst a (zeb zbr))
 (zb (sfr (zy sv) (zfg rfl (zn (sgn a) (zn (sgn a) zcz)))
 (zd (zw (zhs sv (sa1 (zfh rfl (zca rfl h (sa1 (sad (zq (zly rfl) zbwc rfl g zbjb (sa2 sv sv)) zh))) (λ_ _ _ _ _=>(zbi (i:=0) (show(["_law_j","_law_grown","_law_left","_law_e"]:List Str).Nodup from by decide +kernel) rfl (Or.inl rfl))) (λ_ _ _ _ _=>(zgn (zce (zop b.units) zbcn (zhj zbga (zsx λ_ _ _ _=>.int _) sv sv) sv (nomark _)))) (λ_ _ _ _ _=>(zdt (sa2 (sad sv (zdt (sa1 (sad sv sv)))) (ssb sv sv)))) (N:=["_law_j","_law_grown","_law_left","_law_e"]) (k:=1) (is:=[7,8,5]) (zem (by rfl))))))))
 (zd (sst a (zbdt sv))))))
 (zd (zw (zhs sv (sa1 (zfh rfl (zy sv) (λ_ _ _ _ _=>(zfg rfl (zn (zbi (i:=0) (show(["_law_grown","_law_left"]:List Str).Nodup from by decide +kernel) rfl (Or.inl rfl)) (zn (zbi (i:=1) (show(["_law_grown","_law_left"]:List Str).Nodup from by decide +kernel) rfl (Or.inl rfl)) zcz)))) (λ_ _ _ _ _=>(zgn (zce (zop b.units) zbcn sv zh (nomark _)))) (λ_ _ _ _ _=>sv) (N:=["_law_grown","_law_left"]) (k:=2) (is:=[]) (zem (by rfl))))))))))
 (zd (zm (scl d b (sa1 (zbdt sv)))))))
theorem zbtf{Y:En}(F:Fun Y.K "law" "law" (top 48) f fd)(t:Y.mg "len"=none)(r:Y.mg "min"=none)(n:Y.mg "range"=none)(j:Y.mg "int"=none)(c:Y.mg "list"=none)(l:Cl Y "_law_bag" 1 ["_law_script","_law_at"] zgb)(d:Cl Y "_law_take" 1 ["_law_bag_here","_law_many"] zt)(g:Cl Y "_law_sum" 3 ["_law_bag_here","_law_n","_law_many","_law_degree"] zga)(p:Cl Y "shifted" 14 ["k","f","g"] zep)(i:Cl Y "_law_raised" 2 ["_law_some","_law_k"] zbp)(m:Cl Y "_law_odd" 1 ["_law_things"] zbe)(q:Cl Y "_law_times" 2 ["_law_one","_law_other"] zcq):FnOk Y.P Y.w Y.K Y.mg Y.base CX0 15 f fd ["_law_script"] (spLaw Y.K):=
 have h:FnScope ["_law_script","_law_k","_law_bag_here","_law_n","_law_many","_law_most","_law_f","_law_g","_law_part","_law_found","_law_i","_law_some"] ["_law_script"] (defScope (top 48)):=⟨rfl,rfl,rfl,by decide +kernel,rfl,by decide +kernel,by decide +kernel⟩
 have b:=h.nd
 zbnx (k:=14) F h rfl (λo A e s H E a=>(zb (sfr (zca rfl n (sa1 (sad (zq (zly rfl) zbwc rfl r zbjb (sa2 zh (zq zco zxo rfl t zxf (sa1 sv)))) zh))) (sgn b)
 (zb (sst b (scl l a (sa2 sv sv)))
 (zb (sst b (sad (sad zh (scl d a (sa2 sv zh))) (zhj zjk (oI_D λ_ _ _ _=>.int _) zh (zbn zru zbqk rfl j zbjc (sa1 (zbbb (zop a.units) zbcn (scl d a (sa2 sv zh)) zh (nomark _)))))))
 (zb (zbhx (zlv (zbil (sa2 (zdt (sa2 zh zh)) (zdt (sa2 zh zh)))) (zbn zru zbqk rfl j zbjc (sa1 (zbbb zbtb (zsx λ_ _ _ _=>.bl _) sv zh (nomark _)))) (λ_ _=>rfl)) (zfg rfl (zn (sgn b) (zn (sgn b) zcz))))
 (zb (sst b (scl g a (zu sv (zu sv (sa2 sv sv)))))
 (zb (sst b (scl g a (zu sv (zu sv (sa2 sv sv)))))
 (zb (sst b (scl d a (sa2 sv zh)))
 (zb (sst b (zeb zbr))
 (zb (sfr (zy (scl p a (zu sv (sa2 sv sv)))) (zfg rfl (zn (sgn b) (zn (sgn b) zcz)))
 (zd (zw (zhs sv (sa1 (zbn zpj zbqj rfl c zbqb (sa1 (scl i a (sa2 sv sv)))))))))
 (zd (zel (zce (zbsy a.units) zbcn (scl m a (sa1 (zbdt sv))) (scl q a (sa2 sv (scl i a (sa2 sv sv)))) (nomark _)) (zd (zm zbjw)) zcf)))))))))))
 (zd (zm zbjw)))) K51.holds
theorem all_mk{l:W.OpenLaw}{K:Fg}(X:K.In h)(G:h.Ns mainGlobals mg)(hfa:mg "law"=some (.ref fa))
  (t1:TopF K "_law_bag" (top 41))(t2:TopF K "_law_odd" (top 43))(t3:TopF K "_law_take" (top 42))(t4:TopF K "_law_product" (top 44))(t5:TopF K "_law_sum" (top 45))(t6:TopF K "rows_kept" (top 27))(t7:TopF K "flip" (top 7))(t8:TopF K "odd_ways" (top 10))(t9:TopF K "rows_for_two" (top 22))(t10:TopF K "rows_for_row" (top 23))(t11:TopF K "is_whole" (top 6))(t12:TopF K "stands_in" (top 24))(t13:TopF K "falls_slowly" (top 21))(t14:TopF K "is_place" (top 25))(t15:TopF K "exchange_in" (top 26))(t16:TopF K "walked" (top 33))(t17:TopF K "moment" (top 30))(t18:TopF K "flip_level" (top 31))(t19:TopF K "places" (top 29))(t20:TopF K "way" (top 32))(t21:TopF K "settled" (top 34))(t22:TopF K "parts_turned" (top 36))(t23:TopF K "multiplied" (top 17))(t24:TopF K "shares" (top 11))(t25:TopF K "letter_raised" (top 12))(t26:TopF K "product_raised" (top 13))(t27:TopF K "raised" (top 14))(t28:TopF K "odd_ones" (top 8))(t29:TopF K "added" (top 16))(t30:TopF K "done" (top 19))(t31:TopF K "shifted" (top 39))(t32:TopF K "_law_times" (top 47))(t33:TopF K "_law_raised" (top 46))(t34:TopF K "law" (top 48)) (z0:W.nsIn K mainGlobals "len"=some none)(z1:W.nsIn K mainGlobals "abs"=some none)(z2:W.nsIn K mainGlobals "min"=some none)(z3:W.nsIn K mainGlobals "range"=some none)(z4:W.nsIn K mainGlobals "sorted"=some none)(z5:W.nsIn K mainGlobals "tuple"=some none)(z6:W.nsIn K mainGlobals "bool"=some none)(z7:W.nsIn K mainGlobals "isinstance"=some none)(z8:W.nsIn K mainGlobals "int"=some none)(z9:W.nsIn K mainGlobals "all"=some none)(z10:W.nsIn K mainGlobals "enumerate"=some none)(z11:W.nsIn K mainGlobals "sum"=some none)(z12:W.nsIn K mainGlobals "max"=some none)(z13:W.nsIn K mainGlobals "zip"=some none)(z14:W.nsIn K mainGlobals "set"=some none)(z15:W.nsIn K mainGlobals "list"=some none)(y0:W.nsIn K mainGlobals "MOST_SHIFTED"=some (some (.int 8 u0))):
  ∃ fd:FuncData,(∀(s:Shared) (v:Value),BindsTo s fd ⟨[v],[]⟩ [("_law_script",v)])/\∀ base:Heap,K.In base->base.Ns mainGlobals mg->FnOk l.prog w K mg base CX0 15 fa fd ["_law_script"] (spLaw K):=by
 have Af:=xdl X G z0;have z_abs:=xdl X G z1;have Ai:=xdl X G z2;have Aa:=xdl X G z3;have Ac:=xdl X G z4;have Ab:=xdl X G z5;have z_bool:=xdl X G z6;have Ak:=xdl X G z7;have Al:=xdl X G z8;have z_all:=xdl X G z9;have A3:=xdl X G z10;have Aj:=xdl X G z11;have z_max:=xdl X G z12;have Ao:=xdl X G z13;have z_set:=xdl X G z14;have z_list:=xdl X G z15;have m_MOST_SHIFTED:=W.mg_of X G y0;obtain⟨f,fd,a,F⟩:=t34;have e:=hfa.symm.trans (W.mg_of X G a);cases e;obtain⟨oc,od,kV,doc,pm,an,cdv,ct,osl,rfl,lk,hcd⟩:=id F.ex;refine⟨W.fnOf "law" "law" (defArgs (top 48)) (defBody (top 48)) (defScope (top 48)) .none kV doc pm an cdv ct,λs v=>.of_eq rfl,λbase _ _=>?_⟩
 let Y:En:=⟨l.prog,w,K,mg,base,h,X,G⟩
 have Be:=zsu (Y:=Y) t1 Af z_abs Ai Aa;have Ag:=zst (Y:=Y) t2 Ac Ab;have Ae:=zos (Y:=Y) t3;have Aw:=zjp (Y:=Y) t4 Aa Ab Ae;have Au:=zss (Y:=Y) t5 Aa Ag Ae Aw;have A1:=zor (Y:=Y) t6;have Ad:=zbmv (Y:=Y) t7;have Ax:=zso (Y:=Y) t8;have Ay:=zjl (Y:=Y) t9 Aa Ac Ax;have An:=zjm (Y:=Y) t10 Ay;have Ah:=zsq (Y:=Y) t11 z_bool Ak Al;have A0:=zoq (Y:=Y) t12 z_all Ab Ak Ah;have Az:=zjo (Y:=Y) t13;have Am:=zsr (Y:=Y) t14 Af Ah Az;have A2:=zlc (Y:=Y) t15 A0 Am Ad An;have A6:=zzn (Y:=Y) t16 Ac Ab A1 A2;have A4:=zzr (Y:=Y) t17 A3 Aj;have As:=zmu (Y:=Y) t18 Ad A4;have A5:=zzq (Y:=Y) t19 Af Aa Am;have c_way:=zbte (Y:=Y) t20 z_max Ac As A5 An;have A7:=zvi (Y:=Y) t21 A6 c_way;have Bc:=zjn (Y:=Y) t22 Aa Ab A7;have Bd:=zmt (Y:=Y) t23 Ao Ab Ac Ad;have A8:=zzo (Y:=Y) t24;have A9:=zik (Y:=Y) t25 A8;have Ba:=zhh (Y:=Y) t26 Aj A9;have Ap:=zzp (Y:=Y) t27 Aj Ac Ab Ah Ba Ad
 have Bb:=zsp (Y:=Y) t28 Ac Ab Ad;have Aq:=zbgc (Y:=Y) t29 Bb;have Ar:=zbmw (Y:=Y) t30 Ac z_set Ap Aq;have Bf:=zvh (Y:=Y) t31 Aa m_MOST_SHIFTED Ah Bc Bd Ar;have Bg:=zmv (Y:=Y) t32 Ao Ab Ag;have Av:=zld (Y:=Y) t33 Ai Aa Ag;exact zbtf (Y:=Y) F Af Ai Aa Al z_list Be Ae Au Bf Av Ag Bg
end K51
end
open PySem PySem.W PyProof.Rows
set_option maxRecDepth 100000 in
set_option maxHeartbeats 0 in
theorem PySem.Challenge.cw_raisedsums_k51_whole_shifted_comes_to_it_holds : PySem.Challenge.rw_raisedsums_k51_whole_shifted_comes_to_it.Holds := by
  w_on; o_law; k_head; (case hw => w_witness2)
  k_fill
  refine L2.zbkh (l := PySem.Challenge.rw_raisedsums_k51_whole_shifted_comes_to_it) (n := 63) (k := 15) (x := "_law_script") (CX := fun _ => L2.CX0) (sp := fun w => Dd.spLaw _) rfl (by decide) rfl ⟨rfl, by decide, by decide⟩ (fun w h Y => PySem.W.kIn_of Y) ?F (fun _ _ a ns hl _ hS => ⟨a, ns, rfl, hS, hl, fun _ => rfl⟩) (fun _ _ _ _ _ z => z)
  case F =>
    intro w mg fa h KX G hmg
    refine' K51.all_mk KX G hmg ?t1 ?t2 ?t3 ?t4 ?t5 ?t6 ?t7 ?t8 ?t9 ?t10 ?t11 ?t12 ?t13 ?t14 ?t15 ?t16 ?t17 ?t18 ?t19 ?t20 ?t21 ?t22 ?t23 ?t24 ?t25 ?t26 ?t27 ?t28 ?t29 ?t30 ?t31 ?t32 ?t33 ?t34 ?z0 ?z1 ?z2 ?z3 ?z4 ?z5 ?z6 ?z7 ?z8 ?z9 ?z10 ?z11 ?z12 ?z13 ?z14 ?z15 ?y0
    all_goals first|k_is|kernel_rfl|(refine' L2.zbj ?a ?l ?c ?k;(case a=>k_is);(case l=>k_is);(case c=>k_is);(case k=>k_is))|skip
#print axioms PySem.Challenge.cw_raisedsums_k51_whole_shifted_comes_to_it_holds
