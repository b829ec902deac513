import PyProof.Rows.All
import Wide.All
import OpenK.AllK
import Wide.FinOn
import PyProof.EqAt
import PyProof.EqKinds
import PyProof.TupleCall
import PySem.Challenge.RW_raisedsums_k60_whole_sure_degrees
set_option Elab.async false
set_option linter.all false
set_option maxRecDepth 100000
namespace PySem.W.Fast
theorem tw1297141641701155400:True:=⟨⟩
theorem tw9922631323690868061:True:=⟨⟩
theorem tw14433098983396782416:True:=⟨⟩
theorem tw12916795248694666483:True:=⟨⟩
theorem tw14413900348599252351:True:=⟨⟩
theorem tw1363756141956032685:True:=⟨⟩
theorem tw17313977111326704152:True:=⟨⟩
theorem tw3683170972956750102:True:=⟨⟩
theorem tw1638042788362182649:True:=⟨⟩
theorem tw578733810846281021:True:=⟨⟩
theorem tw15796905740335828091:True:=⟨⟩
theorem tw7189332031581883370:True:=⟨⟩
theorem tw430989455295304000:True:=⟨⟩
theorem tw9452725202402607433:True:=⟨⟩
theorem tw1506631847421994627:True:=⟨⟩
theorem tw8689692146466923516:True:=⟨⟩
theorem tw5013225649423060006:True:=⟨⟩
theorem tw10475587246885484291:True:=⟨⟩
theorem tw14691816311279708311:True:=⟨⟩
theorem tw3400011092784874744:True:=⟨⟩
theorem tw15004699442772389030:True:=⟨⟩
theorem tw2121932204372603996:True:=⟨⟩
theorem tw7682745674707191991:True:=⟨⟩
theorem tw8527713840627554707:True:=⟨⟩
theorem tw2292873257486407869:True:=⟨⟩
theorem tw1190715370276595129:True:=⟨⟩
theorem tw2558770108523992363:True:=⟨⟩
theorem tw6378874131653924531:True:=⟨⟩
theorem tw498414922799733761:True:=⟨⟩
theorem tw1186171059656182019:True:=⟨⟩
theorem tw13921905195735514125:True:=⟨⟩
theorem tw3621732306603807908:True:=⟨⟩
theorem tw16206595996982085434:True:=⟨⟩
theorem tw2866972119646469905:True:=⟨⟩
theorem tw6566019416167071708:True:=⟨⟩
theorem tw4011684577634396452:True:=⟨⟩
theorem tw6874850418110691826:True:=⟨⟩
theorem tw2295373145824302410:True:=⟨⟩
theorem tw10684530651338491356:True:=⟨⟩
theorem tw7465518638310350913:True:=⟨⟩
theorem tw4570113239863602870:True:=⟨⟩
theorem tw4940192067503947456:True:=⟨⟩
theorem tw13784254786994105336:True:=⟨⟩
theorem tw4569399530296681836:True:=⟨⟩
theorem tw3296765040129917468:True:=⟨⟩
theorem tw10669796273025256646:True:=⟨⟩
theorem tw4901023557317889769:True:=⟨⟩
theorem tw1148520378465677092:True:=⟨⟩
theorem tw6641277108248624111:True:=⟨⟩
theorem tw11253838148900469457:True:=⟨⟩
theorem tw5765444647287029462:True:=⟨⟩
theorem tw18017963027153068651:True:=⟨⟩
theorem tw1216454475929889016:True:=⟨⟩
theorem tw2089812680397110923:True:=⟨⟩
theorem tw14363151577162596429:True:=⟨⟩
theorem tw8892457554316716109:True:=⟨⟩
theorem tw2400692650213582811:True:=⟨⟩
theorem tw6440391872015342755:True:=⟨⟩
theorem tw15733003286734708152:True:=⟨⟩
theorem tw8444367244522121106:True:=⟨⟩
theorem tw16446997969654914838:True:=⟨⟩
theorem tw6600309265739774173:True:=⟨⟩
theorem tw1883302232252541283:True:=⟨⟩
theorem tw13851614422432322536:True:=⟨⟩
theorem tw5567513044949972209:True:=⟨⟩
theorem tw764253697848093711:True:=⟨⟩
theorem tw3413060571620339694:True:=⟨⟩
theorem tw4096645309536408750:True:=⟨⟩
theorem tw9276123762030288775:True:=⟨⟩
theorem tw10989302323120098308:True:=⟨⟩
theorem tw10440798330477204794:True:=⟨⟩
theorem tw9885372789972422186:True:=⟨⟩
theorem tw4410839932139194319:True:=⟨⟩
theorem tw14772585187537847872:True:=⟨⟩
theorem tw7818934647406247886:True:=⟨⟩
theorem tw9454709651662469275:True:=⟨⟩
theorem tw16943045044027171931:True:=⟨⟩
theorem tw14742864238456776855:True:=⟨⟩
theorem tw14069544513475185199:True:=⟨⟩
theorem tw7884173017736851793:True:=⟨⟩
end PySem.W.Fast
set_option genSizeOfSpec false
set_option genInjectivity false
abbrev Fg:=PySem.W.Frag
abbrev xba:=@PySem.wpAny_bind
abbrev xbb:=@List.length_map
abbrev xbc:=@Nat.le_trans
abbrev xbd:=@List.getElem?_eq_getElem
abbrev xbe:=@PySem.wpAny_pure
abbrev xbf:=@Nat.le_refl
abbrev xbg:=@Nat.lt_of_lt_of_le
abbrev xbh:=@List.getElem?_eq_some_iff
abbrev xbi:=@List.getD_eq_getElem?_getD
abbrev xbj:=@List.length_append
abbrev xbk:=@List.mem_cons_of_mem
abbrev xbl:=@PyProof.Rows.wpS_bind
abbrev xbm:=@PySem.Heap.get?_push_of_some
abbrev xbn:=@List.mem_cons_self
abbrev xbo:=@PyProof.Rows.wpS_pure
abbrev xbp:=@List.mem_cons
abbrev xbq:=@List.mem_singleton
abbrev xbr:=@List.mem_map
abbrev xbs:=@List.size_toArray
abbrev xbt:=@List.map_cons
abbrev xbu:=@List.getElem?_append_left
abbrev xbv:=@PySem.Heap.lt_size
abbrev xbw:=@List.mem_append
abbrev xbx:=@Nat.le_of_lt
abbrev xby:=@List.length_cons
abbrev xbz:=@Nat.le_add_right
abbrev xca:=@List.mem_of_getElem?
abbrev xcb:=@decide_eq_false
abbrev xcc:=@Array.length_toList
abbrev xcd:=@List.mem_range
abbrev xce:=@PySem.Heap.get?_push_size
abbrev xcf:=@Array.getElem?_toList
abbrev xcg:=@List.append_assoc
abbrev xch:=@Nat.ne_of_lt
abbrev xci:=@Nat.le_of_not_lt
abbrev xcj:=@decide_eq_true
abbrev xck:=@Nat.add_sub_cancel'
abbrev xcl:=@Bool.false_eq_true
abbrev xcm:=@Nat.add_le_add_left
abbrev xcn:=@List.getElem?_map
abbrev xco:=@List.filter_cons_of_pos
abbrev xcp:=@List.take_length
abbrev xcq:=@List.getElem?_set_ne
abbrev xcr:=@Nat.le_of_lt_succ
abbrev xcs:=@List.getElem?_append_right
abbrev xct:=@Array.getD_eq_getD_getElem?
abbrev xcu:=@List.filter_cons_of_neg
abbrev xcv:=@Option.some.inj
abbrev xcw:=@List.all_eq_true
abbrev xcx:=@List.getElem_mem
abbrev xcy:=@List.map_map
abbrev xcz:=@Nat.add_sub_cancel_left
abbrev xda:=@Array.getElem?_eq_getElem
abbrev xdb:=@List.mem_append_right
abbrev xdc:=@List.length_take
abbrev xdd:=@List.append_nil
abbrev xde:=@Nat.lt_of_le_of_lt
abbrev xdf:=@Nat.lt_of_le_of_ne
abbrev xdg:=@Option.map_eq_some_iff
abbrev xdh:=@Nat.le_of_eq
abbrev xdi:=@Nat.le_sub_one_of_lt
abbrev xdj:=@List.find?_cons
abbrev xdk:=@Nat.le_of_succ_le
abbrev xdl:=@of_decide_eq_true
abbrev xdm:=@Nat.le_of_add_left_le
abbrev xdn:=@List.take_append_drop
abbrev xdo:=@PySem.W.mg_none_of
abbrev xdp:=@Array.toList_append
abbrev xdq:=@List.take_of_length_le
abbrev xdr:=@List.filterMap_cons_some
abbrev xds:=@List.map_append
abbrev xdt:=@PyProof.Rows.wpS_forRange
abbrev xdu:=@Nat.sub_lt_left_of_lt_add
abbrev xdv:=@List.getElem?_set_self
abbrev xdw:=@Nat.zero_add
abbrev xdx:=@if_false
abbrev xdy:=@Nat.le_antisymm
abbrev xdz:=@Nat.add_lt_of_lt_sub'
abbrev xea:=@Nat.zero_le
abbrev xeb:=@Int.eq_ofNat_of_zero_le
abbrev xec:=@Int.toNat_natCast
abbrev xed:=@List.mem_append_left
abbrev xee:=@List.sum_append
abbrev xef:=@Nat.xor_assoc
abbrev xeg:=@List.filterMap_cons_none
abbrev xeh:=@List.getElem_of_mem
abbrev xei:=@Nat.add_lt_add_left
abbrev xej:=@List.length_range
abbrev xek:=@PySem.wpAny_newObj_type
abbrev xel:=@Option.bind_eq_some_iff
abbrev xem:=@Ne.symm
abbrev xen:=@Nat.mod_two_eq_zero_or_one
abbrev xeo:=@List.mem_filter
abbrev xep:=@List.nodup_cons
abbrev xeq:=@Nat.sub_lt_sub_right
abbrev xer:=@Nat.min_eq_left
abbrev xes:=@Nat.not_lt_of_le
abbrev xet:=@PySem.wpAny_call_entry
abbrev xeu:=@if_true
abbrev xev:=@PySem.Heap.SameBut.update
abbrev xew:=@Array.toList_push
abbrev xex:=@PySem.wpAny_holding
abbrev xey:=@Nat.le_sub_of_add_le'
abbrev xez:=@PySem.W.kia_one
abbrev xfa:=@List.length_set
abbrev xfb:=@List.filter_append
abbrev xfc:=@Nat.succ_le_succ
abbrev xfd:=@List.mem_flatMap
abbrev xfe:=@PySem.wpAny_mono
abbrev xff:=@Nat.lt_or_ge
abbrev xfg:=@Array.perm_iff_toList_perm
abbrev xfh:=@Nat.xor_zero
abbrev xfi:=@decide_true
abbrev xfj:=@Nat.lt_of_succ_lt
abbrev xfk:=@beq_eq_false_iff_ne
abbrev xfl:=@List.pairwise_iff_getElem
abbrev xfm:=@List.drop_eq_getElem_cons
abbrev xfn:=@PySem.Heap.get?_update_self
abbrev xfo:=@List.length_filter_le
abbrev xfp:=@Bool.false_ne_true
abbrev xfq:=@List.lookup_cons
abbrev xfr:=@List.getElem?_drop
abbrev xfs:=@decide_false
abbrev xft:=@PyProof.Rows.wpS_mono
abbrev xfu:=@PySem.F.slot_dict_keyiterator_next
abbrev xfv:=@Nat.sub_le_sub_right
abbrev xfw:=@List.pairwise_append
abbrev xfx:=@Nat.pow_le_pow_right
abbrev xfy:=@Nat.sub_pos_of_lt
abbrev xfz:=@Nat.le_succ_of_le
abbrev xga:=@List.idxOf_lt_length_of_mem
abbrev xgb:=@Nat.xor_self
abbrev xgc:=@Nat.min_le_right
abbrev xgd:=@Nat.lt_of_not_le
abbrev xge:=@List.Perm.append_left
abbrev xgf:=@List.Pairwise.sublist
abbrev xgg:=@Nat.lt_of_lt_of_eq
abbrev xgh:=@List.pairwise_cons
abbrev xgi:=@List.count_eq_zero
abbrev xgj:=@Nat.lt_trans
abbrev xgk:=@Nat.sub_le
abbrev xgl:=@List.mem_of_mem_take
abbrev xgm:=@List.Nodup.length_le_of_subset
abbrev xgn:=@PySem.PassesOwn.never
abbrev xgo:=@PySem.wpAny_truthy_bool
abbrev xgp:=@Nat.lt_irrefl
abbrev xgq:=@PySem.wpAny_typeNameOfWhole_keyiter
abbrev xgr:=@PySem.mem_of_lookup
abbrev xgs:=@Nat.sub_le_sub_left
abbrev xgt:=@List.length_drop
abbrev xgu:=@List.nodup_nil
abbrev xgv:=@beq_self_eq_true
abbrev xgw:=@Nat.testBit_lt_two_pow
abbrev xgx:=@beq_iff_eq
abbrev xgy:=@PyProof.Rows.wpS_modify
abbrev xgz:=@PyProof.Rows.callWith_type1
abbrev xha:=@Nat.sub_add_cancel
abbrev xhb:=@Nat.zero_xor
abbrev xhc:=@PySem.tupleKind_room_in1
abbrev xhd:=@List.length_replicate
abbrev xhe:=@Bool.eq_iff_iff
abbrev xhf:=@List.perm_append_comm
abbrev xhg:=@List.foldl_cons
abbrev xhh:=@List.getElem?_eq_none
abbrev xhi:=@PySem.wpAny_passesOwn
abbrev xhj:=@List.any_cons
abbrev xhk:=@Bool.not_true
abbrev xhl:=@Nat.lt_succ_of_lt
abbrev xhm:=@List.foldl_append
abbrev xhn:=@List.mem_of_mem_drop
abbrev xho:=@Bool.and_eq_true
abbrev xhp:=@Nat.add_zero
abbrev xhq:=@List.take_succ_eq_append_getElem
abbrev xhr:=@PySem.F.called_set
abbrev xhs:=@decide_eq_decide
abbrev xht:=@Nat.testBit_two_pow
abbrev xhu:=@PyProof.Rows.slot_tuple_getitem
abbrev xhv:=@List.countP_cons_of_pos
abbrev xhw:=@Nat.lt_add_of_pos_right
abbrev xhx:=@PySem.Paired.length
abbrev xhy:=@List.sum_cons
abbrev xhz:=@PyProof.Rows.wpS_get
abbrev xia:=@PySem.Calls.spliced_cons
abbrev xib:=@List.range_succ
abbrev xic:=@PySem.Obj.data_mapFields
abbrev xid:=@Nat.sub_lt
abbrev xie:=@Nat.min_le_left
abbrev xig:=@List.find?_eq_none
abbrev xih:=@Nat.eq_zero_or_pos
abbrev xii:=@Nat.testBit_xor
abbrev xij:=@PySem.wpAny_rule
abbrev xik:=@PySem.Calls.callWith_builtin
abbrev xil:=@List.Perm.append_right
abbrev xim:=@List.drop_eq_nil_of_le
abbrev xin:=@PySem.sizeLine_eq
abbrev xio:=@and_self
abbrev xip:=@List.nodup_append
abbrev xiq:=@List.count_append
abbrev xir:=@List.filter_congr
abbrev xis:=@PySem.wpAny_pyIter_list
abbrev xit:=@PySem.wpAny_dictEntries
abbrev xiu:=@PySem.Obj.isFreed_of_fields
abbrev xiv:=@Array.extract_eq_empty_of_le
abbrev xiw:=@List.set_append_right
abbrev xix:=@Int.zero_add
abbrev xiy:=@Nat.pow_succ
abbrev xiz:=@List.dropLast_concat_getLast
abbrev xja:=@Nat.min_eq_right
abbrev xjb:=@Array.toList_reverse
abbrev xjc:=@List.reverse_reverse
abbrev xjd:=@Nat.lt_succ_self
abbrev xje:=@List.any_eq_true
abbrev xjf:=@Nat.mul_le_mul_right
abbrev xjg:=@List.cons_append
abbrev xjh:=@PySem.wpAny_askSetting
abbrev xji:=@Array.getElem?_setIfInBounds_self_of_lt
abbrev xjj:=@List.map_congr_left
abbrev xjk:=@List.mem_of_find?_eq_some
abbrev xjl:=@Int.emod_nonneg
abbrev xjm:=@Nat.two_pow_pos
abbrev xjn:=@PySem.wpAny_ite_split
abbrev xjo:=@Nat.ne_of_gt
abbrev xjp:=@PySem.F.args_tuple_add_2
abbrev xjq:=@Nat.sub_self
abbrev xjr:=@List.count_pos_iff
abbrev xjs:=@PySem.wpAny_Call_Name_kw
abbrev xjt:=@PyProof.Rows.slot_tuple_getitem
abbrev xju:=@PySem.wpAny_setField
abbrev xjv:=@PySem.F.entry_tuple_add
abbrev xjw:=@PySem.F.plainAttrs_dict
abbrev xjx:=@List.countP_cons_of_neg
abbrev xjy:=@List.pairwise_singleton
abbrev xjz:=@List.getElem?_cons_succ
abbrev xka:=@List.length_eq_zero_iff
abbrev xkb:=@List.eraseIdx_cons_succ
abbrev xkc:=@PySem.Calls.spliced_nil
abbrev xkd:=@List.take_sublist
abbrev xke:=@Nat.zero_lt_of_lt
abbrev xkf:=@List.drop_sublist
abbrev xkg:=@List.ext_getElem?
abbrev xkh:=@PySem.wpAny_setState_of
abbrev xki:=@PySem.F.slot_tuple_add
abbrev xkj:=@Array.getElem?_eq_none
abbrev xkk:=@Nat.le_mul_of_pos_left
abbrev xkl:=@Nat.le_succ
abbrev xkm:=@PySem.wpAny_attempt
abbrev xkn:=@List.getElem_map
abbrev xko:=@List.mem_reverse
abbrev xkp:=@List.map_flatMap
abbrev xkq:=@PyProof.Rows.wpS_lift
abbrev xkr:=@PySem.F.slot_tuple_lt
abbrev xks:=@List.length_singleton
abbrev xkt:=@PySem.F.slot_dict_get
abbrev xku:=@Array.getElem?_setIfInBounds_ne
abbrev xkv:=@Array.mem_toList_iff
abbrev xkw:=@List.length_nil
abbrev xkx:=@PySem.Calls.evalArgs_plain
abbrev xky:=@Array.toList_extract
abbrev xkz:=@List.nil_append
abbrev xla:=@PySem.Around.under_plainId
abbrev xlb:=@List.count_cons
abbrev xlc:=@List.filter_map
abbrev xld:=@Nat.and_div_two
abbrev xle:=@List.eq_nil_iff_forall_not_mem
abbrev xlf:=@PySem.wpAny_execs_nil
abbrev xlg:=@PySem.codeAny_mono
abbrev xlh:=@PySem.codeAny_builtin
abbrev xli:=@List.filterMap_cons
abbrev xlj:=@Nat.pow_le_pow_left
abbrev xlk:=@PySem.wpAny_setEntries_of
abbrev xll:=@List.drop_drop
abbrev xlm:=@PySem.F.slot_dict_setdefault
abbrev xln:=@PySem.wpAny_fieldsOf
abbrev xlo:=@Array.append_empty
abbrev xlp:=@Nat.pos_of_ne_zero
abbrev xlq:=@List.filter_filter
abbrev xlr:=@Nat.xor_lt_two_pow
abbrev xls:=@List.sum_singleton
abbrev xlt:=@List.getElem_idxOf
abbrev xlu:=@List.set_cons_succ
abbrev xlv:=@PySem.wpAny_pyIter_tuple
abbrev xlw:=@of_decide_eq_false
abbrev xlx:=@Int.fdiv_eq_ediv_of_nonneg
abbrev xly:=@PySem.W.mg_of
abbrev xlz:=@Array.getElem?_eq_some_iff
abbrev xma:=@List.perm_ext_iff_of_nodup
abbrev xmb:=@Option.isSome_map
abbrev xmc:=@Nat.lt_succ_of_le
abbrev xmd:=@PySem.Obj.cls_mapFields
abbrev xme:=@List.mapM_toArray
abbrev xmf:=@List.getElem_drop
abbrev xmg:=@List.getElem_take
abbrev xmh:=@List.flatMap_cons
abbrev xmi:=@PySem.wpAny_pyIter_slot
abbrev xmj:=@decide_eq_true_eq
abbrev xmk:=@Nat.mod_lt
abbrev xml:=@List.map_nil
abbrev xmm:=@Option.getD_none
abbrev xmn:=@List.ext_getElem
abbrev xmo:=@Nat.max_eq_right
abbrev xmp:=@List.perm_middle
abbrev xmq:=@List.not_mem_nil
abbrev xmr:=@List.nodup_range
abbrev xms:=@Nat.succ_mul
abbrev xmt:=@Nat.zero_testBit
abbrev xmu:=@map_eq_pure_bind
abbrev xmv:=@List.of_mem_zip
abbrev xmw:=@Nat.le_add_left
abbrev xmx:=@List.find?_some
abbrev xmy:=@Bool.decide_and
abbrev xmz:=@Nat.two_pos
abbrev xna:=@List.map_id
abbrev xnb:=@List.Perm.refl
set_option maxHeartbeats 0
namespace L2
open PySem PySem.Spec PyProof.Rows
noncomputable abbrev Key:=Sum Int Str
noncomputable def keyIs:Key->Value->Bool
 | .inl k,v=>Value.isInt k v
 | .inr x,v=>Value.isStrOf x v
noncomputable def keyH (w:World):Key->Int
 | .inl k=>hashInt k
 | .inr x=>hashStr w x
theorem zy:∀{k:Key} {v:Value},keyIs k v=true->(∃i t,k=Sum.inl i/\v=Value.int i t)\/(∃x t,k=Sum.inr x/\v=Value.str x t)
 | .inl i,v,h=>by
  obtain⟨t,e⟩:=Value.isInt_shape (k:=i) (v:=v) h;exact .inl ⟨i,t,rfl,e⟩
 | .inr x,v,h=>by
  obtain⟨t,e⟩:=Value.isStrOf_shape (x:=x) (v:=v) h;exact .inr ⟨x,t,rfl,e⟩
theorem zxk (i:Int)(t:Tok):keyIs (.inl i) (.int i t)=true:=by simp[keyIs,Value.isInt]
theorem zxj (x:Str)(t:Tok):keyIs (.inr x) (.str x t)=true:=by simp[keyIs,Value.isStrOf]
theorem zbmz (a b:Int):decide ((Sum.inl a:Key)=Sum.inl b)=(a==b):=by
 by_cases e:a=b
 ·subst e;simp
 ·have h:¬ (Sum.inl a:Key)=Sum.inl b:=fun q=>e (Sum.inl.inj q)
  rw[xcb h];exact(xfk.mpr e).symm
theorem zbmw (a b:Str):decide ((Sum.inr a:Key)=Sum.inr b)=decide (a=b):=by
 by_cases e:a=b
 ·subst e;simp
 ·have h:¬ (Sum.inr a:Key)=Sum.inr b:=fun q=>e (Sum.inr.inj q)
  rw[xcb h,xcb e]
theorem zbmy (a:Int)(b:Str):decide ((Sum.inl a:Key)=Sum.inr b)=false:=xcb (fun q=>nomatch q)
theorem zbmx (a:Str)(b:Int):decide ((Sum.inr a:Key)=Sum.inl b)=false:=xcb (fun q=>nomatch q)
noncomputable def mixKind (prog:Program) (w:World):PySem.KeyKind prog w Key where
 is:=keyIs
 hash:=keyH w
 inj:=fun v a b ha hb=>by
  rcases zy ha with⟨i,t,rfl,rfl⟩ | ⟨x,t,rfl,rfl⟩
  ·rcases zy hb with⟨j,u,rfl,e⟩ | ⟨y,u,rfl,e⟩
   ·injection e with e1 _;rw[e1]
   ·exact nomatch e
  ·rcases zy hb with⟨j,u,rfl,e⟩ | ⟨y,u,rfl,e⟩
   ·exact nomatch e
   ·injection e with e1 _;rw[e1]
 byValue:=fun k v h=>by
  rcases zy h with⟨i,t,rfl,rfl⟩ | ⟨x,t,rfl,rfl⟩<;>rfl
 pyHash:=fun hv h=>by
  rcases zy hv with⟨i,t,rfl,rfl⟩ | ⟨x,t,rfl,rfl⟩
  ·exact wpAny_pyHash_int h
  ·exact wpAny_pyHash_str h
 eqBool:=fun hu hv h=>by
  rcases zy hu with⟨i,t,rfl,rfl⟩ | ⟨x,t,rfl,rfl⟩
  ·rcases zy hv with⟨j,u,rfl,rfl⟩ | ⟨y,u,rfl,rfl⟩
   ·rw[zbmz] at h;exact wpAny_eqBool_int h
   ·rw[zbmy] at h;exact SeqAt.EqAt.int_str i t y u _ _ _ _ h
  ·rcases zy hv with⟨j,u,rfl,rfl⟩ | ⟨y,u,rfl,rfl⟩
   ·rw[zbmx] at h;exact SeqAt.EqAt.str_int x t j u _ _ _ _ h
   ·rw[zbmw] at h;exact wpAny_eqBool_str h
 «strs»:=fun k x t v h=>by
  rcases zy h with⟨i,u,rfl,e⟩ | ⟨y,u,rfl,e⟩
  ·exact nomatch e
  ·injection e with e1 _
   subst e1;cases v<;>rfl
theorem zqt (prog:Program)(w:World)(i:Int)(t:Tok):(mixKind prog w).is (.inl i) (.int i t)=true:=zxk i t
theorem zqs (prog:Program)(w:World)(x:Str)(t:Tok):(mixKind prog w).is (.inr x) (.str x t)=true:=zxj x t
set_option genInjectivity true in
inductive V where
 | non | bl (b:Bool) | int (i:Int) | str (x:Str) | byt (b:Array UInt8) | flt (b:UInt64) | ref (a:Addr) | ty (n:String)
 deriving DecidableEq
noncomputable def RelV:V->Value->Prop
 | .non,u=>u=Value.none
 | .bl b,u=>u=Value.bool b
 | .int i,u=>∃t,u=Value.int i t
 | .str x,u=>∃t,u=Value.str x t
 | .byt b,u=>∃t,u=Value.bytes b t
 | .flt b,u=>∃t,u=Value.float b t
 | .ref a,u=>u=Value.ref a
 | .ty n,u=>u=Value.type n
noncomputable abbrev Vals:List V->List Value->Prop:=Paired RelV
theorem Vals.length {xs:List V}{us:List Value}(r:Vals xs us):xs.length=us.length:=xhx r
theorem Vals.get:∀{xs:List V} {us:List Value} {i:Nat} {x:V},Vals xs us->xs[i]?=some x->∃u,us[i]?=some u/\RelV x u
 | _,_,_,_,.nil,e=>by simp at e
 | _,_,0,_,.cons r _,e=>by simp at e;subst e;exact⟨_,rfl,r⟩
 | _,_,i+1,x,.cons _ t,e=>by
  obtain⟨u,h1,h2⟩:=Vals.get (i:=i) (x:=x) t (by simpa using e);exact⟨u,by simpa using h1,h2⟩
theorem Vals.set {x:V}{u:Value}(r:RelV x u):∀{xs:List V} {us:List Value} (i:Nat),Vals xs us->Vals (xs.set i x) (us.set i u)
 | _,_,_,.nil=>.nil
 | _,_,0,.cons _ t=>.cons r t
 | _,_,i+1,.cons q t=>.cons q (Vals.set r i t)
theorem Vals.append:∀{xs ys:List V} {us ws:List Value},Vals xs us->Vals ys ws->Vals (xs++ys) (us++ws)
 | _,_,_,_,.nil,s=>s
 | _,_,_,_,.cons r t,s=>.cons r (Vals.append t s)
theorem Vals.take:∀{xs:List V} {us:List Value} (n:Nat),Vals xs us->Vals (xs.take n) (us.take n)
 | _,_,0,_=>.nil
 | _,_,_+1,.nil=>.nil
 | _,_,n+1,.cons r t=>.cons r (Vals.take n t)
theorem Vals.drop:∀{xs:List V} {us:List Value} (n:Nat),Vals xs us->Vals (xs.drop n) (us.drop n)
 | _,_,0,r=>r
 | _,_,_+1,.nil=>.nil
 | _,_,n+1,.cons _ t=>Vals.drop n t
noncomputable def RelO:Option V->Option Value->Prop
 | some v,some u=>RelV v u
 | none,none=>True
 | _,_=>False
noncomputable def KV {κ:Type}:List (κ×V)->List (κ×Value)->Prop:=Paired fun(p:κ×V) (q:κ×Value)=>p.1=q.1/\RelV p.2 q.2
noncomputable def kV:Key->V
 | .inl i=>.int i
 | .inr x=>.str x
set_option genInjectivity true in
inductive HO where
 /-- a list -/
 | lst (xs:List V)
 /-- a tuple (never changes) -/
 | tup (xs:List V)
 /-- a dict whose keys are ints and texts;one whose keys are tuples of ints and texts (the empty one is both) -/
 | dK (kvs:List (Key×V)) | dT (kvs:List (List Key×V))
 /-- a set of ints: its members,its size -/
 | set (S:Int->Bool) (n:Nat)
 /-- an instance of the class at C,its dict at dx,its attributes -/
 | ins (C dx:Addr) (fs:List (Str×V))
 /-- the dict of the instance at x -/
 | own (x:Addr)
 /-- the dict of an exception -/
 | xd (fs:List (Str×V))
 /-- a bound method,f of x -/
 | met (f x:Addr)
 /-- a range object lo,lo+1,.. below hi -/
 | rng (lo hi:Int)
 /-- a thing that is known to the object (the script;a dict while a loop walks it): read,never written while it is so -/
 | frz (o:Obj) (u:HO)
 /-- a code object's table -/
 | tbl (ps:Array Value)
 /-- any other thing,by what is true of its one object (a def of one's own: SetO a S n:=HO.ext fun h=>..) -/
 | ext (φ:Heap->Prop)
noncomputable abbrev Hp:=Addr->Option HO
noncomputable def upd (H:Hp) (a:Addr) (o:HO):Hp:=fun b=>if b=a then some o else H b
theorem zr {H:Hp}{a:Addr}{o:HO}:upd H a o a=some o:=by unfold upd;rw[if_pos rfl]
theorem zt {H:Hp}{a b:Addr}{o:HO}(h:b≠a):upd H a o b=H b:=by unfold upd;rw[if_neg h]
theorem zbpy {H:Hp}{a b:Addr}{o u:HO}(h:H a=some o)(h':H b=some u)(d:o≠u):a≠b:=by
 intro e;subst e;rw[h] at h';exact d (xcv h')
theorem zl {H:Hp}{a b:Addr}{o:HO}(h:H a=some o)(h':H b=none):a≠b:=by
 intro e;subst e;rw[h] at h';cases h'
section
variable (P:Program)(w:World)
noncomputable def ObjOk (H:Hp) (h:Heap) (a:Addr):HO->Prop
 | .lst xs=>xs.length<=sizeLine/\∃(its:List Value) (n:Nat), Vals xs its/\h.get? a=some { cls:=.type "list", data:=.seq its.toArray n }
 | .tup xs=>xs.length<=sizeLine/\∃its:List Value,Vals xs its/\IsTup h a its.toArray
 | .dK kvs=>kvs.length<=sizeLine/\(a==sysModules)=false/\∃vs,KV kvs vs/\h.DictOf (mixKind P w) a vs
 | .dT kvs=>kvs.length<=sizeLine/\(a==sysModules)=false/\∃xs:List (List Key×Addr×Value),
  Paired (fun(p:List Key×V) (q:List Key×Addr×Value)=>p.1=q.1/\H q.2.1=some (.tup (p.1.map kV))/\RelV p.2 q.2.2) kvs xs /\
  ∃o es ep,h.get? a=some o/\o.ExactDict/\o.data=.dict es ep/\es.toList=xs.map (entryOfKey (tupleKind (mixKind P w)))/\(xs.map (·.1)).Nodup
 | .set S n=>h.SetOf (intKind P w) a S n
 | .ins C dx fs=>H dx=some (.own a)/\fs.length<=1000/\dx≠a/\h.get? a=some (W.instObj C dx) /\
  ∃mA,h.Ns1 dx mA/\(∀f,RelO (fs.lookup f) (mA f))/\PySem.Within mA (fs.map (·.1))
 | .own _=>∃o,h.get? a=some o
 | .xd fs=>∃mA,h.Ns1 a mA/\∀f,RelO (fs.lookup f) (mA f)
 | .rng lo hi=>∃ t u v, h.get? a=some { cls:=.type "range", data:=.fields #[.int lo t, .int hi u, .int 1 v] }
 | .frz o u=>h.get? a=some o/\ObjOk H h a u
 | .tbl ps=>h.get? a=some {cls:=.none,data:=.fields ps}
 | .met f x=>h.get? a=some (W.methodObj (.ref f) (.ref x))
 | .ext φ=>φ h/\(∃o,h.get? a=some o)/\∀h1 h2:Heap,φ h1->(∀o,h1.get? a=some o->h2.get? a=some o)->φ h2
noncomputable def HOk (H:Hp) (h:Heap):Prop:=∀a o,H a=some o->ObjOk P w H h a o
end
section
variable {P:Program}{w:World}{H H':Hp}{h h':Heap}{a:Addr}{o:HO}
theorem ObjOk.lt (x:ObjOk P w H h a o):a < h.objs.size:=by
 cases o with
 | lst xs=>obtain⟨_,_,_,_,e⟩:=x;exact xbv e
 | tup xs=>obtain⟨_,_,_,p⟩:=x;exact p.lt
 | dK kvs=>obtain⟨_,_,_,_,o,_,_,e,_⟩:=x;exact xbv e
 | dT kvs=>obtain⟨_,_,_,_,o,_,_,e,_⟩:=x;exact xbv e
 | set S n=>obtain⟨o,_,_,_,e,_⟩:=x;exact xbv e
 | ins C dx fs=>obtain⟨_,_,_,e,_⟩:=x;exact xbv e
 | own y=>obtain⟨_,e⟩:=x;exact xbv e
 | xd fs=>obtain⟨_,⟨_,_,_,e,_⟩,_⟩:=x;exact xbv e
 | rng lo hi=>obtain⟨_,_,_,e⟩:=x;exact xbv e
 | frz ob u=>obtain⟨e,_⟩:=x;exact xbv e
 | tbl ps=>exact xbv (show h.get? a=some _ from x)
 | met f y=>exact xbv (show h.get? a=some _ from x)
 | ext φ=>obtain⟨_,⟨_,e⟩,_⟩:=x;exact xbv e
theorem Paired.mapP {α β:Type}{F G:α->β->Prop}:∀{l₁:List α} {l₂:List β},Paired F l₁ l₂->(∀a b,F a b->G a b)->Paired G l₁ l₂
 | _,_,.nil,_=>.nil
 | _,_,.cons r t,f=>.cons (f _ _ r) (Paired.mapP t f)
theorem ObjOk.stay (x:ObjOk P w H h a o)(k:∀b u,(b=a\/H b=some (.own a))->h.get? b=some u->h'.get? b=some u)
  (ho:∀b,H b=some (.own a)->H' b=some (.own a))(ht:∀b xs,H b=some (.tup xs)->H' b=some (.tup xs)):ObjOk P w H' h' a o:=by
 induction o with
 | lst xs=>obtain⟨z,its,n,r,e⟩:=x;exact⟨z,its,n,r,k _ _ (.inl rfl) e⟩
 | tup xs=>obtain⟨z,its,r,ob,e,c⟩:=x;exact⟨z,its,r,ob,k _ _ (.inl rfl) e,c⟩
 | dK kvs=>obtain⟨z,y,vs,r,ob,es,ep,e,c⟩:=x;exact⟨z,y,vs,r,ob,es,ep,k _ _ (.inl rfl) e,c⟩
 | dT kvs =>
  obtain⟨z,y,xs,r,ob,es,ep,e,c⟩:=x;exact⟨z,y,xs,Paired.mapP r fun p q z=>⟨z.1,ht _ _ z.2.1,z.2.2⟩,ob,es,ep,k _ _ (.inl rfl) e,c⟩
 | set S n=>obtain⟨ob,es,ep,t,e,c⟩:=x;exact⟨ob,es,ep,t,k _ _ (.inl rfl) e,c⟩
 | ins C dx fs =>
  obtain⟨d,z,ne,e,mA,⟨od,es,ep,e2,c⟩,r⟩:=x;exact⟨ho _ d,z,ne,k _ _ (.inl rfl) e,mA,⟨od,es,ep,k _ _ (.inr d) e2,c⟩,r⟩
 | own y=>obtain⟨ob,e⟩:=x;exact⟨ob,k _ _ (.inl rfl) e⟩
 | xd fs=>obtain⟨mA,⟨od,es,ep,e,c⟩,r⟩:=x;exact⟨mA,⟨od,es,ep,k _ _ (.inl rfl) e,c⟩,r⟩
 | rng lo hi=>obtain⟨t,u,v,e⟩:=x;exact⟨t,u,v,k _ _ (.inl rfl) e⟩
 | frz ob u ih=>obtain⟨e,q⟩:=x;exact⟨k _ _ (.inl rfl) e,ih q⟩
 | tbl ps =>
  have e:h.get? a=some {cls:=.none,data:=.fields ps}:=x;show h'.get? a=some {cls:=.none,data:=.fields ps};exact k a _ (.inl rfl) e
 | met f y =>
  have e:h.get? a=some (W.methodObj (.ref f) (.ref y)):=x;show h'.get? a=some (W.methodObj (.ref f) (.ref y));exact k a _ (.inl rfl) e
 | ext φ=>obtain⟨p,⟨o,e⟩,st⟩:=x;exact⟨st _ _ p fun o q=>k _ _ (.inl rfl) q,⟨o,k _ _ (.inl rfl) e⟩,st⟩
theorem HOk.lt (x:HOk P w H h)(e:H a=some o):a < h.objs.size:=(x a o e).lt
theorem HOk.fresh (x:HOk P w H h)(e:h.objs.size<=a):H a=none:=by
 cases q:H a with
 | none=>rfl
 | some u=>exact absurd (xbg (x.lt q) e) (xgp _)
theorem HOk.kept (x:HOk P w H h)(k:∀b u,h.get? b=some u->h'.get? b=some u):HOk P w H h':=fun a o e =>
 (x a o e).stay (fun b u _ q=>k b u q) (fun _ q=>q) fun _ _ q=>q
theorem HOk.laid (x:HOk P w H h)(k:∀b u,h.get? b=some u->h'.get? b=some u)(hp:h.objs.size<=a)(new:ObjOk P w (upd H a o) h' a o):HOk P w (upd H a o) h':=fun b u e=>by
 have hn:=x.fresh hp;by_cases hb:b=a
 ·subst hb;rw[zr] at e;cases e;exact new
 ·rw[zt hb] at e;exact(x b u e).stay (fun c v _ q=>k c v q) (fun c q=>by rw[zt (zl q hn)];exact q) fun c xs q=>by rw[zt (zl q hn)];exact q
end
noncomputable def Rd (H:Hp) (a:Addr) (u:HO):Prop:=H a=some u\/∃o,H a=some (.frz o u)
theorem Rd.ok {P:Program}{w:World}{H:Hp}{h:Heap}{a:Addr}{u:HO}(r:Rd H a u)(x:HOk P w H h):ObjOk P w H h a u:=by
 rcases r with r | ⟨o,r⟩
 ·exact x a u r
 ·obtain⟨_,q⟩:=x a _ r;exact q
noncomputable def Mut:Option HO->Prop
 | some (.lst _)=>True
 | some (.dK _)=>True
 | some (.dT _)=>True
 | some (.set _ _)=>True
 | some (.ins _ _ _)=>True
 | some (.ext _)=>True
 | _=>False
section
variable {P:Program}{w:World}{H:Hp}{h h':Heap}{x e:Addr}{o':HO}
theorem HOk.write (ok:HOk P w H h)(mu:Mut (H x))(he:e=x\/H e=some (.own x))(k:∀b u,b≠e->h.get? b=some u->h'.get? b=some u)(heo:∃u,h'.get? e=some u)
  (new:ObjOk P w (upd H x o') h' x o'):HOk P w (upd H x o') h':=fun b u q=>by
 have nown:∀c y,H c=some (.own y)->c≠x:=fun c y r z=>by subst z;rw[r] at mu;exact mu
 have ntup:∀c xs,H c=some (.tup xs)->c≠x:=fun c xs r z=>by subst z;rw[r] at mu;exact mu
 by_cases hb:b=x
 ·subst hb;rw[zr] at q;cases q;exact new
 ·rw[zt hb] at q;by_cases hbe:b=e
  ·have q':H b=some (.own x):=by
    rcases he with z | z
    ·exact absurd (hbe.trans z) hb
    ·rw[hbe];exact z
   rw[q] at q';cases q'
   obtain⟨v,hv⟩:=heo;exact⟨v,by rw[hbe];exact hv⟩
  ·refine(ok b u q).stay (fun c v hc r=>k c v ?_ r) (fun c r=>by rw[zt (nown c b r)];exact r) fun c xs r=>by rw[zt (ntup c xs r)];exact r
   rcases hc with rfl | hc
   ·exact hbe
   ·rintro rfl;rcases he with z | z
    ·exact nown c b hc z
    ·rw[hc] at z;cases z;exact hb rfl
end
structure Un (fs ex:List Addr) (H H':Hp) (h h':Heap):Prop where
 keep:∀b o,h.get? b=some o->H b=none->b∉fs->b∉ex->h'.get? b=some o
 slot:∀b o,h.get? b=some o->H b=none->b∈fs->b∉ex->∃sl,h'.get? b=some {o with slots:=sl}
 free:∀b o,h.get? b=some o->H b=none->b∉ex->H' b=none
 there:∀b o,h.get? b=some o->b∉ex->∃o',h'.get? b=some o'
 tups:∀b xs,H b=some (.tup xs)->H' b=some (.tup xs)
 frzs:∀b o u,H b=some (.frz o u)->H' b=some (.frz o u)
 tbls:∀b ps,H b=some (.tbl ps)->∃more,H' b=some (.tbl (ps++more))
section
variable {fs fs' ex ex':List Addr}{H H1 H2:Hp}{h h1 h2 h':Heap}{a x e:Addr}{o:HO}
theorem Un.any (u:Un fs ex H H1 h h1){b:Addr}{ob:Obj}(q:h.get? b=some ob)(n:H b=none)(hx:b∉ex):∃sl,h1.get? b=some {ob with slots:=sl}:=by
 by_cases hb:b∈fs
 ·exact u.slot b ob q n hb hx
 ·exact⟨ob.slots,u.keep b ob q n hb hx⟩
theorem Un.kept (k:∀b u,h.get? b=some u->h'.get? b=some u):Un fs ex H H h h' :=
 ⟨fun b ob q _ _ _=>k b ob q,fun b ob q _ _ _=>⟨ob.slots,k b ob q⟩,fun _ _ _ n _=>n,fun b ob q _=>⟨ob,k b ob q⟩,fun _ _ q=>q,fun _ _ _ q=>q,fun _ ps q=>⟨#[],by rw[q];simp⟩⟩
theorem Un.refl:Un fs ex H H h h:=Un.kept fun _ _ q=>q
theorem Un.laid (k:∀b u,h.get? b=some u->h'.get? b=some u)(hp:h.objs.size<=a)(hn:H a=none):Un fs ex H (upd H a o) h h' where
 keep:=fun b u q _ _ _=>k b u q
 slot:=fun b u q _ _ _=>⟨u.slots,k b u q⟩
 free:=fun b u q n _=>by rw[zt (xch (xbg (xbv q) hp))];exact n
 there:=fun b u q _=>⟨u,k b u q⟩
 tups:=fun b xs q=>by rw[zt (zl q hn)];exact q
 frzs:=fun b u xs q=>by rw[zt (zl q hn)];exact q
 tbls:=fun b ps q=>⟨#[],by rw[zt (zl q hn),q];simp⟩
theorem Un.write (mu:Mut (H x))(he:e=x\/H e=some (.own x))(k:∀b u,b≠e->h.get? b=some u->h'.get? b=some u)(heo:∃u,h'.get? e=some u):Un fs ex H (upd H x o) h h':=by
 have hx:∀b,H b=none->b≠x:=fun b n z=>by subst z;rw[n] at mu;exact mu
 have hb:∀b,H b=none->b≠e:=fun b n z=>by
  subst z;rcases he with r | r
  ·exact hx b n r
  ·rw[n] at r;cases r
 have hm:∀b u,H b=some u->¬ Mut (some u)->b≠x:=fun b u q nm z=>by subst z;rw[q] at mu;exact nm mu
 refine⟨fun b u q n _ _=>k b u (hb b n) q,fun b u q n _ _=>⟨u.slots,k b u (hb b n) q⟩,fun b u q n _=>by rw[zt (hx b n)];exact n,fun b u q _=>?_,
  fun b xs q=>by rw[zt (hm b _ q fun z=>z)];exact q,fun b u xs q=>by rw[zt (hm b _ q fun z=>z)];exact q,fun b ps q=>⟨#[],by rw[zt (hm b _ q fun z=>z),q];simp⟩⟩
 by_cases hbe:b=e
 ·subst hbe;exact heo
 ·exact⟨u,k b u hbe q⟩
end
noncomputable def trk (h:Heap) (H:Hp):List Addr:=(List.range h.objs.size).filter fun a=>(H a).isSome
noncomputable def hidT (h:Heap) (H:Hp):Heap:=W.hideAll h (trk h H)
theorem zxp (h:Heap)(H:Hp):(hidT h H).objs.size=h.objs.size:=W.hideAll_size _ _
theorem zbcw {h:Heap}{H:Hp}{b:Addr}{o:Obj}(e:h.get? b=some o)(n:H b=none):(hidT h H).get? b=some o :=
 W.hideAll_get _ e fun hm=>by
  have q:(H b).isSome=true:=(xeo.mp hm).2;rw[n] at q;simp at q
theorem zbhf {h:Heap}{H:Hp}{b:Addr}{o:Obj}(e:(hidT h H).get? b=some o):h.get? b=some o/\H b=none:=by
 have e':h.get? b=some o:=W.of_hideAll (trk h H) e;refine⟨e',?_⟩;cases q:H b with
 | none=>rfl
 | some x =>
  have hm:b∈trk h H:=xeo.mpr ⟨xcd.mpr (xbv e'),by simp[q]⟩;have z:(hidT h H).get? b=none:=W.hideAll_none (trk h H) hm;rw[z] at e;cases e
structure Mod (K:Fg) (mg:Str->Option Value) (base:Heap):Prop where
 kin:K.In base
 glob:base.Ns mainGlobals mg
 blt:∃ mb, base.Ns builtinsNs mb/\∀ x:Str, x≠"__name__"->mb x=bootBuiltins x
 nolimit:base.NoLimit
structure Cx where
 prog:Program
 w:World
 K:Fg
 mg:Str->Option Value
 base:Heap
 A:Around
 N:List Str
 s₀:Shared
 H₀:Hp
 env:Env
 outer:List Env
 stack:List Env
 ex:List Addr
 fn:Str->Bool
 calm:Bool
 pn:List (Addr×Obj)
 xe:Value->Shared->Prop
noncomputable def frs (l:List Env):List Addr:=l.filterMap (·.frame)
noncomputable abbrev Cx.fs (X:Cx):List Addr:=frs X.outer
noncomputable def Vis (sc:Scope) (x:Str):Prop:=sc.names.lookup x=some .local\/sc.names.lookup x=some .cell\/sc.names.lookup x=some .free
noncomputable def Loc (sc:Scope) (x:Str):Prop:=sc.names.lookup x=some .local\/sc.names.lookup x=some .cell
noncomputable def Look (env:Env) (h:Heap) (m:Str->Option Value) (x:Str) (u:Value):Prop :=
 (env.kindOf x=some .local/\m x=some u)\/((env.kindOf x=some .cell\/env.kindOf x=some .free)/\∃c,env.cells.lookup x=some c/\h.IsCell c (some u))
structure Cx.Ok (X:Cx):Prop where
 mod:Mod X.K X.mg X.base
 kind:X.env.scope.kind=.function
 glob:X.env.globals=mainGlobals
 blt:X.env.builtins=builtinsNs
 above:X.s₀.heap.objs.size<=X.env.locals
 inj:∀x y c,X.env.cells.lookup x=some c->X.env.cells.lookup y=some c->x=y
 has:∀x,(X.env.kindOf x=some .cell\/X.env.kindOf x=some .free)->∃c,X.env.cells.lookup x=some c
 cab:∀x c,X.fn x=true->X.env.cells.lookup x=some c->X.s₀.heap.objs.size<=c
 hd:X.calm=true->X.A.handled=none
 frames:X.A.frames=some X.stack
 stk:X.stack=X.outer\/(X.stack=X.env::X.outer/\X.env.frame=some X.env.locals)
 exf:∀b∈X.ex,b≠X.env.locals/\∀x c,X.env.cells.lookup x=some c->c≠b
 bs:∀b o,X.base.get? b=some o->X.s₀.heap.get? b=some o/\X.H₀ b=none
 bsz:X.base.objs.size<=X.s₀.heap.objs.size
 noex:∀b o,X.base.get? b=some o->b∉X.ex
 exfs:∀b∈X.ex,b∉X.fs
 funs:X.s₀.heap.FunFrames X.base X.outer
 frf:∀b∈X.fs,X.H₀ b=none
noncomputable def Hnd (A:Around) (H:Hp):Prop:=∀v,A.handled=some v->∃a o,v=.ref a/\H a=some (.frz o (.ext fun _=>True))/\∃vs,o.data=.fields vs/\vs[2]?=some .none
theorem Hnd.map {A:Around}{H H':Hp}(h:Hnd A H)(f:∀b o u,H b=some (.frz o u)->H' b=some (.frz o u)):Hnd A H':=fun v e=>let ⟨a,o,h1,h2,h3⟩:=h v e;⟨a,o,h1,f _ _ _ h2,h3⟩
theorem Hnd.none {A:Around}{H:Hp}(h:A.handled=.none):Hnd A H:=fun v e=>by rw[h] at e;cases e
structure Inv (X:Cx) (aU:List (Addr×Obj)) (σ:List (Option V)) (H:Hp) (s:Shared):Prop where
 ok:X.Ok
 os:s.os=X.s₀.os
 bare:AllBare s.gens
 base:Un X.fs X.ex X.H₀ H X.s₀.heap s.heap
 loc:∃m,s.heap.Ns X.env.locals m/\∀(i:Nat) (x:Str) (v:V),X.N[i]?=some x->σ[i]?=some (some v)->Vis X.env.scope x->∃u,RelV v u/\Look X.env s.heap m x u
 cell:∀x c,X.env.cells.lookup x=some c->∃v,s.heap.IsCell c v
 free:H X.env.locals=none
 freeC:∀x c,X.env.cells.lookup x=some c->H c=none
 pin:∀p∈X.pn++aU,s.heap.get? p.1=some p.2/\H p.1=none/\p.1≠X.env.locals/\p.1∉X.fs/\∀v,p.2.data≠.cell v
 hok:HOk X.prog X.w H s.heap
 len:σ.length=X.N.length
 hnd:Hnd X.A H
section
variable {X:Cx}{aU:List (Addr×Obj)}{σ:List (Option V)}{H H':Hp}{s:Shared}{h':Heap}
theorem Cx.Ok.nofr (ok:X.Ok){b:Addr}{o:Obj}(e:X.base.get? b=some o):b∉X.fs:=fun hb=>by
 have:=(ok.funs.mem hb).1;rw[e] at this;cases this
theorem Inv.bs (I:Inv X aU σ H s):∀b o,X.base.get? b=some o->s.heap.get? b=some o/\H b=none:=fun b o e =>
 ⟨I.base.keep b o (I.ok.bs b o e).1 (I.ok.bs b o e).2 (I.ok.nofr e) (I.ok.noex b o e),I.base.free b o (I.ok.bs b o e).1 (I.ok.bs b o e).2 (I.ok.noex b o e)⟩
theorem Inv.bk (I:Inv X aU σ H s):∀b o,X.base.get? b=some o->s.heap.get? b=some o:=fun b o e=>(I.bs b o e).1
theorem Inv.mod (I:Inv X aU σ H s):Mod X.K X.mg X.base:=I.ok.mod
theorem Inv.kIn (I:Inv X aU σ H s):X.K.In s.heap:=I.ok.mod.kin.keeps I.bk
theorem Inv.lt (I:Inv X aU σ H s):X.env.locals < s.heap.objs.size:=let ⟨_,hn,_⟩:=I.loc;hn.lt
theorem Inv.sz (I:Inv X aU σ H s):X.s₀.heap.objs.size<=s.heap.objs.size:=xbc I.ok.above (xbx I.lt)
theorem Inv.nofs (I:Inv X aU σ H s){a:Addr}(h:s.heap.objs.size<=a):a∉X.fs:=fun hb=>by
 obtain⟨_,o,ho,_⟩:=I.ok.funs.mem hb;exact absurd (xbg (xbv ho) (xbc I.sz h)) (xgp _)
theorem Inv.cne (I:Inv X aU σ H s):∀x c,X.env.cells.lookup x=some c->c≠X.env.locals:=fun x c e z=>by
 obtain⟨v,o,ho,hd⟩:=I.cell x c e;obtain⟨m,⟨o',es,ep,ho',hd',_⟩,_⟩:=I.loc;rw[z,ho'] at ho;cases ho;rw[hd'] at hd;cases hd
theorem Inv.funs (I:Inv X aU σ H s):s.heap.FunFrames X.base X.outer:=by
 have all:∀(l:List Env),(∀b∈frs l,b∈X.fs)->X.s₀.heap.FunFrames X.base l->s.heap.FunFrames X.base l:=by
  intro l
  induction l with
  | nil=>intro _ _;trivial
  | cons env r ih =>
   intro hs hl;obtain⟨hk,⟨L,o,hf,hn,ho,hd⟩,hr⟩:=hl;have hL:L∈X.fs:=hs L (by unfold frs;rw[xli,hf];exact xbn);obtain⟨sl,e⟩:=I.base.slot L o ho (I.ok.frf L hL) hL fun z=>I.ok.exfs L z hL
   exact⟨hk,⟨L,_,hf,hn,e,hd⟩,ih (fun b hb=>hs b (by unfold frs;rw[xli,hf];exact xbk _ hb)) hr⟩
 exact all X.outer (fun _ hb=>hb) I.ok.funs
theorem Inv.stack (I:Inv X aU σ H s):s.heap.FunFrames X.base X.stack:=by
 rcases I.ok.stk with e | ⟨e,hf⟩
 ·rw[e];exact I.funs
 ·rw[e];obtain⟨m,hn,_⟩:=I.loc;refine .cons (by rw[I.ok.kind];decide) hf hn ?_ I.funs;exact Heap.get?_none_of_le (xbc I.ok.bsz I.ok.above)
theorem Inv.stkSub (I:Inv X aU σ H s):∀b∈frs X.stack,b∈X.env.locals::X.fs:=fun b hb=>by
 rcases I.ok.stk with e | ⟨e,hf⟩
 ·rw[e] at hb;exact xbk _ hb
 ·rw[e] at hb;unfold frs at hb;rw[xli,hf] at hb;exact hb
theorem Inv.stkFree (I:Inv X aU σ H s):∀b∈frs X.stack,H b=none:=fun b hb=>by
 rcases xbp.mp (I.stkSub b hb) with e | hb
 ·rw[e];exact I.free
 ·obtain⟨_,o,ho,_⟩:=I.ok.funs.mem hb;exact I.base.free b o ho (I.ok.frf b hb) fun z=>I.ok.exfs b z hb
theorem Inv.step {g':Array GenState}{t':Nat}{d':Drawn}{ch:List Addr}(I:Inv X aU σ H s)
  (hch:∀b∈ch,(b∈X.ex\/X.s₀.heap.objs.size<=b)/\b≠X.env.locals/\(∀x c,X.env.cells.lookup x=some c->c≠b)/\∀p∈X.pn++aU,p.1≠b)
  (keep:∀b o,b≠X.env.locals->b∉X.fs->b∉ch->s.heap.get? b=some o->H b=none->h'.get? b=some o)
  (slot:∀b o,b≠X.env.locals->b∈X.fs->b∉ch->s.heap.get? b=some o->H b=none->∃sl,h'.get? b=some {o with slots:=sl})(free:∀b o,b∉ch->s.heap.get? b=some o->H b=none->H' b=none)
  (there:∀b o,b∉ch->s.heap.get? b=some o->∃o',h'.get? b=some o')
  (tups:∀b xs,H b=some (.tup xs)->H' b=some (.tup xs))(frzs:∀b o u,H b=some (.frz o u)->H' b=some (.frz o u))(tbls:∀b ps,H b=some (.tbl ps)->∃more,H' b=some (.tbl (ps++more)))
  (ns:∀m,s.heap.Ns X.env.locals m->h'.Ns X.env.locals m)(hok:HOk X.prog X.w H' h')(hg:AllBare g') :
  Inv X aU σ H' {s with heap:=h',gens:=g',drawn:=d',toks:=t'}:=by
 have neL:∀b o,X.s₀.heap.get? b=some o->b≠X.env.locals:=fun b o e=>xch (xbg (xbv e) I.ok.above)
 have neC:∀b o,X.s₀.heap.get? b=some o->b∉X.ex->b∉ch:=fun b o e hx hb=>by
  rcases(hch b hb).1 with z | z
  ·exact hx z
  ·exact absurd (xbg (xbv e) z) (xgp _)
 have cellK:∀x c,X.env.cells.lookup x=some c->∀v,s.heap.IsCell c v->h'.IsCell c v:=fun x c e v hq0=>by
  obtain⟨o,ho,hd⟩:=hq0;have nch:c∉ch:=fun z=>(hch c z).2.2.1 x c e rfl
  by_cases hc:c∈X.fs
  ·obtain⟨sl,q⟩:=slot c o (I.cne x c e) hc nch ho (I.freeC x c e);exact⟨_,q,hd⟩
  ·exact⟨o,keep c o (I.cne x c e) hc nch ho (I.freeC x c e),hd⟩
 refine⟨I.ok,I.os,hg,⟨fun b o e n hb hx=>?_,fun b o e n hb hx=>?_,fun b o e n hx=>?_,fun b o e hx=>?_,fun b xs e=>tups b xs (I.base.tups b xs e),fun b o xs e=>frzs b o xs (I.base.frzs b o xs e),fun b ps e=>?_⟩,?_,fun x c e=>?_,?_,fun x c e=>?_,fun p hp=>?_,hok,I.len,I.hnd.map frzs⟩
 ·exact keep b o (neL b o e) hb (neC b o e hx) (I.base.keep b o e n hb hx) (I.base.free b o e n hx)
 ·obtain⟨sl,e1⟩:=I.base.slot b o e n hb hx;obtain⟨sl',e2⟩:=slot b _ (neL b o e) hb (neC b o e hx) e1 (I.base.free b o e n hx);exact⟨sl',e2⟩
 ·obtain⟨o',e1⟩:=I.base.there b o e hx;exact free b o' (neC b o e hx) e1 (I.base.free b o e n hx)
 ·obtain⟨o',e1⟩:=I.base.there b o e hx;exact there b o' (neC b o e hx) e1
 ·obtain⟨m1,e1⟩:=I.base.tbls b ps e;obtain⟨m2,e2⟩:=tbls b _ e1;exact⟨m1++m2,by rw[e2,Array.append_assoc]⟩
 ·obtain⟨m,hn,hl⟩:=I.loc;refine⟨m,ns m hn,fun i x v e1 e2 e3=>?_⟩;obtain⟨u,r,l⟩:=hl i x v e1 e2 e3;refine⟨u,r,?_⟩;rcases l with l | ⟨k,c,e,z⟩
  ·exact .inl l
  ·exact .inr ⟨k,c,e,cellK x c e _ z⟩
 ·obtain⟨v,z⟩:=I.cell x c e;exact⟨v,cellK x c e v z⟩
 ·obtain⟨m,⟨o,_,_,ho,_⟩,_⟩:=I.loc;exact free _ o (fun z=>(hch _ z).2.1 rfl) ho I.free
 ·obtain⟨v,o,ho,hd⟩:=I.cell x c e;exact free c o (fun z=>(hch c z).2.2.1 x c e rfl) ho (I.freeC x c e)
 ·obtain⟨e,n,ne,nf,d⟩:=I.pin p hp;have nch:p.1∉ch:=fun z=>(hch p.1 z).2.2.2 p hp rfl
  exact⟨keep p.1 p.2 ne nf nch e n,free p.1 p.2 nch e n,ne,nf,d⟩
theorem Inv.un {t':Nat}(I:Inv X aU σ H s)(u:Un X.fs [] H H' s.heap h')(hok:HOk X.prog X.w H' h'):Inv X aU σ H' {s with heap:=h',toks:=t'}:=by
 obtain⟨m,⟨o,es,ep,ho,r⟩,_⟩:=id I.loc;obtain⟨sl,hL⟩:=u.any ho I.free (by simp)
 exact I.step (g':=s.gens) (d':=s.drawn) (ch:=[]) (fun _ z=>nomatch z) (fun b o _ hb _ e n=>u.keep b o e n hb (by simp)) (fun b o _ hb _ e n=>u.slot b o e n hb (by simp)) (fun b o _ e n=>u.free b o e n (by simp)) (fun b o _ e=>u.there b o e (by simp)) u.tups u.frzs u.tbls (fun m' hm=>by
  obtain⟨o',es',ep',ho',r'⟩:=hm;rw[ho] at ho';cases ho'
  exact⟨_,es',ep',hL,r'⟩) hok I.bare
theorem Inv.call {g':Array GenState}{t':Nat}{d':Drawn}{ch:List Addr}(I:Inv X aU σ H s)(u:Un (frs X.stack) ch H H' s.heap h')(hok:HOk X.prog X.w H' h')(hg:AllBare g')
  (hch:∀b∈ch,(b∈X.ex\/X.s₀.heap.objs.size<=b)/\b≠X.env.locals/\(∀x c,X.env.cells.lookup x=some c->c≠b)/\∀p∈X.pn++aU,p.1≠b) :
  Inv X aU σ H' {s with heap:=h',gens:=g',drawn:=d',toks:=t'}:=by
 obtain⟨m,⟨o,es,ep,ho,r⟩,_⟩:=id I.loc;obtain⟨sl,hL⟩:=u.any ho I.free fun z=>(hch _ z).2.1 rfl
 exact I.step (ch:=ch) hch (fun b o hL hb hc e n=>u.keep b o e n (fun z=>(xbp.mp (I.stkSub b z)).elim hL hb) hc) (fun b o _ _ hc e n=>u.any e n hc) (fun b o hc e n=>u.free b o e n hc) (fun b o hc e=>u.there b o e hc) u.tups u.frzs u.tbls (fun m' hm=>by
  obtain⟨o',es',ep',ho',r'⟩:=hm;rw[ho] at ho';cases ho'
  exact⟨_,es',ep',hL,r'⟩) hok hg
theorem Inv.turned {t':Nat}{it:Addr}(I:Inv X aU σ H s)(k:∀b o,b≠it->s.heap.get? b=some o->h'.get? b=some o)(hn:H it=none)(hL:it≠X.env.locals)
  (h1:it∈X.ex\/X.s₀.heap.objs.size<=it)(h2:∀x c,X.env.cells.lookup x=some c->c≠it)(h3:∀p∈X.pn++aU,p.1≠it):Inv X aU σ H {s with heap:=h',toks:=t'}:=by
 have nit:∀b u,H b=some u->b≠it:=fun b u e z=>by rw[z,hn] at e;cases e
 refine I.step (g':=s.gens) (d':=s.drawn) (ch:=[it]) (fun b hb=>?_) (fun b o _ _ hc e _=>k b o (fun z=>hc (by simp[z])) e) (fun b o _ _ hc e _=>⟨o.slots,k b o (fun z=>hc (by simp[z])) e⟩) (fun _ _ _ _ n=>n)
  (fun b o hc e=>⟨o,k b o (fun z=>hc (by simp[z])) e⟩) (fun _ _ e=>e) (fun _ _ _ e=>e) (fun b ps e=>⟨#[],by rw[e];simp⟩) (fun m hm=>?_) (fun b u e=>?_) I.bare
 ·have e:b=it:=by simpa using hb
  subst e;exact⟨h1,hL,h2,h3⟩
 ·obtain⟨o,es,ep,ho,r⟩:=hm;exact⟨o,es,ep,k _ o (xem hL) ho,r⟩
 ·refine(I.hok b u e).stay (fun c v hc q=>k c v ?_ q) (fun _ q=>q) fun _ _ q=>q
  rcases hc with z | z
  ·rw[z];exact nit b u e
  ·exact nit c _ z
theorem Inv.tok (I:Inv X aU σ H s)(t:Nat):Inv X aU σ H {s with toks:=t}:=I.un (h':=s.heap) (t':=t) Un.refl I.hok
theorem Inv.kept {t':Nat}(I:Inv X aU σ H s)(k:∀b u,s.heap.get? b=some u->h'.get? b=some u):Inv X aU σ H {s with heap:=h',toks:=t'}:=I.un (Un.kept k) (I.hok.kept k)
theorem Inv.laid {a:Addr}{o:HO}{t':Nat}(I:Inv X aU σ H s)(k:∀b u,s.heap.get? b=some u->h'.get? b=some u)(hp:s.heap.objs.size<=a)(new:ObjOk X.prog X.w (upd H a o) h' a o) :
 Inv X aU σ (upd H a o) {s with heap:=h',toks:=t'}:=I.un (Un.laid k hp (I.hok.fresh hp)) (I.hok.laid k hp new)
theorem Inv.write {x e:Addr}{o:HO}{t':Nat}(I:Inv X aU σ H s)(mu:Mut (H x))(he:e=x\/H e=some (.own x))(k:∀b u,b≠e->s.heap.get? b=some u->h'.get? b=some u)(heo:∃u,h'.get? e=some u)
 (new:ObjOk X.prog X.w (upd H x o) h' x o):Inv X aU σ (upd H x o) {s with heap:=h',toks:=t'}:=I.un (Un.write mu he k heo) (I.hok.write mu he k heo new)
theorem Inv.pins_of {pins':List (Addr×Obj)}(I:Inv X aU σ H s)(h:∀p∈pins',s.heap.get? p.1=some p.2/\H p.1=none/\p.1≠X.env.locals/\p.1∉X.fs/\∀v,p.2.data≠.cell v):Inv X pins' σ H s :=
 ⟨I.ok,I.os,I.bare,I.base,I.loc,I.cell,I.free,I.freeC,fun p hp=>(xbw.mp hp).elim (fun z=>I.pin p (xed _ z)) (h p),I.hok,I.len,I.hnd⟩
theorem zth {N:List Str}(hN:N.Nodup){i j:Nat}{x:Str}(a:N[i]?=some x)(b:N[j]?=some x):i=j:=by
 obtain⟨h1,e1⟩:=xbh.mp a;obtain⟨h2,e2⟩:=xbh.mp b;exact(List.getElem_inj hN).mp (e1.trans e2.symm)
theorem zvz {M:Model}{A:Around}{E:Value->Shared->Prop}{i:Nat}{x:Str}{v:V}{u:Value}{Q:Unit->Shared->Prop}(I:Inv X aU σ H s)(hN:X.N.Nodup)(hi:X.N[i]?=some x)(hx:Loc X.env.scope x)(r:RelV v u)
  (h:∀s',Inv X aU (σ.set i (some v)) H s'->(∃a,Heap.SameBut a s.heap s'.heap/\(a=X.env.locals\/X.env.cells.lookup x=some a))->Q () s')(hf:X.fn x=true\/X.env.scope.names.lookup x=some .local:=by first | exact .inl rfl | exact .inr rfl | assumption):wpAny M A (storeName X.env x u) Q E s:=by
 obtain⟨m,hn,hl⟩:=id I.loc;have hcls:(X.env.scope.kind==.class||(X.env.scope.kind==.module&&X.env.locals != X.env.globals))=false:=by rw[I.ok.kind];rfl
 have hiσ:i < σ.length:=by rw[I.len];exact(xbh.mp hi).1
 have cne:=I.cne;have tracked:∀{a:Addr} {h':Heap},(∃o,s.heap.get? a=some o/\H a=none)->Heap.SameBut a s.heap h'->HOk X.prog X.w H h':=fun {a h'} ha hs b ob e=>by
  obtain⟨_,_,hfree⟩:=ha;refine(I.hok b ob e).stay (fun c w' hc q=>(hs.2 c ?_).trans q) (fun _ q=>q) fun _ _ q=>q
  rintro rfl;rcases hc with rfl | hc
  ·rw[hfree] at e;cases e
  ·rw[hfree] at hc;cases hc
 rcases hx with hk | hk
 ·refine wpAny_storeName_local hk hn (fun h' hn' hs=>?_) hcls;obtain⟨oL,_,_,hoL,_⟩:=id hn;refine h _ ⟨I.ok,I.os,I.bare,⟨fun b o e n hb hx=>?_,fun b o e n hb hx=>?_,I.base.free,fun b o e hx=>?_,I.base.tups,I.base.frzs,I.base.tbls⟩,⟨_,hn',fun j y v' e1 e2 e3=>?_⟩,fun y c e=>?_,I.free,I.freeC,fun p hp=>?_,tracked ⟨oL,hoL,I.free⟩ hs,by simpa using I.len,I.hnd⟩ ⟨_,hs,.inl rfl⟩
  ·exact(hs.2 b (xch (xbg (xbv e) I.ok.above))).trans (I.base.keep b o e n hb hx)
  ·obtain⟨sl,e1⟩:=I.base.slot b o e n hb hx;exact⟨sl,(hs.2 b (xch (xbg (xbv e) I.ok.above))).trans e1⟩
  ·obtain⟨o',e1⟩:=I.base.there b o e hx;exact⟨o',(hs.2 b (xch (xbg (xbv e) I.ok.above))).trans e1⟩
  ·by_cases hj:j=i
   ·subst hj;rw[hi] at e1;cases e1
    rw[xdv hiσ] at e2;cases e2;exact⟨u,r,.inl ⟨hk,by simp⟩⟩
   ·rw[xcq (xem hj)] at e2;obtain⟨u',r',q⟩:=hl j y v' e1 e2 e3;refine⟨u',r',?_⟩;rcases q with⟨k,e⟩ | ⟨k,c,e,z⟩
    ·refine .inl ⟨k,?_⟩;have:y≠x:=fun e=>hj (zth hN e1 (e ▸ hi))
     simp[this,e]
    ·exact .inr ⟨k,c,e,z.sameBut hs (cne y c e)⟩
  ·obtain⟨w',z⟩:=I.cell y c e;exact⟨w',z.sameBut hs (cne y c e)⟩
  ·obtain⟨e,n,ne,nf,d⟩:=I.pin p hp;exact⟨(hs.2 p.1 ne).trans e,n,ne,nf,d⟩
 ·have hfn:X.fn x=true:=by
   rcases hf with z | z
   ·exact z
   ·rw[z] at hk;cases hk
  obtain⟨c,hc⟩:=I.ok.has x (.inl hk);obtain⟨w',z⟩:=I.cell x c hc;refine wpAny_storeName_cell I.ok.kind hk hc z (fun h' hc' hs=>?_);obtain⟨oc,hoc,hocd⟩:=id z;refine h {s with heap:=h'} ⟨I.ok,I.os,I.bare,⟨fun b o e n hb hx=>?_,fun b o e n hb hx=>?_,I.base.free,fun b o e hx=>?_,I.base.tups,I.base.frzs,I.base.tbls⟩,⟨m,hn.sameBut hs (xem (cne x c hc)),fun j y v' e1 e2 e3=>?_⟩,fun y c' e=>?_,I.free,I.freeC,fun p hp=>?_,tracked ⟨oc,hoc,I.freeC x c hc⟩ hs,by simpa using I.len,I.hnd⟩ ⟨c,hs,.inr hc⟩
  ·exact(hs.2 b (xch (xbg (xbv e) (I.ok.cab x c hfn hc)))).trans (I.base.keep b o e n hb hx)
  ·obtain⟨sl,e1⟩:=I.base.slot b o e n hb hx;exact⟨sl,(hs.2 b (xch (xbg (xbv e) (I.ok.cab x c hfn hc)))).trans e1⟩
  ·obtain⟨o',e1⟩:=I.base.there b o e hx;exact⟨o',(hs.2 b (xch (xbg (xbv e) (I.ok.cab x c hfn hc)))).trans e1⟩
  ·by_cases hj:j=i
   ·subst hj;rw[hi] at e1;cases e1
    rw[xdv hiσ] at e2;cases e2;exact⟨u,r,.inr ⟨.inl hk,c,hc,hc'⟩⟩
   ·rw[xcq (xem hj)] at e2;obtain⟨u',r',q⟩:=hl j y v' e1 e2 e3;refine⟨u',r',?_⟩;rcases q with q | ⟨k,c',e,z'⟩
    ·exact .inl q
    ·refine .inr ⟨k,c',e,z'.sameBut hs ?_⟩;rintro rfl;exact hj (zth hN e1 (I.ok.inj _ _ _ e hc ▸ hi))
  ·by_cases hcc:c'=c
   ·subst hcc;exact⟨_,hc'⟩
   ·obtain⟨w2,z2⟩:=I.cell y c' e;exact⟨w2,z2.sameBut hs hcc⟩
  ·obtain⟨e,n,ne,nf,d⟩:=I.pin p hp;refine⟨(hs.2 p.1 ?_).trans e,n,ne,nf,d⟩;intro q;rw[q,hoc] at e;have q':oc=p.2:=xcv e;exact d w' (by rw[← q'];exact hocd)
theorem zme {M:Model}{A:Around}{E:Value->Shared->Prop}{i:Nat}{x:Str}{v:V}{u:Value}{Q:Unit->Shared->Prop}(I:Inv X aU σ H s)(hN:X.N.Nodup)(hi:X.N[i]?=some x)(hx:Loc X.env.scope x)(r:RelV v u)
  (h:∀s',Inv X aU (σ.set i (some v)) H s'->Q () s')(hf:X.fn x=true\/X.env.scope.names.lookup x=some .local:=by first | exact .inl rfl | exact .inr rfl | assumption):wpAny M A (storeName X.env x u) Q E s :=
 zvz I hN hi hx r (fun s' I' _=>h s' I') hf
theorem Inv.call' {s':Shared}{ch:List Addr}(I:Inv X aU σ H s)(ho:s'.os=s.os)(u:Un (frs X.stack) ch H H' s.heap s'.heap)(hok:HOk X.prog X.w H' s'.heap)(hg:AllBare s'.gens)
  (hch:∀b∈ch,(b∈X.ex\/X.s₀.heap.objs.size<=b)/\b≠X.env.locals/\(∀x c,X.env.cells.lookup x=some c->c≠b)/\∀p∈X.pn++aU,p.1≠b):Inv X aU σ H' s':=by
 obtain⟨h',g',d',t',o'⟩:=s';have e:o'=s.os:=ho;subst e;exact I.call (g':=g') (t':=t') (d':=d') u hok hg hch
end
noncomputable abbrev XK:=Value->Option Addr->Hp->Prop
noncomputable abbrev St:=List (Option V)
noncomputable abbrev VK:=V->Hp->Prop
noncomputable abbrev TE:=St->Hp->VK->Prop
noncomputable abbrev TT:=St->Hp->(Bool->Hp->Prop)->Prop
noncomputable abbrev TA:=St->Hp->(List V->Hp->Prop)->Prop
structure Ends where
 nx:St->Hp->Prop
 rt:VK
 bk:St->Hp->Prop:=fun _ _=>False
 ct:St->Hp->Prop:=fun _ _=>False
noncomputable abbrev TS:=Ends->St->Hp->Prop
noncomputable def EP (X:Cx) (aU:List (Addr×Obj)) (σ:St) (Q:VK) (u:Value) (s':Shared):Prop:=∃v H',Inv X aU σ H' s'/\RelV v u/\Q v H'
noncomputable def TP (X:Cx) (aU:List (Addr×Obj)) (σ:St) (Q:Bool->Hp->Prop) (b:Bool) (s':Shared):Prop:=∃H',Inv X aU σ H' s'/\Q b H'
noncomputable def AP (X:Cx) (aU:List (Addr×Obj)) (σ:St) (Q:List V->Hp->Prop) (us:List Value) (s':Shared):Prop:=∃vs H',Inv X aU σ H' s'/\Vals vs us/\Q vs H'
noncomputable def SP (X:Cx) (aU:List (Addr×Obj)) (D:Ends) (f:Flow) (s':Shared):Prop :=
 match f with
 | .next=>∃σ' H',Inv X aU σ' H' s'/\D.nx σ' H'
 | .brk=>∃σ' H',Inv X aU σ' H' s'/\D.bk σ' H'
 | .cont=>∃σ' H',Inv X aU σ' H' s'/\D.ct σ' H'
 | .ret u=>∃v σ' H',Inv X aU σ' H' s'/\RelV v u/\D.rt v H'
noncomputable def PE (X:Cx) (e:Expr) (t:TE):Prop :=
 ∀(aU:List (Addr×Obj)) (s:Shared) (σ:St) (H:Hp) (Q:VK),Inv X aU σ H s->t σ H Q->wpAny (model X.prog X.w) X.A (eval e X.env) (EP X aU σ Q) X.xe s
noncomputable def PT (X:Cx) (e:Expr) (t:TT):Prop :=
 ∀(aU:List (Addr×Obj)) (s:Shared) (σ:St) (H:Hp) (Q:Bool->Hp->Prop),Inv X aU σ H s->t σ H Q->wpAny (model X.prog X.w) X.A (isTrue e X.env (eval e X.env)) (TP X aU σ Q) X.xe s
noncomputable def PW (X:Cx) (e:Expr) (t:TT):Prop :=
 ∀(whole:Sem Value) (aU:List (Addr×Obj)) (s:Shared) (σ:St) (H:Hp) (Q:Bool->Hp->Prop),Inv X aU σ H s->t σ H Q->wpAny (model X.prog X.w) X.A (isTrue e X.env whole) (TP X aU σ Q) X.xe s
theorem PW.pt {X:Cx}{e:Expr}{t:TT}(h:PW X e t):PT X e t:=h _
noncomputable def PA (X:Cx) (es:List Expr) (t:TA):Prop :=
 ∀(pos:Pos) (aU:List (Addr×Obj)) (s:Shared) (σ:St) (H:Hp) (Q:List V->Hp->Prop),Inv X aU σ H s->t σ H Q->wpAny (model X.prog X.w) X.A (spliced (backTo pos (starEach es X.env))) (AP X aU σ Q) X.xe s
noncomputable def PS (X:Cx) (st:Stmt) (t:TS):Prop :=
 ∀(aU:List (Addr×Obj)) (s:Shared) (σ:St) (H:Hp) (D:Ends),Inv X aU σ H s->t D σ H->wpAny (model X.prog X.w) X.A (exec st X.env) (SP X aU D) X.xe s
noncomputable def PSs (X:Cx) (st:List Stmt) (t:TS):Prop :=
 ∀(aU:List (Addr×Obj)) (s:Shared) (σ:St) (H:Hp) (D:Ends),Inv X aU σ H s->t D σ H->wpAny (model X.prog X.w) X.A (execs st X.env) (SP X aU D) X.xe s
theorem thn {α:Type}{t:Sem α}{Q Q':α->Shared->Prop}{M:Model}{A:Around}{E:Value->Shared->Prop}{s:Shared}(h:wpAny M A t Q E s)(hQ:∀a s,Q a s->Q' a s):wpAny M A t Q' E s:=xfe h hQ fun _ _ x=>x
section
variable {X:Cx}
noncomputable def tVar (i:Nat):TE:=fun σ H Q=>∃v,σ[i]?=some (some v)/\Q v H
noncomputable def tC (v:V):TE:=fun _ H Q=>Q v H
theorem zblu {i:Nat}{x:Str}{pos:Pos}(hN:X.N[i]?=some x)(hv:Vis X.env.scope x)(hd:(x==("__debug__" : Str))=false:=by decide)(hcd:(x==("__classdict__" : Str))=false:=by decide):PE X (.Name x pos) (tVar i):=by
 intro aU s σ H Q I h;obtain⟨v,e,h⟩:=h;obtain⟨m,hn,hl⟩:=I.loc;obtain⟨u,r,l⟩:=hl i x v hN e hv;have fin:EP X aU σ Q u s:=⟨v,H,I,r,h⟩
 rcases l with⟨hk,hm⟩ | ⟨hk,c,hc,hcell⟩
 ·exact wpAny_Name (wpAny_loadName_local I.ok.kind hk hn hm fin) hd
 ·rcases hk with hk | hk
  ·exact wpAny_Name (wpAny_loadName_cell I.ok.kind hk hc hcell fin) hd
  ·exact wpAny_Name (wpAny_loadName_free I.ok.kind hk hc hcell fin hcd) hd
theorem zbma {i j pos}:PE X (.Constant (.int i) j pos) (tC (.int i)):=fun _ _ _ H _ I h=>wpAny_Constant_int ⟨.int i,H,I.tok _,⟨_,rfl⟩,h⟩
theorem zbqu {b j pos}:PE X (.Constant (.bool b) j pos) (tC (.bl b)):=fun _ _ _ H _ I h=>Constant_bool ⟨.bl b,H,I,rfl,h⟩
theorem zblz {j pos}:PE X (.Constant .none j pos) (tC .non):=fun _ _ _ H _ I h=>Constant_none ⟨.non,H,I,rfl,h⟩
theorem zblw {x j pos}:PE X (.Constant (.str x) j pos) (tC (.str x)):=fun _ _ _ H _ I h=>Calls.Constant_str ⟨.str x,H,I.tok _,⟨_,rfl⟩,h⟩
noncomputable def Gl (X:Cx) (x:Str):Prop:=X.env.kindOf x=some .globalImplicit
theorem zzb {E:Value->Shared->Prop}{aU:List (Addr×Obj)}{s:Shared}{σ:St}{H:Hp}{x:Str}{u:Value}{pos:Pos}{Q:Value->Shared->Prop}(I:Inv X aU σ H s)(hg:Gl X x)(hm:X.mg x=some u)(h:Q u s)
  (hd:(x==("__debug__" : Str))=false:=by decide):wpAny (model X.prog X.w) X.A (eval (.Name x pos) X.env) Q E s :=
 Calls.Name_function_global I.ok.kind hg (Calls.loadGlobal_global (by rw[I.ok.glob];exact I.mod.glob.keeps I.bk) hm h) hd
theorem zqv {E:Value->Shared->Prop}{aU:List (Addr×Obj)}{s:Shared}{σ:St}{H:Hp}{x:Str}{u:Value}{pos:Pos}{Q:Value->Shared->Prop}(I:Inv X aU σ H s)(hg:Gl X x)(hm:X.mg x=none)(hv:bootBuiltins x=some u)(h:Q u s)
  (hn:x≠"__name__":=by decide)(hd:(x==("__debug__" : Str))=false:=by decide):wpAny (model X.prog X.w) X.A (eval (.Name x pos) X.env) Q E s:=by
 obtain⟨mb,h1,h2⟩:=I.mod.blt;exact Calls.Name_function_global I.ok.kind hg (Calls.loadGlobal_builtin (by rw[I.ok.glob];exact I.mod.glob.keeps I.bk) hm (by rw[I.ok.blt];exact h1.keeps I.bk) ((h2 x hn).trans hv) h) hd
theorem zyr {x:Str}{v:V}{u:Value}{pos:Pos}(hg:Gl X x)(hm:X.mg x=some u)(r:RelV v u)(hd:(x==("__debug__" : Str))=false:=by decide):PE X (.Name x pos) (tC v) :=
 fun _ _ _ H _ I h=>zzb I hg hm ⟨v,H,I,r,h⟩ hd
theorem zoq {x:Str}{v:V}{u:Value}{pos:Pos}(hg:Gl X x)(hm:X.mg x=none)(hv:bootBuiltins x=some u)(r:RelV v u)(hn:x≠"__name__":=by decide)(hd:(x==("__debug__" : Str))=false:=by decide):PE X (.Name x pos) (tC v) :=
 fun _ _ _ H _ I h=>zqv I hg hm hv ⟨v,H,I,r,h⟩ hn hd
variable {a b:Expr}{ta tb:TE}{pos:Pos}
noncomputable def PC (X:Cx) (op:CmpOp) (a b:Expr) (t:TE):Prop :=
 ∀(aU:List (Addr×Obj)) (s:Shared) (σ:St) (H:Hp) (Q:VK),Inv X aU σ H s->t σ H Q ->
  wpAny (model X.prog X.w) X.A (eval a X.env) (fun v s₁=>wpAny (model X.prog X.w) X.A (eval b X.env) (fun u s₂=>wpAny (model X.prog X.w) X.A (compareOp op v u) (EP X aU σ Q) X.xe s₂) X.xe s₁) X.xe s
noncomputable def tB (t:TE):TT:=fun σ H Q=>t σ H fun x H1=>∃c,x=.bl c/\Q c H1
theorem zbll {op:CmpOp}{t:TE}(h:PC X op a b t)(h1:behindInMarks op b=false:=by first | exact nobehind _ (by decide) (by decide) | rfl):PT X (.Compare a [op] [b] pos) (tB t):=by
 intro aU s σ H Q I hw;refine wpAny_isTrue_Compare1 (thn (h aU s σ H _ I hw) fun v s1 h1=>thn h1 fun u s2 h2=>thn h2 fun c s3 hq0=>?_) h1;obtain⟨x,H1,I1,r1,q1⟩:=hq0;obtain⟨d,rfl,q⟩:=q1;cases r1;exact xgo ⟨H1,I1,q⟩
variable {tA tB':TT}{rest:List Expr}
noncomputable def tAnd (t u:TT):TT:=fun σ H Q=>t σ H fun c H1=>if c=true then u σ H1 Q else Q false H1
noncomputable def tOr (t u:TT):TT:=fun σ H Q=>t σ H fun c H1=>if c=true then Q true H1 else u σ H1 Q
noncomputable def tNot (t:TT):TT:=fun σ H Q=>t σ H fun c H1=>Q (!c) H1
theorem pw_and1 (ha:PT X a tA):PW X (.BoolOp .And [a] pos) tA:=by
 intro wh aU s σ H Q I h;refine isTrue_and (thn (ha aU s σ H Q I h) fun c s1 e=>?_);cases c with
 | true=>exact isTrue_and_nil e
 | false=>exact e
theorem pw_or1 (ha:PT X a tA):PW X (.BoolOp .Or [a] pos) tA:=by
 intro wh aU s σ H Q I h;refine isTrue_or (thn (ha aU s σ H Q I h) fun c s1 e=>?_);cases c with
 | false=>exact isTrue_or_nil e
 | true=>exact e
theorem pw_and (ha:PT X a tA)(hb:PW X (.BoolOp .And (b::rest) pos) tB'):PW X (.BoolOp .And (a::b::rest) pos) (tAnd tA tB'):=by
 intro wh aU s σ H Q I h;refine isTrue_and (thn (ha aU s σ H _ I h) fun c s1 hq0=>?_);obtain⟨H1,I1,q1⟩:=hq0;cases c with
 | true=>exact hb wh aU s1 σ H1 Q I1 q1
 | false=>exact⟨H1,I1,q1⟩
theorem pw_or (ha:PT X a tA)(hb:PW X (.BoolOp .Or (b::rest) pos) tB'):PW X (.BoolOp .Or (a::b::rest) pos) (tOr tA tB'):=by
 intro wh aU s σ H Q I h;refine isTrue_or (thn (ha aU s σ H _ I h) fun c s1 hq0=>?_);obtain⟨H1,I1,q1⟩:=hq0;cases c with
 | true=>exact⟨H1,I1,q1⟩
 | false=>exact hb wh aU s1 σ H1 Q I1 q1
theorem zblk (ha:PT X a tA):PT X (.UnaryOp .Not a pos) (tNot tA):=by
 intro aU s σ H Q I h;exact isTrue_not (ha aU s σ H (fun c H1=>Q (!c) H1) I h)
noncomputable def tAndV (ta tb:TE):TE:=fun σ H Q=>ta σ H fun x H1=>∃c,x=.bl c/\if c=true then tb σ H1 Q else Q (.bl false) H1
noncomputable def tNotV (ta:TE):TE:=fun σ H Q=>ta σ H fun x H1=>∃c,x=.bl c/\Q (.bl (!c)) H1
theorem zblx {op}{t:TE}(h:PE X a t):PE X (.BoolOp op [a] pos) t:=fun aU s σ H Q I hw=>BoolOp_one (h aU s σ H Q I hw)
theorem zbmd (ha:PE X a ta)(hb:PE X (.BoolOp .And (b::rest) pos) tb):PE X (.BoolOp .And (a::b::rest) pos) (tAndV ta tb):=by
 intro aU s σ H Q I h;refine BoolOp_and (thn (ha aU s σ H _ I h) fun v s1 hq0=>?_);obtain⟨x,H1,I1,r1,q1⟩:=hq0;obtain⟨c,rfl,q1⟩:=q1;cases r1;refine xgo ?_;cases c with
 | true=>exact hb aU s1 σ H1 Q I1 q1
 | false=>exact⟨.bl false,H1,I1,rfl,q1⟩
theorem zbly (ha:PE X a ta):PE X (.UnaryOp .Not a pos) (tNotV ta):=by
 intro aU s σ H Q I h;refine UnaryOp_ (thn (ha aU s σ H _ I h) fun v s1 hq0=>?_);obtain⟨x,H1,I1,r1,q1⟩:=hq0;obtain⟨c,rfl,q1⟩:=q1;cases r1;exact not_of (xgo ⟨.bl (!c),H1,I1,rfl,q1⟩)
noncomputable def tIf (t:TT) (ta tb:TE):TE:=fun σ H Q=>t σ H fun c H1=>if c=true then ta σ H1 Q else tb σ H1 Q
theorem zbbo {c:Expr}(hc:PT X c tA)(ha:PE X a ta)(hb:PE X b tb):PE X (.IfExp c a b pos) (tIf tA ta tb):=by
 intro aU s σ H Q I h;refine wpAny_IfExp (thn (hc aU s σ H _ I h) fun d s1 hq0=>?_);obtain⟨H1,I1,q1⟩:=hq0;cases d with
 | true=>exact ha aU s1 σ H1 Q I1 q1
 | false=>exact hb aU s1 σ H1 Q I1 q1
end
noncomputable def SqL (K:Fg) (H:Hp) (a:Addr) (xs:List V):Prop :=
 Rd H a (.lst xs) \/
  ∃(o:Obj) (its:Array Value) (n:Nat), K.lookup a=some o/\o.cls=.type "list"/\o.dict=none/\o.data=.seq its n/\its.size<=sizeLine/\Vals xs its.toList
noncomputable def SqT (K:Fg) (H:Hp) (a:Addr) (xs:List V):Prop :=
 Rd H a (.tup xs) \/
  ∃(o:Obj) (its:Array Value) (n:Nat), K.lookup a=some o/\o.cls=.type "tuple"/\o.data=.seq its n/\its.size<=sizeLine/\Vals xs its.toList
noncomputable def absV:Value->Option V
 | .none=>some .non
 | .bool b=>some (.bl b)
 | .int i _=>some (.int i)
 | .str x _=>some (.str x)
 | .bytes b _=>some (.byt b)
 | .float b _=>some (.flt b)
 | .ref a=>some (.ref a)
 | .type n=>some (.ty n)
 | _=>none
theorem RelV.abs {x:V}{u:Value}(r:RelV x u):absV u=some x:=by
 cases x with
 | non=>cases r;rfl
 | bl _=>cases r;rfl
 | int _=>obtain⟨t,rfl⟩:=r;rfl
 | str _=>obtain⟨t,rfl⟩:=r;rfl
 | byt _=>obtain⟨t,rfl⟩:=r;rfl
 | flt _=>obtain⟨t,rfl⟩:=r;rfl
 | ref _=>cases r;rfl
 | ty _=>cases r;rfl
theorem RelV.inj {x y:V}{u:Value}(r:RelV x u)(q:RelV y u):x=y:=xcv (r.abs.symm.trans q.abs)
theorem Vals.inj:∀{xs ys:List V} {us:List Value},Vals xs us->Vals ys us->xs=ys
 | _,_,_,.nil,.nil=>rfl
 | _,_,_,.cons r t,.cons r' t'=>by rw[r.inj r',Vals.inj t t']
section
variable {X:Cx}{aU:List (Addr×Obj)}{σ:St}{H:Hp}{s:Shared}{a:Addr}{xs ys:List V}
theorem SqL.of {K:Fg}(h:H a=some (.lst xs)):SqL K H a xs:=.inl (.inl h)
theorem SqT.of {K:Fg}(h:H a=some (.tup xs)):SqT K H a xs:=.inl (.inl h)
theorem Inv.list (I:Inv X aU σ H s)(h:SqL X.K H a xs):∃its:List Value,Vals xs its/\PlainL s.heap a its.toArray/\xs.length<=sizeLine:=by
 rcases h with h | ⟨o,its,n,hk,hc,hd,hs,hz,r⟩
 ·obtain⟨z,its,n,r,e⟩:=h.ok I.hok;exact⟨its,r,⟨_,n,e,rfl,rfl,rfl⟩,z⟩
 ·refine⟨its.toList,r,⟨o,n,I.kIn a o hk,hc,hd,by simpa using hs⟩,?_⟩;have e:=r.length;simp only[xcc] at e;lia
theorem Inv.tuple (I:Inv X aU σ H s)(h:SqT X.K H a xs):∃its:List Value,Vals xs its/\IsTup s.heap a its.toArray/\xs.length<=sizeLine:=by
 rcases h with h | ⟨o,its,n,hk,hc,hs,hz,r⟩
 ·obtain⟨z,its,r,p⟩:=h.ok I.hok;exact⟨its,r,p,z⟩
 ·refine⟨its.toList,r,⟨o,I.kIn a o hk,hc,n,by simpa using hs⟩,?_⟩;have e:=r.length;simp only[xcc] at e;lia
theorem Inv.list_inj (I:Inv X aU σ H s)(h:SqL X.K H a xs)(h':SqL X.K H a ys):xs=ys:=by
 obtain⟨its,r,⟨o,n,e,_,_,d⟩,_⟩:=I.list h;obtain⟨its',r',⟨o',n',e',_,_,d'⟩,_⟩:=I.list h';rw[e] at e';cases e'
 rw[d] at d';injection d' with d1 _
 have:its=its':=by simpa using congrArg Array.toList d1
 subst this;exact r.inj r'
theorem Inv.tuple_inj (I:Inv X aU σ H s)(h:SqT X.K H a xs)(h':SqT X.K H a ys):xs=ys:=by
 obtain⟨its,r,⟨o,e,_,n,d⟩,_⟩:=I.tuple h;obtain⟨its',r',⟨o',e',_,n',d'⟩,_⟩:=I.tuple h';rw[e] at e';cases e'
 rw[d] at d';injection d' with d1 _
 have:its=its':=by simpa using congrArg Array.toList d1
 subst this;exact r.inj r'
end
noncomputable abbrev Cx.wish (X:Cx) (E:Value->Shared->Prop):Cx:={X with xe:=E}
noncomputable abbrev Cx.nox (X:Cx):Cx:=X.wish fun _ _=>False
theorem Cx.Ok.wish {X:Cx}(ok:X.Ok)(E:Value->Shared->Prop):(X.wish E).Ok :=
 ⟨ok.mod,ok.kind,ok.glob,ok.blt,ok.above,ok.inj,ok.has,ok.cab,ok.hd,ok.frames,ok.stk,ok.exf,ok.bs,ok.bsz,ok.noex,ok.exfs,ok.funs,ok.frf⟩
theorem Cx.Ok.unwish {X:Cx}{E:Value->Shared->Prop}(ok:(X.wish E).Ok):X.Ok :=
 ⟨ok.mod,ok.kind,ok.glob,ok.blt,ok.above,ok.inj,ok.has,ok.cab,ok.hd,ok.frames,ok.stk,ok.exf,ok.bs,ok.bsz,ok.noex,ok.exfs,ok.funs,ok.frf⟩
section
variable {X:Cx}{aU:List (Addr×Obj)}{σ:St}{H:Hp}{s:Shared}{E:Value->Shared->Prop}
theorem Inv.wish (I:Inv X aU σ H s)(E:Value->Shared->Prop):Inv (X.wish E) aU σ H s:=⟨I.ok.wish E,I.os,I.bare,I.base,I.loc,I.cell,I.free,I.freeC,I.pin,I.hok,I.len,I.hnd⟩
theorem Inv.unwish (I:Inv (X.wish E) aU σ H s):Inv X aU σ H s:=⟨I.ok.unwish,I.os,I.bare,I.base,I.loc,I.cell,I.free,I.freeC,I.pin,I.hok,I.len,I.hnd⟩
theorem SP.unwish {D:Ends}{f:Flow}{s':Shared}(h:SP (X.wish E) aU D f s'):SP X aU D f s':=by
 cases f with
 | next=>obtain⟨σ',H',I,q⟩:=h;exact⟨σ',H',I.unwish,q⟩
 | brk=>obtain⟨σ',H',I,q⟩:=h;exact⟨σ',H',I.unwish,q⟩
 | cont=>obtain⟨σ',H',I,q⟩:=h;exact⟨σ',H',I.unwish,q⟩
 | ret u=>obtain⟨v,σ',H',I,r,q⟩:=h;exact⟨v,σ',H',I.unwish,r,q⟩
theorem PSs.nox {st:List Stmt}{t:TS}(h:PSs X.nox st t):PSs X st t:=fun aU s σ H D I hw =>
 xfe (h aU s σ H D (I.wish _) hw) (fun _ _ q=>q.unwish) fun _ _ z=>False.elim z
end
section
variable {X:Cx}{st:Stmt}{rest:List Stmt}{t u:TS}{e:Expr}{te:TE}{pos:Pos}
noncomputable def tNext:TS:=fun D σ H=>D.nx σ H
noncomputable def tSeq (t u:TS):TS:=fun D σ H=>t {D with nx:=u D} σ H
theorem zbfy:PSs X [] tNext:=fun _ _ σ H _ I h=>xlf ⟨σ,H,I,h⟩
theorem zbbd (h1:PS X st t)(h2:PSs X rest u):PSs X (st::rest) (tSeq t u):=by
 intro aU s σ H D I h;refine wpAny_execs_cons (thn (h1 aU s σ H {D with nx:=u D} I h) fun f s1 q=>?_);cases f with
 | next =>
  obtain⟨σ',H',I',q⟩:=q;exact h2 aU s1 σ' H' D I' q
 | ret v=>exact q
 | brk=>exact q
 | cont=>exact q
theorem zbfx (h1:PS X st t):PSs X [st] t:=by
 intro aU s σ H D I h;refine wpAny_execs_cons (thn (h1 aU s σ H D I h) fun f s1 q=>?_);cases f with
 | next=>exact xlf q
 | ret v=>exact q
 | brk=>exact q
 | cont=>exact q
noncomputable def tBreak:TS:=fun D σ H=>D.bk σ H
theorem zbbf:PS X (.Break pos) tBreak:=fun _ _ σ H _ I h=>wpAny_Break ⟨σ,H,I,h⟩
theorem Inv.quiet {aU:List (Addr×Obj)}{σ:St}{H:Hp}{s:Shared}(I:Inv X aU σ H s):interactive X.env=false:=by simp[interactive,I.ok.kind]
noncomputable def tDrop (te:TE):TS:=fun D σ H=>te σ H fun _ H1=>D.nx σ H1
theorem zbfz (he:PE X e te)(hs:swapsWith e none pos.line X.env=pure false:=by rfl):PS X (.Expr e pos) (tDrop te):=by
 intro aU s σ H D I h;exact wpAny_Expr_any (thn (he aU s σ H _ I h) fun v s1 ⟨x,H1,I1,r1,q1⟩=>⟨σ,H1,I1,q1⟩) I.quiet hs
noncomputable def tRet (te:TE):TS:=fun D σ H=>te σ H D.rt
theorem zbln (he:PE X e te):PS X (.Return (some e) pos) (tRet te):=by
 intro aU s σ H D I h;exact wpAny_Return_some (thn (he aU s σ H _ I h) fun v s1 ⟨x,H1,I1,r1,q1⟩=>⟨x,σ,H1,I1,r1,q1⟩)
noncomputable def tIfS (c:TT) (t u:TS):TS:=fun D σ H=>c σ H fun b H1=>if b=true then t D σ H1 else u D σ H1
theorem zbqq {c:Expr}{a b:List Stmt}{tc:TT}(hc:PT X c tc)(ha:PSs X a t)(hb:PSs X b u):PS X (.If c a b pos) (tIfS tc t u):=by
 intro aU s σ H D I h;refine wpAny_If (thn (hc aU s σ H _ I h) fun d s1 hq0=>?_);obtain⟨H1,I1,q1⟩:=hq0;cases d with
 | true=>exact ha aU s1 σ H1 D I1 q1
 | false=>exact hb aU s1 σ H1 D I1 q1
end
noncomputable abbrev TG:=V->St->Hp->(St->Hp->Prop)->Prop
noncomputable abbrev TGs:=List V->St->Hp->(St->Hp->Prop)->Prop
noncomputable def PG (X:Cx) (target:Expr) (t:TG):Prop :=
 ∀(aU:List (Addr×Obj)) (s:Shared) (σ:St) (H:Hp) (v:V) (u:Value) (Q:St->Hp->Prop),Inv X aU σ H s->RelV v u->t v σ H Q ->
  wpAny (model X.prog X.w) X.A (assign target X.env u) (fun _ s'=>∃σ' H',Inv X aU σ' H' s'/\Q σ' H') X.xe s
noncomputable def PGs (X:Cx) (ts:List Expr) (t:TGs):Prop :=
 ∀(aU:List (Addr×Obj)) (s:Shared) (σ:St) (H:Hp) (vs:List V) (us:List Value) (Q:St->Hp->Prop),Inv X aU σ H s->Vals vs us->t vs σ H Q ->
  wpAny (model X.prog X.w) X.A (assignInOrder ((assignEach ts X.env).map (·.2)) us) (fun _ s'=>∃σ' H',Inv X aU σ' H' s'/\Q σ' H') X.xe s
noncomputable abbrev TSet:=V->V->V->Hp->(Hp->Prop)->Prop
noncomputable def PSet (X:Cx) (t:TSet):Prop :=
 ∀(aU:List (Addr×Obj)) (s:Shared) (σ:St) (H:Hp) (o i v:V) (ov iv u:Value) (Q:Hp->Prop),Inv X aU σ H s->RelV o ov->RelV i iv->RelV v u->t o i v H Q ->
  wpAny (model X.prog X.w) X.A (setItem ov iv u) (fun _ s'=>∃H',Inv X aU σ H' s'/\Q H') X.xe s
noncomputable abbrev TIp:=V->V->Hp->VK->Prop
noncomputable def PIp (X:Cx) (op:Operator) (t:TIp):Prop :=
 ∀(aU:List (Addr×Obj)) (s:Shared) (σ:St) (H:Hp) (x y:V) (v u:Value) (Q:VK),Inv X aU σ H s->RelV x v->RelV y u->t x y H Q ->
  wpAny (model X.prog X.w) X.A (inplaceOp op v u) (EP X aU σ Q) X.xe s
section
variable {X:Cx}{pos:Pos}
noncomputable def gName (i:Nat):TG:=fun v σ H Q=>Q (σ.set i (some v)) H
theorem zbgn {i:Nat}{x:Str}(hN:X.N.Nodup)(hi:X.N[i]?=some x)(hx:Loc X.env.scope x)(hf:X.fn x=true\/X.env.scope.names.lookup x=some .local:=by first | exact .inl rfl | exact .inr rfl | assumption):PG X (.Name x pos) (gName i):=by
 intro aU s σ H v u Q I r h;exact wpAny_assign_Name (zme I hN hi hx r (fun s' I'=>⟨_,H,I',h⟩) hf)
noncomputable def gNil:TGs:=fun vs σ H Q=>vs=[]/\Q σ H
noncomputable def gCons (t:TG) (u:TGs):TGs:=fun vs σ H Q=>∃v r,vs=v::r/\t v σ H fun σ' H'=>u r σ' H' Q
theorem zbgm:PGs X [] gNil:=by
 intro aU s σ H vs us Q I r h;obtain⟨e,h⟩:=h;subst e;cases r;exact assignInOrder_nil ⟨σ,H,I,h⟩
theorem zbbm {e:Expr}{es:List Expr}{t:TG}{u:TGs}(h1:PG X e t)(h2:PGs X es u)
  (hs:(assignEach (e::es) X.env).map (·.2)=assign e X.env::(assignEach es X.env).map (·.2):=by rfl):PGs X (e::es) (gCons t u):=by
 intro aU s σ H vs us Q I r h;obtain⟨v,vr,e1,h⟩:=h;subst e1;cases r with
 | cons r rr =>
  rw[hs];refine assignInOrder_cons (thn (h1 aU s σ H _ _ _ I r h) fun _ s1 hq0=>?_);obtain⟨σ1,H1,I1,q1⟩:=hq0;exact h2 aU s1 σ1 H1 _ _ Q I1 rr q1
noncomputable def gTup (K:Fg) (n:Nat) (t:TGs):TG:=fun v σ H Q=>∃a xs,v=.ref a/\SqT K H a xs/\xs.length=n/\t xs σ H Q
theorem zbls {es:List Expr}{k:Nat}{t:TGs}{n:Nat}(hc:X.calm=true)(h:PGs X es t)
  (hn:(assignEach es X.env).length=n:=by rfl)(hst:(assignEach es X.env).findIdx? (·.1)=none:=by rfl):PG X (.Tuple es k pos) (gTup X.K n t):=by
 intro aU s σ H v u Q I r hw;obtain⟨a,xs,e1,hq,hl,hw⟩:=hw;subst e1;cases r;obtain⟨its,rv,ht,hz⟩:=I.tuple hq;refine assign_Tuple_tuple (I.ok.hd hc) ht (by simp[hn,← hl,rv.length]) hst fun h' hx=>?_
 have I1:Inv X aU σ H {s with heap:=h'}:=I.kept (t':=s.toks) fun b o e=>hx b o (xch (xbv e)) e
 exact h aU _ σ H xs _ Q I1 (by simpa using rv) hw
noncomputable def gSub (to ti:TE) (t:TSet):TG:=fun v σ H Q=>to σ H fun o H1=>ti σ H1 fun i H2=>t o i v H2 fun H3=>Q σ H3
theorem zblt {o i:Expr}{to ti:TE}{t:TSet}(ho:PE X o to)(hi:PE X i ti)(hs:PSet X t)
  (ha:∀v,assign (.Subscript o i pos) X.env v=(do
   let ov ← holding [v] (eval o X.env)
   let iv ← holding [v,ov] (eval i X.env)
   standAt pos
   holding [v,ov,iv] (setItem ov iv v)
   release [v,ov,iv] []):=by intro _;rfl):PG X (.Subscript o i pos) (gSub to ti t):=by
 intro aU s σ H v u Q I r h;rw[ha];refine xba (xex (thn (ho aU s σ H _ I h) fun ov s1 hq0=>?_));obtain⟨x,H1,I1,r1,q1⟩:=hq0;refine xba (xex (thn (hi aU s1 σ H1 _ I1 q1) fun iv s2 hq0=>?_));obtain⟨y,H2,I2,r2,q2⟩:=hq0;refine xba (wpAny_standAt (xba (xex (thn (hs aU s2 σ H2 x y v ov iv u _ I2 r1 r2 r q2) fun _ s3 hq0=>?_))));obtain⟨H3,I3,q3⟩:=hq0;exact wpAny_release ⟨σ,H3,I3,q3⟩
noncomputable def tAsg (te:TE) (g:TG):TS:=fun D σ H=>te σ H fun x H1=>g x σ H1 D.nx
theorem zblq {tg e:Expr}{te:TE}{g:TG}(he:PE X e te)(hg:PG X tg g)(hs:swapsWithSole [tg] e pos.line X.env=pure false:=by rfl)(hw:swappedStores [tg] e X.env=pure none:=by rfl)
  (h1:(assignEach [tg] X.env).map (·.2)=[assign tg X.env]:=by rfl):PS X (.Assign [tg] e pos) (tAsg te g):=by
 intro aU s σ H D I h;refine wpAny_Assign_stores (thn (he aU s σ H _ I h) fun v s1 hq0=>?_) hs hw;obtain⟨x,H1,I1,r1,q1⟩:=hq0;rw[h1];exact thn (hg aU s1 σ H1 x v _ I1 r1 q1) fun _ s2 q=>q
theorem zblm {i:Nat}{x:Str}{e:Expr}{te:TE}{pos':Pos}(hN:X.N.Nodup)(hi:X.N[i]?=some x)(hx:Loc X.env.scope x)(he:PE X e te)(hs:swapsWith e (some (.Name x pos')) pos.line X.env=pure false:=by rfl)(hf:X.fn x=true\/X.env.scope.names.lookup x=some .local:=by first | exact .inl rfl | exact .inr rfl | assumption) :
  PS X (.Assign [.Name x pos'] e pos) (tAsg te (gName i)):=by
 intro aU s σ H D I h;refine wpAny_Assign_Name (thn (he aU s σ H _ I h) fun v s1 hq0=>?_) hs;obtain⟨y,H1,I1,r1,q1⟩:=hq0;exact zme I1 hN hi hx r1 (fun s2 I2=>⟨_,H1,I2,q1⟩) hf
noncomputable def tAug (i:Nat) (te:TE) (ti:TIp):TS:=fun D σ H=>∃x,σ[i]?=some (some x)/\te σ H fun y H1=>ti x y H1 fun z H2=>D.nx (σ.set i (some z)) H2
theorem zblp {i:Nat}{x:Str}{e:Expr}{te:TE}{op:Operator}{ti:TIp}{pos':Pos}(hN:X.N.Nodup)(hi:X.N[i]?=some x)(hx:Loc X.env.scope x)(he:PE X e te)(ho:PIp X op ti)(hf:X.fn x=true\/X.env.scope.names.lookup x=some .local:=by first | exact .inl rfl | exact .inr rfl | assumption) :
  PS X (.AugAssign (.Name x pos') op e pos) (tAug i te ti):=by
 intro aU s σ H D I h;obtain⟨v,e1,h⟩:=h;obtain⟨m,hn,hl⟩:=I.loc;have vis:Vis X.env.scope x:=by rcases hx with k | k;exact .inl k;exact .inr (.inl k)
 obtain⟨u,r,l⟩:=hl i x v hi e1 vis;refine wpAny_AugAssign_Name ?_;have go:wpAny (model X.prog X.w) X.A (eval e X.env) (fun w s₂=>wpAny (model X.prog X.w) X.A (inplaceOp op u w) (fun r s₃=>wpAny (model X.prog X.w) X.A (storeName X.env x r) (fun _=>SP X aU D .next) X.xe s₃) X.xe s₂) X.xe s:=by
  refine thn (he aU s σ H _ I h) fun w s1 hq0=>?_
  obtain⟨y,H1,I1,r1,q1⟩:=hq0;refine thn (ho aU s1 σ H1 v y u w _ I1 r r1 q1) fun z s2 hq0=>?_
  obtain⟨zv,H2,I2,r2,q2⟩:=hq0;exact zme I2 hN hi hx r2 (fun s3 I3=>⟨_,H2,I3,q2⟩) hf
 rcases l with⟨hk,hm⟩ | ⟨hk,c,hc,hcell⟩
 ·exact wpAny_loadName_local I.ok.kind hk hn hm go
 ·rcases hk with hk | hk
  ·exact wpAny_loadName_cell I.ok.kind hk hc hcell go
  ·rcases hx with k | k
   ·have:X.env.scope.names.lookup x=some .free:=hk;rw[k] at this;cases this
   ·have:X.env.scope.names.lookup x=some .free:=hk;rw[k] at this;cases this
noncomputable def ipI (f:Int->Int->Int):TIp:=fun x y H Q=>∃i j,x=.int i/\y=.int j/\Q (.int (f i j)) H
theorem zbne:PIp X .Add (ipI fun i j=>i+j):=by
 intro aU s σ H x y v u Q I r1 r2 h;obtain⟨i,j,e1,e2,q⟩:=h;subst e1;subst e2
 obtain⟨t,rfl⟩:=r1;obtain⟨t',rfl⟩:=r2;exact iadd_int ⟨.int _,H,I.tok _,⟨_,rfl⟩,q⟩
theorem zbnd:PIp X .Sub (ipI fun i j=>i - j):=by
 intro aU s σ H x y v u Q I r1 r2 h;obtain⟨i,j,e1,e2,q⟩:=h;subst e1;subst e2
 obtain⟨t,rfl⟩:=r1;obtain⟨t',rfl⟩:=r2;exact isub_int ⟨.int _,H,I.tok _,⟨_,rfl⟩,q⟩
noncomputable def tWhile (c:TT) (tb:TS):TS:=fun D σ H=>∃W:Nat->St->Hp->Prop,(∃m,W m σ H)/\∀m σ H,W m σ H ->
 c σ H fun b H1=>if b=true then ∃N:St->Hp->Prop,(∀σ' H',N σ' H'->∃m',m' < m/\W m' σ' H')/\tb {D with nx:=N,ct:=N,bk:=D.nx} σ H1 else D.nx σ H1
theorem zbbe {c:Expr}{body:List Stmt}{tc:TT}{tb:TS}(hp:PassesOwn (model X.prog X.w) X.A X.env X.xe)(hc:PT X c tc)(hb:PSs X body tb):PS X (.While c body [] pos) (tWhile tc tb):=by
 intro aU s σ H D I h;obtain⟨W,⟨m0,w0⟩,turn⟩:=h;refine wpAny_While (codeAny_whileLoop (fun n s'=>∃σ' H',Inv X aU σ' H' s'/\W n σ' H') ?_ m0 ⟨σ,H,I,w0⟩);rintro n s1 ⟨σ1,H1,I1,w1⟩;refine xhi hp (thn (hc aU s1 σ1 H1 _ I1 (turn n σ1 H1 w1)) fun b s2 hq0=>?_);obtain⟨H2,I2,q2⟩:=hq0;cases b with
 | true =>
  obtain⟨N,hN,q2⟩:=q2;rw[if_pos rfl];refine xhi hp (thn (hb aU s2 σ1 H2 _ I2 q2) fun f s3 q3=>?_);cases f with
  | next =>
   obtain⟨σ3,H3,I3,n3⟩:=q3;obtain⟨m',hm,w3⟩:=hN σ3 H3 n3;exact⟨m',hm,σ3,H3,I3,w3⟩
  | cont =>
   obtain⟨σ3,H3,I3,n3⟩:=q3;obtain⟨m',hm,w3⟩:=hN σ3 H3 n3;exact⟨m',hm,σ3,H3,I3,w3⟩
  | brk=>exact q3
  | ret v=>exact q3
 | false =>
  rw[if_neg xfp];exact xlf ⟨σ1,H2,I2,q2⟩
end
structure It where
 go:Nat->Hp->Prop
 yld:Nat->Hp->V->Hp->Prop
 stop:Nat->Hp->Prop
noncomputable def FpOk (X:Cx) (aU:List (Addr×Obj)) (H:Hp) (b:Addr):Prop :=
 H b=none/\b≠X.env.locals/\b∉X.fs/\(b∈X.ex\/X.s₀.heap.objs.size<=b)/\(∀x c,X.env.cells.lookup x=some c->c≠b)/\∀p∈X.pn++aU,p.1≠b
theorem Inv.fpOk {X:Cx}{aU:List (Addr×Obj)}{σ:St}{H H':Hp}{s:Shared}{b:Addr}(I:Inv X aU σ H s)(hb:s.heap.objs.size<=b)(hn:H' b=none):FpOk X aU H' b:=by
 refine⟨hn,xjo (xbg I.lt hb),I.nofs hb,.inr (xbc I.sz hb),fun x c e z=>?_,fun p hp z=>?_⟩
 ·obtain⟨v,q⟩:=I.cell x c e;exact absurd (xbg q.lt (by rw[z];exact hb)) (xgp _)
 ·exact absurd (xbg (xbv (I.pin p hp).1) (by rw[z];exact hb)) (xgp _)
structure Turn (P:Program) (w:World) (K:Fg) (tg:Expr) (J:It) (fp:List Addr) (it:Addr) (tn:Nat->Heap->Prop):Prop where
 mem:it∈fp
 obj:∀i h,tn i h->∀b∈fp,∃o,h.get? b=some o/\∀v,o.data≠.cell v
 keep:∀i h h',tn i h->(∀b∈fp,∀o,h.get? b=some o->h'.get? b=some o)->tn i h'
 item:∀(X:Cx),X.prog=P->X.w=w->X.K=K->X.calm=true->∀(i:Nat) (aU:List (Addr×Obj)) (s:Shared) (σ:St) (H:Hp) (E:Value->Shared->Prop),Inv X aU σ H s->(∀b∈fp,FpOk X aU H b)->tn i s.heap->J.go i H ->
  wpAny (model P w) X.A (pyNext (.ref it)) (fun r s1=>∃u,r=some u /\
   wpAny (model P w) X.A (letOwnedTupleGo tg (.ref it) u) (fun _ s2=>∃x H',Inv X aU σ H' s2/\RelV x u/\J.yld i H x H'/\tn (i+1) s2.heap/\∀b∈fp,H' b=none) E s1) E s
 done:∀(X:Cx),X.prog=P->X.w=w->X.K=K->X.calm=true->∀(i:Nat) (aU:List (Addr×Obj)) (s:Shared) (σ:St) (H:Hp) (E:Value->Shared->Prop),Inv X aU σ H s->(∀b∈fp,FpOk X aU H b)->tn i s.heap->J.stop i H ->
  wpAny (model P w) X.A (pyNext (.ref it)) (fun r s1=>r=none/\Inv X aU σ H s1) E s
 self:∀(A:Around) (i:Nat) (s:Shared) (Q:Value->Shared->Prop) (E:Value->Shared->Prop),tn i s.heap->Q (.ref it) s->wpAny (model P w) A (pyIter (.ref it)) Q E s
noncomputable abbrev TI:=St->Hp->(It->Hp->Prop)->Prop
noncomputable def PIE (X:Cx) (aU:List (Addr×Obj)) (σ:St) (tg:Expr) (R:It->Hp->Prop) (itv:Value) (s2:Shared):Prop :=
 ∃(it:Addr) (fp:List Addr) (tn:Nat->Heap->Prop) (J:It) (H':Hp),itv=.ref it/\Inv X aU σ H' s2/\Turn X.prog X.w X.K tg J fp it tn/\tn 0 s2.heap/\(∀b∈fp,FpOk X aU H' b)/\R J H'
noncomputable def PI (X:Cx) (tg iter:Expr) (wi:TI):Prop :=
 ∀(aU:List (Addr×Obj)) (s:Shared) (σ:St) (H:Hp) (R:It->Hp->Prop),Inv X aU σ H s->wi σ H R ->
  wpAny (model X.prog X.w) X.A (eval iter X.env) (fun v s1=>wpAny (model X.prog X.w) X.A (pyIter v) (PIE X aU σ tg R) X.xe s1) X.xe s
theorem zbkp {M:Model}{A:Around}{E:Value->Shared->Prop}{s:Shared}{tg:Expr}{it:Addr}{u:Value}{o:Obj}{n:String}{vs:Array Value}{Q:Unit->Shared->Prop}(ho:s.heap.get? it=some o)(hc:o.cls=.type n)(hd:o.data=.fields vs)
    (hn:["enumerate", "zip", "dict_itemiterator", "dict_reverseitemiterator", "odict_iterator", "itertools.zip_longest", "itertools.pairwise"].contains n=false)(hQ:Q () s):wpAny M A (letOwnedTupleGo tg (.ref it) u) Q E s:=by
  unfold letOwnedTupleGo;cases tg <;> first
    | exact xbe hQ
    | (cases u <;> first
        | exact xbe hQ
        | (refine xba (wpAny_load ho ?_)
           rw[hc, hd];show wpAny M A (if(["enumerate", "zip", "dict_itemiterator", "dict_reverseitemiterator", "odict_iterator", "itertools.zip_longest", "itertools.pairwise"].contains n&&vs[0]?==some (rawInt _))=true then _ else _) Q E s
           rw[if_neg (by intro h; rw[hn, Bool.false_and] at h; cases h)]
           exact xbe hQ))
noncomputable def Itl (K:Fg) (a:Addr):It :=
 ⟨fun i H=>∃xs x,SqL K H a xs/\xs[i]?=some x,fun i H x H'=>H'=H/\∀xs,SqL K H a xs->xs[i]?=some x,fun i H=>∃xs,SqL K H a xs/\xs.length<=i⟩
noncomputable def Itt (K:Fg) (a:Addr):It :=
 ⟨fun i H=>∃xs x,SqT K H a xs/\xs[i]?=some x,fun i H x H'=>H'=H/\∀xs,SqT K H a xs->xs[i]?=some x,fun i H=>∃xs,SqT K H a xs/\xs.length<=i⟩
noncomputable def Itr (lo:Int) (n:Nat):It:=⟨fun i _=>i < n,fun i H x H'=>H'=H/\x=.int (lo+i),fun i _=>n<=i⟩
theorem zvv {P:Program}{w:World}{K:Fg}{tg:Expr}(a it:Addr):Turn P w K tg (Itl K a) [it] it (fun i h=>h.IsListIter it a i) where
 mem:=by simp
 obj:=fun i h st b hb=>by
  have e:b=it:=by simpa using hb
  subst e;obtain⟨o,e,c,d⟩:=st;exact⟨o,e,fun v z=>by rw[d] at z;cases z⟩
 keep:=fun i h h' st k=>st.at fun o e=>k it (by simp) o e
 item:=by
  intro X hP hw hK hc i aU s σ H E I hf st hg;subst hP hw hK;obtain⟨xs,x,hq,hx⟩:=hg;obtain⟨its,rv,p,hz⟩:=I.list hq;obtain⟨u,hu,ru⟩:=rv.get hx;obtain⟨f0,f1,f2,f3,f4,f5⟩:=hf it (by simp);refine wpAny_pyNext_list_item st p.isList (x:=u) (by simpa using hu) fun h' st' sb=>?_
  have I1:Inv X aU σ H {s with heap:=h'}:=I.turned (t':=s.toks) (fun b o hb e=>(sb.2 b hb).trans e) f0 f1 f3 f4 f5;obtain⟨o,e,c,d⟩:=id st';exact⟨u,rfl,zbkp (s:={s with heap:=h'}) e c d (by decide) ⟨x,H,I1,ru,⟨rfl,fun ys hy=>by rw[I.list_inj hy hq];exact hx⟩,st',fun b hb=>(hf b hb).1⟩⟩
 done:=by
  intro X hP hw hK hc i aU s σ H E I hf st hg;subst hP hw hK;obtain⟨xs,hq,hx⟩:=hg;obtain⟨its,rv,p,hz⟩:=I.list hq;obtain⟨f0,f1,f2,f3,f4,f5⟩:=hf it (by simp);have hl:=rv.length;exact wpAny_pyNext_list_end (I.ok.hd hc) st p.isList (by simp;lia) fun h' eb=>⟨rfl,I.turned (t':=s.toks) (fun b o hb e=>eb b o hb e) f0 f1 f3 f4 f5⟩
 self:=fun _ _ _ _ _ st h=>wpAny_pyIter_listiter st h
theorem zrp {P:Program}{w:World}{K:Fg}{tg:Expr}(a it:Addr):Turn P w K tg (Itt K a) [it] it (fun i h=>h.IsTupleIter it a i) where
 mem:=by simp
 obj:=fun i h st b hb=>by
  have e:b=it:=by simpa using hb
  subst e;obtain⟨o,e,c,d⟩:=st;exact⟨o,e,fun v z=>by rw[d] at z;cases z⟩
 keep:=fun i h h' st k=>st.at fun o e=>k it (by simp) o e
 item:=by
  intro X hP hw hK hc i aU s σ H E I hf st hg;subst hP hw hK;obtain⟨xs,x,hq,hx⟩:=hg;obtain⟨its,rv,p,hz⟩:=I.tuple hq;obtain⟨u,hu,ru⟩:=rv.get hx;obtain⟨f0,f1,f2,f3,f4,f5⟩:=hf it (by simp);refine wpAny_pyNext_tuple_item st (show s.heap.IsTuple a its.toArray from p) (x:=u) (by simpa using hu) fun h' st' sb=>?_
  have I1:Inv X aU σ H {s with heap:=h'}:=I.turned (t':=s.toks) (fun b o hb e=>(sb.2 b hb).trans e) f0 f1 f3 f4 f5;obtain⟨o,e,c,d⟩:=id st';exact⟨u,rfl,zbkp (s:={s with heap:=h'}) e c d (by decide) ⟨x,H,I1,ru,⟨rfl,fun ys hy=>by rw[I.tuple_inj hy hq];exact hx⟩,st',fun b hb=>(hf b hb).1⟩⟩
 done:=by
  intro X hP hw hK hc i aU s σ H E I hf st hg;subst hP hw hK;obtain⟨xs,hq,hx⟩:=hg;obtain⟨its,rv,p,hz⟩:=I.tuple hq;obtain⟨f0,f1,f2,f3,f4,f5⟩:=hf it (by simp);have hl:=rv.length;exact wpAny_pyNext_tuple_end (I.ok.hd hc) st (show s.heap.IsTuple a its.toArray from p) (by simp;lia) fun h' eb=>⟨rfl,I.turned (t':=s.toks) (fun b o hb e=>eb b o hb e) f0 f1 f3 f4 f5⟩
 self:=fun _ _ _ _ _ st h=>wpAny_pyIter_tupleiter st h
theorem zrq {P:Program}{w:World}{K:Fg}{tg:Expr}(it:Addr)(lo:Int)(n:Nat):Turn P w K tg (Itr lo n) [it] it (fun i h=>IsRangeIter h it (lo+(i:Nat) * 1) ((n:Int) - (i:Nat)) 1) where
 mem:=by simp
 obj:=fun i h st b hb=>by
  have e:b=it:=by simpa using hb
  subst e
  exact⟨_,st,fun v z=>by
   have z':Data.fields _=Data.cell v:=z
   cases z'⟩
 keep:=fun i h h' st k=>k it (by simp) _ st
 item:=by
  intro X hP hw hK hc i aU s σ H E I hf st hg;subst hP hw hK;obtain⟨f0,f1,f2,f3,f4,f5⟩:=hf it (by simp);have W:=Walks.range (prog:=X.prog) (w:=X.w) (I.ok.hd hc) it lo 1 n;refine W.item i s _ _ hg st fun v h' tk hv st' kk=>?_
  obtain⟨t,rfl⟩:=hv;have I1:Inv X aU σ H {s with heap:=h',toks:=tk}:=I.turned (fun b o hb e=>kk b o (by simpa using hb) e) f0 f1 f3 f4 f5;refine⟨_, rfl, zbkp (s:={ s with heap:=h', toks:=tk }) (n:="range_iterator") st' rfl rfl (by decide) ⟨.int (lo + i), H, I1,⟨t, ?_⟩,⟨rfl, rfl⟩, st', fun b hb=>(hf b hb).1⟩⟩
  rw[Int.mul_one]
 done:=by
  intro X hP hw hK hc i aU s σ H E I hf st hg;subst hP hw hK;obtain⟨f0,f1,f2,f3,f4,f5⟩:=hf it (by simp);exact wpAny_pyNext_range_end (I.ok.hd hc) st (by have:n<=i:=hg;lia) fun h' eb=>⟨rfl,I.turned (t':=s.toks) (fun b o hb e=>eb b o hb e) f0 f1 f3 f4 f5⟩
 self:=fun _ _ _ _ _ st h=>wpAny_pyIter_rangeiter st h
section
variable {X:Cx}{tg:Expr}
noncomputable def iList (K:Fg) (tl:TE):TI:=fun σ H R=>tl σ H fun x H1=>∃a,x=.ref a/\(∃xs,SqL K H1 a xs)/\R (Itl K a) H1
noncomputable def iTup (K:Fg) (tl:TE):TI:=fun σ H R=>tl σ H fun x H1=>∃a,x=.ref a/\(∃xs,SqT K H1 a xs)/\R (Itt K a) H1
theorem zbgj {l:Expr}{tl:TE}(hl:PE X l tl):PI X tg l (iList X.K tl):=by
 intro aU s σ H R I h;refine thn (hl aU s σ H _ I h) fun v s1 hq0=>?_
 obtain⟨x,H1,I1,r1,q1⟩:=hq0;obtain⟨a,e,⟨xs,hq⟩,q⟩:=q1;subst e;cases r1;obtain⟨its,rv,p,hz⟩:=I1.list hq;refine xis p.isList ?_;refine⟨s1.heap.objs.size,[s1.heap.objs.size],_,_,H1,rfl,I1.kept (t':=s1.toks) fun b o e=>xbm _ e,zvv a _,⟨_,xce _ rfl,rfl,rfl⟩,fun b hb=>?_,q⟩;have e:b=s1.heap.objs.size:=by simpa using hb
 subst e;exact I1.fpOk (xbf _) (I1.hok.fresh (xbf _))
theorem zblr {l:Expr}{tl:TE}(hl:PE X l tl):PI X tg l (iTup X.K tl):=by
 intro aU s σ H R I h;refine thn (hl aU s σ H _ I h) fun v s1 hq0=>?_
 obtain⟨x,H1,I1,r1,q1⟩:=hq0;obtain⟨a,e,⟨xs,hq⟩,q⟩:=q1;subst e;cases r1;obtain⟨its,rv,p,hz⟩:=I1.tuple hq;refine xlv (show s1.heap.IsTuple a its.toArray from p) ?_;refine⟨s1.heap.objs.size,[s1.heap.objs.size],_,_,H1,rfl,I1.kept (t':=s1.toks) fun b o e=>xbm _ e,zrp a _,⟨_,xce _ rfl,rfl,rfl⟩,fun b hb=>?_,q⟩;have e:b=s1.heap.objs.size:=by simpa using hb
 subst e;exact I1.fpOk (xbf _) (I1.hok.fresh (xbf _))
theorem zsj {aU:List (Addr×Obj)}{σ:St}{H:Hp}{s:Shared}{R:It->Hp->Prop}{E:Value->Shared->Prop}{lo hi:Int}{t u v:Tok}{tk:Nat}(I:Inv X aU σ H s)(h1:-(2 ^ 62)<=lo)(h2:lo < 2 ^ 62)(h3:-(2 ^ 62)<=hi)(h4:hi < 2 ^ 62)
  (q:R (Itr lo (hi - lo).toNat) H):wpAny (model X.prog X.w) X.A (pyIter (.ref s.heap.objs.size)) (PIE X aU σ tg R) E { s with heap:=s.heap.push { cls:=.type "range", data:=.fields #[.int lo t, .int hi u, .int 1 v] }, toks:=tk }:=by
 refine wpAny_pyIter_range (IsRange.new ..) (small_one h1 h2 h3 h4) ?_;have I1:Inv X aU σ H { s with heap:=s.heap.push { cls:=.type "range", data:=.fields #[.int lo t, .int hi u, .int 1 v] }, toks:=tk }:=I.kept fun b o e=>xbm _ e
 refine⟨(s.heap.push { cls:=.type "range", data:=.fields #[.int lo t, .int hi u, .int 1 v] }).objs.size,[(s.heap.push { cls:=.type "range", data:=.fields #[.int lo t, .int hi u, .int 1 v] }).objs.size], _, _, H, rfl,
  I1.kept (t':=tk) fun b o e=>xbm _ e,zrq _ lo (hi - lo).toNat,?_,fun b hb=>?_,q⟩
 ·have e1:lo+((0:Nat):Int) * 1=lo:=by simp
  have e2:(((hi - lo).toNat:Nat):Int) - ((0:Nat):Int)=Builtin.Range.rangeSize lo hi 1:=by rw[rangeSize_one];split<;>lia
  show IsRangeIter _ _ (lo+((0:Nat):Int) * 1) ((((hi - lo).toNat:Nat):Int) - ((0:Nat):Int)) 1;rw[e1,e2];exact xce _ rfl
 ·have e:b=(s.heap.push { cls:=.type "range", data:=.fields #[.int lo t, .int hi u, .int 1 v] }).objs.size:=by simpa using hb
  subst e;exact I1.fpOk (xbf _) (I1.hok.fresh (xbf _))
noncomputable def iRng1 (ta:TA):TI:=fun σ H R=>ta σ H fun vs H1=>∃j:Int,vs=[.int j]/\-(2 ^ 62)<=j/\j < 2 ^ 62/\R (Itr 0 j.toNat) H1
noncomputable def iRng2 (ta:TA):TI:=fun σ H R=>ta σ H fun vs H1=>∃i j:Int,vs=[.int i,.int j]/\(-(2 ^ 62)<=i/\i < 2 ^ 62/\-(2 ^ 62)<=j/\j < 2 ^ 62)/\R (Itr i (j - i).toNat) H1
theorem zwp {a:Expr}{ta:TA}{p pos:Pos}(hg:Gl X "range")(hm:X.mg "range"=none)(ha:PA X [a] ta)(hs:starEach [a] X.env=[(false, eval a X.env)]:=by rfl):PI X tg (.Call (.Name "range" p) [a] [] pos) (iRng1 ta):=by
 intro aU s σ H R I h;refine Call_ (zqv I hg hm boot_range (xgz (thn (ha pos aU s σ H _ I h) fun us s1 hq0=>?_) hs rfl));obtain⟨vs,H1,I1,r1,q1⟩:=hq0;obtain⟨j,e,q1,q2,q⟩:=q1;subst e;cases r1 with
 | cons r rr =>
  cases rr;obtain⟨t,rfl⟩:=r;exact call_range_1 (zsj I1 (by lia) (by lia) q1 q2 (by simpa using q))
theorem zwo {a b:Expr}{ta:TA}{p pos:Pos}(hg:Gl X "range")(hm:X.mg "range"=none)(ha:PA X [a, b] ta)(hs:starEach [a, b] X.env=[(false, eval a X.env),(false, eval b X.env)]:=by rfl)(hs2:starEach [b] X.env=[(false, eval b X.env)]:=by rfl) :
  PI X tg (.Call (.Name "range" p) [a, b] [] pos) (iRng2 ta):=by
 intro aU s σ H R I h;refine Call_ (zqv I hg hm boot_range (xgz (thn (ha pos aU s σ H _ I h) fun us s1 ⟨vs,H1,I1,r1,q1⟩=>?_) (by rw[hs,hs2]) (by rw[hs2];rfl)));obtain⟨i,j,e,⟨q1,q2,q3,q4⟩,q⟩:=q1;subst e;cases r1 with
 | cons r rr =>
  cases rr with
  | cons r' rr =>
   cases rr;obtain⟨t,rfl⟩:=r;obtain⟨t',rfl⟩:=r';exact call_range_2 (zsj I1 q1 q2 q3 q4 q)
noncomputable def tFor (wi:TI) (g:TG) (tb:TS):TS:=fun D σ H=>wi σ H fun J H1=>∃W:Nat->Nat->St->Hp->Prop,(∃m,W 0 m σ H1)/\∀i m σ H,W i m σ H ->
 (J.stop i H/\D.nx σ H)\/(J.go i H/\∃N:St->Hp->Prop,(∀σ' H',N σ' H'->∃m',m' < m/\W (i+1) m' σ' H')/\∀x H',J.yld i H x H'->g x σ H' fun σ2 H2=>tb {D with nx:=N,ct:=N,bk:=D.nx} σ2 H2)
noncomputable def pinsAt (fp:List Addr) (h:Heap):List (Addr×Obj):=fp.filterMap fun b=>(h.get? b).map fun o=>(b,o)
theorem zez {fp:List Addr}{h:Heap}{b:Addr}{o:Obj}(hb:b∈fp)(e:h.get? b=some o):(b,o)∈pinsAt fp h:=List.mem_filterMap.mpr ⟨b,hb,by rw[e];rfl⟩
theorem zwv {fp:List Addr}{h:Heap}{p:Addr×Obj}(hp:p∈pinsAt fp h):p.1∈fp/\h.get? p.1=some p.2:=by
 obtain⟨b,hb,e⟩:=List.mem_filterMap.mp hp;cases q:h.get? b with
 | none=>rw[q] at e;cases e
 | some o =>
  rw[q] at e;have e':(b,o)=p:=xcv e;subst e';exact⟨hb,q⟩
theorem Inv.pinned {aU:List (Addr×Obj)}{σ:St}{H:Hp}{s:Shared}{fp:List Addr}(I:Inv X aU σ H s)(hf:∀b∈fp,FpOk X aU H b)(ho:∀b∈fp,∃o,s.heap.get? b=some o/\∀v,o.data≠.cell v):Inv X (aU++pinsAt fp s.heap) σ H s :=
 I.pins_of fun p hp=>(xbw.mp hp).elim (fun z=>I.pin p (xdb _ z)) fun z=>by
  obtain⟨hb,e⟩:=zwv z;obtain⟨f0,f1,f2,_⟩:=hf p.1 hb;obtain⟨o,e',d⟩:=ho p.1 hb;rw[e] at e';cases e'
  exact⟨e,f0,f1,f2,d⟩
theorem Inv.unpinned {aU pl:List (Addr×Obj)}{σ:St}{H:Hp}{s:Shared}(I:Inv X (aU++pl) σ H s):Inv X aU σ H s:=I.pins_of fun p hp=>I.pin p (xdb _ (xed _ hp))
theorem zblo {iter:Expr}{body:List Stmt}{wi:TI}{g:TG}{tb:TS}{pos:Pos}(hp:PassesOwn (model X.prog X.w) X.A X.env X.xe)(hc:X.calm=true)(hi:PI X tg iter wi)(hg:PG X tg g)(hb:PSs X body tb)
  (hs:∀x,foldedSetIterable iter X.env x=pure x:=by intro _;rfl):PS X (.For tg iter body [] pos) (tFor wi g tb):=by
 intro aU s σ H D I h;refine wpAny_For (thn (hi aU s σ H _ I h) fun v s1 h1=>thn h1 fun itv s2 h2=>?_) hs;obtain⟨it,fp,tn,J,H2,e,I2,T,st2,f2,W,⟨m0,w0⟩,turn⟩:=h2;subst e;have stat:∀{H':Hp},(∀b∈fp,H' b=none)->∀b∈fp,FpOk X aU H' b:=fun hn b hb=>⟨hn b hb,(f2 b hb).2⟩
 refine codeAny_forLoop_any (fun n s'=>∃i σ' H',Inv X aU σ' H' s'/\tn i s'.heap/\(∀b∈fp,H' b=none)/\W i n σ' H') ?_ m0 ⟨0,σ,H2,I2,st2,fun b hb=>(f2 b hb).1,w0⟩;rintro n s3 ⟨i,σ3,H3,I3,st3,fr3,w3⟩;rcases turn i n σ3 H3 w3 with⟨stop,qn⟩ | ⟨go,N,hN,step⟩
 ·refine xhi hp (thn (T.done X rfl rfl rfl hc i aU s3 σ3 H3 X.xe I3 (stat fr3) st3 stop) fun r s4 hq0=>?_);obtain⟨hr,I4⟩:=hq0;subst hr;exact xlf ⟨σ3,H3,I4,qn⟩
 ·refine xhi hp (thn (T.item X rfl rfl rfl hc i aU s3 σ3 H3 X.xe I3 (stat fr3) st3 go) fun r s4 hq0=>?_);obtain⟨u,hr,h4⟩:=hq0;subst hr;refine xhi hp (thn h4 fun _ s5 hq0=>?_);obtain⟨x,H5,I5,r5,y5,st5,fr5⟩:=hq0;have I5':=I5.pinned (stat fr5) (T.obj _ _ st5);refine xhi hp (thn (hg _ s5 σ3 H5 x u _ I5' r5 (step x H5 y5)) fun _ s6 hq0=>?_);obtain⟨σ6,H6,I6,q6⟩:=hq0;refine xhi hp (thn (hb _ s6 σ6 H6 _ I6 q6) fun f s7 q7=>?_);have again:∀{σ7:St} {H7:Hp},Inv X (aU++pinsAt fp s5.heap) σ7 H7 s7->N σ7 H7->∃m,m < n/\∃i σ' H',Inv X aU σ' H' s7/\tn i s7.heap/\(∀b∈fp,H' b=none)/\W i m σ' H':=fun {σ7 H7} I7 n7=>by
   obtain⟨m',hm,w7⟩:=hN σ7 H7 n7;refine⟨m',hm,i+1,σ7,H7,I7.unpinned,T.keep _ _ _ st5 fun b hb o e=>(I7.pin (b,o) (xdb _ (xdb _ (zez hb e)))).1,fun b hb=>?_,w7⟩;obtain⟨o,e,d⟩:=T.obj _ _ st5 b hb;exact(I7.pin (b,o) (xdb _ (xdb _ (zez hb e)))).2.1
  cases f with
  | next=>obtain⟨σ7,H7,I7,n7⟩:=q7;exact again I7 n7
  | cont=>obtain⟨σ7,H7,I7,n7⟩:=q7;exact again I7 n7
  | brk=>obtain⟨σ7,H7,I7,q7⟩:=q7;exact⟨σ7,H7,I7.unpinned,q7⟩
  | ret v=>obtain⟨x7,σ7,H7,I7,r7,q7⟩:=q7;exact⟨x7,σ7,H7,I7.unpinned,r7,q7⟩
end
noncomputable abbrev R2:=V->V->Hp->VK->Prop
noncomputable def OpR (X:Cx) (f:Value->Value->Sem Value) (r:R2):Prop :=
 ∀(aU:List (Addr×Obj)) (s:Shared) (σ:St) (H:Hp) (x y:V) (v u:Value) (Q:VK),Inv X aU σ H s->RelV x v->RelV y u->r x y H Q ->
  wpAny (model X.prog X.w) X.A (f v u) (EP X aU σ Q) X.xe s
noncomputable def CallR (X:Cx) (f:Value) (r:List V->Hp->VK->Prop):Prop :=
 ∀(aU:List (Addr×Obj)) (s:Shared) (σ:St) (H:Hp) (xs:List V) (us:List Value) (Q:VK),Inv X aU σ H s->Vals xs us->r xs H Q ->
  wpAny (model X.prog X.w) X.A (call f us) (EP X aU σ Q) X.xe s
noncomputable def TruR (X:Cx) (r:V->Hp->(Bool->Hp->Prop)->Prop):Prop :=
 ∀(aU:List (Addr×Obj)) (s:Shared) (σ:St) (H:Hp) (x:V) (v:Value) (Q:Bool->Hp->Prop),Inv X aU σ H s->RelV x v->r x H Q ->
  wpAny (model X.prog X.w) X.A (truthy v) (TP X aU σ Q) X.xe s
noncomputable def tOp (r:R2) (ta tb:TE):TE:=fun σ H Q=>ta σ H fun x H1=>tb σ H1 fun y H2=>r x y H2 Q
noncomputable def rI (C:Int->Int->Prop) (g:Int->Int->V):R2:=fun x y H Q=>∃i j,x=.int i/\y=.int j/\C i j/\Q (g i j) H
noncomputable def rI0 (g:Int->Int->V):R2:=fun x y H Q=>∃i j,x=.int i/\y=.int j/\Q (g i j) H
section
variable {X:Cx}{a b c:Expr}{ta tb tc:TE}{pos:Pos}
theorem binT (ha:PE X a ta)(hb:PE X b tb){aU:List (Addr×Obj)}{s:Shared}{σ:St}{H:Hp}{R:V->V->Hp->Prop}(I:Inv X aU σ H s)
  (h:ta σ H fun x H1=>tb σ H1 fun y H2=>R x y H2){Q:Value->Shared->Prop}{f:Value->Value->Sem Value}
  (hf:∀v u s2 x y H2,Inv X aU σ H2 s2->RelV x v->RelV y u->R x y H2->wpAny (model X.prog X.w) X.A (f v u) Q X.xe s2) :
  wpAny (model X.prog X.w) X.A (eval a X.env) (fun v s₁=>wpAny (model X.prog X.w) X.A (eval b X.env) (fun u s₂=>wpAny (model X.prog X.w) X.A (f v u) Q X.xe s₂) X.xe s₁) X.xe s:=by
 refine thn (ha aU s σ H _ I h) fun v s1 hq0=>?_
 obtain⟨x,H1,I1,r1,q1⟩:=hq0;refine thn (hb aU s1 σ H1 _ I1 q1) fun u s2 hq0=>?_
 obtain⟨y,H2,I2,r2,q2⟩:=hq0;exact hf v u s2 x y H2 I2 r1 r2 q2
theorem zbqs {op:Operator}{r:R2}(ho:OpR X (binaryOp op) r)(ha:PE X a ta)(hb:PE X b tb):PE X (.BinOp a op b pos) (tOp r ta tb):=by
 intro aU s σ H Q I h;exact wpAny_BinOp (binT ha hb I h fun v u s2 x y H2 I2 rx ry q=>ho aU s2 σ H2 x y v u Q I2 rx ry q)
theorem opI {f:Value->Value->Sem Value}{C:Int->Int->Prop}{g:Int->Int->Int}
  (rule:∀(i j:Int) (t u:Tok) (s:Shared) (Q:Value->Shared->Prop) (E:Value->Shared->Prop),C i j->Q (.int (g i j) s.toks) {s with toks:=s.toks+1}->wpAny (model X.prog X.w) X.A (f (.int i t) (.int j u)) Q E s) :
  OpR X f (rI C fun i j=>.int (g i j)):=by
 intro aU s σ H x y v u Q I rx ry h;obtain⟨i,j,rfl,rfl,hc,q⟩:=h;obtain⟨t,rfl⟩:=rx;obtain⟨t',rfl⟩:=ry;exact rule i j t t' s _ _ hc ⟨.int (g i j),H,I.tok _,⟨_,rfl⟩,q⟩
theorem opI0 {f:Value->Value->Sem Value}{g:Int->Int->Int}
  (rule:∀(i j:Int) (t u:Tok) (s:Shared) (Q:Value->Shared->Prop) (E:Value->Shared->Prop),Q (.int (g i j) s.toks) {s with toks:=s.toks+1}->wpAny (model X.prog X.w) X.A (f (.int i t) (.int j u)) Q E s) :
  OpR X f (rI0 fun i j=>.int (g i j)):=by
 intro aU s σ H x y v u Q I rx ry h;obtain⟨i,j,rfl,rfl,q⟩:=h;obtain⟨t,rfl⟩:=rx;obtain⟨t',rfl⟩:=ry;exact rule i j t t' s _ _ ⟨.int (g i j),H,I.tok _,⟨_,rfl⟩,q⟩
theorem opB0 {f:Value->Value->Sem Value}{g:Int->Int->Bool}
  (rule:∀(i j:Int) (t u:Tok) (s:Shared) (Q:Value->Shared->Prop) (E:Value->Shared->Prop),Q (.bool (g i j)) s->wpAny (model X.prog X.w) X.A (f (.int i t) (.int j u)) Q E s) :
  OpR X f (rI0 fun i j=>.bl (g i j)):=by
 intro aU s σ H x y v u Q I rx ry h;obtain⟨i,j,rfl,rfl,q⟩:=h;obtain⟨t,rfl⟩:=rx;obtain⟨t',rfl⟩:=ry;exact rule i j t t' s _ _ ⟨.bl (g i j),H,I,rfl,q⟩
noncomputable def CPow (i j:Int):Prop:=0<=j/\j<=1000000/\i.natAbs < 2 ^ 64
noncomputable def CMul (i j:Int):Prop:=(-(2 ^ 64) < i/\i < 2 ^ 64)\/(-(2 ^ 64) < j/\j < 2 ^ 64)
theorem CMul.ok {i j:Int}(h:CMul i j):IntMulOk i j:=by
 rcases h with⟨h1,h2⟩ | ⟨h1,h2⟩
 ·exact .of_left (intBits_le_64 h1 h2)
 ·exact .of_right (intBits_le_64 h1 h2)
theorem zro (k:Nat):(0:Int)<=2 ^ k:=by
 rw[two_pow_cast];exact Int.natCast_nonneg _
theorem zbmk:OpR X (binaryOp .Add) (rI0 fun i j=>.int (i+j)):=opI0 fun _ _ _ _ _ _ _ q=>add_int q
theorem zbbx:OpR X (binaryOp .Sub) (rI0 fun i j=>.int (i - j)):=opI0 fun _ _ _ _ _ _ _ q=>sub_int q
theorem zla:OpR X (binaryOp .Mult) (rI CMul fun i j=>.int (i * j)):=opI fun _ _ _ _ _ _ _ hc q=>mul_int q hc.ok
theorem zlb:OpR X (binaryOp .Mod) (rI (fun _ j=>0 < j) fun i j=>.int (i % j)):=opI fun i j _ _ _ _ _ hc q=>by
 have h1:(0:Int) < j:=hc;exact mod_int' (by lia) (by rw[Int.fmod_eq_emod_of_nonneg i (by lia)];exact q)
theorem zbgz:OpR X (binaryOp .Pow) (rI CPow fun i j=>.int (i ^ j.toNat)):=opI fun _ _ _ _ _ _ _ hc q=>pow_int_small hc.1 hc.2.1 hc.2.2 q
theorem zqh:OpR X (binaryOp .LShift) (rI CPow fun i j=>.int (i * 2 ^ j.toNat)):=opI fun _ _ _ _ _ _ _ hc q=>lshift_int_small hc.1 hc.2.1 hc.2.2 q
theorem zbgy:OpR X (binaryOp .RShift) (rI (fun _ j=>0<=j) fun i j=>.int (i / 2 ^ j.toNat)):=opI fun i j _ _ _ _ _ hc q =>
 rshift_int hc (by rw[xlx i (zro _)];exact q)
theorem zsw:OpR X (binaryOp .BitAnd) (rI0 fun i j=>.int (Builtin.bitAnd i j)):=opI0 fun _ _ _ _ _ _ _ q=>and_int q
theorem zbmg:OpR X (binaryOp .BitOr) (rI0 fun i j=>.int (Builtin.bitOr i j)):=opI0 fun _ _ _ _ _ _ _ q=>or_int q
theorem zbgx:OpR X (binaryOp .BitXor) (rI0 fun i j=>.int (Builtin.bitXor i j)):=opI0 fun _ _ _ _ _ _ _ q=>xor_int q
theorem zbnj {aU:List (Addr×Obj)}{σ:St}{H:Hp}{s:Shared}{Q:VK}{k k':Bool}(I:Inv X aU σ H s)(q:Q (.bl k) H)(e:k=k'):EP X aU σ Q (.bool k') s:=by
 subst e;exact⟨.bl k,H,I,rfl,q⟩
theorem zbqw:OpR X (compareOp .Lt) (rI0 fun i j=>.bl (decide (i < j))):=opB0 fun _ _ _ _ _ _ _ q=>lt_int q
theorem zbby:OpR X (compareOp .LtE) (rI0 fun i j=>.bl (decide (i<=j))):=opB0 fun _ _ _ _ _ _ _ q=>le_int q
theorem zben:OpR X (compareOp .Gt) (rI0 fun i j=>.bl (decide (j < i))):=opB0 fun _ _ _ _ _ _ _ q=>gt_int q
theorem zbpx:OpR X (compareOp .GtE) (rI0 fun i j=>.bl (decide (j<=i))):=opB0 fun _ _ _ _ _ _ _ q=>ge_int q
theorem zbmi:OpR X (compareOp .Is) (fun x y H Q=>y=.non/\Q (.bl (decide (x=.non))) H):=by
 intro aU s σ H x y v u Q I rx ry h;obtain⟨rfl,q⟩:=h;cases ry;refine is_none_gen (zbnj I q ?_);cases x<;>first
  | (cases rx;rfl)
  | (obtain⟨t,rfl⟩:=rx;rfl)
theorem OpR.or {f:Value->Value->Sem Value}{r r':R2}(h:OpR X f r)(h':OpR X f r'):OpR X f (fun x y H Q=>r x y H Q\/r' x y H Q):=by
 intro aU s σ H x y v u Q I rx ry q;rcases q with q | q
 ·exact h aU s σ H x y v u Q I rx ry q
 ·exact h' aU s σ H x y v u Q I rx ry q
theorem nomark (b:Expr){op:CmpOp}(h:op≠.In:=by decide)(h2:op≠.NotIn:=by decide):behindInMarks op b=false:=by
 have e1:(op==CmpOp.In)=false:=by cases op<;>first | rfl | exact absurd rfl h
 have e2:(op==CmpOp.NotIn)=false:=by cases op<;>first | rfl | exact absurd rfl h2
 cases b<;>simp[behindInMarks,e1,e2]
theorem zbgp {op:CmpOp}{r:R2}(ho:OpR X (compareOp op) r)(ha:PE X a ta)(hb:PE X b tb)(hm:behindInMarks op b=false):PE X (.Compare a [op] [b] pos) (tOp r ta tb):=by
 intro aU s σ H Q I h;exact wpAny_Compare1 (binT ha hb I h fun v u s2 x y H2 I2 rx ry q=>ho aU s2 σ H2 x y v u Q I2 rx ry q) hm
noncomputable def tTest (t:TE):TT:=fun σ H Q=>t σ H fun x H'=>∃k,x=.bl k/\Q k H'
theorem zbfv {op:CmpOp}{r:R2}(ho:OpR X (compareOp op) r)(ha:PE X a ta)(hb:PE X b tb)(hm:behindInMarks op b=false):PT X (.Compare a [op] [b] pos) (tTest (tOp r ta tb)):=by
 intro aU s σ H Q I h
 refine wpAny_isTrue_Compare1 (thn (ha aU s σ H _ I h) fun v s1 ⟨x,H1,I1,r1,q1⟩=>thn (hb aU s1 σ H1 _ I1 q1) fun u s2 ⟨y,H2,I2,r2,q2⟩ =>
  thn (ho aU s2 σ H2 x y v u _ I2 r1 r2 q2) fun c s3 ⟨z,H3,I3,r3,k,e,q3⟩=>?_) hm
 subst e;cases r3;exact xgo ⟨H3,I3,q3⟩
noncomputable def TruV (K:Fg) (x:V) (H:Hp) (k:Bool):Prop :=
 match x with
 | .non=>k=false
 | .bl b=>k=b
 | .int i=>k=(i != 0)
 | .str y=>y.length<=sizeLine/\k=((y.length:Int) != 0)
 | .byt y=>y.size<=sizeLine/\k=((y.size:Int) != 0)
 | .ref p=>(∃xs,SqL K H p xs/\k=!xs.isEmpty)\/(∃xs,SqT K H p xs/\k=!xs.isEmpty)\/∃kvs,H p=some (.dK kvs)/\k=!kvs.isEmpty
 | _=>False
theorem ztt {κ:Type}{kvs:List (κ×V)}{vs:List (κ×Value)}(r:KV kvs vs):(!vs.isEmpty)=!kvs.isEmpty:=by
 cases r<;>rfl
theorem zll {xs:List V}{its:List Value}(r:Vals xs its):(!its.toArray.isEmpty)=!xs.isEmpty:=by
 cases r<;>simp
theorem line63:(sizeLine:Nat) < 2 ^ 63:=by rw[xin];decide
theorem zbkv:TruR X (fun x H Q=>∃k,TruV X.K x H k/\Q k H):=by
 intro aU s σ H x v Q I rx h;obtain⟨k,e,q⟩:=h;have hl:=line63;have hs:sizeLine=16777216:=xin;cases x with
 | non =>
  cases rx;have e':k=false:=e;subst e';exact truthy_none ⟨H,I,q⟩
 | bl b =>
  cases rx;have e':k=b:=e;subst e';exact xgo ⟨H,I,q⟩
 | int i =>
  obtain⟨t,rfl⟩:=rx;have e':k=(i != 0):=e;subst e';exact PySem.P.truthy_int ⟨H,I,q⟩
 | str y =>
  obtain⟨t,rfl⟩:=rx;obtain⟨hy,e'⟩:y.length<=sizeLine/\k=((y.length:Int) != 0):=e;subst e';exact PySem.P.truthy_str (by lia) ⟨H,I.tok _,q⟩
 | byt y =>
  obtain⟨t,rfl⟩:=rx;obtain⟨hy,e'⟩:y.size<=sizeLine/\k=((y.size:Int) != 0):=e;subst e';exact W.truthy_bytes (by lia) ⟨H,I.tok _,q⟩
 | ref p =>
  cases rx;have e':(∃xs,SqL X.K H p xs/\k=!xs.isEmpty)\/(∃xs,SqT X.K H p xs/\k=!xs.isEmpty)\/∃kvs,H p=some (.dK kvs)/\k=!kvs.isEmpty:=e
  rcases e' with⟨xs,hx,e'⟩ | ⟨xs,hx,e'⟩ | ⟨kvs,hx,e'⟩
  ·subst e';obtain⟨its,r,pl,hz⟩:=I.list hx;have hlen:=r.length;exact wpAny_truthy_list pl.isList (by simp only[xbs];lia) ⟨H,I.tok _,by rw[zll r];exact q⟩
  ·subst e';obtain⟨its,r,pl,hz⟩:=I.tuple hx;have hlen:=r.length;exact truthy_tuple pl (by simp only[xbs];lia) ⟨H,I.tok _,by rw[zll r];exact q⟩
  ·subst e';obtain⟨hz,hS,vs,r,m⟩:kvs.length<=sizeLine/\(p==sysModules)=false/\∃vs,KV kvs vs/\s.heap.DictOf (mixKind X.prog X.w) p vs:=I.hok p _ hx
   have hlen:kvs.length=vs.length:=xhx r;exact wpAny_truthy_dict hS m (by lia) ⟨H,I.tok _,by rw[ztt r];exact q⟩
 | _=>exact(show False from e).elim
theorem zbbc (ha:PE X a ta)(he:∀whole,isTrue a X.env whole=(do let v ← whole;standAt a.pos;holding [v] (truthy v))) :
  PT X a (fun σ H Q=>ta σ H fun x H'=>∃k,TruV X.K x H' k/\Q k H'):=by
 intro aU s σ H Q I h;exact isTrue_plain (thn (ha aU s σ H _ I h) fun v s1 ⟨x,H1,I1,r1,q1⟩=>zbkv aU s1 σ H1 x v Q I1 r1 q1) (he _)
theorem zsx:OpR X (binaryOp .Add) (fun x y H Q=>∃i j,x=.str i/\y=.str j/\i.length+j.length<=sizeLine/\Q (.str (i++j)) H):=by
 intro aU s σ H x y v u Q I rx ry h;obtain⟨i,j,rfl,rfl,hz,q⟩:=h;obtain⟨t,rfl⟩:=rx;obtain⟨t',rfl⟩:=ry;exact add_str (fun t' tk=>⟨.str (i++j),H,I.tok _,⟨_,rfl⟩,q⟩) hz
theorem vals1 {x:V}{us:List Value}(r:Vals [x] us):∃u,us=[u]/\RelV x u:=by
 cases r with
 | cons r1 r2=>cases r2;exact⟨_,rfl,r1⟩
theorem vals2 {x y:V}{us:List Value}(r:Vals [x,y] us):∃u w',us=[u,w']/\RelV x u/\RelV y w':=by
 cases r with
 | cons r1 r2 =>
  cases r2 with
  | cons r3 r4=>cases r4;exact⟨_,_,rfl,r1,r3⟩
theorem zbdz:CallR X (.builtin "abs") (fun xs H Q=>∃ i, xs=[.int i]/\Q (.int (if i < 0 then -i else i)) H):=by
 intro aU s σ H xs us Q I r h;obtain⟨i,rfl,q⟩:=h;obtain⟨u,rfl,t,rfl⟩:=vals1 r;exact call_abs_int fun u tk=>⟨.int (if i < 0 then -i else i),H,I.tok _,⟨_,rfl⟩,q⟩
theorem zye (hc:X.calm=true):CallR X (.builtin "max") (fun xs H Q=>∃ i j, xs=[.int i, .int j]/\Q (.int (if j > i then j else i)) H):=by
 intro aU s σ H xs us Q I r h;obtain⟨i,j,rfl,q⟩:=h;obtain⟨u,w',rfl,⟨t,rfl⟩,⟨t',rfl⟩⟩:=vals2 r;refine max_two_ints (I.ok.hd hc) fun h' tk k=>⟨_,H,I.kept k,?_,q⟩
 by_cases hj:j > i
 ·rw[if_pos hj,if_pos hj];exact⟨_,rfl⟩
 ·rw[if_neg hj,if_neg hj];exact⟨_,rfl⟩
theorem zkk (hc:X.calm=true):CallR X (.builtin "min") (fun xs H Q=>∃ i j, xs=[.int i, .int j]/\Q (.int (if j < i then j else i)) H):=by
 intro aU s σ H xs us Q I r h;obtain⟨i,j,rfl,q⟩:=h;obtain⟨u,w',rfl,⟨t,rfl⟩,⟨t',rfl⟩⟩:=vals2 r;refine min_two_ints (I.ok.hd hc) fun h' tk k=>⟨_,H,I.kept k,?_,q⟩
 by_cases hj:j < i
 ·rw[if_pos hj,if_pos hj];exact⟨_,rfl⟩
 ·rw[if_neg hj,if_neg hj];exact⟨_,rfl⟩
theorem zyf:CallR X (.type "int") (fun xs H Q=>(∃ i, xs=[.int i]/\Q (.int i) H)\/∃ k, xs=[.bl k]/\Q (.int (if k then 1 else 0)) H):=by
 intro aU s σ H xs us Q I r h;rcases h with⟨i,rfl,q⟩ | ⟨k,rfl,q⟩
 ·obtain⟨u,rfl,t,rfl⟩:=vals1 r;exact call_int_int ⟨.int i,H,I,⟨_,rfl⟩,q⟩
 ·obtain⟨u,rfl,r1⟩:=vals1 r;cases r1;exact call_int_bool ⟨.int (if k then 1 else 0),H,I.tok _,⟨_,rfl⟩,q⟩
end
structure ObjM (h:Heap) (x dx C:Addr) (mA:Str->Option Value):Prop where
 obj:h.get? x=some (W.instObj C dx)
 ns:h.Ns1 dx mA
 ne:dx≠x
theorem zxc {h:Heap}{dx:Addr}{mA:Str->Option Value}(n:h.Ns1 dx mA):∃od,h.get? dx=some od/\∀name,W.lookIn name od=some (mA name):=by
 obtain⟨o,es,ep,ho,hd,hk,_,hm⟩:=n;refine⟨o,ho,fun name=>?_⟩;have e:=hm name;unfold nsFind findBy at e;rw[← Array.find?_toList] at e;unfold W.lookIn;rw[hd];dsimp only;split
 ·rename_i y q;rw[q] at e;exact congrArg some e
 ·rename_i q;rw[q] at e;have a:es.toList.any (·.refKey)=false:=by
   rw[List.any_eq_false];intro y hy;obtain⟨z,t,hkey⟩:=hk y (xkv.mp hy);simp[DictEntry.refKey,hkey]
  have a':¬ es.toList.any (·.refKey)=true:=by rw[a];exact xfp
  rw[if_neg a'];exact congrArg some e
theorem ObjM.look {h:Heap}{x dx C:Addr}{mA:Str->Option Value}(I:ObjM h x dx C mA):∃od,W.InstAt h x (W.instObj C dx) C (some od)/\∀name,W.lookIn name od=some (mA name) :=
 let ⟨od,ho,hl⟩:=zxc I.ns
 ⟨od,⟨I.obj,rfl,rfl,ho⟩,hl⟩
section
variable {prog:Program}{w:World}{A:Around}{E:Value->Shared->Prop}{s:Shared}{K:Fg}{x dx C f:Addr}{mA:Str->Option Value}{name:Str}{v:Value}
end
theorem RelO.some_of {v:V}{o:Option Value}(r:RelO (some v) o):∃u,o=some u/\RelV v u:=by
 cases o with
 | none=>exact(show False from r).elim
 | some u=>exact⟨u,rfl,r⟩
section
variable {P:Program}{w:World}{H H':Hp}{h h':Heap}{a C dx:Addr}{fs fs':List (Str×V)}
theorem zbie (hok:HOk P w H h)(e:H a=some (.ins C dx fs)):∃mA,ObjM h a dx C mA/\(∀f,RelO (fs.lookup f) (mA f))/\PySem.Within mA (fs.map (·.1))/\fs.length<=1000/\H dx=some (.own a):=by
 obtain⟨d,z,ne,ob,mA,n,r,q⟩:=(show ObjOk P w H h a (.ins C dx fs) from hok a _ e)
 exact⟨mA,⟨ob,n,ne⟩,r,q,z,d⟩
end
structure Cls (K:Fg) (C:Addr):Prop where
 pg:W.plainGet K C Str.empty=true
 hd:W.hasDictIn K C=true
 po:W.plainOver K C=true
 sa:W.findIn K (.ref C) "__setattr__"=some (some (.builtin "object.__setattr__"))
theorem Cls.get {K:Fg}{C:Addr}(c:Cls K C)(f:Str):W.plainGet K C f=true:=c.pg
section
variable {X:Cx}{aU:List (Addr×Obj)}{σ:St}{H:Hp}{s:Shared}{a C dx:Addr}{fs:List (Str×V)}{f:Str}{v:V}{A:Around}{E:Value->Shared->Prop}
end
section
variable {X:Cx}{o e value:Expr}{f:Str}{pos pos' tpos:Pos}{ta tv:TE}
end
section
variable {X:Cx}{aU:List (Addr×Obj)}{σ:St}{H:Hp}{s:Shared}{A:Around}{E:Value->Shared->Prop}{Q:Value->Shared->Prop}{c:Value}{b:Bool}
inductive TyOf (K:Fg) (H:Hp):V->Value->Prop where
 | non:TyOf K H .non (.type "NoneType")
 | bl (x:Bool):TyOf K H (.bl x) (.type "bool")
 | int (i:Int):TyOf K H (.int i) (.type "int")
 | str (x:Str):TyOf K H (.str x) (.type "str")
 | flt (x:UInt64):TyOf K H (.flt x) (.type "float")
 | lst {a:Addr} {xs:List V} (e:H a=some (.lst xs)):TyOf K H (.ref a) (.type "list")
 | frz {a:Addr} {o:Obj} {xs:List V} (e:H a=some (.frz o (.lst xs))):TyOf K H (.ref a) (.type "list")
 | tup {a:Addr} {xs:List V} (e:H a=some (.tup xs)):TyOf K H (.ref a) (.type "tuple")
 | dK {a:Addr} {kvs:List (Key×V)} (e:H a=some (.dK kvs)):TyOf K H (.ref a) (.type "dict")
 | dT {a:Addr} {kvs:List (List Key×V)} (e:H a=some (.dT kvs)):TyOf K H (.ref a) (.type "dict")
 | ins {a C dx:Addr} {fs:List (Str×V)} (e:H a=some (.ins C dx fs)) (cl:Cls K C) (ha:W.findIn K (.ref C) "__class__"=some (some (.builtin "object.__class__")))
  (hn:W.specialIn K (.builtin "object.__class__") "__get__"=some (some (.builtin "getset_descriptor.__get__")))(htk:W.takesIn K (.builtin "object.__class__")=some true)
  (hm:W.mroIn K C (.type "object")=some true):TyOf K H (.ref a) (.ref C)
theorem zxn {x:V}{u t:Value}(I:Inv X aU σ H s)(rx:RelV x u)(ty:TyOf X.K H x t)(e:W.kitOne X.K t c=some b)(h:∀tk,Q (.bool b) {s with toks:=tk}) :
  wpAny (model X.prog X.w) A (call (.builtin "isinstance") [u, c]) Q E s:=by
 cases ty with
 | non=>cases(show u=Value.none from rx);exact xez W.kitx_none I.kIn True.intro e (fun z=>nomatch z) h
 | bl y=>cases(show u=Value.bool y from rx);exact xez W.kitx_bool I.kIn True.intro e (fun z=>nomatch z) h
 | int i=>obtain⟨t,q⟩:=(show ∃t,u=Value.int i t from rx);cases q;exact xez W.kitx_int I.kIn True.intro e (fun z=>nomatch z) h
 | str y=>obtain⟨t,q⟩:=(show ∃t,u=Value.str y t from rx);cases q;exact xez W.kitx_str I.kIn True.intro e (fun z=>nomatch z) h
 | flt y=>obtain⟨t,q⟩:=(show ∃t,u=Value.float y t from rx);cases q;exact xez W.kitx_float I.kIn True.intro e (fun z=>nomatch z) h
 | @lst a xs ea =>
  cases(show u=Value.ref a from rx);obtain⟨_,_,n,_,h1⟩:=(show ObjOk X.prog X.w H s.heap a (.lst xs) from I.hok a _ ea)
  exact xez W.kitx_list I.kIn ⟨_,h1,rfl⟩ e (fun z=>nomatch z) h
 | @frz a ob xs ea =>
  cases(show u=Value.ref a from rx);obtain⟨_,_,_,n,_,h1⟩:=(show ObjOk X.prog X.w H s.heap a (.frz ob (.lst xs)) from I.hok a _ ea)
  exact xez W.kitx_list I.kIn ⟨_,h1,rfl⟩ e (fun z=>nomatch z) h
 | @tup a xs ea =>
  cases(show u=Value.ref a from rx);obtain⟨_,_,_,p⟩:=(show ObjOk X.prog X.w H s.heap a (.tup xs) from I.hok a _ ea)
  obtain⟨o,h1,h2,_⟩:=p;exact xez W.kitx_tuple I.kIn ⟨o,h1,h2⟩ e (fun z=>nomatch z) h
 | @dK a kvs ea =>
  cases(show u=Value.ref a from rx);obtain⟨_,_,vs,_,p⟩:=(show ObjOk X.prog X.w H s.heap a (.dK kvs) from I.hok a _ ea)
  obtain⟨o,es,ep,h1,h2,_⟩:=p;exact xez W.kitx_dict I.kIn ⟨o,h1,h2.1⟩ e (fun z=>nomatch z) h
 | @dT a kvs ea =>
  cases(show u=Value.ref a from rx);obtain⟨_,_,xs,_,o,es,ep,h1,h2,_⟩:=(show ObjOk X.prog X.w H s.heap a (.dT kvs) from I.hok a _ ea)
  exact xez W.kitx_dict I.kIn ⟨o,h1,h2.1⟩ e (fun z=>nomatch z) h
 | @ins a C dx fs ea cl ha hn htk hm =>
  cases(show u=Value.ref a from rx);obtain⟨mA,O,_⟩:=zbie I.hok ea;obtain⟨od,J,_⟩:=O.look;exact xez (W.kitx_own (cl.get _) cl.hd ha hn htk hm) I.kIn J e (fun z=>nomatch z) h
end
structure Room (k:Nat) (A:Around):Prop where
 hd:A.handled=none
 dp:A.depth+3 * k+5 < recursionLimit
 un:A.units+16 * k+200 < cLine
theorem Room.mono {j k:Nat}{A:Around}(r:Room k A)(h:j<=k):Room j A:=⟨r.hd,by have:=r.dp;lia,by have:=r.un;lia⟩
theorem Room.deeper {k:Nat}{A:Around}(r:Room (k+1) A)(env:Env):Room k (A.deeper env) :=
 ⟨r.hd,by have:=r.dp;show A.depth+1+3 * k+5 < _;lia,by have:=r.un;show A.units+3+16 * k+200 < _;lia⟩
theorem Room.depth {k:Nat}{A:Around}(r:Room k A):A.depth < recursionLimit:=by have:=r.dp;lia
theorem Room.units {k:Nat}{A:Around}(r:Room k A):A.units+64 < cLine:=by have:=r.un;lia
theorem Room.units0 {k:Nat}{A:Around}(r:Room k A):A.units < cLine:=by have:=r.un;lia
noncomputable def tNil:TA:=fun _ H Q=>Q [] H
noncomputable def tCons (ta:TE) (tr:TA):TA:=fun σ H Q=>ta σ H fun x H1=>tr σ H1 fun xs H2=>Q (x::xs) H2
section
variable {X:Cx}{e:Expr}{es:List Expr}{te:TE}{t:TA}{pos:Pos}
theorem zbgt:PA X [] tNil:=fun _ _ _ _ H Q I h=>xkc ⟨[],H,I,.nil,h⟩
theorem zyu (ha:PE X e te)(hr:PA X es t)(hs:starEach (e::es) X.env=(false,eval e X.env)::starEach es X.env:=by rfl):PA X (e::es) (tCons te t):=by
 intro pos aU s σ H Q I h;rw[hs];show wpAny _ _ (spliced ((false,eval e X.env)::backTo pos (starEach es X.env))) _ _ s;refine xia (thn (ha aU s σ H _ I h) fun u s1 hq0=>?_);obtain⟨x,H1,I1,r1,q1⟩:=hq0;exact thn (hr pos aU s1 σ H1 _ I1 q1) fun us s2 ⟨xs,H2,I2,r2,q2⟩=>⟨x::xs,H2,I2,.cons r1 r2,q2⟩
noncomputable def tTup (t:TA):TE:=fun σ H Q=>t σ H fun xs H1=>xs.length<=sizeLine/\∀p,H1 p=none->Q (.ref p) (upd H1 p (.tup xs))
noncomputable def tLst (t:TA):TE:=fun σ H Q=>t σ H fun xs H1=>xs.length<=sizeLine/\∀p,H1 p=none->Q (.ref p) (upd H1 p (.lst xs))
theorem zblv {x1}(h:PA X es t):PE X (.Tuple es x1 pos) (tTup t):=by
 intro aU s σ H Q I hq;refine wpAny_Tuple_spliced (thn (h pos aU s σ H _ I hq) fun us s1 ⟨xs,H1,I1,r,z,q⟩=>⟨by rw[← r.length];exact z,?_⟩);have hf:H1 s1.heap.objs.size=none:=I1.hok.fresh (xbf _);refine⟨.ref s1.heap.objs.size,upd H1 s1.heap.objs.size (.tup xs),I1.laid (t':=s1.toks) (fun b u e=>xbm _ e) (xbf _) ?_,rfl,q _ hf⟩;exact⟨z,us,r,⟨_,xce _ rfl,rfl,_,rfl⟩⟩
theorem zbgo (h:PA X es t):PE X (.List es pos) (tLst t):=by
 intro aU s σ H Q I hq;refine wpAny_List_spliced (thn (h pos aU s σ H _ I hq) fun us s1 ⟨xs,H1,I1,r,z,q⟩=>⟨by rw[← r.length];exact z,?_⟩);have hf:H1 s1.heap.objs.size=none:=I1.hok.fresh (xbf _);refine⟨.ref s1.heap.objs.size,upd H1 s1.heap.objs.size (.lst xs),I1.laid (t':=s1.toks) (fun b u e=>xbm _ e) (xbf _) ?_,rfl,q _ hf⟩;exact⟨z,us,0,r,xce _ rfl⟩
end
noncomputable abbrev Sp:=List V->Hp->VK->XK->Prop
noncomputable abbrev CXT:=List Env->Hp->Shared->XK->Value->Shared->Prop
structure Env0 (P:Program) (w:World) (K:Fg) (mg:Str->Option Value) (base:Heap) (A:Around) (outer:List Env) (s:Shared) (H:Hp):Prop where
 frames:A.frames=some outer
 mod:Mod K mg base
 bs:∀b o,base.get? b=some o->s.heap.get? b=some o/\H b=none
 bsz:base.objs.size<=s.heap.objs.size
 funs:s.heap.FunFrames base outer
 frf:∀b∈frs outer,H b=none
 hok:HOk P w H s.heap
 bare:AllBare s.gens
noncomputable def CE (outer:List Env) (P:Program) (w:World) (H:Hp) (s:Shared) (Q:VK) (u:Value) (s':Shared):Prop :=
 ∃v H',s'.os=s.os/\AllBare s'.gens/\Un (frs outer) [] H H' s.heap s'.heap/\HOk P w H' s'.heap/\RelV v u/\Q v H'
noncomputable def CR (CX:CXT) (outer:List Env) (P:Program) (w:World) (H:Hp) (s:Shared) (Q:VK) (E:XK) (r:Result) (s':Shared):Prop :=
 match r with
 | .ok (.ret u)=>CE outer P w H s Q u s'
 | .ok _=>False
 | .error e=>CX outer H s E e s'
structure FnOk (P:Program) (w:World) (K:Fg) (mg:Str->Option Value) (base:Heap) (CX:CXT) (k:Nat) (f:Addr) (fd:FuncData) (ps:List Str) (sp:Sp):Prop where
 len:∀vs H Q E,sp vs H Q E->vs.length=ps.length
 run:∀(A:Around) (outer:List Env) (s:Shared) (H:Hp) (args:Args) (us:List Value) (vs:List V) (Q:VK) (E:XK),Room k A->Env0 P w K mg base A outer s H->BindsTo s fd args (ps.zip us)->Vals vs us->sp vs H Q E ->
  codeAny (model P w) A (.call (.ref f) args) (CR CX outer P w H s Q E) s
section
variable {X:Cx}{aU:List (Addr×Obj)}{σ:St}{H:Hp}{s s':Shared}
theorem Inv.env0 (I:Inv X aU σ H s):Env0 X.prog X.w X.K X.mg X.base X.A X.stack s H :=
 ⟨I.ok.frames,I.ok.mod,I.bs,xbc I.ok.bsz I.sz,I.stack,I.stkFree,I.hok,I.bare⟩
theorem Inv.after {Q:VK}{u:Value}(I:Inv X aU σ H s)(h:CE X.stack X.prog X.w H s Q u s'):EP X aU σ Q u s':=by
 obtain⟨v,H',os,bare,un,hok,r,q⟩:=h;obtain⟨hh,g,d,t,os'⟩:=s';obtain rfl:os'=s.os:=os;exact⟨v,H',I.call (h':=hh) (g':=g) (d':=d) (t':=t) (ch:=[]) un hok bare (fun b z=>absurd z (by simp)),r,q⟩
end
noncomputable def tCall (sp:Sp) (dvs:List V) (E:XK) (t:TA):TE:=fun σ H Q=>t σ H fun vs H1=>sp (vs++dvs) H1 Q E
noncomputable def Binds (K:Fg) (fd:FuncData) (ps:List Str) (ds:List Value):Prop :=
 ∀(s:Shared) (us:List Value),K.In s.heap->(us++ds).length=ps.length->BindsTo s fd ⟨us,[]⟩ (ps.zip (us++ds))
theorem Binds.all {K:Fg}{fd:FuncData}{ps:List Str}(h:∀us:List Value,us.length=ps.length->bindArgs fd ⟨us,[]⟩=pure (ps.zip us)):Binds K fd ps []:=fun s us _ hl=>by
 rw[xdd] at hl ⊢;exact .of_eq (h us hl)
noncomputable def Passes (CX:CXT) (X:Cx) (E:XK):Prop:=∀(aU:List (Addr×Obj)) (σ:St) (H:Hp) (s:Shared) (e:Value) (s':Shared),Inv X aU σ H s->CX X.stack H s E e s'->X.xe e s'
section
variable {X:Cx}{CX:CXT}{k:Nat}{f C:Addr}{fd:FuncData}{ps:List Str}{sp:Sp}{dvs:List V}{ds:List Value}{E:XK}{x m:Str}{p pos apos:Pos}{e o:Expr}{es:List Expr}{ta:TE}{t:TA}
theorem zblh {aU:List (Addr×Obj)}{σ:St}{H:Hp}{s:Shared}{Q:VK}{us:List Value}{vs:List V}(F:FnOk X.prog X.w X.K X.mg X.base CX k f fd ps sp)(hr:Room k X.A)(hb:Binds X.K fd ps ds)(hd:Vals dvs ds)(hx:Passes CX X E)
  (I:Inv X aU σ H s)(r:Vals vs us)(h:sp (vs++dvs) H Q E):wpAny (model X.prog X.w) X.A (call (.ref f) us) (EP X aU σ Q) X.xe s:=by
 have r2:Vals (vs++dvs) (us++ds):=r.append hd;have hl:(us++ds).length=ps.length:=by rw[← r2.length];exact F.len _ _ _ _ h
 refine wpAny_call (xlg (F.run X.A X.stack s H ⟨us,[]⟩ (us++ds) (vs++dvs) Q E hr I.env0 (hb s us I.kIn hl) r2 h) fun r s' hq=>?_);cases r with
 | error e=>exact hx aU σ H s e s' I hq
 | ok fl =>
  cases fl with
  | ret u=>exact I.after hq
  | next=>exact False.elim hq
  | brk=>exact False.elim hq
  | cont=>exact False.elim hq
theorem zbgq (F:FnOk X.prog X.w X.K X.mg X.base CX k f fd ps sp)(hr:Room k X.A)(hg:Gl X x)(hm:X.mg x=some (.ref f))(hk:W.keepIn X.K (.ref f)=true)(hb:Binds X.K fd ps ds)(hd:Vals dvs ds)(hx:Passes CX X E)
  (ha:PA X (e::es) t)(hdb:(x==("__debug__" : Str))=false:=by decide)(he:starEach (e::es) X.env=(false, eval e X.env)::starEach es X.env:=by rfl)(hpl:(backTo pos (starEach es X.env)).any (·.1)=false:=by rfl) :
  PE X (.Call (.Name x p) (e::es) [] pos) (tCall sp dvs E t):=by
 intro aU s σ H Q I h;refine xjs (zzb I hg hm ?_ hdb);refine W.callWith_K (h₀:=X.base) I.ok.mod.kin hk (thn (ha pos aU s σ H _ I h) fun us s1 ⟨vs,H1,I1,r,q⟩=>⟨I1.kIn,?_⟩) he hpl;exact zblh F hr hb hd hx I1 r q
end
section
variable {X:Cx}{CX:CXT}{k:Nat}{f C:Addr}{fd:FuncData}{ps ks:List Str}{sp:Sp}{E:XK}{x m:Str}{p pos apos kpos:Pos}{e o:Expr}{es:List Expr}{kws:List Keyword}{te ta:TE}{t tk:TA}{nm:Option Str}
variable {g:List Value->List Value->List Value}{gV:List V->List V->List V}
end
structure FnScope (N P:List Str) (sc:Scope):Prop where
 kind:sc.kind=.function
 co:sc.isCoroutine=false
 gen:sc.isGenerator=false
 nd:N.Nodup
 pre:N.take P.length=P
 par:∀x∈P,sc.names.lookup x=some .local\/sc.names.lookup x=some .cell
 nofree:∀y∈sc.names,y.2≠.free
theorem zpp {kindOf:Str->Option NameKind}{x:Str}:∀{binds:List (Str×Value)} {m:Str->Option Value},(∀v,(x,v)∉binds)->bindL kindOf binds m x=m x
 | [],_,_=>rfl
 | (n,v)::r,m,h=>by
  unfold bindL;rw[zpp fun w hw=>h w (xbk _ hw)];split
  ·have:x≠n:=by rintro rfl;exact h v xbn
   simp[this]
  ·rfl
theorem zpr {kindOf:Str->Option NameKind}{x:Str}:∀{binds:List (Str×Value)} {m:Str->Option Value},(∀v,(x,v)∉binds)->bindC kindOf binds m x=m x
 | [],_,_=>rfl
 | (n,v)::r,m,h=>by
  unfold bindC;rw[zpr fun w hw=>h w (xbk _ hw)];split
  ·rfl
  ·have:x≠n:=by rintro rfl;exact h v xbn
   simp[this]
theorem zpq {kindOf:Str->Option NameKind}{x:Str}{v:Value}:∀{P:List Str} {vs:List Value} {i:Nat} {m:Str->Option Value},P.Nodup->P[i]?=some x->vs[i]?=some v->kindOf x=some .local ->
  bindL kindOf (P.zip vs) m x=some v
 | [],_,_,_,_,h,_,_=>by simp at h
 | _::_,[],_,_,_,_,h,_=>by simp at h
 | p::P,w::vs,0,m,nd,h1,h2,hk=>by
  simp at h1 h2;subst h1;subst h2
  show bindL kindOf ((p,w)::P.zip vs) m p=_;unfold bindL;rw[zpp fun v hv=>(xep.mp nd).1 (xmv hv).1,if_pos hk];simp
 | p::P,w::vs,i+1,m,nd,h1,h2,hk=>by
  show bindL kindOf ((p,w)::P.zip vs) m x=_;unfold bindL;exact zpq (i:=i) (xep.mp nd).2 (by simpa using h1) (by simpa using h2) hk
theorem zps {kindOf:Str->Option NameKind}{x:Str}{v:Value}:∀{P:List Str} {vs:List Value} {i:Nat} {m:Str->Option Value},P.Nodup->P[i]?=some x->vs[i]?=some v->kindOf x≠some .local ->
  bindC kindOf (P.zip vs) m x=some v
 | [],_,_,_,_,h,_,_=>by simp at h
 | _::_,[],_,_,_,_,h,_=>by simp at h
 | p::P,w::vs,0,m,nd,h1,h2,hk=>by
  simp at h1 h2;subst h1;subst h2
  show bindC kindOf ((p,w)::P.zip vs) m p=_;unfold bindC;rw[zpr fun v hv=>(xep.mp nd).1 (xmv hv).1,if_neg hk];simp
 | p::P,w::vs,i+1,m,nd,h1,h2,hk=>by
  show bindC kindOf ((p,w)::P.zip vs) m x=_;unfold bindC;exact zps (i:=i) (xep.mp nd).2 (by simpa using h1) (by simpa using h2) hk
noncomputable def start (N:List Str) (vs:List V):St:=vs.map some++List.replicate (N.length - vs.length) none
noncomputable def cxOf (CX:CXT) (P:Program) (w:World) (K:Fg) (mg:Str->Option Value) (base:Heap) (N:List Str) (qual:Str) (scope:Scope) (f:Addr) (cd:Value) (A:Around) (outer:List Env) (s:Shared) (H:Hp) (E:XK):Cx where
 prog:=P
 w:=w
 K:=K
 mg:=mg
 base:=base
 A:=A.deeper (envOfC qual scope s.heap.objs.size f cd)
 N:=N
 s₀:=s
 H₀:=H
 env:=envOfC qual scope s.heap.objs.size f cd
 outer:=outer
 stack:=envOfC qual scope s.heap.objs.size f cd::outer
 ex:=[]
 calm:=true
 fn:=fun _=>true
 pn:=[]
 xe:=fun e s'=>wpAny (model P w) (A.deeper (envOfC qual scope s.heap.objs.size f cd)) (leaving (envOfC qual scope s.heap.objs.size f cd) e) (fun _ s''=>CX outer H s E e s'') (fun e' s''=>CX outer H s E e' s'') s'
theorem zus {sc:Scope}{n:Nat}{x:Str}(h:sc.names.lookup x=some .cell):∃c,(cellsFrom n sc.names []).lookup x=some c:=by
 have q:=W.cellsFrom_some sc.names n [] (.inl h);exact Option.isSome_iff_exists.mp q
theorem zxo {CX:CXT}{P:Program}{w:World}{K:Fg}{mg:Str->Option Value}{base:Heap}{N ps:List Str}{qual:Str}{scope:Scope}{f:Addr}{cd:Value}{A:Around}{outer:List Env}{s s1:Shared}{H:Hp}{E:XK}{us:List Value}{vs:List V}
  (S:FnScope N ps scope)(hd:A.handled=none)(e0:Env0 P w K mg base A outer s H)(hl:vs.length=ps.length)(r:Vals vs us)
  (x:InCallC s s.heap.objs.size (bindL (envOfC qual scope s.heap.objs.size f cd).kindOf (ps.zip us) fun _=>none) (cellsFrom (s.heap.objs.size+1) scope.names []) (bindC (envOfC qual scope s.heap.objs.size f cd).kindOf (ps.zip us) fun _=>none) s1) :
  Inv (cxOf CX P w K mg base N qual scope f cd A outer s H E) [] (start N vs) H s1:=by
 have hpl:ps.length<=N.length:=by have:=congrArg List.length S.pre;rw[xdc] at this;lia
 obtain⟨h1,tk,rfl,hk⟩:=x.done;have noA:∀b:Addr,b∉(cxOf CX P w K mg base N qual scope f cd A outer s H E).ex:=fun b z=>absurd (show b∈([]:List Addr) from z) (by simp)
 refine⟨⟨e0.mod,S.kind,rfl,rfl,xbf _,fun y z c h1 h2=>?_,fun y hy=>?_,fun y c _ h=>?_,fun _=>hd,Around.frames_deeper e0.frames,.inr ⟨rfl,rfl⟩,fun b z=>absurd z (noA b),e0.bs,e0.bsz,fun b _ _=>noA b,fun b z=>absurd z (noA b),e0.funs,e0.frf⟩,
  rfl,e0.bare,Un.kept hk,⟨_,x.toInCall.ns,fun i y v h1 h2 h3=>?_⟩,fun y c h=>⟨_,x.cell y c h⟩,e0.hok.fresh (xbf _),fun y c h=>?_,fun p hp=>absurd (show p∈([]:List (Addr×Obj)) from hp) (by simp),e0.hok.kept hk,?_,Hnd.none hd⟩
 ·exact name_of_addr x.apart (xgr h1) (xgr h2)
 ·have hy:scope.names.lookup y=some .cell\/scope.names.lookup y=some .free:=hy;rcases hy with hy | hy
  ·exact zus hy
  ·exact absurd rfl (S.nofree _ (xgr hy))
 ·exact xbx (x.above y c (xgr h))
 ·have hi:i < vs.length:=by
   unfold start at h2;by_cases hi:i < vs.length
   ·exact hi
   ·rw[xcs (by simpa using hi)] at h2;rw[List.getElem?_replicate] at h2;split at h2<;>cases h2
  have ha:vs[i]?=some v:=by
   unfold start at h2;rw[xbu (by simpa using hi),xcn] at h2;cases e:vs[i]? with
   | none=>rw[e] at h2;cases h2
   | some a=>rw[e] at h2;cases h2;rfl
  obtain⟨u,hu,rv⟩:=r.get ha;have hp:ps[i]?=some y:=by
   rw[← S.pre,List.getElem?_take_of_lt (by lia)];exact h1
  have ndP:ps.Nodup:=by rw[← S.pre];exact S.nd.sublist (xkd _ _)
  refine⟨u,rv,?_⟩;rcases S.par y (xca hp) with k | k
  ·exact .inl ⟨k,zpq ndP hp hu k⟩
  ·obtain⟨c,e⟩:=zus (n:=s.heap.objs.size+1) k;refine .inr ⟨.inl k,c,e,?_⟩;have q:=x.cell y c e;rw[zps ndP hp hu (by show scope.names.lookup y≠_;rw[k];decide)] at q;exact q
 ·exact e0.hok.fresh (xbx (x.above y c (xgr h)))
 ·unfold start;show _=N.length;rw[xbj,xbb,xhd];lia
theorem zbrf {CX:CXT}{P:Program}{w:World}{K:Fg}{mg:Str->Option Value}{base:Heap}{k:Nat}{f:Addr}{name qual:Str}{params:Arguments}{body:List Stmt}{scope:Scope}{dV kV doc pm cdv ct oc:Value}{an od:Option Addr}
  {osl:Array (Option Value)}{N ps:List Str}{sp:Sp}(lk:K.lookup f=some ⟨oc,od,.func (W.fnOf name qual params body scope dV kV doc pm an cdv ct),osl⟩)(hcd:W.codeIn K cdv qual=true)(S:FnScope N ps scope)
  (len:∀vs H Q E,sp vs H Q E->vs.length=ps.length)
  (hbody:∀(A:Around) (outer:List Env) (s:Shared) (H:Hp) (vs:List V) (Q:VK) (E:XK),Room k (A.deeper (envOfC qual scope s.heap.objs.size f cdv))->sp vs H Q E ->
   ∃t,PSs (cxOf CX P w K mg base N qual scope f cdv A outer s H E) body t/\t {nx:=fun _ H'=>Q .non H',rt:=Q} (start N vs) H) :
  FnOk P w K mg base CX (k+1) f (W.fnOf name qual params body scope dV kV doc pm an cdv ct) ps sp:=by
 refine⟨len,fun A outer s H args us vs Q E hr e0 hb r hsp=>?_⟩;have hl:=len _ _ _ _ hsp;have KX:K.In s.heap:=e0.mod.kin.keeps fun b o e=>(e0.bs b o e).1
 have lim:s.heap.NoLimit:=e0.mod.nolimit.keeps fun b o e=>(e0.bs b o e).1
 have hkind:∀y∈ps.zip us,scope.names.lookup y.1=some .local\/(scope.names.lookup y.1=some .cell/\((cellsFrom (s.heap.objs.size+1) scope.names []).lookup y.1).isSome=true):=fun hq0 hy=>by
  obtain⟨n,v⟩:=hq0;rcases S.par n (xmv hy).1 with q | q
  ·exact .inl q
  ·exact .inr ⟨q,W.cellsFrom_some _ _ _ (.inl q)⟩
 refine codeAny_call_function hr.depth (KX _ _ lk) rfl S.co S.gen rfl (W.codeRec_of KX hcd) (hb _ _ _ _ ?_);refine wpAny_newFunctionEnv_cells S.kind hkind fun env he s1 x=>?_
 subst he;refine⟨lim.keeps x.toInCall.keep,codeAny_func ?_⟩;obtain⟨t,ht,hq⟩:=hbody A outer s H vs Q E (hr.deeper _) hsp;have I:Inv (cxOf CX P w K mg base N qual scope f cdv A outer s H E) [] (start N vs) H s1:=zxo S hr.hd e0 hl r x;refine xfe (ht [] s1 (start N vs) H _ I hq) (fun fl s' hs=>?_) fun e s' hs=>hs
 have fin:∀{σ':St} {H':Hp} {v:V} {u:Value},Inv (cxOf CX P w K mg base N qual scope f cdv A outer s H E) [] σ' H' s'->RelV v u->Q v H'->CE outer P w H s Q u s' :=
  fun {σ' H' v u} J rv q=>⟨v,H',J.os,J.bare,J.base,J.hok,rv,q⟩
 cases fl with
 | ret u =>
  obtain⟨v,σ',H',J,rv,q⟩:=hs;exact fin J rv q
 | next =>
  obtain⟨σ',H',J,q⟩:=hs;exact fin (v:=V.non) (u:=Value.none) J rfl q
 | brk =>
  obtain⟨_,_,_,q⟩:=hs;exact False.elim q
 | cont =>
  obtain⟨_,_,_,q⟩:=hs;exact False.elim q
section
variable {X:Cx}{x:Str}{p pos:Pos}{e:Expr}{es:List Expr}{t:TA}{id T:String}{r:List V->Hp->VK->Prop}
noncomputable def tCB (r:List V->Hp->VK->Prop) (t:TA):TE:=fun σ H Q=>t σ H fun vs H1=>r vs H1 Q
theorem zso (hc:CallR X (.builtin id) r)(hg:Gl X x)(hm:X.mg x=none)(hv:bootBuiltins x=some (.builtin id))(ha:PA X (e::es) t)(hn:x≠"__name__":=by decide)(hdb:(x==("__debug__" : Str))=false:=by decide)
  (he:starEach (e::es) X.env=(false,eval e X.env)::starEach es X.env:=by rfl)(hpl:(backTo pos (starEach es X.env)).any (·.1)=false:=by rfl):PE X (.Call (.Name x p) (e::es) [] pos) (tCB r t):=by
 intro aU s σ H Q I h;refine xjs (zqv I hg hm hv ?_ hn hdb);exact PyProof.Rows.callWith_builtin1 (thn (ha pos aU s σ H _ I h) fun us s1 ⟨vs,H1,I1,r1,q1⟩=>hc aU s1 σ H1 vs us Q I1 r1 q1) he hpl
theorem zop (hc:CallR X (.type T) r)(hg:Gl X x)(hm:X.mg x=none)(hv:bootBuiltins x=some (.type T))(ha:PA X (e::es) t)(hn:x≠"__name__":=by decide)(hdb:(x==("__debug__" : Str))=false:=by decide)
  (he:starEach (e::es) X.env=(false,eval e X.env)::starEach es X.env:=by rfl)(hpl:(backTo pos (starEach es X.env)).any (·.1)=false:=by rfl):PE X (.Call (.Name x p) (e::es) [] pos) (tCB r t):=by
 intro aU s σ H Q I h;refine xjs (zqv I hg hm hv ?_ hn hdb);exact xgz (thn (ha pos aU s σ H _ I h) fun us s1 ⟨vs,H1,I1,r1,q1⟩=>hc aU s1 σ H1 vs us Q I1 r1 q1) he hpl
end
end L2
namespace HT
open PySem PyProof.Rows
noncomputable def lexLt:List Int->List Int->Bool
 | [],[]=>false
 | [],_::_=>true
 | _::_,[]=>false
 | x::xs,y::ys=>if x=y then lexLt xs ys else decide (x < y)
theorem zcw (x y:Int)(xs ys:List Int):lexLt (x::xs) (y::ys)=if x=y then lexLt xs ys else decide (x < y):=rfl
theorem zdu:lexLt [] []=false:=rfl
theorem zcb (y:Int)(ys:List Int):lexLt [] (y::ys)=true:=rfl
theorem zdd (x:Int)(xs:List Int):lexLt (x::xs) []=false:=rfl
theorem zbcz (A:Around)(s:Shared)(a:Int)(t:Tok)(c:Int)(u:Tok):∃e,SeqAt.EqAt A s (.int a t) (.int c u) e/\(e=true↔a=c) :=
 ⟨(a==c),SeqAt.EqAt.int_int a t c u,by simp⟩
theorem zbax (A:Around)(s:Shared)(a:Int)(t:Tok)(c:Int)(u:Tok)(prog:Program)(w:World)(E:Value->Shared->Prop)(Q:Value->Shared->Prop)(h:Q (.bool (decide (a < c))) s) :
  wpAny (model prog w) A (richCompare .Lt (.int a t) (.int c u)) Q E s :=
 (PyProof.Rows.lt_int h:wpAny (model prog w) A (compareOp .Lt (.int a t) (.int c u)) Q E s)
section
open PySem.SeqAt
open PySem.AutoSeq1 (wpAny_loadPart')
open PySem.MeetsSeq PySem.MeetsSeq2 PySem.MeetsSeq3
theorem zgg (l b:Addr)(items items2:Array Value)(n n2:Nat)(dd dd2:Option Addr)(sl sl2:Array (Option Value))(ns ms:List Int)(hi:IntsAre items.toList ns)(hj:IntsAre items2.toList ms) :
  Meets (Builtin.«tuple.__lt__» ⟨[.ref l,.ref b],[]⟩)
   (fun _ R s=>s.heap.get? l=some { cls:=.type "tuple", dict:=dd, data:=.seq items n, slots:=sl }/\s.heap.get? b=some { cls:=.type "tuple", dict:=dd2, data:=.seq items2 n2, slots:=sl2 } /\
    R (.ok (.ret (.bool (lexLt ns ms)))) s) :=
 .of_wp fun prog w A R s h=>by
  obtain⟨hp,g,d,tk,os⟩:=s;obtain⟨hl,hb,h⟩:=h
  have f2:=AutoSeq1.sub_tuple_tuple;have z1:items.size=ns.length:=by rw[← hi.length];simp
  have z2:items2.size=ms.length:=by rw[← hj.length];simp
  wp_walk using wpAny_loadPart' hl,wpAny_loadPart' hb,wpAny_forIn_list _ (fun rest b s'=>b.1=none/\s'=⟨hp,g,d,tk,os⟩/\∃(vs ws:List Value) (ns' ms':List Int),rest=vs.zip ws /\
   IntsAre vs ns'/\IntsAre ws ms'/\ns'.length+items2.size=ms'.length+items.size/\R (.ok (.ret (.bool (lexLt ns' ms')))) ⟨hp,g,d,tk,os⟩) _
  case turn =>
   rintro⟨y,x⟩ rest b s' ⟨hb',rfl,vs,ws,ns',ms',hz,hvi,hwi,hlen,hR⟩;cases hvi with
   | nil=>rw[List.zip_nil_left] at hz;cases hz
   | cons a t hvi' =>
    cases hwi with
    | nil=>rw[List.zip_nil_right] at hz;cases hz
    | cons c u hwi' =>
     rw[List.zip_cons_cons] at hz;injection hz with hyx hrest
     injection hyx with hy hx
     subst hy hx;rw[zcw] at hR;simp only[xby] at hlen;obtain⟨e,he,hiff⟩:=zbcz A.in1 ⟨hp,g,d,tk,os⟩ a t c u;refine xba (he prog w _ _ ?_);cases e with
     | true =>
      rw[if_pos (hiff.mp rfl)] at hR
      wp_walk
      exact⟨rfl,rfl,_,_,_,_,hrest,hvi',hwi',by lia,hR⟩
     | false =>
      rw[if_neg (fun q=>absurd (hiff.mpr q) xfp)] at hR;have hri:=zbax A.in1 ⟨hp,g,d,tk,os⟩ a t c u prog w
      wp_walk using hri
      exact⟨_,rfl,by simpa using hR⟩
  case fin =>
   rintro⟨b1,b2⟩ s' ⟨hb',rfl,vs,ws,ns',ms',hz,hvi,hwi,hlen,hR⟩;simp only at hb';subst hb';have hv:lexLt ns' ms'=decide (items.size < items2.size):=by
    cases hvi with
    | nil =>
     cases hwi with
     | nil =>
      simp only[xkw] at hlen;rw[zdu];exact(xcb (by lia)).symm
     | cons c u hw =>
      simp only[xkw,xby] at hlen;rw[zcb];exact(xcj (by lia)).symm
    | cons a t hv =>
     cases hwi with
     | nil =>
      simp only[xkw,xby] at hlen;rw[zdd];exact(xcb (by lia)).symm
     | cons c u hw =>
      rw[List.zip_cons_cons] at hz;cases hz
   rw[hv] at hR
   wp_walk
   exact⟨_,rfl,by simpa [Builtin.Tuple.tupleCompareSizes] using hR⟩
  case h =>
   exact⟨rfl,rfl,items.toList,items2.toList,ns,ms,rfl,hi,hj,by lia,h⟩
end
section
variable {prog:Program}{w:World}{A:Around}{E:Value->Shared->Prop}{s:Shared}
theorem zlh {l b:Addr}{items items2:Array Value}{ns ms:List Int}{Q:Value->Shared->Prop}(hl:IsTup s.heap l items)(hb:IsTup s.heap b items2)(hi:IntsAre items.toList ns)(hj:IntsAre items2.toList ms)
  (hu:A.units < cLine)(h:Q (.bool (lexLt ns ms)) s):wpAny (model prog w) A (compareOp .Lt (.ref l) (.ref b)) Q E s:=by
 obtain⟨⟨cls,dd,data,sl⟩,ho,hc,n,hd⟩:=id hl;obtain⟨⟨cls2,dd2,data2,sl2⟩,ho2,hc2,n2,hd2⟩:=id hb;simp only at hc hd hc2 hd2;subst hc hd hc2 hd2;exact richCompare_meets_room (op:=.Lt) ⟨_,ho,rfl⟩ ⟨_,ho2,rfl⟩ xkr F.entry_tuple_lt (F.args_tuple_lt_2 _ _) (zgg l b items items2 n n2 dd dd2 sl sl2 ns ms hi hj)
  ⟨ho,ho2,show Value.bool (lexLt ns ms)≠Value.notImplemented/\Q (.bool (lexLt ns ms)) s from⟨(fun x=>nomatch x),h⟩⟩ hu
theorem zbjv {t b:Addr}{vs ws:List Value}{Q:Value->Shared->Prop}(ht:IsTup s.heap t vs.toArray)(hb:IsTup s.heap b ws.toArray)(hv:vs≠[])
  (h1:ws=[]->Q (.ref t) s)(h2:ws≠[]->Q (.ref s.heap.objs.size) { s with heap:=s.heap.push { cls:=.type "tuple", data:=.seq (vs++ws).toArray } })
  (hsz:vs.length+ws.length<=sizeLine):wpAny (model prog w) A (binaryOp .Add (.ref t) (.ref b)) Q E s:=by
 obtain⟨⟨cls,dd,data,sl⟩,ho,hc,n,hd⟩:=id ht;obtain⟨⟨cls2,dd2,data2,sl2⟩,ho2,hc2,n2,hd2⟩:=id hb;simp only at hc hd hc2 hd2;subst hc hd hc2 hd2;have e:vs.toArray++ws.toArray=(vs++ws).toArray:=by simp
 by_cases hw:ws=[]
 ·exact concat_meets ⟨_,ho,rfl⟩ ⟨_,ho2,rfl⟩ noFill_tuple_add seq_tuple_add xki xjv (xjp _ _)
   (tuple_addW1 t b vs.toArray ws.toArray n n2 dd dd2 sl sl2 (by simpa using hv) (by simp[hw])) ⟨ho,ho2,h1 hw⟩
 ·refine concat_meets ⟨_,ho,rfl⟩ ⟨_,ho2,rfl⟩ noFill_tuple_add seq_tuple_add xki xjv (xjp _ _)
   (tuple_addW2 t b vs.toArray ws.toArray n n2 dd dd2 sl sl2 (by simpa using hv) (by simpa using hw) (by rw[xbs,xbs];exact hsz)) ⟨ho,ho2,?_⟩
  rw[e];exact h2 hw
noncomputable def sIx (n d:Nat):Option Int->Nat
 | none=>d
 | some v=>if v < 0 then(v+(n:Int)).toNat else min v.toNat n
theorem zsf (n d:Nat):sIx n d none=d:=rfl
theorem zyn (n d k:Nat):sIx n d (some (k:Int))=min k n:=by
 show(if(k:Int) < 0 then((k:Int)+(n:Int)).toNat else min (k:Int).toNat n)=min k n;rw[if_neg (by lia),xec]
theorem zblf (n d:Nat)(hd:d<=n)(o:Option Int):sIx n d o<=n:=by
 cases o with
 | none=>exact hd
 | some v =>
  show(if v < 0 then(v+(n:Int)).toNat else min v.toNat n)<=n;by_cases hv:v < 0
  ·rw[if_pos hv];lia
  ·rw[if_neg hv];exact xgc _ _
theorem zbab (v:Int)(n d:Nat):(if v < 0 then max (v+(n:Int)) 0 else min v (n:Int))=((sIx n d (some v):Nat):Int):=by
 show(if v < 0 then max (v+(n:Int)) 0 else min v (n:Int))=(((if v < 0 then(v+(n:Int)).toNat else min v.toNat n):Nat):Int)
 by_cases hv:v < 0
 ·simp only[if_pos hv];lia
 ·simp only[if_neg hv];lia
theorem zvf (lo hi:Option Int)(n:Nat):Builtin.Slice.sliceAdjust lo hi 1 (n:Int)=(((sIx n 0 lo:Nat):Int),((sIx n n hi:Nat):Int)):=by
 have h1:¬ ((1:Int) < 0):=by lia
 unfold Builtin.Slice.sliceAdjust;simp only[h1,xdx];refine Prod.ext ?_ ?_
 ·cases lo with
  | none=>rfl
  | some v=>exact zbab v n 0
 ·cases hi with
  | none=>rfl
  | some v=>exact zbab v n n
theorem zsn (i j:Nat):Builtin.Slice.slicePlaces (i:Int) (j:Int) 1=j - i:=by
 unfold Builtin.Slice.slicePlaces;have h1:(1:Int) > 0:=by lia
 simp only[h1,xeu,Int.ediv_one];split<;>lia
theorem zkw {v:Value}{o:Option Int}{Q:Option Int->Shared->Prop}(p:IsPart v o)(h:Q o s):wpAny (model prog w) A (Builtin.Slice.slicePartIndex v) Q E s:=by
 cases p with
 | none=>exact slicePart_none h
 | int i t=>exact slicePart_int h
theorem zds {sl:Addr}{vl vu:Value}{lo hi:Option Int}{n:Nat}{Q:Int×Int×Nat->Shared->Prop}(hs:s.heap.IsSliceOf sl vl vu .none)(pl:IsPart vl lo)(pu:IsPart vu hi)
  (h:Q (((sIx n 0 lo:Nat):Int),1,sIx n n hi - sIx n 0 lo) s):wpAny (model prog w) A (Builtin.Slice.sliceApplied (.ref sl) (pure (n:Int))) Q E s:=by
 obtain⟨os,hos,hcs,hds⟩:=id hs;unfold Builtin.Slice.sliceApplied Builtin.Slice.sliceFields;refine xba (xba (wpAny_field hos hds (x:=vl) rfl (xba (wpAny_field hos hds (x:=vu) rfl (xba (wpAny_field hos hds (x:=.none) rfl (xbe ?_)))))));refine xba (slicePart_none ?_);show wpAny _ _ (if((1:Int)==0)=true then _ else _) _ _ s;rw[if_neg (by decide)];refine xba (zkw pl (xba (zkw pu (xba (xbe ?_)))));show wpAny _ _ (match Builtin.Slice.sliceAdjust lo hi 1 (n:Int) with | (lo,hi)=>pure (lo,(1:Int),Builtin.Slice.slicePlaces lo hi 1)) _ _ s;rw[zvf lo hi n];show wpAny _ _ (pure (((sIx n 0 lo:Nat):Int),(1:Int),Builtin.Slice.slicePlaces ((sIx n 0 lo:Nat):Int) ((sIx n n hi:Nat):Int) 1)) _ _ s;rw[zsn];exact xbe h
theorem zbbk (xs:Array Value)(i k:Nat):((List.range k).filterMap fun(m:Nat)=>xs[((i:Int)+(m:Int) * 1).toNat]?).toArray=((xs.toList.drop i).take k).toArray:=by
 have e:(fun(m:Nat)=>xs[((i:Int)+(m:Int) * 1).toNat]?)=fun m=>xs[i+m]?:=by
  funext m
  have:((i:Int)+(m:Int) * 1).toNat=i+m:=by lia
  rw[this]
 rw[e];have:=pick_run xs i k;rw[List.filterMap_map] at this;have e2:((fun x=>xs[x]?) ∘ fun x=>i+x)=fun m=>xs[i+m]?:=rfl
 rw[e2] at this;rw[this]
theorem zgq {t sl:Addr}{items:Array Value}{vl vu:Value}{lo hi:Option Int}{Q:Value->Shared->Prop}(ht:IsTup s.heap t items)(hs:s.heap.IsSliceOf sl vl vu .none)(pl:IsPart vl lo)(pu:IsPart vu hi)
  (hw:¬ (sIx items.size 0 lo=0/\sIx items.size items.size hi=items.size))
  (h:Q (.ref s.heap.objs.size) { s with heap:=s.heap.push { cls:=.type "tuple", data:=.seq ((items.toList.drop (sIx items.size 0 lo)).take (sIx items.size items.size hi - sIx items.size 0 lo)).toArray } })
  (hsz:items.size<=sizeLine):wpAny (model prog w) A (getItem (.ref t) (.ref sl)) Q E s:=by
 have htake:sizeOk (.seq ((items.toList.drop (sIx items.size 0 lo)).take (sIx items.size items.size hi - sIx items.size 0 lo)).toArray):=by
  show((items.toList.drop (sIx items.size 0 lo)).take (sIx items.size items.size hi - sIx items.size 0 lo)).toArray.size<=sizeLine;rw[xbs,xdc,xgt,xcc];lia
 have hj:sIx items.size items.size hi<=items.size:=zblf _ _ (xbf _) hi;obtain⟨os,hos,hcs,hds⟩:=id hs;have hTs:s.TypeIs (.ref sl) "slice":=⟨os, hos, hcs⟩
 unfold getItem
 try with_reducible refine xex ?_
 first | refine xba (xbe ?_) | skip
 refine xba (wpAny_sequenceKey ht.typeIs (by decide) ?_)
 refine xba (wpAny_callSpecial?_slot (name:=Str.ofString "__getitem__") ht.typeIs xhu
  (xet xhu ht.typeIs entry_tuple_getitem ?_ (args_tuple_getitem _ _)))
 show wpAny _ _ (Builtin.Tuple.tupleItemsOf (.ref t) >>= _) _ _ s;refine xba (tupleItemsOf_ ht ?_);refine xba (wpAny_typeOf hTs ?_);rw[if_pos (by decide)];refine xba (zds hs pl pu ?_);have hno:¬ ((((sIx items.size 0 lo:Nat):Int)==0&&(1:Int)==1&&(sIx items.size items.size hi - sIx items.size 0 lo)==items.size)=true):=by
  intro q;rw[xho,xho] at q;have q1:((sIx items.size 0 lo:Nat):Int)=0:=eq_of_beq q.1.1;have q2:sIx items.size items.size hi - sIx items.size 0 lo=items.size:=eq_of_beq q.2;exact hw ⟨by lia,by lia⟩
 show wpAny _ _ (if(((sIx items.size 0 lo:Nat):Int)==0&&(1:Int)==1&&(sIx items.size items.size hi - sIx items.size 0 lo)==items.size)=true then _ else _) _ _ s;rw[if_neg hno,zbbk]
 first
  | exact xba (m:=Builtin.Tuple.tupleExact _) (xek (xbe ⟨_,rfl,xbe h⟩) htake)
  | exact xba (m:=Builtin.Tuple.tupleExact _) (xek (xba (xbe (xbe ⟨_,rfl,xbe h⟩))) htake)
  | exact xba (xba (m:=Builtin.Tuple.tupleExact _) (xek (xbe (xbe ⟨_,rfl,xbe h⟩)) htake))
  | exact xba (xba (m:=Builtin.Tuple.tupleExact _) (xek (xbe ⟨_,rfl,xbe h⟩) htake))
end
end HT
namespace L2
open PySem PySem.Spec PyProof.Rows
noncomputable abbrev TO:=St->Hp->(Option Int->Hp->Prop)->Prop
noncomputable def PO (X:Cx) (e:Option Expr) (t:TO):Prop :=
 ∀(aU:List (Addr×Obj)) (s:Shared) (σ:St) (H:Hp) (Q:Option Int->Hp->Prop),Inv X aU σ H s->t σ H Q ->
  wpAny (model X.prog X.w) X.A (evalPart e X.env) (fun u s'=>∃o H',Inv X aU σ H' s'/\IsPart u o/\Q o H') X.xe s
noncomputable def tNoPart:TO:=fun _ H Q=>Q none H
noncomputable def tPart (t:TE):TO:=fun σ H Q=>t σ H fun x H1=>∃i,x=.int i/\Q (some i) H1
theorem zdv {ns:List Int}:∀{us:List Value},Vals (ns.map V.int) us->IntsAre us ns:=by
 induction ns with
 | nil=>intro us r;rw[xml] at r;cases r;exact .nil
 | cons n ns ih =>
  intro us r;rw[xbt] at r;cases r with
  | cons r1 r2 =>
   obtain⟨t,e⟩:=r1;subst e;exact .cons n t (ih r2)
section
variable {X:Cx}{e:Expr}{te:TE}{lo hi:Option Expr}{tl th:TO}{pos p2:Pos}
theorem zbge:PO X none tNoPart:=by
 intro aU s σ H Q I h;rw[evalPart_none];exact xbe ⟨none,H,I,.none,h⟩
theorem zbgd (h:PE X e te):PO X (some e) (tPart te):=by
 intro aU s σ H Q I hw;rw[evalPart_some];refine thn (h aU s σ H _ I hw) fun u s1 hq0=>?_
 obtain⟨x,H1,I1,r1,q1⟩:=hq0;obtain⟨i,rfl,q⟩:=q1;obtain⟨t,rfl⟩:=r1;exact⟨some i,H1,I1,.int i t,q⟩
noncomputable def SlR (X:Cx) (r:V->Option Int->Option Int->Hp->VK->Prop):Prop :=
 ∀(aU:List (Addr×Obj)) (s:Shared) (σ:St) (H:Hp) (x:V) (v vl vu:Value) (lo hi:Option Int) (sl:Addr) (Q:VK),Inv X aU σ H s->RelV x v->s.heap.IsSliceOf sl vl vu .none->IsPart vl lo->IsPart vu hi->r x lo hi H Q ->
  ∃ T id, typeLookup (.type T) "__getitem__"=pure (some (.builtin id))/\s.TypeIs v T/\wpAny (model X.prog X.w) X.A (getItem v (.ref sl)) (EP X aU σ Q) X.xe s
theorem SlR.or {r r':V->Option Int->Option Int->Hp->VK->Prop}(h:SlR X r)(h':SlR X r'):SlR X (fun x lo hi H Q=>r x lo hi H Q\/r' x lo hi H Q):=by
 intro aU s σ H x v vl vu lo hi sl Q I rx hs pl pu q;rcases q with q | q
 ·exact h aU s σ H x v vl vu lo hi sl Q I rx hs pl pu q
 ·exact h' aU s σ H x v vl vu lo hi sl Q I rx hs pl pu q
noncomputable def tSl (r:V->Option Int->Option Int->Hp->VK->Prop) (te:TE) (tl th:TO):TE:=fun σ H Q=>te σ H fun x H1=>tl σ H1 fun l H2=>th σ H2 fun u H3=>r x l u H3 Q
theorem zbbn {r:V->Option Int->Option Int->Hp->VK->Prop}(hr:SlR X r)(he:PE X e te)(hl:PO X lo tl)(hu:PO X hi th):PE X (.Subscript e (.Slice lo hi none p2) pos) (tSl r te tl th):=by
 intro aU s σ H Q I h;refine Subscript_ (thn (he aU s σ H _ I h) fun v s1 hq0=>?_);obtain⟨x,H1,I1,r1,q1⟩:=hq0;refine wpAny_Slice (thn (hl aU s1 σ H1 _ I1 q1) fun vl s2 ⟨l,H2,I2,pl,q2⟩=>thn (hu aU s2 σ H2 _ I2 q2) fun vu s3 hq0=>?_);obtain⟨u,H3,I3,pu,q3⟩:=hq0;rw[evalPart_none];refine xbe ?_;have I4:Inv X aU σ H3 { s3 with heap:=s3.heap.push { cls:=.type "slice", data:=.fields #[vl, vu, .none] } }:=I3.kept (t':=s3.toks) fun b ob q=>xbm _ q
 obtain⟨T, id, hT, ht, hg⟩:=hr aU { s3 with heap:=s3.heap.push { cls:=.type "slice", data:=.fields #[vl, vu, .none] } } σ H3 x v vl vu l u s3.heap.objs.size Q I4 r1 (Heap.IsSliceOf.new ..) pl pu q3
 show wpAny (model X.prog X.w) X.A (subscriptTail e (.Slice lo hi none p2) v (.ref s3.heap.objs.size)) (EP X aU σ Q) X.xe { s3 with heap:=s3.heap.push { cls:=.type "slice", data:=.fields #[vl, vu, .none] } }
 exact tail_any (ops:=[.ref s3.heap.objs.size,v]) ht hT hg (by with_unfolding_all rfl)
noncomputable def cutV (xs:List V) (lo hi:Option Int):List V:=(xs.drop (HT.sIx xs.length 0 lo)).take (HT.sIx xs.length xs.length hi - HT.sIx xs.length 0 lo)
theorem zjb (xs:List V)(lo hi:Option Int):(cutV xs lo hi).length<=xs.length:=by
 unfold cutV;rw[xdc,xgt];lia
noncomputable def rSlT (K:Fg):V->Option Int->Option Int->Hp->VK->Prop:=fun x lo hi H Q=>∃a xs,x=.ref a/\SqT K H a xs /\
 ¬ (HT.sIx xs.length 0 lo=0/\HT.sIx xs.length xs.length hi=xs.length)/\∀p,H p=none->Q (.ref p) (upd H p (.tup (cutV xs lo hi)))
theorem zbky:SlR X (rSlT X.K):=by
 intro aU s σ H x v vl vu lo hi sl Q I rx hs pl pu h;obtain⟨a,xs,rfl,hx,hw,q⟩:=h;cases rx;obtain⟨its,r,ht,hz⟩:=I.tuple hx;have hlen:its.toArray.size=xs.length:=by rw[xbs];exact r.length.symm
 refine⟨"tuple", _, xhu.lookup, ht.typeIs, ?_⟩
 refine HT.zgq ht hs pl pu (by rw[hlen];exact hw) ?_ (by rw[hlen];exact hz);rw[hlen];refine⟨.ref s.heap.objs.size,_,I.laid (t':=s.toks) (o:=.tup (cutV xs lo hi)) (fun b ob q=>xbm _ q) (xbf _) ?_,rfl,q _ (I.hok.fresh (xbf _))⟩;exact⟨xbc (zjb xs lo hi) hz,_,(r.drop (HT.sIx xs.length 0 lo)).take (HT.sIx xs.length xs.length hi - HT.sIx xs.length 0 lo),IsTup.new _ _⟩
noncomputable def rLtT (K:Fg):R2:=fun x y H Q=>∃a b ns ms,x=.ref a/\y=.ref b/\SqT K H a (ns.map V.int)/\SqT K H b (ms.map V.int)/\Q (.bl (HT.lexLt ns ms)) H
theorem zbmh (hu:X.A.units < cLine):OpR X (compareOp .Lt) (rLtT X.K):=by
 intro aU s σ H x y v u Q I rx ry h;obtain⟨a,b,ns,ms,rfl,rfl,ha,hb,q⟩:=h;cases rx;cases ry;obtain⟨its,r1,p1,_⟩:=I.tuple ha;obtain⟨its2,r2,p2,_⟩:=I.tuple hb;have i1:IntsAre its.toArray.toList ns:=zdv r1;have i2:IntsAre its2.toArray.toList ms:=zdv r2;exact HT.zlh p1 p2 i1 i2 hu ⟨.bl (HT.lexLt ns ms),H,I,rfl,q⟩
noncomputable def rCatT (K:Fg):R2:=fun x y H Q=>∃a b xs ys,x=.ref a/\y=.ref b/\SqT K H a xs/\SqT K H b ys/\xs≠[]/\xs.length+ys.length<=sizeLine /\
 (ys=[]->Q (.ref a) H)/\(ys≠[]->∀p,H p=none->Q (.ref p) (upd H p (.tup (xs++ys))))
theorem Vals.nil_iff {xs:List V}{us:List Value}(r:Vals xs us):us=[]↔xs=[]:=by
 cases r with
 | nil=>simp
 | cons _ _=>simp
theorem zbhb:OpR X (binaryOp .Add) (rCatT X.K):=by
 intro aU s σ H x y v u Q I rx ry h;obtain⟨a,b,xs,ys,rfl,rfl,ha,hb,hx,hz,q1,q2⟩:=h;cases rx;cases ry;obtain⟨its,r1,p1,_⟩:=I.tuple ha;obtain⟨its2,r2,p2,_⟩:=I.tuple hb;refine HT.zbjv p1 p2 (fun z=>hx (r1.nil_iff.mp z)) (fun z=>⟨.ref a,H,I,rfl,q1 (r2.nil_iff.mp z)⟩) (fun z=>?_) (by rw[← r1.length,← r2.length];exact hz);refine⟨.ref s.heap.objs.size,_,I.laid (t':=s.toks) (o:=.tup (xs++ys)) (fun b ob q=>xbm _ q) (xbf _) ?_,rfl,q2 (fun w=>z (r2.nil_iff.mpr w)) _ (I.hok.fresh (xbf _))⟩;exact⟨by rw[xbj];exact hz,_,r1.append r2,IsTup.new _ _⟩
end
noncomputable def ixN (n:Nat) (i:Int):Option Nat:=if 0<=i then(if i < n then some i.toNat else none) else if -(n:Int)<=i then some (i+n).toNat else none
noncomputable def atI {α:Type} (xs:List α) (i:Int):Option α:=(ixN xs.length i).bind fun j=>xs[j]?
theorem zze {n:Nat}{i:Int}{j:Nat}(h:ixN n i=some j):seqIndex? i n=some j/\j < n/\-(n:Int)<=i/\i < n:=by
 unfold ixN at h;by_cases h0:0<=i
 ·rw[if_pos h0] at h;by_cases h1:i < n
  ·rw[if_pos h1] at h;have e:i.toNat=j:=xcv h;exact⟨by rw[seqIndex_of h0 h1,e],by lia,by lia,h1⟩
  ·rw[if_neg h1] at h;cases h
 ·rw[if_neg h0] at h;by_cases h1:-(n:Int)<=i
  ·rw[if_pos h1] at h;have e:(i+n).toNat=j:=xcv h;exact⟨by rw[seqIndex_neg (by lia) h1,e],by lia,h1,by lia⟩
  ·rw[if_neg h1] at h;cases h
theorem zva {α:Type}{xs:List α}{i:Int}{v:α}(h:atI xs i=some v):∃j,seqIndex? i xs.length=some j/\xs[j]?=some v/\j < xs.length/\-(xs.length:Int)<=i/\i < xs.length:=by
 unfold atI at h;cases e:ixN xs.length i with
 | none=>rw[e] at h;cases h
 | some j =>
  rw[e] at h;obtain⟨h1,h2,h3,h4⟩:=zze e;exact⟨j,h1,h,h2,h3,h4⟩
theorem zbag {α:Type}{xs:List α}{j:Nat}{v:α}(h:xs[j]?=some v):atI xs (j:Int)=some v:=by
 have hj:j < xs.length:=(xbh.mp h).1;have e:ixN xs.length (j:Int)=some j:=by
  unfold ixN;rw[if_pos (by lia),if_pos (by lia)];simp
 unfold atI;rw[e];exact h
noncomputable def PlainIx (b:Expr):Prop:=∀o i,subscripted b false o i=operate [o,i] (getItem o i)
noncomputable def IxR (X:Cx) (r:R2):Prop :=
 ∀(value slice:Expr) (aU:List (Addr×Obj)) (s:Shared) (σ:St) (H:Hp) (x y:V) (v u:Value) (Q:VK),Inv X aU σ H s->RelV x v->RelV y u->r x y H Q ->
  subscripted slice false v u=operate [v,u] (getItem v u)->wpAny (model X.prog X.w) X.A (subscriptTail value slice v u) (EP X aU σ Q) X.xe s
noncomputable def MtR (X:Cx) (id:String) (r:V->List V->Hp->VK->Prop):Prop :=
 ∀(aU:List (Addr×Obj)) (s:Shared) (σ:St) (H:Hp) (x:V) (xs:List V) (v:Value) (us:List Value) (Q:VK),Inv X aU σ H s->RelV x v->Vals xs us->r x xs H Q ->
  wpAny (model X.prog X.w) X.A (call (.builtin id) (v::us)) (EP X aU σ Q) X.xe s
section
variable {X:Cx}{a b:Expr}{ta tb:TE}{pos:Pos}
theorem IxR.or {r r':R2}(h:IxR X r)(h':IxR X r'):IxR X (fun x y H Q=>r x y H Q\/r' x y H Q):=by
 intro value slice aU s σ H x y v u Q I rx ry q hs;rcases q with q | q
 ·exact h value slice aU s σ H x y v u Q I rx ry q hs
 ·exact h' value slice aU s σ H x y v u Q I rx ry q hs
theorem zbqt {r:R2}(hr:IxR X r)(ha:PE X a ta)(hb:PE X b tb)(hs:PlainIx b):PE X (.Subscript a b pos) (tOp r ta tb):=by
 intro aU s σ H Q I h;exact Subscript_ (binT ha hb I h fun v u s2 x y H2 I2 rx ry q=>hr a b aU s2 σ H2 x y v u Q I2 rx ry q (hs _ _))
noncomputable def rIxL (K:Fg):R2:=fun x y H Q=>∃p xs i v,x=.ref p/\y=.int i/\SqL K H p xs/\atI xs i=some v/\Q v H
noncomputable def rIxT (K:Fg):R2:=fun x y H Q=>∃p xs i v,x=.ref p/\y=.int i/\SqT K H p xs/\atI xs i=some v/\Q v H
noncomputable def rIxS:R2:=fun x y H Q=>∃z i c,x=.str z/\y=.int i/\z.length<=sizeLine/\atI z.cps.toList i=some c/\Q (.str ⟨#[c]⟩) H
theorem zbhy:IxR X (rIxL X.K):=by
 intro value slice aU s σ H x y v u Q I rx ry h hs;obtain⟨p,xs,i,z,rfl,rfl,hq,he,q⟩:=h;cases rx;obtain⟨t,rfl⟩:=ry;obtain⟨its,r,pl,hz⟩:=I.list hq;obtain⟨j,h1,h2,h3,h4,h5⟩:=zva he;obtain⟨w,ew,rw'⟩:=r.get h2;have hl:=r.length;have hn:=line63;have fin:EP X aU σ Q w s:=⟨z,H,I,rw',q⟩
 by_cases h0:0<=i
 ·have hj:i.toNat=j:=by
   rw[seqIndex_of h0 h5] at h1;exact xcv h1
  exact item_listR pl.isList h0 (by lia) (by rw[hj];simpa using ew) fin hs
 ·have hj:(i+(its.toArray.size:Int)).toNat=j:=by
   rw[seqIndex_neg (by lia) h4] at h1;rw[xbs,← hl];exact xcv h1
  exact subscriptTail_builtinR (x:=w) pl.isList.typeIs slot_list_getitem.lookup
   (wpAny_getItem_list_neg (Q:=fun r s'=>r=w/\EP X aU σ Q r s') pl.isList (by lia) (by rw[xbs]<;>lia) (by lia) (by rw[hj];simpa using ew) ⟨rfl,fin⟩) hs
theorem zbna:IxR X (rIxT X.K):=by
 intro value slice aU s σ H x y v u Q I rx ry h hs;obtain⟨p,xs,i,z,rfl,rfl,hq,he,q⟩:=h;cases rx;obtain⟨t,rfl⟩:=ry;obtain⟨its,r,pl,hz⟩:=I.tuple hq;obtain⟨j,h1,h2,h3,h4,h5⟩:=zva he;obtain⟨w,ew,rw'⟩:=r.get h2;have hl:=r.length;have hn:=line63;have fin:EP X aU σ Q w s:=⟨z,H,I,rw',q⟩
 exact subscriptTail_builtinR (x:=w) pl.typeIs xjt.lookup
  (getItem_tuple (j:=j) (Q:=fun r s'=>r=w/\EP X aU σ Q r s') pl (by lia) (by lia) (by rw[xbs,← hl];exact h1) (by simpa using ew) ⟨rfl,fin⟩) hs
theorem zbnb:IxR X rIxS:=by
 intro value slice aU s σ H x y v u Q I rx ry h hs;obtain⟨z,i,c,rfl,rfl,hz,he,q⟩:=h;obtain⟨t,rfl⟩:=rx;obtain⟨t',rfl⟩:=ry;obtain⟨j,h1,h2,h3,h4,h5⟩:=zva he;have hl:z.cps.toList.length=z.length:=by simp[Str.length]
 rw[hl] at h1 h4 h5;have hn:=line63
 exact tail_any (typeIs_str s z t) slot_str_getitem.lookup (getItem_str (c:=c) (by
  have e1:decide (i < -(2 ^ 63:Int))=false:=xcb (by lia);have e2:decide (i ≥ 2 ^ 63)=false:=xcb (by lia)
  rw[e1,e2,Bool.or_false]) (by rw[h1];simpa using h2) ⟨.str ⟨#[c]⟩,H,I.tok _,⟨_,rfl⟩,q⟩) hs
noncomputable def rIx (K:Fg):R2:=fun x y H Q=>rIxL K x y H Q\/rIxT K x y H Q\/rIxS x y H Q
theorem zbnc:IxR X (rIx X.K):=zbhy.or (zbna.or zbnb)
theorem ztk (its:List Value)(n j:Nat)(u:Value):Obj.mapSeq (·.setIfInBounds j u) { cls:=.type "list", data:=.seq its.toArray n }={ cls:=.type "list", data:=.seq (its.set j u).toArray n }:=by
 simp[Obj.mapSeq]
theorem Inv.lst {aU:List (Addr×Obj)}{σ:St}{H:Hp}{s:Shared}{p:Addr}{xs:List V}(I:Inv X aU σ H s)(h:H p=some (.lst xs)) :
  ∃(its:List Value) (n:Nat), Vals xs its/\s.heap.get? p=some { cls:=.type "list", data:=.seq its.toArray n }/\xs.length<=sizeLine:=by
 obtain⟨z,its,n,r,e⟩:=I.hok p _ h;exact⟨its,n,r,e,z⟩
theorem Inv.lstUpd {aU:List (Addr×Obj)}{σ:St}{H:Hp}{s:Shared}{p:Addr}{xs ys:List V}{its its':List Value}{n n':Nat}{f:Obj->Obj}(I:Inv X aU σ H s)(h:H p=some (.lst xs))
  (ho:s.heap.get? p=some { cls:=.type "list", data:=.seq its.toArray n })(hf:f { cls:=.type "list", data:=.seq its.toArray n }={ cls:=.type "list", data:=.seq its'.toArray n' })(r:Vals ys its')(hz:ys.length<=sizeLine)(t:Nat) :
  Inv X aU σ (upd H p (.lst ys)) {s with heap:=s.heap.update p f,toks:=t}:=by
 have e:(s.heap.update p f).get? p=some { cls:=.type "list", data:=.seq its'.toArray n' }:=by
  rw[xfn f ho (by rw[hf]<;>rfl),hf]
 refine I.write (x:=p) (e:=p) (by rw[h];trivial) (.inl rfl) (fun b u hb q=>(Heap.get?_update_other _ _ (xem hb)).trans q) ⟨_,e⟩ ?_;exact⟨hz,its',n',r,e⟩
noncomputable def rSetL:V->V->V->Hp->(Hp->Prop)->Prop:=fun o i v H Q=>∃p xs k j,o=.ref p/\i=.int k/\H p=some (.lst xs)/\ixN xs.length k=some j/\Q (upd H p (.lst (xs.set j v)))
theorem zbau:PSet X rSetL:=by
 intro aU s σ H o i v ov iv u Q I ro ri rv h;obtain⟨p,xs,k,j,rfl,rfl,hp,hj,q⟩:=h;cases ro;obtain⟨t,rfl⟩:=ri;obtain⟨its,n,r,ho,hz⟩:=I.lst hp;obtain⟨h1,h2,h3,h4⟩:=zze hj;have hl:=r.length;have hn:=line63;have I':Inv X aU σ (upd H p (.lst (xs.set j v))) {s with heap:=s.heap.update p (Obj.mapSeq (·.setIfInBounds j u))} :=
  I.lstUpd hp ho (ztk its n j u) (r.set rv j) (by rw[xfa];exact hz) s.toks
 by_cases h0:0<=k
 ·have hk:k.toNat=j:=by
   rw[seqIndex_of h0 h4] at h1;exact xcv h1
  exact W.ki_setAt ho h0 (by lia) (by rw[xbs,← hl];exact h4) (by rw[hk];exact⟨_,I',q⟩)
 ·have hk:(k+(its.toArray.size:Int)).toNat=j:=by
   rw[seqIndex_neg (by lia) h3] at h1;rw[xbs,← hl];exact xcv h1
  exact W.ki_setBack ho (by lia) (by rw[xbs,← hl];exact h3) (by lia) (by rw[hk];exact⟨_,I',q⟩)
theorem zmk (lo hi:Option Int)(n:Nat):(sliceBounds lo hi none n).1=((HT.sIx n 0 lo:Nat):Int)/\(sliceBounds lo hi none n).2.1=((HT.sIx n n hi:Nat):Int)/\(sliceBounds lo hi none n).2.2=1:=by
 refine⟨?_,?_,rfl⟩
 ·cases lo with
  | none=>simp[sliceBounds,HT.sIx]
  | some i =>
   simp only[sliceBounds,HT.sIx,xmm,show(1:Int) > 0 by decide,xeu];by_cases h:i < 0
   ·simp only[h,xeu]<;>lia
   ·simp only[h,xdx]<;>lia
 ·cases hi with
  | none=>simp[sliceBounds,HT.sIx]
  | some i =>
   simp only[sliceBounds,HT.sIx,xmm,show(1:Int) > 0 by decide,xeu];by_cases h:i < 0
   ·simp only[h,xeu]<;>lia
   ·simp only[h,xdx]<;>lia
theorem zkv (its:List Value)(lo hi:Option Int):slicePick its.toArray lo hi none=((its.drop (HT.sIx its.length 0 lo)).take (HT.sIx its.length its.length hi - HT.sIx its.length 0 lo)).toArray:=by
 obtain⟨h1,h2,h3⟩:=zmk lo hi its.toArray.size;unfold slicePick;rw[h1,h2,h3];simp only[sliceRange_one,pick_run,xbs]<;>rfl
noncomputable def rSlL (K:Fg):V->Option Int->Option Int->Hp->VK->Prop:=fun x lo hi H Q=>∃a xs,x=.ref a/\SqL K H a xs/\∀p,H p=none->Q (.ref p) (upd H p (.lst (cutV xs lo hi)))
theorem zbfp:SlR X (rSlL X.K):=by
 intro aU s σ H x v vl vu lo hi sl Q I rx hs pl pu h;obtain⟨a,xs,rfl,hx,q⟩:=h;cases rx;obtain⟨its,r,ht,hz⟩:=I.list hx;have hlen:=r.length;refine⟨"list", _, slot_list_getitem.lookup, ht.isList.typeIs, ?_⟩
 refine wpAny_getItem_list_slice ht.isList hs pl pu .none (by simp) ?_ (by rw[xbs]<;>lia);rw[zkv,← hlen];refine⟨.ref s.heap.objs.size,_,I.laid (t':=s.toks) (o:=.lst (cutV xs lo hi)) (fun b ob q=>xbm _ q) (xbf _) ?_,rfl,q _ (I.hok.fresh (xbf _))⟩;exact⟨xbc (zjb xs lo hi) hz,_,0,(r.drop (HT.sIx xs.length 0 lo)).take (HT.sIx xs.length xs.length hi - HT.sIx xs.length 0 lo),xce _ rfl⟩
theorem zbi:CallR X (.builtin "len") (fun xs H Q=>∃ p ys, xs=[.ref p]/\(SqL X.K H p ys\/SqT X.K H p ys)/\Q (.int ys.length) H):=by
 intro aU s σ H xs us Q I r h;obtain⟨p,ys,rfl,hq,q⟩:=h;obtain⟨u,rfl,rx⟩:=vals1 r;cases rx;have hn:=line63;rcases hq with hq | hq
 ·obtain⟨its,r',pl,hz⟩:=I.list hq;have hlen:=r'.length;exact Calls.call_len_list pl.isList (by simp only[xbs]<;>lia) ⟨.int ys.length,H,I.tok _,⟨s.toks+1,by rw[xbs,hlen]⟩,q⟩
 ·obtain⟨its,r',pl,hz⟩:=I.tuple hq;have hlen:=r'.length;exact len_tuple pl (by simp only[xbs]<;>lia) ⟨.int ys.length,H,I.tok _,⟨s.toks+1,by rw[xbs,hlen]⟩,q⟩
theorem CallR.or {f:Value}{r r':List V->Hp->VK->Prop}(h:CallR X f r)(h':CallR X f r'):CallR X f (fun xs H Q=>r xs H Q\/r' xs H Q):=by
 intro aU s σ H xs us Q I rs q;rcases q with q | q
 ·exact h aU s σ H xs us Q I rs q
 ·exact h' aU s σ H xs us Q I rs q
theorem zbk:CallR X (.type "tuple") (fun xs H Q=>∃ p ys, xs=[.ref p]/\((SqL X.K H p ys/\∀ l, H l=none->Q (.ref l) (upd H l (.tup ys)))\/(SqT X.K H p ys/\Q (.ref p) H))):=by
 intro aU s σ H xs us Q I r h;obtain⟨p,ys,rfl,h⟩:=h;obtain⟨u,rfl,rx⟩:=vals1 r;cases rx;rcases h with⟨hq,q⟩ | ⟨hq,q⟩
 ·obtain⟨its,r',pl,hz⟩:=I.list hq;have hlen:=r'.length;refine call_tuple_list pl.isList (fun h' kp=>?_) (by simp only[xbs]<;>lia);have I1:Inv X aU σ H {s with heap:=h'}:=I.kept (t':=s.toks) kp;have I2:Inv X aU σ (upd H h'.objs.size (.tup ys)) { s with heap:=h'.push { cls:=.type "tuple", data:=.seq its.toArray } } :=
   I1.laid (t':=s.toks) (fun b o e=>xbm _ e) (xbf _) (show ObjOk X.prog X.w _ _ _ (.tup ys) from⟨hz,its,r',IsTup.new _ _⟩)
  exact⟨.ref h'.objs.size,_,I2,rfl,q _ (I1.hok.fresh (xbf _))⟩
 ·obtain⟨its,r',pl,hz⟩:=I.tuple hq;exact call_tuple_same pl ⟨.ref p,H,I,rfl,q⟩
noncomputable def tyV (K:Fg) (T:String) (x:V) (H:Hp):Prop:=match x with
 | .str _=>T="str"
 | .int _=>T="int"
 | .ref p=>(T="list"/\∃ xs, SqL K H p xs)\/(T="tuple"/\∃ o, K.lookup p=some o/\o.cls=.type "tuple"/\o.dict=none) \/
  (T="dict"/\((∃ kvs, H p=some (.dK kvs))\/∃ kvs, H p=some (.dT kvs)))\/(T="set"/\∃ S n, H p=some (.set S n))
 | _=>False
theorem zbfj {aU:List (Addr×Obj)}{σ:St}{H:Hp}{s:Shared}{T:String}{x:V}{v:Value}(I:Inv X aU σ H s)(r:RelV x v)(ty:tyV X.K T x H) :
  s.TypeIs v T/\∀a,v=.ref a->∃ob,s.heap.get? a=some ob/\ob.dict=none:=by
 cases x with
 | str z =>
  obtain⟨t,rfl⟩:=r;cases(show T="str" from ty)
  exact⟨typeIs_str s z t,fun _ e=>nomatch e⟩
 | int i =>
  obtain⟨t,rfl⟩:=r;cases(show T="int" from ty)
  exact⟨typeIs_int s i t,fun _ e=>nomatch e⟩
 | ref p =>
  cases r;rcases ty with⟨rfl,xs,hq⟩ | ⟨rfl,o,hk,hc,hd⟩ | ⟨rfl,hk⟩ | ⟨rfl,S,n,hk⟩
  ·obtain⟨its,_,pl,_⟩:=I.list hq;refine⟨pl.isList.typeIs,fun a e=>?_⟩;cases e;obtain⟨o,n,e,c,hd,_⟩:=pl;exact⟨o,e,hd⟩
  ·refine⟨⟨o,I.kIn p o hk,hc⟩,fun a e=>?_⟩;cases e;exact⟨o,I.kIn _ o hk,hd⟩
  ·have z:∃o,s.heap.get? p=some o/\o.ExactDict:=by
    rcases hk with⟨kvs,hk⟩ | ⟨kvs,hk⟩
    ·obtain⟨_,_,_,_,o,_,_,e,ex,_⟩:=I.hok p _ hk;exact⟨o,e,ex⟩
    ·obtain⟨_,_,_,_,o,_,_,e,ex,_⟩:=I.hok p _ hk;exact⟨o,e,ex⟩
   obtain⟨o,e,ex⟩:=z;refine⟨⟨o,e,ex.1⟩,fun a e2=>?_⟩;cases e2;exact⟨o,e,ex.2.1⟩
  ·obtain⟨o,_,_,_,e,ex,_⟩:=I.hok p _ hk;refine⟨⟨o,e,ex.1⟩,fun a e2=>?_⟩;cases e2;exact⟨o,e,ex.2.1⟩
 | _=>exact False.elim ty
noncomputable def tBM0 (K:Fg) (T:String) (r:V->List V->Hp->VK->Prop) (to:TE):TE:=fun σ H Q=>to σ H fun x H1=>tyV K T x H1/\r x [] H1 Q
noncomputable def tBM (K:Fg) (T:String) (r:V->List V->Hp->VK->Prop) (to:TE) (t:TA):TE:=fun σ H Q=>to σ H fun x H1=>tyV K T x H1/\t σ H1 fun xs H2=>r x xs H2 Q
variable {o e:Expr}{es:List Expr}{to:TE}{t:TA}{name:Str}{apos cpos:Pos}{T id:String}{r:V->List V->Hp->VK->Prop}
theorem zbmb (pa:PlainAttrs T)(slot:Slot T name id)(hty:typeOf (.builtin id)=pure (.type "method_descriptor"))(hm:MtR X id r)(ho:PE X o to)
  (hbase:attributeBase o name X.env (eval o X.env)=eval o X.env:=by rfl)(hline:(apos.endLine==cpos.line)=true:=by rfl):PE X (.Call (.Attribute o name apos) [] [] cpos) (tBM0 X.K T r to):=by
 intro aU s σ H Q I h;refine wpAny_Call_method0_late hbase hline (thn (ho aU s σ H _ I h) fun v s1 hq0=>?_);obtain⟨x,H1,I1,r1,ty,q1⟩:=hq0;obtain⟨h1,h2⟩:=zbfj I1 r1 ty;exact⟨T,id,pa,slot,hty,h1,h2,xik rfl (PySem.evalArgs_none (hm aU s1 σ H1 x [] v [] Q I1 r1 .nil q1))⟩
theorem zbmc (pa:PlainAttrs T)(slot:Slot T name id)(hty:typeOf (.builtin id)=pure (.type "method_descriptor"))(hm:MtR X id r)(ho:PE X o to)(ha:PA X (e::es) t)
  (hbase:attributeBase o name X.env (eval o X.env)=eval o X.env:=by rfl)
  (hfew:((backTo cpos (starEach (e::es) X.env)).all (fun x=>!x.1)&&(backToKw cpos (keywordEach [] X.env)).all (fun x=>x.1.isSome)
   && decide ((e::es).length+([]:List Keyword).length+(if([]:List Keyword).isEmpty then 0 else 1) < 30))=true:=by rfl)
  (hline:(apos.endLine==cpos.line)=true:=by rfl)(hs:starEach (e::es) X.env=(false,eval e X.env)::starEach es X.env:=by rfl)(hplain:(backTo cpos (starEach es X.env)).any (·.1)=false:=by rfl) :
  PE X (.Call (.Attribute o name apos) (e::es) [] cpos) (tBM X.K T r to t):=by
 intro aU s σ H Q I h;refine wpAny_Call_method_late hbase hfew hline rfl (thn (ho aU s σ H _ I h) fun v s1 hq0=>?_);obtain⟨x,H1,I1,r1,ty,q1⟩:=hq0;obtain⟨h1,h2⟩:=zbfj I1 r1 ty;refine⟨T,id,pa,slot,hty,h1,h2,?_⟩;have hA:=ha cpos aU s1 σ H1 _ I1 q1;rw[hs] at hA ⊢;refine xik (by show(false||(backTo cpos (starEach es X.env)).any (·.1))=false;rw[hplain]<;>rfl) (xkx ?_);exact thn hA fun us s2 ⟨vs,H2,I2,r2,q2⟩=>hm aU s2 σ H2 x vs v us Q I2 r1 r2 q2
/- xs.append(e),list.index on a module's tuple .. are MtR facts of 06m -/
end
noncomputable def MtM (X:Cx) (id:String) (r:V->List V->Hp->VK->Prop):Prop :=
 ∀(aU:List (Addr×Obj)) (s:Shared) (σ:St) (H:Hp) (x:V) (xs:List V) (v:Value) (us:List Value) (Q:VK),Inv X aU σ H s->RelV x v->Vals xs us->r x xs H Q ->
  wpAny (model X.prog X.w) X.A (call (.builtin id) (v::us)) (EP X aU σ Q) X.xe s
theorem Vals.one:∀{x:V} {us:List Value},Vals [x] us->∃u,us=[u]/\RelV x u
 | _,_,.cons r .nil=>⟨_,rfl,r⟩
section
variable {X:Cx}{aU:List (Addr×Obj)}{σ:St}{H:Hp}{s:Shared}{l b:Addr}{xs ys zs:List V}
theorem Inv.lset {its its':List Value}{n:Nat}{f:Array Value->Array Value}{t':Nat}(I:Inv X aU σ H s)(hH:H l=some (.lst xs))
  (e:s.heap.get? l=some { cls:=.type "list", data:=.seq its.toArray n })(hf:f its.toArray=its'.toArray)(hv:Vals ys its')(hz:ys.length<=sizeLine) :
  Inv X aU σ (upd H l (.lst ys)) {s with heap:=s.heap.update l (Obj.mapSeq f),toks:=t'}:=by
 have q:=PySem.IsL.update e f;rw[hf] at q;refine I.write (x:=l) (e:=l) (by rw[hH];exact trivial) (.inl rfl) (fun b' u hb hu=>(Heap.get?_update_other s.heap (Obj.mapSeq f) (xem hb)).trans hu) ⟨_,q⟩ ?_;exact⟨hz,its',_,hv,q⟩
theorem Inv.lnew {its:List Value}{t':Nat}(I:Inv X aU σ H s)(hv:Vals ys its)(hz:ys.length<=sizeLine) :
  Inv X aU σ (upd H s.heap.objs.size (.lst ys)) { s with heap:=s.heap.push { cls:=.type "list", data:=.seq its.toArray }, toks:=t' } :=
 I.laid (fun _ _ q=>xbm _ q) (xbf _) ⟨hz,its,0,hv,xce _ rfl⟩
theorem Inv.fresh (I:Inv X aU σ H s):H s.heap.objs.size=none:=I.hok.fresh (xbf _)
theorem Inv.lstM (I:Inv X aU σ H s)(hH:H l=some (.lst xs)):xs.length<=sizeLine/\∃(its:List Value) (n:Nat), Vals xs its/\xs.length=its.length/\s.heap.get? l=some { cls:=.type "list", data:=.seq its.toArray n }:=by
 obtain⟨z,its,n,r,e⟩:=I.hok l _ hH;exact⟨z,its,n,r,r.length,e⟩
theorem notLongL {n:Nat}(h:n<=sizeLine):Builtin.List.listTooLong n=false:=by
 unfold Builtin.List.listTooLong;exact xcb (by lia)
end
section
variable {X:Cx}
noncomputable def rAppend:V->List V->Hp->VK->Prop:=fun x vs H Q=>∃l xs y,x=.ref l/\vs=[y]/\H l=some (.lst xs)/\xs.length < sizeLine/\Q .non (upd H l (.lst (xs++[y])))
theorem zot:MtM X "list.append" rAppend:=by
 intro aU s σ H x vs v us Q I rx rv h;obtain⟨l,xs,y,rfl,rfl,hH,hz,q⟩:=h;cases rx;obtain⟨u,rfl,ru⟩:=rv.one;obtain⟨z,its,n,r,hl,e⟩:=I.lstM hH;refine call_meets F.slot_list_append ⟨_,e,rfl⟩ F.entry_list_append (F.args_list_append_2 _ _) (PySem.list_append l its.toArray n u (by rw[xbs];lia)) ⟨e,?_⟩;refine⟨.non,_,I.lset (its':=its++[u]) hH e (by simp) (r.append (.cons ru .nil)) ?_,rfl,q⟩;rw[xbj,xks];lia
noncomputable def rExtend:V->List V->Hp->VK->Prop:=fun x vs H Q=>∃l b xs zs,x=.ref l/\vs=[.ref b]/\H l=some (.lst xs)/\H b=some (.lst zs)/\xs.length+zs.length<=sizeLine/\Q .non (upd H l (.lst (xs++zs)))
theorem zwz:MtM X "list.extend" rExtend:=by
 intro aU s σ H x vs v us Q I rx rv h;obtain⟨l,b,xs,zs,rfl,rfl,hH,hB,hz,q⟩:=h;cases rx;obtain⟨u,rfl,ru⟩:=rv.one;cases ru;obtain⟨z,its,n,r,hl,e⟩:=I.lstM hH;obtain⟨z2,its2,n2,r2,hl2,e2⟩:=I.lstM hB;have hsz:its.toArray.size+its2.toArray.size<=sizeLine:=by rw[xbs,xbs];lia
 have hlong:¬ (!its.toArray.isEmpty&&Builtin.List.listTooLong (its.toArray.size+its2.toArray.size))=true:=by
  rw[notLongL hsz,Bool.and_false];exact xfp
 refine call_meets F.slot_list_extend ⟨_,e,rfl⟩ F.entry_list_extend (F.args_list_extend_2 _ _)
  (AutoSeq1.list_extend_list_list_0 l its.toArray n b its2.toArray n2 hlong (by rw[xbs];lia) (by lia)) ⟨e,e2,?_⟩
 refine⟨.non,_,I.lset (its':=its++its2) hH e (by simp) (r.append r2) ?_,rfl,q⟩;rw[xbj];lia
noncomputable def rCat:R2:=fun x y H Q=>∃l b xs zs,x=.ref l/\y=.ref b/\H l=some (.lst xs)/\H b=some (.lst zs)/\xs.length+zs.length<=sizeLine/\∀p,H p=none->Q (.ref p) (upd H p (.lst (xs++zs)))
theorem zbmj:OpR X (binaryOp .Add) rCat:=by
 intro aU s σ H x y v u Q I rx ry h;obtain⟨l,b,xs,zs,rfl,rfl,hH,hB,hz,q⟩:=h;cases rx;cases ry;obtain⟨z,its,n,r,hl,e⟩:=I.lstM hH;obtain⟨z2,its2,n2,r2,hl2,e2⟩:=I.lstM hB;refine PySem.P.add_list e e2 ?_ (by rw[xbs,xbs];lia);have ea:its.toArray++its2.toArray=(its++its2).toArray:=by simp
 rw[ea];exact⟨.ref _,_,I.lnew (t':=s.toks) (r.append r2) (by rw[xbj];lia),rfl,q _ I.fresh⟩
end
section
variable {prog:Program}{w:World}{A:Around}{E:Value->Shared->Prop}{s:Shared}
end
section
variable {X:Cx}
end
section
variable {κ:Type}[DecidableEq κ]
noncomputable def valV (kvs:List (κ×V)) (k:κ):Option V:=(kvs.find? fun kv=>decide (kv.1=k)).map (·.2)
noncomputable def putK (kvs:List (κ×V)) (k:κ) (v:V):List (κ×V) :=
 if(kvs.any fun kv=>decide (kv.1=k))=true then kvs.map (fun kv=>if kv.1=k then(kv.1,v) else kv) else kvs++[(k,v)]
noncomputable def dropK (kvs:List (κ×V)) (k:κ):List (κ×V):=kvs.filter fun kv=>decide (kv.1≠k)
theorem zhb {p:κ×V}{r:List (κ×V)}{k:κ}(e:p.1=k):valV (p::r) k=some p.2:=by simp[valV,xdj,e]
theorem zhc {p:κ×V}{r:List (κ×V)}{k:κ}(e:¬ p.1=k):valV (p::r) k=valV r k:=by simp[valV,xdj,e]
theorem zrm (k:κ):∀kvs:List (κ×V),(kvs.any fun kv=>decide (kv.1=k))=(valV kvs k).isSome
 | []=>rfl
 | p::r=>by
  rw[xhj];by_cases e:p.1=k
  ·simp only[zhb e,xcj e,Bool.true_or,Option.isSome_some]
  ·rw[zhc e,xcb e,Bool.false_or];exact zrm k r
theorem zgb (kvs:List (κ×V))(k:κ)(v:V):(putK kvs k v).length<=kvs.length+1:=by
 unfold putK;split
 ·rw[xbb];lia
 ·rw[xbj,xby,xkw];lia
theorem RelO.isSome_eq {o:Option V}{u:Option Value}(r:RelO o u):o.isSome=u.isSome:=by
 cases o with
 | none=>cases u with
  | none=>rfl
  | some _=>exact(show False from r).elim
 | some _=>cases u with
  | none=>exact(show False from r).elim
  | some _=>rfl
theorem RelO.getD {o:Option V}{u:Option Value}{d:V}{d':Value}(r:RelO o u)(rd:RelV d d'):RelV (o.getD d) (u.getD d'):=by
 cases o with
 | none=>cases u with
  | none=>exact rd
  | some _=>exact(show False from r).elim
 | some _=>cases u with
  | none=>exact(show False from r).elim
  | some _=>exact r
theorem KV.val {kvs:List (κ×V)}{vs:List (κ×Value)}(r:KV kvs vs)(k:κ):RelO (valV kvs k) (valueAt vs k):=by
 unfold KV at r
 induction r with
 | nil=>exact True.intro
 | @cons p q ps qs h t ih =>
  obtain⟨h1,h2⟩:=h;by_cases e:p.1=k
  ·have e':q.1=k:=h1.symm.trans e;have b:valueAt (q::qs) k=some q.2:=by simp[valueAt,xdj,e']
   rw[zhb e,b];exact h2
  ·have e':¬ q.1=k:=fun z=>e (h1.trans z)
   have b:valueAt (q::qs) k=valueAt qs k:=by simp[valueAt,xdj,e']
   rw[zhc e,b];exact ih
theorem KV.any {kvs:List (κ×V)}{vs:List (κ×Value)}(r:KV kvs vs)(k:κ):(kvs.any fun kv=>decide (kv.1=k))=vs.any fun kv=>decide (kv.1=k):=by
 unfold KV at r
 induction r with
 | nil=>rfl
 | cons h t ih=>rw[xhj,xhj,ih,h.1]
theorem KV.repl {kvs:List (κ×V)}{vs:List (κ×Value)}(r:KV kvs vs)(k:κ){y:V}{u:Value}(ry:RelV y u) :
  KV (kvs.map fun kv=>if kv.1=k then(kv.1,y) else kv) (vs.map fun kv=>if kv.1=k then(kv.1,u) else kv):=by
 unfold KV at r ⊢
 induction r with
 | nil=>exact .nil
 | @cons p q ps qs h t ih =>
  rw[xbt,xbt];refine .cons ?_ ih;obtain⟨h1,h2⟩:=h;by_cases e:p.1=k
  ·rw[if_pos e,if_pos (h1.symm.trans e)];exact⟨h1,ry⟩
  ·rw[if_neg e,if_neg (fun z=>e (h1.trans z))];exact⟨h1,h2⟩
theorem KV.put {kvs:List (κ×V)}{vs:List (κ×Value)}(r:KV kvs vs)(k:κ){y:V}{u:Value}(ry:RelV y u):KV (putK kvs k y) (stored vs k u):=by
 unfold putK stored;rw[r.any k];by_cases e:(vs.any fun kv=>decide (kv.1=k))=true
 ·rw[if_pos e,if_pos e];exact r.repl k ry
 ·rw[if_neg e,if_neg e];exact Paired.snoc r ⟨rfl,ry⟩
theorem KV.keys {kvs:List (κ×V)}{vs:List (κ×Value)}(r:KV kvs vs):kvs.map (·.1)=vs.map (·.1):=by
 unfold KV at r
 induction r with
 | nil=>rfl
 | cons h t ih=>rw[xbt,xbt,ih,h.1]
theorem KV.length {kvs:List (κ×V)}{vs:List (κ×Value)}(r:KV kvs vs):kvs.length=vs.length:=xhx r
end
theorem zbcr {P:Program}{w:World}{k:Key}{u:Value}(r:RelV (kV k) u):(mixKind P w).is k u=true:=by
 cases k with
 | inl i=>obtain⟨t,e⟩:=(show ∃t,u=Value.int i t from r);subst e;exact zqt P w i t
 | inr x=>obtain⟨t,e⟩:=(show ∃t,u=Value.str x t from r);subst e;exact zqs P w x t
theorem zox {P:Program}{w:World}:∀{ks:List Key} {us:List Value},Vals (ks.map kV) us->ItemsAre (mixKind P w) ks us
 | [],_,r=>by rw[xml] at r;cases r;exact .nil
 | k::ks,_,r=>by
  rw[xbt] at r;cases r with
  | cons h t=>exact .cons (zbcr h) (zox t)
noncomputable abbrev KT (H:Hp):List (List Key×V)->List (List Key×Addr×Value)->Prop:=Paired fun p q=>p.1=q.1/\H q.2.1=some (.tup (p.1.map kV))/\RelV p.2 q.2.2
theorem KT.val {H:Hp}{kvs:List (List Key×V)}{xs:List (List Key×Addr×Value)}(r:KT H kvs xs)(k:List Key):RelO (valV kvs k) ((atKey xs k).map (·.2)):=by
 induction r with
 | nil=>exact True.intro
 | @cons p q ps qs h t ih =>
  obtain⟨h1,_,h2⟩:=h;by_cases e:p.1=k
  ·have e':q.1=k:=h1.symm.trans e;have b:atKey (q::qs) k=some q.2:=by simp[atKey,xdj,e']
   rw[zhb e,b];exact h2
  ·have e':¬ q.1=k:=fun z=>e (h1.trans z)
   have b:atKey (q::qs) k=atKey qs k:=by simp[atKey,xdj,e']
   rw[zhc e,b];exact ih
theorem KT.repl {H:Hp}{kvs:List (List Key×V)}{xs:List (List Key×Addr×Value)}(r:KT H kvs xs)(k:List Key){y:V}{u:Value}(ry:RelV y u) :
  KT H (kvs.map fun kv=>if kv.1=k then(kv.1,y) else kv) (xs.map (putAt k u)):=by
 induction r with
 | nil=>exact .nil
 | @cons p q ps qs h t ih =>
  rw[xbt,xbt];refine .cons ?_ ih;obtain⟨h1,h2,h3⟩:=h;unfold putAt;by_cases e:p.1=k
  ·rw[if_pos e,if_pos (h1.symm.trans e)];exact⟨h1,h2,ry⟩
  ·rw[if_neg e,if_neg (fun z=>e (h1.trans z))];exact⟨h1,h2,h3⟩
theorem KT.put {H:Hp}{kvs:List (List Key×V)}{xs:List (List Key×Addr×Value)}(r:KT H kvs xs)(k:List Key){b:Addr}{y:V}{u:Value}(hb:H b=some (.tup (k.map kV)))(ry:RelV y u) :
  KT H (putK kvs k y) (storedH xs k b u):=by
 have e:(kvs.any fun kv=>decide (kv.1=k))=(atKey xs k).isSome:=by
  rw[zrm,(r.val k).isSome_eq,xmb]
 unfold putK storedH;rw[e];by_cases q:(atKey xs k).isSome=true
 ·rw[if_pos q,if_pos q];exact r.repl k ry
 ·rw[if_neg q,if_neg q];exact Paired.snoc r ⟨rfl,hb,ry⟩
theorem KT.keeps {H H':Hp}{kvs:List (List Key×V)}{xs:List (List Key×Addr×Value)}(r:KT H kvs xs)(ht:∀b ys,H b=some (.tup ys)->H' b=some (.tup ys)):KT H' kvs xs :=
 Paired.mapP r fun _ _ z=>⟨z.1,ht _ _ z.2.1,z.2.2⟩
section
variable {P:Program}{w:World}{H:Hp}{h:Heap}{a:Addr}
theorem zbpr {u:HO}(ok:HOk P w H h)(e:Rd H a u):ObjOk P w H h a u:=e.ok ok
theorem zzx {kvs:List (Key×V)}(ok:HOk P w H h)(e:Rd H a (.dK kvs)):kvs.length<=sizeLine/\(a==sysModules)=false/\∃vs,KV kvs vs/\h.DictOf (mixKind P w) a vs :=
 show ObjOk P w H h a (.dK kvs) from zbpr ok e
theorem zbqf {kvs:List (Key×V)}(ok:HOk P w H h)(e:H a=some (.dK kvs)):kvs.length<=sizeLine/\(a==sysModules)=false/\∃vs,KV kvs vs/\h.DictOf (mixKind P w) a vs:=zzx ok (.inl e)
theorem znc {ks:List Key}(ok:HOk P w H h)(e:H a=some (.tup (ks.map kV))):(tupleKind (mixKind P w)).is h ks a:=by
 obtain⟨_,its,r,o,h1,h2,n,h3⟩:=(show ObjOk P w H h a (.tup (ks.map kV)) from ok a _ e)
 exact⟨o,its.toArray,n,h1,h2,h3,by simpa using zox r⟩
theorem zbdb {kvs:List (List Key×V)}(ok:HOk P w H h)(e:Rd H a (.dT kvs)):kvs.length<=sizeLine/\(a==sysModules)=false /\
  ∃xs,KT H kvs xs/\h.DictOfH (tupleKind (mixKind P w)) a xs:=by
 obtain⟨z,y,xs,r,o,es,ep,h1,h2,h3,h4,h5⟩:=(show ObjOk P w H h a (.dT kvs) from zbpr ok e)
 refine⟨z,y,xs,r,o,es,ep,h1,h2,h3,h4,fun x hx=>?_,h5⟩;have all:∀{l:List (List Key×V)} {m:List (List Key×Addr×Value)},KT H l m->∀x∈m,(tupleKind (mixKind P w)).is h x.1 x.2.1:=by
  intro l m q
  induction q with
  | nil=>intro x hx;exact nomatch hx
  | @cons p q ps qs hq t ih =>
   intro x hx;rcases xbp.mp hx with e | hx
   ·subst e;exact znc ok (by rw[← hq.1];exact hq.2.1)
   ·exact ih x hx
 exact all r x hx
theorem zbqe {kvs:List (List Key×V)}(ok:HOk P w H h)(e:H a=some (.dT kvs)):kvs.length<=sizeLine/\(a==sysModules)=false /\
 ∃xs,KT H kvs xs/\h.DictOfH (tupleKind (mixKind P w)) a xs:=zbdb ok (.inl e)
end
noncomputable def DGet (H:Hp) (a:Addr) (y:V) (r:Option V):Prop :=
 (∃kvs k,Rd H a (.dK kvs)/\y=kV k/\r=valV kvs k)\/∃kvs k b,Rd H a (.dT kvs)/\y=.ref b/\H b=some (.tup (k.map kV))/\r=valV kvs k
noncomputable def DPut (H:Hp) (a:Addr) (y v:V) (H':Hp):Prop :=
 (∃kvs k,H a=some (.dK kvs)/\y=kV k/\kvs.length < sizeLine/\H'=upd H a (.dK (putK kvs k v))) \/
 ∃kvs k b,H a=some (.dT kvs)/\y=.ref b/\H b=some (.tup (k.map kV))/\kvs.length < sizeLine/\H'=upd H a (.dT (putK kvs k v))
theorem DPut.k {H:Hp}{a:Addr}{kvs:List (Key×V)}{k:Key}{v:V}(e:H a=some (.dK kvs))(hl:kvs.length < sizeLine):DPut H a (kV k) v (upd H a (.dK (putK kvs k v))):=.inl ⟨kvs,k,e,rfl,hl,rfl⟩
theorem DPut.t {H:Hp}{a b:Addr}{kvs:List (List Key×V)}{k:List Key}{v:V}(e:H a=some (.dT kvs))(eb:H b=some (.tup (k.map kV)))(hl:kvs.length < sizeLine) :
 DPut H a (.ref b) v (upd H a (.dT (putK kvs k v))):=.inr ⟨kvs,k,b,e,rfl,eb,hl,rfl⟩
section
variable {X:Cx}{aU:List (Addr×Obj)}{σ:St}{H:Hp}{s:Shared}{a:Addr}{y v:V}{u r:Value}{o:Option V}{A:Around}{E:Value->Shared->Prop}
theorem Inv.big (I:Inv X aU σ H s):sysModules < s.heap.objs.size:=by
 have h:mainGlobals < s.heap.objs.size:=(I.mod.glob.keeps I.bk).lt;exact xgj (by decide) h
theorem zxy {Q:Value->Shared->Prop}(hu:A.units+1 < cLine)(I:Inv X aU σ H s)(g:DGet H a y (some v))(ry:RelV y u)(h:∀w' s',Inv X aU σ H s'->RelV v w'->Q w' s') :
  wpAny (model X.prog X.w) A (getItem (.ref a) u) Q E s:=by
 rcases g with⟨kvs,k,e,ey,l⟩ | ⟨kvs,k,b,e,ey,eb,l⟩
 ·subst ey;obtain⟨z,hd,vs,rel,dd⟩:=zzx I.hok e;obtain⟨w',hw,rw'⟩:=RelO.some_of (v:=v) (o:=valueAt vs k) (by rw[l];exact rel.val k);exact wpAny_getItem_of (zbcr ry) dd.mapOf hw (h w' _ (I.tok _) rw')
 ·subst ey;cases(show u=Value.ref b from ry);obtain⟨z,hd,xs,rel,dd⟩:=zbdb I.hok e;obtain⟨w',hw,rw'⟩:=RelO.some_of (v:=v) (o:=(atKey xs k).map (·.2)) (by rw[l];exact rel.val k);obtain⟨p,hp,hp2⟩:=xdg.mp hw;refine wpAny_getItem_heap (xhc hu) (znc I.hok eb) dd hp ?_;rw[hp2];exact h w' _ (I.tok _) rw'
theorem d_in {Q:Value->Shared->Prop}(hu:A.units+1 < cLine)(I:Inv X aU σ H s)(g:DGet H a y o)(ry:RelV y u)(h:∀s',Inv X aU σ H s'->Q (.bool o.isSome) s') :
  wpAny (model X.prog X.w) A (compareOp .In u (.ref a)) Q E s:=by
 rcases g with⟨kvs,k,e,ey,l⟩ | ⟨kvs,k,b,e,ey,eb,l⟩
 ·subst ey;obtain⟨z,hd,vs,rel,dd⟩:=zzx I.hok e;refine wpAny_in_of (zbcr ry) hd dd.mapOf ?_;rw[← (rel.val k).isSome_eq,← l];exact h _ (I.tok _)
 ·subst ey;cases(show u=Value.ref b from ry);obtain⟨z,hd,xs,rel,dd⟩:=zbdb I.hok e;refine wpAny_in_heap (xhc hu) (znc I.hok eb) hd dd ?_;have q:=(rel.val k).isSome_eq;rw[xmb] at q;rw[← q,← l];exact h _ (I.tok _)
theorem zbjj {Q:Value->Shared->Prop}(hu:A.units+1 < cLine)(I:Inv X aU σ H s)(g:DGet H a y o)(ry:RelV y u)(h:∀s',Inv X aU σ H s'->Q (.bool (!o.isSome)) s') :
  wpAny (model X.prog X.w) A (compareOp .NotIn u (.ref a)) Q E s:=by
 rcases g with⟨kvs,k,e,ey,l⟩ | ⟨kvs,k,b,e,ey,eb,l⟩
 ·subst ey;obtain⟨z,hd,vs,rel,dd⟩:=zzx I.hok e;refine wpAny_notIn_of (zbcr ry) hd dd.mapOf ?_;rw[← (rel.val k).isSome_eq,← l];exact h _ (I.tok _)
 ·subst ey;cases(show u=Value.ref b from ry);obtain⟨z,hd,xs,rel,dd⟩:=zbdb I.hok e;refine wpAny_notIn_heap (xhc hu) (znc I.hok eb) hd dd ?_;have q:=(rel.val k).isSome_eq;rw[xmb] at q;rw[← q,← l];exact h _ (I.tok _)
theorem zph {h':Heap}{t':Nat}{ob:HO}(I:Inv X aU σ H s)(mu:Mut (H a))(hs:Heap.SameBut a s.heap h')(he:∃q,h'.get? a=some q)(new:ObjOk X.prog X.w (upd H a ob) h' a ob) :
  Inv X aU σ (upd H a ob) {s with heap:=h',toks:=t'} :=
 I.write (x:=a) (e:=a) mu (.inl rfl) (fun b q hb z=>(hs.2 b hb).trans z) he new
theorem zbiz {P:Program}{w:World}{H':Hp}{h':Heap}{kvs:List (Key×V)}{vs:List (Key×Value)}(z:kvs.length<=sizeLine)(hd:(a==sysModules)=false)(rel:KV kvs vs)(dd:h'.DictOf (mixKind P w) a vs) :
 ObjOk P w H' h' a (.dK kvs):=⟨z,hd,vs,rel,dd⟩
theorem zxx {H':Hp}{Q:Unit->Shared->Prop}(hu:A.units+1 < cLine)(I:Inv X aU σ H s)(g:DPut H a y v H')(ry:RelV y u)(rv:RelV v r)(h:∀s',Inv X aU σ H' s'->Q () s') :
  wpAny (model X.prog X.w) A (setItem (.ref a) u r) Q E s:=by
 rcases g with⟨kvs,k,e,ey,l,eH⟩ | ⟨kvs,k,b,e,ey,eb,l,eH⟩
 ·subst ey eH;obtain⟨z,hd,vs,rel,dd⟩:=zbqf I.hok e;have hz:vs.length<=sizeLine:=by rw[← rel.length];exact z
  have hl:(putK kvs k v).length<=sizeLine:=by have:=zgb kvs k v;lia
  refine wpAny_setItem_pairs (hsz:=hz) (zbcr ry) dd fun h' dd' hs=>h _ ?_
  have he:∃q,h'.get? a=some q:=let ⟨q,_,_,hq,_⟩:=dd';⟨q,hq⟩
  exact zph I (by rw[e];exact True.intro) hs he (zbiz hl hd (rel.put k rv) dd')
 ·subst ey eH;cases(show u=Value.ref b from ry);obtain⟨z,hd,xs,rel,dd⟩:=zbqe I.hok e;have hz:xs.length<=sizeLine:=by rw[← xhx rel];exact z
  have hl:(putK kvs k v).length<=sizeLine:=by have:=zgb kvs k v;lia
  refine wpAny_setItem_heap (hsz:=hz) (xhc hu) (znc I.hok eb) dd fun h' dd' hs=>h _ ?_
  obtain⟨q,es,ep,hq,h2,h3,h4,_,h5⟩:=dd';refine zph I (by rw[e];exact True.intro) hs ⟨q,hq⟩ ⟨hl,hd,_,(rel.put k eb rv).keeps fun c ys ec=>?_,q,es,ep,hq,h2,h3,h4,h5⟩;rw[zt (zbpy ec e (fun z=>nomatch z))];exact ec
end
section
variable {X:Cx}{aU:List (Addr×Obj)}{σ:St}{H:Hp}{s:Shared}{a:Addr}{kvs:List (Key×V)}{k:Key}{u:Value}{A:Around}{E:Value->Shared->Prop}
end
noncomputable def NoSl (i:Expr):Prop:=∀ov iv,subscripted i false ov iv=operate [ov,iv] (getItem ov iv)
theorem zbfn {prog:Program}{w:World}{A:Around}{E:Value->Shared->Prop}{s:Shared}{env:Env}{value slice:Expr}{pos:Pos}{T id:String}{Q:Value->Shared->Prop}
  (hl:typeLookup (.type T) "__getitem__"=pure (some (.builtin id)))(hs:NoSl slice)
  (h:wpAny (model prog w) A (eval value env) (fun o s₁=>wpAny (model prog w) A (eval slice env) (fun i s₂=>s₂.TypeIs o T/\wpAny (model prog w) A (getItem o i) Q E s₂) E s₁) E s) :
  wpAny (model prog w) A (eval (.Subscript value slice pos) env) Q E s:=by
 refine Subscript_ (xfe h (fun o s₁ h₁=>xfe h₁ (fun i s₂ h₂=>?_) fun _ _ x=>x) fun _ _ x=>x);obtain⟨hT,h₂⟩:=h₂;unfold subscriptTail;refine xba ?_;rw[getitemInPython_of_ne hT.not_modules];refine xba (wpAny_specialOf hT hl ?_);have fin:wpAny (model prog w) A (subscripted slice false o i) (fun r s₃=>wpAny (model prog w) A (letTemporaryGo value o r >>= fun _=>pure r) Q E s₃) E s₂:=by
  rw[hs o i];exact wpAny_operating (xfe h₂ (fun r s₃ h₃=>xba (wpAny_letTemporaryGo (xbe h₃))) fun _ _ x=>x)
 first
  | exact xbe (xba fin)
  | exact xba (xbe (xba fin))
  | exact xba fin
theorem zqy {X:Cx}{aU:List (Addr×Obj)}{σ:St}{H:Hp}{s:Shared}{a:Addr}{y:V}{o:Option V}(I:Inv X aU σ H s)(g:DGet H a y o):s.TypeIs (.ref a) "dict":=by
 rcases g with⟨kvs,k,e,_,_⟩ | ⟨kvs,k,b,e,_,_,_⟩
 ·obtain⟨_,_,vs,_,dd⟩:=zzx I.hok e;exact dd.typeIs
 ·obtain⟨_,_,xs,_,dd⟩:=zbdb I.hok e;exact dd.typeIs
noncomputable def tDGet (td ty:TE):TE:=fun σ H Q=>td σ H fun x H1=>ty σ H1 fun y H2=>∃a v,x=.ref a/\DGet H2 a y (some v)/\Q v H2
noncomputable def tDIn (ty td:TE):TE:=fun σ H Q=>ty σ H fun y H1=>td σ H1 fun x H2=>∃a o,x=.ref a/\DGet H2 a y o/\Q (.bl o.isSome) H2
noncomputable def tDNotIn (ty td:TE):TE:=fun σ H Q=>ty σ H fun y H1=>td σ H1 fun x H2=>∃a o,x=.ref a/\DGet H2 a y o/\Q (.bl (!o.isSome)) H2
noncomputable def sDPut (td ty tv:TE):TS:=fun D σ H=>tv σ H fun v H1=>td σ H1 fun x H2=>ty σ H2 fun y H3=>∃a H4,x=.ref a/\DPut H3 a y v H4/\D.nx σ H4
section
variable {X:Cx}{o i e value:Expr}{pos pos' tpos:Pos}{td ty tv:TE}
theorem zys (hu:X.A.units+1 < cLine)(ho:PE X o td)(hi:PE X i ty)(hs:NoSl i):PE X (.Subscript o i pos) (tDGet td ty):=by
 intro aU s σ H Q I h;refine zbfn F.slot_dict_getitem.lookup hs (thn (ho aU s σ H _ I h) fun u s1 ⟨x,H1,I1,rx,q1⟩=>thn (hi aU s1 σ H1 _ I1 q1) fun iv s2 hq0=>?_);obtain⟨y,H2,I2,ry,a,v,ex,g,q2⟩:=hq0;subst ex;obtain rfl:u=Value.ref a:=rx;exact⟨zqy I2 g,zxy hu I2 g ry fun w' s3 I3 rw'=>⟨v,H2,I3,rw',q2⟩⟩
theorem zbgs (hu:X.A.units+1 < cLine)(hi:PE X i ty)(ho:PE X o td):PC X .In i o (tDIn ty td):=by
 intro aU s σ H Q I h;refine thn (hi aU s σ H _ I h) fun iv s1 ⟨y,H1,I1,ry,q1⟩=>thn (ho aU s1 σ H1 _ I1 q1) fun u s2 hq0=>?_
 obtain⟨x,H2,I2,rx,a,ov,ex,g,q2⟩:=hq0;subst ex;obtain rfl:u=Value.ref a:=rx;exact d_in hu I2 g ry fun s3 I3=>⟨.bl ov.isSome,H2,I3,rfl,q2⟩
theorem zwq (hu:X.A.units+1 < cLine)(hi:PE X i ty)(ho:PE X o td):PC X .NotIn i o (tDNotIn ty td):=by
 intro aU s σ H Q I h;refine thn (hi aU s σ H _ I h) fun iv s1 ⟨y,H1,I1,ry,q1⟩=>thn (ho aU s1 σ H1 _ I1 q1) fun u s2 hq0=>?_
 obtain⟨x,H2,I2,rx,a,ov,ex,g,q2⟩:=hq0;subst ex;obtain rfl:u=Value.ref a:=rx;exact zbjj hu I2 g ry fun s3 I3=>⟨.bl (!ov.isSome),H2,I3,rfl,q2⟩
theorem zyp (hu:X.A.units+1 < cLine)(ho:PE X o td)(hi:PE X i ty)(hv:PE X value tv)(hs:swapsWith value (some (.Subscript o i pos')) pos.line X.env=pure false) :
  PS X (.Assign [.Subscript o i pos'] value pos) (sDPut td ty tv):=by
 intro aU s σ H D I h;refine wpAny_Assign_Subscript (thn (hv aU s σ H _ I h) fun r s1 ⟨v,H1,I1,rv,q1⟩=>thn (ho aU s1 σ H1 _ I1 q1) fun u s2 ⟨x,H2,I2,rx,q2⟩=>thn (hi aU s2 σ H2 _ I2 q2) fun iv s3 hq0=>?_) hs;obtain⟨y,H3,I3,ry,a,H4,ex,g,q3⟩:=hq0;subst ex;obtain rfl:u=Value.ref a:=rx;exact zxx hu I3 g ry rv fun s4 I4=>⟨σ,H4,I4,q3⟩
end
theorem zbdj {P:Program}{w:World}{H:Hp}(h:Heap)(hb:sysModules < h.objs.size):ObjOk P w H (h.push { cls:=.type "dict", data:=.dict #[] }) h.objs.size (.dK []) :=
 ⟨xea _,xfk.mpr (xem (xch hb)),[],.nil,Heap.DictOf.new h⟩
theorem zbdd {P:Program}{w:World}{H:Hp}(h:Heap)(hb:sysModules < h.objs.size):ObjOk P w H (h.push { cls:=.type "dict", data:=.dict #[] }) h.objs.size (.dT []) :=
 ⟨xea _,xfk.mpr (xem (xch hb)),[],.nil,_,#[],0,xce _ rfl,⟨rfl,rfl,rfl⟩,rfl,rfl,xgu⟩
noncomputable def tDNewK:TE:=fun _ H Q=>∀p,H p=none->Q (.ref p) (upd H p (.dK []))
noncomputable def tDNewT:TE:=fun _ H Q=>∀p,H p=none->Q (.ref p) (upd H p (.dT []))
section
variable {X:Cx}{pos:Pos}
theorem zbbr:PE X (.Dict [] [] pos) tDNewK:=fun aU s σ H Q I h =>
 wpAny_Dict_empty ⟨.ref s.heap.objs.size,_,I.laid (a:=s.heap.objs.size) (o:=.dK []) (t':=s.toks) (fun _ _ q=>xbm _ q) (xbf _) (zbdj s.heap I.big),rfl,h _ (I.hok.fresh (xbf _))⟩
theorem zbbq:PE X (.Dict [] [] pos) tDNewT:=fun aU s σ H Q I h =>
 wpAny_Dict_empty ⟨.ref s.heap.objs.size,_,I.laid (a:=s.heap.objs.size) (o:=.dT []) (t':=s.toks) (fun _ _ q=>xbm _ q) (xbf _) (zbdd s.heap I.big),rfl,h _ (I.hok.fresh (xbf _))⟩
end
structure M1 (X:Cx) (o:Expr) (m:Str) (apos:Pos) (e:Expr) (cpos:Pos):Prop where
 base:attributeBase o m X.env (eval o X.env)=eval o X.env
 few:((backTo cpos (starEach [e] X.env)).all (fun x=>!x.1)&&(backToKw cpos (keywordEach [] X.env)).all (fun x=>x.1.isSome)
  && decide (([e]:List Expr).length+([]:List Keyword).length+(if([]:List Keyword).isEmpty then 0 else 1) < 30))=true
 line:(apos.endLine==cpos.line)=true
 trees:backTo cpos (starEach [e] X.env)=[(false,eval e X.env)]
structure M2 (X:Cx) (o:Expr) (m:Str) (apos:Pos) (e f:Expr) (cpos:Pos):Prop where
 base:attributeBase o m X.env (eval o X.env)=eval o X.env
 few:((backTo cpos (starEach [e,f] X.env)).all (fun x=>!x.1)&&(backToKw cpos (keywordEach [] X.env)).all (fun x=>x.1.isSome)
  && decide (([e,f]:List Expr).length+([]:List Keyword).length+(if([]:List Keyword).isEmpty then 0 else 1) < 30))=true
 line:(apos.endLine==cpos.line)=true
 trees:backTo cpos (starEach [e,f] X.env)=[(false,eval e X.env),(false,eval f X.env)]
noncomputable def IsD (H:Hp) (a:Addr):Prop:=(∃kvs,Rd H a (.dK kvs))\/∃kvs,Rd H a (.dT kvs)
theorem zbid {X:Cx}{aU:List (Addr×Obj)}{σ:St}{H:Hp}{s:Shared}{a:Addr}(I:Inv X aU σ H s)(d:IsD H a) :
  s.TypeIs (.ref a) "dict"/\(∀ b, Value.ref a=.ref b->∃ ob, s.heap.get? b=some ob/\ob.dict=none)/\(a==sysModules)=false:=by
 rcases d with⟨kvs,e⟩ | ⟨kvs,e⟩
 ·obtain⟨_,hd,vs,_,dd⟩:=zzx I.hok e;refine⟨dd.typeIs,fun b q=>?_,hd⟩;cases q;obtain⟨ob,_,_,h1,h2,_⟩:=dd;exact⟨ob,h1,h2.2.1⟩
 ·obtain⟨_,hd,xs,_,dd⟩:=zbdb I.hok e;refine⟨dd.typeIs,fun b q=>?_,hd⟩;cases q;obtain⟨ob,_,_,h1,h2,_⟩:=dd;exact⟨ob,h1,h2.2.1⟩
section
variable {X:Cx}{aU:List (Addr×Obj)}{σ:St}{H:Hp}{s:Shared}{a:Addr}{y d:V}{u r:Value}{o:Option V}{A:Around}{E:Value->Shared->Prop}
theorem zbog {Q:Value->Shared->Prop}(hu:A.units+1 < cLine)(I:Inv X aU σ H s)(g:DGet H a y o)(ry:RelV y u)(rd:RelV d r)(h:∀w' s',Inv X aU σ H s'->RelV (o.getD d) w'->Q w' s') :
  wpAny (model X.prog X.w) A (call (.builtin "dict.get") [.ref a, u, r]) Q E s:=by
 rcases g with⟨kvs,k,e,ey,l⟩ | ⟨kvs,k,b,e,ey,eb,l⟩
 ·subst ey;obtain⟨z,hd,vs,rel,dd⟩:=zzx I.hok e;refine call_meetsIn xkt dd.typeIs F.entry_dict_get (F.args_dict_get_3 _ _ _) (meets_dict_get_default (mixKind X.prog X.w) a (zbcr ry) hd r) ⟨_,dd.mapOf,h _ _ (I.tok _) ?_⟩;rw[l];exact(rel.val k).getD rd
 ·subst ey;cases(show u=Value.ref b from ry);obtain⟨z,hd,xs,rel,dd⟩:=zbdb I.hok e;refine call_meetsIn xkt dd.typeIs F.entry_dict_get (F.args_dict_get_3 _ _ _) (meetsH_dict_get_default (tupleKind (mixKind X.prog X.w)) a b hd r) ⟨xhc hu,k,xs,znc I.hok eb,dd,h _ _ (I.tok _) ?_⟩;rw[l];exact(rel.val k).getD rd
end
noncomputable def tDGet2 (td ty tx:TE):TE:=fun σ H Q=>td σ H fun x H1=>∃a,x=.ref a/\IsD H1 a/\ty σ H1 fun y H2=>tx σ H2 fun z H3=>∃o,DGet H3 a y o/\Q (o.getD z) H3
section
variable {X:Cx}{o e f:Expr}{apos cpos:Pos}{td ty tx:TE}
theorem zbbs (hu:X.A.units + 1 < cLine)(ho:PE X o td)(he:PE X e ty)(hf:PE X f tx)(m:M2 X o "get" apos e f cpos):PE X (.Call (.Attribute o "get" apos) [e, f] [] cpos) (tDGet2 td ty tx):=by
 intro aU s σ H Q I h;refine wpAny_Call_method m.base m.few m.line xjw xkt F.type_dict_get (thn (ho aU s σ H _ I h) fun u s1 hq0=>?_);obtain⟨x,H1,I1,rx,a,ex,d,q1⟩:=hq0;subst ex;obtain rfl:u=Value.ref a:=rx;obtain⟨t1,t2,_⟩:=zbid I1 d;refine⟨t1,t2,?_⟩;rw[m.trees]
 refine xik rfl (xkx (xia (thn (he aU s1 σ H1 _ I1 q1) fun iv s2 ⟨y,H2,I2,ry,q2⟩ =>
  xia (thn (hf aU s2 σ H2 _ I2 q2) fun fv s3 ⟨z,H3,I3,rz,ov,g,q3⟩=>xkc ?_))))
 exact zbog hu I3 g ry rz fun w' s4 I4 rw'=>⟨_,H3,I4,rw',q3⟩
end
section
variable {X:Cx}{aU:List (Addr×Obj)}{σ:St}{H:Hp}{s:Shared}{a:Addr}{kvs:List (Key×V)}{A:Around}{E:Value->Shared->Prop}
end
section
variable {X:Cx}{aU:List (Addr×Obj)}{σ:St}{H:Hp}{s:Shared}{a:Addr}{y:V}{u:Value}{A:Around}{E:Value->Shared->Prop}
end
end L2
namespace Att
open PySem PySem.W PySem.Calls PyProof.Rows
theorem zil {P:Params}{h:Heap}:∀(ns:List Int) (vs:List Value),WellAll P h vs (ns.map WData.int)->IntsAre vs ns:=by
 intro ns
 induction ns with
 | nil =>
  intro vs w;rw[xml] at w;cases w;exact .nil
 | cons n ns ih =>
  intro vs w;rw[xbt] at w;cases w with
  | cons a b =>
   cases a;exact .cons _ _ (ih _ b)
theorem zwf {l:OpenLaw}{n:Nat}(hn:l.most=some n){P:Params}{h:Heap}{args:List WData}{vals:List Value}
  (hpre:l.row.toRowW.claim.pre args=true)(hwl:WellAll P h vals args) :
  ∃ a vs ns, vals=[Value.ref a]/\args=[WData.list (ns.map WData.int)]/\h.get? a=some { cls:=.type "list", data:=.seq vs.toArray }/\IntsAre vs ns/\ns.length<=n:=by
 have hsh:WShape.hasAll [] args [.list .int]=true:=(pre_splitW hpre).1;have hc:l.pre.holds [] {args:=args}=true:=(pre_splitW hpre).2;obtain⟨d,r,rfl,h1,h2⟩:=hasAllW_cons hsh;obtain rfl:=hasAllW_nil h2;obtain⟨xs,rfl,h3⟩:=hasW_list h1;obtain⟨ns,rfl⟩:=items_int h3;have hlen:ns.length<=n:=by
  unfold OpenLaw.pre at hc;have h4:(WTm.not (.lt (.lit (.int (n:Int))) (.len (.arg 0)))).holds [] {args:=[.list (ns.map .int)]}=true:=by
   have h4:=(holds_andW hc).1;rw[hn] at h4;exact h4
  have h5:=condW_of h4 (w_not (w_lt w_lit (w_len_list (w_arg rfl))));rw[xbb] at h5;refine xci fun q=>?_
  have q':(n:Int) < ((ns.length:Nat):Int):=by lia
  first
   | (rw[xcj q'] at h5;exact absurd h5 (by decide))
   | (simp at h5;lia)
 cases hwl with
 | cons w1 w2 =>
  cases w2;cases w1 with
  | list ho hall=>exact⟨_,_,ns,rfl,rfl,ho,zil ns _ hall,hlen⟩
theorem zwm (l:OpenLaw)(args:List WData):l.row.toRowW.claim.post args (.bool true) args=true :=
 postW_of (r:=l.row.toRowW) (X:=(true==true))
  (show WShape.has [] (.bool true) .bool=true by first | rfl | decide | simp[WShape.has,WShape.arms,WShape.armsAll])
  (show(WTm.eq .res (.lit (.bool true))).value [] {args:=args,res:=some (.bool true),after:=args}=some (.bool (true==true)) from w_eq_bool (w_res rfl) w_lit) rfl
theorem attach_call {l:OpenLaw}{n:Nat}{q:Program}{loose:List Str}{XP:(Str->Option Value)->Heap->Prop}{YP:World->Heap->Prop}{d:DefRec}
  (hn:l.most=some n)(hdf:d.params.defaults=[])
  (call:∀(w:World) (s₀ s₁:Shared) (mg mb:Str->Option Value) (fa:Addr) (o:Obj) (pm cd doc:Value) (a:Addr) (vs:List Value) (ns:List Int),
   Ground q loose [] XP w s₀ mg mb s₁.heap->YP w s₁.heap ->
   s₁.heap.get? fa=some o->o.data=.func (docDef d.name d.params d.body d.scope pm cd doc)->s₁.heap.CodeRec cd d.name->mg d.name=some (.ref fa) ->
   s₁.heap.get? a=some { cls:=.type "list", data:=.seq vs.toArray }->IntsAre vs ns->ns.length<=n->s₁.gens=#[] ->
   codeAny (model l.prog w) callerA (.call (.ref fa) ⟨[.ref a],[]⟩) (fun r s'=>r=.ok (.ret (.bool true))/\OldK s₁.heap s'.heap/\s'.os=s₁.os/\AllBare s'.gens) s₁) :
  WalkO q loose XP YP l.row.toRowW d [] (fun f vs=>PySem.call f vs):=by
 intro w s₀ s₁ mg mb G Y fa o pm cd doc dV kV ho hd hcd hD hmg hg args vals as hpre hlay hrd hwl hlo;obtain rfl:dV=.none:=Dflts.none hD hdf;obtain rfl:kV=.none:=Dflts.noKw hD;obtain⟨a,vs,ns,rfl,rfl,hobj,hints,hlen⟩:=zwf hn hpre hwl;refine enter_call (xlg (call w s₀ s₁ mg mb fa o pm cd doc a vs ns G Y ho (fd_plain hd) hcd hmg hobj hints hlen hg) fun r s' hq=>?_);obtain⟨rfl,h2,h3,h4⟩:=hq;exact⟨.inl ⟨.bool true,.bool true,[],rfl,fun _=>rfl,.bool true,zwm l _,fun _=>⟨List.Pairwise.nil,fun _ hm=>(nomatch hm)⟩⟩,h2,h3,h4⟩
section
variable {prog:Program}{w:World}{A:Around}{E:Value->Shared->Prop}{s:Shared}{K:Frag}
end
end Att
namespace L2
open PySem PySem.Spec PyProof.Rows
theorem zoc:∀{vs:List Value} {ns:List Int},IntsAre vs ns->Vals (ns.map V.int) vs
 | _,_,.nil=>.nil
 | _,_,.cons n t h=>.cons ⟨t,rfl⟩ (zoc h)
noncomputable def Only (H:Hp):Prop:=∀b,H b=none\/∃o xs,H b=some (.frz o (.lst xs))
theorem zbcl {P:Program}{w:World}{K:Fg}{mg mb:Str->Option Value}{CX:CXT}{k:Nat}{fa a:Addr}{fd:FuncData}{x:Str}{sp:Sp}{s₁:Shared}{vs:List Value}{ns:List Int}
  (KX:K.In s₁.heap)(hns:s₁.heap.Ns mainGlobals mg)(hb:s₁.heap.Ns builtinsNs mb)(hbb:∀ x:Str, x≠"__name__"->mb x=bootBuiltins x)(hlim:s₁.heap.NoLimit)(hg:s₁.gens=#[])
  (ha:s₁.heap.get? a=some { cls:=.type "list", data:=.seq vs.toArray })(hi:IntsAre vs ns)(hl:ns.length<=sizeLine)(hr:Room k callerA)
  (F:∀base:Heap,K.In base->base.Ns mainGlobals mg->FnOk P w K mg base CX k fa fd [x] sp)(hbind:∀(s:Shared) (u:Value),BindsTo s fd ⟨[u],[]⟩ [(x,u)])
  (hsp:∀H:Hp,Only H->SqL K H a (ns.map V.int)->sp [.ref a] H (fun v _=>v=.bl true) fun _ _ _=>False)
  (hCX:∀H e s',CX [] H s₁ (fun _ _ _=>False) e s'->False) :
  codeAny (model P w) callerA (.call (.ref fa) ⟨[.ref a],[]⟩) (fun r s'=>r=.ok (.ret (.bool true))/\OldK s₁.heap s'.heap/\s'.os=s₁.os/\AllBare s'.gens) s₁:=by
 have rv:=zoc hi;have lenV:=hi.length;have core:∀H:Hp,Only H->SqL K H a (ns.map V.int)->HOk P w H s₁.heap->(∀b,H b≠none->b=a)->(H a≠none->K.lookup a=none) ->
   codeAny (model P w) callerA (.call (.ref fa) ⟨[.ref a],[]⟩) (fun r s'=>r=.ok (.ret (.bool true))/\OldK s₁.heap s'.heap/\s'.os=s₁.os/\AllBare s'.gens) s₁:=by
  intro H hO hS hok hA hK;have base_of:∀{b:Addr} {o:Obj},s₁.heap.get? b=some o->H b=none->(hidT s₁.heap H).get? b=some o:=fun e n=>zbcw e n
  have noA:∀{b:Addr} {o:Obj} {es:Array DictEntry} {ep:Nat},s₁.heap.get? b=some o->o.data=.dict es ep->H b=none:=fun {b o es ep} e d=>by
   cases q:H b with
   | none=>rfl
   | some u =>
    have e':b=a:=hA b (by rw[q];simp);subst e';rw[ha] at e;cases e
    have d':Data.seq vs.toArray _=Data.dict es ep:=d;cases d'
  have nsK:∀{b:Addr} {m:Str->Option Value},s₁.heap.Ns b m->(hidT s₁.heap H).Ns b m:=fun {b m} ⟨o,es,ep,e,d,r⟩=>⟨o,es,ep,base_of e (noA e d),d,r⟩
  have hKb:K.In (hidT s₁.heap H):=fun b o e=>base_of (KX b o e) (by
   cases q:H b with
   | none=>rfl
   | some u =>
    have e':b=a:=hA b (by rw[q];simp);subst e'
    rw[hK (by rw[q];simp)] at e;cases e)
  have hM:Mod K mg (hidT s₁.heap H):=⟨hKb,nsK hns,⟨mb,nsK hb,hbb⟩,let ⟨mc,h1,h2⟩:=hlim;⟨mc,nsK h1,h2⟩⟩
  have e0:Env0 P w K mg (hidT s₁.heap H) callerA [] s₁ H:=⟨rfl,hM,fun b o e=>zbhf e,xdh (zxp _ _),trivial,fun b hb=>absurd (show b∈([]:List Addr) from hb) (by simp),hok,.of_eq hg⟩
  refine xlg ((F _ hKb (nsK hns)).run callerA [] s₁ H ⟨[.ref a],[]⟩ [.ref a] [.ref a] _ _ hr e0 (hbind s₁ (.ref a)) (.cons rfl .nil) (hsp H hO hS)) fun r s' h=>?_
  cases r with
  | error e=>exact(hCX H e s' h).elim
  | ok fl =>
   cases fl with
   | next=>exact False.elim h
   | brk=>exact False.elim h
   | cont=>exact False.elim h
   | ret u =>
    obtain⟨v,H',os,bare,un,hok',r',q⟩:=h;have q':v=.bl true:=q;subst q';obtain rfl:u=Value.bool true:=r';refine⟨rfl,OldK.of_keep fun b o e=>?_,os,bare⟩;cases q:H b with
    | none=>exact un.keep b o e q (by intro z;exact absurd (show b∈([]:List Addr) from z) (by simp)) (by simp)
    | some u =>
     rcases hO b with z | ⟨ob,xs,z⟩
     ·rw[q] at z;cases z
     ·have z2:=un.frzs b ob _ z;obtain⟨e1,_⟩:=hok b _ z;obtain⟨e2,_⟩:=hok' b _ z2;rw[e] at e1;cases e1
      exact e2
 cases hk:K.lookup a with
 | some o =>
  have e:=KX a o hk;rw[ha] at e;cases e;refine core (fun _=>none) (fun _=>.inl rfl) (.inr ⟨_,vs.toArray,_,hk,rfl,rfl,rfl,by rw[xbs,lenV];exact hl,by simpa using rv⟩) (fun b u z=>by have z':(none:Option HO)=some u:=z;cases z') (fun b z=>absurd rfl z) fun z=>absurd rfl z
 | none =>
  refine core (fun b=>if b=a then some (.frz { cls:=.type "list", data:=.seq vs.toArray } (.lst (ns.map V.int))) else none) (fun b=>?_) (.inl (.inr ⟨{ cls:=.type "list", data:=.seq vs.toArray }, if_pos rfl⟩)) (fun b u z=>?_) (fun b z=>?_) fun _=>hk
  ·by_cases hb:b=a
   ·exact .inr ⟨_,_,if_pos hb⟩
   ·exact .inl (if_neg hb)
  ·by_cases hb:b=a
   ·have z':=(if_pos hb).symm.trans z;cases z';subst hb;exact⟨ha,by rw[xbb];exact hl,vs,_,rv,ha⟩
   ·have z':=(if_neg hb).symm.trans z;cases z'
  ·by_cases hb:b=a
   ·exact hb
   ·exact absurd (if_neg hb) z
theorem zbfa {l:W.OpenLaw}{n k:Nat}{q:Program}{loose:List Str}{XP:(Str->Option Value)->Heap->Prop}{YP:World->Heap->Prop}{d:DefRec}{K:Params->Fg}{CX:World->CXT}{sp:World->Sp}{x:Str}
  (hn:l.most=some n)(hn2:n<=sizeLine)(hdf:d.params.defaults=[])(hr:Room k callerA)
  (hY:∀(w:World) (h:Heap),YP w h->(K w.params).In h)
  (F:∀(w:World) (mg:Str->Option Value) (fa:Addr) (h:Heap),(K w.params).In h->h.Ns mainGlobals mg->mg d.name=some (.ref fa) ->
   ∃fd:FuncData,(∀(s:Shared) (u:Value),BindsTo s fd ⟨[u],[]⟩ [(x,u)]) /\
    ∀base:Heap,(K w.params).In base->base.Ns mainGlobals mg->FnOk l.prog w (K w.params) mg base (CX w) k fa fd [x] (sp w))
  (hsp:∀(w:World) (H:Hp) (a:Addr) (ns:List Int),ns.length<=n->Only H->SqL (K w.params) H a (ns.map V.int)->sp w [.ref a] H (fun v _=>v=.bl true) fun _ _ _=>False)
  (hCX:∀(w:World) (H:Hp) (s:Shared) (e:Value) (s':Shared),CX w [] H s (fun _ _ _=>False) e s'->False) :
  W.WalkO q loose XP YP l.row.toRowW d [] (fun f vs=>PySem.call f vs):=by
 refine Att.attach_call hn hdf fun w s₀ s₁ mg mb fa o pm cd doc a vs ns G Y ho hd hcd hmg hobj hints hlen hg=>?_
 have KX:=hY w _ Y;obtain⟨fd,hb,hF⟩:=F w mg fa _ KX G.T.g hmg;exact zbcl KX G.T.g G.T.b G.T.builtins G.T.nolimit hg hobj hints (xbc hlen hn2) hr hF hb (fun H hO hS=>hsp w H a ns hlen hO hS) fun H e s'=>hCX w H s₁ e s'
end L2
/- THE LAST THEOREM (shape;LID,My.* are yours):
 My.Adr: a structure of the addresses that your layer names (classes,functions);My.Txt K t: a structure (Prop) of the equations over K;
 My.txt_mk:{K} {implicit addresses ..} (e1:nsIn K mainGlobals "law"=some (some (.ref f))) (e2:K.lookup f=some ⟨oc, od, .func (fnOf "law" "law" params body scope dV kV doc pm an cdv ct), sl⟩) (e3:codeIn K cdv "law"=true) ..:∃ t, My.Txt K t
(the tactic k_is has no namespace: write k_is) -/
namespace L2
open PySem PySem.Spec PyProof.Rows
noncomputable def defArgs (s:Stmt):Arguments:=match s with
 | .FunctionDef _ a _ _ _ _ _ _ _ _=>a
 | _=>{posonlyargs:=[],args:=[],vararg:=none,kwonlyargs:=[],kw_defaults:=[],kwarg:=none,defaults:=[]}
noncomputable def defBody (s:Stmt):List Stmt:=match s with
 | .FunctionDef _ _ b _ _ _ _ _ _ _=>b
 | _=>[]
noncomputable def defScope (s:Stmt):Scope:=match s with
 | .FunctionDef _ _ _ _ _ _ sc _ _ _=>sc
 | _=>{kind:=.function,names:=[],isGenerator:=false,isCoroutine:=false}
noncomputable abbrev CX0:CXT:=fun _ _ _ _ _ _=>False
noncomputable abbrev E0:XK:=fun _ _ _=>False
theorem pass0 {X:Cx}:Passes CX0 X E0:=fun _ _ _ _ _ _ _ h=>h.elim
structure Fun (K:Fg) (x qual:Str) (st:Stmt) (f:Addr) (fd:FuncData):Prop where
 ex:∃(oc:Value) (od:Option Addr) (kV doc pm:Value) (an:Option Addr) (cdv ct:Value) (osl:Array (Option Value)),
  fd=W.fnOf x qual (defArgs st) (defBody st) (defScope st) .none kV doc pm an cdv ct/\K.lookup f=some ⟨oc,od,.func fd,osl⟩/\W.codeIn K cdv qual=true
 kp:W.keepIn K (.ref f)=true
section
variable {P:Program}{w:World}{K:Fg}{mg:Str->Option Value}{base:Heap}
theorem Fun.ok {x qual:Str}{st:Stmt}{f:Addr}{fd:FuncData}{N ps:List Str}{k:Nat}{sp:Sp}(F:Fun K x qual st f fd)(S:FnScope N ps (defScope st))(len:∀vs H Q E,sp vs H Q E->vs.length=ps.length)
  (hbody:∀(cdv:Value) (A:Around) (outer:List Env) (s:Shared) (H:Hp) (vs:List V) (Q:VK) (E:XK),Room k (A.deeper (envOfC qual (defScope st) s.heap.objs.size f cdv))->sp vs H Q E ->
   ∃t,PSs (cxOf CX0 P w K mg base N qual (defScope st) f cdv A outer s H E).nox (defBody st) t/\t {nx:=fun _ H'=>Q .non H',rt:=Q} (start N vs) H):FnOk P w K mg base CX0 (k+1) f fd ps sp:=by
 obtain⟨oc,od,kV,doc,pm,an,cdv,ct,osl,rfl,lk,hcd⟩:=F.ex;refine zbrf lk hcd S len fun A outer s H vs Q E hr hsp=>?_
 obtain⟨t,h,q⟩:=hbody cdv A outer s H vs Q E hr hsp;exact⟨t,h.nox,q⟩
theorem Fun.binds {x qual:Str}{st:Stmt}{f:Addr}{fd:FuncData}{ps:List Str}(F:Fun K x qual st f fd)
  (h:∀(kV doc pm:Value) (an:Option Addr) (cdv ct:Value) (us:List Value),us.length=ps.length->bindArgs (W.fnOf x qual (defArgs st) (defBody st) (defScope st) .none kV doc pm an cdv ct) ⟨us,[]⟩=pure (ps.zip us)):Binds K fd ps []:=by
 obtain⟨oc,od,kV,doc,pm,an,cdv,ct,osl,rfl,lk,hcd⟩:=F.ex;exact .all (h kV doc pm an cdv ct)
theorem zbni {x qual:Str}{st:Stmt}{f:Addr}{oc:Value}{od an:Option Addr}{osl:Array (Option Value)}{kV doc pm cdv ct:Value}(l:K.lookup f=some ⟨oc,od,.func (W.fnOf x qual (defArgs st) (defBody st) (defScope st) .none kV doc pm an cdv ct),osl⟩)
 (c:W.codeIn K cdv qual=true)(k:W.keepIn K (.ref f)=true):Fun K x qual st f (W.fnOf x qual (defArgs st) (defBody st) (defScope st) .none kV doc pm an cdv ct):=⟨⟨oc,od,kV,doc,pm,an,cdv,ct,osl,rfl,l,c⟩,k⟩
end
theorem znd {A:Around}{k:Nat}(hr:Room k A):A.units+1 < cLine:=xde (xcm (by decide:1<=64) _) hr.units
section
variable {X:Cx}
theorem pv (i:Nat){x:Str}{pos:Pos}(hN:X.N[i]?=some x:=by rfl)(hv:Vis X.env.scope x:=by first | exact Or.inl rfl | exact Or.inr (Or.inl rfl) | exact Or.inr (Or.inr rfl))(hd:(x==("__debug__" : Str))=false:=by decide)
 (hcd:(x==("__classdict__" : Str))=false:=by decide):PE X (.Name x pos) (tVar i):=zblu hN hv hd hcd
end
theorem iteF {A B:Prop}(h:B):if false=true then A else B:=by
 rw[if_neg xfp];exact h
theorem iteT {A B:Prop}(h:A):if true=true then A else B:=by
 rw[if_pos rfl];exact h
section
variable {X:Cx}
end
section
variable {κ:Type}[DecidableEq κ]
end
section
variable {P:Program}{w:World}{B:Around}{R:Result->Shared->Prop}{sh:Shared}
noncomputable abbrev NoX:Value->Shared->Prop:=fun _ _=>False
noncomputable abbrev testsOf (cs:List Expr) (ev:Env):Sem Bool :=
 forIn cs true fun d b=>if b=true then do let z ← isTrue d ev (eval d ev);pure (ForInStep.yield z) else pure (ForInStep.yield b)
noncomputable def CompStep (P:Program) (w:World) (B:Around) (tg x:Expr) (cs:List Expr) (ev:Env) (i l:Value) (K:Shared->Prop) (v:Value) (sa:Shared):Prop :=
 wpAny (model P w) B (letOwnedTupleGo tg i v) (fun _ sb=>wpAny (model P w) B (assign tg ev v) (fun _ sc=>wpAny (model P w) B (testsOf cs ev) (fun ok sd =>
  if ok=true then wpAny (model P w) B (eval x ev) (fun y se=>wpAny (model P w) B (call (.builtin "list.append") [l, y]) (fun _ sf=>K sf) NoX se) NoX sd else K sd) NoX sc) NoX sb) NoX sa
theorem zyb {tg it x:Expr}{cs:List Expr}{sc:Scope}{ps:Pos}{i l:Value}{ev:Env}(J:Nat->Shared->Prop)
  (go:∀k sk,J k sk->wpAny (model P w) B (pyNext i) (fun o sa=>match o with
   | none=>R (.ok .next) sa
   | some v=>CompStep P w B tg x cs ev i l (fun sf=>∃k',k' < k/\J k' sf) v sa) NoX sk)
  (k:Nat)(hJ:J k sh):codeAny (model P w) B (.compLoop (.ListComp x [⟨tg,it,cs,0⟩] sc ps) 0 i l ev) R sh:=by
 have none_:∀{E:Value->Shared->Prop} (e:Value) (z:Shared),NoX e z->E e z:=fun _ _ z=>z.elim
 refine codeAny_loop rfl J (fun k sk hk=>wpAny_noted (by
  rw[compTurn_list];refine xba (wpAny_standAt (xba (xfe (go k sk hk) (fun o sa ho=>?_) none_)))
  match o,ho with
  | none,ho=>exact xbe ho
  | some v,ho =>
   refine xba (xfe ho (fun _ sb hb=>xba (xfe hb (fun _ sc' hc=>xba (xfe hc (fun ok sd hd=>?_) none_)) none_)) none_)
   match ok,hd with
   | false,hd=>exact xbe (And.intro rfl hd)
   | true,hd=>exact xba (xba (xfe hd (fun y se he=>xba (xfe he (fun _ sf hf=>xbe (xbe (And.intro rfl hf))) none_)) none_)))) k hJ
end
theorem znn {env:Env}:∀(names:List (Str×NameKind)) (acc:List (Str×Addr)),(∀y∈names,y.2=.free->∃c,env.cells.lookup y.1=some c)->(∀x c,acc.lookup x=some c->env.cells.lookup x=some c) ->
  ∃cl:List (Str×Addr),(forIn names acc (fun x r=>if(x.2==NameKind.free)=true then do let a ← cellOf env x.1;pure (ForInStep.yield ((x.1,a)::r)) else pure (ForInStep.yield r)):Sem (List (Str×Addr)))=pure cl /\
   (∀x c,cl.lookup x=some c->env.cells.lookup x=some c)/\(∀x c,acc.lookup x=some c->∃c',cl.lookup x=some c')/\∀x,(x,NameKind.free)∈names->∃c,cl.lookup x=some c:=by
 intro names
 induction names with
 | nil=>intro acc _ ha;exact⟨acc,rfl,ha,fun x c e=>⟨c,e⟩,fun x z=>(nomatch z)⟩
 | cons y r ih =>
  intro acc hf ha;obtain⟨n,k⟩:=y;by_cases hk:k=.free
  ·subst hk;obtain⟨c,hc⟩:=hf (n,.free) xbn rfl
   obtain⟨cl,e,h1,h2,h3⟩:=ih ((n,c)::acc) (fun y hy=>hf y (xbk _ hy)) (fun x c' e=>by
    rw[xfq] at e;by_cases hx:x=n
    ·subst hx;rw[xgv] at e;cases e;exact hc
    ·rw[xfk.mpr hx] at e
     exact ha x c' e)
   refine⟨cl,?_,h1,fun x c' e'=>?_,fun x hx=>?_⟩
   ·rw[List.forIn_cons];simp only[xgv,ite_true];have q:cellOf env n=pure c:=by unfold cellOf;rw[hc]
    rw[q];simp only[pure_bind];exact e
   ·by_cases hx:x=n
    ·subst hx;exact h2 x c (by rw[xfq,xgv])
    ·exact h2 x c' (by rw[xfq,xfk.mpr hx];exact e')
   ·rcases xbp.mp hx with z | z
    ·cases z;exact h2 n c (by rw[xfq,xgv])
    ·exact h3 x z
  ·obtain⟨cl,e,h1,h2,h3⟩:=ih acc (fun y hy=>hf y (xbk _ hy)) ha;refine⟨cl,?_,h1,h2,fun x hx=>?_⟩
   ·rw[List.forIn_cons];have hb:(k==NameKind.free)=false:=by simpa using hk
    simp only[hb,xcl,xdx,pure_bind];exact e
   ·rcases xbp.mp hx with z | z
    ·cases z;exact absurd rfl hk
    ·exact h3 x z
theorem zur {scope:Scope}{env:Env}(h:∀y∈scope.names,y.2=.free->∃c,env.cells.lookup y.1=some c) :
  ∃cl,closureFor scope env=pure cl/\(∀x c,cl.lookup x=some c->env.cells.lookup x=some c)/\∀x,(x,NameKind.free)∈scope.names->∃c,cl.lookup x=some c:=by
 obtain⟨cl,e,h1,_,h3⟩:=znn (env:=env) scope.names [] h (fun x c e=>(nomatch e));refine⟨cl,?_,h1,h3⟩;unfold closureFor;have e':=congrArg (fun m=>m >>= fun r=>(pure r:Sem (List (Str×Addr)))) e;simp only[pure_bind] at e';exact e'
theorem zbe {env:Env}:∀{names:List (Str×NameKind)} {x:Str} {k:NameKind},(names.map fun(n,k)=>if(k==NameKind.free&&env.scope.kind==.function&&env.kindOf n==some .cell) then(n,NameKind.cell) else(n,k)).lookup x=some k ->
  names.lookup x=some k\/(k=.cell/\names.lookup x=some .free)
 | [],_,_,h=>by simp at h
 | (n,k')::r,x,k,h=>by
  have ih:=@zbe env r x k;have h':List.lookup x ((if(k'==NameKind.free&&env.scope.kind==.function&&env.kindOf n==some .cell)=true then(n,NameKind.cell) else(n,k'))::_)=_:=h;cases hx:x==n with
  | true =>
   by_cases hc:(k'==NameKind.free&&env.scope.kind==.function&&env.kindOf n==some .cell)=true
   ·rw[if_pos hc] at h';simp only[xfq,hx] at h' ⊢;cases h';rw[xho,xho] at hc;exact .inr ⟨rfl,by rw[eq_of_beq hc.1.1]⟩
   ·rw[if_neg hc] at h';simp only[xfq,hx] at h' ⊢;exact .inl h'
  | false =>
   have h2:(r.map fun(n,k)=>if(k==NameKind.free&&env.scope.kind==.function&&env.kindOf n==some .cell) then(n,NameKind.cell) else(n,k)).lookup x=some k:=by
    by_cases hc:(k'==NameKind.free&&env.scope.kind==.function&&env.kindOf n==some .cell)=true
    ·rw[if_pos hc] at h';simp only[xfq,hx] at h';exact h'
    ·rw[if_neg hc] at h';simp only[xfq,hx] at h';exact h'
   simp only[xfq,hx];exact ih h2
noncomputable def cxC (X:Cx) (N:List Str) (scope:Scope) (cl:List (Str×Addr)) (C:Addr) (fp:List Addr) (s:Shared) (H:Hp):Cx :=
 {X with N:=N,s₀:=s,H₀:=H,env:=compEnvC scope cl C X.env,outer:=X.stack,ex:=fp,fn:=fun _=>false,pn:=[],xe:=fun _ _=>False}
noncomputable def startC (k:Nat) (is:List Nat) (σ:St):St:=List.replicate k none++is.map fun i=>(σ[i]?).getD none
structure CompScope (X:Cx) (N:List Str) (k:Nat) (is:List Nat) (scope:Scope):Prop where
 kind:scope.kind=.function
 nocell:∀y∈scope.names,y.2≠.cell
 names:∀y∈scope.names,y.2=.local->scope.names.lookup y.1=some .local
 frees:∀y∈scope.names,y.2=.free->X.env.kindOf y.1=some .cell\/X.env.kindOf y.1=some .free
 len:N.length=k+is.length
 own:∀j i,is[j]?=some i->∃x,N[k+j]?=some x/\X.N[i]?=some x/\scope.names.lookup x=some .free
theorem zfa {x:Str}{k:NameKind}{l:List (Str×NameKind)}(h:l.lookup x=some k):(x,k)∈l:=xgr h
section
variable {X:Cx}{aU:List (Addr×Obj)}{σ:St}{H:Hp}{s:Shared}
theorem zbct {N:List Str}{k:Nat}{is:List Nat}{scope:Scope}{cl:List (Str×Addr)}{fp:List Addr}{h1:Heap}{tk:Nat}(S:CompScope X N k is scope)(I:Inv X aU σ H s)
  (c1:∀x c,cl.lookup x=some c->X.env.cells.lookup x=some c)(c2:∀x,(x,NameKind.free)∈scope.names->∃c,cl.lookup x=some c)
  (hf:∀b∈fp,FpOk X aU H b)(hfo:∀b∈fp,∃o,s.heap.get? b=some o)(hn:h1.Ns s.heap.objs.size (fun _=>none))(hk:∀b o,s.heap.get? b=some o->h1.get? b=some o) :
  Inv (cxC X N scope cl s.heap.objs.size fp s H) [] (startC k is σ) H {s with heap:=h1,toks:=tk}:=by
 have hC:∀b o,s.heap.get? b=some o->b≠s.heap.objs.size:=fun b o e=>xch (xbv e)
 have nfs:∀b∈fp,b∉frs X.stack:=fun b hb z=>by
  rcases xbp.mp (I.stkSub b z) with e | e
  ·exact(hf b hb).2.1 e
  ·exact(hf b hb).2.2.1 e
 refine⟨⟨I.ok.mod,S.kind,I.ok.glob,I.ok.blt,xbf _,fun x y c e1 e2=>I.ok.inj x y c (c1 x c e1) (c1 y c e2),fun x hx=>?_,fun x c z=>?_,I.ok.hd,I.ok.frames,.inl rfl,fun b hb=>⟨?_,fun x c e=>?_⟩,I.bs,xbc I.ok.bsz I.sz,fun b o e hb=>?_,nfs,I.stack,I.stkFree⟩,
  rfl,I.bare,Un.kept hk,⟨_,hn,fun i x v e1 e2 e3=>?_⟩,fun x c e=>?_,I.hok.fresh (xbf _),fun x c e=>I.freeC x c (c1 x c e),fun p hp=>(nomatch hp),I.hok.kept hk,?_,I.hnd⟩
 ·have hx':(scope.names.map fun(n,k)=>if(k==NameKind.free&&X.env.scope.kind==.function&&X.env.kindOf n==some .cell) then(n,NameKind.cell) else(n,k)).lookup x=some .cell\/(scope.names.map fun(n,k)=>if(k==NameKind.free&&X.env.scope.kind==.function&&X.env.kindOf n==some .cell) then(n,NameKind.cell) else(n,k)).lookup x=some .free:=hx;have q:scope.names.lookup x=some .free:=by
   rcases hx' with z | z
   ·rcases zbe z with q | ⟨_,q⟩
    ·exact absurd rfl (S.nocell _ (zfa q))
    ·exact q
   ·rcases zbe z with q | ⟨q,_⟩
    ·exact q
    ·cases q
  exact c2 x (zfa q)
 ·cases z
 ·obtain⟨o,e⟩:=hfo b hb;exact hC b o e
 ·exact(hf b hb).2.2.2.2.1 x c (c1 x c e)
 ·rcases(hf b hb).2.2.2.1 with z | z
  ·exact I.ok.noex b o e z
  ·exact absurd (xbg (xbv (I.ok.bs b o e).1) z) (xgp _)
 ·-- a name of the def around
  unfold startC at e2;have hi:k<=i:=by
   rcases xff i k with z | z
   ·rw[xbu (by rw[xhd];exact z),List.getElem?_replicate,if_pos z] at e2;cases e2
   ·exact z
  rw[xcs (by rw[xhd];exact hi),xhd,xcn] at e2;cases ej:is[i - k]? with
  | none=>rw[ej] at e2;cases e2
  | some j =>
   rw[ej] at e2;have e2':(σ[j]?).getD none=some v:=xcv e2;obtain⟨y,y1,y2,y3⟩:=S.own (i - k) j ej;have ey:y=x:=by
    have z:N[i]?=some y:=by rw[← y1];congr 1;lia
    have e1':N[i]?=some x:=e1;rw[z] at e1';exact xcv e1'
   subst ey;have e4:σ[j]?=some (some v):=by
    cases q:σ[j]? with
    | none=>rw[q] at e2';cases e2'
    | some o=>rw[q] at e2';exact congrArg some e2'
   have kd:=S.frees _ (zfa y3) rfl;have vis:Vis X.env.scope y:=.inr kd;obtain⟨m,_,hl⟩:=I.loc;obtain⟨u,r,lk⟩:=hl j y v y2 e4 vis;refine⟨u,r,?_⟩;rcases lk with⟨z,_⟩ | ⟨_,c,e5,cc⟩
   ·rcases kd with q | q<;>(rw[q] at z;cases z)
   ·obtain⟨c',e6⟩:=c2 y (zfa y3);have:c'=c:=by
     have z:=c1 y c' e6;rw[e5] at z;exact(xcv z).symm
    subst this;refine .inr ⟨?_,c',e6,?_⟩
    ·rcases e3 with z | z | z
     ·exact absurd (zbe z) (by
       rw[y3];rintro(q | ⟨q,_⟩)
       ·cases q
       ·cases q)
     ·exact .inl z
     ·exact .inr z
    ·obtain⟨o,ho,hd⟩:=cc;exact⟨o,hk _ o ho,hd⟩
 ·obtain⟨v,o,ho,hd⟩:=I.cell x c (c1 x c e);exact⟨v,o,hk _ o ho,hd⟩
 ·unfold startC;rw[xbj,xhd,xbb];exact S.len.symm
theorem zbcu {N:List Str}{scope:Scope}{cl:List (Str×Addr)}{fp:List Addr}{σ':St}{H':Hp}{s':Shared}{h':Heap}(I:Inv X aU σ H s)(hf:∀b∈fp,FpOk X aU H b)(J:Inv (cxC X N scope cl s.heap.objs.size fp s H) [] σ' H' s')
  (hs:Heap.SameBut s.heap.objs.size s'.heap h'):Inv X aU σ H' {s' with heap:=h'}:=by
 have hC:∀b o,s.heap.get? b=some o->b≠s.heap.objs.size:=fun b o e=>xch (xbv e)
 have hH:H' s.heap.objs.size=none:=J.free;have B:Un (frs X.stack) fp H H' s.heap s'.heap:=J.base
 have U:Un (frs X.stack) fp H H' s.heap h':=⟨fun b o e n h1 h2=>hs.extBut b o (hC b o e) (B.keep b o e n h1 h2),fun b o e n h1 h2=>by
   obtain⟨sl,q⟩:=B.slot b o e n h1 h2;exact⟨sl,hs.extBut b _ (hC b o e) q⟩,B.free,fun b o e hx=>by
   obtain⟨o',q⟩:=B.there b o e hx
   exact⟨o',hs.extBut b o' (hC b o e) q⟩,B.tups,B.frzs,B.tbls⟩
 refine I.call' (s':={s' with heap:=h'}) J.os U (fun a o e=>?_) J.bare (fun b hb=>⟨(hf b hb).2.2.2.1,(hf b hb).2.1,(hf b hb).2.2.2.2.1,(hf b hb).2.2.2.2.2⟩);refine(J.hok a o e).stay (fun b u hb q=>hs.extBut b u ?_ q) (fun _ q=>q) fun _ _ q=>q
 rcases hb with z | z
 ·intro y;rw[z] at y;rw[y,hH] at e;cases e
 ·intro y;rw[y,hH] at z;cases z
end
structure OffC (X:Cx) (aU:List (Addr×Obj)) (H:Hp) (C:Addr):Prop where
 free:H C=none
 loc:C≠X.env.locals
 young:X.s₀.heap.objs.size<=C
 cell:∀x c,X.env.cells.lookup x=some c->c≠C
 pin:∀p∈X.pn++aU,p.1≠C
theorem OffC.back {X:Cx}{aU:List (Addr×Obj)}{σ:St}{H:Hp}{C:Addr}{s:Shared}{h':Heap}(o:OffC X aU H C)(I:Inv X aU σ H s)(hs:Heap.SameBut C s.heap h'):Inv X aU σ H {s with heap:=h'} :=
 I.turned (t':=s.toks) (fun b u hb e=>hs.extBut b u hb e) o.free o.loc (.inr o.young) o.cell o.pin
noncomputable def nxC (p:Addr) (te:TE) (tc:TT) (N:St->Hp->Prop):St->Hp->Prop:=fun σ2 H3=>tc σ2 H3 fun b H4 =>
 if b=true then te σ2 H4 fun y H5=>∃xs,H5 p=some (.lst xs)/\xs.length < sizeLine/\N σ2 (upd H5 p (.lst (xs++[y]))) else N σ2 H4
noncomputable def CompG (J:It) (g:TG) (tc:TT) (te:TE) (Q:VK) (p:Addr) (σ:St) (H:Hp):Prop:=∃W:Nat->Nat->St->Hp->Prop,(∃m,W 0 m σ H) /\
 ∀i m σ' H',W i m σ' H'->(J.stop i H'/\Q (.ref p) H')\/(J.go i H'/\∃N:St->Hp->Prop,(∀σ2 H2,N σ2 H2->∃m',m' < m/\W (i+1) m' σ2 H2)/\∀x H2,J.yld i H' x H2->g x σ' H2 (nxC p te tc N))
noncomputable def tComp (wi:TI) (k:Nat) (is:List Nat) (g:TG) (tc:TT) (te:TE):TE:=fun σ H Q=>wi σ H fun J H1=>∀p,H1 p=none->CompG J g tc te Q p (startC k is σ) (upd H1 p (.lst []))
noncomputable def tYes:TT:=fun _ H Q=>Q true H
section
variable {X:Cx}{tg iter elt:Expr}{ifs:List Expr}{wi:TI}{g:TG}{tc:TT}{te:TE}{N:List Str}{k:Nat}{is:List Nat}{scope:Scope}{pos:Pos}
noncomputable def PIf (X:Cx) (ifs:List Expr) (t:TT):Prop :=
 ∀(aU:List (Addr×Obj)) (s:Shared) (σ:St) (H:Hp) (Q:Bool->Hp->Prop),Inv X aU σ H s->t σ H Q ->
  wpAny (model X.prog X.w) X.A (forIn ifs true fun c r=>if r=true then do let ok ← isTrue c X.env (eval c X.env);pure (ForInStep.yield ok) else pure (ForInStep.yield r)) (TP X aU σ Q) X.xe s
theorem zbgg:PIf X [] tYes:=fun aU s σ H Q I h=>wpAny_tests_nil ⟨H,I,h⟩
theorem zbgf {c:Expr}{t:TT}(h:PT X c t):PIf X [c] t:=fun aU s σ H Q I hq=>wpAny_tests_one (h aU s σ H Q I hq)
theorem zuo (hcalm:X.calm=true)(hg:∀cl C fp s H,PG (cxC X N scope cl C fp s H) tg g)(hc:∀cl C fp s H,PIf (cxC X N scope cl C fp s H) ifs tc)(he:∀cl C fp s H,PE (cxC X N scope cl C fp s H) elt te)
  (S:CompScope X N k is scope){aU:List (Addr×Obj)}{σ:St}{H2:Hp}{s2:Shared}{cl:List (Str×Addr)}{it:Addr}{fp:List Addr}{tn:Nat->Heap->Prop}{J:It}{Q:VK}{E:Value->Shared->Prop}{RR:Value->Addr->Result->Shared->Prop}
  (I2:Inv X aU σ H2 s2)(T:Turn X.prog X.w X.K tg J fp it tn)(st2:tn 0 s2.heap)(f2:∀b∈fp,FpOk X aU H2 b)
  (c1:∀x c,cl.lookup x=some c->X.env.cells.lookup x=some c)(c2:∀x,(x,NameKind.free)∈scope.names->∃c,cl.lookup x=some c)
  (h:∀p,H2 p=none->∃W:Nat->Nat->St->Hp->Prop,(∃m,W 0 m (startC k is σ) (upd H2 p (.lst []))) /\
   ∀i m σ' H',W i m σ' H'->(J.stop i H'/\Q (.ref p) H')\/(J.go i H'/\∃N:St->Hp->Prop,(∀σ2 H2,N σ2 H2->∃m',m' < m/\W (i+1) m' σ2 H2)/\∀x H2,J.yld i H' x H2->g x σ' H2 (nxC p te tc N)))
  (hR:∀(p C:Addr) (s':Shared) (H':Hp) (m:Str->Option Value),OffC X aU H' C->s'.heap.Ns C m->Inv X aU σ H' s'->Q (.ref p) H'->RR (.ref p) C (.ok .next) s') :
  wpAny (model X.prog X.w) X.A (newList []) (fun acc s₃=>wpAny (model X.prog X.w) X.A (newFunctionEnv scope X.env.globals cl [] X.env.qual none .none (some X.env)) (fun cenv s₄ =>
   codeAny (model X.prog X.w) X.A (.compStart (.ListComp elt [⟨tg,iter,ifs,0⟩] scope pos) 0 (.ref it) acc {cenv with scope:=relabel scope X.env}) (RR acc cenv.locals) s₄) E s₃) E s2:=by
 refine xek ?_;have fresh:H2 s2.heap.objs.size=none:=I2.fresh;have I3:Inv X aU σ (upd H2 s2.heap.objs.size (.lst [])) { s2 with heap:=s2.heap.push { cls:=.type "list", dict:=none, data:=.seq ([]:List Value).toArray } }:=I2.lnew (t':=s2.toks) (.nil) (by decide)
 generalize hs3:({ s2 with heap:=s2.heap.push { cls:=.type "list", dict:=none, data:=.seq ([]:List Value).toArray } }:Shared)=s3 at I3
 have k3:∀b o,s2.heap.get? b=some o->s3.heap.get? b=some o:=fun b o e=>by rw[← hs3];exact xbm _ e
 refine wpAny_newFunctionEnv S.nocell (by intro y hy;simp at hy) (fun h₁ hns₁ hsb₁=>?_) S.kind;have st3:tn 0 s3.heap:=T.keep _ _ _ st2 fun b _ o e=>k3 b o e
 have f3:∀b∈fp,FpOk X aU (upd H2 s2.heap.objs.size (.lst [])) b:=fun b hb=>by
  obtain⟨o,e,_⟩:=T.obj _ _ st2 b hb;exact⟨by rw[zt (xch (xbv e))];exact(f2 b hb).1,(f2 b hb).2⟩
 have k4:∀b o,s3.heap.get? b=some o->h₁.get? b=some o:=fun b o e=>hsb₁.extBut b o (xch (xbv e)) (xbm _ e)
 have J4:=zbct (tk:=s3.toks+([]:List (Str×Value)).length) S I3 c1 c2 f3 (fun b hb=>let ⟨o,e,_⟩:=T.obj _ _ st3 b hb;⟨o,e⟩) hns₁ k4;obtain⟨W,⟨m0,w0⟩,turn⟩:=h s2.heap.objs.size fresh;have st4:tn 0 h₁:=T.keep _ _ _ st3 fun b _ o e=>k4 b o e
 have loop:codeAny (model X.prog X.w) X.A (.compLoop (.ListComp elt [⟨tg,iter,ifs,0⟩] scope pos) 0 (.ref it) (.ref s2.heap.objs.size) (compEnvC scope cl s3.heap.objs.size X.env)) (RR (.ref s2.heap.objs.size) s3.heap.objs.size) {s3 with heap:=h₁,toks:=s3.toks+([]:List (Str×Value)).length}:=by
  have stat:∀{H':Hp},(∀b∈fp,H' b=none)->∀b∈fp,FpOk (cxC X N scope cl s3.heap.objs.size fp s3 (upd H2 s2.heap.objs.size (.lst []))) [] H' b:=fun {H'} hn b hb=>by
   obtain⟨o,e,_⟩:=T.obj _ _ st3 b hb;refine⟨hn b hb,xch (xbv e),J4.ok.exfs b hb,.inl hb,fun x c e'=>(f3 b hb).2.2.2.2.1 x c (c1 x c e'),fun p hp=>(nomatch hp)⟩
  refine zyb (fun n s'=>∃i σ' H',Inv (cxC X N scope cl s3.heap.objs.size fp s3 (upd H2 s2.heap.objs.size (.lst []))) [] σ' H' s'/\tn i s'.heap/\(∀b∈fp,H' b=none)/\W i n σ' H') ?_ m0
   ⟨0,_,_,J4,st4,fun b hb=>(f3 b hb).1,w0⟩
  rintro n s5 ⟨i,σ5,H5,I5,st5,fr5,w5⟩;rcases turn i n σ5 H5 w5 with⟨stop,q⟩ | ⟨go,N',hN',step⟩
  ·refine thn (T.done (cxC X N scope cl s3.heap.objs.size fp s3 (upd H2 s2.heap.objs.size (.lst []))) rfl rfl rfl hcalm i [] s5 σ5 H5 _ I5 (stat fr5) st5 stop) fun r s6 hq0=>?_
   obtain⟨hr,I6⟩:=hq0;subst hr;obtain⟨m,hm,_⟩:=I6.loc;refine hR _ _ s6 H5 m ⟨I6.free,xjo I3.lt,I3.sz,fun x c e=>?_,fun p hp=>xch (xbv (I3.pin p hp).1)⟩ hm (zbcu (h':=s6.heap) I3 f3 I6 (.refl ..)) q;obtain⟨v,o,ho,_⟩:=I3.cell x c e;exact xch (xbv ho)
  ·refine thn (T.item (cxC X N scope cl s3.heap.objs.size fp s3 (upd H2 s2.heap.objs.size (.lst []))) rfl rfl rfl hcalm i [] s5 σ5 H5 _ I5 (stat fr5) st5 go) fun r s6 hq0=>?_
   obtain⟨u,hr,h6⟩:=hq0;subst hr;refine thn h6 fun _ s7 hq0=>?_
   obtain⟨x,H7,I7,r7,y7,st7,fr7⟩:=hq0;have I7':=I7.pinned (stat fr7) (T.obj _ _ st7);refine thn (hg cl s3.heap.objs.size fp s3 _ _ s7 σ5 H7 x u _ I7' r7 (step x H7 y7)) fun _ s8 hq0=>?_
   obtain⟨σ8,H8,I8,q8⟩:=hq0;refine thn (hc cl s3.heap.objs.size fp s3 _ _ s8 σ8 H8 _ I8 q8) fun b s9 hq0=>?_
   obtain⟨H9,I9,q9⟩:=hq0;have again:∀{σ':St} {H':Hp} {s':Shared} {m':Nat},Inv (cxC X N scope cl s3.heap.objs.size fp s3 (upd H2 s2.heap.objs.size (.lst []))) ([]++pinsAt fp s7.heap) σ' H' s'->m' < n->W (i+1) m' σ' H' ->
     ∃m,m < n/\∃i σ' H',Inv (cxC X N scope cl s3.heap.objs.size fp s3 (upd H2 s2.heap.objs.size (.lst []))) [] σ' H' s'/\tn i s'.heap/\(∀b∈fp,H' b=none)/\W i m σ' H':=fun {σ' H' s' m'} I' hm w'=>by
    refine⟨m',hm,i+1,σ',H',I'.unpinned,T.keep _ _ _ st7 fun b hb o e=>(I'.pin (b,o) (xdb _ (xdb _ (zez hb e)))).1,fun b hb=>?_,w'⟩;obtain⟨o,e,d⟩:=T.obj _ _ st7 b hb;exact(I'.pin (b,o) (xdb _ (xdb _ (zez hb e)))).2.1
   cases b with
   | false =>
    obtain⟨m',hm,w'⟩:=hN' _ _ q9;exact again I9 hm w'
   | true =>
    refine thn (he cl s3.heap.objs.size fp s3 _ _ s9 σ8 H9 _ I9 q9) fun v s10 hq0=>?_
    obtain⟨y,H10,I10,r10,xs,hxs,hz,n10⟩:=hq0;obtain⟨m',hm,w'⟩:=hN' _ _ n10;refine thn (zot (X:=cxC X N scope cl s3.heap.objs.size fp s3 (upd H2 s2.heap.objs.size (.lst []))) _ s10 σ8 H10 (.ref s2.heap.objs.size) [y] _ [v] (fun _ H'=>H'=upd H10 s2.heap.objs.size (.lst (xs++[y]))) I10 rfl (.cons r10 .nil) ⟨_,xs,y,rfl,rfl,hxs,hz,rfl⟩) fun _ s11 hq0=>?_
    obtain⟨_,H11,I11,_,e11⟩:=hq0;subst e11;exact again I11 hm w'
 have hs3':s2.heap.push { cls:=.type "list", dict:=none, data:=.seq ([]:List Value).toArray }=s3.heap:=by rw[← hs3]
 have fin:=codeAny_compStart_list (elt:=elt) (target:=tg) (iter:=iter) (ifs:=ifs) (rest:=[]) (scope:=scope) (pos:=pos) loop (T.self X.A 0 _ _ _ st4 loop);exact fin
theorem znm (S:CompScope X N k is scope){aU:List (Addr×Obj)}{σ:St}{H:Hp}{s:Shared}(I:Inv X aU σ H s) :
  ∃cl,closureFor scope X.env=pure cl/\(∀x c,cl.lookup x=some c->X.env.cells.lookup x=some c)/\∀x,(x,NameKind.free)∈scope.names->∃c,cl.lookup x=some c :=
 zur fun y hy hf=>I.ok.has y.1 (S.frees y hy hf)
theorem zyt (hcalm:X.calm=true)(hi:PI X tg iter wi)(hg:∀cl C fp s H,PG (cxC X N scope cl C fp s H) tg g)(hc:∀cl C fp s H,PIf (cxC X N scope cl C fp s H) ifs tc)(he:∀cl C fp s H,PE (cxC X N scope cl C fp s H) elt te)
  (S:CompScope X N k is scope)(hs:∀x,foldedSetIterable iter X.env x=pure x:=by intro _;rfl):PE X (.ListComp elt [⟨tg,iter,ifs,0⟩] scope pos) (tComp wi k is g tc te):=by
 intro aU s σ H Q I h;obtain⟨cl,e,c1,c2⟩:=znm S I;rw[eval_ListComp];refine wpAny_comprehension_free (use:=none) rfl hs e S.kind S.names (thn (hi aU s σ H _ I h) fun xv s1 h1=>thn h1 fun itv s2 h2=>?_);obtain⟨it,fp,tn,J,H2,e2,I2,T,st2,f2,h3⟩:=h2;subst e2;refine zuo (Q:=Q) (RR:=fun acc C=>compPost (model X.prog X.w) X.A X.xe none (EP X aU σ Q) acc C) hcalm hg hc he S I2 T st2 f2 c1 c2 h3 ?_;intro p C s' H' m off hm I' q;exact⟨m,hm,fun h' hs'=>⟨.ref p,H',off.back I' hs',rfl,q⟩⟩
end
section
variable {g:TG}{tc:TT}{te:TE}{Q:VK}{σ:St}{H:Hp}{p:Addr}
end
noncomputable def Callee (P:Program) (w:World) (K:Fg) (mg:Str->Option Value) (base:Heap) (x:Str) (k:Nat) (ps:List Str) (sp:Sp):Prop :=
 ∃f fd,FnOk P w K mg base CX0 k f fd ps sp/\Binds K fd ps []/\W.keepIn K (.ref f)=true/\mg x=some (.ref f)
section
variable {X:Cx}{x:Str}{k:Nat}{ps:List Str}{sp:Sp}{p pos:Pos}{e:Expr}{es:List Expr}{t:TA}
theorem zbbt (c:Callee X.prog X.w X.K X.mg X.base x k ps sp)(hr:Room k X.A)(hg:Gl X x)(ha:PA X (e::es) t)(hdb:(x==("__debug__" : Str))=false:=by decide)
  (he:starEach (e::es) X.env=(false,eval e X.env)::starEach es X.env:=by rfl)(hpl:(backTo pos (starEach es X.env)).any (·.1)=false:=by rfl) :
  PE X (.Call (.Name x p) (e::es) [] pos) (tCall sp [] E0 t):=by
 obtain⟨f,fd,F,b,kp,m⟩:=c;exact zbgq F hr hg m kp b .nil pass0 ha hdb he hpl
end
noncomputable def TopF (K:Fg) (x:Str) (st:Stmt):Prop :=
 ∃f fd,W.nsIn K mainGlobals x=some (some (.ref f))/\Fun K x x st f fd
theorem zw {K:Fg}{x:Str}{st:Stmt}{f:Addr}{od an:Option Addr}{sl:Array (Option Value)}{oc kV dc pm cd ct:Value}
  (a:W.nsIn K mainGlobals x=some (some (.ref f)))(l:K.lookup f=some ⟨oc,od,.func (W.fnOf x x (defArgs st) (defBody st) (defScope st) .none kV dc pm an cd ct),sl⟩)(c:W.codeIn K cd x=true)(k:W.keepIn K (.ref f)=true):TopF K x st :=
 ⟨f,_,a,zbni l c k⟩
theorem zpm {P:Program}{w:World}{K:Fg}{mg:Str->Option Value}{base h:Heap}{x:Str}{st:Stmt}{N ps:List Str}{k:Nat}{sp:Sp}(T:TopF K x st)(X:K.In h)(G:h.Ns mainGlobals mg)(S:FnScope N ps (defScope st))
  (bd:∀(kV doc pm:Value) (an:Option Addr) (cdv ct:Value) (us:List Value),us.length=ps.length->bindArgs (W.fnOf x x (defArgs st) (defBody st) (defScope st) .none kV doc pm an cdv ct) ⟨us,[]⟩=pure (ps.zip us))
  (len:∀vs H Q E,sp vs H Q E->vs.length=ps.length)
  (hbody:∀(f:Addr) (cdv:Value) (A:Around) (outer:List Env) (s:Shared) (H:Hp) (vs:List V) (Q:VK) (E:XK),Room k (A.deeper (envOfC x (defScope st) s.heap.objs.size f cdv))->sp vs H Q E ->
   ∃t,PSs (cxOf CX0 P w K mg base N x (defScope st) f cdv A outer s H E).nox (defBody st) t/\t {nx:=fun _ H'=>Q .non H',rt:=Q} (start N vs) H):Callee P w K mg base x (k+1) ps sp:=by
 obtain⟨f,fd,a,F⟩:=T;exact⟨f,fd,F.ok S len (hbody f),F.binds bd,F.kp,xly X G a⟩
section
variable {X:Cx}
theorem zek:CallR X (.builtin "isinstance") (fun xs H Q=>∃ x T t b, xs=[x, .ty T]/\TyOf X.K H x t/\W.kitOne X.K t (.type T)=some b/\Q (.bl b) H):=by
 intro aU s σ H xs us Q I r h;obtain⟨x,T,t,b,rfl,ty,e,q⟩:=h;obtain⟨u,w',rfl,ru,rw'⟩:=vals2 r;cases(show w'=Value.type T from rw');exact zxn I ru ty e fun tk=>⟨.bl b,H,I.tok tk,rfl,q⟩
noncomputable def CDivP (i j:Int):Prop:=0 < j/\j < 2 ^ 1000
theorem zjq:OpR X (binaryOp .FloorDiv) (rI CDivP fun i j=>.int (i / j)):=opI fun i j _ _ _ _ _ hc q=>by
 have e:i.fdiv j=i / j:=xlx i (by have:=hc.1;lia);refine floordiv_int (by have:=hc.1;lia) (by rw[e];exact q) (.inl (PyProof.noPylong_of_log2 ?_));have h1:j.natAbs < 2 ^ 1000:=by
  have h2:=hc.1;have h3:=hc.2;have h4:(j.natAbs:Int)=j:=by lia
  have h5:(j.natAbs:Int) < ((2 ^ 1000:Nat):Int):=by
   rw[h4];exact_mod_cast h3
  exact_mod_cast h5
 have h0:j.natAbs≠0:=by have:=hc.1;lia
 have:=(Nat.log2_lt h0).mpr h1;lia
end
section
variable {X:Cx}{st:Stmt}{t:TS}
end
noncomputable def compLook (XN:List Str) (xs:List (Str×NameKind)) (N:List Str) (k:Nat) (is:List Nat) (scope:Scope):Bool :=
 (scope.kind==.function)&&scope.names.all (fun y=>y.2 != .cell)&&scope.names.all (fun y=>y.2 != .local||scope.names.lookup y.1==some .local) &&
 scope.names.all (fun y=>y.2 != .free||(xs.lookup y.1==some .cell||xs.lookup y.1==some .free))&&(N.length==k+is.length) &&
 (List.range is.length).all (fun j=>match is[j]?,N[k+j]? with
  | some i,some x=>XN[i]?==some x&&scope.names.lookup x==some .free
  | _,_=>false)
theorem zhx {X:Cx}{N:List Str}{k:Nat}{is:List Nat}{scope:Scope}(h:compLook X.N X.env.scope.names N k is scope=true):CompScope X N k is scope:=by
 unfold compLook at h;simp only[xho,xcw] at h;obtain⟨⟨⟨⟨⟨h1,h2⟩,h3⟩,h4⟩,h5⟩,h6⟩:=h;refine⟨eq_of_beq h1,fun y hy e=>?_,fun y hy e=>?_,fun y hy e=>?_,eq_of_beq h5,fun j i e=>?_⟩
 ·have:=h2 y hy;rw[e] at this;simp at this
 ·have:=h3 y hy;rw[e] at this;simp at this;exact this
 ·have:=h4 y hy;rw[e] at this;simp at this;exact this
 ·have hj:j < is.length:=(xbh.mp e).1;have:=h6 j (xcd.mpr hj);rw[e] at this;cases e2:N[k+j]? with
  | none=>rw[e2] at this;cases this
  | some x =>
   rw[e2] at this;simp only[xho,xgx] at this;exact⟨x,rfl,this.1,this.2⟩
theorem znp:bootBuiltins "len"=some (.builtin "len"):=by decide +kernel
theorem zbot:bootBuiltins "abs"=some (.builtin "abs"):=by decide +kernel
theorem zbeb:bootBuiltins "min"=some (.builtin "min"):=by decide +kernel
theorem zbjy:bootBuiltins "max"=some (.builtin "max"):=by decide +kernel
theorem zbea:bootBuiltins "sum"=some (.builtin "sum"):=by decide +kernel
theorem zel:bootBuiltins "sorted"=some (.builtin "sorted"):=by decide +kernel
theorem zbos:bootBuiltins "all"=some (.builtin "all"):=by decide +kernel
theorem zcq:bootBuiltins "isinstance"=some (.builtin "isinstance"):=by decide +kernel
theorem zbjz:bootBuiltins "int"=some (.type "int"):=by decide +kernel
theorem zbac:bootBuiltins "bool"=some (.type "bool"):=by decide +kernel
theorem zes:bootBuiltins "tuple"=some (.type "tuple"):=by decide +kernel
theorem zbor:bootBuiltins "set"=some (.type "set"):=by decide +kernel
theorem zban {H:Hp}{p:Addr}{o:HO}(h:H p=some o):upd H p o=H:=by
 funext b
 unfold upd;split
 ·subst b;exact h.symm
 ·rfl
section
variable {X:Cx}{K:Fg}
end
end L2
namespace Srt
open PySem PySem.W PyProof.Rows
section
variable (r:Nat->Nat)
noncomputable def lt (i j:Nat):Bool:=decide (r i < r j)
noncomputable def At (p:Array Nat) (i:Nat):Nat:=r (p.getD i 0)
noncomputable def Up (p:Array Nat) (n:Nat):Prop:=∀i j,i<=j->j < n->At r p i<=At r p j
end
section
variable {r:Nat->Nat}{p:Array Nat}{n:Nat}
end
section
variable {n:Nat}
end
section
variable {P:Program}{w:World}{B:Around}{E:Value->Shared->Prop}{st:Shared}
noncomputable def midHeap (h:Heap) (d:Addr) (xs:List Value):Heap:=((h.update d (Obj.mapSeq fun _=>(#[]:Array Value))).push (seqObj "tuple" xs.toArray 0)).push (seqObj "list" #[] 0)
theorem ziw {h:Heap}{d b:Addr}{xs:List Value}{ob:Obj}(ne:b≠d)(e:h.get? b=some ob):(midHeap h d xs).get? b=some ob :=
 xbm _ (xbm _ ((Heap.get?_update_ne _ _ _ _ ne).trans e))
noncomputable def Answers (P:Program) (w:World) (B:Around) (r:Nat->Nat) (xs:List Value) (sg:Shared):Prop :=
 ∃κ,(∀R:SortKind->Shared->Prop,R κ sg->wpAny (model P w) B (keyKind' xs.toArray) R (fun _ _=>False) sg) /\
  ∀i j C,i < xs.length->j < xs.length->C (lt r i j) sg->kas_ask P w B κ xs i j C sg
noncomputable def outOf (xs:List Value) (p:Array Nat):Array Value:=List.toArray (p.toList.map fun i=>xs.getD i Value.none)
theorem zwc {xs:List Value}(h:xs.length < 2):(xs.toArray.zip xs.toArray).map (·.2)=outOf xs (List.toArray (List.range xs.length)):=by
 unfold outOf
 match xs,h with
 | [],_=>simp
 | [_],_=>simp[xib]
 | _::_::_,h=>exact absurd h (by simp)
end
end Srt
namespace Srt
open PySem PySem.W PyProof.Rows HT
theorem zhn:∀a:List Int,lexLt a a=false
 | []=>rfl
 | x::a=>by rw[zcw,if_pos rfl];exact zhn a
theorem zgt:∀{a b c:List Int},lexLt a b=true->lexLt b c=true->lexLt a c=true
 | _,[],[],_,h=>by rw[zdu] at h;cases h
 | _,_::_,[],_,h=>by rw[zdd] at h;cases h
 | [],[],_::_,h,_=>by rw[zdu] at h;cases h
 | _::_,[],_::_,h,_=>by rw[zdd] at h;cases h
 | [],_::_,_::_,_,_=>zcb _ _
 | x::a,y::b,z::c,h1,h2=>by
  rw[zcw] at h1 h2 ⊢;by_cases e1:x=y
  ·rw[if_pos e1] at h1;subst e1;by_cases e2:x=z
   ·rw[if_pos e2] at h2 ⊢;exact zgt h1 h2
   ·rw[if_neg e2] at h2 ⊢;exact h2
  ·rw[if_neg e1] at h1;have h1':=xdl h1;by_cases e2:y=z
   ·subst e2;rw[if_neg e1];exact h1
   ·rw[if_neg e2] at h2;have h2':=xdl h2;rw[if_neg (by lia)];exact xcj (by lia)
theorem zou:∀a b:List Int,lexLt a b=true\/a=b\/lexLt b a=true
 | [],[]=>.inr (.inl rfl)
 | [],_::_=>.inl (zcb _ _)
 | _::_,[]=>.inr (.inr (zcb _ _))
 | x::a,y::b=>by
  rw[zcw,zcw];by_cases e:x=y
  ·subst e;rw[if_pos rfl,if_pos rfl];rcases zou a b with h | h | h
   ·exact .inl h
   ·exact .inr (.inl (by rw[h]))
   ·exact .inr (.inr h)
  ·rw[if_neg e,if_neg (fun z=>e z.symm)];rcases Int.lt_or_gt_of_ne e with h | h
   ·exact .inl (xcj h)
   ·exact .inr (.inr (xcj h))
theorem zxd {a b:List Int}(h:lexLt a b=true):lexLt b a=false:=by
 cases e:lexLt b a with
 | false=>rfl
 | true=>have:=zgt h e;rw[zhn] at this;cases this
theorem zun {p q:Nat->Bool}(hpq:∀x,p x=true->q x=true):∀{l:List Nat} {y:Nat},y∈l->q y=true->p y=false->l.countP p < l.countP q
 | [],_,h,_,_=>nomatch h
 | x::l,y,h,h1,h2=>by
  have mono:∀l:List Nat,l.countP p<=l.countP q:=fun l=>List.countP_mono_left fun x _=>hpq x
  rcases xbp.mp h with rfl | h
  ·rw[xhv h1,xjx (by rw[h2];decide)];exact xmc (mono l)
  ·have ih:=zun hpq h h1 h2;by_cases c:p x=true
   ·rw[xhv c,xhv (hpq x c)];lia
   ·rw[xjx c];by_cases d:q x=true
    ·rw[xhv d];lia
    ·rw[xjx d];exact ih
noncomputable def rank (ks:List (List Int)) (i:Nat):Nat:=(List.range ks.length).countP fun k=>lexLt (ks.getD k []) (ks.getD i [])
theorem zky {ks:List (List Int)}{i j:Nat}(hi:i < ks.length)(hj:j < ks.length):lt (rank ks) i j=lexLt (ks.getD i []) (ks.getD j []):=by
 have up:∀{a b:Nat},a < ks.length->lexLt (ks.getD a []) (ks.getD b [])=true->rank ks a < rank ks b:=fun {a b} ha h =>
  zun (fun x hx=>zgt hx h) (xcd.mpr ha) h (zhn _)
 cases e:lexLt (ks.getD i []) (ks.getD j []) with
 | true=>exact xcj (up hi e)
 | false =>
  refine xcb fun h=>?_
  rcases zou (ks.getD i []) (ks.getD j []) with z | z | z
  ·rw[e] at z;cases z
  ·unfold rank at h;rw[z] at h;exact absurd h (xgp _)
  ·have:=up hj z;lia
section
variable {prog:Program}{w:World}{A:Around}{s:Shared}{b:Bool}{Q:Bool->Shared->Prop}
theorem zto:∀{us ws:List Value} {ns ms:List Int} (i:Nat),IntsAre us ns->IntsAre ws ms->Q (lexLt ns ms) s->KatLex prog w A b (decide (us.length < ws.length)) Q (us.zip ws) i s
 | _,_,_,_,_,.nil,.nil,h=>h
 | _,_,_,_,_,.nil,.cons _ _ _,h=>h
 | _,_,_,_,_,.cons _ _ _,.nil,h=>h
 | _,_,_,_,i,.cons x t (vs:=us) (ns:=ns) r1,.cons y u (vs:=ws) (ns:=ms) r2,h=>by
  rw[zcw] at h;refine kat_cons (wpAny_eqBool_int (kat_go (fun e=>kat_yes ?_) fun e=>kat_no ?_))
  ·rw[if_pos (eq_of_beq e)] at h;have q:=zto (i+1) r1 r2 h;have ee:decide ((Value.int x t::us).length < (Value.int y u::ws).length)=decide (us.length < ws.length):=by
    rw[xby,xby,xhe];simp
   rw[ee];exact q
  ·rw[if_neg (xfk.mp e)] at h;cases hb:(b&&i==0) with
   | true=>exact oneLt_int h
   | false=>exact kat_one _ _ (PyProof.Rows.lt_int h)
end
end Srt
namespace L2
open PySem PySem.Spec PyProof.Rows PySem.W
theorem zob:∀{as:List Addr} {us:List Value},Vals (as.map V.ref) us->us=as.map Value.ref
 | [],_,.nil=>rfl
 | a::as,_,.cons r t=>by
  rw[show _=Value.ref a from r,zob t]
  rfl
noncomputable def TupsAt (K:Fg) (H:Hp) (ps:List (Addr×List Int)):Prop:=∀p∈ps,SqT K H p.1 (p.2.map V.int)
theorem zj {α β:Type}(f:α->β)(d:β){l:List α}{i:Nat}{x:α}(h:l[i]?=some x):(l.map f).getD i d=f x:=by
 rw[xbi,xcn,h]
 rfl
section
variable {X:Cx}
end
end L2
namespace L2
open PySem PySem.Spec PyProof.Rows
mutual
inductive DAt (K:Fg) (H:Hp):V->PyData->Prop
 | non:DAt K H .non .none
 | bl (b:Bool):DAt K H (.bl b) (.bool b)
 | int (i:Int):DAt K H (.int i) (.int i)
 | str (x:Str):DAt K H (.str x) (.str x)
 | lst {a:Addr} {xs:List V} {ds:List PyData}:SqL K H a xs->DAll K H xs ds->DAt K H (.ref a) (.list ds)
 | tup {a:Addr} {xs:List V} {ds:List PyData}:SqT K H a xs->DAll K H xs ds->DAt K H (.ref a) (.tuple ds)
inductive DAll (K:Fg) (H:Hp):List V->List PyData->Prop
 | nil:DAll K H [] []
 | cons {x:V} {xs:List V} {d:PyData} {ds:List PyData}:DAt K H x d->DAll K H xs ds->DAll K H (x::xs) (d::ds)
end
section
variable {X:Cx}{aU:List (Addr×Obj)}{σ:St}{H:Hp}{s:Shared}
mutual
theorem zhg (I:Inv X aU σ H s):∀{v:V} {d:PyData} {u:Value},DAt X.K H v d->RelV v u->∃as,Reads s.heap u d as
 | _,_,_,.non,r=>by cases r;exact⟨_,.none⟩
 | _,_,_,.bl b,r=>by cases r;exact⟨_,.bool b⟩
 | _,_,_,.int i,r=>by obtain⟨t,rfl⟩:=r;exact⟨_,.int i t⟩
 | _,_,_,.str x,r=>by obtain⟨t,rfl⟩:=r;exact⟨_,.str x t⟩
 | _,_,_,.lst h all,r=>by
  cases r;obtain⟨its,rv,⟨o,n,e,c,_,dd⟩,_⟩:=I.list h;obtain⟨as,q⟩:=zft I all rv;exact⟨_,.list e c dd q⟩
 | _,_,_,.tup h all,r=>by
  cases r;obtain⟨its,rv,⟨o,e,c,n,dd⟩,_⟩:=I.tuple h;obtain⟨as,q⟩:=zft I all rv;exact⟨_,.tuple e c dd q⟩
theorem zft (I:Inv X aU σ H s):∀{vs:List V} {ds:List PyData} {us:List Value},DAll X.K H vs ds->Vals vs us->∃as,ReadsAll s.heap us ds as
 | _,_,_,.nil,.nil=>⟨_,.nil⟩
 | _,_,_,.cons h t,.cons r rs=>by
  obtain⟨as,q⟩:=zhg I h r;obtain⟨bs,q'⟩:=zft I t rs;exact⟨_,.cons q q'⟩
end
end
noncomputable def rEqX (K:Fg) (neg:Bool):R2:=fun x y H Q=>∃dx dy,DAt K H x dx/\DAt K H y dy/\PySem.SeqAt.shaped dx=true/\PySem.SeqAt.shaped dy=true/\Q (.bl (if neg then !PyData.eqv dx dy else PyData.eqv dx dy)) H
section
variable {X:Cx}
theorem zsv (hu:X.A.units+64 < cLine):OpR X (compareOp .Eq) (rEqX X.K false):=by
 intro aU s σ H x y v u Q I r1 r2 h;obtain⟨dx,dy,a1,a2,a3,a4,q⟩:=h;obtain⟨as,ra⟩:=zhg I a1 r1;obtain⟨bs,rb⟩:=zhg I a2 r2;exact eq_dataH ra rb a3 a4 hu ⟨.bl (PyData.eqv dx dy),H,I,rfl,q⟩
theorem zmp (hu:X.A.units+64 < cLine):OpR X (compareOp .NotEq) (rEqX X.K true):=by
 intro aU s σ H x y v u Q I r1 r2 h;obtain⟨dx,dy,a1,a2,a3,a4,q⟩:=h;obtain⟨as,ra⟩:=zhg I a1 r1;obtain⟨bs,rb⟩:=zhg I a2 r2;exact ne_dataH ra rb a3 a4 hu ⟨.bl (!PyData.eqv dx dy),H,I,rfl,q⟩
theorem zkr:∀{bs:List Bool} {us:List Value},Vals (bs.map V.bl) us->us=bs.map Value.bool
 | [],_,.nil=>rfl
 | b::bs,_,.cons r t=>by
  rw[show _=Value.bool b from r,zkr t]
  rfl
theorem zwi (bs:List Bool):((List.range bs.length).all fun i=>bs.getD i false)=bs.all id:=by
 rw[xhe];simp only[xcw,xcd];constructor
 ·intro h b hb;obtain⟨i,hi,rfl⟩:=xeh hb;have:=h i hi;rw[xbi,xbd hi] at this;exact this
 ·intro h i hi;rw[xbi,xbd hi];exact h _ (xcx hi)
noncomputable def rAny (K:Fg) (al:Bool):List V->Hp->VK->Prop:=fun xs H Q=>∃(l:Addr) (bs:List Bool),xs=[.ref l]/\SqL K H l (bs.map V.bl)/\Q (.bl (if al then bs.all id else bs.any id)) H
theorem zpz {prog:Program}{w:World}{A:Around}(bs:List Bool):TruthOf prog w A (fun i v=>(bs.map Value.bool).toArray[i]?=some v) (fun i=>bs.getD i false):=fun i v s Q E hP hQ=>by
 have hP':(bs.map Value.bool)[i]?=some v:=by simpa using hP
 rw[xcn] at hP';cases e:bs[i]? with
 | none=>rw[e] at hP';cases hP'
 | some b =>
  rw[e] at hP';cases hP';dsimp only at hQ;rw[xbi,e] at hQ;exact xgo hQ
theorem zbeh (hc:X.calm=true){aU:List (Addr×Obj)}{σ:St}{H:Hp}{s:Shared}{l:Addr}{bs:List Bool}{R:Bool->Prop}(I:Inv X aU σ H s)(hl:SqL X.K H l (bs.map V.bl)){Q:Value->Shared->Prop}{F:(Nat->Bool)->Nat->Bool}
  (hQ:∀s',Inv X aU σ H s'->Q (.bool (F (fun i=>bs.getD i false) bs.length)) s') :
  wpAny (model X.prog X.w) X.A.in1 (pyIter (.ref l)) (fun it s₂=>∃I fp wr n P St tr,it=.ref I/\Walks X.prog X.w X.A.in1 I fp wr n P St/\St 0 s₂.heap/\TruthOf X.prog X.w X.A.in1 P tr /\
   ∀h' tk,(∀b o,b∉wr->s₂.heap.get? b=some o->h'.get? b=some o)->Q (.bool (F tr n)) {s₂ with heap:=h',toks:=tk}) X.xe s:=by
 obtain⟨its,rv,pl,hz⟩:=I.list hl;have e:=zkr rv;subst e;have hlt:l < s.heap.objs.size:=by obtain⟨o,n,e,_⟩:=pl;exact xbv e
 refine xis pl.isList ?_;refine⟨s.heap.objs.size,_,[s.heap.objs.size],_,_,_,_,rfl,Walks.list (A:=X.A.in1) (I.ok.hd hc) _ l (xch hlt) (bs.map Value.bool).toArray,⟨⟨_,xce _ rfl,rfl,rfl⟩,pl.isList.push _⟩,zpz bs,fun h' tk hk=>?_⟩;have e2:(bs.map Value.bool).toArray.size=bs.length:=by simp
 rw[e2];refine hQ _ ?_;refine I.kept (t':=tk) fun b o e=>hk b o ?_ (xbm _ e)
 intro z;have z':b=s.heap.objs.size:=by simpa using z
 have z2:=xbv e;rw[z'] at z2;exact absurd z2 (xgp _)
theorem zbdy (hc:X.calm=true):CallR X (.builtin "all") (rAny X.K true):=by
 intro aU s σ H xs us Q I r h;obtain⟨l,bs,rfl,hl,q⟩:=h;obtain⟨u,rfl,ru⟩:=vals1 r;cases ru;refine call_all_walk (zbeh (R:=fun _=>True) hc I hl (F:=fun tr n=>(List.range n).all tr) fun s' I'=>⟨.bl ((List.range bs.length).all fun i=>bs.getD i false),H,I',rfl,?_⟩);rw[zwi];exact q
end
end L2
namespace Dct
open PySem PySem.W PyProof.Rows
noncomputable def Raw (h:Heap) (d:Addr) (es:Array DictEntry) (ep:Nat):Prop:=∃ob,h.get? d=some ob/\ob.ExactDict/\ob.data=.dict es ep
theorem Raw.kept {h h':Heap}{d:Addr}{es:Array DictEntry}{ep:Nat}(x:Raw h d es ep)(k:∀ob,h.get? d=some ob->h'.get? d=some ob):Raw h' d es ep :=
 let ⟨ob,e,r⟩:=x;⟨ob,k ob e,r⟩
theorem Raw.lt {h:Heap}{d:Addr}{es:Array DictEntry}{ep:Nat}(x:Raw h d es ep):d < h.objs.size:=let ⟨_,e,_⟩:=x;xbv e
theorem Raw.is {st:Shared}{d:Addr}{es:Array DictEntry}{ep:Nat}(x:Raw st.heap d es ep):st.TypeIs (.ref d) "dict":=let ⟨ob, e, c, _⟩:=x; ⟨ob, e, c.1⟩
section
variable {P:Program}{w:World}{B:Around}{E:Value->Shared->Prop}{st:Shared}{d it:Addr}{es:Array DictEntry}{ep k:Nat}
noncomputable def iterObj (d:Addr) (n ep:Nat):Obj:={ cls:=.type "dict_keyiterator", data:=.fields #[.ref d, .int 0 0, .int n 0, .int ep 0] }
theorem zsi {W:Value->Shared->Prop}(ns:(d==sysModules)=false)(x:Raw st.heap d es ep)(fin:W (.ref st.heap.objs.size) {st with heap:=st.heap.push (iterObj d es.size ep)}):wpAny (model P w) B (pyIter (.ref d)) W E st:=by
 obtain⟨ob,e,c,dt⟩:=id x;have ty:=x.is;refine xmi ty F.slot_dict_iter (xet F.slot_dict_iter ty F.entry_dict_iter ?body (F.args_dict_iter_1 _))
 case body =>
  unfold Builtin.«dict.__iter__» Builtin.Dict.dictSlotNone Builtin.Dict.showsAll;refine xba (xba (wpAny_notOrdered_dict ty (xbe ?_)));show wpAny _ _ ((if(d==sysModules)=true then _ else _) >>= _) _ _ st;rw[if_neg (fun z=>xfp (ns.symm.trans z))];refine xba (xbe (xba (xit e dt (xba (wpAny_dictEpoch e dt (xba (xek (xbe ⟨_, rfl, "dict_keyiterator", _,⟨_, xce _ rfl, rfl⟩, xfu.lookup, ?_⟩))))))))
  exact fin
theorem zsh {W:Option Value->Shared->Prop}{en:DictEntry}(hi:st.heap.IsKeyIter it d k es.size ep)(x:Raw st.heap d es ep)(hk:es[k]?=some en)
  (fin:∀g:Heap,g.IsKeyIter it d (k+1) es.size ep->Heap.SameBut it st.heap g->W (some en.key) {st with heap:=g}):wpAny (model P w) B (pyNext (.ref it)) W E st:=by
 obtain⟨oi,ei,ci,di⟩:=id hi;obtain⟨ob,e,c,dt⟩:=id x;have lt:k < es.size:=(xlz.mp hk).1;unfold pyNext;refine xba (xkm (wpAny_callSpecial?_slot (name:=Str.ofString "__next__") hi.typeIs xfu (xet xfu hi.typeIs F.entry_dict_keyiterator_next ?body (F.args_dict_keyiterator_next_1 _))))
 case body =>
  refine xba (xbe (xba (xba (xba (xgq hi.typeIs (xbe (xba (xln ei di ?_))))))));simp only[show Builtin.Dict_items.ownsTuple "dict_keyiterator"=false from by decide, xcl, ite_false]
  show wpAny _ _ (if(Value.ref d==Value.none)=true then _ else _) _ _ st;have nn:¬ (Value.ref d==Value.none)=true:=xfp;rw[if_neg nn];refine xba (xbe (xba (xit e dt ?_)));rw[if_neg (by simp)];refine xba (xbe (xba (wpAny_dictEpoch e dt ?_)));rw[if_neg (by simp)];refine xbe ?_;simp only[show ¬ ((k:Int) < 0) from by lia,ite_false,xec,hk];refine xba (xba (xgq hi.typeIs (xbe (xba (wpAny_isOneOf_keyiter hi.typeIs ?_)))));show wpAny _ _ (setField (.ref it) 1 (rawInt ((k:Int)+1)) >>= _) _ _ st;refine xba (xju ei di (by simp) ?_);have hi':(st.heap.update it (Obj.mapFields (·.setIfInBounds 1 (rawInt ((k:Int)+1))))).IsKeyIter it d (k+1) es.size ep :=
   ⟨_,xfn _ ei (xiu (xic di _)),(xmd ..).trans ci,by rw[xic di];simp[rawInt]⟩
  refine xba (xex (xba (wpAny_isOneOf_keyiter (s:={st with heap:=st.heap.update it (Obj.mapFields (·.setIfInBounds 1 (rawInt ((k:Int)+1))))}) hi'.typeIs ?_)));show wpAny _ _ (pure en.key) _ _ _;exact xbe (xbe ⟨_,rfl,xbe (fin _ hi' (xev ..))⟩)
theorem zyo {W:Option Value->Shared->Prop}(hh:B.handled=none)(hi:st.heap.IsKeyIter it d k es.size ep)(x:Raw st.heap d es ep)(hk:es.size<=k)
  (fin:∀g:Heap,Heap.ExtBut it st.heap g->W none {st with heap:=g}):wpAny (model P w) B (pyNext (.ref it)) W E st:=by
 obtain⟨oi,ei,ci,di⟩:=id hi;obtain⟨ob,e,c,dt⟩:=id x;unfold pyNext;refine xba (xkm (wpAny_callSpecial?_slot (name:=Str.ofString "__next__") hi.typeIs xfu (xet xfu hi.typeIs F.entry_dict_keyiterator_next ?body (F.args_dict_keyiterator_next_1 _))))
 case body =>
  refine xba (xbe (xba (xba (xba (xgq hi.typeIs (xbe (xba (xln ei di ?_))))))));simp only[show Builtin.Dict_items.ownsTuple "dict_keyiterator"=false from by decide, xcl, ite_false]
  show wpAny _ _ (if(Value.ref d==Value.none)=true then _ else _) _ _ st;have nn:¬ (Value.ref d==Value.none)=true:=xfp;rw[if_neg nn];refine xba (xbe (xba (xit e dt ?_)));rw[if_neg (by simp)];refine xba (xbe (xba (wpAny_dictEpoch e dt ?_)));rw[if_neg (by simp)];refine xbe ?_;simp only[show ¬ ((k:Int) < 0) from by lia,ite_false,xec,xkj hk];refine xba (xba (xgq hi.typeIs (xbe ?_)));show wpAny _ _ (setField (.ref it) 0 .none >>= _) _ _ st;refine xba (xju ei di (by simp) ?_);show wpAny _ _ (newExc (.type "StopIteration") [] >>= _) _ _ _
  refine xba ?_;simp only[newExc,newTuple];refine xba (xek (xba (m:=firstArgMember _ _) (wpAny_of_eq (a:=Value.none) (by first | rfl | (simp only[firstArgMember];rfl)) (xek ?_ (by size_fits)))) (by size_fits));simp only[raiseNew];refine xba (wpAny_handled ?_);rw[show B.in1.handled=none from hh];refine xba (xbe (wpAny_throw ?_));refine xba (wpAny_isInstance (T:="StopIteration") (b:=true) ?_ isSubtype_stop (xbe (fin _ (((xev ..).extBut.push _).push _))))
  exact⟨_,xce _ rfl,rfl⟩
theorem zwg (hh:B.handled=none)(ne:d≠it)(es:Array DictEntry)(ep:Nat) :
  Walks P w B it [it,d] [it] es.size (fun i v=>∃en,es[i]?=some en/\v=en.key) (fun i h=>h.IsKeyIter it d i es.size ep/\Raw h d es ep) where
 sub:=fun b hb=>xbp.mpr (.inl (xbq.mp hb))
 frame:=fun _ _ _ z hk=>⟨z.1.at fun o e=>hk it xbn o e,z.2.kept fun o e=>hk d (xbk _ (xbq.mpr rfl)) o e⟩
 item:=fun i sh W' E' hi z hQ=>by
  have hx:es[i]?=some es[i]:=xda hi;exact zsh z.1 z.2 hx fun g a b=>hQ es[i].key g sh.toks ⟨_,hx,rfl⟩ ⟨a,z.2.kept fun o e=>b.extBut d o ne e⟩ fun c o hc e=>b.extBut c o (fun q=>hc (xbq.mpr q)) e
 done:=fun sh W' E' z hQ=>zyo hh z.1 z.2 (xbf _) fun g b=>hQ g sh.toks fun c o hc e=>b c o (fun q=>hc (xbq.mpr q)) e
 self:=fun _ _ _ _ z hQ=>wpAny_pyIter_keyiter z.1 hQ
theorem zbfs (ns:(d==sysModules)=false)(es:Array DictEntry)(ep:Nat):KdlSrc P w "dict" d d es.size (fun i v=>∃ en, es[i]?=some en/\v=en.key) (fun h=>Raw h d es ep) where
 type:=fun _ x=>x.is
 there:=fun _ x=>⟨x.lt,x.lt⟩
 keep:=fun _ _ x hk=>x.kept fun o e=>hk d (.inl rfl) o e
 notList:=by decide
 notTuple:=by decide
 hint:=fun _ _ _ _ x hq=>kdl_hint_dict x.is hq
 iter:=fun _ sh hh x=>⟨_,_,fun _ _ hq=>zsi ns x hq,zwg hh (xch x.lt) es ep,⟨⟨_,xce _ rfl,rfl,rfl⟩,x.kept fun o e=>xbm _ e⟩⟩
end
end Dct
namespace Srt
open PySem PySem.W PyProof.Rows
section
variable {P:Program}{w:World}{B:Around}{E:Value->Shared->Prop}{st:Shared}
end
end Srt
namespace L2
open PySem PySem.Spec PyProof.Rows
theorem ObjOk.ob {P:Program}{w:World}{H:Hp}{h:Heap}{a:Addr}{o:HO}(x:ObjOk P w H h a o):∃ob,h.get? a=some ob:=by
 cases o with
 | lst xs=>obtain⟨_,_,_,_,e⟩:=x;exact⟨_,e⟩
 | tup xs=>obtain⟨_,_,_,ob,e,_⟩:=x;exact⟨_,e⟩
 | dK kvs=>obtain⟨_,_,_,_,ob,_,_,e,_⟩:=x;exact⟨_,e⟩
 | dT kvs=>obtain⟨_,_,_,_,ob,_,_,e,_⟩:=x;exact⟨_,e⟩
 | set S n=>obtain⟨ob,_,_,_,e,_⟩:=x;exact⟨_,e⟩
 | ins C dx fs=>obtain⟨_,_,_,e,_⟩:=x;exact⟨_,e⟩
 | own y=>obtain⟨_,e⟩:=x;exact⟨_,e⟩
 | xd fs=>obtain⟨_,⟨_,_,_,e,_⟩,_⟩:=x;exact⟨_,e⟩
 | rng lo hi=>obtain⟨_,_,_,e⟩:=x;exact⟨_,e⟩
 | frz ob u=>obtain⟨e,_⟩:=x;exact⟨_,e⟩
 | tbl ps=>exact⟨_,(show h.get? a=some _ from x)⟩
 | met f y=>exact⟨_,(show h.get? a=some _ from x)⟩
 | ext φ=>obtain⟨_,⟨_,e⟩,_⟩:=x;exact⟨_,e⟩
section
variable {X:Cx}{aU:List (Addr×Obj)}{σ:St}{H:Hp}{s:Shared}
theorem Inv.away (I:Inv X aU σ H s){q:Addr}(ne:∀b ob,s.heap.get? b=some ob->b≠q):H q=none:=by
 cases e:H q with
 | none=>rfl
 | some o =>
  obtain⟨ob,z⟩:=(I.hok q o e).ob;exact absurd rfl (ne q ob z)
theorem Inv.laidN {q:Addr}{o:HO}{g:Heap}{t':Nat}(I:Inv X aU σ H s)(k:∀b u,s.heap.get? b=some u->g.get? b=some u)(ne:∀b ob,s.heap.get? b=some ob->b≠q)(new:ObjOk X.prog X.w (upd H q o) g q o) :
  Inv X aU σ (upd H q o) {s with heap:=g,toks:=t'}:=by
 have hn:=I.away ne;have off:∀{b:Addr} {u:HO},H b=some u->upd H q o b=some u:=fun {b u} e=>by rw[zt (zl e hn)];exact e
 refine I.un ⟨fun b u e _ _ _=>k b u e,fun b u e _ _ _=>⟨u.slots,k b u e⟩,fun b u e n _=>by rw[zt (ne b u e)];exact n,fun b u e _=>⟨u,k b u e⟩,fun b xs e=>off e,fun b ob u e=>off e,fun b ps e=>⟨#[],by rw[off e];simp⟩⟩ fun b u e=>?_
 by_cases hb:b=q
 ·subst hb;rw[zr] at e;cases e;exact new
 ·rw[zt hb] at e;exact(I.hok b u e).stay (fun c v _ z=>k c v z) (fun c z=>off z) fun c xs z=>off z
end
theorem zzc (ns:List Int):(ns.map (Sum.inl:Int->Key)).map kV=ns.map V.int:=by rw[xcy];rfl
theorem zlt {P:Program}{w:World}{H:Hp}{kvs:List (List Key×V)}:∀{ks:List (List Int)} {xs:List (List Key×Addr×Value)},
  Paired (fun(p:List Key×V) (q:List Key×Addr×Value)=>p.1=q.1/\H q.2.1=some (.tup (p.1.map kV))/\RelV p.2 q.2.2) kvs xs->kvs.map (·.1)=ks.map (fun ns=>ns.map Sum.inl) ->
   ∃ps:List (Addr×List Int),ps.map (·.2)=ks/\(∀p∈ps,H p.1=some (.tup (p.2.map V.int)))/\xs.map (fun q=>(entryOfKey (tupleKind (mixKind P w)) q).key)=ps.map fun p=>Value.ref p.1:=by
 induction kvs with
 | nil =>
  intro ks xs r e;cases r;cases ks with
  | nil=>exact⟨[],rfl,fun p hp=>(nomatch hp),rfl⟩
  | cons x ks=>cases e
 | cons kv kvs ih =>
  intro ks xs r e;cases r with
  | cons r rs =>
   cases ks with
   | nil=>cases e
   | cons ns ks =>
    rw[xbt,xbt] at e;injection e with e1 e2
    obtain⟨ps,a1,a2,a3⟩:=ih rs e2;rename_i b _;obtain⟨r1,r2,r3⟩:=r;refine⟨(b.2.1,ns)::ps,by rw[xbt,a1],fun p hp=>?_,by rw[xbt,xbt,a3];rfl⟩;rcases xbp.mp hp with z | z
    ·subst z;rw[e1,zzc] at r2;exact r2
    ·exact a2 p z
open PySem.W in
theorem zbei {P:Program}{w:World}{B:Around}{sg:Shared}{ps:List (Addr×List Int)}(h2:2<=ps.length)
  (tup:∀(i:Nat) (p:Addr×List Int), ps[i]?=some p->∃(us:List Value) (o:Obj) (n:Nat), IntsAre us p.2/\sg.heap.get? p.1=some o/\o.cls=.type "tuple"/\o.data=.seq us.toArray n/\p.2≠[]) :
  Srt.Answers P w B (Srt.rank (ps.map (·.2))) (ps.map fun p=>Value.ref p.1) sg:=by
 refine⟨tuples' true,fun R hq=>?_,fun i j C hi hj hC=>?_⟩
 ·have kt:∀(l:List (Addr×List Int)),(∀p∈l,∃i:Nat,ps[i]?=some p)->∃fs:List Value,KatTups sg.heap (l.map fun p=>Value.ref p.1) fs/\fs.length=l.length/\∀v∈fs,∃i t,v=Value.int i t:=fun l=>by
   induction l with
   | nil=>intro _;exact⟨[],KatTups.nil,rfl,fun v hv=>(nomatch hv)⟩
   | cons p l ih =>
    intro hp;obtain⟨fs,b1,b2,b3⟩:=ih fun p' hp'=>hp p' (xbk _ hp')
    obtain⟨i,hi⟩:=hp p xbn;obtain⟨us,o,n,a1,a2,a3,a4,a5⟩:=tup i p hi;obtain⟨pa,pn⟩:=p;dsimp only at a1 a2 a3 a4 a5;cases a1 with
    | nil=>exact absurd rfl a5
    | cons x t r=>exact⟨Value.int x t::fs,KatTups.cons a2 a3 a4 rfl b1,by rw[xby,xby,b2],fun v hv=>(xbp.mp hv).elim (fun z=>⟨x,t,z⟩) (b3 v)⟩
  obtain⟨fs,b1,b2,b3⟩:=kt ps fun p hp=>List.mem_iff_getElem?.mp hp
  exact kat_kind (T:=.type "int") b1 (by lia) (fun v hv=>by
   obtain⟨i,t,rfl⟩:=b3 v hv
   exact Looks.of_pure rfl) rfl hq
 ·rw[xbb] at hi hj;have ei:ps[i]?=some ps[i]:=xbd hi;have ej:ps[j]?=some ps[j]:=xbd hj;obtain⟨us,o,n,a1,a2,a3,a4,a5⟩:=tup i _ ei;obtain⟨us2,o2,n2,c1,c2,c3,c4,c5⟩:=tup j _ ej;unfold kas_ask;rw[zj (fun p:Addr×List Int=>Value.ref p.1) _ ei,zj (fun p:Addr×List Int=>Value.ref p.1) _ ej];refine kat_lt a2 a4 c2 c4 (Srt.zto 0 a1 c1 ?_);rw[Srt.zky (by rw[xbb];exact hi) (by rw[xbb];exact hj),zj (fun p:Addr×List Int=>p.2) _ ei,zj (fun p:Addr×List Int=>p.2) _ ej] at hC;exact hC
theorem zsr {ps:List (Addr×List Int)}{p:Array Nat}(p1:p.Perm (List.toArray (List.range ps.length)))(p2:Srt.Up (Srt.rank (ps.map (·.2))) p ps.length) :
  ∃qs:List (Addr×List Int),qs.Perm ps/\(qs.map (·.2)).Pairwise (fun x y=>HT.lexLt y x=false)/\Srt.outOf (ps.map fun p=>Value.ref p.1) p=(qs.map fun p=>Value.ref p.1).toArray:=by
 have hps:p.size=ps.length:=by rw[p1.size_eq];simp
 have sm:∀i∈p.toList,i < ps.length:=fun i hi=>by
  have h3:=(p1.mem_iff (a:=i)).mp (by rw[← xkv];exact hi);exact xcd.mp (List.mem_toArray.mp h3)
 refine⟨p.toList.map fun i=>ps.getD i (0,[]),?_,?_,?_⟩
 ·have e1:p.toList.Perm (List.range ps.length):=by
   have:=xfg.mp p1
   simpa using this
  have e2:=e1.map fun i=>ps.getD i (0,[])
  have e3:((List.range ps.length).map fun i=>ps.getD i (0,[]))=ps:=by
   apply xmn
   ·simp
   ·intro i h1 h2;simp[xbi,h2]
  rw[e3] at e2;exact e2
 ·rw[xcy,xfl];intro i j hi hj hij;rw[xkn,xkn];rw[xbb] at hi hj;have hi':i < p.size:=by simpa using hi
  have hj':j < p.size:=by simpa using hj
  have hu:=p2 i j (xbx hij) (by lia);have g:∀k,(hk:k < p.toList.length)->p.getD k 0=p.toList[k]:=fun k hk=>by
   have hk':k < p.size:=by simpa using hk
   rw[xct,xda hk'];simp
  have si:=sm _ (xcx hi);have sj:=sm _ (xcx hj);have lk:=Srt.zky (ks:=ps.map (·.2)) (i:=p.toList[j]) (j:=p.toList[i]) (by rw[xbb];exact sj) (by rw[xbb];exact si);have hno:Srt.lt (Srt.rank (ps.map (·.2))) p.toList[j] p.toList[i]=false:=by
   refine xcb fun z=>?_
   unfold Srt.At at hu;rw[g i hi,g j hj] at hu;lia
  rw[hno] at lk;have v:∀k,k < ps.length->(ps.map (·.2)).getD k []=(ps.getD k (0,[])).2:=fun k hk=>by
   have ek:ps[k]?=some ps[k]:=xbd hk;rw[zj (fun p:Addr×List Int=>p.2) _ ek,xbi,ek]
   rfl
  rw[v _ sj,v _ si] at lk;exact lk.symm
 ·unfold Srt.outOf;rw[xcy]
  congr 1
  refine xjj fun i hi=>?_
  have hi2:=sm i hi;have ei:ps[i]?=some ps[i]:=xbd hi2;rw[zj (fun p:Addr×List Int=>Value.ref p.1) _ ei];show _=Value.ref (ps.getD i (0,[])).1;rw[xbi,ei]
  rfl
section
variable {X:Cx}
end
section
variable {X:Cx}{aU:List (Addr×Obj)}{σ:St}{H:Hp}{s:Shared}
theorem Inv.freeze {a:Addr}{kvs:List (List Key×V)}{ob:Obj}(I:Inv X aU σ H s)(h:H a=some (.dT kvs))(e:s.heap.get? a=some ob):Inv X aU σ (upd H a (.frz ob (.dT kvs))) s:=by
 have off:∀{b:Addr} {u:HO},H b=some u->(∀l,u≠.dT l)->upd H a (.frz ob (.dT kvs)) b=some u:=fun {b u} q n=>by
  rw[zt (by rintro rfl;rw[h] at q;cases q;exact n _ rfl)];exact q
 have z:=I.un (h':=s.heap) (t':=s.toks) (H':=upd H a (.frz ob (.dT kvs))) ⟨fun b u q _ _ _=>q,fun b u q _ _ _=>⟨u.slots,q⟩,fun b u q n _=>by
   rw[zt (by rintro rfl;rw[h] at n;cases n)];exact n,fun b u q _=>⟨u,q⟩,fun b xs q=>off q (fun l z=>by cases z),fun b o u q=>off q (fun l z=>by cases z),fun b ps q=>⟨#[],by rw[off q (fun l z=>by cases z)];simp⟩⟩ (fun b u q=>by
   by_cases hb:b=a
   ·subst hb;rw[zr] at q;cases q;exact⟨e,(I.hok b _ h).stay (fun c v _ r=>r) (fun c r=>off r (fun l z=>by cases z)) fun c xs r=>off r (fun l z=>by cases z)⟩
   ·rw[zt hb] at q
    exact(I.hok b u q).stay (fun c v _ r=>r) (fun c r=>off r (fun l z=>by cases z)) fun c xs r=>off r (fun l z=>by cases z))
 exact z
end
noncomputable def Itd (a:Addr) (ob:Obj) (kvs:List (List Key×V)) (ps:List (Addr×List Int)):It :=
 ⟨fun i H=>i < ps.length/\H a=some (.frz ob (.dT kvs)),fun i H x H'=>H'=H/\∃p,ps[i]?=some p/\x=.ref p.1,fun i H=>ps.length<=i/\H a=some (.frz ob (.dT kvs))⟩
theorem zvw {P:Program}{w:World}{K:Fg}{tg:Expr}{a it:Addr}{ob:Obj}{kvs:List (List Key×V)}{ps:List (Addr×List Int)}{es:Array DictEntry}{ep:Nat}(ex:ob.ExactDict)(dt:ob.data=.dict es ep)
  (hk:es.toList.map (·.key)=ps.map fun p=>Value.ref p.1):Turn P w K tg (Itd a ob kvs ps) [it] it (fun i h=>h.IsKeyIter it a i es.size ep) where
 mem:=xbq.mpr rfl
 obj:=fun i h st b hb=>by
  have e:b=it:=xbq.mp hb;subst e;obtain⟨o,e,c,d⟩:=st;exact⟨o,e,fun v z=>by rw[d] at z;cases z⟩
 keep:=fun i h h' st k=>st.at fun o e=>k it (xbq.mpr rfl) o e
 item:=by
  intro Y hP hw hK hc i aU s σ H E I hf st hg;subst hP hw hK;obtain⟨hi,hz⟩:=hg;have hsz:es.size=ps.length:=by
   have:=congrArg List.length hk
   rwa [xbb,xbb,xcc] at this
  obtain⟨eo,_⟩:=(show ObjOk Y.prog Y.w H s.heap a (.frz ob (.dT kvs)) from I.hok a _ hz)
  obtain⟨f0,f1,f2,f3,f4,f5⟩:=hf it (xbq.mpr rfl);have hen:es[i]?=some es[i]:=xda (by lia);have hpi:ps[i]?=some ps[i]:=xbd hi;have hkey:es[i].key=Value.ref ps[i].1:=by
   have q:=congrArg (fun l=>l[i]?) hk;simp only[xcn,xcf,hen,hpi] at q;exact xcv q
  refine Dct.zsh st ⟨ob,eo,ex,dt⟩ hen fun g st' sb=>?_
  have I1:Inv Y aU σ H {s with heap:=g}:=I.turned (t':=s.toks) (fun b o hb e=>sb.extBut b o hb e) f0 f1 f3 f4 f5;obtain⟨o,e,c,d⟩:=id st';exact⟨_,rfl,zbkp (s:={s with heap:=g}) e c d (by decide) ⟨.ref ps[i].1,H,I1,hkey,⟨rfl,ps[i],hpi,rfl⟩,st',fun b hb=>(hf b hb).1⟩⟩
 done:=by
  intro Y hP hw hK hc i aU s σ H E I hf st hg;subst hP hw hK;obtain⟨hi,hz⟩:=hg;have hsz:es.size=ps.length:=by
   have:=congrArg List.length hk
   rwa [xbb,xbb,xcc] at this
  obtain⟨eo,_⟩:=(show ObjOk Y.prog Y.w H s.heap a (.frz ob (.dT kvs)) from I.hok a _ hz)
  obtain⟨f0,f1,f2,f3,f4,f5⟩:=hf it (xbq.mpr rfl);exact Dct.zyo (I.ok.hd hc) st ⟨ob,eo,ex,dt⟩ (by lia) fun g eb=>⟨rfl,I.turned (t':=s.toks) (fun b o hb e=>eb b o hb e) f0 f1 f3 f4 f5⟩
 self:=fun _ _ _ _ _ st h=>wpAny_pyIter_keyiter st h
noncomputable def iDct (td:TE):TI:=fun σ H R=>td σ H fun x H1=>∃(a:Addr) (kvs:List (List Key×V)) (ks:List (List Int)),x=.ref a/\H1 a=some (.dT kvs)/\kvs.map (·.1)=ks.map (fun ns=>ns.map Sum.inl) /\
 ∀(ob:Obj) (ps:List (Addr×List Int)),ps.map (·.2)=ks->(∀p∈ps,H1 p.1=some (.tup (p.2.map V.int)))->R (Itd a ob kvs ps) (upd H1 a (.frz ob (.dT kvs)))
theorem zbgk {X:Cx}{tg l:Expr}{td:TE}(hl:PE X l td):PI X tg l (iDct td):=by
 intro aU s σ H R I h;refine thn (hl aU s σ H _ I h) fun v s1 hq0=>?_
 obtain⟨x,H1,I1,r1,q1⟩:=hq0;obtain⟨a,kvs,ks,rfl,hd,ek,q⟩:=q1;cases r1;obtain⟨z,ns,ys,rel,ob,es,ep,e1,e2,e3,e4,e5⟩:=(show ObjOk X.prog X.w H1 s1.heap a (.dT kvs) from I1.hok a _ hd)
 obtain⟨ps,a1,a2,a3⟩:=zlt (P:=X.prog) (w:=X.w) rel ek;have hes:es.toList.map (·.key)=ps.map fun p=>Value.ref p.1:=by rw[e4,xcy];exact a3
 refine Dct.zsi ns ⟨ob,e1,e2,e3⟩ ?_;have I2:=I1.freeze hd e1;refine⟨s1.heap.objs.size,[s1.heap.objs.size],_,_,_,rfl,I2.kept (t':=s1.toks) fun b o e=>xbm _ e,zvw e2 e3 hes,⟨_,xce _ rfl,rfl,rfl⟩,fun b hb=>?_,q ob ps a1 a2⟩;have e:b=s1.heap.objs.size:=xbq.mp hb;subst e;exact I2.fpOk (xbf _) (I2.hok.fresh (xbf _))
section
variable {g:TG}{tc:TT}{te:TE}{Q:VK}{σ:St}{H:Hp}{p:Addr}
end
end L2
namespace L2
open PySem PySem.Spec PyProof.Rows PySem.W
noncomputable def TupsG (g:Heap) (ps:List (Addr×List Int)):Prop:=∀ p∈ps, ∃(us:List Value) (o:Obj) (n:Nat), IntsAre us p.2/\g.get? p.1=some o/\o.cls=.type "tuple"/\o.data=.seq us.toArray n
section
variable {P:Program}{w:World}{B:Around}{E:Value->Shared->Prop}{sg:Shared}
theorem zpa:∀{ps:List (Addr×List Int)},TupsG sg.heap ps->∃fs:List (Option Value),fs.map Option.isSome=ps.map (fun p=>!p.2.isEmpty)/\∀(W:List (Option Value)->Shared->Prop),W fs sg->wpAny (model P w) B ((ps.map fun p=>Value.ref p.1).mapM firstOfTuple') W E sg
 | [],_=>⟨[],rfl,fun W h=>by rw[xml,List.mapM_nil];exact xbe h⟩
 | p::ps,h=>by
  obtain⟨fs,f1,f2⟩:=zpa (ps:=ps) fun q hq=>h q (xbk _ hq)
  obtain⟨us,o,n,a1,a2,a3,a4⟩:=h p xbn;refine⟨us.toArray[0]?::fs,?_,fun W hW=>?_⟩
  ·rw[xbt,xbt,f1]
   congr 1
   obtain⟨pa,pn⟩:=p;dsimp only at a1 ⊢;cases a1 with
   | nil=>rfl
   | cons x t r=>rfl
  ·rw[xbt,List.mapM_cons];have ty:Looks (model P w) sg.heap (typeOf (.ref p.1)) o.cls:=(Looks.ld a2).andThen .now;refine xba ?_;rw[kas_first_eq];refine xba (Looks.here ty ?_);rw[a3,if_neg (by first | decide | simp)];exact xba (listItems_at a2 a4 (xbe (xba (f2 _ (xbe hW)))))
theorem ztl (x y:Value):keyLt' general' x y=oneLt' false x y:=rfl
theorem zbeg {κ:SortKind}(hκ:κ=general'\/κ=oneType')(hu:B.units < cLine){a b:Addr×List Int}(ha:TupsG sg.heap [a])(hb:TupsG sg.heap [b]){C:Bool->Shared->Prop}(hC:C (HT.lexLt a.2 b.2) sg) :
  wpAny (model P w) B (keyLt' κ (.ref a.1) (.ref b.1)) C E sg:=by
 obtain⟨us,o,n,a1,a2,a3,a4⟩:=ha a xbn;obtain⟨us2,o2,n2,b1,b2,b3,b4⟩:=hb b xbn;rcases hκ with rfl | rfl
 ·rw[ztl];exact kat_one _ _ (HT.zlh (items:=us.toArray) (items2:=us2.toArray) ⟨o,a2,a3,n,a4⟩ ⟨o2,b2,b3,n2,b4⟩ a1 b1 hu hC)
 ·rw[keyLt'_oneType,oneLt'_eq];simp only[ite_true];refine xba (wpAny_cRoomFor hu (xba (wpAny_callSpecialIfBound?_slot (T:="tuple") ⟨o, a2, a3⟩ xkr ?_)))
  obtain⟨cls,dd,data,sl⟩:=o;obtain⟨cls2,dd2,data2,sl2⟩:=o2;dsimp only at a3 a4 b3 b4;subst a3 a4 b3 b4;exact call_meets xkr ⟨_,a2,rfl⟩ F.entry_tuple_lt (F.args_tuple_lt_2 _ _) (HT.zgg a.1 b.1 us.toArray us2.toArray n n2 dd dd2 sl sl2 a.2 b.2 a1 b1) ⟨a2,b2,xgo hC⟩
theorem zbej {ps:List (Addr×List Int)}(hu:B.units < cLine)(tup:TupsG sg.heap ps)(emp:∃p∈ps,p.2=[]):Srt.Answers P w B (Srt.rank (ps.map (·.2))) (ps.map fun p=>Value.ref p.1) sg:=by
 obtain⟨fs,f1,f2⟩:=zpa (P:=P) (w:=w) (B:=B) (E:=fun _ _=>False) tup;have notAll:¬ (fs.toArray.all fun x=>x.isSome)=true:=fun z=>by
  have z':fs.all (fun x=>x.isSome)=true:=by simpa using z
  obtain⟨p,hp,he⟩:=emp;have m:(!p.2.isEmpty)∈fs.map Option.isSome:=by rw[f1];exact List.mem_map_of_mem (f:=fun p:Addr×List Int=>!p.2.isEmpty) hp
  obtain⟨o,ho,e⟩:=xbr.mp m;have:=xcw.mp z' o ho;rw[e,he] at this;cases this
 have cmp:∀{κ:SortKind},κ=general'\/κ=oneType'->∀i j C,i < (ps.map fun p=>Value.ref p.1).length->j < (ps.map fun p=>Value.ref p.1).length->C (Srt.lt (Srt.rank (ps.map (·.2))) i j) sg->kas_ask P w B κ (ps.map fun p=>Value.ref p.1) i j C sg:=fun {κ} hκ i j C hi hj hC=>by
  rw[xbb] at hi hj;have ei:ps[i]?=some ps[i]:=xbd hi;have ej:ps[j]?=some ps[j]:=xbd hj;unfold kas_ask;rw[zj (fun p:Addr×List Int=>Value.ref p.1) _ ei,zj (fun p:Addr×List Int=>Value.ref p.1) _ ej];rw[Srt.zky (by rw[xbb];exact hi) (by rw[xbb];exact hj),zj (fun p:Addr×List Int=>p.2) _ ei,zj (fun p:Addr×List Int=>p.2) _ ej] at hC;have one:∀k,(hk:k < ps.length)->TupsG sg.heap [ps[k]]:=fun k hk q hq=>by
   rw[xbq.mp hq];exact tup _ (xcx hk)
  exact zbeg hκ hu (one i hi) (one j hj) hC
 by_cases fst:(fs.toArray[0]?.bind id).isSome=true
 ·refine⟨general',fun R hR=>?_,cmp (.inl rfl)⟩;rw[kat_kind_eq,xme,xmu];refine xba (xba (f2 _ (xbe ?_)));rw[if_neg notAll,if_pos fst];exact xbe hR
 ·refine⟨oneType',fun R hR=>?_,cmp (.inr rfl)⟩;rw[kat_kind_eq,xme,xmu];refine xba (xba (f2 _ (xbe ?_)));rw[if_neg notAll,if_neg fst,oneTypeOnly'_eq,xme,xmu];have ty:∀ v∈(ps.map fun p=>Value.ref p.1), ∀ W:Value->Shared->Prop, W (.type "tuple") sg->wpAny (model P w) B (typeOf v) W (fun _ _=>False) sg:=fun v hv W hW=>by
   obtain⟨p,hp,rfl⟩:=xbr.mp hv;obtain⟨us,o,n,a1,a2,a3,a4⟩:=tup p hp;have lk:Looks (model P w) sg.heap (typeOf (.ref p.1)) o.cls:=(Looks.ld a2).andThen .now;rw[a3] at lk;exact lk.here hW
  refine xba (xba (xba (kas_mapM (r:=Value.type "tuple") _ ty (xbe ?_))))
  obtain⟨p,hp,_⟩:=emp;obtain⟨p0,rest,rfl⟩:∃p0 rest,ps=p0::rest:=by
   cases ps with
   | nil=>exact nomatch hp
   | cons p0 rest=>exact⟨p0,rest,rfl⟩
  have all:((List.map (fun _=>Value.type "tuple") ((p0::rest).map fun p=>Value.ref p.1)).toArray.all fun x=>x==Value.type "tuple")=true:=by
   rw[List.all_toArray,xcw];intro x hx;obtain⟨_,_,rfl⟩:=xbr.mp hx
   rfl
  have zero:(List.map (fun _=>Value.type "tuple") ((p0::rest).map fun p=>Value.ref p.1)).toArray[0]?=some (Value.type "tuple"):=by simp
  rw[zero];simp only[all,ite_true];exact xbe (xbe hR)
theorem zbah {ps:List (Addr×List Int)}(hu:B.units < cLine)(h2:2<=ps.length)(tup:TupsG sg.heap ps):Srt.Answers P w B (Srt.rank (ps.map (·.2))) (ps.map fun p=>Value.ref p.1) sg:=by
 by_cases c:∃p∈ps,p.2=[]
 ·exact zbej hu tup c
 ·refine zbei h2 fun i p hi=>?_
  have hp:=xca hi;obtain⟨us,o,n,a1,a2,a3,a4⟩:=tup p hp;exact⟨us,o,n,a1,a2,a3,a4,fun z=>c ⟨p,hp,z⟩⟩
end
theorem zha (z:List (Addr×List Int)):Vals (z.map fun p=>V.ref p.1) (z.map fun p=>Value.ref p.1):=by
 induction z with
 | nil=>exact .nil
 | cons x z ih=>exact .cons rfl ih
section
variable {X:Cx}
end
end L2
namespace TS
open PySem PyProof.Rows
noncomputable def kA (R:Keyed->Nat) (xs:Array Keyed) (i:Nat):Nat:=match xs[i]? with
 | some p=>R p
 | none=>0
theorem zde {R:Keyed->Nat}{xs ys:Array Keyed}{i j:Nat}(h:xs[i]?=ys[j]?):kA R xs i=kA R ys j:=by unfold kA;rw[h]
theorem zdo {R:Keyed->Nat}{xs:Array Keyed}{i:Nat}{x:Keyed}(h:xs[i]?=some x):kA R xs i=R x:=by unfold kA;rw[h]
noncomputable def UpA (R:Keyed->Nat) (xs:Array Keyed) (a b:Nat):Prop:=∀i j,a<=i->i<=j->j < b->kA R xs i<=kA R xs j
noncomputable def DnA (R:Keyed->Nat) (xs:Array Keyed) (a b:Nat):Prop:=∀i j,a<=i->i<=j->j < b->kA R xs j<=kA R xs i
section
variable {prog:Program}{w:World}{A:Around}{E:Value->Shared->Prop}{s:Shared}{κ:SortKind}{a₀:Array Keyed}{R:Keyed->Nat}
noncomputable def Orc (prog:Program) (w:World) (A:Around) (s:Shared) (κ:SortKind) (a₀:Array Keyed) (R:Keyed->Nat):Prop :=
 ∀x,x∈a₀.toList->∀y,y∈a₀.toList->∀(C:Bool->Shared->Prop),C (decide (R x < R y)) s->wpAny (model prog w) A (keyLt' κ x.1 y.1) C (fun _ _=>False) s
structure B (κ:SortKind) (a₀:Array Keyed) (st:SortSt):Prop where
 perm:(arrOf st).Perm a₀
 kind:kindOf st=κ
 failed:failedOf st=none
theorem B.size {st:SortSt}(h:B κ a₀ st):(arrOf st).size=a₀.size:=h.perm.size_eq
theorem B.set {st:SortSt}(h:B κ a₀ st){xs:Array Keyed}(hp:xs.Perm (arrOf st)):B κ a₀ (setArr st xs):=⟨hp.trans h.perm,h.kind,h.failed⟩
theorem B.mem {st:SortSt}(h:B κ a₀ st){i:Nat}(hi:i < a₀.size):∃x,(arrOf st)[i]?=some x/\x∈a₀.toList:=by
 have hi':i < (arrOf st).size:=by rw[h.size];exact hi
 exact⟨_,getElem?_pos _ i hi',(xfg.mp h.perm).mem_iff.mp (by simp)⟩
theorem w_lt {x y:Keyed}{st:SortSt}{Q:Option Bool->SortSt->Prop}(O:Orc prog w A s κ a₀ R)(hk:kindOf st=κ)(hx:x∈a₀.toList)(hy:y∈a₀.toList)(h:Q (some (decide (R x < R y))) st):wpS (model prog w) A E s (lt' x y) Q st:=by
 rw[lt'_eq];refine xbl (xhz ?_);rw[hk];refine xbl (xkq (xkm (xfe (O x hx y hy (fun b s'=>s'=s/\b=decide (R x < R y)) ⟨rfl,rfl⟩) (fun b s' hb=>?_) fun _ _ f=>f.elim)));obtain⟨rfl,rfl⟩:=hb;exact⟨rfl,xbo h⟩
theorem zkp {arr:Array Keyed}{i:Nat}{x:Keyed}{st:SortSt}{Q:Keyed->SortSt->Prop}(e:arr[i]?=some x)(h:Q x st):wpS (model prog w) A E s (elem' arr i) Q st:=by
 rw[elem'_eq,e];exact xbo h
theorem zma {i j:Nat}{st:SortSt}{Q:Option Bool->SortSt->Prop}(O:Orc prog w A s κ a₀ R)(b:B κ a₀ st)(hi:i < a₀.size)(hj:j < a₀.size)(h:Q (some (decide (kA R (arrOf st) i < kA R (arrOf st) j))) st):wpS (model prog w) A E s (ltAt' i j) Q st:=by
 obtain⟨x,e1,m1⟩:=b.mem hi;obtain⟨y,e2,m2⟩:=b.mem hj;rw[zdo e1,zdo e2] at h;rw[ltAt'_eq];exact xbl (xhz (xbl (zkp e1 (xbl (zkp e2 (w_lt O b.kind m1 m2 h))))))
theorem zvq {i j:Nat}{st:SortSt}{Q:Unit->SortSt->Prop}(h:Q () (setArr st (mirror (arrOf st) i j ((j - i) / 2)))):wpS (model prog w) A E s (reverseSlice' i j) Q st:=by
 rw[reverseSlice'_eq];exact xgy h
theorem zbkt {i j:Nat}{st:SortSt}{Q:Unit->SortSt->Prop}(h:Q () (setArr st (bubble (arrOf st) i (i - j)))):wpS (model prog w) A E s (moveDown' i j) Q st:=by
 rw[moveDown'_eq];exact xgy h
theorem zbeq {lo x n N:Nat}(h:x < n)(hn:lo+n<=N):lo+x < N:=xbg (xei h lo) hn
theorem zbep {lo x n N:Nat}(h:x < n)(hn:lo+n<=N):lo+x - 1 < N:=xde (xgk _ _) (zbeq h hn)
theorem zts {lo n:Nat}(h:1<=n):lo+n - 1 < lo+n:=xid (xbg h (xmw _ _)) Nat.one_pos
theorem zbkn {j lo n:Nat}(h:j < lo+(n+1))(e:¬j=lo+n):j < lo+n:=xdf (xcr h) e
theorem zbhr {i j k:Nat}(c2:k < j):i<=i+j - 1 - k:=Nat.le_sub_of_add_le (xdi (xei c2 i))
theorem zbhs {i j k:Nat}(c1:i<=k)(c2:k < j):i+j - 1 - k < j:=xde (xgs c1 _) (by rw[Nat.sub_right_comm,xcz];exact xid (xke c2) Nat.one_pos)
theorem zka {xs:Array Keyed}{i j:Nat}(hj:j<=xs.size)(k:Nat):kA R (mirror xs i j ((j - i) / 2)) k=if i<=k/\k < j then kA R xs (i+j - 1 - k) else kA R xs k:=by
 have e:=getElem?_mirror_all (i:=i) hj k;split
 ·rename_i c;rw[if_pos c] at e;exact zde e
 ·rename_i c;rw[if_neg c] at e;exact zde e
noncomputable def Out (xs ys:Array Keyed) (a b:Nat):Prop:=∀k,k < a\/b<=k->xs[k]?=ys[k]?
theorem Out.refl (xs:Array Keyed)(a b:Nat):Out xs xs a b:=fun _ _=>rfl
theorem Out.trans {xs ys zs:Array Keyed}{a b:Nat}(h1:Out xs ys a b)(h2:Out ys zs a b):Out xs zs a b:=fun k hk=>(h1 k hk).trans (h2 k hk)
theorem Out.mirror {xs:Array Keyed}{i j a b:Nat}(hj:j<=xs.size)(hi:a<=i)(hb:j<=b):Out (mirror xs i j ((j - i) / 2)) xs a b:=fun k hk=>by
 rw[getElem?_mirror_all (i:=i) hj k,if_neg fun z=>hk.elim (fun h=>xes (xbc hi z.1) h) fun h=>xes (xbc hb h) z.2]
theorem Out.bubble {xs:Array Keyed}{src d a b:Nat}(hs:src < xs.size)(hd:d<=src)(ha:a<=src - d)(hb:src < b):Out (bubble xs src d) xs a b:=fun k hk=>by
 rw[getElem?_bubble hs d hd k,if_neg fun z=>hk.elim (fun h=>xes (xbc ha (xdh z.symm)) h) fun h=>xes h (xde (xbc (xdh z) (xgk _ _)) hb),if_neg fun z=>hk.elim (fun h=>xes (xbc ha (xbx z.1)) h) fun h=>xes h (xde z.2 hb)]
structure Sm (st st':SortSt) (a b:Nat):Prop where
 out:Out (arrOf st') (arrOf st) a b
 pend:pendingOf st'=pendingOf st
theorem zbfe {lo a nrem:Nat}{st:SortSt}{Q:Option (Option Nat)×Nat->SortSt->Prop}(O:Orc prog w A s κ a₀ R)(b:B κ a₀ st)(hn:lo+nrem<=a₀.size)(ha:1<=a)(han:a<=nrem)(hs:UpA R (arrOf st) lo (lo+a))
  (h:∀n,a<=n->n<=nrem->UpA R (arrOf st) lo (lo+n)->(n=nrem\/kA R (arrOf st) (lo+n) < kA R (arrOf st) (lo+n - 1))->Q (none,n) st) :
  wpS (model prog w) A E s (forIn [a:nrem] ((none,a):Option (Option Nat)×Nat) fun _ r=>do
   let x ← ltAt' (lo+r.2) (lo+r.2 - 1)
   match x with
   | some smaller=>if smaller=true then pure (ForInStep.done (none,r.2)) else pure (ForInStep.yield (none,r.2+1))
   | _=>pure (ForInStep.done (some none,r.2))) Q st:=by
 refine xdt (I:=fun x c st'=>st'=st/\c=(none,x)/\UpA R (arrOf st) lo (lo+x)) ?_ ?_ ⟨rfl,rfl,hs⟩
 ·rintro x c st' h1 h2 ⟨rfl,rfl,h3⟩;dsimp only;refine xbl (zma O b (zbeq h2 hn) (zbep h2 hn) ?_);by_cases c:kA R (arrOf st') (lo+x) < kA R (arrOf st') (lo+x - 1)
  ·simp only[c,xfi,xeu];exact xbo (h x h1 (xbx h2) h3 (.inr c))
  ·simp only[c,xfs,xcl,xdx];refine xbo ⟨rfl,rfl,fun i j hi hij hj=>?_⟩;by_cases e:j=lo+x
   ·subst e;by_cases e2:i=lo+x
    ·rw[e2];exact xbf _
    ·exact xbc (h3 i (lo+x - 1) hi (xdi (xdf hij e2)) (zts (xbc ha h1))) (xci c)
   ·exact h3 i j hi hij (zbkn hj e)
 ·rintro c st' ⟨rfl,rfl,h3⟩;rw[xmo han] at h3 ⊢;exact h nrem han (xbf _) h3 (.inl rfl)
theorem zhq {xs:Array Keyed}{i j:Nat}(hj:j<=xs.size)(he:∀k,i<=k->k < j->kA R xs k=kA R xs (j - 1))(k:Nat):kA R (mirror xs i j ((j - i) / 2)) k=kA R xs k:=by
 rw[zka hj];split
 ·rename_i c;rw[he _ (zbhr c.2) (zbhs c.1 c.2),he k c.1 c.2]
 ·rfl
structure Fl (κ:SortKind) (a₀:Array Keyed) (R:Keyed->Nat) (st₀ st:SortSt) (lo n neq b:Nat):Prop where
 base:B κ a₀ st
 same:Sm st₀ st lo b
 dn:DnA R (arrOf st) lo (lo+n)
 hq:neq+1<=n
 eqs:∀i,lo+n - (neq+1)<=i->i < lo+n->kA R (arrOf st) i=kA R (arrOf st) (lo+n - 1)
theorem Fl.turn {st₀ st:SortSt}{lo n neq b:Nat}(h:Fl κ a₀ R st₀ st lo n neq b)(hb:lo+n<=b)(hs:b<=a₀.size) :
  Fl κ a₀ R st₀ (setArr st (mirror (arrOf st) (lo+n - (neq+1)) (lo+n) ((lo+n - (lo+n - (neq+1))) / 2))) lo n neq b/\∀k,kA R (mirror (arrOf st) (lo+n - (neq+1)) (lo+n) ((lo+n - (lo+n - (neq+1))) / 2)) k=kA R (arrOf st) k:=by
 have hz:=h.base.size;have hq:=h.hq;have hle:lo+n<=(arrOf st).size:=by rw[hz];exact xbc hb hs
 have e:=zhq (R:=R) (xs:=arrOf st) (i:=lo+n - (neq+1)) (j:=lo+n) hle h.eqs;refine⟨⟨h.base.set (mirror_perm _ _ _ _),⟨(Out.mirror hle (Nat.le_sub_of_add_le (xcm hq lo)) hb).trans h.same.out,h.same.pend⟩,fun i j a1 a2 a3=>?_,h.hq,fun i a1 a2=>?_⟩,e⟩
 ·show kA R (mirror _ _ _ _) j<=kA R (mirror _ _ _ _) i;rw[e,e];exact h.dn i j a1 a2 a3
 ·show kA R (mirror _ _ _ _) i=kA R (mirror _ _ _ _) _;rw[e,e];exact h.eqs i a1 a2
theorem Fl.less {st₀ st:SortSt}{lo n neq b:Nat}(h:Fl κ a₀ R st₀ st lo n neq b)(c:kA R (arrOf st) (lo+n)<=kA R (arrOf st) (lo+n - 1)):DnA R (arrOf st) lo (lo+(n+1)):=fun i j a1 a2 a3=>by
 have hq:=h.hq;by_cases e:j=lo+n
 ·subst e;by_cases e2:i=lo+n
  ·rw[e2];exact xbf _
  ·exact xbc c (h.dn i (lo+n - 1) a1 (xdi (xdf a2 e2)) (zts (xbc (xmw 1 neq) hq)))
 ·exact h.dn i j a1 a2 (zbkn a3 e)
theorem Fl.fresh {st₀ st:SortSt}{lo n neq b:Nat}(h:Fl κ a₀ R st₀ st lo n neq b)(c:kA R (arrOf st) (lo+n)<=kA R (arrOf st) (lo+n - 1)):Fl κ a₀ R st₀ st lo (n+1) 0 b:=⟨h.base,h.same,h.less c,xfc (xea _),fun i g1 g2=>by
 have:i=lo+(n+1) - 1:=xdy (xcr g2) g1
 rw[this]⟩
theorem Fl.more {st₀ st:SortSt}{lo n neq b:Nat}(h:Fl κ a₀ R st₀ st lo n neq b)(c:kA R (arrOf st) (lo+n)=kA R (arrOf st) (lo+n - 1)):Fl κ a₀ R st₀ st lo (n+1) (neq+1) b:=by
 have hq:=h.hq;refine⟨h.base,h.same,h.less (xdh c),xfc hq,fun i g1 g2=>?_⟩;rw[show lo+(n+1) - 1=lo+n from rfl];by_cases e:i=lo+n
 ·rw[e]
 ·rw[c];exact h.eqs i (xbc (xdh (Nat.succ_sub_succ (lo+n) (neq+1)).symm) g1) (zbkn g2 e)
theorem zbfd {lo nrem:Nat}{st:SortSt}{Q:Option Nat->SortSt->Prop}(O:Orc prog w A s κ a₀ R)(b:B κ a₀ st)(hn:lo+nrem<=a₀.size)(h1:1<=nrem)
  (h:∀m st',1<=m->m<=nrem->B κ a₀ st'->Sm st st' lo (lo+nrem)->UpA R (arrOf st') lo (lo+m)->Q (some m) st'):wpS (model prog w) A E s (countRun' lo nrem) Q st:=by
 have sm0:Sm st st lo (lo+nrem):=⟨Out.refl _ _ _,rfl⟩
 have one:∀xs:Array Keyed,UpA R xs lo (lo+1):=fun xs i j a1 a2 a3=>by
  have:i=j:=xdy a2 (xbc (xcr a3) a1);subst this;exact xbf _
 have oneD:∀xs:Array Keyed,DnA R xs lo (lo+1):=fun xs i j a1 a2 a3=>by
  have:i=j:=xdy a2 (xbc (xcr a3) a1);subst this;exact xbf _
 rw[countRun'_eq];dsimp only;refine xbl (zbfe O b hn (xbf _) h1 (one _) fun n n1 n2 hu hlast=>?_);dsimp only;split
 ·exact xbo (h n st n1 n2 b sm0 hu)
 rename_i hne;have hne':n≠nrem:=fun z=>hne (by simp[z])
 have hlt:n < nrem:=xdf n2 hne';have hl:kA R (arrOf st) (lo+n) < kA R (arrOf st) (lo+n - 1):=by
  rcases hlast with z | z
  ·exact absurd z hne'
  ·exact z
 have hz:=b.size;have fin:∀(n:Nat) (st1:SortSt),B κ a₀ st1->Sm st st1 lo (lo+nrem)->1<=n->n<=nrem->DnA R (arrOf st1) lo (lo+n) ->
   B κ a₀ (setArr st1 (mirror (arrOf st1) lo (lo+n) ((lo+n - lo) / 2)))/\Sm st (setArr st1 (mirror (arrOf st1) lo (lo+n) ((lo+n - lo) / 2))) lo (lo+nrem)/\UpA R (mirror (arrOf st1) lo (lo+n) ((lo+n - lo) / 2)) lo (lo+n):=fun n st1 b1 sm1 m1 m2 dn1=>by
  have hz:=b1.size;have hm:=xcm m2 lo;have hle:lo+n<=(arrOf st1).size:=by rw[hz];exact xbc hm hn
  refine⟨b1.set (mirror_perm _ _ _ _),⟨(Out.mirror hle (xbf _) hm).trans sm1.out,sm1.pend⟩,fun i j a1 a2 a3=>?_⟩;have hi:=xde a2 a3;rw[zka hle,zka hle,if_pos ⟨a1,hi⟩,if_pos ⟨xbc a1 a2,a3⟩];exact dn1 _ _ (zbhr a3) (xgs a2 _) (zbhs a1 hi)
 have eqs:¬ kA R (arrOf st) lo < kA R (arrOf st) (lo+n - 1)->∀k,lo<=k->k < lo+n->kA R (arrOf st) k=kA R (arrOf st) (lo+n - 1):=fun c k k1 k2=>by
  have g1:=hu lo k (xbf _) k1 k2;have g2:=hu k (lo+n - 1) k1 (xdi k2) (zts n1);exact xdy g2 (xbc (xci c) g1)
 have dnx:∀xs:Array Keyed,(∀k,kA R xs k=kA R (arrOf st) k)->¬ kA R (arrOf st) lo < kA R (arrOf st) (lo+n - 1)->DnA R xs lo (lo+(n+1)):=fun xs e c i j a1 a2 a3=>by
  rw[e,e];by_cases e2:j=lo+n
  ·subst e2;by_cases e3:i=lo+n
   ·rw[e3];exact xbf _
   ·rw[eqs c i a1 (xdf a2 e3)];exact xbx hl
  ·have jn:=zbkn a3 e2;rw[eqs c i a1 (xde a2 jn),eqs c j (xbc a1 a2) jn];exact xbf _
 split
 ·have hle:lo+n<=(arrOf st).size:=by rw[hz];exact xbc (xcm n2 lo) hn
  refine xbl (zma O b (xbg (xhw h1) hn) (zbep hlt hn) ?_);by_cases c:kA R (arrOf st) lo < kA R (arrOf st) (lo+n - 1)
  ·simp only[c,xfi,xeu];exact xbo (h n st n1 n2 b sm0 hu)
  ·simp only[c,xfs,xcl,xdx];refine xbl (zvq ?_);have b1:B κ a₀ (setArr st (mirror (arrOf st) lo (lo+n) ((lo+n - lo) / 2))):=b.set (mirror_perm _ _ _ _);have sm1:Sm st (setArr st (mirror (arrOf st) lo (lo+n) ((lo+n - lo) / 2))) lo (lo+nrem):=⟨Out.mirror hle (xbf _) (xcm n2 lo),rfl⟩
   have dn1:DnA R (arrOf (setArr st (mirror (arrOf st) lo (lo+n) ((lo+n - lo) / 2)))) lo (lo+(n+1)):=dnx _ (zhq hle (eqs c)) c;generalize (setArr st (mirror (arrOf st) lo (lo+n) ((lo+n - lo) / 2)))=st1 at b1 sm1 dn1 ⊢;refine xbl (xkq (xij ⟨rfl,?_⟩));refine xbl (xft (xdt (I:=fun x c st'=>∃neq,c=(none,x,neq)/\Fl κ a₀ R st st' lo x neq (lo+nrem)) (Q:=fun c st'=>∃m neq,c=(none,m,neq)/\n+1<=m/\m<=nrem/\Fl κ a₀ R st st' lo m neq (lo+nrem)) ?_ ?_ ?_) ?_)
   ·rintro x c st' a1 a2 ⟨neq,rfl,f⟩;dsimp only;refine xbl (zma O f.base (zbeq a2 hn) (zbep a2 hn) ?_);by_cases c:kA R (arrOf st') (lo+x) < kA R (arrOf st') (lo+x - 1)
    ·simp only[c,xfi,xeu];split
     ·obtain⟨f2,e⟩:=f.turn (xcm (xbx a2) lo) hn;refine xbl (zvq (xbo ⟨0,rfl,f2.fresh ?_⟩));refine xbx (?_:kA R (mirror _ _ _ _) _ < kA R (mirror _ _ _ _) _);rw[e,e];exact c
     ·exact xbo ⟨0,rfl,f.fresh (xbx c)⟩
    ·simp only[c,xfs,xcl,xdx];refine xbl (zma O f.base (zbep a2 hn) (zbeq a2 hn) ?_);by_cases c2:kA R (arrOf st') (lo+x - 1) < kA R (arrOf st') (lo+x)
     ·simp only[c2,xfi,xeu];exact xbo ⟨x,neq,rfl,a1,xbx a2,f⟩
     ·simp only[c2,xfs,xcl,xdx];exact xbo ⟨neq+1,rfl,f.more (xdy (xci c2) (xci c))⟩
   ·rintro c st' ⟨neq,rfl,f⟩;rw[xmo hlt] at f ⊢;exact⟨nrem,neq,rfl,hlt,xbf _,f⟩
   ·exact⟨0,rfl,b1,sm1,dn1,xfc (xea _),fun i g1 g2=>by
     have:i=lo+(n+1) - 1:=xdy (xcr g2) g1
     rw[this]⟩
   ·rintro c st' ⟨m,neq,rfl,a1,a2,f⟩;dsimp only;split
    ·obtain⟨f2,e⟩:=f.turn (xcm a2 lo) hn;refine xbl (zvq (xbl (zvq ?_)));obtain⟨b3,s3,u3⟩:=fin m _ f2.base f2.same (xdm a1) a2 f2.dn;exact xbl (zbfe O b3 hn (xdm a1) a2 u3 fun m' m1 m2 hu' _=>xbo (h m' _ (xbc (xdm a1) m1) m2 b3 s3 hu'))
    ·refine xbl (zvq ?_);obtain⟨b3,s3,u3⟩:=fin m _ f.base f.same (xdm a1) a2 f.dn;exact xbl (zbfe O b3 hn (xdm a1) a2 u3 fun m' m1 m2 hu' _=>xbo (h m' _ (xbc (xdm a1) m1) m2 b3 s3 hu'))
 ·rename_i hn1;have b1:=b;have sm1:=sm0
  have dn1:DnA R (arrOf st) lo (lo+(n+1)):=dnx _ (fun _=>rfl) (by
   have:n=1:=xdy (xci hn1) n1;subst this
   simp)
  refine xbl (xkq (xij ⟨rfl,?_⟩));refine xbl (xft (xdt (I:=fun x c st'=>∃neq,c=(none,x,neq)/\Fl κ a₀ R st st' lo x neq (lo+nrem)) (Q:=fun c st'=>∃m neq,c=(none,m,neq)/\n+1<=m/\m<=nrem/\Fl κ a₀ R st st' lo m neq (lo+nrem)) ?_ ?_ ?_) ?_)
  ·rintro x c st' a1 a2 ⟨neq,rfl,f⟩;dsimp only;refine xbl (zma O f.base (zbeq a2 hn) (zbep a2 hn) ?_);by_cases c:kA R (arrOf st') (lo+x) < kA R (arrOf st') (lo+x - 1)
   ·simp only[c,xfi,xeu];split
    ·obtain⟨f2,e⟩:=f.turn (xcm (xbx a2) lo) hn;refine xbl (zvq (xbo ⟨0,rfl,f2.fresh ?_⟩));refine xbx (?_:kA R (mirror _ _ _ _) _ < kA R (mirror _ _ _ _) _);rw[e,e];exact c
    ·exact xbo ⟨0,rfl,f.fresh (xbx c)⟩
   ·simp only[c,xfs,xcl,xdx];refine xbl (zma O f.base (zbep a2 hn) (zbeq a2 hn) ?_);by_cases c2:kA R (arrOf st') (lo+x - 1) < kA R (arrOf st') (lo+x)
    ·simp only[c2,xfi,xeu];exact xbo ⟨x,neq,rfl,a1,xbx a2,f⟩
    ·simp only[c2,xfs,xcl,xdx];exact xbo ⟨neq+1,rfl,f.more (xdy (xci c2) (xci c))⟩
  ·rintro c st' ⟨neq,rfl,f⟩;rw[xmo hlt] at f ⊢;exact⟨nrem,neq,rfl,hlt,xbf _,f⟩
  ·exact⟨0,rfl,b1,sm1,dn1,xfc (xea _),fun i g1 g2=>by
    have:i=lo+(n+1) - 1:=xdy (xcr g2) g1
    rw[this]⟩
  ·rintro c st' ⟨m,neq,rfl,a1,a2,f⟩;dsimp only;split
   ·obtain⟨f2,e⟩:=f.turn (xcm a2 lo) hn;refine xbl (zvq (xbl (zvq ?_)));obtain⟨b3,s3,u3⟩:=fin m _ f2.base f2.same (xdm a1) a2 f2.dn;exact xbl (zbfe O b3 hn (xdm a1) a2 u3 fun m' m1 m2 hu' _=>xbo (h m' _ (xbc (xdm a1) m1) m2 b3 s3 hu'))
   ·refine xbl (zvq ?_);obtain⟨b3,s3,u3⟩:=fin m _ f.base f.same (xdm a1) a2 f.dn;exact xbl (zbfe O b3 hn (xdm a1) a2 u3 fun m' m1 m2 hu' _=>xbo (h m' _ (xbc (xdm a1) m1) m2 b3 s3 hu'))
end
section
variable {prog:Program}{w:World}{A:Around}{E:Value->Shared->Prop}{s:Shared}{κ:SortKind}{a₀:Array Keyed}{R:Keyed->Nat}
theorem zov {xs:Array Keyed}{src d:Nat}(hs:src < xs.size)(hd:d<=src)(k:Nat):kA R (bubble xs src d) k=if k=src - d then kA R xs src else if src - d < k/\k<=src then kA R xs (k - 1) else kA R xs k:=by
 have e:=getElem?_bubble hs d hd k;split
 ·rename_i c;rw[if_pos c] at e;exact zde e
 ·rename_i c;rw[if_neg c] at e;split
  ·rename_i c2;rw[if_pos c2] at e;exact zde e
  ·rename_i c2;rw[if_neg c2] at e;exact zde e
theorem zjz {a b n:Nat}(h1:a<=b)(h:b - a<=n - max 0 n):b=a:=by
 rw[Nat.zero_max,xjq] at h;exact xdy (Nat.le_of_sub_eq_zero (Nat.le_zero.mp h)) h1
theorem zbnh {l r:Nat}(h:¬l ≥ r):l<=(l+r) / 2:=(Nat.le_div_iff_mul_le xmz).mpr (by rw[Nat.mul_two];exact xcm (xbx (xgd h)) l)
theorem zbko {l r:Nat}(h:¬l ≥ r):(l+r) / 2 < r:=(Nat.div_lt_iff_lt_mul xmz).mpr (by rw[Nat.mul_two];exact Nat.add_lt_add_right (xgd h) r)
theorem hf_l {l r k x:Nat}(h:¬l ≥ r)(g:r - l<=k - x):(l+r) / 2 - l<=k - (x+1):=xbc (xdi (xeq (zbnh h) (zbko h))) (xfv g 1)
theorem hf_r {l r k x:Nat}(h:¬l ≥ r)(g:r - l<=k - x):r - ((l+r) / 2+1)<=k - (x+1):=xbc (xgs (xfc (zbnh h)) r) (xfv g 1)
theorem zbbg {p j q:Nat}(h:p < j)(h2:j<=q):j - 1 < q:=xbg (xid (xke h) Nat.one_pos) h2
theorem zbqk {lo n ok:Nat}{st:SortSt}{Q:Bool->SortSt->Prop}(O:Orc prog w A s κ a₀ R)(b:B κ a₀ st)(hn:lo+n<=a₀.size)(h1:1<=ok)(h2:ok<=n)(up:UpA R (arrOf st) lo (lo+ok))
  (h:∀st',B κ a₀ st'->Sm st st' lo (lo+n)->UpA R (arrOf st') lo (lo+n)->Q true st'):wpS (model prog w) A E s (binarySort' lo n ok) Q st:=by
 rw[binarySort'_eq]
 refine xbl (xft (xdt (I:=fun k c st'=>c=(none,())/\B κ a₀ st'/\Sm st st' lo (lo+n)/\UpA R (arrOf st') lo (lo+min k n))
  (Q:=fun c st'=>c=(none,())/\B κ a₀ st'/\Sm st st' lo (lo+n)/\UpA R (arrOf st') lo (lo+n)) ?_ ?_ ?_) ?_)
 ·rintro k c st' k1 k2 ⟨rfl,b1,sm1,up1⟩;rw[xer (xbx k2)] at up1;have hz:=b1.size;have hk:lo+k < a₀.size:=xbg (xei k2 lo) hn
  refine xbl (xft (xdt (I:=fun x c st2=>st2=st'/\∃l r,c=(none,l,r)/\l<=r/\r<=k/\r - l<=k - x/\(∀i,i < l->kA R (arrOf st') (lo+i)<=kA R (arrOf st') (lo+k))/\(∀i,r<=i->i < k->kA R (arrOf st') (lo+k)<=kA R (arrOf st') (lo+i)))
   (Q:=fun c st2=>st2=st'/\∃l r,c=(none,l,r)/\l<=k/\(∀i,i < l->kA R (arrOf st') (lo+i)<=kA R (arrOf st') (lo+k))/\(∀i,l<=i->i < k->kA R (arrOf st') (lo+k)<=kA R (arrOf st') (lo+i))) ?_ ?_ ?_) ?_)
  ·rintro x c st2 x1 x2 ⟨rfl,l,r,rfl,g1,g2,g3,g4,g5⟩;dsimp only;by_cases hge:l ≥ r
   ·rw[if_pos hge];have e:l=r:=xdy g1 hge;subst e;exact xbo ⟨rfl,l,l,rfl,g2,g4,g5⟩
   ·have hm:lo+(l+r) / 2 < lo+k:=xei (xbg (zbko hge) g2) lo;rw[if_neg hge];refine xbl (zma O b1 hk (xgj hm hk) ?_);by_cases c:kA R (arrOf st2) (lo+k) < kA R (arrOf st2) (lo+(l+r) / 2)
    ·simp only[c,xfi,xeu];exact xbo ⟨rfl,l,(l+r) / 2,rfl,zbnh hge,xbc (xbx (zbko hge)) g2,hf_l hge g3,g4,fun i a1 a2=>xbc (xbx c) (up1 _ _ (xbz _ _) (xcm a1 lo) (xei a2 lo))⟩
    ·simp only[c,xfs,xcl,xdx];exact xbo ⟨rfl,(l+r) / 2+1,r,rfl,zbko hge,g2,hf_r hge g3,fun i a1=>xbc (up1 (lo+i) (lo+(l+r) / 2) (xbz _ _) (xcm (xcr a1) lo) hm) (xci c),g5⟩
  ·rintro c st2 ⟨rfl,l,r,rfl,g1,g2,g3,g4,g5⟩;have e:=zjz g1 g3;subst e;exact⟨rfl,_,_,rfl,g2,g4,g5⟩
  ·exact⟨rfl,0,k,rfl,xea _,xbf _,xbf _,fun i hi=>absurd hi (Nat.not_lt_zero _),fun i a1 a2=>absurd a2 (xes a1)⟩
  ·rintro c st2 ⟨rfl,l,r,rfl,g1,g2,g3⟩;dsimp only;have hd:lo+k - (lo+k - (lo+l))=lo+l:=Nat.sub_sub_self (xcm g1 lo);have hs:lo+k < (arrOf st2).size:=by rw[hz];exact hk
   refine xbl (zbkt (xbo ⟨rfl,b1.set (bubble_perm _ _ _),⟨(Out.bubble hs (xgk _ _) (by rw[hd];exact xbz _ _) (xei k2 lo)).trans sm1.out,sm1.pend⟩,fun i j a1 a2 a3=>?_⟩));show kA R (bubble (arrOf st2) (lo+k) (lo+k - (lo+l))) i<=kA R (bubble (arrOf st2) (lo+k) (lo+k - (lo+l))) j;rw[zov hs (xgk _ _),zov hs (xgk _ _),hd];rw[xer k2] at a3;have hj:j<=lo+k:=xcr a3;have low:∀q,lo<=q->q < lo+l->kA R (arrOf st2) q<=kA R (arrOf st2) (lo+k):=fun q q1 q2=>by
    have:=g2 (q - lo) (xdu q1 q2);rw[xck q1] at this;exact this
   have hig:∀q,lo+l<=q->q < lo+k->kA R (arrOf st2) (lo+k)<=kA R (arrOf st2) q:=fun q q1 q2=>by
    have q0:=xbc (xbz _ _) q1;have:=g3 (q - lo) (xey q1) (xdu q0 q2);rw[xck q0] at this;exact this
   by_cases i1:i=lo+l
   ·rw[if_pos i1];by_cases j1:j=lo+l
    ·rw[if_pos j1];exact xbf _
    ·have jj:=xdf (i1 ▸ a2) (xem j1);rw[if_neg j1,if_pos ⟨jj,hj⟩];exact hig _ (xdi jj) (zbbg jj hj)
   ·rw[if_neg i1];by_cases i2:lo+l < i/\i<=lo+k
    ·have jj:=xbg i2.1 a2;rw[if_pos i2,if_neg (xjo jj),if_pos ⟨jj,hj⟩];exact up1 _ _ (xbc (xbz lo l) (xdi i2.1)) (xfv a2 1) (zbbg jj hj)
    ·have il:i < lo+l:=xdf (xci fun z=>i2 ⟨z,xbc a2 hj⟩) i1;rw[if_neg i2];by_cases j1:j=lo+l
     ·rw[if_pos j1];exact low i a1 il
     ·rw[if_neg j1];by_cases j2:lo+l < j/\j<=lo+k
      ·rw[if_pos j2];exact up1 _ _ a1 (xdi (xgj il j2.1)) (zbbg j2.1 hj)
      ·rw[if_neg j2];exact up1 _ _ a1 a2 (xbg (xdf (xci fun z=>j2 ⟨z,hj⟩) j1) (xcm g1 lo))
 ·rintro c st' ⟨rfl,b1,sm1,up1⟩;rw[xja (Nat.le_max_right _ _)] at up1;exact⟨rfl,b1,sm1,up1⟩
 ·refine⟨rfl,b,⟨Out.refl _ _ _,rfl⟩,fun i j a1 a2 a3=>up i j a1 a2 (xbg a3 (xcm (xbc (xie _ _) (xdh (Nat.max_eq_left h1))) lo))⟩
 ·rintro c st' ⟨rfl,b1,sm1,up1⟩;exact xbo (h st' b1 sm1 up1)
noncomputable def gallop':Bool->Keyed->Array Keyed->Nat->Nat->Nat->StateT SortSt Sem (Option Nat):=sortPriv% PySem.Builtin.gallop
noncomputable def Cut (left:Bool) (R:Keyed->Nat) (key:Keyed) (arr:Array Keyed) (base n h:Nat):Prop:=h<=n/\(∀i,i < h->if left then kA R arr (base+i) < R key else kA R arr (base+i)<=R key)/\(∀i,h<=i->i < n->if left then R key<=kA R arr (base+i) else R key < kA R arr (base+i))
noncomputable def ahead (left:Bool) (R:Keyed->Nat) (key:Keyed) (arr:Array Keyed) (base i:Nat):Bool:=if left then decide (kA R arr (base+i) < R key) else decide (kA R arr (base+i)<=R key)
theorem zkq {left:Bool}{key:Keyed}{arr:Array Keyed}{base i:Nat}{st:SortSt}{Q:Option Bool->SortSt->Prop}(O:Orc prog w A s κ a₀ R)(hk:kindOf st=κ)(mk:key∈a₀.toList)(ma:∃x,arr[base+i]?=some x/\x∈a₀.toList)(h:Q (some (ahead left R key arr base i)) st) :
  wpS (model prog w) A E s (do
   let x ← elem' arr (base+i)
   if left=true then lt' x key else do
    let y ← lt' key x
    pure (Option.map (fun x=>!x) y)) Q st:=by
 obtain⟨x,e,m⟩:=ma;refine xbl (zkp e ?_);unfold ahead at h;rw[zdo e] at h;cases left with
 | true =>
  rw[if_pos rfl] at h ⊢;exact w_lt O hk m mk h
 | false =>
  rw[if_neg (by decide)] at h ⊢;refine xbl (w_lt O hk mk m (xbo ?_));have q:(!decide (R key < R x))=decide (R x<=R key):=by
   by_cases c:R key < R x
   ·rw[xcj c,xcb (Nat.not_le_of_lt c)];rfl
   ·rw[xcb c,xcj (xci c)];rfl
  show Q (some (!decide (R key < R x))) st;rw[q];exact h
theorem zvd {left:Bool}{key:Keyed}{arr:Array Keyed}{base n i j:Nat}(up:UpA R arr base (base+n))(hij:i<=j)(hj:j < n)(h:ahead left R key arr base j=true):ahead left R key arr base i=true:=by
 have:=up (base+i) (base+j) (xbz _ _) (xcm hij _) (xei hj _);unfold ahead at h ⊢;cases left with
 | true=>rw[if_pos rfl] at h ⊢;exact xcj (xde this (xdl h))
 | false=>rw[if_neg (by decide)] at h ⊢;exact xcj (xbc this (xdl h))
theorem zbjq {left:Bool}{key:Keyed}{arr:Array Keyed}{base n h:Nat}(h0:h<=n)(h1:∀i,i < h->ahead left R key arr base i=true)(h2:∀i,h<=i->i < n->ahead left R key arr base i=false):Cut left R key arr base n h:=by
 refine⟨h0,fun i hi=>?_,fun i a1 a2=>?_⟩
 ·have:=h1 i hi;unfold ahead at this;cases left with
  | true=>rw[if_pos rfl] at this ⊢;exact xdl this
  | false=>rw[if_neg (by decide)] at this ⊢;exact xdl this
 ·have:=h2 i a1 a2;unfold ahead at this;cases left with
  | true=>rw[if_pos rfl] at this ⊢;exact xci (xlw this)
  | false=>rw[if_neg (by decide)] at this ⊢;exact xgd (xlw this)
theorem zzk {a b:Nat}(c:¬a ≥ b):(b - a) / 2 < b - a:=Nat.div_lt_self (xfy (xgd c)) (xbf 2)
theorem zbms {a b:Nat}(c:¬a ≥ b):a+(b - a) / 2 < b:=xdz (zzk c)
theorem zbeo {a b n:Nat}(c:¬a ≥ b)(h:b<=n):a+(b - a) / 2 < n:=xbg (zbms c) h
theorem zbhu {a b n x:Nat}(h:b - a<=n - x):b - (a+(b - a) / 2+1)<=n - (x+1):=xbc (xgs (xfc (xbz a _)) b) (xfv h 1)
theorem zbht {a b n x:Nat}(c:¬a ≥ b)(h:b - a<=n - x):a+(b - a) / 2 - a<=n - (x+1):=by
 rw[xcz];exact xbc (xdi (zzk c)) (xfv h 1)
theorem zbjf (o:Nat):o < 2 * o+1:=xmc (xkk o xmz)
theorem zbjg {x o:Nat}(h:x+1<=o):x+1+1<=2 * o+1:=xfc (xbc h (xkk o xmz))
theorem zbfm {a b n:Nat}(h:a+b < n):b < n - a:=Nat.lt_sub_of_add_lt (Nat.add_comm a b ▸ h)
inductive GI (f:Nat->Bool) (n:Nat) (st:SortSt) (x:Nat):Option (Option Nat)×Nat×Nat->SortSt->Prop where
 | mk {a b:Nat} (q1:a<=b) (q2:b<=n) (q3:b - a<=n - x) (q4:∀i,i < a->f i=true) (q5:∀i,b<=i->i < n->f i=false):GI f n st x (none,a,b) st
inductive GE (f:Nat->Bool) (n:Nat) (st:SortSt):Option (Option Nat)×Nat×Nat->SortSt->Prop where
 | mk {b:Nat} (q2:b<=n) (q4:∀i,i < b->f i=true) (q5:∀i,b<=i->i < n->f i=false):GE f n st (none,b,b) st
inductive GU (f:Nat->Bool) (n hint:Nat) (P:Nat->Prop) (st:SortSt):Option (Option Nat)×Nat×Nat->SortSt->Prop where
 | mk {l o:Nat} (g1:l < o) (g2:hint+l < n) (g3:f (hint+l)=true) (g4:P o):GU f n hint P st (none,l,o) st
inductive GD (f:Nat->Bool) (hint:Nat) (P:Nat->Prop) (st:SortSt):Option (Option Nat)×Nat×Nat->SortSt->Prop where
 | mk {l o:Nat} (g1:l < o) (g2:l<=hint) (g3:f (hint - l)=false) (g4:P o):GD f hint P st (none,l,o) st
theorem zfr {left:Bool}{key:Keyed}{arr:Array Keyed}{base n hint:Nat}{st:SortSt}{Q:Option Nat->SortSt->Prop}(O:Orc prog w A s κ a₀ R)(hk:kindOf st=κ)(mk:key∈a₀.toList)(ma:∀i,i < n->∃x,arr[base+i]?=some x/\x∈a₀.toList)(hh:hint < n)
  (up:UpA R arr base (base+n))(h:∀k,Cut left R key arr base n k->Q (some k) st):wpS (model prog w) A E s (gallop' left key arr base n hint) Q st:=by
 have mono:∀i j,i<=j->j < n->ahead left R key arr base j=true->ahead left R key arr base i=true:=fun i j a1 a2=>zvd up a1 a2
 have monoF:∀i j,i<=j->j < n->ahead left R key arr base i=false->ahead left R key arr base j=false:=fun i j a1 a2 e=>by
  cases c:ahead left R key arr base j with
  | false=>rfl
  | true=>rw[mono i j a1 a2 c] at e;cases e
 refine xbl (zkq O hk mk (ma hint hh) ?_);dsimp only;cases hr:ahead left R key arr base hint with
 | true =>
  rw[if_pos rfl];refine xbl (xft (xdt (I:=fun x=>GU (ahead left R key arr base) n hint (x+1<=·) st) (Q:=GU (ahead left R key arr base) n hint (fun o=>n - hint<=o\/(hint+o < n/\ahead left R key arr base (hint+o)=false)) st) ?_ ?_ ?_) ?_)
  ·rintro x c st' x1 x2 @⟨l,o,g1,g2,g3,g4⟩;dsimp only;by_cases c:o ≥ n - hint
   ·rw[if_pos c];exact xbo (.mk g1 g2 g3 (.inl c))
   ·have c3:hint+o < n:=xdz (xgd c);rw[if_neg c];refine xbl (zkq O hk mk (ma (hint+o) c3) ?_);dsimp only;cases c2:ahead left R key arr base (hint+o) with
    | true=>exact xbo (.mk (zbjf o) c3 c2 (zbjg g4))
    | false=>exact xbo (.mk g1 g2 g3 (.inr ⟨c3,c2⟩))
  ·rintro c st' @⟨l,o,g1,g2,g3,g4⟩;rw[Nat.zero_max] at g4;exact .mk g1 g2 g3 (.inl (xbc (xgk _ _) (xdk g4)))
  ·exact .mk Nat.one_pos hh hr (xbf _)
  ·rintro c st' @⟨l,o,g1,g2,g3,g4⟩;dsimp only;have f1:∀i,i < hint+l+1->ahead left R key arr base i=true:=fun i hi=>mono i (hint+l) (xcr hi) g2 g3
   have f2:∀i,hint+min o (n - hint)<=i->i < n->ahead left R key arr base i=false:=fun i a1 a2=>by
    rcases g4 with g | ⟨ga,gb⟩
    ·rw[xja g,xck (xbx hh)] at a1;exact absurd a2 (xes a1)
    ·rw[xer (xbx (zbfm ga))] at a1;exact monoF (hint+o) i a1 a2 gb
   have f3:hint+l+1<=hint+min o (n - hint):=xcm (Nat.le_min.mpr ⟨g1,zbfm g2⟩) hint;have f4:hint+min o (n - hint)<=n:=xbc (xcm (xgc _ _) hint) (xdh (xck (xbx hh)));generalize hint+l+1=lo at f1 f3 ⊢;generalize hint+min o (n - hint)=hi at f2 f3 f4 ⊢;refine xbl (xft (xdt (I:=GI (ahead left R key arr base) n st) (Q:=GE (ahead left R key arr base) n st) ?_ ?_ (.mk f3 f4 (xbc (xgk _ _) f4) f1 f2)) ?_)
   ·rintro x c st2 x1 x2 @⟨a,b,q1,q2,q3,q4,q5⟩;dsimp only;by_cases c:a ≥ b
    ·rw[if_pos c];have e:b=a:=xdy c q1;subst e;exact xbo (.mk q2 q4 q5)
    ·rw[if_neg c];refine xbl (zkq O hk mk (ma (a+(b - a) / 2) (zbeo c q2)) ?_);dsimp only;cases c2:ahead left R key arr base (a+(b - a) / 2) with
     | true=>exact xbo (.mk (zbms c) q2 (zbhu q3) (fun i hi=>mono i (a+(b - a) / 2) (xcr hi) (zbeo c q2) c2) q5)
     | false=>exact xbo (.mk (xbz _ _) (xbx (zbeo c q2)) (zbht c q3) q4 fun i a1 a2=>monoF (a+(b - a) / 2) i a1 a2 c2)
   ·rintro c st2 @⟨a,b,q1,q2,q3,q4,q5⟩;have e:=zjz q1 q3;subst e;exact .mk q2 q4 q5
   ·rintro c st2 @⟨b,q2,q4,q5⟩;exact xbo (h b (zbjq q2 q4 q5))
 | false =>
  rw[if_neg (by decide)];refine xbl (xft (xdt (I:=fun x=>GD (ahead left R key arr base) hint (x+1<=·) st) (Q:=GD (ahead left R key arr base) hint (fun o=>hint+1<=o\/(o<=hint/\ahead left R key arr base (hint - o)=true)) st) ?_ ?_ ?_) ?_)
  ·rintro x c st' x1 x2 @⟨l,o,g1,g2,g3,g4⟩;dsimp only;by_cases c:o ≥ hint+1
   ·rw[if_pos c];exact xbo (.mk g1 g2 g3 (.inl c))
   ·rw[if_neg c];refine xbl (zkq O hk mk (ma (hint - o) (xde (xgk _ _) hh)) ?_);dsimp only;cases c2:ahead left R key arr base (hint - o) with
    | true=>exact xbo (.mk g1 g2 g3 (.inr ⟨xcr (xgd c),c2⟩))
    | false=>exact xbo (.mk (zbjf o) (xcr (xgd c)) c2 (zbjg g4))
  ·rintro c st' @⟨l,o,g1,g2,g3,g4⟩;rw[Nat.zero_max] at g4;exact .mk g1 g2 g3 (.inl (xbc hh (xdk g4)))
  ·exact .mk Nat.one_pos (xea _) hr (xbf _)
  ·rintro c st' @⟨l,o,g1,g2,g3,g4⟩;dsimp only;have f1:∀i,i < hint+1 - min o (hint+1)->ahead left R key arr base i=true:=fun i hi=>by
    rcases g4 with g | ⟨ga,gb⟩
    ·rw[xja g,xjq] at hi;exact absurd hi (Nat.not_lt_zero _)
    ·rw[xer (xfz ga),Nat.succ_sub ga] at hi;exact mono i (hint - o) (xcr hi) (xde (xgk _ _) hh) gb
   have f2:∀i,hint - l<=i->i < n->ahead left R key arr base i=false:=fun i a1 a2=>monoF (hint - l) i a1 a2 g3
   have f3:hint+1 - min o (hint+1)<=hint - l:=xbc (xgs (Nat.le_min.mpr ⟨g1,xfc g2⟩) _) (xdh (Nat.succ_sub_succ hint l));have f4:hint - l<=n:=xbc (xgk _ _) (xbx hh);generalize hint+1 - min o (hint+1)=lo at f1 f3 ⊢;generalize hint - l=hi at f2 f3 f4 ⊢;refine xbl (xft (xdt (I:=GI (ahead left R key arr base) n st) (Q:=GE (ahead left R key arr base) n st) ?_ ?_ (.mk f3 f4 (xbc (xgk _ _) f4) f1 f2)) ?_)
   ·rintro x c st2 x1 x2 @⟨a,b,q1,q2,q3,q4,q5⟩;dsimp only;by_cases c:a ≥ b
    ·rw[if_pos c];have e:b=a:=xdy c q1;subst e;exact xbo (.mk q2 q4 q5)
    ·rw[if_neg c];refine xbl (zkq O hk mk (ma (a+(b - a) / 2) (zbeo c q2)) ?_);dsimp only;cases c2:ahead left R key arr base (a+(b - a) / 2) with
     | true=>exact xbo (.mk (zbms c) q2 (zbhu q3) (fun i hi=>mono i (a+(b - a) / 2) (xcr hi) (zbeo c q2) c2) q5)
     | false=>exact xbo (.mk (xbz _ _) (xbx (zbeo c q2)) (zbht c q3) q4 fun i a1 a2=>monoF (a+(b - a) / 2) i a1 a2 c2)
   ·rintro c st2 @⟨a,b,q1,q2,q3,q4,q5⟩;have e:=zjz q1 q3;subst e;exact .mk q2 q4 q5
   ·rintro c st2 @⟨b,q2,q4,q5⟩;exact xbo (h b (zbjq q2 q4 q5))
end
section
variable {prog:Program}{w:World}{A:Around}{E:Value->Shared->Prop}{s:Shared}{κ:SortKind}{a₀:Array Keyed}{R:Keyed->Nat}
noncomputable abbrev Ord (R:Keyed->Nat) (l:List Keyed):Prop:=l.Pairwise fun x y=>R x<=R y
structure SmG (st st':SortSt):Prop where
 arr:arrOf st'=arrOf st
 pend:pendingOf st'=pendingOf st
 kind:kindOf st'=kindOf st
 failed:failedOf st'=failedOf st
theorem SmG.refl (st:SortSt):SmG st st:=⟨rfl,rfl,rfl,rfl⟩
theorem SmG.trans {a b c:SortSt}(x:SmG a b)(y:SmG b c):SmG a c:=⟨y.arr.trans x.arr,y.pend.trans x.pend,y.kind.trans x.kind,y.failed.trans x.failed⟩
noncomputable def mergeLo':Array Keyed->Array Keyed->StateT SortSt Sem (Array Keyed):=sortPriv% PySem.Builtin.mergeLo
noncomputable def mergeHi':Array Keyed->Array Keyed->StateT SortSt Sem (Array Keyed):=sortPriv% PySem.Builtin.mergeHi
structure ML (R:Keyed->Nat) (all out rest:List Keyed):Prop where
 perm:(out++rest).Perm all
 ord:Ord R out
 le:∀x∈out,∀y∈rest,R x<=R y
theorem ML.grow {all out rest xs rest':List Keyed}(m:ML R all out rest)(p:rest.Perm (xs++rest'))(o:Ord R xs)(h:∀x∈xs,∀y∈rest',R x<=R y):ML R all (out++xs) rest':=by
 refine⟨?_,xfw.mpr ⟨m.ord,o,fun x hx y hy=>m.le x hx y (p.mem_iff.mpr (xed _ hy))⟩,fun x hx y hy=>?_⟩
 ·rw[xcg];exact(xge out p.symm).trans m.perm
 ·rcases xbw.mp hx with hx | hx
  ·exact m.le x hx y (p.mem_iff.mpr (xdb _ hy))
  ·exact h x hx y hy
theorem ML.fin {all out rest rest':List Keyed}(m:ML R all out rest)(p:rest'.Perm rest)(o:Ord R rest'):(out++rest').Perm all/\Ord R (out++rest') :=
 ⟨(xge out p).trans m.perm,xfw.mpr ⟨m.ord,o,fun x hx y hy=>m.le x hx y (p.mem_iff.mp hy)⟩⟩
theorem Ord.at {l:List Keyed}(h:Ord R l){i j:Nat}{x y:Keyed}(hi:l[i]?=some x)(hj:l[j]?=some y)(hij:i<=j):R x<=R y:=by
 obtain⟨h1,e1⟩:=xbh.mp hi;obtain⟨h2,e2⟩:=xbh.mp hj;by_cases c:i=j
 ·subst c;rw[← e1,← e2];exact xbf _
 ·rw[← e1,← e2];exact xfl.mp h i j h1 h2 (xdf hij c)
theorem Ord.drop {l:List Keyed}(h:Ord R l)(n:Nat):Ord R (l.drop n):=xgf (xkf _ _) h
theorem Ord.take {l:List Keyed}(h:Ord R l)(n:Nat):Ord R (l.take n):=xgf (xkd _ _) h
theorem zbd {l:List Keyed}{n:Nat}{y:Keyed}(h:y∈l.drop n):∃j,n<=j/\l[j]?=some y:=by
 obtain⟨i,hi,e⟩:=xeh h;refine⟨n+i,xbz _ _,?_⟩;rw[← e,xmf];exact xbd _
theorem zq {l:List Keyed}{n:Nat}{y:Keyed}(h:y∈l.take n):∃j,j < n/\l[j]?=some y:=by
 obtain⟨i,hi,e⟩:=xeh h;have hi2:i < n/\i < l.length:=by rw[xdc] at hi;exact Nat.lt_min.mp hi
 refine⟨i,hi2.1,?_⟩;rw[← e,xmg];exact xbd _
theorem zhu {l:List Keyed}{i:Nat}{x:Keyed}(h:l[i]?=some x):l.drop i=x::l.drop (i+1):=by
 obtain⟨h1,rfl⟩:=xbh.mp h;exact xfm h1
theorem zlq (l:List Keyed)(i k:Nat):l.drop i=(l.drop i).take k++l.drop (i+k):=by
 rw[← xll,xdn]
structure Two (R:Keyed->Nat) (la lb:List Keyed):Prop where
 oa:Ord R la
 ob:Ord R lb
 last:∀x,la[la.length - 1]?=some x->∀y∈lb,R y<=R x
noncomputable def Fin (R:Keyed->Nat) (la lb:List Keyed) (r:Array Keyed):Prop:=r.toList.Perm (la++lb)/\Ord R r.toList
variable {la lb:List Keyed}{out:Array Keyed}{ia ib:Nat}
theorem ML.pushB {R:Keyed->Nat}{all:List Keyed}(T:Two R la lb)(m:ML R all out.toList (la.drop ia++lb.drop ib)){y:Keyed}(hy:lb[ib]?=some y)(h:∀z∈la.drop ia,R y<=R z):ML R all (out.push y).toList (la.drop ia++lb.drop (ib+1)):=by
 rw[xew];refine m.grow ?_ (xjy _ _) fun x hx z hz=>?_
 ·rw[zhu hy];exact xmp
 ·simp at hx;subst hx
  rcases xbw.mp hz with hz | hz
  ·exact h z hz
  ·obtain⟨j,hj,e⟩:=zbd hz;exact T.ob.at hy e (xdk hj)
theorem ML.pushA {R:Keyed->Nat}{all:List Keyed}(T:Two R la lb)(m:ML R all out.toList (la.drop ia++lb.drop ib)){x:Keyed}(hx:la[ia]?=some x)(h:∀z∈lb.drop ib,R x<=R z):ML R all (out.push x).toList (la.drop (ia+1)++lb.drop ib):=by
 rw[xew];refine m.grow ?_ (xjy _ _) fun w hw z hz=>?_
 ·rw[zhu hx];exact .refl _
 ·simp at hw;subst hw
  rcases xbw.mp hz with hz | hz
  ·obtain⟨j,hj,e⟩:=zbd hz;exact T.oa.at hx e (xdk hj)
  ·exact h z hz
theorem zbq (xs:Array Keyed)(i j:Nat):(xs.extract i j).toList=(xs.toList.drop i).take (j - i):=by
 rw[xky,List.extract_eq_take_drop]
theorem zpb (xs:Array Keyed)(i:Nat):(xs.extract i).toList=xs.toList.drop i:=by
 rw[zbq];exact xdq (by simp)
theorem zbl {xs:Array Keyed}{i:Nat}{x:Keyed}(h:xs.toList[i]?=some x):kA R xs i=R x:=zdo (by rw[← xcf];exact h)
end
section
variable {prog:Program}{w:World}{A:Around}{E:Value->Shared->Prop}{s:Shared}{κ:SortKind}{a₀:Array Keyed}{R:Keyed->Nat}{a b out:Array Keyed}{ia ib k:Nat}{y x:Keyed}{all:List Keyed}
theorem ML.galA (T:Two R a.toList b.toList)(m:ML R all out.toList (a.toList.drop ia++b.toList.drop ib))(hy:b.toList[ib]?=some y)(c:Cut false R y a ia (a.size - ia) k):ML R all (out++a.extract ia (ia+k)).toList (a.toList.drop (ia+k)++b.toList.drop ib)/\∀z∈a.toList.drop (ia+k),R y<=R z:=by
 have up:∀z∈a.toList.drop (ia+k),R y<=R z:=fun z hz=>by
  obtain⟨j,hj,e⟩:=zbd hz;have hj2:j < a.size:=by have:=(xbh.mp e).1;simpa using this
  have h0:=xbc (xbz _ _) hj;have:=c.2.2 (j - ia) (xey hj) (xeq h0 hj2);rw[xck h0,zbl e] at this;exact xbx this
 have low:∀z∈(a.toList.drop ia).take k,R z<=R y:=fun z hz=>by
  obtain⟨j,hj,e⟩:=zq hz;rw[xfr] at e;have:=c.2.1 j hj;rw[zbl e] at this;exact this
 refine⟨?_,up⟩;rw[xdp,zbq,xcz];refine m.grow ?_ ((T.oa.drop ia).take k) fun z hz v hv=>?_
 ·conv=>lhs;rw[zlq a.toList ia k]
  rw[xcg]
 ·rcases xbw.mp hv with hv | hv
  ·exact xbc (low z hz) (up v hv)
  ·obtain⟨j,hj,e⟩:=zbd hv;exact xbc (low z hz) (T.ob.at hy e hj)
theorem ML.galB (T:Two R a.toList b.toList)(m:ML R all out.toList (a.toList.drop ia++b.toList.drop ib))(hx:a.toList[ia]?=some x)(c:Cut true R x b ib (b.size - ib) k):ML R all (out++b.extract ib (ib+k)).toList (a.toList.drop ia++b.toList.drop (ib+k))/\∀z∈b.toList.drop (ib+k),R x<=R z:=by
 have up:∀z∈b.toList.drop (ib+k),R x<=R z:=fun z hz=>by
  obtain⟨j,hj,e⟩:=zbd hz;have hj2:j < b.size:=by have:=(xbh.mp e).1;simpa using this
  have h0:=xbc (xbz _ _) hj;have:=c.2.2 (j - ib) (xey hj) (xeq h0 hj2);rw[xck h0,zbl e] at this;exact this
 have low:∀z∈(b.toList.drop ib).take k,R z<=R x:=fun z hz=>by
  obtain⟨j,hj,e⟩:=zq hz;rw[xfr] at e;have:=c.2.1 j hj;rw[zbl e] at this;exact xbx this
 refine⟨?_,up⟩;rw[xdp,zbq,xcz];refine m.grow ?_ ((T.ob.drop ib).take k) fun z hz v hv=>?_
 ·conv=>lhs;rw[zlq b.toList ib k]
  rw[← xcg,← xcg];exact xil _ xhf
 ·rcases xbw.mp hv with hv | hv
  ·obtain⟨j,hj,e⟩:=zbd hv;exact xbc (low z hz) (T.oa.at hx e hj)
  ·exact xbc (low z hz) (up v hv)
theorem ML.done (T:Two R a.toList b.toList)(m:ML R (a.toList++b.toList) out.toList (a.toList.drop ia++b.toList.drop ib))(h:ia=a.size\/ib=b.size):Fin R a.toList b.toList (out++a.extract ia++b.extract ib):=by
 unfold Fin;rw[xdp,xdp,zpb,zpb,xcg];refine m.fin (.refl _) ?_;rcases h with rfl | rfl
 ·rw[xim (by simp),xkz];exact T.ob.drop _
 ·rw[xim (as:=b.toList) (by simp),xdd];exact T.oa.drop _
theorem ML.lastA (T:Two R a.toList b.toList)(m:ML R (a.toList++b.toList) out.toList (a.toList.drop ia++b.toList.drop ib))(h:ia+1=a.size):Fin R a.toList b.toList (out++b.extract ib++a.extract ia):=by
 unfold Fin;rw[xdp,xdp,zpb,zpb,xcg];refine m.fin xhf (xfw.mpr ⟨T.ob.drop _,T.oa.drop _,fun v hv z hz=>?_⟩);obtain⟨j,hj,e⟩:=zbd hz;have hj2:j < a.size:=by have:=(xbh.mp e).1;simpa using this
 have:j=a.toList.length - 1:=xdy (xdi (by rw[xcc];exact hj2)) (by rw[xcc,← h];exact hj);subst this;exact T.last z e v (xhn hv)
noncomputable def setG':Nat->StateT SortSt Sem Unit:=sortPriv% PySem.Builtin.setMinGallop
theorem zvp {g:Nat}{st:SortSt}{Q:Unit->SortSt->Prop}(h:∀st',SmG st st'->Q () st'):wpS (model prog w) A E s (setG' g) Q st :=
 xgy (h _ ⟨rfl,rfl,rfl,rfl⟩)
theorem zbpm {α:Type}{K:Nat->StateT SortSt Sem α}{Q:α->SortSt->Prop}{st:SortSt}(h:∀v,wpS (model prog w) A E s (K v) Q st):∀y x:Nat,wpS (model prog w) A E s (if y > 1 then K x else K y) Q st:=fun y x=>by
 by_cases e:y > 1
 ·rw[if_pos e];exact h x
 ·rw[if_neg e];exact h y
theorem zbpo {α:Type}{c c2:Prop}[Decidable c][Decidable c2]{X Y Y':StateT SortSt Sem α}{Q:α->SortSt->Prop}{st:SortSt}(hY:¬c->Y'=Y)(h1:c->c2->wpS (model prog w) A E s X Q st)(h2:(c->¬c2)->wpS (model prog w) A E s Y Q st):wpS (model prog w) A E s (if c then(if c2 then X else Y) else Y') Q st:=by
 by_cases e:c
 ·rw[if_pos e];by_cases e2:c2
  ·rw[if_pos e2];exact h1 e e2
  ·rw[if_neg e2];exact h2 fun _=>e2
 ·rw[if_neg e,hY e];exact h2 fun z=>absurd z e
theorem zbfc {α:Type}{c c2 c3:Prop}[Decidable c][Decidable c2][Decidable c3]{X X3 Y Y':StateT SortSt Sem α}{Q:α->SortSt->Prop}{st:SortSt}(hY:¬c->Y'=Y)(h1:c->c2->wpS (model prog w) A E s X Q st)(h3:c->c3->wpS (model prog w) A E s X3 Q st)(h2:(c->¬c2/\¬c3)->wpS (model prog w) A E s Y Q st):wpS (model prog w) A E s (if c then(if c2 then X else if c3 then X3 else Y) else Y') Q st:=by
 by_cases e:c
 ·rw[if_pos e];by_cases e2:c2
  ·rw[if_pos e2];exact h1 e e2
  ·rw[if_neg e2];by_cases e3:c3
   ·rw[if_pos e3];exact h3 e e3
   ·rw[if_neg e3];exact h2 fun _=>⟨e2,e3⟩
 ·rw[if_neg e,hY e];exact h2 fun z=>absurd z e
theorem zbpn {α:Type}{c c2:Prop}[Decidable c][Decidable c2]{X X2 Y:StateT SortSt Sem α}{Q:α->SortSt->Prop}{st:SortSt}(h1:c->wpS (model prog w) A E s X Q st)(h2:c2->wpS (model prog w) A E s X2 Q st)(h3:¬c->¬c2->wpS (model prog w) A E s Y Q st):wpS (model prog w) A E s (if c then X else if c2 then X2 else Y) Q st:=by
 by_cases e:c
 ·rw[if_pos e];exact h1 e
 ·rw[if_neg e];by_cases e2:c2
  ·rw[if_pos e2];exact h2 e2
  ·rw[if_neg e2];exact h3 e e2
theorem w_if {α:Type}{c:Prop}[Decidable c]{X Y:StateT SortSt Sem α}{Q:α->SortSt->Prop}{st:SortSt}(h1:c->wpS (model prog w) A E s X Q st)(h2:¬c->wpS (model prog w) A E s Y Q st):wpS (model prog w) A E s (if c then X else Y) Q st:=by
 by_cases e:c
 ·rw[if_pos e];exact h1 e
 ·rw[if_neg e];exact h2 e
theorem w_el {α:Type}{arr:Array Keyed}{i:Nat}{x:Keyed}{f:Keyed->StateT SortSt Sem α}{Q:α->SortSt->Prop}{st:SortSt}(e:arr[i]?=some x)(h:wpS (model prog w) A E s (f x) Q st):wpS (model prog w) A E s (elem' arr i >>= f) Q st:=xbl (zkp e h)
theorem zbfb {α:Type}{x y:Keyed}{f:Option Bool->StateT SortSt Sem α}{Q:α->SortSt->Prop}{st:SortSt}(O:Orc prog w A s κ a₀ R)(hk:kindOf st=κ)(hx:x∈a₀.toList)(hy:y∈a₀.toList)(h1:R x < R y->wpS (model prog w) A E s (f (some true)) Q st)(h2:R y<=R x->wpS (model prog w) A E s (f (some false)) Q st):wpS (model prog w) A E s (lt' x y >>= f) Q st:=by
 refine xbl (w_lt O hk hx hy ?_);by_cases c:R x < R y
 ·rw[xcj c];exact h1 c
 ·rw[xcb c];exact h2 (xci c)
inductive Dn {β:Type} (R:Keyed->Nat) (a b:Array Keyed) (st:SortSt):Option (Array Keyed)×β->SortSt->Prop where
 | mk {r:Array Keyed} {z:β} {st':SortSt} (sm:SmG st st') (f:Fin R a.toList b.toList r):Dn R a b st (some r,z) st'
inductive L1 (R:Keyed->Nat) (a b:Array Keyed) (st:SortSt) (x:Nat):Option (Array Keyed)×Array Keyed×Nat×Nat×Nat->SortSt->Prop where
 | mk {out:Array Keyed} {ia ib g:Nat} {st':SortSt} (sm:SmG st st') (m:ML R (a.toList++b.toList) out.toList (a.toList.drop ia++b.toList.drop ib)) (ha:ia+1 < a.size) (hb:ib < b.size) (hx:x < ia+ib):L1 R a b st x (none,out,ia,ib,g) st'
inductive L2' (R:Keyed->Nat) (a b:Array Keyed) (st:SortSt) (x:Nat):Option (Array Keyed)×Array Keyed×Nat×Nat×Nat×Nat->SortSt->Prop where
 | mk {out:Array Keyed} {ia ib ac bc:Nat} {st':SortSt} (sm:SmG st st') (m:ML R (a.toList++b.toList) out.toList (a.toList.drop ia++b.toList.drop ib)) (ha:ia+1 < a.size) (hb:ib < b.size) (hx:x<=ia+ib):L2' R a b st x (none,out,ia,ib,ac,bc) st'
inductive L3 (R:Keyed->Nat) (a b:Array Keyed) (st:SortSt) (x:Nat):Option (Array Keyed)×Array Keyed×Nat×Nat×Nat×Nat×Nat->SortSt->Prop where
 | mk {out:Array Keyed} {ia ib g ac bc:Nat} {st':SortSt} (sm:SmG st st') (m:ML R (a.toList++b.toList) out.toList (a.toList.drop ia++b.toList.drop ib)) (ha:ia+1 < a.size) (hb:ib < b.size) (hx:x<=ia+ib):L3 R a b st x (none,out,ia,ib,g,ac,bc) st'
theorem zvr {st:SortSt}{Q:Array Keyed->SortSt->Prop}(O:Orc prog w A s κ a₀ R)(hk:kindOf st=κ)(ma:∀x∈a.toList,x∈a₀.toList)(mb:∀x∈b.toList,x∈a₀.toList)(T:Two R a.toList b.toList)(ha:1<=a.size)(hb:1<=b.size)
  (fst:∀y,b.toList[0]?=some y->∀x∈a.toList,R y<=R x)(h:∀r st',SmG st st'->Fin R a.toList b.toList r->Q r st'):wpS (model prog w) A E s (mergeLo' a b) Q st:=by
 have atA:∀(i:Nat) (hi:i < a.size),a[i]?=some a[i]/\a.toList[i]?=some a[i]/\a[i]∈a₀.toList:=fun i hi=>⟨getElem?_pos a i hi,by rw[xcf];exact getElem?_pos a i hi,ma _ (by simp)⟩
 have atB:∀(i:Nat) (hi:i < b.size),b[i]?=some b[i]/\b.toList[i]?=some b[i]/\b[i]∈a₀.toList:=fun i hi=>⟨getElem?_pos b i hi,by rw[xcf];exact getElem?_pos b i hi,mb _ (by simp)⟩
 have upA:∀i,UpA R a i (i+(a.size - i)):=fun i p q a1 a2 a3=>by
  have hq:q < a.size:=by lia
  have e1:=(atA p (by lia)).2.1;have e2:=(atA q hq).2.1;rw[zbl e1,zbl e2];exact T.oa.at e1 e2 a2
 have upB:∀i,UpA R b i (i+(b.size - i)):=fun i p q a1 a2 a3=>by
  have hq:q < b.size:=by lia
  have e1:=(atB p (by lia)).2.1;have e2:=(atB q hq).2.1;rw[zbl e1,zbl e2];exact T.ob.at e1 e2 a2
 obtain⟨y0,f0,f1⟩:∃x,b[0]?=some x/\b.toList[0]?=some x:=⟨_,(atB 0 hb).1,(atB 0 hb).2.1⟩
 have start:ML R (a.toList++b.toList) (#[y0]:Array Keyed).toList (a.toList.drop 0++b.toList.drop 1):=by
  have z:ML R (a.toList++b.toList) (#[]:Array Keyed).toList (a.toList.drop 0++b.toList.drop 0):=⟨by simp,List.Pairwise.nil,by simp⟩
  exact z.pushB T f1 fun x hx=>fst y0 f1 x (xhn hx)
 refine xbl (xkq (xij ⟨rfl,xbl (zkp f0 (zbpn (fun c1=>?_) (fun c2=>?_) fun c1 c2=>?_))⟩))
 ·exact xbo (h _ _ (.refl _) (start.done T (.inr (by simpa using c1))))
 ·exact xbo (h _ _ (.refl _) (start.lastA T (by simpa using c2)))
 simp only[xgx] at c1 c2;refine xbl (xhz ?_);refine xbl (xft (xdt (I:=L1 R a b st) (Q:=Dn R a b st) ?_ ?_ (.mk (.refl _) start (by lia) (by lia) (by lia))) ?_)
 ·rintro x c st1 x1 x2 @⟨out,ia,ib,g,st1,sm1,m,ha1,hb1,hx⟩;dsimp only;refine xbl (xft (xdt (I:=fun _=>L2' R a b st (ia+ib)) (Q:=fun c st'=>Dn R a b st c st'\/L2' R a b st (ia+ib) c st') ?_ ?_ (.mk sm1 m ha1 hb1 (xbf _))) ?_)
  ·rintro x' c st2 _ _ @⟨out,ia',ib',ac,bc,st2,sm2,m,ha2,hb2,hp⟩;dsimp only;have ea:=(atA ia' (xfj ha2)).1;have ela:=(atA ia' (xfj ha2)).2.1;have mea:=(atA ia' (xfj ha2)).2.2;have eb:=(atB ib' hb2).1;have elb:=(atB ib' hb2).2.1;have meb:=(atB ib' hb2).2.2;refine w_el eb (w_el ea (zbfb O (sm2.kind.trans hk) meb mea (fun cw=>w_el eb ?_) fun cw=>w_el ea ?_))
   ·skip
    have m2:=m.pushB T elb fun z hz=>by
     obtain⟨j,hj,e⟩:=zbd hz;exact xbc (xbx cw) (T.oa.at ela e hj)
    refine w_if (fun c5=>xbo (.inl (.mk sm2 (m2.done T (.inr (eq_of_beq c5)))))) fun c5=>?_
    rw[xgx] at c5;have hb3:ib'+1 < b.size:=xdf hb2 c5;have hp3:ia+ib<=ia'+(ib'+1):=xfz hp;exact w_if (fun _=>xbo (.inr (.mk sm2 m2 ha2 hb3 hp3))) fun _=>xbo (.mk sm2 m2 ha2 hb3 hp3)
   ·skip
    have m2:=m.pushA T ela fun z hz=>by
     obtain⟨j,hj,e⟩:=zbd hz;exact xbc cw (T.ob.at elb e hj)
    refine w_if (fun c5=>xbo (.inl (.mk sm2 (m2.lastA T (eq_of_beq c5))))) fun c5=>?_
    rw[xgx] at c5;have ha3:ia'+1+1 < a.size:=xdf ha2 c5;have hp3:ia+ib<=ia'+1+ib':=Nat.succ_add ia' ib' ▸ xfz hp
    exact w_if (fun _=>xbo (.inr (.mk sm2 m2 ha3 hb2 hp3))) fun _=>xbo (.mk sm2 m2 ha3 hb2 hp3)
  ·exact fun c st2 k=>.inr k
  ·rintro c st2 (⟨sm2,f⟩ | @⟨out,ia',ib',ac,bc,st2,sm2,m,ha2,hb2,hp⟩)
   ·exact xbo (.mk sm2 f)
   ·dsimp only;refine xbl (xkq (xij ⟨rfl,?_⟩));refine xbl (xft (xdt (I:=fun x'=>L3 R a b st (ia+ib+x')) (Q:=fun c st'=>Dn R a b st c st'\/L3 R a b st (ia+ib+1) c st') ?_ ?_ (.mk sm2 m ha2 hb2 hp)) ?_)
    ·rintro x' c st3 _ x2' @⟨out,ia',ib',g',ac,bc,st3,sm3,m,ha2,hb2,hp⟩;dsimp only;have eb:=(atB ib' hb2).1;have elb:=(atB ib' hb2).2.1;have meb:=(atB ib' hb2).2.2;generalize g' - 1=g1;generalize g'=y;revert g1;revert y
     refine zbpm ?_;intro gg;refine xbl (zvp fun st4 sg=>?_);have sm4:=sm3.trans sg;refine w_el eb (xbl (zfr O (sm4.kind.trans hk) meb (fun i hi=>⟨_,(atA (ia'+i) (xdz hi)).1,(atA (ia'+i) (xdz hi)).2.2⟩) (xfy (xfj ha2)) (upA ia') fun k1 cut1=>?_));have m5:=(m.galA T elb cut1).1;have u5:=(m.galA T elb cut1).2;have hk1:=cut1.1;dsimp only;refine zbfc (fun c6=>?_) (fun c6 c7=>?_) (fun c6 c8=>?_) fun hh=>?_
     ·have z:k1=0:=Nat.le_zero.mp (xci c6);subst z;simp only[xhp,xiv (xie _ _),xlo]
     ·exact xbo (.inl (.mk sm4 (m5.lastA T (eq_of_beq c7))))
     ·exact xbo (.inl (.mk sm4 (m5.done T (.inl (eq_of_beq c8)))))
     have ha5:ia'+k1+1 < a.size:=by
      by_cases c6:k1 > 0
      ·have:=hh c6;simp at this;lia
      ·lia
     have hp5:ia+ib+x'<=ia'+k1+ib':=xbc hp (Nat.add_le_add_right (xbz _ _) _);clear hh;generalize ia'+k1=ia5 at m5 u5 ha5 hp5 ⊢;generalize out++a.extract ia' ia5=out5 at m5 ⊢;have m6:=m5.pushB T elb u5;have ea:=(atA _ (xfj ha5)).1;have ela:=(atA _ (xfj ha5)).2.1;have mea:=(atA _ (xfj ha5)).2.2;refine w_el eb (w_if (fun c9=>xbo (.inl (.mk sm4 (m6.done T (.inr (eq_of_beq c9)))))) fun c9=>w_el ea ?_);rw[xgx] at c9;refine xbl (zfr O (sm4.kind.trans hk) mea (fun i hi=>⟨_,(atB (ib'+1+i) (xdz hi)).1,(atB (ib'+1+i) (xdz hi)).2.2⟩) (xfy (xdf hb2 c9)) (upB (ib'+1)) fun k2 cut2=>?_);have m7:=(m6.galB T ela cut2).1;have u7:=(m6.galB T ela cut2).2;have hk2:=cut2.1;dsimp only;refine zbpo (fun d6=>?_) (fun d6 d7=>?_) fun hh=>?_
     ·have z2:k2=0:=Nat.le_zero.mp (xci d6);subst z2;simp only[xhp,xiv (xie _ _),xlo]
     ·exact xbo (.inl (.mk sm4 (m7.done T (.inr (eq_of_beq d7)))))
     have h20:ib'+1+k2≠b.size:=by
      by_cases d6:k2 > 0
      ·have:=hh d6;simp at this;lia
      ·lia
     have m8:=m7.pushA T ela u7;refine w_el ea (w_if (fun d8=>xbo (.inl (.mk sm4 (m8.lastA T (eq_of_beq d8))))) fun d8=>?_);rw[xgx] at d8;have ha9:ia5+1+1 < a.size:=xdf ha5 d8;have hb9:ib'+1+k2 < b.size:=by lia
     have hp9:ia+ib+(x'+1)<=ia5+1+(ib'+1+k2):=by lia
     exact w_if (fun _=>xbo (.inr (.mk sm4 m8 ha9 hb9 (xbc (xcm (xmw 1 x') _) hp9)))) fun _=>xbo (.mk sm4 m8 ha9 hb9 hp9)
    ·rintro c st3 ⟨sm3,m,ha2,hb2,hp⟩;exact .inr (.mk sm3 m ha2 hb2 (by lia))
    ·rintro c st3 (⟨sm3,f⟩ | ⟨sm3,m,ha2,hb2,hp⟩)
     ·exact xbo (.mk sm3 f)
     ·exact xbl (zvp fun st4 sg=>xbo (.mk (sm3.trans sg) m ha2 hb2 (xbg (Nat.succ_lt_succ hx) hp)))
 ·rintro c st1 ⟨sm1,m,ha1,hb1,hx⟩;lia
 ·rintro c st1 ⟨sm1,f⟩;exact xbo (h _ st1 sm1 f)
end
structure MH (R:Keyed->Nat) (all out rest:List Keyed):Prop where
 perm:(rest++out.reverse).Perm all
 ord:Ord R out.reverse
 le:∀x∈rest,∀y∈out,R x<=R y
section
variable {R:Keyed->Nat}
theorem MH.grow {all out rest xs rest':List Keyed}(m:MH R all out rest)(p:rest.Perm (rest'++xs.reverse))(o:Ord R xs.reverse)(h:∀x∈rest',∀y∈xs,R x<=R y):MH R all (out++xs) rest':=by
 refine⟨?_,?_,fun x hx y hy=>?_⟩
 ·rw[List.reverse_append,← xcg];exact(xil _ p.symm).trans m.perm
 ·rw[List.reverse_append];exact xfw.mpr ⟨o,m.ord,fun x hx y hy=>m.le x (p.mem_iff.mpr (xdb _ hx)) y (xko.mp hy)⟩
 ·rcases xbw.mp hy with hy | hy
  ·exact m.le x (p.mem_iff.mpr (xed _ hx)) y hy
  ·exact h x hx y hy
theorem MH.fin {all out rest rest':List Keyed}(m:MH R all out rest)(p:rest'.Perm rest)(o:Ord R rest'):(rest'++out.reverse).Perm all/\Ord R (rest'++out.reverse) :=
 ⟨(xil _ p).trans m.perm,xfw.mpr ⟨o,m.ord,fun x hx y hy=>m.le x (p.mem_iff.mp hx) y (xko.mp hy)⟩⟩
theorem zhe {l:List Keyed}{i:Nat}{x:Keyed}(h:l[i]?=some x):l.take (i+1)=l.take i++[x]:=by
 obtain⟨h1,rfl⟩:=xbh.mp h;exact xhq h1
structure TwoH (R:Keyed->Nat) (la lb:List Keyed):Prop where
 oa:Ord R la
 ob:Ord R lb
 first:∀y,lb[0]?=some y->∀x∈la,R y<=R x
variable {la lb all:List Keyed}{out:Array Keyed}{na nb:Nat}
theorem MH.pushB (T:TwoH R la lb)(m:MH R all out.toList (la.take na++lb.take (nb+1))){y:Keyed}(hy:lb[nb]?=some y)(h:∀z∈la.take na,R z<=R y):MH R all (out.push y).toList (la.take na++lb.take nb):=by
 rw[xew];refine m.grow ?_ (by simp) fun z hz w hw=>?_
 ·rw[zhe hy];simp
 ·simp at hw;subst hw
  rcases xbw.mp hz with hz | hz
  ·exact h z hz
  ·obtain⟨j,hj,e⟩:=zq hz;exact T.ob.at e hy (by lia)
theorem MH.pushA (T:TwoH R la lb)(m:MH R all out.toList (la.take (na+1)++lb.take nb)){x:Keyed}(hx:la[na]?=some x)(h:∀z∈lb.take nb,R z<=R x):MH R all (out.push x).toList (la.take na++lb.take nb):=by
 rw[xew];refine m.grow ?_ (by simp) fun z hz w hw=>?_
 ·rw[zhe hx];simp only[List.reverse_singleton,xcg];exact xge _ xhf
 ·simp at hw;subst hw
  rcases xbw.mp hz with hz | hz
  ·obtain⟨j,hj,e⟩:=zq hz;exact T.oa.at e hx (by lia)
  ·exact h z hz
end
section
variable {prog:Program}{w:World}{A:Around}{E:Value->Shared->Prop}{s:Shared}{κ:SortKind}{a₀:Array Keyed}{R:Keyed->Nat}{a b out:Array Keyed}{na nb k:Nat}{y x:Keyed}{all:List Keyed}
theorem zul (l:List Keyed){k n:Nat}(h:k<=n):l.take n=l.take k++(l.drop k).take (n - k):=by
 conv=>lhs;rw[show n=k+(n - k) by lia,List.take_add]
theorem MH.galA (T:TwoH R a.toList b.toList)(m:MH R all out.toList (a.toList.take na++b.toList.take (nb+1)))(hy:b.toList[nb]?=some y)(hn:na<=a.size)(c:Cut false R y a 0 na k):MH R all (out++(a.extract k na).reverse).toList (a.toList.take k++b.toList.take (nb+1))/\∀z∈a.toList.take k,R z<=R y:=by
 have low:∀z∈a.toList.take k,R z<=R y:=fun z hz=>by
  obtain⟨j,hj,e⟩:=zq hz;have:=c.2.1 j hj;rw[xdw,zbl e] at this;exact this
 have up:∀z∈(a.toList.drop k).take (na - k),R y<=R z:=fun z hz=>by
  obtain⟨j,hj,e⟩:=zq hz;rw[xfr] at e;have:=c.2.2 (k+j) (by lia) (by lia);rw[xdw,zbl e] at this;exact xbx this
 refine⟨?_,low⟩;rw[xdp,xjb,zbq];refine m.grow ?_ (by rw[xjc];exact(T.oa.drop k).take _) fun v hv z hz=>?_
 ·rw[xjc,zul a.toList c.1,xcg,xcg];exact xge _ xhf
 ·have hz:=up z (xko.mp hz);rcases xbw.mp hv with hv | hv
  ·exact xbc (low v hv) hz
  ·obtain⟨j,hj,e⟩:=zq hv;exact xbc (T.ob.at e hy (by lia)) hz
theorem MH.galB (T:TwoH R a.toList b.toList)(m:MH R all out.toList (a.toList.take (na+1)++b.toList.take nb))(hx:a.toList[na]?=some x)(hn:nb<=b.size)(c:Cut true R x b 0 nb k):MH R all (out++(b.extract k nb).reverse).toList (a.toList.take (na+1)++b.toList.take k)/\∀z∈b.toList.take k,R z<=R x:=by
 have low:∀z∈b.toList.take k,R z<=R x:=fun z hz=>by
  obtain⟨j,hj,e⟩:=zq hz;have:=c.2.1 j hj;rw[xdw,zbl e] at this;exact xbx this
 have up:∀z∈(b.toList.drop k).take (nb - k),R x<=R z:=fun z hz=>by
  obtain⟨j,hj,e⟩:=zq hz;rw[xfr] at e;have:=c.2.2 (k+j) (by lia) (by lia);rw[xdw,zbl e] at this;exact this
 refine⟨?_,low⟩;rw[xdp,xjb,zbq];refine m.grow ?_ (by rw[xjc];exact(T.ob.drop k).take _) fun v hv z hz=>?_
 ·rw[xjc,zul b.toList c.1,xcg]
 ·have hz:=up z (xko.mp hz);rcases xbw.mp hv with hv | hv
  ·obtain⟨j,hj,e⟩:=zq hv;exact xbc (T.oa.at e hx (by lia)) hz
  ·exact xbc (low v hv) hz
theorem zke (xs:Array Keyed)(n:Nat):(xs.extract 0 n).toList=xs.toList.take n:=by
 rw[zbq,List.drop_zero,Nat.sub_zero]
theorem MH.done (T:TwoH R a.toList b.toList)(m:MH R (a.toList++b.toList) out.toList (a.toList.take na++b.toList.take nb))(h:na=0\/nb=0):Fin R a.toList b.toList (a.extract 0 na++b.extract 0 nb++out.reverse):=by
 unfold Fin;rw[xdp,xdp,zke,zke,xjb];refine m.fin (.refl _) ?_;rcases h with rfl | rfl
 ·rw[List.take_zero,xkz];exact T.ob.take _
 ·rw[List.take_zero,xdd];exact T.oa.take _
theorem MH.firstB (T:TwoH R a.toList b.toList)(m:MH R (a.toList++b.toList) out.toList (a.toList.take na++b.toList.take nb))(h:nb=1):Fin R a.toList b.toList (b.extract 0 nb++a.extract 0 na++out.reverse):=by
 unfold Fin;rw[xdp,xdp,zke,zke,xjb];refine m.fin xhf (xfw.mpr ⟨T.ob.take _,T.oa.take _,fun v hv z hz=>?_⟩);obtain⟨j,hj,e⟩:=zq hv;have:j=0:=by lia
 subst this;exact T.first v e z (xgl hz)
inductive H1 (R:Keyed->Nat) (a b:Array Keyed) (st:SortSt) (x:Nat):Option (Array Keyed)×Nat×Nat×Array Keyed×Nat->SortSt->Prop where
 | mk {na nb:Nat} {out:Array Keyed} {g:Nat} {st':SortSt} (sm:SmG st st') (m:MH R (a.toList++b.toList) out.toList (a.toList.take na++b.toList.take nb)) (a1:1<=na) (a2:na<=a.size) (b1:2<=nb) (b2:nb<=b.size) (hx:x+na+nb < a.size+b.size):H1 R a b st x (none,na,nb,out,g) st'
inductive H2 (R:Keyed->Nat) (a b:Array Keyed) (st:SortSt) (x:Nat):Option (Array Keyed)×Nat×Nat×Array Keyed×Nat×Nat->SortSt->Prop where
 | mk {na nb:Nat} {out:Array Keyed} {ac bc:Nat} {st':SortSt} (sm:SmG st st') (m:MH R (a.toList++b.toList) out.toList (a.toList.take na++b.toList.take nb)) (a1:1<=na) (a2:na<=a.size) (b1:2<=nb) (b2:nb<=b.size) (hx:na+nb<=x):H2 R a b st x (none,na,nb,out,ac,bc) st'
inductive H3 (R:Keyed->Nat) (a b:Array Keyed) (st:SortSt) (x y:Nat):Option (Array Keyed)×Nat×Nat×Array Keyed×Nat×Nat×Nat->SortSt->Prop where
 | mk {na nb:Nat} {out:Array Keyed} {g ac bc:Nat} {st':SortSt} (sm:SmG st st') (m:MH R (a.toList++b.toList) out.toList (a.toList.take na++b.toList.take nb)) (a1:1<=na) (a2:na<=a.size) (b1:2<=nb) (b2:nb<=b.size) (hx:y+na+nb<=x):H3 R a b st x y (none,na,nb,out,g,ac,bc) st'
theorem zvs {st:SortSt}{Q:Array Keyed->SortSt->Prop}(O:Orc prog w A s κ a₀ R)(hk:kindOf st=κ)(ma:∀x∈a.toList,x∈a₀.toList)(mb:∀x∈b.toList,x∈a₀.toList)(T:TwoH R a.toList b.toList)(ha:1<=a.size)(hb:1<=b.size)
  (lst:∀x,a.toList[a.size - 1]?=some x->∀y∈b.toList,R y<=R x)(h:∀r st',SmG st st'->Fin R a.toList b.toList r->Q r st'):wpS (model prog w) A E s (mergeHi' a b) Q st:=by
 have atA:∀(i:Nat) (hi:i < a.size),a[i]?=some a[i]/\a.toList[i]?=some a[i]/\a[i]∈a₀.toList:=fun i hi=>⟨getElem?_pos a i hi,by rw[xcf];exact getElem?_pos a i hi,ma _ (by simp)⟩
 have atB:∀(i:Nat) (hi:i < b.size),b[i]?=some b[i]/\b.toList[i]?=some b[i]/\b[i]∈a₀.toList:=fun i hi=>⟨getElem?_pos b i hi,by rw[xcf];exact getElem?_pos b i hi,mb _ (by simp)⟩
 have upA:∀n,n<=a.size->UpA R a 0 (0+n):=fun n hn p q a1 a2 a3=>by
  have hq:q < a.size:=xbg a3 (xbc (xdh (xdw n)) hn);have e1:=(atA p (xde a2 hq)).2.1;have e2:=(atA q hq).2.1;rw[zbl e1,zbl e2];exact T.oa.at e1 e2 a2
 have upB:∀n,n<=b.size->UpA R b 0 (0+n):=fun n hn p q a1 a2 a3=>by
  have hq:q < b.size:=xbg a3 (xbc (xdh (xdw n)) hn);have e1:=(atB p (xde a2 hq)).2.1;have e2:=(atB q hq).2.1;rw[zbl e1,zbl e2];exact T.ob.at e1 e2 a2
 obtain⟨x0,f0,f1⟩:∃x,a[a.size - 1]?=some x/\a.toList[a.size - 1]?=some x:=⟨_,(atA (a.size - 1) (xid ha Nat.one_pos)).1,(atA (a.size - 1) (xid ha Nat.one_pos)).2.1⟩
 have start:MH R (a.toList++b.toList) (#[x0]:Array Keyed).toList (a.toList.take (a.size - 1)++b.toList.take b.size):=by
  have z:MH R (a.toList++b.toList) (#[]:Array Keyed).toList (a.toList.take (a.size - 1+1)++b.toList.take b.size):=by
   refine⟨?_,List.Pairwise.nil,by simp⟩;rw[xha ha,xdq (by simp),xdq (by simp)];simp
  exact z.pushA T f1 fun y hy=>lst x0 f1 y (xgl hy)
 refine xbl (xkq (xij ⟨rfl,xbl (zkp f0 (zbpn (fun c1=>?_) (fun c2=>?_) fun c1 c2=>?_))⟩))
 ·exact xbo (h _ _ (.refl _) (start.done T (.inl (by simpa using c1))))
 ·exact xbo (h _ _ (.refl _) (start.firstB T (by simpa using c2)))
 simp only[xgx] at c1 c2;refine xbl (xhz ?_);refine xbl (xft (xdt (I:=H1 R a b st) (Q:=Dn R a b st) ?_ ?_ (.mk (.refl _) start (by lia) (by lia) (by lia) (xbf _) (by lia))) ?_)
 ·rintro x c st1 x1 x2 @⟨na,nb,out,g,st1,sm1,m,a1,a2,b1,b2,hx⟩;dsimp only;refine xbl (xft (xdt (I:=fun _=>H2 R a b st (na+nb)) (Q:=fun c st'=>Dn R a b st c st'\/H2 R a b st (na+nb) c st') ?_ ?_ (.mk sm1 m a1 a2 b1 b2 (xbf _))) ?_)
  ·rintro x' c st2 _ _ @⟨na',nb',out,ac,bc,st2,sm2,m,g1,g2,g3,g4,hp⟩;obtain⟨p,rfl⟩:∃p,na'=p+1:=⟨na' - 1,(xha g1).symm⟩
   obtain⟨q,rfl⟩:∃q,nb'=q+1:=⟨nb' - 1,(xha (xdk g3)).symm⟩
   dsimp only;have ea:=(atA p g2).1;have ela:=(atA p g2).2.1;have mea:=(atA p g2).2.2;have eb:=(atB q g4).1;have elb:=(atB q g4).2.1;have meb:=(atB q g4).2.2;refine w_el eb (w_el ea (zbfb O (sm2.kind.trans hk) meb mea (fun cw=>w_el ea ?_) fun cw=>w_el eb ?_))
   ·skip
    have m2:=m.pushA T ela fun z hz=>by
     obtain⟨j,hj,e⟩:=zq hz;exact xbc (T.ob.at e elb (xcr hj)) (xbx cw)
    refine w_if (fun c5=>xbo (.inl (.mk sm2 (m2.done T (.inl (eq_of_beq c5)))))) fun c5=>?_
    rw[xgx] at c5;have a3:1<=p:=xlp c5;have a4:p<=a.size:=xdk g2;have a5:p+(q+1)<=na+nb:=xbc (Nat.add_le_add_right (xkl p) _) hp;exact w_if (fun _=>xbo (.inr (.mk sm2 m2 a3 a4 g3 g4 a5))) fun _=>xbo (.mk sm2 m2 a3 a4 g3 g4 a5)
   ·skip
    have m2:=m.pushB T elb fun z hz=>by
     obtain⟨j,hj,e⟩:=zq hz;exact xbc (T.oa.at e ela (xcr hj)) cw
    refine w_if (fun c5=>xbo (.inl (.mk sm2 (m2.firstB T (eq_of_beq c5))))) fun c5=>?_
    rw[xgx] at c5;have a3:2<=q:=xdf (Nat.le_of_succ_le_succ g3) (xem c5);have a4:q<=b.size:=xdk g4;have a5:p+1+q<=na+nb:=xdk hp;exact w_if (fun _=>xbo (.inr (.mk sm2 m2 g1 g2 a3 a4 a5))) fun _=>xbo (.mk sm2 m2 g1 g2 a3 a4 a5)
  ·exact fun c st2 k=>.inr k
  ·rintro c st2 (⟨sm2,f⟩ | @⟨na',nb',out,ac,bc,st2,sm2,m,g1,g2,g3,g4,hp⟩)
   ·exact xbo (.mk sm2 f)
   ·dsimp only;refine xbl (xkq (xij ⟨rfl,?_⟩));refine xbl (xft (xdt (I:=H3 R a b st (na+nb)) (Q:=fun c st'=>Dn R a b st c st'\/H3 R a b st (na+nb) 1 c st') ?_ ?_ (.mk sm2 m g1 g2 g3 g4 (by rw[xdw];exact hp))) ?_)
    ·rintro x' c st3 _ x2' @⟨na',nb',out,g',ac,bc,st3,sm3,m,g1,g2,g3,g4,hp⟩;obtain⟨q,rfl⟩:∃q,nb'=q+1:=⟨nb' - 1,(xha (xdk g3)).symm⟩
     dsimp only;have eb:=(atB q g4).1;have elb:=(atB q g4).2.1;have meb:=(atB q g4).2.2;generalize g' - 1=g1;generalize g'=y;revert g1;revert y
     refine zbpm ?_;intro gg;refine xbl (zvp fun st4 sg=>?_);have sm4:=sm3.trans sg;refine w_el eb (xbl (zfr O (sm4.kind.trans hk) meb (fun i hi=>⟨_,(atA (0+i) (by lia)).1,(atA (0+i) (by lia)).2.2⟩) (by lia) (upA na' g2) fun k1 cut1=>?_));have m5:=(m.galA T elb g2 cut1).1;have u5:=(m.galA T elb g2 cut1).2;have hk1:=cut1.1;dsimp only;refine zbpo (fun c6=>?_) (fun c6 c7=>?_) fun hh=>?_
     ·have z:k1=na':=by lia
      subst z;rw[show out++(a.extract k1 k1).reverse=out by simp[xie]]
     ·exact xbo (.inl (.mk sm4 (m5.done T (.inl (eq_of_beq c7)))))
     have g5:1<=k1:=by
      by_cases c6:na' - k1 > 0
      ·have:=hh c6;simp at this;lia
      ·lia
     have g6:k1<=a.size:=xbc hk1 g2;have hp5:x'+k1+(q+1)<=na+nb:=by lia
     clear hh hk1 cut1;generalize out++(a.extract k1 na').reverse=out5 at m5 ⊢;obtain⟨p,rfl⟩:∃p,k1=p+1:=⟨k1 - 1,(xha g5).symm⟩
     simp only[Nat.add_sub_cancel];have m6:=m5.pushB T elb u5;have ea:=(atA p g6).1;have ela:=(atA p g6).2.1;have mea:=(atA p g6).2.2;refine w_el eb (w_if (fun c9=>xbo (.inl (.mk sm4 (m6.firstB T (eq_of_beq c9))))) fun c9=>w_el ea ?_);rw[xgx] at c9;refine xbl (zfr O (sm4.kind.trans hk) mea (fun i hi=>⟨_,(atB (0+i) (by lia)).1,(atB (0+i) (by lia)).2.2⟩) (by lia) (upB q (xdk g4)) fun k2 cut2=>?_);have m7:=(m6.galB T ela (xdk g4) cut2).1;have u7:=(m6.galB T ela (xdk g4) cut2).2;have hk2:=cut2.1;dsimp only;refine zbfc (fun d6=>?_) (fun d6 d7=>?_) (fun d6 d9=>?_) fun hh=>?_
     ·have z2:k2=q:=by lia
      subst z2;simp only[xiv (xbc (xie _ _) (xbf _)),Array.reverse_empty,xlo]
     ·exact xbo (.inl (.mk sm4 (m7.firstB T (eq_of_beq d7))))
     ·exact xbo (.inl (.mk sm4 (m7.done T (.inr (eq_of_beq d9)))))
     have h20:2<=k2:=by
      by_cases d6:q - k2 > 0
      ·have:=hh d6;simp at this;lia
      ·lia
     have m8:=m7.pushA T ela u7;refine w_el ea (w_if (fun d8=>xbo (.inl (.mk sm4 (m8.done T (.inl (eq_of_beq d8)))))) fun d8=>?_);rw[xgx] at d8;have a3:1<=p:=xlp d8;have a4:p<=a.size:=xdk g6;have a5:k2<=b.size:=xbc hk2 (xdk g4);have a6:x'+1+p+k2<=na+nb:=by lia
     exact w_if (fun _=>xbo (.inr (.mk sm4 m8 a3 a4 h20 a5 (by lia)))) fun _=>xbo (.mk sm4 m8 a3 a4 h20 a5 a6)
    ·rintro c st3 ⟨sm3,m,g1,g2,g3,g4,hp⟩;exact .inr (.mk sm3 m g1 g2 g3 g4 (by lia))
    ·rintro c st3 (⟨sm3,f⟩ | @⟨na',nb',out,g',ac,bc,st3,sm3,m,g1,g2,g3,g4,hp⟩)
     ·exact xbo (.mk sm3 f)
     ·have h9:x+1+na'+nb' < a.size+b.size:=by lia
      exact xbl (zvp fun st4 sg=>xbo (.mk (sm3.trans sg) m g1 g2 g3 g4 h9))
 ·rintro c st1 ⟨sm1,m,a1,a2,b1,b2,hx⟩;lia
 ·rintro c st1 ⟨sm1,f⟩;exact xbo (h _ st1 sm1 f)
end
theorem zsl:∀(l:List Keyed) (n off:Nat) (xs:Array Keyed),off+n+l.length<=xs.size->∀i,((l.zipIdx n).foldl (fun a p=>a.setIfInBounds (off+p.2) p.1) xs)[i]?=if off+n<=i/\i < off+n+l.length then l[i - (off+n)]? else xs[i]?
 | [],n,off,xs,h,i=>by
  rw[if_neg (by simp)]
  rfl
 | x::l,n,off,xs,h,i=>by
  rw[List.zipIdx_cons,xhg];rw[xby] at h;have e1:off+(n+1)+l.length=off+n+(l.length+1):=Nat.succ_add_eq_add_succ (off+n) l.length;rw[zsl l (n+1) off _ (by rw[Array.size_setIfInBounds];exact xbc (xdh e1) h) i];rw[xby];by_cases c:off+(n+1)<=i/\i < off+(n+1)+l.length
  ·rw[if_pos c,if_pos ⟨xdk c.1,xgg c.2 e1⟩,show i - (off+n)=i - (off+(n+1))+1 from(xha (xfy c.1)).symm,xjz]
  ·rw[if_neg c];by_cases c2:i=off+n
   ·rw[if_pos ⟨xdh c2.symm,xde (xdh c2) (xhw (Nat.succ_pos _))⟩,c2,xjq,List.getElem?_cons_zero];exact xji (xbg (xhw (Nat.succ_pos l.length)) h)
   ·rw[if_neg fun z=>c ⟨xdf z.1 (xem c2),xgg z.2 e1.symm⟩];exact xku (fun z=>c2 z.symm)
theorem zbaz {m xs:Array Keyed}{off:Nat}(h:off+m.size<=xs.size):(m.toList.zipIdx.foldl (fun a p=>a.setIfInBounds (off+p.2) p.1) xs).toList=xs.toList.take off++m.toList++xs.toList.drop (off+m.size):=by
 apply xkg;intro i;rw[xcf,zsl m.toList 0 off xs (by simpa using h) i];simp only[xhp,xcc];have l1:(xs.toList.take off).length=off:=by rw[xdc,xcc];exact xer (xbc (xbz _ _) h)
 by_cases c:off<=i/\i < off+m.size
 ·rw[if_pos c,xcg,xcs (xbc (xdh l1) c.1),l1,xbu (by rw[xcc];exact xdu c.1 c.2)]
 ·rw[if_neg c];by_cases c2:i < off
  ·rw[xcg,xbu (xgg c2 l1.symm),List.getElem?_take,if_pos c2,xcf]
  ·have h3:off+m.size<=i:=xci fun z=>c ⟨xci c2,z⟩
   rw[xcs (by rw[xbj,l1,xcc];exact h3),xfr];simp only[xbj,l1,xcc];rw[xck h3,xcf]
section
variable {prog:Program}{w:World}{A:Around}{E:Value->Shared->Prop}{s:Shared}{κ:SortKind}{a₀:Array Keyed}{R:Keyed->Nat}
theorem zyv {xs:Array Keyed}{i j:Nat}(up:UpA R xs i j)(hj:j<=xs.size):Ord R (xs.extract i j).toList:=by
 rw[zbq];refine xfl.mpr fun p q hp hq hpq=>?_
 simp only[xdc,xgt,xcc] at hp hq;simp only[xmg,xmf,Array.getElem_toList];have:=up (i+p) (i+q) (xbz _ _) (xcm (xbx hpq) i) (xdz (xbg hq (xie _ _)));rw[zdo (getElem?_pos xs (i+p) (xdz (xbg hp (xgc _ _)))),zdo (getElem?_pos xs (i+q) (xdz (xbg hq (xgc _ _))))] at this;exact this
theorem zix {xs:Array Keyed}{i j:Nat}{x:Keyed}(h:x∈(xs.extract i j).toList):∃q,i<=q/\q < j/\xs[q]?=some x:=by
 rw[zbq] at h;obtain⟨q,hq,e⟩:=zq h;rw[xfr,xcf] at e;exact⟨i+q,xbz _ _,xdz hq,e⟩
theorem zbip {xs:Array Keyed}{i j q:Nat}(h:q < j - i):(xs.extract i j).toList[q]?=xs[i+q]?:=by
 rw[zbq,List.getElem?_take,if_pos h,xfr,xcf]
structure Mg (R:Keyed->Nat) (xs ys:Array Keyed) (lo hi:Nat):Prop where
 perm:ys.Perm xs
 out:Out ys xs lo hi
 up:UpA R ys lo hi
theorem zxb {xs m:Array Keyed}{sa sb ea k nb':Nat}{y0 xl:Keyed}(hsb:sb<=ea)(hea:ea<=xs.size)(hk:sa+k < sb)(hnb:sb+nb'<=ea)(hnb1:1<=nb')(upA:UpA R xs sa sb)(upB:UpA R xs sb ea)
  (e0:xs[sb]?=some y0)(el:xs[sb - 1]?=some xl)(c1:Cut false R y0 xs sa (sb - sa) k)(c2:Cut true R xl xs sb (ea - sb) nb')
  (f:Fin R (xs.extract (sa+k) sb).toList (xs.extract sb (sb+nb')).toList m):Mg R xs (m.toList.zipIdx.foldl (fun a p=>a.setIfInBounds (sa+k+p.2) p.1) xs) sa ea:=by
 have lx:(xs.extract (sa+k) sb).toList.length=sb - (sa+k):=by rw[zbq,xdc,xgt,xcc];exact xer (xfv (xbc hsb hea) _)
 have ly:(xs.extract sb (sb+nb')).toList.length=nb':=by rw[zbq,xdc,xgt,xcc,xcz];exact xer (xey (xbc hnb hea))
 have lm:m.size=sb+nb' - (sa+k):=by
  have:=f.1.length_eq;rw[xbj,lx,ly,xcc] at this;exact this.trans (Nat.sub_add_comm (xbx hk)).symm
 have he:sa+k+m.size=sb+nb':=by rw[lm];exact xck (xbc (xbx hk) (xbz _ _))
 have hsz:sa+k+m.size<=xs.size:=by rw[he];exact xbc hnb hea
 have hs1:=xdi hk;have s1:sb - 1 < sb:=xid (xke hk) Nat.one_pos;have g:∀i,(m.toList.zipIdx.foldl (fun a p=>a.setIfInBounds (sa+k+p.2) p.1) xs)[i]?=if sa+k<=i/\i < sb+nb' then m.toList[i - (sa+k)]? else xs[i]?:=fun i=>by
  have:=zsl m.toList 0 (sa+k) xs (by simpa using hsz) i;simp only[xhp,xcc] at this;rw[he] at this;exact this
 have mid:∀v∈m.toList,R y0<=R v/\R v<=R xl:=fun v hv=>by
  rcases xbw.mp (f.1.mem_iff.mp hv) with hv | hv
  ·obtain⟨q,q1,q2,e⟩:=zix hv;have q0:=xbc (xbz _ _) q1;have h1:=c1.2.2 (q - sa) (xey q1) (xeq q0 q2);rw[xck q0,zdo e] at h1;have h2:=upA q (sb - 1) q0 (xdi q2) s1;rw[zdo e,zdo el] at h2;have h1':R y0 < R v:=h1;exact⟨xbx h1',h2⟩
  ·obtain⟨q,q1,q2,e⟩:=zix hv;have h1:=upB sb q (xbf _) q1 (xbg q2 hnb);rw[zdo e,zdo e0] at h1;have h2:=c2.2.1 (q - sb) (xdu q1 q2);rw[xck q1,zdo e] at h2;have h2':R v < R xl:=h2;exact⟨h1,xbx h2'⟩
 have low:∀i,sa<=i->i < sa+k->kA R xs i<=R y0:=fun i a1 a2=>by
  have:=c1.2.1 (i - sa) (xdu a1 a2);rw[xck a1] at this;exact this
 have hig:∀i,sb+nb'<=i->i < ea->R xl<=kA R xs i:=fun i a1 a2=>by
  have i0:=xbc (xbz _ _) a1;have:=c2.2.2 (i - sb) (xey a1) (xeq i0 a2);rw[xck i0] at this;exact this
 have kk:∀i,kA R (m.toList.zipIdx.foldl (fun a p=>a.setIfInBounds (sa+k+p.2) p.1) xs) i=if sa+k<=i/\i < sb+nb' then kA R m (i - (sa+k)) else kA R xs i:=fun i=>by
  have:=g i;split
  ·rename_i c;rw[if_pos c,xcf] at this;exact zde this
  ·rename_i c;rw[if_neg c] at this;exact zde this
 have mm:∀i,i < m.size->∃v,m.toList[i]?=some v/\v∈m.toList:=fun i hi=>⟨m.toList[i]'(by simpa using hi),xbd _,xcx _⟩
 refine⟨?_,fun i hi=>?_,fun i j a1 a2 a3=>?_⟩
 ·refine xfg.mpr ?_;rw[zbaz hsz,he];have split:xs.toList=xs.toList.take (sa+k)++((xs.extract (sa+k) sb).toList++(xs.extract sb (sb+nb')).toList)++xs.toList.drop (sb+nb'):=by
   rw[zbq,zbq];rw[xcz]
   conv=>lhs;rw[← xdn (sa+k) xs.toList,← xdn (sb - (sa+k)) (xs.toList.drop (sa+k)),xll,xck (xbx hk),← xdn nb' (xs.toList.drop sb),xll]
   simp only[xcg]
  conv=>rhs;rw[split]
  exact xil _ (xge _ f.1)
 ·rw[g i,if_neg fun z=>hi.elim (fun h=>xes (xbc (xbz sa k) z.1) h) fun h=>xes h (xbg z.2 hnb)]
 ·rw[kk,kk];by_cases ci:sa+k<=i/\i < sb+nb'
  ·rw[if_pos ci];obtain⟨v,ev,mv⟩:=mm (i - (sa+k)) (by rw[lm];exact xeq ci.1 ci.2);rw[zbl ev];by_cases cj:sa+k<=j/\j < sb+nb'
   ·rw[if_pos cj];obtain⟨u,eu,mu⟩:=mm (j - (sa+k)) (by rw[lm];exact xeq cj.1 cj.2);rw[zbl eu];exact f.2.at ev eu (xfv a2 _)
   ·rw[if_neg cj];exact xbc (mid v mv).2 (hig j (xci fun z=>cj ⟨xbc ci.1 a2,z⟩) a3)
  ·rw[if_neg ci];by_cases ci2:i < sa+k
   ·have h1:=low i a1 ci2;by_cases cj:sa+k<=j/\j < sb+nb'
    ·rw[if_pos cj];obtain⟨u,eu,mu⟩:=mm (j - (sa+k)) (by rw[lm];exact xeq cj.1 cj.2);rw[zbl eu];exact xbc h1 (mid u mu).1
    ·rw[if_neg cj];by_cases cj2:j < sa+k
     ·exact upA i j a1 a2 (xgj cj2 hk)
     ·have h2:=hig j (xci fun z=>cj ⟨xci cj2,z⟩) a3;have h3:R y0<=R xl:=by
       have s0:=xbc (xbz _ _) hs1;have h4:=c1.2.2 (sb - 1 - sa) (xey hs1) (xeq s0 s1);rw[xck s0,zdo el] at h4;exact xbx h4
      exact xbc h1 (xbc h3 h2)
   ·have hi2:sb+nb'<=i:=xci fun z=>ci ⟨xci ci2,z⟩
    rw[if_neg fun z=>xes (xbc hi2 a2) z.2];exact upB i j (xbc (xbz _ _) hi2) a2 a3
end
section
variable {prog:Program}{w:World}{A:Around}{E:Value->Shared->Prop}{s:Shared}{κ:SortKind}{a₀:Array Keyed}{R:Keyed->Nat}
theorem zbqj {x st:SortSt}{Q:Unit->SortSt->Prop}(h:Q () x):wpS (model prog w) A E s (set x:StateT SortSt Sem PUnit) Q st:=by
 unfold wpS;rw[StateT.run_set];exact xbe ⟨rfl,h⟩
theorem zvt {i sa na pw sb nb pw':Nat}{st:SortSt}{Q:Bool->SortSt->Prop}(O:Orc prog w A s κ a₀ R)(b:B κ a₀ st)(p1:(pendingOf st)[i]?=some (sa,na,pw))(p2:(pendingOf st)[i+1]?=some (sb,nb,pw'))(hsb:sb=sa+na)(hna:1<=na)(hnb:1<=nb)(hz:sb+nb<=a₀.size)
  (upA:UpA R (arrOf st) sa sb)(upB:UpA R (arrOf st) sb (sb+nb))
  (h:∀st',B κ a₀ st'->pendingOf st'=((pendingOf st).setIfInBounds i (sa,na+nb,pw)).eraseIdxIfInBounds (i+1)->Out (arrOf st') (arrOf st) sa (sb+nb)->UpA R (arrOf st') sa (sb+nb)->Q true st'):wpS (model prog w) A E s (mergeAt' i) Q st:=by
 have hsz:=b.size;have bs:sb < a₀.size:=xbg (xhw hnb) hz;refine xbl (xhz ?_);dsimp only;have q1:(sortPriv% PySem.Builtin.SortState.pending) st=pendingOf st:=rfl;rw[q1,p1,p2];dsimp only;refine xbl (zbqj ?_);obtain⟨y0,e0,my0⟩:=b.mem (i:=sb) bs;have inA:∀q,q < a₀.size->∃x,(arrOf st)[q]?=some x/\x∈a₀.toList:=fun q hq=>b.mem hq
 refine xbl (zkp e0 ?_);refine xbl (zfr O b.kind my0 (fun q hq=>inA (sa+q) (xgj (xgg (xei hq sa) hsb.symm) bs)) hna (by rw[← hsb];exact upA) fun k c1=>?_);dsimp only;have hk:=c1.1;have c1':Cut false R y0 (arrOf st) sa (sb - sa) k:=by rw[show sb - sa=na from by rw[hsb,xcz]];exact c1
 by_cases d1:na - k=0
 ·rw[if_pos (by simpa using d1)];refine xbo (h _ ⟨b.perm,b.kind,b.failed⟩ rfl (Out.refl _ _ _) fun p q a1 a2 a3=>?_);by_cases z1:q < sb
  ·exact upA p q a1 a2 z1
  ·by_cases z2:p < sb
   ·have h1:=c1.2.1 (p - sa) (xbg (xdu a1 (xgg z2 hsb)) (Nat.le_of_sub_eq_zero d1));rw[xck a1] at h1;have h2:=upB sb q (xbf _) (xci z1) a3;rw[zdo e0] at h2;exact xbc h1 h2
   ·exact upB p q (xci z2) a2 a3
 ·rw[if_neg (by simpa using d1)];have hk2:sa+k < sb:=xgg (xei (xgd fun z=>d1 (Nat.sub_eq_zero_of_le z)) sa) hsb.symm;have s1:sb - 1 < sb:=xid (xke hk2) Nat.one_pos;obtain⟨xl,el,mxl⟩:=inA (sb - 1) (xgj s1 bs);have el':(arrOf st)[sa+k+(na - k) - 1]?=some xl:=by rw[Nat.add_assoc,xck hk,← hsb];exact el
  refine xbl (zkp el' ?_);refine xbl (zfr O b.kind mxl (fun q hq=>inA (sb+q) (xbg (xei hq sb) hz)) (xid hnb Nat.one_pos) upB fun nb' c2=>?_);dsimp only;have hn2:=c2.1;have c2':Cut true R xl (arrOf st) sb (sb+nb - sb) nb':=by rw[xcz];exact c2
  by_cases d2:nb'=0
  ·rw[if_pos (by simpa using d2)];refine xbo (h _ ⟨b.perm,b.kind,b.failed⟩ rfl (Out.refl _ _ _) fun p q a1 a2 a3=>?_);subst d2;by_cases z1:q < sb
   ·exact upA p q a1 a2 z1
   ·by_cases z2:p < sb
    ·have h1:=upA p (sb - 1) a1 (xdi z2) s1;rw[zdo el] at h1;have h2:=c2.2.2 (q - sb) (xea _) (xdu (xci z1) a3);rw[xck (xci z1)] at h2;exact xbc h1 h2
    ·exact upB p q (xci z2) a2 a3
  ·rw[if_neg (by simpa using d2)];have hn1:1<=nb':=xlp d2;have hez:sb<=(arrOf st).size:=by rw[hsz];exact xbx bs
   have hbz:sb+nb<=(arrOf st).size:=by rw[hsz];exact hz
   have hb2:sb+nb'<=sb+nb:=xcm hn2 sb;have oa:Ord R ((arrOf st).extract (sa+k) sb).toList:=zyv (fun p q a1 a2 a3=>upA p q (xbc (xbz _ _) a1) a2 a3) hez;have ob:Ord R ((arrOf st).extract sb (sb+nb')).toList:=zyv (fun p q a1 a2 a3=>upB p q a1 a2 (xbg a3 hb2)) (xbc hb2 hbz);have ma:∀x∈((arrOf st).extract (sa+k) sb).toList,x∈a₀.toList:=fun x hx=>by
    obtain⟨q,q1,q2,e⟩:=zix hx;obtain⟨x',e',m'⟩:=inA q (xgj q2 bs);rw[e] at e';cases e';exact m'
   have mb:∀x∈((arrOf st).extract sb (sb+nb')).toList,x∈a₀.toList:=fun x hx=>by
    obtain⟨q,q1,q2,e⟩:=zix hx;obtain⟨x',e',m'⟩:=inA q (xbg q2 (xbc hb2 hz));rw[e] at e';cases e';exact m'
   have sx:((arrOf st).extract (sa+k) sb).size=sb - (sa+k):=by rw[Array.size_extract,xer hez]
   have sy:((arrOf st).extract sb (sb+nb')).size=nb':=by rw[Array.size_extract,xer (xbc hb2 hbz),xcz]
   have fst:∀y,((arrOf st).extract sb (sb+nb')).toList[0]?=some y->∀x∈((arrOf st).extract (sa+k) sb).toList,R y<=R x:=fun y hy x hx=>by
    rw[zbip (by rw[xcz];exact hn1),xhp,e0] at hy;cases hy;obtain⟨q,q1,q2,e⟩:=zix hx;have q0:=xbc (xbz _ _) q1;have:=c1.2.2 (q - sa) (xey q1) (xdu q0 (xgg q2 hsb));rw[xck q0,zdo e] at this;exact xbx this
   have lst:∀x,((arrOf st).extract (sa+k) sb).toList[sb - (sa+k) - 1]?=some x->∀y∈((arrOf st).extract sb (sb+nb')).toList,R y<=R x:=fun x hx y hy=>by
    rw[zbip (xid (xfy hk2) Nat.one_pos),show sa+k+(sb - (sa+k) - 1)=sb - 1 from by rw[← Nat.add_sub_assoc (xfy hk2),xck (xbx hk2)],el] at hx;cases hx;obtain⟨q,q1,q2,e⟩:=zix hy;have:=c2.2.1 (q - sb) (xdu q1 q2);rw[xck q1,zdo e] at this;exact xbx this
   have post:∀m st2,SmG st st2\/True->Fin R ((arrOf st).extract (sa+k) sb).toList ((arrOf st).extract sb (sb+nb')).toList m->Mg R (arrOf st) (m.toList.zipIdx.foldl (fun a p=>a.setIfInBounds (sa+k+p.2) p.1) (arrOf st)) sa (sb+nb):=fun m _ _ f =>
    zxb (xbz _ _) hbz hk2 hb2 hn1 upA upB e0 el c1' c2' f
   by_cases d3:na - k<=nb'
   ·rw[if_pos d3];refine xbl (zvr O b.kind ma mb ⟨oa,ob,fun x hx=>lst x (by rw[xcc,sx] at hx;exact hx)⟩ (by show 1<=((arrOf st).extract (sa+k) sb).size;rw[sx];exact xfy hk2) (by show 1<=((arrOf st).extract sb (sb+nb')).size;rw[sy];exact hn1) fst fun m st2 sg f=>?_);have mg:=post m st2 (.inr trivial) f;refine xbl (xgy (xbl (xhz ?_)));have a2:arrOf st2=arrOf st:=sg.arr;have f2:failedOf st2=none:=sg.failed.trans b.failed;refine xbo (?_:Q ((failedOf st2).isNone) (setArr st2 (m.toList.zipIdx.foldl (fun a p=>a.setIfInBounds (sa+k+p.2) p.1) (arrOf st2))));rw[f2,a2];exact h _ ⟨mg.perm.trans b.perm,sg.kind.trans b.kind,f2⟩ sg.pend mg.out mg.up
   ·rw[if_neg d3];refine xbl (zvs O b.kind ma mb ⟨oa,ob,fst⟩ (by show 1<=((arrOf st).extract (sa+k) sb).size;rw[sx];exact xfy hk2) (by show 1<=((arrOf st).extract sb (sb+nb')).size;rw[sy];exact hn1) (fun x hx=>lst x (by rw[sx] at hx;exact hx)) fun m st2 sg f=>?_);have mg:=post m st2 (.inr trivial) f;refine xbl (xgy (xbl (xhz ?_)));have a2:arrOf st2=arrOf st:=sg.arr;have f2:failedOf st2=none:=sg.failed.trans b.failed;refine xbo (?_:Q ((failedOf st2).isNone) (setArr st2 (m.toList.zipIdx.foldl (fun a p=>a.setIfInBounds (sa+k+p.2) p.1) (arrOf st2))));rw[f2,a2];exact h _ ⟨mg.perm.trans b.perm,sg.kind.trans b.kind,f2⟩ sg.pend mg.out mg.up
end
noncomputable def Segs (R:Keyed->Nat) (xs:Array Keyed):Nat->List (Nat×Nat×Nat)->Nat->Prop
 | s,[],e=>s=e
 | s,p::r,e=>p.1=s/\1<=p.2.1/\UpA R xs s (s+p.2.1)/\Segs R xs (s+p.2.1) r e
section
variable {R:Keyed->Nat}{xs ys:Array Keyed}
theorem Segs.le:∀{l:List (Nat×Nat×Nat)} {s e:Nat},Segs R xs s l e->s+l.length<=e
 | [],s,e,h=>by cases h;simp
 | p::r,s,e,h=>by
  have:=Segs.le h.2.2.2;have:=h.2.1;simp;lia
theorem Segs.append:∀{l m:List (Nat×Nat×Nat)} {s e:Nat},Segs R xs s (l++m) e↔∃k,Segs R xs s l k/\Segs R xs k m e
 | [],m,s,e=>⟨fun h=>⟨s,rfl,h⟩,fun⟨k,h1,h2⟩=>by cases h1;exact h2⟩
 | p::r,m,s,e=>by
  constructor
  ·rintro⟨h1,h2,h3,h4⟩;obtain⟨k,g1,g2⟩:=Segs.append.mp h4;exact⟨k,⟨h1,h2,h3,g1⟩,g2⟩
  ·rintro⟨k,⟨h1,h2,h3,h4⟩,g2⟩;exact⟨h1,h2,h3,Segs.append.mpr ⟨k,h4,g2⟩⟩
theorem UpA.same {a b:Nat}(h:UpA R xs a b)(e:∀i,a<=i->i < b->ys[i]?=xs[i]?):UpA R ys a b:=fun i j a1 a2 a3=>by
 rw[zde (e i a1 (xde a2 a3)),zde (e j (xbc a1 a2) a3)];exact h i j a1 a2 a3
theorem Segs.same:∀{l:List (Nat×Nat×Nat)} {s e:Nat},Segs R xs s l e->(∀i,s<=i->i < e->ys[i]?=xs[i]?)->Segs R ys s l e
 | [],s,e,h,_=>h
 | p::r,s,e,h,k=>by
  have:=Segs.le h.2.2.2;exact⟨h.1,h.2.1,h.2.2.1.same fun i a1 a2=>k i a1 (xbg a2 (xbc (xbz _ _) this)),Segs.same h.2.2.2 fun i a1 a2=>k i (xbc (xbz _ _) a1) a2⟩
theorem Segs.power {s e:Nat}:∀{l m:List (Nat×Nat×Nat)},l.map (fun p=>(p.1,p.2.1))=m.map (fun p=>(p.1,p.2.1))->Segs R xs s l e->Segs R xs s m e:=by
 intro l
 induction l generalizing s with
 | nil=>intro m h k;cases m with
  | nil=>exact k
  | cons=>cases h
 | cons p r ih=>intro m h k;cases m with
  | nil=>cases h
  | cons q t =>
   rw[xbt,xbt] at h;obtain⟨h1,h2⟩:=List.cons.inj h;obtain⟨g1,g2⟩:=Prod.mk.inj h1;obtain⟨k1,k2,k3,k4⟩:=k;rw[g2] at k2 k3 k4;exact⟨g1.symm.trans k1,k2,k3,ih h2 k4⟩
end
section
variable {prog:Program}{w:World}{A:Around}{E:Value->Shared->Prop}{s:Shared}{κ:SortKind}{a₀:Array Keyed}{R:Keyed->Nat}
theorem zbcj {l:List (Nat×Nat×Nat)}{i:Nat}(h:i+1 < l.length):∃pre p q post,l=pre++p::q::post/\pre.length=i:=by
 refine⟨l.take i,l[i],l[i+1],l.drop (i+2),?_,by rw[xdc];exact xer (xbx (xfj h))⟩
 conv=>lhs;rw[← xdn i l,xfm (xfj h),xfm h]
theorem w_at {i e:Nat}{st:SortSt}{Q:Bool->SortSt->Prop}(O:Orc prog w A s κ a₀ R)(b:B κ a₀ st)(sg:Segs R (arrOf st) 0 (pendingOf st).toList e)(he:e<=a₀.size)(hi:i+1 < (pendingOf st).size)
  (h:∀st',B κ a₀ st'->Segs R (arrOf st') 0 (pendingOf st').toList e->(pendingOf st').size+1=(pendingOf st).size->(∀k,e<=k->(arrOf st')[k]?=(arrOf st)[k]?)->Q true st'):wpS (model prog w) A E s (mergeAt' i) Q st:=by
 obtain⟨pre,p,q,post,el,hl⟩:=zbcj (l:=(pendingOf st).toList) (i:=i) (by simpa using hi);obtain⟨sa,na,pw⟩:=p;obtain⟨sb,nb,pw'⟩:=q;rw[el] at sg;obtain⟨k,g1,g2⟩:=Segs.append.mp sg;obtain⟨h1,h2,h3,h4,h5,h6,h7⟩:=g2;dsimp only at h1 h2 h3 h4 h5 h6 h7;subst h1;have l7:=Segs.le h7;have l1:=Segs.le g1;have p1:(pendingOf st)[i]?=some (sa,na,pw):=by rw[← xcf,el,xcs (xdh hl),hl,xjq];rfl
 have p2:(pendingOf st)[i+1]?=some (sb,nb,pw'):=by rw[← xcf,el,xcs (xbc (xdh hl) (xbz i 1)),hl,xcz];rfl
 refine zvt O b p1 p2 h4 h2 h5 (by lia) (by rw[h4];exact h3) (by rw[h4];exact h6) fun st' b' pe ou up=>?_
 have pl:(pendingOf st').toList=pre++(sa,na+nb,pw)::post:=by
  rw[pe];rw[Array.toList_eraseIdxIfInBounds,Array.toList_setIfInBounds,el];rw[xiw _ _ (xdh hl),hl,xjq,List.set_cons_zero,List.eraseIdx_append_of_length_le (xbc (xdh hl) (xbz i 1)),hl,xcz]
  rfl
 have keep:∀j,j < sa\/sb+nb<=j->(arrOf st')[j]?=(arrOf st)[j]?:=ou
 refine h st' b' ?_ ?_ fun j hj=>keep j (.inr (by lia))
 ·rw[pl];refine Segs.append.mpr ⟨sa,g1.same fun j a1 a2=>keep j (.inl a2),rfl,by show 1<=na+nb;lia,?_,?_⟩
  ·show UpA R (arrOf st') sa (sa+(na+nb));rw[show sa+(na+nb)=sb+nb by lia];exact up
  ·show Segs R (arrOf st') (sa+(na+nb)) post e;rw[show sa+(na+nb)=sa+na+nb by lia];exact h7.same fun j a1 a2=>keep j (.inr (by lia))
 ·have e1:(pendingOf st').size=(pendingOf st').toList.length:=by simp
  have e2:(pendingOf st).size=(pendingOf st).toList.length:=by simp
  rw[e1,e2,pl,el];simp only[xbj,xby];lia
theorem zbmt {c:Prop}[Decidable c]{a b n:Nat}(h1:a+1 < n)(h2:b+1 < n):(if c then a else b)+1 < n:=by split<;>assumption
theorem zyy {g:Nat×Nat×Nat->Nat×Nat}{f:Nat×Nat×Nat->Nat×Nat×Nat}(h:∀x,g (f x)=g x):∀(l:List (Nat×Nat×Nat)) (i:Nat),(l.modify i f).map g=l.map g
 | [],i=>by simp
 | x::l,0=>by simp[h]
 | x::l,i+1=>by simp[zyy h l i]
theorem Segs.mod {xs:Array Keyed}{s e:Nat}{l:List (Nat×Nat×Nat)}(h:Segs R xs s l e)(i c:Nat):Segs R xs s (l.modify i fun x=>(x.1,x.2.1,c)) e :=
 h.power (zyy (g:=fun p=>(p.1,p.2.1)) (f:=fun x=>(x.1,x.2.1,c)) (fun _=>rfl) l i).symm
theorem zbks {st:SortSt}{Q:Unit->SortSt->Prop}(O:Orc prog w A s κ a₀ R)(b:B κ a₀ st)(pe:pendingOf st=#[])(h2:2<=a₀.size)
  (h:∀st',B κ a₀ st'->UpA R (arrOf st') 0 a₀.size->Q () st'):wpS (model prog w) A E s sortRuns' Q st:=by
 have hz:=b.size;rw[sortRuns'_eq];refine xbl (xhz ?_);dsimp only;rw[hz]
 refine xbl (xft (xdt (I:=fun x c st'=>∃lo,c=(none,lo)/\B κ a₀ st'/\Segs R (arrOf st') 0 (pendingOf st').toList lo/\lo<=a₀.size/\x<=lo)
  (Q:=fun c st'=>c=(none,a₀.size)/\B κ a₀ st'/\Segs R (arrOf st') 0 (pendingOf st').toList a₀.size) ?_ ?_ ⟨0,rfl,b,by rw[pe];rfl,by lia,by lia⟩) ?_)
 ·rintro x c st1 x1 x2 ⟨lo,rfl,b1,sg1,hlo,hx⟩;dsimp only;by_cases c1:lo ≥ a₀.size
  ·rw[if_pos c1];have:lo=a₀.size:=by lia
   subst this;exact xbo ⟨rfl,b1,sg1⟩
  rw[if_neg c1];refine xbl (zbfd O b1 (by lia) (by lia) fun m st2 m1 m2 b2 sm2 up2=>?_);dsimp only;have sg2:Segs R (arrOf st2) 0 (pendingOf st2).toList lo:=by
   rw[sm2.pend];exact sg1.same fun i a1 a2=>sm2.out i (.inl a2)
  by_cases c2:m < minRun' a₀.size a₀.size 0
  ·rw[if_pos c2];refine xbl (xkq (xij ⟨rfl,?_⟩));refine xbl (zbqk O b2 (by lia) m1 (by lia) up2 fun st3 b3 sm3 up3=>?_);have sg3:Segs R (arrOf st3) 0 (pendingOf st3).toList lo:=by
    rw[sm3.pend];exact sg2.same fun i a1 a2=>sm3.out i (.inl a2)
   have hn1:1<=min (a₀.size - lo) (minRun' a₀.size a₀.size 0):=by lia
   have hn2:lo+min (a₀.size - lo) (minRun' a₀.size a₀.size 0)<=a₀.size:=by lia
   simp only[xhk,xcl,xdx];generalize min (a₀.size - lo) (minRun' a₀.size a₀.size 0)=n at up3 hn1 hn2 sm3 ⊢;refine xbl (xhz ?_);cases hb:(pendingOf st3).back? with
   | none =>
    dsimp only;refine xbl (xgy (xbo ⟨lo+n,rfl,⟨b3.perm,b3.kind,b3.failed⟩,?_,hn2,by lia⟩));show Segs R (arrOf st3) 0 ((pendingOf st3).push (lo,n,0)).toList (lo+n);rw[xew];exact Segs.append.mpr ⟨lo,sg3,rfl,hn1,up3,rfl⟩
   | some p =>
    obtain⟨s1,n1,p1⟩:=p;dsimp only;refine xbl (xft (xdt (I:=fun _ c st'=>c=(none,())/\B κ a₀ st'/\Segs R (arrOf st') 0 (pendingOf st').toList lo/\UpA R (arrOf st') lo (lo+n)) (Q:=fun c st'=>c=(none,())/\B κ a₀ st'/\Segs R (arrOf st') 0 (pendingOf st').toList lo/\UpA R (arrOf st') lo (lo+n)) ?_ (fun _ _ hh=>hh) ⟨rfl,b3,sg3,up3⟩) ?_)
    ·rintro x' c st4 _ _ ⟨rfl,b4,sg4,up4⟩;refine xbl (xhz ?_);by_cases hs:(pendingOf st4).size > 1
     ·rw[if_pos hs,getElem?_pos (pendingOf st4) ((pendingOf st4).size - 2) (by lia)];obtain⟨s2,n2,p2⟩:=(pendingOf st4)[(pendingOf st4).size - 2]'(by lia);dsimp only;split
      ·exact xbo ⟨rfl,b4,sg4,up4⟩
      ·refine xbl (w_at O b4 sg4 hlo (by lia) fun st5 b5 sg5 _ k5=>?_);exact xbo ⟨rfl,b5,sg5,up4.same fun i a1 a2=>k5 i a1⟩
     ·rw[if_neg hs];exact xbo ⟨rfl,b4,sg4,up4⟩
    ·rintro c st4 ⟨rfl,b4,sg4,up4⟩;dsimp only;refine xbl (xgy (xbl (xgy (xbo ⟨lo+n,rfl,⟨b4.perm,b4.kind,b4.failed⟩,?_,hn2,by lia⟩))));refine(?_:Segs R (arrOf st4) 0 (((pendingOf st4).modify ((pendingOf st4).size - 1) fun x=>(x.1,x.2.1,_)).push (lo,n,0)).toList (lo+n));rw[xew,Array.toList_modify];exact Segs.append.mpr ⟨lo,sg4.mod _ _,rfl,hn1,up4,rfl⟩
  ·rw[if_neg c2];have b3:=b2;have sg3:=sg2;have up3:=up2;have hn1:=m1;have hn2:lo+m<=a₀.size:=by lia
   generalize st2=st3 at b3 sg3 up3 ⊢;generalize m=n at up3 hn1 hn2 ⊢;refine xbl (xhz ?_);cases hb:(pendingOf st3).back? with
   | none =>
    dsimp only;refine xbl (xgy (xbo ⟨lo+n,rfl,⟨b3.perm,b3.kind,b3.failed⟩,?_,hn2,by lia⟩));show Segs R (arrOf st3) 0 ((pendingOf st3).push (lo,n,0)).toList (lo+n);rw[xew];exact Segs.append.mpr ⟨lo,sg3,rfl,hn1,up3,rfl⟩
   | some p =>
    obtain⟨s1,n1,p1⟩:=p;dsimp only;refine xbl (xft (xdt (I:=fun _ c st'=>c=(none,())/\B κ a₀ st'/\Segs R (arrOf st') 0 (pendingOf st').toList lo/\UpA R (arrOf st') lo (lo+n)) (Q:=fun c st'=>c=(none,())/\B κ a₀ st'/\Segs R (arrOf st') 0 (pendingOf st').toList lo/\UpA R (arrOf st') lo (lo+n)) ?_ (fun _ _ hh=>hh) ⟨rfl,b3,sg3,up3⟩) ?_)
    ·rintro x' c st4 _ _ ⟨rfl,b4,sg4,up4⟩;refine xbl (xhz ?_);by_cases hs:(pendingOf st4).size > 1
     ·rw[if_pos hs,getElem?_pos (pendingOf st4) ((pendingOf st4).size - 2) (by lia)];obtain⟨s2,n2,p2⟩:=(pendingOf st4)[(pendingOf st4).size - 2]'(by lia);dsimp only;split
      ·exact xbo ⟨rfl,b4,sg4,up4⟩
      ·refine xbl (w_at O b4 sg4 hlo (by lia) fun st5 b5 sg5 _ k5=>?_);exact xbo ⟨rfl,b5,sg5,up4.same fun i a1 a2=>k5 i a1⟩
     ·rw[if_neg hs];exact xbo ⟨rfl,b4,sg4,up4⟩
    ·rintro c st4 ⟨rfl,b4,sg4,up4⟩;dsimp only;refine xbl (xgy (xbl (xgy (xbo ⟨lo+n,rfl,⟨b4.perm,b4.kind,b4.failed⟩,?_,hn2,by lia⟩))));refine(?_:Segs R (arrOf st4) 0 (((pendingOf st4).modify ((pendingOf st4).size - 1) fun x=>(x.1,x.2.1,_)).push (lo,n,0)).toList (lo+n));rw[xew,Array.toList_modify];exact Segs.append.mpr ⟨lo,sg4.mod _ _,rfl,hn1,up4,rfl⟩
 ·rintro c st1 ⟨lo,rfl,b1,sg1,hlo,hx⟩;have:lo=a₀.size:=by lia
  subst this;exact⟨rfl,b1,sg1⟩
 ·rintro c st1 ⟨rfl,b1,sg1⟩;dsimp only
  refine xbl (xft (xdt (I:=fun x c st'=>c=(none,())/\B κ a₀ st'/\Segs R (arrOf st') 0 (pendingOf st').toList a₀.size/\(pendingOf st').size+x<=a₀.size)
   (Q:=fun c st'=>c=(none,())/\B κ a₀ st'/\Segs R (arrOf st') 0 (pendingOf st').toList a₀.size/\(pendingOf st').size<=1) ?_ ?_ ⟨rfl,b1,sg1,by have:=sg1.le;simp at this;lia⟩) ?_)
  ·rintro x c st2 x1 x2 ⟨rfl,b2,sg2,hp⟩;refine xbl (xhz ?_);by_cases c1:(pendingOf st2).size<=1
   ·rw[if_pos c1];exact xbo ⟨rfl,b2,sg2,c1⟩
   rw[if_neg c1];refine xbl (w_at O b2 sg2 (xbf _) ?_ fun st3 b3 sg3 p3 _=>xbo ⟨rfl,b3,sg3,by lia⟩);exact zbmt (by lia) (by lia)
  ·rintro c st2 ⟨rfl,b2,sg2,hp⟩;exact⟨rfl,b2,sg2,by lia⟩
  ·rintro c st2 ⟨rfl,b2,sg2,hp⟩;refine xbo (h st2 b2 ?_);cases hl:(pendingOf st2).toList with
   | nil=>rw[hl] at sg2;have:0=a₀.size:=sg2;lia
   | cons p r =>
    have:r=[]:=by
     have e2:(pendingOf st2).size=(pendingOf st2).toList.length:=by simp
     rw[e2,hl,xby] at hp;exact xka.mp (by lia)
    subst this;rw[hl] at sg2;obtain⟨_,_,g3,g4⟩:=sg2;have g4':0+p.2.1=a₀.size:=g4;rw[g4'] at g3;exact g3
end
end TS
namespace Srt
open PySem PySem.W PyProof.Rows
theorem zqf {α β:Type}(f:α->β):∀{l m':List β},l.Perm m'->∀m:List α,m'=m.map f->∃p:List α,p.Perm m/\l=p.map f:=by
 intro l m' h
 induction h with
 | nil=>exact fun m e=>⟨[],by rw[List.map_eq_nil_iff.mp e.symm],rfl⟩
 | cons x _ ih =>
  intro m e;cases m with
  | nil=>cases e
  | cons y m =>
   rw[xbt] at e;injection e with e1 e2
   obtain⟨p,p1,p2⟩:=ih m e2;exact⟨y::p,p1.cons y,by rw[xbt,← p2,e1]⟩
 | swap x y l =>
  intro m e
  match m,e with
  | a::b::m,e =>
   rw[xbt,xbt] at e;injection e with e1 e2
   injection e2 with e2 e3
   exact⟨b::a::m,.swap _ _ _,by rw[xbt,xbt,e1,e2,e3]⟩
 | trans _ _ ih1 ih2 =>
  intro m e;obtain⟨p,p1,p2⟩:=ih2 m e;obtain⟨q,q1,q2⟩:=ih1 p p2;exact⟨q,q1.trans p1,q2⟩
noncomputable def Coh (r:Nat->Nat) (xs:List Value):Prop:=∀i j,i < xs.length->j < xs.length->xs.getD i Value.none=xs.getD j Value.none->r i=r j
open Classical in
noncomputable def rankV (r:Nat->Nat) (xs:List Value) (x:Keyed):Nat:=if h:∃i,i < xs.length/\xs.getD i Value.none=x.1 then r h.choose else 0
theorem zmn {r:Nat->Nat}{xs:List Value}(coh:Coh r xs){x:Keyed}{i:Nat}(hi:i < xs.length)(e:xs.getD i Value.none=x.1):rankV r xs x=r i:=by
 have h:∃i,i < xs.length/\xs.getD i Value.none=x.1:=⟨i,hi,e⟩
 unfold rankV;rw[dif_pos h];exact coh _ _ h.choose_spec.1 hi (h.choose_spec.2.trans e.symm)
theorem zrd (xs:List Value):(xs.toArray.zip xs.toArray).toList=(List.range xs.length).map fun i=>((xs.getD i Value.none,xs.getD i Value.none):Keyed):=by
 rw[Array.toList_zip];apply xmn
 ·simp
 ·intro i h1 h2;have h3:i < xs.length:=by simpa using h2
  simp[xbi,h3]
section
variable {P:Program}{w:World}{B:Around}{E:Value->Shared->Prop}{st:Shared}
theorem zbci {r:Nat->Nat}{xs:List Value}{κ:SortKind}{sg:Shared}(h2:2<=xs.length)(coh:Coh r xs)
  (cmp:∀i j C,i < xs.length->j < xs.length->C (lt r i j) sg->kas_ask P w B κ xs i j C sg) :
  wpAny (model P w) B ((sortRuns').run (SortSt.mk' κ (xs.toArray.zip xs.toArray) #[] 7 none)) (fun y z=>∃p:Array Nat,(p.Perm (List.toArray (List.range xs.length))/\Up r p xs.length)/\(arrOf y.2).map (·.2)=outOf xs p/\failedOf y.2=none/\z=sg) E sg:=by
 have sz:(xs.toArray.zip xs.toArray).size=xs.length:=by simp
 have O:TS.Orc P w B sg κ (xs.toArray.zip xs.toArray) (rankV r xs):=fun x hx y hy C hC=>by
  rw[zrd] at hx hy;obtain⟨i,hi,rfl⟩:=xbr.mp hx;obtain⟨j,hj,rfl⟩:=xbr.mp hy;rw[xcd] at hi hj;rw[zmn coh hi rfl,zmn coh hj rfl] at hC;exact cmp i j C hi hj hC
 have run:=TS.zbks (E:=E) (Q:=fun _ y=>∃p:Array Nat,(p.Perm (List.toArray (List.range xs.length))/\Up r p xs.length)/\(arrOf y).map (·.2)=outOf xs p/\failedOf y=none) O (st:=SortSt.mk' κ (xs.toArray.zip xs.toArray) #[] 7 none) ⟨.refl _,rfl,rfl⟩ rfl (by rw[sz];exact h2) fun y b up=>by
  obtain⟨l,l1,l2⟩:=zqf (fun i=>((xs.getD i Value.none,xs.getD i Value.none):Keyed)) (xfg.mp b.perm) _ (zrd xs);have ll:l.length=xs.length:=by rw[l1.length_eq,xej]
  have mem:∀k,(hk:k < l.length)->l[k] < xs.length:=fun k hk=>xcd.mp (l1.mem_iff.mp (xcx hk))
  have key:∀k,k < xs.length->TS.kA (rankV r xs) (arrOf y) k=At r l.toArray k:=fun k hk=>by
   have hk':k < l.length:=by lia
   have e:(arrOf y)[k]?=some (xs.getD l[k] Value.none,xs.getD l[k] Value.none):=by
    rw[← xcf,l2,xcn,xbd hk']
    rfl
   rw[TS.zdo e,zmn coh (mem k hk') rfl];unfold At;simp[hk']
  refine⟨l.toArray,⟨?_,fun i j hij hj=>?_⟩,?_,b.failed⟩
  ·exact xfg.mpr (by simpa using l1)
  ·rw[← key i (by lia),← key j hj];exact up i j (xea _) hij (by rw[sz];exact hj)
  ·unfold outOf;apply Array.toList_inj.mp;rw[Array.toList_map,l2,xcy]
   rfl
 exact xfe run (fun y z hz=>by
  obtain⟨rfl,p,a,b,c⟩:=hz
  exact⟨p,a,b,c,rfl⟩) fun _ _ x=>x
theorem zku (r:Nat->Nat){d:Addr}{xs:List Value}{k:Nat}{W:Fin->Shared->Prop}(e0:st.heap.get? d=some (seqObj "list" xs.toArray k))(few:xs.length<=sizeLine)(coh:Coh r xs)
  (ask:2<=xs.length->Answers P w B r xs {st with heap:=midHeap st.heap d xs})
  (fin:∀p:Array Nat,p.Perm (List.toArray (List.range xs.length))->Up r p xs.length->W (.done (.ret .none)) {st with heap:=sortedHeap st.heap d xs (outOf xs p)}) :
  wpAny (model P w) B (Builtin.«list.sort» ⟨[.ref d],[]⟩) W E st:=by
 obtain⟨c, ec⟩:∃ c,(st.heap.update d (Obj.mapSeq fun _=>(#[]:Array Value))).get? d=some (seqObj "list" #[] c):=⟨_, get?_update_seq e0 fun _=>#[]⟩
 have em:(midHeap st.heap d xs).get? d=some (seqObj "list" #[] c):=xbm _ (xbm _ ec)
 have szs:xs.toArray.size=xs.length:=xbs;rw[list_sort_plain];refine xba (listItems_at e0 rfl (xba (listUpdate_at e0 rfl (xba (seqEpoch_at ec rfl (xba (wpAny_newTuple (xba (wpAny_newList (xex ?_) (xea _))) (few))))) (by rw[szs];exact few) (xea _))));show wpAny (model P w) B _ W E {st with heap:=midHeap st.heap d xs};dsimp only;by_cases two:xs.toArray.size < 2
 ·rw[if_pos two,if_pos two];rw[szs] at two;have eo:((arrOf (SortSt.mk' general' (xs.toArray.zip xs.toArray) #[] 7 none)).map (·.2))=outOf xs (List.toArray (List.range xs.length)):=zwc two
  refine xba (xbe (by
   rw[StateT.run_pure];refine xba (xbe (xba (seqEpoch_at em rfl (xba (listUpdate_at em rfl ?_ (xea _) ?_)))))
   ·rw[if_neg (by simp)];refine xbe ?_;rw[eo];exact fin _ (.refl _) fun i j hij hj=>xdh (congrArg (At r _) (by lia))
   ·rw[eo];refine xfz (xbc (xdh ?_) (few));unfold outOf
    simp))
 ·rw[if_neg two,if_neg two];rw[szs] at two;obtain⟨κ,kd,cmp⟩:=ask (by lia);refine xba (xfe (kd (fun κ' z=>κ'=κ/\z={st with heap:=midHeap st.heap d xs}) ⟨rfl,rfl⟩) (fun κ' z hz=>?_) fun _ _ x=>x.elim);obtain⟨rfl,rfl⟩:=hz;have run:=zbci (E:=E) (r:=r) (xs:=xs) (κ:=κ') (sg:={st with heap:=midHeap st.heap d xs}) (by lia) coh cmp;refine xba (xfe run (fun yy z hz=>?_) fun _ _ x=>x);obtain⟨⟨⟩,y⟩:=yy;obtain⟨p,hp,ho,hf,rfl⟩:=hz;dsimp only at ho hf ⊢;refine xba (seqEpoch_at em rfl (xba (listUpdate_at em rfl ?_ (xea _) ?_)))
  ·rw[hf,if_neg (by simp),ho];exact xbe (fin p hp.1 hp.2)
  ·rw[ho];refine xfz (xbc (xdh ?_) (few));unfold outOf;rw[xbs,xbb,xcc,hp.1.size_eq];simp
theorem zmg (r:Nat->Nat){d:Addr}{xs:List Value}{W:Value->Shared->Prop}(isl:st.heap.IsList d xs.toArray)(few:xs.length<=sizeLine)(coh:Coh r xs)
  (ask:2<=xs.length->∀g:Heap,(∀b ob,st.heap.get? b=some ob->g.get? b=some ob)->Answers P w B.in1.in1 r xs {st with heap:=g})
  (fin:∀p:Array Nat,p.Perm (List.toArray (List.range xs.length))->Up r p xs.length->W (.ref (st.heap.objs.size+1)) {st with heap:=sortedAll st.heap xs (outOf xs p)}) :
  wpAny (model P w) B (call (.builtin "sorted") [.ref d]) W E st:=by
 let g0:Heap:=(st.heap.push (seqObj "list" #[] 0)).update st.heap.objs.size (Obj.mapSeq (·++xs.toArray))
 have sz:g0.objs.size=st.heap.objs.size+1:=(Heap.size_update ..).trans (size_push' _ _);have new:(g0.push (seqObj "list" xs.toArray 0)).get? (st.heap.objs.size + 1)=some (seqObj "list" xs.toArray 0):=by
  have z:=xce g0 (o:=seqObj "list" xs.toArray 0) rfl
  rw[sz] at z;exact z
 have old:∀ b ob, st.heap.get? b=some ob->(g0.push (seqObj "list" xs.toArray 0)).get? b=some ob:=fun b ob e=>by
  have lt:=xbv e;exact xbm _ ((Heap.get?_update_ne _ _ _ _ (xch lt)).trans (xbm _ e))
 have ar:argsOk "sorted" ⟨[.ref d],[]⟩:=args_sorted1 _
 refine Calls.call_function_entry kind_sorted plain_sorted entry_sorted ar ?_;unfold Builtin.«sorted»;refine xba (m:=checkCount "sorted" 1 1 _) (xbe (xba (collect_list isl (xba (wpAny_newList ?_ (few))) (few))))
 show wpAny _ _ _ _ _ { st with heap:=g0.push (seqObj "list" xs.toArray 0) }
 have esz:(Value.ref g0.objs.size)=Value.ref (st.heap.objs.size+1):=by rw[sz]
 rw[show((st.heap.push (seqObj "list" #[] 0)).update st.heap.objs.size (Obj.mapSeq (·++xs.toArray))).objs.size=st.heap.objs.size + 1 from sz]
 refine xba (xex (xet slot_list_sort ⟨_, new, rfl⟩ entry_list_sort (zku r (st:={ st with heap:=g0.push (seqObj "list" xs.toArray 0) }) new few coh (fun two=>?_) fun p p1 p2=>⟨_, rfl, xbe ⟨_, rfl, fin p p1 p2⟩⟩) (args_list_sort _)))
 exact ask two _ fun b ob e=>ziw (xch (xhl (xbv e))) (old b ob e)
theorem zfs {T:String}{a d:Addr}{n:Nat}{It:Nat->Value->Prop}{OK:Heap->Prop}(S:KdlSrc P w T a d n It OK)(hh:B.handled=none)(ok:OK st.heap)(few:n<=sizeLine){W:Value->Shared->Prop}
  (ask:∀xs:List Value,xs.length=n->(∀(j:Nat) (v:Value),xs[j]?=some v->It j v)->∃r:Nat->Nat,Coh r xs/\(2<=n->∀(g:Heap) (tk:Nat),(∀b ob,st.heap.get? b=some ob->g.get? b=some ob)->Answers P w B.in1.in1 r xs {st with heap:=g,toks:=tk}) /\
   ∀(p:Array Nat) (q:Addr) (g:Heap) (tk c:Nat), p.Perm (List.toArray (List.range xs.length))->Up r p xs.length->(∀ b ob, st.heap.get? b=some ob->g.get? b=some ob)->(∀ b ob, st.heap.get? b=some ob->b≠q)->g.get? q=some (seqObj "list" (outOf xs p) c)->W (.ref q) { st with heap:=g, toks:=tk }) :
  wpAny (model P w) B (call (.builtin "sorted") [.ref a]) W E st:=by
 have ar:argsOk "sorted" ⟨[.ref a],[]⟩:=args_sorted1 _
 refine Calls.call_function_entry kind_sorted plain_sorted entry_sorted ar ?_;unfold Builtin.«sorted»;refine xba (m:=checkCount "sorted" 1 1 _) (xbe (xba (kdu_collect (A:=B.in1) S hh ok (few) fun g tk acc keep items=>?_)))
 have len:acc.toList.length=n:=by rw[xcc];exact items.1
 obtain⟨r,coh,an,fin⟩:=ask acc.toList len (fun j v e=>items.2 j v (by rw[← xcf];exact e));refine xba (wpAny_newList ?_ (by rw[len];exact few));have new:(g.push (seqObj "list" acc.toList.toArray 0)).get? g.objs.size=some (seqObj "list" acc.toList.toArray 0):=xce g rfl
 have old:∀ b ob, st.heap.get? b=some ob->(g.push (seqObj "list" acc.toList.toArray 0)).get? b=some ob:=fun b ob e=>xbm _ (keep b ob e)
 have lt:∀b ob,st.heap.get? b=some ob->b≠g.objs.size:=fun b ob e=>xch (xbv (keep b ob e))
 show wpAny _ _ _ _ _ { st with heap:=g.push (seqObj "list" acc.toList.toArray 0), toks:=tk }
 refine xba (xex (xet slot_list_sort ⟨_, new, rfl⟩ entry_list_sort (zku r (st:={ st with heap:=g.push (seqObj "list" acc.toList.toArray 0), toks:=tk }) new (by rw[len]; exact few) coh (fun two=>?_) fun p p1 p2=>⟨_, rfl, xbe ⟨_, rfl, ?_⟩⟩) (args_list_sort _)))
 ·exact an (by lia) _ tk fun b ob e=>ziw (lt b ob e) (old b ob e)
 ·obtain⟨c,ec⟩:=sortedHeap_at (n:=0) (vs:=acc.toList) (out:=outOf acc.toList p) new;refine fin p g.objs.size _ tk c p1 p2 (fun b ob e=>?_) ?_ ec
  ·rw[sortedHeap_old (lt b ob e) (xbv (old b ob e))];exact old b ob e
  ·exact lt
end
end Srt
namespace L2
open PySem PySem.Spec PyProof.Rows PySem.W
theorem small10000 {n:Nat}(h:n<=1000000):n<=sizeLine:=xbc h (by rw[xin];lia)
theorem ziy:∀{us:List Value} {a b:List Int},IntsAre us a->IntsAre us b->a=b
 | _,_,_,.nil,.nil=>rfl
 | _,_,_,.cons x t r,.cons _ _ r'=>by rw[ziy r r']
theorem zup {g:Heap}{ps:List (Addr×List Int)}(tup:TupsG g ps):Srt.Coh (Srt.rank (ps.map (·.2))) (ps.map fun p=>Value.ref p.1):=fun i j hi hj e=>by
 rw[xbb] at hi hj;have ei:ps[i]?=some ps[i]:=xbd hi;have ej:ps[j]?=some ps[j]:=xbd hj;rw[zj (fun p:Addr×List Int=>Value.ref p.1) _ ei,zj (fun p:Addr×List Int=>Value.ref p.1) _ ej] at e;injection e with e
 obtain⟨us,o,n,a1,a2,a3,a4⟩:=tup _ (xcx hi);obtain⟨us2,o2,n2,b1,b2,b3,b4⟩:=tup _ (xcx hj);rw[e,b2] at a2;injection a2 with a2
 subst a2;rw[b4] at a4;injection a4 with a4 _
 have a5:us2=us:=by simpa using a4
 subst a5;have d:=ziy a1 b1;unfold Srt.rank;rw[zj (fun p:Addr×List Int=>p.2) _ ei,zj (fun p:Addr×List Int=>p.2) _ ej,d]
noncomputable def rSortedAL (K:Fg):List V->Hp->VK->Prop:=fun xs H Q=>∃(l:Addr) (ps:List (Addr×List Int)),xs=[.ref l]/\SqL K H l (ps.map fun p=>V.ref p.1)/\ps.length<=1000000/\TupsAt K H ps /\
 ∀(q:Addr) (qs:List (Addr×List Int)),H q=none->qs.Perm ps->(qs.map (·.2)).Pairwise (fun a b=>HT.lexLt b a=false)->Q (.ref q) (upd H q (.lst (qs.map fun p=>V.ref p.1)))
noncomputable def rSortedDAL:List V->Hp->VK->Prop:=fun xs H Q=>∃(a:Addr) (kvs:List (List Key×V)) (ks:List (List Int)),xs=[.ref a]/\Rd H a (.dT kvs)/\kvs.map (·.1)=ks.map (fun ns=>ns.map Sum.inl)/\ks.length<=1000000 /\
 ∀(q:Addr) (qs:List (Addr×List Int)),H q=none->(qs.map (·.2)).Perm ks->(qs.map (·.2)).Pairwise (fun x y=>HT.lexLt y x=false)->(∀p∈qs,H p.1=some (.tup (p.2.map V.int)))->Q (.ref q) (upd H q (.lst (qs.map fun p=>V.ref p.1)))
section
variable {X:Cx}
theorem zlu (hu:X.A.units + 64 < cLine):CallR X (.builtin "sorted") (rSortedAL X.K):=by
 intro aU s σ H xs us Q I r h;obtain⟨l,ps,rfl,hl,h64,ht,q⟩:=h;obtain⟨u,rfl,ru⟩:=vals1 r;cases ru;obtain⟨its,rv,pl,hz⟩:=I.list hl;have eits:its=ps.map fun p=>Value.ref p.1:=by
  have e:(ps.map fun p=>V.ref p.1)=(ps.map (·.1)).map V.ref:=by rw[xcy];rfl
  rw[e] at rv;rw[zob rv,xcy]
  rfl
 subst eits;have tup:∀g:Heap,(∀b o,s.heap.get? b=some o->g.get? b=some o)->TupsG g ps:=fun g keep p hp=>by
  obtain⟨us,rv',⟨o,b2,b3,n,b4⟩,_⟩:=I.tuple (ht p hp);exact⟨us,o,n,zdv rv',keep _ _ b2,b3,b4⟩
 refine Srt.zmg (Srt.rank (ps.map (·.2))) pl.isList (by rw[xbb];exact small10000 h64) (zup (tup s.heap fun _ _ z=>z)) (fun h2 g keep=>zbah (by show X.A.units+1+1 < cLine;lia) (by rw[xbb] at h2;exact h2) (tup g keep)) (fun p p1 p2=>?_);rw[xbb] at p1 p2;obtain⟨qs,q1,q2,q3⟩:=zsr p1 p2;obtain⟨e,he⟩:=sortedAll_at s.heap (ps.map fun p=>Value.ref p.1) (Srt.outOf (ps.map fun p=>Value.ref p.1) p);rw[q3] at he ⊢;refine⟨.ref (s.heap.objs.size+1),_,I.laid (a:=s.heap.objs.size+1) (o:=.lst (qs.map fun p=>V.ref p.1)) (t':=s.toks) (fun _ _ z=>sortedAll_old z) (xkl _) ⟨?_,_,e,zha qs,he⟩,rfl,q _ _ (I.hok.fresh (xkl _)) q1 q2⟩;rw[xbb,q1.length_eq];exact small10000 (by lia)
theorem zkj (hc:X.calm=true)(hu:X.A.units + 64 < cLine):CallR X (.builtin "sorted") rSortedDAL:=by
 intro aU s σ H xs us Q I r h;obtain⟨a,kvs,ks,rfl,hd,ek,few,q⟩:=h;obtain⟨u,rfl,ru⟩:=vals1 r;cases ru;obtain⟨z,ns,ys,rel,ob,es,ep,e1,e2,e3,e4,e5⟩:=(show ObjOk X.prog X.w H s.heap a (.dT kvs) from hd.ok I.hok)
 obtain⟨ps,a1,a2,a3⟩:=zlt (P:=X.prog) (w:=X.w) rel ek;have hpl:ps.length=ks.length:=by rw[← a1,xbb]
 have hes:es.toList.map (·.key)=ps.map fun p=>Value.ref p.1:=by rw[e4,xcy];exact a3
 have hsz:es.size=ps.length:=by
  have:=congrArg List.length hes;rw[xbb,xbb,xcc] at this;exact this
 have tup:∀g:Heap,(∀b o,s.heap.get? b=some o->g.get? b=some o)->TupsG g ps:=fun g keep p hp=>by
  obtain⟨us,rv,⟨o,b2,b3,n,b4⟩,_⟩:=I.tuple (SqT.of (a2 p hp));exact⟨us,o,n,zdv rv,keep _ _ b2,b3,b4⟩
 refine Srt.zfs (Dct.zbfs ns es ep) (I.ok.hd hc) ⟨ob,e1,e2,e3⟩ (small10000 (by lia)) fun vs hl hv=>?_
 have evs:vs=ps.map fun p=>Value.ref p.1:=by
  rw[← hes];apply xkg;intro i;by_cases hi:i < es.size
  ·have h1:vs[i]?=some vs[i]:=xbd (by lia);obtain⟨en,h2,h3⟩:=hv i _ h1;rw[h1,h3,xcn,xcf,h2]
   rfl
  ·rw[xhh (by lia),xhh (by rw[xbb,xcc];lia)]
 subst evs;refine⟨Srt.rank (ps.map (·.2)),zup (tup s.heap fun _ _ z=>z),fun h2 g tk keep=>zbah (by show X.A.units+1+1 < cLine;lia) (by lia) (tup g keep),fun p t g tk c p1 p2 keep ne eg=>?_⟩;rw[xbb] at p1 p2;obtain⟨qs,q1,q2,q3⟩:=zsr p1 p2;rw[q3] at eg;refine⟨.ref t,_,I.laidN (o:=.lst (qs.map fun p=>V.ref p.1)) keep ne ⟨?_,_,c,zha qs,eg⟩,rfl,q t qs (I.away ne) ((q1.map _).trans (by rw[a1])) q2 fun p hp=>a2 p (q1.mem_iff.mp hp)⟩;rw[xbb,q1.length_eq];exact small10000 (by lia)
end
end L2
namespace L2
open PySem PySem.Spec PyProof.Rows
theorem zhs {κ β:Type}[DecidableEq κ]{k:κ}:∀{xs:List (κ×β)} {j:Nat} {p:β},(xs.map (·.1)).Nodup->xs[j]?=some (k,p)->xs.eraseIdx j=xs.filter fun x=>decide (x.1≠k)
 | [],_,_,_,e=>by simp at e
 | x::r,0,p,nd,e=>by
  simp at e;subst e;rw[xbt,xep] at nd;rw[List.eraseIdx_cons_zero,xcu (by simp)]
  symm
  rw[List.filter_eq_self];intro y hy;refine xcj fun z=>nd.1 ?_
  rw[← z];exact xbr.mpr ⟨y,hy,rfl⟩
 | x::r,j+1,p,nd,e=>by
  rw[xbt,xep] at nd;have e':r[j]?=some (k,p):=by simpa using e
  have hx:x.1≠k:=fun z=>nd.1 (by rw[z];exact xbr.mpr ⟨_,xca e',rfl⟩)
  rw[xkb,xco (by simpa using hx),zhs nd.2 e']
theorem zpc {α β:Type}(f:α->β):∀(l:List α) (j:Nat),(l.map f).eraseIdx j=(l.eraseIdx j).map f
 | [],_=>rfl
 | _::_,0=>rfl
 | x::l,j+1=>by rw[xbt,xkb,xkb,xbt,zpc f l j]
section
variable {prog:Program}{w:World}{κ:Type}[DecidableEq κ]{knd:HeapKind prog w κ}{A:Around}{E:Value->Shared->Prop}{s:Shared}{d a:Addr}{k:κ}{xs:List (κ×Addr×Value)}{p:Addr×Value}
theorem zvx {W:Option DictEntry->Shared->Prop}(hu:knd.room A)(hkey:knd.is s.heap k a)(hm:s.heap.DictOfH knd d xs)(hp:atKey xs k=some p)(hsz:xs.length<=sizeLine)
  (fin:∀e h',e.val=p.2->h'.DictOfH knd d (xs.filter fun x=>decide (x.1≠k))->Heap.SameBut d s.heap h'->W (some e) {s with heap:=h',toks:=s.toks+knd.draws k}) :
  wpAny (model prog w) A (Builtin.Dict.takeOut d (.ref a)) W E s:=by
 obtain⟨o,es,ep,ho,hc,hd,he,his,hn⟩:=hm;unfold Builtin.Dict.takeOut;refine xex ?_;refine xba (knd.pyHash hu hkey ?_);refine xba (wpAny_dictFind_heap (s:={s with toks:=s.toks+knd.draws k}) hu hkey ho hd he his hn (fun z=>?_) fun j q hj=>?_)
 ·rw[atKey_none_of_get z] at hp;cases hp
 ·have hq:q=p:=by
   have z:=atKey_of_get hn hj;rw[hp] at z;exact(xcv z).symm
  subst hq;refine xba (xit (s:={s with toks:=s.toks+knd.draws k}) ho hd ?_);rw[entry_at he j,hj];have big:es.size<=sizeLine:=by have:=size_of_entries he;lia
  refine xba (wpAny_updateDictKeys (hz:=big) (s:={s with toks:=s.toks+knd.draws k}) ho hd (xbe (fin _ _ rfl ⟨_,_,ep+1,xfn _ ho (Obj.isFreed_of_dict (Obj.data_mapDictKeys hd _)),hc.mapDictKeys _,Obj.data_mapDictKeys hd _,?_,fun x hx=>?_,?_⟩ (xev ..))))
  ·rw[← zhs hn hj];obtain⟨l⟩:=es;have he':l=xs.map (entryOfKey knd):=he;subst he';simp[zpc]
  ·exact knd.keeps (his x (xeo.mp hx).1) ho hd (xev ..)
  ·exact List.Sublist.nodup (List.Sublist.map (fun x:κ×Addr×Value=>x.1) List.filter_sublist) hn
theorem zbbi {W:Value->Shared->Prop}(hu:knd.room A.in1)(hkey:knd.is s.heap k a)(hm:s.heap.DictOfH knd d xs)(hp:atKey xs k=some p)(hsz:xs.length<=sizeLine)
  (fin:∀h',h'.DictOfH knd d (xs.filter fun x=>decide (x.1≠k))->Heap.SameBut d s.heap h'->W p.2 {s with heap:=h',toks:=s.toks+knd.draws k}) :
  wpAny (model prog w) A (call (.builtin "dict.pop") [.ref d, .ref a]) W E s:=by
 have M:MeetsIn prog w (Builtin.«dict.pop» ⟨[.ref d,.ref a],[]⟩) (fun B R g=>B=A/\g=s/\∀h',h'.DictOfH knd d (xs.filter fun x=>decide (x.1≠k))->Heap.SameBut d s.heap h'->R (.ok (.ret p.2)) {s with heap:=h',toks:=s.toks+knd.draws k}) :=
  .of_wp fun B R g hq0=>by
   obtain⟨hB,hg,q⟩:=hq0;subst hB hg;unfold Builtin.«dict.pop» Builtin.Dict.keyAndDefault;refine xba (xba (wpAny_notOrdered_dict hm.typeIs (xbe ?_)));obtain⟨o,es,ep,ho,hc,hd,he,his,hn⟩:=id hm;have ne:es.isEmpty=false:=by
    have:=size_of_entries he;cases xs with
    | nil=>cases hp
    | cons x r =>
     rw[xby] at this;rw[Array.isEmpty_eq_false_iff];intro z;rw[z] at this;simp at this
   simp only[keyPart,Option.isSome_none,xcl,xdx];refine xba (xit ho hd (xba (xbe ?_)));rw[ne];simp only[xcl,xdx];refine xba (zvx hu hkey hm hp hsz fun e h' hv dd hs=>?_);simp only[Option.isNone_some,xcl,xdx];exact xba (wpAny_letGo (xbe ⟨e.val,rfl,by rw[hv];exact q h' dd hs⟩))
 exact call_meetsIn F.slot_dict_pop hm.typeIs F.entry_dict_pop (F.args_dict_pop_2 _ _) M ⟨rfl,rfl,fin⟩
end
theorem KT.drop {H:Hp}{kvs:List (List Key×V)}{xs:List (List Key×Addr×Value)}(r:KT H kvs xs)(k:List Key):KT H (dropK kvs k) (xs.filter fun x=>decide (x.1≠k)):=by
 unfold dropK
 induction r with
 | nil=>exact .nil
 | @cons p q ps qs h t ih =>
  by_cases e:p.1=k
  ·rw[xcu (by simp[e]),xcu (by simp[← h.1,e])];exact ih
  ·rw[xco (by simp[e]),xco (by simp[← h.1,e])];exact .cons h ih
section
variable {X:Cx}{aU:List (Addr×Obj)}{σ:St}{H:Hp}{s:Shared}{a b:Addr}{kvs:List (List Key×V)}{k:List Key}
theorem zboe {v:V}{Q:Value->Shared->Prop}{E:Value->Shared->Prop}(hu:X.A.units+1 < cLine)(I:Inv X aU σ H s)(e:H a=some (.dT kvs))(eb:H b=some (.tup (k.map kV)))(l:valV kvs k=some v)
  (h:∀ w' s', Inv X aU σ (upd H a (.dT (dropK kvs k))) s'->RelV v w'->Q w' s'):wpAny (model X.prog X.w) X.A (call (.builtin "dict.pop") [.ref a, .ref b]) Q E s:=by
 obtain⟨z,hd,xs,rel,dd⟩:=zbqe I.hok e;obtain⟨w',hw,rw'⟩:=RelO.some_of (v:=v) (o:=(atKey xs k).map (·.2)) (by rw[← l];exact rel.val k);cases hp:atKey xs k with
 | none=>rw[hp] at hw;cases hw
 | some p =>
  rw[hp] at hw;have hw':p.2=w':=xcv hw;subst hw';refine zbbi (xhc hu) (znc I.hok eb) dd hp (by rw[← xhx rel];exact z) fun h' dd' hs=>h _ _ ?_ rw'
  obtain⟨q,es,ep,hq,h2,h3,h4,_,h5⟩:=dd';refine zph I (by rw[e];exact True.intro) hs ⟨q,hq⟩ ⟨xbc (xfo _ _) z,hd,_,(rel.drop k).keeps fun c ys ec=>?_,q,es,ep,hq,h2,h3,h4,h5⟩;rw[zt (zbpy ec e (fun z=>nomatch z))];exact ec
end
noncomputable def tDPopT (td ty:TE):TE:=fun σ H Q=>td σ H fun x H1=>∃a,x=.ref a/\IsD H1 a/\ty σ H1 fun y H2=>∃kvs k v b,H2 a=some (.dT kvs)/\y=.ref b/\H2 b=some (.tup (k.map kV))/\valV kvs k=some v/\Q v (upd H2 a (.dT (dropK kvs k)))
section
variable {X:Cx}{o e:Expr}{apos cpos:Pos}{td ty:TE}
theorem zbbp (hu:X.A.units + 1 < cLine)(ho:PE X o td)(he:PE X e ty)(m:M1 X o "pop" apos e cpos):PE X (.Call (.Attribute o "pop" apos) [e] [] cpos) (tDPopT td ty):=by
 intro aU s σ H Q I h;refine wpAny_Call_method m.base m.few m.line xjw F.slot_dict_pop F.type_dict_pop (thn (ho aU s σ H _ I h) fun u s1 hq0=>?_);obtain⟨x,H1,I1,rx,a,ex,d,q1⟩:=hq0;subst ex;obtain rfl:u=Value.ref a:=rx;obtain⟨t1,t2,_⟩:=zbid I1 d;refine⟨t1,t2,?_⟩;rw[m.trees];refine xik rfl (xkx (xia (thn (he aU s1 σ H1 _ I1 q1) fun iv s2 ⟨y,H2,I2,ry,kvs,k,v,b,ea,ey,eb,l,q2⟩=>xkc ?_)));subst ey;cases(show iv=Value.ref b from ry);exact zboe hu I2 ea eb l fun w' s3 I3 rw'=>⟨v,_,I3,rw',q2⟩
end
noncomputable def rCatA (K:Fg):R2:=fun x y H Q=>∃a b xs ys,x=.ref a/\y=.ref b/\SqT K H a xs/\SqT K H b ys/\xs.length+ys.length<=sizeLine /\
 (xs=[]->Q (.ref b) H)/\(xs≠[]->ys=[]->Q (.ref a) H)/\(xs≠[]->ys≠[]->∀p,H p=none->Q (.ref p) (upd H p (.tup (xs++ys))))
section
variable {X:Cx}
theorem zbhc:OpR X (binaryOp .Add) (rCatA X.K):=by
 intro aU s σ H x y v u Q I rx ry h;obtain⟨a,b,xs,ys,rfl,rfl,ha,hb,hz,q0,q1,q2⟩:=h;by_cases hx:xs=[]
 ·cases rx;cases ry;obtain⟨its,r1,p1,_⟩:=I.tuple ha;obtain⟨its2,r2,p2,_⟩:=I.tuple hb;obtain⟨⟨cls,dd,data,sl⟩,ho,hc,n,hd⟩:=id p1;obtain⟨⟨cls2,dd2,data2,sl2⟩,ho2,hc2,n2,hd2⟩:=id p2;simp only at hc hd hc2 hd2;subst hc hd hc2 hd2;have e:its=[]:=r1.nil_iff.mpr hx;exact concat_meets ⟨_,ho,rfl⟩ ⟨_,ho2,rfl⟩ noFill_tuple_add seq_tuple_add xki xjv (xjp _ _)
   (tuple_addW0 a b its.toArray its2.toArray n n2 dd dd2 sl sl2 (by simp[e])) ⟨ho,ho2,⟨.ref b,H,I,rfl,q0 hx⟩⟩
 ·exact zbhb aU s σ H _ _ v u Q I rx ry ⟨a,b,xs,ys,rfl,rfl,ha,hb,hx,hz,fun z=>q1 hx z,fun z=>q2 hx z⟩
end
section
variable {prog:Program}{w:World}{A:Around}{E:Value->Shared->Prop}{s:Shared}
theorem zxz {t sl:Addr}{its:Array Value}{vl vu:Value}{lo hi:Option Int}{W:Value->Shared->Prop}(ht:IsTup s.heap t its)(hs:s.heap.IsSliceOf sl vl vu .none)(pl:IsPart vl lo)(pu:IsPart vu hi)
  (h0:HT.sIx its.size 0 lo=0)(h1:HT.sIx its.size its.size hi=its.size)(fin:W (.ref t) s):wpAny (model prog w) A (getItem (.ref t) (.ref sl)) W E s:=by
 obtain⟨os,hos,hcs,hds⟩:=id hs;unfold getItem
 try with_reducible refine xex ?_
 first | refine xba (xbe ?_) | skip
 refine xba (wpAny_sequenceKey ht.typeIs (by decide) ?_);refine xba (wpAny_callSpecial?_slot (name:=Str.ofString "__getitem__") ht.typeIs xjt (xet xjt ht.typeIs entry_tuple_getitem ?_ (args_tuple_getitem _ _)))
 show wpAny _ _ (Builtin.Tuple.tupleItemsOf (.ref t) >>= _) _ _ s;refine xba (tupleItemsOf_ ht ?_);have hTs:s.TypeIs (.ref sl) "slice":=⟨os, hos, hcs⟩
 refine xba (wpAny_typeOf hTs ?_);rw[if_pos (by decide)];refine xba (HT.zds hs pl pu ?_);have yes:(((HT.sIx its.size 0 lo:Nat):Int)==0&&(1:Int)==1&&(HT.sIx its.size its.size hi - HT.sIx its.size 0 lo)==its.size)=true:=by
  rw[h0,h1];simp
 show wpAny _ _ (if(((HT.sIx its.size 0 lo:Nat):Int)==0&&(1:Int)==1&&(HT.sIx its.size its.size hi - HT.sIx its.size 0 lo)==its.size)=true then _ else _) _ _ s;rw[if_pos yes];refine xba (?_:wpAny _ _ (Builtin.Tuple.tupleIsExact (.ref t)) _ _ s);unfold Builtin.Tuple.tupleIsExact;refine xba (wpAny_typeOf ht.typeIs (xbe ?_));rw[if_pos (by decide)];exact xba (xij (xbe ⟨_,rfl,xbe fin⟩))
end
noncomputable def rSlA (K:Fg):V->Option Int->Option Int->Hp->VK->Prop:=fun x lo hi H Q=>∃a xs,x=.ref a/\SqT K H a xs/\(cutV xs lo hi=xs->Q (.ref a) H)/\∀p,H p=none->Q (.ref p) (upd H p (.tup (cutV xs lo hi)))
theorem zbfo {X:Cx}:SlR X (rSlA X.K):=by
 intro aU s σ H x v vl vu lo hi sl Q I rx hs pl pu h;obtain⟨a,xs,rfl,hx,q1,q2⟩:=h;by_cases hw:HT.sIx xs.length 0 lo=0/\HT.sIx xs.length xs.length hi=xs.length
 ·cases rx;obtain⟨its,r,ht,hz⟩:=I.tuple hx;have hlen:its.toArray.size=xs.length:=by rw[xbs];exact r.length.symm
  refine⟨"tuple", _, xjt.lookup, ht.typeIs, ?_⟩
  refine zxz ht hs pl pu (by rw[hlen];exact hw.1) (by rw[hlen];exact hw.2) ⟨.ref a,H,I,rfl,q1 ?_⟩;unfold cutV;rw[hw.1,hw.2];simp
 ·exact zbky aU s σ H _ v vl vu lo hi sl Q I rx hs pl pu ⟨a,xs,rfl,hx,hw,q2⟩
theorem zis (ns:List Int):∀k,k<=ns.length->preSum (fun i=>ns.getD i 0) k=(ns.take k).sum
 | 0,_=>rfl
 | k+1,h=>by
  show preSum (fun i=>ns.getD i 0) k+ns.getD k 0=_;rw[zis ns k (by lia),xhq (by lia),xee,xbi,xbd (by lia)];simp
theorem zln:∀{ns:List Int} {us:List Value} {i:Nat} {v:Value},Vals (ns.map V.int) us->us[i]?=some v->∃t,v=.int (ns.getD i 0) t
 | [],_,_,_,.nil,e=>by simp at e
 | n::ns,_,0,_,.cons r _,e=>by
  simp at e;subst e
  obtain⟨t,rfl⟩:=r;exact⟨t,rfl⟩
 | n::ns,_,i+1,v,.cons _ t,e=>by
  have:=zln (i:=i) t (by simpa using e)
  simpa using this
noncomputable def rSum (K:Fg):List V->Hp->VK->Prop:=fun xs H Q=>∃(a:Addr) (ns:List Int),xs=[.ref a]/\(SqL K H a (ns.map V.int)\/SqT K H a (ns.map V.int))/\Q (.int ns.sum) H
theorem zki {X:Cx}(hc:X.calm=true):CallR X (.builtin "sum") (rSum X.K):=by
 intro aU s σ H xs us Q I r h;obtain⟨a,ns,rfl,hs,q⟩:=h;obtain⟨u,rfl,ru⟩:=vals1 r;cases ru;have key:∀{its:List Value} (h':Heap) (tk:Nat) (t':Tok) (nn:Nat),nn=ns.length->(∀b o,b≠s.heap.objs.size->s.heap.get? b=some o->h'.get? b=some o) ->
   EP X aU σ Q (.int (preSum (fun i=>ns.getD i 0) nn) t') {s with heap:=h',toks:=tk}:=fun h' tk t' nn hn hk=>by
  subst hn;rw[zis ns _ (xbf _),xcp];exact⟨.int ns.sum,H,I.kept (t':=tk) fun b o e=>hk b o (xch (xbv e)) e,⟨_,rfl⟩,q⟩
 refine call_sum_walkG ?_;rcases hs with hs | hs
 ·obtain⟨its,rv,pl,hz⟩:=I.list hs;have hlt:a < s.heap.objs.size:=by obtain⟨o,n,e,_⟩:=pl;exact xbv e
  have hl:=rv.length;rw[xbb] at hl;refine xis pl.isList ?_;refine⟨s.heap.objs.size,_,[s.heap.objs.size],_,_,_,fun i=>ns.getD i 0,rfl,Walks.list (A:=X.A.in1) (I.ok.hd hc) _ a (xch hlt) its.toArray,⟨⟨_,xce _ rfl,rfl,rfl⟩,pl.isList.push _⟩,?_,fun i v e=>zln rv (by simpa using e),fun h' tk t' hk=>?_⟩
  ·intro b hb;show b < (s.heap.push _).objs.size;rw[show ∀o:Obj,(s.heap.push o).objs.size=s.heap.objs.size+1 from fun o=>by simp[Heap.push]];rcases xbp.mp hb with rfl | hb
   ·exact xjd _
   ·rcases xbp.mp hb with rfl | hb
    ·exact xhl hlt
    ·cases hb
  ·exact key (its:=its) h' tk t' _ (by simp[hl]) fun b o hb e=>hk b o (by simpa using hb) (xbm _ e)
 ·obtain⟨its,rv,pl,hz⟩:=I.tuple hs;have hlt:a < s.heap.objs.size:=pl.lt;have hl:=rv.length;rw[xbb] at hl;have pt:s.heap.IsTuple a its.toArray:=pl;refine xlv pt ?_;refine⟨s.heap.objs.size,_,[s.heap.objs.size],_,_,_,fun i=>ns.getD i 0,rfl,Walks.tuple (A:=X.A.in1) (I.ok.hd hc) _ a (xch hlt) its.toArray,⟨⟨_,xce _ rfl,rfl,rfl⟩,pt.push _⟩,?_,fun i v e=>zln rv (by simpa using e),fun h' tk t' hk=>?_⟩
  ·intro b hb;show b < (s.heap.push _).objs.size;rw[show ∀o:Obj,(s.heap.push o).objs.size=s.heap.objs.size+1 from fun o=>by simp[Heap.push]];rcases xbp.mp hb with rfl | hb
   ·exact xjd _
   ·rcases xbp.mp hb with rfl | hb
    ·exact xhl hlt
    ·cases hb
  ·exact key (its:=its) h' tk t' _ (by simp[hl]) fun b o hb e=>hk b o (by simpa using hb) (xbm _ e)
section
variable {X:Cx}{aU:List (Addr×Obj)}{σ:St}{H:Hp}{s:Shared}{h':Heap}
theorem Inv.turned2 {t':Nat}{e it:Addr}(I:Inv X aU σ H s)(k:∀b o,b≠e->b≠it->s.heap.get? b=some o->h'.get? b=some o)(hn:H it=none)(hL:it≠X.env.locals)
  (h1:it∈X.ex\/X.s₀.heap.objs.size<=it)(h2:∀x c,X.env.cells.lookup x=some c->c≠it)(h3:∀p∈X.pn++aU,p.1≠it)(gn:H e=none)(gL:e≠X.env.locals)
  (g1:e∈X.ex\/X.s₀.heap.objs.size<=e)(g2:∀x c,X.env.cells.lookup x=some c->c≠e)(g3:∀p∈X.pn++aU,p.1≠e):Inv X aU σ H {s with heap:=h',toks:=t'}:=by
 have nit:∀b u,H b=some u->b≠it:=fun b u e z=>by rw[z,hn] at e;cases e
 have nie:∀b u,H b=some u->b≠e:=fun b u q z=>by rw[z,gn] at q;cases q
 refine I.step (g':=s.gens) (d':=s.drawn) (ch:=[e,it]) (fun b hb=>?_) (fun b o _ _ hc e _=>k b o (fun z=>hc (by simp[z])) (fun z=>hc (by simp[z])) e) (fun b o _ _ hc e _=>⟨o.slots,k b o (fun z=>hc (by simp[z])) (fun z=>hc (by simp[z])) e⟩) (fun _ _ _ _ n=>n)
  (fun b o hc e=>⟨o,k b o (fun z=>hc (by simp[z])) (fun z=>hc (by simp[z])) e⟩) (fun _ _ e=>e) (fun _ _ _ e=>e) (fun b ps e=>⟨#[],by rw[e];simp⟩) (fun m hm=>?_) (fun b u e=>?_) I.bare
 ·rcases xbp.mp hb with z | z
  ·subst z;exact⟨g1,gL,g2,g3⟩
  ·have z':b=it:=by simpa using z
   subst z';exact⟨h1,hL,h2,h3⟩
 ·obtain⟨o,es,ep,ho,r⟩:=hm;exact⟨o,es,ep,k _ o (xem gL) (xem hL) ho,r⟩
 ·refine(I.hok b u e).stay (fun c v hc q=>k c v ?_ ?_ q) (fun _ q=>q) fun _ _ q=>q
  ·rcases hc with z | z
   ·rw[z];exact nie b u e
   ·exact nie c _ z
  ·rcases hc with z | z
   ·rw[z];exact nit b u e
   ·exact nit c _ z
end
section
variable {X:Cx}
end
noncomputable def bestI (gt:Bool) (n:Int) (ns:List Int):Int:=ns.foldl (fun i j=>if(if gt then decide (j > i) else decide (j < i))=true then j else i) n
theorem zns:∀(ns:List Int) (n:Int),bestI true n ns∈n::ns/\∀a∈n::ns,a<=bestI true n ns
 | [],n=>⟨by simp[bestI],by simp[bestI]⟩
 | m::ns,n=>by
  have e:bestI true n (m::ns)=bestI true (if m > n then m else n) ns:=by simp[bestI]
  obtain⟨h1,h2⟩:=zns ns (if m > n then m else n);rw[e];refine⟨?_,fun a ha=>?_⟩
  ·rcases xbp.mp h1 with z | z
   ·rw[z];split<;>simp
   ·simp[z]
  ·have h3:=h2 _ xbn;rcases xbp.mp ha with rfl | ha
   ·refine Int.le_trans ?_ h3;split<;>lia
   ·rcases xbp.mp ha with rfl | ha
    ·refine Int.le_trans ?_ h3;split<;>lia
    ·exact h2 a (xbk _ ha)
theorem zuv {n:Int}{ns:List Int}{k:Nat}(hk:k=ns.length):(n::ns).getD (argBest (fun i j=>decide ((n::ns).getD i 0 >(n::ns).getD j 0)) k) 0=bestI true n ns:=by
 subst hk;obtain⟨h1,h2⟩:=argBest_gt (fun i=>(n::ns).getD i 0) ns.length;obtain⟨g1,g2⟩:=zns ns n;have hl:argBest (fun i j=>decide ((n::ns).getD i 0 >(n::ns).getD j 0)) ns.length < (n::ns).length:=by rw[xby];lia
 obtain⟨j,hj,ej⟩:=xeh g1;have a1:=h2 j (by simp at hj;lia);have a2:=g2 ((n::ns).getD (argBest (fun i j=>decide ((n::ns).getD i 0 >(n::ns).getD j 0)) ns.length) 0) (by rw[xbi,xbd hl];exact xcx hl);have e:(n::ns).getD j 0=bestI true n ns:=by rw[xbi,xbd hj,ej];rfl
 rw[e] at a1;lia
noncomputable def rBest (K:Fg) (gt:Bool):List V->Hp->VK->Prop:=fun xs H Q=>∃(a:Addr) (n:Int) (ns:List Int),xs=[.ref a]/\(SqL K H a ((n::ns).map V.int)\/SqT K H a ((n::ns).map V.int))/\Q (.int (bestI gt n ns)) H
section
variable {X:Cx}
theorem zvo {aU:List (Addr×Obj)}{σ:St}{H:Hp}{s:Shared}{E:Value->Shared->Prop}{a:Addr}{ns:List Int}{R:Value->Shared->Prop}(hc:X.calm=true)(I:Inv X aU σ H s)(hs:SqL X.K H a (ns.map V.int)\/SqT X.K H a (ns.map V.int))
  (h:∀I' fp wr P St s2,Walks X.prog X.w X.A.in1 I' fp wr ns.length P St->St 0 s2.heap->(∀b∈fp,b < s2.heap.objs.size)->(∀i v,P i v->∃t,v=.int (ns.getD i 0) t) ->
   (∀h' tk,(∀b o,b∉wr->s2.heap.get? b=some o->h'.get? b=some o)->Inv X aU σ H {s2 with heap:=h',toks:=tk})->R (.ref I') s2) :
  wpAny (model X.prog X.w) X.A.in1 (pyIter (.ref a)) R E s:=by
 have key:∀(o:Obj) (h':Heap) (tk:Nat),(∀b u,b∉[s.heap.objs.size]->(s.heap.push o).get? b=some u->h'.get? b=some u)->Inv X aU σ H {s with heap:=h',toks:=tk}:=fun o h' tk hk =>
  I.kept (t':=tk) fun b u e=>hk b u (by simp;exact xch (xbv e)) (xbm _ e)
 have low:∀(o:Obj),a < s.heap.objs.size->∀b∈[s.heap.objs.size,a],b < (s.heap.push o).objs.size:=fun o hlt b hb=>by
  rw[Heap.size_push];have hb':b=s.heap.objs.size\/b=a:=by simpa using hb
  rcases hb' with z | z
  ·rw[z];exact xjd _
  ·rw[z];exact xhl hlt
 rcases hs with hs | hs
 ·obtain⟨its,rv,pl,hz⟩:=I.list hs;have hlt:a < s.heap.objs.size:=by obtain⟨o,n,e,_⟩:=pl;exact xbv e
  have hl:=rv.length;rw[xbb] at hl;have W:=Walks.list (prog:=X.prog) (w:=X.w) (A:=X.A.in1) (I.ok.hd hc) s.heap.objs.size a (xch hlt) its.toArray;rw[show its.toArray.size=ns.length from by rw[xbs];exact hl.symm] at W;exact xis pl.isList (h _ _ _ _ _ { s with heap:=s.heap.push { cls:=.type "list_iterator", data:=.fields #[.ref a, .int 0 0] } } W ⟨⟨_, xce _ rfl, rfl, rfl⟩, pl.isList.push _⟩ (low _ hlt) (fun i v e=>zln rv (by simpa using e)) fun h' tk hk=>key _ h' tk hk)
 ·obtain⟨its,rv,pl,hz⟩:=I.tuple hs;have hlt:a < s.heap.objs.size:=pl.lt;have hl:=rv.length;rw[xbb] at hl;have pt:s.heap.IsTuple a its.toArray:=pl;have W:=Walks.tuple (prog:=X.prog) (w:=X.w) (A:=X.A.in1) (I.ok.hd hc) s.heap.objs.size a (xch hlt) its.toArray;rw[show its.toArray.size=ns.length from by rw[xbs];exact hl.symm] at W;exact xlv pt (h _ _ _ _ _ { s with heap:=s.heap.push { cls:=.type "tuple_iterator", data:=.fields #[.ref a, .int 0 0] } } W ⟨⟨_, xce _ rfl, rfl, rfl⟩, pt.push _⟩ (low _ hlt) (fun i v e=>zln rv (by simpa using e)) fun h' tk hk=>key _ h' tk hk)
theorem zyd (hc:X.calm=true):CallR X (.builtin "max") (rBest X.K true):=by
 intro aU s σ H xs us Q I r h;obtain⟨a,n,ns,rfl,hs,q⟩:=h;obtain⟨u,rfl,ru⟩:=vals1 r;cases ru;refine call_max_walk (zvo hc I hs fun I' fp wr P St s2 W st low val keep=>?_);refine⟨I',fp,wr,_,P,St,_,rfl,W,st,low,by simp,CmpOf.ints_gt (fun i=>(n::ns).getD i 0) val,fun v h' tk hP hk=>?_⟩;obtain⟨t,rfl⟩:=val _ _ hP;rw[zuv (by simp)];exact⟨.int (bestI true n ns),H,keep h' tk hk,⟨_,rfl⟩,q⟩
end
section
variable {prog:Program}{w:World}{A:Around}{E:Value->Shared->Prop}{s:Shared}{z TI TO i1 i2 t1 t2:Addr}{xs ys:Array Value}{j:Nat}
end
section
variable {prog:Program}{w:World}{A:Around}{E:Value->Shared->Prop}{s:Shared}{z TI TO i1 i2 t1 t2:Addr}{xs ys:Array Value}{j:Nat}
end
section
variable {prog:Program}{w:World}{A:Around}{E:Value->Shared->Prop}{s:Shared}
end
section
variable {X:Cx}
end
end L2
namespace Dd
open PySem L2
set_option genInjectivity true in
inductive D where
 | non | bl (b:Bool) | int (i:Int) | str (x:Str) | ty (n:String) | ref (n:Nat) | tup (ds:List D) | lst (ds:List D) | scr (ds:List D) | exn (c:Str) (l:List Int)
set_option genInjectivity true in
inductive O where
 /-- a list that may change;a dict by tuples of ints;one that is only read;gone -/
 | lst (xs:List D) | dT (kvs:List (List Int×D)) | fT (kvs:List (List Int×D)) | dead
 /-- a dict by ints -/
 | dI (kvs:List (Int×D))
 /-- the law's table of codes -/
 | tab
noncomputable abbrev Store:=List O
structure Exc where
 cls:Str
 at_:List Int
set_option genInjectivity true in
inductive Res (α:Type) where
 | ok (a:α) (st:Store) | exc (x:Exc) (st:Store) | stuck
noncomputable def Res.bind {α β:Type}:Res α->(α->Store->Res β)->Res β
 | .ok a st,f=>f a st
 | .exc x st,_=>.exc x st
 | .stuck,_=>.stuck
@[simp] theorem zcy {α β:Type} (a:α) (st:Store) (f:α->Store->Res β):(Res.ok a st).bind f=f a st:=rfl
@[simp] theorem zbox {α β:Type} (x:Exc) (st:Store) (f:α->Store->Res β):(Res.exc x st:Res α).bind f=.exc x st:=rfl
@[simp] theorem zbkc {α β:Type} (f:α->Store->Res β):(Res.stuck:Res α).bind f=.stuck:=rfl
theorem za {α β:Type}{r:Res α}{f:α->Store->Res β}{b:β}{st':Store}(h:r.bind f=.ok b st'):∃a st,r=.ok a st/\f a st=.ok b st':=by
 cases r with
 | ok a st=>exact⟨a,st,rfl,h⟩
 | exc x st=>cases h
 | stuck=>cases h
noncomputable abbrev DS:=List (Option D)
noncomputable abbrev SE:=DS->Store->Res D
noncomputable abbrev ST:=DS->Store->Res Bool
noncomputable abbrev SA:=DS->Store->Res (List D)
set_option genInjectivity true in
inductive Fl where
 | nx (σ:DS) | ret (v:D) | brk (σ:DS) | ct (σ:DS)
noncomputable abbrev SS:=DS->Store->Res Fl
noncomputable abbrev DFn:=List D->Store->Res D
structure Loc where
 m:List (Option Addr)
 g:List Addr
noncomputable def Out (ρ:Loc) (a:Addr):Prop:=some a∉ρ.m/\a∉ρ.g
noncomputable def Ls (K:Fg) (ρ:Loc) (H:Hp) (a:Addr) (vs:List V):Prop:=(Rd H a (.lst vs)/\Out ρ a)\/∀H':Hp,SqL K H' a vs
noncomputable def XAt (K:Fg) (ρ:Loc) (H:Hp) (c:Str) (l:List Int) (a:Addr):Prop:=∃C o,W.nsIn K mainGlobals c=some (some (.ref C))/\(H a=some (.frz o (.ext fun _=>True))/\Out ρ a)/\o.cls=.ref C/\(∃vs,o.data=.fields vs/\vs[2]?=some .none) /\
 ((l=[]/\o.dict=none)\/∃ i dx od, l=[i]/\o.dict=some dx/\H dx=some (.frz od (.xd [("at", .int i)]))/\Out ρ dx)
theorem XAt.map {K:Fg}{ρ ρ':Loc}{H H':Hp}{c:Str}{l:List Int}{a:Addr}(h:XAt K ρ H c l a)(f:∀b ob u,H b=some (.frz ob u)->Out ρ b->H' b=some (.frz ob u)/\Out ρ' b):XAt K ρ' H' c l a:=by
 obtain⟨C,o,h1,h2,h3,h4,h5⟩:=h;refine⟨C,o,h1,f _ _ _ h2.1 h2.2,h3,h4,?_⟩;rcases h5 with h5 | ⟨i,dx,od,h6,h7,h8,h9⟩
 ·exact .inl h5
 ·exact .inr ⟨i,dx,od,h6,h7,(f _ _ _ h8 h9).1,(f _ _ _ h8 h9).2⟩
mutual
inductive At (K:Fg) (ρ:Loc) (H:Hp):D->V->Prop
 | non:At K ρ H .non .non
 | bl (b:Bool):At K ρ H (.bl b) (.bl b)
 | int (i:Int):At K ρ H (.int i) (.int i)
 | str (x:Str):At K ρ H (.str x) (.str x)
 | ty (n:String):At K ρ H (.ty n) (.ty n)
 | ref {n:Nat} {v:V}:n < ρ.m.length->(∀a,ρ.m[n]?=some (some a)->v=.ref a)->At K ρ H (.ref n) v
 | tup {a:Addr} {ds:List D} {vs:List V}:H a=some (.tup vs)->Out ρ a->AtAll K ρ H ds vs->At K ρ H (.tup ds) (.ref a)
 | lst {a:Addr} {ds:List D} {vs:List V}:H a=some (.lst vs)->Out ρ a->AtAll K ρ H ds vs->At K ρ H (.lst ds) (.ref a)
 | scr {a:Addr} {ds:List D} {vs:List V}:Ls K ρ H a vs->AtAll K ρ H ds vs->At K ρ H (.scr ds) (.ref a)
 | exn {c:Str} {l:List Int} {a:Addr}:XAt K ρ H c l a->At K ρ H (.exn c l) (.ref a)
inductive AtAll (K:Fg) (ρ:Loc) (H:Hp):List D->List V->Prop
 | nil:AtAll K ρ H [] []
 | cons {d:D} {ds:List D} {v:V} {vs:List V}:At K ρ H d v->AtAll K ρ H ds vs->AtAll K ρ H (d::ds) (v::vs)
end
structure Mv (ρ:Loc) (H:Hp) (ρ':Loc) (H':Hp):Prop where
 out:∀{a:Addr} {o:HO},H a=some o->Out ρ a->H' a=some o/\Out ρ' a
 len:ρ.m.length<=ρ'.m.length
 old:∀(n:Nat) (a:Addr),n < ρ.m.length->ρ'.m[n]?=some (some a)->ρ.m[n]?=some (some a)
theorem Ls.mv {K:Fg}{ρ ρ':Loc}{H H':Hp}{a:Addr}{vs:List V}(x:Mv ρ H ρ' H')(h:Ls K ρ H a vs):Ls K ρ' H' a vs:=by
 rcases h with⟨h | ⟨o,h⟩,n⟩ | h
 ·exact .inl ⟨.inl (x.out h n).1,(x.out h n).2⟩
 ·exact .inl ⟨.inr ⟨o,(x.out h n).1⟩,(x.out h n).2⟩
 ·exact .inr h
theorem At.mv {K:Fg}{ρ ρ':Loc}{H H':Hp}(x:Mv ρ H ρ' H'){d:D}{v:V}(h:At K ρ H d v):At K ρ' H' d v :=
 At.rec (motive_1:=fun d v _=>At K ρ' H' d v) (motive_2:=fun d v _=>AtAll K ρ' H' d v) .non .bl .int .str .ty (fun h e=>.ref (xbg h x.len) fun a q=>e a (x.old _ a h q)) (fun h n _ ih=>.tup (x.out h n).1 (x.out h n).2 ih) (fun h n _ ih=>.lst (x.out h n).1 (x.out h n).2 ih) (fun h _ ih=>.scr (h.mv x) ih) (fun h=>.exn (h.map fun _ _ _ e n=>x.out e n)) .nil (fun _ _ a b=>.cons a b) h
theorem AtAll.mv {K:Fg}{ρ ρ':Loc}{H H':Hp}(x:Mv ρ H ρ' H'){d:List D}{v:List V}(h:AtAll K ρ H d v):AtAll K ρ' H' d v :=
 AtAll.rec (motive_1:=fun _ _ _=>True) (motive_2:=fun d v _=>AtAll K ρ' H' d v) trivial (fun _=>trivial) (fun _=>trivial) (fun _=>trivial) (fun _=>trivial) (fun _ _=>trivial) (fun _ _ _ _=>trivial) (fun _ _ _ _=>trivial) (fun _ _ _=>trivial) (fun _=>trivial) .nil (fun a _ _ b=>.cons (a.mv x) b) h
structure Ext (ρ:Loc) (H:Hp) (ρ':Loc) (H':Hp):Prop where
 len:ρ.m.length<=ρ'.m.length
 old:∀(n:Nat) (a:Addr),n < ρ.m.length->ρ'.m[n]?=some (some a)->ρ.m[n]?=some (some a)
 keep:∀a o,H a=some o->some a∉ρ.m->H' a=some o/\some a∉ρ'.m
 gho:ρ'.g=ρ.g
 frz:∀a ob u,H a=some (.frz ob u)->H' a=some (.frz ob u)
theorem Ext.out {ρ ρ':Loc}{H H':Hp}(x:Ext ρ H ρ' H'){a:Addr}{o:HO}(h:H a=some o)(n:Out ρ a):H' a=some o/\Out ρ' a :=
 ⟨(x.keep a o h n.1).1,(x.keep a o h n.1).2,by rw[x.gho];exact n.2⟩
theorem Ext.mv {ρ ρ':Loc}{H H':Hp}(x:Ext ρ H ρ' H'):Mv ρ H ρ' H':=⟨fun h n=>x.out h n,x.len,x.old⟩
theorem Ls.sq {K:Fg}{ρ:Loc}{H:Hp}{a:Addr}{vs:List V}(h:Ls K ρ H a vs):SqL K H a vs:=by
 rcases h with h | h
 ·exact .inl h.1
 ·exact h H
section
variable {K:Fg}
theorem Ext.refl (ρ:Loc)(H:Hp):Ext ρ H ρ H:=⟨xbf _,fun _ _ _ e=>e,fun _ _ e n=>⟨e,n⟩,rfl,fun _ _ _ e=>e⟩
theorem Ext.trans {ρ ρ1 ρ2:Loc}{H H1 H2:Hp}(a:Ext ρ H ρ1 H1)(b:Ext ρ1 H1 ρ2 H2):Ext ρ H ρ2 H2 :=
 ⟨xbc a.len b.len,fun n c h e=>a.old n c h (b.old n c (xbg h a.len) e),fun c o e n=>by
  obtain⟨e1,n1⟩:=a.keep c o e n
  exact b.keep c o e1 n1,b.gho.trans a.gho,fun c ob u e=>b.frz c ob u (a.frz c ob u e)⟩
theorem At.ext {ρ ρ':Loc}{H H':Hp}(x:Ext ρ H ρ' H'){d:D}{v:V}(h:At K ρ H d v):At K ρ' H' d v:=h.mv x.mv
theorem AtAll.ext {ρ ρ':Loc}{H H':Hp}(x:Ext ρ H ρ' H'){d:List D}{v:List V}(h:AtAll K ρ H d v):AtAll K ρ' H' d v:=h.mv x.mv
theorem AtAll.length {ρ:Loc}{H:Hp}:∀{ds:List D} {vs:List V},AtAll K ρ H ds vs->vs.length=ds.length
 | _,_,.nil=>rfl
 | _,_,.cons _ t=>by rw[xby,xby,AtAll.length t]
theorem AtAll.get {ρ:Loc}{H:Hp}:∀{ds:List D} {vs:List V} {i:Nat} {d:D},AtAll K ρ H ds vs->ds[i]?=some d->∃v,vs[i]?=some v/\At K ρ H d v
 | _,_,_,_,.nil,e=>by simp at e
 | _,_,0,_,.cons a _,e=>by simp at e;subst e;exact⟨_,rfl,a⟩
 | _,_,i+1,d,.cons _ t,e=>by
  obtain⟨u,h1,h2⟩:=AtAll.get (i:=i) (d:=d) t (by simpa using e);exact⟨u,by simpa using h1,h2⟩
theorem AtAll.append {ρ:Loc}{H:Hp}:∀{ds es:List D} {vs us:List V},AtAll K ρ H ds vs->AtAll K ρ H es us->AtAll K ρ H (ds++es) (vs++us)
 | _,_,_,_,.nil,b=>b
 | _,_,_,_,.cons a t,b=>.cons a (AtAll.append t b)
theorem AtAll.take {ρ:Loc}{H:Hp}:∀{ds:List D} {vs:List V} (n:Nat),AtAll K ρ H ds vs->AtAll K ρ H (ds.take n) (vs.take n)
 | _,_,0,_=>.nil
 | _,_,_+1,.nil=>.nil
 | _,_,n+1,.cons a t=>.cons a (AtAll.take n t)
theorem AtAll.drop {ρ:Loc}{H:Hp}:∀{ds:List D} {vs:List V} (n:Nat),AtAll K ρ H ds vs->AtAll K ρ H (ds.drop n) (vs.drop n)
 | _,_,0,h=>h
 | _,_,_+1,.nil=>.nil
 | _,_,n+1,.cons a t=>AtAll.drop n t
theorem AtAll.set {ρ:Loc}{H:Hp}{d:D}{v:V}(a:At K ρ H d v):∀{ds:List D} {vs:List V} (n:Nat),AtAll K ρ H ds vs->AtAll K ρ H (ds.set n d) (vs.set n v)
 | _,_,_,.nil=>.nil
 | _,_,0,.cons _ t=>.cons a t
 | _,_,n+1,.cons b t=>.cons b (AtAll.set a n t)
noncomputable def KvAt (K:Fg) (ρ:Loc) (H:Hp):List (List Int×D)->List (List Key×V)->Prop:=Paired fun p q=>q.1=p.1.map Sum.inl/\At K ρ H p.2 q.2
theorem KvAt.ext {ρ ρ':Loc}{H H':Hp}(x:Ext ρ H ρ' H'){a:List (List Int×D)}{b:List (List Key×V)}(h:KvAt K ρ H a b):KvAt K ρ' H' a b:=Paired.mapP h fun p q z=>⟨z.1,z.2.ext x⟩
noncomputable abbrev lamQ:Str:=(("law" : Str)++".<locals>.")++"<lambda>"
noncomputable def TabOk (H:Hp) (ps:Array Value):Prop:=TriplesOk ps.toList/\∀pos cv,codeAmong pos ps.toList=some cv->∃c oc vs t,cv=.ref c/\H c=some (.frz oc (.ext fun _=>True))/\oc.data=.fields vs/\vs[1]?=some (.str lamQ t)
theorem TabOk.map {H H':Hp}{ps:Array Value}(h:TabOk H ps)(f:∀b ob u,H b=some (.frz ob u)->H' b=some (.frz ob u)):TabOk H' ps :=
 ⟨h.1,fun pos cv e=>by obtain⟨c,oc,vs,t,e1,e2,e3⟩:=h.2 pos cv e;exact⟨c,oc,vs,t,e1,f _ _ _ e2,e3⟩⟩
noncomputable def KiAt (K:Fg) (ρ:Loc) (H:Hp):List (Int×D)->List (Key×V)->Prop:=Paired fun p q=>q.1=Sum.inl p.1/\At K ρ H p.2 q.2
theorem KiAt.ext {K:Fg}{ρ ρ':Loc}{H H':Hp}(x:Ext ρ H ρ' H'){a:List (Int×D)}{b:List (Key×V)}(h:KiAt K ρ H a b):KiAt K ρ' H' a b:=Paired.mapP h fun p q z=>⟨z.1,z.2.ext x⟩
noncomputable def OAt (K:Fg) (ρ:Loc) (H:Hp):O->Addr->Prop
 | .lst xs,a=>∃vs,H a=some (.lst vs)/\AtAll K ρ H xs vs
 | .dT kvs,a=>∃vs,H a=some (.dT vs)/\KvAt K ρ H kvs vs
 | .fT kvs,a=>∃vs ob,H a=some (.frz ob (.dT vs))/\KvAt K ρ H kvs vs
 | .dI kvs,a=>∃vs,H a=some (.dK vs)/\KiAt K ρ H kvs vs
 | .dead,_=>False
 | .tab, a=>(∃ c, W.tabIn K "law"=some (c, a))/\∃ ps, H a=some (.tbl ps)/\TabOk H ps
structure Rep (K:Fg) (ρ:Loc) (st:Store) (H:Hp):Prop where
 len:ρ.m.length=st.length
 inj:∀(n m:Nat) (a:Addr),ρ.m[n]?=some (some a)->ρ.m[m]?=some (some a)->n=m
 obj:∀(n:Nat) (a:Addr) (o:O),ρ.m[n]?=some (some a)->st[n]?=some o->OAt K ρ H o a
 gh:∀a∈ρ.g,(∃vs,H a=some (.lst vs))/\some a∉ρ.m
 live:∀(n:Nat) (o:O),st[n]?=some o->o≠.dead->∃a,ρ.m[n]?=some (some a)
noncomputable def AtO (K:Fg) (ρ:Loc) (H:Hp) (o:Option D) (v:Option V):Prop:=∀d,o=some d->∃u,v=some u/\At K ρ H d u
noncomputable abbrev AtS (K:Fg) (ρ:Loc) (H:Hp):DS->St->Prop:=Paired (AtO K ρ H)
theorem AtS.ext {ρ ρ':Loc}{H H':Hp}(x:Ext ρ H ρ' H'){σ:DS}{τ:St}(h:AtS K ρ H σ τ):AtS K ρ' H' σ τ:=Paired.mapP h fun o v z d e=>by
 obtain⟨u,e1,a⟩:=z d e;exact⟨u,e1,a.ext x⟩
theorem AtS.get {ρ:Loc}{H:Hp}:∀{σ:DS} {τ:St} {i:Nat} {d:D},AtS K ρ H σ τ->σ[i]?=some (some d)->∃u,τ[i]?=some (some u)/\At K ρ H d u
 | _,_,_,_,.nil,e=>by simp at e
 | _,_,0,_,.cons a _,e=>by
  simp at e;subst e
  obtain⟨u,e1,h⟩:=a _ rfl;exact⟨u,by simp[e1],h⟩
 | _,_,i+1,d,.cons _ t,e=>by
  obtain⟨u,h1,h2⟩:=AtS.get (i:=i) (d:=d) t (by simpa using e);exact⟨u,by simpa using h1,h2⟩
theorem AtS.set {ρ:Loc}{H:Hp}{d:D}{v:V}(a:At K ρ H d v):∀{σ:DS} {τ:St} (i:Nat),AtS K ρ H σ τ->AtS K ρ H (σ.set i (some d)) (τ.set i (some v))
 | _,_,_,.nil=>.nil
 | _,_,0,.cons _ t=>.cons (fun d' e=>by cases e;exact⟨v,rfl,a⟩) t
 | _,_,i+1,.cons q t=>.cons q (AtS.set a i t)
end
noncomputable def tD (K:Fg) (f:SE):TE:=fun τ H Q=>∃ρ σ st v st',AtS K ρ H σ τ/\Rep K ρ st H/\f σ st=.ok v st'/\∀ρ' H' u,Ext ρ H ρ' H'->Rep K ρ' st' H'->At K ρ' H' v u->Q u H'
noncomputable def tDT (K:Fg) (f:ST):TT:=fun τ H Q=>∃ρ σ st v st',AtS K ρ H σ τ/\Rep K ρ st H/\f σ st=.ok v st'/\∀ρ' H',Ext ρ H ρ' H'->Rep K ρ' st' H'->Q v H'
noncomputable def tDA (K:Fg) (f:SA):TA:=fun τ H Q=>∃ρ σ st v st',AtS K ρ H σ τ/\Rep K ρ st H/\f σ st=.ok v st'/\∀ρ' H' u,Ext ρ H ρ' H'->Rep K ρ' st' H'->AtAll K ρ' H' v u->Q u H'
noncomputable def FlOk (K:Fg) (ρ:Loc) (H:Hp) (st':Store) (E:Ends):Fl->Prop
 | .nx σ=>∀ρ' H' τ,Ext ρ H ρ' H'->Rep K ρ' st' H'->AtS K ρ' H' σ τ->E.nx τ H'
 | .brk σ=>∀ρ' H' τ,Ext ρ H ρ' H'->Rep K ρ' st' H'->AtS K ρ' H' σ τ->E.bk τ H'
 | .ct σ=>∀ρ' H' τ,Ext ρ H ρ' H'->Rep K ρ' st' H'->AtS K ρ' H' σ τ->E.ct τ H'
 | .ret v=>∀ρ' H' u,Ext ρ H ρ' H'->Rep K ρ' st' H'->At K ρ' H' v u->E.rt u H'
theorem FlOk.ext {K:Fg}{ρ ρ1:Loc}{H H1:Hp}{st':Store}{E:Ends}{fl:Fl}(x:Ext ρ H ρ1 H1)(h:FlOk K ρ H st' E fl):FlOk K ρ1 H1 st' E fl:=by
 cases fl with
 | nx σ=>exact fun ρ' H' τ e=>h ρ' H' τ (x.trans e)
 | brk σ=>exact fun ρ' H' τ e=>h ρ' H' τ (x.trans e)
 | ct σ=>exact fun ρ' H' τ e=>h ρ' H' τ (x.trans e)
 | ret v=>exact fun ρ' H' τ e=>h ρ' H' τ (x.trans e)
noncomputable def tDS (K:Fg) (f:SS):TS:=fun E τ H=>∃ρ σ st fl st',AtS K ρ H σ τ/\Rep K ρ st H/\f σ st=.ok fl st'/\FlOk K ρ H st' E fl
noncomputable abbrev DE (X:Cx) (e:Expr) (f:SE):Prop:=PE X e (tD X.K f)
noncomputable abbrev DT (X:Cx) (e:Expr) (f:ST):Prop:=PT X e (tDT X.K f)
noncomputable abbrev DW (X:Cx) (e:Expr) (f:ST):Prop:=PW X e (tDT X.K f)
noncomputable abbrev DA (X:Cx) (es:List Expr) (f:SA):Prop:=PA X es (tDA X.K f)
noncomputable abbrev DSt (X:Cx) (s:Stmt) (f:SS):Prop:=PS X s (tDS X.K f)
noncomputable abbrev DSs (X:Cx) (s:List Stmt) (f:SS):Prop:=PSs X s (tDS X.K f)
section
variable {X:Cx}{e:Expr}{es:List Expr}{s:Stmt}{ss:List Stmt}
theorem zex {t t':TE}(h:PE X e t)(k:∀σ H Q,t' σ H Q->t σ H Q):PE X e t':=fun aU s σ H Q I q=>h aU s σ H Q I (k _ _ _ q)
theorem zbkk {t t':TT}(h:PT X e t)(k:∀σ H Q,t' σ H Q->t σ H Q):PT X e t':=fun aU s σ H Q I q=>h aU s σ H Q I (k _ _ _ q)
theorem pw_to {t t':TT}(h:PW X e t)(k:∀σ H Q,t' σ H Q->t σ H Q):PW X e t':=fun wh aU s σ H Q I q=>h wh aU s σ H Q I (k _ _ _ q)
theorem zbpv {t t':TA}(h:PA X es t)(k:∀σ H Q,t' σ H Q->t σ H Q):PA X es t':=fun pos aU s σ H Q I q=>h pos aU s σ H Q I (k _ _ _ q)
theorem zsm {t t':TS}(h:PS X s t)(k:∀E σ H,t' E σ H->t E σ H):PS X s t':=fun aU z σ H E I q=>h aU z σ H E I (k _ _ _ q)
theorem zbfw {t t':TS}(h:PSs X ss t)(k:∀E σ H,t' E σ H->t E σ H):PSs X ss t':=fun aU z σ H E I q=>h aU z σ H E I (k _ _ _ q)
end
noncomputable def aA (i:Nat):SE:=fun σ st=>match σ[i]? with
 | some (some d)=>.ok d st
 | _=>.stuck
noncomputable def eC (d:D):SE:=fun _ st=>.ok d st
section
variable {X:Cx}
theorem zbro {e:Expr}{i:Nat}(h:PE X e (tVar i)):DE X e (aA i):=zex h fun τ H Q hq0=>by
 obtain⟨ρ,σ,st,v,st',a,r,e,q⟩:=hq0;unfold aA at e;split at e
 ·rename_i d hd;cases e;obtain⟨u,e1,e2⟩:=a.get hd;exact⟨u,e1,q ρ H u (.refl _ _) r e2⟩
 ·cases e
theorem zbjn {e:Expr}{v:V}{d:D}(h:PE X e (tC v))(k:∀ρ H,At X.K ρ H d v):DE X e (eC d):=zex h fun τ H Q hq0=>by
 obtain⟨ρ,σ,st,v,st',a,r,e,q⟩:=hq0;cases e;exact q ρ H _ (.refl _ _) r (k _ _)
theorem zbrw {i j pos}:DE X (.Constant (.int i) j pos) (eC (.int i)):=zbjn zbma fun _ _=>.int i
theorem d_bl {b j pos}:DE X (.Constant (.bool b) j pos) (eC (.bl b)):=zbjn zbqu fun _ _=>.bl b
theorem zbru {j pos}:DE X (.Constant .none j pos) (eC .non):=zbjn zblz fun _ _=>.non
theorem zbrq {x j pos}:DE X (.Constant (.str x) j pos) (eC (.str x)):=zbjn zblw fun _ _=>.str x
end
noncomputable def aS (g:D->D->Store->Res D) (f f':SE):SE:=fun σ st=>(f σ st).bind fun x st1=>(f' σ st1).bind fun y st2=>g x y st2
noncomputable def eUn (g:D->Store->Res D) (f:SE):SE:=fun σ st=>(f σ st).bind fun x st1=>g x st1
noncomputable def OpD (K:Fg) (g:D->D->Store->Res D) (r:R2):Prop :=
 ∀ρ H st x y u v z st' (Q:VK),Rep K ρ st H->At K ρ H x u->At K ρ H y v->g x y st=.ok z st'->(∀ρ' H' w,Ext ρ H ρ' H'->Rep K ρ' st' H'->At K ρ' H' z w->Q w H')->r u v H Q
theorem zbkl {K:Fg}{g:D->D->Store->Res D}{r:R2}(hr:OpD K g r){f f':SE}:∀τ H Q,tD K (aS g f f') τ H Q->tOp r (tD K f) (tD K f') τ H Q:=fun τ H Q hq0=>by
 obtain⟨ρ,σ,st,v,st',a,rp,e,q⟩:=hq0;obtain⟨x,st1,e1,e⟩:=za e;obtain⟨y,st2,e2,e⟩:=za e;refine⟨ρ,σ,st,x,st1,a,rp,e1,fun ρ1 H1 u x1 rp1 a1=>?_⟩;refine⟨ρ1,σ,st1,y,st2,a.ext x1,rp1,e2,fun ρ2 H2 w x2 rp2 a2=>?_⟩;exact hr ρ2 H2 st2 x y u w v st' Q rp2 (a1.ext x2) a2 e fun ρ' H' z x3 rp3 a3=>q ρ' H' z (x1.trans (x2.trans x3)) rp3 a3
section
variable {X:Cx}{a b c:Expr}{f f' f'':SE}{pos:Pos}
theorem d_op {op:Operator}{r:R2}{g:D->D->Store->Res D}(ho:OpR X (binaryOp op) r)(hr:OpD X.K g r)(ha:DE X a f)(hb:DE X b f'):DE X (.BinOp a op b pos) (aS g f f'):=zex (zbqs ho ha hb) (zbkl hr)
theorem zbrx {op:CmpOp}{r:R2}{g:D->D->Store->Res D}(ho:OpR X (compareOp op) r)(hr:OpD X.K g r)(ha:DE X a f)(hb:DE X b f')(hm:behindInMarks op b=false):DE X (.Compare a [op] [b] pos) (aS g f f'):=zex (zbgp ho ha hb hm) (zbkl hr)
noncomputable def eB (f:SE):ST:=fun σ st=>(f σ st).bind fun v st1=>match v with
 | .bl b=>.ok b st1
 | _=>.stuck
theorem eB_t {K:Fg}{f:SE}:∀τ H Q,tDT K (eB f) τ H Q->tD K f τ H fun x H1=>∃c,x=.bl c/\Q c H1:=fun τ H Q hq0=>by
 obtain⟨ρ,σ,st,v,st',a,rp,e,q⟩:=hq0;obtain⟨x,st1,e1,e⟩:=za e;refine⟨ρ,σ,st,x,st1,a,rp,e1,fun ρ1 H1 u x1 rp1 a1=>?_⟩;cases x<;>try (cases e;done)
 cases e;cases a1;exact⟨_,rfl,q _ _ x1 rp1⟩
theorem zbnu {op:CmpOp}{r:R2}{g:D->D->Store->Res D}(ho:OpR X (compareOp op) r)(hr:OpD X.K g r)(ha:DE X a f)(hb:DE X b f')(hm:behindInMarks op b=false):DT X (.Compare a [op] [b] pos) (eB (aS g f f')) :=
 zbkk (zbfv ho ha hb hm) fun τ H Q h=>zbkl hr _ _ _ (eB_t _ _ _ h)
noncomputable def eChain (g g':D->D->Store->Res D) (f f' f'':SE):SE:=fun σ st=>(f σ st).bind fun x st1=>(f' σ st1).bind fun y st2=>(g x y st2).bind fun z st3=>match z with
 | .bl true=>(f'' σ st3).bind fun w st4=>g' y w st4
 | .bl false=>.ok (.bl false) st3
 | _=>.stuck
end
end Dd
namespace Dd
open PySem L2
section
variable {K:Fg}{ρ:Loc}{st:Store}{H:Hp}{p a:Addr}{o:HO}{n:Nat}
theorem Ext.new (hp:H p=none)(o:HO):Ext ρ H ρ (upd H p o):=⟨xbf _,fun _ _ _ e=>e,fun b u e m=>⟨by rw[zt (zl e hp)];exact e,m⟩,rfl,fun b ob u e=>by rw[zt (zl e hp)];exact e⟩
theorem zga {vs:List V}(h:H a=some (.lst vs)):∀ob u,H a≠some (.frz ob u):=fun ob u z=>by rw[h] at z;cases z
theorem ziv {vs:List (List Key×V)}(h:H a=some (.dT vs)):∀ob u,H a≠some (.frz ob u):=fun ob u z=>by rw[h] at z;cases z
theorem Ext.wr (h:ρ.m[n]?=some (some a))(hz:∀ob u,H a≠some (.frz ob u))(o:HO):Ext ρ H ρ (upd H a o):=⟨xbf _,fun _ _ _ e=>e,fun b u e m=>⟨by
 rw[zt]
 ·exact e
 ·rintro rfl
  exact m (xca h),m⟩,rfl,fun b ob u e=>by
 rw[zt]
 ·exact e
 ·rintro rfl
  exact hz _ _ e⟩
theorem OAt.has {x:O}(h:OAt K ρ H x a):∃u,H a=some u:=by
 cases x with
 | lst xs=>obtain⟨vs,e,_⟩:=h;exact⟨_,e⟩
 | dT kvs=>obtain⟨vs,e,_⟩:=h;exact⟨_,e⟩
 | fT kvs=>obtain⟨vs,ob,e,_⟩:=h;exact⟨_,e⟩
 | dI kvs=>obtain⟨vs,e,_⟩:=h;exact⟨_,e⟩
 | dead=>exact h.elim
 | tab=>obtain⟨_,ps,e,_⟩:=h;exact⟨_,e⟩
theorem OAt.ext {ρ':Loc}{H':Hp}{x:O}(e:Ext ρ H ρ' H')(same:H' a=H a)(h:OAt K ρ H x a):OAt K ρ' H' x a:=by
 cases x with
 | lst xs=>obtain⟨vs,q,r⟩:=h;exact⟨vs,by rw[same];exact q,r.ext e⟩
 | dT kvs=>obtain⟨vs,q,r⟩:=h;exact⟨vs,by rw[same];exact q,r.ext e⟩
 | fT kvs=>obtain⟨vs,ob,q,r⟩:=h;exact⟨vs,ob,by rw[same];exact q,r.ext e⟩
 | dI kvs=>obtain⟨vs,q,r⟩:=h;exact⟨vs,by rw[same];exact q,r.ext e⟩
 | dead=>exact h.elim
 | tab=>obtain⟨c,ps,q,r⟩:=h;exact⟨c,ps,by rw[same];exact q,r.map e.frz⟩
theorem Rep.has (r:Rep K ρ st H)(h:ρ.m[n]?=some (some a)):∃x,st[n]?=some x/\OAt K ρ H x a:=by
 have hn:n < st.length:=by rw[← r.len];exact(xbh.mp h).1
 exact⟨st[n],xbd hn,r.obj n a _ h (xbd hn)⟩
theorem Rep.new (r:Rep K ρ st H)(hp:H p=none)(o:HO):Rep K ρ st (upd H p o):=⟨r.len,r.inj,fun m b x e1 e2=>by
 have q:=r.obj m b x e1 e2;obtain⟨u,hu⟩:=q.has;exact q.ext (Ext.new hp o) (zt (zl hu hp)),fun b hb=>by
 obtain⟨⟨u,hu⟩,n⟩:=r.gh b hb
 exact⟨⟨u,by rw[zt (zl hu hp)];exact hu⟩,n⟩,r.live⟩
theorem Rep.wr (r:Rep K ρ st H)(h:ρ.m[n]?=some (some a))(hz:∀ob u,H a≠some (.frz ob u)){x:O}{o:HO}(q:OAt K ρ (upd H a o) x a):Rep K ρ (st.set n x) (upd H a o):=⟨by rw[r.len,xfa],r.inj,fun m b y e1 e2=>by
 by_cases hm:m=n
 ·subst hm;have hb:b=a:=by rw[h] at e1;exact(xcv (xcv e1)).symm
  subst hb;have hl:m < st.length:=by rw[← r.len];exact(xbh.mp h).1
  rw[xdv hl] at e2;cases e2;exact q
 ·rw[xcq (xem hm)] at e2;refine(r.obj m b y e1 e2).ext (Ext.wr h hz o) (zt fun z=>hm ?_);subst z;exact r.inj m n b e1 h,fun b hb=>by
 obtain⟨⟨u,hu⟩,n1⟩:=r.gh b hb;refine⟨⟨u,?_⟩,n1⟩;rw[zt]
 ·exact hu
 ·rintro rfl;exact n1 (xca h),fun m y e ne=>by
 by_cases hm:m=n
 ·subst hm;exact⟨a,h⟩
 ·rw[xcq (xem hm)] at e
  exact r.live m y e ne⟩
theorem Rep.alloc (r:Rep K ρ st H)(hp:H p=none){x:O}{o:HO}(q:Ext ρ H ⟨ρ.m++[some p],ρ.g⟩ (upd H p o)->OAt K ⟨ρ.m++[some p],ρ.g⟩ (upd H p o) x p):Ext ρ H ⟨ρ.m++[some p],ρ.g⟩ (upd H p o)/\Rep K ⟨ρ.m++[some p],ρ.g⟩ (st++[x]) (upd H p o):=by
 have hn:∀(m:Nat) (b:Addr),(ρ.m++[some p])[m]?=some (some b)->(m < ρ.m.length/\ρ.m[m]?=some (some b))\/(m=ρ.m.length/\b=p):=fun m b e=>by
  rcases xff m ρ.m.length with z | z
  ·rw[xbu z] at e;exact .inl ⟨z,e⟩
  ·rw[xcs z] at e;have z2:m - ρ.m.length=0:=by
    have:=(xbh.mp e).1;simp at this;lia
   rw[z2] at e;simp at e;exact .inr ⟨by lia,e.symm⟩
 have nl:∀(m:Nat),ρ.m[m]?≠some (some p):=fun m e=>by
  obtain⟨x,_,q⟩:=r.has e;obtain⟨u,hu⟩:=q.has;rw[hp] at hu;cases hu
 have E:Ext ρ H ⟨ρ.m++[some p],ρ.g⟩ (upd H p o):=⟨by rw[xbj];lia,fun m b h e=>by
   rw[xbu h] at e;exact e,fun b u e m=>⟨by rw[zt (zl e hp)];exact e,fun z=>by
   rcases xbw.mp z with z | z
   ·exact m z
   ·simp at z;subst z;rw[hp] at e;cases e⟩,rfl,fun b ob u e=>by rw[zt (zl e hp)];exact e⟩
 refine⟨E,⟨by rw[xbj,xbj,r.len];rfl,fun m k b e1 e2=>?_,fun m b y e1 e2=>?_,fun b hb=>?_,fun m y e ne=>?_⟩⟩
 ·rcases hn m b e1 with⟨h1,q1⟩ | ⟨h1,rfl⟩
  ·rcases hn k b e2 with⟨h2,q2⟩ | ⟨h2,rfl⟩
   ·exact r.inj m k b q1 q2
   ·exact absurd q1 (nl m)
  ·rcases hn k b e2 with⟨h2,q2⟩ | ⟨h2,_⟩
   ·exact absurd q2 (nl k)
   ·lia
 ·rcases hn m b e1 with⟨h1,q1⟩ | ⟨h1,rfl⟩
  ·rw[xbu (by rw[← r.len];exact h1)] at e2;have q:=r.obj m b y q1 e2;obtain⟨u,hu⟩:=q.has;exact q.ext E (zt (zl hu hp))
  ·rw[h1,r.len,xcs (xbf _)] at e2;simp at e2;subst e2;exact q E
 ·obtain⟨⟨u,hu⟩,n1⟩:=r.gh b hb;refine⟨⟨u,by rw[zt (zl hu hp)];exact hu⟩,fun z=>?_⟩;rcases xbw.mp z with z | z
  ·exact n1 z
  ·simp at z;subst z;rw[hp] at hu;cases hu
 ·rcases xff m st.length with z | z
  ·rw[xbu z] at e;obtain⟨b,hb⟩:=r.live m y e ne;exact⟨b,by rw[xbu (by rw[r.len];exact z)];exact hb⟩
  ·have z2:=(xbh.mp e).1;simp at z2;have z3:m=ρ.m.length:=by rw[r.len];lia
   exact⟨p,by rw[z3,xcs (xbf _)];simp⟩
theorem Rep.kill (r:Rep K ρ st H)(h:n < ρ.m.length):Ext ρ H ⟨ρ.m.set n none,ρ.g⟩ H/\Rep K ⟨ρ.m.set n none,ρ.g⟩ (st.set n .dead) H:=by
 have hn:∀(m:Nat) (b:Addr),(ρ.m.set n none)[m]?=some (some b)->m≠n/\ρ.m[m]?=some (some b):=fun m b e=>by
  by_cases z:m=n
  ·subst z;rw[xdv h] at e;simp at e
  ·rw[xcq (xem z)] at e;exact⟨z,e⟩
 have E:Ext ρ H ⟨ρ.m.set n none,ρ.g⟩ H:=⟨by rw[xfa];exact xbf _,fun m b _ e=>(hn m b e).2,fun b o e m=>⟨e,fun z=>by
  obtain⟨i,hi,e2⟩:=xeh z;have:(ρ.m.set n none)[i]?=some (some b):=by rw[xbd hi,e2]
  exact m (xca (hn i b this).2)⟩,rfl,fun _ _ _ e=>e⟩
 refine⟨E,⟨by rw[xfa,xfa,r.len],fun m k b e1 e2=>r.inj m k b (hn m b e1).2 (hn k b e2).2,fun m b y e1 e2=>?_,fun b hb=>⟨(r.gh b hb).1,fun z=>?_⟩,fun m y e ne=>?_⟩⟩
 rotate_left
 ·obtain⟨i,hi,e2⟩:=xeh z;have:(ρ.m.set n none)[i]?=some (some b):=by rw[xbd hi,e2]
  exact(r.gh b hb).2 (xca (hn i b this).2)
 ·have z:m≠n:=by
   rintro rfl;rw[xdv (by rw[← r.len];exact h)] at e;cases e;exact ne rfl
  rw[xcq (xem z)] at e;obtain⟨b,hb⟩:=r.live m y e ne;exact⟨b,by rw[xcq (xem z)];exact hb⟩
 obtain⟨z,q⟩:=hn m b e1;rw[xcq (xem z)] at e2;exact(r.obj m b y q e2).ext E rfl
theorem zjy (r:Rep K ρ st H)(hp:H p=none):Out ρ p:=by
 refine⟨fun z=>?_,fun z=>?_⟩
 ·obtain⟨i,hi,e⟩:=xeh z;obtain⟨x,_,q⟩:=r.has (n:=i) (a:=p) (by rw[xbd hi,e]);obtain⟨u,hu⟩:=q.has;rw[hp] at hu;cases hu
 ·obtain⟨⟨u,hu⟩,_⟩:=r.gh p z;rw[hp] at hu;cases hu
theorem At.newT (r:Rep K ρ st H)(hp:H p=none){ds:List D}{vs:List V}(h:AtAll K ρ H ds vs):At K ρ (upd H p (.tup vs)) (.tup ds) (.ref p):=.tup zr (zjy r hp) (h.ext (Ext.new hp _))
theorem At.newL (r:Rep K ρ st H)(hp:H p=none){ds:List D}{vs:List V}(h:AtAll K ρ H ds vs):At K ρ (upd H p (.lst vs)) (.lst ds) (.ref p):=.lst zr (zjy r hp) (h.ext (Ext.new hp _))
end
noncomputable def eAnd (f f':SE):SE:=fun σ st=>(f σ st).bind fun v st1=>match v with
 | .bl true=>f' σ st1
 | .bl false=>.ok (.bl false) st1
 | _=>.stuck
noncomputable def eOr (f f':SE):SE:=fun σ st=>(f σ st).bind fun v st1=>match v with
 | .bl true=>.ok (.bl true) st1
 | .bl false=>f' σ st1
 | _=>.stuck
noncomputable def eNot (f:SE):SE:=fun σ st=>(f σ st).bind fun v st1=>match v with
 | .bl b=>.ok (.bl (!b)) st1
 | _=>.stuck
noncomputable def bAnd (f f':ST):ST:=fun σ st=>(f σ st).bind fun b st1=>if b=true then f' σ st1 else .ok false st1
noncomputable def bOr (f f':ST):ST:=fun σ st=>(f σ st).bind fun b st1=>if b=true then .ok true st1 else f' σ st1
noncomputable def bNot (f:ST):ST:=fun σ st=>(f σ st).bind fun b st1=>.ok (!b) st1
noncomputable def eIf (c:ST) (f f':SE):SE:=fun σ st=>(c σ st).bind fun b st1=>if b=true then f σ st1 else f' σ st1
section
variable {X:Cx}{a b:Expr}{rest:List Expr}{f f':SE}{t t':ST}{pos:Pos}
theorem zbrs {op}(h:DE X a f):DE X (.BoolOp op [a] pos) f:=zblx h
theorem zbry (ha:DE X a f)(hb:DE X (.BoolOp .And (b::rest) pos) f'):DE X (.BoolOp .And (a::b::rest) pos) (eAnd f f'):=zex (zbmd ha hb) fun τ H Q hq0=>by
 obtain⟨ρ,σ,st,v,st',at',rp,e,q⟩:=hq0;obtain⟨x,st1,e1,e⟩:=za e;refine⟨ρ,σ,st,x,st1,at',rp,e1,fun ρ1 H1 u x1 rp1 a1=>?_⟩;cases x<;>try (cases e;done)
 rename_i bb;cases a1;refine⟨bb,rfl,?_⟩;cases bb with
 | true =>
  rw[if_pos rfl];exact⟨ρ1,σ,st1,v,st',at'.ext x1,rp1,e,fun ρ' H' u x2=>q ρ' H' u (x1.trans x2)⟩
 | false =>
  rw[if_neg (by decide)];cases e;exact q _ _ _ x1 rp1 (.bl false)
theorem zbrt (ha:DE X a f):DE X (.UnaryOp .Not a pos) (eNot f):=zex (zbly ha) fun τ H Q hq0=>by
 obtain⟨ρ,σ,st,v,st',at',rp,e,q⟩:=hq0;obtain⟨x,st1,e1,e⟩:=za e;refine⟨ρ,σ,st,x,st1,at',rp,e1,fun ρ1 H1 u x1 rp1 a1=>?_⟩;cases x<;>try (cases e;done)
 rename_i bb;cases a1;cases e;exact⟨bb,rfl,q _ _ _ x1 rp1 (.bl _)⟩
theorem zbnq {op}(h:DT X a t)(hop:op=.And\/op=.Or):DW X (.BoolOp op [a] pos) t:=by
 rcases hop with rfl | rfl
 ·exact pw_and1 h
 ·exact pw_or1 h
theorem zbnr (ha:DT X a t)(hb:DW X (.BoolOp .And (b::rest) pos) t'):DW X (.BoolOp .And (a::b::rest) pos) (bAnd t t'):=pw_to (pw_and ha hb) fun τ H Q hq0=>by
 obtain⟨ρ,σ,st,v,st',at',rp,e,q⟩:=hq0;obtain⟨x,st1,e1,e⟩:=za e;refine⟨ρ,σ,st,x,st1,at',rp,e1,fun ρ1 H1 x1 rp1=>?_⟩;cases x with
 | true=>exact iteT ⟨ρ1,σ,st1,v,st',at'.ext x1,rp1,e,fun ρ' H' x2=>q ρ' H' (x1.trans x2)⟩
 | false=>cases e;exact iteF (q _ _ x1 rp1)
theorem zbrl (ha:DT X a t)(hb:DW X (.BoolOp .Or (b::rest) pos) t'):DW X (.BoolOp .Or (a::b::rest) pos) (bOr t t'):=pw_to (pw_or ha hb) fun τ H Q hq0=>by
 obtain⟨ρ,σ,st,v,st',at',rp,e,q⟩:=hq0;obtain⟨x,st1,e1,e⟩:=za e;refine⟨ρ,σ,st,x,st1,at',rp,e1,fun ρ1 H1 x1 rp1=>?_⟩;cases x with
 | false=>exact iteF ⟨ρ1,σ,st1,v,st',at'.ext x1,rp1,e,fun ρ' H' x2=>q ρ' H' (x1.trans x2)⟩
 | true=>cases e;exact iteT (q _ _ x1 rp1)
theorem zbnt (ha:DT X a t):DT X (.UnaryOp .Not a pos) (bNot t):=zbkk (zblk ha) fun τ H Q hq0=>by
 obtain⟨ρ,σ,st,v,st',at',rp,e,q⟩:=hq0;obtain⟨x,st1,e1,e⟩:=za e;cases e;exact⟨ρ,σ,st,x,_,at',rp,e1,fun ρ1 H1 x1 rp1=>q _ _ x1 rp1⟩
theorem d_if {c:Expr}(hc:DT X c t)(ha:DE X a f)(hb:DE X b f'):DE X (.IfExp c a b pos) (eIf t f f'):=zex (zbbo hc ha hb) fun τ H Q hq0=>by
 obtain⟨ρ,σ,st,v,st',at',rp,e,q⟩:=hq0;obtain⟨x,st1,e1,e⟩:=za e;refine⟨ρ,σ,st,x,st1,at',rp,e1,fun ρ1 H1 x1 rp1=>?_⟩;cases x with
 | true=>exact iteT ⟨ρ1,σ,st1,v,st',at'.ext x1,rp1,e,fun ρ' H' u x2=>q ρ' H' u (x1.trans x2)⟩
 | false=>exact iteF ⟨ρ1,σ,st1,v,st',at'.ext x1,rp1,e,fun ρ' H' u x2=>q ρ' H' u (x1.trans x2)⟩
end
noncomputable def aC:SA:=fun _ st=>.ok [] st
noncomputable def aB (f:SE) (g:SA):SA:=fun σ st=>(f σ st).bind fun x st1=>(g σ st1).bind fun xs st2=>.ok (x::xs) st2
noncomputable def aR (g:SA):SE:=fun σ st=>(g σ st).bind fun xs st1=>if xs.length<=sizeLine then .ok (.tup xs) st1 else .stuck
noncomputable def eLst (g:SA):SE:=fun σ st=>(g σ st).bind fun xs st1=>if xs.length<=sizeLine then .ok (.lst xs) st1 else .stuck
noncomputable def eLstM (g:SA):SE:=fun σ st=>(g σ st).bind fun xs st1=>if xs.length<=sizeLine then .ok (.ref st1.length) (st1++[.lst xs]) else .stuck
section
variable {X:Cx}{e:Expr}{es:List Expr}{f:SE}{g:SA}{pos:Pos}
theorem zbod:DA X [] aC:=zbpv zbgt fun τ H Q hq0=>by
 obtain⟨ρ,σ,st,v,st',a,rp,e,q⟩:=hq0;cases e;exact q _ _ _ (.refl _ _) rp .nil
theorem zbjh (ha:DE X e f)(hr:DA X es g)(hs:starEach (e::es) X.env=(false,eval e X.env)::starEach es X.env:=by rfl):DA X (e::es) (aB f g):=zbpv (zyu ha hr hs) fun τ H Q hq0=>by
 obtain⟨ρ,σ,st,v,st',a,rp,e,q⟩:=hq0;obtain⟨x,st1,e1,e⟩:=za e;obtain⟨y,st2,e2,e⟩:=za e;cases e;refine⟨ρ,σ,st,x,st1,a,rp,e1,fun ρ1 H1 u x1 rp1 a1=>?_⟩;exact⟨ρ1,σ,st1,y,_,a.ext x1,rp1,e2,fun ρ2 H2 w x2 rp2 a2=>q _ _ _ (x1.trans x2) rp2 (.cons (a1.ext x2) a2)⟩
theorem zbrp {x1}(h:DA X es g):DE X (.Tuple es x1 pos) (aR g):=zex (zblv h) fun τ H Q hq0=>by
 obtain⟨ρ,σ,st,v,st',a,rp,e,q⟩:=hq0;obtain⟨x,st1,e1,e⟩:=za e;split at e
 ·rename_i hl;cases e;refine⟨ρ,σ,st,x,_,a,rp,e1,fun ρ1 H1 u x1 rp1 a1=>⟨by rw[a1.length];exact hl,fun p hp=>?_⟩⟩;exact q ρ1 _ _ (x1.trans (Ext.new hp _)) (rp1.new hp _) (.newT rp1 hp a1)
 ·cases e
theorem zbrv (h:DA X es g):DE X (.List es pos) (eLst g):=zex (zbgo h) fun τ H Q hq0=>by
 obtain⟨ρ,σ,st,v,st',a,rp,e,q⟩:=hq0;obtain⟨x,st1,e1,e⟩:=za e;split at e
 ·rename_i hl;cases e;refine⟨ρ,σ,st,x,_,a,rp,e1,fun ρ1 H1 u x1 rp1 a1=>⟨by rw[a1.length];exact hl,fun p hp=>?_⟩⟩;exact q ρ1 _ _ (x1.trans (Ext.new hp _)) (rp1.new hp _) (.newL rp1 hp a1)
 ·cases e
theorem At.last {K:Fg}{ρ:Loc}{H:Hp}{p:Addr}{n:Nat}(h:n=ρ.m.length):At K ⟨ρ.m++[some p],ρ.g⟩ H (.ref n) (.ref p):=by
 subst h;refine .ref (by simp) fun a e=>?_
 simp at e;rw[e]
theorem zbof (h:DA X es g):DE X (.List es pos) (eLstM g):=zex (zbgo h) fun τ H Q hq0=>by
 obtain⟨ρ,σ,st,v,st',a,rp,e,q⟩:=hq0;obtain⟨x,st1,e1,e⟩:=za e;split at e
 ·rename_i hl;cases e;refine⟨ρ,σ,st,x,_,a,rp,e1,fun ρ1 H1 u x1 rp1 a1=>⟨by rw[a1.length];exact hl,fun p hp=>?_⟩⟩;obtain⟨E,R⟩:=rp1.alloc hp (x:=.lst x) (o:=.lst u) fun E=>⟨u,zr,a1.ext E⟩
  exact q _ _ _ (x1.trans E) R (.last rp1.len.symm)
 ·cases e
end
noncomputable def asL (st:Store):D->Option (List D)
 | .lst xs=>some xs
 | .ref n=>match st[n]? with
  | some (.lst xs)=>some xs
  | _=>none
 | _=>none
section
variable {K:Fg}{ρ:Loc}{st:Store}{H:Hp}{d:D}{u:V}{xs:List D}
theorem zdt (rp:Rep K ρ st H){n:Nat}{o:O}(a:At K ρ H (.ref n) u)(e:st[n]?=some o)(hd:o≠.dead):∃p,u=.ref p/\ρ.m[n]?=some (some p)/\OAt K ρ H o p:=by
 cases a with
 | ref h1 h2 =>
  obtain⟨p,hp⟩:=rp.live n o e hd;exact⟨p,h2 p hp,hp,rp.obj n p o hp e⟩
theorem zgf (rp:Rep K ρ st H)(a:At K ρ H d u)(e:asL st d=some xs):∃p vs,u=.ref p/\H p=some (.lst vs)/\AtAll K ρ H xs vs:=by
 cases d<;>try (cases e;done)
 ·rename_i n;unfold asL at e;dsimp only at e;split at e
  ·rename_i ys hys;cases e;obtain⟨p,rfl,hp,vs,q1,q2⟩:=zdt rp a hys (by intro z;cases z);exact⟨p,vs,rfl,q1,q2⟩
  ·cases e
 ·cases e;cases a with
  | lst h1 h2 h3=>exact⟨_,_,rfl,h1,h3⟩
end
noncomputable def oI (C:Int->Int->Prop) [DecidableRel C] (h:Int->Int->D) (x y:D) (st:Store):Res D:=match x,y with
 | .int i,.int j=>if C i j then .ok (h i j) st else .stuck
 | _,_=>.stuck
theorem oI_D {K:Fg}{C:Int->Int->Prop}[DecidableRel C]{h:Int->Int->D}{g:Int->Int->V}(k:∀i j ρ H,At K ρ H (h i j) (g i j)):OpD K (oI C h) (rI C g):=fun ρ H st x y u v z st' Q rp a b e q=>by
 unfold oI at e;split at e
 ·cases a;cases b;split at e
  ·rename_i hc;cases e;exact⟨_,_,rfl,rfl,hc,q _ _ _ (.refl _ _) rp (k _ _ _ _)⟩
  ·cases e
 ·cases e
theorem zfq {K:Fg}{h:Int->Int->D}{g:Int->Int->V}(k:∀i j ρ H,At K ρ H (h i j) (g i j)):OpD K (oI (fun _ _=>True) h) (rI0 g):=fun ρ H st x y u v z st' Q rp a b e q=>by
 obtain⟨i,j,e1,e2,_,e3⟩:=oI_D (C:=fun _ _=>True) k ρ H st x y u v z st' Q rp a b e q;exact⟨i,j,e1,e2,e3⟩
noncomputable instance:DecidableRel CMul:=fun i j=>by unfold CMul;infer_instance
noncomputable instance:DecidableRel CDivP:=fun i j=>by unfold CDivP;infer_instance
noncomputable instance:DecidableRel CPow:=fun i j=>by unfold CPow;infer_instance
noncomputable abbrev oSub:=oI (fun _ _=>True) fun i j=>.int (i - j)
noncomputable abbrev oFdiv:=oI CDivP fun i j=>.int (i / j)
noncomputable abbrev oMod:=oI (fun _ j=>0 < j) fun i j=>.int (i % j)
noncomputable abbrev oAndI:=oI (fun _ _=>True) fun i j=>.int (Builtin.bitAnd i j)
noncomputable abbrev oPow:=oI CPow fun i j=>.int (i ^ j.toNat)
noncomputable abbrev oShl:=oI CPow fun i j=>.int (i * 2 ^ j.toNat)
noncomputable abbrev oShr:=oI (fun _ j=>0<=j) fun i j=>.int (i / 2 ^ j.toNat)
noncomputable abbrev oMulI:=oI CMul fun i j=>.int (i * j)
noncomputable def aM (x y:D) (st:Store):Res D:=match x,y with
 | .int i,.int j=>.ok (.int (i+j)) st
 | .tup a,.tup b=>if a.length+b.length<=sizeLine then .ok (.tup (a++b)) st else .stuck
 | .str a,.str b=>if a.length+b.length<=sizeLine then .ok (.str (a++b)) st else .stuck
 | x,y=>match asL st x,asL st y with
  | some a,some b=>if a.length+b.length<=sizeLine then .ok (.lst (a++b)) st else .stuck
  | _,_=>.stuck
noncomputable abbrev rAddA (K:Fg):R2:=fun x y H Q=>rI0 (fun i j=>.int (i+j)) x y H Q\/rCatA K x y H Q\/(∃i j,x=.str i/\y=.str j/\i.length+j.length<=sizeLine/\Q (.str (i++j)) H)\/rCat x y H Q
section
variable {X:Cx}
theorem zsy:OpR X (binaryOp .Add) (rAddA X.K):=zbmk.or (zbhc.or (zsx.or zbmj))
theorem zbca {K:Fg}:OpD K aM (rAddA K):=fun ρ H st x y u v z st' Q rp a b e q=>by
 unfold aM at e;split at e
 ·cases a;cases b;cases e;exact .inl ⟨_,_,rfl,rfl,q _ _ _ (.refl _ _) rp (.int _)⟩
 ·rename_i ds es;split at e
  ·rename_i hl;cases e;refine .inr (.inl ?_);cases a with
   | tup h1 h2 h3 =>
    cases b with
    | tup k1 k2 k3 =>
     refine⟨_,_,_,_,rfl,rfl,SqT.of h1,SqT.of k1,by rw[h3.length,k3.length];exact hl,fun z=>?_,fun z1 z2=>?_,fun z1 z2 p hp=>?_⟩
     ·subst z;cases h3;exact q _ _ _ (.refl _ _) rp (.tup k1 k2 k3)
     ·subst z2;cases k3;rw[xdd] at q;exact q _ _ _ (.refl _ _) rp (.tup h1 h2 h3)
     ·exact q _ _ _ (Ext.new hp _) (rp.new hp _) (.newT rp hp (h3.append k3))
  ·cases e
 ·split at e
  ·rename_i hl;cases a;cases b;cases e;exact .inr (.inr (.inl ⟨_,_,rfl,rfl,hl,q _ _ _ (.refl _ _) rp (.str _)⟩))
  ·cases e
 ·split at e
  ·rename_i h1 h2;split at e
   ·rename_i hl;cases e;obtain⟨p,vs,rfl,g1,g2⟩:=zgf rp a h1;obtain⟨p',ws,rfl,k1,k2⟩:=zgf rp b h2;exact .inr (.inr (.inr ⟨_,_,_,_,rfl,rfl,g1,k1,by rw[g2.length,k2.length];exact hl,fun t ht=>q _ _ _ (Ext.new ht _) (rp.new ht _) (.newL rp ht (g2.append k2))⟩))
   ·cases e
  ·cases e
end
noncomputable abbrev oLe:=oI (fun _ _=>True) fun i j=>.bl (decide (i<=j))
noncomputable abbrev oGt:=oI (fun _ _=>True) fun i j=>.bl (decide (j < i))
noncomputable abbrev oGe:=oI (fun _ _=>True) fun i j=>.bl (decide (j<=i))
mutual
noncomputable def toData:D->Option PyData
 | .non=>some .none
 | .bl b=>some (.bool b)
 | .int i=>some (.int i)
 | .str x=>some (.str x)
 | .tup ds=>(toDatas ds).map .tuple
 | .lst ds=>(toDatas ds).map .list
 | _=>none
noncomputable def toDatas:List D->Option (List PyData)
 | []=>some []
 | d::ds=>(toData d).bind fun x=>(toDatas ds).map fun xs=>x::xs
end
mutual
theorem zzz {K:Fg}{ρ:Loc}{H:Hp}:∀{d:D} {v:V} {p:PyData},At K ρ H d v->toData d=some p->DAt K H v p
 | _,_,_,.non,e=>by cases e;exact .non
 | _,_,_,.bl b,e=>by cases e;exact .bl b
 | _,_,_,.int i,e=>by cases e;exact .int i
 | _,_,_,.str x,e=>by cases e;exact .str x
 | _,_,_,.ty n,e=>by cases e
 | _,_,_,.exn _,e=>by cases e
 | _,_,_,.ref _ _,e=>by cases e
 | _,_,_,.tup h _ al,e=>by
  rw[toData] at e;obtain⟨ps,e1,rfl⟩:=xdg.mp e;exact .tup (SqT.of h) (zkg al e1)
 | _,_,_,.lst h _ al,e=>by
  rw[toData] at e;obtain⟨ps,e1,rfl⟩:=xdg.mp e;exact .lst (SqL.of h) (zkg al e1)
 | _,_,_,.scr _ _,e=>by cases e
theorem zkg {K:Fg}{ρ:Loc}{H:Hp}:∀{d:List D} {v:List V} {p:List PyData},AtAll K ρ H d v->toDatas d=some p->DAll K H v p
 | _,_,_,.nil,e=>by cases e;exact .nil
 | _,_,_,.cons a b,e=>by
  rw[toDatas] at e;obtain⟨x,e1,e⟩:=xel.mp e;obtain⟨xs,e2,rfl⟩:=xdg.mp e;exact .cons (zzz a e1) (zkg b e2)
end
noncomputable def now (st:Store) (d:D):D:=match asL st d with
 | some xs=>.lst xs
 | none=>d
noncomputable def dataOf (st:Store) (d:D):Option PyData:=toData (now st d)
theorem zpg {K:Fg}{ρ:Loc}{st:Store}{H:Hp}(rp:Rep K ρ st H){d:D}{u:V}{p:PyData}(a:At K ρ H d u)(e:dataOf st d=some p):DAt K H u p:=by
 unfold dataOf now at e;split at e
 ·rename_i xs hx;obtain⟨q,vs,rfl,h1,h2⟩:=zgf rp a hx;rw[toData] at e;obtain⟨ps,e1,rfl⟩:=xdg.mp e;exact .lst (SqL.of h1) (zkg h2 e1)
 ·exact zzz a e
noncomputable def oEqG (neg:Bool) (x y:D) (st:Store):Res D:=match dataOf st x,dataOf st y with
 | some a,some b=>if PySem.SeqAt.shaped a=true/\PySem.SeqAt.shaped b=true then .ok (.bl (if neg then !PyData.eqv a b else PyData.eqv a b)) st else .stuck
 | _,_=>.stuck
theorem zrc {K:Fg}{neg:Bool}:OpD K (oEqG neg) (rEqX K neg):=fun ρ H st x y u v z st' Q rp a b e q=>by
 unfold oEqG at e;split at e
 ·rename_i p1 p2 h1 h2;split at e
  ·rename_i hs;cases e;exact⟨_,_,zpg rp a h1,zpg rp b h2,hs.1,hs.2,q _ _ _ (.refl _ _) rp (.bl _)⟩
  ·cases e
 ·cases e
noncomputable abbrev oEq:=oEqG false
noncomputable abbrev oNe:=oEqG true
noncomputable def oIsN (neg:Bool) (x y:D) (st:Store):Res D:=match x,y with
 | .ref _,_=>.stuck
 | .non,.non=>.ok (.bl (!neg)) st
 | _,.non=>.ok (.bl neg) st
 | _,_=>.stuck
theorem zbmm {K:Fg}:OpD K (oIsN false) (fun x y H Q=>y=.non/\Q (.bl (decide (x=.non))) H):=fun ρ H st x y u v z st' Q rp a b e q=>by
 unfold oIsN at e;split at e<;>try (cases e;done)
 ·cases a;cases b;cases e
  exact⟨rfl,q _ _ _ (.refl _ _) rp (by simp;exact .bl _)⟩
 ·rename_i h1 h2;cases b;cases e
  refine⟨rfl,q _ _ _ (.refl _ _) rp ?_⟩;have:u≠.non:=by
   rintro rfl;cases a<;>first | exact h2 rfl | exact h1 _ rfl
  rw[xcb this];exact .bl _
noncomputable def asInts:List D->Option (List Int)
 | []=>some []
 | .int i::r=>(asInts r).map (i::·)
 | _::_=>none
theorem zcr {K:Fg}{ρ:Loc}{H:Hp}:∀{ds:List D} {vs:List V} {ns:List Int},AtAll K ρ H ds vs->asInts ds=some ns->vs=ns.map V.int
 | _,_,_,.nil,e=>by cases e;rfl
 | _,_,_,.cons (d:=d) a b,e=>by
  cases d<;>try (cases e;done)
  rw[asInts] at e;obtain⟨ms,e1,rfl⟩:=xdg.mp e;cases a;rw[zcr b e1]
  rfl
noncomputable def oLtT (x y:D) (st:Store):Res D:=match x,y with
 | .int i,.int j=>.ok (.bl (decide (i < j))) st
 | .tup a,.tup b=>match asInts a,asInts b with
  | some ns,some ms=>.ok (.bl (HT.lexLt ns ms)) st
  | _,_=>.stuck
 | _,_=>.stuck
noncomputable abbrev rLtA (K:Fg):R2:=fun x y H Q=>rI0 (fun i j=>.bl (decide (i < j))) x y H Q\/rLtT K x y H Q
theorem zsu {X:Cx}(hu:X.A.units < cLine):OpR X (compareOp .Lt) (rLtA X.K):=zbqw.or (zbmh hu)
theorem ztd {K:Fg}:OpD K oLtT (rLtA K):=fun ρ H st x y u v z st' Q rp a b e q=>by
 unfold oLtT at e;split at e
 ·cases a;cases b;cases e
  exact .inl ⟨_,_,rfl,rfl,q _ _ _ (.refl _ _) rp (.bl _)⟩
 ·split at e
  ·rename_i h1 h2;cases e;cases a with
   | tup g1 g2 g3 =>
    cases b with
    | tup k1 k2 k3 =>
     have e1:=zcr g3 h1;have e2:=zcr k3 h2;subst e1 e2;exact .inr ⟨_,_,_,_,rfl,rfl,SqT.of g1,SqT.of k1,q _ _ _ (.refl _ _) rp (.bl _)⟩
  ·cases e
 ·cases e
noncomputable def seqOf (st:Store):D->Option (List D)
 | .tup xs=>some xs
 | .scr xs=>some xs
 | d=>asL st d
theorem zjl {K:Fg}{ρ:Loc}{st:Store}{H:Hp}(rp:Rep K ρ st H){d:D}{u:V}{xs:List D}(a:At K ρ H d u)(e:seqOf st d=some xs) :
  ∃p vs,u=.ref p/\(SqL K H p vs\/SqT K H p vs)/\AtAll K ρ H xs vs:=by
 unfold seqOf at e;split at e
 ·cases e;cases a with
  | tup h1 h2 h3=>exact⟨_,_,rfl,.inr (SqT.of h1),h3⟩
 ·cases e;cases a with
  | scr h1 h3=>exact⟨_,_,rfl,.inl h1.sq,h3⟩
 ·obtain⟨p,vs,rfl,h1,h2⟩:=zgf rp a e;exact⟨p,vs,rfl,.inl (SqL.of h1),h2⟩
theorem AtAll.atI {K:Fg}{ρ:Loc}{H:Hp}{ds:List D}{vs:List V}{i:Int}{d:D}(h:AtAll K ρ H ds vs)(e:L2.atI ds i=some d):∃v,L2.atI vs i=some v/\At K ρ H d v:=by
 unfold L2.atI at e ⊢;rw[h.length];cases hi:ixN ds.length i with
 | none=>rw[hi] at e;cases e
 | some j =>
  rw[hi] at e;obtain⟨v,e1,e2⟩:=h.get (i:=j) e;exact⟨v,e1,e2⟩
noncomputable def oIx (x y:D) (st:Store):Res D:=match seqOf st x,y with
 | some xs,.int i=>match L2.atI xs i with
  | some v=>.ok v st
  | none=>.stuck
 | _,_=>.stuck
theorem zbra {K:Fg}:OpD K oIx (rIx K):=fun ρ H st x y u v z st' Q rp a b e q=>by
 unfold oIx at e;split at e
 ·rename_i h1;split at e
  ·rename_i w hw;cases e;cases b;obtain⟨p,vs,rfl,h2,h3⟩:=zjl rp a h1;obtain⟨w',e2,a2⟩:=h3.atI hw;rcases h2 with h2 | h2
   ·exact .inl ⟨_,_,_,_,rfl,rfl,h2,e2,q _ _ _ (.refl _ _) rp a2⟩
   ·exact .inr (.inl ⟨_,_,_,_,rfl,rfl,h2,e2,q _ _ _ (.refl _ _) rp a2⟩)
  ·cases e
 ·cases e
noncomputable def cutD (xs:List D) (lo hi:Option Int):List D:=(xs.drop (HT.sIx xs.length 0 lo)).take (HT.sIx xs.length xs.length hi - HT.sIx xs.length 0 lo)
theorem AtAll.cut {K:Fg}{ρ:Loc}{H:Hp}{ds:List D}{vs:List V}(h:AtAll K ρ H ds vs)(lo hi:Option Int):AtAll K ρ H (cutD ds lo hi) (cutV vs lo hi):=by
 unfold cutD cutV;rw[h.length];exact(h.drop _).take _
noncomputable def pNone:DS->Store->Res (Option Int):=fun _ st=>.ok none st
noncomputable def pSome (f:SE):DS->Store->Res (Option Int):=fun σ st=>(f σ st).bind fun v st1=>match v with
 | .int i=>.ok (some i) st1
 | _=>.stuck
noncomputable def eSl (f:SE) (lo hi:DS->Store->Res (Option Int)):SE:=fun σ st=>(f σ st).bind fun x st1=>(lo σ st1).bind fun l st2=>(hi σ st2).bind fun h st3=>match x with
 | .tup xs=>.ok (.tup (cutD xs l h)) st3
 | x=>match asL st3 x with
  | some xs=>.ok (.lst (cutD xs l h)) st3
  | none=>.stuck
noncomputable def tDO (K:Fg) (f:DS->Store->Res (Option Int)):TO:=fun τ H Q=>∃ρ σ st v st',AtS K ρ H σ τ/\Rep K ρ st H/\f σ st=.ok v st'/\∀ρ' H',Ext ρ H ρ' H'->Rep K ρ' st' H'->Q v H'
noncomputable abbrev DO (X:Cx) (e:Option Expr) (f:DS->Store->Res (Option Int)):Prop:=PO X e (tDO X.K f)
section
variable {X:Cx}{a b e:Expr}{f f':SE}{pos:Pos}{lo hi:Option Expr}{l h:DS->Store->Res (Option Int)}
theorem zbpt {t t':TO}{e:Option Expr}(h:PO X e t)(k:∀σ H Q,t' σ H Q->t σ H Q):PO X e t':=fun aU s σ H Q I q=>h aU s σ H Q I (k _ _ _ q)
theorem zbiy:DO X none pNone:=zbpt zbge fun τ H Q hq0=>by
 obtain⟨ρ,σ,st,v,st',a,rp,e,q⟩:=hq0;cases e;exact q _ _ (.refl _ _) rp
theorem zbix (he:DE X e f):DO X (some e) (pSome f):=zbpt (zbgd he) fun τ H Q hq0=>by
 obtain⟨ρ,σ,st,v,st',a,rp,e,q⟩:=hq0;obtain⟨x,st1,e1,e⟩:=za e;refine⟨ρ,σ,st,x,st1,a,rp,e1,fun ρ1 H1 u x1 rp1 a1=>?_⟩;cases x<;>try (cases e;done)
 cases e;cases a1;exact⟨_,rfl,q _ _ x1 rp1⟩
theorem d_ix (ha:DE X a f)(hb:DE X b f')(hs:PlainIx b):DE X (.Subscript a b pos) (aS oIx f f'):=zex (zbqt zbnc ha hb hs) (zbkl zbra)
theorem d_sl {p2:Pos}(he:DE X e f)(hl:DO X lo l)(hu:DO X hi h):DE X (.Subscript e (.Slice lo hi none p2) pos) (eSl f l h):=zex (zbbn (zbfo.or zbfp) he hl hu) fun τ H Q hq0=>by
 obtain⟨ρ,σ,st,v,st',a,rp,e,q⟩:=hq0;obtain⟨x,st1,e1,e⟩:=za e;obtain⟨y,st2,e2,e⟩:=za e;obtain⟨z,st3,e3,e⟩:=za e;refine⟨ρ,σ,st,x,st1,a,rp,e1,fun ρ1 H1 u x1 rp1 a1=>?_⟩;refine⟨ρ1,σ,st1,y,st2,a.ext x1,rp1,e2,fun ρ2 H2 x2 rp2=>?_⟩;refine⟨ρ2,σ,st2,z,st3,a.ext (x1.trans x2),rp2,e3,fun ρ3 H3 x3 rp3=>?_⟩;have a3:=a1.ext (x2.trans x3);have X3:=x1.trans (x2.trans x3);split at e
 ·cases e;refine .inl ?_;cases a3 with
  | tup h1 h2 h3 =>
   refine⟨_,_,rfl,SqT.of h1,fun ec=>?_,fun p hp=>?_⟩
   ·refine q _ _ _ X3 rp3 (.tup h1 h2 ?_);have:=h3.cut y z;rw[ec] at this;exact this
   ·exact q _ _ _ (X3.trans (Ext.new hp _)) (rp3.new hp _) (.newT rp3 hp (h3.cut y z))
 ·split at e
  ·rename_i xs hx;cases e;obtain⟨p,vs,rfl,g1,g2⟩:=zgf rp3 a3 hx;exact .inr ⟨_,_,rfl,SqL.of g1,fun p hp=>q _ _ _ (X3.trans (Ext.new hp _)) (rp3.new hp _) (.newL rp3 hp (g2.cut y z))⟩
  ·cases e
end
end Dd
namespace Dd
open PySem L2
noncomputable def aE (g:List D->Store->Res D) (f:SA):SE:=fun σ st=>(f σ st).bind fun xs st1=>g xs st1
noncomputable def CaD (K:Fg) (g:List D->Store->Res D) (r:List V->Hp->VK->Prop):Prop :=
 ∀ρ H st xs us z st' (Q:VK),Rep K ρ st H->AtAll K ρ H xs us->g xs st=.ok z st'->(∀ρ' H' w,Ext ρ H ρ' H'->Rep K ρ' st' H'->At K ρ' H' z w->Q w H')->r us H Q
theorem zboq {K:Fg}{g:List D->Store->Res D}{r:List V->Hp->VK->Prop}(hr:CaD K g r){f:SA}:∀τ H Q,tD K (aE g f) τ H Q->tCB r (tDA K f) τ H Q:=fun τ H Q hq0=>by
 obtain⟨ρ,σ,st,v,st',a,rp,e,q⟩:=hq0;obtain⟨x,st1,e1,e⟩:=za e;exact⟨ρ,σ,st,x,st1,a,rp,e1,fun ρ1 H1 u x1 rp1 a1=>hr ρ1 H1 st1 x u v st' Q rp1 a1 e fun ρ' H' w x2=>q ρ' H' w (x1.trans x2)⟩
section
variable {X:Cx}{x:Str}{p pos:Pos}{e:Expr}{es:List Expr}{f:SA}{id T:String}{r:List V->Hp->VK->Prop}{g:List D->Store->Res D}
theorem zbjp (hc:CallR X (.builtin id) r)(hr:CaD X.K g r)(hg:Gl X x)(hm:X.mg x=none)(hv:bootBuiltins x=some (.builtin id))(ha:DA X (e::es) f)(hn:x≠"__name__":=by decide)(hdb:(x==("__debug__" : Str))=false:=by decide)
 (he:starEach (e::es) X.env=(false,eval e X.env)::starEach es X.env:=by rfl)(hpl:(backTo pos (starEach es X.env)).any (·.1)=false:=by rfl):DE X (.Call (.Name x p) (e::es) [] pos) (aE g f):=zex (zso hc hg hm hv ha hn hdb he hpl) (zboq hr)
theorem zbdt (hc:CallR X (.type T) r)(hr:CaD X.K g r)(hg:Gl X x)(hm:X.mg x=none)(hv:bootBuiltins x=some (.type T))(ha:DA X (e::es) f)(hn:x≠"__name__":=by decide)(hdb:(x==("__debug__" : Str))=false:=by decide)
 (he:starEach (e::es) X.env=(false,eval e X.env)::starEach es X.env:=by rfl)(hpl:(backTo pos (starEach es X.env)).any (·.1)=false:=by rfl):DE X (.Call (.Name x p) (e::es) [] pos) (aE g f):=zex (zop hc hg hm hv ha hn hdb he hpl) (zboq hr)
end
theorem AtAll.one {K:Fg}{ρ:Loc}{H:Hp}{d:D}{us:List V}(h:AtAll K ρ H [d] us):∃u,us=[u]/\At K ρ H d u:=by
 cases h with
 | cons a b=>cases b;exact⟨_,rfl,a⟩
theorem AtAll.two {K:Fg}{ρ:Loc}{H:Hp}{d e:D}{us:List V}(h:AtAll K ρ H [d,e] us):∃u v,us=[u,v]/\At K ρ H d u/\At K ρ H e v:=by
 cases h with
 | cons a b =>
  obtain⟨v,rfl,c⟩:=b.one;exact⟨_,_,rfl,a,c⟩
noncomputable def bLen:List D->Store->Res D:=fun xs st=>match xs with
 | [x]=>match seqOf st x with
  | some ys=>.ok (.int ys.length) st
  | none=>.stuck
 | _=>.stuck
theorem znv {K:Fg}:CaD K bLen (fun xs H Q=>∃p ys,xs=[.ref p]/\(SqL K H p ys\/SqT K H p ys)/\Q (.int ys.length) H):=fun ρ H st xs us z st' Q rp aa e q=>by
 unfold bLen at e;split at e
 ·split at e
  ·rename_i h;cases e;obtain⟨u,rfl,a⟩:=aa.one;obtain⟨p,vs,rfl,h1,h2⟩:=zjl rp a h;refine⟨p,vs,rfl,h1,?_⟩;rw[h2.length];exact q _ _ _ (.refl _ _) rp (.int _)
  ·cases e
 ·cases e
noncomputable def bAbs:List D->Store->Res D:=fun xs st=>match xs with
 | [.int i]=>.ok (.int (if i < 0 then -i else i)) st
 | _=>.stuck
theorem zbph {K:Fg}:CaD K bAbs (fun xs H Q=>∃i,xs=[.int i]/\Q (.int (if i < 0 then -i else i)) H):=fun ρ H st xs us z st' Q rp aa e q=>by
 unfold bAbs at e;split at e
 ·cases e;obtain⟨u,rfl,a⟩:=aa.one;cases a;exact⟨_,rfl,q _ _ _ (.refl _ _) rp (.int _)⟩
 ·cases e
noncomputable def b2I (g:Int->Int->Int):List D->Store->Res D:=fun xs st=>match xs with
 | [.int i,.int j]=>.ok (.int (g i j)) st
 | _=>.stuck
theorem zbkq {K:Fg}{g:Int->Int->Int}:CaD K (b2I g) (fun xs H Q=>∃i j,xs=[.int i,.int j]/\Q (.int (g i j)) H):=fun ρ H st xs us z st' Q rp aa e q=>by
 unfold b2I at e;split at e
 ·cases e;obtain⟨u,v,rfl,a,b⟩:=aa.two;cases a;cases b;exact⟨_,_,rfl,q _ _ _ (.refl _ _) rp (.int _)⟩
 ·cases e
noncomputable abbrev bMin2:=b2I fun i j=>if j < i then j else i
noncomputable abbrev bMax2:=b2I fun i j=>if j > i then j else i
noncomputable def bSum:List D->Store->Res D:=fun xs st=>match xs with
 | [x]=>match (seqOf st x).bind asInts with
  | some ns=>.ok (.int ns.sum) st
  | none=>.stuck
 | _=>.stuck
theorem zbef {K:Fg}:CaD K bSum (rSum K):=fun ρ H st xs us z st' Q rp aa e q=>by
 unfold bSum at e;split at e
 ·split at e
  ·rename_i ns h;cases e;obtain⟨ys,h0,h⟩:=xel.mp h;obtain⟨u,rfl,a⟩:=aa.one;obtain⟨p,vs,rfl,h1,h2⟩:=zjl rp a h0;have e:=zcr h2 h;subst e;exact⟨p,ns,rfl,h1,q _ _ _ (.refl _ _) rp (.int _)⟩
  ·cases e
 ·cases e
noncomputable def asBools:List D->Option (List Bool)
 | []=>some []
 | .bl i::r=>(asBools r).map (i::·)
 | _::_=>none
theorem zly {K:Fg}{ρ:Loc}{H:Hp}:∀{ds:List D} {vs:List V} {ns:List Bool},AtAll K ρ H ds vs->asBools ds=some ns->vs=ns.map V.bl
 | _,_,_,.nil,e=>by cases e;rfl
 | _,_,_,.cons (d:=d) a b,e=>by
  cases d<;>try (cases e;done)
  rw[asBools] at e;obtain⟨ms,e1,rfl⟩:=xdg.mp e;cases a;rw[zly b e1]
  rfl
noncomputable def bAny (al:Bool):List D->Store->Res D:=fun xs st=>match xs with
 | [x]=>match (asL st x).bind asBools with
  | some bs=>.ok (.bl (if al then bs.all id else bs.any id)) st
  | none=>.stuck
 | _=>.stuck
theorem zbpf {K:Fg}{al:Bool}:CaD K (bAny al) (rAny K al):=fun ρ H st xs us z st' Q rp aa e q=>by
 unfold bAny at e;split at e
 ·split at e
  ·rename_i ns h;cases e;obtain⟨ys,h0,h⟩:=xel.mp h;obtain⟨u,rfl,a⟩:=aa.one;obtain⟨p,vs,rfl,h1,h2⟩:=zgf rp a h0;have e:=zly h2 h;subst e;exact⟨p,ns,rfl,SqL.of h1,q _ _ _ (.refl _ _) rp (.bl _)⟩
  ·cases e
 ·cases e
noncomputable def tyName (st:Store):D->Option String
 | .non=>some "NoneType"
 | .bl _=>some "bool"
 | .int _=>some "int"
 | .str _=>some "str"
 | .tup _=>some "tuple"
 | .lst _=>some "list"
 | .ref n=>match st[n]? with
  | some (.lst _)=>some "list"
  | some (.dT _)=>some "dict"
  | _=>none
 | _=>none
noncomputable def isTy (t T:String):Bool:=t==T||(t=="bool"&&T=="int")
noncomputable def bIsinst:List D->Store->Res D:=fun xs st=>match xs with
 | [x,.ty T]=>match tyName st x with
  | some t=>if["int", "bool", "str", "tuple", "list", "dict"].contains T=true then .ok (.bl (isTy t T)) st else .stuck
  | none=>.stuck
 | _=>.stuck
theorem zvu {K:Fg}{ρ:Loc}{st:Store}{H:Hp}(rp:Rep K ρ st H){d:D}{u:V}{t:String}(a:At K ρ H d u)(e:tyName st d=some t):TyOf K H u (.type t)/\t∈["NoneType", "bool", "int", "str", "tuple", "list", "dict"]:=by
 cases d<;>try (cases e;done)
 ·cases e;cases a;exact⟨.non,by simp⟩
 ·cases e;cases a;exact⟨.bl _,by simp⟩
 ·cases e;cases a;exact⟨.int _,by simp⟩
 ·cases e;cases a;exact⟨.str _,by simp⟩
 ·unfold tyName at e;dsimp only at e;split at e
  ·rename_i h;cases e;obtain⟨p,rfl,hp,vs,q1,q2⟩:=zdt rp a h (by intro z;cases z);exact⟨.lst q1,by simp⟩
  ·rename_i h;cases e;obtain⟨p,rfl,hp,vs,q1,q2⟩:=zdt rp a h (by intro z;cases z);exact⟨.dT q1,by simp⟩
  ·cases e
 ·cases e;cases a with
  | tup h1 h2 h3=>exact⟨.tup h1,by simp⟩
 ·cases e;cases a with
  | lst h1 h2 h3=>exact⟨.lst h1,by simp⟩
theorem zbmv {K:Fg}{t T:String}(ht:t∈["NoneType", "bool", "int", "str", "tuple", "list", "dict"])(hT:T∈["int", "bool", "str", "tuple", "list", "dict"]):W.kitOne K (.type t) (.type T)=some (isTy t T):=by
 simp only[xbp,xmq,or_false] at ht hT;rcases ht with rfl | rfl | rfl | rfl | rfl | rfl | rfl<;>rcases hT with rfl | rfl | rfl | rfl | rfl | rfl<;>rfl
theorem zgw {K:Fg}:CaD K bIsinst (fun xs H Q=>∃x T t b,xs=[x,.ty T]/\TyOf K H x t/\W.kitOne K t (.type T)=some b/\Q (.bl b) H):=fun ρ H st xs us z st' Q rp aa e q=>by
 unfold bIsinst at e;split at e
 ·split at e
  ·rename_i h;split at e
   ·rename_i hT;cases e;obtain⟨u,v,rfl,a,b⟩:=aa.two;cases b;obtain⟨h1,h2⟩:=zvu rp a h;exact⟨_,_,_,_,rfl,h1,zbmv h2 (by simpa using hT),q _ _ _ (.refl _ _) rp (.bl _)⟩
   ·cases e
  ·cases e
 ·cases e
noncomputable def bTuple:List D->Store->Res D:=fun xs st=>match xs with
 | [.tup ys]=>.ok (.tup ys) st
 | [x]=>match asL st x with
  | some ys=>.ok (.tup ys) st
  | none=>.stuck
 | _=>.stuck
theorem zge {K:Fg}:CaD K bTuple (fun xs H Q=>∃p ys,xs=[.ref p]/\((SqL K H p ys/\∀l,H l=none->Q (.ref l) (upd H l (.tup ys)))\/(SqT K H p ys/\Q (.ref p) H))):=fun ρ H st xs us z st' Q rp aa e q=>by
 unfold bTuple at e;split at e
 ·cases e;obtain⟨u,rfl,a⟩:=aa.one;cases a with
  | tup h1 h2 h3=>exact⟨_,_,rfl,.inr ⟨SqT.of h1,q _ _ _ (.refl _ _) rp (.tup h1 h2 h3)⟩⟩
 ·split at e
  ·rename_i h;cases e;obtain⟨u,rfl,a⟩:=aa.one;obtain⟨p,vs,rfl,h1,h2⟩:=zgf rp a h;exact⟨_,_,rfl,.inl ⟨SqL.of h1,fun l hl=>q _ _ _ (Ext.new hl _) (rp.new hl _) (.newT rp hl h2)⟩⟩
  ·cases e
 ·cases e
noncomputable def bList:List D->Store->Res D:=fun xs st=>match xs with
 | [x]=>match seqOf st x with
  | some ys=>.ok (.lst ys) st
  | none=>.stuck
 | _=>.stuck
noncomputable abbrev aL (ns:List Int):D:=.tup (ns.map .int)
noncomputable abbrev aJ (l:List (List Int)):List D:=l.map aL
noncomputable def insR (a:List Int):List (List Int)->List (List Int)
 | []=>[a]
 | b::r=>if HT.lexLt b a=true then b::insR a r else a::b::r
noncomputable def sortR:List (List Int)->List (List Int)
 | []=>[]
 | a::r=>insR a (sortR r)
noncomputable abbrev UpR (l:List (List Int)):Prop:=l.Pairwise fun a b=>HT.lexLt b a=false
theorem zkb (a:List Int):∀l,(insR a l).Perm (a::l)
 | []=>.refl _
 | b::r=>by
  unfold insR;split
  ·exact(List.Perm.cons b (zkb a r)).trans (.swap a b r)
  ·exact .refl _
theorem zcj:∀l,(sortR l).Perm l
 | []=>.refl _
 | a::r=>(zkb a _).trans (.cons a (zcj r))
theorem zna {a b c:List Int}(h1:HT.lexLt b a=false)(h2:HT.lexLt c b=false):HT.lexLt c a=false:=by
 cases h:HT.lexLt c a with
 | false=>rfl
 | true =>
  rcases Srt.zou a b with z | z | z
  ·have:=Srt.zgt h z;rw[h2] at this;cases this
  ·subst z;rw[h2] at h;cases h
  ·rw[h1] at z;cases z
theorem zzg (a:List Int):∀l,UpR l->UpR (insR a l)
 | [],_=>xjy _ _
 | b::r,h=>by
  obtain⟨h1,h2⟩:=xgh.mp h;unfold insR;split
  ·rename_i c;refine xgh.mpr ⟨fun x hx=>?_,zzg a r h2⟩;rcases xbp.mp ((zkb a r).mem_iff.mp hx) with rfl | hx
   ·exact Srt.zxd c
   ·exact h1 x hx
  ·rename_i c;have c':HT.lexLt b a=false:=by simpa using c
   refine xgh.mpr ⟨fun x hx=>?_,h⟩;rcases xbp.mp hx with rfl | hx
   ·exact c'
   ·exact zna c' (h1 x hx)
theorem zmh:∀l,UpR (sortR l)
 | []=>.nil
 | a::r=>zzg a _ (zmh r)
theorem zoe:∀{l m:List (List Int)},l.Perm m->UpR l->UpR m->l=m
 | [],m,p,_,_=>by rw[List.nil_perm.mp p]
 | a::l,[],p,_,_=>by cases List.perm_nil.mp p
 | a::l,b::m,p,h1,h2=>by
  obtain⟨p1,p2⟩:=xgh.mp h1;obtain⟨q1,q2⟩:=xgh.mp h2;have e:a=b:=by
   rcases xbp.mp (p.mem_iff.mp xbn) with z | z
   ·exact z
   ·rcases xbp.mp (p.mem_iff.mpr (xbn (a:=b) (l:=m))) with y | y
    ·exact y.symm
    ·have e1:=q1 a z;have e2:=p1 b y;rcases Srt.zou a b with w | w | w
     ·rw[e1] at w;cases w
     ·exact w
     ·rw[e2] at w;cases w
  subst e;rw[zoe (List.Perm.cons_inv p) p2 q2]
theorem zmi {l m:List (List Int)}(p:m.Perm l)(h:UpR m):m=sortR l:=zoe (p.trans (zcj l).symm) h (zmh l)
theorem zmj (l:List (List Int)):(sortR l).length=l.length:=(zcj l).length_eq
noncomputable def asRows:List D->Option (List (List Int))
 | []=>some []
 | .tup ds::r=>(asInts ds).bind fun ns=>(asRows r).map (ns::·)
 | _::_=>none
theorem zpu {K:Fg}{ρ:Loc}{H:Hp}:∀{ds:List D} {vs:List V} {l:List (List Int)},AtAll K ρ H ds vs->asRows ds=some l ->
  ∃ps:List (Addr×List Int),vs=ps.map (fun p=>V.ref p.1)/\ps.map (·.2)=l/\∀p∈ps,H p.1=some (.tup (p.2.map V.int))/\Out ρ p.1
 | _,_,_,.nil,e=>by cases e;exact⟨[],rfl,rfl,fun _ h=>nomatch h⟩
 | _,_,_,.cons (d:=d) a b,e=>by
  cases d<;>try (cases e;done)
  rw[asRows] at e;obtain⟨ns,e1,e⟩:=xel.mp e;obtain⟨l,e2,rfl⟩:=xdg.mp e;obtain⟨ps,h1,h2,h3⟩:=zpu b e2;cases a with
  | tup g1 g2 g3 =>
   rename_i ad ws;have ew:=zcr g3 e1;subst ew;refine⟨(ad,ns)::ps,by rw[h1];rfl,by rw[← h2];rfl,fun p hp=>?_⟩;rcases xbp.mp hp with rfl | hp
   ·exact⟨g1,g2⟩
   ·exact h3 p hp
theorem zgc {K:Fg}{ρ:Loc}{H:Hp}:∀ns:List Int,AtAll K ρ H (ns.map .int) (ns.map V.int)
 | []=>.nil
 | n::ns=>.cons (.int n) (zgc ns)
theorem zmm {K:Fg}{ρ:Loc}{H:Hp}:∀ps:List (Addr×List Int),(∀p∈ps,H p.1=some (.tup (p.2.map V.int))/\Out ρ p.1)->AtAll K ρ H (aJ (ps.map (·.2))) (ps.map fun p=>V.ref p.1)
 | [],_=>.nil
 | p::ps,h=>.cons (.tup (h p xbn).1 (h p xbn).2 (zgc _)) (zmm ps fun q hq=>h q (xbk _ hq))
theorem zor {K:Fg}{ρ:Loc}{st:Store}{H:Hp}(r:Rep K ρ st H){p:Addr}{vs:List V}(hp:H p=some (.tup vs)):Out ρ p:=by
 refine⟨fun z=>?_,fun z=>?_⟩
 ·obtain⟨i,hi,e⟩:=xeh z;obtain⟨x,_,q⟩:=r.has (n:=i) (a:=p) (by rw[xbd hi,e]);cases x with
  | lst xs=>obtain⟨_,e,_⟩:=q;rw[hp] at e;cases e
  | dT kvs=>obtain⟨_,e,_⟩:=q;rw[hp] at e;cases e
  | fT kvs=>obtain⟨_,_,e,_⟩:=q;rw[hp] at e;cases e
  | dI kvs=>obtain⟨_,e,_⟩:=q;rw[hp] at e;cases e
  | dead=>exact q
  | tab=>obtain⟨_,_,e,_⟩:=q;rw[hp] at e;cases e
 ·obtain⟨⟨u,hu⟩,_⟩:=r.gh p z;rw[hp] at hu;cases hu
noncomputable def valD (kvs:List (List Int×D)) (k:List Int):Option D:=(kvs.find? fun kv=>decide (kv.1=k)).map (·.2)
noncomputable def putD (kvs:List (List Int×D)) (k:List Int) (v:D):List (List Int×D) :=
 if(kvs.any fun kv=>decide (kv.1=k))=true then kvs.map (fun kv=>if kv.1=k then(kv.1,v) else kv) else kvs++[(k,v)]
noncomputable def dropD (kvs:List (List Int×D)) (k:List Int):List (List Int×D):=kvs.filter fun kv=>decide (kv.1≠k)
theorem zoy {a b:List Int}:a.map (Sum.inl:Int->Key)=b.map Sum.inl↔a=b:=by
 constructor
 ·intro h;exact(List.map_inj_right (f:=(Sum.inl:Int->Key)) fun x y e=>Sum.inl.inj e).mp h
 ·rintro rfl;rfl
section
variable {K:Fg}{ρ:Loc}{H:Hp}{kvs:List (List Int×D)}{vs:List (List Key×V)}
theorem KvAt.val (h:KvAt K ρ H kvs vs)(k:List Int):match valD kvs k with
  | some d=>∃v,valV vs (k.map Sum.inl)=some v/\At K ρ H d v
  | none=>valV vs (k.map Sum.inl)=none:=by
 induction h with
 | nil=>rfl
 | @cons p q ps qs h t ih =>
  obtain⟨h1,h2⟩:=h;by_cases e:p.1=k
  ·have e1:valD (p::ps) k=some p.2:=by simp[valD,xdj,e]
   rw[e1];exact⟨q.2,zhb (by rw[h1,e]),h2⟩
  ·have e1:valD (p::ps) k=valD ps k:=by simp[valD,xdj,e]
   have e2:valV (q::qs) (k.map Sum.inl)=valV qs (k.map Sum.inl):=zhc (by rw[h1,zoy];exact e);rw[e1,e2];exact ih
theorem KvAt.keys (h:KvAt K ρ H kvs vs):vs.map (·.1)=(kvs.map (·.1)).map fun ns=>ns.map Sum.inl:=by
 induction h with
 | nil=>rfl
 | @cons p q ps qs h t ih=>rw[xbt,xbt,xbt,ih,h.1]
theorem KvAt.put (h:KvAt K ρ H kvs vs)(k:List Int){d:D}{v:V}(a:At K ρ H d v):KvAt K ρ H (putD kvs k d) (putK vs (k.map Sum.inl) v):=by
 have any:∀{kvs:List (List Int×D)} {vs:List (List Key×V)},KvAt K ρ H kvs vs->(kvs.any fun kv=>decide (kv.1=k))=(vs.any fun kv=>decide (kv.1=k.map Sum.inl)):=fun h=>by
  induction h with
  | nil=>rfl
  | @cons p q ps qs h t ih =>
   rw[xhj,xhj,ih,h.1]
   congr 1
   simp only[zoy]
 unfold putD putK;rw[any h];split
 ·rename_i hh;clear hh any
  induction h with
  | nil=>exact .nil
  | @cons p q ps qs h t ih =>
   refine .cons ?_ ih;obtain⟨h1,h2⟩:=h;dsimp only;by_cases e:p.1=k
   ·rw[if_pos e,if_pos (by rw[h1,e])];exact⟨h1,a⟩
   ·rw[if_neg e,if_neg (by rw[h1,zoy];exact e)];exact⟨h1,h2⟩
 ·have app:∀{kvs:List (List Int×D)} {vs:List (List Key×V)},KvAt K ρ H kvs vs->KvAt K ρ H (kvs++[(k,d)]) (vs++[(k.map Sum.inl,v)]):=fun h=>by
   induction h with
   | nil=>exact .cons ⟨rfl,a⟩ .nil
   | cons h t ih=>exact .cons h ih
  exact app h
theorem KvAt.drop (h:KvAt K ρ H kvs vs)(k:List Int):KvAt K ρ H (dropD kvs k) (dropK vs (k.map Sum.inl)):=by
 unfold dropD dropK
 induction h with
 | nil=>exact .nil
 | @cons p q ps qs h t ih =>
  by_cases e:p.1=k
  ·rw[xcu (by simp[e]),xcu (by simp[h.1,e])];exact ih
  ·rw[xco (by simp[e]),xco (by simp[h.1,zoy,e])];exact .cons h ih
theorem KvAt.length (h:KvAt K ρ H kvs vs):kvs.length=vs.length:=xhx h
end
noncomputable def pairsOf (st:Store):D->Option (List (List Int×D))
 | .ref n=>match st[n]? with
  | some (.dT kvs)=>some kvs
  | some (.fT kvs)=>some kvs
  | _=>none
 | _=>none
theorem zmo {K:Fg}{ρ:Loc}{st:Store}{H:Hp}(rp:Rep K ρ st H){d:D}{u:V}{kvs:List (List Int×D)}(a:At K ρ H d u)(e:pairsOf st d=some kvs):∃p vs,u=.ref p/\Rd H p (.dT vs)/\KvAt K ρ H kvs vs:=by
 unfold pairsOf at e;split at e
 ·split at e
  ·rename_i h;cases e;obtain⟨p,rfl,hp,vs,q1,q2⟩:=zdt rp a h (by intro z;cases z);exact⟨p,vs,rfl,.inl q1,q2⟩
  ·rename_i h;cases e;obtain⟨p,rfl,hp,vs,ob,q1,q2⟩:=zdt rp a h (by intro z;cases z);exact⟨p,vs,rfl,.inr ⟨ob,q1⟩,q2⟩
  ·cases e
 ·cases e
noncomputable def keyOf:D->Option (List Int)
 | .tup ds=>asInts ds
 | _=>none
theorem zbcq {K:Fg}{ρ:Loc}{H:Hp}{d:D}{u:V}{k:List Int}(a:At K ρ H d u)(e:keyOf d=some k):∃p,u=.ref p/\H p=some (.tup ((k.map (Sum.inl:Int->Key)).map kV)):=by
 unfold keyOf at e;split at e
 ·cases a with
  | tup h1 h2 h3 =>
   have:=zcr h3 e;subst this;exact⟨_,rfl,by rw[zzc];exact h1⟩
 ·cases e
theorem zug {K:Fg}{ρ:Loc}{st:Store}{H:Hp}(rp:Rep K ρ st H){d y:D}{u w:V}{kvs:List (List Int×D)}{k:List Int}(a:At K ρ H d u)(b:At K ρ H y w)(e:pairsOf st d=some kvs)(e2:keyOf y=some k) :
  ∃p o,u=.ref p/\DGet H p w o/\match valD kvs k with
   | some z=>∃v,o=some v/\At K ρ H z v
   | none=>o=none:=by
 obtain⟨p,vs,rfl,h1,h2⟩:=zmo rp a e;obtain⟨q,rfl,h3⟩:=zbcq b e2;refine⟨p,valV vs (k.map Sum.inl),rfl,.inr ⟨vs,_,q,h1,rfl,h3,rfl⟩,?_⟩;have:=h2.val k;cases hv:valD kvs k with
 | none=>rw[hv] at this;exact this
 | some z=>rw[hv] at this;exact this
noncomputable def oDIn (neg:Bool) (y x:D) (st:Store):Res D:=match keyOf y,pairsOf st x with
 | some k,some kvs=>.ok (.bl (if neg then !(valD kvs k).isSome else(valD kvs k).isSome)) st
 | _,_=>.stuck
noncomputable def oDGet (x y:D) (st:Store):Res D:=match pairsOf st x,keyOf y with
 | some kvs,some k=>match valD kvs k with
  | some v=>.ok v st
  | none=>.stuck
 | _,_=>.stuck
noncomputable def eDGet2 (f g h:SE):SE:=fun σ st=>(f σ st).bind fun x st1=>match pairsOf st1 x with
 | some _=>(g σ st1).bind fun y st2=>(h σ st2).bind fun z st3=>match pairsOf st3 x,keyOf y with
  | some kvs,some k=>.ok ((valD kvs k).getD z) st3
  | _,_=>.stuck
 | none=>.stuck
noncomputable def eDPop (f g:SE):SE:=fun σ st=>(f σ st).bind fun x st1=>match pairsOf st1 x with
 | some _=>(g σ st1).bind fun y st2=>match x,keyOf y with
  | .ref n,some k=>match st2[n]? with
   | some (.dT kvs)=>match valD kvs k with
    | some v=>.ok v (st2.set n (.dT (dropD kvs k)))
    | none=>.stuck
   | _=>.stuck
  | _,_=>.stuck
 | none=>.stuck
noncomputable def sDPut (f g h:SE):SS:=fun σ st=>(h σ st).bind fun v st1=>(f σ st1).bind fun x st2=>(g σ st2).bind fun y st3=>match x,keyOf y with
 | .ref n,some k=>match st3[n]? with
  | some (.dT kvs)=>if kvs.length < sizeLine then .ok (.nx σ) (st3.set n (.dT (putD kvs k v))) else .stuck
  | _=>.stuck
 | _,_=>.stuck
noncomputable def eDNew:SE:=fun _ st=>.ok (.ref st.length) (st++[.dT []])
section
variable {X:Cx}{a b c o i e value f':Expr}{f g h:SE}{pos pos' apos cpos:Pos}
theorem zbic {K:Fg}{ρ:Loc}{st:Store}{H:Hp}(rp:Rep K ρ st H){d:D}{u:V}{kvs:List (List Int×D)}(a:At K ρ H d u)(e:pairsOf st d=some kvs):∃p,u=.ref p/\IsD H p:=by
 obtain⟨p,vs,rfl,h1,_⟩:=zmo rp a e;exact⟨p,rfl,.inr ⟨vs,h1⟩⟩
theorem zboi:DE X (.Dict [] [] pos) eDNew:=zex zbbq fun τ H Q hq0 p hp=>by
 obtain⟨ρ,σ,st,v,st',a,rp,e,q⟩:=hq0;cases e;obtain⟨E,R⟩:=rp.alloc hp (x:=.dT []) (o:=.dT []) fun E=>⟨[],zr,.nil⟩
 exact q _ _ _ E R (.last rp.len.symm)
theorem zbqv (hu:X.A.units+1 < cLine)(hi:DE X i g)(ho:DE X o f):PC X .In i o (tD X.K (aS (oDIn false) g f)):=fun aU s σ H Q I hq=>by
 refine zbgs hu hi ho aU s σ H Q I ?_;obtain⟨ρ,σ',st,v,st',a,rp,e,q⟩:=hq;obtain⟨x,st1,e1,e⟩:=za e;obtain⟨y,st2,e2,e⟩:=za e;refine⟨ρ,σ',st,x,st1,a,rp,e1,fun ρ1 H1 u x1 rp1 a1=>?_⟩;refine⟨ρ1,σ',st1,y,st2,a.ext x1,rp1,e2,fun ρ2 H2 w x2 rp2 a2=>?_⟩;unfold oDIn at e;split at e
 ·rename_i kk vv h1 h2;cases e;obtain⟨p,oo,rfl,g1,g2⟩:=zug rp2 a2 (a1.ext x2) h2 h1;refine⟨p,oo,rfl,g1,?_⟩;have:oo.isSome=(valD vv kk).isSome:=by
   revert g2;split
   ·rename_i hv;rintro⟨v,rfl,_⟩;rw[hv];rfl
   ·rename_i hv;rintro rfl;rw[hv];rfl
  rw[this];exact q _ _ _ (x1.trans x2) rp2 (.bl _)
 ·cases e
theorem zbrm {op:CmpOp}{t:SE}(h:PC X op a b (tD X.K t))(h1:behindInMarks op b=false:=by first | exact nobehind _ (by decide) (by decide) | rfl):DT X (.Compare a [op] [b] pos) (eB t):=zbkk (zbll h h1) fun τ H Q hh=>eB_t _ _ _ hh
theorem zboj (hu:X.A.units+1 < cLine)(ho:DE X o f)(hi:DE X i g)(hs:NoSl i):DE X (.Subscript o i pos) (aS oDGet f g):=zex (zys hu ho hi hs) fun τ H Q hq0=>by
 obtain⟨ρ,σ,st,v,st',a,rp,e,q⟩:=hq0;obtain⟨x,st1,e1,e⟩:=za e;obtain⟨y,st2,e2,e⟩:=za e;refine⟨ρ,σ,st,x,st1,a,rp,e1,fun ρ1 H1 u x1 rp1 a1=>?_⟩;refine⟨ρ1,σ,st1,y,st2,a.ext x1,rp1,e2,fun ρ2 H2 w x2 rp2 a2=>?_⟩;unfold oDGet at e;split at e
 ·rename_i h1 h2;split at e
  ·rename_i z hv;cases e;obtain⟨p,oo,rfl,g1,g2⟩:=zug rp2 (a1.ext x2) a2 h1 h2;rw[hv] at g2;obtain⟨vv,rfl,g3⟩:=g2;exact⟨p,vv,rfl,g1,q _ _ _ (x1.trans x2) rp2 g3⟩
  ·cases e
 ·cases e
theorem zbjm (hu:X.A.units + 1 < cLine)(ho:DE X o f)(he:DE X e g)(hf:DE X f' h)(m:M2 X o "get" apos e f' cpos):DE X (.Call (.Attribute o "get" apos) [e, f'] [] cpos) (eDGet2 f g h):=zex (zbbs hu ho he hf m) fun τ H Q hq0=>by
 obtain⟨ρ,σ,st,v,st',a,rp,e,q⟩:=hq0;obtain⟨x,st1,e1,e⟩:=za e;refine⟨ρ,σ,st,x,st1,a,rp,e1,fun ρ1 H1 u x1 rp1 a1=>?_⟩;split at e
 ·rename_i h0;obtain⟨p,rfl,hd⟩:=zbic rp1 a1 h0;obtain⟨y,st2,e2,e⟩:=za e;obtain⟨z,st3,e3,e⟩:=za e;refine⟨p,rfl,hd,?_⟩;refine⟨ρ1,σ,st1,y,st2,a.ext x1,rp1,e2,fun ρ2 H2 w x2 rp2 a2=>?_⟩;refine⟨ρ2,σ,st2,z,st3,a.ext (x1.trans x2),rp2,e3,fun ρ3 H3 t x3 rp3 a3=>?_⟩;split at e
  ·rename_i h1 h2;cases e;obtain⟨p',oo,ep,g1,g2⟩:=zug rp3 (a1.ext (x2.trans x3)) (a2.ext x3) h1 h2;cases ep;refine⟨oo,g1,q _ _ _ (x1.trans (x2.trans x3)) rp3 ?_⟩;revert g2;split
   ·rename_i hv;rintro⟨vv,rfl,g3⟩;rw[hv];exact g3
   ·rename_i hv;rintro rfl;rw[hv];exact a3
  ·cases e
 ·cases e
theorem zboh (hu:X.A.units + 1 < cLine)(ho:DE X o f)(he:DE X e g)(m:M1 X o "pop" apos e cpos):DE X (.Call (.Attribute o "pop" apos) [e] [] cpos) (eDPop f g):=zex (zbbp hu ho he m) fun τ H Q hq0=>by
 obtain⟨ρ,σ,st,v,st',a,rp,e,q⟩:=hq0;obtain⟨x,st1,e1,e⟩:=za e;refine⟨ρ,σ,st,x,st1,a,rp,e1,fun ρ1 H1 u x1 rp1 a1=>?_⟩;split at e
 ·rename_i h0;obtain⟨p,rfl,hd⟩:=zbic rp1 a1 h0;obtain⟨y,st2,e2,e⟩:=za e;refine⟨p,rfl,hd,?_⟩;refine⟨ρ1,σ,st1,y,st2,a.ext x1,rp1,e2,fun ρ2 H2 w x2 rp2 a2=>?_⟩;split at e
  ·rename_i n k hk _;split at e
   ·rename_i kvs hn;split at e
    ·rename_i z hv;cases e;obtain⟨p',ep,hp,vs,g1,g2⟩:=zdt rp2 (a1.ext x2) hn (by intro z;cases z);cases ep;obtain⟨b,rfl,g3⟩:=zbcq a2 hk;have g4:=g2.val k;rw[hv] at g4;obtain⟨vv,g5,g6⟩:=g4;have E:Ext ρ2 H2 ρ2 (upd H2 p (.dT (dropK vs (k.map Sum.inl)))):=Ext.wr hp (ziv g1) _;exact⟨vs,_,vv,b,g1,rfl,g3,g5,q _ _ _ ((x1.trans x2).trans E) (rp2.wr hp (ziv g1) ⟨_,zr,(g2.drop k).ext E⟩) (g6.ext E)⟩
    ·cases e
   ·cases e
  ·cases e
 ·cases e
theorem zbiv (hu:X.A.units+1 < cLine)(ho:DE X o f)(hi:DE X i g)(hv:DE X value h)(hs:swapsWith value (some (.Subscript o i pos')) pos.line X.env=pure false) :
  DSt X (.Assign [.Subscript o i pos'] value pos) (sDPut f g h):=zsm (zyp hu ho hi hv hs) fun E τ H hq0=>by
 obtain⟨ρ,σ,st,fl,st',a,rp,e,q⟩:=hq0;obtain⟨v,st1,e1,e⟩:=za e;obtain⟨x,st2,e2,e⟩:=za e;obtain⟨y,st3,e3,e⟩:=za e;refine⟨ρ,σ,st,v,st1,a,rp,e1,fun ρ1 H1 u x1 rp1 a1=>?_⟩;refine⟨ρ1,σ,st1,x,st2,a.ext x1,rp1,e2,fun ρ2 H2 w x2 rp2 a2=>?_⟩;refine⟨ρ2,σ,st2,y,st3,a.ext (x1.trans x2),rp2,e3,fun ρ3 H3 t x3 rp3 a3=>?_⟩;split at e
 ·rename_i n k hk _;split at e
  ·rename_i kvs hn;split at e
   ·rename_i hl;cases e;obtain⟨p,rfl,hp,vs,g1,g2⟩:=zdt rp3 (a2.ext x3) hn (by intro z;cases z);obtain⟨b,rfl,g3⟩:=zbcq a3 hk;have E:Ext ρ3 H3 ρ3 (upd H3 p (.dT (putK vs (k.map Sum.inl) u))):=Ext.wr hp (ziv g1) _;refine⟨p,_,rfl,DPut.t g1 g3 (by rw[← g2.length];exact hl),?_⟩;exact q _ _ _ ((x1.trans (x2.trans x3)).trans E) (rp3.wr hp (ziv g1) ⟨_,zr,(g2.put k (a1.ext (x2.trans x3))).ext E⟩) (a.ext ((x1.trans (x2.trans x3)).trans E))
   ·cases e
  ·cases e
 ·cases e
end
noncomputable def bSorted:List D->Store->Res D:=fun xs st=>match xs with
 | [x]=>match (asL st x).bind asRows with
  | some l=>if l.length<=1000000 then .ok (.lst (aJ (sortR l))) st else .stuck
  | none=>match pairsOf st x with
   | some kvs=>if kvs.length<=1000000 then .ok (.lst (aJ (sortR (kvs.map (·.1))))) st else .stuck
   | none=>.stuck
 | _=>.stuck
theorem zkl {K:Fg}:CaD K bSorted (fun xs H Q=>rSortedAL K xs H Q\/rSortedDAL xs H Q):=fun ρ H st xs us z st' Q rp aa e q=>by
 unfold bSorted at e;split at e
 ·obtain⟨u,rfl,a⟩:=aa.one;split at e
  ·rename_i l hl;obtain⟨ys,h0,hl⟩:=xel.mp hl;split at e
   ·rename_i few;cases e;obtain⟨p,vs,rfl,h1,h2⟩:=zgf rp a h0;obtain⟨ps,rfl,rfl,h3⟩:=zpu h2 hl;rw[xbb] at few;refine .inl ⟨p,ps,rfl,SqL.of h1,few,fun x hx=>SqT.of (h3 x hx).1,fun t qs ht hp hs=>?_⟩;have e2:qs.map (·.2)=sortR (ps.map (·.2)):=zmi (hp.map _) hs;refine q _ _ _ (Ext.new ht _) (rp.new ht _) (.newL rp ht ?_);rw[← e2];exact zmm qs fun x hx=>h3 x (hp.mem_iff.mp hx)
   ·cases e
  ·split at e
   ·rename_i kvs hk;split at e
    ·rename_i few;cases e;obtain⟨p,vs,rfl,h1,h2⟩:=zmo rp a hk;refine .inr ⟨p,vs,kvs.map (·.1),rfl,h1,h2.keys,by rw[xbb];exact few,fun t qs ht hp hs hq=>?_⟩;have e2:qs.map (·.2)=sortR (kvs.map (·.1)):=zmi hp hs;refine q _ _ _ (Ext.new ht _) (rp.new ht _) (.newL rp ht ?_);rw[← e2];exact zmm qs fun x hx=>⟨hq x hx,zor rp (hq x hx)⟩
    ·cases e
   ·cases e
 ·cases e
theorem zer {X:Cx}(hc:X.calm=true)(hu:X.A.units + 64 < cLine):CallR X (.builtin "sorted") (fun xs H Q=>rSortedAL X.K xs H Q\/rSortedDAL xs H Q):=(zlu hu).or (zkj hc hu)
noncomputable def eAppend (f:SE) (g:SA):SE:=fun σ st=>(f σ st).bind fun x st1=>match x,asL st1 x with
 | .ref n,some _=>(g σ st1).bind fun ys st2=>match ys,st2[n]? with
  | [y],some (.lst xs)=>if xs.length < sizeLine then .ok .non (st2.set n (.lst (xs++[y]))) else .stuck
  | _,_=>.stuck
 | _,_=>.stuck
noncomputable def eExtend (f:SE) (g:SA):SE:=fun σ st=>(f σ st).bind fun x st1=>match x,asL st1 x with
 | .ref n,some _=>(g σ st1).bind fun ys st2=>match ys,st2[n]? with
  | [y],some (.lst xs)=>match asL st2 y with
   | some zs=>if xs.length+zs.length<=sizeLine then .ok .non (st2.set n (.lst (xs++zs))) else .stuck
   | none=>.stuck
  | _,_=>.stuck
 | _,_=>.stuck
section
variable {X:Cx}{o e i value:Expr}{es:List Expr}{f g h:SE}{ga:SA}{pos apos cpos:Pos}
theorem zbdv (ho:DE X o f)(ha:DA X (e::es) ga)(hbase:attributeBase o "append" X.env (eval o X.env)=eval o X.env:=by rfl)
  (hfew:((backTo cpos (starEach (e::es) X.env)).all (fun x=>!x.1)&&(backToKw cpos (keywordEach [] X.env)).all (fun x=>x.1.isSome)
   && decide ((e::es).length+([]:List Keyword).length+(if([]:List Keyword).isEmpty then 0 else 1) < 30))=true:=by rfl)
  (hline:(apos.endLine==cpos.line)=true:=by rfl)(hs:starEach (e::es) X.env=(false,eval e X.env)::starEach es X.env:=by rfl)(hplain:(backTo cpos (starEach es X.env)).any (·.1)=false:=by rfl) :
  DE X (.Call (.Attribute o "append" apos) (e::es) [] cpos) (eAppend f ga):=zex (zbmc F.plainAttrs_list F.slot_list_append F.type_list_append zot ho ha hbase hfew hline hs hplain) fun τ H Q hq0=>by
 obtain⟨ρ,σ,st,v,st',a,rp,e,q⟩:=hq0;obtain⟨x,st1,e1,e⟩:=za e;refine⟨ρ,σ,st,x,st1,a,rp,e1,fun ρ1 H1 u x1 rp1 a1=>?_⟩;split at e
 ·rename_i n _ hL;obtain⟨ys,st2,e2,e⟩:=za e;obtain⟨p,vs,rfl,g1,g2⟩:=zgf rp1 a1 hL;refine⟨.inl ⟨rfl,_,SqL.of g1⟩,ρ1,σ,st1,ys,st2,a.ext x1,rp1,e2,fun ρ2 H2 ws x2 rp2 a2=>?_⟩;split at e
  ·rename_i y xs hn;split at e
   ·rename_i hl;cases e;obtain⟨w,rfl,a3⟩:=a2.one;obtain⟨p',ep,hp,vs2,k1,k2⟩:=zdt rp2 (a1.ext x2) hn (by intro z;cases z);cases ep;have E:Ext ρ2 H2 ρ2 (upd H2 p (.lst (vs2++[w]))):=Ext.wr hp (zga k1) _;exact⟨p,vs2,w,rfl,rfl,k1,by rw[k2.length];exact hl,q _ _ _ ((x1.trans x2).trans E) (rp2.wr hp (zga k1) ⟨_,zr,(k2.append (.cons a3 .nil)).ext E⟩) .non⟩
   ·cases e
  ·cases e
 ·cases e
theorem zbdq (ho:DE X o f)(ha:DA X (e::es) ga)(hbase:attributeBase o "extend" X.env (eval o X.env)=eval o X.env:=by rfl)
  (hfew:((backTo cpos (starEach (e::es) X.env)).all (fun x=>!x.1)&&(backToKw cpos (keywordEach [] X.env)).all (fun x=>x.1.isSome)
   && decide ((e::es).length+([]:List Keyword).length+(if([]:List Keyword).isEmpty then 0 else 1) < 30))=true:=by rfl)
  (hline:(apos.endLine==cpos.line)=true:=by rfl)(hs:starEach (e::es) X.env=(false,eval e X.env)::starEach es X.env:=by rfl)(hplain:(backTo cpos (starEach es X.env)).any (·.1)=false:=by rfl) :
  DE X (.Call (.Attribute o "extend" apos) (e::es) [] cpos) (eExtend f ga):=zex (zbmc F.plainAttrs_list F.slot_list_extend F.type_list_extend zwz ho ha hbase hfew hline hs hplain) fun τ H Q hq0=>by
 obtain⟨ρ,σ,st,v,st',a,rp,e,q⟩:=hq0;obtain⟨x,st1,e1,e⟩:=za e;refine⟨ρ,σ,st,x,st1,a,rp,e1,fun ρ1 H1 u x1 rp1 a1=>?_⟩;split at e
 ·rename_i n _ hL;obtain⟨ys,st2,e2,e⟩:=za e;obtain⟨p,vs,rfl,g1,g2⟩:=zgf rp1 a1 hL;refine⟨.inl ⟨rfl,_,SqL.of g1⟩,ρ1,σ,st1,ys,st2,a.ext x1,rp1,e2,fun ρ2 H2 ws x2 rp2 a2=>?_⟩;split at e
  ·rename_i y xs hn;split at e
   ·rename_i zs hz;split at e
    ·rename_i hl;cases e;obtain⟨w,rfl,a3⟩:=a2.one;obtain⟨p',ep,hp,vs2,k1,k2⟩:=zdt rp2 (a1.ext x2) hn (by intro z;cases z);cases ep;obtain⟨b,ws2,rfl,m1,m2⟩:=zgf rp2 a3 hz;have E:Ext ρ2 H2 ρ2 (upd H2 p (.lst (vs2++ws2))):=Ext.wr hp (zga k1) _;exact⟨p,b,vs2,ws2,rfl,rfl,k1,m1,by rw[k2.length,m2.length];exact hl,q _ _ _ ((x1.trans x2).trans E) (rp2.wr hp (zga k1) ⟨_,zr,(k2.append m2).ext E⟩) .non⟩
    ·cases e
   ·cases e
  ·cases e
 ·cases e
noncomputable def eFz (f:SE):SE:=fun σ st=>(f σ st).bind fun x st1=>match x with
 | .ref n=>match st1[n]? with
  | some (.lst xs)=>.ok (.lst xs) (st1.set n .dead)
  | _=>.stuck
 | _=>.stuck
theorem d_fz (ho:DE X o f):DE X o (eFz f):=zex ho fun τ H Q hq0=>by
 obtain⟨ρ,σ,st,v,st',a,rp,e,q⟩:=hq0;obtain⟨x,st1,e1,e⟩:=za e;refine⟨ρ,σ,st,x,st1,a,rp,e1,fun ρ1 H1 u x1 rp1 a1=>?_⟩;split at e
 ·rename_i n;split at e
  ·rename_i xs hn;cases e;obtain⟨p,rfl,hp,vs2,k1,k2⟩:=zdt rp1 a1 hn (by intro z;cases z);have hlen:=(xbh.mp hp).1;obtain⟨E,R⟩:=rp1.kill hlen;refine q _ _ _ (x1.trans E) R (.lst k1 ⟨fun z=>?_,fun z=>(rp1.gh p z).2 (xca hp)⟩ (k2.ext E));obtain⟨i,hi,e2⟩:=xeh z;have e3:(ρ1.m.set n none)[i]?=some (some p):=by rw[xbd hi,e2]
   by_cases hin:i=n
   ·subst hin;rw[xdv hlen] at e3;simp at e3
   ·rw[xcq (xem hin)] at e3;exact hin (rp1.inj i n p e3 hp)
  ·cases e
 ·cases e
end
noncomputable def sNx:SS:=fun σ st=>.ok (.nx σ) st
noncomputable def sBrk:SS:=fun σ st=>.ok (.brk σ) st
noncomputable def sCt:SS:=fun σ st=>.ok (.ct σ) st
noncomputable def sRet (f:SE):SS:=fun σ st=>(f σ st).bind fun v st1=>.ok (.ret v) st1
noncomputable def sRetN:SS:=fun _ st=>.ok (.ret .non) st
noncomputable def sDrop (f:SE):SS:=fun σ st=>(f σ st).bind fun _ st1=>.ok (.nx σ) st1
noncomputable def aF (i:Nat) (f:SE):SS:=fun σ st=>(f σ st).bind fun v st1=>.ok (.nx (σ.set i (some v))) st1
noncomputable def aD (s t:SS):SS:=fun σ st=>match s σ st with
 | .ok (.nx σ1) st1=>t σ1 st1
 | r=>r
noncomputable def sIf (c:ST) (s t:SS):SS:=fun σ st=>(c σ st).bind fun b st1=>if b=true then s σ st1 else t σ st1
noncomputable def sAug (i:Nat) (g:D->D->Store->Res D) (f:SE):SS:=fun σ st=>match σ[i]? with
 | some (some x)=>(f σ st).bind fun y st1=>(g x y st1).bind fun z st2=>.ok (.nx (σ.set i (some z))) st2
 | _=>.stuck
noncomputable def sSetIx (f g h:SE):SS:=fun σ st=>(h σ st).bind fun v st1=>(f σ st1).bind fun x st2=>(g σ st2).bind fun y st3=>match x,y with
 | .ref n,.int k=>match st3[n]? with
  | some (.lst xs)=>match ixN xs.length k with
   | some j=>.ok (.nx σ) (st3.set n (.lst (xs.set j v)))
   | none=>.stuck
  | _=>.stuck
 | _,_=>.stuck
section
variable {X:Cx}{e c o i value:Expr}{sm:Stmt}{rest:List Stmt}{f g h:SE}{s t:SS}{b:ST}{pos pos':Pos}
theorem zbny:DSs X [] sNx:=zbfw zbfy fun E τ H hq0=>by
 obtain⟨ρ,σ,st,fl,st',a,rp,e,q⟩:=hq0;cases e;exact q _ _ _ (.refl _ _) rp a
theorem zbdi:DSt X (.Break pos) sBrk:=zsm zbbf fun E τ H hq0=>by
 obtain⟨ρ,σ,st,fl,st',a,rp,e,q⟩:=hq0;cases e;exact q _ _ _ (.refl _ _) rp a
theorem zbnw (he:DE X e f):DSt X (.Return (some e) pos) (sRet f):=zsm (zbln he) fun E τ H hq0=>by
 obtain⟨ρ,σ,st,fl,st',a,rp,e,q⟩:=hq0;obtain⟨x,st1,e1,e⟩:=za e;cases e;exact⟨ρ,σ,st,x,_,a,rp,e1,fun ρ1 H1 u x1 rp1 a1=>q _ _ _ x1 rp1 a1⟩
theorem zbiu (he:DE X e f)(hs:swapsWith e none pos.line X.env=pure false:=by rfl):DSt X (.Expr e pos) (sDrop f):=zsm (zbfz he hs) fun E τ H hq0=>by
 obtain⟨ρ,σ,st,fl,st',a,rp,e,q⟩:=hq0;obtain⟨x,st1,e1,e⟩:=za e;cases e;exact⟨ρ,σ,st,x,_,a,rp,e1,fun ρ1 H1 u x1 rp1 a1=>q _ _ _ x1 rp1 (a.ext x1)⟩
theorem zbql {K:Fg}{i:Nat}{f:SE}:∀E τ H,tDS K (aF i f) E τ H->tAsg (tD K f) (gName i) E τ H:=fun E τ H hq0=>by
 obtain⟨ρ,σ,st,fl,st',a,rp,e,q⟩:=hq0;obtain⟨x,st1,e1,e⟩:=za e;cases e;exact⟨ρ,σ,st,x,_,a,rp,e1,fun ρ1 H1 u x1 rp1 a1=>q _ _ _ x1 rp1 ((a.ext x1).set a1 i)⟩
theorem zbnv {i:Nat}{x:Str}(hN:X.N.Nodup)(hi:X.N[i]?=some x)(hx:L2.Loc X.env.scope x)(he:DE X e f)(hs:swapsWith e (some (.Name x pos')) pos.line X.env=pure false:=by rfl)(hf:X.fn x=true\/X.env.scope.names.lookup x=some .local:=by first | exact .inl rfl | exact .inr rfl | assumption) :
 DSt X (.Assign [.Name x pos'] e pos) (aF i f):=zsm (zblm hN hi hx he hs hf) zbql
theorem zbnx (h1:DSt X sm s):DSs X [sm] s:=zbfx h1
theorem zbiw (h1:DSt X sm s)(h2:DSs X rest t):DSs X (sm::rest) (aD s t):=zbfw (zbbd h1 h2) fun E τ H hq0=>by
 obtain⟨ρ,σ,st,fl,st',a,rp,e,q⟩:=hq0;unfold aD at e;split at e
 ·rename_i σ1 st1 e1;exact⟨ρ,σ,st,_,st1,a,rp,e1,fun ρ1 H1 τ1 x1 rp1 a1=>⟨ρ1,σ1,st1,fl,st',a1,rp1,e,q.ext x1⟩⟩
 ·rename_i hne;refine⟨ρ,σ,st,fl,st',a,rp,e,?_⟩;cases fl with
  | nx σ'=>exact absurd e (hne σ' st')
  | brk σ'=>exact q
  | ct σ'=>exact q
  | ret v=>exact q
theorem zbrn {a' b':List Stmt}(hc:DT X c b)(ha:DSs X a' s)(hb:DSs X b' t):DSt X (.If c a' b' pos) (sIf b s t):=zsm (zbqq hc ha hb) fun E τ H hq0=>by
 obtain⟨ρ,σ,st,fl,st',a,rp,e,q⟩:=hq0;obtain⟨x,st1,e1,e⟩:=za e;refine⟨ρ,σ,st,x,st1,a,rp,e1,fun ρ1 H1 x1 rp1=>?_⟩;cases x with
 | true=>exact iteT ⟨ρ1,σ,st1,fl,st',a.ext x1,rp1,e,q.ext x1⟩
 | false=>exact iteF ⟨ρ1,σ,st1,fl,st',a.ext x1,rp1,e,q.ext x1⟩
noncomputable def IpD (K:Fg) (g:D->D->Store->Res D) (r:TIp):Prop :=
 ∀ρ H st x y u v z st' (Q:VK),Rep K ρ st H->At K ρ H x u->At K ρ H y v->g x y st=.ok z st'->(∀ρ' H' w,Ext ρ H ρ' H'->Rep K ρ' st' H'->At K ρ' H' z w->Q w H')->r u v H Q
theorem zboa {i:Nat}{x:Str}{op:Operator}{ti:TIp}{g:D->D->Store->Res D}(hN:X.N.Nodup)(hi:X.N[i]?=some x)(hx:L2.Loc X.env.scope x)(he:DE X e f)(ho:PIp X op ti)(hr:IpD X.K g ti)(hf:X.fn x=true\/X.env.scope.names.lookup x=some .local:=by first | exact .inl rfl | exact .inr rfl | assumption) :
  DSt X (.AugAssign (.Name x pos') op e pos) (sAug i g f):=zsm (zblp hN hi hx he ho hf) fun E τ H hq0=>by
 obtain⟨ρ,σ,st,fl,st',a,rp,e,q⟩:=hq0;unfold sAug at e;split at e
 ·rename_i d hd;obtain⟨y,st1,e1,e⟩:=za e;obtain⟨z,st2,e2,e⟩:=za e;cases e;obtain⟨u,hu,a0⟩:=a.get hd;refine⟨u,hu,ρ,σ,st,y,st1,a,rp,e1,fun ρ1 H1 w x1 rp1 a1=>?_⟩;exact hr ρ1 H1 st1 d y u w z st' _ rp1 (a0.ext x1) a1 e2 fun ρ2 H2 zz x2 rp2 a2=>q _ _ _ (x1.trans x2) rp2 ((a.ext (x1.trans x2)).set a2 i)
 ·cases e
theorem ip_D {K:Fg}{p:Int->Int->Int}:IpD K (oI (fun _ _=>True) fun i j=>.int (p i j)) (ipI p):=fun ρ H st x y u v z st' Q rp a b e q=>by
 unfold oI at e;split at e
 ·cases a;cases b;rw[if_pos True.intro] at e;cases e;exact⟨_,_,rfl,rfl,q _ _ _ (.refl _ _) rp (.int _)⟩
 ·cases e
theorem zbdf (he:DE X value h)(ho:DE X o f)(hi:DE X i g)(ha:∀v,assign (.Subscript o i pos') X.env v=(do
   let ov ← holding [v] (eval o X.env)
   let iv ← holding [v,ov] (eval i X.env)
   standAt pos'
   holding [v,ov,iv] (setItem ov iv v)
   release [v,ov,iv] []):=by intro _;rfl)
  (hs:swapsWithSole [.Subscript o i pos'] value pos.line X.env=pure false:=by rfl)(hw:swappedStores [.Subscript o i pos'] value X.env=pure none:=by rfl)
  (h1:(assignEach [.Subscript o i pos'] X.env).map (·.2)=[assign (.Subscript o i pos') X.env]:=by rfl):DSt X (.Assign [.Subscript o i pos'] value pos) (sSetIx f g h) :=
 zsm (zblq he (zblt ho hi zbau ha) hs hw h1) fun E τ H hq0=>by
 obtain⟨ρ,σ,st,fl,st',a,rp,e,q⟩:=hq0;obtain⟨v,st1,e1,e⟩:=za e;obtain⟨x,st2,e2,e⟩:=za e;obtain⟨y,st3,e3,e⟩:=za e;refine⟨ρ,σ,st,v,st1,a,rp,e1,fun ρ1 H1 u x1 rp1 a1=>?_⟩;refine⟨ρ1,σ,st1,x,st2,a.ext x1,rp1,e2,fun ρ2 H2 w x2 rp2 a2=>?_⟩;refine⟨ρ2,σ,st2,y,st3,a.ext (x1.trans x2),rp2,e3,fun ρ3 H3 t x3 rp3 a3=>?_⟩;split at e
 ·rename_i n k _;split at e
  ·rename_i xs hn;split at e
   ·rename_i j hj;cases e;cases a3;obtain⟨p,rfl,hp,vs,g1,g2⟩:=zdt rp3 (a2.ext x3) hn (by intro z;cases z);have E:Ext ρ3 H3 ρ3 (upd H3 p (.lst (vs.set j u))):=Ext.wr hp (zga g1) _;refine⟨p,vs,k,j,rfl,rfl,g1,by rw[g2.length];exact hj,?_⟩;exact q _ _ _ ((x1.trans (x2.trans x3)).trans E) (rp3.wr hp (zga g1) ⟨_,zr,(g2.set (a1.ext (x2.trans x3)) j).ext E⟩) (a.ext ((x1.trans (x2.trans x3)).trans E))
   ·cases e
  ·cases e
 ·cases e
end
noncomputable abbrev SG:=D->DS->Option DS
noncomputable def gN (i:Nat):SG:=fun d σ=>some (σ.set i (some d))
noncomputable def gsNil:List D->DS->Option DS:=fun ds σ=>match ds with
 | []=>some σ
 | _=>none
noncomputable def gsCons (t:SG) (u:List D->DS->Option DS):List D->DS->Option DS:=fun ds σ=>match ds with
 | d::r=>(t d σ).bind fun σ1=>u r σ1
 | _=>none
noncomputable def gT (n:Nat) (u:List D->DS->Option DS):SG:=fun d σ=>match d with
 | .tup ds=>if ds.length=n then u ds σ else none
 | _=>none
noncomputable def gD (K:Fg) (b:SG):TG:=fun v τ H Q=>∃ρ σ d σ',AtS K ρ H σ τ/\At K ρ H d v/\b d σ=some σ'/\∀τ',AtS K ρ H σ' τ'->Q τ' H
noncomputable def gDs (K:Fg) (b:List D->DS->Option DS):TGs:=fun vs τ H Q=>∃ρ σ ds σ',AtS K ρ H σ τ/\AtAll K ρ H ds vs/\b ds σ=some σ'/\∀τ',AtS K ρ H σ' τ'->Q τ' H
noncomputable abbrev DG (X:Cx) (tg:Expr) (b:SG):Prop:=PG X tg (gD X.K b)
noncomputable abbrev DGs (X:Cx) (ts:List Expr) (b:List D->DS->Option DS):Prop:=PGs X ts (gDs X.K b)
section
variable {X:Cx}{pos:Pos}{e:Expr}{es:List Expr}{t:SG}{u:List D->DS->Option DS}
theorem zbpu {g g':TG}(h:PG X e g)(k:∀v τ H Q,g' v τ H Q->g v τ H Q):PG X e g':=fun aU s σ H v u Q I r q=>h aU s σ H v u Q I r (k _ _ _ _ q)
theorem zbgl {g g':TGs}(h:PGs X es g)(k:∀v τ H Q,g' v τ H Q->g v τ H Q):PGs X es g':=fun aU s σ H v u Q I r q=>h aU s σ H v u Q I r (k _ _ _ _ q)
theorem zbje {i:Nat}{x:Str}(hN:X.N.Nodup)(hi:X.N[i]?=some x)(hx:L2.Loc X.env.scope x)(hf:X.fn x=true\/X.env.scope.names.lookup x=some .local:=by first | exact .inl rfl | exact .inr rfl | assumption):DG X (.Name x pos) (gN i) :=
 zbpu (zbgn hN hi hx hf) fun v τ H Q hq0=>by
 obtain⟨ρ,σ,d,σ',a,b,e,q⟩:=hq0;cases e;exact q _ (a.set b i)
theorem zbjd:DGs X [] gsNil:=zbgl zbgm fun v τ H Q hq0=>by
 obtain⟨ρ,σ,d,σ',a,b,e,q⟩:=hq0;unfold gsNil at e;split at e
 ·cases e;cases b;exact⟨rfl,q _ a⟩
 ·cases e
theorem zbdl (h1:DG X e t)(h2:DGs X es u)(hs:(assignEach (e::es) X.env).map (·.2)=assign e X.env::(assignEach es X.env).map (·.2):=by rfl):DGs X (e::es) (gsCons t u) :=
 zbgl (zbbm h1 h2 hs) fun v τ H Q hq0=>by
 obtain⟨ρ,σ,d,σ',a,b,e,q⟩:=hq0;unfold gsCons at e;split at e
 ·obtain⟨σ1,e1,e2⟩:=xel.mp e;cases b with
  | cons b1 b2=>exact⟨_,_,rfl,ρ,σ,_,σ1,a,b1,e1,fun τ1 a1=>⟨ρ,σ1,_,σ',a1,b2,e2,q⟩⟩
 ·cases e
theorem zboc {k:Nat}{n:Nat}(hc:X.calm=true)(h:DGs X es u)(hn:(assignEach es X.env).length=n:=by rfl)(hst:(assignEach es X.env).findIdx? (·.1)=none:=by rfl):DG X (.Tuple es k pos) (gT n u) :=
 zbpu (zbls hc h hn hst) fun v τ H Q hq0=>by
 obtain⟨ρ,σ,d,σ',a,b,e,q⟩:=hq0;unfold gT at e;split at e
 ·split at e
  ·rename_i hl;cases b with
   | tup h1 h2 h3=>exact⟨_,_,rfl,SqT.of h1,by rw[h3.length];exact hl,ρ,σ,_,σ',a,h3,e,q⟩
  ·cases e
 ·cases e
end
structure ExtG (ρ:Loc) (H:Hp) (ρ':Loc) (H':Hp):Prop where
 len:ρ.m.length<=ρ'.m.length
 old:∀(n:Nat) (a:Addr),n < ρ.m.length->ρ'.m[n]?=some (some a)->ρ.m[n]?=some (some a)
 keep:∀a o,H a=some o->some a∉ρ.m->H' a=some o/\some a∉ρ'.m
 gho:∀a∈ρ'.g,a∈ρ.g\/H a=none
 frz:∀a ob u,H a=some (.frz ob u)->H' a=some (.frz ob u)
theorem Ext.toG {ρ ρ':Loc}{H H':Hp}(x:Ext ρ H ρ' H'):ExtG ρ H ρ' H':=⟨x.len,x.old,x.keep,fun a h=>.inl (by rw[← x.gho];exact h),x.frz⟩
theorem ExtG.then {ρ ρ1 ρ2:Loc}{H H1 H2:Hp}(a:ExtG ρ H ρ1 H1)(b:Ext ρ1 H1 ρ2 H2):ExtG ρ H ρ2 H2 :=
 ⟨xbc a.len b.len,fun n c h e=>a.old n c h (b.old n c (xbg h a.len) e),fun c o e n=>by
  obtain⟨e1,n1⟩:=a.keep c o e n
  exact b.keep c o e1 n1,fun c h=>a.gho c (by rw[← b.gho];exact h),fun c ob u e=>b.frz c ob u (a.frz c ob u e)⟩
theorem ExtG.out {ρ ρ':Loc}{H H':Hp}(x:ExtG ρ H ρ' H'){a:Addr}{o:HO}(h:H a=some o)(n:Out ρ a):H' a=some o/\Out ρ' a :=
 ⟨(x.keep a o h n.1).1,(x.keep a o h n.1).2,fun z=>by
  rcases x.gho a z with q | q
  ·exact n.2 q
  ·rw[h] at q;cases q⟩
theorem ExtG.mv {ρ ρ':Loc}{H H':Hp}(x:ExtG ρ H ρ' H'):Mv ρ H ρ' H':=⟨fun h n=>x.out h n,x.len,x.old⟩
theorem At.extG {K:Fg}{ρ ρ':Loc}{H H':Hp}(x:ExtG ρ H ρ' H'){d:D}{v:V}(h:At K ρ H d v):At K ρ' H' d v:=h.mv x.mv
theorem Ls.extG {K:Fg}{ρ ρ':Loc}{H H':Hp}{a:Addr}{vs:List V}(x:ExtG ρ H ρ' H')(h:Ls K ρ H a vs):Ls K ρ' H' a vs:=h.mv x.mv
structure ItOk (K:Fg) (ρ:Loc) (H:Hp) (J:It) (xs:List D):Prop where
 item:∀ρ2 H2,ExtG ρ H ρ2 H2->∀(i:Nat) (x:D),xs[i]?=some x->J.go i H2/\∀y H3,J.yld i H2 y H3->Ext ρ2 H2 ρ2 H3/\∀st,Rep K ρ2 st H2->Rep K ρ2 st H3/\At K ρ2 H3 x y
 done:∀ρ2 H2,ExtG ρ H ρ2 H2->∀i:Nat,xs.length<=i->J.stop i H2
noncomputable def iD (K:Fg) (f:SA):TI:=fun τ H R=>∃ρ σ st xs st',AtS K ρ H σ τ/\Rep K ρ st H/\f σ st=.ok xs st'/\∀ρ' H' J,Ext ρ H ρ' H'->Rep K ρ' st' H'->ItOk K ρ' H' J xs->R J H'
noncomputable abbrev DI (X:Cx) (tg iter:Expr) (f:SA):Prop:=PI X tg iter (iD X.K f)
noncomputable def seqV:D->Option (List D)
 | .tup xs=>some xs
 | .lst xs=>some xs
 | .scr xs=>some xs
 | _=>none
noncomputable def aH (f:SE):SA:=fun σ st=>(f σ st).bind fun x st1=>match seqV x with
 | some xs=>.ok xs st1
 | none=>.stuck
noncomputable def rng (lo:Int) (n:Nat):List D:=(List.range n).map fun(i:Nat)=>D.int (lo+i)
noncomputable def iR1 (g:SA):SA:=fun σ st=>(g σ st).bind fun xs st1=>match xs with
 | [.int j]=>if -(2 ^ 62)<=j/\j < 2 ^ 62 then .ok (rng 0 j.toNat) st1 else .stuck
 | _=>.stuck
noncomputable def iR2 (g:SA):SA:=fun σ st=>(g σ st).bind fun xs st1=>match xs with
 | [.int i,.int j]=>if -(2 ^ 62)<=i/\i < 2 ^ 62/\-(2 ^ 62)<=j/\j < 2 ^ 62 then .ok (rng i (j - i).toNat) st1 else .stuck
 | _=>.stuck
theorem zir {lo:Int}{n i:Nat}{x:D}(h:(rng lo n)[i]?=some x):i < n/\x=.int (lo+i):=by
 unfold rng at h;rw[xcn] at h;rcases xff i n with z | z
 ·rw[List.getElem?_range z] at h;exact⟨z,(xcv h).symm⟩
 ·rw[xhh (by rw[xej];exact z)] at h;cases h
theorem zbib {K:Fg}{ρ:Loc}{H:Hp}{lo:Int}{n:Nat}:ItOk K ρ H (Itr lo n) (rng lo n) where
 item:=fun ρ2 H2 x i d e=>by
  obtain⟨h1,rfl⟩:=zir e;refine⟨h1,fun y H3 hy=>?_⟩;obtain⟨rfl,rfl⟩:=hy;exact⟨.refl _ _,fun _ r=>⟨r,.int _⟩⟩
 done:=fun ρ2 H2 x i h=>by
  unfold rng at h;rw[xbb,xej] at h;exact h
section
variable {X:Cx}{tg l a b:Expr}{f:SE}{g:SA}{p pos:Pos}
theorem zbgi {t t':TI}(h:PI X tg l t)(k:∀τ H R,t' τ H R->t τ H R):PI X tg l t':=fun aU s σ H R I q=>h aU s σ H R I (k _ _ _ q)
theorem zbqr {t t':TI}(h:PI X tg l t)(h':PI X tg l t'):PI X tg l (fun τ H R=>t τ H R\/t' τ H R):=fun aU s σ H R I q=>by
 rcases q with q | q
 ·exact h aU s σ H R I q
 ·exact h' aU s σ H R I q
theorem zbak {K:Fg}{ρ:Loc}{H:Hp}{p:Addr}{xs:List D}{vs:List V}(hs:∀ρ2 H2,ExtG ρ H ρ2 H2->SqL K H2 p vs)(al:AtAll K ρ H xs vs):ItOk K ρ H (Itl K p) xs where
 item:=fun ρ2 H2 x i d e=>by
  obtain⟨v,hv,a⟩:=al.get e;refine⟨⟨vs,v,hs _ _ x,hv⟩,fun y H3 hy=>?_⟩;obtain⟨rfl,h2⟩:=hy;have:=h2 vs (hs _ _ x);rw[hv] at this;cases this;exact⟨.refl _ _,fun _ r=>⟨r,a.extG x⟩⟩
 done:=fun ρ2 H2 x i h=>⟨vs,hs _ _ x,by rw[al.length];exact h⟩
theorem zbpk {K:Fg}{ρ:Loc}{H:Hp}{p:Addr}{xs:List D}{vs:List V}(hs:∀ρ2 H2,ExtG ρ H ρ2 H2->SqT K H2 p vs)(al:AtAll K ρ H xs vs):ItOk K ρ H (Itt K p) xs where
 item:=fun ρ2 H2 x i d e=>by
  obtain⟨v,hv,a⟩:=al.get e;refine⟨⟨vs,v,hs _ _ x,hv⟩,fun y H3 hy=>?_⟩;obtain⟨rfl,h2⟩:=hy;have:=h2 vs (hs _ _ x);rw[hv] at this;cases this;exact⟨.refl _ _,fun _ r=>⟨r,a.extG x⟩⟩
 done:=fun ρ2 H2 x i h=>⟨vs,hs _ _ x,by rw[al.length];exact h⟩
theorem zbob (hl:DE X l f):DI X tg l (aH f):=zbgi (zbqr (zbgj hl) (zblr hl)) fun τ H R hq0=>by
 obtain⟨ρ,σ,st,xs,st',a,rp,e,q⟩:=hq0;obtain⟨x,st1,e1,e⟩:=za e;cases x with
 | tup ys =>
  cases e;refine .inr ⟨ρ,σ,st,_,_,a,rp,e1,fun ρ1 H1 u x1 rp1 a1=>?_⟩;cases a1 with
  | tup h1 h2 h3=>exact⟨_,rfl,⟨_,SqT.of h1⟩,q _ _ _ x1 rp1 (zbpk (fun ρ2 H2 x2=>SqT.of (x2.out h1 h2).1) h3)⟩
 | lst ys =>
  cases e;refine .inl ⟨ρ,σ,st,_,_,a,rp,e1,fun ρ1 H1 u x1 rp1 a1=>?_⟩;cases a1 with
  | lst h1 h2 h3=>exact⟨_,rfl,⟨_,SqL.of h1⟩,q _ _ _ x1 rp1 (zbak (fun ρ2 H2 x2=>SqL.of (x2.out h1 h2).1) h3)⟩
 | scr ys =>
  cases e;refine .inl ⟨ρ,σ,st,_,_,a,rp,e1,fun ρ1 H1 u x1 rp1 a1=>?_⟩;cases a1 with
  | scr h1 h3=>exact⟨_,rfl,⟨_,h1.sq⟩,q _ _ _ x1 rp1 (zbak (fun ρ2 H2 x2=>(h1.extG x2).sq) h3)⟩
 | _=>cases e
theorem zxv (hg:Gl X "range")(hm:X.mg "range"=none)(ha:DA X [a] g)(hs:starEach [a] X.env=[(false, eval a X.env)]:=by rfl):DI X tg (.Call (.Name "range" p) [a] [] pos) (iR1 g) :=
 zbgi (zwp hg hm ha hs) fun τ H R hq0=>by
 obtain⟨ρ,σ,st,xs,st',a,rp,e,q⟩:=hq0;obtain⟨x,st1,e1,e⟩:=za e;split at e
 ·split at e
  ·rename_i hj;cases e;refine⟨ρ,σ,st,_,_,a,rp,e1,fun ρ1 H1 u x1 rp1 a1=>?_⟩;obtain⟨w,rfl,a2⟩:=a1.one;cases a2;exact⟨_,rfl,hj.1,hj.2,q _ _ _ x1 rp1 zbib⟩
  ·cases e
 ·cases e
theorem zxu (hg:Gl X "range")(hm:X.mg "range"=none)(ha:DA X [a, b] g)(hs:starEach [a, b] X.env=[(false, eval a X.env),(false, eval b X.env)]:=by rfl)(hs2:starEach [b] X.env=[(false, eval b X.env)]:=by rfl):DI X tg (.Call (.Name "range" p) [a, b] [] pos) (iR2 g) :=
 zbgi (zwo hg hm ha hs hs2) fun τ H R hq0=>by
 obtain⟨ρ,σ,st,xs,st',a,rp,e,q⟩:=hq0;obtain⟨x,st1,e1,e⟩:=za e;split at e
 ·split at e
  ·rename_i hj;cases e;refine⟨ρ,σ,st,_,_,a,rp,e1,fun ρ1 H1 u x1 rp1 a1=>?_⟩;obtain⟨w,w2,rfl,a2,a3⟩:=a1.two;cases a2;cases a3;exact⟨_,_,rfl,hj,q _ _ _ x1 rp1 zbib⟩
  ·cases e
 ·cases e
end
noncomputable def iDict (f:SE):SA:=fun σ st=>(f σ st).bind fun x st1=>match x with
 | .ref n=>match st1[n]? with
  | some (.dT kvs)=>.ok (aJ (kvs.map (·.1))) (st1.set n (.fT kvs))
  | _=>.stuck
 | _=>.stuck
section
variable {X:Cx}{tg l:Expr}{f:SE}
theorem zbjc (hl:DE X l f):DI X tg l (iDict f):=zbgi (zbgk hl) fun τ H R hq0=>by
 obtain⟨ρ,σ,st,xs,st',a,rp,e,q⟩:=hq0;obtain⟨x,st1,e1,e⟩:=za e;refine⟨ρ,σ,st,x,st1,a,rp,e1,fun ρ1 H1 u x1 rp1 a1=>?_⟩;split at e
 ·rename_i n;split at e
  ·rename_i kvs hn;cases e;obtain⟨p,rfl,hp,vs,g1,g2⟩:=zdt rp1 a1 hn (by intro z;cases z);refine⟨p,vs,kvs.map (·.1),rfl,g1,g2.keys,fun ob ps h1 h2=>?_⟩;have E:Ext ρ1 H1 ρ1 (upd H1 p (.frz ob (.dT vs))):=Ext.wr hp (ziv g1) _;have R:Rep X.K ρ1 (st1.set n (.fT kvs)) (upd H1 p (.frz ob (.dT vs))):=rp1.wr hp (ziv g1) ⟨vs,ob,zr,g2.ext E⟩;refine q _ _ _ (x1.trans E) R ⟨fun ρ2 H2 x2 i d e=>?_,fun ρ2 H2 x2 i h=>?_⟩
   ·have e2:(ps.map (·.2))[i]?=(kvs.map (·.1))[i]?:=by rw[h1]
    unfold aJ at e;rw[xcn,← e2,xcn] at e;cases hi:ps[i]? with
    | none=>rw[hi] at e;cases e
    | some x =>
     rw[hi] at e;cases e;refine⟨⟨(xbh.mp hi).1,x2.frz _ _ _ zr⟩,fun y H3 hy=>?_⟩;obtain⟨rfl,x',hx',rfl⟩:=hy;rw[hi] at hx';cases hx';have ht:=h2 x (xca hi);have a3:At X.K ρ1 H1 (aL x.2) (.ref x.1):=.tup ht (zor rp1 ht) (zgc _);exact⟨.refl _ _,fun _ r=>⟨r,(a3.ext E).extG x2⟩⟩
   ·have e2:=congrArg List.length h1;rw[xbb] at e2;unfold aJ at h;rw[xbb,← e2] at h;exact⟨h,x2.frz _ _ _ zr⟩
  ·cases e
 ·cases e
end
noncomputable def forF (bd:SG) (body:SS):List D->SS
 | [],σ,st=>.ok (.nx σ) st
 | x::xs,σ,st=>match bd x σ with
  | none=>.stuck
  | some σ1=>match body σ1 st with
   | .ok (.nx σ2) st2=>forF bd body xs σ2 st2
   | .ok (.ct σ2) st2=>forF bd body xs σ2 st2
   | .ok (.brk σ2) st2=>.ok (.nx σ2) st2
   | r=>r
noncomputable def sFor (it:SA) (bd:SG) (body:SS):SS:=fun σ st=>(it σ st).bind fun xs st1=>forF bd body xs σ st1
noncomputable def whileF (c:ST) (body:SS):Nat->SS
 | 0,_,_=>.stuck
 | n+1,σ,st=>(c σ st).bind fun b st1=>if b=true then(match body σ st1 with
  | .ok (.nx σ2) st2=>whileF c body n σ2 st2
  | .ok (.ct σ2) st2=>whileF c body n σ2 st2
  | .ok (.brk σ2) st2=>.ok (.nx σ2) st2
  | r=>r) else .ok (.nx σ) st1
noncomputable def wCap:Nat:=1000000
noncomputable def sWhile (c:ST) (body:SS):SS:=whileF c body wCap
theorem zzw {α:Type}{xs:List α}{i:Nat}(h:i < xs.length):∃x,xs[i]?=some x/\xs.drop i=x::xs.drop (i+1):=⟨xs[i],xbd h,xfm h⟩
section
variable {X:Cx}{tg iter c:Expr}{body:List Stmt}{it:SA}{bd:SG}{b:SS}{t:ST}{pos:Pos}
theorem zbnz (hp:PassesOwn (model X.prog X.w) X.A X.env X.xe)(hc:X.calm=true)(hi:DI X tg iter it)(hg:DG X tg bd)(hb:DSs X body b)(hs:∀x,foldedSetIterable iter X.env x=pure x:=by intro _;rfl) :
  DSt X (.For tg iter body [] pos) (sFor it bd b):=zsm (zblo hp hc hi hg hb hs) fun E τ H hq0=>by
 obtain⟨ρ,σ,st,fl,st',a,rp,e,q⟩:=hq0;obtain⟨xs,st1,e1,e⟩:=za e;refine⟨ρ,σ,st,xs,st1,a,rp,e1,fun ρ1 H1 J x1 rp1 ok=>?_⟩;have q1:=q.ext x1;refine⟨fun i m τ' H'=>i+m=xs.length/\∃ρ2 σ2 st2,Ext ρ1 H1 ρ2 H'/\AtS X.K ρ2 H' σ2 τ'/\Rep X.K ρ2 st2 H'/\forF bd b (xs.drop i) σ2 st2=.ok fl st',⟨xs.length,by lia,ρ1,σ,st1,.refl _ _,a.ext x1,rp1,e⟩,?_⟩;rintro i m τ' H' ⟨him,ρ2,σ2,st2,x2,a2,rp2,e2⟩;rcases xff i xs.length with hlt | hge
 ·obtain⟨x,hx,hd⟩:=zzw hlt;rw[hd] at e2;obtain⟨go,yl⟩:=ok.item ρ2 H' x2.toG i x hx;refine .inr ⟨go,fun τ3 H3=>∃ρ3 σ3 st3,Ext ρ1 H1 ρ3 H3/\AtS X.K ρ3 H3 σ3 τ3/\Rep X.K ρ3 st3 H3/\forF bd b (xs.drop (i+1)) σ3 st3=.ok fl st',fun τ3 H3 ⟨ρ3,σ3,st3,n1,n2,n3,n4⟩=>⟨m - 1,by lia,by lia,ρ3,σ3,st3,n1,n2,n3,n4⟩,fun y H3 hy=>?_⟩;obtain⟨y1,y4⟩:=yl y H3 hy;obtain⟨y2,y3⟩:=y4 _ rp2;unfold forF at e2;cases hbd:bd x σ2 with
  | none=>rw[hbd] at e2;cases e2
  | some σ1 =>
   rw[hbd] at e2;dsimp only at e2;have X3:=x2.trans y1;refine⟨ρ2,σ2,x,σ1,a2.ext y1,y3,hbd,fun τ4 a4=>?_⟩;cases hr:b σ1 st2 with
   | stuck=>rw[hr] at e2;cases e2
   | exc z w=>rw[hr] at e2;cases e2
   | ok fb st3 =>
    rw[hr] at e2;refine⟨ρ2,σ1,st2,fb,st3,a4,y2,hr,?_⟩;cases fb with
    | nx σ3=>exact fun ρ' H'' τ5 x5 rp5 a5=>⟨ρ',σ3,st3,X3.trans x5,a5,rp5,e2⟩
    | ct σ3=>exact fun ρ' H'' τ5 x5 rp5 a5=>⟨ρ',σ3,st3,X3.trans x5,a5,rp5,e2⟩
    | brk σ3 =>
     dsimp only at e2;cases e2;exact fun ρ' H'' τ5 x5 rp5 a5=>q1 _ _ _ (X3.trans x5) rp5 a5
    | ret v =>
     dsimp only at e2;cases e2;exact fun ρ' H'' u x5 rp5 a5=>q1 _ _ _ (X3.trans x5) rp5 a5
 ·rw[xim hge] at e2;unfold forF at e2;cases e2;exact .inl ⟨ok.done ρ2 H' x2.toG i hge,q1 _ _ _ x2 rp2 a2⟩
theorem zbde (hp:PassesOwn (model X.prog X.w) X.A X.env X.xe)(hc:DT X c t)(hb:DSs X body b):DSt X (.While c body [] pos) (sWhile t b):=zsm (zbbe hp hc hb) fun E τ H hq0=>by
 obtain⟨ρ,σ,st,fl,st',a,rp,e,q⟩:=hq0;unfold sWhile at e;generalize wCap=n at e;refine⟨fun m τ' H'=>∃ρ2 σ2 st2,Ext ρ H ρ2 H'/\AtS X.K ρ2 H' σ2 τ'/\Rep X.K ρ2 st2 H'/\whileF t b m σ2 st2=.ok fl st',⟨n,ρ,σ,st,.refl _ _,a,rp,e⟩,?_⟩;rintro m τ' H' ⟨ρ2,σ2,st2,x2,a2,rp2,e2⟩;cases m with
 | zero=>unfold whileF at e2;cases e2
 | succ m =>
  unfold whileF at e2;obtain⟨x,st3,e3,e4⟩:=za e2;refine⟨ρ2,σ2,st2,x,st3,a2,rp2,e3,fun ρ3 H3 x3 rp3=>?_⟩;have X3:=x2.trans x3;cases x with
  | false =>
   rw[if_neg (by decide)] at e4;cases e4;exact iteF (q _ _ _ X3 rp3 (a2.ext x3))
  | true =>
   rw[if_pos rfl] at e4;refine iteT ⟨fun τ4 H4=>∃ρ4 σ4 st4,Ext ρ H ρ4 H4/\AtS X.K ρ4 H4 σ4 τ4/\Rep X.K ρ4 st4 H4/\whileF t b m σ4 st4=.ok fl st',fun τ4 H4 hh=>⟨m,xjd m,hh⟩,?_⟩;cases hr:b σ2 st3 with
   | stuck=>rw[hr] at e4;cases e4
   | exc z w=>rw[hr] at e4;cases e4
   | ok fb st5 =>
    rw[hr] at e4;refine⟨ρ3,σ2,st3,fb,st5,a2.ext x3,rp3,hr,?_⟩;cases fb with
    | nx σ3=>exact fun ρ' H'' τ5 x5 rp5 a5=>⟨ρ',σ3,st5,X3.trans x5,a5,rp5,e4⟩
    | ct σ3=>exact fun ρ' H'' τ5 x5 rp5 a5=>⟨ρ',σ3,st5,X3.trans x5,a5,rp5,e4⟩
    | brk σ3 =>
     dsimp only at e4;cases e4;exact fun ρ' H'' τ5 x5 rp5 a5=>q _ _ _ (X3.trans x5) rp5 a5
    | ret v =>
     dsimp only at e4;cases e4;exact fun ρ' H'' u x5 rp5 a5=>q _ _ _ (X3.trans x5) rp5 a5
end
noncomputable def compF (bd:SG) (c:ST) (f:SE):List D->DS->Store->Res (List D)
 | [],_,st=>.ok [] st
 | x::xs,σ,st=>match bd x σ with
  | none=>.stuck
  | some σ1=>(c σ1 st).bind fun b st1=>if b=true then(f σ1 st1).bind fun y st2=>(compF bd c f xs σ1 st2).bind fun ys st3=>.ok (y::ys) st3 else compF bd c f xs σ1 st1
noncomputable def aT (k:Nat) (is:List Nat) (σ:DS):DS:=List.replicate k none++is.map fun i=>(σ[i]?).getD none
noncomputable def aG (it:SA) (k:Nat) (is:List Nat) (bd:SG) (c:ST) (f:SE):SE:=fun σ st=>(it σ st).bind fun xs st1=>if xs.length<=sizeLine then(compF bd c f xs (aT k is σ) st1).bind fun ys st2=>.ok (.lst ys) st2 else .stuck
noncomputable def aI:ST:=fun _ st=>.ok true st
theorem AtS.start {K:Fg}{ρ:Loc}{H:Hp}{σ:DS}{τ:St}(h:AtS K ρ H σ τ)(k:Nat)(is:List Nat):AtS K ρ H (aT k is σ) (startC k is τ):=by
 have app:∀{a c:DS} {b d:St},AtS K ρ H a b->AtS K ρ H c d->AtS K ρ H (a++c) (b++d):=fun h1 h2=>by
  induction h1 with
  | nil=>exact h2
  | cons r t ih=>exact .cons r ih
 refine app ?_ ?_
 ·induction k with
  | zero=>exact .nil
  | succ k ih=>exact .cons (fun d e=>nomatch e) ih
 ·induction is with
  | nil=>exact .nil
  | cons i is ih =>
   refine .cons (fun d e=>?_) ih;have e:(σ[i]?).getD none=some d:=e;have e':σ[i]?=some (some d):=by
    cases q:σ[i]? with
    | none=>rw[q] at e;cases e
    | some o=>rw[q] at e;exact congrArg some e
   obtain⟨u,hu,a⟩:=h.get e';exact⟨u,by show(τ[i]?).getD none=some u;rw[hu];rfl,a⟩
noncomputable def Loc.with (ρ:Loc) (p:Addr):Loc:=⟨ρ.m,p::ρ.g⟩
theorem zbez {ρ:Loc}{H:Hp}{p:Addr}{o:HO}(hp:H p=none):Mv ρ H (ρ.with p) (upd H p o):=⟨fun e n=>⟨by rw[zt (zl e hp)];exact e,n.1,fun z=>by
 rcases xbp.mp z with z | z
 ·exact zl e hp z
 ·exact n.2 z⟩,xbf _,fun _ _ _ e=>e⟩
theorem At.with {K:Fg}{ρ:Loc}{H:Hp}{p:Addr}{o:HO}(hp:H p=none){d:D}{v:V}(h:At K ρ H d v):At K (ρ.with p) (upd H p o) d v:=h.mv (zbez hp)
theorem zzl {ρ ρ':Loc}{H:Hp}{p:Addr}{o:HO}(hm:ρ'.m=ρ.m)(hg:p∈ρ.g)(hs:∀a,a∈ρ'.g->a∈ρ.g):Mv ρ H ρ' (upd H p o):=⟨fun e n=>⟨by rw[zt (by rintro rfl;exact n.2 hg)];exact e,by rw[hm];exact n.1,fun z=>n.2 (hs _ z)⟩,by rw[hm];exact xbf _,fun _ _ _ e=>by rw[hm] at e;exact e⟩
theorem At.grow {K:Fg}{ρ ρ':Loc}{H:Hp}{p:Addr}{o:HO}(hm:ρ'.m=ρ.m)(hg:p∈ρ.g)(hs:∀a,a∈ρ'.g->a∈ρ.g){d:D}{v:V}(h:At K ρ H d v):At K ρ' (upd H p o) d v:=h.mv (zzl hm hg hs)
theorem AtAll.grow {K:Fg}{ρ ρ':Loc}{H:Hp}{p:Addr}{o:HO}(hm:ρ'.m=ρ.m)(hg:p∈ρ.g)(hs:∀a,a∈ρ'.g->a∈ρ.g){d:List D}{v:List V}(h:AtAll K ρ H d v):AtAll K ρ' (upd H p o) d v:=h.mv (zzl hm hg hs)
theorem OAt.map {K:Fg}{ρ ρ':Loc}{H H':Hp}{a:Addr}{x:O}(k:∀d v,At K ρ H d v->At K ρ' H' d v)(fz:∀b ob u,H b=some (.frz ob u)->H' b=some (.frz ob u))(same:H' a=H a)(h:OAt K ρ H x a):OAt K ρ' H' x a:=by
 have ka:∀{d:List D} {v:List V},AtAll K ρ H d v->AtAll K ρ' H' d v:=fun {d v} h=>by
  induction d generalizing v with
  | nil=>cases h;exact .nil
  | cons x xs ih=>cases h with | cons a b=>exact .cons (k _ _ a) (ih b)
 cases x with
 | lst xs=>obtain⟨vs,q,r⟩:=h;exact⟨vs,by rw[same];exact q,ka r⟩
 | dT kvs=>obtain⟨vs,q,r⟩:=h;exact⟨vs,by rw[same];exact q,Paired.mapP r fun p q z=>⟨z.1,k _ _ z.2⟩⟩
 | fT kvs=>obtain⟨vs,ob,q,r⟩:=h;exact⟨vs,ob,by rw[same];exact q,Paired.mapP r fun p q z=>⟨z.1,k _ _ z.2⟩⟩
 | dI kvs=>obtain⟨vs,q,r⟩:=h;exact⟨vs,by rw[same];exact q,Paired.mapP r fun p q z=>⟨z.1,k _ _ z.2⟩⟩
 | dead=>exact h.elim
 | tab=>obtain⟨c,ps,q,r⟩:=h;exact⟨c,ps,by rw[same];exact q,r.map fz⟩
theorem Rep.with {K:Fg}{ρ:Loc}{st:Store}{H:Hp}{p:Addr}(r:Rep K ρ st H)(hp:H p=none)(vs:List V):Rep K (ρ.with p) st (upd H p (.lst vs)) :=
 ⟨r.len,r.inj,fun m b y e1 e2=>by
  have q:=r.obj m b y e1 e2;obtain⟨u,hu⟩:=q.has;exact q.map (fun d v h=>h.with hp) (fun b ob u e=>by rw[zt (zl e hp)];exact e) (zt (zl hu hp)),fun a ha=>by
  rcases xbp.mp ha with rfl | ha
  ·exact⟨⟨vs,zr⟩,(zjy r hp).1⟩
  ·obtain⟨⟨ws,h1⟩,h2⟩:=r.gh a ha
   exact⟨⟨ws,by rw[zt (zl h1 hp)];exact h1⟩,h2⟩,r.live⟩
theorem Rep.grow {K:Fg}{ρ ρ':Loc}{st:Store}{H:Hp}{p:Addr}(r:Rep K ρ st H)(hm:ρ'.m=ρ.m)(hg:p∈ρ.g)(hs:∀a,a∈ρ'.g->a∈ρ.g)(vs:List V):Rep K ρ' st (upd H p (.lst vs)) :=
 ⟨by rw[hm];exact r.len,by rw[hm];exact r.inj,fun m b y e1 e2=>by
  rw[hm] at e1;refine(r.obj m b y e1 e2).map (fun d v h=>h.grow hm hg hs) (fun b ob u e=>by rw[zt (by rintro rfl;obtain⟨⟨_,z⟩,_⟩:=r.gh _ hg;rw[e] at z;cases z)];exact e) (zt ?_);rintro rfl;exact(r.gh b hg).2 (xca e1),fun a ha=>by
  obtain⟨⟨ws,h1⟩,h2⟩:=r.gh a (hs a ha);refine⟨?_,by rw[hm];exact h2⟩;by_cases e:a=p
  ·subst e;exact⟨vs,zr⟩
  ·exact⟨ws,by rw[zt e];exact h1⟩,by rw[hm];exact r.live⟩
theorem AtS.map {K:Fg}{ρ ρ':Loc}{H H':Hp}{σ:DS}{τ:St}(k:∀d v,At K ρ H d v->At K ρ' H' d v)(h:AtS K ρ H σ τ):AtS K ρ' H' σ τ:=Paired.mapP h fun o v z d e=>by
 obtain⟨u,e1,a⟩:=z d e;exact⟨u,e1,k _ _ a⟩
section
variable {X:Cx}{tg iter elt:Expr}{ifs:List Expr}{it:SA}{bd:SG}{c:ST}{f:SE}{N:List Str}{k:Nat}{is:List Nat}{scope:Scope}{pos:Pos}
inductive CI (K:Fg) (bd:SG) (c:ST) (f:SE) (xs ys:List D) (st2:Store) (ρ1:Loc) (H1:Hp) (p:Addr) (i:Nat) (τ:St) (H':Hp):Prop where
 | mk {ρ2:Loc} {σ2:DS} {st3:Store} {acc:List D} {accV:List V} {zs:List D} (x2:ExtG ρ1 H1 ρ2 H') (hg:ρ2.g=p::ρ1.g) (hpp:H' p=some (.lst accV)) (hal:AtAll K ρ2 H' acc accV) (hli:acc.length<=i) (a2:AtS K ρ2 H' σ2 τ) (rp2:Rep K ρ2 st3 H') (e3:compF bd c f (xs.drop i) σ2 st3=.ok zs st2) (hac:acc++zs=ys):CI K bd c f xs ys st2 ρ1 H1 p i τ H'
theorem zbju {K:Fg}{τ:St}{H:Hp}{Q:V->Hp->Prop}{ρ:Loc}{σ:DS}{st st1 st2:Store}{xs ys:List D}(a:AtS K ρ H σ τ)(rp:Rep K ρ st H)(e1:it σ st=.ok xs st1)(hlen:xs.length<=sizeLine)(e2:compF bd c f xs (aT k is σ) st1=.ok ys st2)
 (fin:∀ρ1 H1 p ρ2 H' accV,Ext ρ H ρ1 H1->Rep K ρ1 st1 H1->H1 p=none->ExtG ρ1 H1 ρ2 H'->ρ2.g=p::ρ1.g->H' p=some (.lst accV)->AtAll K ρ2 H' ys accV->Rep K ρ2 st2 H'->Q (.ref p) H'):tComp (iD K it) k is (gD K bd) (tDT K c) (tD K f) τ H Q:=by
 refine⟨ρ,σ,st,xs,st1,a,rp,e1,fun ρ1 H1 J x1 rp1 ok p hp=>?_⟩
 refine⟨fun i m τ' H'=>i+m=xs.length/\CI K bd c f xs ys st2 ρ1 H1 p i τ' H',
  ⟨xs.length,by lia,.mk ?_ rfl zr .nil (xea _) (((a.ext x1).start k is).map fun d v h=>h.with hp) (rp1.with hp []) e2 rfl⟩,?_⟩
 ·have E:Ext ρ1 H1 ρ1 (upd H1 p (.lst [])):=Ext.new hp _
  exact⟨E.len,E.old,E.keep,fun a h=>by
   rcases xbp.mp h with rfl | h
   ·exact .inr hp
   ·exact .inl h,E.frz⟩
 rintro i m τ' H' ⟨him,@⟨ρ2,σ2,st3,acc,accV,zs,x2,hg,hpp,hal,hli,a2,rp2,e3,hac⟩⟩;have hpg:p∈ρ2.g:=by rw[hg];exact xbn
 rcases xff i xs.length with hlt | hge
 ·obtain⟨x,hx,hd⟩:=zzw hlt;rw[hd] at e3;obtain⟨go,yl⟩:=ok.item ρ2 H' x2 i x hx
  refine .inr ⟨go,CI K bd c f xs ys st2 ρ1 H1 p (i+1),
   fun τ4 H4 hh=>⟨m - 1,by lia,by lia,hh⟩,fun y H3 hy=>?_⟩
  obtain⟨y1,y4⟩:=yl y H3 hy;obtain⟨y2,y3⟩:=y4 _ rp2;unfold compF at e3;cases hbd:bd x σ2 with
  | none=>rw[hbd] at e3;cases e3
  | some σ1 =>
   rw[hbd] at e3;dsimp only at e3;obtain⟨bb,st4,e4,e5⟩:=za e3;refine⟨ρ2,σ2,x,σ1,a2.ext y1,y3,hbd,fun τ4 a4=>?_⟩;have hpm:some p∉ρ2.m:=(rp2.gh p hpg).2;have hpp3:=(y1.keep p _ hpp hpm).1;refine⟨ρ2,σ1,st3,bb,st4,a4,y2,e4,fun ρ5 H5 x5 rp5=>?_⟩;have hpp5:=(x5.keep p _ hpp3 hpm).1;have hal5:=(hal.ext y1).ext x5;have g5:ρ5.g=p::ρ1.g:=x5.gho.trans hg;cases bb with
   | false =>
    rw[if_neg (by decide)] at e5;exact iteF (.mk ((x2.then y1).then x5) g5 hpp5 hal5 (xfz hli) (a4.ext x5) rp5 e5 hac)
   | true =>
    rw[if_pos rfl] at e5;obtain⟨w,st6,e6,e7⟩:=za e5;obtain⟨zs',st7,e8,e9⟩:=za e7;cases e9;refine iteT ⟨ρ5,σ1,st4,w,st6,a4.ext x5,rp5,e6,fun ρ6 H6 u x6 rp6 a6=>?_⟩;have hpm5:some p∉ρ5.m:=(x5.keep p _ hpp3 hpm).2;have hpp6:=(x6.keep p _ hpp5 hpm5).1;have g6:ρ6.g=p::ρ1.g:=x6.gho.trans g5;have hp6:p∈ρ6.g:=by rw[g6];exact xbn
    have hl6:accV.length<=i:=by rw[hal.length];exact hli
    refine⟨accV,hpp6,xde hl6 (xbg hlt hlen),.mk (acc:=acc++[w]) (accV:=accV++[u]) ?_ g6 zr ?_ (by rw[xbj];exact xfc hli) ?_ (rp6.grow rfl hp6 (fun _ h=>h) _) e8 (by rw[← hac,xcg];rfl)⟩
    ·have G:=((x2.then y1).then x5).then x6;refine⟨G.len,G.old,fun b o e n=>?_,G.gho,fun b ob uu e=>?_⟩
     ·rw[zt (zl e hp)];exact G.keep b o e n
     ·rw[zt (zl e hp)];exact G.frz b ob uu e
    ·exact((hal5.ext x6).append (.cons a6 .nil)).grow rfl hp6 (fun _ h=>h)
    ·exact(a4.ext (x5.trans x6)).map fun d v h=>h.grow rfl hp6 (fun _ h=>h)
 ·rw[xim hge] at e3;unfold compF at e3;cases e3;rw[xdd] at hac;subst hac;exact .inl ⟨ok.done _ _ x2 i hge,fin _ _ _ _ _ _ x1 rp1 hp x2 hg hpp hal rp2⟩
theorem zbon {K:Fg}:∀τ H Q,tD K (aG it k is bd c f) τ H Q->tComp (iD K it) k is (gD K bd) (tDT K c) (tD K f) τ H Q:=fun τ H Q hq0=>by
 obtain⟨ρ,σ,st,v,st',a,rp,e,q⟩:=hq0;obtain⟨xs,st1,e1,e⟩:=za e;split at e
 ·rename_i hlen;obtain⟨ys,st2,e2,e⟩:=za e;cases e;refine zbju a rp e1 hlen e2 fun ρ1 H1 p ρ2 H' accV x1 rp1 hp x2 hg hpp hal rp2=>?_
  have hpg:p∈ρ2.g:=by rw[hg];exact xbn
  have hpm:some p∉ρ2.m:=(rp2.gh p hpg).2;have self:upd H' p (.lst accV)=H':=zban hpp;have sub:∀a,a∈(⟨ρ2.m,ρ1.g⟩:Loc).g->a∈ρ2.g:=fun b hb=>by rw[hg];exact xbk _ hb
  have E:Ext ρ1 H1 ⟨ρ2.m,ρ1.g⟩ H':=⟨x2.len,x2.old,x2.keep,rfl,x2.frz⟩
  have R:=rp2.grow (ρ':=⟨ρ2.m,ρ1.g⟩) rfl hpg sub accV;have L:=AtAll.grow (ρ:=ρ2) (ρ':=⟨ρ2.m,ρ1.g⟩) (o:=.lst accV) rfl hpg sub hal;rw[self] at R L;refine q _ _ _ (x1.trans E) R (.lst hpp ⟨hpm,fun z=>?_⟩ L);obtain⟨⟨ws,h1⟩,_⟩:=rp1.gh p z;rw[hp] at h1;cases h1
 ·cases e
theorem zbok (hcalm:X.calm=true)(hi:DI X tg iter it)(hg:∀cl C fp s H,DG (cxC X N scope cl C fp s H) tg bd)(hc:∀cl C fp s H,PIf (cxC X N scope cl C fp s H) ifs (tDT X.K c))(he:∀cl C fp s H,DE (cxC X N scope cl C fp s H) elt f)
 (S:CompScope X N k is scope)(hs:∀x,foldedSetIterable iter X.env x=pure x:=by intro _;rfl):DE X (.ListComp elt [⟨tg,iter,ifs,0⟩] scope pos) (aG it k is bd c f):=zex (zyt hcalm hi hg hc he S hs) zbon
theorem zbjb {X:Cx}:PIf X [] (tDT X.K aI):=fun aU s σ H Q I hq0=>by
 obtain⟨ρ,σ',st,v,st',a,rp,e,q⟩:=hq0;cases e;exact zbgg aU s σ H Q I (q _ _ (.refl _ _) rp)
theorem zbja {X:Cx}{c:Expr}{t:ST}(h:DT X c t):PIf X [c] (tDT X.K t):=zbgf h
end
end Dd
namespace Dd
open PySem L2 PyProof.Rows
noncomputable def spD (K:Fg) (np:Nat) (F:DFn):Sp:=fun vs H Q _=>∃ρ ds st v st',AtAll K ρ H ds vs/\Rep K ρ st H/\F ds st=.ok v st'/\vs.length=np/\∀ρ' H' u,Ext ρ H ρ' H'->Rep K ρ' st' H'->At K ρ' H' v u->Q u H'
noncomputable def CalD (P:Program) (w:World) (K:Fg) (mg:Str->Option Value) (base:Heap) (x:Str) (k:Nat) (ps:List Str) (F:DFn):Prop:=Callee P w K mg base x k ps (spD K ps.length F)
noncomputable def fnD (n np:Nat) (body:SS):DFn:=fun ds st=>if ds.length=np then(match body (ds.map some++List.replicate (n - np) none) st with
 | .ok (.ret v) st'=>.ok v st'
 | .ok (.nx _) st'=>.ok .non st'
 | .exc x st'=>.exc x st'
 | _=>.stuck) else .stuck
section
variable {X:Cx}{x:Str}{k:Nat}{ps:List Str}{F:DFn}{p pos:Pos}{e:Expr}{es:List Expr}{g:SA}
theorem zbop {K:Fg}{np:Nat}{f:SA}(hn:∀ds st v st',F ds st=.ok v st'->ds.length=np):∀τ H Q,tD K (aE F f) τ H Q->tCall (spD K np F) [] E0 (tDA K f) τ H Q:=fun τ H Q hq0=>by
 obtain⟨ρ,σ,st,v,st',a,rp,e,q⟩:=hq0;obtain⟨x,st1,e1,e⟩:=za e;refine⟨ρ,σ,st,x,st1,a,rp,e1,fun ρ1 H1 u x1 rp1 a1=>?_⟩;show spD K np F (u++[]) H1 Q E0;rw[xdd];exact⟨ρ1,x,st1,v,st',a1,rp1,e,by rw[a1.length];exact hn _ _ _ _ e,fun ρ' H' w x2=>q ρ' H' w (x1.trans x2)⟩
theorem zbol (c:CalD X.prog X.w X.K X.mg X.base x k ps F)(hn:∀ ds st v st', F ds st=.ok v st'->ds.length=ps.length)(hr:Room k X.A)(hg:Gl X x)(ha:DA X (e::es) g)(hdb:(x==("__debug__" : Str))=false:=by decide)
 (he:starEach (e::es) X.env=(false,eval e X.env)::starEach es X.env:=by rfl)(hpl:(backTo pos (starEach es X.env)).any (·.1)=false:=by rfl) :
 DE X (.Call (.Name x p) (e::es) [] pos) (aE F g):=zex (zbbt c hr hg ha hdb he hpl) (zbop hn)
theorem zzo {n np:Nat}{b:SS}{ds:List D}{st st':Store}{v:D}(h:fnD n np b ds st=.ok v st'):ds.length=np:=by
 unfold fnD at h;split at h
 ·assumption
 ·cases h
end
theorem AtAll.some {K:Fg}{ρ:Loc}{H:Hp}:∀{ds:List D} {vs:List V},AtAll K ρ H ds vs->AtS K ρ H (ds.map Option.some) (vs.map Option.some)
 | _,_,.nil=>.nil
 | _,_,.cons a b=>.cons (fun d e=>by cases e;exact⟨_,rfl,a⟩) (AtAll.some b)
theorem AtS.append {K:Fg}{ρ:Loc}{H:Hp}:∀{a c:DS} {b d:L2.St},AtS K ρ H a b->AtS K ρ H c d->AtS K ρ H (a++c) (b++d)
 | _,_,_,_,.nil,h=>h
 | _,_,_,_,.cons r t,h=>.cons r (AtS.append t h)
theorem AtS.nones {K:Fg}{ρ:Loc}{H:Hp}:∀n,AtS K ρ H (List.replicate n none) (List.replicate n none)
 | 0=>.nil
 | n+1=>.cons (fun d e=>nomatch e) (AtS.nones n)
theorem zbka {K:Fg}{N:List Str}{np:Nat}{b:SS}{vs:List V}{H:Hp}{Q:VK}{E:XK}(h:spD K np (fnD N.length np b) vs H Q E):tDS K b {nx:=fun _ H'=>Q .non H',rt:=Q} (L2.start N vs) H:=by
 obtain⟨ρ,ds,st,v,st',a,rp,e,hl,q⟩:=h;have hd:ds.length=np:=by rw[← a.length];exact hl
 unfold fnD at e;rw[if_pos hd] at e;have as:AtS K ρ H (ds.map Option.some++List.replicate (N.length - np) none) (L2.start N vs):=by
  unfold L2.start;rw[hl];exact a.some.append (.nones _)
 refine⟨ρ,ds.map Option.some++List.replicate (N.length - np) none,st,?_⟩;cases hr:b (ds.map Option.some++List.replicate (N.length - np) none) st with
 | stuck=>rw[hr] at e;cases e
 | exc z w=>rw[hr] at e;cases e
 | ok fl st1 =>
  rw[hr] at e;cases fl with
  | ret w =>
   dsimp only at e;cases e;exact⟨.ret v,st',as,rp,rfl,fun ρ' H' u x r t=>q ρ' H' u x r t⟩
  | nx σ =>
   dsimp only at e;cases e;exact⟨.nx σ,st',as,rp,rfl,fun ρ' H' τ x r t=>q ρ' H' .non x r .non⟩
  | brk σ=>cases e
  | ct σ=>cases e
theorem zbjx {P:Program}{w:World}{K:Fg}{mg:Str->Option Value}{base h:Heap}{x:Str}{st:Stmt}{N ps:List Str}{k:Nat}{b:SS}(T:TopF K x st)(X:K.In h)(G:h.Ns mainGlobals mg)(S:FnScope N ps (defScope st))
  (bd:∀(kV doc pm:Value) (an:Option Addr) (cdv ct:Value) (us:List Value),us.length=ps.length->bindArgs (W.fnOf x x (defArgs st) (defBody st) (defScope st) .none kV doc pm an cdv ct) ⟨us,[]⟩=pure (ps.zip us))
  (hbody:∀(f:Addr) (cdv:Value) (A:Around) (outer:List Env) (s:Shared) (H:Hp) (E:XK),Room k (A.deeper (envOfC x (defScope st) s.heap.objs.size f cdv)) ->
   DSs (cxOf CX0 P w K mg base N x (defScope st) f cdv A outer s H E).nox (defBody st) b):CalD P w K mg base x (k+1) ps (fnD N.length ps.length b) :=
 zpm T X G S bd (fun vs H Q E hh=>by obtain⟨ρ,ds,st,v,st',a,rp,e,hl,q⟩:=hh;exact hl) fun f cdv A outer s H vs Q E hr hh=>⟨_,hbody f cdv A outer s H E hr,zbka hh⟩
noncomputable def spLaw (K:Fg):Sp:=fun vs H Q _=>∃(a:Addr) (ns:List Int),vs=[.ref a]/\SqL K H a (ns.map V.int)/\ns.length<=63/\∀H',Q (.bl true) H'
theorem zbmu {P:Program}{w:World}{K:Fg}{mg:Str->Option Value}{base:Heap}{st:Stmt}{N ps:List Str}{k:Nat}{b:SS}{f:Addr}{fd:FuncData}(F:Fun K "law" "law" st f fd)(S:FnScope N ps (defScope st))(hp:ps.length=1)
  (hbody:∀(cdv:Value) (A:Around) (outer:List Env) (s:Shared) (H:Hp) (E:XK), Room k (A.deeper (envOfC "law" (defScope st) s.heap.objs.size f cdv)) ->
   DSs (cxOf CX0 P w K mg base N "law" (defScope st) f cdv A outer s H E).nox (defBody st) b)
  (holds:∀ns:List Int,ns.length<=63->∃st',fnD N.length 1 b [.scr (ns.map .int)] []=.ok (.bl true) st'):FnOk P w K mg base CX0 (k+1) f fd ps (spLaw K):=by
 refine F.ok S (fun vs H Q E hh=>?_) (fun cdv A outer s H vs Q E hr hh=>⟨_,hbody cdv A outer s H E hr,?_⟩)
 ·obtain⟨a,ns,rfl,_⟩:=hh;exact hp.symm
 ·obtain⟨a,ns,rfl,hS,hl,q⟩:=hh;obtain⟨st',e⟩:=holds ns hl;refine zbka (np:=1) (E:=E) ⟨⟨[],[]⟩,[.scr (ns.map .int)],[],_,st',.cons (.scr ?_ (zgc ns)) .nil,⟨rfl,fun n m a e _=>by simp at e,fun n a o e _=>by simp at e,fun a h=>(by cases h),fun n o e _=>by simp at e⟩,e,rfl,fun ρ' H' u x r t=>?_⟩
  ·rcases hS with h | h
   ·exact .inl ⟨h,by simp[Out]⟩
   ·exact .inr fun H'=>.inr h
  ·cases t;exact q H'
end Dd
namespace Dd
open PySem L2
noncomputable def oNeg:D->Store->Res D:=fun x st=>match x with
 | .int i=>.ok (.int (-i)) st
 | _=>.stuck
noncomputable def sStuck:SS:=fun _ _=>.stuck
noncomputable def tru (st:Store):D->Option Bool
 | .non=>some false
 | .bl b=>some b
 | .int i=>some (i != 0)
 | .tup xs=>some !xs.isEmpty
 | d=>(asL st d).map fun xs=>!xs.isEmpty
noncomputable def eTru (f:SE):ST:=fun σ st=>(f σ st).bind fun v st1=>match tru st1 v with
 | some b=>.ok b st1
 | none=>.stuck
theorem zlm {K:Fg}{ρ:Loc}{H:Hp}{ds:List D}{vs:List V}(h:AtAll K ρ H ds vs):ds.isEmpty=vs.isEmpty:=by
 cases h<;>rfl
theorem zbkw {K:Fg}{ρ:Loc}{st:Store}{H:Hp}(rp:Rep K ρ st H){d:D}{u:V}{b:Bool}(a:At K ρ H d u)(e:tru st d=some b):TruV K u H b:=by
 unfold tru at e;split at e
 ·cases a;cases e;exact rfl
 ·cases a;cases e;exact rfl
 ·cases a;cases e;exact rfl
 ·cases e;cases a with
  | tup h1 h2 h3=>exact .inr (.inl ⟨_,SqT.of h1,by rw[zlm h3]⟩)
 ·obtain⟨xs,h0,rfl⟩:=xdg.mp e;obtain⟨p,vs,rfl,h1,h2⟩:=zgf rp a h0;exact .inl ⟨_,SqL.of h1,by rw[zlm h2]⟩
section
variable {X:Cx}{a b c e:Expr}{f f' f'':SE}{pos:Pos}{sm:Stmt}
theorem zbdg:DSt X sm sStuck:=fun aU s σ H E I ⟨ρ,σ',st,fl,st',a,rp,e,q⟩=>by cases e
theorem zbns (h:DE X a f)(he:∀whole,isTrue a X.env whole=(do let v ← whole;standAt a.pos;holding [v] (truthy v)):=by intro _;rfl):DT X a (eTru f):=zbkk (zbbc h he) fun τ H Q hq0=>by
 obtain⟨ρ,σ,st,v,st',at',rp,e,q⟩:=hq0;obtain⟨x,st1,e1,e⟩:=za e;refine⟨ρ,σ,st,x,st1,at',rp,e1,fun ρ1 H1 u x1 rp1 a1=>?_⟩;split at e
 ·rename_i bb hb;cases e;exact⟨_,zbkw rp1 a1 hb,q _ _ x1 rp1⟩
 ·cases e
end
end Dd
namespace Dd
open PySem PySem.Spec PyProof.Rows L2
noncomputable def numF:Int->List D->List D
 | _,[]=>[]
 | n,x::xs=>.tup [.int n,x]::numF (n+1) xs
theorem zfz:∀{xs:List D} {n:Int} {i:Nat} {d:D},(numF n xs)[i]?=some d->∃x,xs[i]?=some x/\d=.tup [.int (n+i),x]
 | [],_,_,_,h=>by simp[numF] at h
 | x::xs,n,0,d,h=>by
  simp[numF] at h;exact⟨x,rfl,by rw[← h];simp⟩
 | x::xs,n,i+1,d,h=>by
  simp only[numF,xjz] at h;obtain⟨y,h1,h2⟩:=zfz h;exact⟨y,by simpa using h1,by rw[h2];congr 3;push_cast;lia⟩
theorem zce:∀{xs:List D} {n:Int},(numF n xs).length=xs.length
 | [],_=>rfl
 | _::xs,n=>by simp[numF,zce (xs:=xs)]
section
variable {X:Cx}{l:Expr}{f:SE}{elts:List Expr}{k j:Nat}{tpos p pos kpos cpos:Pos}
end
end Dd
namespace Dd
open PySem L2
noncomputable def bInt:List D->Store->Res D:=fun xs st=>match xs with
 | [.int i]=>.ok (.int i) st
 | [.bl k]=>.ok (.int (if k then 1 else 0)) st
 | _=>.stuck
theorem zbpe {K:Fg}:CaD K bInt (fun xs H Q=>(∃i,xs=[.int i]/\Q (.int i) H)\/∃k,xs=[.bl k]/\Q (.int (if k then 1 else 0)) H):=fun ρ H st xs us z st' Q rp aa e q=>by
 unfold bInt at e;split at e
 ·cases e;obtain⟨u,rfl,a⟩:=aa.one;cases a;exact .inl ⟨_,rfl,q _ _ _ (.refl _ _) rp (.int _)⟩
 ·cases e;obtain⟨u,rfl,a⟩:=aa.one;cases a;exact .inr ⟨_,rfl,q _ _ _ (.refl _ _) rp (.int _)⟩
 ·cases e
theorem zyh {ρ:Loc}{g':List Addr}{p a:Addr}(hg:p∈ρ.g)(hs:∀a,a∈g'->a∈ρ.g)(n:Out ρ a):Out ⟨ρ.m++[some p],g'⟩ a :=
 ⟨fun z=>by
  rcases xbw.mp z with z | z
  ·exact n.1 z
  ·simp at z;subst z
   exact n.2 hg,fun z=>n.2 (hs _ z)⟩
theorem zve {ρ:Loc}{g':List Addr}{H:Hp}{p:Addr}(hg:p∈ρ.g)(hs:∀a,a∈g'->a∈ρ.g):Mv ρ H ⟨ρ.m++[some p],g'⟩ H:=⟨fun e n=>⟨e,zyh hg hs n⟩,by
 show ρ.m.length<=(ρ.m++[some p]).length;rw[xbj];exact xbz _ _,fun n a h q=>by
 have q':(ρ.m++[some p])[n]?=some (some a):=q;rw[xbu h] at q'
 exact q'⟩
theorem At.adopt {K:Fg}{ρ:Loc}{g':List Addr}{H:Hp}{p:Addr}(hg:p∈ρ.g)(hs:∀a,a∈g'->a∈ρ.g){d:D}{v:V}(h:At K ρ H d v):At K ⟨ρ.m++[some p],g'⟩ H d v:=h.mv (zve hg hs)
theorem AtAll.adopt {K:Fg}{ρ:Loc}{g':List Addr}{H:Hp}{p:Addr}(hg:p∈ρ.g)(hs:∀a,a∈g'->a∈ρ.g){d:List D}{v:List V}(h:AtAll K ρ H d v):AtAll K ⟨ρ.m++[Option.some p],g'⟩ H d v:=h.mv (zve hg hs)
theorem Rep.adopt {K:Fg}{ρ:Loc}{g':List Addr}{st:Store}{H:Hp}{p:Addr}{xs:List D}{vs:List V}(r:Rep K ρ st H)(hg:p∈ρ.g)(hs:∀a,a∈g'->a∈ρ.g)(hn:p∉g')(hp:H p=some (.lst vs))(al:AtAll K ρ H xs vs) :
  Rep K ⟨ρ.m++[some p],g'⟩ (st++[.lst xs]) H:=by
 have hpm:some p∉ρ.m:=(r.gh p hg).2;have nl:∀(m:Nat),ρ.m[m]?≠some (some p):=fun m e=>hpm (xca e)
 have cs:∀(m:Nat) (b:Addr),(ρ.m++[some p])[m]?=some (some b)->(m < ρ.m.length/\ρ.m[m]?=some (some b))\/(m=ρ.m.length/\b=p):=fun m b e=>by
  rcases xff m ρ.m.length with z | z
  ·rw[xbu z] at e;exact .inl ⟨z,e⟩
  ·rw[xcs z] at e;have z2:m - ρ.m.length=0:=by
    have:=(xbh.mp e).1;simp at this;lia
   rw[z2] at e;simp at e;exact .inr ⟨by lia,e.symm⟩
 refine⟨by simp[r.len],fun m k b e1 e2=>?_,fun m b y e1 e2=>?_,fun b hb=>?_,fun m y e ne=>?_⟩
 ·rcases cs m b e1 with⟨h1,q1⟩ | ⟨h1,rfl⟩
  ·rcases cs k b e2 with⟨h2,q2⟩ | ⟨h2,rfl⟩
   ·exact r.inj m k b q1 q2
   ·exact absurd q1 (nl m)
  ·rcases cs k b e2 with⟨h2,q2⟩ | ⟨h2,_⟩
   ·exact absurd q2 (nl k)
   ·lia
 ·rcases cs m b e1 with⟨h1,q1⟩ | ⟨h1,rfl⟩
  ·rw[xbu (by rw[← r.len];exact h1)] at e2;exact(r.obj m b y q1 e2).map (fun d v h=>h.adopt hg hs) (fun _ _ _ e=>e) rfl
  ·rw[h1,r.len,xcs (xbf _)] at e2;simp at e2;subst e2;exact⟨vs,hp,al.adopt hg hs⟩
 ·obtain⟨h1,h2⟩:=r.gh b (hs b hb);refine⟨h1,fun z=>?_⟩;rcases xbw.mp z with z | z
  ·exact h2 z
  ·simp at z;subst z;exact hn hb
 ·rcases xff m st.length with z | z
  ·rw[xbu z] at e;obtain⟨b,hb⟩:=r.live m y e ne;exact⟨b,by show(ρ.m++[some p])[m]?=_;rw[xbu (by rw[r.len];exact z)];exact hb⟩
  ·have z2:=(xbh.mp e).1;simp at z2;have z3:m=ρ.m.length:=by rw[r.len];lia
   exact⟨p,by show(ρ.m++[some p])[m]?=_;rw[z3,xcs (xbf _)];simp⟩
noncomputable def eCompM (it:SA) (k:Nat) (is:List Nat) (bd:SG) (c:ST) (f:SE):SE:=fun σ st=>(it σ st).bind fun xs st1=>if xs.length<=sizeLine then(compF bd c f xs (aT k is σ) st1).bind fun ys st2=>.ok (.ref st2.length) (st2++[.lst ys]) else .stuck
section
variable {X:Cx}{tg iter elt:Expr}{ifs:List Expr}{it:SA}{bd:SG}{c:ST}{f:SE}{N:List Str}{k:Nat}{is:List Nat}{scope:Scope}{pos:Pos}
theorem zbjs {K:Fg}:∀τ H Q,tD K (eCompM it k is bd c f) τ H Q->tComp (iD K it) k is (gD K bd) (tDT K c) (tD K f) τ H Q:=fun τ H Q hq0=>by
 obtain⟨ρ,σ,st,v,st',a,rp,e,q⟩:=hq0;obtain⟨xs,st1,e1,e⟩:=za e;split at e
 ·rename_i hlen;obtain⟨ys,st2,e2,e⟩:=za e;cases e;refine zbju a rp e1 hlen e2 fun ρ1 H1 p ρ2 H' accV x1 rp1 hp x2 hg hpp hal rp2=>?_
  have hpg:p∈ρ2.g:=by rw[hg];exact xbn
  have hpm:some p∉ρ2.m:=(rp2.gh p hpg).2;have sub:∀a,a∈ρ1.g->a∈ρ2.g:=fun b hb=>by rw[hg];exact xbk _ hb
  have hn1:p∉ρ1.g:=fun z=>by
   obtain⟨⟨ws,h1⟩,_⟩:=rp1.gh p z;rw[hp] at h1;cases h1
  have R:=rp2.adopt hpg sub hn1 hpp hal
  have E:Ext ρ1 H1 ⟨ρ2.m++[some p],ρ1.g⟩ H':=⟨by
    show ρ1.m.length<=(ρ2.m++[some p]).length;rw[xbj];exact xbc x2.len (xbz _ _),fun n b h e=>by
    have e':(ρ2.m++[some p])[n]?=some (some b):=e;rw[xbu (xbg h x2.len)] at e'
    exact x2.old n b h e',fun b o e m=>⟨(x2.keep b o e m).1,fun z=>by
    rcases xbw.mp z with z | z
    ·exact(x2.keep b o e m).2 z
    ·simp at z;subst z
     rw[hp] at e;cases e⟩,rfl,x2.frz⟩
  exact q _ _ _ (x1.trans E) R (.last (ρ:=⟨ρ2.m,ρ1.g⟩) rp2.len.symm)
 ·cases e
theorem zbjo (hcalm:X.calm=true)(hi:DI X tg iter it)(hg:∀cl C fp s H,DG (cxC X N scope cl C fp s H) tg bd)(hc:∀cl C fp s H,PIf (cxC X N scope cl C fp s H) ifs (tDT X.K c))(he:∀cl C fp s H,DE (cxC X N scope cl C fp s H) elt f)
 (S:CompScope X N k is scope)(hs:∀x,foldedSetIterable iter X.env x=pure x:=by intro _;rfl):DE X (.ListComp elt [⟨tg,iter,ifs,0⟩] scope pos) (eCompM it k is bd c f):=zex (zyt hcalm hi hg hc he S hs) zbjs
end
noncomputable def plainE:Expr->Bool
 | .Starred _ _=>false
 | _=>true
theorem zks {e:Expr}{es:List Expr}{env:Env}(h:plainE e=true):starEach (e::es) env=(false,eval e env)::starEach es env:=by
 cases e<;>first | rfl | cases h
theorem zbdm {X:Cx}{e:Expr}{es:List Expr}{f:SE}{g:SA}(ha:DE X e f)(hr:DA X es g)(hp:plainE e=true:=by rfl):DA X (e::es) (aB f g):=zbjh ha hr (zks hp)
noncomputable def bBest (gt:Bool):List D->Store->Res D:=fun xs st=>match xs with
 | [x]=>match (seqOf st x).bind asInts with
  | some (n::ns)=>.ok (.int (bestI gt n ns)) st
  | _=>.stuck
 | _=>.stuck
theorem zbke {K:Fg}{gt:Bool}:CaD K (bBest gt) (rBest K gt):=fun ρ H st xs us z st' Q rp aa e q=>by
 unfold bBest at e;split at e
 ·split at e
  ·rename_i n ns h;cases e;obtain⟨ys,h0,h⟩:=xel.mp h;obtain⟨u,rfl,a⟩:=aa.one;obtain⟨p,vs,rfl,h1,h2⟩:=zjl rp a h0;have e:=zcr h2 h;subst e;exact⟨p,n,ns,rfl,h1,q _ _ _ (.refl _ _) rp (.int _)⟩
  ·cases e
 ·cases e
noncomputable def pairsF:List D->List D->List D
 | x::xs,y::ys=>.tup [x,y]::pairsF xs ys
 | _,_=>[]
noncomputable def iZipT (g:SA):SA:=fun σ st=>(g σ st).bind fun xs st1=>match xs with
 | [.tup a,.tup b]=>.ok (pairsF a b) st1
 | _=>.stuck
section
variable {X:Cx}{a b:Expr}{g:SA}{elts:List Expr}{k:Nat}{tpos p pos:Pos}
end
noncomputable def sSetG (bd:SG) (f:SE):SS:=fun σ st=>(f σ st).bind fun v st1=>match bd v σ with
 | some σ1=>.ok (.nx σ1) st1
 | none=>.stuck
end Dd
namespace Dd
open PySem L2 PyProof.Rows
structure JE (X:Cx) (e:Expr) (f:SE):Prop where out:DE X e f
structure JT (X:Cx) (e:Expr) (f:ST):Prop where out:DT X e f
structure JW (X:Cx) (e:Expr) (f:ST):Prop where out:DW X e f
structure JA (X:Cx) (e:List Expr) (f:SA):Prop where out:DA X e f
structure JS (X:Cx) (s:Stmt) (f:SS):Prop where out:DSt X s f
structure JB (X:Cx) (s:List Stmt) (f:SS):Prop where out:DSs X s f
structure JO (X:Cx) (e:Option Expr) (f:DS->Store->Res (Option Int)):Prop where out:DO X e f
structure JG (X:Cx) (e:Expr) (b:SG):Prop where out:DG X e b
structure JGs (X:Cx) (e:List Expr) (b:List D->DS->Option DS):Prop where out:DGs X e b
structure JI (X:Cx) (tg iter:Expr) (f:SA):Prop where out:DI X tg iter f
structure JIf (X:Cx) (ifs:List Expr) (c:ST):Prop where out:PIf X ifs (tDT X.K c)
structure JC (X:Cx) (op:CmpOp) (a b:Expr) (f:SE):Prop where out:PC X op a b (tD X.K f)
theorem JW.pt {X:Cx}{e:Expr}{t:ST}(h:JW X e t):JT X e t:=⟨PW.pt h.out⟩
section
variable {X:Cx}
theorem zhw {e:Expr}{i:Nat}(h:PE X e (tVar i)):JE X e (aA i):=⟨zbro h⟩
theorem zqz {e:Expr}{v:V}{d:D}(h:PE X e (tC v))(k:∀ρ H,At X.K ρ H d v):JE X e (eC d):=⟨zbjn h k⟩
theorem zd {i j pos}:JE X (.Constant (.int i) j pos) (eC (.int i)):=⟨zbrw⟩
theorem zbdu {b j pos}:JE X (.Constant (.bool b) j pos) (eC (.bl b)):=⟨d_bl⟩
theorem zbjk {j pos}:JE X (.Constant .none j pos) (eC .non):=⟨zbru⟩
theorem zuh {x j pos}:JE X (.Constant (.str x) j pos) (eC (.str x)):=⟨zbrq⟩
end
section
variable {X:Cx}{a b c:Expr}{f f' f'':SE}{pos:Pos}
theorem zcl {op:Operator}{r:R2}{g:D->D->Store->Res D}(ho:OpR X (binaryOp op) r)(hr:OpD X.K g r)(ha:JE X a f)(hb:JE X b f'):JE X (.BinOp a op b pos) (aS g f f'):=⟨d_op ho hr ha.out hb.out⟩
theorem zra {op:CmpOp}{r:R2}{g:D->D->Store->Res D}(ho:OpR X (compareOp op) r)(hr:OpD X.K g r)(ha:JE X a f)(hb:JE X b f')(hm:behindInMarks op b=false):JE X (.Compare a [op] [b] pos) (aS g f f'):=⟨zbrx ho hr ha.out hb.out hm⟩
theorem zu {op:CmpOp}{r:R2}{g:D->D->Store->Res D}(ho:OpR X (compareOp op) r)(hr:OpD X.K g r)(ha:JE X a f)(hb:JE X b f')(hm:behindInMarks op b=false):JT X (.Compare a [op] [b] pos) (eB (aS g f f')):=⟨zbnu ho hr ha.out hb.out hm⟩
end
section
variable {X:Cx}{a b:Expr}{rest:List Expr}{f f':SE}{t t':ST}{pos:Pos}
theorem zbdo {op}(h:JE X a f):JE X (.BoolOp op [a] pos) f:=⟨zbrs h.out⟩
theorem zbdw (ha:JE X a f)(hb:JE X (.BoolOp .And (b::rest) pos) f'):JE X (.BoolOp .And (a::b::rest) pos) (eAnd f f'):=⟨zbry ha.out hb.out⟩
theorem zbji (ha:JE X a f):JE X (.UnaryOp .Not a pos) (eNot f):=⟨zbrt ha.out⟩
theorem zht {op}(h:JT X a t)(hop:op=.And\/op=.Or):JW X (.BoolOp op [a] pos) t:=⟨zbnq h.out hop⟩
theorem zbit (ha:JT X a t)(hb:JW X (.BoolOp .And (b::rest) pos) t'):JW X (.BoolOp .And (a::b::rest) pos) (bAnd t t'):=⟨zbnr ha.out hb.out⟩
theorem zng (ha:JT X a t)(hb:JW X (.BoolOp .Or (b::rest) pos) t'):JW X (.BoolOp .Or (a::b::rest) pos) (bOr t t'):=⟨zbrl ha.out hb.out⟩
theorem ziz (ha:JT X a t):JT X (.UnaryOp .Not a pos) (bNot t):=⟨zbnt ha.out⟩
theorem zbqh {c:Expr}(hc:JT X c t)(ha:JE X a f)(hb:JE X b f'):JE X (.IfExp c a b pos) (eIf t f f'):=⟨d_if hc.out ha.out hb.out⟩
end
section
variable {X:Cx}{e:Expr}{es:List Expr}{f:SE}{g:SA}{pos:Pos}
theorem zbn :JA X [] aC:=⟨zbod⟩
theorem zdp {x1}(h:JA X es g):JE X (.Tuple es x1 pos) (aR g):=⟨zbrp h.out⟩
theorem znk (h:JA X es g):JE X (.List es pos) (eLst g):=⟨zbrv h.out⟩
theorem zfd (h:JA X es g):JE X (.List es pos) (eLstM g):=⟨zbof h.out⟩
end
section
variable {X:Cx}{a b e:Expr}{f f':SE}{pos:Pos}{lo hi:Option Expr}{l h:DS->Store->Res (Option Int)}
theorem zuf :JO X none pNone:=⟨zbiy⟩
theorem zue (he:JE X e f):JO X (some e) (pSome f):=⟨zbix he.out⟩
theorem zfe (ha:JE X a f)(hb:JE X b f')(hs:PlainIx b):JE X (.Subscript a b pos) (aS oIx f f'):=⟨d_ix ha.out hb.out hs⟩
theorem zbqg {p2:Pos}(he:JE X e f)(hl:JO X lo l)(hu:JO X hi h):JE X (.Subscript e (.Slice lo hi none p2) pos) (eSl f l h):=⟨d_sl he.out hl.out hu.out⟩
end
section
variable {X:Cx}{x:Str}{p pos:Pos}{e:Expr}{es:List Expr}{f:SA}{id T:String}{r:List V->Hp->VK->Prop}{g:List D->Store->Res D}
theorem zp (hc:CallR X (.builtin id) r)(hr:CaD X.K g r)(hg:Gl X x)(hm:X.mg x=none)(hv:bootBuiltins x=some (.builtin id))(ha:JA X (e::es) f)(hn:x≠"__name__":=by decide)(hdb:(x==("__debug__" : Str))=false:=by decide)(he:starEach (e::es) X.env=(false, eval e X.env)::starEach es X.env:=by rfl)(hpl:(backTo pos (starEach es X.env)).any (·.1)=false:=by rfl):JE X (.Call (.Name x p) (e::es) [] pos) (aE g f):=⟨zbjp hc hr hg hm hv ha.out hn hdb he hpl⟩
theorem zdf (hc:CallR X (.type T) r)(hr:CaD X.K g r)(hg:Gl X x)(hm:X.mg x=none)(hv:bootBuiltins x=some (.type T))(ha:JA X (e::es) f)(hn:x≠"__name__":=by decide)(hdb:(x==("__debug__" : Str))=false:=by decide)(he:starEach (e::es) X.env=(false, eval e X.env)::starEach es X.env:=by rfl)(hpl:(backTo pos (starEach es X.env)).any (·.1)=false:=by rfl):JE X (.Call (.Name x p) (e::es) [] pos) (aE g f):=⟨zbdt hc hr hg hm hv ha.out hn hdb he hpl⟩
end
section
variable {X:Cx}{a b c o i e value f':Expr}{f g h:SE}{pos pos' apos cpos:Pos}
theorem zpj :JE X (.Dict [] [] pos) eDNew:=⟨zboi⟩
theorem zbme (hu:X.A.units+1 < cLine)(hi:JE X i g)(ho:JE X o f):JC X .In i o (aS (oDIn false) g f):=⟨zbqv hu hi.out ho.out⟩
theorem zbdc {op:CmpOp}{t:SE}(h:JC X op a b t)(h1:behindInMarks op b=false:=by first | exact nobehind _ (by decide) (by decide) | rfl):JT X (.Compare a [op] [b] pos) (eB t):=⟨zbrm h.out h1⟩
theorem zuk (hu:X.A.units+1 < cLine)(ho:JE X o f)(hi:JE X i g)(hs:NoSl i):JE X (.Subscript o i pos) (aS oDGet f g):=⟨zboj hu ho.out hi.out hs⟩
theorem zbdr (hu:X.A.units + 1 < cLine)(ho:JE X o f)(he:JE X e g)(hf:JE X f' h)(m:M2 X o "get" apos e f' cpos):JE X (.Call (.Attribute o "get" apos) [e, f'] [] cpos) (eDGet2 f g h):=⟨zbjm hu ho.out he.out hf.out m⟩
theorem zbjl (hu:X.A.units + 1 < cLine)(ho:JE X o f)(he:JE X e g)(m:M1 X o "pop" apos e cpos):JE X (.Call (.Attribute o "pop" apos) [e] [] cpos) (eDPop f g):=⟨zboh hu ho.out he.out m⟩
theorem zni (hu:X.A.units+1 < cLine)(ho:JE X o f)(hi:JE X i g)(hv:JE X value h)(hs:swapsWith value (some (.Subscript o i pos')) pos.line X.env=pure false):JS X (.Assign [.Subscript o i pos'] value pos) (sDPut f g h):=⟨zbiv hu ho.out hi.out hv.out hs⟩
end
section
variable {X:Cx}{o e i value:Expr}{es:List Expr}{f g h:SE}{ga:SA}{pos apos cpos:Pos}
theorem zdg (ho:JE X o f)(ha:JA X (e::es) ga)(hbase:attributeBase o "append" X.env (eval o X.env)=eval o X.env:=by rfl)(hfew:((backTo cpos (starEach (e::es) X.env)).all (fun x=>!x.1)&&(backToKw cpos (keywordEach [] X.env)).all (fun x=>x.1.isSome)
 && decide ((e::es).length + ([]:List Keyword).length + (if([]:List Keyword).isEmpty then 0 else 1) < 30))=true:=by rfl) (hline:(apos.endLine==cpos.line)=true:=by rfl) (hs:starEach (e::es) X.env=(false, eval e X.env)::starEach es X.env:=by rfl) (hplain:(backTo cpos (starEach es X.env)).any (·.1)=false:=by rfl):JE X (.Call (.Attribute o "append" apos) (e::es) [] cpos) (eAppend f ga):=⟨zbdv ho.out ha.out hbase hfew hline hs hplain⟩
theorem zpi (ho:JE X o f)(ha:JA X (e::es) ga)(hbase:attributeBase o "extend" X.env (eval o X.env)=eval o X.env:=by rfl)(hfew:((backTo cpos (starEach (e::es) X.env)).all (fun x=>!x.1)&&(backToKw cpos (keywordEach [] X.env)).all (fun x=>x.1.isSome)
 && decide ((e::es).length + ([]:List Keyword).length + (if([]:List Keyword).isEmpty then 0 else 1) < 30))=true:=by rfl) (hline:(apos.endLine==cpos.line)=true:=by rfl) (hs:starEach (e::es) X.env=(false, eval e X.env)::starEach es X.env:=by rfl) (hplain:(backTo cpos (starEach es X.env)).any (·.1)=false:=by rfl):JE X (.Call (.Attribute o "extend" apos) (e::es) [] cpos) (eExtend f ga):=⟨zbdq ho.out ha.out hbase hfew hline hs hplain⟩
theorem zbdp (ho:JE X o f):JE X o (eFz f):=⟨d_fz ho.out⟩
end
section
variable {X:Cx}{e c o i value:Expr}{sm:Stmt}{rest:List Stmt}{f g h:SE}{s t:SS}{b:ST}{pos pos':Pos}
theorem zbb :JB X [] sNx:=⟨zbny⟩
theorem zpf :JS X (.Break pos) sBrk:=⟨zbdi⟩
theorem zh (he:JE X e f):JS X (.Return (some e) pos) (sRet f):=⟨zbnw he.out⟩
theorem zbx (he:JE X e f)(hs:swapsWith e none pos.line X.env=pure false:=by rfl):JS X (.Expr e pos) (sDrop f):=⟨zbiu he.out hs⟩
theorem zzt {i:Nat}{x:Str}(hN:X.N.Nodup)(hi:X.N[i]?=some x)(hx:L2.Loc X.env.scope x)(he:JE X e f)(hs:swapsWith e (some (.Name x pos')) pos.line X.env=pure false:=by rfl)(hf:X.fn x=true\/X.env.scope.names.lookup x=some .local:=by first | exact .inl rfl | exact .inr rfl | assumption):JS X (.Assign [.Name x pos'] e pos) (aF i f):=⟨zbnv hN hi hx he.out hs hf⟩
theorem zc (h1:JS X sm s):JB X [sm] s:=⟨zbnx h1.out⟩
theorem zb (h1:JS X sm s)(h2:JB X rest t):JB X (sm::rest) (aD s t):=⟨zbiw h1.out h2.out⟩
theorem zbw {a' b':List Stmt}(hc:JT X c b)(ha:JB X a' s)(hb:JB X b' t):JS X (.If c a' b' pos) (sIf b s t):=⟨zbrn hc.out ha.out hb.out⟩
theorem zzv {i:Nat}{x:Str}{op:Operator}{ti:TIp}{g:D->D->Store->Res D}(hN:X.N.Nodup)(hi:X.N[i]?=some x)(hx:L2.Loc X.env.scope x)(he:JE X e f)(ho:PIp X op ti)(hr:IpD X.K g ti)(hf:X.fn x=true\/X.env.scope.names.lookup x=some .local:=by first | exact .inl rfl | exact .inr rfl | assumption):JS X (.AugAssign (.Name x pos') op e pos) (sAug i g f):=⟨zboa hN hi hx he.out ho hr hf⟩
theorem zpe (he:JE X value h)(ho:JE X o f)(hi:JE X i g)(ha:∀v,assign (.Subscript o i pos') X.env v=(do
 let ov ← holding [v] (eval o X.env)
 let iv ← holding [v,ov] (eval i X.env)
 standAt pos'
 holding [v,ov,iv] (setItem ov iv v)
 release [v,ov,iv] []):=by intro _;rfl) (hs:swapsWithSole [.Subscript o i pos'] value pos.line X.env=pure false:=by rfl) (hw:swappedStores [.Subscript o i pos'] value X.env=pure none:=by rfl) (h1:(assignEach [.Subscript o i pos'] X.env).map (·.2)=[assign (.Subscript o i pos') X.env]:=by rfl):JS X (.Assign [.Subscript o i pos'] value pos) (sSetIx f g h):=⟨zbdf he.out ho.out hi.out ha hs hw h1⟩
end
section
variable {X:Cx}{pos:Pos}{e:Expr}{es:List Expr}{t:SG}{u:List D->DS->Option DS}
theorem zcu {i:Nat}{x:Str}(hN:X.N.Nodup)(hi:X.N[i]?=some x)(hx:L2.Loc X.env.scope x)(hf:X.fn x=true\/X.env.scope.names.lookup x=some .local:=by first | exact .inl rfl | exact .inr rfl | assumption):JG X (.Name x pos) (gN i):=⟨zbje hN hi hx hf⟩
theorem zeq :JGs X [] gsNil:=⟨zbjd⟩
theorem zbc (h1:JG X e t)(h2:JGs X es u)(hs:(assignEach (e::es) X.env).map (·.2)=assign e X.env::(assignEach es X.env).map (·.2):=by rfl):JGs X (e::es) (gsCons t u):=⟨zbdl h1.out h2.out hs⟩
theorem zhv {k:Nat}{n:Nat}(hc:X.calm=true)(h:JGs X es u)(hn:(assignEach es X.env).length=n:=by rfl)(hst:(assignEach es X.env).findIdx? (·.1)=none:=by rfl):JG X (.Tuple es k pos) (gT n u):=⟨zboc hc h.out hn hst⟩
end
section
variable {X:Cx}{tg l a b:Expr}{f:SE}{g:SA}{p pos:Pos}
theorem zbj (hl:JE X l f):JI X tg l (aH f):=⟨zbob hl.out⟩
theorem zdw (hg:Gl X "range")(hm:X.mg "range"=none)(ha:JA X [a] g)(hs:starEach [a] X.env=[(false, eval a X.env)]:=by rfl):JI X tg (.Call (.Name "range" p) [a] [] pos) (iR1 g):=⟨zxv hg hm ha.out hs⟩
theorem zlr (hg:Gl X "range")(hm:X.mg "range"=none)(ha:JA X [a, b] g)(hs:starEach [a, b] X.env=[(false, eval a X.env),(false, eval b X.env)]:=by rfl)(hs2:starEach [b] X.env=[(false, eval b X.env)]:=by rfl):JI X tg (.Call (.Name "range" p) [a, b] [] pos) (iR2 g):=⟨zxu hg hm ha.out hs hs2⟩
end
section
variable {X:Cx}{tg l:Expr}{f:SE}
theorem zbdk (hl:JE X l f):JI X tg l (iDict f):=⟨zbjc hl.out⟩
end
section
variable {X:Cx}{tg iter c:Expr}{body:List Stmt}{it:SA}{bd:SG}{b:SS}{t:ST}{pos:Pos}
theorem zzu (hp:PassesOwn (model X.prog X.w) X.A X.env X.xe)(hc:X.calm=true)(hi:JI X tg iter it)(hg:JG X tg bd)(hb:JB X body b)(hs:∀x,foldedSetIterable iter X.env x=pure x:=by intro _;rfl):JS X (.For tg iter body [] pos) (sFor it bd b):=⟨zbnz hp hc hi.out hg.out hb.out hs⟩
theorem zej (hp:PassesOwn (model X.prog X.w) X.A X.env X.xe)(hc:JT X c t)(hb:JB X body b):JS X (.While c body [] pos) (sWhile t b):=⟨zbde hp hc.out hb.out⟩
end
section
variable {X:Cx}{tg iter elt:Expr}{ifs:List Expr}{it:SA}{bd:SG}{c:ST}{f:SE}{N:List Str}{k:Nat}{is:List Nat}{scope:Scope}{pos:Pos}
theorem zja (hcalm:X.calm=true)(hi:JI X tg iter it)(hg:∀cl C fp s H,JG (cxC X N scope cl C fp s H) tg bd)(hc:∀cl C fp s H,JIf (cxC X N scope cl C fp s H) ifs c)(he:∀cl C fp s H,JE (cxC X N scope cl C fp s H) elt f)(S:CompScope X N k is scope)(hs:∀x,foldedSetIterable iter X.env x=pure x:=by intro _;rfl):JE X (.ListComp elt [⟨tg,iter,ifs,0⟩] scope pos) (aG it k is bd c f):=⟨zbok hcalm hi.out (fun cl C fp s H=>(hg cl C fp s H).out) (fun cl C fp s H=>(hc cl C fp s H).out) (fun cl C fp s H=>(he cl C fp s H).out) S hs⟩
theorem znj {X:Cx}:JIf X [] aI:=⟨zbjb⟩
theorem zkf {X:Cx}{c:Expr}{t:ST}(h:JT X c t):JIf X [c] t:=⟨zbja h.out⟩
end
section
variable {X:Cx}{x:Str}{k:Nat}{ps:List Str}{F:DFn}{p pos:Pos}{e:Expr}{es:List Expr}{g:SA}
theorem zbaa (c:CalD X.prog X.w X.K X.mg X.base x k ps F)(hn:∀ ds st v st', F ds st=.ok v st'->ds.length=ps.length)(hr:Room k X.A)(hg:Gl X x)(ha:JA X (e::es) g)(hdb:(x==("__debug__" : Str))=false:=by decide)(he:starEach (e::es) X.env=(false, eval e X.env)::starEach es X.env:=by rfl)(hpl:(backTo pos (starEach es X.env)).any (·.1)=false:=by rfl):JE X (.Call (.Name x p) (e::es) [] pos) (aE F g):=⟨zbol c hn hr hg ha.out hdb he hpl⟩
end
section
theorem zuu {P:Program}{w:World}{K:Fg}{mg:Str->Option Value}{base h:Heap}{x:Str}{st:Stmt}{N ps:List Str}{k:Nat}{b:SS}(T:TopF K x st)(X:K.In h)(G:h.Ns mainGlobals mg)(S:FnScope N ps (defScope st))(bd:∀(kV doc pm:Value) (an:Option Addr) (cdv ct:Value) (us:List Value),us.length=ps.length->bindArgs (W.fnOf x x (defArgs st) (defBody st) (defScope st) .none kV doc pm an cdv ct) ⟨us,[]⟩=pure (ps.zip us))(hbody:∀(f:Addr) (cdv:Value) (A:Around) (outer:List Env) (s:Shared) (H:Hp) (E:XK),Room k (A.deeper (envOfC x (defScope st) s.heap.objs.size f cdv)) ->
 JB (cxOf CX0 P w K mg base N x (defScope st) f cdv A outer s H E).nox (defBody st) b):CalD P w K mg base x (k+1) ps (fnD N.length ps.length b):=zbjx T X G S bd (fun f cdv A outer s H E rr=>(hbody f cdv A outer s H E rr).out)
end
section
theorem zbhw {P:Program}{w:World}{K:Fg}{mg:Str->Option Value}{base:Heap}{st:Stmt}{N ps:List Str}{k:Nat}{b:SS}{f:Addr}{fd:FuncData}(F:Fun K "law" "law" st f fd)(S:FnScope N ps (defScope st))(hp:ps.length=1)(hbody:∀(cdv:Value) (A:Around) (outer:List Env) (s:Shared) (H:Hp) (E:XK), Room k (A.deeper (envOfC "law" (defScope st) s.heap.objs.size f cdv)) ->
 JB (cxOf CX0 P w K mg base N "law" (defScope st) f cdv A outer s H E).nox (defBody st) b) (holds:∀ ns:List Int, ns.length<=63->∃ st', fnD N.length 1 b [.scr (ns.map .int)] []=.ok (.bl true) st'):FnOk P w K mg base CX0 (k + 1) f fd ps (spLaw K):=zbmu F S hp (fun cdv A outer s H E rr=>(hbody cdv A outer s H E rr).out) holds
end
section
variable {X:Cx}{a b c e:Expr}{f f' f'':SE}{pos:Pos}{sm:Stmt}
theorem zfc :JS X sm sStuck:=⟨zbdg⟩
theorem zck (h:JE X a f)(he:∀whole,isTrue a X.env whole=(do let v ← whole;standAt a.pos;holding [v] (truthy v)):=by intro _;rfl):JT X a (eTru f):=⟨zbns h.out he⟩
end
section
variable {X:Cx}{l:Expr}{f:SE}{elts:List Expr}{k j:Nat}{tpos p pos kpos cpos:Pos}
end
section
variable {X:Cx}{tg iter elt:Expr}{ifs:List Expr}{it:SA}{bd:SG}{c:ST}{f:SE}{N:List Str}{k:Nat}{is:List Nat}{scope:Scope}{pos:Pos}
theorem zbds (hcalm:X.calm=true)(hi:JI X tg iter it)(hg:∀cl C fp s H,JG (cxC X N scope cl C fp s H) tg bd)(hc:∀cl C fp s H,JIf (cxC X N scope cl C fp s H) ifs c)(he:∀cl C fp s H,JE (cxC X N scope cl C fp s H) elt f)(S:CompScope X N k is scope)(hs:∀x,foldedSetIterable iter X.env x=pure x:=by intro _;rfl):JE X (.ListComp elt [⟨tg,iter,ifs,0⟩] scope pos) (eCompM it k is bd c f):=⟨zbjo hcalm hi.out (fun cl C fp s H=>(hg cl C fp s H).out) (fun cl C fp s H=>(hc cl C fp s H).out) (fun cl C fp s H=>(he cl C fp s H).out) S hs⟩
end
section
theorem ze {X:Cx}{e:Expr}{es:List Expr}{f:SE}{g:SA}(ha:JE X e f)(hr:JA X es g)(hp:plainE e=true:=by rfl):JA X (e::es) (aB f g):=⟨zbdm ha.out hr.out hp⟩
end
section
variable {X:Cx}{a b:Expr}{g:SA}{elts:List Expr}{k:Nat}{tpos p pos:Pos}
end
section
end
end Dd
namespace L2
open PySem PySem.Spec PyProof.Rows
section
variable {prog:Program}{w:World}{A:Around}{R:Result->Shared->Prop}{I:Addr}{fp wr:List Addr}{n:Nat}{P:Nat->Value->Prop}{St:Nat->Heap->Prop}
end
section
variable {prog:Program}{w:World}{A:Around}{E:Value->Shared->Prop}{s:Shared}
end
section
variable {X:Cx}{p pos cpos kpos:Pos}{l:Expr}{t:TA}{d:Int}{j:Nat}
end
section
open PySem.AutoSeq1
end
end L2
namespace Dd
open PySem L2
section
variable {X:Cx}{p pos cpos kpos:Pos}{l:Expr}{f:SA}{d:Int}{j:Nat}
end
section
variable {X:Cx}{o e:Expr}{es:List Expr}{f:SE}{ga:SA}{apos cpos:Pos}
end
end Dd
namespace L2
open PySem PySem.Spec PyProof.Rows
section
variable {X:Cx}{p pos cpos kpos upos:Pos}{l:Expr}{t:TA}{d:Int}{j:Nat}
end
end L2
namespace Dd
open PySem L2 PyProof.Rows
section
variable {X:Cx}{p pos cpos kpos upos:Pos}{l:Expr}{f:SA}{d:Int}{j:Nat}
end
end Dd
namespace L2
open PySem PySem.Spec PyProof.Rows
section
variable {X:Cx}
end
section
open PySem.AutoSeq1
variable (l:Addr)(items:Array Value)(n:Nat)(dd:Option Addr)(sl:Array (Option Value))(x:Int)(u:Tok)
end
end L2
namespace Dd
open PySem L2 PyProof.Rows
noncomputable abbrev oOrI:=oI (fun _ _=>True) fun i j=>.int (Builtin.bitOr i j)
noncomputable abbrev oXorI:=oI (fun _ _=>True) fun i j=>.int (Builtin.bitXor i j)
end Dd
namespace L2
open PySem PySem.Spec PyProof.Rows PySem.W
theorem zpy {ns:List Int}{us:List Value}(r:Vals (ns.map V.int) us){i:Nat}(hi:i < ns.length):∃t,us.getD i Value.none=Value.int (ns.getD i 0) t:=by
 have e:(ns.map V.int)[i]?=some (V.int ns[i]):=by rw[xcn,xbd hi];rfl
 obtain⟨u,h1,t,h2⟩:=r.get e;refine⟨t,?_⟩;rw[xbi,h1,xbi,xbd hi];exact h2
theorem zbff {ns:List Int}{us:List Value}(r:Vals (ns.map V.int) us):∀v∈us,∃i t,v=Value.int i t:=fun v hv=>by
 obtain⟨i,hi,rfl⟩:=xeh hv;have hl:=r.length;rw[xbb] at hl;obtain⟨t,e⟩:=zpy r (i:=i) (by lia);rw[xbi,xbd hi] at e;exact⟨_,t,e⟩
theorem zoj (a b:Int):HT.lexLt [a] [b]=decide (a < b):=by
 by_cases h:a=b
 ·subst h;simp[HT.lexLt]
 ·simp[HT.lexLt,h]
noncomputable abbrev ones (ns:List Int):List (List Int):=ns.map fun n=>[n]
theorem zfx {ns:List Int}{i:Nat}(hi:i < ns.length):(ones ns).getD i []=[ns.getD i 0]:=by
 rw[xbi,xcn,xbd hi,xbi,xbd hi]
 rfl
section
variable {P:Program}{w:World}{B:Around}{sg:Shared}
theorem zvb {ns:List Int}{us:List Value}(h2:2<=ns.length)(r:Vals (ns.map V.int) us):Srt.Answers P w B (Srt.rank (ones ns)) us sg:=by
 have hl:=r.length;rw[xbb] at hl;refine⟨oneType',fun R hR=>?_,fun i j C hi hj hC=>?_⟩
 ·exact kas_kind (T:=.type "int") (by lia) (fun v hv=>by
   obtain⟨i,t,rfl⟩:=zbff r v hv
   exact Looks.now) (by decide) (by decide) hR
 ·obtain⟨t,e1⟩:=zpy r (i:=i) (by lia);obtain⟨t2,e2⟩:=zpy r (i:=j) (by lia);unfold kas_ask;rw[e1,e2];rw[Srt.zky (by rw[xbb];lia) (by rw[xbb];lia),zfx (by lia),zfx (by lia),zoj] at hC;rw[keyLt'_oneType];exact oneLt_int hC
end
theorem zuq {ns:List Int}{us:List Value}(r:Vals (ns.map V.int) us):Srt.Coh (Srt.rank (ones ns)) us:=fun i j hi hj e=>by
 have hl:=r.length;rw[xbb] at hl;obtain⟨t,e1⟩:=zpy r (i:=i) (by lia);obtain⟨t2,e2⟩:=zpy r (i:=j) (by lia);rw[e1,e2] at e;have:ns.getD i 0=ns.getD j 0:=by injection e
 unfold Srt.rank;rw[zfx (by lia),zfx (by lia),this]
theorem zmb {α:Type}{f:α->V}{g:α->Value}:∀{l:List α},(∀a∈l,RelV (f a) (g a))->Vals (l.map f) (l.map g)
 | [],_=>.nil
 | a::l,h=>.cons (h a xbn) (zmb fun b hb=>h b (xbk _ hb))
theorem zss {ns:List Int}{us:List Value}(r:Vals (ns.map V.int) us){p:Array Nat}(p1:p.Perm (List.toArray (List.range ns.length)))(p2:Srt.Up (Srt.rank (ones ns)) p ns.length) :
  ∃ms:List Int,ms.Perm ns/\ms.Pairwise (·<=·)/\Vals (ms.map V.int) (Srt.outOf us p).toList:=by
 have hl:=r.length;rw[xbb] at hl;have hps:p.size=ns.length:=by rw[p1.size_eq];simp
 have sm:∀i∈p.toList,i < ns.length:=fun i hi=>by
  have h3:=(p1.mem_iff (a:=i)).mp (by rw[← xkv];exact hi);exact xcd.mp (List.mem_toArray.mp h3)
 refine⟨p.toList.map fun i=>ns.getD i 0,?_,?_,?_⟩
 ·have e1:p.toList.Perm (List.range ns.length):=by
   have:=xfg.mp p1
   simpa using this
  have e2:=e1.map fun i=>ns.getD i 0
  have e3:((List.range ns.length).map fun i=>ns.getD i 0)=ns:=by
   apply xmn
   ·simp
   ·intro i h1 h2;simp[xbi,h2]
  rw[e3] at e2;exact e2
 ·rw[xfl];intro i j hi hj hij;rw[xkn,xkn];rw[xbb] at hi hj;have hi':i < p.size:=by simpa using hi
  have hj':j < p.size:=by simpa using hj
  have hu:=p2 i j (xbx hij) (by lia);have g:∀k,(hk:k < p.toList.length)->p.getD k 0=p.toList[k]:=fun k hk=>by
   have hk':k < p.size:=by simpa using hk
   rw[xct,xda hk'];simp
  have si:=sm _ (xcx hi);have sj:=sm _ (xcx hj);have lk:=Srt.zky (ks:=ones ns) (i:=p.toList[j]) (j:=p.toList[i]) (by rw[xbb];exact sj) (by rw[xbb];exact si);have hno:Srt.lt (Srt.rank (ones ns)) p.toList[j] p.toList[i]=false:=by
   refine xcb fun z=>?_
   unfold Srt.At at hu;rw[g i hi,g j hj] at hu;lia
  rw[hno,zfx sj,zfx si,zoj] at lk;have:=xlw lk.symm;lia
 ·unfold Srt.outOf;rw[xcy];show Vals _ (p.toList.map fun i=>us.getD i Value.none);refine zmb fun i hi=>?_
  obtain⟨t,e⟩:=zpy r (sm i hi);exact⟨t,e⟩
end L2
namespace Dd
open PySem L2 PyProof.Rows
noncomputable def sortI (l:List Int):List Int:=l.mergeSort fun a b=>decide (a<=b)
theorem zeu (l:List Int):(sortI l).Perm l:=List.mergeSort_perm _ _
theorem zbas (l:List Int):(sortI l).Pairwise (·<=·):=by
 have:=List.pairwise_mergeSort (le:=fun a b:Int=>decide (a<=b)) (fun a b c h1 h2=>by simp at *;lia) (fun a b=>by simp;lia) l;exact this.imp fun h=>by simpa using h
theorem zrx {a b:List Int}(p:a.Perm b)(h:a.Pairwise (·<=·)):a=sortI b :=
 (p.trans (zeu b).symm).eq_of_pairwise (fun x y _ _ h1 h2=>by lia) h (zbas b)
end Dd
namespace L2
open PySem PySem.Spec PyProof.Rows
end L2
namespace Dd
open PySem L2 PyProof.Rows
section
variable {X:Cx}{o e:Expr}{es:List Expr}{f:SE}{ga:SA}{apos cpos:Pos}
end
end Dd
namespace Dd
variable {α:Type}{motive:List α->Prop}
@[elab_as_elim] theorem len0 (us:List α) (hl:us.length=0) (h:motive []):motive us:=by rw[List.eq_nil_of_length_eq_zero hl];exact h
@[elab_as_elim] theorem lenS {n:Nat} (us:List α) (hl:us.length=n+1) (h:∀a us,us.length=n->motive (a::us)):motive us:=by
 cases us with
 | nil=>cases hl
 | cons a us=>exact h a us (Nat.succ.inj hl)
@[elab_as_elim] theorem len1 (us:List α) (hl:us.length=1) (h:∀a,motive [a]):motive us:=lenS us hl fun a us hl=>len0 us hl (h a)
@[elab_as_elim] theorem len2 (us:List α) (hl:us.length=2) (h:∀a b,motive [a,b]):motive us:=lenS us hl fun a us hl=>len1 us hl (h a)
@[elab_as_elim] theorem len3 (us:List α) (hl:us.length=3) (h:∀a b c,motive [a,b,c]):motive us:=lenS us hl fun a us hl=>len2 us hl (h a)
@[elab_as_elim] theorem len4 (us:List α) (hl:us.length=4) (h:∀a b c d,motive [a,b,c,d]):motive us:=lenS us hl fun a us hl=>len3 us hl (h a)
end Dd
namespace Dd
open PySem L2
noncomputable def iterF (s:DFn->DFn):Nat->DFn
 | 0=>fun _ _=>.stuck
 | n+1=>s (iterF s n)
theorem zut {P:Program}{w:World}{K:Fg}{mg:Str->Option Value}{base h:Heap}{x:Str}{st:Stmt}{N ps:List Str}{k:Nat}(T:TopF K x st)(X:K.In h)(G:h.Ns mainGlobals mg)(S:FnScope N ps (defScope st))
  (bd:∀(kV doc pm:Value) (an:Option Addr) (cdv ct:Value) (us:List Value),us.length=ps.length->bindArgs (W.fnOf x x (defArgs st) (defBody st) (defScope st) .none kV doc pm an cdv ct) ⟨us,[]⟩=pure (ps.zip us)):CalD P w K mg base x (k+1) ps (fun _ _=>.stuck) :=
 zpm T X G S bd (fun vs H Q E hh=>by obtain⟨ρ,ds,st,v,st',a,rp,e,hl,q⟩:=hh;exact hl) fun f cdv A outer s H vs Q E hr hh=>by obtain⟨ρ,ds,st,v,st',a,rp,e,hl,q⟩:=hh;cases e
theorem CalD.iter {P:Program}{w:World}{K:Fg}{mg:Str->Option Value}{base:Heap}{x:Str}{ps:List Str}{L:Nat}{s:DFn->DFn}(h0:CalD P w K mg base x L ps (fun _ _=>.stuck))(hl:∀F ds st v st',s F ds st=.ok v st'->ds.length=ps.length)
  (hs:∀F j,L<=j->(∀ds st v st',F ds st=.ok v st'->ds.length=ps.length)->CalD P w K mg base x j ps F->CalD P w K mg base x (j+1) ps (s F)):∀n,CalD P w K mg base x (L+n) ps (iterF s n):=fun n=>by
 have key:∀n,(∀ds st v st',iterF s n ds st=.ok v st'->ds.length=ps.length)/\CalD P w K mg base x (L+n) ps (iterF s n):=fun n=>by
  induction n with
  | zero=>exact⟨fun _ _ _ _ h=>(by cases h),h0⟩
  | succ n ih=>exact⟨hl _,hs _ _ (xbz _ _) ih.1 ih.2⟩
 exact(key n).2
end Dd
namespace L2
open PySem PySem.Spec PyProof.Rows
end L2
namespace Dd
open PySem L2 PyProof.Rows
end Dd
namespace L2
open PySem PySem.Spec PyProof.Rows
section
variable {X:Cx}{tg:Expr}
end
end L2
namespace Dd
open PySem L2
section
variable {X:Cx}{tg a b c:Expr}{g:SA}{p pos:Pos}
end
end Dd
namespace Dd
open PySem L2 PyProof.Rows
section
variable {X:Cx}{o e:Expr}{es:List Expr}{f:SE}{ga:SA}{apos cpos:Pos}
end
end Dd
namespace L2
open PySem PySem.Spec PyProof.Rows
variable {X:Cx}{e es:Expr}{te ts:TE}{pos p2:Pos}
end L2
namespace Dd
open PySem L2
section
variable {X:Cx}{e es:Expr}{f g:SE}{pos p2:Pos}
end
end Dd
namespace L2
open PySem PySem.Spec PyProof.Rows
section
variable {prog:Program}{w:World}{A:Around}{E:Value->Shared->Prop}{s:Shared}
end
variable {X:Cx}{e es:Expr}{te ts:TE}{pos p2:Pos}
end L2
namespace Dd
open PySem L2
section
variable {X:Cx}{e es:Expr}{f g:SE}{pos p2:Pos}
end
end Dd
namespace L2
open PySem PySem.Spec PyProof.Rows
end L2
namespace Dd
open PySem L2
end Dd
namespace L2
open PySem PySem.Spec PyProof.Rows
section
variable {X:Cx}{x:Str}{C:Addr}{bmB bmN:List Value}{newId nid initId inN B Bn:String}{e:Expr}{es:List Expr}{ta:TA}{np cpos pos:Pos}
end
section
variable {M:Model}{A:Around}{E:Value->Shared->Prop}{s:Shared}
end
section
variable {P:Program}{w:World}{K:Fg}{mg:Str->Option Value}{base:Heap}{N:List Str}{qual:Str}{scope:Scope}{f:Addr}{cd:Value}{A:Around}{outer:List Env}{s₀:Shared}{H₀:Hp}{E:XK}
end
section
variable {X:Cx}
end
section
variable {X:Cx}{aU pins':List (Addr×Obj)}{σ:St}{H:Hp}{s:Shared}{E:Value->Shared->Prop}{e:Value}
end
section
variable {X:Cx}{body:List Stmt}{x n:Str}{B:Addr}{i:Nat}{b0:Stmt}{suite:List Stmt}{xp hp pos:Pos}{tb:(St->Value->Option Addr->Hp->Prop)->TS}{ts:TS}
end
section
variable {prog:Program}{w:World}{A:Around}{E:Value->Shared->Prop}
end
section
variable {X:Cx}{pos:Pos}
end
section
variable {P:Program}{w:World}{K:Fg}{mg:Str->Option Value}{base:Heap}{N:List Str}{name qual:Str}{params:Arguments}{body:Expr}{scope:Scope}{f:Addr}{cd pm ct:Value}{cl:List (Str×Addr)}{A:Around}{outer:List Env}{s:Shared}{H:Hp}{E:XK}{τ:St}
end
section
variable {X:Cx}{aU:List (Addr×Obj)}{τ:St}{H:Hp}{s:Shared}{c T:Addr}{ps:Array Value}{params:Arguments}{body:Expr}{scope:Scope}{cl:List (Str×Addr)}{pos:Pos}{Q:Value->Shared->Prop}
end
section
variable {X:Cx}
end
section
variable {X:Cx}
end
end L2
namespace L2
open PySem
namespace St
noncomputable abbrev lt (a b:Nat):Prop:=a < b
theorem ztx (xs:Array Nat)(j:Nat)(mono:∀a b,a<=b->b < xs.size->xs.getD a j<=xs.getD b j):∀(fuel lo hi:Nat),lo<=hi->hi<=xs.size->hi - lo<=fuel->(∀i,i < lo->xs.getD i j < j)->(∀i,hi<=i->i < xs.size->j<=xs.getD i j) ->
  SetTable.below.go xs j fuel lo hi<=xs.size/\(∀i,i < SetTable.below.go xs j fuel lo hi->xs.getD i j < j)/\(∀i,SetTable.below.go xs j fuel lo hi<=i->i < xs.size->j<=xs.getD i j)
 | 0,lo,hi,h1,h2,h3,a,b=>by
  have:lo=hi:=by lia
  subst this;unfold SetTable.below.go;exact⟨h2,a,b⟩
 | fuel+1,lo,hi,h1,h2,h3,a,b=>by
  unfold SetTable.below.go;by_cases c:lo < hi
  ·rw[if_pos c];dsimp only;by_cases d:xs.getD ((lo+hi) / 2) j < j
   ·rw[if_pos d]
    exact ztx xs j mono fuel _ hi (by lia) h2 (by lia) (fun i hi'=>by
     have:=mono i ((lo+hi) / 2) (by lia) (by lia)
     lia) b
   ·rw[if_neg d]
    exact ztx xs j mono fuel lo _ (by lia) (by lia) (by lia) a (fun i hi' hs=>by
     have:=mono ((lo+hi) / 2) i hi' hs
     lia)
  ·rw[if_neg c];have:lo=hi:=by lia
   subst this;exact⟨h2,a,b⟩
noncomputable def Up (xs:Array Nat):Prop:=xs.toList.Pairwise lt
theorem zei (xs:Array Nat)(i d:Nat):xs.getD i d=xs.toList.getD i d:=by
 rw[xct,xbi,xcf]
theorem Up.mono {xs:Array Nat}(h:Up xs)(d a b:Nat)(hab:a<=b)(hb:b < xs.size):xs.getD a d<=xs.getD b d:=by
 rcases xff a b with c | c
 ·have hb':b < xs.toList.length:=by simpa using hb
  have ha':a < xs.toList.length:=by lia
  rw[zei,zei,xbi,xbi,xbd ha',xbd hb'];exact xbx (xfl.mp h a b ha' hb' c)
 ·have:a=b:=by lia
  subst this;exact xbf _
theorem zdx {xs:Array Nat}(h:Up xs)(j:Nat):SetTable.below xs j<=xs.size/\(∀i,i < SetTable.below xs j->xs.getD i j < j)/\(∀i,SetTable.below xs j<=i->i < xs.size->j<=xs.getD i j) :=
 ztx xs j (h.mono j) xs.size 0 xs.size (by lia) (by lia) (by lia) (fun i hi=>absurd hi (by lia)) (fun i h1 h2=>absurd h2 (by lia))
theorem zlw {xs:Array Nat}(h:Up xs)(j:Nat):∀y∈xs.toList.take (SetTable.below xs j),y < j:=fun y hy=>by
 obtain⟨h1,h2,h3⟩:=zdx h j;obtain⟨i,hi,rfl⟩:=List.mem_iff_getElem.mp hy;rw[xdc] at hi;have hi':i < xs.toList.length:=by lia
 have:=h2 i (by lia);rw[zei,xbi,xbd hi'] at this;rw[xmg];exact this
theorem zia {xs:Array Nat}(h:Up xs)(j:Nat):∀y∈xs.toList.drop (SetTable.below xs j),j<=y:=fun y hy=>by
 obtain⟨h1,h2,h3⟩:=zdx h j;obtain⟨i,hi,rfl⟩:=List.mem_iff_getElem.mp hy;rw[xgt] at hi;have hl:xs.toList.length=xs.size:=by simp
 have hi':SetTable.below xs j+i < xs.toList.length:=by lia
 have:=h3 (SetTable.below xs j+i) (by lia) (by lia);rw[zei,xbi,xbd hi'] at this;rw[xmf];exact this
theorem zyg {xs:Array Nat}(h:Up xs){j:Nat}(hj:j∈xs.toList):xs[SetTable.below xs j]?=some j:=by
 have ht:=zlw h j;have hd:=zia h j;rw[← xdn (SetTable.below xs j) xs.toList] at hj;rcases xbw.mp hj with hj | hj
 ·exact absurd (ht j hj) (xgp _)
 ·have hp:(xs.toList.drop (SetTable.below xs j)).Pairwise lt:=xgf (xkf _ _) h;have:(xs.toList.drop (SetTable.below xs j))[0]?=some j:=by
   cases e:xs.toList.drop (SetTable.below xs j) with
   | nil=>rw[e] at hj;cases hj
   | cons y l =>
    rw[e] at hj hd hp;rcases xbp.mp hj with rfl | hj
    ·rfl
    ·have h1:=hd y (by simp);have h2:y < j:=(xgh.mp hp).1 j hj;lia
  rw[xfr] at this;rw[← xcf]
  simpa using this
theorem zeh {α:Type}(xs:Array α)(p:Nat)(x:α):(SetTable.insertAt xs p x).toList=xs.toList.take p++x::xs.toList.drop p:=by
 unfold SetTable.insertAt;rw[xdp,xew,xky,xky];simp[List.extract];exact xdq (by simp)
theorem Up.insert {xs:Array Nat}(h:Up xs){j:Nat}(hj:j∉xs.toList):Up (SetTable.insertAt xs (SetTable.below xs j) j):=by
 unfold Up;rw[zeh,xfw];refine⟨xgf (xkd _ _) h,xgh.mpr ⟨fun y hy=>?_,xgf (xkf _ _) h⟩,fun a ha b hb=>?_⟩
 ·have h1:=zia h j y hy;have h2:y≠j:=fun e=>hj (e ▸ xhn hy)
  show j < y;lia
 ·have h1:=zlw h j a ha;rcases xbp.mp hb with rfl | hb
  ·exact h1
  ·have:=zia h j b hb;show a < b;lia
end St
namespace St
structure Tb (t:SetTable):Prop where
 up:Up t.place
 nd:t.dummies=#[]
 inm:∀y∈t.place.toList,y<=t.mask
 pl:t.plain=true
theorem ztw (j:Nat):SetTable.has #[] j=false:=by
 unfold SetTable.has;simp
theorem Tb.slot {t:SetTable}(h:Tb t)(j:Nat):(t.slot j=.empty/\j∉t.place.toList)\/(∃i,t.slot j=.live i)/\j∈t.place.toList:=by
 unfold SetTable.slot;dsimp only;by_cases c:t.place[SetTable.below t.place j]?=some j
 ·right
  rw[if_pos (by rw[c];exact xgv _)];rw[← xcf] at c;exact⟨⟨_,rfl⟩,xca c⟩
 ·left
  rw[if_neg (by simpa using c),h.nd,ztw];exact⟨rfl,fun hj=>c (zyg h.up hj)⟩
noncomputable def iAt (mask:Nat):Nat->Nat->Nat->Nat
 | 0,i,_=>i
 | k+1,i,per=>iAt mask k ((i * 5+1+per / 32) % (mask+1)) (per / 32)
noncomputable def nextP (mask:Nat) (p:SetTable.Probe):SetTable.Probe:={j:=(p.i * 5+1+p.perturb / 32) % (mask+1),more:=SetTable.runEnd mask ((p.i * 5+1+p.perturb / 32) % (mask+1)) - (p.i * 5+1+p.perturb / 32) % (mask+1),i:=(p.i * 5+1+p.perturb / 32) % (mask+1),perturb:=p.perturb / 32,dummy:=p.dummy}
theorem zbel {t:SetTable}{p:SetTable.Probe}{m:Nat}(h:p.more=m+1):t.advance p={p with j:=p.j+1,more:=m}:=by
 unfold SetTable.advance;rw[if_pos (by lia),h]
 rfl
theorem zbem {t:SetTable}{p:SetTable.Probe}(h:p.more=0):t.advance p=nextP t.mask p:=by
 unfold SetTable.advance;rw[if_neg (by lia)]
 rfl
theorem window {t:SetTable}(g:Tb t)(h:Int):∀(m fuel:Nat) (p:SetTable.Probe),p.more=m->p.dummy=none ->
  (∃j,SetTable.probe.go t (fun _=>h+1) h (fuel+m+1) p=some (.empty j none)/\j∉t.place.toList/\j<=p.j+m) \/
  (p.j∈t.place.toList/\∃p',p'.i=p.i/\p'.perturb=p.perturb/\p'.dummy=none/\SetTable.probe.go t (fun _=>h+1) h (fuel+m+1) p=SetTable.probe.go t (fun _=>h+1) h fuel (nextP t.mask p'))
 | 0,fuel,p,hm,hd=>by
  have e:SetTable.probe.go t (fun _=>h+1) h (fuel+0+1) p=match t.slot p.j with
   | .empty=>some (.empty p.j p.dummy)
   | .dummy=>SetTable.probe.go t (fun _=>h+1) h fuel (t.advance {p with dummy:=some p.j})
   | .live i=>if h+1==h then some (.candidate p.j i (t.advance p)) else SetTable.probe.go t (fun _=>h+1) h fuel (t.advance p):=rfl
  rw[e];rcases g.slot p.j with⟨s1,s2⟩ | ⟨⟨i,s1⟩,s2⟩
  ·rw[s1,hd];exact .inl ⟨p.j,rfl,s2,by lia⟩
  ·rw[s1];dsimp only;rw[if_neg (by simp;lia)];exact .inr ⟨s2,p,rfl,rfl,hd,by rw[zbem hm]⟩
 | m+1,fuel,p,hm,hd=>by
  have e:SetTable.probe.go t (fun _=>h+1) h (fuel+(m+1)+1) p=match t.slot p.j with
   | .empty=>some (.empty p.j p.dummy)
   | .dummy=>SetTable.probe.go t (fun _=>h+1) h (fuel+(m+1)) (t.advance {p with dummy:=some p.j})
   | .live i=>if h+1==h then some (.candidate p.j i (t.advance p)) else SetTable.probe.go t (fun _=>h+1) h (fuel+(m+1)) (t.advance p):=rfl
  rw[e];rcases g.slot p.j with⟨s1,s2⟩ | ⟨⟨i,s1⟩,s2⟩
  ·rw[s1,hd];exact .inl ⟨p.j,rfl,s2,by lia⟩
  ·rw[s1];dsimp only;rw[if_neg (by simp;lia),zbel hm,← Nat.add_assoc];rcases window g h m fuel {p with j:=p.j+1,more:=m} rfl hd with⟨j,a,b,c⟩ | ⟨a,p',b⟩
   ·exact .inl ⟨j,a,b,by dsimp only at c;lia⟩
   ·exact .inr ⟨s2,p',b⟩
theorem zol {mask i:Nat}(h:i<=mask):i<=SetTable.runEnd mask i/\SetTable.runEnd mask i<=mask/\SetTable.runEnd mask i<=i+9:=by
 unfold SetTable.runEnd;split<;>lia
theorem search {t:SetTable}(g:Tb t)(h:Int):∀(L fuel:Nat) (p:SetTable.Probe),10 * L<=fuel->p.j=p.i->p.i<=t.mask->p.more=SetTable.runEnd t.mask p.i - p.i->p.dummy=none->(∃k,k < L/\iAt t.mask k p.i p.perturb∉t.place.toList) ->
  ∃j,SetTable.probe.go t (fun _=>h+1) h fuel p=some (.empty j none)/\j∉t.place.toList/\j<=t.mask
 | 0,_,_,_,_,_,_,_,⟨k,hk,_⟩=>absurd hk (by lia)
 | L+1,fuel,p,hf,hj,hi,hm,hd,⟨k,hk,hk2⟩=>by
  obtain⟨r1,r2,r3⟩:=zol hi;have ef:fuel=(fuel - p.more - 1)+p.more+1:=by lia
  have w:=window g h p.more (fuel - p.more - 1) p rfl hd;rw[← ef] at w;rcases w with⟨j,a,b,c⟩ | ⟨a,p',b1,b2,b3,b4⟩
  ·exact⟨j,a,b,by lia⟩
  ·rw[b4];cases k with
   | zero=>exact absurd a (by rw[hj];exact hk2)
   | succ k =>
    refine search g h L _ (nextP t.mask p') (by lia) rfl (by unfold nextP;exact xcr (xmk _ (by lia))) rfl b3 ⟨k,by lia,?_⟩;unfold nextP;dsimp only;rw[b1,b2];exact hk2
/- the leaps meet all places -/
noncomputable def accI (mask:Nat):Nat->Nat->Nat->Nat->Nat
 | 0,acc,_,_=>acc
 | L+1,acc,i,per=>accI mask L (acc ||| 2 ^ i) ((i * 5+1+per / 32) % (mask+1)) (per / 32)
theorem zbaj (mask j:Nat):∀(L acc i per:Nat),(accI mask L acc i per).testBit j=true->acc.testBit j=true\/∃k,k < L/\iAt mask k i per=j
 | 0,acc,i,per,h=>.inl h
 | L+1,acc,i,per,h=>by
  rcases zbaj mask j L _ _ _ h with h | ⟨k,h1,h2⟩
  ·rw[Nat.testBit_or,xht,Bool.or_eq_true,decide_eq_true_iff] at h;rcases h with h | h
   ·exact .inl h
   ·exact .inr ⟨0,by lia,h⟩
  ·exact .inr ⟨k+1,by lia,h2⟩
noncomputable def covB (mask h:Nat):Bool:=Nat.beq (accI mask (mask+3) 0 (h % (mask+1)) h) (2 ^ (mask+1) - 1)
theorem cov7:(List.range 64).all (covB 7)=true:=by decide +kernel
theorem cov31:(List.range 64).all (covB 31)=true:=by decide +kernel
theorem cov127:(List.range 64).all (covB 127)=true:=by decide +kernel
noncomputable def MaskOk (m:Nat):Prop:=m=7\/m=31\/m=127
theorem cov {mask h j:Nat}(hm:MaskOk mask)(hh:h < 64)(hj:j<=mask):∃k,k < mask+3/\iAt mask k (h % (mask+1)) h=j:=by
 have c:covB mask h=true:=by
  rcases hm with rfl | rfl | rfl
  ·exact xcw.mp cov7 h (xcd.mpr hh)
  ·exact xcw.mp cov31 h (xcd.mpr hh)
  ·exact xcw.mp cov127 h (xcd.mpr hh)
 have e:=Nat.eq_of_beq_eq_true c;have t:(accI mask (mask+3) 0 (h % (mask+1)) h).testBit j=true:=by
  rw[e,Nat.testBit_two_pow_sub_one];exact xcj (by lia)
 rcases zbaj mask j _ _ _ _ t with z | z
 ·simp at z
 ·exact z
theorem room {t:SetTable}(g:Tb t)(h:t.place.size<=t.mask):∃j,j<=t.mask/\j∉t.place.toList:=by
 by_cases c:∃j,j<=t.mask/\j∉t.place.toList
 ·exact c
 ·exfalso
  have hs:List.range (t.mask+1) ⊆ t.place.toList:=fun j hj=>by
   by_cases z:j∈t.place.toList
   ·exact z
   ·exact absurd ⟨j,by have:=xcd.mp hj;lia,z⟩ c
  have:=xgm (xmr) hs;simp at this;lia
theorem zxr {t:SetTable}(g:Tb t)(hm:MaskOk t.mask){h:Nat}(hh:h < 64)(hr:t.place.size<=t.mask):∃j,t.freeSlot (h:Int)=some (j,false)/\j∉t.place.toList/\j<=t.mask:=by
 obtain⟨j0,a1,a2⟩:=room g hr;obtain⟨k,k1,k2⟩:=cov hm hh a1;have hb:SetTable.bits (h:Int)=h:=by
  unfold SetTable.bits;lia
 have s:=search g (h:Int) (t.mask+3) (10 * SetTable.turns t.mask) (t.probeStart (h:Int)) (by unfold SetTable.turns;lia) rfl (by unfold SetTable.probeStart;exact xcr (xmk _ (by lia))) rfl rfl ⟨k,k1,by
  show iAt t.mask k (SetTable.bits (h:Int) % (t.mask+1)) (SetTable.bits (h:Int))∉_;rw[hb,k2]
  exact a2⟩
 obtain⟨j,b1,b2,b3⟩:=s;refine⟨j,?_,b2,b3⟩;unfold SetTable.freeSlot SetTable.probe;rw[b1]
 rfl
end St
namespace St
theorem zcx {α:Type}(xs:Array α)(p:Nat)(x:α)(h:p<=xs.size):(SetTable.insertAt xs p x).size=xs.size+1:=by
 have:=congrArg List.length (zeh xs p x);simp at this;lia
theorem zbhv {t:SetTable}{es:Array (Int×Value)}{h:Nat}{x:Value}(g:Tb t)(hm:MaskOk t.mask)(hh:h < 64)(he:t.place.size=es.size)(hr:t.place.size < t.mask) :
  ∃es' t',layNew t es (h:Int) x=(es',t',false,false)/\Tb t'/\t'.mask=t.mask/\t'.led=t.led/\t'.place.size=es'.size/\es'.size=es.size+1/\es'.toList.Perm (((h:Int),x)::es.toList):=by
 obtain⟨j,f1,f2,f3⟩:=zxr g hm hh (by lia);have hb:=(zdx g.up j).1;refine⟨SetTable.insertAt es (SetTable.below t.place j) ((h:Int),x),{t with place:=SetTable.insertAt t.place (SetTable.below t.place j) j},?_,?_,rfl,rfl,?_,?_,?_⟩
 ·have e1:t.put j=({t with place:=SetTable.insertAt t.place (SetTable.below t.place j) j},SetTable.below t.place j):=by
   unfold SetTable.put;dsimp only;rw[g.nd,ztw]
   rfl
  have e2:({t with place:=SetTable.insertAt t.place (SetTable.below t.place j) j}:SetTable).fits (SetTable.insertAt es (SetTable.below t.place j) ((h:Int),x)).size=true:=by
   unfold SetTable.fits SetTable.fill;dsimp only;rw[zcx _ _ _ hb,zcx _ _ _ (by lia),g.nd,he];simp;lia
  unfold layNew;rw[f1];dsimp only;rw[e1];dsimp only;unfold SetTable.orStandIn;rw[e2]
  rfl
 ·refine⟨g.up.insert f2,g.nd,fun y hy=>?_,g.pl⟩;dsimp only at hy ⊢;rw[zeh] at hy;rcases xbw.mp hy with hy | hy
  ·exact g.inm y (xgl hy)
  ·rcases xbp.mp hy with rfl | hy
   ·exact f3
   ·exact g.inm y (xhn hy)
 ·dsimp only;rw[zcx _ _ _ hb,zcx _ _ _ (by lia),he]
 ·rw[zcx _ _ _ (by lia)]
 ·rw[zeh];refine(xmp).trans ?_;rw[xdn]
/- laid anew -/
noncomputable def ownL (owner:Array (Option Nat)) (mask:Nat):List Nat:=(List.range (mask+1)).filterMap fun j=>owner.getD j none
structure Ow (mask n:Nat) (owner:Array (Option Nat)):Prop where
 size:owner.size=mask+1
 perm:(ownL owner mask).Perm (List.range n)
theorem zbgw {mask n:Nat}{owner:Array (Option Nat)}(h:Ow mask n owner)(hn:n<=mask):∃j,j<=mask/\owner.getD j (some 0)=none:=by
 by_cases c:∃j,j<=mask/\owner.getD j (some 0)=none
 ·exact c
 ·exfalso
  have all:∀j∈List.range (mask+1),(owner.getD j none).isSome=true:=fun j hj=>by
   have hj:=xcd.mp hj;have hlt:j < owner.size:=by rw[h.size];exact hj
   cases e:owner.getD j none with
   | some x=>rfl
   | none =>
    refine absurd ⟨j,by lia,?_⟩ c;rw[xct,xda hlt] at e ⊢;exact e
  have hl:(ownL owner mask).length=mask+1:=by
   unfold ownL;have:∀l:List Nat,(∀j∈l,(owner.getD j none).isSome=true)->(l.filterMap fun j=>owner.getD j none).length=l.length:=fun l=>by
    induction l with
    | nil=>intro _;rfl
    | cons a l ih =>
     intro hl;obtain⟨x,hx⟩:=Option.isSome_iff_exists.mp (hl a (by simp));rw[xdr (f:=fun j=>owner.getD j none) hx,xby,xby,ih fun j hj=>hl j (xbk _ hj)]
   rw[this _ all,xej]
  have:=h.perm.length_eq;rw[hl,xej] at this;lia
theorem zzm {mask:Nat}{owner:Array (Option Nat)}:∀(fuel i per:Nat),i<=mask->(∃k,k < fuel/\owner.getD (iAt mask k i per) (some 0)=none)->∃j,SetTable.layClean.free mask owner fuel i per=some j/\j<=mask/\owner.getD j (some 0)=none
 | 0,_,_,_,⟨k,hk,_⟩=>absurd hk (by lia)
 | fuel+1,i,per,hi,⟨k,hk,hk2⟩=>by
  obtain⟨r1,r2,r3⟩:=zol hi;unfold SetTable.layClean.free;cases e:(List.range (SetTable.runEnd mask i+1 - i)).find? fun k=>(owner.getD (i+k) (some 0)).isNone with
  | some z =>
   have h1:=xmx e;have h2:=xcd.mp (xjk e);exact⟨i+z,rfl,by lia,by simpa using h1⟩
  | none =>
   dsimp only;have h0:=xig.mp e 0 (xcd.mpr (by lia));cases k with
   | zero =>
    exfalso
    rw[xhp] at h0;have hk2:owner.getD i (some 0)=none:=hk2;rw[hk2] at h0;exact h0 rfl
   | succ k =>
    exact zzm fuel _ _ (xcr (xmk _ (by lia))) ⟨k,by lia,hk2⟩
theorem zkd {α β:Type}{f g:α->Option β}:∀{l:List α},(∀x∈l,f x=g x)->l.filterMap f=l.filterMap g
 | [],_=>rfl
 | a::l,h=>by
  have ih:=zkd (l:=l) fun x hx=>h x (xbk _ hx)
  have h1:=h a (by simp);cases e:g a with
  | none=>rw[xeg (h1.trans e),xeg e,ih]
  | some z=>rw[xdr (h1.trans e),xdr e,ih]
theorem zgh (owner:Array (Option Nat)){j n:Nat}(hj:owner.getD j (some 0)=none)(hs:j < owner.size):∀l:List Nat,l.Nodup->j∈l ->
  (l.filterMap fun i=>(owner.setIfInBounds j (some n)).getD i none).Perm (n::l.filterMap fun i=>owner.getD i none)
 | [],_,h=>by cases h
 | a::l,nd,h=>by
  have gd:∀i,i≠j->(owner.setIfInBounds j (some n)).getD i none=owner.getD i none:=fun i hi=>by
   rw[xct,xct,xku (xem hi)]
  have gj:(owner.setIfInBounds j (some n)).getD j none=some n:=by
   rw[xct,xji hs]
   rfl
  have g0:owner.getD j none=none:=by
   rw[xct,xda hs] at hj ⊢;exact hj
  have nd':=xep.mp nd;by_cases c:a=j
  ·subst c;rw[xdr (f:=fun i=>(owner.setIfInBounds a (some n)).getD i none) gj,xeg (f:=fun i=>owner.getD i none) g0];have:(l.filterMap fun i=>(owner.setIfInBounds a (some n)).getD i none)=l.filterMap fun i=>owner.getD i none:=zkd fun i hi=>gd i fun e=>nd'.1 (e ▸ hi)
   rw[this]
  ·have hl:j∈l:=by
    rcases xbp.mp h with h | h
    ·exact absurd h.symm c
    ·exact h
   have ih:=zgh owner (n:=n) hj hs l nd'.2 hl;cases e:owner.getD a none with
   | none=>rw[xeg (f:=fun i=>(owner.setIfInBounds j (some n)).getD i none) (by rw[gd a c];exact e),xeg (f:=fun i=>owner.getD i none) e];exact ih
   | some z =>
    rw[xdr (f:=fun i=>(owner.setIfInBounds j (some n)).getD i none) (by rw[gd a c];exact e),xdr (f:=fun i=>owner.getD i none) e];exact(List.Perm.cons z ih).trans (List.Perm.swap n z _)
theorem Ow.step {mask n:Nat}{owner:Array (Option Nat)}(h:Ow mask n owner)(hm:MaskOk mask){hv:Nat}(hh:hv < 64)(hn:n<=mask) :
  ∃j,SetTable.layClean.free mask owner (SetTable.turns mask) (SetTable.bits (hv:Int) % (mask+1)) (SetTable.bits (hv:Int))=some j/\Ow mask (n+1) (owner.setIfInBounds j (some n)):=by
 have hb:SetTable.bits (hv:Int)=hv:=by
  unfold SetTable.bits;lia
 obtain⟨j0,a1,a2⟩:=zbgw h hn;obtain⟨k,k1,k2⟩:=cov hm hh a1;rw[hb];obtain⟨j,f1,f2,f3⟩:=zzm (owner:=owner) (mask:=mask) (SetTable.turns mask) (hv % (mask+1)) hv (xcr (xmk _ (by lia))) ⟨k,by unfold SetTable.turns;lia,by rw[k2];exact a2⟩;refine⟨j,f1,⟨by rw[Array.size_setIfInBounds];exact h.size,?_⟩⟩;have p:=zgh owner (n:=n) f3 (by rw[h.size];lia) (List.range (mask+1)) xmr (xcd.mpr (by lia));refine p.trans ((List.Perm.cons n h.perm).trans ?_);rw[xib];exact(List.perm_append_singleton n _).symm
noncomputable def SmallH (h:Int):Prop:=∃n:Nat,n < 64/\h=n
theorem ztq {mask:Nat}(hm:MaskOk mask):∀(l:List Int) (n:Nat) (owner:Array (Option Nat)),Ow mask n owner->(∀h∈l,SmallH h)->n+l.length<=mask ->
  ∃owner',l.foldl (fun acc h=>do
   let (owner,k) ← acc
   let j ← SetTable.layClean.free mask owner (SetTable.turns mask) (SetTable.bits h % (mask+1)) (SetTable.bits h)
   pure (owner.setIfInBounds j (some k),k+1)) (some (owner,n))=some (owner',n+l.length)/\Ow mask (n+l.length) owner'
 | [],n,owner,o,_,_=>⟨owner,rfl,o⟩
 | h::l,n,owner,o,hs,hl=>by
  rw[xby] at hl ⊢;obtain⟨hv,h1,rfl⟩:=hs h (by simp);obtain⟨j,f1,f2⟩:=o.step hm h1 (by lia);obtain⟨o',g1,g2⟩:=ztq hm l (n+1) _ f2 (fun x hx=>hs x (xbk _ hx)) (by lia);refine⟨o',?_,by rw[show n+(l.length+1)=n+1+l.length by lia];exact g2⟩;rw[xhg]
  have e:(do
   let (owner,k) ← some (owner,n)
   let j ← SetTable.layClean.free mask owner (SetTable.turns mask) (SetTable.bits (hv:Int) % (mask+1)) (SetTable.bits (hv:Int))
   pure (owner.setIfInBounds j (some k),k+1):Option (Array (Option Nat)×Nat))=some (owner.setIfInBounds j (some n),n+1):=by
   show(SetTable.layClean.free mask owner (SetTable.turns mask) (SetTable.bits (hv:Int) % (mask+1)) (SetTable.bits (hv:Int))).bind _=_;rw[f1]
   rfl
  rw[e,g1,show n+(l.length+1)=n+1+l.length by lia]
theorem ow0 (mask:Nat):Ow mask 0 (Array.replicate (mask+1) none):=by
 refine⟨by simp,?_⟩;unfold ownL;have:(List.range (mask+1)).filterMap (fun j=>(Array.replicate (mask+1) (none:Option Nat)).getD j none)=(List.range (mask+1)).filterMap fun _=>(none:Option Nat):=zkd fun j _=>by
  rw[xct,Array.getElem?_replicate];split<;>rfl
 rw[this];have:∀l:List Nat,l.filterMap (fun _=>(none:Option Nat))=[]:=fun l=>by induction l<;>simp_all
 rw[this];exact xnb _
theorem zxg {mask:Nat}(hm:MaskOk mask){hs:Array Int}(h:∀x∈hs.toList,SmallH x)(hn:hs.size<=mask):∃owner,SetTable.layClean mask hs=some owner/\Ow mask hs.size owner:=by
 obtain⟨o,e,w⟩:=ztq hm hs.toList 0 _ (ow0 mask) h (by simpa using hn);rw[xdw] at e w;refine⟨o,?_,by simpa using w⟩;unfold SetTable.layClean;rw[← Array.foldl_toList,e]
 rfl
theorem ztn (owner:Array (Option Nat)):∀l:List Nat,(l.filterMap fun j=>(owner.getD j none).map fun k=>(j,k)).map (·.1)=l.filter fun j=>(owner.getD j none).isSome
 | []=>rfl
 | a::l=>by
  have ih:=ztn owner l;cases e:owner.getD a none with
  | none=>rw[xeg (f:=fun j=>(owner.getD j none).map fun k=>(j,k)) (by rw[e];rfl),xcu (by rw[e];decide),ih]
  | some z=>rw[xdr (f:=fun j=>(owner.getD j none).map fun k=>(j,k)) (by rw[e];rfl),xco (by rw[e];rfl),xbt,ih]
theorem ztm (owner:Array (Option Nat)):∀l:List Nat,(l.filterMap fun j=>(owner.getD j none).map fun k=>(j,k)).map (·.2)=l.filterMap fun j=>owner.getD j none
 | []=>rfl
 | a::l=>by
  have ih:=ztm owner l;cases e:owner.getD a none with
  | none=>rw[xeg (f:=fun j=>(owner.getD j none).map fun k=>(j,k)) (by rw[e];rfl),xeg (f:=fun j=>owner.getD j none) e,ih]
  | some z=>rw[xdr (f:=fun j=>(owner.getD j none).map fun k=>(j,k)) (by rw[e];rfl),xdr (f:=fun j=>owner.getD j none) e,xbt,ih]
theorem zwh {α:Type}(es:List α):(List.range es.length).filterMap (fun i=>es[i]?)=es:=by
 induction es with
 | nil=>rfl
 | cons a l ih =>
  rw[xby,List.range_succ_eq_map,xdr (f:=fun i=>(a::l)[i]?) rfl,List.filterMap_map]
  congr 1
theorem relay {t:SetTable}{es:Array (Int×Value)}{wanted:Nat}(g:Tb t)(hh:∀e∈es.toList,SmallH e.1)(hm:MaskOk (SetTable.sizeAbove wanted - 1))(hn:es.size<=SetTable.sizeAbove wanted - 1) :
  ∃es' t',relayAll t es wanted=(es',t',false)/\Tb t'/\t'.mask=SetTable.sizeAbove wanted - 1/\t'.led=t.led/\t'.place.size=es'.size/\es'.size=es.size/\es'.toList.Perm es.toList:=by
 obtain⟨owner,e1,w⟩:=zxg hm (hs:=es.map (·.1)) (fun x hx=>by
  rw[Array.toList_map] at hx;obtain⟨e,he,rfl⟩:=xbr.mp hx
  exact hh e he) (by simpa using hn)
 rw[Array.size_map] at w;generalize hmk:SetTable.sizeAbove wanted - 1=mask at e1 w hm hn
 let live:=(List.range (mask+1)).filterMap fun j=>(owner.getD j none).map fun k=>(j,k)
 have l1:live.map (·.1)=(List.range (mask+1)).filter fun j=>(owner.getD j none).isSome:=ztn owner _
 have l2:live.map (·.2)=ownL owner mask:=ztm owner _;have hp:=w.perm;rw[← l2] at hp;have hperm:((live.map (·.2)).filterMap fun i=>es[i]?).Perm es.toList:=by
  refine(hp.filterMap _).trans ?_;have:=zwh es.toList;rw[xcc] at this;rw[show(List.range es.size).filterMap (fun i=>es[i]?)=es.toList from(zkd fun i _=>(xcf (xs:=es)).symm).trans this]
 have hlen:((live.map (·.2)).filterMap fun i=>es[i]?).length=es.size:=by rw[hperm.length_eq,xcc]
 have hll:live.length=es.size:=by
  have:=hp.length_eq;rw[xbb,xej] at this;exact this
 have er:t.relaid (es.map (·.1)) wanted=some ({mask,place:=(live.map (·.1)).toArray,dummies:=#[],finger:=t.finger,led:=t.led,moves:=t.movedTo mask,plain:=t.plain},(live.map (·.2)).toArray):=by
  unfold SetTable.relaid SetTable.laid;rw[hmk,e1]
  rfl
 refine⟨((live.map (·.2)).filterMap fun i=>es[i]?).toArray,{mask,place:=(live.map (·.1)).toArray,dummies:=#[],finger:=t.finger,led:=t.led,moves:=t.movedTo mask,plain:=t.plain},?_,⟨?_,rfl,fun y hy=>?_,g.pl⟩,rfl,rfl,?_,?_,?_⟩
 ·unfold relayAll;rw[er];dsimp only;have c1:coversAll (live.map (·.2)).toArray es.size=true:=by
   unfold coversAll;exact List.isPerm_iff.mpr hp
  have c2:(live.map (·.2)).toArray.filterMap (fun x=>es[x]?)=((live.map (·.2)).filterMap fun i=>es[i]?).toArray:=by simp
  rw[c2,c1];have c3:({mask,place:=(live.map (·.1)).toArray,dummies:=#[],finger:=t.finger,led:=t.led,moves:=t.movedTo mask,plain:=t.plain}:SetTable).fits ((live.map (·.2)).filterMap fun i=>es[i]?).toArray.size=true:=by
   unfold SetTable.fits SetTable.fill;dsimp only;rw[xbs,xbs,hlen,xbb,hll];simp;lia
  rw[c3]
  rfl
 ·show(live.map (·.1)).toArray.toList.Pairwise lt;rw[List.toList_toArray,l1];exact xgf List.filter_sublist List.pairwise_lt_range
 ·dsimp only at hy ⊢;rw[l1] at hy;have:=xcd.mp (xeo.mp hy).1;lia
 ·dsimp only;rw[xbs,xbs,hlen,xbb,hll]
 ·rw[xbs,hlen]
 ·rw[List.toList_toArray];exact hperm
end St
namespace St
theorem zbbw {α:Type}{l:List α}{i:Nat}(h:i < l.length):(l[i]::l.eraseIdx i).Perm l:=by
 rw[List.eraseIdx_eq_take_drop_succ];refine xmp.symm.trans ?_;rw[← xfm h,xdn]
theorem zyq {α:Type}(next:Nat->Nat):∀(fuel k:Nat) (left:List α) (out:Array α),left.length<=fuel->(pickOrder.go next fuel k left out).toList.Perm (out.toList++left)
 | 0,k,left,out,h=>by
  have:left=[]:=xka.mp (by lia);subst this;unfold pickOrder.go;rw[xdd]
 | fuel+1,k,left,out,h=>by
  unfold pickOrder.go;cases e:left[next k % left.length]? with
  | none =>
   have:left=[]:=by
    cases left with
    | nil=>rfl
    | cons a l =>
     have:=List.getElem?_eq_none_iff.mp e;have:=xmk (next k) (show(a::l).length > 0 by simp);lia
   subst this;dsimp only;rw[xdd]
  | some x =>
   dsimp only;obtain⟨hi,rfl⟩:=xbh.mp e;have ih:=zyq next fuel (k+1) (left.eraseIdx (next k % left.length)) (out.push left[next k % left.length]) (by rw[List.length_eraseIdx_of_lt hi];lia);refine ih.trans ?_;rw[xew,xcg];exact xge _ (zbbw hi)
theorem zwn {α:Type}(next:Nat->Nat)(xs:Array α):(pickOrder next xs).toList.Perm xs.toList:=by
 unfold pickOrder;exact zyq next xs.size 0 xs.toList #[] (by simp)
theorem zux {xs:Array Nat}(h:Up xs){i:Nat}(hi:i < xs.size):SetTable.below xs (xs.getD i 0+1)=i+1:=by
 obtain⟨h1,h2,h3⟩:=zdx h (xs.getD i 0+1);have up:∀a b,a < b->b < xs.size->xs.getD a 0 < xs.getD b 0:=fun a b hab hb=>by
  have hb':b < xs.toList.length:=by simpa using hb
  have ha':a < xs.toList.length:=by lia
  rw[zei,zei,xbi,xbi,xbd ha',xbd hb'];exact xfl.mp h a b ha' hb' hab
 have dflt:∀a d,a < xs.size->xs.getD a d=xs.getD a 0:=fun a d ha=>by
  rw[xct,xct,xda ha]
  rfl
 generalize SetTable.below xs (xs.getD i 0+1)=b at h1 h2 h3;rcases Nat.lt_trichotomy b (i+1) with c | c | c
 ·have:=h3 i (by lia) hi;have e:=dflt i (xs.getD i 0+1) hi;lia
 ·exact c
 ·have:=h2 (i+1) c;have hlt:i+1 < xs.size:=by lia
  have e:=dflt (i+1) (xs.getD i 0+1) hlt;have:=up i (i+1) (by lia) hlt;lia
theorem zuw {xs:Array Nat}(h:Up xs):SetTable.below xs 0=0:=by
 obtain⟨h1,h2,h3⟩:=zdx h 0;rcases xih (SetTable.below xs 0) with c | c
 ·exact c
 ·exact absurd (h2 0 c) (by lia)
end St
end L2
namespace L2
open PySem PySem.W PyProof.Rows PySem.Spec
namespace St
structure Es (l:List (Int×Value)) (ks:List Nat):Prop where
 all:∀e∈l,∃(n:Nat) (t:Tok),n < 64/\e=((n:Int),Value.int (n:Int) t)
 perm:(l.map (·.1)).Perm (ks.map fun(n:Nat)=>(n:Int))
 nd:ks.Nodup
theorem Es.small {l:List (Int×Value)}{ks:List Nat}(h:Es l ks):∀k∈ks,k < 64:=fun k hk=>by
 have h1:(k:Int)∈l.map (·.1):=h.perm.mem_iff.mpr (xbr.mpr ⟨k,hk,rfl⟩);obtain⟨e,he,e1⟩:=xbr.mp h1;obtain⟨n,t,hn,rfl⟩:=h.all e he;dsimp only at e1;lia
theorem Es.len {l:List (Int×Value)}{ks:List Nat}(h:Es l ks):l.length=ks.length:=by
 have:=h.perm.length_eq
 simpa using this
theorem Es.few {l:List (Int×Value)}{ks:List Nat}(h:Es l ks):l.length<=64:=by
 rw[h.len];have:=xgm h.nd (l₂:=List.range 64) fun k hk=>xcd.mpr (h.small k hk)
 simpa using this
theorem Es.of_perm {l l':List (Int×Value)}{ks:List Nat}(h:Es l ks)(p:l'.Perm l):Es l' ks :=
 ⟨fun e he=>h.all e (p.mem_iff.mp he),(p.map _).trans h.perm,h.nd⟩
theorem Es.add {l:List (Int×Value)}{ks:List Nat}(h:Es l ks){n:Nat}{t:Tok}(hn:n < 64)(no:n∉ks):Es (((n:Int),Value.int (n:Int) t)::l) (n::ks) :=
 ⟨fun e he=>by
  rcases xbp.mp he with rfl | he
  ·exact⟨n,t,hn,rfl⟩
  ·exact h.all e he,h.perm.cons _,xep.mpr ⟨no,h.nd⟩⟩
theorem zlo {n:Nat}(h:n < 64):hashInt (n:Int)=n:=by
 have e:rawHash (n:Int)=n:=by
  unfold rawHash;have h1:(((n:Int).natAbs:Int) % ((2 ^ 61 - 1:Nat):Int))=n:=by
   rw[Int.natAbs_natCast];exact Int.emod_eq_of_lt (by lia) (by lia)
  rw[h1];dsimp only;have h2:¬ ((n:Int) < 0):=by lia
  rw[if_neg h2];have h3:((n:Int)==-1)=false:=by
   rw[xfk];lia
  rw[h3]
  rfl
 unfold hashInt;rw[e];have h3:((n:Int)==-1)=false:=by
  rw[xfk];lia
 rw[h3]
 rfl
structure Tt (w:World) (es:Array (Int×Value)) (t:SetTable) (ks:List Nat):Prop where
 tb:Tb t
 mo:MaskOk t.mask
 ld:t.led=!w.params.followText "set-order"
 sz:t.place.size=es.size
 room:t.place.size * 5 < t.mask * 3
 el:Es es.toList ks
theorem Tt.fits {w:World}{es:Array (Int×Value)}{t:SetTable}{ks:List Nat}(h:Tt w es t ks):t.fits es.size=true:=by
 have:=h.room;have hz:=h.sz;unfold SetTable.fits SetTable.fill;rw[h.tb.nd];simp;lia
theorem Tt.few {w:World}{es:Array (Int×Value)}{t:SetTable}{ks:List Nat}(h:Tt w es t ks):es.size<=64:=by
 have:=h.el.few
 simpa using this
theorem Tt.elems {P:Program}{w:World}{es:Array (Int×Value)}{t:SetTable}{ks:List Nat}(h:Tt w es t ks):ElemsOf (intKind P w) es.toList:=fun e he=>by
 obtain⟨m,t,hm,rfl⟩:=h.el.all e he;exact⟨⟨(m:Int),intKind_is _ _ _ _,(zlo hm).symm⟩,rfl⟩
noncomputable def Sn (w:World) (h:Heap) (a:Addr) (ks:List Nat):Prop:=∃ob es ep t,h.get? a=some ob/\ob.ExactSet/\ob.data=.set es ep t/\Tt w es t ks
theorem Sn.kept {w:World}{h h':Heap}{a:Addr}{ks:List Nat}(x:Sn w h a ks)(k:∀o,h.get? a=some o->h'.get? a=some o):Sn w h' a ks :=
 let ⟨ob,es,ep,t,e,r⟩:=x;⟨ob,es,ep,t,k _ e,r⟩
theorem zbim {t:SetTable}{m:Nat}(nd:t.dummies=#[])(mk:MaskOk t.mask)(hm:t.place.size=m+1)(room:m * 5 < t.mask * 3)(few:m+1<=64) :
  (t.tooFull=false/\(m+1) * 5 < t.mask * 3)\/(t.tooFull=true/\MaskOk (SetTable.sizeAbove (SetTable.grown (m+1)) - 1)/\m+1<=SetTable.sizeAbove (SetTable.grown (m+1)) - 1/\(m+1) * 5 < (SetTable.sizeAbove (SetTable.grown (m+1)) - 1) * 3):=by
 have hf:t.fill=m+1:=by
  unfold SetTable.fill;rw[nd,hm]
  rfl
 rcases mk with e | e | e
 ·by_cases c:m=4
  ·subst c
   right
   refine⟨by unfold SetTable.tooFull;rw[hf,e];decide,?_,by decide,by decide⟩;exact .inr (.inl (by decide))
  ·left
   refine⟨?_,by lia⟩;unfold SetTable.tooFull;rw[hf,e];simp;lia
 ·by_cases c:m=18
  ·subst c
   right
   refine⟨by unfold SetTable.tooFull;rw[hf,e];decide,?_,by decide,by decide⟩;exact .inr (.inr (by decide))
  ·left
   refine⟨?_,by lia⟩;unfold SetTable.tooFull;rw[hf,e];simp;lia
 ·left
  refine⟨?_,by lia⟩;unfold SetTable.tooFull;rw[hf,e];simp;lia
theorem zbfu {h:Heap}{a:Addr}{o:Obj}{es:Array (Int×Value)}{ep:Nat}{t:SetTable}(ho:h.get? a=some o)(hd:o.data=.set es ep t)(es':Array (Int×Value))(t':SetTable) :
  (h.update a (Obj.putSet es' t')).get? a=some {o with data:=.set es' (ep+1) t'}:=by
 have e:=putSet_of es' t' hd;have g:=xfn (Obj.putSet es' t') ho (by rw[e];rfl)
 rwa [e] at g
section
variable {P:Program}{w:World}{B:Around}{E:Value->Shared->Prop}{s:Shared}{a:Addr}
theorem zbpi {ks:List Nat}{n:Nat}{tok:Tok}{Q:Bool->Shared->Prop}(hn:n < 64)(S:Sn w s.heap a ks)
  (fin:∀h' b,Heap.SameBut a s.heap h'->Sn w h' a (if n∈ks then ks else n::ks)->Q b {s with heap:=h'}) :
  wpAny (model P w) B (setAddHashed a (.int (n:Int) tok) (hashInt (n:Int))) Q E s:=by
 obtain⟨ob,es,ep,t,ho,hex,hd,T⟩:=id S;have few:=T.few;have hb:es.size < scanBound:=by unfold scanBound;lia
 unfold setAddHashed setAddHashedIn;refine xex (xba (xkh ho hd T.fits ?_));dsimp only;rw[byScan_of (knd:=intKind P w) (x:=.int (n:Int) tok) rfl hb T.elems,if_pos rfl];unfold setAddByScan;refine xba (xba (xij (xba (wpAny_setScan_of (knd:=intKind P w) (k:=(n:Int)) (intKind_is _ _ _ _) ho hd T.fits T.elems ?_))));cases hr:List.findIdx? (fun e=>(intKind P w).is (n:Int) e.2) es.toList with
 | some j =>
  dsimp only;obtain⟨hj,hp,_⟩:=List.findIdx?_eq_some_iff_getElem.mp hr;obtain⟨m,t2,hm,e⟩:=T.el.all _ (xcx hj);rw[e] at hp;have emn:(n:Int)=(m:Int):=(intKind P w).inj _ _ _ hp (intKind_is P w (m:Int) t2);have h1:(n:Int)∈es.toList.map (·.1):=xbr.mpr ⟨_,xcx hj,by rw[e];exact emn.symm⟩;obtain⟨k,hk,ek⟩:=xbr.mp (T.el.perm.mem_iff.mp h1);have hin:n∈ks:=by
   have:k=n:=by lia
   exact this ▸ hk
  have f:=fin s.heap false (Heap.SameBut.refl a s.heap);rw[if_pos hin] at f;exact xbe (xbe (f S))
 | none =>
  dsimp only;have no:n∉ks:=fun hk=>by
   have h1:(n:Int)∈es.toList.map (·.1):=T.el.perm.mem_iff.mpr (xbr.mpr ⟨n,hk,rfl⟩);obtain⟨e,he,e1⟩:=xbr.mp h1;obtain⟨m,t2,hm,rfl⟩:=T.el.all e he;have z:=List.findIdx?_eq_none_iff.mp hr _ he;dsimp only at e1 z;rw[e1,intKind_is] at z;cases z
  rw[zlo hn];obtain⟨es1,t1,e1,tb1,mk1,ld1,sz1,ln1,pm1⟩:=zbhv (x:=Value.int (n:Int) tok) T.tb T.mo hn T.sz (by have:=T.room;lia);have el1:Es es1.toList (n::ks):=(T.el.add (t:=tok) hn no).of_perm pm1;rw[e1];dsimp only;refine xba (xbe ?_);rw[tb1.pl,if_pos rfl,hashByValue_scannable 8 (x:=Value.int (n:Int) tok) rfl];refine xba (xbe ?_);rw[show plainKind (Value.int (n:Int) tok)=true from rfl,if_pos rfl];have few1:es1.size<=64:=by have:=el1.few;simpa using this
  refine xba (wpAny_storeSet_of ho hd ?_ (by rw[xin];lia));have g1:=zbfu ho hd es1 t1;have sb1:=xev s.heap a (Obj.putSet es1 t1);have f:=fun h' b=>fin h' b
  rw[if_neg no] at f;rcases zbim (t:=t1) (m:=es.size) tb1.nd (by rw[mk1];exact T.mo) (by lia) (by have:=T.room;have:=T.sz;rw[mk1];lia) (by lia) with⟨c1,c2⟩ | ⟨c1,c2,c3,c4⟩
  ·rw[c1];refine xbe (xbe (f _ _ sb1 ⟨_,es1,ep+1,t1,g1,hex,rfl,tb1,by rw[mk1];exact T.mo,ld1.trans T.ld,sz1,?_,el1⟩));lia
  ·rw[c1]
   obtain⟨es2,t2,e2,tb2,mk2,ld2,sz2,ln2,pm2⟩:=relay (wanted:=SetTable.grown es1.size) tb1 (fun e he=>by
    obtain⟨m,tt,hm,rfl⟩:=el1.all e he
    exact⟨m,hm,rfl⟩) (by rw[ln1];exact c2) (by rw[ln1];exact c3)
   rw[e2];refine xba (xbe ?_);refine xba (wpAny_storeSet_of g1 rfl ?_ (by show es2.size<=_;rw[xin];lia));refine xbe (xbe (f _ _ (sb1.trans (xev _ a _)) ⟨_,es2,ep+1+1,t2,zbfu g1 rfl es2 t2,hex,rfl,tb2,by rw[mk2,ln1];exact c2,ld2.trans (ld1.trans T.ld),sz2,?_,el1.of_perm pm2⟩));rw[mk2,ln1];lia
end
end St
namespace St
noncomputable def met:List Nat->List Nat->List Nat
 | [],ks=>ks
 | n::l,ks=>met l (if n∈ks then ks else n::ks)
theorem zli:entryFor table "set.update.loop"=some Builtin.«set.update.loop»:=entryFor_of_tree (by kernel_rfl)
theorem zhm:plainId "set.update.loop"=true:=by decide +kernel
section
variable {P:Program}{w:World}{B:Around}{R:Result->Shared->Prop}{it:Addr}{fp wr:List Addr}{G:Array GenState->Array GenState->Prop}{N:Nat}{It:Nat->Value->Prop}{St:Nat->Shared->Prop}
theorem zyz (W:WalksS P w B.in1 it fp wr G N It St)(a:Addr)(na:a∉fp)(ns:List Nat)(hN:ns.length=N)(small:∀n∈ns,n < 64)
  (val:∀i v,It i v->∃t,v=Value.int ((ns.getD i 0:Nat):Int) t):∀(r:List Nat) (i:Nat) (ks:List Nat) (s:Shared),ns.drop i=r->i<=N->St i s->Sn w s.heap a ks ->
   (∀ s', Moved (a::wr) G s s'->Sn w s'.heap a (met r ks)->R (.ok (.ret .none)) s')->codeAny (model P w) B (.builtin "set.update.loop" ⟨[.ref a, .ref it],[]⟩) R s
 | [],i,ks,s,hr,hi,st,S,fin=>by
  have e:i=N:=by
   have:=congrArg List.length hr;simp at this;lia
  subst e;refine xlh zli ?_;rw[xla zhm _];refine xba (m:=pyNext (.ref it)) (W.done s _ _ st fun s' mv=>?_);have aw:a∉wr:=fun z=>na (W.sub _ z)
  exact xbe (fin s' (mv.mono fun b hb=>xbk _ hb) (S.kept fun o e=>mv.heap a o aw e))
 | n::r,i,ks,s,hr,hi,st,S,fin=>by
  have hlt:i < N:=by
   have:=congrArg List.length hr;simp at this;lia
  have hg:ns.getD i 0=n/\n∈ns/\ns.drop (i+1)=r:=by
   have h1:ns[i]?=some n:=by
    have:=congrArg (fun l:List Nat=>l[0]?) hr
    simpa using this
   refine⟨by rw[xbi,h1];rfl,xca h1,?_⟩;rw[← xll,hr]
   rfl
  have aw:a∉wr:=fun z=>na (W.sub _ z)
  refine xlh zli ?_;rw[xla zhm _];refine xba (m:=pyNext (.ref it)) (W.item i s _ _ hlt st fun v s' pv st' mv=>?_);obtain⟨t,rfl⟩:=val i v pv;rw[hg.1];refine xba (m:=holding [Value.int (n:Int) t] (setAdd a (.int (n:Int) t))) (xex ?_);unfold setAdd;refine xex (xba (wpAny_pyHash_int ?_));refine zbpi (s:={s' with toks:=s'.toks+1}) (small n hg.2.1) (S.kept fun o e=>mv.heap a o aw e) fun h' b sb S'=>?_
  refine xbe ⟨plainId_quiet zhm _,zyz W a na ns hN small val r (i+1) _ _ hg.2.2 hlt (W.frame _ s' _ _ st' (xkl _) fun b hb o e=>?_) S' fun s2 mv2 S2=>?_⟩
  ·rw[sb.2 b (fun z:b=a=>na (z ▸ hb))];exact e
  ·refine fin s2 (Moved.trans W.gtrans ((mv.mono fun b hb=>xbk _ hb).then_heap (xkl _) fun b o hb e=>?_) mv2) S2;rw[sb.2 b (fun z:b=a=>hb (z ▸ xbn))];exact e
end
section
variable {P:Program}{w:World}{B:Around}{E:Value->Shared->Prop}{s:Shared}
noncomputable def newO (w:World):Obj:={ cls:=.type "set", dict:=none, data:=.set #[] 0 (.fresh 0 0 (!w.params.followText "set-order")) }
theorem zbmr (x:Value){W:Value->Shared->Prop}(fin:W (.ref s.heap.objs.size) {s with heap:=s.heap.push (newO w)}) :
  codeAny (model P w) B (.call (.builtin "set.__new__") ⟨[.type "set", x],[]⟩) (wants W E) s:=by
 refine codeAny_call_builtin_code (plainId_quiet F.plain_set_new _) (wpAny_of_eq (F.newCall_set_1 x) (xlh F.entry_set_new ?_));rw[xla F.plain_set_new _];have sub:=sub_set_self;unfold Builtin.«set.__new__» Builtin.Frozenset.newClass;obtain⟨hp,g,d,tk,os⟩:=s
 wp_walk
 refine xjh (xbe ?_);simp only[newObj];exact xba (wpAny_alloc (xbe (xbe fin)))
theorem zbmq {w:World}{h:Heap}{a:Addr}(e:h.get? a=some (newO w)):Sn w h a [] :=
 ⟨_,#[],0,_,e,⟨rfl,rfl,rfl⟩,rfl,⟨List.Pairwise.nil,rfl,fun y hy=>(by cases hy),rfl⟩,.inl rfl,rfl,rfl,(by show 0 * 5 < 7 * 3;decide),⟨fun e he=>(by cases he),xnb _,xgu⟩⟩
theorem zbjw {l:Addr}{its:List Value}{ns:List Nat}{W:Value->Shared->Prop}(hh:B.handled=none)(isl:s.heap.IsList l its.toArray)(iv:IntsAre its (ns.map fun(n:Nat)=>(n:Int)))(small:∀n∈ns,n < 64)
  (fin:∀(h':Heap) (tk:Nat),Sn w h' s.heap.objs.size (met ns [])->(∀b o,s.heap.get? b=some o->h'.get? b=some o)->W (.ref s.heap.objs.size) {s with heap:=h',toks:=tk}) :
  wpAny (model P w) B (call (.type "set") [.ref l]) W E s:=by
 have len:its.length=ns.length:=by simpa using iv.length
 obtain⟨c,tl,hmro⟩:=xhr.mro;have hmade:=xhr.made;have hsub:=xhr.sub;have h1:=xhr.notType;have h2:=xhr.canCreate;have hct:=F.typeCall_set_1 (.ref l);refine wpAny_call (codeAny_of_tree (show wpAny _ _ (callAny (.type "set") _) _ _ _ from xbe ⟨Code.quiet_builtin _ (by decide +kernel), xlh F.entry_type_call ?_⟩))
 rw[Around.under_plain (weight_type_call_type "set" [.ref l] []) rfl]
 repeat (any_goals (first | assumption | wp_step))
 refine xlg (zbmr (w:=w) (.ref l) (E:=E) (W:=fun v s1=>v=.ref s.heap.objs.size/\s1={s with heap:=s.heap.push (newO w)}) ⟨rfl,rfl⟩) fun r s1 hr=>?_
 match r,hr with
 | .error e,hr=>exact hr
 | .ok (.ret v),hr =>
  obtain⟨rfl,rfl⟩:=hr;have en:(s.heap.push (newO w)).get? s.heap.objs.size=some (newO w):=xce _ rfl;have ty:Shared.TypeIs { s with heap:=s.heap.push (newO w) } (.ref s.heap.objs.size) "set":=⟨_, en, rfl⟩
  have hli:=xhr.init.lookup;have hbi:=xhr.init.bind (.ref s.heap.objs.size)
  repeat (any_goals (first | assumption | wp_step))
  refine xlg (codeAny_call_builtin (R:=wants (fun v s2=>v=.none/\∃h' tk,s2={s with heap:=h',toks:=tk}/\Sn w h' s.heap.objs.size (met ns [])/\∀b o,s.heap.get? b=some o->h'.get? b=some o) E) xhr.init.plain F.entry_set_init (check_set_init_1 ty ?body)) fun r2 s2 hr2=>?_
  case body =>
   obtain⟨ol,hol,hcl,nl,hdl⟩:=id isl;obtain⟨oc,od,odt,osl⟩:=ol;simp only at hcl hdl;subst hcl hdl;have hol':(s.heap.push (newO w)).get? l=some { cls:=.type "list", dict:=od, data:=.seq its.toArray nl, slots:=osl }:=xbm _ hol
   have isl':(s.heap.push (newO w)).IsList l its.toArray:=⟨_,hol',rfl,nl,rfl⟩
   have ns1:=F.sub_list_set;have ns2:=F.sub_list_frozenset;have ne:(Value.type "list"==Value.type "dict")=false:=by decide
   unfold Builtin.«set.__init__» noKeywords Builtin.Frozenset.updateFrom;generalize hPI:pyIter=PI
   wp_walk
   subst hPI;have ls:l < s.heap.objs.size:=xbv hol;have z1:(s.heap.push (newO w)).objs.size=s.heap.objs.size+1:=Heap.size_push ..
   refine xis isl' (xba (wpAny_runValue ?_))
   refine zyz ((Walks.list (by simp[hh]) _ l (xch (by rw[z1];exact xhl ls)) its.toArray).toS) s.heap.objs.size (fun z=>by
    rw[z1] at z;rcases xbp.mp z with z | z
    ·exact xch (xjd _) z
    ·exact xjo ls (xbq.mp z)) ns (by simp[len]) small (fun i v hv=>?_) ns 0 [] _ rfl (xea _) ⟨⟨_,xce _ rfl,rfl,rfl⟩,isl'.push _⟩ (zbmq (xbm _ en)) fun s2 mv S2=>?_
   ·obtain⟨t,e⟩:=IntsAre.int_at iv i v (by simpa using hv);refine⟨t,e.trans ?_⟩
    congr 1
    rw[xbi,xcn,xbi];cases ns[i]?<;>rfl
   ·rw[Moved.eq_with mv];refine xbe (xbe ⟨rfl,s2.heap,s2.toks,rfl,S2,fun b o e=>?_⟩);have lt:=xbv e
    exact mv.heap b o (fun z=>by
     rw[z1] at z;rcases xbp.mp z with z | z
     ·exact xch lt z
     ·exact xch (xhl lt) (xbq.mp z)) (xbm _ (xbm _ e))
  match r2,hr2 with
  | .error e,hr2=>exact hr2
  | .ok (.ret v),hr2 =>
   obtain⟨rfl,h',tk,rfl,S',keep⟩:=hr2
   repeat (any_goals (first | assumption | wp_step))
   exact fin _ _ S' keep
end
end St
namespace St
theorem zbgv:Manifest.owners.lookup (String.ofList ("rotareti_tes".toList).reverse)=some Manifest.sig_set_iterator:=by kernel_rfl
theorem ziu:Slot "set_iterator" "__next__" "set_iterator.__next__":=by
 refine Slot.of (owner:="set_iterator") (n:="__next__") ?_ (by decide +kernel) (by decide +kernel) (by decide +kernel) ?_ ?_
 ·rw[typeLookup_type,builtinLookup_eq_fast]
  kernel_rfl
 ·first
   | exact .inl (by decide +kernel)
   | exact .inr (by decide +kernel)
 ·rw[isSubtype_type]
  kernel_rfl
theorem ztg:entryFor table "set_iterator.__next__"=some Builtin.«set_iterator.__next__»:=entryFor_of_tree (by kernel_rfl)
theorem zyw (a:Value):argsOk "set_iterator.__next__" ⟨[a],[]⟩:=by
 unfold argsOk;rw[signature?_of (id:="set_iterator.__next__") (n:="__txen__".toList) (o:="rotareti_tes".toList) (by kernel_rfl) zbgv]
 kernel_rfl
theorem zym:Slot "set_iterator" "__iter__" "set_iterator.__iter__":=by
 refine Slot.of (owner:="set_iterator") (n:="__iter__") ?_ (by decide +kernel) (by decide +kernel) (by decide +kernel) ?_ ?_
 ·rw[typeLookup_type,builtinLookup_eq_fast]
  kernel_rfl
 ·first
   | exact .inl (by decide +kernel)
   | exact .inr (by decide +kernel)
 ·rw[isSubtype_type]
  kernel_rfl
theorem zbat:entryFor table "set_iterator.__iter__"=some Builtin.«dict_keyiterator.__iter__» :=
 entryFor_alias (id':="dict_keyiterator.__iter__") (by kernel_rfl) rfl (by decide +kernel) (by kernel_rfl)
theorem zbfq (a:Value):argsOk "set_iterator.__iter__" ⟨[a],[]⟩:=by
 unfold argsOk;rw[signature?_of (id:="set_iterator.__iter__") (n:="__reti__".toList) (o:="rotareti_tes".toList) (by kernel_rfl) zbgv]
 kernel_rfl
theorem zbcs:entryFor table "set.__iter__"=some Builtin.«frozenset.__iter__» :=
 entryFor_alias (id':="frozenset.__iter__") (by kernel_rfl) rfl (by decide +kernel) (by kernel_rfl)
noncomputable def At (h:Heap) (a:Addr) (es:Array (Int×Value)) (ep:Nat) (t:SetTable):Prop:=∃ob,h.get? a=some ob/\ob.ExactSet/\ob.data=.set es ep t
theorem At.kept {h h':Heap}{a:Addr}{es:Array (Int×Value)}{ep:Nat}{t:SetTable}(x:At h a es ep t)(k:∀o,h.get? a=some o->h'.get? a=some o):At h' a es ep t :=
 let ⟨ob,e,r⟩:=x;⟨ob,k _ e,r⟩
theorem At.is {s:Shared}{a:Addr}{es:Array (Int×Value)}{ep:Nat}{t:SetTable}(x:At s.heap a es ep t):s.TypeIs (.ref a) "set":=let ⟨ob, e, c, _⟩:=x; ⟨ob, e, c.1⟩
theorem At.lt {h:Heap}{a:Addr}{es:Array (Int×Value)}{ep:Nat}{t:SetTable}(x:At h a es ep t):a < h.objs.size:=let ⟨_,e,_⟩:=x;xbv e
noncomputable def ord (w:World) (a:Addr) (es:Array (Int×Value)) (ep:Nat):Array (Int×Value):=if w.params.followText "set-order"=true then pickOrder (w.params.setOrder a ep) es else es
theorem zst (w:World)(a:Addr)(es:Array (Int×Value))(ep:Nat):(ord w a es ep).toList.Perm es.toList:=by
 unfold ord;split
 ·exact zwn _ _
 ·exact xnb _
theorem zjp (w:World)(a:Addr)(es:Array (Int×Value))(ep:Nat):(ord w a es ep).size=es.size:=by
 have:=(zst w a es ep).length_eq
 simpa using this
noncomputable def slotAt (w:World) (t:SetTable):Nat->Nat
 | 0=>0
 | i + 1=>if w.params.followText "set-order"=true then 0 else t.place.getD i 0 + 1
theorem zoi {w:World}(h:w.params.followText "set-order"=true)(t:SetTable):∀ i, slotAt w t i=0
 | 0=>rfl
 | i+1=>if_pos h
theorem zrz {w:World}(h:¬ w.params.followText "set-order"=true)(t:SetTable)(i:Nat):slotAt w t (i + 1)=t.place.getD i 0 + 1:=if_neg h
theorem zsa {w:World}(h:¬ w.params.followText "set-order"=true){t:SetTable}(up:Up t.place):∀ i, i<=t.place.size->SetTable.below t.place (slotAt w t i)=i
 | 0,_=>zuw up
 | i+1,hi=>by rw[zrz h];exact zux up (by lia)
section
variable {P:Program}{w:World}{B:Around}{E:Value->Shared->Prop}{s:Shared}{a it:Addr}{es:Array (Int×Value)}{ep:Nat}{t:SetTable}{ks:List Nat}
theorem zyx {i:Nat}{Q:Option (Value×Nat)->Shared->Prop}(x:At s.heap a es ep t)(T:Tt w es t ks)(hi:i<=es.size)(fin:Q (((ord w a es ep)[i]?).map fun e=>(e.2,slotAt w t (i+1))) s) :
  wpAny (model P w) B (setNext a (slotAt w t i) i ep) Q E s:=by
 obtain⟨ob,ho,hex,hd⟩:=x;unfold setNext setsByText;refine xba (xkh ho hd T.fits ?_);dsimp only;refine xba (xba (xjh (xbe ?_)));show wpAny _ _ (if w.params.followText "set-order"=true then _ else _) _ _ _
 by_cases hb:w.params.followText "set-order"=true
 ·rw[zoi hb] at fin;rw[if_pos hb,if_neg (by simp),zoi hb];unfold setWalk setsByText;refine xba (xba (xkh ho hd T.fits ?_));dsimp only;refine xba (xba (xjh (xbe ?_)));show wpAny _ _ (if w.params.followText "set-order"=true then _ else _) _ _ _
  rw[if_pos hb];refine xba (xjh (xbe (xbe ?_)));unfold ord at fin;rw[if_pos hb] at fin;exact fin
 ·rw[if_neg hb];have hl:t.led=true:=by rw[T.ld];simpa using hb
  have sz:=T.sz;refine xjn (fun z=>?_) (fun _=>?_)
  ·change (!t.plain&&_)=true at z
   rw[T.tb.pl] at z;cases z
  refine xba (xjn (fun z=>?_) (fun _=>xbe ?_))
  ·change (!t.led&&_)=true at z
   rw[hl] at z;cases z
  rw[zsa hb T.tb.up i (by lia)];unfold ord at fin;rw[if_neg hb,zrz hb] at fin;by_cases c:i < es.size
  ·rw[xda c] at fin ⊢;have c2:i < t.place.size:=by lia
   rw[xda c2];have e2:t.place.getD i 0=t.place[i]:=by
    rw[xct,xda c2]
    rfl
   rw[e2] at fin;exact xbe fin
  ·rw[xkj (by lia)] at fin ⊢;exact xbe fin
noncomputable def ItAt (w:World) (h:Heap) (it a:Addr) (i n ep:Nat) (t:SetTable):Prop:=∃ o, h.get? it=some o/\o.cls=.type "set_iterator"/\o.data=.fields #[.int (slotAt w t i:Nat) 0, .int i 0, .ref a, .int n 0, .int ep 0]
theorem ItAt.kept {h h':Heap}{i n:Nat}(x:ItAt w h it a i n ep t)(k:∀o,h.get? it=some o->h'.get? it=some o):ItAt w h' it a i n ep t :=
 let ⟨o,e,r⟩:=x;⟨o,k _ e,r⟩
theorem ItAt.is {i n:Nat}(x:ItAt w s.heap it a i n ep t):s.TypeIs (.ref it) "set_iterator":=let ⟨o, e, c, _⟩:=x; ⟨o, e, c⟩
noncomputable def itO (a:Addr) (n ep:Nat):Obj:={ cls:=.type "set_iterator", data:=.fields #[.int 0 0, .int 0 0, .ref a, .int n 0, .int ep 0] }
theorem zbhz {W:Value->Shared->Prop}(x:At s.heap a es ep t)(T:Tt w es t ks)(fin:W (.ref s.heap.objs.size) {s with heap:=s.heap.push (itO a es.size ep)}):wpAny (model P w) B (pyIter (.ref a)) W E s:=by
 obtain⟨ob,ho,hex,hd⟩:=id x;refine xmi x.is F.slot_set_iter (xet F.slot_set_iter x.is zbcs ?body (F.args_set_iter_1 _))
 case body =>
  unfold Builtin.«frozenset.__iter__» Builtin.Frozenset.sizeOf;refine xba (m:=Builtin.Frozenset.slot0 "__iter__" _) (xbe (xba (xba (xlk ho hd T.fits (xbe ?_)))))
  unfold setDrawn setsByText;refine xba (xba (xkh ho hd T.fits ?_));dsimp only;refine xba (xba (xjh (xbe (xbe ?_))));refine xjn (fun z=>?_) (fun _=>xba (xbe ?_))
  ·change (_&&(!t.plain&&_))=true at z
   rw[T.tb.pl] at z;simp at z
  refine xba (wpAny_setEpoch_of ho hd T.fits ?_);unfold newFields;exact xba (xek (xbe ⟨_, rfl, "set_iterator", _,⟨_, xce _ rfl, rfl⟩, ziu.lookup, fin⟩))
theorem zblj {w:World}{h:Heap}{it a:Addr}{o:Obj}{i n ep:Nat}{t:SetTable}(ho:h.get? it=some o)(hc:o.cls=.type "set_iterator")(hd:o.data=.fields #[.int (slotAt w t i:Nat) 0, .int i 0, .ref a, .int n 0, .int ep 0]) :
  ItAt w ((h.update it (Obj.mapFields (·.setIfInBounds 0 (rawInt (slotAt w t (i+1):Nat))))).update it (Obj.mapFields (·.setIfInBounds 1 (rawInt ((i:Int)+1))))) it a (i+1) n ep t:=by
 have d1:=xic hd (·.setIfInBounds 0 (rawInt (slotAt w t (i+1):Nat)));have g1:=xfn _ ho (xiu d1);have d2:=xic d1 (·.setIfInBounds 1 (rawInt ((i:Int)+1)));refine⟨_,xfn _ g1 (xiu d2),(xmd ..).trans ((xmd ..).trans hc),?_⟩;rw[d2];simp[rawInt]
theorem zbia {i:Nat}{e:Int×Value}{W:Option Value->Shared->Prop}(x:At s.heap a es ep t)(T:Tt w es t ks)(hi:ItAt w s.heap it a i es.size ep t)(he:(ord w a es ep)[i]?=some e)
  (fin:∀g:Heap,ItAt w g it a (i+1) es.size ep t->Heap.SameBut it s.heap g->W (some e.2) {s with heap:=g}):wpAny (model P w) B (pyNext (.ref it)) W E s:=by
 obtain⟨oi,ei,ci,di⟩:=id hi;obtain⟨ob,ho,hex,hd⟩:=id x;have lt:i < es.size:=by
  have:=(xlz.mp he).1
  rwa [zjp] at this
 unfold pyNext;refine xba (xkm (wpAny_callSpecial?_slot (name:=Str.ofString "__next__") hi.is ziu (xet ziu hi.is ztg ?body (zyw _))))
 case body =>
  refine xba (m:=slotArgs "__next__" 0 _) (xbe (xba (xln ei di ?_)))
  refine xba (xlk ho hd T.fits ?_);rw[if_neg (by simp)];refine xba (m:=setNext a (slotAt w t i) i ep) (zyx x T (xbx lt) ?_);rw[he];dsimp only[Option.map];refine xba (xju ei di (by simp) ?_);have d1:=xic di (·.setIfInBounds 0 (rawInt (slotAt w t (i+1):Nat)));have g1:=xfn _ ei (xiu d1);refine xba (xju g1 d1 (by simp) ?_);exact xbe ⟨_,rfl,xbe (fin _ (zblj ei ci di) ((xev ..).trans (xev ..)))⟩
theorem zbnk {i:Nat}{W:Option Value->Shared->Prop}(hh:B.handled=none)(x:At s.heap a es ep t)(T:Tt w es t ks)(hi:ItAt w s.heap it a i es.size ep t)(he:i=es.size)
  (fin:∀g:Heap,Heap.ExtBut it s.heap g->W none {s with heap:=g}):wpAny (model P w) B (pyNext (.ref it)) W E s:=by
 obtain⟨oi,ei,ci,di⟩:=id hi;obtain⟨ob,ho,hex,hd⟩:=id x;unfold pyNext;refine xba (xkm (wpAny_callSpecial?_slot (name:=Str.ofString "__next__") hi.is ziu (xet ziu hi.is ztg ?body (zyw _))))
 case body =>
  refine xba (m:=slotArgs "__next__" 0 _) (xbe (xba (xln ei di ?_)))
  refine xba (xlk ho hd T.fits ?_);rw[if_neg (by simp)];refine xba (m:=setNext a (slotAt w t i) i ep) (zyx x T (xdh he) ?_);rw[xkj (by rw[zjp];lia)];dsimp only[Option.map];refine xba (xju ei di (by simp) (xba ?_));simp only[newExc,newTuple];refine xba (xek (xba (m:=firstArgMember _ _) (wpAny_of_eq (a:=Value.none) (by first | rfl | (simp only[firstArgMember];rfl)) (xek ?_ (by size_fits)))) (by size_fits));simp only[raiseNew];refine xba (wpAny_handled ?_);rw[show B.in1.handled=none from hh];refine xba (xbe (wpAny_throw ?_));refine xba (wpAny_isInstance (T:="StopIteration") (b:=true) ?ty isSubtype_stop (xbe (fin _ (((xev ..).extBut.push _).push _))))
  exact⟨_,xce _ rfl,rfl⟩
theorem zbal (hh:B.handled=none)(ne:a≠it)(T:Tt w es t ks) :
  Walks P w B it [it,a] [it] es.size (fun i v=>∃e,(ord w a es ep)[i]?=some e/\v=e.2) (fun i h=>ItAt w h it a i es.size ep t/\At h a es ep t) where
 sub:=fun b hb=>xbp.mpr (.inl (xbq.mp hb))
 frame:=fun _ _ _ z hk=>⟨z.1.kept fun o e=>hk it xbn o e,z.2.kept fun o e=>hk a (xbk _ (xbq.mpr rfl)) o e⟩
 item:=fun i sh W' E' hi z hQ=>by
  have hx:(ord w a es ep)[i]?=some ((ord w a es ep)[i]'(by rw[zjp];exact hi)):=xda _;exact zbia z.2 T z.1 hx fun g p q=>hQ _ g sh.toks ⟨_,hx,rfl⟩ ⟨p,z.2.kept fun o e=>q.extBut a o ne e⟩ fun c o hc e=>q.extBut c o (fun r=>hc (xbq.mpr r)) e
 done:=fun sh W' E' z hQ=>zbnk hh z.2 T z.1 rfl fun g b=>hQ g sh.toks fun c o hc e=>b c o (fun q=>hc (xbq.mpr q)) e
 self:=fun i sh W' E' z hQ=>by
  refine xmi z.1.is zym (xet zym z.1.is zbat ?_ (zbfq _));exact xbe ⟨_, rfl, "set_iterator", _, z.1.is, ziu.lookup, hQ⟩
theorem zbil {Q:Bool->Shared->Prop}(ty:s.TypeIs (.ref a) "set")(fin:Q false s):wpAny (model P w) B (Builtin.List.listLengthHint (.ref a)) Q E s:=by
 unfold Builtin.List.listLengthHint;refine xba (wpAny_specialOf ty F.slot_set_len.lookup ?_);generalize hid:("set.__len__" : String)=id0
 wp_delta
 rw[show splitId id0=some ("set", "__len__") from by subst hid; decide +kernel]
 subst hid;refine xba (wpAny_isInstance (b:=true) ty sub_set_self (xjn (fun z=>absurd z (by decide)) (fun _=>xjn (fun _=>xba (wpAny_typeOf ty (xbe fin))) (fun z=>absurd (by decide +kernel) z))))
theorem zbkx (T:Tt w es t ks):KdlSrc P w "set" a a es.size (fun i v=>∃ e,(ord w a es ep)[i]?=some e/\v=e.2) (fun h=>At h a es ep t) where
 type:=fun _ x=>x.is
 there:=fun _ x=>⟨x.lt,x.lt⟩
 keep:=fun _ _ x hk=>x.kept fun o e=>hk a (.inl rfl) o e
 notList:=by decide
 notTuple:=by decide
 hint:=fun _ _ _ _ x hq=>zbil x.is hq
 iter:=fun _ sh hh x=>⟨_,_,fun _ _ hq=>zbhz x T hq,zbal hh (xch x.lt) T,⟨⟨_,xce _ rfl,rfl,rfl⟩,x.kept fun o e=>xbm _ e⟩⟩
end
end St
end L2
namespace L2
open PySem PySem.Spec PyProof.Rows PySem.W
noncomputable def nats (ns:List Nat):List Int:=ns.map fun(n:Nat)=>(n:Int)
noncomputable def setO (w:World) (q:Addr) (ks:List Nat):HO:=.ext fun h=>St.Sn w h q ks
noncomputable def rSetI (w:World) (K:Fg):List V->Hp->VK->Prop:=fun xs H Q=>∃(l:Addr) (ns:List Nat),xs=[.ref l]/\SqL K H l ((nats ns).map V.int)/\(∀n∈ns,n < 64)/\∀q,H q=none->Q (.ref q) (upd H q (setO w q (St.met ns [])))
theorem zyc {X:Cx}(hc:X.calm=true):CallR X (.type "set") (rSetI X.w X.K):=by
 intro aU s σ H xs us Q I r h;obtain⟨l,ns,rfl,hl,small,q⟩:=h;obtain⟨u,rfl,ru⟩:=vals1 r;cases ru;obtain⟨its,rv,pl,hz⟩:=I.list hl;refine St.zbjw (I.ok.hd hc) pl.isList (zdv rv) small fun h' tk S keep=>?_
 refine⟨.ref s.heap.objs.size,_,I.laid (a:=s.heap.objs.size) (o:=setO X.w s.heap.objs.size (St.met ns [])) (t':=tk) keep (xbf _) ⟨S,?_,fun h1 h2 z k=>z.kept k⟩,rfl,q _ (I.hok.fresh (xbf _))⟩;obtain⟨ob,_,_,_,e,_⟩:=S;exact⟨ob,e⟩
noncomputable def rSortedS (w:World):List V->Hp->VK->Prop:=fun xs H Q=>∃(a:Addr) (ks:List Nat),xs=[.ref a]/\H a=some (setO w a ks) /\
 ∀(q:Addr) (ms:List Int),H q=none->ms.Perm (nats ks)->ms.Pairwise (·<=·)->Q (.ref q) (upd H q (.lst (ms.map V.int)))
theorem zno {X:Cx}(hc:X.calm=true):CallR X (.builtin "sorted") (rSortedS X.w):=by
 intro aU s σ H xs us Q I r h;obtain⟨a,ks,rfl,ha,q⟩:=h;obtain⟨u,rfl,ru⟩:=vals1 r;cases ru;obtain⟨S,_,_⟩:=(show ObjOk X.prog X.w H s.heap a (setO X.w a ks) from I.hok a _ ha)
 obtain⟨ob,es,ep,t,ho,hex,hd,T⟩:=S;have few:=T.few;refine Srt.zfs (St.zbkx (P:=X.prog) (ep:=ep) T) (I.ok.hd hc) ⟨ob,ho,hex,hd⟩ (small10000 (by lia)) fun vs hl hv=>?_
 have pm:=St.zst X.w a es ep;have evs:vs=(St.ord X.w a es ep).toList.map (·.2):=by
  apply xkg;intro i;by_cases hi:i < es.size
  ·have h1:vs[i]?=some vs[i]:=xbd (by lia);obtain⟨e,h2,h3⟩:=hv i _ h1;rw[h1,h3,xcn,xcf,h2]
   rfl
  ·rw[xhh (by lia),xhh (by rw[xbb,xcc,St.zjp];lia)]
 generalize hL:(St.ord X.w a es ep).toList=L at pm evs;have E:=T.el.of_perm pm;have rv:Vals ((L.map (·.1)).map V.int) vs:=by
  rw[evs,xcy];refine zmb fun e he=>?_
  obtain⟨n,t2,hn,rfl⟩:=E.all e he;exact⟨t2,rfl⟩
 have ln:(L.map (·.1)).length=es.size:=by
  rw[xbb,pm.length_eq,xcc]
 refine⟨Srt.rank (ones (L.map (·.1))),zuq rv,fun h2 g tk keep=>zvb (by lia) rv,fun p b g tk c p1 p2 keep ne eg=>?_⟩;have lv:vs.length=(L.map (·.1)).length:=by lia
 rw[lv] at p1 p2;obtain⟨ms,q1,q2,q3⟩:=zss rv p1 p2;refine⟨.ref b,_,I.laidN (o:=.lst (ms.map V.int)) keep ne ⟨?_,_,c,q3,by simpa using eg⟩,rfl,q b ms (I.away ne) (q1.trans E.perm) q2⟩;rw[xbb,q1.length_eq,ln];exact small10000 (by lia)
end L2
namespace Dd
open PySem L2 PyProof.Rows
noncomputable def once:List Int->List Int
 | []=>[]
 | n::l=>if n∈l then once l else n::once l
theorem zjr {k:Int}:∀{l:List Int},k∈once l↔k∈l
 | []=>Iff.rfl
 | n::l=>by
  unfold once;split
  ·rename_i h;rw[zjr (l:=l),xbp];exact⟨.inr,fun z=>z.elim (fun e=>e ▸ h) id⟩
  ·rw[xbp,xbp,zjr (l:=l)]
theorem zsz:∀l:List Int,(once l).Nodup
 | []=>xgu
 | n::l=>by
  unfold once;split
  ·exact zsz l
  ·rename_i h;exact xep.mpr ⟨fun z=>h (zjr.mp z),zsz l⟩
theorem ztj {k:Nat}:∀{l ks:List Nat},k∈St.met l ks↔k∈l\/k∈ks
 | [],ks=>by simp[St.met]
 | n::l,ks=>by
  unfold St.met;rw[ztj (l:=l),xbp];split
  ·rename_i h;exact⟨fun z=>z.elim (fun a=>.inl (.inr a)) .inr,fun z=>z.elim (fun a=>a.elim (fun e=>.inr (e ▸ h)) .inl) .inr⟩
  ·rw[xbp];exact⟨fun z=>z.elim (fun a=>.inl (.inr a)) (fun a=>a.elim (fun e=>.inl (.inl e)) .inr),fun z=>z.elim (fun a=>a.elim (fun e=>.inr (.inl e)) .inl) (fun a=>.inr (.inr a))⟩
theorem zbce:∀{l ks:List Nat},ks.Nodup->(St.met l ks).Nodup
 | [],ks,h=>h
 | n::l,ks,h=>by
  unfold St.met;split
  ·exact zbce h
  ·rename_i c;exact zbce (xep.mpr ⟨c,h⟩)
theorem zbhn {l:List Nat}(h:l.Nodup):(nats l).Nodup:=by
 unfold nats;rw[List.nodup_iff_pairwise_ne] at h ⊢;exact List.pairwise_map.mpr (h.imp fun a e=>a (by lia))
theorem zbcd {ns:List Nat}:(nats (St.met ns [])).Perm (once (nats ns)):=by
 refine(xma (zbhn (zbce xgu)) (zsz _)).mpr fun k=>?_
 rw[zjr];unfold nats;rw[xbr,xbr];constructor
 ·rintro⟨n,h,rfl⟩;exact⟨n,(ztj.mp h).elim id (fun z=>by cases z),rfl⟩
 ·rintro⟨n,h,rfl⟩;exact⟨n,ztj.mpr (.inl h),rfl⟩
noncomputable def smallI (n:Int):Bool:=decide (0<=n)&&decide (n < 64)
theorem zry {l:List Int}(h:l.all smallI=true):∃ns:List Nat,l=nats ns/\∀n∈ns,n < 64:=by
 refine⟨l.map Int.toNat,?_,fun n hn=>?_⟩
 ·unfold nats;rw[xcy];refine(xna l).symm.trans (xjj fun n hn=>?_);have:=xcw.mp h n hn;simp[smallI] at this;show n=((n.toNat:Nat):Int)
  lia
 ·obtain⟨m,hm,rfl⟩:=xbr.mp hn;have:=xcw.mp h m hm;simp[smallI] at this;lia
noncomputable def bSortSetM:List D->Store->Res D:=fun xs st=>match xs with
 | [x]=>match (asL st x).bind asInts with
  | some l=>if l.all smallI=true then .ok (.ref st.length) (st++[.lst ((sortI (once l)).map .int)]) else .stuck
  | none=>.stuck
 | _=>.stuck
noncomputable def rSS (w:World) (K:Fg):List V->Hp->VK->Prop:=fun xs H Q=>rSetI w K xs H fun u H1=>rSortedS w [u] H1 Q
theorem zrb {w:World}{K:Fg}:CaD K bSortSetM (rSS w K):=fun ρ H st xs us z st' Q rp aa e q=>by
 unfold bSortSetM at e;split at e
 ·obtain⟨u,rfl,a⟩:=aa.one;split at e
  ·rename_i l hl;obtain⟨ys,h0,hl⟩:=xel.mp hl;split at e
   ·rename_i sm;cases e;obtain⟨p,vs,rfl,h1,h2⟩:=zgf rp a h0;have e:=zcr h2 hl;subst e;obtain⟨ns,rfl,small⟩:=zry sm;refine⟨p,ns,rfl,SqL.of h1,small,fun b hb=>⟨b,_,rfl,zr,fun t ms ht hp hs=>?_⟩⟩;have e2:ms=sortI (once (nats ns)):=zrx (hp.trans zbcd) hs;subst e2;obtain⟨E,R⟩:=(rp.new hb (setO w b _)).alloc ht (x:=.lst ((sortI (once (nats ns))).map .int)) (o:=.lst ((sortI (once (nats ns))).map V.int)) fun E=>⟨_,zr,(zgc _).ext E⟩
    exact q _ _ _ ((Ext.new hb _).trans E) R (.last rp.len.symm)
   ·cases e
  ·cases e
 ·cases e
section
variable {X:Cx}{x y:Str}{p p2 pos pos2:Pos}{e:Expr}{f:SA}{g:List D->Store->Res D}
theorem zbrr (hc:X.calm=true)(hr:CaD X.K g (rSS X.w X.K))(hgx:Gl X x)(hmx:X.mg x=none)(hvx:bootBuiltins x=some (.builtin "sorted"))(hgy:Gl X y)(hmy:X.mg y=none)(hvy:bootBuiltins y=some (.type "set"))(ha:JA X [e] f)
  (hnx:x≠"__name__":=by decide)(hdx:(x==("__debug__" : Str))=false:=by decide)(hny:y≠"__name__":=by decide)(hdy:(y==("__debug__" : Str))=false:=by decide)(hp:plainE e=true:=by rfl) :
  JE X (.Call (.Name x p) [.Call (.Name y p2) [e] [] pos2] [] pos) (aE g f) :=
 ⟨zex (zso (zno hc) hgx hmx hvx (zyu (zop (zyc hc) hgy hmy hvy ha.out hny hdy (zks hp)) zbgt) hnx hdx) fun τ H Q h=>zboq hr τ H Q h⟩
end
end Dd
namespace L2
open PySem PySem.Spec PyProof.Rows PySem.W
noncomputable def CMulW (i j:Int):Prop:=PySem.Builtin.Int.intBits i<=60000/\PySem.Builtin.Int.intBits j<=60000
theorem zbha {X:Cx}:OpR X (binaryOp .Mult) (rI CMulW fun i j=>.int (i * j)):=opI fun _ _ _ _ _ _ _ hc q=>mul_int q (.of_le hc.1 hc.2 (by decide))
end L2
namespace Dd
open PySem L2 PyProof.Rows
noncomputable instance instCMulW:DecidableRel CMulW:=fun i j=>by unfold CMulW;infer_instance
noncomputable abbrev oMulW:=oI CMulW fun i j=>.int (i * j)
section
variable {X:Cx}{p p2 pos pos2 cpos apos:Pos}{e o:Expr}{f:SA}{g:SE}
end
section
variable {X:Cx}{R:RXT}{e:Expr}{es:List Expr}{f:SE}{g:SA}{sm:Stmt}{rest body:List Stmt}{s t:SS}{pos p:Pos}{x:Str}{k:Nat}{ps:List Str}{F:DFn}
end
section
variable {P:Program}{w:World}{K:Fg}{mg:Str->Option Value}{base h:Heap}{x:Str}{st:Stmt}{N ps:List Str}{k:Nat}{b:SS}
end
section
variable {X:Cx}{R:RXT}{f:Addr}{σL:DS}{τL:L2.St}{g:SE}{x n y:Str}{p pos pos2 xp hp:Pos}{B:Addr}{i:Nat}{cs:List Str}{b0:Stmt}{suite rest:List Stmt}{u t:SS}
end
section
variable {X:Cx}{y:Str}{p pos lp:Pos}{params:Arguments}{body:Expr}{scope stS:Scope}{N NL:List Str}{is:List Nat}{c T fr:Addr}{fdR:FuncData}{stR:Stmt}{x:Str}{k:Nat}{lam:SE}{b:(Store->Res D)->SS}
end
end Dd
namespace L2
open PySem PySem.Spec PyProof.Rows
end L2
namespace Dd
open PySem L2 PyProof.Rows
section
variable {X:Cx}{o e:Expr}{es:List Expr}{f:SE}{ga:SA}{apos cpos:Pos}
end
end Dd
namespace L2
open PySem PySem.Spec PyProof.Rows
end L2
namespace Dd
open PySem L2 PyProof.Rows
section
variable {X:Cx}{R:RXT}{f:Addr}{σL:DS}{τL:L2.St}{g:SE}{x n y:Str}{p pos pos2 xp hp:Pos}{B:Addr}{i:Nat}{cs:List Str}{b0:Stmt}{suite rest:List Stmt}{u t:SS}
end
section
variable {K:Fg}{cv:Value}
end
section
variable {X:Cx}{pos:Pos}{es:List Expr}{u:List D->DS->Option DS}
end
end Dd
namespace L2
open PySem PySem.Spec PyProof.Rows
section
variable {prog:Program}{w:World}{A:Around}{R:Result->Shared->Prop}{I:Addr}{fp wr:List Addr}{n:Nat}{P:Nat->Value->Prop}{St:Nat->Heap->Prop}
end
section
variable {prog:Program}{w:World}{A:Around}{E:Value->Shared->Prop}{s:Shared}
end
section
variable {X:Cx}{p pos cpos kpos:Pos}{l:Expr}{t:TA}{d:Int}{j:Nat}
end
section
variable {X:Cx}
end
end L2
namespace Dd
open PySem L2 PyProof.Rows
section
variable {X:Cx}{p pos cpos kpos:Pos}{l:Expr}{f:SA}{j:Nat}
end
end Dd
namespace L2
open PySem PySem.Spec PyProof.Rows
section
variable {P:Program}{w:World}{A:Around}{E:Value->Shared->Prop}{s:Shared}{K:Fg}{C fI:Addr}{us:List Value}
end
section
variable {X:Cx}{C f:Addr}{fd:FuncData}{ps:List Str}{sp:Sp}{k:Nat}{x:Str}{p pos:Pos}{e:Expr}{es:List Expr}{t:TA}
end
section
variable {X:Cx}{aU:List (Addr×Obj)}{σ:St}{H:Hp}{s:Shared}
end
end L2
namespace L2
open PySem PySem.Spec PyProof.Rows Builtin Builtin.ObjectAttr
section
variable {P:Program}{w:World}{A:Around}{E:Value->Shared->Prop}{s:Shared}{K:Fg}{C fI ea:Addr}{v:Value}
end
end L2
namespace L2
open PySem PySem.Spec PyProof.Rows
section
variable {X:Cx}{aU:List (Addr×Obj)}{σ:St}{H:Hp}{s:Shared}
end
section
variable {P:Program}{w:World}{K:Fg}{mg:Str->Option Value}{base h:Heap}{C fI R:Addr}{xR qual:Str}{st:Stmt}{fd:FuncData}
end
noncomputable def ItE0 (K:Fg) (a:Addr):It :=
 ⟨fun i H=>∃xs x,SqL K H a xs/\xs[i]?=some x,fun i H y H'=>∃p,H p=none/\y=.ref p/\∀xs x,SqL K H a xs->xs[i]?=some x->H'=upd H p (.tup [.int (i:Int),x]),fun i H=>∃xs,SqL K H a xs/\xs.length<=i⟩
theorem zrs {P:Program}{w:World}{K:Fg}{elts:List Expr}{k:Nat}{tpos:Pos}(e it a:Addr)(hei:e≠it) :
  Turn P w K (.Tuple elts k tpos) (ItE0 K a) [e,it] e (fun i h=>(∃old,IsEnum h e it (i:Int) old)/\h.IsListIter it a i) where
 mem:=by simp
 obj:=fun i h st b hb=>by
  obtain⟨⟨old,he⟩,o,e',c,d⟩:=st;rcases xbp.mp hb with rfl | hb
  ·exact⟨_,he,fun v z=>nomatch (show Data.fields _=Data.cell v from z)⟩
  ·obtain rfl:b=it:=by simpa using hb
   exact⟨o,e',fun v z=>by rw[d] at z;cases z⟩
 keep:=fun i h h' st k=>⟨let ⟨old,he⟩:=st.1;⟨old,k e (by simp) _ he⟩,let ⟨o,z,r⟩:=st.2;⟨o,k it (by simp) o z,r⟩⟩
 item:=by
  intro X hP hw hK hc i aU s σ H E I hf st hg;subst hP hw hK;obtain⟨xs,x,hq,hx⟩:=hg;obtain⟨⟨old,he⟩,hit⟩:=st;obtain⟨its,rv,p,hz⟩:=I.list hq;obtain⟨u,hu,ru⟩:=rv.get hx;refine wpAny_pyNext_enum_item he hit p.isList (x:=u) (by rw[List.getElem?_toArray];exact hu) hei fun h1 ho hit' hT hsz hk=>?_
  refine⟨_,rfl,wpAny_letOwnedTupleGo_enum ho fun h2 he2 hs2=>?_⟩;obtain⟨f0,f1,f2,f3,f4,f5⟩:=hf e (by simp);obtain⟨g0,g1,g2,g3,g4,g5⟩:=hf it (by simp);have hel:e < s.heap.objs.size:=xbv he;have hil:it < s.heap.objs.size:=by obtain⟨o',ho',_⟩:=hit;exact xbv ho'
  have I1:Inv X aU σ (upd H s.heap.objs.size (.tup [.int (i:Int), x])) { s with heap:=s.heap.push { cls:=.type "tuple", data:=.seq #[.int (i:Int) s.toks, u] }, toks:=s.toks } :=
   I.laid (fun _ _ q=>xbm _ q) (xbf _) ⟨by simp;decide,[.int (i:Int) s.toks,u],.cons ⟨_,rfl⟩ (.cons ru .nil),⟨_,xce _ rfl,rfl,_,rfl⟩⟩
  have I2:Inv X aU σ (upd H s.heap.objs.size (.tup [.int (i:Int),x])) {s with heap:=h2,toks:=s.toks+1}:=by
   refine Inv.turned2 (s:={ s with heap:=s.heap.push { cls:=.type "tuple", data:=.seq #[.int (i:Int) s.toks, u] }, toks:=s.toks }) (h':=h2) (t':=s.toks + 1) (e:=e) (it:=it) I1 (fun b o hbe hbi q=>?_) (by rw[zt (xch hil)]; exact g0) g1 g3 g4 g5 (by rw[zt (xch hel)]; exact f0) f1 f3 f4 f5
   rcases Heap.get?_push_cases (show(s.heap.push _).get? b=some o from q) with⟨z,z2⟩ | z
   ·rw[z,z2];exact(hs2.2 _ (xjo hel)).trans hT
   ·exact(hs2.2 _ hbe).trans (hk b o hbe hbi z)
  refine⟨.ref s.heap.objs.size,_,I2,rfl,⟨s.heap.objs.size,I.fresh,rfl,fun ys y hy e'=>?_⟩,⟨⟨u,by push_cast;exact he2⟩,?_⟩,fun b hb=>?_⟩
  ·rw[I.list_inj hy hq,hx] at e';cases e'
   rfl
  ·obtain⟨o,z,r⟩:=hit';exact⟨o,(hs2.2 it (xem hei)).trans z,r⟩
  ·rcases xbp.mp hb with rfl | hb
   ·rw[zt (xch hel)];exact f0
   ·obtain rfl:b=it:=by simpa using hb
    rw[zt (xch hil)];exact g0
 done:=by
  intro X hP hw hK hc i aU s σ H E I hf st hg;subst hP hw hK;obtain⟨xs,hq,hx⟩:=hg;obtain⟨⟨old,he⟩,hit⟩:=st;obtain⟨its,rv,p,hz⟩:=I.list hq;have hl:=rv.length;obtain⟨g0,g1,g2,g3,g4,g5⟩:=hf it (by simp);exact wpAny_pyNext_enum_end (I.ok.hd hc) he hit p.isList (by simp;lia) fun h' he'=>⟨rfl,I.turned (t':=s.toks) (fun b o hb e=>he' b o hb e) g0 g1 g3 g4 g5⟩
 self:=fun A i s Q E st h=>let ⟨old,he⟩:=st.1;wpAny_pyIter_enum he h
section
variable {X:Cx}
noncomputable def iEnum0 (K:Fg) (tl:TE):TI:=fun σ H R=>tl σ H fun x H1=>∃a,x=.ref a/\(∃xs,SqL K H1 a xs)/\R (ItE0 K a) H1
theorem zbbl {elts:List Expr}{k:Nat}{tpos p pos:Pos}{l:Expr}{tl:TE}(hg:Gl X "enumerate")(hm:X.mg "enumerate"=none)(hl:PE X l tl)
  (he:starEach [l] X.env=[(false, eval l X.env)]:=by rfl):PI X (.Tuple elts k tpos) (.Call (.Name "enumerate" p) [l] [] pos) (iEnum0 X.K tl):=by
 intro aU s σ H R I h;refine xjs (zqv I hg hm PyProof.Rows.boot_enumerate ?_);refine xgz (e:=l) (rest:=[]) ?_ he rfl;rw[he];refine xia (thn (hl aU s σ H _ I h) fun v s1 hq0=>?_);obtain⟨x,H1,I1,r1,q1⟩:=hq0;refine xkc ?_;obtain⟨a,rfl,⟨xs,hq⟩,q⟩:=q1;cases r1;obtain⟨its,rv,pp,hz⟩:=I1.list hq;refine call_enumerate_list pp.isList fun h' he' hit hsz hk=>?_
 refine wpAny_pyIter_enum he' ?_;have I3:=I1.kept (h':=h') (t':=s1.toks) hk;refine⟨s1.heap.objs.size+1,[s1.heap.objs.size+1,s1.heap.objs.size],_,_,H1,rfl,I3,zrs _ s1.heap.objs.size a (Nat.succ_ne_self _),⟨⟨_,he'⟩,hit⟩,fun b hb=>?_,q⟩;have hb':s1.heap.objs.size<=b:=by
  have hb2:b=s1.heap.objs.size+1\/b=s1.heap.objs.size:=by simpa using hb
  cases hb2 with
  | inl z=>exact z ▸ xkl _
  | inr z=>exact z ▸ xbf _
 exact I1.fpOk hb' (I1.hok.fresh hb')
end
section
variable {X:Cx}{e:Expr}{pos:Pos}{te:TE}
end
section
variable {P:Program}{w:World}{K:Fg}{mg:Str->Option Value}{base:Heap}{N:List Str}{qual:Str}{scope:Scope}{f:Addr}{cd:Value}{A:Around}{outer:List Env}{s₀:Shared}{H₀:Hp}{E:XK}
end
end L2
namespace Dd
open PySem L2 PyProof.Rows
section
variable {X:Cx}{R:RXT}{e:Expr}{es:List Expr}{f:SE}{g:SA}{sm:Stmt}{rest body:List Stmt}{s t:SS}{pos p:Pos}{x:Str}
end
section
variable {X:Cx}{R:RXT}{e:Expr}{es:List Expr}{f:SE}{g:SA}{sm:Stmt}{rest body:List Stmt}{s t:SS}{pos p:Pos}{x:Str}
end
end Dd
namespace L2
open PySem PySem.Spec PyProof.Rows
end L2
namespace Dd
open PySem L2 PyProof.Rows
section
variable {X:Cx}{R:RXT}{e:Expr}{es:List Expr}{f:SE}{g:SA}{pos p:Pos}{x:Str}
end
end Dd
namespace L2
open PySem PySem.Spec PyProof.Rows
section
variable {X:Cx}
end
end L2
namespace Dd
open PySem L2 PyProof.Rows
end Dd
namespace L2
open PySem PySem.Spec PyProof.Rows
end L2
namespace Dd
open PySem L2 PyProof.Rows
section
variable {X:Cx}{o e:Expr}{es:List Expr}{f:SE}{ga:SA}{apos cpos:Pos}
end
end Dd
namespace L2
open PySem PySem.Spec PyProof.Rows
noncomputable def rSetD (_K:Fg):V->List V->Hp->VK->Prop:=fun x vs H Q=>∃(a:Addr) (k:Key) (v:V) (kvs:List (Key×V)),x=.ref a/\vs=[kV k,v]/\H a=some (.dK kvs)/\kvs.length < sizeLine /\
 (∀u,valV kvs k=some u->Q u H)/\(valV kvs k=none->Q v (upd H a (.dK (putK kvs k v))))
theorem zbho {X:Cx}:MtR X "dict.setdefault" (rSetD X.K):=by
 intro aU s σ H x xs v us Q I rx rv h;obtain⟨a,k,d,kvs,rfl,rfl,e,hl,q1,q2⟩:=h;cases rx;obtain⟨u,r,rfl,ry,rd⟩:=vals2 rv;obtain⟨z,hd,vs,rel,dd⟩:=zbqf I.hok e;have hz:vs.length<=sizeLine:=by rw[← rel.length];exact z
 have hl2:(putK kvs k d).length<=sizeLine:=by have:=zgb kvs k d;lia
 refine call_meetsIn xlm dd.typeIs F.entry_dict_setdefault (F.args_dict_setdefault_3 _ _ _) (kt_meets_setdefault (mixKind X.prog X.w) a (zbcr ry) hd r) ⟨vs,dd,hz,fun w hw=>?_,fun hn h' dd' hs=>?_⟩
 ·have rr:=rel.val k;rw[hw] at rr;cases hk:valV kvs k with
  | none=>rw[hk] at rr;exact rr.elim
  | some y=>rw[hk] at rr;exact⟨y,H,I.tok _,rr,q1 y hk⟩
 ·have hk:valV kvs k=none:=by
   have rr:=rel.val k;rw[hn] at rr;cases hk:valV kvs k with
   | none=>rfl
   | some y=>rw[hk] at rr;exact rr.elim
  have he:∃q,h'.get? a=some q:=let ⟨q,_,_,hq,_⟩:=dd';⟨q,hq⟩
  exact⟨d,_,zph I (by rw[e];exact True.intro) hs he (zbiz hl2 hd (rel.put k rd) dd'),rd,q2 hk⟩
end L2
namespace Dd
open PySem L2 PyProof.Rows
noncomputable def valI (kvs:List (Int×D)) (k:Int):Option D:=(kvs.find? fun kv=>decide (kv.1=k)).map (·.2)
noncomputable def putI (kvs:List (Int×D)) (k:Int) (v:D):List (Int×D) :=
 if(kvs.any fun kv=>decide (kv.1=k))=true then kvs.map (fun kv=>if kv.1=k then(kv.1,v) else kv) else kvs++[(k,v)]
theorem inlI {a b:Int}:(Sum.inl a:Key)=Sum.inl b↔a=b:=⟨fun e=>Sum.inl.inj e,fun e=>by rw[e]⟩
section
variable {K:Fg}{ρ:Loc}{H:Hp}{kvs:List (Int×D)}{vs:List (Key×V)}
theorem KiAt.val (h:KiAt K ρ H kvs vs)(k:Int):match valI kvs k with
  | some d=>∃v,valV vs (Sum.inl k)=some v/\At K ρ H d v
  | none=>valV vs (Sum.inl k)=none:=by
 induction h with
 | nil=>rfl
 | @cons p q ps qs h t ih =>
  obtain⟨h1,h2⟩:=h;by_cases e:p.1=k
  ·have e1:valI (p::ps) k=some p.2:=by simp[valI,xdj,e]
   rw[e1];exact⟨q.2,zhb (by rw[h1,e]),h2⟩
  ·have e1:valI (p::ps) k=valI ps k:=by simp[valI,xdj,e]
   have e2:valV (q::qs) (Sum.inl k)=valV qs (Sum.inl k):=zhc (by rw[h1,inlI];exact e);rw[e1,e2];exact ih
theorem KiAt.keys (h:KiAt K ρ H kvs vs):vs.map (·.1)=(kvs.map (·.1)).map Sum.inl:=by
 induction h with
 | nil=>rfl
 | @cons p q ps qs h t ih=>rw[xbt,xbt,xbt,ih,h.1]
theorem KiAt.put (h:KiAt K ρ H kvs vs)(k:Int){d:D}{v:V}(a:At K ρ H d v):KiAt K ρ H (putI kvs k d) (putK vs (Sum.inl k) v):=by
 have any:∀{kvs:List (Int×D)} {vs:List (Key×V)},KiAt K ρ H kvs vs->(kvs.any fun kv=>decide (kv.1=k))=(vs.any fun kv=>decide (kv.1=Sum.inl k)):=fun h=>by
  induction h with
  | nil=>rfl
  | @cons p q ps qs h t ih =>
   rw[xhj,xhj,ih,h.1]
   congr 1
   simp only[inlI]
 unfold putI putK;rw[any h];split
 ·rename_i hh;clear hh any
  induction h with
  | nil=>exact .nil
  | @cons p q ps qs h t ih =>
   refine .cons ?_ ih;obtain⟨h1,h2⟩:=h;dsimp only;by_cases e:p.1=k
   ·rw[if_pos e,if_pos (by rw[h1,e])];exact⟨h1,a⟩
   ·rw[if_neg e,if_neg (by rw[h1,inlI];exact e)];exact⟨h1,h2⟩
 ·have app:∀{kvs:List (Int×D)} {vs:List (Key×V)},KiAt K ρ H kvs vs->KiAt K ρ H (kvs++[(k,d)]) (vs++[(Sum.inl k,v)]):=fun h=>by
   induction h with
   | nil=>exact .cons ⟨rfl,a⟩ .nil
   | cons h t ih=>exact .cons h ih
  exact app h
theorem KiAt.length (h:KiAt K ρ H kvs vs):kvs.length=vs.length:=xhx h
theorem zos {p:Addr}(g:H p=some (.dK vs)):∀ob u,H p≠some (.frz ob u):=fun ob u z=>by rw[g] at z;cases z
end
noncomputable def eDNewI:SE:=fun _ st=>.ok (.ref st.length) (st++[.dI []])
noncomputable def eSetDI (f:SE) (g:SA):SE:=fun σ st=>(f σ st).bind fun x st1=>match x with
 | .ref n=>match st1[n]? with
  | some (.dI _)=>(g σ st1).bind fun ys st2=>match ys,st2[n]? with
   | [.int k,d],some (.dI kvs)=>if kvs.length < sizeLine then(match valI kvs k with
    | some v=>.ok v st2
    | none=>.ok d (st2.set n (.dI (putI kvs k d)))) else .stuck
   | _,_=>.stuck
  | _=>.stuck
 | _=>.stuck
section
variable {X:Cx}{o e a:Expr}{es:List Expr}{f:SE}{ga:SA}{apos cpos pos:Pos}
theorem zuj:JE X (.Dict [] [] pos) eDNewI:=⟨zex zbbr fun τ H Q hq0 p hp=>by
 obtain⟨ρ,σ,st,v,st',a,rp,e,q⟩:=hq0;cases e;obtain⟨E,R⟩:=rp.alloc hp (x:=.dI []) (o:=.dK []) fun E=>⟨[],zr,.nil⟩
 exact q _ _ _ E R (.last rp.len.symm)⟩
theorem zbdn (ho:JE X o f)(ha:JA X (e::es) ga)(hbase:attributeBase o "setdefault" X.env (eval o X.env)=eval o X.env:=by rfl)
  (hfew:((backTo cpos (starEach (e::es) X.env)).all (fun x=>!x.1)&&(backToKw cpos (keywordEach [] X.env)).all (fun x=>x.1.isSome)
   && decide ((e::es).length+([]:List Keyword).length+(if([]:List Keyword).isEmpty then 0 else 1) < 30))=true:=by rfl)
  (hline:(apos.endLine==cpos.line)=true:=by rfl)(hs:starEach (e::es) X.env=(false,eval e X.env)::starEach es X.env:=by rfl)(hplain:(backTo cpos (starEach es X.env)).any (·.1)=false:=by rfl) :
  JE X (.Call (.Attribute o "setdefault" apos) (e::es) [] cpos) (eSetDI f ga):=⟨zex (zbmc xjw xlm F.type_dict_setdefault zbho ho.out ha.out hbase hfew hline hs hplain) fun τ H Q hq0=>by
 obtain⟨ρ,σ,st,v,st',a,rp,e,q⟩:=hq0;obtain⟨x,st1,e1,e⟩:=za e;refine⟨ρ,σ,st,x,st1,a,rp,e1,fun ρ1 H1 u x1 rp1 a1=>?_⟩;split at e
 ·rename_i n;split at e
  ·rename_i kv0 h0;obtain⟨p,rfl,hp,vs0,g0,_⟩:=zdt rp1 a1 h0 (by intro z;cases z);obtain⟨ys,st2,e2,e⟩:=za e;refine⟨.inr (.inr (.inl ⟨rfl,.inl ⟨_,g0⟩⟩)),ρ1,σ,st1,ys,st2,a.ext x1,rp1,e2,fun ρ2 H2 ws x2 rp2 a2=>?_⟩;split at e
   ·rename_i k d kvs hn;split at e
    ·rename_i hlen;obtain⟨w,w2,rfl,a3,a4⟩:=a2.two;cases a3;obtain⟨p',ep,hp2,vs,g1,g2⟩:=zdt rp2 (a1.ext x2) hn (by intro z;cases z);cases ep;have g4:=g2.val k;refine⟨p,Sum.inl k,w2,vs,rfl,rfl,g1,by rw[← g2.length];exact hlen,fun y hy=>?_,fun hy=>?_⟩
     ·split at e
      ·rename_i z hv;cases e;rw[hv] at g4;obtain⟨vv,g5,g6⟩:=g4;rw[g5] at hy;cases hy;exact q _ _ _ (x1.trans x2) rp2 g6
      ·rename_i hv;rw[hv] at g4;rw[show valV vs (Sum.inl k)=none from g4] at hy;cases hy
     ·split at e
      ·rename_i z hv;rw[hv] at g4;obtain⟨vv,g5,g6⟩:=g4;rw[g5] at hy;cases hy
      ·rename_i hv;cases e;have E:Ext ρ2 H2 ρ2 (upd H2 p (.dK (putK vs (Sum.inl k) w2))):=Ext.wr hp2 (zos g1) _;exact q _ _ _ ((x1.trans x2).trans E) (rp2.wr hp2 (zos g1) ⟨_,zr,(g2.put k a4).ext E⟩) (a4.ext E)
    ·cases e
   ·cases e
  ·cases e
 ·cases e⟩
end
end Dd
namespace L2
open PySem PySem.Spec PyProof.Rows
noncomputable def rBits:V->List V->Hp->VK->Prop:=fun x vs H Q=>∃i:Int,x=.int i/\vs=[]/\Q (.int (Builtin.Int.intBits i)) H
theorem zbhp {X:Cx}:MtR X "int.bit_length" rBits:=by
 intro aU s σ H x xs v us Q I rx rv h;obtain⟨i,rfl,rfl,q⟩:=h;obtain⟨t,rfl⟩:=rx;cases rv;exact call_int_bit_length ⟨.int _,H,I.tok _,⟨_,rfl⟩,q⟩
end L2
namespace Dd
open PySem L2 PyProof.Rows
noncomputable def eBits (f:SE):SE:=fun σ st=>(f σ st).bind fun x st1=>match x with
 | .int i=>.ok (.int (Builtin.Int.intBits i)) st1
 | _=>.stuck
theorem zpk {X:Cx}{o:Expr}{f:SE}{apos cpos:Pos}(ho:JE X o f)(hbase:attributeBase o "bit_length" X.env (eval o X.env)=eval o X.env:=by rfl)(hline:(apos.endLine==cpos.line)=true:=by rfl):JE X (.Call (.Attribute o "bit_length" apos) [] [] cpos) (eBits f) :=
 ⟨zex (zbmb F.plainAttrs_int F.slot_int_bit_length F.type_int_bit_length zbhp ho.out hbase hline) fun τ H Q hq0=>by
  obtain⟨ρ,σ,st,v,st',a,rp,e,q⟩:=hq0;obtain⟨x,st1,e1,e⟩:=za e;refine⟨ρ,σ,st,x,st1,a,rp,e1,fun ρ1 H1 u x1 rp1 a1=>?_⟩;split at e
  ·rename_i i;cases e;cases a1;exact⟨rfl,i,rfl,rfl,q _ _ _ x1 rp1 (.int _)⟩
  ·cases e⟩
end Dd
namespace L2
open PySem PySem.Spec PyProof.Rows
section
variable {X:Cx}{tg:Expr}
end
end L2
namespace Dd
open PySem PySem.Spec PyProof.Rows L2
section
variable {X:Cx}{tg l:Expr}{f:SE}{p pos:Pos}
end
end Dd
namespace L2
open PySem PySem.Spec PyProof.Rows PySem.W
section
variable {X:Cx}{aU:List (Addr×Obj)}{σ:St}{H:Hp}{s:Shared}
end
end L2
namespace Dd
open PySem PySem.Spec PyProof.Rows L2
noncomputable def iEn0 (f:SE):SA:=fun σ st=>(f σ st).bind fun x st1=>match x with
 | .lst xs=>.ok (numF 0 xs) st1
 | _=>.stuck
noncomputable def intsOf (st:Store) (x:D):Option (List (Int×D)):=match x with
 | .ref n=>match st[n]? with
  | some (.dI kvs)=>some kvs
  | _=>none
 | _=>none
noncomputable def oIIn (neg:Bool) (y x:D) (st:Store):Res D:=match y,intsOf st x with
 | .int k,some kvs=>.ok (.bl (if neg then !(valI kvs k).isSome else(valI kvs k).isSome)) st
 | _,_=>.stuck
noncomputable def oIGet (x y:D) (st:Store):Res D:=match intsOf st x,y with
 | some kvs,.int k=>match valI kvs k with
  | some v=>.ok v st
  | none=>.stuck
 | _,_=>.stuck
noncomputable def sIPut (f g h:SE):SS:=fun σ st=>(h σ st).bind fun v st1=>(f σ st1).bind fun x st2=>(g σ st2).bind fun y st3=>match x,y with
 | .ref n,.int k=>match st3[n]? with
  | some (.dI kvs)=>if kvs.length < sizeLine then .ok (.nx σ) (st3.set n (.dI (putI kvs k v))) else .stuck
  | _=>.stuck
 | _,_=>.stuck
theorem ztv {K:Fg}{ρ:Loc}{st:Store}{H:Hp}(rp:Rep K ρ st H){d:D}{u w:V}{kvs:List (Int×D)}{k:Int}(a:At K ρ H d u)(b:At K ρ H (.int k) w)(e:intsOf st d=some kvs) :
  ∃p o,u=.ref p/\DGet H p w o/\o.isSome=(valI kvs k).isSome/\∀z,valI kvs k=some z->∃v,o=some v/\At K ρ H z v:=by
 unfold intsOf at e;split at e
 ·split at e
  ·rename_i n kv hn;cases e;obtain⟨p,rfl,hp,vs,g1,g2⟩:=zdt rp a hn (by intro z;cases z);cases b;have g3:=g2.val k;refine⟨p,valV vs (Sum.inl k),rfl,.inl ⟨vs,Sum.inl k,.inl g1,rfl,rfl⟩,?_,fun z hz=>?_⟩
   ·split at g3
    ·rename_i hv;obtain⟨v,e,_⟩:=g3;rw[hv,e]
     rfl
    ·rename_i hv;rw[hv,g3]
     rfl
   ·rw[hz] at g3;exact g3
  ·cases e
 ·cases e
section
variable {X:Cx}{l a b c o i e value:Expr}{f g h:SE}{elts:List Expr}{n:Nat}{tpos p pos pos':Pos}
theorem zgv (hg:Gl X "enumerate")(hm:X.mg "enumerate"=none)(hl:JE X l f)(he:starEach [l] X.env=[(false, eval l X.env)]:=by rfl) :
  JI X (.Tuple elts n tpos) (.Call (.Name "enumerate" p) [l] [] pos) (iEn0 f):=⟨zbgi (zbbl hg hm hl.out he) fun τ H R hq0=>by
 obtain⟨ρ,σ,st,xs,st',a,rp,e,q⟩:=hq0;obtain⟨x,st1,e1,e⟩:=za e;refine⟨ρ,σ,st,x,st1,a,rp,e1,fun ρ1 H1 u x1 rp1 a1=>?_⟩;split at e
 ·rename_i ys;cases e;cases a1 with
  | lst h1 h2 h3 =>
   refine⟨_,rfl,⟨_,SqL.of h1⟩,q _ _ _ x1 rp1 ⟨fun ρ2 H2 x2 i d e=>?_,fun ρ2 H2 x2 i h=>?_⟩⟩
   ·obtain⟨z,hz,rfl⟩:=zfz e;obtain⟨v,hv,av⟩:=h3.get hz;refine⟨⟨_,v,SqL.of (x2.out h1 h2).1,hv⟩,fun y H3 hy=>?_⟩;obtain⟨p,hp,rfl,hH⟩:=hy;rw[hH _ _ (SqL.of (x2.out h1 h2).1) hv];refine⟨Ext.new hp _,fun st rp2=>⟨rp2.new hp _,?_⟩⟩;rw[xix];exact At.newT rp2 hp (.cons (.int _) (.cons (av.extG x2) .nil))
   ·rw[zce] at h;exact⟨_,SqL.of (x2.out h1 h2).1,by rw[h3.length];exact h⟩
 ·cases e⟩
theorem zbii {neg:Bool}{x y v:D}{st st':Store}(e:oIIn neg y x st=.ok v st'):∃k kvs,y=.int k/\intsOf st x=some kvs/\v=.bl (if neg then !(valI kvs k).isSome else(valI kvs k).isSome)/\st'=st:=by
 unfold oIIn at e;split at e
 ·rename_i k kvs h;cases e;exact⟨k,kvs,rfl,h,rfl,rfl⟩
 ·cases e
theorem zbgr (hu:X.A.units+1 < cLine)(hi:JE X i g)(ho:JE X o f):JC X .In i o (aS (oIIn false) g f):=⟨fun aU s σ H Q I hq=>by
 refine zbgs hu hi.out ho.out aU s σ H Q I ?_;obtain⟨ρ,σ',st,v,st',a,rp,e,q⟩:=hq;obtain⟨x,st1,e1,e⟩:=za e;obtain⟨y,st2,e2,e⟩:=za e;refine⟨ρ,σ',st,x,st1,a,rp,e1,fun ρ1 H1 u x1 rp1 a1=>?_⟩;refine⟨ρ1,σ',st1,y,st2,a.ext x1,rp1,e2,fun ρ2 H2 w x2 rp2 a2=>?_⟩;obtain⟨k,kvs,rfl,h2,rfl,rfl⟩:=zbii e;obtain⟨p,oo,rfl,g1,g2,_⟩:=ztv rp2 a2 (a1.ext x2) h2;refine⟨p,oo,rfl,g1,?_⟩;rw[g2]
 exact q _ _ _ (x1.trans x2) rp2 (.bl _)⟩
theorem zsp (hu:X.A.units+1 < cLine)(hi:JE X i g)(ho:JE X o f):JC X .NotIn i o (aS (oIIn true) g f):=⟨fun aU s σ H Q I hq=>by
 refine zwq hu hi.out ho.out aU s σ H Q I ?_;obtain⟨ρ,σ',st,v,st',a,rp,e,q⟩:=hq;obtain⟨x,st1,e1,e⟩:=za e;obtain⟨y,st2,e2,e⟩:=za e;refine⟨ρ,σ',st,x,st1,a,rp,e1,fun ρ1 H1 u x1 rp1 a1=>?_⟩;refine⟨ρ1,σ',st1,y,st2,a.ext x1,rp1,e2,fun ρ2 H2 w x2 rp2 a2=>?_⟩;obtain⟨k,kvs,rfl,h2,rfl,rfl⟩:=zbii e;obtain⟨p,oo,rfl,g1,g2,_⟩:=ztv rp2 a2 (a1.ext x2) h2;refine⟨p,oo,rfl,g1,?_⟩;rw[g2]
 exact q _ _ _ (x1.trans x2) rp2 (.bl _)⟩
theorem zui (hu:X.A.units+1 < cLine)(ho:JE X o f)(hi:JE X i g)(hs:NoSl i):JE X (.Subscript o i pos) (aS oIGet f g):=⟨zex (zys hu ho.out hi.out hs) fun τ H Q hq0=>by
 obtain⟨ρ,σ,st,v,st',a,rp,e,q⟩:=hq0;obtain⟨x,st1,e1,e⟩:=za e;obtain⟨y,st2,e2,e⟩:=za e;refine⟨ρ,σ,st,x,st1,a,rp,e1,fun ρ1 H1 u x1 rp1 a1=>?_⟩;refine⟨ρ1,σ,st1,y,st2,a.ext x1,rp1,e2,fun ρ2 H2 w x2 rp2 a2=>?_⟩;unfold oIGet at e;split at e
 ·rename_i h1;split at e
  ·rename_i z hv;cases e;obtain⟨p,oo,rfl,g1,_,g2⟩:=ztv rp2 (a1.ext x2) a2 h1;obtain⟨vv,rfl,g3⟩:=g2 _ hv;exact⟨p,vv,rfl,g1,q _ _ _ (x1.trans x2) rp2 g3⟩
  ·cases e
 ·cases e⟩
theorem zbdh (hu:X.A.units+1 < cLine)(ho:JE X o f)(hi:JE X i g)(hv:JE X value h)(hs:swapsWith value (some (.Subscript o i pos')) pos.line X.env=pure false) :
  JS X (.Assign [.Subscript o i pos'] value pos) (sIPut f g h):=⟨zsm (zyp hu ho.out hi.out hv.out hs) fun E τ H hq0=>by
 obtain⟨ρ,σ,st,fl,st',a,rp,e,q⟩:=hq0;obtain⟨v,st1,e1,e⟩:=za e;obtain⟨x,st2,e2,e⟩:=za e;obtain⟨y,st3,e3,e⟩:=za e;refine⟨ρ,σ,st,v,st1,a,rp,e1,fun ρ1 H1 u x1 rp1 a1=>?_⟩;refine⟨ρ1,σ,st1,x,st2,a.ext x1,rp1,e2,fun ρ2 H2 w x2 rp2 a2=>?_⟩;refine⟨ρ2,σ,st2,y,st3,a.ext (x1.trans x2),rp2,e3,fun ρ3 H3 t x3 rp3 a3=>?_⟩;split at e
 ·split at e
  ·rename_i n k _ _ kvs hn;split at e
   ·rename_i hl;cases e;obtain⟨p,rfl,hp,vs,g1,g2⟩:=zdt rp3 (a2.ext x3) hn (by intro z;cases z);cases a3;have E:Ext ρ3 H3 ρ3 (upd H3 p (.dK (putK vs (Sum.inl k) u))):=Ext.wr hp (zos g1) _;refine⟨p,_,rfl,DPut.k (k:=Sum.inl k) g1 (by rw[← g2.length];exact hl),?_⟩;exact q _ _ _ ((x1.trans (x2.trans x3)).trans E) (rp3.wr hp (zos g1) ⟨_,zr,(g2.put k (a1.ext (x2.trans x3))).ext E⟩) (a.ext ((x1.trans (x2.trans x3)).trans E))
   ·cases e
  ·cases e
 ·cases e⟩
end
end Dd
namespace Dd
open PySem L2 PyProof.Rows
section
variable {X:Cx}{pos pos' p:Pos}{x:Str}{i:Nat}
theorem sv (hN:X.N[i]?=some x:=by rfl)(hv:Vis X.env.scope x:=by first | exact Or.inl rfl | exact Or.inr (Or.inl rfl) | exact Or.inr (Or.inr rfl))(hd:(x==("__debug__" : Str))=false:=by decide)
 (hcd:(x==("__classdict__" : Str))=false:=by decide):JE X (.Name x pos) (aA i):=zhw (pv i hN hv hd hcd)
theorem scl {k j:Nat}{ps:List Str}{F:DFn}{e:Expr}{es:List Expr}{g:SA}(c:CalD X.prog X.w X.K X.mg X.base x k ps F)(hr:Room j X.A)(ha:JA X (e::es) g)(hn:∀ds st v st',F ds st=.ok v st'->ds.length=ps.length:=by exact fun _ _ _ _ h=>zzo h)(hk:k<=j:=by first | decide | lia)(hg:Gl X x:=by rfl)
 (hdb:(x==("__debug__" : Str))=false:=by decide)(he:starEach (e::es) X.env=(false, eval e X.env)::starEach es X.env:=by rfl)(hpl:(backTo pos (starEach es X.env)).any (·.1)=false:=by rfl):JE X (.Call (.Name x p) (e::es) [] pos) (aE F g):=zbaa c hn (hr.mono hk) hg ha hdb he hpl
theorem sst {e:Expr}{f:SE}(hN:X.N.Nodup)(he:JE X e f)(hi:X.N[i]?=some x:=by rfl)(hx:L2.Loc X.env.scope x:=by first | exact Or.inl rfl | exact Or.inr rfl)(hs:swapsWith e (some (.Name x pos')) pos.line X.env=pure false:=by rfl)(hf:X.fn x=true\/X.env.scope.names.lookup x=some .local:=by first | exact .inl rfl | exact .inr rfl | assumption) :
 JS X (.Assign [.Name x pos'] e pos) (aF i f):=zzt hN hi hx he hs hf
theorem sgn (hN:X.N.Nodup)(hi:X.N[i]?=some x:=by rfl)(hx:L2.Loc X.env.scope x:=by first | exact Or.inl rfl | exact Or.inr rfl)(hf:X.fn x=true\/X.env.scope.names.lookup x=some .local:=by first | exact .inl rfl | exact .inr rfl | assumption):JG X (.Name x pos) (gN i):=zcu hN hi hx hf
theorem sfr {tg iter:Expr}{body:List Stmt}{it:SA}{bd:SG}{b:SS}(hi:JI X tg iter it)(hg:JG X tg bd)(hb:JB X body b)(hp:PassesOwn (model X.prog X.w) X.A X.env X.xe:=by exact xgn)(hc:X.calm=true:=by rfl)(hs:∀x,foldedSetIterable iter X.env x=pure x:=by intro _;rfl) :
 JS X (.For tg iter body [] pos) (sFor it bd b):=zzu hp hc hi hg hb hs
theorem scp {iter elt:Expr}{it:SA}{f:SE}(N:List Str){k:Nat}{is:List Nat}{scope:Scope}(hi:JI X (.Name x p) iter it)(he:∀cl C fp s H,JE (cxC X N scope cl C fp s H) elt f)(nd:N.Nodup:=by decide +kernel)(S:CompScope X N k is scope:=by exact zhx (by rfl))(hcalm:X.calm=true:=by rfl)
  (hg:N.Nodup->∀cl C fp s H,JG (cxC X N scope cl C fp s H) (.Name x p) (gN 0):=by exact fun nd _ _ _ _ _=>sgn nd)(hs:∀x,foldedSetIterable iter X.env x=pure x:=by intro _;rfl):JE X (.ListComp elt [⟨.Name x p,iter,[],0⟩] scope pos) (aG it k is (gN 0) aI f) :=
 zja hcalm hi (hg nd) (fun _ _ _ _ _=>znj) he S hs
theorem sa1 {a:Expr}{f:SE}(ha:JE X a f)(hp:plainE a=true:=by rfl):JA X [a] (aB f aC):=ze ha zbn hp
theorem sa2 {a b:Expr}{f g:SE}(ha:JE X a f)(hb:JE X b g)(hp:plainE a=true:=by rfl)(hq:plainE b=true:=by rfl):JA X [a,b] (aB f (aB g aC)):=ze ha (sa1 hb hq) hp
theorem sad {a b:Expr}{f g:SE}(ha:JE X a f)(hb:JE X b g):JE X (.BinOp a .Add b pos) (aS aM f g):=zcl zsy zbca ha hb
theorem ssb {a b:Expr}{f g:SE}(ha:JE X a f)(hb:JE X b g):JE X (.BinOp a .Sub b pos) (aS oSub f g):=zcl zbbx (zfq fun _ _ _ _=>.int _) ha hb
end
structure En where
 P:Program
 w:World
 K:Fg
 mg:Str->Option Value
 base:Heap
 h:Heap
 X:K.In h
 G:h.Ns mainGlobals mg
noncomputable abbrev Cl (Y:En) (x:Str) (k:Nat) (ps:List Str) (F:DFn):Prop:=CalD Y.P Y.w Y.K Y.mg Y.base x k ps F
section
variable {Y:En}{x:Str}{st:Stmt}{ps:List Str}{k:Nat}{b:SS}
theorem cmk (N:List Str)(T:TopF Y.K x st)(hbody:N.Nodup->∀(f:Addr) (cdv:Value) (A:Around) (outer:List Env) (s:Shared) (H:Hp) (E:XK),Room k (A.deeper (envOfC x (defScope st) s.heap.objs.size f cdv))->JB (cxOf CX0 Y.P Y.w Y.K Y.mg Y.base N x (defScope st) f cdv A outer s H E).nox (defBody st) b)
 (S:FnScope N ps (defScope st):=by exact⟨rfl,rfl,rfl,by decide +kernel,rfl,by decide +kernel,by decide +kernel⟩)
 (bd:∀(kV doc pm:Value) (an:Option Addr) (cdv ct:Value) (us:List Value),us.length=ps.length->bindArgs (W.fnOf x x (defArgs st) (defBody st) (defScope st) .none kV doc pm an cdv ct) ⟨us,[]⟩=pure (ps.zip us):=by
  first | exact fun _ _ _ _ _ _ us hl=>len1 us hl fun _=>rfl | exact fun _ _ _ _ _ _ us hl=>len2 us hl fun _ _=>rfl | exact fun _ _ _ _ _ _ us hl=>len3 us hl fun _ _ _=>rfl | exact fun _ _ _ _ _ _ us hl=>len4 us hl fun _ _ _ _=>rfl | exact fun _ _ _ _ _ _ us hl=>len0 us hl rfl) :
 Cl Y x (k+1) ps (fnD N.length ps.length b):=zuu T Y.X Y.G S bd (hbody S.nd)
end
end Dd
namespace L2
open PySem PySem.Spec PyProof.Rows PySem.W
noncomputable def rSortDI:List V->Hp->VK->Prop:=fun xs H Q=>∃(a:Addr) (ns:List Int) (kvs:List (Key×V)),xs=[.ref a]/\Rd H a (.dK kvs)/\kvs.map (·.1)=ns.map Sum.inl/\ns.length<=10000 /\
 ∀(q:Addr) (ms:List Int),H q=none->ms.Perm ns->ms.Pairwise (·<=·)->Q (.ref q) (upd H q (.lst (ms.map V.int)))
theorem zgi {X:Cx}(hc:X.calm=true):CallR X (.builtin "sorted") rSortDI:=by
 intro aU s σ H xs us Q I r h;obtain⟨a,ns,kvs,rfl,e,ek,few,q⟩:=h;obtain⟨u,rfl,ru⟩:=vals1 r;cases ru;obtain⟨z,hd,vs,rel,dd⟩:=zzx I.hok e;obtain⟨ep,da⟩:∃ep,s.heap.DictAt (mixKind X.prog X.w) a vs ep:=by
  obtain⟨o,es,ep,h⟩:=dd;exact⟨ep,o,es,h⟩
 have kk:vs.map (·.1)=ns.map Sum.inl:=rel.keys.symm.trans ek;have hln:vs.length=ns.length:=by have:=congrArg List.length kk;simpa using this
 refine Srt.zfs (W.kdl_dict (prog:=X.prog) (w:=X.w) (knd:=mixKind X.prog X.w) (kvs:=vs) (ep:=ep) hd) (I.ok.hd hc) da (small10000 (by lia)) fun xs hl hv=>?_
 have rv:Vals (ns.map V.int) xs:=by
  have:∀(l:List Int) (ys:List Value) (i:Nat),ns.drop i=l->xs.drop i=ys->l.length=ys.length->Vals (l.map V.int) ys:=fun l=>by
   induction l with
   | nil=>intro ys i _ _ h;cases ys with
    | nil=>exact .nil
    | cons y ys=>cases h
   | cons n l ih =>
    intro ys i h1 h2 h3;cases ys with
    | nil=>cases h3
    | cons y ys =>
     have g1:ns[i]?=some n:=by rw[← List.head?_drop,h1];rfl
     have g2:xs[i]?=some y:=by rw[← List.head?_drop,h2];rfl
     have g3:(vs.map (·.1))[i]?=some (Sum.inl n):=by rw[kk,xcn,g1];rfl
     obtain⟨k,x,hi,hk⟩:=hv i y g2;rw[xcn,hi] at g3;have e1:k=Sum.inl n:=xcv g3;subst e1;refine .cons ?_ (ih ys (i+1) (by rw[← List.tail_drop,h1];rfl) (by rw[← List.tail_drop,h2];rfl) (by simpa using h3));rcases zy (show keyIs (Sum.inl n) y=true from hk) with⟨j,t,e1,rfl⟩ | ⟨j,t,e1,rfl⟩
     ·cases e1;exact⟨t,rfl⟩
     ·cases e1
  exact this ns xs 0 rfl rfl (by lia)
 refine⟨Srt.rank (ones ns),zuq rv,fun h2 g tk keep=>zvb (by lia) rv,fun p b g tk c p1 p2 keep ne eg=>?_⟩;have lv:xs.length=ns.length:=by lia
 rw[lv] at p1 p2;obtain⟨ms,q1,q2,q3⟩:=zss rv p1 p2;refine⟨.ref b,_,I.laidN (o:=.lst (ms.map V.int)) keep ne ⟨?_,_,c,q3,by simpa using eg⟩,rfl,q b ms (I.away ne) q1 q2⟩;rw[xbb,q1.length_eq];exact small10000 (by lia)
end L2
namespace Dd
open PySem L2 PyProof.Rows
noncomputable def bSortDI:List D->Store->Res D:=fun xs st=>match xs with
 | [.ref n]=>match st[n]? with
  | some (.dI kvs)=>if kvs.length<=10000 then .ok (.lst ((sortI (kvs.map (·.1))).map .int)) st else .stuck
  | _=>.stuck
 | _=>.stuck
theorem zpt {K:Fg}:CaD K bSortDI rSortDI:=fun ρ H st xs us z st' Q rp aa e q=>by
 unfold bSortDI at e;split at e
 ·split at e
  ·rename_i n kvs hn;split at e
   ·rename_i few;cases e;obtain⟨u,rfl,a⟩:=aa.one;obtain⟨p,rfl,hp,vs,g1,g2⟩:=zdt rp a hn (by intro z;cases z);refine⟨p,kvs.map (·.1),vs,rfl,.inl g1,g2.keys,by simpa using few,fun t ms ht hp hs=>?_⟩;have e2:ms=sortI (kvs.map (·.1)):=zrx hp hs;subst e2;exact q _ _ _ (Ext.new ht _) (rp.new ht _) (.newL rp ht (zgc _))
   ·cases e
  ·cases e
 ·cases e
end Dd
namespace Dd
open PySem L2
noncomputable def zfm:DFn:=fnD 5 2 (aD (aF 2 (eC (.int 0)))
 (aD (sIf (eB (aS oLtT (aA 1) (aE bLen (aB (aA 0) aC)))) (aF 2 (aE bAbs (aB (aS oIx (aA 0) (aA 1)) aC))) sNx)
 (aD (aF 3 (aS aM (aS oMulI (eC (.int 7919)) (aA 1)) (eC (.int 17))))
 (aD (sFor (iR1 (aB (aE bMin2 (aB (aE bLen (aB (aA 0) aC)) (aB (eC (.int 60)) aC))) aC)) (gN 4) (aF 3 (aS oMod (aS aM (aS aM (aS oMulI (aA 3) (eC (.int 48271))) (aS oMod (aS oIx (aA 0) (aA 4)) (eC (.int 2147483647)))) (aA 4)) (eC (.int 2147483629)))))
 (aD (sIf (eB (aS oLtT (aA 2) (aS oPow (eC (.int 10)) (eC (.int 18))))) (aF 2 (eC (.int 0))) sNx)
 (sRet (eLstM (aB (aA 2) (aB (aA 3) aC)))))))))
noncomputable def zi:DFn:=fnD 5 2 (aD (sIf (eB (aS oGt (aS oIx (aA 0) (eC (.int 0))) (eC (.int 0)))) (aD (aF 2 (aS oMod (aS oIx (aA 0) (eC (.int 0))) (aA 1)))
 (aD (sSetIx (aA 0) (eC (.int 0)) (aS oFdiv (aS oIx (aA 0) (eC (.int 0))) (aA 1)))
 (sRet (aA 2)))) sNx)
 (aD (aF 3 (eC (.int 0)))
 (aD (aF 4 (eC (.int 1)))
 (aD (sWhile (eB (aS oLtT (aA 4) (aA 1))) (aD (sSetIx (aA 0) (eC (.int 1)) (aS oMod (aS aM (aS oMulI (aS oIx (aA 0) (eC (.int 1))) (eC (.int 48271))) (eC (.int 7919))) (eC (.int 2147483647))))
 (aD (aF 3 (aS aM (aS oMulI (aA 3) (eC (.int 1073741789))) (aS oMod (aS oMulI (aS oFdiv (aS oIx (aA 0) (eC (.int 1))) (eC (.int 8))) (eC (.int 69621))) (eC (.int 1073741789)))))
 (aF 4 (aS oMulI (aA 4) (eC (.int 1073741789)))))))
 (sRet (aS oMod (aA 3) (aA 1)))))))
noncomputable def zny:DFn:=fnD 2 2 (sIf (eB (aS (oDIn false) (aA 1) (aA 0))) (sDrop (eDPop (aA 0) (aA 1))) (sDPut (aA 0) (aA 1) (eC (.bl true))))
noncomputable def zet:SS:=(sDPut (aA 1) (aA 2) (eNot (eDGet2 (aA 1) (aA 2) (eC (.bl false)))))
noncomputable def zeb:DFn:=fnD 3 1 (aD (aF 1 eDNew)
 (aD (sFor (aH (aA 0)) (gN 2) zet)
 (sRet (aE bTuple (aB (aE bSorted (aB (aG (iDict (aA 1)) 1 [1] (gN 0) (eTru (aS oDGet (aA 1) (aA 0))) (aA 0)) aC)) aC)))))
noncomputable def zbv:DFn:=fnD 1 1 (sRet (eAnd (aE bIsinst (aB (aA 0) (aB (eC (.ty "int")) aC))) (eNot (aE bIsinst (aB (aA 0) (aB (eC (.ty "bool")) aC))))))
noncomputable def zct:DFn:=fnD 1 1 (sRet (aS oIx (eLst (aB (eC (.int 1)) (aB (eC (.int 2)) (aB (eC (.int 2)) (aB (eC (.int 2)) (aB (eC (.int 3)) (aB (eC (.int 3)) (aB (eC (.int 3)) (aB (eC (.int 4)) (aB (eC (.int 4)) (aB (eC (.int 5)) (aB (aS aM (eC (.int 5)) (aE zi (aB (aA 0) (aB (eC (.int 6)) aC)))) aC)))))))))))) (aE zi (aB (aA 0) (aB (eC (.int 11)) aC)))))
noncomputable def zjf:SS:=(aD (sIf (eB (aS oGe (aA 4) (aA 1))) (sDrop (eAppend (aA 3) (aB (aA 4) aC))) sNx)
 (aD (sIf (eB (aS oEq (aA 4) (aA 0))) sBrk sNx)
 (aF 4 (aS oAndI (aS oSub (aA 4) (aA 0)) (aA 0)))))
noncomputable def zkn:DFn:=fnD 5 3 (aD (aF 3 (eLstM aC))
 (aD (aF 4 (eC (.int 0)))
 (aD (sWhile (eB (aS oLe (aA 4) (aA 2))) zjf)
 (sRet (eFz (aA 3))))))
noncomputable def zda:SS:=(sDrop (eAppend (aA 3) (aB (aR (aB (aS aM (aA 4) (aR (aB (aS aM (aA 1) (aA 6)) aC))) (aB (aS oSub (aA 5) (aA 6)) aC))) aC)))
noncomputable def zcz:SS:=(sFor (aH (aE zkn (aB (aA 1) (aB (aS oSub (aA 5) (aA 2)) (aB (aA 5) aC))))) (gN 6) zda)
noncomputable def zbs:DFn:=fnD 7 3 (aD (aF 3 (eLstM aC))
 (aD (sFor (aH (aA 0)) (gT 2 (gsCons (gN 4) (gsCons (gN 5) gsNil))) zcz)
 (sRet (eFz (aA 3)))))
noncomputable def zcs:SS:=(aD (sAug 3 (oI (fun _ _=>True) fun i j=>.int (i - j)) (aA 4))
 (aF 2 (aE zbs (aB (aA 2) (aB (aA 4) (aB (aA 3) aC))))))
noncomputable def zbm:DFn:=fnD 5 2 (aD (aF 2 (eLst (aB (aR (aB (aR aC) (aB (aA 1) aC))) aC)))
 (aD (aF 3 (aE bSum (aB (aA 0) aC)))
 (aD (sFor (aH (aA 0)) (gN 4) zcs)
 (sRet (aG (aH (aA 2)) 2 [] (gT 2 (gsCons (gN 0) (gsCons (gN 1) gsNil))) aI (aA 0))))))
noncomputable def zjh:SS:=(sDrop (aE zny (aB (aA 2) (aB (aA 4) aC))))
noncomputable def zjg:SS:=(sIf (eB (aS oLe (aA 1) (aE bSum (aB (aA 3) aC)))) (sFor (aH (aE zbm (aB (aA 3) (aB (aA 1) aC)))) (gN 4) zjh) sNx)
noncomputable def zko:DFn:=fnD 5 2 (aD (sIf (bOr (bNot (eTru (aE zbv (aB (aA 1) aC)))) (eB (aS oLtT (aA 1) (eC (.int 0))))) sStuck sNx)
 (aD (aF 2 eDNew)
 (aD (sFor (aH (aA 0)) (gN 3) zjg)
 (sRet (aE bTuple (aB (aE bSorted (aB (aA 2) aC)) aC))))))
noncomputable def zgl:SS:=(sDrop (aE zny (aB (aA 1) (aB (aA 2) aC))))
noncomputable def zfk:DFn:=fnD 3 1 (aD (aF 1 eDNew)
 (aD (sFor (aH (aA 0)) (gN 2) zgl)
 (sRet (aE bTuple (aB (aE bSorted (aB (aA 1) aC)) aC)))))
noncomputable def zdc:SS:=(aD (aF 7 (aE zi (aB (aA 0) (aB (aS aM (aA 3) (eC (.int 1))) aC))))
 (aD (sIf (eB (aS oEq (aA 5) (eC (.int 0)))) (aF 7 (aE (bBest true) (aB (aG (aH (aR (aB (eC (.int 0)) (aB (eC (.int 1)) (aB (eC (.int 3)) (aB (eC (.int 7)) (aB (eC (.int 15)) aC))))))) 1 [7] (gN 0) (eB (aS oLe (aA 0) (aA 1))) (aA 0)) aC))) sNx)
 (aD (sDrop (eAppend (aA 4) (aB (aA 7) aC)))
 (aF 3 (aS oSub (aA 3) (aA 7))))))
noncomputable def zbt:DFn:=fnD 9 3 (aD (aF 3 (aA 2))
 (aD (aF 4 (eLstM aC))
 (aD (aF 5 (aE zi (aB (aA 0) (aB (eC (.int 3)) aC))))
 (aD (sFor (iR1 (aB (aS oSub (aA 1) (eC (.int 1))) aC)) (gN 6) zdc)
 (aD (sDrop (eAppend (aA 4) (aB (aA 3) aC)))
 (aD (aF 8 (aE zi (aB (aA 0) (aB (aA 1) aC))))
 (sRet (aE bTuple (aB (aS aM (eSl (aA 4) (pSome (aA 8)) pNone) (eSl (aA 4) pNone (pSome (aA 8)))) aC)))))))))
noncomputable def zbr:DFn:=fnD 4 4 (sRet (aE zeb (aB (aG (iR1 (aB (aE zi (aB (aA 0) (aB (aS aM (aA 3) (eC (.int 1))) aC))) aC)) 1 [0,1,2] (gN 0) aI (aE zbt (aB (aA 1) (aB (aA 2) (aB (aA 3) aC))))) aC)))
noncomputable def zdi:DFn:=fnD 2 2 (aD (sIf (bOr (bNot (eTru (aE bIsinst (aB (aA 1) (aB (eC (.ty "tuple")) aC))))) (eB (aS oNe (aE bLen (aB (aA 1) aC)) (aA 0)))) (sRet (eC (.bl false))) sNx)
 (sRet (aE (bAny true) (aB (aG (aH (aA 1)) 1 [] (gN 0) aI (eAnd (aE zbv (aB (aA 0) aC)) (aS oGe (aA 0) (eC (.int 0))))) aC))))
noncomputable def zbp:SS:=(aF 2 (aS oFdiv (aS oMulW (aA 2) (aS aM (aA 1) (aA 3))) (aA 3)))
noncomputable def zx:DFn:=fnD 4 2 (aD (aF 2 (eC (.int 1)))
 (aD (sFor (iR2 (aB (eC (.int 1)) (aB (aA 0) aC))) (gN 3) zbp)
 (sRet (aA 2))))
noncomputable def zgy:DFn:=fnD 1 1 (sRet (aE bSortSetM (aB (aG (aH (aA 0)) 1 [] (gN 0) aI (aE bSum (aB (aA 0) aC))) aC)))
noncomputable def zea:DFn:=fnD 1 1 (sRet (eIf (eB (aS oLe (aA 0) (eC (.int 3)))) (eC (.int 24)) (eC (.int 10))))
noncomputable def zbu:DFn:=fnD 2 2 (sRet (eAnd (aS oLe (aA 1) (aE zea (aB (aA 0) aC))) (aS oLe (aE zx (aB (aA 0) (aB (aA 1) aC))) (eC (.int 200)))))
noncomputable def zem:DFn:=fnD 2 2 (aD (sIf (bNot (eTru (aE zbu (aB (aA 0) (aB (aA 1) aC))))) sStuck sNx)
 (sRet (aA 1)))
noncomputable def zco:DFn:=fnD 3 2 (aD (aF 2 (aE zgy (aB (aA 1) aC)))
 (aD (sIf (eB (aS oGt (aE bLen (aB (aA 2) aC)) (eC (.int 1)))) sStuck sNx)
 (sRet (eIf (eTru (aA 2)) (aE zem (aB (aA 0) (aB (aS oIx (aA 2) (eC (.int 0))) aC))) (eC .non)))))
noncomputable def zdh:DFn:=fnD 3 2 (aD (aF 2 (aS oIx (eLst (aB (eC (.int 24)) (aB (eC (.int 24)) (aB (eC (.int 18)) (aB (eC (.int 8)) (aB (eC (.int 5)) (aB (eC (.int 4)) (aB (eC (.int 3)) (aB (eC (.int 3)) (aB (eC (.int 3)) (aB (eC (.int 2)) aC))))))))))) (aS oSub (aA 1) (eC (.int 1)))))
 (sRet (aS oIx (eLst (aB (aA 2) (aB (aE zi (aB (aA 0) (aB (aS aM (aA 2) (eC (.int 1))) aC))) aC))) (aE bInt (aB (aS oGt (aE zi (aB (aA 0) (aB (eC (.int 3)) aC))) (eC (.int 0))) aC)))))
noncomputable def zbo:DFn->SS:=fun fF=>(sDrop (eExtend (aA 2) (aB (aG (aH (aE fF (aB (aS oSub (aA 0) (eC (.int 1))) (aB (aS oSub (aA 1) (aA 3)) aC)))) 1 [3] (gN 0) aI (aS aM (aR (aB (aA 1) aC)) (aA 0))) aC)))
noncomputable def zg:DFn->DFn:=fun fF=>fnD 4 2 (aD (sIf (eB (aS oEq (aA 0) (eC (.int 1)))) (sRet (eLst (aB (aR (aB (aA 1) aC)) aC))) sNx)
 (aD (aF 2 (eLstM aC))
 (aD (sFor (iR1 (aB (aS aM (aA 1) (eC (.int 1))) aC)) (gN 3) (zbo fF))
 (sRet (eFz (aA 2))))))
noncomputable def zdk:SS:=(aD (sDrop (eAppend (aA 1) (aB (aA 2) aC)))
 (aF 2 (aS oMulI (eC (.int 2)) (aA 2))))
noncomputable def zcc:DFn:=fnD 3 1 (aD (aF 1 (eLstM aC))
 (aD (aF 2 (eC (.int 1)))
 (aD (sWhile (eB (aS oLe (aS oMulI (eC (.int 2)) (aA 2)) (aA 0))) zdk)
 (sRet (eFz (aA 1))))))
noncomputable def zcn:SS:=(sDrop (eExtend (aA 2) (aB (aG (aH (aE (iterF zg 10) (aB (aA 0) (aB (aS oSub (aA 1) (aA 3)) aC)))) 1 [3] (gN 0) aI (aR (aB (aA 1) (aB (aA 0) aC)))) aC)))
noncomputable def zbh:DFn:=fnD 4 2 (aD (aF 2 (eLstM aC))
 (aD (sFor (aH (aE zcc (aB (aA 1) aC))) (gN 3) zcn)
 (sRet (eFz (aA 2)))))
noncomputable def zgm:SS:=(aD (aF 3 (aS oIGet (aA 0) (eBits (aA 1))))
 (aD (aF 1 (aS oXorI (aA 1) (aS oIx (aA 3) (eC (.int 0)))))
 (aF 2 (aS oXorI (aA 2) (aS oIx (aA 3) (eC (.int 1)))))))
noncomputable def zdb:DFn:=fnD 4 2 (aD (aF 2 (eC (.int 0)))
 (aD (sWhile (bAnd (eTru (aA 1)) (eB (aS (oIIn false) (eBits (aA 1)) (aA 0)))) zgm)
 (sRet (aR (aB (aA 1) (aB (aA 2) aC))))))
noncomputable def zfo:SS:=(aF 2 (aS oOrI (aA 2) (aS oShl (eC (.int 1)) (aS oDGet (aA 0) (aA 3)))))
noncomputable def zch:DFn:=fnD 4 2 (aD (aF 2 (eC (.int 0)))
 (aD (sFor (aH (aA 1)) (gN 3) zfo)
 (sRet (aA 2))))
noncomputable def zfp:SS:=(aD (aF 7 (aE zdb (aB (aA 3) (aB (aE zch (aB (aA 2) (aB (aE zko (aB (aR (aB (aA 6) aC)) (aB (aA 5) aC))) aC))) aC))))
 (sIf (eTru (aS oIx (aA 7) (eC (.int 0)))) (aD (sIPut (aA 3) (eBits (aS oIx (aA 7) (eC (.int 0)))) (aR (aB (aS oIx (aA 7) (eC (.int 0))) (aB (aS oOrI (aS oIx (aA 7) (eC (.int 1))) (aS oShl (eC (.int 1)) (aE bLen (aB (aA 4) aC)))) aC))))
 (sDrop (eAppend (aA 4) (aB (aR (aB (aA 5) (aB (aA 6) aC))) aC)))) sNx))
noncomputable def zci:DFn:=fnD 8 3 (aD (aF 3 eDNewI)
 (aD (aF 4 (eLstM aC))
 (aD (sFor (aH (aE zbh (aB (aA 0) (aB (aA 1) aC)))) (gT 2 (gsCons (gN 5) (gsCons (gN 6) gsNil))) zfp)
 (sRet (aR (aB (aA 3) (aB (eFz (aA 4)) aC)))))))
noncomputable def zo:DFn:=fnD 1 1 (aD (sIf (bOr (bNot (eTru (aE zbv (aB (aA 0) aC)))) (eB (aS oLtT (aA 0) (eC (.int 0))))) sStuck sNx)
 (sRet (aA 0)))
noncomputable def zfi:SS:=(sDPut (aA 1) (aA 3) (aA 2))
noncomputable def zcg:DFn:=fnD 4 1 (aD (aF 1 eDNew)
 (aD (sFor (iEn0 (aA 0)) (gT 2 (gsCons (gN 2) (gsCons (gN 3) gsNil))) zfi)
 (sRet (aA 1))))
noncomputable def zcf:DFn:=fnD 4 2 (aD (aF 2 (aE (iterF zg 10) (aB (aA 0) (aB (aE zem (aB (aA 0) (aB (aE zo (aB (aA 1) aC)) aC))) aC))))
 (aD (aF 3 (aS oIx (aE zci (aB (aA 0) (aB (aA 1) (aB (aE zcg (aB (aA 2) aC)) aC)))) (eC (.int 0))))
 (sRet (eCompM (iEn0 (aA 2)) 2 [3] (gT 2 (gsCons (gN 0) (gsCons (gN 1) gsNil))) (eB (aS (oIIn true) (aS aM (aA 0) (eC (.int 1))) (aA 2))) (aA 1)))))
noncomputable def zba:DFn:=fnD 2 2 (sRet (aE bLen (aB (aE zcf (aB (aA 0) (aB (aA 1) aC))) aC)))
noncomputable def zdl:SS:=(aD (aF 0 (aS oAndI (aA 0) (aS oSub (aA 0) (eC (.int 1)))))
 (sAug 1 (oI (fun _ _=>True) fun i j=>.int (i+j)) (eC (.int 1))))
noncomputable def zbf:DFn:=fnD 2 1 (aD (aF 1 (eC (.int 0)))
 (aD (sWhile (eTru (aA 0)) zdl)
 (sRet (aA 1))))
noncomputable def zie:SS:=(sIf (eB (aS oEq (aS oMod (aE zbf (aB (aS oAndI (aA 2) (aS oIx (aS oIGet (aA 0) (aA 3)) (eC (.int 0)))) aC)) (eC (.int 2))) (eC (.int 1)))) (aF 2 (aS oOrI (aA 2) (aS oShl (eC (.int 1)) (aS oSub (aA 3) (eC (.int 1)))))) sNx)
noncomputable def zdy:DFn:=fnD 4 2 (aD (aF 2 (aS oShl (eC (.int 1)) (aS oSub (aA 1) (eC (.int 1)))))
 (aD (sFor (aH (aE bSortDI (aB (aA 0) aC))) (gN 3) zie)
 (sRet (aA 2))))
noncomputable def zgk:SS:=(sIf (bNot (eTru (aE zdi (aB (aA 0) (aB (aA 3) aC))))) sStuck sNx)
noncomputable def zgx:DFn:=fnD 4 2 (aD (sFor (iEn0 (aA 1)) (gT 2 (gsCons (gN 2) (gsCons (gN 3) gsNil))) zgk)
 (sRet (aE zfk (aB (aA 1) aC))))
noncomputable def zdz:SS:=(sIf (eTru (aS oAndI (aS oShr (aA 2) (aA 4)) (eC (.int 1)))) (sDrop (eAppend (eSetDI (aA 3) (aB (aS oIx (aA 5) (eC (.int 0))) (aB (eLstM aC) aC))) (aB (aS oIx (aA 5) (eC (.int 1))) aC))) sNx)
noncomputable def zfj:DFn:=fnD 6 3 (aD (aF 3 eDNewI)
 (aD (sFor (iEn0 (aA 1)) (gT 2 (gsCons (gN 4) (gsCons (gN 5) gsNil))) zdz)
 (sRet (aE bTuple (aB (aG (aH (aE bSortDI (aB (aA 3) aC))) 1 [0,3] (gN 0) aI (aR (aB (aA 0) (aB (aE zgx (aB (aA 1) (aB (eFz (aS oIGet (aA 2) (aA 0))) aC))) aC)))) aC)))))
noncomputable def zec:DFn:=fnD 8 2 (aD (aF 2 (aE zco (aB (aA 0) (aB (aA 1) aC))))
 (aD (sIf (eB (aS (oIsN false) (aA 2) (eC .non))) (sRet (aR (aB (eC (.str "raised")) (aB (aA 0) (aB (aA 1) (aB (aR aC) aC)))))) sNx)
 (aD (aF 3 (aE (iterF zg 10) (aB (aA 0) (aB (aA 2) aC))))
 (aD (aF 4 (aE zcg (aB (aA 3) aC)))
 (aD (aF 5 (aE zci (aB (aA 0) (aB (aA 2) (aB (aA 4) aC)))))
 (aD (aF 6 (aE zdb (aB (aS oIx (aA 5) (eC (.int 0))) (aB (aE zch (aB (aA 4) (aB (aA 1) aC))) aC))))
 (aD (sIf (eB (aS oEq (aS oIx (aA 6) (eC (.int 0))) (eC (.int 0)))) (sRet (aR (aB (eC (.str "raised")) (aB (aA 0) (aB (aA 1) (aB (aE zfj (aB (aA 0) (aB (aS oIx (aA 5) (eC (.int 1))) (aB (aS oIx (aA 6) (eC (.int 1))) aC)))) aC)))))) sNx)
 (aD (aF 7 (aE zdy (aB (aS oIx (aA 5) (eC (.int 0))) (aB (eBits (aS oIx (aA 6) (eC (.int 0)))) aC))))
 (sRet (aR (aB (eC (.str "not")) (aB (aA 0) (aB (aA 1) (aB (aE bTuple (aB (aG (aH (aA 3)) 1 [7, 4] (gN 0) (eTru (aS oAndI (aS oShr (aA 1) (aS oDGet (aA 2) (aA 0))) (eC (.int 1)))) (aA 0)) aC)) aC))))))))))))))
noncomputable def zfl:SS:=(aD (aF 2 (aS aM (aA 2) (aS oMod (aA 3) (eC (.int 2)))))
 (aF 3 (aS oFdiv (aA 3) (eC (.int 2)))))
noncomputable def zcp:DFn:=fnD 4 2 (aD (aF 2 (eC (.int 0)))
 (aD (aF 3 (aS aM (aA 1) (aA 0)))
 (aD (sWhile (eB (aS oGt (aA 3) (eC (.int 0)))) zfl)
 (sRet (aS oGt (aA 2) (aA 0))))))
noncomputable def zfn:DFn:=fnD 2 2 (sRet (aS oGt (aE zbf (aB (aS aM (aE zo (aB (aA 1) aC)) (aA 0)) aC)) (aA 0)))
noncomputable def zvj:SS:=(aD (aF 7 (aE zfn (aB (aA 3) (aB (aA 6) aC))))
 (sIf (bOr (bNot (eTru (aE bIsinst (aB (aA 7) (aB (eC (.ty "bool")) aC))))) (eB (aS oNe (aA 7) (aE zcp (aB (aA 3) (aB (aA 6) aC)))))) (sRet (eC (.bl false))) sNx))
noncomputable def zvi:SS:=(sIf (eTru (aE zcp (aB (aA 5) (aB (aA 8) aC)))) (aD (aF 9 (aE zbr (aB (aA 2) (aB (aA 5) (aB (aA 8) (aB (eC (.int 6)) aC))))))
 (aD (sIf (bOr (eB (aS oNe (aS oIx (aE zec (aB (aA 5) (aB (aA 9) aC))) (eC (.int 0))) (eC (.str "raised")))) (bOr (eB (aS oNe (aE zba (aB (aA 5) (aB (aA 8) aC))) (eC (.int 0)))) (eB (aS oNe (aE zcf (aB (aA 5) (aB (aA 8) aC))) (eLst aC))))) (sRet (eC (.bl false))) sNx)
 sBrk)) sNx)
noncomputable def zvh:SS:=(aD (aF 2 (aE zfm (aB (aA 0) (aB (aA 1) aC))))
 (aD (aF 3 (aE zct (aB (aA 2) aC)))
 (aD (aF 4 (aE zdh (aB (aA 2) (aB (aA 3) aC))))
 (aD (aF 5 (aS aM (aS aM (aS oShl (eC (.int 1)) (aE zi (aB (aA 2) (aB (eC (.int 120)) aC)))) (aS oShl (eC (.int 1)) (aE zi (aB (aA 2) (aB (eC (.int 120)) aC))))) (aE zi (aB (aA 2) (aB (eC (.int 4)) aC)))))
 (aD (sFor (aH (eLst (aB (aA 4) (aB (aA 5) (aB (aE zi (aB (aA 2) (aB (aS oPow (eC (.int 10)) (eC (.int 39))) aC))) (aB (aE bMax2 (aB (eC (.int 0)) (aB (aS oSub (aA 5) (aA 3)) aC))) aC)))))) (gN 6) zvj)
 (aD (aF 5 (aE bMin2 (aB (aA 3) (aB (eC (.int 3)) aC))))
 (aD (sFor (iR2 (aB (aS aM (eC (.int 1)) (aE zi (aB (aA 2) (aB (eC (.int 13)) aC)))) (aB (eC (.int 14)) aC))) (gN 8) zvi)
 (sIf (eTru (aE zcp (aB (aA 3) (aB (aA 4) aC)))) (sIf (bOr (eB (aS oNe (aS oIx (aE zec (aB (aA 3) (aB (aE zbr (aB (aA 2) (aB (aA 3) (aB (aA 4) (aB (eC (.int 6)) aC))))) aC))) (eC (.int 0))) (eC (.str "raised")))) (eB (aS oNe (aE zba (aB (aA 3) (aB (aA 4) aC))) (eC (.int 0))))) (sRet (eC (.bl false))) sNx) sNx))))))))
noncomputable def zbpl:DFn:=fnD 10 1 (aD (sFor (iR1 (aB (aS aM (aE bMin2 (aB (eC (.int 2)) (aB (aE bLen (aB (aA 0) aC)) aC))) (eC (.int 1))) aC)) (gN 1) zvh)
 (sRet (eC (.bl true))))
noncomputable def RngOk (j:Int):Prop:=-(2 ^ 62)<=j/\j < 2 ^ 62
noncomputable instance (j:Int):Decidable (RngOk j):=by unfold RngOk;infer_instance
theorem rngOk {j:Int}(h1:-1000000000000<=j)(h2:j<=1000000000000):RngOk j:=⟨by lia,by lia⟩
section
variable {σ:DS}{st:Store}
@[simp] theorem eC_v {d:D}:eC d σ st=.ok d st:=rfl
@[simp] theorem zbnl {i:Nat}:aA i σ st=(match σ[i]? with
 | some (some d)=>.ok d st
 | _=>.stuck):=rfl
@[simp] theorem zbri {g:D->D->Store->Res D} {f f':SE}:aS g f f' σ st=(f σ st).bind fun x st1=>(f' σ st1).bind fun y st2=>g x y st2:=rfl
@[simp] theorem zbse {g:D->Store->Res D} {f:SE}:eUn g f σ st=(f σ st).bind fun x st1=>g x st1:=rfl
@[simp] theorem zzs {g:List D->Store->Res D} {f:SA}:aE g f σ st=(f σ st).bind fun xs st1=>g xs st1:=rfl
@[simp] theorem zbpj:aC σ st=.ok [] st:=rfl
@[simp] theorem zvg {f:SE} {g:SA}:aB f g σ st=(f σ st).bind fun x st1=>(g σ st1).bind fun xs st2=>.ok (x::xs) st2:=rfl
@[simp] theorem eB_v {f:SE}:eB f σ st=(f σ st).bind fun v st1=>(match v with
 | .bl b=>.ok b st1
 | _=>.stuck):=rfl
@[simp] theorem zbiq {f:SE}:eTru f σ st=(f σ st).bind fun v st1=>(match tru st1 v with
 | some b=>.ok b st1
 | none=>.stuck):=rfl
@[simp] theorem zbnp {f f':SE}:eAnd f f' σ st=(f σ st).bind fun v st1=>(match v with
 | .bl true=>f' σ st1
 | .bl false=>.ok (.bl false) st1
 | _=>.stuck):=rfl
@[simp] theorem zbrh {f f':SE}:eOr f f' σ st=(f σ st).bind fun v st1=>(match v with
 | .bl true=>.ok (.bl true) st1
 | .bl false=>f' σ st1
 | _=>.stuck):=rfl
@[simp] theorem zbir {f:SE}:eNot f σ st=(f σ st).bind fun v st1=>(match v with
 | .bl b=>.ok (.bl (!b)) st1
 | _=>.stuck):=rfl
@[simp] theorem zbpg {f f':ST}:bAnd f f' σ st=(f σ st).bind fun b st1=>if b=true then f' σ st1 else .ok false st1:=rfl
@[simp] theorem zbsa {f f':ST}:bOr f f' σ st=(f σ st).bind fun b st1=>if b=true then .ok true st1 else f' σ st1:=rfl
@[simp] theorem zbsb {f:ST}:bNot f σ st=(f σ st).bind fun b st1=>.ok (!b) st1:=rfl
@[simp] theorem zbrz:aI σ st=.ok true st:=rfl
@[simp] theorem zbrj {c:ST} {f f':SE}:eIf c f f' σ st=(c σ st).bind fun b st1=>if b=true then f σ st1 else f' σ st1:=rfl
@[simp] theorem zbnm {g:SA}:aR g σ st=(g σ st).bind fun xs st1=>if xs.length<=sizeLine then .ok (.tup xs) st1 else .stuck:=rfl
@[simp] theorem zbnn {g:SA}:eLst g σ st=(g σ st).bind fun xs st1=>if xs.length<=sizeLine then .ok (.lst xs) st1 else .stuck:=rfl
@[simp] theorem zbis {g:SA}:eLstM g σ st=(g σ st).bind fun xs st1=>if xs.length<=sizeLine then .ok (.ref st1.length) (st1++[.lst xs]) else .stuck:=rfl
@[simp] theorem zbno {g g':D->D->Store->Res D} {f f' f'':SE}:eChain g g' f f' f'' σ st=(f σ st).bind fun x st1=>(f' σ st1).bind fun y st2=>(g x y st2).bind fun z st3=>(match z with
 | .bl true=>(f'' σ st3).bind fun w st4=>g' y w st4
 | .bl false=>.ok (.bl false) st3
 | _=>.stuck):=rfl
@[simp] theorem zbqd:eDNew σ st=.ok (.ref st.length) (st++[.dT []]):=rfl
@[simp] theorem zbsd:sNx σ st=.ok (.nx σ) st:=rfl
@[simp] theorem zbqp:sBrk σ st=.ok (.brk σ) st:=rfl
@[simp] theorem zble {f:SE}:sRet f σ st=(f σ st).bind fun v st1=>.ok (.ret v) st1:=rfl
@[simp] theorem zbpp:sRetN σ st=.ok (.ret .non) st:=rfl
@[simp] theorem zbpq {f:SE}:sDrop f σ st=(f σ st).bind fun _ st1=>.ok (.nx σ) st1:=rfl
@[simp] theorem zbqm {i:Nat} {f:SE}:aF i f σ st=(f σ st).bind fun v st1=>.ok (.nx (σ.set i (some v))) st1:=rfl
@[simp] theorem zbld {s t:SS}:aD s t σ st=(match s σ st with
 | .ok (.nx σ1) st1=>t σ1 st1
 | r=>r):=rfl
@[simp] theorem zbqn {c:ST} {s t:SS}:sIf c s t σ st=(c σ st).bind fun b st1=>if b=true then s σ st1 else t σ st1:=rfl
@[simp] theorem zblg {i:Nat} {g:D->D->Store->Res D} {f:SE}:sAug i g f σ st=(match σ[i]? with
 | some (some x)=>(f σ st).bind fun y st1=>(g x y st1).bind fun z st2=>.ok (.nx (σ.set i (some z))) st2
 | _=>.stuck):=rfl
@[simp] theorem zbqo {it:SA} {bd:SG} {body:SS}:sFor it bd body σ st=(it σ st).bind fun xs st1=>forF bd body xs σ st1:=rfl
@[simp] theorem zbng {f:SE}:aH f σ st=(f σ st).bind fun x st1=>(match seqV x with
 | some xs=>.ok xs st1
 | none=>.stuck):=rfl
@[simp] theorem zbre {g:SA}:iR1 g σ st=(g σ st).bind fun xs st1=>(match xs with
 | [.int j]=>if RngOk j then .ok (rng 0 j.toNat) st1 else .stuck
 | _=>.stuck):=rfl
@[simp] theorem zbrd {g:SA}:iR2 g σ st=(g σ st).bind fun xs st1=>(match xs with
  | [.int i, .int j]=>if RngOk i/\RngOk j then .ok (rng i (j - i).toNat) st1 else .stuck
  | _=>.stuck):=by
  show(g σ st).bind _=_
  congr 1
  funext xs st1
  split
  · unfold RngOk
    simp only[and_assoc]
  · rename_i h
    first
      | rfl
      | (split
         · rename_i i j
           exact absurd rfl (h i j)
         · rfl)
@[simp] theorem zbpz {f:SE}:iDict f σ st=(f σ st).bind fun x st1=>(match x with
 | .ref n=>(match st1[n]? with
  | some (.dT kvs)=>.ok (aJ (kvs.map (·.1))) (st1.set n (.fT kvs))
  | _=>.stuck)
 | _=>.stuck):=rfl
@[simp] theorem zzr {it:SA} {k:Nat} {is:List Nat} {bd:SG} {c:ST} {f:SE}:aG it k is bd c f σ st=(it σ st).bind fun xs st1=>if xs.length<=sizeLine then(compF bd c f xs (aT k is σ) st1).bind fun ys st2=>.ok (.lst ys) st2 else .stuck:=rfl
@[simp] theorem zbrk {f:SE}:eFz f σ st=(f σ st).bind fun x st1=>(match x with
 | .ref n=>(match st1[n]? with
  | some (.lst xs)=>.ok (.lst xs) (st1.set n .dead)
  | _=>.stuck)
 | _=>.stuck):=rfl
@[simp] theorem zbpw:pNone σ st=.ok none st:=rfl
@[simp] theorem zbgu {f:SE}:pSome f σ st=(f σ st).bind fun v st1=>(match v with
 | .int i=>.ok (some i) st1
 | _=>.stuck):=rfl
@[simp] theorem zbrg {f:SE} {lo hi:DS->Store->Res (Option Int)}:eSl f lo hi σ st=(f σ st).bind fun x st1=>(lo σ st1).bind fun l st2=>(hi σ st2).bind fun h st3=>(match x with
 | .tup xs=>.ok (.tup (cutD xs l h)) st3
 | x=>match asL st3 x with
  | some xs=>.ok (.lst (cutD xs l h)) st3
  | none=>.stuck):=rfl
@[simp] theorem zxt {f:SE} {g:SA}:eAppend f g σ st=(f σ st).bind fun x st1=>(match x,asL st1 x with
 | .ref n,some _=>(g σ st1).bind fun ys st2=>(match ys,st2[n]? with
  | [y],some (.lst xs)=>if xs.length < sizeLine then .ok .non (st2.set n (.lst (xs++[y]))) else .stuck
  | _,_=>.stuck)
 | _,_=>.stuck):=rfl
@[simp] theorem zxs {f:SE} {g:SA}:eExtend f g σ st=(f σ st).bind fun x st1=>(match x,asL st1 x with
 | .ref n,some _=>(g σ st1).bind fun ys st2=>(match ys,st2[n]? with
  | [y],some (.lst xs)=>(match asL st2 y with
   | some zs=>if xs.length+zs.length<=sizeLine then .ok .non (st2.set n (.lst (xs++zs))) else .stuck
   | none=>.stuck)
  | _,_=>.stuck)
 | _,_=>.stuck):=rfl
@[simp] theorem zbaw {f g h:SE}:sSetIx f g h σ st=(h σ st).bind fun v st1=>(f σ st1).bind fun x st2=>(g σ st2).bind fun y st3=>(match x,y with
 | .ref n,.int k=>(match st3[n]? with
  | some (.lst xs)=>(match ixN xs.length k with
   | some j=>.ok (.nx σ) (st3.set n (.lst (xs.set j v)))
   | none=>.stuck)
  | _=>.stuck)
 | _,_=>.stuck):=rfl
@[simp] theorem zbda {f g h:SE}:eDGet2 f g h σ st=(f σ st).bind fun x st1=>(match pairsOf st1 x with
 | some _=>(g σ st1).bind fun y st2=>(h σ st2).bind fun z st3=>(match pairsOf st3 x,keyOf y with
  | some kvs,some k=>.ok ((valD kvs k).getD z) st3
  | _,_=>.stuck)
 | none=>.stuck):=rfl
@[simp] theorem zbqc {f g:SE}:eDPop f g σ st=(f σ st).bind fun x st1=>(match pairsOf st1 x with
 | some _=>(g σ st1).bind fun y st2=>(match x,keyOf y with
  | .ref n,some k=>(match st2[n]? with
   | some (.dT kvs)=>(match valD kvs k with
    | some v=>.ok v (st2.set n (.dT (dropD kvs k)))
    | none=>.stuck)
   | _=>.stuck)
  | _,_=>.stuck)
 | none=>.stuck):=rfl
@[simp] theorem zbfr {f g h:SE}:sDPut f g h σ st=(h σ st).bind fun v st1=>(f σ st1).bind fun x st2=>(g σ st2).bind fun y st3=>(match x,keyOf y with
 | .ref n,some k=>(match st3[n]? with
  | some (.dT kvs)=>if kvs.length < sizeLine then .ok (.nx σ) (st3.set n (.dT (putD kvs k v))) else .stuck
  | _=>.stuck)
 | _,_=>.stuck):=rfl
theorem zbqb {n np:Nat}{b:SS}{ds:List D}:fnD n np b ds st=if ds.length=np then(match b (ds.map some++List.replicate (n - np) none) st with
 | .ok (.ret v) st'=>.ok v st'
 | .ok (.nx _) st'=>.ok .non st'
 | .exc x st'=>.exc x st'
 | _=>.stuck) else .stuck:=rfl
end
section
variable {st:Store}{i j:Int}
@[simp] theorem oI_v {C:Int->Int->Prop} [DecidableRel C] {h:Int->Int->D}:oI C h (.int i) (.int j) st=if C i j then .ok (h i j) st else .stuck:=rfl
@[simp] theorem zbrc:aM (.int i) (.int j) st=.ok (.int (i+j)) st:=rfl
@[simp] theorem zbmn {a b:List D}:aM (.tup a) (.tup b) st=if a.length+b.length<=sizeLine then .ok (.tup (a++b)) st else .stuck:=rfl
@[simp] theorem zbqz:oLtT (.int i) (.int j) st=.ok (.bl (decide (i < j))) st:=rfl
@[simp] theorem zbqx:oNeg (.int i) st=.ok (.int (-i)) st:=rfl
@[simp] theorem zcm (ns:List Int):asInts (ns.map .int)=some ns:=by
 induction ns with
 | nil=>rfl
 | cons n ns ih=>rw[xbt,asInts,ih];rfl
@[simp] theorem zbkf (l:List (List Int)):asRows (aJ l)=some l:=by
 induction l with
 | nil=>rfl
 | cons n ns ih =>
  unfold aJ at ih ⊢;rw[xbt,asRows,zcm,ih];rfl
@[simp] theorem zef (ns:List Int):keyOf (aL ns)=some ns:=zcm ns
theorem zkh:dataOf st (.int i)=some (.int i):=rfl
@[simp] theorem zbrb:oEq (.int i) (.int j) st=.ok (.bl (decide (i=j))) st:=by
 show oEqG false (.int i) (.int j) st=_;unfold oEqG;rw[zkh,zkh];dsimp only;rw[if_pos ⟨rfl,rfl⟩];show Res.ok (D.bl (i==j)) st=_;rw[show(i==j)=decide (i=j) from by rw[xhe];simp]
@[simp] theorem zbqy:oNe (.int i) (.int j) st=.ok (.bl (!decide (i=j))) st:=by
 show oEqG true (.int i) (.int j) st=_;unfold oEqG;rw[zkh,zkh];dsimp only;rw[if_pos ⟨rfl,rfl⟩];show Res.ok (D.bl (!(i==j))) st=_;rw[show(i==j)=decide (i=j) from by rw[xhe];simp]
noncomputable abbrev aK (l:List (List Int)):D:=.tup (aJ l)
theorem small (n:Nat)(h:n<=1000000):n<=sizeLine:=by rw[xin];lia
theorem smallT (n:Nat)(h:n<=1000000):n < sizeLine:=by rw[xin];lia
end
theorem zzn {bd:SG}{body:SS}(I:Nat->DS->Store->Prop):∀(xs:List D) (k:Nat) (σ:DS) (st:Store),I k σ st ->
  (∀i x σ st,xs[i]?=some x->I (k+i) σ st->∃σ1 σ2 st2,bd x σ=some σ1/\body σ1 st=.ok (.nx σ2) st2/\I (k+i+1) σ2 st2)->∃σ' st',forF bd body xs σ st=.ok (.nx σ') st'/\I (k+xs.length) σ' st'
 | [],k,σ,st,h,_=>⟨σ,st,rfl,h⟩
 | x::xs,k,σ,st,h,s=>by
  obtain⟨σ1,σ2,st2,e1,e2,h2⟩:=s 0 x σ st rfl h;obtain⟨σ',st',e3,h3⟩:=zzn I xs (k+1) σ2 st2 h2 fun i y σ st hy hi=>by
   have:=s (i+1) y σ st (by simpa using hy) (by rw[show k+(i+1)=k+1+i by lia];exact hi);rw[show k+(i+1)+1=k+1+i+1 by lia] at this;exact this
  refine⟨σ',st',?_,by rw[xby,show k+(xs.length+1)=k+1+xs.length by lia];exact h3⟩;unfold forF;rw[e1];dsimp only;rw[e2];exact e3
theorem zbin {bd:SG}{body:SS}(I:Nat->DS->Store->Prop){xs:List D}{σ:DS}{st:Store}(h0:I 0 σ st)
  (s:∀i x σ st,xs[i]?=some x->I i σ st->∃σ1 σ2 st2,bd x σ=some σ1/\body σ1 st=.ok (.nx σ2) st2/\I (i+1) σ2 st2):∃σ' st',forF bd body xs σ st=.ok (.nx σ') st'/\I xs.length σ' st':=by
 have:=zzn I xs 0 σ st h0 fun i x σ st hx hi=>by
  rw[xdw] at hi ⊢;exact s i x σ st hx hi
 rw[xdw] at this;exact this
theorem zbli {lo:Int}{n i:Nat}{x:D}(h:(rng lo n)[i]?=some x):i < n/\x=.int (lo+i):=zir h
theorem zev (lo:Int)(n:Nat):(rng lo n).length=n:=by simp[rng]
theorem znl {bd:SG}{c:ST}{f:SE}(I:Nat->List D->DS->Store->Prop):∀(xs:List D) (k:Nat) (acc:List D) (σ:DS) (st:Store),I k acc σ st ->
  (∀i x acc σ st,xs[i]?=some x->I (k+i) acc σ st->∃σ1 b st1,bd x σ=some σ1/\c σ1 st=.ok b st1/\((b=false/\I (k+i+1) acc σ1 st1)\/(b=true/\∃y st2,f σ1 st1=.ok y st2/\I (k+i+1) (acc++[y]) σ1 st2))) ->
  ∃ys σ' st',compF bd c f xs σ st=.ok ys st'/\I (k+xs.length) (acc++ys) σ' st'
 | [],k,acc,σ,st,h,_=>⟨[],σ,st,rfl,by rw[xdd];exact h⟩
 | x::xs,k,acc,σ,st,h,s=>by
  have s':∀i y acc σ st,xs[i]?=some y->I (k+1+i) acc σ st->∃σ1 b st1,bd y σ=some σ1/\c σ1 st=.ok b st1/\((b=false/\I (k+1+i+1) acc σ1 st1)\/(b=true/\∃z st2,f σ1 st1=.ok z st2/\I (k+1+i+1) (acc++[z]) σ1 st2)):=fun i y acc σ st hy hi=>by
   have:=s (i+1) y acc σ st (by simpa using hy) (by rw[show k+(i+1)=k+1+i by lia];exact hi);rw[show k+(i+1)+1=k+1+i+1 by lia] at this;exact this
  obtain⟨σ1,b,st1,e1,e2,h2⟩:=s 0 x acc σ st rfl h;rcases h2 with⟨rfl,h2⟩ | ⟨rfl,y,st2,e3,h2⟩
  ·obtain⟨ys,σ',st',e4,h3⟩:=znl I xs (k+1) acc σ1 st1 h2 s';refine⟨ys,σ',st',?_,by rw[xby,show k+(xs.length+1)=k+1+xs.length by lia];exact h3⟩;unfold compF;rw[e1];dsimp only;rw[e2];exact e4
  ·obtain⟨ys,σ',st',e4,h3⟩:=znl I xs (k+1) (acc++[y]) σ1 st2 h2 s';refine⟨y::ys,σ',st',?_,by rw[xby,show k+(xs.length+1)=k+1+xs.length by lia];rw[xcg] at h3;exact h3⟩;unfold compF;rw[e1];dsimp only;rw[e2];dsimp only[zcy];rw[if_pos rfl,e3];dsimp only[zcy];rw[e4]
   rfl
theorem zbjt {bd:SG}{c:ST}{f:SE}(I:Nat->List D->DS->Store->Prop){xs:List D}{σ:DS}{st:Store}(h0:I 0 [] σ st)
  (s:∀i x acc σ st,xs[i]?=some x->I i acc σ st->∃σ1 b st1,bd x σ=some σ1/\c σ1 st=.ok b st1/\((b=false/\I (i+1) acc σ1 st1)\/(b=true/\∃y st2,f σ1 st1=.ok y st2/\I (i+1) (acc++[y]) σ1 st2))) :
  ∃ys σ' st',compF bd c f xs σ st=.ok ys st'/\I xs.length ys σ' st':=by
 have:=znl I xs 0 [] σ st h0 fun i x acc σ st hx hi=>by
  rw[xdw] at hi ⊢;exact s i x acc σ st hx hi
 rw[xdw] at this
 simpa using this
theorem zvn {c:ST}{body:SS}(I:Nat->DS->Store->Prop)(post:DS->Store->Prop){σ:DS}{st:Store}{k:Nat}(h0:I k σ st)(hm:k < wCap)
  (s:∀j σ st,I j σ st->∃b st1,c σ st=.ok b st1/\((b=false/\post σ st1)\/(b=true/\∃i σ2 st2,body σ st1=.ok (.nx σ2) st2/\I i σ2 st2/\i < j))):∃σ' st',sWhile c body σ st=.ok (.nx σ') st'/\post σ' st':=by
 have main:∀n j σ st,I j σ st->j < n->∃σ' st',whileF c body n σ st=.ok (.nx σ') st'/\post σ' st':=by
  intro n
  induction n with
  | zero=>intro j σ st _ h;lia
  | succ n ih =>
   intro j σ st hI hlt;obtain⟨b,st1,e1,h⟩:=s j σ st hI;unfold whileF;rw[e1];dsimp only[zcy];rcases h with⟨rfl,h⟩ | ⟨rfl,i,σ2,st2,e2,h2,h3⟩
   ·exact⟨σ,st1,by rw[if_neg (by decide)],h⟩
   ·obtain⟨σ',st',e3,h4⟩:=ih i σ2 st2 h2 (by lia);refine⟨σ',st',?_,h4⟩;rw[if_pos rfl,e2];exact e3
 exact main wCap k σ st h0 hm
section
variable {st:Store}{n:Nat}{xs:List D}{i:Int}
@[simp] theorem zbkh:seqOf st (.tup xs)=some xs:=rfl
@[simp] theorem zbki:seqOf st (.scr xs)=some xs:=rfl
@[simp] theorem zbkj:seqOf st (.lst xs)=some xs:=rfl
@[simp] theorem zbla:seqV (.tup xs)=some xs:=rfl
@[simp] theorem zblc:seqV (.lst xs)=some xs:=rfl
@[simp] theorem zblb:seqV (.scr xs)=some xs:=rfl
@[simp] theorem zbqi:asL st (.lst xs)=some xs:=rfl
theorem zjd (h:st[n]?=some (.lst xs)):asL st (.ref n)=some xs:=by
 unfold asL;dsimp only;rw[h]
theorem zok (h:st[n]?=some (.lst xs)):seqOf st (.ref n)=some xs:=zjd h
theorem zte {x:D}{d:D}(h:seqOf st x=some xs)(h2:L2.atI xs i=some d):oIx x (.int i) st=.ok d st:=by
 unfold oIx;rw[h];dsimp only;rw[h2]
@[simp] theorem zbpb:bLen [.tup xs] st=.ok (.int xs.length) st:=rfl
@[simp] theorem zbpd:bLen [.lst xs] st=.ok (.int xs.length) st:=rfl
@[simp] theorem zbpc:bLen [.scr xs] st=.ok (.int xs.length) st:=rfl
@[simp] theorem zbsc:bAbs [.int i] st=.ok (.int (if i < 0 then -i else i)) st:=rfl
@[simp] theorem zbsf {g:Int->Int->Int} {j:Int}:b2I g [.int i,.int j] st=.ok (.int (g i j)) st:=rfl
@[simp] theorem zbpa {ns:List Int}:bSum [aL ns] st=.ok (.int ns.sum) st:=by
 unfold bSum;simp
@[simp] theorem zbkd:bTuple [.tup xs] st=.ok (.tup xs) st:=rfl
@[simp] theorem zuy:bTuple [.lst xs] st=.ok (.tup xs) st:=rfl
theorem znt {l:List (List Int)}(h:l.length<=1000000):bSorted [.lst (aJ l)] st=.ok (.lst (aJ (sortR l))) st:=by
 unfold bSorted;simp[h]
theorem znu {kvs:List (List Int×D)}(h:st[n]?=some (.dT kvs))(hl:kvs.length<=1000000):bSorted [.ref n] st=.ok (.lst (aJ (sortR (kvs.map (·.1))))) st:=by
 unfold bSorted asL pairsOf;simp[h,hl]
theorem zuz {j:Nat}{d:D}(h:xs[j]?=some d):L2.atI xs (j:Int)=some d:=zbag h
theorem zkx {o:O}(h:n < st.length):(st.set n o)[n]?=some o:=xdv h
theorem zca {o:O}(h:st[n]?=some o):n < st.length:=(xbh.mp h).1
theorem zbkz {o:O}(h:st[n]?=some o):st.set n o=st:=by
 apply xkg;intro i;by_cases e:i=n
 ·subst e;rw[xdv (zca h),h]
 ·rw[xcq (xem e)]
end
theorem ztz {n np:Nat}{b:SS}{ds:List D}{st st':Store}{v:D}(h:ds.length=np)(e:b (ds.map some++List.replicate (n - np) none) st=.ok (.ret v) st'):fnD n np b ds st=.ok v st':=by
 rw[zbqb,if_pos h,e]
theorem zbqa {n np:Nat}{b:SS}{ds:List D}{st st':Store}{σ:DS}(h:ds.length=np)(e:b (ds.map some++List.replicate (n - np) none) st=.ok (.nx σ) st'):fnD n np b ds st=.ok .non st':=by
 rw[zbqb,if_pos h,e]
noncomputable abbrev bagO (c x:Int):O:=.lst [.int c,.int x]
noncomputable def BagAt (st:Store) (n:Nat):Prop:=∃c x:Int,st[n]?=some (bagO c x)/\0<=c/\0<=x
structure Drew (st st':Store) (n:Nat):Prop where
 len:st.length<=st'.length
 keep:∀ i, i < st.length->i≠n->st'[i]?=st[i]?
 bag:BagAt st' n
theorem Drew.trans {st st1 st2:Store}{n:Nat}(a:Drew st st1 n)(b:Drew st1 st2 n):Drew st st2 n :=
 ⟨xbc a.len b.len,fun i h1 h2=>(b.keep i (xbg h1 a.len) h2).trans (a.keep i h1 h2),b.bag⟩
theorem Drew.set {st:Store}{n:Nat}{c x:Int}(h:BagAt st n)(hc:0<=c)(hx:0<=x):Drew st (st.set n (bagO c x)) n:=by
 obtain⟨_,_,e,_⟩:=h;exact⟨by rw[xfa];exact xbf _,fun i _ h2=>xcq (xem h2),c,x,zkx (zca e),hc,hx⟩
theorem Drew.more {st:Store}{n:Nat}(h:BagAt st n)(g:Store):Drew st (st++g) n:=by
 obtain⟨c,x,e,h1,h2⟩:=h;exact⟨by rw[xbj];lia,fun i h _=>xbu h,c,x,by rw[xbu (zca e)];exact e,h1,h2⟩
theorem zyl {st:Store}{n:Nat}{m:Int}(hb:BagAt st n)(h1:1<=m)(h2:m < 2 ^ 1000) :
  ∃r st',zi [.ref n,.int m] st=.ok (.int r) st'/\0<=r/\r < m/\Drew st st' n/\st'.length=st.length:=by
 obtain⟨c,x,hn,hc,hx⟩:=id hb;have s0:∀{c x:Int} {st:Store},st[n]?=some (bagO c x)->oIx (.ref n) (.int 0) st=.ok (.int c) st:=fun h=>zte (zok h) rfl
 have s1:∀{c x:Int} {st:Store},st[n]?=some (bagO c x)->oIx (.ref n) (.int 1) st=.ok (.int x) st:=fun h=>zte (zok h) rfl
 by_cases h0:0 < c
 ·have d1:CDivP c m:=⟨by lia,h2⟩
  have e0:ixN 2 0=some 0:=rfl;refine⟨c % m,st.set n (bagO (c / m) x),ztz rfl ?_,xjl _ (by lia),Int.emod_lt_of_pos _ (by lia),Drew.set hb (Int.ediv_nonneg hc (by lia)) hx,xfa⟩;simp[s0 hn,h0,hn,e0,show(0:Int) < m by lia,d1]
 ·have hlen:=zca hn
  have W:=zvn (c:=eB (aS oLtT (aA 4) (aA 1))) (body:=aD (sSetIx (aA 0) (eC (.int 1)) (aS oMod (aS aM (aS oMulI (aS oIx (aA 0) (eC (.int 1))) (eC (.int 48271))) (eC (.int 7919))) (eC (.int 2147483647))))
   (aD (aF 3 (aS aM (aS oMulI (aA 3) (eC (.int 1073741789))) (aS oMod (aS oMulI (aS oFdiv (aS oIx (aA 0) (eC (.int 1))) (eC (.int 8))) (eC (.int 69621))) (eC (.int 1073741789)))))
   (aF 4 (aS oMulI (aA 4) (eC (.int 1073741789)))))) (k:=1000) (σ:=[some (.ref n),some (.int m),none,some (.int 0),some (.int 1)]) (st:=st)
   (fun j σ s=>∃c' x' nn rr:Int,σ=[some (.ref n),some (.int m),none,some (.int nn),some (.int rr)]/\s=st.set n (bagO c' x')/\0<=c'/\0<=x'/\0<=nn/\j<=1000/\2 ^ (1000 - j)<=rr)
   (fun σ s=>∃c' x' nn:Int,(∃rr,σ=[some (.ref n),some (.int m),none,some (.int nn),some (.int rr)])/\s=st.set n (bagO c' x')/\0<=c'/\0<=x'/\0<=nn)
   ⟨c,x,0,1,rfl,(zbkz hn).symm,hc,hx,by lia,by lia,by decide⟩ (by decide) (by
    rintro j σ s ⟨c',x',nn,rr,rfl,rfl,a1,a2,a3,a4,a5⟩;have g1:(st.set n (bagO c' x'))[n]?=some (bagO c' x'):=zkx hlen;by_cases hlt:rr < m
    ·have hj:1<=j:=by
      rcases xih j with z | z
      ·subst z;have a5':(2:Int) ^ 1000<=rr:=a5;lia
      ·exact z
     have e1:ixN 2 1=some 1:=rfl;have m1:CMul x' 48271:=.inr ⟨by decide,by decide⟩;have m2:CMul nn 1073741789:=.inr ⟨by decide,by decide⟩;have m3:CMul rr 1073741789:=.inr ⟨by decide,by decide⟩;have g2:∀y:Int,(st.set n (bagO c' y))[n]?=some (bagO c' y):=fun y=>zkx hlen
     have m4:∀y:Int,CMul y 69621:=fun y=>.inr ⟨by decide,by decide⟩
     have d8:∀y:Int,CDivP y 8:=fun y=>⟨by decide,by decide +kernel⟩
     refine⟨true,st.set n (bagO c' x'),by simp[hlt],.inr ⟨rfl,j - 1,_,st.set n (bagO c' ((x' * 48271+7919) % 2147483647)),?_,⟨c',(x' * 48271+7919) % 2147483647,nn * 1073741789+(x' * 48271+7919) % 2147483647 / 8 * 69621 % 1073741789,rr * 1073741789,rfl,rfl,a1,?_,?_,by lia,?_⟩,by lia⟩⟩
     ·simp[s1 g1,g1,e1,m1,m2,m3,m4,d8,s1 (g2 _)]
     ·exact xjl _ (by lia)
     ·have a1:0<=nn * 1073741789:=Int.mul_nonneg a3 (by lia);have a2:=xjl ((x' * 48271+7919) % 2147483647 / 8 * 69621) (show(1073741789:Int)≠0 by lia);lia
     ·have e:(2:Int) ^ (1000 - (j - 1))=2 ^ (1000 - j) * 2:=by
       rw[← Int.pow_succ];congr 1;lia
      rw[e];have hp:(0:Int)<=2 ^ (1000 - j):=Int.pow_nonneg (by decide);lia
    ·exact⟨false,_,by simp[hlt],.inl ⟨rfl,c',x',nn,⟨rr,rfl⟩,rfl,a1,a2,a3⟩⟩)
  obtain⟨σ',st',e,c',x',nn,hσ,hst,k1,k2,k3⟩:=W;obtain⟨rr,rfl⟩:=hσ;subst hst;refine⟨nn % m,st.set n (bagO c' x'),ztz rfl ?_,xjl _ (by lia),Int.emod_lt_of_pos _ (by lia),Drew.set hb k1 k2,xfa⟩;simp[s0 hn,h0,e,show(0:Int) < m by lia]
theorem zlx {ns:List Int}{j:Nat}(h:j < ns.length):L2.atI (ns.map D.int) (j:Int)=some (.int ns[j]):=zbag (by rw[xcn,xbd h];rfl)
theorem zboz {st:Store}{ns:List Int}{i:Nat}(hl:ns.length<=63)(hi:i<=100000):∃c x:Int,0<=c/\0<=x/\zfm [.scr (ns.map .int),.int i] st=.ok (.ref st.length) (st++[bagO c x]):=by
 have cell:∃c:Int,0<=c/\sIf (eB (aS oLtT (aA 1) (aE bLen (aB (aA 0) aC)))) (aF 2 (aE bAbs (aB (aS oIx (aA 0) (aA 1)) aC))) sNx [some (.scr (ns.map .int)),some (.int i),some (.int 0),none,none] st
   = .ok (.nx [some (.scr (ns.map .int)),some (.int i),some (.int c),none,none]) st:=by
  by_cases h:i < ns.length
  ·have e:oIx (.scr (ns.map .int)) (.int i) st=.ok (.int ns[i]) st:=zte rfl (zlx h);refine⟨if ns[i] < 0 then -ns[i] else ns[i],by split<;>lia,?_⟩;simp[h,e]
  ·exact⟨0,by lia,by simp[h]⟩
 obtain⟨c,hc,ec⟩:=cell;have hmin:(if(60:Int) < (ns.length:Int) then(60:Int) else ns.length).toNat<=ns.length:=by split<;>lia
 have W:=zbin (bd:=gN 4) (body:=aF 3 (aS oMod (aS aM (aS aM (aS oMulI (aA 3) (eC (.int 48271))) (aS oMod (aS oIx (aA 0) (aA 4)) (eC (.int 2147483647)))) (aA 4)) (eC (.int 2147483629))))
  (xs:=rng 0 (if(60:Int) < (ns.length:Int) then(60:Int) else ns.length).toNat) (σ:=[some (.scr (ns.map .int)),some (.int i),some (.int c),some (.int (7919 * i+17)),none]) (st:=st)
  (fun j σ s=>s=st/\∃(mix:Int) (v:Option D),σ=[some (.scr (ns.map .int)),some (.int i),some (.int c),some (.int mix),v]/\0<=mix) ⟨rfl,_,none,rfl,by lia⟩ (by
   rintro j x σ s hx ⟨rfl,mix,v,rfl,hm⟩;obtain⟨hj,rfl⟩:=zbli hx;have hj2:j < ns.length:=by lia
   have e:oIx (.scr (ns.map .int)) (.int (0+j)) s=.ok (.int ns[j]) s:=zte rfl (by rw[xix];exact zlx hj2);rw[xix] at e;have m1:CMul mix 48271:=.inr ⟨by decide,by decide⟩;refine⟨_,[some (.scr (ns.map .int)),some (.int i),some (.int c),some (.int ((mix * 48271+ns[j] % 2147483647+j) % 2147483629)),some (.int (0+j))],s,rfl,?_,rfl,_,_,rfl,xjl _ (by lia)⟩
   simp[e,m1])
 obtain⟨σ',st',e,rfl,mix,v,rfl,hm⟩:=W;have m0:CMul 7919 (i:Int):=.inl ⟨by decide,by decide⟩;have p0:CPow 10 18:=⟨by decide,by decide,by decide⟩
 have hr:RngOk (if(60:Int) < (ns.length:Int) then(60:Int) else ns.length):=by
  split<;>exact rngOk (by lia) (by lia)
 by_cases hlt:c < 1000000000000000000
 ·refine⟨0,mix,by lia,hm,ztz rfl ?_⟩;have hs:=small 2 (by lia);simp at ec;simp[ec,m0,hr,e,p0,hlt,hs]
 ·refine⟨c,mix,hc,hm,ztz rfl ?_⟩;have hs:=small 2 (by lia);simp at ec;simp[ec,m0,hr,e,p0,hlt,hs]
theorem seqN {s t:SS}{σ σ1:DS}{st st1:Store}{r:Res Fl}(h:s σ st=.ok (.nx σ1) st1)(k:t σ1 st1=r):aD s t σ st=r:=by
 rw[zbld,h];exact k
noncomputable def aP (ks:List (List Int)) (k:List Int):List (List Int):=if k∈ks then ks.filter (fun x=>decide (x≠k)) else ks++[k]
noncomputable def aN (l:List (List Int)):List (List Int):=l.foldl aP []
theorem zgu {ks:List (List Int)}{k x:List Int}:x∈aP ks k↔(x∈ks/\x≠k)\/(x=k/\k∉ks):=by
 unfold aP;split
 ·rename_i h;simp[xeo,h]
 ·rename_i h;simp only[xbw,xbq];constructor
  ·rintro(z | rfl)
   ·exact .inl ⟨z,fun e=>h (e ▸ z)⟩
   ·exact .inr ⟨rfl,h⟩
  ·rintro(⟨z,_⟩ | ⟨z,_⟩)
   ·exact .inl z
   ·exact .inr z
theorem zqx {ks:List (List Int)}{k:List Int}(h:ks.Nodup):(aP ks k).Nodup:=by
 unfold aP;split
 ·exact h.filter _
 ·rename_i hk;rw[xip];exact⟨h,by simp,fun a ha b hb=>by simp at hb;subst hb;exact fun e=>hk (e ▸ ha)⟩
theorem znf (ks:List (List Int))(k:List Int):(aP ks k).length<=ks.length+1:=by
 unfold aP;split
 ·exact xfz (xfo _ _)
 ·simp
theorem zlg:∀(l ks:List (List Int)),ks.Nodup->(l.foldl aP ks).Nodup/\(l.foldl aP ks).length<=ks.length+l.length/\∀x,x∈l.foldl aP ks↔(l.count x+if x∈ks then 1 else 0) % 2=1
 | [],ks,h=>⟨h,by simp,fun x=>by by_cases e:x∈ks<;>simp[e]⟩
 | a::l,ks,h=>by
  obtain⟨h1,h2,h3⟩:=zlg l (aP ks a) (zqx h);refine⟨h1,?_,fun x=>?_⟩
  ·have:=znf ks a;rw[xhg,xby];lia
  ·rw[xhg,h3 x,xlb];by_cases e:x=a
   ·subst e;by_cases k:x∈ks
    ·have q:x∉aP ks x:=by rw[zgu];simp[k]
     simp only[q,k,xeu,xdx,xgv]<;>lia
    ·have q:x∈aP ks x:=by rw[zgu];simp[k]
     simp only[q,k,xeu,xdx,xgv]<;>lia
   ·have e':(a==x)=false:=by simpa using fun z:a=x=>e z.symm
    by_cases k:x∈ks
    ·have q:x∈aP ks a:=by rw[zgu];simp[k,e]
     simp[q,k,e']
    ·have q:x∉aP ks a:=by rw[zgu];simp[k,e]
     simp[q,k,e']
theorem zey (l:List (List Int)):(aN l).Nodup:=(zlg l [] xgu).1
theorem zcd (l:List (List Int)):(aN l).length<=l.length:=by have:=(zlg l [] xgu).2.1;simpa [aN] using this
theorem zjx {l:List (List Int)}{x:List Int}:x∈aN l↔l.count x % 2=1:=by have:=(zlg l [] xgu).2.2 x;simpa [aN] using this
theorem zit {a b:List (List Int)}(h1:a.Nodup)(h2:b.Nodup)(h:∀x,x∈a↔x∈b):a.Perm b:=(xma h1 h2).mpr h
theorem zqb {a b:List (List Int)}(h:a.Perm b):sortR a=sortR b:=zmi ((zcj a).trans h) (zmh a)
noncomputable def aO (l:List (List Int)):List (List Int):=sortR (aN l)
theorem zbhg {l m:List (List Int)}(h1:m.Nodup)(h:∀x,x∈m↔l.count x % 2=1):sortR m=aO l:=zqb (zit h1 (zey l) fun x=>by rw[h,zjx])
theorem zbbz {l:List (List Int)}{x:List Int}:x∈aO l↔l.count x % 2=1:=by unfold aO;rw[(zcj _).mem_iff,zjx]
theorem zjw {l:List (List Int)}{x:List Int}(h:x∈aO l):x∈l:=by
 rw[zbbz] at h;rcases xih (l.count x) with z | z
 ·rw[z] at h;cases h
 ·exact xjr.mp z
theorem zqq (l:List (List Int)):(aO l).length<=l.length:=by unfold aO;rw[zmj];exact zcd l
theorem zhk (l:List (List Int)):(aO l).Nodup:=(zcj _).nodup_iff.mpr (zey l)
noncomputable abbrev aQ (ks:List (List Int)):List (List Int×D):=ks.map fun k=>(k,.bl true)
theorem zod {ks:List (List Int)}{k:List Int}:valD (aQ ks) k=if k∈ks then some (.bl true) else none:=by
 induction ks with
 | nil=>rfl
 | cons a ks ih =>
  unfold valD aQ at ih ⊢;rw[xbt,xdj];by_cases e:a=k
  ·simp[e]
  ·simp only[xcb e];rw[ih];simp[xbp,show ¬ k=a from fun z=>e z.symm]
theorem zud {ks:List (List Int)}{k:List Int}:dropD (aQ ks) k=aQ (ks.filter fun x=>decide (x≠k)):=by
 unfold dropD aQ;rw[xlc]
 rfl
theorem zwk {ks:List (List Int)}{k:List Int}(h:k∉ks):putD (aQ ks) k (.bl true)=aQ (ks++[k]):=by
 unfold putD;rw[if_neg]
 ·simp[aQ]
 ·simp only[List.any_map,xje,not_exists,not_and];intro x hx e;have:x=k:=by simpa using e
  exact h (this ▸ hx)
theorem zjo {st:Store}{n:Nat}{kvs:List (List Int×D)}(h:st[n]?=some (.dT kvs)):pairsOf st (.ref n)=some kvs:=by
 unfold pairsOf;dsimp only;rw[h]
theorem zbbv {st:Store}{n:Nat}{kvs:List (List Int×D)}(h:st[n]?=some (.fT kvs)):pairsOf st (.ref n)=some kvs:=by
 unfold pairsOf;dsimp only;rw[h]
theorem zbhi {st:Store}{n:Nat}{kvs:List (List Int×D)}{k:List Int}(h:pairsOf st (.ref n)=some kvs):oDIn false (aL k) (.ref n) st=.ok (.bl (valD kvs k).isSome) st:=by
 unfold oDIn;rw[zef,h]
 rfl
theorem ztf {st:Store}{n:Nat}{kvs:List (List Int×D)}{k:List Int}{v:D}(h:pairsOf st (.ref n)=some kvs)(hv:valD kvs k=some v):oDGet (.ref n) (aL k) st=.ok v st:=by
 unfold oDGet;rw[zef,h];dsimp only;rw[hv]
theorem zbio {st:Store}{n:Nat}{ks:List (List Int)}{k:List Int}(h:st[n]?=some (.dT (aQ ks)))(hl:ks.length<=1000000):zny [.ref n,aL k] st=.ok .non (st.set n (.dT (aQ (aP ks k)))):=by
 have e1:=zbhi (k:=k) (zjo h);rw[zod] at e1;by_cases hk:k∈ks
 ·refine zbqa (σ:=[some (.ref n),some (aL k)]) rfl ?_;rw[if_pos hk] at e1;have e2:valD (aQ ks) k=some (.bl true):=by rw[zod,if_pos hk]
  have e3:aP ks k=ks.filter fun x=>decide (x≠k):=by unfold aP;rw[if_pos hk]
  rw[e3,← zud];have e4:=zjo h;have e5:=zef k;simp only[aL,aQ] at *
  simp[e1,e4,e5,h,e2]
 ·refine zbqa (σ:=[some (.ref n),some (aL k)]) rfl ?_;rw[if_neg hk] at e1;have e3:aP ks k=ks++[k]:=by unfold aP;rw[if_neg hk]
  rw[e3,← zwk hk];have e5:=zef k;have e6:(aQ ks).length < sizeLine:=by rw[xbb];exact smallT _ hl
  simp only[aL,aQ] at *
  simp[e1,e5,h,e6];rw[xbb] at e6;exact e6
theorem zbz {l:List (List Int)}{i:Nat}{x:D}(h:(aJ l)[i]?=some x):∃k,l[i]?=some k/\x=aL k:=by
 unfold aJ at h;rw[xcn] at h;cases e:l[i]? with
 | none=>rw[e] at h;cases h
 | some k=>rw[e] at h;exact⟨k,rfl,(xcv h).symm⟩
theorem zn (l:List (List Int)):(aJ l).length=l.length:=xbb _
theorem zm {α:Type}{l:List α}{i:Nat}{k:α}(h:l[i]?=some k):l.take (i+1)=l.take i++[k]:=by
 obtain⟨hi,e⟩:=xbh.mp h;rw[xhq hi,e]
theorem zbom (xs:List D)(k:Nat):cutD xs none (some (k:Int))=xs.take k:=by
 unfold cutD;rw[HT.zsf,HT.zyn,List.drop_zero,Nat.sub_zero];rcases Nat.le_total k xs.length with h | h
 ·rw[xer h]
 ·rw[xja h,xcp,xdq h]
theorem zbdx (xs:List D)(k:Nat):cutD xs (some (k:Int)) none=xs.drop k:=by
 unfold cutD;rw[HT.zsf,HT.zyn];rcases Nat.le_total k xs.length with h | h
 ·rw[xer h,xdq (by rw[xgt];exact xbf _)]
 ·rw[xja h,List.drop_length,List.drop_of_length_le h];simp
theorem zkc (l ks:List (List Int))(h:ks.Nodup):(l.foldl aP ks).length<=ks.length+l.length:=(zlg l ks h).2.1
theorem zqa {st:Store}{n:Nat}{ks:List (List Int)}(h:st[n]?=some (.dT (aQ ks)))(hl:ks.length<=1000000):bSorted [.ref n] st=.ok (.lst (aJ (sortR ks))) st:=by
 rw[znu h (by rw[xbb];exact hl),xcy]
 congr 2
 exact congrArg (fun l=>aJ (sortR l)) (xna ks)
end Dd
namespace K07
open PySem L2
theorem zxi (a b:Nat):(a &&& b=b)↔((a / 2 &&& b / 2=b / 2)/\¬ (b % 2=1/\a % 2=0)):=by
 have e1:(a &&& b) / 2=a / 2 &&& b / 2:=xld;have e2:(a &&& b) % 2=(a % 2) * (b % 2):=by
  have q:=@Nat.and_mod_two_eq_one a b;rcases xen a with h | h<;>rcases xen b with h' | h'<;>rw[h,h'] at q ⊢<;>lia
 constructor
 ·intro h;refine⟨by rw[← e1,h],?_⟩;rintro⟨h1,h2⟩;rw[h,h1,h2] at e2;lia
 ·rintro⟨h1,h2⟩;rw[← e1] at h1;have h3:(a &&& b) % 2=b % 2:=by
   rw[e2];rcases xen a with h | h<;>rcases xen b with h' | h'<;>simp[h,h']
   exact h2 ⟨h',h⟩
  lia
end K07
namespace K23
open PySem L2 K07
end K23
namespace Dd
open PySem L2 K07 K23
theorem zeg {st:Store}{i:Int}:zbv [.int i] st=.ok (.bl true) st:=rfl
noncomputable def slowAt (r:List Int) (p:Nat):Prop:=∃a b:Int,r[p]?=some a/\r[p+1]?=some b/\a < 2 * b
noncomputable instance (r:List Int) (p:Nat):Decidable (slowAt r p) :=
 match h1:r[p]?,h2:r[p+1]? with
 | some a,some b=>if h:a < 2 * b then .isTrue ⟨a,b,h1,h2,h⟩ else .isFalse fun⟨x,y,e1,e2,e3⟩=>by rw[h1] at e1;rw[h2] at e2;cases e1;cases e2;exact h e3
 | none,_=>.isFalse fun⟨x,y,e1,_⟩=>by rw[h1] at e1;cases e1
 | some _,none=>.isFalse fun⟨x,y,_,e2,_⟩=>by rw[h2] at e2;cases e2
theorem zbjr (r:List Int)(k:Nat):cutD (r.map .int) none (some (k:Int))=(r.take k).map .int:=by rw[zbom,List.map_take]
theorem zya (r:List Int)(k:Nat):cutD (r.map .int) (some (k:Int)) none=(r.drop k).map .int:=by rw[zbdx,List.map_drop]
structure CntG (f:Nat->D) (kvs:List (List Int×D)) (l:List (List Int)):Prop where
 nd:(kvs.map (·.1)).Nodup
 mem:∀k,k∈kvs.map (·.1)↔k∈l
 val:∀p∈kvs,p.2=f (l.count p.1)
 len:kvs.length<=l.length
theorem CntG.nil (f:Nat->D):CntG f [] []:=⟨xgu,fun k=>by simp,fun p h=>(by cases h),by simp⟩
theorem CntG.at {f:Nat->D}{kvs:List (List Int×D)}{l:List (List Int)}(h:CntG f kvs l)(k:List Int):valD kvs k=if k∈l then some (f (l.count k)) else none:=by
 have gen:∀kvs:List (List Int×D),(∀p∈kvs,p.2=f (l.count p.1))->valD kvs k=if k∈kvs.map (·.1) then some (f (l.count k)) else none:=by
  intro kvs
  induction kvs with
  | nil=>intro _;rfl
  | cons a kvs ih =>
   intro hv;have ih:=ih fun p hp=>hv p (xbk _ hp)
   unfold valD at ih ⊢;rw[xdj];by_cases e:a.1=k
   ·have:=hv a xbn;simp only[e,xfi,Option.map_some,xbt,xbp,true_or,xeu];rw[this,e]
   ·simp only[xcb e];rw[ih];simp only[xbt,xbp,show ¬ k=a.1 from fun z=>e z.symm,false_or]
 rw[gen kvs h.val];simp only[h.mem]
theorem CntG.put {f:Nat->D}{kvs:List (List Int×D)}{l:List (List Int)}(h:CntG f kvs l)(k:List Int):CntG f (putD kvs k (f (l.count k+1))) (l++[k]):=by
 have any:(kvs.any fun kv=>decide (kv.1=k))=decide (k∈l):=by
  rw[xhe,xmj,← h.mem,xje,xbr];constructor
  ·rintro⟨x,hx,e⟩;exact⟨x,hx,by simpa using e⟩
  ·rintro⟨p,hp,e⟩;exact⟨p,hp,by simpa using e⟩
 unfold putD;rw[any];by_cases hk:k∈l
 ·rw[if_pos (by simpa using hk)];have keys:(kvs.map fun kv=>if kv.1=k then(kv.1,f (l.count k+1)) else kv).map (·.1)=kvs.map (·.1):=by
   rw[xcy]
   congr 1
   funext p
   dsimp only[Function.comp];split<;>rfl
  refine⟨by rw[keys];exact h.nd,fun x=>?_,fun p hp=>?_,?_⟩
  ·rw[keys,h.mem,xbw,xbq];exact⟨.inl,fun z=>z.elim id fun e=>e ▸ hk⟩
  ·obtain⟨q,hq,rfl⟩:=xbr.mp hp;have:=h.val q hq;by_cases e:q.1=k
   ·rw[if_pos e];dsimp only;rw[e,xiq];simp
   ·rw[if_neg e,this,xiq];have:List.count q.1 [k]=0:=by rw[xgi];simpa using e
    rw[this];rfl
  ·rw[xbb,xbj];have:=h.len;lia
 ·rw[if_neg (by simpa using hk)];refine⟨?_,fun x=>?_,fun p hp=>?_,?_⟩
  ·rw[xds,xip];refine⟨h.nd,by simp,fun a ha b hb=>?_⟩;simp at hb;subst hb;exact fun e=>hk ((h.mem _).mp (e ▸ ha))
  ·rw[xds,xbw,h.mem,xbw];simp
  ·rcases xbw.mp hp with hp | hp
   ·have e1:=h.val p hp;have e2:p.1≠k:=fun e=>hk ((h.mem _).mp (e ▸ xbr.mpr ⟨p,hp,rfl⟩))
    rw[e1,xiq];have:List.count p.1 [k]=0:=by rw[xgi];simpa using e2
    rw[this];rfl
   ·simp at hp;subst hp;rw[xiq,xgi.mpr hk];simp
  ·rw[xbj,xbj];have:=h.len;simp;exact this
noncomputable def oddB (n:Nat):D:=.bl (decide (n % 2=1))
theorem zww (n:Nat):oddB (n+1)=.bl (!decide (n % 2=1)):=by
 unfold oddB
 congr 1
 by_cases h:n % 2=1
 ·rw[xcj h,xcb (by lia)];rfl
 ·rw[xcb h,xcj (by lia)];rfl
theorem zqw {st:Store}{x:D}{l:List (List Int)}(hx:seqV x=some (aJ l))(hl:l.length<=1000000)(ho:(aN l).length<=1000000):∃g,zeb [x] st=.ok (aK (aO l)) (st++g):=by
 have W:=zbin (bd:=gN 2) (body:=zet) (xs:=aJ l) (σ:=[some x,some (.ref st.length),none]) (st:=st++[.dT []])
  (fun i σ s=>∃(v:Option D) (kvs:List (List Int×D)),σ=[some x,some (.ref st.length),v]/\s=st++[.dT kvs]/\CntG oddB kvs (l.take i)) ⟨none,[],rfl,rfl,CntG.nil _⟩ (by
   rintro i y σ s hy ⟨v,kvs,rfl,rfl,hc⟩;obtain⟨k,hk,rfl⟩:=zbz hy;have hc':=hc.put k;have hn:(st++[O.dT kvs])[st.length]?=some (.dT kvs):=by simp
   have e2:(valD kvs k).getD (.bl false)=.bl (decide ((l.take i).count k % 2=1)):=by
    rw[hc.at];split
    ·rfl
    ·rename_i z;rw[xgi.mpr z];rfl
   have e3:=zef k;have e4:=zjo hn;have e5:kvs.length < sizeLine:=by
    have h1:=hc.len;have h2:(l.take i).length<=l.length:=by rw[xdc];exact xgc _ _
    exact smallT _ (by lia)
   refine⟨[some x,some (.ref st.length),some (aL k)],[some x,some (.ref st.length),some (aL k)],st++[.dT (putD kvs k (oddB ((l.take i).count k+1)))],rfl,?_,some (aL k),_,rfl,rfl,by rw[zm hk];exact hc'⟩;rw[zww];unfold zet;simp only[aL] at *
   simp only[zbfr,zbir,zbda,zbnl,eC_v,xjz,List.getElem?_cons_zero,zcy,e4,e3,e2,hn,e5,xeu]
   simp)
 obtain⟨σ',st',e,v,kvs,rfl,rfl,hc⟩:=W;rw[zn,xcp] at hc;have V:=zbjt (bd:=gN 0) (c:=eTru (aS oDGet (aA 1) (aA 0))) (f:=aA 0) (xs:=aJ (kvs.map (·.1))) (σ:=[none,some (.ref st.length)]) (st:=st++[.fT kvs])
  (fun i acc σ s=>s=st++[.fT kvs]/\(∃w:Option D,σ=[w,some (.ref st.length)])/\acc=aJ (((kvs.map (·.1)).take i).filter fun k=>decide (l.count k % 2=1))) ⟨rfl,⟨none,rfl⟩,rfl⟩ (by
   rintro i y acc σ s hy ⟨rfl,⟨w,rfl⟩,rfl⟩;obtain⟨k,hk,rfl⟩:=zbz hy;have hn:(st++[O.fT kvs])[st.length]?=some (.fT kvs):=by simp
   have hkl:k∈l:=(hc.mem k).mp (xca hk);have e2:valD kvs k=some (oddB (l.count k)):=by rw[hc.at,if_pos hkl]
   have e3:oDGet (.ref st.length) (aL k) (st++[O.fT kvs])=.ok (oddB (l.count k)) _:=ztf (zbbv hn) e2;refine⟨[some (aL k),some (.ref st.length)],decide (l.count k % 2=1),st++[.fT kvs],rfl,?_,?_⟩
   ·rw[zbiq];show((oDGet (.ref st.length) (aL k) (st++[O.fT kvs])).bind _)=_;rw[e3]
    rfl
   ·by_cases ho:l.count k % 2=1
    ·refine .inr ⟨xcj ho,aL k,_,rfl,rfl,⟨_,rfl⟩,?_⟩;rw[zm hk,xfb];simp[ho,aJ]
    ·refine .inl ⟨xcb ho,rfl,⟨_,rfl⟩,?_⟩;rw[zm hk,xfb]
     simp[ho,aJ])
 obtain⟨ys,σ2,st2,e2,rfl,⟨w,rfl⟩,rfl⟩:=V;rw[zn,xcp] at e2;refine⟨[.fT kvs],ztz rfl ?_⟩;have nd:((kvs.map (·.1)).filter fun k=>decide (l.count k % 2=1)).Nodup:=hc.nd.filter _;have mm:∀k,k∈((kvs.map (·.1)).filter fun k=>decide (l.count k % 2=1))↔l.count k % 2=1:=fun k=>by
  rw[xeo,hc.mem,xmj];refine⟨fun h=>h.2,fun h=>⟨?_,h⟩⟩;rcases xih (l.count k) with z | z
  ·rw[z] at h;cases h
  ·exact xjr.mp z
 have e5:sortR ((kvs.map (·.1)).filter fun k=>decide (l.count k % 2=1))=aO l:=zbhg nd mm;have few:((kvs.map (·.1)).filter fun k=>decide (l.count k % 2=1)).length<=1000000:=by
  have p:=zit nd (zey l) fun k=>by rw[mm,zjx]
  rw[p.length_eq];exact ho
 have e6:=znt (st:=st++[.fT kvs]) few;rw[e5] at e6;have hlen:(aJ (kvs.map (·.1))).length<=sizeLine:=by
  rw[zn,xbb];exact small _ (by have:=hc.len;lia)
 refine seqN (σ1:=[some x,some (.ref st.length),none]) (st1:=st++[.dT []]) (by simp) ?_;refine seqN (σ1:=[some x,some (.ref st.length),v]) (st1:=st++[.dT kvs]) (by simp[hx,e]) ?_;have e7:aG (iDict (aA 1)) 1 [1] (gN 0) (eTru (aS oDGet (aA 1) (aA 0))) (aA 0) [some x,some (.ref st.length),v] (st++[.dT kvs])=.ok (.lst (aJ ((kvs.map (·.1)).filter fun k=>decide (l.count k % 2=1)))) (st++[.fT kvs]):=by
  rw[zzr];have e8:iDict (aA 1) [some x,some (.ref st.length),v] (st++[.dT kvs])=.ok (aJ (kvs.map (·.1))) (st++[.fT kvs]):=by
   simp
  rw[e8,zcy,if_pos hlen];show(compF _ _ _ _ [none,some (.ref st.length)] _).bind _=_;rw[e2]
  rfl
 rw[zble,zzs,zvg,zzs,zvg,e7];simp only[zcy,zbpj,e6,zuy]
theorem rngN {j:Int}(h1:-10000<=j)(h2:j<=10000):RngOk j:=rngOk (by lia) (by lia)
theorem Drew.over {st s:Store}{n k:Nat}{o:O}(d:Drew st s n)(hn:n < st.length)(hk:st.length<=k):Drew st (s.set k o) n:=by
 obtain⟨c,x,eb,c0,x0⟩:=d.bag;exact⟨by rw[xfa];exact d.len,fun i h1 h2=>by rw[xcq (by lia)];exact d.keep i h1 h2,c,x,by rw[xcq (by lia)];exact eb,c0,x0⟩
end Dd
namespace Dd
open PySem L2
noncomputable def WP {α:Type} (r:Res α) (Q:α->Store->Prop):Prop:=match r with
 | .ok a st=>Q a st
 | _=>False
theorem WP.get {α:Type}{r:Res α}{Q:α->Store->Prop}(h:WP r Q):∃a st,r=.ok a st/\Q a st:=by
 cases r with
 | ok a st=>exact⟨a,st,rfl,h⟩
 | exc x st=>exact h.elim
 | stuck=>exact h.elim
theorem WP.of {α:Type}{r:Res α}{Q:α->Store->Prop}{a:α}{st:Store}(e:r=.ok a st)(h:Q a st):WP r Q:=by rw[e];exact h
theorem WP.mono {α:Type}{r:Res α}{Q Q':α->Store->Prop}(h:WP r Q)(k:∀a st,Q a st->Q' a st):WP r Q':=by
 obtain⟨a,st,rfl,q⟩:=h.get;exact k a st q
theorem zf {α β:Type}{r:Res α}{f:α->Store->Res β}{Q:β->Store->Prop}:WP (r.bind f) Q=WP r (fun a st=>WP (f a st) Q):=by
 cases r<;>rfl
noncomputable def seqK (t:SS) (Q:Fl->Store->Prop):Fl->Store->Prop:=fun fl st=>match fl with
 | .nx σ=>WP (t σ st) Q
 | fl=>Q fl st
theorem zbew {s t:SS}{σ:DS}{st:Store}{Q:Fl->Store->Prop}:WP (aD s t σ st) Q=WP (s σ st) (seqK t Q):=by
 unfold aD;cases s σ st with
 | ok fl st1=>cases fl<;>rfl
 | exc x st=>rfl
 | stuck=>rfl
theorem zvk {α:Type}{c:Prop}[Decidable c]{a b:Res α}{Q:α->Store->Prop}:WP (if c then a else b) Q=if c then WP a Q else WP b Q:=by
 split<;>rfl
theorem zlz {α:Type}{c:Prop}[Decidable c]{a:Res α}{Q:α->Store->Prop}:WP (if c then a else .stuck) Q=(c/\WP a Q):=by
 by_cases h:c
 ·rw[if_pos h];simp[h]
 ·rw[if_neg h];simp[h,WP]
noncomputable def retK (Q:D->Store->Prop):Fl->Store->Prop:=fun fl st=>match fl with
 | .ret v=>Q v st
 | .nx _=>Q .non st
 | _=>False
theorem zdm {n np:Nat}{b:SS}{ds:List D}{st:Store}{Q:D->Store->Prop}(h:ds.length=np)(k:WP (b (ds.map some++List.replicate (n - np) none) st) (retK Q)):WP (fnD n np b ds st) Q:=by
 obtain⟨fl,st',e,q⟩:=k.get;unfold fnD;rw[if_pos h,e];cases fl<;>first | exact q | exact q.elim
noncomputable def bK (Q:Bool->Store->Prop):D->Store->Prop:=fun v st=>match v with
 | .bl b=>Q b st
 | _=>False
noncomputable def gK (bd:SG) (Q:Fl->Store->Prop) (σ:DS):D->Store->Prop:=fun v st=>match bd v σ with
 | some σ1=>Q (.nx σ1) st
 | none=>False
theorem W:(∀{α:Type} {a:α} {st:Store} {Q:α->Store->Prop},WP (.ok a st) Q=Q a st)
 /\ (∀{s t:SS} {σ:DS} {st:Store} {Q:Fl->Store->Prop},WP (aD s t σ st) Q=WP (s σ st) (seqK t Q))
 /\ (∀{t:SS} {σ:DS} {st:Store} {Q:Fl->Store->Prop},seqK t Q (.nx σ) st=WP (t σ st) Q)
 /\ (∀{t:SS} {v:D} {st:Store} {Q:Fl->Store->Prop},seqK t Q (.ret v) st=Q (.ret v) st)
 /\ (∀{t:SS} {σ:DS} {st:Store} {Q:Fl->Store->Prop},seqK t Q (.brk σ) st=Q (.brk σ) st)
 /\ (∀{t:SS} {σ:DS} {st:Store} {Q:Fl->Store->Prop},seqK t Q (.ct σ) st=Q (.ct σ) st)
 /\ (∀{v:D} {st:Store} {Q:D->Store->Prop},retK Q (.ret v) st=Q v st)
 /\ (∀{σ:DS} {st:Store} {Q:D->Store->Prop},retK Q (.nx σ) st=Q .non st)
 /\ (∀{b:Bool} {st:Store} {Q:Bool->Store->Prop},bK Q (.bl b) st=Q b st)
 /\ (∀{d:D} {σ:DS} {st:Store} {Q:D->Store->Prop},WP (eC d σ st) Q=Q d st)
 /\ (∀{g:D->D->Store->Res D} {f f':SE} {σ:DS} {st:Store} {Q:D->Store->Prop},WP (aS g f f' σ st) Q=WP (f σ st) (fun x st1=>WP (f' σ st1) (fun y st2=>WP (g x y st2) Q)))
 /\ (∀{g:D->Store->Res D} {f:SE} {σ:DS} {st:Store} {Q:D->Store->Prop},WP (eUn g f σ st) Q=WP (f σ st) (fun x st1=>WP (g x st1) Q))
 /\ (∀{g:List D->Store->Res D} {f:SA} {σ:DS} {st:Store} {Q:D->Store->Prop},WP (aE g f σ st) Q=WP (f σ st) (fun x st1=>WP (g x st1) Q))
 /\ (∀{σ:DS} {st:Store} {Q:List D->Store->Prop},WP (aC σ st) Q=Q [] st)
 /\ (∀{f:SE} {g:SA} {σ:DS} {st:Store} {Q:List D->Store->Prop},WP (aB f g σ st) Q=WP (f σ st) (fun x st1=>WP (g σ st1) (fun xs st2=>Q (x::xs) st2)))
 /\ (∀{f:SE} {σ:DS} {st:Store} {Q:Bool->Store->Prop},WP (eB f σ st) Q=WP (f σ st) (bK Q))
 /\ (∀{f f':ST} {σ:DS} {st:Store} {Q:Bool->Store->Prop},WP (bAnd f f' σ st) Q=WP (f σ st) (fun b st1=>if b=true then WP (f' σ st1) Q else Q false st1))
 /\ (∀{f f':ST} {σ:DS} {st:Store} {Q:Bool->Store->Prop},WP (bOr f f' σ st) Q=WP (f σ st) (fun b st1=>if b=true then Q true st1 else WP (f' σ st1) Q))
 /\ (∀{f:ST} {σ:DS} {st:Store} {Q:Bool->Store->Prop},WP (bNot f σ st) Q=WP (f σ st) (fun b st1=>Q (!b) st1))
 /\ (∀{σ:DS} {st:Store} {Q:Bool->Store->Prop},WP (aI σ st) Q=Q true st)
 /\ (∀{f f':SE} {σ:DS} {st:Store} {Q:D->Store->Prop},WP (eAnd f f' σ st) Q=WP (f σ st) (bK fun b st1=>if b=true then WP (f' σ st1) Q else Q (.bl false) st1))
 /\ (∀{f f':SE} {σ:DS} {st:Store} {Q:D->Store->Prop},WP (eOr f f' σ st) Q=WP (f σ st) (bK fun b st1=>if b=true then Q (.bl true) st1 else WP (f' σ st1) Q))
 /\ (∀{f:SE} {σ:DS} {st:Store} {Q:D->Store->Prop},WP (eNot f σ st) Q=WP (f σ st) (bK fun b st1=>Q (.bl (!b)) st1))
 /\ (∀{c:ST} {f f':SE} {σ:DS} {st:Store} {Q:D->Store->Prop},WP (eIf c f f' σ st) Q=WP (c σ st) (fun b st1=>if b=true then WP (f σ st1) Q else WP (f' σ st1) Q))
 /\ (∀{g:SA} {σ:DS} {st:Store} {Q:D->Store->Prop},WP (aR g σ st) Q=WP (g σ st) (fun xs st1=>xs.length<=sizeLine/\Q (.tup xs) st1))
 /\ (∀{g:SA} {σ:DS} {st:Store} {Q:D->Store->Prop},WP (eLst g σ st) Q=WP (g σ st) (fun xs st1=>xs.length<=sizeLine/\Q (.lst xs) st1))
 /\ (∀{g:SA} {σ:DS} {st:Store} {Q:D->Store->Prop},WP (eLstM g σ st) Q=WP (g σ st) (fun xs st1=>xs.length<=sizeLine/\Q (.ref st1.length) (st1++[.lst xs])))
 /\ (∀{σ:DS} {st:Store} {Q:D->Store->Prop},WP (eDNew σ st) Q=Q (.ref st.length) (st++[.dT []]))
 /\ (∀{σ:DS} {st:Store} {Q:Fl->Store->Prop},WP (sNx σ st) Q=Q (.nx σ) st)
 /\ (∀{σ:DS} {st:Store} {Q:Fl->Store->Prop},WP (sBrk σ st) Q=Q (.brk σ) st)
 /\ (∀{σ:DS} {st:Store} {Q:Fl->Store->Prop},WP (sCt σ st) Q=Q (.ct σ) st)
 /\ (∀{σ:DS} {st:Store} {Q:Fl->Store->Prop},WP (sRetN σ st) Q=Q (.ret .non) st)
 /\ (∀{f:SE} {σ:DS} {st:Store} {Q:Fl->Store->Prop},WP (sRet f σ st) Q=WP (f σ st) (fun v st1=>Q (.ret v) st1))
 /\ (∀{f:SE} {σ:DS} {st:Store} {Q:Fl->Store->Prop},WP (sDrop f σ st) Q=WP (f σ st) (fun _ st1=>Q (.nx σ) st1))
 /\ (∀{i:Nat} {f:SE} {σ:DS} {st:Store} {Q:Fl->Store->Prop},WP (aF i f σ st) Q=WP (f σ st) (fun v st1=>Q (.nx (σ.set i (some v))) st1))
 /\ (∀{bd:SG} {f:SE} {σ:DS} {st:Store} {Q:Fl->Store->Prop},WP (sSetG bd f σ st) Q=WP (f σ st) (gK bd Q σ))
 /\ (∀{c:ST} {s t:SS} {σ:DS} {st:Store} {Q:Fl->Store->Prop},WP (sIf c s t σ st) Q=WP (c σ st) (fun b st1=>if b=true then WP (s σ st1) Q else WP (t σ st1) Q))
 /\ (∀{it:SA} {bd:SG} {body:SS} {σ:DS} {st:Store} {Q:Fl->Store->Prop},WP (sFor it bd body σ st) Q=WP (it σ st) (fun xs st1=>WP (forF bd body xs σ st1) Q))
 /\ (∀{it:SA} {k:Nat} {is:List Nat} {bd:SG} {c:ST} {f:SE} {σ:DS} {st:Store} {Q:D->Store->Prop},WP (aG it k is bd c f σ st) Q=WP (it σ st) (fun xs st1=>xs.length<=sizeLine/\WP (compF bd c f xs (aT k is σ) st1) (fun ys st2=>Q (.lst ys) st2)))
 /\ (∀{it:SA} {k:Nat} {is:List Nat} {bd:SG} {c:ST} {f:SE} {σ:DS} {st:Store} {Q:D->Store->Prop},WP (eCompM it k is bd c f σ st) Q=WP (it σ st) (fun xs st1=>xs.length<=sizeLine/\WP (compF bd c f xs (aT k is σ) st1) (fun ys st2=>Q (.ref st2.length) (st2++[.lst ys]))))
 /\ (∀{C:Int->Int->Prop} [DecidableRel C] {h:Int->Int->D} {i j:Int} {st:Store} {Q:D->Store->Prop},WP (oI C h (.int i) (.int j) st) Q=(C i j/\Q (h i j) st))
 /\ (∀{i j:Int} {st:Store} {Q:D->Store->Prop},WP (aM (.int i) (.int j) st) Q=Q (.int (i+j)) st)
 /\ (∀{a b:List D} {st:Store} {Q:D->Store->Prop},WP (aM (.tup a) (.tup b) st) Q=(a.length+b.length<=sizeLine/\Q (.tup (a++b)) st))
 /\ (∀{i j:Int} {st:Store} {Q:D->Store->Prop},WP (oLtT (.int i) (.int j) st) Q=Q (.bl (decide (i < j))) st)
 /\ (∀{i j:Int} {st:Store} {Q:D->Store->Prop},WP (oEqG false (.int i) (.int j) st) Q=Q (.bl (decide (i=j))) st)
 /\ (∀{i j:Int} {st:Store} {Q:D->Store->Prop},WP (oEqG true (.int i) (.int j) st) Q=Q (.bl (!decide (i=j))) st)
 /\ (∀{i:Int} {st:Store} {Q:D->Store->Prop},WP (oNeg (.int i) st) Q=Q (.int (-i)) st)
 /\ (∀{i j:Int} {g:Int->Int->Int} {st:Store} {Q:D->Store->Prop},WP (b2I g [.int i,.int j] st) Q=Q (.int (g i j)) st)
 /\ (∀{i:Int} {st:Store} {Q:D->Store->Prop},WP (bAbs [.int i] st) Q=Q (.int (if i < 0 then -i else i)) st)
 /\ (∀{b:Bool} {st:Store} {Q:D->Store->Prop},WP (bInt [.bl b] st) Q=Q (.int (if b=true then 1 else 0)) st)
 /\ (∀{xs:List D} {st:Store} {Q:D->Store->Prop},WP (bLen [.tup xs] st) Q=Q (.int xs.length) st)
 /\ (∀{xs:List D} {st:Store} {Q:D->Store->Prop},WP (bLen [.lst xs] st) Q=Q (.int xs.length) st)
 /\ (∀{xs:List D} {st:Store} {Q:D->Store->Prop},WP (bLen [.scr xs] st) Q=Q (.int xs.length) st)
 /\ (∀{xs:List D} {st:Store} {Q:D->Store->Prop},WP (bTuple [.tup xs] st) Q=Q (.tup xs) st)
 /\ (∀{xs:List D} {st:Store} {Q:D->Store->Prop},WP (bTuple [.lst xs] st) Q=Q (.tup xs) st)
 /\ (∀{xs:List D} {st:Store} {Q:D->Store->Prop},WP (bList [.tup xs] st) Q=Q (.lst xs) st)
 /\ (∀{xs:List D} {st:Store} {Q:D->Store->Prop},WP (bList [.lst xs] st) Q=Q (.lst xs) st)
 /\ (∀{d:D} {σ:DS} {st:Store} {Q:D->Store->Prop},WP (aA 0 (some d::σ) st) Q=Q d st)
 /\ (∀{i:Nat} {σ:DS} {st:Store} {Q:D->Store->Prop} {o:Option D},WP (aA (i+1) (o::σ) st) Q=WP (aA i σ st) Q)
 /\ (∀{f:SE} {σ:DS} {st:Store} {Q:List D->Store->Prop},WP (aH f σ st) Q=WP (f σ st) (fun x st1=>∃xs,seqV x=some xs/\Q xs st1))
 /\ (∀{f:SE} {σ:DS} {st:Store} {Q:Bool->Store->Prop},WP (eTru f σ st) Q=WP (f σ st) (fun x st1=>∃b,tru st1 x=some b/\Q b st1))
 /\ (∀{g:SA} {σ:DS} {st:Store} {Q:List D->Store->Prop},WP (iR1 g σ st) Q=WP (g σ st) (fun xs st1=>∃j,xs=[.int j]/\RngOk j/\Q (rng 0 j.toNat) st1))
 /\ (∀{g:SA} {σ:DS} {st:Store} {Q:List D->Store->Prop},WP (iR2 g σ st) Q=WP (g σ st) (fun xs st1=>∃i j,xs=[.int i,.int j]/\RngOk i/\RngOk j/\Q (rng i (j - i).toNat) st1)):=by
 have g2:∀{α:Type} {c:Prop} [Decidable c] {a:α} {st:Store} {Q:α->Store->Prop},WP (if c then .ok a st else .stuck) Q=(c/\Q a st):=fun {α c _ a st Q}=>zlz
 refine⟨rfl,zbew,rfl,rfl,rfl,rfl,rfl,rfl,rfl,rfl,?_⟩;refine⟨?_,?_⟩
 ·intros;rw[zbri,zf];congr;funext x st1;rw[zf]
 refine⟨zf,zf,rfl,?_⟩;refine⟨?_,?_⟩
 ·intros;rw[zvg,zf];congr;funext x st1;rw[zf];rfl
 refine⟨?_,?_⟩
 ·intros;rw[eB_v,zf];congr;funext x st1;cases x<;>rfl
 refine⟨?_,?_⟩
 ·intros;rw[zbpg,zf];congr;funext x st1;rw[zvk];rfl
 refine⟨?_,?_⟩
 ·intros;rw[zbsa,zf];congr;funext x st1;rw[zvk];rfl
 refine⟨zf,rfl,?_⟩;refine⟨?_,?_⟩
 ·intros;rw[zbnp,zf];congr;funext x st1;cases x<;>try rfl
  rename_i b;cases b<;>rfl
 refine⟨?_,?_⟩
 ·intros;rw[zbrh,zf];congr;funext x st1;cases x<;>try rfl
  rename_i b;cases b<;>rfl
 refine⟨?_,?_⟩
 ·intros;rw[zbir,zf];congr;funext x st1;cases x<;>rfl
 refine⟨?_,?_⟩
 ·intros;rw[zbrj,zf];congr;funext x st1;rw[zvk]
 refine⟨?_,?_⟩
 ·intros;rw[zbnm,zf];congr;funext x st1;rw[g2]
 refine⟨?_,?_⟩
 ·intros;rw[zbnn,zf];congr;funext x st1;rw[g2]
 refine⟨?_,?_⟩
 ·intros;rw[zbis,zf];congr;funext x st1;rw[g2]
 refine⟨rfl,rfl,rfl,rfl,rfl,zf,zf,zf,?_⟩;refine⟨?_,?_⟩
 ·intro bd f σ st Q;unfold sSetG;rw[zf];congr;funext x st1;unfold gK;cases bd x σ<;>rfl
 refine⟨?_,?_⟩
 ·intros;rw[zbqn,zf];congr;funext x st1;rw[zvk]
 refine⟨zf,?_⟩;refine⟨?_,?_⟩
 ·intros;rw[zzr,zf];congr;funext x st1;rw[zlz,zf];rfl
 refine⟨?_,?_⟩
 ·intros;unfold eCompM;rw[zf];congr;funext x st1;rw[zlz,zf];rfl
 refine⟨?_,?_⟩
 ·intros;rw[oI_v,g2]
 refine⟨rfl,?_⟩;refine⟨?_,?_⟩
 ·intros;rw[zbmn,g2]
 refine⟨rfl,?_⟩;refine⟨?_,?_⟩
 ·intros;rw[show ∀i j st,oEqG false (.int i) (.int j) st=_ from fun i j st=>zbrb];rfl
 refine⟨?_,?_⟩
 ·intros;rw[show ∀i j st,oEqG true (.int i) (.int j) st=_ from fun i j st=>zbqy];rfl
 refine⟨rfl,rfl,rfl,rfl,rfl,rfl,rfl,rfl,rfl,rfl,rfl,fun {d σ st Q}=>rfl,fun {i σ st Q o}=>rfl,?_⟩;refine⟨?_,?_⟩
 ·intros;rw[zbng,zf];congr;funext x st1
  cases h:seqV x with
  | none=>simp[WP]
  | some xs=>simp[WP]
 refine⟨?_,?_⟩
 ·intros;rw[zbiq,zf];congr;funext x st1
  cases h:tru st1 x with
  | none=>simp[WP]
  | some xs=>simp[WP]
 refine⟨?_,?_⟩
 ·intros;rw[zbre,zf];congr;funext x st1
  split
  ·rw[g2];simp[RngOk]
  ·rename_i hne;have:∀j,x≠[D.int j]:=fun j h=>hne j h
   simp[WP,this]
 ·intros;rw[zbrd,zf];congr;funext x st1
  split
  ·rw[g2];simp only[RngOk,List.cons.injEq,D.int.injEq,and_true];apply propext;constructor
   ·rintro⟨h,q⟩;exact⟨_,_,⟨rfl,rfl⟩,h.1,h.2,q⟩
   ·rintro⟨i',j',⟨rfl,rfl⟩,h1,h2,q⟩;exact⟨⟨h1,h2⟩,q⟩
  ·rename_i hne;have:∀i j,x≠[D.int i,D.int j]:=fun i j h=>hne i j h
   simp[WP,this]
noncomputable def loopK (I:DS->Store->Prop) (Q:Fl->Store->Prop):Fl->Store->Prop:=fun fl st=>match fl with
 | .nx σ=>I σ st
 | .ct σ=>I σ st
 | .brk σ=>Q (.nx σ) st
 | .ret v=>Q (.ret v) st
theorem zim {bd:SG}{body:SS}{Q:Fl->Store->Prop}(I:Nat->DS->Store->Prop):∀(xs:List D) (k:Nat) (σ:DS) (st:Store),I k σ st ->
  (∀i x σ st,xs[i]?=some x->I (k+i) σ st->∃σ1,bd x σ=some σ1/\WP (body σ1 st) (loopK (I (k+i+1)) Q))->(∀σ st,I (k+xs.length) σ st->Q (.nx σ) st)->WP (forF bd body xs σ st) Q
 | [],k,σ,st,h,_,q=>q σ st h
 | x::xs,k,σ,st,h,s,q=>by
  obtain⟨σ1,e1,w⟩:=s 0 x σ st rfl h;obtain⟨fl,st2,e2,w⟩:=w.get;unfold forF;rw[e1];dsimp only;rw[e2]
  have go:∀σ2,I (k+0+1) σ2 st2->WP (forF bd body xs σ2 st2) Q:=fun σ2 h2=>zim I xs (k+1) σ2 st2 h2 (fun i y σ st hy hi=>by
   have:=s (i+1) y σ st (by simpa using hy) (by rw[show k+(i+1)=k+1+i by lia];exact hi);rw[show k+(i+1)+1=k+1+i+1 by lia] at this
   exact this) (fun σ st h=>q σ st (by rw[xby,show k+(xs.length+1)=k+1+xs.length by lia];exact h))
  cases fl with
  | nx σ2=>exact go σ2 w
  | ct σ2=>exact go σ2 w
  | brk σ2=>exact w
  | ret v=>exact w
theorem zdr {bd:SG}{body:SS}{Q:Fl->Store->Prop}(I:Nat->DS->Store->Prop){xs:List D}{σ:DS}{st:Store}(h0:I 0 σ st)
  (s:∀i x σ st,xs[i]?=some x->I i σ st->∃σ1,bd x σ=some σ1/\WP (body σ1 st) (loopK (I (i+1)) Q))(q:∀σ st,I xs.length σ st->Q (.nx σ) st):WP (forF bd body xs σ st) Q :=
 zim I xs 0 σ st h0 (fun i x σ st hx hi=>by rw[xdw] at hi ⊢;exact s i x σ st hx hi) fun σ st h=>q σ st (by rw[xdw] at h;exact h)
theorem L:(∀{I:DS->Store->Prop} {Q:Fl->Store->Prop} {σ:DS} {st:Store},loopK I Q (.nx σ) st=I σ st)
 /\ (∀{I:DS->Store->Prop} {Q:Fl->Store->Prop} {σ:DS} {st:Store},loopK I Q (.ct σ) st=I σ st)
 /\ (∀{I:DS->Store->Prop} {Q:Fl->Store->Prop} {σ:DS} {st:Store},loopK I Q (.brk σ) st=Q (.nx σ) st)
 /\ (∀{I:DS->Store->Prop} {Q:Fl->Store->Prop} {v:D} {st:Store},loopK I Q (.ret v) st=Q (.ret v) st):=⟨rfl,rfl,rfl,rfl⟩
theorem zep {bd:SG}{c:ST}{f:SE}(I:Nat->List D->DS->Store->Prop):∀(xs:List D) (k:Nat) (acc:List D) (σ:DS) (st:Store) (Q:List D->Store->Prop),I k acc σ st ->
  (∀i x acc σ st,xs[i]?=some x->I (k+i) acc σ st->∃σ1,bd x σ=some σ1/\WP (c σ1 st) (fun b st1=>if b=true then WP (f σ1 st1) (fun y st2=>I (k+i+1) (acc++[y]) σ1 st2) else I (k+i+1) acc σ1 st1)) ->
  (∀ys σ st,I (k+xs.length) (acc++ys) σ st->Q ys st)->WP (compF bd c f xs σ st) Q
 | [],k,acc,σ,st,Q,h,_,q=>q [] σ st (by rw[xdd];exact h)
 | x::xs,k,acc,σ,st,Q,h,s,q=>by
  obtain⟨σ1,e1,w⟩:=s 0 x acc σ st rfl h;obtain⟨b,st1,e2,w⟩:=w.get;have s':∀i y acc σ st,xs[i]?=some y->I (k+1+i) acc σ st->∃σ1,bd y σ=some σ1/\WP (c σ1 st) (fun b st1=>if b=true then WP (f σ1 st1) (fun y st2=>I (k+1+i+1) (acc++[y]) σ1 st2) else I (k+1+i+1) acc σ1 st1):=fun i y acc σ st hy hi=>by
   have:=s (i+1) y acc σ st (by simpa using hy) (by rw[show k+(i+1)=k+1+i by lia];exact hi);rw[show k+(i+1)+1=k+1+i+1 by lia] at this;exact this
  have ln:∀(zs:List D) σ st,I (k+1+xs.length) zs σ st->I (k+(x::xs).length) zs σ st:=fun zs σ st h=>by rw[xby,show k+(xs.length+1)=k+1+xs.length by lia];exact h
  unfold compF;rw[e1];dsimp only;rw[e2];dsimp only[zcy];cases b with
  | false =>
   rw[if_neg (by decide)] at w ⊢;exact zep I xs (k+1) acc σ1 st1 Q w s' fun ys σ st h=>q ys σ st (ln _ _ _ h)
  | true =>
   rw[if_pos rfl] at w ⊢;obtain⟨y,st2,e3,w⟩:=w.get;rw[e3];dsimp only[zcy];rw[zf];exact zep I xs (k+1) (acc++[y]) σ1 st2 _ w s' fun ys σ st h=>q (y::ys) σ st (ln _ _ _ (by rw[xcg] at h;exact h))
theorem zoa {bd:SG}{c:ST}{f:SE}{Q:List D->Store->Prop}(I:Nat->List D->DS->Store->Prop){xs:List D}{σ:DS}{st:Store}(h0:I 0 [] σ st)
  (s:∀i x acc σ st,xs[i]?=some x->I i acc σ st->∃σ1,bd x σ=some σ1/\WP (c σ1 st) (fun b st1=>if b=true then WP (f σ1 st1) (fun y st2=>I (i+1) (acc++[y]) σ1 st2) else I (i+1) acc σ1 st1))
  (q:∀ys σ st,I xs.length ys σ st->Q ys st):WP (compF bd c f xs σ st) Q :=
 zep I xs 0 [] σ st Q h0 (fun i x acc σ st hx hi=>by rw[xdw] at hi ⊢;exact s i x acc σ st hx hi) fun ys σ st h=>q ys σ st (by rw[xdw] at h;simpa using h)
theorem zpx {bd:SG}{c:ST}{f:SE}{α:Type}(S:DS->Prop)(P:α->Bool)(G:α->D)(E:α->D){as:List α}{σ:DS}{st:Store}{Q:List D->Store->Prop}(h0:S σ)
  (s:∀x∈as,∀σ,S σ->∃σ1,bd (E x) σ=some σ1/\S σ1/\WP (c σ1 st) (fun b st1=>st1=st/\b=P x)/\(P x=true->WP (f σ1 st) (fun y st1=>st1=st/\y=G x)))
  (q:Q ((as.filter P).map G) st):WP (compF bd c f (as.map E) σ st) Q:=by
 refine zoa (fun i acc σ s'=>S σ/\s'=st/\acc=((as.take i).filter P).map G) ⟨h0,rfl,rfl⟩ (fun i x acc σ s' hx hI=>?_) fun ys σ s' hI=>?_
 ·obtain⟨hS,rfl,rfl⟩:=hI;rw[xcn] at hx;obtain⟨z,hz,rfl⟩:=xdg.mp hx;obtain⟨σ1,e1,hS1,w1,w2⟩:=s z (xca hz) σ hS;refine⟨σ1,e1,w1.mono fun b st1 hb=>?_⟩;obtain⟨rfl,rfl⟩:=hb;cases hP:P z with
  | false =>
   rw[if_neg (by decide)];refine⟨hS1,rfl,?_⟩;rw[zm hz,xfb,xcu (by rw[hP];decide)];simp
  | true =>
   rw[if_pos rfl];refine(w2 hP).mono fun y st2 hy=>?_
   obtain⟨rfl,rfl⟩:=hy;refine⟨hS1,rfl,?_⟩;rw[zm hz,xfb,xco hP,xds];simp
 ·obtain⟨_,rfl,rfl⟩:=hI;rw[xbb,xcp];exact q
theorem V:(∀{α:Type} {a b:α} {l:List α},(a::l).set 0 b=b::l)
 /\ (∀{α:Type} {a b:α} {l:List α} {i:Nat},(a::l).set (i+1) b=a::l.set i b)
 /\ (∀{σ:DS} {k:Nat} {is:List Nat},aT k is σ=List.replicate k none++is.map fun i=>(σ[i]?).getD none)
 /\ (∀{α:Type} {a:α} {k:Nat},List.replicate (k+1) a=a::List.replicate k a)
 /\ (∀{α:Type} {a:α},List.replicate 0 a=[])
 /\ (∀{α β:Type} {f:α->β} {a:α} {l:List α},(a::l).map f=f a::l.map f)
 /\ (∀{α β:Type} {f:α->β},([]:List α).map f=[])
 /\ (∀{α:Type} {a:α} {l m:List α},(a::l)++m=a::(l++m))
 /\ (∀{α:Type} {l:List α},[]++l=l)
 /\ (∀{α:Type} {a:α} {l:List α},(a::l)[0]?=some a)
 /\ (∀{α:Type} {a:α} {l:List α} {i:Nat},(a::l)[i+1]?=l[i]?)
 /\ (∀{α:Type} {a:α} {d:α},(some a).getD d=a)
 /\ (∀{i:Nat} {d:D} {σ:DS},gN i d σ=some (σ.set i (some d)))
 /\ (∀{p:Prop} [Decidable p],(decide p=true)=p)
 /\ (∀{p:Prop} [Decidable p],((!decide p)=true)=¬ p)
 /\ (∀{b:Bool},((!b)=true)=(b=false))
 /\ (∀{a b:Prop},(if True then a else b)=a)
 /\ (∀{a b:Prop},(if False then a else b)=b)
 /\ (∀{a b:Prop},(if true=true then a else b)=a)
 /\ (∀{a b:Prop},(if false=true then a else b)=b)
 /\ (∀{α:Type} {a b:α},(if True then a else b)=a)
 /\ (∀{α:Type} {a b:α},(if False then a else b)=b)
 /\ ((true=false)=False)/\((false=true)=False)/\((true=true)=True)/\((false=false)=True)/\((¬ True)=False)/\((¬ False)=True):=by
 refine⟨rfl,rfl,rfl,rfl,rfl,rfl,rfl,rfl,rfl,rfl,?_,rfl,rfl,?_,?_,?_,rfl,rfl,rfl,rfl,rfl,rfl,by simp,by simp,by simp,by simp,by simp,by simp⟩
 ·intros;rfl
 ·intro p _;simp
 ·intro p _;simp
 ·intro b;simp
theorem M:(∀{f:SE} {σ:DS} {st:Store} {Q:Option Int->Store->Prop},WP (pSome f σ st) Q=WP (f σ st) (fun v st1=>∃i,v=.int i/\Q (some i) st1))
 /\ (∀{σ:DS} {st:Store} {Q:Option Int->Store->Prop},WP (pNone σ st) Q=Q none st)
 /\ (∀{f:SE} {lo hi:DS->Store->Res (Option Int)} {σ:DS} {st:Store} {Q:D->Store->Prop},WP (eSl f lo hi σ st) Q=WP (f σ st) (fun x st1=>WP (lo σ st1) (fun l st2=>WP (hi σ st2) (fun h st3=>(∃xs,x=.tup xs/\Q (.tup (cutD xs l h)) st3)\/(∃xs,asL st3 x=some xs/\Q (.lst (cutD xs l h)) st3)))))
 /\ (∀{f:SE} {σ:DS} {st:Store} {Q:D->Store->Prop},WP (eFz f σ st) Q=WP (f σ st) (fun x st1=>∃n xs,x=.ref n/\st1[n]?=some (.lst xs)/\Q (.lst xs) (st1.set n .dead)))
 /\ (∀{f g h:SE} {σ:DS} {st:Store} {Q:Fl->Store->Prop},WP (sSetIx f g h σ st) Q=WP (h σ st) (fun v st1=>WP (f σ st1) (fun x st2=>WP (g σ st2) (fun y st3=>∃n k xs j,x=.ref n/\y=.int k/\st3[n]?=some (.lst xs)/\ixN xs.length k=some j/\Q (.nx σ) (st3.set n (.lst (xs.set j v)))))))
 /\ (∀{f:SE} {g:SA} {σ:DS} {st:Store} {Q:D->Store->Prop},WP (eAppend f g σ st) Q=WP (f σ st) (fun x st1=>∃n xs0,x=.ref n/\st1[n]?=some (.lst xs0)/\WP (g σ st1) (fun ys st2=>∃y xs,ys=[y]/\st2[n]?=some (.lst xs)/\xs.length < sizeLine/\Q .non (st2.set n (.lst (xs++[y]))))))
 /\ (∀{x:D} {st:Store} {Q:D->Store->Prop},WP (bSum [x] st) Q=∃ns,(seqOf st x).bind asInts=some ns/\Q (.int ns.sum) st)
 /\ (∀{x:D} {al:Bool} {st:Store} {Q:D->Store->Prop},WP (bAny al [x] st) Q=∃bs,(asL st x).bind asBools=some bs/\Q (.bl (if al then bs.all id else bs.any id)) st)
 /\ (∀{x:D} {gt:Bool} {st:Store} {Q:D->Store->Prop},WP (bBest gt [x] st) Q=∃n ns,(seqOf st x).bind asInts=some (n::ns)/\Q (.int (bestI gt n ns)) st)
 /\ (∀{g:SA} {σ:DS} {st:Store} {Q:List D->Store->Prop},WP (iZipT g σ st) Q=WP (g σ st) (fun xs st1=>∃a b,xs=[.tup a,.tup b]/\Q (pairsF a b) st1))
 /\ (∀{i:Nat} {g:D->D->Store->Res D} {f:SE} {σ:DS} {st:Store} {Q:Fl->Store->Prop},WP (sAug i g f σ st) Q=∃x,σ[i]?=some (some x)/\WP (f σ st) (fun y st1=>WP (g x y st1) (fun z st2=>Q (.nx (σ.set i (some z))) st2))):=by
 refine⟨?_,rfl,?_,?_,?_,?_,?_,?_,?_,?_,?_⟩
 ·intros;rw[zbgu,zf];congr;funext x st1
  cases x<;>simp[WP]
 ·intros;rw[zbrg,zf];congr;funext x st1;rw[zf];congr;funext l st2;rw[zf];congr;funext h st3
  apply propext;split
  ·constructor
   ·intro q;exact .inl ⟨_,rfl,q⟩
   ·rintro(⟨xs,e,q⟩ | ⟨xs,e,q⟩)
    ·cases e;exact q
    ·cases e
  ·rename_i hne;constructor
   ·intro q;split at q
    ·rename_i xs e;exact .inr ⟨xs,e,q⟩
    ·exact q.elim
   ·rintro(⟨xs,e,q⟩ | ⟨xs,e,q⟩)
    ·exact absurd e (hne xs)
    ·rw[e];exact q
 ·intros;rw[zbrk,zf];congr;funext x st1
  apply propext;constructor
  ·intro q;split at q
   ·split at q
    ·rename_i xs e;exact⟨_,xs,rfl,e,q⟩
    ·exact q.elim
   ·exact q.elim
  ·rintro⟨n,xs,rfl,e,q⟩;dsimp only;rw[e];exact q
 ·intros;rw[zbaw,zf];congr;funext v st1;rw[zf];congr;funext x st2;rw[zf];congr;funext y st3
  apply propext;constructor
  ·intro q;split at q
   ·split at q
    ·split at q
     ·exact⟨_,_,_,_,rfl,rfl,by assumption,by assumption,q⟩
     ·exact q.elim
    ·exact q.elim
   ·exact q.elim
  ·rintro⟨n,k,xs,j,rfl,rfl,e1,e2,q⟩;dsimp only;rw[e1];dsimp only;rw[e2];exact q
 ·intros;rw[zxt,zf];congr;funext x st1
  apply propext;constructor
  ·intro q;split at q
   ·rename_i n xs0 e;rw[zf] at q;have e':st1[n]?=some (.lst xs0):=by
     unfold asL at e;dsimp only at e;split at e
     ·cases e;assumption
     ·cases e
    refine⟨n,xs0,rfl,e',q.mono fun ys st2 h=>?_⟩;split at h
    ·split at h
     ·exact⟨_,_,rfl,by assumption,by assumption,h⟩
     ·exact h.elim
    ·exact h.elim
   ·exact q.elim
  ·rintro⟨n,xs0,rfl,e,q⟩;rw[zjd e];dsimp only;rw[zf];refine q.mono fun ys st2 h=>?_
   obtain⟨y,xs,rfl,e2,hl,h⟩:=h;rw[e2];dsimp only;rw[if_pos hl];exact h
 ·intro x st Q;unfold bSum;dsimp only;cases h:(seqOf st x).bind asInts with
  | none=>simp[WP]
  | some ns=>simp[WP]
 ·intro x al st Q;unfold bAny;dsimp only;cases h:(asL st x).bind asBools with
  | none=>simp[WP]
  | some ns=>simp[WP]
 ·intro x gt st Q;unfold bBest;dsimp only;cases h:(seqOf st x).bind asInts with
  | none=>simp[WP]
  | some ns =>
   cases ns with
   | nil=>simp[WP]
   | cons n ns =>
    apply propext;constructor
    ·intro q;exact⟨_,_,rfl,q⟩
    ·rintro⟨a,b,e,q⟩;cases e;exact q
 ·intro g σ st Q;unfold iZipT;rw[zf];congr;funext x st1
  apply propext;constructor
  ·intro q;split at q
   ·exact⟨_,_,rfl,q⟩
   ·exact q.elim
  ·rintro⟨a,b,rfl,q⟩;exact q
 ·intro i g f σ st Q;rw[zblg];apply propext;constructor
  ·intro q;split at q
   ·rename_i x e;rw[zf] at q;exact⟨x,e,q.mono fun y st1 h=>by rw[zf] at h;exact h⟩
   ·exact q.elim
  ·rintro⟨x,e,q⟩;rw[e];dsimp only;rw[zf];exact q.mono fun y st1 h=>by rw[zf];exact h
theorem N:(∀{xs:List D} {P:List D->Prop},(∃ys,D.tup xs=D.tup ys/\P ys)=P xs)
 /\ (∀{i:Int} {P:Int->Prop},(∃j,D.int i=D.int j/\P j)=P i)
 /\ (∀{xs:List D} {st:Store} {P:List D->Prop},(∃ys,asL st (.tup xs)=some ys/\P ys)=False)
 /\ (∀{xs:List D} {st:Store} {P:List D->Prop},(∃ys,asL st (.lst xs)=some ys/\P ys)=P xs)
 /\ (∀{xs:List D} {P:List D->Prop},(∃ys,seqV (.tup xs)=some ys/\P ys)=P xs)
 /\ (∀{xs:List D} {P:List D->Prop},(∃ys,seqV (.lst xs)=some ys/\P ys)=P xs)
 /\ (∀{b:Bool} {st:Store} {P:Bool->Prop},(∃c,tru st (.bl b)=some c/\P c)=P b)
 /\ (∀{i:Int} {P:Int->Prop},(∃j,[D.int i]=[D.int j]/\P j)=P i)
 /\ (∀{i j:Int} {P:Int->Int->Prop},(∃k l,[D.int i,D.int j]=[D.int k,D.int l]/\P k l)=P i j)
 /\ (∀{x:D} {P:D->Prop},(∃y,[x]=[y]/\P y)=P x)
 /\ (∀{a b:List D} {P:List D->List D->Prop},(∃c d,[D.tup a,D.tup b]=[.tup c,.tup d]/\P c d)=P a b)
 /\ (∀{p:Prop},(p\/False)=p)/\(∀{p:Prop},(True/\p)=p):=by
 refine⟨?_,?_,?_,?_,?_,?_,?_,?_,?_,?_,?_,by simp,by simp⟩
 ·intros;apply propext;exact⟨fun⟨_,e,p⟩=>by cases e;exact p,fun p=>⟨_,rfl,p⟩⟩
 ·intros;apply propext;exact⟨fun⟨_,e,p⟩=>by cases e;exact p,fun p=>⟨_,rfl,p⟩⟩
 ·intros;apply propext;exact⟨fun⟨_,e,p⟩=>(by cases e),fun p=>p.elim⟩
 ·intros;apply propext;exact⟨fun⟨_,e,p⟩=>by cases e;exact p,fun p=>⟨_,rfl,p⟩⟩
 ·intros;apply propext;exact⟨fun⟨_,e,p⟩=>by cases e;exact p,fun p=>⟨_,rfl,p⟩⟩
 ·intros;apply propext;exact⟨fun⟨_,e,p⟩=>by cases e;exact p,fun p=>⟨_,rfl,p⟩⟩
 ·intros;apply propext;exact⟨fun⟨_,e,p⟩=>by cases e;exact p,fun p=>⟨_,rfl,p⟩⟩
 ·intros;apply propext;exact⟨fun⟨_,e,p⟩=>by cases e;exact p,fun p=>⟨_,rfl,p⟩⟩
 ·intros;apply propext;exact⟨fun⟨_,_,e,p⟩=>by cases e;exact p,fun p=>⟨_,_,rfl,p⟩⟩
 ·intros;apply propext;exact⟨fun⟨_,e,p⟩=>by cases e;exact p,fun p=>⟨_,rfl,p⟩⟩
 ·intros;apply propext;exact⟨fun⟨_,_,e,p⟩=>by cases e;exact p,fun p=>⟨_,_,rfl,p⟩⟩
section
variable {st:Store}{n:Nat}{Q:D->Store->Prop}
theorem zdj {m:Int}(hb:BagAt st n)(h1:1<=m)(h2:m<=1000000)(k:∀r st',0<=r->r < m->Drew st st' n->Q (.int r) st'):WP (zi [.ref n,.int m] st) Q:=by
 obtain⟨r,st',e,a1,a2,a3,_⟩:=zyl hb h1 (Int.lt_of_le_of_lt h2 (by decide +kernel));exact WP.of e (k r st' a1 a2 a3)
theorem zik {x:D}{xs:List D}{i:Int}{d:D}(h:seqOf st x=some xs)(h2:L2.atI xs i=some d)(q:Q d st):WP (oIx x (.int i) st) Q:=WP.of (zte h h2) q
theorem zbgh {xs:List D}{i:Int}(h0:0<=i)(h1:i < xs.length)(q:∀d∈xs,Q d st):WP (oIx (.lst xs) (.int i) st) Q:=by
 obtain⟨j,rfl⟩:=xeb h0;have hj:j < xs.length:=by lia
 exact zik (xs:=xs) (d:=xs[j]) rfl (zuz (xbd hj)) (q _ (xcx hj))
theorem zboy {ns:List Int}{i:Nat}(hl:ns.length<=63)(hi:i<=100000)(k:∀g,BagAt (st++g) st.length->Q (.ref st.length) (st++g)):WP (zfm [.scr (ns.map .int),.int i] st) Q:=by
 obtain⟨c,x,hc,hx,e⟩:=zboz (st:=st) hl hi;exact WP.of e (k _ ⟨c,x,by simp,hc,hx⟩)
end
theorem BagAt.lt {st:Store}{n:Nat}(h:BagAt st n):n < st.length:=by obtain⟨c,x,e,_⟩:=h;exact zca e
theorem zmy {r:List Int}{P:Int->Prop}(h:∀x∈r,P x){y:Int}(hy:P y):∀x∈r++[y],P x:=fun x hx=>by
 rcases xbw.mp hx with hx | hx
 ·exact h x hx
 ·simp at hx;subst hx;exact hy
theorem zfb {α:Type}(l:List α):(l.filter fun _=>true)=l:=List.filter_eq_self.mpr (by simp)
theorem zje {α:Type}(P:α->Bool):∀as:List α,asBools (as.map fun x=>.bl (P x))=some (as.map P)
 | []=>rfl
 | x::as=>by rw[xbt,asBools,zje P as];rfl
section
variable {st:Store}{n:Nat}{Q:D->Store->Prop}
theorem ztp (hb:BagAt st n)(k:∀(m:Int) st',1<=m->m<=10->Drew st st' n->Q (.int m) st'):WP (zct [.ref n] st) Q:=by
 refine zdm rfl ?_;simp only[W,V];refine zdj hb (by lia) (by lia) fun r st1 h1 h2 d1=>?_
 simp only[W,V];refine⟨small _ (by simp),?_⟩;refine zdj d1.bag (by lia) (by lia) fun r2 st2 h3 h4 d2=>?_
 refine zbgh h3 (by simp;lia) fun d hd=>?_
 simp only[xbp,xmq,or_false] at hd;rcases hd with rfl | rfl | rfl | rfl | rfl | rfl | rfl | rfl | rfl | rfl | rfl<;>exact k _ _ (by lia) (by lia) (d1.trans d2)
theorem zrr (l:List Int)(j:Nat):(l.drop j++l.take j).length=l.length:=by rw[xbj,Nat.add_comm,← xbj,xdn]
theorem zbao {l:List Int}{j:Nat}{s:Store}(h:l.length<=sizeLine):aM (.lst ((l.drop j).map .int)) (.lst ((l.take j).map .int)) s=.ok (.lst ((l.drop j++l.take j).map .int)) s:=by
 show(if _<=sizeLine then Res.ok (D.lst _) s else .stuck)=_;rw[if_pos,xds];rw[xbb,xbb,← xbj,zrr];exact h
theorem zbhh {x:D}{l:List (List Int)}(hx:seqV x=some (aJ l))(hl:l.length<=1000000)(k:∀g,Q (aK (aO l)) (st++g)):WP (zeb [x] st) Q:=by
 have h1:=zcd l;obtain⟨g,e⟩:=zqw (st:=st) hx (by lia) (by lia);exact WP.of e (k g)
end
section
variable {k:Nat}{d:D}{st:Store}
end
section
variable {k:Nat}{d:D}{st:Store}{Q:D->Store->Prop}
end
section
variable {k:Nat}{d:D}{st:Store}{Q:D->Store->Prop}
end
theorem zrf {s t:SS}{σ:DS}{st:Store}{Q R:Fl->Store->Prop}(h:WP (s σ st) R)(k:∀fl s',R fl s'->seqK t Q fl s'):WP (aD s t σ st) Q:=by
 rw[zbew];exact h.mono k
section
variable {st:Store}{n:Nat}{Q:D->Store->Prop}
end
section
variable {st:Store}{n:Nat}{Q:D->Store->Prop}
theorem zzp {ks:List (List Int)}{k:List Int}(h:st[n]?=some (.dT (aQ ks)))(hl:ks.length<=1000000)(q:Q .non (st.set n (.dT (aQ (aP ks k))))):WP (zny [.ref n,aL k] st) Q:=WP.of (zbio h hl) q
theorem zoh {ks:List (List Int)}(h:st[n]?=some (.dT (aQ ks)))(hl:ks.length<=1000000)(q:Q (.lst (aJ (sortR ks))) st):WP (bSorted [.ref n] st) Q:=WP.of (zqa h hl) q
theorem zmv {x:D}{l:List (List Int)}(hx:seqV x=some (aJ l))(hl:l.length<=1000000)(k:∀g,Q (aK (aO l)) (st++g)):WP (zfk [x] st) Q:=by
 refine zdm rfl ?_;simp only[W,V];refine⟨_,hx,?_⟩;refine zdr (fun i σ s=>(∃v,σ=[some x,some (.ref st.length),v])/\s=st++[.dT (aQ (aN (l.take i)))]) ⟨⟨_,rfl⟩,rfl⟩ ?_ ?_
 ·rintro i y σ s hy ⟨⟨v,rfl⟩,rfl⟩;obtain⟨r,hr,rfl⟩:=zbz hy;refine⟨_,rfl,?_⟩;unfold zgl;simp only[W,V,L];have h1:=zcd (l.take i);have h2:(l.take i).length<=l.length:=by rw[xdc];exact xgc _ _
  refine zzp (ks:=aN (l.take i)) (by simp) (by lia) ⟨⟨_,rfl⟩,?_⟩;rw[zm hr];unfold aN;rw[xhm];simp
 ·rintro σ s ⟨⟨v,rfl⟩,rfl⟩;rw[zn,xcp];simp only[W,V];have h1:=zcd l;refine zoh (ks:=aN l) (by simp) (by lia) ?_;simp only[W,V];exact k _
end
section
variable {st:Store}{n:Nat}{Q:D->Store->Prop}
theorem zbcf {l:List (List Int)}{r:List Int}{P:List Int->Prop}(h:∀x∈l,P x)(hr:P r):∀x∈l++[r],P x:=fun x hx=>by
 rcases xbw.mp hx with hx | hx
 ·exact h x hx
 ·simp at hx;subst hx;exact hr
end
end Dd
namespace K03
end K03
namespace K13
open PySem PyProof.Rows
theorem zbcp (a b:Nat):(a &&& b) / 2=a / 2 &&& b / 2:=xld
theorem zbco (a b:Nat):(a &&& b) % 2=(a % 2) * (b % 2):=by
 have q:=@Nat.and_mod_two_eq_one a b;rcases xen a with h | h<;>rcases xen b with h' | h'<;>rw[h,h'] at q ⊢<;>lia
noncomputable abbrev In (e y:Nat):Prop:=e &&& y=y
theorem zoz {a b:Nat}:In a b↔(In (a / 2) (b / 2)/\¬ (b % 2=1/\a % 2=0)):=K07.zxi a b
theorem In.le {e y:Nat}(h:In e y):y<=e:=by rw[← h];exact Nat.and_le_left
theorem zzi (e:Nat):In e 0:=Nat.and_zero e
theorem zbif (e:Nat):In e e:=Nat.and_self e
theorem zbih (e x:Nat):In e (e &&& x):=by unfold In;rw[← Nat.and_assoc,Nat.and_self]
theorem zbcv:∀(e y:Nat),In e y->In e (e - y):=fun e=>by
 induction e using Nat.strongRecOn with
 | ind e ih =>
  intro y h;by_cases z:e=0
  ·subst z;rw[Nat.zero_sub];exact zzi 0
  obtain⟨h1,h2⟩:=zoz.mp h;have i:=ih (e / 2) (by lia) (y / 2) h1;have l1:=h1.le;refine zoz.mpr ⟨?_,?_⟩
  ·rw[show(e - y) / 2=e / 2 - y / 2 by lia];exact i
  ·rintro⟨a,b⟩;lia
theorem zbig:∀(e d q:Nat),In e d->In e q->q < d->q<=e &&& (d - 1):=fun e=>by
 induction e using Nat.strongRecOn with
 | ind e ih =>
  intro d q hd hq lt;by_cases z:e=0
  ·subst z;have:=hd.le;lia
  obtain⟨d1,d2⟩:=zoz.mp hd;obtain⟨q1,q2⟩:=zoz.mp hq;have e1:=zbcp e (d - 1);have e2:=zbco e (d - 1);rcases xen d with c | c
  ·rw[show(d - 1) / 2=d / 2 - 1 by lia] at e1;rw[show(d - 1) % 2=1 by lia,Nat.mul_one] at e2;have i:=ih (e / 2) (by lia) (d / 2) (q / 2) d1 q1 (by lia);have:q % 2<=e % 2:=by lia
   lia
  ·rw[show(d - 1) / 2=d / 2 by lia,d1] at e1;lia
noncomputable def nxt (e j:Nat):Nat:=e - (e &&& (e - j - 1))
theorem zbhk {e j:Nat}(h:j < e):j < nxt e j:=by
 have:=xgs (@Nat.and_le_right e (e - (j+1))) e;rw[Nat.sub_sub_self h] at this;exact this
theorem zbmo (e j:Nat):nxt e j<=e:=xgk _ _
theorem zbmp (e j:Nat):In e (nxt e j):=zbcv e _ (zbih e _)
theorem zwx {e j m:Nat}(hj:In e j)(hm:In e m)(lt:j < m):nxt e j<=m:=by
 have l1:=hm.le;have:=zbig e (e - j) (e - m) (zbcv e j hj) (zbcv e m hm) (Nat.sub_lt_sub_left (xbg lt l1) lt);exact Nat.sub_le_of_le_add (Nat.add_comm _ m ▸ Nat.sub_le_iff_le_add.mp this)
theorem zbhj {e j:Nat}(h:j < e):Builtin.bitAnd ((j:Int) - (e:Int)) (e:Int)=(nxt e j:Nat):=by
 rw[bitAnd_np (by lia) (by lia)];have e1:(Builtin.bitNot ((j:Int) - (e:Int))).toNat=e - j - 1:=by
  unfold Builtin.bitNot;lia
 rw[e1,xec];have:=@Nat.and_le_left e (e - j - 1);unfold nxt;lia
noncomputable def subL (e:Nat) (lo hi:Int) (n:Nat):List Nat:=(List.range n).filter fun x=>decide (e &&& x=x/\lo<=x/\(x:Int)<=hi)
theorem zjj (e:Nat)(lo hi:Int)(n:Nat):subL e lo hi (n+1)=subL e lo hi n++(if e &&& n=n/\lo<=n/\(n:Int)<=hi then[n] else[]):=by
 unfold subL;rw[xib,xfb]
 congr 1
 by_cases c:e &&& n=n/\lo<=n/\(n:Int)<=hi
 ·rw[if_pos c];exact xco (p:=fun x:Nat=>decide (e &&& x=x/\lo<=x/\(x:Int)<=hi)) (xcj c)
 ·rw[if_neg c];exact xcu (p:=fun x:Nat=>decide (e &&& x=x/\lo<=x/\(x:Int)<=hi)) (by rw[xcb c];decide)
theorem zjk {e:Nat}{lo hi:Int}{n:Nat}:∀(k:Nat),(∀x,n<=x->x < n+k->¬ (e &&& x=x/\lo<=x/\(x:Int)<=hi))->subL e lo hi (n+k)=subL e lo hi n
 | 0,_=>rfl
 | k+1,h=>by
  rw[← Nat.add_assoc,zjj,if_neg (h _ (by lia) (by lia)),xdd];exact zjk k fun x h1 h2=>h x h1 (by lia)
theorem zmd (e:Nat)(lo hi:Int)(n:Nat):(subL e lo hi n).length<=n:=by
 have:=xfo (fun x=>decide (e &&& x=x/\lo<=x/\(x:Int)<=hi)) (List.range n);rw[xej] at this;exact this
noncomputable def sharesL (e:Nat) (lo hi:Int):List Nat:=subL e lo hi (e+1)
theorem zee {e j:Nat}{lo hi:Int}:j∈sharesL e lo hi↔(In e j/\lo<=j/\(j:Int)<=hi):=by
 unfold sharesL subL;rw[xeo,xcd,xmj];exact⟨fun h=>h.2,fun h=>⟨xmc h.1.le,h⟩⟩
theorem zvy {e j:Nat}{lo hi:Int}(hj:In e j)(lt:j < e)(hh:(j:Int)<=hi):subL e lo hi (nxt e j)=subL e lo hi j++(if lo<=j then[j] else[]):=by
 have g:=zbhk lt;obtain⟨k,hk⟩:∃k,nxt e j=(j+1)+k:=⟨nxt e j - (j+1),(xck g).symm⟩
 rw[hk,zjk k fun x h1 h2 c=>?_,zjj]
 ·congr 1
  by_cases c:lo<=j
  ·rw[if_pos ⟨hj,c,hh⟩,if_pos c]
  ·rw[if_neg fun z=>c z.2.1,if_neg c]
 ·have:=zwx hj c.1 (by lia);lia
theorem zml {e j:Nat}{lo hi:Int}(hj:In e j)(hh:hi < j):sharesL e lo hi=subL e lo hi j:=by
 have:=hj.le;obtain⟨k,hk⟩:∃k,e+1=j+k:=⟨e+1 - j,(xck (xfz this)).symm⟩
 unfold sharesL;rw[hk];exact zjk k fun x h1 h2 c=>by lia
theorem zqd {e:Nat}{lo hi:Int}(hh:(e:Int)<=hi):sharesL e lo hi=subL e lo hi e++(if lo<=e then[e] else[]):=by
 unfold sharesL;rw[zjj]
 congr 1
 by_cases c:lo<=e
 ·rw[if_pos ⟨zbif e,c,hh⟩,if_pos c]
 ·rw[if_neg fun z=>c z.2.1,if_neg c]
end K13
namespace Dd
open PySem L2 K13
theorem zgz {c:ST}{body:SS}{Q:Fl->Store->Prop}(I:Nat->DS->Store->Prop){k:Nat}{σ:DS}{st:Store}(h0:I k σ st)(hm:k < 1000000)
  (s:∀j σ st,I j σ st->WP (c σ st) (fun b st1=>if b=true then WP (body σ st1) (loopK (fun σ2 st2=>∃i,i < j/\I i σ2 st2) Q) else Q (.nx σ) st1)):WP (sWhile c body σ st) Q:=by
 have main:∀n j σ st,I j σ st->j < n->WP (whileF c body n σ st) Q:=by
  intro n
  induction n with
  | zero=>intro j σ st _ h;lia
  | succ n ih =>
   intro j σ st hI hlt;obtain⟨b,st1,e1,w⟩:=(s j σ st hI).get;unfold whileF;rw[e1];dsimp only[zcy];cases b with
   | false=>exact w
   | true =>
    rw[if_pos rfl] at w ⊢;obtain⟨fl,st2,e2,w⟩:=w.get;rw[e2];cases fl with
    | nx σ2=>obtain⟨i,hi,h⟩:=w;exact ih i σ2 st2 h (by lia)
    | ct σ2=>obtain⟨i,hi,h⟩:=w;exact ih i σ2 st2 h (by lia)
    | brk σ2=>exact w
    | ret v=>exact w
 exact main wCap k σ st h0 hm
noncomputable def dN (j:Nat):D:=.int (j:Int)
section
variable {st:Store}{n:Nat}{Q:D->Store->Prop}
theorem zwd {e:Nat}{lo hi:Int}(he:e<=100000)(k:∀g,Q (.lst ((sharesL e lo hi).map dN)) (st++g)):WP (zkn [.int e,.int lo,.int hi] st) Q:=by
 refine zdm rfl ?_;simp only[W,V];refine⟨small _ (by simp),?_⟩;have fin:∀(xs:List Nat) (v:Option D),xs=sharesL e lo hi->WP (sRet (eFz (aA 3)) [some (.int e),some (.int lo),some (.int hi),some (.ref st.length),v] (st++[.lst (xs.map dN)])) (retK Q):=fun xs v h=>by
  subst h;simp only[W,V,M];refine⟨_,_,rfl,by simp;rfl,?_⟩;have:=k [.dead]
  simpa using this
 refine zgz (fun m σ s=>∃j:Nat,m=e - j/\σ=[some (.int e),some (.int lo),some (.int hi),some (.ref st.length),some (.int j)]/\In e j/\s=st++[.lst ((subL e lo hi j).map dN)]) (k:=e) ⟨0,rfl,rfl,zzi e,rfl⟩ (by lia) ?_;rintro m σ s ⟨j,rfl,rfl,hj,rfl⟩;simp only[W,V,Dd.N];have hle:=hj.le;split
 ·rename_i hh;unfold zjf;refine zrf (R:=fun fl s=>fl=.nx [some (.int e),some (.int lo),some (.int hi),some (.ref st.length),some (.int j)]/\s=st++[.lst ((subL e lo hi j++(if lo<=j then[j] else[])).map dN)]) ?_ ?_
  ·simp only[W,V,M,Dd.N];split
   ·rename_i c;have hlen:=zmd e lo hi j;refine⟨_,_,rfl,by simp;rfl,_,_,rfl,by simp;rfl,by rw[xbb];exact smallT _ (by lia),?_⟩;simp[dN,c]
   ·rename_i c;simp[c]
  ·rintro fl s ⟨rfl,rfl⟩;simp only[W,V,L];split
   ·rename_i c;have c':j=e:=by lia
    subst c';have:=fin (subL j lo hi j++(if lo<=j then[j] else[])) (some (.int j)) (zqd hh).symm;simp only[W,V] at this;exact this
   ·rename_i c;have lt:j < e:=by lia
    have g:=zbhk lt;have g2:=zbmo e j;refine⟨trivial,trivial,e - nxt e j,by lia,nxt e j,rfl,?_,zbmp e j,?_⟩
    ·rw[zbhj lt]
    ·rw[zvy hj lt hh]
 ·rename_i hh;have:=fin (subL e lo hi j) (some (.int j)) (zml hj (by lia)).symm;simp only[W,V] at this;exact this
end
noncomputable abbrev Pt:=List Int×Int
noncomputable def ptD (p:Pt):D:=.tup [aL p.1,.int p.2]
noncomputable def letJ (e:Nat) (rest:Int) (p:Pt):List Pt:=(sharesL e (p.2 - rest) p.2).map fun j:Nat=>(p.1++[(e:Int)+(j:Int)],p.2 - (j:Int))
noncomputable def letL (e:Nat) (rest:Int) (ps:List Pt):List Pt:=ps.flatMap (letJ e rest)
theorem zbck (e:Nat)(rest:Int)(p:Pt):(letJ e rest p).length<=e+1:=by
 unfold letJ;rw[xbb];exact zmd _ _ _ _
theorem znb (e:Nat)(rest:Int):∀ps:List Pt,(letL e rest ps).length<=ps.length * (e+1)
 | []=>by simp[letL]
 | p::ps=>by
  have e1:letL e rest (p::ps)=letJ e rest p++letL e rest ps:=by simp[letL]
  have:=znb e rest ps;have:=zbck e rest p;rw[e1,xbj,xby,xms];lia
theorem zxe (e:Nat)(rest:Int)(ps:List Pt)(p:Pt):letL e rest (ps++[p])=letL e rest ps++letJ e rest p:=by simp[letL]
theorem zbcg {e:Nat}{rest:Int}{ps:List Pt}{q:Pt}:q∈letL e rest ps↔∃p∈ps,∃j:Nat,j∈sharesL e (p.2 - rest) p.2/\q=(p.1++[(e:Int)+(j:Int)],p.2 - (j:Int)):=by
 unfold letL letJ;simp only[xfd,xbr];constructor
 ·rintro⟨p,hp,j,hj,rfl⟩;exact⟨p,hp,j,hj,rfl⟩
 ·rintro⟨p,hp,j,hj,rfl⟩;exact⟨p,hp,j,hj,rfl⟩
section
variable {st:Store}{n:Nat}{Q:D->Store->Prop}
theorem zsc (o o':O)(g:Store):(st++o::g).set st.length o'=st++o'::g:=by simp
theorem zlp (o:O)(g:Store):(st++o::g)[st.length]?=some o:=by simp
theorem zhl {α:Type}{f:α->D}{l:List α}{i:Nat}{x:D}(h:(l.map f)[i]?=some x):∃a,l[i]?=some a/\x=f a:=by
 rw[xcn] at h;obtain⟨a,h1,h2⟩:=xdg.mp h;exact⟨a,h1,h2.symm⟩
theorem zho {e:Nat}{rest:Int}{ps:List Pt}(he:e<=1000)(hl:ps.length * (e+1)<=100000)(hr:∀p∈ps,p.1.length<=1000)(k:∀g,Q (.lst ((letL e rest ps).map ptD)) (st++g)):WP (zbs [.lst (ps.map ptD),.int e,.int rest] st) Q:=by
 refine zdm rfl ?_;simp only[W,V,Dd.N];refine⟨small _ (by simp),?_⟩;refine zdr (fun i σ s=>(∃v w z,σ=[some (.lst (ps.map ptD)),some (.int e),some (.int rest),some (.ref st.length),v,w,z])/\∃g,s=st++(.lst ((letL e rest (ps.take i)).map ptD)::g)) ⟨⟨_,_,_,rfl⟩,[],rfl⟩ ?_ ?_
 ·rintro i y σ s hy ⟨⟨v,w,z,rfl⟩,g,rfl⟩;obtain⟨p,hp,rfl⟩:=zhl hy;have hi:i < ps.length:=(xbh.mp hp).1;refine⟨_,rfl,?_⟩;unfold zcz;simp only[W,V,Dd.N];have hlen:(letL e rest (ps.take i)).length+(e+1)<=100000:=by
   have h1:=znb e rest (ps.take i);have h2:(ps.take i).length=i:=by rw[xdc];lia
   rw[h2] at h1;have h3:(i+1) * (e+1)<=ps.length * (e+1):=xjf _ hi;rw[xms] at h3;lia
  refine zwd (by lia) fun g2=>?_
  simp only[W,V,Dd.N];rw[xcg,xjg];generalize g++g2=g3;have hsl:(sharesL e (p.2 - rest) p.2).length<=e+1:=zmd _ _ _ _;refine zdr (fun j σ s=>(∃z,σ=[some (.lst (ps.map ptD)),some (.int e),some (.int rest),some (.ref st.length),some (aL p.1),some (.int p.2),z])/\s=st++(.lst ((letL e rest (ps.take i)++((sharesL e (p.2 - rest) p.2).take j).map fun j:Nat=>(p.1++[(e:Int)+j],p.2 - (j:Int))).map ptD)::g3)) ⟨⟨_,rfl⟩,by simp⟩ ?_ ?_
  ·rintro j y σ s hy ⟨⟨z,rfl⟩,rfl⟩;obtain⟨a,ha,rfl⟩:=zhl hy;refine⟨_,rfl,?_⟩;unfold zda dN;simp only[W,V,M,Dd.N,L];have h2:((sharesL e (p.2 - rest) p.2).take j).length<=(sharesL e (p.2 - rest) p.2).length:=by rw[xdc];exact xgc _ _
   have h3:=hr p (xca hp);refine⟨_,_,rfl,zlp _ _,small _ (by simp),by rw[xbb];exact small _ (by simp;lia),small _ (by simp),_,_,rfl,zlp _ _,by rw[xbb,xbj,xbb];exact smallT _ (by lia),⟨_,rfl⟩,?_⟩;rw[zsc,zm ha];simp[ptD,aL]
  ·rintro σ s ⟨⟨z,rfl⟩,rfl⟩;simp only[L];refine⟨⟨_,_,_,rfl⟩,g3,?_⟩;rw[xbb,xcp,zm hp,zxe]
   rfl
 ·rintro σ s ⟨⟨v,w,z,rfl⟩,g,rfl⟩;rw[xbb,xcp];simp only[W,V,M,Dd.N];refine⟨_,_,rfl,zlp _ _,?_⟩;rw[zsc];exact k _
noncomputable def stepP (s:Int×List Pt) (e:Int):Int×List Pt:=(s.1 - e,letL e.toNat (s.1 - e) s.2)
noncomputable def prodS (r:List Int) (k:Int) (m:List Int):Int×List Pt:=m.foldl stepP (r.sum,[([],k)])
noncomputable def prodP (r:List Int) (k:Int):List (List Int):=(prodS r k r).2.map (·.1)
noncomputable def box:List Int->Nat
 | []=>1
 | e::r=>(e.toNat+1) * box r
theorem zff:∀a b:List Int,box (a++b)=box a * box b
 | [],b=>by simp[box]
 | e::a,b=>by rw[xjg,box,box,zff a b,Nat.mul_assoc]
theorem zbaf:∀a:List Int,1<=box a
 | []=>xbf _
 | e::a=>by have:=zbaf a;unfold box;exact xbc this (xkk _ (by lia))
theorem zbec (r:List Int)(i:Nat):box (r.take i)<=box r:=by
 have e:=zff (r.take i) (r.drop i);rw[xdn] at e;rw[e];exact Nat.le_mul_of_pos_right _ (zbaf _)
theorem zkz (r:List Int)(k:Int)(m:List Int)(e:Int):prodS r k (m++[e])=stepP (prodS r k m) e:=by unfold prodS;rw[xhm];rfl
theorem zom {r:List Int}{k:Int}{P:List Int->Int×List Pt->Prop}(h0:P [] (r.sum,[([],k)]))(h:∀m e s,P m s->P (m++[e]) (stepP s e)):∀(i:Nat),P (r.take i) (prodS r k (r.take i)):=fun i=>by
 induction i with
 | zero=>exact h0
 | succ i ih =>
  by_cases c:i < r.length
  ·have g:r[i]?=some r[i]:=xbd c;rw[zm g,zkz];exact h _ _ _ ih
  ·rw[xdq (by lia)] at ih ⊢;exact ih
theorem zjn (r:List Int)(k:Int)(i:Nat):(prodS r k (r.take i)).2.length<=box (r.take i):=by
 refine zom (P:=fun m s=>s.2.length<=box m) (by simp[box]) (fun m e s hs=>?_) i;have:=znb e.toNat (s.1 - e) s.2;rw[zff];show(letL e.toNat (s.1 - e) s.2).length<=box m * ((e.toNat+1) * 1)
 rw[Nat.mul_one];exact xbc this (xjf _ hs)
theorem zwl (r:List Int)(k:Int)(i:Nat):∀p∈(prodS r k (r.take i)).2,p.1.length=(r.take i).length:=by
 refine zom (P:=fun m s=>∀p∈s.2,p.1.length=m.length) (by simp) (fun m e s hs=>?_) i;intro q hq;obtain⟨p,hp,j,hj,rfl⟩:=zbcg.mp hq;rw[xbj,xbj,hs p hp]
 rfl
theorem zgn {r:List Int}{t:Int}(hp:∀x∈r,0<=x/\x<=1000)(hl:r.length<=1000)(hb:box r<=20000)(k:∀g,Q (.lst (aJ (prodP r t))) (st++g)):WP (zbm [aL r,.int t] st) Q:=by
 refine zdm rfl ?_;simp only[W,V,M,Dd.N];refine⟨small _ (by simp),small _ (by simp),small _ (by simp),r,zcm r,?_⟩;refine zdr (fun i σ s=>(∃v,σ=[some (aL r),some (.int t),some (.lst ((prodS r t (r.take i)).2.map ptD)),some (.int (prodS r t (r.take i)).1),v])/\∃g,s=st++g) ⟨⟨_,rfl⟩,[],by simp⟩ ?_ ?_
 ·rintro i y σ s hy ⟨⟨v,rfl⟩,g,rfl⟩;obtain⟨e,he,rfl⟩:=zhl hy;refine⟨_,rfl,?_⟩;unfold zcs;obtain⟨h1,h2⟩:=hp e (xca he);simp only[W,V,M,Dd.N,L];refine⟨_,rfl,?_⟩;have hlen:=zjn r t i;have hbx:=zbec r (i+1);rw[zm he,zff,show box [e]=e.toNat+1 by simp[box]] at hbx;have hm:(prodS r t (r.take i)).2.length * (e.toNat+1)<=20000:=xbc (xjf _ hlen) (xbc hbx hb);have hrow:=zwl r t i;rw[zm he,zkz];generalize prodS r t (r.take i)=s at hm hrow ⊢;obtain⟨a,rfl⟩:=xeb h1;refine zho (e:=a) (by lia) (by rw[xec] at hm;lia) (fun p hp=>?_) fun g2=>?_
  ·rw[hrow p hp,xdc];lia
  ·simp only[W,V,L];exact⟨⟨_,rfl⟩,g++g2,by simp⟩
 ·rintro σ s ⟨⟨v,rfl⟩,g,rfl⟩;rw[xbb,xcp];simp only[W,V,M,Dd.N];have hlen:=zjn r t r.length;rw[xcp] at hlen;refine⟨by rw[xbb];exact small _ (by lia),?_⟩;refine zpx (as:=(prodS r t r).2) (fun σ=>∃v w,σ=[v,w]) (fun _=>true) (fun p=>aL p.1) ptD ⟨_,_,rfl⟩ ?_ ?_
  ·rintro p hp σ ⟨v,w,rfl⟩;exact⟨_,rfl,⟨_,_,rfl⟩,by simp only[W,xio],fun _=>by simp only[W,V,xio]⟩
  ·rw[zfb];have:=k g;unfold prodP aJ at this;rw[xcy] at this;exact this
theorem zon (r:List Int)(k:Int):(prodP r k).length<=box r:=by
 have:=zjn r k r.length;rw[xcp] at this;unfold prodP;rw[xbb];exact this
noncomputable def raiseR (k:Int) (r:List Int):List (List Int):=if k<=r.sum then prodP r k else[]
noncomputable def raiseL (k:Int) (l:List (List Int)):List (List Int):=l.flatMap (raiseR k)
theorem zsk {k:Int}{r:List Int}{B:Nat}(h:box r<=B):(raiseR k r).length<=B:=by
 unfold raiseR;split
 ·exact xbc (zon r k) h
 ·simp
theorem zhh {k:Int}{B:Nat}:∀{l:List (List Int)},(∀r∈l,box r<=B)->(raiseL k l).length<=l.length * B
 | [],_=>by simp[raiseL]
 | r::l,h=>by
  have e:raiseL k (r::l)=raiseR k r++raiseL k l:=by simp[raiseL]
  have h1:=zsk (k:=k) (h r xbn);have h2:=zhh (k:=k) (l:=l) fun x hx=>h x (xbk _ hx)
  rw[e,xbj,xby,xms];lia
theorem zqe (k:Int)(l:List (List Int))(r:List Int):raiseL k (l++[r])=raiseL k l++raiseR k r:=by simp[raiseL]
theorem zwj {l:List (List Int)}{t:Int}(ht:0<=t)(hp:∀r∈l,∀x∈r,0<=x/\x<=1000)(hr:∀r∈l,r.length<=1000)(hb:∀r∈l,box r<=20000)(hl:l.length<=45)(k:∀g,Q (aK (aO (raiseL t l))) (st++g)):WP (zko [aK l,.int t] st) Q:=by
 refine zdm rfl ?_;simp only[W,V,Dd.N];refine WP.of (zeg (st:=st) (i:=t)) ⟨true,rfl,?_⟩;have tn:¬ t < 0:=by lia
 simp only[W,V,Dd.N,tn,xfs];have total:(raiseL t l).length<=900000:=by
  have:=zhh (k:=t) hb;lia
 refine zdr (fun i σ s=>(∃v w,σ=[some (aK l),some (.int t),some (.ref st.length),v,w])/\∃g,s=st++(.dT (aQ (aN (raiseL t (l.take i))))::g)) ⟨⟨_,_,rfl⟩,[],rfl⟩ ?_ ?_
 ·rintro i y σ s hy ⟨⟨v,w,rfl⟩,g,rfl⟩;obtain⟨r,hrr,rfl⟩:=zbz hy;have hm:=xca hrr;have hi:i < l.length:=(xbh.mp hrr).1;refine⟨_,rfl,?_⟩;unfold zjg;simp only[W,V,M,Dd.N,L];refine⟨r,zcm r,?_⟩;rw[zm hrr,zqe];have hlen:(aN (raiseL t (l.take i))).length<=900000:=by
   have h1:=zcd (raiseL t (l.take i));have h2:=zhh (k:=t) (l:=l.take i) (B:=20000) fun x hx=>hb x (xgl hx)
   have h3:(l.take i).length=i:=by rw[xdc];lia
   rw[h3] at h2;lia
  split
  ·rename_i c;have er:raiseR t r=prodP r t:=by unfold raiseR;rw[if_pos c]
   rw[er];refine zgn (hp r hm) (hr r hm) (hb r hm) fun g2=>?_
   simp only[W,V,Dd.N];rw[xcg,xjg];generalize g++g2=g3;have hpl:=xbc (zon r t) (hb r hm);refine zdr (fun j σ s=>(∃w,σ=[some (aK l),some (.int t),some (.ref st.length),some (aL r),w])/\s=st++(.dT (aQ (((prodP r t).take j).foldl aP (aN (raiseL t (l.take i)))))::g3)) ⟨⟨_,rfl⟩,rfl⟩ ?_ ?_
   ·rintro j y σ s hy ⟨⟨w,rfl⟩,rfl⟩;obtain⟨b,hb',rfl⟩:=zbz hy;refine⟨_,rfl,?_⟩;unfold zjh;simp only[W,V,L];have h1:=zkc ((prodP r t).take j) (aN (raiseL t (l.take i))) (zey _);have h2:((prodP r t).take j).length<=(prodP r t).length:=by rw[xdc];exact xgc _ _
    refine zzp (ks:=((prodP r t).take j).foldl aP (aN (raiseL t (l.take i)))) (zlp _ _) (by lia) ⟨⟨_,rfl⟩,?_⟩;rw[zsc,zm hb',xhm]
    rfl
   ·rintro σ s ⟨⟨w,rfl⟩,rfl⟩;simp only[L];refine⟨⟨_,_,rfl⟩,g3,?_⟩;rw[zn,xcp];unfold aN;rw[xhm]
  ·rename_i c;have er:raiseR t r=[]:=by unfold raiseR;rw[if_neg c]
   rw[er,xdd]
   try simp only[L]
   exact⟨⟨_,_,rfl⟩,g,rfl⟩
 ·rintro σ s ⟨⟨v,w,rfl⟩,g,rfl⟩;rw[zn,xcp];simp only[W,V];have h1:=zcd (raiseL t l);refine zoh (ks:=aN (raiseL t l)) (zlp _ _) (by lia) ?_;simp only[W,V];exact k _
end
theorem zti:∀{r:List Int},(∀x∈r,0<=x)->0<=r.sum
 | [],_=>by simp
 | x::r,h=>by
  have:=zti (r:=r) fun y hy=>h y (xbk _ hy)
  have:=h x xbn;rw[xhy];lia
theorem zbkm:∀{r:List Int},(∀x∈r,0<=x)->∀x∈r,x<=r.sum
 | [],_,_,h=>nomatch h
 | y::r,h,x,hx=>by
  have h1:=fun z hz=>h z (xbk y hz)
  have h2:=zti h1;have h3:=h y xbn;rw[xhy];rcases xbp.mp hx with rfl | hx
  ·lia
  ·have:=zbkm h1 x hx;lia
theorem zwa (e:Int)(suf:List Int)(ps:List Pt):(e::suf).foldl stepP ((e::suf).sum,ps)=suf.foldl stepP (suf.sum,letL e.toNat suf.sum ps):=by
 rw[xhg,xhy];unfold stepP;dsimp only;rw[show e+suf.sum - e=suf.sum by lia]
theorem zbae:∀{r:List Int},(∀x∈r,x<=24)->box r<=25 ^ r.length
 | [],_=>xbf _
 | e::r,h=>by
  have h1:=h e xbn;have h2:=zbae (r:=r) fun x hx=>h x (xbk _ hx)
  rw[xby,xiy,Nat.mul_comm];exact Nat.mul_le_mul (by lia) h2
theorem zbad:∀{r:List Int},(∀x∈r,0<=x)->box r<=2 ^ r.sum.toNat
 | [],_=>by simp[box]
 | e::r,h=>by
  have h1:=h e xbn;have h1':=fun x hx=>h x (xbk e hx)
  have h2:=zbad h1';have h3:=zti h1';rw[xhy,show(e+r.sum).toNat=e.toNat+r.sum.toNat by lia,Nat.pow_add];exact Nat.mul_le_mul (Nat.succ_le_of_lt Nat.lt_two_pow_self) h2
section
variable {st:Store}{n:Nat}{Q:D->Store->Prop}
theorem zbar {m:Int}(hb:BagAt st n)(h1:1<=m)(h2:m < 2 ^ 1000)(k:∀r st',0<=r->r < m->Drew st st' n->Q (.int r) st'):WP (zi [.ref n,.int m] st) Q:=by
 obtain⟨r,st',e,a1,a2,a3,_⟩:=zyl hb h1 h2;exact WP.of e (k r st' a1 a2 a3)
end
end Dd
namespace K13
end K13
namespace Dd
open PySem L2 K13
theorem znz {f:SE}{g:SA}{σ:DS}{st:Store}{Q:D->Store->Prop}:WP (eExtend f g σ st) Q=WP (f σ st) (fun x st1=>∃n xs0,x=.ref n/\st1[n]?=some (.lst xs0)/\WP (g σ st1) (fun ys st2=>∃y xs zs,ys=[y]/\st2[n]?=some (.lst xs)/\asL st2 y=some zs/\xs.length+zs.length<=sizeLine/\Q .non (st2.set n (.lst (xs++zs))))):=by
 rw[zxs,zf]
 congr
 funext x st1
 apply propext;constructor
 ·intro q;split at q
  ·rename_i n xs0 e;rw[zf] at q;have e':st1[n]?=some (.lst xs0):=by
    unfold asL at e;dsimp only at e;split at e
    ·cases e;assumption
    ·cases e
   refine⟨n,xs0,rfl,e',q.mono fun ys st2 h=>?_⟩;split at h
   ·split at h
    ·split at h
     ·exact⟨_,_,_,rfl,by assumption,by assumption,by assumption,h⟩
     ·exact h.elim
    ·exact h.elim
   ·exact h.elim
  ·exact q.elim
 ·rintro⟨n,xs0,rfl,e,q⟩;rw[zjd e];dsimp only;rw[zf];refine q.mono fun ys st2 h=>?_
  obtain⟨y,xs,zs,rfl,e2,e3,hl,h⟩:=h;rw[e2];dsimp only;rw[e3];dsimp only;rw[if_pos hl];exact h
section
variable {st:Store}{n:Nat}{Q:D->Store->Prop}
noncomputable def lawJ (e:Nat) (p:Pt):List Pt:=(sharesL e 0 p.2).map fun j:Nat=>(p.1++[(e:Int)+(j:Int)],p.2 - (j:Int))
noncomputable def lawL (e:Nat) (ps:List Pt):List Pt:=ps.flatMap (lawJ e)
theorem zbch {e:Nat}{ps:List Pt}{q:Pt}:q∈lawL e ps↔∃p∈ps,∃j:Nat,j∈sharesL e 0 p.2/\q=(p.1++[(e:Int)+(j:Int)],p.2 - (j:Int)):=by
 unfold lawL lawJ;simp only[xfd,xbr];constructor
 ·rintro⟨p,hp,j,hj,rfl⟩;exact⟨p,hp,j,hj,rfl⟩
 ·rintro⟨p,hp,j,hj,rfl⟩;exact⟨p,hp,j,hj,rfl⟩
end
noncomputable def lawStep (ps:List Pt) (e:Int):List Pt:=lawL e.toNat ps
noncomputable def lawS (k:Int) (m:List Int):List Pt:=m.foldl lawStep [([],k)]
noncomputable def lawP (k:Int) (r:List Int):List (List Int):=((lawS k r).filter fun p=>decide (p.2=0)).map (·.1)
theorem zsb {e:Nat}{left S:Int}(h:0<=left):(sharesL e 0 left).filter (fun j:Nat=>decide (left - (j:Int)<=S))=sharesL e (left - S) left:=by
 unfold sharesL subL;rw[xlq];refine xir fun x _=>?_
 rw[← xmy];exact xhs.mpr ⟨fun h=>⟨h.2.1,by lia,h.2.2.2⟩,fun h=>⟨by lia,h.1,by lia,h.2.2⟩⟩
theorem zxf {e:Nat}{S:Int}{p:Pt}(h:¬ p.2<=e+S):letJ e S p=[]:=by
 unfold letJ;have:sharesL e (p.2 - S) p.2=[]:=by
  refine xle.mpr fun j hj=>?_
  obtain⟨h1,h2,h3⟩:=zee.mp hj;have:=h1.le;lia
 rw[this]
 rfl
theorem zbcn {e:Nat}{S:Int}{p:Pt}(h:0<=p.2):(lawJ e p).filter (fun q=>decide (q.2<=S))=letJ e S p:=by
 unfold lawJ letJ;rw[xlc,← zsb h]
 rfl
theorem ztr {e:Nat}{S:Int}:∀{ps:List Pt},(∀p∈ps,0<=p.2)->(lawL e ps).filter (fun q=>decide (q.2<=S))=letL e S (ps.filter fun p=>decide (p.2<=e+S))
 | [],_=>rfl
 | p::ps,h=>by
  have ih:=ztr (e:=e) (S:=S) (ps:=ps) fun q hq=>h q (xbk _ hq)
  have e1:lawL e (p::ps)=lawJ e p++lawL e ps:=by simp[lawL]
  rw[e1,xfb,ih,zbcn (h p xbn)];by_cases c:p.2<=e+S
  ·rw[xco (by simpa using c)];simp[letL]
  ·rw[xcu (by simpa using c),zxf c]
   rfl
theorem zpn:∀(suf:List Int) (ps:List Pt),(∀x∈suf,0<=x)->(∀p∈ps,0<=p.2)->(suf.foldl lawStep ps).filter (fun p=>decide (p.2=0))=(suf.foldl stepP (suf.sum,ps.filter fun p=>decide (p.2<=suf.sum))).2
 | [],ps,_,h=>by
  show ps.filter _=ps.filter _;refine xir fun p hp=>?_
  have:=h p hp;exact xhs.mpr ⟨fun z=>by simp;lia,fun z=>by simp at z;lia⟩
 | e::suf,ps,hs,h=>by
  have h1:=fun z hz=>hs z (xbk e hz)
  have h3:=hs e xbn;rw[zwa,xhg,zpn suf (lawStep ps e) h1 (fun q hq=>?_)]
  ·unfold lawStep;rw[ztr h,xhy,show((e.toNat:Nat):Int)=e by lia]
  ·obtain⟨p,hp,j,hj,rfl⟩:=zbch.mp hq;obtain⟨j1,j2,j3⟩:=zee.mp hj;dsimp only;lia
theorem zog:∀(suf:List Int) (t:Int),(suf.foldl stepP (t,[])).2=[]
 | [],_=>rfl
 | e::suf,t=>by
  rw[xhg];exact zog suf (t - e)
theorem zbhx {r:List Int}{k:Int}(h:∀x∈r,0<=x)(hk:0<=k):lawP k r=raiseR k r:=by
 unfold lawP lawS;rw[zpn r [([],k)] h (fun p hp=>by rw[xbq.mp hp];exact hk)];unfold raiseR;by_cases c:k<=r.sum
 ·rw[if_pos c,xco (by simpa using c)]
  rfl
 ·rw[if_neg c,xcu (by simpa using c)];show(r.foldl stepP (r.sum,[])).2.map _=[]
  rw[zog]
  rfl
theorem zxh (k:Int)(m:List Int)(e:Int):lawS k (m++[e])=lawStep (lawS k m) e:=by unfold lawS;rw[xhm];rfl
section
variable {st:Store}{n:Nat}{Q:D->Store->Prop}
end
end Dd
namespace K08
end K08
namespace Dd
open PySem L2 K13
noncomputable def outL (e:Nat):List Int:=(sharesL e 0 e).map fun j:Nat=>(e:Int)+(j:Int)
noncomputable def longL (rows:List (List Int)) (xs:List Int):List (List Int):=rows.flatMap fun row=>xs.map fun x=>row++[x]
noncomputable def wholeStep (rows:List (List Int)) (e:Int):List (List Int):=longL rows (outL e.toNat)
noncomputable def wholeS (m:List Int):List (List Int):=m.foldl wholeStep [[]]
theorem zed (m:List Int)(e:Int):wholeS (m++[e])=wholeStep (wholeS m) e:=by unfold wholeS;rw[xhm];rfl
theorem zqc {e:Nat}{left:Int}:(sharesL e 0 e).filter (fun j:Nat=>decide ((j:Int)<=left))=sharesL e 0 left:=by
 unfold sharesL subL;rw[xlq];refine xir fun x hx=>?_
 have:=xcd.mp hx;rw[← xmy];exact xhs.mpr ⟨fun h=>⟨h.2.1,h.2.2.1,h.1⟩,fun h=>⟨h.2.2,h.1,h.2.1,by lia⟩⟩
noncomputable def fitP (k M:Int) (rows:List (List Int)):List Pt:=(rows.filter fun row=>decide (row.sum - M<=k)).map fun row=>(row,k - (row.sum - M))
theorem zua {k M:Int}{e:Nat}:∀rows:List (List Int),fitP k (M+e) (longL rows (outL e))=lawL e (fitP k M rows)
 | []=>rfl
 | row::rows=>by
  have ih:=zua (k:=k) (M:=M) (e:=e) rows;have e1:longL (row::rows) (outL e)=((outL e).map fun x=>row++[x])++longL rows (outL e):=by simp[longL]
  have e2:fitP k (M+e) (longL (row::rows) (outL e))=fitP k (M+e) ((outL e).map fun x=>row++[x])++fitP k (M+e) (longL rows (outL e)):=by
   rw[e1];unfold fitP;rw[xfb,xds]
  have e3:fitP k (M+e) ((outL e).map fun x=>row++[x])=(sharesL e 0 (k - (row.sum - M))).map fun j:Nat=>(row++[(e:Int)+(j:Int)],k - (row.sum - M) - (j:Int)):=by
   unfold fitP outL;rw[xcy,xlc,xcy,show sharesL e 0 (k - (row.sum - M))=_ from zqc.symm];have e4:∀j:Nat,(row++[(e:Int)+(j:Int)]).sum - (M+e)=row.sum - M+j:=fun j=>by rw[xee];simp;lia
   have e5:(sharesL e 0 e).filter ((fun r:List Int=>decide (r.sum - (M+e)<=k)) ∘ ((fun x=>row++[x]) ∘ fun j:Nat=>(e:Int)+(j:Int)))=(sharesL e 0 e).filter fun j:Nat=>decide ((j:Int)<=k - (row.sum - M)) :=
    xir fun j _=>by
     show decide ((row++[(e:Int)+(j:Int)]).sum - (M+e)<=k)=_;rw[e4];exact xhs.mpr ⟨fun h=>by lia,fun h=>by lia⟩
   rw[e5];refine xjj fun j _=>?_
   show(row++[(e:Int)+(j:Int)],k - ((row++[(e:Int)+(j:Int)]).sum - (M+e)))=_;rw[e4]
   congr 1
   lia
  rw[e2,ih,e3];by_cases c:row.sum - M<=k
  ·have e6:fitP k M (row::rows)=(row,k - (row.sum - M))::fitP k M rows:=by
    unfold fitP;rw[xco (by simpa using c)]
    rfl
   rw[e6];simp[lawL,lawJ]
  ·have e6:fitP k M (row::rows)=fitP k M rows:=by
    unfold fitP;rw[xcu (by simpa using c)]
   have e7:sharesL e 0 (k - (row.sum - M))=[]:=xle.mpr fun j hj=>by
    obtain⟨_,h2,h3⟩:=zee.mp hj;lia
   rw[e6,e7]
   rfl
theorem zbcm {r:List Int}{k:Int}(h:∀x∈r,0<=x)(hk:0<=k):∀i:Nat,lawS k (r.take i)=fitP k (r.take i).sum (wholeS (r.take i)):=fun i=>by
 induction i with
 | zero =>
  show[([],k)]=fitP k 0 [[]];unfold fitP;rw[xco (by simpa using hk)];simp
 | succ i ih =>
  by_cases c:i < r.length
  ·have g:r[i]?=some r[i]:=xbd c;have h0:=h r[i] (xcx c);rw[zm g,zxh,zed,ih];unfold lawStep wholeStep;rw[← zua,xee,show(r.take i).sum+[r[i]].sum=(r.take i).sum+(r[i].toNat:Int) by simp;lia]
  ·rw[xdq (by lia)] at ih ⊢;exact ih
theorem zew {r:List Int}{k:Int}(h:∀x∈r,0<=x)(hk:0<=k):raiseR k r=(wholeS r).filter fun m=>decide (m.sum=r.sum+k):=by
 have e:=zbcm h hk r.length;rw[xcp] at e;rw[← zbhx h hk];unfold lawP;rw[e];unfold fitP;rw[xlc,xcy,xlq];have:∀l:List (List Int),l.map ((fun p:Pt=>p.1) ∘ fun row=>(row,k - (row.sum - r.sum)))=l:=fun l=>by
  show l.map (fun row=>row)=l;exact xna l
 rw[this];refine xir fun m _=>?_
 show(decide (k - (m.sum - r.sum)=0)&&decide (m.sum - r.sum<=k))=_;rw[← xmy];exact xhs.mpr ⟨fun h=>by lia,fun h=>by lia⟩
theorem zrk {r:List Int}(h:∀x∈r,0<=x):∀(i:Nat),∀m∈wholeS (r.take i),(r.take i).sum<=m.sum/\m.sum<=2 * (r.take i).sum:=fun i=>by
 induction i with
 | zero=>intro m hm;rw[xbq.mp (show m∈[[]] from hm)];simp
 | succ i ih =>
  by_cases c:i < r.length
  ·have g:r[i]?=some r[i]:=xbd c;have h0:=h r[i] (xcx c);intro m hm;rw[zm g,zed] at hm;unfold wholeStep longL outL at hm;obtain⟨row,hrow,hm⟩:=xfd.mp hm;rw[xcy] at hm;obtain⟨j,hj,rfl⟩:=xbr.mp hm;obtain⟨j1,j2,j3⟩:=zee.mp hj;obtain⟨a,b⟩:=ih row hrow;rw[zm g];simp only[Function.comp,xee,xhy,List.sum_nil];lia
  ·rw[xdq (by lia)] at ih ⊢;exact ih
theorem zum (a:List (List Int))(x:List Int):(aO a).count x % 2=a.count x % 2:=by
 have nd:=zhk a;have mm:x∈aO a↔a.count x % 2=1:=by unfold aO;rw[(zcj _).mem_iff,zjx]
 by_cases c:x∈aO a
 ·have h1:(aO a).count x<=1:=List.nodup_iff_count.mp nd x;have h2:0 < (aO a).count x:=xjr.mpr c;have:=mm.mp c;lia
 ·have h1:(aO a).count x=0:=xgi.mpr c;have:¬ a.count x % 2=1:=fun z=>c (mm.mpr z)
  lia
theorem zvm {P:List Int->List (List Int)->Prop}(h0:P [] [[]])(h:∀m e s,P m s->P (m++[e]) (wholeStep s e))(r:List Int):∀(i:Nat),P (r.take i) (wholeS (r.take i)):=fun i=>by
 induction i with
 | zero=>exact h0
 | succ i ih =>
  by_cases c:i < r.length
  ·have g:r[i]?=some r[i]:=xbd c;rw[zm g,zed];exact h _ _ _ ih
  ·rw[xdq (by lia)] at ih ⊢;exact ih
theorem zrl (r:List Int)(i:Nat):∀m∈wholeS (r.take i),m.length=(r.take i).length:=by
 refine zvm (P:=fun m s=>∀x∈s,x.length=m.length) (by simp) (fun m e s hs=>?_) r i;intro x hx;unfold wholeStep longL at hx;obtain⟨row,h1,hx⟩:=xfd.mp hx;obtain⟨y,h2,rfl⟩:=xbr.mp hx;rw[xbj,xbj,hs row h1]
 rfl
section
variable {st:Store}{n:Nat}{Q:D->Store->Prop}
end
noncomputable abbrev Row:=List Int
noncomputable def tot {α:Type} (l:List α) (c:α->Nat):Nat:=(l.map c).sum
theorem zmc {α:Type}(a:α)(l:List α)(c:α->Nat):tot (a::l) c=c a+tot l c:=by simp[tot]
theorem zru {α:Type}(a b:List α)(c:α->Nat):tot (a++b) c=tot a c+tot b c:=by simp[tot]
theorem zbap {α:Type}{a b:List α}(h:a.Perm b)(c:α->Nat):tot a c=tot b c:=(h.map c).sum_nat
theorem zrt (c:Row->Nat):∀(n:Nat) (l:List Row),l.length<=n->(∀x,l.count x % 2=0)->tot l c % 2=0
 | _,[],_,_=>rfl
 | 0,_::_,h,_=>by simp at h
 | n+1,y::l,hn,h=>by
  have h1:=h y;rw[List.count_cons_self] at h1;have hy:y∈l:=xjr.mp (by lia);have p:=List.perm_cons_erase hy;have ih:=zrt c n (l.erase y) (by rw[List.length_erase_of_mem hy];simp at hn;lia) fun x=>by
   have h2:=h x;rw[xlb,p.count_eq,xlb] at h2;split at h2<;>lia
  rw[zmc,zbap p,zmc];lia
theorem zbfk {a b:List Row}(c:Row->Nat)(h:∀x,a.count x % 2=b.count x % 2):tot a c % 2=tot b c % 2:=by
 have:=zrt c _ (a++b) (xbf _) fun x=>by rw[xiq];have:=h x;lia
 rw[zru] at this;lia
theorem zin {r:Row}(h:∀x∈r,0<=x):∀m∈wholeS r,r.sum<=m.sum/\m.length=r.length:=fun m hm=>by
 have h1:=zrk h r.length m (by rw[xcp];exact hm);have h2:=zrl r r.length m (by rw[xcp];exact hm);rw[xcp] at h1 h2;exact⟨h1.1,h2⟩
noncomputable def xr {α:Type} (l:List α) (f:α->Nat):Nat:=l.foldr (fun x b=>f x ^^^ b) 0
section
variable {α β:Type}{f g:α->Nat}{l:List α}
theorem zby (x:α):xr (x::l) f=f x ^^^ xr l f:=rfl
theorem zgs:∀(l m:List α),xr (l++m) f=xr l f ^^^ xr m f
 | [],m=>(xhb _).symm
 | x::l,m=>by rw[xjg,zby,zby,zgs l m,xef]
theorem zbeu (h:β->α):∀l:List β,xr (l.map h) f=xr l fun x=>f (h x)
 | []=>rfl
 | x::l=>by rw[xbt,zby,zby,zbeu h l]
theorem zyj (h:β->List α):∀l:List β,xr (l.flatMap h) f=xr l fun x=>xr (h x) f
 | []=>rfl
 | x::l=>by rw[xmh,zgs,zby,zyj h l]
theorem zdq:∀{l:List α},(∀x∈l,f x=g x)->xr l f=xr l g
 | [],_=>rfl
 | x::l,h=>by rw[zby,zby,h x (xbn ..),zdq fun y hy=>h y (xbk _ hy)]
theorem zre:∀l:List α,xr l (fun _=>0)=0
 | []=>rfl
 | x::l=>by rw[zby,zre l];rfl
theorem xor4' (a b c d:Nat):(a ^^^ b) ^^^ (c ^^^ d)=(a ^^^ c) ^^^ (b ^^^ d):=by
 rw[xef,xef,← xef b,← xef c,Nat.xor_comm b c]
theorem zber:∀l:List α,xr l (fun x=>f x ^^^ g x)=xr l f ^^^ xr l g
 | []=>by show 0=0 ^^^ 0;rw[xgb]
 | x::l=>by rw[zby,zby,zby,zber l,xor4']
theorem zgr (p:α->Bool):∀l:List α,xr (l.filter p) f=xr l fun x=>if p x=true then f x else 0
 | []=>rfl
 | x::l=>by
  rw[zby,← zgr p l];by_cases c:p x=true
  ·rw[xco c,zby,if_pos c]
  ·rw[xcu c,if_neg c,xhb]
theorem xif (p q:Bool)(z:Nat):(if p=true then z else 0) ^^^ (if q=true then z else 0)=if Bool.xor p q=true then z else 0:=by
 cases p<;>cases q<;>simp
theorem zbes (f:Nat->Nat)(N:Nat):xr (List.range (N+1)) f=xr (List.range N) f ^^^ f N:=by
 rw[xib,zgs];show _ ^^^ (f N ^^^ 0)=_;rw[xfh]
end
noncomputable def T (k:Int) (φ:Row->Nat) (m:Row):Nat:=xr (wholeS m) fun x=>if x.sum=m.sum+k then φ x else 0
noncomputable def Nn (m:Row):Prop:=∀x∈m,0<=x
theorem zbmf {e:Nat}{y:Int}(h:y∈outL e):(e:Int)<=y:=by
 unfold outL at h;obtain⟨j,_,rfl⟩:=xbr.mp h;lia
theorem zri {r x:Row}{e:Nat}(h:x∈wholeS (r++[(e:Int)])):∃u y,x=u++[((y:Nat):Int)]/\u∈wholeS r:=by
 rw[zed] at h;unfold wholeStep longL at h;obtain⟨u,hu,h⟩:=xfd.mp h;obtain⟨y,hy,rfl⟩:=xbr.mp h;rw[xec] at hy;have:=zbmf hy;exact⟨u,y.toNat,by rw[Int.toNat_of_nonneg (by lia)],hu⟩
theorem zrj:∀m:Row,Nn m->∀x∈wholeS m,Nn x:=fun m hm x hx=>by
 have h:∀i,∀x∈wholeS (m.take i),Nn x:=fun i=>by
  induction i with
  | zero=>intro x hx;rw[xbq.mp (show x∈[[]] from hx)];intro y hy;cases hy
  | succ i ih =>
   by_cases c:i < m.length
   ·have g:m[i]?=some m[i]:=xbd c;have n0:0<=m[i]:=hm _ (xcx c);obtain⟨e,he⟩:∃e:Nat,m[i]=(e:Int):=⟨m[i].toNat,by lia⟩
    intro x hx;rw[zm g,he] at hx;obtain⟨u,y,rfl,hu⟩:=zri hx;intro z hz;rcases xbw.mp hz with a | a
    ·exact ih u hu z a
    ·rw[xbq.mp a];lia
   ·rw[xdq (by lia)] at ih ⊢;exact ih
 have:=h m.length;rw[xcp] at this;exact this x hx
theorem zyi {f:Nat->Nat}{k:Nat}:∀{N:Nat},k < N->(∀c,c≠k->f c=0)->xr (List.range N) f=f k
 | 0,h,_=>by lia
 | N+1,h,z=>by
  rw[zbes];by_cases c:k=N
  ·rw[zdq (g:=fun _=>0) fun x hx=>z x (by have:=xcd.mp hx;lia),zre,xhb,c]
  ·rw[zyi (by lia) z,z N (by lia),xfh]
inductive Lin (P:Nat->Prop):Nat->Prop
 | zero:Lin P 0
 | add {v w:Nat}:P v->Lin P w->Lin P (v ^^^ w)
theorem Lin.one {P:Nat->Prop}{v:Nat}(h:P v):Lin P v:=by have:=Lin.add h .zero;rwa [xfh] at this
theorem Lin.xor {P:Nat->Prop}{v w:Nat}(h:Lin P v)(g:Lin P w):Lin P (v ^^^ w):=by
 induction h with
 | zero=>rw[xhb];exact g
 | add p _ ih=>rw[xef];exact .add p ih
theorem Lin.bind {P R:Nat->Prop}(h:∀v,P v->Lin R v){w:Nat}(g:Lin P w):Lin R w:=by
 induction g with
 | zero=>exact .zero
 | add p _ ih=>exact(h _ p).xor ih
theorem Lin.xr {α:Type}{P:Nat->Prop}{f:α->Nat}:∀{l:List α},(∀x∈l,Lin P (f x))->Lin P (Dd.xr l f)
 | [],_=>.zero
 | x::l,h=>(h x (xbn ..)).xor (Lin.xr fun y hy=>h y (xbk _ hy))
structure Mon (n:Nat) (s:Int) (m:Row):Prop where
 len:m.length=n
 nn:Nn m
 sum:m.sum=s
noncomputable def bl (v:Nat):Nat:=if v=0 then 0 else v.log2+1
theorem zlv {v k:Nat}:bl v<=k↔v < 2 ^ k:=by
 unfold bl;by_cases c:v=0
 ·rw[if_pos c,c];exact⟨fun _=>xjm k,fun _=>xea _⟩
 ·rw[if_neg c,Nat.succ_le_iff];exact Nat.log2_lt c
theorem znq {v:Nat}:v≠0↔1<=bl v:=by unfold bl;split<;>lia
theorem zbed {v:Nat}(h:v≠0):v.testBit (bl v - 1)=true:=by
 have p:=znq.mp h;have h1:v < 2 ^ (bl v - 1+1):=zlv.mp (by lia);have h2:2 ^ (bl v - 1)<=v:=by
  rcases xff v (2 ^ (bl v - 1)) with z | z
  ·have:=zlv.mpr z;lia
  ·exact z
 exact Nat.testBit_of_two_pow_le_and_two_pow_add_one_gt h2 h1
theorem zbou {v w:Nat}(h:v≠0)(e:bl w=bl v):bl (v ^^^ w) < bl v:=by
 have p:=znq.mp h;have hw:w≠0:=znq.mpr (by lia)
 suffices v ^^^ w < 2 ^ (bl v - 1) by have:=zlv.mpr this;lia
 refine Nat.lt_pow_two_of_testBit _ fun i hi=>?_
 rw[xii];by_cases c:i=bl v - 1
 ·have a:=zbed h;have b:=zbed hw;rw[e] at b;rw[c,a,b];rfl
 ·have k1:v < 2 ^ bl v:=zlv.mp (xbf _);have k2:w < 2 ^ bl v:=zlv.mp (by lia);have k3:2 ^ bl v<=2 ^ i:=xfx (by decide) (by lia);rw[xgw (by lia),xgw (by lia)];rfl
theorem zbow {v w:Nat}(e:bl w < bl v):bl (v ^^^ w)=bl v:=by
 have h:v≠0:=znq.mpr (by lia);have k1:v < 2 ^ bl v:=zlv.mp (xbf _);have k2:w < 2 ^ bl v:=zlv.mp (by lia);have k3:=zlv.mpr (xlr k1 k2);have k4:w < 2 ^ (bl v - 1):=zlv.mp (by lia);have t:(v ^^^ w).testBit (bl v - 1)=true:=by rw[xii,zbed h,xgw k4];rfl
 have:=Nat.ge_two_pow_of_testBit t;rcases xff (bl (v ^^^ w)) (bl v) with z | z
 ·have:=zlv.mp (show bl (v ^^^ w)<=bl v - 1 by lia);lia
 ·lia
noncomputable abbrev Tab:=Nat->Option Nat
noncomputable def Good (A:Tab):Prop:=∀k v,A k=some v->bl v=k/\v≠0
noncomputable def sel (A:Tab) (S:Nat->Bool):Nat->Nat
 | 0=>0
 | N+1=>(if S (N+1)=true then(A (N+1)).getD 0 else 0) ^^^ sel A S N
noncomputable def Span (A:Tab) (N:Nat) (v:Nat):Prop:=∃S,v=sel A S N
theorem zbav {A:Tab}(g:Good A)(S:Nat->Bool):∀N,bl (sel A S N)<=N/\(sel A S N≠0->(A (bl (sel A S N))).isSome=true)
 | 0=>⟨xbf _,fun h=>absurd rfl h⟩
 | N+1=>by
  have ih:=zbav g S N;have skip:(0 ^^^ sel A S N=sel A S N):=xhb _;show bl (_ ^^^ sel A S N)<=N+1/\(_ ^^^ sel A S N≠0->(A (bl (_ ^^^ sel A S N))).isSome=true)
  by_cases c:S (N+1)=true
  ·rw[if_pos c];cases e:A (N+1) with
   | none=>rw[xmm,skip];exact⟨by lia,ih.2⟩
   | some v =>
    obtain⟨g1,g2⟩:=g _ _ e;rw[Option.getD_some,zbow (by lia),g1];exact⟨xbf _,fun _=>by rw[e];rfl⟩
  ·rw[if_neg c,skip];exact⟨by lia,ih.2⟩
theorem Span.zero {A:Tab}{N:Nat}:Span A N 0:=⟨fun _=>false,by
 induction N with
 | zero=>rfl
 | succ N ih=>show 0=0 ^^^ sel A (fun _=>false) N;rw[← ih];rfl⟩
theorem Span.xor {A:Tab}{N v w:Nat}(h:Span A N v)(k:Span A N w):Span A N (v ^^^ w):=by
 obtain⟨S,rfl⟩:=h;obtain⟨R,rfl⟩:=k;refine⟨fun i=>Bool.xor (S i) (R i),?_⟩
 induction N with
 | zero=>show 0 ^^^ 0=0;rw[xgb]
 | succ N ih =>
  show(_ ^^^ sel A S N) ^^^ (_ ^^^ sel A R N)=(if Bool.xor (S (N+1)) (R (N+1))=true then(A (N+1)).getD 0 else 0) ^^^ sel A _ N;rw[← ih,xor4',xif]
theorem Span.key {A:Tab}{k v:Nat}(h0:1<=k)(e:A k=some v):∀{N},k<=N->Span A N v:=fun {N} hN=>⟨fun i=>decide (i=k),by
 have low:∀M,M < k->sel A (fun i=>decide (i=k)) M=0:=fun M=>by
  induction M with
  | zero=>intro _;rfl
  | succ M ih=>intro h;show(if decide (M+1=k)=true then _ else 0) ^^^ sel A _ M=0;rw[ih (by lia),xcb (by lia)];simp
 induction N with
 | zero=>lia
 | succ N ih =>
  show v=(if decide (N+1=k)=true then(A (N+1)).getD 0 else 0) ^^^ sel A _ N;by_cases c:N+1=k
  ·rw[xcj c,if_pos rfl,c,e,low N (by lia),xfh];rfl
  ·rw[xcb c,← ih (by lia)];simp⟩
theorem Span.lin {A:Tab}{N:Nat}{P:Nat->Prop}(h:∀v,P v->Span A N v){w:Nat}(k:Lin P w):Span A N w:=by
 induction k with
 | zero=>exact .zero
 | add p _ ih=>exact(h _ p).xor ih
noncomputable def setT (A:Tab) (k v:Nat):Tab:=fun i=>if i=k then some v else A i
theorem Span.more {A:Tab}{k v:Nat}(e:A k=none){N w:Nat}(h:Span A N w):Span (setT A k v) N w:=by
 obtain⟨S,rfl⟩:=h;refine⟨fun i=>if i=k then false else S i,?_⟩
 induction N with
 | zero=>rfl
 | succ N ih =>
  show _ ^^^ sel A S N=(if(if N+1=k then false else S (N+1))=true then(setT A k v (N+1)).getD 0 else 0) ^^^ sel (setT A k v) _ N;rw[← ih];unfold setT;by_cases c:N+1=k
  ·rw[if_pos c,c,e];simp
  ·rw[if_neg c,if_neg c]
structure Lds (N:Nat) (A:Tab) (L:List Nat):Prop where
 good:Good A
 top:∀k v,A k=some v->k<=N
 lin:∀k v,A k=some v->Lin (·∈L) v
 all:∀v∈L,Span A N v
theorem Lds.nil (N:Nat):Lds N (fun _=>none) []:=⟨(fun _ _ e=>nomatch e),(fun _ _ e=>nomatch e),(fun _ _ e=>nomatch e),(fun _ h=>absurd h (by simp))⟩
structure Less (N:Nat) (A:Tab) (x y:Nat):Prop where
 top:bl y<=N
 span:Span A N (x ^^^ y)
theorem Less.refl {N:Nat}{A:Tab}{x:Nat}(h:bl x<=N):Less N A x x:=⟨h,by rw[xgb];exact .zero⟩
theorem Less.step {N:Nat}{A:Tab}{L:List Nat}{x y v:Nat}(l:Lds N A L)(h:Less N A x y)(h0:y≠0)(e:A (bl y)=some v):Less N A x (y ^^^ v)/\bl (y ^^^ v) < bl y:=by
 have b:=zbou h0 (l.good _ _ e).1;exact⟨⟨by have:=h.top;lia,by rw[← xef];exact h.span.xor (Span.key (znq.mp h0) e h.top)⟩,b⟩
theorem Lds.lins {N:Nat}{A:Tab}{L:List Nat}(l:Lds N A L){w:Nat}(h:Span A N w):Lin (·∈L) w:=by
 obtain⟨S,rfl⟩:=h;have:∀M,Lin (·∈L) (sel A S M):=fun M=>by
  induction M with
  | zero=>exact .zero
  | succ M ih =>
   refine Lin.xor ?_ ih;by_cases c:S (M+1)=true
   ·rw[if_pos c];cases e:A (M+1) with
    | none=>exact .zero
    | some v=>exact l.lin _ _ e
   ·rw[if_neg c];exact .zero
 exact this N
theorem Lin.more {L:List Nat}{x w:Nat}(h:Lin (·∈L) w):Lin (·∈L++[x]) w:=Lin.bind (fun v hv=>.one (xed _ hv)) h
theorem Lds.put {N:Nat}{A:Tab}{L:List Nat}{x y:Nat}(l:Lds N A L)(h:Less N A x y)(h0:y≠0)(e:A (bl y)=none):Lds N (setT A (bl y) y) (L++[x]):=by
 have ly:Lin (·∈L++[x]) y:=by
  have h1:=(l.lins h.span).more (x:=x);have h2:=Lin.xor (Lin.one (P:=(·∈L++[x])) (v:=x) (by simp)) h1
  rwa [← xef,xgb,xhb] at h2
 have sy:Span (setT A (bl y) y) N y:=Span.key (znq.mp h0) (by unfold setT;rw[if_pos rfl]) h.top;refine⟨fun k v z=>?_,fun k v z=>?_,fun k v z=>?_,fun v hv=>?_⟩
 ·unfold setT at z;by_cases c:k=bl y
  ·rw[if_pos c] at z;cases z;exact⟨c.symm,h0⟩
  ·rw[if_neg c] at z;exact l.good _ _ z
 ·unfold setT at z;by_cases c:k=bl y
  ·rw[c];exact h.top
  ·rw[if_neg c] at z;exact l.top _ _ z
 ·unfold setT at z;by_cases c:k=bl y
  ·rw[if_pos c] at z;cases z;exact ly
  ·rw[if_neg c] at z;exact(l.lin _ _ z).more
 ·rcases xbw.mp hv with q | q
  ·exact(l.all v q).more e
  ·rw[xbq.mp q];have:=(h.span.more (v:=y) e).xor sy
   rwa [xef,xgb,xfh] at this
theorem Lds.keep {N:Nat}{A:Tab}{L:List Nat}{x:Nat}(l:Lds N A L)(h:Less N A x 0):Lds N A (L++[x]) :=
 ⟨l.good,l.top,fun k v z=>(l.lin k v z).more,fun v hv=>by
  rcases xbw.mp hv with q | q
  ·exact l.all v q
  ·rw[xbq.mp q];have:=h.span;rwa [xfh] at this⟩
noncomputable def Rows (n:Nat) (l:List Row):Prop:=∀r∈l,r.length=n/\∀x∈r,0<=x
section
variable {st:Store}{n:Nat}{Q:D->Store->Prop}
theorem zbee {e:Int}(he:0<=e){σ1:DS}{w:D->Store->Prop}(q:∀x,0<=x->x<=e->w (.int x) st) :
  WP (compF (gN 0) (eB (aS oLe (aA 0) (aA 1))) (aA 0) [.int 0,.int 1,.int 3,.int 7,.int 15] [none,some (.int e)] st) (fun ys st2=>WP (bBest true [.lst ys] st2) w):=by
 refine zpx (as:=[(0:Int),1,3,7,15]) (E:=fun x=>D.int x) (fun σ=>∃v,σ=[v,some (.int e)]) (fun x=>decide (x<=e)) (fun x=>.int x) ⟨_,rfl⟩ ?_ ?_
 ·rintro x hx σ ⟨v,rfl⟩;refine⟨_,rfl,⟨_,rfl⟩,?_,fun _=>?_⟩
  ·simp only[W,V,xio]
  ·simp only[W,V,xio]
 ·rw[xco (by simpa using he)];simp only[M];refine⟨0,([1,3,7,15]:List Int).filter (fun x=>decide (x<=e)),?_,?_⟩
  ·have:=zcm (0::([1,3,7,15]:List Int).filter (fun x=>decide (x<=e)));exact this
  ·obtain⟨h1,h2⟩:=zns (([1,3,7,15]:List Int).filter (fun x=>decide (x<=e))) 0;refine q _ (h2 0 xbn) ?_;rcases xbp.mp h1 with h | h
   ·rw[h];exact he
   ·simpa using (xeo.mp h).2
theorem zmu {N d:Int}(hb:BagAt st n)(hN:1<=N)(hN2:N<=1000)(hd:0<=d)(hd2:d<=1000)(k:∀r st',r.length=N.toNat->(∀x∈r,0<=x)->r.sum=d->Drew st st' n->Q (aL r) st'):WP (zbt [.ref n,.int N,.int d] st) Q:=by
 refine zdm rfl ?_;simp only[W,V];refine⟨small _ (by simp),?_⟩;have D0:Drew st (st++[.lst []]) n:=.more hb _;refine zdj D0.bag (by lia) (by lia) fun fk st2 h3 h4 d2=>?_
 have D2:=D0.trans d2;have hk:st.length<=st.length:=xbf _;have hkn:st.length≠n:=xjo hb.lt;have g0:st2[st.length]?=some (.lst []):=(d2.keep _ (by simp) hkn).trans (by simp)
 try simp only[W,V]
 refine⟨trivial,_,rfl,rngN (by lia) (by lia),?_⟩;refine zdr (fun i σ s=>∃(left:Int) (r:List Int) (v w:Option D),σ=[some (.ref n),some (.int N),some (.int d),some (.int left),some (.ref st.length),some (.int fk),v,w,none]/\0<=left/\left+r.sum=d/\r.length=i/\(∀x∈r,0<=x)/\Drew st s n/\s[st.length]?=some (.lst (r.map .int)))
  ⟨d,[],none,none,rfl,hd,by simp,rfl,by simp,D2,g0⟩ ?_ ?_
 ·rintro i x σ s hx ⟨left,r,v,w,rfl,a1,a2,a3,a4,a5,a6⟩;obtain⟨hi,rfl⟩:=zir hx;have rn:=zti a4;refine⟨_,rfl,?_⟩;unfold zdc;refine zrf (R:=fun fl s=>∃y:Int,fl=.nx [some (.ref n),some (.int N),some (.int d),some (.int left),some (.ref st.length),some (.int fk),some (.int (0+(i:Int))),some (.int y),none]/\0<=y/\y<=left/\Drew st s n/\s[st.length]?=some (.lst (r.map .int))) ?_ ?_
  ·simp only[W,V];refine zdj a5.bag (by lia) (by lia) fun y s2 b1 b2 e2=>?_
   exact⟨y,rfl,b1,by lia,a5.trans e2,(e2.keep _ (zca a6) hkn).trans a6⟩
  rintro fl s1 ⟨y,rfl,y1,y2,E1,g1⟩;show WP _ _;refine zrf (R:=fun fl s=>∃y:Int,fl=.nx [some (.ref n),some (.int N),some (.int d),some (.int left),some (.ref st.length),some (.int fk),some (.int (0+(i:Int))),some (.int y),none]/\0<=y/\y<=left/\s=s1) ?_ ?_
  ·simp only[W,V,Dd.N];split
   ·refine⟨small _ (by simp),small _ (by simp),?_⟩;refine zbee (σ1:=[]) y1 fun z z1 z2=>?_
    exact⟨z,rfl,z1,by lia,rfl⟩
   ·exact⟨y,rfl,y1,y2,trivial⟩
  rintro fl s2 ⟨y,rfl,y1,y2,rfl⟩;show WP _ _;simp only[W,V,M,Dd.N,L];have hlt:=zca g1;refine⟨_,_,rfl,g1,_,_,rfl,g1,by rw[xbb];exact smallT _ (by lia),left - y,r++[y],_,_,rfl,by lia,by rw[xee];simp;lia,by simp[a3],zmy a4 y1,E1.over hb.lt hk,?_⟩;rw[zkx hlt];simp
 ·rintro σ s ⟨left,r,v,w,rfl,a1,a2,a3,a4,a5,a6⟩;rw[zev] at a3;simp only[W,V,M];have hlt:=zca a6;refine⟨_,_,rfl,a6,_,_,rfl,a6,by rw[xbb];exact smallT _ (by lia),?_⟩;have a7:(s.set st.length (.lst (r.map D.int++[D.int left])))[st.length]?=some (.lst ((r++[left]).map .int)):=by rw[zkx hlt];simp
  have D5:Drew st (s.set st.length (.lst (r.map D.int++[D.int left]))) n:=a5.over hb.lt hk;refine zdj D5.bag (by lia) (by lia) fun y s2 b1 b2 e2=>?_
  have a8:s2[st.length]?=some (.lst ((r++[left]).map .int)):=(e2.keep _ (zca a7) hkn).trans a7;refine⟨y,rfl,.inr ⟨_,zjd a8,y,rfl,.inr ⟨_,zjd a8,?_⟩⟩⟩;obtain⟨j,rfl⟩:=xeb b1;rw[zya,zbjr];refine WP.of (zbao (small _ (by rw[xbj,xks];lia))) ?_;simp only[W,V];refine k _ _ ?_ ?_ ?_ (D5.trans e2)
  ·rw[zrr,xbj,xks];lia
  ·intro x hx;rcases xbw.mp hx with hx | hx
   ·exact zmy a4 a1 x (xhn hx)
   ·exact zmy a4 a1 x (xgl hx)
  ·have:=congrArg List.sum (xdn j (r++[left]));rw[xee,xee] at this;rw[xee];simp at this;lia
theorem zof {N d m:Int}(hb:BagAt st n)(hN:1<=N)(hN2:N<=1000)(hd:0<=d)(hd2:d<=1000)(hm:0<=m)(hm2:m<=1000)(k:∀l st',(l.length:Int)<=m->Rows N.toNat l->l.Nodup->(∀r∈l,r.sum=d)->Drew st st' n->Q (aK l) st'):WP (zbr [.ref n,.int N,.int d,.int m] st) Q:=by
 refine zdm rfl ?_;simp only[W,V];refine zdj hb (by lia) (by lia) fun c st1 h1 h2 d1=>?_
 simp only[W,V,Dd.N];refine⟨rngN (by lia) (by lia),by rw[zev];exact small _ (by lia),?_⟩;refine zoa (fun i acc σ s=>∃(l:List (List Int)) (v:Option D),acc=aJ l/\l.length=i/\(∀r∈l,r.length=N.toNat/\(∀x∈r,0<=x)/\r.sum=d)/\σ=[v,some (.ref n),some (.int N),some (.int d)]/\Drew st s n) ⟨[],none,rfl,rfl,by simp,rfl,d1⟩ ?_ ?_
 ·rintro i x acc σ s hx ⟨l,v,rfl,a1,a2,rfl,a3⟩;refine⟨_,rfl,?_⟩;simp only[W,V];exact zmu a3.bag hN hN2 hd hd2 fun r s2 b1 b2 b3 b4=>⟨l++[r],_,by simp[aJ],by simp[a1],zbcf a2 ⟨b1,b2,b3⟩,rfl,a3.trans b4⟩
 ·rintro ys σ s ⟨l,v,rfl,a1,a2,rfl,a3⟩;rw[zev] at a1;refine zbhh (l:=l) rfl (by lia) fun g=>k _ _ ?_ (fun r hr=>⟨(a2 r (zjw hr)).1,(a2 r (zjw hr)).2.1⟩) (zhk l) (fun r hr=>(a2 r (zjw hr)).2.2) (a3.trans (.more a3.bag g))
  have:=zqq l;lia
end
section
variable {st:Store}{n:Nat}{Q:D->Store->Prop}
end
section
variable {st:Store}{n:Nat}{Q:D->Store->Prop}
end
end Dd
namespace K11
end K11
namespace Dd
open PySem L2 K13
section
variable {st:Store}{n:Nat}{Q:D->Store->Prop}
end
end Dd
namespace K54
end K54
namespace Dd
open PySem L2
open PySem.Builtin.Int (intBits)
noncomputable def cntP (d:Int):Nat->Int
 | 0=>1
 | i+1=>cntP d i * (d+(1+(i:Int))) / (1+(i:Int))
theorem zpl {d:Int}(h0:0<=d)(h1:d < 10 ^ 40):∀i:Nat,i<=20->intBits (cntP d i)<=200 * (i+1)
 | 0,_=>by show intBits 1<=200;decide
 | i+1,hi=>by
  have ih:=zpl h0 h1 i (by lia);have b:intBits (d+(1+(i:Int)))<=200:=by
   rw[intBits_le_iff];have:(10:Int) ^ 40<=2 ^ 199:=by decide
   have e:(2:Nat) ^ 200=2 ^ 199+2 ^ 199:=by decide
   have e2:(1000:Nat)<=2 ^ 199:=by decide
   lia
  have m:=intBits_mul_le ih b;unfold cntP;refine intBits_le_of_natAbs (Int.natAbs_ediv_le_natAbs _ _) (xbc m (by lia))
section
variable {st:Store}{n:Nat}{Q:D->Store->Prop}
theorem zwy {N d:Int}(hN:1<=N)(hN2:N<=10)(h0:0<=d)(h1:d < 10 ^ 40)(q:Q (.int (cntP d (N - 1).toNat)) st):WP (zx [.int N,.int d] st) Q:=by
 refine zdm rfl ?_;simp only[W,V,Dd.N];refine⟨rngN (by lia) (by lia),rngN (by lia) (by lia),?_⟩;refine zdr (fun i σ s=>(∃v,σ=[some (.int N),some (.int d),some (.int (cntP d i)),v])/\s=st) ⟨⟨_,rfl⟩,rfl⟩ ?_ ?_
 ·rintro i y σ s hy ⟨⟨v,rfl⟩,rfl⟩;obtain⟨hi,rfl⟩:=zir hy;refine⟨_,rfl,?_⟩;unfold zbp;simp only[W,V,L];have b:=zpl h0 h1 i (by lia);refine⟨⟨xbc b (by lia),?_⟩,⟨by lia,?_⟩,⟨_,rfl⟩,trivial⟩
  ·rw[intBits_le_iff];have:(10:Int) ^ 40<=2 ^ 199:=by decide
   have e2:(1000:Nat)<=2 ^ 199:=by decide
   have e3:(2:Nat) ^ 200<=2 ^ 60000:=xfx (by decide) (by decide);have e:(2:Nat) ^ 200=2 ^ 199+2 ^ 199:=by decide
   refine xbg ?_ e3;lia
  ·have:(1+(i:Int)) < 2 ^ 60:=Int.lt_of_le_of_lt (show(1+(i:Int))<=100 by lia) (by decide +kernel);exact Int.lt_of_lt_of_le this (by decide +kernel)
 ·rintro σ s ⟨⟨v,rfl⟩,rfl⟩;rw[zev];simp only[W,V];exact q
theorem zld {d:Int}:∀{l:List Int},l≠[]->(∀x∈l,x=d)->once l=[d]
 | [],h,_=>absurd rfl h
 | [a],_,h=>by
  have:=h a (by simp);subst this
  rfl
 | a::b::l,_,h=>by
  have h1:=h a (by simp);have h2:=h b (by simp);have ih:=zld (d:=d) (l:=b::l) (by simp) fun x hx=>h x (xbk _ hx)
  subst h1;unfold once;rw[if_pos (by rw[h2];simp)];exact ih
theorem zwb (d:Int):sortI [d]=[d]:=by
 have:=zeu [d];exact List.perm_singleton.mp this
theorem zls {l:List Row}(hl:l.length<=1000)(hs:∀r∈l,0<=r.sum/\r.sum < 64)(q:Q (.ref st.length) (st++[.lst ((sortI (once (l.map List.sum))).map .int)])):WP (zgy [aK l] st) Q:=by
 refine zdm rfl ?_;simp only[W,V,Dd.N];refine⟨by rw[zn];exact small _ (by lia),?_⟩;refine zpx (as:=l) (fun σ=>∃v,σ=[v]) (fun _=>true) (fun r=>.int r.sum) aL ⟨_,rfl⟩ ?_ ?_
 ·rintro r hr σ ⟨v,rfl⟩;refine⟨_,rfl,⟨_,rfl⟩,by simp only[W,xio],fun _=>?_⟩;simp only[W,V,M];exact⟨r,zcm r,trivial,rfl⟩
 ·rw[zfb];have e1:=zcm (l.map List.sum);rw[xcy] at e1;have e2:bSortSetM [.lst (l.map fun r=>.int r.sum)] st=.ok (.ref st.length) (st++[.lst ((sortI (once (l.map List.sum))).map .int)]):=by
   unfold bSortSetM;dsimp only;rw[show(asL st (.lst (l.map fun r=>D.int r.sum))).bind asInts=some (l.map List.sum) from e1];dsimp only;rw[if_pos];rw[xcw];intro x hx;obtain⟨r,hr,rfl⟩:=xbr.mp hx;have:=hs r hr;simp[smallI];lia
  exact WP.of e2 q
theorem zow {N d:Int}(hN:1<=N)(hN2:N<=10)(h0:0<=d)(h1:d<=if N<=3 then 24 else 10)(h2:cntP d (N - 1).toNat<=200)(q:Q (.int d) st):WP (zem [.int N,.int d] st) Q:=by
 refine zdm rfl ?_;have hd:d < 10 ^ 40:=by
  have:(30:Int) < 10 ^ 40:=by decide
  split at h1<;>lia
 have key:WP (zbu [.int N,.int d] st) (fun v s=>v=.bl true/\s=st):=by
  refine zdm rfl ?_;simp only[W,V];refine WP.mono (Q:=fun v s=>v=.int (if N<=3 then 24 else 10)/\s=st) ?_ ?_
  ·refine zdm rfl ?_;simp only[W,V];refine⟨trivial,?_⟩;by_cases c:N<=3
   ·simp only[c,xeu,xio]
   ·simp only[c,xdx,xio]
  ·rintro v s ⟨rfl,rfl⟩;simp only[W,V];refine⟨trivial,?_⟩;simp only[h1,xfi,xeu,W,V];refine zwy hN hN2 h0 hd ?_;simp only[W,V];refine⟨trivial,?_⟩;rw[xcj h2]
   first | exact⟨rfl,trivial⟩ | exact⟨rfl,rfl⟩ | simp
 obtain⟨v,s,e,rfl,rfl⟩:=key.get;simp only[W,V];refine WP.of e ?_;simp only[Dd.N,W,V,xhk];exact q
theorem zlc {N d:Int}{l:List Row}(hN:1<=N)(hN2:N<=10)(h0:0<=d)(h1:d<=if N<=3 then 24 else 10)(h2:cntP d (N - 1).toNat<=200)(hl:l.length<=1000)(ne:l≠[])(hs:∀r∈l,r.sum=d)(k:∀g,Q (.int d) (st++g)):WP (zco [.int N,aK l] st) Q:=by
 refine zdm rfl ?_;simp only[W,V];refine zls hl (fun r hr=>by rw[hs r hr];split at h1<;>lia) ?_;have e1:once (l.map List.sum)=[d]:=zld (by simpa using ne) fun x hx=>by
  obtain⟨r,hr,rfl⟩:=xbr.mp hx;exact hs r hr
 rw[e1,zwb];have g:(st++[O.lst ([d].map .int)])[st.length]?=some (.lst [.int d]):=by simp
 have s1:seqOf (st++[O.lst ([d].map .int)]) (.ref st.length)=some [.int d]:=by
  unfold seqOf asL;simp[g]
 have k1:=k [O.lst ([d].map .int)];generalize st++[O.lst ([d].map .int)]=st1 at g s1 k1;have e2:bLen [.ref st.length] st1=.ok (.int 1) st1:=by
  unfold bLen;dsimp only;rw[s1]
  rfl
 have e3:tru st1 (.ref st.length)=some true:=by
  unfold tru asL;simp[g]
 refine WP.of e2 ?_;simp only[W,V];refine⟨trivial,?_⟩;rw[if_neg (by decide)];refine⟨true,e3,?_⟩;simp only[V];refine zik (d:=.int d) s1 rfl ?_;exact zow hN hN2 h0 h1 h2 k1
theorem zmx {N:Int}(k:∀g,Q .non (st++g)):WP (zco [.int N,aK []] st) Q:=by
 refine zdm rfl ?_;simp only[W,V];refine zls (l:=[]) (by simp) (fun r hr=>(by cases hr)) ?_;have e1:sortI (once (([]:List Row).map List.sum))=[]:=List.perm_nil.mp (zeu _);rw[e1];have g:(st++[O.lst (([]:List Int).map .int)])[st.length]?=some (.lst []):=by simp
 have k1:=k [O.lst (([]:List Int).map .int)];generalize st++[O.lst (([]:List Int).map .int)]=st1 at g k1;have s1:seqOf st1 (.ref st.length)=some []:=by
  unfold seqOf asL;simp[g]
 have e2:bLen [.ref st.length] st1=.ok (.int 0) st1:=by
  unfold bLen;dsimp only;rw[s1]
  rfl
 have e3:tru st1 (.ref st.length)=some false:=by
  unfold tru asL;simp[g]
 refine WP.of e2 ?_;simp only[W,V];refine⟨trivial,?_⟩;rw[if_neg (by decide)];refine⟨false,e3,?_⟩;simp only[V];exact k1
noncomputable def allJ (p:Pt):List Pt:=(List.range (p.2.toNat+1)).map fun e:Nat=>(p.1++[(e:Int)],p.2 - (e:Int))
noncomputable def allS (d:Int):Nat->List Pt
 | 0=>[([],d)]
 | k+1=>(allS d k).flatMap allJ
noncomputable def allL (d:Int) (k:Nat):List Row:=(allS d k).map fun p=>p.1++[p.2]
theorem zzq {α:Type}{f:α->List Pt}{B:Nat}:∀{l:List α},(∀a∈l,(f a).length<=B)->(l.flatMap f).length<=l.length * B
 | [],_=>by simp
 | a::l,h=>by
  have h1:=h a xbn;have h2:=zzq (l:=l) fun b hb=>h b (xbk _ hb)
  rw[xmh,xbj,xby,xms];lia
theorem zic {d:Int}(h0:0<=d):∀k:Nat,∀p∈allS d k,p.1.length=k/\(∀x∈p.1,0<=x)/\0<=p.2/\p.1.sum+p.2=d
 | 0,p,hp=>by
  simp[allS] at hp;subst hp;exact⟨rfl,by simp,h0,by simp⟩
 | k+1,p,hp=>by
  obtain⟨q,hq,hp⟩:=xfd.mp hp;obtain⟨h1,h2,h3,h4⟩:=zic h0 k q hq;obtain⟨e,he,rfl⟩:=xbr.mp hp;have he:=xcd.mp he;refine⟨by simp[h1],fun x hx=>?_,by dsimp only;lia,by simp;lia⟩;rcases xbw.mp hx with hx | hx
  ·exact h2 x hx
  ·simp at hx;lia
theorem zvc {d:Int}(h0:0<=d):∀k:Nat,(allS d k).length<=(d.toNat+1) ^ k
 | 0=>by simp[allS]
 | k+1=>by
  have ih:=zvc h0 k;have h:=zzq (f:=allJ) (B:=d.toNat+1) (l:=allS d k) fun p hp=>by
   obtain⟨_,h2,h3,h4⟩:=zic h0 k p hp;have:=zti h2;unfold allJ;rw[xbb,xej];lia
  show((allS d k).flatMap allJ).length<=_;rw[xiy];exact xbc h (xjf _ ih)
theorem zbek:∀(a:Row) (d:Int),(∀x∈a,0<=x)->a.sum<=d->(a,d - a.sum)∈allS d a.length:=fun a=>by
 induction hn:a.length generalizing a with
 | zero =>
  intro d _ _;have:a=[]:=xka.mp hn;subst this;simp[allS]
 | succ k ih =>
  intro d ha hs;have ne:a≠[]:=by rintro rfl;simp at hn
  obtain⟨b,e,rfl⟩:∃b e,a=b++[e]:=⟨a.dropLast,a.getLast ne,(xiz ne).symm⟩
  have he:=ha e (by simp);have hb:=fun x hx=>ha x (xed _ hx)
  rw[xee,xls] at hs;have h1:=ih b (by simp at hn;exact hn) d hb (by lia);refine xfd.mpr ⟨_,h1,xbr.mpr ⟨e.toNat,xcd.mpr (by dsimp only;lia),?_⟩⟩;have e1:((e.toNat:Nat):Int)=e:=by lia
  rw[xee,xls,e1];dsimp only
  congr 1
  lia
theorem znw {r:Row}{d:Int}{k:Nat}(hl:r.length=k+1)(hr:∀x∈r,0<=x)(hs:r.sum=d):r∈allL d k:=by
 have ne:r≠[]:=by rintro rfl;simp at hl
 obtain⟨b,e,rfl⟩:∃b e,r=b++[e]:=⟨r.dropLast,r.getLast ne,(xiz ne).symm⟩
 rw[xee,xls] at hs;have h1:=zbek b d (fun x hx=>hr x (xed _ hx)) (by have:=hr e (by simp);lia);have e1:b.length=k:=by simpa using hl
 rw[e1] at h1;refine xbr.mpr ⟨_,h1,?_⟩;dsimp only;rw[show d - b.sum=e by lia]
theorem zid {d:Int}(h0:0<=d){k:Nat}{r:Row}(h:r∈allL d k):r.length=k+1/\(∀x∈r,0<=x)/\r.sum=d:=by
 obtain⟨p,hp,rfl⟩:=xbr.mp h;obtain⟨h1,h2,h3,h4⟩:=zic h0 k p hp;refine⟨by simp[h1],fun x hx=>?_,by simp;lia⟩;rcases xbw.mp hx with hx | hx
 ·exact h2 x hx
 ·simp at hx;lia
end
end Dd
namespace Dd
open PySem L2
section
variable {l:List Row}{N d:Int}
end
section
variable {st:Store}{n:Nat}{Q:D->Store->Prop}
noncomputable def mostD (N:Int):Int:=([24,24,18,8,5,4,3,3,3,2]:List Int).getD (N - 1).toNat 0
theorem zxa:(List.range 10).all (fun i=>decide (0<=mostD ((i:Int)+1)/\mostD ((i:Int)+1)<=(if((i:Int)+1)<=3 then 24 else 10)/\((mostD ((i:Int)+1)).toNat+1) ^ i<=100000))=true:=by decide +kernel
theorem zcv {N:Int}(h1:1<=N)(h2:N<=10):0<=mostD N/\mostD N<=(if N<=3 then 24 else 10)/\((mostD N).toNat+1) ^ (N - 1).toNat<=100000:=by
 have:=xcw.mp zxa (N - 1).toNat (xcd.mpr (by lia));have:=xdl this;rw[show(((N - 1).toNat:Nat):Int)+1=N by lia] at this;exact this
theorem zbhq {N:Int}(h1:1<=N)(h2:N<=10):L2.atI (([24,24,18,8,5,4,3,3,3,2]:List Int).map D.int) (N - 1)=some (.int (mostD N)):=by
 obtain⟨j,hj⟩:=xeb (show 0<=N - 1 by lia);unfold mostD;rw[hj];refine zuz ?_;rw[xcn];have hlt:j < 10:=by lia
 rw[xec,xbi,xbd (by simpa using hlt)]
 rfl
theorem zxw {N:Int}(hb:BagAt st n)(h1:1<=N)(h2:N<=10)(k:∀(d:Int) st',0<=d->d<=mostD N->Drew st st' n->Q (.int d) st'):WP (zdh [.ref n,.int N] st) Q:=by
 obtain⟨m1,m2,m3⟩:=zcv h1 h2;have m4:mostD N<=24:=by split at m2<;>lia
 refine zdm rfl ?_;simp only[W,V];refine⟨small _ (by simp),trivial,zik (xs:=([24,24,18,8,5,4,3,3,3,2]:List Int).map D.int) rfl (zbhq h1 h2) ?_⟩;simp only[W,V];refine zdj hb (by lia) (by lia) fun a s1 a1 a2 d1=>?_
 refine⟨small _ (by simp),?_⟩;refine zdj d1.bag (by lia) (by lia) fun b s2 b1 b2 d2=>?_
 simp only[W,V];refine⟨trivial,?_⟩;by_cases c:0 < b
 ·simp only[c,xfi,xeu];exact zik (xs:=[.int (mostD N),.int a]) rfl rfl (k _ _ a1 (by lia) (d1.trans d2))
 ·simp only[c,xfs];exact zik (xs:=[.int (mostD N),.int a]) rfl rfl (k _ _ m1 (Int.le_refl _) (d1.trans d2))
end
end Dd
namespace K55
end K55
namespace Dd
open PySem L2 K13
theorem orx:∀v w:Nat,v ||| w=(v ^^^ w)+(v &&& w)/\v+w=(v ^^^ w)+2 * (v &&& w):=fun v=>by
 induction v using Nat.strongRecOn with
 | _ v ih =>
 intro w;by_cases c:v=0
 ·subst c;simp
 ·have h:=ih (v / 2) (by lia) (w / 2);have a1:(v ||| w) / 2=v / 2 ||| w / 2:=Nat.or_div_two
  have a2:(v ^^^ w) / 2=v / 2 ^^^ w / 2:=Nat.xor_div_two;have a3:(v &&& w) / 2=v / 2 &&& w / 2:=xld;have b1:(v ||| w) % 2=1↔v % 2=1\/w % 2=1:=Nat.or_mod_two_eq_one;have b2:=Nat.xor_mod_two_eq_one (a:=v) (b:=w);have b3:(v &&& w) % 2=1↔v % 2=1/\w % 2=1:=Nat.and_mod_two_eq_one;rw[← a1,← a2,← a3] at h;generalize (v ||| w)=x at *
  generalize (v ^^^ w)=y at *
  generalize (v &&& w)=z at *
  lia
theorem zfg (v w:Nat):Builtin.bitAnd (v:Int) (w:Int)=((v &&& w:Nat):Int):=by simp[Builtin.bitAnd]
theorem zhz (v w:Nat):Builtin.bitXor (v:Int) (w:Int)=((v ^^^ w:Nat):Int):=by
 rw[PyProof.Rows.bitXor_and,zfg];have:=(orx v w).2;lia
theorem zpo (v w:Nat):Builtin.bitOr (v:Int) (w:Int)=((v ||| w:Nat):Int):=by
 have h:Builtin.bitXor (v:Int) (w:Int)=Builtin.bitOr v w - Builtin.bitAnd v w:=rfl;rw[zhz,zfg] at h;have:=(orx v w).1;lia
theorem zgd (v:Nat):Builtin.Int.intBits (v:Int)=bl v:=by
 unfold Builtin.Int.intBits bl;by_cases c:v=0
 ·rw[if_pos c,c];rfl
 ·rw[if_neg c,if_neg (by simp;exact c),Int.natAbs_natCast]
noncomputable def pw (AL:List Row) (r:Row):Nat:=2 ^ AL.idxOf r
theorem pw_lt {AL:List Row}{r:Row}(h:r∈AL):pw AL r < 2 ^ AL.length:=Nat.pow_lt_pow_right (by decide) (xga h)
theorem zbkr {α:Type}{f:α->Nat}{N:Nat}:∀{l:List α},(∀x∈l,f x < 2 ^ N)->xr l f < 2 ^ N
 | [],_=>xjm N
 | x::l,h=>xlr (h x (xbn ..)) (zbkr fun y hy=>h y (xbk _ hy))
theorem zbev {AL:List Row}{q:Nat}:∀{l:List Row},(∀x∈l,AL.idxOf x≠q)->(xr l (pw AL)).testBit q=false
 | [],_=>xmt q
 | x::l,h=>by
  rw[zby,xii,zbev fun y hy=>h y (xbk _ hy)];unfold pw;rw[xht,xcb (h x (xbn ..))];rfl
theorem zbik {AL:List Row}{x y:Row}(hx:x∈AL)(hy:y∈AL)(e:AL.idxOf x=AL.idxOf y):x=y:=by
 have a:=xlt (xga hx);have b:=xlt (xga hy);rw[← a,← b];congr 1
theorem zbai {t q:Nat}(h:t.testBit q=false):t &&& 2 ^ q=0:=by
 refine Nat.eq_of_testBit_eq fun i=>?_
 rw[Nat.testBit_and,xht,xmt];by_cases c:q=i
 ·rw[← c,h];rfl
 ·rw[xcb c,Bool.and_false]
theorem zbhl {AL l:List Row}{r:Row}(hl:∀x∈l,x∈AL)(hr:r∈AL)(n:r∉l):xr l (pw AL)+2 ^ AL.idxOf r=xr (l++[r]) (pw AL)/\(xr l (pw AL) ||| 2 ^ AL.idxOf r)=xr (l++[r]) (pw AL):=by
 have h:(xr l (pw AL)).testBit (AL.idxOf r)=false:=zbev fun x hx e=>n (zbik (hl x hx) hr e ▸ hx)
 have z:=zbai h;obtain⟨o1,o2⟩:=orx (xr l (pw AL)) (2 ^ AL.idxOf r);have e:xr (l++[r]) (pw AL)=xr l (pw AL) ^^^ 2 ^ AL.idxOf r:=by rw[zgs];show _ ^^^ (pw AL r ^^^ 0)=_;rw[xfh];rfl
 rw[z] at o1 o2;rw[e];lia
theorem zbet {f:Row->Nat}{a b:List Row}(h:∀x,a.count x % 2=b.count x % 2):xr a f=xr b f:=by
 have bit:∀(l:List Row) (i:Nat),(xr l f).testBit i=decide (tot l (fun x=>if(f x).testBit i=true then 1 else 0) % 2=1):=fun l i=>by
  induction l with
  | nil=>simp[xr,tot]
  | cons x l ih =>
   rw[zby,xii,ih,zmc];cases(f x).testBit i
   ·simp
   ·simp only[xeu];rw[xhe];simp;lia
 refine Nat.eq_of_testBit_eq fun i=>?_
 rw[bit,bit,zbfk _ h]
theorem zbkg {f:Row->Nat}{k:Int}{p:Row}(hk:0<=k)(hp:Nn p):xr (aO (raiseL k [p])) f=T k f p:=by
 rw[zbet fun x=>zum (raiseL k [p]) x,show raiseL k [p]=raiseR k p by unfold raiseL;simp,zew hp hk,zgr];unfold T;refine zdq fun x _=>?_
 by_cases c:x.sum=p.sum+k
 ·rw[if_pos (xcj c),if_pos c]
 ·rw[if_neg (by simp[c]),if_neg c]
theorem zpv:∀(m:Nat) (d:Int),allS d (m+1)=(List.range (d.toNat+1)).flatMap fun e:Nat=>(allS (d - e) m).map fun p=>((e:Int)::p.1,p.2)
 | 0,d=>by
  show([(([]:Row),d)]:List Pt).flatMap allJ=_;rw[List.flatMap_singleton];unfold allJ;rw[List.map_eq_flatMap]
  rfl
 | m+1,d=>by
  show(allS d (m+1)).flatMap allJ=_;rw[zpv m d,List.flatMap_assoc];refine congrArg (fun f=>List.flatMap f (List.range (d.toNat+1))) (funext fun e=>?_);show _=((allS (d - e) m).flatMap allJ).map _;rw[List.flatMap_map,xkp];refine congrArg (fun f=>List.flatMap f (allS (d - e) m)) (funext fun p=>?_);unfold allJ;rw[xcy]
  rfl
theorem zpw (m:Nat)(d:Int):allL d (m+1)=(List.range (d.toNat+1)).flatMap fun e:Nat=>(allL (d - e) m).map fun r=>(e:Int)::r:=by
 unfold allL;rw[zpv,xkp];refine congrArg (fun f=>List.flatMap f (List.range (d.toNat+1))) (funext fun e=>?_);rw[xcy,xcy]
 rfl
theorem zfh:∀(m:Nat) (d:Int),(allL d m).Nodup
 | 0,d=>by show[[d]].Nodup;simp
 | m+1,d=>by
  rw[zpw];refine List.pairwise_flatMap.mpr ⟨fun e _=>?_,xmr.imp fun {a b} ne x hx y hy h=>?_⟩
  ·exact List.pairwise_map.mpr ((zfh m _).imp fun {a b} ne h=>ne (List.cons.inj h).2)
  ·obtain⟨r,_,rfl⟩:=xbr.mp hx;obtain⟨s,_,rfl⟩:=xbr.mp hy;have:=(List.cons.inj h).1;lia
end Dd
namespace Dd
open PySem L2
section
variable {k:Nat}{d:D}{st:Store}
end
section
variable {st:Store}{Q:D->Store->Prop}
end
section
variable {st:Store}{k:Nat}{d:D}{m:Int}{Q:D->Store->Prop}
end
section
variable {st:Store}{Q:D->Store->Prop}
end
section
variable {st:Store}{k:Nat}{d:D}{Q:D->Store->Prop}
end
section
variable {st:Store}{n:Nat}{Q:D->Store->Prop}
end
end Dd
namespace K37
end K37
namespace Dd
open PySem L2
section
variable {st:Store}{n:Nat}{Q:D->Store->Prop}
theorem _root_.List.set_getElem_self' {α:Type}{s:List α}{m:Nat}{x:α}(h:s[m]?=some x):s.set m x=s:=by
 obtain⟨hm,rfl⟩:=xbh.mp h;exact List.set_getElem_self hm
end
end Dd
namespace K39
end K39
namespace Dd
open PySem L2
namespace Tab
/- the law's side -/
/- what is looked at -/
end Tab
namespace Tab
theorem wp_grow {α:Type}{bd:SG}{body:SS}{st:Store}{Q:Fl->Store->Prop}(E:α->D)(f:α->List D)(S:DS->Prop)(B:Nat){as:List α}{acc:List D}{σ:DS}{g:Store}(h0:S σ)(hB:(acc++as.flatMap f).length<=B)
  (t:∀a∈as,∀σ acc g,S σ->(acc++f a).length<=B->∃σ1,bd (E a) σ=some σ1/\∀R:Fl->Store->Prop,(∀σ' g',S σ'->R (.nx σ') (st++(.lst (acc++f a)::g')))->WP (body σ1 (st++(.lst acc::g))) R)
  (q:∀σ' g',S σ'->Q (.nx σ') (st++(.lst (acc++as.flatMap f)::g'))):WP (forF bd body (as.map E) σ (st++(.lst acc::g))) Q:=by
 refine zdr (fun i σ s=>∃g,S σ/\s=st++(.lst (acc++(as.take i).flatMap f)::g)) ⟨g,h0,by simp⟩ ?_ ?_
 ·rintro i x σ s hx ⟨g,hS,rfl⟩;rw[xcn] at hx;obtain⟨z,hz,rfl⟩:=xdg.mp hx;have e:(as.take (i+1)).flatMap f=(as.take i).flatMap f++f z:=by rw[zm hz,List.flatMap_append];simp
  have hl:((as.take (i+1)).flatMap f).length<=(as.flatMap f).length:=by
   conv=>rhs;rw[← xdn (i+1) as,List.flatMap_append,xbj]
   lia
  rw[e] at hl;rw[xbj] at hB hl;obtain⟨σ1,e1,w⟩:=t z (xca hz) σ (acc++(as.take i).flatMap f) g hS (by simp only[xbj];lia);refine⟨σ1,e1,w _ fun σ' g' h'=>?_⟩;simp only[L];exact⟨g',h',by rw[e,xcg]⟩
 ·rintro σ s ⟨g,hS,rfl⟩;rw[xbb,xcp];exact q _ _ hS
section
variable {st:Store}{Q:D->Store->Prop}
end
end Tab
end Dd
namespace Dd
open PySem L2 K13
noncomputable def bitK (Q:D->Store->Prop):D->Store->Prop:=fun v s=>match v with
 | .int i=>Q (.int (Builtin.Int.intBits i)) s
 | _=>False
theorem zrh {f:SE}{σ:DS}{st:Store}{Q:D->Store->Prop}:WP (eBits f σ st) Q=WP (f σ st) (bitK Q):=by
 unfold eBits;rw[zf]
 congr
 funext x s
 cases x<;>rfl
theorem znr {i:Int}{Q:D->Store->Prop}{s:Store}:bitK Q (.int i) s=Q (.int (Builtin.Int.intBits i)) s:=rfl
theorem zrg {σ:DS}{st:Store}{Q:D->Store->Prop}:WP (eDNewI σ st) Q=Q (.ref st.length) (st++[.dI []]):=rfl
theorem zbij {neg:Bool}{st:Store}{n:Nat}{k:Int}{kvs:List (Int×D)}(h:st[n]?=some (.dI kvs)):oIIn neg (.int k) (.ref n) st=.ok (.bl (if neg then !(valI kvs k).isSome else(valI kvs k).isSome)) st:=by
 unfold oIIn intsOf;simp only[h]
theorem zzj {st:Store}{n:Nat}{k:Int}{v:D}{kvs:List (Int×D)}(h:st[n]?=some (.dI kvs))(hv:valI kvs k=some v):oIGet (.ref n) (.int k) st=.ok v st:=by
 unfold oIGet intsOf;simp only[h,hv]
theorem zbex {f g h:SE}{σ:DS}{st:Store}{Q:Fl->Store->Prop}(q:WP (h σ st) (fun v s1=>WP (f σ s1) (fun x s2=>WP (g σ s2) (fun y s3=>∃n k kvs,x=.ref n/\y=.int k/\s3[n]?=some (.dI kvs)/\kvs.length < sizeLine/\Q (.nx σ) (s3.set n (.dI (putI kvs k v))))))):WP (sIPut f g h σ st) Q:=by
 unfold sIPut;rw[zf];refine q.mono fun v s1 q=>?_
 rw[zf];refine q.mono fun x s2 q=>?_
 rw[zf];refine q.mono fun y s3 q=>?_
 obtain⟨n,k,kvs,rfl,rfl,e,hl,q⟩:=q;simp only[e,hl,xeu];exact q
theorem zbey {f g h:SE}{σ:DS}{st:Store}{Q:Fl->Store->Prop}(q:WP (h σ st) (fun v s1=>WP (f σ s1) (fun x s2=>WP (g σ s2) (fun y s3=>∃n r kvs,x=.ref n/\y=aL r/\s3[n]?=some (.dT kvs)/\kvs.length < sizeLine/\Q (.nx σ) (s3.set n (.dT (putD kvs r v))))))):WP (sDPut f g h σ st) Q:=by
 unfold sDPut;rw[zf];refine q.mono fun v s1 q=>?_
 rw[zf];refine q.mono fun x s2 q=>?_
 rw[zf];refine q.mono fun y s3 q=>?_
 obtain⟨n,r,kvs,rfl,rfl,e,hl,q⟩:=q;rw[zef];simp only[e,hl,xeu];exact q
theorem zub {κ:Type}[DecidableEq κ]{kvs:List (κ×D)}{k j:κ}{v:D}:((if(kvs.any fun kv=>decide (kv.1=k))=true then kvs.map (fun kv=>if kv.1=k then(kv.1,v) else kv) else kvs++[(k,v)]).find? fun kv=>decide (kv.1=j)).map (·.2)=if j=k then some v else(kvs.find? fun kv=>decide (kv.1=j)).map (·.2):=by
 by_cases c:(kvs.any fun kv=>decide (kv.1=k))=true
 ·rw[if_pos c]
  induction kvs with
  | nil=>simp at c
  | cons p kvs ih =>
   rw[xbt,xdj,xdj];by_cases e:p.1=k
   ·rw[if_pos e];by_cases z:p.1=j
    ·simp only[z,xfi,Option.map_some];rw[if_pos (z.symm.trans e)]
    ·have zk:¬ j=k:=fun q=>z (e.trans q.symm)
     simp only[z,xfs,if_neg zk];by_cases c2:(kvs.any fun kv=>decide (kv.1=k))=true
     ·rw[ih c2,if_neg zk]
     ·have:kvs.map (fun kv=>if kv.1=k then(kv.1,v) else kv)=kvs:=by
       refine(xjj fun q hq=>?_).trans (xna _);by_cases y:q.1=k
       ·exact absurd (xje.mpr ⟨q,hq,by simp[y]⟩) c2
       ·rw[if_neg y];rfl
      rw[this]
   ·rw[if_neg e];have c2:(kvs.any fun kv=>decide (kv.1=k))=true:=by rw[xhj,xcb e,Bool.false_or] at c;exact c
    by_cases z:p.1=j
    ·simp only[z,xfi];rw[if_neg (fun q=>e (z.trans q))]
    ·simp only[z,xfs];exact ih c2
 ·rw[if_neg c,List.find?_append];by_cases z:j=k
  ·subst z;have:kvs.find? (fun kv=>decide (kv.1=j))=none:=by
    refine xig.mpr fun q hq=>?_
    intro y;exact c (xje.mpr ⟨q,hq,y⟩)
   rw[this];simp
  ·rw[if_neg z];have:[(k,v)].find? (fun kv=>decide (kv.1=j))=none:=by
    rw[xdj];have:¬ k=j:=fun q=>z q.symm
    simp[this]
   rw[this,Option.or_none]
theorem zrn {kvs:List (Int×D)}{k j:Int}{v:D}:valI (putI kvs k v) j=if j=k then some v else valI kvs j:=zub
theorem zbam {kvs:List (Row×D)}{k j:Row}{v:D}:valD (putD kvs k v) j=if j=k then some v else valD kvs j:=zub
theorem zza {κ:Type}[DecidableEq κ]{kvs:List (κ×D)}{k:κ}{v:D}:(if(kvs.any fun kv=>decide (kv.1=k))=true then kvs.map (fun kv=>if kv.1=k then(kv.1,v) else kv) else kvs++[(k,v)]).length<=kvs.length+1:=by
 split
 ·rw[xbb];lia
 ·rw[xbj];exact xbf _
theorem zbba {kvs:List (Int×D)}{k:Int}{v:D}:(putI kvs k v).length<=kvs.length+1:=zza
theorem zbbb {kvs:List (Row×D)}{k:Row}{v:D}:(putD kvs k v).length<=kvs.length+1:=zza
theorem zvl {f:SE}{σ:DS}{st:Store}{Q:List D->Store->Prop}(h:WP (f σ st) (fun x s=>∃xs,x=.lst xs/\Q (numF 0 xs) s)):WP (iEn0 f σ st) Q:=by
 unfold iEn0;rw[zf];refine h.mono fun x s q=>?_
 obtain⟨xs,rfl,q⟩:=q;exact q
theorem small17 {n:Nat}(h:n < 16000000):n < sizeLine:=by rw[xin];lia
theorem znx {d:Int}(h0:0<=d)(m:Nat):(allL d m).length<=(d.toNat+1) ^ m:=by unfold allL;rw[xbb];exact zvc h0 m
theorem zbbj:∀(f m:Nat) {d:Int} {N:Int} {st:Store} {Q:D->Store->Prop},m<=f->m<=100->N=(m:Int)+1->0<=d->d<=1000->(d.toNat+1) ^ m<=100000 ->
  (∀g,Q (.lst (aJ (allL d m))) (st++g))->WP (iterF zg (f+1) [.int N,.int d] st) Q:=fun f=>by
 induction f with
 | zero =>
  intro m d N st Q hm _ hN h0 hd hb k;obtain rfl:m=0:=by lia
  show WP (fnD 4 2 _ [.int N,.int d] st) Q;refine zdm rfl ?_;simp only[W,V];rw[if_pos (show N=1 by lia)];refine⟨small _ (by simp),small _ (by simp),?_⟩;have:=k [];rw[xdd] at this;exact this
 | succ f ih =>
  intro m d N st Q hm hm2 hN h0 hd hb k;show WP (fnD 4 2 _ [.int N,.int d] st) Q;refine zdm rfl ?_;simp only[W,V];by_cases c:m=0
  ·subst c;rw[if_pos (show N=1 by lia)];refine⟨small _ (by simp),small _ (by simp),?_⟩;have:=k [];rw[xdd] at this;exact this
  ·obtain⟨j,rfl⟩:∃j,m=j+1:=⟨m - 1,by lia⟩
   rw[if_neg (show ¬ N=1 by lia)];simp only[W,V,Dd.N];refine⟨small _ (by simp),rngN (by lia) (by lia),?_⟩;have fl:=znx h0 (j+1);have hd1:(d+1).toNat=d.toNat+1:=by lia
   have e0:aJ (allL d (j+1))=(List.range (d.toNat+1)).flatMap fun e:Nat=>(allL (d - e) j).map fun r=>aL ((e:Int)::r):=by
    rw[zpw];unfold aJ;rw[xkp];simp only[xcy];rfl
   rw[hd1];unfold rng;refine Tab.wp_grow (fun e:Nat=>.int (0+(e:Int))) (fun e:Nat=>(allL (d - e) j).map fun r=>aL ((e:Int)::r)) (fun σ=>∃v,σ=[some (.int N),some (.int d),some (.ref st.length),v]) 100000 (acc:=[]) (g:=[]) ⟨_,rfl⟩ ?_ ?_ ?_
   ·rw[xkz,← e0,zn];lia
   ·rintro e he σ acc g ⟨v,rfl⟩ hB;have he:=xcd.mp he;refine⟨_,rfl,fun R hR=>?_⟩;rw[xix];unfold zbo;simp only[W,V,znz];refine⟨_,_,rfl,by simp;rfl,?_⟩;have pb:((d - (e:Int)).toNat+1) ^ j<=100000:=by
     have p1:((d - (e:Int)).toNat+1) ^ j<=(d.toNat+1) ^ j:=xlj (by lia) _;have p2:(d.toNat+1) ^ j<=(d.toNat+1) ^ (j+1):=xfx (by lia) (by lia);lia
    refine⟨trivial,trivial,?_⟩;refine ih j (d:=d - (e:Int)) (N:=N - 1) (by lia) (by lia) (by lia) (by lia) (by lia) pb fun g2=>?_
    refine⟨_,rfl,?_⟩;have fl2:=znx (show 0<=d - (e:Int) by lia) j;have fc:=fun r hr=>@zid (d - (e:Int)) (by lia) j r hr
    refine⟨by rw[zn];exact small _ (by lia),?_⟩;unfold aJ;refine zpx (fun σ=>∃v,σ=[v,some (.int (e:Int))]) (fun _=>true) (fun r=>aL ((e:Int)::r)) aL ⟨_,rfl⟩ ?_ ?_
    ·rintro r hr σ ⟨v,rfl⟩;refine⟨_,rfl,⟨_,rfl⟩,by simp only[W,xio],fun _=>?_⟩;simp only[W,V,aL];have:=(fc r hr).1;refine⟨small _ (by simp),small _ (by simp;lia),trivial,?_⟩;simp
    ·rw[zfb];rw[xbj] at hB;refine⟨_,_,_,rfl,by simp;rfl,rfl,by rw[xbb] at hB ⊢;exact small _ (by lia),?_⟩;have:=hR _ (g++g2) ⟨some (.int e),rfl⟩
     simpa using this
   ·rintro σ g ⟨v,rfl⟩;simp only[W,V,M,Dd.N,L];refine⟨_,_,rfl,by simp;rfl,?_⟩;rw[← e0];have:=k (.dead::g)
    simpa using this
noncomputable def twos (i:Nat):List Int:=(List.range i).map fun t=>((2 ^ t:Nat):Int)
structure Enough (d:Int) (i:Nat):Prop where
 low:∀t,t < i->2 * ((2 ^ t:Nat):Int)<=d
 top:d < 2 * ((2 ^ i:Nat):Int)
theorem zbbu {d:Int}{st:Store}{Q:D->Store->Prop}(h0:0<=d)(hd:d<=1000)(k:∀i g,Enough d i->Q (.lst ((twos i).map .int)) (st++g)):WP (zcc [.int d] st) Q:=by
 refine zdm rfl ?_;simp only[W,V];refine⟨small _ (by simp),?_⟩;refine zgz (fun m σ s=>∃i:Nat,m=(d+1 - ((2 ^ i:Nat):Int)).toNat/\σ=[some (.int d),some (.ref st.length),some (.int ((2 ^ i:Nat):Int))]/\s=st++[.lst ((twos i).map .int)]/\∀t,t < i->2 * ((2 ^ t:Nat):Int)<=d) (k:=(d+1 - ((2 ^ 0:Nat):Int)).toNat)
  ⟨0,rfl,rfl,by simp[twos],fun t ht=>absurd ht (by lia)⟩ (by lia) ?_
 rintro m σ s ⟨i,hm,rfl,rfl,low⟩;have p0:1<=2 ^ i:=Nat.one_le_two_pow;have p1:2 ^ (i+1)=2 * 2 ^ i:=by rw[xiy];lia
 simp only[W,V];refine⟨.inl ⟨by decide,by decide⟩,trivial,?_⟩;by_cases c:2 * ((2 ^ i:Nat):Int)<=d
 ·rw[if_pos c];have hi:i < 1000:=by
   have:i < 2 ^ i:=Nat.lt_two_pow_self;lia
  unfold zdk;simp only[W,V,M,Dd.N,L];refine⟨_,_,rfl,by simp;rfl,_,_,rfl,by simp;rfl,?_,?_⟩
  ·rw[xbb];unfold twos;rw[xbb,xej];exact small17 (by lia)
  ·refine⟨.inl ⟨by decide,by decide⟩,(d+1 - ((2 ^ (i+1):Nat):Int)).toNat,by lia,i+1,rfl,by rw[p1];simp,?_,fun t ht=>?_⟩
   ·unfold twos;rw[xib];simp
   ·by_cases z:t=i
    ·rw[z];exact c
    ·exact low t (by lia)
 ·rw[if_neg c];simp only[W,V,M,Dd.N,L];refine⟨_,_,rfl,by simp;rfl,?_⟩;have:=k i [.dead] ⟨low,by lia⟩
  simpa using this
section
variable {st:Store}{Q:D->Store->Prop}
noncomputable def srcs (d:Int) (m i:Nat):List (Int×Row):=(twos i).flatMap fun k=>(allL (d - k) m).map fun p=>(k,p)
noncomputable def srcD (p:Int×Row):D:=.tup [.int p.1,aL p.2]
structure Fit (m:Nat) (d:Int):Prop where
 m9:m<=9
 d0:0<=d
 d24:d<=24
 few:(d.toNat+1) ^ m<=100000
 ten:2 < m->d<=10
theorem Fit.less {m:Nat}{d k:Int}(h:Fit m d)(h0:0<=k)(hk:k<=d):Fit m (d - k):=⟨h.m9,by lia,by have:=h.d24;lia,xbc (xlj (by have:=h.d0;lia) _) h.few,fun z=>by have:=h.ten z;lia⟩
theorem Fit.len {m:Nat}{d:Int}(h:Fit m d):(allL d m).length<=100000:=xbc (znx h.d0 m) h.few
theorem Enough.few {d:Int}{i:Nat}(h:Enough d i)(hd:d<=24):i<=4:=by
 rcases xff 4 i with z | z
 ·have:=h.low 4 z;lia
 ·exact z
theorem zhd {d k:Int}{i:Nat}(h:Enough d i)(hk:k∈twos i):∃t,k=((2 ^ t:Nat):Int)/\2 * k<=d/\1<=k:=by
 unfold twos at hk;obtain⟨t,ht,rfl⟩:=xbr.mp hk;have:1<=2 ^ t:=Nat.one_le_two_pow;exact⟨t,rfl,h.low t (xcd.mp ht),by lia⟩
theorem zmf {m:Nat}{d:Int}(h:Fit m d):∀{ks:List Int},(∀k∈ks,0<=k/\k<=d)->(ks.flatMap fun k=>(allL (d - k) m).map fun p=>(k,p)).length<=ks.length * 100000
 | [],_=>xbf _
 | k::ks,hk=>by
  rw[xmh,xbj,xbb,xby];have a:=(h.less (hk k (xbn ..)).1 (hk k (xbn ..)).2).len;have b:=zmf h (ks:=ks) fun x hx=>hk x (xbk _ hx)
  lia
theorem zfu {N d:Int}{m:Nat}(hN:N=(m:Int)+1)(h:Fit m d)(k:∀i g,Enough d i->Q (.lst ((srcs d m i).map srcD)) (st++g)):WP (zbh [.int N,.int d] st) Q:=by
 have h24:=h.d24;have hd0:=h.d0;refine zdm rfl ?_;simp only[W,V];refine⟨small _ (by simp),?_⟩;refine zbbu h.d0 (by lia) fun i g0 en=>?_
 have i4:=en.few h24;simp only[Dd.N];have e0:(srcs d m i).map srcD=(twos i).flatMap fun k=>(allL (d - k) m).map fun p=>srcD (k,p):=by
  unfold srcs;rw[xkp];simp only[xcy];rfl
 rw[xcg];refine Tab.wp_grow (fun k:Int=>.int k) (fun k=>(allL (d - k) m).map fun p=>srcD (k,p)) (fun σ=>∃v,σ=[some (.int N),some (.int d),some (.ref st.length),v]) 500000 (acc:=[]) (g:=g0) ⟨_,rfl⟩ ?_ ?_ ?_
 ·rw[xkz,← e0,xbb];have:=zmf h (ks:=twos i) fun k hk=>by obtain⟨t,_,a,b⟩:=zhd en hk;lia
  have l:(twos i).length=i:=by unfold twos;simp
  rw[l] at this;unfold srcs;lia
 ·rintro k hk σ acc g ⟨v,rfl⟩ hB;obtain⟨t,_,a,b⟩:=zhd en hk;have hf:=h.less (k:=k) (by lia) (by lia);refine⟨_,rfl,fun R hR=>?_⟩;unfold zcn;simp only[W,V,znz];refine⟨_,_,rfl,by simp;rfl,?_⟩;refine⟨trivial,zbbj 9 m (d:=d - k) (N:=N) hf.m9 (by have:=hf.m9;lia) hN hf.d0 (by lia) hf.few fun g2=>?_⟩;refine⟨_,rfl,by rw[zn];exact small _ (by have:=hf.len;lia),?_⟩;unfold aJ;refine zpx (fun σ=>∃v,σ=[v,some (.int k)]) (fun _=>true) (fun r=>srcD (k,r)) aL ⟨_,rfl⟩ ?_ ?_
  ·rintro r hr σ ⟨v,rfl⟩;refine⟨_,rfl,⟨_,rfl⟩,by simp only[W,xio],fun _=>?_⟩;simp only[W,V];exact⟨small _ (by simp),trivial,rfl⟩
  ·rw[zfb];rw[xbj] at hB;refine⟨_,_,_,rfl,by simp;rfl,rfl,by rw[xbb] at hB ⊢;exact small _ (by lia),?_⟩;have:=hR _ (g++g2) ⟨some (.int k),rfl⟩
   simpa using this
 ·rintro σ g ⟨v,rfl⟩;simp only[W,V,M,Dd.N,L];refine⟨_,_,rfl,by simp;rfl,?_⟩;rw[← e0];have:=k i (.dead::g) en
  simpa using this
structure Plc (AL:List Row) (i:Nat) (kvs:List (Row×D)):Prop where
 val:∀r,valD kvs r=if AL.idxOf r < i then some (.int (AL.idxOf r:Int)) else none
 len:kvs.length<=i
theorem zbnf {AL:List Row}(nd:AL.Nodup){i:Nat}{r:Row}(h:AL[i]?=some r)(x:Row):AL.idxOf x=i↔x=r:=by
 obtain⟨hi,e⟩:=xbh.mp h;constructor
 ·intro q;have:AL.idxOf x < AL.length:=by lia
  have:=xlt this;rw[← this,← e];simp only[q]
 ·intro q;rw[q,← e];exact List.Nodup.idxOf_getElem nd i hi
theorem Plc.put {AL:List Row}(nd:AL.Nodup){i:Nat}{r:Row}{kvs:List (Row×D)}(h:Plc AL i kvs)(hr:AL[i]?=some r):Plc AL (i+1) (putD kvs r (.int (0+(i:Int)))):=⟨fun x=>by
 rw[zbam,h.val x];have q:=zbnf nd hr x;by_cases c:x=r
 ·rw[if_pos c,q.mpr c,if_pos (by lia),xix]
 ·rw[if_neg c];have:AL.idxOf x≠i:=fun z=>c (q.mp z)
  by_cases d:AL.idxOf x < i
  ·rw[if_pos d,if_pos (by lia)]
  ·rw[if_neg d,if_neg (by lia)],xbc zbbb (by have:=h.len;lia)⟩
theorem Plc.at {AL:List Row}{kvs:List (Row×D)}(h:Plc AL AL.length kvs){r:Row}(hr:r∈AL):valD kvs r=some (.int (AL.idxOf r:Int)):=by
 rw[h.val,if_pos (xga hr)]
theorem zoo {AL:List Row}(nd:AL.Nodup)(hl:AL.length<=100000)(k:∀kvs,Plc AL AL.length kvs->Q (.ref st.length) (st++[.dT kvs])):WP (zcg [.lst (aJ AL)] st) Q:=by
 refine zdm rfl ?_;simp only[W,V];refine zvl ?_;simp only[W,V];refine⟨_,rfl,?_⟩;refine zdr (fun i σ s=>(∃v w,σ=[some (.lst (aJ AL)),some (.ref st.length),v,w])/\∃kvs,s=st++[.dT kvs]/\Plc AL i kvs) ⟨⟨_,_,rfl⟩,[],rfl,fun r=>(by rw[if_neg (by lia)];rfl),xbf _⟩ ?_ ?_
 ·rintro i x σ s hx ⟨⟨v,w,rfl⟩,kvs,rfl,pl⟩;obtain⟨y,hy,rfl⟩:=zfz hx;obtain⟨r,hr,rfl⟩:=zbz hy;have hi:i < AL.length:=(xbh.mp hr).1;refine⟨_,rfl,?_⟩;unfold zfi;refine zbey ?_;simp only[W,V,L];exact⟨_,_,_,rfl,rfl,by simp;rfl,small17 (by have:=pl.len;lia),⟨_,_,rfl⟩,_,by simp,pl.put nd hr⟩
 ·rintro σ s ⟨⟨v,w,rfl⟩,kvs,rfl,pl⟩;rw[zce,zn] at pl;simp only[W,V];exact k kvs pl
theorem zmw {l:List Row}{i:Nat}{r:Row}(nd:l.Nodup)(h:l[i]?=some r):r∉l.take i:=fun hm=>by
 have n:=nd.sublist (xkd (i+1) l);rw[zm h] at n;exact(xip.mp n).2.2 r hm r (by simp) rfl
theorem zib {AL l:List Row}{n:Nat}{kvs:List (Row×D)}(hp:st[n]?=some (.dT kvs))(pl:Plc AL AL.length kvs)(hl:AL.length<=100000)(nd:l.Nodup)(hm:∀x∈l,x∈AL)(q:Q (.int (xr l (pw AL):Nat)) st):WP (zch [.ref n,aK l] st) Q:=by
 refine zdm rfl ?_;simp only[W,V,Dd.N];refine zdr (fun i σ s=>(∃v,σ=[some (.ref n),some (aK l),some (.int (xr (l.take i) (pw AL):Nat)),v])/\s=st) ⟨⟨_,rfl⟩,rfl⟩ ?_ ?_
 ·rintro i x σ s hx ⟨⟨v,rfl⟩,rfl⟩;obtain⟨r,hr,rfl⟩:=zbz hx;have hrm:=xca hr;have hix:=xga (hm r hrm);refine⟨_,rfl,?_⟩;unfold zfo;simp only[W,V];rw[ztf (zjo hp) (pl.at (hm r hrm))];simp only[W,V,L];refine⟨⟨by lia,by lia,by decide⟩,trivial,⟨some (aL r),?_⟩,trivial⟩;have nw:=zbhl (AL:=AL) (l:=l.take i) (r:=r) (fun x hx=>hm x (xgl hx)) (hm r hrm) (zmw nd hr);rw[show(1:Int) * 2 ^ (AL.idxOf r:Int).toNat=((2 ^ AL.idxOf r:Nat):Int) by rw[Int.one_mul,xec];simp,zpo,nw.2,← zm hr]
 ·rintro σ s ⟨⟨v,rfl⟩,rfl⟩;rw[zn,xcp];simp only[W,V];exact q
end
section
variable {st:Store}{Q:D->Store->Prop}
theorem len59 {m:Nat}{xs:List D}(h:st[m]?=some (.lst xs)):bLen [.ref m] st=.ok (.int xs.length) st:=by
 unfold bLen;dsimp only;rw[show seqOf st (.ref m)=some xs from zjd h]
theorem Fit.box {m:Nat}{d:Int}(h:Fit m d){p:Row}(f1:p.length=m+1)(f2:Nn p)(f3:p.sum<=d):Dd.box p<=20000:=by
 have h24:=h.d24;have x24:∀x∈p,x<=24:=fun x hx=>by have:=zbkm f2 x hx;lia
 by_cases c:m<=2
 ·have b1:=zbae x24;rw[f1] at b1;have b2:25 ^ (m+1)<=25 ^ 3:=xfx (by lia) (by lia);lia
 ·have t:=h.ten (by lia);have b1:=zbad f2;have b2:2 ^ p.sum.toNat<=2 ^ 10:=xfx (by lia) (by lia);lia
theorem zbay {m:Nat}{d k:Int}{p x:Row}(h0:0<=k)(hp:Mon (m+1) (d - k) p)(hx:x∈aO (raiseL k [p])):x∈allL d m:=by
 have h1:=zjw hx;rw[show raiseL k [p]=raiseR k p by unfold raiseL;simp,zew hp.nn h0] at h1;obtain⟨a,b⟩:=xeo.mp h1;exact znw ((zin hp.nn x a).2.trans hp.len) (zrj p hp.nn x a) (by rw[xdl b,hp.sum];lia)
theorem zkm {m:Nat}{d:Int}(h0:0<=d){p:Row}(h:p∈allL d m):Mon (m+1) d p:=by
 obtain⟨a,b,c⟩:=zid h0 h;exact⟨a,b,c⟩
end
section
variable {st:Store}{Q:D->Store->Prop}
end
end Dd
namespace Dd
open PySem L2
noncomputable def Sh (n:Nat) (d:D):Prop:=∃p,toData d=some p/\p.canLay0=true/\p.depth<=n
theorem Sh.bl {n:Nat}{b:Bool}:Sh n (.bl b):=⟨_,rfl,rfl,xea _⟩
theorem Sh.str {n:Nat}{x:Str}(h:(PyData.str x).canLay0=true):Sh n (.str x):=⟨_,rfl,h,xea _⟩
theorem Sh.all {n:Nat}:∀{ds:List D},(∀d∈ds,Sh n d)->∃ps,toDatas ds=some ps/\PyData.canLayAll0 ps=true/\PyData.depthAll ps<=n
 | [],_=>⟨[],rfl,rfl,xea _⟩
 | d::ds,h=>by
  obtain⟨p,e,h1,h2⟩:=h d (by simp);obtain⟨ps,es,h3,h4⟩:=Sh.all (ds:=ds) fun x hx=>h x (by simp[hx])
  refine⟨p::ps,by rw[toDatas,e,es];rfl,?_,?_⟩
  ·show(p.canLay0&&PyData.canLayAll0 ps)=true;rw[h1,h3];rfl
  ·show max p.depth (PyData.depthAll ps)<=n;lia
theorem Sh.lst {n:Nat}{ds:List D}(h:∀d∈ds,Sh n d):Sh (n+1) (.lst ds):=by
 obtain⟨ps,e,h1,h2⟩:=Sh.all h;exact⟨.list ps,by rw[toData,e];rfl,h1,xfc h2⟩
theorem Sh.mono {n m:Nat}(h:n<=m){d:D}(s:Sh n d):Sh m d:=by
 obtain⟨p,e,h1,h2⟩:=s;exact⟨p,e,h1,xbc h2 h⟩
theorem Sh.ok {d:D}{p:PyData}(e:toData d=some p)(h1:p.canLay0=true)(h2:p.depth<=64):PySem.SeqAt.shaped p=true/\PyData.eqv p p=true:=by
 refine⟨?_,PySem.SeqAt.eqv_refl p h1⟩;show(p.canLay0&&decide (p.depth<=64))=true;rw[h1,xcj h2];rfl
theorem zpd {neg:Bool}{x y d:D}{st:Store}(hx:now st x=d)(hy:now st y=d)(h:Sh 64 d):oEqG neg x y st=.ok (.bl (!neg)) st:=by
 obtain⟨p,e,h1,h2⟩:=h;obtain⟨s1,s2⟩:=Sh.ok e h1 h2;unfold oEqG dataOf;rw[hx,hy,e];dsimp only;rw[if_pos ⟨s1,s1⟩,s2];cases neg<;>rfl
theorem zbhm {st:Store}{n:Nat}{xs:List D}(h:st[n]?=some (.lst xs)):now st (.ref n)=.lst xs:=by
 unfold now;rw[show asL st (.ref n)=some xs from by unfold asL;dsimp only;rw[h]]
end Dd
namespace Dd
open PySem L2 K13
section
variable {st:Store}{Q:D->Store->Prop}
noncomputable def stands (A:Tab):Nat->List Row->List Row
 | _,[]=>[]
 | i,r::l=>if(A (i+1)).isSome=true then stands A (i+1) l else r::stands A (i+1) l
theorem zio (A:Tab)(r:Row):∀(l:List Row) (i:Nat),stands A i (l++[r])=stands A i l++(if(A (i+l.length+1)).isSome=true then[] else[r])
 | [],i=>by
  show stands A i [r]=_;unfold stands
  rfl
 | x::l,i=>by
  show stands A i (x::(l++[r]))=_;unfold stands;rw[zio A r l,show i+1+l.length+1=i+(x::l).length+1 by rw[xby];lia];split
  ·rfl
  ·rfl
theorem zbcx:(List.range 10).all (fun i=>(List.range 25).all fun d=>decide ((d:Int)<=mostD ((i:Int)+1)->cntP (d:Int) i<=200))=true:=by decide +kernel
theorem zbaq:(List.range 10).all (fun i=>decide (2 < i->mostD ((i:Int)+1)<=10))=true:=by decide +kernel
theorem zbcy {N d:Int}(h1:1<=N)(h2:N<=10)(d0:0<=d)(hd:d<=mostD N):cntP d (N - 1).toNat<=200/\Fit (N - 1).toNat d:=by
 obtain⟨f1,f2,f3⟩:=zcv h1 h2;have d24:d<=24:=by split at f2<;>lia
 obtain⟨i,hi⟩:∃i:Nat,N=(i:Int)+1:=⟨(N - 1).toNat,by lia⟩
 obtain⟨e,rfl⟩:=xeb d0;have hi2:(N - 1).toNat=i:=by lia
 rw[hi2];have a:=xdl (xcw.mp (xcw.mp zbcx i (xcd.mpr (by lia))) e (xcd.mpr (by lia)));have b:=xdl (xcw.mp zbaq i (xcd.mpr (by lia)));rw[← hi] at a b;refine⟨a hd,by lia,by lia,by lia,?_,fun z=>by have:=b z;lia⟩;rw[hi2] at f3;exact xbc (xlj (by lia) _) f3
theorem zrw {neg:SE}{n:Nat}{kvs:List (Int×D)}{A:Tab}{AL:List Row}{σ0:DS}{Q:List D->Store->Prop}(hn:st[n]?=some (.dI kvs))(hσ:∃v w,σ0=[v,w,some (.ref n)])
  (hneg:∀(i:Nat) (r:Row),WP (neg [some (.int (0+(i:Int))),some (aL r),some (.ref n)] st) (fun x s=>∃k:Int,x=.int k/\s=st/\(valI kvs k).isSome=(A (i+1)).isSome))(q:Q (aJ (stands A 0 AL)) st) :
  WP (compF (gT 2 (gsCons (gN 0) (gsCons (gN 1) gsNil))) (eB (aS (oIIn true) neg (aA 2))) (aA 1) (numF 0 (aJ AL)) σ0 st) Q:=by
 refine zoa (fun i acc σ s=>(∃v w,σ=[v,w,some (.ref n)])/\s=st/\acc=aJ (stands A 0 (AL.take i))) ⟨hσ,rfl,rfl⟩ ?_ ?_
 ·rintro i x acc σ s hx ⟨⟨v,w,rfl⟩,rfl,rfl⟩;obtain⟨y,hy,rfl⟩:=zfz hx;obtain⟨r,hr,rfl⟩:=zbz hy;have hi:i < AL.length:=(xbh.mp hr).1;refine⟨_,rfl,?_⟩;simp only[W,V];refine(hneg i r).mono fun x s' hx=>?_
  obtain⟨k,rfl,rfl,hk⟩:=hx
  try simp only[W,V]
  rw[zbij hn];simp only[W,V,xeu,hk];have sn:=zio A r (AL.take i) 0;rw[← zm hr,List.length_take_of_le (by lia),xdw] at sn;cases e:(A (i+1)).isSome with
  | true =>
   rw[e,if_pos rfl,xdd] at sn;rw[if_neg (by decide)];exact⟨⟨_,_,rfl⟩,trivial,by rw[sn]⟩
  | false =>
   rw[e,if_neg (by decide)] at sn;rw[if_pos rfl];refine⟨⟨_,_,rfl⟩,trivial,?_⟩;rw[sn];unfold aJ;rw[xds];rfl
 ·rintro ys σ s ⟨_,rfl,rfl⟩;rw[zce,zn,xcp];exact q
end
end Dd
namespace K59
end K59
namespace Dd
open PySem L2 K13
section
variable {st:Store}{Q:D->Store->Prop}{f:Row->Nat}
noncomputable abbrev gv (f:Row->Nat) (p:Int×Row):Nat:=T p.1 f p.2
noncomputable def ux (f:Row->Nat) (so:List (Int×Row)) (u:Nat):Nat:=xr (List.range so.length) fun j=>if u.testBit j=true then gv f (so.getD j (0,[])) else 0
theorem zbfg (f:Row->Nat)(so:List (Int×Row)):ux f so 0=0:=by
 unfold ux;rw[zdq (g:=fun _=>0) fun j _=>by rw[xmt];rfl,zre]
theorem zbfh (so:List (Int×Row))(u w:Nat):ux f so (u ^^^ w)=ux f so u ^^^ ux f so w:=by
 unfold ux;rw[← zber];exact zdq fun j _=>by rw[xii,xif]
theorem zyk {so:List (Int×Row)}{u:Nat}(h:u < 2 ^ so.length)(p:Int×Row):ux f (so++[p]) u=ux f so u:=by
 unfold ux;rw[xbj,show so.length+[p].length=so.length+1 from rfl,zbes,xgw h,if_neg (by decide),xfh];refine zdq fun j hj=>?_
 have:=xcd.mp hj;rw[xbi,xbi,xbu this]
theorem zbfi {so:List (Int×Row)}{u:Nat}(h:u < 2 ^ so.length)(p:Int×Row):ux f (so++[p]) (u ||| 2 ^ so.length)=ux f so u ^^^ gv f p/\u ||| 2 ^ so.length < 2 ^ (so++[p]).length:=by
 have z:=zbai (xgw h);obtain⟨o1,o2⟩:=orx u (2 ^ so.length);have e:u ||| 2 ^ so.length=u ^^^ 2 ^ so.length:=by lia
 refine⟨?_,?_⟩
 ·rw[e,zbfh,zyk h]
  congr 1
  unfold ux;rw[xbj,show so.length+[p].length=so.length+1 from rfl,zyi (k:=so.length) (by lia) fun j hj=>?_]
  ·rw[Nat.testBit_two_pow_self,if_pos rfl,xbi,xcs (xbf _),xjq];rfl
  ·rw[xht,xcb (by lia)];rfl
 ·rw[xbj,show so.length+[p].length=so.length+1 from rfl,xiy];lia
structure PRepU (f:Row->Nat) (so:List (Int×Row)) (A:Tab) (kvs:List (Int×D)):Prop where
 yes:∀k v,A k=some v->∃u:Nat,valI kvs k=some (.tup [.int (v:Nat),.int (u:Nat)])/\v=ux f so u/\u < 2 ^ so.length
 no:∀k:Nat,A k=none->valI kvs k=none
theorem PRepU.is {so:List (Int×Row)}{A:Tab}{kvs:List (Int×D)}(h:PRepU f so A kvs)(k:Nat):(valI kvs k).isSome=(A k).isSome:=by
 cases e:A k with
 | none=>rw[h.no k e];rfl
 | some v=>obtain⟨u,z,_⟩:=h.yes k v e;rw[z];rfl
theorem PRepU.put {so:List (Int×Row)}{A:Tab}{kvs:List (Int×D)}(h:PRepU f so A kvs)(k v u:Nat)(p:Int×Row)(hv:v=ux f so u ^^^ gv f p)(hu:u < 2 ^ so.length):PRepU f (so++[p]) (setT A k v) (putI kvs k (.tup [.int (v:Nat),.int ((u ||| 2 ^ so.length:Nat):Int)])):=⟨fun j w e=>by
 unfold setT at e;rw[zrn];by_cases c:j=k
 ·rw[if_pos c] at e;cases e;rw[if_pos (by rw[c])];exact⟨_,rfl,by rw[(zbfi hu p).1,hv],(zbfi (f:=f) hu p).2⟩
 ·rw[if_neg c] at e;rw[if_neg (by lia)]
  obtain⟨u,a,b,c⟩:=h.yes j w e;refine⟨u,a,by rw[zyk c,b],?_⟩;rw[xbj];exact xbg c (xfx (by decide) (by lia)),fun j e=>by
 unfold setT at e;rw[zrn];by_cases c:j=k
 ·rw[if_pos c] at e;cases e
 ·rw[if_neg c] at e;rw[if_neg (by lia)];exact h.no j e⟩
theorem zhp {N x n:Nat}{so:List (Int×Row)}{A:Tab}{gs:List Nat}{kvs:List (Int×D)}(hn:st[n]?=some (.dI kvs))(rp:PRepU f so A kvs)(ld:Lds N A gs)(hx:bl x<=N)(hN:N<=100000)
  (k:∀y u:Nat,Less N A x y->(y≠0->A (bl y)=none)->x ^^^ y=ux f so u->u < 2 ^ so.length->Q (.tup [.int (y:Nat),.int (u:Nat)]) st):WP (zdb [.ref n,.int (x:Nat)] st) Q:=by
 refine zdm rfl ?_;simp only[W,V];refine zgz (fun m σ s=>∃(y u:Nat) (v:Option D),m=bl y/\σ=[some (.ref n),some (.int (y:Nat)),some (.int (u:Nat)),v]/\s=st/\Less N A x y/\x ^^^ y=ux f so u/\u < 2 ^ so.length) (k:=bl x) ⟨x,0,_,rfl,rfl,rfl,.refl hx,by rw[xgb,zbfg],xjm _⟩ (by lia) ?_;rintro m σ s ⟨y,u,v,rfl,rfl,rfl,ls,ex,ul⟩;simp only[W,V];refine⟨_,rfl,?_⟩;by_cases c:y=0
 ·subst c;rw[show(((0:Nat):Int) != 0)=false from rfl,if_neg (by decide)];exact⟨small _ (by simp),k 0 u ls (fun z=>absurd rfl z) ex ul⟩
 ·rw[show(((y:Nat):Int) != 0)=true by simp[c],if_pos rfl,zrh];simp only[W,V,znr];rw[zgd,zbij hn];simp only[W,V,rp.is,xcl,xdx];cases e:A (bl y) with
  | none =>
   simp only[Option.isSome_none,xcl,xdx,W,V];exact⟨small _ (by simp),k y u ls (fun _=>e) ex ul⟩
  | some w =>
   simp only[Option.isSome_some,xeu];obtain⟨u',hu,hw,ul'⟩:=rp.yes _ _ e;obtain⟨l2,l3⟩:=ls.step ld c e;unfold zgm;simp only[W,V,zrh,znr];rw[zgd,zzj hn hu];simp only[W,V,M,Dd.N,L];refine zik rfl rfl ?_;simp only[W,V];rw[zhz];refine⟨trivial,zik rfl rfl ?_⟩;simp only[W,V];rw[zhz];exact⟨trivial,_,l3,_,_,_,rfl,rfl,trivial,l2,by rw[← xef,ex,zbfh,← hw],xlr ul ul'⟩
theorem zgj {N d:Int}{m n:Nat}{pk:List (Row×D)}(hN:N=(m:Int)+1)(h:Fit m d)(hp:st[n]?=some (.dT pk))(pl:Plc (allL d m) (allL d m).length pk)
  (k:∀kvs so g A i,Enough d i->PRepU (pw (allL d m)) so A kvs->(∀p∈so,p∈srcs d m i)->so.length<=400000->Lds (allL d m).length A ((srcs d m i).map (gv (pw (allL d m))))->Q (.tup [.ref st.length,.lst (so.map srcD)]) (st++.dI kvs::.dead::g)):WP (zci [.int N,.int d,.ref n] st) Q:=by
 have hl:=h.len;have h24:=h.d24;refine zdm rfl ?_;simp only[W,V,zrg];refine⟨small _ (by simp),?_⟩;refine zfu hN h fun i g0 en=>?_
 simp only[Dd.N];have i4:=en.few h24;have sl:(srcs d m i).length<=400000:=by
  have:=zmf h (ks:=twos i) fun k hk=>by obtain⟨t,_,a,b⟩:=zhd en hk;lia
  have l:(twos i).length=i:=by unfold twos;simp
  rw[l] at this;unfold srcs;lia
 have mem:∀p∈srcs d m i,1<=p.1/\2 * p.1<=d/\Mon (m+1) (d - p.1) p.2:=fun p hp=>by
  unfold srcs at hp;obtain⟨k,hk,hp⟩:=xfd.mp hp;obtain⟨r,hr,rfl⟩:=xbr.mp hp;obtain⟨t,_,a,b⟩:=zhd en hk;exact⟨b,a,zkm (by lia) hr⟩
 have k:=fun kvs so g A=>k kvs so g A i en
 generalize srcs d m i=ss at sl mem k ⊢;generalize hAL:allL d m=AL at *
 refine zdr (fun j σ s=>(∃v5 v6 v7,σ=[some (.int N),some (.int d),some (.ref n),some (.ref st.length),some (.ref (st.length+1)),v5,v6,v7])/\∃kvs so g A,s=st++.dI kvs::.lst (so.map srcD)::g/\kvs.length<=j/\so.length<=j/\(∀p∈so,p∈ss)/\PRepU (pw AL) so A kvs/\Lds AL.length A ((ss.take j).map (gv (pw AL))))
  ⟨⟨none,none,none,by simp⟩,[],[],g0,fun _=>none,by simp,xbf _,xbf _,fun p hp=>absurd hp (by simp),⟨(fun _ _ e=>nomatch e),fun _ _=>rfl⟩,Lds.nil _⟩ ?_ ?_
 ·rintro j x σ s hx ⟨⟨v5,v6,v7,rfl⟩,kvs,so,g,A,rfl,hk,hs,sm,rp,ld⟩;obtain⟨p,hpj,rfl⟩:=zhl hx;obtain⟨p1,p2,p3⟩:=mem p (xca hpj);have hj:j < ss.length:=(xbh.mp hpj).1;refine⟨_,rfl,?_⟩;unfold zfp;simp only[W,V];refine⟨small _ (by simp),?_⟩;have one:∀{P:Row->Prop},P p.2->∀r∈[p.2],P r:=fun h r hr=>by simp at hr;subst hr;exact h
  have hsum:=p3.sum;refine zwj (l:=[p.2]) (by lia) (one fun x hx=>⟨p3.nn x hx,by have:=zbkm p3.nn x hx;lia⟩) (one (by have:=p3.len;have:=h.m9;lia)) (one (h.box p3.len p3.nn (by lia))) (by simp) fun g2=>?_
  have inn:∀x∈aO (raiseL p.1 [p.2]),x∈AL:=fun x hx=>by rw[← hAL];exact zbay (by lia) p3 hx
  have hn:n < st.length:=(xbh.mp hp).1;have hp':((st++.dI kvs::.lst (so.map srcD)::g)++g2)[n]?=some (.dT pk):=by rw[xcg,xbu hn];exact hp
  refine zib hp' pl hl (zhk _) inn ?_;have hb:=zlv.mpr (zbkr (fun x hx=>pw_lt (inn x hx)):xr (aO (raiseL p.1 [p.2])) (pw AL) < 2 ^ AL.length);rw[zbkg (by lia) p3.nn] at hb ⊢;refine zhp (kvs:=kvs) (by simp) rp ld hb hl fun y u ls hy ex ul=>?_
  refine zik rfl rfl ⟨_,rfl,?_⟩;by_cases c:y=0
  ·subst c;rw[show(((0:Nat):Int) != 0)=false from rfl,if_neg (by decide)];simp only[L];refine⟨⟨_,_,_,rfl⟩,kvs,so,g++g2,A,by simp,by lia,by lia,sm,rp,?_⟩;rw[zm hpj,xds];exact ld.keep ls
  ·rw[show(((y:Nat):Int) != 0)=true by simp[c],if_pos rfl];refine zbex ?_;simp only[W,V,M,Dd.N,zrh];refine zik rfl rfl ?_;refine zik rfl rfl ?_;have e1:((st++.dI kvs::.lst (so.map srcD)::g)++g2)[st.length+1]?=some (.lst (so.map srcD)):=by simp
   rw[len59 e1,xbb];simp only[W,V];refine⟨⟨by lia,by lia,by decide⟩,trivial,small _ (by simp),zik rfl rfl ?_⟩;rw[znr,zgd,show(1:Int) * 2 ^ (so.length:Int).toNat=((2 ^ so.length:Nat):Int) by rw[Int.one_mul,xec];simp,zpo];refine⟨_,_,kvs,rfl,rfl,by simp,small17 (by lia),_,_,rfl,by simp;rfl,?_⟩;simp only[W,V,M,Dd.N,L];have val:y=ux (pw AL) so u ^^^ gv (pw AL) p:=by rw[← ex,Nat.xor_comm (T p.1 (pw AL) p.2),xef,xgb,xfh]
   refine⟨small _ (by simp),_,so.map srcD,rfl,by simp,small17 (by rw[xbb];lia),⟨_,_,_,rfl⟩,putI kvs (bl y:Nat) _,so++[p],g++g2,setT A (bl y) y,by simp;rfl,xbc zbba (by lia),by simp;lia,fun q hq=>?_,rp.put (bl y) y u p val ul,?_⟩
   ·rcases xbw.mp hq with z | z
    ·exact sm q z
    ·rw[xbq.mp z];exact xca hpj
   ·rw[zm hpj,xds];exact ld.put ls c (hy c)
 ·rintro σ s ⟨⟨v5,v6,v7,rfl⟩,kvs,so,g,A,rfl,hk,hs,sm,rp,ld⟩;rw[xbb,xcp] at ld;rw[xbb] at hs;simp only[W,V,M,Dd.N,L];refine⟨_,_,rfl,by simp;rfl,small _ (by simp),?_⟩;have:=k kvs so g A rp sm (by lia) ld
  simpa using this
end
end Dd
namespace Dd
open PySem L2 K07 K23
section
variable {σ:DS}{st st2:Store}{f:SE}{g:SA}{L:Nat}{k:Int}{d v:D}{kv0 kvs:List (Int×D)}
theorem zsd (hf:f σ st=.ok (.ref L) st)(h0:st[L]?=some (.dI kv0))(hg:g σ st=.ok [.int k,d] st2)(h1:st2[L]?=some (.dI kvs))(hl:kvs.length < sizeLine)(hv:valI kvs k=some v):eSetDI f g σ st=.ok v st2:=by
 unfold eSetDI;rw[hf,zcy];dsimp only;rw[h0];dsimp only;rw[hg,zcy]
 try dsimp only
 rw[h1]
 try dsimp only
 rw[if_pos hl,hv]
theorem zse (hf:f σ st=.ok (.ref L) st)(h0:st[L]?=some (.dI kv0))(hg:g σ st=.ok [.int k,d] st2)(h1:st2[L]?=some (.dI kvs))(hl:kvs.length < sizeLine)(hv:valI kvs k=none):eSetDI f g σ st=.ok d (st2.set L (.dI (putI kvs k d))):=by
 unfold eSetDI;rw[hf,zcy];dsimp only;rw[h0];dsimp only;rw[hg,zcy]
 try dsimp only
 rw[h1]
 try dsimp only
 rw[if_pos hl,hv]
end
theorem zbcb {α β:Type}{f:α->β}:∀{l:List α},(l.map f).Nodup->∀{x y:α},x∈l->y∈l->f x=f y->x=y
 | [],_,x,y,hx,_,_=>by cases hx
 | a::l,nd,x,y,hx,hy,e=>by
  rw[xbt,xep] at nd;rcases xbp.mp hx with h1 | h1
  ·rcases xbp.mp hy with h2 | h2
   ·rw[h1,h2]
   ·exact absurd (xbr.mpr ⟨y,h2,by rw[← e,h1]⟩) nd.1
  ·rcases xbp.mp hy with h2 | h2
   ·exact absurd (xbr.mpr ⟨x,h1,by rw[e,h2]⟩) nd.1
   ·exact zbcb nd.2 h1 h2 e
end Dd
namespace Dd
open PySem L2 K13
section
variable {st:Store}{Q:D->Store->Prop}{f:Row->Nat}
theorem zxm {N:Int}{r:Row}(hN:(r.length:Int)=N)(hl:r.length<=1000)(nn:Nn r)(q:Q (.bl true) st):WP (zdi [.int N,aL r] st) Q:=by
 refine zdm rfl ?_;simp only[W,V];refine WP.of (show bIsinst [aL r, .ty "tuple"] st=.ok (.bl true) st from rfl) ⟨true, rfl, ?_⟩
 have e1:((r.map D.int).length:Int)=N:=by rw[xbb];exact hN
 unfold aL;simp only[W,V,e1];refine⟨_,rfl,by rw[xbb];exact small _ (by lia),?_⟩;refine zpx (as:=r) (fun σ=>∃v,σ=[v]) (fun _=>true) (fun x=>.bl (decide (0<=x))) .int ⟨_,rfl⟩ ?_ ?_
 ·rintro x hx σ ⟨v,rfl⟩;refine⟨_,rfl,⟨_,rfl⟩,by simp only[W,xio],fun _=>?_⟩;simp only[W,V];exact WP.of (zeg (st:=st) (i:=x)) (by simp only[W,V,xio])
 ·rw[zfb];simp only[M,W,V];refine⟨_,zje _ _,?_⟩;rw[List.all_map,show(r.all (id ∘ fun x=>decide (0<=x)))=true from xcw.mpr fun x hx=>xcj (nn x hx)];exact q
theorem zrv {N:Int}{l:List Row}(h:∀r∈l,(r.length:Int)=N/\Nn r)(hN:N<=100)(hl:l.length<=1000000)(k:∀g,Q (aK (aO l)) (st++g)):WP (zgx [.int N,.lst (aJ l)] st) Q:=by
 refine zdm rfl ?_;simp only[W,V];refine zvl ?_;simp only[W,V];refine⟨_,rfl,?_⟩;refine zdr (fun i σ s=>s=st/\∃v w,σ=[some (.int N),some (.lst (aJ l)),v,w]) ⟨rfl,_,_,rfl⟩ ?_ ?_
 ·rintro i x σ s hx ⟨rfl,v,w,rfl⟩;obtain⟨y,hy,rfl⟩:=zfz hx;obtain⟨r,hr,rfl⟩:=zbz hy;obtain⟨h1,h2⟩:=h r (xca hr);refine⟨_,rfl,?_⟩;unfold zgk;simp only[W,V];refine zxm h1 (by lia) h2 ⟨true,rfl,?_⟩;simp only[W,V,L,xhk,xcl,xdx];exact⟨trivial,_,_,rfl⟩
 ·rintro σ s ⟨rfl,v,w,rfl⟩;simp only[W,V];exact zmv rfl hl k
noncomputable def selP (so:List (Int×Row)) (u j:Nat):List (Int×Row):=((List.range j).filter fun i=>u.testBit i).map fun i=>so.getD i (0,[])
theorem zwe {so:List (Int×Row)}{j:Nat}{p:Int×Row}(u:Nat)(h:so[j]?=some p):selP so u (j+1)=selP so u j++if u.testBit j=true then[p] else[]:=by
 unfold selP;rw[xib,xfb,xds]
 congr 1
 by_cases c:u.testBit j=true
 ·rw[if_pos c,xco c];simp[xbi,h]
 ·rw[if_neg c,xcu c];rfl
theorem zbku (so:List (Int×Row))(u:Nat):ux f so u=xr (selP so u so.length) (gv f):=by
 unfold ux selP;rw[zbeu,zgr]
theorem zjm {so:List (Int×Row)}{u:Nat}:∀{j:Nat},j<=so.length->∀p∈selP so u j,p∈so:=fun {j} hj p hp=>by
 unfold selP at hp;obtain⟨i,hi,rfl⟩:=xbr.mp hp;have:=xcd.mp (xeo.mp hi).1;rw[xbi,xbd (by lia),Option.getD_some];exact xcx _
noncomputable def grp (sel:List (Int×Row)) (k:Int):List Row:=(sel.filter fun p=>decide (p.1=k)).map (·.2)
theorem zne (sel:List (Int×Row))(p:Int×Row)(k:Int):grp (sel++[p]) k=grp sel k++if p.1=k then[p.2] else[]:=by
 unfold grp;rw[xfb,xds]
 congr 1
 by_cases c:p.1=k
 ·rw[if_pos c,xco (by simpa using c)];rfl
 ·rw[if_neg c,xcu (by simpa using c)];rfl
noncomputable def refD (q:Int×Nat):Int×D:=(q.1,.ref q.2)
structure Grp (s:Store) (b:Nat) (prs:List (Int×Nat)) (sel:List (Int×Row)):Prop where
 keys:(prs.map (·.1)).Nodup
 refs:(prs.map (·.2)).Nodup
 low:∀q∈prs,b < q.2
 at':∀q∈prs,s[q.2]?=some (.lst (aJ (grp sel q.1)))
 has:∀p∈sel,p.1∈prs.map (·.1)
 own:∀q∈prs,∃p∈sel,p.1=q.1
theorem zji {k:Int}:∀{prs:List (Int×Nat)},valI (prs.map refD) k=(prs.find? fun q=>decide (q.1=k)).map fun q=>D.ref q.2
 | []=>rfl
 | q::prs=>by
  have ih:=zji (k:=k) (prs:=prs);unfold valI at ih ⊢;rw[xbt,xdj,xdj];show Option.map _ (match decide (q.1=k) with | true=>_ | false=>_)=_;by_cases c:q.1=k
  ·simp[c,refD]
  ·simp only[c,xfs];exact ih
theorem zbft {k:Int}{n:Nat}{prs:List (Int×Nat)}(h:k∉prs.map (·.1)):putI (prs.map refD) k (.ref n)=(prs++[(k,n)]).map refD:=by
 unfold putI;rw[if_neg,xds]
 ·rfl
 ·intro z;obtain⟨x,hx,hk⟩:=xje.mp z;obtain⟨q,hq,rfl⟩:=xbr.mp hx;exact h (xbr.mpr ⟨q,hq,xdl hk⟩)
theorem zmz {s:Store}{n:Nat}{o:O}(h:s[n]?=some o):n < s.length:=(xbh.mp h).1
theorem zzh {prs:List (Int×Nat)}(nd:(prs.map (·.2)).Nodup){q r:Int×Nat}(hq:q∈prs)(hr:r∈prs)(e:q.2=r.2):q=r:=zbcb nd hq hr e
theorem ztu {prs:List (Int×Nat)}(nd:(prs.map (·.1)).Nodup){q r:Int×Nat}(hq:q∈prs)(hr:r∈prs)(e:q.1=r.1):q=r:=zbcb nd hq hr e
theorem Grp.old {s:Store}{b:Nat}{prs:List (Int×Nat)}{sel:List (Int×Row)}(h:Grp s b prs sel){p:Int×Row}{q:Int×Nat}(hq:q∈prs)(e:q.1=p.1)(x:List O) :
  Grp ((s++x).set q.2 (.lst (aJ (grp sel p.1)++[aL p.2]))) b prs (sel++[p]):=by
 refine⟨h.keys,h.refs,h.low,fun r hr=>?_,fun p' hp'=>?_,fun r hr=>?_⟩
 ·have g:=h.at' r hr;have gl:=zmz g;rw[zne];by_cases c:r=q
  ·subst c;rw[xdv (by rw[xbj];lia),if_pos e.symm,e];unfold aJ;rw[xds];rfl
  ·rw[xcq (fun z=>c (zzh h.refs hr hq z.symm)),xbu gl,g,if_neg (fun z=>c (ztu h.keys hr hq (z.symm.trans e.symm))),xdd]
 ·rcases xbw.mp hp' with z | z
  ·exact h.has p' z
  ·rw[xbq.mp z,← e];exact xbr.mpr ⟨q,hq,rfl⟩
 ·obtain⟨p',h1,h2⟩:=h.own r hr;exact⟨p',xed _ h1,h2⟩
theorem Grp.new {s:Store}{b:Nat}{prs:List (Int×Nat)}{sel:List (Int×Row)}(h:Grp s b prs sel){p:Int×Row}(hb:b < s.length)(e:p.1∉prs.map (·.1)){o:O} :
  Grp (((s++[O.lst []]).set b o).set s.length (O.lst [aL p.2])) b (prs++[(p.1,s.length)]) (sel++[p]):=by
 have none:grp sel p.1=[]:=by
  unfold grp;rw[List.filter_eq_nil_iff.mpr fun q hq z=>?_];rfl
  have z:q.1=p.1:=xdl z;exact e (z ▸ h.has q hq)
 have ne:∀r∈prs,r.2≠s.length:=fun r hr z=>by have:=zmz (h.at' r hr);lia
 refine⟨?_,?_,fun r hr=>?_,fun r hr=>?_,fun p' hp'=>?_,fun r hr=>?_⟩
 ·rw[xds];refine xip.mpr ⟨h.keys,by simp,fun x hx y hy=>?_⟩;rw[xbq.mp hy];intro z;rw[z] at hx;exact e hx
 ·rw[xds];refine xip.mpr ⟨h.refs,by simp,fun x hx y hy=>?_⟩;obtain⟨r,hr,rfl⟩:=xbr.mp hx;rw[xbq.mp hy];exact ne r hr
 ·rcases xbw.mp hr with z | z
  ·exact h.low r z
  ·rw[xbq.mp z];exact hb
 ·rcases xbw.mp hr with z | z
  ·have g:=h.at' r z;have gl:=zmz g;have lo:=h.low r z;rw[xcq (xem (ne r z)),xcq (by lia),xbu gl,g,zne,if_neg (fun q=>e (xbr.mpr ⟨r,z,q.symm⟩)),xdd]
  ·rw[xbq.mp z,xdv (by rw[xfa,xbj];simp),zne,if_pos rfl,none];rfl
 ·rw[xds];rcases xbw.mp hp' with z | z
  ·exact xed _ (h.has p' z)
  ·rw[xbq.mp z];exact xdb _ (by simp)
 ·rcases xbw.mp hr with z | z
  ·obtain⟨p',h1,h2⟩:=h.own r z;exact⟨p',xed _ h1,h2⟩
  ·rw[xbq.mp z];exact⟨p,by simp,rfl⟩
end
section
variable {st:Store}{Q:D->Store->Prop}{f:Row->Nat}
theorem zbkb (u j:Nat):(Builtin.bitAnd ((u:Int) / 2 ^ (0+(j:Int)).toNat) 1 != 0)=u.testBit j:=by
 rw[xix,xec,show((u:Int) / 2 ^ j)=((u / 2 ^ j:Nat):Int) by simp,show(1:Int)=((1:Nat):Int) from rfl,zfg,Nat.and_one_is_mod,Nat.testBit_eq_decide_div_mod_eq];have:u / 2 ^ j % 2=0\/u / 2 ^ j % 2=1:=by lia
 rcases this with h | h<;>rw[h]<;>rfl
theorem zsq {N:Int}{so:List (Int×Row)}{u:Nat}(hk:∀p∈so,p.1∈([1,2,4,8]:List Int))(hl:so.length<=400000){QQ:Fl->Store->Prop}{v4 v5:Option D}
  (k:∀v4 v5 prs g,Grp (st++.dI (prs.map refD)::g) st.length prs (selP so u so.length)->QQ (.nx [some (.int N),some (.lst (so.map srcD)),some (.int (u:Nat)),some (.ref st.length),v4,v5]) (st++.dI (prs.map refD)::g)) :
  WP (forF (gT 2 (gsCons (gN 4) (gsCons (gN 5) gsNil))) zdz (numF 0 (so.map srcD)) [some (.int N),some (.lst (so.map srcD)),some (.int (u:Nat)),some (.ref st.length),v4,v5] (st++[.dI []])) QQ:=by
 refine zdr (fun j σ s=>(∃v4 v5,σ=[some (.int N),some (.lst (so.map srcD)),some (.int (u:Nat)),some (.ref st.length),v4,v5])/\∃prs g,s=st++.dI (prs.map refD)::g/\Grp s st.length prs (selP so u j)) ⟨⟨_,_,rfl⟩,[],[],rfl,⟨by simp,by simp,by simp,by simp,fun p hp=>absurd hp (by simp[selP]),by simp⟩⟩ ?_ ?_
 ·rintro j x σ s hx ⟨⟨v4,v5,rfl⟩,prs,g,hs,gr⟩;obtain⟨y,hy,rfl⟩:=zfz hx;obtain⟨p,hp,rfl⟩:=zhl hy;have hj:j < so.length:=(xbh.mp hp).1;have sn:=zwe u hp;refine⟨_,rfl,?_⟩;unfold zdz;simp only[W,V];refine⟨by lia,trivial,_,rfl,?_⟩;rw[zbkb];by_cases c:u.testBit j=true
  ·rw[if_pos c] at sn ⊢;have hD:s[st.length]?=some (.dI (prs.map refD)):=by rw[hs];simp
   have hlt:=zmz hD;have few:prs.length<=4:=by
    have:=xgm gr.keys (l₂:=([1,2,4,8]:List Int)) fun x hx=>by
     obtain⟨q,hq,rfl⟩:=xbr.mp hx;obtain⟨p',h1,h2⟩:=gr.own q hq;rw[← h2];exact hk p' (zjm (by lia) p' h1)
    rw[xbb] at this;exact this
   have lenG:(grp (selP so u j) p.1).length<=400000:=by
    unfold grp selP;rw[xbb];refine xbc (xfo _ _) ?_;rw[xbb];refine xbc (xfo _ _) ?_;rw[xej];lia
   simp only[W,V,M,Dd.N];generalize hσ:[some (D.int N),some (D.lst (so.map srcD)),some (D.int (u:Nat)),some (D.ref st.length),some (D.int (0+(j:Int))),some (srcD p)]=σ;have hg:∃ys s',(aB (aS oIx (aA 5) (eC (.int 0))) (aB (eLstM aC) aC)) σ s=.ok ys s'/\ys=[.int p.1,.ref s.length]/\s'=s++[.lst []]:=by
    have:WP ((aB (aS oIx (aA 5) (eC (.int 0))) (aB (eLstM aC) aC)) σ s) (fun ys s'=>ys=[.int p.1,.ref s.length]/\s'=s++[.lst []]):=by
     rw[← hσ];simp only[W,V];refine zik rfl rfl ?_;exact⟨small _ (by simp),rfl,rfl⟩
    exact this.get
   obtain⟨_,_,hg,rfl,rfl⟩:=hg;have hD2:(s++[O.lst []])[st.length]?=some (.dI (prs.map refD)):=by rw[xbu hlt];exact hD
   have hv3:aA 3 σ s=.ok (.ref st.length) s:=by rw[← hσ];rfl
   have kl:(prs.map refD).length < sizeLine:=by rw[xbb];exact small17 (by lia)
   by_cases kn:p.1∈prs.map (·.1)
   ·obtain⟨q,hq,eq⟩:=xbr.mp kn;have hv:valI (prs.map refD) p.1=some (.ref q.2):=by
     rw[zji];cases e:prs.find? fun q=>decide (q.1=p.1) with
     | none=>exact absurd (xcj eq) (by simpa using xig.mp e q hq)
     | some r =>
      have h1:=xjk e;have h2:r.1=p.1:=by have:=xmx e;simpa using this
      have:r=q:=ztu gr.keys h1 hq (h2.trans eq.symm);rw[this];rfl
    refine WP.of (zsd hv3 hD hg hD2 kl hv) ?_;have ga:=gr.at' q hq;have gl:=zmz ga;have ga2:(s++[O.lst []])[q.2]?=some (.lst (aJ (grp (selP so u j) p.1))):=by rw[xbu gl,ga,eq]
    refine⟨_,_,rfl,ga2,zik rfl rfl ⟨_,_,rfl,ga2,by rw[zn];exact small17 (by lia),?_⟩⟩;simp only[L];rw[← hσ];refine⟨⟨_,_,rfl⟩,prs,(g++[O.lst []]).set (q.2 - st.length - 1) (.lst (aJ (grp (selP so u j) p.1)++[aL p.2])),?_,?_⟩
    ·rw[hs];have lo:=gr.low q hq;obtain⟨z,hz⟩:∃z,q.2=st.length+(z+1):=⟨q.2 - st.length - 1,by lia⟩
     rw[hz,show st.length+(z+1) - st.length - 1=z by lia,xcg,xiw _ _ (by lia),show st.length+(z+1) - st.length=z+1 by lia,xjg,xlu]
    ·rw[sn];exact gr.old hq eq _
   ·have hv:valI (prs.map refD) p.1=none:=by
     rw[zji,xig.mpr fun q hq z=>kn (xbr.mpr ⟨q,hq,xdl z⟩)];rfl
    refine WP.of (zse hv3 hD hg hD2 kl hv) ?_;have ga2:((s++[O.lst []]).set st.length (.dI (putI (prs.map refD) p.1 (.ref s.length))))[s.length]?=some (.lst []):=by
     rw[xcq (by lia)];simp
    refine⟨_,_,rfl,ga2,zik rfl rfl ⟨_,_,rfl,ga2,small17 (by simp),?_⟩⟩;simp only[L];rw[← hσ];refine⟨⟨_,_,rfl⟩,prs++[(p.1,s.length)],(g++[O.lst []]).set (s.length - st.length - 1) (.lst ([]++[aL p.2])),?_,?_⟩
    ·rw[zbft kn];have sl:s.length=st.length+(g.length+1):=by rw[hs];simp
     have e1:(s++[O.lst []]).set st.length (.dI ((prs++[(p.1,s.length)]).map refD))=st++O.dI ((prs++[(p.1,s.length)]).map refD)::(g++[O.lst []]):=by
      generalize O.dI ((prs++[(p.1,s.length)]).map refD)=o;rw[hs];simp
     rw[e1,sl,xiw _ _ (by lia),show st.length+(g.length+1) - st.length=g.length+1 by lia,xlu,show g.length+1 - 1=g.length by lia]
    ·rw[sn];exact gr.new hlt kn
  ·rw[if_neg c] at sn ⊢;rw[xdd] at sn;simp only[W,V,L];exact⟨⟨_,_,rfl⟩,prs,g,hs,by rw[sn];exact gr⟩
 ·rintro σ s ⟨⟨v4,v5,rfl⟩,prs,g,rfl,gr⟩;rw[zce,xbb] at gr;exact k _ _ _ _ gr
structure Keys (sel:List (Int×Row)) (ks:List Int):Prop where
 nd:ks.Nodup
 has:∀p∈sel,p.1∈ks
 own:∀k∈ks,∃p∈sel,p.1=k
theorem zqg {N:Int}{so:List (Int×Row)}{u:Nat}(hk:∀p∈so,p.1∈([1,2,4,8]:List Int)/\(p.2.length:Int)=N/\Nn p.2)(hN:N<=100)(hl:so.length<=400000)
  (k:∀ks g,Keys (selP so u so.length) ks->Q (.tup (ks.map fun k=>.tup [.int k,aK (aO (grp (selP so u so.length) k))])) (st++g)):WP (zfj [.int N,.lst (so.map srcD),.int (u:Nat)] st) Q:=by
 refine zdm rfl ?_;simp only[W,V,zrg];refine zvl ?_;simp only[W,V];refine⟨_,rfl,?_⟩;refine zsq (fun p hp=>(hk p hp).1) hl fun v4 v5 prs g gr=>?_
 simp only[W,V];have few:prs.length<=4:=by
  have:=xgm gr.keys (l₂:=([1,2,4,8]:List Int)) fun x hx=>by
   obtain⟨q,hq,rfl⟩:=xbr.mp hx;obtain⟨p',h1,h2⟩:=gr.own q hq;rw[← h2];exact(hk p' (zjm (xbf _) p' h1)).1
  rw[xbb] at this;exact this
 have es:bSortDI [.ref st.length] (st++.dI (prs.map refD)::g)=.ok (.lst ((sortI (prs.map (·.1))).map .int)) (st++.dI (prs.map refD)::g):=by
  unfold bSortDI;have:(st++O.dI (prs.map refD)::g)[st.length]?=some (.dI (prs.map refD)):=by simp
  simp only[this];rw[if_pos (by rw[xbb];lia),xcy]
  rfl
 refine WP.of es ⟨_,rfl,?_⟩;have pm:=zeu (prs.map (·.1));have ndk:(sortI (prs.map (·.1))).Nodup:=pm.nodup_iff.mpr gr.keys;have kq:∀k∈sortI (prs.map (·.1)),∃q∈prs,q.1=k:=fun k hk=>by
  obtain⟨q,hq,e⟩:=xbr.mp (pm.mem_iff.mp hk);exact⟨q,hq,e⟩
 have lk:(sortI (prs.map (·.1))).length=prs.length:=by rw[pm.length_eq,xbb]
 refine⟨by rw[xbb,lk];exact small _ (by lia),?_⟩
 have fin:Keys (selP so u so.length) (sortI (prs.map (·.1))):=⟨ndk,fun p hp=>pm.mem_iff.mpr (gr.has p hp),fun k hk=>by
  obtain⟨q,hq,e⟩:=kq k hk;obtain⟨p,h1,h2⟩:=gr.own q hq
  exact⟨p,h1,h2.trans e⟩⟩
 generalize sortI (prs.map (·.1))=ks at ndk kq lk fin;refine zoa (fun i acc σ s=>(∃v,σ=[v,some (.int N),some (.ref st.length)])/\(∃g,s=st++.dI (prs.map refD)::g)/\(∀q∈prs,q.1∈ks.drop i->s[q.2]?=some (.lst (aJ (grp (selP so u so.length) q.1))))/\acc=(ks.take i).map fun k=>.tup [.int k,aK (aO (grp (selP so u so.length) k))])
  ⟨⟨_,rfl⟩,⟨g,rfl⟩,fun q hq _=>gr.at' q hq,rfl⟩ ?_ ?_
 ·rintro i x acc σ s hx ⟨⟨v,rfl⟩,⟨g,rfl⟩,ha,rfl⟩;obtain⟨kk,hkk,rfl⟩:=zhl hx;obtain⟨q,hq,eq⟩:=kq kk (xca hkk);have hi:i < ks.length:=(xbh.mp hkk).1;have hd:ks.drop i=kk::ks.drop (i+1):=by
   rw[xfm hi];congr 1;exact(xbh.mp hkk).2
  have ga:=ha q hq (by rw[hd,eq];simp);have gl:=zmz ga;refine⟨_,rfl,?_⟩;simp only[W,V];rw[show ∀{f:SE} {σ:DS} {st:Store} {Q:D->Store->Prop},WP (eFz f σ st) Q=WP (f σ st) (fun x st1=>∃n xs,x=.ref n/\st1[n]?=some (.lst xs)/\Q (.lst xs) (st1.set n .dead)) from fun {f σ st Q}=>M.2.2.2.1];simp only[W,V];have hv:valI (prs.map refD) kk=some (.ref q.2):=by
   rw[zji];cases e:prs.find? fun q=>decide (q.1=kk) with
   | none=>exact absurd (xcj eq) (by simpa using xig.mp e q hq)
   | some r =>
    have h1:=xjk e;have h2:r.1=kk:=by have:=xmx e;simpa using this
    have:r=q:=ztu gr.keys h1 hq (h2.trans eq.symm);rw[this];rfl
  have hD:(st++O.dI (prs.map refD)::g)[st.length]?=some (.dI (prs.map refD)):=by simp
  rw[zzj hD hv];simp only[W,V];refine⟨_,_,rfl,ga,?_⟩;rw[eq];have hg:∀r∈grp (selP so u so.length) kk,(r.length:Int)=N/\Nn r:=fun r hr=>by
   unfold grp at hr;obtain⟨p,hp,rfl⟩:=xbr.mp hr;exact(hk p (zjm (xbf _) p (xeo.mp hp).1)).2
  have lg:(grp (selP so u so.length) kk).length<=1000000:=by
   unfold grp selP;rw[xbb];refine xbc (xfo _ _) ?_;rw[xbb];refine xbc (xfo _ _) ?_;rw[xej];lia
  refine zrv hg hN lg fun g2=>?_
  have lo:=gr.low q hq;obtain⟨z,hz⟩:∃z,q.2=st.length+(z+1):=⟨q.2 - st.length - 1,by lia⟩
  refine⟨small _ (by simp),⟨_,rfl⟩,⟨g.set z .dead++g2,?_⟩,fun r hr hrd=>?_,?_⟩
  ·rw[hz,xiw _ _ (by lia),show st.length+(z+1) - st.length=z+1 by lia,xlu];simp
  ·have ne:r.2≠q.2:=fun w=>by
    have:r=q:=zzh gr.refs hr hq w;rw[this,eq] at hrd;have nd2:=ndk.sublist (xkf i ks);rw[hd,xep] at nd2;exact nd2.1 hrd
   have g1:=ha r hr (by rw[hd];exact xbk _ hrd);rw[xbu (by rw[xfa];exact zmz g1),xcq (xem ne)];exact g1
  ·rw[zm hkk,xds];rfl
 ·rintro ys σ s ⟨_,⟨g,rfl⟩,_,rfl⟩;rw[xbb,xcp];exact k ks _ fin
end
section
variable {st:Store}{Q:D->Store->Prop}
theorem zkt {m i:Nat}{d:Int}(en:Enough d i)(hd:d<=24){p:Int×Row}(hp:p∈srcs d m i):p.1∈([1,2,4,8]:List Int)/\1<=p.1/\p.1<=d/\Mon (m+1) (d - p.1) p.2:=by
 unfold srcs at hp;obtain⟨k,hk,hp⟩:=xfd.mp hp;obtain⟨r,hr,rfl⟩:=xbr.mp hp;obtain⟨_,_,a,b⟩:=zhd en hk;refine⟨?_,b,by lia,zkm (by lia) hr⟩;have i4:=en.few hd;unfold twos at hk;obtain⟨t,ht,rfl⟩:=xbr.mp hk;have ht:=xcd.mp ht
 match t,ht with
 | 0,_=>simp
 | 1,_=>simp
 | 2,_=>simp
 | 3,_=>simp
 | t+4,ht=>lia
theorem zqu {N x y:Nat}{A:Tab}{gs:List Nat}(ld:Lds N A gs)(hx:Lin (·∈gs) x)(ls:Less N A x y)(hy:y≠0->A (bl y)=none):y=0:=by
 rcases xih y with z | z
 ·exact z
 ·exfalso
  have s1:=(Span.lin ld.all hx).xor ls.span;rw[← xef,xgb,xhb] at s1;obtain⟨S,hS⟩:=s1;have:=(zbav ld.good S N).2;rw[← hS,hy (by lia)] at this;exact absurd (this (by lia)) (by decide)
structure Src (m:Nat) (d:Int) (sel:List (Int×Row)):Prop where
 all:∀p∈sel,p.1∈([1,2,4,8]:List Int)/\1<=p.1/\p.1<=d/\Mon (m+1) (d - p.1) p.2
theorem zhr {N d:Int}{l:List Row}(h1:1<=N)(h2:N<=10)(d0:0<=d)(hd:d<=mostD N)(ne:l≠[])(nd:l.Nodup)(hm:∀r∈l,r∈allL d (N - 1).toNat)(hl:l.length<=1000)
  (lin:∀i,Enough d i->Lin (·∈(srcs d (N - 1).toNat i).map (gv (pw (allL d (N - 1).toNat)))) (xr l (pw (allL d (N - 1).toNat))))
  (k:∀ ks sel g, Keys sel ks->Src (N - 1).toNat d sel->xr l (pw (allL d (N - 1).toNat))=xr sel (gv (pw (allL d (N - 1).toNat)))->Q (.tup [.str "raised", .int N, aK l, .tup (ks.map fun k=>.tup [.int k, aK (aO (grp sel k))])]) (st++g)):WP (zec [.int N, aK l] st) Q:=by
 obtain⟨fw,fit⟩:=zbcy h1 h2 d0 hd;have hmf:=zcv h1 h2;have hN:N=((N - 1).toNat:Int)+1:=by lia
 have h24:=fit.d24;have hAL:=fit.len;refine zdm rfl ?_;simp only[W,V];refine zlc h1 h2 d0 (by have:=hmf.2.1;split at this<;>split<;>lia) fw hl ne (fun r hr=>(zid d0 (hm r hr)).2.2) fun g0=>?_
 refine WP.of (show oIsN false (.int d) .non (st++g0)=.ok (.bl false) (st++g0) from rfl) ?_
 try simp only[W,V,xcl,xdx]
 refine zbbj 9 (N - 1).toNat (d:=d) (N:=N) fit.m9 (by have:=fit.m9;lia) hN d0 (by lia) fit.few fun g1=>?_
 try simp only[W,V]
 refine zoo (zfh _ _) hAL fun pk pl=>?_
 try simp only[W,V]
 refine zgj hN fit (n:=(st++g0++g1).length) (by simp) pl fun kvs so g B i en rp sm sl lb=>?_
 try simp only[W,V]
 refine zik rfl rfl ?_;refine zib (n:=(st++g0++g1).length) (kvs:=pk) (by simp) pl hAL nd hm ?_;have hb:=zlv.mpr (zbkr (fun x hx=>pw_lt (hm x hx)):xr l (pw (allL d (N - 1).toNat)) < 2 ^ (allL d (N - 1).toNat).length);refine zhp (kvs:=kvs) (by simp) rp lb hb hAL fun y u ls hy ex ul=>?_
 obtain rfl:=zqu lb (lin i en) ls hy;rw[xfh] at ex
 try simp only[W,V]
 refine zik rfl rfl ?_
 try simp only[W,V]
 rw[if_pos (show((0:Nat):Int)=0 from rfl)];refine zik rfl rfl ?_;refine zik rfl rfl ?_;have sf:∀p∈so,_:=fun p hp=>zkt en h24 (sm p hp)
 refine zqg (fun p hp=>⟨(sf p hp).1,by have:=(sf p hp).2.2.2.len;lia,(sf p hp).2.2.2.nn⟩) (by lia) sl fun ks g2 kf=>?_
 refine⟨small _ (by simp),?_⟩;have:=k ks (selP so u so.length) (g0++g1++.dT pk::.dI kvs::.dead::g++g2) kf ⟨fun p hp=>sf p (zjm (xbf _) p hp)⟩ (by rw[ex,zbku])
 simpa using this
end
section
variable {st:Store}{Q:D->Store->Prop}
end
section
variable {st:Store}{n:Nat}{Q:D->Store->Prop}
theorem zlj {N:Int}(k:∀ g, Q (.tup [.str "raised", .int N, aK [], .tup []]) (st++g)):WP (zec [.int N, aK []] st) Q:=by
 refine zdm rfl ?_;simp only[W,V];refine zmx fun g=>?_
 refine WP.of (show oIsN false .non .non (st++g)=.ok (.bl true) (st++g) from rfl) ?_;simp only[W,V,xeu];exact⟨small _ (by simp),small _ (by simp),k g⟩
end
noncomputable def pop (v:Nat):Nat:=if h:v=0 then 0 else v % 2+pop (v / 2)
 termination_by v
 decreasing_by lia
theorem zfv:pop 0=0:=by unfold pop;simp
theorem zfw {v:Nat}(h:v≠0):pop v=v % 2+pop (v / 2):=by rw[pop];simp[h]
theorem zbgb (w:Nat):pop (2 * w)=pop w:=by
 by_cases c:w=0
 ·subst c;rfl
 ·rw[zfw (by lia),show 2 * w % 2=0 by lia,show 2 * w / 2=w by lia,xdw]
theorem zbbh:∀v:Nat,v≠0->pop (v &&& (v - 1))+1=pop v:=fun v=>by
 induction v using Nat.strongRecOn with
 | _ v ih =>
 intro h;have a3:(v &&& (v - 1)) / 2=v / 2 &&& (v - 1) / 2:=xld;have b3:(v &&& (v - 1)) % 2=1↔v % 2=1/\(v - 1) % 2=1:=Nat.and_mod_two_eq_one;have e0:(v &&& (v - 1))=2 * ((v &&& (v - 1)) / 2):=by lia
 rw[e0,zbgb,a3];by_cases c:v % 2=1
 ·rw[show(v - 1) / 2=v / 2 by lia,Nat.and_self,zfw h,c];lia
 ·rw[show(v - 1) / 2=v / 2 - 1 by lia,ih (v / 2) (by lia) (by lia),zfw h];lia
section
variable {st:Store}{Q:D->Store->Prop}
theorem zbgc:∀{k v:Nat},v < 2 ^ k->pop v<=k
 | 0,v,h=>by
  have:v=0:=by simpa using h
  rw[this,zfv];exact xbf _
 | k+1,v,h=>by
  by_cases c:v=0
  ·rw[c,zfv];lia
  ·rw[zfw c];have:=zbgc (k:=k) (v:=v / 2) (by rw[xiy] at h;lia);lia
theorem zbhd {v:Nat}(hv:v < 2 ^ 1000)(q:Q (.int (pop v:Nat)) st):WP (zbf [.int (v:Nat)] st) Q:=by
 refine zdm rfl ?_;simp only[W,V];refine zgz (fun m σ s=>∃w c:Nat,m=pop w/\σ=[some (.int (w:Nat)),some (.int (c:Nat))]/\s=st/\c+pop w=pop v) (k:=pop v) ⟨v,0,rfl,rfl,rfl,by lia⟩ (by have:=zbgc hv;lia) ?_;rintro m σ s ⟨w,c,rfl,rfl,rfl,e⟩;simp only[W,V];refine⟨_,rfl,?_⟩;by_cases z:w=0
 ·subst z;rw[show(((0:Nat):Int) != 0)=false from rfl,if_neg (by decide)];rw[zfv,xhp] at e;rw[e];exact q
 ·rw[show(((w:Nat):Int) != 0)=true by simp[z],if_pos rfl];have pl:=zbbh w z;unfold zdl;simp only[W,V];rw[show((w:Nat):Int) - 1=((w - 1:Nat):Int) by lia,zfg];refine⟨trivial,trivial,?_⟩;simp only[M,W,V,L];refine⟨_,rfl,?_⟩;simp only[W,V];exact⟨trivial,pop (w &&& (w - 1)),by lia,w &&& (w - 1),c+1,rfl,by rw[Int.natCast_add];rfl,trivial,by lia⟩
theorem znh {N:Int}{d v:Nat}(hv:(v:Int)=d+N)(h2:v < 2 ^ 1000)(q:Q (.bl (decide (N < (pop v:Nat)))) st):WP (zcp [.int N,.int (d:Nat)] st) Q:=by
 refine zdm rfl ?_;simp only[W,V];rw[← hv];refine zgz (fun m σ s=>∃w c:Nat,m=bl w/\σ=[some (.int N),some (.int (d:Nat)),some (.int (c:Nat)),some (.int (w:Nat))]/\s=st/\c+pop w=pop v) (k:=bl v) ⟨v,0,rfl,rfl,rfl,by lia⟩ (by have:=zlv.mpr h2;lia) ?_;rintro m σ s ⟨w,c,rfl,rfl,rfl,e⟩;simp only[W,V];refine⟨trivial,?_⟩;by_cases z:w=0
 ·subst z;rw[if_neg (by lia)];rw[zfv,xhp] at e;rw[e];exact⟨trivial,q⟩
 ·rw[if_pos (by lia)];have ph:=zfw z;have bp:=znq.mp z;unfold zfl;simp only[W,V,L];have bh:bl (w / 2) < bl w:=by
   have h1:w < 2 ^ bl w:=zlv.mp (xbf _);have h3:2 ^ bl w=2 * 2 ^ (bl w - 1):=by rw[← Nat.pow_succ'];congr 1;lia
   have:=zlv.mpr (show w / 2 < 2 ^ (bl w - 1) by lia);lia
  refine⟨by lia,⟨by lia,by decide⟩,bl (w / 2),bh,w / 2,c+w % 2,rfl,?_,trivial,by lia⟩;rw[Int.natCast_add,Int.natCast_emod,Int.natCast_ediv]
  rfl
end
noncomputable def cdN (r:Row):Nat:=r.dropLast.foldl (fun a x=>a * 25+x.toNat) 0
noncomputable def phi (r:Row):Nat:=2 ^ cdN r
noncomputable def redF (t:List Nat) (x:Nat):Nat:=t.foldl (fun x v=>bif Nat.ble (Nat.xor x v) x then Nat.xor x v else x) x
noncomputable def insF:List Nat->Nat->List Nat
 | [],y=>[y]
 | v::t,y=>bif Nat.ble v y then y::v::t else v::insF t y
noncomputable def stepE (t:List Nat) (y:Nat):List Nat:=bif Nat.beq y 0 then t else insF t y
noncomputable def elim (gs:List Nat):List Nat:=gs.foldl (fun t x=>stepE t (redF t x)) []
noncomputable def fullOk (d:Int) (m i:Nat):Bool:=(allL d m).all fun p=>Nat.beq (redF (elim ((srcs d m i).map (gv phi))) (phi p)) 0
noncomputable def popF:Nat->Nat->Nat
 | 0,_=>0
 | k+1,v=>v % 2+popF k (v / 2)
noncomputable def iOf (d:Nat):Nat:=(bif Nat.ble 2 d then 1 else 0)+((bif Nat.ble 4 d then 1 else 0)+((bif Nat.ble 8 d then 1 else 0)+(bif Nat.ble 16 d then 1 else 0)))
theorem zxq:(List.range 10).all (fun m=>(List.range 25).all fun d=>bif decide ((d:Int)<=mostD ((m:Int)+1))&&Nat.ble (m+2) (popF 8 (d+(m+1))) then fullOk (d:Int) m (iOf d) else true)=true:=by decide +kernel
theorem zbps:∀{k v:Nat},v < 2 ^ k->pop v=popF k v
 | 0,v,h=>by
  have:v=0:=by simpa using h
  rw[this,zfv];rfl
 | k+1,v,h=>by
  show _=v % 2+popF k (v / 2);rw[← zbps (k:=k) (v:=v / 2) (by rw[xiy] at h;lia)];by_cases c:v=0
  ·rw[c,show 0 / 2=0 from rfl,zfv]
  ·exact zfw c
theorem zsg {P:Nat->Prop}:∀{t:List Nat},(∀v∈t,Lin P v)->∀x,Lin P (x ^^^ redF t x)
 | [],_,x=>by show Lin P (x ^^^ x);rw[xgb];exact .zero
 | v::t,h,x=>by
  have hv:=h v (xbn ..);have ih:=zsg (P:=P) (t:=t) fun w hw=>h w (xbk _ hw)
  show Lin P (x ^^^ redF t (bif Nat.ble (Nat.xor x v) x then Nat.xor x v else x));cases Nat.ble (Nat.xor x v) x with
  | false=>exact ih x
  | true =>
   have i2:=ih (x ^^^ v);have e:x ^^^ redF t (x ^^^ v)=v ^^^ ((x ^^^ v) ^^^ redF t (x ^^^ v)):=by
    rw[Nat.xor_comm x v,xef v x,← xef v v,xgb,xhb]
   show Lin P (x ^^^ redF t (x ^^^ v));rw[e];exact hv.xor i2
theorem zzf:∀{t:List Nat} {y v:Nat},v∈insF t y->v=y\/v∈t
 | [],y,v,h=>.inl (xbq.mp h)
 | w::t,y,v,h=>by
  unfold insF at h;cases c:Nat.ble w y with
  | true =>
   rw[c] at h;exact(xbp.mp h).imp id id
  | false =>
   rw[c] at h;rcases xbp.mp h with z | z
   ·exact .inr (xbp.mpr (.inl z))
   ·exact(zzf z).imp id (xbk _)
theorem zuc {P:Nat->Prop}:∀{gs t:List Nat},(∀v∈t,Lin P v)->(∀v∈gs,Lin P v)->∀v∈gs.foldl (fun t x=>stepE t (redF t x)) t,Lin P v
 | [],t,ht,_,v,hv=>ht v hv
 | x::gs,t,ht,hg,v,hv=>by
  refine zuc (gs:=gs) (t:=stepE t (redF t x)) (fun w hw=>?_) (fun w hw=>hg w (xbk _ hw)) v hv;unfold stepE at hw;cases c:Nat.beq (redF t x) 0 with
  | true=>rw[c] at hw;exact ht w hw
  | false =>
   rw[c] at hw;rcases zzf hw with z | z
   ·rw[z];have h1:=(hg x (xbn ..)).xor (zsg ht x)
    rwa [← xef,xgb,xhb] at h1
   ·exact ht w z
theorem Lin.sel {α:Type}{f:α->Nat}{L:List α}{v:Nat}(h:Lin (·∈L.map f) v):∃sel:List α,(∀q∈sel,q∈L)/\v=Dd.xr sel f:=by
 induction h with
 | zero=>exact⟨[],by simp,rfl⟩
 | add p _ ih =>
  obtain⟨sel,h1,rfl⟩:=ih;obtain⟨q,hq,rfl⟩:=xbr.mp p;exact⟨q::sel,fun r hr=>(xbp.mp hr).elim (fun z=>z ▸ hq) (h1 r),rfl⟩
theorem zhy {AL:List Row}{c:Row->Nat}{x:Row}(inj:∀y∈AL,c y=c x->y=x):∀{l:List Row},(∀y∈l,y∈AL)->(xr l fun r=>2 ^ c r).testBit (c x)=decide (l.count x % 2=1)
 | [],_=>by simp[xr]
 | y::l,h=>by
  rw[zby,xii,zhy inj fun z hz=>h z (xbk _ hz),xlb,xht];by_cases e:y=x
  ·subst e;rw[xcj rfl,if_pos (by simp),xhe];simp;lia
  ·rw[xcb (fun z=>e (inj y (h y (xbn ..)) z)),if_neg (by simpa using e)];simp
theorem zzy:∀{a b:List Int} {x y:Nat},a.length=b.length->(∀z∈a,0<=z/\z < 25)->(∀z∈b,0<=z/\z < 25)->a.foldl (fun a x=>a * 25+x.toNat) x=b.foldl (fun a x=>a * 25+x.toNat) y->x=y/\a=b
 | [],[],x,y,_,_,_,e=>⟨e,rfl⟩
 | [],_::_,_,_,h,_,_,_=>by cases h
 | _::_,[],_,_,h,_,_,_=>by cases h
 | p::a,q::b,x,y,h,ha,hb,e=>by
  obtain⟨h1,h2⟩:=zzy (a:=a) (b:=b) (by simpa using h) (fun z hz=>ha z (xbk _ hz)) (fun z hz=>hb z (xbk _ hz)) e;have hp:=ha p (xbn ..);have hq:=hb q (xbn ..);have h1:x * 25+p.toNat=y * 25+q.toNat:=h1;refine⟨by lia,?_⟩;rw[h2,show p=q by lia]
theorem zboo {m:Nat}{d:Int}(hd:d<=24){r s:Row}(hr:Mon (m+1) d r)(hs:Mon (m+1) d s)(e:cdN r=cdN s):r=s:=by
 have fac:∀r:Row,Mon (m+1) d r->(∃y,r.dropLast++[y]=r)/\(∀z∈r.dropLast,0<=z/\z < 25):=fun r hr=>by
  have ne:r≠[]:=fun z=>by have:=hr.len;rw[z] at this;cases this
  refine⟨⟨_,xiz ne⟩,fun z hz=>?_⟩;have hm:=(List.dropLast_sublist r).subset hz;have:=zbkm hr.nn z hm;have:=hr.nn z hm;have:=hr.sum;lia
 obtain⟨⟨u,a1⟩,a2⟩:=fac r hr;obtain⟨⟨w,b1⟩,b2⟩:=fac s hs;obtain⟨_,h⟩:=zzy (by rw[List.length_dropLast,List.length_dropLast,hr.len,hs.len]) a2 b2 e;have sa:=hr.sum;have sb:=hs.sum;rw[← a1,xee] at sa;rw[← b1,xee,← h] at sb;simp only[xhy,List.sum_nil] at sa sb;rw[← a1,← b1,h,show u=w by lia]
theorem Enough.at {d:Int}{i:Nat}(h:Enough d i)(d0:0<=d)(hd:d<=24):i=iOf d.toNat:=by
 have i4:=h.few hd;have lw:=h.low;have tp:=h.top;obtain⟨e,rfl⟩:=xeb d0;rw[xec];have he:e < 25:=by lia
 have key:∀e < 25,∀i < 5,(∀t < i,2 * 2 ^ t<=e)->e < 2 * 2 ^ i->i=iOf e:=by decide +kernel
 exact key e he i (by lia) (fun t ht=>by have:=lw t ht;lia) (by lia)
theorem zty {N d:Int}(h1:1<=N)(h2:N<=10)(d0:0<=d)(hd:d<=mostD N)(sure:N < (pop (d+N).toNat:Nat)){i:Nat}(en:Enough d i){p:Row}(hp:p∈allL d (N - 1).toNat):Lin (·∈(srcs d (N - 1).toNat i).map (gv (pw (allL d (N - 1).toNat)))) (pw (allL d (N - 1).toNat) p):=by
 obtain⟨fw,fit⟩:=zbcy h1 h2 d0 hd;have h24:=fit.d24;obtain⟨m,hm⟩:∃m:Nat,N=(m:Int)+1:=⟨(N - 1).toNat,by lia⟩
 have hm2:(N - 1).toNat=m:=by lia
 rw[hm2] at hp fit ⊢;have ie:=en.at d0 h24;obtain⟨e,rfl⟩:=xeb d0;rw[xec] at ie;have look:=xcw.mp (xcw.mp zxq m (xcd.mpr (by lia))) e (xcd.mpr (by lia));have vv:((e:Int)+N).toNat=e+(m+1):=by lia
 rw[vv,zbps (k:=8) (v:=e+(m+1)) (by lia)] at sure;rw[← hm,xcj hd,Nat.ble_eq_true_of_le (show m+2<=popF 8 (e+(m+1)) by lia),← ie] at look;have look:fullOk (e:Int) m i=true:=look;have lp:=xcw.mp look p hp;have z:redF (elim ((srcs (e:Int) m i).map (gv phi))) (phi p)=0:=Nat.eq_of_beq_eq_true lp;have tb:∀v∈elim ((srcs (e:Int) m i).map (gv phi)),Lin (·∈(srcs (e:Int) m i).map (gv phi)) v:=zuc (fun v hv=>absurd hv (by simp)) (fun v hv=>.one hv)
 have l1:=zsg tb (phi p);rw[z,xfh] at l1;obtain⟨sel,hs,ex⟩:=l1.sel;have src:∀q∈sel,1<=q.1/\q.1<=(e:Int)/\Mon (m+1) ((e:Int) - q.1) q.2:=fun q hq=>by
  obtain⟨_,a,b,c⟩:=zkt en h24 (hs q hq);exact⟨a,b,c⟩
 have val:∀f:Row->Nat,xr sel (gv f)=xr (sel.flatMap fun q=>raiseR q.1 q.2) f:=fun f=>by
  rw[zyj];refine zdq fun q hq=>?_
  obtain⟨a,_,c⟩:=src q hq;rw[zew c.nn (by lia),zgr];unfold gv T;refine zdq fun x _=>?_
  by_cases w:x.sum=q.2.sum+q.1
  ·rw[if_pos w,if_pos (xcj w)]
  ·rw[if_neg w,if_neg (by simp[w])]
 have inn:∀x∈sel.flatMap fun q=>raiseR q.1 q.2,x∈allL (e:Int) m:=fun x hx=>by
  obtain⟨q,hq,hx⟩:=xfd.mp hx;obtain⟨a,_,c⟩:=src q hq;rw[zew c.nn (by lia)] at hx;obtain⟨w,z⟩:=xeo.mp hx;exact znw ((zin c.nn x w).2.trans c.len) (zrj _ c.nn x w) (by rw[xdl z,c.sum];lia)
 have par:∀x,(sel.flatMap fun q=>raiseR q.1 q.2).count x % 2=[p].count x % 2:=fun x=>by
  by_cases c:x∈allL (e:Int) m
  ·have ij:∀y∈allL (e:Int) m,cdN y=cdN x->y=x:=fun y hy=>zboo h24 (zkm (by lia) hy) (zkm (by lia) c)
   have b1:=zhy (c:=cdN) ij inn;have b2:=zhy (c:=cdN) (l:=[p]) ij (fun y hy=>by rw[xbq.mp hy];exact hp);have e1:(xr (sel.flatMap fun q=>raiseR q.1 q.2) fun r=>2 ^ cdN r)=xr [p] fun r=>2 ^ cdN r:=by
    have:xr [p] (fun r=>2 ^ cdN r)=phi p:=by show _ ^^^ 0=_;rw[xfh];rfl
    rw[this,ex];exact(val phi).symm
   rw[e1,b2] at b1;have:=xhs.mp b1;lia
  ·rw[xgi.mpr fun z=>c (inn x z),xgi.mpr fun z=>c (by rw[xbq.mp z];exact hp)]
 have fin:pw (allL (e:Int) m) p=xr sel (gv (pw (allL (e:Int) m))):=by
  rw[val,zbet par];show _=_ ^^^ 0;rw[xfh]
 rw[fin];exact .xr fun q hq=>.one (xbr.mpr ⟨q,hs q hq,rfl⟩)
section
variable {st:Store}{Q:D->Store->Prop}
theorem ziq {A:Tab}:∀{l:List Row} {i:Nat},(∀k,i < k->k<=i+l.length->(A k).isSome=true)->stands A i l=[]
 | [],_,_=>rfl
 | r::l,i,h=>by
  unfold stands;rw[if_pos (h (i+1) (by lia) (by rw[xby];lia))];exact ziq fun k h1 h2=>h k (by lia) (by rw[xby];lia)
theorem zbov (k:Nat):bl (2 ^ k)=k+1:=by
 have h1:bl (2 ^ k)<=k+1:=zlv.mpr (by rw[xiy];have:=xjm k;lia);rcases xff (bl (2 ^ k)) (k+1) with z | z
 ·have:=zlv.mp (show bl (2 ^ k)<=k by lia);lia
 ·lia
theorem zhf {N d:Int}(h1:1<=N)(h2:N<=10)(d0:0<=d)(hd:d<=mostD N)(sure:N < (pop (d+N).toNat:Nat))
  (k:∀g,Q (.ref (st++g).length) ((st++g)++[.lst []])):WP (zcf [.int N,.int d] st) Q:=by
 obtain⟨fw,fit⟩:=zbcy h1 h2 d0 hd;have hm:=zcv h1 h2;have hN:N=((N - 1).toNat:Int)+1:=by lia
 have h24:=fit.d24;refine zdm rfl ?_;simp only[W,V];have da:zo [.int d] st=.ok (.int d) st:=by
  have:WP (zo [.int d] st) (fun v s=>v=.int d/\s=st):=by
   refine zdm rfl ?_;simp only[W,V];refine WP.of (zeg (st:=st) (i:=d)) ⟨true,rfl,?_⟩;simp only[xhk,xcl,xdx,W,V];rw[if_neg (by lia)];exact⟨trivial,trivial⟩
  obtain⟨a,s,e,rfl,rfl⟩:=this.get;exact e
 refine WP.of da ?_;refine zow h1 h2 d0 (by have:=hm.2.1;split at this<;>split<;>lia) fw ?_;refine zbbj 9 (N - 1).toNat (d:=d) (N:=N) fit.m9 (by have:=fit.m9;lia) hN d0 (by lia) fit.few fun g0=>?_
 try simp only[W,V]
 refine zoo (zfh _ _) fit.len fun pk pl=>?_
 refine zgj hN fit (n:=(st++g0).length) (by simp) pl fun kvs so g B i en rp sm sl lb=>?_
 refine zik rfl rfl ?_
 try simp only[W,V]
 refine zvl ?_;simp only[W,V];refine⟨_,rfl,by rw[zce,zn];exact small _ (by have:=fit.len;lia),?_⟩;have full:stands B 0 (allL d (N - 1).toNat)=[]:=ziq fun k k1 k2=>by
  have hk:k - 1 < (allL d (N - 1).toNat).length:=by lia
  have hp:=xcx hk;have lin:=zty h1 h2 d0 hd sure en hp;obtain⟨S,hS⟩:=Span.lin lb.all lin;have e1:pw (allL d (N - 1).toNat) ((allL d (N - 1).toNat)[k - 1])=2 ^ (k - 1):=by unfold pw;rw[List.Nodup.idxOf_getElem (zfh _ _)]
  have:=(zbav lb.good S (allL d (N - 1).toNat).length).2;rw[← hS,e1,zbov,show k - 1+1=k by lia] at this;exact this (by have:=xjm (k - 1);lia)
 refine zrw (kvs:=kvs) (A:=B) (by simp) ⟨_,_,rfl⟩ (fun j r=>?_) ?_
 ·simp only[W,V];exact⟨_,rfl,trivial,by rw[show(0:Int)+(j:Int)+1=((j+1:Nat):Int) by lia,rp.is]⟩
 ·rw[full];have:=k (g0++.dT pk::.dI kvs::.dead::g)
  simpa using this
theorem zjc {N d:Int}(h1:1<=N)(h2:N<=10)(d0:0<=d)(hd:d<=mostD N)(sure:N < (pop (d+N).toNat:Nat))
  (k:∀g,Q (.int 0) (st++g)):WP (zba [.int N,.int d] st) Q:=by
 refine zdm rfl ?_;simp only[W,V];refine zhf h1 h2 d0 hd sure fun g=>?_
 rw[len59 (m:=(st++g).length) (xs:=[]) (by simp)];simp only[W,V];have:=k (g++[.lst []])
 simpa using this
theorem zlk {N d:Int}{l:List Row}(h1:1<=N)(h2:N<=10)(d0:0<=d)(hd:d<=mostD N)(sure:N < (pop (d + N).toNat:Nat))(rows:Rows N.toNat l)(nd:l.Nodup)(few:l.length<=1000)(hs:∀ r∈l, r.sum=d){QQ:D->Store->Prop}(k:∀ g, QQ (.str "raised") (st++g)):WP (zec [.int N, aK l] st) (fun x s=>WP (oIx x (.int 0) s) QQ):=by
 have inn:∀r∈l,r∈allL d (N - 1).toNat:=fun r hr=>znw (by rw[(rows r hr).1];lia) (rows r hr).2 (hs r hr)
 by_cases c:l=[]
 ·subst c;exact zlj fun g=>zik rfl rfl (k g)
 ·exact zhr h1 h2 d0 hd c nd inn few (fun i en=>.xr fun r hr=>zty h1 h2 d0 hd sure en (inn r hr)) fun ks sel g kf sf ex=>zik rfl rfl (k g)
theorem zbfl {N:Int}{d v:Nat}(hv:(v:Int)=d+N)(h2:v < 2 ^ 1000)(q:Q (.bl (decide (N < (pop v:Nat)))) st):WP (zfn [.int N,.int (d:Nat)] st) Q:=by
 refine zdm rfl ?_;simp only[W,V];have da:zo [.int (d:Nat)] st=.ok (.int (d:Nat)) st:=by
  have:WP (zo [.int (d:Nat)] st) (fun v s=>v=.int (d:Nat)/\s=st):=by
   refine zdm rfl ?_;simp only[W,V];refine WP.of (zeg (st:=st) (i:=(d:Nat))) ⟨true,rfl,?_⟩;simp only[xhk,xcl,xdx,W,V];rw[if_neg (by lia)];exact⟨trivial,trivial⟩
  obtain⟨a,s,e,rfl,rfl⟩:=this.get;exact e
 refine WP.of da ?_;simp only[W,V];rw[← hv];refine zbhd h2 ?_;simp only[W,V];exact⟨trivial,q⟩
end
theorem zbcc:(List.range 10).all (fun i=>decide (2<=mostD ((i:Int)+1)/\(i < 3->12<=mostD ((i:Int)+1))))=true:=by decide +kernel
theorem zqr {N:Int}(h1:1<=N)(h2:N<=10):2<=mostD N/\(N<=3->12<=mostD N):=by
 obtain⟨i,hi⟩:∃i:Nat,N=(i:Int)+1:=⟨(N - 1).toNat,by lia⟩
 have b:=xdl (xcw.mp zbcc i (xcd.mpr (by lia)));rw[← hi] at b;exact⟨b.1,fun h=>b.2 (by lia)⟩
end Dd
namespace K56
end K56
namespace Dd
open PySem L2 K13
theorem zbga {a:Int}(h0:0<=a)(h1:a < 120):0<=(2:Int) ^ a.toNat/\(2:Int) ^ a.toNat<=664613997892457936451903530140172288:=by
 have h:(2:Nat) ^ a.toNat<=2 ^ 119:=xfx (by lia) (by lia);have e:(2:Nat) ^ 119=664613997892457936451903530140172288:=by decide +kernel
 have c:((2 ^ a.toNat:Nat):Int)=(2:Int) ^ a.toNat:=by simp
 rw[e] at h;rw[← c];exact⟨Int.natCast_nonneg _,Int.ofNat_le.mpr h⟩
theorem zzd {st:Store}{S v1 v5 v6 v7 v8 v9:Option D}{n:Nat}{N d:Int}{QQ:Fl->Store->Prop}(hb:BagAt st n)(n1:1<=N)(n2:N<=10)(d0:0<=d)(hd:d<=mostD N)(k:∀s,QQ (.nx [S,v1,some (.ref n),some (.int N),some (.int d),v5,v6,v7,v8,v9]) s) :
  WP ((sIf (eTru (aE zcp (aB (aA 3) (aB (aA 4) aC)))) (sIf (bOr (eB (aS oNe (aS oIx (aE zec (aB (aA 3) (aB (aE zbr (aB (aA 2) (aB (aA 3) (aB (aA 4) (aB (eC (.int 6)) aC))))) aC))) (eC (.int 0))) (eC (.str "raised")))) (eB (aS oNe (aE zba (aB (aA 3) (aB (aA 4) aC))) (eC (.int 0))))) (sRet (eC (.bl false))) sNx) sNx) [S, v1, some (.ref n), some (.int N), some (.int d), v5, v6, v7, v8, v9] st) QQ:=by
 have shR:Sh 64 (.str "raised"):=Sh.str (by decide +kernel)
 have mf:=zcv n1 n2;have d24:d<=24:=by have:=mf.2.1;split at this<;>lia
 obtain⟨y,rfl⟩:=xeb d0;obtain⟨v,hv⟩:∃v:Nat,(v:Int)=(y:Int)+N:=⟨((y:Int)+N).toNat,by lia⟩
 have big2:(2:Nat) ^ 130 < 2 ^ 1000:=by decide +kernel
 have vb:v < 2 ^ 1000:=xgj (xbg (show v < 100 by lia) (by decide)) big2;simp only[W,V];refine znh hv vb ⟨_,rfl,?_⟩;by_cases c:N < (pop v:Nat)
 ·rw[xcj c,if_pos rfl];have sure:N < (pop ((y:Int)+N).toNat:Nat):=by rw[show((y:Int)+N).toNat=v by lia];exact c
  refine zof hb (by lia) (by lia) (by lia) (by lia) (by lia) (by lia) fun l s10 l1 l2 l3 l4 D10=>?_
  try simp only[W,V]
  refine zlk n1 n2 (by lia) hd sure l2 l3 (by lia) l4 fun g11=>?_
  refine WP.of (zpd (neg:=true) rfl rfl shR) ?_;dsimp only[bK];rw[if_neg (by decide)];refine zjc n1 n2 (by lia) hd sure fun g12=>?_
  simp only[W,V,xfi,xhk,xcl,xdx];exact k _
 ·rw[xcb c,if_neg (by decide)];exact k _
theorem zxl (ns:List Int)(hl:ns.length<=63):∃st',zbpl [.scr (ns.map .int)] []=.ok (.bl true) st':=by
 have shR:Sh 64 (.str "raised"):=Sh.str (by decide +kernel)
 have big1:(10:Int) ^ 39 < 2 ^ 1000:=by decide +kernel
 have big2:(2:Nat) ^ 130 < 2 ^ 1000:=by decide +kernel
 have key:WP (zbpl [.scr (ns.map .int)] []) (fun v _=>v=.bl true):=by
  refine zdm rfl ?_;simp only[W,V];have hle:((ns.map D.int).length:Int)<=63:=by rw[xbb];lia
  have hge:(0:Int)<=((ns.map D.int).length:Int):=by lia
  generalize ((ns.map D.int).length:Int)=len at hle hge;refine⟨_,rfl,rngN (by split<;>lia) (by split<;>lia),?_⟩;refine zdr (fun i σ s=>∃v1 v2 v3 v4 v5 v6 v7 v8 v9:Option D,σ=[some (.scr (ns.map .int)),v1,v2,v3,v4,v5,v6,v7,v8,v9]) ⟨_,_,_,_,_,_,_,_,_,rfl⟩ ?_ ?_
  ·rintro i x σ s hx ⟨v1,v2,v3,v4,v5,v6,v7,v8,v9,rfl⟩;obtain⟨hi,rfl⟩:=zir hx;have hi2:i<=3:=by split at hi<;>lia
   refine⟨_,rfl,?_⟩;unfold zvh;simp only[W,V];rw[xix];refine zboy hl (by lia) fun g hb=>?_
   refine ztp hb fun N s2 n1 n2 d2=>?_
   refine zxw d2.bag n1 n2 fun d s3 d0 hd d3=>?_
   have mf:=zcv n1 n2;have d24:d<=24:=by have:=mf.2.1;split at this<;>lia
   refine zdj d3.bag (by lia) (by lia) fun a s4 a0 a1 d4=>?_
   try simp only[W,V]
   refine⟨⟨by lia,by lia,by decide⟩,?_⟩;refine zdj d4.bag (by lia) (by lia) fun b s5 b0 b1 d5=>?_
   try simp only[W,V]
   refine⟨⟨by lia,by lia,by decide⟩,?_⟩
   try simp only[W,V]
   refine zdj d5.bag (by lia) (by lia) fun c s6 c0 c1 d6=>?_
   try simp only[W,V]
   obtain⟨pa0,pa1⟩:=zbga a0 a1;obtain⟨pb0,pb1⟩:=zbga b0 b1;have hF:0<=1 * (2:Int) ^ a.toNat+1 * 2 ^ b.toNat+c/\1 * (2:Int) ^ a.toNat+1 * 2 ^ b.toNat+c < 1000000000000000000000000000000000000000:=by lia
   generalize 1 * (2:Int) ^ a.toNat+1 * 2 ^ b.toNat+c=F at hF ⊢;refine⟨⟨by lia,by lia,by decide⟩,?_⟩;refine zbar d6.bag (by decide) big1 fun e s7 e0 e1 d7=>?_
   have e2:e < 1000000000000000000000000000000000000000:=e1;refine⟨trivial,small _ (by simp),_,rfl,?_⟩;have hM:0<=(if F - N > 0 then F - N else 0)/\(if F - N > 0 then F - N else 0) < 1000000000000000000000000000000000000000:=by split<;>lia
   generalize (if F - N > 0 then F - N else 0)=M' at hM ⊢;have each:∀y∈[d,F,e,M'],0<=y/\y < 1000000000000000000000000000000000000000:=fun y hy=>by
    simp only[xbp,xmq,or_false] at hy;rcases hy with rfl | rfl | rfl | rfl<;>lia
   refine zdr (xs:=[d,F,e,M'].map D.int) (fun j σ s'=>s'=s7/\∃w6 w7:Option D,σ=[some (.scr (ns.map .int)),some (.int (i:Int)),some (.ref s.length),some (.int N),some (.int d),some (.int F),w6,w7,v8,v9]) ⟨rfl,_,_,rfl⟩ ?_ ?_
   ·rintro j x σ s' hx ⟨rfl,w6,w7,rfl⟩;obtain⟨y,hy,rfl⟩:=zhl hx;obtain⟨y0,y1⟩:=each y (xca hy);obtain⟨y,rfl⟩:=xeb y0;obtain⟨v,hv⟩:∃v:Nat,(v:Int)=(y:Int)+N:=⟨((y:Int)+N).toNat,by lia⟩
    have e130:(2:Nat) ^ 130=1361129467683753853853498429727072845824:=by decide +kernel
    have v130:v < 2 ^ 130:=by rw[e130];lia
    have vb:v < 2 ^ 1000:=xgj v130 big2;refine⟨_,rfl,?_⟩;unfold zvj;simp only[W,V];refine zbfl hv vb ?_;refine WP.of (show bIsinst [D.bl (decide (N < (pop v:Nat))), .ty "bool"] s'=.ok (.bl true) s' from rfl) ⟨true, rfl, ?_⟩
    simp only[xhk,xcl,xdx,W,V];refine znh hv vb ?_;refine WP.of (zpd (neg:=true) rfl rfl (Sh.bl (b:=decide (N < (pop v:Nat))))) ?_;dsimp only[bK];rw[if_neg (by decide)];simp only[L];exact⟨trivial,_,_,rfl⟩
   rintro σ s' ⟨rfl,w6,w7,rfl⟩;simp only[W,V];refine zdj d7.bag (by lia) (by lia) fun t s8 t0 t1 d8=>?_
   simp only[W,V];refine⟨_,_,rfl,rngN (by lia) (by lia),rngN (by lia) (by lia),?_⟩;have hfew:1<=(if 3 < N then 3 else N)/\(if 3 < N then 3 else N)<=3:=by split<;>lia
   generalize (if 3 < N then 3 else N)=fw at hfew ⊢;have tf:=(zqr (N:=fw) (by lia) (by lia)).2 (by lia);have m13:13<=mostD fw:=by
    obtain⟨f1,f2⟩:=hfew;have:fw=1\/fw=2\/fw=3:=by lia
    rcases this with rfl | rfl | rfl<;>decide
   refine zdr (fun j σ s'=>BagAt s' s.length/\∃w8 w9:Option D,σ=[some (.scr (ns.map .int)),some (.int (i:Int)),some (.ref s.length),some (.int N),some (.int d),some (.int fw),w6,w7,w8,w9]) ⟨d8.bag,_,_,rfl⟩ ?_ ?_
   ·rintro j x σ s9 hx ⟨B9,w8,w9,rfl⟩;obtain⟨hj,rfl⟩:=zir hx;obtain⟨y,hy⟩:∃y:Nat,1+t+(j:Int)=(y:Int):=⟨(1+t+(j:Int)).toNat,by lia⟩
    rw[hy];obtain⟨v,hv⟩:∃v:Nat,(v:Int)=(y:Int)+fw:=⟨((y:Int)+fw).toNat,by lia⟩
    have vb:v < 2 ^ 1000:=xgj (xbg (show v < 100 by lia) (by decide)) big2;refine⟨_,rfl,?_⟩;unfold zvi;simp only[W,V];refine znh hv vb ⟨_,rfl,?_⟩;by_cases c:fw < (pop v:Nat)
    ·rw[xcj c,if_pos rfl];have sure:fw < (pop ((y:Int)+fw).toNat:Nat):=by rw[show((y:Int)+fw).toNat=v by lia];exact c
     refine zof B9 (by lia) (by lia) (by lia) (by lia) (by lia) (by lia) fun l s10 l1 l2 l3 l4 D10=>?_
     try simp only[W,V]
     refine zlk (by lia) (by lia) (by lia) (by lia) sure l2 l3 (by lia) l4 fun g11=>?_
     refine WP.of (zpd (neg:=true) rfl rfl shR) ?_;dsimp only[bK];rw[if_neg (by decide)];refine zjc (by lia) (by lia) (by lia) (by lia) sure fun g12=>?_
     simp only[W,V,xfi,xhk,xcl,xdx];refine zhf (by lia) (by lia) (by lia) (by lia) sure fun g13=>?_
     refine⟨small _ (by simp),?_⟩;have B13:BagAt (s10++g11++g12++g13++[O.lst []]) s.length:=by
      rw[xcg,xcg,xcg];exact(Drew.more D10.bag _).bag
     have gt:∀u:Store,(u++[O.lst []])[u.length]?=some (.lst []):=fun u=>by simp
     refine WP.of (zpd (neg:=true) (d:=.lst []) (zbhm (gt _)) rfl ((Sh.lst (n:=5) (ds:=[]) (by simp)).mono (by lia))) ?_;dsimp only[bK];rw[if_neg (by decide)];show WP _ _;refine zzd B13 n1 n2 d0 hd fun _=>?_
     simp only[L];exact⟨_,_,_,_,_,_,_,_,_,rfl⟩
    ·rw[xcb c,if_neg (by decide)];simp only[L];exact⟨B9,_,_,rfl⟩
   ·rintro σ s9 ⟨B9,w8,w9,rfl⟩;show WP _ _;refine zzd B9 n1 n2 d0 hd fun _=>?_
    simp only[L];exact⟨_,_,_,_,_,_,_,_,_,rfl⟩
  ·rintro σ s ⟨v1,v2,v3,v4,v5,v6,v7,v8,v9,rfl⟩;simp only[W,V]
 obtain⟨a,st',e,rfl⟩:=key.get;exact⟨st',e⟩
end Dd
namespace K60
theorem holds:∀ns:List Int,ns.length<=63->∃st',Dd.zbpl [.scr (ns.map .int)] []=.ok (.bl true) st':=fun ns hl=>Dd.zxl ns hl
end K60
namespace K60
open PySem L2 Dd
noncomputable def top (i:Nat):Stmt:=PySem.Challenge.pw_raisedsums_k60_whole_sure_degrees.main.body.getD i (.Pass ⟨0,0,0,0⟩)
section
variable {Y:En}
theorem zqp (T:TopF Y.K "_law_bag" (top 43))(Ad:Y.mg "len"=none)(z_abs:Y.mg "abs"=none)(Ak:Y.mg "min"=none)(Ab:Y.mg "range"=none):Cl Y "_law_bag" 1 ["_law_script", "_law_at"] zfm:=cmk ["_law_script", "_law_at", "_law_cell", "_law_mix", "_law_k"] T fun nd f cdv A outer s H E hr=>(zb (sst nd zd)
 (zb (zbw (zu (zsu hr.units0) ztd sv (zp zbi znv rfl Ad znp (sa1 sv)) (nomark _)) (zc (sst nd (zp zbdz zbph rfl z_abs zbot (sa1 (zfe sv sv (fun _ _=>rfl)))))) zbb)
 (zb (sst nd (sad (zcl zla (oI_D fun _ _ _ _=>.int _) zd sv) zd))
 (zb (sfr (zdw rfl Ab (sa1 (zp (zkk rfl) zbkq rfl Ak zbeb (sa2 (zp zbi znv rfl Ad znp (sa1 sv)) zd)))) (sgn nd)
 (zc (sst nd (zcl zlb (oI_D fun _ _ _ _=>.int _) (sad (sad (zcl zla (oI_D fun _ _ _ _=>.int _) sv zd) (zcl zlb (oI_D fun _ _ _ _=>.int _) (zfe sv sv (fun _ _=>rfl)) zd)) sv) zd))))
 (zb (zbw (zu (zsu hr.units0) ztd sv (zcl zbgz (oI_D fun _ _ _ _=>.int _) zd zd) (nomark _)) (zc (sst nd zd)) zbb)
 (zc (zh (zfd (sa2 sv sv)))))))))
theorem zmt (T:TopF Y.K "_law_take" (top 44))  : Cl Y "_law_take" 1 ["_law_bag_here", "_law_many"] zi:=cmk ["_law_bag_here", "_law_many", "_law_digit", "_law_number", "_law_room"] T fun nd f cdv A outer s H E hr=>(zb (zbw (zu zben (zfq fun _ _ _ _=>.bl _) (zfe sv zd (fun _ _=>rfl)) zd (nomark _)) (zb (sst nd (zcl zlb (oI_D fun _ _ _ _=>.int _) (zfe sv zd (fun _ _=>rfl)) sv))
 (zb (zpe (zcl zjq (oI_D fun _ _ _ _=>.int _) (zfe sv zd (fun _ _=>rfl)) sv) sv zd)
 (zc (zh sv)))) zbb)
 (zb (sst nd zd)
 (zb (sst nd zd)
 (zb (zej xgn (zu (zsu hr.units0) ztd sv sv (nomark _)) (zb (zpe (zcl zlb (oI_D fun _ _ _ _=>.int _) (sad (zcl zla (oI_D fun _ _ _ _=>.int _) (zfe sv zd (fun _ _=>rfl)) zd) zd) zd) sv zd)
 (zb (sst nd (sad (zcl zla (oI_D fun _ _ _ _=>.int _) sv zd) (zcl zlb (oI_D fun _ _ _ _=>.int _) (zcl zla (oI_D fun _ _ _ _=>.int _) (zcl zjq (oI_D fun _ _ _ _=>.int _) (zfe sv zd (fun _ _=>rfl)) zd) zd) zd)))
 (zc (sst nd (zcl zla (oI_D fun _ _ _ _=>.int _) sv zd))))))
 (zc (zh (zcl zlb (oI_D fun _ _ _ _=>.int _) sv sv)))))))
theorem zij (T:TopF Y.K "_law_letters" (top 46))(Aa:Cl Y "_law_take" 1 ["_law_bag_here", "_law_many"] zi):Cl Y "_law_letters" 2 ["_law_bag_here"] zct:=cmk ["_law_bag_here"] T fun nd f cdv A outer s H E hr=>(zc (zh (zfe (znk (ze zd (ze zd (ze zd (ze zd (ze zd (ze zd (ze zd (ze zd (ze zd (sa2 zd (sad zd (scl Aa hr (sa2 sv zd)))))))))))))) (scl Aa hr (sa2 sv zd)) (fun _ _=>rfl))))
theorem zjv (T:TopF Y.K "_law_degree" (top 47))(Al:Y.mg "int"=none)(Aa:Cl Y "_law_take" 1 ["_law_bag_here", "_law_many"] zi):Cl Y "_law_degree" 2 ["_law_bag_here", "_law_n"] zdh:=cmk ["_law_bag_here", "_law_n", "_law_most"] T fun nd f cdv A outer s H E hr=>(zb (sst nd (zfe (znk (ze zd (ze zd (ze zd (ze zd (ze zd (ze zd (ze zd (ze zd (sa2 zd zd)))))))))) (ssb sv zd) (fun _ _=>rfl)))
 (zc (zh (zfe (znk (sa2 sv (scl Aa hr (sa2 sv (sad sv zd))))) (zdf zyf zbpe rfl Al zbjz (sa1 (zra zben (zfq fun _ _ _ _=>.bl _) (scl Aa hr (sa2 sv zd)) zd (nomark _)))) (fun _ _=>rfl)))))
theorem zqo (T:TopF Y.K "_law_due" (top 50))  : Cl Y "_law_due" 1 ["_law_n", "_law_d"] zcp:=cmk ["_law_n", "_law_d", "_law_few_ones", "_law_left"] T fun nd f cdv A outer s H E hr=>(zb (sst nd zd)
 (zb (sst nd (sad sv sv))
 (zb (zej xgn (zu zben (zfq fun _ _ _ _=>.bl _) sv zd (nomark _)) (zb (sst nd (sad sv (zcl zlb (oI_D fun _ _ _ _=>.int _) sv zd)))
 (zc (sst nd (zcl zjq (oI_D fun _ _ _ _=>.int _) sv zd)))))
 (zc (zh (zra zben (zfq fun _ _ _ _=>.bl _) sv sv (nomark _)))))))
theorem zih (T:TopF Y.K "ones_counted" (top 26))  : Cl Y "ones_counted" 1 ["number"] zbf:=cmk ["number", "told"] T fun nd f cdv A outer s H E hr=>(zb (sst nd zd)
 (zb (zej xgn (zck sv) (zb (sst nd (zcl zsw (zfq fun _ _ _ _=>.int _) sv (ssb sv zd)))
 (zc (zzv (i:=1) nd rfl (Or.inl rfl) zd zbne ip_D))))
 (zc (zh sv))))
theorem zqm (T:TopF Y.K "is_whole" (top 7))(Am:Y.mg "bool"=none)(Ah:Y.mg "isinstance"=none)(Al:Y.mg "int"=none):Cl Y "is_whole" 1 ["thing"] zbv:=cmk ["thing"] T fun nd f cdv A outer s H E hr=>(zc (zh (zbdw (zp zek zgw rfl Ah zcq (sa2 sv (zqz (zoq (v:=.ty "int") rfl Al zbjz rfl) (fun _ _=>.ty _)))) (zbdo (zbji (zp zek zgw rfl Ah zcq (sa2 sv (zqz (zoq (v:=.ty "bool") rfl Am zbac rfl) (fun _ _=>.ty _)))))))))
theorem zii (T:TopF Y.K "degree_asked" (top 28))(Ai:Cl Y "is_whole" 1 ["thing"] zbv):Cl Y "degree_asked" 2 ["d"] zo:=cmk ["d"] T fun nd f cdv A outer s H E hr=>(zb (zbw (JW.pt (zng (ziz (zck (scl Ai hr (sa1 sv)))) (zht (zu (zsu hr.units0) ztd sv zd (nomark _)) (by first | exact Or.inl rfl | exact Or.inr rfl)))) (zc zfc) zbb)
 (zc (zh sv)))
theorem zta (T:TopF Y.K "is_sure" (top 41))(An:Cl Y "ones_counted" 1 ["number"] zbf)(Ao:Cl Y "degree_asked" 2 ["d"] zo):Cl Y "is_sure" 3 ["n", "d"] zfn:=cmk ["n", "d"] T fun nd f cdv A outer s H E hr=>(zc (zh (zra zben (zfq fun _ _ _ _=>.bl _) (scl An hr (sa1 (sad (scl Ao hr (sa1 sv)) sv))) sv (nomark _))))
theorem zqn (T:TopF Y.K "_law_odd" (top 45))(Ae:Y.mg "sorted"=none)(Ac:Y.mg "tuple"=none):Cl Y "_law_odd" 1 ["_law_things"] zeb:=cmk ["_law_things", "_law_odd_here", "_law_thing"] T fun nd f cdv A outer s H E hr=>(zb (sst nd zpj)
 (zb (sfr (zbj sv) (sgn nd)
 (zc (zni (znd hr) sv sv (zbji (zbdr (znd hr) sv sv zbdu ⟨rfl,rfl,rfl,rfl⟩)) rfl)))
 (zc (zh (zdf zbk zge rfl Ac zes (sa1 (zp (zer rfl hr.units) zkl rfl Ae zel (sa1 (zja rfl (zbdk sv) (fun _ _ _ _ _=>(zcu (i:=0) (show(["_law_thing", "_law_odd_here"]:List Str).Nodup from by decide +kernel) rfl (Or.inl rfl))) (fun _ _ _ _ _=>(zkf (zck (zuk (znd hr) sv sv (fun _ _=>rfl))))) (fun _ _ _ _ _=>sv) (N:=["_law_thing", "_law_odd_here"]) (k:=1) (is:=[1]) (zhx (by rfl)))))))))))
theorem zgp (T:TopF Y.K "_law_of_degree" (top 48))(Ab:Y.mg "range"=none)(Ap:Y.mg "max"=none)(Ac:Y.mg "tuple"=none)(Aa:Cl Y "_law_take" 1 ["_law_bag_here", "_law_many"] zi):Cl Y "_law_of_degree" 2 ["_law_bag_here", "_law_n", "_law_d"] zbt:=cmk ["_law_bag_here", "_law_n", "_law_d", "_law_left", "_law_exponents", "_law_fork", "_law_k", "_law_e", "_law_at"] T fun nd f cdv A outer s H E hr=>(zb (sst nd sv)
  (zb (sst nd (zfd zbn))
  (zb (sst nd (scl Aa hr (sa2 sv zd)))
  (zb (sfr (zdw rfl Ab (sa1 (ssb sv zd))) (sgn nd)
  (zb (sst nd (scl Aa hr (sa2 sv (sad sv zd))))
  (zb (zbw (zu (zsv hr.units) zrc sv zd (nomark _)) (zc (sst nd (zp (zyd rfl) zbke rfl Ap zbjy (sa1 (zja rfl (zbj (zdp (ze zd (ze zd (ze zd (sa2 zd zd)))))) (fun _ _ _ _ _=>(zcu (i:=0) (show(["_law_x", "_law_e"]:List Str).Nodup from by decide +kernel) rfl (Or.inl rfl))) (fun _ _ _ _ _=>(zkf (zu zbby (zfq fun _ _ _ _=>.bl _) sv sv (nomark _)))) (fun _ _ _ _ _=>sv) (N:=["_law_x", "_law_e"]) (k:=1) (is:=[7]) (zhx (by rfl))))))) zbb)
  (zb (zbx (zdg sv (sa1 sv)))
  (zc (sst nd (ssb sv sv)))))))
  (zb (zbx (zdg sv (sa1 sv)))
  (zb (sst nd (scl Aa hr (sa2 sv sv)))
  (zc (zh (zdf zbk zge rfl Ac zes (sa1 (sad (zbqg sv (zue sv) zuf) (zbqg sv zuf (zue sv)))))))))))))
theorem zju (T:TopF Y.K "_law_sum_of" (top 49))(Ab:Y.mg "range"=none)(A2:Cl Y "_law_odd" 1 ["_law_things"] zeb)(Aa:Cl Y "_law_take" 1 ["_law_bag_here", "_law_many"] zi)(A3:Cl Y "_law_of_degree" 2 ["_law_bag_here", "_law_n", "_law_d"] zbt):Cl Y "_law_sum_of" 3 ["_law_bag_here", "_law_n", "_law_d", "_law_many"] zbr:=cmk ["_law_bag_here", "_law_n", "_law_d", "_law_many"] T fun nd f cdv A outer s H E hr=>(zc (zh (scl A2 hr (sa1 (scp ["_law_k", "_law_bag_here", "_law_n", "_law_d"] (zdw rfl Ab (sa1 (scl Aa hr (sa2 sv (sad sv zd))))) (fun _ _ _ _ _=>(scl A3 hr (ze sv (sa2 sv sv)))))))))
theorem zbg:FnScope ["n", "d", "told", "e"] ["n", "d"] (defScope (top 23)):=⟨rfl, rfl, rfl, by decide +kernel, rfl, by decide +kernel, by decide +kernel⟩
theorem zdn {fF:DFn}{j:Nat}(hj:1<=j)(hself:∀ ds st v st', fF ds st=.ok v st'->ds.length=2)(T:TopF Y.K "products_of_degree" (top 23))(Ab:Y.mg "range"=none)(Ag:Cl Y "products_of_degree" j ["n", "d"] fF):Cl Y "products_of_degree" (j + 1) ["n", "d"] (zg fF) :=
 have nd:=zbg.nd
 zuu (k:=j) T Y.X Y.G zbg (fun _ _ _ _ _ _ us hl=>len2 us hl fun _ _=>rfl) fun f cdv A outer s H E hr=>(zb (zbw (zu (zsv hr.units) zrc (zhw (pv 0)) zd (nomark _)) (zc (zh (znk (ze (zdp (ze (zhw (pv 1)) zbn)) zbn)))) zbb)
 (zb (zzt (i:=2) nd rfl (Or.inl rfl) (zfd zbn))
 (zb (zzu xgn rfl (zdw rfl Ab (ze (zcl zsy zbca (zhw (pv 1)) zd) zbn)) (zcu (i:=3) nd rfl (Or.inr rfl))
 (zc (zbx (zpi (zhw (pv 2)) (ze (zja rfl (zbj (zbaa Ag hself hr rfl (ze (zcl zbbx (zfq fun _ _ _ _=>.int _) (zhw (pv 0)) zd) (ze (zcl zbbx (zfq fun _ _ _ _=>.int _) (zhw (pv 1)) (zhw (pv 3))) zbn)))) (fun _ _ _ _ _=>(zcu (i:=0) (show(["rest", "e"]:List Str).Nodup from by decide +kernel) rfl (Or.inl rfl))) (fun _ _ _ _ _=>znj) (fun _ _ _ _ _=>(zcl zsy zbca (zdp (ze (zhw (pv 1)) zbn)) (zhw (pv 0)))) (N:=["rest", "e"]) (k:=1) (is:=[3]) (zhx (by rfl))) zbn)))))
 (zc (zh (zbdp (zhw (pv 2))))))))
theorem zen (T:TopF Y.K "products_of_degree" (top 23))(Ab:Y.mg "range"=none):Cl Y "products_of_degree" 11 ["n", "d"] (iterF zg 10):=CalD.iter (L:=1) (zut T Y.X Y.G zbg (fun _ _ _ _ _ _ us hl=>len2 us hl fun _ _=>rfl)) (fun _ _ _ _ _ h=>zzo h) (fun F j hj hs c=>zdn hj hs T Ab c) 10
theorem zjt (T:TopF Y.K "most_degree" (top 21)){Bp:Tok}(m_FEW_LETTERS:Y.mg "FEW_LETTERS"=some (.int 3 Bp)):Cl Y "most_degree" 1 ["n"] zea:=cmk ["n"] T fun nd f cdv A outer s H E hr=>(zc (zh (zbqh (zu zbby (zfq fun _ _ _ _=>.bl _) sv (zqz (zyr (v:=.int 3) rfl m_FEW_LETTERS ⟨_, rfl⟩) (fun _ _=>.int _)) (nomark _)) zd zd)))
theorem zeo (T:TopF Y.K "number_of_products" (top 22))(Ab:Y.mg "range"=none):Cl Y "number_of_products" 1 ["n", "d"] zx:=cmk ["n", "d", "told", "i"] T fun nd f cdv A outer s H E hr=>(zb (sst nd zd)
 (zb (sfr (zlr rfl Ab (sa2 zd sv)) (sgn nd)
 (zc (sst nd (zcl zjq (oI_D fun _ _ _ _=>.int _) (zcl zbha (oI_D fun _ _ _ _=>.int _) sv (sad sv sv)) sv))))
 (zc (zh sv))))
theorem zhj (T:TopF Y.K "can_be_judged" (top 24)){Bq:Tok}(m_MOST_JUDGED:Y.mg "MOST_JUDGED"=some (.int 200 Bq))(A4:Cl Y "number_of_products" 1 ["n", "d"] zx)(A5:Cl Y "most_degree" 1 ["n"] zea):Cl Y "can_be_judged" 2 ["n", "d"] zbu:=cmk ["n", "d"] T fun nd f cdv A outer s H E hr=>(zc (zh (zbdw (zra zbby (zfq fun _ _ _ _=>.bl _) sv (scl A5 hr (sa1 sv)) (nomark _)) (zbdo (zra zbby (zfq fun _ _ _ _=>.bl _) (scl A4 hr (sa2 sv sv)) (zqz (zyr (v:=.int 200) rfl m_MOST_JUDGED ⟨_, rfl⟩) (fun _ _=>.int _)) (nomark _))))))
theorem ztc (T:TopF Y.K "bounded" (top 27))(A6:Cl Y "can_be_judged" 2 ["n", "d"] zbu):Cl Y "bounded" 3 ["n", "d"] zem:=cmk ["n", "d"] T fun nd f cdv A outer s H E hr=>(zb (zbw (ziz (zck (scl A6 hr (sa2 sv sv)))) (zc zfc) zbb)
 (zc (zh sv)))
theorem zig (T:TopF Y.K "parts_enough" (top 30))  : Cl Y "parts_enough" 1 ["d"] zcc:=cmk ["d", "told", "k"] T fun nd f cdv A outer s H E hr=>(zb (sst nd (zfd zbn))
 (zb (sst nd zd)
 (zb (zej xgn (zu zbby (zfq fun _ _ _ _=>.bl _) (zcl zla (oI_D fun _ _ _ _=>.int _) zd sv) sv (nomark _)) (zb (zbx (zdg sv (sa1 sv)))
 (zc (sst nd (zcl zla (oI_D fun _ _ _ _=>.int _) zd sv)))))
 (zc (zh (zbdp sv))))))
theorem zfy (T:TopF Y.K "raised_products" (top 31))(A7:Cl Y "parts_enough" 1 ["d"] zcc)(Ag:Cl Y "products_of_degree" 11 ["n", "d"] (iterF zg 10)):Cl Y "raised_products" 12 ["n", "d"] zbh:=cmk ["n", "d", "told", "k"] T fun nd f cdv A outer s H E hr=>(zb (sst nd (zfd zbn))
 (zb (sfr (zbj (scl A7 hr (sa1 sv))) (sgn nd)
 (zc (zbx (zpi sv (sa1 (scp ["product", "k"] (zbj (scl Ag hr (sa2 sv (ssb sv sv)))) (fun _ _ _ _ _=>(zdp (sa2 sv sv)))))))))
 (zc (zh (zbdp sv)))))
theorem zql (T:TopF Y.K "lessened" (top 34))  : Cl Y "lessened" 1 ["leads", "number"] zdb:=cmk ["leads", "number", "used", "two"] T fun nd f cdv A outer s H E hr=>(zb (sst nd zd)
 (zb (zej xgn (JW.pt (zbit (zck sv) (zht (zbdc (zbgr (znd hr) (zpk sv) sv)) (by first | exact Or.inl rfl | exact Or.inr rfl)))) (zb (sst nd (zui (znd hr) sv (zpk sv) (fun _ _=>rfl)))
 (zb (sst nd (zcl zbgx (zfq fun _ _ _ _=>.int _) sv (zfe sv zd (fun _ _=>rfl))))
 (zc (sst nd (zcl zbgx (zfq fun _ _ _ _=>.int _) sv (zfe sv zd (fun _ _=>rfl))))))))
 (zc (zh (zdp (sa2 sv sv))))))
theorem zmr (T:TopF Y.K "as_number" (top 33))  : Cl Y "as_number" 1 ["places", "some"] zch:=cmk ["places", "some", "told", "product"] T fun nd f cdv A outer s H E hr=>(zb (sst nd zd)
 (zb (sfr (zbj sv) (sgn nd)
 (zc (sst nd (zcl zbmg (zfq fun _ _ _ _=>.int _) sv (zcl zqh (oI_D fun _ _ _ _=>.int _) zd (zuk (znd hr) sv sv (fun _ _=>rfl)))))))
 (zc (zh sv))))
theorem zws (T:TopF Y.K "shares" (top 11))  : Cl Y "shares" 1 ["e", "least", "most"] zkn:=cmk ["e", "least", "most", "told", "j"] T fun nd f cdv A outer s H E hr=>(zb (sst nd (zfd zbn))
 (zb (sst nd zd)
 (zb (zej xgn (zu zbby (zfq fun _ _ _ _=>.bl _) sv sv (nomark _)) (zb (zbw (zu zbpx (zfq fun _ _ _ _=>.bl _) sv sv (nomark _)) (zc (zbx (zdg sv (sa1 sv)))) zbb)
 (zb (zbw (zu (zsv hr.units) zrc sv sv (nomark _)) (zc zpf) zbb)
 (zc (sst nd (zcl zsw (zfq fun _ _ _ _=>.int _) (ssb sv sv) sv))))))
 (zc (zh (zbdp sv))))))
theorem zhi (T:TopF Y.K "letter_raised" (top 12))(A8:Cl Y "shares" 1 ["e", "least", "most"] zkn):Cl Y "letter_raised" 2 ["partly", "e", "rest"] zbs:=cmk ["partly", "e", "rest", "told", "made", "left", "j"] T fun nd f cdv A outer s H E hr=>(zb (sst nd (zfd zbn))
 (zb (sfr (zbj sv) (zhv rfl (zbc (sgn nd) (zbc (sgn nd) zeq)))
 (zc (sfr (zbj (scl A8 hr (ze sv (sa2 (ssb sv sv) sv)))) (sgn nd)
 (zc (zbx (zdg sv (sa1 (zdp (sa2 (sad sv (zdp (sa1 (sad sv sv)))) (ssb sv sv))))))))))
 (zc (zh (zbdp sv)))))
theorem zgo (T:TopF Y.K "product_raised" (top 13))(Aj:Y.mg "sum"=none)(A9:Cl Y "letter_raised" 2 ["partly", "e", "rest"] zbs):Cl Y "product_raised" 3 ["product", "k"] zbm:=cmk ["product", "k", "partly", "rest", "e"] T fun nd f cdv A outer s H E hr=>(zb (sst nd (znk (sa1 (zdp (sa2 (zdp zbn) sv)))))
 (zb (sst nd (zp (zki rfl) zbef rfl Aj zbea (sa1 sv)))
 (zb (sfr (zbj sv) (sgn nd)
 (zb (zzv (i:=3) nd rfl (Or.inl rfl) sv zbnd ip_D)
 (zc (sst nd (scl A9 hr (ze sv (sa2 sv sv)))))))
 (zc (zh (zja rfl (zbj sv) (fun _ _ _ _ _=>(zhv rfl (zbc (zcu (i:=0) (show(["made", "left"]:List Str).Nodup from by decide +kernel) rfl (Or.inl rfl)) (zbc (zcu (i:=1) (show(["made", "left"]:List Str).Nodup from by decide +kernel) rfl (Or.inl rfl)) zeq)))) (fun _ _ _ _ _=>znj) (fun _ _ _ _ _=>sv) (N:=["made", "left"]) (k:=2) (is:=[]) (zhx (by rfl))))))))
theorem zbhe (T:TopF Y.K "flip" (top 8))  : Cl Y "flip" 1 ["kept", "thing"] zny:=cmk ["kept", "thing"] T fun nd f cdv A outer s H E hr=>(zc (zbw (zbdc (zbme (znd hr) sv sv)) (zc (zbx (zbjl (znd hr) sv sv ⟨rfl, rfl, rfl, rfl⟩))) (zc (zni (znd hr) sv sv zbdu rfl))))
theorem zwt (T:TopF Y.K "raised" (top 14))(Aj:Y.mg "sum"=none)(Ae:Y.mg "sorted"=none)(Ac:Y.mg "tuple"=none)(Ai:Cl Y "is_whole" 1 ["thing"] zbv)(Ba:Cl Y "product_raised" 3 ["product", "k"] zbm)(Aq:Cl Y "flip" 1 ["kept", "thing"] zny):Cl Y "raised" 4 ["some", "k"] zko:=cmk ["some", "k", "kept", "product", "made"] T fun nd f cdv A outer s H E hr=>(zb (zbw (JW.pt (zng (ziz (zck (scl Ai hr (sa1 sv)))) (zht (zu (zsu hr.units0) ztd sv zd (nomark _)) (by first | exact Or.inl rfl | exact Or.inr rfl)))) (zc zfc) zbb)
 (zb (sst nd zpj)
 (zb (sfr (zbj sv) (sgn nd)
 (zc (zbw (zu zbby (zfq fun _ _ _ _=>.bl _) sv (zp (zki rfl) zbef rfl Aj zbea (sa1 sv)) (nomark _)) (zc (sfr (zbj (scl Ba hr (sa2 sv sv))) (sgn nd)
 (zc (zbx (scl Aq hr (sa2 sv sv)))))) zbb)))
 (zc (zh (zdf zbk zge rfl Ac zes (sa1 (zp (zer rfl hr.units) zkl rfl Ae zel (sa1 sv)))))))))
theorem zms (T:TopF Y.K "all_leads" (top 35))(Ad:Y.mg "len"=none)(Bb:Cl Y "raised_products" 12 ["n", "d"] zbh)(Ar:Cl Y "lessened" 1 ["leads", "number"] zdb)(As:Cl Y "as_number" 1 ["places", "some"] zch)(Bc:Cl Y "raised" 4 ["some", "k"] zko):Cl Y "all_leads" 13 ["n", "d", "places"] zci:=cmk ["n", "d", "places", "leads", "sources", "k", "product", "left"] T fun nd f cdv A outer s H E hr=>(zb (sst nd zuj)
 (zb (sst nd (zfd zbn))
 (zb (sfr (zbj (scl Bb hr (sa2 sv sv))) (zhv rfl (zbc (sgn nd) (zbc (sgn nd) zeq)))
 (zb (sst nd (scl Ar hr (sa2 sv (scl As hr (sa2 sv (scl Bc hr (sa2 (zdp (sa1 sv)) sv)))))))
 (zc (zbw (zck (zfe sv zd (fun _ _=>rfl))) (zb (zbdh (znd hr) sv (zpk (zfe sv zd (fun _ _=>rfl))) (zdp (sa2 (zfe sv zd (fun _ _=>rfl)) (zcl zbmg (zfq fun _ _ _ _=>.int _) (zfe sv zd (fun _ _=>rfl)) (zcl zqh (oI_D fun _ _ _ _=>.int _) zd (zp zbi znv rfl Ad znp (sa1 sv)))))) rfl)
 (zc (zbx (zdg sv (sa1 (zdp (sa2 sv sv))))))) zbb))))
 (zc (zh (zdp (sa2 sv (zbdp sv))))))))
theorem zmq (T:TopF Y.K "places_of" (top 32))(Af:Y.mg "enumerate"=none):Cl Y "places_of" 1 ["products"] zcg:=cmk ["products", "told", "place", "product"] T fun nd f cdv A outer s H E hr=>(zb (sst nd zpj)
 (zb (sfr (zgv rfl Af sv) (zhv rfl (zbc (sgn nd) (zbc (sgn nd) zeq)))
 (zc (zni (znd hr) sv sv sv rfl)))
 (zc (zh sv))))
theorem zqi (T:TopF Y.K "standing" (top 39))(Af:Y.mg "enumerate"=none)(Ag:Cl Y "products_of_degree" 11 ["n", "d"] (iterF zg 10))(Au:Cl Y "bounded" 3 ["n", "d"] zem)(Ao:Cl Y "degree_asked" 2 ["d"] zo)(Av:Cl Y "all_leads" 13 ["n", "d", "places"] zci)(Aw:Cl Y "places_of" 1 ["products"] zcg):Cl Y "standing" 14 ["n", "d"] zcf:=cmk ["n", "d", "products", "leads"] T fun nd f cdv A outer s H E hr=>(zb (sst nd (scl Ag hr (sa2 sv (scl Au hr (sa2 sv (scl Ao hr (sa1 sv)))))))
 (zb (sst nd (zfe (scl Av hr (ze sv (sa2 sv (scl Aw hr (sa1 sv))))) zd (fun _ _=>rfl)))
 (zc (zh (zbds rfl (zgv rfl Af sv) (fun _ _ _ _ _=>(zhv rfl (zbc (zcu (i:=0) (show(["place", "product", "leads"]:List Str).Nodup from by decide +kernel) rfl (Or.inl rfl)) (zbc (zcu (i:=1) (show(["place", "product", "leads"]:List Str).Nodup from by decide +kernel) rfl (Or.inl rfl)) zeq)))) (fun _ _ _ _ _=>(zkf (zbdc (zsp (znd hr) (sad sv zd) sv)))) (fun _ _ _ _ _=>sv) (N:=["place", "product", "leads"]) (k:=2) (is:=[3]) (zhx (by rfl)))))))
theorem zif (T:TopF Y.K "rows_counted" (top 40))(Ad:Y.mg "len"=none)(Ax:Cl Y "standing" 14 ["n", "d"] zcf):Cl Y "rows_counted" 15 ["n", "d"] zba:=cmk ["n", "d"] T fun nd f cdv A outer s H E hr=>(zc (zh (zp zbi znv rfl Ad znp (sa1 (scl Ax hr (sa2 sv sv))))))
theorem ztb (T:TopF Y.K "degrees" (top 20))(Aj:Y.mg "sum"=none)(Ae:Y.mg "sorted"=none)(z_set:Y.mg "set"=none):Cl Y "degrees" 1 ["some"] zgy:=cmk ["some"] T fun nd f cdv A outer s H E hr=>(zc (zh (zbrr rfl zrb rfl Ae zel rfl z_set zbor (sa1 (scp ["product"] (zbj sv) (fun _ _ _ _ _=>(zp (zki rfl) zbef rfl Aj zbea (sa1 sv))))))))
theorem zle (T:TopF Y.K "one_degree" (top 29))(Ad:Y.mg "len"=none)(Bd:Cl Y "degrees" 1 ["some"] zgy)(Au:Cl Y "bounded" 3 ["n", "d"] zem):Cl Y "one_degree" 4 ["n", "some"] zco:=cmk ["n", "some", "told"] T fun nd f cdv A outer s H E hr=>(zb (sst nd (scl Bd hr (sa1 sv)))
 (zb (zbw (zu zben (zfq fun _ _ _ _=>.bl _) (zp zbi znv rfl Ad znp (sa1 sv)) zd (nomark _)) (zc zfc) zbb)
 (zc (zh (zbqh (zck sv) (scl Au hr (sa2 sv (zfe sv zd (fun _ _=>rfl)))) zbjk)))))
theorem zjs (T:TopF Y.K "row_against" (top 37))(Ae:Y.mg "sorted"=none)(An:Cl Y "ones_counted" 1 ["number"] zbf):Cl Y "row_against" 2 ["leads", "length"] zdy:=cmk ["leads", "length", "row", "longer"] T fun nd f cdv A outer s H E hr=>(zb (sst nd (zcl zqh (oI_D fun _ _ _ _=>.int _) zd (ssb sv zd)))
 (zb (sfr (zbj (zp (zgi rfl) zpt rfl Ae zel (sa1 sv))) (sgn nd)
 (zc (zbw (zu (zsv hr.units) zrc (zcl zlb (oI_D fun _ _ _ _=>.int _) (scl An hr (sa1 (zcl zsw (zfq fun _ _ _ _=>.int _) sv (zfe (zui (znd hr) sv sv (fun _ _=>rfl)) zd (fun _ _=>rfl))))) zd) zd (nomark _)) (zc (sst nd (zcl zbmg (zfq fun _ _ _ _=>.int _) sv (zcl zqh (oI_D fun _ _ _ _=>.int _) zd (ssb sv zd))))) zbb)))
 (zc (zh sv))))
theorem zqk (T:TopF Y.K "odd_ones" (top 9))(Ae:Y.mg "sorted"=none)(Ac:Y.mg "tuple"=none)(Aq:Cl Y "flip" 1 ["kept", "thing"] zny):Cl Y "odd_ones" 2 ["things"] zfk:=cmk ["things", "kept", "thing"] T fun nd f cdv A outer s H E hr=>(zb (sst nd zpj)
 (zb (sfr (zbj sv) (sgn nd)
 (zc (zbx (scl Aq hr (sa2 sv sv)))))
 (zc (zh (zdf zbk zge rfl Ac zes (sa1 (zp (zer rfl hr.units) zkl rfl Ae zel (sa1 sv))))))))
theorem zlf (T:TopF Y.K "is_product" (top 18))(Ad:Y.mg "len"=none)(Ac:Y.mg "tuple"=none)(Ah:Y.mg "isinstance"=none)(z_all:Y.mg "all"=none)(Ai:Cl Y "is_whole" 1 ["thing"] zbv):Cl Y "is_product" 2 ["n", "thing"] zdi:=cmk ["n", "thing"] T fun nd f cdv A outer s H E hr=>(zb (zbw (JW.pt (zng (ziz (zck (zp zek zgw rfl Ah zcq (sa2 sv (zqz (zoq (v:=.ty "tuple") rfl Ac zes rfl) (fun _ _=>.ty _)))))) (zht (zu (zmp hr.units) zrc (zp zbi znv rfl Ad znp (sa1 sv)) sv (nomark _)) (by first | exact Or.inl rfl | exact Or.inr rfl)))) (zc (zh zbdu)) zbb)
 (zc (zh (zp (zbdy rfl) zbpf rfl z_all zbos (sa1 (scp ["e"] (zbj sv) (fun _ _ _ _ _=>(zbdw (scl Ai hr (sa1 sv)) (zbdo (zra zbpx (zfq fun _ _ _ _=>.bl _) sv zd (nomark _)))))))))))
theorem zwr (T:TopF Y.K "sum_of" (top 19))(Af:Y.mg "enumerate"=none)(Be:Cl Y "is_product" 2 ["n", "thing"] zdi)(Bf:Cl Y "odd_ones" 2 ["things"] zfk):Cl Y "sum_of" 3 ["n", "things"] zgx:=cmk ["n", "things", "at", "thing"] T fun nd f cdv A outer s H E hr=>(zb (sfr (zgv rfl Af sv) (zhv rfl (zbc (sgn nd) (zbc (sgn nd) zeq)))
 (zc (zbw (ziz (zck (scl Be hr (sa2 sv sv)))) (zc zfc) zbb)))
 (zc (zh (scl Bf hr (sa1 sv)))))
theorem zqj (T:TopF Y.K "pairs_of" (top 36))(Af:Y.mg "enumerate"=none)(Ae:Y.mg "sorted"=none)(Ac:Y.mg "tuple"=none)(Bg:Cl Y "sum_of" 3 ["n", "things"] zgx):Cl Y "pairs_of" 4 ["n", "sources", "used"] zfj:=cmk ["n", "sources", "used", "products", "number", "source"] T fun nd f cdv A outer s H E hr=>(zb (sst nd zuj)
 (zb (sfr (zgv rfl Af sv) (zhv rfl (zbc (sgn nd) (zbc (sgn nd) zeq)))
 (zc (zbw (zck (zcl zsw (zfq fun _ _ _ _=>.int _) (zcl zbgy (oI_D fun _ _ _ _=>.int _) sv sv) zd)) (zc (zbx (zdg (zbdn sv (sa2 (zfe sv zd (fun _ _=>rfl)) (zfd zbn))) (sa1 (zfe sv zd (fun _ _=>rfl)))))) zbb)))
 (zc (zh (zdf zbk zge rfl Ac zes (sa1 (scp ["k", "n", "products"] (zbj (zp (zgi rfl) zpt rfl Ae zel (sa1 sv))) (fun _ _ _ _ _=>(zdp (sa2 sv (scl Bg hr (sa2 sv (zbdp (zui (znd hr) sv sv (fun _ _=>rfl)))))))))))))))
theorem zwu (T:TopF Y.K "judged" (top 38))(Ac:Y.mg "tuple"=none)(Bh:Cl Y "one_degree" 4 ["n", "some"] zco)(Ag:Cl Y "products_of_degree" 11 ["n", "d"] (iterF zg 10))(Aw:Cl Y "places_of" 1 ["products"] zcg)(Av:Cl Y "all_leads" 13 ["n", "d", "places"] zci)(Ar:Cl Y "lessened" 1 ["leads", "number"] zdb)(As:Cl Y "as_number" 1 ["places", "some"] zch)(Bi:Cl Y "pairs_of" 4 ["n", "sources", "used"] zfj)(Bj:Cl Y "row_against" 2 ["leads", "length"] zdy):Cl Y "judged" 14 ["n", "some"] zec:=cmk ["n", "some", "d", "products", "places", "found", "left", "row"] T fun nd f cdv A outer s H E hr=>(zb (sst nd (scl Bh hr (sa2 sv sv)))
 (zb (zbw (zu zbmi zbmm sv zbjk (nomark _)) (zc (zh (zdp (ze zuh (ze sv (sa2 sv (zdp zbn))))))) zbb)
 (zb (sst nd (scl Ag hr (sa2 sv sv)))
 (zb (sst nd (scl Aw hr (sa1 sv)))
 (zb (sst nd (scl Av hr (ze sv (sa2 sv sv))))
 (zb (sst nd (scl Ar hr (sa2 (zfe sv zd (fun _ _=>rfl)) (scl As hr (sa2 sv sv)))))
 (zb (zbw (zu (zsv hr.units) zrc (zfe sv zd (fun _ _=>rfl)) zd (nomark _)) (zc (zh (zdp (ze zuh (ze sv (sa2 sv (scl Bi hr (ze sv (sa2 (zfe sv zd (fun _ _=>rfl)) (zfe sv zd (fun _ _=>rfl))))))))))) zbb)
 (zb (sst nd (scl Bj hr (sa2 (zfe sv zd (fun _ _=>rfl)) (zpk (zfe sv zd (fun _ _=>rfl))))))
 (zc (zh (zdp (ze zuh (ze sv (sa2 sv (zdf zbk zge rfl Ac zes (sa1 (zja rfl (zbj sv) (fun _ _ _ _ _=>(zcu (i:=0) (show(["product", "row", "places"]:List Str).Nodup from by decide +kernel) rfl (Or.inl rfl))) (fun _ _ _ _ _=>(zkf (zck (zcl zsw (zfq fun _ _ _ _=>.int _) (zcl zbgy (oI_D fun _ _ _ _=>.int _) sv (zuk (znd hr) sv sv (fun _ _=>rfl))) zd)))) (fun _ _ _ _ _=>sv) (N:=["product", "row", "places"]) (k:=1) (is:=[7, 4]) (zhx (by rfl)))))))))))))))))))
theorem zbml {f:Addr}{fd:FuncData}(F:Fun Y.K "law" "law" (top 51) f fd)(Ad:Y.mg "len"=none)(Ak:Y.mg "min"=none)(Ab:Y.mg "range"=none)(Ap:Y.mg "max"=none)(Am:Y.mg "bool"=none)(Ah:Y.mg "isinstance"=none)(Bk:Cl Y "_law_bag" 1 ["_law_script", "_law_at"] zfm)(Bl:Cl Y "_law_letters" 2 ["_law_bag_here"] zct)(Bm:Cl Y "_law_degree" 2 ["_law_bag_here", "_law_n"] zdh)(Aa:Cl Y "_law_take" 1 ["_law_bag_here", "_law_many"] zi)(Bo:Cl Y "is_sure" 3 ["n", "d"] zfn)(Ay:Cl Y "_law_due" 1 ["_law_n", "_law_d"] zcp)(Az:Cl Y "_law_sum_of" 3 ["_law_bag_here", "_law_n", "_law_d", "_law_many"] zbr)(Ax:Cl Y "standing" 14 ["n", "d"] zcf)(A0:Cl Y "rows_counted" 15 ["n", "d"] zba)(A1:Cl Y "judged" 14 ["n", "some"] zec):FnOk Y.P Y.w Y.K Y.mg Y.base CX0 16 f fd ["_law_script"] (spLaw Y.K) :=
 have sc:FnScope ["_law_script", "_law_k", "_law_bag_here", "_law_n", "_law_d", "_law_few", "_law_number", "_law_found", "_law_less", "_law_some"] ["_law_script"] (defScope (top 51)):=⟨rfl, rfl, rfl, by decide +kernel, rfl, by decide +kernel, by decide +kernel⟩
 have nd:=sc.nd
 zbhw (k:=15) F sc rfl (fun cdv A outer s H E hr=>(zb (sfr (zdw rfl Ab (sa1 (sad (zp (zkk rfl) zbkq rfl Ak zbeb (sa2 zd (zp zbi znv rfl Ad znp (sa1 sv)))) zd))) (sgn nd)
 (zb (sst nd (scl Bk hr (sa2 sv sv)))
 (zb (sst nd (scl Bl hr (sa1 sv)))
 (zb (sst nd (scl Bm hr (sa2 sv sv)))
 (zb (sst nd (sad (sad (zcl zqh (oI_D fun _ _ _ _=>.int _) zd (scl Aa hr (sa2 sv zd))) (zcl zqh (oI_D fun _ _ _ _=>.int _) zd (scl Aa hr (sa2 sv zd)))) (scl Aa hr (sa2 sv zd))))
 (zb (sfr (zbj (znk (ze sv (ze sv (sa2 (scl Aa hr (sa2 sv (zcl zbgz (oI_D fun _ _ _ _=>.int _) zd zd))) (zp (zye rfl) zbkq rfl Ap zbjy (sa2 zd (ssb sv sv)))))))) (sgn nd)
 (zb (sst nd (scl Bo hr (sa2 sv sv)))
 (zc (zbw (JW.pt (zng (ziz (zck (zp zek zgw rfl Ah zcq (sa2 sv (zqz (zoq (v:=.ty "bool") rfl Am zbac rfl) (fun _ _=>.ty _)))))) (zht (zu (zmp hr.units) zrc sv (scl Ay hr (sa2 sv sv)) (nomark _)) (by first | exact Or.inl rfl | exact Or.inr rfl)))) (zc (zh zbdu)) zbb))))
 (zb (sst nd (zp (zkk rfl) zbkq rfl Ak zbeb (sa2 sv zd)))
 (zb (sfr (zlr rfl Ab (sa2 (sad zd (scl Aa hr (sa2 sv zd))) zd)) (sgn nd)
 (zc (zbw (zck (scl Ay hr (sa2 sv sv))) (zb (sst nd (scl Az hr (ze sv (ze sv (sa2 sv zd)))))
 (zb (zbw (JW.pt (zng (zu (zmp hr.units) zrc (zfe (scl A1 hr (sa2 sv sv)) zd (fun _ _=>rfl)) zuh (nomark _)) (zng (zu (zmp hr.units) zrc (scl A0 hr (sa2 sv sv)) zd (nomark _)) (zht (zu (zmp hr.units) zrc (scl Ax hr (sa2 sv sv)) (znk zbn) (nomark _)) (by first | exact Or.inl rfl | exact Or.inr rfl))))) (zc (zh zbdu)) zbb)
 (zc zpf))) zbb)))
 (zc (zbw (zck (scl Ay hr (sa2 sv sv))) (zc (zbw (JW.pt (zng (zu (zmp hr.units) zrc (zfe (scl A1 hr (sa2 sv (scl Az hr (ze sv (ze sv (sa2 sv zd)))))) zd (fun _ _=>rfl)) zuh (nomark _)) (zht (zu (zmp hr.units) zrc (scl A0 hr (sa2 sv sv)) zd (nomark _)) (by first | exact Or.inl rfl | exact Or.inr rfl)))) (zc (zh zbdu)) zbb)) zbb))))))))))
 (zc (zh zbdu)))) K60.holds
end
theorem all_mk {l:W.OpenLaw}{w:World}{K:Fg}{h:Heap}{mg:Str->Option Value}{fa:Addr}{u0:Tok}{u1:Tok}(X:K.In h)(G:h.Ns mainGlobals mg)(hfa:mg "law"=some (.ref fa))
  (t1:TopF K "_law_bag" (top 43))(t2:TopF K "_law_take" (top 44))(t3:TopF K "_law_letters" (top 46))(t4:TopF K "_law_degree" (top 47))(t5:TopF K "_law_due" (top 50))(t6:TopF K "ones_counted" (top 26))(t7:TopF K "is_whole" (top 7))(t8:TopF K "degree_asked" (top 28))(t9:TopF K "is_sure" (top 41))(t10:TopF K "_law_odd" (top 45))(t11:TopF K "_law_of_degree" (top 48))(t12:TopF K "_law_sum_of" (top 49))(t13:TopF K "products_of_degree" (top 23))(t14:TopF K "most_degree" (top 21))(t15:TopF K "number_of_products" (top 22))(t16:TopF K "can_be_judged" (top 24))(t17:TopF K "bounded" (top 27))(t18:TopF K "parts_enough" (top 30))(t19:TopF K "raised_products" (top 31))(t20:TopF K "lessened" (top 34))(t21:TopF K "as_number" (top 33))(t22:TopF K "shares" (top 11))(t23:TopF K "letter_raised" (top 12))(t24:TopF K "product_raised" (top 13))(t25:TopF K "flip" (top 8))(t26:TopF K "raised" (top 14))(t27:TopF K "all_leads" (top 35))(t28:TopF K "places_of" (top 32))(t29:TopF K "standing" (top 39))(t30:TopF K "rows_counted" (top 40))(t31:TopF K "degrees" (top 20))(t32:TopF K "one_degree" (top 29))(t33:TopF K "row_against" (top 37))(t34:TopF K "odd_ones" (top 9))(t35:TopF K "is_product" (top 18))(t36:TopF K "sum_of" (top 19))(t37:TopF K "pairs_of" (top 36))(t38:TopF K "judged" (top 38))(t39:TopF K "law" (top 51))  (z0:W.nsIn K mainGlobals "len"=some none)(z1:W.nsIn K mainGlobals "abs"=some none)(z2:W.nsIn K mainGlobals "min"=some none)(z3:W.nsIn K mainGlobals "range"=some none)(z4:W.nsIn K mainGlobals "int"=some none)(z5:W.nsIn K mainGlobals "bool"=some none)(z6:W.nsIn K mainGlobals "isinstance"=some none)(z7:W.nsIn K mainGlobals "sorted"=some none)(z8:W.nsIn K mainGlobals "tuple"=some none)(z9:W.nsIn K mainGlobals "max"=some none)(z10:W.nsIn K mainGlobals "sum"=some none)(z11:W.nsIn K mainGlobals "enumerate"=some none)(z12:W.nsIn K mainGlobals "set"=some none)(z13:W.nsIn K mainGlobals "all"=some none)(y0:W.nsIn K mainGlobals "FEW_LETTERS"=some (some (.int 3 u0)))(y1:W.nsIn K mainGlobals "MOST_JUDGED"=some (some (.int 200 u1)))  :
  ∃ fd:FuncData,(∀(s:Shared) (v:Value), BindsTo s fd ⟨[v],[]⟩ [("_law_script", v)])/\∀ base:Heap, K.In base->base.Ns mainGlobals mg->FnOk l.prog w K mg base CX0 16 fa fd ["_law_script"] (spLaw K):=by
 have Ad:=xdo X G z0;have z_abs:=xdo X G z1;have Ak:=xdo X G z2;have Ab:=xdo X G z3;have Al:=xdo X G z4;have Am:=xdo X G z5;have Ah:=xdo X G z6;have Ae:=xdo X G z7;have Ac:=xdo X G z8;have Ap:=xdo X G z9;have Aj:=xdo X G z10;have Af:=xdo X G z11;have z_set:=xdo X G z12;have z_all:=xdo X G z13;have m_FEW_LETTERS:=xly X G y0;have m_MOST_JUDGED:=xly X G y1;obtain⟨f,fd,a,F⟩:=t39;have e:=hfa.symm.trans (xly X G a);cases e;obtain⟨oc,od,kV,doc,pm,an,cdv,ct,osl,rfl,lk,hcd⟩:=id F.ex;refine⟨W.fnOf "law" "law" (defArgs (top 51)) (defBody (top 51)) (defScope (top 51)) .none kV doc pm an cdv ct, fun s v=>.of_eq rfl, fun base _ _=>?_⟩
 let Y:En:=⟨l.prog,w,K,mg,base,h,X,G⟩
 have Bk:=zqp (Y:=Y) t1 Ad z_abs Ak Ab;have Aa:=zmt (Y:=Y) t2;have Bl:=zij (Y:=Y) t3 Aa;have Bm:=zjv (Y:=Y) t4 Al Aa;have Ay:=zqo (Y:=Y) t5;have An:=zih (Y:=Y) t6;have Ai:=zqm (Y:=Y) t7 Am Ah Al;have Ao:=zii (Y:=Y) t8 Ai;have Bo:=zta (Y:=Y) t9 An Ao;have A2:=zqn (Y:=Y) t10 Ae Ac;have A3:=zgp (Y:=Y) t11 Ab Ap Ac Aa;have Az:=zju (Y:=Y) t12 Ab A2 Aa A3;have Ag:=zen (Y:=Y) t13 Ab;have A5:=zjt (Y:=Y) t14 m_FEW_LETTERS;have A4:=zeo (Y:=Y) t15 Ab;have A6:=zhj (Y:=Y) t16 m_MOST_JUDGED A4 A5;have Au:=ztc (Y:=Y) t17 A6;have A7:=zig (Y:=Y) t18;have Bb:=zfy (Y:=Y) t19 A7 Ag;have Ar:=zql (Y:=Y) t20;have As:=zmr (Y:=Y) t21;have A8:=zws (Y:=Y) t22;have A9:=zhi (Y:=Y) t23 A8;have Ba:=zgo (Y:=Y) t24 Aj A9;have Aq:=zbhe (Y:=Y) t25;have Bc:=zwt (Y:=Y) t26 Aj Ae Ac Ai Ba Aq;have Av:=zms (Y:=Y) t27 Ad Bb Ar As Bc;have Aw:=zmq (Y:=Y) t28 Af
 have Ax:=zqi (Y:=Y) t29 Af Ag Au Ao Av Aw;have A0:=zif (Y:=Y) t30 Ad Ax;have Bd:=ztb (Y:=Y) t31 Aj Ae z_set;have Bh:=zle (Y:=Y) t32 Ad Bd Au;have Bj:=zjs (Y:=Y) t33 Ae An;have Bf:=zqk (Y:=Y) t34 Ae Ac Aq;have Be:=zlf (Y:=Y) t35 Ad Ac Ah z_all Ai;have Bg:=zwr (Y:=Y) t36 Af Be Bf;have Bi:=zqj (Y:=Y) t37 Af Ae Ac Bg;have A1:=zwu (Y:=Y) t38 Ac Bh Ag Aw Av Ar As Bi Bj;exact zbml (Y:=Y) F Ad Ak Ab Ap Am Ah Bk Bl Bm Aa Bo Ay Az Ax A0 A1
end K60
open PySem PySem.W PyProof.Rows
set_option maxRecDepth 100000 in
set_option maxHeartbeats 0 in
theorem PySem.Challenge.cw_raisedsums_k60_whole_sure_degrees_holds : PySem.Challenge.rw_raisedsums_k60_whole_sure_degrees.Holds := by
  w_on; o_law; k_head; (case hw => w_witness2)
  k_fill
  refine L2.zbfa (l := PySem.Challenge.rw_raisedsums_k60_whole_sure_degrees) (n := 63) (k := 16) (x := "_law_script") (CX := fun _ => L2.CX0) (sp := fun w => Dd.spLaw _) rfl (by decide) rfl ⟨rfl, by decide, by decide⟩ (fun w h Y => PySem.W.kIn_of Y) ?F (fun _ _ a ns hl _ hS => ⟨a, ns, rfl, hS, hl, fun _ => rfl⟩) (fun _ _ _ _ _ z => z)
  case F =>
    intro w mg fa h KX G hmg
    refine' K60.all_mk KX G hmg ?t1 ?t2 ?t3 ?t4 ?t5 ?t6 ?t7 ?t8 ?t9 ?t10 ?t11 ?t12 ?t13 ?t14 ?t15 ?t16 ?t17 ?t18 ?t19 ?t20 ?t21 ?t22 ?t23 ?t24 ?t25 ?t26 ?t27 ?t28 ?t29 ?t30 ?t31 ?t32 ?t33 ?t34 ?t35 ?t36 ?t37 ?t38 ?t39  ?z0 ?z1 ?z2 ?z3 ?z4 ?z5 ?z6 ?z7 ?z8 ?z9 ?z10 ?z11 ?z12 ?z13 ?y0 ?y1 
    all_goals first|k_is|kernel_rfl|(refine' L2.zw ?a ?l ?c ?k;(case a=>k_is);(case l=>k_is);(case c=>k_is);(case k=>k_is))|skip
#print axioms PySem.Challenge.cw_raisedsums_k60_whole_sure_degrees_holds
