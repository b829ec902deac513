import PyProof.Rows.All
import Wide.All
import OpenK.AllK
import Wide.FinOn
import PyProof.EqAt
import PyProof.EqKinds
import PyProof.TupleCall
import PySem.Challenge.RW_raisedsums_k53_no_parts_and_no_degrees
set_option Elab.async false
set_option linter.all false
set_option maxRecDepth 100000
namespace PySem.W.Fast
theorem tw5440918407951047647:True:=⟨⟩
theorem tw2672500419791290064:True:=⟨⟩
theorem tw641566476530083339:True:=⟨⟩
theorem tw13718691609983591534:True:=⟨⟩
theorem tw3550336846272532899:True:=⟨⟩
theorem tw7129705628899417911:True:=⟨⟩
theorem tw2634760886878846274:True:=⟨⟩
theorem tw13800248003535442437:True:=⟨⟩
theorem tw390479638883920365:True:=⟨⟩
theorem tw17728347784176972439:True:=⟨⟩
theorem tw2100459147042267927:True:=⟨⟩
theorem tw8691018071104662274:True:=⟨⟩
theorem tw15907938072715831870:True:=⟨⟩
theorem tw5955628615084937046:True:=⟨⟩
theorem tw6093723268352434297:True:=⟨⟩
theorem tw6121653849893974121:True:=⟨⟩
theorem tw8787946220650232407:True:=⟨⟩
theorem tw15873018014609251492:True:=⟨⟩
theorem tw6731889541280115553:True:=⟨⟩
theorem tw9759385841749068318:True:=⟨⟩
theorem tw5581473808110931455:True:=⟨⟩
theorem tw6174235729697582165:True:=⟨⟩
theorem tw3177003123955069227:True:=⟨⟩
theorem tw14391888161201766183:True:=⟨⟩
theorem tw13664048298618374522:True:=⟨⟩
theorem tw12316865378203002930:True:=⟨⟩
theorem tw2693389883550156744:True:=⟨⟩
theorem tw7342482617943151222:True:=⟨⟩
theorem tw17550313583142345504:True:=⟨⟩
theorem tw17481748105429591381:True:=⟨⟩
theorem tw14651941351319623954:True:=⟨⟩
theorem tw13418243208288088080:True:=⟨⟩
theorem tw628522311534979599:True:=⟨⟩
theorem tw2037506913408090780:True:=⟨⟩
theorem tw17792816021434575659:True:=⟨⟩
theorem tw540346462190987017:True:=⟨⟩
theorem tw1716384108285703214:True:=⟨⟩
theorem tw17597193104773254498:True:=⟨⟩
theorem tw6745757928317321849:True:=⟨⟩
theorem tw15802834549060795266:True:=⟨⟩
theorem tw5830469929829408334:True:=⟨⟩
theorem tw3065772022658625223:True:=⟨⟩
theorem tw4464467999562396989:True:=⟨⟩
theorem tw11893027859343864018:True:=⟨⟩
theorem tw15646985909416639537:True:=⟨⟩
theorem tw14850887168109127197:True:=⟨⟩
theorem tw17205834774802019193:True:=⟨⟩
theorem tw16635610518025704347:True:=⟨⟩
theorem tw12393023645777508839:True:=⟨⟩
theorem tw12480189389516468982:True:=⟨⟩
theorem tw8592529219720874667:True:=⟨⟩
theorem tw2352178842122573508:True:=⟨⟩
theorem tw3537489259185459602:True:=⟨⟩
theorem tw13487193959078179759:True:=⟨⟩
theorem tw8499589098399945492:True:=⟨⟩
theorem tw6272424680354462630:True:=⟨⟩
theorem tw8746306063074802749:True:=⟨⟩
theorem tw12543917811279690188:True:=⟨⟩
theorem tw4406548634342881163:True:=⟨⟩
theorem tw14543487915264642087:True:=⟨⟩
theorem tw12208467266321654072:True:=⟨⟩
theorem tw558669476559168329:True:=⟨⟩
theorem tw17226517842067329871:True:=⟨⟩
theorem tw15054173401621741758:True:=⟨⟩
theorem tw12938938787970799638:True:=⟨⟩
theorem tw7730146106127899919:True:=⟨⟩
theorem tw16929137411342672098:True:=⟨⟩
theorem tw3126961009754725753:True:=⟨⟩
theorem tw10622087152773757194:True:=⟨⟩
theorem tw9445762812306888531:True:=⟨⟩
theorem tw1639686127403262370:True:=⟨⟩
theorem tw12096879286664453185:True:=⟨⟩
theorem tw1940401849290297715:True:=⟨⟩
theorem tw6844480250933527873:True:=⟨⟩
theorem tw9617636719463160447:True:=⟨⟩
theorem tw4599894631208391935:True:=⟨⟩
theorem tw17297786653292634861:True:=⟨⟩
theorem tw13739828444402301700:True:=⟨⟩
theorem tw18374835084458561935:True:=⟨⟩
theorem tw1437850922276846770:True:=⟨⟩
theorem tw841387465134991825:True:=⟨⟩
theorem tw7523454520200353593:True:=⟨⟩
theorem tw14827742638853263209:True:=⟨⟩
theorem tw16656514868239195200:True:=⟨⟩
theorem tw2754972762503918231:True:=⟨⟩
theorem tw18007585526517739445:True:=⟨⟩
theorem tw15579705756601417087:True:=⟨⟩
theorem tw2542879878999909099:True:=⟨⟩
theorem tw13389814766882714777:True:=⟨⟩
theorem tw8348498254081734406:True:=⟨⟩
theorem tw16827326494843727697:True:=⟨⟩
theorem tw1623686992253616240:True:=⟨⟩
theorem tw5392574974674420083:True:=⟨⟩
theorem tw13814873475686024512:True:=⟨⟩
end PySem.W.Fast
set_option genSizeOfSpec false
set_option genInjectivity false
abbrev Fg:=PySem.W.Frag
abbrev xba:=@PySem.wpAny_bind
abbrev xbb:=@Nat.le_trans
abbrev xbc:=@List.length_map
abbrev xbd:=@Nat.lt_of_lt_of_le
abbrev xbe:=@Nat.le_refl
abbrev xbf:=@PyProof.Rows.wpS_bind
abbrev xbg:=@PySem.Heap.get?_push_of_some
abbrev xbh:=@PySem.wpAny_pure
abbrev xbi:=@PyProof.Rows.wpS_pure
abbrev xbj:=@List.getElem?_eq_getElem
abbrev xbk:=@PySem.Heap.lt_size
abbrev xbl:=@List.getElem?_eq_some_iff
abbrev xbm:=@List.length_append
abbrev xbn:=@Nat.le_of_lt
abbrev xbo:=@List.mem_singleton
abbrev xbp:=@List.size_toArray
abbrev xbq:=@List.map_cons
abbrev xbr:=@Nat.le_add_right
abbrev xbs:=@Nat.le_of_not_lt
abbrev xbt:=@List.mem_cons
abbrev xbu:=@List.mem_cons_self
abbrev xbv:=@List.getElem?_append_left
abbrev xbw:=@Option.some.inj
abbrev xbx:=@Array.length_toList
abbrev xby:=@Nat.add_le_add_left
abbrev xbz:=@List.mem_append
abbrev xca:=@List.mem_cons_of_mem
abbrev xcb:=@PySem.Heap.get?_push_size
abbrev xcc:=@Nat.add_sub_cancel'
abbrev xcd:=@List.length_cons
abbrev xce:=@Nat.ne_of_lt
abbrev xcf:=@Array.getElem?_toList
abbrev xcg:=@List.mem_of_getElem?
abbrev xch:=@List.getElem?_append_right
abbrev xci:=@decide_eq_false
abbrev xcj:=@List.append_assoc
abbrev xck:=@Nat.le_of_lt_succ
abbrev xcl:=@List.getElem?_set_ne
abbrev xcm:=@Nat.add_sub_cancel_left
abbrev xcn:=@Nat.lt_of_le_of_lt
abbrev xco:=@Nat.lt_of_le_of_ne
abbrev xcp:=@Array.toList_append
abbrev xcq:=@PySem.W.mg_of
abbrev xcr:=@Nat.le_sub_one_of_lt
abbrev xcs:=@List.getElem?_map
abbrev xct:=@Nat.le_of_succ_le
abbrev xcu:=@List.mem_append_right
abbrev xcv:=@Bool.false_eq_true
abbrev xcw:=@Nat.le_of_eq
abbrev xcx:=@Nat.le_of_add_left_le
abbrev xcy:=@Option.map_eq_some_iff
abbrev xcz:=@PyProof.Rows.wpS_forRange
abbrev xda:=@Nat.sub_lt_left_of_lt_add
abbrev xdb:=@List.length_take
abbrev xdc:=@decide_eq_true
abbrev xdd:=@PySem.Heap.get?_update_other
abbrev xde:=@PySem.wpAny_mono
abbrev xdf:=@PySem.W.mg_none_of
abbrev xdg:=@Nat.le_antisymm
abbrev xdh:=@Nat.add_lt_of_lt_sub'
abbrev xdi:=@Nat.zero_add
abbrev xdj:=@List.take_length
abbrev xdk:=@PySem.mem_of_lookup
abbrev xdl:=@Nat.add_lt_add_left
abbrev xdm:=@List.take_append_drop
abbrev xdn:=@PySem.W.kia_one
abbrev xdo:=@List.mem_map
abbrev xdp:=@Nat.sub_lt_sub_right
abbrev xdq:=@Nat.min_eq_left
abbrev xdr:=@List.getElem?_set_self
abbrev xds:=@Nat.not_lt_of_le
abbrev xdt:=@PySem.wpAny_holding
abbrev xdu:=@List.map_map
abbrev xdv:=@Nat.le_sub_of_add_le'
abbrev xdw:=@List.append_nil
abbrev xdx:=@List.filter_cons_of_neg
abbrev xdy:=@List.filter_cons_of_pos
abbrev xdz:=@List.getD_eq_getElem?_getD
abbrev xea:=@Nat.lt_of_succ_lt
abbrev xeb:=@PySem.wpAny_newObj_type
abbrev xec:=@List.find?_cons
abbrev xed:=@List.lookup_cons
abbrev xee:=@Nat.succ_le_succ
abbrev xef:=@PySem.wpAny_Call_Name_kw
abbrev xeg:=@PyProof.Rows.wpS_mono
abbrev xeh:=@Nat.zero_le
abbrev xei:=@List.mem_range
abbrev xej:=@Ne.symm
abbrev xek:=@PySem.F.slot_dict_keyiterator_next
abbrev xel:=@Nat.sub_le_sub_right
abbrev xem:=@Option.bind_eq_some_iff
abbrev xen:=@Nat.sub_pos_of_lt
abbrev xeo:=@Array.toList_push
abbrev xep:=@if_false
abbrev xeq:=@List.length_set
abbrev xer:=@List.getElem_of_mem
abbrev xes:=@List.replicate_succ
abbrev xet:=@List.take_of_length_le
abbrev xeu:=@Array.getElem?_eq_some_iff
abbrev xev:=@Array.perm_iff_toList_perm
abbrev xew:=@beq_iff_eq
abbrev xex:=@List.getElem_mem
abbrev xey:=@Nat.lt_of_not_le
abbrev xez:=@Bool.false_ne_true
abbrev xfa:=@List.getElem?_drop
abbrev xfb:=@Nat.lt_of_lt_of_eq
abbrev xfc:=@List.pairwise_append
abbrev xfd:=@List.map_append
abbrev xfe:=@PySem.PassesOwn.never
abbrev xff:=@Nat.le_succ_of_le
abbrev xfg:=@PySem.wpAny_typeNameOfWhole_keyiter
abbrev xfh:=@Nat.min_le_right
abbrev xfi:=@Bool.and_eq_true
abbrev xfj:=@if_true
abbrev xfk:=@PySem.wpAny_call_entry
abbrev xfl:=@Nat.sub_le
abbrev xfm:=@PyProof.Rows.wpS_modify
abbrev xfn:=@decide_true
abbrev xfo:=@Nat.sub_add_cancel
abbrev xfp:=@List.filter_append
abbrev xfq:=@List.mem_filter
abbrev xfr:=@List.length_replicate
abbrev xfs:=@List.Perm.append_left
abbrev xft:=@List.perm_append_comm
abbrev xfu:=@List.length_filter_le
abbrev xfv:=@PySem.wpAny_passesOwn
abbrev xfw:=@Nat.lt_irrefl
abbrev xfx:=@List.flatten_cons
abbrev xfy:=@PySem.wpAny_truthy_bool
abbrev xfz:=@of_decide_eq_true
abbrev xga:=@List.mem_append_left
abbrev xgb:=@List.drop_eq_getElem_cons
abbrev xgc:=@List.mem_of_mem_take
abbrev xgd:=@List.length_drop
abbrev xge:=@Nat.lt_or_ge
abbrev xgf:=@List.take_succ_eq_append_getElem
abbrev xgg:=@beq_self_eq_true
abbrev xgh:=@decide_false
abbrev xgi:=@Nat.sub_le_sub_left
abbrev xgj:=@beq_eq_false_iff_ne
abbrev xgk:=@PyProof.Rows.slot_tuple_getitem
abbrev xgl:=@List.countP_cons_of_pos
abbrev xgm:=@Nat.lt_add_of_pos_right
abbrev xgn:=@List.sum_cons
abbrev xgo:=@PyProof.Rows.wpS_get
abbrev xgp:=@List.nodup_cons
abbrev xgq:=@PySem.Obj.data_mapFields
abbrev xgr:=@Nat.sub_lt
abbrev xgs:=@Nat.min_le_left
abbrev xgt:=@Array.append_empty
abbrev xgu:=@List.pairwise_cons
abbrev xgv:=@PySem.tupleKind_room_in1
abbrev xgw:=@List.Perm.append_right
abbrev xgx:=@List.drop_eq_nil_of_le
abbrev xgy:=@PySem.wpAny_dictEntries
abbrev xgz:=@decide_eq_true_eq
abbrev xha:=@PySem.Heap.get?_update_self
abbrev xhb:=@Nat.lt_trans
abbrev xhc:=@Nat.sub_self
abbrev xhd:=@Array.extract_eq_empty_of_le
abbrev xhe:=@PyProof.Rows.callWith_type1
abbrev xhf:=@PySem.Calls.evalArgs_plain
abbrev xhg:=@Nat.min_eq_right
abbrev xhh:=@List.mem_of_mem_drop
abbrev xhi:=@Array.toList_reverse
abbrev xhj:=@List.reverse_reverse
abbrev xhk:=@PySem.wpAny_rule
abbrev xhl:=@PySem.Paired.length
abbrev xhm:=@PySem.Calls.Name_function_global
abbrev xhn:=@PySem.sizeLine_eq
abbrev xho:=@PySem.wpAny_field
abbrev xhp:=@PySem.Heap.SameBut.update
abbrev xhq:=@Bool.eq_iff_iff
abbrev xhr:=@Array.getElem?_eq_getElem
abbrev xhs:=@List.pairwise_iff_getElem
abbrev xht:=@List.sum_append
abbrev xhu:=@Int.emod_nonneg
abbrev xhv:=@PySem.wpAny_execs_nil
abbrev xhw:=@PySem.Calls.spliced_cons
abbrev xhx:=@PySem.W.callWith_K
abbrev xhy:=@Option.isSome_iff_exists
abbrev xhz:=@PySem.F.args_tuple_add_2
abbrev xia:=@List.count_eq_zero
abbrev xib:=@PySem.codeAny_mono
abbrev xic:=@PyProof.Rows.slot_tuple_getitem
abbrev xid:=@List.nodup_nil
abbrev xie:=@PySem.wpAny_setField
abbrev xif:=@PySem.F.entry_tuple_add
abbrev xig:=@List.countP_cons_of_neg
abbrev xih:=@List.pairwise_singleton
abbrev xii:=@List.eraseIdx_cons_succ
abbrev xij:=@PySem.F.plainAttrs_list
abbrev xik:=@Int.eq_ofNat_of_zero_le
abbrev xil:=@Nat.zero_lt_of_lt
abbrev xim:=@List.length_range
abbrev xin:=@List.count_append
abbrev xio:=@List.foldl_append
abbrev xip:=@PySem.W.cellsFrom_some
abbrev xiq:=@PySem.F.slot_tuple_add
abbrev xir:=@PySem.Calls.callWith_builtin
abbrev xis:=@Nat.le_mul_of_pos_left
abbrev xit:=@List.filter_eq_nil_iff
abbrev xiu:=@List.any_cons
abbrev xiv:=@PySem.wpAny_attempt
abbrev xiw:=@List.mem_reverse
abbrev xix:=@PyProof.Rows.wpS_lift
abbrev xiy:=@PySem.F.slot_tuple_lt
abbrev xiz:=@List.length_singleton
abbrev xja:=@PySem.F.slot_dict_get
abbrev xjb:=@List.getElem?_eq_none
abbrev xjc:=@Array.getElem?_setIfInBounds_ne
abbrev xjd:=@Nat.ne_of_gt
abbrev xje:=@List.of_mem_zip
abbrev xjf:=@PyProof.Rows.callWith_builtin1
abbrev xjg:=@List.length_nil
abbrev xjh:=@List.range_succ
abbrev xji:=@Nat.add_zero
abbrev xjj:=@List.foldl_cons
abbrev xjk:=@Nat.mul_le_mul_right
abbrev xjl:=@PySem.wpAny_call
abbrev xjm:=@PySem.call_meets
abbrev xjn:=@List.filterMap_cons
abbrev xjo:=@Nat.pos_of_ne_zero
abbrev xjp:=@Nat.eq_zero_or_pos
abbrev xjq:=@Int.lt_of_le_of_lt
abbrev xjr:=@PySem.F.excAttr_ValueError
abbrev xjs:=@PySem.Calls.spliced_nil
abbrev xjt:=@Int.toNat_natCast
abbrev xju:=@List.mapM_toArray
abbrev xjv:=@List.ext_getElem?
abbrev xjw:=@Nat.lt_succ_of_lt
abbrev xjx:=@List.filter_congr
abbrev xjy:=@List.map_nil
abbrev xjz:=@List.all_eq_true
abbrev xka:=@Nat.max_eq_right
abbrev xkb:=@Nat.lt_succ_self
abbrev xkc:=@List.not_mem_nil
abbrev xkd:=@Nat.succ_mul
abbrev xke:=@List.cons_append
abbrev xkf:=@Int.zero_add
abbrev xkg:=@Int.ofNat_le
abbrev xkh:=@map_eq_pure_bind
abbrev xki:=@Nat.le_add_left
abbrev xkj:=@List.nil_append
abbrev xkk:=@List.filter_map
abbrev xkl:=@Nat.two_pos
abbrev xkm:=@List.drop_drop
set_option maxHeartbeats 0
namespace L2
open PySem PySem.Spec PyProof.Rows
noncomputable abbrev Key:=Sum Int Str
noncomputable def keyIs:Key->Value->Bool
 | .inl k,v=>Value.isInt k v
 | .inr x,v=>Value.isStrOf x v
noncomputable def keyH (w:World):Key->Int
 | .inl k=>hashInt k
 | .inr x=>hashStr w x
theorem zba:∀{k:Key} {v:Value},keyIs k v=true->(∃i t,k=Sum.inl i/\v=Value.int i t)\/(∃x t,k=Sum.inr x/\v=Value.str x t)
 | .inl i,v,h=>by
  obtain ⟨t,e⟩:=Value.isInt_shape (k:=i) (v:=v) h;exact .inl ⟨i,t,rfl,e⟩
 | .inr x,v,h=>by
  obtain ⟨t,e⟩:=Value.isStrOf_shape (x:=x) (v:=v) h;exact .inr ⟨x,t,rfl,e⟩
theorem zrl (i:Int) (t:Tok):keyIs (.inl i) (.int i t)=true:=by simp[keyIs,Value.isInt]
theorem zrk (x:Str) (t:Tok):keyIs (.inr x) (.str x t)=true:=by simp[keyIs,Value.isStrOf]
theorem zbdr (a b:Int):decide ((Sum.inl a:Key)=Sum.inl b)=(a == b):=by
 by_cases e:a=b
 ·subst e;simp
 ·have h:¬ (Sum.inl a:Key)=Sum.inl b:=fun q=>e (Sum.inl.inj q)
  rw[xci h];exact (xgj.mpr e).symm
theorem zbdo (a b:Str):decide ((Sum.inr a:Key)=Sum.inr b)=decide (a=b):=by
 by_cases e:a=b
 ·subst e;simp
 ·have h:¬ (Sum.inr a:Key)=Sum.inr b:=fun q=>e (Sum.inr.inj q)
  rw[xci h,xci e]
theorem zbdq (a:Int) (b:Str):decide ((Sum.inl a:Key)=Sum.inr b)=false:=xci (fun q=>nomatch q)
theorem zbdp (a:Str) (b:Int):decide ((Sum.inr a:Key)=Sum.inl b)=false:=xci (fun q=>nomatch q)
noncomputable def mixKind (prog:Program) (w:World):PySem.KeyKind prog w Key where
 is:=keyIs
 hash:=keyH w
 inj:=fun v a b ha hb=>by
  rcases zba ha with ⟨i,t,rfl,rfl⟩ | ⟨x,t,rfl,rfl⟩
  ·rcases zba hb with ⟨j,u,rfl,e⟩ | ⟨y,u,rfl,e⟩
   ·injection e with e1 _;rw[e1]
   ·exact nomatch e
  ·rcases zba hb with ⟨j,u,rfl,e⟩ | ⟨y,u,rfl,e⟩
   ·exact nomatch e
   ·injection e with e1 _;rw[e1]
 byValue:=fun k v h=>by
  rcases zba h with ⟨i,t,rfl,rfl⟩ | ⟨x,t,rfl,rfl⟩<;>rfl
 pyHash:=fun hv h=>by
  rcases zba hv with ⟨i,t,rfl,rfl⟩ | ⟨x,t,rfl,rfl⟩
  ·exact wpAny_pyHash_int h
  ·exact wpAny_pyHash_str h
 eqBool:=fun hu hv h=>by
  rcases zba hu with ⟨i,t,rfl,rfl⟩ | ⟨x,t,rfl,rfl⟩
  ·rcases zba hv with ⟨j,u,rfl,rfl⟩ | ⟨y,u,rfl,rfl⟩
   ·rw[zbdr] at h;exact wpAny_eqBool_int h
   ·rw[zbdq] at h;exact SeqAt.EqAt.int_str i t y u _ _ _ _ h
  ·rcases zba hv with ⟨j,u,rfl,rfl⟩ | ⟨y,u,rfl,rfl⟩
   ·rw[zbdp] at h;exact SeqAt.EqAt.str_int x t j u _ _ _ _ h
   ·rw[zbdo] at h;exact wpAny_eqBool_str h
 «strs»:=fun k x t v h=>by
  rcases zba h with ⟨i,u,rfl,e⟩ | ⟨y,u,rfl,e⟩
  ·exact nomatch e
  ·injection e with e1 _
   subst e1;cases v<;>rfl
theorem zmi (prog:Program) (w:World) (i:Int) (t:Tok):(mixKind prog w).is (.inl i) (.int i t)=true:=zrl i t
theorem zmh (prog:Program) (w:World) (x:Str) (t:Tok):(mixKind prog w).is (.inr x) (.str x t)=true:=zrk x t
set_option genInjectivity true in
inductive V where
 | non | bl (b:Bool) | int (i:Int) | str (x:Str) | byt (b:Array UInt8) | flt (b:UInt64) | ref (a:Addr) | ty (n:String)
 deriving DecidableEq
noncomputable def RelV:V->Value->Prop
 | .non,u=>u=Value.none
 | .bl b,u=>u=Value.bool b
 | .int i,u=>∃t,u=Value.int i t
 | .str x,u=>∃t,u=Value.str x t
 | .byt b,u=>∃t,u=Value.bytes b t
 | .flt b,u=>∃t,u=Value.float b t
 | .ref a,u=>u=Value.ref a
 | .ty n,u=>u=Value.type n
noncomputable abbrev Vals:List V->List Value->Prop:=Paired RelV
theorem Vals.length {xs:List V} {us:List Value} (r:Vals xs us):xs.length=us.length:=xhl r
theorem Vals.get:∀{xs:List V} {us:List Value} {i:Nat} {x:V},Vals xs us->xs[i]?=some x->∃u,us[i]?=some u/\RelV x u
 | _,_,_,_,.nil,e=>by simp at e
 | _,_,0,_,.cons r _,e=>by simp at e;subst e;exact ⟨_,rfl,r⟩
 | _,_,i+1,x,.cons _ t,e=>by
  obtain ⟨u,h1,h2⟩:=Vals.get (i:=i) (x:=x) t (by simpa using e);exact ⟨u,by simpa using h1,h2⟩
theorem Vals.set {x:V} {u:Value} (r:RelV x u):∀{xs:List V} {us:List Value} (i:Nat),Vals xs us->Vals (xs.set i x) (us.set i u)
 | _,_,_,.nil=>.nil
 | _,_,0,.cons _ t=>.cons r t
 | _,_,i+1,.cons q t=>.cons q (Vals.set r i t)
theorem Vals.append:∀{xs ys:List V} {us ws:List Value},Vals xs us->Vals ys ws->Vals (xs++ys) (us++ws)
 | _,_,_,_,.nil,s=>s
 | _,_,_,_,.cons r t,s=>.cons r (Vals.append t s)
theorem Vals.take:∀{xs:List V} {us:List Value} (n:Nat),Vals xs us->Vals (xs.take n) (us.take n)
 | _,_,0,_=>.nil
 | _,_,_+1,.nil=>.nil
 | _,_,n+1,.cons r t=>.cons r (Vals.take n t)
theorem Vals.drop:∀{xs:List V} {us:List Value} (n:Nat),Vals xs us->Vals (xs.drop n) (us.drop n)
 | _,_,0,r=>r
 | _,_,_+1,.nil=>.nil
 | _,_,n+1,.cons _ t=>Vals.drop n t
noncomputable def RelO:Option V->Option Value->Prop
 | some v,some u=>RelV v u
 | none,none=>True
 | _,_=>False
noncomputable def KV {κ:Type}:List (κ × V)->List (κ × Value)->Prop:=Paired fun (p:κ × V) (q:κ × Value)=>p.1=q.1/\RelV p.2 q.2
noncomputable def kV:Key->V
 | .inl i=>.int i
 | .inr x=>.str x
set_option genInjectivity true in
inductive HO where
 /-- a list -/
 | lst (xs:List V)
 /-- a tuple (never changes) -/
 | tup (xs:List V)
 /-- a dict whose keys are ints and texts;one whose keys are tuples of ints and texts (the empty one is both) -/
 | dK (kvs:List (Key × V)) | dT (kvs:List (List Key × V))
 /-- a set of ints: its members,its size -/
 | set (S:Int->Bool) (n:Nat)
 /-- an instance of the class at C,its dict at dx,its attributes -/
 | ins (C dx:Addr) (fs:List (Str × V))
 /-- the dict of the instance at x -/
 | own (x:Addr)
 /-- the dict of an exception -/
 | xd (fs:List (Str × V))
 /-- a bound method,f of x -/
 | met (f x:Addr)
 /-- a range object lo,lo+1,.. below hi -/
 | rng (lo hi:Int)
 /-- a thing that is known to the object (the script;a dict while a loop walks it): read,never written while it is so -/
 | frz (o:Obj) (u:HO)
 /-- a code object's table -/
 | tbl (ps:Array Value)
 /-- any other thing,by what is true of its one object (a def of one's own: SetO a S n:=HO.ext fun h=>..) -/
 | ext (φ:Heap->Prop)
noncomputable abbrev Hp:=Addr->Option HO
noncomputable def upd (H:Hp) (a:Addr) (o:HO):Hp:=fun b=>if b=a then some o else H b
theorem zi {H:Hp} {a:Addr} {o:HO}:upd H a o a=some o:=by unfold upd;rw[if_pos rfl]
theorem zh {H:Hp} {a b:Addr} {o:HO} (h:b≠a):upd H a o b=H b:=by unfold upd;rw[if_neg h]
theorem zwv {H:Hp} {a:Addr} {o u:HO}:upd (upd H a o) a u=upd H a u:=by
 funext b;unfold upd;split<;>rfl
theorem zbgv {H:Hp} {a b:Addr} {o u:HO} (h:H a=some o) (h':H b=some u) (d:o≠u):a≠b:=by
 intro e;subst e;rw[h] at h';exact d (xbw h')
theorem ze {H:Hp} {a b:Addr} {o:HO} (h:H a=some o) (h':H b=none):a≠b:=by
 intro e;subst e;rw[h] at h';cases h'
section
variable (P:Program) (w:World)
noncomputable def ObjOk (H:Hp) (h:Heap) (a:Addr):HO->Prop
 | .lst xs => xs.length <= sizeLine /\ ∃ (its : List Value) (n : Nat), Vals xs its /\ h.get? a = some { cls := .type "list", data := .seq its.toArray n }
 | .tup xs=>xs.length<=sizeLine/\∃its:List Value,Vals xs its/\IsTup h a its.toArray
 | .dK kvs=>kvs.length<=sizeLine/\(a == sysModules)=false/\∃vs,KV kvs vs/\h.DictOf (mixKind P w) a vs
 | .dT kvs=>kvs.length<=sizeLine/\(a == sysModules)=false/\∃xs:List (List Key × Addr × Value),
  Paired (fun (p:List Key × V) (q:List Key × Addr × Value)=>p.1=q.1/\H q.2.1=some (.tup (p.1.map kV))/\RelV p.2 q.2.2) kvs xs /\
  ∃o es ep,h.get? a=some o/\o.ExactDict/\o.data=.dict es ep/\es.toList=xs.map (entryOfKey (tupleKind (mixKind P w)))/\(xs.map (·.1)).Nodup
 | .set S n=>h.SetOf (intKind P w) a S n
 | .ins C dx fs=>H dx=some (.own a)/\fs.length<=1000/\dx≠a/\h.get? a=some (PySem.W.instObj C dx) /\
  ∃mA,h.Ns1 dx mA/\(∀f,RelO (fs.lookup f) (mA f))/\PySem.Within mA (fs.map (·.1))
 | .own _=>∃o,h.get? a=some o
 | .xd fs=>∃mA,h.Ns1 a mA/\∀f,RelO (fs.lookup f) (mA f)
 | .rng lo hi => ∃ t u v, h.get? a = some { cls := .type "range", data := .fields #[.int lo t, .int hi u, .int 1 v] }
 | .frz o u=>h.get? a=some o/\ObjOk H h a u
 | .tbl ps=>h.get? a=some {cls:=.none,data:=.fields ps}
 | .met f x=>h.get? a=some (PySem.W.methodObj (.ref f) (.ref x))
 | .ext φ=>φ h/\(∃o,h.get? a=some o)/\∀h1 h2:Heap,φ h1->(∀o,h1.get? a=some o->h2.get? a=some o)->φ h2
noncomputable def HOk (H:Hp) (h:Heap):Prop:=∀a o,H a=some o->ObjOk P w H h a o
end
section
variable {P:Program} {w:World} {H H':Hp} {h h':Heap} {a:Addr} {o:HO}
theorem ObjOk.lt (x:ObjOk P w H h a o):a < h.objs.size:=by
 cases o with
 | lst xs=>obtain ⟨_,_,_,_,e⟩:=x;exact xbk e
 | tup xs=>obtain ⟨_,_,_,p⟩:=x;exact p.lt
 | dK kvs=>obtain ⟨_,_,_,_,o,_,_,e,_⟩:=x;exact xbk e
 | dT kvs=>obtain ⟨_,_,_,_,o,_,_,e,_⟩:=x;exact xbk e
 | set S n=>obtain ⟨o,_,_,_,e,_⟩:=x;exact xbk e
 | ins C dx fs=>obtain ⟨_,_,_,e,_⟩:=x;exact xbk e
 | own y=>obtain ⟨_,e⟩:=x;exact xbk e
 | xd fs=>obtain ⟨_,⟨_,_,_,e,_⟩,_⟩:=x;exact xbk e
 | rng lo hi=>obtain ⟨_,_,_,e⟩:=x;exact xbk e
 | frz ob u=>obtain ⟨e,_⟩:=x;exact xbk e
 | tbl ps=>exact xbk (show h.get? a=some _ from x)
 | met f y=>exact xbk (show h.get? a=some _ from x)
 | ext φ=>obtain ⟨_,⟨_,e⟩,_⟩:=x;exact xbk e
theorem Paired.mapP {α β:Type} {F G:α->β->Prop}:∀{l₁:List α} {l₂:List β},Paired F l₁ l₂->(∀a b,F a b->G a b)->Paired G l₁ l₂
 | _,_,.nil,_=>.nil
 | _,_,.cons r t,f=>.cons (f _ _ r) (Paired.mapP t f)
theorem ObjOk.stay (x:ObjOk P w H h a o) (k:∀b u,(b=a\/H b=some (.own a))->h.get? b=some u->h'.get? b=some u)
  (ho:∀b,H b=some (.own a)->H' b=some (.own a)) (ht:∀b xs,H b=some (.tup xs)->H' b=some (.tup xs)):ObjOk P w H' h' a o:=by
 induction o with
 | lst xs=>obtain ⟨z,its,n,r,e⟩:=x;exact ⟨z,its,n,r,k _ _ (.inl rfl) e⟩
 | tup xs=>obtain ⟨z,its,r,ob,e,c⟩:=x;exact ⟨z,its,r,ob,k _ _ (.inl rfl) e,c⟩
 | dK kvs=>obtain ⟨z,y,vs,r,ob,es,ep,e,c⟩:=x;exact ⟨z,y,vs,r,ob,es,ep,k _ _ (.inl rfl) e,c⟩
 | dT kvs =>
  obtain ⟨z,y,xs,r,ob,es,ep,e,c⟩:=x;exact ⟨z,y,xs,Paired.mapP r fun p q z=>⟨z.1,ht _ _ z.2.1,z.2.2⟩,ob,es,ep,k _ _ (.inl rfl) e,c⟩
 | set S n=>obtain ⟨ob,es,ep,t,e,c⟩:=x;exact ⟨ob,es,ep,t,k _ _ (.inl rfl) e,c⟩
 | ins C dx fs =>
  obtain ⟨d,z,ne,e,mA,⟨od,es,ep,e2,c⟩,r⟩:=x;exact ⟨ho _ d,z,ne,k _ _ (.inl rfl) e,mA,⟨od,es,ep,k _ _ (.inr d) e2,c⟩,r⟩
 | own y=>obtain ⟨ob,e⟩:=x;exact ⟨ob,k _ _ (.inl rfl) e⟩
 | xd fs=>obtain ⟨mA,⟨od,es,ep,e,c⟩,r⟩:=x;exact ⟨mA,⟨od,es,ep,k _ _ (.inl rfl) e,c⟩,r⟩
 | rng lo hi=>obtain ⟨t,u,v,e⟩:=x;exact ⟨t,u,v,k _ _ (.inl rfl) e⟩
 | frz ob u ih=>obtain ⟨e,q⟩:=x;exact ⟨k _ _ (.inl rfl) e,ih q⟩
 | tbl ps =>
  have e:h.get? a=some {cls:=.none,data:=.fields ps}:=x;show h'.get? a=some {cls:=.none,data:=.fields ps};exact k a _ (.inl rfl) e
 | met f y =>
  have e:h.get? a=some (PySem.W.methodObj (.ref f) (.ref y)):=x;show h'.get? a=some (PySem.W.methodObj (.ref f) (.ref y));exact k a _ (.inl rfl) e
 | ext φ=>obtain ⟨p,⟨o,e⟩,st⟩:=x;exact ⟨st _ _ p fun o q=>k _ _ (.inl rfl) q,⟨o,k _ _ (.inl rfl) e⟩,st⟩
theorem HOk.lt (x:HOk P w H h) (e:H a=some o):a < h.objs.size:=(x a o e).lt
theorem HOk.fresh (x:HOk P w H h) (e:h.objs.size<=a):H a=none:=by
 cases q:H a with
 | none=>rfl
 | some u=>exact absurd (xbd (x.lt q) e) (xfw _)
theorem HOk.kept (x:HOk P w H h) (k:∀b u,h.get? b=some u->h'.get? b=some u):HOk P w H h':=fun a o e =>
 (x a o e).stay (fun b u _ q=>k b u q) (fun _ q=>q) fun _ _ q=>q
theorem HOk.laid (x:HOk P w H h) (k:∀b u,h.get? b=some u->h'.get? b=some u) (hp:h.objs.size<=a) (new:ObjOk P w (upd H a o) h' a o):HOk P w (upd H a o) h':=fun b u e=>by
 have hn:=x.fresh hp;by_cases hb:b=a
 ·subst hb;rw[zi] at e;cases e;exact new
 ·rw[zh hb] at e;exact (x b u e).stay (fun c v _ q=>k c v q) (fun c q=>by rw[zh (ze q hn)];exact q) fun c xs q=>by rw[zh (ze q hn)];exact q
end
noncomputable def Rd (H:Hp) (a:Addr) (u:HO):Prop:=H a=some u\/∃o,H a=some (.frz o u)
theorem Rd.ok {P:Program} {w:World} {H:Hp} {h:Heap} {a:Addr} {u:HO} (r:Rd H a u) (x:HOk P w H h):ObjOk P w H h a u:=by
 rcases r with r | ⟨o,r⟩
 ·exact x a u r
 ·obtain ⟨_,q⟩:=x a _ r;exact q
noncomputable def Mut:Option HO->Prop
 | some (.lst _)=>True
 | some (.dK _)=>True
 | some (.dT _)=>True
 | some (.set _ _)=>True
 | some (.ins _ _ _)=>True
 | some (.ext _)=>True
 | _=>False
section
variable {P:Program} {w:World} {H:Hp} {h h':Heap} {x e:Addr} {o':HO}
theorem HOk.write (ok:HOk P w H h) (mu:Mut (H x)) (he:e=x\/H e=some (.own x)) (k:∀b u,b≠e->h.get? b=some u->h'.get? b=some u) (heo:∃u,h'.get? e=some u)
  (new:ObjOk P w (upd H x o') h' x o'):HOk P w (upd H x o') h':=fun b u q=>by
 have nown:∀c y,H c=some (.own y)->c≠x:=fun c y r z=>by subst z;rw[r] at mu;exact mu
 have ntup:∀c xs,H c=some (.tup xs)->c≠x:=fun c xs r z=>by subst z;rw[r] at mu;exact mu
 by_cases hb:b=x
 ·subst hb;rw[zi] at q;cases q;exact new
 ·rw[zh hb] at q;by_cases hbe:b=e
  ·have q':H b=some (.own x):=by
    rcases he with z | z
    ·exact absurd (hbe.trans z) hb
    ·rw[hbe];exact z
   rw[q] at q';cases q'
   obtain ⟨v,hv⟩:=heo;exact ⟨v,by rw[hbe];exact hv⟩
  ·refine (ok b u q).stay (fun c v hc r=>k c v ?_ r) (fun c r=>by rw[zh (nown c b r)];exact r) fun c xs r=>by rw[zh (ntup c xs r)];exact r
   rcases hc with rfl | hc
   ·exact hbe
   ·rintro rfl;rcases he with z | z
    ·exact nown c b hc z
    ·rw[hc] at z;cases z;exact hb rfl
end
structure Un (fs ex:List Addr) (H H':Hp) (h h':Heap):Prop where
 keep:∀b o,h.get? b=some o->H b=none->b∉fs->b∉ex->h'.get? b=some o
 slot:∀b o,h.get? b=some o->H b=none->b∈fs->b∉ex->∃sl,h'.get? b=some {o with slots:=sl}
 free:∀b o,h.get? b=some o->H b=none->b∉ex->H' b=none
 there:∀b o,h.get? b=some o->b∉ex->∃o',h'.get? b=some o'
 tups:∀b xs,H b=some (.tup xs)->H' b=some (.tup xs)
 frzs:∀b o u,H b=some (.frz o u)->H' b=some (.frz o u)
 tbls:∀b ps,H b=some (.tbl ps)->∃more,H' b=some (.tbl (ps++more))
section
variable {fs fs' ex ex':List Addr} {H H1 H2:Hp} {h h1 h2 h':Heap} {a x e:Addr} {o:HO}
theorem Un.any (u:Un fs ex H H1 h h1) {b:Addr} {ob:Obj} (q:h.get? b=some ob) (n:H b=none) (hx:b∉ex):∃sl,h1.get? b=some {ob with slots:=sl}:=by
 by_cases hb:b∈fs
 ·exact u.slot b ob q n hb hx
 ·exact ⟨ob.slots,u.keep b ob q n hb hx⟩
theorem Un.kept (k:∀b u,h.get? b=some u->h'.get? b=some u):Un fs ex H H h h' :=
 ⟨fun b ob q _ _ _=>k b ob q,fun b ob q _ _ _=>⟨ob.slots,k b ob q⟩,fun _ _ _ n _=>n,fun b ob q _=>⟨ob,k b ob q⟩,fun _ _ q=>q,fun _ _ _ q=>q,fun _ ps q=>⟨#[],by rw[q];simp⟩⟩
theorem Un.refl:Un fs ex H H h h:=Un.kept fun _ _ q=>q
theorem Un.laid (k:∀b u,h.get? b=some u->h'.get? b=some u) (hp:h.objs.size<=a) (hn:H a=none):Un fs ex H (upd H a o) h h' where
 keep:=fun b u q _ _ _=>k b u q
 slot:=fun b u q _ _ _=>⟨u.slots,k b u q⟩
 free:=fun b u q n _=>by rw[zh (xce (xbd (xbk q) hp))];exact n
 there:=fun b u q _=>⟨u,k b u q⟩
 tups:=fun b xs q=>by rw[zh (ze q hn)];exact q
 frzs:=fun b u xs q=>by rw[zh (ze q hn)];exact q
 tbls:=fun b ps q=>⟨#[],by rw[zh (ze q hn),q];simp⟩
theorem Un.write (mu:Mut (H x)) (he:e=x\/H e=some (.own x)) (k:∀b u,b≠e->h.get? b=some u->h'.get? b=some u) (heo:∃u,h'.get? e=some u):Un fs ex H (upd H x o) h h':=by
 have hx:∀b,H b=none->b≠x:=fun b n z=>by subst z;rw[n] at mu;exact mu
 have hb:∀b,H b=none->b≠e:=fun b n z=>by
  subst z;rcases he with r | r
  ·exact hx b n r
  ·rw[n] at r;cases r
 have hm:∀b u,H b=some u->¬ Mut (some u)->b≠x:=fun b u q nm z=>by subst z;rw[q] at mu;exact nm mu
 refine ⟨fun b u q n _ _=>k b u (hb b n) q,fun b u q n _ _=>⟨u.slots,k b u (hb b n) q⟩,fun b u q n _=>by rw[zh (hx b n)];exact n,fun b u q _=>?_,
  fun b xs q=>by rw[zh (hm b _ q fun z=>z)];exact q,fun b u xs q=>by rw[zh (hm b _ q fun z=>z)];exact q,fun b ps q=>⟨#[],by rw[zh (hm b _ q fun z=>z),q];simp⟩⟩
 by_cases hbe:b=e
 ·subst hbe;exact heo
 ·exact ⟨u,k b u hbe q⟩
end
noncomputable def trk (h:Heap) (H:Hp):List Addr:=(List.range h.objs.size).filter fun a=>(H a).isSome
noncomputable def hidT (h:Heap) (H:Hp):Heap:=PySem.W.hideAll h (trk h H)
theorem zro (h:Heap) (H:Hp):(hidT h H).objs.size=h.objs.size:=PySem.W.hideAll_size _ _
theorem zvc {h:Heap} {H:Hp} {b:Addr} {o:Obj} (e:h.get? b=some o) (n:H b=none):(hidT h H).get? b=some o :=
 PySem.W.hideAll_get _ e fun hm=>by
  have q:(H b).isSome=true:=(xfq.mp hm).2;rw[n] at q;simp at q
theorem zyn {h:Heap} {H:Hp} {b:Addr} {o:Obj} (e:(hidT h H).get? b=some o):h.get? b=some o/\H b=none:=by
 have e':h.get? b=some o:=PySem.W.of_hideAll (trk h H) e;refine ⟨e',?_⟩;cases q:H b with
 | none=>rfl
 | some x =>
  have hm:b∈trk h H:=xfq.mpr ⟨xei.mpr (xbk e'),by simp[q]⟩;have z:(hidT h H).get? b=none:=PySem.W.hideAll_none (trk h H) hm;rw[z] at e;cases e
structure Mod (K:Fg) (mg:Str->Option Value) (base:Heap):Prop where
 kin:K.In base
 glob:base.Ns mainGlobals mg
 blt : ∃ mb, base.Ns builtinsNs mb /\ ∀ x : Str, x ≠ "__name__" -> mb x = bootBuiltins x
 nolimit:base.NoLimit
structure Cx where
 prog:Program
 w:World
 K:Fg
 mg:Str->Option Value
 base:Heap
 A:Around
 N:List Str
 s₀:Shared
 H₀:Hp
 env:Env
 outer:List Env
 stack:List Env
 ex:List Addr
 fn:Str->Bool
 calm:Bool
 pn:List (Addr × Obj)
 xe:Value->Shared->Prop
noncomputable def frs (l:List Env):List Addr:=l.filterMap (·.frame)
noncomputable abbrev Cx.fs (X:Cx):List Addr:=frs X.outer
noncomputable def Vis (sc:Scope) (x:Str):Prop:=sc.names.lookup x=some .local\/sc.names.lookup x=some .cell\/sc.names.lookup x=some .free
noncomputable def Loc (sc:Scope) (x:Str):Prop:=sc.names.lookup x=some .local\/sc.names.lookup x=some .cell
noncomputable def Look (env:Env) (h:Heap) (m:Str->Option Value) (x:Str) (u:Value):Prop :=
 (env.kindOf x=some .local/\m x=some u)\/((env.kindOf x=some .cell\/env.kindOf x=some .free)/\∃c,env.cells.lookup x=some c/\h.IsCell c (some u))
structure Cx.Ok (X:Cx):Prop where
 mod:Mod X.K X.mg X.base
 kind:X.env.scope.kind=.function
 glob:X.env.globals=mainGlobals
 blt:X.env.builtins=builtinsNs
 above:X.s₀.heap.objs.size<=X.env.locals
 inj:∀x y c,X.env.cells.lookup x=some c->X.env.cells.lookup y=some c->x=y
 has:∀x,(X.env.kindOf x=some .cell\/X.env.kindOf x=some .free)->∃c,X.env.cells.lookup x=some c
 cab:∀x c,X.fn x=true->X.env.cells.lookup x=some c->X.s₀.heap.objs.size<=c
 hd:X.calm=true->X.A.handled=none
 frames:X.A.frames=some X.stack
 stk:X.stack=X.outer\/(X.stack=X.env::X.outer/\X.env.frame=some X.env.locals)
 exf:∀b∈X.ex,b≠X.env.locals/\∀x c,X.env.cells.lookup x=some c->c≠b
 bs:∀b o,X.base.get? b=some o->X.s₀.heap.get? b=some o/\X.H₀ b=none
 bsz:X.base.objs.size<=X.s₀.heap.objs.size
 noex:∀b o,X.base.get? b=some o->b∉X.ex
 exfs:∀b∈X.ex,b∉X.fs
 funs:X.s₀.heap.FunFrames X.base X.outer
 frf:∀b∈X.fs,X.H₀ b=none
noncomputable def Hnd (A:Around) (H:Hp):Prop:=∀v,A.handled=some v->∃a o,v=.ref a/\H a=some (.frz o (.ext fun _=>True))/\∃vs,o.data=.fields vs/\vs[2]?=some .none
theorem Hnd.map {A:Around} {H H':Hp} (h:Hnd A H) (f:∀b o u,H b=some (.frz o u)->H' b=some (.frz o u)):Hnd A H':=fun v e=>let ⟨a,o,h1,h2,h3⟩:=h v e;⟨a,o,h1,f _ _ _ h2,h3⟩
theorem Hnd.none {A:Around} {H:Hp} (h:A.handled=.none):Hnd A H:=fun v e=>by rw[h] at e;cases e
structure Inv (X:Cx) (pins:List (Addr × Obj)) (σ:List (Option V)) (H:Hp) (s:Shared):Prop where
 ok:X.Ok
 os:s.os=X.s₀.os
 bare:AllBare s.gens
 base:Un X.fs X.ex X.H₀ H X.s₀.heap s.heap
 loc:∃m,s.heap.Ns X.env.locals m/\∀(i:Nat) (x:Str) (v:V),X.N[i]?=some x->σ[i]?=some (some v)->Vis X.env.scope x->∃u,RelV v u/\Look X.env s.heap m x u
 cell:∀x c,X.env.cells.lookup x=some c->∃v,s.heap.IsCell c v
 free:H X.env.locals=none
 freeC:∀x c,X.env.cells.lookup x=some c->H c=none
 pin:∀p∈X.pn++pins,s.heap.get? p.1=some p.2/\H p.1=none/\p.1≠X.env.locals/\p.1∉X.fs/\∀v,p.2.data≠.cell v
 hok:HOk X.prog X.w H s.heap
 len:σ.length=X.N.length
 hnd:Hnd X.A H
section
variable {X:Cx} {pins:List (Addr × Obj)} {σ:List (Option V)} {H H':Hp} {s:Shared} {h':Heap}
theorem Cx.Ok.nofr (ok:X.Ok) {b:Addr} {o:Obj} (e:X.base.get? b=some o):b∉X.fs:=fun hb=>by
 have:=(ok.funs.mem hb).1;rw[e] at this;cases this
theorem Inv.bs (I:Inv X pins σ H s):∀b o,X.base.get? b=some o->s.heap.get? b=some o/\H b=none:=fun b o e =>
 ⟨I.base.keep b o (I.ok.bs b o e).1 (I.ok.bs b o e).2 (I.ok.nofr e) (I.ok.noex b o e),I.base.free b o (I.ok.bs b o e).1 (I.ok.bs b o e).2 (I.ok.noex b o e)⟩
theorem Inv.bk (I:Inv X pins σ H s):∀b o,X.base.get? b=some o->s.heap.get? b=some o:=fun b o e=>(I.bs b o e).1
theorem Inv.mod (I:Inv X pins σ H s):Mod X.K X.mg X.base:=I.ok.mod
theorem Inv.kIn (I:Inv X pins σ H s):X.K.In s.heap:=I.ok.mod.kin.keeps I.bk
theorem Inv.lt (I:Inv X pins σ H s):X.env.locals < s.heap.objs.size:=let ⟨_,hn,_⟩:=I.loc;hn.lt
theorem Inv.sz (I:Inv X pins σ H s):X.s₀.heap.objs.size<=s.heap.objs.size:=xbb I.ok.above (xbn I.lt)
theorem Inv.nofs (I:Inv X pins σ H s) {a:Addr} (h:s.heap.objs.size<=a):a∉X.fs:=fun hb=>by
 obtain ⟨_,o,ho,_⟩:=I.ok.funs.mem hb;exact absurd (xbd (xbk ho) (xbb I.sz h)) (xfw _)
theorem Inv.cne (I:Inv X pins σ H s):∀x c,X.env.cells.lookup x=some c->c≠X.env.locals:=fun x c e z=>by
 obtain ⟨v,o,ho,hd⟩:=I.cell x c e;obtain ⟨m,⟨o',es,ep,ho',hd',_⟩,_⟩:=I.loc;rw[z,ho'] at ho;cases ho;rw[hd'] at hd;cases hd
theorem Inv.funs (I:Inv X pins σ H s):s.heap.FunFrames X.base X.outer:=by
 have all:∀(l:List Env),(∀b∈frs l,b∈X.fs)->X.s₀.heap.FunFrames X.base l->s.heap.FunFrames X.base l:=by
  intro l
  induction l with
  | nil=>intro _ _;trivial
  | cons env r ih =>
   intro hs hl;obtain ⟨hk,⟨L,o,hf,hn,ho,hd⟩,hr⟩:=hl;have hL:L∈X.fs:=hs L (by unfold frs;rw[xjn,hf];exact xbu);obtain ⟨sl,e⟩:=I.base.slot L o ho (I.ok.frf L hL) hL fun z=>I.ok.exfs L z hL
   exact ⟨hk,⟨L,_,hf,hn,e,hd⟩,ih (fun b hb=>hs b (by unfold frs;rw[xjn,hf];exact xca _ hb)) hr⟩
 exact all X.outer (fun _ hb=>hb) I.ok.funs
theorem Inv.stack (I:Inv X pins σ H s):s.heap.FunFrames X.base X.stack:=by
 rcases I.ok.stk with e | ⟨e,hf⟩
 ·rw[e];exact I.funs
 ·rw[e];obtain ⟨m,hn,_⟩:=I.loc;refine .cons (by rw[I.ok.kind];decide) hf hn ?_ I.funs;exact Heap.get?_none_of_le (xbb I.ok.bsz I.ok.above)
theorem Inv.stkSub (I:Inv X pins σ H s):∀b∈frs X.stack,b∈X.env.locals::X.fs:=fun b hb=>by
 rcases I.ok.stk with e | ⟨e,hf⟩
 ·rw[e] at hb;exact xca _ hb
 ·rw[e] at hb;unfold frs at hb;rw[xjn,hf] at hb;exact hb
theorem Inv.stkFree (I:Inv X pins σ H s):∀b∈frs X.stack,H b=none:=fun b hb=>by
 rcases xbt.mp (I.stkSub b hb) with e | hb
 ·rw[e];exact I.free
 ·obtain ⟨_,o,ho,_⟩:=I.ok.funs.mem hb;exact I.base.free b o ho (I.ok.frf b hb) fun z=>I.ok.exfs b z hb
theorem Inv.step {g':Array GenState} {t':Nat} {d':Drawn} {ch:List Addr} (I:Inv X pins σ H s)
  (hch:∀b∈ch,(b∈X.ex\/X.s₀.heap.objs.size<=b)/\b≠X.env.locals/\(∀x c,X.env.cells.lookup x=some c->c≠b)/\∀p∈X.pn++pins,p.1≠b)
  (keep:∀b o,b≠X.env.locals->b∉X.fs->b∉ch->s.heap.get? b=some o->H b=none->h'.get? b=some o)
  (slot:∀b o,b≠X.env.locals->b∈X.fs->b∉ch->s.heap.get? b=some o->H b=none->∃sl,h'.get? b=some {o with slots:=sl}) (free:∀b o,b∉ch->s.heap.get? b=some o->H b=none->H' b=none)
  (there:∀b o,b∉ch->s.heap.get? b=some o->∃o',h'.get? b=some o')
  (tups:∀b xs,H b=some (.tup xs)->H' b=some (.tup xs)) (frzs:∀b o u,H b=some (.frz o u)->H' b=some (.frz o u)) (tbls:∀b ps,H b=some (.tbl ps)->∃more,H' b=some (.tbl (ps++more)))
  (ns:∀m,s.heap.Ns X.env.locals m->h'.Ns X.env.locals m) (hok:HOk X.prog X.w H' h') (hg:AllBare g') :
  Inv X pins σ H' {s with heap:=h',gens:=g',drawn:=d',toks:=t'}:=by
 have neL:∀b o,X.s₀.heap.get? b=some o->b≠X.env.locals:=fun b o e=>xce (xbd (xbk e) I.ok.above)
 have neC:∀b o,X.s₀.heap.get? b=some o->b∉X.ex->b∉ch:=fun b o e hx hb=>by
  rcases (hch b hb).1 with z | z
  ·exact hx z
  ·exact absurd (xbd (xbk e) z) (xfw _)
 have cellK:∀x c,X.env.cells.lookup x=some c->∀v,s.heap.IsCell c v->h'.IsCell c v:=fun x c e v hq0=>by
  obtain ⟨o,ho,hd⟩:=hq0;have nch:c∉ch:=fun z=>(hch c z).2.2.1 x c e rfl
  by_cases hc:c∈X.fs
  ·obtain ⟨sl,q⟩:=slot c o (I.cne x c e) hc nch ho (I.freeC x c e);exact ⟨_,q,hd⟩
  ·exact ⟨o,keep c o (I.cne x c e) hc nch ho (I.freeC x c e),hd⟩
 refine ⟨I.ok,I.os,hg,⟨fun b o e n hb hx=>?_,fun b o e n hb hx=>?_,fun b o e n hx=>?_,fun b o e hx=>?_,fun b xs e=>tups b xs (I.base.tups b xs e),fun b o xs e=>frzs b o xs (I.base.frzs b o xs e),fun b ps e=>?_⟩,?_,fun x c e=>?_,?_,fun x c e=>?_,fun p hp=>?_,hok,I.len,I.hnd.map frzs⟩
 ·exact keep b o (neL b o e) hb (neC b o e hx) (I.base.keep b o e n hb hx) (I.base.free b o e n hx)
 ·obtain ⟨sl,e1⟩:=I.base.slot b o e n hb hx;obtain ⟨sl',e2⟩:=slot b _ (neL b o e) hb (neC b o e hx) e1 (I.base.free b o e n hx);exact ⟨sl',e2⟩
 ·obtain ⟨o',e1⟩:=I.base.there b o e hx;exact free b o' (neC b o e hx) e1 (I.base.free b o e n hx)
 ·obtain ⟨o',e1⟩:=I.base.there b o e hx;exact there b o' (neC b o e hx) e1
 ·obtain ⟨m1,e1⟩:=I.base.tbls b ps e;obtain ⟨m2,e2⟩:=tbls b _ e1;exact ⟨m1++m2,by rw[e2,Array.append_assoc]⟩
 ·obtain ⟨m,hn,hl⟩:=I.loc;refine ⟨m,ns m hn,fun i x v e1 e2 e3=>?_⟩;obtain ⟨u,r,l⟩:=hl i x v e1 e2 e3;refine ⟨u,r,?_⟩;rcases l with l | ⟨k,c,e,z⟩
  ·exact .inl l
  ·exact .inr ⟨k,c,e,cellK x c e _ z⟩
 ·obtain ⟨v,z⟩:=I.cell x c e;exact ⟨v,cellK x c e v z⟩
 ·obtain ⟨m,⟨o,_,_,ho,_⟩,_⟩:=I.loc;exact free _ o (fun z=>(hch _ z).2.1 rfl) ho I.free
 ·obtain ⟨v,o,ho,hd⟩:=I.cell x c e;exact free c o (fun z=>(hch c z).2.2.1 x c e rfl) ho (I.freeC x c e)
 ·obtain ⟨e,n,ne,nf,d⟩:=I.pin p hp;have nch:p.1∉ch:=fun z=>(hch p.1 z).2.2.2 p hp rfl
  exact ⟨keep p.1 p.2 ne nf nch e n,free p.1 p.2 nch e n,ne,nf,d⟩
theorem Inv.un {t':Nat} (I:Inv X pins σ H s) (u:Un X.fs [] H H' s.heap h') (hok:HOk X.prog X.w H' h'):Inv X pins σ H' {s with heap:=h',toks:=t'}:=by
 obtain ⟨m,⟨o,es,ep,ho,r⟩,_⟩:=id I.loc;obtain ⟨sl,hL⟩:=u.any ho I.free (by simp)
 exact I.step (g':=s.gens) (d':=s.drawn) (ch:=[]) (fun _ z=>nomatch z) (fun b o _ hb _ e n=>u.keep b o e n hb (by simp)) (fun b o _ hb _ e n=>u.slot b o e n hb (by simp)) (fun b o _ e n=>u.free b o e n (by simp)) (fun b o _ e=>u.there b o e (by simp)) u.tups u.frzs u.tbls (fun m' hm=>by
  obtain ⟨o',es',ep',ho',r'⟩:=hm;rw[ho] at ho';cases ho'
  exact ⟨_,es',ep',hL,r'⟩) hok I.bare
theorem Inv.call {g':Array GenState} {t':Nat} {d':Drawn} {ch:List Addr} (I:Inv X pins σ H s) (u:Un (frs X.stack) ch H H' s.heap h') (hok:HOk X.prog X.w H' h') (hg:AllBare g')
  (hch:∀b∈ch,(b∈X.ex\/X.s₀.heap.objs.size<=b)/\b≠X.env.locals/\(∀x c,X.env.cells.lookup x=some c->c≠b)/\∀p∈X.pn++pins,p.1≠b) :
  Inv X pins σ H' {s with heap:=h',gens:=g',drawn:=d',toks:=t'}:=by
 obtain ⟨m,⟨o,es,ep,ho,r⟩,_⟩:=id I.loc;obtain ⟨sl,hL⟩:=u.any ho I.free fun z=>(hch _ z).2.1 rfl
 exact I.step (ch:=ch) hch (fun b o hL hb hc e n=>u.keep b o e n (fun z=>(xbt.mp (I.stkSub b z)).elim hL hb) hc) (fun b o _ _ hc e n=>u.any e n hc) (fun b o hc e n=>u.free b o e n hc) (fun b o hc e=>u.there b o e hc) u.tups u.frzs u.tbls (fun m' hm=>by
  obtain ⟨o',es',ep',ho',r'⟩:=hm;rw[ho] at ho';cases ho'
  exact ⟨_,es',ep',hL,r'⟩) hok hg
theorem Inv.turned {t':Nat} {it:Addr} (I:Inv X pins σ H s) (k:∀b o,b≠it->s.heap.get? b=some o->h'.get? b=some o) (hn:H it=none) (hL:it≠X.env.locals)
  (h1:it∈X.ex\/X.s₀.heap.objs.size<=it) (h2:∀x c,X.env.cells.lookup x=some c->c≠it) (h3:∀p∈X.pn++pins,p.1≠it):Inv X pins σ H {s with heap:=h',toks:=t'}:=by
 have nit:∀b u,H b=some u->b≠it:=fun b u e z=>by rw[z,hn] at e;cases e
 refine I.step (g':=s.gens) (d':=s.drawn) (ch:=[it]) (fun b hb=>?_) (fun b o _ _ hc e _=>k b o (fun z=>hc (by simp[z])) e) (fun b o _ _ hc e _=>⟨o.slots,k b o (fun z=>hc (by simp[z])) e⟩) (fun _ _ _ _ n=>n)
  (fun b o hc e=>⟨o,k b o (fun z=>hc (by simp[z])) e⟩) (fun _ _ e=>e) (fun _ _ _ e=>e) (fun b ps e=>⟨#[],by rw[e];simp⟩) (fun m hm=>?_) (fun b u e=>?_) I.bare
 ·have e:b=it:=by simpa using hb
  subst e;exact ⟨h1,hL,h2,h3⟩
 ·obtain ⟨o,es,ep,ho,r⟩:=hm;exact ⟨o,es,ep,k _ o (xej hL) ho,r⟩
 ·refine (I.hok b u e).stay (fun c v hc q=>k c v ?_ q) (fun _ q=>q) fun _ _ q=>q
  rcases hc with z | z
  ·rw[z];exact nit b u e
  ·exact nit c _ z
theorem Inv.tok (I:Inv X pins σ H s) (t:Nat):Inv X pins σ H {s with toks:=t}:=I.un (h':=s.heap) (t':=t) Un.refl I.hok
theorem Inv.kept {t':Nat} (I:Inv X pins σ H s) (k:∀b u,s.heap.get? b=some u->h'.get? b=some u):Inv X pins σ H {s with heap:=h',toks:=t'}:=I.un (Un.kept k) (I.hok.kept k)
theorem Inv.laid {a:Addr} {o:HO} {t':Nat} (I:Inv X pins σ H s) (k:∀b u,s.heap.get? b=some u->h'.get? b=some u) (hp:s.heap.objs.size<=a) (new:ObjOk X.prog X.w (upd H a o) h' a o) :
 Inv X pins σ (upd H a o) {s with heap:=h',toks:=t'}:=I.un (Un.laid k hp (I.hok.fresh hp)) (I.hok.laid k hp new)
theorem Inv.write {x e:Addr} {o:HO} {t':Nat} (I:Inv X pins σ H s) (mu:Mut (H x)) (he:e=x\/H e=some (.own x)) (k:∀b u,b≠e->s.heap.get? b=some u->h'.get? b=some u) (heo:∃u,h'.get? e=some u)
 (new:ObjOk X.prog X.w (upd H x o) h' x o):Inv X pins σ (upd H x o) {s with heap:=h',toks:=t'}:=I.un (Un.write mu he k heo) (I.hok.write mu he k heo new)
theorem Inv.pins_of {pins':List (Addr × Obj)} (I:Inv X pins σ H s) (h:∀p∈pins',s.heap.get? p.1=some p.2/\H p.1=none/\p.1≠X.env.locals/\p.1∉X.fs/\∀v,p.2.data≠.cell v):Inv X pins' σ H s :=
 ⟨I.ok,I.os,I.bare,I.base,I.loc,I.cell,I.free,I.freeC,fun p hp=>(xbz.mp hp).elim (fun z=>I.pin p (xga _ z)) (h p),I.hok,I.len,I.hnd⟩
theorem znz {N:List Str} (hN:N.Nodup) {i j:Nat} {x:Str} (a:N[i]?=some x) (b:N[j]?=some x):i=j:=by
 obtain ⟨h1,e1⟩:=xbl.mp a;obtain ⟨h2,e2⟩:=xbl.mp b;exact (List.getElem_inj hN).mp (e1.trans e2.symm)
theorem zqg {M:Model} {A:Around} {E:Value->Shared->Prop} {i:Nat} {x:Str} {v:V} {u:Value} {Q:Unit->Shared->Prop} (I:Inv X pins σ H s) (hN:X.N.Nodup) (hi:X.N[i]?=some x) (hx:Loc X.env.scope x) (r:RelV v u)
  (h:∀s',Inv X pins (σ.set i (some v)) H s'->(∃a,Heap.SameBut a s.heap s'.heap/\(a=X.env.locals\/X.env.cells.lookup x=some a))->Q () s') (hf:X.fn x=true\/X.env.scope.names.lookup x=some .local:=by first | exact .inl rfl | exact .inr rfl | assumption):wpAny M A (storeName X.env x u) Q E s:=by
 obtain ⟨m,hn,hl⟩:=id I.loc;have hcls:(X.env.scope.kind == .class || (X.env.scope.kind == .module && X.env.locals != X.env.globals))=false:=by rw[I.ok.kind];rfl
 have hiσ:i < σ.length:=by rw[I.len];exact (xbl.mp hi).1
 have cne:=I.cne;have tracked:∀{a:Addr} {h':Heap},(∃o,s.heap.get? a=some o/\H a=none)->Heap.SameBut a s.heap h'->HOk X.prog X.w H h':=fun {a h'} ha hs b ob e=>by
  obtain ⟨_,_,hfree⟩:=ha;refine (I.hok b ob e).stay (fun c w' hc q=>(hs.2 c ?_).trans q) (fun _ q=>q) fun _ _ q=>q
  rintro rfl;rcases hc with rfl | hc
  ·rw[hfree] at e;cases e
  ·rw[hfree] at hc;cases hc
 rcases hx with hk | hk
 ·refine wpAny_storeName_local hk hn (fun h' hn' hs=>?_) hcls;obtain ⟨oL,_,_,hoL,_⟩:=id hn;refine h _ ⟨I.ok,I.os,I.bare,⟨fun b o e n hb hx=>?_,fun b o e n hb hx=>?_,I.base.free,fun b o e hx=>?_,I.base.tups,I.base.frzs,I.base.tbls⟩,⟨_,hn',fun j y v' e1 e2 e3=>?_⟩,fun y c e=>?_,I.free,I.freeC,fun p hp=>?_,tracked ⟨oL,hoL,I.free⟩ hs,by simpa using I.len,I.hnd⟩ ⟨_,hs,.inl rfl⟩
  ·exact (hs.2 b (xce (xbd (xbk e) I.ok.above))).trans (I.base.keep b o e n hb hx)
  ·obtain ⟨sl,e1⟩:=I.base.slot b o e n hb hx;exact ⟨sl,(hs.2 b (xce (xbd (xbk e) I.ok.above))).trans e1⟩
  ·obtain ⟨o',e1⟩:=I.base.there b o e hx;exact ⟨o',(hs.2 b (xce (xbd (xbk e) I.ok.above))).trans e1⟩
  ·by_cases hj:j=i
   ·subst hj;rw[hi] at e1;cases e1
    rw[xdr hiσ] at e2;cases e2;exact ⟨u,r,.inl ⟨hk,by simp⟩⟩
   ·rw[xcl (xej hj)] at e2;obtain ⟨u',r',q⟩:=hl j y v' e1 e2 e3;refine ⟨u',r',?_⟩;rcases q with ⟨k,e⟩ | ⟨k,c,e,z⟩
    ·refine .inl ⟨k,?_⟩;have:y≠x:=fun e=>hj (znz hN e1 (e ▸ hi))
     simp[this,e]
    ·exact .inr ⟨k,c,e,z.sameBut hs (cne y c e)⟩
  ·obtain ⟨w',z⟩:=I.cell y c e;exact ⟨w',z.sameBut hs (cne y c e)⟩
  ·obtain ⟨e,n,ne,nf,d⟩:=I.pin p hp;exact ⟨(hs.2 p.1 ne).trans e,n,ne,nf,d⟩
 ·have hfn:X.fn x=true:=by
   rcases hf with z | z
   ·exact z
   ·rw[z] at hk;cases hk
  obtain ⟨c,hc⟩:=I.ok.has x (.inl hk);obtain ⟨w',z⟩:=I.cell x c hc;refine wpAny_storeName_cell I.ok.kind hk hc z (fun h' hc' hs=>?_);obtain ⟨oc,hoc,hocd⟩:=id z;refine h {s with heap:=h'} ⟨I.ok,I.os,I.bare,⟨fun b o e n hb hx=>?_,fun b o e n hb hx=>?_,I.base.free,fun b o e hx=>?_,I.base.tups,I.base.frzs,I.base.tbls⟩,⟨m,hn.sameBut hs (xej (cne x c hc)),fun j y v' e1 e2 e3=>?_⟩,fun y c' e=>?_,I.free,I.freeC,fun p hp=>?_,tracked ⟨oc,hoc,I.freeC x c hc⟩ hs,by simpa using I.len,I.hnd⟩ ⟨c,hs,.inr hc⟩
  ·exact (hs.2 b (xce (xbd (xbk e) (I.ok.cab x c hfn hc)))).trans (I.base.keep b o e n hb hx)
  ·obtain ⟨sl,e1⟩:=I.base.slot b o e n hb hx;exact ⟨sl,(hs.2 b (xce (xbd (xbk e) (I.ok.cab x c hfn hc)))).trans e1⟩
  ·obtain ⟨o',e1⟩:=I.base.there b o e hx;exact ⟨o',(hs.2 b (xce (xbd (xbk e) (I.ok.cab x c hfn hc)))).trans e1⟩
  ·by_cases hj:j=i
   ·subst hj;rw[hi] at e1;cases e1
    rw[xdr hiσ] at e2;cases e2;exact ⟨u,r,.inr ⟨.inl hk,c,hc,hc'⟩⟩
   ·rw[xcl (xej hj)] at e2;obtain ⟨u',r',q⟩:=hl j y v' e1 e2 e3;refine ⟨u',r',?_⟩;rcases q with q | ⟨k,c',e,z'⟩
    ·exact .inl q
    ·refine .inr ⟨k,c',e,z'.sameBut hs ?_⟩;rintro rfl;exact hj (znz hN e1 (I.ok.inj _ _ _ e hc ▸ hi))
  ·by_cases hcc:c'=c
   ·subst hcc;exact ⟨_,hc'⟩
   ·obtain ⟨w2,z2⟩:=I.cell y c' e;exact ⟨w2,z2.sameBut hs hcc⟩
  ·obtain ⟨e,n,ne,nf,d⟩:=I.pin p hp;refine ⟨(hs.2 p.1 ?_).trans e,n,ne,nf,d⟩;intro q;rw[q,hoc] at e;have q':oc=p.2:=xbw e;exact d w' (by rw[← q'];exact hocd)
theorem zhe {M:Model} {A:Around} {E:Value->Shared->Prop} {i:Nat} {x:Str} {v:V} {u:Value} {Q:Unit->Shared->Prop} (I:Inv X pins σ H s) (hN:X.N.Nodup) (hi:X.N[i]?=some x) (hx:Loc X.env.scope x) (r:RelV v u)
  (h:∀s',Inv X pins (σ.set i (some v)) H s'->Q () s') (hf:X.fn x=true\/X.env.scope.names.lookup x=some .local:=by first | exact .inl rfl | exact .inr rfl | assumption):wpAny M A (storeName X.env x u) Q E s :=
 zqg I hN hi hx r (fun s' I' _=>h s' I') hf
theorem Inv.call' {s':Shared} {ch:List Addr} (I:Inv X pins σ H s) (ho:s'.os=s.os) (u:Un (frs X.stack) ch H H' s.heap s'.heap) (hok:HOk X.prog X.w H' s'.heap) (hg:AllBare s'.gens)
  (hch:∀b∈ch,(b∈X.ex\/X.s₀.heap.objs.size<=b)/\b≠X.env.locals/\(∀x c,X.env.cells.lookup x=some c->c≠b)/\∀p∈X.pn++pins,p.1≠b):Inv X pins σ H' s':=by
 obtain ⟨h',g',d',t',o'⟩:=s';have e:o'=s.os:=ho;subst e;exact I.call (g':=g') (t':=t') (d':=d') u hok hg hch
end
noncomputable abbrev XK:=Value->Option Addr->Hp->Prop
noncomputable abbrev St:=List (Option V)
noncomputable abbrev VK:=V->Hp->Prop
noncomputable abbrev TE:=St->Hp->VK->Prop
noncomputable abbrev TT:=St->Hp->(Bool->Hp->Prop)->Prop
noncomputable abbrev TA:=St->Hp->(List V->Hp->Prop)->Prop
structure Ends where
 nx:St->Hp->Prop
 rt:VK
 bk:St->Hp->Prop:=fun _ _=>False
 ct:St->Hp->Prop:=fun _ _=>False
noncomputable abbrev TS:=Ends->St->Hp->Prop
noncomputable def EP (X:Cx) (pins:List (Addr × Obj)) (σ:St) (Q:VK) (u:Value) (s':Shared):Prop:=∃v H',Inv X pins σ H' s'/\RelV v u/\Q v H'
noncomputable def TP (X:Cx) (pins:List (Addr × Obj)) (σ:St) (Q:Bool->Hp->Prop) (b:Bool) (s':Shared):Prop:=∃H',Inv X pins σ H' s'/\Q b H'
noncomputable def AP (X:Cx) (pins:List (Addr × Obj)) (σ:St) (Q:List V->Hp->Prop) (us:List Value) (s':Shared):Prop:=∃vs H',Inv X pins σ H' s'/\Vals vs us/\Q vs H'
noncomputable def SP (X:Cx) (pins:List (Addr × Obj)) (D:Ends) (f:Flow) (s':Shared):Prop :=
 match f with
 | .next=>∃σ' H',Inv X pins σ' H' s'/\D.nx σ' H'
 | .brk=>∃σ' H',Inv X pins σ' H' s'/\D.bk σ' H'
 | .cont=>∃σ' H',Inv X pins σ' H' s'/\D.ct σ' H'
 | .ret u=>∃v σ' H',Inv X pins σ' H' s'/\RelV v u/\D.rt v H'
noncomputable def PE (X:Cx) (e:Expr) (t:TE):Prop :=
 ∀(pins:List (Addr × Obj)) (s:Shared) (σ:St) (H:Hp) (Q:VK),Inv X pins σ H s->t σ H Q->wpAny (model X.prog X.w) X.A (eval e X.env) (EP X pins σ Q) X.xe s
noncomputable def PT (X:Cx) (e:Expr) (t:TT):Prop :=
 ∀(pins:List (Addr × Obj)) (s:Shared) (σ:St) (H:Hp) (Q:Bool->Hp->Prop),Inv X pins σ H s->t σ H Q->wpAny (model X.prog X.w) X.A (isTrue e X.env (eval e X.env)) (TP X pins σ Q) X.xe s
noncomputable def PW (X:Cx) (e:Expr) (t:TT):Prop :=
 ∀(whole:Sem Value) (pins:List (Addr × Obj)) (s:Shared) (σ:St) (H:Hp) (Q:Bool->Hp->Prop),Inv X pins σ H s->t σ H Q->wpAny (model X.prog X.w) X.A (isTrue e X.env whole) (TP X pins σ Q) X.xe s
theorem PW.pt {X:Cx} {e:Expr} {t:TT} (h:PW X e t):PT X e t:=h _
noncomputable def PA (X:Cx) (es:List Expr) (t:TA):Prop :=
 ∀(pos:Pos) (pins:List (Addr × Obj)) (s:Shared) (σ:St) (H:Hp) (Q:List V->Hp->Prop),Inv X pins σ H s->t σ H Q->wpAny (model X.prog X.w) X.A (spliced (backTo pos (starEach es X.env))) (AP X pins σ Q) X.xe s
noncomputable def PS (X:Cx) (st:Stmt) (t:TS):Prop :=
 ∀(pins:List (Addr × Obj)) (s:Shared) (σ:St) (H:Hp) (D:Ends),Inv X pins σ H s->t D σ H->wpAny (model X.prog X.w) X.A (exec st X.env) (SP X pins D) X.xe s
noncomputable def PSs (X:Cx) (st:List Stmt) (t:TS):Prop :=
 ∀(pins:List (Addr × Obj)) (s:Shared) (σ:St) (H:Hp) (D:Ends),Inv X pins σ H s->t D σ H->wpAny (model X.prog X.w) X.A (execs st X.env) (SP X pins D) X.xe s
theorem thn {α:Type} {t:Sem α} {Q Q':α->Shared->Prop} {M:Model} {A:Around} {E:Value->Shared->Prop} {s:Shared} (h:wpAny M A t Q E s) (hQ:∀a s,Q a s->Q' a s):wpAny M A t Q' E s:=xde h hQ fun _ _ x=>x
section
variable {X:Cx}
noncomputable def tVar (i:Nat):TE:=fun σ H Q=>∃v,σ[i]?=some (some v)/\Q v H
noncomputable def tC (v:V):TE:=fun _ H Q=>Q v H
theorem zbct {i : Nat} {x : Str} {pos : Pos} (hN : X.N[i]? = some x) (hv : Vis X.env.scope x) (hd : (x == ("__debug__" : Str)) = false := by decide) (hcd : (x == ("__classdict__" : Str)) = false := by decide) : PE X (.Name x pos) (tVar i) := by
 intro pins s σ H Q I h;obtain ⟨v,e,h⟩:=h;obtain ⟨m,hn,hl⟩:=I.loc;obtain ⟨u,r,l⟩:=hl i x v hN e hv;have fin:EP X pins σ Q u s:=⟨v,H,I,r,h⟩
 rcases l with ⟨hk,hm⟩ | ⟨hk,c,hc,hcell⟩
 ·exact wpAny_Name (wpAny_loadName_local I.ok.kind hk hn hm fin) hd
 ·rcases hk with hk | hk
  ·exact wpAny_Name (wpAny_loadName_cell I.ok.kind hk hc hcell fin) hd
  ·exact wpAny_Name (wpAny_loadName_free I.ok.kind hk hc hcell fin hcd) hd
theorem zbcz {i j pos}:PE X (.Constant (.int i) j pos) (tC (.int i)):=fun _ _ _ H _ I h=>wpAny_Constant_int ⟨.int i,H,I.tok _,⟨_,rfl⟩,h⟩
theorem zbhr {b j pos}:PE X (.Constant (.bool b) j pos) (tC (.bl b)):=fun _ _ _ H _ I h=>Constant_bool ⟨.bl b,H,I,rfl,h⟩
theorem zbcx {j pos}:PE X (.Constant .none j pos) (tC .non):=fun _ _ _ H _ I h=>Constant_none ⟨.non,H,I,rfl,h⟩
theorem zbcu {x j pos}:PE X (.Constant (.str x) j pos) (tC (.str x)):=fun _ _ _ H _ I h=>Calls.Constant_str ⟨.str x,H,I.tok _,⟨_,rfl⟩,h⟩
noncomputable def Gl (X:Cx) (x:Str):Prop:=X.env.kindOf x=some .globalImplicit
theorem zgu {E:Value->Shared->Prop} {pins:List (Addr × Obj)} {s:Shared} {σ:St} {H:Hp} {x:Str} {u:Value} {pos:Pos} {Q:Value->Shared->Prop} (I:Inv X pins σ H s) (hg:Gl X x) (hm:X.mg x=some u) (h:Q u s)
  (hd : (x == ("__debug__" : Str)) = false := by decide) : wpAny (model X.prog X.w) X.A (eval (.Name x pos) X.env) Q E s :=
 xhm I.ok.kind hg (Calls.loadGlobal_global (by rw[I.ok.glob];exact I.mod.glob.keeps I.bk) hm h) hd
theorem zmk {E:Value->Shared->Prop} {pins:List (Addr × Obj)} {s:Shared} {σ:St} {H:Hp} {x:Str} {u:Value} {pos:Pos} {Q:Value->Shared->Prop} (I:Inv X pins σ H s) (hg:Gl X x) (hm:X.mg x=none) (hv:bootBuiltins x=some u) (h:Q u s)
  (hn : x ≠ "__name__" := by decide) (hd : (x == ("__debug__" : Str)) = false := by decide) : wpAny (model X.prog X.w) X.A (eval (.Name x pos) X.env) Q E s := by
 obtain ⟨mb,h1,h2⟩:=I.mod.blt;exact xhm I.ok.kind hg (Calls.loadGlobal_builtin (by rw[I.ok.glob];exact I.mod.glob.keeps I.bk) hm (by rw[I.ok.blt];exact h1.keeps I.bk) ((h2 x hn).trans hv) h) hd
theorem zce {x : Str} {v : V} {u : Value} {pos : Pos} (hg : Gl X x) (hm : X.mg x = some u) (r : RelV v u) (hd : (x == ("__debug__" : Str)) = false := by decide) : PE X (.Name x pos) (tC v) :=
 fun _ _ _ H _ I h=>zgu I hg hm ⟨v,H,I,r,h⟩ hd
theorem znn {x : Str} {v : V} {u : Value} {pos : Pos} (hg : Gl X x) (hm : X.mg x = none) (hv : bootBuiltins x = some u) (r : RelV v u) (hn : x ≠ "__name__" := by decide) (hd : (x == ("__debug__" : Str)) = false := by decide) : PE X (.Name x pos) (tC v) :=
 fun _ _ _ H _ I h=>zmk I hg hm hv ⟨v,H,I,r,h⟩ hn hd
variable {a b:Expr} {ta tb:TE} {pos:Pos}
noncomputable def PC (X:Cx) (op:CmpOp) (a b:Expr) (t:TE):Prop :=
 ∀(pins:List (Addr × Obj)) (s:Shared) (σ:St) (H:Hp) (Q:VK),Inv X pins σ H s->t σ H Q ->
  wpAny (model X.prog X.w) X.A (eval a X.env) (fun v s₁=>wpAny (model X.prog X.w) X.A (eval b X.env) (fun u s₂=>wpAny (model X.prog X.w) X.A (compareOp op v u) (EP X pins σ Q) X.xe s₂) X.xe s₁) X.xe s
noncomputable def tB (t:TE):TT:=fun σ H Q=>t σ H fun x H1=>∃c,x=.bl c/\Q c H1
theorem zbcl {op:CmpOp} {t:TE} (h:PC X op a b t) (h1:behindInMarks op b=false:=by first | exact nobehind _ (by decide) (by decide) | rfl):PT X (.Compare a [op] [b] pos) (tB t):=by
 intro pins s σ H Q I hw;refine wpAny_isTrue_Compare1 (thn (h pins s σ H _ I hw) fun v s1 h1=>thn h1 fun u s2 h2=>thn h2 fun c s3 hq0=>?_) h1;obtain ⟨x,H1,I1,r1,q1⟩:=hq0;obtain ⟨d,rfl,q⟩:=q1;cases r1;exact xfy ⟨H1,I1,q⟩
variable {tA tB':TT} {rest:List Expr}
noncomputable def tOr (t u:TT):TT:=fun σ H Q=>t σ H fun c H1=>if c=true then Q true H1 else u σ H1 Q
noncomputable def tNot (t:TT):TT:=fun σ H Q=>t σ H fun c H1=>Q (!c) H1
theorem pw_and1 (ha:PT X a tA):PW X (.BoolOp .And [a] pos) tA:=by
 intro wh pins s σ H Q I h;refine isTrue_and (thn (ha pins s σ H Q I h) fun c s1 e=>?_);cases c with
 | true=>exact isTrue_and_nil e
 | false=>exact e
theorem pw_or1 (ha:PT X a tA):PW X (.BoolOp .Or [a] pos) tA:=by
 intro wh pins s σ H Q I h;refine isTrue_or (thn (ha pins s σ H Q I h) fun c s1 e=>?_);cases c with
 | false=>exact isTrue_or_nil e
 | true=>exact e
theorem pw_or (ha:PT X a tA) (hb:PW X (.BoolOp .Or (b::rest) pos) tB'):PW X (.BoolOp .Or (a::b::rest) pos) (tOr tA tB'):=by
 intro wh pins s σ H Q I h;refine isTrue_or (thn (ha pins s σ H _ I h) fun c s1 hq0=>?_);obtain ⟨H1,I1,q1⟩:=hq0;cases c with
 | true=>exact ⟨H1,I1,q1⟩
 | false=>exact hb wh pins s1 σ H1 Q I1 q1
theorem zbck (ha:PT X a tA):PT X (.UnaryOp .Not a pos) (tNot tA):=by
 intro pins s σ H Q I h;exact isTrue_not (ha pins s σ H (fun c H1=>Q (!c) H1) I h)
noncomputable def tAndV (ta tb:TE):TE:=fun σ H Q=>ta σ H fun x H1=>∃c,x=.bl c/\if c=true then tb σ H1 Q else Q (.bl false) H1
noncomputable def tNotV (ta:TE):TE:=fun σ H Q=>ta σ H fun x H1=>∃c,x=.bl c/\Q (.bl (!c)) H1
theorem zbcv {op} {t:TE} (h:PE X a t):PE X (.BoolOp op [a] pos) t:=fun pins s σ H Q I hw=>BoolOp_one (h pins s σ H Q I hw)
theorem zbdb (ha:PE X a ta) (hb:PE X (.BoolOp .And (b::rest) pos) tb):PE X (.BoolOp .And (a::b::rest) pos) (tAndV ta tb):=by
 intro pins s σ H Q I h;refine BoolOp_and (thn (ha pins s σ H _ I h) fun v s1 hq0=>?_);obtain ⟨x,H1,I1,r1,q1⟩:=hq0;obtain ⟨c,rfl,q1⟩:=q1;cases r1;refine xfy ?_;cases c with
 | true=>exact hb pins s1 σ H1 Q I1 q1
 | false=>exact ⟨.bl false,H1,I1,rfl,q1⟩
theorem zbcw (ha:PE X a ta):PE X (.UnaryOp .Not a pos) (tNotV ta):=by
 intro pins s σ H Q I h;refine UnaryOp_ (thn (ha pins s σ H _ I h) fun v s1 hq0=>?_);obtain ⟨x,H1,I1,r1,q1⟩:=hq0;obtain ⟨c,rfl,q1⟩:=q1;cases r1;exact not_of (xfy ⟨.bl (!c),H1,I1,rfl,q1⟩)
end
noncomputable def SqL (K:Fg) (H:Hp) (a:Addr) (xs:List V):Prop :=
 Rd H a (.lst xs) \/
  ∃ (o : Obj) (its : Array Value) (n : Nat), K.lookup a = some o /\ o.cls = .type "list" /\ o.dict = none /\ o.data = .seq its n /\ its.size <= sizeLine /\ Vals xs its.toList
noncomputable def SqT (K:Fg) (H:Hp) (a:Addr) (xs:List V):Prop :=
 Rd H a (.tup xs) \/
  ∃ (o : Obj) (its : Array Value) (n : Nat), K.lookup a = some o /\ o.cls = .type "tuple" /\ o.data = .seq its n /\ its.size <= sizeLine /\ Vals xs its.toList
noncomputable def absV:Value->Option V
 | .none=>some .non
 | .bool b=>some (.bl b)
 | .int i _=>some (.int i)
 | .str x _=>some (.str x)
 | .bytes b _=>some (.byt b)
 | .float b _=>some (.flt b)
 | .ref a=>some (.ref a)
 | .type n=>some (.ty n)
 | _=>none
theorem RelV.abs {x:V} {u:Value} (r:RelV x u):absV u=some x:=by
 cases x with
 | non=>cases r;rfl
 | bl _=>cases r;rfl
 | int _=>obtain ⟨t,rfl⟩:=r;rfl
 | str _=>obtain ⟨t,rfl⟩:=r;rfl
 | byt _=>obtain ⟨t,rfl⟩:=r;rfl
 | flt _=>obtain ⟨t,rfl⟩:=r;rfl
 | ref _=>cases r;rfl
 | ty _=>cases r;rfl
theorem RelV.inj {x y:V} {u:Value} (r:RelV x u) (q:RelV y u):x=y:=xbw (r.abs.symm.trans q.abs)
theorem Vals.inj:∀{xs ys:List V} {us:List Value},Vals xs us->Vals ys us->xs=ys
 | _,_,_,.nil,.nil=>rfl
 | _,_,_,.cons r t,.cons r' t'=>by rw[r.inj r',Vals.inj t t']
section
variable {X:Cx} {pins:List (Addr × Obj)} {σ:St} {H:Hp} {s:Shared} {a:Addr} {xs ys:List V}
theorem SqL.of {K:Fg} (h:H a=some (.lst xs)):SqL K H a xs:=.inl (.inl h)
theorem SqT.of {K:Fg} (h:H a=some (.tup xs)):SqT K H a xs:=.inl (.inl h)
theorem Inv.list (I:Inv X pins σ H s) (h:SqL X.K H a xs):∃its:List Value,Vals xs its/\PlainL s.heap a its.toArray/\xs.length<=sizeLine:=by
 rcases h with h | ⟨o,its,n,hk,hc,hd,hs,hz,r⟩
 ·obtain ⟨z,its,n,r,e⟩:=h.ok I.hok;exact ⟨its,r,⟨_,n,e,rfl,rfl,rfl⟩,z⟩
 ·refine ⟨its.toList,r,⟨o,n,I.kIn a o hk,hc,hd,by simpa using hs⟩,?_⟩;have e:=r.length;simp only[xbx] at e;lia
theorem Inv.tuple (I:Inv X pins σ H s) (h:SqT X.K H a xs):∃its:List Value,Vals xs its/\IsTup s.heap a its.toArray/\xs.length<=sizeLine:=by
 rcases h with h | ⟨o,its,n,hk,hc,hs,hz,r⟩
 ·obtain ⟨z,its,r,p⟩:=h.ok I.hok;exact ⟨its,r,p,z⟩
 ·refine ⟨its.toList,r,⟨o,I.kIn a o hk,hc,n,by simpa using hs⟩,?_⟩;have e:=r.length;simp only[xbx] at e;lia
theorem Inv.list_inj (I:Inv X pins σ H s) (h:SqL X.K H a xs) (h':SqL X.K H a ys):xs=ys:=by
 obtain ⟨its,r,⟨o,n,e,_,_,d⟩,_⟩:=I.list h;obtain ⟨its',r',⟨o',n',e',_,_,d'⟩,_⟩:=I.list h';rw[e] at e';cases e'
 rw[d] at d';injection d' with d1 _
 have:its=its':=by simpa using congrArg Array.toList d1
 subst this;exact r.inj r'
theorem Inv.tuple_inj (I:Inv X pins σ H s) (h:SqT X.K H a xs) (h':SqT X.K H a ys):xs=ys:=by
 obtain ⟨its,r,⟨o,e,_,n,d⟩,_⟩:=I.tuple h;obtain ⟨its',r',⟨o',e',_,n',d'⟩,_⟩:=I.tuple h';rw[e] at e';cases e'
 rw[d] at d';injection d' with d1 _
 have:its=its':=by simpa using congrArg Array.toList d1
 subst this;exact r.inj r'
end
noncomputable abbrev Cx.wish (X:Cx) (E:Value->Shared->Prop):Cx:={X with xe:=E}
noncomputable abbrev Cx.nox (X:Cx):Cx:=X.wish fun _ _=>False
theorem Cx.Ok.wish {X:Cx} (ok:X.Ok) (E:Value->Shared->Prop):(X.wish E).Ok :=
 ⟨ok.mod,ok.kind,ok.glob,ok.blt,ok.above,ok.inj,ok.has,ok.cab,ok.hd,ok.frames,ok.stk,ok.exf,ok.bs,ok.bsz,ok.noex,ok.exfs,ok.funs,ok.frf⟩
theorem Cx.Ok.unwish {X:Cx} {E:Value->Shared->Prop} (ok:(X.wish E).Ok):X.Ok :=
 ⟨ok.mod,ok.kind,ok.glob,ok.blt,ok.above,ok.inj,ok.has,ok.cab,ok.hd,ok.frames,ok.stk,ok.exf,ok.bs,ok.bsz,ok.noex,ok.exfs,ok.funs,ok.frf⟩
section
variable {X:Cx} {pins:List (Addr × Obj)} {σ:St} {H:Hp} {s:Shared} {E:Value->Shared->Prop}
theorem Inv.wish (I:Inv X pins σ H s) (E:Value->Shared->Prop):Inv (X.wish E) pins σ H s:=⟨I.ok.wish E,I.os,I.bare,I.base,I.loc,I.cell,I.free,I.freeC,I.pin,I.hok,I.len,I.hnd⟩
theorem Inv.unwish (I:Inv (X.wish E) pins σ H s):Inv X pins σ H s:=⟨I.ok.unwish,I.os,I.bare,I.base,I.loc,I.cell,I.free,I.freeC,I.pin,I.hok,I.len,I.hnd⟩
theorem SP.unwish {D:Ends} {f:Flow} {s':Shared} (h:SP (X.wish E) pins D f s'):SP X pins D f s':=by
 cases f with
 | next=>obtain ⟨σ',H',I,q⟩:=h;exact ⟨σ',H',I.unwish,q⟩
 | brk=>obtain ⟨σ',H',I,q⟩:=h;exact ⟨σ',H',I.unwish,q⟩
 | cont=>obtain ⟨σ',H',I,q⟩:=h;exact ⟨σ',H',I.unwish,q⟩
 | ret u=>obtain ⟨v,σ',H',I,r,q⟩:=h;exact ⟨v,σ',H',I.unwish,r,q⟩
theorem PSs.nox {st:List Stmt} {t:TS} (h:PSs X.nox st t):PSs X st t:=fun pins s σ H D I hw =>
 xde (h pins s σ H D (I.wish _) hw) (fun _ _ q=>q.unwish) fun _ _ z=>False.elim z
end
section
variable {X:Cx} {st:Stmt} {rest:List Stmt} {t u:TS} {e:Expr} {te:TE} {pos:Pos}
noncomputable def tNext:TS:=fun D σ H=>D.nx σ H
noncomputable def tSeq (t u:TS):TS:=fun D σ H=>t {D with nx:=u D} σ H
theorem zxl:PSs X [] tNext:=fun _ _ σ H _ I h=>xhv ⟨σ,H,I,h⟩
theorem zjm (h1:PS X st t) (h2:PSs X rest u):PSs X (st::rest) (tSeq t u):=by
 intro pins s σ H D I h;refine wpAny_execs_cons (thn (h1 pins s σ H {D with nx:=u D} I h) fun f s1 q=>?_);cases f with
 | next =>
  obtain ⟨σ',H',I',q⟩:=q;exact h2 pins s1 σ' H' D I' q
 | ret v=>exact q
 | brk=>exact q
 | cont=>exact q
theorem znl (h1:PS X st t):PSs X [st] t:=by
 intro pins s σ H D I h;refine wpAny_execs_cons (thn (h1 pins s σ H D I h) fun f s1 q=>?_);cases f with
 | next=>exact xhv q
 | ret v=>exact q
 | brk=>exact q
 | cont=>exact q
theorem Inv.quiet {pins:List (Addr × Obj)} {σ:St} {H:Hp} {s:Shared} (I:Inv X pins σ H s):interactive X.env=false:=by simp[interactive,I.ok.kind]
noncomputable def tDrop (te:TE):TS:=fun D σ H=>te σ H fun _ H1=>D.nx σ H1
theorem zsq (he:PE X e te) (hs:swapsWith e none pos.line X.env=pure false:=by rfl):PS X (.Expr e pos) (tDrop te):=by
 intro pins s σ H D I h;exact wpAny_Expr_any (thn (he pins s σ H _ I h) fun v s1 ⟨x,H1,I1,r1,q1⟩=>⟨σ,H1,I1,q1⟩) I.quiet hs
noncomputable def tRet (te:TE):TS:=fun D σ H=>te σ H D.rt
theorem zxo (he:PE X e te):PS X (.Return (some e) pos) (tRet te):=by
 intro pins s σ H D I h;exact wpAny_Return_some (thn (he pins s σ H _ I h) fun v s1 ⟨x,H1,I1,r1,q1⟩=>⟨x,σ,H1,I1,r1,q1⟩)
noncomputable def tIfS (c:TT) (t u:TS):TS:=fun D σ H=>c σ H fun b H1=>if b=true then t D σ H1 else u D σ H1
theorem zbgp {c:Expr} {a b:List Stmt} {tc:TT} (hc:PT X c tc) (ha:PSs X a t) (hb:PSs X b u):PS X (.If c a b pos) (tIfS tc t u):=by
 intro pins s σ H D I h;refine wpAny_If (thn (hc pins s σ H _ I h) fun d s1 hq0=>?_);obtain ⟨H1,I1,q1⟩:=hq0;cases d with
 | true=>exact ha pins s1 σ H1 D I1 q1
 | false=>exact hb pins s1 σ H1 D I1 q1
end
noncomputable abbrev TG:=V->St->Hp->(St->Hp->Prop)->Prop
noncomputable abbrev TGs:=List V->St->Hp->(St->Hp->Prop)->Prop
noncomputable def PG (X:Cx) (target:Expr) (t:TG):Prop :=
 ∀(pins:List (Addr × Obj)) (s:Shared) (σ:St) (H:Hp) (v:V) (u:Value) (Q:St->Hp->Prop),Inv X pins σ H s->RelV v u->t v σ H Q ->
  wpAny (model X.prog X.w) X.A (assign target X.env u) (fun _ s'=>∃σ' H',Inv X pins σ' H' s'/\Q σ' H') X.xe s
noncomputable def PGs (X:Cx) (ts:List Expr) (t:TGs):Prop :=
 ∀(pins:List (Addr × Obj)) (s:Shared) (σ:St) (H:Hp) (vs:List V) (us:List Value) (Q:St->Hp->Prop),Inv X pins σ H s->Vals vs us->t vs σ H Q ->
  wpAny (model X.prog X.w) X.A (assignInOrder ((assignEach ts X.env).map (·.2)) us) (fun _ s'=>∃σ' H',Inv X pins σ' H' s'/\Q σ' H') X.xe s
noncomputable abbrev TSet:=V->V->V->Hp->(Hp->Prop)->Prop
noncomputable def PSet (X:Cx) (t:TSet):Prop :=
 ∀(pins:List (Addr × Obj)) (s:Shared) (σ:St) (H:Hp) (o i v:V) (ov iv u:Value) (Q:Hp->Prop),Inv X pins σ H s->RelV o ov->RelV i iv->RelV v u->t o i v H Q ->
  wpAny (model X.prog X.w) X.A (setItem ov iv u) (fun _ s'=>∃H',Inv X pins σ H' s'/\Q H') X.xe s
noncomputable abbrev TIp:=V->V->Hp->VK->Prop
noncomputable def PIp (X:Cx) (op:Operator) (t:TIp):Prop :=
 ∀(pins:List (Addr × Obj)) (s:Shared) (σ:St) (H:Hp) (x y:V) (v u:Value) (Q:VK),Inv X pins σ H s->RelV x v->RelV y u->t x y H Q ->
  wpAny (model X.prog X.w) X.A (inplaceOp op v u) (EP X pins σ Q) X.xe s
section
variable {X:Cx} {pos:Pos}
noncomputable def gName (i:Nat):TG:=fun v σ H Q=>Q (σ.set i (some v)) H
theorem zxz {i:Nat} {x:Str} (hN:X.N.Nodup) (hi:X.N[i]?=some x) (hx:Loc X.env.scope x) (hf:X.fn x=true\/X.env.scope.names.lookup x=some .local:=by first | exact .inl rfl | exact .inr rfl | assumption):PG X (.Name x pos) (gName i):=by
 intro pins s σ H v u Q I r h;exact wpAny_assign_Name (zhe I hN hi hx r (fun s' I'=>⟨_,H,I',h⟩) hf)
noncomputable def gNil:TGs:=fun vs σ H Q=>vs=[]/\Q σ H
noncomputable def gCons (t:TG) (u:TGs):TGs:=fun vs σ H Q=>∃v r,vs=v::r/\t v σ H fun σ' H'=>u r σ' H' Q
theorem zxy:PGs X [] gNil:=by
 intro pins s σ H vs us Q I r h;obtain ⟨e,h⟩:=h;subst e;cases r;exact assignInOrder_nil ⟨σ,H,I,h⟩
theorem zug {e:Expr} {es:List Expr} {t:TG} {u:TGs} (h1:PG X e t) (h2:PGs X es u)
  (hs:(assignEach (e::es) X.env).map (·.2)=assign e X.env::(assignEach es X.env).map (·.2):=by rfl):PGs X (e::es) (gCons t u):=by
 intro pins s σ H vs us Q I r h;obtain ⟨v,vr,e1,h⟩:=h;subst e1;cases r with
 | cons r rr =>
  rw[hs];refine assignInOrder_cons (thn (h1 pins s σ H _ _ _ I r h) fun _ s1 hq0=>?_);obtain ⟨σ1,H1,I1,q1⟩:=hq0;exact h2 pins s1 σ1 H1 _ _ Q I1 rr q1
noncomputable def gTup (K:Fg) (n:Nat) (t:TGs):TG:=fun v σ H Q=>∃a xs,v=.ref a/\SqT K H a xs/\xs.length=n/\t xs σ H Q
theorem zbcr {es:List Expr} {k:Nat} {t:TGs} {n:Nat} (hc:X.calm=true) (h:PGs X es t)
  (hn:(assignEach es X.env).length=n:=by rfl) (hst:(assignEach es X.env).findIdx? (·.1)=none:=by rfl):PG X (.Tuple es k pos) (gTup X.K n t):=by
 intro pins s σ H v u Q I r hw;obtain ⟨a,xs,e1,hq,hl,hw⟩:=hw;subst e1;cases r;obtain ⟨its,rv,ht,hz⟩:=I.tuple hq;refine assign_Tuple_tuple (I.ok.hd hc) ht (by simp[hn,← hl,rv.length]) hst fun h' hx=>?_
 have I1:Inv X pins σ H {s with heap:=h'}:=I.kept (t':=s.toks) fun b o e=>hx b o (xce (xbk e)) e
 exact h pins _ σ H xs _ Q I1 (by simpa using rv) hw
noncomputable def gSub (to ti:TE) (t:TSet):TG:=fun v σ H Q=>to σ H fun o H1=>ti σ H1 fun i H2=>t o i v H2 fun H3=>Q σ H3
theorem zbcs {o i:Expr} {to ti:TE} {t:TSet} (ho:PE X o to) (hi:PE X i ti) (hs:PSet X t)
  (ha:∀v,assign (.Subscript o i pos) X.env v=(do
   let ov ← holding [v] (eval o X.env)
   let iv ← holding [v,ov] (eval i X.env)
   standAt pos
   holding [v,ov,iv] (setItem ov iv v)
   release [v,ov,iv] []):=by intro _;rfl):PG X (.Subscript o i pos) (gSub to ti t):=by
 intro pins s σ H v u Q I r h;rw[ha];refine xba (xdt (thn (ho pins s σ H _ I h) fun ov s1 hq0=>?_));obtain ⟨x,H1,I1,r1,q1⟩:=hq0;refine xba (xdt (thn (hi pins s1 σ H1 _ I1 q1) fun iv s2 hq0=>?_));obtain ⟨y,H2,I2,r2,q2⟩:=hq0;refine xba (wpAny_standAt (xba (xdt (thn (hs pins s2 σ H2 x y v ov iv u _ I2 r1 r2 r q2) fun _ s3 hq0=>?_))));obtain ⟨H3,I3,q3⟩:=hq0;exact wpAny_release ⟨σ,H3,I3,q3⟩
noncomputable def tAsg (te:TE) (g:TG):TS:=fun D σ H=>te σ H fun x H1=>g x σ H1 D.nx
theorem zbcp {tg e:Expr} {te:TE} {g:TG} (he:PE X e te) (hg:PG X tg g) (hs:swapsWithSole [tg] e pos.line X.env=pure false:=by rfl) (hw:swappedStores [tg] e X.env=pure none:=by rfl)
  (h1:(assignEach [tg] X.env).map (·.2)=[assign tg X.env]:=by rfl):PS X (.Assign [tg] e pos) (tAsg te g):=by
 intro pins s σ H D I h;refine wpAny_Assign_stores (thn (he pins s σ H _ I h) fun v s1 hq0=>?_) hs hw;obtain ⟨x,H1,I1,r1,q1⟩:=hq0;rw[h1];exact thn (hg pins s1 σ H1 x v _ I1 r1 q1) fun _ s2 q=>q
theorem zxn {i:Nat} {x:Str} {e:Expr} {te:TE} {pos':Pos} (hN:X.N.Nodup) (hi:X.N[i]?=some x) (hx:Loc X.env.scope x) (he:PE X e te) (hs:swapsWith e (some (.Name x pos')) pos.line X.env=pure false:=by rfl) (hf:X.fn x=true\/X.env.scope.names.lookup x=some .local:=by first | exact .inl rfl | exact .inr rfl | assumption) :
  PS X (.Assign [.Name x pos'] e pos) (tAsg te (gName i)):=by
 intro pins s σ H D I h;refine wpAny_Assign_Name (thn (he pins s σ H _ I h) fun v s1 hq0=>?_) hs;obtain ⟨y,H1,I1,r1,q1⟩:=hq0;exact zhe I1 hN hi hx r1 (fun s2 I2=>⟨_,H1,I2,q1⟩) hf
noncomputable def tAug (i:Nat) (te:TE) (ti:TIp):TS:=fun D σ H=>∃x,σ[i]?=some (some x)/\te σ H fun y H1=>ti x y H1 fun z H2=>D.nx (σ.set i (some z)) H2
theorem zbco {i:Nat} {x:Str} {e:Expr} {te:TE} {op:Operator} {ti:TIp} {pos':Pos} (hN:X.N.Nodup) (hi:X.N[i]?=some x) (hx:Loc X.env.scope x) (he:PE X e te) (ho:PIp X op ti) (hf:X.fn x=true\/X.env.scope.names.lookup x=some .local:=by first | exact .inl rfl | exact .inr rfl | assumption) :
  PS X (.AugAssign (.Name x pos') op e pos) (tAug i te ti):=by
 intro pins s σ H D I h;obtain ⟨v,e1,h⟩:=h;obtain ⟨m,hn,hl⟩:=I.loc;have vis:Vis X.env.scope x:=by rcases hx with k | k;exact .inl k;exact .inr (.inl k)
 obtain ⟨u,r,l⟩:=hl i x v hi e1 vis;refine wpAny_AugAssign_Name ?_;have go:wpAny (model X.prog X.w) X.A (eval e X.env) (fun w s₂=>wpAny (model X.prog X.w) X.A (inplaceOp op u w) (fun r s₃=>wpAny (model X.prog X.w) X.A (storeName X.env x r) (fun _=>SP X pins D .next) X.xe s₃) X.xe s₂) X.xe s:=by
  refine thn (he pins s σ H _ I h) fun w s1 hq0=>?_
  obtain ⟨y,H1,I1,r1,q1⟩:=hq0;refine thn (ho pins s1 σ H1 v y u w _ I1 r r1 q1) fun z s2 hq0=>?_
  obtain ⟨zv,H2,I2,r2,q2⟩:=hq0;exact zhe I2 hN hi hx r2 (fun s3 I3=>⟨_,H2,I3,q2⟩) hf
 rcases l with ⟨hk,hm⟩ | ⟨hk,c,hc,hcell⟩
 ·exact wpAny_loadName_local I.ok.kind hk hn hm go
 ·rcases hk with hk | hk
  ·exact wpAny_loadName_cell I.ok.kind hk hc hcell go
  ·rcases hx with k | k
   ·have:X.env.scope.names.lookup x=some .free:=hk;rw[k] at this;cases this
   ·have:X.env.scope.names.lookup x=some .free:=hk;rw[k] at this;cases this
noncomputable def ipI (f:Int->Int->Int):TIp:=fun x y H Q=>∃i j,x=.int i/\y=.int j/\Q (.int (f i j)) H
theorem zbdy:PIp X .Sub (ipI fun i j=>i - j):=by
 intro pins s σ H x y v u Q I r1 r2 h;obtain ⟨i,j,e1,e2,q⟩:=h;subst e1;subst e2
 obtain ⟨t,rfl⟩:=r1;obtain ⟨t',rfl⟩:=r2;exact isub_int ⟨.int _,H,I.tok _,⟨_,rfl⟩,q⟩
noncomputable def tWhile (c:TT) (tb:TS):TS:=fun D σ H=>∃W:Nat->St->Hp->Prop,(∃m,W m σ H)/\∀m σ H,W m σ H ->
 c σ H fun b H1=>if b=true then ∃N:St->Hp->Prop,(∀σ' H',N σ' H'->∃m',m' < m/\W m' σ' H')/\tb {D with nx:=N,ct:=N,bk:=D.nx} σ H1 else D.nx σ H1
theorem zub {c:Expr} {body:List Stmt} {tc:TT} {tb:TS} (hp:PassesOwn (model X.prog X.w) X.A X.env X.xe) (hc:PT X c tc) (hb:PSs X body tb):PS X (.While c body [] pos) (tWhile tc tb):=by
 intro pins s σ H D I h;obtain ⟨W,⟨m0,w0⟩,turn⟩:=h;refine wpAny_While (codeAny_whileLoop (fun n s'=>∃σ' H',Inv X pins σ' H' s'/\W n σ' H') ?_ m0 ⟨σ,H,I,w0⟩);rintro n s1 ⟨σ1,H1,I1,w1⟩;refine xfv hp (thn (hc pins s1 σ1 H1 _ I1 (turn n σ1 H1 w1)) fun b s2 hq0=>?_);obtain ⟨H2,I2,q2⟩:=hq0;cases b with
 | true =>
  obtain ⟨N,hN,q2⟩:=q2;rw[if_pos rfl];refine xfv hp (thn (hb pins s2 σ1 H2 _ I2 q2) fun f s3 q3=>?_);cases f with
  | next =>
   obtain ⟨σ3,H3,I3,n3⟩:=q3;obtain ⟨m',hm,w3⟩:=hN σ3 H3 n3;exact ⟨m',hm,σ3,H3,I3,w3⟩
  | cont =>
   obtain ⟨σ3,H3,I3,n3⟩:=q3;obtain ⟨m',hm,w3⟩:=hN σ3 H3 n3;exact ⟨m',hm,σ3,H3,I3,w3⟩
  | brk=>exact q3
  | ret v=>exact q3
 | false =>
  rw[if_neg xez];exact xhv ⟨σ1,H2,I2,q2⟩
end
structure It where
 go:Nat->Hp->Prop
 yld:Nat->Hp->V->Hp->Prop
 stop:Nat->Hp->Prop
noncomputable def FpOk (X:Cx) (pins:List (Addr × Obj)) (H:Hp) (b:Addr):Prop :=
 H b=none/\b≠X.env.locals/\b∉X.fs/\(b∈X.ex\/X.s₀.heap.objs.size<=b)/\(∀x c,X.env.cells.lookup x=some c->c≠b)/\∀p∈X.pn++pins,p.1≠b
theorem Inv.fpOk {X:Cx} {pins:List (Addr × Obj)} {σ:St} {H H':Hp} {s:Shared} {b:Addr} (I:Inv X pins σ H s) (hb:s.heap.objs.size<=b) (hn:H' b=none):FpOk X pins H' b:=by
 refine ⟨hn,xjd (xbd I.lt hb),I.nofs hb,.inr (xbb I.sz hb),fun x c e z=>?_,fun p hp z=>?_⟩
 ·obtain ⟨v,q⟩:=I.cell x c e;exact absurd (xbd q.lt (by rw[z];exact hb)) (xfw _)
 ·exact absurd (xbd (xbk (I.pin p hp).1) (by rw[z];exact hb)) (xfw _)
structure Turn (P:Program) (w:World) (K:Fg) (tg:Expr) (J:It) (fp:List Addr) (it:Addr) (tn:Nat->Heap->Prop):Prop where
 mem:it∈fp
 obj:∀i h,tn i h->∀b∈fp,∃o,h.get? b=some o/\∀v,o.data≠.cell v
 keep:∀i h h',tn i h->(∀b∈fp,∀o,h.get? b=some o->h'.get? b=some o)->tn i h'
 item:∀(X:Cx),X.prog=P->X.w=w->X.K=K->X.calm=true->∀(i:Nat) (pins:List (Addr × Obj)) (s:Shared) (σ:St) (H:Hp) (E:Value->Shared->Prop),Inv X pins σ H s->(∀b∈fp,FpOk X pins H b)->tn i s.heap->J.go i H ->
  wpAny (model P w) X.A (pyNext (.ref it)) (fun r s1=>∃u,r=some u /\
   wpAny (model P w) X.A (letOwnedTupleGo tg (.ref it) u) (fun _ s2=>∃x H',Inv X pins σ H' s2/\RelV x u/\J.yld i H x H'/\tn (i+1) s2.heap/\∀b∈fp,H' b=none) E s1) E s
 done:∀(X:Cx),X.prog=P->X.w=w->X.K=K->X.calm=true->∀(i:Nat) (pins:List (Addr × Obj)) (s:Shared) (σ:St) (H:Hp) (E:Value->Shared->Prop),Inv X pins σ H s->(∀b∈fp,FpOk X pins H b)->tn i s.heap->J.stop i H ->
  wpAny (model P w) X.A (pyNext (.ref it)) (fun r s1=>r=none/\Inv X pins σ H s1) E s
 self:∀(A:Around) (i:Nat) (s:Shared) (Q:Value->Shared->Prop) (E:Value->Shared->Prop),tn i s.heap->Q (.ref it) s->wpAny (model P w) A (pyIter (.ref it)) Q E s
noncomputable abbrev TI:=St->Hp->(It->Hp->Prop)->Prop
noncomputable def PIE (X:Cx) (pins:List (Addr × Obj)) (σ:St) (tg:Expr) (R:It->Hp->Prop) (itv:Value) (s2:Shared):Prop :=
 ∃(it:Addr) (fp:List Addr) (tn:Nat->Heap->Prop) (J:It) (H':Hp),itv=.ref it/\Inv X pins σ H' s2/\Turn X.prog X.w X.K tg J fp it tn/\tn 0 s2.heap/\(∀b∈fp,FpOk X pins H' b)/\R J H'
noncomputable def PI (X:Cx) (tg iter:Expr) (wi:TI):Prop :=
 ∀(pins:List (Addr × Obj)) (s:Shared) (σ:St) (H:Hp) (R:It->Hp->Prop),Inv X pins σ H s->wi σ H R ->
  wpAny (model X.prog X.w) X.A (eval iter X.env) (fun v s1=>wpAny (model X.prog X.w) X.A (pyIter v) (PIE X pins σ tg R) X.xe s1) X.xe s
theorem zbbm {M : Model} {A : Around} {E : Value -> Shared -> Prop} {s : Shared} {tg : Expr} {it : Addr} {u : Value} {o : Obj} {n : String} {vs : Array Value} {Q : Unit -> Shared -> Prop} (ho : s.heap.get? it = some o) (hc : o.cls = .type n) (hd : o.data = .fields vs)
    (hn : ["enumerate", "zip", "dict_itemiterator", "dict_reverseitemiterator", "odict_iterator", "itertools.zip_longest", "itertools.pairwise"].contains n = false) (hQ : Q () s) : wpAny M A (letOwnedTupleGo tg (.ref it) u) Q E s := by
  unfold letOwnedTupleGo;cases tg <;> first
    | exact xbh hQ
    | (cases u <;> first
        | exact xbh hQ
        | (refine xba (wpAny_load ho ?_)
           rw [hc, hd];show wpAny M A (if (["enumerate", "zip", "dict_itemiterator", "dict_reverseitemiterator", "odict_iterator", "itertools.zip_longest", "itertools.pairwise"].contains n && vs[0]? == some (rawInt _)) = true then _ else _) Q E s
           rw [if_neg (by intro h; rw [hn, Bool.false_and] at h; cases h)]
           exact xbh hQ))
noncomputable def Itl (K:Fg) (a:Addr):It :=
 ⟨fun i H=>∃xs x,SqL K H a xs/\xs[i]?=some x,fun i H x H'=>H'=H/\∀xs,SqL K H a xs->xs[i]?=some x,fun i H=>∃xs,SqL K H a xs/\xs.length<=i⟩
noncomputable def Itt (K:Fg) (a:Addr):It :=
 ⟨fun i H=>∃xs x,SqT K H a xs/\xs[i]?=some x,fun i H x H'=>H'=H/\∀xs,SqT K H a xs->xs[i]?=some x,fun i H=>∃xs,SqT K H a xs/\xs.length<=i⟩
noncomputable def Itr (lo:Int) (n:Nat):It:=⟨fun i _=>i < n,fun i H x H'=>H'=H/\x=.int (lo+i),fun i _=>n<=i⟩
theorem zqb {P:Program} {w:World} {K:Fg} {tg:Expr} (a it:Addr):Turn P w K tg (Itl K a) [it] it (fun i h=>h.IsListIter it a i) where
 mem:=by simp
 obj:=fun i h st b hb=>by
  have e:b=it:=by simpa using hb
  subst e;obtain ⟨o,e,c,d⟩:=st;exact ⟨o,e,fun v z=>by rw[d] at z;cases z⟩
 keep:=fun i h h' st k=>st.at fun o e=>k it (by simp) o e
 item:=by
  intro X hP hw hK hc i pins s σ H E I hf st hg;subst hP hw hK;obtain ⟨xs,x,hq,hx⟩:=hg;obtain ⟨its,rv,p,hz⟩:=I.list hq;obtain ⟨u,hu,ru⟩:=rv.get hx;obtain ⟨f0,f1,f2,f3,f4,f5⟩:=hf it (by simp);refine wpAny_pyNext_list_item st p.isList (x:=u) (by simpa using hu) fun h' st' sb=>?_
  have I1:Inv X pins σ H {s with heap:=h'}:=I.turned (t':=s.toks) (fun b o hb e=>(sb.2 b hb).trans e) f0 f1 f3 f4 f5;obtain ⟨o,e,c,d⟩:=id st';exact ⟨u,rfl,zbbm (s:={s with heap:=h'}) e c d (by decide) ⟨x,H,I1,ru,⟨rfl,fun ys hy=>by rw[I.list_inj hy hq];exact hx⟩,st',fun b hb=>(hf b hb).1⟩⟩
 done:=by
  intro X hP hw hK hc i pins s σ H E I hf st hg;subst hP hw hK;obtain ⟨xs,hq,hx⟩:=hg;obtain ⟨its,rv,p,hz⟩:=I.list hq;obtain ⟨f0,f1,f2,f3,f4,f5⟩:=hf it (by simp);have hl:=rv.length;exact wpAny_pyNext_list_end (I.ok.hd hc) st p.isList (by simp;lia) fun h' eb=>⟨rfl,I.turned (t':=s.toks) (fun b o hb e=>eb b o hb e) f0 f1 f3 f4 f5⟩
 self:=fun _ _ _ _ _ st h=>wpAny_pyIter_listiter st h
theorem zmy {P:Program} {w:World} {K:Fg} {tg:Expr} (a it:Addr):Turn P w K tg (Itt K a) [it] it (fun i h=>h.IsTupleIter it a i) where
 mem:=by simp
 obj:=fun i h st b hb=>by
  have e:b=it:=by simpa using hb
  subst e;obtain ⟨o,e,c,d⟩:=st;exact ⟨o,e,fun v z=>by rw[d] at z;cases z⟩
 keep:=fun i h h' st k=>st.at fun o e=>k it (by simp) o e
 item:=by
  intro X hP hw hK hc i pins s σ H E I hf st hg;subst hP hw hK;obtain ⟨xs,x,hq,hx⟩:=hg;obtain ⟨its,rv,p,hz⟩:=I.tuple hq;obtain ⟨u,hu,ru⟩:=rv.get hx;obtain ⟨f0,f1,f2,f3,f4,f5⟩:=hf it (by simp);refine wpAny_pyNext_tuple_item st (show s.heap.IsTuple a its.toArray from p) (x:=u) (by simpa using hu) fun h' st' sb=>?_
  have I1:Inv X pins σ H {s with heap:=h'}:=I.turned (t':=s.toks) (fun b o hb e=>(sb.2 b hb).trans e) f0 f1 f3 f4 f5;obtain ⟨o,e,c,d⟩:=id st';exact ⟨u,rfl,zbbm (s:={s with heap:=h'}) e c d (by decide) ⟨x,H,I1,ru,⟨rfl,fun ys hy=>by rw[I.tuple_inj hy hq];exact hx⟩,st',fun b hb=>(hf b hb).1⟩⟩
 done:=by
  intro X hP hw hK hc i pins s σ H E I hf st hg;subst hP hw hK;obtain ⟨xs,hq,hx⟩:=hg;obtain ⟨its,rv,p,hz⟩:=I.tuple hq;obtain ⟨f0,f1,f2,f3,f4,f5⟩:=hf it (by simp);have hl:=rv.length;exact wpAny_pyNext_tuple_end (I.ok.hd hc) st (show s.heap.IsTuple a its.toArray from p) (by simp;lia) fun h' eb=>⟨rfl,I.turned (t':=s.toks) (fun b o hb e=>eb b o hb e) f0 f1 f3 f4 f5⟩
 self:=fun _ _ _ _ _ st h=>wpAny_pyIter_tupleiter st h
theorem zmz {P:Program} {w:World} {K:Fg} {tg:Expr} (it:Addr) (lo:Int) (n:Nat):Turn P w K tg (Itr lo n) [it] it (fun i h=>IsRangeIter h it (lo+(i:Nat) * 1) ((n:Int) - (i:Nat)) 1) where
 mem:=by simp
 obj:=fun i h st b hb=>by
  have e:b=it:=by simpa using hb
  subst e
  exact ⟨_,st,fun v z=>by
   have z':Data.fields _=Data.cell v:=z
   cases z'⟩
 keep:=fun i h h' st k=>k it (by simp) _ st
 item:=by
  intro X hP hw hK hc i pins s σ H E I hf st hg;subst hP hw hK;obtain ⟨f0,f1,f2,f3,f4,f5⟩:=hf it (by simp);have W:=Walks.range (prog:=X.prog) (w:=X.w) (I.ok.hd hc) it lo 1 n;refine W.item i s _ _ hg st fun v h' tk hv st' kk=>?_
  obtain ⟨t,rfl⟩:=hv;have I1:Inv X pins σ H {s with heap:=h',toks:=tk}:=I.turned (fun b o hb e=>kk b o (by simpa using hb) e) f0 f1 f3 f4 f5;refine ⟨_, rfl, zbbm (s := { s with heap := h', toks := tk }) (n := "range_iterator") st' rfl rfl (by decide) ⟨.int (lo + i), H, I1, ⟨t, ?_⟩, ⟨rfl, rfl⟩, st', fun b hb => (hf b hb).1⟩⟩
  rw[Int.mul_one]
 done:=by
  intro X hP hw hK hc i pins s σ H E I hf st hg;subst hP hw hK;obtain ⟨f0,f1,f2,f3,f4,f5⟩:=hf it (by simp);exact wpAny_pyNext_range_end (I.ok.hd hc) st (by have:n<=i:=hg;lia) fun h' eb=>⟨rfl,I.turned (t':=s.toks) (fun b o hb e=>eb b o hb e) f0 f1 f3 f4 f5⟩
 self:=fun _ _ _ _ _ st h=>wpAny_pyIter_rangeiter st h
section
variable {X:Cx} {tg:Expr}
noncomputable def iList (K:Fg) (tl:TE):TI:=fun σ H R=>tl σ H fun x H1=>∃a,x=.ref a/\(∃xs,SqL K H1 a xs)/\R (Itl K a) H1
noncomputable def iTup (K:Fg) (tl:TE):TI:=fun σ H R=>tl σ H fun x H1=>∃a,x=.ref a/\(∃xs,SqT K H1 a xs)/\R (Itt K a) H1
theorem zxv {l:Expr} {tl:TE} (hl:PE X l tl):PI X tg l (iList X.K tl):=by
 intro pins s σ H R I h;refine thn (hl pins s σ H _ I h) fun v s1 hq0=>?_
 obtain ⟨x,H1,I1,r1,q1⟩:=hq0;obtain ⟨a,e,⟨xs,hq⟩,q⟩:=q1;subst e;cases r1;obtain ⟨its,rv,p,hz⟩:=I1.list hq;refine wpAny_pyIter_list p.isList ?_;refine ⟨s1.heap.objs.size,[s1.heap.objs.size],_,_,H1,rfl,I1.kept (t':=s1.toks) fun b o e=>xbg _ e,zqb a _,⟨_,xcb _ rfl,rfl,rfl⟩,fun b hb=>?_,q⟩;have e:b=s1.heap.objs.size:=by simpa using hb
 subst e;exact I1.fpOk (xbe _) (I1.hok.fresh (xbe _))
theorem zbcq {l:Expr} {tl:TE} (hl:PE X l tl):PI X tg l (iTup X.K tl):=by
 intro pins s σ H R I h;refine thn (hl pins s σ H _ I h) fun v s1 hq0=>?_
 obtain ⟨x,H1,I1,r1,q1⟩:=hq0;obtain ⟨a,e,⟨xs,hq⟩,q⟩:=q1;subst e;cases r1;obtain ⟨its,rv,p,hz⟩:=I1.tuple hq;refine wpAny_pyIter_tuple (show s1.heap.IsTuple a its.toArray from p) ?_;refine ⟨s1.heap.objs.size,[s1.heap.objs.size],_,_,H1,rfl,I1.kept (t':=s1.toks) fun b o e=>xbg _ e,zmy a _,⟨_,xcb _ rfl,rfl,rfl⟩,fun b hb=>?_,q⟩;have e:b=s1.heap.objs.size:=by simpa using hb
 subst e;exact I1.fpOk (xbe _) (I1.hok.fresh (xbe _))
theorem zni {pins:List (Addr × Obj)} {σ:St} {H:Hp} {s:Shared} {R:It->Hp->Prop} {E:Value->Shared->Prop} {lo hi:Int} {t u v:Tok} {tk:Nat} (I:Inv X pins σ H s) (h1:-(2 ^ 62)<=lo) (h2:lo < 2 ^ 62) (h3:-(2 ^ 62)<=hi) (h4:hi < 2 ^ 62)
  (q : R (Itr lo (hi - lo).toNat) H) : wpAny (model X.prog X.w) X.A (pyIter (.ref s.heap.objs.size)) (PIE X pins σ tg R) E { s with heap := s.heap.push { cls := .type "range", data := .fields #[.int lo t, .int hi u, .int 1 v] }, toks := tk } := by
 refine wpAny_pyIter_range (IsRange.new ..) (small_one h1 h2 h3 h4) ?_;have I1 : Inv X pins σ H { s with heap := s.heap.push { cls := .type "range", data := .fields #[.int lo t, .int hi u, .int 1 v] }, toks := tk } := I.kept fun b o e => xbg _ e
 refine ⟨(s.heap.push { cls := .type "range", data := .fields #[.int lo t, .int hi u, .int 1 v] }).objs.size, [(s.heap.push { cls := .type "range", data := .fields #[.int lo t, .int hi u, .int 1 v] }).objs.size], _, _, H, rfl,
  I1.kept (t':=tk) fun b o e=>xbg _ e,zmz _ lo (hi - lo).toNat,?_,fun b hb=>?_,q⟩
 ·have e1:lo+((0:Nat):Int) * 1=lo:=by simp
  have e2:(((hi - lo).toNat:Nat):Int) - ((0:Nat):Int)=Builtin.Range.rangeSize lo hi 1:=by rw[rangeSize_one];split<;>lia
  show IsRangeIter _ _ (lo+((0:Nat):Int) * 1) ((((hi - lo).toNat:Nat):Int) - ((0:Nat):Int)) 1;rw[e1,e2];exact xcb _ rfl
 ·have e : b = (s.heap.push { cls := .type "range", data := .fields #[.int lo t, .int hi u, .int 1 v] }).objs.size := by simpa using hb
  subst e;exact I1.fpOk (xbe _) (I1.hok.fresh (xbe _))
noncomputable def iRng1 (ta:TA):TI:=fun σ H R=>ta σ H fun vs H1=>∃j:Int,vs=[.int j]/\-(2 ^ 62)<=j/\j < 2 ^ 62/\R (Itr 0 j.toNat) H1
noncomputable def iRng2 (ta:TA):TI:=fun σ H R=>ta σ H fun vs H1=>∃i j:Int,vs=[.int i,.int j]/\(-(2 ^ 62)<=i/\i < 2 ^ 62/\-(2 ^ 62)<=j/\j < 2 ^ 62)/\R (Itr i (j - i).toNat) H1
theorem zqp {a : Expr} {ta : TA} {p pos : Pos} (hg : Gl X "range") (hm : X.mg "range" = none) (ha : PA X [a] ta) (hs : starEach [a] X.env = [(false, eval a X.env)] := by rfl) : PI X tg (.Call (.Name "range" p) [a] [] pos) (iRng1 ta) := by
 intro pins s σ H R I h;refine Call_ (zmk I hg hm boot_range (xhe (thn (ha pos pins s σ H _ I h) fun us s1 hq0=>?_) hs rfl));obtain ⟨vs,H1,I1,r1,q1⟩:=hq0;obtain ⟨j,e,q1,q2,q⟩:=q1;subst e;cases r1 with
 | cons r rr =>
  cases rr;obtain ⟨t,rfl⟩:=r;exact call_range_1 (zni I1 (by lia) (by lia) q1 q2 (by simpa using q))
theorem zqo {a b : Expr} {ta : TA} {p pos : Pos} (hg : Gl X "range") (hm : X.mg "range" = none) (ha : PA X [a, b] ta) (hs : starEach [a, b] X.env = [(false, eval a X.env), (false, eval b X.env)] := by rfl) (hs2 : starEach [b] X.env = [(false, eval b X.env)] := by rfl) :
  PI X tg (.Call (.Name "range" p) [a, b] [] pos) (iRng2 ta) := by
 intro pins s σ H R I h;refine Call_ (zmk I hg hm boot_range (xhe (thn (ha pos pins s σ H _ I h) fun us s1 ⟨vs,H1,I1,r1,q1⟩=>?_) (by rw[hs,hs2]) (by rw[hs2];rfl)));obtain ⟨i,j,e,⟨q1,q2,q3,q4⟩,q⟩:=q1;subst e;cases r1 with
 | cons r rr =>
  cases rr with
  | cons r' rr =>
   cases rr;obtain ⟨t,rfl⟩:=r;obtain ⟨t',rfl⟩:=r';exact call_range_2 (zni I1 q1 q2 q3 q4 q)
noncomputable def tFor (wi:TI) (g:TG) (tb:TS):TS:=fun D σ H=>wi σ H fun J H1=>∃W:Nat->Nat->St->Hp->Prop,(∃m,W 0 m σ H1)/\∀i m σ H,W i m σ H ->
 (J.stop i H/\D.nx σ H)\/(J.go i H/\∃N:St->Hp->Prop,(∀σ' H',N σ' H'->∃m',m' < m/\W (i+1) m' σ' H')/\∀x H',J.yld i H x H'->g x σ H' fun σ2 H2=>tb {D with nx:=N,ct:=N,bk:=D.nx} σ2 H2)
noncomputable def pinsAt (fp:List Addr) (h:Heap):List (Addr × Obj):=fp.filterMap fun b=>(h.get? b).map fun o=>(b,o)
theorem zdu {fp:List Addr} {h:Heap} {b:Addr} {o:Obj} (hb:b∈fp) (e:h.get? b=some o):(b,o)∈pinsAt fp h:=List.mem_filterMap.mpr ⟨b,hb,by rw[e];rfl⟩
theorem zqs {fp:List Addr} {h:Heap} {p:Addr × Obj} (hp:p∈pinsAt fp h):p.1∈fp/\h.get? p.1=some p.2:=by
 obtain ⟨b,hb,e⟩:=List.mem_filterMap.mp hp;cases q:h.get? b with
 | none=>rw[q] at e;cases e
 | some o =>
  rw[q] at e;have e':(b,o)=p:=xbw e;subst e';exact ⟨hb,q⟩
theorem Inv.pinned {pins:List (Addr × Obj)} {σ:St} {H:Hp} {s:Shared} {fp:List Addr} (I:Inv X pins σ H s) (hf:∀b∈fp,FpOk X pins H b) (ho:∀b∈fp,∃o,s.heap.get? b=some o/\∀v,o.data≠.cell v):Inv X (pins++pinsAt fp s.heap) σ H s :=
 I.pins_of fun p hp=>(xbz.mp hp).elim (fun z=>I.pin p (xcu _ z)) fun z=>by
  obtain ⟨hb,e⟩:=zqs z;obtain ⟨f0,f1,f2,_⟩:=hf p.1 hb;obtain ⟨o,e',d⟩:=ho p.1 hb;rw[e] at e';cases e'
  exact ⟨e,f0,f1,f2,d⟩
theorem Inv.unpinned {pins pl:List (Addr × Obj)} {σ:St} {H:Hp} {s:Shared} (I:Inv X (pins++pl) σ H s):Inv X pins σ H s:=I.pins_of fun p hp=>I.pin p (xcu _ (xga _ hp))
theorem zbcn {iter:Expr} {body:List Stmt} {wi:TI} {g:TG} {tb:TS} {pos:Pos} (hp:PassesOwn (model X.prog X.w) X.A X.env X.xe) (hc:X.calm=true) (hi:PI X tg iter wi) (hg:PG X tg g) (hb:PSs X body tb)
  (hs:∀x,foldedSetIterable iter X.env x=pure x:=by intro _;rfl):PS X (.For tg iter body [] pos) (tFor wi g tb):=by
 intro pins s σ H D I h;refine wpAny_For (thn (hi pins s σ H _ I h) fun v s1 h1=>thn h1 fun itv s2 h2=>?_) hs;obtain ⟨it,fp,tn,J,H2,e,I2,T,st2,f2,W,⟨m0,w0⟩,turn⟩:=h2;subst e;have stat:∀{H':Hp},(∀b∈fp,H' b=none)->∀b∈fp,FpOk X pins H' b:=fun hn b hb=>⟨hn b hb,(f2 b hb).2⟩
 refine codeAny_forLoop_any (fun n s'=>∃i σ' H',Inv X pins σ' H' s'/\tn i s'.heap/\(∀b∈fp,H' b=none)/\W i n σ' H') ?_ m0 ⟨0,σ,H2,I2,st2,fun b hb=>(f2 b hb).1,w0⟩;rintro n s3 ⟨i,σ3,H3,I3,st3,fr3,w3⟩;rcases turn i n σ3 H3 w3 with ⟨stop,qn⟩ | ⟨go,N,hN,step⟩
 ·refine xfv hp (thn (T.done X rfl rfl rfl hc i pins s3 σ3 H3 X.xe I3 (stat fr3) st3 stop) fun r s4 hq0=>?_);obtain ⟨hr,I4⟩:=hq0;subst hr;exact xhv ⟨σ3,H3,I4,qn⟩
 ·refine xfv hp (thn (T.item X rfl rfl rfl hc i pins s3 σ3 H3 X.xe I3 (stat fr3) st3 go) fun r s4 hq0=>?_);obtain ⟨u,hr,h4⟩:=hq0;subst hr;refine xfv hp (thn h4 fun _ s5 hq0=>?_);obtain ⟨x,H5,I5,r5,y5,st5,fr5⟩:=hq0;have I5':=I5.pinned (stat fr5) (T.obj _ _ st5);refine xfv hp (thn (hg _ s5 σ3 H5 x u _ I5' r5 (step x H5 y5)) fun _ s6 hq0=>?_);obtain ⟨σ6,H6,I6,q6⟩:=hq0;refine xfv hp (thn (hb _ s6 σ6 H6 _ I6 q6) fun f s7 q7=>?_);have again:∀{σ7:St} {H7:Hp},Inv X (pins++pinsAt fp s5.heap) σ7 H7 s7->N σ7 H7->∃m,m < n/\∃i σ' H',Inv X pins σ' H' s7/\tn i s7.heap/\(∀b∈fp,H' b=none)/\W i m σ' H':=fun {σ7 H7} I7 n7=>by
   obtain ⟨m',hm,w7⟩:=hN σ7 H7 n7;refine ⟨m',hm,i+1,σ7,H7,I7.unpinned,T.keep _ _ _ st5 fun b hb o e=>(I7.pin (b,o) (xcu _ (xcu _ (zdu hb e)))).1,fun b hb=>?_,w7⟩;obtain ⟨o,e,d⟩:=T.obj _ _ st5 b hb;exact (I7.pin (b,o) (xcu _ (xcu _ (zdu hb e)))).2.1
  cases f with
  | next=>obtain ⟨σ7,H7,I7,n7⟩:=q7;exact again I7 n7
  | cont=>obtain ⟨σ7,H7,I7,n7⟩:=q7;exact again I7 n7
  | brk=>obtain ⟨σ7,H7,I7,q7⟩:=q7;exact ⟨σ7,H7,I7.unpinned,q7⟩
  | ret v=>obtain ⟨x7,σ7,H7,I7,r7,q7⟩:=q7;exact ⟨x7,σ7,H7,I7.unpinned,r7,q7⟩
end
noncomputable abbrev R2:=V->V->Hp->VK->Prop
noncomputable def OpR (X:Cx) (f:Value->Value->Sem Value) (r:R2):Prop :=
 ∀(pins:List (Addr × Obj)) (s:Shared) (σ:St) (H:Hp) (x y:V) (v u:Value) (Q:VK),Inv X pins σ H s->RelV x v->RelV y u->r x y H Q ->
  wpAny (model X.prog X.w) X.A (f v u) (EP X pins σ Q) X.xe s
noncomputable def UnR (X:Cx) (f:Value->Sem Value) (r:V->Hp->VK->Prop):Prop :=
 ∀(pins:List (Addr × Obj)) (s:Shared) (σ:St) (H:Hp) (x:V) (v:Value) (Q:VK),Inv X pins σ H s->RelV x v->r x H Q ->
  wpAny (model X.prog X.w) X.A (f v) (EP X pins σ Q) X.xe s
noncomputable def CallR (X:Cx) (f:Value) (r:List V->Hp->VK->Prop):Prop :=
 ∀(pins:List (Addr × Obj)) (s:Shared) (σ:St) (H:Hp) (xs:List V) (us:List Value) (Q:VK),Inv X pins σ H s->Vals xs us->r xs H Q ->
  wpAny (model X.prog X.w) X.A (call f us) (EP X pins σ Q) X.xe s
noncomputable def TruR (X:Cx) (r:V->Hp->(Bool->Hp->Prop)->Prop):Prop :=
 ∀(pins:List (Addr × Obj)) (s:Shared) (σ:St) (H:Hp) (x:V) (v:Value) (Q:Bool->Hp->Prop),Inv X pins σ H s->RelV x v->r x H Q ->
  wpAny (model X.prog X.w) X.A (truthy v) (TP X pins σ Q) X.xe s
noncomputable def tOp (r:R2) (ta tb:TE):TE:=fun σ H Q=>ta σ H fun x H1=>tb σ H1 fun y H2=>r x y H2 Q
noncomputable def tUn (r:V->Hp->VK->Prop) (ta:TE):TE:=fun σ H Q=>ta σ H fun x H1=>r x H1 Q
noncomputable def rI (C:Int->Int->Prop) (g:Int->Int->V):R2:=fun x y H Q=>∃i j,x=.int i/\y=.int j/\C i j/\Q (g i j) H
noncomputable def rI0 (g:Int->Int->V):R2:=fun x y H Q=>∃i j,x=.int i/\y=.int j/\Q (g i j) H
noncomputable def rU (g:Int->V):V->Hp->VK->Prop:=fun x H Q=>∃i,x=.int i/\Q (g i) H
section
variable {X:Cx} {a b c:Expr} {ta tb tc:TE} {pos:Pos}
theorem binT (ha:PE X a ta) (hb:PE X b tb) {pins:List (Addr × Obj)} {s:Shared} {σ:St} {H:Hp} {R:V->V->Hp->Prop} (I:Inv X pins σ H s)
  (h:ta σ H fun x H1=>tb σ H1 fun y H2=>R x y H2) {Q:Value->Shared->Prop} {f:Value->Value->Sem Value}
  (hf:∀v u s2 x y H2,Inv X pins σ H2 s2->RelV x v->RelV y u->R x y H2->wpAny (model X.prog X.w) X.A (f v u) Q X.xe s2) :
  wpAny (model X.prog X.w) X.A (eval a X.env) (fun v s₁=>wpAny (model X.prog X.w) X.A (eval b X.env) (fun u s₂=>wpAny (model X.prog X.w) X.A (f v u) Q X.xe s₂) X.xe s₁) X.xe s:=by
 refine thn (ha pins s σ H _ I h) fun v s1 hq0=>?_
 obtain ⟨x,H1,I1,r1,q1⟩:=hq0;refine thn (hb pins s1 σ H1 _ I1 q1) fun u s2 hq0=>?_
 obtain ⟨y,H2,I2,r2,q2⟩:=hq0;exact hf v u s2 x y H2 I2 r1 r2 q2
theorem zbhp {op:Operator} {r:R2} (ho:OpR X (binaryOp op) r) (ha:PE X a ta) (hb:PE X b tb):PE X (.BinOp a op b pos) (tOp r ta tb):=by
 intro pins s σ H Q I h;exact wpAny_BinOp (binT ha hb I h fun v u s2 x y H2 I2 rx ry q=>ho pins s2 σ H2 x y v u Q I2 rx ry q)
theorem zbho {op:UnaryOp} {r:V->Hp->VK->Prop} (ho:UnR X (unaryOp op) r) (ha:PE X a ta):PE X (.UnaryOp op a pos) (tUn r ta):=by
 intro pins s σ H Q I h;exact UnaryOp_ (thn (ha pins s σ H _ I h) fun v s1 ⟨x,H1,I1,r1,q1⟩=>ho pins s1 σ H1 x v Q I1 r1 q1)
theorem opI {f:Value->Value->Sem Value} {C:Int->Int->Prop} {g:Int->Int->Int}
  (rule:∀(i j:Int) (t u:Tok) (s:Shared) (Q:Value->Shared->Prop) (E:Value->Shared->Prop),C i j->Q (.int (g i j) s.toks) {s with toks:=s.toks+1}->wpAny (model X.prog X.w) X.A (f (.int i t) (.int j u)) Q E s) :
  OpR X f (rI C fun i j=>.int (g i j)):=by
 intro pins s σ H x y v u Q I rx ry h;obtain ⟨i,j,rfl,rfl,hc,q⟩:=h;obtain ⟨t,rfl⟩:=rx;obtain ⟨t',rfl⟩:=ry;exact rule i j t t' s _ _ hc ⟨.int (g i j),H,I.tok _,⟨_,rfl⟩,q⟩
theorem opI0 {f:Value->Value->Sem Value} {g:Int->Int->Int}
  (rule:∀(i j:Int) (t u:Tok) (s:Shared) (Q:Value->Shared->Prop) (E:Value->Shared->Prop),Q (.int (g i j) s.toks) {s with toks:=s.toks+1}->wpAny (model X.prog X.w) X.A (f (.int i t) (.int j u)) Q E s) :
  OpR X f (rI0 fun i j=>.int (g i j)):=by
 intro pins s σ H x y v u Q I rx ry h;obtain ⟨i,j,rfl,rfl,q⟩:=h;obtain ⟨t,rfl⟩:=rx;obtain ⟨t',rfl⟩:=ry;exact rule i j t t' s _ _ ⟨.int (g i j),H,I.tok _,⟨_,rfl⟩,q⟩
theorem opB0 {f:Value->Value->Sem Value} {g:Int->Int->Bool}
  (rule:∀(i j:Int) (t u:Tok) (s:Shared) (Q:Value->Shared->Prop) (E:Value->Shared->Prop),Q (.bool (g i j)) s->wpAny (model X.prog X.w) X.A (f (.int i t) (.int j u)) Q E s) :
  OpR X f (rI0 fun i j=>.bl (g i j)):=by
 intro pins s σ H x y v u Q I rx ry h;obtain ⟨i,j,rfl,rfl,q⟩:=h;obtain ⟨t,rfl⟩:=rx;obtain ⟨t',rfl⟩:=ry;exact rule i j t t' s _ _ ⟨.bl (g i j),H,I,rfl,q⟩
noncomputable def CPow (i j:Int):Prop:=0<=j/\j<=1000000/\i.natAbs < 2 ^ 64
noncomputable def CMul (i j:Int):Prop:=(-(2 ^ 64) < i/\i < 2 ^ 64)\/(-(2 ^ 64) < j/\j < 2 ^ 64)
theorem CMul.ok {i j:Int} (h:CMul i j):IntMulOk i j:=by
 rcases h with ⟨h1,h2⟩ | ⟨h1,h2⟩
 ·exact .of_left (intBits_le_64 h1 h2)
 ·exact .of_right (intBits_le_64 h1 h2)
theorem zbdh:OpR X (binaryOp .Add) (rI0 fun i j=>.int (i+j)):=opI0 fun _ _ _ _ _ _ _ q=>add_int q
theorem zjq:OpR X (binaryOp .Sub) (rI0 fun i j=>.int (i - j)):=opI0 fun _ _ _ _ _ _ _ q=>sub_int q
theorem zlx:OpR X (binaryOp .Mult) (rI CMul fun i j=>.int (i * j)):=opI fun _ _ _ _ _ _ _ hc q=>mul_int q hc.ok
theorem zly:OpR X (binaryOp .Mod) (rI (fun _ j=>0 < j) fun i j=>.int (i % j)):=opI fun i j _ _ _ _ _ hc q=>by
 have h1:(0:Int) < j:=hc;exact mod_int' (by lia) (by rw[Int.fmod_eq_emod_of_nonneg i (by lia)];exact q)
theorem zyh:OpR X (binaryOp .Pow) (rI CPow fun i j=>.int (i ^ j.toNat)):=opI fun _ _ _ _ _ _ _ hc q=>pow_int_small hc.1 hc.2.1 hc.2.2 q
theorem zbdg:OpR X (binaryOp .BitAnd) (rI0 fun i j=>.int (Builtin.bitAnd i j)):=opI0 fun _ _ _ _ _ _ _ q=>and_int q
theorem unI {f:Value->Sem Value} {g:Int->Int}
  (rule:∀(i:Int) (t:Tok) (s:Shared) (Q:Value->Shared->Prop) (E:Value->Shared->Prop),Q (.int (g i) s.toks) {s with toks:=s.toks+1}->wpAny (model X.prog X.w) X.A (f (.int i t)) Q E s) :
  UnR X f (rU fun i=>.int (g i)):=by
 intro pins s σ H x v Q I rx h;obtain ⟨i,rfl,q⟩:=h;obtain ⟨t,rfl⟩:=rx;exact rule i t s _ _ ⟨.int (g i),H,I.tok _,⟨_,rfl⟩,q⟩
theorem zbbs:UnR X (unaryOp .USub) (rU fun i=>.int (-i)):=unI fun _ _ _ _ _ q=>neg_int q
theorem zbht:OpR X (compareOp .Lt) (rI0 fun i j=>.bl (decide (i < j))):=opB0 fun _ _ _ _ _ _ _ q=>lt_int q
theorem zbhu:OpR X (compareOp .Gt) (rI0 fun i j=>.bl (decide (j < i))):=opB0 fun _ _ _ _ _ _ _ q=>gt_int q
theorem OpR.or {f:Value->Value->Sem Value} {r r':R2} (h:OpR X f r) (h':OpR X f r'):OpR X f (fun x y H Q=>r x y H Q\/r' x y H Q):=by
 intro pins s σ H x y v u Q I rx ry q;rcases q with q | q
 ·exact h pins s σ H x y v u Q I rx ry q
 ·exact h' pins s σ H x y v u Q I rx ry q
theorem nomark (b:Expr) {op:CmpOp} (h:op≠.In:=by decide) (h2:op≠.NotIn:=by decide):behindInMarks op b=false:=by
 have e1:(op == CmpOp.In)=false:=by cases op<;>first | rfl | exact absurd rfl h
 have e2:(op == CmpOp.NotIn)=false:=by cases op<;>first | rfl | exact absurd rfl h2
 cases b<;>simp[behindInMarks,e1,e2]
theorem zye {op:CmpOp} {r:R2} (ho:OpR X (compareOp op) r) (ha:PE X a ta) (hb:PE X b tb) (hm:behindInMarks op b=false):PE X (.Compare a [op] [b] pos) (tOp r ta tb):=by
 intro pins s σ H Q I h;exact wpAny_Compare1 (binT ha hb I h fun v u s2 x y H2 I2 rx ry q=>ho pins s2 σ H2 x y v u Q I2 rx ry q) hm
noncomputable def tTest (t:TE):TT:=fun σ H Q=>t σ H fun x H'=>∃k,x=.bl k/\Q k H'
theorem zxj {op:CmpOp} {r:R2} (ho:OpR X (compareOp op) r) (ha:PE X a ta) (hb:PE X b tb) (hm:behindInMarks op b=false):PT X (.Compare a [op] [b] pos) (tTest (tOp r ta tb)):=by
 intro pins s σ H Q I h
 refine wpAny_isTrue_Compare1 (thn (ha pins s σ H _ I h) fun v s1 ⟨x,H1,I1,r1,q1⟩=>thn (hb pins s1 σ H1 _ I1 q1) fun u s2 ⟨y,H2,I2,r2,q2⟩ =>
  thn (ho pins s2 σ H2 x y v u _ I2 r1 r2 q2) fun c s3 ⟨z,H3,I3,r3,k,e,q3⟩=>?_) hm
 subst e;cases r3;exact xfy ⟨H3,I3,q3⟩
noncomputable def TruV (K:Fg) (x:V) (H:Hp) (k:Bool):Prop :=
 match x with
 | .non=>k=false
 | .bl b=>k=b
 | .int i=>k=(i != 0)
 | .str y=>y.length<=sizeLine/\k=((y.length:Int) != 0)
 | .byt y=>y.size<=sizeLine/\k=((y.size:Int) != 0)
 | .ref p=>(∃xs,SqL K H p xs/\k=!xs.isEmpty)\/(∃xs,SqT K H p xs/\k=!xs.isEmpty)\/∃kvs,H p=some (.dK kvs)/\k=!kvs.isEmpty
 | _=>False
theorem zom {κ:Type} {kvs:List (κ × V)} {vs:List (κ × Value)} (r:KV kvs vs):(!vs.isEmpty)=!kvs.isEmpty:=by
 cases r<;>rfl
theorem zio {xs:List V} {its:List Value} (r:Vals xs its):(!its.toArray.isEmpty)=!xs.isEmpty:=by
 cases r<;>simp
theorem line63:(sizeLine:Nat) < 2 ^ 63:=by rw[xhn];decide
theorem zbbu:TruR X (fun x H Q=>∃k,TruV X.K x H k/\Q k H):=by
 intro pins s σ H x v Q I rx h;obtain ⟨k,e,q⟩:=h;have hl:=line63;have hs:sizeLine=16777216:=xhn;cases x with
 | non =>
  cases rx;have e':k=false:=e;subst e';exact truthy_none ⟨H,I,q⟩
 | bl b =>
  cases rx;have e':k=b:=e;subst e';exact xfy ⟨H,I,q⟩
 | int i =>
  obtain ⟨t,rfl⟩:=rx;have e':k=(i != 0):=e;subst e';exact PySem.P.truthy_int ⟨H,I,q⟩
 | str y =>
  obtain ⟨t,rfl⟩:=rx;obtain ⟨hy,e'⟩:y.length<=sizeLine/\k=((y.length:Int) != 0):=e;subst e';exact PySem.P.truthy_str (by lia) ⟨H,I.tok _,q⟩
 | byt y =>
  obtain ⟨t,rfl⟩:=rx;obtain ⟨hy,e'⟩:y.size<=sizeLine/\k=((y.size:Int) != 0):=e;subst e';exact PySem.W.truthy_bytes (by lia) ⟨H,I.tok _,q⟩
 | ref p =>
  cases rx;have e':(∃xs,SqL X.K H p xs/\k=!xs.isEmpty)\/(∃xs,SqT X.K H p xs/\k=!xs.isEmpty)\/∃kvs,H p=some (.dK kvs)/\k=!kvs.isEmpty:=e
  rcases e' with ⟨xs,hx,e'⟩ | ⟨xs,hx,e'⟩ | ⟨kvs,hx,e'⟩
  ·subst e';obtain ⟨its,r,pl,hz⟩:=I.list hx;have hlen:=r.length;exact wpAny_truthy_list pl.isList (by simp only[xbp];lia) ⟨H,I.tok _,by rw[zio r];exact q⟩
  ·subst e';obtain ⟨its,r,pl,hz⟩:=I.tuple hx;have hlen:=r.length;exact truthy_tuple pl (by simp only[xbp];lia) ⟨H,I.tok _,by rw[zio r];exact q⟩
  ·subst e';obtain ⟨hz,hS,vs,r,m⟩:kvs.length<=sizeLine/\(p == sysModules)=false/\∃vs,KV kvs vs/\s.heap.DictOf (mixKind X.prog X.w) p vs:=I.hok p _ hx
   have hlen:kvs.length=vs.length:=xhl r;exact wpAny_truthy_dict hS m (by lia) ⟨H,I.tok _,by rw[zom r];exact q⟩
 | _=>exact (show False from e).elim
theorem zua (ha:PE X a ta) (he:∀whole,isTrue a X.env whole=(do let v ← whole;standAt a.pos;holding [v] (truthy v))) :
  PT X a (fun σ H Q=>ta σ H fun x H'=>∃k,TruV X.K x H' k/\Q k H'):=by
 intro pins s σ H Q I h;exact isTrue_plain (thn (ha pins s σ H _ I h) fun v s1 ⟨x,H1,I1,r1,q1⟩=>zbbu pins s1 σ H1 x v Q I1 r1 q1) (he _)
theorem znr:OpR X (binaryOp .Add) (fun x y H Q=>∃i j,x=.str i/\y=.str j/\i.length+j.length<=sizeLine/\Q (.str (i++j)) H):=by
 intro pins s σ H x y v u Q I rx ry h;obtain ⟨i,j,rfl,rfl,hz,q⟩:=h;obtain ⟨t,rfl⟩:=rx;obtain ⟨t',rfl⟩:=ry;exact add_str (fun t' tk=>⟨.str (i++j),H,I.tok _,⟨_,rfl⟩,q⟩) hz
theorem vals1 {x:V} {us:List Value} (r:Vals [x] us):∃u,us=[u]/\RelV x u:=by
 cases r with
 | cons r1 r2=>cases r2;exact ⟨_,rfl,r1⟩
theorem vals2 {x y:V} {us:List Value} (r:Vals [x,y] us):∃u w',us=[u,w']/\RelV x u/\RelV y w':=by
 cases r with
 | cons r1 r2 =>
  cases r2 with
  | cons r3 r4=>cases r4;exact ⟨_,_,rfl,r1,r3⟩
theorem zvw : CallR X (.builtin "abs") (fun xs H Q => ∃ i, xs = [.int i] /\ Q (.int (if i < 0 then -i else i)) H) := by
 intro pins s σ H xs us Q I r h;obtain ⟨i,rfl,q⟩:=h;obtain ⟨u,rfl,t,rfl⟩:=vals1 r;exact call_abs_int fun u tk=>⟨.int (if i < 0 then -i else i),H,I.tok _,⟨_,rfl⟩,q⟩
theorem zsg (hc : X.calm = true) : CallR X (.builtin "max") (fun xs H Q => ∃ i j, xs = [.int i, .int j] /\ Q (.int (if j > i then j else i)) H) := by
 intro pins s σ H xs us Q I r h;obtain ⟨i,j,rfl,q⟩:=h;obtain ⟨u,w',rfl,⟨t,rfl⟩,⟨t',rfl⟩⟩:=vals2 r;refine max_two_ints (I.ok.hd hc) fun h' tk k=>⟨_,H,I.kept k,?_,q⟩
 by_cases hj:j > i
 ·rw[if_pos hj,if_pos hj];exact ⟨_,rfl⟩
 ·rw[if_neg hj,if_neg hj];exact ⟨_,rfl⟩
theorem zib (hc : X.calm = true) : CallR X (.builtin "min") (fun xs H Q => ∃ i j, xs = [.int i, .int j] /\ Q (.int (if j < i then j else i)) H) := by
 intro pins s σ H xs us Q I r h;obtain ⟨i,j,rfl,q⟩:=h;obtain ⟨u,w',rfl,⟨t,rfl⟩,⟨t',rfl⟩⟩:=vals2 r;refine min_two_ints (I.ok.hd hc) fun h' tk k=>⟨_,H,I.kept k,?_,q⟩
 by_cases hj:j < i
 ·rw[if_pos hj,if_pos hj];exact ⟨_,rfl⟩
 ·rw[if_neg hj,if_neg hj];exact ⟨_,rfl⟩
end
structure ObjM (h:Heap) (x dx C:Addr) (mA:Str->Option Value):Prop where
 obj:h.get? x=some (PySem.W.instObj C dx)
 ns:h.Ns1 dx mA
 ne:dx≠x
theorem zrg {h:Heap} {dx:Addr} {mA:Str->Option Value} (n:h.Ns1 dx mA):∃od,h.get? dx=some od/\∀name,PySem.W.lookIn name od=some (mA name):=by
 obtain ⟨o,es,ep,ho,hd,hk,_,hm⟩:=n;refine ⟨o,ho,fun name=>?_⟩;have e:=hm name;unfold nsFind findBy at e;rw[← Array.find?_toList] at e;unfold PySem.W.lookIn;rw[hd];dsimp only;split
 ·rename_i y q;rw[q] at e;exact congrArg some e
 ·rename_i q;rw[q] at e;have a:es.toList.any (·.refKey)=false:=by
   rw[List.any_eq_false];intro y hy;obtain ⟨z,t,hkey⟩:=hk y (Array.mem_toList_iff.mp hy);simp[DictEntry.refKey,hkey]
  have a':¬ es.toList.any (·.refKey)=true:=by rw[a];exact xez
  rw[if_neg a'];exact congrArg some e
theorem ObjM.look {h:Heap} {x dx C:Addr} {mA:Str->Option Value} (I:ObjM h x dx C mA):∃od,PySem.W.InstAt h x (PySem.W.instObj C dx) C (some od)/\∀name,PySem.W.lookIn name od=some (mA name) :=
 let ⟨od,ho,hl⟩:=zrg I.ns
 ⟨od,⟨I.obj,rfl,rfl,ho⟩,hl⟩
section
variable {prog:Program} {w:World} {A:Around} {E:Value->Shared->Prop} {s:Shared} {K:Fg} {x dx C f:Addr} {mA:Str->Option Value} {name:Str} {v:Value}
end
theorem RelO.some_of {v:V} {o:Option Value} (r:RelO (some v) o):∃u,o=some u/\RelV v u:=by
 cases o with
 | none=>exact (show False from r).elim
 | some u=>exact ⟨u,rfl,r⟩
section
variable {P:Program} {w:World} {H H':Hp} {h h':Heap} {a C dx:Addr} {fs fs':List (Str × V)}
theorem zzf (hok:HOk P w H h) (e:H a=some (.ins C dx fs)):∃mA,ObjM h a dx C mA/\(∀f,RelO (fs.lookup f) (mA f))/\PySem.Within mA (fs.map (·.1))/\fs.length<=1000/\H dx=some (.own a):=by
 obtain ⟨d,z,ne,ob,mA,n,r,q⟩:=(show ObjOk P w H h a (.ins C dx fs) from hok a _ e)
 exact ⟨mA,⟨ob,n,ne⟩,r,q,z,d⟩
end
structure Cls (K:Fg) (C:Addr):Prop where
 pg:PySem.W.plainGet K C Str.empty=true
 hd:PySem.W.hasDictIn K C=true
 po:PySem.W.plainOver K C=true
 sa : PySem.W.findIn K (.ref C) "__setattr__" = some (some (.builtin "object.__setattr__"))
theorem Cls.get {K:Fg} {C:Addr} (c:Cls K C) (f:Str):PySem.W.plainGet K C f=true:=c.pg
section
variable {X:Cx} {pins:List (Addr × Obj)} {σ:St} {H:Hp} {s:Shared} {a C dx:Addr} {fs:List (Str × V)} {f:Str} {v:V} {A:Around} {E:Value->Shared->Prop}
end
section
variable {X:Cx} {o e value:Expr} {f:Str} {pos pos' tpos:Pos} {ta tv:TE}
end
section
variable {X:Cx} {pins:List (Addr × Obj)} {σ:St} {H:Hp} {s:Shared} {A:Around} {E:Value->Shared->Prop} {Q:Value->Shared->Prop} {c:Value} {b:Bool}
inductive TyOf (K:Fg) (H:Hp):V->Value->Prop where
 | non : TyOf K H .non (.type "NoneType")
 | bl (x : Bool) : TyOf K H (.bl x) (.type "bool")
 | int (i : Int) : TyOf K H (.int i) (.type "int")
 | str (x : Str) : TyOf K H (.str x) (.type "str")
 | flt (x : UInt64) : TyOf K H (.flt x) (.type "float")
 | lst {a : Addr} {xs : List V} (e : H a = some (.lst xs)) : TyOf K H (.ref a) (.type "list")
 | frz {a : Addr} {o : Obj} {xs : List V} (e : H a = some (.frz o (.lst xs))) : TyOf K H (.ref a) (.type "list")
 | tup {a : Addr} {xs : List V} (e : H a = some (.tup xs)) : TyOf K H (.ref a) (.type "tuple")
 | dK {a : Addr} {kvs : List (Key × V)} (e : H a = some (.dK kvs)) : TyOf K H (.ref a) (.type "dict")
 | dT {a : Addr} {kvs : List (List Key × V)} (e : H a = some (.dT kvs)) : TyOf K H (.ref a) (.type "dict")
 | ins {a C dx : Addr} {fs : List (Str × V)} (e : H a = some (.ins C dx fs)) (cl : Cls K C) (ha : PySem.W.findIn K (.ref C) "__class__" = some (some (.builtin "object.__class__")))
  (hn : PySem.W.specialIn K (.builtin "object.__class__") "__get__" = some (some (.builtin "getset_descriptor.__get__"))) (htk : PySem.W.takesIn K (.builtin "object.__class__") = some true)
  (hm : PySem.W.mroIn K C (.type "object") = some true) : TyOf K H (.ref a) (.ref C)
theorem zrn {x:V} {u t:Value} (I:Inv X pins σ H s) (rx:RelV x u) (ty:TyOf X.K H x t) (e:PySem.W.kitOne X.K t c=some b) (h:∀tk,Q (.bool b) {s with toks:=tk}) :
  wpAny (model X.prog X.w) A (call (.builtin "isinstance") [u, c]) Q E s := by
 cases ty with
 | non=>cases (show u=Value.none from rx);exact xdn PySem.W.kitx_none I.kIn True.intro e (fun z=>nomatch z) h
 | bl y=>cases (show u=Value.bool y from rx);exact xdn PySem.W.kitx_bool I.kIn True.intro e (fun z=>nomatch z) h
 | int i=>obtain ⟨t,q⟩:=(show ∃t,u=Value.int i t from rx);cases q;exact xdn PySem.W.kitx_int I.kIn True.intro e (fun z=>nomatch z) h
 | str y=>obtain ⟨t,q⟩:=(show ∃t,u=Value.str y t from rx);cases q;exact xdn PySem.W.kitx_str I.kIn True.intro e (fun z=>nomatch z) h
 | flt y=>obtain ⟨t,q⟩:=(show ∃t,u=Value.float y t from rx);cases q;exact xdn PySem.W.kitx_float I.kIn True.intro e (fun z=>nomatch z) h
 | @lst a xs ea =>
  cases (show u=Value.ref a from rx);obtain ⟨_,_,n,_,h1⟩:=(show ObjOk X.prog X.w H s.heap a (.lst xs) from I.hok a _ ea)
  exact xdn PySem.W.kitx_list I.kIn ⟨_,h1,rfl⟩ e (fun z=>nomatch z) h
 | @frz a ob xs ea =>
  cases (show u=Value.ref a from rx);obtain ⟨_,_,_,n,_,h1⟩:=(show ObjOk X.prog X.w H s.heap a (.frz ob (.lst xs)) from I.hok a _ ea)
  exact xdn PySem.W.kitx_list I.kIn ⟨_,h1,rfl⟩ e (fun z=>nomatch z) h
 | @tup a xs ea =>
  cases (show u=Value.ref a from rx);obtain ⟨_,_,_,p⟩:=(show ObjOk X.prog X.w H s.heap a (.tup xs) from I.hok a _ ea)
  obtain ⟨o,h1,h2,_⟩:=p;exact xdn PySem.W.kitx_tuple I.kIn ⟨o,h1,h2⟩ e (fun z=>nomatch z) h
 | @dK a kvs ea =>
  cases (show u=Value.ref a from rx);obtain ⟨_,_,vs,_,p⟩:=(show ObjOk X.prog X.w H s.heap a (.dK kvs) from I.hok a _ ea)
  obtain ⟨o,es,ep,h1,h2,_⟩:=p;exact xdn PySem.W.kitx_dict I.kIn ⟨o,h1,h2.1⟩ e (fun z=>nomatch z) h
 | @dT a kvs ea =>
  cases (show u=Value.ref a from rx);obtain ⟨_,_,xs,_,o,es,ep,h1,h2,_⟩:=(show ObjOk X.prog X.w H s.heap a (.dT kvs) from I.hok a _ ea)
  exact xdn PySem.W.kitx_dict I.kIn ⟨o,h1,h2.1⟩ e (fun z=>nomatch z) h
 | @ins a C dx fs ea cl ha hn htk hm =>
  cases (show u=Value.ref a from rx);obtain ⟨mA,O,_⟩:=zzf I.hok ea;obtain ⟨od,J,_⟩:=O.look;exact xdn (PySem.W.kitx_own (cl.get _) cl.hd ha hn htk hm) I.kIn J e (fun z=>nomatch z) h
end
structure Room (k:Nat) (A:Around):Prop where
 hd:A.handled=none
 dp:A.depth+3 * k+5 < recursionLimit
 un:A.units+16 * k+200 < cLine
theorem Room.mono {j k:Nat} {A:Around} (r:Room k A) (h:j<=k):Room j A:=⟨r.hd,by have:=r.dp;lia,by have:=r.un;lia⟩
theorem Room.deeper {k:Nat} {A:Around} (r:Room (k+1) A) (env:Env):Room k (A.deeper env) :=
 ⟨r.hd,by have:=r.dp;show A.depth+1+3 * k+5 < _;lia,by have:=r.un;show A.units+3+16 * k+200 < _;lia⟩
theorem Room.depth {k:Nat} {A:Around} (r:Room k A):A.depth < recursionLimit:=by have:=r.dp;lia
theorem Room.units {k:Nat} {A:Around} (r:Room k A):A.units+64 < cLine:=by have:=r.un;lia
theorem Room.units0 {k:Nat} {A:Around} (r:Room k A):A.units < cLine:=by have:=r.un;lia
noncomputable def tNil:TA:=fun _ H Q=>Q [] H
noncomputable def tCons (ta:TE) (tr:TA):TA:=fun σ H Q=>ta σ H fun x H1=>tr σ H1 fun xs H2=>Q (x::xs) H2
section
variable {X:Cx} {e:Expr} {es:List Expr} {te:TE} {t:TA} {pos:Pos}
theorem zhk:PA X [] tNil:=fun _ _ _ _ H Q I h=>xjs ⟨[],H,I,.nil,h⟩
theorem zds (ha:PE X e te) (hr:PA X es t) (hs:starEach (e::es) X.env=(false,eval e X.env)::starEach es X.env:=by rfl):PA X (e::es) (tCons te t):=by
 intro pos pins s σ H Q I h;rw[hs];show wpAny _ _ (spliced ((false,eval e X.env)::backTo pos (starEach es X.env))) _ _ s;refine xhw (thn (ha pins s σ H _ I h) fun u s1 hq0=>?_);obtain ⟨x,H1,I1,r1,q1⟩:=hq0;exact thn (hr pos pins s1 σ H1 _ I1 q1) fun us s2 ⟨xs,H2,I2,r2,q2⟩=>⟨x::xs,H2,I2,.cons r1 r2,q2⟩
noncomputable def tTup (t:TA):TE:=fun σ H Q=>t σ H fun xs H1=>xs.length<=sizeLine/\∀p,H1 p=none->Q (.ref p) (upd H1 p (.tup xs))
noncomputable def tLst (t:TA):TE:=fun σ H Q=>t σ H fun xs H1=>xs.length<=sizeLine/\∀p,H1 p=none->Q (.ref p) (upd H1 p (.lst xs))
theorem zya {x1} (h:PA X es t):PE X (.Tuple es x1 pos) (tTup t):=by
 intro pins s σ H Q I hq;refine wpAny_Tuple_spliced (thn (h pos pins s σ H _ I hq) fun us s1 ⟨xs,H1,I1,r,z,q⟩=>⟨by rw[← r.length];exact z,?_⟩);have hf:H1 s1.heap.objs.size=none:=I1.hok.fresh (xbe _);refine ⟨.ref s1.heap.objs.size,upd H1 s1.heap.objs.size (.tup xs),I1.laid (t':=s1.toks) (fun b u e=>xbg _ e) (xbe _) ?_,rfl,q _ hf⟩;exact ⟨z,us,r,⟨_,xcb _ rfl,rfl,_,rfl⟩⟩
theorem zyb (h:PA X es t):PE X (.List es pos) (tLst t):=by
 intro pins s σ H Q I hq;refine wpAny_List_spliced (thn (h pos pins s σ H _ I hq) fun us s1 ⟨xs,H1,I1,r,z,q⟩=>⟨by rw[← r.length];exact z,?_⟩);have hf:H1 s1.heap.objs.size=none:=I1.hok.fresh (xbe _);refine ⟨.ref s1.heap.objs.size,upd H1 s1.heap.objs.size (.lst xs),I1.laid (t':=s1.toks) (fun b u e=>xbg _ e) (xbe _) ?_,rfl,q _ hf⟩;exact ⟨z,us,0,r,xcb _ rfl⟩
end
noncomputable abbrev Sp:=List V->Hp->VK->XK->Prop
noncomputable abbrev CXT:=List Env->Hp->Shared->XK->Value->Shared->Prop
structure Env0 (P:Program) (w:World) (K:Fg) (mg:Str->Option Value) (base:Heap) (A:Around) (outer:List Env) (s:Shared) (H:Hp):Prop where
 frames:A.frames=some outer
 mod:Mod K mg base
 bs:∀b o,base.get? b=some o->s.heap.get? b=some o/\H b=none
 bsz:base.objs.size<=s.heap.objs.size
 funs:s.heap.FunFrames base outer
 frf:∀b∈frs outer,H b=none
 hok:HOk P w H s.heap
 bare:AllBare s.gens
noncomputable def CE (outer:List Env) (P:Program) (w:World) (H:Hp) (s:Shared) (Q:VK) (u:Value) (s':Shared):Prop :=
 ∃v H',s'.os=s.os/\AllBare s'.gens/\Un (frs outer) [] H H' s.heap s'.heap/\HOk P w H' s'.heap/\RelV v u/\Q v H'
noncomputable def CR (CX:CXT) (outer:List Env) (P:Program) (w:World) (H:Hp) (s:Shared) (Q:VK) (E:XK) (r:Result) (s':Shared):Prop :=
 match r with
 | .ok (.ret u)=>CE outer P w H s Q u s'
 | .ok _=>False
 | .error e=>CX outer H s E e s'
structure FnOk (P:Program) (w:World) (K:Fg) (mg:Str->Option Value) (base:Heap) (CX:CXT) (k:Nat) (f:Addr) (fd:FuncData) (ps:List Str) (sp:Sp):Prop where
 len:∀vs H Q E,sp vs H Q E->vs.length=ps.length
 run:∀(A:Around) (outer:List Env) (s:Shared) (H:Hp) (args:Args) (us:List Value) (vs:List V) (Q:VK) (E:XK),Room k A->Env0 P w K mg base A outer s H->BindsTo s fd args (ps.zip us)->Vals vs us->sp vs H Q E ->
  codeAny (model P w) A (.call (.ref f) args) (CR CX outer P w H s Q E) s
section
variable {X:Cx} {pins:List (Addr × Obj)} {σ:St} {H:Hp} {s s':Shared}
theorem Inv.env0 (I:Inv X pins σ H s):Env0 X.prog X.w X.K X.mg X.base X.A X.stack s H :=
 ⟨I.ok.frames,I.ok.mod,I.bs,xbb I.ok.bsz I.sz,I.stack,I.stkFree,I.hok,I.bare⟩
theorem Inv.after {Q:VK} {u:Value} (I:Inv X pins σ H s) (h:CE X.stack X.prog X.w H s Q u s'):EP X pins σ Q u s':=by
 obtain ⟨v,H',os,bare,un,hok,r,q⟩:=h;obtain ⟨hh,g,d,t,os'⟩:=s';obtain rfl:os'=s.os:=os;exact ⟨v,H',I.call (h':=hh) (g':=g) (d':=d) (t':=t) (ch:=[]) un hok bare (fun b z=>absurd z (by simp)),r,q⟩
end
noncomputable def tCall (sp:Sp) (dvs:List V) (E:XK) (t:TA):TE:=fun σ H Q=>t σ H fun vs H1=>sp (vs++dvs) H1 Q E
noncomputable def Binds (K:Fg) (fd:FuncData) (ps:List Str) (ds:List Value):Prop :=
 ∀(s:Shared) (us:List Value),K.In s.heap->(us++ds).length=ps.length->BindsTo s fd ⟨us,[]⟩ (ps.zip (us++ds))
theorem Binds.all {K:Fg} {fd:FuncData} {ps:List Str} (h:∀us:List Value,us.length=ps.length->bindArgs fd ⟨us,[]⟩=pure (ps.zip us)):Binds K fd ps []:=fun s us _ hl=>by
 rw[xdw] at hl ⊢;exact .of_eq (h us hl)
noncomputable def Passes (CX:CXT) (X:Cx) (E:XK):Prop:=∀(pins:List (Addr × Obj)) (σ:St) (H:Hp) (s:Shared) (e:Value) (s':Shared),Inv X pins σ H s->CX X.stack H s E e s'->X.xe e s'
section
variable {X:Cx} {CX:CXT} {k:Nat} {f C:Addr} {fd:FuncData} {ps:List Str} {sp:Sp} {dvs:List V} {ds:List Value} {E:XK} {x m:Str} {p pos apos:Pos} {e o:Expr} {es:List Expr} {ta:TE} {t:TA}
theorem zbch {pins:List (Addr × Obj)} {σ:St} {H:Hp} {s:Shared} {Q:VK} {us:List Value} {vs:List V} (F:FnOk X.prog X.w X.K X.mg X.base CX k f fd ps sp) (hr:Room k X.A) (hb:Binds X.K fd ps ds) (hd:Vals dvs ds) (hx:Passes CX X E)
  (I:Inv X pins σ H s) (r:Vals vs us) (h:sp (vs++dvs) H Q E):wpAny (model X.prog X.w) X.A (call (.ref f) us) (EP X pins σ Q) X.xe s:=by
 have r2:Vals (vs++dvs) (us++ds):=r.append hd;have hl:(us++ds).length=ps.length:=by rw[← r2.length];exact F.len _ _ _ _ h
 refine xjl (xib (F.run X.A X.stack s H ⟨us,[]⟩ (us++ds) (vs++dvs) Q E hr I.env0 (hb s us I.kIn hl) r2 h) fun r s' hq=>?_);cases r with
 | error e=>exact hx pins σ H s e s' I hq
 | ok fl =>
  cases fl with
  | ret u=>exact I.after hq
  | next=>exact False.elim hq
  | brk=>exact False.elim hq
  | cont=>exact False.elim hq
theorem zyf (F:FnOk X.prog X.w X.K X.mg X.base CX k f fd ps sp) (hr:Room k X.A) (hg:Gl X x) (hm:X.mg x=some (.ref f)) (hk:PySem.W.keepIn X.K (.ref f)=true) (hb:Binds X.K fd ps ds) (hd:Vals dvs ds) (hx:Passes CX X E)
  (ha : PA X (e :: es) t) (hdb : (x == ("__debug__" : Str)) = false := by decide) (he : starEach (e :: es) X.env = (false, eval e X.env) :: starEach es X.env := by rfl) (hpl : (backTo pos (starEach es X.env)).any (·.1) = false := by rfl) :
  PE X (.Call (.Name x p) (e::es) [] pos) (tCall sp dvs E t):=by
 intro pins s σ H Q I h;refine xef (zgu I hg hm ?_ hdb);refine xhx (h₀:=X.base) I.ok.mod.kin hk (thn (ha pos pins s σ H _ I h) fun us s1 ⟨vs,H1,I1,r,q⟩=>⟨I1.kIn,?_⟩) he hpl;exact zbch F hr hb hd hx I1 r q
end
section
variable {X:Cx} {CX:CXT} {k:Nat} {f C:Addr} {fd:FuncData} {ps ks:List Str} {sp:Sp} {E:XK} {x m:Str} {p pos apos kpos:Pos} {e o:Expr} {es:List Expr} {kws:List Keyword} {te ta:TE} {t tk:TA} {nm:Option Str}
variable {g:List Value->List Value->List Value} {gV:List V->List V->List V}
end
structure FnScope (N P:List Str) (sc:Scope):Prop where
 kind:sc.kind=.function
 co:sc.isCoroutine=false
 gen:sc.isGenerator=false
 nd:N.Nodup
 pre:N.take P.length=P
 par:∀x∈P,sc.names.lookup x=some .local\/sc.names.lookup x=some .cell
 nofree:∀y∈sc.names,y.2≠.free
theorem zlj {kindOf:Str->Option NameKind} {x:Str}:∀{binds:List (Str × Value)} {m:Str->Option Value},(∀v,(x,v)∉binds)->bindL kindOf binds m x=m x
 | [],_,_=>rfl
 | (n,v)::r,m,h=>by
  unfold bindL;rw[zlj fun w hw=>h w (xca _ hw)];split
  ·have:x≠n:=by rintro rfl;exact h v xbu
   simp[this]
  ·rfl
theorem zll {kindOf:Str->Option NameKind} {x:Str}:∀{binds:List (Str × Value)} {m:Str->Option Value},(∀v,(x,v)∉binds)->bindC kindOf binds m x=m x
 | [],_,_=>rfl
 | (n,v)::r,m,h=>by
  unfold bindC;rw[zll fun w hw=>h w (xca _ hw)];split
  ·rfl
  ·have:x≠n:=by rintro rfl;exact h v xbu
   simp[this]
theorem zlk {kindOf:Str->Option NameKind} {x:Str} {v:Value}:∀{P:List Str} {vs:List Value} {i:Nat} {m:Str->Option Value},P.Nodup->P[i]?=some x->vs[i]?=some v->kindOf x=some .local ->
  bindL kindOf (P.zip vs) m x=some v
 | [],_,_,_,_,h,_,_=>by simp at h
 | _::_,[],_,_,_,_,h,_=>by simp at h
 | p::P,w::vs,0,m,nd,h1,h2,hk=>by
  simp at h1 h2;subst h1;subst h2
  show bindL kindOf ((p,w)::P.zip vs) m p=_;unfold bindL;rw[zlj fun v hv=>(xgp.mp nd).1 (xje hv).1,if_pos hk];simp
 | p::P,w::vs,i+1,m,nd,h1,h2,hk=>by
  show bindL kindOf ((p,w)::P.zip vs) m x=_;unfold bindL;exact zlk (i:=i) (xgp.mp nd).2 (by simpa using h1) (by simpa using h2) hk
theorem zlm {kindOf:Str->Option NameKind} {x:Str} {v:Value}:∀{P:List Str} {vs:List Value} {i:Nat} {m:Str->Option Value},P.Nodup->P[i]?=some x->vs[i]?=some v->kindOf x≠some .local ->
  bindC kindOf (P.zip vs) m x=some v
 | [],_,_,_,_,h,_,_=>by simp at h
 | _::_,[],_,_,_,_,h,_=>by simp at h
 | p::P,w::vs,0,m,nd,h1,h2,hk=>by
  simp at h1 h2;subst h1;subst h2
  show bindC kindOf ((p,w)::P.zip vs) m p=_;unfold bindC;rw[zll fun v hv=>(xgp.mp nd).1 (xje hv).1,if_neg hk];simp
 | p::P,w::vs,i+1,m,nd,h1,h2,hk=>by
  show bindC kindOf ((p,w)::P.zip vs) m x=_;unfold bindC;exact zlm (i:=i) (xgp.mp nd).2 (by simpa using h1) (by simpa using h2) hk
noncomputable def start (N:List Str) (vs:List V):St:=vs.map some++List.replicate (N.length - vs.length) none
noncomputable def cxOf (CX:CXT) (P:Program) (w:World) (K:Fg) (mg:Str->Option Value) (base:Heap) (N:List Str) (qual:Str) (scope:Scope) (f:Addr) (cd:Value) (A:Around) (outer:List Env) (s:Shared) (H:Hp) (E:XK):Cx where
 prog:=P
 w:=w
 K:=K
 mg:=mg
 base:=base
 A:=A.deeper (envOfC qual scope s.heap.objs.size f cd)
 N:=N
 s₀:=s
 H₀:=H
 env:=envOfC qual scope s.heap.objs.size f cd
 outer:=outer
 stack:=envOfC qual scope s.heap.objs.size f cd::outer
 ex:=[]
 calm:=true
 fn:=fun _=>true
 pn:=[]
 xe:=fun e s'=>wpAny (model P w) (A.deeper (envOfC qual scope s.heap.objs.size f cd)) (leaving (envOfC qual scope s.heap.objs.size f cd) e) (fun _ s''=>CX outer H s E e s'') (fun e' s''=>CX outer H s E e' s'') s'
theorem zpi {sc:Scope} {n:Nat} {x:Str} (h:sc.names.lookup x=some .cell):∃c,(cellsFrom n sc.names []).lookup x=some c:=by
 have q:=xip sc.names n [] (.inl h);exact xhy.mp q
theorem zkt {CX:CXT} {P:Program} {w:World} {K:Fg} {mg:Str->Option Value} {base:Heap} {N ps:List Str} {qual:Str} {scope:Scope} {f:Addr} {cd:Value} {A:Around} {outer:List Env} {s s1:Shared} {H:Hp} {E:XK} {us:List Value} {vs:List V}
  (S:FnScope N ps scope) (hd:A.handled=none) (e0:Env0 P w K mg base A outer s H) (hl:vs.length=ps.length) (r:Vals vs us)
  (x:InCallC s s.heap.objs.size (bindL (envOfC qual scope s.heap.objs.size f cd).kindOf (ps.zip us) fun _=>none) (cellsFrom (s.heap.objs.size+1) scope.names []) (bindC (envOfC qual scope s.heap.objs.size f cd).kindOf (ps.zip us) fun _=>none) s1) :
  Inv (cxOf CX P w K mg base N qual scope f cd A outer s H E) [] (start N vs) H s1:=by
 have hpl:ps.length<=N.length:=by have:=congrArg List.length S.pre;rw[xdb] at this;lia
 obtain ⟨h1,tk,rfl,hk⟩:=x.done;have noA:∀b:Addr,b∉(cxOf CX P w K mg base N qual scope f cd A outer s H E).ex:=fun b z=>absurd (show b∈([]:List Addr) from z) (by simp)
 refine ⟨⟨e0.mod,S.kind,rfl,rfl,xbe _,fun y z c h1 h2=>?_,fun y hy=>?_,fun y c _ h=>?_,fun _=>hd,Around.frames_deeper e0.frames,.inr ⟨rfl,rfl⟩,fun b z=>absurd z (noA b),e0.bs,e0.bsz,fun b _ _=>noA b,fun b z=>absurd z (noA b),e0.funs,e0.frf⟩,
  rfl,e0.bare,Un.kept hk,⟨_,x.toInCall.ns,fun i y v h1 h2 h3=>?_⟩,fun y c h=>⟨_,x.cell y c h⟩,e0.hok.fresh (xbe _),fun y c h=>?_,fun p hp=>absurd (show p∈([]:List (Addr × Obj)) from hp) (by simp),e0.hok.kept hk,?_,Hnd.none hd⟩
 ·exact name_of_addr x.apart (xdk h1) (xdk h2)
 ·have hy:scope.names.lookup y=some .cell\/scope.names.lookup y=some .free:=hy;rcases hy with hy | hy
  ·exact zpi hy
  ·exact absurd rfl (S.nofree _ (xdk hy))
 ·exact xbn (x.above y c (xdk h))
 ·have hi:i < vs.length:=by
   unfold start at h2;by_cases hi:i < vs.length
   ·exact hi
   ·rw[xch (by simpa using hi)] at h2;rw[List.getElem?_replicate] at h2;split at h2<;>cases h2
  have ha:vs[i]?=some v:=by
   unfold start at h2;rw[xbv (by simpa using hi),xcs] at h2;cases e:vs[i]? with
   | none=>rw[e] at h2;cases h2
   | some a=>rw[e] at h2;cases h2;rfl
  obtain ⟨u,hu,rv⟩:=r.get ha;have hp:ps[i]?=some y:=by
   rw[← S.pre,List.getElem?_take_of_lt (by lia)];exact h1
  have ndP:ps.Nodup:=by rw[← S.pre];exact S.nd.sublist (List.take_sublist _ _)
  refine ⟨u,rv,?_⟩;rcases S.par y (xcg hp) with k | k
  ·exact .inl ⟨k,zlk ndP hp hu k⟩
  ·obtain ⟨c,e⟩:=zpi (n:=s.heap.objs.size+1) k;refine .inr ⟨.inl k,c,e,?_⟩;have q:=x.cell y c e;rw[zlm ndP hp hu (by show scope.names.lookup y≠_;rw[k];decide)] at q;exact q
 ·exact e0.hok.fresh (xbn (x.above y c (xdk h)))
 ·unfold start;show _=N.length;rw[xbm,xbc,xfr];lia
theorem zbec {CX:CXT} {P:Program} {w:World} {K:Fg} {mg:Str->Option Value} {base:Heap} {k:Nat} {f:Addr} {name qual:Str} {params:Arguments} {body:List Stmt} {scope:Scope} {dV kV doc pm cdv ct oc:Value} {an od:Option Addr}
  {osl:Array (Option Value)} {N ps:List Str} {sp:Sp} (lk:K.lookup f=some ⟨oc,od,.func (PySem.W.fnOf name qual params body scope dV kV doc pm an cdv ct),osl⟩) (hcd:PySem.W.codeIn K cdv qual=true) (S:FnScope N ps scope)
  (len:∀vs H Q E,sp vs H Q E->vs.length=ps.length)
  (hbody:∀(A:Around) (outer:List Env) (s:Shared) (H:Hp) (vs:List V) (Q:VK) (E:XK),Room k (A.deeper (envOfC qual scope s.heap.objs.size f cdv))->sp vs H Q E ->
   ∃t,PSs (cxOf CX P w K mg base N qual scope f cdv A outer s H E) body t/\t {nx:=fun _ H'=>Q .non H',rt:=Q} (start N vs) H) :
  FnOk P w K mg base CX (k+1) f (PySem.W.fnOf name qual params body scope dV kV doc pm an cdv ct) ps sp:=by
 refine ⟨len,fun A outer s H args us vs Q E hr e0 hb r hsp=>?_⟩;have hl:=len _ _ _ _ hsp;have KX:K.In s.heap:=e0.mod.kin.keeps fun b o e=>(e0.bs b o e).1
 have lim:s.heap.NoLimit:=e0.mod.nolimit.keeps fun b o e=>(e0.bs b o e).1
 have hkind:∀y∈ps.zip us,scope.names.lookup y.1=some .local\/(scope.names.lookup y.1=some .cell/\((cellsFrom (s.heap.objs.size+1) scope.names []).lookup y.1).isSome=true):=fun hq0 hy=>by
  obtain ⟨n,v⟩:=hq0;rcases S.par n (xje hy).1 with q | q
  ·exact .inl q
  ·exact .inr ⟨q,xip _ _ _ (.inl q)⟩
 refine codeAny_call_function hr.depth (KX _ _ lk) rfl S.co S.gen rfl (PySem.W.codeRec_of KX hcd) (hb _ _ _ _ ?_);refine wpAny_newFunctionEnv_cells S.kind hkind fun env he s1 x=>?_
 subst he;refine ⟨lim.keeps x.toInCall.keep,codeAny_func ?_⟩;obtain ⟨t,ht,hq⟩:=hbody A outer s H vs Q E (hr.deeper _) hsp;have I:Inv (cxOf CX P w K mg base N qual scope f cdv A outer s H E) [] (start N vs) H s1:=zkt S hr.hd e0 hl r x;refine xde (ht [] s1 (start N vs) H _ I hq) (fun fl s' hs=>?_) fun e s' hs=>hs
 have fin:∀{σ':St} {H':Hp} {v:V} {u:Value},Inv (cxOf CX P w K mg base N qual scope f cdv A outer s H E) [] σ' H' s'->RelV v u->Q v H'->CE outer P w H s Q u s' :=
  fun {σ' H' v u} J rv q=>⟨v,H',J.os,J.bare,J.base,J.hok,rv,q⟩
 cases fl with
 | ret u =>
  obtain ⟨v,σ',H',J,rv,q⟩:=hs;exact fin J rv q
 | next =>
  obtain ⟨σ',H',J,q⟩:=hs;exact fin (v:=V.non) (u:=Value.none) J rfl q
 | brk =>
  obtain ⟨_,_,_,q⟩:=hs;exact False.elim q
 | cont =>
  obtain ⟨_,_,_,q⟩:=hs;exact False.elim q
section
variable {X:Cx} {x:Str} {p pos:Pos} {e:Expr} {es:List Expr} {t:TA} {id T:String} {r:List V->Hp->VK->Prop}
noncomputable def tCB (r:List V->Hp->VK->Prop) (t:TA):TE:=fun σ H Q=>t σ H fun vs H1=>r vs H1 Q
theorem zjn (hc : CallR X (.builtin id) r) (hg : Gl X x) (hm : X.mg x = none) (hv : bootBuiltins x = some (.builtin id)) (ha : PA X (e :: es) t) (hn : x ≠ "__name__" := by decide) (hdb : (x == ("__debug__" : Str)) = false := by decide)
  (he:starEach (e::es) X.env=(false,eval e X.env)::starEach es X.env:=by rfl) (hpl:(backTo pos (starEach es X.env)).any (·.1)=false:=by rfl):PE X (.Call (.Name x p) (e::es) [] pos) (tCB r t):=by
 intro pins s σ H Q I h;refine xef (zmk I hg hm hv ?_ hn hdb);exact xjf (thn (ha pos pins s σ H _ I h) fun us s1 ⟨vs,H1,I1,r1,q1⟩=>hc pins s1 σ H1 vs us Q I1 r1 q1) he hpl
theorem zqq (hc : CallR X (.type T) r) (hg : Gl X x) (hm : X.mg x = none) (hv : bootBuiltins x = some (.type T)) (ha : PA X (e :: es) t) (hn : x ≠ "__name__" := by decide) (hdb : (x == ("__debug__" : Str)) = false := by decide)
  (he:starEach (e::es) X.env=(false,eval e X.env)::starEach es X.env:=by rfl) (hpl:(backTo pos (starEach es X.env)).any (·.1)=false:=by rfl):PE X (.Call (.Name x p) (e::es) [] pos) (tCB r t):=by
 intro pins s σ H Q I h;refine xef (zmk I hg hm hv ?_ hn hdb);exact xhe (thn (ha pos pins s σ H _ I h) fun us s1 ⟨vs,H1,I1,r1,q1⟩=>hc pins s1 σ H1 vs us Q I1 r1 q1) he hpl
end
end L2
namespace HT
open PySem PyProof.Rows
noncomputable def lexLt:List Int->List Int->Bool
 | [],[]=>false
 | [],_::_=>true
 | _::_,[]=>false
 | x::xs,y::ys=>if x=y then lexLt xs ys else decide (x < y)
theorem zch (x y:Int) (xs ys:List Int):lexLt (x::xs) (y::ys)=if x=y then lexLt xs ys else decide (x < y):=rfl
theorem zcw:lexLt [] []=false:=rfl
theorem zbr (y:Int) (ys:List Int):lexLt [] (y::ys)=true:=rfl
theorem zco (x:Int) (xs:List Int):lexLt (x::xs) []=false:=rfl
theorem zve (A:Around) (s:Shared) (a:Int) (t:Tok) (c:Int) (u:Tok):∃e,SeqAt.EqAt A s (.int a t) (.int c u) e/\(e=true↔a=c) :=
 ⟨(a == c),SeqAt.EqAt.int_int a t c u,by simp⟩
theorem zty (A:Around) (s:Shared) (a:Int) (t:Tok) (c:Int) (u:Tok) (prog:Program) (w:World) (E:Value->Shared->Prop) (Q:Value->Shared->Prop) (h:Q (.bool (decide (a < c))) s) :
  wpAny (model prog w) A (richCompare .Lt (.int a t) (.int c u)) Q E s :=
 (PyProof.Rows.lt_int h:wpAny (model prog w) A (compareOp .Lt (.int a t) (.int c u)) Q E s)
section
open PySem.SeqAt
open PySem.AutoSeq1 (wpAny_loadPart')
open PySem.MeetsSeq PySem.MeetsSeq2 PySem.MeetsSeq3
theorem zem (l b:Addr) (items items2:Array Value) (n n2:Nat) (dd dd2:Option Addr) (sl sl2:Array (Option Value)) (ns ms:List Int) (hi:IntsAre items.toList ns) (hj:IntsAre items2.toList ms) :
  Meets (Builtin.«tuple.__lt__» ⟨[.ref l,.ref b],[]⟩)
   (fun _ R s => s.heap.get? l = some { cls := .type "tuple", dict := dd, data := .seq items n, slots := sl } /\ s.heap.get? b = some { cls := .type "tuple", dict := dd2, data := .seq items2 n2, slots := sl2 } /\
    R (.ok (.ret (.bool (lexLt ns ms)))) s) :=
 .of_wp fun prog w A R s h=>by
  obtain ⟨hp,g,d,tk,os⟩:=s;obtain ⟨hl,hb,h⟩:=h
  have f2:=AutoSeq1.sub_tuple_tuple;have z1:items.size=ns.length:=by rw[← hi.length];simp
  have z2:items2.size=ms.length:=by rw[← hj.length];simp
  wp_walk using wpAny_loadPart' hl,wpAny_loadPart' hb,wpAny_forIn_list _ (fun rest b s'=>b.1=none/\s'=⟨hp,g,d,tk,os⟩/\∃(vs ws:List Value) (ns' ms':List Int),rest=vs.zip ws /\
   IntsAre vs ns'/\IntsAre ws ms'/\ns'.length+items2.size=ms'.length+items.size/\R (.ok (.ret (.bool (lexLt ns' ms')))) ⟨hp,g,d,tk,os⟩) _
  case turn =>
   rintro ⟨y,x⟩ rest b s' ⟨hb',rfl,vs,ws,ns',ms',hz,hvi,hwi,hlen,hR⟩;cases hvi with
   | nil=>rw[List.zip_nil_left] at hz;cases hz
   | cons a t hvi' =>
    cases hwi with
    | nil=>rw[List.zip_nil_right] at hz;cases hz
    | cons c u hwi' =>
     rw[List.zip_cons_cons] at hz;injection hz with hyx hrest
     injection hyx with hy hx
     subst hy hx;rw[zch] at hR;simp only[xcd] at hlen;obtain ⟨e,he,hiff⟩:=zve A.in1 ⟨hp,g,d,tk,os⟩ a t c u;refine xba (he prog w _ _ ?_);cases e with
     | true =>
      rw[if_pos (hiff.mp rfl)] at hR
      wp_walk
      exact ⟨rfl,rfl,_,_,_,_,hrest,hvi',hwi',by lia,hR⟩
     | false =>
      rw[if_neg (fun q=>absurd (hiff.mpr q) xez)] at hR;have hri:=zty A.in1 ⟨hp,g,d,tk,os⟩ a t c u prog w
      wp_walk using hri
      exact ⟨_,rfl,by simpa using hR⟩
  case fin =>
   rintro ⟨b1,b2⟩ s' ⟨hb',rfl,vs,ws,ns',ms',hz,hvi,hwi,hlen,hR⟩;simp only at hb';subst hb';have hv:lexLt ns' ms'=decide (items.size < items2.size):=by
    cases hvi with
    | nil =>
     cases hwi with
     | nil =>
      simp only[xjg] at hlen;rw[zcw];exact (xci (by lia)).symm
     | cons c u hw =>
      simp only[xjg,xcd] at hlen;rw[zbr];exact (xdc (by lia)).symm
    | cons a t hv =>
     cases hwi with
     | nil =>
      simp only[xjg,xcd] at hlen;rw[zco];exact (xci (by lia)).symm
     | cons c u hw =>
      rw[List.zip_cons_cons] at hz;cases hz
   rw[hv] at hR
   wp_walk
   exact ⟨_,rfl,by simpa [Builtin.Tuple.tupleCompareSizes] using hR⟩
  case h =>
   exact ⟨rfl,rfl,items.toList,items2.toList,ns,ms,rfl,hi,hj,by lia,h⟩
end
section
variable {prog:Program} {w:World} {A:Around} {E:Value->Shared->Prop} {s:Shared}
theorem zim {l b:Addr} {items items2:Array Value} {ns ms:List Int} {Q:Value->Shared->Prop} (hl:IsTup s.heap l items) (hb:IsTup s.heap b items2) (hi:IntsAre items.toList ns) (hj:IntsAre items2.toList ms)
  (hu:A.units < cLine) (h:Q (.bool (lexLt ns ms)) s):wpAny (model prog w) A (compareOp .Lt (.ref l) (.ref b)) Q E s:=by
 obtain ⟨⟨cls,dd,data,sl⟩,ho,hc,n,hd⟩:=id hl;obtain ⟨⟨cls2,dd2,data2,sl2⟩,ho2,hc2,n2,hd2⟩:=id hb;simp only at hc hd hc2 hd2;subst hc hd hc2 hd2;exact richCompare_meets_room (op:=.Lt) ⟨_,ho,rfl⟩ ⟨_,ho2,rfl⟩ xiy PySem.F.entry_tuple_lt (PySem.F.args_tuple_lt_2 _ _) (zem l b items items2 n n2 dd dd2 sl sl2 ns ms hi hj)
  ⟨ho,ho2,show Value.bool (lexLt ns ms)≠Value.notImplemented/\Q (.bool (lexLt ns ms)) s from ⟨(fun x=>nomatch x),h⟩⟩ hu
theorem zbau {t b:Addr} {vs ws:List Value} {Q:Value->Shared->Prop} (ht:IsTup s.heap t vs.toArray) (hb:IsTup s.heap b ws.toArray) (hv:vs≠[])
  (h1 : ws = [] -> Q (.ref t) s) (h2 : ws ≠ [] -> Q (.ref s.heap.objs.size) { s with heap := s.heap.push { cls := .type "tuple", data := .seq (vs ++ ws).toArray } })
  (hsz:vs.length+ws.length<=sizeLine):wpAny (model prog w) A (binaryOp .Add (.ref t) (.ref b)) Q E s:=by
 obtain ⟨⟨cls,dd,data,sl⟩,ho,hc,n,hd⟩:=id ht;obtain ⟨⟨cls2,dd2,data2,sl2⟩,ho2,hc2,n2,hd2⟩:=id hb;simp only at hc hd hc2 hd2;subst hc hd hc2 hd2;have e:vs.toArray++ws.toArray=(vs++ws).toArray:=by simp
 by_cases hw:ws=[]
 ·exact concat_meets ⟨_,ho,rfl⟩ ⟨_,ho2,rfl⟩ noFill_tuple_add seq_tuple_add xiq xif (xhz _ _)
   (tuple_addW1 t b vs.toArray ws.toArray n n2 dd dd2 sl sl2 (by simpa using hv) (by simp[hw])) ⟨ho,ho2,h1 hw⟩
 ·refine concat_meets ⟨_,ho,rfl⟩ ⟨_,ho2,rfl⟩ noFill_tuple_add seq_tuple_add xiq xif (xhz _ _)
   (tuple_addW2 t b vs.toArray ws.toArray n n2 dd dd2 sl sl2 (by simpa using hv) (by simpa using hw) (by rw[xbp,xbp];exact hsz)) ⟨ho,ho2,?_⟩
  rw[e];exact h2 hw
noncomputable def sIx (n d:Nat):Option Int->Nat
 | none=>d
 | some v=>if v < 0 then (v+(n:Int)).toNat else min v.toNat n
theorem znd (n d:Nat):sIx n d none=d:=rfl
theorem zso (n d k:Nat):sIx n d (some (k:Int))=min k n:=by
 show (if (k:Int) < 0 then ((k:Int)+(n:Int)).toNat else min (k:Int).toNat n)=min k n;rw[if_neg (by lia),xjt]
theorem zbcf (n d:Nat) (hd:d<=n) (o:Option Int):sIx n d o<=n:=by
 cases o with
 | none=>exact hd
 | some v =>
  show (if v < 0 then (v+(n:Int)).toNat else min v.toNat n)<=n;by_cases hv:v < 0
  ·rw[if_pos hv];lia
  ·rw[if_neg hv];exact xfh _ _
theorem ztj (v:Int) (n d:Nat):(if v < 0 then max (v+(n:Int)) 0 else min v (n:Int))=((sIx n d (some v):Nat):Int):=by
 show (if v < 0 then max (v+(n:Int)) 0 else min v (n:Int))=(((if v < 0 then (v+(n:Int)).toNat else min v.toNat n):Nat):Int)
 by_cases hv:v < 0
 ·simp only[if_pos hv];lia
 ·simp only[if_neg hv];lia
theorem zpn (lo hi:Option Int) (n:Nat):Builtin.Slice.sliceAdjust lo hi 1 (n:Int)=(((sIx n 0 lo:Nat):Int),((sIx n n hi:Nat):Int)):=by
 have h1:¬ ((1:Int) < 0):=by lia
 unfold Builtin.Slice.sliceAdjust;simp only[h1,xep];refine Prod.ext ?_ ?_
 ·cases lo with
  | none=>rfl
  | some v=>exact ztj v n 0
 ·cases hi with
  | none=>rfl
  | some v=>exact ztj v n n
theorem znm (i j:Nat):Builtin.Slice.slicePlaces (i:Int) (j:Int) 1=j - i:=by
 unfold Builtin.Slice.slicePlaces;have h1:(1:Int) > 0:=by lia
 simp only[h1,xfj,Int.ediv_one];split<;>lia
theorem zig {v:Value} {o:Option Int} {Q:Option Int->Shared->Prop} (p:IsPart v o) (h:Q o s):wpAny (model prog w) A (Builtin.Slice.slicePartIndex v) Q E s:=by
 cases p with
 | none=>exact slicePart_none h
 | int i t=>exact slicePart_int h
theorem zcu {sl:Addr} {vl vu:Value} {lo hi:Option Int} {n:Nat} {Q:Int × Int × Nat->Shared->Prop} (hs:s.heap.IsSliceOf sl vl vu .none) (pl:IsPart vl lo) (pu:IsPart vu hi)
  (h:Q (((sIx n 0 lo:Nat):Int),1,sIx n n hi - sIx n 0 lo) s):wpAny (model prog w) A (Builtin.Slice.sliceApplied (.ref sl) (pure (n:Int))) Q E s:=by
 obtain ⟨os,hos,hcs,hds⟩:=id hs;unfold Builtin.Slice.sliceApplied Builtin.Slice.sliceFields;refine xba (xba (xho hos hds (x:=vl) rfl (xba (xho hos hds (x:=vu) rfl (xba (xho hos hds (x:=.none) rfl (xbh ?_)))))));refine xba (slicePart_none ?_);show wpAny _ _ (if ((1:Int) == 0)=true then _ else _) _ _ s;rw[if_neg (by decide)];refine xba (zig pl (xba (zig pu (xba (xbh ?_)))));show wpAny _ _ (match Builtin.Slice.sliceAdjust lo hi 1 (n:Int) with | (lo,hi)=>pure (lo,(1:Int),Builtin.Slice.slicePlaces lo hi 1)) _ _ s;rw[zpn lo hi n];show wpAny _ _ (pure (((sIx n 0 lo:Nat):Int),(1:Int),Builtin.Slice.slicePlaces ((sIx n 0 lo:Nat):Int) ((sIx n n hi:Nat):Int) 1)) _ _ s;rw[znm];exact xbh h
theorem zuf (xs:Array Value) (i k:Nat):((List.range k).filterMap fun (m:Nat)=>xs[((i:Int)+(m:Int) * 1).toNat]?).toArray=((xs.toList.drop i).take k).toArray:=by
 have e:(fun (m:Nat)=>xs[((i:Int)+(m:Int) * 1).toNat]?)=fun m=>xs[i+m]?:=by
  funext m
  have:((i:Int)+(m:Int) * 1).toNat=i+m:=by lia
  rw[this]
 rw[e];have:=pick_run xs i k;rw[List.filterMap_map] at this;have e2:((fun x=>xs[x]?) ∘ fun x=>i+x)=fun m=>xs[i+m]?:=rfl
 rw[e2] at this;rw[this]
theorem zes {t sl:Addr} {items:Array Value} {vl vu:Value} {lo hi:Option Int} {Q:Value->Shared->Prop} (ht:IsTup s.heap t items) (hs:s.heap.IsSliceOf sl vl vu .none) (pl:IsPart vl lo) (pu:IsPart vu hi)
  (hw:¬ (sIx items.size 0 lo=0/\sIx items.size items.size hi=items.size))
  (h : Q (.ref s.heap.objs.size) { s with heap := s.heap.push { cls := .type "tuple", data := .seq ((items.toList.drop (sIx items.size 0 lo)).take (sIx items.size items.size hi - sIx items.size 0 lo)).toArray } })
  (hsz:items.size<=sizeLine):wpAny (model prog w) A (getItem (.ref t) (.ref sl)) Q E s:=by
 have htake:sizeOk (.seq ((items.toList.drop (sIx items.size 0 lo)).take (sIx items.size items.size hi - sIx items.size 0 lo)).toArray):=by
  show ((items.toList.drop (sIx items.size 0 lo)).take (sIx items.size items.size hi - sIx items.size 0 lo)).toArray.size<=sizeLine;rw[xbp,xdb,xgd,xbx];lia
 have hj:sIx items.size items.size hi<=items.size:=zbcf _ _ (xbe _) hi;obtain ⟨os,hos,hcs,hds⟩:=id hs;have hTs : s.TypeIs (.ref sl) "slice" := ⟨os, hos, hcs⟩
 unfold getItem
 try with_reducible refine xdt ?_
 first | refine xba (xbh ?_) | skip
 refine xba (wpAny_sequenceKey ht.typeIs (by decide) ?_)
 refine xba (wpAny_callSpecial?_slot (name := Str.ofString "__getitem__") ht.typeIs xgk
  (xfk xgk ht.typeIs entry_tuple_getitem ?_ (args_tuple_getitem _ _)))
 show wpAny _ _ (Builtin.Tuple.tupleItemsOf (.ref t) >>= _) _ _ s;refine xba (tupleItemsOf_ ht ?_);refine xba (wpAny_typeOf hTs ?_);rw[if_pos (by decide)];refine xba (zcu hs pl pu ?_);have hno:¬ ((((sIx items.size 0 lo:Nat):Int) == 0 && (1:Int) == 1 && (sIx items.size items.size hi - sIx items.size 0 lo) == items.size)=true):=by
  intro q;rw[xfi,xfi] at q;have q1:((sIx items.size 0 lo:Nat):Int)=0:=eq_of_beq q.1.1;have q2:sIx items.size items.size hi - sIx items.size 0 lo=items.size:=eq_of_beq q.2;exact hw ⟨by lia,by lia⟩
 show wpAny _ _ (if (((sIx items.size 0 lo:Nat):Int) == 0 && (1:Int) == 1 && (sIx items.size items.size hi - sIx items.size 0 lo) == items.size)=true then _ else _) _ _ s;rw[if_neg hno,zuf]
 first
  | exact xba (m:=Builtin.Tuple.tupleExact _) (xeb (xbh ⟨_,rfl,xbh h⟩) htake)
  | exact xba (m:=Builtin.Tuple.tupleExact _) (xeb (xba (xbh (xbh ⟨_,rfl,xbh h⟩))) htake)
  | exact xba (xba (m:=Builtin.Tuple.tupleExact _) (xeb (xbh (xbh ⟨_,rfl,xbh h⟩)) htake))
  | exact xba (xba (m:=Builtin.Tuple.tupleExact _) (xeb (xbh ⟨_,rfl,xbh h⟩) htake))
end
end HT
namespace L2
open PySem PySem.Spec PyProof.Rows
noncomputable abbrev TO:=St->Hp->(Option Int->Hp->Prop)->Prop
noncomputable def PO (X:Cx) (e:Option Expr) (t:TO):Prop :=
 ∀(pins:List (Addr × Obj)) (s:Shared) (σ:St) (H:Hp) (Q:Option Int->Hp->Prop),Inv X pins σ H s->t σ H Q ->
  wpAny (model X.prog X.w) X.A (evalPart e X.env) (fun u s'=>∃o H',Inv X pins σ H' s'/\IsPart u o/\Q o H') X.xe s
noncomputable def tNoPart:TO:=fun _ H Q=>Q none H
noncomputable def tPart (t:TE):TO:=fun σ H Q=>t σ H fun x H1=>∃i,x=.int i/\Q (some i) H1
theorem zdw {ns:List Int}:∀{us:List Value},Vals (ns.map V.int) us->IntsAre us ns:=by
 induction ns with
 | nil=>intro us r;rw[xjy] at r;cases r;exact .nil
 | cons n ns ih =>
  intro us r;rw[xbq] at r;cases r with
  | cons r1 r2 =>
   obtain ⟨t,e⟩:=r1;subst e;exact .cons n t (ih r2)
section
variable {X:Cx} {e:Expr} {te:TE} {lo hi:Option Expr} {tl th:TO} {pos p2:Pos}
theorem zxr:PO X none tNoPart:=by
 intro pins s σ H Q I h;rw[evalPart_none];exact xbh ⟨none,H,I,.none,h⟩
theorem zxq (h:PE X e te):PO X (some e) (tPart te):=by
 intro pins s σ H Q I hw;rw[evalPart_some];refine thn (h pins s σ H _ I hw) fun u s1 hq0=>?_
 obtain ⟨x,H1,I1,r1,q1⟩:=hq0;obtain ⟨i,rfl,q⟩:=q1;obtain ⟨t,rfl⟩:=r1;exact ⟨some i,H1,I1,.int i t,q⟩
noncomputable def SlR (X:Cx) (r:V->Option Int->Option Int->Hp->VK->Prop):Prop :=
 ∀(pins:List (Addr × Obj)) (s:Shared) (σ:St) (H:Hp) (x:V) (v vl vu:Value) (lo hi:Option Int) (sl:Addr) (Q:VK),Inv X pins σ H s->RelV x v->s.heap.IsSliceOf sl vl vu .none->IsPart vl lo->IsPart vu hi->r x lo hi H Q ->
  ∃ T id, typeLookup (.type T) "__getitem__" = pure (some (.builtin id)) /\ s.TypeIs v T /\ wpAny (model X.prog X.w) X.A (getItem v (.ref sl)) (EP X pins σ Q) X.xe s
theorem SlR.or {r r':V->Option Int->Option Int->Hp->VK->Prop} (h:SlR X r) (h':SlR X r'):SlR X (fun x lo hi H Q=>r x lo hi H Q\/r' x lo hi H Q):=by
 intro pins s σ H x v vl vu lo hi sl Q I rx hs pl pu q;rcases q with q | q
 ·exact h pins s σ H x v vl vu lo hi sl Q I rx hs pl pu q
 ·exact h' pins s σ H x v vl vu lo hi sl Q I rx hs pl pu q
noncomputable def tSl (r:V->Option Int->Option Int->Hp->VK->Prop) (te:TE) (tl th:TO):TE:=fun σ H Q=>te σ H fun x H1=>tl σ H1 fun l H2=>th σ H2 fun u H3=>r x l u H3 Q
theorem zuh {r:V->Option Int->Option Int->Hp->VK->Prop} (hr:SlR X r) (he:PE X e te) (hl:PO X lo tl) (hu:PO X hi th):PE X (.Subscript e (.Slice lo hi none p2) pos) (tSl r te tl th):=by
 intro pins s σ H Q I h;refine Subscript_ (thn (he pins s σ H _ I h) fun v s1 hq0=>?_);obtain ⟨x,H1,I1,r1,q1⟩:=hq0;refine wpAny_Slice (thn (hl pins s1 σ H1 _ I1 q1) fun vl s2 ⟨l,H2,I2,pl,q2⟩=>thn (hu pins s2 σ H2 _ I2 q2) fun vu s3 hq0=>?_);obtain ⟨u,H3,I3,pu,q3⟩:=hq0;rw[evalPart_none];refine xbh ?_;have I4 : Inv X pins σ H3 { s3 with heap := s3.heap.push { cls := .type "slice", data := .fields #[vl, vu, .none] } } := I3.kept (t' := s3.toks) fun b ob q => xbg _ q
 obtain ⟨T, id, hT, ht, hg⟩ := hr pins { s3 with heap := s3.heap.push { cls := .type "slice", data := .fields #[vl, vu, .none] } } σ H3 x v vl vu l u s3.heap.objs.size Q I4 r1 (Heap.IsSliceOf.new ..) pl pu q3
 show wpAny (model X.prog X.w) X.A (subscriptTail e (.Slice lo hi none p2) v (.ref s3.heap.objs.size)) (EP X pins σ Q) X.xe { s3 with heap := s3.heap.push { cls := .type "slice", data := .fields #[vl, vu, .none] } }
 exact tail_any (ops:=[.ref s3.heap.objs.size,v]) ht hT hg (by with_unfolding_all rfl)
noncomputable def cutV (xs:List V) (lo hi:Option Int):List V:=(xs.drop (HT.sIx xs.length 0 lo)).take (HT.sIx xs.length xs.length hi - HT.sIx xs.length 0 lo)
theorem zgy (xs:List V) (lo hi:Option Int):(cutV xs lo hi).length<=xs.length:=by
 unfold cutV;rw[xdb,xgd];lia
noncomputable def rSlT (K:Fg):V->Option Int->Option Int->Hp->VK->Prop:=fun x lo hi H Q=>∃a xs,x=.ref a/\SqT K H a xs /\
 ¬ (HT.sIx xs.length 0 lo=0/\HT.sIx xs.length xs.length hi=xs.length)/\∀p,H p=none->Q (.ref p) (upd H p (.tup (cutV xs lo hi)))
theorem zbby:SlR X (rSlT X.K):=by
 intro pins s σ H x v vl vu lo hi sl Q I rx hs pl pu h;obtain ⟨a,xs,rfl,hx,hw,q⟩:=h;cases rx;obtain ⟨its,r,ht,hz⟩:=I.tuple hx;have hlen:its.toArray.size=xs.length:=by rw[xbp];exact r.length.symm
 refine ⟨"tuple", _, xgk.lookup, ht.typeIs, ?_⟩
 refine HT.zes ht hs pl pu (by rw[hlen];exact hw) ?_ (by rw[hlen];exact hz);rw[hlen];refine ⟨.ref s.heap.objs.size,_,I.laid (t':=s.toks) (o:=.tup (cutV xs lo hi)) (fun b ob q=>xbg _ q) (xbe _) ?_,rfl,q _ (I.hok.fresh (xbe _))⟩;exact ⟨xbb (zgy xs lo hi) hz,_,(r.drop (HT.sIx xs.length 0 lo)).take (HT.sIx xs.length xs.length hi - HT.sIx xs.length 0 lo),IsTup.new _ _⟩
noncomputable def rLtT (K:Fg):R2:=fun x y H Q=>∃a b ns ms,x=.ref a/\y=.ref b/\SqT K H a (ns.map V.int)/\SqT K H b (ms.map V.int)/\Q (.bl (HT.lexLt ns ms)) H
theorem zbde (hu:X.A.units < cLine):OpR X (compareOp .Lt) (rLtT X.K):=by
 intro pins s σ H x y v u Q I rx ry h;obtain ⟨a,b,ns,ms,rfl,rfl,ha,hb,q⟩:=h;cases rx;cases ry;obtain ⟨its,r1,p1,_⟩:=I.tuple ha;obtain ⟨its2,r2,p2,_⟩:=I.tuple hb;have i1:IntsAre its.toArray.toList ns:=zdw r1;have i2:IntsAre its2.toArray.toList ms:=zdw r2;exact HT.zim p1 p2 i1 i2 hu ⟨.bl (HT.lexLt ns ms),H,I,rfl,q⟩
noncomputable def rCatT (K:Fg):R2:=fun x y H Q=>∃a b xs ys,x=.ref a/\y=.ref b/\SqT K H a xs/\SqT K H b ys/\xs≠[]/\xs.length+ys.length<=sizeLine /\
 (ys=[]->Q (.ref a) H)/\(ys≠[]->∀p,H p=none->Q (.ref p) (upd H p (.tup (xs++ys))))
theorem Vals.nil_iff {xs:List V} {us:List Value} (r:Vals xs us):us=[]↔xs=[]:=by
 cases r with
 | nil=>simp
 | cons _ _=>simp
theorem zyk:OpR X (binaryOp .Add) (rCatT X.K):=by
 intro pins s σ H x y v u Q I rx ry h;obtain ⟨a,b,xs,ys,rfl,rfl,ha,hb,hx,hz,q1,q2⟩:=h;cases rx;cases ry;obtain ⟨its,r1,p1,_⟩:=I.tuple ha;obtain ⟨its2,r2,p2,_⟩:=I.tuple hb;refine HT.zbau p1 p2 (fun z=>hx (r1.nil_iff.mp z)) (fun z=>⟨.ref a,H,I,rfl,q1 (r2.nil_iff.mp z)⟩) (fun z=>?_) (by rw[← r1.length,← r2.length];exact hz);refine ⟨.ref s.heap.objs.size,_,I.laid (t':=s.toks) (o:=.tup (xs++ys)) (fun b ob q=>xbg _ q) (xbe _) ?_,rfl,q2 (fun w=>z (r2.nil_iff.mpr w)) _ (I.hok.fresh (xbe _))⟩;exact ⟨by rw[xbm];exact hz,_,r1.append r2,IsTup.new _ _⟩
end
noncomputable def ixN (n:Nat) (i:Int):Option Nat:=if 0<=i then (if i < n then some i.toNat else none) else if -(n:Int)<=i then some (i+n).toNat else none
noncomputable def atI {α:Type} (xs:List α) (i:Int):Option α:=(ixN xs.length i).bind fun j=>xs[j]?
theorem zsw {n:Nat} {i:Int} {j:Nat} (h:ixN n i=some j):seqIndex? i n=some j/\j < n/\-(n:Int)<=i/\i < n:=by
 unfold ixN at h;by_cases h0:0<=i
 ·rw[if_pos h0] at h;by_cases h1:i < n
  ·rw[if_pos h1] at h;have e:i.toNat=j:=xbw h;exact ⟨by rw[seqIndex_of h0 h1,e],by lia,by lia,h1⟩
  ·rw[if_neg h1] at h;cases h
 ·rw[if_neg h0] at h;by_cases h1:-(n:Int)<=i
  ·rw[if_pos h1] at h;have e:(i+n).toNat=j:=xbw h;exact ⟨by rw[seqIndex_neg (by lia) h1,e],by lia,h1,by lia⟩
  ·rw[if_neg h1] at h;cases h
theorem zpl {α:Type} {xs:List α} {i:Int} {v:α} (h:atI xs i=some v):∃j,seqIndex? i xs.length=some j/\xs[j]?=some v/\j < xs.length/\-(xs.length:Int)<=i/\i < xs.length:=by
 unfold atI at h;cases e:ixN xs.length i with
 | none=>rw[e] at h;cases h
 | some j =>
  rw[e] at h;obtain ⟨h1,h2,h3,h4⟩:=zsw e;exact ⟨j,h1,h,h2,h3,h4⟩
theorem ztm {α:Type} {xs:List α} {j:Nat} {v:α} (h:xs[j]?=some v):atI xs (j:Int)=some v:=by
 have hj:j < xs.length:=(xbl.mp h).1;have e:ixN xs.length (j:Int)=some j:=by
  unfold ixN;rw[if_pos (by lia),if_pos (by lia)];simp
 unfold atI;rw[e];exact h
noncomputable def PlainIx (b:Expr):Prop:=∀o i,subscripted b false o i=operate [o,i] (getItem o i)
noncomputable def IxR (X:Cx) (r:R2):Prop :=
 ∀(value slice:Expr) (pins:List (Addr × Obj)) (s:Shared) (σ:St) (H:Hp) (x y:V) (v u:Value) (Q:VK),Inv X pins σ H s->RelV x v->RelV y u->r x y H Q ->
  subscripted slice false v u=operate [v,u] (getItem v u)->wpAny (model X.prog X.w) X.A (subscriptTail value slice v u) (EP X pins σ Q) X.xe s
noncomputable def MtR (X:Cx) (id:String) (r:V->List V->Hp->VK->Prop):Prop :=
 ∀(pins:List (Addr × Obj)) (s:Shared) (σ:St) (H:Hp) (x:V) (xs:List V) (v:Value) (us:List Value) (Q:VK),Inv X pins σ H s->RelV x v->Vals xs us->r x xs H Q ->
  wpAny (model X.prog X.w) X.A (call (.builtin id) (v::us)) (EP X pins σ Q) X.xe s
section
variable {X:Cx} {a b:Expr} {ta tb:TE} {pos:Pos}
theorem IxR.or {r r':R2} (h:IxR X r) (h':IxR X r'):IxR X (fun x y H Q=>r x y H Q\/r' x y H Q):=by
 intro value slice pins s σ H x y v u Q I rx ry q hs;rcases q with q | q
 ·exact h value slice pins s σ H x y v u Q I rx ry q hs
 ·exact h' value slice pins s σ H x y v u Q I rx ry q hs
theorem zbhq {r:R2} (hr:IxR X r) (ha:PE X a ta) (hb:PE X b tb) (hs:PlainIx b):PE X (.Subscript a b pos) (tOp r ta tb):=by
 intro pins s σ H Q I h;exact Subscript_ (binT ha hb I h fun v u s2 x y H2 I2 rx ry q=>hr a b pins s2 σ H2 x y v u Q I2 rx ry q (hs _ _))
noncomputable def rIxL (K:Fg):R2:=fun x y H Q=>∃p xs i v,x=.ref p/\y=.int i/\SqL K H p xs/\atI xs i=some v/\Q v H
noncomputable def rIxT (K:Fg):R2:=fun x y H Q=>∃p xs i v,x=.ref p/\y=.int i/\SqT K H p xs/\atI xs i=some v/\Q v H
noncomputable def rIxS:R2:=fun x y H Q=>∃z i c,x=.str z/\y=.int i/\z.length<=sizeLine/\atI z.cps.toList i=some c/\Q (.str ⟨#[c]⟩) H
theorem zza:IxR X (rIxL X.K):=by
 intro value slice pins s σ H x y v u Q I rx ry h hs;obtain ⟨p,xs,i,z,rfl,rfl,hq,he,q⟩:=h;cases rx;obtain ⟨t,rfl⟩:=ry;obtain ⟨its,r,pl,hz⟩:=I.list hq;obtain ⟨j,h1,h2,h3,h4,h5⟩:=zpl he;obtain ⟨w,ew,rw'⟩:=r.get h2;have hl:=r.length;have hn:=line63;have fin:EP X pins σ Q w s:=⟨z,H,I,rw',q⟩
 by_cases h0:0<=i
 ·have hj:i.toNat=j:=by
   rw[seqIndex_of h0 h5] at h1;exact xbw h1
  exact item_listR pl.isList h0 (by lia) (by rw[hj];simpa using ew) fin hs
 ·have hj:(i+(its.toArray.size:Int)).toNat=j:=by
   rw[seqIndex_neg (by lia) h4] at h1;rw[xbp,← hl];exact xbw h1
  exact subscriptTail_builtinR (x:=w) pl.isList.typeIs slot_list_getitem.lookup
   (wpAny_getItem_list_neg (Q:=fun r s'=>r=w/\EP X pins σ Q r s') pl.isList (by lia) (by rw[xbp]<;>lia) (by lia) (by rw[hj];simpa using ew) ⟨rfl,fin⟩) hs
theorem zbdu:IxR X (rIxT X.K):=by
 intro value slice pins s σ H x y v u Q I rx ry h hs;obtain ⟨p,xs,i,z,rfl,rfl,hq,he,q⟩:=h;cases rx;obtain ⟨t,rfl⟩:=ry;obtain ⟨its,r,pl,hz⟩:=I.tuple hq;obtain ⟨j,h1,h2,h3,h4,h5⟩:=zpl he;obtain ⟨w,ew,rw'⟩:=r.get h2;have hl:=r.length;have hn:=line63;have fin:EP X pins σ Q w s:=⟨z,H,I,rw',q⟩
 exact subscriptTail_builtinR (x:=w) pl.typeIs xic.lookup
  (getItem_tuple (j:=j) (Q:=fun r s'=>r=w/\EP X pins σ Q r s') pl (by lia) (by lia) (by rw[xbp,← hl];exact h1) (by simpa using ew) ⟨rfl,fin⟩) hs
theorem zbdv:IxR X rIxS:=by
 intro value slice pins s σ H x y v u Q I rx ry h hs;obtain ⟨z,i,c,rfl,rfl,hz,he,q⟩:=h;obtain ⟨t,rfl⟩:=rx;obtain ⟨t',rfl⟩:=ry;obtain ⟨j,h1,h2,h3,h4,h5⟩:=zpl he;have hl:z.cps.toList.length=z.length:=by simp[Str.length]
 rw[hl] at h1 h4 h5;have hn:=line63
 exact tail_any (typeIs_str s z t) slot_str_getitem.lookup (getItem_str (c:=c) (by
  have e1:decide (i < -(2 ^ 63:Int))=false:=xci (by lia);have e2:decide (i ≥ 2 ^ 63)=false:=xci (by lia)
  rw[e1,e2,Bool.or_false]) (by rw[h1];simpa using h2) ⟨.str ⟨#[c]⟩,H,I.tok _,⟨_,rfl⟩,q⟩) hs
noncomputable def rIx (K:Fg):R2:=fun x y H Q=>rIxL K x y H Q\/rIxT K x y H Q\/rIxS x y H Q
theorem zbdw:IxR X (rIx X.K):=zza.or (zbdu.or zbdv)
theorem zoa (its : List Value) (n j : Nat) (u : Value) : Obj.mapSeq (·.setIfInBounds j u) { cls := .type "list", data := .seq its.toArray n } = { cls := .type "list", data := .seq (its.set j u).toArray n } := by
 simp[Obj.mapSeq]
theorem Inv.lst {pins:List (Addr × Obj)} {σ:St} {H:Hp} {s:Shared} {p:Addr} {xs:List V} (I:Inv X pins σ H s) (h:H p=some (.lst xs)) :
  ∃ (its : List Value) (n : Nat), Vals xs its /\ s.heap.get? p = some { cls := .type "list", data := .seq its.toArray n } /\ xs.length <= sizeLine := by
 obtain ⟨z,its,n,r,e⟩:=I.hok p _ h;exact ⟨its,n,r,e,z⟩
theorem Inv.lstUpd {pins:List (Addr × Obj)} {σ:St} {H:Hp} {s:Shared} {p:Addr} {xs ys:List V} {its its':List Value} {n n':Nat} {f:Obj->Obj} (I:Inv X pins σ H s) (h:H p=some (.lst xs))
  (ho : s.heap.get? p = some { cls := .type "list", data := .seq its.toArray n }) (hf : f { cls := .type "list", data := .seq its.toArray n } = { cls := .type "list", data := .seq its'.toArray n' }) (r : Vals ys its') (hz : ys.length <= sizeLine) (t : Nat) :
  Inv X pins σ (upd H p (.lst ys)) {s with heap:=s.heap.update p f,toks:=t}:=by
 have e : (s.heap.update p f).get? p = some { cls := .type "list", data := .seq its'.toArray n' } := by
  rw[xha f ho (by rw[hf]<;>rfl),hf]
 refine I.write (x:=p) (e:=p) (by rw[h];trivial) (.inl rfl) (fun b u hb q=>(xdd _ _ (xej hb)).trans q) ⟨_,e⟩ ?_;exact ⟨hz,its',n',r,e⟩
noncomputable def rSetL:V->V->V->Hp->(Hp->Prop)->Prop:=fun o i v H Q=>∃p xs k j,o=.ref p/\i=.int k/\H p=some (.lst xs)/\ixN xs.length k=some j/\Q (upd H p (.lst (xs.set j v)))
theorem ztv:PSet X rSetL:=by
 intro pins s σ H o i v ov iv u Q I ro ri rv h;obtain ⟨p,xs,k,j,rfl,rfl,hp,hj,q⟩:=h;cases ro;obtain ⟨t,rfl⟩:=ri;obtain ⟨its,n,r,ho,hz⟩:=I.lst hp;obtain ⟨h1,h2,h3,h4⟩:=zsw hj;have hl:=r.length;have hn:=line63;have I':Inv X pins σ (upd H p (.lst (xs.set j v))) {s with heap:=s.heap.update p (Obj.mapSeq (·.setIfInBounds j u))} :=
  I.lstUpd hp ho (zoa its n j u) (r.set rv j) (by rw[xeq];exact hz) s.toks
 by_cases h0:0<=k
 ·have hk:k.toNat=j:=by
   rw[seqIndex_of h0 h4] at h1;exact xbw h1
  exact PySem.W.ki_setAt ho h0 (by lia) (by rw[xbp,← hl];exact h4) (by rw[hk];exact ⟨_,I',q⟩)
 ·have hk:(k+(its.toArray.size:Int)).toNat=j:=by
   rw[seqIndex_neg (by lia) h3] at h1;rw[xbp,← hl];exact xbw h1
  exact PySem.W.ki_setBack ho (by lia) (by rw[xbp,← hl];exact h3) (by lia) (by rw[hk];exact ⟨_,I',q⟩)
theorem zji (lo hi:Option Int) (n:Nat):(sliceBounds lo hi none n).1=((HT.sIx n 0 lo:Nat):Int)/\(sliceBounds lo hi none n).2.1=((HT.sIx n n hi:Nat):Int)/\(sliceBounds lo hi none n).2.2=1:=by
 refine ⟨?_,?_,rfl⟩
 ·cases lo with
  | none=>simp[sliceBounds,HT.sIx]
  | some i =>
   simp only[sliceBounds,HT.sIx,Option.getD_none,show (1:Int) > 0 by decide,xfj];by_cases h:i < 0
   ·simp only[h,xfj]<;>lia
   ·simp only[h,xep]<;>lia
 ·cases hi with
  | none=>simp[sliceBounds,HT.sIx]
  | some i =>
   simp only[sliceBounds,HT.sIx,Option.getD_none,show (1:Int) > 0 by decide,xfj];by_cases h:i < 0
   ·simp only[h,xfj]<;>lia
   ·simp only[h,xep]<;>lia
theorem zif (its:List Value) (lo hi:Option Int):slicePick its.toArray lo hi none=((its.drop (HT.sIx its.length 0 lo)).take (HT.sIx its.length its.length hi - HT.sIx its.length 0 lo)).toArray:=by
 obtain ⟨h1,h2,h3⟩:=zji lo hi its.toArray.size;unfold slicePick;rw[h1,h2,h3];simp only[sliceRange_one,pick_run,xbp]<;>rfl
noncomputable def rSlL (K:Fg):V->Option Int->Option Int->Hp->VK->Prop:=fun x lo hi H Q=>∃a xs,x=.ref a/\SqL K H a xs/\∀p,H p=none->Q (.ref p) (upd H p (.lst (cutV xs lo hi)))
theorem zxe:SlR X (rSlL X.K):=by
 intro pins s σ H x v vl vu lo hi sl Q I rx hs pl pu h;obtain ⟨a,xs,rfl,hx,q⟩:=h;cases rx;obtain ⟨its,r,ht,hz⟩:=I.list hx;have hlen:=r.length;refine ⟨"list", _, slot_list_getitem.lookup, ht.isList.typeIs, ?_⟩
 refine wpAny_getItem_list_slice ht.isList hs pl pu .none (by simp) ?_ (by rw[xbp]<;>lia);rw[zif,← hlen];refine ⟨.ref s.heap.objs.size,_,I.laid (t':=s.toks) (o:=.lst (cutV xs lo hi)) (fun b ob q=>xbg _ q) (xbe _) ?_,rfl,q _ (I.hok.fresh (xbe _))⟩;exact ⟨xbb (zgy xs lo hi) hz,_,0,(r.drop (HT.sIx xs.length 0 lo)).take (HT.sIx xs.length xs.length hi - HT.sIx xs.length 0 lo),xcb _ rfl⟩
theorem zdm : CallR X (.builtin "len") (fun xs H Q => ∃ p ys, xs = [.ref p] /\ (SqL X.K H p ys \/ SqT X.K H p ys) /\ Q (.int ys.length) H) := by
 intro pins s σ H xs us Q I r h;obtain ⟨p,ys,rfl,hq,q⟩:=h;obtain ⟨u,rfl,rx⟩:=vals1 r;cases rx;have hn:=line63;rcases hq with hq | hq
 ·obtain ⟨its,r',pl,hz⟩:=I.list hq;have hlen:=r'.length;exact Calls.call_len_list pl.isList (by simp only[xbp]<;>lia) ⟨.int ys.length,H,I.tok _,⟨s.toks+1,by rw[xbp,hlen]⟩,q⟩
 ·obtain ⟨its,r',pl,hz⟩:=I.tuple hq;have hlen:=r'.length;exact len_tuple pl (by simp only[xbp]<;>lia) ⟨.int ys.length,H,I.tok _,⟨s.toks+1,by rw[xbp,hlen]⟩,q⟩
theorem CallR.or {f:Value} {r r':List V->Hp->VK->Prop} (h:CallR X f r) (h':CallR X f r'):CallR X f (fun xs H Q=>r xs H Q\/r' xs H Q):=by
 intro pins s σ H xs us Q I rs q;rcases q with q | q
 ·exact h pins s σ H xs us Q I rs q
 ·exact h' pins s σ H xs us Q I rs q
theorem zcy : CallR X (.type "tuple") (fun xs H Q => ∃ p ys, xs = [.ref p] /\ ((SqL X.K H p ys /\ ∀ l, H l = none -> Q (.ref l) (upd H l (.tup ys))) \/ (SqT X.K H p ys /\ Q (.ref p) H))) := by
 intro pins s σ H xs us Q I r h;obtain ⟨p,ys,rfl,h⟩:=h;obtain ⟨u,rfl,rx⟩:=vals1 r;cases rx;rcases h with ⟨hq,q⟩ | ⟨hq,q⟩
 ·obtain ⟨its,r',pl,hz⟩:=I.list hq;have hlen:=r'.length;refine call_tuple_list pl.isList (fun h' kp=>?_) (by simp only[xbp]<;>lia);have I1:Inv X pins σ H {s with heap:=h'}:=I.kept (t':=s.toks) kp;have I2 : Inv X pins σ (upd H h'.objs.size (.tup ys)) { s with heap := h'.push { cls := .type "tuple", data := .seq its.toArray } } :=
   I1.laid (t':=s.toks) (fun b o e=>xbg _ e) (xbe _) (show ObjOk X.prog X.w _ _ _ (.tup ys) from ⟨hz,its,r',IsTup.new _ _⟩)
  exact ⟨.ref h'.objs.size,_,I2,rfl,q _ (I1.hok.fresh (xbe _))⟩
 ·obtain ⟨its,r',pl,hz⟩:=I.tuple hq;exact call_tuple_same pl ⟨.ref p,H,I,rfl,q⟩
noncomputable def tyV (K:Fg) (T:String) (x:V) (H:Hp):Prop:=match x with
 | .str _ => T = "str"
 | .int _ => T = "int"
 | .ref p => (T = "list" /\ ∃ xs, SqL K H p xs) \/ (T = "tuple" /\ ∃ o, K.lookup p = some o /\ o.cls = .type "tuple" /\ o.dict = none) \/
  (T = "dict" /\ ((∃ kvs, H p = some (.dK kvs)) \/ ∃ kvs, H p = some (.dT kvs))) \/ (T = "set" /\ ∃ S n, H p = some (.set S n))
 | _=>False
theorem zbbt {pins:List (Addr × Obj)} {σ:St} {H:Hp} {s:Shared} {T:String} {x:V} {v:Value} (I:Inv X pins σ H s) (r:RelV x v) (ty:tyV X.K T x H) :
  s.TypeIs v T/\∀a,v=.ref a->∃ob,s.heap.get? a=some ob/\ob.dict=none:=by
 cases x with
 | str z =>
  obtain ⟨t,rfl⟩:=r;cases (show T = "str" from ty)
  exact ⟨typeIs_str s z t,fun _ e=>nomatch e⟩
 | int i =>
  obtain ⟨t,rfl⟩:=r;cases (show T = "int" from ty)
  exact ⟨typeIs_int s i t,fun _ e=>nomatch e⟩
 | ref p =>
  cases r;rcases ty with ⟨rfl,xs,hq⟩ | ⟨rfl,o,hk,hc,hd⟩ | ⟨rfl,hk⟩ | ⟨rfl,S,n,hk⟩
  ·obtain ⟨its,_,pl,_⟩:=I.list hq;refine ⟨pl.isList.typeIs,fun a e=>?_⟩;cases e;obtain ⟨o,n,e,c,hd,_⟩:=pl;exact ⟨o,e,hd⟩
  ·refine ⟨⟨o,I.kIn p o hk,hc⟩,fun a e=>?_⟩;cases e;exact ⟨o,I.kIn _ o hk,hd⟩
  ·have z:∃o,s.heap.get? p=some o/\o.ExactDict:=by
    rcases hk with ⟨kvs,hk⟩ | ⟨kvs,hk⟩
    ·obtain ⟨_,_,_,_,o,_,_,e,ex,_⟩:=I.hok p _ hk;exact ⟨o,e,ex⟩
    ·obtain ⟨_,_,_,_,o,_,_,e,ex,_⟩:=I.hok p _ hk;exact ⟨o,e,ex⟩
   obtain ⟨o,e,ex⟩:=z;refine ⟨⟨o,e,ex.1⟩,fun a e2=>?_⟩;cases e2;exact ⟨o,e,ex.2.1⟩
  ·obtain ⟨o,_,_,_,e,ex,_⟩:=I.hok p _ hk;refine ⟨⟨o,e,ex.1⟩,fun a e2=>?_⟩;cases e2;exact ⟨o,e,ex.2.1⟩
 | _=>exact False.elim ty
noncomputable def tBM (K:Fg) (T:String) (r:V->List V->Hp->VK->Prop) (to:TE) (t:TA):TE:=fun σ H Q=>to σ H fun x H1=>tyV K T x H1/\t σ H1 fun xs H2=>r x xs H2 Q
variable {o e:Expr} {es:List Expr} {to:TE} {t:TA} {name:Str} {apos cpos:Pos} {T id:String} {r:V->List V->Hp->VK->Prop}
theorem zbda (pa : PlainAttrs T) (slot : Slot T name id) (hty : typeOf (.builtin id) = pure (.type "method_descriptor")) (hm : MtR X id r) (ho : PE X o to) (ha : PA X (e :: es) t)
  (hbase:attributeBase o name X.env (eval o X.env)=eval o X.env:=by rfl)
  (hfew:((backTo cpos (starEach (e::es) X.env)).all (fun x=>!x.1) && (backToKw cpos (keywordEach [] X.env)).all (fun x=>x.1.isSome)
   && decide ((e::es).length+([]:List Keyword).length+(if ([]:List Keyword).isEmpty then 0 else 1) < 30))=true:=by rfl)
  (hline:(apos.endLine == cpos.line)=true:=by rfl) (hs:starEach (e::es) X.env=(false,eval e X.env)::starEach es X.env:=by rfl) (hplain:(backTo cpos (starEach es X.env)).any (·.1)=false:=by rfl) :
  PE X (.Call (.Attribute o name apos) (e::es) [] cpos) (tBM X.K T r to t):=by
 intro pins s σ H Q I h;refine wpAny_Call_method_late hbase hfew hline rfl (thn (ho pins s σ H _ I h) fun v s1 hq0=>?_);obtain ⟨x,H1,I1,r1,ty,q1⟩:=hq0;obtain ⟨h1,h2⟩:=zbbt I1 r1 ty;refine ⟨T,id,pa,slot,hty,h1,h2,?_⟩;have hA:=ha cpos pins s1 σ H1 _ I1 q1;rw[hs] at hA ⊢;refine xir (by show (false || (backTo cpos (starEach es X.env)).any (·.1))=false;rw[hplain]<;>rfl) (xhf ?_);exact thn hA fun us s2 ⟨vs,H2,I2,r2,q2⟩=>hm pins s2 σ H2 x vs v us Q I2 r1 r2 q2
/- xs.append(e),list.index on a module's tuple .. are MtR facts of 06m -/
end
noncomputable def MtM (X:Cx) (id:String) (r:V->List V->Hp->VK->Prop):Prop :=
 ∀(pins:List (Addr × Obj)) (s:Shared) (σ:St) (H:Hp) (x:V) (xs:List V) (v:Value) (us:List Value) (Q:VK),Inv X pins σ H s->RelV x v->Vals xs us->r x xs H Q ->
  wpAny (model X.prog X.w) X.A (call (.builtin id) (v::us)) (EP X pins σ Q) X.xe s
theorem Vals.one:∀{x:V} {us:List Value},Vals [x] us->∃u,us=[u]/\RelV x u
 | _,_,.cons r .nil=>⟨_,rfl,r⟩
section
variable {X:Cx} {pins:List (Addr × Obj)} {σ:St} {H:Hp} {s:Shared} {l b:Addr} {xs ys zs:List V}
theorem Inv.lset {its its':List Value} {n:Nat} {f:Array Value->Array Value} {t':Nat} (I:Inv X pins σ H s) (hH:H l=some (.lst xs))
  (e : s.heap.get? l = some { cls := .type "list", data := .seq its.toArray n }) (hf : f its.toArray = its'.toArray) (hv : Vals ys its') (hz : ys.length <= sizeLine) :
  Inv X pins σ (upd H l (.lst ys)) {s with heap:=s.heap.update l (Obj.mapSeq f),toks:=t'}:=by
 have q:=PySem.IsL.update e f;rw[hf] at q;refine I.write (x:=l) (e:=l) (by rw[hH];exact trivial) (.inl rfl) (fun b' u hb hu=>(xdd s.heap (Obj.mapSeq f) (xej hb)).trans hu) ⟨_,q⟩ ?_;exact ⟨hz,its',_,hv,q⟩
theorem Inv.lnew {its:List Value} {t':Nat} (I:Inv X pins σ H s) (hv:Vals ys its) (hz:ys.length<=sizeLine) :
  Inv X pins σ (upd H s.heap.objs.size (.lst ys)) { s with heap := s.heap.push { cls := .type "list", data := .seq its.toArray }, toks := t' } :=
 I.laid (fun _ _ q=>xbg _ q) (xbe _) ⟨hz,its,0,hv,xcb _ rfl⟩
theorem Inv.fresh (I:Inv X pins σ H s):H s.heap.objs.size=none:=I.hok.fresh (xbe _)
theorem Inv.lstM (I : Inv X pins σ H s) (hH : H l = some (.lst xs)) : xs.length <= sizeLine /\ ∃ (its : List Value) (n : Nat), Vals xs its /\ xs.length = its.length /\ s.heap.get? l = some { cls := .type "list", data := .seq its.toArray n } := by
 obtain ⟨z,its,n,r,e⟩:=I.hok l _ hH;exact ⟨z,its,n,r,r.length,e⟩
end
section
variable {X:Cx}
noncomputable def rAppend:V->List V->Hp->VK->Prop:=fun x vs H Q=>∃l xs y,x=.ref l/\vs=[y]/\H l=some (.lst xs)/\xs.length < sizeLine/\Q .non (upd H l (.lst (xs++[y])))
theorem zkp : MtM X "list.append" rAppend := by
 intro pins s σ H x vs v us Q I rx rv h;obtain ⟨l,xs,y,rfl,rfl,hH,hz,q⟩:=h;cases rx;obtain ⟨u,rfl,ru⟩:=rv.one;obtain ⟨z,its,n,r,hl,e⟩:=I.lstM hH;refine xjm F.slot_list_append ⟨_,e,rfl⟩ F.entry_list_append (F.args_list_append_2 _ _) (PySem.list_append l its.toArray n u (by rw[xbp];lia)) ⟨e,?_⟩;refine ⟨.non,_,I.lset (its':=its++[u]) hH e (by simp) (r.append (.cons ru .nil)) ?_,rfl,q⟩;rw[xbm,xiz];lia
noncomputable def rCat:R2:=fun x y H Q=>∃l b xs zs,x=.ref l/\y=.ref b/\H l=some (.lst xs)/\H b=some (.lst zs)/\xs.length+zs.length<=sizeLine/\∀p,H p=none->Q (.ref p) (upd H p (.lst (xs++zs)))
theorem zbdf:OpR X (binaryOp .Add) rCat:=by
 intro pins s σ H x y v u Q I rx ry h;obtain ⟨l,b,xs,zs,rfl,rfl,hH,hB,hz,q⟩:=h;cases rx;cases ry;obtain ⟨z,its,n,r,hl,e⟩:=I.lstM hH;obtain ⟨z2,its2,n2,r2,hl2,e2⟩:=I.lstM hB;refine PySem.P.add_list e e2 ?_ (by rw[xbp,xbp];lia);have ea:its.toArray++its2.toArray=(its++its2).toArray:=by simp
 rw[ea];exact ⟨.ref _,_,I.lnew (t':=s.toks) (r.append r2) (by rw[xbm];lia),rfl,q _ I.fresh⟩
end
section
variable {prog:Program} {w:World} {A:Around} {E:Value->Shared->Prop} {s:Shared}
end
section
variable {X:Cx}
end
section
variable {κ:Type} [DecidableEq κ]
noncomputable def valV (kvs:List (κ × V)) (k:κ):Option V:=(kvs.find? fun kv=>decide (kv.1=k)).map (·.2)
noncomputable def putK (kvs:List (κ × V)) (k:κ) (v:V):List (κ × V) :=
 if (kvs.any fun kv=>decide (kv.1=k))=true then kvs.map (fun kv=>if kv.1=k then (kv.1,v) else kv) else kvs++[(k,v)]
noncomputable def dropK (kvs:List (κ × V)) (k:κ):List (κ × V):=kvs.filter fun kv=>decide (kv.1≠k)
theorem zhc {p:κ × V} {r:List (κ × V)} {k:κ} (e:p.1=k):valV (p::r) k=some p.2:=by simp[valV,xec,e]
theorem zhd {p:κ × V} {r:List (κ × V)} {k:κ} (e:¬ p.1=k):valV (p::r) k=valV r k:=by simp[valV,xec,e]
theorem zmx (k:κ):∀kvs:List (κ × V),(kvs.any fun kv=>decide (kv.1=k))=(valV kvs k).isSome
 | []=>rfl
 | p::r=>by
  rw[xiu];by_cases e:p.1=k
  ·simp only[zhc e,xdc e,Bool.true_or,Option.isSome_some]
  ·rw[zhd e,xci e,Bool.false_or];exact zmx k r
theorem zgt (kvs:List (κ × V)) (k:κ) (v:V):(putK kvs k v).length<=kvs.length+1:=by
 unfold putK;split
 ·rw[xbc];lia
 ·rw[xbm,xcd,xjg];lia
theorem RelO.isSome_eq {o:Option V} {u:Option Value} (r:RelO o u):o.isSome=u.isSome:=by
 cases o with
 | none=>cases u with
  | none=>rfl
  | some _=>exact (show False from r).elim
 | some _=>cases u with
  | none=>exact (show False from r).elim
  | some _=>rfl
theorem RelO.getD {o:Option V} {u:Option Value} {d:V} {d':Value} (r:RelO o u) (rd:RelV d d'):RelV (o.getD d) (u.getD d'):=by
 cases o with
 | none=>cases u with
  | none=>exact rd
  | some _=>exact (show False from r).elim
 | some _=>cases u with
  | none=>exact (show False from r).elim
  | some _=>exact r
theorem KV.val {kvs:List (κ × V)} {vs:List (κ × Value)} (r:KV kvs vs) (k:κ):RelO (valV kvs k) (valueAt vs k):=by
 unfold KV at r
 induction r with
 | nil=>exact True.intro
 | @cons p q ps qs h t ih =>
  obtain ⟨h1,h2⟩:=h;by_cases e:p.1=k
  ·have e':q.1=k:=h1.symm.trans e;have b:valueAt (q::qs) k=some q.2:=by simp[valueAt,xec,e']
   rw[zhc e,b];exact h2
  ·have e':¬ q.1=k:=fun z=>e (h1.trans z)
   have b:valueAt (q::qs) k=valueAt qs k:=by simp[valueAt,xec,e']
   rw[zhd e,b];exact ih
theorem KV.any {kvs:List (κ × V)} {vs:List (κ × Value)} (r:KV kvs vs) (k:κ):(kvs.any fun kv=>decide (kv.1=k))=vs.any fun kv=>decide (kv.1=k):=by
 unfold KV at r
 induction r with
 | nil=>rfl
 | cons h t ih=>rw[xiu,xiu,ih,h.1]
theorem KV.repl {kvs:List (κ × V)} {vs:List (κ × Value)} (r:KV kvs vs) (k:κ) {y:V} {u:Value} (ry:RelV y u) :
  KV (kvs.map fun kv=>if kv.1=k then (kv.1,y) else kv) (vs.map fun kv=>if kv.1=k then (kv.1,u) else kv):=by
 unfold KV at r ⊢
 induction r with
 | nil=>exact .nil
 | @cons p q ps qs h t ih =>
  rw[xbq,xbq];refine .cons ?_ ih;obtain ⟨h1,h2⟩:=h;by_cases e:p.1=k
  ·rw[if_pos e,if_pos (h1.symm.trans e)];exact ⟨h1,ry⟩
  ·rw[if_neg e,if_neg (fun z=>e (h1.trans z))];exact ⟨h1,h2⟩
theorem KV.put {kvs:List (κ × V)} {vs:List (κ × Value)} (r:KV kvs vs) (k:κ) {y:V} {u:Value} (ry:RelV y u):KV (putK kvs k y) (stored vs k u):=by
 unfold putK stored;rw[r.any k];by_cases e:(vs.any fun kv=>decide (kv.1=k))=true
 ·rw[if_pos e,if_pos e];exact r.repl k ry
 ·rw[if_neg e,if_neg e];exact Paired.snoc r ⟨rfl,ry⟩
theorem KV.length {kvs:List (κ × V)} {vs:List (κ × Value)} (r:KV kvs vs):kvs.length=vs.length:=xhl r
end
theorem zyz {P:Program} {w:World} {k:Key} {u:Value} (r:RelV (kV k) u):(mixKind P w).is k u=true:=by
 cases k with
 | inl i=>obtain ⟨t,e⟩:=(show ∃t,u=Value.int i t from r);subst e;exact zmi P w i t
 | inr x=>obtain ⟨t,e⟩:=(show ∃t,u=Value.str x t from r);subst e;exact zmh P w x t
theorem zkr {P:Program} {w:World}:∀{ks:List Key} {us:List Value},Vals (ks.map kV) us->ItemsAre (mixKind P w) ks us
 | [],_,r=>by rw[xjy] at r;cases r;exact .nil
 | k::ks,_,r=>by
  rw[xbq] at r;cases r with
  | cons h t=>exact .cons (zyz h) (zkr t)
noncomputable abbrev KT (H:Hp):List (List Key × V)->List (List Key × Addr × Value)->Prop:=Paired fun p q=>p.1=q.1/\H q.2.1=some (.tup (p.1.map kV))/\RelV p.2 q.2.2
theorem KT.val {H:Hp} {kvs:List (List Key × V)} {xs:List (List Key × Addr × Value)} (r:KT H kvs xs) (k:List Key):RelO (valV kvs k) ((atKey xs k).map (·.2)):=by
 induction r with
 | nil=>exact True.intro
 | @cons p q ps qs h t ih =>
  obtain ⟨h1,_,h2⟩:=h;by_cases e:p.1=k
  ·have e':q.1=k:=h1.symm.trans e;have b:atKey (q::qs) k=some q.2:=by simp[atKey,xec,e']
   rw[zhc e,b];exact h2
  ·have e':¬ q.1=k:=fun z=>e (h1.trans z)
   have b:atKey (q::qs) k=atKey qs k:=by simp[atKey,xec,e']
   rw[zhd e,b];exact ih
theorem KT.repl {H:Hp} {kvs:List (List Key × V)} {xs:List (List Key × Addr × Value)} (r:KT H kvs xs) (k:List Key) {y:V} {u:Value} (ry:RelV y u) :
  KT H (kvs.map fun kv=>if kv.1=k then (kv.1,y) else kv) (xs.map (putAt k u)):=by
 induction r with
 | nil=>exact .nil
 | @cons p q ps qs h t ih =>
  rw[xbq,xbq];refine .cons ?_ ih;obtain ⟨h1,h2,h3⟩:=h;unfold putAt;by_cases e:p.1=k
  ·rw[if_pos e,if_pos (h1.symm.trans e)];exact ⟨h1,h2,ry⟩
  ·rw[if_neg e,if_neg (fun z=>e (h1.trans z))];exact ⟨h1,h2,h3⟩
theorem KT.put {H:Hp} {kvs:List (List Key × V)} {xs:List (List Key × Addr × Value)} (r:KT H kvs xs) (k:List Key) {b:Addr} {y:V} {u:Value} (hb:H b=some (.tup (k.map kV))) (ry:RelV y u) :
  KT H (putK kvs k y) (storedH xs k b u):=by
 have e:(kvs.any fun kv=>decide (kv.1=k))=(atKey xs k).isSome:=by
  rw[zmx,(r.val k).isSome_eq,Option.isSome_map]
 unfold putK storedH;rw[e];by_cases q:(atKey xs k).isSome=true
 ·rw[if_pos q,if_pos q];exact r.repl k ry
 ·rw[if_neg q,if_neg q];exact Paired.snoc r ⟨rfl,hb,ry⟩
theorem KT.keeps {H H':Hp} {kvs:List (List Key × V)} {xs:List (List Key × Addr × Value)} (r:KT H kvs xs) (ht:∀b ys,H b=some (.tup ys)->H' b=some (.tup ys)):KT H' kvs xs :=
 Paired.mapP r fun _ _ z=>⟨z.1,ht _ _ z.2.1,z.2.2⟩
section
variable {P:Program} {w:World} {H:Hp} {h:Heap} {a:Addr}
theorem zbgo {u:HO} (ok:HOk P w H h) (e:Rd H a u):ObjOk P w H h a u:=e.ok ok
theorem zwk {kvs:List (Key × V)} (ok:HOk P w H h) (e:Rd H a (.dK kvs)):kvs.length<=sizeLine/\(a == sysModules)=false/\∃vs,KV kvs vs/\h.DictOf (mixKind P w) a vs :=
 show ObjOk P w H h a (.dK kvs) from zbgo ok e
theorem zbim {kvs:List (Key × V)} (ok:HOk P w H h) (e:H a=some (.dK kvs)):kvs.length<=sizeLine/\(a == sysModules)=false/\∃vs,KV kvs vs/\h.DictOf (mixKind P w) a vs:=zwk ok (.inl e)
theorem zmm {ks:List Key} (ok:HOk P w H h) (e:H a=some (.tup (ks.map kV))):(tupleKind (mixKind P w)).is h ks a:=by
 obtain ⟨_,its,r,o,h1,h2,n,h3⟩:=(show ObjOk P w H h a (.tup (ks.map kV)) from ok a _ e)
 exact ⟨o,its.toArray,n,h1,h2,h3,by simpa using zkr r⟩
theorem zwj {kvs:List (List Key × V)} (ok:HOk P w H h) (e:Rd H a (.dT kvs)):kvs.length<=sizeLine/\(a == sysModules)=false /\
  ∃xs,KT H kvs xs/\h.DictOfH (tupleKind (mixKind P w)) a xs:=by
 obtain ⟨z,y,xs,r,o,es,ep,h1,h2,h3,h4,h5⟩:=(show ObjOk P w H h a (.dT kvs) from zbgo ok e)
 refine ⟨z,y,xs,r,o,es,ep,h1,h2,h3,h4,fun x hx=>?_,h5⟩;have all:∀{l:List (List Key × V)} {m:List (List Key × Addr × Value)},KT H l m->∀x∈m,(tupleKind (mixKind P w)).is h x.1 x.2.1:=by
  intro l m q
  induction q with
  | nil=>intro x hx;exact nomatch hx
  | @cons p q ps qs hq t ih =>
   intro x hx;rcases xbt.mp hx with e | hx
   ·subst e;exact zmm ok (by rw[← hq.1];exact hq.2.1)
   ·exact ih x hx
 exact all r x hx
theorem zbhc {kvs:List (List Key × V)} (ok:HOk P w H h) (e:H a=some (.dT kvs)):kvs.length<=sizeLine/\(a == sysModules)=false /\
 ∃xs,KT H kvs xs/\h.DictOfH (tupleKind (mixKind P w)) a xs:=zwj ok (.inl e)
end
noncomputable def DGet (H:Hp) (a:Addr) (y:V) (r:Option V):Prop :=
 (∃kvs k,Rd H a (.dK kvs)/\y=kV k/\r=valV kvs k)\/∃kvs k b,Rd H a (.dT kvs)/\y=.ref b/\H b=some (.tup (k.map kV))/\r=valV kvs k
noncomputable def DPut (H:Hp) (a:Addr) (y v:V) (H':Hp):Prop :=
 (∃kvs k,H a=some (.dK kvs)/\y=kV k/\kvs.length < sizeLine/\H'=upd H a (.dK (putK kvs k v))) \/
 ∃kvs k b,H a=some (.dT kvs)/\y=.ref b/\H b=some (.tup (k.map kV))/\kvs.length < sizeLine/\H'=upd H a (.dT (putK kvs k v))
theorem DPut.t {H:Hp} {a b:Addr} {kvs:List (List Key × V)} {k:List Key} {v:V} (e:H a=some (.dT kvs)) (eb:H b=some (.tup (k.map kV))) (hl:kvs.length < sizeLine) :
 DPut H a (.ref b) v (upd H a (.dT (putK kvs k v))):=.inr ⟨kvs,k,b,e,rfl,eb,hl,rfl⟩
section
variable {X:Cx} {pins:List (Addr × Obj)} {σ:St} {H:Hp} {s:Shared} {a:Addr} {y v:V} {u r:Value} {o:Option V} {A:Around} {E:Value->Shared->Prop}
theorem Inv.big (I:Inv X pins σ H s):sysModules < s.heap.objs.size:=by
 have h:mainGlobals < s.heap.objs.size:=(I.mod.glob.keeps I.bk).lt;exact xhb (by decide) h
theorem zrz {Q:Value->Shared->Prop} (hu:A.units+1 < cLine) (I:Inv X pins σ H s) (g:DGet H a y (some v)) (ry:RelV y u) (h:∀w' s',Inv X pins σ H s'->RelV v w'->Q w' s') :
  wpAny (model X.prog X.w) A (getItem (.ref a) u) Q E s:=by
 rcases g with ⟨kvs,k,e,ey,l⟩ | ⟨kvs,k,b,e,ey,eb,l⟩
 ·subst ey;obtain ⟨z,hd,vs,rel,dd⟩:=zwk I.hok e;obtain ⟨w',hw,rw'⟩:=RelO.some_of (v:=v) (o:=valueAt vs k) (by rw[l];exact rel.val k);exact wpAny_getItem_of (zyz ry) dd.mapOf hw (h w' _ (I.tok _) rw')
 ·subst ey;cases (show u=Value.ref b from ry);obtain ⟨z,hd,xs,rel,dd⟩:=zwj I.hok e;obtain ⟨w',hw,rw'⟩:=RelO.some_of (v:=v) (o:=(atKey xs k).map (·.2)) (by rw[l];exact rel.val k);obtain ⟨p,hp,hp2⟩:=xcy.mp hw;refine wpAny_getItem_heap (xgv hu) (zmm I.hok eb) dd hp ?_;rw[hp2];exact h w' _ (I.tok _) rw'
theorem d_in {Q:Value->Shared->Prop} (hu:A.units+1 < cLine) (I:Inv X pins σ H s) (g:DGet H a y o) (ry:RelV y u) (h:∀s',Inv X pins σ H s'->Q (.bool o.isSome) s') :
  wpAny (model X.prog X.w) A (compareOp .In u (.ref a)) Q E s:=by
 rcases g with ⟨kvs,k,e,ey,l⟩ | ⟨kvs,k,b,e,ey,eb,l⟩
 ·subst ey;obtain ⟨z,hd,vs,rel,dd⟩:=zwk I.hok e;refine wpAny_in_of (zyz ry) hd dd.mapOf ?_;rw[← (rel.val k).isSome_eq,← l];exact h _ (I.tok _)
 ·subst ey;cases (show u=Value.ref b from ry);obtain ⟨z,hd,xs,rel,dd⟩:=zwj I.hok e;refine wpAny_in_heap (xgv hu) (zmm I.hok eb) hd dd ?_;have q:=(rel.val k).isSome_eq;rw[Option.isSome_map] at q;rw[← q,← l];exact h _ (I.tok _)
theorem zpb {h':Heap} {t':Nat} {ob:HO} (I:Inv X pins σ H s) (mu:Mut (H a)) (hs:Heap.SameBut a s.heap h') (he:∃q,h'.get? a=some q) (new:ObjOk X.prog X.w (upd H a ob) h' a ob) :
  Inv X pins σ (upd H a ob) {s with heap:=h',toks:=t'} :=
 I.write (x:=a) (e:=a) mu (.inl rfl) (fun b q hb z=>(hs.2 b hb).trans z) he new
theorem zbex {P:Program} {w:World} {H':Hp} {h':Heap} {kvs:List (Key × V)} {vs:List (Key × Value)} (z:kvs.length<=sizeLine) (hd:(a == sysModules)=false) (rel:KV kvs vs) (dd:h'.DictOf (mixKind P w) a vs) :
 ObjOk P w H' h' a (.dK kvs):=⟨z,hd,vs,rel,dd⟩
theorem zrw {H':Hp} {Q:Unit->Shared->Prop} (hu:A.units+1 < cLine) (I:Inv X pins σ H s) (g:DPut H a y v H') (ry:RelV y u) (rv:RelV v r) (h:∀s',Inv X pins σ H' s'->Q () s') :
  wpAny (model X.prog X.w) A (setItem (.ref a) u r) Q E s:=by
 rcases g with ⟨kvs,k,e,ey,l,eH⟩ | ⟨kvs,k,b,e,ey,eb,l,eH⟩
 ·subst ey eH;obtain ⟨z,hd,vs,rel,dd⟩:=zbim I.hok e;have hz:vs.length<=sizeLine:=by rw[← rel.length];exact z
  have hl:(putK kvs k v).length<=sizeLine:=by have:=zgt kvs k v;lia
  refine wpAny_setItem_pairs (hsz:=hz) (zyz ry) dd fun h' dd' hs=>h _ ?_
  have he:∃q,h'.get? a=some q:=let ⟨q,_,_,hq,_⟩:=dd';⟨q,hq⟩
  exact zpb I (by rw[e];exact True.intro) hs he (zbex hl hd (rel.put k rv) dd')
 ·subst ey eH;cases (show u=Value.ref b from ry);obtain ⟨z,hd,xs,rel,dd⟩:=zbhc I.hok e;have hz:xs.length<=sizeLine:=by rw[← xhl rel];exact z
  have hl:(putK kvs k v).length<=sizeLine:=by have:=zgt kvs k v;lia
  refine wpAny_setItem_heap (hsz:=hz) (xgv hu) (zmm I.hok eb) dd fun h' dd' hs=>h _ ?_
  obtain ⟨q,es,ep,hq,h2,h3,h4,_,h5⟩:=dd';refine zpb I (by rw[e];exact True.intro) hs ⟨q,hq⟩ ⟨hl,hd,_,(rel.put k eb rv).keeps fun c ys ec=>?_,q,es,ep,hq,h2,h3,h4,h5⟩;rw[zh (zbgv ec e (fun z=>nomatch z))];exact ec
end
section
variable {X:Cx} {pins:List (Addr × Obj)} {σ:St} {H:Hp} {s:Shared} {a:Addr} {kvs:List (Key × V)} {k:Key} {u:Value} {A:Around} {E:Value->Shared->Prop}
end
noncomputable def NoSl (i:Expr):Prop:=∀ov iv,subscripted i false ov iv=operate [ov,iv] (getItem ov iv)
theorem zxc {prog:Program} {w:World} {A:Around} {E:Value->Shared->Prop} {s:Shared} {env:Env} {value slice:Expr} {pos:Pos} {T id:String} {Q:Value->Shared->Prop}
  (hl : typeLookup (.type T) "__getitem__" = pure (some (.builtin id))) (hs : NoSl slice)
  (h:wpAny (model prog w) A (eval value env) (fun o s₁=>wpAny (model prog w) A (eval slice env) (fun i s₂=>s₂.TypeIs o T/\wpAny (model prog w) A (getItem o i) Q E s₂) E s₁) E s) :
  wpAny (model prog w) A (eval (.Subscript value slice pos) env) Q E s:=by
 refine Subscript_ (xde h (fun o s₁ h₁=>xde h₁ (fun i s₂ h₂=>?_) fun _ _ x=>x) fun _ _ x=>x);obtain ⟨hT,h₂⟩:=h₂;unfold subscriptTail;refine xba ?_;rw[getitemInPython_of_ne hT.not_modules];refine xba (wpAny_specialOf hT hl ?_);have fin:wpAny (model prog w) A (subscripted slice false o i) (fun r s₃=>wpAny (model prog w) A (letTemporaryGo value o r >>= fun _=>pure r) Q E s₃) E s₂:=by
  rw[hs o i];exact wpAny_operating (xde h₂ (fun r s₃ h₃=>xba (wpAny_letTemporaryGo (xbh h₃))) fun _ _ x=>x)
 first
  | exact xbh (xba fin)
  | exact xba (xbh (xba fin))
  | exact xba fin
theorem zmq {X : Cx} {pins : List (Addr × Obj)} {σ : St} {H : Hp} {s : Shared} {a : Addr} {y : V} {o : Option V} (I : Inv X pins σ H s) (g : DGet H a y o) : s.TypeIs (.ref a) "dict" := by
 rcases g with ⟨kvs,k,e,_,_⟩ | ⟨kvs,k,b,e,_,_,_⟩
 ·obtain ⟨_,_,vs,_,dd⟩:=zwk I.hok e;exact dd.typeIs
 ·obtain ⟨_,_,xs,_,dd⟩:=zwj I.hok e;exact dd.typeIs
noncomputable def tDGet (td ty:TE):TE:=fun σ H Q=>td σ H fun x H1=>ty σ H1 fun y H2=>∃a v,x=.ref a/\DGet H2 a y (some v)/\Q v H2
noncomputable def tDIn (ty td:TE):TE:=fun σ H Q=>ty σ H fun y H1=>td σ H1 fun x H2=>∃a o,x=.ref a/\DGet H2 a y o/\Q (.bl o.isSome) H2
noncomputable def sDPut (td ty tv:TE):TS:=fun D σ H=>tv σ H fun v H1=>td σ H1 fun x H2=>ty σ H2 fun y H3=>∃a H4,x=.ref a/\DPut H3 a y v H4/\D.nx σ H4
section
variable {X:Cx} {o i e value:Expr} {pos pos' tpos:Pos} {td ty tv:TE}
theorem zyc (hu:X.A.units+1 < cLine) (ho:PE X o td) (hi:PE X i ty) (hs:NoSl i):PE X (.Subscript o i pos) (tDGet td ty):=by
 intro pins s σ H Q I h;refine zxc PySem.F.slot_dict_getitem.lookup hs (thn (ho pins s σ H _ I h) fun u s1 ⟨x,H1,I1,rx,q1⟩=>thn (hi pins s1 σ H1 _ I1 q1) fun iv s2 hq0=>?_);obtain ⟨y,H2,I2,ry,a,v,ex,g,q2⟩:=hq0;subst ex;obtain rfl:u=Value.ref a:=rx;exact ⟨zmq I2 g,zrz hu I2 g ry fun w' s3 I3 rw'=>⟨v,H2,I3,rw',q2⟩⟩
theorem zbdd (hu:X.A.units+1 < cLine) (hi:PE X i ty) (ho:PE X o td):PC X .In i o (tDIn ty td):=by
 intro pins s σ H Q I h;refine thn (hi pins s σ H _ I h) fun iv s1 ⟨y,H1,I1,ry,q1⟩=>thn (ho pins s1 σ H1 _ I1 q1) fun u s2 hq0=>?_
 obtain ⟨x,H2,I2,rx,a,ov,ex,g,q2⟩:=hq0;subst ex;obtain rfl:u=Value.ref a:=rx;exact d_in hu I2 g ry fun s3 I3=>⟨.bl ov.isSome,H2,I3,rfl,q2⟩
theorem zxp (hu:X.A.units+1 < cLine) (ho:PE X o td) (hi:PE X i ty) (hv:PE X value tv) (hs:swapsWith value (some (.Subscript o i pos')) pos.line X.env=pure false) :
  PS X (.Assign [.Subscript o i pos'] value pos) (sDPut td ty tv):=by
 intro pins s σ H D I h;refine wpAny_Assign_Subscript (thn (hv pins s σ H _ I h) fun r s1 ⟨v,H1,I1,rv,q1⟩=>thn (ho pins s1 σ H1 _ I1 q1) fun u s2 ⟨x,H2,I2,rx,q2⟩=>thn (hi pins s2 σ H2 _ I2 q2) fun iv s3 hq0=>?_) hs;obtain ⟨y,H3,I3,ry,a,H4,ex,g,q3⟩:=hq0;subst ex;obtain rfl:u=Value.ref a:=rx;exact zrw hu I3 g ry rv fun s4 I4=>⟨σ,H4,I4,q3⟩
end
theorem zvh {P : Program} {w : World} {H : Hp} (h : Heap) (hb : sysModules < h.objs.size) : ObjOk P w H (h.push { cls := .type "dict", data := .dict #[] }) h.objs.size (.dT []) :=
 ⟨xeh _,xgj.mpr (xej (xce hb)),[],.nil,_,#[],0,xcb _ rfl,⟨rfl,rfl,rfl⟩,rfl,rfl,xid⟩
noncomputable def tDNewT:TE:=fun _ H Q=>∀p,H p=none->Q (.ref p) (upd H p (.dT []))
section
variable {X:Cx} {pos:Pos}
theorem zuj:PE X (.Dict [] [] pos) tDNewT:=fun pins s σ H Q I h =>
 wpAny_Dict_empty ⟨.ref s.heap.objs.size,_,I.laid (a:=s.heap.objs.size) (o:=.dT []) (t':=s.toks) (fun _ _ q=>xbg _ q) (xbe _) (zvh s.heap I.big),rfl,h _ (I.hok.fresh (xbe _))⟩
end
structure M1 (X:Cx) (o:Expr) (m:Str) (apos:Pos) (e:Expr) (cpos:Pos):Prop where
 base:attributeBase o m X.env (eval o X.env)=eval o X.env
 few:((backTo cpos (starEach [e] X.env)).all (fun x=>!x.1) && (backToKw cpos (keywordEach [] X.env)).all (fun x=>x.1.isSome)
  && decide (([e]:List Expr).length+([]:List Keyword).length+(if ([]:List Keyword).isEmpty then 0 else 1) < 30))=true
 line:(apos.endLine == cpos.line)=true
 trees:backTo cpos (starEach [e] X.env)=[(false,eval e X.env)]
structure M2 (X:Cx) (o:Expr) (m:Str) (apos:Pos) (e f:Expr) (cpos:Pos):Prop where
 base:attributeBase o m X.env (eval o X.env)=eval o X.env
 few:((backTo cpos (starEach [e,f] X.env)).all (fun x=>!x.1) && (backToKw cpos (keywordEach [] X.env)).all (fun x=>x.1.isSome)
  && decide (([e,f]:List Expr).length+([]:List Keyword).length+(if ([]:List Keyword).isEmpty then 0 else 1) < 30))=true
 line:(apos.endLine == cpos.line)=true
 trees:backTo cpos (starEach [e,f] X.env)=[(false,eval e X.env),(false,eval f X.env)]
noncomputable def IsD (H:Hp) (a:Addr):Prop:=(∃kvs,Rd H a (.dK kvs))\/∃kvs,Rd H a (.dT kvs)
theorem zzd {X:Cx} {pins:List (Addr × Obj)} {σ:St} {H:Hp} {s:Shared} {a:Addr} (I:Inv X pins σ H s) (d:IsD H a) :
  s.TypeIs (.ref a) "dict" /\ (∀ b, Value.ref a = .ref b -> ∃ ob, s.heap.get? b = some ob /\ ob.dict = none) /\ (a == sysModules) = false := by
 rcases d with ⟨kvs,e⟩ | ⟨kvs,e⟩
 ·obtain ⟨_,hd,vs,_,dd⟩:=zwk I.hok e;refine ⟨dd.typeIs,fun b q=>?_,hd⟩;cases q;obtain ⟨ob,_,_,h1,h2,_⟩:=dd;exact ⟨ob,h1,h2.2.1⟩
 ·obtain ⟨_,hd,xs,_,dd⟩:=zwj I.hok e;refine ⟨dd.typeIs,fun b q=>?_,hd⟩;cases q;obtain ⟨ob,_,_,h1,h2,_⟩:=dd;exact ⟨ob,h1,h2.2.1⟩
section
variable {X:Cx} {pins:List (Addr × Obj)} {σ:St} {H:Hp} {s:Shared} {a:Addr} {y d:V} {u r:Value} {o:Option V} {A:Around} {E:Value->Shared->Prop}
theorem zbfe {Q:Value->Shared->Prop} (hu:A.units+1 < cLine) (I:Inv X pins σ H s) (g:DGet H a y o) (ry:RelV y u) (rd:RelV d r) (h:∀w' s',Inv X pins σ H s'->RelV (o.getD d) w'->Q w' s') :
  wpAny (model X.prog X.w) A (call (.builtin "dict.get") [.ref a, u, r]) Q E s := by
 rcases g with ⟨kvs,k,e,ey,l⟩ | ⟨kvs,k,b,e,ey,eb,l⟩
 ·subst ey;obtain ⟨z,hd,vs,rel,dd⟩:=zwk I.hok e;refine call_meetsIn xja dd.typeIs PySem.F.entry_dict_get (PySem.F.args_dict_get_3 _ _ _) (meets_dict_get_default (mixKind X.prog X.w) a (zyz ry) hd r) ⟨_,dd.mapOf,h _ _ (I.tok _) ?_⟩;rw[l];exact (rel.val k).getD rd
 ·subst ey;cases (show u=Value.ref b from ry);obtain ⟨z,hd,xs,rel,dd⟩:=zwj I.hok e;refine call_meetsIn xja dd.typeIs PySem.F.entry_dict_get (PySem.F.args_dict_get_3 _ _ _) (meetsH_dict_get_default (tupleKind (mixKind X.prog X.w)) a b hd r) ⟨xgv hu,k,xs,zmm I.hok eb,dd,h _ _ (I.tok _) ?_⟩;rw[l];exact (rel.val k).getD rd
end
noncomputable def tDGet2 (td ty tx:TE):TE:=fun σ H Q=>td σ H fun x H1=>∃a,x=.ref a/\IsD H1 a/\ty σ H1 fun y H2=>tx σ H2 fun z H3=>∃o,DGet H3 a y o/\Q (o.getD z) H3
section
variable {X:Cx} {o e f:Expr} {apos cpos:Pos} {td ty tx:TE}
theorem zuk (hu : X.A.units + 1 < cLine) (ho : PE X o td) (he : PE X e ty) (hf : PE X f tx) (m : M2 X o "get" apos e f cpos) : PE X (.Call (.Attribute o "get" apos) [e, f] [] cpos) (tDGet2 td ty tx) := by
 intro pins s σ H Q I h;refine wpAny_Call_method m.base m.few m.line PySem.F.plainAttrs_dict xja PySem.F.type_dict_get (thn (ho pins s σ H _ I h) fun u s1 hq0=>?_);obtain ⟨x,H1,I1,rx,a,ex,d,q1⟩:=hq0;subst ex;obtain rfl:u=Value.ref a:=rx;obtain ⟨t1,t2,_⟩:=zzd I1 d;refine ⟨t1,t2,?_⟩;rw[m.trees]
 refine xir rfl (xhf (xhw (thn (he pins s1 σ H1 _ I1 q1) fun iv s2 ⟨y,H2,I2,ry,q2⟩ =>
  xhw (thn (hf pins s2 σ H2 _ I2 q2) fun fv s3 ⟨z,H3,I3,rz,ov,g,q3⟩=>xjs ?_))))
 exact zbfe hu I3 g ry rz fun w' s4 I4 rw'=>⟨_,H3,I4,rw',q3⟩
end
section
variable {X:Cx} {pins:List (Addr × Obj)} {σ:St} {H:Hp} {s:Shared} {a:Addr} {kvs:List (Key × V)} {A:Around} {E:Value->Shared->Prop}
end
section
variable {X:Cx} {pins:List (Addr × Obj)} {σ:St} {H:Hp} {s:Shared} {a:Addr} {y:V} {u:Value} {A:Around} {E:Value->Shared->Prop}
end
end L2
namespace Att
open PySem PySem.W PySem.Calls PyProof.Rows
theorem zgf {P:Params} {h:Heap}:∀(ns:List Int) (vs:List Value),WellAll P h vs (ns.map WData.int)->IntsAre vs ns:=by
 intro ns
 induction ns with
 | nil =>
  intro vs w;rw[xjy] at w;cases w;exact .nil
 | cons n ns ih =>
  intro vs w;rw[xbq] at w;cases w with
  | cons a b =>
   cases a;exact .cons _ _ (ih _ b)
theorem zqj {l:OpenLaw} {n:Nat} (hn:l.most=some n) {P:Params} {h:Heap} {args:List WData} {vals:List Value}
  (hpre:l.row.toRowW.claim.pre args=true) (hwl:WellAll P h vals args) :
  ∃ a vs ns, vals = [Value.ref a] /\ args = [WData.list (ns.map WData.int)] /\ h.get? a = some { cls := .type "list", data := .seq vs.toArray } /\ IntsAre vs ns /\ ns.length <= n := by
 have hsh:WShape.hasAll [] args [.list .int]=true:=(pre_splitW hpre).1;have hc:l.pre.holds [] {args:=args}=true:=(pre_splitW hpre).2;obtain ⟨d,r,rfl,h1,h2⟩:=hasAllW_cons hsh;obtain rfl:=hasAllW_nil h2;obtain ⟨xs,rfl,h3⟩:=hasW_list h1;obtain ⟨ns,rfl⟩:=items_int h3;have hlen:ns.length<=n:=by
  unfold OpenLaw.pre at hc;have h4:(WTm.not (.lt (.lit (.int (n:Int))) (.len (.arg 0)))).holds [] {args:=[.list (ns.map .int)]}=true:=by
   have h4:=(holds_andW hc).1;rw[hn] at h4;exact h4
  have h5:=condW_of h4 (w_not (w_lt w_lit (w_len_list (w_arg rfl))));rw[xbc] at h5;refine xbs fun q=>?_
  have q':(n:Int) < ((ns.length:Nat):Int):=by lia
  first
   | (rw[xdc q'] at h5;exact absurd h5 (by decide))
   | (simp at h5;lia)
 cases hwl with
 | cons w1 w2 =>
  cases w2;cases w1 with
  | list ho hall=>exact ⟨_,_,ns,rfl,rfl,ho,zgf ns _ hall,hlen⟩
theorem zqn (l:OpenLaw) (args:List WData):l.row.toRowW.claim.post args (.bool true) args=true :=
 postW_of (r:=l.row.toRowW) (X:=(true == true))
  (show WShape.has [] (.bool true) .bool=true by first | rfl | decide | simp[WShape.has,WShape.arms,WShape.armsAll])
  (show (WTm.eq .res (.lit (.bool true))).value [] {args:=args,res:=some (.bool true),after:=args}=some (.bool (true == true)) from w_eq_bool (w_res rfl) w_lit) rfl
theorem attach_call {l:OpenLaw} {n:Nat} {q:Program} {loose:List Str} {XP:(Str->Option Value)->Heap->Prop} {YP:World->Heap->Prop} {d:DefRec}
  (hn:l.most=some n) (hdf:d.params.defaults=[])
  (call:∀(w:World) (s₀ s₁:Shared) (mg mb:Str->Option Value) (fa:Addr) (o:Obj) (pm cd doc:Value) (a:Addr) (vs:List Value) (ns:List Int),
   Ground q loose [] XP w s₀ mg mb s₁.heap->YP w s₁.heap ->
   s₁.heap.get? fa=some o->o.data=.func (docDef d.name d.params d.body d.scope pm cd doc)->s₁.heap.CodeRec cd d.name->mg d.name=some (.ref fa) ->
   s₁.heap.get? a = some { cls := .type "list", data := .seq vs.toArray } -> IntsAre vs ns -> ns.length <= n -> s₁.gens = #[] ->
   codeAny (model l.prog w) callerA (.call (.ref fa) ⟨[.ref a],[]⟩) (fun r s'=>r=.ok (.ret (.bool true))/\OldK s₁.heap s'.heap/\s'.os=s₁.os/\AllBare s'.gens) s₁) :
  WalkO q loose XP YP l.row.toRowW d [] (fun f vs=>PySem.call f vs):=by
 intro w s₀ s₁ mg mb G Y fa o pm cd doc dV kV ho hd hcd hD hmg hg args vals as hpre hlay hrd hwl hlo;obtain rfl:dV=.none:=Dflts.none hD hdf;obtain rfl:kV=.none:=Dflts.noKw hD;obtain ⟨a,vs,ns,rfl,rfl,hobj,hints,hlen⟩:=zqj hn hpre hwl;refine enter_call (xib (call w s₀ s₁ mg mb fa o pm cd doc a vs ns G Y ho (fd_plain hd) hcd hmg hobj hints hlen hg) fun r s' hq=>?_);obtain ⟨rfl,h2,h3,h4⟩:=hq;exact ⟨.inl ⟨.bool true,.bool true,[],rfl,fun _=>rfl,.bool true,zqn l _,fun _=>⟨List.Pairwise.nil,fun _ hm=>(nomatch hm)⟩⟩,h2,h3,h4⟩
section
variable {prog:Program} {w:World} {A:Around} {E:Value->Shared->Prop} {s:Shared} {K:Frag}
end
end Att
namespace L2
open PySem PySem.Spec PyProof.Rows
theorem zkj:∀{vs:List Value} {ns:List Int},IntsAre vs ns->Vals (ns.map V.int) vs
 | _,_,.nil=>.nil
 | _,_,.cons n t h=>.cons ⟨t,rfl⟩ (zkj h)
end L2
/- THE LAST THEOREM (shape;LID,My.* are yours):
 My.Adr: a structure of the addresses that your layer names (classes,functions);My.Txt K t: a structure (Prop) of the equations over K;
 My.txt_mk : {K} {implicit addresses ..} (e1 : nsIn K mainGlobals "law" = some (some (.ref f))) (e2 : K.lookup f = some ⟨oc, od, .func (fnOf "law" "law" params body scope dV kV doc pm an cdv ct), sl⟩) (e3 : codeIn K cdv "law" = true) .. : ∃ t, My.Txt K t
(the tactic k_is has no namespace: write k_is) -/
namespace L2
open PySem PySem.Spec PyProof.Rows
noncomputable def defArgs (s:Stmt):Arguments:=match s with
 | .FunctionDef _ a _ _ _ _ _ _ _ _=>a
 | _=>{posonlyargs:=[],args:=[],vararg:=none,kwonlyargs:=[],kw_defaults:=[],kwarg:=none,defaults:=[]}
noncomputable def defBody (s:Stmt):List Stmt:=match s with
 | .FunctionDef _ _ b _ _ _ _ _ _ _=>b
 | _=>[]
noncomputable def defScope (s:Stmt):Scope:=match s with
 | .FunctionDef _ _ _ _ _ _ sc _ _ _=>sc
 | _=>{kind:=.function,names:=[],isGenerator:=false,isCoroutine:=false}
noncomputable abbrev CX0:CXT:=fun _ _ _ _ _ _=>False
noncomputable abbrev E0:XK:=fun _ _ _=>False
theorem pass0 {X:Cx}:Passes CX0 X E0:=fun _ _ _ _ _ _ _ h=>h.elim
structure Fun (K:Fg) (x qual:Str) (st:Stmt) (f:Addr) (fd:FuncData):Prop where
 ex:∃(oc:Value) (od:Option Addr) (kV doc pm:Value) (an:Option Addr) (cdv ct:Value) (osl:Array (Option Value)),
  fd=PySem.W.fnOf x qual (defArgs st) (defBody st) (defScope st) .none kV doc pm an cdv ct/\K.lookup f=some ⟨oc,od,.func fd,osl⟩/\PySem.W.codeIn K cdv qual=true
 kp:PySem.W.keepIn K (.ref f)=true
section
variable {P:Program} {w:World} {K:Fg} {mg:Str->Option Value} {base:Heap}
theorem Fun.ok {x qual:Str} {st:Stmt} {f:Addr} {fd:FuncData} {N ps:List Str} {k:Nat} {sp:Sp} (F:Fun K x qual st f fd) (S:FnScope N ps (defScope st)) (len:∀vs H Q E,sp vs H Q E->vs.length=ps.length)
  (hbody:∀(cdv:Value) (A:Around) (outer:List Env) (s:Shared) (H:Hp) (vs:List V) (Q:VK) (E:XK),Room k (A.deeper (envOfC qual (defScope st) s.heap.objs.size f cdv))->sp vs H Q E ->
   ∃t,PSs (cxOf CX0 P w K mg base N qual (defScope st) f cdv A outer s H E).nox (defBody st) t/\t {nx:=fun _ H'=>Q .non H',rt:=Q} (start N vs) H):FnOk P w K mg base CX0 (k+1) f fd ps sp:=by
 obtain ⟨oc,od,kV,doc,pm,an,cdv,ct,osl,rfl,lk,hcd⟩:=F.ex;refine zbec lk hcd S len fun A outer s H vs Q E hr hsp=>?_
 obtain ⟨t,h,q⟩:=hbody cdv A outer s H vs Q E hr hsp;exact ⟨t,h.nox,q⟩
theorem Fun.binds {x qual:Str} {st:Stmt} {f:Addr} {fd:FuncData} {ps:List Str} (F:Fun K x qual st f fd)
  (h:∀(kV doc pm:Value) (an:Option Addr) (cdv ct:Value) (us:List Value),us.length=ps.length->bindArgs (PySem.W.fnOf x qual (defArgs st) (defBody st) (defScope st) .none kV doc pm an cdv ct) ⟨us,[]⟩=pure (ps.zip us)):Binds K fd ps []:=by
 obtain ⟨oc,od,kV,doc,pm,an,cdv,ct,osl,rfl,lk,hcd⟩:=F.ex;exact .all (h kV doc pm an cdv ct)
theorem zbeb {x qual:Str} {st:Stmt} {f:Addr} {oc:Value} {od an:Option Addr} {osl:Array (Option Value)} {kV doc pm cdv ct:Value} (l:K.lookup f=some ⟨oc,od,.func (PySem.W.fnOf x qual (defArgs st) (defBody st) (defScope st) .none kV doc pm an cdv ct),osl⟩)
 (c:PySem.W.codeIn K cdv qual=true) (k:PySem.W.keepIn K (.ref f)=true):Fun K x qual st f (PySem.W.fnOf x qual (defArgs st) (defBody st) (defScope st) .none kV doc pm an cdv ct):=⟨⟨oc,od,kV,doc,pm,an,cdv,ct,osl,rfl,l,c⟩,k⟩
end
theorem zwi {A:Around} {k:Nat} (hr:Room k A):A.units+1 < cLine:=xcn (xby (by decide:1<=64) _) hr.units
section
variable {X:Cx}
theorem pv (i : Nat) {x : Str} {pos : Pos} (hN : X.N[i]? = some x := by rfl) (hv : Vis X.env.scope x := by first | exact Or.inl rfl | exact Or.inr (Or.inl rfl) | exact Or.inr (Or.inr rfl)) (hd : (x == ("__debug__" : Str)) = false := by decide)
 (hcd : (x == ("__classdict__" : Str)) = false := by decide) : PE X (.Name x pos) (tVar i) := zbct hN hv hd hcd
end
theorem iteF {A B:Prop} (h:B):if false=true then A else B:=by
 rw[if_neg xez];exact h
theorem iteT {A B:Prop} (h:A):if true=true then A else B:=by
 rw[if_pos rfl];exact h
section
variable {X:Cx}
end
section
variable {κ:Type} [DecidableEq κ]
end
section
variable {P:Program} {w:World} {B:Around} {R:Result->Shared->Prop} {sh:Shared}
noncomputable abbrev NoX:Value->Shared->Prop:=fun _ _=>False
noncomputable abbrev testsOf (cs:List Expr) (ev:Env):Sem Bool :=
 forIn cs true fun d b=>if b=true then do let z ← isTrue d ev (eval d ev);pure (ForInStep.yield z) else pure (ForInStep.yield b)
noncomputable def CompStep (P:Program) (w:World) (B:Around) (tg x:Expr) (cs:List Expr) (ev:Env) (i l:Value) (K:Shared->Prop) (v:Value) (sa:Shared):Prop :=
 wpAny (model P w) B (letOwnedTupleGo tg i v) (fun _ sb=>wpAny (model P w) B (assign tg ev v) (fun _ sc=>wpAny (model P w) B (testsOf cs ev) (fun ok sd =>
  if ok = true then wpAny (model P w) B (eval x ev) (fun y se => wpAny (model P w) B (call (.builtin "list.append") [l, y]) (fun _ sf => K sf) NoX se) NoX sd else K sd) NoX sc) NoX sb) NoX sa
theorem zsd {tg it x:Expr} {cs:List Expr} {sc:Scope} {ps:Pos} {i l:Value} {ev:Env} (J:Nat->Shared->Prop)
  (go:∀k sk,J k sk->wpAny (model P w) B (pyNext i) (fun o sa=>match o with
   | none=>R (.ok .next) sa
   | some v=>CompStep P w B tg x cs ev i l (fun sf=>∃k',k' < k/\J k' sf) v sa) NoX sk)
  (k:Nat) (hJ:J k sh):codeAny (model P w) B (.compLoop (.ListComp x [⟨tg,it,cs,0⟩] sc ps) 0 i l ev) R sh:=by
 have none_:∀{E:Value->Shared->Prop} (e:Value) (z:Shared),NoX e z->E e z:=fun _ _ z=>z.elim
 refine codeAny_loop rfl J (fun k sk hk=>wpAny_noted (by
  rw[compTurn_list];refine xba (wpAny_standAt (xba (xde (go k sk hk) (fun o sa ho=>?_) none_)))
  match o,ho with
  | none,ho=>exact xbh ho
  | some v,ho =>
   refine xba (xde ho (fun _ sb hb=>xba (xde hb (fun _ sc' hc=>xba (xde hc (fun ok sd hd=>?_) none_)) none_)) none_)
   match ok,hd with
   | false,hd=>exact xbh (And.intro rfl hd)
   | true,hd=>exact xba (xba (xde hd (fun y se he=>xba (xde he (fun _ sf hf=>xbh (xbh (And.intro rfl hf))) none_)) none_)))) k hJ
end
theorem zkd {env:Env}:∀(names:List (Str × NameKind)) (acc:List (Str × Addr)),(∀y∈names,y.2=.free->∃c,env.cells.lookup y.1=some c)->(∀x c,acc.lookup x=some c->env.cells.lookup x=some c) ->
  ∃cl:List (Str × Addr),(forIn names acc (fun x r=>if (x.2 == NameKind.free)=true then do let a ← cellOf env x.1;pure (ForInStep.yield ((x.1,a)::r)) else pure (ForInStep.yield r)):Sem (List (Str × Addr)))=pure cl /\
   (∀x c,cl.lookup x=some c->env.cells.lookup x=some c)/\(∀x c,acc.lookup x=some c->∃c',cl.lookup x=some c')/\∀x,(x,NameKind.free)∈names->∃c,cl.lookup x=some c:=by
 intro names
 induction names with
 | nil=>intro acc _ ha;exact ⟨acc,rfl,ha,fun x c e=>⟨c,e⟩,fun x z=>(nomatch z)⟩
 | cons y r ih =>
  intro acc hf ha;obtain ⟨n,k⟩:=y;by_cases hk:k=.free
  ·subst hk;obtain ⟨c,hc⟩:=hf (n,.free) xbu rfl
   obtain ⟨cl,e,h1,h2,h3⟩:=ih ((n,c)::acc) (fun y hy=>hf y (xca _ hy)) (fun x c' e=>by
    rw[xed] at e;by_cases hx:x=n
    ·subst hx;rw[xgg] at e;cases e;exact hc
    ·rw[xgj.mpr hx] at e
     exact ha x c' e)
   refine ⟨cl,?_,h1,fun x c' e'=>?_,fun x hx=>?_⟩
   ·rw[List.forIn_cons];simp only[xgg,ite_true];have q:cellOf env n=pure c:=by unfold cellOf;rw[hc]
    rw[q];simp only[pure_bind];exact e
   ·by_cases hx:x=n
    ·subst hx;exact h2 x c (by rw[xed,xgg])
    ·exact h2 x c' (by rw[xed,xgj.mpr hx];exact e')
   ·rcases xbt.mp hx with z | z
    ·cases z;exact h2 n c (by rw[xed,xgg])
    ·exact h3 x z
  ·obtain ⟨cl,e,h1,h2,h3⟩:=ih acc (fun y hy=>hf y (xca _ hy)) ha;refine ⟨cl,?_,h1,h2,fun x hx=>?_⟩
   ·rw[List.forIn_cons];have hb:(k == NameKind.free)=false:=by simpa using hk
    simp only[hb,xcv,xep,pure_bind];exact e
   ·rcases xbt.mp hx with z | z
    ·cases z;exact absurd rfl hk
    ·exact h3 x z
theorem zph {scope:Scope} {env:Env} (h:∀y∈scope.names,y.2=.free->∃c,env.cells.lookup y.1=some c) :
  ∃cl,closureFor scope env=pure cl/\(∀x c,cl.lookup x=some c->env.cells.lookup x=some c)/\∀x,(x,NameKind.free)∈scope.names->∃c,cl.lookup x=some c:=by
 obtain ⟨cl,e,h1,_,h3⟩:=zkd (env:=env) scope.names [] h (fun x c e=>(nomatch e));refine ⟨cl,?_,h1,h3⟩;unfold closureFor;have e':=congrArg (fun m=>m >>= fun r=>(pure r:Sem (List (Str × Addr)))) e;simp only[pure_bind] at e';exact e'
theorem zy {env:Env}:∀{names:List (Str × NameKind)} {x:Str} {k:NameKind},(names.map fun (n,k)=>if (k == NameKind.free && env.scope.kind == .function && env.kindOf n == some .cell) then (n,NameKind.cell) else (n,k)).lookup x=some k ->
  names.lookup x=some k\/(k=.cell/\names.lookup x=some .free)
 | [],_,_,h=>by simp at h
 | (n,k')::r,x,k,h=>by
  have ih:=@zy env r x k;have h':List.lookup x ((if (k' == NameKind.free && env.scope.kind == .function && env.kindOf n == some .cell)=true then (n,NameKind.cell) else (n,k'))::_)=_:=h;cases hx:x == n with
  | true =>
   by_cases hc:(k' == NameKind.free && env.scope.kind == .function && env.kindOf n == some .cell)=true
   ·rw[if_pos hc] at h';simp only[xed,hx] at h' ⊢;cases h';rw[xfi,xfi] at hc;exact .inr ⟨rfl,by rw[eq_of_beq hc.1.1]⟩
   ·rw[if_neg hc] at h';simp only[xed,hx] at h' ⊢;exact .inl h'
  | false =>
   have h2:(r.map fun (n,k)=>if (k == NameKind.free && env.scope.kind == .function && env.kindOf n == some .cell) then (n,NameKind.cell) else (n,k)).lookup x=some k:=by
    by_cases hc:(k' == NameKind.free && env.scope.kind == .function && env.kindOf n == some .cell)=true
    ·rw[if_pos hc] at h';simp only[xed,hx] at h';exact h'
    ·rw[if_neg hc] at h';simp only[xed,hx] at h';exact h'
   simp only[xed,hx];exact ih h2
noncomputable def cxC (X:Cx) (N:List Str) (scope:Scope) (cl:List (Str × Addr)) (C:Addr) (fp:List Addr) (s:Shared) (H:Hp):Cx :=
 {X with N:=N,s₀:=s,H₀:=H,env:=compEnvC scope cl C X.env,outer:=X.stack,ex:=fp,fn:=fun _=>false,pn:=[],xe:=fun _ _=>False}
noncomputable def startC (k:Nat) (is:List Nat) (σ:St):St:=List.replicate k none++is.map fun i=>(σ[i]?).getD none
structure CompScope (X:Cx) (N:List Str) (k:Nat) (is:List Nat) (scope:Scope):Prop where
 kind:scope.kind=.function
 nocell:∀y∈scope.names,y.2≠.cell
 names:∀y∈scope.names,y.2=.local->scope.names.lookup y.1=some .local
 frees:∀y∈scope.names,y.2=.free->X.env.kindOf y.1=some .cell\/X.env.kindOf y.1=some .free
 len:N.length=k+is.length
 own:∀j i,is[j]?=some i->∃x,N[k+j]?=some x/\X.N[i]?=some x/\scope.names.lookup x=some .free
theorem zcg {x:Str} {k:NameKind} {l:List (Str × NameKind)} (h:l.lookup x=some k):(x,k)∈l:=xdk h
section
variable {X:Cx} {pins:List (Addr × Obj)} {σ:St} {H:Hp} {s:Shared}
theorem zuz {N:List Str} {k:Nat} {is:List Nat} {scope:Scope} {cl:List (Str × Addr)} {fp:List Addr} {h1:Heap} {tk:Nat} (S:CompScope X N k is scope) (I:Inv X pins σ H s)
  (c1:∀x c,cl.lookup x=some c->X.env.cells.lookup x=some c) (c2:∀x,(x,NameKind.free)∈scope.names->∃c,cl.lookup x=some c)
  (hf:∀b∈fp,FpOk X pins H b) (hfo:∀b∈fp,∃o,s.heap.get? b=some o) (hn:h1.Ns s.heap.objs.size (fun _=>none)) (hk:∀b o,s.heap.get? b=some o->h1.get? b=some o) :
  Inv (cxC X N scope cl s.heap.objs.size fp s H) [] (startC k is σ) H {s with heap:=h1,toks:=tk}:=by
 have hC:∀b o,s.heap.get? b=some o->b≠s.heap.objs.size:=fun b o e=>xce (xbk e)
 have nfs:∀b∈fp,b∉frs X.stack:=fun b hb z=>by
  rcases xbt.mp (I.stkSub b z) with e | e
  ·exact (hf b hb).2.1 e
  ·exact (hf b hb).2.2.1 e
 refine ⟨⟨I.ok.mod,S.kind,I.ok.glob,I.ok.blt,xbe _,fun x y c e1 e2=>I.ok.inj x y c (c1 x c e1) (c1 y c e2),fun x hx=>?_,fun x c z=>?_,I.ok.hd,I.ok.frames,.inl rfl,fun b hb=>⟨?_,fun x c e=>?_⟩,I.bs,xbb I.ok.bsz I.sz,fun b o e hb=>?_,nfs,I.stack,I.stkFree⟩,
  rfl,I.bare,Un.kept hk,⟨_,hn,fun i x v e1 e2 e3=>?_⟩,fun x c e=>?_,I.hok.fresh (xbe _),fun x c e=>I.freeC x c (c1 x c e),fun p hp=>(nomatch hp),I.hok.kept hk,?_,I.hnd⟩
 ·have hx':(scope.names.map fun (n,k)=>if (k == NameKind.free && X.env.scope.kind == .function && X.env.kindOf n == some .cell) then (n,NameKind.cell) else (n,k)).lookup x=some .cell\/(scope.names.map fun (n,k)=>if (k == NameKind.free && X.env.scope.kind == .function && X.env.kindOf n == some .cell) then (n,NameKind.cell) else (n,k)).lookup x=some .free:=hx;have q:scope.names.lookup x=some .free:=by
   rcases hx' with z | z
   ·rcases zy z with q | ⟨_,q⟩
    ·exact absurd rfl (S.nocell _ (zcg q))
    ·exact q
   ·rcases zy z with q | ⟨q,_⟩
    ·exact q
    ·cases q
  exact c2 x (zcg q)
 ·cases z
 ·obtain ⟨o,e⟩:=hfo b hb;exact hC b o e
 ·exact (hf b hb).2.2.2.2.1 x c (c1 x c e)
 ·rcases (hf b hb).2.2.2.1 with z | z
  ·exact I.ok.noex b o e z
  ·exact absurd (xbd (xbk (I.ok.bs b o e).1) z) (xfw _)
 ·-- a name of the def around
  unfold startC at e2;have hi:k<=i:=by
   rcases xge i k with z | z
   ·rw[xbv (by rw[xfr];exact z),List.getElem?_replicate,if_pos z] at e2;cases e2
   ·exact z
  rw[xch (by rw[xfr];exact hi),xfr,xcs] at e2;cases ej:is[i - k]? with
  | none=>rw[ej] at e2;cases e2
  | some j =>
   rw[ej] at e2;have e2':(σ[j]?).getD none=some v:=xbw e2;obtain ⟨y,y1,y2,y3⟩:=S.own (i - k) j ej;have ey:y=x:=by
    have z:N[i]?=some y:=by rw[← y1];congr 1;lia
    have e1':N[i]?=some x:=e1;rw[z] at e1';exact xbw e1'
   subst ey;have e4:σ[j]?=some (some v):=by
    cases q:σ[j]? with
    | none=>rw[q] at e2';cases e2'
    | some o=>rw[q] at e2';exact congrArg some e2'
   have kd:=S.frees _ (zcg y3) rfl;have vis:Vis X.env.scope y:=.inr kd;obtain ⟨m,_,hl⟩:=I.loc;obtain ⟨u,r,lk⟩:=hl j y v y2 e4 vis;refine ⟨u,r,?_⟩;rcases lk with ⟨z,_⟩ | ⟨_,c,e5,cc⟩
   ·rcases kd with q | q<;>(rw[q] at z;cases z)
   ·obtain ⟨c',e6⟩:=c2 y (zcg y3);have:c'=c:=by
     have z:=c1 y c' e6;rw[e5] at z;exact (xbw z).symm
    subst this;refine .inr ⟨?_,c',e6,?_⟩
    ·rcases e3 with z | z | z
     ·exact absurd (zy z) (by
       rw[y3];rintro (q | ⟨q,_⟩)
       ·cases q
       ·cases q)
     ·exact .inl z
     ·exact .inr z
    ·obtain ⟨o,ho,hd⟩:=cc;exact ⟨o,hk _ o ho,hd⟩
 ·obtain ⟨v,o,ho,hd⟩:=I.cell x c (c1 x c e);exact ⟨v,o,hk _ o ho,hd⟩
 ·unfold startC;rw[xbm,xfr,xbc];exact S.len.symm
theorem zva {N:List Str} {scope:Scope} {cl:List (Str × Addr)} {fp:List Addr} {σ':St} {H':Hp} {s':Shared} {h':Heap} (I:Inv X pins σ H s) (hf:∀b∈fp,FpOk X pins H b) (J:Inv (cxC X N scope cl s.heap.objs.size fp s H) [] σ' H' s')
  (hs:Heap.SameBut s.heap.objs.size s'.heap h'):Inv X pins σ H' {s' with heap:=h'}:=by
 have hC:∀b o,s.heap.get? b=some o->b≠s.heap.objs.size:=fun b o e=>xce (xbk e)
 have hH:H' s.heap.objs.size=none:=J.free;have B:Un (frs X.stack) fp H H' s.heap s'.heap:=J.base
 have U:Un (frs X.stack) fp H H' s.heap h':=⟨fun b o e n h1 h2=>hs.extBut b o (hC b o e) (B.keep b o e n h1 h2),fun b o e n h1 h2=>by
   obtain ⟨sl,q⟩:=B.slot b o e n h1 h2;exact ⟨sl,hs.extBut b _ (hC b o e) q⟩,B.free,fun b o e hx=>by
   obtain ⟨o',q⟩:=B.there b o e hx
   exact ⟨o',hs.extBut b o' (hC b o e) q⟩,B.tups,B.frzs,B.tbls⟩
 refine I.call' (s':={s' with heap:=h'}) J.os U (fun a o e=>?_) J.bare (fun b hb=>⟨(hf b hb).2.2.2.1,(hf b hb).2.1,(hf b hb).2.2.2.2.1,(hf b hb).2.2.2.2.2⟩);refine (J.hok a o e).stay (fun b u hb q=>hs.extBut b u ?_ q) (fun _ q=>q) fun _ _ q=>q
 rcases hb with z | z
 ·intro y;rw[z] at y;rw[y,hH] at e;cases e
 ·intro y;rw[y,hH] at z;cases z
end
structure OffC (X:Cx) (pins:List (Addr × Obj)) (H:Hp) (C:Addr):Prop where
 free:H C=none
 loc:C≠X.env.locals
 young:X.s₀.heap.objs.size<=C
 cell:∀x c,X.env.cells.lookup x=some c->c≠C
 pin:∀p∈X.pn++pins,p.1≠C
theorem OffC.back {X:Cx} {pins:List (Addr × Obj)} {σ:St} {H:Hp} {C:Addr} {s:Shared} {h':Heap} (o:OffC X pins H C) (I:Inv X pins σ H s) (hs:Heap.SameBut C s.heap h'):Inv X pins σ H {s with heap:=h'} :=
 I.turned (t':=s.toks) (fun b u hb e=>hs.extBut b u hb e) o.free o.loc (.inr o.young) o.cell o.pin
noncomputable def nxC (p:Addr) (te:TE) (tc:TT) (N:St->Hp->Prop):St->Hp->Prop:=fun σ2 H3=>tc σ2 H3 fun b H4 =>
 if b=true then te σ2 H4 fun y H5=>∃xs,H5 p=some (.lst xs)/\xs.length < sizeLine/\N σ2 (upd H5 p (.lst (xs++[y]))) else N σ2 H4
noncomputable def CompG (J:It) (g:TG) (tc:TT) (te:TE) (Q:VK) (p:Addr) (σ:St) (H:Hp):Prop:=∃W:Nat->Nat->St->Hp->Prop,(∃m,W 0 m σ H) /\
 ∀i m σ' H',W i m σ' H'->(J.stop i H'/\Q (.ref p) H')\/(J.go i H'/\∃N:St->Hp->Prop,(∀σ2 H2,N σ2 H2->∃m',m' < m/\W (i+1) m' σ2 H2)/\∀x H2,J.yld i H' x H2->g x σ' H2 (nxC p te tc N))
noncomputable def tComp (wi:TI) (k:Nat) (is:List Nat) (g:TG) (tc:TT) (te:TE):TE:=fun σ H Q=>wi σ H fun J H1=>∀p,H1 p=none->CompG J g tc te Q p (startC k is σ) (upd H1 p (.lst []))
noncomputable def tYes:TT:=fun _ H Q=>Q true H
section
variable {X:Cx} {tg iter elt:Expr} {ifs:List Expr} {wi:TI} {g:TG} {tc:TT} {te:TE} {N:List Str} {k:Nat} {is:List Nat} {scope:Scope} {pos:Pos}
noncomputable def PIf (X:Cx) (ifs:List Expr) (t:TT):Prop :=
 ∀(pins:List (Addr × Obj)) (s:Shared) (σ:St) (H:Hp) (Q:Bool->Hp->Prop),Inv X pins σ H s->t σ H Q ->
  wpAny (model X.prog X.w) X.A (forIn ifs true fun c r=>if r=true then do let ok ← isTrue c X.env (eval c X.env);pure (ForInStep.yield ok) else pure (ForInStep.yield r)) (TP X pins σ Q) X.xe s
theorem zxt:PIf X [] tYes:=fun pins s σ H Q I h=>wpAny_tests_nil ⟨H,I,h⟩
theorem zxs {c:Expr} {t:TT} (h:PT X c t):PIf X [c] t:=fun pins s σ H Q I hq=>wpAny_tests_one (h pins s σ H Q I hq)
theorem zpf (hcalm:X.calm=true) (hg:∀cl C fp s H,PG (cxC X N scope cl C fp s H) tg g) (hc:∀cl C fp s H,PIf (cxC X N scope cl C fp s H) ifs tc) (he:∀cl C fp s H,PE (cxC X N scope cl C fp s H) elt te)
  (S:CompScope X N k is scope) {pins:List (Addr × Obj)} {σ:St} {H2:Hp} {s2:Shared} {cl:List (Str × Addr)} {it:Addr} {fp:List Addr} {tn:Nat->Heap->Prop} {J:It} {Q:VK} {E:Value->Shared->Prop} {RR:Value->Addr->Result->Shared->Prop}
  (I2:Inv X pins σ H2 s2) (T:Turn X.prog X.w X.K tg J fp it tn) (st2:tn 0 s2.heap) (f2:∀b∈fp,FpOk X pins H2 b)
  (c1:∀x c,cl.lookup x=some c->X.env.cells.lookup x=some c) (c2:∀x,(x,NameKind.free)∈scope.names->∃c,cl.lookup x=some c)
  (h:∀p,H2 p=none->∃W:Nat->Nat->St->Hp->Prop,(∃m,W 0 m (startC k is σ) (upd H2 p (.lst []))) /\
   ∀i m σ' H',W i m σ' H'->(J.stop i H'/\Q (.ref p) H')\/(J.go i H'/\∃N:St->Hp->Prop,(∀σ2 H2,N σ2 H2->∃m',m' < m/\W (i+1) m' σ2 H2)/\∀x H2,J.yld i H' x H2->g x σ' H2 (nxC p te tc N)))
  (hR:∀(p C:Addr) (s':Shared) (H':Hp) (m:Str->Option Value),OffC X pins H' C->s'.heap.Ns C m->Inv X pins σ H' s'->Q (.ref p) H'->RR (.ref p) C (.ok .next) s') :
  wpAny (model X.prog X.w) X.A (newList []) (fun acc s₃=>wpAny (model X.prog X.w) X.A (newFunctionEnv scope X.env.globals cl [] X.env.qual none .none (some X.env)) (fun cenv s₄ =>
   codeAny (model X.prog X.w) X.A (.compStart (.ListComp elt [⟨tg,iter,ifs,0⟩] scope pos) 0 (.ref it) acc {cenv with scope:=relabel scope X.env}) (RR acc cenv.locals) s₄) E s₃) E s2:=by
 refine xeb ?_;have fresh:H2 s2.heap.objs.size=none:=I2.fresh;have I3 : Inv X pins σ (upd H2 s2.heap.objs.size (.lst [])) { s2 with heap := s2.heap.push { cls := .type "list", dict := none, data := .seq ([] : List Value).toArray } } := I2.lnew (t' := s2.toks) (.nil) (by decide)
 generalize hs3 : ({ s2 with heap := s2.heap.push { cls := .type "list", dict := none, data := .seq ([] : List Value).toArray } } : Shared) = s3 at I3
 have k3:∀b o,s2.heap.get? b=some o->s3.heap.get? b=some o:=fun b o e=>by rw[← hs3];exact xbg _ e
 refine wpAny_newFunctionEnv S.nocell (by intro y hy;simp at hy) (fun h₁ hns₁ hsb₁=>?_) S.kind;have st3:tn 0 s3.heap:=T.keep _ _ _ st2 fun b _ o e=>k3 b o e
 have f3:∀b∈fp,FpOk X pins (upd H2 s2.heap.objs.size (.lst [])) b:=fun b hb=>by
  obtain ⟨o,e,_⟩:=T.obj _ _ st2 b hb;exact ⟨by rw[zh (xce (xbk e))];exact (f2 b hb).1,(f2 b hb).2⟩
 have k4:∀b o,s3.heap.get? b=some o->h₁.get? b=some o:=fun b o e=>hsb₁.extBut b o (xce (xbk e)) (xbg _ e)
 have J4:=zuz (tk:=s3.toks+([]:List (Str × Value)).length) S I3 c1 c2 f3 (fun b hb=>let ⟨o,e,_⟩:=T.obj _ _ st3 b hb;⟨o,e⟩) hns₁ k4;obtain ⟨W,⟨m0,w0⟩,turn⟩:=h s2.heap.objs.size fresh;have st4:tn 0 h₁:=T.keep _ _ _ st3 fun b _ o e=>k4 b o e
 have loop:codeAny (model X.prog X.w) X.A (.compLoop (.ListComp elt [⟨tg,iter,ifs,0⟩] scope pos) 0 (.ref it) (.ref s2.heap.objs.size) (compEnvC scope cl s3.heap.objs.size X.env)) (RR (.ref s2.heap.objs.size) s3.heap.objs.size) {s3 with heap:=h₁,toks:=s3.toks+([]:List (Str × Value)).length}:=by
  have stat:∀{H':Hp},(∀b∈fp,H' b=none)->∀b∈fp,FpOk (cxC X N scope cl s3.heap.objs.size fp s3 (upd H2 s2.heap.objs.size (.lst []))) [] H' b:=fun {H'} hn b hb=>by
   obtain ⟨o,e,_⟩:=T.obj _ _ st3 b hb;refine ⟨hn b hb,xce (xbk e),J4.ok.exfs b hb,.inl hb,fun x c e'=>(f3 b hb).2.2.2.2.1 x c (c1 x c e'),fun p hp=>(nomatch hp)⟩
  refine zsd (fun n s'=>∃i σ' H',Inv (cxC X N scope cl s3.heap.objs.size fp s3 (upd H2 s2.heap.objs.size (.lst []))) [] σ' H' s'/\tn i s'.heap/\(∀b∈fp,H' b=none)/\W i n σ' H') ?_ m0
   ⟨0,_,_,J4,st4,fun b hb=>(f3 b hb).1,w0⟩
  rintro n s5 ⟨i,σ5,H5,I5,st5,fr5,w5⟩;rcases turn i n σ5 H5 w5 with ⟨stop,q⟩ | ⟨go,N',hN',step⟩
  ·refine thn (T.done (cxC X N scope cl s3.heap.objs.size fp s3 (upd H2 s2.heap.objs.size (.lst []))) rfl rfl rfl hcalm i [] s5 σ5 H5 _ I5 (stat fr5) st5 stop) fun r s6 hq0=>?_
   obtain ⟨hr,I6⟩:=hq0;subst hr;obtain ⟨m,hm,_⟩:=I6.loc;refine hR _ _ s6 H5 m ⟨I6.free,xjd I3.lt,I3.sz,fun x c e=>?_,fun p hp=>xce (xbk (I3.pin p hp).1)⟩ hm (zva (h':=s6.heap) I3 f3 I6 (.refl ..)) q;obtain ⟨v,o,ho,_⟩:=I3.cell x c e;exact xce (xbk ho)
  ·refine thn (T.item (cxC X N scope cl s3.heap.objs.size fp s3 (upd H2 s2.heap.objs.size (.lst []))) rfl rfl rfl hcalm i [] s5 σ5 H5 _ I5 (stat fr5) st5 go) fun r s6 hq0=>?_
   obtain ⟨u,hr,h6⟩:=hq0;subst hr;refine thn h6 fun _ s7 hq0=>?_
   obtain ⟨x,H7,I7,r7,y7,st7,fr7⟩:=hq0;have I7':=I7.pinned (stat fr7) (T.obj _ _ st7);refine thn (hg cl s3.heap.objs.size fp s3 _ _ s7 σ5 H7 x u _ I7' r7 (step x H7 y7)) fun _ s8 hq0=>?_
   obtain ⟨σ8,H8,I8,q8⟩:=hq0;refine thn (hc cl s3.heap.objs.size fp s3 _ _ s8 σ8 H8 _ I8 q8) fun b s9 hq0=>?_
   obtain ⟨H9,I9,q9⟩:=hq0;have again:∀{σ':St} {H':Hp} {s':Shared} {m':Nat},Inv (cxC X N scope cl s3.heap.objs.size fp s3 (upd H2 s2.heap.objs.size (.lst []))) ([]++pinsAt fp s7.heap) σ' H' s'->m' < n->W (i+1) m' σ' H' ->
     ∃m,m < n/\∃i σ' H',Inv (cxC X N scope cl s3.heap.objs.size fp s3 (upd H2 s2.heap.objs.size (.lst []))) [] σ' H' s'/\tn i s'.heap/\(∀b∈fp,H' b=none)/\W i m σ' H':=fun {σ' H' s' m'} I' hm w'=>by
    refine ⟨m',hm,i+1,σ',H',I'.unpinned,T.keep _ _ _ st7 fun b hb o e=>(I'.pin (b,o) (xcu _ (xcu _ (zdu hb e)))).1,fun b hb=>?_,w'⟩;obtain ⟨o,e,d⟩:=T.obj _ _ st7 b hb;exact (I'.pin (b,o) (xcu _ (xcu _ (zdu hb e)))).2.1
   cases b with
   | false =>
    obtain ⟨m',hm,w'⟩:=hN' _ _ q9;exact again I9 hm w'
   | true =>
    refine thn (he cl s3.heap.objs.size fp s3 _ _ s9 σ8 H9 _ I9 q9) fun v s10 hq0=>?_
    obtain ⟨y,H10,I10,r10,xs,hxs,hz,n10⟩:=hq0;obtain ⟨m',hm,w'⟩:=hN' _ _ n10;refine thn (zkp (X:=cxC X N scope cl s3.heap.objs.size fp s3 (upd H2 s2.heap.objs.size (.lst []))) _ s10 σ8 H10 (.ref s2.heap.objs.size) [y] _ [v] (fun _ H'=>H'=upd H10 s2.heap.objs.size (.lst (xs++[y]))) I10 rfl (.cons r10 .nil) ⟨_,xs,y,rfl,rfl,hxs,hz,rfl⟩) fun _ s11 hq0=>?_
    obtain ⟨_,H11,I11,_,e11⟩:=hq0;subst e11;exact again I11 hm w'
 have hs3' : s2.heap.push { cls := .type "list", dict := none, data := .seq ([] : List Value).toArray } = s3.heap := by rw [← hs3]
 have fin:=codeAny_compStart_list (elt:=elt) (target:=tg) (iter:=iter) (ifs:=ifs) (rest:=[]) (scope:=scope) (pos:=pos) loop (T.self X.A 0 _ _ _ st4 loop);exact fin
theorem zfx (S:CompScope X N k is scope) {pins:List (Addr × Obj)} {σ:St} {H:Hp} {s:Shared} (I:Inv X pins σ H s) :
  ∃cl,closureFor scope X.env=pure cl/\(∀x c,cl.lookup x=some c->X.env.cells.lookup x=some c)/\∀x,(x,NameKind.free)∈scope.names->∃c,cl.lookup x=some c :=
 zph fun y hy hf=>I.ok.has y.1 (S.frees y hy hf)
theorem zyd (hcalm:X.calm=true) (hi:PI X tg iter wi) (hg:∀cl C fp s H,PG (cxC X N scope cl C fp s H) tg g) (hc:∀cl C fp s H,PIf (cxC X N scope cl C fp s H) ifs tc) (he:∀cl C fp s H,PE (cxC X N scope cl C fp s H) elt te)
  (S:CompScope X N k is scope) (hs:∀x,foldedSetIterable iter X.env x=pure x:=by intro _;rfl):PE X (.ListComp elt [⟨tg,iter,ifs,0⟩] scope pos) (tComp wi k is g tc te):=by
 intro pins s σ H Q I h;obtain ⟨cl,e,c1,c2⟩:=zfx S I;rw[eval_ListComp];refine wpAny_comprehension_free (use:=none) rfl hs e S.kind S.names (thn (hi pins s σ H _ I h) fun xv s1 h1=>thn h1 fun itv s2 h2=>?_);obtain ⟨it,fp,tn,J,H2,e2,I2,T,st2,f2,h3⟩:=h2;subst e2;refine zpf (Q:=Q) (RR:=fun acc C=>compPost (model X.prog X.w) X.A X.xe none (EP X pins σ Q) acc C) hcalm hg hc he S I2 T st2 f2 c1 c2 h3 ?_;intro p C s' H' m off hm I' q;exact ⟨m,hm,fun h' hs'=>⟨.ref p,H',off.back I' hs',rfl,q⟩⟩
end
section
variable {g:TG} {tc:TT} {te:TE} {Q:VK} {σ:St} {H:Hp} {p:Addr}
end
noncomputable def Callee (P:Program) (w:World) (K:Fg) (mg:Str->Option Value) (base:Heap) (x:Str) (k:Nat) (ps:List Str) (sp:Sp):Prop :=
 ∃f fd,FnOk P w K mg base CX0 k f fd ps sp/\Binds K fd ps []/\PySem.W.keepIn K (.ref f)=true/\mg x=some (.ref f)
section
variable {X:Cx} {x:Str} {k:Nat} {ps:List Str} {sp:Sp} {p pos:Pos} {e:Expr} {es:List Expr} {t:TA}
theorem zul (c : Callee X.prog X.w X.K X.mg X.base x k ps sp) (hr : Room k X.A) (hg : Gl X x) (ha : PA X (e :: es) t) (hdb : (x == ("__debug__" : Str)) = false := by decide)
  (he:starEach (e::es) X.env=(false,eval e X.env)::starEach es X.env:=by rfl) (hpl:(backTo pos (starEach es X.env)).any (·.1)=false:=by rfl) :
  PE X (.Call (.Name x p) (e::es) [] pos) (tCall sp [] E0 t):=by
 obtain ⟨f,fd,F,b,kp,m⟩:=c;exact zyf F hr hg m kp b .nil pass0 ha hdb he hpl
end
noncomputable def TopF (K:Fg) (x:Str) (st:Stmt):Prop :=
 ∃f fd,PySem.W.nsIn K mainGlobals x=some (some (.ref f))/\Fun K x x st f fd
theorem zcb {K:Fg} {x:Str} {st:Stmt} {f:Addr} {od an:Option Addr} {sl:Array (Option Value)} {oc kV dc pm cd ct:Value}
  (a:PySem.W.nsIn K mainGlobals x=some (some (.ref f))) (l:K.lookup f=some ⟨oc,od,.func (PySem.W.fnOf x x (defArgs st) (defBody st) (defScope st) .none kV dc pm an cd ct),sl⟩) (c:PySem.W.codeIn K cd x=true) (k:PySem.W.keepIn K (.ref f)=true):TopF K x st :=
 ⟨f,_,a,zbeb l c k⟩
theorem zse {P:Program} {w:World} {K:Fg} {mg:Str->Option Value} {base h:Heap} {x:Str} {st:Stmt} {N ps:List Str} {k:Nat} {sp:Sp} (T:TopF K x st) (X:K.In h) (G:h.Ns mainGlobals mg) (S:FnScope N ps (defScope st))
  (bd:∀(kV doc pm:Value) (an:Option Addr) (cdv ct:Value) (us:List Value),us.length=ps.length->bindArgs (PySem.W.fnOf x x (defArgs st) (defBody st) (defScope st) .none kV doc pm an cdv ct) ⟨us,[]⟩=pure (ps.zip us))
  (len:∀vs H Q E,sp vs H Q E->vs.length=ps.length)
  (hbody:∀(f:Addr) (cdv:Value) (A:Around) (outer:List Env) (s:Shared) (H:Hp) (vs:List V) (Q:VK) (E:XK),Room k (A.deeper (envOfC x (defScope st) s.heap.objs.size f cdv))->sp vs H Q E ->
   ∃t,PSs (cxOf CX0 P w K mg base N x (defScope st) f cdv A outer s H E).nox (defBody st) t/\t {nx:=fun _ H'=>Q .non H',rt:=Q} (start N vs) H):Callee P w K mg base x (k+1) ps sp:=by
 obtain ⟨f,fd,a,F⟩:=T;exact ⟨f,fd,F.ok S len (hbody f),F.binds bd,F.kp,xcq X G a⟩
section
variable {X:Cx}
theorem zgz : CallR X (.builtin "isinstance") (fun xs H Q => ∃ x T t b, xs = [x, .ty T] /\ TyOf X.K H x t /\ PySem.W.kitOne X.K t (.type T) = some b /\ Q (.bl b) H) := by
 intro pins s σ H xs us Q I r h;obtain ⟨x,T,t,b,rfl,ty,e,q⟩:=h;obtain ⟨u,w',rfl,ru,rw'⟩:=vals2 r;cases (show w'=Value.type T from rw');exact zrn I ru ty e fun tk=>⟨.bl b,H,I.tok tk,rfl,q⟩
noncomputable def CDivP (i j:Int):Prop:=0 < j/\j < 2 ^ 1000
theorem zfq:OpR X (binaryOp .FloorDiv) (rI CDivP fun i j=>.int (i / j)):=opI fun i j _ _ _ _ _ hc q=>by
 have e:i.fdiv j=i / j:=Int.fdiv_eq_ediv_of_nonneg i (by have:=hc.1;lia);refine floordiv_int (by have:=hc.1;lia) (by rw[e];exact q) (.inl (PyProof.noPylong_of_log2 ?_));have h1:j.natAbs < 2 ^ 1000:=by
  have h2:=hc.1;have h3:=hc.2;have h4:(j.natAbs:Int)=j:=by lia
  have h5:(j.natAbs:Int) < ((2 ^ 1000:Nat):Int):=by
   rw[h4];exact_mod_cast h3
  exact_mod_cast h5
 have h0:j.natAbs≠0:=by have:=hc.1;lia
 have:=(Nat.log2_lt h0).mpr h1;lia
end
section
variable {X:Cx} {st:Stmt} {t:TS}
end
noncomputable def compLook (XN:List Str) (xs:List (Str × NameKind)) (N:List Str) (k:Nat) (is:List Nat) (scope:Scope):Bool :=
 (scope.kind == .function) && scope.names.all (fun y=>y.2 != .cell) && scope.names.all (fun y=>y.2 != .local || scope.names.lookup y.1 == some .local) &&
 scope.names.all (fun y=>y.2 != .free || (xs.lookup y.1 == some .cell || xs.lookup y.1 == some .free)) && (N.length == k+is.length) &&
 (List.range is.length).all (fun j=>match is[j]?,N[k+j]? with
  | some i,some x=>XN[i]? == some x && scope.names.lookup x == some .free
  | _,_=>false)
theorem zea {X:Cx} {N:List Str} {k:Nat} {is:List Nat} {scope:Scope} (h:compLook X.N X.env.scope.names N k is scope=true):CompScope X N k is scope:=by
 unfold compLook at h;simp only[xfi,xjz] at h;obtain ⟨⟨⟨⟨⟨h1,h2⟩,h3⟩,h4⟩,h5⟩,h6⟩:=h;refine ⟨eq_of_beq h1,fun y hy e=>?_,fun y hy e=>?_,fun y hy e=>?_,eq_of_beq h5,fun j i e=>?_⟩
 ·have:=h2 y hy;rw[e] at this;simp at this
 ·have:=h3 y hy;rw[e] at this;simp at this;exact this
 ·have:=h4 y hy;rw[e] at this;simp at this;exact this
 ·have hj:j < is.length:=(xbl.mp e).1;have:=h6 j (xei.mpr hj);rw[e] at this;cases e2:N[k+j]? with
  | none=>rw[e2] at this;cases this
  | some x =>
   rw[e2] at this;simp only[xfi,xew] at this;exact ⟨x,rfl,this.1,this.2⟩
theorem zsi : bootBuiltins "len" = some (.builtin "len") := by decide +kernel
theorem zbfu : bootBuiltins "abs" = some (.builtin "abs") := by decide +kernel
theorem zvx : bootBuiltins "min" = some (.builtin "min") := by decide +kernel
theorem zbfs : bootBuiltins "max" = some (.builtin "max") := by decide +kernel
theorem zbfr : bootBuiltins "sum" = some (.builtin "sum") := by decide +kernel
theorem zli : bootBuiltins "sorted" = some (.builtin "sorted") := by decide +kernel
theorem zby : bootBuiltins "isinstance" = some (.builtin "isinstance") := by decide +kernel
theorem zbft : bootBuiltins "int" = some (.type "int") := by decide +kernel
theorem zbay : bootBuiltins "bool" = some (.type "bool") := by decide +kernel
theorem zke : bootBuiltins "tuple" = some (.type "tuple") := by decide +kernel
theorem ztq {H:Hp} {p:Addr} {o:HO} (h:H p=some o):upd H p o=H:=by
 funext b
 unfold upd;split
 ·subst b;exact h.symm
 ·rfl
section
variable {X:Cx} {K:Fg}
end
end L2
namespace Srt
open PySem PySem.W PyProof.Rows
section
variable (r:Nat->Nat)
noncomputable def lt (i j:Nat):Bool:=decide (r i < r j)
noncomputable def At (p:Array Nat) (i:Nat):Nat:=r (p.getD i 0)
noncomputable def Up (p:Array Nat) (n:Nat):Prop:=∀i j,i<=j->j < n->At r p i<=At r p j
end
section
variable {r:Nat->Nat} {p:Array Nat} {n:Nat}
end
section
variable {n:Nat}
end
section
variable {P:Program} {w:World} {B:Around} {E:Value->Shared->Prop} {st:Shared}
noncomputable def midHeap (h : Heap) (d : Addr) (xs : List Value) : Heap := ((h.update d (Obj.mapSeq fun _ => (#[] : Array Value))).push (seqObj "tuple" xs.toArray 0)).push (seqObj "list" #[] 0)
theorem zgr {h:Heap} {d b:Addr} {xs:List Value} {ob:Obj} (ne:b≠d) (e:h.get? b=some ob):(midHeap h d xs).get? b=some ob :=
 xbg _ (xbg _ ((Heap.get?_update_ne _ _ _ _ ne).trans e))
noncomputable def Answers (P:Program) (w:World) (B:Around) (r:Nat->Nat) (xs:List Value) (sg:Shared):Prop :=
 ∃κ,(∀R:SortKind->Shared->Prop,R κ sg->wpAny (model P w) B (keyKind' xs.toArray) R (fun _ _=>False) sg) /\
  ∀i j C,i < xs.length->j < xs.length->C (lt r i j) sg->kas_ask P w B κ xs i j C sg
noncomputable def outOf (xs:List Value) (p:Array Nat):Array Value:=List.toArray (p.toList.map fun i=>xs.getD i Value.none)
theorem zqi {xs:List Value} (h:xs.length < 2):(xs.toArray.zip xs.toArray).map (·.2)=outOf xs (List.toArray (List.range xs.length)):=by
 unfold outOf
 match xs,h with
 | [],_=>simp
 | [_],_=>simp[xjh]
 | _::_::_,h=>exact absurd h (by simp)
end
end Srt
namespace Srt
open PySem PySem.W PyProof.Rows HT
theorem zfr:∀a:List Int,lexLt a a=false
 | []=>rfl
 | x::a=>by rw[zch,if_pos rfl];exact zfr a
theorem zew:∀{a b c:List Int},lexLt a b=true->lexLt b c=true->lexLt a c=true
 | _,[],[],_,h=>by rw[zcw] at h;cases h
 | _,_::_,[],_,h=>by rw[zco] at h;cases h
 | [],[],_::_,h,_=>by rw[zcw] at h;cases h
 | _::_,[],_::_,h,_=>by rw[zco] at h;cases h
 | [],_::_,_::_,_,_=>zbr _ _
 | x::a,y::b,z::c,h1,h2=>by
  rw[zch] at h1 h2 ⊢;by_cases e1:x=y
  ·rw[if_pos e1] at h1;subst e1;by_cases e2:x=z
   ·rw[if_pos e2] at h2 ⊢;exact zew h1 h2
   ·rw[if_neg e2] at h2 ⊢;exact h2
  ·rw[if_neg e1] at h1;have h1':=xfz h1;by_cases e2:y=z
   ·subst e2;rw[if_neg e1];exact h1
   ·rw[if_neg e2] at h2;have h2':=xfz h2;rw[if_neg (by lia)];exact xdc (by lia)
theorem zin:∀a b:List Int,lexLt a b=true\/a=b\/lexLt b a=true
 | [],[]=>.inr (.inl rfl)
 | [],_::_=>.inl (zbr _ _)
 | _::_,[]=>.inr (.inr (zbr _ _))
 | x::a,y::b=>by
  rw[zch,zch];by_cases e:x=y
  ·subst e;rw[if_pos rfl,if_pos rfl];rcases zin a b with h | h | h
   ·exact .inl h
   ·exact .inr (.inl (by rw[h]))
   ·exact .inr (.inr h)
  ·rw[if_neg e,if_neg (fun z=>e z.symm)];rcases Int.lt_or_gt_of_ne e with h | h
   ·exact .inl (xdc h)
   ·exact .inr (.inr (xdc h))
theorem zrh {a b:List Int} (h:lexLt a b=true):lexLt b a=false:=by
 cases e:lexLt b a with
 | false=>rfl
 | true=>have:=zew h e;rw[zfr] at this;cases this
theorem zpe {p q:Nat->Bool} (hpq:∀x,p x=true->q x=true):∀{l:List Nat} {y:Nat},y∈l->q y=true->p y=false->l.countP p < l.countP q
 | [],_,h,_,_=>nomatch h
 | x::l,y,h,h1,h2=>by
  have mono:∀l:List Nat,l.countP p<=l.countP q:=fun l=>List.countP_mono_left fun x _=>hpq x
  rcases xbt.mp h with rfl | h
  ·rw[xgl h1,xig (by rw[h2];decide)];exact Nat.lt_succ_of_le (mono l)
  ·have ih:=zpe hpq h h1 h2;by_cases c:p x=true
   ·rw[xgl c,xgl (hpq x c)];lia
   ·rw[xig c];by_cases d:q x=true
    ·rw[xgl d];lia
    ·rw[xig d];exact ih
noncomputable def rank (ks:List (List Int)) (i:Nat):Nat:=(List.range ks.length).countP fun k=>lexLt (ks.getD k []) (ks.getD i [])
theorem znh {ks:List (List Int)} {i j:Nat} (hi:i < ks.length) (hj:j < ks.length):lt (rank ks) i j=lexLt (ks.getD i []) (ks.getD j []):=by
 have up:∀{a b:Nat},a < ks.length->lexLt (ks.getD a []) (ks.getD b [])=true->rank ks a < rank ks b:=fun {a b} ha h =>
  zpe (fun x hx=>zew hx h) (xei.mpr ha) h (zfr _)
 cases e:lexLt (ks.getD i []) (ks.getD j []) with
 | true=>exact xdc (up hi e)
 | false =>
  refine xci fun h=>?_
  rcases zin (ks.getD i []) (ks.getD j []) with z | z | z
  ·rw[e] at z;cases z
  ·unfold rank at h;rw[z] at h;exact absurd h (xfw _)
  ·have:=up hj z;lia
section
variable {prog:Program} {w:World} {A:Around} {s:Shared} {b:Bool} {Q:Bool->Shared->Prop}
theorem zoj:∀{us ws:List Value} {ns ms:List Int} (i:Nat),IntsAre us ns->IntsAre ws ms->Q (lexLt ns ms) s->KatLex prog w A b (decide (us.length < ws.length)) Q (us.zip ws) i s
 | _,_,_,_,_,.nil,.nil,h=>h
 | _,_,_,_,_,.nil,.cons _ _ _,h=>h
 | _,_,_,_,_,.cons _ _ _,.nil,h=>h
 | _,_,_,_,i,.cons x t (vs:=us) (ns:=ns) r1,.cons y u (vs:=ws) (ns:=ms) r2,h=>by
  rw[zch] at h;refine kat_cons (wpAny_eqBool_int (kat_go (fun e=>kat_yes ?_) fun e=>kat_no ?_))
  ·rw[if_pos (eq_of_beq e)] at h;have q:=zoj (i+1) r1 r2 h;have ee:decide ((Value.int x t::us).length < (Value.int y u::ws).length)=decide (us.length < ws.length):=by
    rw[xcd,xcd,xhq];simp
   rw[ee];exact q
  ·rw[if_neg (xgj.mp e)] at h;cases hb:(b && i == 0) with
   | true=>exact oneLt_int h
   | false=>exact kat_one _ _ (PyProof.Rows.lt_int h)
end
end Srt
namespace L2
open PySem PySem.Spec PyProof.Rows PySem.W
theorem zhb:∀{as:List Addr} {us:List Value},Vals (as.map V.ref) us->us=as.map Value.ref
 | [],_,.nil=>rfl
 | a::as,_,.cons r t=>by
  rw[show _=Value.ref a from r,zhb t]
  rfl
noncomputable def TupsAt (K:Fg) (H:Hp) (ps:List (Addr × List Int)):Prop:=∀p∈ps,SqT K H p.1 (p.2.map V.int)
theorem zj {α β:Type} (f:α->β) (d:β) {l:List α} {i:Nat} {x:α} (h:l[i]?=some x):(l.map f).getD i d=f x:=by
 rw[xdz,xcs,h]
 rfl
section
variable {X:Cx}
end
end L2
namespace L2
open PySem PySem.Spec PyProof.Rows
mutual
inductive DAt (K:Fg) (H:Hp):V->PyData->Prop
 | non:DAt K H .non .none
 | bl (b:Bool):DAt K H (.bl b) (.bool b)
 | int (i:Int):DAt K H (.int i) (.int i)
 | str (x:Str):DAt K H (.str x) (.str x)
 | lst {a:Addr} {xs:List V} {ds:List PyData}:SqL K H a xs->DAll K H xs ds->DAt K H (.ref a) (.list ds)
 | tup {a:Addr} {xs:List V} {ds:List PyData}:SqT K H a xs->DAll K H xs ds->DAt K H (.ref a) (.tuple ds)
inductive DAll (K:Fg) (H:Hp):List V->List PyData->Prop
 | nil:DAll K H [] []
 | cons {x:V} {xs:List V} {d:PyData} {ds:List PyData}:DAt K H x d->DAll K H xs ds->DAll K H (x::xs) (d::ds)
end
section
variable {X:Cx} {pins:List (Addr × Obj)} {σ:St} {H:Hp} {s:Shared}
mutual
theorem zfo (I:Inv X pins σ H s):∀{v:V} {d:PyData} {u:Value},DAt X.K H v d->RelV v u->∃as,Reads s.heap u d as
 | _,_,_,.non,r=>by cases r;exact ⟨_,.none⟩
 | _,_,_,.bl b,r=>by cases r;exact ⟨_,.bool b⟩
 | _,_,_,.int i,r=>by obtain ⟨t,rfl⟩:=r;exact ⟨_,.int i t⟩
 | _,_,_,.str x,r=>by obtain ⟨t,rfl⟩:=r;exact ⟨_,.str x t⟩
 | _,_,_,.lst h all,r=>by
  cases r;obtain ⟨its,rv,⟨o,n,e,c,_,dd⟩,_⟩:=I.list h;obtain ⟨as,q⟩:=zei I all rv;exact ⟨_,.list e c dd q⟩
 | _,_,_,.tup h all,r=>by
  cases r;obtain ⟨its,rv,⟨o,e,c,n,dd⟩,_⟩:=I.tuple h;obtain ⟨as,q⟩:=zei I all rv;exact ⟨_,.tuple e c dd q⟩
theorem zei (I:Inv X pins σ H s):∀{vs:List V} {ds:List PyData} {us:List Value},DAll X.K H vs ds->Vals vs us->∃as,ReadsAll s.heap us ds as
 | _,_,_,.nil,.nil=>⟨_,.nil⟩
 | _,_,_,.cons h t,.cons r rs=>by
  obtain ⟨as,q⟩:=zfo I h r;obtain ⟨bs,q'⟩:=zei I t rs;exact ⟨_,.cons q q'⟩
end
end
noncomputable def rEqX (K:Fg) (neg:Bool):R2:=fun x y H Q=>∃dx dy,DAt K H x dx/\DAt K H y dy/\PySem.SeqAt.shaped dx=true/\PySem.SeqAt.shaped dy=true/\Q (.bl (if neg then !PyData.eqv dx dy else PyData.eqv dx dy)) H
section
variable {X:Cx}
theorem zyj (hu:X.A.units+64 < cLine):OpR X (compareOp .Eq) (rEqX X.K false):=by
 intro pins s σ H x y v u Q I r1 r2 h;obtain ⟨dx,dy,a1,a2,a3,a4,q⟩:=h;obtain ⟨as,ra⟩:=zfo I a1 r1;obtain ⟨bs,rb⟩:=zfo I a2 r2;exact eq_dataH ra rb a3 a4 hu ⟨.bl (PyData.eqv dx dy),H,I,rfl,q⟩
theorem zun (hu:X.A.units+64 < cLine):OpR X (compareOp .NotEq) (rEqX X.K true):=by
 intro pins s σ H x y v u Q I r1 r2 h;obtain ⟨dx,dy,a1,a2,a3,a4,q⟩:=h;obtain ⟨as,ra⟩:=zfo I a1 r1;obtain ⟨bs,rb⟩:=zfo I a2 r2;exact ne_dataH ra rb a3 a4 hu ⟨.bl (!PyData.eqv dx dy),H,I,rfl,q⟩
end
end L2
namespace Dct
open PySem PySem.W PyProof.Rows
noncomputable def Raw (h:Heap) (d:Addr) (es:Array DictEntry) (ep:Nat):Prop:=∃ob,h.get? d=some ob/\ob.ExactDict/\ob.data=.dict es ep
theorem Raw.kept {h h':Heap} {d:Addr} {es:Array DictEntry} {ep:Nat} (x:Raw h d es ep) (k:∀ob,h.get? d=some ob->h'.get? d=some ob):Raw h' d es ep :=
 let ⟨ob,e,r⟩:=x;⟨ob,k ob e,r⟩
theorem Raw.lt {h:Heap} {d:Addr} {es:Array DictEntry} {ep:Nat} (x:Raw h d es ep):d < h.objs.size:=let ⟨_,e,_⟩:=x;xbk e
theorem Raw.is {st : Shared} {d : Addr} {es : Array DictEntry} {ep : Nat} (x : Raw st.heap d es ep) : st.TypeIs (.ref d) "dict" := let ⟨ob, e, c, _⟩ := x; ⟨ob, e, c.1⟩
section
variable {P:Program} {w:World} {B:Around} {E:Value->Shared->Prop} {st:Shared} {d it:Addr} {es:Array DictEntry} {ep k:Nat}
noncomputable def iterObj (d : Addr) (n ep : Nat) : Obj := { cls := .type "dict_keyiterator", data := .fields #[.ref d, .int 0 0, .int n 0, .int ep 0] }
theorem zng {W:Value->Shared->Prop} (ns:(d == sysModules)=false) (x:Raw st.heap d es ep) (fin:W (.ref st.heap.objs.size) {st with heap:=st.heap.push (iterObj d es.size ep)}):wpAny (model P w) B (pyIter (.ref d)) W E st:=by
 obtain ⟨ob,e,c,dt⟩:=id x;have ty:=x.is;refine wpAny_pyIter_slot ty F.slot_dict_iter (xfk F.slot_dict_iter ty F.entry_dict_iter ?body (F.args_dict_iter_1 _))
 case body =>
  unfold Builtin.«dict.__iter__» Builtin.Dict.dictSlotNone Builtin.Dict.showsAll;refine xba (xba (wpAny_notOrdered_dict ty (xbh ?_)));show wpAny _ _ ((if (d == sysModules)=true then _ else _) >>= _) _ _ st;rw[if_neg (fun z=>xez (ns.symm.trans z))];refine xba (xbh (xba (xgy e dt (xba (wpAny_dictEpoch e dt (xba (xeb (xbh ⟨_, rfl, "dict_keyiterator", _, ⟨_, xcb _ rfl, rfl⟩, xek.lookup, ?_⟩))))))))
  exact fin
theorem znf {W:Option Value->Shared->Prop} {en:DictEntry} (hi:st.heap.IsKeyIter it d k es.size ep) (x:Raw st.heap d es ep) (hk:es[k]?=some en)
  (fin:∀g:Heap,g.IsKeyIter it d (k+1) es.size ep->Heap.SameBut it st.heap g->W (some en.key) {st with heap:=g}):wpAny (model P w) B (pyNext (.ref it)) W E st:=by
 obtain ⟨oi,ei,ci,di⟩:=id hi;obtain ⟨ob,e,c,dt⟩:=id x;have lt:k < es.size:=(xeu.mp hk).1;unfold pyNext;refine xba (xiv (wpAny_callSpecial?_slot (name := Str.ofString "__next__") hi.typeIs xek (xfk xek hi.typeIs F.entry_dict_keyiterator_next ?body (F.args_dict_keyiterator_next_1 _))))
 case body =>
  refine xba (xbh (xba (xba (xba (xfg hi.typeIs (xbh (xba (wpAny_fieldsOf ei di ?_))))))));simp only [show Builtin.Dict_items.ownsTuple "dict_keyiterator" = false from by decide, xcv, ite_false]
  show wpAny _ _ (if (Value.ref d == Value.none)=true then _ else _) _ _ st;have nn:¬ (Value.ref d == Value.none)=true:=xez;rw[if_neg nn];refine xba (xbh (xba (xgy e dt ?_)));rw[if_neg (by simp)];refine xba (xbh (xba (wpAny_dictEpoch e dt ?_)));rw[if_neg (by simp)];refine xbh ?_;simp only[show ¬ ((k:Int) < 0) from by lia,ite_false,xjt,hk];refine xba (xba (xfg hi.typeIs (xbh (xba (wpAny_isOneOf_keyiter hi.typeIs ?_)))));show wpAny _ _ (setField (.ref it) 1 (rawInt ((k:Int)+1)) >>= _) _ _ st;refine xba (xie ei di (by simp) ?_);have hi':(st.heap.update it (Obj.mapFields (·.setIfInBounds 1 (rawInt ((k:Int)+1))))).IsKeyIter it d (k+1) es.size ep :=
   ⟨_,xha _ ei (Obj.isFreed_of_fields (xgq di _)),(Obj.cls_mapFields ..).trans ci,by rw[xgq di];simp[rawInt]⟩
  refine xba (xdt (xba (wpAny_isOneOf_keyiter (s:={st with heap:=st.heap.update it (Obj.mapFields (·.setIfInBounds 1 (rawInt ((k:Int)+1))))}) hi'.typeIs ?_)));show wpAny _ _ (pure en.key) _ _ _;exact xbh (xbh ⟨_,rfl,xbh (fin _ hi' (xhp ..))⟩)
theorem zsp {W:Option Value->Shared->Prop} (hh:B.handled=none) (hi:st.heap.IsKeyIter it d k es.size ep) (x:Raw st.heap d es ep) (hk:es.size<=k)
  (fin:∀g:Heap,Heap.ExtBut it st.heap g->W none {st with heap:=g}):wpAny (model P w) B (pyNext (.ref it)) W E st:=by
 obtain ⟨oi,ei,ci,di⟩:=id hi;obtain ⟨ob,e,c,dt⟩:=id x;unfold pyNext;refine xba (xiv (wpAny_callSpecial?_slot (name := Str.ofString "__next__") hi.typeIs xek (xfk xek hi.typeIs F.entry_dict_keyiterator_next ?body (F.args_dict_keyiterator_next_1 _))))
 case body =>
  refine xba (xbh (xba (xba (xba (xfg hi.typeIs (xbh (xba (wpAny_fieldsOf ei di ?_))))))));simp only [show Builtin.Dict_items.ownsTuple "dict_keyiterator" = false from by decide, xcv, ite_false]
  show wpAny _ _ (if (Value.ref d == Value.none)=true then _ else _) _ _ st;have nn:¬ (Value.ref d == Value.none)=true:=xez;rw[if_neg nn];refine xba (xbh (xba (xgy e dt ?_)));rw[if_neg (by simp)];refine xba (xbh (xba (wpAny_dictEpoch e dt ?_)));rw[if_neg (by simp)];refine xbh ?_;simp only[show ¬ ((k:Int) < 0) from by lia,ite_false,xjt,Array.getElem?_eq_none hk];refine xba (xba (xfg hi.typeIs (xbh ?_)));show wpAny _ _ (setField (.ref it) 0 .none >>= _) _ _ st;refine xba (xie ei di (by simp) ?_);show wpAny _ _ (newExc (.type "StopIteration") [] >>= _) _ _ _
  refine xba ?_;simp only[newExc,newTuple];refine xba (xeb (xba (m:=firstArgMember _ _) (wpAny_of_eq (a:=Value.none) (by first | rfl | (simp only[firstArgMember];rfl)) (xeb ?_ (by size_fits)))) (by size_fits));simp only[raiseNew];refine xba (wpAny_handled ?_);rw[show B.in1.handled=none from hh];refine xba (xbh (wpAny_throw ?_));refine xba (wpAny_isInstance (T := "StopIteration") (b := true) ?_ isSubtype_stop (xbh (fin _ (((xhp ..).extBut.push _).push _))))
  exact ⟨_,xcb _ rfl,rfl⟩
theorem zql (hh:B.handled=none) (ne:d≠it) (es:Array DictEntry) (ep:Nat) :
  Walks P w B it [it,d] [it] es.size (fun i v=>∃en,es[i]?=some en/\v=en.key) (fun i h=>h.IsKeyIter it d i es.size ep/\Raw h d es ep) where
 sub:=fun b hb=>xbt.mpr (.inl (xbo.mp hb))
 frame:=fun _ _ _ z hk=>⟨z.1.at fun o e=>hk it xbu o e,z.2.kept fun o e=>hk d (xca _ (xbo.mpr rfl)) o e⟩
 item:=fun i sh W' E' hi z hQ=>by
  have hx:es[i]?=some es[i]:=xhr hi;exact znf z.1 z.2 hx fun g a b=>hQ es[i].key g sh.toks ⟨_,hx,rfl⟩ ⟨a,z.2.kept fun o e=>b.extBut d o ne e⟩ fun c o hc e=>b.extBut c o (fun q=>hc (xbo.mpr q)) e
 done:=fun sh W' E' z hQ=>zsp hh z.1 z.2 (xbe _) fun g b=>hQ g sh.toks fun c o hc e=>b c o (fun q=>hc (xbo.mpr q)) e
 self:=fun _ _ _ _ z hQ=>wpAny_pyIter_keyiter z.1 hQ
theorem zxi (ns : (d == sysModules) = false) (es : Array DictEntry) (ep : Nat) : KdlSrc P w "dict" d d es.size (fun i v => ∃ en, es[i]? = some en /\ v = en.key) (fun h => Raw h d es ep) where
 type:=fun _ x=>x.is
 there:=fun _ x=>⟨x.lt,x.lt⟩
 keep:=fun _ _ x hk=>x.kept fun o e=>hk d (.inl rfl) o e
 notList:=by decide
 notTuple:=by decide
 hint:=fun _ _ _ _ x hq=>kdl_hint_dict x.is hq
 iter:=fun _ sh hh x=>⟨_,_,fun _ _ hq=>zng ns x hq,zql hh (xce x.lt) es ep,⟨⟨_,xcb _ rfl,rfl,rfl⟩,x.kept fun o e=>xbg _ e⟩⟩
end
end Dct
namespace Srt
open PySem PySem.W PyProof.Rows
section
variable {P:Program} {w:World} {B:Around} {E:Value->Shared->Prop} {st:Shared}
end
end Srt
namespace L2
open PySem PySem.Spec PyProof.Rows
theorem ObjOk.ob {P:Program} {w:World} {H:Hp} {h:Heap} {a:Addr} {o:HO} (x:ObjOk P w H h a o):∃ob,h.get? a=some ob:=by
 cases o with
 | lst xs=>obtain ⟨_,_,_,_,e⟩:=x;exact ⟨_,e⟩
 | tup xs=>obtain ⟨_,_,_,ob,e,_⟩:=x;exact ⟨_,e⟩
 | dK kvs=>obtain ⟨_,_,_,_,ob,_,_,e,_⟩:=x;exact ⟨_,e⟩
 | dT kvs=>obtain ⟨_,_,_,_,ob,_,_,e,_⟩:=x;exact ⟨_,e⟩
 | set S n=>obtain ⟨ob,_,_,_,e,_⟩:=x;exact ⟨_,e⟩
 | ins C dx fs=>obtain ⟨_,_,_,e,_⟩:=x;exact ⟨_,e⟩
 | own y=>obtain ⟨_,e⟩:=x;exact ⟨_,e⟩
 | xd fs=>obtain ⟨_,⟨_,_,_,e,_⟩,_⟩:=x;exact ⟨_,e⟩
 | rng lo hi=>obtain ⟨_,_,_,e⟩:=x;exact ⟨_,e⟩
 | frz ob u=>obtain ⟨e,_⟩:=x;exact ⟨_,e⟩
 | tbl ps=>exact ⟨_,(show h.get? a=some _ from x)⟩
 | met f y=>exact ⟨_,(show h.get? a=some _ from x)⟩
 | ext φ=>obtain ⟨_,⟨_,e⟩,_⟩:=x;exact ⟨_,e⟩
section
variable {X:Cx} {pins:List (Addr × Obj)} {σ:St} {H:Hp} {s:Shared}
theorem Inv.away (I:Inv X pins σ H s) {q:Addr} (ne:∀b ob,s.heap.get? b=some ob->b≠q):H q=none:=by
 cases e:H q with
 | none=>rfl
 | some o =>
  obtain ⟨ob,z⟩:=(I.hok q o e).ob;exact absurd rfl (ne q ob z)
theorem Inv.laidN {q:Addr} {o:HO} {g:Heap} {t':Nat} (I:Inv X pins σ H s) (k:∀b u,s.heap.get? b=some u->g.get? b=some u) (ne:∀b ob,s.heap.get? b=some ob->b≠q) (new:ObjOk X.prog X.w (upd H q o) g q o) :
  Inv X pins σ (upd H q o) {s with heap:=g,toks:=t'}:=by
 have hn:=I.away ne;have off:∀{b:Addr} {u:HO},H b=some u->upd H q o b=some u:=fun {b u} e=>by rw[zh (ze e hn)];exact e
 refine I.un ⟨fun b u e _ _ _=>k b u e,fun b u e _ _ _=>⟨u.slots,k b u e⟩,fun b u e n _=>by rw[zh (ne b u e)];exact n,fun b u e _=>⟨u,k b u e⟩,fun b xs e=>off e,fun b ob u e=>off e,fun b ps e=>⟨#[],by rw[off e];simp⟩⟩ fun b u e=>?_
 by_cases hb:b=q
 ·subst hb;rw[zi] at e;cases e;exact new
 ·rw[zh hb] at e;exact (I.hok b u e).stay (fun c v _ z=>k c v z) (fun c z=>off z) fun c xs z=>off z
end
theorem zsv (ns:List Int):(ns.map (Sum.inl:Int->Key)).map kV=ns.map V.int:=by rw[xdu];rfl
theorem ziv {P:Program} {w:World} {H:Hp} {kvs:List (List Key × V)}:∀{ks:List (List Int)} {xs:List (List Key × Addr × Value)},
  Paired (fun (p:List Key × V) (q:List Key × Addr × Value)=>p.1=q.1/\H q.2.1=some (.tup (p.1.map kV))/\RelV p.2 q.2.2) kvs xs->kvs.map (·.1)=ks.map (fun ns=>ns.map Sum.inl) ->
   ∃ps:List (Addr × List Int),ps.map (·.2)=ks/\(∀p∈ps,H p.1=some (.tup (p.2.map V.int)))/\xs.map (fun q=>(entryOfKey (tupleKind (mixKind P w)) q).key)=ps.map fun p=>Value.ref p.1:=by
 induction kvs with
 | nil =>
  intro ks xs r e;cases r;cases ks with
  | nil=>exact ⟨[],rfl,fun p hp=>(nomatch hp),rfl⟩
  | cons x ks=>cases e
 | cons kv kvs ih =>
  intro ks xs r e;cases r with
  | cons r rs =>
   cases ks with
   | nil=>cases e
   | cons ns ks =>
    rw[xbq,xbq] at e;injection e with e1 e2
    obtain ⟨ps,a1,a2,a3⟩:=ih rs e2;rename_i b _;obtain ⟨r1,r2,r3⟩:=r;refine ⟨(b.2.1,ns)::ps,by rw[xbq,a1],fun p hp=>?_,by rw[xbq,xbq,a3];rfl⟩;rcases xbt.mp hp with z | z
    ·subst z;rw[e1,zsv] at r2;exact r2
    ·exact a2 p z
open PySem.W in
theorem zwd {P:Program} {w:World} {B:Around} {sg:Shared} {ps:List (Addr × List Int)} (h2:2<=ps.length)
  (tup : ∀ (i : Nat) (p : Addr × List Int), ps[i]? = some p -> ∃ (us : List Value) (o : Obj) (n : Nat), IntsAre us p.2 /\ sg.heap.get? p.1 = some o /\ o.cls = .type "tuple" /\ o.data = .seq us.toArray n /\ p.2 ≠ []) :
  Srt.Answers P w B (Srt.rank (ps.map (·.2))) (ps.map fun p=>Value.ref p.1) sg:=by
 refine ⟨tuples' true,fun R hq=>?_,fun i j C hi hj hC=>?_⟩
 ·have kt:∀(l:List (Addr × List Int)),(∀p∈l,∃i:Nat,ps[i]?=some p)->∃fs:List Value,KatTups sg.heap (l.map fun p=>Value.ref p.1) fs/\fs.length=l.length/\∀v∈fs,∃i t,v=Value.int i t:=fun l=>by
   induction l with
   | nil=>intro _;exact ⟨[],KatTups.nil,rfl,fun v hv=>(nomatch hv)⟩
   | cons p l ih =>
    intro hp;obtain ⟨fs,b1,b2,b3⟩:=ih fun p' hp'=>hp p' (xca _ hp')
    obtain ⟨i,hi⟩:=hp p xbu;obtain ⟨us,o,n,a1,a2,a3,a4,a5⟩:=tup i p hi;obtain ⟨pa,pn⟩:=p;dsimp only at a1 a2 a3 a4 a5;cases a1 with
    | nil=>exact absurd rfl a5
    | cons x t r=>exact ⟨Value.int x t::fs,KatTups.cons a2 a3 a4 rfl b1,by rw[xcd,xcd,b2],fun v hv=>(xbt.mp hv).elim (fun z=>⟨x,t,z⟩) (b3 v)⟩
  obtain ⟨fs,b1,b2,b3⟩:=kt ps fun p hp=>List.mem_iff_getElem?.mp hp
  exact kat_kind (T := .type "int") b1 (by lia) (fun v hv => by
   obtain ⟨i,t,rfl⟩:=b3 v hv
   exact Looks.of_pure rfl) rfl hq
 ·rw[xbc] at hi hj;have ei:ps[i]?=some ps[i]:=xbj hi;have ej:ps[j]?=some ps[j]:=xbj hj;obtain ⟨us,o,n,a1,a2,a3,a4,a5⟩:=tup i _ ei;obtain ⟨us2,o2,n2,c1,c2,c3,c4,c5⟩:=tup j _ ej;unfold kas_ask;rw[zj (fun p:Addr × List Int=>Value.ref p.1) _ ei,zj (fun p:Addr × List Int=>Value.ref p.1) _ ej];refine kat_lt a2 a4 c2 c4 (Srt.zoj 0 a1 c1 ?_);rw[Srt.znh (by rw[xbc];exact hi) (by rw[xbc];exact hj),zj (fun p:Addr × List Int=>p.2) _ ei,zj (fun p:Addr × List Int=>p.2) _ ej] at hC;exact hC
theorem znp {ps:List (Addr × List Int)} {p:Array Nat} (p1:p.Perm (List.toArray (List.range ps.length))) (p2:Srt.Up (Srt.rank (ps.map (·.2))) p ps.length) :
  ∃qs:List (Addr × List Int),qs.Perm ps/\(qs.map (·.2)).Pairwise (fun x y=>HT.lexLt y x=false)/\Srt.outOf (ps.map fun p=>Value.ref p.1) p=(qs.map fun p=>Value.ref p.1).toArray:=by
 have hps:p.size=ps.length:=by rw[p1.size_eq];simp
 have sm:∀i∈p.toList,i < ps.length:=fun i hi=>by
  have h3:=(p1.mem_iff (a:=i)).mp (by rw[← Array.mem_toList_iff];exact hi);exact xei.mp (List.mem_toArray.mp h3)
 refine ⟨p.toList.map fun i=>ps.getD i (0,[]),?_,?_,?_⟩
 ·have e1:p.toList.Perm (List.range ps.length):=by
   have:=xev.mp p1
   simpa using this
  have e2:=e1.map fun i=>ps.getD i (0,[])
  have e3:((List.range ps.length).map fun i=>ps.getD i (0,[]))=ps:=by
   apply List.ext_getElem
   ·simp
   ·intro i h1 h2;simp[xdz,h2]
  rw[e3] at e2;exact e2
 ·rw[xdu,xhs];intro i j hi hj hij;rw[List.getElem_map,List.getElem_map];rw[xbc] at hi hj;have hi':i < p.size:=by simpa using hi
  have hj':j < p.size:=by simpa using hj
  have hu:=p2 i j (xbn hij) (by lia);have g:∀k,(hk:k < p.toList.length)->p.getD k 0=p.toList[k]:=fun k hk=>by
   have hk':k < p.size:=by simpa using hk
   rw[Array.getD_eq_getD_getElem?,xhr hk'];simp
  have si:=sm _ (xex hi);have sj:=sm _ (xex hj);have lk:=Srt.znh (ks:=ps.map (·.2)) (i:=p.toList[j]) (j:=p.toList[i]) (by rw[xbc];exact sj) (by rw[xbc];exact si);have hno:Srt.lt (Srt.rank (ps.map (·.2))) p.toList[j] p.toList[i]=false:=by
   refine xci fun z=>?_
   unfold Srt.At at hu;rw[g i hi,g j hj] at hu;lia
  rw[hno] at lk;have v:∀k,k < ps.length->(ps.map (·.2)).getD k []=(ps.getD k (0,[])).2:=fun k hk=>by
   have ek:ps[k]?=some ps[k]:=xbj hk;rw[zj (fun p:Addr × List Int=>p.2) _ ek,xdz,ek]
   rfl
  rw[v _ sj,v _ si] at lk;exact lk.symm
 ·unfold Srt.outOf;rw[xdu]
  congr 1
  refine List.map_congr_left fun i hi=>?_
  have hi2:=sm i hi;have ei:ps[i]?=some ps[i]:=xbj hi2;rw[zj (fun p:Addr × List Int=>Value.ref p.1) _ ei];show _=Value.ref (ps.getD i (0,[])).1;rw[xdz,ei]
  rfl
section
variable {X:Cx}
end
section
variable {X:Cx} {pins:List (Addr × Obj)} {σ:St} {H:Hp} {s:Shared}
theorem Inv.freeze {a:Addr} {kvs:List (List Key × V)} {ob:Obj} (I:Inv X pins σ H s) (h:H a=some (.dT kvs)) (e:s.heap.get? a=some ob):Inv X pins σ (upd H a (.frz ob (.dT kvs))) s:=by
 have off:∀{b:Addr} {u:HO},H b=some u->(∀l,u≠.dT l)->upd H a (.frz ob (.dT kvs)) b=some u:=fun {b u} q n=>by
  rw[zh (by rintro rfl;rw[h] at q;cases q;exact n _ rfl)];exact q
 have z:=I.un (h':=s.heap) (t':=s.toks) (H':=upd H a (.frz ob (.dT kvs))) ⟨fun b u q _ _ _=>q,fun b u q _ _ _=>⟨u.slots,q⟩,fun b u q n _=>by
   rw[zh (by rintro rfl;rw[h] at n;cases n)];exact n,fun b u q _=>⟨u,q⟩,fun b xs q=>off q (fun l z=>by cases z),fun b o u q=>off q (fun l z=>by cases z),fun b ps q=>⟨#[],by rw[off q (fun l z=>by cases z)];simp⟩⟩ (fun b u q=>by
   by_cases hb:b=a
   ·subst hb;rw[zi] at q;cases q;exact ⟨e,(I.hok b _ h).stay (fun c v _ r=>r) (fun c r=>off r (fun l z=>by cases z)) fun c xs r=>off r (fun l z=>by cases z)⟩
   ·rw[zh hb] at q
    exact (I.hok b u q).stay (fun c v _ r=>r) (fun c r=>off r (fun l z=>by cases z)) fun c xs r=>off r (fun l z=>by cases z))
 exact z
end
noncomputable def Itd (a:Addr) (ob:Obj) (kvs:List (List Key × V)) (ps:List (Addr × List Int)):It :=
 ⟨fun i H=>i < ps.length/\H a=some (.frz ob (.dT kvs)),fun i H x H'=>H'=H/\∃p,ps[i]?=some p/\x=.ref p.1,fun i H=>ps.length<=i/\H a=some (.frz ob (.dT kvs))⟩
theorem zqc {P:Program} {w:World} {K:Fg} {tg:Expr} {a it:Addr} {ob:Obj} {kvs:List (List Key × V)} {ps:List (Addr × List Int)} {es:Array DictEntry} {ep:Nat} (ex:ob.ExactDict) (dt:ob.data=.dict es ep)
  (hk:es.toList.map (·.key)=ps.map fun p=>Value.ref p.1):Turn P w K tg (Itd a ob kvs ps) [it] it (fun i h=>h.IsKeyIter it a i es.size ep) where
 mem:=xbo.mpr rfl
 obj:=fun i h st b hb=>by
  have e:b=it:=xbo.mp hb;subst e;obtain ⟨o,e,c,d⟩:=st;exact ⟨o,e,fun v z=>by rw[d] at z;cases z⟩
 keep:=fun i h h' st k=>st.at fun o e=>k it (xbo.mpr rfl) o e
 item:=by
  intro Y hP hw hK hc i pins s σ H E I hf st hg;subst hP hw hK;obtain ⟨hi,hz⟩:=hg;have hsz:es.size=ps.length:=by
   have:=congrArg List.length hk
   rwa [xbc,xbc,xbx] at this
  obtain ⟨eo,_⟩:=(show ObjOk Y.prog Y.w H s.heap a (.frz ob (.dT kvs)) from I.hok a _ hz)
  obtain ⟨f0,f1,f2,f3,f4,f5⟩:=hf it (xbo.mpr rfl);have hen:es[i]?=some es[i]:=xhr (by lia);have hpi:ps[i]?=some ps[i]:=xbj hi;have hkey:es[i].key=Value.ref ps[i].1:=by
   have q:=congrArg (fun l=>l[i]?) hk;simp only[xcs,xcf,hen,hpi] at q;exact xbw q
  refine Dct.znf st ⟨ob,eo,ex,dt⟩ hen fun g st' sb=>?_
  have I1:Inv Y pins σ H {s with heap:=g}:=I.turned (t':=s.toks) (fun b o hb e=>sb.extBut b o hb e) f0 f1 f3 f4 f5;obtain ⟨o,e,c,d⟩:=id st';exact ⟨_,rfl,zbbm (s:={s with heap:=g}) e c d (by decide) ⟨.ref ps[i].1,H,I1,hkey,⟨rfl,ps[i],hpi,rfl⟩,st',fun b hb=>(hf b hb).1⟩⟩
 done:=by
  intro Y hP hw hK hc i pins s σ H E I hf st hg;subst hP hw hK;obtain ⟨hi,hz⟩:=hg;have hsz:es.size=ps.length:=by
   have:=congrArg List.length hk
   rwa [xbc,xbc,xbx] at this
  obtain ⟨eo,_⟩:=(show ObjOk Y.prog Y.w H s.heap a (.frz ob (.dT kvs)) from I.hok a _ hz)
  obtain ⟨f0,f1,f2,f3,f4,f5⟩:=hf it (xbo.mpr rfl);exact Dct.zsp (I.ok.hd hc) st ⟨ob,eo,ex,dt⟩ (by lia) fun g eb=>⟨rfl,I.turned (t':=s.toks) (fun b o hb e=>eb b o hb e) f0 f1 f3 f4 f5⟩
 self:=fun _ _ _ _ _ st h=>wpAny_pyIter_keyiter st h
noncomputable def iDct (td:TE):TI:=fun σ H R=>td σ H fun x H1=>∃(a:Addr) (kvs:List (List Key × V)) (ks:List (List Int)),x=.ref a/\H1 a=some (.dT kvs)/\kvs.map (·.1)=ks.map (fun ns=>ns.map Sum.inl) /\
 ∀(ob:Obj) (ps:List (Addr × List Int)),ps.map (·.2)=ks->(∀p∈ps,H1 p.1=some (.tup (p.2.map V.int)))->R (Itd a ob kvs ps) (upd H1 a (.frz ob (.dT kvs)))
theorem zxw {X:Cx} {tg l:Expr} {td:TE} (hl:PE X l td):PI X tg l (iDct td):=by
 intro pins s σ H R I h;refine thn (hl pins s σ H _ I h) fun v s1 hq0=>?_
 obtain ⟨x,H1,I1,r1,q1⟩:=hq0;obtain ⟨a,kvs,ks,rfl,hd,ek,q⟩:=q1;cases r1;obtain ⟨z,ns,ys,rel,ob,es,ep,e1,e2,e3,e4,e5⟩:=(show ObjOk X.prog X.w H1 s1.heap a (.dT kvs) from I1.hok a _ hd)
 obtain ⟨ps,a1,a2,a3⟩:=ziv (P:=X.prog) (w:=X.w) rel ek;have hes:es.toList.map (·.key)=ps.map fun p=>Value.ref p.1:=by rw[e4,xdu];exact a3
 refine Dct.zng ns ⟨ob,e1,e2,e3⟩ ?_;have I2:=I1.freeze hd e1;refine ⟨s1.heap.objs.size,[s1.heap.objs.size],_,_,_,rfl,I2.kept (t':=s1.toks) fun b o e=>xbg _ e,zqc e2 e3 hes,⟨_,xcb _ rfl,rfl,rfl⟩,fun b hb=>?_,q ob ps a1 a2⟩;have e:b=s1.heap.objs.size:=xbo.mp hb;subst e;exact I2.fpOk (xbe _) (I2.hok.fresh (xbe _))
section
variable {g:TG} {tc:TT} {te:TE} {Q:VK} {σ:St} {H:Hp} {p:Addr}
end
end L2
namespace L2
open PySem PySem.Spec PyProof.Rows PySem.W
noncomputable def TupsG (g : Heap) (ps : List (Addr × List Int)) : Prop := ∀ p ∈ ps, ∃ (us : List Value) (o : Obj) (n : Nat), IntsAre us p.2 /\ g.get? p.1 = some o /\ o.cls = .type "tuple" /\ o.data = .seq us.toArray n
section
variable {P:Program} {w:World} {B:Around} {E:Value->Shared->Prop} {sg:Shared}
theorem zkw:∀{ps:List (Addr × List Int)},TupsG sg.heap ps->∃fs:List (Option Value),fs.map Option.isSome=ps.map (fun p=>!p.2.isEmpty)/\∀(W:List (Option Value)->Shared->Prop),W fs sg->wpAny (model P w) B ((ps.map fun p=>Value.ref p.1).mapM firstOfTuple') W E sg
 | [],_=>⟨[],rfl,fun W h=>by rw[xjy,List.mapM_nil];exact xbh h⟩
 | p::ps,h=>by
  obtain ⟨fs,f1,f2⟩:=zkw (ps:=ps) fun q hq=>h q (xca _ hq)
  obtain ⟨us,o,n,a1,a2,a3,a4⟩:=h p xbu;refine ⟨us.toArray[0]?::fs,?_,fun W hW=>?_⟩
  ·rw[xbq,xbq,f1]
   congr 1
   obtain ⟨pa,pn⟩:=p;dsimp only at a1 ⊢;cases a1 with
   | nil=>rfl
   | cons x t r=>rfl
  ·rw[xbq,List.mapM_cons];have ty:Looks (model P w) sg.heap (typeOf (.ref p.1)) o.cls:=(Looks.ld a2).andThen .now;refine xba ?_;rw[kas_first_eq];refine xba (Looks.here ty ?_);rw[a3,if_neg (by first | decide | simp)];exact xba (listItems_at a2 a4 (xbh (xba (f2 _ (xbh hW)))))
theorem zoc (x y:Value):keyLt' general' x y=oneLt' false x y:=rfl
theorem zwc {κ:SortKind} (hκ:κ=general'\/κ=oneType') (hu:B.units < cLine) {a b:Addr × List Int} (ha:TupsG sg.heap [a]) (hb:TupsG sg.heap [b]) {C:Bool->Shared->Prop} (hC:C (HT.lexLt a.2 b.2) sg) :
  wpAny (model P w) B (keyLt' κ (.ref a.1) (.ref b.1)) C E sg:=by
 obtain ⟨us,o,n,a1,a2,a3,a4⟩:=ha a xbu;obtain ⟨us2,o2,n2,b1,b2,b3,b4⟩:=hb b xbu;rcases hκ with rfl | rfl
 ·rw[zoc];exact kat_one _ _ (HT.zim (items:=us.toArray) (items2:=us2.toArray) ⟨o,a2,a3,n,a4⟩ ⟨o2,b2,b3,n2,b4⟩ a1 b1 hu hC)
 ·rw[keyLt'_oneType,oneLt'_eq];simp only[ite_true];refine xba (wpAny_cRoomFor hu (xba (wpAny_callSpecialIfBound?_slot (T := "tuple") ⟨o, a2, a3⟩ xiy ?_)))
  obtain ⟨cls,dd,data,sl⟩:=o;obtain ⟨cls2,dd2,data2,sl2⟩:=o2;dsimp only at a3 a4 b3 b4;subst a3 a4 b3 b4;exact xjm xiy ⟨_,a2,rfl⟩ PySem.F.entry_tuple_lt (PySem.F.args_tuple_lt_2 _ _) (HT.zem a.1 b.1 us.toArray us2.toArray n n2 dd dd2 sl sl2 a.2 b.2 a1 b1) ⟨a2,b2,xfy hC⟩
theorem zwe {ps:List (Addr × List Int)} (hu:B.units < cLine) (tup:TupsG sg.heap ps) (emp:∃p∈ps,p.2=[]):Srt.Answers P w B (Srt.rank (ps.map (·.2))) (ps.map fun p=>Value.ref p.1) sg:=by
 obtain ⟨fs,f1,f2⟩:=zkw (P:=P) (w:=w) (B:=B) (E:=fun _ _=>False) tup;have notAll:¬ (fs.toArray.all fun x=>x.isSome)=true:=fun z=>by
  have z':fs.all (fun x=>x.isSome)=true:=by simpa using z
  obtain ⟨p,hp,he⟩:=emp;have m:(!p.2.isEmpty)∈fs.map Option.isSome:=by rw[f1];exact List.mem_map_of_mem (f:=fun p:Addr × List Int=>!p.2.isEmpty) hp
  obtain ⟨o,ho,e⟩:=xdo.mp m;have:=xjz.mp z' o ho;rw[e,he] at this;cases this
 have cmp:∀{κ:SortKind},κ=general'\/κ=oneType'->∀i j C,i < (ps.map fun p=>Value.ref p.1).length->j < (ps.map fun p=>Value.ref p.1).length->C (Srt.lt (Srt.rank (ps.map (·.2))) i j) sg->kas_ask P w B κ (ps.map fun p=>Value.ref p.1) i j C sg:=fun {κ} hκ i j C hi hj hC=>by
  rw[xbc] at hi hj;have ei:ps[i]?=some ps[i]:=xbj hi;have ej:ps[j]?=some ps[j]:=xbj hj;unfold kas_ask;rw[zj (fun p:Addr × List Int=>Value.ref p.1) _ ei,zj (fun p:Addr × List Int=>Value.ref p.1) _ ej];rw[Srt.znh (by rw[xbc];exact hi) (by rw[xbc];exact hj),zj (fun p:Addr × List Int=>p.2) _ ei,zj (fun p:Addr × List Int=>p.2) _ ej] at hC;have one:∀k,(hk:k < ps.length)->TupsG sg.heap [ps[k]]:=fun k hk q hq=>by
   rw[xbo.mp hq];exact tup _ (xex hk)
  exact zwc hκ hu (one i hi) (one j hj) hC
 by_cases fst:(fs.toArray[0]?.bind id).isSome=true
 ·refine ⟨general',fun R hR=>?_,cmp (.inl rfl)⟩;rw[kat_kind_eq,xju,xkh];refine xba (xba (f2 _ (xbh ?_)));rw[if_neg notAll,if_pos fst];exact xbh hR
 ·refine ⟨oneType',fun R hR=>?_,cmp (.inr rfl)⟩;rw[kat_kind_eq,xju,xkh];refine xba (xba (f2 _ (xbh ?_)));rw[if_neg notAll,if_neg fst,oneTypeOnly'_eq,xju,xkh];have ty : ∀ v ∈ (ps.map fun p => Value.ref p.1), ∀ W : Value -> Shared -> Prop, W (.type "tuple") sg -> wpAny (model P w) B (typeOf v) W (fun _ _ => False) sg := fun v hv W hW => by
   obtain ⟨p,hp,rfl⟩:=xdo.mp hv;obtain ⟨us,o,n,a1,a2,a3,a4⟩:=tup p hp;have lk:Looks (model P w) sg.heap (typeOf (.ref p.1)) o.cls:=(Looks.ld a2).andThen .now;rw[a3] at lk;exact lk.here hW
  refine xba (xba (xba (kas_mapM (r := Value.type "tuple") _ ty (xbh ?_))))
  obtain ⟨p,hp,_⟩:=emp;obtain ⟨p0,rest,rfl⟩:∃p0 rest,ps=p0::rest:=by
   cases ps with
   | nil=>exact nomatch hp
   | cons p0 rest=>exact ⟨p0,rest,rfl⟩
  have all : ((List.map (fun _ => Value.type "tuple") ((p0 :: rest).map fun p => Value.ref p.1)).toArray.all fun x => x == Value.type "tuple") = true := by
   rw[List.all_toArray,xjz];intro x hx;obtain ⟨_,_,rfl⟩:=xdo.mp hx
   rfl
  have zero : (List.map (fun _ => Value.type "tuple") ((p0 :: rest).map fun p => Value.ref p.1)).toArray[0]? = some (Value.type "tuple") := by simp
  rw[zero];simp only[all,ite_true];exact xbh (xbh hR)
theorem ztn {ps:List (Addr × List Int)} (hu:B.units < cLine) (h2:2<=ps.length) (tup:TupsG sg.heap ps):Srt.Answers P w B (Srt.rank (ps.map (·.2))) (ps.map fun p=>Value.ref p.1) sg:=by
 by_cases c:∃p∈ps,p.2=[]
 ·exact zwe hu tup c
 ·refine zwd h2 fun i p hi=>?_
  have hp:=xcg hi;obtain ⟨us,o,n,a1,a2,a3,a4⟩:=tup p hp;exact ⟨us,o,n,a1,a2,a3,a4,fun z=>c ⟨p,hp,z⟩⟩
end
theorem zfb (z:List (Addr × List Int)):Vals (z.map fun p=>V.ref p.1) (z.map fun p=>Value.ref p.1):=by
 induction z with
 | nil=>exact .nil
 | cons x z ih=>exact .cons rfl ih
section
variable {X:Cx}
end
end L2
namespace TS
open PySem PyProof.Rows
noncomputable def kA (R:Keyed->Nat) (xs:Array Keyed) (i:Nat):Nat:=match xs[i]? with
 | some p=>R p
 | none=>0
theorem zcp {R:Keyed->Nat} {xs ys:Array Keyed} {i j:Nat} (h:xs[i]?=ys[j]?):kA R xs i=kA R ys j:=by unfold kA;rw[h]
theorem zcr {R:Keyed->Nat} {xs:Array Keyed} {i:Nat} {x:Keyed} (h:xs[i]?=some x):kA R xs i=R x:=by unfold kA;rw[h]
noncomputable def UpA (R:Keyed->Nat) (xs:Array Keyed) (a b:Nat):Prop:=∀i j,a<=i->i<=j->j < b->kA R xs i<=kA R xs j
noncomputable def DnA (R:Keyed->Nat) (xs:Array Keyed) (a b:Nat):Prop:=∀i j,a<=i->i<=j->j < b->kA R xs j<=kA R xs i
section
variable {prog:Program} {w:World} {A:Around} {E:Value->Shared->Prop} {s:Shared} {κ:SortKind} {a₀:Array Keyed} {R:Keyed->Nat}
noncomputable def Orc (prog:Program) (w:World) (A:Around) (s:Shared) (κ:SortKind) (a₀:Array Keyed) (R:Keyed->Nat):Prop :=
 ∀x,x∈a₀.toList->∀y,y∈a₀.toList->∀(C:Bool->Shared->Prop),C (decide (R x < R y)) s->wpAny (model prog w) A (keyLt' κ x.1 y.1) C (fun _ _=>False) s
structure B (κ:SortKind) (a₀:Array Keyed) (st:SortSt):Prop where
 perm:(arrOf st).Perm a₀
 kind:kindOf st=κ
 failed:failedOf st=none
theorem B.size {st:SortSt} (h:B κ a₀ st):(arrOf st).size=a₀.size:=h.perm.size_eq
theorem B.set {st:SortSt} (h:B κ a₀ st) {xs:Array Keyed} (hp:xs.Perm (arrOf st)):B κ a₀ (setArr st xs):=⟨hp.trans h.perm,h.kind,h.failed⟩
theorem B.mem {st:SortSt} (h:B κ a₀ st) {i:Nat} (hi:i < a₀.size):∃x,(arrOf st)[i]?=some x/\x∈a₀.toList:=by
 have hi':i < (arrOf st).size:=by rw[h.size];exact hi
 exact ⟨_,getElem?_pos _ i hi',(xev.mp h.perm).mem_iff.mp (by simp)⟩
theorem w_lt {x y:Keyed} {st:SortSt} {Q:Option Bool->SortSt->Prop} (O:Orc prog w A s κ a₀ R) (hk:kindOf st=κ) (hx:x∈a₀.toList) (hy:y∈a₀.toList) (h:Q (some (decide (R x < R y))) st):wpS (model prog w) A E s (lt' x y) Q st:=by
 rw[lt'_eq];refine xbf (xgo ?_);rw[hk];refine xbf (xix (xiv (xde (O x hx y hy (fun b s'=>s'=s/\b=decide (R x < R y)) ⟨rfl,rfl⟩) (fun b s' hb=>?_) fun _ _ f=>f.elim)));obtain ⟨rfl,rfl⟩:=hb;exact ⟨rfl,xbi h⟩
theorem zic {arr:Array Keyed} {i:Nat} {x:Keyed} {st:SortSt} {Q:Keyed->SortSt->Prop} (e:arr[i]?=some x) (h:Q x st):wpS (model prog w) A E s (elem' arr i) Q st:=by
 rw[elem'_eq,e];exact xbi h
theorem zje {i j:Nat} {st:SortSt} {Q:Option Bool->SortSt->Prop} (O:Orc prog w A s κ a₀ R) (b:B κ a₀ st) (hi:i < a₀.size) (hj:j < a₀.size) (h:Q (some (decide (kA R (arrOf st) i < kA R (arrOf st) j))) st):wpS (model prog w) A E s (ltAt' i j) Q st:=by
 obtain ⟨x,e1,m1⟩:=b.mem hi;obtain ⟨y,e2,m2⟩:=b.mem hj;rw[zcr e1,zcr e2] at h;rw[ltAt'_eq];exact xbf (xgo (xbf (zic e1 (xbf (zic e2 (w_lt O b.kind m1 m2 h))))))
theorem zpw {i j:Nat} {st:SortSt} {Q:Unit->SortSt->Prop} (h:Q () (setArr st (mirror (arrOf st) i j ((j - i) / 2)))):wpS (model prog w) A E s (reverseSlice' i j) Q st:=by
 rw[reverseSlice'_eq];exact xfm h
theorem zbbr {i j:Nat} {st:SortSt} {Q:Unit->SortSt->Prop} (h:Q () (setArr st (bubble (arrOf st) i (i - j)))):wpS (model prog w) A E s (moveDown' i j) Q st:=by
 rw[moveDown'_eq];exact xfm h
theorem zwm {lo x n N:Nat} (h:x < n) (hn:lo+n<=N):lo+x < N:=xbd (xdl h lo) hn
theorem zwl {lo x n N:Nat} (h:x < n) (hn:lo+n<=N):lo+x - 1 < N:=xcn (xfl _ _) (zwm h hn)
theorem zok {lo n:Nat} (h:1<=n):lo+n - 1 < lo+n:=xgr (xbd h (xki _ _)) Nat.one_pos
theorem zbbk {j lo n:Nat} (h:j < lo+(n+1)) (e:¬j=lo+n):j < lo+n:=xco (xck h) e
theorem zyu {i j k:Nat} (c2:k < j):i<=i+j - 1 - k:=Nat.le_sub_of_add_le (xcr (xdl c2 i))
theorem zyv {i j k:Nat} (c1:i<=k) (c2:k < j):i+j - 1 - k < j:=xcn (xgi c1 _) (by rw[Nat.sub_right_comm,xcm];exact xgr (xil c2) Nat.one_pos)
theorem zhq {xs:Array Keyed} {i j:Nat} (hj:j<=xs.size) (k:Nat):kA R (mirror xs i j ((j - i) / 2)) k=if i<=k/\k < j then kA R xs (i+j - 1 - k) else kA R xs k:=by
 have e:=getElem?_mirror_all (i:=i) hj k;split
 ·rename_i c;rw[if_pos c] at e;exact zcp e
 ·rename_i c;rw[if_neg c] at e;exact zcp e
noncomputable def Out (xs ys:Array Keyed) (a b:Nat):Prop:=∀k,k < a\/b<=k->xs[k]?=ys[k]?
theorem Out.refl (xs:Array Keyed) (a b:Nat):Out xs xs a b:=fun _ _=>rfl
theorem Out.trans {xs ys zs:Array Keyed} {a b:Nat} (h1:Out xs ys a b) (h2:Out ys zs a b):Out xs zs a b:=fun k hk=>(h1 k hk).trans (h2 k hk)
theorem Out.mirror {xs:Array Keyed} {i j a b:Nat} (hj:j<=xs.size) (hi:a<=i) (hb:j<=b):Out (mirror xs i j ((j - i) / 2)) xs a b:=fun k hk=>by
 rw[getElem?_mirror_all (i:=i) hj k,if_neg fun z=>hk.elim (fun h=>xds (xbb hi z.1) h) fun h=>xds (xbb hb h) z.2]
theorem Out.bubble {xs:Array Keyed} {src d a b:Nat} (hs:src < xs.size) (hd:d<=src) (ha:a<=src - d) (hb:src < b):Out (bubble xs src d) xs a b:=fun k hk=>by
 rw[getElem?_bubble hs d hd k,if_neg fun z=>hk.elim (fun h=>xds (xbb ha (xcw z.symm)) h) fun h=>xds h (xcn (xbb (xcw z) (xfl _ _)) hb),if_neg fun z=>hk.elim (fun h=>xds (xbb ha (xbn z.1)) h) fun h=>xds h (xcn z.2 hb)]
structure Sm (st st':SortSt) (a b:Nat):Prop where
 out:Out (arrOf st') (arrOf st) a b
 pend:pendingOf st'=pendingOf st
theorem zwu {lo a nrem:Nat} {st:SortSt} {Q:Option (Option Nat) × Nat->SortSt->Prop} (O:Orc prog w A s κ a₀ R) (b:B κ a₀ st) (hn:lo+nrem<=a₀.size) (ha:1<=a) (han:a<=nrem) (hs:UpA R (arrOf st) lo (lo+a))
  (h:∀n,a<=n->n<=nrem->UpA R (arrOf st) lo (lo+n)->(n=nrem\/kA R (arrOf st) (lo+n) < kA R (arrOf st) (lo+n - 1))->Q (none,n) st) :
  wpS (model prog w) A E s (forIn [a:nrem] ((none,a):Option (Option Nat) × Nat) fun _ r=>do
   let x ← ltAt' (lo+r.2) (lo+r.2 - 1)
   match x with
   | some smaller=>if smaller=true then pure (ForInStep.done (none,r.2)) else pure (ForInStep.yield (none,r.2+1))
   | _=>pure (ForInStep.done (some none,r.2))) Q st:=by
 refine xcz (I:=fun x c st'=>st'=st/\c=(none,x)/\UpA R (arrOf st) lo (lo+x)) ?_ ?_ ⟨rfl,rfl,hs⟩
 ·rintro x c st' h1 h2 ⟨rfl,rfl,h3⟩;dsimp only;refine xbf (zje O b (zwm h2 hn) (zwl h2 hn) ?_);by_cases c:kA R (arrOf st') (lo+x) < kA R (arrOf st') (lo+x - 1)
  ·simp only[c,xfn,xfj];exact xbi (h x h1 (xbn h2) h3 (.inr c))
  ·simp only[c,xgh,xcv,xep];refine xbi ⟨rfl,rfl,fun i j hi hij hj=>?_⟩;by_cases e:j=lo+x
   ·subst e;by_cases e2:i=lo+x
    ·rw[e2];exact xbe _
    ·exact xbb (h3 i (lo+x - 1) hi (xcr (xco hij e2)) (zok (xbb ha h1))) (xbs c)
   ·exact h3 i j hi hij (zbbk hj e)
 ·rintro c st' ⟨rfl,rfl,h3⟩;rw[xka han] at h3 ⊢;exact h nrem han (xbe _) h3 (.inl rfl)
theorem zfs {xs:Array Keyed} {i j:Nat} (hj:j<=xs.size) (he:∀k,i<=k->k < j->kA R xs k=kA R xs (j - 1)) (k:Nat):kA R (mirror xs i j ((j - i) / 2)) k=kA R xs k:=by
 rw[zhq hj];split
 ·rename_i c;rw[he _ (zyu c.2) (zyv c.1 c.2),he k c.1 c.2]
 ·rfl
structure Fl (κ:SortKind) (a₀:Array Keyed) (R:Keyed->Nat) (st₀ st:SortSt) (lo n neq b:Nat):Prop where
 base:B κ a₀ st
 same:Sm st₀ st lo b
 dn:DnA R (arrOf st) lo (lo+n)
 hq:neq+1<=n
 eqs:∀i,lo+n - (neq+1)<=i->i < lo+n->kA R (arrOf st) i=kA R (arrOf st) (lo+n - 1)
theorem Fl.turn {st₀ st:SortSt} {lo n neq b:Nat} (h:Fl κ a₀ R st₀ st lo n neq b) (hb:lo+n<=b) (hs:b<=a₀.size) :
  Fl κ a₀ R st₀ (setArr st (mirror (arrOf st) (lo+n - (neq+1)) (lo+n) ((lo+n - (lo+n - (neq+1))) / 2))) lo n neq b/\∀k,kA R (mirror (arrOf st) (lo+n - (neq+1)) (lo+n) ((lo+n - (lo+n - (neq+1))) / 2)) k=kA R (arrOf st) k:=by
 have hz:=h.base.size;have hq:=h.hq;have hle:lo+n<=(arrOf st).size:=by rw[hz];exact xbb hb hs
 have e:=zfs (R:=R) (xs:=arrOf st) (i:=lo+n - (neq+1)) (j:=lo+n) hle h.eqs;refine ⟨⟨h.base.set (mirror_perm _ _ _ _),⟨(Out.mirror hle (Nat.le_sub_of_add_le (xby hq lo)) hb).trans h.same.out,h.same.pend⟩,fun i j a1 a2 a3=>?_,h.hq,fun i a1 a2=>?_⟩,e⟩
 ·show kA R (mirror _ _ _ _) j<=kA R (mirror _ _ _ _) i;rw[e,e];exact h.dn i j a1 a2 a3
 ·show kA R (mirror _ _ _ _) i=kA R (mirror _ _ _ _) _;rw[e,e];exact h.eqs i a1 a2
theorem Fl.less {st₀ st:SortSt} {lo n neq b:Nat} (h:Fl κ a₀ R st₀ st lo n neq b) (c:kA R (arrOf st) (lo+n)<=kA R (arrOf st) (lo+n - 1)):DnA R (arrOf st) lo (lo+(n+1)):=fun i j a1 a2 a3=>by
 have hq:=h.hq;by_cases e:j=lo+n
 ·subst e;by_cases e2:i=lo+n
  ·rw[e2];exact xbe _
  ·exact xbb c (h.dn i (lo+n - 1) a1 (xcr (xco a2 e2)) (zok (xbb (xki 1 neq) hq)))
 ·exact h.dn i j a1 a2 (zbbk a3 e)
theorem Fl.fresh {st₀ st:SortSt} {lo n neq b:Nat} (h:Fl κ a₀ R st₀ st lo n neq b) (c:kA R (arrOf st) (lo+n)<=kA R (arrOf st) (lo+n - 1)):Fl κ a₀ R st₀ st lo (n+1) 0 b:=⟨h.base,h.same,h.less c,xee (xeh _),fun i g1 g2=>by
 have:i=lo+(n+1) - 1:=xdg (xck g2) g1
 rw[this]⟩
theorem Fl.more {st₀ st:SortSt} {lo n neq b:Nat} (h:Fl κ a₀ R st₀ st lo n neq b) (c:kA R (arrOf st) (lo+n)=kA R (arrOf st) (lo+n - 1)):Fl κ a₀ R st₀ st lo (n+1) (neq+1) b:=by
 have hq:=h.hq;refine ⟨h.base,h.same,h.less (xcw c),xee hq,fun i g1 g2=>?_⟩;rw[show lo+(n+1) - 1=lo+n from rfl];by_cases e:i=lo+n
 ·rw[e]
 ·rw[c];exact h.eqs i (xbb (xcw (Nat.succ_sub_succ (lo+n) (neq+1)).symm) g1) (zbbk g2 e)
theorem zwt {lo nrem:Nat} {st:SortSt} {Q:Option Nat->SortSt->Prop} (O:Orc prog w A s κ a₀ R) (b:B κ a₀ st) (hn:lo+nrem<=a₀.size) (h1:1<=nrem)
  (h:∀m st',1<=m->m<=nrem->B κ a₀ st'->Sm st st' lo (lo+nrem)->UpA R (arrOf st') lo (lo+m)->Q (some m) st'):wpS (model prog w) A E s (countRun' lo nrem) Q st:=by
 have sm0:Sm st st lo (lo+nrem):=⟨Out.refl _ _ _,rfl⟩
 have one:∀xs:Array Keyed,UpA R xs lo (lo+1):=fun xs i j a1 a2 a3=>by
  have:i=j:=xdg a2 (xbb (xck a3) a1);subst this;exact xbe _
 have oneD:∀xs:Array Keyed,DnA R xs lo (lo+1):=fun xs i j a1 a2 a3=>by
  have:i=j:=xdg a2 (xbb (xck a3) a1);subst this;exact xbe _
 rw[countRun'_eq];dsimp only;refine xbf (zwu O b hn (xbe _) h1 (one _) fun n n1 n2 hu hlast=>?_);dsimp only;split
 ·exact xbi (h n st n1 n2 b sm0 hu)
 rename_i hne;have hne':n≠nrem:=fun z=>hne (by simp[z])
 have hlt:n < nrem:=xco n2 hne';have hl:kA R (arrOf st) (lo+n) < kA R (arrOf st) (lo+n - 1):=by
  rcases hlast with z | z
  ·exact absurd z hne'
  ·exact z
 have hz:=b.size;have fin:∀(n:Nat) (st1:SortSt),B κ a₀ st1->Sm st st1 lo (lo+nrem)->1<=n->n<=nrem->DnA R (arrOf st1) lo (lo+n) ->
   B κ a₀ (setArr st1 (mirror (arrOf st1) lo (lo+n) ((lo+n - lo) / 2)))/\Sm st (setArr st1 (mirror (arrOf st1) lo (lo+n) ((lo+n - lo) / 2))) lo (lo+nrem)/\UpA R (mirror (arrOf st1) lo (lo+n) ((lo+n - lo) / 2)) lo (lo+n):=fun n st1 b1 sm1 m1 m2 dn1=>by
  have hz:=b1.size;have hm:=xby m2 lo;have hle:lo+n<=(arrOf st1).size:=by rw[hz];exact xbb hm hn
  refine ⟨b1.set (mirror_perm _ _ _ _),⟨(Out.mirror hle (xbe _) hm).trans sm1.out,sm1.pend⟩,fun i j a1 a2 a3=>?_⟩;have hi:=xcn a2 a3;rw[zhq hle,zhq hle,if_pos ⟨a1,hi⟩,if_pos ⟨xbb a1 a2,a3⟩];exact dn1 _ _ (zyu a3) (xgi a2 _) (zyv a1 hi)
 have eqs:¬ kA R (arrOf st) lo < kA R (arrOf st) (lo+n - 1)->∀k,lo<=k->k < lo+n->kA R (arrOf st) k=kA R (arrOf st) (lo+n - 1):=fun c k k1 k2=>by
  have g1:=hu lo k (xbe _) k1 k2;have g2:=hu k (lo+n - 1) k1 (xcr k2) (zok n1);exact xdg g2 (xbb (xbs c) g1)
 have dnx:∀xs:Array Keyed,(∀k,kA R xs k=kA R (arrOf st) k)->¬ kA R (arrOf st) lo < kA R (arrOf st) (lo+n - 1)->DnA R xs lo (lo+(n+1)):=fun xs e c i j a1 a2 a3=>by
  rw[e,e];by_cases e2:j=lo+n
  ·subst e2;by_cases e3:i=lo+n
   ·rw[e3];exact xbe _
   ·rw[eqs c i a1 (xco a2 e3)];exact xbn hl
  ·have jn:=zbbk a3 e2;rw[eqs c i a1 (xcn a2 jn),eqs c j (xbb a1 a2) jn];exact xbe _
 split
 ·have hle:lo+n<=(arrOf st).size:=by rw[hz];exact xbb (xby n2 lo) hn
  refine xbf (zje O b (xbd (xgm h1) hn) (zwl hlt hn) ?_);by_cases c:kA R (arrOf st) lo < kA R (arrOf st) (lo+n - 1)
  ·simp only[c,xfn,xfj];exact xbi (h n st n1 n2 b sm0 hu)
  ·simp only[c,xgh,xcv,xep];refine xbf (zpw ?_);have b1:B κ a₀ (setArr st (mirror (arrOf st) lo (lo+n) ((lo+n - lo) / 2))):=b.set (mirror_perm _ _ _ _);have sm1:Sm st (setArr st (mirror (arrOf st) lo (lo+n) ((lo+n - lo) / 2))) lo (lo+nrem):=⟨Out.mirror hle (xbe _) (xby n2 lo),rfl⟩
   have dn1:DnA R (arrOf (setArr st (mirror (arrOf st) lo (lo+n) ((lo+n - lo) / 2)))) lo (lo+(n+1)):=dnx _ (zfs hle (eqs c)) c;generalize (setArr st (mirror (arrOf st) lo (lo+n) ((lo+n - lo) / 2)))=st1 at b1 sm1 dn1 ⊢;refine xbf (xix (xhk ⟨rfl,?_⟩));refine xbf (xeg (xcz (I:=fun x c st'=>∃neq,c=(none,x,neq)/\Fl κ a₀ R st st' lo x neq (lo+nrem)) (Q:=fun c st'=>∃m neq,c=(none,m,neq)/\n+1<=m/\m<=nrem/\Fl κ a₀ R st st' lo m neq (lo+nrem)) ?_ ?_ ?_) ?_)
   ·rintro x c st' a1 a2 ⟨neq,rfl,f⟩;dsimp only;refine xbf (zje O f.base (zwm a2 hn) (zwl a2 hn) ?_);by_cases c:kA R (arrOf st') (lo+x) < kA R (arrOf st') (lo+x - 1)
    ·simp only[c,xfn,xfj];split
     ·obtain ⟨f2,e⟩:=f.turn (xby (xbn a2) lo) hn;refine xbf (zpw (xbi ⟨0,rfl,f2.fresh ?_⟩));refine xbn (?_:kA R (mirror _ _ _ _) _ < kA R (mirror _ _ _ _) _);rw[e,e];exact c
     ·exact xbi ⟨0,rfl,f.fresh (xbn c)⟩
    ·simp only[c,xgh,xcv,xep];refine xbf (zje O f.base (zwl a2 hn) (zwm a2 hn) ?_);by_cases c2:kA R (arrOf st') (lo+x - 1) < kA R (arrOf st') (lo+x)
     ·simp only[c2,xfn,xfj];exact xbi ⟨x,neq,rfl,a1,xbn a2,f⟩
     ·simp only[c2,xgh,xcv,xep];exact xbi ⟨neq+1,rfl,f.more (xdg (xbs c2) (xbs c))⟩
   ·rintro c st' ⟨neq,rfl,f⟩;rw[xka hlt] at f ⊢;exact ⟨nrem,neq,rfl,hlt,xbe _,f⟩
   ·exact ⟨0,rfl,b1,sm1,dn1,xee (xeh _),fun i g1 g2=>by
     have:i=lo+(n+1) - 1:=xdg (xck g2) g1
     rw[this]⟩
   ·rintro c st' ⟨m,neq,rfl,a1,a2,f⟩;dsimp only;split
    ·obtain ⟨f2,e⟩:=f.turn (xby a2 lo) hn;refine xbf (zpw (xbf (zpw ?_)));obtain ⟨b3,s3,u3⟩:=fin m _ f2.base f2.same (xcx a1) a2 f2.dn;exact xbf (zwu O b3 hn (xcx a1) a2 u3 fun m' m1 m2 hu' _=>xbi (h m' _ (xbb (xcx a1) m1) m2 b3 s3 hu'))
    ·refine xbf (zpw ?_);obtain ⟨b3,s3,u3⟩:=fin m _ f.base f.same (xcx a1) a2 f.dn;exact xbf (zwu O b3 hn (xcx a1) a2 u3 fun m' m1 m2 hu' _=>xbi (h m' _ (xbb (xcx a1) m1) m2 b3 s3 hu'))
 ·rename_i hn1;have b1:=b;have sm1:=sm0
  have dn1:DnA R (arrOf st) lo (lo+(n+1)):=dnx _ (fun _=>rfl) (by
   have:n=1:=xdg (xbs hn1) n1;subst this
   simp)
  refine xbf (xix (xhk ⟨rfl,?_⟩));refine xbf (xeg (xcz (I:=fun x c st'=>∃neq,c=(none,x,neq)/\Fl κ a₀ R st st' lo x neq (lo+nrem)) (Q:=fun c st'=>∃m neq,c=(none,m,neq)/\n+1<=m/\m<=nrem/\Fl κ a₀ R st st' lo m neq (lo+nrem)) ?_ ?_ ?_) ?_)
  ·rintro x c st' a1 a2 ⟨neq,rfl,f⟩;dsimp only;refine xbf (zje O f.base (zwm a2 hn) (zwl a2 hn) ?_);by_cases c:kA R (arrOf st') (lo+x) < kA R (arrOf st') (lo+x - 1)
   ·simp only[c,xfn,xfj];split
    ·obtain ⟨f2,e⟩:=f.turn (xby (xbn a2) lo) hn;refine xbf (zpw (xbi ⟨0,rfl,f2.fresh ?_⟩));refine xbn (?_:kA R (mirror _ _ _ _) _ < kA R (mirror _ _ _ _) _);rw[e,e];exact c
    ·exact xbi ⟨0,rfl,f.fresh (xbn c)⟩
   ·simp only[c,xgh,xcv,xep];refine xbf (zje O f.base (zwl a2 hn) (zwm a2 hn) ?_);by_cases c2:kA R (arrOf st') (lo+x - 1) < kA R (arrOf st') (lo+x)
    ·simp only[c2,xfn,xfj];exact xbi ⟨x,neq,rfl,a1,xbn a2,f⟩
    ·simp only[c2,xgh,xcv,xep];exact xbi ⟨neq+1,rfl,f.more (xdg (xbs c2) (xbs c))⟩
  ·rintro c st' ⟨neq,rfl,f⟩;rw[xka hlt] at f ⊢;exact ⟨nrem,neq,rfl,hlt,xbe _,f⟩
  ·exact ⟨0,rfl,b1,sm1,dn1,xee (xeh _),fun i g1 g2=>by
    have:i=lo+(n+1) - 1:=xdg (xck g2) g1
    rw[this]⟩
  ·rintro c st' ⟨m,neq,rfl,a1,a2,f⟩;dsimp only;split
   ·obtain ⟨f2,e⟩:=f.turn (xby a2 lo) hn;refine xbf (zpw (xbf (zpw ?_)));obtain ⟨b3,s3,u3⟩:=fin m _ f2.base f2.same (xcx a1) a2 f2.dn;exact xbf (zwu O b3 hn (xcx a1) a2 u3 fun m' m1 m2 hu' _=>xbi (h m' _ (xbb (xcx a1) m1) m2 b3 s3 hu'))
   ·refine xbf (zpw ?_);obtain ⟨b3,s3,u3⟩:=fin m _ f.base f.same (xcx a1) a2 f.dn;exact xbf (zwu O b3 hn (xcx a1) a2 u3 fun m' m1 m2 hu' _=>xbi (h m' _ (xbb (xcx a1) m1) m2 b3 s3 hu'))
end
section
variable {prog:Program} {w:World} {A:Around} {E:Value->Shared->Prop} {s:Shared} {κ:SortKind} {a₀:Array Keyed} {R:Keyed->Nat}
theorem zkq {xs:Array Keyed} {src d:Nat} (hs:src < xs.size) (hd:d<=src) (k:Nat):kA R (bubble xs src d) k=if k=src - d then kA R xs src else if src - d < k/\k<=src then kA R xs (k - 1) else kA R xs k:=by
 have e:=getElem?_bubble hs d hd k;split
 ·rename_i c;rw[if_pos c] at e;exact zcp e
 ·rename_i c;rw[if_neg c] at e;split
  ·rename_i c2;rw[if_pos c2] at e;exact zcp e
  ·rename_i c2;rw[if_neg c2] at e;exact zcp e
theorem zhl {a b n:Nat} (h1:a<=b) (h:b - a<=n - max 0 n):b=a:=by
 rw[Nat.zero_max,xhc] at h;exact xdg (Nat.le_of_sub_eq_zero (Nat.le_zero.mp h)) h1
theorem zbea {l r:Nat} (h:¬l ≥ r):l<=(l+r) / 2:=(Nat.le_div_iff_mul_le xkl).mpr (by rw[Nat.mul_two];exact xby (xbn (xey h)) l)
theorem zbbl {l r:Nat} (h:¬l ≥ r):(l+r) / 2 < r:=(Nat.div_lt_iff_lt_mul xkl).mpr (by rw[Nat.mul_two];exact Nat.add_lt_add_right (xey h) r)
theorem hf_l {l r k x:Nat} (h:¬l ≥ r) (g:r - l<=k - x):(l+r) / 2 - l<=k - (x+1):=xbb (xcr (xdp (zbea h) (zbbl h))) (xel g 1)
theorem hf_r {l r k x:Nat} (h:¬l ≥ r) (g:r - l<=k - x):r - ((l+r) / 2+1)<=k - (x+1):=xbb (xgi (xee (zbea h)) r) (xel g 1)
theorem zud {p j q:Nat} (h:p < j) (h2:j<=q):j - 1 < q:=xbd (xgr (xil h) Nat.one_pos) h2
theorem zbhh {lo n ok:Nat} {st:SortSt} {Q:Bool->SortSt->Prop} (O:Orc prog w A s κ a₀ R) (b:B κ a₀ st) (hn:lo+n<=a₀.size) (h1:1<=ok) (h2:ok<=n) (up:UpA R (arrOf st) lo (lo+ok))
  (h:∀st',B κ a₀ st'->Sm st st' lo (lo+n)->UpA R (arrOf st') lo (lo+n)->Q true st'):wpS (model prog w) A E s (binarySort' lo n ok) Q st:=by
 rw[binarySort'_eq]
 refine xbf (xeg (xcz (I:=fun k c st'=>c=(none,())/\B κ a₀ st'/\Sm st st' lo (lo+n)/\UpA R (arrOf st') lo (lo+min k n))
  (Q:=fun c st'=>c=(none,())/\B κ a₀ st'/\Sm st st' lo (lo+n)/\UpA R (arrOf st') lo (lo+n)) ?_ ?_ ?_) ?_)
 ·rintro k c st' k1 k2 ⟨rfl,b1,sm1,up1⟩;rw[xdq (xbn k2)] at up1;have hz:=b1.size;have hk:lo+k < a₀.size:=xbd (xdl k2 lo) hn
  refine xbf (xeg (xcz (I:=fun x c st2=>st2=st'/\∃l r,c=(none,l,r)/\l<=r/\r<=k/\r - l<=k - x/\(∀i,i < l->kA R (arrOf st') (lo+i)<=kA R (arrOf st') (lo+k))/\(∀i,r<=i->i < k->kA R (arrOf st') (lo+k)<=kA R (arrOf st') (lo+i)))
   (Q:=fun c st2=>st2=st'/\∃l r,c=(none,l,r)/\l<=k/\(∀i,i < l->kA R (arrOf st') (lo+i)<=kA R (arrOf st') (lo+k))/\(∀i,l<=i->i < k->kA R (arrOf st') (lo+k)<=kA R (arrOf st') (lo+i))) ?_ ?_ ?_) ?_)
  ·rintro x c st2 x1 x2 ⟨rfl,l,r,rfl,g1,g2,g3,g4,g5⟩;dsimp only;by_cases hge:l ≥ r
   ·rw[if_pos hge];have e:l=r:=xdg g1 hge;subst e;exact xbi ⟨rfl,l,l,rfl,g2,g4,g5⟩
   ·have hm:lo+(l+r) / 2 < lo+k:=xdl (xbd (zbbl hge) g2) lo;rw[if_neg hge];refine xbf (zje O b1 hk (xhb hm hk) ?_);by_cases c:kA R (arrOf st2) (lo+k) < kA R (arrOf st2) (lo+(l+r) / 2)
    ·simp only[c,xfn,xfj];exact xbi ⟨rfl,l,(l+r) / 2,rfl,zbea hge,xbb (xbn (zbbl hge)) g2,hf_l hge g3,g4,fun i a1 a2=>xbb (xbn c) (up1 _ _ (xbr _ _) (xby a1 lo) (xdl a2 lo))⟩
    ·simp only[c,xgh,xcv,xep];exact xbi ⟨rfl,(l+r) / 2+1,r,rfl,zbbl hge,g2,hf_r hge g3,fun i a1=>xbb (up1 (lo+i) (lo+(l+r) / 2) (xbr _ _) (xby (xck a1) lo) hm) (xbs c),g5⟩
  ·rintro c st2 ⟨rfl,l,r,rfl,g1,g2,g3,g4,g5⟩;have e:=zhl g1 g3;subst e;exact ⟨rfl,_,_,rfl,g2,g4,g5⟩
  ·exact ⟨rfl,0,k,rfl,xeh _,xbe _,xbe _,fun i hi=>absurd hi (Nat.not_lt_zero _),fun i a1 a2=>absurd a2 (xds a1)⟩
  ·rintro c st2 ⟨rfl,l,r,rfl,g1,g2,g3⟩;dsimp only;have hd:lo+k - (lo+k - (lo+l))=lo+l:=Nat.sub_sub_self (xby g1 lo);have hs:lo+k < (arrOf st2).size:=by rw[hz];exact hk
   refine xbf (zbbr (xbi ⟨rfl,b1.set (bubble_perm _ _ _),⟨(Out.bubble hs (xfl _ _) (by rw[hd];exact xbr _ _) (xdl k2 lo)).trans sm1.out,sm1.pend⟩,fun i j a1 a2 a3=>?_⟩));show kA R (bubble (arrOf st2) (lo+k) (lo+k - (lo+l))) i<=kA R (bubble (arrOf st2) (lo+k) (lo+k - (lo+l))) j;rw[zkq hs (xfl _ _),zkq hs (xfl _ _),hd];rw[xdq k2] at a3;have hj:j<=lo+k:=xck a3;have low:∀q,lo<=q->q < lo+l->kA R (arrOf st2) q<=kA R (arrOf st2) (lo+k):=fun q q1 q2=>by
    have:=g2 (q - lo) (xda q1 q2);rw[xcc q1] at this;exact this
   have hig:∀q,lo+l<=q->q < lo+k->kA R (arrOf st2) (lo+k)<=kA R (arrOf st2) q:=fun q q1 q2=>by
    have q0:=xbb (xbr _ _) q1;have:=g3 (q - lo) (xdv q1) (xda q0 q2);rw[xcc q0] at this;exact this
   by_cases i1:i=lo+l
   ·rw[if_pos i1];by_cases j1:j=lo+l
    ·rw[if_pos j1];exact xbe _
    ·have jj:=xco (i1 ▸ a2) (xej j1);rw[if_neg j1,if_pos ⟨jj,hj⟩];exact hig _ (xcr jj) (zud jj hj)
   ·rw[if_neg i1];by_cases i2:lo+l < i/\i<=lo+k
    ·have jj:=xbd i2.1 a2;rw[if_pos i2,if_neg (xjd jj),if_pos ⟨jj,hj⟩];exact up1 _ _ (xbb (xbr lo l) (xcr i2.1)) (xel a2 1) (zud jj hj)
    ·have il:i < lo+l:=xco (xbs fun z=>i2 ⟨z,xbb a2 hj⟩) i1;rw[if_neg i2];by_cases j1:j=lo+l
     ·rw[if_pos j1];exact low i a1 il
     ·rw[if_neg j1];by_cases j2:lo+l < j/\j<=lo+k
      ·rw[if_pos j2];exact up1 _ _ a1 (xcr (xhb il j2.1)) (zud j2.1 hj)
      ·rw[if_neg j2];exact up1 _ _ a1 a2 (xbd (xco (xbs fun z=>j2 ⟨z,hj⟩) j1) (xby g1 lo))
 ·rintro c st' ⟨rfl,b1,sm1,up1⟩;rw[xhg (Nat.le_max_right _ _)] at up1;exact ⟨rfl,b1,sm1,up1⟩
 ·refine ⟨rfl,b,⟨Out.refl _ _ _,rfl⟩,fun i j a1 a2 a3=>up i j a1 a2 (xbd a3 (xby (xbb (xgs _ _) (xcw (Nat.max_eq_left h1))) lo))⟩
 ·rintro c st' ⟨rfl,b1,sm1,up1⟩;exact xbi (h st' b1 sm1 up1)
noncomputable def gallop':Bool->Keyed->Array Keyed->Nat->Nat->Nat->StateT SortSt Sem (Option Nat):=sortPriv% PySem.Builtin.gallop
noncomputable def Cut (left:Bool) (R:Keyed->Nat) (key:Keyed) (arr:Array Keyed) (base n h:Nat):Prop:=h<=n/\(∀i,i < h->if left then kA R arr (base+i) < R key else kA R arr (base+i)<=R key)/\(∀i,h<=i->i < n->if left then R key<=kA R arr (base+i) else R key < kA R arr (base+i))
noncomputable def ahead (left:Bool) (R:Keyed->Nat) (key:Keyed) (arr:Array Keyed) (base i:Nat):Bool:=if left then decide (kA R arr (base+i) < R key) else decide (kA R arr (base+i)<=R key)
theorem zid {left:Bool} {key:Keyed} {arr:Array Keyed} {base i:Nat} {st:SortSt} {Q:Option Bool->SortSt->Prop} (O:Orc prog w A s κ a₀ R) (hk:kindOf st=κ) (mk:key∈a₀.toList) (ma:∃x,arr[base+i]?=some x/\x∈a₀.toList) (h:Q (some (ahead left R key arr base i)) st) :
  wpS (model prog w) A E s (do
   let x ← elem' arr (base+i)
   if left=true then lt' x key else do
    let y ← lt' key x
    pure (Option.map (fun x=>!x) y)) Q st:=by
 obtain ⟨x,e,m⟩:=ma;refine xbf (zic e ?_);unfold ahead at h;rw[zcr e] at h;cases left with
 | true =>
  rw[if_pos rfl] at h ⊢;exact w_lt O hk m mk h
 | false =>
  rw[if_neg (by decide)] at h ⊢;refine xbf (w_lt O hk mk m (xbi ?_));have q:(!decide (R key < R x))=decide (R x<=R key):=by
   by_cases c:R key < R x
   ·rw[xdc c,xci (Nat.not_le_of_lt c)];rfl
   ·rw[xci c,xdc (xbs c)];rfl
  show Q (some (!decide (R key < R x))) st;rw[q];exact h
theorem zpm {left:Bool} {key:Keyed} {arr:Array Keyed} {base n i j:Nat} (up:UpA R arr base (base+n)) (hij:i<=j) (hj:j < n) (h:ahead left R key arr base j=true):ahead left R key arr base i=true:=by
 have:=up (base+i) (base+j) (xbr _ _) (xby hij _) (xdl hj _);unfold ahead at h ⊢;cases left with
 | true=>rw[if_pos rfl] at h ⊢;exact xdc (xcn this (xfz h))
 | false=>rw[if_neg (by decide)] at h ⊢;exact xdc (xbb this (xfz h))
theorem zbaq {left:Bool} {key:Keyed} {arr:Array Keyed} {base n h:Nat} (h0:h<=n) (h1:∀i,i < h->ahead left R key arr base i=true) (h2:∀i,h<=i->i < n->ahead left R key arr base i=false):Cut left R key arr base n h:=by
 refine ⟨h0,fun i hi=>?_,fun i a1 a2=>?_⟩
 ·have:=h1 i hi;unfold ahead at this;cases left with
  | true=>rw[if_pos rfl] at this ⊢;exact xfz this
  | false=>rw[if_neg (by decide)] at this ⊢;exact xfz this
 ·have:=h2 i a1 a2;unfold ahead at this;cases left with
  | true=>rw[if_pos rfl] at this ⊢;exact xbs (of_decide_eq_false this)
  | false=>rw[if_neg (by decide)] at this ⊢;exact xey (of_decide_eq_false this)
theorem zsy {a b:Nat} (c:¬a ≥ b):(b - a) / 2 < b - a:=Nat.div_lt_self (xen (xey c)) (xbe 2)
theorem zbdk {a b:Nat} (c:¬a ≥ b):a+(b - a) / 2 < b:=xdh (zsy c)
theorem zwh {a b n:Nat} (c:¬a ≥ b) (h:b<=n):a+(b - a) / 2 < n:=xbd (zbdk c) h
theorem zyx {a b n x:Nat} (h:b - a<=n - x):b - (a+(b - a) / 2+1)<=n - (x+1):=xbb (xgi (xee (xbr a _)) b) (xel h 1)
theorem zyw {a b n x:Nat} (c:¬a ≥ b) (h:b - a<=n - x):a+(b - a) / 2 - a<=n - (x+1):=by
 rw[xcm];exact xbb (xcr (zsy c)) (xel h 1)
theorem zbad (o:Nat):o < 2 * o+1:=Nat.lt_succ_of_le (xis o xkl)
theorem zbae {x o:Nat} (h:x+1<=o):x+1+1<=2 * o+1:=xee (xbb h (xis o xkl))
theorem zxb {a b n:Nat} (h:a+b < n):b < n - a:=Nat.lt_sub_of_add_lt (Nat.add_comm a b ▸ h)
inductive GI (f:Nat->Bool) (n:Nat) (st:SortSt) (x:Nat):Option (Option Nat) × Nat × Nat->SortSt->Prop where
 | mk {a b:Nat} (q1:a<=b) (q2:b<=n) (q3:b - a<=n - x) (q4:∀i,i < a->f i=true) (q5:∀i,b<=i->i < n->f i=false):GI f n st x (none,a,b) st
inductive GE (f:Nat->Bool) (n:Nat) (st:SortSt):Option (Option Nat) × Nat × Nat->SortSt->Prop where
 | mk {b:Nat} (q2:b<=n) (q4:∀i,i < b->f i=true) (q5:∀i,b<=i->i < n->f i=false):GE f n st (none,b,b) st
inductive GU (f:Nat->Bool) (n hint:Nat) (P:Nat->Prop) (st:SortSt):Option (Option Nat) × Nat × Nat->SortSt->Prop where
 | mk {l o:Nat} (g1:l < o) (g2:hint+l < n) (g3:f (hint+l)=true) (g4:P o):GU f n hint P st (none,l,o) st
inductive GD (f:Nat->Bool) (hint:Nat) (P:Nat->Prop) (st:SortSt):Option (Option Nat) × Nat × Nat->SortSt->Prop where
 | mk {l o:Nat} (g1:l < o) (g2:l<=hint) (g3:f (hint - l)=false) (g4:P o):GD f hint P st (none,l,o) st
theorem zeg {left:Bool} {key:Keyed} {arr:Array Keyed} {base n hint:Nat} {st:SortSt} {Q:Option Nat->SortSt->Prop} (O:Orc prog w A s κ a₀ R) (hk:kindOf st=κ) (mk:key∈a₀.toList) (ma:∀i,i < n->∃x,arr[base+i]?=some x/\x∈a₀.toList) (hh:hint < n)
  (up:UpA R arr base (base+n)) (h:∀k,Cut left R key arr base n k->Q (some k) st):wpS (model prog w) A E s (gallop' left key arr base n hint) Q st:=by
 have mono:∀i j,i<=j->j < n->ahead left R key arr base j=true->ahead left R key arr base i=true:=fun i j a1 a2=>zpm up a1 a2
 have monoF:∀i j,i<=j->j < n->ahead left R key arr base i=false->ahead left R key arr base j=false:=fun i j a1 a2 e=>by
  cases c:ahead left R key arr base j with
  | false=>rfl
  | true=>rw[mono i j a1 a2 c] at e;cases e
 refine xbf (zid O hk mk (ma hint hh) ?_);dsimp only;cases hr:ahead left R key arr base hint with
 | true =>
  rw[if_pos rfl];refine xbf (xeg (xcz (I:=fun x=>GU (ahead left R key arr base) n hint (x+1<=·) st) (Q:=GU (ahead left R key arr base) n hint (fun o=>n - hint<=o\/(hint+o < n/\ahead left R key arr base (hint+o)=false)) st) ?_ ?_ ?_) ?_)
  ·rintro x c st' x1 x2 @⟨l,o,g1,g2,g3,g4⟩;dsimp only;by_cases c:o ≥ n - hint
   ·rw[if_pos c];exact xbi (.mk g1 g2 g3 (.inl c))
   ·have c3:hint+o < n:=xdh (xey c);rw[if_neg c];refine xbf (zid O hk mk (ma (hint+o) c3) ?_);dsimp only;cases c2:ahead left R key arr base (hint+o) with
    | true=>exact xbi (.mk (zbad o) c3 c2 (zbae g4))
    | false=>exact xbi (.mk g1 g2 g3 (.inr ⟨c3,c2⟩))
  ·rintro c st' @⟨l,o,g1,g2,g3,g4⟩;rw[Nat.zero_max] at g4;exact .mk g1 g2 g3 (.inl (xbb (xfl _ _) (xct g4)))
  ·exact .mk Nat.one_pos hh hr (xbe _)
  ·rintro c st' @⟨l,o,g1,g2,g3,g4⟩;dsimp only;have f1:∀i,i < hint+l+1->ahead left R key arr base i=true:=fun i hi=>mono i (hint+l) (xck hi) g2 g3
   have f2:∀i,hint+min o (n - hint)<=i->i < n->ahead left R key arr base i=false:=fun i a1 a2=>by
    rcases g4 with g | ⟨ga,gb⟩
    ·rw[xhg g,xcc (xbn hh)] at a1;exact absurd a2 (xds a1)
    ·rw[xdq (xbn (zxb ga))] at a1;exact monoF (hint+o) i a1 a2 gb
   have f3:hint+l+1<=hint+min o (n - hint):=xby (Nat.le_min.mpr ⟨g1,zxb g2⟩) hint;have f4:hint+min o (n - hint)<=n:=xbb (xby (xfh _ _) hint) (xcw (xcc (xbn hh)));generalize hint+l+1=lo at f1 f3 ⊢;generalize hint+min o (n - hint)=hi at f2 f3 f4 ⊢;refine xbf (xeg (xcz (I:=GI (ahead left R key arr base) n st) (Q:=GE (ahead left R key arr base) n st) ?_ ?_ (.mk f3 f4 (xbb (xfl _ _) f4) f1 f2)) ?_)
   ·rintro x c st2 x1 x2 @⟨a,b,q1,q2,q3,q4,q5⟩;dsimp only;by_cases c:a ≥ b
    ·rw[if_pos c];have e:b=a:=xdg c q1;subst e;exact xbi (.mk q2 q4 q5)
    ·rw[if_neg c];refine xbf (zid O hk mk (ma (a+(b - a) / 2) (zwh c q2)) ?_);dsimp only;cases c2:ahead left R key arr base (a+(b - a) / 2) with
     | true=>exact xbi (.mk (zbdk c) q2 (zyx q3) (fun i hi=>mono i (a+(b - a) / 2) (xck hi) (zwh c q2) c2) q5)
     | false=>exact xbi (.mk (xbr _ _) (xbn (zwh c q2)) (zyw c q3) q4 fun i a1 a2=>monoF (a+(b - a) / 2) i a1 a2 c2)
   ·rintro c st2 @⟨a,b,q1,q2,q3,q4,q5⟩;have e:=zhl q1 q3;subst e;exact .mk q2 q4 q5
   ·rintro c st2 @⟨b,q2,q4,q5⟩;exact xbi (h b (zbaq q2 q4 q5))
 | false =>
  rw[if_neg (by decide)];refine xbf (xeg (xcz (I:=fun x=>GD (ahead left R key arr base) hint (x+1<=·) st) (Q:=GD (ahead left R key arr base) hint (fun o=>hint+1<=o\/(o<=hint/\ahead left R key arr base (hint - o)=true)) st) ?_ ?_ ?_) ?_)
  ·rintro x c st' x1 x2 @⟨l,o,g1,g2,g3,g4⟩;dsimp only;by_cases c:o ≥ hint+1
   ·rw[if_pos c];exact xbi (.mk g1 g2 g3 (.inl c))
   ·rw[if_neg c];refine xbf (zid O hk mk (ma (hint - o) (xcn (xfl _ _) hh)) ?_);dsimp only;cases c2:ahead left R key arr base (hint - o) with
    | true=>exact xbi (.mk g1 g2 g3 (.inr ⟨xck (xey c),c2⟩))
    | false=>exact xbi (.mk (zbad o) (xck (xey c)) c2 (zbae g4))
  ·rintro c st' @⟨l,o,g1,g2,g3,g4⟩;rw[Nat.zero_max] at g4;exact .mk g1 g2 g3 (.inl (xbb hh (xct g4)))
  ·exact .mk Nat.one_pos (xeh _) hr (xbe _)
  ·rintro c st' @⟨l,o,g1,g2,g3,g4⟩;dsimp only;have f1:∀i,i < hint+1 - min o (hint+1)->ahead left R key arr base i=true:=fun i hi=>by
    rcases g4 with g | ⟨ga,gb⟩
    ·rw[xhg g,xhc] at hi;exact absurd hi (Nat.not_lt_zero _)
    ·rw[xdq (xff ga),Nat.succ_sub ga] at hi;exact mono i (hint - o) (xck hi) (xcn (xfl _ _) hh) gb
   have f2:∀i,hint - l<=i->i < n->ahead left R key arr base i=false:=fun i a1 a2=>monoF (hint - l) i a1 a2 g3
   have f3:hint+1 - min o (hint+1)<=hint - l:=xbb (xgi (Nat.le_min.mpr ⟨g1,xee g2⟩) _) (xcw (Nat.succ_sub_succ hint l));have f4:hint - l<=n:=xbb (xfl _ _) (xbn hh);generalize hint+1 - min o (hint+1)=lo at f1 f3 ⊢;generalize hint - l=hi at f2 f3 f4 ⊢;refine xbf (xeg (xcz (I:=GI (ahead left R key arr base) n st) (Q:=GE (ahead left R key arr base) n st) ?_ ?_ (.mk f3 f4 (xbb (xfl _ _) f4) f1 f2)) ?_)
   ·rintro x c st2 x1 x2 @⟨a,b,q1,q2,q3,q4,q5⟩;dsimp only;by_cases c:a ≥ b
    ·rw[if_pos c];have e:b=a:=xdg c q1;subst e;exact xbi (.mk q2 q4 q5)
    ·rw[if_neg c];refine xbf (zid O hk mk (ma (a+(b - a) / 2) (zwh c q2)) ?_);dsimp only;cases c2:ahead left R key arr base (a+(b - a) / 2) with
     | true=>exact xbi (.mk (zbdk c) q2 (zyx q3) (fun i hi=>mono i (a+(b - a) / 2) (xck hi) (zwh c q2) c2) q5)
     | false=>exact xbi (.mk (xbr _ _) (xbn (zwh c q2)) (zyw c q3) q4 fun i a1 a2=>monoF (a+(b - a) / 2) i a1 a2 c2)
   ·rintro c st2 @⟨a,b,q1,q2,q3,q4,q5⟩;have e:=zhl q1 q3;subst e;exact .mk q2 q4 q5
   ·rintro c st2 @⟨b,q2,q4,q5⟩;exact xbi (h b (zbaq q2 q4 q5))
end
section
variable {prog:Program} {w:World} {A:Around} {E:Value->Shared->Prop} {s:Shared} {κ:SortKind} {a₀:Array Keyed} {R:Keyed->Nat}
noncomputable abbrev Ord (R:Keyed->Nat) (l:List Keyed):Prop:=l.Pairwise fun x y=>R x<=R y
structure SmG (st st':SortSt):Prop where
 arr:arrOf st'=arrOf st
 pend:pendingOf st'=pendingOf st
 kind:kindOf st'=kindOf st
 failed:failedOf st'=failedOf st
theorem SmG.refl (st:SortSt):SmG st st:=⟨rfl,rfl,rfl,rfl⟩
theorem SmG.trans {a b c:SortSt} (x:SmG a b) (y:SmG b c):SmG a c:=⟨y.arr.trans x.arr,y.pend.trans x.pend,y.kind.trans x.kind,y.failed.trans x.failed⟩
noncomputable def mergeLo':Array Keyed->Array Keyed->StateT SortSt Sem (Array Keyed):=sortPriv% PySem.Builtin.mergeLo
noncomputable def mergeHi':Array Keyed->Array Keyed->StateT SortSt Sem (Array Keyed):=sortPriv% PySem.Builtin.mergeHi
structure ML (R:Keyed->Nat) (all out rest:List Keyed):Prop where
 perm:(out++rest).Perm all
 ord:Ord R out
 le:∀x∈out,∀y∈rest,R x<=R y
theorem ML.grow {all out rest xs rest':List Keyed} (m:ML R all out rest) (p:rest.Perm (xs++rest')) (o:Ord R xs) (h:∀x∈xs,∀y∈rest',R x<=R y):ML R all (out++xs) rest':=by
 refine ⟨?_,xfc.mpr ⟨m.ord,o,fun x hx y hy=>m.le x hx y (p.mem_iff.mpr (xga _ hy))⟩,fun x hx y hy=>?_⟩
 ·rw[xcj];exact (xfs out p.symm).trans m.perm
 ·rcases xbz.mp hx with hx | hx
  ·exact m.le x hx y (p.mem_iff.mpr (xcu _ hy))
  ·exact h x hx y hy
theorem ML.fin {all out rest rest':List Keyed} (m:ML R all out rest) (p:rest'.Perm rest) (o:Ord R rest'):(out++rest').Perm all/\Ord R (out++rest') :=
 ⟨(xfs out p).trans m.perm,xfc.mpr ⟨m.ord,o,fun x hx y hy=>m.le x hx y (p.mem_iff.mp hy)⟩⟩
theorem Ord.at {l:List Keyed} (h:Ord R l) {i j:Nat} {x y:Keyed} (hi:l[i]?=some x) (hj:l[j]?=some y) (hij:i<=j):R x<=R y:=by
 obtain ⟨h1,e1⟩:=xbl.mp hi;obtain ⟨h2,e2⟩:=xbl.mp hj;by_cases c:i=j
 ·subst c;rw[← e1,← e2];exact xbe _
 ·rw[← e1,← e2];exact xhs.mp h i j h1 h2 (xco hij c)
theorem Ord.drop {l:List Keyed} (h:Ord R l) (n:Nat):Ord R (l.drop n):=List.Pairwise.sublist (List.drop_sublist _ _) h
theorem Ord.take {l:List Keyed} (h:Ord R l) (n:Nat):Ord R (l.take n):=List.Pairwise.sublist (List.take_sublist _ _) h
theorem zw {l:List Keyed} {n:Nat} {y:Keyed} (h:y∈l.drop n):∃j,n<=j/\l[j]?=some y:=by
 obtain ⟨i,hi,e⟩:=xer h;refine ⟨n+i,xbr _ _,?_⟩;rw[← e,List.getElem_drop];exact xbj _
theorem zo {l:List Keyed} {n:Nat} {y:Keyed} (h:y∈l.take n):∃j,j < n/\l[j]?=some y:=by
 obtain ⟨i,hi,e⟩:=xer h;have hi2:i < n/\i < l.length:=by rw[xdb] at hi;exact Nat.lt_min.mp hi
 refine ⟨i,hi2.1,?_⟩;rw[← e,List.getElem_take];exact xbj _
theorem zfv {l:List Keyed} {i:Nat} {x:Keyed} (h:l[i]?=some x):l.drop i=x::l.drop (i+1):=by
 obtain ⟨h1,rfl⟩:=xbl.mp h;exact xgb h1
theorem ziu (l:List Keyed) (i k:Nat):l.drop i=(l.drop i).take k++l.drop (i+k):=by
 rw[← xkm,xdm]
structure Two (R:Keyed->Nat) (la lb:List Keyed):Prop where
 oa:Ord R la
 ob:Ord R lb
 last:∀x,la[la.length - 1]?=some x->∀y∈lb,R y<=R x
noncomputable def Fin (R:Keyed->Nat) (la lb:List Keyed) (r:Array Keyed):Prop:=r.toList.Perm (la++lb)/\Ord R r.toList
variable {la lb:List Keyed} {out:Array Keyed} {ia ib:Nat}
theorem ML.pushB {R:Keyed->Nat} {all:List Keyed} (T:Two R la lb) (m:ML R all out.toList (la.drop ia++lb.drop ib)) {y:Keyed} (hy:lb[ib]?=some y) (h:∀z∈la.drop ia,R y<=R z):ML R all (out.push y).toList (la.drop ia++lb.drop (ib+1)):=by
 rw[xeo];refine m.grow ?_ (xih _ _) fun x hx z hz=>?_
 ·rw[zfv hy];exact List.perm_middle
 ·simp at hx;subst hx
  rcases xbz.mp hz with hz | hz
  ·exact h z hz
  ·obtain ⟨j,hj,e⟩:=zw hz;exact T.ob.at hy e (xct hj)
theorem ML.pushA {R:Keyed->Nat} {all:List Keyed} (T:Two R la lb) (m:ML R all out.toList (la.drop ia++lb.drop ib)) {x:Keyed} (hx:la[ia]?=some x) (h:∀z∈lb.drop ib,R x<=R z):ML R all (out.push x).toList (la.drop (ia+1)++lb.drop ib):=by
 rw[xeo];refine m.grow ?_ (xih _ _) fun w hw z hz=>?_
 ·rw[zfv hx];exact .refl _
 ·simp at hw;subst hw
  rcases xbz.mp hz with hz | hz
  ·obtain ⟨j,hj,e⟩:=zw hz;exact T.oa.at hx e (xct hj)
  ·exact h z hz
theorem zbm (xs:Array Keyed) (i j:Nat):(xs.extract i j).toList=(xs.toList.drop i).take (j - i):=by
 rw[Array.toList_extract,List.extract_eq_take_drop]
theorem zky (xs:Array Keyed) (i:Nat):(xs.extract i).toList=xs.toList.drop i:=by
 rw[zbm];exact xet (by simp)
theorem zbe {xs:Array Keyed} {i:Nat} {x:Keyed} (h:xs.toList[i]?=some x):kA R xs i=R x:=zcr (by rw[← xcf];exact h)
end
section
variable {prog:Program} {w:World} {A:Around} {E:Value->Shared->Prop} {s:Shared} {κ:SortKind} {a₀:Array Keyed} {R:Keyed->Nat} {a b out:Array Keyed} {ia ib k:Nat} {y x:Keyed} {all:List Keyed}
theorem ML.galA (T:Two R a.toList b.toList) (m:ML R all out.toList (a.toList.drop ia++b.toList.drop ib)) (hy:b.toList[ib]?=some y) (c:Cut false R y a ia (a.size - ia) k):ML R all (out++a.extract ia (ia+k)).toList (a.toList.drop (ia+k)++b.toList.drop ib)/\∀z∈a.toList.drop (ia+k),R y<=R z:=by
 have up:∀z∈a.toList.drop (ia+k),R y<=R z:=fun z hz=>by
  obtain ⟨j,hj,e⟩:=zw hz;have hj2:j < a.size:=by have:=(xbl.mp e).1;simpa using this
  have h0:=xbb (xbr _ _) hj;have:=c.2.2 (j - ia) (xdv hj) (xdp h0 hj2);rw[xcc h0,zbe e] at this;exact xbn this
 have low:∀z∈(a.toList.drop ia).take k,R z<=R y:=fun z hz=>by
  obtain ⟨j,hj,e⟩:=zo hz;rw[xfa] at e;have:=c.2.1 j hj;rw[zbe e] at this;exact this
 refine ⟨?_,up⟩;rw[xcp,zbm,xcm];refine m.grow ?_ ((T.oa.drop ia).take k) fun z hz v hv=>?_
 ·conv=>lhs;rw[ziu a.toList ia k]
  rw[xcj]
 ·rcases xbz.mp hv with hv | hv
  ·exact xbb (low z hz) (up v hv)
  ·obtain ⟨j,hj,e⟩:=zw hv;exact xbb (low z hz) (T.ob.at hy e hj)
theorem ML.galB (T:Two R a.toList b.toList) (m:ML R all out.toList (a.toList.drop ia++b.toList.drop ib)) (hx:a.toList[ia]?=some x) (c:Cut true R x b ib (b.size - ib) k):ML R all (out++b.extract ib (ib+k)).toList (a.toList.drop ia++b.toList.drop (ib+k))/\∀z∈b.toList.drop (ib+k),R x<=R z:=by
 have up:∀z∈b.toList.drop (ib+k),R x<=R z:=fun z hz=>by
  obtain ⟨j,hj,e⟩:=zw hz;have hj2:j < b.size:=by have:=(xbl.mp e).1;simpa using this
  have h0:=xbb (xbr _ _) hj;have:=c.2.2 (j - ib) (xdv hj) (xdp h0 hj2);rw[xcc h0,zbe e] at this;exact this
 have low:∀z∈(b.toList.drop ib).take k,R z<=R x:=fun z hz=>by
  obtain ⟨j,hj,e⟩:=zo hz;rw[xfa] at e;have:=c.2.1 j hj;rw[zbe e] at this;exact xbn this
 refine ⟨?_,up⟩;rw[xcp,zbm,xcm];refine m.grow ?_ ((T.ob.drop ib).take k) fun z hz v hv=>?_
 ·conv=>lhs;rw[ziu b.toList ib k]
  rw[← xcj,← xcj];exact xgw _ xft
 ·rcases xbz.mp hv with hv | hv
  ·obtain ⟨j,hj,e⟩:=zw hv;exact xbb (low z hz) (T.oa.at hx e hj)
  ·exact xbb (low z hz) (up v hv)
theorem ML.done (T:Two R a.toList b.toList) (m:ML R (a.toList++b.toList) out.toList (a.toList.drop ia++b.toList.drop ib)) (h:ia=a.size\/ib=b.size):Fin R a.toList b.toList (out++a.extract ia++b.extract ib):=by
 unfold Fin;rw[xcp,xcp,zky,zky,xcj];refine m.fin (.refl _) ?_;rcases h with rfl | rfl
 ·rw[xgx (by simp),xkj];exact T.ob.drop _
 ·rw[xgx (as:=b.toList) (by simp),xdw];exact T.oa.drop _
theorem ML.lastA (T:Two R a.toList b.toList) (m:ML R (a.toList++b.toList) out.toList (a.toList.drop ia++b.toList.drop ib)) (h:ia+1=a.size):Fin R a.toList b.toList (out++b.extract ib++a.extract ia):=by
 unfold Fin;rw[xcp,xcp,zky,zky,xcj];refine m.fin xft (xfc.mpr ⟨T.ob.drop _,T.oa.drop _,fun v hv z hz=>?_⟩);obtain ⟨j,hj,e⟩:=zw hz;have hj2:j < a.size:=by have:=(xbl.mp e).1;simpa using this
 have:j=a.toList.length - 1:=xdg (xcr (by rw[xbx];exact hj2)) (by rw[xbx,← h];exact hj);subst this;exact T.last z e v (xhh hv)
noncomputable def setG':Nat->StateT SortSt Sem Unit:=sortPriv% PySem.Builtin.setMinGallop
theorem zpv {g:Nat} {st:SortSt} {Q:Unit->SortSt->Prop} (h:∀st',SmG st st'->Q () st'):wpS (model prog w) A E s (setG' g) Q st :=
 xfm (h _ ⟨rfl,rfl,rfl,rfl⟩)
theorem zbgj {α:Type} {K:Nat->StateT SortSt Sem α} {Q:α->SortSt->Prop} {st:SortSt} (h:∀v,wpS (model prog w) A E s (K v) Q st):∀y x:Nat,wpS (model prog w) A E s (if y > 1 then K x else K y) Q st:=fun y x=>by
 by_cases e:y > 1
 ·rw[if_pos e];exact h x
 ·rw[if_neg e];exact h y
theorem zbgl {α:Type} {c c2:Prop} [Decidable c] [Decidable c2] {X Y Y':StateT SortSt Sem α} {Q:α->SortSt->Prop} {st:SortSt} (hY:¬c->Y'=Y) (h1:c->c2->wpS (model prog w) A E s X Q st) (h2:(c->¬c2)->wpS (model prog w) A E s Y Q st):wpS (model prog w) A E s (if c then (if c2 then X else Y) else Y') Q st:=by
 by_cases e:c
 ·rw[if_pos e];by_cases e2:c2
  ·rw[if_pos e2];exact h1 e e2
  ·rw[if_neg e2];exact h2 fun _=>e2
 ·rw[if_neg e,hY e];exact h2 fun z=>absurd z e
theorem zws {α:Type} {c c2 c3:Prop} [Decidable c] [Decidable c2] [Decidable c3] {X X3 Y Y':StateT SortSt Sem α} {Q:α->SortSt->Prop} {st:SortSt} (hY:¬c->Y'=Y) (h1:c->c2->wpS (model prog w) A E s X Q st) (h3:c->c3->wpS (model prog w) A E s X3 Q st) (h2:(c->¬c2/\¬c3)->wpS (model prog w) A E s Y Q st):wpS (model prog w) A E s (if c then (if c2 then X else if c3 then X3 else Y) else Y') Q st:=by
 by_cases e:c
 ·rw[if_pos e];by_cases e2:c2
  ·rw[if_pos e2];exact h1 e e2
  ·rw[if_neg e2];by_cases e3:c3
   ·rw[if_pos e3];exact h3 e e3
   ·rw[if_neg e3];exact h2 fun _=>⟨e2,e3⟩
 ·rw[if_neg e,hY e];exact h2 fun z=>absurd z e
theorem zbgk {α:Type} {c c2:Prop} [Decidable c] [Decidable c2] {X X2 Y:StateT SortSt Sem α} {Q:α->SortSt->Prop} {st:SortSt} (h1:c->wpS (model prog w) A E s X Q st) (h2:c2->wpS (model prog w) A E s X2 Q st) (h3:¬c->¬c2->wpS (model prog w) A E s Y Q st):wpS (model prog w) A E s (if c then X else if c2 then X2 else Y) Q st:=by
 by_cases e:c
 ·rw[if_pos e];exact h1 e
 ·rw[if_neg e];by_cases e2:c2
  ·rw[if_pos e2];exact h2 e2
  ·rw[if_neg e2];exact h3 e e2
theorem w_if {α:Type} {c:Prop} [Decidable c] {X Y:StateT SortSt Sem α} {Q:α->SortSt->Prop} {st:SortSt} (h1:c->wpS (model prog w) A E s X Q st) (h2:¬c->wpS (model prog w) A E s Y Q st):wpS (model prog w) A E s (if c then X else Y) Q st:=by
 by_cases e:c
 ·rw[if_pos e];exact h1 e
 ·rw[if_neg e];exact h2 e
theorem w_el {α:Type} {arr:Array Keyed} {i:Nat} {x:Keyed} {f:Keyed->StateT SortSt Sem α} {Q:α->SortSt->Prop} {st:SortSt} (e:arr[i]?=some x) (h:wpS (model prog w) A E s (f x) Q st):wpS (model prog w) A E s (elem' arr i >>= f) Q st:=xbf (zic e h)
theorem zwr {α:Type} {x y:Keyed} {f:Option Bool->StateT SortSt Sem α} {Q:α->SortSt->Prop} {st:SortSt} (O:Orc prog w A s κ a₀ R) (hk:kindOf st=κ) (hx:x∈a₀.toList) (hy:y∈a₀.toList) (h1:R x < R y->wpS (model prog w) A E s (f (some true)) Q st) (h2:R y<=R x->wpS (model prog w) A E s (f (some false)) Q st):wpS (model prog w) A E s (lt' x y >>= f) Q st:=by
 refine xbf (w_lt O hk hx hy ?_);by_cases c:R x < R y
 ·rw[xdc c];exact h1 c
 ·rw[xci c];exact h2 (xbs c)
inductive Dn {β:Type} (R:Keyed->Nat) (a b:Array Keyed) (st:SortSt):Option (Array Keyed) × β->SortSt->Prop where
 | mk {r:Array Keyed} {z:β} {st':SortSt} (sm:SmG st st') (f:Fin R a.toList b.toList r):Dn R a b st (some r,z) st'
inductive L1 (R:Keyed->Nat) (a b:Array Keyed) (st:SortSt) (x:Nat):Option (Array Keyed) × Array Keyed × Nat × Nat × Nat->SortSt->Prop where
 | mk {out:Array Keyed} {ia ib g:Nat} {st':SortSt} (sm:SmG st st') (m:ML R (a.toList++b.toList) out.toList (a.toList.drop ia++b.toList.drop ib)) (ha:ia+1 < a.size) (hb:ib < b.size) (hx:x < ia+ib):L1 R a b st x (none,out,ia,ib,g) st'
inductive L2' (R:Keyed->Nat) (a b:Array Keyed) (st:SortSt) (x:Nat):Option (Array Keyed) × Array Keyed × Nat × Nat × Nat × Nat->SortSt->Prop where
 | mk {out:Array Keyed} {ia ib ac bc:Nat} {st':SortSt} (sm:SmG st st') (m:ML R (a.toList++b.toList) out.toList (a.toList.drop ia++b.toList.drop ib)) (ha:ia+1 < a.size) (hb:ib < b.size) (hx:x<=ia+ib):L2' R a b st x (none,out,ia,ib,ac,bc) st'
inductive L3 (R:Keyed->Nat) (a b:Array Keyed) (st:SortSt) (x:Nat):Option (Array Keyed) × Array Keyed × Nat × Nat × Nat × Nat × Nat->SortSt->Prop where
 | mk {out:Array Keyed} {ia ib g ac bc:Nat} {st':SortSt} (sm:SmG st st') (m:ML R (a.toList++b.toList) out.toList (a.toList.drop ia++b.toList.drop ib)) (ha:ia+1 < a.size) (hb:ib < b.size) (hx:x<=ia+ib):L3 R a b st x (none,out,ia,ib,g,ac,bc) st'
theorem zpx {st:SortSt} {Q:Array Keyed->SortSt->Prop} (O:Orc prog w A s κ a₀ R) (hk:kindOf st=κ) (ma:∀x∈a.toList,x∈a₀.toList) (mb:∀x∈b.toList,x∈a₀.toList) (T:Two R a.toList b.toList) (ha:1<=a.size) (hb:1<=b.size)
  (fst:∀y,b.toList[0]?=some y->∀x∈a.toList,R y<=R x) (h:∀r st',SmG st st'->Fin R a.toList b.toList r->Q r st'):wpS (model prog w) A E s (mergeLo' a b) Q st:=by
 have atA:∀(i:Nat) (hi:i < a.size),a[i]?=some a[i]/\a.toList[i]?=some a[i]/\a[i]∈a₀.toList:=fun i hi=>⟨getElem?_pos a i hi,by rw[xcf];exact getElem?_pos a i hi,ma _ (by simp)⟩
 have atB:∀(i:Nat) (hi:i < b.size),b[i]?=some b[i]/\b.toList[i]?=some b[i]/\b[i]∈a₀.toList:=fun i hi=>⟨getElem?_pos b i hi,by rw[xcf];exact getElem?_pos b i hi,mb _ (by simp)⟩
 have upA:∀i,UpA R a i (i+(a.size - i)):=fun i p q a1 a2 a3=>by
  have hq:q < a.size:=by lia
  have e1:=(atA p (by lia)).2.1;have e2:=(atA q hq).2.1;rw[zbe e1,zbe e2];exact T.oa.at e1 e2 a2
 have upB:∀i,UpA R b i (i+(b.size - i)):=fun i p q a1 a2 a3=>by
  have hq:q < b.size:=by lia
  have e1:=(atB p (by lia)).2.1;have e2:=(atB q hq).2.1;rw[zbe e1,zbe e2];exact T.ob.at e1 e2 a2
 obtain ⟨y0,f0,f1⟩:∃x,b[0]?=some x/\b.toList[0]?=some x:=⟨_,(atB 0 hb).1,(atB 0 hb).2.1⟩
 have start:ML R (a.toList++b.toList) (#[y0]:Array Keyed).toList (a.toList.drop 0++b.toList.drop 1):=by
  have z:ML R (a.toList++b.toList) (#[]:Array Keyed).toList (a.toList.drop 0++b.toList.drop 0):=⟨by simp,List.Pairwise.nil,by simp⟩
  exact z.pushB T f1 fun x hx=>fst y0 f1 x (xhh hx)
 refine xbf (xix (xhk ⟨rfl,xbf (zic f0 (zbgk (fun c1=>?_) (fun c2=>?_) fun c1 c2=>?_))⟩))
 ·exact xbi (h _ _ (.refl _) (start.done T (.inr (by simpa using c1))))
 ·exact xbi (h _ _ (.refl _) (start.lastA T (by simpa using c2)))
 simp only[xew] at c1 c2;refine xbf (xgo ?_);refine xbf (xeg (xcz (I:=L1 R a b st) (Q:=Dn R a b st) ?_ ?_ (.mk (.refl _) start (by lia) (by lia) (by lia))) ?_)
 ·rintro x c st1 x1 x2 @⟨out,ia,ib,g,st1,sm1,m,ha1,hb1,hx⟩;dsimp only;refine xbf (xeg (xcz (I:=fun _=>L2' R a b st (ia+ib)) (Q:=fun c st'=>Dn R a b st c st'\/L2' R a b st (ia+ib) c st') ?_ ?_ (.mk sm1 m ha1 hb1 (xbe _))) ?_)
  ·rintro x' c st2 _ _ @⟨out,ia',ib',ac,bc,st2,sm2,m,ha2,hb2,hp⟩;dsimp only;have ea:=(atA ia' (xea ha2)).1;have ela:=(atA ia' (xea ha2)).2.1;have mea:=(atA ia' (xea ha2)).2.2;have eb:=(atB ib' hb2).1;have elb:=(atB ib' hb2).2.1;have meb:=(atB ib' hb2).2.2;refine w_el eb (w_el ea (zwr O (sm2.kind.trans hk) meb mea (fun cw=>w_el eb ?_) fun cw=>w_el ea ?_))
   ·skip
    have m2:=m.pushB T elb fun z hz=>by
     obtain ⟨j,hj,e⟩:=zw hz;exact xbb (xbn cw) (T.oa.at ela e hj)
    refine w_if (fun c5=>xbi (.inl (.mk sm2 (m2.done T (.inr (eq_of_beq c5)))))) fun c5=>?_
    rw[xew] at c5;have hb3:ib'+1 < b.size:=xco hb2 c5;have hp3:ia+ib<=ia'+(ib'+1):=xff hp;exact w_if (fun _=>xbi (.inr (.mk sm2 m2 ha2 hb3 hp3))) fun _=>xbi (.mk sm2 m2 ha2 hb3 hp3)
   ·skip
    have m2:=m.pushA T ela fun z hz=>by
     obtain ⟨j,hj,e⟩:=zw hz;exact xbb cw (T.ob.at elb e hj)
    refine w_if (fun c5=>xbi (.inl (.mk sm2 (m2.lastA T (eq_of_beq c5))))) fun c5=>?_
    rw[xew] at c5;have ha3:ia'+1+1 < a.size:=xco ha2 c5;have hp3:ia+ib<=ia'+1+ib':=Nat.succ_add ia' ib' ▸ xff hp
    exact w_if (fun _=>xbi (.inr (.mk sm2 m2 ha3 hb2 hp3))) fun _=>xbi (.mk sm2 m2 ha3 hb2 hp3)
  ·exact fun c st2 k=>.inr k
  ·rintro c st2 (⟨sm2,f⟩ | @⟨out,ia',ib',ac,bc,st2,sm2,m,ha2,hb2,hp⟩)
   ·exact xbi (.mk sm2 f)
   ·dsimp only;refine xbf (xix (xhk ⟨rfl,?_⟩));refine xbf (xeg (xcz (I:=fun x'=>L3 R a b st (ia+ib+x')) (Q:=fun c st'=>Dn R a b st c st'\/L3 R a b st (ia+ib+1) c st') ?_ ?_ (.mk sm2 m ha2 hb2 hp)) ?_)
    ·rintro x' c st3 _ x2' @⟨out,ia',ib',g',ac,bc,st3,sm3,m,ha2,hb2,hp⟩;dsimp only;have eb:=(atB ib' hb2).1;have elb:=(atB ib' hb2).2.1;have meb:=(atB ib' hb2).2.2;generalize g' - 1=g1;generalize g'=y;revert g1;revert y
     refine zbgj ?_;intro gg;refine xbf (zpv fun st4 sg=>?_);have sm4:=sm3.trans sg;refine w_el eb (xbf (zeg O (sm4.kind.trans hk) meb (fun i hi=>⟨_,(atA (ia'+i) (xdh hi)).1,(atA (ia'+i) (xdh hi)).2.2⟩) (xen (xea ha2)) (upA ia') fun k1 cut1=>?_));have m5:=(m.galA T elb cut1).1;have u5:=(m.galA T elb cut1).2;have hk1:=cut1.1;dsimp only;refine zws (fun c6=>?_) (fun c6 c7=>?_) (fun c6 c8=>?_) fun hh=>?_
     ·have z:k1=0:=Nat.le_zero.mp (xbs c6);subst z;simp only[xji,xhd (xgs _ _),xgt]
     ·exact xbi (.inl (.mk sm4 (m5.lastA T (eq_of_beq c7))))
     ·exact xbi (.inl (.mk sm4 (m5.done T (.inl (eq_of_beq c8)))))
     have ha5:ia'+k1+1 < a.size:=by
      by_cases c6:k1 > 0
      ·have:=hh c6;simp at this;lia
      ·lia
     have hp5:ia+ib+x'<=ia'+k1+ib':=xbb hp (Nat.add_le_add_right (xbr _ _) _);clear hh;generalize ia'+k1=ia5 at m5 u5 ha5 hp5 ⊢;generalize out++a.extract ia' ia5=out5 at m5 ⊢;have m6:=m5.pushB T elb u5;have ea:=(atA _ (xea ha5)).1;have ela:=(atA _ (xea ha5)).2.1;have mea:=(atA _ (xea ha5)).2.2;refine w_el eb (w_if (fun c9=>xbi (.inl (.mk sm4 (m6.done T (.inr (eq_of_beq c9)))))) fun c9=>w_el ea ?_);rw[xew] at c9;refine xbf (zeg O (sm4.kind.trans hk) mea (fun i hi=>⟨_,(atB (ib'+1+i) (xdh hi)).1,(atB (ib'+1+i) (xdh hi)).2.2⟩) (xen (xco hb2 c9)) (upB (ib'+1)) fun k2 cut2=>?_);have m7:=(m6.galB T ela cut2).1;have u7:=(m6.galB T ela cut2).2;have hk2:=cut2.1;dsimp only;refine zbgl (fun d6=>?_) (fun d6 d7=>?_) fun hh=>?_
     ·have z2:k2=0:=Nat.le_zero.mp (xbs d6);subst z2;simp only[xji,xhd (xgs _ _),xgt]
     ·exact xbi (.inl (.mk sm4 (m7.done T (.inr (eq_of_beq d7)))))
     have h20:ib'+1+k2≠b.size:=by
      by_cases d6:k2 > 0
      ·have:=hh d6;simp at this;lia
      ·lia
     have m8:=m7.pushA T ela u7;refine w_el ea (w_if (fun d8=>xbi (.inl (.mk sm4 (m8.lastA T (eq_of_beq d8))))) fun d8=>?_);rw[xew] at d8;have ha9:ia5+1+1 < a.size:=xco ha5 d8;have hb9:ib'+1+k2 < b.size:=by lia
     have hp9:ia+ib+(x'+1)<=ia5+1+(ib'+1+k2):=by lia
     exact w_if (fun _=>xbi (.inr (.mk sm4 m8 ha9 hb9 (xbb (xby (xki 1 x') _) hp9)))) fun _=>xbi (.mk sm4 m8 ha9 hb9 hp9)
    ·rintro c st3 ⟨sm3,m,ha2,hb2,hp⟩;exact .inr (.mk sm3 m ha2 hb2 (by lia))
    ·rintro c st3 (⟨sm3,f⟩ | ⟨sm3,m,ha2,hb2,hp⟩)
     ·exact xbi (.mk sm3 f)
     ·exact xbf (zpv fun st4 sg=>xbi (.mk (sm3.trans sg) m ha2 hb2 (xbd (Nat.succ_lt_succ hx) hp)))
 ·rintro c st1 ⟨sm1,m,ha1,hb1,hx⟩;lia
 ·rintro c st1 ⟨sm1,f⟩;exact xbi (h _ st1 sm1 f)
end
structure MH (R:Keyed->Nat) (all out rest:List Keyed):Prop where
 perm:(rest++out.reverse).Perm all
 ord:Ord R out.reverse
 le:∀x∈rest,∀y∈out,R x<=R y
section
variable {R:Keyed->Nat}
theorem MH.grow {all out rest xs rest':List Keyed} (m:MH R all out rest) (p:rest.Perm (rest'++xs.reverse)) (o:Ord R xs.reverse) (h:∀x∈rest',∀y∈xs,R x<=R y):MH R all (out++xs) rest':=by
 refine ⟨?_,?_,fun x hx y hy=>?_⟩
 ·rw[List.reverse_append,← xcj];exact (xgw _ p.symm).trans m.perm
 ·rw[List.reverse_append];exact xfc.mpr ⟨o,m.ord,fun x hx y hy=>m.le x (p.mem_iff.mpr (xcu _ hx)) y (xiw.mp hy)⟩
 ·rcases xbz.mp hy with hy | hy
  ·exact m.le x (p.mem_iff.mpr (xga _ hx)) y hy
  ·exact h x hx y hy
theorem MH.fin {all out rest rest':List Keyed} (m:MH R all out rest) (p:rest'.Perm rest) (o:Ord R rest'):(rest'++out.reverse).Perm all/\Ord R (rest'++out.reverse) :=
 ⟨(xgw _ p).trans m.perm,xfc.mpr ⟨o,m.ord,fun x hx y hy=>m.le x (p.mem_iff.mp hx) y (xiw.mp hy)⟩⟩
theorem zfe {l:List Keyed} {i:Nat} {x:Keyed} (h:l[i]?=some x):l.take (i+1)=l.take i++[x]:=by
 obtain ⟨h1,rfl⟩:=xbl.mp h;exact xgf h1
structure TwoH (R:Keyed->Nat) (la lb:List Keyed):Prop where
 oa:Ord R la
 ob:Ord R lb
 first:∀y,lb[0]?=some y->∀x∈la,R y<=R x
variable {la lb all:List Keyed} {out:Array Keyed} {na nb:Nat}
theorem MH.pushB (T:TwoH R la lb) (m:MH R all out.toList (la.take na++lb.take (nb+1))) {y:Keyed} (hy:lb[nb]?=some y) (h:∀z∈la.take na,R z<=R y):MH R all (out.push y).toList (la.take na++lb.take nb):=by
 rw[xeo];refine m.grow ?_ (by simp) fun z hz w hw=>?_
 ·rw[zfe hy];simp
 ·simp at hw;subst hw
  rcases xbz.mp hz with hz | hz
  ·exact h z hz
  ·obtain ⟨j,hj,e⟩:=zo hz;exact T.ob.at e hy (by lia)
theorem MH.pushA (T:TwoH R la lb) (m:MH R all out.toList (la.take (na+1)++lb.take nb)) {x:Keyed} (hx:la[na]?=some x) (h:∀z∈lb.take nb,R z<=R x):MH R all (out.push x).toList (la.take na++lb.take nb):=by
 rw[xeo];refine m.grow ?_ (by simp) fun z hz w hw=>?_
 ·rw[zfe hx];simp only[List.reverse_singleton,xcj];exact xfs _ xft
 ·simp at hw;subst hw
  rcases xbz.mp hz with hz | hz
  ·obtain ⟨j,hj,e⟩:=zo hz;exact T.oa.at e hx (by lia)
  ·exact h z hz
end
section
variable {prog:Program} {w:World} {A:Around} {E:Value->Shared->Prop} {s:Shared} {κ:SortKind} {a₀:Array Keyed} {R:Keyed->Nat} {a b out:Array Keyed} {na nb k:Nat} {y x:Keyed} {all:List Keyed}
theorem zpd (l:List Keyed) {k n:Nat} (h:k<=n):l.take n=l.take k++(l.drop k).take (n - k):=by
 conv=>lhs;rw[show n=k+(n - k) by lia,List.take_add]
theorem MH.galA (T:TwoH R a.toList b.toList) (m:MH R all out.toList (a.toList.take na++b.toList.take (nb+1))) (hy:b.toList[nb]?=some y) (hn:na<=a.size) (c:Cut false R y a 0 na k):MH R all (out++(a.extract k na).reverse).toList (a.toList.take k++b.toList.take (nb+1))/\∀z∈a.toList.take k,R z<=R y:=by
 have low:∀z∈a.toList.take k,R z<=R y:=fun z hz=>by
  obtain ⟨j,hj,e⟩:=zo hz;have:=c.2.1 j hj;rw[xdi,zbe e] at this;exact this
 have up:∀z∈(a.toList.drop k).take (na - k),R y<=R z:=fun z hz=>by
  obtain ⟨j,hj,e⟩:=zo hz;rw[xfa] at e;have:=c.2.2 (k+j) (by lia) (by lia);rw[xdi,zbe e] at this;exact xbn this
 refine ⟨?_,low⟩;rw[xcp,xhi,zbm];refine m.grow ?_ (by rw[xhj];exact (T.oa.drop k).take _) fun v hv z hz=>?_
 ·rw[xhj,zpd a.toList c.1,xcj,xcj];exact xfs _ xft
 ·have hz:=up z (xiw.mp hz);rcases xbz.mp hv with hv | hv
  ·exact xbb (low v hv) hz
  ·obtain ⟨j,hj,e⟩:=zo hv;exact xbb (T.ob.at e hy (by lia)) hz
theorem MH.galB (T:TwoH R a.toList b.toList) (m:MH R all out.toList (a.toList.take (na+1)++b.toList.take nb)) (hx:a.toList[na]?=some x) (hn:nb<=b.size) (c:Cut true R x b 0 nb k):MH R all (out++(b.extract k nb).reverse).toList (a.toList.take (na+1)++b.toList.take k)/\∀z∈b.toList.take k,R z<=R x:=by
 have low:∀z∈b.toList.take k,R z<=R x:=fun z hz=>by
  obtain ⟨j,hj,e⟩:=zo hz;have:=c.2.1 j hj;rw[xdi,zbe e] at this;exact xbn this
 have up:∀z∈(b.toList.drop k).take (nb - k),R x<=R z:=fun z hz=>by
  obtain ⟨j,hj,e⟩:=zo hz;rw[xfa] at e;have:=c.2.2 (k+j) (by lia) (by lia);rw[xdi,zbe e] at this;exact this
 refine ⟨?_,low⟩;rw[xcp,xhi,zbm];refine m.grow ?_ (by rw[xhj];exact (T.ob.drop k).take _) fun v hv z hz=>?_
 ·rw[xhj,zpd b.toList c.1,xcj]
 ·have hz:=up z (xiw.mp hz);rcases xbz.mp hv with hv | hv
  ·obtain ⟨j,hj,e⟩:=zo hv;exact xbb (T.oa.at e hx (by lia)) hz
  ·exact xbb (low v hv) hz
theorem zhu (xs:Array Keyed) (n:Nat):(xs.extract 0 n).toList=xs.toList.take n:=by
 rw[zbm,List.drop_zero,Nat.sub_zero]
theorem MH.done (T:TwoH R a.toList b.toList) (m:MH R (a.toList++b.toList) out.toList (a.toList.take na++b.toList.take nb)) (h:na=0\/nb=0):Fin R a.toList b.toList (a.extract 0 na++b.extract 0 nb++out.reverse):=by
 unfold Fin;rw[xcp,xcp,zhu,zhu,xhi];refine m.fin (.refl _) ?_;rcases h with rfl | rfl
 ·rw[List.take_zero,xkj];exact T.ob.take _
 ·rw[List.take_zero,xdw];exact T.oa.take _
theorem MH.firstB (T:TwoH R a.toList b.toList) (m:MH R (a.toList++b.toList) out.toList (a.toList.take na++b.toList.take nb)) (h:nb=1):Fin R a.toList b.toList (b.extract 0 nb++a.extract 0 na++out.reverse):=by
 unfold Fin;rw[xcp,xcp,zhu,zhu,xhi];refine m.fin xft (xfc.mpr ⟨T.ob.take _,T.oa.take _,fun v hv z hz=>?_⟩);obtain ⟨j,hj,e⟩:=zo hv;have:j=0:=by lia
 subst this;exact T.first v e z (xgc hz)
inductive H1 (R:Keyed->Nat) (a b:Array Keyed) (st:SortSt) (x:Nat):Option (Array Keyed) × Nat × Nat × Array Keyed × Nat->SortSt->Prop where
 | mk {na nb:Nat} {out:Array Keyed} {g:Nat} {st':SortSt} (sm:SmG st st') (m:MH R (a.toList++b.toList) out.toList (a.toList.take na++b.toList.take nb)) (a1:1<=na) (a2:na<=a.size) (b1:2<=nb) (b2:nb<=b.size) (hx:x+na+nb < a.size+b.size):H1 R a b st x (none,na,nb,out,g) st'
inductive H2 (R:Keyed->Nat) (a b:Array Keyed) (st:SortSt) (x:Nat):Option (Array Keyed) × Nat × Nat × Array Keyed × Nat × Nat->SortSt->Prop where
 | mk {na nb:Nat} {out:Array Keyed} {ac bc:Nat} {st':SortSt} (sm:SmG st st') (m:MH R (a.toList++b.toList) out.toList (a.toList.take na++b.toList.take nb)) (a1:1<=na) (a2:na<=a.size) (b1:2<=nb) (b2:nb<=b.size) (hx:na+nb<=x):H2 R a b st x (none,na,nb,out,ac,bc) st'
inductive H3 (R:Keyed->Nat) (a b:Array Keyed) (st:SortSt) (x y:Nat):Option (Array Keyed) × Nat × Nat × Array Keyed × Nat × Nat × Nat->SortSt->Prop where
 | mk {na nb:Nat} {out:Array Keyed} {g ac bc:Nat} {st':SortSt} (sm:SmG st st') (m:MH R (a.toList++b.toList) out.toList (a.toList.take na++b.toList.take nb)) (a1:1<=na) (a2:na<=a.size) (b1:2<=nb) (b2:nb<=b.size) (hx:y+na+nb<=x):H3 R a b st x y (none,na,nb,out,g,ac,bc) st'
theorem zpy {st:SortSt} {Q:Array Keyed->SortSt->Prop} (O:Orc prog w A s κ a₀ R) (hk:kindOf st=κ) (ma:∀x∈a.toList,x∈a₀.toList) (mb:∀x∈b.toList,x∈a₀.toList) (T:TwoH R a.toList b.toList) (ha:1<=a.size) (hb:1<=b.size)
  (lst:∀x,a.toList[a.size - 1]?=some x->∀y∈b.toList,R y<=R x) (h:∀r st',SmG st st'->Fin R a.toList b.toList r->Q r st'):wpS (model prog w) A E s (mergeHi' a b) Q st:=by
 have atA:∀(i:Nat) (hi:i < a.size),a[i]?=some a[i]/\a.toList[i]?=some a[i]/\a[i]∈a₀.toList:=fun i hi=>⟨getElem?_pos a i hi,by rw[xcf];exact getElem?_pos a i hi,ma _ (by simp)⟩
 have atB:∀(i:Nat) (hi:i < b.size),b[i]?=some b[i]/\b.toList[i]?=some b[i]/\b[i]∈a₀.toList:=fun i hi=>⟨getElem?_pos b i hi,by rw[xcf];exact getElem?_pos b i hi,mb _ (by simp)⟩
 have upA:∀n,n<=a.size->UpA R a 0 (0+n):=fun n hn p q a1 a2 a3=>by
  have hq:q < a.size:=xbd a3 (xbb (xcw (xdi n)) hn);have e1:=(atA p (xcn a2 hq)).2.1;have e2:=(atA q hq).2.1;rw[zbe e1,zbe e2];exact T.oa.at e1 e2 a2
 have upB:∀n,n<=b.size->UpA R b 0 (0+n):=fun n hn p q a1 a2 a3=>by
  have hq:q < b.size:=xbd a3 (xbb (xcw (xdi n)) hn);have e1:=(atB p (xcn a2 hq)).2.1;have e2:=(atB q hq).2.1;rw[zbe e1,zbe e2];exact T.ob.at e1 e2 a2
 obtain ⟨x0,f0,f1⟩:∃x,a[a.size - 1]?=some x/\a.toList[a.size - 1]?=some x:=⟨_,(atA (a.size - 1) (xgr ha Nat.one_pos)).1,(atA (a.size - 1) (xgr ha Nat.one_pos)).2.1⟩
 have start:MH R (a.toList++b.toList) (#[x0]:Array Keyed).toList (a.toList.take (a.size - 1)++b.toList.take b.size):=by
  have z:MH R (a.toList++b.toList) (#[]:Array Keyed).toList (a.toList.take (a.size - 1+1)++b.toList.take b.size):=by
   refine ⟨?_,List.Pairwise.nil,by simp⟩;rw[xfo ha,xet (by simp),xet (by simp)];simp
  exact z.pushA T f1 fun y hy=>lst x0 f1 y (xgc hy)
 refine xbf (xix (xhk ⟨rfl,xbf (zic f0 (zbgk (fun c1=>?_) (fun c2=>?_) fun c1 c2=>?_))⟩))
 ·exact xbi (h _ _ (.refl _) (start.done T (.inl (by simpa using c1))))
 ·exact xbi (h _ _ (.refl _) (start.firstB T (by simpa using c2)))
 simp only[xew] at c1 c2;refine xbf (xgo ?_);refine xbf (xeg (xcz (I:=H1 R a b st) (Q:=Dn R a b st) ?_ ?_ (.mk (.refl _) start (by lia) (by lia) (by lia) (xbe _) (by lia))) ?_)
 ·rintro x c st1 x1 x2 @⟨na,nb,out,g,st1,sm1,m,a1,a2,b1,b2,hx⟩;dsimp only;refine xbf (xeg (xcz (I:=fun _=>H2 R a b st (na+nb)) (Q:=fun c st'=>Dn R a b st c st'\/H2 R a b st (na+nb) c st') ?_ ?_ (.mk sm1 m a1 a2 b1 b2 (xbe _))) ?_)
  ·rintro x' c st2 _ _ @⟨na',nb',out,ac,bc,st2,sm2,m,g1,g2,g3,g4,hp⟩;obtain ⟨p,rfl⟩:∃p,na'=p+1:=⟨na' - 1,(xfo g1).symm⟩
   obtain ⟨q,rfl⟩:∃q,nb'=q+1:=⟨nb' - 1,(xfo (xct g3)).symm⟩
   dsimp only;have ea:=(atA p g2).1;have ela:=(atA p g2).2.1;have mea:=(atA p g2).2.2;have eb:=(atB q g4).1;have elb:=(atB q g4).2.1;have meb:=(atB q g4).2.2;refine w_el eb (w_el ea (zwr O (sm2.kind.trans hk) meb mea (fun cw=>w_el ea ?_) fun cw=>w_el eb ?_))
   ·skip
    have m2:=m.pushA T ela fun z hz=>by
     obtain ⟨j,hj,e⟩:=zo hz;exact xbb (T.ob.at e elb (xck hj)) (xbn cw)
    refine w_if (fun c5=>xbi (.inl (.mk sm2 (m2.done T (.inl (eq_of_beq c5)))))) fun c5=>?_
    rw[xew] at c5;have a3:1<=p:=xjo c5;have a4:p<=a.size:=xct g2;have a5:p+(q+1)<=na+nb:=xbb (Nat.add_le_add_right (Nat.le_succ p) _) hp;exact w_if (fun _=>xbi (.inr (.mk sm2 m2 a3 a4 g3 g4 a5))) fun _=>xbi (.mk sm2 m2 a3 a4 g3 g4 a5)
   ·skip
    have m2:=m.pushB T elb fun z hz=>by
     obtain ⟨j,hj,e⟩:=zo hz;exact xbb (T.oa.at e ela (xck hj)) cw
    refine w_if (fun c5=>xbi (.inl (.mk sm2 (m2.firstB T (eq_of_beq c5))))) fun c5=>?_
    rw[xew] at c5;have a3:2<=q:=xco (Nat.le_of_succ_le_succ g3) (xej c5);have a4:q<=b.size:=xct g4;have a5:p+1+q<=na+nb:=xct hp;exact w_if (fun _=>xbi (.inr (.mk sm2 m2 g1 g2 a3 a4 a5))) fun _=>xbi (.mk sm2 m2 g1 g2 a3 a4 a5)
  ·exact fun c st2 k=>.inr k
  ·rintro c st2 (⟨sm2,f⟩ | @⟨na',nb',out,ac,bc,st2,sm2,m,g1,g2,g3,g4,hp⟩)
   ·exact xbi (.mk sm2 f)
   ·dsimp only;refine xbf (xix (xhk ⟨rfl,?_⟩));refine xbf (xeg (xcz (I:=H3 R a b st (na+nb)) (Q:=fun c st'=>Dn R a b st c st'\/H3 R a b st (na+nb) 1 c st') ?_ ?_ (.mk sm2 m g1 g2 g3 g4 (by rw[xdi];exact hp))) ?_)
    ·rintro x' c st3 _ x2' @⟨na',nb',out,g',ac,bc,st3,sm3,m,g1,g2,g3,g4,hp⟩;obtain ⟨q,rfl⟩:∃q,nb'=q+1:=⟨nb' - 1,(xfo (xct g3)).symm⟩
     dsimp only;have eb:=(atB q g4).1;have elb:=(atB q g4).2.1;have meb:=(atB q g4).2.2;generalize g' - 1=g1;generalize g'=y;revert g1;revert y
     refine zbgj ?_;intro gg;refine xbf (zpv fun st4 sg=>?_);have sm4:=sm3.trans sg;refine w_el eb (xbf (zeg O (sm4.kind.trans hk) meb (fun i hi=>⟨_,(atA (0+i) (by lia)).1,(atA (0+i) (by lia)).2.2⟩) (by lia) (upA na' g2) fun k1 cut1=>?_));have m5:=(m.galA T elb g2 cut1).1;have u5:=(m.galA T elb g2 cut1).2;have hk1:=cut1.1;dsimp only;refine zbgl (fun c6=>?_) (fun c6 c7=>?_) fun hh=>?_
     ·have z:k1=na':=by lia
      subst z;rw[show out++(a.extract k1 k1).reverse=out by simp[xgs]]
     ·exact xbi (.inl (.mk sm4 (m5.done T (.inl (eq_of_beq c7)))))
     have g5:1<=k1:=by
      by_cases c6:na' - k1 > 0
      ·have:=hh c6;simp at this;lia
      ·lia
     have g6:k1<=a.size:=xbb hk1 g2;have hp5:x'+k1+(q+1)<=na+nb:=by lia
     clear hh hk1 cut1;generalize out++(a.extract k1 na').reverse=out5 at m5 ⊢;obtain ⟨p,rfl⟩:∃p,k1=p+1:=⟨k1 - 1,(xfo g5).symm⟩
     simp only[Nat.add_sub_cancel];have m6:=m5.pushB T elb u5;have ea:=(atA p g6).1;have ela:=(atA p g6).2.1;have mea:=(atA p g6).2.2;refine w_el eb (w_if (fun c9=>xbi (.inl (.mk sm4 (m6.firstB T (eq_of_beq c9))))) fun c9=>w_el ea ?_);rw[xew] at c9;refine xbf (zeg O (sm4.kind.trans hk) mea (fun i hi=>⟨_,(atB (0+i) (by lia)).1,(atB (0+i) (by lia)).2.2⟩) (by lia) (upB q (xct g4)) fun k2 cut2=>?_);have m7:=(m6.galB T ela (xct g4) cut2).1;have u7:=(m6.galB T ela (xct g4) cut2).2;have hk2:=cut2.1;dsimp only;refine zws (fun d6=>?_) (fun d6 d7=>?_) (fun d6 d9=>?_) fun hh=>?_
     ·have z2:k2=q:=by lia
      subst z2;simp only[xhd (xbb (xgs _ _) (xbe _)),Array.reverse_empty,xgt]
     ·exact xbi (.inl (.mk sm4 (m7.firstB T (eq_of_beq d7))))
     ·exact xbi (.inl (.mk sm4 (m7.done T (.inr (eq_of_beq d9)))))
     have h20:2<=k2:=by
      by_cases d6:q - k2 > 0
      ·have:=hh d6;simp at this;lia
      ·lia
     have m8:=m7.pushA T ela u7;refine w_el ea (w_if (fun d8=>xbi (.inl (.mk sm4 (m8.done T (.inl (eq_of_beq d8)))))) fun d8=>?_);rw[xew] at d8;have a3:1<=p:=xjo d8;have a4:p<=a.size:=xct g6;have a5:k2<=b.size:=xbb hk2 (xct g4);have a6:x'+1+p+k2<=na+nb:=by lia
     exact w_if (fun _=>xbi (.inr (.mk sm4 m8 a3 a4 h20 a5 (by lia)))) fun _=>xbi (.mk sm4 m8 a3 a4 h20 a5 a6)
    ·rintro c st3 ⟨sm3,m,g1,g2,g3,g4,hp⟩;exact .inr (.mk sm3 m g1 g2 g3 g4 (by lia))
    ·rintro c st3 (⟨sm3,f⟩ | @⟨na',nb',out,g',ac,bc,st3,sm3,m,g1,g2,g3,g4,hp⟩)
     ·exact xbi (.mk sm3 f)
     ·have h9:x+1+na'+nb' < a.size+b.size:=by lia
      exact xbf (zpv fun st4 sg=>xbi (.mk (sm3.trans sg) m g1 g2 g3 g4 h9))
 ·rintro c st1 ⟨sm1,m,a1,a2,b1,b2,hx⟩;lia
 ·rintro c st1 ⟨sm1,f⟩;exact xbi (h _ st1 sm1 f)
end
theorem znj:∀(l:List Keyed) (n off:Nat) (xs:Array Keyed),off+n+l.length<=xs.size->∀i,((l.zipIdx n).foldl (fun a p=>a.setIfInBounds (off+p.2) p.1) xs)[i]?=if off+n<=i/\i < off+n+l.length then l[i - (off+n)]? else xs[i]?
 | [],n,off,xs,h,i=>by
  rw[if_neg (by simp)]
  rfl
 | x::l,n,off,xs,h,i=>by
  rw[List.zipIdx_cons,xjj];rw[xcd] at h;have e1:off+(n+1)+l.length=off+n+(l.length+1):=Nat.succ_add_eq_add_succ (off+n) l.length;rw[znj l (n+1) off _ (by rw[Array.size_setIfInBounds];exact xbb (xcw e1) h) i];rw[xcd];by_cases c:off+(n+1)<=i/\i < off+(n+1)+l.length
  ·rw[if_pos c,if_pos ⟨xct c.1,xfb c.2 e1⟩,show i - (off+n)=i - (off+(n+1))+1 from (xfo (xen c.1)).symm,List.getElem?_cons_succ]
  ·rw[if_neg c];by_cases c2:i=off+n
   ·rw[if_pos ⟨xcw c2.symm,xcn (xcw c2) (xgm (Nat.succ_pos _))⟩,c2,xhc,List.getElem?_cons_zero];exact Array.getElem?_setIfInBounds_self_of_lt (xbd (xgm (Nat.succ_pos l.length)) h)
   ·rw[if_neg fun z=>c ⟨xco z.1 (xej c2),xfb z.2 e1.symm⟩];exact xjc (fun z=>c2 z.symm)
theorem ztz {m xs:Array Keyed} {off:Nat} (h:off+m.size<=xs.size):(m.toList.zipIdx.foldl (fun a p=>a.setIfInBounds (off+p.2) p.1) xs).toList=xs.toList.take off++m.toList++xs.toList.drop (off+m.size):=by
 apply xjv;intro i;rw[xcf,znj m.toList 0 off xs (by simpa using h) i];simp only[xji,xbx];have l1:(xs.toList.take off).length=off:=by rw[xdb,xbx];exact xdq (xbb (xbr _ _) h)
 by_cases c:off<=i/\i < off+m.size
 ·rw[if_pos c,xcj,xch (xbb (xcw l1) c.1),l1,xbv (by rw[xbx];exact xda c.1 c.2)]
 ·rw[if_neg c];by_cases c2:i < off
  ·rw[xcj,xbv (xfb c2 l1.symm),List.getElem?_take,if_pos c2,xcf]
  ·have h3:off+m.size<=i:=xbs fun z=>c ⟨xbs c2,z⟩
   rw[xch (by rw[xbm,l1,xbx];exact h3),xfa];simp only[xbm,l1,xbx];rw[xcc h3,xcf]
section
variable {prog:Program} {w:World} {A:Around} {E:Value->Shared->Prop} {s:Shared} {κ:SortKind} {a₀:Array Keyed} {R:Keyed->Nat}
theorem zsr {xs:Array Keyed} {i j:Nat} (up:UpA R xs i j) (hj:j<=xs.size):Ord R (xs.extract i j).toList:=by
 rw[zbm];refine xhs.mpr fun p q hp hq hpq=>?_
 simp only[xdb,xgd,xbx] at hp hq;simp only[List.getElem_take,List.getElem_drop,Array.getElem_toList];have:=up (i+p) (i+q) (xbr _ _) (xby (xbn hpq) i) (xdh (xbd hq (xgs _ _)));rw[zcr (getElem?_pos xs (i+p) (xdh (xbd hp (xfh _ _)))),zcr (getElem?_pos xs (i+q) (xdh (xbd hq (xfh _ _))))] at this;exact this
theorem zgs {xs:Array Keyed} {i j:Nat} {x:Keyed} (h:x∈(xs.extract i j).toList):∃q,i<=q/\q < j/\xs[q]?=some x:=by
 rw[zbm] at h;obtain ⟨q,hq,e⟩:=zo h;rw[xfa,xcf] at e;exact ⟨i+q,xbr _ _,xdh hq,e⟩
theorem zzk {xs:Array Keyed} {i j q:Nat} (h:q < j - i):(xs.extract i j).toList[q]?=xs[i+q]?:=by
 rw[zbm,List.getElem?_take,if_pos h,xfa,xcf]
structure Mg (R:Keyed->Nat) (xs ys:Array Keyed) (lo hi:Nat):Prop where
 perm:ys.Perm xs
 out:Out ys xs lo hi
 up:UpA R ys lo hi
theorem zrb {xs m:Array Keyed} {sa sb ea k nb':Nat} {y0 xl:Keyed} (hsb:sb<=ea) (hea:ea<=xs.size) (hk:sa+k < sb) (hnb:sb+nb'<=ea) (hnb1:1<=nb') (upA:UpA R xs sa sb) (upB:UpA R xs sb ea)
  (e0:xs[sb]?=some y0) (el:xs[sb - 1]?=some xl) (c1:Cut false R y0 xs sa (sb - sa) k) (c2:Cut true R xl xs sb (ea - sb) nb')
  (f:Fin R (xs.extract (sa+k) sb).toList (xs.extract sb (sb+nb')).toList m):Mg R xs (m.toList.zipIdx.foldl (fun a p=>a.setIfInBounds (sa+k+p.2) p.1) xs) sa ea:=by
 have lx:(xs.extract (sa+k) sb).toList.length=sb - (sa+k):=by rw[zbm,xdb,xgd,xbx];exact xdq (xel (xbb hsb hea) _)
 have ly:(xs.extract sb (sb+nb')).toList.length=nb':=by rw[zbm,xdb,xgd,xbx,xcm];exact xdq (xdv (xbb hnb hea))
 have lm:m.size=sb+nb' - (sa+k):=by
  have:=f.1.length_eq;rw[xbm,lx,ly,xbx] at this;exact this.trans (Nat.sub_add_comm (xbn hk)).symm
 have he:sa+k+m.size=sb+nb':=by rw[lm];exact xcc (xbb (xbn hk) (xbr _ _))
 have hsz:sa+k+m.size<=xs.size:=by rw[he];exact xbb hnb hea
 have hs1:=xcr hk;have s1:sb - 1 < sb:=xgr (xil hk) Nat.one_pos;have g:∀i,(m.toList.zipIdx.foldl (fun a p=>a.setIfInBounds (sa+k+p.2) p.1) xs)[i]?=if sa+k<=i/\i < sb+nb' then m.toList[i - (sa+k)]? else xs[i]?:=fun i=>by
  have:=znj m.toList 0 (sa+k) xs (by simpa using hsz) i;simp only[xji,xbx] at this;rw[he] at this;exact this
 have mid:∀v∈m.toList,R y0<=R v/\R v<=R xl:=fun v hv=>by
  rcases xbz.mp (f.1.mem_iff.mp hv) with hv | hv
  ·obtain ⟨q,q1,q2,e⟩:=zgs hv;have q0:=xbb (xbr _ _) q1;have h1:=c1.2.2 (q - sa) (xdv q1) (xdp q0 q2);rw[xcc q0,zcr e] at h1;have h2:=upA q (sb - 1) q0 (xcr q2) s1;rw[zcr e,zcr el] at h2;have h1':R y0 < R v:=h1;exact ⟨xbn h1',h2⟩
  ·obtain ⟨q,q1,q2,e⟩:=zgs hv;have h1:=upB sb q (xbe _) q1 (xbd q2 hnb);rw[zcr e,zcr e0] at h1;have h2:=c2.2.1 (q - sb) (xda q1 q2);rw[xcc q1,zcr e] at h2;have h2':R v < R xl:=h2;exact ⟨h1,xbn h2'⟩
 have low:∀i,sa<=i->i < sa+k->kA R xs i<=R y0:=fun i a1 a2=>by
  have:=c1.2.1 (i - sa) (xda a1 a2);rw[xcc a1] at this;exact this
 have hig:∀i,sb+nb'<=i->i < ea->R xl<=kA R xs i:=fun i a1 a2=>by
  have i0:=xbb (xbr _ _) a1;have:=c2.2.2 (i - sb) (xdv a1) (xdp i0 a2);rw[xcc i0] at this;exact this
 have kk:∀i,kA R (m.toList.zipIdx.foldl (fun a p=>a.setIfInBounds (sa+k+p.2) p.1) xs) i=if sa+k<=i/\i < sb+nb' then kA R m (i - (sa+k)) else kA R xs i:=fun i=>by
  have:=g i;split
  ·rename_i c;rw[if_pos c,xcf] at this;exact zcp this
  ·rename_i c;rw[if_neg c] at this;exact zcp this
 have mm:∀i,i < m.size->∃v,m.toList[i]?=some v/\v∈m.toList:=fun i hi=>⟨m.toList[i]'(by simpa using hi),xbj _,xex _⟩
 refine ⟨?_,fun i hi=>?_,fun i j a1 a2 a3=>?_⟩
 ·refine xev.mpr ?_;rw[ztz hsz,he];have split:xs.toList=xs.toList.take (sa+k)++((xs.extract (sa+k) sb).toList++(xs.extract sb (sb+nb')).toList)++xs.toList.drop (sb+nb'):=by
   rw[zbm,zbm];rw[xcm]
   conv=>lhs;rw[← xdm (sa+k) xs.toList,← xdm (sb - (sa+k)) (xs.toList.drop (sa+k)),xkm,xcc (xbn hk),← xdm nb' (xs.toList.drop sb),xkm]
   simp only[xcj]
  conv=>rhs;rw[split]
  exact xgw _ (xfs _ f.1)
 ·rw[g i,if_neg fun z=>hi.elim (fun h=>xds (xbb (xbr sa k) z.1) h) fun h=>xds h (xbd z.2 hnb)]
 ·rw[kk,kk];by_cases ci:sa+k<=i/\i < sb+nb'
  ·rw[if_pos ci];obtain ⟨v,ev,mv⟩:=mm (i - (sa+k)) (by rw[lm];exact xdp ci.1 ci.2);rw[zbe ev];by_cases cj:sa+k<=j/\j < sb+nb'
   ·rw[if_pos cj];obtain ⟨u,eu,mu⟩:=mm (j - (sa+k)) (by rw[lm];exact xdp cj.1 cj.2);rw[zbe eu];exact f.2.at ev eu (xel a2 _)
   ·rw[if_neg cj];exact xbb (mid v mv).2 (hig j (xbs fun z=>cj ⟨xbb ci.1 a2,z⟩) a3)
  ·rw[if_neg ci];by_cases ci2:i < sa+k
   ·have h1:=low i a1 ci2;by_cases cj:sa+k<=j/\j < sb+nb'
    ·rw[if_pos cj];obtain ⟨u,eu,mu⟩:=mm (j - (sa+k)) (by rw[lm];exact xdp cj.1 cj.2);rw[zbe eu];exact xbb h1 (mid u mu).1
    ·rw[if_neg cj];by_cases cj2:j < sa+k
     ·exact upA i j a1 a2 (xhb cj2 hk)
     ·have h2:=hig j (xbs fun z=>cj ⟨xbs cj2,z⟩) a3;have h3:R y0<=R xl:=by
       have s0:=xbb (xbr _ _) hs1;have h4:=c1.2.2 (sb - 1 - sa) (xdv hs1) (xdp s0 s1);rw[xcc s0,zcr el] at h4;exact xbn h4
      exact xbb h1 (xbb h3 h2)
   ·have hi2:sb+nb'<=i:=xbs fun z=>ci ⟨xbs ci2,z⟩
    rw[if_neg fun z=>xds (xbb hi2 a2) z.2];exact upB i j (xbb (xbr _ _) hi2) a2 a3
end
section
variable {prog:Program} {w:World} {A:Around} {E:Value->Shared->Prop} {s:Shared} {κ:SortKind} {a₀:Array Keyed} {R:Keyed->Nat}
theorem zbhg {x st:SortSt} {Q:Unit->SortSt->Prop} (h:Q () x):wpS (model prog w) A E s (set x:StateT SortSt Sem PUnit) Q st:=by
 unfold wpS;rw[StateT.run_set];exact xbh ⟨rfl,h⟩
theorem zpz {i sa na pw sb nb pw':Nat} {st:SortSt} {Q:Bool->SortSt->Prop} (O:Orc prog w A s κ a₀ R) (b:B κ a₀ st) (p1:(pendingOf st)[i]?=some (sa,na,pw)) (p2:(pendingOf st)[i+1]?=some (sb,nb,pw')) (hsb:sb=sa+na) (hna:1<=na) (hnb:1<=nb) (hz:sb+nb<=a₀.size)
  (upA:UpA R (arrOf st) sa sb) (upB:UpA R (arrOf st) sb (sb+nb))
  (h:∀st',B κ a₀ st'->pendingOf st'=((pendingOf st).setIfInBounds i (sa,na+nb,pw)).eraseIdxIfInBounds (i+1)->Out (arrOf st') (arrOf st) sa (sb+nb)->UpA R (arrOf st') sa (sb+nb)->Q true st'):wpS (model prog w) A E s (mergeAt' i) Q st:=by
 have hsz:=b.size;have bs:sb < a₀.size:=xbd (xgm hnb) hz;refine xbf (xgo ?_);dsimp only;have q1:(sortPriv% PySem.Builtin.SortState.pending) st=pendingOf st:=rfl;rw[q1,p1,p2];dsimp only;refine xbf (zbhg ?_);obtain ⟨y0,e0,my0⟩:=b.mem (i:=sb) bs;have inA:∀q,q < a₀.size->∃x,(arrOf st)[q]?=some x/\x∈a₀.toList:=fun q hq=>b.mem hq
 refine xbf (zic e0 ?_);refine xbf (zeg O b.kind my0 (fun q hq=>inA (sa+q) (xhb (xfb (xdl hq sa) hsb.symm) bs)) hna (by rw[← hsb];exact upA) fun k c1=>?_);dsimp only;have hk:=c1.1;have c1':Cut false R y0 (arrOf st) sa (sb - sa) k:=by rw[show sb - sa=na from by rw[hsb,xcm]];exact c1
 by_cases d1:na - k=0
 ·rw[if_pos (by simpa using d1)];refine xbi (h _ ⟨b.perm,b.kind,b.failed⟩ rfl (Out.refl _ _ _) fun p q a1 a2 a3=>?_);by_cases z1:q < sb
  ·exact upA p q a1 a2 z1
  ·by_cases z2:p < sb
   ·have h1:=c1.2.1 (p - sa) (xbd (xda a1 (xfb z2 hsb)) (Nat.le_of_sub_eq_zero d1));rw[xcc a1] at h1;have h2:=upB sb q (xbe _) (xbs z1) a3;rw[zcr e0] at h2;exact xbb h1 h2
   ·exact upB p q (xbs z2) a2 a3
 ·rw[if_neg (by simpa using d1)];have hk2:sa+k < sb:=xfb (xdl (xey fun z=>d1 (Nat.sub_eq_zero_of_le z)) sa) hsb.symm;have s1:sb - 1 < sb:=xgr (xil hk2) Nat.one_pos;obtain ⟨xl,el,mxl⟩:=inA (sb - 1) (xhb s1 bs);have el':(arrOf st)[sa+k+(na - k) - 1]?=some xl:=by rw[Nat.add_assoc,xcc hk,← hsb];exact el
  refine xbf (zic el' ?_);refine xbf (zeg O b.kind mxl (fun q hq=>inA (sb+q) (xbd (xdl hq sb) hz)) (xgr hnb Nat.one_pos) upB fun nb' c2=>?_);dsimp only;have hn2:=c2.1;have c2':Cut true R xl (arrOf st) sb (sb+nb - sb) nb':=by rw[xcm];exact c2
  by_cases d2:nb'=0
  ·rw[if_pos (by simpa using d2)];refine xbi (h _ ⟨b.perm,b.kind,b.failed⟩ rfl (Out.refl _ _ _) fun p q a1 a2 a3=>?_);subst d2;by_cases z1:q < sb
   ·exact upA p q a1 a2 z1
   ·by_cases z2:p < sb
    ·have h1:=upA p (sb - 1) a1 (xcr z2) s1;rw[zcr el] at h1;have h2:=c2.2.2 (q - sb) (xeh _) (xda (xbs z1) a3);rw[xcc (xbs z1)] at h2;exact xbb h1 h2
    ·exact upB p q (xbs z2) a2 a3
  ·rw[if_neg (by simpa using d2)];have hn1:1<=nb':=xjo d2;have hez:sb<=(arrOf st).size:=by rw[hsz];exact xbn bs
   have hbz:sb+nb<=(arrOf st).size:=by rw[hsz];exact hz
   have hb2:sb+nb'<=sb+nb:=xby hn2 sb;have oa:Ord R ((arrOf st).extract (sa+k) sb).toList:=zsr (fun p q a1 a2 a3=>upA p q (xbb (xbr _ _) a1) a2 a3) hez;have ob:Ord R ((arrOf st).extract sb (sb+nb')).toList:=zsr (fun p q a1 a2 a3=>upB p q a1 a2 (xbd a3 hb2)) (xbb hb2 hbz);have ma:∀x∈((arrOf st).extract (sa+k) sb).toList,x∈a₀.toList:=fun x hx=>by
    obtain ⟨q,q1,q2,e⟩:=zgs hx;obtain ⟨x',e',m'⟩:=inA q (xhb q2 bs);rw[e] at e';cases e';exact m'
   have mb:∀x∈((arrOf st).extract sb (sb+nb')).toList,x∈a₀.toList:=fun x hx=>by
    obtain ⟨q,q1,q2,e⟩:=zgs hx;obtain ⟨x',e',m'⟩:=inA q (xbd q2 (xbb hb2 hz));rw[e] at e';cases e';exact m'
   have sx:((arrOf st).extract (sa+k) sb).size=sb - (sa+k):=by rw[Array.size_extract,xdq hez]
   have sy:((arrOf st).extract sb (sb+nb')).size=nb':=by rw[Array.size_extract,xdq (xbb hb2 hbz),xcm]
   have fst:∀y,((arrOf st).extract sb (sb+nb')).toList[0]?=some y->∀x∈((arrOf st).extract (sa+k) sb).toList,R y<=R x:=fun y hy x hx=>by
    rw[zzk (by rw[xcm];exact hn1),xji,e0] at hy;cases hy;obtain ⟨q,q1,q2,e⟩:=zgs hx;have q0:=xbb (xbr _ _) q1;have:=c1.2.2 (q - sa) (xdv q1) (xda q0 (xfb q2 hsb));rw[xcc q0,zcr e] at this;exact xbn this
   have lst:∀x,((arrOf st).extract (sa+k) sb).toList[sb - (sa+k) - 1]?=some x->∀y∈((arrOf st).extract sb (sb+nb')).toList,R y<=R x:=fun x hx y hy=>by
    rw[zzk (xgr (xen hk2) Nat.one_pos),show sa+k+(sb - (sa+k) - 1)=sb - 1 from by rw[← Nat.add_sub_assoc (xen hk2),xcc (xbn hk2)],el] at hx;cases hx;obtain ⟨q,q1,q2,e⟩:=zgs hy;have:=c2.2.1 (q - sb) (xda q1 q2);rw[xcc q1,zcr e] at this;exact xbn this
   have post:∀m st2,SmG st st2\/True->Fin R ((arrOf st).extract (sa+k) sb).toList ((arrOf st).extract sb (sb+nb')).toList m->Mg R (arrOf st) (m.toList.zipIdx.foldl (fun a p=>a.setIfInBounds (sa+k+p.2) p.1) (arrOf st)) sa (sb+nb):=fun m _ _ f =>
    zrb (xbr _ _) hbz hk2 hb2 hn1 upA upB e0 el c1' c2' f
   by_cases d3:na - k<=nb'
   ·rw[if_pos d3];refine xbf (zpx O b.kind ma mb ⟨oa,ob,fun x hx=>lst x (by rw[xbx,sx] at hx;exact hx)⟩ (by show 1<=((arrOf st).extract (sa+k) sb).size;rw[sx];exact xen hk2) (by show 1<=((arrOf st).extract sb (sb+nb')).size;rw[sy];exact hn1) fst fun m st2 sg f=>?_);have mg:=post m st2 (.inr trivial) f;refine xbf (xfm (xbf (xgo ?_)));have a2:arrOf st2=arrOf st:=sg.arr;have f2:failedOf st2=none:=sg.failed.trans b.failed;refine xbi (?_:Q ((failedOf st2).isNone) (setArr st2 (m.toList.zipIdx.foldl (fun a p=>a.setIfInBounds (sa+k+p.2) p.1) (arrOf st2))));rw[f2,a2];exact h _ ⟨mg.perm.trans b.perm,sg.kind.trans b.kind,f2⟩ sg.pend mg.out mg.up
   ·rw[if_neg d3];refine xbf (zpy O b.kind ma mb ⟨oa,ob,fst⟩ (by show 1<=((arrOf st).extract (sa+k) sb).size;rw[sx];exact xen hk2) (by show 1<=((arrOf st).extract sb (sb+nb')).size;rw[sy];exact hn1) (fun x hx=>lst x (by rw[sx] at hx;exact hx)) fun m st2 sg f=>?_);have mg:=post m st2 (.inr trivial) f;refine xbf (xfm (xbf (xgo ?_)));have a2:arrOf st2=arrOf st:=sg.arr;have f2:failedOf st2=none:=sg.failed.trans b.failed;refine xbi (?_:Q ((failedOf st2).isNone) (setArr st2 (m.toList.zipIdx.foldl (fun a p=>a.setIfInBounds (sa+k+p.2) p.1) (arrOf st2))));rw[f2,a2];exact h _ ⟨mg.perm.trans b.perm,sg.kind.trans b.kind,f2⟩ sg.pend mg.out mg.up
end
noncomputable def Segs (R:Keyed->Nat) (xs:Array Keyed):Nat->List (Nat × Nat × Nat)->Nat->Prop
 | s,[],e=>s=e
 | s,p::r,e=>p.1=s/\1<=p.2.1/\UpA R xs s (s+p.2.1)/\Segs R xs (s+p.2.1) r e
section
variable {R:Keyed->Nat} {xs ys:Array Keyed}
theorem Segs.le:∀{l:List (Nat × Nat × Nat)} {s e:Nat},Segs R xs s l e->s+l.length<=e
 | [],s,e,h=>by cases h;simp
 | p::r,s,e,h=>by
  have:=Segs.le h.2.2.2;have:=h.2.1;simp;lia
theorem Segs.append:∀{l m:List (Nat × Nat × Nat)} {s e:Nat},Segs R xs s (l++m) e↔∃k,Segs R xs s l k/\Segs R xs k m e
 | [],m,s,e=>⟨fun h=>⟨s,rfl,h⟩,fun ⟨k,h1,h2⟩=>by cases h1;exact h2⟩
 | p::r,m,s,e=>by
  constructor
  ·rintro ⟨h1,h2,h3,h4⟩;obtain ⟨k,g1,g2⟩:=Segs.append.mp h4;exact ⟨k,⟨h1,h2,h3,g1⟩,g2⟩
  ·rintro ⟨k,⟨h1,h2,h3,h4⟩,g2⟩;exact ⟨h1,h2,h3,Segs.append.mpr ⟨k,h4,g2⟩⟩
theorem UpA.same {a b:Nat} (h:UpA R xs a b) (e:∀i,a<=i->i < b->ys[i]?=xs[i]?):UpA R ys a b:=fun i j a1 a2 a3=>by
 rw[zcp (e i a1 (xcn a2 a3)),zcp (e j (xbb a1 a2) a3)];exact h i j a1 a2 a3
theorem Segs.same:∀{l:List (Nat × Nat × Nat)} {s e:Nat},Segs R xs s l e->(∀i,s<=i->i < e->ys[i]?=xs[i]?)->Segs R ys s l e
 | [],s,e,h,_=>h
 | p::r,s,e,h,k=>by
  have:=Segs.le h.2.2.2;exact ⟨h.1,h.2.1,h.2.2.1.same fun i a1 a2=>k i a1 (xbd a2 (xbb (xbr _ _) this)),Segs.same h.2.2.2 fun i a1 a2=>k i (xbb (xbr _ _) a1) a2⟩
theorem Segs.power {s e:Nat}:∀{l m:List (Nat × Nat × Nat)},l.map (fun p=>(p.1,p.2.1))=m.map (fun p=>(p.1,p.2.1))->Segs R xs s l e->Segs R xs s m e:=by
 intro l
 induction l generalizing s with
 | nil=>intro m h k;cases m with
  | nil=>exact k
  | cons=>cases h
 | cons p r ih=>intro m h k;cases m with
  | nil=>cases h
  | cons q t =>
   rw[xbq,xbq] at h;obtain ⟨h1,h2⟩:=List.cons.inj h;obtain ⟨g1,g2⟩:=Prod.mk.inj h1;obtain ⟨k1,k2,k3,k4⟩:=k;rw[g2] at k2 k3 k4;exact ⟨g1.symm.trans k1,k2,k3,ih h2 k4⟩
end
section
variable {prog:Program} {w:World} {A:Around} {E:Value->Shared->Prop} {s:Shared} {κ:SortKind} {a₀:Array Keyed} {R:Keyed->Nat}
theorem zuv {l:List (Nat × Nat × Nat)} {i:Nat} (h:i+1 < l.length):∃pre p q post,l=pre++p::q::post/\pre.length=i:=by
 refine ⟨l.take i,l[i],l[i+1],l.drop (i+2),?_,by rw[xdb];exact xdq (xbn (xea h))⟩
 conv=>lhs;rw[← xdm i l,xgb (xea h),xgb h]
theorem w_at {i e:Nat} {st:SortSt} {Q:Bool->SortSt->Prop} (O:Orc prog w A s κ a₀ R) (b:B κ a₀ st) (sg:Segs R (arrOf st) 0 (pendingOf st).toList e) (he:e<=a₀.size) (hi:i+1 < (pendingOf st).size)
  (h:∀st',B κ a₀ st'->Segs R (arrOf st') 0 (pendingOf st').toList e->(pendingOf st').size+1=(pendingOf st).size->(∀k,e<=k->(arrOf st')[k]?=(arrOf st)[k]?)->Q true st'):wpS (model prog w) A E s (mergeAt' i) Q st:=by
 obtain ⟨pre,p,q,post,el,hl⟩:=zuv (l:=(pendingOf st).toList) (i:=i) (by simpa using hi);obtain ⟨sa,na,pw⟩:=p;obtain ⟨sb,nb,pw'⟩:=q;rw[el] at sg;obtain ⟨k,g1,g2⟩:=Segs.append.mp sg;obtain ⟨h1,h2,h3,h4,h5,h6,h7⟩:=g2;dsimp only at h1 h2 h3 h4 h5 h6 h7;subst h1;have l7:=Segs.le h7;have l1:=Segs.le g1;have p1:(pendingOf st)[i]?=some (sa,na,pw):=by rw[← xcf,el,xch (xcw hl),hl,xhc];rfl
 have p2:(pendingOf st)[i+1]?=some (sb,nb,pw'):=by rw[← xcf,el,xch (xbb (xcw hl) (xbr i 1)),hl,xcm];rfl
 refine zpz O b p1 p2 h4 h2 h5 (by lia) (by rw[h4];exact h3) (by rw[h4];exact h6) fun st' b' pe ou up=>?_
 have pl:(pendingOf st').toList=pre++(sa,na+nb,pw)::post:=by
  rw[pe];rw[Array.toList_eraseIdxIfInBounds,Array.toList_setIfInBounds,el];rw[List.set_append_right _ _ (xcw hl),hl,xhc,List.set_cons_zero,List.eraseIdx_append_of_length_le (xbb (xcw hl) (xbr i 1)),hl,xcm]
  rfl
 have keep:∀j,j < sa\/sb+nb<=j->(arrOf st')[j]?=(arrOf st)[j]?:=ou
 refine h st' b' ?_ ?_ fun j hj=>keep j (.inr (by lia))
 ·rw[pl];refine Segs.append.mpr ⟨sa,g1.same fun j a1 a2=>keep j (.inl a2),rfl,by show 1<=na+nb;lia,?_,?_⟩
  ·show UpA R (arrOf st') sa (sa+(na+nb));rw[show sa+(na+nb)=sb+nb by lia];exact up
  ·show Segs R (arrOf st') (sa+(na+nb)) post e;rw[show sa+(na+nb)=sa+na+nb by lia];exact h7.same fun j a1 a2=>keep j (.inr (by lia))
 ·have e1:(pendingOf st').size=(pendingOf st').toList.length:=by simp
  have e2:(pendingOf st).size=(pendingOf st).toList.length:=by simp
  rw[e1,e2,pl,el];simp only[xbm,xcd];lia
theorem zbdl {c:Prop} [Decidable c] {a b n:Nat} (h1:a+1 < n) (h2:b+1 < n):(if c then a else b)+1 < n:=by split<;>assumption
theorem zst {g:Nat × Nat × Nat->Nat × Nat} {f:Nat × Nat × Nat->Nat × Nat × Nat} (h:∀x,g (f x)=g x):∀(l:List (Nat × Nat × Nat)) (i:Nat),(l.modify i f).map g=l.map g
 | [],i=>by simp
 | x::l,0=>by simp[h]
 | x::l,i+1=>by simp[zst h l i]
theorem Segs.mod {xs:Array Keyed} {s e:Nat} {l:List (Nat × Nat × Nat)} (h:Segs R xs s l e) (i c:Nat):Segs R xs s (l.modify i fun x=>(x.1,x.2.1,c)) e :=
 h.power (zst (g:=fun p=>(p.1,p.2.1)) (f:=fun x=>(x.1,x.2.1,c)) (fun _=>rfl) l i).symm
theorem zbbq {st:SortSt} {Q:Unit->SortSt->Prop} (O:Orc prog w A s κ a₀ R) (b:B κ a₀ st) (pe:pendingOf st=#[]) (h2:2<=a₀.size)
  (h:∀st',B κ a₀ st'->UpA R (arrOf st') 0 a₀.size->Q () st'):wpS (model prog w) A E s sortRuns' Q st:=by
 have hz:=b.size;rw[sortRuns'_eq];refine xbf (xgo ?_);dsimp only;rw[hz]
 refine xbf (xeg (xcz (I:=fun x c st'=>∃lo,c=(none,lo)/\B κ a₀ st'/\Segs R (arrOf st') 0 (pendingOf st').toList lo/\lo<=a₀.size/\x<=lo)
  (Q:=fun c st'=>c=(none,a₀.size)/\B κ a₀ st'/\Segs R (arrOf st') 0 (pendingOf st').toList a₀.size) ?_ ?_ ⟨0,rfl,b,by rw[pe];rfl,by lia,by lia⟩) ?_)
 ·rintro x c st1 x1 x2 ⟨lo,rfl,b1,sg1,hlo,hx⟩;dsimp only;by_cases c1:lo ≥ a₀.size
  ·rw[if_pos c1];have:lo=a₀.size:=by lia
   subst this;exact xbi ⟨rfl,b1,sg1⟩
  rw[if_neg c1];refine xbf (zwt O b1 (by lia) (by lia) fun m st2 m1 m2 b2 sm2 up2=>?_);dsimp only;have sg2:Segs R (arrOf st2) 0 (pendingOf st2).toList lo:=by
   rw[sm2.pend];exact sg1.same fun i a1 a2=>sm2.out i (.inl a2)
  by_cases c2:m < minRun' a₀.size a₀.size 0
  ·rw[if_pos c2];refine xbf (xix (xhk ⟨rfl,?_⟩));refine xbf (zbhh O b2 (by lia) m1 (by lia) up2 fun st3 b3 sm3 up3=>?_);have sg3:Segs R (arrOf st3) 0 (pendingOf st3).toList lo:=by
    rw[sm3.pend];exact sg2.same fun i a1 a2=>sm3.out i (.inl a2)
   have hn1:1<=min (a₀.size - lo) (minRun' a₀.size a₀.size 0):=by lia
   have hn2:lo+min (a₀.size - lo) (minRun' a₀.size a₀.size 0)<=a₀.size:=by lia
   simp only[Bool.not_true,xcv,xep];generalize min (a₀.size - lo) (minRun' a₀.size a₀.size 0)=n at up3 hn1 hn2 sm3 ⊢;refine xbf (xgo ?_);cases hb:(pendingOf st3).back? with
   | none =>
    dsimp only;refine xbf (xfm (xbi ⟨lo+n,rfl,⟨b3.perm,b3.kind,b3.failed⟩,?_,hn2,by lia⟩));show Segs R (arrOf st3) 0 ((pendingOf st3).push (lo,n,0)).toList (lo+n);rw[xeo];exact Segs.append.mpr ⟨lo,sg3,rfl,hn1,up3,rfl⟩
   | some p =>
    obtain ⟨s1,n1,p1⟩:=p;dsimp only;refine xbf (xeg (xcz (I:=fun _ c st'=>c=(none,())/\B κ a₀ st'/\Segs R (arrOf st') 0 (pendingOf st').toList lo/\UpA R (arrOf st') lo (lo+n)) (Q:=fun c st'=>c=(none,())/\B κ a₀ st'/\Segs R (arrOf st') 0 (pendingOf st').toList lo/\UpA R (arrOf st') lo (lo+n)) ?_ (fun _ _ hh=>hh) ⟨rfl,b3,sg3,up3⟩) ?_)
    ·rintro x' c st4 _ _ ⟨rfl,b4,sg4,up4⟩;refine xbf (xgo ?_);by_cases hs:(pendingOf st4).size > 1
     ·rw[if_pos hs,getElem?_pos (pendingOf st4) ((pendingOf st4).size - 2) (by lia)];obtain ⟨s2,n2,p2⟩:=(pendingOf st4)[(pendingOf st4).size - 2]'(by lia);dsimp only;split
      ·exact xbi ⟨rfl,b4,sg4,up4⟩
      ·refine xbf (w_at O b4 sg4 hlo (by lia) fun st5 b5 sg5 _ k5=>?_);exact xbi ⟨rfl,b5,sg5,up4.same fun i a1 a2=>k5 i a1⟩
     ·rw[if_neg hs];exact xbi ⟨rfl,b4,sg4,up4⟩
    ·rintro c st4 ⟨rfl,b4,sg4,up4⟩;dsimp only;refine xbf (xfm (xbf (xfm (xbi ⟨lo+n,rfl,⟨b4.perm,b4.kind,b4.failed⟩,?_,hn2,by lia⟩))));refine (?_:Segs R (arrOf st4) 0 (((pendingOf st4).modify ((pendingOf st4).size - 1) fun x=>(x.1,x.2.1,_)).push (lo,n,0)).toList (lo+n));rw[xeo,Array.toList_modify];exact Segs.append.mpr ⟨lo,sg4.mod _ _,rfl,hn1,up4,rfl⟩
  ·rw[if_neg c2];have b3:=b2;have sg3:=sg2;have up3:=up2;have hn1:=m1;have hn2:lo+m<=a₀.size:=by lia
   generalize st2=st3 at b3 sg3 up3 ⊢;generalize m=n at up3 hn1 hn2 ⊢;refine xbf (xgo ?_);cases hb:(pendingOf st3).back? with
   | none =>
    dsimp only;refine xbf (xfm (xbi ⟨lo+n,rfl,⟨b3.perm,b3.kind,b3.failed⟩,?_,hn2,by lia⟩));show Segs R (arrOf st3) 0 ((pendingOf st3).push (lo,n,0)).toList (lo+n);rw[xeo];exact Segs.append.mpr ⟨lo,sg3,rfl,hn1,up3,rfl⟩
   | some p =>
    obtain ⟨s1,n1,p1⟩:=p;dsimp only;refine xbf (xeg (xcz (I:=fun _ c st'=>c=(none,())/\B κ a₀ st'/\Segs R (arrOf st') 0 (pendingOf st').toList lo/\UpA R (arrOf st') lo (lo+n)) (Q:=fun c st'=>c=(none,())/\B κ a₀ st'/\Segs R (arrOf st') 0 (pendingOf st').toList lo/\UpA R (arrOf st') lo (lo+n)) ?_ (fun _ _ hh=>hh) ⟨rfl,b3,sg3,up3⟩) ?_)
    ·rintro x' c st4 _ _ ⟨rfl,b4,sg4,up4⟩;refine xbf (xgo ?_);by_cases hs:(pendingOf st4).size > 1
     ·rw[if_pos hs,getElem?_pos (pendingOf st4) ((pendingOf st4).size - 2) (by lia)];obtain ⟨s2,n2,p2⟩:=(pendingOf st4)[(pendingOf st4).size - 2]'(by lia);dsimp only;split
      ·exact xbi ⟨rfl,b4,sg4,up4⟩
      ·refine xbf (w_at O b4 sg4 hlo (by lia) fun st5 b5 sg5 _ k5=>?_);exact xbi ⟨rfl,b5,sg5,up4.same fun i a1 a2=>k5 i a1⟩
     ·rw[if_neg hs];exact xbi ⟨rfl,b4,sg4,up4⟩
    ·rintro c st4 ⟨rfl,b4,sg4,up4⟩;dsimp only;refine xbf (xfm (xbf (xfm (xbi ⟨lo+n,rfl,⟨b4.perm,b4.kind,b4.failed⟩,?_,hn2,by lia⟩))));refine (?_:Segs R (arrOf st4) 0 (((pendingOf st4).modify ((pendingOf st4).size - 1) fun x=>(x.1,x.2.1,_)).push (lo,n,0)).toList (lo+n));rw[xeo,Array.toList_modify];exact Segs.append.mpr ⟨lo,sg4.mod _ _,rfl,hn1,up4,rfl⟩
 ·rintro c st1 ⟨lo,rfl,b1,sg1,hlo,hx⟩;have:lo=a₀.size:=by lia
  subst this;exact ⟨rfl,b1,sg1⟩
 ·rintro c st1 ⟨rfl,b1,sg1⟩;dsimp only
  refine xbf (xeg (xcz (I:=fun x c st'=>c=(none,())/\B κ a₀ st'/\Segs R (arrOf st') 0 (pendingOf st').toList a₀.size/\(pendingOf st').size+x<=a₀.size)
   (Q:=fun c st'=>c=(none,())/\B κ a₀ st'/\Segs R (arrOf st') 0 (pendingOf st').toList a₀.size/\(pendingOf st').size<=1) ?_ ?_ ⟨rfl,b1,sg1,by have:=sg1.le;simp at this;lia⟩) ?_)
  ·rintro x c st2 x1 x2 ⟨rfl,b2,sg2,hp⟩;refine xbf (xgo ?_);by_cases c1:(pendingOf st2).size<=1
   ·rw[if_pos c1];exact xbi ⟨rfl,b2,sg2,c1⟩
   rw[if_neg c1];refine xbf (w_at O b2 sg2 (xbe _) ?_ fun st3 b3 sg3 p3 _=>xbi ⟨rfl,b3,sg3,by lia⟩);exact zbdl (by lia) (by lia)
  ·rintro c st2 ⟨rfl,b2,sg2,hp⟩;exact ⟨rfl,b2,sg2,by lia⟩
  ·rintro c st2 ⟨rfl,b2,sg2,hp⟩;refine xbi (h st2 b2 ?_);cases hl:(pendingOf st2).toList with
   | nil=>rw[hl] at sg2;have:0=a₀.size:=sg2;lia
   | cons p r =>
    have:r=[]:=by
     have e2:(pendingOf st2).size=(pendingOf st2).toList.length:=by simp
     rw[e2,hl,xcd] at hp;exact List.length_eq_zero_iff.mp (by lia)
    subst this;rw[hl] at sg2;obtain ⟨_,_,g3,g4⟩:=sg2;have g4':0+p.2.1=a₀.size:=g4;rw[g4'] at g3;exact g3
end
end TS
namespace Srt
open PySem PySem.W PyProof.Rows
theorem zlw {α β:Type} (f:α->β):∀{l m':List β},l.Perm m'->∀m:List α,m'=m.map f->∃p:List α,p.Perm m/\l=p.map f:=by
 intro l m' h
 induction h with
 | nil=>exact fun m e=>⟨[],by rw[List.map_eq_nil_iff.mp e.symm],rfl⟩
 | cons x _ ih =>
  intro m e;cases m with
  | nil=>cases e
  | cons y m =>
   rw[xbq] at e;injection e with e1 e2
   obtain ⟨p,p1,p2⟩:=ih m e2;exact ⟨y::p,p1.cons y,by rw[xbq,← p2,e1]⟩
 | swap x y l =>
  intro m e
  match m,e with
  | a::b::m,e =>
   rw[xbq,xbq] at e;injection e with e1 e2
   injection e2 with e2 e3
   exact ⟨b::a::m,.swap _ _ _,by rw[xbq,xbq,e1,e2,e3]⟩
 | trans _ _ ih1 ih2 =>
  intro m e;obtain ⟨p,p1,p2⟩:=ih2 m e;obtain ⟨q,q1,q2⟩:=ih1 p p2;exact ⟨q,q1.trans p1,q2⟩
noncomputable def Coh (r:Nat->Nat) (xs:List Value):Prop:=∀i j,i < xs.length->j < xs.length->xs.getD i Value.none=xs.getD j Value.none->r i=r j
open Classical in
noncomputable def rankV (r:Nat->Nat) (xs:List Value) (x:Keyed):Nat:=if h:∃i,i < xs.length/\xs.getD i Value.none=x.1 then r h.choose else 0
theorem zjl {r:Nat->Nat} {xs:List Value} (coh:Coh r xs) {x:Keyed} {i:Nat} (hi:i < xs.length) (e:xs.getD i Value.none=x.1):rankV r xs x=r i:=by
 have h:∃i,i < xs.length/\xs.getD i Value.none=x.1:=⟨i,hi,e⟩
 unfold rankV;rw[dif_pos h];exact coh _ _ h.choose_spec.1 hi (h.choose_spec.2.trans e.symm)
theorem zmt (xs:List Value):(xs.toArray.zip xs.toArray).toList=(List.range xs.length).map fun i=>((xs.getD i Value.none,xs.getD i Value.none):Keyed):=by
 rw[Array.toList_zip];apply List.ext_getElem
 ·simp
 ·intro i h1 h2;have h3:i < xs.length:=by simpa using h2
  simp[xdz,h3]
section
variable {P:Program} {w:World} {B:Around} {E:Value->Shared->Prop} {st:Shared}
theorem zuu {r:Nat->Nat} {xs:List Value} {κ:SortKind} {sg:Shared} (h2:2<=xs.length) (coh:Coh r xs)
  (cmp:∀i j C,i < xs.length->j < xs.length->C (lt r i j) sg->kas_ask P w B κ xs i j C sg) :
  wpAny (model P w) B ((sortRuns').run (SortSt.mk' κ (xs.toArray.zip xs.toArray) #[] 7 none)) (fun y z=>∃p:Array Nat,(p.Perm (List.toArray (List.range xs.length))/\Up r p xs.length)/\(arrOf y.2).map (·.2)=outOf xs p/\failedOf y.2=none/\z=sg) E sg:=by
 have sz:(xs.toArray.zip xs.toArray).size=xs.length:=by simp
 have O:TS.Orc P w B sg κ (xs.toArray.zip xs.toArray) (rankV r xs):=fun x hx y hy C hC=>by
  rw[zmt] at hx hy;obtain ⟨i,hi,rfl⟩:=xdo.mp hx;obtain ⟨j,hj,rfl⟩:=xdo.mp hy;rw[xei] at hi hj;rw[zjl coh hi rfl,zjl coh hj rfl] at hC;exact cmp i j C hi hj hC
 have run:=TS.zbbq (E:=E) (Q:=fun _ y=>∃p:Array Nat,(p.Perm (List.toArray (List.range xs.length))/\Up r p xs.length)/\(arrOf y).map (·.2)=outOf xs p/\failedOf y=none) O (st:=SortSt.mk' κ (xs.toArray.zip xs.toArray) #[] 7 none) ⟨.refl _,rfl,rfl⟩ rfl (by rw[sz];exact h2) fun y b up=>by
  obtain ⟨l,l1,l2⟩:=zlw (fun i=>((xs.getD i Value.none,xs.getD i Value.none):Keyed)) (xev.mp b.perm) _ (zmt xs);have ll:l.length=xs.length:=by rw[l1.length_eq,xim]
  have mem:∀k,(hk:k < l.length)->l[k] < xs.length:=fun k hk=>xei.mp (l1.mem_iff.mp (xex hk))
  have key:∀k,k < xs.length->TS.kA (rankV r xs) (arrOf y) k=At r l.toArray k:=fun k hk=>by
   have hk':k < l.length:=by lia
   have e:(arrOf y)[k]?=some (xs.getD l[k] Value.none,xs.getD l[k] Value.none):=by
    rw[← xcf,l2,xcs,xbj hk']
    rfl
   rw[TS.zcr e,zjl coh (mem k hk') rfl];unfold At;simp[hk']
  refine ⟨l.toArray,⟨?_,fun i j hij hj=>?_⟩,?_,b.failed⟩
  ·exact xev.mpr (by simpa using l1)
  ·rw[← key i (by lia),← key j hj];exact up i j (xeh _) hij (by rw[sz];exact hj)
  ·unfold outOf;apply Array.toList_inj.mp;rw[Array.toList_map,l2,xdu]
   rfl
 exact xde run (fun y z hz=>by
  obtain ⟨rfl,p,a,b,c⟩:=hz
  exact ⟨p,a,b,c,rfl⟩) fun _ _ x=>x
theorem zie (r : Nat -> Nat) {d : Addr} {xs : List Value} {k : Nat} {W : Fin -> Shared -> Prop} (e0 : st.heap.get? d = some (seqObj "list" xs.toArray k)) (few : xs.length <= sizeLine) (coh : Coh r xs)
  (ask:2<=xs.length->Answers P w B r xs {st with heap:=midHeap st.heap d xs})
  (fin:∀p:Array Nat,p.Perm (List.toArray (List.range xs.length))->Up r p xs.length->W (.done (.ret .none)) {st with heap:=sortedHeap st.heap d xs (outOf xs p)}) :
  wpAny (model P w) B (Builtin.«list.sort» ⟨[.ref d],[]⟩) W E st:=by
 obtain ⟨c, ec⟩ : ∃ c, (st.heap.update d (Obj.mapSeq fun _ => (#[] : Array Value))).get? d = some (seqObj "list" #[] c) := ⟨_, get?_update_seq e0 fun _ => #[]⟩
 have em : (midHeap st.heap d xs).get? d = some (seqObj "list" #[] c) := xbg _ (xbg _ ec)
 have szs:xs.toArray.size=xs.length:=xbp;rw[list_sort_plain];refine xba (listItems_at e0 rfl (xba (listUpdate_at e0 rfl (xba (seqEpoch_at ec rfl (xba (wpAny_newTuple (xba (wpAny_newList (xdt ?_) (xeh _))) (few))))) (by rw[szs];exact few) (xeh _))));show wpAny (model P w) B _ W E {st with heap:=midHeap st.heap d xs};dsimp only;by_cases two:xs.toArray.size < 2
 ·rw[if_pos two,if_pos two];rw[szs] at two;have eo:((arrOf (SortSt.mk' general' (xs.toArray.zip xs.toArray) #[] 7 none)).map (·.2))=outOf xs (List.toArray (List.range xs.length)):=zqi two
  refine xba (xbh (by
   rw[StateT.run_pure];refine xba (xbh (xba (seqEpoch_at em rfl (xba (listUpdate_at em rfl ?_ (xeh _) ?_)))))
   ·rw[if_neg (by simp)];refine xbh ?_;rw[eo];exact fin _ (.refl _) fun i j hij hj=>xcw (congrArg (At r _) (by lia))
   ·rw[eo];refine xff (xbb (xcw ?_) (few));unfold outOf
    simp))
 ·rw[if_neg two,if_neg two];rw[szs] at two;obtain ⟨κ,kd,cmp⟩:=ask (by lia);refine xba (xde (kd (fun κ' z=>κ'=κ/\z={st with heap:=midHeap st.heap d xs}) ⟨rfl,rfl⟩) (fun κ' z hz=>?_) fun _ _ x=>x.elim);obtain ⟨rfl,rfl⟩:=hz;have run:=zuu (E:=E) (r:=r) (xs:=xs) (κ:=κ') (sg:={st with heap:=midHeap st.heap d xs}) (by lia) coh cmp;refine xba (xde run (fun yy z hz=>?_) fun _ _ x=>x);obtain ⟨⟨⟩,y⟩:=yy;obtain ⟨p,hp,ho,hf,rfl⟩:=hz;dsimp only at ho hf ⊢;refine xba (seqEpoch_at em rfl (xba (listUpdate_at em rfl ?_ (xeh _) ?_)))
  ·rw[hf,if_neg (by simp),ho];exact xbh (fin p hp.1 hp.2)
  ·rw[ho];refine xff (xbb (xcw ?_) (few));unfold outOf;rw[xbp,xbc,xbx,hp.1.size_eq];simp
theorem zjf (r:Nat->Nat) {d:Addr} {xs:List Value} {W:Value->Shared->Prop} (isl:st.heap.IsList d xs.toArray) (few:xs.length<=sizeLine) (coh:Coh r xs)
  (ask:2<=xs.length->∀g:Heap,(∀b ob,st.heap.get? b=some ob->g.get? b=some ob)->Answers P w B.in1.in1 r xs {st with heap:=g})
  (fin:∀p:Array Nat,p.Perm (List.toArray (List.range xs.length))->Up r p xs.length->W (.ref (st.heap.objs.size+1)) {st with heap:=sortedAll st.heap xs (outOf xs p)}) :
  wpAny (model P w) B (call (.builtin "sorted") [.ref d]) W E st := by
 let g0 : Heap := (st.heap.push (seqObj "list" #[] 0)).update st.heap.objs.size (Obj.mapSeq (· ++ xs.toArray))
 have sz:g0.objs.size=st.heap.objs.size+1:=(Heap.size_update ..).trans (size_push' _ _);have new : (g0.push (seqObj "list" xs.toArray 0)).get? (st.heap.objs.size + 1) = some (seqObj "list" xs.toArray 0) := by
  have z := xcb g0 (o := seqObj "list" xs.toArray 0) rfl
  rw[sz] at z;exact z
 have old : ∀ b ob, st.heap.get? b = some ob -> (g0.push (seqObj "list" xs.toArray 0)).get? b = some ob := fun b ob e => by
  have lt:=xbk e;exact xbg _ ((Heap.get?_update_ne _ _ _ _ (xce lt)).trans (xbg _ e))
 have ar : argsOk "sorted" ⟨[.ref d], []⟩ := args_sorted1 _
 refine Calls.call_function_entry kind_sorted plain_sorted entry_sorted ar ?_;unfold Builtin.«sorted»;refine xba (m := checkCount "sorted" 1 1 _) (xbh (xba (collect_list isl (xba (wpAny_newList ?_ (few))) (few))))
 show wpAny _ _ _ _ _ { st with heap := g0.push (seqObj "list" xs.toArray 0) }
 have esz:(Value.ref g0.objs.size)=Value.ref (st.heap.objs.size+1):=by rw[sz]
 rw [show ((st.heap.push (seqObj "list" #[] 0)).update st.heap.objs.size (Obj.mapSeq (· ++ xs.toArray))).objs.size = st.heap.objs.size + 1 from sz]
 refine xba (xdt (xfk slot_list_sort ⟨_, new, rfl⟩ entry_list_sort (zie r (st := { st with heap := g0.push (seqObj "list" xs.toArray 0) }) new few coh (fun two => ?_) fun p p1 p2 => ⟨_, rfl, xbh ⟨_, rfl, fin p p1 p2⟩⟩) (args_list_sort _)))
 exact ask two _ fun b ob e=>zgr (xce (xjw (xbk e))) (old b ob e)
theorem zls {T:String} {a d:Addr} {n:Nat} {It:Nat->Value->Prop} {OK:Heap->Prop} (S:KdlSrc P w T a d n It OK) (hh:B.handled=none) (ok:OK st.heap) (few:n<=sizeLine) {W:Value->Shared->Prop}
  (ask:∀xs:List Value,xs.length=n->(∀(j:Nat) (v:Value),xs[j]?=some v->It j v)->∃r:Nat->Nat,Coh r xs/\(2<=n->∀(g:Heap) (tk:Nat),(∀b ob,st.heap.get? b=some ob->g.get? b=some ob)->Answers P w B.in1.in1 r xs {st with heap:=g,toks:=tk}) /\
   ∀ (p : Array Nat) (q : Addr) (g : Heap) (tk c : Nat), p.Perm (List.toArray (List.range xs.length)) -> Up r p xs.length -> (∀ b ob, st.heap.get? b = some ob -> g.get? b = some ob) -> (∀ b ob, st.heap.get? b = some ob -> b ≠ q) -> g.get? q = some (seqObj "list" (outOf xs p) c) -> W (.ref q) { st with heap := g, toks := tk }) :
  wpAny (model P w) B (call (.builtin "sorted") [.ref a]) W E st := by
 have ar : argsOk "sorted" ⟨[.ref a], []⟩ := args_sorted1 _
 refine Calls.call_function_entry kind_sorted plain_sorted entry_sorted ar ?_;unfold Builtin.«sorted»;refine xba (m := checkCount "sorted" 1 1 _) (xbh (xba (kdu_collect (A := B.in1) S hh ok (few) fun g tk acc keep items => ?_)))
 have len:acc.toList.length=n:=by rw[xbx];exact items.1
 obtain ⟨r,coh,an,fin⟩:=ask acc.toList len (fun j v e=>items.2 j v (by rw[← xcf];exact e));refine xba (wpAny_newList ?_ (by rw[len];exact few));have new : (g.push (seqObj "list" acc.toList.toArray 0)).get? g.objs.size = some (seqObj "list" acc.toList.toArray 0) := xcb g rfl
 have old : ∀ b ob, st.heap.get? b = some ob -> (g.push (seqObj "list" acc.toList.toArray 0)).get? b = some ob := fun b ob e => xbg _ (keep b ob e)
 have lt:∀b ob,st.heap.get? b=some ob->b≠g.objs.size:=fun b ob e=>xce (xbk (keep b ob e))
 show wpAny _ _ _ _ _ { st with heap := g.push (seqObj "list" acc.toList.toArray 0), toks := tk }
 refine xba (xdt (xfk slot_list_sort ⟨_, new, rfl⟩ entry_list_sort (zie r (st := { st with heap := g.push (seqObj "list" acc.toList.toArray 0), toks := tk }) new (by rw [len]; exact few) coh (fun two => ?_) fun p p1 p2 => ⟨_, rfl, xbh ⟨_, rfl, ?_⟩⟩) (args_list_sort _)))
 ·exact an (by lia) _ tk fun b ob e=>zgr (lt b ob e) (old b ob e)
 ·obtain ⟨c,ec⟩:=sortedHeap_at (n:=0) (vs:=acc.toList) (out:=outOf acc.toList p) new;refine fin p g.objs.size _ tk c p1 p2 (fun b ob e=>?_) ?_ ec
  ·rw[sortedHeap_old (lt b ob e) (xbk (old b ob e))];exact old b ob e
  ·exact lt
end
end Srt
namespace L2
open PySem PySem.Spec PyProof.Rows PySem.W
theorem small10000 {n:Nat} (h:n<=1000000):n<=sizeLine:=xbb h (by rw[xhn];lia)
theorem zgw:∀{us:List Value} {a b:List Int},IntsAre us a->IntsAre us b->a=b
 | _,_,_,.nil,.nil=>rfl
 | _,_,_,.cons x t r,.cons _ _ r'=>by rw[zgw r r']
theorem zpg {g:Heap} {ps:List (Addr × List Int)} (tup:TupsG g ps):Srt.Coh (Srt.rank (ps.map (·.2))) (ps.map fun p=>Value.ref p.1):=fun i j hi hj e=>by
 rw[xbc] at hi hj;have ei:ps[i]?=some ps[i]:=xbj hi;have ej:ps[j]?=some ps[j]:=xbj hj;rw[zj (fun p:Addr × List Int=>Value.ref p.1) _ ei,zj (fun p:Addr × List Int=>Value.ref p.1) _ ej] at e;injection e with e
 obtain ⟨us,o,n,a1,a2,a3,a4⟩:=tup _ (xex hi);obtain ⟨us2,o2,n2,b1,b2,b3,b4⟩:=tup _ (xex hj);rw[e,b2] at a2;injection a2 with a2
 subst a2;rw[b4] at a4;injection a4 with a4 _
 have a5:us2=us:=by simpa using a4
 subst a5;have d:=zgw a1 b1;unfold Srt.rank;rw[zj (fun p:Addr × List Int=>p.2) _ ei,zj (fun p:Addr × List Int=>p.2) _ ej,d]
noncomputable def rSortedAL (K:Fg):List V->Hp->VK->Prop:=fun xs H Q=>∃(l:Addr) (ps:List (Addr × List Int)),xs=[.ref l]/\SqL K H l (ps.map fun p=>V.ref p.1)/\ps.length<=1000000/\TupsAt K H ps /\
 ∀(q:Addr) (qs:List (Addr × List Int)),H q=none->qs.Perm ps->(qs.map (·.2)).Pairwise (fun a b=>HT.lexLt b a=false)->Q (.ref q) (upd H q (.lst (qs.map fun p=>V.ref p.1)))
noncomputable def rSortedDAL:List V->Hp->VK->Prop:=fun xs H Q=>∃(a:Addr) (kvs:List (List Key × V)) (ks:List (List Int)),xs=[.ref a]/\Rd H a (.dT kvs)/\kvs.map (·.1)=ks.map (fun ns=>ns.map Sum.inl)/\ks.length<=1000000 /\
 ∀(q:Addr) (qs:List (Addr × List Int)),H q=none->(qs.map (·.2)).Perm ks->(qs.map (·.2)).Pairwise (fun x y=>HT.lexLt y x=false)->(∀p∈qs,H p.1=some (.tup (p.2.map V.int)))->Q (.ref q) (upd H q (.lst (qs.map fun p=>V.ref p.1)))
section
variable {X:Cx}
theorem zix (hu : X.A.units + 64 < cLine) : CallR X (.builtin "sorted") (rSortedAL X.K) := by
 intro pins s σ H xs us Q I r h;obtain ⟨l,ps,rfl,hl,h64,ht,q⟩:=h;obtain ⟨u,rfl,ru⟩:=vals1 r;cases ru;obtain ⟨its,rv,pl,hz⟩:=I.list hl;have eits:its=ps.map fun p=>Value.ref p.1:=by
  have e:(ps.map fun p=>V.ref p.1)=(ps.map (·.1)).map V.ref:=by rw[xdu];rfl
  rw[e] at rv;rw[zhb rv,xdu]
  rfl
 subst eits;have tup:∀g:Heap,(∀b o,s.heap.get? b=some o->g.get? b=some o)->TupsG g ps:=fun g keep p hp=>by
  obtain ⟨us,rv',⟨o,b2,b3,n,b4⟩,_⟩:=I.tuple (ht p hp);exact ⟨us,o,n,zdw rv',keep _ _ b2,b3,b4⟩
 refine Srt.zjf (Srt.rank (ps.map (·.2))) pl.isList (by rw[xbc];exact small10000 h64) (zpg (tup s.heap fun _ _ z=>z)) (fun h2 g keep=>ztn (by show X.A.units+1+1 < cLine;lia) (by rw[xbc] at h2;exact h2) (tup g keep)) (fun p p1 p2=>?_);rw[xbc] at p1 p2;obtain ⟨qs,q1,q2,q3⟩:=znp p1 p2;obtain ⟨e,he⟩:=sortedAll_at s.heap (ps.map fun p=>Value.ref p.1) (Srt.outOf (ps.map fun p=>Value.ref p.1) p);rw[q3] at he ⊢;refine ⟨.ref (s.heap.objs.size+1),_,I.laid (a:=s.heap.objs.size+1) (o:=.lst (qs.map fun p=>V.ref p.1)) (t':=s.toks) (fun _ _ z=>sortedAll_old z) (Nat.le_succ _) ⟨?_,_,e,zfb qs,he⟩,rfl,q _ _ (I.hok.fresh (Nat.le_succ _)) q1 q2⟩;rw[xbc,q1.length_eq];exact small10000 (by lia)
theorem zia (hc : X.calm = true) (hu : X.A.units + 64 < cLine) : CallR X (.builtin "sorted") rSortedDAL := by
 intro pins s σ H xs us Q I r h;obtain ⟨a,kvs,ks,rfl,hd,ek,few,q⟩:=h;obtain ⟨u,rfl,ru⟩:=vals1 r;cases ru;obtain ⟨z,ns,ys,rel,ob,es,ep,e1,e2,e3,e4,e5⟩:=(show ObjOk X.prog X.w H s.heap a (.dT kvs) from hd.ok I.hok)
 obtain ⟨ps,a1,a2,a3⟩:=ziv (P:=X.prog) (w:=X.w) rel ek;have hpl:ps.length=ks.length:=by rw[← a1,xbc]
 have hes:es.toList.map (·.key)=ps.map fun p=>Value.ref p.1:=by rw[e4,xdu];exact a3
 have hsz:es.size=ps.length:=by
  have:=congrArg List.length hes;rw[xbc,xbc,xbx] at this;exact this
 have tup:∀g:Heap,(∀b o,s.heap.get? b=some o->g.get? b=some o)->TupsG g ps:=fun g keep p hp=>by
  obtain ⟨us,rv,⟨o,b2,b3,n,b4⟩,_⟩:=I.tuple (SqT.of (a2 p hp));exact ⟨us,o,n,zdw rv,keep _ _ b2,b3,b4⟩
 refine Srt.zls (Dct.zxi ns es ep) (I.ok.hd hc) ⟨ob,e1,e2,e3⟩ (small10000 (by lia)) fun vs hl hv=>?_
 have evs:vs=ps.map fun p=>Value.ref p.1:=by
  rw[← hes];apply xjv;intro i;by_cases hi:i < es.size
  ·have h1:vs[i]?=some vs[i]:=xbj (by lia);obtain ⟨en,h2,h3⟩:=hv i _ h1;rw[h1,h3,xcs,xcf,h2]
   rfl
  ·rw[xjb (by lia),xjb (by rw[xbc,xbx];lia)]
 subst evs;refine ⟨Srt.rank (ps.map (·.2)),zpg (tup s.heap fun _ _ z=>z),fun h2 g tk keep=>ztn (by show X.A.units+1+1 < cLine;lia) (by lia) (tup g keep),fun p t g tk c p1 p2 keep ne eg=>?_⟩;rw[xbc] at p1 p2;obtain ⟨qs,q1,q2,q3⟩:=znp p1 p2;rw[q3] at eg;refine ⟨.ref t,_,I.laidN (o:=.lst (qs.map fun p=>V.ref p.1)) keep ne ⟨?_,_,c,zfb qs,eg⟩,rfl,q t qs (I.away ne) ((q1.map _).trans (by rw[a1])) q2 fun p hp=>a2 p (q1.mem_iff.mp hp)⟩;rw[xbc,q1.length_eq];exact small10000 (by lia)
end
end L2
namespace L2
open PySem PySem.Spec PyProof.Rows
theorem zfu {κ β:Type} [DecidableEq κ] {k:κ}:∀{xs:List (κ × β)} {j:Nat} {p:β},(xs.map (·.1)).Nodup->xs[j]?=some (k,p)->xs.eraseIdx j=xs.filter fun x=>decide (x.1≠k)
 | [],_,_,_,e=>by simp at e
 | x::r,0,p,nd,e=>by
  simp at e;subst e;rw[xbq,xgp] at nd;rw[List.eraseIdx_cons_zero,xdx (by simp)]
  symm
  rw[List.filter_eq_self];intro y hy;refine xdc fun z=>nd.1 ?_
  rw[← z];exact xdo.mpr ⟨y,hy,rfl⟩
 | x::r,j+1,p,nd,e=>by
  rw[xbq,xgp] at nd;have e':r[j]?=some (k,p):=by simpa using e
  have hx:x.1≠k:=fun z=>nd.1 (by rw[z];exact xdo.mpr ⟨_,xcg e',rfl⟩)
  rw[xii,xdy (by simpa using hx),zfu nd.2 e']
theorem zkz {α β:Type} (f:α->β):∀(l:List α) (j:Nat),(l.map f).eraseIdx j=(l.eraseIdx j).map f
 | [],_=>rfl
 | _::_,0=>rfl
 | x::l,j+1=>by rw[xbq,xii,xii,xbq,zkz f l j]
section
variable {prog:Program} {w:World} {κ:Type} [DecidableEq κ] {knd:HeapKind prog w κ} {A:Around} {E:Value->Shared->Prop} {s:Shared} {d a:Addr} {k:κ} {xs:List (κ × Addr × Value)} {p:Addr × Value}
theorem zqe {W:Option DictEntry->Shared->Prop} (hu:knd.room A) (hkey:knd.is s.heap k a) (hm:s.heap.DictOfH knd d xs) (hp:atKey xs k=some p) (hsz:xs.length<=sizeLine)
  (fin:∀e h',e.val=p.2->h'.DictOfH knd d (xs.filter fun x=>decide (x.1≠k))->Heap.SameBut d s.heap h'->W (some e) {s with heap:=h',toks:=s.toks+knd.draws k}) :
  wpAny (model prog w) A (Builtin.Dict.takeOut d (.ref a)) W E s:=by
 obtain ⟨o,es,ep,ho,hc,hd,he,his,hn⟩:=hm;unfold Builtin.Dict.takeOut;refine xdt ?_;refine xba (knd.pyHash hu hkey ?_);refine xba (wpAny_dictFind_heap (s:={s with toks:=s.toks+knd.draws k}) hu hkey ho hd he his hn (fun z=>?_) fun j q hj=>?_)
 ·rw[atKey_none_of_get z] at hp;cases hp
 ·have hq:q=p:=by
   have z:=atKey_of_get hn hj;rw[hp] at z;exact (xbw z).symm
  subst hq;refine xba (xgy (s:={s with toks:=s.toks+knd.draws k}) ho hd ?_);rw[entry_at he j,hj];have big:es.size<=sizeLine:=by have:=size_of_entries he;lia
  refine xba (wpAny_updateDictKeys (hz:=big) (s:={s with toks:=s.toks+knd.draws k}) ho hd (xbh (fin _ _ rfl ⟨_,_,ep+1,xha _ ho (Obj.isFreed_of_dict (Obj.data_mapDictKeys hd _)),hc.mapDictKeys _,Obj.data_mapDictKeys hd _,?_,fun x hx=>?_,?_⟩ (xhp ..))))
  ·rw[← zfu hn hj];obtain ⟨l⟩:=es;have he':l=xs.map (entryOfKey knd):=he;subst he';simp[zkz]
  ·exact knd.keeps (his x (xfq.mp hx).1) ho hd (xhp ..)
  ·exact List.Sublist.nodup (List.Sublist.map (fun x:κ × Addr × Value=>x.1) List.filter_sublist) hn
theorem zue {W:Value->Shared->Prop} (hu:knd.room A.in1) (hkey:knd.is s.heap k a) (hm:s.heap.DictOfH knd d xs) (hp:atKey xs k=some p) (hsz:xs.length<=sizeLine)
  (fin:∀h',h'.DictOfH knd d (xs.filter fun x=>decide (x.1≠k))->Heap.SameBut d s.heap h'->W p.2 {s with heap:=h',toks:=s.toks+knd.draws k}) :
  wpAny (model prog w) A (call (.builtin "dict.pop") [.ref d, .ref a]) W E s := by
 have M:MeetsIn prog w (Builtin.«dict.pop» ⟨[.ref d,.ref a],[]⟩) (fun B R g=>B=A/\g=s/\∀h',h'.DictOfH knd d (xs.filter fun x=>decide (x.1≠k))->Heap.SameBut d s.heap h'->R (.ok (.ret p.2)) {s with heap:=h',toks:=s.toks+knd.draws k}) :=
  .of_wp fun B R g hq0=>by
   obtain ⟨hB,hg,q⟩:=hq0;subst hB hg;unfold Builtin.«dict.pop» Builtin.Dict.keyAndDefault;refine xba (xba (wpAny_notOrdered_dict hm.typeIs (xbh ?_)));obtain ⟨o,es,ep,ho,hc,hd,he,his,hn⟩:=id hm;have ne:es.isEmpty=false:=by
    have:=size_of_entries he;cases xs with
    | nil=>cases hp
    | cons x r =>
     rw[xcd] at this;rw[Array.isEmpty_eq_false_iff];intro z;rw[z] at this;simp at this
   simp only[keyPart,Option.isSome_none,xcv,xep];refine xba (xgy ho hd (xba (xbh ?_)));rw[ne];simp only[xcv,xep];refine xba (zqe hu hkey hm hp hsz fun e h' hv dd hs=>?_);simp only[Option.isNone_some,xcv,xep];exact xba (wpAny_letGo (xbh ⟨e.val,rfl,by rw[hv];exact q h' dd hs⟩))
 exact call_meetsIn PySem.F.slot_dict_pop hm.typeIs PySem.F.entry_dict_pop (PySem.F.args_dict_pop_2 _ _) M ⟨rfl,rfl,fin⟩
end
theorem KT.drop {H:Hp} {kvs:List (List Key × V)} {xs:List (List Key × Addr × Value)} (r:KT H kvs xs) (k:List Key):KT H (dropK kvs k) (xs.filter fun x=>decide (x.1≠k)):=by
 unfold dropK
 induction r with
 | nil=>exact .nil
 | @cons p q ps qs h t ih =>
  by_cases e:p.1=k
  ·rw[xdx (by simp[e]),xdx (by simp[← h.1,e])];exact ih
  ·rw[xdy (by simp[e]),xdy (by simp[← h.1,e])];exact .cons h ih
section
variable {X:Cx} {pins:List (Addr × Obj)} {σ:St} {H:Hp} {s:Shared} {a b:Addr} {kvs:List (List Key × V)} {k:List Key}
theorem zbfb {v:V} {Q:Value->Shared->Prop} {E:Value->Shared->Prop} (hu:X.A.units+1 < cLine) (I:Inv X pins σ H s) (e:H a=some (.dT kvs)) (eb:H b=some (.tup (k.map kV))) (l:valV kvs k=some v)
  (h : ∀ w' s', Inv X pins σ (upd H a (.dT (dropK kvs k))) s' -> RelV v w' -> Q w' s') : wpAny (model X.prog X.w) X.A (call (.builtin "dict.pop") [.ref a, .ref b]) Q E s := by
 obtain ⟨z,hd,xs,rel,dd⟩:=zbhc I.hok e;obtain ⟨w',hw,rw'⟩:=RelO.some_of (v:=v) (o:=(atKey xs k).map (·.2)) (by rw[← l];exact rel.val k);cases hp:atKey xs k with
 | none=>rw[hp] at hw;cases hw
 | some p =>
  rw[hp] at hw;have hw':p.2=w':=xbw hw;subst hw';refine zue (xgv hu) (zmm I.hok eb) dd hp (by rw[← xhl rel];exact z) fun h' dd' hs=>h _ _ ?_ rw'
  obtain ⟨q,es,ep,hq,h2,h3,h4,_,h5⟩:=dd';refine zpb I (by rw[e];exact True.intro) hs ⟨q,hq⟩ ⟨xbb (xfu _ _) z,hd,_,(rel.drop k).keeps fun c ys ec=>?_,q,es,ep,hq,h2,h3,h4,h5⟩;rw[zh (zbgv ec e (fun z=>nomatch z))];exact ec
end
noncomputable def tDPopT (td ty:TE):TE:=fun σ H Q=>td σ H fun x H1=>∃a,x=.ref a/\IsD H1 a/\ty σ H1 fun y H2=>∃kvs k v b,H2 a=some (.dT kvs)/\y=.ref b/\H2 b=some (.tup (k.map kV))/\valV kvs k=some v/\Q v (upd H2 a (.dT (dropK kvs k)))
section
variable {X:Cx} {o e:Expr} {apos cpos:Pos} {td ty:TE}
theorem zui (hu : X.A.units + 1 < cLine) (ho : PE X o td) (he : PE X e ty) (m : M1 X o "pop" apos e cpos) : PE X (.Call (.Attribute o "pop" apos) [e] [] cpos) (tDPopT td ty) := by
 intro pins s σ H Q I h;refine wpAny_Call_method m.base m.few m.line PySem.F.plainAttrs_dict PySem.F.slot_dict_pop PySem.F.type_dict_pop (thn (ho pins s σ H _ I h) fun u s1 hq0=>?_);obtain ⟨x,H1,I1,rx,a,ex,d,q1⟩:=hq0;subst ex;obtain rfl:u=Value.ref a:=rx;obtain ⟨t1,t2,_⟩:=zzd I1 d;refine ⟨t1,t2,?_⟩;rw[m.trees];refine xir rfl (xhf (xhw (thn (he pins s1 σ H1 _ I1 q1) fun iv s2 ⟨y,H2,I2,ry,kvs,k,v,b,ea,ey,eb,l,q2⟩=>xjs ?_)));subst ey;cases (show iv=Value.ref b from ry);exact zbfb hu I2 ea eb l fun w' s3 I3 rw'=>⟨v,_,I3,rw',q2⟩
end
noncomputable def rCatA (K:Fg):R2:=fun x y H Q=>∃a b xs ys,x=.ref a/\y=.ref b/\SqT K H a xs/\SqT K H b ys/\xs.length+ys.length<=sizeLine /\
 (xs=[]->Q (.ref b) H)/\(xs≠[]->ys=[]->Q (.ref a) H)/\(xs≠[]->ys≠[]->∀p,H p=none->Q (.ref p) (upd H p (.tup (xs++ys))))
section
variable {X:Cx}
theorem zyl:OpR X (binaryOp .Add) (rCatA X.K):=by
 intro pins s σ H x y v u Q I rx ry h;obtain ⟨a,b,xs,ys,rfl,rfl,ha,hb,hz,q0,q1,q2⟩:=h;by_cases hx:xs=[]
 ·cases rx;cases ry;obtain ⟨its,r1,p1,_⟩:=I.tuple ha;obtain ⟨its2,r2,p2,_⟩:=I.tuple hb;obtain ⟨⟨cls,dd,data,sl⟩,ho,hc,n,hd⟩:=id p1;obtain ⟨⟨cls2,dd2,data2,sl2⟩,ho2,hc2,n2,hd2⟩:=id p2;simp only at hc hd hc2 hd2;subst hc hd hc2 hd2;have e:its=[]:=r1.nil_iff.mpr hx;exact concat_meets ⟨_,ho,rfl⟩ ⟨_,ho2,rfl⟩ noFill_tuple_add seq_tuple_add xiq xif (xhz _ _)
   (tuple_addW0 a b its.toArray its2.toArray n n2 dd dd2 sl sl2 (by simp[e])) ⟨ho,ho2,⟨.ref b,H,I,rfl,q0 hx⟩⟩
 ·exact zyk pins s σ H _ _ v u Q I rx ry ⟨a,b,xs,ys,rfl,rfl,ha,hb,hx,hz,fun z=>q1 hx z,fun z=>q2 hx z⟩
end
section
variable {prog:Program} {w:World} {A:Around} {E:Value->Shared->Prop} {s:Shared}
theorem zsb {t sl:Addr} {its:Array Value} {vl vu:Value} {lo hi:Option Int} {W:Value->Shared->Prop} (ht:IsTup s.heap t its) (hs:s.heap.IsSliceOf sl vl vu .none) (pl:IsPart vl lo) (pu:IsPart vu hi)
  (h0:HT.sIx its.size 0 lo=0) (h1:HT.sIx its.size its.size hi=its.size) (fin:W (.ref t) s):wpAny (model prog w) A (getItem (.ref t) (.ref sl)) W E s:=by
 obtain ⟨os,hos,hcs,hds⟩:=id hs;unfold getItem
 try with_reducible refine xdt ?_
 first | refine xba (xbh ?_) | skip
 refine xba (wpAny_sequenceKey ht.typeIs (by decide) ?_);refine xba (wpAny_callSpecial?_slot (name := Str.ofString "__getitem__") ht.typeIs xic (xfk xic ht.typeIs entry_tuple_getitem ?_ (args_tuple_getitem _ _)))
 show wpAny _ _ (Builtin.Tuple.tupleItemsOf (.ref t) >>= _) _ _ s;refine xba (tupleItemsOf_ ht ?_);have hTs : s.TypeIs (.ref sl) "slice" := ⟨os, hos, hcs⟩
 refine xba (wpAny_typeOf hTs ?_);rw[if_pos (by decide)];refine xba (HT.zcu hs pl pu ?_);have yes:(((HT.sIx its.size 0 lo:Nat):Int) == 0 && (1:Int) == 1 && (HT.sIx its.size its.size hi - HT.sIx its.size 0 lo) == its.size)=true:=by
  rw[h0,h1];simp
 show wpAny _ _ (if (((HT.sIx its.size 0 lo:Nat):Int) == 0 && (1:Int) == 1 && (HT.sIx its.size its.size hi - HT.sIx its.size 0 lo) == its.size)=true then _ else _) _ _ s;rw[if_pos yes];refine xba (?_:wpAny _ _ (Builtin.Tuple.tupleIsExact (.ref t)) _ _ s);unfold Builtin.Tuple.tupleIsExact;refine xba (wpAny_typeOf ht.typeIs (xbh ?_));rw[if_pos (by decide)];exact xba (xhk (xbh ⟨_,rfl,xbh fin⟩))
end
noncomputable def rSlA (K:Fg):V->Option Int->Option Int->Hp->VK->Prop:=fun x lo hi H Q=>∃a xs,x=.ref a/\SqT K H a xs/\(cutV xs lo hi=xs->Q (.ref a) H)/\∀p,H p=none->Q (.ref p) (upd H p (.tup (cutV xs lo hi)))
theorem zxd {X:Cx}:SlR X (rSlA X.K):=by
 intro pins s σ H x v vl vu lo hi sl Q I rx hs pl pu h;obtain ⟨a,xs,rfl,hx,q1,q2⟩:=h;by_cases hw:HT.sIx xs.length 0 lo=0/\HT.sIx xs.length xs.length hi=xs.length
 ·cases rx;obtain ⟨its,r,ht,hz⟩:=I.tuple hx;have hlen:its.toArray.size=xs.length:=by rw[xbp];exact r.length.symm
  refine ⟨"tuple", _, xic.lookup, ht.typeIs, ?_⟩
  refine zsb ht hs pl pu (by rw[hlen];exact hw.1) (by rw[hlen];exact hw.2) ⟨.ref a,H,I,rfl,q1 ?_⟩;unfold cutV;rw[hw.1,hw.2];simp
 ·exact zbby pins s σ H _ v vl vu lo hi sl Q I rx hs pl pu ⟨a,xs,rfl,hx,hw,q2⟩
theorem zgo (ns:List Int):∀k,k<=ns.length->preSum (fun i=>ns.getD i 0) k=(ns.take k).sum
 | 0,_=>rfl
 | k+1,h=>by
  show preSum (fun i=>ns.getD i 0) k+ns.getD k 0=_;rw[zgo ns k (by lia),xgf (by lia),xht,xdz,xbj (by lia)];simp
theorem zon:∀{ns:List Int} {us:List Value} {i:Nat} {v:Value},Vals (ns.map V.int) us->us[i]?=some v->∃t,v=.int (ns.getD i 0) t
 | [],_,_,_,.nil,e=>by simp at e
 | n::ns,_,0,_,.cons r _,e=>by
  simp at e;subst e
  obtain ⟨t,rfl⟩:=r;exact ⟨t,rfl⟩
 | n::ns,_,i+1,v,.cons _ t,e=>by
  have:=zon (i:=i) t (by simpa using e)
  simpa using this
noncomputable def rSum (K:Fg):List V->Hp->VK->Prop:=fun xs H Q=>∃(a:Addr) (ns:List Int),xs=[.ref a]/\(SqL K H a (ns.map V.int)\/SqT K H a (ns.map V.int))/\Q (.int ns.sum) H
theorem zsf {X : Cx} (hc : X.calm = true) : CallR X (.builtin "sum") (rSum X.K) := by
 intro pins s σ H xs us Q I r h;obtain ⟨a,ns,rfl,hs,q⟩:=h;obtain ⟨u,rfl,ru⟩:=vals1 r;cases ru;have key:∀{its:List Value} (h':Heap) (tk:Nat) (t':Tok) (nn:Nat),nn=ns.length->(∀b o,b≠s.heap.objs.size->s.heap.get? b=some o->h'.get? b=some o) ->
   EP X pins σ Q (.int (preSum (fun i=>ns.getD i 0) nn) t') {s with heap:=h',toks:=tk}:=fun h' tk t' nn hn hk=>by
  subst hn;rw[zgo ns _ (xbe _),xdj];exact ⟨.int ns.sum,H,I.kept (t':=tk) fun b o e=>hk b o (xce (xbk e)) e,⟨_,rfl⟩,q⟩
 refine call_sum_walkG ?_;rcases hs with hs | hs
 ·obtain ⟨its,rv,pl,hz⟩:=I.list hs;have hlt:a < s.heap.objs.size:=by obtain ⟨o,n,e,_⟩:=pl;exact xbk e
  have hl:=rv.length;rw[xbc] at hl;refine wpAny_pyIter_list pl.isList ?_;refine ⟨s.heap.objs.size,_,[s.heap.objs.size],_,_,_,fun i=>ns.getD i 0,rfl,Walks.list (A:=X.A.in1) (I.ok.hd hc) _ a (xce hlt) its.toArray,⟨⟨_,xcb _ rfl,rfl,rfl⟩,pl.isList.push _⟩,?_,fun i v e=>zon rv (by simpa using e),fun h' tk t' hk=>?_⟩
  ·intro b hb;show b < (s.heap.push _).objs.size;rw[show ∀o:Obj,(s.heap.push o).objs.size=s.heap.objs.size+1 from fun o=>by simp[Heap.push]];rcases xbt.mp hb with rfl | hb
   ·exact xkb _
   ·rcases xbt.mp hb with rfl | hb
    ·exact xjw hlt
    ·cases hb
  ·exact key (its:=its) h' tk t' _ (by simp[hl]) fun b o hb e=>hk b o (by simpa using hb) (xbg _ e)
 ·obtain ⟨its,rv,pl,hz⟩:=I.tuple hs;have hlt:a < s.heap.objs.size:=pl.lt;have hl:=rv.length;rw[xbc] at hl;have pt:s.heap.IsTuple a its.toArray:=pl;refine wpAny_pyIter_tuple pt ?_;refine ⟨s.heap.objs.size,_,[s.heap.objs.size],_,_,_,fun i=>ns.getD i 0,rfl,Walks.tuple (A:=X.A.in1) (I.ok.hd hc) _ a (xce hlt) its.toArray,⟨⟨_,xcb _ rfl,rfl,rfl⟩,pt.push _⟩,?_,fun i v e=>zon rv (by simpa using e),fun h' tk t' hk=>?_⟩
  ·intro b hb;show b < (s.heap.push _).objs.size;rw[show ∀o:Obj,(s.heap.push o).objs.size=s.heap.objs.size+1 from fun o=>by simp[Heap.push]];rcases xbt.mp hb with rfl | hb
   ·exact xkb _
   ·rcases xbt.mp hb with rfl | hb
    ·exact xjw hlt
    ·cases hb
  ·exact key (its:=its) h' tk t' _ (by simp[hl]) fun b o hb e=>hk b o (by simpa using hb) (xbg _ e)
section
variable {X:Cx} {pins:List (Addr × Obj)} {σ:St} {H:Hp} {s:Shared} {h':Heap}
end
section
variable {X:Cx}
end
noncomputable def bestI (gt:Bool) (n:Int) (ns:List Int):Int:=ns.foldl (fun i j=>if (if gt then decide (j > i) else decide (j < i))=true then j else i) n
section
variable {X:Cx}
end
section
variable {prog:Program} {w:World} {A:Around} {E:Value->Shared->Prop} {s:Shared} {z TI TO i1 i2 t1 t2:Addr} {xs ys:Array Value} {j:Nat}
end
section
variable {prog:Program} {w:World} {A:Around} {E:Value->Shared->Prop} {s:Shared} {z TI TO i1 i2 t1 t2:Addr} {xs ys:Array Value} {j:Nat}
end
section
variable {prog:Program} {w:World} {A:Around} {E:Value->Shared->Prop} {s:Shared}
end
section
variable {X:Cx}
end
end L2
namespace Dd
open PySem L2
set_option genInjectivity true in
inductive D where
 | non | bl (b:Bool) | int (i:Int) | str (x:Str) | ty (n:String) | ref (n:Nat) | tup (ds:List D) | lst (ds:List D) | scr (ds:List D) | exn (c:Str) (l:List Int)
set_option genInjectivity true in
inductive O where
 /-- a list that may change;a dict by tuples of ints;one that is only read;gone -/
 | lst (xs:List D) | dT (kvs:List (List Int × D)) | fT (kvs:List (List Int × D)) | dead
 /-- the law's table of codes -/
 | tab
noncomputable abbrev Store:=List O
structure Exc where
 cls:Str
 at_:List Int
set_option genInjectivity true in
inductive Res (α:Type) where
 | ok (a:α) (st:Store) | exc (x:Exc) (st:Store) | stuck
noncomputable def Res.bind {α β:Type}:Res α->(α->Store->Res β)->Res β
 | .ok a st,f=>f a st
 | .exc x st,_=>.exc x st
 | .stuck,_=>.stuck
@[simp] theorem zep {α β:Type} (a:α) (st:Store) (f:α->Store->Res β):(Res.ok a st).bind f=f a st:=rfl
@[simp] theorem zbfv {α β:Type} (x:Exc) (st:Store) (f:α->Store->Res β):(Res.exc x st:Res α).bind f=.exc x st:=rfl
@[simp] theorem zbba {α β:Type} (f:α->Store->Res β):(Res.stuck:Res α).bind f=.stuck:=rfl
theorem zb {α β:Type} {r:Res α} {f:α->Store->Res β} {b:β} {st':Store} (h:r.bind f=.ok b st'):∃a st,r=.ok a st/\f a st=.ok b st':=by
 cases r with
 | ok a st=>exact ⟨a,st,rfl,h⟩
 | exc x st=>cases h
 | stuck=>cases h
noncomputable abbrev DS:=List (Option D)
noncomputable abbrev SE:=DS->Store->Res D
noncomputable abbrev ST:=DS->Store->Res Bool
noncomputable abbrev SA:=DS->Store->Res (List D)
set_option genInjectivity true in
inductive Fl where
 | nx (σ:DS) | ret (v:D) | brk (σ:DS) | ct (σ:DS)
noncomputable abbrev SS:=DS->Store->Res Fl
noncomputable abbrev DFn:=List D->Store->Res D
structure Loc where
 m:List (Option Addr)
 g:List Addr
noncomputable def Out (ρ:Loc) (a:Addr):Prop:=some a∉ρ.m/\a∉ρ.g
noncomputable def Ls (K:Fg) (ρ:Loc) (H:Hp) (a:Addr) (vs:List V):Prop:=(Rd H a (.lst vs)/\Out ρ a)\/∀H':Hp,SqL K H' a vs
noncomputable def XAt (K:Fg) (ρ:Loc) (H:Hp) (c:Str) (l:List Int) (a:Addr):Prop:=∃C o,PySem.W.nsIn K mainGlobals c=some (some (.ref C))/\(H a=some (.frz o (.ext fun _=>True))/\Out ρ a)/\o.cls=.ref C/\(∃vs,o.data=.fields vs/\vs[2]?=some .none) /\
 ((l = [] /\ o.dict = none) \/ ∃ i dx od, l = [i] /\ o.dict = some dx /\ H dx = some (.frz od (.xd [("at", .int i)])) /\ Out ρ dx)
theorem XAt.map {K:Fg} {ρ ρ':Loc} {H H':Hp} {c:Str} {l:List Int} {a:Addr} (h:XAt K ρ H c l a) (f:∀b ob u,H b=some (.frz ob u)->Out ρ b->H' b=some (.frz ob u)/\Out ρ' b):XAt K ρ' H' c l a:=by
 obtain ⟨C,o,h1,h2,h3,h4,h5⟩:=h;refine ⟨C,o,h1,f _ _ _ h2.1 h2.2,h3,h4,?_⟩;rcases h5 with h5 | ⟨i,dx,od,h6,h7,h8,h9⟩
 ·exact .inl h5
 ·exact .inr ⟨i,dx,od,h6,h7,(f _ _ _ h8 h9).1,(f _ _ _ h8 h9).2⟩
mutual
inductive At (K:Fg) (ρ:Loc) (H:Hp):D->V->Prop
 | non:At K ρ H .non .non
 | bl (b:Bool):At K ρ H (.bl b) (.bl b)
 | int (i:Int):At K ρ H (.int i) (.int i)
 | str (x:Str):At K ρ H (.str x) (.str x)
 | ty (n:String):At K ρ H (.ty n) (.ty n)
 | ref {n:Nat} {v:V}:n < ρ.m.length->(∀a,ρ.m[n]?=some (some a)->v=.ref a)->At K ρ H (.ref n) v
 | tup {a:Addr} {ds:List D} {vs:List V}:H a=some (.tup vs)->Out ρ a->AtAll K ρ H ds vs->At K ρ H (.tup ds) (.ref a)
 | lst {a:Addr} {ds:List D} {vs:List V}:H a=some (.lst vs)->Out ρ a->AtAll K ρ H ds vs->At K ρ H (.lst ds) (.ref a)
 | scr {a:Addr} {ds:List D} {vs:List V}:Ls K ρ H a vs->AtAll K ρ H ds vs->At K ρ H (.scr ds) (.ref a)
 | exn {c:Str} {l:List Int} {a:Addr}:XAt K ρ H c l a->At K ρ H (.exn c l) (.ref a)
inductive AtAll (K:Fg) (ρ:Loc) (H:Hp):List D->List V->Prop
 | nil:AtAll K ρ H [] []
 | cons {d:D} {ds:List D} {v:V} {vs:List V}:At K ρ H d v->AtAll K ρ H ds vs->AtAll K ρ H (d::ds) (v::vs)
end
structure Mv (ρ:Loc) (H:Hp) (ρ':Loc) (H':Hp):Prop where
 out:∀{a:Addr} {o:HO},H a=some o->Out ρ a->H' a=some o/\Out ρ' a
 len:ρ.m.length<=ρ'.m.length
 old:∀(n:Nat) (a:Addr),n < ρ.m.length->ρ'.m[n]?=some (some a)->ρ.m[n]?=some (some a)
theorem Ls.mv {K:Fg} {ρ ρ':Loc} {H H':Hp} {a:Addr} {vs:List V} (x:Mv ρ H ρ' H') (h:Ls K ρ H a vs):Ls K ρ' H' a vs:=by
 rcases h with ⟨h | ⟨o,h⟩,n⟩ | h
 ·exact .inl ⟨.inl (x.out h n).1,(x.out h n).2⟩
 ·exact .inl ⟨.inr ⟨o,(x.out h n).1⟩,(x.out h n).2⟩
 ·exact .inr h
theorem At.mv {K:Fg} {ρ ρ':Loc} {H H':Hp} (x:Mv ρ H ρ' H') {d:D} {v:V} (h:At K ρ H d v):At K ρ' H' d v :=
 At.rec (motive_1:=fun d v _=>At K ρ' H' d v) (motive_2:=fun d v _=>AtAll K ρ' H' d v) .non .bl .int .str .ty (fun h e=>.ref (xbd h x.len) fun a q=>e a (x.old _ a h q)) (fun h n _ ih=>.tup (x.out h n).1 (x.out h n).2 ih) (fun h n _ ih=>.lst (x.out h n).1 (x.out h n).2 ih) (fun h _ ih=>.scr (h.mv x) ih) (fun h=>.exn (h.map fun _ _ _ e n=>x.out e n)) .nil (fun _ _ a b=>.cons a b) h
theorem AtAll.mv {K:Fg} {ρ ρ':Loc} {H H':Hp} (x:Mv ρ H ρ' H') {d:List D} {v:List V} (h:AtAll K ρ H d v):AtAll K ρ' H' d v :=
 AtAll.rec (motive_1:=fun _ _ _=>True) (motive_2:=fun d v _=>AtAll K ρ' H' d v) trivial (fun _=>trivial) (fun _=>trivial) (fun _=>trivial) (fun _=>trivial) (fun _ _=>trivial) (fun _ _ _ _=>trivial) (fun _ _ _ _=>trivial) (fun _ _ _=>trivial) (fun _=>trivial) .nil (fun a _ _ b=>.cons (a.mv x) b) h
structure Ext (ρ:Loc) (H:Hp) (ρ':Loc) (H':Hp):Prop where
 len:ρ.m.length<=ρ'.m.length
 old:∀(n:Nat) (a:Addr),n < ρ.m.length->ρ'.m[n]?=some (some a)->ρ.m[n]?=some (some a)
 keep:∀a o,H a=some o->some a∉ρ.m->H' a=some o/\some a∉ρ'.m
 gho:ρ'.g=ρ.g
 frz:∀a ob u,H a=some (.frz ob u)->H' a=some (.frz ob u)
theorem Ext.out {ρ ρ':Loc} {H H':Hp} (x:Ext ρ H ρ' H') {a:Addr} {o:HO} (h:H a=some o) (n:Out ρ a):H' a=some o/\Out ρ' a :=
 ⟨(x.keep a o h n.1).1,(x.keep a o h n.1).2,by rw[x.gho];exact n.2⟩
theorem Ext.mv {ρ ρ':Loc} {H H':Hp} (x:Ext ρ H ρ' H'):Mv ρ H ρ' H':=⟨fun h n=>x.out h n,x.len,x.old⟩
theorem Ls.sq {K:Fg} {ρ:Loc} {H:Hp} {a:Addr} {vs:List V} (h:Ls K ρ H a vs):SqL K H a vs:=by
 rcases h with h | h
 ·exact .inl h.1
 ·exact h H
section
variable {K:Fg}
theorem Ext.refl (ρ:Loc) (H:Hp):Ext ρ H ρ H:=⟨xbe _,fun _ _ _ e=>e,fun _ _ e n=>⟨e,n⟩,rfl,fun _ _ _ e=>e⟩
theorem Ext.trans {ρ ρ1 ρ2:Loc} {H H1 H2:Hp} (a:Ext ρ H ρ1 H1) (b:Ext ρ1 H1 ρ2 H2):Ext ρ H ρ2 H2 :=
 ⟨xbb a.len b.len,fun n c h e=>a.old n c h (b.old n c (xbd h a.len) e),fun c o e n=>by
  obtain ⟨e1,n1⟩:=a.keep c o e n
  exact b.keep c o e1 n1,b.gho.trans a.gho,fun c ob u e=>b.frz c ob u (a.frz c ob u e)⟩
theorem At.ext {ρ ρ':Loc} {H H':Hp} (x:Ext ρ H ρ' H') {d:D} {v:V} (h:At K ρ H d v):At K ρ' H' d v:=h.mv x.mv
theorem AtAll.ext {ρ ρ':Loc} {H H':Hp} (x:Ext ρ H ρ' H') {d:List D} {v:List V} (h:AtAll K ρ H d v):AtAll K ρ' H' d v:=h.mv x.mv
theorem AtAll.length {ρ:Loc} {H:Hp}:∀{ds:List D} {vs:List V},AtAll K ρ H ds vs->vs.length=ds.length
 | _,_,.nil=>rfl
 | _,_,.cons _ t=>by rw[xcd,xcd,AtAll.length t]
theorem AtAll.get {ρ:Loc} {H:Hp}:∀{ds:List D} {vs:List V} {i:Nat} {d:D},AtAll K ρ H ds vs->ds[i]?=some d->∃v,vs[i]?=some v/\At K ρ H d v
 | _,_,_,_,.nil,e=>by simp at e
 | _,_,0,_,.cons a _,e=>by simp at e;subst e;exact ⟨_,rfl,a⟩
 | _,_,i+1,d,.cons _ t,e=>by
  obtain ⟨u,h1,h2⟩:=AtAll.get (i:=i) (d:=d) t (by simpa using e);exact ⟨u,by simpa using h1,h2⟩
theorem AtAll.append {ρ:Loc} {H:Hp}:∀{ds es:List D} {vs us:List V},AtAll K ρ H ds vs->AtAll K ρ H es us->AtAll K ρ H (ds++es) (vs++us)
 | _,_,_,_,.nil,b=>b
 | _,_,_,_,.cons a t,b=>.cons a (AtAll.append t b)
theorem AtAll.take {ρ:Loc} {H:Hp}:∀{ds:List D} {vs:List V} (n:Nat),AtAll K ρ H ds vs->AtAll K ρ H (ds.take n) (vs.take n)
 | _,_,0,_=>.nil
 | _,_,_+1,.nil=>.nil
 | _,_,n+1,.cons a t=>.cons a (AtAll.take n t)
theorem AtAll.drop {ρ:Loc} {H:Hp}:∀{ds:List D} {vs:List V} (n:Nat),AtAll K ρ H ds vs->AtAll K ρ H (ds.drop n) (vs.drop n)
 | _,_,0,h=>h
 | _,_,_+1,.nil=>.nil
 | _,_,n+1,.cons a t=>AtAll.drop n t
theorem AtAll.set {ρ:Loc} {H:Hp} {d:D} {v:V} (a:At K ρ H d v):∀{ds:List D} {vs:List V} (n:Nat),AtAll K ρ H ds vs->AtAll K ρ H (ds.set n d) (vs.set n v)
 | _,_,_,.nil=>.nil
 | _,_,0,.cons _ t=>.cons a t
 | _,_,n+1,.cons b t=>.cons b (AtAll.set a n t)
noncomputable def KvAt (K:Fg) (ρ:Loc) (H:Hp):List (List Int × D)->List (List Key × V)->Prop:=Paired fun p q=>q.1=p.1.map Sum.inl/\At K ρ H p.2 q.2
theorem KvAt.ext {ρ ρ':Loc} {H H':Hp} (x:Ext ρ H ρ' H') {a:List (List Int × D)} {b:List (List Key × V)} (h:KvAt K ρ H a b):KvAt K ρ' H' a b:=Paired.mapP h fun p q z=>⟨z.1,z.2.ext x⟩
noncomputable abbrev lamQ : Str := (("law" : Str) ++ ".<locals>.") ++ "<lambda>"
noncomputable def TabOk (H:Hp) (ps:Array Value):Prop:=TriplesOk ps.toList/\∀pos cv,codeAmong pos ps.toList=some cv->∃c oc vs t,cv=.ref c/\H c=some (.frz oc (.ext fun _=>True))/\oc.data=.fields vs/\vs[1]?=some (.str lamQ t)
theorem TabOk.map {H H':Hp} {ps:Array Value} (h:TabOk H ps) (f:∀b ob u,H b=some (.frz ob u)->H' b=some (.frz ob u)):TabOk H' ps :=
 ⟨h.1,fun pos cv e=>by obtain ⟨c,oc,vs,t,e1,e2,e3⟩:=h.2 pos cv e;exact ⟨c,oc,vs,t,e1,f _ _ _ e2,e3⟩⟩
noncomputable def OAt (K:Fg) (ρ:Loc) (H:Hp):O->Addr->Prop
 | .lst xs,a=>∃vs,H a=some (.lst vs)/\AtAll K ρ H xs vs
 | .dT kvs,a=>∃vs,H a=some (.dT vs)/\KvAt K ρ H kvs vs
 | .fT kvs,a=>∃vs ob,H a=some (.frz ob (.dT vs))/\KvAt K ρ H kvs vs
 | .dead,_=>False
 | .tab, a => (∃ c, PySem.W.tabIn K "law" = some (c, a)) /\ ∃ ps, H a = some (.tbl ps) /\ TabOk H ps
structure Rep (K:Fg) (ρ:Loc) (st:Store) (H:Hp):Prop where
 len:ρ.m.length=st.length
 inj:∀(n m:Nat) (a:Addr),ρ.m[n]?=some (some a)->ρ.m[m]?=some (some a)->n=m
 obj:∀(n:Nat) (a:Addr) (o:O),ρ.m[n]?=some (some a)->st[n]?=some o->OAt K ρ H o a
 gh:∀a∈ρ.g,(∃vs,H a=some (.lst vs))/\some a∉ρ.m
 live:∀(n:Nat) (o:O),st[n]?=some o->o≠.dead->∃a,ρ.m[n]?=some (some a)
noncomputable def AtO (K:Fg) (ρ:Loc) (H:Hp) (o:Option D) (v:Option V):Prop:=∀d,o=some d->∃u,v=some u/\At K ρ H d u
noncomputable abbrev AtS (K:Fg) (ρ:Loc) (H:Hp):DS->St->Prop:=Paired (AtO K ρ H)
theorem AtS.ext {ρ ρ':Loc} {H H':Hp} (x:Ext ρ H ρ' H') {σ:DS} {τ:St} (h:AtS K ρ H σ τ):AtS K ρ' H' σ τ:=Paired.mapP h fun o v z d e=>by
 obtain ⟨u,e1,a⟩:=z d e;exact ⟨u,e1,a.ext x⟩
theorem AtS.get {ρ:Loc} {H:Hp}:∀{σ:DS} {τ:St} {i:Nat} {d:D},AtS K ρ H σ τ->σ[i]?=some (some d)->∃u,τ[i]?=some (some u)/\At K ρ H d u
 | _,_,_,_,.nil,e=>by simp at e
 | _,_,0,_,.cons a _,e=>by
  simp at e;subst e
  obtain ⟨u,e1,h⟩:=a _ rfl;exact ⟨u,by simp[e1],h⟩
 | _,_,i+1,d,.cons _ t,e=>by
  obtain ⟨u,h1,h2⟩:=AtS.get (i:=i) (d:=d) t (by simpa using e);exact ⟨u,by simpa using h1,h2⟩
theorem AtS.set {ρ:Loc} {H:Hp} {d:D} {v:V} (a:At K ρ H d v):∀{σ:DS} {τ:St} (i:Nat),AtS K ρ H σ τ->AtS K ρ H (σ.set i (some d)) (τ.set i (some v))
 | _,_,_,.nil=>.nil
 | _,_,0,.cons _ t=>.cons (fun d' e=>by cases e;exact ⟨v,rfl,a⟩) t
 | _,_,i+1,.cons q t=>.cons q (AtS.set a i t)
end
noncomputable def tD (K:Fg) (f:SE):TE:=fun τ H Q=>∃ρ σ st v st',AtS K ρ H σ τ/\Rep K ρ st H/\f σ st=.ok v st'/\∀ρ' H' u,Ext ρ H ρ' H'->Rep K ρ' st' H'->At K ρ' H' v u->Q u H'
noncomputable def tDT (K:Fg) (f:ST):TT:=fun τ H Q=>∃ρ σ st v st',AtS K ρ H σ τ/\Rep K ρ st H/\f σ st=.ok v st'/\∀ρ' H',Ext ρ H ρ' H'->Rep K ρ' st' H'->Q v H'
noncomputable def tDA (K:Fg) (f:SA):TA:=fun τ H Q=>∃ρ σ st v st',AtS K ρ H σ τ/\Rep K ρ st H/\f σ st=.ok v st'/\∀ρ' H' u,Ext ρ H ρ' H'->Rep K ρ' st' H'->AtAll K ρ' H' v u->Q u H'
noncomputable def FlOk (K:Fg) (ρ:Loc) (H:Hp) (st':Store) (E:Ends):Fl->Prop
 | .nx σ=>∀ρ' H' τ,Ext ρ H ρ' H'->Rep K ρ' st' H'->AtS K ρ' H' σ τ->E.nx τ H'
 | .brk σ=>∀ρ' H' τ,Ext ρ H ρ' H'->Rep K ρ' st' H'->AtS K ρ' H' σ τ->E.bk τ H'
 | .ct σ=>∀ρ' H' τ,Ext ρ H ρ' H'->Rep K ρ' st' H'->AtS K ρ' H' σ τ->E.ct τ H'
 | .ret v=>∀ρ' H' u,Ext ρ H ρ' H'->Rep K ρ' st' H'->At K ρ' H' v u->E.rt u H'
theorem FlOk.ext {K:Fg} {ρ ρ1:Loc} {H H1:Hp} {st':Store} {E:Ends} {fl:Fl} (x:Ext ρ H ρ1 H1) (h:FlOk K ρ H st' E fl):FlOk K ρ1 H1 st' E fl:=by
 cases fl with
 | nx σ=>exact fun ρ' H' τ e=>h ρ' H' τ (x.trans e)
 | brk σ=>exact fun ρ' H' τ e=>h ρ' H' τ (x.trans e)
 | ct σ=>exact fun ρ' H' τ e=>h ρ' H' τ (x.trans e)
 | ret v=>exact fun ρ' H' τ e=>h ρ' H' τ (x.trans e)
noncomputable def tDS (K:Fg) (f:SS):TS:=fun E τ H=>∃ρ σ st fl st',AtS K ρ H σ τ/\Rep K ρ st H/\f σ st=.ok fl st'/\FlOk K ρ H st' E fl
noncomputable abbrev DE (X:Cx) (e:Expr) (f:SE):Prop:=PE X e (tD X.K f)
noncomputable abbrev DT (X:Cx) (e:Expr) (f:ST):Prop:=PT X e (tDT X.K f)
noncomputable abbrev DW (X:Cx) (e:Expr) (f:ST):Prop:=PW X e (tDT X.K f)
noncomputable abbrev DA (X:Cx) (es:List Expr) (f:SA):Prop:=PA X es (tDA X.K f)
noncomputable abbrev DSt (X:Cx) (s:Stmt) (f:SS):Prop:=PS X s (tDS X.K f)
noncomputable abbrev DSs (X:Cx) (s:List Stmt) (f:SS):Prop:=PSs X s (tDS X.K f)
section
variable {X:Cx} {e:Expr} {es:List Expr} {s:Stmt} {ss:List Stmt}
theorem zef {t t':TE} (h:PE X e t) (k:∀σ H Q,t' σ H Q->t σ H Q):PE X e t':=fun pins s σ H Q I q=>h pins s σ H Q I (k _ _ _ q)
theorem zbbg {t t':TT} (h:PT X e t) (k:∀σ H Q,t' σ H Q->t σ H Q):PT X e t':=fun pins s σ H Q I q=>h pins s σ H Q I (k _ _ _ q)
theorem pw_to {t t':TT} (h:PW X e t) (k:∀σ H Q,t' σ H Q->t σ H Q):PW X e t':=fun wh pins s σ H Q I q=>h wh pins s σ H Q I (k _ _ _ q)
theorem zbbi {t t':TA} (h:PA X es t) (k:∀σ H Q,t' σ H Q->t σ H Q):PA X es t':=fun pos pins s σ H Q I q=>h pos pins s σ H Q I (k _ _ _ q)
theorem zlu {t t':TS} (h:PS X s t) (k:∀E σ H,t' E σ H->t E σ H):PS X s t':=fun pins z σ H E I q=>h pins z σ H E I (k _ _ _ q)
theorem znk {t t':TS} (h:PSs X ss t) (k:∀E σ H,t' E σ H->t E σ H):PSs X ss t':=fun pins z σ H E I q=>h pins z σ H E I (k _ _ _ q)
end
noncomputable def eVar (i:Nat):SE:=fun σ st=>match σ[i]? with
 | some (some d)=>.ok d st
 | _=>.stuck
noncomputable def eC (d:D):SE:=fun _ st=>.ok d st
section
variable {X:Cx}
theorem zbin {e:Expr} {i:Nat} (h:PE X e (tVar i)):DE X e (eVar i):=zef h fun τ H Q hq0=>by
 obtain ⟨ρ,σ,st,v,st',a,r,e,q⟩:=hq0;unfold eVar at e;split at e
 ·rename_i d hd;cases e;obtain ⟨u,e1,e2⟩:=a.get hd;exact ⟨u,e1,q ρ H u (.refl _ _) r e2⟩
 ·cases e
theorem zbao {e:Expr} {v:V} {d:D} (h:PE X e (tC v)) (k:∀ρ H,At X.K ρ H d v):DE X e (eC d):=zef h fun τ H Q hq0=>by
 obtain ⟨ρ,σ,st,v,st',a,r,e,q⟩:=hq0;cases e;exact q ρ H _ (.refl _ _) r (k _ _)
theorem zbiv {i j pos}:DE X (.Constant (.int i) j pos) (eC (.int i)):=zbao zbcz fun _ _=>.int i
theorem d_bl {b j pos}:DE X (.Constant (.bool b) j pos) (eC (.bl b)):=zbao zbhr fun _ _=>.bl b
theorem zbis {j pos}:DE X (.Constant .none j pos) (eC .non):=zbao zbcx fun _ _=>.non
theorem zbip {x j pos}:DE X (.Constant (.str x) j pos) (eC (.str x)):=zbao zbcu fun _ _=>.str x
end
noncomputable def eOp (g:D->D->Store->Res D) (f f':SE):SE:=fun σ st=>(f σ st).bind fun x st1=>(f' σ st1).bind fun y st2=>g x y st2
noncomputable def eUn (g:D->Store->Res D) (f:SE):SE:=fun σ st=>(f σ st).bind fun x st1=>g x st1
noncomputable def OpD (K:Fg) (g:D->D->Store->Res D) (r:R2):Prop :=
 ∀ρ H st x y u v z st' (Q:VK),Rep K ρ st H->At K ρ H x u->At K ρ H y v->g x y st=.ok z st'->(∀ρ' H' w,Ext ρ H ρ' H'->Rep K ρ' st' H'->At K ρ' H' z w->Q w H')->r u v H Q
theorem zbbj {K:Fg} {g:D->D->Store->Res D} {r:R2} (hr:OpD K g r) {f f':SE}:∀τ H Q,tD K (eOp g f f') τ H Q->tOp r (tD K f) (tD K f') τ H Q:=fun τ H Q hq0=>by
 obtain ⟨ρ,σ,st,v,st',a,rp,e,q⟩:=hq0;obtain ⟨x,st1,e1,e⟩:=zb e;obtain ⟨y,st2,e2,e⟩:=zb e;refine ⟨ρ,σ,st,x,st1,a,rp,e1,fun ρ1 H1 u x1 rp1 a1=>?_⟩;refine ⟨ρ1,σ,st1,y,st2,a.ext x1,rp1,e2,fun ρ2 H2 w x2 rp2 a2=>?_⟩;exact hr ρ2 H2 st2 x y u w v st' Q rp2 (a1.ext x2) a2 e fun ρ' H' z x3 rp3 a3=>q ρ' H' z (x1.trans (x2.trans x3)) rp3 a3
section
variable {X:Cx} {a b c:Expr} {f f' f'':SE} {pos:Pos}
theorem d_op {op:Operator} {r:R2} {g:D->D->Store->Res D} (ho:OpR X (binaryOp op) r) (hr:OpD X.K g r) (ha:DE X a f) (hb:DE X b f'):DE X (.BinOp a op b pos) (eOp g f f'):=zef (zbhp ho ha hb) (zbbj hr)
theorem zbix {op:CmpOp} {r:R2} {g:D->D->Store->Res D} (ho:OpR X (compareOp op) r) (hr:OpD X.K g r) (ha:DE X a f) (hb:DE X b f') (hm:behindInMarks op b=false):DE X (.Compare a [op] [b] pos) (eOp g f f'):=zef (zye ho ha hb hm) (zbbj hr)
noncomputable def eB (f:SE):ST:=fun σ st=>(f σ st).bind fun v st1=>match v with
 | .bl b=>.ok b st1
 | _=>.stuck
theorem eB_t {K:Fg} {f:SE}:∀τ H Q,tDT K (eB f) τ H Q->tD K f τ H fun x H1=>∃c,x=.bl c/\Q c H1:=fun τ H Q hq0=>by
 obtain ⟨ρ,σ,st,v,st',a,rp,e,q⟩:=hq0;obtain ⟨x,st1,e1,e⟩:=zb e;refine ⟨ρ,σ,st,x,st1,a,rp,e1,fun ρ1 H1 u x1 rp1 a1=>?_⟩;cases x<;>try (cases e;done)
 cases e;cases a1;exact ⟨_,rfl,q _ _ x1 rp1⟩
theorem zbeo {op:CmpOp} {r:R2} {g:D->D->Store->Res D} (ho:OpR X (compareOp op) r) (hr:OpD X.K g r) (ha:DE X a f) (hb:DE X b f') (hm:behindInMarks op b=false):DT X (.Compare a [op] [b] pos) (eB (eOp g f f')) :=
 zbbg (zxj ho ha hb hm) fun τ H Q h=>zbbj hr _ _ _ (eB_t _ _ _ h)
noncomputable def eChain (g g':D->D->Store->Res D) (f f' f'':SE):SE:=fun σ st=>(f σ st).bind fun x st1=>(f' σ st1).bind fun y st2=>(g x y st2).bind fun z st3=>match z with
 | .bl true=>(f'' σ st3).bind fun w st4=>g' y w st4
 | .bl false=>.ok (.bl false) st3
 | _=>.stuck
end
end Dd
namespace Dd
open PySem L2
section
variable {K:Fg} {ρ:Loc} {st:Store} {H:Hp} {p a:Addr} {o:HO} {n:Nat}
theorem Ext.new (hp:H p=none) (o:HO):Ext ρ H ρ (upd H p o):=⟨xbe _,fun _ _ _ e=>e,fun b u e m=>⟨by rw[zh (ze e hp)];exact e,m⟩,rfl,fun b ob u e=>by rw[zh (ze e hp)];exact e⟩
theorem zhm {vs:List V} (h:H a=some (.lst vs)):∀ob u,H a≠some (.frz ob u):=fun ob u z=>by rw[h] at z;cases z
theorem zgq {vs:List (List Key × V)} (h:H a=some (.dT vs)):∀ob u,H a≠some (.frz ob u):=fun ob u z=>by rw[h] at z;cases z
theorem Ext.wr (h:ρ.m[n]?=some (some a)) (hz:∀ob u,H a≠some (.frz ob u)) (o:HO):Ext ρ H ρ (upd H a o):=⟨xbe _,fun _ _ _ e=>e,fun b u e m=>⟨by
 rw[zh]
 ·exact e
 ·rintro rfl
  exact m (xcg h),m⟩,rfl,fun b ob u e=>by
 rw[zh]
 ·exact e
 ·rintro rfl
  exact hz _ _ e⟩
theorem OAt.has {x:O} (h:OAt K ρ H x a):∃u,H a=some u:=by
 cases x with
 | lst xs=>obtain ⟨vs,e,_⟩:=h;exact ⟨_,e⟩
 | dT kvs=>obtain ⟨vs,e,_⟩:=h;exact ⟨_,e⟩
 | fT kvs=>obtain ⟨vs,ob,e,_⟩:=h;exact ⟨_,e⟩
 | dead=>exact h.elim
 | tab=>obtain ⟨_,ps,e,_⟩:=h;exact ⟨_,e⟩
theorem OAt.ext {ρ':Loc} {H':Hp} {x:O} (e:Ext ρ H ρ' H') (same:H' a=H a) (h:OAt K ρ H x a):OAt K ρ' H' x a:=by
 cases x with
 | lst xs=>obtain ⟨vs,q,r⟩:=h;exact ⟨vs,by rw[same];exact q,r.ext e⟩
 | dT kvs=>obtain ⟨vs,q,r⟩:=h;exact ⟨vs,by rw[same];exact q,r.ext e⟩
 | fT kvs=>obtain ⟨vs,ob,q,r⟩:=h;exact ⟨vs,ob,by rw[same];exact q,r.ext e⟩
 | dead=>exact h.elim
 | tab=>obtain ⟨c,ps,q,r⟩:=h;exact ⟨c,ps,by rw[same];exact q,r.map e.frz⟩
theorem Rep.has (r:Rep K ρ st H) (h:ρ.m[n]?=some (some a)):∃x,st[n]?=some x/\OAt K ρ H x a:=by
 have hn:n < st.length:=by rw[← r.len];exact (xbl.mp h).1
 exact ⟨st[n],xbj hn,r.obj n a _ h (xbj hn)⟩
theorem Rep.new (r:Rep K ρ st H) (hp:H p=none) (o:HO):Rep K ρ st (upd H p o):=⟨r.len,r.inj,fun m b x e1 e2=>by
 have q:=r.obj m b x e1 e2;obtain ⟨u,hu⟩:=q.has;exact q.ext (Ext.new hp o) (zh (ze hu hp)),fun b hb=>by
 obtain ⟨⟨u,hu⟩,n⟩:=r.gh b hb
 exact ⟨⟨u,by rw[zh (ze hu hp)];exact hu⟩,n⟩,r.live⟩
theorem Rep.wr (r:Rep K ρ st H) (h:ρ.m[n]?=some (some a)) (hz:∀ob u,H a≠some (.frz ob u)) {x:O} {o:HO} (q:OAt K ρ (upd H a o) x a):Rep K ρ (st.set n x) (upd H a o):=⟨by rw[r.len,xeq],r.inj,fun m b y e1 e2=>by
 by_cases hm:m=n
 ·subst hm;have hb:b=a:=by rw[h] at e1;exact (xbw (xbw e1)).symm
  subst hb;have hl:m < st.length:=by rw[← r.len];exact (xbl.mp h).1
  rw[xdr hl] at e2;cases e2;exact q
 ·rw[xcl (xej hm)] at e2;refine (r.obj m b y e1 e2).ext (Ext.wr h hz o) (zh fun z=>hm ?_);subst z;exact r.inj m n b e1 h,fun b hb=>by
 obtain ⟨⟨u,hu⟩,n1⟩:=r.gh b hb;refine ⟨⟨u,?_⟩,n1⟩;rw[zh]
 ·exact hu
 ·rintro rfl;exact n1 (xcg h),fun m y e ne=>by
 by_cases hm:m=n
 ·subst hm;exact ⟨a,h⟩
 ·rw[xcl (xej hm)] at e
  exact r.live m y e ne⟩
theorem Rep.alloc (r:Rep K ρ st H) (hp:H p=none) {x:O} {o:HO} (q:Ext ρ H ⟨ρ.m++[some p],ρ.g⟩ (upd H p o)->OAt K ⟨ρ.m++[some p],ρ.g⟩ (upd H p o) x p):Ext ρ H ⟨ρ.m++[some p],ρ.g⟩ (upd H p o)/\Rep K ⟨ρ.m++[some p],ρ.g⟩ (st++[x]) (upd H p o):=by
 have hn:∀(m:Nat) (b:Addr),(ρ.m++[some p])[m]?=some (some b)->(m < ρ.m.length/\ρ.m[m]?=some (some b))\/(m=ρ.m.length/\b=p):=fun m b e=>by
  rcases xge m ρ.m.length with z | z
  ·rw[xbv z] at e;exact .inl ⟨z,e⟩
  ·rw[xch z] at e;have z2:m - ρ.m.length=0:=by
    have:=(xbl.mp e).1;simp at this;lia
   rw[z2] at e;simp at e;exact .inr ⟨by lia,e.symm⟩
 have nl:∀(m:Nat),ρ.m[m]?≠some (some p):=fun m e=>by
  obtain ⟨x,_,q⟩:=r.has e;obtain ⟨u,hu⟩:=q.has;rw[hp] at hu;cases hu
 have E:Ext ρ H ⟨ρ.m++[some p],ρ.g⟩ (upd H p o):=⟨by rw[xbm];lia,fun m b h e=>by
   rw[xbv h] at e;exact e,fun b u e m=>⟨by rw[zh (ze e hp)];exact e,fun z=>by
   rcases xbz.mp z with z | z
   ·exact m z
   ·simp at z;subst z;rw[hp] at e;cases e⟩,rfl,fun b ob u e=>by rw[zh (ze e hp)];exact e⟩
 refine ⟨E,⟨by rw[xbm,xbm,r.len];rfl,fun m k b e1 e2=>?_,fun m b y e1 e2=>?_,fun b hb=>?_,fun m y e ne=>?_⟩⟩
 ·rcases hn m b e1 with ⟨h1,q1⟩ | ⟨h1,rfl⟩
  ·rcases hn k b e2 with ⟨h2,q2⟩ | ⟨h2,rfl⟩
   ·exact r.inj m k b q1 q2
   ·exact absurd q1 (nl m)
  ·rcases hn k b e2 with ⟨h2,q2⟩ | ⟨h2,_⟩
   ·exact absurd q2 (nl k)
   ·lia
 ·rcases hn m b e1 with ⟨h1,q1⟩ | ⟨h1,rfl⟩
  ·rw[xbv (by rw[← r.len];exact h1)] at e2;have q:=r.obj m b y q1 e2;obtain ⟨u,hu⟩:=q.has;exact q.ext E (zh (ze hu hp))
  ·rw[h1,r.len,xch (xbe _)] at e2;simp at e2;subst e2;exact q E
 ·obtain ⟨⟨u,hu⟩,n1⟩:=r.gh b hb;refine ⟨⟨u,by rw[zh (ze hu hp)];exact hu⟩,fun z=>?_⟩;rcases xbz.mp z with z | z
  ·exact n1 z
  ·simp at z;subst z;rw[hp] at hu;cases hu
 ·rcases xge m st.length with z | z
  ·rw[xbv z] at e;obtain ⟨b,hb⟩:=r.live m y e ne;exact ⟨b,by rw[xbv (by rw[r.len];exact z)];exact hb⟩
  ·have z2:=(xbl.mp e).1;simp at z2;have z3:m=ρ.m.length:=by rw[r.len];lia
   exact ⟨p,by rw[z3,xch (xbe _)];simp⟩
theorem Rep.kill (r:Rep K ρ st H) (h:n < ρ.m.length):Ext ρ H ⟨ρ.m.set n none,ρ.g⟩ H/\Rep K ⟨ρ.m.set n none,ρ.g⟩ (st.set n .dead) H:=by
 have hn:∀(m:Nat) (b:Addr),(ρ.m.set n none)[m]?=some (some b)->m≠n/\ρ.m[m]?=some (some b):=fun m b e=>by
  by_cases z:m=n
  ·subst z;rw[xdr h] at e;simp at e
  ·rw[xcl (xej z)] at e;exact ⟨z,e⟩
 have E:Ext ρ H ⟨ρ.m.set n none,ρ.g⟩ H:=⟨by rw[xeq];exact xbe _,fun m b _ e=>(hn m b e).2,fun b o e m=>⟨e,fun z=>by
  obtain ⟨i,hi,e2⟩:=xer z;have:(ρ.m.set n none)[i]?=some (some b):=by rw[xbj hi,e2]
  exact m (xcg (hn i b this).2)⟩,rfl,fun _ _ _ e=>e⟩
 refine ⟨E,⟨by rw[xeq,xeq,r.len],fun m k b e1 e2=>r.inj m k b (hn m b e1).2 (hn k b e2).2,fun m b y e1 e2=>?_,fun b hb=>⟨(r.gh b hb).1,fun z=>?_⟩,fun m y e ne=>?_⟩⟩
 rotate_left
 ·obtain ⟨i,hi,e2⟩:=xer z;have:(ρ.m.set n none)[i]?=some (some b):=by rw[xbj hi,e2]
  exact (r.gh b hb).2 (xcg (hn i b this).2)
 ·have z:m≠n:=by
   rintro rfl;rw[xdr (by rw[← r.len];exact h)] at e;cases e;exact ne rfl
  rw[xcl (xej z)] at e;obtain ⟨b,hb⟩:=r.live m y e ne;exact ⟨b,by rw[xcl (xej z)];exact hb⟩
 obtain ⟨z,q⟩:=hn m b e1;rw[xcl (xej z)] at e2;exact (r.obj m b y q e2).ext E rfl
theorem zev (r:Rep K ρ st H) (hp:H p=none):Out ρ p:=by
 refine ⟨fun z=>?_,fun z=>?_⟩
 ·obtain ⟨i,hi,e⟩:=xer z;obtain ⟨x,_,q⟩:=r.has (n:=i) (a:=p) (by rw[xbj hi,e]);obtain ⟨u,hu⟩:=q.has;rw[hp] at hu;cases hu
 ·obtain ⟨⟨u,hu⟩,_⟩:=r.gh p z;rw[hp] at hu;cases hu
theorem At.newT (r:Rep K ρ st H) (hp:H p=none) {ds:List D} {vs:List V} (h:AtAll K ρ H ds vs):At K ρ (upd H p (.tup vs)) (.tup ds) (.ref p):=.tup zi (zev r hp) (h.ext (Ext.new hp _))
theorem At.newL (r:Rep K ρ st H) (hp:H p=none) {ds:List D} {vs:List V} (h:AtAll K ρ H ds vs):At K ρ (upd H p (.lst vs)) (.lst ds) (.ref p):=.lst zi (zev r hp) (h.ext (Ext.new hp _))
end
noncomputable def eAnd (f f':SE):SE:=fun σ st=>(f σ st).bind fun v st1=>match v with
 | .bl true=>f' σ st1
 | .bl false=>.ok (.bl false) st1
 | _=>.stuck
noncomputable def eOr (f f':SE):SE:=fun σ st=>(f σ st).bind fun v st1=>match v with
 | .bl true=>.ok (.bl true) st1
 | .bl false=>f' σ st1
 | _=>.stuck
noncomputable def eNot (f:SE):SE:=fun σ st=>(f σ st).bind fun v st1=>match v with
 | .bl b=>.ok (.bl (!b)) st1
 | _=>.stuck
noncomputable def bAnd (f f':ST):ST:=fun σ st=>(f σ st).bind fun b st1=>if b=true then f' σ st1 else .ok false st1
noncomputable def bOr (f f':ST):ST:=fun σ st=>(f σ st).bind fun b st1=>if b=true then .ok true st1 else f' σ st1
noncomputable def bNot (f:ST):ST:=fun σ st=>(f σ st).bind fun b st1=>.ok (!b) st1
noncomputable def eIf (c:ST) (f f':SE):SE:=fun σ st=>(c σ st).bind fun b st1=>if b=true then f σ st1 else f' σ st1
section
variable {X:Cx} {a b:Expr} {rest:List Expr} {f f':SE} {t t':ST} {pos:Pos}
theorem zbiq {op} (h:DE X a f):DE X (.BoolOp op [a] pos) f:=zbcv h
theorem zbiy (ha:DE X a f) (hb:DE X (.BoolOp .And (b::rest) pos) f'):DE X (.BoolOp .And (a::b::rest) pos) (eAnd f f'):=zef (zbdb ha hb) fun τ H Q hq0=>by
 obtain ⟨ρ,σ,st,v,st',at',rp,e,q⟩:=hq0;obtain ⟨x,st1,e1,e⟩:=zb e;refine ⟨ρ,σ,st,x,st1,at',rp,e1,fun ρ1 H1 u x1 rp1 a1=>?_⟩;cases x<;>try (cases e;done)
 rename_i bb;cases a1;refine ⟨bb,rfl,?_⟩;cases bb with
 | true =>
  rw[if_pos rfl];exact ⟨ρ1,σ,st1,v,st',at'.ext x1,rp1,e,fun ρ' H' u x2=>q ρ' H' u (x1.trans x2)⟩
 | false =>
  rw[if_neg (by decide)];cases e;exact q _ _ _ x1 rp1 (.bl false)
theorem zbir (ha:DE X a f):DE X (.UnaryOp .Not a pos) (eNot f):=zef (zbcw ha) fun τ H Q hq0=>by
 obtain ⟨ρ,σ,st,v,st',at',rp,e,q⟩:=hq0;obtain ⟨x,st1,e1,e⟩:=zb e;refine ⟨ρ,σ,st,x,st1,at',rp,e1,fun ρ1 H1 u x1 rp1 a1=>?_⟩;cases x<;>try (cases e;done)
 rename_i bb;cases a1;cases e;exact ⟨bb,rfl,q _ _ _ x1 rp1 (.bl _)⟩
theorem zbek {op} (h:DT X a t) (hop:op=.And\/op=.Or):DW X (.BoolOp op [a] pos) t:=by
 rcases hop with rfl | rfl
 ·exact pw_and1 h
 ·exact pw_or1 h
theorem zbij (ha:DT X a t) (hb:DW X (.BoolOp .Or (b::rest) pos) t'):DW X (.BoolOp .Or (a::b::rest) pos) (bOr t t'):=pw_to (pw_or ha hb) fun τ H Q hq0=>by
 obtain ⟨ρ,σ,st,v,st',at',rp,e,q⟩:=hq0;obtain ⟨x,st1,e1,e⟩:=zb e;refine ⟨ρ,σ,st,x,st1,at',rp,e1,fun ρ1 H1 x1 rp1=>?_⟩;cases x with
 | false=>exact iteF ⟨ρ1,σ,st1,v,st',at'.ext x1,rp1,e,fun ρ' H' x2=>q ρ' H' (x1.trans x2)⟩
 | true=>cases e;exact iteT (q _ _ x1 rp1)
theorem zbem (ha:DT X a t):DT X (.UnaryOp .Not a pos) (bNot t):=zbbg (zbck ha) fun τ H Q hq0=>by
 obtain ⟨ρ,σ,st,v,st',at',rp,e,q⟩:=hq0;obtain ⟨x,st1,e1,e⟩:=zb e;cases e;exact ⟨ρ,σ,st,x,_,at',rp,e1,fun ρ1 H1 x1 rp1=>q _ _ x1 rp1⟩
end
noncomputable def aNil:SA:=fun _ st=>.ok [] st
noncomputable def aCons (f:SE) (g:SA):SA:=fun σ st=>(f σ st).bind fun x st1=>(g σ st1).bind fun xs st2=>.ok (x::xs) st2
noncomputable def eTup (g:SA):SE:=fun σ st=>(g σ st).bind fun xs st1=>if xs.length<=sizeLine then .ok (.tup xs) st1 else .stuck
noncomputable def eLst (g:SA):SE:=fun σ st=>(g σ st).bind fun xs st1=>if xs.length<=sizeLine then .ok (.lst xs) st1 else .stuck
noncomputable def eLstM (g:SA):SE:=fun σ st=>(g σ st).bind fun xs st1=>if xs.length<=sizeLine then .ok (.ref st1.length) (st1++[.lst xs]) else .stuck
section
variable {X:Cx} {e:Expr} {es:List Expr} {f:SE} {g:SA} {pos:Pos}
theorem zbfa:DA X [] aNil:=zbbi zhk fun τ H Q hq0=>by
 obtain ⟨ρ,σ,st,v,st',a,rp,e,q⟩:=hq0;cases e;exact q _ _ _ (.refl _ _) rp .nil
theorem zbaf (ha:DE X e f) (hr:DA X es g) (hs:starEach (e::es) X.env=(false,eval e X.env)::starEach es X.env:=by rfl):DA X (e::es) (aCons f g):=zbbi (zds ha hr hs) fun τ H Q hq0=>by
 obtain ⟨ρ,σ,st,v,st',a,rp,e,q⟩:=hq0;obtain ⟨x,st1,e1,e⟩:=zb e;obtain ⟨y,st2,e2,e⟩:=zb e;cases e;refine ⟨ρ,σ,st,x,st1,a,rp,e1,fun ρ1 H1 u x1 rp1 a1=>?_⟩;exact ⟨ρ1,σ,st1,y,_,a.ext x1,rp1,e2,fun ρ2 H2 w x2 rp2 a2=>q _ _ _ (x1.trans x2) rp2 (.cons (a1.ext x2) a2)⟩
theorem zbio {x1} (h:DA X es g):DE X (.Tuple es x1 pos) (eTup g):=zef (zya h) fun τ H Q hq0=>by
 obtain ⟨ρ,σ,st,v,st',a,rp,e,q⟩:=hq0;obtain ⟨x,st1,e1,e⟩:=zb e;split at e
 ·rename_i hl;cases e;refine ⟨ρ,σ,st,x,_,a,rp,e1,fun ρ1 H1 u x1 rp1 a1=>⟨by rw[a1.length];exact hl,fun p hp=>?_⟩⟩;exact q ρ1 _ _ (x1.trans (Ext.new hp _)) (rp1.new hp _) (.newT rp1 hp a1)
 ·cases e
theorem zbiu (h:DA X es g):DE X (.List es pos) (eLst g):=zef (zyb h) fun τ H Q hq0=>by
 obtain ⟨ρ,σ,st,v,st',a,rp,e,q⟩:=hq0;obtain ⟨x,st1,e1,e⟩:=zb e;split at e
 ·rename_i hl;cases e;refine ⟨ρ,σ,st,x,_,a,rp,e1,fun ρ1 H1 u x1 rp1 a1=>⟨by rw[a1.length];exact hl,fun p hp=>?_⟩⟩;exact q ρ1 _ _ (x1.trans (Ext.new hp _)) (rp1.new hp _) (.newL rp1 hp a1)
 ·cases e
theorem At.last {K:Fg} {ρ:Loc} {H:Hp} {p:Addr} {n:Nat} (h:n=ρ.m.length):At K ⟨ρ.m++[some p],ρ.g⟩ H (.ref n) (.ref p):=by
 subst h;refine .ref (by simp) fun a e=>?_
 simp at e;rw[e]
theorem zbfd (h:DA X es g):DE X (.List es pos) (eLstM g):=zef (zyb h) fun τ H Q hq0=>by
 obtain ⟨ρ,σ,st,v,st',a,rp,e,q⟩:=hq0;obtain ⟨x,st1,e1,e⟩:=zb e;split at e
 ·rename_i hl;cases e;refine ⟨ρ,σ,st,x,_,a,rp,e1,fun ρ1 H1 u x1 rp1 a1=>⟨by rw[a1.length];exact hl,fun p hp=>?_⟩⟩;obtain ⟨E,R⟩:=rp1.alloc hp (x:=.lst x) (o:=.lst u) fun E=>⟨u,zi,a1.ext E⟩
  exact q _ _ _ (x1.trans E) R (.last rp1.len.symm)
 ·cases e
end
noncomputable def asL (st:Store):D->Option (List D)
 | .lst xs=>some xs
 | .ref n=>match st[n]? with
  | some (.lst xs)=>some xs
  | _=>none
 | _=>none
section
variable {K:Fg} {ρ:Loc} {st:Store} {H:Hp} {d:D} {u:V} {xs:List D}
theorem zfn (rp:Rep K ρ st H) {n:Nat} {o:O} (a:At K ρ H (.ref n) u) (e:st[n]?=some o) (hd:o≠.dead):∃p,u=.ref p/\ρ.m[n]?=some (some p)/\OAt K ρ H o p:=by
 cases a with
 | ref h1 h2 =>
  obtain ⟨p,hp⟩:=rp.live n o e hd;exact ⟨p,h2 p hp,hp,rp.obj n p o hp e⟩
theorem zfz (rp:Rep K ρ st H) (a:At K ρ H d u) (e:asL st d=some xs):∃p vs,u=.ref p/\H p=some (.lst vs)/\AtAll K ρ H xs vs:=by
 cases d<;>try (cases e;done)
 ·rename_i n;unfold asL at e;dsimp only at e;split at e
  ·rename_i ys hys;cases e;obtain ⟨p,rfl,hp,vs,q1,q2⟩:=zfn rp a hys (by intro z;cases z);exact ⟨p,vs,rfl,q1,q2⟩
  ·cases e
 ·cases e;cases a with
  | lst h1 h2 h3=>exact ⟨_,_,rfl,h1,h3⟩
end
noncomputable def oI (C:Int->Int->Prop) [DecidableRel C] (h:Int->Int->D) (x y:D) (st:Store):Res D:=match x,y with
 | .int i,.int j=>if C i j then .ok (h i j) st else .stuck
 | _,_=>.stuck
theorem oI_D {K:Fg} {C:Int->Int->Prop} [DecidableRel C] {h:Int->Int->D} {g:Int->Int->V} (k:∀i j ρ H,At K ρ H (h i j) (g i j)):OpD K (oI C h) (rI C g):=fun ρ H st x y u v z st' Q rp a b e q=>by
 unfold oI at e;split at e
 ·cases a;cases b;split at e
  ·rename_i hc;cases e;exact ⟨_,_,rfl,rfl,hc,q _ _ _ (.refl _ _) rp (k _ _ _ _)⟩
  ·cases e
 ·cases e
theorem zqv {K:Fg} {h:Int->Int->D} {g:Int->Int->V} (k:∀i j ρ H,At K ρ H (h i j) (g i j)):OpD K (oI (fun _ _=>True) h) (rI0 g):=fun ρ H st x y u v z st' Q rp a b e q=>by
 obtain ⟨i,j,e1,e2,_,e3⟩:=oI_D (C:=fun _ _=>True) k ρ H st x y u v z st' Q rp a b e q;exact ⟨i,j,e1,e2,e3⟩
noncomputable instance:DecidableRel CMul:=fun i j=>by unfold CMul;infer_instance
noncomputable instance:DecidableRel CDivP:=fun i j=>by unfold CDivP;infer_instance
noncomputable instance:DecidableRel CPow:=fun i j=>by unfold CPow;infer_instance
noncomputable abbrev oSub:=oI (fun _ _=>True) fun i j=>.int (i - j)
noncomputable abbrev oFdiv:=oI CDivP fun i j=>.int (i / j)
noncomputable abbrev oMod:=oI (fun _ j=>0 < j) fun i j=>.int (i % j)
noncomputable abbrev oAndI:=oI (fun _ _=>True) fun i j=>.int (Builtin.bitAnd i j)
noncomputable abbrev oPow:=oI CPow fun i j=>.int (i ^ j.toNat)
noncomputable abbrev oMulI:=oI CMul fun i j=>.int (i * j)
noncomputable def oAdd (x y:D) (st:Store):Res D:=match x,y with
 | .int i,.int j=>.ok (.int (i+j)) st
 | .tup a,.tup b=>if a.length+b.length<=sizeLine then .ok (.tup (a++b)) st else .stuck
 | .str a,.str b=>if a.length+b.length<=sizeLine then .ok (.str (a++b)) st else .stuck
 | x,y=>match asL st x,asL st y with
  | some a,some b=>if a.length+b.length<=sizeLine then .ok (.lst (a++b)) st else .stuck
  | _,_=>.stuck
noncomputable abbrev rAddA (K:Fg):R2:=fun x y H Q=>rI0 (fun i j=>.int (i+j)) x y H Q\/rCatA K x y H Q\/(∃i j,x=.str i/\y=.str j/\i.length+j.length<=sizeLine/\Q (.str (i++j)) H)\/rCat x y H Q
section
variable {X:Cx}
theorem zcf:OpR X (binaryOp .Add) (rAddA X.K):=zbdh.or (zyl.or (znr.or zbdf))
theorem zel {K:Fg}:OpD K oAdd (rAddA K):=fun ρ H st x y u v z st' Q rp a b e q=>by
 unfold oAdd at e;split at e
 ·cases a;cases b;cases e;exact .inl ⟨_,_,rfl,rfl,q _ _ _ (.refl _ _) rp (.int _)⟩
 ·rename_i ds es;split at e
  ·rename_i hl;cases e;refine .inr (.inl ?_);cases a with
   | tup h1 h2 h3 =>
    cases b with
    | tup k1 k2 k3 =>
     refine ⟨_,_,_,_,rfl,rfl,SqT.of h1,SqT.of k1,by rw[h3.length,k3.length];exact hl,fun z=>?_,fun z1 z2=>?_,fun z1 z2 p hp=>?_⟩
     ·subst z;cases h3;exact q _ _ _ (.refl _ _) rp (.tup k1 k2 k3)
     ·subst z2;cases k3;rw[xdw] at q;exact q _ _ _ (.refl _ _) rp (.tup h1 h2 h3)
     ·exact q _ _ _ (Ext.new hp _) (rp.new hp _) (.newT rp hp (h3.append k3))
  ·cases e
 ·split at e
  ·rename_i hl;cases a;cases b;cases e;exact .inr (.inr (.inl ⟨_,_,rfl,rfl,hl,q _ _ _ (.refl _ _) rp (.str _)⟩))
  ·cases e
 ·split at e
  ·rename_i h1 h2;split at e
   ·rename_i hl;cases e;obtain ⟨p,vs,rfl,g1,g2⟩:=zfz rp a h1;obtain ⟨p',ws,rfl,k1,k2⟩:=zfz rp b h2;exact .inr (.inr (.inr ⟨_,_,_,_,rfl,rfl,g1,k1,by rw[g2.length,k2.length];exact hl,fun t ht=>q _ _ _ (Ext.new ht _) (rp.new ht _) (.newL rp ht (g2.append k2))⟩))
   ·cases e
  ·cases e
end
noncomputable abbrev oGt:=oI (fun _ _=>True) fun i j=>.bl (decide (j < i))
mutual
noncomputable def toData:D->Option PyData
 | .non=>some .none
 | .bl b=>some (.bool b)
 | .int i=>some (.int i)
 | .str x=>some (.str x)
 | .tup ds=>(toDatas ds).map .tuple
 | .lst ds=>(toDatas ds).map .list
 | _=>none
noncomputable def toDatas:List D->Option (List PyData)
 | []=>some []
 | d::ds=>(toData d).bind fun x=>(toDatas ds).map fun xs=>x::xs
end
mutual
theorem ztg {K:Fg} {ρ:Loc} {H:Hp}:∀{d:D} {v:V} {p:PyData},At K ρ H d v->toData d=some p->DAt K H v p
 | _,_,_,.non,e=>by cases e;exact .non
 | _,_,_,.bl b,e=>by cases e;exact .bl b
 | _,_,_,.int i,e=>by cases e;exact .int i
 | _,_,_,.str x,e=>by cases e;exact .str x
 | _,_,_,.ty n,e=>by cases e
 | _,_,_,.exn _,e=>by cases e
 | _,_,_,.ref _ _,e=>by cases e
 | _,_,_,.tup h _ al,e=>by
  rw[toData] at e;obtain ⟨ps,e1,rfl⟩:=xcy.mp e;exact .tup (SqT.of h) (zhw al e1)
 | _,_,_,.lst h _ al,e=>by
  rw[toData] at e;obtain ⟨ps,e1,rfl⟩:=xcy.mp e;exact .lst (SqL.of h) (zhw al e1)
 | _,_,_,.scr _ _,e=>by cases e
theorem zhw {K:Fg} {ρ:Loc} {H:Hp}:∀{d:List D} {v:List V} {p:List PyData},AtAll K ρ H d v->toDatas d=some p->DAll K H v p
 | _,_,_,.nil,e=>by cases e;exact .nil
 | _,_,_,.cons a b,e=>by
  rw[toDatas] at e;obtain ⟨x,e1,e⟩:=xem.mp e;obtain ⟨xs,e2,rfl⟩:=xcy.mp e;exact .cons (ztg a e1) (zhw b e2)
end
noncomputable def now (st:Store) (d:D):D:=match asL st d with
 | some xs=>.lst xs
 | none=>d
noncomputable def dataOf (st:Store) (d:D):Option PyData:=toData (now st d)
theorem zlf {K:Fg} {ρ:Loc} {st:Store} {H:Hp} (rp:Rep K ρ st H) {d:D} {u:V} {p:PyData} (a:At K ρ H d u) (e:dataOf st d=some p):DAt K H u p:=by
 unfold dataOf now at e;split at e
 ·rename_i xs hx;obtain ⟨q,vs,rfl,h1,h2⟩:=zfz rp a hx;rw[toData] at e;obtain ⟨ps,e1,rfl⟩:=xcy.mp e;exact .lst (SqL.of h1) (zhw h2 e1)
 ·exact ztg a e
noncomputable def oEqG (neg:Bool) (x y:D) (st:Store):Res D:=match dataOf st x,dataOf st y with
 | some a,some b=>if PySem.SeqAt.shaped a=true/\PySem.SeqAt.shaped b=true then .ok (.bl (if neg then !PyData.eqv a b else PyData.eqv a b)) st else .stuck
 | _,_=>.stuck
theorem zyr {K:Fg} {neg:Bool}:OpD K (oEqG neg) (rEqX K neg):=fun ρ H st x y u v z st' Q rp a b e q=>by
 unfold oEqG at e;split at e
 ·rename_i p1 p2 h1 h2;split at e
  ·rename_i hs;cases e;exact ⟨_,_,zlf rp a h1,zlf rp b h2,hs.1,hs.2,q _ _ _ (.refl _ _) rp (.bl _)⟩
  ·cases e
 ·cases e
noncomputable abbrev oEq:=oEqG false
noncomputable abbrev oNe:=oEqG true
noncomputable def asInts:List D->Option (List Int)
 | []=>some []
 | .int i::r=>(asInts r).map (i::·)
 | _::_=>none
theorem zdc {K:Fg} {ρ:Loc} {H:Hp}:∀{ds:List D} {vs:List V} {ns:List Int},AtAll K ρ H ds vs->asInts ds=some ns->vs=ns.map V.int
 | _,_,_,.nil,e=>by cases e;rfl
 | _,_,_,.cons (d:=d) a b,e=>by
  cases d<;>try (cases e;done)
  rw[asInts] at e;obtain ⟨ms,e1,rfl⟩:=xcy.mp e;cases a;rw[zdc b e1]
  rfl
noncomputable def oLtT (x y:D) (st:Store):Res D:=match x,y with
 | .int i,.int j=>.ok (.bl (decide (i < j))) st
 | .tup a,.tup b=>match asInts a,asInts b with
  | some ns,some ms=>.ok (.bl (HT.lexLt ns ms)) st
  | _,_=>.stuck
 | _,_=>.stuck
noncomputable abbrev rLtA (K:Fg):R2:=fun x y H Q=>rI0 (fun i j=>.bl (decide (i < j))) x y H Q\/rLtT K x y H Q
theorem znq {X:Cx} (hu:X.A.units < cLine):OpR X (compareOp .Lt) (rLtA X.K):=zbht.or (zbde hu)
theorem znv {K:Fg}:OpD K oLtT (rLtA K):=fun ρ H st x y u v z st' Q rp a b e q=>by
 unfold oLtT at e;split at e
 ·cases a;cases b;cases e
  exact .inl ⟨_,_,rfl,rfl,q _ _ _ (.refl _ _) rp (.bl _)⟩
 ·split at e
  ·rename_i h1 h2;cases e;cases a with
   | tup g1 g2 g3 =>
    cases b with
    | tup k1 k2 k3 =>
     have e1:=zdc g3 h1;have e2:=zdc k3 h2;subst e1 e2;exact .inr ⟨_,_,_,_,rfl,rfl,SqT.of g1,SqT.of k1,q _ _ _ (.refl _ _) rp (.bl _)⟩
  ·cases e
 ·cases e
noncomputable def seqOf (st:Store):D->Option (List D)
 | .tup xs=>some xs
 | .scr xs=>some xs
 | d=>asL st d
theorem zjj {K:Fg} {ρ:Loc} {st:Store} {H:Hp} (rp:Rep K ρ st H) {d:D} {u:V} {xs:List D} (a:At K ρ H d u) (e:seqOf st d=some xs) :
  ∃p vs,u=.ref p/\(SqL K H p vs\/SqT K H p vs)/\AtAll K ρ H xs vs:=by
 unfold seqOf at e;split at e
 ·cases e;cases a with
  | tup h1 h2 h3=>exact ⟨_,_,rfl,.inr (SqT.of h1),h3⟩
 ·cases e;cases a with
  | scr h1 h3=>exact ⟨_,_,rfl,.inl h1.sq,h3⟩
 ·obtain ⟨p,vs,rfl,h1,h2⟩:=zfz rp a e;exact ⟨p,vs,rfl,.inl (SqL.of h1),h2⟩
theorem AtAll.atI {K:Fg} {ρ:Loc} {H:Hp} {ds:List D} {vs:List V} {i:Int} {d:D} (h:AtAll K ρ H ds vs) (e:L2.atI ds i=some d):∃v,L2.atI vs i=some v/\At K ρ H d v:=by
 unfold L2.atI at e ⊢;rw[h.length];cases hi:ixN ds.length i with
 | none=>rw[hi] at e;cases e
 | some j =>
  rw[hi] at e;obtain ⟨v,e1,e2⟩:=h.get (i:=j) e;exact ⟨v,e1,e2⟩
noncomputable def oIx (x y:D) (st:Store):Res D:=match seqOf st x,y with
 | some xs,.int i=>match L2.atI xs i with
  | some v=>.ok v st
  | none=>.stuck
 | _,_=>.stuck
theorem zbhy {K:Fg}:OpD K oIx (rIx K):=fun ρ H st x y u v z st' Q rp a b e q=>by
 unfold oIx at e;split at e
 ·rename_i h1;split at e
  ·rename_i w hw;cases e;cases b;obtain ⟨p,vs,rfl,h2,h3⟩:=zjj rp a h1;obtain ⟨w',e2,a2⟩:=h3.atI hw;rcases h2 with h2 | h2
   ·exact .inl ⟨_,_,_,_,rfl,rfl,h2,e2,q _ _ _ (.refl _ _) rp a2⟩
   ·exact .inr (.inl ⟨_,_,_,_,rfl,rfl,h2,e2,q _ _ _ (.refl _ _) rp a2⟩)
  ·cases e
 ·cases e
noncomputable def cutD (xs:List D) (lo hi:Option Int):List D:=(xs.drop (HT.sIx xs.length 0 lo)).take (HT.sIx xs.length xs.length hi - HT.sIx xs.length 0 lo)
theorem AtAll.cut {K:Fg} {ρ:Loc} {H:Hp} {ds:List D} {vs:List V} (h:AtAll K ρ H ds vs) (lo hi:Option Int):AtAll K ρ H (cutD ds lo hi) (cutV vs lo hi):=by
 unfold cutD cutV;rw[h.length];exact (h.drop _).take _
noncomputable def pNone:DS->Store->Res (Option Int):=fun _ st=>.ok none st
noncomputable def pSome (f:SE):DS->Store->Res (Option Int):=fun σ st=>(f σ st).bind fun v st1=>match v with
 | .int i=>.ok (some i) st1
 | _=>.stuck
noncomputable def eSl (f:SE) (lo hi:DS->Store->Res (Option Int)):SE:=fun σ st=>(f σ st).bind fun x st1=>(lo σ st1).bind fun l st2=>(hi σ st2).bind fun h st3=>match x with
 | .tup xs=>.ok (.tup (cutD xs l h)) st3
 | x=>match asL st3 x with
  | some xs=>.ok (.lst (cutD xs l h)) st3
  | none=>.stuck
noncomputable def tDO (K:Fg) (f:DS->Store->Res (Option Int)):TO:=fun τ H Q=>∃ρ σ st v st',AtS K ρ H σ τ/\Rep K ρ st H/\f σ st=.ok v st'/\∀ρ' H',Ext ρ H ρ' H'->Rep K ρ' st' H'->Q v H'
noncomputable abbrev DO (X:Cx) (e:Option Expr) (f:DS->Store->Res (Option Int)):Prop:=PO X e (tDO X.K f)
section
variable {X:Cx} {a b e:Expr} {f f':SE} {pos:Pos} {lo hi:Option Expr} {l h:DS->Store->Res (Option Int)}
theorem zbgq {t t':TO} {e:Option Expr} (h:PO X e t) (k:∀σ H Q,t' σ H Q->t σ H Q):PO X e t':=fun pins s σ H Q I q=>h pins s σ H Q I (k _ _ _ q)
theorem zzx:DO X none pNone:=zbgq zxr fun τ H Q hq0=>by
 obtain ⟨ρ,σ,st,v,st',a,rp,e,q⟩:=hq0;cases e;exact q _ _ (.refl _ _) rp
theorem zzw (he:DE X e f):DO X (some e) (pSome f):=zbgq (zxq he) fun τ H Q hq0=>by
 obtain ⟨ρ,σ,st,v,st',a,rp,e,q⟩:=hq0;obtain ⟨x,st1,e1,e⟩:=zb e;refine ⟨ρ,σ,st,x,st1,a,rp,e1,fun ρ1 H1 u x1 rp1 a1=>?_⟩;cases x<;>try (cases e;done)
 cases e;cases a1;exact ⟨_,rfl,q _ _ x1 rp1⟩
theorem d_ix (ha:DE X a f) (hb:DE X b f') (hs:PlainIx b):DE X (.Subscript a b pos) (eOp oIx f f'):=zef (zbhq zbdw ha hb hs) (zbbj zbhy)
theorem d_sl {p2:Pos} (he:DE X e f) (hl:DO X lo l) (hu:DO X hi h):DE X (.Subscript e (.Slice lo hi none p2) pos) (eSl f l h):=zef (zuh (zxd.or zxe) he hl hu) fun τ H Q hq0=>by
 obtain ⟨ρ,σ,st,v,st',a,rp,e,q⟩:=hq0;obtain ⟨x,st1,e1,e⟩:=zb e;obtain ⟨y,st2,e2,e⟩:=zb e;obtain ⟨z,st3,e3,e⟩:=zb e;refine ⟨ρ,σ,st,x,st1,a,rp,e1,fun ρ1 H1 u x1 rp1 a1=>?_⟩;refine ⟨ρ1,σ,st1,y,st2,a.ext x1,rp1,e2,fun ρ2 H2 x2 rp2=>?_⟩;refine ⟨ρ2,σ,st2,z,st3,a.ext (x1.trans x2),rp2,e3,fun ρ3 H3 x3 rp3=>?_⟩;have a3:=a1.ext (x2.trans x3);have X3:=x1.trans (x2.trans x3);split at e
 ·cases e;refine .inl ?_;cases a3 with
  | tup h1 h2 h3 =>
   refine ⟨_,_,rfl,SqT.of h1,fun ec=>?_,fun p hp=>?_⟩
   ·refine q _ _ _ X3 rp3 (.tup h1 h2 ?_);have:=h3.cut y z;rw[ec] at this;exact this
   ·exact q _ _ _ (X3.trans (Ext.new hp _)) (rp3.new hp _) (.newT rp3 hp (h3.cut y z))
 ·split at e
  ·rename_i xs hx;cases e;obtain ⟨p,vs,rfl,g1,g2⟩:=zfz rp3 a3 hx;exact .inr ⟨_,_,rfl,SqL.of g1,fun p hp=>q _ _ _ (X3.trans (Ext.new hp _)) (rp3.new hp _) (.newL rp3 hp (g2.cut y z))⟩
  ·cases e
end
end Dd
namespace Dd
open PySem L2
noncomputable def eCall (g:List D->Store->Res D) (f:SA):SE:=fun σ st=>(f σ st).bind fun xs st1=>g xs st1
noncomputable def CaD (K:Fg) (g:List D->Store->Res D) (r:List V->Hp->VK->Prop):Prop :=
 ∀ρ H st xs us z st' (Q:VK),Rep K ρ st H->AtAll K ρ H xs us->g xs st=.ok z st'->(∀ρ' H' w,Ext ρ H ρ' H'->Rep K ρ' st' H'->At K ρ' H' z w->Q w H')->r us H Q
theorem zbhe {K:Fg} {g:List D->Store->Res D} {r:List V->Hp->VK->Prop} (hr:CaD K g r) {f:SA}:∀τ H Q,tD K (eCall g f) τ H Q->tCB r (tDA K f) τ H Q:=fun τ H Q hq0=>by
 obtain ⟨ρ,σ,st,v,st',a,rp,e,q⟩:=hq0;obtain ⟨x,st1,e1,e⟩:=zb e;exact ⟨ρ,σ,st,x,st1,a,rp,e1,fun ρ1 H1 u x1 rp1 a1=>hr ρ1 H1 st1 x u v st' Q rp1 a1 e fun ρ' H' w x2=>q ρ' H' w (x1.trans x2)⟩
section
variable {X:Cx} {x:Str} {p pos:Pos} {e:Expr} {es:List Expr} {f:SA} {id T:String} {r:List V->Hp->VK->Prop} {g:List D->Store->Res D}
theorem zbap (hc : CallR X (.builtin id) r) (hr : CaD X.K g r) (hg : Gl X x) (hm : X.mg x = none) (hv : bootBuiltins x = some (.builtin id)) (ha : DA X (e :: es) f) (hn : x ≠ "__name__" := by decide) (hdb : (x == ("__debug__" : Str)) = false := by decide)
 (he:starEach (e::es) X.env=(false,eval e X.env)::starEach es X.env:=by rfl) (hpl:(backTo pos (starEach es X.env)).any (·.1)=false:=by rfl):DE X (.Call (.Name x p) (e::es) [] pos) (eCall g f):=zef (zjn hc hg hm hv ha hn hdb he hpl) (zbhe hr)
theorem zvr (hc : CallR X (.type T) r) (hr : CaD X.K g r) (hg : Gl X x) (hm : X.mg x = none) (hv : bootBuiltins x = some (.type T)) (ha : DA X (e :: es) f) (hn : x ≠ "__name__" := by decide) (hdb : (x == ("__debug__" : Str)) = false := by decide)
 (he:starEach (e::es) X.env=(false,eval e X.env)::starEach es X.env:=by rfl) (hpl:(backTo pos (starEach es X.env)).any (·.1)=false:=by rfl):DE X (.Call (.Name x p) (e::es) [] pos) (eCall g f):=zef (zqq hc hg hm hv ha hn hdb he hpl) (zbhe hr)
end
theorem AtAll.one {K:Fg} {ρ:Loc} {H:Hp} {d:D} {us:List V} (h:AtAll K ρ H [d] us):∃u,us=[u]/\At K ρ H d u:=by
 cases h with
 | cons a b=>cases b;exact ⟨_,rfl,a⟩
theorem AtAll.two {K:Fg} {ρ:Loc} {H:Hp} {d e:D} {us:List V} (h:AtAll K ρ H [d,e] us):∃u v,us=[u,v]/\At K ρ H d u/\At K ρ H e v:=by
 cases h with
 | cons a b =>
  obtain ⟨v,rfl,c⟩:=b.one;exact ⟨_,_,rfl,a,c⟩
noncomputable def bLen:List D->Store->Res D:=fun xs st=>match xs with
 | [x]=>match seqOf st x with
  | some ys=>.ok (.int ys.length) st
  | none=>.stuck
 | _=>.stuck
theorem zvz {K:Fg}:CaD K bLen (fun xs H Q=>∃p ys,xs=[.ref p]/\(SqL K H p ys\/SqT K H p ys)/\Q (.int ys.length) H):=fun ρ H st xs us z st' Q rp aa e q=>by
 unfold bLen at e;split at e
 ·split at e
  ·rename_i h;cases e;obtain ⟨u,rfl,a⟩:=aa.one;obtain ⟨p,vs,rfl,h1,h2⟩:=zjj rp a h;refine ⟨p,vs,rfl,h1,?_⟩;rw[h2.length];exact q _ _ _ (.refl _ _) rp (.int _)
  ·cases e
 ·cases e
noncomputable def bAbs:List D->Store->Res D:=fun xs st=>match xs with
 | [.int i]=>.ok (.int (if i < 0 then -i else i)) st
 | _=>.stuck
theorem zbge {K:Fg}:CaD K bAbs (fun xs H Q=>∃i,xs=[.int i]/\Q (.int (if i < 0 then -i else i)) H):=fun ρ H st xs us z st' Q rp aa e q=>by
 unfold bAbs at e;split at e
 ·cases e;obtain ⟨u,rfl,a⟩:=aa.one;cases a;exact ⟨_,rfl,q _ _ _ (.refl _ _) rp (.int _)⟩
 ·cases e
noncomputable def b2I (g:Int->Int->Int):List D->Store->Res D:=fun xs st=>match xs with
 | [.int i,.int j]=>.ok (.int (g i j)) st
 | _=>.stuck
theorem zbbo {K:Fg} {g:Int->Int->Int}:CaD K (b2I g) (fun xs H Q=>∃i j,xs=[.int i,.int j]/\Q (.int (g i j)) H):=fun ρ H st xs us z st' Q rp aa e q=>by
 unfold b2I at e;split at e
 ·cases e;obtain ⟨u,v,rfl,a,b⟩:=aa.two;cases a;cases b;exact ⟨_,_,rfl,q _ _ _ (.refl _ _) rp (.int _)⟩
 ·cases e
noncomputable abbrev bMin2:=b2I fun i j=>if j < i then j else i
noncomputable abbrev bMax2:=b2I fun i j=>if j > i then j else i
noncomputable def bSum:List D->Store->Res D:=fun xs st=>match xs with
 | [x]=>match (seqOf st x).bind asInts with
  | some ns=>.ok (.int ns.sum) st
  | none=>.stuck
 | _=>.stuck
theorem zbfz {K:Fg}:CaD K bSum (rSum K):=fun ρ H st xs us z st' Q rp aa e q=>by
 unfold bSum at e;split at e
 ·split at e
  ·rename_i ns h;cases e;obtain ⟨ys,h0,h⟩:=xem.mp h;obtain ⟨u,rfl,a⟩:=aa.one;obtain ⟨p,vs,rfl,h1,h2⟩:=zjj rp a h0;have e:=zdc h2 h;subst e;exact ⟨p,ns,rfl,h1,q _ _ _ (.refl _ _) rp (.int _)⟩
  ·cases e
 ·cases e
noncomputable def asBools:List D->Option (List Bool)
 | []=>some []
 | .bl i::r=>(asBools r).map (i::·)
 | _::_=>none
theorem zja {K:Fg} {ρ:Loc} {H:Hp}:∀{ds:List D} {vs:List V} {ns:List Bool},AtAll K ρ H ds vs->asBools ds=some ns->vs=ns.map V.bl
 | _,_,_,.nil,e=>by cases e;rfl
 | _,_,_,.cons (d:=d) a b,e=>by
  cases d<;>try (cases e;done)
  rw[asBools] at e;obtain ⟨ms,e1,rfl⟩:=xcy.mp e;cases a;rw[zja b e1]
  rfl
noncomputable def bAny (al:Bool):List D->Store->Res D:=fun xs st=>match xs with
 | [x]=>match (asL st x).bind asBools with
  | some bs=>.ok (.bl (if al then bs.all id else bs.any id)) st
  | none=>.stuck
 | _=>.stuck
noncomputable def tyName (st:Store):D->Option String
 | .non => some "NoneType"
 | .bl _ => some "bool"
 | .int _ => some "int"
 | .str _ => some "str"
 | .tup _ => some "tuple"
 | .lst _ => some "list"
 | .ref n=>match st[n]? with
  | some (.lst _) => some "list"
  | some (.dT _) => some "dict"
  | _=>none
 | _=>none
noncomputable def isTy (t T : String) : Bool := t == T || (t == "bool" && T == "int")
noncomputable def bIsinst:List D->Store->Res D:=fun xs st=>match xs with
 | [x,.ty T]=>match tyName st x with
  | some t => if ["int", "bool", "str", "tuple", "list", "dict"].contains T = true then .ok (.bl (isTy t T)) st else .stuck
  | none=>.stuck
 | _=>.stuck
theorem zqa {K : Fg} {ρ : Loc} {st : Store} {H : Hp} (rp : Rep K ρ st H) {d : D} {u : V} {t : String} (a : At K ρ H d u) (e : tyName st d = some t) : TyOf K H u (.type t) /\ t ∈ ["NoneType", "bool", "int", "str", "tuple", "list", "dict"] := by
 cases d<;>try (cases e;done)
 ·cases e;cases a;exact ⟨.non,by simp⟩
 ·cases e;cases a;exact ⟨.bl _,by simp⟩
 ·cases e;cases a;exact ⟨.int _,by simp⟩
 ·cases e;cases a;exact ⟨.str _,by simp⟩
 ·unfold tyName at e;dsimp only at e;split at e
  ·rename_i h;cases e;obtain ⟨p,rfl,hp,vs,q1,q2⟩:=zfn rp a h (by intro z;cases z);exact ⟨.lst q1,by simp⟩
  ·rename_i h;cases e;obtain ⟨p,rfl,hp,vs,q1,q2⟩:=zfn rp a h (by intro z;cases z);exact ⟨.dT q1,by simp⟩
  ·cases e
 ·cases e;cases a with
  | tup h1 h2 h3=>exact ⟨.tup h1,by simp⟩
 ·cases e;cases a with
  | lst h1 h2 h3=>exact ⟨.lst h1,by simp⟩
theorem zbdn {K : Fg} {t T : String} (ht : t ∈ ["NoneType", "bool", "int", "str", "tuple", "list", "dict"]) (hT : T ∈ ["int", "bool", "str", "tuple", "list", "dict"]) : PySem.W.kitOne K (.type t) (.type T) = some (isTy t T) := by
 simp only[xbt,xkc,or_false] at ht hT;rcases ht with rfl | rfl | rfl | rfl | rfl | rfl | rfl<;>rcases hT with rfl | rfl | rfl | rfl | rfl | rfl<;>rfl
theorem zlo {K:Fg}:CaD K bIsinst (fun xs H Q=>∃x T t b,xs=[x,.ty T]/\TyOf K H x t/\PySem.W.kitOne K t (.type T)=some b/\Q (.bl b) H):=fun ρ H st xs us z st' Q rp aa e q=>by
 unfold bIsinst at e;split at e
 ·split at e
  ·rename_i h;split at e
   ·rename_i hT;cases e;obtain ⟨u,v,rfl,a,b⟩:=aa.two;cases b;obtain ⟨h1,h2⟩:=zqa rp a h;exact ⟨_,_,_,_,rfl,h1,zbdn h2 (by simpa using hT),q _ _ _ (.refl _ _) rp (.bl _)⟩
   ·cases e
  ·cases e
 ·cases e
noncomputable def bTuple:List D->Store->Res D:=fun xs st=>match xs with
 | [.tup ys]=>.ok (.tup ys) st
 | [x]=>match asL st x with
  | some ys=>.ok (.tup ys) st
  | none=>.stuck
 | _=>.stuck
theorem zkf {K:Fg}:CaD K bTuple (fun xs H Q=>∃p ys,xs=[.ref p]/\((SqL K H p ys/\∀l,H l=none->Q (.ref l) (upd H l (.tup ys)))\/(SqT K H p ys/\Q (.ref p) H))):=fun ρ H st xs us z st' Q rp aa e q=>by
 unfold bTuple at e;split at e
 ·cases e;obtain ⟨u,rfl,a⟩:=aa.one;cases a with
  | tup h1 h2 h3=>exact ⟨_,_,rfl,.inr ⟨SqT.of h1,q _ _ _ (.refl _ _) rp (.tup h1 h2 h3)⟩⟩
 ·split at e
  ·rename_i h;cases e;obtain ⟨u,rfl,a⟩:=aa.one;obtain ⟨p,vs,rfl,h1,h2⟩:=zfz rp a h;exact ⟨_,_,rfl,.inl ⟨SqL.of h1,fun l hl=>q _ _ _ (Ext.new hl _) (rp.new hl _) (.newT rp hl h2)⟩⟩
  ·cases e
 ·cases e
noncomputable def bList:List D->Store->Res D:=fun xs st=>match xs with
 | [x]=>match seqOf st x with
  | some ys=>.ok (.lst ys) st
  | none=>.stuck
 | _=>.stuck
noncomputable abbrev rowD (ns:List Int):D:=.tup (ns.map .int)
noncomputable abbrev rowsD (l:List (List Int)):List D:=l.map rowD
noncomputable def insR (a:List Int):List (List Int)->List (List Int)
 | []=>[a]
 | b::r=>if HT.lexLt b a=true then b::insR a r else a::b::r
noncomputable def sortR:List (List Int)->List (List Int)
 | []=>[]
 | a::r=>insR a (sortR r)
noncomputable abbrev UpR (l:List (List Int)):Prop:=l.Pairwise fun a b=>HT.lexLt b a=false
theorem zhs (a:List Int):∀l,(insR a l).Perm (a::l)
 | []=>.refl _
 | b::r=>by
  unfold insR;split
  ·exact (List.Perm.cons b (zhs a r)).trans (.swap a b r)
  ·exact .refl _
theorem zcc:∀l,(sortR l).Perm l
 | []=>.refl _
 | a::r=>(zhs a _).trans (.cons a (zcc r))
theorem zjv {a b c:List Int} (h1:HT.lexLt b a=false) (h2:HT.lexLt c b=false):HT.lexLt c a=false:=by
 cases h:HT.lexLt c a with
 | false=>rfl
 | true =>
  rcases Srt.zin a b with z | z | z
  ·have:=Srt.zew h z;rw[h2] at this;cases this
  ·subst z;rw[h2] at h;cases h
  ·rw[h1] at z;cases z
theorem zsx (a:List Int):∀l,UpR l->UpR (insR a l)
 | [],_=>xih _ _
 | b::r,h=>by
  obtain ⟨h1,h2⟩:=xgu.mp h;unfold insR;split
  ·rename_i c;refine xgu.mpr ⟨fun x hx=>?_,zsx a r h2⟩;rcases xbt.mp ((zhs a r).mem_iff.mp hx) with rfl | hx
   ·exact Srt.zrh c
   ·exact h1 x hx
  ·rename_i c;have c':HT.lexLt b a=false:=by simpa using c
   refine xgu.mpr ⟨fun x hx=>?_,h⟩;rcases xbt.mp hx with rfl | hx
   ·exact c'
   ·exact zjv c' (h1 x hx)
theorem zhf:∀l,UpR (sortR l)
 | []=>.nil
 | a::r=>zsx a _ (zhf r)
theorem zkl:∀{l m:List (List Int)},l.Perm m->UpR l->UpR m->l=m
 | [],m,p,_,_=>by rw[List.nil_perm.mp p]
 | a::l,[],p,_,_=>by cases List.perm_nil.mp p
 | a::l,b::m,p,h1,h2=>by
  obtain ⟨p1,p2⟩:=xgu.mp h1;obtain ⟨q1,q2⟩:=xgu.mp h2;have e:a=b:=by
   rcases xbt.mp (p.mem_iff.mp xbu) with z | z
   ·exact z
   ·rcases xbt.mp (p.mem_iff.mpr (xbu (a:=b) (l:=m))) with y | y
    ·exact y.symm
    ·have e1:=q1 a z;have e2:=p1 b y;rcases Srt.zin a b with w | w | w
     ·rw[e1] at w;cases w
     ·exact w
     ·rw[e2] at w;cases w
  subst e;rw[zkl (List.Perm.cons_inv p) p2 q2]
theorem zjg {l m:List (List Int)} (p:m.Perm l) (h:UpR m):m=sortR l:=zkl (p.trans (zcc l).symm) h (zhf l)
theorem zjh (l:List (List Int)):(sortR l).length=l.length:=(zcc l).length_eq
noncomputable def asRows:List D->Option (List (List Int))
 | []=>some []
 | .tup ds::r=>(asInts ds).bind fun ns=>(asRows r).map (ns::·)
 | _::_=>none
theorem zlq {K:Fg} {ρ:Loc} {H:Hp}:∀{ds:List D} {vs:List V} {l:List (List Int)},AtAll K ρ H ds vs->asRows ds=some l ->
  ∃ps:List (Addr × List Int),vs=ps.map (fun p=>V.ref p.1)/\ps.map (·.2)=l/\∀p∈ps,H p.1=some (.tup (p.2.map V.int))/\Out ρ p.1
 | _,_,_,.nil,e=>by cases e;exact ⟨[],rfl,rfl,fun _ h=>nomatch h⟩
 | _,_,_,.cons (d:=d) a b,e=>by
  cases d<;>try (cases e;done)
  rw[asRows] at e;obtain ⟨ns,e1,e⟩:=xem.mp e;obtain ⟨l,e2,rfl⟩:=xcy.mp e;obtain ⟨ps,h1,h2,h3⟩:=zlq b e2;cases a with
  | tup g1 g2 g3 =>
   rename_i ad ws;have ew:=zdc g3 e1;subst ew;refine ⟨(ad,ns)::ps,by rw[h1];rfl,by rw[← h2];rfl,fun p hp=>?_⟩;rcases xbt.mp hp with rfl | hp
   ·exact ⟨g1,g2⟩
   ·exact h3 p hp
theorem zhr {K:Fg} {ρ:Loc} {H:Hp}:∀ns:List Int,AtAll K ρ H (ns.map .int) (ns.map V.int)
 | []=>.nil
 | n::ns=>.cons (.int n) (zhr ns)
theorem zjk {K:Fg} {ρ:Loc} {H:Hp}:∀ps:List (Addr × List Int),(∀p∈ps,H p.1=some (.tup (p.2.map V.int))/\Out ρ p.1)->AtAll K ρ H (rowsD (ps.map (·.2))) (ps.map fun p=>V.ref p.1)
 | [],_=>.nil
 | p::ps,h=>.cons (.tup (h p xbu).1 (h p xbu).2 (zhr _)) (zjk ps fun q hq=>h q (xca _ hq))
theorem zko {K:Fg} {ρ:Loc} {st:Store} {H:Hp} (r:Rep K ρ st H) {p:Addr} {vs:List V} (hp:H p=some (.tup vs)):Out ρ p:=by
 refine ⟨fun z=>?_,fun z=>?_⟩
 ·obtain ⟨i,hi,e⟩:=xer z;obtain ⟨x,_,q⟩:=r.has (n:=i) (a:=p) (by rw[xbj hi,e]);cases x with
  | lst xs=>obtain ⟨_,e,_⟩:=q;rw[hp] at e;cases e
  | dT kvs=>obtain ⟨_,e,_⟩:=q;rw[hp] at e;cases e
  | fT kvs=>obtain ⟨_,_,e,_⟩:=q;rw[hp] at e;cases e
  | dead=>exact q
  | tab=>obtain ⟨_,_,e,_⟩:=q;rw[hp] at e;cases e
 ·obtain ⟨⟨u,hu⟩,_⟩:=r.gh p z;rw[hp] at hu;cases hu
noncomputable def valD (kvs:List (List Int × D)) (k:List Int):Option D:=(kvs.find? fun kv=>decide (kv.1=k)).map (·.2)
noncomputable def putD (kvs:List (List Int × D)) (k:List Int) (v:D):List (List Int × D) :=
 if (kvs.any fun kv=>decide (kv.1=k))=true then kvs.map (fun kv=>if kv.1=k then (kv.1,v) else kv) else kvs++[(k,v)]
noncomputable def dropD (kvs:List (List Int × D)) (k:List Int):List (List Int × D):=kvs.filter fun kv=>decide (kv.1≠k)
theorem zku {a b:List Int}:a.map (Sum.inl:Int->Key)=b.map Sum.inl↔a=b:=by
 constructor
 ·intro h;exact (List.map_inj_right (f:=(Sum.inl:Int->Key)) fun x y e=>Sum.inl.inj e).mp h
 ·rintro rfl;rfl
section
variable {K:Fg} {ρ:Loc} {H:Hp} {kvs:List (List Int × D)} {vs:List (List Key × V)}
theorem KvAt.val (h:KvAt K ρ H kvs vs) (k:List Int):match valD kvs k with
  | some d=>∃v,valV vs (k.map Sum.inl)=some v/\At K ρ H d v
  | none=>valV vs (k.map Sum.inl)=none:=by
 induction h with
 | nil=>rfl
 | @cons p q ps qs h t ih =>
  obtain ⟨h1,h2⟩:=h;by_cases e:p.1=k
  ·have e1:valD (p::ps) k=some p.2:=by simp[valD,xec,e]
   rw[e1];exact ⟨q.2,zhc (by rw[h1,e]),h2⟩
  ·have e1:valD (p::ps) k=valD ps k:=by simp[valD,xec,e]
   have e2:valV (q::qs) (k.map Sum.inl)=valV qs (k.map Sum.inl):=zhd (by rw[h1,zku];exact e);rw[e1,e2];exact ih
theorem KvAt.keys (h:KvAt K ρ H kvs vs):vs.map (·.1)=(kvs.map (·.1)).map fun ns=>ns.map Sum.inl:=by
 induction h with
 | nil=>rfl
 | @cons p q ps qs h t ih=>rw[xbq,xbq,xbq,ih,h.1]
theorem KvAt.put (h:KvAt K ρ H kvs vs) (k:List Int) {d:D} {v:V} (a:At K ρ H d v):KvAt K ρ H (putD kvs k d) (putK vs (k.map Sum.inl) v):=by
 have any:∀{kvs:List (List Int × D)} {vs:List (List Key × V)},KvAt K ρ H kvs vs->(kvs.any fun kv=>decide (kv.1=k))=(vs.any fun kv=>decide (kv.1=k.map Sum.inl)):=fun h=>by
  induction h with
  | nil=>rfl
  | @cons p q ps qs h t ih =>
   rw[xiu,xiu,ih,h.1]
   congr 1
   simp only[zku]
 unfold putD putK;rw[any h];split
 ·rename_i hh;clear hh any
  induction h with
  | nil=>exact .nil
  | @cons p q ps qs h t ih =>
   refine .cons ?_ ih;obtain ⟨h1,h2⟩:=h;dsimp only;by_cases e:p.1=k
   ·rw[if_pos e,if_pos (by rw[h1,e])];exact ⟨h1,a⟩
   ·rw[if_neg e,if_neg (by rw[h1,zku];exact e)];exact ⟨h1,h2⟩
 ·have app:∀{kvs:List (List Int × D)} {vs:List (List Key × V)},KvAt K ρ H kvs vs->KvAt K ρ H (kvs++[(k,d)]) (vs++[(k.map Sum.inl,v)]):=fun h=>by
   induction h with
   | nil=>exact .cons ⟨rfl,a⟩ .nil
   | cons h t ih=>exact .cons h ih
  exact app h
theorem KvAt.drop (h:KvAt K ρ H kvs vs) (k:List Int):KvAt K ρ H (dropD kvs k) (dropK vs (k.map Sum.inl)):=by
 unfold dropD dropK
 induction h with
 | nil=>exact .nil
 | @cons p q ps qs h t ih =>
  by_cases e:p.1=k
  ·rw[xdx (by simp[e]),xdx (by simp[h.1,e])];exact ih
  ·rw[xdy (by simp[e]),xdy (by simp[h.1,zku,e])];exact .cons h ih
theorem KvAt.length (h:KvAt K ρ H kvs vs):kvs.length=vs.length:=xhl h
end
noncomputable def pairsOf (st:Store):D->Option (List (List Int × D))
 | .ref n=>match st[n]? with
  | some (.dT kvs)=>some kvs
  | some (.fT kvs)=>some kvs
  | _=>none
 | _=>none
theorem zjp {K:Fg} {ρ:Loc} {st:Store} {H:Hp} (rp:Rep K ρ st H) {d:D} {u:V} {kvs:List (List Int × D)} (a:At K ρ H d u) (e:pairsOf st d=some kvs):∃p vs,u=.ref p/\Rd H p (.dT vs)/\KvAt K ρ H kvs vs:=by
 unfold pairsOf at e;split at e
 ·split at e
  ·rename_i h;cases e;obtain ⟨p,rfl,hp,vs,q1,q2⟩:=zfn rp a h (by intro z;cases z);exact ⟨p,vs,rfl,.inl q1,q2⟩
  ·rename_i h;cases e;obtain ⟨p,rfl,hp,vs,ob,q1,q2⟩:=zfn rp a h (by intro z;cases z);exact ⟨p,vs,rfl,.inr ⟨ob,q1⟩,q2⟩
  ·cases e
 ·cases e
noncomputable def keyOf:D->Option (List Int)
 | .tup ds=>asInts ds
 | _=>none
theorem zuy {K:Fg} {ρ:Loc} {H:Hp} {d:D} {u:V} {k:List Int} (a:At K ρ H d u) (e:keyOf d=some k):∃p,u=.ref p/\H p=some (.tup ((k.map (Sum.inl:Int->Key)).map kV)):=by
 unfold keyOf at e;split at e
 ·cases a with
  | tup h1 h2 h3 =>
   have:=zdc h3 e;subst this;exact ⟨_,rfl,by rw[zsv];exact h1⟩
 ·cases e
theorem zpa {K:Fg} {ρ:Loc} {st:Store} {H:Hp} (rp:Rep K ρ st H) {d y:D} {u w:V} {kvs:List (List Int × D)} {k:List Int} (a:At K ρ H d u) (b:At K ρ H y w) (e:pairsOf st d=some kvs) (e2:keyOf y=some k) :
  ∃p o,u=.ref p/\DGet H p w o/\match valD kvs k with
   | some z=>∃v,o=some v/\At K ρ H z v
   | none=>o=none:=by
 obtain ⟨p,vs,rfl,h1,h2⟩:=zjp rp a e;obtain ⟨q,rfl,h3⟩:=zuy b e2;refine ⟨p,valV vs (k.map Sum.inl),rfl,.inr ⟨vs,_,q,h1,rfl,h3,rfl⟩,?_⟩;have:=h2.val k;cases hv:valD kvs k with
 | none=>rw[hv] at this;exact this
 | some z=>rw[hv] at this;exact this
noncomputable def oDIn (neg:Bool) (y x:D) (st:Store):Res D:=match keyOf y,pairsOf st x with
 | some k,some kvs=>.ok (.bl (if neg then !(valD kvs k).isSome else (valD kvs k).isSome)) st
 | _,_=>.stuck
noncomputable def oDGet (x y:D) (st:Store):Res D:=match pairsOf st x,keyOf y with
 | some kvs,some k=>match valD kvs k with
  | some v=>.ok v st
  | none=>.stuck
 | _,_=>.stuck
noncomputable def eDGet2 (f g h:SE):SE:=fun σ st=>(f σ st).bind fun x st1=>match pairsOf st1 x with
 | some _=>(g σ st1).bind fun y st2=>(h σ st2).bind fun z st3=>match pairsOf st3 x,keyOf y with
  | some kvs,some k=>.ok ((valD kvs k).getD z) st3
  | _,_=>.stuck
 | none=>.stuck
noncomputable def eDPop (f g:SE):SE:=fun σ st=>(f σ st).bind fun x st1=>match pairsOf st1 x with
 | some _=>(g σ st1).bind fun y st2=>match x,keyOf y with
  | .ref n,some k=>match st2[n]? with
   | some (.dT kvs)=>match valD kvs k with
    | some v=>.ok v (st2.set n (.dT (dropD kvs k)))
    | none=>.stuck
   | _=>.stuck
  | _,_=>.stuck
 | none=>.stuck
noncomputable def sDPut (f g h:SE):SS:=fun σ st=>(h σ st).bind fun v st1=>(f σ st1).bind fun x st2=>(g σ st2).bind fun y st3=>match x,keyOf y with
 | .ref n,some k=>match st3[n]? with
  | some (.dT kvs)=>if kvs.length < sizeLine then .ok (.nx σ) (st3.set n (.dT (putD kvs k v))) else .stuck
  | _=>.stuck
 | _,_=>.stuck
noncomputable def eDNew:SE:=fun _ st=>.ok (.ref st.length) (st++[.dT []])
section
variable {X:Cx} {a b c o i e value f':Expr} {f g h:SE} {pos pos' apos cpos:Pos}
theorem zzc {K:Fg} {ρ:Loc} {st:Store} {H:Hp} (rp:Rep K ρ st H) {d:D} {u:V} {kvs:List (List Int × D)} (a:At K ρ H d u) (e:pairsOf st d=some kvs):∃p,u=.ref p/\IsD H p:=by
 obtain ⟨p,vs,rfl,h1,_⟩:=zjp rp a e;exact ⟨p,rfl,.inr ⟨vs,h1⟩⟩
theorem zbfg:DE X (.Dict [] [] pos) eDNew:=zef zuj fun τ H Q hq0 p hp=>by
 obtain ⟨ρ,σ,st,v,st',a,rp,e,q⟩:=hq0;cases e;obtain ⟨E,R⟩:=rp.alloc hp (x:=.dT []) (o:=.dT []) fun E=>⟨[],zi,.nil⟩
 exact q _ _ _ E R (.last rp.len.symm)
theorem zbhs (hu:X.A.units+1 < cLine) (hi:DE X i g) (ho:DE X o f):PC X .In i o (tD X.K (eOp (oDIn false) g f)):=fun pins s σ H Q I hq=>by
 refine zbdd hu hi ho pins s σ H Q I ?_;obtain ⟨ρ,σ',st,v,st',a,rp,e,q⟩:=hq;obtain ⟨x,st1,e1,e⟩:=zb e;obtain ⟨y,st2,e2,e⟩:=zb e;refine ⟨ρ,σ',st,x,st1,a,rp,e1,fun ρ1 H1 u x1 rp1 a1=>?_⟩;refine ⟨ρ1,σ',st1,y,st2,a.ext x1,rp1,e2,fun ρ2 H2 w x2 rp2 a2=>?_⟩;unfold oDIn at e;split at e
 ·rename_i kk vv h1 h2;cases e;obtain ⟨p,oo,rfl,g1,g2⟩:=zpa rp2 a2 (a1.ext x2) h2 h1;refine ⟨p,oo,rfl,g1,?_⟩;have:oo.isSome=(valD vv kk).isSome:=by
   revert g2;split
   ·rename_i hv;rintro ⟨v,rfl,_⟩;rw[hv];rfl
   ·rename_i hv;rintro rfl;rw[hv];rfl
  rw[this];exact q _ _ _ (x1.trans x2) rp2 (.bl _)
 ·cases e
theorem zbik {op:CmpOp} {t:SE} (h:PC X op a b (tD X.K t)) (h1:behindInMarks op b=false:=by first | exact nobehind _ (by decide) (by decide) | rfl):DT X (.Compare a [op] [b] pos) (eB t):=zbbg (zbcl h h1) fun τ H Q hh=>eB_t _ _ _ hh
theorem zbfh (hu:X.A.units+1 < cLine) (ho:DE X o f) (hi:DE X i g) (hs:NoSl i):DE X (.Subscript o i pos) (eOp oDGet f g):=zef (zyc hu ho hi hs) fun τ H Q hq0=>by
 obtain ⟨ρ,σ,st,v,st',a,rp,e,q⟩:=hq0;obtain ⟨x,st1,e1,e⟩:=zb e;obtain ⟨y,st2,e2,e⟩:=zb e;refine ⟨ρ,σ,st,x,st1,a,rp,e1,fun ρ1 H1 u x1 rp1 a1=>?_⟩;refine ⟨ρ1,σ,st1,y,st2,a.ext x1,rp1,e2,fun ρ2 H2 w x2 rp2 a2=>?_⟩;unfold oDGet at e;split at e
 ·rename_i h1 h2;split at e
  ·rename_i z hv;cases e;obtain ⟨p,oo,rfl,g1,g2⟩:=zpa rp2 (a1.ext x2) a2 h1 h2;rw[hv] at g2;obtain ⟨vv,rfl,g3⟩:=g2;exact ⟨p,vv,rfl,g1,q _ _ _ (x1.trans x2) rp2 g3⟩
  ·cases e
 ·cases e
theorem zbam (hu : X.A.units + 1 < cLine) (ho : DE X o f) (he : DE X e g) (hf : DE X f' h) (m : M2 X o "get" apos e f' cpos) : DE X (.Call (.Attribute o "get" apos) [e, f'] [] cpos) (eDGet2 f g h) := zef (zuk hu ho he hf m) fun τ H Q hq0 => by
 obtain ⟨ρ,σ,st,v,st',a,rp,e,q⟩:=hq0;obtain ⟨x,st1,e1,e⟩:=zb e;refine ⟨ρ,σ,st,x,st1,a,rp,e1,fun ρ1 H1 u x1 rp1 a1=>?_⟩;split at e
 ·rename_i h0;obtain ⟨p,rfl,hd⟩:=zzc rp1 a1 h0;obtain ⟨y,st2,e2,e⟩:=zb e;obtain ⟨z,st3,e3,e⟩:=zb e;refine ⟨p,rfl,hd,?_⟩;refine ⟨ρ1,σ,st1,y,st2,a.ext x1,rp1,e2,fun ρ2 H2 w x2 rp2 a2=>?_⟩;refine ⟨ρ2,σ,st2,z,st3,a.ext (x1.trans x2),rp2,e3,fun ρ3 H3 t x3 rp3 a3=>?_⟩;split at e
  ·rename_i h1 h2;cases e;obtain ⟨p',oo,ep,g1,g2⟩:=zpa rp3 (a1.ext (x2.trans x3)) (a2.ext x3) h1 h2;cases ep;refine ⟨oo,g1,q _ _ _ (x1.trans (x2.trans x3)) rp3 ?_⟩;revert g2;split
   ·rename_i hv;rintro ⟨vv,rfl,g3⟩;rw[hv];exact g3
   ·rename_i hv;rintro rfl;rw[hv];exact a3
  ·cases e
 ·cases e
theorem zbff (hu : X.A.units + 1 < cLine) (ho : DE X o f) (he : DE X e g) (m : M1 X o "pop" apos e cpos) : DE X (.Call (.Attribute o "pop" apos) [e] [] cpos) (eDPop f g) := zef (zui hu ho he m) fun τ H Q hq0 => by
 obtain ⟨ρ,σ,st,v,st',a,rp,e,q⟩:=hq0;obtain ⟨x,st1,e1,e⟩:=zb e;refine ⟨ρ,σ,st,x,st1,a,rp,e1,fun ρ1 H1 u x1 rp1 a1=>?_⟩;split at e
 ·rename_i h0;obtain ⟨p,rfl,hd⟩:=zzc rp1 a1 h0;obtain ⟨y,st2,e2,e⟩:=zb e;refine ⟨p,rfl,hd,?_⟩;refine ⟨ρ1,σ,st1,y,st2,a.ext x1,rp1,e2,fun ρ2 H2 w x2 rp2 a2=>?_⟩;split at e
  ·rename_i n k hk _;split at e
   ·rename_i kvs hn;split at e
    ·rename_i z hv;cases e;obtain ⟨p',ep,hp,vs,g1,g2⟩:=zfn rp2 (a1.ext x2) hn (by intro z;cases z);cases ep;obtain ⟨b,rfl,g3⟩:=zuy a2 hk;have g4:=g2.val k;rw[hv] at g4;obtain ⟨vv,g5,g6⟩:=g4;have E:Ext ρ2 H2 ρ2 (upd H2 p (.dT (dropK vs (k.map Sum.inl)))):=Ext.wr hp (zgq g1) _;exact ⟨vs,_,vv,b,g1,rfl,g3,g5,q _ _ _ ((x1.trans x2).trans E) (rp2.wr hp (zgq g1) ⟨_,zi,(g2.drop k).ext E⟩) (g6.ext E)⟩
    ·cases e
   ·cases e
  ·cases e
 ·cases e
theorem zzt (hu:X.A.units+1 < cLine) (ho:DE X o f) (hi:DE X i g) (hv:DE X value h) (hs:swapsWith value (some (.Subscript o i pos')) pos.line X.env=pure false) :
  DSt X (.Assign [.Subscript o i pos'] value pos) (sDPut f g h):=zlu (zxp hu ho hi hv hs) fun E τ H hq0=>by
 obtain ⟨ρ,σ,st,fl,st',a,rp,e,q⟩:=hq0;obtain ⟨v,st1,e1,e⟩:=zb e;obtain ⟨x,st2,e2,e⟩:=zb e;obtain ⟨y,st3,e3,e⟩:=zb e;refine ⟨ρ,σ,st,v,st1,a,rp,e1,fun ρ1 H1 u x1 rp1 a1=>?_⟩;refine ⟨ρ1,σ,st1,x,st2,a.ext x1,rp1,e2,fun ρ2 H2 w x2 rp2 a2=>?_⟩;refine ⟨ρ2,σ,st2,y,st3,a.ext (x1.trans x2),rp2,e3,fun ρ3 H3 t x3 rp3 a3=>?_⟩;split at e
 ·rename_i n k hk _;split at e
  ·rename_i kvs hn;split at e
   ·rename_i hl;cases e;obtain ⟨p,rfl,hp,vs,g1,g2⟩:=zfn rp3 (a2.ext x3) hn (by intro z;cases z);obtain ⟨b,rfl,g3⟩:=zuy a3 hk;have E:Ext ρ3 H3 ρ3 (upd H3 p (.dT (putK vs (k.map Sum.inl) u))):=Ext.wr hp (zgq g1) _;refine ⟨p,_,rfl,DPut.t g1 g3 (by rw[← g2.length];exact hl),?_⟩;exact q _ _ _ ((x1.trans (x2.trans x3)).trans E) (rp3.wr hp (zgq g1) ⟨_,zi,(g2.put k (a1.ext (x2.trans x3))).ext E⟩) (a.ext ((x1.trans (x2.trans x3)).trans E))
   ·cases e
  ·cases e
 ·cases e
end
noncomputable def bSorted:List D->Store->Res D:=fun xs st=>match xs with
 | [x]=>match (asL st x).bind asRows with
  | some l=>if l.length<=1000000 then .ok (.lst (rowsD (sortR l))) st else .stuck
  | none=>match pairsOf st x with
   | some kvs=>if kvs.length<=1000000 then .ok (.lst (rowsD (sortR (kvs.map (·.1))))) st else .stuck
   | none=>.stuck
 | _=>.stuck
theorem zln {K:Fg}:CaD K bSorted (fun xs H Q=>rSortedAL K xs H Q\/rSortedDAL xs H Q):=fun ρ H st xs us z st' Q rp aa e q=>by
 unfold bSorted at e;split at e
 ·obtain ⟨u,rfl,a⟩:=aa.one;split at e
  ·rename_i l hl;obtain ⟨ys,h0,hl⟩:=xem.mp hl;split at e
   ·rename_i few;cases e;obtain ⟨p,vs,rfl,h1,h2⟩:=zfz rp a h0;obtain ⟨ps,rfl,rfl,h3⟩:=zlq h2 hl;rw[xbc] at few;refine .inl ⟨p,ps,rfl,SqL.of h1,few,fun x hx=>SqT.of (h3 x hx).1,fun t qs ht hp hs=>?_⟩;have e2:qs.map (·.2)=sortR (ps.map (·.2)):=zjg (hp.map _) hs;refine q _ _ _ (Ext.new ht _) (rp.new ht _) (.newL rp ht ?_);rw[← e2];exact zjk qs fun x hx=>h3 x (hp.mem_iff.mp hx)
   ·cases e
  ·split at e
   ·rename_i kvs hk;split at e
    ·rename_i few;cases e;obtain ⟨p,vs,rfl,h1,h2⟩:=zjp rp a hk;refine .inr ⟨p,vs,kvs.map (·.1),rfl,h1,h2.keys,by rw[xbc];exact few,fun t qs ht hp hs hq=>?_⟩;have e2:qs.map (·.2)=sortR (kvs.map (·.1)):=zjg hp hs;refine q _ _ _ (Ext.new ht _) (rp.new ht _) (.newL rp ht ?_);rw[← e2];exact zjk qs fun x hx=>⟨hq x hx,zko rp (hq x hx)⟩
    ·cases e
   ·cases e
 ·cases e
theorem zfy {X : Cx} (hc : X.calm = true) (hu : X.A.units + 64 < cLine) : CallR X (.builtin "sorted") (fun xs H Q => rSortedAL X.K xs H Q \/ rSortedDAL xs H Q) := (zix hu).or (zia hc hu)
noncomputable def eAppend (f:SE) (g:SA):SE:=fun σ st=>(f σ st).bind fun x st1=>match x,asL st1 x with
 | .ref n,some _=>(g σ st1).bind fun ys st2=>match ys,st2[n]? with
  | [y],some (.lst xs)=>if xs.length < sizeLine then .ok .non (st2.set n (.lst (xs++[y]))) else .stuck
  | _,_=>.stuck
 | _,_=>.stuck
noncomputable def eExtend (f:SE) (g:SA):SE:=fun σ st=>(f σ st).bind fun x st1=>match x,asL st1 x with
 | .ref n,some _=>(g σ st1).bind fun ys st2=>match ys,st2[n]? with
  | [y],some (.lst xs)=>match asL st2 y with
   | some zs=>if xs.length+zs.length<=sizeLine then .ok .non (st2.set n (.lst (xs++zs))) else .stuck
   | none=>.stuck
  | _,_=>.stuck
 | _,_=>.stuck
section
variable {X:Cx} {o e i value:Expr} {es:List Expr} {f g h:SE} {ga:SA} {pos apos cpos:Pos}
theorem zvs (ho : DE X o f) (ha : DA X (e :: es) ga) (hbase : attributeBase o "append" X.env (eval o X.env) = eval o X.env := by rfl)
  (hfew:((backTo cpos (starEach (e::es) X.env)).all (fun x=>!x.1) && (backToKw cpos (keywordEach [] X.env)).all (fun x=>x.1.isSome)
   && decide ((e::es).length+([]:List Keyword).length+(if ([]:List Keyword).isEmpty then 0 else 1) < 30))=true:=by rfl)
  (hline:(apos.endLine == cpos.line)=true:=by rfl) (hs:starEach (e::es) X.env=(false,eval e X.env)::starEach es X.env:=by rfl) (hplain:(backTo cpos (starEach es X.env)).any (·.1)=false:=by rfl) :
  DE X (.Call (.Attribute o "append" apos) (e :: es) [] cpos) (eAppend f ga) := zef (zbda xij PySem.F.slot_list_append PySem.F.type_list_append zkp ho ha hbase hfew hline hs hplain) fun τ H Q hq0 => by
 obtain ⟨ρ,σ,st,v,st',a,rp,e,q⟩:=hq0;obtain ⟨x,st1,e1,e⟩:=zb e;refine ⟨ρ,σ,st,x,st1,a,rp,e1,fun ρ1 H1 u x1 rp1 a1=>?_⟩;split at e
 ·rename_i n _ hL;obtain ⟨ys,st2,e2,e⟩:=zb e;obtain ⟨p,vs,rfl,g1,g2⟩:=zfz rp1 a1 hL;refine ⟨.inl ⟨rfl,_,SqL.of g1⟩,ρ1,σ,st1,ys,st2,a.ext x1,rp1,e2,fun ρ2 H2 ws x2 rp2 a2=>?_⟩;split at e
  ·rename_i y xs hn;split at e
   ·rename_i hl;cases e;obtain ⟨w,rfl,a3⟩:=a2.one;obtain ⟨p',ep,hp,vs2,k1,k2⟩:=zfn rp2 (a1.ext x2) hn (by intro z;cases z);cases ep;have E:Ext ρ2 H2 ρ2 (upd H2 p (.lst (vs2++[w]))):=Ext.wr hp (zhm k1) _;exact ⟨p,vs2,w,rfl,rfl,k1,by rw[k2.length];exact hl,q _ _ _ ((x1.trans x2).trans E) (rp2.wr hp (zhm k1) ⟨_,zi,(k2.append (.cons a3 .nil)).ext E⟩) .non⟩
   ·cases e
  ·cases e
 ·cases e
noncomputable def eFz (f:SE):SE:=fun σ st=>(f σ st).bind fun x st1=>match x with
 | .ref n=>match st1[n]? with
  | some (.lst xs)=>.ok (.lst xs) (st1.set n .dead)
  | _=>.stuck
 | _=>.stuck
theorem d_fz (ho:DE X o f):DE X o (eFz f):=zef ho fun τ H Q hq0=>by
 obtain ⟨ρ,σ,st,v,st',a,rp,e,q⟩:=hq0;obtain ⟨x,st1,e1,e⟩:=zb e;refine ⟨ρ,σ,st,x,st1,a,rp,e1,fun ρ1 H1 u x1 rp1 a1=>?_⟩;split at e
 ·rename_i n;split at e
  ·rename_i xs hn;cases e;obtain ⟨p,rfl,hp,vs2,k1,k2⟩:=zfn rp1 a1 hn (by intro z;cases z);have hlen:=(xbl.mp hp).1;obtain ⟨E,R⟩:=rp1.kill hlen;refine q _ _ _ (x1.trans E) R (.lst k1 ⟨fun z=>?_,fun z=>(rp1.gh p z).2 (xcg hp)⟩ (k2.ext E));obtain ⟨i,hi,e2⟩:=xer z;have e3:(ρ1.m.set n none)[i]?=some (some p):=by rw[xbj hi,e2]
   by_cases hin:i=n
   ·subst hin;rw[xdr hlen] at e3;simp at e3
   ·rw[xcl (xej hin)] at e3;exact hin (rp1.inj i n p e3 hp)
  ·cases e
 ·cases e
end
noncomputable def sNx:SS:=fun σ st=>.ok (.nx σ) st
noncomputable def sBrk:SS:=fun σ st=>.ok (.brk σ) st
noncomputable def sCt:SS:=fun σ st=>.ok (.ct σ) st
noncomputable def sRet (f:SE):SS:=fun σ st=>(f σ st).bind fun v st1=>.ok (.ret v) st1
noncomputable def sRetN:SS:=fun _ st=>.ok (.ret .non) st
noncomputable def sDrop (f:SE):SS:=fun σ st=>(f σ st).bind fun _ st1=>.ok (.nx σ) st1
noncomputable def sSet (i:Nat) (f:SE):SS:=fun σ st=>(f σ st).bind fun v st1=>.ok (.nx (σ.set i (some v))) st1
noncomputable def sSeq (s t:SS):SS:=fun σ st=>match s σ st with
 | .ok (.nx σ1) st1=>t σ1 st1
 | r=>r
noncomputable def sIf (c:ST) (s t:SS):SS:=fun σ st=>(c σ st).bind fun b st1=>if b=true then s σ st1 else t σ st1
noncomputable def sAug (i:Nat) (g:D->D->Store->Res D) (f:SE):SS:=fun σ st=>match σ[i]? with
 | some (some x)=>(f σ st).bind fun y st1=>(g x y st1).bind fun z st2=>.ok (.nx (σ.set i (some z))) st2
 | _=>.stuck
noncomputable def sSetIx (f g h:SE):SS:=fun σ st=>(h σ st).bind fun v st1=>(f σ st1).bind fun x st2=>(g σ st2).bind fun y st3=>match x,y with
 | .ref n,.int k=>match st3[n]? with
  | some (.lst xs)=>match ixN xs.length k with
   | some j=>.ok (.nx σ) (st3.set n (.lst (xs.set j v)))
   | none=>.stuck
  | _=>.stuck
 | _,_=>.stuck
section
variable {X:Cx} {e c o i value:Expr} {sm:Stmt} {rest:List Stmt} {f g h:SE} {s t:SS} {b:ST} {pos pos':Pos}
theorem zbes:DSs X [] sNx:=znk zxl fun E τ H hq0=>by
 obtain ⟨ρ,σ,st,fl,st',a,rp,e,q⟩:=hq0;cases e;exact q _ _ _ (.refl _ _) rp a
theorem zbeq (he:DE X e f):DSt X (.Return (some e) pos) (sRet f):=zlu (zxo he) fun E τ H hq0=>by
 obtain ⟨ρ,σ,st,fl,st',a,rp,e,q⟩:=hq0;obtain ⟨x,st1,e1,e⟩:=zb e;cases e;exact ⟨ρ,σ,st,x,_,a,rp,e1,fun ρ1 H1 u x1 rp1 a1=>q _ _ _ x1 rp1 a1⟩
theorem zzs (he:DE X e f) (hs:swapsWith e none pos.line X.env=pure false:=by rfl):DSt X (.Expr e pos) (sDrop f):=zlu (zsq he hs) fun E τ H hq0=>by
 obtain ⟨ρ,σ,st,fl,st',a,rp,e,q⟩:=hq0;obtain ⟨x,st1,e1,e⟩:=zb e;cases e;exact ⟨ρ,σ,st,x,_,a,rp,e1,fun ρ1 H1 u x1 rp1 a1=>q _ _ _ x1 rp1 (a.ext x1)⟩
theorem zbhi {K:Fg} {i:Nat} {f:SE}:∀E τ H,tDS K (sSet i f) E τ H->tAsg (tD K f) (gName i) E τ H:=fun E τ H hq0=>by
 obtain ⟨ρ,σ,st,fl,st',a,rp,e,q⟩:=hq0;obtain ⟨x,st1,e1,e⟩:=zb e;cases e;exact ⟨ρ,σ,st,x,_,a,rp,e1,fun ρ1 H1 u x1 rp1 a1=>q _ _ _ x1 rp1 ((a.ext x1).set a1 i)⟩
theorem zbep {i:Nat} {x:Str} (hN:X.N.Nodup) (hi:X.N[i]?=some x) (hx:L2.Loc X.env.scope x) (he:DE X e f) (hs:swapsWith e (some (.Name x pos')) pos.line X.env=pure false:=by rfl) (hf:X.fn x=true\/X.env.scope.names.lookup x=some .local:=by first | exact .inl rfl | exact .inr rfl | assumption) :
 DSt X (.Assign [.Name x pos'] e pos) (sSet i f):=zlu (zxn hN hi hx he hs hf) zbhi
theorem zber (h1:DSt X sm s):DSs X [sm] s:=znl h1
theorem zzu (h1:DSt X sm s) (h2:DSs X rest t):DSs X (sm::rest) (sSeq s t):=znk (zjm h1 h2) fun E τ H hq0=>by
 obtain ⟨ρ,σ,st,fl,st',a,rp,e,q⟩:=hq0;unfold sSeq at e;split at e
 ·rename_i σ1 st1 e1;exact ⟨ρ,σ,st,_,st1,a,rp,e1,fun ρ1 H1 τ1 x1 rp1 a1=>⟨ρ1,σ1,st1,fl,st',a1,rp1,e,q.ext x1⟩⟩
 ·rename_i hne;refine ⟨ρ,σ,st,fl,st',a,rp,e,?_⟩;cases fl with
  | nx σ'=>exact absurd e (hne σ' st')
  | brk σ'=>exact q
  | ct σ'=>exact q
  | ret v=>exact q
theorem zbil {a' b':List Stmt} (hc:DT X c b) (ha:DSs X a' s) (hb:DSs X b' t):DSt X (.If c a' b' pos) (sIf b s t):=zlu (zbgp hc ha hb) fun E τ H hq0=>by
 obtain ⟨ρ,σ,st,fl,st',a,rp,e,q⟩:=hq0;obtain ⟨x,st1,e1,e⟩:=zb e;refine ⟨ρ,σ,st,x,st1,a,rp,e1,fun ρ1 H1 x1 rp1=>?_⟩;cases x with
 | true=>exact iteT ⟨ρ1,σ,st1,fl,st',a.ext x1,rp1,e,q.ext x1⟩
 | false=>exact iteF ⟨ρ1,σ,st1,fl,st',a.ext x1,rp1,e,q.ext x1⟩
noncomputable def IpD (K:Fg) (g:D->D->Store->Res D) (r:TIp):Prop :=
 ∀ρ H st x y u v z st' (Q:VK),Rep K ρ st H->At K ρ H x u->At K ρ H y v->g x y st=.ok z st'->(∀ρ' H' w,Ext ρ H ρ' H'->Rep K ρ' st' H'->At K ρ' H' z w->Q w H')->r u v H Q
theorem zbeu {i:Nat} {x:Str} {op:Operator} {ti:TIp} {g:D->D->Store->Res D} (hN:X.N.Nodup) (hi:X.N[i]?=some x) (hx:L2.Loc X.env.scope x) (he:DE X e f) (ho:PIp X op ti) (hr:IpD X.K g ti) (hf:X.fn x=true\/X.env.scope.names.lookup x=some .local:=by first | exact .inl rfl | exact .inr rfl | assumption) :
  DSt X (.AugAssign (.Name x pos') op e pos) (sAug i g f):=zlu (zbco hN hi hx he ho hf) fun E τ H hq0=>by
 obtain ⟨ρ,σ,st,fl,st',a,rp,e,q⟩:=hq0;unfold sAug at e;split at e
 ·rename_i d hd;obtain ⟨y,st1,e1,e⟩:=zb e;obtain ⟨z,st2,e2,e⟩:=zb e;cases e;obtain ⟨u,hu,a0⟩:=a.get hd;refine ⟨u,hu,ρ,σ,st,y,st1,a,rp,e1,fun ρ1 H1 w x1 rp1 a1=>?_⟩;exact hr ρ1 H1 st1 d y u w z st' _ rp1 (a0.ext x1) a1 e2 fun ρ2 H2 zz x2 rp2 a2=>q _ _ _ (x1.trans x2) rp2 ((a.ext (x1.trans x2)).set a2 i)
 ·cases e
theorem ip_D {K:Fg} {p:Int->Int->Int}:IpD K (oI (fun _ _=>True) fun i j=>.int (p i j)) (ipI p):=fun ρ H st x y u v z st' Q rp a b e q=>by
 unfold oI at e;split at e
 ·cases a;cases b;rw[if_pos True.intro] at e;cases e;exact ⟨_,_,rfl,rfl,q _ _ _ (.refl _ _) rp (.int _)⟩
 ·cases e
theorem zvj (he:DE X value h) (ho:DE X o f) (hi:DE X i g) (ha:∀v,assign (.Subscript o i pos') X.env v=(do
   let ov ← holding [v] (eval o X.env)
   let iv ← holding [v,ov] (eval i X.env)
   standAt pos'
   holding [v,ov,iv] (setItem ov iv v)
   release [v,ov,iv] []):=by intro _;rfl)
  (hs:swapsWithSole [.Subscript o i pos'] value pos.line X.env=pure false:=by rfl) (hw:swappedStores [.Subscript o i pos'] value X.env=pure none:=by rfl)
  (h1:(assignEach [.Subscript o i pos'] X.env).map (·.2)=[assign (.Subscript o i pos') X.env]:=by rfl):DSt X (.Assign [.Subscript o i pos'] value pos) (sSetIx f g h) :=
 zlu (zbcp he (zbcs ho hi ztv ha) hs hw h1) fun E τ H hq0=>by
 obtain ⟨ρ,σ,st,fl,st',a,rp,e,q⟩:=hq0;obtain ⟨v,st1,e1,e⟩:=zb e;obtain ⟨x,st2,e2,e⟩:=zb e;obtain ⟨y,st3,e3,e⟩:=zb e;refine ⟨ρ,σ,st,v,st1,a,rp,e1,fun ρ1 H1 u x1 rp1 a1=>?_⟩;refine ⟨ρ1,σ,st1,x,st2,a.ext x1,rp1,e2,fun ρ2 H2 w x2 rp2 a2=>?_⟩;refine ⟨ρ2,σ,st2,y,st3,a.ext (x1.trans x2),rp2,e3,fun ρ3 H3 t x3 rp3 a3=>?_⟩;split at e
 ·rename_i n k _;split at e
  ·rename_i xs hn;split at e
   ·rename_i j hj;cases e;cases a3;obtain ⟨p,rfl,hp,vs,g1,g2⟩:=zfn rp3 (a2.ext x3) hn (by intro z;cases z);have E:Ext ρ3 H3 ρ3 (upd H3 p (.lst (vs.set j u))):=Ext.wr hp (zhm g1) _;refine ⟨p,vs,k,j,rfl,rfl,g1,by rw[g2.length];exact hj,?_⟩;exact q _ _ _ ((x1.trans (x2.trans x3)).trans E) (rp3.wr hp (zhm g1) ⟨_,zi,(g2.set (a1.ext (x2.trans x3)) j).ext E⟩) (a.ext ((x1.trans (x2.trans x3)).trans E))
   ·cases e
  ·cases e
 ·cases e
end
noncomputable abbrev SG:=D->DS->Option DS
noncomputable def gN (i:Nat):SG:=fun d σ=>some (σ.set i (some d))
noncomputable def gsNil:List D->DS->Option DS:=fun ds σ=>match ds with
 | []=>some σ
 | _=>none
noncomputable def gsCons (t:SG) (u:List D->DS->Option DS):List D->DS->Option DS:=fun ds σ=>match ds with
 | d::r=>(t d σ).bind fun σ1=>u r σ1
 | _=>none
noncomputable def gT (n:Nat) (u:List D->DS->Option DS):SG:=fun d σ=>match d with
 | .tup ds=>if ds.length=n then u ds σ else none
 | _=>none
noncomputable def gD (K:Fg) (b:SG):TG:=fun v τ H Q=>∃ρ σ d σ',AtS K ρ H σ τ/\At K ρ H d v/\b d σ=some σ'/\∀τ',AtS K ρ H σ' τ'->Q τ' H
noncomputable def gDs (K:Fg) (b:List D->DS->Option DS):TGs:=fun vs τ H Q=>∃ρ σ ds σ',AtS K ρ H σ τ/\AtAll K ρ H ds vs/\b ds σ=some σ'/\∀τ',AtS K ρ H σ' τ'->Q τ' H
noncomputable abbrev DG (X:Cx) (tg:Expr) (b:SG):Prop:=PG X tg (gD X.K b)
noncomputable abbrev DGs (X:Cx) (ts:List Expr) (b:List D->DS->Option DS):Prop:=PGs X ts (gDs X.K b)
section
variable {X:Cx} {pos:Pos} {e:Expr} {es:List Expr} {t:SG} {u:List D->DS->Option DS}
theorem zbgr {g g':TG} (h:PG X e g) (k:∀v τ H Q,g' v τ H Q->g v τ H Q):PG X e g':=fun pins s σ H v u Q I r q=>h pins s σ H v u Q I r (k _ _ _ _ q)
theorem zxx {g g':TGs} (h:PGs X es g) (k:∀v τ H Q,g' v τ H Q->g v τ H Q):PGs X es g':=fun pins s σ H v u Q I r q=>h pins s σ H v u Q I r (k _ _ _ _ q)
theorem zbac {i:Nat} {x:Str} (hN:X.N.Nodup) (hi:X.N[i]?=some x) (hx:L2.Loc X.env.scope x) (hf:X.fn x=true\/X.env.scope.names.lookup x=some .local:=by first | exact .inl rfl | exact .inr rfl | assumption):DG X (.Name x pos) (gN i) :=
 zbgr (zxz hN hi hx hf) fun v τ H Q hq0=>by
 obtain ⟨ρ,σ,d,σ',a,b,e,q⟩:=hq0;cases e;exact q _ (a.set b i)
theorem zbab:DGs X [] gsNil:=zxx zxy fun v τ H Q hq0=>by
 obtain ⟨ρ,σ,d,σ',a,b,e,q⟩:=hq0;unfold gsNil at e;split at e
 ·cases e;cases b;exact ⟨rfl,q _ a⟩
 ·cases e
theorem zvm (h1:DG X e t) (h2:DGs X es u) (hs:(assignEach (e::es) X.env).map (·.2)=assign e X.env::(assignEach es X.env).map (·.2):=by rfl):DGs X (e::es) (gsCons t u) :=
 zxx (zug h1 h2 hs) fun v τ H Q hq0=>by
 obtain ⟨ρ,σ,d,σ',a,b,e,q⟩:=hq0;unfold gsCons at e;split at e
 ·obtain ⟨σ1,e1,e2⟩:=xem.mp e;cases b with
  | cons b1 b2=>exact ⟨_,_,rfl,ρ,σ,_,σ1,a,b1,e1,fun τ1 a1=>⟨ρ,σ1,_,σ',a1,b2,e2,q⟩⟩
 ·cases e
theorem zbez {k:Nat} {n:Nat} (hc:X.calm=true) (h:DGs X es u) (hn:(assignEach es X.env).length=n:=by rfl) (hst:(assignEach es X.env).findIdx? (·.1)=none:=by rfl):DG X (.Tuple es k pos) (gT n u) :=
 zbgr (zbcr hc h hn hst) fun v τ H Q hq0=>by
 obtain ⟨ρ,σ,d,σ',a,b,e,q⟩:=hq0;unfold gT at e;split at e
 ·split at e
  ·rename_i hl;cases b with
   | tup h1 h2 h3=>exact ⟨_,_,rfl,SqT.of h1,by rw[h3.length];exact hl,ρ,σ,_,σ',a,h3,e,q⟩
  ·cases e
 ·cases e
end
structure ExtG (ρ:Loc) (H:Hp) (ρ':Loc) (H':Hp):Prop where
 len:ρ.m.length<=ρ'.m.length
 old:∀(n:Nat) (a:Addr),n < ρ.m.length->ρ'.m[n]?=some (some a)->ρ.m[n]?=some (some a)
 keep:∀a o,H a=some o->some a∉ρ.m->H' a=some o/\some a∉ρ'.m
 gho:∀a∈ρ'.g,a∈ρ.g\/H a=none
 frz:∀a ob u,H a=some (.frz ob u)->H' a=some (.frz ob u)
theorem Ext.toG {ρ ρ':Loc} {H H':Hp} (x:Ext ρ H ρ' H'):ExtG ρ H ρ' H':=⟨x.len,x.old,x.keep,fun a h=>.inl (by rw[← x.gho];exact h),x.frz⟩
theorem ExtG.then {ρ ρ1 ρ2:Loc} {H H1 H2:Hp} (a:ExtG ρ H ρ1 H1) (b:Ext ρ1 H1 ρ2 H2):ExtG ρ H ρ2 H2 :=
 ⟨xbb a.len b.len,fun n c h e=>a.old n c h (b.old n c (xbd h a.len) e),fun c o e n=>by
  obtain ⟨e1,n1⟩:=a.keep c o e n
  exact b.keep c o e1 n1,fun c h=>a.gho c (by rw[← b.gho];exact h),fun c ob u e=>b.frz c ob u (a.frz c ob u e)⟩
theorem ExtG.out {ρ ρ':Loc} {H H':Hp} (x:ExtG ρ H ρ' H') {a:Addr} {o:HO} (h:H a=some o) (n:Out ρ a):H' a=some o/\Out ρ' a :=
 ⟨(x.keep a o h n.1).1,(x.keep a o h n.1).2,fun z=>by
  rcases x.gho a z with q | q
  ·exact n.2 q
  ·rw[h] at q;cases q⟩
theorem ExtG.mv {ρ ρ':Loc} {H H':Hp} (x:ExtG ρ H ρ' H'):Mv ρ H ρ' H':=⟨fun h n=>x.out h n,x.len,x.old⟩
theorem At.extG {K:Fg} {ρ ρ':Loc} {H H':Hp} (x:ExtG ρ H ρ' H') {d:D} {v:V} (h:At K ρ H d v):At K ρ' H' d v:=h.mv x.mv
theorem Ls.extG {K:Fg} {ρ ρ':Loc} {H H':Hp} {a:Addr} {vs:List V} (x:ExtG ρ H ρ' H') (h:Ls K ρ H a vs):Ls K ρ' H' a vs:=h.mv x.mv
structure ItOk (K:Fg) (ρ:Loc) (H:Hp) (J:It) (xs:List D):Prop where
 item:∀ρ2 H2,ExtG ρ H ρ2 H2->∀(i:Nat) (x:D),xs[i]?=some x->J.go i H2/\∀y H3,J.yld i H2 y H3->Ext ρ2 H2 ρ2 H3/\∀st,Rep K ρ2 st H2->Rep K ρ2 st H3/\At K ρ2 H3 x y
 done:∀ρ2 H2,ExtG ρ H ρ2 H2->∀i:Nat,xs.length<=i->J.stop i H2
noncomputable def iD (K:Fg) (f:SA):TI:=fun τ H R=>∃ρ σ st xs st',AtS K ρ H σ τ/\Rep K ρ st H/\f σ st=.ok xs st'/\∀ρ' H' J,Ext ρ H ρ' H'->Rep K ρ' st' H'->ItOk K ρ' H' J xs->R J H'
noncomputable abbrev DI (X:Cx) (tg iter:Expr) (f:SA):Prop:=PI X tg iter (iD X.K f)
noncomputable def seqV:D->Option (List D)
 | .tup xs=>some xs
 | .lst xs=>some xs
 | .scr xs=>some xs
 | _=>none
noncomputable def iSeq (f:SE):SA:=fun σ st=>(f σ st).bind fun x st1=>match seqV x with
 | some xs=>.ok xs st1
 | none=>.stuck
noncomputable def rng (lo:Int) (n:Nat):List D:=(List.range n).map fun (i:Nat)=>D.int (lo+i)
noncomputable def iR1 (g:SA):SA:=fun σ st=>(g σ st).bind fun xs st1=>match xs with
 | [.int j]=>if -(2 ^ 62)<=j/\j < 2 ^ 62 then .ok (rng 0 j.toNat) st1 else .stuck
 | _=>.stuck
noncomputable def iR2 (g:SA):SA:=fun σ st=>(g σ st).bind fun xs st1=>match xs with
 | [.int i,.int j]=>if -(2 ^ 62)<=i/\i < 2 ^ 62/\-(2 ^ 62)<=j/\j < 2 ^ 62 then .ok (rng i (j - i).toNat) st1 else .stuck
 | _=>.stuck
theorem zij {lo:Int} {n i:Nat} {x:D} (h:(rng lo n)[i]?=some x):i < n/\x=.int (lo+i):=by
 unfold rng at h;rw[xcs] at h;rcases xge i n with z | z
 ·rw[List.getElem?_range z] at h;exact ⟨z,(xbw h).symm⟩
 ·rw[xjb (by rw[xim];exact z)] at h;cases h
theorem zzb {K:Fg} {ρ:Loc} {H:Hp} {lo:Int} {n:Nat}:ItOk K ρ H (Itr lo n) (rng lo n) where
 item:=fun ρ2 H2 x i d e=>by
  obtain ⟨h1,rfl⟩:=zij e;refine ⟨h1,fun y H3 hy=>?_⟩;obtain ⟨rfl,rfl⟩:=hy;exact ⟨.refl _ _,fun _ r=>⟨r,.int _⟩⟩
 done:=fun ρ2 H2 x i h=>by
  unfold rng at h;rw[xbc,xim] at h;exact h
section
variable {X:Cx} {tg l a b:Expr} {f:SE} {g:SA} {p pos:Pos}
theorem zbbh {t t':TI} (h:PI X tg l t) (k:∀τ H R,t' τ H R->t τ H R):PI X tg l t':=fun pins s σ H R I q=>h pins s σ H R I (k _ _ _ q)
theorem zbhn {t t':TI} (h:PI X tg l t) (h':PI X tg l t'):PI X tg l (fun τ H R=>t τ H R\/t' τ H R):=fun pins s σ H R I q=>by
 rcases q with q | q
 ·exact h pins s σ H R I q
 ·exact h' pins s σ H R I q
theorem zto {K:Fg} {ρ:Loc} {H:Hp} {p:Addr} {xs:List D} {vs:List V} (hs:∀ρ2 H2,ExtG ρ H ρ2 H2->SqL K H2 p vs) (al:AtAll K ρ H xs vs):ItOk K ρ H (Itl K p) xs where
 item:=fun ρ2 H2 x i d e=>by
  obtain ⟨v,hv,a⟩:=al.get e;refine ⟨⟨vs,v,hs _ _ x,hv⟩,fun y H3 hy=>?_⟩;obtain ⟨rfl,h2⟩:=hy;have:=h2 vs (hs _ _ x);rw[hv] at this;cases this;exact ⟨.refl _ _,fun _ r=>⟨r,a.extG x⟩⟩
 done:=fun ρ2 H2 x i h=>⟨vs,hs _ _ x,by rw[al.length];exact h⟩
theorem zbgg {K:Fg} {ρ:Loc} {H:Hp} {p:Addr} {xs:List D} {vs:List V} (hs:∀ρ2 H2,ExtG ρ H ρ2 H2->SqT K H2 p vs) (al:AtAll K ρ H xs vs):ItOk K ρ H (Itt K p) xs where
 item:=fun ρ2 H2 x i d e=>by
  obtain ⟨v,hv,a⟩:=al.get e;refine ⟨⟨vs,v,hs _ _ x,hv⟩,fun y H3 hy=>?_⟩;obtain ⟨rfl,h2⟩:=hy;have:=h2 vs (hs _ _ x);rw[hv] at this;cases this;exact ⟨.refl _ _,fun _ r=>⟨r,a.extG x⟩⟩
 done:=fun ρ2 H2 x i h=>⟨vs,hs _ _ x,by rw[al.length];exact h⟩
theorem zbey (hl:DE X l f):DI X tg l (iSeq f):=zbbh (zbhn (zxv hl) (zbcq hl)) fun τ H R hq0=>by
 obtain ⟨ρ,σ,st,xs,st',a,rp,e,q⟩:=hq0;obtain ⟨x,st1,e1,e⟩:=zb e;cases x with
 | tup ys =>
  cases e;refine .inr ⟨ρ,σ,st,_,_,a,rp,e1,fun ρ1 H1 u x1 rp1 a1=>?_⟩;cases a1 with
  | tup h1 h2 h3=>exact ⟨_,rfl,⟨_,SqT.of h1⟩,q _ _ _ x1 rp1 (zbgg (fun ρ2 H2 x2=>SqT.of (x2.out h1 h2).1) h3)⟩
 | lst ys =>
  cases e;refine .inl ⟨ρ,σ,st,_,_,a,rp,e1,fun ρ1 H1 u x1 rp1 a1=>?_⟩;cases a1 with
  | lst h1 h2 h3=>exact ⟨_,rfl,⟨_,SqL.of h1⟩,q _ _ _ x1 rp1 (zto (fun ρ2 H2 x2=>SqL.of (x2.out h1 h2).1) h3)⟩
 | scr ys =>
  cases e;refine .inl ⟨ρ,σ,st,_,_,a,rp,e1,fun ρ1 H1 u x1 rp1 a1=>?_⟩;cases a1 with
  | scr h1 h3=>exact ⟨_,rfl,⟨_,h1.sq⟩,q _ _ _ x1 rp1 (zto (fun ρ2 H2 x2=>(h1.extG x2).sq) h3)⟩
 | _=>cases e
theorem zrv (hg : Gl X "range") (hm : X.mg "range" = none) (ha : DA X [a] g) (hs : starEach [a] X.env = [(false, eval a X.env)] := by rfl) : DI X tg (.Call (.Name "range" p) [a] [] pos) (iR1 g) :=
 zbbh (zqp hg hm ha hs) fun τ H R hq0=>by
 obtain ⟨ρ,σ,st,xs,st',a,rp,e,q⟩:=hq0;obtain ⟨x,st1,e1,e⟩:=zb e;split at e
 ·split at e
  ·rename_i hj;cases e;refine ⟨ρ,σ,st,_,_,a,rp,e1,fun ρ1 H1 u x1 rp1 a1=>?_⟩;obtain ⟨w,rfl,a2⟩:=a1.one;cases a2;exact ⟨_,rfl,hj.1,hj.2,q _ _ _ x1 rp1 zzb⟩
  ·cases e
 ·cases e
theorem zru (hg : Gl X "range") (hm : X.mg "range" = none) (ha : DA X [a, b] g) (hs : starEach [a, b] X.env = [(false, eval a X.env), (false, eval b X.env)] := by rfl) (hs2 : starEach [b] X.env = [(false, eval b X.env)] := by rfl) : DI X tg (.Call (.Name "range" p) [a, b] [] pos) (iR2 g) :=
 zbbh (zqo hg hm ha hs hs2) fun τ H R hq0=>by
 obtain ⟨ρ,σ,st,xs,st',a,rp,e,q⟩:=hq0;obtain ⟨x,st1,e1,e⟩:=zb e;split at e
 ·split at e
  ·rename_i hj;cases e;refine ⟨ρ,σ,st,_,_,a,rp,e1,fun ρ1 H1 u x1 rp1 a1=>?_⟩;obtain ⟨w,w2,rfl,a2,a3⟩:=a1.two;cases a2;cases a3;exact ⟨_,_,rfl,hj,q _ _ _ x1 rp1 zzb⟩
  ·cases e
 ·cases e
end
noncomputable def iDict (f:SE):SA:=fun σ st=>(f σ st).bind fun x st1=>match x with
 | .ref n=>match st1[n]? with
  | some (.dT kvs)=>.ok (rowsD (kvs.map (·.1))) (st1.set n (.fT kvs))
  | _=>.stuck
 | _=>.stuck
section
variable {X:Cx} {tg l:Expr} {f:SE}
theorem zbaa (hl:DE X l f):DI X tg l (iDict f):=zbbh (zxw hl) fun τ H R hq0=>by
 obtain ⟨ρ,σ,st,xs,st',a,rp,e,q⟩:=hq0;obtain ⟨x,st1,e1,e⟩:=zb e;refine ⟨ρ,σ,st,x,st1,a,rp,e1,fun ρ1 H1 u x1 rp1 a1=>?_⟩;split at e
 ·rename_i n;split at e
  ·rename_i kvs hn;cases e;obtain ⟨p,rfl,hp,vs,g1,g2⟩:=zfn rp1 a1 hn (by intro z;cases z);refine ⟨p,vs,kvs.map (·.1),rfl,g1,g2.keys,fun ob ps h1 h2=>?_⟩;have E:Ext ρ1 H1 ρ1 (upd H1 p (.frz ob (.dT vs))):=Ext.wr hp (zgq g1) _;have R:Rep X.K ρ1 (st1.set n (.fT kvs)) (upd H1 p (.frz ob (.dT vs))):=rp1.wr hp (zgq g1) ⟨vs,ob,zi,g2.ext E⟩;refine q _ _ _ (x1.trans E) R ⟨fun ρ2 H2 x2 i d e=>?_,fun ρ2 H2 x2 i h=>?_⟩
   ·have e2:(ps.map (·.2))[i]?=(kvs.map (·.1))[i]?:=by rw[h1]
    unfold rowsD at e;rw[xcs,← e2,xcs] at e;cases hi:ps[i]? with
    | none=>rw[hi] at e;cases e
    | some x =>
     rw[hi] at e;cases e;refine ⟨⟨(xbl.mp hi).1,x2.frz _ _ _ zi⟩,fun y H3 hy=>?_⟩;obtain ⟨rfl,x',hx',rfl⟩:=hy;rw[hi] at hx';cases hx';have ht:=h2 x (xcg hi);have a3:At X.K ρ1 H1 (rowD x.2) (.ref x.1):=.tup ht (zko rp1 ht) (zhr _);exact ⟨.refl _ _,fun _ r=>⟨r,(a3.ext E).extG x2⟩⟩
   ·have e2:=congrArg List.length h1;rw[xbc] at e2;unfold rowsD at h;rw[xbc,← e2] at h;exact ⟨h,x2.frz _ _ _ zi⟩
  ·cases e
 ·cases e
end
noncomputable def forF (bd:SG) (body:SS):List D->SS
 | [],σ,st=>.ok (.nx σ) st
 | x::xs,σ,st=>match bd x σ with
  | none=>.stuck
  | some σ1=>match body σ1 st with
   | .ok (.nx σ2) st2=>forF bd body xs σ2 st2
   | .ok (.ct σ2) st2=>forF bd body xs σ2 st2
   | .ok (.brk σ2) st2=>.ok (.nx σ2) st2
   | r=>r
noncomputable def sFor (it:SA) (bd:SG) (body:SS):SS:=fun σ st=>(it σ st).bind fun xs st1=>forF bd body xs σ st1
noncomputable def whileF (c:ST) (body:SS):Nat->SS
 | 0,_,_=>.stuck
 | n+1,σ,st=>(c σ st).bind fun b st1=>if b=true then (match body σ st1 with
  | .ok (.nx σ2) st2=>whileF c body n σ2 st2
  | .ok (.ct σ2) st2=>whileF c body n σ2 st2
  | .ok (.brk σ2) st2=>.ok (.nx σ2) st2
  | r=>r) else .ok (.nx σ) st1
noncomputable def wCap:Nat:=1000000
noncomputable def sWhile (c:ST) (body:SS):SS:=whileF c body wCap
theorem zte {α:Type} {xs:List α} {i:Nat} (h:i < xs.length):∃x,xs[i]?=some x/\xs.drop i=x::xs.drop (i+1):=⟨xs[i],xbj h,xgb h⟩
section
variable {X:Cx} {tg iter c:Expr} {body:List Stmt} {it:SA} {bd:SG} {b:SS} {t:ST} {pos:Pos}
theorem zbet (hp:PassesOwn (model X.prog X.w) X.A X.env X.xe) (hc:X.calm=true) (hi:DI X tg iter it) (hg:DG X tg bd) (hb:DSs X body b) (hs:∀x,foldedSetIterable iter X.env x=pure x:=by intro _;rfl) :
  DSt X (.For tg iter body [] pos) (sFor it bd b):=zlu (zbcn hp hc hi hg hb hs) fun E τ H hq0=>by
 obtain ⟨ρ,σ,st,fl,st',a,rp,e,q⟩:=hq0;obtain ⟨xs,st1,e1,e⟩:=zb e;refine ⟨ρ,σ,st,xs,st1,a,rp,e1,fun ρ1 H1 J x1 rp1 ok=>?_⟩;have q1:=q.ext x1;refine ⟨fun i m τ' H'=>i+m=xs.length/\∃ρ2 σ2 st2,Ext ρ1 H1 ρ2 H'/\AtS X.K ρ2 H' σ2 τ'/\Rep X.K ρ2 st2 H'/\forF bd b (xs.drop i) σ2 st2=.ok fl st',⟨xs.length,by lia,ρ1,σ,st1,.refl _ _,a.ext x1,rp1,e⟩,?_⟩;rintro i m τ' H' ⟨him,ρ2,σ2,st2,x2,a2,rp2,e2⟩;rcases xge i xs.length with hlt | hge
 ·obtain ⟨x,hx,hd⟩:=zte hlt;rw[hd] at e2;obtain ⟨go,yl⟩:=ok.item ρ2 H' x2.toG i x hx;refine .inr ⟨go,fun τ3 H3=>∃ρ3 σ3 st3,Ext ρ1 H1 ρ3 H3/\AtS X.K ρ3 H3 σ3 τ3/\Rep X.K ρ3 st3 H3/\forF bd b (xs.drop (i+1)) σ3 st3=.ok fl st',fun τ3 H3 ⟨ρ3,σ3,st3,n1,n2,n3,n4⟩=>⟨m - 1,by lia,by lia,ρ3,σ3,st3,n1,n2,n3,n4⟩,fun y H3 hy=>?_⟩;obtain ⟨y1,y4⟩:=yl y H3 hy;obtain ⟨y2,y3⟩:=y4 _ rp2;unfold forF at e2;cases hbd:bd x σ2 with
  | none=>rw[hbd] at e2;cases e2
  | some σ1 =>
   rw[hbd] at e2;dsimp only at e2;have X3:=x2.trans y1;refine ⟨ρ2,σ2,x,σ1,a2.ext y1,y3,hbd,fun τ4 a4=>?_⟩;cases hr:b σ1 st2 with
   | stuck=>rw[hr] at e2;cases e2
   | exc z w=>rw[hr] at e2;cases e2
   | ok fb st3 =>
    rw[hr] at e2;refine ⟨ρ2,σ1,st2,fb,st3,a4,y2,hr,?_⟩;cases fb with
    | nx σ3=>exact fun ρ' H'' τ5 x5 rp5 a5=>⟨ρ',σ3,st3,X3.trans x5,a5,rp5,e2⟩
    | ct σ3=>exact fun ρ' H'' τ5 x5 rp5 a5=>⟨ρ',σ3,st3,X3.trans x5,a5,rp5,e2⟩
    | brk σ3 =>
     dsimp only at e2;cases e2;exact fun ρ' H'' τ5 x5 rp5 a5=>q1 _ _ _ (X3.trans x5) rp5 a5
    | ret v =>
     dsimp only at e2;cases e2;exact fun ρ' H'' u x5 rp5 a5=>q1 _ _ _ (X3.trans x5) rp5 a5
 ·rw[xgx hge] at e2;unfold forF at e2;cases e2;exact .inl ⟨ok.done ρ2 H' x2.toG i hge,q1 _ _ _ x2 rp2 a2⟩
theorem zvi (hp:PassesOwn (model X.prog X.w) X.A X.env X.xe) (hc:DT X c t) (hb:DSs X body b):DSt X (.While c body [] pos) (sWhile t b):=zlu (zub hp hc hb) fun E τ H hq0=>by
 obtain ⟨ρ,σ,st,fl,st',a,rp,e,q⟩:=hq0;unfold sWhile at e;generalize wCap=n at e;refine ⟨fun m τ' H'=>∃ρ2 σ2 st2,Ext ρ H ρ2 H'/\AtS X.K ρ2 H' σ2 τ'/\Rep X.K ρ2 st2 H'/\whileF t b m σ2 st2=.ok fl st',⟨n,ρ,σ,st,.refl _ _,a,rp,e⟩,?_⟩;rintro m τ' H' ⟨ρ2,σ2,st2,x2,a2,rp2,e2⟩;cases m with
 | zero=>unfold whileF at e2;cases e2
 | succ m =>
  unfold whileF at e2;obtain ⟨x,st3,e3,e4⟩:=zb e2;refine ⟨ρ2,σ2,st2,x,st3,a2,rp2,e3,fun ρ3 H3 x3 rp3=>?_⟩;have X3:=x2.trans x3;cases x with
  | false =>
   rw[if_neg (by decide)] at e4;cases e4;exact iteF (q _ _ _ X3 rp3 (a2.ext x3))
  | true =>
   rw[if_pos rfl] at e4;refine iteT ⟨fun τ4 H4=>∃ρ4 σ4 st4,Ext ρ H ρ4 H4/\AtS X.K ρ4 H4 σ4 τ4/\Rep X.K ρ4 st4 H4/\whileF t b m σ4 st4=.ok fl st',fun τ4 H4 hh=>⟨m,xkb m,hh⟩,?_⟩;cases hr:b σ2 st3 with
   | stuck=>rw[hr] at e4;cases e4
   | exc z w=>rw[hr] at e4;cases e4
   | ok fb st5 =>
    rw[hr] at e4;refine ⟨ρ3,σ2,st3,fb,st5,a2.ext x3,rp3,hr,?_⟩;cases fb with
    | nx σ3=>exact fun ρ' H'' τ5 x5 rp5 a5=>⟨ρ',σ3,st5,X3.trans x5,a5,rp5,e4⟩
    | ct σ3=>exact fun ρ' H'' τ5 x5 rp5 a5=>⟨ρ',σ3,st5,X3.trans x5,a5,rp5,e4⟩
    | brk σ3 =>
     dsimp only at e4;cases e4;exact fun ρ' H'' τ5 x5 rp5 a5=>q _ _ _ (X3.trans x5) rp5 a5
    | ret v =>
     dsimp only at e4;cases e4;exact fun ρ' H'' u x5 rp5 a5=>q _ _ _ (X3.trans x5) rp5 a5
end
noncomputable def compF (bd:SG) (c:ST) (f:SE):List D->DS->Store->Res (List D)
 | [],_,st=>.ok [] st
 | x::xs,σ,st=>match bd x σ with
  | none=>.stuck
  | some σ1=>(c σ1 st).bind fun b st1=>if b=true then (f σ1 st1).bind fun y st2=>(compF bd c f xs σ1 st2).bind fun ys st3=>.ok (y::ys) st3 else compF bd c f xs σ1 st1
noncomputable def startD (k:Nat) (is:List Nat) (σ:DS):DS:=List.replicate k none++is.map fun i=>(σ[i]?).getD none
noncomputable def eComp (it:SA) (k:Nat) (is:List Nat) (bd:SG) (c:ST) (f:SE):SE:=fun σ st=>(it σ st).bind fun xs st1=>if xs.length<=sizeLine then (compF bd c f xs (startD k is σ) st1).bind fun ys st2=>.ok (.lst ys) st2 else .stuck
noncomputable def bYes:ST:=fun _ st=>.ok true st
theorem AtS.start {K:Fg} {ρ:Loc} {H:Hp} {σ:DS} {τ:St} (h:AtS K ρ H σ τ) (k:Nat) (is:List Nat):AtS K ρ H (startD k is σ) (startC k is τ):=by
 have app:∀{a c:DS} {b d:St},AtS K ρ H a b->AtS K ρ H c d->AtS K ρ H (a++c) (b++d):=fun h1 h2=>by
  induction h1 with
  | nil=>exact h2
  | cons r t ih=>exact .cons r ih
 refine app ?_ ?_
 ·induction k with
  | zero=>exact .nil
  | succ k ih=>exact .cons (fun d e=>nomatch e) ih
 ·induction is with
  | nil=>exact .nil
  | cons i is ih =>
   refine .cons (fun d e=>?_) ih;have e:(σ[i]?).getD none=some d:=e;have e':σ[i]?=some (some d):=by
    cases q:σ[i]? with
    | none=>rw[q] at e;cases e
    | some o=>rw[q] at e;exact congrArg some e
   obtain ⟨u,hu,a⟩:=h.get e';exact ⟨u,by show (τ[i]?).getD none=some u;rw[hu];rfl,a⟩
noncomputable def Loc.with (ρ:Loc) (p:Addr):Loc:=⟨ρ.m,p::ρ.g⟩
theorem zwq {ρ:Loc} {H:Hp} {p:Addr} {o:HO} (hp:H p=none):Mv ρ H (ρ.with p) (upd H p o):=⟨fun e n=>⟨by rw[zh (ze e hp)];exact e,n.1,fun z=>by
 rcases xbt.mp z with z | z
 ·exact ze e hp z
 ·exact n.2 z⟩,xbe _,fun _ _ _ e=>e⟩
theorem At.with {K:Fg} {ρ:Loc} {H:Hp} {p:Addr} {o:HO} (hp:H p=none) {d:D} {v:V} (h:At K ρ H d v):At K (ρ.with p) (upd H p o) d v:=h.mv (zwq hp)
theorem zsz {ρ ρ':Loc} {H:Hp} {p:Addr} {o:HO} (hm:ρ'.m=ρ.m) (hg:p∈ρ.g) (hs:∀a,a∈ρ'.g->a∈ρ.g):Mv ρ H ρ' (upd H p o):=⟨fun e n=>⟨by rw[zh (by rintro rfl;exact n.2 hg)];exact e,by rw[hm];exact n.1,fun z=>n.2 (hs _ z)⟩,by rw[hm];exact xbe _,fun _ _ _ e=>by rw[hm] at e;exact e⟩
theorem At.grow {K:Fg} {ρ ρ':Loc} {H:Hp} {p:Addr} {o:HO} (hm:ρ'.m=ρ.m) (hg:p∈ρ.g) (hs:∀a,a∈ρ'.g->a∈ρ.g) {d:D} {v:V} (h:At K ρ H d v):At K ρ' (upd H p o) d v:=h.mv (zsz hm hg hs)
theorem AtAll.grow {K:Fg} {ρ ρ':Loc} {H:Hp} {p:Addr} {o:HO} (hm:ρ'.m=ρ.m) (hg:p∈ρ.g) (hs:∀a,a∈ρ'.g->a∈ρ.g) {d:List D} {v:List V} (h:AtAll K ρ H d v):AtAll K ρ' (upd H p o) d v:=h.mv (zsz hm hg hs)
theorem OAt.map {K:Fg} {ρ ρ':Loc} {H H':Hp} {a:Addr} {x:O} (k:∀d v,At K ρ H d v->At K ρ' H' d v) (fz:∀b ob u,H b=some (.frz ob u)->H' b=some (.frz ob u)) (same:H' a=H a) (h:OAt K ρ H x a):OAt K ρ' H' x a:=by
 have ka:∀{d:List D} {v:List V},AtAll K ρ H d v->AtAll K ρ' H' d v:=fun {d v} h=>by
  induction d generalizing v with
  | nil=>cases h;exact .nil
  | cons x xs ih=>cases h with | cons a b=>exact .cons (k _ _ a) (ih b)
 cases x with
 | lst xs=>obtain ⟨vs,q,r⟩:=h;exact ⟨vs,by rw[same];exact q,ka r⟩
 | dT kvs=>obtain ⟨vs,q,r⟩:=h;exact ⟨vs,by rw[same];exact q,Paired.mapP r fun p q z=>⟨z.1,k _ _ z.2⟩⟩
 | fT kvs=>obtain ⟨vs,ob,q,r⟩:=h;exact ⟨vs,ob,by rw[same];exact q,Paired.mapP r fun p q z=>⟨z.1,k _ _ z.2⟩⟩
 | dead=>exact h.elim
 | tab=>obtain ⟨c,ps,q,r⟩:=h;exact ⟨c,ps,by rw[same];exact q,r.map fz⟩
theorem Rep.with {K:Fg} {ρ:Loc} {st:Store} {H:Hp} {p:Addr} (r:Rep K ρ st H) (hp:H p=none) (vs:List V):Rep K (ρ.with p) st (upd H p (.lst vs)) :=
 ⟨r.len,r.inj,fun m b y e1 e2=>by
  have q:=r.obj m b y e1 e2;obtain ⟨u,hu⟩:=q.has;exact q.map (fun d v h=>h.with hp) (fun b ob u e=>by rw[zh (ze e hp)];exact e) (zh (ze hu hp)),fun a ha=>by
  rcases xbt.mp ha with rfl | ha
  ·exact ⟨⟨vs,zi⟩,(zev r hp).1⟩
  ·obtain ⟨⟨ws,h1⟩,h2⟩:=r.gh a ha
   exact ⟨⟨ws,by rw[zh (ze h1 hp)];exact h1⟩,h2⟩,r.live⟩
theorem Rep.grow {K:Fg} {ρ ρ':Loc} {st:Store} {H:Hp} {p:Addr} (r:Rep K ρ st H) (hm:ρ'.m=ρ.m) (hg:p∈ρ.g) (hs:∀a,a∈ρ'.g->a∈ρ.g) (vs:List V):Rep K ρ' st (upd H p (.lst vs)) :=
 ⟨by rw[hm];exact r.len,by rw[hm];exact r.inj,fun m b y e1 e2=>by
  rw[hm] at e1;refine (r.obj m b y e1 e2).map (fun d v h=>h.grow hm hg hs) (fun b ob u e=>by rw[zh (by rintro rfl;obtain ⟨⟨_,z⟩,_⟩:=r.gh _ hg;rw[e] at z;cases z)];exact e) (zh ?_);rintro rfl;exact (r.gh b hg).2 (xcg e1),fun a ha=>by
  obtain ⟨⟨ws,h1⟩,h2⟩:=r.gh a (hs a ha);refine ⟨?_,by rw[hm];exact h2⟩;by_cases e:a=p
  ·subst e;exact ⟨vs,zi⟩
  ·exact ⟨ws,by rw[zh e];exact h1⟩,by rw[hm];exact r.live⟩
theorem AtS.map {K:Fg} {ρ ρ':Loc} {H H':Hp} {σ:DS} {τ:St} (k:∀d v,At K ρ H d v->At K ρ' H' d v) (h:AtS K ρ H σ τ):AtS K ρ' H' σ τ:=Paired.mapP h fun o v z d e=>by
 obtain ⟨u,e1,a⟩:=z d e;exact ⟨u,e1,k _ _ a⟩
section
variable {X:Cx} {tg iter elt:Expr} {ifs:List Expr} {it:SA} {bd:SG} {c:ST} {f:SE} {N:List Str} {k:Nat} {is:List Nat} {scope:Scope} {pos:Pos}
inductive CI (K:Fg) (bd:SG) (c:ST) (f:SE) (xs ys:List D) (st2:Store) (ρ1:Loc) (H1:Hp) (p:Addr) (i:Nat) (τ:St) (H':Hp):Prop where
 | mk {ρ2:Loc} {σ2:DS} {st3:Store} {acc:List D} {accV:List V} {zs:List D} (x2:ExtG ρ1 H1 ρ2 H') (hg:ρ2.g=p::ρ1.g) (hpp:H' p=some (.lst accV)) (hal:AtAll K ρ2 H' acc accV) (hli:acc.length<=i) (a2:AtS K ρ2 H' σ2 τ) (rp2:Rep K ρ2 st3 H') (e3:compF bd c f (xs.drop i) σ2 st3=.ok zs st2) (hac:acc++zs=ys):CI K bd c f xs ys st2 ρ1 H1 p i τ H'
theorem zbfp {K:Fg} {τ:St} {H:Hp} {Q:V->Hp->Prop} {ρ:Loc} {σ:DS} {st st1 st2:Store} {xs ys:List D} (a:AtS K ρ H σ τ) (rp:Rep K ρ st H) (e1:it σ st=.ok xs st1) (hlen:xs.length<=sizeLine) (e2:compF bd c f xs (startD k is σ) st1=.ok ys st2)
 (fin:∀ρ1 H1 p ρ2 H' accV,Ext ρ H ρ1 H1->Rep K ρ1 st1 H1->H1 p=none->ExtG ρ1 H1 ρ2 H'->ρ2.g=p::ρ1.g->H' p=some (.lst accV)->AtAll K ρ2 H' ys accV->Rep K ρ2 st2 H'->Q (.ref p) H'):tComp (iD K it) k is (gD K bd) (tDT K c) (tD K f) τ H Q:=by
 refine ⟨ρ,σ,st,xs,st1,a,rp,e1,fun ρ1 H1 J x1 rp1 ok p hp=>?_⟩
 refine ⟨fun i m τ' H'=>i+m=xs.length/\CI K bd c f xs ys st2 ρ1 H1 p i τ' H',
  ⟨xs.length,by lia,.mk ?_ rfl zi .nil (xeh _) (((a.ext x1).start k is).map fun d v h=>h.with hp) (rp1.with hp []) e2 rfl⟩,?_⟩
 ·have E:Ext ρ1 H1 ρ1 (upd H1 p (.lst [])):=Ext.new hp _
  exact ⟨E.len,E.old,E.keep,fun a h=>by
   rcases xbt.mp h with rfl | h
   ·exact .inr hp
   ·exact .inl h,E.frz⟩
 rintro i m τ' H' ⟨him,@⟨ρ2,σ2,st3,acc,accV,zs,x2,hg,hpp,hal,hli,a2,rp2,e3,hac⟩⟩;have hpg:p∈ρ2.g:=by rw[hg];exact xbu
 rcases xge i xs.length with hlt | hge
 ·obtain ⟨x,hx,hd⟩:=zte hlt;rw[hd] at e3;obtain ⟨go,yl⟩:=ok.item ρ2 H' x2 i x hx
  refine .inr ⟨go,CI K bd c f xs ys st2 ρ1 H1 p (i+1),
   fun τ4 H4 hh=>⟨m - 1,by lia,by lia,hh⟩,fun y H3 hy=>?_⟩
  obtain ⟨y1,y4⟩:=yl y H3 hy;obtain ⟨y2,y3⟩:=y4 _ rp2;unfold compF at e3;cases hbd:bd x σ2 with
  | none=>rw[hbd] at e3;cases e3
  | some σ1 =>
   rw[hbd] at e3;dsimp only at e3;obtain ⟨bb,st4,e4,e5⟩:=zb e3;refine ⟨ρ2,σ2,x,σ1,a2.ext y1,y3,hbd,fun τ4 a4=>?_⟩;have hpm:some p∉ρ2.m:=(rp2.gh p hpg).2;have hpp3:=(y1.keep p _ hpp hpm).1;refine ⟨ρ2,σ1,st3,bb,st4,a4,y2,e4,fun ρ5 H5 x5 rp5=>?_⟩;have hpp5:=(x5.keep p _ hpp3 hpm).1;have hal5:=(hal.ext y1).ext x5;have g5:ρ5.g=p::ρ1.g:=x5.gho.trans hg;cases bb with
   | false =>
    rw[if_neg (by decide)] at e5;exact iteF (.mk ((x2.then y1).then x5) g5 hpp5 hal5 (xff hli) (a4.ext x5) rp5 e5 hac)
   | true =>
    rw[if_pos rfl] at e5;obtain ⟨w,st6,e6,e7⟩:=zb e5;obtain ⟨zs',st7,e8,e9⟩:=zb e7;cases e9;refine iteT ⟨ρ5,σ1,st4,w,st6,a4.ext x5,rp5,e6,fun ρ6 H6 u x6 rp6 a6=>?_⟩;have hpm5:some p∉ρ5.m:=(x5.keep p _ hpp3 hpm).2;have hpp6:=(x6.keep p _ hpp5 hpm5).1;have g6:ρ6.g=p::ρ1.g:=x6.gho.trans g5;have hp6:p∈ρ6.g:=by rw[g6];exact xbu
    have hl6:accV.length<=i:=by rw[hal.length];exact hli
    refine ⟨accV,hpp6,xcn hl6 (xbd hlt hlen),.mk (acc:=acc++[w]) (accV:=accV++[u]) ?_ g6 zi ?_ (by rw[xbm];exact xee hli) ?_ (rp6.grow rfl hp6 (fun _ h=>h) _) e8 (by rw[← hac,xcj];rfl)⟩
    ·have G:=((x2.then y1).then x5).then x6;refine ⟨G.len,G.old,fun b o e n=>?_,G.gho,fun b ob uu e=>?_⟩
     ·rw[zh (ze e hp)];exact G.keep b o e n
     ·rw[zh (ze e hp)];exact G.frz b ob uu e
    ·exact ((hal5.ext x6).append (.cons a6 .nil)).grow rfl hp6 (fun _ h=>h)
    ·exact (a4.ext (x5.trans x6)).map fun d v h=>h.grow rfl hp6 (fun _ h=>h)
 ·rw[xgx hge] at e3;unfold compF at e3;cases e3;rw[xdw] at hac;subst hac;exact .inl ⟨ok.done _ _ x2 i hge,fin _ _ _ _ _ _ x1 rp1 hp x2 hg hpp hal rp2⟩
theorem zbfo {K:Fg}:∀τ H Q,tD K (eComp it k is bd c f) τ H Q->tComp (iD K it) k is (gD K bd) (tDT K c) (tD K f) τ H Q:=fun τ H Q hq0=>by
 obtain ⟨ρ,σ,st,v,st',a,rp,e,q⟩:=hq0;obtain ⟨xs,st1,e1,e⟩:=zb e;split at e
 ·rename_i hlen;obtain ⟨ys,st2,e2,e⟩:=zb e;cases e;refine zbfp a rp e1 hlen e2 fun ρ1 H1 p ρ2 H' accV x1 rp1 hp x2 hg hpp hal rp2=>?_
  have hpg:p∈ρ2.g:=by rw[hg];exact xbu
  have hpm:some p∉ρ2.m:=(rp2.gh p hpg).2;have self:upd H' p (.lst accV)=H':=ztq hpp;have sub:∀a,a∈(⟨ρ2.m,ρ1.g⟩:Loc).g->a∈ρ2.g:=fun b hb=>by rw[hg];exact xca _ hb
  have E:Ext ρ1 H1 ⟨ρ2.m,ρ1.g⟩ H':=⟨x2.len,x2.old,x2.keep,rfl,x2.frz⟩
  have R:=rp2.grow (ρ':=⟨ρ2.m,ρ1.g⟩) rfl hpg sub accV;have L:=AtAll.grow (ρ:=ρ2) (ρ':=⟨ρ2.m,ρ1.g⟩) (o:=.lst accV) rfl hpg sub hal;rw[self] at R L;refine q _ _ _ (x1.trans E) R (.lst hpp ⟨hpm,fun z=>?_⟩ L);obtain ⟨⟨ws,h1⟩,_⟩:=rp1.gh p z;rw[hp] at h1;cases h1
 ·cases e
theorem zbfi (hcalm:X.calm=true) (hi:DI X tg iter it) (hg:∀cl C fp s H,DG (cxC X N scope cl C fp s H) tg bd) (hc:∀cl C fp s H,PIf (cxC X N scope cl C fp s H) ifs (tDT X.K c)) (he:∀cl C fp s H,DE (cxC X N scope cl C fp s H) elt f)
 (S:CompScope X N k is scope) (hs:∀x,foldedSetIterable iter X.env x=pure x:=by intro _;rfl):DE X (.ListComp elt [⟨tg,iter,ifs,0⟩] scope pos) (eComp it k is bd c f):=zef (zyd hcalm hi hg hc he S hs) zbfo
theorem zzz {X:Cx}:PIf X [] (tDT X.K bYes):=fun pins s σ H Q I hq0=>by
 obtain ⟨ρ,σ',st,v,st',a,rp,e,q⟩:=hq0;cases e;exact zxt pins s σ H Q I (q _ _ (.refl _ _) rp)
theorem zzy {X:Cx} {c:Expr} {t:ST} (h:DT X c t):PIf X [c] (tDT X.K t):=zxs h
end
end Dd
namespace Dd
open PySem L2 PyProof.Rows
noncomputable def spD (K:Fg) (np:Nat) (F:DFn):Sp:=fun vs H Q _=>∃ρ ds st v st',AtAll K ρ H ds vs/\Rep K ρ st H/\F ds st=.ok v st'/\vs.length=np/\∀ρ' H' u,Ext ρ H ρ' H'->Rep K ρ' st' H'->At K ρ' H' v u->Q u H'
noncomputable def CalD (P:Program) (w:World) (K:Fg) (mg:Str->Option Value) (base:Heap) (x:Str) (k:Nat) (ps:List Str) (F:DFn):Prop:=Callee P w K mg base x k ps (spD K ps.length F)
noncomputable def fnD (n np:Nat) (body:SS):DFn:=fun ds st=>if ds.length=np then (match body (ds.map some++List.replicate (n - np) none) st with
 | .ok (.ret v) st'=>.ok v st'
 | .ok (.nx _) st'=>.ok .non st'
 | .exc x st'=>.exc x st'
 | _=>.stuck) else .stuck
section
variable {X:Cx} {x:Str} {k:Nat} {ps:List Str} {F:DFn} {p pos:Pos} {e:Expr} {es:List Expr} {g:SA}
theorem zbfq {K:Fg} {np:Nat} {f:SA} (hn:∀ds st v st',F ds st=.ok v st'->ds.length=np):∀τ H Q,tD K (eCall F f) τ H Q->tCall (spD K np F) [] E0 (tDA K f) τ H Q:=fun τ H Q hq0=>by
 obtain ⟨ρ,σ,st,v,st',a,rp,e,q⟩:=hq0;obtain ⟨x,st1,e1,e⟩:=zb e;refine ⟨ρ,σ,st,x,st1,a,rp,e1,fun ρ1 H1 u x1 rp1 a1=>?_⟩;show spD K np F (u++[]) H1 Q E0;rw[xdw];exact ⟨ρ1,x,st1,v,st',a1,rp1,e,by rw[a1.length];exact hn _ _ _ _ e,fun ρ' H' w x2=>q ρ' H' w (x1.trans x2)⟩
theorem zbfk (c : CalD X.prog X.w X.K X.mg X.base x k ps F) (hn : ∀ ds st v st', F ds st = .ok v st' -> ds.length = ps.length) (hr : Room k X.A) (hg : Gl X x) (ha : DA X (e :: es) g) (hdb : (x == ("__debug__" : Str)) = false := by decide)
 (he:starEach (e::es) X.env=(false,eval e X.env)::starEach es X.env:=by rfl) (hpl:(backTo pos (starEach es X.env)).any (·.1)=false:=by rfl) :
 DE X (.Call (.Name x p) (e::es) [] pos) (eCall F g):=zef (zul c hr hg ha hdb he hpl) (zbfq hn)
theorem zbk {n np:Nat} {b:SS} {ds:List D} {st st':Store} {v:D} (h:fnD n np b ds st=.ok v st'):ds.length=np:=by
 unfold fnD at h;split at h
 ·assumption
 ·cases h
end
theorem AtAll.some {K:Fg} {ρ:Loc} {H:Hp}:∀{ds:List D} {vs:List V},AtAll K ρ H ds vs->AtS K ρ H (ds.map Option.some) (vs.map Option.some)
 | _,_,.nil=>.nil
 | _,_,.cons a b=>.cons (fun d e=>by cases e;exact ⟨_,rfl,a⟩) (AtAll.some b)
theorem AtS.append {K:Fg} {ρ:Loc} {H:Hp}:∀{a c:DS} {b d:L2.St},AtS K ρ H a b->AtS K ρ H c d->AtS K ρ H (a++c) (b++d)
 | _,_,_,_,.nil,h=>h
 | _,_,_,_,.cons r t,h=>.cons r (AtS.append t h)
theorem AtS.nones {K:Fg} {ρ:Loc} {H:Hp}:∀n,AtS K ρ H (List.replicate n none) (List.replicate n none)
 | 0=>.nil
 | n+1=>.cons (fun d e=>nomatch e) (AtS.nones n)
theorem zbaz {K:Fg} {N:List Str} {np:Nat} {b:SS} {vs:List V} {H:Hp} {Q:VK} {E:XK} (h:spD K np (fnD N.length np b) vs H Q E):tDS K b {nx:=fun _ H'=>Q .non H',rt:=Q} (L2.start N vs) H:=by
 obtain ⟨ρ,ds,st,v,st',a,rp,e,hl,q⟩:=h;have hd:ds.length=np:=by rw[← a.length];exact hl
 unfold fnD at e;rw[if_pos hd] at e;have as:AtS K ρ H (ds.map Option.some++List.replicate (N.length - np) none) (L2.start N vs):=by
  unfold L2.start;rw[hl];exact a.some.append (.nones _)
 refine ⟨ρ,ds.map Option.some++List.replicate (N.length - np) none,st,?_⟩;cases hr:b (ds.map Option.some++List.replicate (N.length - np) none) st with
 | stuck=>rw[hr] at e;cases e
 | exc z w=>rw[hr] at e;cases e
 | ok fl st1 =>
  rw[hr] at e;cases fl with
  | ret w =>
   dsimp only at e;cases e;exact ⟨.ret v,st',as,rp,rfl,fun ρ' H' u x r t=>q ρ' H' u x r t⟩
  | nx σ =>
   dsimp only at e;cases e;exact ⟨.nx σ,st',as,rp,rfl,fun ρ' H' τ x r t=>q ρ' H' .non x r .non⟩
  | brk σ=>cases e
  | ct σ=>cases e
theorem zbax {P:Program} {w:World} {K:Fg} {mg:Str->Option Value} {base h:Heap} {x:Str} {st:Stmt} {N ps:List Str} {k:Nat} {b:SS} (T:TopF K x st) (X:K.In h) (G:h.Ns mainGlobals mg) (S:FnScope N ps (defScope st))
  (bd:∀(kV doc pm:Value) (an:Option Addr) (cdv ct:Value) (us:List Value),us.length=ps.length->bindArgs (PySem.W.fnOf x x (defArgs st) (defBody st) (defScope st) .none kV doc pm an cdv ct) ⟨us,[]⟩=pure (ps.zip us))
  (hbody:∀(f:Addr) (cdv:Value) (A:Around) (outer:List Env) (s:Shared) (H:Hp) (E:XK),Room k (A.deeper (envOfC x (defScope st) s.heap.objs.size f cdv)) ->
   DSs (cxOf CX0 P w K mg base N x (defScope st) f cdv A outer s H E).nox (defBody st) b):CalD P w K mg base x (k+1) ps (fnD N.length ps.length b) :=
 zse T X G S bd (fun vs H Q E hh=>by obtain ⟨ρ,ds,st,v,st',a,rp,e,hl,q⟩:=hh;exact hl) fun f cdv A outer s H vs Q E hr hh=>⟨_,hbody f cdv A outer s H E hr,zbaz hh⟩
end Dd
namespace Dd
open PySem L2
noncomputable def oNeg:D->Store->Res D:=fun x st=>match x with
 | .int i=>.ok (.int (-i)) st
 | _=>.stuck
noncomputable def sStuck:SS:=fun _ _=>.stuck
noncomputable def tru (st:Store):D->Option Bool
 | .non=>some false
 | .bl b=>some b
 | .int i=>some (i != 0)
 | .tup xs=>some !xs.isEmpty
 | d=>(asL st d).map fun xs=>!xs.isEmpty
noncomputable def eTru (f:SE):ST:=fun σ st=>(f σ st).bind fun v st1=>match tru st1 v with
 | some b=>.ok b st1
 | none=>.stuck
theorem ziq {K:Fg} {ρ:Loc} {H:Hp} {ds:List D} {vs:List V} (h:AtAll K ρ H ds vs):ds.isEmpty=vs.isEmpty:=by
 cases h<;>rfl
theorem zbbv {K:Fg} {ρ:Loc} {st:Store} {H:Hp} (rp:Rep K ρ st H) {d:D} {u:V} {b:Bool} (a:At K ρ H d u) (e:tru st d=some b):TruV K u H b:=by
 unfold tru at e;split at e
 ·cases a;cases e;exact rfl
 ·cases a;cases e;exact rfl
 ·cases a;cases e;exact rfl
 ·cases e;cases a with
  | tup h1 h2 h3=>exact .inr (.inl ⟨_,SqT.of h1,by rw[ziq h3]⟩)
 ·obtain ⟨xs,h0,rfl⟩:=xcy.mp e;obtain ⟨p,vs,rfl,h1,h2⟩:=zfz rp a h0;exact .inl ⟨_,SqL.of h1,by rw[ziq h2]⟩
section
variable {X:Cx} {a b c e:Expr} {f f' f'':SE} {pos:Pos} {sm:Stmt}
theorem zbit (h:DE X a f):DE X (.UnaryOp .USub a pos) (eUn oNeg f):=zef (zbho zbbs h) fun τ H Q hq0=>by
 obtain ⟨ρ,σ,st,v,st',at',rp,e,q⟩:=hq0;obtain ⟨x,st1,e1,e⟩:=zb e;refine ⟨ρ,σ,st,x,st1,at',rp,e1,fun ρ1 H1 u x1 rp1 a1=>?_⟩;cases x<;>try (cases e;done)
 cases e;cases a1;exact ⟨_,rfl,q _ _ _ x1 rp1 (.int _)⟩
theorem zbel (h:DE X a f) (he:∀whole,isTrue a X.env whole=(do let v ← whole;standAt a.pos;holding [v] (truthy v)):=by intro _;rfl):DT X a (eTru f):=zbbg (zua h he) fun τ H Q hq0=>by
 obtain ⟨ρ,σ,st,v,st',at',rp,e,q⟩:=hq0;obtain ⟨x,st1,e1,e⟩:=zb e;refine ⟨ρ,σ,st,x,st1,at',rp,e1,fun ρ1 H1 u x1 rp1 a1=>?_⟩;split at e
 ·rename_i bb hb;cases e;exact ⟨_,zbbv rp1 a1 hb,q _ _ x1 rp1⟩
 ·cases e
end
end Dd
namespace Dd
open PySem PySem.Spec PyProof.Rows L2
section
variable {X:Cx} {l:Expr} {f:SE} {elts:List Expr} {k j:Nat} {tpos p pos kpos cpos:Pos}
end
end Dd
namespace Dd
open PySem L2
noncomputable def bInt:List D->Store->Res D:=fun xs st=>match xs with
 | [.int i]=>.ok (.int i) st
 | [.bl k]=>.ok (.int (if k then 1 else 0)) st
 | _=>.stuck
noncomputable def eCompM (it:SA) (k:Nat) (is:List Nat) (bd:SG) (c:ST) (f:SE):SE:=fun σ st=>(it σ st).bind fun xs st1=>if xs.length<=sizeLine then (compF bd c f xs (startD k is σ) st1).bind fun ys st2=>.ok (.ref st2.length) (st2++[.lst ys]) else .stuck
section
variable {X:Cx} {tg iter elt:Expr} {ifs:List Expr} {it:SA} {bd:SG} {c:ST} {f:SE} {N:List Str} {k:Nat} {is:List Nat} {scope:Scope} {pos:Pos}
end
noncomputable def plainE:Expr->Bool
 | .Starred _ _=>false
 | _=>true
theorem znb {e:Expr} {es:List Expr} {env:Env} (h:plainE e=true):starEach (e::es) env=(false,eval e env)::starEach es env:=by
 cases e<;>first | rfl | cases h
theorem zvo {X:Cx} {e:Expr} {es:List Expr} {f:SE} {g:SA} (ha:DE X e f) (hr:DA X es g) (hp:plainE e=true:=by rfl):DA X (e::es) (aCons f g):=zbaf ha hr (znb hp)
noncomputable def bBest (gt:Bool):List D->Store->Res D:=fun xs st=>match xs with
 | [x]=>match (seqOf st x).bind asInts with
  | some (n::ns)=>.ok (.int (bestI gt n ns)) st
  | _=>.stuck
 | _=>.stuck
noncomputable def pairsF:List D->List D->List D
 | x::xs,y::ys=>.tup [x,y]::pairsF xs ys
 | _,_=>[]
noncomputable def iZipT (g:SA):SA:=fun σ st=>(g σ st).bind fun xs st1=>match xs with
 | [.tup a,.tup b]=>.ok (pairsF a b) st1
 | _=>.stuck
section
variable {X:Cx} {a b:Expr} {g:SA} {elts:List Expr} {k:Nat} {tpos p pos:Pos}
end
noncomputable def sSetG (bd:SG) (f:SE):SS:=fun σ st=>(f σ st).bind fun v st1=>match bd v σ with
 | some σ1=>.ok (.nx σ1) st1
 | none=>.stuck
end Dd
namespace Dd
open PySem L2 PyProof.Rows
structure JE (X:Cx) (e:Expr) (f:SE):Prop where out:DE X e f
structure JT (X:Cx) (e:Expr) (f:ST):Prop where out:DT X e f
structure JW (X:Cx) (e:Expr) (f:ST):Prop where out:DW X e f
structure JA (X:Cx) (e:List Expr) (f:SA):Prop where out:DA X e f
structure JS (X:Cx) (s:Stmt) (f:SS):Prop where out:DSt X s f
structure JB (X:Cx) (s:List Stmt) (f:SS):Prop where out:DSs X s f
structure JO (X:Cx) (e:Option Expr) (f:DS->Store->Res (Option Int)):Prop where out:DO X e f
structure JG (X:Cx) (e:Expr) (b:SG):Prop where out:DG X e b
structure JGs (X:Cx) (e:List Expr) (b:List D->DS->Option DS):Prop where out:DGs X e b
structure JI (X:Cx) (tg iter:Expr) (f:SA):Prop where out:DI X tg iter f
structure JIf (X:Cx) (ifs:List Expr) (c:ST):Prop where out:PIf X ifs (tDT X.K c)
structure JC (X:Cx) (op:CmpOp) (a b:Expr) (f:SE):Prop where out:PC X op a b (tD X.K f)
theorem JW.pt {X:Cx} {e:Expr} {t:ST} (h:JW X e t):JT X e t:=⟨PW.pt h.out⟩
section
variable {X:Cx}
theorem zc {e:Expr} {i:Nat} (h:PE X e (tVar i)):JE X e (eVar i):=⟨zbin h⟩
theorem zban {e:Expr} {v:V} {d:D} (h:PE X e (tC v)) (k:∀ρ H,At X.K ρ H d v):JE X e (eC d):=⟨zbao h k⟩
theorem zl {i j pos}:JE X (.Constant (.int i) j pos) (eC (.int i)):=⟨zbiv⟩
theorem zti {b j pos}:JE X (.Constant (.bool b) j pos) (eC (.bl b)):=⟨d_bl⟩
theorem zbai {j pos}:JE X (.Constant .none j pos) (eC .non):=⟨zbis⟩
theorem zet {x j pos}:JE X (.Constant (.str x) j pos) (eC (.str x)):=⟨zbip⟩
end
section
variable {X:Cx} {a b c:Expr} {f f' f'':SE} {pos:Pos}
theorem zci {op:Operator} {r:R2} {g:D->D->Store->Res D} (ho:OpR X (binaryOp op) r) (hr:OpD X.K g r) (ha:JE X a f) (hb:JE X b f'):JE X (.BinOp a op b pos) (eOp g f f'):=⟨d_op ho hr ha.out hb.out⟩
theorem zbfj {op:CmpOp} {r:R2} {g:D->D->Store->Res D} (ho:OpR X (compareOp op) r) (hr:OpD X.K g r) (ha:JE X a f) (hb:JE X b f') (hm:behindInMarks op b=false):JE X (.Compare a [op] [b] pos) (eOp g f f'):=⟨zbix ho hr ha.out hb.out hm⟩
theorem zdj {op:CmpOp} {r:R2} {g:D->D->Store->Res D} (ho:OpR X (compareOp op) r) (hr:OpD X.K g r) (ha:JE X a f) (hb:JE X b f') (hm:behindInMarks op b=false):JT X (.Compare a [op] [b] pos) (eB (eOp g f f')):=⟨zbeo ho hr ha.out hb.out hm⟩
end
section
variable {X:Cx} {a b:Expr} {rest:List Expr} {f f':SE} {t t':ST} {pos:Pos}
theorem zbfc {op} (h:JE X a f):JE X (.BoolOp op [a] pos) f:=⟨zbiq h.out⟩
theorem zbfl (ha:JE X a f) (hb:JE X (.BoolOp .And (b::rest) pos) f'):JE X (.BoolOp .And (a::b::rest) pos) (eAnd f f'):=⟨zbiy ha.out hb.out⟩
theorem zbah (ha:JE X a f):JE X (.UnaryOp .Not a pos) (eNot f):=⟨zbir ha.out⟩
theorem zla {op} (h:JT X a t) (hop:op=.And\/op=.Or):JW X (.BoolOp op [a] pos) t:=⟨zbek h.out hop⟩
theorem zor (ha:JT X a t) (hb:JW X (.BoolOp .Or (b::rest) pos) t'):JW X (.BoolOp .Or (a::b::rest) pos) (bOr t t'):=⟨zbij ha.out hb.out⟩
theorem zos (ha:JT X a t):JT X (.UnaryOp .Not a pos) (bNot t):=⟨zbem ha.out⟩
end
section
variable {X:Cx} {e:Expr} {es:List Expr} {f:SE} {g:SA} {pos:Pos}
theorem zd :JA X [] aNil:=⟨zbfa⟩
theorem zhy {x1} (h:JA X es g):JE X (.Tuple es x1 pos) (eTup g):=⟨zbio h.out⟩
theorem zkb (h:JA X es g):JE X (.List es pos) (eLst g):=⟨zbiu h.out⟩
theorem zlg (h:JA X es g):JE X (.List es pos) (eLstM g):=⟨zbfd h.out⟩
end
section
variable {X:Cx} {a b e:Expr} {f f':SE} {pos:Pos} {lo hi:Option Expr} {l h:DS->Store->Res (Option Int)}
theorem zow :JO X none pNone:=⟨zzx⟩
theorem zov (he:JE X e f):JO X (some e) (pSome f):=⟨zzw he.out⟩
theorem zpr (ha:JE X a f) (hb:JE X b f') (hs:PlainIx b):JE X (.Subscript a b pos) (eOp oIx f f'):=⟨d_ix ha.out hb.out hs⟩
theorem zbhd {p2:Pos} (he:JE X e f) (hl:JO X lo l) (hu:JO X hi h):JE X (.Subscript e (.Slice lo hi none p2) pos) (eSl f l h):=⟨d_sl he.out hl.out hu.out⟩
end
section
variable {X:Cx} {x:Str} {p pos:Pos} {e:Expr} {es:List Expr} {f:SA} {id T:String} {r:List V->Hp->VK->Prop} {g:List D->Store->Res D}
theorem zbn (hc : CallR X (.builtin id) r) (hr : CaD X.K g r) (hg : Gl X x) (hm : X.mg x = none) (hv : bootBuiltins x = some (.builtin id)) (ha : JA X (e :: es) f) (hn : x ≠ "__name__" := by decide) (hdb : (x == ("__debug__" : Str)) = false := by decide) (he : starEach (e :: es) X.env = (false, eval e X.env) :: starEach es X.env := by rfl) (hpl : (backTo pos (starEach es X.env)).any (·.1) = false := by rfl) : JE X (.Call (.Name x p) (e :: es) [] pos) (eCall g f) := ⟨zbap hc hr hg hm hv ha.out hn hdb he hpl⟩
theorem zhz (hc : CallR X (.type T) r) (hr : CaD X.K g r) (hg : Gl X x) (hm : X.mg x = none) (hv : bootBuiltins x = some (.type T)) (ha : JA X (e :: es) f) (hn : x ≠ "__name__" := by decide) (hdb : (x == ("__debug__" : Str)) = false := by decide) (he : starEach (e :: es) X.env = (false, eval e X.env) :: starEach es X.env := by rfl) (hpl : (backTo pos (starEach es X.env)).any (·.1) = false := by rfl) : JE X (.Call (.Name x p) (e :: es) [] pos) (eCall g f) := ⟨zvr hc hr hg hm hv ha.out hn hdb he hpl⟩
end
section
variable {X:Cx} {a b c o i e value f':Expr} {f g h:SE} {pos pos' apos cpos:Pos}
theorem zth :JE X (.Dict [] [] pos) eDNew:=⟨zbfg⟩
theorem zbdc (hu:X.A.units+1 < cLine) (hi:JE X i g) (ho:JE X o f):JC X .In i o (eOp (oDIn false) g f):=⟨zbhs hu hi.out ho.out⟩
theorem zben {op:CmpOp} {t:SE} (h:JC X op a b t) (h1:behindInMarks op b=false:=by first | exact nobehind _ (by decide) (by decide) | rfl):JT X (.Compare a [op] [b] pos) (eB t):=⟨zbik h.out h1⟩
theorem zbal (hu:X.A.units+1 < cLine) (ho:JE X o f) (hi:JE X i g) (hs:NoSl i):JE X (.Subscript o i pos) (eOp oDGet f g):=⟨zbfh hu ho.out hi.out hs⟩
theorem zvq (hu : X.A.units + 1 < cLine) (ho : JE X o f) (he : JE X e g) (hf : JE X f' h) (m : M2 X o "get" apos e f' cpos) : JE X (.Call (.Attribute o "get" apos) [e, f'] [] cpos) (eDGet2 f g h) := ⟨zbam hu ho.out he.out hf.out m⟩
theorem zbak (hu : X.A.units + 1 < cLine) (ho : JE X o f) (he : JE X e g) (m : M1 X o "pop" apos e cpos) : JE X (.Call (.Attribute o "pop" apos) [e] [] cpos) (eDPop f g) := ⟨zbff hu ho.out he.out m⟩
theorem zot (hu:X.A.units+1 < cLine) (ho:JE X o f) (hi:JE X i g) (hv:JE X value h) (hs:swapsWith value (some (.Subscript o i pos')) pos.line X.env=pure false):JS X (.Assign [.Subscript o i pos'] value pos) (sDPut f g h):=⟨zzt hu ho.out hi.out hv.out hs⟩
end
section
variable {X:Cx} {o e i value:Expr} {es:List Expr} {f g h:SE} {ga:SA} {pos apos cpos:Pos}
theorem zdb (ho : JE X o f) (ha : JA X (e :: es) ga) (hbase : attributeBase o "append" X.env (eval o X.env) = eval o X.env := by rfl) (hfew : ((backTo cpos (starEach (e :: es) X.env)).all (fun x => !x.1) && (backToKw cpos (keywordEach [] X.env)).all (fun x => x.1.isSome)
 && decide ((e :: es).length + ([] : List Keyword).length + (if ([] : List Keyword).isEmpty then 0 else 1) < 30)) = true := by rfl) (hline : (apos.endLine == cpos.line) = true := by rfl) (hs : starEach (e :: es) X.env = (false, eval e X.env) :: starEach es X.env := by rfl) (hplain : (backTo cpos (starEach es X.env)).any (·.1) = false := by rfl) : JE X (.Call (.Attribute o "append" apos) (e :: es) [] cpos) (eAppend f ga) := ⟨zvs ho.out ha.out hbase hfew hline hs hplain⟩
theorem zbiw (ho:JE X o f):JE X o (eFz f):=⟨d_fz ho.out⟩
end
section
variable {X:Cx} {e c o i value:Expr} {sm:Stmt} {rest:List Stmt} {f g h:SE} {s t:SS} {b:ST} {pos pos':Pos}
theorem zdx :JB X [] sNx:=⟨zbes⟩
theorem zbo (he:JE X e f):JS X (.Return (some e) pos) (sRet f):=⟨zbeq he.out⟩
theorem zcx (he:JE X e f) (hs:swapsWith e none pos.line X.env=pure false:=by rfl):JS X (.Expr e pos) (sDrop f):=⟨zzs he.out hs⟩
theorem zq {i:Nat} {x:Str} (hN:X.N.Nodup) (hi:X.N[i]?=some x) (hx:L2.Loc X.env.scope x) (he:JE X e f) (hs:swapsWith e (some (.Name x pos')) pos.line X.env=pure false:=by rfl) (hf:X.fn x=true\/X.env.scope.names.lookup x=some .local:=by first | exact .inl rfl | exact .inr rfl | assumption):JS X (.Assign [.Name x pos'] e pos) (sSet i f):=⟨zbep hN hi hx he.out hs hf⟩
theorem zp (h1:JS X sm s):JB X [sm] s:=⟨zber h1.out⟩
theorem zf (h1:JS X sm s) (h2:JB X rest t):JB X (sm::rest) (sSeq s t):=⟨zzu h1.out h2.out⟩
theorem zit {a' b':List Stmt} (hc:JT X c b) (ha:JB X a' s) (hb:JB X b' t):JS X (.If c a' b' pos) (sIf b s t):=⟨zbil hc.out ha.out hb.out⟩
theorem zzv {i:Nat} {x:Str} {op:Operator} {ti:TIp} {g:D->D->Store->Res D} (hN:X.N.Nodup) (hi:X.N[i]?=some x) (hx:L2.Loc X.env.scope x) (he:JE X e f) (ho:PIp X op ti) (hr:IpD X.K g ti) (hf:X.fn x=true\/X.env.scope.names.lookup x=some .local:=by first | exact .inl rfl | exact .inr rfl | assumption):JS X (.AugAssign (.Name x pos') op e pos) (sAug i g f):=⟨zbeu hN hi hx he.out ho hr hf⟩
theorem zle (he:JE X value h) (ho:JE X o f) (hi:JE X i g) (ha:∀v,assign (.Subscript o i pos') X.env v=(do
 let ov ← holding [v] (eval o X.env)
 let iv ← holding [v,ov] (eval i X.env)
 standAt pos'
 holding [v,ov,iv] (setItem ov iv v)
 release [v,ov,iv] []):=by intro _;rfl) (hs:swapsWithSole [.Subscript o i pos'] value pos.line X.env=pure false:=by rfl) (hw:swappedStores [.Subscript o i pos'] value X.env=pure none:=by rfl) (h1:(assignEach [.Subscript o i pos'] X.env).map (·.2)=[assign (.Subscript o i pos') X.env]:=by rfl):JS X (.Assign [.Subscript o i pos'] value pos) (sSetIx f g h):=⟨zvj he.out ho.out hi.out ha hs hw h1⟩
end
section
variable {X:Cx} {pos:Pos} {e:Expr} {es:List Expr} {t:SG} {u:List D->DS->Option DS}
theorem zbb {i:Nat} {x:Str} (hN:X.N.Nodup) (hi:X.N[i]?=some x) (hx:L2.Loc X.env.scope x) (hf:X.fn x=true\/X.env.scope.names.lookup x=some .local:=by first | exact .inl rfl | exact .inr rfl | assumption):JG X (.Name x pos) (gN i):=⟨zbac hN hi hx hf⟩
theorem zoz :JGs X [] gsNil:=⟨zbab⟩
theorem zey (h1:JG X e t) (h2:JGs X es u) (hs:(assignEach (e::es) X.env).map (·.2)=assign e X.env::(assignEach es X.env).map (·.2):=by rfl):JGs X (e::es) (gsCons t u):=⟨zvm h1.out h2.out hs⟩
theorem ztf {k:Nat} {n:Nat} (hc:X.calm=true) (h:JGs X es u) (hn:(assignEach es X.env).length=n:=by rfl) (hst:(assignEach es X.env).findIdx? (·.1)=none:=by rfl):JG X (.Tuple es k pos) (gT n u):=⟨zbez hc h.out hn hst⟩
end
section
variable {X:Cx} {tg l a b:Expr} {f:SE} {g:SA} {p pos:Pos}
theorem zfw (hl:JE X l f):JI X tg l (iSeq f):=⟨zbey hl.out⟩
theorem zdz (hg : Gl X "range") (hm : X.mg "range" = none) (ha : JA X [a] g) (hs : starEach [a] X.env = [(false, eval a X.env)] := by rfl) : JI X tg (.Call (.Name "range" p) [a] [] pos) (iR1 g) := ⟨zrv hg hm ha.out hs⟩
theorem zoy (hg : Gl X "range") (hm : X.mg "range" = none) (ha : JA X [a, b] g) (hs : starEach [a, b] X.env = [(false, eval a X.env), (false, eval b X.env)] := by rfl) (hs2 : starEach [b] X.env = [(false, eval b X.env)] := by rfl) : JI X tg (.Call (.Name "range" p) [a, b] [] pos) (iR2 g) := ⟨zru hg hm ha.out hs hs2⟩
end
section
variable {X:Cx} {tg l:Expr} {f:SE}
theorem zvl (hl:JE X l f):JI X tg l (iDict f):=⟨zbaa hl.out⟩
end
section
variable {X:Cx} {tg iter c:Expr} {body:List Stmt} {it:SA} {bd:SG} {b:SS} {t:ST} {pos:Pos}
theorem zdy (hp:PassesOwn (model X.prog X.w) X.A X.env X.xe) (hc:X.calm=true) (hi:JI X tg iter it) (hg:JG X tg bd) (hb:JB X body b) (hs:∀x,foldedSetIterable iter X.env x=pure x:=by intro _;rfl):JS X (.For tg iter body [] pos) (sFor it bd b):=⟨zbet hp hc hi.out hg.out hb.out hs⟩
theorem zrt (hp:PassesOwn (model X.prog X.w) X.A X.env X.xe) (hc:JT X c t) (hb:JB X body b):JS X (.While c body [] pos) (sWhile t b):=⟨zvi hp hc.out hb.out⟩
end
section
variable {X:Cx} {tg iter elt:Expr} {ifs:List Expr} {it:SA} {bd:SG} {c:ST} {f:SE} {N:List Str} {k:Nat} {is:List Nat} {scope:Scope} {pos:Pos}
theorem zlh (hcalm:X.calm=true) (hi:JI X tg iter it) (hg:∀cl C fp s H,JG (cxC X N scope cl C fp s H) tg bd) (hc:∀cl C fp s H,JIf (cxC X N scope cl C fp s H) ifs c) (he:∀cl C fp s H,JE (cxC X N scope cl C fp s H) elt f) (S:CompScope X N k is scope) (hs:∀x,foldedSetIterable iter X.env x=pure x:=by intro _;rfl):JE X (.ListComp elt [⟨tg,iter,ifs,0⟩] scope pos) (eComp it k is bd c f):=⟨zbfi hcalm hi.out (fun cl C fp s H=>(hg cl C fp s H).out) (fun cl C fp s H=>(hc cl C fp s H).out) (fun cl C fp s H=>(he cl C fp s H).out) S hs⟩
theorem zka {X:Cx}:JIf X [] bYes:=⟨zzz⟩
theorem zvk {X:Cx} {c:Expr} {t:ST} (h:JT X c t):JIf X [c] t:=⟨zzy h.out⟩
end
section
variable {X:Cx} {x:Str} {k:Nat} {ps:List Str} {F:DFn} {p pos:Pos} {e:Expr} {es:List Expr} {g:SA}
theorem zbl (c : CalD X.prog X.w X.K X.mg X.base x k ps F) (hn : ∀ ds st v st', F ds st = .ok v st' -> ds.length = ps.length) (hr : Room k X.A) (hg : Gl X x) (ha : JA X (e :: es) g) (hdb : (x == ("__debug__" : Str)) = false := by decide) (he : starEach (e :: es) X.env = (false, eval e X.env) :: starEach es X.env := by rfl) (hpl : (backTo pos (starEach es X.env)).any (·.1) = false := by rfl) : JE X (.Call (.Name x p) (e :: es) [] pos) (eCall F g) := ⟨zbfk c hn hr hg ha.out hdb he hpl⟩
end
section
theorem zca {P:Program} {w:World} {K:Fg} {mg:Str->Option Value} {base h:Heap} {x:Str} {st:Stmt} {N ps:List Str} {k:Nat} {b:SS} (T:TopF K x st) (X:K.In h) (G:h.Ns mainGlobals mg) (S:FnScope N ps (defScope st)) (bd:∀(kV doc pm:Value) (an:Option Addr) (cdv ct:Value) (us:List Value),us.length=ps.length->bindArgs (PySem.W.fnOf x x (defArgs st) (defBody st) (defScope st) .none kV doc pm an cdv ct) ⟨us,[]⟩=pure (ps.zip us)) (hbody:∀(f:Addr) (cdv:Value) (A:Around) (outer:List Env) (s:Shared) (H:Hp) (E:XK),Room k (A.deeper (envOfC x (defScope st) s.heap.objs.size f cdv)) ->
 JB (cxOf CX0 P w K mg base N x (defScope st) f cdv A outer s H E).nox (defBody st) b):CalD P w K mg base x (k+1) ps (fnD N.length ps.length b):=zbax T X G S bd (fun f cdv A outer s H E rr=>(hbody f cdv A outer s H E rr).out)
end
section
end
section
variable {X:Cx} {a b c e:Expr} {f f' f'':SE} {pos:Pos} {sm:Stmt}
theorem zvp (h:JE X a f):JE X (.UnaryOp .USub a pos) (eUn oNeg f):=⟨zbit h.out⟩
theorem zgx (h:JE X a f) (he:∀whole,isTrue a X.env whole=(do let v ← whole;standAt a.pos;holding [v] (truthy v)):=by intro _;rfl):JT X a (eTru f):=⟨zbel h.out he⟩
end
section
variable {X:Cx} {l:Expr} {f:SE} {elts:List Expr} {k j:Nat} {tpos p pos kpos cpos:Pos}
end
section
variable {X:Cx} {tg iter elt:Expr} {ifs:List Expr} {it:SA} {bd:SG} {c:ST} {f:SE} {N:List Str} {k:Nat} {is:List Nat} {scope:Scope} {pos:Pos}
end
section
theorem za {X:Cx} {e:Expr} {es:List Expr} {f:SE} {g:SA} (ha:JE X e f) (hr:JA X es g) (hp:plainE e=true:=by rfl):JA X (e::es) (aCons f g):=⟨zvo ha.out hr.out hp⟩
end
section
variable {X:Cx} {a b:Expr} {g:SA} {elts:List Expr} {k:Nat} {tpos p pos:Pos}
end
section
end
end Dd
namespace L2
open PySem PySem.Spec PyProof.Rows
section
variable {prog:Program} {w:World} {A:Around} {R:Result->Shared->Prop} {I:Addr} {fp wr:List Addr} {n:Nat} {P:Nat->Value->Prop} {St:Nat->Heap->Prop}
end
section
variable {prog:Program} {w:World} {A:Around} {E:Value->Shared->Prop} {s:Shared}
end
section
variable {X:Cx} {p pos cpos kpos:Pos} {l:Expr} {t:TA} {d:Int} {j:Nat}
end
section
open PySem.AutoSeq1
end
end L2
namespace Dd
open PySem L2
section
variable {X:Cx} {p pos cpos kpos:Pos} {l:Expr} {f:SA} {d:Int} {j:Nat}
end
section
variable {X:Cx} {o e:Expr} {es:List Expr} {f:SE} {ga:SA} {apos cpos:Pos}
end
end Dd
namespace L2
open PySem PySem.Spec PyProof.Rows
section
variable {X:Cx} {p pos cpos kpos upos:Pos} {l:Expr} {t:TA} {d:Int} {j:Nat}
end
end L2
namespace Dd
open PySem L2 PyProof.Rows
section
variable {X:Cx} {p pos cpos kpos upos:Pos} {l:Expr} {f:SA} {d:Int} {j:Nat}
end
end Dd
namespace L2
open PySem PySem.Spec PyProof.Rows
section
variable {X:Cx}
end
section
open PySem.AutoSeq1
variable (l:Addr) (items:Array Value) (n:Nat) (dd:Option Addr) (sl:Array (Option Value)) (x:Int) (u:Tok)
end
noncomputable def timesL {α:Type} (xs:List α) (n:Int):List α:=(List.replicate n.toNat xs).flatten
theorem zis {α:Type} (xs:List α):∀(n:Nat) (acc:List α),(List.foldl (fun (x1 x2:Array α)=>x1++x2) acc.toArray (List.replicate n xs.toArray))=(acc++(List.replicate n xs).flatten).toArray
 | 0,acc=>by simp
 | n+1,acc=>by
  rw[xes,xjj,xes,xfx,← xcj,← zis xs n (acc++xs)]
  congr 1
  simp
theorem Vals.times {xs:List V} {us:List Value} (r:Vals xs us):∀n:Nat,Vals (List.replicate n xs).flatten (List.replicate n us).flatten
 | 0=>.nil
 | n+1=>by
  rw[xes,xfx,xes,xfx];exact r.append (Vals.times r n)
theorem zkm {α:Type} (xs:List α):∀n:Nat,(List.replicate n xs).flatten.length=n * xs.length
 | 0=>by simp
 | n+1=>by rw[xes,xfx,xbm,zkm xs n,xkd];lia
end L2
namespace Dd
open PySem L2 PyProof.Rows
theorem AtAll.times {K:Fg} {ρ:Loc} {H:Hp} {ds:List D} {vs:List V} (h:AtAll K ρ H ds vs):∀n:Nat,AtAll K ρ H (List.replicate n ds).flatten (List.replicate n vs).flatten
 | 0=>.nil
 | n+1=>by
  rw[xes,xfx,xes,xfx];exact h.append (AtAll.times h n)
end Dd
namespace L2
open PySem PySem.Spec PyProof.Rows PySem.W
section
variable {P:Program} {w:World} {B:Around} {sg:Shared}
end
end L2
namespace Dd
open PySem L2 PyProof.Rows
end Dd
namespace L2
open PySem PySem.Spec PyProof.Rows
end L2
namespace Dd
open PySem L2 PyProof.Rows
section
variable {X:Cx} {o e:Expr} {es:List Expr} {f:SE} {ga:SA} {apos cpos:Pos}
end
end Dd
namespace Dd
variable {α:Type} {motive:List α->Prop}
@[elab_as_elim] theorem len0 (us:List α) (hl:us.length=0) (h:motive []):motive us:=by rw[List.eq_nil_of_length_eq_zero hl];exact h
@[elab_as_elim] theorem lenS {n:Nat} (us:List α) (hl:us.length=n+1) (h:∀a us,us.length=n->motive (a::us)):motive us:=by
 cases us with
 | nil=>cases hl
 | cons a us=>exact h a us (Nat.succ.inj hl)
@[elab_as_elim] theorem len1 (us:List α) (hl:us.length=1) (h:∀a,motive [a]):motive us:=lenS us hl fun a us hl=>len0 us hl (h a)
@[elab_as_elim] theorem len2 (us:List α) (hl:us.length=2) (h:∀a b,motive [a,b]):motive us:=lenS us hl fun a us hl=>len1 us hl (h a)
@[elab_as_elim] theorem len3 (us:List α) (hl:us.length=3) (h:∀a b c,motive [a,b,c]):motive us:=lenS us hl fun a us hl=>len2 us hl (h a)
@[elab_as_elim] theorem len4 (us:List α) (hl:us.length=4) (h:∀a b c d,motive [a,b,c,d]):motive us:=lenS us hl fun a us hl=>len3 us hl (h a)
end Dd
namespace Dd
open PySem L2
end Dd
namespace L2
open PySem PySem.Spec PyProof.Rows
end L2
namespace Dd
open PySem L2 PyProof.Rows
end Dd
namespace L2
open PySem PySem.Spec PyProof.Rows
section
variable {X:Cx} {tg:Expr}
end
end L2
namespace Dd
open PySem L2
section
variable {X:Cx} {tg a b c:Expr} {g:SA} {p pos:Pos}
end
end Dd
namespace Dd
open PySem L2 PyProof.Rows
section
variable {X:Cx} {o e:Expr} {es:List Expr} {f:SE} {ga:SA} {apos cpos:Pos}
end
end Dd
namespace L2
open PySem PySem.Spec PyProof.Rows
variable {X:Cx} {e es:Expr} {te ts:TE} {pos p2:Pos}
end L2
namespace Dd
open PySem L2
section
variable {X:Cx} {e es:Expr} {f g:SE} {pos p2:Pos}
end
end Dd
namespace L2
open PySem PySem.Spec PyProof.Rows
section
variable {prog:Program} {w:World} {A:Around} {E:Value->Shared->Prop} {s:Shared}
end
variable {X:Cx} {e es:Expr} {te ts:TE} {pos p2:Pos}
end L2
namespace Dd
open PySem L2
section
variable {X:Cx} {e es:Expr} {f g:SE} {pos p2:Pos}
end
end Dd
namespace L2
open PySem PySem.Spec PyProof.Rows
end L2
namespace Dd
open PySem L2
end Dd
namespace L2
open PySem PySem.Spec PyProof.Rows
noncomputable def tRaise (X:Cx) (pins:List (Addr × Obj)) (C:Addr) (ta:TA):TS:=fun _ σ H=>ta σ H fun vs H1=>vs.length<=sizeLine /\
 ∀(s:Shared) (us:List Value) (h':Heap) (e:Addr),Inv X pins σ H1 s->Vals vs us->Heap.MadeExcOf s.heap h' e (.ref C) us->X.xe (.ref e) {s with heap:=h'}
section
variable {X:Cx} {x:Str} {C:Addr} {bmB bmN:List Value} {newId nid initId inN B Bn:String} {e:Expr} {es:List Expr} {ta:TA} {np cpos pos:Pos}
theorem zuc (O:OwnCls x C bmB newId X.mg X.base) (Fn:ExcBaseFacts Bn newId inN bmN) (hBn:bmB.contains (.type Bn)=true) (FB:ExcBaseFacts B nid initId bmB) (hc:X.calm=true) (hg:Gl X x) (ha:PA X (e::es) ta)
  (hd : (x == ("__debug__" : Str)) = false := by decide) (he : starEach (e :: es) X.env = (false, eval e X.env) :: starEach es X.env := by rfl) (hpl : (backTo cpos (starEach es X.env)).any (·.1) = false := by rfl)
  {pins:List (Addr × Obj)} {s:Shared} {σ:St} {H:Hp} {D:Ends} (I:Inv X pins σ H s) (h:tRaise X pins C ta D σ H) :
  wpAny (model X.prog X.w) X.A (exec (.Raise (some (.Call (.Name x np) (e::es) [] cpos)) none pos) X.env) (SP X pins D) X.xe s:=by
 obtain ⟨tl,N,nm,q,bs,hdct,sn,sub,ab,col,dd,k0,k1,k2,k3,k5,mN,hC,hN,hni,T⟩:=O.obj;refine wpAny_Raise_call_subU (C:=C) (nm:=nm) (q:=q) (N:=N) (bs:=bs) (bm:=tl) (hdct:=hdct) (sn:=sn) (sub:=sub) (ab:=ab) (col:=col) (dd:=dd) (k0:=k0) (k1:=k1) (k2:=k2) (k3:=k3) (k5:=k5)
  Fn hBn FB (mN:=mN) (T.hasType FB.hasBase) (I.ok.hd hc) (by rw[he];show (false || (backTo cpos (starEach es X.env)).any (·.1))=false;rw[hpl];rfl) hni (zgu I hg O.bound ⟨rfl,?_⟩ hd)
 have h2:=ha cpos pins s σ H _ I h;rw[he] at h2 ⊢;refine xhf (xde h2 (fun us s2 hq=>?_) fun _ _ y=>y);obtain ⟨vs,H1,I1,rv,hz,q⟩:=hq;exact ⟨rfl,by rw[← rv.length];exact hz,I1.bk _ _ hC,hN.keeps I1.bk,T.keeps I1.bk,fun h' e hm=>q s2 us h' e I1 rv hm⟩
end
noncomputable def Rec (h:Heap) (e:Addr) (cls:Value) (dx:Option Addr) (tb:Value):Prop:=∃oe vs,h.get? e=some oe/\oe.cls=cls/\oe.dict=dx/\oe.data=.fields vs/\vs[1]?=some tb/\vs[2]?=some .none
noncomputable def RecT (h:Heap) (T:Addr) (x:Value):Prop:=∃o ts,h.get? T=some o/\o.data=.fields ts/\ts[3]?=some x
structure Mv (ch fs:List Addr) (h h':Heap):Prop where
 keep:∀b o,b∉ch->b∉fs->h.get? b=some o->h'.get? b=some o
 slot:∀b o,b∉ch->b∈fs->h.get? b=some o->∃sl,h'.get? b=some {o with slots:=sl}
theorem Mv.trans {ch fs:List Addr} {h h1 h2:Heap} (a:Mv ch fs h h1) (b:Mv ch fs h1 h2):Mv ch fs h h2 :=
 ⟨fun c o x y e=>b.keep c o x y (a.keep c o x y e),fun c o x y e=>let ⟨_,e1⟩:=a.slot c o x y e;let ⟨sl,e2⟩:=b.slot c _ x y e1;⟨sl,e2⟩⟩
theorem Mv.mono {ch ch' fs:List Addr} {h h':Heap} (a:Mv ch fs h h') (k:∀b∈ch,b∈ch'):Mv ch' fs h h' :=
 ⟨fun b o x y e=>a.keep b o (fun z=>x (k b z)) y e,fun b o x y e=>a.slot b o (fun z=>x (k b z)) y e⟩
theorem Mv.set {fs:List Addr} {h:Heap} {a:Addr} {f:Obj->Obj}:Mv [a] fs h (h.update a f) :=
 ⟨fun b o x _ e=>by rw[xdd _ _ (by rintro rfl;exact x (xbo.mpr rfl))];exact e,
  fun b o x _ e=>⟨o.slots,by rw[xdd _ _ (by rintro rfl;exact x (xbo.mpr rfl))];exact e⟩⟩
theorem zne {h:Heap} {e:Addr} {o:Obj} {vs:Array Value} {i:Nat} {x:Value} (he:h.get? e=some o) (hd:o.data=.fields vs) :
 (h.update e (Obj.mapFields (·.setIfInBounds i x))).get? e=some (o.mapFields (·.setIfInBounds i x)):=xha _ he (Obj.isFreed_of_fields (xgq hd _))
theorem zob (o:Obj) (f:Array Value->Array Value):(o.mapFields f).cls=o.cls/\(o.mapFields f).dict=o.dict:=by
 obtain ⟨a,b,c,d⟩:=o;cases c<;>exact ⟨rfl,rfl⟩
section
variable {M:Model} {A:Around} {E:Value->Shared->Prop} {s:Shared}
theorem zft {e T:Addr} {cls x:Value} {dx:Option Addr} {fs:List Addr} {Q:Unit->Shared->Prop} (r:Rec s.heap e cls dx (.ref T)) (t:RecT s.heap T x) (hne:T≠e)
  (h:∀h',Mv [T] fs s.heap h'->Rec h' e cls dx (.ref T)->RecT h' T .none->Q () {s with heap:=h'}):wpAny M A (setFlight (.ref e) none) Q E s:=by
 obtain ⟨oe,vs,e1,e2,e3,e4,e5,e6⟩:=r;obtain ⟨o,ts,t1,t2,t3⟩:=t;have sz:=(xeu.mp t3).1;unfold setFlight;refine xba (xho e1 e4 e5 ?_);rw[if_pos (by simp)];refine xie t1 t2 sz (h _ .set ⟨oe,vs,?_,e2,e3,e4,e5,e6⟩ ⟨_,_,zne t1 t2,xgq t2 _,?_⟩)
 ·rw[xdd _ _ hne];exact e1
 ·simp[sz]
theorem znx {base:Heap} {env:Env} {outer:List Env} {L e:Addr} {oe:Obj} {vs:Array Value} {head:Value} {nx:Bool} {Q:Unit->Shared->Prop} (hfr:A.frames=some (env::outer)) (hl:s.heap.FunFrames base (env::outer)) (hf:env.frame=some L)
  (he:s.heap.get? e=some oe) (hd:oe.data=.fields vs) (hz:1 < vs.size) (h2:vs[2]?=some .none)
  (h:∀h',Mv [e] (frs (env::outer)) s.heap h'->Rec h' e oe.cls oe.dict (.ref s.heap.objs.size)->RecT h' s.heap.objs.size (rawInt L)->Q () {s with heap:=h'}) :
  wpAny M A (do setField (.ref e) 1 (← EntryCells.newEntry head (← frameOf env) .none (rawInt L) .none (← entryPlaceOf L nx))) Q E s:=by
 have ne:e∉frs (env::outer):=fun hm=>by
  obtain ⟨_,o,ho,hn⟩:=hl.mem hm;rw[he] at ho;cases ho;exact hn vs hd
 refine xba (wpAny_frameOf_fun hfr hl hf fun h1 q1=>xba (wpAny_entryPlaceOf fun pl hp=>?_));unfold EntryCells.newEntry newFields;refine xba (xeb ?_ (by exact hp.sizeOk5 _ _ _ _ _));have e1:h1.get? e=some oe:=(q1.2.1 e ne).trans he;have sz:h1.objs.size=s.heap.objs.size:=q1.1;have e2:=fun ob:Obj=>xbg (h:=h1) ob e1
 refine xie (e2 _) hd hz (h _ ⟨fun b o x y q=>?_,fun b o x y q=>?_⟩ ⟨_,_,zne (e2 _) hd,(zob _ _).1,(zob _ _).2,xgq hd _,by rw[sz];simp[hz],by rw[xjc (by decide)];exact h2⟩ ?_)
 ·rw[xdd _ _ (by rintro rfl;exact x (xbo.mpr rfl))];exact xbg _ ((q1.2.1 b y).trans q)
 ·obtain ⟨sl,z⟩:=q1.2.2 b o q;refine ⟨sl,?_⟩;rw[xdd _ _ (by rintro rfl;exact x (xbo.mpr rfl))];exact xbg _ z
 ·have ne2:e≠h1.objs.size:=xce (xbk e1);rw[← sz];refine ⟨_,_,(xdd _ _ ne2).trans (xcb h1 rfl),rfl,?_⟩
  ·first
    | (simp;done)
    | (rcases hp with rfl | ⟨_,_,_,_,_,_,_,rfl⟩<;>simp)
theorem zny {base:Heap} {env:Env} {outer:List Env} {L e:Addr} {cls:Value} {dx:Option Addr} {Q:Unit->Shared->Prop} (hfr:A.frames=some (env::outer)) (hl:s.heap.FunFrames base (env::outer)) (hf:env.frame=some L)
  (r:Rec s.heap e cls dx .none) (h:∀h',Mv [e] (frs (env::outer)) s.heap h'->Rec h' e cls dx (.ref s.heap.objs.size)->RecT h' s.heap.objs.size (rawInt L)->Q () {s with heap:=h'}) :
  wpAny M A (noteFrame (.ref e) env) Q E s:=by
 obtain ⟨oe,vs,e1,e2,e3,e4,e5,e6⟩:=r;subst e2 e3;unfold noteFrame;simp only[hf];refine xba (xho e1 e4 e5 ?_);rw[if_neg (by decide)];exact znx hfr hl hf e1 e4 (xeu.mp e5).1 e6 h
theorem zqw {base:Heap} {env:Env} {outer:List Env} {L e T:Addr} {cls:Value} {dx:Option Addr} {Q:Unit->Shared->Prop} (hfr:A.frames=some (env::outer)) (hl:s.heap.FunFrames base (env::outer)) (hf:env.frame=some L)
  (r:Rec s.heap e cls dx (.ref T)) (t:RecT s.heap T .none) (hne:T≠e)
  (h:∀h' T',s.heap.get? T'=none->(∃o,h'.get? T=some o)->Mv [e,T] (frs (env::outer)) s.heap h'->Rec h' e cls dx (.ref T')->RecT h' T' (rawInt L)->Q () {s with heap:=h'}) :
  wpAny M A (noteFrame (.ref e) env) Q E s:=by
 obtain ⟨oe,vs,e1,e2,e3,e4,e5,e6⟩:=r;obtain ⟨o,ts,t1,t2,t3⟩:=t;subst e2 e3;unfold noteFrame;simp only[hf];refine xba (xho e1 e4 e5 ?_);rw[if_pos (by simp)];refine xba (xho t1 t2 t3 ?_);rw[if_neg (by simp[rawInt])];refine xba (xie t1 t2 (xeu.mp t3).1 ?_);have mv:Mv [e,T] (frs (env::outer)) s.heap (s.heap.update T (Obj.mapFields (·.setIfInBounds 3 .none))):=Mv.set.mono fun b z=>by
  rw[xbo] at z;subst z;exact xca _ xbu
 have e1':(s.heap.update T (Obj.mapFields (·.setIfInBounds 3 .none))).get? e=some oe:=by rw[xdd _ _ hne];exact e1
 have nf:T∉frs (env::outer):=fun hm=>by
  obtain ⟨_,ob,hb,hn⟩:=hl.mem hm;rw[t1] at hb;cases hb;exact hn ts t2
 have sz:(s.heap.update T (Obj.mapFields (·.setIfInBounds 3 Value.none))).objs.size=s.heap.objs.size:=by simp[Heap.update]
 refine znx (s:={s with heap:=_}) (base:=base) hfr (hl.of_keeps fun b ob hb hn=>?_) hf e1' e4 (xeu.mp e5).1 e6 fun h' m1 r1 t1'=>h h' s.heap.objs.size (Heap.get?_none_of_le (xbe _)) ⟨_,m1.keep T _ (fun z=>hne (xbo.mp z)) nf (zne t1 t2)⟩ (mv.trans (m1.mono fun b z=>?_)) (by rw[← sz];exact r1) (by rw[← sz];exact t1')
 ·refine ⟨ob,?_,rfl⟩;rw[xdd _ _ (by rintro rfl;rw[t1] at hb;cases hb;exact hn _ t2)];exact hb
 ·rw[xbo] at z;subst z;exact xbu
end
noncomputable def HX:HO:=.ext fun _=>True
noncomputable def trk2 (H:Hp) (ea T:Addr):Hp:=upd (upd H T HX) ea HX
structure Flies (H:Hp) (h:Heap) (ea T:Addr) (cls:Value) (dx:Option Addr):Prop where
 r:Rec h ea cls dx (.ref T)
 t:RecT h T .none
 ne:T≠ea
 fe:H ea=none
 ft:H T=none
theorem zbs {H:Hp} {ea T b:Addr}:trk2 H ea T b=some HX/\(b=ea\/b=T)\/(b≠ea/\b≠T/\trk2 H ea T b=H b):=by
 unfold trk2;by_cases h1:b=ea
 ·exact .inl ⟨by rw[h1,zi],.inl h1⟩
 ·by_cases h2:b=T
  ·exact .inl ⟨by rw[zh h1,h2,zi],.inr h2⟩
  ·exact .inr ⟨h1,h2,by rw[zh h1,zh h2]⟩
theorem zvb {P:Program} {w:World} {H:Hp} {h:Heap} {a:Addr} (e:∃o,h.get? a=some o):ObjOk P w H h a HX:=⟨trivial,e,fun _ _ _ _=>trivial⟩
theorem ObjOk.here {P:Program} {w:World} {H:Hp} {h:Heap} {a:Addr} {o:HO} (x:ObjOk P w H h a o):∃ob,h.get? a=some ob:=by
 cases o with
 | lst xs=>obtain ⟨_,_,_,_,e⟩:=x;exact ⟨_,e⟩
 | tup xs=>obtain ⟨_,_,_,p⟩:=x;obtain ⟨_,e,_⟩:=p;exact ⟨_,e⟩
 | dK kvs=>obtain ⟨_,_,_,_,_,_,_,e,_⟩:=x;exact ⟨_,e⟩
 | dT kvs=>obtain ⟨_,_,_,_,_,_,_,e,_⟩:=x;exact ⟨_,e⟩
 | set S n=>obtain ⟨_,_,_,_,e,_⟩:=x;exact ⟨_,e⟩
 | ins C dx fs=>exact ⟨_,x.2.2.2.1⟩
 | own y=>exact x
 | xd fs=>obtain ⟨_,⟨_,_,_,e,_⟩,_⟩:=x;exact ⟨_,e⟩
 | rng lo hi=>obtain ⟨_,_,_,e⟩:=x;exact ⟨_,e⟩
 | frz ob u=>exact ⟨_,x.1⟩
 | tbl ps=>exact ⟨_,x⟩
 | met f y=>exact ⟨_,x⟩
 | ext φ=>exact x.2.1
theorem Inv.flew {X:Cx} {pins:List (Addr × Obj)} {τ:St} {H H0:Hp} {s:Shared} {h':Heap} {ea T:Addr} (I:Inv X pins τ H0 s) (sub:∀b,H0 b=H b\/(H0 b=some HX/\H b=none))
  (new:∀b,b=ea\/b=T->s.heap.get? b=none\/H0 b=some HX) (keep:∀b o,H0 b≠some HX->b∉frs X.stack->s.heap.get? b=some o->h'.get? b=some o)
  (slot:∀b o,H0 b≠some HX->b∈frs X.stack->s.heap.get? b=some o->∃sl,h'.get? b=some {o with slots:=sl}) (there:∀b o,s.heap.get? b=some o->∃o',h'.get? b=some o')
  (xe:∃o,h'.get? ea=some o) (xt:∃o,h'.get? T=some o):Inv X pins τ (trk2 H ea T) {s with heap:=h'}:=by
 have same:∀b o,H0 b=some o->o≠HX->trk2 H ea T b=some o:=fun b o e n=>by
  obtain ⟨ob,hb⟩:∃ob,s.heap.get? b=some ob:=by
   have:=I.hok.lt e;exact (I.hok b o e).here
  rcases zbs (H:=H) (ea:=ea) (T:=T) (b:=b) with ⟨_,z⟩ | ⟨_,_,z⟩
  ·rcases new b z with y | y
   ·rw[hb] at y;cases y
   ·rw[e] at y;exact absurd (xbw y) n
  ·rw[z];rcases sub b with y | ⟨y,_⟩
   ·rw[← y];exact e
   ·rw[e] at y;exact absurd (xbw y) n
 refine I.call (g':=s.gens) (t':=s.toks) (d':=s.drawn) (ch:=[]) ⟨fun b o e n hb _=>keep b o (by rw[n];intro z;cases z) hb e,fun b o e n hb _=>slot b o (by rw[n];intro z;cases z) hb e,fun b o e n _=>?_,fun b o e _=>there b o e,fun b xs e=>same b _ e (by intro z;cases z),fun b o u e=>same b _ e (by intro z;cases z),fun b ps e=>⟨#[],by rw[xgt];exact same b _ e (by intro z;cases z)⟩⟩ (fun b o e=>?_) I.bare (fun _ z=>nomatch z)
 ·rcases zbs (H:=H) (ea:=ea) (T:=T) (b:=b) with ⟨_,z⟩ | ⟨_,_,z⟩
  ·rcases new b z with y | y
   ·rw[e] at y;cases y
   ·rw[n] at y;cases y
  ·rw[z];rcases sub b with y | ⟨y,_⟩
   ·rw[← y];exact n
   ·rw[n] at y;cases y
 ·rcases zbs (H:=H) (ea:=ea) (T:=T) (b:=b) with ⟨z,y⟩ | ⟨_,_,z⟩
  ·rw[z] at e;cases e
   rcases y with rfl | rfl
   ·exact zvb xe
   ·exact zvb xt
  ·rw[z] at e;have e0:H0 b=some o:=by
    rcases sub b with y | ⟨_,y⟩
    ·rw[y];exact e
    ·rw[e] at y;cases y
   by_cases hn:o=HX
   ·subst hn;obtain ⟨ob,hb⟩:=(I.hok b _ e0).here;exact zvb (there b ob hb)
   ·have nx:∀c,c=b\/H0 c=some (.own b)->H0 c≠some HX/\c∉frs X.stack:=fun c hc=>by
     rcases hc with rfl | hc
     ·exact ⟨by rw[e0];exact fun z=>hn (xbw z),fun z=>by rw[I.stkFree c z] at e0;cases e0⟩
     ·exact ⟨by rw[hc];exact fun z=>(nomatch z),fun z=>by rw[I.stkFree c z] at hc;cases hc⟩
    exact (I.hok b o e0).stay (fun c u hc q=>keep c u (nx c hc).1 (nx c hc).2 q) (fun c hc=>same c _ hc (by intro z;cases z)) (fun c xs hc=>same c _ hc (by intro z;cases z))
theorem zjx {X:Cx} {pins:List (Addr × Obj)} {τ:St} {H:Hp} {ea T:Addr} {cls:Value} {dx:Option Addr} {s:Shared} {M:Model} {E':Value->Shared->Prop} (st:X.stack=X.env::X.outer) (fr:X.env.frame=some X.env.locals) (F:Flies H s.heap ea T cls dx) (I:Inv X pins τ (trk2 H ea T) s) :
  wpAny M X.A (noteFrame (.ref ea) X.env) (fun _ s2=>∀(A':Around) (E:Value->Shared->Prop),wpAny M A' (setFlight (.ref ea) none) (fun _ s3=>∃T1,Flies H s3.heap ea T1 cls dx/\Inv X pins τ (trk2 H ea T1) s3) E s2) E' s:=by
 have hs:=I.stack;rw[st] at hs;have nx:∀b,trk2 H ea T b≠some HX->b∉[ea,T]:=fun b h z=>by
  simp only[xbt,xkc,or_false] at z;rcases zbs (H:=H) (ea:=ea) (T:=T) (b:=b) with ⟨y,_⟩ | ⟨y1,y2,_⟩
  ·exact h y
  ·rcases z with z | z
   ·exact y1 z
   ·exact y2 z
 refine zqw (base:=X.base) (I.ok.frames.trans (by rw[st])) hs fr F.r F.t F.ne fun h1 T1 nT oT m1 r1 t1 A' E=>?_
 rw[← st] at m1;have ne1:T1≠ea:=by
  rintro rfl;obtain ⟨_,_,q,_⟩:=F.r;rw[nT] at q;cases q
 refine zft (fs:=frs X.stack) r1 t1 ne1 fun h2 m2 r2 t2=>?_
 have nT1:∀b o,s.heap.get? b=some o->b∉[T1]:=fun b o q z=>by
  rw[xbo] at z;subst z;rw[nT] at q;cases q
 have I2:=I.flew (h':=h2) (H:=H) (ea:=ea) (T:=T1) (fun b=>by
   rcases zbs (H:=H) (ea:=ea) (T:=T) (b:=b) with ⟨y,z⟩ | ⟨_,_,y⟩
   ·exact .inr ⟨y,by rcases z with rfl | rfl<;>first | exact F.fe | exact F.ft⟩
   ·exact .inl y) (fun b hb=>by
   rcases hb with rfl | rfl
   ·exact .inr (by unfold trk2;rw[zi])
   ·exact .inl nT) (fun b o hb hf q=>m2.keep b o (nT1 b o q) hf (m1.keep b o (nx b hb) hf q)) (fun b o hb hf q=>by
   obtain ⟨sl,q1⟩:=m1.slot b o (nx b hb) hf q;obtain ⟨sl2,q2⟩:=m2.slot b _ (nT1 b o q) hf q1;exact ⟨sl2,q2⟩) (fun b o q=>by
   have q1:∃o',h1.get? b=some o':=by
    by_cases hb:b∈[ea,T]
    ·simp only[xbt,xkc,or_false] at hb;rcases hb with rfl | rfl
     ·obtain ⟨_,_,y,_⟩:=r1;exact ⟨_,y⟩
     ·exact oT
    ·by_cases hf:b∈frs X.stack
     ·obtain ⟨sl,q1⟩:=m1.slot b o hb hf q;exact ⟨_,q1⟩
     ·exact ⟨_,m1.keep b o hb hf q⟩
   obtain ⟨o1,q1⟩:=q1;by_cases hf:b∈frs X.stack
   ·obtain ⟨sl,q2⟩:=m2.slot b _ (nT1 b o q) hf q1;exact ⟨_,q2⟩
   ·exact ⟨_,m2.keep b _ (nT1 b o q) hf q1⟩) (by obtain ⟨_,_,y,_⟩:=r2;exact ⟨_,y⟩) (by obtain ⟨_,_,y,_⟩:=t2;exact ⟨_,y⟩)
 have fT1:H T1=none:=by
  cases q:H T1 with
  | none=>rfl
  | some o =>
   have q':trk2 H ea T T1=some o:=by
    rcases zbs (H:=H) (ea:=ea) (T:=T) (b:=T1) with ⟨_,z⟩ | ⟨_,_,y⟩
    ·rcases z with z | z
     ·exact absurd z ne1
     ·rw[z,F.ft] at q;cases q
    ·rw[y];exact q
   obtain ⟨ob,hb⟩:=(I.hok T1 o q').here;rw[nT] at hb;cases hb
 exact ⟨T1,⟨r2,t2,ne1,F.fe,fT1⟩,I2⟩
theorem zzh {X:Cx} {pins:List (Addr × Obj)} {τ:St} {H:Hp} {ea T:Addr} {cls:Value} {dx:Option Addr} {s:Shared} {M:Model} {A:Around} {E':Value->Shared->Prop} {Q:Unit->Shared->Prop} (F:Flies H s.heap ea T cls dx) (I:Inv X pins τ (trk2 H ea T) s)
  (h:∀s3,Flies H s3.heap ea T cls dx->Inv X pins τ (trk2 H ea T) s3->Q () s3):wpAny M A (setFlight (.ref ea) none) Q E' s:=by
 refine zft (fs:=frs X.stack) F.r F.t F.ne fun h2 m2 r2 t2=>?_
 have hT:trk2 H ea T T=some HX:=by unfold trk2;rw[zh F.ne,zi]
 have nT:∀b,trk2 H ea T b≠some HX->b∉[T]:=fun b h z=>by
  rw[xbo] at z;subst z;exact h hT
 refine h _ ⟨r2,t2,F.ne,F.fe,F.ft⟩ (I.flew (h':=h2) (H:=H) (ea:=ea) (T:=T) (fun b=>?_) (fun b hb=>.inr ?_) (fun b o hb hf q=>m2.keep b o (nT b hb) hf q) (fun b o hb hf q=>m2.slot b o (nT b hb) hf q) (fun b o q=>?_) (by obtain ⟨_,_,y,_⟩:=r2;exact ⟨_,y⟩) (by obtain ⟨_,_,y,_⟩:=t2;exact ⟨_,y⟩))
 ·rcases zbs (H:=H) (ea:=ea) (T:=T) (b:=b) with ⟨y,z⟩ | ⟨_,_,y⟩
  ·exact .inr ⟨y,by rcases z with rfl | rfl<;>first | exact F.fe | exact F.ft⟩
  ·exact .inl y
 ·rcases hb with rfl | rfl
  ·unfold trk2;rw[zi]
  ·exact hT
 ·by_cases hb:b∈[T]
  ·rw[xbo] at hb;subst hb
   obtain ⟨_,_,y,_⟩:=t2;exact ⟨_,y⟩
  ·by_cases hf:b∈frs X.stack
   ·obtain ⟨sl,q2⟩:=m2.slot b _ hb hf q;exact ⟨_,q2⟩
   ·exact ⟨_,m2.keep b _ hb hf q⟩
noncomputable def CX1 (P:Program) (w:World):CXT:=fun outer H s E e s'=>∃ea T C dx H',e=.ref ea/\s'.os=s.os/\AllBare s'.gens/\Un (frs outer) [] H (trk2 H' ea T) s.heap s'.heap/\HOk P w (trk2 H' ea T) s'.heap/\Flies H' s'.heap ea T (.ref C) dx/\E (.ref C) dx H'
noncomputable def Wish (X:Cx) (R:St->Value->Option Addr->Hp->Prop):Prop:=∀(pins:List (Addr × Obj)) (τ:St) (H:Hp) (ea T C:Addr) (dx:Option Addr) (s:Shared),Flies H s.heap ea T (.ref C) dx->Inv X pins τ (trk2 H ea T) s->R τ (.ref C) dx H->X.xe (.ref ea) s
noncomputable def WishR (X:Cx) (R:St->Value->Option Addr->Hp->Prop):Prop:=∀(pins:List (Addr × Obj)) (τ:St) (H:Hp) (ea C:Addr) (dx:Option Addr) (s0 s:Shared),Inv X pins τ H s0->(∀b o,s0.heap.get? b=some o->s.heap.get? b=some o)->s={s0 with heap:=s.heap,toks:=s.toks}->s0.heap.get? ea=none->Rec s.heap ea (.ref C) dx .none->R τ (.ref C) dx H->X.xe (.ref ea) s
section
variable {P:Program} {w:World} {K:Fg} {mg:Str->Option Value} {base:Heap} {N:List Str} {qual:Str} {scope:Scope} {f:Addr} {cd:Value} {A:Around} {outer:List Env} {s₀:Shared} {H₀:Hp} {E:XK}
theorem zmu:Wish (cxOf (CX1 P w) P w K mg base N qual scope f cd A outer s₀ H₀ E) (fun _ c dx H=>E c dx H):=by
 intro pins τ H ea T C dx s F I hE;show wpAny _ _ (leaving _ _) _ _ s;unfold leaving;refine xba (thn (zjx rfl rfl F I) fun _ s2 h2=>thn (h2 _ _) fun _ s3 hq0=>?_);obtain ⟨T1,F1,I2⟩:=hq0;exact ⟨ea,T1,C,dx,H,rfl,I2.os,I2.bare,I2.base,I2.hok,F1,hE⟩
theorem zmv:WishR (cxOf (CX1 P w) P w K mg base N qual scope f cd A outer s₀ H₀ E) (fun _ c dx H=>E c dx H):=by
 intro pins τ H ea C dx s0 s I kp es ne r hE;have hs:s.heap.FunFrames base (cxOf (CX1 P w) P w K mg base N qual scope f cd A outer s₀ H₀ E).stack:=I.stack.of_keeps fun b o q _=>⟨o,kp b o q,rfl⟩
 show wpAny _ _ (leaving _ _) _ _ s;unfold leaving;refine xba (zny (base:=base) I.ok.frames hs rfl r fun h1 m1 r1 t1=>?_);have oe:∃o,s.heap.get? ea=some o:=by obtain ⟨_,_,q,_⟩:=r;exact ⟨_,q⟩
 have ne1:s.heap.objs.size≠ea:=by
  obtain ⟨_,q⟩:=oe;exact xej (xce (xbk q))
 have nT:s0.heap.get? s.heap.objs.size=none:=by
  cases q:s0.heap.get? s.heap.objs.size with
  | none=>rfl
  | some o=>exact absurd (xbk (kp _ _ q)) (xfw _)
 refine zft (fs:=frs (cxOf (CX1 P w) P w K mg base N qual scope f cd A outer s₀ H₀ E).stack) r1 t1 ne1 fun h2 m2 r2 t2=>?_
 have ne0:∀b o,s0.heap.get? b=some o->b∉[ea]/\b∉[s.heap.objs.size]:=fun b o q=>by
  refine ⟨fun z=>?_,fun z=>?_⟩
  ·rw[xbo] at z;subst z;rw[ne] at q;cases q
  ·rw[xbo] at z;subst z;rw[nT] at q;cases q
 have I2:=I.flew (h':=h2) (H:=H) (ea:=ea) (T:=s.heap.objs.size) (fun b=>.inl rfl) (fun b hb=>by
   rcases hb with rfl | rfl
   ·exact .inl ne
   ·exact .inl nT) (fun b o _ hf q=>m2.keep b o (ne0 b o q).2 hf (m1.keep b o (ne0 b o q).1 hf (kp b o q))) (fun b o _ hf q=>by
   obtain ⟨sl,q1⟩:=m1.slot b o (ne0 b o q).1 hf (kp b o q);obtain ⟨sl2,q2⟩:=m2.slot b _ (ne0 b o q).2 hf q1;exact ⟨sl2,q2⟩) (fun b o q=>by
   by_cases hf:b∈frs (cxOf (CX1 P w) P w K mg base N qual scope f cd A outer s₀ H₀ E).stack
   ·obtain ⟨sl,q1⟩:=m1.slot b o (ne0 b o q).1 hf (kp b o q);obtain ⟨sl2,q2⟩:=m2.slot b _ (ne0 b o q).2 hf q1;exact ⟨_,q2⟩
   ·exact ⟨_,m2.keep b o (ne0 b o q).2 hf (m1.keep b o (ne0 b o q).1 hf (kp b o q))⟩) (by obtain ⟨_,_,y,_⟩:=r2;exact ⟨_,y⟩) (by obtain ⟨_,_,y,_⟩:=t2;exact ⟨_,y⟩)
 have nH:∀b,s0.heap.get? b=none->H b=none:=fun b hb=>by
  cases q:H b with
  | none=>rfl
  | some o=>obtain ⟨ob,z⟩:=(I.hok b o q).here;rw[hb] at z;cases z
 refine ⟨ea,s.heap.objs.size,C,dx,H,rfl,?_,?_,I2.base,I2.hok,⟨r2,t2,ne1,nH _ ne,nH _ nT⟩,hE⟩
 ·show s.os=_;rw[es];exact I2.os
 ·show AllBare s.gens;rw[es];exact I2.bare
end
noncomputable def bmV : List Value := [.type "ValueError", .type "Exception", .type "BaseException", .type "object"]
noncomputable def ErrCls (K : Fg) (x : Str) (C : Addr) : Prop := PySem.W.nsIn K mainGlobals x = some (some (.ref C)) /\ PySem.W.excIn K C bmV "ValueError.__new__" = true
theorem zzl {K : Fg} {h : Heap} {mg : Str -> Option Value} {x : Str} {C : Addr} (X : K.In h) (G : h.Ns mainGlobals mg) (e : ErrCls K x C) : OwnCls x C bmV "ValueError.__new__" mg h := by
 obtain ⟨e1,q⟩:=e;refine ⟨xcq X G e1,?_⟩;unfold PySem.W.excIn at q;cases hl:K.lookup C with
 | none=>rw[hl] at q;cases q
 | some o =>
  rw[hl] at q;split at q
  ·next _ dd cd sl ho =>
   obtain rfl:=xbw ho;split at q
   ·next _ _ C' bm k0 k1 k2 k3 n k5 hm hs =>
    simp only[xfi,xew,Bool.not_eq_true'] at q;obtain ⟨⟨⟨⟨⟨c1,c2⟩,c3⟩,c4⟩,c5⟩,c6⟩:=q;obtain ⟨nm,bs,mro,ns,qn,hd,sn,sub,ab,col,del⟩:=cd;dsimp only at hm c3 c5 c6;obtain ⟨l⟩:=sl;dsimp only at hs;subst c1 c2 c3 hm hs;exact ⟨_,_,_,_,_,_,_,_,_,_,_,_,_,_,_,_,_,X _ _ hl,.of_isNs (PySem.W.isNs_of_in X c5),PySem.W.nsMap_none_of_in X c5 c6,PySem.W.tail_of_in X c4⟩
   ·cases q
  ·cases q
section
variable {X:Cx}
end
noncomputable abbrev Cx.tryc (X:Cx) (E:Value->Shared->Prop) (pn:List (Addr × Obj)):Cx:={X with xe:=E,pn:=X.pn++pn}
noncomputable abbrev Cx.caught (X:Cx) (e:Value):Cx:={X with A:=X.A.mark (some e),calm:=false,xe:=fun _ _=>False}
section
variable {X:Cx} {pins pins':List (Addr × Obj)} {σ:St} {H:Hp} {s:Shared} {E:Value->Shared->Prop} {e:Value}
theorem Cx.Ok.tryc (ok:X.Ok):(X.tryc E pins).Ok:=⟨ok.mod,ok.kind,ok.glob,ok.blt,ok.above,ok.inj,ok.has,ok.cab,ok.hd,ok.frames,ok.stk,ok.exf,ok.bs,ok.bsz,ok.noex,ok.exfs,ok.funs,ok.frf⟩
theorem Cx.Ok.untryc (ok:(X.tryc E pins).Ok):X.Ok:=⟨ok.mod,ok.kind,ok.glob,ok.blt,ok.above,ok.inj,ok.has,ok.cab,ok.hd,ok.frames,ok.stk,ok.exf,ok.bs,ok.bsz,ok.noex,ok.exfs,ok.funs,ok.frf⟩
theorem Cx.Ok.caught (ok:X.Ok):(X.caught e).Ok:=⟨ok.mod,ok.kind,ok.glob,ok.blt,ok.above,ok.inj,ok.has,ok.cab,(fun z=>Bool.noConfusion (show false=true from z)),ok.frames,ok.stk,ok.exf,ok.bs,ok.bsz,ok.noex,ok.exfs,ok.funs,ok.frf⟩
theorem Inv.tryc (I:Inv X pins σ H s):Inv (X.tryc E pins) [] σ H s:=⟨I.ok.tryc,I.os,I.bare,I.base,I.loc,I.cell,I.free,I.freeC,fun p hp=>I.pin p (by rw[xdw] at hp;exact hp),I.hok,I.len,I.hnd⟩
theorem Inv.untryc (I:Inv (X.tryc E pins) pins' σ H s):Inv X pins σ H s:=⟨I.ok.untryc,I.os,I.bare,I.base,I.loc,I.cell,I.free,I.freeC,fun p hp=>I.pin p (xga _ hp),I.hok,I.len,I.hnd⟩
theorem Inv.caught (I:Inv X pins σ H s) (he:Hnd (X.A.mark (some e)) H):Inv (X.caught e) pins σ H s:=⟨I.ok.caught,I.os,I.bare,I.base,I.loc,I.cell,I.free,I.freeC,I.pin,I.hok,I.len,he⟩
theorem Inv.uncaught (ok:X.Ok) (hc:X.calm=true) (I:Inv (X.caught e) pins σ H s):Inv X pins σ H s:=⟨ok,I.os,I.bare,I.base,I.loc,I.cell,I.free,I.freeC,I.pin,I.hok,I.len,Hnd.none (ok.hd hc)⟩
theorem SP.untryc {D:Ends} {f:Flow} (h:SP (X.tryc E pins) pins' D f s):SP X pins D f s:=by
 cases f with
 | next=>obtain ⟨σ',H',I,q⟩:=h;exact ⟨σ',H',I.untryc,q⟩
 | brk=>obtain ⟨σ',H',I,q⟩:=h;exact ⟨σ',H',I.untryc,q⟩
 | cont=>obtain ⟨σ',H',I,q⟩:=h;exact ⟨σ',H',I.untryc,q⟩
 | ret u=>obtain ⟨v,σ',H',I,r,q⟩:=h;exact ⟨v,σ',H',I.untryc,r,q⟩
theorem Inv.forget {h':Heap} {m:Str->Option Value} {t':Nat} (I:Inv X pins σ H s) (hn:h'.Ns X.env.locals m) (hs:Heap.SameBut X.env.locals s.heap h'):Inv X pins (σ.map fun _=>none) H {s with heap:=h',toks:=t'}:=by
 have kp:∀b o,b≠X.env.locals->s.heap.get? b=some o->h'.get? b=some o:=fun b o n q=>by rw[hs.2 b n];exact q
 have nL:∀b o,X.s₀.heap.get? b=some o->b≠X.env.locals:=fun b o q=>xce (xbd (xbk q) I.ok.above)
 have nH:∀b u,H b=some u->b≠X.env.locals:=fun b u q z=>by rw[z,I.free] at q;cases q
 refine ⟨I.ok,I.os,I.bare,⟨fun b o q n f x=>kp b o (nL b o q) (I.base.keep b o q n f x),fun b o q n f x=>?_,I.base.free,fun b o q x=>?_,I.base.tups,I.base.frzs,I.base.tbls⟩,⟨m,hn,fun i x v _ q _=>?_⟩,fun x c q=>?_,I.free,I.freeC,fun p hp=>?_,fun b u q=>?_,by rw[xbc];exact I.len,I.hnd⟩
 ·obtain ⟨sl,z⟩:=I.base.slot b o q n f x;exact ⟨sl,kp b _ (nL b o q) z⟩
 ·obtain ⟨o',z⟩:=I.base.there b o q x;exact ⟨o',kp b _ (nL b o q) z⟩
 ·rw[xcs] at q;cases z:σ[i]?<;>rw[z] at q<;>cases q
 ·obtain ⟨v,o,ho,hd⟩:=I.cell x c q;exact ⟨v,o,kp c o (I.cne x c q) ho,hd⟩
 ·obtain ⟨a,b,c,d⟩:=I.pin p hp;exact ⟨kp _ _ c a,b,c,d⟩
 ·exact (I.hok b u q).stay (fun c v hc z=>kp c v (by rcases hc with rfl | hc;exact nH _ _ q;exact nH _ _ hc) z) (fun _ z=>z) fun _ _ z=>z
end
noncomputable def RH (K:Fg) (B:Addr) (i:Nat) (ts:TS) (rt:VK):St->Value->Option Addr->Hp->Prop:=fun τ cls dx H=>PySem.W.exmOne K cls (.ref B)=some true /\
 ∀ea T o,H ea=none->H T=none->T≠ea->o.cls=cls->o.dict=dx->(∃vs,o.data=.fields vs/\vs[2]?=some .none)->ts {nx:=fun _ _=>False,rt:=rt} (τ.set i (some (.ref ea))) (upd (upd H T HX) ea (.frz o HX))
section
variable {X:Cx} {body:List Stmt} {x n:Str} {B:Addr} {i:Nat} {b0:Stmt} {suite:List Stmt} {xp hp pos:Pos} {tb:(St->Value->Option Addr->Hp->Prop)->TS} {ts:TS}
theorem zbcm (hc:X.calm=true) (st:X.stack=X.env::X.outer) (fr:X.env.frame=some X.env.locals) (hN:X.N.Nodup) (hi:X.N[i]?=some n) (hn:X.env.kindOf n=some .local) (hg:Gl X x) (hB:PySem.W.nsIn X.K mainGlobals x=some (some (.ref B)))
  (hb : ∀ (R : St -> Value -> Option Addr -> Hp -> Prop) (E : Value -> Shared -> Prop) (pn : List (Addr × Obj)), Wish (X.tryc E pn) R -> PSs (X.tryc E pn) body (tb R)) (hs : ∀ e, PSs (X.caught e) (b0 :: suite) ts) (hd : (x == ("__debug__" : Str)) = false := by decide) :
  PS X (.Try body [.ExceptHandler (some (.Name x xp)) (some n) (b0::suite) hp] [] [] pos) (fun D σ H=>tb (RH X.K B i ts D.rt) D σ H):=by
 intro pins s σ H D I h;have ok:=I.ok;refine wpAny_Try_except ?_;refine xde (hb _ (fun e s1=>wpAny (model X.prog X.w) X.A (noteFrame e X.env) (fun _ s2=>wpAny (model X.prog X.w) X.A (setFlight e none) (fun _ s3=>wpAny (model X.prog X.w) X.A (handleBy e X.env [.ExceptHandler (some (.Name x xp)) (some n) (b0::suite) hp]) (SP X pins D) X.xe s3) X.xe s2) X.xe s1) pins ?_ [] s σ H D I.tryc h) (fun f s1 q=>?_) fun _ _ q=>q
 rotate_left
 ·cases f with
  | next=>obtain ⟨σ',H',I',q'⟩:=q;exact xhv ⟨σ',H',I'.untryc,q'⟩
  | brk=>exact SP.untryc q
  | cont=>exact SP.untryc q
  | ret u=>exact SP.untryc q
 intro pins' τ H' ea T C dx s' F I' hR;obtain ⟨hm,hR⟩:=hR;refine thn (zjx st fr F I'.untryc) fun _ s2 h2=>thn (h2 X.A X.xe) fun _ s3 hq0=>?_
 obtain ⟨T1,F1,I3⟩:=hq0;refine wpAny_handleBy_cons (codeAny_handlers_test ?_) (by intro z;cases z);refine xhm I3.ok.kind hg (Calls.loadGlobal_global (by rw[I3.ok.glob];exact I3.mod.glob.keeps I3.bk) (xcq I3.mod.kin I3.mod.glob hB) ?_) hd;obtain ⟨h3,g3,d3,t3,os3⟩:=s3;obtain ⟨oe,vs,r1,r2,r3,r4,r5,r6⟩:=id F1.r;refine (PySem.W.exm_one (M:=model X.prog X.w) I3.kIn (r2 ▸ (PySem.W.Looks.ld r1).andThen .now) hm).at ?_;rw[if_pos rfl];refine codeAny_handlers_suite_as ?_;refine zzh F1 I3 fun s4 F4 I4=>?_
 obtain ⟨o,ws,q1,q2,q3,q4,q5,q6⟩:=id F4.r;have I5:Inv X pins τ (upd (upd H' T1 HX) ea (.frz o HX)) s4:=by
  have z:=I4.write (h':=s4.heap) (t':=s4.toks) (x:=ea) (e:=ea) (o:=.frz o HX) (by unfold trk2;rw[zi];trivial) (.inl rfl) (fun _ _ _ q=>q) ⟨_,q1⟩ ⟨q1,zvb ⟨_,q1⟩⟩;unfold trk2 at z;rw[zwv] at z;exact z
 refine zhe (v:=.ref ea) I5 hN hi (.inl hn) rfl (fun s5 I6=>?_) (.inr hn);refine xde (hs (.ref ea) pins s5 _ _ _ (I6.caught fun v z=>⟨ea,o,(xbw z).symm,zi,ws,q4,q6⟩) (hR ea T1 o F4.fe F4.ft F4.ne q2 q3 ⟨_,q4,q6⟩)) (fun f s6 q=>?_) fun _ _ z=>z.elim
 cases f with
 | next=>obtain ⟨_,_,_,z⟩:=q;exact z.elim
 | brk=>obtain ⟨_,_,_,z⟩:=q;exact z.elim
 | cont=>obtain ⟨_,_,_,z⟩:=q;exact z.elim
 | ret u =>
  obtain ⟨v,σ',H6,I7,rv,q⟩:=q;obtain ⟨m,hm6,_⟩:=id I7.loc;refine wpAny_nameGoes hn hm6 (by rw[ok.kind];rfl) fun h7 m7 n7 s7=>?_
  exact ⟨v,_,H6,(I7.uncaught ok hc).forget n7 s7,rv,q⟩
end
section
variable {prog:Program} {w:World} {A:Around} {E:Value->Shared->Prop}
end
section
variable {X:Cx} {pos:Pos}
end
theorem zbaw {CX:CXT} {P:Program} {w:World} {K:Fg} {mg:Str->Option Value} {base:Heap} {k:Nat} {f:Addr} {name qual:Str} {params:Arguments} {body:List Stmt} {scope:Scope} {dV kV doc pm cdv ct oc:Value} {an od:Option Addr}
  {osl:Array (Option Value)} {N ps:List Str} (lk:K.lookup f=some ⟨oc,od,.func (PySem.W.fnOf name qual params body scope dV kV doc pm an cdv ct),osl⟩) (hcd:PySem.W.codeIn K cdv qual=true) (S:FnScope N ps scope)
  {A:Around} {outer:List Env} {s:Shared} {H:Hp} {args:Args} {us:List Value} {vs:List V} {Q:VK} {E:XK} (hr:Room (k+1) A) (e0:Env0 P w K mg base A outer s H) (hb:BindsTo s (PySem.W.fnOf name qual params body scope dV kV doc pm an cdv ct) args (ps.zip us)) (r:Vals vs us) (hl:vs.length=ps.length)
  {t:TS} (ht:PSs (cxOf CX P w K mg base N qual scope f cdv A outer s H E) body t) (hq:t {nx:=fun _ H'=>Q .non H',rt:=Q} (start N vs) H):codeAny (model P w) A (.call (.ref f) args) (CR CX outer P w H s Q E) s:=by
 have KX:K.In s.heap:=e0.mod.kin.keeps fun b o e=>(e0.bs b o e).1
 have lim:s.heap.NoLimit:=e0.mod.nolimit.keeps fun b o e=>(e0.bs b o e).1
 refine codeAny_call_function hr.depth (KX _ _ lk) rfl S.co S.gen rfl (PySem.W.codeRec_of KX hcd) (hb _ _ _ _ (wpAny_newFunctionEnv_cells S.kind (fun y hy=>?_) fun env he s1 x=>?_))
 ·rcases S.par y.1 (xje (a:=y.1) (b:=y.2) hy).1 with q | q
  ·exact .inl q
  ·exact .inr ⟨q,xip _ _ _ (.inl q)⟩
 subst he;refine ⟨lim.keeps x.toInCall.keep,codeAny_func ?_⟩;have I:Inv (cxOf CX P w K mg base N qual scope f cdv A outer s H E) [] (start N vs) H s1:=zkt S hr.hd e0 hl r x;refine xde (ht [] s1 (start N vs) H _ I hq) (fun fl s' hs=>?_) fun e s' hs=>hs
 cases fl with
 | ret u=>obtain ⟨v,σ',H',J,rv,q⟩:=hs;exact ⟨v,H',J.os,J.bare,J.base,J.hok,rv,q⟩
 | next=>obtain ⟨σ',H',J,q⟩:=hs;exact ⟨.non,H',J.os,J.bare,J.base,J.hok,rfl,q⟩
 | brk=>obtain ⟨_,_,_,q⟩:=hs;exact False.elim q
 | cont=>obtain ⟨_,_,_,q⟩:=hs;exact False.elim q
noncomputable def cxL (P:Program) (w:World) (K:Fg) (mg:Str->Option Value) (base:Heap) (N:List Str) (qual:Str) (scope:Scope) (f:Addr) (cd:Value) (cl:List (Str × Addr)) (A:Around) (outer:List Env) (s:Shared) (H:Hp) (E:XK):Cx where
 prog:=P
 w:=w
 K:=K
 mg:=mg
 base:=base
 A:=A.deeper (PySem.W.envX qual scope s.heap.objs.size f cd cl)
 N:=N
 s₀:=s
 H₀:=H
 env:=PySem.W.envX qual scope s.heap.objs.size f cd cl
 outer:=outer
 stack:=PySem.W.envX qual scope s.heap.objs.size f cd cl::outer
 ex:=[]
 calm:=true
 fn:=fun _=>false
 pn:=[]
 xe:=fun e s'=>wpAny (model P w) (A.deeper (PySem.W.envX qual scope s.heap.objs.size f cd cl)) (leaving (PySem.W.envX qual scope s.heap.objs.size f cd cl) e) (fun _ s''=>CX1 P w outer H s E e s'') (fun e' s''=>CX1 P w outer H s E e' s'') s'
structure LamScope (scope:Scope):Prop where
 kind:scope.kind=.function
 co:scope.isCoroutine=false
 gen:scope.isGenerator=false
 nocell:∀y∈scope.names,y.2≠.cell
structure KeptL (scope:Scope) (N:List Str) (cl:List (Str × Addr)) (τ:St) (s:Shared) (H:Hp):Prop where
 inj:∀x y c,cl.lookup x=some c->cl.lookup y=some c->x=y
 has:∀x,(x,NameKind.free)∈scope.names->∃c,cl.lookup x=some c
 cell:∀x c,cl.lookup x=some c->(∃v,s.heap.IsCell c v)/\H c=none
 val:∀(i:Nat) (x:Str) (v:V),N[i]?=some x->τ[i]?=some (some v)->scope.names.lookup x=some .free/\∃c u,cl.lookup x=some c/\s.heap.IsCell c (some u)/\RelV v u
 len:τ.length=N.length
section
variable {P:Program} {w:World} {K:Fg} {mg:Str->Option Value} {base:Heap} {N:List Str} {name qual:Str} {params:Arguments} {body:Expr} {scope:Scope} {f:Addr} {cd pm ct:Value} {cl:List (Str × Addr)} {A:Around} {outer:List Env} {s:Shared} {H:Hp} {E:XK} {τ:St}
theorem zze {h1:Heap} {tk:Nat} (S:LamScope scope) (hd:A.handled=none) (e0:Env0 P w K mg base A outer s H) (kp:KeptL scope N cl τ s H) (ns:h1.Ns s.heap.objs.size fun _=>none) (hk:∀b o,s.heap.get? b=some o->h1.get? b=some o) :
  Inv (cxL P w K mg base N qual scope f cd cl A outer s H E) [] τ H {s with heap:=h1,toks:=tk}:=by
 have noA:∀b:Addr,b∉(cxL P w K mg base N qual scope f cd cl A outer s H E).ex:=fun b z=>absurd (show b∈([]:List Addr) from z) (by simp)
 have ck:∀{c:Addr} {v:Option Value},s.heap.IsCell c v->h1.IsCell c v:=fun ⟨o,a,b⟩=>⟨o,hk _ _ a,b⟩
 refine ⟨⟨e0.mod,S.kind,rfl,rfl,xbe _,kp.inj,fun y hy=>?_,fun y c z=>(nomatch z),fun _=>hd,Around.frames_deeper e0.frames,.inr ⟨rfl,rfl⟩,fun b z=>absurd z (noA b),e0.bs,e0.bsz,fun b _ _=>noA b,fun b z=>absurd z (noA b),e0.funs,e0.frf⟩,
  rfl,e0.bare,Un.kept hk,⟨_,ns,fun i y v a b _=>?_⟩,fun y c a=>?_,e0.hok.fresh (xbe _),fun y c a=>(kp.cell y c a).2,fun p hp=>absurd (show p∈([]:List (Addr × Obj)) from hp) (by simp),e0.hok.kept hk,kp.len,Hnd.none hd⟩
 ·have hy:scope.names.lookup y=some .cell\/scope.names.lookup y=some .free:=hy;rcases hy with q | q
  ·exact absurd rfl (S.nocell _ (xdk q))
  ·exact kp.has y (xdk q)
 ·obtain ⟨q,c,u,e1,e2,rv⟩:=kp.val i y v a b;exact ⟨u,rv,.inr ⟨.inr q,c,e1,ck e2⟩⟩
 ·obtain ⟨v,e⟩:=(kp.cell y c a).1;exact ⟨v,ck e⟩
theorem zux {k:Nat} {o:Obj} {te:TE} {Q:VK} (S:LamScope scope) (hr:Room (k+1) A) (e0:Env0 P w K mg base A outer s H) (kp:KeptL scope N cl τ s H) (ho:s.heap.get? f=some o) (hd:o.data=.func (PySem.W.kla_fn name qual params body scope cl pm cd ct)) (hcd:s.heap.CodeRec cd qual)
  (hb:bindArgs (PySem.W.kla_fn name qual params body scope cl pm cd ct) ⟨[],[]⟩=pure []) (he:PE (cxL P w K mg base N qual scope f cd cl A outer s H E) body te) (hq:te τ H Q):codeAny (model P w) A (.call (.ref f) ⟨[],[]⟩) (CR (CX1 P w) outer P w H s Q E) s:=by
 have lim:s.heap.NoLimit:=e0.mod.nolimit.keeps fun b o e=>(e0.bs b o e).1
 refine PySem.W.kla_callFunE hr.depth ho hd S.co S.gen rfl hcd ?_;rw[hb];refine xbh (wpAny_newFunctionEnv S.nocell (fun y hy=>absurd (show y∈([]:List (Str × Value)) from hy) (by simp)) (fun h1 hns hsb=>?_) S.kind);have hk:∀b o,s.heap.get? b=some o->h1.get? b=some o:=fun b o e=>hsb.extBut b o (xce (xbk e)) (xbg _ e)
 refine ⟨lim.keeps hk,PySem.W.kla_codeExpr ?_⟩;have I:Inv (cxL P w K mg base N qual scope f cd cl A outer s H E) [] τ H {s with heap:=h1,toks:=s.toks+([]:List (Str × Value)).length}:=zze S hr.hd e0 kp hns hk;refine xde (he [] _ τ H Q I hq) (fun u s' hs=>?_) fun e s' hs=>hs
 obtain ⟨v,H',J,rv,q⟩:=hs;exact ⟨v,H',J.os,J.bare,J.base,J.hok,rv,q⟩
theorem zfa:Wish (cxL P w K mg base N qual scope f cd cl A outer s H E) (fun _ c dx H=>E c dx H):=by
 intro pins τ H ea T C dx s F I hE;show wpAny _ _ (leaving _ _) _ _ s;unfold leaving;refine xba (thn (zjx rfl rfl F I) fun _ s2 h2=>thn (h2 _ _) fun _ s3 hq0=>?_);obtain ⟨T1,F1,I2⟩:=hq0;exact ⟨ea,T1,C,dx,H,rfl,I2.os,I2.bare,I2.base,I2.hok,F1,hE⟩
end
theorem zfc:∀{l:List Value} {a b:Nat} {v:Value},TriplesOk l->TriplesOk (l++[rawInt a,rawInt b,v])
 | [],_,_,_,_=>trivial
 | .int _ _::.int _ _::_::r,_,_,_,h=>zfc (l:=r) h
theorem zjb {pos':Pos} {cv v:Value} {a b:Nat}:∀{l:List Value},TriplesOk l->codeAmong pos' (l++[rawInt a,rawInt b,v])=some cv->codeAmong pos' l=some cv\/cv=v
 | [],_,e=>by
  unfold codeAmong at e;simp only[xkj,rawInt] at e;split at e
  ·exact .inr (xbw e).symm
  ·exact absurd e (by simp[codeAmong])
 | .int i t::.int j u::x::r,h,e=>by
  simp only[xke,codeAmong] at e ⊢;split at e
  ·rename_i q;rw[if_pos q];exact .inl e
  ·rename_i q;rw[if_neg q];exact zjb (l:=r) h e
noncomputable def BmOk (mg : Str -> Option Value) (base : Heap) : Prop := ∃ bm ob, mg "__builtins__" = some (.ref bm) /\ bm ≠ builtinsNs /\ base.get? bm = some ob /\ ob.cls = .type "module" /\ ob.dict = some builtinsNs /\ ob.data = .plain
section
variable {X:Cx} {pins:List (Addr × Obj)} {τ:St} {H:Hp} {s:Shared} {c T:Addr} {ps:Array Value} {params:Arguments} {body:Expr} {scope:Scope} {cl:List (Str × Addr)} {pos:Pos} {Q:Value->Shared->Prop}
noncomputable abbrev lamO (mg : Str -> Option Value) (params : Arguments) (body : Expr) (scope : Scope) (cl : List (Str × Addr)) (c' : Addr) (ctv : Value) : Obj := { cls := .type "function", data := .func (PySem.W.kla_fn "<lambda>" Dd.lamQ params body scope cl ((mg "__name__").getD .none) (.ref c') ctv) }
structure Grew (T:Addr) (H H':Hp):Prop where
 tab:∃ps,H' T=some (.tbl ps)/\Dd.TabOk H' ps
 old:∀a o,H a=some o->a≠T->H' a=some o
 new:∀a,a≠T->H a=none->H' a≠none->∃o,H' a=some (.frz o HX)
theorem zuw (I : Inv X pins τ H s) (C : PySem.W.CodeHd X.base c T) (B : BmOk X.mg X.base) (hcode : X.env.code = .ref c) (hT : H T = some (.tbl ps)) (ok : Dd.TabOk H ps) (hqu : X.env.qual ++ "<lambda>" = Dd.lamQ) (hcl : closureFor scope X.env = pure cl) (hdef : defaultsOf params X.env = ([], []))
  (k:∀f c' ctv s' H',Inv X pins τ H' s'->Grew T H H'->H' f=some (.frz (lamO X.mg params body scope cl c' ctv) HX)->H f=none->(∃oc vs t,H' c'=some (.frz oc HX)/\oc.data=.fields vs/\vs[1]?=some (.str Dd.lamQ t))->Q (.ref f) s') :
  wpAny (model X.prog X.w) X.A (eval (.Lambda params body scope pos) X.env) Q X.xe s:=by
 refine PySem.W.kla_eval hdef ?_;rw[hqu];have hg:s.heap.Ns mainGlobals X.mg:=I.mod.glob.keeps I.bk;have tb:s.heap.get? T=some (PySem.W.tabObj ps):=I.hok T _ hT;have neT:∀b o,X.base.get? b=some o->b≠T:=fun b o e z=>by
  have:=(I.bs b o e).2;rw[z,hT] at this;cases this
 have hgT:mainGlobals≠T:=by
  obtain ⟨o,_,_,e,_⟩:=I.mod.glob;exact neT _ o e
 have CH:PySem.W.CodeHd s.heap c T:=C.keeps I.bk;have hb:s.heap.BuiltinsAt X.mg T:=by
  obtain ⟨bm,ob,b1,b2,b3,b4,b5,b6⟩:=B;refine ⟨bm,ob,b1,b2,fun z=>?_,neT _ _ b3,I.bk _ _ b3,b4,b5,b6⟩;obtain ⟨o,es,ep,e,hd,_⟩:=I.mod.glob;rw[z,e] at b3;cases b3;rw[hd] at b6;cases b6
 have ltT:T < s.heap.objs.size:=xbk tb;cases hf:codeAmong pos ps.toList with
 | some cv =>
  obtain ⟨c',oc,vs,t,rfl,h1,h2,h3⟩:=ok.2 pos cv hf;refine PySem.W.kla_makeFunctionHit (mg:=X.mg) hcl I.ok.glob hg hcode CH tb ok.1 hf hb fun ctv h' tk hk hsz=>?_
  have hk2:∀(ob:Obj) b o,s.heap.get? b=some o->(h'.push ob).get? b=some o:=fun ob b o e=>xbg _ (hk b o e)
  have nf:H h'.objs.size=none:=I.hok.fresh hsz;have gf:(h'.push (lamO X.mg params body scope cl c' ctv)).get? h'.objs.size=some (lamO X.mg params body scope cl c' ctv):=xcb _ rfl;refine k h'.objs.size c' ctv _ (upd H h'.objs.size (.frz (lamO X.mg params body scope cl c' ctv) HX)) (I.un (t':=tk) (Un.laid (hk2 _) hsz nf) (I.hok.laid (hk2 _) hsz ⟨gf,zvb ⟨_,gf⟩⟩)) ⟨⟨ps,?_,ok.map fun b ob u e=>?_⟩,fun a o e _=>?_,fun a _ n1 n2=>?_⟩ zi nf ⟨oc,vs,t,?_,h2,h3⟩
  ·rw[zh (ze hT nf)];exact hT
  ·rw[zh (ze e nf)];exact e
  ·rw[zh (ze e nf)];exact e
  ·by_cases z:a=h'.objs.size
   ·subst z;exact ⟨_,zi⟩
   ·rw[zh z] at n2;exact absurd n1 n2
  ·rw[zh (ze h1 nf)];exact h1
 | none =>
  refine PySem.W.kla_makeFunction (mg:=X.mg) hcl I.ok.glob hg hcode CH tb ok.1 hf hgT hb fun c' ctv h' tk hx hge hlt hrec htb=>?_
  obtain ⟨c2,oc,vs,t,ec,hoc,hd,hv⟩:=hrec;cases ec;have nc:H c'=none:=I.hok.fresh hge;have hsz:s.heap.objs.size<=h'.objs.size:=xbb hge (xbn hlt);have nf:H h'.objs.size=none:=I.hok.fresh hsz;have cT:c'≠T:=fun z=>by rw[z,hT] at nc;cases nc
  have fT:h'.objs.size≠T:=fun z=>by rw[z,hT] at nf;cases nf
  have fc:h'.objs.size≠c':=xjd hlt;generalize hH:upd (upd (upd H T (.tbl (ps++#[rawInt pos.line,rawInt pos.col,.ref c']))) c' (.frz oc HX)) h'.objs.size (.frz (lamO X.mg params body scope cl c' ctv) HX)=H';have gf:(h'.push (lamO X.mg params body scope cl c' ctv)).get? h'.objs.size=some (lamO X.mg params body scope cl c' ctv):=xcb _ rfl;have hk2:∀b o,b≠T->s.heap.get? b=some o->(h'.push (lamO X.mg params body scope cl c' ctv)).get? b=some o:=fun b o n e=>xbg _ (hx b o n e)
  have old:∀b o,H b=some o->b≠T->H' b=some o:=fun b o e n=>by
   rw[← hH,zh (ze e nf),zh (ze e nc),zh n];exact e
  have hT':H' T=some (.tbl (ps++#[rawInt pos.line,rawInt pos.col,.ref c'])):=by rw[← hH,zh fT.symm,zh cT.symm,zi]
  have hc':H' c'=some (.frz oc HX):=by rw[← hH,zh fc.symm,zi]
  have hf':H' h'.objs.size=some (.frz (lamO X.mg params body scope cl c' ctv) HX):=by rw[← hH,zi]
  have nT:∀b,H b=none->b≠T:=fun b n z=>by rw[z,hT] at n;cases n
  have oT:∀{b:Addr} {o:HO},H b=some o->(∀qs,o≠.tbl qs)->b≠T:=fun {b o} e n z=>by rw[z,hT] at e;cases e;exact n _ rfl
  have els:∀b,b≠T->b≠c'->b≠h'.objs.size->H' b=H b:=fun b a1 a2 a3=>by rw[← hH,zh a3,zh a2,zh a1]
  have nw:Inv X pins τ H' {s with heap:=h'.push (lamO X.mg params body scope cl c' ctv),toks:=tk}:=by
   refine I.step (g':=s.gens) (d':=s.drawn) (ch:=[]) (fun _ z=>nomatch z) (fun b o _ _ _ e n=>hk2 b o (nT b n) e) (fun b o _ _ _ e n=>⟨o.slots,hk2 b o (nT b n) e⟩) (fun b o _ e n=>?_) (fun b o _ e=>?_) (fun b xs e=>old b _ e (oT e nofun)) (fun b o u e=>old b _ e (oT e nofun)) (fun b qs e=>?_) (fun m hm=>?_) (fun b o e=>?_) I.bare
   ·rw[els b (nT b n) (xce (xbd (xbk e) hge)) (xce (xbd (xbk e) hsz))];exact n
   ·by_cases z:b=T
    ·subst z;exact ⟨_,xbg _ htb⟩
    ·exact ⟨o,hk2 b o z e⟩
   ·by_cases z:b=T
    ·subst z;rw[hT] at e;cases e;exact ⟨_,hT'⟩
    ·exact ⟨#[],by rw[xgt];exact old b _ e z⟩
   ·obtain ⟨o,es,ep,e,r⟩:=hm;exact ⟨o,es,ep,hk2 _ o (nT _ I.free) e,r⟩
   ·by_cases z1:b=c'
    ·subst z1;rw[hc'] at e;cases e
     exact ⟨xbg _ hoc,zvb ⟨_,xbg _ hoc⟩⟩
    ·by_cases z2:b=T
     ·subst z2;rw[hT'] at e;cases e
      exact (xbg _ htb:(h'.push _).get? b=_)
     ·by_cases z3:b=h'.objs.size
      ·subst z3;rw[hf'] at e;cases e
       exact ⟨gf,zvb ⟨_,gf⟩⟩
      ·rw[els b z2 z1 z3] at e
       exact (I.hok b o e).stay (fun a u ha q=>hk2 a u (by
        rcases ha with rfl | ha
        ·exact z2
        ·exact oT ha nofun) q) (fun a ha=>old a _ ha (oT ha nofun)) fun a xs ha=>old a _ ha (oT ha nofun)
  refine k h'.objs.size c' ctv _ H' nw ⟨⟨_,hT',?_,fun pos' cv e=>?_⟩,old,fun a n1 n2 n3=>?_⟩ hf' nf ⟨oc,vs,t,hc',hd,hv⟩
  ·rw[xcp];exact zfc ok.1
  ·rw[xcp] at e;rcases zjb ok.1 e with q | q
   ·obtain ⟨c2,oc2,vs2,t2,e1,e2,e3⟩:=ok.2 pos' cv q;exact ⟨c2,oc2,vs2,t2,e1,old _ _ e2 (oT e2 nofun),e3⟩
   ·exact ⟨c',oc,vs,t,q,hc',hd,hv⟩
  ·by_cases z:a=c'
   ·subst z;exact ⟨oc,hc'⟩
   ·by_cases z3:a=h'.objs.size
    ·subst z3;exact ⟨_,hf'⟩
    ·rw[els a n1 z z3] at n3;exact absurd n2 n3
noncomputable def tLam (X:Cx) (T:Addr) (params:Arguments) (body:Expr) (scope:Scope):TE:=fun _ H Q=>∃ps,H T=some (.tbl ps)/\Dd.TabOk H ps/\∀f c' ctv cl H',(∀x c,cl.lookup x=some c->X.env.cells.lookup x=some c)->(∀x,(x,NameKind.free)∈scope.names->∃c,cl.lookup x=some c)->Grew T H H'->H' f=some (.frz (lamO X.mg params body scope cl c' ctv) HX)->H f=none->(∃oc vs t,H' c'=some (.frz oc HX)/\oc.data=.fields vs/\vs[1]?=some (.str Dd.lamQ t))->Q (.ref f) H'
theorem zbcy {N : List Str} {is : List Nat} (S : CompScope X N 0 is scope) (C : PySem.W.CodeHd X.base c T) (B : BmOk X.mg X.base) (hcode : X.env.code = .ref c) (hqu : X.env.qual ++ "<lambda>" = Dd.lamQ) (hdef : defaultsOf params X.env = ([], [])) : PE X (.Lambda params body scope pos) (tLam X T params body scope) := by
 intro pins s σ H Q I ⟨ps,hT,ok,h⟩;obtain ⟨cl,e,c1,c2⟩:=zfx S I;exact zuw I C B hcode hT ok hqu e hdef fun f c' ctv s' H' I' g h1 h2 h3=>⟨.ref f,H',I',rfl,h f c' ctv cl H' c1 c2 g h1 h2 h3⟩
end
structure ErrLook (K:Fg) (C:Addr):Prop where
 ga : PySem.W.findIn K (.ref C) "__getattribute__" = some (some (.builtin "BaseException.__getattribute__"))
 gt : PySem.W.findIn K (.ref C) "__getattr__" = some none
 mb : PySem.W.mroIn K C (.type "BaseException") = some true
 cls:(PySem.W.clsIn K C).isSome=true
 fi : PySem.W.findIn K (.ref C) "__class__" = some (some (.builtin "object.__class__"))
 sp : PySem.W.specialIn K (.builtin "object.__class__") "__get__" = some (some (.builtin "getset_descriptor.__get__"))
 tk : PySem.W.takesIn K (.builtin "object.__class__") = some true
 mr : PySem.W.mroIn K C (.type "object") = some true
theorem zvd {K : Fg} {C : Addr} {od : Option Obj} (L : ErrLook K C) : PySem.W.findObj K C od "__class__" = some (.bind (.builtin "getset_descriptor.__get__") (.builtin "object.__class__")) := by
 obtain ⟨cd,hc⟩:=xhy.mp L.cls;unfold PySem.W.findObj;rw[hc,Option.bind_some,L.fi,Option.bind_some];simp[L.sp,L.tk]
theorem zbdx {K:Fg} {C:Addr} (h:(PySem.W.clsIn K C).isSome=true):∃o cd,K.lookup C=some o/\o.data=.cls cd:=by
 obtain ⟨cd,hc⟩:=xhy.mp h;unfold PySem.W.clsIn at hc;split at hc
 ·next ho=>cases hc;exact ⟨_,_,ho,rfl⟩
 ·cases hc
theorem zvu {K : Fg} {M : Model} {A : Around} {E : Value -> Shared -> Prop} {s : Shared} {x D : Addr} {ox : Obj} {odo : Option Obj} {nameV : Value} {Q : Unit -> Shared -> Prop} (X : K.In s.heap) (I : PySem.W.InstAt s.heap x ox D odo) (hmb : PySem.W.mroIn K D (.type "BaseException") = some true)
  (h : Q () s) : wpAny M A (checkBuiltinCall "BaseException.__getattribute__" ⟨[.ref x, nameV], []⟩) Q E s := by
 have hk : builtinKind "BaseException.__getattribute__" = some .slot := by decide +kernel
 have hsplit : splitId "BaseException.__getattribute__" = some ("BaseException", "__getattribute__") := by decide +kernel
 have L0:=I.type (M:=M);have L4:=PySem.W.looks_mroIn (M:=M) X hmb;have ha:=PySem.F.args_bexc_ga (.ref x) nameV;simp only[checkBuiltinCall,hk,hsplit];refine xba ?_;unfold isInstance;refine xba (L0.at (L4.at ?_))
 repeat (first | assumption | wp_step)
theorem zrq {K:Fg} {prog:Program} {w:World} {A:Around} {E:Value->Shared->Prop} {s:Shared} {x D:Addr} {ox:Obj} {odo:Option Obj} {Q:Option Value->Shared->Prop} (X:K.In s.heap) (I:PySem.W.InstAt s.heap x ox D odo)
  (L : ErrLook K D) (h : Q (some (.ref D)) { s with toks := s.toks + 1 }) : wpAny (model prog w) A (getAttr? (.ref x) "__class__") Q E s := by
 obtain ⟨hh,g,d,t,os⟩:=s;have L0:=I.type (M:=model prog w);have L1:=PySem.W.looks_findIn (M:=model prog w) X L.ga;have L2:=PySem.W.looks_findIn (M:=model prog w) X L.gt;have L3:=PySem.W.looks_find (M:=model prog w) X I (zvd L);have hx2 : (Value.builtin "BaseException.__getattribute__" == Value.builtin "object.__getattribute__") = false := by decide +kernel
 unfold getAttr? getAttrBy? getAttrBy;refine xba (wpAny_mkText (xba (xiv (xdt (xba (L0.at (xba (L1.at ?_))))))));dsimp only;rw[hx2,Bool.and_false,if_neg (by decide)];unfold getAttrByItsOwn;refine xba (show wpAny _ _ (typeLookup (.ref D) "__getattr__") _ _ _ from L2.at ?_)
 refine xba (xiv (xdt ?_));show wpAny _ _ (boundAndCalled _ _ _) _ _ _;unfold boundAndCalled;rw[xjr.ga.bind];refine xba (xbh ?_);refine xjl (codeAny_call_builtin xjr.ga.plain PySem.F.entry_bexc_ga (zvu (s:=⟨hh,g,d,t+1,os⟩) X I L.mb ?_));unfold Builtin.«object.__getattribute__»;refine xba (xbh (xba (xbh (xba (L0.at (xba (L3.at ?_)))))));dsimp only;show wpAny _ _ (holding [Value.builtin "object.__class__"] (call (Value.builtin "getset_descriptor.__get__") [Value.builtin "object.__class__", Value.ref x, Value.ref D]) >>= ret) _ _ _
 refine xba (xdt (xjl (PySem.W.class_get (s:=⟨hh,g,d,t+1,os⟩) X I L.mr ?_)));refine xbh ?_;exact PySem.W.handed_on rfl (xbh h)
theorem zol {K:Fg} {a C:Addr} {o:Obj} (L:ErrLook K C) (hd:o.dict=none) (hn:∃vs,o.data=.fields vs) (hc:o.cls=.ref C):PySem.W.KitX K (.ref a) (.ref C) (fun h=>h.get? a=some o):=by
 have inst:∀{h:Heap},h.get? a=some o->PySem.W.InstAt h a o C none:=fun e=>⟨e,hc,by obtain ⟨vs,q⟩:=hn;unfold PySem.W.notCls;rw[q],by rw[hd];trivial⟩
 obtain ⟨oc,cd,l1,l2⟩:=zbdx L.cls;refine ⟨fun M h _ e=>(inst e).type,fun M h X _=>?_,fun h tp dd its n sl X htp=>?_,fun {prog w A E Q s} X e k=>?_⟩
 ·intro A' Q' E' s' k q;unfold isType loadHead;refine xba (wpAny_loadPart (k _ _ (X _ _ l1)) (xbh ?_));rw[l2];exact q
 ·refine Bool.eq_false_iff.mpr fun q=>?_
  have e:C=tp:=Value.ref.inj (xew.mp q);subst e;have z:=(X _ _ l1).symm.trans htp;cases z;cases l2
 ·exact zrq X (inst e) L k
section
variable {X:Cx}
noncomputable def rIsb (K:Fg) (xs:List V) (H:Hp) (Q:VK):Prop:=∃a o C c cv b,xs=[.ref a,c]/\RelV c cv/\(∀u,RelV c u->u=cv)/\H a=some (.frz o HX)/\o.cls=.ref C/\ErrLook K C/\o.dict=none/\(∃vs,o.data=.fields vs)/\PySem.W.kitOne K (.ref C) cv=some b/\Q (.bl b) H
theorem zvv : CallR X (.builtin "isinstance") (rIsb X.K) := by
 intro pins s σ H xs us Q I r h;obtain ⟨a,o,C,c,cv,b,rfl,_,un,h1,h2,lk,h3,h4,e,q⟩:=h;obtain ⟨u,w',rfl,ru,rw'⟩:=vals2 r;obtain rfl:=un _ rw';cases (show u=Value.ref a from ru);exact xdn (zol lk h3 h4 h2) I.kIn (I.hok a _ h1).1 e (by intro z;cases z) fun tk=>⟨.bl b,H,I.tok tk,rfl,q⟩
end
section
variable {X:Cx}
end
end L2
namespace L2
open PySem
namespace St
end St
namespace St
/- the leaps meet all places -/
end St
namespace St
/- laid anew -/
end St
namespace St
end St
end L2
namespace L2
open PySem PySem.W PyProof.Rows PySem.Spec
namespace St
section
variable {P:Program} {w:World} {B:Around} {E:Value->Shared->Prop} {s:Shared} {a:Addr}
end
end St
namespace St
section
variable {P:Program} {w:World} {B:Around} {R:Result->Shared->Prop} {it:Addr} {fp wr:List Addr} {G:Array GenState->Array GenState->Prop} {N:Nat} {It:Nat->Value->Prop} {St:Nat->Shared->Prop}
end
section
variable {P:Program} {w:World} {B:Around} {E:Value->Shared->Prop} {s:Shared}
end
end St
namespace St
section
variable {P:Program} {w:World} {B:Around} {E:Value->Shared->Prop} {s:Shared} {a it:Addr} {es:Array (Int × Value)} {ep:Nat} {t:SetTable} {ks:List Nat}
end
end St
end L2
namespace L2
open PySem PySem.Spec PyProof.Rows PySem.W
end L2
namespace Dd
open PySem L2 PyProof.Rows
section
variable {X:Cx} {x y:Str} {p p2 pos pos2:Pos} {e:Expr} {f:SA} {g:List D->Store->Res D}
end
end Dd
namespace L2
open PySem PySem.Spec PyProof.Rows PySem.W
end L2
namespace Dd
open PySem L2 PyProof.Rows
section
variable {X:Cx} {p p2 pos pos2 cpos apos:Pos} {e o:Expr} {f:SA} {g:SE}
end
noncomputable abbrev RXT:=L2.St->Value->Option Addr->Hp->Prop
noncomputable def XIs (K:Fg) (ρ:Loc) (H:Hp) (x:Exc) (C:Addr) (dx:Option Addr):Prop:=PySem.W.nsIn K mainGlobals x.cls=some (some (.ref C)) /\
 ((x.at_ = [] /\ dx = none) \/ ∃ i d od, x.at_ = [i] /\ dx = some d /\ H d = some (.frz od (.xd [("at", .int i)])) /\ Out ρ d)
noncomputable def XOk (K:Fg) (ρ:Loc) (H:Hp) (st':Store) (x:Exc) (R:XK):Prop:=∀ρ' H' C dx,Ext ρ H ρ' H'->Rep K ρ' st' H'->XIs K ρ' H' x C dx->R (.ref C) dx H'
theorem XOk.ext {K:Fg} {ρ ρ1:Loc} {H H1:Hp} {st':Store} {x:Exc} {R:XK} (e:Ext ρ H ρ1 H1) (h:XOk K ρ H st' x R):XOk K ρ1 H1 st' x R:=fun ρ' H' C dx a=>h ρ' H' C dx (e.trans a)
noncomputable def tX (K:Fg) (R:RXT) (f:SE):TE:=fun τ H Q=>∃ρ σ st,AtS K ρ H σ τ/\Rep K ρ st H/\((∃v st',f σ st=.ok v st'/\∀ρ' H' u,Ext ρ H ρ' H'->Rep K ρ' st' H'->At K ρ' H' v u->Q u H')\/∃x st',f σ st=.exc x st'/\XOk K ρ H st' x (R τ))
noncomputable def tXS (K:Fg) (R:RXT) (f:SS):TS:=fun E τ H=>∃ρ σ st,AtS K ρ H σ τ/\Rep K ρ st H/\((∃fl st',f σ st=.ok fl st'/\FlOk K ρ H st' E fl)\/∃x st',f σ st=.exc x st'/\XOk K ρ H st' x (R τ))
structure JX (X:Cx) (R:RXT) (e:Expr) (f:SE):Prop where out:PE X e (tX X.K R f)
structure JXS (X:Cx) (R:RXT) (s:Stmt) (f:SS):Prop where out:PS X s (tXS X.K R f)
structure JXB (X:Cx) (R:RXT) (s:List Stmt) (f:SS):Prop where out:PSs X s (tXS X.K R f)
noncomputable def noX {α:Type} (f:DS->Store->Res α):DS->Store->Res α:=fun σ st=>match f σ st with
 | .exc _ _=>.stuck
 | r=>r
theorem zqx {α:Type} {f:DS->Store->Res α} {σ:DS} {st st':Store} {v:α} (h:noX f σ st=.ok v st'):f σ st=.ok v st':=by
 unfold noX at h;split at h
 ·cases h
 ·exact h
theorem zss {α:Type} {f:DS->Store->Res α} {σ:DS} {st st':Store} {x:Exc} (h:noX f σ st=.exc x st'):False:=by
 unfold noX at h;split at h
 ·cases h
 ·rename_i hn;exact hn x st' h
theorem zec {α β:Type} {f:DS->Store->Res α} {g:α->Store->Res β} {σ:DS} {st st':Store} {x:Exc} (h:(noX f σ st).bind g=.exc x st'):∃v st1,f σ st=.ok v st1/\g v st1=.exc x st':=by
 cases e:noX f σ st with
 | ok v st1=>rw[e] at h;exact ⟨v,st1,zqx e,h⟩
 | exc y w=>exact (zss e).elim
 | stuck=>rw[e] at h;cases h
noncomputable def CalX (P:Program) (w:World) (K:Fg) (mg:Str->Option Value) (base:Heap) (x:Str) (k:Nat) (ps:List Str) (F:DFn):Prop :=
 ∃f fd,FnOk P w K mg base (CX1 P w) k f fd ps (fun vs H Q E=>∃ρ ds st,AtAll K ρ H ds vs/\Rep K ρ st H/\vs.length=ps.length/\((∃v st',F ds st=.ok v st'/\∀ρ' H' u,Ext ρ H ρ' H'->Rep K ρ' st' H'->At K ρ' H' v u->Q u H')\/∃x st',F ds st=.exc x st'/\XOk K ρ H st' x E))/\Binds K fd ps []/\PySem.W.keepIn K (.ref f)=true/\mg x=some (.ref f)
section
variable {X:Cx} {R:RXT} {e:Expr} {es:List Expr} {f:SE} {g:SA} {sm:Stmt} {rest body:List Stmt} {s t:SS} {pos p:Pos} {x:Str} {k:Nat} {ps:List Str} {F:DFn}
theorem zlb (h:JB X body s):JXB X R body (noX s):=⟨znk h.out fun E τ H hq0=>by
 obtain ⟨ρ,σ,st,a,rp,q⟩:=hq0;rcases q with ⟨v,st',e1,q⟩ | ⟨x,st',e1,_⟩
 ·exact ⟨ρ,σ,st,v,st',a,rp,zqx e1,q⟩
 ·exact (zss e1).elim⟩
theorem zeo (c : CalX X.prog X.w X.K X.mg X.base x k ps F) (hw : Wish X R) (hn : ∀ ds st, ds.length ≠ ps.length -> F ds st = .stuck) (hr : Room k X.A) (hg : Gl X x) (ha : JA X (e :: es) g) (hdb : (x == ("__debug__" : Str)) = false := by decide)
  (he:starEach (e::es) X.env=(false,eval e X.env)::starEach es X.env:=by rfl) (hpl:(backTo pos (starEach es X.env)).any (·.1)=false:=by rfl):JX X R (.Call (.Name x p) (e::es) [] pos) (eCall F (noX g)):=by
 obtain ⟨fa,fd,G,b,kp,m⟩:=c;refine ⟨fun pins s τ H Q I ⟨ρ,σ,st,a,rp,h⟩=>?_⟩;obtain ⟨ds,st1,e1,h1⟩:∃ds st1,g σ st=.ok ds st1/\((∃v st',F ds st1=.ok v st'/\∀ρ' H' u,Ext ρ H ρ' H'->Rep X.K ρ' st' H'->At X.K ρ' H' v u->Q u H')\/∃x st',F ds st1=.exc x st'/\XOk X.K ρ H st' x (R τ)):=by
  rcases h with ⟨v,st',e1,q⟩ | ⟨x,st',e1,q⟩
  ·obtain ⟨ds,st1,e2,e3⟩:=zb e1;exact ⟨ds,st1,zqx e2,.inl ⟨v,st',e3,q⟩⟩
  ·obtain ⟨ds,st1,e2,e3⟩:=zec e1;exact ⟨ds,st1,e2,.inr ⟨x,st',e3,q⟩⟩
 refine xef (zgu I hg m ?_ hdb);refine xhx (h₀:=X.base) I.ok.mod.kin kp (thn (ha.out pos pins s τ H (fun vs H1=>∃ρ1,Ext ρ H ρ1 H1/\Rep X.K ρ1 st1 H1/\AtAll X.K ρ1 H1 ds vs) I ⟨ρ,σ,st,ds,st1,a,rp,e1,fun ρ1 H1 u x1 rp1 a1=>⟨ρ1,x1,rp1,a1⟩⟩) fun us s1 ⟨vs,H1,I1,r,ρ1,x1,rp1,a1⟩=>⟨I1.kIn,?_⟩) he hpl;have hlen:vs.length=ps.length:=by
  rw[a1.length];by_cases hl:ds.length=ps.length
  ·exact hl
  ·rcases h1 with ⟨v,st',e3,_⟩ | ⟨x,st',e3,_⟩<;>(rw[hn ds st1 hl] at e3;cases e3)
 have r2:Vals vs (us++[]):=by rw[xdw];exact r
 refine xjl (xib (G.run X.A X.stack s1 H1 ⟨us,[]⟩ (us++[]) vs Q (R τ) hr I1.env0 (b s1 us I1.kIn (by rw[xdw,← r.length];exact hlen)) r2 ⟨ρ1,ds,st1,a1,rp1,hlen,?_⟩) fun r s' hq=>?_)
 ·rcases h1 with ⟨v,st',e3,q⟩ | ⟨x,st',e3,q⟩
  ·exact .inl ⟨v,st',e3,fun ρ' H' u x2=>q ρ' H' u (x1.trans x2)⟩
  ·exact .inr ⟨x,st',e3,q.ext x1⟩
 ·cases r with
  | error er =>
   obtain ⟨ea,T,C,dx,H',rfl,os,bare,un,hok,Fl,hR⟩:=hq;exact hw pins τ H' ea T C dx s' Fl (I1.call' (ch:=[]) os un hok bare (fun _ z=>nomatch z)) hR
  | ok fl =>
   cases fl with
   | ret u=>exact I1.after hq
   | next=>exact False.elim hq
   | brk=>exact False.elim hq
   | cont=>exact False.elim hq
theorem ztd (he:JX X R e f):JXS X R (.Return (some e) pos) (sRet f):=⟨zlu (zxo he.out) fun E τ H hq0=>by
 obtain ⟨ρ,σ,st,a,rp,q⟩:=hq0;refine ⟨ρ,σ,st,a,rp,?_⟩;rcases q with ⟨fl,st',e1,q⟩ | ⟨x,st',e1,q⟩
 ·obtain ⟨v,st1,e2,e3⟩:=zb e1;cases e3;exact .inl ⟨v,_,e2,q⟩
 ·cases e2:f σ st with
  | ok v st1=>unfold sRet at e1;rw[e2] at e1;cases e1
  | exc y w=>unfold sRet at e1;rw[e2] at e1;cases e1;exact .inr ⟨_,_,rfl,q⟩
  | stuck=>unfold sRet at e1;rw[e2] at e1;cases e1⟩
theorem zzq {i:Nat} {pos':Pos} (hN:X.N.Nodup) (hi:X.N[i]?=some x) (hx:L2.Loc X.env.scope x) (he:JX X R e f) (hs:swapsWith e (some (.Name x pos')) pos.line X.env=pure false:=by rfl) (hf:X.fn x=true\/X.env.scope.names.lookup x=some .local:=by first | exact .inl rfl | exact .inr rfl | assumption) :
  JXS X R (.Assign [.Name x pos'] e pos) (sSet i f):=⟨zlu (zxn hN hi hx he.out hs hf) fun E τ H hq0=>by
 obtain ⟨ρ,σ,st,a,rp,q⟩:=hq0;refine ⟨ρ,σ,st,a,rp,?_⟩;rcases q with ⟨fl,st',e1,q⟩ | ⟨x,st',e1,q⟩
 ·obtain ⟨v,st1,e2,e3⟩:=zb e1;cases e3;exact .inl ⟨v,_,e2,fun ρ1 H1 u x1 rp1 a1=>q _ _ _ x1 rp1 ((a.ext x1).set a1 i)⟩
 ·cases e2:f σ st with
  | ok v st1=>unfold sSet at e1;rw[e2] at e1;cases e1
  | exc y w=>unfold sSet at e1;rw[e2] at e1;cases e1;exact .inr ⟨_,_,rfl,q⟩
  | stuck=>unfold sSet at e1;rw[e2] at e1;cases e1⟩
theorem zld (h1:JXS X R sm s):JXB X R [sm] s:=⟨znl h1.out⟩
noncomputable def Cst (R:RXT):Prop:=∀τ τ',R τ=R τ'
theorem zjz (hR:Cst R) (h1:JXS X R sm s) (h2:JXB X R rest t):JXB X R (sm::rest) (sSeq s t):=⟨znk (zjm h1.out h2.out) fun E τ H hq0=>by
 obtain ⟨ρ,σ,st,a,rp,q⟩:=hq0;refine ⟨ρ,σ,st,a,rp,?_⟩;cases e0:s σ st with
 | stuck=>rcases q with ⟨fl,st',e1,q⟩ | ⟨x,st',e1,q⟩<;>(unfold sSeq at e1;rw[e0] at e1;cases e1)
 | exc y w =>
  rcases q with ⟨fl,st',e1,q⟩ | ⟨x,st',e1,q⟩
  ·unfold sSeq at e1;rw[e0] at e1;cases e1
  ·unfold sSeq at e1;rw[e0] at e1;cases e1;exact .inr ⟨_,_,rfl,q⟩
 | ok fl st1 =>
  refine .inl ⟨fl,st1,rfl,?_⟩;cases fl with
  | nx σ1 =>
   refine fun ρ1 H1 τ1 x1 rp1 a1=>⟨ρ1,σ1,st1,a1,rp1,?_⟩
   rcases q with ⟨fl,st',e1,q⟩ | ⟨x,st',e1,q⟩
   ·unfold sSeq at e1;rw[e0] at e1;exact .inl ⟨fl,st',e1,q.ext x1⟩
   ·unfold sSeq at e1;rw[e0] at e1;exact .inr ⟨x,st',e1,by rw[hR τ1 τ];exact q.ext x1⟩
  | brk σ1=>rcases q with ⟨fl,st',e1,q⟩ | ⟨x,st',e1,q⟩<;>(unfold sSeq at e1;rw[e0] at e1;cases e1);exact q
  | ct σ1=>rcases q with ⟨fl,st',e1,q⟩ | ⟨x,st',e1,q⟩<;>(unfold sSeq at e1;rw[e0] at e1;cases e1);exact q
  | ret v=>rcases q with ⟨fl,st',e1,q⟩ | ⟨x,st',e1,q⟩<;>(unfold sSeq at e1;rw[e0] at e1;cases e1);exact q⟩
theorem zzr {c:Expr} {b:ST} {a' b':List Stmt} (hc:JT X c b) (ha:JXB X R a' s) (hb:JXB X R b' t):JXS X R (.If c a' b' pos) (sIf (noX b) s t):=⟨zlu (zbgp hc.out ha.out hb.out) fun E τ H hq0=>by
 obtain ⟨ρ,σ,st,a,rp,q⟩:=hq0;obtain ⟨v,st1,e1,q⟩:∃v st1,b σ st=.ok v st1/\((∃fl st',(if v=true then s σ st1 else t σ st1)=.ok fl st'/\FlOk X.K ρ H st' E fl)\/∃x st',(if v=true then s σ st1 else t σ st1)=.exc x st'/\XOk X.K ρ H st' x (R τ)):=by
  rcases q with ⟨fl,st',e1,q⟩ | ⟨x,st',e1,q⟩
  ·obtain ⟨v,st1,e2,e3⟩:=zb e1;exact ⟨v,st1,zqx e2,.inl ⟨fl,st',e3,q⟩⟩
  ·obtain ⟨v,st1,e2,e3⟩:=zec e1;exact ⟨v,st1,e2,.inr ⟨x,st',e3,q⟩⟩
 refine ⟨ρ,σ,st,v,st1,a,rp,e1,fun ρ1 H1 x1 rp1=>?_⟩;have q2:((∃fl st',(if v=true then s σ st1 else t σ st1)=.ok fl st'/\FlOk X.K ρ1 H1 st' E fl)\/∃x st',(if v=true then s σ st1 else t σ st1)=.exc x st'/\XOk X.K ρ1 H1 st' x (R τ)):=by
  rcases q with ⟨fl,st',e2,q⟩ | ⟨x,st',e2,q⟩
  ·exact .inl ⟨fl,st',e2,q.ext x1⟩
  ·exact .inr ⟨x,st',e2,q.ext x1⟩
 cases v with
 | true=>exact iteT ⟨ρ1,σ,st1,a.ext x1,rp1,q2⟩
 | false=>exact iteF ⟨ρ1,σ,st1,a.ext x1,rp1,q2⟩⟩
noncomputable def sRaise (c:Str) (g:SA):SS:=fun σ st=>(g σ st).bind fun xs st1=>if xs.length<=sizeLine then .exc ⟨c,[]⟩ st1 else .stuck
theorem zlc {C : Addr} {np cpos : Pos} (hw : WishR X R) (hx : ErrCls X.K x C) (hc : X.calm = true) (hg : Gl X x) (ha : JA X (e :: es) g) (hd : (x == ("__debug__" : Str)) = false := by decide) (he : starEach (e :: es) X.env = (false, eval e X.env) :: starEach es X.env := by rfl)
  (hpl:(backTo cpos (starEach es X.env)).any (·.1)=false:=by rfl):JXS X R (.Raise (some (.Call (.Name x np) (e::es) [] cpos)) none pos) (sRaise x (noX g)):=by
 refine ⟨fun pins s τ H E I ⟨ρ,σ,st,a,rp,q⟩=>?_⟩;obtain ⟨xs,st1,e1,hl,q⟩:∃xs st1,g σ st=.ok xs st1/\xs.length<=sizeLine/\XOk X.K ρ H st1 ⟨x,[]⟩ (R τ):=by
  rcases q with ⟨fl,st',e1,q⟩ | ⟨y,st',e1,q⟩
  ·obtain ⟨v,st1,e2,e3⟩:=zb e1;split at e3<;>cases e3
  ·obtain ⟨v,st1,e2,e3⟩:=zec e1;split at e3
   ·cases e3;exact ⟨v,_,e2,by assumption,q⟩
   ·cases e3
 refine zuc (zzl I.mod.kin I.mod.glob hx) F.excBase_ValueError (by decide) F.excBase_ValueError hc hg ha.out hd he hpl I ⟨ρ,σ,st,xs,st1,a,rp,e1,fun ρ1 H1 u x1 rp1 a1=>⟨by rw[a1.length];exact hl,fun s1 us h' ee I1 rv hm=>?_⟩⟩;obtain ⟨t,h1,h2,h3⟩:=hm.there;exact hw pins τ H1 ee C none s1 _ I1 hm.keeps rfl hm.new ⟨_,_,h1,rfl,rfl,rfl,rfl,rfl⟩ (q ρ1 H1 C none x1 rp1 ⟨hx.1,.inl ⟨rfl,rfl⟩⟩)
noncomputable def sTry (i:Nat) (cs:List Str) (b u:SS):SS:=fun σ st=>match b σ st with
 | .exc x st1=>if x.cls∈cs then (match u (σ.set i (some (.exn x.cls x.at_))) st1 with
  | .ok (.ret v) st2=>.ok (.ret v) st2
  | _=>.stuck) else .stuck
 | r=>r
theorem zww {K:Fg} {B:Addr} {i:Nat} {cs:List Str} {u:SS} {E:Ends} {ρ:Loc} {σ:DS} {τ:L2.St} {H:Hp} {st1 st':Store} {y:Exc} {fl:Fl} (hcs:∀c∈cs,∀C,PySem.W.nsIn K mainGlobals c=some (some (.ref C))->PySem.W.exmOne K (.ref C) (.ref B)=some true) (a:AtS K ρ H σ τ)
  (e:(if y.cls∈cs then (match u (σ.set i (some (.exn y.cls y.at_))) st1 with
  | .ok (.ret v) st2=>Res.ok (Fl.ret v) st2
  | _=>.stuck) else .stuck)=.ok fl st') (q:FlOk K ρ H st' E fl):XOk K ρ H st1 y (RH K B i (tDS K u) E.rt τ):=by
 split at e
 ·next hmem =>
  refine fun ρ1 H1 C dx x1 rp1 xi=>⟨hcs _ hmem C xi.1,fun ea T o h1 h2 h3 h4 h5 h6=>?_⟩
  have hT:upd H1 T HX ea=none:=by rw[zh h3.symm];exact h1
  have x2:=x1.trans ((Ext.new h2 HX).trans (Ext.new hT (.frz o HX)));have rp2:=(rp1.new h2 HX).new hT (.frz o HX);have oe:Out ρ1 ea:=zev (rp1.new h2 HX) hT;refine ⟨ρ1,σ.set i (some (.exn y.cls y.at_)),st1,?_⟩;cases e3:u (σ.set i (some (.exn y.cls y.at_))) st1 with
  | stuck=>rw[e3] at e;cases e
  | exc _ _=>rw[e3] at e;cases e
  | ok fl2 st2 =>
   rw[e3] at e;cases fl2 with
   | ret v =>
    cases e;refine ⟨.ret v,_,(a.ext x2).set (.exn ⟨C,o,xi.1,⟨zi,oe⟩,h4,h6,?_⟩) i,rp2,rfl,fun ρ' H' w x3=>q ρ' H' w (x2.trans x3)⟩;rcases xi.2 with ⟨z1,z2⟩ | ⟨j,d,od,z1,z2,z3,z4⟩
    ·exact .inl ⟨z1,by rw[h5,z2]⟩
    ·refine .inr ⟨j,d,od,z1,by rw[h5,z2],?_,z4⟩;rw[zh (ze (by rw[zh (ze z3 h2)];exact z3) hT),zh (ze z3 h2)];exact z3
   | nx _=>cases e
   | brk _=>cases e
   | ct _=>cases e
 ·cases e
end
section
variable {P:Program} {w:World} {K:Fg} {mg:Str->Option Value} {base h:Heap} {x:Str} {st:Stmt} {N ps:List Str} {k:Nat} {b:SS}
theorem ziw (T:TopF K x st) (X:K.In h) (G:h.Ns mainGlobals mg) (S:FnScope N ps (defScope st))
  (bd:∀(kV doc pm:Value) (an:Option Addr) (cdv ct:Value) (us:List Value),us.length=ps.length->bindArgs (PySem.W.fnOf x x (defArgs st) (defBody st) (defScope st) .none kV doc pm an cdv ct) ⟨us,[]⟩=pure (ps.zip us))
  (hbody:∀(f:Addr) (cdv:Value) (A:Around) (outer:List Env) (s:Shared) (H:Hp) (E:XK),Room k (A.deeper (envOfC x (defScope st) s.heap.objs.size f cdv)) ->
   JXB (cxOf (CX1 P w) P w K mg base N x (defScope st) f cdv A outer s H E) (fun _ c dx H=>E c dx H) (defBody st) b):CalX P w K mg base x (k+1) ps (fnD N.length ps.length b):=by
 obtain ⟨f,fd,a,F⟩:=T;refine ⟨f,fd,?_,F.binds bd,F.kp,xcq X G a⟩;obtain ⟨oc,od,kV,doc,pm,an,cdv,ct,osl,rfl,lk,hcd⟩:=F.ex;refine zbec lk hcd S (fun vs H Q E h=>by obtain ⟨_,_,_,_,_,hl,_⟩:=h;exact hl) fun A outer s H vs Q E hr hsp=>⟨_,(hbody f cdv A outer s H E hr).out,?_⟩
 obtain ⟨ρ,ds,st1,al,rp,hl,q⟩:=hsp;have hd:ds.length=ps.length:=by rw[← al.length];exact hl
 have as:AtS K ρ H (ds.map Option.some++List.replicate (N.length - ps.length) none) (L2.start N vs):=by
  unfold L2.start;rw[hl];exact al.some.append (.nones _)
 unfold fnD at q;rw[if_pos hd] at q;refine ⟨ρ,_,st1,as,rp,?_⟩;cases hr:b (ds.map Option.some++List.replicate (N.length - ps.length) none) st1 with
 | stuck=>rw[hr] at q;rcases q with ⟨_,_,z,_⟩ | ⟨_,_,z,_⟩<;>cases z
 | exc y w1 =>
  rw[hr] at q;rcases q with ⟨_,_,z,_⟩ | ⟨_,_,z,q⟩
  ·cases z
  ·cases z;exact .inr ⟨_,_,rfl,q⟩
 | ok fl st2 =>
  rw[hr] at q;refine .inl ⟨fl,st2,rfl,?_⟩;cases fl with
  | ret w1=>rcases q with ⟨_,_,z,q⟩ | ⟨_,_,z,_⟩<;>cases z;exact fun ρ' H' u x r t=>q ρ' H' u x r t
  | nx σ=>rcases q with ⟨_,_,z,q⟩ | ⟨_,_,z,_⟩<;>cases z;exact fun ρ' H' τ x r t=>q ρ' H' .non x r .non
  | brk σ=>rcases q with ⟨_,_,z,_⟩ | ⟨_,_,z,_⟩<;>cases z
  | ct σ=>rcases q with ⟨_,_,z,_⟩ | ⟨_,_,z,_⟩<;>cases z
theorem zbx {n np:Nat} {b:SS} (ds:List D) (st:Store) (h:ds.length≠np):fnD n np b ds st=.stuck:=by unfold fnD;rw[if_neg h]
end
theorem zbfn {K:Fg} {P:Addr->Prop}:∀c∈([]:List Str),∀C,PySem.W.nsIn K mainGlobals c=some (some (.ref C))->P C:=fun _ h=>nomatch h
theorem zbas {K:Fg} {P:Addr->Prop} {c:Str} {cs:List Str} {C0:Addr} (h:PySem.W.nsIn K mainGlobals c=some (some (.ref C0))) (p:P C0) (r:∀c∈cs,∀C,PySem.W.nsIn K mainGlobals c=some (some (.ref C))->P C) :
  ∀c'∈c::cs,∀C,PySem.W.nsIn K mainGlobals c'=some (some (.ref C))->P C:=fun c' hc C e=>by
 rcases xbt.mp hc with rfl | hc
 ·rw[h] at e;cases e;exact p
 ·exact r c' hc C e
structure Thk (X:Cx) (f:Addr) (τL:L2.St) (g:SE):Prop where
 there:∀pins τ H s,Inv X pins τ H s->PySem.W.FnAt f s.heap
 run:∀pins τ H s (E:XK) (Q:VK),Inv X pins τ H s->tX X.K (fun _ c dx H=>E c dx H) g τL H Q->codeAny (model X.prog X.w) X.A (.call (.ref f) ⟨[],[]⟩) (CR (CX1 X.prog X.w) X.stack X.prog X.w H s Q E) s
noncomputable def tThk (K:Fg) (R:RXT) (f:Addr) (σL:DS) (τL:L2.St) (g:SE):TE:=fun τ H Q=>τ[0]?=some (some (.ref f))/\∃ρ σ st,AtS K ρ H σ τ/\AtS K ρ H σL τL/\Rep K ρ st H/\((∃v st',g σL st=.ok v st'/\∀ρ' H' u,Ext ρ H ρ' H'->Rep K ρ' st' H'->At K ρ' H' v u->Q u H')\/∃x st',g σL st=.exc x st'/\XOk K ρ H st' x (R τ))
noncomputable def tRef (K:Fg) (f:Addr) (σL:DS) (τL:L2.St) (b:SS):TS:=fun E τ H=>τ[0]?=some (some (.ref f))/\∃ρ σ st fl st',AtS K ρ H σ τ/\AtS K ρ H σL τL/\Rep K ρ st H/\b σ st=.ok fl st'/\FlOk K ρ H st' E fl
section
variable {X:Cx} {R:RXT} {f:Addr} {σL:DS} {τL:L2.St} {g:SE} {x n y:Str} {p pos pos2 xp hp:Pos} {B:Addr} {i:Nat} {cs:List Str} {b0:Stmt} {suite rest:List Stmt} {u t:SS}
theorem zbcj (hw:Wish X R) (T:Thk X f τL g) (hv:PE X (.Name x p) (tVar 0)):PE X (.Call (.Name x p) [] [] pos) (tThk X.K R f σL τL g):=by
 intro pins s τ H Q I ⟨h0,ρ,σ,st,a,aL,rp,h⟩;refine xef (xde (hv pins s τ H (fun v H'=>v=.ref f/\H'=H) I ⟨_,h0,rfl,rfl⟩) (fun w s1 h1=>?_) fun _ _ z=>z);obtain ⟨v,H1,I1,rv,rfl,rfl⟩:=h1;obtain rfl:w=Value.ref f:=rv;refine PySem.W.callWith_F0 (T.there pins τ H1 s1 I1) ?_;refine xjl (xib (T.run pins τ H1 s1 (R τ) Q I1 ⟨ρ,σL,st,aL,rp,h⟩) fun r s' hq=>?_);cases r with
 | error er =>
  obtain ⟨ea,T1,C,dx,H',rfl,os,bare,un,hok,Fl,hR⟩:=hq;exact hw pins τ H' ea T1 C dx s' Fl (I1.call' (ch:=[]) os un hok bare (fun _ z=>nomatch z)) hR
 | ok fl =>
  cases fl with
  | ret u=>exact I1.after hq
  | next=>exact False.elim hq
  | brk=>exact False.elim hq
  | cont=>exact False.elim hq
theorem zxm (hc:X.calm=true) (st0:X.stack=X.env::X.outer) (fr:X.env.frame=some X.env.locals) (hN:X.N.Nodup) (hi:X.N[i]?=some n) (hn:X.env.kindOf n=some .local) (hg:Gl X y) (hB:PySem.W.nsIn X.K mainGlobals y=some (some (.ref B)))
  (hcs:∀c∈cs,∀C,PySem.W.nsIn X.K mainGlobals c=some (some (.ref C))->PySem.W.exmOne X.K (.ref C) (.ref B)=some true) (T:∀E pn,Thk (X.tryc E pn) f τL g) (hv:∀E pn,PE (X.tryc E pn) (.Name x p) (tVar 0))
  (hs : ∀ e, JB (X.caught e) (b0 :: suite) u) (hd : (y == ("__debug__" : Str)) = false := by decide) (hsw : swapsWith (.Call (.Name x p) [] [] pos) none pos2.line X.env = pure false := by rfl) {tp : Pos} :
  PS X (.Try [.Expr (.Call (.Name x p) [] [] pos) pos2] [.ExceptHandler (some (.Name y xp)) (some n) (b0::suite) hp] [] [] tp) (tRef X.K f σL τL (sTry i cs (sDrop fun _=>g σL) u)) :=
 zlu (zbcm hc st0 fr hN hi hn hg hB (tb:=fun R E τ H=>tThk X.K R f σL τL g τ H fun _ H'=>E.nx τ H') (ts:=tDS X.K u) (fun R E pn hw=>znl (zsq (zbcj hw (T E pn) (hv E pn)) hsw)) (fun e=>(hs e).out) hd) fun E τ H hq0=>by
  obtain ⟨h0,ρ,σ,st,fl,st',a,aL,rp,e,q⟩:=hq0;refine ⟨h0,ρ,σ,st,a,aL,rp,?_⟩;unfold sTry sDrop at e;rw[show ((fun _=>g σL:SE) σ st)=g σL st from rfl] at e;cases e0:g σL st with
  | stuck=>rw[e0] at e;cases e
  | ok v st1=>rw[e0] at e;cases e;exact .inl ⟨v,_,rfl,fun ρ1 H1 w x1 rp1 _=>q _ _ _ x1 rp1 (a.ext x1)⟩
  | exc z st1=>rw[e0] at e;exact .inr ⟨z,st1,rfl,zww hcs a e q⟩
theorem zxk {tr:Stmt} {s:SS} (h1:PS X tr (tRef X.K f σL τL s)) (h2:JB X rest t):PSs X (tr::rest) (tRef X.K f σL τL (sSeq s t)):=znk (zjm h1 h2.out) fun E τ H hq0=>by
 obtain ⟨h0,ρ,σ,st,fl,st',a,aL,rp,e,q⟩:=hq0;refine ⟨h0,ρ,σ,st,?_⟩;unfold sSeq at e;split at e
 ·rename_i σ1 st1 e1;exact ⟨_,st1,a,aL,rp,e1,fun ρ1 H1 τ1 x1 rp1 a1=>⟨ρ1,σ1,st1,fl,st',a1,rp1,e,q.ext x1⟩⟩
 ·rename_i hne;refine ⟨fl,st',a,aL,rp,e,?_⟩;cases fl with
  | nx σ'=>exact absurd e (hne σ' st')
  | brk σ'=>exact q
  | ct σ'=>exact q
  | ret w=>exact q
end
noncomputable def eRefd (F:(Store->Res D)->DFn) (is:List Nat) (lam:SE):SE:=fun σ st=>match (st[0]?:Option O) with
 | some O.tab=>F (lam (startD 0 is σ)) [.ref st.length] (st++[.dead])
 | _=>.stuck
theorem Rep.more {K:Fg} {ρ:Loc} {st:Store} {H:Hp} (r:Rep K ρ st H):Ext ρ H ⟨ρ.m++[none],ρ.g⟩ H/\Rep K ⟨ρ.m++[none],ρ.g⟩ (st++[.dead]) H:=by
 have sub:∀{n:Nat} {a:Addr},(ρ.m++[none])[n]?=some (some a)->ρ.m[n]?=some (some a):=fun {n a} e=>by
  rcases xge n ρ.m.length with h | h
  ·rwa [xbv h] at e
  ·rw[xch h] at e;cases z:n - ρ.m.length with
   | zero=>rw[z] at e;cases e
   | succ k=>rw[z] at e;cases e
 have E:Ext ρ H ⟨ρ.m++[none],ρ.g⟩ H:=⟨by simp,fun n a _ e=>sub e,fun a o e m=>⟨e,fun z=>by
  rcases xbz.mp z with z | z
  ·exact m z
  ·cases xbo.mp z⟩,rfl,fun _ _ _ e=>e⟩
 refine ⟨E,by simp[r.len],fun n m a e1 e2=>r.inj n m a (sub e1) (sub e2),fun n a o e1 e2=>?_,fun a ha=>?_,fun n o e1 e2=>?_⟩
 ·have hn:n < st.length:=by rw[← r.len];exact (xbl.mp (sub e1)).1
  rw[xbv hn] at e2;exact (r.obj n a o (sub e1) e2).ext E rfl
 ·obtain ⟨h1,h2⟩:=r.gh a ha
  exact ⟨h1,fun z=>by
   rcases xbz.mp z with z | z
   ·exact h2 z
   ·cases xbo.mp z⟩
 ·rcases xge n st.length with h | h
  ·rw[xbv h] at e1;obtain ⟨a,q⟩:=r.live n o e1 e2;exact ⟨a,by rw[xbv (by rw[r.len];exact h)];exact q⟩
  ·rw[xch h] at e1;cases z:n - st.length with
   | zero=>rw[z] at e1;cases e1;exact absurd rfl e2
   | succ k=>rw[z] at e1;cases e1
theorem Rep.grew {K : Fg} {ρ : Loc} {st : Store} {H H' : Hp} {c T : Addr} (r : Rep K ρ st H) (ht : PySem.W.tabIn K "law" = some (c, T)) (h0 : ρ.m[0]? = some (some T)) (h1 : st[0]? = some .tab) (hT : ∃ ps, H T = some (.tbl ps)) (g : Grew T H H') : Ext ρ H ρ H' /\ Rep K ρ st H' := by
 obtain ⟨ps,hT⟩:=hT;have E:Ext ρ H ρ H':=⟨xbe _,fun _ _ _ e=>e,fun a o e m=>⟨g.old a o e (by rintro rfl;exact m (xcg h0)),m⟩,rfl,fun a ob u e=>g.old a _ e (by rintro rfl;rw[hT] at e;cases e)⟩
 refine ⟨E,r.len,r.inj,fun n a o e1 e2=>?_,fun a ha=>?_,r.live⟩
 ·by_cases z:a=T
  ·subst z;obtain rfl:=r.inj n 0 a e1 h0;rw[h1] at e2;cases e2
   exact ⟨⟨c,ht⟩,g.tab⟩
  ·have q:=r.obj n a o e1 e2;obtain ⟨w,hw⟩:=q.has;exact q.ext E (by rw[hw];exact g.old a w hw z)
 ·obtain ⟨⟨vs,e⟩,m⟩:=r.gh a ha;exact ⟨⟨vs,g.old a _ e (by rintro rfl;rw[hT] at e;cases e)⟩,m⟩
section
variable {X:Cx} {y:Str} {p pos lp:Pos} {params:Arguments} {body:Expr} {scope stS:Scope} {N NL:List Str} {is:List Nat} {c T fr:Addr} {fdR:FuncData} {stR:Stmt} {x:Str} {k:Nat} {lam:SE} {b:(Store->Res D)->SS}
theorem zbbw {X':Cx} {pins:List (Addr × Obj)} {τ:L2.St} {H:Hp} {s:Shared} {f c':Addr} {ctv:Value} {cl:List (Str × Addr)} (I:Inv X pins τ H s) (S:CompScope X NL 0 is scope) (SL:LamScope scope) (c1:∀x c,cl.lookup x=some c->X.env.cells.lookup x=some c) (c2:∀x,(x,NameKind.free)∈scope.names->∃c,cl.lookup x=some c) (hf:H f=some (.frz (lamO X.mg params body scope cl c' ctv) HX)) (hc:∃oc vs t,H c'=some (.frz oc HX)/\oc.data=.fields vs/\vs[1]?=some (.str lamQ t))
  (e1 : X'.s₀ = s) (e2 : X'.H₀ = H) (e3 : X'.prog = X.prog) (e4 : X'.w = X.w) (e5 : X'.K = X.K) (e6 : X'.mg = X.mg) (e7 : X'.base = X.base) (e8 : X'.ex = []) (hr : Room (k + 1) X'.A) (hb : ∀ pm cd ct, bindArgs (PySem.W.kla_fn "<lambda>" lamQ params body scope cl pm cd ct) ⟨[], []⟩ = pure [])
  (hlam:∀f cd cl A outer s H E,Room k (A.deeper (PySem.W.envX lamQ scope s.heap.objs.size f cd cl))->JX (cxL X.prog X.w X.K X.mg X.base NL lamQ scope f cd cl A outer s H E) (fun _ c dx H=>E c dx H) body lam):Thk X' f (startC 0 is τ) lam:=by
 have get:∀{pins τ' H' s'},Inv X' pins τ' H' s'->∀{a o},H a=some (.frz o HX)->s'.heap.get? a=some o:=fun J a o e=>by
  have e':X'.H₀ a=some (.frz o HX):=by rw[e2];exact e
  exact (J.hok a _ (J.base.frzs a o HX e')).1
 refine ⟨fun pins' τ' H' s' J=>?_,fun pins' τ' H' s' E Q J hq=>?_⟩
 ·exact ⟨_,_,_,_,get J hf⟩
 obtain ⟨oc,vs,t,h1,h2,h3⟩:=hc;have kp:KeptL scope NL cl (startC 0 is τ) s' H':=by
  have cel:∀{c v},s.heap.IsCell c v->H c=none->s'.heap.IsCell c v/\H' c=none:=fun {c v} hq0 n=>by
   obtain ⟨o,a,d⟩:=hq0;obtain ⟨sl,z⟩:=J.base.any (b:=c) (ob:=o) (by rw[e1];exact a) (by rw[e2];exact n) (by rw[e8];simp);exact ⟨⟨_,z,d⟩,J.base.free c o (by rw[e1];exact a) (by rw[e2];exact n) (by rw[e8];simp)⟩
  refine ⟨fun x y c h1 h2=>I.ok.inj x y c (c1 x c h1) (c1 y c h2),c2,fun x c h=>?_,fun i x v a b=>?_,?_⟩
  ·obtain ⟨v,z⟩:=I.cell x c (c1 x c h);have w:=cel z (I.freeC x c (c1 x c h));exact ⟨⟨v,w.1⟩,w.2⟩
  ·have b':(is.map fun i=>(τ[i]?).getD none)[i]?=some (some v):=b;rw[xcs] at b';cases ej:is[i]? with
   | none=>rw[ej] at b';cases b'
   | some j =>
    rw[ej] at b';have b2:(τ[j]?).getD none=some v:=xbw b';obtain ⟨z,y1,y2,y3⟩:=S.own i j ej;rw[xdi,a] at y1;cases y1;have b3:τ[j]?=some (some v):=by
     cases q:τ[j]? with
     | none=>rw[q] at b2;cases b2
     | some o=>rw[q] at b2;exact congrArg some b2
    have kd:=S.frees _ (zcg y3) rfl;obtain ⟨m,_,hl⟩:=I.loc;obtain ⟨u,r,lk⟩:=hl j x v y2 b3 (.inr kd);refine ⟨y3,?_⟩;rcases lk with ⟨q,_⟩ | ⟨_,c,e5',cc⟩
    ·rcases kd with w | w<;>(rw[w] at q;cases q)
    ·obtain ⟨c'',e6'⟩:=c2 x (zcg y3);have z:=c1 x c'' e6';rw[e5'] at z;cases z;exact ⟨c,u,e6',(cel cc (I.freeC x c e5')).1,r⟩
  ·show (is.map fun i=>(τ[i]?).getD none).length=NL.length;rw[xbc,S.len,xdi]
 have hcr:s'.heap.CodeRec (.ref c') lamQ:=⟨c',oc,vs,t,rfl,get J h1,h2,h3⟩
 have e0:=J.env0;rw[e3,e4,e5,e6,e7] at e0;rw[e3,e4];rw[e5] at hq;exact zux SL hr e0 kp (get J hf) rfl hcr (hb _ _ _) (hlam f (.ref c') cl X'.A X'.stack s' H' E (hr.deeper _)).out hq
theorem zbag (C : PySem.W.CodeHd X.base c T) (ht : PySem.W.tabIn X.K "law" = some (c, T)) (Bm : BmOk X.mg X.base) (hcode : X.env.code = .ref c) (hqu : X.env.qual ++ "<lambda>" = lamQ) (hg : Gl X y) (hm : X.mg y = some (.ref fr)) (F : Fun X.K y y stR fr fdR) (SF : FnScope N [x] (defScope stR))
  (bd:∀(kV doc pm:Value) (an:Option Addr) (cdv ct:Value) (us:List Value),us.length=[x].length->bindArgs (PySem.W.fnOf y y (defArgs stR) (defBody stR) (defScope stR) .none kV doc pm an cdv ct) ⟨us,[]⟩=pure ([x].zip us))
  (hr : Room (k + 2) X.A) (hdef : defaultsOf params X.env = ([], [])) (S : CompScope X NL 0 is scope) (SL : LamScope scope) (hb : ∀ cl pm cd ct, bindArgs (PySem.W.kla_fn "<lambda>" lamQ params body scope cl pm cd ct) ⟨[], []⟩ = pure [])
  (hbody:∀(cdv:Value) (A:Around) (outer:List Env) (s:Shared) (H:Hp) (E:XK) (f:Addr) (σL:DS) (τL:L2.St) (g:SE),Room (k+1) (A.deeper (envOfC y (defScope stR) s.heap.objs.size fr cdv)) ->
   (∀E' pn,Thk ((cxOf CX0 X.prog X.w X.K X.mg X.base N y (defScope stR) fr cdv A outer s H E).nox.tryc E' pn) f τL g)->PSs (cxOf CX0 X.prog X.w X.K X.mg X.base N y (defScope stR) fr cdv A outer s H E).nox (defBody stR) (tRef X.K f σL τL (b (g σL))))
  (hlam:∀f cd cl A outer s H E,Room k (A.deeper (PySem.W.envX lamQ scope s.heap.objs.size f cd cl))->JX (cxL X.prog X.w X.K X.mg X.base NL lamQ scope f cd cl A outer s H E) (fun _ c dx H=>E c dx H) body lam)
  (hdb : (y == ("__debug__" : Str)) = false := by decide) (he : starEach [.Lambda params body scope lp] X.env = (false, eval (.Lambda params body scope lp) X.env) :: starEach [] X.env := by rfl) (hpl : (backTo pos (starEach [] X.env)).any (·.1) = false := by rfl) :
  JE X (.Call (.Name y p) [.Lambda params body scope lp] [] pos) (eRefd (fun g=>fnD N.length 1 (b g)) is lam):=by
 refine ⟨fun pins s τ H Q I ⟨ρ,σ,st,v,st',a,rp,e,q⟩=>?_⟩;unfold eRefd at e;split at e
 case h_2=>cases e
 case h_1 h0 =>
 obtain ⟨T',m0⟩:=rp.live 0 .tab h0 (by intro z;cases z);obtain ⟨⟨c2,ht2⟩,ps,hT,ok⟩:=rp.obj 0 T' .tab m0 h0;rw[ht] at ht2;cases ht2;refine xef (zgu I hg hm ?_ hdb)
 refine xhx (h₀:=X.base) I.ok.mod.kin F.kp (thn ((zds (zbcy S C Bm hcode hqu hdef) zhk he:PA X [.Lambda params body scope lp] _) pos pins s τ H (fun vs H1=>∃f c' ctv cl,vs=[.ref f]/\(∀x c,cl.lookup x=some c->X.env.cells.lookup x=some c)/\(∀x,(x,NameKind.free)∈scope.names->∃c,cl.lookup x=some c)/\Grew T H H1/\H1 f=some (.frz (lamO X.mg params body scope cl c' ctv) HX)/\∃oc vs t,H1 c'=some (.frz oc HX)/\oc.data=.fields vs/\vs[1]?=some (.str lamQ t)) I
  ⟨ps,hT,ok,fun f c' ctv cl H' c1 c2 gr h1 _ h3=>⟨f,c',ctv,cl,rfl,c1,c2,gr,h1,h3⟩⟩) fun us s1 ⟨vs,H1,I1,r,f,c',ctv,cl,hvs,c1,c2,gr,hf,hc⟩=>⟨I1.kIn,?_⟩) he hpl
 subst hvs;obtain ⟨x1,rp1⟩:=rp.grew ht m0 h0 ⟨ps,hT⟩ gr;obtain ⟨x2,rp2⟩:=rp1.more;obtain ⟨oc,od,kV,doc,pm,an,cdv,ct,osl,rfl,lk,hcd⟩:=F.ex;have aL:AtS X.K ⟨ρ.m++[none],ρ.g⟩ H1 (startD 0 is σ) (startC 0 is τ):=((a.ext x1).ext x2).start 0 is;have thk:∀E' pn,Thk ((cxOf CX0 X.prog X.w X.K X.mg X.base N y (defScope stR) fr cdv X.A X.stack s1 H1 E0).nox.tryc E' pn) f (startC 0 is τ) lam:=fun E' pn=>zbbw (k:=k) I1 S SL c1 c2 hf hc rfl rfl rfl rfl rfl rfl rfl rfl (hr.deeper _) (hb cl) hlam
 have bod:=hbody cdv X.A X.stack s1 H1 E0 f (startD 0 is σ) (startC 0 is τ) lam (hr.deeper _) thk;have hl:us.length=1:=by have:=r.length;simpa using this.symm
 replace e:fnD N.length 1 (b (lam (startD 0 is σ))) [D.ref st.length] (st++[.dead])=.ok v st':=e;unfold fnD at e;rw[if_pos (show [D.ref st.length].length=1 from rfl)] at e;have as:AtS X.K ⟨ρ.m++[none],ρ.g⟩ H1 ([D.ref st.length].map Option.some++List.replicate (N.length - 1) none) (L2.start N [.ref f]):=by
  unfold L2.start;refine AtS.append (AtAll.some (.cons (.ref ?_ fun a z=>?_) .nil)) (.nones _)
  ·rw[← rp.len];simp
  ·rw[← rp.len,xch (xbe _),xhc] at z;cases z
 refine xjl (xib (zbaw (k:=k+1) (E:=E0) (Q:=Q) lk hcd SF hr I1.env0 (.of_eq (bd kV doc pm an cdv ct us hl)) r rfl bod.nox ?_) fun r s' hq=>?_)
 ·refine ⟨by unfold L2.start;rfl,⟨ρ.m++[none],ρ.g⟩,[D.ref st.length].map Option.some++List.replicate (N.length - 1) none,st++[.dead],?_⟩;cases hres:b (lam (startD 0 is σ)) ([D.ref st.length].map Option.some++List.replicate (N.length - 1) none) (st++[.dead]) with
  | stuck=>rw[hres] at e;cases e
  | exc z w=>rw[hres] at e;cases e
  | ok fl st1 =>
   rw[hres] at e;have xx:=x1.trans x2;cases fl with
   | ret w=>dsimp only at e;cases e;exact ⟨.ret v,_,as,aL,rp2,rfl,fun ρ' H' u x r t=>q ρ' H' u (xx.trans x) r t⟩
   | nx σ2=>dsimp only at e;cases e;exact ⟨.nx σ2,_,as,aL,rp2,rfl,fun ρ' H' τ x r t=>q ρ' H' .non (xx.trans x) r .non⟩
   | brk σ=>cases e
   | ct σ=>cases e
 ·cases r with
  | error er=>exact False.elim hq
  | ok fl =>
   cases fl with
   | ret u=>exact I1.after hq
   | next=>exact False.elim hq
   | brk=>exact False.elim hq
   | cont=>exact False.elim hq
end
end Dd
namespace L2
open PySem PySem.Spec PyProof.Rows
noncomputable def isT:Value->Bool
 | .bool b=>b == true
 | _=>false
theorem zmw:∀{bs:List Bool} {us:List Value},Vals (bs.map V.bl) us->us=bs.map Value.bool
 | [],_,.nil=>rfl
 | b::bs,_,.cons r t=>by rw[zmw t];cases (show _=Value.bool b from r);rfl
theorem zks:∀bs:List Bool,(bs.map Value.bool).countP isT=bs.count true
 | []=>rfl
 | b::bs=>by rw[xbq,List.countP_cons,List.count_cons,zks bs];rfl
theorem eqT {A:Around} {s:Shared} {bs:List Bool}:∀y,y∈(bs.map Value.bool).toArray->SeqAt.EqAt A s y (.bool true) (isT y):=fun y hy=>by
 obtain ⟨b,_,rfl⟩:=xdo.mp (by simpa using hy:y∈bs.map Value.bool);exact SeqAt.EqAt.bool_bool b true
noncomputable def rCountB (K:Fg):V->List V->Hp->VK->Prop:=fun x vs H Q=>∃(l:Addr) (bs:List Bool),x=.ref l/\vs=[.bl true]/\SqL K H l (bs.map V.bl)/\Q (.int (bs.count true:Nat)) H
theorem zra {X : Cx} : MtM X "list.count" (rCountB X.K) := by
 intro pins s σ H x vs v us Q I rx rv h;obtain ⟨l,bs,rfl,rfl,hl,q⟩:=h;cases rx;obtain ⟨u,rfl,ru⟩:=rv.one;cases (show u=Value.bool true from ru);obtain ⟨its,r,pl,_⟩:=I.list hl;obtain rfl:=zmw r;obtain ⟨⟨cls,dd,data,sl⟩,ho,hc,n,hd⟩:=id pl.isList;simp only at hc hd;subst hc hd;refine xjm PySem.F.slot_list_count ⟨_,ho,rfl⟩ PySem.F.entry_list_count (PySem.F.args_list_count_2 _ _) (SeqAt.list_countAt l (bs.map Value.bool).toArray n dd sl (.bool true) isT) ⟨ho,eqT,?_⟩;rw[show (bs.map Value.bool).toArray.toList=bs.map Value.bool from rfl,zks];exact ⟨.int _,H,I.tok _,⟨_,rfl⟩,q⟩
noncomputable def rIndexB (K:Fg):V->List V->Hp->VK->Prop:=fun x vs H Q=>∃(l:Addr) (bs:List Bool),x=.ref l/\vs=[.bl true]/\SqL K H l (bs.map V.bl)/\true∈bs/\bs.length<=1000/\Q (.int (bs.idxOf true:Nat)) H
theorem zqz {X : Cx} : MtM X "list.index" (rIndexB X.K) := by
 intro pins s σ H x vs v us Q I rx rv h;obtain ⟨l,bs,rfl,rfl,hl,hm,hz,q⟩:=h;cases rx;obtain ⟨u,rfl,ru⟩:=rv.one;cases (show u=Value.bool true from ru);obtain ⟨its,r,pl,_⟩:=I.list hl;obtain rfl:=zmw r;obtain ⟨⟨cls,dd,data,sl⟩,ho,hc,n,hd⟩:=id pl.isList;simp only at hc hd;subst hc hd;have hj:bs.idxOf true < bs.length:=List.idxOf_lt_length_iff.mpr hm;refine xjm PySem.F.slot_list_index ⟨_,ho,rfl⟩ PySem.F.entry_list_index (PySem.F.args_list_index_2 _ _) (SeqAt.list_indexAt l (bs.map Value.bool).toArray n dd sl (.bool true) isT (bs.idxOf true) (by simpa using hj) (by lia) ?_ ?_) ⟨ho,eqT,⟨.int _,H,I.tok _,⟨_,rfl⟩,q⟩⟩
 ·have e:bs[bs.idxOf true]=true:=List.getElem_idxOf hj;simp[isT,e]
 ·intro j hjs hlt;have e:=List.not_of_lt_findIdx (p:=(· == true)) (xs:=bs) (i:=j) hlt;simp[isT]
  simpa using e
end L2
namespace Dd
open PySem L2 PyProof.Rows
noncomputable def eWithB (k:List Bool->Res D->Res D) (c:List Bool->Nat) (f:SE) (g:SA):SE:=fun σ st=>(f σ st).bind fun x st1=>match asL st1 x with
 | some _=>(g σ st1).bind fun ys st2=>match ys,(asL st2 x).bind asBools with
  | [.bl true],some bs=>k bs (.ok (.int (c bs:Nat)) st2)
  | _,_=>.stuck
 | _=>.stuck
noncomputable abbrev eCountB:SE->SA->SE:=eWithB (fun _ r=>r) (fun bs=>bs.count true)
noncomputable abbrev eIndexB:SE->SA->SE:=eWithB (fun bs r=>if true∈bs/\bs.length<=1000 then r else .stuck) (fun bs=>bs.idxOf true)
section
variable {X:Cx} {o e:Expr} {es:List Expr} {f:SE} {ga:SA} {apos cpos:Pos}
theorem zsk {K:Fg} {k:List Bool->Res D->Res D} {c:List Bool->Nat} {r:V->List V->Hp->VK->Prop} (hk:∀bs st v st',k bs (.ok (.int (c bs:Nat)) st)=.ok v st'->v=.int (c bs:Nat)/\st'=st/\∀p H (Q:VK),SqL K H p (bs.map V.bl)->Q (.int (c bs:Nat)) H->r (.ref p) [.bl true] H Q) :
  ∀ τ H Q, tD K (eWithB k c f ga) τ H Q -> tBM K "list" r (tD K f) (tDA K ga) τ H Q := fun τ H Q hq0 => by
 obtain ⟨ρ,σ,st,v,st',a,rp,e,q⟩:=hq0;obtain ⟨x,st1,e1,e⟩:=zb e;refine ⟨ρ,σ,st,x,st1,a,rp,e1,fun ρ1 H1 u x1 rp1 a1=>?_⟩;split at e
 ·rename_i hL;obtain ⟨ys,st2,e2,e⟩:=zb e;obtain ⟨p,vs,rfl,g1,g2⟩:=zfz rp1 a1 hL;refine ⟨.inl ⟨rfl,_,SqL.of g1⟩,ρ1,σ,st1,ys,st2,a.ext x1,rp1,e2,fun ρ2 H2 ws x2 rp2 a2=>?_⟩;split at e
  ·rename_i bs hn;obtain ⟨rfl,rfl,hr⟩:=hk _ _ _ _ e;obtain ⟨zs,h0,hn⟩:=xem.mp hn;obtain ⟨w,rfl,a3⟩:=a2.one;cases a3;obtain ⟨p',vs2,ep,k1,k2⟩:=zfz rp2 (a1.ext x2) h0;cases ep;have e:=zja k2 hn;subst e;exact hr p H2 _ (SqL.of k1) (q _ _ _ (x1.trans x2) rp2 (.int _))
  ·cases e
 ·cases e
theorem zsa (ho : JE X o f) (ha : JA X (e :: es) ga) (hbase : attributeBase o "count" X.env (eval o X.env) = eval o X.env := by rfl)
 (hfew:((backTo cpos (starEach (e::es) X.env)).all (fun x=>!x.1) && (backToKw cpos (keywordEach [] X.env)).all (fun x=>x.1.isSome)
  && decide ((e::es).length+([]:List Keyword).length+(if ([]:List Keyword).isEmpty then 0 else 1) < 30))=true:=by rfl)
 (hline:(apos.endLine == cpos.line)=true:=by rfl) (hs:starEach (e::es) X.env=(false,eval e X.env)::starEach es X.env:=by rfl) (hplain:(backTo cpos (starEach es X.env)).any (·.1)=false:=by rfl) :
 JE X (.Call (.Attribute o "count" apos) (e :: es) [] cpos) (eCountB f ga) := ⟨zef (zbda xij PySem.F.slot_list_count PySem.F.type_list_count zra ho.out ha.out hbase hfew hline hs hplain) (zsk fun bs st v st' h => by cases h; exact ⟨rfl, rfl, fun p H Q hs q => ⟨p, bs, rfl, rfl, hs, q⟩⟩)⟩
theorem zry (ho : JE X o f) (ha : JA X (e :: es) ga) (hbase : attributeBase o "index" X.env (eval o X.env) = eval o X.env := by rfl)
  (hfew:((backTo cpos (starEach (e::es) X.env)).all (fun x=>!x.1) && (backToKw cpos (keywordEach [] X.env)).all (fun x=>x.1.isSome)
   && decide ((e::es).length+([]:List Keyword).length+(if ([]:List Keyword).isEmpty then 0 else 1) < 30))=true:=by rfl)
  (hline:(apos.endLine == cpos.line)=true:=by rfl) (hs:starEach (e::es) X.env=(false,eval e X.env)::starEach es X.env:=by rfl) (hplain:(backTo cpos (starEach es X.env)).any (·.1)=false:=by rfl) :
  JE X (.Call (.Attribute o "index" apos) (e :: es) [] cpos) (eIndexB f ga) := ⟨zef (zbda xij PySem.F.slot_list_index PySem.F.type_list_index zqz ho.out ha.out hbase hfew hline hs hplain) (zsk fun bs st v st' h => by
 split at h
 ·next z=>cases h;exact ⟨rfl,rfl,fun p H Q hs q=>⟨p,bs,rfl,rfl,hs,z.1,z.2,q⟩⟩
 ·cases h)⟩
end
noncomputable def eIsB (i:Nat) (tbl:List (Str × Bool)):SE:=fun σ st=>match σ[i]? with
 | some (some (.exn c []))=>match tbl.lookup c with
  | some b=>.ok (.bl b) st
  | none=>.stuck
 | _=>.stuck
theorem zrx {X : Cx} {n d : Str} {i : Nat} {tbl : List (Str × Bool)} {dv : V} {cv : Value} {p p1 p2 pos : Pos} (hg : Gl X "isinstance") (hm : X.mg "isinstance" = none) (hv : PE X (.Name n p1) (tVar i)) (hd : PE X (.Name d p2) (tC dv)) (r : RelV dv cv) (un : ∀ u, RelV dv u -> u = cv)
  (hk : ∀ q ∈ tbl, ∀ C, PySem.W.nsIn X.K mainGlobals q.1 = some (some (.ref C)) -> ErrLook X.K C /\ PySem.W.kitOne X.K (.ref C) cv = some q.2) : JE X (.Call (.Name "isinstance" p) [.Name n p1, .Name d p2] [] pos) (eIsB i tbl) :=
 ⟨zef (zjn zvv hg hm zby (zds hv (zds hd zhk))) fun τ H Q hq0=>by
  obtain ⟨ρ,σ,st,v,st',a,rp,e,q⟩:=hq0;unfold eIsB at e;split at e
  ·next c hi =>
   split at e
   ·next b hb =>
    cases e;obtain ⟨u,h1,h2⟩:=a.get hi;cases h2 with
    | exn h2 =>
     obtain ⟨C,o,h3,h4,h5,h6,h7⟩:=h2;obtain ⟨lk,e1⟩:=hk (c,b) (xdk hb) C h3;have hd0:o.dict=none:=by
      rcases h7 with ⟨_,z⟩ | ⟨_,_,_,z,_⟩
      ·exact z
      ·cases z
     exact ⟨_,h1,_,o,C,dv,cv,b,rfl,r,un,h4.1,h5,lk,hd0,(let ⟨vs,q,_⟩:=h6;⟨vs,q⟩),e1,q _ _ _ (.refl _ _) rp (.bl b)⟩
   ·cases e
  ·cases e⟩
end Dd
namespace L2
open PySem PySem.Spec PyProof.Rows
theorem zrj {P:Program} {w:World} {K:Fg} {mg mb:Str->Option Value} {k:Nat} {fa a T c:Addr} {fd:FuncData} {x:Str} {sp:Sp} {s₁:Shared} {vs:List Value} {ns:List Int}
  (KX : K.In s₁.heap) (hns : s₁.heap.Ns mainGlobals mg) (hb : s₁.heap.Ns builtinsNs mb) (hbb : ∀ x : Str, x ≠ "__name__" -> mb x = bootBuiltins x) (hlim : s₁.heap.NoLimit) (hg : s₁.gens = #[])
  (ha : s₁.heap.get? a = some { cls := .type "list", data := .seq vs.toArray }) (hi : IntsAre vs ns) (hl : ns.length <= sizeLine) (hr : Room k callerA) (CT : PySem.W.CodeHd s₁.heap c T) (hT : s₁.heap.get? T = some (PySem.W.tabObj #[])) (hKT : K.lookup T = none) (hbm : BmOk mg s₁.heap)
  (F:∀base:Heap,K.In base->base.Ns mainGlobals mg->PySem.W.CodeHd base c T->BmOk mg base->FnOk P w K mg base CX0 k fa fd [x] sp) (hbind:∀(s:Shared) (u:Value),BindsTo s fd ⟨[u],[]⟩ [(x,u)])
  (hsp:∀H:Hp,H T=some (.tbl #[])->SqL K H a (ns.map V.int)->sp [.ref a] H (fun v _=>v=.bl true) fun _ _ _=>False) :
  codeAny (model P w) callerA (.call (.ref fa) ⟨[.ref a],[]⟩) (fun r s'=>r=.ok (.ret (.bool true))/\OldK s₁.heap s'.heap/\s'.os=s₁.os/\AllBare s'.gens) s₁:=by
 have rv:=zkj hi;have lenV:=hi.length;have aT:a≠T:=by rintro rfl;rw[ha] at hT;cases hT
 have core:∀H:Hp,H T=some (.tbl #[])->SqL K H a (ns.map V.int)->HOk P w H s₁.heap->(∀b,H b≠none->b=T\/(b=a/\K.lookup a=none/\∃o xs,H a=some (.frz o (.lst xs)))) ->
   codeAny (model P w) callerA (.call (.ref fa) ⟨[.ref a],[]⟩) (fun r s'=>r=.ok (.ret (.bool true))/\OldK s₁.heap s'.heap/\s'.os=s₁.os/\AllBare s'.gens) s₁:=by
  intro H hHT hS hok hA;have none_of:∀{b:Addr} {o:Obj},s₁.heap.get? b=some o->(∀z,o.data≠.fields z)->(∀z n,o.data≠.seq z n)->H b=none:=fun {b o} e n1 n2=>by
   cases q:H b with
   | none=>rfl
   | some u =>
    rcases hA b (by rw[q];simp) with rfl | ⟨rfl,_⟩
    ·rw[hT] at e;cases e;exact absurd rfl (n1 _)
    ·rw[ha] at e;cases e;exact absurd rfl (n2 _ _)
  have base_of:∀{b:Addr} {o:Obj},s₁.heap.get? b=some o->H b=none->(hidT s₁.heap H).get? b=some o:=fun e n=>zvc e n
  have nsK:∀{b:Addr} {m:Str->Option Value},s₁.heap.Ns b m->(hidT s₁.heap H).Ns b m:=fun {b m} ⟨o,es,ep,e,d,r⟩=>⟨o,es,ep,base_of e (none_of e (by intro z q;rw[d] at q;cases q) (by intro z n q;rw[d] at q;cases q)),d,r⟩
  have hKb:K.In (hidT s₁.heap H):=fun b o e=>base_of (KX b o e) (by
   cases q:H b with
   | none=>rfl
   | some u =>
    rcases hA b (by rw[q];simp) with rfl | ⟨rfl,n,_⟩
    ·rw[hKT] at e;cases e
    ·rw[n] at e;cases e)
  have hM:Mod K mg (hidT s₁.heap H):=⟨hKb,nsK hns,⟨mb,nsK hb,hbb⟩,let ⟨mc,h1,h2⟩:=hlim;⟨mc,nsK h1,h2⟩⟩
  have e0:Env0 P w K mg (hidT s₁.heap H) callerA [] s₁ H:=⟨rfl,hM,fun b o e=>zyn e,xcw (zro _ _),trivial,fun b hb=>absurd (show b∈([]:List Addr) from hb) (by simp),hok,.of_eq hg⟩
  have CT':PySem.W.CodeHd (hidT s₁.heap H) c T:=by
   obtain ⟨o,vs',file,tf,flags,tg,inF,text,tt,e1,r1,r2,r3,r4,r5,r6,r7,r8,hne⟩:=CT;refine ⟨o,vs',file,tf,flags,tg,inF,text,tt,base_of e1 ?_,r1,r2,r3,r4,r5,r6,r7,r8,hne⟩;cases q:H c with
   | none=>rfl
   | some u =>
    rcases hA c (by rw[q];simp) with z | ⟨z,_⟩
    ·exact absurd z hne
    ·rw[z,ha] at e1;cases e1;cases r2
  have bm':BmOk mg (hidT s₁.heap H):=by
   obtain ⟨bm,ob,b1,b2,b3,b4,b5,b6⟩:=hbm;exact ⟨bm,ob,b1,b2,base_of b3 (none_of b3 (by intro z q;rw[b6] at q;cases q) (by intro z n q;rw[b6] at q;cases q)),b4,b5,b6⟩
  refine xib ((F _ hKb (nsK hns) CT' bm').run callerA [] s₁ H ⟨[.ref a],[]⟩ [.ref a] [.ref a] _ _ hr e0 (hbind s₁ (.ref a)) (.cons rfl .nil) (hsp H hHT hS)) fun r s' h=>?_
  cases r with
  | error e=>exact False.elim h
  | ok fl =>
   cases fl with
   | next=>exact False.elim h
   | brk=>exact False.elim h
   | cont=>exact False.elim h
   | ret u =>
    obtain ⟨v,H',os,bare,un,hok',r',q⟩:=h;have q':v=.bl true:=q;subst q';obtain rfl:u=Value.bool true:=r';have key:∀b o,s₁.heap.get? b=some o->b≠T->s'.heap.get? b=some o:=fun b o e n=>by
     cases q:H b with
     | none=>exact un.keep b o e q (by intro z;exact absurd (show b∈([]:List Addr) from z) (by simp)) (by simp)
     | some u =>
      rcases hA b (by rw[q];simp) with z | ⟨rfl,_,ob,xs,z⟩
      ·exact absurd z n
      ·have z2:=un.frzs b ob _ z;obtain ⟨e1,_⟩:=hok b _ z;obtain ⟨e2,_⟩:=hok' b _ z2;rw[e] at e1;cases e1
       exact e2
    obtain ⟨more,z⟩:=un.tbls T #[] hHT;have gT:s'.heap.get? T=some {cls:=.none,data:=.fields (#[]++more)}:=hok' T _ z;refine ⟨rfl,⟨fun b o e=>?_,fun b o e=>?_⟩,os,bare⟩
    ·by_cases n:b=T
     ·subst n;rw[hT] at e;cases e
      exact .inr (.inl ⟨(CT.tab hT).isCodeTable,rfl,#[],more,rfl,gT⟩)
     ·exact .inl (key b o e n)
    ·by_cases n:b=T
     ·subst n;exact ⟨_,gT⟩
     ·exact ⟨o,key b o e n⟩
 have okT:∀H:Hp,ObjOk P w H s₁.heap T (.tbl #[]):=fun H=>hT
 cases hk:K.lookup a with
 | some o =>
  have e:=KX a o hk;rw[ha] at e;cases e;refine core (fun b=>if b=T then some (.tbl #[]) else none) (if_pos rfl) (.inr ⟨_,vs.toArray,_,hk,rfl,rfl,rfl,by rw[xbp,lenV];exact hl,by simpa using rv⟩) (fun b u z=>?_) (fun b z=>?_)
  ·by_cases hb:b=T
   ·have z':=(if_pos hb).symm.trans z;cases z';subst hb;exact okT _
   ·have z':=(if_neg hb).symm.trans z;cases z'
  ·by_cases hb:b=T
   ·exact .inl hb
   ·exact absurd (if_neg hb) z
 | none =>
  have hTn : (fun b => if b = T then some (.tbl #[]) else if b = a then some (.frz { cls := .type "list", data := .seq vs.toArray } (.lst (ns.map V.int))) else none : Hp) a = some (.frz { cls := .type "list", data := .seq vs.toArray } (.lst (ns.map V.int))) := by
   show (if a=T then _ else if a=a then _ else _)=_;rw[if_neg aT,if_pos rfl]
  refine core (fun b => if b = T then some (.tbl #[]) else if b = a then some (.frz { cls := .type "list", data := .seq vs.toArray } (.lst (ns.map V.int))) else none) (if_pos rfl) (.inl (.inr ⟨{ cls := .type "list", data := .seq vs.toArray }, hTn⟩)) (fun b u z => ?_) (fun b z => ?_)
  ·by_cases hb:b=T
   ·have z':=(if_pos hb).symm.trans z;cases z';subst hb;exact okT _
   ·have z1:=(if_neg hb).symm.trans z;by_cases hb2:b=a
    ·have z':=(if_pos hb2).symm.trans z1;cases z';subst hb2;exact ⟨ha,by rw[xbc];exact hl,vs,_,rv,ha⟩
    ·have z':=(if_neg hb2).symm.trans z1;cases z'
  ·by_cases hb:b=T
   ·exact .inl hb
   ·by_cases hb2:b=a
    ·exact .inr ⟨hb2,hk,_,_,hTn⟩
    ·exact absurd ((if_neg hb).trans (if_neg hb2)) z
structure LawTab (K:Fg) (ts:List Addr) (c T:Addr):Prop where
 tin : PySem.W.tabIn K "law" = some (c, T)
 hd:PySem.W.codeHdIn K c T=true
 mem:T∈ts
 out:K.lookup T=none
theorem zri {K : Fg} {ts : List Addr} {f c T : Addr} {oc oc2 : Value} {od od2 : Option Addr} {fd : FuncData} {sl sl2 : Array (Option Value)} {vs : Array Value} (a : PySem.W.nsIn K mainGlobals "law" = some (some (.ref f))) (l : K.lookup f = some ⟨oc, od, .func fd, sl⟩) (hc : fd.code = .ref c) (lc : K.lookup c = some ⟨oc2, od2, .fields vs, sl2⟩) (hv : vs[11]? = some (.ref T))
  (hd:PySem.W.codeHdIn K c T=true) (mem:T∈ts) (out:K.lookup T=none):LawTab K ts c T/\fd.code=.ref c:=by
 refine ⟨⟨?_,hd,mem,out⟩,hc⟩;unfold PySem.W.tabIn;rw[a];dsimp only;rw[l];dsimp only;rw[hc];dsimp only;rw[lc];dsimp only;rw[hv]
theorem ztp {l:PySem.W.OpenLaw} {n k:Nat} {q:Program} {loose:List Str} {XP:(Str->Option Value)->Heap->Prop} {YP:World->Heap->Prop} {d:DefRec} {K:Params->Fg} {ts:List Addr} {sp:Fg->Addr->Sp} {x:Str}
  (hn:l.most=some n) (hn2:n<=sizeLine) (hdf:d.params.defaults=[]) (hr:Room k callerA)
  (hY:∀(w:World) (h:Heap),YP w h->(K w.params).In h) (hts:∀(w:World) (h:Heap),YP w h->∀P∈ts,h.get? P=some (PySem.W.tabObj #[]))
  (F:∀(w:World) (mg:Str->Option Value) (fa:Addr) (h:Heap),(K w.params).In h->h.Ns mainGlobals mg->mg d.name=some (.ref fa) ->
   ∃(c T:Addr) (fd:FuncData),LawTab (K w.params) ts c T/\(∀(s:Shared) (u:Value),BindsTo s fd ⟨[u],[]⟩ [(x,u)]) /\
    ∀base:Heap,(K w.params).In base->base.Ns mainGlobals mg->PySem.W.CodeHd base c T->BmOk mg base->FnOk l.prog w (K w.params) mg base CX0 k fa fd [x] (sp (K w.params) T))
  (hsp : ∀ (K : Fg) (c T : Addr) (H : Hp) (a : Addr) (ns : List Int), PySem.W.tabIn K "law" = some (c, T) -> ns.length <= n -> H T = some (.tbl #[]) -> SqL K H a (ns.map V.int) -> sp K T [.ref a] H (fun v _ => v = .bl true) fun _ _ _ => False) :
  PySem.W.WalkO q loose XP YP l.row.toRowW d [] (fun f vs=>PySem.call f vs):=by
 refine Att.attach_call hn hdf fun w s₀ s₁ mg mb fa o pm cd doc a vs ns G Y ho hd hcd hmg hobj hints hlen hg=>?_
 have KX:=hY w _ Y;obtain ⟨c,T,fd,LT,hb,hF⟩:=F w mg fa _ KX G.T.g hmg;exact zrj KX G.T.g G.T.b G.T.builtins G.T.nolimit hg hobj hints (xbb hlen hn2) hr (PySem.W.codeHd_of_K KX LT.hd) (hts w _ Y T LT.mem) LT.out G.T.bmain hF hb (fun H hT hS=>hsp _ c T H a ns LT.tin hlen hT hS)
end L2
namespace Dd
open PySem L2 PyProof.Rows
noncomputable def spLawT (K : Fg) (T : Addr) : Sp := fun vs H Q _ => ∃ (a : Addr) (ns : List Int), vs = [.ref a] /\ SqL K H a (ns.map V.int) /\ ns.length <= 63 /\ H T = some (.tbl #[]) /\ (∃ c, PySem.W.tabIn K "law" = some (c, T)) /\ ∀ H', Q (.bl true) H'
theorem zyy {P : Program} {w : World} {K : Fg} {mg : Str -> Option Value} {base : Heap} {st : Stmt} {N ps : List Str} {k : Nat} {b : SS} {f T : Addr} {fd : FuncData} (F : Fun K "law" "law" st f fd) (S : FnScope N ps (defScope st)) (hp : ps.length = 1)
  (hbody : ∀ (cdv : Value) (A : Around) (outer : List Env) (s : Shared) (H : Hp) (E : XK), fd.code = cdv -> Room k (A.deeper (envOfC "law" (defScope st) s.heap.objs.size f cdv)) ->
   JB (cxOf CX0 P w K mg base N "law" (defScope st) f cdv A outer s H E).nox (defBody st) b)
  (holds:∀ns:List Int,ns.length<=63->∃st',fnD N.length 1 b [.scr (ns.map .int)] [.tab]=.ok (.bl true) st'):FnOk P w K mg base CX0 (k+1) f fd ps (spLawT K T):=by
 obtain ⟨oc,od,kV,doc,pm,an,cdv,ct,osl,rfl,lk,hcd⟩:=F.ex;refine zbec lk hcd S (fun vs H Q E hh=>?_) fun A outer s H vs Q E hr hh=>⟨_,(hbody cdv A outer s H E rfl hr).out.nox,?_⟩
 ·obtain ⟨a,ns,rfl,_⟩:=hh;exact hp.symm
 ·obtain ⟨a,ns,rfl,hS,hl,hT,⟨c,ht⟩,q⟩:=hh;obtain ⟨st',e⟩:=holds ns hl;refine zbaz (np:=1) (E:=E) ⟨⟨[some T],[]⟩,[.scr (ns.map .int)],[.tab],_,st',.cons (.scr ?_ (zhr ns)) .nil,⟨rfl,fun n m a e1 e2=>?_,fun n a o e1 e2=>?_,fun a h=>(by cases h),fun n o e1 _=>?_⟩,e,rfl,fun ρ' H' u x r t=>?_⟩
  ·rcases hS with h | h
   ·refine .inl ⟨h,?_,by simp⟩;intro z;have z':a=T:=xbw (xbo.mp z);subst z';rcases h with h | ⟨o,h⟩<;>(rw[hT] at h;cases h)
   ·exact .inr fun H'=>.inr h
  ·cases n with
   | zero=>cases m with
    | zero=>rfl
    | succ m=>cases e2
   | succ n=>cases e1
  ·cases n with
   | zero =>
    cases e1;cases e2
    exact ⟨⟨c,ht⟩,#[],hT,trivial,fun pos cv z=>by cases z⟩
   | succ n=>cases e1
  ·cases n with
   | zero=>exact ⟨T,rfl⟩
   | succ n=>cases e1
  ·cases t;exact q H'
structure JR (X:Cx) (f:Addr) (σL:DS) (τL:L2.St) (s:Stmt) (b:SS):Prop where out:PS X s (tRef X.K f σL τL b)
structure JRB (X:Cx) (f:Addr) (σL:DS) (τL:L2.St) (s:List Stmt) (b:SS):Prop where out:PSs X s (tRef X.K f σL τL b)
section
variable {X:Cx} {R:RXT} {f:Addr} {σL:DS} {τL:L2.St} {g:SE} {x n y:Str} {p pos pos2 xp hp:Pos} {B:Addr} {i:Nat} {cs:List Str} {b0:Stmt} {suite rest:List Stmt} {u t:SS}
theorem zbev {tp:Pos} {G:Store->Res D} (hc:X.calm=true) (st0:X.stack=X.env::X.outer) (fr:X.env.frame=some X.env.locals) (hN:X.N.Nodup) (hi:X.N[i]?=some n) (hn:X.env.kindOf n=some .local) (hg:Gl X y) (hB:PySem.W.nsIn X.K mainGlobals y=some (some (.ref B)))
 (hcs:∀c∈cs,∀C,PySem.W.nsIn X.K mainGlobals c=some (some (.ref C))->PySem.W.exmOne X.K (.ref C) (.ref B)=some true) (T:∀E pn,Thk (X.tryc E pn) f τL g) (hG:g σL=G) (hv:∀E pn,PE (X.tryc E pn) (.Name x p) (tVar 0))
 (hs : ∀ e, JB (X.caught e) (b0 :: suite) u) (hd : (y == ("__debug__" : Str)) = false := by decide) (hsw : swapsWith (.Call (.Name x p) [] [] pos) none pos2.line X.env = pure false := by rfl) :
 JR X f σL τL (.Try [.Expr (.Call (.Name x p) [] [] pos) pos2] [.ExceptHandler (some (.Name y xp)) (some n) (b0::suite) hp] [] [] tp) (sTry i cs (sDrop fun _=>G) u):=⟨by subst hG;exact zxm hc st0 fr hN hi hn hg hB hcs T hv hs hd hsw⟩
theorem zbew {tr:Stmt} {s:SS} (h1:JR X f σL τL tr s) (h2:JB X rest t):JRB X f σL τL (tr::rest) (sSeq s t):=⟨zxk h1.out h2⟩
end
noncomputable def CalT (P:Program) (w:World) (K:Fg) (mg:Str->Option Value) (base:Heap) (y:Str) (k:Nat) (F:(Store->Res D)->DFn):Prop :=
 ∃(fr:Addr) (fdR:FuncData) (stR:Stmt) (N:List Str) (x:Str) (b:(Store->Res D)->SS),(F=fun g=>fnD N.length 1 (b g))/\mg y=some (.ref fr)/\Fun K y y stR fr fdR/\FnScope N [x] (defScope stR) /\
  (∀(kV doc pm:Value) (an:Option Addr) (cdv ct:Value) (us:List Value),us.length=[x].length->bindArgs (PySem.W.fnOf y y (defArgs stR) (defBody stR) (defScope stR) .none kV doc pm an cdv ct) ⟨us,[]⟩=pure ([x].zip us)) /\
  ∀(cdv:Value) (A:Around) (outer:List Env) (s:Shared) (H:Hp) (E:XK) (f:Addr) (σL:DS) (τL:L2.St) (g:SE),Room (k+1) (A.deeper (envOfC y (defScope stR) s.heap.objs.size fr cdv)) ->
   (∀E' pn,Thk ((cxOf CX0 P w K mg base N y (defScope stR) fr cdv A outer s H E).nox.tryc E' pn) f τL g)->PSs (cxOf CX0 P w K mg base N y (defScope stR) fr cdv A outer s H E).nox (defBody stR) (tRef K f σL τL (b (g σL)))
theorem zbav {P:Program} {w:World} {K:Fg} {mg:Str->Option Value} {base h:Heap} {y x:Str} {st:Stmt} {N:List Str} {k:Nat} {b:(Store->Res D)->SS} (T:TopF K y st) (X:K.In h) (G:h.Ns mainGlobals mg) (S:FnScope N [x] (defScope st))
  (bd:∀(kV doc pm:Value) (an:Option Addr) (cdv ct:Value) (us:List Value),us.length=[x].length->bindArgs (PySem.W.fnOf y y (defArgs st) (defBody st) (defScope st) .none kV doc pm an cdv ct) ⟨us,[]⟩=pure ([x].zip us))
  (hbody:∀(fr:Addr) (cdv:Value) (A:Around) (outer:List Env) (s:Shared) (H:Hp) (E:XK) (f:Addr) (σL:DS) (τL:L2.St) (g:SE) (G:Store->Res D),g σL=G->Room (k+1) (A.deeper (envOfC y (defScope st) s.heap.objs.size fr cdv)) ->
   (∀E' pn,Thk ((cxOf CX0 P w K mg base N y (defScope st) fr cdv A outer s H E).nox.tryc E' pn) f τL g)->JRB (cxOf CX0 P w K mg base N y (defScope st) fr cdv A outer s H E).nox f σL τL (defBody st) (b G)):CalT P w K mg base y k (fun g=>fnD N.length 1 (b g)):=by
 obtain ⟨f,fd,a,F⟩:=T;exact ⟨f,fd,st,N,x,b,rfl,xcq X G a,F,S,bd,fun cdv A outer s H E f' σL τL g hr t=>(hbody f cdv A outer s H E f' σL τL g _ rfl hr t).out⟩
theorem zpc {X : Cx} {y : Str} {p pos lp : Pos} {params : Arguments} {body : Expr} {scope : Scope} {NL : List Str} {is : List Nat} {c T : Addr} {k : Nat} {lam : SE} {F : (Store -> Res D) -> DFn} (cal : CalT X.prog X.w X.K X.mg X.base y k F) (C : PySem.W.CodeHd X.base c T) (ht : PySem.W.tabIn X.K "law" = some (c, T)) (Bm : BmOk X.mg X.base) (hcode : X.env.code = .ref c) (hqu : X.env.qual ++ "<lambda>" = lamQ) (hg : Gl X y)
  (hr : Room (k + 2) X.A) (hdef : defaultsOf params X.env = ([], [])) (S : CompScope X NL 0 is scope) (SL : LamScope scope) (hb : ∀ cl pm cd ct, bindArgs (PySem.W.kla_fn "<lambda>" lamQ params body scope cl pm cd ct) ⟨[], []⟩ = pure [])
  (hlam:∀f cd cl A outer s H E,Room k (A.deeper (PySem.W.envX lamQ scope s.heap.objs.size f cd cl))->JX (cxL X.prog X.w X.K X.mg X.base NL lamQ scope f cd cl A outer s H E) (fun _ c dx H=>E c dx H) body lam)
  (hdb : (y == ("__debug__" : Str)) = false := by decide) (he : starEach [.Lambda params body scope lp] X.env = (false, eval (.Lambda params body scope lp) X.env) :: starEach [] X.env := by rfl) (hpl : (backTo pos (starEach [] X.env)).any (·.1) = false := by rfl) :
  JE X (.Call (.Name y p) [.Lambda params body scope lp] [] pos) (eRefd F is lam):=by
 obtain ⟨fr,fdR,stR,N,x,b,rfl,hm,FF,SF,bd,hbody⟩:=cal;exact zbag C ht Bm hcode hqu hg hm FF SF bd hr hdef S SL hb hbody hlam hdb he hpl
section
variable {K:Fg} {cv:Value}
theorem zqd:∀q∈([]:List (Str × Bool)),∀C,PySem.W.nsIn K mainGlobals q.1=some (some (.ref C))->ErrLook K C/\PySem.W.kitOne K (.ref C) cv=some q.2:=fun _ h=>nomatch h
theorem zkn {c:Str} {b:Bool} {r:List (Str × Bool)} {C0:Addr} (n:PySem.W.nsIn K mainGlobals c=some (some (.ref C0))) (l:ErrLook K C0) (i:PySem.W.kitOne K (.ref C0) cv=some b) (t:∀q∈r,∀C,PySem.W.nsIn K mainGlobals q.1=some (some (.ref C))->ErrLook K C/\PySem.W.kitOne K (.ref C) cv=some q.2) :
  ∀q∈(c,b)::r,∀C,PySem.W.nsIn K mainGlobals q.1=some (some (.ref C))->ErrLook K C/\PySem.W.kitOne K (.ref C) cv=some q.2:=fun q hq C e=>by
 rcases xbt.mp hq with rfl | hq
 ·have z:=n.symm.trans e;cases z;exact ⟨l,i⟩
 ·exact t q hq C e
end
section
variable {X:Cx} {pos:Pos} {es:List Expr} {u:List D->DS->Option DS}
end
end Dd
namespace L2
open PySem PySem.Spec PyProof.Rows
section
variable {prog:Program} {w:World} {A:Around} {R:Result->Shared->Prop} {I:Addr} {fp wr:List Addr} {n:Nat} {P:Nat->Value->Prop} {St:Nat->Heap->Prop}
end
section
variable {prog:Program} {w:World} {A:Around} {E:Value->Shared->Prop} {s:Shared}
end
section
variable {X:Cx} {p pos cpos kpos:Pos} {l:Expr} {t:TA} {d:Int} {j:Nat}
end
section
variable {X:Cx}
end
end L2
namespace Dd
open PySem L2 PyProof.Rows
section
variable {X:Cx} {p pos cpos kpos:Pos} {l:Expr} {f:SA} {j:Nat}
end
end Dd
namespace L2
open PySem PySem.Spec PyProof.Rows
section
variable {P:Program} {w:World} {A:Around} {E:Value->Shared->Prop} {s:Shared} {K:Fg} {C fI:Addr} {us:List Value}
end
section
variable {X:Cx} {C f:Addr} {fd:FuncData} {ps:List Str} {sp:Sp} {k:Nat} {x:Str} {p pos:Pos} {e:Expr} {es:List Expr} {t:TA}
end
section
variable {X:Cx} {pins:List (Addr × Obj)} {σ:St} {H:Hp} {s:Shared}
end
end L2
namespace L2
open PySem PySem.Spec PyProof.Rows Builtin Builtin.ObjectAttr
section
variable {P:Program} {w:World} {A:Around} {E:Value->Shared->Prop} {s:Shared} {K:Fg} {C fI ea:Addr} {v:Value}
end
end L2
namespace L2
open PySem PySem.Spec PyProof.Rows
section
variable {X:Cx} {pins:List (Addr × Obj)} {σ:St} {H:Hp} {s:Shared}
end
section
variable {P:Program} {w:World} {K:Fg} {mg:Str->Option Value} {base h:Heap} {C fI R:Addr} {xR qual:Str} {st:Stmt} {fd:FuncData}
end
section
variable {X:Cx}
end
section
variable {X:Cx} {e:Expr} {pos:Pos} {te:TE}
end
section
variable {P:Program} {w:World} {K:Fg} {mg:Str->Option Value} {base:Heap} {N:List Str} {qual:Str} {scope:Scope} {f:Addr} {cd:Value} {A:Around} {outer:List Env} {s₀:Shared} {H₀:Hp} {E:XK}
end
end L2
namespace Dd
open PySem L2 PyProof.Rows
section
variable {X:Cx} {R:RXT} {e:Expr} {es:List Expr} {f:SE} {g:SA} {sm:Stmt} {rest body:List Stmt} {s t:SS} {pos p:Pos} {x:Str}
end
section
variable {X:Cx} {R:RXT} {e:Expr} {es:List Expr} {f:SE} {g:SA} {sm:Stmt} {rest body:List Stmt} {s t:SS} {pos p:Pos} {x:Str}
end
end Dd
namespace L2
open PySem PySem.Spec PyProof.Rows
noncomputable def rIsbT (K:Fg) (xs:List V) (H:Hp) (Q:VK):Prop:=∃(a:Addr) (o:Obj) (C p:Addr) (Cs:List Addr) (b:Bool),xs=[.ref a,.ref p]/\SqT K H p (Cs.map V.ref)/\H a=some (.frz o HX)/\o.cls=.ref C/\ErrLook K C/\o.dict=none/\(∃vs,o.data=.fields vs)/\PySem.W.kitAny K (.ref C) (Cs.map Value.ref)=some b/\Q (.bl b) H
theorem zsh {X : Cx} : CallR X (.builtin "isinstance") (rIsbT X.K) := by
 intro pins s σ H xs us Q I r h;obtain ⟨a,o,C,p,Cs,b,rfl,hp,h1,h2,lk,h3,h4,e,q⟩:=h;obtain ⟨u,w',rfl,ru,rw'⟩:=vals2 r;cases (show w'=Value.ref p from rw');cases (show u=Value.ref a from ru);obtain ⟨its,rv,pt,_⟩:=I.tuple hp;rw[zhb rv] at pt;obtain ⟨⟨oc,od,odt,osl⟩,g1,g2,n,g3⟩:=pt;dsimp only at g2 g3;subst g2 g3;exact PySem.W.kia_tup (zol lk h3 h4 h2) I.kIn (I.hok a _ h1).1 g1 e (by intro z;cases z) fun tk=>⟨.bl b,H,I.tok tk,rfl,q⟩
noncomputable def tVs (vs:List V):TA:=fun _ H Q=>Q vs H
noncomputable def rMulL:R2:=fun x y H Q=>∃l xs n,x=.ref l/\y=.int n/\H l=some (.lst xs)/\xs≠[]/\0<=n/\n<=1000/\xs.length<=1000/\∀p,H p=none->Q (.ref p) (upd H p (.lst (timesL xs n)))
theorem zyi {X:Cx}:OpR X (binaryOp .Mult) rMulL:=by
 intro pins s σ H x y v u Q I r1 r2 h;obtain ⟨l,xs,n,rfl,rfl,hl,ne,lo,hi,hz,q⟩:=h;cases r1;obtain ⟨tk,rfl⟩:=r2;obtain ⟨z,its,m,r,e⟩:=(show ObjOk X.prog X.w H s.heap l (.lst xs) from I.hok l _ hl)
 have len:=r.length;have ne':¬ its.toArray.isEmpty=true:=by
  cases its with
  | nil=>cases r;exact absurd rfl ne
  | cons a l=>intro z;cases z
 have hm:its.toArray.size * n.toNat<=1000000:=by
  rw[xbp,← len];exact xbb (Nat.mul_le_mul hz (by lia:n.toNat<=1000)) (by decide)
 have h0:¬(!Builtin.List.listFitsIndex n)=true:=by
  simp[Builtin.List.listFitsIndex];lia
 have h1:¬its.toArray.size * n.toNat > (2 ^ 63 - 1) / 8:=by lia
 have h2:¬Builtin.List.listTooLong (its.toArray.size * n.toNat)=true:=by
  simp only[Builtin.List.listTooLong,xhn,xgz];lia
 have ef:List.foldl (fun (x1 x2:Array Value)=>x1++x2) #[] (List.replicate n.toNat its.toArray)=((List.replicate n.toNat its).flatten).toArray:=by
  have:=zis its n.toNat []
  simpa using this
 refine wpAny_binaryOp_repeat_ref (T := "list") (U := "int") (by decide) ⟨_, e, rfl⟩ (fun s' => typeIs_int s' n tk) noFill_list_mul F.fills_int_mul F.slot_int_rmul repeat_list F.slot_int_index.lookup
   (xjm F.slot_int_rmul (typeIs_int s n tk) F.entry_int_rmul (F.args_int_rmul_2 _ _) (int___rmul___int_list n tk l its.toArray m) ⟨e,rfl,⟨_,e,rfl⟩,?_⟩)
 refine xjm F.slot_list_mul ⟨_,e,rfl⟩ F.entry_list_mul (F.args_list_mul_2 _ _) (PySem.AutoListH.list___mul___list_int_3 l its.toArray m n tk h0 h1 h2) ⟨e,?_⟩;rw[if_neg ne',ef];have lenT:(timesL xs n).length=n.toNat * xs.length:=zkm xs n.toNat;have hsl:(timesL xs n).length<=sizeLine:=by
  rw[lenT,xhn,Nat.mul_comm,len,← xbp];lia
 exact ⟨.ref s.heap.objs.size,_,I.laid (t':=s.toks) (o:=.lst (timesL xs n)) (fun b ob hb=>xbg _ hb) (xbe _) ⟨hsl,_,0,r.times n.toNat,xcb _ rfl⟩,rfl,q _ (I.hok.fresh (xbe _))⟩
end L2
namespace Dd
open PySem L2 PyProof.Rows
structure JN (X:Cx) (es:List Expr) (Cs:List Addr):Prop where out:PA X es (tVs (Cs.map V.ref))
section
variable {X:Cx} {R:RXT} {e:Expr} {es:List Expr} {f:SE} {g:SA} {pos p:Pos} {x:Str}
theorem zbdt:JN X [] []:=⟨zhk⟩
theorem zdi {C:Addr} {Cs:List Addr} (h:PE X e (tC (.ref C))) (r:JN X es Cs) (hs:starEach (e::es) X.env=(false,eval e X.env)::starEach es X.env:=by rfl):JN X (e::es) (C::Cs):=⟨zds h r.out hs⟩
theorem zbds {K:Fg} {t:Value}:PySem.W.kitAny K t []=some false:=rfl
theorem zpq {K:Fg} {t c:Value} {cs:List Value} {b:Bool} (h:PySem.W.kitOne K t c=some false) (r:PySem.W.kitAny K t cs=some b):PySem.W.kitAny K t (c::cs)=some b:=by
 show (match PySem.W.kitOne K t c with | some true=>some true | some false=>PySem.W.kitAny K t cs | none=>none)=_;rw[h];exact r
theorem zbbx {K:Fg} {cs:List Value}:∀q∈([]:List (Str × Bool)),∀C,PySem.W.nsIn K mainGlobals q.1=some (some (.ref C))->ErrLook K C/\PySem.W.kitAny K (.ref C) cs=some q.2:=fun _ h=>nomatch h
theorem zwy {K:Fg} {cs:List Value} {c:Str} {b:Bool} {r:List (Str × Bool)} {C0:Addr} (n:PySem.W.nsIn K mainGlobals c=some (some (.ref C0))) (l:ErrLook K C0) (i:PySem.W.kitAny K (.ref C0) cs=some b) (t:∀q∈r,∀C,PySem.W.nsIn K mainGlobals q.1=some (some (.ref C))->ErrLook K C/\PySem.W.kitAny K (.ref C) cs=some q.2) :
  ∀q∈((c,b)::r),∀C,PySem.W.nsIn K mainGlobals q.1=some (some (.ref C))->ErrLook K C/\PySem.W.kitAny K (.ref C) cs=some q.2:=fun q h C hC=>by
 rcases xbt.mp h with rfl | h
 ·have:=hC.symm.trans n;cases this;exact ⟨l,i⟩
 ·exact t q h C hC
theorem zbaj {n : Str} {i : Nat} {tbl : List (Str × Bool)} {Cs : List Addr} {p1 p2 : Pos} {x1} (hg : Gl X "isinstance") (hm : X.mg "isinstance" = none) (hv : PE X (.Name n p1) (tVar i)) (hd : JN X es Cs) (hl : Cs.length <= sizeLine)
  (hk : ∀ q ∈ tbl, ∀ C, PySem.W.nsIn X.K mainGlobals q.1 = some (some (.ref C)) -> ErrLook X.K C /\ PySem.W.kitAny X.K (.ref C) (Cs.map Value.ref) = some q.2) : JE X (.Call (.Name "isinstance" p) [.Name n p1, .Tuple es x1 p2] [] pos) (eIsB i tbl) :=
 ⟨zef (zjn zsh hg hm zby (zds hv (zds (zya hd.out) zhk))) fun τ H Q hq0=>by
  obtain ⟨ρ,σ,st,v,st',a,rp,e,q⟩:=hq0;unfold eIsB at e;split at e
  ·next c hi =>
   split at e
   ·next b hb =>
    cases e;obtain ⟨u,h1,h2⟩:=a.get hi;cases h2 with
    | exn h2 =>
     obtain ⟨C,o,h3,h4,h5,h6,h7⟩:=h2;obtain ⟨lk,e1⟩:=hk (c,b) (xdk hb) C h3;have hd0:o.dict=none:=by
      rcases h7 with ⟨_,z⟩ | ⟨_,_,_,z,_⟩
      ·exact z
      ·cases z
     refine ⟨_,h1,?_⟩;show (Cs.map V.ref).length<=sizeLine/\_;refine ⟨by rw[xbc];exact hl,fun p hp=>?_⟩;refine ⟨_,o,C,p,Cs,b,rfl,SqT.of zi,?_,h5,lk,hd0,(let ⟨vs,q,_⟩:=h6;⟨vs,q⟩),e1,q _ _ _ (Ext.new hp _) (rp.new hp _) (.bl b)⟩;rw[zh (ze h4.1 hp)];exact h4.1
   ·cases e
  ·cases e⟩
noncomputable def oMulL (x y:D) (st:Store):Res D:=match x,y with
 | .lst xs,.int n=>if xs≠[]/\0<=n/\n<=1000/\xs.length<=1000 then .ok (.lst (timesL xs n)) st else .stuck
 | _,_=>.stuck
theorem zyq {K:Fg}:OpD K oMulL rMulL:=fun ρ H st x y u v z st' Q rp a b e q=>by
 unfold oMulL at e;split at e
 ·rename_i xs n;split at e
  ·rename_i hs;cases e;cases b;cases a with
   | lst h1 h2 h3 =>
    have hl:=h3.length;refine ⟨_,_,n,rfl,rfl,h1,fun z=>?_,hs.2.1,hs.2.2.1,by rw[hl];exact hs.2.2.2,fun p hp=>?_⟩
    ·subst z;cases h3;exact hs.1 rfl
    ·exact q _ _ _ (Ext.new hp _) (rp.new hp _) (.newL rp hp (h3.times n.toNat))
  ·cases e
 ·cases e
noncomputable def tZ (K:Fg) (R:RXT) (f:SE):TE:=fun τ H _=>∃ρ σ st x st',AtS K ρ H σ τ/\Rep K ρ st H/\f σ st=.exc x st'/\XOk K ρ H st' x (R τ)
noncomputable def tZA (K:Fg) (R:RXT) (f:SE):TA:=fun τ H _=>∃ρ σ st x st',AtS K ρ H σ τ/\Rep K ρ st H/\f σ st=.exc x st'/\XOk K ρ H st' x (R τ)
structure JZ (X:Cx) (R:RXT) (e:Expr) (f:SE):Prop where out:PE X e (tZ X.K R f)
structure JZA (X:Cx) (R:RXT) (es:List Expr) (f:SE):Prop where out:PA X es (tZA X.K R f)
noncomputable def onlyX {α:Type} (f:DS->Store->Res α):DS->Store->Res α:=fun σ st=>match f σ st with
 | .exc x st'=>.exc x st'
 | _=>.stuck
theorem zqr {α:Type} {f:DS->Store->Res α} {σ:DS} {st st':Store} {x:Exc} (h:onlyX f σ st=.exc x st'):f σ st=.exc x st':=by
 unfold onlyX at h;split at h
 ·cases h;assumption
 ·cases h
theorem zuo {α:Type} {f:DS->Store->Res α} {σ:DS} {st st':Store} {v:α} (h:onlyX f σ st=.ok v st'):False:=by
 unfold onlyX at h;split at h<;>cases h
theorem zbej (h:JX X R e f):JZ X R e f:=⟨zef h.out fun τ H Q ⟨ρ,σ,st,x,st',a,rp,e1,q⟩=>⟨ρ,σ,st,a,rp,.inr ⟨x,st',e1,q⟩⟩⟩
theorem dx_z (h:JZ X R e f):JX X R e (onlyX f):=⟨zef h.out fun τ H Q hq0=>by
 obtain ⟨ρ,σ,st,a,rp,q⟩:=hq0;rcases q with ⟨v,st',e1,_⟩ | ⟨x,st',e1,q⟩
 ·exact (zuo e1).elim
 ·exact ⟨ρ,σ,st,x,st',a,rp,zqr e1,q⟩⟩
theorem zhv {t:TA} (h:JZ X R e f) (hr:PA X es t) (hs:starEach (e::es) X.env=(false,eval e X.env)::starEach es X.env:=by rfl):JZA X R (e::es) f:=⟨zbbi (zds h.out hr hs) fun τ H Q h=>h⟩
noncomputable def zArg (g f:SE):SE:=fun σ st=>(noX g σ st).bind fun _ st1=>f σ st1
theorem zop {g:SE} (h:JE X e g) (hr:JZA X R es f) (hs:starEach (e::es) X.env=(false,eval e X.env)::starEach es X.env:=by rfl):JZA X R (e::es) (zArg g f):=⟨zbbi (zds h.out hr.out hs) fun τ H Q hq0=>by
 obtain ⟨ρ,σ,st,x,st',a,rp,e1,q⟩:=hq0;obtain ⟨v,st1,e2,e3⟩:=zec e1
 exact ⟨ρ,σ,st,v,st1,a,rp,e2,fun ρ1 H1 u x1 rp1 a1=>⟨ρ1,σ,st1,x,st',a.ext x1,rp1,e3,q.ext x1⟩⟩⟩
noncomputable def HasFn (K:Fg) (mg:Str->Option Value) (x:Str):Prop:=∃f,PySem.W.keepIn K (.ref f)=true/\mg x=some (.ref f)
theorem zjw {K:Fg} {mg:Str->Option Value} {h:Heap} {st:Stmt} (T:TopF K x st) (XX:K.In h) (G:h.Ns mainGlobals mg):HasFn K mg x:=by
 obtain ⟨f,fd,a,F⟩:=T;exact ⟨f,F.kp,xcq XX G a⟩
theorem zoq (c : HasFn X.K X.mg x) (hg : Gl X x) (ha : JZA X R (e :: es) f) (hdb : (x == ("__debug__" : Str)) = false := by decide)
  (he:starEach (e::es) X.env=(false,eval e X.env)::starEach es X.env:=by rfl) (hpl:(backTo pos (starEach es X.env)).any (·.1)=false:=by rfl):JZ X R (.Call (.Name x p) (e::es) [] pos) f:=by
 obtain ⟨fa,kp,m⟩:=c;refine ⟨fun pins s τ H Q I h=>?_⟩;refine xef (zgu I hg m ?_ hdb);exact xhx (h₀:=X.base) I.ok.mod.kin kp (thn (ha.out pos pins s τ H (fun _ _=>False) I h) fun us s1 ⟨vs,H1,I1,r,z⟩=>z.elim) he hpl
theorem zvg {id : String} (hg : Gl X x) (hm : X.mg x = none) (hv : bootBuiltins x = some (.builtin id)) (ha : JZA X R (e :: es) f) (hn : x ≠ "__name__" := by decide) (hdb : (x == ("__debug__" : Str)) = false := by decide)
  (he:starEach (e::es) X.env=(false,eval e X.env)::starEach es X.env:=by rfl) (hpl:(backTo pos (starEach es X.env)).any (·.1)=false:=by rfl):JZ X R (.Call (.Name x p) (e::es) [] pos) f:=by
 refine ⟨fun pins s τ H Q I h=>?_⟩;refine xef (zmk I hg hm hv ?_ hn hdb);exact xjf (thn (ha.out pos pins s τ H (fun _ _=>False) I h) fun us s1 ⟨vs,H1,I1,r1,z⟩=>z.elim) he hpl
theorem zbei {op:Operator} {b:Expr} (ha:JZ X R e f):JZ X R (.BinOp e op b pos) f:=⟨fun pins s τ H Q I h=>wpAny_BinOp (thn (ha.out pins s τ H (fun _ _=>False) I h) fun v s1 ⟨x,H1,I1,r1,z⟩=>z.elim)⟩
theorem zzp {op:CmpOp} {b:Expr} (ha:JZ X R e f) (hm:behindInMarks op b=false):JZ X R (.Compare e [op] [b] pos) f:=⟨fun pins s τ H Q I h=>wpAny_Compare1 (thn (ha.out pins s τ H (fun _ _=>False) I h) fun v s1 ⟨x,H1,I1,r1,z⟩=>z.elim) hm⟩
theorem zrs {sm:List Stmt}:JXB X R sm sStuck:=⟨fun pins s τ H E I hq0=>by
 obtain ⟨ρ,σ,st,a,rp,q⟩:=hq0
 rcases q with ⟨_,_,z,_⟩ | ⟨_,_,z,_⟩<;>cases z⟩
end
end Dd
namespace Dd
open PySem L2
noncomputable def zdd:DFn:=fnD 5 2 (sSeq (sSet 2 (eC (.int 0)))
 (sSeq (sIf (eB (eOp oLtT (eVar 1) (eCall bLen (aCons (eVar 0) aNil)))) (sSet 2 (eCall bAbs (aCons (eOp oIx (eVar 0) (eVar 1)) aNil))) sNx)
 (sSeq (sSet 3 (eOp oAdd (eOp oMulI (eC (.int 7919)) (eVar 1)) (eC (.int 17))))
 (sSeq (sFor (iR1 (aCons (eCall bMin2 (aCons (eCall bLen (aCons (eVar 0) aNil)) (aCons (eC (.int 60)) aNil))) aNil)) (gN 4) (sSet 3 (eOp oMod (eOp oAdd (eOp oAdd (eOp oMulI (eVar 3) (eC (.int 48271))) (eOp oMod (eOp oIx (eVar 0) (eVar 4)) (eC (.int 2147483647)))) (eVar 4)) (eC (.int 2147483629)))))
 (sSeq (sIf (eB (eOp oLtT (eVar 2) (eOp oPow (eC (.int 10)) (eC (.int 18))))) (sSet 2 (eC (.int 0))) sNx)
 (sRet (eLstM (aCons (eVar 2) (aCons (eVar 3) aNil)))))))))
noncomputable def zn:DFn:=fnD 5 2 (sSeq (sIf (eB (eOp oGt (eOp oIx (eVar 0) (eC (.int 0))) (eC (.int 0)))) (sSeq (sSet 2 (eOp oMod (eOp oIx (eVar 0) (eC (.int 0))) (eVar 1)))
 (sSeq (sSetIx (eVar 0) (eC (.int 0)) (eOp oFdiv (eOp oIx (eVar 0) (eC (.int 0))) (eVar 1)))
 (sRet (eVar 2)))) sNx)
 (sSeq (sSet 3 (eC (.int 0)))
 (sSeq (sSet 4 (eC (.int 1)))
 (sSeq (sWhile (eB (eOp oLtT (eVar 4) (eVar 1))) (sSeq (sSetIx (eVar 0) (eC (.int 1)) (eOp oMod (eOp oAdd (eOp oMulI (eOp oIx (eVar 0) (eC (.int 1))) (eC (.int 48271))) (eC (.int 7919))) (eC (.int 2147483647))))
 (sSeq (sSet 3 (eOp oAdd (eOp oMulI (eVar 3) (eC (.int 1073741789))) (eOp oMod (eOp oMulI (eOp oFdiv (eOp oIx (eVar 0) (eC (.int 1))) (eC (.int 8))) (eC (.int 69621))) (eC (.int 1073741789)))))
 (sSet 4 (eOp oMulI (eVar 4) (eC (.int 1073741789)))))))
 (sRet (eOp oMod (eVar 3) (eVar 1)))))))
noncomputable def zms:DFn:=fnD 2 2 (sIf (eB (eOp (oDIn false) (eVar 1) (eVar 0))) (sDrop (eDPop (eVar 0) (eVar 1))) (sDPut (eVar 0) (eVar 1) (eC (.bl true))))
noncomputable def zdo:SS:=(sDPut (eVar 1) (eVar 2) (eNot (eDGet2 (eVar 1) (eVar 2) (eC (.bl false)))))
noncomputable def zcj:DFn:=fnD 3 1 (sSeq (sSet 1 eDNew)
 (sSeq (sFor (iSeq (eVar 0)) (gN 2) zdo)
 (sRet (eCall bTuple (aCons (eCall bSorted (aCons (eComp (iDict (eVar 1)) 1 [1] (gN 0) (eTru (eOp oDGet (eVar 1) (eVar 0))) (eVar 0)) aNil)) aNil)))))
noncomputable def zcz:DFn:=fnD 2 2 (sRet (eOp oEq (eOp oAndI (eVar 0) (eVar 1)) (eVar 1)))
noncomputable def zbj : DFn := fnD 1 1 (sRet (eAnd (eCall bIsinst (aCons (eVar 0) (aCons (eC (.ty "int")) aNil))) (eNot (eCall bIsinst (aCons (eVar 0) (aCons (eC (.ty "bool")) aNil))))))
noncomputable def zbw:SS:=(sSeq (sDrop (eAppend (eVar 4) (aCons (eCall zn (aCons (eVar 0) (aCons (eOp oAdd (eVar 3) (eC (.int 1))) aNil))) aNil)))
 (sSet 3 (eOp oSub (eVar 3) (eOp oIx (eVar 4) (eUn oNeg (eC (.int 1)))))))
noncomputable def zbp:DFn:=fnD 7 3 (sSeq (sSet 3 (eCall zn (aCons (eVar 0) (aCons (eOp oAdd (eVar 2) (eC (.int 1))) aNil))))
 (sSeq (sIf (eB (eOp oEq (eCall zn (aCons (eVar 0) (aCons (eC (.int 2)) aNil))) (eC (.int 0)))) (sSet 3 (eVar 2)) sNx)
 (sSeq (sSet 4 (eLstM aNil))
 (sSeq (sFor (iR1 (aCons (eOp oSub (eVar 1) (eC (.int 1))) aNil)) (gN 5) zbw)
 (sSeq (sDrop (eAppend (eVar 4) (aCons (eVar 3) aNil)))
 (sSeq (sSet 6 (eCall zn (aCons (eVar 0) (aCons (eVar 1) aNil))))
 (sRet (eCall bTuple (aCons (eOp oAdd (eSl (eVar 4) (pSome (eVar 6)) pNone) (eSl (eVar 4) pNone (pSome (eVar 6)))) aNil)))))))))
noncomputable def zed:DFn:=fnD 4 4 (sRet (eCall zcj (aCons (eComp (iR1 (aCons (eCall zn (aCons (eVar 0) (aCons (eOp oAdd (eVar 2) (eC (.int 1))) aNil))) aNil)) 1 [0,1,3] (gN 0) bYes (eCall zbp (aCons (eVar 1) (aCons (eVar 2) (aCons (eVar 3) aNil))))) aNil)))
noncomputable def zha:SS:=(sDrop (eCall zms (aCons (eVar 2) (aCons (eVar 4) aNil))))
noncomputable def zbi:SS:=(sIf (eTru (eCall zcz (aCons (eOp oSub (eVar 1) (eVar 6)) (aCons (eVar 6) aNil)))) (sDrop (eAppend (eVar 3) (aCons (eTup (aCons (eOp oAdd (eVar 4) (eTup (aCons (eOp oSub (eVar 1) (eVar 6)) aNil))) (aCons (eOp oSub (eVar 5) (eVar 6)) aNil))) aNil))) sNx)
noncomputable def zbz:SS:=(sFor (iR2 (aCons (eCall bMax2 (aCons (eC (.int 0)) (aCons (eOp oSub (eVar 5) (eVar 2)) aNil))) (aCons (eOp oAdd (eCall bMin2 (aCons (eOp oFdiv (eVar 1) (eC (.int 2))) (aCons (eVar 5) aNil))) (eC (.int 1))) aNil))) (gN 6) zbi)
noncomputable def zu:DFn:=fnD 7 3 (sSeq (sSet 3 (eLstM aNil))
 (sSeq (sFor (iSeq (eVar 0)) (gT 2 (gsCons (gN 4) (gsCons (gN 5) gsNil))) zbz)
 (sRet (eFz (eVar 3)))))
noncomputable def zbv:SS:=(sSeq (sAug 3 (oI (fun _ _=>True) fun i j=>.int (i - j)) (eOp oFdiv (eVar 4) (eC (.int 2))))
 (sSet 2 (eCall zu (aCons (eVar 2) (aCons (eVar 4) (aCons (eVar 3) aNil))))))
noncomputable def zt:DFn:=fnD 5 2 (sSeq (sSet 2 (eLst (aCons (eTup (aCons (eTup aNil) (aCons (eVar 1) aNil))) aNil)))
 (sSeq (sSet 3 (eCall bSum (aCons (eComp (iSeq (eVar 0)) 1 [] (gN 0) bYes (eOp oFdiv (eVar 0) (eC (.int 2)))) aNil)))
 (sSeq (sFor (iSeq (eVar 0)) (gN 4) zbv)
 (sRet (eComp (iSeq (eVar 2)) 2 [] (gT 2 (gsCons (gN 0) (gsCons (gN 1) gsNil))) bYes (eVar 0))))))
noncomputable def zdn:SS:=(sFor (iSeq (eCall zt (aCons (eVar 3) (aCons (eVar 1) aNil)))) (gN 4) zha)
noncomputable def zez:DFn:=fnD 5 2 (sSeq (sIf (bOr (bNot (eTru (eCall zbj (aCons (eVar 1) aNil)))) (eB (eOp oLtT (eVar 1) (eC (.int 0))))) sStuck sNx)
 (sSeq (sSet 2 eDNew)
 (sSeq (sFor (iSeq (eVar 0)) (gN 3) zdn)
 (sRet (eCall bTuple (aCons (eCall bSorted (aCons (eVar 2) aNil)) aNil))))))
noncomputable def zbh : DFn := fnD 5 2 (sSeq (sIf (noX (bOr (bNot (eTru (eCall zbj (aCons (eVar 1) aNil)))) (eB (eOp oLtT (eVar 1) (eC (.int 0)))))) (sRaise "NoPart" (noX (aCons (eC (.str "a row is lowered by a whole number from 0 on")) aNil))) (noX sNx))
 (noX (sSeq (sSet 2 eDNew)
 (sSeq (sFor (iSeq (eVar 0)) (gN 3) zdn)
 (sRet (eCall bTuple (aCons (eCall bSorted (aCons (eVar 2) aNil)) aNil)))))))
noncomputable def zk : DFn := fnD 1 1 (sSeq (sIf (noX (bOr (bNot (eTru (eCall zbj (aCons (eVar 0) aNil)))) (eB (eOp oLtT (eVar 0) (eC (.int 0)))))) (sRaise "NoPart" (noX (aCons (eC (.str "a degree is a whole number from 0 on")) aNil))) (noX sNx))
 (noX (sRet (eVar 0))))
noncomputable def zee:DFn:=fnD 2 2 (sRet (onlyX (eCall zk (noX (aCons (eVar 1) aNil)))))
noncomputable def zbf:DFn:=fnD 4 2 (sSeq (sSet 2 (onlyX (zArg (eVar 0) (zArg (eVar 0) (eCall zk (noX (aCons (eVar 1) aNil)))))))
 sStuck)
noncomputable def zbg:DFn:=fnD 2 2 (sRet (onlyX (eCall zbf (noX (aCons (eVar 0) (aCons (eVar 1) aNil))))))
noncomputable def zr : (Store -> Res D) -> SS := fun g => (sSeq (sTry 3 ["NoPart"] (sDrop fun _ => g) (sSeq (sSet 1 (eLst (aCons (eIsB 3 [("NoPart", true)]) (aCons (eIsB 3 [("NoPart", false)]) (aCons (eIsB 3 [("NoPart", false)]) aNil)))))
 (sSeq (sSet 2 (eIsB 3 [("NoPart", false)]))
 (sSeq (sIf (bOr (eTru (eVar 2)) (bOr (eB (eOp oNe (eCountB (eVar 1) (aCons (eC (.bl true)) aNil)) (eC (.int 1)))) (bNot (eTru (eIsB 3 [("NoPart", true)]))))) (sRet (eC (.str "another"))) sNx)
 (sRet (eOp oIx (eLst (aCons (eC (.str "part")) (aCons (eC (.str "many")) (aCons (eC (.str "unlike")) aNil)))) (eIndexB (eVar 1) (aCons (eC (.bl true)) aNil))))))))
 (sRet (eC (.str "told"))))
noncomputable def zm:(Store->Res D)->DFn:=fun g=>fnD 4 1 (zr g)
noncomputable def zpp:SS:=(sSeq (sSet 2 (eCall zdd (aCons (eVar 0) (aCons (eVar 1) aNil))))
 (sSeq (sSet 3 (eOp oAdd (eC (.int 1)) (eCall zn (aCons (eVar 2) (aCons (eC (.int 10)) aNil)))))
 (sSeq (sSet 4 (eCall zed (aCons (eVar 2) (aCons (eVar 3) (aCons (eC (.int 3)) (aCons (eC (.int 6)) aNil))))))
 (sSeq (sSet 5 (eLst (aCons (eUn oNeg (eC (.int 1))) (aCons (eOp oSub (eUn oNeg (eC (.int 1))) (eCall zn (aCons (eVar 2) (aCons (eOp oPow (eC (.int 10)) (eC (.int 39))) aNil)))) (aCons (eC (.bl true)) (aCons (eC (.bl false)) (aCons (eC .non) (aCons (eC (.str "1")) (aCons (eC (.str "")) (aCons (eTup (aCons (eC (.int 1)) aNil)) (aCons (eTup aNil) (aCons (eLst (aCons (eC (.int 1)) aNil)) (aCons (eLst aNil) (aCons (eTup (aCons (eTup aNil) aNil)) (aCons (eC (.str "a")) (aCons (eTup (aCons (eC .non) aNil)) aNil))))))))))))))))
 (sSeq (sSet 6 (eOp oIx (eVar 5) (eCall zn (aCons (eVar 2) (aCons (eC (.int 14)) aNil)))))
 (sSeq (sSet 7 (eLstM (aCons (eRefd zm [4,6] (eCall zbh (noX (aCons (eVar 0) (aCons (eVar 1) aNil))))) aNil)))
 (sSeq (sDrop (eAppend (eVar 7) (aCons (eRefd zm [3,6] (eCall zee (noX (aCons (eVar 0) (aCons (eVar 1) aNil))))) aNil)))
 (sSeq (sDrop (eAppend (eVar 7) (aCons (eRefd zm [3,6] (eCall zbg (noX (aCons (eVar 0) (aCons (eVar 1) aNil))))) aNil)))
 (sSeq (sDrop (eAppend (eVar 7) (aCons (eRefd zm [3,6] (eCall zbf (noX (aCons (eVar 0) (aCons (eVar 1) aNil))))) aNil)))
 (sIf (bOr (eB (eOp oNe (eVar 7) (eOp oMulL (eLst (aCons (eC (.str "part")) aNil)) (eC (.int 4))))) (eB (eOp oNe (eRefd zm [4] (eCall zbh (noX (aCons (eVar 0) (aCons (eC (.int 0)) aNil))))) (eC (.str "told"))))) (sRet (eC (.bl false))) sNx))))))))))
noncomputable def zbgh:DFn:=fnD 8 1 (sSeq (sFor (iR1 (aCons (eOp oAdd (eCall bMin2 (aCons (eC (.int 5)) (aCons (eCall bLen (aCons (eVar 0) aNil)) aNil))) (eC (.int 1))) aNil)) (gN 1) zpp)
 (sRet (eC (.bl true))))
noncomputable def RngOk (j:Int):Prop:=-(2 ^ 62)<=j/\j < 2 ^ 62
noncomputable instance (j:Int):Decidable (RngOk j):=by unfold RngOk;infer_instance
theorem rngOk {j:Int} (h1:-1000000000000<=j) (h2:j<=1000000000000):RngOk j:=⟨by lia,by lia⟩
section
variable {σ:DS} {st:Store}
@[simp] theorem eC_v {d:D}:eC d σ st=.ok d st:=rfl
@[simp] theorem zbed {i:Nat}:eVar i σ st=(match σ[i]? with
 | some (some d)=>.ok d st
 | _=>.stuck):=rfl
@[simp] theorem zbig {g:D->D->Store->Res D} {f f':SE}:eOp g f f' σ st=(f σ st).bind fun x st1=>(f' σ st1).bind fun y st2=>g x y st2:=rfl
@[simp] theorem zbje {g:D->Store->Res D} {f:SE}:eUn g f σ st=(f σ st).bind fun x st1=>g x st1:=rfl
@[simp] theorem ztc {g:List D->Store->Res D} {f:SA}:eCall g f σ st=(f σ st).bind fun xs st1=>g xs st1:=rfl
@[simp] theorem zbgf:aNil σ st=.ok [] st:=rfl
@[simp] theorem zpo {f:SE} {g:SA}:aCons f g σ st=(f σ st).bind fun x st1=>(g σ st1).bind fun xs st2=>.ok (x::xs) st2:=rfl
@[simp] theorem eB_v {f:SE}:eB f σ st=(f σ st).bind fun v st1=>(match v with
 | .bl b=>.ok b st1
 | _=>.stuck):=rfl
@[simp] theorem zzm {f:SE}:eTru f σ st=(f σ st).bind fun v st1=>(match tru st1 v with
 | some b=>.ok b st1
 | none=>.stuck):=rfl
@[simp] theorem zbeh {f f':SE}:eAnd f f' σ st=(f σ st).bind fun v st1=>(match v with
 | .bl true=>f' σ st1
 | .bl false=>.ok (.bl false) st1
 | _=>.stuck):=rfl
@[simp] theorem zbif {f f':SE}:eOr f f' σ st=(f σ st).bind fun v st1=>(match v with
 | .bl true=>.ok (.bl true) st1
 | .bl false=>f' σ st1
 | _=>.stuck):=rfl
@[simp] theorem zzn {f:SE}:eNot f σ st=(f σ st).bind fun v st1=>(match v with
 | .bl b=>.ok (.bl (!b)) st1
 | _=>.stuck):=rfl
@[simp] theorem zbgd {f f':ST}:bAnd f f' σ st=(f σ st).bind fun b st1=>if b=true then f' σ st1 else .ok false st1:=rfl
@[simp] theorem zbja {f f':ST}:bOr f f' σ st=(f σ st).bind fun b st1=>if b=true then .ok true st1 else f' σ st1:=rfl
@[simp] theorem zbjb {f:ST}:bNot f σ st=(f σ st).bind fun b st1=>.ok (!b) st1:=rfl
@[simp] theorem zbiz:bYes σ st=.ok true st:=rfl
@[simp] theorem zbih {c:ST} {f f':SE}:eIf c f f' σ st=(c σ st).bind fun b st1=>if b=true then f σ st1 else f' σ st1:=rfl
@[simp] theorem zbee {g:SA}:eTup g σ st=(g σ st).bind fun xs st1=>if xs.length<=sizeLine then .ok (.tup xs) st1 else .stuck:=rfl
@[simp] theorem zbef {g:SA}:eLst g σ st=(g σ st).bind fun xs st1=>if xs.length<=sizeLine then .ok (.lst xs) st1 else .stuck:=rfl
@[simp] theorem zzo {g:SA}:eLstM g σ st=(g σ st).bind fun xs st1=>if xs.length<=sizeLine then .ok (.ref st1.length) (st1++[.lst xs]) else .stuck:=rfl
@[simp] theorem zbeg {g g':D->D->Store->Res D} {f f' f'':SE}:eChain g g' f f' f'' σ st=(f σ st).bind fun x st1=>(f' σ st1).bind fun y st2=>(g x y st2).bind fun z st3=>(match z with
 | .bl true=>(f'' σ st3).bind fun w st4=>g' y w st4
 | .bl false=>.ok (.bl false) st3
 | _=>.stuck):=rfl
@[simp] theorem zbhb:eDNew σ st=.ok (.ref st.length) (st++[.dT []]):=rfl
@[simp] theorem zbjd:sNx σ st=.ok (.nx σ) st:=rfl
@[simp] theorem zbhm:sBrk σ st=.ok (.brk σ) st:=rfl
@[simp] theorem zbce {f:SE}:sRet f σ st=(f σ st).bind fun v st1=>.ok (.ret v) st1:=rfl
@[simp] theorem zbgm:sRetN σ st=.ok (.ret .non) st:=rfl
@[simp] theorem zbgn {f:SE}:sDrop f σ st=(f σ st).bind fun _ st1=>.ok (.nx σ) st1:=rfl
@[simp] theorem zbhj {i:Nat} {f:SE}:sSet i f σ st=(f σ st).bind fun v st1=>.ok (.nx (σ.set i (some v))) st1:=rfl
@[simp] theorem zbcd {s t:SS}:sSeq s t σ st=(match s σ st with
 | .ok (.nx σ1) st1=>t σ1 st1
 | r=>r):=rfl
@[simp] theorem zbhk {c:ST} {s t:SS}:sIf c s t σ st=(c σ st).bind fun b st1=>if b=true then s σ st1 else t σ st1:=rfl
@[simp] theorem zbcg {i:Nat} {g:D->D->Store->Res D} {f:SE}:sAug i g f σ st=(match σ[i]? with
 | some (some x)=>(f σ st).bind fun y st1=>(g x y st1).bind fun z st2=>.ok (.nx (σ.set i (some z))) st2
 | _=>.stuck):=rfl
@[simp] theorem zbhl {it:SA} {bd:SG} {body:SS}:sFor it bd body σ st=(it σ st).bind fun xs st1=>forF bd body xs σ st1:=rfl
@[simp] theorem zbdz {f:SE}:iSeq f σ st=(f σ st).bind fun x st1=>(match seqV x with
 | some xs=>.ok xs st1
 | none=>.stuck):=rfl
@[simp] theorem zbid {g:SA}:iR1 g σ st=(g σ st).bind fun xs st1=>(match xs with
 | [.int j]=>if RngOk j then .ok (rng 0 j.toNat) st1 else .stuck
 | _=>.stuck):=rfl
@[simp] theorem zbic {g : SA} : iR2 g σ st = (g σ st).bind fun xs st1 => (match xs with
  | [.int i, .int j] => if RngOk i /\ RngOk j then .ok (rng i (j - i).toNat) st1 else .stuck
  | _ => .stuck) := by
  show (g σ st).bind _ = _
  congr 1
  funext xs st1
  split
  · unfold RngOk
    simp only [and_assoc]
  · rename_i h
    first
      | rfl
      | (split
         · rename_i i j
           exact absurd rfl (h i j)
         · rfl)
@[simp] theorem zbgx {f:SE}:iDict f σ st=(f σ st).bind fun x st1=>(match x with
 | .ref n=>(match st1[n]? with
  | some (.dT kvs)=>.ok (rowsD (kvs.map (·.1))) (st1.set n (.fT kvs))
  | _=>.stuck)
 | _=>.stuck):=rfl
@[simp] theorem ztb {it:SA} {k:Nat} {is:List Nat} {bd:SG} {c:ST} {f:SE}:eComp it k is bd c f σ st=(it σ st).bind fun xs st1=>if xs.length<=sizeLine then (compF bd c f xs (startD k is σ) st1).bind fun ys st2=>.ok (.lst ys) st2 else .stuck:=rfl
@[simp] theorem zbii {f:SE}:eFz f σ st=(f σ st).bind fun x st1=>(match x with
 | .ref n=>(match st1[n]? with
  | some (.lst xs)=>.ok (.lst xs) (st1.set n .dead)
  | _=>.stuck)
 | _=>.stuck):=rfl
@[simp] theorem zbgs:pNone σ st=.ok none st:=rfl
@[simp] theorem zyg {f:SE}:pSome f σ st=(f σ st).bind fun v st1=>(match v with
 | .int i=>.ok (some i) st1
 | _=>.stuck):=rfl
@[simp] theorem zbie {f:SE} {lo hi:DS->Store->Res (Option Int)}:eSl f lo hi σ st=(f σ st).bind fun x st1=>(lo σ st1).bind fun l st2=>(hi σ st2).bind fun h st3=>(match x with
 | .tup xs=>.ok (.tup (cutD xs l h)) st3
 | x=>match asL st3 x with
  | some xs=>.ok (.lst (cutD xs l h)) st3
  | none=>.stuck):=rfl
@[simp] theorem zrr {f:SE} {g:SA}:eAppend f g σ st=(f σ st).bind fun x st1=>(match x,asL st1 x with
 | .ref n,some _=>(g σ st1).bind fun ys st2=>(match ys,st2[n]? with
  | [y],some (.lst xs)=>if xs.length < sizeLine then .ok .non (st2.set n (.lst (xs++[y]))) else .stuck
  | _,_=>.stuck)
 | _,_=>.stuck):=rfl
@[simp] theorem zbbn {f:SE} {g:SA}:eExtend f g σ st=(f σ st).bind fun x st1=>(match x,asL st1 x with
 | .ref n,some _=>(g σ st1).bind fun ys st2=>(match ys,st2[n]? with
  | [y],some (.lst xs)=>(match asL st2 y with
   | some zs=>if xs.length+zs.length<=sizeLine then .ok .non (st2.set n (.lst (xs++zs))) else .stuck
   | none=>.stuck)
  | _,_=>.stuck)
 | _,_=>.stuck):=rfl
@[simp] theorem ztx {f g h:SE}:sSetIx f g h σ st=(h σ st).bind fun v st1=>(f σ st1).bind fun x st2=>(g σ st2).bind fun y st3=>(match x,y with
 | .ref n,.int k=>(match st3[n]? with
  | some (.lst xs)=>(match ixN xs.length k with
   | some j=>.ok (.nx σ) (st3.set n (.lst (xs.set j v)))
   | none=>.stuck)
  | _=>.stuck)
 | _,_=>.stuck):=rfl
@[simp] theorem zvf {f g h:SE}:eDGet2 f g h σ st=(f σ st).bind fun x st1=>(match pairsOf st1 x with
 | some _=>(g σ st1).bind fun y st2=>(h σ st2).bind fun z st3=>(match pairsOf st3 x,keyOf y with
  | some kvs,some k=>.ok ((valD kvs k).getD z) st3
  | _,_=>.stuck)
 | none=>.stuck):=rfl
@[simp] theorem zbha {f g:SE}:eDPop f g σ st=(f σ st).bind fun x st1=>(match pairsOf st1 x with
 | some _=>(g σ st1).bind fun y st2=>(match x,keyOf y with
  | .ref n,some k=>(match st2[n]? with
   | some (.dT kvs)=>(match valD kvs k with
    | some v=>.ok v (st2.set n (.dT (dropD kvs k)))
    | none=>.stuck)
   | _=>.stuck)
  | _,_=>.stuck)
 | none=>.stuck):=rfl
@[simp] theorem zxg {f g h:SE}:sDPut f g h σ st=(h σ st).bind fun v st1=>(f σ st1).bind fun x st2=>(g σ st2).bind fun y st3=>(match x,keyOf y with
 | .ref n,some k=>(match st3[n]? with
  | some (.dT kvs)=>if kvs.length < sizeLine then .ok (.nx σ) (st3.set n (.dT (putD kvs k v))) else .stuck
  | _=>.stuck)
 | _,_=>.stuck):=rfl
theorem zbgz {n np:Nat} {b:SS} {ds:List D}:fnD n np b ds st=if ds.length=np then (match b (ds.map some++List.replicate (n - np) none) st with
 | .ok (.ret v) st'=>.ok v st'
 | .ok (.nx _) st'=>.ok .non st'
 | .exc x st'=>.exc x st'
 | _=>.stuck) else .stuck:=rfl
end
section
variable {st:Store} {i j:Int}
@[simp] theorem oI_v {C:Int->Int->Prop} [DecidableRel C] {h:Int->Int->D}:oI C h (.int i) (.int j) st=if C i j then .ok (h i j) st else .stuck:=rfl
@[simp] theorem zbia:oAdd (.int i) (.int j) st=.ok (.int (i+j)) st:=rfl
@[simp] theorem zbdj {a b:List D}:oAdd (.tup a) (.tup b) st=if a.length+b.length<=sizeLine then .ok (.tup (a++b)) st else .stuck:=rfl
@[simp] theorem zbhx:oLtT (.int i) (.int j) st=.ok (.bl (decide (i < j))) st:=rfl
@[simp] theorem zbhv:oNeg (.int i) st=.ok (.int (-i)) st:=rfl
@[simp] theorem zga (ns:List Int):asInts (ns.map .int)=some ns:=by
 induction ns with
 | nil=>rfl
 | cons n ns ih=>rw[xbq,asInts,ih];rfl
@[simp] theorem zbbc (l:List (List Int)):asRows (rowsD l)=some l:=by
 induction l with
 | nil=>rfl
 | cons n ns ih =>
  unfold rowsD at ih ⊢;rw[xbq,asRows,zga,ih];rfl
@[simp] theorem zdv (ns:List Int):keyOf (rowD ns)=some ns:=zga ns
theorem zhx:dataOf st (.int i)=some (.int i):=rfl
@[simp] theorem zbhz:oEq (.int i) (.int j) st=.ok (.bl (decide (i=j))) st:=by
 show oEqG false (.int i) (.int j) st=_;unfold oEqG;rw[zhx,zhx];dsimp only;rw[if_pos ⟨rfl,rfl⟩];show Res.ok (D.bl (i == j)) st=_;rw[show (i == j)=decide (i=j) from by rw[xhq];simp]
@[simp] theorem zbhw:oNe (.int i) (.int j) st=.ok (.bl (!decide (i=j))) st:=by
 show oEqG true (.int i) (.int j) st=_;unfold oEqG;rw[zhx,zhx];dsimp only;rw[if_pos ⟨rfl,rfl⟩];show Res.ok (D.bl (!(i == j))) st=_;rw[show (i == j)=decide (i=j) from by rw[xhq];simp]
noncomputable abbrev sumD (l:List (List Int)):D:=.tup (rowsD l)
theorem small (n:Nat) (h:n<=1000000):n<=sizeLine:=by rw[xhn];lia
theorem smallT (n:Nat) (h:n<=1000000):n < sizeLine:=by rw[xhn];lia
end
theorem zta {bd:SG} {body:SS} (I:Nat->DS->Store->Prop):∀(xs:List D) (k:Nat) (σ:DS) (st:Store),I k σ st ->
  (∀i x σ st,xs[i]?=some x->I (k+i) σ st->∃σ1 σ2 st2,bd x σ=some σ1/\body σ1 st=.ok (.nx σ2) st2/\I (k+i+1) σ2 st2)->∃σ' st',forF bd body xs σ st=.ok (.nx σ') st'/\I (k+xs.length) σ' st'
 | [],k,σ,st,h,_=>⟨σ,st,rfl,h⟩
 | x::xs,k,σ,st,h,s=>by
  obtain ⟨σ1,σ2,st2,e1,e2,h2⟩:=s 0 x σ st rfl h;obtain ⟨σ',st',e3,h3⟩:=zta I xs (k+1) σ2 st2 h2 fun i y σ st hy hi=>by
   have:=s (i+1) y σ st (by simpa using hy) (by rw[show k+(i+1)=k+1+i by lia];exact hi);rw[show k+(i+1)+1=k+1+i+1 by lia] at this;exact this
  refine ⟨σ',st',?_,by rw[xcd,show k+(xs.length+1)=k+1+xs.length by lia];exact h3⟩;unfold forF;rw[e1];dsimp only;rw[e2];exact e3
theorem zzg {bd:SG} {body:SS} (I:Nat->DS->Store->Prop) {xs:List D} {σ:DS} {st:Store} (h0:I 0 σ st)
  (s:∀i x σ st,xs[i]?=some x->I i σ st->∃σ1 σ2 st2,bd x σ=some σ1/\body σ1 st=.ok (.nx σ2) st2/\I (i+1) σ2 st2):∃σ' st',forF bd body xs σ st=.ok (.nx σ') st'/\I xs.length σ' st':=by
 have:=zta I xs 0 σ st h0 fun i x σ st hx hi=>by
  rw[xdi] at hi ⊢;exact s i x σ st hx hi
 rw[xdi] at this;exact this
theorem zbci {lo:Int} {n i:Nat} {x:D} (h:(rng lo n)[i]?=some x):i < n/\x=.int (lo+i):=zij h
theorem zdq (lo:Int) (n:Nat):(rng lo n).length=n:=by simp[rng]
theorem zkc {bd:SG} {c:ST} {f:SE} (I:Nat->List D->DS->Store->Prop):∀(xs:List D) (k:Nat) (acc:List D) (σ:DS) (st:Store),I k acc σ st ->
  (∀i x acc σ st,xs[i]?=some x->I (k+i) acc σ st->∃σ1 b st1,bd x σ=some σ1/\c σ1 st=.ok b st1/\((b=false/\I (k+i+1) acc σ1 st1)\/(b=true/\∃y st2,f σ1 st1=.ok y st2/\I (k+i+1) (acc++[y]) σ1 st2))) ->
  ∃ys σ' st',compF bd c f xs σ st=.ok ys st'/\I (k+xs.length) (acc++ys) σ' st'
 | [],k,acc,σ,st,h,_=>⟨[],σ,st,rfl,by rw[xdw];exact h⟩
 | x::xs,k,acc,σ,st,h,s=>by
  have s':∀i y acc σ st,xs[i]?=some y->I (k+1+i) acc σ st->∃σ1 b st1,bd y σ=some σ1/\c σ1 st=.ok b st1/\((b=false/\I (k+1+i+1) acc σ1 st1)\/(b=true/\∃z st2,f σ1 st1=.ok z st2/\I (k+1+i+1) (acc++[z]) σ1 st2)):=fun i y acc σ st hy hi=>by
   have:=s (i+1) y acc σ st (by simpa using hy) (by rw[show k+(i+1)=k+1+i by lia];exact hi);rw[show k+(i+1)+1=k+1+i+1 by lia] at this;exact this
  obtain ⟨σ1,b,st1,e1,e2,h2⟩:=s 0 x acc σ st rfl h;rcases h2 with ⟨rfl,h2⟩ | ⟨rfl,y,st2,e3,h2⟩
  ·obtain ⟨ys,σ',st',e4,h3⟩:=zkc I xs (k+1) acc σ1 st1 h2 s';refine ⟨ys,σ',st',?_,by rw[xcd,show k+(xs.length+1)=k+1+xs.length by lia];exact h3⟩;unfold compF;rw[e1];dsimp only;rw[e2];exact e4
  ·obtain ⟨ys,σ',st',e4,h3⟩:=zkc I xs (k+1) (acc++[y]) σ1 st2 h2 s';refine ⟨y::ys,σ',st',?_,by rw[xcd,show k+(xs.length+1)=k+1+xs.length by lia];rw[xcj] at h3;exact h3⟩;unfold compF;rw[e1];dsimp only;rw[e2];dsimp only [zep];rw[if_pos rfl,e3];dsimp only [zep];rw[e4]
   rfl
theorem zbat {bd:SG} {c:ST} {f:SE} (I:Nat->List D->DS->Store->Prop) {xs:List D} {σ:DS} {st:Store} (h0:I 0 [] σ st)
  (s:∀i x acc σ st,xs[i]?=some x->I i acc σ st->∃σ1 b st1,bd x σ=some σ1/\c σ1 st=.ok b st1/\((b=false/\I (i+1) acc σ1 st1)\/(b=true/\∃y st2,f σ1 st1=.ok y st2/\I (i+1) (acc++[y]) σ1 st2))) :
  ∃ys σ' st',compF bd c f xs σ st=.ok ys st'/\I xs.length ys σ' st':=by
 have:=zkc I xs 0 [] σ st h0 fun i x acc σ st hx hi=>by
  rw[xdi] at hi ⊢;exact s i x acc σ st hx hi
 rw[xdi] at this
 simpa using this
theorem zpu {c:ST} {body:SS} (I:Nat->DS->Store->Prop) (post:DS->Store->Prop) {σ:DS} {st:Store} {k:Nat} (h0:I k σ st) (hm:k < wCap)
  (s:∀j σ st,I j σ st->∃b st1,c σ st=.ok b st1/\((b=false/\post σ st1)\/(b=true/\∃i σ2 st2,body σ st1=.ok (.nx σ2) st2/\I i σ2 st2/\i < j))):∃σ' st',sWhile c body σ st=.ok (.nx σ') st'/\post σ' st':=by
 have main:∀n j σ st,I j σ st->j < n->∃σ' st',whileF c body n σ st=.ok (.nx σ') st'/\post σ' st':=by
  intro n
  induction n with
  | zero=>intro j σ st _ h;lia
  | succ n ih =>
   intro j σ st hI hlt;obtain ⟨b,st1,e1,h⟩:=s j σ st hI;unfold whileF;rw[e1];dsimp only [zep];rcases h with ⟨rfl,h⟩ | ⟨rfl,i,σ2,st2,e2,h2,h3⟩
   ·exact ⟨σ,st1,by rw[if_neg (by decide)],h⟩
   ·obtain ⟨σ',st',e3,h4⟩:=ih i σ2 st2 h2 (by lia);refine ⟨σ',st',?_,h4⟩;rw[if_pos rfl,e2];exact e3
 exact main wCap k σ st h0 hm
section
variable {st:Store} {n:Nat} {xs:List D} {i:Int}
@[simp] theorem zbbd:seqOf st (.tup xs)=some xs:=rfl
@[simp] theorem zbbe:seqOf st (.scr xs)=some xs:=rfl
@[simp] theorem zbbf:seqOf st (.lst xs)=some xs:=rfl
@[simp] theorem zbca:seqV (.tup xs)=some xs:=rfl
@[simp] theorem zbcc:seqV (.lst xs)=some xs:=rfl
@[simp] theorem zbcb:seqV (.scr xs)=some xs:=rfl
@[simp] theorem zbhf:asL st (.lst xs)=some xs:=rfl
theorem ziz (h:st[n]?=some (.lst xs)):asL st (.ref n)=some xs:=by
 unfold asL;dsimp only;rw[h]
theorem zhg (h:st[n]?=some (.lst xs)):seqOf st (.ref n)=some xs:=ziz h
theorem znw {x:D} {d:D} (h:seqOf st x=some xs) (h2:L2.atI xs i=some d):oIx x (.int i) st=.ok d st:=by
 unfold oIx;rw[h];dsimp only;rw[h2]
@[simp] theorem zbga:bLen [.tup xs] st=.ok (.int xs.length) st:=rfl
@[simp] theorem zbgc:bLen [.lst xs] st=.ok (.int xs.length) st:=rfl
@[simp] theorem zbgb:bLen [.scr xs] st=.ok (.int xs.length) st:=rfl
@[simp] theorem zbjc:bAbs [.int i] st=.ok (.int (if i < 0 then -i else i)) st:=rfl
@[simp] theorem zbjf {g:Int->Int->Int} {j:Int}:b2I g [.int i,.int j] st=.ok (.int (g i j)) st:=rfl
@[simp] theorem zbfy {ns:List Int}:bSum [rowD ns] st=.ok (.int ns.sum) st:=by
 unfold bSum;simp
@[simp] theorem zbbb:bTuple [.tup xs] st=.ok (.tup xs) st:=rfl
@[simp] theorem zpk:bTuple [.lst xs] st=.ok (.tup xs) st:=rfl
theorem zkg {l:List (List Int)} (h:l.length<=1000000):bSorted [.lst (rowsD l)] st=.ok (.lst (rowsD (sortR l))) st:=by
 unfold bSorted;simp[h]
theorem zkh {kvs:List (List Int × D)} (h:st[n]?=some (.dT kvs)) (hl:kvs.length<=1000000):bSorted [.ref n] st=.ok (.lst (rowsD (sortR (kvs.map (·.1))))) st:=by
 unfold bSorted asL pairsOf;simp[h,hl]
theorem zwa {j:Nat} {d:D} (h:xs[j]?=some d):L2.atI xs (j:Int)=some d:=ztm h
theorem zgh {o:O} (h:n < st.length):(st.set n o)[n]?=some o:=xdr h
theorem zx {o:O} (h:st[n]?=some o):n < st.length:=(xbl.mp h).1
theorem zbbz {o:O} (h:st[n]?=some o):st.set n o=st:=by
 apply xjv;intro i;by_cases e:i=n
 ·subst e;rw[xdr (zx h),h]
 ·rw[xcl (xej e)]
end
theorem zmo {n np:Nat} {b:SS} {ds:List D} {st st':Store} {v:D} (h:ds.length=np) (e:b (ds.map some++List.replicate (n - np) none) st=.ok (.ret v) st'):fnD n np b ds st=.ok v st':=by
 rw[zbgz,if_pos h,e]
theorem zbgy {n np:Nat} {b:SS} {ds:List D} {st st':Store} {σ:DS} (h:ds.length=np) (e:b (ds.map some++List.replicate (n - np) none) st=.ok (.nx σ) st'):fnD n np b ds st=.ok .non st':=by
 rw[zbgz,if_pos h,e]
noncomputable abbrev bagO (c x:Int):O:=.lst [.int c,.int x]
noncomputable def BagAt (st:Store) (n:Nat):Prop:=∃c x:Int,st[n]?=some (bagO c x)/\0<=c/\0<=x
structure Drew (st st':Store) (n:Nat):Prop where
 len:st.length<=st'.length
 keep : ∀ i, i < st.length -> i ≠ n -> st'[i]? = st[i]?
 bag:BagAt st' n
theorem Drew.trans {st st1 st2:Store} {n:Nat} (a:Drew st st1 n) (b:Drew st1 st2 n):Drew st st2 n :=
 ⟨xbb a.len b.len,fun i h1 h2=>(b.keep i (xbd h1 a.len) h2).trans (a.keep i h1 h2),b.bag⟩
theorem Drew.set {st:Store} {n:Nat} {c x:Int} (h:BagAt st n) (hc:0<=c) (hx:0<=x):Drew st (st.set n (bagO c x)) n:=by
 obtain ⟨_,_,e,_⟩:=h;exact ⟨by rw[xeq];exact xbe _,fun i _ h2=>xcl (xej h2),c,x,zgh (zx e),hc,hx⟩
theorem Drew.more {st:Store} {n:Nat} (h:BagAt st n) (g:Store):Drew st (st++g) n:=by
 obtain ⟨c,x,e,h1,h2⟩:=h;exact ⟨by rw[xbm];lia,fun i h _=>xbv h,c,x,by rw[xbv (zx e)];exact e,h1,h2⟩
theorem zsm {st:Store} {n:Nat} {m:Int} (hb:BagAt st n) (h1:1<=m) (h2:m < 2 ^ 1000) :
  ∃r st',zn [.ref n,.int m] st=.ok (.int r) st'/\0<=r/\r < m/\Drew st st' n/\st'.length=st.length:=by
 obtain ⟨c,x,hn,hc,hx⟩:=id hb;have s0:∀{c x:Int} {st:Store},st[n]?=some (bagO c x)->oIx (.ref n) (.int 0) st=.ok (.int c) st:=fun h=>znw (zhg h) rfl
 have s1:∀{c x:Int} {st:Store},st[n]?=some (bagO c x)->oIx (.ref n) (.int 1) st=.ok (.int x) st:=fun h=>znw (zhg h) rfl
 by_cases h0:0 < c
 ·have d1:CDivP c m:=⟨by lia,h2⟩
  have e0:ixN 2 0=some 0:=rfl;refine ⟨c % m,st.set n (bagO (c / m) x),zmo rfl ?_,xhu _ (by lia),Int.emod_lt_of_pos _ (by lia),Drew.set hb (Int.ediv_nonneg hc (by lia)) hx,xeq⟩;simp[s0 hn,h0,hn,e0,show (0:Int) < m by lia,d1]
 ·have hlen:=zx hn
  have W:=zpu (c:=eB (eOp oLtT (eVar 4) (eVar 1))) (body:=sSeq (sSetIx (eVar 0) (eC (.int 1)) (eOp oMod (eOp oAdd (eOp oMulI (eOp oIx (eVar 0) (eC (.int 1))) (eC (.int 48271))) (eC (.int 7919))) (eC (.int 2147483647))))
   (sSeq (sSet 3 (eOp oAdd (eOp oMulI (eVar 3) (eC (.int 1073741789))) (eOp oMod (eOp oMulI (eOp oFdiv (eOp oIx (eVar 0) (eC (.int 1))) (eC (.int 8))) (eC (.int 69621))) (eC (.int 1073741789)))))
   (sSet 4 (eOp oMulI (eVar 4) (eC (.int 1073741789)))))) (k:=1000) (σ:=[some (.ref n),some (.int m),none,some (.int 0),some (.int 1)]) (st:=st)
   (fun j σ s=>∃c' x' nn rr:Int,σ=[some (.ref n),some (.int m),none,some (.int nn),some (.int rr)]/\s=st.set n (bagO c' x')/\0<=c'/\0<=x'/\0<=nn/\j<=1000/\2 ^ (1000 - j)<=rr)
   (fun σ s=>∃c' x' nn:Int,(∃rr,σ=[some (.ref n),some (.int m),none,some (.int nn),some (.int rr)])/\s=st.set n (bagO c' x')/\0<=c'/\0<=x'/\0<=nn)
   ⟨c,x,0,1,rfl,(zbbz hn).symm,hc,hx,by lia,by lia,by decide⟩ (by decide) (by
    rintro j σ s ⟨c',x',nn,rr,rfl,rfl,a1,a2,a3,a4,a5⟩;have g1:(st.set n (bagO c' x'))[n]?=some (bagO c' x'):=zgh hlen;by_cases hlt:rr < m
    ·have hj:1<=j:=by
      rcases xjp j with z | z
      ·subst z;have a5':(2:Int) ^ 1000<=rr:=a5;lia
      ·exact z
     have e1:ixN 2 1=some 1:=rfl;have m1:CMul x' 48271:=.inr ⟨by decide,by decide⟩;have m2:CMul nn 1073741789:=.inr ⟨by decide,by decide⟩;have m3:CMul rr 1073741789:=.inr ⟨by decide,by decide⟩;have g2:∀y:Int,(st.set n (bagO c' y))[n]?=some (bagO c' y):=fun y=>zgh hlen
     have m4:∀y:Int,CMul y 69621:=fun y=>.inr ⟨by decide,by decide⟩
     have d8:∀y:Int,CDivP y 8:=fun y=>⟨by decide,by decide +kernel⟩
     refine ⟨true,st.set n (bagO c' x'),by simp[hlt],.inr ⟨rfl,j - 1,_,st.set n (bagO c' ((x' * 48271+7919) % 2147483647)),?_,⟨c',(x' * 48271+7919) % 2147483647,nn * 1073741789+(x' * 48271+7919) % 2147483647 / 8 * 69621 % 1073741789,rr * 1073741789,rfl,rfl,a1,?_,?_,by lia,?_⟩,by lia⟩⟩
     ·simp[s1 g1,g1,e1,m1,m2,m3,m4,d8,s1 (g2 _)]
     ·exact xhu _ (by lia)
     ·have a1:0<=nn * 1073741789:=Int.mul_nonneg a3 (by lia);have a2:=xhu ((x' * 48271+7919) % 2147483647 / 8 * 69621) (show (1073741789:Int)≠0 by lia);lia
     ·have e:(2:Int) ^ (1000 - (j - 1))=2 ^ (1000 - j) * 2:=by
       rw[← Int.pow_succ];congr 1;lia
      rw[e];have hp:(0:Int)<=2 ^ (1000 - j):=Int.pow_nonneg (by decide);lia
    ·exact ⟨false,_,by simp[hlt],.inl ⟨rfl,c',x',nn,⟨rr,rfl⟩,rfl,a1,a2,a3⟩⟩)
  obtain ⟨σ',st',e,c',x',nn,hσ,hst,k1,k2,k3⟩:=W;obtain ⟨rr,rfl⟩:=hσ;subst hst;refine ⟨nn % m,st.set n (bagO c' x'),zmo rfl ?_,xhu _ (by lia),Int.emod_lt_of_pos _ (by lia),Drew.set hb k1 k2,xeq⟩;simp[s0 hn,h0,e,show (0:Int) < m by lia]
theorem ziy {ns:List Int} {j:Nat} (h:j < ns.length):L2.atI (ns.map D.int) (j:Int)=some (.int ns[j]):=ztm (by rw[xcs,xbj h];rfl)
theorem zbfx {st:Store} {ns:List Int} {i:Nat} (hl:ns.length<=63) (hi:i<=100000):∃c x:Int,0<=c/\0<=x/\zdd [.scr (ns.map .int),.int i] st=.ok (.ref st.length) (st++[bagO c x]):=by
 have cell:∃c:Int,0<=c/\sIf (eB (eOp oLtT (eVar 1) (eCall bLen (aCons (eVar 0) aNil)))) (sSet 2 (eCall bAbs (aCons (eOp oIx (eVar 0) (eVar 1)) aNil))) sNx [some (.scr (ns.map .int)),some (.int i),some (.int 0),none,none] st
   = .ok (.nx [some (.scr (ns.map .int)),some (.int i),some (.int c),none,none]) st:=by
  by_cases h:i < ns.length
  ·have e:oIx (.scr (ns.map .int)) (.int i) st=.ok (.int ns[i]) st:=znw rfl (ziy h);refine ⟨if ns[i] < 0 then -ns[i] else ns[i],by split<;>lia,?_⟩;simp[h,e]
  ·exact ⟨0,by lia,by simp[h]⟩
 obtain ⟨c,hc,ec⟩:=cell;have hmin:(if (60:Int) < (ns.length:Int) then (60:Int) else ns.length).toNat<=ns.length:=by split<;>lia
 have W:=zzg (bd:=gN 4) (body:=sSet 3 (eOp oMod (eOp oAdd (eOp oAdd (eOp oMulI (eVar 3) (eC (.int 48271))) (eOp oMod (eOp oIx (eVar 0) (eVar 4)) (eC (.int 2147483647)))) (eVar 4)) (eC (.int 2147483629))))
  (xs:=rng 0 (if (60:Int) < (ns.length:Int) then (60:Int) else ns.length).toNat) (σ:=[some (.scr (ns.map .int)),some (.int i),some (.int c),some (.int (7919 * i+17)),none]) (st:=st)
  (fun j σ s=>s=st/\∃(mix:Int) (v:Option D),σ=[some (.scr (ns.map .int)),some (.int i),some (.int c),some (.int mix),v]/\0<=mix) ⟨rfl,_,none,rfl,by lia⟩ (by
   rintro j x σ s hx ⟨rfl,mix,v,rfl,hm⟩;obtain ⟨hj,rfl⟩:=zbci hx;have hj2:j < ns.length:=by lia
   have e:oIx (.scr (ns.map .int)) (.int (0+j)) s=.ok (.int ns[j]) s:=znw rfl (by rw[xkf];exact ziy hj2);rw[xkf] at e;have m1:CMul mix 48271:=.inr ⟨by decide,by decide⟩;refine ⟨_,[some (.scr (ns.map .int)),some (.int i),some (.int c),some (.int ((mix * 48271+ns[j] % 2147483647+j) % 2147483629)),some (.int (0+j))],s,rfl,?_,rfl,_,_,rfl,xhu _ (by lia)⟩
   simp[e,m1])
 obtain ⟨σ',st',e,rfl,mix,v,rfl,hm⟩:=W;have m0:CMul 7919 (i:Int):=.inl ⟨by decide,by decide⟩;have p0:CPow 10 18:=⟨by decide,by decide,by decide⟩
 have hr:RngOk (if (60:Int) < (ns.length:Int) then (60:Int) else ns.length):=by
  split<;>exact rngOk (by lia) (by lia)
 by_cases hlt:c < 1000000000000000000
 ·refine ⟨0,mix,by lia,hm,zmo rfl ?_⟩;have hs:=small 2 (by lia);simp at ec;simp[ec,m0,hr,e,p0,hlt,hs]
 ·refine ⟨c,mix,hc,hm,zmo rfl ?_⟩;have hs:=small 2 (by lia);simp at ec;simp[ec,m0,hr,e,p0,hlt,hs]
theorem seqN {s t:SS} {σ σ1:DS} {st st1:Store} {r:Res Fl} (h:s σ st=.ok (.nx σ1) st1) (k:t σ1 st1=r):sSeq s t σ st=r:=by
 rw[zbcd,h];exact k
noncomputable def flipL (ks:List (List Int)) (k:List Int):List (List Int):=if k∈ks then ks.filter (fun x=>decide (x≠k)) else ks++[k]
noncomputable def oddL (l:List (List Int)):List (List Int):=l.foldl flipL []
theorem zex {ks:List (List Int)} {k x:List Int}:x∈flipL ks k↔(x∈ks/\x≠k)\/(x=k/\k∉ks):=by
 unfold flipL;split
 ·rename_i h;simp[xfq,h]
 ·rename_i h;simp only[xbz,xbo];constructor
  ·rintro (z | rfl)
   ·exact .inl ⟨z,fun e=>h (e ▸ z)⟩
   ·exact .inr ⟨rfl,h⟩
  ·rintro (⟨z,_⟩ | ⟨z,_⟩)
   ·exact .inl z
   ·exact .inr z
theorem zmp {ks:List (List Int)} {k:List Int} (h:ks.Nodup):(flipL ks k).Nodup:=by
 unfold flipL;split
 ·exact h.filter _
 ·rename_i hk;rw[List.nodup_append];exact ⟨h,by simp,fun a ha b hb=>by simp at hb;subst hb;exact fun e=>hk (e ▸ ha)⟩
theorem zjy (ks:List (List Int)) (k:List Int):(flipL ks k).length<=ks.length+1:=by
 unfold flipL;split
 ·exact xff (xfu _ _)
 ·simp
theorem zil:∀(l ks:List (List Int)),ks.Nodup->(l.foldl flipL ks).Nodup/\(l.foldl flipL ks).length<=ks.length+l.length/\∀x,x∈l.foldl flipL ks↔(l.count x+if x∈ks then 1 else 0) % 2=1
 | [],ks,h=>⟨h,by simp,fun x=>by by_cases e:x∈ks<;>simp[e]⟩
 | a::l,ks,h=>by
  obtain ⟨h1,h2,h3⟩:=zil l (flipL ks a) (zmp h);refine ⟨h1,?_,fun x=>?_⟩
  ·have:=zjy ks a;rw[xjj,xcd];lia
  ·rw[xjj,h3 x,List.count_cons];by_cases e:x=a
   ·subst e;by_cases k:x∈ks
    ·have q:x∉flipL ks x:=by rw[zex];simp[k]
     simp only[q,k,xfj,xep,xgg]<;>lia
    ·have q:x∈flipL ks x:=by rw[zex];simp[k]
     simp only[q,k,xfj,xep,xgg]<;>lia
   ·have e':(a == x)=false:=by simpa using fun z:a=x=>e z.symm
    by_cases k:x∈ks
    ·have q:x∈flipL ks a:=by rw[zex];simp[k,e]
     simp[q,k,e']
    ·have q:x∉flipL ks a:=by rw[zex];simp[k,e]
     simp[q,k,e']
theorem zdt (l:List (List Int)):(oddL l).Nodup:=(zil l [] xid).1
theorem zda (l:List (List Int)):(oddL l).length<=l.length:=by have:=(zil l [] xid).2.1;simpa [oddL] using this
theorem zjt {l:List (List Int)} {x:List Int}:x∈oddL l↔l.count x % 2=1:=by have:=(zil l [] xid).2.2 x;simpa [oddL] using this
theorem zgp {a b:List (List Int)} (h1:a.Nodup) (h2:b.Nodup) (h:∀x,x∈a↔x∈b):a.Perm b:=(List.perm_ext_iff_of_nodup h1 h2).mpr h
theorem zlt {a b:List (List Int)} (h:a.Perm b):sortR a=sortR b:=zjg ((zcc a).trans h) (zhf a)
noncomputable def oddS (l:List (List Int)):List (List Int):=sortR (oddL l)
theorem zyo {l m:List (List Int)} (h1:m.Nodup) (h:∀x,x∈m↔l.count x % 2=1):sortR m=oddS l:=zlt (zgp h1 (zdt l) fun x=>by rw[h,zjt])
theorem zuq {l:List (List Int)} {x:List Int}:x∈oddS l↔l.count x % 2=1:=by unfold oddS;rw[(zcc _).mem_iff,zjt]
theorem zjs {l:List (List Int)} {x:List Int} (h:x∈oddS l):x∈l:=by
 rw[zuq] at h;rcases xjp (l.count x) with z | z
 ·rw[z] at h;cases h
 ·exact List.count_pos_iff.mp z
theorem zmg (l:List (List Int)):(oddS l).length<=l.length:=by unfold oddS;rw[zjh];exact zda l
theorem znu (l:List (List Int)):(oddS l).Nodup:=(zcc _).nodup_iff.mpr (zdt l)
noncomputable abbrev trueD (ks:List (List Int)):List (List Int × D):=ks.map fun k=>(k,.bl true)
theorem zkk {ks:List (List Int)} {k:List Int}:valD (trueD ks) k=if k∈ks then some (.bl true) else none:=by
 induction ks with
 | nil=>rfl
 | cons a ks ih =>
  unfold valD trueD at ih ⊢;rw[xbq,xec];by_cases e:a=k
  ·simp[e]
  ·simp only[xci e];rw[ih];simp[xbt,show ¬ k=a from fun z=>e z.symm]
theorem zou {ks:List (List Int)} {k:List Int}:dropD (trueD ks) k=trueD (ks.filter fun x=>decide (x≠k)):=by
 unfold dropD trueD;rw[xkk]
 rfl
theorem zqm {ks:List (List Int)} {k:List Int} (h:k∉ks):putD (trueD ks) k (.bl true)=trueD (ks++[k]):=by
 unfold putD;rw[if_neg]
 ·simp[trueD]
 ·simp only[List.any_map,List.any_eq_true,not_exists,not_and];intro x hx e;have:x=k:=by simpa using e
  exact h (this ▸ hx)
theorem zjo {st:Store} {n:Nat} {kvs:List (List Int × D)} (h:st[n]?=some (.dT kvs)):pairsOf st (.ref n)=some kvs:=by
 unfold pairsOf;dsimp only;rw[h]
theorem zum {st:Store} {n:Nat} {kvs:List (List Int × D)} (h:st[n]?=some (.fT kvs)):pairsOf st (.ref n)=some kvs:=by
 unfold pairsOf;dsimp only;rw[h]
theorem zys {st:Store} {n:Nat} {kvs:List (List Int × D)} {k:List Int} (h:pairsOf st (.ref n)=some kvs):oDIn false (rowD k) (.ref n) st=.ok (.bl (valD kvs k).isSome) st:=by
 unfold oDIn;rw[zdv,h]
 rfl
theorem zur {st:Store} {n:Nat} {kvs:List (List Int × D)} {k:List Int} {v:D} (h:pairsOf st (.ref n)=some kvs) (hv:valD kvs k=some v):oDGet (.ref n) (rowD k) st=.ok v st:=by
 unfold oDGet;rw[zdv,h];dsimp only;rw[hv]
theorem zzj {st:Store} {n:Nat} {ks:List (List Int)} {k:List Int} (h:st[n]?=some (.dT (trueD ks))) (hl:ks.length<=1000000):zms [.ref n,rowD k] st=.ok .non (st.set n (.dT (trueD (flipL ks k)))):=by
 have e1:=zys (k:=k) (zjo h);rw[zkk] at e1;by_cases hk:k∈ks
 ·refine zbgy (σ:=[some (.ref n),some (rowD k)]) rfl ?_;rw[if_pos hk] at e1;have e2:valD (trueD ks) k=some (.bl true):=by rw[zkk,if_pos hk]
  have e3:flipL ks k=ks.filter fun x=>decide (x≠k):=by unfold flipL;rw[if_pos hk]
  rw[e3,← zou];have e4:=zjo h;have e5:=zdv k;simp only[rowD,trueD] at *
  simp[e1,e4,e5,h,e2]
 ·refine zbgy (σ:=[some (.ref n),some (rowD k)]) rfl ?_;rw[if_neg hk] at e1;have e3:flipL ks k=ks++[k]:=by unfold flipL;rw[if_neg hk]
  rw[e3,← zqm hk];have e5:=zdv k;have e6:(trueD ks).length < sizeLine:=by rw[xbc];exact smallT _ hl
  simp only[rowD,trueD] at *
  simp[e1,e5,h,e6];rw[xbc] at e6;exact e6
theorem zeu {l:List (List Int)} {i:Nat} {x:D} (h:(rowsD l)[i]?=some x):∃k,l[i]?=some k/\x=rowD k:=by
 unfold rowsD at h;rw[xcs] at h;cases e:l[i]? with
 | none=>rw[e] at h;cases h
 | some k=>rw[e] at h;exact ⟨k,rfl,(xbw h).symm⟩
theorem zbu (l:List (List Int)):(rowsD l).length=l.length:=xbc _
theorem zbc {α:Type} {l:List α} {i:Nat} {k:α} (h:l[i]?=some k):l.take (i+1)=l.take i++[k]:=by
 obtain ⟨hi,e⟩:=xbl.mp h;rw[xgf hi,e]
theorem zbfm (xs:List D) (k:Nat):cutD xs none (some (k:Int))=xs.take k:=by
 unfold cutD;rw[HT.znd,HT.zso,List.drop_zero,Nat.sub_zero];rcases Nat.le_total k xs.length with h | h
 ·rw[xdq h]
 ·rw[xhg h,xdj,xet h]
theorem zvt (xs:List D) (k:Nat):cutD xs (some (k:Int)) none=xs.drop k:=by
 unfold cutD;rw[HT.znd,HT.zso];rcases Nat.le_total k xs.length with h | h
 ·rw[xdq h,xet (by rw[xgd];exact xbe _)]
 ·rw[xhg h,List.drop_length,List.drop_of_length_le h];simp
theorem zht (l ks:List (List Int)) (h:ks.Nodup):(l.foldl flipL ks).length<=ks.length+l.length:=(zil l ks h).2.1
theorem zlr {st:Store} {n:Nat} {ks:List (List Int)} (h:st[n]?=some (.dT (trueD ks))) (hl:ks.length<=1000000):bSorted [.ref n] st=.ok (.lst (rowsD (sortR ks))) st:=by
 rw[zkh h (by rw[xbc];exact hl),xdu]
 congr 2
 exact congrArg (fun l=>rowsD (sortR l)) (List.map_id ks)
end Dd
namespace K07
open PySem L2
noncomputable def oddW (e k:Int):Bool:=decide (V.int (Builtin.bitAnd e k)=V.int k)
theorem zpj (a b:Nat):Builtin.bitAnd (a:Int) (b:Int)=((a &&& b:Nat):Int):=rfl
theorem zup (a b:Nat):oddW a b=decide (a &&& b=b):=by
 unfold oddW;rw[zpj];by_cases h:a &&& b=b
 ·rw[h];simp
 ·rw[xci h];refine xci fun e=>h ?_
  injection e with e
  exact_mod_cast e
end K07
namespace K23
open PySem L2 K07
end K23
namespace Dd
open PySem L2 K07 K23
theorem zmf {st:Store} {e k:Int}:zcz [.int e,.int k] st=.ok (.bl (oddW e k)) st:=by
 refine zmo rfl ?_;have:decide (Builtin.bitAnd e k=k)=oddW e k:=by
  unfold oddW;rw[xhq];simp
 simp[this]
theorem zmn {st:Store} {i:Int}:zbj [.int i] st=.ok (.bl true) st:=rfl
noncomputable def slowAt (r:List Int) (p:Nat):Prop:=∃a b:Int,r[p]?=some a/\r[p+1]?=some b/\a < 2 * b
noncomputable instance (r:List Int) (p:Nat):Decidable (slowAt r p) :=
 match h1:r[p]?,h2:r[p+1]? with
 | some a,some b=>if h:a < 2 * b then .isTrue ⟨a,b,h1,h2,h⟩ else .isFalse fun ⟨x,y,e1,e2,e3⟩=>by rw[h1] at e1;rw[h2] at e2;cases e1;cases e2;exact h e3
 | none,_=>.isFalse fun ⟨x,y,e1,_⟩=>by rw[h1] at e1;cases e1
 | some _,none=>.isFalse fun ⟨x,y,_,e2,_⟩=>by rw[h2] at e2;cases e2
theorem zbar (r:List Int) (k:Nat):cutD (r.map .int) none (some (k:Int))=(r.take k).map .int:=by rw[zbfm,List.map_take]
theorem zsc (r:List Int) (k:Nat):cutD (r.map .int) (some (k:Int)) none=(r.drop k).map .int:=by rw[zvt,List.map_drop]
structure CntG (f:Nat->D) (kvs:List (List Int × D)) (l:List (List Int)):Prop where
 nd:(kvs.map (·.1)).Nodup
 mem:∀k,k∈kvs.map (·.1)↔k∈l
 val:∀p∈kvs,p.2=f (l.count p.1)
 len:kvs.length<=l.length
theorem CntG.nil (f:Nat->D):CntG f [] []:=⟨xid,fun k=>by simp,fun p h=>(by cases h),by simp⟩
theorem CntG.at {f:Nat->D} {kvs:List (List Int × D)} {l:List (List Int)} (h:CntG f kvs l) (k:List Int):valD kvs k=if k∈l then some (f (l.count k)) else none:=by
 have gen:∀kvs:List (List Int × D),(∀p∈kvs,p.2=f (l.count p.1))->valD kvs k=if k∈kvs.map (·.1) then some (f (l.count k)) else none:=by
  intro kvs
  induction kvs with
  | nil=>intro _;rfl
  | cons a kvs ih =>
   intro hv;have ih:=ih fun p hp=>hv p (xca _ hp)
   unfold valD at ih ⊢;rw[xec];by_cases e:a.1=k
   ·have:=hv a xbu;simp only[e,xfn,Option.map_some,xbq,xbt,true_or,xfj];rw[this,e]
   ·simp only[xci e];rw[ih];simp only[xbq,xbt,show ¬ k=a.1 from fun z=>e z.symm,false_or]
 rw[gen kvs h.val];simp only[h.mem]
theorem CntG.put {f:Nat->D} {kvs:List (List Int × D)} {l:List (List Int)} (h:CntG f kvs l) (k:List Int):CntG f (putD kvs k (f (l.count k+1))) (l++[k]):=by
 have any:(kvs.any fun kv=>decide (kv.1=k))=decide (k∈l):=by
  rw[xhq,xgz,← h.mem,List.any_eq_true,xdo];constructor
  ·rintro ⟨x,hx,e⟩;exact ⟨x,hx,by simpa using e⟩
  ·rintro ⟨p,hp,e⟩;exact ⟨p,hp,by simpa using e⟩
 unfold putD;rw[any];by_cases hk:k∈l
 ·rw[if_pos (by simpa using hk)];have keys:(kvs.map fun kv=>if kv.1=k then (kv.1,f (l.count k+1)) else kv).map (·.1)=kvs.map (·.1):=by
   rw[xdu]
   congr 1
   funext p
   dsimp only [Function.comp];split<;>rfl
  refine ⟨by rw[keys];exact h.nd,fun x=>?_,fun p hp=>?_,?_⟩
  ·rw[keys,h.mem,xbz,xbo];exact ⟨.inl,fun z=>z.elim id fun e=>e ▸ hk⟩
  ·obtain ⟨q,hq,rfl⟩:=xdo.mp hp;have:=h.val q hq;by_cases e:q.1=k
   ·rw[if_pos e];dsimp only;rw[e,xin];simp
   ·rw[if_neg e,this,xin];have:List.count q.1 [k]=0:=by rw[xia];simpa using e
    rw[this];rfl
  ·rw[xbc,xbm];have:=h.len;lia
 ·rw[if_neg (by simpa using hk)];refine ⟨?_,fun x=>?_,fun p hp=>?_,?_⟩
  ·rw[xfd,List.nodup_append];refine ⟨h.nd,by simp,fun a ha b hb=>?_⟩;simp at hb;subst hb;exact fun e=>hk ((h.mem _).mp (e ▸ ha))
  ·rw[xfd,xbz,h.mem,xbz];simp
  ·rcases xbz.mp hp with hp | hp
   ·have e1:=h.val p hp;have e2:p.1≠k:=fun e=>hk ((h.mem _).mp (e ▸ xdo.mpr ⟨p,hp,rfl⟩))
    rw[e1,xin];have:List.count p.1 [k]=0:=by rw[xia];simpa using e2
    rw[this];rfl
   ·simp at hp;subst hp;rw[xin,xia.mpr hk];simp
  ·rw[xbm,xbm];have:=h.len;simp;exact this
noncomputable def oddB (n:Nat):D:=.bl (decide (n % 2=1))
theorem zqu (n:Nat):oddB (n+1)=.bl (!decide (n % 2=1)):=by
 unfold oddB
 congr 1
 by_cases h:n % 2=1
 ·rw[xdc h,xci (by lia)];rfl
 ·rw[xci h,xdc (by lia)];rfl
theorem zml {st:Store} {x:D} {l:List (List Int)} (hx:seqV x=some (rowsD l)) (hl:l.length<=1000000) (ho:(oddL l).length<=1000000):∃g,zcj [x] st=.ok (sumD (oddS l)) (st++g):=by
 have W:=zzg (bd:=gN 2) (body:=zdo) (xs:=rowsD l) (σ:=[some x,some (.ref st.length),none]) (st:=st++[.dT []])
  (fun i σ s=>∃(v:Option D) (kvs:List (List Int × D)),σ=[some x,some (.ref st.length),v]/\s=st++[.dT kvs]/\CntG oddB kvs (l.take i)) ⟨none,[],rfl,rfl,CntG.nil _⟩ (by
   rintro i y σ s hy ⟨v,kvs,rfl,rfl,hc⟩;obtain ⟨k,hk,rfl⟩:=zeu hy;have hc':=hc.put k;have hn:(st++[O.dT kvs])[st.length]?=some (.dT kvs):=by simp
   have e2:(valD kvs k).getD (.bl false)=.bl (decide ((l.take i).count k % 2=1)):=by
    rw[hc.at];split
    ·rfl
    ·rename_i z;rw[xia.mpr z];rfl
   have e3:=zdv k;have e4:=zjo hn;have e5:kvs.length < sizeLine:=by
    have h1:=hc.len;have h2:(l.take i).length<=l.length:=by rw[xdb];exact xfh _ _
    exact smallT _ (by lia)
   refine ⟨[some x,some (.ref st.length),some (rowD k)],[some x,some (.ref st.length),some (rowD k)],st++[.dT (putD kvs k (oddB ((l.take i).count k+1)))],rfl,?_,some (rowD k),_,rfl,rfl,by rw[zbc hk];exact hc'⟩;rw[zqu];unfold zdo;simp only[rowD] at *
   simp only[zxg,zzn,zvf,zbed,eC_v,List.getElem?_cons_succ,List.getElem?_cons_zero,zep,e4,e3,e2,hn,e5,xfj]
   simp)
 obtain ⟨σ',st',e,v,kvs,rfl,rfl,hc⟩:=W;rw[zbu,xdj] at hc;have V:=zbat (bd:=gN 0) (c:=eTru (eOp oDGet (eVar 1) (eVar 0))) (f:=eVar 0) (xs:=rowsD (kvs.map (·.1))) (σ:=[none,some (.ref st.length)]) (st:=st++[.fT kvs])
  (fun i acc σ s=>s=st++[.fT kvs]/\(∃w:Option D,σ=[w,some (.ref st.length)])/\acc=rowsD (((kvs.map (·.1)).take i).filter fun k=>decide (l.count k % 2=1))) ⟨rfl,⟨none,rfl⟩,rfl⟩ (by
   rintro i y acc σ s hy ⟨rfl,⟨w,rfl⟩,rfl⟩;obtain ⟨k,hk,rfl⟩:=zeu hy;have hn:(st++[O.fT kvs])[st.length]?=some (.fT kvs):=by simp
   have hkl:k∈l:=(hc.mem k).mp (xcg hk);have e2:valD kvs k=some (oddB (l.count k)):=by rw[hc.at,if_pos hkl]
   have e3:oDGet (.ref st.length) (rowD k) (st++[O.fT kvs])=.ok (oddB (l.count k)) _:=zur (zum hn) e2;refine ⟨[some (rowD k),some (.ref st.length)],decide (l.count k % 2=1),st++[.fT kvs],rfl,?_,?_⟩
   ·rw[zzm];show ((oDGet (.ref st.length) (rowD k) (st++[O.fT kvs])).bind _)=_;rw[e3]
    rfl
   ·by_cases ho:l.count k % 2=1
    ·refine .inr ⟨xdc ho,rowD k,_,rfl,rfl,⟨_,rfl⟩,?_⟩;rw[zbc hk,xfp];simp[ho,rowsD]
    ·refine .inl ⟨xci ho,rfl,⟨_,rfl⟩,?_⟩;rw[zbc hk,xfp]
     simp[ho,rowsD])
 obtain ⟨ys,σ2,st2,e2,rfl,⟨w,rfl⟩,rfl⟩:=V;rw[zbu,xdj] at e2;refine ⟨[.fT kvs],zmo rfl ?_⟩;have nd:((kvs.map (·.1)).filter fun k=>decide (l.count k % 2=1)).Nodup:=hc.nd.filter _;have mm:∀k,k∈((kvs.map (·.1)).filter fun k=>decide (l.count k % 2=1))↔l.count k % 2=1:=fun k=>by
  rw[xfq,hc.mem,xgz];refine ⟨fun h=>h.2,fun h=>⟨?_,h⟩⟩;rcases xjp (l.count k) with z | z
  ·rw[z] at h;cases h
  ·exact List.count_pos_iff.mp z
 have e5:sortR ((kvs.map (·.1)).filter fun k=>decide (l.count k % 2=1))=oddS l:=zyo nd mm;have few:((kvs.map (·.1)).filter fun k=>decide (l.count k % 2=1)).length<=1000000:=by
  have p:=zgp nd (zdt l) fun k=>by rw[mm,zjt]
  rw[p.length_eq];exact ho
 have e6:=zkg (st:=st++[.fT kvs]) few;rw[e5] at e6;have hlen:(rowsD (kvs.map (·.1))).length<=sizeLine:=by
  rw[zbu,xbc];exact small _ (by have:=hc.len;lia)
 refine seqN (σ1:=[some x,some (.ref st.length),none]) (st1:=st++[.dT []]) (by simp) ?_;refine seqN (σ1:=[some x,some (.ref st.length),v]) (st1:=st++[.dT kvs]) (by simp[hx,e]) ?_;have e7:eComp (iDict (eVar 1)) 1 [1] (gN 0) (eTru (eOp oDGet (eVar 1) (eVar 0))) (eVar 0) [some x,some (.ref st.length),v] (st++[.dT kvs])=.ok (.lst (rowsD ((kvs.map (·.1)).filter fun k=>decide (l.count k % 2=1)))) (st++[.fT kvs]):=by
  rw[ztb];have e8:iDict (eVar 1) [some x,some (.ref st.length),v] (st++[.dT kvs])=.ok (rowsD (kvs.map (·.1))) (st++[.fT kvs]):=by
   simp
  rw[e8,zep,if_pos hlen];show (compF _ _ _ _ [none,some (.ref st.length)] _).bind _=_;rw[e2]
  rfl
 rw[zbce,ztc,zpo,ztc,zpo,e7];simp only[zep,zbgf,e6,zpk]
theorem zox {i j:Int} (h0:0 < j) (h1:j<=1000):CDivP i j:=⟨h0,xjq h1 (by decide +kernel)⟩
theorem rngN {j:Int} (h1:-10000<=j) (h2:j<=10000):RngOk j:=rngOk (by lia) (by lia)
theorem Drew.over {st s:Store} {n k:Nat} {o:O} (d:Drew st s n) (hn:n < st.length) (hk:st.length<=k):Drew st (s.set k o) n:=by
 obtain ⟨c,x,eb,c0,x0⟩:=d.bag;exact ⟨by rw[xeq];exact d.len,fun i h1 h2=>by rw[xcl (by lia)];exact d.keep i h1 h2,c,x,by rw[xcl (by lia)];exact eb,c0,x0⟩
theorem zwb (xs:List D) (y:D):L2.atI (xs++[y]) (-1)=some y:=by
 unfold L2.atI ixN;rw[xbm];have e:((-1:Int)+((xs.length+[y].length:Nat):Int)).toNat=xs.length:=by simp;lia
 rw[if_neg (by lia),if_pos (by simp;lia),e];simp
end Dd
namespace Dd
open PySem L2
noncomputable def WP {α:Type} (r:Res α) (Q:α->Store->Prop):Prop:=match r with
 | .ok a st=>Q a st
 | _=>False
theorem WP.get {α:Type} {r:Res α} {Q:α->Store->Prop} (h:WP r Q):∃a st,r=.ok a st/\Q a st:=by
 cases r with
 | ok a st=>exact ⟨a,st,rfl,h⟩
 | exc x st=>exact h.elim
 | stuck=>exact h.elim
theorem WP.of {α:Type} {r:Res α} {Q:α->Store->Prop} {a:α} {st:Store} (e:r=.ok a st) (h:Q a st):WP r Q:=by rw[e];exact h
theorem WP.mono {α:Type} {r:Res α} {Q Q':α->Store->Prop} (h:WP r Q) (k:∀a st,Q a st->Q' a st):WP r Q':=by
 obtain ⟨a,st,rfl,q⟩:=h.get;exact k a st q
theorem zg {α β:Type} {r:Res α} {f:α->Store->Res β} {Q:β->Store->Prop}:WP (r.bind f) Q=WP r (fun a st=>WP (f a st) Q):=by
 cases r<;>rfl
noncomputable def seqK (t:SS) (Q:Fl->Store->Prop):Fl->Store->Prop:=fun fl st=>match fl with
 | .nx σ=>WP (t σ st) Q
 | fl=>Q fl st
theorem zwo {s t:SS} {σ:DS} {st:Store} {Q:Fl->Store->Prop}:WP (sSeq s t σ st) Q=WP (s σ st) (seqK t Q):=by
 unfold sSeq;cases s σ st with
 | ok fl st1=>cases fl<;>rfl
 | exc x st=>rfl
 | stuck=>rfl
theorem zpt {α:Type} {c:Prop} [Decidable c] {a b:Res α} {Q:α->Store->Prop}:WP (if c then a else b) Q=if c then WP a Q else WP b Q:=by
 split<;>rfl
theorem zjc {α:Type} {c:Prop} [Decidable c] {a:Res α} {Q:α->Store->Prop}:WP (if c then a else .stuck) Q=(c/\WP a Q):=by
 by_cases h:c
 ·rw[if_pos h];simp[h]
 ·rw[if_neg h];simp[h,WP]
noncomputable def retK (Q:D->Store->Prop):Fl->Store->Prop:=fun fl st=>match fl with
 | .ret v=>Q v st
 | .nx _=>Q .non st
 | _=>False
theorem zwf {n np:Nat} {b:SS} {ds:List D} {st:Store} {Q:D->Store->Prop} (h:ds.length=np) (k:WP (b (ds.map some++List.replicate (n - np) none) st) (retK Q)):WP (fnD n np b ds st) Q:=by
 obtain ⟨fl,st',e,q⟩:=k.get;unfold fnD;rw[if_pos h,e];cases fl<;>first | exact q | exact q.elim
noncomputable def bK (Q:Bool->Store->Prop):D->Store->Prop:=fun v st=>match v with
 | .bl b=>Q b st
 | _=>False
noncomputable def gK (bd:SG) (Q:Fl->Store->Prop) (σ:DS):D->Store->Prop:=fun v st=>match bd v σ with
 | some σ1=>Q (.nx σ1) st
 | none=>False
theorem W:(∀{α:Type} {a:α} {st:Store} {Q:α->Store->Prop},WP (.ok a st) Q=Q a st)
 /\ (∀{s t:SS} {σ:DS} {st:Store} {Q:Fl->Store->Prop},WP (sSeq s t σ st) Q=WP (s σ st) (seqK t Q))
 /\ (∀{t:SS} {σ:DS} {st:Store} {Q:Fl->Store->Prop},seqK t Q (.nx σ) st=WP (t σ st) Q)
 /\ (∀{t:SS} {v:D} {st:Store} {Q:Fl->Store->Prop},seqK t Q (.ret v) st=Q (.ret v) st)
 /\ (∀{t:SS} {σ:DS} {st:Store} {Q:Fl->Store->Prop},seqK t Q (.brk σ) st=Q (.brk σ) st)
 /\ (∀{t:SS} {σ:DS} {st:Store} {Q:Fl->Store->Prop},seqK t Q (.ct σ) st=Q (.ct σ) st)
 /\ (∀{v:D} {st:Store} {Q:D->Store->Prop},retK Q (.ret v) st=Q v st)
 /\ (∀{σ:DS} {st:Store} {Q:D->Store->Prop},retK Q (.nx σ) st=Q .non st)
 /\ (∀{b:Bool} {st:Store} {Q:Bool->Store->Prop},bK Q (.bl b) st=Q b st)
 /\ (∀{d:D} {σ:DS} {st:Store} {Q:D->Store->Prop},WP (eC d σ st) Q=Q d st)
 /\ (∀{g:D->D->Store->Res D} {f f':SE} {σ:DS} {st:Store} {Q:D->Store->Prop},WP (eOp g f f' σ st) Q=WP (f σ st) (fun x st1=>WP (f' σ st1) (fun y st2=>WP (g x y st2) Q)))
 /\ (∀{g:D->Store->Res D} {f:SE} {σ:DS} {st:Store} {Q:D->Store->Prop},WP (eUn g f σ st) Q=WP (f σ st) (fun x st1=>WP (g x st1) Q))
 /\ (∀{g:List D->Store->Res D} {f:SA} {σ:DS} {st:Store} {Q:D->Store->Prop},WP (eCall g f σ st) Q=WP (f σ st) (fun x st1=>WP (g x st1) Q))
 /\ (∀{σ:DS} {st:Store} {Q:List D->Store->Prop},WP (aNil σ st) Q=Q [] st)
 /\ (∀{f:SE} {g:SA} {σ:DS} {st:Store} {Q:List D->Store->Prop},WP (aCons f g σ st) Q=WP (f σ st) (fun x st1=>WP (g σ st1) (fun xs st2=>Q (x::xs) st2)))
 /\ (∀{f:SE} {σ:DS} {st:Store} {Q:Bool->Store->Prop},WP (eB f σ st) Q=WP (f σ st) (bK Q))
 /\ (∀{f f':ST} {σ:DS} {st:Store} {Q:Bool->Store->Prop},WP (bAnd f f' σ st) Q=WP (f σ st) (fun b st1=>if b=true then WP (f' σ st1) Q else Q false st1))
 /\ (∀{f f':ST} {σ:DS} {st:Store} {Q:Bool->Store->Prop},WP (bOr f f' σ st) Q=WP (f σ st) (fun b st1=>if b=true then Q true st1 else WP (f' σ st1) Q))
 /\ (∀{f:ST} {σ:DS} {st:Store} {Q:Bool->Store->Prop},WP (bNot f σ st) Q=WP (f σ st) (fun b st1=>Q (!b) st1))
 /\ (∀{σ:DS} {st:Store} {Q:Bool->Store->Prop},WP (bYes σ st) Q=Q true st)
 /\ (∀{f f':SE} {σ:DS} {st:Store} {Q:D->Store->Prop},WP (eAnd f f' σ st) Q=WP (f σ st) (bK fun b st1=>if b=true then WP (f' σ st1) Q else Q (.bl false) st1))
 /\ (∀{f f':SE} {σ:DS} {st:Store} {Q:D->Store->Prop},WP (eOr f f' σ st) Q=WP (f σ st) (bK fun b st1=>if b=true then Q (.bl true) st1 else WP (f' σ st1) Q))
 /\ (∀{f:SE} {σ:DS} {st:Store} {Q:D->Store->Prop},WP (eNot f σ st) Q=WP (f σ st) (bK fun b st1=>Q (.bl (!b)) st1))
 /\ (∀{c:ST} {f f':SE} {σ:DS} {st:Store} {Q:D->Store->Prop},WP (eIf c f f' σ st) Q=WP (c σ st) (fun b st1=>if b=true then WP (f σ st1) Q else WP (f' σ st1) Q))
 /\ (∀{g:SA} {σ:DS} {st:Store} {Q:D->Store->Prop},WP (eTup g σ st) Q=WP (g σ st) (fun xs st1=>xs.length<=sizeLine/\Q (.tup xs) st1))
 /\ (∀{g:SA} {σ:DS} {st:Store} {Q:D->Store->Prop},WP (eLst g σ st) Q=WP (g σ st) (fun xs st1=>xs.length<=sizeLine/\Q (.lst xs) st1))
 /\ (∀{g:SA} {σ:DS} {st:Store} {Q:D->Store->Prop},WP (eLstM g σ st) Q=WP (g σ st) (fun xs st1=>xs.length<=sizeLine/\Q (.ref st1.length) (st1++[.lst xs])))
 /\ (∀{σ:DS} {st:Store} {Q:D->Store->Prop},WP (eDNew σ st) Q=Q (.ref st.length) (st++[.dT []]))
 /\ (∀{σ:DS} {st:Store} {Q:Fl->Store->Prop},WP (sNx σ st) Q=Q (.nx σ) st)
 /\ (∀{σ:DS} {st:Store} {Q:Fl->Store->Prop},WP (sBrk σ st) Q=Q (.brk σ) st)
 /\ (∀{σ:DS} {st:Store} {Q:Fl->Store->Prop},WP (sCt σ st) Q=Q (.ct σ) st)
 /\ (∀{σ:DS} {st:Store} {Q:Fl->Store->Prop},WP (sRetN σ st) Q=Q (.ret .non) st)
 /\ (∀{f:SE} {σ:DS} {st:Store} {Q:Fl->Store->Prop},WP (sRet f σ st) Q=WP (f σ st) (fun v st1=>Q (.ret v) st1))
 /\ (∀{f:SE} {σ:DS} {st:Store} {Q:Fl->Store->Prop},WP (sDrop f σ st) Q=WP (f σ st) (fun _ st1=>Q (.nx σ) st1))
 /\ (∀{i:Nat} {f:SE} {σ:DS} {st:Store} {Q:Fl->Store->Prop},WP (sSet i f σ st) Q=WP (f σ st) (fun v st1=>Q (.nx (σ.set i (some v))) st1))
 /\ (∀{bd:SG} {f:SE} {σ:DS} {st:Store} {Q:Fl->Store->Prop},WP (sSetG bd f σ st) Q=WP (f σ st) (gK bd Q σ))
 /\ (∀{c:ST} {s t:SS} {σ:DS} {st:Store} {Q:Fl->Store->Prop},WP (sIf c s t σ st) Q=WP (c σ st) (fun b st1=>if b=true then WP (s σ st1) Q else WP (t σ st1) Q))
 /\ (∀{it:SA} {bd:SG} {body:SS} {σ:DS} {st:Store} {Q:Fl->Store->Prop},WP (sFor it bd body σ st) Q=WP (it σ st) (fun xs st1=>WP (forF bd body xs σ st1) Q))
 /\ (∀{it:SA} {k:Nat} {is:List Nat} {bd:SG} {c:ST} {f:SE} {σ:DS} {st:Store} {Q:D->Store->Prop},WP (eComp it k is bd c f σ st) Q=WP (it σ st) (fun xs st1=>xs.length<=sizeLine/\WP (compF bd c f xs (startD k is σ) st1) (fun ys st2=>Q (.lst ys) st2)))
 /\ (∀{it:SA} {k:Nat} {is:List Nat} {bd:SG} {c:ST} {f:SE} {σ:DS} {st:Store} {Q:D->Store->Prop},WP (eCompM it k is bd c f σ st) Q=WP (it σ st) (fun xs st1=>xs.length<=sizeLine/\WP (compF bd c f xs (startD k is σ) st1) (fun ys st2=>Q (.ref st2.length) (st2++[.lst ys]))))
 /\ (∀{C:Int->Int->Prop} [DecidableRel C] {h:Int->Int->D} {i j:Int} {st:Store} {Q:D->Store->Prop},WP (oI C h (.int i) (.int j) st) Q=(C i j/\Q (h i j) st))
 /\ (∀{i j:Int} {st:Store} {Q:D->Store->Prop},WP (oAdd (.int i) (.int j) st) Q=Q (.int (i+j)) st)
 /\ (∀{a b:List D} {st:Store} {Q:D->Store->Prop},WP (oAdd (.tup a) (.tup b) st) Q=(a.length+b.length<=sizeLine/\Q (.tup (a++b)) st))
 /\ (∀{i j:Int} {st:Store} {Q:D->Store->Prop},WP (oLtT (.int i) (.int j) st) Q=Q (.bl (decide (i < j))) st)
 /\ (∀{i j:Int} {st:Store} {Q:D->Store->Prop},WP (oEqG false (.int i) (.int j) st) Q=Q (.bl (decide (i=j))) st)
 /\ (∀{i j:Int} {st:Store} {Q:D->Store->Prop},WP (oEqG true (.int i) (.int j) st) Q=Q (.bl (!decide (i=j))) st)
 /\ (∀{i:Int} {st:Store} {Q:D->Store->Prop},WP (oNeg (.int i) st) Q=Q (.int (-i)) st)
 /\ (∀{i j:Int} {g:Int->Int->Int} {st:Store} {Q:D->Store->Prop},WP (b2I g [.int i,.int j] st) Q=Q (.int (g i j)) st)
 /\ (∀{i:Int} {st:Store} {Q:D->Store->Prop},WP (bAbs [.int i] st) Q=Q (.int (if i < 0 then -i else i)) st)
 /\ (∀{b:Bool} {st:Store} {Q:D->Store->Prop},WP (bInt [.bl b] st) Q=Q (.int (if b=true then 1 else 0)) st)
 /\ (∀{xs:List D} {st:Store} {Q:D->Store->Prop},WP (bLen [.tup xs] st) Q=Q (.int xs.length) st)
 /\ (∀{xs:List D} {st:Store} {Q:D->Store->Prop},WP (bLen [.lst xs] st) Q=Q (.int xs.length) st)
 /\ (∀{xs:List D} {st:Store} {Q:D->Store->Prop},WP (bLen [.scr xs] st) Q=Q (.int xs.length) st)
 /\ (∀{xs:List D} {st:Store} {Q:D->Store->Prop},WP (bTuple [.tup xs] st) Q=Q (.tup xs) st)
 /\ (∀{xs:List D} {st:Store} {Q:D->Store->Prop},WP (bTuple [.lst xs] st) Q=Q (.tup xs) st)
 /\ (∀{xs:List D} {st:Store} {Q:D->Store->Prop},WP (bList [.tup xs] st) Q=Q (.lst xs) st)
 /\ (∀{xs:List D} {st:Store} {Q:D->Store->Prop},WP (bList [.lst xs] st) Q=Q (.lst xs) st)
 /\ (∀{d:D} {σ:DS} {st:Store} {Q:D->Store->Prop},WP (eVar 0 (some d::σ) st) Q=Q d st)
 /\ (∀{i:Nat} {σ:DS} {st:Store} {Q:D->Store->Prop} {o:Option D},WP (eVar (i+1) (o::σ) st) Q=WP (eVar i σ st) Q)
 /\ (∀{f:SE} {σ:DS} {st:Store} {Q:List D->Store->Prop},WP (iSeq f σ st) Q=WP (f σ st) (fun x st1=>∃xs,seqV x=some xs/\Q xs st1))
 /\ (∀{f:SE} {σ:DS} {st:Store} {Q:Bool->Store->Prop},WP (eTru f σ st) Q=WP (f σ st) (fun x st1=>∃b,tru st1 x=some b/\Q b st1))
 /\ (∀{g:SA} {σ:DS} {st:Store} {Q:List D->Store->Prop},WP (iR1 g σ st) Q=WP (g σ st) (fun xs st1=>∃j,xs=[.int j]/\RngOk j/\Q (rng 0 j.toNat) st1))
 /\ (∀{g:SA} {σ:DS} {st:Store} {Q:List D->Store->Prop},WP (iR2 g σ st) Q=WP (g σ st) (fun xs st1=>∃i j,xs=[.int i,.int j]/\RngOk i/\RngOk j/\Q (rng i (j - i).toNat) st1)):=by
 have g2:∀{α:Type} {c:Prop} [Decidable c] {a:α} {st:Store} {Q:α->Store->Prop},WP (if c then .ok a st else .stuck) Q=(c/\Q a st):=fun {α c _ a st Q}=>zjc
 refine ⟨rfl,zwo,rfl,rfl,rfl,rfl,rfl,rfl,rfl,rfl,?_⟩;refine ⟨?_,?_⟩
 ·intros;rw[zbig,zg];congr;funext x st1;rw[zg]
 refine ⟨zg,zg,rfl,?_⟩;refine ⟨?_,?_⟩
 ·intros;rw[zpo,zg];congr;funext x st1;rw[zg];rfl
 refine ⟨?_,?_⟩
 ·intros;rw[eB_v,zg];congr;funext x st1;cases x<;>rfl
 refine ⟨?_,?_⟩
 ·intros;rw[zbgd,zg];congr;funext x st1;rw[zpt];rfl
 refine ⟨?_,?_⟩
 ·intros;rw[zbja,zg];congr;funext x st1;rw[zpt];rfl
 refine ⟨zg,rfl,?_⟩;refine ⟨?_,?_⟩
 ·intros;rw[zbeh,zg];congr;funext x st1;cases x<;>try rfl
  rename_i b;cases b<;>rfl
 refine ⟨?_,?_⟩
 ·intros;rw[zbif,zg];congr;funext x st1;cases x<;>try rfl
  rename_i b;cases b<;>rfl
 refine ⟨?_,?_⟩
 ·intros;rw[zzn,zg];congr;funext x st1;cases x<;>rfl
 refine ⟨?_,?_⟩
 ·intros;rw[zbih,zg];congr;funext x st1;rw[zpt]
 refine ⟨?_,?_⟩
 ·intros;rw[zbee,zg];congr;funext x st1;rw[g2]
 refine ⟨?_,?_⟩
 ·intros;rw[zbef,zg];congr;funext x st1;rw[g2]
 refine ⟨?_,?_⟩
 ·intros;rw[zzo,zg];congr;funext x st1;rw[g2]
 refine ⟨rfl,rfl,rfl,rfl,rfl,zg,zg,zg,?_⟩;refine ⟨?_,?_⟩
 ·intro bd f σ st Q;unfold sSetG;rw[zg];congr;funext x st1;unfold gK;cases bd x σ<;>rfl
 refine ⟨?_,?_⟩
 ·intros;rw[zbhk,zg];congr;funext x st1;rw[zpt]
 refine ⟨zg,?_⟩;refine ⟨?_,?_⟩
 ·intros;rw[ztb,zg];congr;funext x st1;rw[zjc,zg];rfl
 refine ⟨?_,?_⟩
 ·intros;unfold eCompM;rw[zg];congr;funext x st1;rw[zjc,zg];rfl
 refine ⟨?_,?_⟩
 ·intros;rw[oI_v,g2]
 refine ⟨rfl,?_⟩;refine ⟨?_,?_⟩
 ·intros;rw[zbdj,g2]
 refine ⟨rfl,?_⟩;refine ⟨?_,?_⟩
 ·intros;rw[show ∀i j st,oEqG false (.int i) (.int j) st=_ from fun i j st=>zbhz];rfl
 refine ⟨?_,?_⟩
 ·intros;rw[show ∀i j st,oEqG true (.int i) (.int j) st=_ from fun i j st=>zbhw];rfl
 refine ⟨rfl,rfl,rfl,rfl,rfl,rfl,rfl,rfl,rfl,rfl,rfl,fun {d σ st Q}=>rfl,fun {i σ st Q o}=>rfl,?_⟩;refine ⟨?_,?_⟩
 ·intros;rw[zbdz,zg];congr;funext x st1
  cases h:seqV x with
  | none=>simp[WP]
  | some xs=>simp[WP]
 refine ⟨?_,?_⟩
 ·intros;rw[zzm,zg];congr;funext x st1
  cases h:tru st1 x with
  | none=>simp[WP]
  | some xs=>simp[WP]
 refine ⟨?_,?_⟩
 ·intros;rw[zbid,zg];congr;funext x st1
  split
  ·rw[g2];simp[RngOk]
  ·rename_i hne;have:∀j,x≠[D.int j]:=fun j h=>hne j h
   simp[WP,this]
 ·intros;rw[zbic,zg];congr;funext x st1
  split
  ·rw[g2];simp only[RngOk,List.cons.injEq,D.int.injEq,and_true];apply propext;constructor
   ·rintro ⟨h,q⟩;exact ⟨_,_,⟨rfl,rfl⟩,h.1,h.2,q⟩
   ·rintro ⟨i',j',⟨rfl,rfl⟩,h1,h2,q⟩;exact ⟨⟨h1,h2⟩,q⟩
  ·rename_i hne;have:∀i j,x≠[D.int i,D.int j]:=fun i j h=>hne i j h
   simp[WP,this]
noncomputable def loopK (I:DS->Store->Prop) (Q:Fl->Store->Prop):Fl->Store->Prop:=fun fl st=>match fl with
 | .nx σ=>I σ st
 | .ct σ=>I σ st
 | .brk σ=>Q (.nx σ) st
 | .ret v=>Q (.ret v) st
theorem zgg {bd:SG} {body:SS} {Q:Fl->Store->Prop} (I:Nat->DS->Store->Prop):∀(xs:List D) (k:Nat) (σ:DS) (st:Store),I k σ st ->
  (∀i x σ st,xs[i]?=some x->I (k+i) σ st->∃σ1,bd x σ=some σ1/\WP (body σ1 st) (loopK (I (k+i+1)) Q))->(∀σ st,I (k+xs.length) σ st->Q (.nx σ) st)->WP (forF bd body xs σ st) Q
 | [],k,σ,st,h,_,q=>q σ st h
 | x::xs,k,σ,st,h,s,q=>by
  obtain ⟨σ1,e1,w⟩:=s 0 x σ st rfl h;obtain ⟨fl,st2,e2,w⟩:=w.get;unfold forF;rw[e1];dsimp only;rw[e2]
  have go:∀σ2,I (k+0+1) σ2 st2->WP (forF bd body xs σ2 st2) Q:=fun σ2 h2=>zgg I xs (k+1) σ2 st2 h2 (fun i y σ st hy hi=>by
   have:=s (i+1) y σ st (by simpa using hy) (by rw[show k+(i+1)=k+1+i by lia];exact hi);rw[show k+(i+1)+1=k+1+i+1 by lia] at this
   exact this) (fun σ st h=>q σ st (by rw[xcd,show k+(xs.length+1)=k+1+xs.length by lia];exact h))
  cases fl with
  | nx σ2=>exact go σ2 w
  | ct σ2=>exact go σ2 w
  | brk σ2=>exact w
  | ret v=>exact w
theorem zjd {bd:SG} {body:SS} {Q:Fl->Store->Prop} (I:Nat->DS->Store->Prop) {xs:List D} {σ:DS} {st:Store} (h0:I 0 σ st)
  (s:∀i x σ st,xs[i]?=some x->I i σ st->∃σ1,bd x σ=some σ1/\WP (body σ1 st) (loopK (I (i+1)) Q)) (q:∀σ st,I xs.length σ st->Q (.nx σ) st):WP (forF bd body xs σ st) Q :=
 zgg I xs 0 σ st h0 (fun i x σ st hx hi=>by rw[xdi] at hi ⊢;exact s i x σ st hx hi) fun σ st h=>q σ st (by rw[xdi] at h;exact h)
theorem L:(∀{I:DS->Store->Prop} {Q:Fl->Store->Prop} {σ:DS} {st:Store},loopK I Q (.nx σ) st=I σ st)
 /\ (∀{I:DS->Store->Prop} {Q:Fl->Store->Prop} {σ:DS} {st:Store},loopK I Q (.ct σ) st=I σ st)
 /\ (∀{I:DS->Store->Prop} {Q:Fl->Store->Prop} {σ:DS} {st:Store},loopK I Q (.brk σ) st=Q (.nx σ) st)
 /\ (∀{I:DS->Store->Prop} {Q:Fl->Store->Prop} {v:D} {st:Store},loopK I Q (.ret v) st=Q (.ret v) st):=⟨rfl,rfl,rfl,rfl⟩
theorem zdk {bd:SG} {c:ST} {f:SE} (I:Nat->List D->DS->Store->Prop):∀(xs:List D) (k:Nat) (acc:List D) (σ:DS) (st:Store) (Q:List D->Store->Prop),I k acc σ st ->
  (∀i x acc σ st,xs[i]?=some x->I (k+i) acc σ st->∃σ1,bd x σ=some σ1/\WP (c σ1 st) (fun b st1=>if b=true then WP (f σ1 st1) (fun y st2=>I (k+i+1) (acc++[y]) σ1 st2) else I (k+i+1) acc σ1 st1)) ->
  (∀ys σ st,I (k+xs.length) (acc++ys) σ st->Q ys st)->WP (compF bd c f xs σ st) Q
 | [],k,acc,σ,st,Q,h,_,q=>q [] σ st (by rw[xdw];exact h)
 | x::xs,k,acc,σ,st,Q,h,s,q=>by
  obtain ⟨σ1,e1,w⟩:=s 0 x acc σ st rfl h;obtain ⟨b,st1,e2,w⟩:=w.get;have s':∀i y acc σ st,xs[i]?=some y->I (k+1+i) acc σ st->∃σ1,bd y σ=some σ1/\WP (c σ1 st) (fun b st1=>if b=true then WP (f σ1 st1) (fun y st2=>I (k+1+i+1) (acc++[y]) σ1 st2) else I (k+1+i+1) acc σ1 st1):=fun i y acc σ st hy hi=>by
   have:=s (i+1) y acc σ st (by simpa using hy) (by rw[show k+(i+1)=k+1+i by lia];exact hi);rw[show k+(i+1)+1=k+1+i+1 by lia] at this;exact this
  have ln:∀(zs:List D) σ st,I (k+1+xs.length) zs σ st->I (k+(x::xs).length) zs σ st:=fun zs σ st h=>by rw[xcd,show k+(xs.length+1)=k+1+xs.length by lia];exact h
  unfold compF;rw[e1];dsimp only;rw[e2];dsimp only [zep];cases b with
  | false =>
   rw[if_neg (by decide)] at w ⊢;exact zdk I xs (k+1) acc σ1 st1 Q w s' fun ys σ st h=>q ys σ st (ln _ _ _ h)
  | true =>
   rw[if_pos rfl] at w ⊢;obtain ⟨y,st2,e3,w⟩:=w.get;rw[e3];dsimp only [zep];rw[zg];exact zdk I xs (k+1) (acc++[y]) σ1 st2 _ w s' fun ys σ st h=>q (y::ys) σ st (ln _ _ _ (by rw[xcj] at h;exact h))
theorem zsj {bd:SG} {c:ST} {f:SE} {Q:List D->Store->Prop} (I:Nat->List D->DS->Store->Prop) {xs:List D} {σ:DS} {st:Store} (h0:I 0 [] σ st)
  (s:∀i x acc σ st,xs[i]?=some x->I i acc σ st->∃σ1,bd x σ=some σ1/\WP (c σ1 st) (fun b st1=>if b=true then WP (f σ1 st1) (fun y st2=>I (i+1) (acc++[y]) σ1 st2) else I (i+1) acc σ1 st1))
  (q:∀ys σ st,I xs.length ys σ st->Q ys st):WP (compF bd c f xs σ st) Q :=
 zdk I xs 0 [] σ st Q h0 (fun i x acc σ st hx hi=>by rw[xdi] at hi ⊢;exact s i x acc σ st hx hi) fun ys σ st h=>q ys σ st (by rw[xdi] at h;simpa using h)
theorem zwp {bd:SG} {c:ST} {f:SE} {α:Type} (S:DS->Prop) (P:α->Bool) (G:α->D) (E:α->D) {as:List α} {σ:DS} {st:Store} {Q:List D->Store->Prop} (h0:S σ)
  (s:∀x∈as,∀σ,S σ->∃σ1,bd (E x) σ=some σ1/\S σ1/\WP (c σ1 st) (fun b st1=>st1=st/\b=P x)/\(P x=true->WP (f σ1 st) (fun y st1=>st1=st/\y=G x)))
  (q:Q ((as.filter P).map G) st):WP (compF bd c f (as.map E) σ st) Q:=by
 refine zsj (fun i acc σ s'=>S σ/\s'=st/\acc=((as.take i).filter P).map G) ⟨h0,rfl,rfl⟩ (fun i x acc σ s' hx hI=>?_) fun ys σ s' hI=>?_
 ·obtain ⟨hS,rfl,rfl⟩:=hI;rw[xcs] at hx;obtain ⟨z,hz,rfl⟩:=xcy.mp hx;obtain ⟨σ1,e1,hS1,w1,w2⟩:=s z (xcg hz) σ hS;refine ⟨σ1,e1,w1.mono fun b st1 hb=>?_⟩;obtain ⟨rfl,rfl⟩:=hb;cases hP:P z with
  | false =>
   rw[if_neg (by decide)];refine ⟨hS1,rfl,?_⟩;rw[zbc hz,xfp,xdx (by rw[hP];decide)];simp
  | true =>
   rw[if_pos rfl];refine (w2 hP).mono fun y st2 hy=>?_
   obtain ⟨rfl,rfl⟩:=hy;refine ⟨hS1,rfl,?_⟩;rw[zbc hz,xfp,xdy hP,xfd];simp
 ·obtain ⟨_,rfl,rfl⟩:=hI;rw[xbc,xdj];exact q
theorem V:(∀{α:Type} {a b:α} {l:List α},(a::l).set 0 b=b::l)
 /\ (∀{α:Type} {a b:α} {l:List α} {i:Nat},(a::l).set (i+1) b=a::l.set i b)
 /\ (∀{σ:DS} {k:Nat} {is:List Nat},startD k is σ=List.replicate k none++is.map fun i=>(σ[i]?).getD none)
 /\ (∀{α:Type} {a:α} {k:Nat},List.replicate (k+1) a=a::List.replicate k a)
 /\ (∀{α:Type} {a:α},List.replicate 0 a=[])
 /\ (∀{α β:Type} {f:α->β} {a:α} {l:List α},(a::l).map f=f a::l.map f)
 /\ (∀{α β:Type} {f:α->β},([]:List α).map f=[])
 /\ (∀{α:Type} {a:α} {l m:List α},(a::l)++m=a::(l++m))
 /\ (∀{α:Type} {l:List α},[]++l=l)
 /\ (∀{α:Type} {a:α} {l:List α},(a::l)[0]?=some a)
 /\ (∀{α:Type} {a:α} {l:List α} {i:Nat},(a::l)[i+1]?=l[i]?)
 /\ (∀{α:Type} {a:α} {d:α},(some a).getD d=a)
 /\ (∀{i:Nat} {d:D} {σ:DS},gN i d σ=some (σ.set i (some d)))
 /\ (∀{p:Prop} [Decidable p],(decide p=true)=p)
 /\ (∀{p:Prop} [Decidable p],((!decide p)=true)=¬ p)
 /\ (∀{b:Bool},((!b)=true)=(b=false))
 /\ (∀{a b:Prop},(if True then a else b)=a)
 /\ (∀{a b:Prop},(if False then a else b)=b)
 /\ (∀{a b:Prop},(if true=true then a else b)=a)
 /\ (∀{a b:Prop},(if false=true then a else b)=b)
 /\ (∀{α:Type} {a b:α},(if True then a else b)=a)
 /\ (∀{α:Type} {a b:α},(if False then a else b)=b)
 /\ ((true=false)=False)/\((false=true)=False)/\((true=true)=True)/\((false=false)=True)/\((¬ True)=False)/\((¬ False)=True):=by
 refine ⟨rfl,rfl,rfl,rfl,rfl,rfl,rfl,rfl,rfl,rfl,?_,rfl,rfl,?_,?_,?_,rfl,rfl,rfl,rfl,rfl,rfl,by simp,by simp,by simp,by simp,by simp,by simp⟩
 ·intros;rfl
 ·intro p _;simp
 ·intro p _;simp
 ·intro b;simp
theorem M:(∀{f:SE} {σ:DS} {st:Store} {Q:Option Int->Store->Prop},WP (pSome f σ st) Q=WP (f σ st) (fun v st1=>∃i,v=.int i/\Q (some i) st1))
 /\ (∀{σ:DS} {st:Store} {Q:Option Int->Store->Prop},WP (pNone σ st) Q=Q none st)
 /\ (∀{f:SE} {lo hi:DS->Store->Res (Option Int)} {σ:DS} {st:Store} {Q:D->Store->Prop},WP (eSl f lo hi σ st) Q=WP (f σ st) (fun x st1=>WP (lo σ st1) (fun l st2=>WP (hi σ st2) (fun h st3=>(∃xs,x=.tup xs/\Q (.tup (cutD xs l h)) st3)\/(∃xs,asL st3 x=some xs/\Q (.lst (cutD xs l h)) st3)))))
 /\ (∀{f:SE} {σ:DS} {st:Store} {Q:D->Store->Prop},WP (eFz f σ st) Q=WP (f σ st) (fun x st1=>∃n xs,x=.ref n/\st1[n]?=some (.lst xs)/\Q (.lst xs) (st1.set n .dead)))
 /\ (∀{f g h:SE} {σ:DS} {st:Store} {Q:Fl->Store->Prop},WP (sSetIx f g h σ st) Q=WP (h σ st) (fun v st1=>WP (f σ st1) (fun x st2=>WP (g σ st2) (fun y st3=>∃n k xs j,x=.ref n/\y=.int k/\st3[n]?=some (.lst xs)/\ixN xs.length k=some j/\Q (.nx σ) (st3.set n (.lst (xs.set j v)))))))
 /\ (∀{f:SE} {g:SA} {σ:DS} {st:Store} {Q:D->Store->Prop},WP (eAppend f g σ st) Q=WP (f σ st) (fun x st1=>∃n xs0,x=.ref n/\st1[n]?=some (.lst xs0)/\WP (g σ st1) (fun ys st2=>∃y xs,ys=[y]/\st2[n]?=some (.lst xs)/\xs.length < sizeLine/\Q .non (st2.set n (.lst (xs++[y]))))))
 /\ (∀{x:D} {st:Store} {Q:D->Store->Prop},WP (bSum [x] st) Q=∃ns,(seqOf st x).bind asInts=some ns/\Q (.int ns.sum) st)
 /\ (∀{x:D} {al:Bool} {st:Store} {Q:D->Store->Prop},WP (bAny al [x] st) Q=∃bs,(asL st x).bind asBools=some bs/\Q (.bl (if al then bs.all id else bs.any id)) st)
 /\ (∀{x:D} {gt:Bool} {st:Store} {Q:D->Store->Prop},WP (bBest gt [x] st) Q=∃n ns,(seqOf st x).bind asInts=some (n::ns)/\Q (.int (bestI gt n ns)) st)
 /\ (∀{g:SA} {σ:DS} {st:Store} {Q:List D->Store->Prop},WP (iZipT g σ st) Q=WP (g σ st) (fun xs st1=>∃a b,xs=[.tup a,.tup b]/\Q (pairsF a b) st1))
 /\ (∀{i:Nat} {g:D->D->Store->Res D} {f:SE} {σ:DS} {st:Store} {Q:Fl->Store->Prop},WP (sAug i g f σ st) Q=∃x,σ[i]?=some (some x)/\WP (f σ st) (fun y st1=>WP (g x y st1) (fun z st2=>Q (.nx (σ.set i (some z))) st2))):=by
 refine ⟨?_,rfl,?_,?_,?_,?_,?_,?_,?_,?_,?_⟩
 ·intros;rw[zyg,zg];congr;funext x st1
  cases x<;>simp[WP]
 ·intros;rw[zbie,zg];congr;funext x st1;rw[zg];congr;funext l st2;rw[zg];congr;funext h st3
  apply propext;split
  ·constructor
   ·intro q;exact .inl ⟨_,rfl,q⟩
   ·rintro (⟨xs,e,q⟩ | ⟨xs,e,q⟩)
    ·cases e;exact q
    ·cases e
  ·rename_i hne;constructor
   ·intro q;split at q
    ·rename_i xs e;exact .inr ⟨xs,e,q⟩
    ·exact q.elim
   ·rintro (⟨xs,e,q⟩ | ⟨xs,e,q⟩)
    ·exact absurd e (hne xs)
    ·rw[e];exact q
 ·intros;rw[zbii,zg];congr;funext x st1
  apply propext;constructor
  ·intro q;split at q
   ·split at q
    ·rename_i xs e;exact ⟨_,xs,rfl,e,q⟩
    ·exact q.elim
   ·exact q.elim
  ·rintro ⟨n,xs,rfl,e,q⟩;dsimp only;rw[e];exact q
 ·intros;rw[ztx,zg];congr;funext v st1;rw[zg];congr;funext x st2;rw[zg];congr;funext y st3
  apply propext;constructor
  ·intro q;split at q
   ·split at q
    ·split at q
     ·exact ⟨_,_,_,_,rfl,rfl,by assumption,by assumption,q⟩
     ·exact q.elim
    ·exact q.elim
   ·exact q.elim
  ·rintro ⟨n,k,xs,j,rfl,rfl,e1,e2,q⟩;dsimp only;rw[e1];dsimp only;rw[e2];exact q
 ·intros;rw[zrr,zg];congr;funext x st1
  apply propext;constructor
  ·intro q;split at q
   ·rename_i n xs0 e;rw[zg] at q;have e':st1[n]?=some (.lst xs0):=by
     unfold asL at e;dsimp only at e;split at e
     ·cases e;assumption
     ·cases e
    refine ⟨n,xs0,rfl,e',q.mono fun ys st2 h=>?_⟩;split at h
    ·split at h
     ·exact ⟨_,_,rfl,by assumption,by assumption,h⟩
     ·exact h.elim
    ·exact h.elim
   ·exact q.elim
  ·rintro ⟨n,xs0,rfl,e,q⟩;rw[ziz e];dsimp only;rw[zg];refine q.mono fun ys st2 h=>?_
   obtain ⟨y,xs,rfl,e2,hl,h⟩:=h;rw[e2];dsimp only;rw[if_pos hl];exact h
 ·intro x st Q;unfold bSum;dsimp only;cases h:(seqOf st x).bind asInts with
  | none=>simp[WP]
  | some ns=>simp[WP]
 ·intro x al st Q;unfold bAny;dsimp only;cases h:(asL st x).bind asBools with
  | none=>simp[WP]
  | some ns=>simp[WP]
 ·intro x gt st Q;unfold bBest;dsimp only;cases h:(seqOf st x).bind asInts with
  | none=>simp[WP]
  | some ns =>
   cases ns with
   | nil=>simp[WP]
   | cons n ns =>
    apply propext;constructor
    ·intro q;exact ⟨_,_,rfl,q⟩
    ·rintro ⟨a,b,e,q⟩;cases e;exact q
 ·intro g σ st Q;unfold iZipT;rw[zg];congr;funext x st1
  apply propext;constructor
  ·intro q;split at q
   ·exact ⟨_,_,rfl,q⟩
   ·exact q.elim
  ·rintro ⟨a,b,rfl,q⟩;exact q
 ·intro i g f σ st Q;rw[zbcg];apply propext;constructor
  ·intro q;split at q
   ·rename_i x e;rw[zg] at q;exact ⟨x,e,q.mono fun y st1 h=>by rw[zg] at h;exact h⟩
   ·exact q.elim
  ·rintro ⟨x,e,q⟩;rw[e];dsimp only;rw[zg];exact q.mono fun y st1 h=>by rw[zg];exact h
theorem N:(∀{xs:List D} {P:List D->Prop},(∃ys,D.tup xs=D.tup ys/\P ys)=P xs)
 /\ (∀{i:Int} {P:Int->Prop},(∃j,D.int i=D.int j/\P j)=P i)
 /\ (∀{xs:List D} {st:Store} {P:List D->Prop},(∃ys,asL st (.tup xs)=some ys/\P ys)=False)
 /\ (∀{xs:List D} {st:Store} {P:List D->Prop},(∃ys,asL st (.lst xs)=some ys/\P ys)=P xs)
 /\ (∀{xs:List D} {P:List D->Prop},(∃ys,seqV (.tup xs)=some ys/\P ys)=P xs)
 /\ (∀{xs:List D} {P:List D->Prop},(∃ys,seqV (.lst xs)=some ys/\P ys)=P xs)
 /\ (∀{b:Bool} {st:Store} {P:Bool->Prop},(∃c,tru st (.bl b)=some c/\P c)=P b)
 /\ (∀{i:Int} {P:Int->Prop},(∃j,[D.int i]=[D.int j]/\P j)=P i)
 /\ (∀{i j:Int} {P:Int->Int->Prop},(∃k l,[D.int i,D.int j]=[D.int k,D.int l]/\P k l)=P i j)
 /\ (∀{x:D} {P:D->Prop},(∃y,[x]=[y]/\P y)=P x)
 /\ (∀{a b:List D} {P:List D->List D->Prop},(∃c d,[D.tup a,D.tup b]=[.tup c,.tup d]/\P c d)=P a b)
 /\ (∀{p:Prop},(p\/False)=p)/\(∀{p:Prop},(True/\p)=p):=by
 refine ⟨?_,?_,?_,?_,?_,?_,?_,?_,?_,?_,?_,by simp,by simp⟩
 ·intros;apply propext;exact ⟨fun ⟨_,e,p⟩=>by cases e;exact p,fun p=>⟨_,rfl,p⟩⟩
 ·intros;apply propext;exact ⟨fun ⟨_,e,p⟩=>by cases e;exact p,fun p=>⟨_,rfl,p⟩⟩
 ·intros;apply propext;exact ⟨fun ⟨_,e,p⟩=>(by cases e),fun p=>p.elim⟩
 ·intros;apply propext;exact ⟨fun ⟨_,e,p⟩=>by cases e;exact p,fun p=>⟨_,rfl,p⟩⟩
 ·intros;apply propext;exact ⟨fun ⟨_,e,p⟩=>by cases e;exact p,fun p=>⟨_,rfl,p⟩⟩
 ·intros;apply propext;exact ⟨fun ⟨_,e,p⟩=>by cases e;exact p,fun p=>⟨_,rfl,p⟩⟩
 ·intros;apply propext;exact ⟨fun ⟨_,e,p⟩=>by cases e;exact p,fun p=>⟨_,rfl,p⟩⟩
 ·intros;apply propext;exact ⟨fun ⟨_,e,p⟩=>by cases e;exact p,fun p=>⟨_,rfl,p⟩⟩
 ·intros;apply propext;exact ⟨fun ⟨_,_,e,p⟩=>by cases e;exact p,fun p=>⟨_,_,rfl,p⟩⟩
 ·intros;apply propext;exact ⟨fun ⟨_,e,p⟩=>by cases e;exact p,fun p=>⟨_,rfl,p⟩⟩
 ·intros;apply propext;exact ⟨fun ⟨_,_,e,p⟩=>by cases e;exact p,fun p=>⟨_,_,rfl,p⟩⟩
section
variable {st:Store} {n:Nat} {Q:D->Store->Prop}
theorem zfd {m:Int} (hb:BagAt st n) (h1:1<=m) (h2:m<=1000000) (k:∀r st',0<=r->r < m->Drew st st' n->Q (.int r) st'):WP (zn [.ref n,.int m] st) Q:=by
 obtain ⟨r,st',e,a1,a2,a3,_⟩:=zsm hb h1 (xjq h2 (by decide +kernel));exact WP.of e (k r st' a1 a2 a3)
theorem zbgw {x:D} {xs:List D} {i:Int} {d:D} (h:seqOf st x=some xs) (h2:L2.atI xs i=some d) (q:Q d st):WP (oIx x (.int i) st) Q:=WP.of (znw h h2) q
theorem zxu {xs:List D} {i:Int} (h0:0<=i) (h1:i < xs.length) (q:∀d∈xs,Q d st):WP (oIx (.lst xs) (.int i) st) Q:=by
 obtain ⟨j,rfl⟩:=xik h0;have hj:j < xs.length:=by lia
 exact zbgw (xs:=xs) (d:=xs[j]) rfl (zwa (xbj hj)) (q _ (xex hj))
theorem zbfw {ns:List Int} {i:Nat} (hl:ns.length<=63) (hi:i<=100000) (k:∀g,BagAt (st++g) st.length->Q (.ref st.length) (st++g)):WP (zdd [.scr (ns.map .int),.int i] st) Q:=by
 obtain ⟨c,x,hc,hx,e⟩:=zbfx (st:=st) hl hi;exact WP.of e (k _ ⟨c,x,by simp,hc,hx⟩)
end
noncomputable abbrev Rise (l:List (List Int)):Prop:=l.Pairwise fun a b=>HT.lexLt a b=true
theorem zxh {l:List (List Int)} (h:UpR l) (nd:l.Nodup):Rise l:=List.Pairwise.imp (fun {a b} q=>by
 obtain ⟨q1,q2⟩:=q;rcases Srt.zin a b with z | z | z
 ·exact z
 ·exact absurd z q2
 ·rw[q1] at z;cases z) (h.and nd)
theorem zqt (l:List (List Int)):Rise (oddS l):=zxh (zhf _) (znu l)
structure SumOk (n:Nat) (l:List (List Int)):Prop where
 rise:Rise l
 len:∀r∈l,r.length=n
 pos:∀r∈l,∀x∈r,0<=x
theorem zqf {n:Nat} {l:List (List Int)} (h:∀r∈l,r.length=n/\∀x∈r,0<=x):SumOk n (oddS l):=⟨zqt l,fun r hr=>(h r (zjs hr)).1,fun r hr=>(h r (zjs hr)).2⟩
noncomputable def WX {α:Type} (r:Res α) (Q:α->Store->Prop) (E:Exc->Store->Prop):Prop:=match r with
 | .ok a st=>Q a st
 | .exc x st=>E x st
 | .stuck=>False
theorem zbbp {α:Type} {f:DS->Store->Res α} {σ:DS} {st:Store} {Q:α->Store->Prop}:WP (noX f σ st) Q=WP (f σ st) Q:=by
 unfold noX;cases f σ st<;>rfl
theorem zwn {α:Type} {f:DS->Store->Res α} {σ:DS} {st:Store} {Q:α->Store->Prop} {E:Exc->Store->Prop}:WX (noX f σ st) Q E=WP (f σ st) Q:=by
 unfold noX;cases f σ st<;>rfl
theorem zki {α β:Type} {f:DS->Store->Res α} {σ:DS} {st:Store} {g:α->Store->Res β} {Q:β->Store->Prop} {E:Exc->Store->Prop}:WX ((noX f σ st).bind g) Q E=WP (f σ st) (fun a st1=>WX (g a st1) Q E):=by
 unfold noX;cases f σ st<;>rfl
noncomputable def seqX (t:SS) (Q:Fl->Store->Prop) (E:Exc->Store->Prop):Fl->Store->Prop:=fun fl st=>match fl with
 | .nx σ=>WX (t σ st) Q E
 | fl=>Q fl st
theorem VX:(∀{α:Type} {f:DS->Store->Res α} {σ:DS} {st:Store} {Q:α->Store->Prop},WP (noX f σ st) Q=WP (f σ st) Q)
 /\ (∀{f:SE} {σ:DS} {st:Store} {Q:D->Store->Prop} {E:Exc->Store->Prop},WX (noX f σ st) Q E=WP (f σ st) Q)
 /\ (∀{f:SS} {σ:DS} {st:Store} {Q:Fl->Store->Prop} {E:Exc->Store->Prop},WX (noX f σ st) Q E=WP (f σ st) Q)
 /\ (∀{s t:SS} {σ:DS} {st:Store} {Q:Fl->Store->Prop} {E:Exc->Store->Prop},WX (sSeq s t σ st) Q E=WX (s σ st) (seqX t Q E) E)
 /\ (∀{t:SS} {σ:DS} {st:Store} {Q:Fl->Store->Prop} {E:Exc->Store->Prop},seqX t Q E (.nx σ) st=WX (t σ st) Q E)
 /\ (∀{t:SS} {v:D} {st:Store} {Q:Fl->Store->Prop} {E:Exc->Store->Prop},seqX t Q E (.ret v) st=Q (.ret v) st)
 /\ (∀{c:ST} {s t:SS} {σ:DS} {st:Store} {Q:Fl->Store->Prop} {E:Exc->Store->Prop},WX (sIf (noX c) s t σ st) Q E=WP (c σ st) (fun b st1=>if b=true then WX (s σ st1) Q E else WX (t σ st1) Q E))
 /\ (∀{c:Str} {g:SA} {σ:DS} {st:Store} {Q:Fl->Store->Prop} {E:Exc->Store->Prop},WX (sRaise c (noX g) σ st) Q E=WP (g σ st) (fun xs st1=>xs.length<=sizeLine/\E ⟨c,[]⟩ st1))
 /\ (∀{F:DFn} {g:SA} {σ:DS} {st:Store} {Q:D->Store->Prop} {E:Exc->Store->Prop},WX (eCall F (noX g) σ st) Q E=WP (g σ st) (fun xs st1=>WX (F xs st1) Q E))
 /\ (∀{f:SE} {σ:DS} {st:Store} {Q:Fl->Store->Prop} {E:Exc->Store->Prop},WX (sRet f σ st) Q E=WX (f σ st) (fun v st1=>Q (.ret v) st1) E)
 /\ (∀{f:SE} {σ:DS} {st:Store} {Q:Fl->Store->Prop} {E:Exc->Store->Prop},WX (sDrop f σ st) Q E=WX (f σ st) (fun v st1=>Q (.nx σ) st1) E)
 /\ (∀{i:Nat} {f:SE} {σ:DS} {st:Store} {Q:Fl->Store->Prop} {E:Exc->Store->Prop},WX (sSet i f σ st) Q E=WX (f σ st) (fun v st1=>Q (.nx (σ.set i (some v))) st1) E)
 /\ (∀{it:SA} {bd:SG} {b:SS} {σ:DS} {st:Store} {Q:Fl->Store->Prop} {E:Exc->Store->Prop},WX (sFor (noX it) bd b σ st) Q E=WP (it σ st) (fun xs st1=>WX (forF bd b xs σ st1) Q E))
 /\ (∀{i:Nat} {cs:List Str} {b u:SS} {σ:DS} {st:Store} {Q:Fl->Store->Prop},WP (sTry i cs b u σ st) Q=WX (b σ st) Q (fun x st1=>x.cls∈cs/\WP (u (σ.set i (some (.exn x.cls x.at_))) st1) (fun fl st2=>match fl with | .ret v=>Q (.ret v) st2 | _=>False))):=by
 refine ⟨zbbp,zwn,zwn,?_,rfl,rfl,?_,?_,?_,?_,?_,?_,?_,?_⟩
 ·intro s t σ st Q E;unfold sSeq;cases s σ st with
  | ok fl st1=>cases fl<;>rfl
  | exc x st=>rfl
  | stuck=>rfl
 ·intro c s t σ st Q E;show WX ((noX c σ st).bind _) Q E=_;rw[zki]
  congr;funext b st1
  split<;>rfl
 ·intro c g σ st Q E;show WX ((noX g σ st).bind _) Q E=_;rw[zki]
  congr;funext xs st1
  by_cases h:xs.length<=sizeLine
  ·rw[if_pos h];simp[WX,h]
  ·rw[if_neg h];simp[WX,h]
 ·intro F g σ st Q E;exact zki
 ·intro f σ st Q E;unfold sRet;cases f σ st<;>rfl
 ·intro f σ st Q E;unfold sDrop;cases f σ st<;>rfl
 ·intro i f σ st Q E;unfold sSet;cases f σ st<;>rfl
 ·intro it bd b σ st Q E;exact zki
 ·intro i cs b u σ st Q;unfold sTry;cases b σ st with
  | ok fl st1=>rfl
  | stuck=>rfl
  | exc x st1 =>
   show WP (if x.cls∈cs then _ else _) Q=(x.cls∈cs/\_)
   by_cases h:x.cls∈cs
   ·rw[if_pos h];simp only[h,true_and];cases u (σ.set i (some (.exn x.cls x.at_))) st1 with
    | ok fl st2=>cases fl<;>rfl
    | exc _ _=>rfl
    | stuck=>rfl
   ·rw[if_neg h];simp[WP,h]
theorem zbgi {n np:Nat} {b:SS} {ds:List D} {st:Store} {Q:D->Store->Prop} {E:Exc->Store->Prop} (h:ds.length=np) (k:WX (b (ds.map some++List.replicate (n - np) none) st) (retK Q) E):WX (fnD n np b ds st) Q E:=by
 unfold fnD;rw[if_pos h];revert k;cases b (ds.map some++List.replicate (n - np) none) st with
 | ok fl st'=>cases fl<;>first | exact fun q=>q | exact fun q=>q.elim
 | exc x st'=>exact fun q=>q
 | stuck=>exact fun q=>q
theorem Drew.lt {st st':Store} {n:Nat} (d:Drew st st' n) (h:n < st.length):n < st'.length:=xbd h d.len
theorem BagAt.lt {st:Store} {n:Nat} (h:BagAt st n):n < st.length:=by obtain ⟨c,x,e,_⟩:=h;exact zx e
theorem zju {r:List Int} {P:Int->Prop} (h:∀x∈r,P x) {y:Int} (hy:P y):∀x∈r++[y],P x:=fun x hx=>by
 rcases xbz.mp hx with hx | hx
 ·exact h x hx
 ·simp at hx;subst hx;exact hy
theorem zkx {α:Type} (l:List α):(l.filter fun _=>true)=l:=List.filter_eq_self.mpr (by simp)
section
variable {st:Store} {n:Nat} {Q:D->Store->Prop}
theorem zna (l:List Int) (j:Nat):(l.drop j++l.take j).length=l.length:=by rw[xbm,Nat.add_comm,← xbm,xdm]
theorem zts {l:List Int} {j:Nat} {s:Store} (h:l.length<=sizeLine):oAdd (.lst ((l.drop j).map .int)) (.lst ((l.take j).map .int)) s=.ok (.lst ((l.drop j++l.take j).map .int)) s:=by
 show (if _<=sizeLine then Res.ok (D.lst _) s else .stuck)=_;rw[if_pos,xfd];rw[xbc,xbc,← xbm,zna];exact h
theorem zyp {x:D} {l:List (List Int)} (hx:seqV x=some (rowsD l)) (hl:l.length<=1000000) (k:∀g,Q (sumD (oddS l)) (st++g)):WP (zcj [x] st) Q:=by
 have h1:=zda l;obtain ⟨g,e⟩:=zml (st:=st) hx (by lia) (by lia);exact WP.of e (k g)
end
section
variable {st:Store} {n:Nat} {Q:D->Store->Prop}
end
section
variable {S:D} {v1 v2 v5 v6 v7 v8:Option D} {N:Int} {l:List (List Int)} {st:Store} {I:DS->Store->Prop} {Q:Fl->Store->Prop}
end
end Dd
namespace K61
end K61
namespace Dd
open PySem L2
inductive Pl (k:Nat):D->Prop
 | non:Pl k .non
 | bl (b:Bool):Pl k (.bl b)
 | int (i:Int):Pl k (.int i)
 | str (x:Str):Pl k (.str x)
 | tup {ds:List D} (h:∀d∈ds,Pl k d) (hl:ds.length<=k):Pl k (.tup ds)
 | lst {ds:List D} (h:∀d∈ds,Pl k d) (hl:ds.length<=k):Pl k (.lst ds)
noncomputable def wholeB:D->Bool
 | .int _=>true
 | _=>false
section
variable {k:Nat} {d:D} {st:Store}
theorem zgv (h:Pl k d):zbj [d] st=.ok (.bl (wholeB d)) st:=by
 cases h<;>rfl
end
section
variable {k:Nat} {d:D} {st:Store} {Q:D->Store->Prop}
end
section
variable {k:Nat} {d:D} {st:Store} {Q:D->Store->Prop}
end
theorem zcs {s t:SS} {σ:DS} {st:Store} {Q R:Fl->Store->Prop} (h:WP (s σ st) R) (k:∀fl s',R fl s'->seqK t Q fl s'):WP (sSeq s t σ st) Q:=by
 rw[zwo];exact h.mono k
section
variable {st:Store} {n:Nat} {Q:D->Store->Prop}
end
section
variable {st:Store} {n:Nat} {Q:D->Store->Prop}
theorem zzi {ks:List (List Int)} {k:List Int} (h:st[n]?=some (.dT (trueD ks))) (hl:ks.length<=1000000) (q:Q .non (st.set n (.dT (trueD (flipL ks k))))):WP (zms [.ref n,rowD k] st) Q:=WP.of (zzj h hl) q
theorem zqh {ks:List (List Int)} (h:st[n]?=some (.dT (trueD ks))) (hl:ks.length<=1000000) (q:Q (.lst (rowsD (sortR ks))) st):WP (bSorted [.ref n] st) Q:=WP.of (zlr h hl) q
end
section
variable {st:Store} {n:Nat} {Q:D->Store->Prop}
end
end Dd
namespace K03
end K03
namespace K13
open PySem PyProof.Rows
end K13
namespace Dd
open PySem L2 K13
section
variable {st:Store} {n:Nat} {Q:D->Store->Prop}
end
noncomputable abbrev Pt:=List Int × Int
noncomputable def ptD (p:Pt):D:=.tup [rowD p.1,.int p.2]
section
variable {st:Store} {n:Nat} {Q:D->Store->Prop}
theorem znc (o o':O) (g:Store):(st++o::g).set st.length o'=st++o'::g:=by simp
theorem zir (o:O) (g:Store):(st++o::g)[st.length]?=some o:=by simp
theorem zsu {α:Type} {f:α->D} {l:List α} {i:Nat} {x:D} (h:(l.map f)[i]?=some x):∃a,l[i]?=some a/\x=f a:=by
 rw[xcs] at h;obtain ⟨a,h1,h2⟩:=xcy.mp h;exact ⟨a,h1,h2.symm⟩
noncomputable def box:List Int->Nat
 | []=>1
 | e::r=>(e.toNat+1) * box r
theorem zeb:∀a b:List Int,box (a++b)=box a * box b
 | [],b=>by simp[box]
 | e::a,b=>by rw[xke,box,box,zeb a b,Nat.mul_assoc]
theorem ztl:∀a:List Int,1<=box a
 | []=>xbe _
 | e::a=>by have:=ztl a;unfold box;exact xbb this (xis _ (by lia))
theorem zvy (r:List Int) (i:Nat):box (r.take i)<=box r:=by
 have e:=zeb (r.take i) (r.drop i);rw[xdm] at e;rw[e];exact Nat.le_mul_of_pos_right _ (ztl _)
end
theorem zqy:∀{r:List Int},(∀x∈r,0<=x)->0<=r.sum
 | [],_=>by simp
 | x::r,h=>by
  have:=zqy (r:=r) fun y hy=>h y (xca _ hy)
  have:=h x xbu;rw[xgn];lia
theorem zbgu:∀{r:List Int},(∀x∈r,0<=x)->∀x∈r,x<=r.sum
 | [],_,_,h=>nomatch h
 | y::r,h,x,hx=>by
  have h1:=fun z hz=>h z (xca y hz)
  have h2:=zqy h1;have h3:=h y xbu;rw[xgn];rcases xbt.mp hx with rfl | hx
  ·lia
  ·have:=zbgu h1 x hx;lia
theorem ztk:∀{r:List Int},(∀x∈r,0<=x)->box r<=2 ^ r.sum.toNat
 | [],_=>by simp[box]
 | e::r,h=>by
  have h1:=h e xbu;have h1':=fun x hx=>h x (xca e hx)
  have h2:=ztk h1';have h3:=zqy h1';rw[xgn,show (e+r.sum).toNat=e.toNat+r.sum.toNat by lia,Nat.pow_add];exact Nat.mul_le_mul (Nat.succ_le_of_lt Nat.lt_two_pow_self) h2
section
variable {st:Store} {n:Nat} {Q:D->Store->Prop}
theorem ztt {m:Int} (hb:BagAt st n) (h1:1<=m) (h2:m < 2 ^ 1000) (k:∀r st',0<=r->r < m->Drew st st' n->Q (.int r) st'):WP (zn [.ref n,.int m] st) Q:=by
 obtain ⟨r,st',e,a1,a2,a3,_⟩:=zsm hb h1 h2;exact WP.of e (k r st' a1 a2 a3)
end
end Dd
namespace K13
end K13
namespace Dd
open PySem L2 K13
section
variable {st:Store} {n:Nat} {Q:D->Store->Prop}
end
section
variable {st:Store} {n:Nat} {Q:D->Store->Prop}
end
end Dd
namespace K08
end K08
namespace Dd
open PySem L2 K13
section
variable {st:Store} {n:Nat} {Q:D->Store->Prop}
end
noncomputable abbrev Row:=List Int
section
variable {st:Store} {n:Nat} {Q:D->Store->Prop}
end
end Dd
namespace K11
end K11
namespace Dd
open PySem L2 K13
noncomputable def lowJ (e:Int):List Int:=((List.range ((e / 2).toNat+1)).filter fun j:Nat=>decide ((e.toNat - j) &&& j=j)).map fun j:Nat=>(j:Int)
noncomputable def lowLJ (e rest:Int) (p:Pt):List Pt:=((lowJ e).filter fun j=>decide (p.2 - rest<=j/\j<=p.2)).map fun j=>(p.1++[e - j],p.2 - j)
noncomputable def lowLL (e rest:Int) (ps:List Pt):List Pt:=ps.flatMap (lowLJ e rest)
noncomputable def halves (r:Row):Int:=(r.map (· / 2)).sum
noncomputable def lowStep (s:Int × List Pt) (e:Int):Int × List Pt:=(s.1 - e / 2,lowLL e (s.1 - e / 2) s.2)
noncomputable def lowR (k:Int) (r:Row):List Row:=(r.foldl lowStep (halves r,[([],k)])).2.map (·.1)
theorem zen (a b:Row):halves (a++b)=halves a+halves b:=by unfold halves;rw[xfd,xht]
theorem zkv {r:Row} (h:∀x∈r,0<=x):0<=halves r:=zqy fun x hx=>by
 obtain ⟨y,hy,rfl⟩:=xdo.mp hx;have:=h y hy;lia
noncomputable def lowL (k:Int) (l:List Row):List Row:=l.flatMap (lowR k)
section
variable {st:Store} {n:Nat} {Q:D->Store->Prop}
end
theorem zfp:∀(M lo cnt:Nat),lo+cnt<=M->(List.range M).filter (fun j=>decide (lo<=j/\j < lo+cnt))=(List.range cnt).map fun t=>lo+t
 | 0,lo,cnt,h=>by
  rw[show cnt=0 by lia]
  rfl
 | M+1,lo,cnt,h=>by
  rw[xjh,xfp];by_cases c:lo+cnt<=M
  ·rw[zfp M lo cnt c,xdx (by simp;lia)];simp
  ·cases cnt with
   | zero =>
    rw[xit.mpr fun j _=>by simp,xit.mpr fun j _=>by simp]
    rfl
   | succ k =>
    have e:(List.range M).filter (fun j=>decide (lo<=j/\j < lo+(k+1)))=(List.range M).filter fun j=>decide (lo<=j/\j < lo+k):=xjx fun j hj=>by
     have:=xei.mp hj;exact decide_eq_decide.mpr ⟨fun h=>by lia,fun h=>by lia⟩
    rw[e,zfp M lo k (by lia),xdy (by simp;lia),xjh,xfd];simp;lia
noncomputable def loOf (rest left:Int):Int:=if left - rest > 0 then left - rest else 0
noncomputable def hiOf (e left:Int):Int:=(if left < e / 2 then left else e / 2)+1
theorem zbib {rest left j:Int} (h:0<=j):loOf rest left<=j↔left - rest<=j:=by unfold loOf;split<;>lia
theorem zbdm {e left j:Int}:j < hiOf e left↔j<=left/\j<=e / 2:=by unfold hiOf;split<;>lia
noncomputable def lowT (e rest:Int) (p:Pt) (t:Nat):List Pt:=((List.range t).filter fun i:Nat=>K07.oddW (e - (loOf rest p.2+i)) (loOf rest p.2+i)).map fun i:Nat=>(p.1++[e - (loOf rest p.2+i)],p.2 - (loOf rest p.2+i))
theorem zut {e rest:Int} {p:Pt} (he:0<=e) (hp:0<=p.2):lowT e rest p (hiOf e p.2 - loOf rest p.2).toNat=lowLJ e rest p:=by
 have l0:0<=loOf rest p.2:=by unfold loOf;split<;>lia
 have e0:((e / 2).toNat:Int)=e / 2:=Int.toNat_of_nonneg (Int.ediv_nonneg he (by decide));obtain ⟨lo,hlo⟩:=xik l0;have hh:hiOf e p.2<=e / 2+1:=by unfold hiOf;split<;>lia
 have hle:∀a:Nat,p.2 - rest<=(a:Int)↔lo<=a:=fun a=>by rw[← zbib (Int.natCast_nonneg a),hlo];exact xkg
 unfold lowT lowLJ lowJ;rw[hlo];by_cases c:(lo:Int)<=hiOf e p.2
 ·have part:=zfp ((e / 2).toNat+1) lo (hiOf e p.2 - lo).toNat (by lia);rw[xkk,List.filter_filter,xdu];have e1:(List.range ((e / 2).toNat+1)).filter (fun a=>((fun j=>decide (p.2 - rest<=j/\j<=p.2)) ∘ fun j:Nat=>(j:Int)) a && decide ((e.toNat - a) &&& a=a))=((List.range ((e / 2).toNat+1)).filter (fun j=>decide (lo<=j/\j < lo+(hiOf e p.2 - lo).toNat))).filter fun a=>decide ((e.toNat - a) &&& a=a):=by
   rw[List.filter_filter];refine xjx fun a ha=>?_
   have:=xei.mp ha;rw[Bool.and_comm]
   congr 1
   show decide (p.2 - rest<=(a:Int)/\(a:Int)<=p.2)=_;refine decide_eq_decide.mpr ?_;have hlt:a < lo+(hiOf e p.2 - lo).toNat↔(a:Int) < hiOf e p.2:=by lia
   have ha2:(a:Int)<=e / 2:=e0 ▸ xkg.mpr (xck this)
   exact ⟨fun h=>⟨(hle a).mp h.1,hlt.mpr (zbdm.mpr ⟨h.2,ha2⟩)⟩,fun h=>⟨(hle a).mpr h.1,(zbdm.mp (hlt.mp h.2)).1⟩⟩
  rw[e1,part,xkk,xdu];have e2:(List.range (hiOf e p.2 - lo).toNat).filter (fun i:Nat=>K07.oddW (e - ((lo:Int)+i)) ((lo:Int)+i))=(List.range (hiOf e p.2 - lo).toNat).filter ((fun a=>decide ((e.toNat - a) &&& a=a)) ∘ fun t=>lo+t):=xjx fun i hi=>by
   have:=xei.mp hi;show _=decide ((e.toNat - (lo+i)) &&& (lo+i)=lo+i);rw[← K07.zup]
   congr 1
   lia
  rw[e2];refine List.map_congr_left fun i _=>?_
  simp only[Function.comp];rw[show ((lo+i:Nat):Int)=(lo:Int)+i by lia]
 ·have hz:(((List.range ((e / 2).toNat+1)).filter fun j:Nat=>decide ((e.toNat - j) &&& j=j)).map fun j:Nat=>(j:Int)).filter (fun j=>decide (p.2 - rest<=j/\j<=p.2))=[]:=xit.mpr fun j hj=>by
   obtain ⟨a,ha,rfl⟩:=xdo.mp hj;have:=xei.mp (xfq.mp ha).1;rw[xgz];exact fun h=>c (Int.le_of_lt (xjq (xkg.mpr ((hle a).mp h.1)) (zbdm.mpr ⟨h.2,e0 ▸ xkg.mpr (xck this)⟩)))
  rw[hz,show (hiOf e p.2 - lo).toNat=0 by lia]
  rfl
theorem zrc (e rest:Int) (p:Pt) (t:Nat):lowT e rest p (t+1)=lowT e rest p t++if K07.oddW (e - (loOf rest p.2+t)) (loOf rest p.2+t)=true then [(p.1++[e - (loOf rest p.2+t)],p.2 - (loOf rest p.2+t))] else []:=by
 unfold lowT;rw[xjh,xfp,xfd]
 congr 1
 split
 ·rename_i h;simp[h]
 ·rename_i h;simp[h]
theorem zus (e rest:Int) (p:Pt) (t:Nat):(lowT e rest p t).length<=t:=by
 unfold lowT;rw[xbc];exact xbb (xfu _ _) (by simp)
theorem zrf {e rest:Int} {p:Pt}:(lowLJ e rest p).length<=e.toNat+1:=by
 unfold lowLJ lowJ;rw[xbc];refine xbb (xfu _ _) ?_;rw[xbc];refine xbb (xfu _ _) ?_;rw[xim];lia
theorem zhp (e rest:Int):∀ps:List Pt,(lowLL e rest ps).length<=ps.length * (e.toNat+1)
 | []=>by simp[lowLL]
 | p::ps=>by
  have e1:lowLL e rest (p::ps)=lowLJ e rest p++lowLL e rest ps:=by simp[lowLL]
  have:=zhp e rest ps;have:=@zrf e rest p;rw[e1,xbm,xcd,xkd];lia
theorem zoi (e rest:Int) (ps:List Pt) (p:Pt):lowLL e rest (ps++[p])=lowLL e rest ps++lowLJ e rest p:=by simp[lowLL]
section
variable {st:Store} {n:Nat} {Q:D->Store->Prop}
theorem zer {e rest:Int} {ps:List Pt} (h0:0<=e) (he:e<=1000) (hl:ps.length * (e.toNat+1)<=100000) (hr:∀p∈ps,p.1.length<=1000/\0<=p.2) (hrr:0<=rest) (hp2:∀p∈ps,p.2<=5000) (hr2:rest<=5000) (k:∀g,Q (.lst ((lowLL e rest ps).map ptD)) (st++g)):WP (zu [.lst (ps.map ptD),.int e,.int rest] st) Q:=by
 refine zwf rfl ?_;simp only[W,V,Dd.N];refine ⟨small _ (by simp),?_⟩;refine zjd (fun i σ s=>(∃v w z,σ=[some (.lst (ps.map ptD)),some (.int e),some (.int rest),some (.ref st.length),v,w,z])/\∃g,s=st++(.lst ((lowLL e rest (ps.take i)).map ptD)::g)) ⟨⟨_,_,_,rfl⟩,[],rfl⟩ ?_ ?_
 ·rintro i y σ s hy ⟨⟨v,w,z,rfl⟩,g,rfl⟩;obtain ⟨p,hp,rfl⟩:=zsu hy;have hi:i < ps.length:=(xbl.mp hp).1;obtain ⟨h3,h4⟩:=hr p (xcg hp);have h5:=hp2 p (xcg hp);refine ⟨_,rfl,?_⟩;unfold zbz;have hlen:(lowLL e rest (ps.take i)).length+(e.toNat+1)<=100000:=by
   have h1:=zhp e rest (ps.take i);have h2:(ps.take i).length=i:=by rw[xdb];lia
   rw[h2] at h1;have h3:(i+1) * (e.toNat+1)<=ps.length * (e.toNat+1):=xjk _ hi;rw[xkd] at h3;lia
  have b1:0<=loOf rest p.2/\loOf rest p.2<=5000:=by unfold loOf;split<;>lia
  have b2:0 < hiOf e p.2/\hiOf e p.2<=e / 2+1:=by unfold hiOf;split<;>lia
  simp only[W,V,Dd.N];refine ⟨zox (by lia) (by lia),?_⟩;refine ⟨rngN (show -10000<=loOf rest p.2 by lia) (show loOf rest p.2<=10000 by lia),rngN (show -10000<=hiOf e p.2 by lia) (show hiOf e p.2<=10000 by lia),?_⟩;show WP (forF (gN 6) zbi (rng (loOf rest p.2) (hiOf e p.2 - loOf rest p.2).toNat) _ _) _;refine zjd (fun t σ s=>(∃z,σ=[some (.lst (ps.map ptD)),some (.int e),some (.int rest),some (.ref st.length),some (rowD p.1),some (.int p.2),z])/\∃g,s=st++(.lst ((lowLL e rest (ps.take i)++lowT e rest p t).map ptD)::g)) ⟨⟨_,rfl⟩,g,by simp[lowT]⟩ ?_ ?_
  ·rintro t y σ s hy ⟨⟨z,rfl⟩,g,rfl⟩;obtain ⟨ht,rfl⟩:=zij hy;refine ⟨_,rfl,?_⟩;unfold zbi;simp only[W,V];refine ⟨trivial,?_⟩;refine WP.of zmf ⟨_,rfl,?_⟩;rw[zrc];have hT:=zus e rest p t;by_cases c:K07.oddW (e - (loOf rest p.2+t)) (loOf rest p.2+t)=true
   ·rw[if_pos c,if_pos c];simp only[W,V,M,Dd.N,L];refine ⟨_,_,rfl,zir _ _,small _ (by simp),by rw[xbc];exact small _ (by simp;lia),small _ (by simp),_,_,rfl,zir _ _,by rw[xbc,xbm];exact smallT _ (by lia),⟨_,rfl⟩,g,?_⟩;rw[znc];simp[ptD,rowD]
   ·rw[if_neg c,if_neg c];simp only[W,V,L];exact ⟨⟨_,rfl⟩,g,by simp⟩
  ·rintro σ s ⟨⟨z,rfl⟩,g,rfl⟩;simp only[L];refine ⟨⟨_,_,_,rfl⟩,g,?_⟩;rw[zdq,zut h0 h4,zbc hp,zoi]
 ·rintro σ s ⟨⟨v,w,z,rfl⟩,g,rfl⟩;rw[xbc,xdj];simp only[W,V,M,Dd.N];refine ⟨_,_,rfl,zir _ _,?_⟩;rw[znc];exact k _
end
theorem zho {r:Row} {k:Int} {P:Row->Int × List Pt->Prop} (h0:P [] (halves r,[([],k)])) (h:∀m e s,P m s->P (m++[e]) (lowStep s e)):∀(i:Nat),P (r.take i) ((r.take i).foldl lowStep (halves r,[([],k)])):=fun i=>by
 induction i with
 | zero=>exact h0
 | succ i ih =>
  by_cases c:i < r.length
  ·have g:r[i]?=some r[i]:=xbj c;rw[zbc g,xio];exact h _ _ _ ih
  ·rw[xet (by lia)] at ih ⊢;exact ih
theorem zhn (r:Row) (k:Int) (i:Nat):((r.take i).foldl lowStep (halves r,[([],k)])).2.length<=box (r.take i):=by
 refine zho (P:=fun m s=>s.2.length<=box m) (by simp[box]) (fun m e s hs=>?_) i;have:=zhp e (s.1 - e / 2) s.2;rw[zeb];show (lowLL e (s.1 - e / 2) s.2).length<=box m * ((e.toNat+1) * 1)
 rw[Nat.mul_one];exact xbb this (xjk _ hs)
theorem zrd (r:Row) {k:Int} (hk:0<=k) (i:Nat):∀p∈((r.take i).foldl lowStep (halves r,[([],k)])).2,p.1.length=(r.take i).length/\0<=p.2/\p.2<=k:=by
 refine zho (P:=fun m s=>∀p∈s.2,p.1.length=m.length/\0<=p.2/\p.2<=k) (by simp;lia) (fun m e s hs=>?_) i;intro q hq;unfold lowStep lowLL lowLJ at hq;obtain ⟨p,hp,hq⟩:=List.mem_flatMap.mp hq;obtain ⟨j,hj,rfl⟩:=xdo.mp hq;obtain ⟨hj1,hj2⟩:=xfq.mp hj;simp only[xgz] at hj2;have:0<=j:=by
  unfold lowJ at hj1;obtain ⟨a,_,rfl⟩:=xdo.mp hj1;lia
 obtain ⟨a,b,c⟩:=hs p hp;refine ⟨?_,by show 0<=p.2 - j;lia,by show p.2 - j<=k;lia⟩;rw[xbm,xbm,a]
 rfl
theorem zof (r:Row) (k:Int) (i:Nat):((r.take i).foldl lowStep (halves r,[([],k)])).1+halves (r.take i)=halves r:=by
 refine zho (P:=fun m s=>s.1+halves m=halves r) (by simp[halves]) (fun m e s hs=>?_) i;rw[zen];show s.1 - e / 2+(halves m+halves [e])=halves r;have:halves [e]=e / 2:=by simp[halves]
 lia
theorem zrp {r:Row} (h:∀x∈r,0<=x):halves r<=r.sum:=by
 induction r with
 | nil=>simp[halves]
 | cons a r ih =>
  have:=ih fun x hx=>h x (xca _ hx)
  have h1:=h a xbu;have:halves (a::r)=a / 2+halves r:=by simp[halves]
  rw[xgn];lia
section
variable {st:Store} {n:Nat} {Q:D->Store->Prop}
theorem zej {r:Row} {t:Int} (hp:∀x∈r,0<=x/\x<=1000) (hl:r.length<=1000) (hb:box r<=20000) (ht:0<=t) (ht2:t<=5000) (hs:r.sum<=5000) (k:∀g,Q (.lst (rowsD (lowR t r))) (st++g)):WP (zt [rowD r,.int t] st) Q:=by
 refine zwf rfl ?_;have pos:∀x∈r,0<=x:=fun x hx=>(hp x hx).1
 refine zcs (R:=fun fl s=>fl=.nx [some (rowD r),some (.int t),some (.lst ([(([]:Row),t)].map ptD)),none,none]/\s=st) ?_ ?_
 ·simp only[W,V,Dd.N];exact ⟨small _ (by simp),small _ (by simp),small _ (by simp),rfl,trivial⟩
 rintro fl s ⟨rfl,rfl⟩;show WP _ _;refine zcs (R:=fun fl s'=>fl=.nx [some (rowD r),some (.int t),some (.lst ([(([]:Row),t)].map ptD)),some (.int (halves r)),none]/\s'=s) ?_ ?_
 ·rw[show ∀{i:Nat} {f:SE} {σ:DS} {st:Store} {Q:Fl->Store->Prop},WP (sSet i f σ st) Q=WP (f σ st) (fun v st1=>Q (.nx (σ.set i (some v))) st1) from W.2.2.2.2.2.2.2.2.2.2.2.2.2.2.2.2.2.2.2.2.2.2.2.2.2.2.2.2.2.2.2.2.2.2.1];simp only[W,V,Dd.N];refine ⟨by rw[xbc];exact small _ (by lia),?_⟩;refine zwp (as:=r) (fun σ=>∃v,σ=[v]) (fun _=>true) (fun x=>.int (x / 2)) .int ⟨_,rfl⟩ ?_ ?_
  ·rintro x hx σ ⟨v,rfl⟩;exact ⟨_,rfl,⟨_,rfl⟩,by simp only[W,and_self],fun _=>by simp only[W,V,and_true];exact zox (by lia) (by lia)⟩
  ·rw[zkx];simp only[M];refine ⟨r.map (· / 2),?_,rfl,trivial⟩;have:=zga (r.map (· / 2));rw[xdu] at this;exact this
 rintro fl s' ⟨rfl,rfl⟩;show WP _ _;simp only[W,V,Dd.N];refine zjd (fun i σ s2=>(∃v,σ=[some (rowD r),some (.int t),some (.lst (((r.take i).foldl lowStep (halves r,[([],t)])).2.map ptD)),some (.int ((r.take i).foldl lowStep (halves r,[([],t)])).1),v])/\∃g,s2=s'++g) ⟨⟨_,rfl⟩,[],by simp⟩ ?_ ?_
 ·rintro i y σ s2 hy ⟨⟨v,rfl⟩,g,rfl⟩;obtain ⟨e,he,rfl⟩:=zsu hy;refine ⟨_,rfl,?_⟩;unfold zbv;obtain ⟨h1,h2⟩:=hp e (xcg he);have hlen:=zhn r t i;have hbx:=zvy r (i+1);rw[zbc he,zeb,show box [e]=e.toNat+1 by simp[box]] at hbx;have hm:((r.take i).foldl lowStep (halves r,[([],t)])).2.length * (e.toNat+1)<=20000:=xbb (xjk _ hlen) (xbb hbx hb);have hrow:=zrd r ht i;have hrest:=zof r t (i+1);have hn1:=zkv (r:=r.drop (i+1)) fun x hx=>pos x (xhh hx)
  have hn3:halves (r.take (i+1))+halves (r.drop (i+1))=halves r:=by rw[← zen,xdm]
  have hn4:=zkv (r:=r.take (i+1)) fun x hx=>pos x (xgc hx)
  have hn2:=zrp pos;have est:(r.take (i+1)).foldl lowStep (halves r,[([],t)])=lowStep ((r.take i).foldl lowStep (halves r,[([],t)])) e:=by rw[zbc he,xio];rfl
  rw[est] at hrest ⊢;generalize (r.take i).foldl lowStep (halves r,[([],t)])=s0 at hm hrow hrest ⊢;have hr1:(lowStep s0 e).1=s0.1 - e / 2:=rfl;simp only[W,V,M,Dd.N,L];refine ⟨_,rfl,zox (by lia) (by lia),?_⟩;refine zer h1 h2 (by lia) (fun p hp=>?_) (by lia) (fun p hp=>by have:=(hrow p hp).2.2;lia) (by lia) fun g2=>?_
  ·obtain ⟨q1,q2,_⟩:=hrow p hp;rw[q1,xdb];exact ⟨by lia,q2⟩
  ·simp only[W,V,L];exact ⟨⟨_,rfl⟩,g++g2,by simp⟩
 ·rintro σ s2 ⟨⟨v,rfl⟩,g,rfl⟩;rw[xbc,xdj];simp only[W,V,M,Dd.N];have hlen:=zhn r t r.length;rw[xdj] at hlen;refine ⟨by rw[xbc];exact small _ (by lia),?_⟩;refine zwp (as:=(r.foldl lowStep (halves r,[([],t)])).2) (fun σ=>∃v w,σ=[v,w]) (fun _=>true) (fun p=>rowD p.1) ptD ⟨_,_,rfl⟩ ?_ ?_
  ·rintro p hp σ ⟨v,w,rfl⟩;exact ⟨_,rfl,⟨_,_,rfl⟩,by simp only[W,and_self],fun _=>by simp only[W,V,and_self]⟩
  ·rw[zkx];have:=k g;unfold lowR rowsD at this;rw[xdu] at this;exact this
theorem zog (r:Row) (k:Int):(lowR k r).length<=box r:=by
 have:=zhn r k r.length;rw[xdj] at this;unfold lowR;rw[xbc];exact this
theorem zoh {k:Int} {B:Nat}:∀{l:List Row},(∀r∈l,box r<=B)->(lowL k l).length<=l.length * B
 | [],_=>by simp[lowL]
 | r::l,h=>by
  have e:lowL k (r::l)=lowR k r++lowL k l:=by simp[lowL]
  have h1:=xbb (zog r k) (h r xbu);have h2:=zoh (k:=k) (l:=l) fun x hx=>h x (xca _ hx)
  rw[e,xbm,xcd,xkd];lia
theorem zre (k:Int) (l:List Row) (r:Row):lowL k (l++[r])=lowL k l++lowR k r:=by simp[lowL]
theorem zod {l:List Row} {t:Int} (ht:0<=t) (ht2:t<=5000) (hp:∀r∈l,∀x∈r,0<=x/\x<=1000) (hr:∀r∈l,r.length<=1000) (hs:∀r∈l,r.sum<=5000) (hb:∀r∈l,box r<=20000) (hl:l.length<=45) (k:∀g,Q (sumD (oddS (lowL t l))) (st++g)):WP (zez [sumD l,.int t] st) Q:=by
 refine zwf rfl ?_;simp only[W,V,Dd.N];refine WP.of (zmn (st:=st) (i:=t)) ⟨true,rfl,?_⟩;have tn:¬ t < 0:=by lia
 simp only[W,V,Dd.N,tn,xgh];have total:∀i,(lowL t (l.take i)).length<=900000:=fun i=>by
  have:=zoh (k:=t) (l:=l.take i) fun x hx=>hb x (xgc hx)
  have h3:(l.take i).length<=l.length:=by rw[xdb];exact xfh _ _
  lia
 refine zjd (fun i σ s=>(∃v w,σ=[some (sumD l),some (.int t),some (.ref st.length),v,w])/\∃g,s=st++(.dT (trueD (oddL (lowL t (l.take i))))::g)) ⟨⟨_,_,rfl⟩,[],rfl⟩ ?_ ?_
 ·rintro i y σ s hy ⟨⟨v,w,rfl⟩,g,rfl⟩;obtain ⟨r,hrr,rfl⟩:=zeu hy;have hm:=xcg hrr;refine ⟨_,rfl,?_⟩;unfold zdn;simp only[W,V,M,Dd.N,L];rw[zbc hrr,zre];have h0:=total i;have h1:=zda (lowL t (l.take i));refine zej (hp r hm) (hr r hm) (hb r hm) ht ht2 (hs r hm) fun g2=>?_
  simp only[W,V,Dd.N];rw[xcj,xke];generalize g++g2=g3;have hpl:=xbb (zog r t) (hb r hm);refine zjd (fun j σ s=>(∃w,σ=[some (sumD l),some (.int t),some (.ref st.length),some (rowD r),w])/\s=st++(.dT (trueD (((lowR t r).take j).foldl flipL (oddL (lowL t (l.take i)))))::g3)) ⟨⟨_,rfl⟩,rfl⟩ ?_ ?_
  ·rintro j y σ s hy ⟨⟨w,rfl⟩,rfl⟩;obtain ⟨b,hb',rfl⟩:=zeu hy;refine ⟨_,rfl,?_⟩;unfold zha;simp only[W,V,L];have h1:=zht ((lowR t r).take j) (oddL (lowL t (l.take i))) (zdt _);have h2:((lowR t r).take j).length<=(lowR t r).length:=by rw[xdb];exact xfh _ _
   refine zzi (ks:=((lowR t r).take j).foldl flipL (oddL (lowL t (l.take i)))) (zir _ _) (by lia) ⟨⟨_,rfl⟩,?_⟩;rw[znc,zbc hb',xio]
   rfl
  ·rintro σ s ⟨⟨w,rfl⟩,rfl⟩;simp only[L];refine ⟨⟨_,_,rfl⟩,g3,?_⟩;rw[zbu,xdj];unfold oddL;rw[xio]
 ·rintro σ s ⟨⟨v,w,rfl⟩,g,rfl⟩;have h0:=total l.length;rw[xdj] at h0;rw[zbu,xdj];simp only[W,V];have h1:=zda (lowL t l);refine zqh (ks:=oddL (lowL t l)) (zir _ _) (by lia) ?_;simp only[W,V];exact k _
end
section
variable {st:Store} {n:Nat} {Q:D->Store->Prop}
theorem zwz:∀{r:List Int},(∀x∈r,0<=x)->0<=r.sum
 | [],_=>by simp
 | a::r,h=>by
  have h1:=h a (by simp);have h2:=zwz fun x hx=>h x (xca _ hx)
  rw[xgn];lia
theorem ztr (l:List Int) (j:Nat):(l.drop j++l.take j).sum=l.sum:=by
 have:(l.take j++l.drop j).sum=l.sum:=by rw[xdm]
 rw[xht] at this ⊢;lia
theorem zlv {N d:Int} (hb:BagAt st n) (hN:1<=N) (hN2:N<=1000) (hd:0<=d) (hd2:d<=1000) (k:∀r st',r.length=N.toNat->(∀x∈r,0<=x)->r.sum<=d->Drew st st' n->Q (rowD r) st'):WP (zbp [.ref n,.int N,.int d] st) Q:=by
 refine zwf rfl ?_;simp only[W,V];refine zfd hb (by lia) (by lia) fun l0 st1 h1 h2 d1=>?_
 refine zfd d1.bag (by lia) (by lia) fun r1 st2 h3 h4 d2=>?_
 have D2:=d1.trans d2
 have main:∀left:Int,0<=left->left<=d->WP (sSeq (sSet 4 (eLstM aNil))
   (sSeq (sFor (iR1 (aCons (eOp oSub (eVar 1) (eC (.int 1))) aNil)) (gN 5) zbw)
   (sSeq (sDrop (eAppend (eVar 4) (aCons (eVar 3) aNil)))
   (sSeq (sSet 6 (eCall zn (aCons (eVar 0) (aCons (eVar 1) aNil))))
   (sRet (eCall bTuple (aCons (eOp oAdd (eSl (eVar 4) (pSome (eVar 6)) pNone) (eSl (eVar 4) pNone (pSome (eVar 6)))) aNil)))))) [some (.ref n),some (.int N),some (.int d),some (.int left),none,none,none] st2) (retK Q):=fun left hl0 hl1=>by
  simp only[W,V];refine ⟨small _ (by simp),True.intro,_,rfl,rngN (by lia) (by lia),?_⟩;have hk:st.length<=st2.length:=D2.len;have hkn:st2.length≠n:=xjd (D2.lt hb.lt);refine zjd (fun i σ s=>∃(left:Int) (r:List Int) (v:Option D),σ=[some (.ref n),some (.int N),some (.int d),some (.int left),some (.ref st2.length),v,none]/\0<=left/\r.sum+left<=d/\r.length=i/\(∀x∈r,0<=x)/\Drew st s n/\s[st2.length]?=some (.lst (r.map .int)))
   ⟨left,[],none,rfl,hl0,(by rw[List.sum_nil,xkf];exact hl1),rfl,by simp,D2.trans (.more D2.bag _),by simp⟩ ?_ ?_
  ·rintro i x σ s hx ⟨left,r,v,rfl,a1,a2,a3,a4,a5,a6⟩;obtain ⟨hi,rfl⟩:=zij hx;refine ⟨_,rfl,?_⟩;unfold zbw;simp only[W,V,M];refine ⟨_,_,rfl,a6,?_⟩;have a0:=zwz a4;refine zfd a5.bag (by lia) (by lia) fun y s2 b1 b2 e2=>?_
   have a6':s2[st2.length]?=some (.lst (r.map .int)):=(e2.keep _ (zx a6) hkn).trans a6;have E2:=a5.trans e2;have hlt:=zx a6';refine ⟨_,_,rfl,a6',by rw[xbc];exact smallT _ (by lia),?_⟩;have a7:(s2.set st2.length (.lst (r.map D.int++[D.int y])))[st2.length]?=some (.lst ((r++[y]).map .int)):=by rw[zgh hlt];simp
   refine zbgw (xs:=(r++[y]).map .int) (d:=.int y) (zhg a7) (by rw[xfd];exact zwb _ _) ?_;simp only[W,V,L];exact ⟨True.intro,left - y,r++[y],_,rfl,by lia,(by rw[xht,xgn,List.sum_nil];lia),by simp[a3],zju a4 b1,E2.over hb.lt hk,a7⟩
  ·rintro σ s ⟨left,r,v,rfl,a1,a2,a3,a4,a5,a6⟩;rw[zdq] at a3;simp only[W,V,M];have hlt:=zx a6;refine ⟨_,_,rfl,a6,_,_,rfl,a6,by rw[xbc];exact smallT _ (by lia),?_⟩;have a7:(s.set st2.length (.lst (r.map D.int++[D.int left])))[st2.length]?=some (.lst ((r++[left]).map .int)):=by rw[zgh hlt];simp
   have D5:Drew st (s.set st2.length (.lst (r.map D.int++[D.int left]))) n:=a5.over hb.lt hk;refine zfd D5.bag (by lia) (by lia) fun y s2 b1 b2 e2=>?_
   have a8:s2[st2.length]?=some (.lst ((r++[left]).map .int)):=(e2.keep _ (zx a7) hkn).trans a7;refine ⟨y,rfl,.inr ⟨_,ziz a8,y,rfl,.inr ⟨_,ziz a8,?_⟩⟩⟩;obtain ⟨j,rfl⟩:=xik b1;rw[zsc,zbar];refine WP.of (zts (small _ (by rw[xbm,xiz];lia))) ?_;simp only[W,V];refine k _ _ ?_ ?_ ?_ (D5.trans e2)
   ·rw[zna,xbm,xiz];lia
   ·intro x hx;rcases xbz.mp hx with hx | hx
    ·exact zju a4 a1 x (xhh hx)
    ·exact zju a4 a1 x (xgc hx)
   ·rw[ztr,xht,xgn,List.sum_nil];lia
 simp only[W,V];split
 ·have q:=main d hd (Int.le_refl _);simp only[W,V] at q;exact q
 ·have q:=main l0 h1 (by lia);simp only[W,V] at q;exact q
theorem zxa {N m d:Int} (hb:BagAt st n) (hN:1<=N) (hN2:N<=1000) (hm:0<=m) (hm2:m < 63) (hd:0<=d) (hd2:d<=1000) (k:∀l st',l.length<=m->SumOk N.toNat l->(∀r∈l,r.sum<=d)->Drew st st' n->Q (sumD l) st'):WP (zed [.ref n,.int N,.int m,.int d] st) Q:=by
 refine zwf rfl ?_;simp only[W,V];refine zfd hb (by lia) (by lia) fun c st1 h1 h2 d1=>?_
 refine ⟨c,rfl,rngN (by lia) (by lia),by rw[zdq];exact small _ (by lia),?_⟩;refine zsj (fun i acc σ s=>∃(l:List (List Int)) (v:Option D),acc=rowsD l/\l.length=i/\(∀r∈l,r.length=N.toNat/\∀x∈r,0<=x)/\(∀r∈l,r.sum<=d)/\σ=[v,some (.ref n),some (.int N),some (.int d)]/\Drew st s n) ⟨[],none,rfl,rfl,by simp,by simp,rfl,d1⟩ ?_ ?_
 ·rintro i x acc σ s hx ⟨l,v,rfl,a1,a2,a0,rfl,a3⟩;refine ⟨_,rfl,?_⟩;simp only[W,V];refine zlv a3.bag hN hN2 hd hd2 fun r s2 b1 b2 b0 b3=>⟨l++[r],_,by simp[rowsD],by simp[a1],fun z hz=>?_,fun z hz=>?_,rfl,a3.trans b3⟩
  ·rcases xbz.mp hz with hz | hz
   ·exact a2 z hz
   ·simp at hz;subst hz;exact ⟨b1,b2⟩
  ·rcases xbz.mp hz with hz | hz
   ·exact a0 z hz
   ·simp at hz;subst hz;exact b0
 ·rintro ys σ s ⟨l,v,rfl,a1,a2,a0,rfl,a3⟩;rw[zdq] at a1;refine zyp (l:=l) rfl (by lia) fun g=>k _ _ ?_ (zqf a2) (fun r hr=>a0 r (zjs hr)) (a3.trans (.more a3.bag g))
  have:=zmg l;lia
end
structure Odd53 (d:D):Prop where
 pl:Pl 4 d
 no:wholeB d=false\/∃i:Int,d=.int i/\i < 0
section
variable {st:Store} {n:Nat} {Q:D->Store->Prop}
theorem zdr {g : Store -> Res D} (h : WX (g st) (fun _ s => Q (.str "told") s) (fun x s => x = ⟨"NoPart", []⟩ /\ Q (.str "part") s)) : WP (zm g [.ref n] st) Q := by
 unfold zm;cases e:g st with
 | stuck=>rw[e] at h;exact h.elim
 | ok v s1 =>
  rw[e] at h;have z : fnD 4 1 (zr g) [.ref n] st = .ok (.str "told") s1 := by
   unfold fnD zr sSeq sTry sDrop;simp only[e]
   rfl
  exact WP.of z h
 | exc x s1 =>
  rw[e] at h;obtain ⟨rfl,h⟩:=h;have z : fnD 4 1 (zr g) [.ref n] st = .ok (.str "part") s1 := by
   unfold fnD zr sSeq sTry sDrop;simp only[e]
   rfl
  exact WP.of z h
theorem zcv {F:(Store->Res D)->DFn} {is:List Nat} {lam:SE} {σ:DS} (h0:st[0]?=some .tab) (q:WP (F (lam (startD 0 is σ)) [.ref st.length] (st++[.dead])) Q):WP (eRefd F is lam σ st) Q:=by
 unfold eRefd;rw[h0];exact q
theorem zbgt {α:Type} {r:Res α} {x:Exc} {s:Store} (h:WX r (fun _ _=>False) (fun y t=>y=x/\t=s)):r=.exc x s:=by
 cases r with
 | ok a t=>exact h.elim
 | exc y t=>obtain ⟨rfl,rfl⟩:=h;rfl
 | stuck=>exact h.elim
theorem zps {α:Type} {r:Res α} {x:Exc} {s:Store} {P:α->Store->Prop} {E:Exc->Store->Prop} (e:r=.exc x s) (h:E x s):WX r P E:=by rw[e];exact h
theorem zlp {d : D} (h : Odd53 d) : zk [d] st = .exc ⟨"NoPart", []⟩ st := by
 refine zbgt (zbgi rfl ?_);simp only[VX,W,V];refine WP.of (zgv h.pl) ⟨_,rfl,?_⟩;rcases h.no with h | ⟨i,rfl,hi⟩
 ·rw[h];simp only[VX,W,V,Bool.not_false];exact ⟨by decide,by first | trivial | exact ⟨rfl,rfl⟩⟩
 ·simp only[VX,W,V,wholeB,Bool.not_true,hi,xfn];exact ⟨by decide,by first | trivial | exact ⟨rfl,rfl⟩⟩
theorem zmj {x d : D} (h : Odd53 d) : zbh [x, d] st = .exc ⟨"NoPart", []⟩ st := by
 refine zbgt (zbgi rfl ?_);simp only[VX,W,V];refine WP.of (zgv h.pl) ⟨_,rfl,?_⟩;rcases h.no with h | ⟨i,rfl,hi⟩
 ·rw[h];simp only[VX,W,V,Bool.not_false];exact ⟨by decide,by first | trivial | exact ⟨rfl,rfl⟩⟩
 ·simp only[VX,W,V,wholeB,Bool.not_true,hi,xfn];exact ⟨by decide,by first | trivial | exact ⟨rfl,rfl⟩⟩
theorem zoo {n np:Nat} {b:SS} {ds:List D} {x:Exc} {s:Store} (hl:ds.length=np) (h:b (ds.map some++List.replicate (n - np) none) st=.exc x s):fnD n np b ds st=.exc x s:=by
 unfold fnD;rw[if_pos hl,h]
theorem ztu {x d : D} (h : Odd53 d) : zee [x, d] st = .exc ⟨"NoPart", []⟩ st := by
 refine zoo rfl ?_;have e : eCall zk (noX (aCons (eVar 1) aNil)) [some x, some d] st = .exc ⟨"NoPart", []⟩ st := zlp h
 show sRet (onlyX (eCall zk (noX (aCons (eVar 1) aNil)))) [some x,some d] st=_;unfold sRet onlyX;rw[e];rfl
theorem zff {x d : D} (h : Odd53 d) : zbf [x, d] st = .exc ⟨"NoPart", []⟩ st := by
 refine zoo rfl ?_;have e : zArg (eVar 0) (zArg (eVar 0) (eCall zk (noX (aCons (eVar 1) aNil)))) [some x, some d, none, none] st = .exc ⟨"NoPart", []⟩ st := zlp h
 show sSeq (sSet 2 (onlyX (zArg (eVar 0) (zArg (eVar 0) (eCall zk (noX (aCons (eVar 1) aNil))))))) sStuck [some x,some d,none,none] st=_;unfold sSeq sSet onlyX;rw[e];rfl
theorem zmr {x d : D} (h : Odd53 d) : zbg [x, d] st = .exc ⟨"NoPart", []⟩ st := by
 refine zoo rfl ?_;have e : eCall zbf (noX (aCons (eVar 0) (aCons (eVar 1) aNil))) [some x, some d] st = .exc ⟨"NoPart", []⟩ st := zff h
 show sRet (onlyX (eCall zbf (noX (aCons (eVar 0) (aCons (eVar 1) aNil))))) [some x,some d] st=_;unfold sRet onlyX;rw[e];rfl
theorem zsl {C:ST} {r R:SS} {σ:DS} {fl:Fl} {s:Store} (h:sSeq (sIf C sStuck sNx) R σ st=.ok fl s):sSeq (sIf (noX C) r (noX sNx)) (noX R) σ st=.ok fl s:=by
 cases e:C σ st with
 | stuck=>unfold sSeq sIf at h;rw[e] at h;cases h
 | exc x t=>unfold sSeq sIf at h;rw[e] at h;cases h
 | ok b t =>
  have e':noX C σ st=.ok b t:=by unfold noX;rw[e]
  cases b with
  | true=>unfold sSeq sIf at h;rw[e] at h;cases h
  | false =>
   have h':R σ t=.ok fl s:=by unfold sSeq sIf at h;rw[e] at h;exact h
   unfold sSeq sIf;rw[e'];show noX R σ t=_;unfold noX;rw[h']
theorem zoe {ds:List D} {v:D} {s:Store} (h:zez ds st=.ok v s):zbh ds st=.ok v s:=by
 unfold zez fnD at h;unfold zbh fnD;split at h
 ·next hl =>
  rw[if_pos hl];split at h
  ·next e=>rw[zsl e];exact h
  ·next e=>rw[zsl e];exact h
  ·cases h
  ·cases h
 ·cases h
theorem zwx {l:List Row} {E:Exc->Store->Prop} (hp:∀r∈l,∀x∈r,0<=x/\x<=1000) (hr:∀r∈l,r.length<=1000) (hs:∀r∈l,r.sum<=5000) (hb:∀r∈l,box r<=20000) (hl:l.length<=45) (k:∀v g,Q v (st++g)):WX (zbh [sumD l,.int 0] st) Q E:=by
 have h:WP (zez [sumD l,.int 0] st) Q:=zod (Int.le_refl 0) (by decide) hp hr hs hb hl fun g=>k _ g
 obtain ⟨v,s,e,q⟩:=h.get;rw[zoe e];exact q
end
theorem zik:∀d∈([]:List D),Pl 4 d:=fun d hd=>by cases hd
theorem zno {x:D} {xs:List D} (h:Pl 4 x) (t:∀d∈xs,Pl 4 d):∀d∈x::xs,Pl 4 d:=fun d hd=>by
 rcases xbt.mp hd with rfl | hd
 ·exact h
 ·exact t d hd
theorem zyt:∀d∈([]:List D),Odd53 d:=fun d hd=>by cases hd
theorem zbd {x:D} {xs:List D} (h:Odd53 x) (t:∀d∈xs,Odd53 d):∀d∈x::xs,Odd53 d:=fun d hd=>by
 rcases xbt.mp hd with rfl | hd
 ·exact h
 ·exact t d hd
theorem zct {st:Store} (h:st[0]?=some .tab) (g:Store):(st++g)[0]?=some .tab:=by rw[xbv (zx h)];exact h
theorem zdp {st s:Store} {n:Nat} (h:st[0]?=some .tab) (hn:BagAt st n) (d:Drew st s n):s[0]?=some .tab:=by
 refine (d.keep 0 (zx h) fun e=>?_).trans h;subst e;obtain ⟨c,x,e,_⟩:=hn;rw[h] at e;cases e
theorem more53 {s:Store} {m:Nat} {o:O} (h:s[m]?=some o):(s++[.dead])[m]?=some o:=by rw[xbv (zx h)];exact h
theorem put53 {s:Store} {m:Nat} {xs ys:List D} (hm:s[m]?=some (.lst xs)) (t0:s[0]?=some .tab):(List.set (s++[.dead]) m (.lst ys))[m]?=some (.lst ys)/\(List.set (s++[.dead]) m (.lst ys))[0]?=some .tab:=by
 have h1:=more53 hm;have h2:=more53 t0;refine ⟨zgh (zx h1),?_⟩;rw[xcl (fun e=>by subst e;rw[hm] at t0;cases t0)];exact h2
theorem zvn {s : Store} {m : Nat} (h : s[m]? = some (.lst [.str "part", .str "part", .str "part", .str "part"])) : oEqG true (.ref m) (.lst (timesL [.str "part"] 4)) s = .ok (.bl false) s := by
 have e1 : dataOf s (.ref m) = some (.list [.str "part", .str "part", .str "part", .str "part"]) := by
  unfold dataOf now;rw[ziz h]
  rfl
 have e2 : dataOf s (.lst (timesL [.str "part"] 4)) = some (.list [.str "part", .str "part", .str "part", .str "part"]) := rfl
 have e3 : PyData.eqv (.list [.str "part", .str "part", .str "part", .str "part"]) (.list [.str "part", .str "part", .str "part", .str "part"]) = true := by decide +kernel
 unfold oEqG;rw[e1,e2];dsimp only;rw[if_pos ⟨by decide +kernel,by decide +kernel⟩,e3]
 rfl
theorem oEq53 {neg:Bool} {a b:Str} {r:Bool} {st:Store} (ha:PySem.SeqAt.shaped (.str a)=true) (hb:PySem.SeqAt.shaped (.str b)=true) (h:(a == b)=r):oEqG neg (.str a) (.str b) st=.ok (.bl (if neg then !r else r)) st:=by
 have e:∀x:Str,dataOf st (.str x)=some (.str x):=fun _=>rfl
 unfold oEqG;rw[e,e];dsimp only;rw[if_pos ⟨ha,hb⟩];show Res.ok (D.bl (if neg then !(a == b) else (a == b))) st=_;rw[h]
theorem mul53 {s : Store} : oMulL (.lst [.str "part"]) (.int 4) s = .ok (.lst (timesL [.str "part"] 4)) s := by
 unfold oMulL;dsimp only;rw[if_pos ⟨(fun z=>by cases z),by decide,by decide,by simp⟩]
theorem zrm (ns:List Int) (hl:ns.length<=63):∀st:Store,st=[.tab]->∃st',zbgh [.scr (ns.map .int)] st=.ok (.bl true) st':=fun st hst=>by
 have key:WP (zbgh [.scr (ns.map .int)] st) (fun v _=>v=.bl true):=by
  have hs0:st[0]?=some .tab:=by rw[hst];rfl
  clear hst;refine zwf rfl ?_;simp only[W,V];have hle:((ns.map D.int).length:Int)<=63:=by rw[xbc];lia
  have hge:(0:Int)<=((ns.map D.int).length:Int):=by lia
  generalize ((ns.map D.int).length:Int)=len at hle hge;refine ⟨_,rfl,rngN (by split<;>lia) (by split<;>lia),?_⟩;refine zjd (fun i σ s=>(∃v1 v2 v3 v4 v5 v6 v7:Option D,σ=[some (.scr (ns.map .int)),v1,v2,v3,v4,v5,v6,v7])/\s[0]?=some .tab) ⟨⟨_,_,_,_,_,_,_,rfl⟩,hs0⟩ ?_ ?_
  ·rintro i x σ s0 hx ⟨⟨v1,v2,v3,v4,v5,v6,v7,rfl⟩,h0⟩;obtain ⟨hi,rfl⟩:=zij hx;have hi2:i<=40:=by split at hi<;>lia
   refine ⟨_,rfl,?_⟩;unfold zpp;refine zcs (R:=fun fl s=>∃n,BagAt s n/\fl=.nx [some (.scr (ns.map .int)),some (.int i),some (.ref n),v3,v4,v5,v6,v7]/\s[0]?=some .tab) ?_ ?_
   ·simp only[W,V];rw[xkf];exact zbfw hl (by lia) fun g hb=>⟨_,hb,rfl,zct h0 g⟩
   rintro fl s ⟨n,hb,rfl,t0⟩;show WP _ _;refine zcs (R:=fun fl s=>∃N:Int,(1<=N/\N<=10)/\BagAt s n/\fl=.nx [some (.scr (ns.map .int)),some (.int i),some (.ref n),some (.int N),v4,v5,v6,v7]/\s[0]?=some .tab) ?_ ?_
   ·simp only[W,V];refine zfd hb (by lia) (by lia) fun a s1 a1 a2 d1=>?_
    simp only[W,V];exact ⟨_,⟨by lia,by lia⟩,d1.bag,rfl,zdp t0 hb d1⟩
   rintro fl s ⟨N,hN,hb,rfl,t0⟩;show WP _ _;refine zcs (R:=fun fl s=>∃l:List Row,(l.length<=3/\SumOk N.toNat l/\∀r∈l,r.sum<=6)/\BagAt s n/\fl=.nx [some (.scr (ns.map .int)),some (.int i),some (.ref n),some (.int N),some (sumD l),v5,v6,v7]/\s[0]?=some .tab) ?_ ?_
   ·simp only[W,V];exact zxa hb hN.1 (by lia) (by lia) (by lia) (by lia) (by lia) fun l s1 a1 a2 a3 d1=>⟨l,⟨by lia,a2,a3⟩,d1.bag,rfl,zdp t0 hb d1⟩
   rintro fl s ⟨l,⟨l1,l2,l3⟩,hb,rfl,t0⟩;show WP _ _;refine zcs (R:=fun fl s=>∃ts:List D,(ts.length=14/\∀d∈ts,Odd53 d)/\BagAt s n/\fl=.nx [some (.scr (ns.map .int)),some (.int i),some (.ref n),some (.int N),some (sumD l),some (.lst ts),v6,v7]/\s[0]?=some .tab) ?_ ?_
   ·simp only[W,V];refine ⟨⟨by decide,by decide,by decide⟩,?_⟩;refine ztt hb (by decide) (by decide +kernel) fun a s1 a1 a2 d1=>?_
    simp only[W,V];refine ⟨trivial,small _ (by simp),small _ (by simp),small _ (by simp),small _ (by simp),small _ (by simp),small _ (by simp),small _ (by simp),small _ (by simp),_,⟨rfl,?_⟩,d1.bag,rfl,zdp t0 hb d1⟩;have oi:∀j:Int,j < 0->Odd53 (.int j):=fun j h=>⟨.int _,.inr ⟨j,rfl,h⟩⟩
    have on:∀x:D,Pl 4 x->wholeB x=false->Odd53 x:=fun x h e=>⟨h,.inl e⟩
    have one:∀x:D,Pl 4 x->Pl 4 (.tup [x]):=fun x h=>.tup (zno h zik) (by simp)
    exact zbd (oi _ (by decide)) (zbd (oi _ (by lia)) (zbd (on _ (.bl _) rfl) (zbd (on _ (.bl _) rfl) (zbd (on _ .non rfl) (zbd (on _ (.str _) rfl) (zbd (on _ (.str _) rfl) (zbd (on _ (one _ (.int _)) rfl) (zbd (on _ (.tup zik (by simp)) rfl) (zbd (on _ (.lst (zno (.int _) zik) (by simp)) rfl) (zbd (on _ (.lst zik (by simp)) rfl) (zbd (on _ (one _ (.tup zik (by simp))) rfl) (zbd (on _ (.str _) rfl) (zbd (on _ (one _ .non) rfl) zyt)))))))))))))
   rintro fl s ⟨ts,⟨t1,t2⟩,hb,rfl,t0⟩;show WP _ _;refine zcs (R:=fun fl s=>∃d,Odd53 d/\fl=.nx [some (.scr (ns.map .int)),some (.int i),some (.ref n),some (.int N),some (sumD l),some (.lst ts),some d,v7]/\s[0]?=some .tab) ?_ ?_
   ·simp only[W,V];refine zfd hb (by lia) (by lia) fun j s1 j1 j2 d1=>?_
    exact zxu j1 (by lia) fun d hd=>⟨_,t2 d hd,rfl,zdp t0 hb d1⟩
   rintro fl s ⟨d,hd,rfl,t0⟩;clear hb;show WP _ _;refine zcs (R := fun fl s => ∃ m, fl = .nx [some (.scr (ns.map .int)), some (.int i), some (.ref n), some (.int N), some (sumD l), some (.lst ts), some d, some (.ref m)] /\ s[m]? = some (.lst [.str "part"]) /\ s[0]? = some .tab) ?_ ?_
   ·simp only[W,V];refine zcv t0 (zdr ?_);simp only[VX,W,V];refine zps (zmj hd) ⟨rfl,small _ (by simp),_,rfl,?_,zct (zct t0 _) _⟩;rw[xch (xbe _),xhc];rfl
   rintro fl s ⟨m,rfl,hm,t0⟩;show WP _ _;refine zcs (R := fun fl s => fl = .nx [some (.scr (ns.map .int)), some (.int i), some (.ref n), some (.int N), some (sumD l), some (.lst ts), some d, some (.ref m)] /\ s[m]? = some (.lst [.str "part", .str "part"]) /\ s[0]? = some .tab) ?_ ?_
   ·simp only[W,V,M];refine ⟨_,_,rfl,hm,?_⟩;refine zcv t0 (zdr ?_);simp only[VX,W,V];refine zps (ztu hd) ⟨rfl,?_⟩;exact ⟨_,_,rfl,more53 hm,smallT _ (by simp),trivial,(put53 hm t0).1,(put53 hm t0).2⟩
   rintro fl s ⟨rfl,hm,t0⟩;show WP _ _;refine zcs (R := fun fl s => fl = .nx [some (.scr (ns.map .int)), some (.int i), some (.ref n), some (.int N), some (sumD l), some (.lst ts), some d, some (.ref m)] /\ s[m]? = some (.lst [.str "part", .str "part", .str "part"]) /\ s[0]? = some .tab) ?_ ?_
   ·simp only[W,V,M];refine ⟨_,_,rfl,hm,?_⟩;refine zcv t0 (zdr ?_);simp only[VX,W,V];refine zps (zmr hd) ⟨rfl,?_⟩;exact ⟨_,_,rfl,more53 hm,smallT _ (by simp),trivial,(put53 hm t0).1,(put53 hm t0).2⟩
   rintro fl s ⟨rfl,hm,t0⟩;show WP _ _;refine zcs (R := fun fl s => fl = .nx [some (.scr (ns.map .int)), some (.int i), some (.ref n), some (.int N), some (sumD l), some (.lst ts), some d, some (.ref m)] /\ s[m]? = some (.lst [.str "part", .str "part", .str "part", .str "part"]) /\ s[0]? = some .tab) ?_ ?_
   ·simp only[W,V,M];refine ⟨_,_,rfl,hm,?_⟩;refine zcv t0 (zdr ?_);simp only[VX,W,V];refine zps (zff hd) ⟨rfl,?_⟩;exact ⟨_,_,rfl,more53 hm,smallT _ (by simp),trivial,(put53 hm t0).1,(put53 hm t0).2⟩
   rintro fl s ⟨rfl,hm,t0⟩;show WP _ _;simp only[W,V];refine ⟨small _ (by simp),?_⟩;refine WP.of mul53 ?_;refine WP.of (zvn hm) ?_;simp only[W,V];refine zcv t0 (zdr ?_);simp only[VX,W,V];have nn:∀r∈l,∀x∈r,x<=r.sum:=fun r hr=>zbgu (l2.pos r hr)
   refine zwx (fun r hr x hx=>⟨l2.pos r hr x hx,?_⟩) (fun r hr=>?_) (fun r hr=>?_) (fun r hr=>?_) (by lia) fun v g=>?_
   ·have h1:=nn r hr x hx;have h2:=l3 r hr;lia
   ·rw[l2.len r hr];lia
   ·have h2:=l3 r hr;lia
   ·have h1:=ztk (l2.pos r hr);have h2:=l3 r hr;have h3:2 ^ r.sum.toNat<=2 ^ 6:=Nat.pow_le_pow_right (by lia) (by lia);lia
   ·refine WP.of (oEq53 (neg:=true) (r:=true) (by decide +kernel) (by decide +kernel) (by decide +kernel)) ?_;simp only[W,V,L];exact ⟨⟨_,_,_,_,_,_,_,rfl⟩,zct (zct t0 _) g⟩
  ·rintro σ s ⟨⟨v1,v2,v3,v4,v5,v6,v7,rfl⟩,_⟩;simp only[W,V]
 obtain ⟨v,st',e,rfl⟩:=key.get;exact ⟨st',e⟩
end Dd
namespace K53
theorem holds:∀ns:List Int,ns.length<=63->∃st',Dd.zbgh [.scr (ns.map .int)] [.tab]=.ok (.bl true) st':=fun ns hl=>Dd.zrm ns hl _ rfl
end K53
namespace K53
open PySem L2 Dd
noncomputable def top (i:Nat):Stmt:=PySem.Challenge.pw_raisedsums_k53_no_parts_and_no_degrees.main.body.getD i (.Pass ⟨0,0,0,0⟩)
noncomputable abbrev zfm:Stmt:=top 49
noncomputable abbrev zfl:Stmt:=top 51
noncomputable abbrev zeh:Stmt:=top 50
noncomputable abbrev zcn:Stmt:=top 52
noncomputable abbrev zfk:Stmt:=top 53
noncomputable abbrev zfi:Stmt:=top 19
noncomputable abbrev zbt:Stmt:=top 25
noncomputable abbrev zbq:Stmt:=top 26
noncomputable abbrev zfj:Stmt:=top 16
noncomputable abbrev ztw:Stmt:=top 17
noncomputable abbrev zhi:Stmt:=top 27
noncomputable abbrev zcl:Stmt:=top 38
noncomputable abbrev zhj:Stmt:=top 47
noncomputable abbrev zfh:Stmt:=top 45
noncomputable abbrev zck:Stmt:=top 46
noncomputable abbrev zcm:Stmt:=top 54
noncomputable abbrev zwg:Stmt:=top 55
noncomputable abbrev zqk:Stmt:=top 37
noncomputable abbrev zhh:Stmt:=top 36
noncomputable abbrev zdl:Stmt:=top 33
section
variable {P:Program} {w:World} {K:Fg} {mg:Str->Option Value} {base h:Heap}
theorem zgn : FnScope ["_law_script", "_law_at", "_law_cell", "_law_mix", "_law_k"] ["_law_script", "_law_at"] (defScope zfm) := ⟨rfl, rfl, rfl, by decide +kernel, rfl, by decide +kernel, by decide +kernel⟩
theorem zme (T : TopF K "_law_bag" zfm) (XX : K.In h) (G : h.Ns mainGlobals mg) (z_len : mg "len" = none) (z_abs : mg "abs" = none) (z_min : mg "min" = none) (z_range : mg "range" = none) : CalD P w K mg base "_law_bag" 1 ["_law_script", "_law_at"] zdd :=
 have nd:=zgn.nd
 zca (k:=0) T XX G zgn (fun _ _ _ _ _ _ us hl=>len2 us hl fun _ _=>rfl) fun f cdv A outer s H E hr=>(zf (zq (i:=2) nd rfl (Or.inl rfl) zl)
 (zf (zit (zdj (znq hr.units0) znv (zc (pv 1)) (zbn zdm zvz rfl z_len zsi (za (zc (pv 0)) zd)) (nomark _)) (zp (zq (i:=2) nd rfl (Or.inl rfl) (zbn zvw zbge rfl z_abs zbfu (za (zpr (zc (pv 0)) (zc (pv 1)) (fun _ _=>rfl)) zd)))) zdx)
 (zf (zq (i:=3) nd rfl (Or.inl rfl) (zci zcf zel (zci zlx (oI_D fun _ _ _ _=>.int _) zl (zc (pv 1))) zl))
 (zf (zdy xfe rfl (zdz rfl z_range (za (zbn (zib rfl) zbbo rfl z_min zvx (za (zbn zdm zvz rfl z_len zsi (za (zc (pv 0)) zd)) (za zl zd))) zd)) (zbb (i:=4) nd rfl (Or.inl rfl))
 (zp (zq (i:=3) nd rfl (Or.inl rfl) (zci zly (oI_D fun _ _ _ _=>.int _) (zci zcf zel (zci zcf zel (zci zlx (oI_D fun _ _ _ _=>.int _) (zc (pv 3)) zl) (zci zly (oI_D fun _ _ _ _=>.int _) (zpr (zc (pv 0)) (zc (pv 4)) (fun _ _=>rfl)) zl)) (zc (pv 4))) zl))))
 (zf (zit (zdj (znq hr.units0) znv (zc (pv 2)) (zci zyh (oI_D fun _ _ _ _=>.int _) zl zl) (nomark _)) (zp (zq (i:=2) nd rfl (Or.inl rfl) zl)) zdx)
 (zp (zbo (zlg (za (zc (pv 2)) (za (zc (pv 3)) zd))))))))))
theorem zgm : FnScope ["_law_things", "_law_odd_here", "_law_thing"] ["_law_things"] (defScope zfl) := ⟨rfl, rfl, rfl, by decide +kernel, rfl, by decide +kernel, by decide +kernel⟩
theorem zmd (T : TopF K "_law_odd" zfl) (XX : K.In h) (G : h.Ns mainGlobals mg) (z_sorted : mg "sorted" = none) (z_tuple : mg "tuple" = none) : CalD P w K mg base "_law_odd" 1 ["_law_things"] zcj :=
 have nd:=zgm.nd
 zca (k:=0) T XX G zgm (fun _ _ _ _ _ _ us hl=>len1 us hl fun _=>rfl) fun f cdv A outer s H E hr=>(zf (zq (i:=1) nd rfl (Or.inr rfl) zth)
 (zf (zdy xfe rfl (zfw (zc (pv 0))) (zbb (i:=2) nd rfl (Or.inl rfl))
 (zp (zot (zwi hr) (zc (pv 1)) (zc (pv 2)) (zbah (zvq (zwi hr) (zc (pv 1)) (zc (pv 2)) zti ⟨rfl,rfl,rfl,rfl⟩)) rfl)))
 (zp (zbo (zhz zcy zkf rfl z_tuple zke (za (zbn (zfy rfl hr.units) zln rfl z_sorted zli (za (zlh rfl (zvl (zc (pv 1))) (fun _ _ _ _ _ => (zbb (i := 0) (show (["_law_thing", "_law_odd_here"] : List Str).Nodup from by decide +kernel) rfl (Or.inl rfl))) (fun _ _ _ _ _ => (zvk (zgx (zbal (zwi hr) (zc (pv 1)) (zc (pv 0)) (fun _ _ => rfl))))) (fun _ _ _ _ _ => (zc (pv 0))) (N := ["_law_thing", "_law_odd_here"]) (k := 1) (is := [1]) (zea (by rfl))) zd)) zd))))))
theorem zfg : FnScope ["_law_bag_here", "_law_many", "_law_digit", "_law_number", "_law_room"] ["_law_bag_here", "_law_many"] (defScope zeh) := ⟨rfl, rfl, rfl, by decide +kernel, rfl, by decide +kernel, by decide +kernel⟩
theorem zjr (T : TopF K "_law_take" zeh) (XX : K.In h) (G : h.Ns mainGlobals mg)  : CalD P w K mg base "_law_take" 1 ["_law_bag_here", "_law_many"] zn :=
 have nd:=zfg.nd
 zca (k:=0) T XX G zfg (fun _ _ _ _ _ _ us hl=>len2 us hl fun _ _=>rfl) fun f cdv A outer s H E hr=>(zf (zit (zdj zbhu (zqv fun _ _ _ _=>.bl _) (zpr (zc (pv 0)) zl (fun _ _=>rfl)) zl (nomark _)) (zf (zq (i:=2) nd rfl (Or.inl rfl) (zci zly (oI_D fun _ _ _ _=>.int _) (zpr (zc (pv 0)) zl (fun _ _=>rfl)) (zc (pv 1))))
 (zf (zle (zci zfq (oI_D fun _ _ _ _=>.int _) (zpr (zc (pv 0)) zl (fun _ _=>rfl)) (zc (pv 1))) (zc (pv 0)) zl)
 (zp (zbo (zc (pv 2)))))) zdx)
 (zf (zq (i:=3) nd rfl (Or.inl rfl) zl)
 (zf (zq (i:=4) nd rfl (Or.inl rfl) zl)
 (zf (zrt xfe (zdj (znq hr.units0) znv (zc (pv 4)) (zc (pv 1)) (nomark _)) (zf (zle (zci zly (oI_D fun _ _ _ _=>.int _) (zci zcf zel (zci zlx (oI_D fun _ _ _ _=>.int _) (zpr (zc (pv 0)) zl (fun _ _=>rfl)) zl) zl) zl) (zc (pv 0)) zl)
 (zf (zq (i:=3) nd rfl (Or.inl rfl) (zci zcf zel (zci zlx (oI_D fun _ _ _ _=>.int _) (zc (pv 3)) zl) (zci zly (oI_D fun _ _ _ _=>.int _) (zci zlx (oI_D fun _ _ _ _=>.int _) (zci zfq (oI_D fun _ _ _ _=>.int _) (zpr (zc (pv 0)) zl (fun _ _=>rfl)) zl) zl) zl)))
 (zp (zq (i:=4) nd rfl (Or.inl rfl) (zci zlx (oI_D fun _ _ _ _=>.int _) (zc (pv 4)) zl))))))
 (zp (zbo (zci zly (oI_D fun _ _ _ _=>.int _) (zc (pv 3)) (zc (pv 1)))))))))
theorem zdh : FnScope ["_law_bag_here", "_law_n", "_law_degree", "_law_left", "_law_exponents", "_law_k", "_law_at"] ["_law_bag_here", "_law_n", "_law_degree"] (defScope zcn) := ⟨rfl, rfl, rfl, by decide +kernel, rfl, by decide +kernel, by decide +kernel⟩
theorem zge (T : TopF K "_law_product" zcn) (XX : K.In h) (G : h.Ns mainGlobals mg) (z_range : mg "range" = none) (z_tuple : mg "tuple" = none) (c__law_take : CalD P w K mg base "_law_take" 1 ["_law_bag_here", "_law_many"] zn) : CalD P w K mg base "_law_product" 2 ["_law_bag_here", "_law_n", "_law_degree"] zbp :=
 have nd:=zdh.nd
 zca (k:=1) T XX G zdh (fun _ _ _ _ _ _ us hl=>len3 us hl fun _ _ _=>rfl) fun f cdv A outer s H E hr=>(zf (zq (i:=3) nd rfl (Or.inl rfl) (zbl c__law_take (fun _ _ _ _ h=>zbk h) (hr.mono (by decide)) rfl (za (zc (pv 0)) (za (zci zcf zel (zc (pv 2)) zl) zd))))
 (zf (zit (zdj (zyj hr.units) zyr (zbl c__law_take (fun _ _ _ _ h=>zbk h) (hr.mono (by decide)) rfl (za (zc (pv 0)) (za zl zd))) zl (nomark _)) (zp (zq (i:=3) nd rfl (Or.inl rfl) (zc (pv 2)))) zdx)
 (zf (zq (i:=4) nd rfl (Or.inl rfl) (zlg zd))
 (zf (zdy xfe rfl (zdz rfl z_range (za (zci zjq (zqv fun _ _ _ _=>.int _) (zc (pv 1)) zl) zd)) (zbb (i:=5) nd rfl (Or.inl rfl))
 (zf (zcx (zdb (zc (pv 4)) (za (zbl c__law_take (fun _ _ _ _ h=>zbk h) (hr.mono (by decide)) rfl (za (zc (pv 0)) (za (zci zcf zel (zc (pv 3)) zl) zd))) zd)))
 (zp (zq (i:=3) nd rfl (Or.inl rfl) (zci zjq (zqv fun _ _ _ _=>.int _) (zc (pv 3)) (zpr (zc (pv 4)) (zvp zl) (fun _ _=>rfl)))))))
 (zf (zcx (zdb (zc (pv 4)) (za (zc (pv 3)) zd)))
 (zf (zq (i:=6) nd rfl (Or.inl rfl) (zbl c__law_take (fun _ _ _ _ h=>zbk h) (hr.mono (by decide)) rfl (za (zc (pv 0)) (za (zc (pv 1)) zd))))
 (zp (zbo (zhz zcy zkf rfl z_tuple zke (za (zci zcf zel (zbhd (zc (pv 4)) (zov (zc (pv 6))) zow) (zbhd (zc (pv 4)) zow (zov (zc (pv 6))))) zd))))))))))
theorem zgl : FnScope ["_law_bag_here", "_law_n", "_law_many", "_law_degree"] ["_law_bag_here", "_law_n", "_law_many", "_law_degree"] (defScope zfk) := ⟨rfl, rfl, rfl, by decide +kernel, rfl, by decide +kernel, by decide +kernel⟩
theorem zmc (T : TopF K "_law_sum" zfk) (XX : K.In h) (G : h.Ns mainGlobals mg) (z_range : mg "range" = none) (c__law_odd : CalD P w K mg base "_law_odd" 1 ["_law_things"] zcj) (c__law_take : CalD P w K mg base "_law_take" 1 ["_law_bag_here", "_law_many"] zn) (c__law_product : CalD P w K mg base "_law_product" 2 ["_law_bag_here", "_law_n", "_law_degree"] zbp) : CalD P w K mg base "_law_sum" 3 ["_law_bag_here", "_law_n", "_law_many", "_law_degree"] zed :=
 have nd:=zgl.nd
 zca (k := 2) T XX G zgl (fun _ _ _ _ _ _ us hl => len4 us hl fun _ _ _ _ => rfl) fun f cdv A outer s H E hr => (zp (zbo (zbl c__law_odd (fun _ _ _ _ h => zbk h) (hr.mono (by decide)) rfl (za (zlh rfl (zdz rfl z_range (za (zbl c__law_take (fun _ _ _ _ h => zbk h) (hr.mono (by decide)) rfl (za (zc (pv 0)) (za (zci zcf zel (zc (pv 2)) zl) zd))) zd)) (fun _ _ _ _ _ => (zbb (i := 0) (show (["_law_k", "_law_bag_here", "_law_n", "_law_degree"] : List Str).Nodup from by decide +kernel) rfl (Or.inl rfl))) (fun _ _ _ _ _ => zka) (fun _ _ _ _ _ => (zbl c__law_product (fun _ _ _ _ h => zbk h) (hr.mono (by decide)) rfl (za (zc (pv 1)) (za (zc (pv 2)) (za (zc (pv 3)) zd))))) (N := ["_law_k", "_law_bag_here", "_law_n", "_law_degree"]) (k := 1) (is := [0, 1, 3]) (zea (by rfl))) zd))))
theorem zgj : FnScope ["e", "k"] ["e", "k"] (defScope zfi) := ⟨rfl, rfl, rfl, by decide +kernel, rfl, by decide +kernel, by decide +kernel⟩
theorem zma (T : TopF K "odd_ways" zfi) (XX : K.In h) (G : h.Ns mainGlobals mg)  : CalD P w K mg base "odd_ways" 1 ["e", "k"] zcz :=
 have nd:=zgj.nd
 zca (k:=0) T XX G zgj (fun _ _ _ _ _ _ us hl=>len2 us hl fun _ _=>rfl) fun f cdv A outer s H E hr=>(zp (zbo (zbfj (zyj hr.units) zyr (zci zbdg (zqv fun _ _ _ _=>.int _) (zc (pv 0)) (zc (pv 1))) (zc (pv 1)) (nomark _))))
theorem zcq : FnScope ["partly", "e", "rest", "told", "made", "left", "j"] ["partly", "e", "rest"] (defScope zbt) := ⟨rfl, rfl, rfl, by decide +kernel, rfl, by decide +kernel, by decide +kernel⟩
theorem zeq (T : TopF K "letter_lowered" zbt) (XX : K.In h) (G : h.Ns mainGlobals mg) (z_min : mg "min" = none) (z_max : mg "max" = none) (z_range : mg "range" = none) (c_odd_ways : CalD P w K mg base "odd_ways" 1 ["e", "k"] zcz) : CalD P w K mg base "letter_lowered" 2 ["partly", "e", "rest"] zu :=
 have nd:=zcq.nd
 zca (k:=1) T XX G zcq (fun _ _ _ _ _ _ us hl=>len3 us hl fun _ _ _=>rfl) fun f cdv A outer s H E hr=>(zf (zq (i:=3) nd rfl (Or.inl rfl) (zlg zd))
 (zf (zdy xfe rfl (zfw (zc (pv 0))) (ztf rfl (zey (zbb (i:=4) nd rfl (Or.inl rfl)) (zey (zbb (i:=5) nd rfl (Or.inl rfl)) zoz)))
 (zp (zdy xfe rfl (zoy rfl z_range (za (zbn (zsg rfl) zbbo rfl z_max zbfs (za zl (za (zci zjq (zqv fun _ _ _ _=>.int _) (zc (pv 5)) (zc (pv 2))) zd))) (za (zci zcf zel (zbn (zib rfl) zbbo rfl z_min zvx (za (zci zfq (oI_D fun _ _ _ _=>.int _) (zc (pv 1)) zl) (za (zc (pv 5)) zd))) zl) zd))) (zbb (i:=6) nd rfl (Or.inl rfl))
 (zp (zit (zgx (zbl c_odd_ways (fun _ _ _ _ h=>zbk h) (hr.mono (by decide)) rfl (za (zci zjq (zqv fun _ _ _ _=>.int _) (zc (pv 1)) (zc (pv 6))) (za (zc (pv 6)) zd)))) (zp (zcx (zdb (zc (pv 3)) (za (zhy (za (zci zcf zel (zc (pv 4)) (zhy (za (zci zjq (zqv fun _ _ _ _=>.int _) (zc (pv 1)) (zc (pv 6))) zd))) (za (zci zjq (zqv fun _ _ _ _=>.int _) (zc (pv 5)) (zc (pv 6))) zd))) zd)))) zdx)))))
 (zp (zbo (zbiw (zc (pv 3)))))))
theorem zcd : FnScope ["product", "k", "partly", "rest", "e"] ["product", "k"] (defScope zbq) := ⟨rfl, rfl, rfl, by decide +kernel, rfl, by decide +kernel, by decide +kernel⟩
theorem zek (T : TopF K "product_lowered" zbq) (XX : K.In h) (G : h.Ns mainGlobals mg) (z_sum : mg "sum" = none) (c_letter_lowered : CalD P w K mg base "letter_lowered" 2 ["partly", "e", "rest"] zu) : CalD P w K mg base "product_lowered" 3 ["product", "k"] zt :=
  have nd := zcd.nd
  zca (k := 2) T XX G zcd (fun _ _ _ _ _ _ us hl => len2 us hl fun _ _ => rfl) fun f cdv A outer s H E hr => (zf (zq (i := 2) nd rfl (Or.inl rfl) (zkb (za (zhy (za (zhy zd) (za (zc (pv 1)) zd))) zd)))
  (zf (zq (i := 3) nd rfl (Or.inl rfl) (zbn (zsf rfl) zbfz rfl z_sum zbfr (za (zlh rfl (zfw (zc (pv 0))) (fun _ _ _ _ _ => (zbb (i := 0) (show (["e"] : List Str).Nodup from by decide +kernel) rfl (Or.inl rfl))) (fun _ _ _ _ _ => zka) (fun _ _ _ _ _ => (zci zfq (oI_D fun _ _ _ _ => .int _) (zc (pv 0)) zl)) (N := ["e"]) (k := 1) (is := []) (zea (by rfl))) zd)))
  (zf (zdy xfe rfl (zfw (zc (pv 0))) (zbb (i := 4) nd rfl (Or.inl rfl))
  (zf (zzv (i := 3) nd rfl (Or.inl rfl) (zci zfq (oI_D fun _ _ _ _ => .int _) (zc (pv 4)) zl) zbdy ip_D)
  (zp (zq (i := 2) nd rfl (Or.inl rfl) (zbl c_letter_lowered (fun _ _ _ _ h => zbk h) (hr.mono (by decide)) rfl (za (zc (pv 2)) (za (zc (pv 4)) (za (zc (pv 3)) zd))))))))
  (zp (zbo (zlh rfl (zfw (zc (pv 2))) (fun _ _ _ _ _ => (ztf rfl (zey (zbb (i := 0) (show (["made", "left"] : List Str).Nodup from by decide +kernel) rfl (Or.inl rfl)) (zey (zbb (i := 1) (show (["made", "left"] : List Str).Nodup from by decide +kernel) rfl (Or.inl rfl)) zoz)))) (fun _ _ _ _ _ => zka) (fun _ _ _ _ _ => (zc (pv 0))) (N := ["made", "left"]) (k := 2) (is := []) (zea (by rfl))))))))
theorem zgk : FnScope ["thing"] ["thing"] (defScope zfj) := ⟨rfl, rfl, rfl, by decide +kernel, rfl, by decide +kernel, by decide +kernel⟩
theorem zmb (T : TopF K "is_whole" zfj) (XX : K.In h) (G : h.Ns mainGlobals mg) (z_bool : mg "bool" = none) (z_isinstance : mg "isinstance" = none) (z_int : mg "int" = none) : CalD P w K mg base "is_whole" 1 ["thing"] zbj :=
 have nd:=zgk.nd
 zca (k := 0) T XX G zgk (fun _ _ _ _ _ _ us hl => len1 us hl fun _ => rfl) fun f cdv A outer s H E hr => (zp (zbo (zbfl (zbn zgz zlo rfl z_isinstance zby (za (zc (pv 0)) (za (zban (znn (v := .ty "int") rfl z_int zbft rfl) (fun _ _ => .ty _)) zd))) (zbfc (zbah (zbn zgz zlo rfl z_isinstance zby (za (zc (pv 0)) (za (zban (znn (v := .ty "bool") rfl z_bool zbay rfl) (fun _ _ => .ty _)) zd))))))))
theorem zsn : FnScope ["kept", "thing"] ["kept", "thing"] (defScope ztw) := ⟨rfl, rfl, rfl, by decide +kernel, rfl, by decide +kernel, by decide +kernel⟩
theorem zym (T : TopF K "flip" ztw) (XX : K.In h) (G : h.Ns mainGlobals mg)  : CalD P w K mg base "flip" 1 ["kept", "thing"] zms :=
 have nd:=zsn.nd
 zca (k:=0) T XX G zsn (fun _ _ _ _ _ _ us hl=>len2 us hl fun _ _=>rfl) fun f cdv A outer s H E hr=>(zp (zit (zben (zbdc (zwi hr) (zc (pv 1)) (zc (pv 0)))) (zp (zcx (zbak (zwi hr) (zc (pv 0)) (zc (pv 1)) ⟨rfl,rfl,rfl,rfl⟩))) (zp (zot (zwi hr) (zc (pv 0)) (zc (pv 1)) zti rfl))))
theorem zih : FnScope ["row", "k", "kept", "product", "made"] ["row", "k"] (defScope zhi) := ⟨rfl, rfl, rfl, by decide +kernel, rfl, by decide +kernel, by decide +kernel⟩
theorem zns (T : TopF K "lowered" zhi) (XX : K.In h) (G : h.Ns mainGlobals mg) (z_sorted : mg "sorted" = none) (z_tuple : mg "tuple" = none) {C_NoPart : Addr} (n_NoPart : PySem.W.nsIn K mainGlobals "NoPart" = some (some (.ref C_NoPart))) (q_NoPart : PySem.W.excIn K C_NoPart bmV "ValueError.__new__" = true) (c_is_whole : CalD P w K mg base "is_whole" 1 ["thing"] zbj) (c_product_lowered : CalD P w K mg base "product_lowered" 3 ["product", "k"] zt) (c_flip : CalD P w K mg base "flip" 1 ["kept", "thing"] zms) : CalX P w K mg base "lowered" 4 ["row", "k"] zbh :=
 have nd:=zih.nd
 ziw (k:=3) T XX G zih (fun _ _ _ _ _ _ us hl=>len2 us hl fun _ _=>rfl) fun f cdv A outer s H E hr=>(zjz (fun _ _=>rfl) (zzr (JW.pt (zor (zos (zgx (zbl c_is_whole (fun _ _ _ _ h=>zbk h) (hr.mono (by decide)) rfl (za (zc (pv 1)) zd)))) (zla (zdj (znq hr.units0) znv (zc (pv 1)) zl (nomark _)) (by first | exact Or.inl rfl | exact Or.inr rfl)))) (zld (zlc zmv ⟨n_NoPart,q_NoPart⟩ rfl rfl (za zet zd))) (zlb zdx))
 (zlb (zf (zq (i:=2) nd rfl (Or.inl rfl) zth)
 (zf (zdy PassesOwn.leaving rfl (zfw (zc (pv 0))) (zbb (i:=3) nd rfl (Or.inl rfl))
 (zp (zdy PassesOwn.leaving rfl (zfw (zbl c_product_lowered (fun _ _ _ _ h=>zbk h) (hr.mono (by decide)) rfl (za (zc (pv 3)) (za (zc (pv 1)) zd)))) (zbb (i:=4) nd rfl (Or.inl rfl))
 (zp (zcx (zbl c_flip (fun _ _ _ _ h=>zbk h) (hr.mono (by decide)) rfl (za (zc (pv 2)) (za (zc (pv 4)) zd))))))))
 (zp (zbo (zhz zcy zkf rfl z_tuple zke (za (zbn (zfy rfl hr.units) zln rfl z_sorted zli (za (zc (pv 2)) zd)) zd))))))))
theorem zdf : FnScope ["d"] ["d"] (defScope zcl) := ⟨rfl, rfl, rfl, by decide +kernel, rfl, by decide +kernel, by decide +kernel⟩
theorem zgc (T : TopF K "degree_asked" zcl) (XX : K.In h) (G : h.Ns mainGlobals mg) {C_NoPart : Addr} (n_NoPart : PySem.W.nsIn K mainGlobals "NoPart" = some (some (.ref C_NoPart))) (q_NoPart : PySem.W.excIn K C_NoPart bmV "ValueError.__new__" = true) (c_is_whole : CalD P w K mg base "is_whole" 1 ["thing"] zbj) : CalX P w K mg base "degree_asked" 2 ["d"] zk :=
 have nd:=zdf.nd
 ziw (k:=1) T XX G zdf (fun _ _ _ _ _ _ us hl=>len1 us hl fun _=>rfl) fun f cdv A outer s H E hr=>(zjz (fun _ _=>rfl) (zzr (JW.pt (zor (zos (zgx (zbl c_is_whole (fun _ _ _ _ h=>zbk h) (hr.mono (by decide)) rfl (za (zc (pv 0)) zd)))) (zla (zdj (znq hr.units0) znv (zc (pv 0)) zl (nomark _)) (by first | exact Or.inl rfl | exact Or.inr rfl)))) (zld (zlc zmv ⟨n_NoPart,q_NoPart⟩ rfl rfl (za zet zd))) (zlb zdx))
 (zlb (zp (zbo (zc (pv 0))))))
theorem zii : FnScope ["n", "d"] ["n", "d"] (defScope zhj) := ⟨rfl, rfl, rfl, by decide +kernel, rfl, by decide +kernel, by decide +kernel⟩
theorem znt (T : TopF K "is_sure" zhj) (XX : K.In h) (G : h.Ns mainGlobals mg) (h_ones_counted : HasFn K mg "ones_counted") (c_degree_asked : CalX P w K mg base "degree_asked" 2 ["d"] zk) : CalX P w K mg base "is_sure" 3 ["n", "d"] zee :=
 have nd:=zii.nd
 ziw (k:=2) T XX G zii (fun _ _ _ _ _ _ us hl=>len2 us hl fun _ _=>rfl) fun f cdv A outer s H E hr=>(zld (ztd (dx_z (zzp (zoq h_ones_counted rfl (zhv (zbei (zbej (zeo c_degree_asked zmu (fun _ _ h=>zbx _ _ h) (hr.mono (by decide)) rfl (za (zc (pv 1)) zd)))) zhk)) (nomark _)))))
theorem zgi : FnScope ["n", "d", "products", "leads"] ["n", "d"] (defScope zfh) := ⟨rfl, rfl, rfl, by decide +kernel, rfl, by decide +kernel, by decide +kernel⟩
theorem zlz (T : TopF K "standing" zfh) (XX : K.In h) (G : h.Ns mainGlobals mg) (h_bounded : HasFn K mg "bounded") (h_products_of_degree : HasFn K mg "products_of_degree") (c_degree_asked : CalX P w K mg base "degree_asked" 2 ["d"] zk) : CalX P w K mg base "standing" 3 ["n", "d"] zbf :=
 have nd:=zgi.nd
 ziw (k:=2) T XX G zgi (fun _ _ _ _ _ _ us hl=>len2 us hl fun _ _=>rfl) fun f cdv A outer s H E hr=>(zjz (fun _ _=>rfl) (zzq (i:=2) nd rfl (Or.inl rfl) (dx_z (zoq h_products_of_degree rfl (zop (zc (pv 0)) (zhv (zoq h_bounded rfl (zop (zc (pv 0)) (zhv (zbej (zeo c_degree_asked zmu (fun _ _ h=>zbx _ _ h) (hr.mono (by decide)) rfl (za (zc (pv 1)) zd))) zhk))) zhk)))))
 zrs)
theorem zde : FnScope ["n", "d"] ["n", "d"] (defScope zck) := ⟨rfl, rfl, rfl, by decide +kernel, rfl, by decide +kernel, by decide +kernel⟩
theorem zgb (T : TopF K "rows_counted" zck) (XX : K.In h) (G : h.Ns mainGlobals mg) (z_len : mg "len" = none) (c_standing : CalX P w K mg base "standing" 3 ["n", "d"] zbf) : CalX P w K mg base "rows_counted" 4 ["n", "d"] zbg :=
 have nd:=zde.nd
 ziw (k:=3) T XX G zde (fun _ _ _ _ _ _ us hl=>len2 us hl fun _ _=>rfl) fun f cdv A outer s H E hr=>(zld (ztd (dx_z (zvg rfl z_len zsi (zhv (zbej (zeo c_standing zmu (fun _ _ h=>zbx _ _ h) (hr.mono (by decide)) rfl (za (zc (pv 0)) (za (zc (pv 1)) zd)))) zhk)))))
theorem zdg : FnScope ["_law_deed", "_law_kinds", "_law_others", "e"] ["_law_deed"] (defScope zcm) := ⟨rfl, rfl, rfl, by decide +kernel, rfl, by decide +kernel, by decide +kernel⟩
theorem zgd (T : TopF K "_law_refused" zcm) (XX : K.In h) (G : h.Ns mainGlobals mg) (z_isinstance : mg "isinstance" = none) (z_ValueError : mg "ValueError" = none) {C_Full : Addr} {C_NoDeed : Addr} {C_NoExchange : Addr} {C_NoLetters : Addr} {C_NoLine : Addr} {C_NoName : Addr} {C_NoPaper : Addr} {C_NoPart : Addr} {C_NoProduct : Addr} {C_NoRow : Addr} {C_NoText : Addr} {C_RaisedError : Addr} {C_TooMany : Addr} {C_Unlike : Addr} (n_NoPart : PySem.W.nsIn K mainGlobals "NoPart" = some (some (.ref C_NoPart))) (l_NoPart : ErrLook K C_NoPart) (n_Unlike : PySem.W.nsIn K mainGlobals "Unlike" = some (some (.ref C_Unlike))) (i_NoPart_Unlike : PySem.W.kitOne K (.ref C_NoPart) (.ref C_Unlike) = some false) (n_TooMany : PySem.W.nsIn K mainGlobals "TooMany" = some (some (.ref C_TooMany))) (i_NoPart_TooMany : PySem.W.kitOne K (.ref C_NoPart) (.ref C_TooMany) = some false) (i_NoPart_NoPart : PySem.W.kitOne K (.ref C_NoPart) (.ref C_NoPart) = some true) (n_NoText : PySem.W.nsIn K mainGlobals "NoText" = some (some (.ref C_NoText))) (n_NoRow : PySem.W.nsIn K mainGlobals "NoRow" = some (some (.ref C_NoRow))) (n_NoProduct : PySem.W.nsIn K mainGlobals "NoProduct" = some (some (.ref C_NoProduct))) (n_NoPaper : PySem.W.nsIn K mainGlobals "NoPaper" = some (some (.ref C_NoPaper))) (n_NoName : PySem.W.nsIn K mainGlobals "NoName" = some (some (.ref C_NoName))) (n_NoLine : PySem.W.nsIn K mainGlobals "NoLine" = some (some (.ref C_NoLine))) (n_NoLetters : PySem.W.nsIn K mainGlobals "NoLetters" = some (some (.ref C_NoLetters))) (n_NoExchange : PySem.W.nsIn K mainGlobals "NoExchange" = some (some (.ref C_NoExchange))) (n_NoDeed : PySem.W.nsIn K mainGlobals "NoDeed" = some (some (.ref C_NoDeed))) (n_Full : PySem.W.nsIn K mainGlobals "Full" = some (some (.ref C_Full))) (i_NoPart_NoText : PySem.W.kitOne K (.ref C_NoPart) (.ref C_NoText) = some false) (i_NoPart_NoRow : PySem.W.kitOne K (.ref C_NoPart) (.ref C_NoRow) = some false) (i_NoPart_NoProduct : PySem.W.kitOne K (.ref C_NoPart) (.ref C_NoProduct) = some false) (i_NoPart_NoPaper : PySem.W.kitOne K (.ref C_NoPart) (.ref C_NoPaper) = some false) (i_NoPart_NoName : PySem.W.kitOne K (.ref C_NoPart) (.ref C_NoName) = some false) (i_NoPart_NoLine : PySem.W.kitOne K (.ref C_NoPart) (.ref C_NoLine) = some false) (i_NoPart_NoLetters : PySem.W.kitOne K (.ref C_NoPart) (.ref C_NoLetters) = some false) (i_NoPart_NoExchange : PySem.W.kitOne K (.ref C_NoPart) (.ref C_NoExchange) = some false) (i_NoPart_NoDeed : PySem.W.kitOne K (.ref C_NoPart) (.ref C_NoDeed) = some false) (i_NoPart_Full : PySem.W.kitOne K (.ref C_NoPart) (.ref C_Full) = some false) (i_NoPart_ValueError : PySem.W.kitOne K (.ref C_NoPart) (.type "ValueError") = some true) (n_RaisedError : PySem.W.nsIn K mainGlobals "RaisedError" = some (some (.ref C_RaisedError))) (e_NoPart_RaisedError : PySem.W.exmOne K (.ref C_NoPart) (.ref C_RaisedError) = some true) : CalT P w K mg base "_law_refused" 4 zm :=
  have nd := zdg.nd
  zbav (k := 4) (b := zr) T XX G zdg (fun _ _ _ _ _ _ us hl => len1 us hl fun _ => rfl) fun fr cdv A outer s H E f σL τL g Gg hG hr T => (zbew (zbev (i := 3) (cs := ["NoPart"]) rfl rfl rfl nd rfl rfl rfl n_RaisedError (zbas n_NoPart e_NoPart_RaisedError zbfn) T hG (fun E pn => pv 0) (fun e => (zf (zq (i := 1) nd rfl (Or.inl rfl) (zkb (za (zrx (tbl := [("NoPart", true)]) rfl z_isinstance (pv 3) (zce (v := .ref _) rfl (xcq XX G n_NoPart) rfl) rfl (fun _ h => h) (zkn n_NoPart l_NoPart i_NoPart_NoPart zqd)) (za (zrx (tbl := [("NoPart", false)]) rfl z_isinstance (pv 3) (zce (v := .ref _) rfl (xcq XX G n_TooMany) rfl) rfl (fun _ h => h) (zkn n_NoPart l_NoPart i_NoPart_TooMany zqd)) (za (zrx (tbl := [("NoPart", false)]) rfl z_isinstance (pv 3) (zce (v := .ref _) rfl (xcq XX G n_Unlike) rfl) rfl (fun _ h => h) (zkn n_NoPart l_NoPart i_NoPart_Unlike zqd)) zd)))))
  (zf (zq (i := 2) nd rfl (Or.inl rfl) (zbaj (tbl := [("NoPart", false)]) rfl z_isinstance (pv 3) (zdi (zce (v := .ref _) rfl (xcq XX G n_Full) rfl) (zdi (zce (v := .ref _) rfl (xcq XX G n_NoDeed) rfl) (zdi (zce (v := .ref _) rfl (xcq XX G n_NoExchange) rfl) (zdi (zce (v := .ref _) rfl (xcq XX G n_NoLetters) rfl) (zdi (zce (v := .ref _) rfl (xcq XX G n_NoLine) rfl) (zdi (zce (v := .ref _) rfl (xcq XX G n_NoName) rfl) (zdi (zce (v := .ref _) rfl (xcq XX G n_NoPaper) rfl) (zdi (zce (v := .ref _) rfl (xcq XX G n_NoProduct) rfl) (zdi (zce (v := .ref _) rfl (xcq XX G n_NoRow) rfl) (zdi (zce (v := .ref _) rfl (xcq XX G n_NoText) rfl) zbdt)))))))))) (show 10 <= sizeLine from by decide) (zwy n_NoPart l_NoPart (zpq i_NoPart_Full (zpq i_NoPart_NoDeed (zpq i_NoPart_NoExchange (zpq i_NoPart_NoLetters (zpq i_NoPart_NoLine (zpq i_NoPart_NoName (zpq i_NoPart_NoPaper (zpq i_NoPart_NoProduct (zpq i_NoPart_NoRow (zpq i_NoPart_NoText zbds)))))))))) zbbx)))
  (zf (zit (JW.pt (zor (zgx (zc (pv 2))) (zor (zdj (zun hr.units) zyr (zsa (zc (pv 1)) (za zti zd)) zl (nomark _)) (zla (zos (zgx (zrx (tbl := [("NoPart", true)]) rfl z_isinstance (pv 3) (znn (v := .ty "ValueError") rfl z_ValueError PyProof.Rows.Boot.«ValueError» rfl) rfl (fun _ h => h) (zkn n_NoPart l_NoPart i_NoPart_ValueError zqd)))) (by first | exact Or.inl rfl | exact Or.inr rfl))))) (zp (zbo zet)) zdx)
  (zp (zbo (zpr (zkb (za zet (za zet (za zet zd)))) (zry (zc (pv 1)) (za zti zd)) (fun _ _ => rfl)))))))))
  (zp (zbo zet)))
theorem zxf : FnScope ["_law_script", "_law_k", "_law_bag_here", "_law_n", "_law_row", "_law_things", "_law_odd_here", "_law_deeds"] ["_law_script"] (defScope zwg) := ⟨rfl, rfl, rfl, by decide +kernel, rfl, by decide +kernel, by decide +kernel⟩
theorem zbdi {f c T : Addr} {fd : FuncData} (F : Fun K "law" "law" zwg f fd) (hfc : fd.code = .ref c) (CT : PySem.W.CodeHd base c T) (ht : PySem.W.tabIn K "law" = some (c, T)) (Bm : BmOk mg base) (z_len : mg "len" = none) (z_min : mg "min" = none) (z_range : mg "range" = none) (c__law_bag : CalD P w K mg base "_law_bag" 1 ["_law_script", "_law_at"] zdd) (c__law_take : CalD P w K mg base "_law_take" 1 ["_law_bag_here", "_law_many"] zn) (c__law_sum : CalD P w K mg base "_law_sum" 3 ["_law_bag_here", "_law_n", "_law_many", "_law_degree"] zed) (c__law_refused : CalT P w K mg base "_law_refused" 4 zm) (c_lowered : CalX P w K mg base "lowered" 4 ["row", "k"] zbh) (c_is_sure : CalX P w K mg base "is_sure" 3 ["n", "d"] zee) (c_rows_counted : CalX P w K mg base "rows_counted" 4 ["n", "d"] zbg) (c_standing : CalX P w K mg base "standing" 3 ["n", "d"] zbf) : FnOk P w K mg base CX0 7 f fd ["_law_script"] (spLawT K T) :=
 have nd:=zxf.nd
 zyy (k:=6) F zxf rfl (fun cdv A outer s H E hcd hr=>(zf (zdy xfe rfl (zdz rfl z_range (za (zci zcf zel (zbn (zib rfl) zbbo rfl z_min zvx (za zl (za (zbn zdm zvz rfl z_len zsi (za (zc (pv 0)) zd)) zd))) zl) zd)) (zbb (i:=1) nd rfl (Or.inl rfl))
 (zf (zq (i:=2) nd rfl (Or.inl rfl) (zbl c__law_bag (fun _ _ _ _ h=>zbk h) (hr.mono (by decide)) rfl (za (zc (pv 0)) (za (zc (pv 1)) zd))))
 (zf (zq (i:=3) nd rfl (Or.inr rfl) (zci zcf zel zl (zbl c__law_take (fun _ _ _ _ h=>zbk h) (hr.mono (by decide)) rfl (za (zc (pv 2)) (za zl zd)))))
 (zf (zq (i:=4) nd rfl (Or.inr rfl) (zbl c__law_sum (fun _ _ _ _ h=>zbk h) (hr.mono (by decide)) rfl (za (zc (pv 2)) (za (zc (pv 3)) (za zl (za zl zd))))))
 (zf (zq (i:=5) nd rfl (Or.inl rfl) (zkb (za (zvp zl) (za (zci zjq (zqv fun _ _ _ _=>.int _) (zvp zl) (zbl c__law_take (fun _ _ _ _ h=>zbk h) (hr.mono (by decide)) rfl (za (zc (pv 2)) (za (zci zyh (oI_D fun _ _ _ _=>.int _) zl zl) zd)))) (za zti (za zti (za zbai (za zet (za zet (za (zhy (za zl zd)) (za (zhy zd) (za (zkb (za zl zd)) (za (zkb zd) (za (zhy (za (zhy zd) zd)) (za zet (za (zhy (za zbai zd)) zd))))))))))))))))
 (zf (zq (i:=6) nd rfl (Or.inr rfl) (zpr (zc (pv 5)) (zbl c__law_take (fun _ _ _ _ h=>zbk h) (hr.mono (by decide)) rfl (za (zc (pv 2)) (za zl zd))) (fun _ _=>rfl)))
 (zf (zq (i := 7) nd rfl (Or.inl rfl) (zlg (za (zpc c__law_refused CT ht Bm (hcd.symm.trans hfc) rfl rfl (hr.mono (by decide)) rfl (zea (N := ["_law_row", "_law_odd_here"]) (k := 0) (is := [4, 6]) (by rfl)) ⟨rfl, rfl, rfl, by decide +kernel⟩ (fun _ _ _ _ => rfl) (fun f cd cl A outer s H E hr => (zeo c_lowered zfa (fun _ _ h => zbx _ _ h) (hr.mono (by decide)) rfl (za (zc (pv 0)) (za (zc (pv 1)) zd))))) zd)))
 (zf (zcx (zdb (zc (pv 7)) (za (zpc c__law_refused CT ht Bm (hcd.symm.trans hfc) rfl rfl (hr.mono (by decide)) rfl (zea (N := ["_law_n", "_law_odd_here"]) (k := 0) (is := [3, 6]) (by rfl)) ⟨rfl, rfl, rfl, by decide +kernel⟩ (fun _ _ _ _ => rfl) (fun f cd cl A outer s H E hr => (zeo c_is_sure zfa (fun _ _ h => zbx _ _ h) (hr.mono (by decide)) rfl (za (zc (pv 0)) (za (zc (pv 1)) zd))))) zd)))
 (zf (zcx (zdb (zc (pv 7)) (za (zpc c__law_refused CT ht Bm (hcd.symm.trans hfc) rfl rfl (hr.mono (by decide)) rfl (zea (N := ["_law_n", "_law_odd_here"]) (k := 0) (is := [3, 6]) (by rfl)) ⟨rfl, rfl, rfl, by decide +kernel⟩ (fun _ _ _ _ => rfl) (fun f cd cl A outer s H E hr => (zeo c_rows_counted zfa (fun _ _ h => zbx _ _ h) (hr.mono (by decide)) rfl (za (zc (pv 0)) (za (zc (pv 1)) zd))))) zd)))
 (zf (zcx (zdb (zc (pv 7)) (za (zpc c__law_refused CT ht Bm (hcd.symm.trans hfc) rfl rfl (hr.mono (by decide)) rfl (zea (N := ["_law_n", "_law_odd_here"]) (k := 0) (is := [3, 6]) (by rfl)) ⟨rfl, rfl, rfl, by decide +kernel⟩ (fun _ _ _ _ => rfl) (fun f cd cl A outer s H E hr => (zeo c_standing zfa (fun _ _ h => zbx _ _ h) (hr.mono (by decide)) rfl (za (zc (pv 0)) (za (zc (pv 1)) zd))))) zd)))
 (zp (zit (JW.pt (zor (zdj (zun hr.units) zyr (zc (pv 7)) (zci zyi zyq (zkb (za zet zd)) zl) (nomark _)) (zla (zdj (zun hr.units) zyr (zpc c__law_refused CT ht Bm (hcd.symm.trans hfc) rfl rfl (hr.mono (by decide)) rfl (zea (N := ["_law_row"]) (k := 0) (is := [4]) (by rfl)) ⟨rfl, rfl, rfl, by decide +kernel⟩ (fun _ _ _ _ => rfl) (fun f cd cl A outer s H E hr => (zeo c_lowered zfa (fun _ _ h => zbx _ _ h) (hr.mono (by decide)) rfl (za (zc (pv 0)) (za zl zd))))) zet (nomark _)) (by first | exact Or.inl rfl | exact Or.inr rfl)))) (zp (zbo zti)) zdx))))))))))))
 (zp (zbo zti)))) K53.holds
end
theorem all_mk {l : PySem.W.OpenLaw} {w : World} {K : Fg} {h : Heap} {mg : Str -> Option Value} {fa c T : Addr} {ts : List Addr} {C_Full : Addr} {C_NoDeed : Addr} {C_NoExchange : Addr} {C_NoLetters : Addr} {C_NoLine : Addr} {C_NoName : Addr} {C_NoPaper : Addr} {C_NoPart : Addr} {C_NoProduct : Addr} {C_NoRow : Addr} {C_NoText : Addr} {C_RaisedError : Addr} {C_TooMany : Addr} {C_Unlike : Addr} (X : K.In h) (G : h.Ns mainGlobals mg) (hfa : mg "law" = some (.ref fa)) (lt : LawTab K ts c T)
  (t1 : TopF K "_law_bag" zfm) (t2 : TopF K "_law_odd" zfl) (t3 : TopF K "_law_take" zeh) (t4 : TopF K "_law_product" zcn) (t5 : TopF K "_law_sum" zfk) (t6 : TopF K "odd_ways" zfi) (t7 : TopF K "letter_lowered" zbt) (t8 : TopF K "product_lowered" zbq) (t9 : TopF K "is_whole" zfj) (t10 : TopF K "flip" ztw) (t11 : TopF K "lowered" zhi) (t12 : TopF K "degree_asked" zcl) (t13 : TopF K "is_sure" zhj) (t14 : TopF K "standing" zfh) (t15 : TopF K "rows_counted" zck) (t16 : TopF K "_law_refused" zcm) (t17 : TopF K "law" zwg) (w0 : TopF K "bounded" zqk) (w1 : TopF K "ones_counted" zhh) (w2 : TopF K "products_of_degree" zdl) (z0 : PySem.W.nsIn K mainGlobals "len" = some none) (z1 : PySem.W.nsIn K mainGlobals "abs" = some none) (z2 : PySem.W.nsIn K mainGlobals "min" = some none) (z3 : PySem.W.nsIn K mainGlobals "range" = some none) (z4 : PySem.W.nsIn K mainGlobals "sorted" = some none) (z5 : PySem.W.nsIn K mainGlobals "tuple" = some none) (z6 : PySem.W.nsIn K mainGlobals "max" = some none) (z7 : PySem.W.nsIn K mainGlobals "sum" = some none) (z8 : PySem.W.nsIn K mainGlobals "bool" = some none) (z9 : PySem.W.nsIn K mainGlobals "isinstance" = some none) (z10 : PySem.W.nsIn K mainGlobals "int" = some none) (z11 : PySem.W.nsIn K mainGlobals "ValueError" = some none)  (n_Full : PySem.W.nsIn K mainGlobals "Full" = some (some (.ref C_Full))) (n_NoDeed : PySem.W.nsIn K mainGlobals "NoDeed" = some (some (.ref C_NoDeed))) (n_NoExchange : PySem.W.nsIn K mainGlobals "NoExchange" = some (some (.ref C_NoExchange))) (n_NoLetters : PySem.W.nsIn K mainGlobals "NoLetters" = some (some (.ref C_NoLetters))) (n_NoLine : PySem.W.nsIn K mainGlobals "NoLine" = some (some (.ref C_NoLine))) (n_NoName : PySem.W.nsIn K mainGlobals "NoName" = some (some (.ref C_NoName))) (n_NoPaper : PySem.W.nsIn K mainGlobals "NoPaper" = some (some (.ref C_NoPaper))) (n_NoPart : PySem.W.nsIn K mainGlobals "NoPart" = some (some (.ref C_NoPart))) (n_NoProduct : PySem.W.nsIn K mainGlobals "NoProduct" = some (some (.ref C_NoProduct))) (n_NoRow : PySem.W.nsIn K mainGlobals "NoRow" = some (some (.ref C_NoRow))) (n_NoText : PySem.W.nsIn K mainGlobals "NoText" = some (some (.ref C_NoText))) (n_RaisedError : PySem.W.nsIn K mainGlobals "RaisedError" = some (some (.ref C_RaisedError))) (n_TooMany : PySem.W.nsIn K mainGlobals "TooMany" = some (some (.ref C_TooMany))) (n_Unlike : PySem.W.nsIn K mainGlobals "Unlike" = some (some (.ref C_Unlike))) (q_NoPart : PySem.W.excIn K C_NoPart bmV "ValueError.__new__" = true) (l_NoPart : ErrLook K C_NoPart) (e_NoPart_RaisedError : PySem.W.exmOne K (.ref C_NoPart) (.ref C_RaisedError) = some true) (i_NoPart_Full : PySem.W.kitOne K (.ref C_NoPart) (.ref C_Full) = some false) (i_NoPart_NoDeed : PySem.W.kitOne K (.ref C_NoPart) (.ref C_NoDeed) = some false) (i_NoPart_NoExchange : PySem.W.kitOne K (.ref C_NoPart) (.ref C_NoExchange) = some false) (i_NoPart_NoLetters : PySem.W.kitOne K (.ref C_NoPart) (.ref C_NoLetters) = some false) (i_NoPart_NoLine : PySem.W.kitOne K (.ref C_NoPart) (.ref C_NoLine) = some false) (i_NoPart_NoName : PySem.W.kitOne K (.ref C_NoPart) (.ref C_NoName) = some false) (i_NoPart_NoPaper : PySem.W.kitOne K (.ref C_NoPart) (.ref C_NoPaper) = some false) (i_NoPart_NoPart : PySem.W.kitOne K (.ref C_NoPart) (.ref C_NoPart) = some true) (i_NoPart_NoProduct : PySem.W.kitOne K (.ref C_NoPart) (.ref C_NoProduct) = some false) (i_NoPart_NoRow : PySem.W.kitOne K (.ref C_NoPart) (.ref C_NoRow) = some false) (i_NoPart_NoText : PySem.W.kitOne K (.ref C_NoPart) (.ref C_NoText) = some false) (i_NoPart_TooMany : PySem.W.kitOne K (.ref C_NoPart) (.ref C_TooMany) = some false) (i_NoPart_Unlike : PySem.W.kitOne K (.ref C_NoPart) (.ref C_Unlike) = some false) (i_NoPart_ValueError : PySem.W.kitOne K (.ref C_NoPart) (.type "ValueError") = some true) :
  ∃ (c T : Addr) (fd : FuncData), LawTab K ts c T /\ (∀ (s : Shared) (v : Value), BindsTo s fd ⟨[v], []⟩ [("_law_script", v)]) /\ ∀ base : Heap, K.In base -> base.Ns mainGlobals mg -> PySem.W.CodeHd base c T -> BmOk mg base -> FnOk l.prog w K mg base CX0 7 fa fd ["_law_script"] (spLawT K T) := by
 have h_bounded:=zjw w0 X G;have h_ones_counted:=zjw w1 X G;have h_products_of_degree:=zjw w2 X G;have x0:=xdf X G z0;have x1:=xdf X G z1;have x2:=xdf X G z2;have x3:=xdf X G z3;have x4:=xdf X G z4;have x5:=xdf X G z5;have x6:=xdf X G z6;have x7:=xdf X G z7;have x8:=xdf X G z8;have x9:=xdf X G z9;have x10:=xdf X G z10;have x11:=xdf X G z11;obtain ⟨f,fd,a,F⟩:=t17;have e:=hfa.symm.trans (xcq X G a);cases e;obtain ⟨oc,od,kV,doc,pm,an,cdv,ct,osl,rfl,lk,hcd⟩:=id F.ex;refine ⟨c, T, PySem.W.fnOf "law" "law" (defArgs zwg) (defBody zwg) (defScope zwg) .none kV doc pm an cdv ct, lt, fun s v => .of_eq rfl, fun base _ _ CT Bm => ?_⟩
 have k__law_bag:CalD l.prog w K mg base _ _ _ _:=zme t1 X G x0 x1 x2 x3
 have k__law_odd:CalD l.prog w K mg base _ _ _ _:=zmd t2 X G x4 x5
 have k__law_take:CalD l.prog w K mg base _ _ _ _:=zjr t3 X G 
 have k__law_product:CalD l.prog w K mg base _ _ _ _:=zge t4 X G x3 x5 k__law_take
 have k__law_sum:CalD l.prog w K mg base _ _ _ _:=zmc t5 X G x3 k__law_odd k__law_take k__law_product
 have k_odd_ways:CalD l.prog w K mg base _ _ _ _:=zma t6 X G 
 have k_letter_lowered:CalD l.prog w K mg base _ _ _ _:=zeq t7 X G x2 x6 x3 k_odd_ways
 have k_product_lowered:CalD l.prog w K mg base _ _ _ _:=zek t8 X G x7 k_letter_lowered
 have k_is_whole:CalD l.prog w K mg base _ _ _ _:=zmb t9 X G x8 x9 x10
 have k_flip:CalD l.prog w K mg base _ _ _ _:=zym t10 X G 
 have k_lowered : CalX l.prog w K mg base "lowered" 4 ["row", "k"] zbh := zns t11 X G x4 x5 n_NoPart q_NoPart k_is_whole k_product_lowered k_flip
 have k_degree_asked : CalX l.prog w K mg base "degree_asked" 2 ["d"] zk := zgc t12 X G n_NoPart q_NoPart k_is_whole
 have k_is_sure : CalX l.prog w K mg base "is_sure" 3 ["n", "d"] zee := znt t13 X G h_ones_counted k_degree_asked
 have k_standing : CalX l.prog w K mg base "standing" 3 ["n", "d"] zbf := zlz t14 X G h_bounded h_products_of_degree k_degree_asked
 have k_rows_counted : CalX l.prog w K mg base "rows_counted" 4 ["n", "d"] zbg := zgb t15 X G x0 k_standing
 have k__law_refused : CalT l.prog w K mg base "_law_refused" 4 zm := zgd t16 X G x9 x11 n_NoPart l_NoPart n_Unlike i_NoPart_Unlike n_TooMany i_NoPart_TooMany i_NoPart_NoPart n_NoText n_NoRow n_NoProduct n_NoPaper n_NoName n_NoLine n_NoLetters n_NoExchange n_NoDeed n_Full i_NoPart_NoText i_NoPart_NoRow i_NoPart_NoProduct i_NoPart_NoPaper i_NoPart_NoName i_NoPart_NoLine i_NoPart_NoLetters i_NoPart_NoExchange i_NoPart_NoDeed i_NoPart_Full i_NoPart_ValueError n_RaisedError e_NoPart_RaisedError
 exact zbdi F (PySem.W.law_code X G lt.tin hfa (X _ _ lk) rfl) CT lt.tin Bm x0 x2 x3 k__law_bag k__law_take k__law_sum k__law_refused k_lowered k_is_sure k_rows_counted k_standing
end K53
open PySem PySem.W PyProof.Rows
set_option maxRecDepth 100000 in
set_option maxHeartbeats 0 in
theorem PySem.Challenge.cw_raisedsums_k53_no_parts_and_no_degrees_holds : PySem.Challenge.rw_raisedsums_k53_no_parts_and_no_degrees.Holds := by
  w_on; o_law; k_head; (case hw => w_witness2)
  k_fill
  refine L2.ztp (l := PySem.Challenge.rw_raisedsums_k53_no_parts_and_no_degrees) (n := 63) (k := 7) (x := "_law_script") (sp := Dd.spLawT) rfl (by decide) rfl ⟨rfl, by decide, by decide⟩ (fun w h Y => PySem.W.km_in_of Y) (fun w h Y => PySem.W.km_tabs_of Y) ?F (fun _ c _ _ a ns ht hl hT hS => ⟨a, ns, rfl, hS, hl, hT, ⟨c, ht⟩, fun _ => rfl⟩)
  case F =>
    intro w mg fa h KX G hmg
    refine' K53.all_mk KX G hmg ?lt ?t1 ?t2 ?t3 ?t4 ?t5 ?t6 ?t7 ?t8 ?t9 ?t10 ?t11 ?t12 ?t13 ?t14 ?t15 ?t16 ?t17 ?w0 ?w1 ?w2 ?z0 ?z1 ?z2 ?z3 ?z4 ?z5 ?z6 ?z7 ?z8 ?z9 ?z10 ?z11  ?n_Full ?n_NoDeed ?n_NoExchange ?n_NoLetters ?n_NoLine ?n_NoName ?n_NoPaper ?n_NoPart ?n_NoProduct ?n_NoRow ?n_NoText ?n_RaisedError ?n_TooMany ?n_Unlike ?q_NoPart ?l_NoPart ?e_NoPart_RaisedError ?i_NoPart_Full ?i_NoPart_NoDeed ?i_NoPart_NoExchange ?i_NoPart_NoLetters ?i_NoPart_NoLine ?i_NoPart_NoName ?i_NoPart_NoPaper ?i_NoPart_NoPart ?i_NoPart_NoProduct ?i_NoPart_NoRow ?i_NoPart_NoText ?i_NoPart_TooMany ?i_NoPart_Unlike ?i_NoPart_ValueError
    (case lt => refine' (L2.zri ?lta ?ltl ?ltc ?ltk ?ltv ?ltd ?ltm ?lto).1; (case lta => k_is); (case ltl => k_is); (case ltc => exact rfl); (case ltk => k_is); (case ltv => exact rfl); (case ltd => kernel_rfl); (case ltm => first | k_mem | decide); (case lto => kernel_rfl))
    all_goals first|k_is|kernel_rfl|(refine' L2.zcb ?a ?l ?c ?k;(case a=>k_is);(case l=>k_is);(case c=>k_is);(case k=>k_is))|(apply L2.ErrLook.mk<;>first|k_is|kernel_rfl)|skip
#print axioms PySem.Challenge.cw_raisedsums_k53_no_parts_and_no_degrees_holds
